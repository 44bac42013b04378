import PyProof.Rows.All
import Wide.All
import OpenK.AllK
import Wide.FinOn
import Lean
import PyProof.EqAt
import PyProof.EqKinds
import PyProof.TupleCall
import PySem.Challenge.RW_framerooms_k36_programs_told
set_option Elab.async false
set_option linter.all false
set_option maxRecDepth 100000
set_option maxHeartbeats 4000000
abbrev ah:=@PySem.wpAny_bind
abbrev aC:=@PySem.wpAny_pure
abbrev a8:=@PySem.Heap.get?_push_of_some
abbrev aQ:=@PySem.Heap.lt_size
abbrev aK:=@List.length_map
abbrev aG:=@Nat.le_refl
abbrev ba:=@List.length_append
abbrev bJ:=@List.mem_of_getElem?
abbrev ay:=@if_neg
abbrev aW:=@List.length_cons
abbrev aS:=@decide_eq_true
abbrev aU:=@List.mem_cons
abbrev cg:=@PySem.Heap.get?_push_size
abbrev cy:=@List.getD_eq_getElem?_getD
abbrev bh:=@List.size_toArray
abbrev bj:=@List.getElem?_map
abbrev aR:=@Nat.le_trans
abbrev br:=@decide_eq_false
abbrev aA:=@if_pos
abbrev dq:=@List.getElem?_eq_some_iff
abbrev bQ:=@of_decide_eq_true
abbrev cf:=@Nat.lt_of_lt_of_le
abbrev dP:=@List.getElem?_append_left
abbrev cc:=@PySem.wpAny_field
abbrev cx:=@Bool.false_ne_true
abbrev fL:=@PySem.Heap.get?_update_other
abbrev eO:=@PySem.F.plainAttrs_list
abbrev b7:=@Nat.lt_irrefl
abbrev cP:=@List.not_mem_nil
abbrev bN:=@Nat.ne_of_lt
abbrev bO:=@Nat.le_of_lt
abbrev gM:=@List.getElem?_append_right
abbrev gm:=@PySem.wpAny_newObj_type
abbrev c_:=@List.all_eq_true
abbrev ff:=@List.mem_cons_of_mem
abbrev di:=@Option.some.inj
abbrev gE:=@PySem.wpAny_loadPart_at
abbrev e_:=@List.mem_cons_self
abbrev jk:=@PySem.Heap.get?_update_self
abbrev eA:=@PySem.wpAny_mono
abbrev dO:=@List.append_nil
abbrev gN:=@List.length_replicate
abbrev gp:=@Nat.lt_of_le_of_lt
abbrev dw:=@List.map_cons
abbrev eK:=@List.mem_append
abbrev nj:=@PyProof.Rows.slot_tuple_getitem
abbrev cN:=@Nat.zero_le
abbrev fK:=@List.take_length
abbrev gZ:=@PySem.wpAny_holding
abbrev ni:=@PySem.wpAny_callSpecial?_slot
abbrev fJ:=@List.map_append
abbrev hV:=@List.mem_singleton
abbrev mf:=@PySem.wpAny_isSubtype_exc
abbrev kQ:=@PySem.wpAny_call_entry
abbrev jr:=@PySem.Heap.size_push
abbrev lR:=@PySem.wpAny_Call_Name_kw
abbrev gG:=@List.length_take
abbrev gL:=@Bool.and_eq_true
abbrev bK:=@Ne.symm
abbrev jT:=@List.mem_append_right
abbrev ji:=@List.filter_eq_self
abbrev iu:=@List.lookup_cons
abbrev n_:=@PySem.Obj.data_mapFields
abbrev fh:=@List.mem_map
abbrev l0:=@List.getElem?_eq_none
abbrev g8:=@Nat.not_lt_zero
abbrev nr:=@PySem.wpAny_truthy_bool
abbrev jl:=@Int.toNat_natCast
abbrev sk:=@List.eq_nil_of_length_eq_zero
abbrev cO:=@or_false
abbrev iA:=@List.mem_range
abbrev mh:=@List.filterMap_cons
abbrev sW:=@Array.getElem?_eq_some_iff
abbrev jh:=@List.length_nil
abbrev nB:=@PySem.wpAny_setField
abbrev nS:=@PySem.wpAny_seqItems
abbrev lV:=@List.length_range
abbrev zC:=@PySem.F.slot_dict_keyiterator_next
abbrev p5:=@List.take_append_drop
abbrev hU:=@Nat.ne_of_gt
abbrev sD:=@PySem.Calls.spliced_cons
abbrev kS:=@PySem.W.kia_one
abbrev nt:=@List.contains_cons
abbrev si:=@List.getElem?_replicate
abbrev iL:=@List.map_map
abbrev sH:=@List.take_of_length_le
abbrev pM:=@PySem.wpAny_standAt
abbrev lW:=@List.mem_filter
abbrev me:=@Bool.eq_iff_iff
abbrev sV:=@List.length_filter_le
abbrev pN:=@PySem.codeAny_mono
abbrev o6:=@PySem.W.callWith_K
abbrev vP:=@PySem.wpAny_setField_rec
abbrev tm:=@List.mem_append_left
abbrev Dw:=@PySem.wpAny_typeNameOfWhole_keyiter
abbrev Aq:=@PyProof.Rows.callWith_type1
abbrev z8:=@PySem.Obj.isFreed_of_fields
abbrev Ac:=@PySem.F.excBase_ValueError
abbrev pP:=@PySem.wpAny_call
abbrev yJ:=@PySem.F.slot_tuple_iterator_next
abbrev lL:=@Nat.le_add_right
abbrev qE:=@PySem.W.methodCall_KW
abbrev nO:=@Bool.false_eq_true
abbrev nF:=@decide_eq_true_iff
abbrev ue:=@Array.getElem?_eq_getElem
abbrev yf:=@PySem.wpAny_typeNameOf_keyiter
abbrev tX:=@PySem.wpAny_pyIter_list
abbrev tU:=@PySem.Calls.spliced_nil
abbrev qL:=@beq_eq_false_iff_ne
abbrev ql:=@List.getElem?_range
abbrev qj:=@List.filter_append
abbrev qo:=@Int.emod_lt_of_pos
abbrev uM:=@PySem.wpAny_execs_nil
abbrev vy:=@PySem.wpAny_passesOwn
abbrev t_:=@PySem.F.slot_zip_next
abbrev nJ:=@Int.emod_nonneg
abbrev qC:=@PySem.W.piece_app
abbrev qv:=@PySem.sizeLine_eq
abbrev qD:=@List.take_add_one
abbrev tW:=@PySem.repr_of_reads'
abbrev yI:=@PySem.Heap.SameBut.update
abbrev yz:=@PySem.F.plain_extend_loop
abbrev nU:=@Option.none_or
abbrev qH:=@PySem.wpAny_rule
abbrev yU:=@PySem.wpAny_pyIter_tuple
abbrev yB:=@PySem.F.slot_list_extend
abbrev yM:=@List.getElem?_eq_getElem
abbrev tZ:=@Array.length_toList
abbrev ur:=@Nat.add_le_add_left
abbrev uu:=@PySem.wpAny_attempt
abbrev vn:=@List.mem_filterMap
abbrev vb:=@PySem.wpAny_typeOf
abbrev qy:=@List.find?_cons
abbrev qu:=@List.nil_append
abbrev qr:=@Int.natCast_add
abbrev lJ:=@Nat.le_succ
abbrev yh:=@List.filter_eq_nil_iff
abbrev qi:=@List.drop_drop
abbrev n5:=@Nat.le_of_eq
abbrev Dv:=@PySem.Calls.callWith_builtin
abbrev nV:=@List.map_nil
abbrev yl:=@List.mem_iff_getElem?
abbrev nh:=@Bool.or_true
abbrev yd:=@PySem.wpAny_updateSeq
abbrev CI:=@PySem.wpAny_isOneOf_keyiter
abbrev yg:=@List.getElem?_set_ne
abbrev iX:=@if_false
abbrev tS:=@List.length_drop
abbrev yv:=@PySem.wpAny_fieldsOf
abbrev DW:=@PySem.codeAny_call_builtin
abbrev yF:=@PySem.wpAny_onRaise
abbrev yT:=@Int.toNat_of_nonneg
abbrev tN:=@List.nodup_cons
abbrev tK:=@List.forIn_cons
abbrev Di:=@List.getElem?_eq_none_iff
abbrev DB:=@List.lookup_eq_some_iff
abbrev yn:=@List.ext_getElem?
abbrev yC:=@List.foldl_append
abbrev DK:=@List.getElem?_set_self
abbrev Dh:=@Array.getElem?_eq_none
abbrev CD:=@Option.map_eq_some_iff
abbrev vk:=@List.any_cons
abbrev tO:=@List.sum_cons
abbrev yP:=@Nat.lt_succ_self
abbrev yq:=@Nat.le_max_right
abbrev yj:=@List.any_eq_true
abbrev DM:=@List.length_singleton
abbrev C4:=@List.findSome?_append
abbrev qA:=@beq_iff_eq
abbrev yH:=@List.of_mem_zip
abbrev IW:=@PyProof.Rows.callWith_builtin1
abbrev va:=@Nat.succ.inj
abbrev yS:=@Nat.le_max_left
abbrev yD:=@Int.natCast_mul
abbrev C_:=@List.map_congr_left
abbrev DG:=@List.toList_toArray
abbrev yu:=@List.forIn_nil
abbrev DH:=@Int.natAbs_natCast
abbrev yk:=@Nat.lt_trans
abbrev Dq:=@List.getElem_mem
abbrev yi:=@List.all_map
abbrev CA:=@List.cons_append
abbrev yr:=@List.any_map
abbrev Cz:=@List.length_set
abbrev Dc:=@List.range_succ
open PySem.W (CodeHd Frag bind_fn binds_K callWith_K cellsFrom_some clsIn emptyDict envX findCls findObj_own handedIn instObj kia_one kia_tup kitOne kitx_dict kitx_list kitx_tuple kla_eval kla_fn lookIn looks_findIn makesIn methodCall_KW methodObj notCls plainGet plainGet_of plainOver set_plain tabObj takerIn)
open PySem.F (args_dict_get_3 args_tuple_add_2 entry_dict_get entry_extend_loop entry_tuple_add excBase_ValueError plainAttrs_list plain_extend_loop slot_dict_get slot_list_clear slot_list_extend slot_tuple_add type_list_clear type_list_extend)
open PySem in
noncomputable abbrev aJ:=List (Addr×Obj)
open PySem in
noncomputable abbrev aD:=List Value
open PySem in
noncomputable abbrev aI:=Option Value
open PySem in
noncomputable abbrev ao:=List Str
open PySem in
noncomputable abbrev bP:=List Addr
open PySem in
noncomputable abbrev cu:=List Expr
namespace L2
open PySem PySem.Spec PyProof.Rows
def wf(s:Stmt)(j:Nat):Stmt:=match s with
 | .ClassDef _ _ _ body _ _ _ _ _ _ _=>body.getD j (.Pass ⟨0,0,0,0⟩)
 |_=> .Pass ⟨0,0,0,0⟩
noncomputable def gB(s:Stmt):Arguments:=match s with
 | .FunctionDef _ a _ _ _ _ _ _ _ _=>a
 |_=>{posonlyargs:=[],args:=[],vararg:=none,kwonlyargs:=[],kw_defaults:=[],kwarg:=none,defaults:=[]}
noncomputable def cR(s:Stmt):List Stmt:=match s with
 | .FunctionDef _ _ b _ _ _ _ _ _ _=>b
 |_=>[]
noncomputable def aq(s:Stmt):Scope:=match s with
 | .FunctionDef _ _ _ _ _ _ sc _ _ _=>sc
 |_=>{kind:= .function,names:=[],isGenerator:=false,isCoroutine:=false}
end L2
namespace My
open PySem L2 PyProof.Rows
def jp(i:Nat):Stmt:=PySem.Challenge.pw_framerooms_k36_programs_told.main.body.getD i (.Pass ⟨0,0,0,0⟩)
abbrev i9:Stmt:=(wf (jp 1) 0)
abbrev kN:Stmt:=(wf (jp 2) 0)
abbrev tJ:Stmt:=(wf (jp 3) 0)
abbrev kr:Stmt:=(wf (jp 4) 0)
abbrev jU:Stmt:=(wf (jp 5) 0)
abbrev jZ:Stmt:=(wf (jp 6) 0)
abbrev mM:Stmt:=(wf (jp 7) 0)
abbrev j9:Stmt:=(wf (jp 8) 0)
abbrev jz:Stmt:=(wf (jp 9) 0)
abbrev uB:Stmt:=(wf (jp 10) 0)
abbrev wZ:Stmt:=(jp 14)
abbrev Ak:Stmt:=(jp 15)
abbrev Ca:Stmt:=(jp 16)
abbrev Cp:Stmt:=(jp 21)
abbrev ME:Stmt:=(jp 22)
abbrev AM:Stmt:=(jp 23)
abbrev xl:Stmt:=(jp 24)
abbrev Ab:Stmt:=(jp 25)
abbrev y0:Stmt:=(jp 26)
abbrev xh:Stmt:=(jp 27)
abbrev Bz:Stmt:=(jp 28)
abbrev Am:Stmt:=(jp 29)
abbrev xq:Stmt:=(jp 30)
abbrev rG:Stmt:=(jp 31)
abbrev BJ:Stmt:=(jp 32)
abbrev xp:Stmt:=(jp 33)
abbrev uQ:Stmt:=(jp 34)
abbrev tV:Stmt:=(jp 35)
abbrev xw:Stmt:=(jp 36)
abbrev eG:Stmt:=(wf (jp 42) 0)
abbrev pj:Stmt:=(wf (jp 42) 1)
abbrev oE:Stmt:=(wf (jp 42) 2)
abbrev jj:Stmt:=(wf (jp 42) 3)
abbrev kZ:Stmt:=(wf (jp 42) 4)
abbrev mX:Stmt:=(wf (jp 42) 5)
abbrev mN:Stmt:=(wf (jp 42) 6)
abbrev lG:Stmt:=(wf (jp 42) 7)
abbrev wJ:Stmt:=(jp 43)
abbrev rK:Stmt:=(jp 44)
abbrev xD:Stmt:=(jp 45)
abbrev xm:Stmt:=(jp 47)
abbrev AF:Stmt:=(jp 48)
abbrev wY:Stmt:=(jp 49)
abbrev uw:Stmt:=(jp 50)
abbrev rS:Stmt:=(jp 51)
abbrev pf:Stmt:=(jp 52)
abbrev tR:Stmt:=(jp 53)
abbrev lT:Stmt:=(jp 54)
abbrev u_:Stmt:=(jp 55)
abbrev rQ:Stmt:=(jp 56)
abbrev w_:Stmt:=(jp 57)
abbrev kO:Stmt:=(jp 58)
abbrev xF:Stmt:=(jp 59)
abbrev tI:Stmt:=(jp 60)
abbrev rJ:Stmt:=(jp 61)
abbrev jq:Stmt:=(jp 62)
abbrev m7:Stmt:=(jp 63)
abbrev nK:Stmt:=(jp 64)
abbrev g7:Stmt:=(jp 65)
abbrev m4:Stmt:=(jp 66)
abbrev QD:Stmt:=(jp 67)
section hd
open PySem PySem.W PySem.Calls PyProof.Rows
noncomputable section
noncomputable abbrev bp(x:String)(n:Nat):Value:=Value.str (Str.ofString x) n
noncomputable abbrev iQ(l:Array Value):Obj:={cls:=Value.type "tuple",data:=Data.seq l}
noncomputable abbrev Sf(l:Array Value):Obj:={cls:=Value.none,data:=Data.fields l}
noncomputable abbrev hdO(l:Array Value):Obj:={cls:=Value.type "code",data:=Data.fields l}
noncomputable abbrev hdK(a b:String)(n l r u:Nat):Obj:=hdO #[bp a n,bp b (n+1),bp "/claim/cut.py" (n+2),.int l 0,.int 0 0,.int 0 0,.int 0 0,.int 0 0,.ref r,.bool false,.int 181 0,.ref (r+1),.none,.none,.none,.none,.int u 0,.int l 0,bp "/claim/cut.py" (u+1)]
noncomputable abbrev DZ(a b:String)(n l p r u:Nat):Obj:=hdO #[bp a n,bp b (n+1),bp "/claim/cut.py" (n+2),.int l 0,.int p 0,.int 0 0,.int 0 0,.int 3 0,.ref r,.bool true,.int 181 0,.ref (r+1),.none,.ref (r+2),.ref (r+3),.ref (r+4),.int u 0,.int l 0,bp "/claim/cut.py" (u+1)]
noncomputable abbrev hdF(n q:String)(s:Stmt)(m:String)(k:Nat)(c:Addr):Obj:={cls:=Value.type "function",data:=Data.func {name:=Str.ofString n,qualname:=Str.ofString q,params:=L2.gB s,body:= .stmts (L2.cR s),scope:=L2.aq s,globals:=3,closure:=[],defaults:=Value.none,kwdefaults:=Value.none,pyModule:=bp m k,code:=Value.ref c}}
noncomputable abbrev hdG(n q:String)(s:Stmt):Obj:={cls:=Value.none,data:=Data.func {name:=Str.ofString n,qualname:=Str.ofString q,params:=L2.gB s,body:= .stmts (L2.cR s),scope:=L2.aq s,globals:=0,closure:=[],defaults:=Value.none,kwdefaults:=Value.none}}
variable(P:Params)
noncomputable abbrev kT(P:Params)(x:String)(n:Nat)(v:Value):DictEntry:={hash:=PyData.keyHash P (Str.ofString x),key:=Value.str (Str.ofString x) n,val:=v}
noncomputable def Wm(c:Nat):List (Nat×Nat)→aD|[]=>[]|(a,r)::l=> .int a 0:: .int c 0:: .ref r::Wm c l
noncomputable abbrev Mq:List (Nat×Nat):=[(2,20),(6,40),(11,59),(16,78),(21,97)]
noncomputable abbrev ID:List (Nat×Nat):=Mq++[(26,116),(31,135),(36,154),(41,173),(46,192)]
noncomputable abbrev Ey:List (Nat×Nat):=ID++[(54,211),(56,218),(58,223)]
noncomputable abbrev Bq:List (Nat×Nat):=Ey++[(66,245),(72,252),(86,259),(88,264),(90,269),(92,276),(94,283),(102,290),(108,297),(114,305),(121,312),(131,319),(139,324),(141,329),(148,334),(150,339)]
noncomputable abbrev FO:List (Nat×Nat):=Bq++[(164,346),(200,414),(207,421),(213,428),(221,435),(225,442),(227,449),(236,454),(250,461),(261,466),(280,471),(287,478),(289,483),(295,490),(303,495),(319,502),(338,509),(361,514),(367,521),(373,528),(381,535),(390,540),(410,547),(412,554),(417,559)]
noncomputable abbrev dk(P:Params)(x:String)(n:Nat)(a:Addr):DictEntry:=kT P x n (.ref a)
noncomputable abbrev EH(l:List DictEntry)(n:Nat):Obj:={cls:= .type "dict",data:=Data.dict ⟨l⟩ n}
noncomputable def Ju(t:List DictEntry):List DictEntry:=kT P "__doc__" 166 (.none)::kT P "__package__" 167 (.none)::kT P "__loader__" 168 (.builtin ("__main__.__loader__#opa" ++ "que"))::kT P "__spec__" 169 (.none)::dk P "__annotations__" 170 6::dk P "__builtins__" 171 4::kT P "__file__" 173 (bp "/claim/cut.py" 172)::kT P "__cached__" 174 (.none)::dk P "RoomError" 214 31::dk P "TooMany" 239 51::dk P "NoDeed" 264 70::dk P "TooDeep" 289 89::dk P "TooWide" 314 108::t
noncomputable def Fp(t:List DictEntry):List DictEntry:=dk P "TooLong" 339 127::dk P "Twice" 364 146::dk P "NoLabel" 389 165::dk P "NoMaking" 414 184::dk P "NoText" 439 203::t
noncomputable def HY(t:List DictEntry):List DictEntry:=kT P "LETTERS" 443 (bp "abcdefghijklmnopqrstuvwxyz" 442)::kT P "MOST_LETTERS" 445 (.int 6 444)::dk P "is_number" 452 212::dk P "is_whole" 461 219::dk P "is_name" 467 224::kT P "OUTERMOST" 471 (bp "ground" 470)::t
noncomputable def Tq(t:List DictEntry):List DictEntry:=dk P "is_deed" 544 246::dk P "fits" 552 253::dk P "parts_of" 559 260::dk P "bodies_of" 565 265::dk P "names_of" 571 270::dk P "is_block" 578 277::dk P "want_body" 587 284::dk P "many_in" 597 291::dk P "depth_of" 607 298::dk P "rewritten" 620 306::dk P "with_bodies" 633 313::dk P "listing" 645 320::dk P "widest_of" 651 325::dk P "choices_of" 657 330::dk P "longest_of" 663 335::dk P "length_of" 669 340::kT P "MOST_DEEDS" 673 (.int 40 672)::kT P "MOST_DEPTH" 675 (.int 6 674)::kT P "MOST_CHOICES" 677 (.int 4 676)::kT P "MOST_STEPS" 679 (.int 100 678)::t
noncomputable abbrev x_(x0:String)(x1:Nat)(x2:Nat)(x3:Nat):Obj:=hdK x0 x0 x1 x2 x3 (x1+3)
noncomputable abbrev xU(x0:Nat)(x1:Nat)(x2:String)(x3:Nat):Obj:={cls:= .type "frame",slots:= #[some (.ref x0),some (.ref 3),some (.ref x1),none,some (bp x2 x3),none,some (.ref 0)]}
noncomputable abbrev Bk(x0:Nat)(x1:String)(x2:Nat)(x3:Nat)(x4:Nat):Obj:={cls:= .type "dict",data:=Data.dict #[kT P "__module__" x0 (bp "framerooms.errors" 187),kT P "__qualname__" (x0+2) (bp x1 (x0+1)),kT P "__firstlineno__" (x0+4) (.int x2 (x0+3)),kT P "__init__" (x0+12) (.ref x3),kT P "__static_attributes__" x4 (.ref (x3+1))] 5}
noncomputable abbrev Ba(x0:Nat)(x1:Nat):Obj:=Sf #[.int x0 0,.int 4 0,.ref x1]
noncomputable abbrev pD(x0:String)(x1:Nat)(x2:String):Obj:=iQ #[bp x0 x1,bp x2 (x1+1)]
noncomputable abbrev oJ(x0:String)(x1:String)(x2:Nat)(x3:Nat):Obj:=hdG x0 x1 (wf (jp x2) x3)
noncomputable abbrev oM(x0:String)(x1:String)(x2:Nat)(x3:Nat)(x4:String)(x5:Nat)(x6:Nat):Obj:=hdF x0 x1 (wf (jp x2) x3) x4 x5 x6
noncomputable abbrev z9(x0:Nat):Obj:={cls:= .type "super",data:=Data.fields #[.ref x0,.ref x0,.ref x0]}
noncomputable abbrev Av(x0:Nat):Obj:={cls:= .type "builtin_function_or_method",data:=Data.fields #[.builtin "object.__init_subclass__",.ref x0]}
noncomputable abbrev mj(x0:String)(x1:Nat):Obj:=iQ #[bp x0 x1]
noncomputable abbrev ux(x0:Nat)(x1:Nat)(x2:Nat):Obj:={cls:= .type "dict",data:=Data.dict #[kT P "__module__" x0 (bp "framerooms.errors" 187),kT P "__firstlineno__" (x0+4) (.int x1 (x0+3)),kT P "__init__" (x0+12) (.ref x2),kT P "__static_attributes__" (x0+14) (.ref (x2+1)),kT P "__doc__" (x0+15) (.none)] 2}
noncomputable abbrev vA(x0:String)(x1:Nat)(x2:Nat):Obj:={cls:= .type "type",data:=Data.cls {name:=Str.ofString x0,bases:=[.ref 31],mro:=[.ref (x1+16),.ref 31,.type "ValueError",.type "Exception",.type "BaseException",.type "object"],ns:=(x1+15),qualname:=Str.ofString x0},slots:= #[some (.ref x1),none,some (bp x0 x2),some (bp x0 (x2+8)),some (.builtin "ValueError.__new__"),some (.bool true)]}
noncomputable abbrev bR(x0:String)(x1:Nat):Obj:=hdG x0 x0 (jp x1)
noncomputable abbrev dY(x0:String)(x1:Nat)(x2:Nat)(x3:Nat)(x4:Nat)(x5:Nat):Obj:=DZ x0 x0 x1 x2 x3 x4 x5
noncomputable abbrev bV(x0:String)(x1:Nat)(x2:String)(x3:Nat)(x4:Nat):Obj:=hdF x0 x0 (jp x1) x2 x3 x4
noncomputable abbrev jx(x0:String)(x1:Nat)(x2:Nat)(x3:Nat)(x4:Nat):Obj:=hdO #[bp x0 x1,bp x0 (x1+1),bp "/claim/cut.py" (x1+2),.int x2 0,.int x3 0,.int 0 0,.int 0 0,.int 3 0,.ref x4,.bool true,.int 181 0,.ref (x4+1),.none,.none,.none,.ref (x4+2),.int (x1+3) 0,.int x2 0,bp "/claim/cut.py" (x1+4)]
noncomputable abbrev aT:=iQ #[]
noncomputable abbrev bT:=Sf #[]
noncomputable abbrev Hl:=x_ "<module>" 182 1 11
noncomputable abbrev FN:=xU 13 3 "__main__" 164
noncomputable abbrev zA:Obj:={cls:= .type "builtin_function_or_method",data:=Data.fields #[.builtin "type.__prepare__",.type "type"]}
noncomputable abbrev Xz:=DZ "__init__" "RoomError.__init__" 201 4 2 22 206
noncomputable abbrev YY:=oM "__init__" "RoomError.__init__" 1 0 "framerooms.errors" 187 27
noncomputable abbrev aah:Obj:={cls:= .type "dict",data:=Data.dict #[kT P "__module__" 196 (bp "framerooms.errors" 187),kT P "__firstlineno__" 200 (.int 2 199),kT P "__init__" 208 (.ref 28),kT P "__static_attributes__" 209 (.ref 29),kT P "__weakref__" 211 (.ref 32),kT P "__doc__" 212 (.none)] 3}
noncomputable abbrev C3:=iQ #[.ref 31]
noncomputable abbrev ZS:=DZ "__init__" "TooMany.__init__" 227 8 2 42 232
noncomputable abbrev XS:=oM "__init__" "TooMany.__init__" 2 0 "framerooms.errors" 187 47
noncomputable abbrev Zf:=ux P 222 6 48
noncomputable abbrev X8:=vA "TooMany" 35 215
noncomputable abbrev aaE:=DZ "__init__" "NoDeed.__init__" 252 13 2 61 257
noncomputable abbrev YZ:=oM "__init__" "NoDeed.__init__" 3 0 "framerooms.errors" 187 66
noncomputable abbrev XM:=ux P 247 11 67
noncomputable abbrev XA:=vA "NoDeed" 54 240
noncomputable abbrev Zd:=DZ "__init__" "TooDeep.__init__" 277 18 2 80 282
noncomputable abbrev aar:=oM "__init__" "TooDeep.__init__" 4 0 "framerooms.errors" 187 85
noncomputable abbrev aab:=ux P 272 16 86
noncomputable abbrev YE:=vA "TooDeep" 73 265
noncomputable abbrev RI:=DZ "__init__" "TooWide.__init__" 302 23 2 99 307
noncomputable abbrev Th:=oM "__init__" "TooWide.__init__" 5 0 "framerooms.errors" 187 104
noncomputable abbrev T5:=ux P 297 21 105
noncomputable abbrev Rm:=vA "TooWide" 92 290
noncomputable abbrev Bl:Obj:={cls:= .type "type",data:=Data.cls {name:=Str.ofString "RoomError",bases:=[.type "ValueError"],mro:=[.ref 31,.type "ValueError",.type "Exception",.type "BaseException",.type "object"],ns:=30,qualname:=Str.ofString "RoomError",subclasses:=[.ref 51,.ref 70,.ref 89,.ref 108,.ref 127,.ref 146,.ref 165,.ref 184,.ref 203]},slots:= #[some (.ref 15),none,some (bp "RoomError" 189),some (bp "RoomError" 197),some (.builtin "ValueError.__new__"),some (.bool true)]}
noncomputable abbrev Sk:=DZ "__init__" "TooLong.__init__" 327 28 2 118 332
noncomputable abbrev TJ:=oM "__init__" "TooLong.__init__" 6 0 "framerooms.errors" 187 123
noncomputable abbrev Ru:=ux P 322 26 124
noncomputable abbrev RE:=vA "TooLong" 111 315
noncomputable abbrev Tb:=DZ "__init__" "Twice.__init__" 352 33 2 137 357
noncomputable abbrev SM:=oM "__init__" "Twice.__init__" 7 0 "framerooms.errors" 187 142
noncomputable abbrev RC:=ux P 347 31 143
noncomputable abbrev SU:=vA "Twice" 130 340
noncomputable abbrev Qz:=DZ "__init__" "NoLabel.__init__" 377 38 2 156 382
noncomputable abbrev RU:=oM "__init__" "NoLabel.__init__" 8 0 "framerooms.errors" 187 161
noncomputable abbrev Sx:=ux P 372 36 162
noncomputable abbrev SI:=vA "NoLabel" 149 365
noncomputable abbrev QF:=DZ "__init__" "NoMaking.__init__" 402 43 2 175 407
noncomputable abbrev QX:=oM "__init__" "NoMaking.__init__" 9 0 "framerooms.errors" 187 180
noncomputable abbrev Tz:=ux P 397 41 181
noncomputable abbrev Sd:=vA "NoMaking" 168 390
noncomputable abbrev Rj:=DZ "__init__" "NoText.__init__" 427 48 2 194 432
noncomputable abbrev RG:=oM "__init__" "NoText.__init__" 10 0 "framerooms.errors" 187 199
noncomputable abbrev Tc:=ux P 422 46 200
noncomputable abbrev Uh:=vA "NoText" 187 415
noncomputable abbrev IM:=Sf ⟨Wm 0 Ey⟩
noncomputable abbrev RJ:=dY "is_number" 446 54 1 206 450
noncomputable abbrev QC:=bV "is_number" 14 "framerooms.words" 440 211
noncomputable abbrev RP:=dY "is_whole" 453 56 3 213 459
noncomputable abbrev Q8:=bV "is_whole" 15 "framerooms.words" 440 218
noncomputable abbrev SD:=jx "is_name" 462 58 1 220
noncomputable abbrev R9:=bV "is_name" 16 "framerooms.words" 440 223
noncomputable abbrev Tg:=EH [dk P "make" 472 226,dk P "put" 476 227,dk P "get" 480 228,dk P "set" 484 229,dk P "copy" 487 230,dk P "more" 490 231,dk P "tell" 494 232,dk P "same" 496 233,dk P "frame" 499 234,dk P "turns" 502 235,dk P "either" 507 236] 11
noncomputable abbrev Rt:=iQ #[bp "name" 473,bp "size" 474,bp "mark" 475]
noncomputable abbrev RB:=iQ #[bp "name" 477,bp "cell" 478,bp "name" 479]
noncomputable abbrev R7:=iQ #[bp "name" 481,bp "name" 482,bp "cell" 483]
noncomputable abbrev RQ:=pD "name" 485 "value"
noncomputable abbrev Su:=iQ #[bp "name" 488,bp "name" 489]
noncomputable abbrev QU:=iQ #[bp "name" 491,bp "name" 492,bp "number" 493]
noncomputable abbrev SA:=mj "name" 495
noncomputable abbrev QO:=iQ #[bp "name" 497,bp "name" 498]
noncomputable abbrev Ri:=pD "label" 500 "body"
noncomputable abbrev Rq:=iQ #[bp "label" 503,bp "many" 504,bp "times" 505,bp "body" 506]
noncomputable abbrev Ue:=iQ #[bp "body" 508,bp "body" 509]
noncomputable abbrev SK:Obj:={cls:= .type "dict",data:=Data.dict #[kT P "size" 522 (.ref 238),kT P "cell" 525 (.ref 239),kT P "many" 528 (.ref 240),kT P "times" 531 (.ref 241)] 4}
noncomputable abbrev S9:=iQ #[.int 1 523,.int 6 524]
noncomputable abbrev RH:=iQ #[.int 0 526,.int 5 527]
noncomputable abbrev Q4:=iQ #[.int 1 529,.int 3 530]
noncomputable abbrev Tt:=iQ #[.int 0 532,.int 4 533]
noncomputable abbrev QG:=jx "is_deed" 539 66 1 242
noncomputable abbrev Rr:=bV "is_deed" 21 "framerooms.deeds" 468 245
noncomputable abbrev SQ:=dY "fits" 545 72 2 247 550
noncomputable abbrev Ro:=bV "fits" 22 "framerooms.deeds" 468 252
noncomputable abbrev TZ:=dY "parts_of" 553 86 1 254 557
noncomputable abbrev Sq:=bV "parts_of" 23 "framerooms.deeds" 468 259
noncomputable abbrev TC:=jx "bodies_of" 560 88 1 261
noncomputable abbrev Sm:=bV "bodies_of" 24 "framerooms.deeds" 468 264
noncomputable abbrev Se:=jx "names_of" 566 90 1 266
noncomputable abbrev RV:=bV "names_of" 25 "framerooms.deeds" 468 269
noncomputable abbrev Qx:=dY "is_block" 572 92 1 271 576
noncomputable abbrev QB:=bV "is_block" 26 "framerooms.deeds" 468 276
noncomputable abbrev Rc:=dY "want_body" 579 94 1 278 585
noncomputable abbrev SX:=bV "want_body" 27 "framerooms.deeds" 468 283
noncomputable abbrev Q3:=dY "many_in" 588 102 1 285 595
noncomputable abbrev QW:=bV "many_in" 28 "framerooms.deeds" 468 290
noncomputable abbrev Uj:=dY "depth_of" 598 108 1 292 605
noncomputable abbrev Tn:=bV "depth_of" 29 "framerooms.deeds" 468 297
noncomputable abbrev NA:=iQ #[.int 0 608]
noncomputable abbrev RY:=dY "rewritten" 609 114 3 300 618
noncomputable abbrev Eh:Obj:={cls:= .type "function",data:=Data.func {name:=Str.ofString "rewritten",qualname:=Str.ofString "rewritten",params:=L2.gB (jp 30),body:= .stmts (L2.cR (jp 30)),scope:=L2.aq (jp 30),globals:=3,closure:=[],defaults:= .ref 299,kwdefaults:= .none,pyModule:=bp "framerooms.deeds" 468,code:= .ref 305}}
noncomputable abbrev RM:=dY "with_bodies" 621 121 3 307 631
noncomputable abbrev R0:=bV "with_bodies" 31 "framerooms.deeds" 468 312
noncomputable abbrev SR:=dY "listing" 634 131 2 314 643
noncomputable abbrev Rk:=bV "listing" 32 "framerooms.deeds" 468 319
noncomputable abbrev SJ:=jx "widest_of" 646 139 1 321
noncomputable abbrev Sg:=bV "widest_of" 33 "framerooms.deeds" 468 324
noncomputable abbrev QQ:=jx "choices_of" 652 141 1 326
noncomputable abbrev TH:=bV "choices_of" 34 "framerooms.deeds" 468 329
noncomputable abbrev Rg:=jx "longest_of" 658 148 1 331
noncomputable abbrev TK:=bV "longest_of" 35 "framerooms.deeds" 468 334
noncomputable abbrev Sy:=jx "length_of" 664 150 1 336
noncomputable abbrev TL:=bV "length_of" 36 "framerooms.deeds" 468 339
noncomputable abbrev EX:=EH (kT P "__name__" 165 (bp "law_framerooms_k36_programs_told" 790)::Ju P (Fp P (HY P (dk P "FORMS" 521 225::dk P "BOUNDS" 538 237::Tq P (dk P "Program" 762 404::dk P "want_size" 771 415::dk P "want_labels" 780 422::dk P "want_runs" 789 429::dk P "_law_cell" 799 436::dk P "_law_box" 806 443::dk P "_law_take" 816 450::dk P "_law_names" 822 455::dk P "_law_simple" 838 462::dk P "_law_body" 844 467::dk P "_law_deeds" 850 472::dk P "_law_bodies" 857 479::dk P "_law_plain" 863 484::dk P "_law_listed" 876 491::dk P "_law_cost" 882 496::dk P "_law_refusal" 896 503::dk P "_law_made" 905 510::dk P "_law_loose" 911 515::dk P "_law_spoilt" 920 522::dk P "_law_names_in" 933 529::dk P "_law_no_making" 943 536::dk P "_law_right" 949 541::dk P "_law_program" 957 548::dk P "_law_as_tuples" 967 555::dk P "law" 973 560::[]))))) 72
noncomputable abbrev Lz:=DZ "__init__" "Program.__init__" 692 166 2 348 697
noncomputable abbrev S0:=oM "__init__" "Program.__init__" 42 0 "framerooms.programs" 670 353
noncomputable abbrev Ry:=DZ "told" "Program.told" 700 174 1 355 704
noncomputable abbrev Q_:=oM "told" "Program.told" 42 1 "framerooms.programs" 670 360
noncomputable abbrev R4:=DZ "deeds" "Program.deeds" 707 177 1 362 711
noncomputable abbrev QA:=oM "deeds" "Program.deeds" 42 2 "framerooms.programs" 670 367
noncomputable abbrev Q5:=DZ "names" "Program.names" 714 180 1 369 722
noncomputable abbrev S8:=oM "names" "Program.names" 42 3 "framerooms.programs" 670 374
noncomputable abbrev QK:=hdO #[bp "makings" 725,bp "Program.makings" 726,bp "/claim/cut.py" 727,.int 187 0,.int 1 0,.int 0 0,.int 0 0,.int 3 0,.ref 376,.bool true,.int 181 0,.ref 377,.none,.none,.none,.ref 378,.int 728 0,.int 187 0,bp "/claim/cut.py" 729]
noncomputable abbrev Ug:=oM "makings" "Program.makings" 42 4 "framerooms.programs" 670 379
noncomputable abbrev Sz:=DZ "around" "Program.around" 731 190 2 381 736
noncomputable abbrev T6:=oM "around" "Program.around" 42 5 "framerooms.programs" 670 386
noncomputable abbrev TR:=DZ "widest" "Program.widest" 739 195 1 388 743
noncomputable abbrev R_:=oM "widest" "Program.widest" 42 6 "framerooms.programs" 670 393
noncomputable abbrev Q9:=DZ "longest" "Program.longest" 746 198 1 395 750
noncomputable abbrev Tj:=oM "longest" "Program.longest" 42 7 "framerooms.programs" 670 400
noncomputable abbrev R3:=EH [kT P "__module__" 687 (bp "framerooms.programs" 670),kT P "__firstlineno__" 691 (.int 164 690),dk P "__init__" 699 354,dk P "told" 706 361,dk P "deeds" 713 368,dk P "names" 724 375,dk P "makings" 730 380,dk P "around" 738 387,dk P "widest" 745 394,dk P "longest" 752 401,dk P "__static_attributes__" 755 402,dk P "__dict__" 757 405,dk P "__weakref__" 759 406,kT P "__doc__" 760 (.none)] 4
noncomputable abbrev Rl:Obj:={cls:= .type "type",data:=Data.cls {name:=Str.ofString "Program",bases:=[.type "object"],mro:=[.ref 404,.type "object"],ns:=403,qualname:=Str.ofString "Program"},slots:= #[none,none,some (bp "Program" 680),some (bp "Program" 688),some (.builtin "object.__new__"),some (.bool true)]}
noncomputable abbrev RZ:=dY "want_size" 763 200 1 409 769
noncomputable abbrev Ti:=bV "want_size" 43 "framerooms.programs" 670 414
noncomputable abbrev So:=dY "want_labels" 772 207 1 416 778
noncomputable abbrev Rw:=bV "want_labels" 44 "framerooms.programs" 670 421
noncomputable abbrev Ra:=dY "want_runs" 781 213 1 423 787
noncomputable abbrev Sr:=bV "want_runs" 45 "framerooms.programs" 670 428
noncomputable abbrev Rz:=dY "_law_cell" 792 221 2 430 797
noncomputable abbrev TX:=bV "_law_cell" 47 "law_framerooms_k36_programs_told" 790 435
noncomputable abbrev Tx:=dY "_law_box" 800 225 1 437 804
noncomputable abbrev Rv:=bV "_law_box" 48 "law_framerooms_k36_programs_told" 790 442
noncomputable abbrev RK:=dY "_law_take" 807 227 2 444 814
noncomputable abbrev QM:=bV "_law_take" 49 "law_framerooms_k36_programs_told" 790 449
noncomputable abbrev SE:=jx "_law_names" 817 236 2 451
noncomputable abbrev Ui:=bV "_law_names" 50 "law_framerooms_k36_programs_told" 790 454
noncomputable abbrev Sl:=dY "_law_simple" 823 250 3 456 836
noncomputable abbrev TM:=bV "_law_simple" 51 "law_framerooms_k36_programs_told" 790 461
noncomputable abbrev Q2:=jx "_law_body" 839 261 6 463
noncomputable abbrev RL:=bV "_law_body" 52 "law_framerooms_k36_programs_told" 790 466
noncomputable abbrev SG:=jx "_law_deeds" 845 280 1 468
noncomputable abbrev TY:=bV "_law_deeds" 53 "law_framerooms_k36_programs_told" 790 471
noncomputable abbrev RF:=dY "_law_bodies" 851 287 1 473 855
noncomputable abbrev QE:=bV "_law_bodies" 54 "law_framerooms_k36_programs_told" 790 478
noncomputable abbrev Sv:=jx "_law_plain" 858 289 1 480
noncomputable abbrev RD:=bV "_law_plain" 55 "law_framerooms_k36_programs_told" 790 483
noncomputable abbrev Rx:=dY "_law_listed" 864 295 3 485 874
noncomputable abbrev T3:=bV "_law_listed" 56 "law_framerooms_k36_programs_told" 790 490
noncomputable abbrev SY:=jx "_law_cost" 877 303 1 492
noncomputable abbrev Sh:=bV "_law_cost" 57 "law_framerooms_k36_programs_told" 790 495
noncomputable abbrev Tu:=dY "_law_refusal" 883 319 1 497 894
noncomputable abbrev Ud:=bV "_law_refusal" 58 "law_framerooms_k36_programs_told" 790 502
noncomputable abbrev TU:=dY "_law_made" 897 338 1 504 903
noncomputable abbrev SO:=bV "_law_made" 59 "law_framerooms_k36_programs_told" 790 509
noncomputable abbrev Uk:=jx "_law_loose" 906 361 1 511
noncomputable abbrev Si:=bV "_law_loose" 60 "law_framerooms_k36_programs_told" 790 514
noncomputable abbrev QH:=dY "_law_spoilt" 912 367 1 516 918
noncomputable abbrev QT:=bV "_law_spoilt" 61 "law_framerooms_k36_programs_told" 790 521
noncomputable abbrev Tw:=dY "_law_names_in" 921 373 1 523 931
noncomputable abbrev QJ:=bV "_law_names_in" 62 "law_framerooms_k36_programs_told" 790 528
noncomputable abbrev Td:=dY "_law_no_making" 934 381 2 530 941
noncomputable abbrev RO:=bV "_law_no_making" 63 "law_framerooms_k36_programs_told" 790 535
noncomputable abbrev Qw:=jx "_law_right" 944 390 2 537
noncomputable abbrev Tf:=bV "_law_right" 64 "law_framerooms_k36_programs_told" 790 540
noncomputable abbrev M3:=dY "_law_program" 950 410 1 542 955
noncomputable abbrev QV:=bV "_law_program" 65 "law_framerooms_k36_programs_told" 790 547
noncomputable abbrev QN:=dY "_law_as_tuples" 958 412 2 549 965
noncomputable abbrev Q1:=bV "_law_as_tuples" 66 "law_framerooms_k36_programs_told" 790 554
noncomputable abbrev Rb:=jx "law" 968 417 1 556
noncomputable abbrev Q6:=bV "law" 67 "law_framerooms_k36_programs_told" 790 559
noncomputable def GP(t:List Obj):List Obj:=boot_o_4 P::boot_o_5 P::boot_o_6 P::boot_o_7 P::boot_o_8 P::boot_o_9 P::boot_o_10 P::aT::t
noncomputable def Ce(t:List Obj):List Obj:=(iQ #[.type "ValueError"])::zA::(Bk P 196 "RoomError" 2 28 209)::aT::(Ba 4 27)::(x_ "RoomError" 191 2 18)::(xU 20 17 "framerooms.errors" 187)::aT::bT::(pD "self" 204 "text")::aT::(oJ "__init__" "RoomError.__init__" 1 0)::Xz::YY::aT::aah P::t
noncomputable def BX(t:List Obj):List Obj:={cls:= .type "getset_descriptor",data:=Data.fields #[bp "__weakref__" 210,.ref 31,.builtin "ExceptionGroup.__weakref__",.none]}::(z9 31)::(Av 31)::C3::zA::(Bk P 222 "TooMany" 6 48 236)::aT::(Ba 8 47)::(x_ "TooMany" 217 6 38)::(xU 40 37 "framerooms.errors" 187)::aT::bT::(pD "self" 230 "many")::aT::(oJ "__init__" "TooMany.__init__" 2 0)::ZS::XS::(mj "many" 235)::Zf P::X8::(z9 51)::(Av 51)::C3::zA::(Bk P 247 "NoDeed" 11 67 261)::aT::(Ba 13 66)::(x_ "NoDeed" 242 11 57)::(xU 59 56 "framerooms.errors" 187)::aT::bT::(pD "self" 255 "found")::aT::(oJ "__init__" "NoDeed.__init__" 3 0)::aaE::YZ::(mj "found" 260)::XM P::XA::(z9 70)::(Av 70)::C3::zA::(Bk P 272 "TooDeep" 16 86 286)::aT::(Ba 18 85)::(x_ "TooDeep" 267 16 76)::(xU 78 75 "framerooms.errors" 187)::aT::bT::(pD "self" 280 "depth")::aT::(oJ "__init__" "TooDeep.__init__" 4 0)::Zd::aar::(mj "depth" 285)::aab P::YE::(z9 89)::(Av 89)::C3::zA::(Bk P 297 "TooWide" 21 105 311)::aT::(Ba 23 104)::(x_ "TooWide" 292 21 95)::(xU 97 94 "framerooms.errors" 187)::aT::bT::(pD "self" 305 "many")::aT::(oJ "__init__" "TooWide.__init__" 5 0)::RI::Th::(mj "many" 310)::T5 P::Rm::(z9 108)::(Av 108)::t
noncomputable def AE(t:List Obj):List Obj:=C3::zA::(Bk P 322 "TooLong" 26 124 336)::aT::(Ba 28 123)::(x_ "TooLong" 317 26 114)::(xU 116 113 "framerooms.errors" 187)::aT::bT::(pD "self" 330 "many")::aT::(oJ "__init__" "TooLong.__init__" 6 0)::Sk::TJ::(mj "many" 335)::Ru P::RE::(z9 127)::(Av 127)::C3::zA::(Bk P 347 "Twice" 31 143 361)::aT::(Ba 33 142)::(x_ "Twice" 342 31 133)::(xU 135 132 "framerooms.errors" 187)::aT::bT::(pD "self" 355 "label")::aT::(oJ "__init__" "Twice.__init__" 7 0)::Tb::SM::(mj "label" 360)::RC P::SU::(z9 146)::(Av 146)::C3::zA::(Bk P 372 "NoLabel" 36 162 386)::aT::(Ba 38 161)::(x_ "NoLabel" 367 36 152)::(xU 154 151 "framerooms.errors" 187)::aT::bT::(pD "self" 380 "label")::aT::(oJ "__init__" "NoLabel.__init__" 8 0)::Qz::RU::(mj "label" 385)::Sx P::SI::(z9 165)::(Av 165)::C3::zA::(Bk P 397 "NoMaking" 41 181 411)::aT::(Ba 43 180)::(x_ "NoMaking" 392 41 171)::(xU 173 170 "framerooms.errors" 187)::aT::bT::(pD "self" 405 "found")::aT::(oJ "__init__" "NoMaking.__init__" 9 0)::QF::QX::(mj "found" 410)::Tz P::Sd::(z9 184)::(Av 184)::C3::zA::(Bk P 422 "NoText" 46 200 436)::aT::(Ba 48 199)::(x_ "NoText" 417 46 190)::(xU 192 189 "framerooms.errors" 187)::aT::bT::(pD "self" 430 "line")::aT::(oJ "__init__" "NoText.__init__" 10 0)::Rj::RG::(mj "line" 435)::Tc P::Uh::(z9 203)::(Av 203)::t
noncomputable def De(t:List Obj):List Obj:=aT::bT::(mj "thing" 449)::aT::(bR "is_number" 14)::RJ::QC::aT::bT::(iQ #[bp "thing" 456,bp "low" 457,bp "high" 458])::aT::(bR "is_whole" 15)::RP::Q8::aT::bT::(bR "is_name" 16)::SD::R9::t
noncomputable def F2(t:List Obj):List Obj:=Tg P::Rt::RB::R7::RQ::Su::QU::SA::QO::Ri::Rq::Ue::SK P::S9::RH::Q4::Tt::t
noncomputable def KY(t:List Obj):List Obj:=aT::bT::(bR "is_deed" 21)::QG::Rr::aT::bT::(pD "kind" 548 "thing")::aT::(bR "fits" 22)::SQ::Ro::aT::bT::(mj "deed" 556)::aT::(bR "parts_of" 23)::TZ::Sq::aT::bT::(bR "bodies_of" 24)::TC::Sm::aT::bT::(bR "names_of" 25)::Se::RV::aT::bT::(mj "deed" 575)::aT::(bR "is_block" 26)::Qx::QB::aT::bT::(iQ #[bp "thing" 582,bp "deed" 583,bp "body" 584])::aT::(bR "want_body" 27)::Rc::SX::aT::bT::(iQ #[bp "body" 591,bp "many" 592,bp "deed" 593,bp "inner" 594])::aT::(bR "many_in" 28)::Q3::QW::aT::bT::(iQ #[bp "body" 601,bp "depth" 602,bp "deed" 603,bp "inner" 604])::aT::(bR "depth_of" 29)::Uj::Tn::NA::aT::bT::(iQ #[bp "body" 612,bp "change" 613,bp "first" 614,bp "told" 615,bp "number" 616,bp "deed" 617])::aT::(bR "rewritten" 30)::RY::Eh::aT::bT::(iQ #[bp "deed" 624,bp "change" 625,bp "first" 626,bp "parts" 627,bp "number" 628,bp "kind" 629,bp "part" 630])::aT::(bR "with_bodies" 31)::RM::R0::aT::bT::(iQ #[bp "body" 637,bp "around" 638,bp "listed" 639,bp "deed" 640,bp "inner" 641,bp "within" 642])::aT::(bR "listing" 32)::SR::Rk::aT::bT::(bR "widest_of" 33)::SJ::Sg::aT::bT::(bR "choices_of" 34)::QQ::TH::aT::bT::(bR "longest_of" 35)::Rg::TK::aT::bT::(bR "length_of" 36)::Sy::TL::t
noncomputable def qN:Heap:=⟨⟨boot_o_0 P::boot_o_1 P::boot_o_2 P::boot_o_3 P::GP P (bT::Hl::FN::[])⟩,{}⟩
noncomputable def zh:Heap:=⟨⟨boot_o_0 P::boot_o_1 P::boot_o_2 P::(EH (kT P "__name__" 165 (bp "framerooms.errors" 187)::Ju P ([])) 14)::GP P ((Sf ⟨Wm 0 Mq⟩)::Hl::FN::Ce P ({cls:= .type "type",data:=Data.cls {name:=Str.ofString "RoomError",bases:=[.type "ValueError"],mro:=[.ref 31,.type "ValueError",.type "Exception",.type "BaseException",.type "object"],ns:=30,qualname:=Str.ofString "RoomError",subclasses:=[.ref 51,.ref 70,.ref 89,.ref 108]},slots:= #[some (.ref 15),none,some (bp "RoomError" 189),some (bp "RoomError" 197),some (.builtin "ValueError.__new__"),some (.bool true)]}::BX P ([])))⟩,{}⟩
noncomputable def wD:Heap:=⟨⟨boot_o_0 P::boot_o_1 P::boot_o_2 P::(EH (kT P "__name__" 165 (bp "framerooms.errors" 187)::Ju P (Fp P ([]))) 19)::GP P ((Sf ⟨Wm 0 ID⟩)::Hl::FN::Ce P (Bl::BX P (AE P ([]))))⟩,{}⟩
noncomputable def qz:Heap:=⟨⟨boot_o_0 P::boot_o_1 P::boot_o_2 P::(EH (kT P "__name__" 165 (bp "framerooms.deeds" 468)::Ju P (Fp P (HY P ([])))) 25)::GP P (IM::Hl::FN::Ce P (Bl::BX P (AE P (De ([])))))⟩,{}⟩
noncomputable def qw:Heap:=⟨⟨boot_o_0 P::boot_o_1 P::boot_o_2 P::(EH (kT P "__name__" 165 (bp "framerooms.deeds" 468)::Ju P (Fp P (HY P (dk P "FORMS" 521 225::dk P "BOUNDS" 538 237::[])))) 27)::GP P (IM::Hl::FN::Ce P (Bl::BX P (AE P (De (F2 P ([]))))))⟩,{}⟩
noncomputable def wq:Heap:=⟨⟨boot_o_0 P::boot_o_1 P::boot_o_2 P::(EH (kT P "__name__" 165 (bp "framerooms.programs" 670)::Ju P (Fp P (HY P (dk P "FORMS" 521 225::dk P "BOUNDS" 538 237::Tq P ([]))))) 47)::GP P ((Sf ⟨Wm 0 Bq⟩)::Hl::FN::Ce P (Bl::BX P (AE P (De (F2 P (KY ([])))))))⟩,{}⟩
noncomputable def b_:Heap:=⟨⟨boot_o_0 P::boot_o_1 P::boot_o_2 P::EX P::GP P ((Sf ⟨Wm 0 FO⟩)::Hl::FN::Ce P (Bl::BX P (AE P (De (F2 P (KY (aT::zA::(EH [kT P "__module__" 687 (bp "framerooms.programs" 670),kT P "__qualname__" 689 (bp "Program" 688),kT P "__firstlineno__" 691 (.int 164 690),dk P "__init__" 699 354,dk P "told" 706 361,dk P "deeds" 713 368,dk P "names" 724 375,dk P "makings" 730 380,dk P "around" 738 387,dk P "widest" 745 394,dk P "longest" 752 401,dk P "__static_attributes__" 755 402] 12)::aT::(Sf ⟨Wm 4 [(166,353),(174,360),(177,367),(180,374),(187,379),(190,386),(195,393),(198,400)]⟩)::(x_ "Program" 682 164 344)::(xU 346 343 "framerooms.programs" 670)::aT::bT::(pD "self" 695 "deeds")::aT::(oJ "__init__" "Program.__init__" 42 0)::Lz::S0::aT::bT::(mj "self" 703)::aT::(oJ "told" "Program.told" 42 1)::Ry::Q_::aT::bT::(mj "self" 710)::aT::(oJ "deeds" "Program.deeds" 42 2)::R4::QA::aT::bT::(iQ #[bp "self" 717,bp "found" 718,bp "deed" 719,bp "around" 720,bp "name" 721])::aT::(oJ "names" "Program.names" 42 3)::Q5::S8::aT::bT::(oJ "makings" "Program.makings" 42 4)::QK::Ug::aT::bT::(pD "self" 734 "number")::aT::(oJ "around" "Program.around" 42 5)::Sz::T6::aT::bT::(mj "self" 742)::aT::(oJ "widest" "Program.widest" 42 6)::TR::R_::aT::bT::(mj "self" 749)::aT::(oJ "longest" "Program.longest" 42 7)::Q9::Tj::(pD "body" 753 "listed")::R3 P::Rl::{cls:= .type "getset_descriptor",data:=Data.fields #[bp "__dict__" 756,.ref 404,.builtin "function.__dict__",.builtin "function.__dict__#set"]}::{cls:= .type "getset_descriptor",data:=Data.fields #[bp "__weakref__" 758,.ref 404,.builtin "ExceptionGroup.__weakref__",.none]}::(z9 404)::(Av 404)::aT::bT::(iQ #[bp "body" 766,bp "many" 767,bp "depth" 768])::aT::(bR "want_size" 43)::RZ::Ti::aT::bT::(iQ #[bp "listed" 775,bp "deed" 776,bp "around" 777])::aT::(bR "want_labels" 44)::So::Rw::aT::bT::(iQ #[bp "body" 784,bp "many" 785,bp "steps" 786])::aT::(bR "want_runs" 45)::Ra::Sr::aT::bT::(pD "_law_script" 795 "_law_k")::aT::(bR "_law_cell" 47)::Rz::TX::aT::bT::(mj "_law_cell_here" 803)::aT::(bR "_law_box" 48)::Tx::Rv::aT::bT::(iQ #[bp "_law_box_here" 810,bp "_law_many" 811,bp "_law_digit" 812,bp "_law_number" 813])::aT::(bR "_law_take" 49)::RK::QM::aT::bT::(bR "_law_names" 50)::SE::Ui::aT::bT::(iQ #[bp "_law_box_here" 826,bp "_law_names_here" 827,bp "_law_around" 828,bp "_law_kind" 829,bp "_law_x" 830,bp "_law_y" 831,bp "_law_k" 832,bp "_law_labels" 833,bp "_law_number" 834,bp "_law_some" 835])::aT::(bR "_law_simple" 51)::Sl::TM::aT::bT::(bR "_law_body" 52)::Q2::RL::aT::bT::(bR "_law_deeds" 53)::SG::TY::aT::bT::(mj "_law_deed" 854)::aT::(bR "_law_bodies" 54)::RF::QE::aT::bT::(bR "_law_plain" 55)::Sv::RD::aT::bT::(iQ #[bp "_law_body_here" 867,bp "_law_around" 868,bp "_law_down" 869,bp "_law_found" 870,bp "_law_deed" 871,bp "_law_inside" 872,bp "_law_one" 873])::aT::(bR "_law_listed" 56)::Rx::T3::aT::bT::(bR "_law_cost" 57)::SY::Sh::aT::bT::(iQ #[bp "_law_body_here" 886,bp "_law_rows" 887,bp "_law_down" 888,bp "_law_deed" 889,bp "_law_around" 890,bp "_law_one" 891,bp "_law_asked" 892,bp "_law_done" 893])::aT::(bR "_law_refusal" 58)::Tu::Ud::aT::bT::(iQ #[bp "_law_call" 900,bp "_law_told" 901,bp "e" 902])::aT::(bR "_law_made" 59)::TU::SO::aT::bT::(bR "_law_loose" 60)::Uk::Si::aT::bT::(iQ #[bp "_law_body_here" 915,bp "_law_deed" 916,bp "_law_one" 917])::aT::(bR "_law_spoilt" 61)::QH::QT::aT::bT::(iQ #[bp "_law_rows" 924,bp "_law_found" 925,bp "_law_deed" 926,bp "_law_around" 927,bp "_law_down" 928,bp "_law_some" 929,bp "_law_name" 930])::aT::(bR "_law_names_in" 62)::Tw::QJ::aT::bT::(iQ #[bp "_law_program_here" 937,bp "_law_thing" 938,bp "_law_found" 939,bp "e" 940])::aT::(bR "_law_no_making" 63)::Td::RO::aT::bT::(bR "_law_right" 64)::Qw::Tf::aT::bT::(mj "_law_deeds_here" 953)::(mj "_law_deeds_here" 954)::(bR "_law_program" 65)::M3::QV::aT::bT::(iQ #[bp "_law_body_here" 961,bp "_law_due" 962,bp "_law_told" 963,bp "_law_found" 964])::aT::(bR "_law_as_tuples" 66)::QN::Q1::aT::bT::(bR "law" 67)::Rb::Q6::[])))))))⟩,{}⟩
end
noncomputable abbrev i7:Program:=PySem.Challenge.rw_framerooms_k36_programs_told.row.prog
noncomputable def jt:Env:={scope:=i7.main.scope,locals:=mainNs,globals:=mainNs,cells:=[],code:=Value.ref 13,frame:=some 14}
noncomputable def n9:List Stmt:=behindTheImports i7
noncomputable def vG:Code:=Code.body n9 jt
noncomputable def gW:aI:=some (Value.ref 6)
noncomputable abbrev D_:Pos:={line:=0,col:=0,endLine:=0,endCol:=0}
theorem KA(w:World)(os:OsState):topGo treeTable i7 w 11 gW 12 ⟨boot_heap w.params,⟨[]⟩,boot_drawn,boot_toks,os⟩ (topStub i7)=some (⟨qN w.params,⟨[]⟩,{},187,os⟩,⟨denote treeTable vG,vG,{line:=0,col:=0,endLine:=0,endCol:=0},[topFrame D_]⟩):=by kernel_rfl
theorem Gp(w:World)(os:OsState):segRun treeTable i7 w 11 gW 1 1 ⟨qN w.params,⟨[]⟩,{},187,os⟩ (blockOf n9 jt vG {line:=0,col:=0,endLine:=0,endCol:=0} [topFrame D_])=some (.next,⟨qN w.params,⟨[]⟩,{},187,os⟩,vG,{line:=0,col:=0,endLine:=0,endCol:=0}):=by kernel_rfl
theorem Vy(w:World)(os:OsState):segRun treeTable i7 w 11 gW 1 1207 ⟨qN w.params,⟨[]⟩,{},187,os⟩ (piecesOf ((n9.drop 0).take 6) jt vG {line:=0,col:=0,endLine:=0,endCol:=0} [topFrame D_])=some (.next,⟨zh w.params,⟨[]⟩,{},315,os⟩,vG,{line:=21,col:=0,endLine:=25,endCol:=24}):=by kernel_rfl
theorem PN(w:World)(os:OsState):segRun treeTable i7 w 11 gW 1 1226 ⟨zh w.params,⟨[]⟩,{},315,os⟩ (piecesOf ((n9.drop 6).take 5) jt vG {line:=21,col:=0,endLine:=25,endCol:=24} [topFrame D_])=some (.next,⟨wD w.params,⟨[]⟩,{},440,os⟩,vG,{line:=46,col:=0,endLine:=50,endCol:=24}):=by kernel_rfl
theorem Qh(w:World)(os:OsState):segRun treeTable i7 w 11 gW 1 132 ⟨wD w.params,⟨[]⟩,{},440,os⟩ (piecesOf ((n9.drop 11).take 8) jt vG {line:=46,col:=0,endLine:=50,endCol:=24} [topFrame D_])=some (.next,⟨qz w.params,⟨[]⟩,{},472,os⟩,vG,{line:=63,col:=0,endLine:=63,endCol:=9}):=by kernel_rfl
noncomputable def AH(os:OsState)(w:World):Prop:=segRun treeTable i7 w 11 gW 1 296 ⟨qz w.params,⟨[]⟩,{},472,os⟩ (piecesOf ((n9.drop 19).take 2) jt vG {line:=63,col:=0,endLine:=63,endCol:=9} [topFrame D_])=some (.next,⟨qw w.params,⟨[]⟩,{},539,os⟩,vG,{line:=65,col:=0,endLine:=65,endCol:=6})
theorem OH(w:World)(os:OsState):segRun treeTable i7 w 11 gW 1 296 ⟨qz w.params,⟨[]⟩,{},472,os⟩ (piecesOf ((n9.drop 19).take 2) jt vG {line:=63,col:=0,endLine:=63,endCol:=9} [topFrame D_])=some (.next,⟨qw w.params,⟨[]⟩,{},539,os⟩,vG,{line:=65,col:=0,endLine:=65,endCol:=6}):=by have h:AH os (w.withFollow "special-get-raises" (w.params.followText "special-get-raises")):=(fun(b:Bool) (w:World)=>show AH os (w.withFollow "special-get-raises" b) by cases b<;>(unfold AH;kernel_rfl)) _ w;rw[World.withFollow_self] at h;exact h
theorem OX(w:World)(os:OsState):segRun treeTable i7 w 11 gW 1 516 ⟨qw w.params,⟨[]⟩,{},539,os⟩ (piecesOf ((n9.drop 21).take 21) jt vG {line:=65,col:=0,endLine:=65,endCol:=6} [topFrame D_])=some (.next,⟨wq w.params,⟨[]⟩,{},680,os⟩,vG,{line:=163,col:=0,endLine:=163,endCol:=10}):=by kernel_rfl
theorem PJ(w:World)(os:OsState):segRun treeTable i7 w 11 gW 1 1173 ⟨wq w.params,⟨[]⟩,{},680,os⟩ (piecesOf ((n9.drop 42).take 26) jt vG {line:=163,col:=0,endLine:=163,endCol:=10} [topFrame D_])=some (.next,⟨b_ w.params,⟨[]⟩,{},974,os⟩,vG,{line:=417,col:=0,endLine:=439,endCol:=118}):=by kernel_rfl
theorem Md(w:World)(os:OsState):topRun treeTable i7 w 11 gW 2 ⟨b_ w.params,⟨[]⟩,{},974,os⟩ ⟨doneF .next,vG,{line:=417,col:=0,endLine:=439,endCol:=118},[topFrame D_]⟩=some ⟨b_ w.params,⟨[]⟩,{},974,os⟩:=by kernel_rfl
theorem Z1(w:World)(os:OsState):topRun treeTable i7 w 11 gW 2 ⟨b_ w.params,⟨[]⟩,{},974,os⟩ (restOf [] jt vG {line:=417,col:=0,endLine:=439,endCol:=118} [topFrame D_])=some ⟨b_ w.params,⟨[]⟩,{},974,os⟩:=piece_nil (Md w os)
theorem YG:n9.drop 68=[]:=by kernel_rfl
theorem JJ:((n9.drop 42).take 26)++([])=n9.drop 42:=by rw[←YG];have:=p5 26 (n9.drop 42);rwa[qi] at this
theorem KC(w:World)(os:OsState):topRun treeTable i7 w 11 gW (1173+2) ⟨wq w.params,⟨[]⟩,{},680,os⟩ (restOf (n9.drop 42) jt vG {line:=163,col:=0,endLine:=163,endCol:=10} [topFrame D_])=some ⟨b_ w.params,⟨[]⟩,{},974,os⟩:=by rw[←JJ];exact qC (PJ w os) (Z1 w os)
theorem Kb:((n9.drop 21).take 21)++(n9.drop 42)=n9.drop 21:=by have:=p5 21 (n9.drop 21);rwa[qi] at this
theorem MB(w:World)(os:OsState):topRun treeTable i7 w 11 gW (516+(1173+2)) ⟨qw w.params,⟨[]⟩,{},539,os⟩ (restOf (n9.drop 21) jt vG {line:=65,col:=0,endLine:=65,endCol:=6} [topFrame D_])=some ⟨b_ w.params,⟨[]⟩,{},974,os⟩:=by rw[←Kb];exact qC (OX w os) (KC w os)
theorem Ji:((n9.drop 19).take 2)++(n9.drop 21)=n9.drop 19:=by have:=p5 2 (n9.drop 19);rwa[qi] at this
theorem Np(w:World)(os:OsState):topRun treeTable i7 w 11 gW (296+(516+(1173+2))) ⟨qz w.params,⟨[]⟩,{},472,os⟩ (restOf (n9.drop 19) jt vG {line:=63,col:=0,endLine:=63,endCol:=9} [topFrame D_])=some ⟨b_ w.params,⟨[]⟩,{},974,os⟩:=by rw[←Ji];exact qC (OH w os) (MB w os)
theorem Jh:((n9.drop 11).take 8)++(n9.drop 19)=n9.drop 11:=by have:=p5 8 (n9.drop 11);rwa[qi] at this
theorem NK(w:World)(os:OsState):topRun treeTable i7 w 11 gW (132+(296+(516+(1173+2)))) ⟨wD w.params,⟨[]⟩,{},440,os⟩ (restOf (n9.drop 11) jt vG {line:=46,col:=0,endLine:=50,endCol:=24} [topFrame D_])=some ⟨b_ w.params,⟨[]⟩,{},974,os⟩:=by rw[←Jh];exact qC (Qh w os) (Np w os)
theorem JA:((n9.drop 6).take 5)++(n9.drop 11)=n9.drop 6:=by have:=p5 5 (n9.drop 6);rwa[qi] at this
theorem NP(w:World)(os:OsState):topRun treeTable i7 w 11 gW (1226+(132+(296+(516+(1173+2))))) ⟨zh w.params,⟨[]⟩,{},315,os⟩ (restOf (n9.drop 6) jt vG {line:=21,col:=0,endLine:=25,endCol:=24} [topFrame D_])=some ⟨b_ w.params,⟨[]⟩,{},974,os⟩:=by rw[←JA];exact qC (PN w os) (NK w os)
theorem KD:((n9.drop 0).take 6)++(n9.drop 6)=n9.drop 0:=by have:=p5 6 (n9.drop 0);rwa[qi] at this
theorem Of(w:World)(os:OsState):topRun treeTable i7 w 11 gW (1207+(1226+(132+(296+(516+(1173+2)))))) ⟨qN w.params,⟨[]⟩,{},187,os⟩ (restOf (n9.drop 0) jt vG {line:=0,col:=0,endLine:=0,endCol:=0} [topFrame D_])=some ⟨b_ w.params,⟨[]⟩,{},974,os⟩:=by rw[←KD];exact qC (Vy w os) (NP w os)
theorem Vd(w:World)(os:OsState):topRun treeTable i7 w 11 gW (1+(1207+(1226+(132+(296+(516+(1173+2))))))) ⟨qN w.params,⟨[]⟩,{},187,os⟩ ⟨denote treeTable vG,vG,{line:=0,col:=0,endLine:=0,endCol:=0},[topFrame D_]⟩=some ⟨b_ w.params,⟨[]⟩,{},974,os⟩:=piece_block (Gp w os) (Of w os)
theorem Ye(w:World)(os:OsState):topRun treeTable i7 w 11 gW (12+(1+(1207+(1226+(132+(296+(516+(1173+2)))))))) ⟨boot_heap w.params,⟨[]⟩,boot_drawn,boot_toks,os⟩ (topStub i7)=some ⟨b_ w.params,⟨[]⟩,{},974,os⟩:=go_top (KA w os) (Vd w os)
theorem U5:PySem.Challenge.rw_framerooms_k36_programs_told.wellSaid=true:=by decide+kernel
end hd
noncomputable def uI:PySem.Params→Frag:=fun P=>(nat_lit 1,PySem.W.boot_o_1 P)::(nat_lit 2,PySem.W.boot_o_2 P)::(nat_lit 3,EX P)::(nat_lit 4,PySem.W.boot_o_4 P)::(nat_lit 27,Xz)::(nat_lit 28,YY)::(nat_lit 30,aah P)::(nat_lit 31,Bl)::(nat_lit 47,ZS)::(nat_lit 48,XS)::(nat_lit 50,Zf P)::(nat_lit 51,X8)::(nat_lit 66,aaE)::(nat_lit 67,YZ)::(nat_lit 69,XM P)::(nat_lit 70,XA)::(nat_lit 85,Zd)::(nat_lit 86,aar)::(nat_lit 88,aab P)::(nat_lit 89,YE)::(nat_lit 104,RI)::(nat_lit 105,Th)::(nat_lit 107,T5 P)::(nat_lit 108,Rm)::(nat_lit 123,Sk)::(nat_lit 124,TJ)::(nat_lit 126,Ru P)::(nat_lit 127,RE)::(nat_lit 142,Tb)::(nat_lit 143,SM)::(nat_lit 145,RC P)::(nat_lit 146,SU)::(nat_lit 161,Qz)::(nat_lit 162,RU)::(nat_lit 164,Sx P)::(nat_lit 165,SI)::(nat_lit 180,QF)::(nat_lit 181,QX)::(nat_lit 183,Tz P)::(nat_lit 184,Sd)::(nat_lit 199,Rj)::(nat_lit 200,RG)::(nat_lit 202,Tc P)::(nat_lit 203,Uh)::(nat_lit 211,RJ)::(nat_lit 212,QC)::(nat_lit 218,RP)::(nat_lit 219,Q8)::(nat_lit 223,SD)::(nat_lit 224,R9)::(nat_lit 225,Tg P)::(nat_lit 226,Rt)::(nat_lit 227,RB)::(nat_lit 228,R7)::(nat_lit 229,RQ)::(nat_lit 230,Su)::(nat_lit 231,QU)::(nat_lit 232,SA)::(nat_lit 233,QO)::(nat_lit 234,Ri)::(nat_lit 235,Rq)::(nat_lit 236,Ue)::(nat_lit 237,SK P)::(nat_lit 238,S9)::(nat_lit 239,RH)::(nat_lit 240,Q4)::(nat_lit 241,Tt)::(nat_lit 245,QG)::(nat_lit 246,Rr)::(nat_lit 252,SQ)::(nat_lit 253,Ro)::(nat_lit 259,TZ)::(nat_lit 260,Sq)::(nat_lit 264,TC)::(nat_lit 265,Sm)::(nat_lit 269,Se)::(nat_lit 270,RV)::(nat_lit 276,Qx)::(nat_lit 277,QB)::(nat_lit 283,Rc)::(nat_lit 284,SX)::(nat_lit 290,Q3)::(nat_lit 291,QW)::(nat_lit 297,Uj)::(nat_lit 298,Tn)::(nat_lit 299,NA)::(nat_lit 305,RY)::(nat_lit 306,Eh)::(nat_lit 312,RM)::(nat_lit 313,R0)::(nat_lit 319,SR)::(nat_lit 320,Rk)::(nat_lit 324,SJ)::(nat_lit 325,Sg)::(nat_lit 329,QQ)::(nat_lit 330,TH)::(nat_lit 334,Rg)::(nat_lit 335,TK)::(nat_lit 339,Sy)::(nat_lit 340,TL)::(nat_lit 353,Lz)::(nat_lit 354,S0)::(nat_lit 360,Ry)::(nat_lit 361,Q_)::(nat_lit 367,R4)::(nat_lit 368,QA)::(nat_lit 374,Q5)::(nat_lit 375,S8)::(nat_lit 379,QK)::(nat_lit 380,Ug)::(nat_lit 386,Sz)::(nat_lit 387,T6)::(nat_lit 393,TR)::(nat_lit 394,R_)::(nat_lit 400,Q9)::(nat_lit 401,Tj)::(nat_lit 403,R3 P)::(nat_lit 404,Rl)::(nat_lit 414,RZ)::(nat_lit 415,Ti)::(nat_lit 421,So)::(nat_lit 422,Rw)::(nat_lit 428,Ra)::(nat_lit 429,Sr)::(nat_lit 435,Rz)::(nat_lit 436,TX)::(nat_lit 442,Tx)::(nat_lit 443,Rv)::(nat_lit 449,RK)::(nat_lit 450,QM)::(nat_lit 454,SE)::(nat_lit 455,Ui)::(nat_lit 461,Sl)::(nat_lit 462,TM)::(nat_lit 466,Q2)::(nat_lit 467,RL)::(nat_lit 471,SG)::(nat_lit 472,TY)::(nat_lit 478,RF)::(nat_lit 479,QE)::(nat_lit 483,Sv)::(nat_lit 484,RD)::(nat_lit 490,Rx)::(nat_lit 491,T3)::(nat_lit 495,SY)::(nat_lit 496,Sh)::(nat_lit 502,Tu)::(nat_lit 503,Ud)::(nat_lit 509,TU)::(nat_lit 510,SO)::(nat_lit 514,Uk)::(nat_lit 515,Si)::(nat_lit 521,QH)::(nat_lit 522,QT)::(nat_lit 528,Tw)::(nat_lit 529,QJ)::(nat_lit 535,Td)::(nat_lit 536,RO)::(nat_lit 540,Qw)::(nat_lit 541,Tf)::(nat_lit 547,M3)::(nat_lit 548,QV)::(nat_lit 554,QN)::(nat_lit 555,Q1)::(nat_lit 559,Rb)::(nat_lit 560,Q6)::[]
noncomputable def DF:PySem.Params→Frag:=fun P=>(nat_lit 349,bT)::(nat_lit 543,bT)::uI P
noncomputable def UT:bP:=[349,543,1,2,3,4,27,28,30,31,47,48,50,51,66,67,69,70,85,86,88,89,104,105,107,108,123,124,126,127,142,143,145,146,161,162,164,165,180,181,183,184,199,200,202,203,211,212,218,219,223,224,225,226,227,228,229,230,231,232,233,234,235,236,237,238,239,240,241,245,246,252,253,259,260,264,265,269,270,276,277,283,284,290,291,297,298,299,305,306,312,313,319,320,324,325,329,330,334,335,339,340,353,354,360,361,367,368,374,375,379,380,386,387,393,394,400,401,403,404,414,415,421,422,428,429,435,436,442,443,449,450,454,455,461,462,466,467,471,472,478,479,483,484,490,491,495,496,502,503,509,510,514,515,521,522,528,529,535,536,540,541,547,548,554,555,559,560]
theorem HZ:∀P,UT=(DF P).map (·.1):=fun _=>by kernel_rfl
noncomputable def pH:PySem.Program:={PySem.Challenge.pw_framerooms_k36_programs_told with main:={PySem.Challenge.pw_framerooms_k36_programs_told.main with body:=[jp 1,jp 2,jp 3,jp 4,jp 5,jp 6,jp 7,jp 8,jp 9,jp 10,jp 12,jp 13,jp 14,jp 15,jp 16,jp 18,jp 19,jp 20,jp 21,jp 22,jp 23,jp 24,jp 25,jp 26,jp 27,jp 28,jp 29,jp 31,jp 32,jp 33,jp 34,jp 35,jp 36,jp 38,jp 39,jp 40,jp 41,jp 42,jp 43,jp 44,jp 45,jp 47,jp 48,jp 49,jp 50,jp 51,jp 52,jp 53,jp 54,jp 55,jp 56,jp 57,jp 58,jp 59,jp 60,jp 61,jp 62,jp 63,jp 64,jp 65,jp 66,jp 67]}}
noncomputable abbrev yN:List PySem.Str:=["FORMS","BOUNDS","rewritten"]
noncomputable abbrev oQ:PySem.W.Hook:=PySem.W.kHook DF UT HZ
theorem Pr(w:PySem.World):(fun os:PySem.OsState=>((PySem.W.staticsOk (importedModules i7.main.body) (PySem.W.boot_heap w.params) (b_ w.params)&&PySem.W.namesBound i7 (b_ w.params)&&PySem.W.gensDone ⟨b_ w.params,⟨[]⟩,{},974,os⟩&&PySem.W.laidKept (PySem.W.boot_heap w.params) (b_ w.params)),PySem.W.openSeen pH yN (importedModules i7.main.body) (fun s=>PySem.W.xlAt pH [] s&&PySem.W.recOk (PySem.W.RowW.records PySem.Challenge.rw_framerooms_k36_programs_told.row.toRowW) s) true ⟨b_ w.params,⟨[]⟩,{},974,os⟩,oQ.obs ⟨b_ w.params,⟨[]⟩,{},974,os⟩))=fun _=>(true,PySem.W.openGood pH yN,oQ.val w):=by kernel_rfl
theorem Wn:PySem.W.LeftO PySem.Challenge.rw_framerooms_k36_programs_told.row.prog pH yN (fun s=>PySem.W.xlAt pH [] s&&PySem.W.recOk (PySem.W.RowW.records PySem.Challenge.rw_framerooms_k36_programs_told.row.toRowW) s) oQ.obs oQ.val 9214:=PySem.W.LeftO.of_pieces (H₀:=PySem.W.boot_heap) (H₁:=b_) (gs₁:=⟨[]⟩) (d₁:={}) (k₁:=974) (m₀:=11) (ann:=gW) (PySem.W.boot_open rfl (by decide) (fun _=>rfl)) (fun _=>by kernel_rfl) Ye (by decide) Pr
end My
namespace L2
open PySem PySem.Spec PyProof.Rows
noncomputable abbrev ww:=Sum Int Str
noncomputable def mE:ww→Value→Bool
 | .inl k,v=>Value.isInt k v
 | .inr x,v=>Value.isStrOf x v
noncomputable def adQ(w:World):ww→Int
 | .inl k=>hashInt k
 | .inr x=>hashStr w x
theorem cW:∀{k:ww} {v:Value},mE k v=true→(∃i t,k=Sum.inl i∧v=Value.int i t)∨(∃x t,k=Sum.inr x∧v=Value.str x t)
 | .inl i,v,h=>by
  obtain⟨t,e⟩:=Value.isInt_shape (k:=i) (v:=v) h;exact .inl ⟨i,t,rfl,e⟩
 | .inr x,v,h=>by
  obtain⟨t,e⟩:=Value.isStrOf_shape (x:=x) (v:=v) h;exact .inr ⟨x,t,rfl,e⟩
theorem J3(i:Int)(t:Tok):mE (.inl i) (.int i t)=true:=by simp[mE,Value.isInt]
theorem Kd(x:Str)(t:Tok):mE (.inr x) (.str x t)=true:=by simp[mE,Value.isStrOf]
theorem Wc(a b:Int):decide ((Sum.inl a:ww)=Sum.inl b)=(a==b):=by
 by_cases e:a=b
 ·subst e;simp
 ·have h:¬(Sum.inl a:ww)=Sum.inl b:=fun q=>e (Sum.inl.inj q);rw[br h];exact(qL.mpr e).symm
theorem UD(a b:Str):decide ((Sum.inr a:ww)=Sum.inr b)=decide (a=b):=by
 by_cases e:a=b
 ·subst e;simp
 ·have h:¬(Sum.inr a:ww)=Sum.inr b:=fun q=>e (Sum.inr.inj q);rw[br h,br e]
theorem Uv(a:Int)(b:Str):decide ((Sum.inl a:ww)=Sum.inr b)=false:=br (fun q=>nomatch q)
theorem V_(a:Str)(b:Int):decide ((Sum.inr a:ww)=Sum.inl b)=false:=br (fun q=>nomatch q)
noncomputable def cb(prog:Program)(w:World):PySem.KeyKind prog w ww where
 is:=mE
 hash:=adQ w
 inj:=fun v a b ha hb=>by
  rcases cW ha with⟨i,t,rfl,rfl⟩|⟨x,t,rfl,rfl⟩
  ·rcases cW hb with⟨j,u,rfl,e⟩|⟨y,u,rfl,e⟩
   ·injection e with e1 _;rw[e1]
   ·exact nomatch e
  ·rcases cW hb with⟨j,u,rfl,e⟩|⟨y,u,rfl,e⟩
   ·exact nomatch e
   ·injection e with e1 _;rw[e1]
 byValue:=fun k v h=>by
  rcases cW h with⟨i,t,rfl,rfl⟩|⟨x,t,rfl,rfl⟩<;>rfl
 pyHash:=fun hv h=>by
  rcases cW hv with⟨i,t,rfl,rfl⟩|⟨x,t,rfl,rfl⟩
  ·exact wpAny_pyHash_int h
  ·exact wpAny_pyHash_str h
 eqBool:=fun hu hv h=>by
  rcases cW hu with⟨i,t,rfl,rfl⟩|⟨x,t,rfl,rfl⟩
  ·rcases cW hv with⟨j,u,rfl,rfl⟩|⟨y,u,rfl,rfl⟩
   ·rw[Wc] at h;exact wpAny_eqBool_int h
   ·rw[Uv] at h;exact SeqAt.EqAt.int_str i t y u _ _ _ _ h
  ·rcases cW hv with⟨j,u,rfl,rfl⟩|⟨y,u,rfl,rfl⟩
   ·rw[V_] at h;exact SeqAt.EqAt.str_int x t j u _ _ _ _ h
   ·rw[UD] at h;exact wpAny_eqBool_str h
 «strs» :=fun k x t v h=>by
  rcases cW h with⟨i,u,rfl,e⟩|⟨y,u,rfl,e⟩
  ·exact nomatch e
  ·injection e with e1 _;subst e1;cases v<;>rfl
theorem E9(prog:Program)(w:World)(i:Int)(t:Tok):(cb prog w).is (.inl i) (.int i t)=true:=J3 i t
theorem EW(prog:Program)(w:World)(x:Str)(t:Tok):(cb prog w).is (.inr x) (.str x t)=true:=Kd x t
inductive V where
 |bx|bl (b:Bool)|int (i:Int)|str (x:Str)|Iu (b:Array UInt8)|WM (b:UInt64)|ref (a:Addr)|ty (n:String)
 deriving DecidableEq
noncomputable abbrev mJ:=List (List ww×V)
noncomputable abbrev dE:=List (ww×V)
noncomputable abbrev ak:=List V
noncomputable abbrev iG:=List (Str×V)
noncomputable def RelV:V→Value→Prop
 | .bx,u=>u=Value.none
 | .bl b,u=>u=Value.bool b
 | .int i,u=>∃t,u=Value.int i t
 | .str x,u=>∃t,u=Value.str x t
 | .Iu b,u=>∃t,u=Value.bytes b t
 | .WM b,u=>∃t,u=Value.float b t
 | .ref a,u=>u=Value.ref a
 | .ty n,u=>u=Value.type n
noncomputable abbrev Vals:ak→aD→Prop:=Paired RelV
theorem Vals.length{xs:ak}{us:aD}(r:Vals xs us):xs.length=us.length:=Paired.length r
theorem Vals.get:∀{xs:ak} {us:aD} {i:Nat} {x:V},Vals xs us→xs[i]? =some x→∃u,us[i]? =some u∧RelV x u
 |_,_,_,_,.nil,e=>by simp at e
 |_,_,0,_,.cons r _,e=>by simp at e;subst e;exact⟨_,rfl,r⟩
 |_,_,i+1,x,.cons _ t,e=>by
  obtain⟨u,h1,h2⟩:=Vals.get (i:=i) (x:=x) t (by simpa using e);exact⟨u,by simpa using h1,h2⟩
theorem Vals.set{x:V}{u:Value}(r:RelV x u):∀{xs:ak} {us:aD} (i:Nat),Vals xs us→Vals (xs.set i x) (us.set i u)
 |_,_,_,.nil=> .nil
 |_,_,0,.cons _ t=> .cons r t
 |_,_,i+1,.cons q t=> .cons q (Vals.set r i t)
theorem Vals.append:∀{xs ys:ak} {us ws:aD},Vals xs us→Vals ys ws→Vals (xs++ys) (us++ws)
 |_,_,_,_,.nil,s=>s
 |_,_,_,_,.cons r t,s=> .cons r (Vals.append t s)
theorem Vals.take:∀{xs:ak} {us:aD} (n:Nat),Vals xs us→Vals (xs.take n) (us.take n)
 |_,_,0,_=> .nil
 |_,_,_+1,.nil=> .nil
 |_,_,n+1,.cons r t=> .cons r (Vals.take n t)
theorem Vals.drop:∀{xs:ak} {us:aD} (n:Nat),Vals xs us→Vals (xs.drop n) (us.drop n)
 |_,_,0,r=>r
 |_,_,_+1,.nil=> .nil
 |_,_,n+1,.cons _ t=>Vals.drop n t
noncomputable def l4:Option V→aI→Prop
 |some v,some u=>RelV v u
 |none,none=>True
 |_,_=>False
noncomputable def KV{κ:Type}:List (κ×V)→List (κ×Value)→Prop:=Paired fun(p:κ×V) (q:κ×Value)=>p.1=q.1∧RelV p.2 q.2
noncomputable def kV:ww→V
 | .inl i=> .int i
 | .inr x=> .str x
inductive HO where
 |lst (xs:ak)
 |tup (xs:ak)
 |dK (a6:dE)|dT (a6:mJ)
 |set (S:Int→Bool) (n:Nat)
 |ins (C dx:Addr) (fs:iG)
 |own (x:Addr)
 |xd (fs:iG)
 |met (f x:Addr)
 |rng (lo hi:Int)
 |Eo (o:Obj) (u:HO)
 |wz (ps:Array Value)
 |ext (φ:Heap→Prop)
noncomputable abbrev Hp:=Addr→Option HO
noncomputable def upd(H:Hp)(a:Addr)(o:HO):Hp:=fun b=>if b=a then some o else H b
theorem aa{H:Hp}{a:Addr}{o:HO}:upd H a o a=some o:=by unfold upd;rw[aA rfl]
theorem av{H:Hp}{a b:Addr}{o:HO}(h:b≠a):upd H a o b=H b:=by unfold upd;rw[ay h]
theorem Ov{H:Hp}{a:Addr}{o u:HO}:upd (upd H a o) a u=upd H a u:=by
 funext b;unfold upd;split<;>rfl
theorem bW{H:Hp}{a b:Addr}{o u:HO}(h:H a=some o)(h' :H b=some u)(d:o≠u):a≠b:=by
 intro e;subst e;rw[h] at h';exact d (di h')
theorem aw{H:Hp}{a b:Addr}{o:HO}(h:H a=some o)(h' :H b=none):a≠b:=by
 intro e;subst e;rw[h] at h';cases h'
section
variable(P:Program)(w:World)
noncomputable def bI(H:Hp)(h:Heap)(a:Addr):HO→Prop
 | .lst xs=>xs.length≤sizeLine∧∃(its:aD) (n:Nat),Vals xs its∧h.get? a=some {cls:= .type "list",data:= .seq its.toArray n}
 | .tup xs=>xs.length≤sizeLine∧∃its:aD,Vals xs its∧IsTup h a its.toArray
 | .dK a6=>a6.length≤sizeLine∧(a==sysModules)=false∧∃vs,KV a6 vs∧h.DictOf (cb P w) a vs
 | .dT a6=>a6.length≤sizeLine∧(a==sysModules)=false∧∃xs:List (List ww×Addr×Value),
  Paired (fun(p:List ww×V) (q:List ww×Addr×Value)=>p.1=q.1∧H q.2.1=some (.tup (p.1.map kV))∧RelV p.2 q.2.2) a6 xs∧
  ∃o es ep,h.get? a=some o∧o.ExactDict∧o.data= .dict es ep∧es.toList=xs.map (entryOfKey (tupleKind (cb P w)))∧(xs.map (·.1)).Nodup
 | .set S n=>h.SetOf (intKind P w) a S n
 | .ins C dx fs=>H dx=some (.own a)∧fs.length≤1000∧dx≠a∧h.get? a=some (instObj C dx)∧
  ∃mA,h.Ns1 dx mA∧(∀f,l4 (fs.lookup f) (mA f))∧PySem.Within mA (fs.map (·.1))
 | .own _=>∃o,h.get? a=some o
 | .xd fs=>∃mA,h.Ns1 a mA∧∀f,l4 (fs.lookup f) (mA f)
 | .rng lo hi=>∃t u v,h.get? a=some {cls:= .type "range",data:= .fields #[.int lo t,.int hi u,.int 1 v]}
 | .Eo o u=>h.get? a=some o∧bI H h a u
 | .wz ps=>h.get? a=some {cls:= .none,data:= .fields ps}
 | .met f x=>h.get? a=some (methodObj (.ref f) (.ref x))
 | .ext φ=>φ h∧(∃o,h.get? a=some o)∧∀h1 h2:Heap,φ h1→(∀o,h1.get? a=some o→h2.get? a=some o)→φ h2
noncomputable def m8(H:Hp)(h:Heap):Prop:=∀a o,H a=some o→bI P w H h a o
end
section
variable{P:Program}{w:World}{H H' :Hp}{h h' :Heap}{a:Addr}{o:HO}
theorem bI.lt(x:bI P w H h a o):a<h.objs.size:=by
 cases o with
 |lst xs=>obtain⟨_,_,_,_,e⟩:=x;exact aQ e
 |tup xs=>obtain⟨_,_,_,p⟩:=x;exact p.lt
 |dK a6=>obtain⟨_,_,_,_,o,_,_,e,_⟩:=x;exact aQ e
 |dT a6=>obtain⟨_,_,_,_,o,_,_,e,_⟩:=x;exact aQ e
 |set S n=>obtain⟨o,_,_,_,e,_⟩:=x;exact aQ e
 |ins C dx fs=>obtain⟨_,_,_,e,_⟩:=x;exact aQ e
 |own y=>obtain⟨_,e⟩:=x;exact aQ e
 |xd fs=>obtain⟨_,⟨_,_,_,e,_⟩,_⟩:=x;exact aQ e
 |rng lo hi=>obtain⟨_,_,_,e⟩:=x;exact aQ e
 |Eo ob u=>obtain⟨e,_⟩:=x;exact aQ e
 |wz ps=>exact aQ (show h.get? a=some _ from x)
 |met f y=>exact aQ (show h.get? a=some _ from x)
 |ext φ=>obtain⟨_,⟨_,e⟩,_⟩:=x;exact aQ e
theorem Paired.WE{α β:Type}{F G:α→β→Prop}:∀{Ys:List α} {Y4:List β},Paired F Ys Y4→(∀a b,F a b→G a b)→Paired G Ys Y4
 |_,_,.nil,_=> .nil
 |_,_,.cons r t,f=> .cons (f _ _ r) (Paired.WE t f)
theorem bI.xT(x:bI P w H h a o)(k:∀b u,(b=a∨H b=some (.own a))→h.get? b=some u→h'.get? b=some u)
 (ho:∀b,H b=some (.own a)→H' b=some (.own a)) (ht:∀b xs,H b=some (.tup xs)→H' b=some (.tup xs)):bI P w H' h' a o:=by
 induction o with
 |lst xs=>obtain⟨z,its,n,r,e⟩:=x;exact⟨z,its,n,r,k _ _ (.inl rfl) e⟩
 |tup xs=>obtain⟨z,its,r,ob,e,c⟩:=x;exact⟨z,its,r,ob,k _ _ (.inl rfl) e,c⟩
 |dK a6=>obtain⟨z,y,vs,r,ob,es,ep,e,c⟩:=x;exact⟨z,y,vs,r,ob,es,ep,k _ _ (.inl rfl) e,c⟩
 |dT a6=>
  obtain⟨z,y,xs,r,ob,es,ep,e,c⟩:=x;exact⟨z,y,xs,Paired.WE r fun p q z=>⟨z.1,ht _ _ z.2.1,z.2.2⟩,ob,es,ep,k _ _ (.inl rfl) e,c⟩
 |set S n=>obtain⟨ob,es,ep,t,e,c⟩:=x;exact⟨ob,es,ep,t,k _ _ (.inl rfl) e,c⟩
 |ins C dx fs=>
  obtain⟨d,z,ne,e,mA,⟨od,es,ep,e2,c⟩,r⟩:=x;exact⟨ho _ d,z,ne,k _ _ (.inl rfl) e,mA,⟨od,es,ep,k _ _ (.inr d) e2,c⟩,r⟩
 |own y=>obtain⟨ob,e⟩:=x;exact⟨ob,k _ _ (.inl rfl) e⟩
 |xd fs=>obtain⟨mA,⟨od,es,ep,e,c⟩,r⟩:=x;exact⟨mA,⟨od,es,ep,k _ _ (.inl rfl) e,c⟩,r⟩
 |rng lo hi=>obtain⟨t,u,v,e⟩:=x;exact⟨t,u,v,k _ _ (.inl rfl) e⟩
 |Eo ob u ih=>obtain⟨e,q⟩:=x;exact⟨k _ _ (.inl rfl) e,ih q⟩
 |wz ps=>
  have e:h.get? a=some {cls:= .none,data:= .fields ps}:=x;show h'.get? a=some {cls:= .none,data:= .fields ps};exact k a _ (.inl rfl) e
 |met f y=>
  have e:h.get? a=some (methodObj (.ref f) (.ref y)):=x;show h'.get? a=some (methodObj (.ref f) (.ref y));exact k a _ (.inl rfl) e
 |ext φ=>obtain⟨p,⟨o,e⟩,st⟩:=x;exact⟨st _ _ p fun o q=>k _ _ (.inl rfl) q,⟨o,k _ _ (.inl rfl) e⟩,st⟩
theorem m8.lt(x:m8 P w H h)(e:H a=some o):a<h.objs.size:=(x a o e).lt
theorem m8.fresh(x:m8 P w H h)(e:h.objs.size≤a):H a=none:=by
 cases q:H a with
 |none=>rfl
 |some u=>exact absurd (cf (x.lt q) e) (b7 _)
theorem m8.kept(x:m8 P w H h)(k:∀b u,h.get? b=some u→h'.get? b=some u):m8 P w H h' :=fun a o e=>
 (x a o e).xT (fun b u _ q=>k b u q) (fun _ q=>q) fun _ _ q=>q
theorem m8.laid(x:m8 P w H h)(k:∀b u,h.get? b=some u→h'.get? b=some u)(hp:h.objs.size≤a)(new:bI P w (upd H a o) h' a o):m8 P w (upd H a o) h' :=fun b u e=>by
 have hn:=x.fresh hp;by_cases hb:b=a
 ·subst hb;rw[aa] at e;cases e;exact new
 ·rw[av hb] at e;exact(x b u e).xT (fun c v _ q=>k c v q) (fun c q=>by rw[av (aw q hn)];exact q) fun c xs q=>by rw[av (aw q hn)];exact q
end
noncomputable def Rd(H:Hp)(a:Addr)(u:HO):Prop:=H a=some u∨∃o,H a=some (.Eo o u)
theorem Rd.ok{P:Program}{w:World}{H:Hp}{h:Heap}{a:Addr}{u:HO}(r:Rd H a u)(x:m8 P w H h):bI P w H h a u:=by
 rcases r with r|⟨o,r⟩
 ·exact x a u r
 ·obtain⟨_,q⟩:=x a _ r;exact q
noncomputable def Yl:Option HO→Prop
 |some (.lst _)=>True
 |some (.dK _)=>True
 |some (.dT _)=>True
 |some (.set _ _)=>True
 |some (.ins _ _ _)=>True
 |some (.ext _)=>True
 |_=>False
section
variable{P:Program}{w:World}{H:Hp}{h h' :Heap}{x e:Addr}{o' :HO}
theorem m8.write(ok:m8 P w H h)(mu:Yl (H x))(he:e=x∨H e=some (.own x))(k:∀b u,b≠e→h.get? b=some u→h'.get? b=some u)(Xa:∃u,h'.get? e=some u)
 (new:bI P w (upd H x o') h' x o'):m8 P w (upd H x o') h' :=fun b u q=>by
 have Zv:∀c y,H c=some (.own y)→c≠x:=fun c y r z=>by subst z;rw[r] at mu;exact mu
 have acN:∀c xs,H c=some (.tup xs)→c≠x:=fun c xs r z=>by subst z;rw[r] at mu;exact mu
 by_cases hb:b=x
 ·subst hb;rw[aa] at q;cases q;exact new
 ·rw[av hb] at q;by_cases AS:b=e
  ·have q' :H b=some (.own x):=by
    rcases he with z|z
    ·exact absurd (AS.trans z) hb
    ·rw[AS];exact z
   rw[q] at q';cases q'
   obtain⟨v,hv⟩:=Xa;exact⟨v,by rw[AS];exact hv⟩
  ·refine(ok b u q).xT (fun c v hc r=>k c v ?_ r) (fun c r=>by rw[av (Zv c b r)];exact r) fun c xs r=>by rw[av (acN c xs r)];exact r
   rcases hc with rfl|hc
   ·exact AS
   ·rintro rfl
    rcases he with z|z
    ·exact Zv c b hc z
    ·rw[hc] at z;cases z;exact hb rfl
end
structure Un(fs ex:bP)(H H' :Hp)(h h' :Heap):Prop where
 keep:∀b o,h.get? b=some o→H b=none→b∉fs→b∉ex→h'.get? b=some o
 slot:∀b o,h.get? b=some o→H b=none→b∈fs→b∉ex→∃sl,h'.get? b=some {o with slots:=sl}
 free:∀b o,h.get? b=some o→H b=none→b∉ex→H' b=none
 there:∀b o,h.get? b=some o→b∉ex→∃o',h'.get? b=some o'
 Bf:∀b xs,H b=some (.tup xs)→H' b=some (.tup xs)
 zr:∀b o u,H b=some (.Eo o u)→H' b=some (.Eo o u)
 Ad:∀b ps,H b=some (.wz ps)→∃more,H' b=some (.wz (ps++more))
section
variable{fs fs' ex ex' :bP}{H H1 H2:Hp}{h h1 h2 h' :Heap}{a x e:Addr}{o:HO}
theorem Un.any(u:Un fs ex H H1 h h1){b:Addr}{ob:Obj}(q:h.get? b=some ob)(n:H b=none)(hx:b∉ex):∃sl,h1.get? b=some {ob with slots:=sl}:=by
 by_cases hb:b∈fs
 ·exact u.slot b ob q n hb hx
 ·exact⟨ob.slots,u.keep b ob q n hb hx⟩
theorem Un.kept(k:∀b u,h.get? b=some u→h'.get? b=some u):Un fs ex H H h h' :=
 ⟨fun b ob q _ _ _=>k b ob q,fun b ob q _ _ _=>⟨ob.slots,k b ob q⟩,fun _ _ _ n _=>n,fun b ob q _=>⟨ob,k b ob q⟩,fun _ _ q=>q,fun _ _ _ q=>q,fun _ ps q=>⟨#[],by rw[q];simp⟩⟩
theorem Un.refl:Un fs ex H H h h:=Un.kept fun _ _ q=>q
theorem Un.laid(k:∀b u,h.get? b=some u→h'.get? b=some u)(hp:h.objs.size≤a)(hn:H a=none):Un fs ex H (upd H a o) h h' where
 keep:=fun b u q _ _ _=>k b u q
 slot:=fun b u q _ _ _=>⟨u.slots,k b u q⟩
 free:=fun b u q n _=>by rw[av (bN (cf (aQ q) hp))];exact n
 there:=fun b u q _=>⟨u,k b u q⟩
 Bf:=fun b xs q=>by rw[av (aw q hn)];exact q
 zr:=fun b u xs q=>by rw[av (aw q hn)];exact q
 Ad:=fun b ps q=>⟨#[],by rw[av (aw q hn),q];simp⟩
theorem Un.write(mu:Yl (H x))(he:e=x∨H e=some (.own x))(k:∀b u,b≠e→h.get? b=some u→h'.get? b=some u)(Xa:∃u,h'.get? e=some u):Un fs ex H (upd H x o) h h' :=by
 have hx:∀b,H b=none→b≠x:=fun b n z=>by subst z;rw[n] at mu;exact mu
 have hb:∀b,H b=none→b≠e:=fun b n z=>by
  subst z;rcases he with r|r
  ·exact hx b n r
  ·rw[n] at r;cases r
 have hm:∀b u,H b=some u→¬Yl (some u)→b≠x:=fun b u q nm z=>by subst z;rw[q] at mu;exact nm mu
 refine⟨fun b u q n _ _=>k b u (hb b n) q,fun b u q n _ _=>⟨u.slots,k b u (hb b n) q⟩,fun b u q n _=>by rw[av (hx b n)];exact n,fun b u q _=> ?_,
  fun b xs q=>by rw[av (hm b _ q fun z=>z)];exact q,fun b u xs q=>by rw[av (hm b _ q fun z=>z)];exact q,fun b ps q=>⟨#[],by rw[av (hm b _ q fun z=>z),q];simp⟩⟩
 by_cases AS:b=e
 ·subst AS;exact Xa
 ·exact⟨u,k b u AS q⟩
end
noncomputable def trk(h:Heap)(H:Hp):bP:=(List.range h.objs.size).filter fun a=>(H a).isSome
noncomputable def A6(h:Heap)(H:Hp):Heap:=PySem.W.hideAll h (trk h H)
theorem BE(h:Heap)(H:Hp):(A6 h H).objs.size=h.objs.size:=PySem.W.hideAll_size _ _
theorem z7{h:Heap}{H:Hp}{b:Addr}{o:Obj}(e:h.get? b=some o)(n:H b=none):(A6 h H).get? b=some o:=
 PySem.W.hideAll_get _ e fun hm=>by
  have q:(H b).isSome=true:=(lW.mp hm).2;rw[n] at q;simp at q
theorem DV{h:Heap}{H:Hp}{b:Addr}{o:Obj}(e:(A6 h H).get? b=some o):h.get? b=some o∧H b=none:=by
 have e' :h.get? b=some o:=PySem.W.of_hideAll (trk h H) e;refine⟨e',?_⟩
 cases q:H b with
 |none=>rfl
 |some x=>
  have hm:b∈trk h H:=lW.mpr ⟨iA.mpr (aQ e'),by simp[q]⟩;have z:(A6 h H).get? b=none:=PySem.W.hideAll_none (trk h H) hm;rw[z] at e;cases e
noncomputable def Pu(g h:Heap)(L:Addr):aJ:=(List.range h.objs.size).filterMap fun a=>if a=L∨(g.get? a).isSome=true then none else(h.get? a).map fun o=>(a,o)
noncomputable def rest(g h:Heap)(L d:Addr):aJ:=(Pu g h L).filter fun p=>decide (p.1≠d)
structure Mod(K:Frag)(mg:Str→aI)(base:Heap):Prop where
 tp:K.In base
 glob:base.Ns mainGlobals mg
 blt:∃mb,base.Ns builtinsNs mb∧∀x:Str,x≠ "__name__" →mb x=bootBuiltins x
 nolimit:base.NoLimit
structure Cx where
 prog:Program
 w:World
 K:Frag
 mg:Str→aI
 base:Heap
 A:Around
 N:ao
 eV:Shared
 H₀:Hp
 env:Env
 outer:List Env
 stack:List Env
 ex:bP
 fn:Str→Bool
 calm:Bool
 pn:aJ
 xe:Value→Shared→Prop
noncomputable def A5(l:List Env):bP:=l.filterMap (·.frame)
noncomputable abbrev Cx.fs(X:Cx):bP:=A5 X.outer
noncomputable def Vis(sc:Scope)(x:Str):Prop:=sc.names.lookup x=some .local∨sc.names.lookup x=some .cell∨sc.names.lookup x=some .free
noncomputable def Loc(sc:Scope)(x:Str):Prop:=sc.names.lookup x=some .local∨sc.names.lookup x=some .cell
noncomputable def jaz(env:Env)(h:Heap)(m:Str→aI)(x:Str)(u:Value):Prop:=
 (env.kindOf x=some .local∧m x=some u)∨((env.kindOf x=some .cell∨env.kindOf x=some .free)∧∃c,env.cells.lookup x=some c∧h.IsCell c (some u))
structure Cx.Ok(X:Cx):Prop where
 mod:Mod X.K X.mg X.base
 kind:X.env.scope.kind= .function
 glob:X.env.globals=mainGlobals
 blt:X.env.builtins=builtinsNs
 above:X.eV.heap.objs.size≤X.env.locals
 inj:∀x y c,X.env.cells.lookup x=some c→X.env.cells.lookup y=some c→x=y
 has:∀x,(X.env.kindOf x=some .cell∨X.env.kindOf x=some .free)→∃c,X.env.cells.lookup x=some c
 R1:∀x c,X.fn x=true→X.env.cells.lookup x=some c→X.eV.heap.objs.size≤c
 hd:X.calm=true→X.A.handled=none
 frames:X.A.frames=some X.stack
 Qe:X.stack=X.outer∨(X.stack=X.env::X.outer∧X.env.frame=some X.env.locals)
 exf:∀b∈X.ex,b≠X.env.locals∧∀x c,X.env.cells.lookup x=some c→c≠b
 bs:∀b o,X.base.get? b=some o→X.eV.heap.get? b=some o∧X.H₀ b=none
 Kc:X.base.objs.size≤X.eV.heap.objs.size
 G0:∀b o,X.base.get? b=some o→b∉X.ex
 JN:∀b∈X.ex,b∉X.fs
 qS:X.eV.heap.FunFrames X.base X.outer
 NW:∀b∈X.fs,X.H₀ b=none
structure Inv(X:Cx)(pins:aJ)(σ:List (Option V))(H:Hp)(s:Shared):Prop where
 ok:X.Ok
 os:s.os=X.eV.os
 bare:AllBare s.gens
 base:Un X.fs X.ex X.H₀ H X.eV.heap s.heap
 loc:∃m,s.heap.Ns X.env.locals m∧∀(i:Nat) (x:Str) (v:V),X.N[i]? =some x→σ[i]? =some (some v)→Vis X.env.scope x→∃u,RelV v u∧jaz X.env s.heap m x u
 cell:∀x c,X.env.cells.lookup x=some c→∃v,s.heap.IsCell c v
 free:H X.env.locals=none
 i4:∀x c,X.env.cells.lookup x=some c→H c=none
 pin:∀p∈X.pn++pins,s.heap.get? p.1=some p.2∧H p.1=none∧p.1≠X.env.locals∧p.1∉X.fs∧∀v,p.2.data≠.cell v
 bE:m8 X.prog X.w H s.heap
 len:σ.length=X.N.length
section
variable{X:Cx}{pins:aJ}{σ:List (Option V)}{H H' :Hp}{s:Shared}{h' :Heap}
theorem Cx.Ok.aeY(ok:X.Ok){b:Addr}{o:Obj}(e:X.base.get? b=some o):b∉X.fs:=fun hb=>by
 have:=(ok.qS.mem hb).1;rw[e] at this;cases this
theorem Inv.bs(I:Inv X pins σ H s):∀b o,X.base.get? b=some o→s.heap.get? b=some o∧H b=none:=fun b o e=>
 ⟨I.base.keep b o (I.ok.bs b o e).1 (I.ok.bs b o e).2 (I.ok.aeY e) (I.ok.G0 b o e),I.base.free b o (I.ok.bs b o e).1 (I.ok.bs b o e).2 (I.ok.G0 b o e)⟩
theorem Inv.bk(I:Inv X pins σ H s):∀b o,X.base.get? b=some o→s.heap.get? b=some o:=fun b o e=>(I.bs b o e).1
theorem Inv.mod(I:Inv X pins σ H s):Mod X.K X.mg X.base:=I.ok.mod
theorem Inv.je(I:Inv X pins σ H s):X.K.In s.heap:=I.ok.mod.tp.keeps I.bk
theorem Inv.fr(I:Inv X pins σ H s):∃m,Fr X.base X.env.locals s.heap m:=
 let⟨m,hn,_⟩:=I.loc
 ⟨m,hn,I.bk,aR I.ok.Kc I.ok.above⟩
theorem Inv.lt(I:Inv X pins σ H s):X.env.locals<s.heap.objs.size:=let⟨_,hn,_⟩:=I.loc;hn.lt
theorem Inv.sz(I:Inv X pins σ H s):X.eV.heap.objs.size≤s.heap.objs.size:=aR I.ok.above (bO I.lt)
theorem Inv.ab7(I:Inv X pins σ H s){a:Addr}(h:s.heap.objs.size≤a):a∉X.fs:=fun hb=>by
 obtain⟨_,o,ho,_⟩:=I.ok.qS.mem hb;exact absurd (cf (aQ ho) (aR I.sz h)) (b7 _)
theorem Inv.N6(I:Inv X pins σ H s):∀x c,X.env.cells.lookup x=some c→c≠X.env.locals:=fun x c e z=>by
 obtain⟨v,o,ho,hd⟩:=I.cell x c e;obtain⟨m,⟨o',es,ep,Ky,OJ,_⟩,_⟩:=I.loc;rw[z,Ky] at ho;cases ho;rw[OJ] at hd;cases hd
theorem Inv.qS(I:Inv X pins σ H s):s.heap.FunFrames X.base X.outer:=by
 have all:∀(l:List Env),(∀b∈A5 l,b∈X.fs)→X.eV.heap.FunFrames X.base l→s.heap.FunFrames X.base l:=by
  intro l
  induction l with
  |nil=>intro _ _;trivial
  |cons env r ih=>
   intro hs hl;obtain⟨hk,⟨L,o,hf,hn,ho,hd⟩,hr⟩:=hl;have hL:L∈X.fs:=hs L (by unfold A5;rw[mh,hf];exact e_);obtain⟨sl,e⟩:=I.base.slot L o ho (I.ok.NW L hL) hL fun z=>I.ok.JN L z hL;exact⟨hk,⟨L,_,hf,hn,e,hd⟩,ih (fun b hb=>hs b (by unfold A5;rw[mh,hf];exact ff _ hb)) hr⟩
 exact all X.outer (fun _ hb=>hb) I.ok.qS
theorem Inv.stack(I:Inv X pins σ H s):s.heap.FunFrames X.base X.stack:=by
 rcases I.ok.Qe with e|⟨e,hf⟩
 ·rw[e];exact I.qS
 ·rw[e];obtain⟨m,hn,_⟩:=I.loc;refine .cons (by rw[I.ok.kind];decide) hf hn ?_ I.qS;exact Heap.get?_none_of_le (aR I.ok.Kc I.ok.above)
theorem Inv.zL(I:Inv X pins σ H s):∀b∈A5 X.stack,b∈X.env.locals::X.fs:=fun b hb=>by
 rcases I.ok.Qe with e|⟨e,hf⟩
 ·rw[e] at hb;exact ff _ hb
 ·rw[e] at hb;unfold A5 at hb;rw[mh,hf] at hb;exact hb
theorem Inv.vd(I:Inv X pins σ H s):∀b∈A5 X.stack,H b=none:=fun b hb=>by
 rcases aU.mp (I.zL b hb) with e|hb
 ·rw[e];exact I.free
 ·obtain⟨_,o,ho,_⟩:=I.ok.qS.mem hb;exact I.base.free b o ho (I.ok.NW b hb) fun z=>I.ok.JN b z hb
theorem Inv.step{g' :Array GenState}{t' :Nat}{d' :Drawn}{ch:bP}(I:Inv X pins σ H s)
 (Ea:∀b∈ch,(b∈X.ex∨X.eV.heap.objs.size≤b)∧b≠X.env.locals∧(∀x c,X.env.cells.lookup x=some c→c≠b)∧∀p∈X.pn++pins,p.1≠b)
 (keep:∀b o,b≠X.env.locals→b∉X.fs→b∉ch→s.heap.get? b=some o→H b=none→h'.get? b=some o)
 (slot:∀b o,b≠X.env.locals→b∈X.fs→b∉ch→s.heap.get? b=some o→H b=none→∃sl,h'.get? b=some {o with slots:=sl}) (free:∀b o,b∉ch→s.heap.get? b=some o→H b=none→H' b=none)
 (there:∀b o,b∉ch→s.heap.get? b=some o→∃o',h'.get? b=some o')
 (Bf:∀b xs,H b=some (.tup xs)→H' b=some (.tup xs)) (zr:∀b o u,H b=some (.Eo o u)→H' b=some (.Eo o u)) (Ad:∀b ps,H b=some (.wz ps)→∃more,H' b=some (.wz (ps++more)))
 (ns:∀m,s.heap.Ns X.env.locals m→h'.Ns X.env.locals m) (bE:m8 X.prog X.w H' h') (hg:AllBare g'):
 Inv X pins σ H' {s with heap:=h',gens:=g',drawn:=d',toks:=t'}:=by
 have neL:∀b o,X.eV.heap.get? b=some o→b≠X.env.locals:=fun b o e=>bN (cf (aQ e) I.ok.above)
 have neC:∀b o,X.eV.heap.get? b=some o→b∉X.ex→b∉ch:=fun b o e hx hb=>by
  rcases(Ea b hb).1 with z|z
  ·exact hx z
  ·exact absurd (cf (aQ e) z) (b7 _)
 have cellK:∀x c,X.env.cells.lookup x=some c→∀v,s.heap.IsCell c v→h'.IsCell c v:=fun x c e v ⟨o,ho,hd⟩=>by
  have nch:c∉ch:=fun z=>(Ea c z).2.2.1 x c e rfl;by_cases hc:c∈X.fs
  ·obtain⟨sl,q⟩:=slot c o (I.N6 x c e) hc nch ho (I.i4 x c e);exact⟨_,q,hd⟩
  ·exact⟨o,keep c o (I.N6 x c e) hc nch ho (I.i4 x c e),hd⟩
 refine⟨I.ok,I.os,hg,⟨fun b o e n hb hx=> ?_,fun b o e n hb hx=> ?_,fun b o e n hx=> ?_,fun b o e hx=> ?_,fun b xs e=>Bf b xs (I.base.Bf b xs e),fun b o xs e=>zr b o xs (I.base.zr b o xs e),fun b ps e=> ?_⟩,?_,fun x c e=> ?_,?_,fun x c e=> ?_,fun p hp=> ?_,bE,I.len⟩
 ·exact keep b o (neL b o e) hb (neC b o e hx) (I.base.keep b o e n hb hx) (I.base.free b o e n hx)
 ·obtain⟨sl,e1⟩:=I.base.slot b o e n hb hx;obtain⟨sl',e2⟩:=slot b _ (neL b o e) hb (neC b o e hx) e1 (I.base.free b o e n hx);exact⟨sl',e2⟩
 ·obtain⟨o',e1⟩:=I.base.there b o e hx;exact free b o' (neC b o e hx) e1 (I.base.free b o e n hx)
 ·obtain⟨o',e1⟩:=I.base.there b o e hx;exact there b o' (neC b o e hx) e1
 ·obtain⟨m1,e1⟩:=I.base.Ad b ps e;obtain⟨m2,e2⟩:=Ad b _ e1;exact⟨m1++m2,by rw[e2,Array.append_assoc]⟩
 ·obtain⟨m,hn,hl⟩:=I.loc;refine⟨m,ns m hn,fun i x v e1 e2 e3=> ?_⟩;obtain⟨u,r,l⟩:=hl i x v e1 e2 e3;refine⟨u,r,?_⟩;rcases l with l|⟨k,c,e,z⟩
  ·exact .inl l
  ·exact .inr ⟨k,c,e,cellK x c e _ z⟩
 ·obtain⟨v,z⟩:=I.cell x c e;exact⟨v,cellK x c e v z⟩
 ·obtain⟨m,⟨o,_,_,ho,_⟩,_⟩:=I.loc;exact free _ o (fun z=>(Ea _ z).2.1 rfl) ho I.free
 ·obtain⟨v,o,ho,hd⟩:=I.cell x c e;exact free c o (fun z=>(Ea c z).2.2.1 x c e rfl) ho (I.i4 x c e)
 ·obtain⟨e,n,ne,nf,d⟩:=I.pin p hp;have nch:p.1∉ch:=fun z=>(Ea p.1 z).2.2.2 p hp rfl;exact⟨keep p.1 p.2 ne nf nch e n,free p.1 p.2 nch e n,ne,nf,d⟩
theorem Inv.un{t' :Nat}(I:Inv X pins σ H s)(u:Un X.fs [] H H' s.heap h')(bE:m8 X.prog X.w H' h'):Inv X pins σ H' {s with heap:=h',toks:=t'}:=by
 obtain⟨m,⟨o,es,ep,ho,r⟩,_⟩:=id I.loc;obtain⟨sl,hL⟩:=u.any ho I.free (by simp)
 exact I.step (g' :=s.gens) (d' :=s.drawn) (ch:=[]) (fun _ z=>nomatch z) (fun b o _ hb _ e n=>u.keep b o e n hb (by simp)) (fun b o _ hb _ e n=>u.slot b o e n hb (by simp)) (fun b o _ e n=>u.free b o e n (by simp)) (fun b o _ e=>u.there b o e (by simp)) u.Bf u.zr u.Ad (fun m' hm=>by
  obtain⟨o',es',Xc,Ky,r'⟩:=hm;rw[ho] at Ky;cases Ky
  exact⟨_,es',Xc,hL,r'⟩) bE I.bare
theorem Inv.call{g' :Array GenState}{t' :Nat}{d' :Drawn}{ch:bP}(I:Inv X pins σ H s)(u:Un (A5 X.stack) ch H H' s.heap h')(bE:m8 X.prog X.w H' h')(hg:AllBare g')
 (Ea:∀b∈ch,(b∈X.ex∨X.eV.heap.objs.size≤b)∧b≠X.env.locals∧(∀x c,X.env.cells.lookup x=some c→c≠b)∧∀p∈X.pn++pins,p.1≠b):
 Inv X pins σ H' {s with heap:=h',gens:=g',drawn:=d',toks:=t'}:=by
 obtain⟨m,⟨o,es,ep,ho,r⟩,_⟩:=id I.loc;obtain⟨sl,hL⟩:=u.any ho I.free fun z=>(Ea _ z).2.1 rfl
 exact I.step (ch:=ch) Ea (fun b o hL hb hc e n=>u.keep b o e n (fun z=>(aU.mp (I.zL b z)).elim hL hb) hc) (fun b o _ _ hc e n=>u.any e n hc) (fun b o hc e n=>u.free b o e n hc) (fun b o hc e=>u.there b o e hc) u.Bf u.zr u.Ad (fun m' hm=>by
  obtain⟨o',es',Xc,Ky,r'⟩:=hm;rw[ho] at Ky;cases Ky
  exact⟨_,es',Xc,hL,r'⟩) bE hg
theorem Inv.turned{t' :Nat}{it:Addr}(I:Inv X pins σ H s)(k:∀b o,b≠it→s.heap.get? b=some o→h'.get? b=some o)(hn:H it=none)(hL:it≠X.env.locals)
 (h1:it∈X.ex∨X.eV.heap.objs.size≤it) (h2:∀x c,X.env.cells.lookup x=some c→c≠it) (h3:∀p∈X.pn++pins,p.1≠it):Inv X pins σ H {s with heap:=h',toks:=t'}:=by
 have nit:∀b u,H b=some u→b≠it:=fun b u e z=>by rw[z,hn] at e;cases e
 refine I.step (g' :=s.gens) (d' :=s.drawn) (ch:=[it]) (fun b hb=> ?_) (fun b o _ _ hc e _=>k b o (fun z=>hc (by simp[z])) e) (fun b o _ _ hc e _=>⟨o.slots,k b o (fun z=>hc (by simp[z])) e⟩) (fun _ _ _ _ n=>n)
  (fun b o hc e=>⟨o,k b o (fun z=>hc (by simp[z])) e⟩) (fun _ _ e=>e) (fun _ _ _ e=>e) (fun b ps e=>⟨#[],by rw[e];simp⟩) (fun m hm=> ?_) (fun b u e=> ?_) I.bare
 ·have e:b=it:=by simpa using hb
  subst e;exact⟨h1,hL,h2,h3⟩
 ·obtain⟨o,es,ep,ho,r⟩:=hm;exact⟨o,es,ep,k _ o (bK hL) ho,r⟩
 ·refine(I.bE b u e).xT (fun c v hc q=>k c v ?_ q) (fun _ q=>q) fun _ _ q=>q;rcases hc with z|z
  ·rw[z];exact nit b u e
  ·exact nit c _ z
theorem Inv.tok(I:Inv X pins σ H s)(t:Nat):Inv X pins σ H {s with toks:=t}:=I.un (h' :=s.heap) (t' :=t) Un.refl I.bE
theorem Inv.kept{t' :Nat}(I:Inv X pins σ H s)(k:∀b u,s.heap.get? b=some u→h'.get? b=some u):Inv X pins σ H {s with heap:=h',toks:=t'}:=I.un (Un.kept k) (I.bE.kept k)
theorem Inv.laid{a:Addr}{o:HO}{t' :Nat}(I:Inv X pins σ H s)(k:∀b u,s.heap.get? b=some u→h'.get? b=some u)(hp:s.heap.objs.size≤a)(new:bI X.prog X.w (upd H a o) h' a o):
 Inv X pins σ (upd H a o) {s with heap:=h',toks:=t'}:=I.un (Un.laid k hp (I.bE.fresh hp)) (I.bE.laid k hp new)
theorem Inv.write{x e:Addr}{o:HO}{t' :Nat}(I:Inv X pins σ H s)(mu:Yl (H x))(he:e=x∨H e=some (.own x))(k:∀b u,b≠e→s.heap.get? b=some u→h'.get? b=some u)(Xa:∃u,h'.get? e=some u)
 (new:bI X.prog X.w (upd H x o) h' x o):Inv X pins σ (upd H x o) {s with heap:=h',toks:=t'}:=I.un (Un.write mu he k Xa) (I.bE.write mu he k Xa new)
theorem Inv.weak{dC :List (Option V)}(I:Inv X pins σ H s)(hl:dC.length=σ.length)(w:∀(i:Nat) v,dC[i]? =some (some v)→σ[i]? =some (some v)):Inv X pins dC H s:=
 ⟨I.ok,I.os,I.bare,I.base,let⟨m,hn,Zb⟩:=I.loc;⟨m,hn,fun i x v e1 e2 e3=>Zb i x v e1 (w i v e2) e3⟩,I.cell,I.free,I.i4,I.pin,I.bE,hl.trans I.len⟩
theorem Inv.IU{BG :aJ}(I:Inv X pins σ H s)(h:∀p∈BG,s.heap.get? p.1=some p.2∧H p.1=none∧p.1≠X.env.locals∧p.1∉X.fs∧∀v,p.2.data≠.cell v):Inv X BG σ H s:=
 ⟨I.ok,I.os,I.bare,I.base,I.loc,I.cell,I.free,I.i4,fun p hp=>(eK.mp hp).elim (fun z=>I.pin p (tm _ z)) (h p),I.bE,I.len⟩
theorem EN{N:ao}(hN:N.Nodup){i j:Nat}{x:Str}(a:N[i]? =some x)(b:N[j]? =some x):i=j:=by
 obtain⟨h1,e1⟩:=dq.mp a;obtain⟨h2,e2⟩:=dq.mp b;exact(List.getElem_inj hN).mp (e1.trans e2.symm)
theorem BI{M:Model}{A:Around}{E:Value→Shared→Prop}{i:Nat}{x:Str}{v:V}{u:Value}{Q:Unit→Shared→Prop}(I:Inv X pins σ H s)(hN:X.N.Nodup)(hi:X.N[i]? =some x)(hx:Loc X.env.scope x)(r:RelV v u)
 (h:∀s',Inv X pins (σ.set i (some v)) H s'→(∃a,Heap.SameBut a s.heap s'.heap∧(a=X.env.locals∨X.env.cells.lookup x=some a))→Q () s') (hf:X.fn x=true∨X.env.scope.names.lookup x=some .local:=by first|exact .inl rfl|exact .inr rfl|assumption):wpAny M A (storeName X.env x u) Q E s:=by
 obtain⟨m,hn,hl⟩:=id I.loc;have zx:(X.env.scope.kind== .class||(X.env.scope.kind== .module&&X.env.locals !=X.env.globals))=false:=by rw[I.ok.kind];rfl
 have Yw:i<σ.length:=by rw[I.len];exact(dq.mp hi).1
 have N6:=I.N6
 have tracked:∀{a:Addr} {h' :Heap},(∃o,s.heap.get? a=some o∧H a=none)→Heap.SameBut a s.heap h'→m8 X.prog X.w H h' :=fun{a h'} ha hs b ob e=>by
  obtain⟨_,_,SS⟩:=ha;refine(I.bE b ob e).xT (fun c w' hc q=>(hs.2 c ?_).trans q) (fun _ q=>q) fun _ _ q=>q
  rintro rfl
  rcases hc with rfl|hc
  ·rw[SS] at e;cases e
  ·rw[SS] at hc;cases hc
 rcases hx with hk|hk
 ·refine wpAny_storeName_local hk hn (fun h' E6 hs=> ?_) zx;obtain⟨oL,_,_,hoL,_⟩:=id hn;refine h _ ⟨I.ok,I.os,I.bare,⟨fun b o e n hb hx=> ?_,fun b o e n hb hx=> ?_,I.base.free,fun b o e hx=> ?_,I.base.Bf,I.base.zr,I.base.Ad⟩,⟨_,E6,fun j y v' e1 e2 e3=> ?_⟩,fun y c e=> ?_,I.free,I.i4,fun p hp=> ?_,tracked ⟨oL,hoL,I.free⟩ hs,by simpa using I.len⟩ ⟨_,hs,.inl rfl⟩
  ·exact(hs.2 b (bN (cf (aQ e) I.ok.above))).trans (I.base.keep b o e n hb hx)
  ·obtain⟨sl,e1⟩:=I.base.slot b o e n hb hx;exact⟨sl,(hs.2 b (bN (cf (aQ e) I.ok.above))).trans e1⟩
  ·obtain⟨o',e1⟩:=I.base.there b o e hx;exact⟨o',(hs.2 b (bN (cf (aQ e) I.ok.above))).trans e1⟩
  ·by_cases hj:j=i
   ·subst hj;rw[hi] at e1;cases e1
    rw[DK Yw] at e2;cases e2;exact⟨u,r,.inl ⟨hk,by simp⟩⟩
   ·rw[yg (bK hj)] at e2;obtain⟨u',r',q⟩:=hl j y v' e1 e2 e3;refine⟨u',r',?_⟩;rcases q with⟨k,e⟩|⟨k,c,e,z⟩
    ·refine .inl ⟨k,?_⟩;have:y≠x:=fun e=>hj (EN hN e1 (e▸hi));simp[this,e]
    ·exact .inr ⟨k,c,e,z.sameBut hs (N6 y c e)⟩
  ·obtain⟨w',z⟩:=I.cell y c e;exact⟨w',z.sameBut hs (N6 y c e)⟩
  ·obtain⟨e,n,ne,nf,d⟩:=I.pin p hp;exact⟨(hs.2 p.1 ne).trans e,n,ne,nf,d⟩
 ·have W_:X.fn x=true:=by
   rcases hf with z|z
   ·exact z
   ·rw[z] at hk;cases hk
  obtain⟨c,hc⟩:=I.ok.has x (.inl hk);obtain⟨w',z⟩:=I.cell x c hc;refine wpAny_storeName_cell I.ok.kind hk hc z (fun h' hc' hs=> ?_);obtain⟨oc,hoc,ady⟩:=id z;refine h {s with heap:=h'} ⟨I.ok,I.os,I.bare,⟨fun b o e n hb hx=> ?_,fun b o e n hb hx=> ?_,I.base.free,fun b o e hx=> ?_,I.base.Bf,I.base.zr,I.base.Ad⟩,⟨m,hn.sameBut hs (bK (N6 x c hc)),fun j y v' e1 e2 e3=> ?_⟩,fun y c' e=> ?_,I.free,I.i4,fun p hp=> ?_,tracked ⟨oc,hoc,I.i4 x c hc⟩ hs,by simpa using I.len⟩ ⟨c,hs,.inr hc⟩
  ·exact(hs.2 b (bN (cf (aQ e) (I.ok.R1 x c W_ hc)))).trans (I.base.keep b o e n hb hx)
  ·obtain⟨sl,e1⟩:=I.base.slot b o e n hb hx;exact⟨sl,(hs.2 b (bN (cf (aQ e) (I.ok.R1 x c W_ hc)))).trans e1⟩
  ·obtain⟨o',e1⟩:=I.base.there b o e hx;exact⟨o',(hs.2 b (bN (cf (aQ e) (I.ok.R1 x c W_ hc)))).trans e1⟩
  ·by_cases hj:j=i
   ·subst hj;rw[hi] at e1;cases e1
    rw[DK Yw] at e2;cases e2;exact⟨u,r,.inr ⟨.inl hk,c,hc,hc'⟩⟩
   ·rw[yg (bK hj)] at e2;obtain⟨u',r',q⟩:=hl j y v' e1 e2 e3;refine⟨u',r',?_⟩;rcases q with q|⟨k,c',e,z'⟩
    ·exact .inl q
    ·refine .inr ⟨k,c',e,z'.sameBut hs ?_⟩
     rintro rfl
     exact hj (EN hN e1 (I.ok.inj _ _ _ e hc▸hi))
  ·by_cases hcc:c' =c
   ·subst hcc;exact⟨_,hc'⟩
   ·obtain⟨w2,z2⟩:=I.cell y c' e;exact⟨w2,z2.sameBut hs hcc⟩
  ·obtain⟨e,n,ne,nf,d⟩:=I.pin p hp;refine⟨(hs.2 p.1 ?_).trans e,n,ne,nf,d⟩;intro q;rw[q,hoc] at e;have q' :oc=p.2:=di e;exact d w' (by rw[←q'];exact ady)
theorem kM{M:Model}{A:Around}{E:Value→Shared→Prop}{i:Nat}{x:Str}{v:V}{u:Value}{Q:Unit→Shared→Prop}(I:Inv X pins σ H s)(hN:X.N.Nodup)(hi:X.N[i]? =some x)(hx:Loc X.env.scope x)(r:RelV v u)
 (h:∀s',Inv X pins (σ.set i (some v)) H s'→Q () s') (hf:X.fn x=true∨X.env.scope.names.lookup x=some .local:=by first|exact .inl rfl|exact .inr rfl|assumption):wpAny M A (storeName X.env x u) Q E s:=
 BI I hN hi hx r (fun s' I' _=>h s' I') hf
theorem Inv.QY{s' :Shared}{ch:bP}(I:Inv X pins σ H s)(ho:s'.os=s.os)(u:Un (A5 X.stack) ch H H' s.heap s'.heap)(bE:m8 X.prog X.w H' s'.heap)(hg:AllBare s'.gens)
 (Ea:∀b∈ch,(b∈X.ex∨X.eV.heap.objs.size≤b)∧b≠X.env.locals∧(∀x c,X.env.cells.lookup x=some c→c≠b)∧∀p∈X.pn++pins,p.1≠b):Inv X pins σ H' s' :=by
 obtain⟨h',g',d',t',o'⟩:=s';have e:o' =s.os:=ho;subst e;exact I.call (g' :=g') (t' :=t') (d' :=d') u bE hg Ea
end
noncomputable abbrev XK:=Value→Option Addr→Hp→Prop
noncomputable abbrev St:=List (Option V)
noncomputable abbrev VK:=V→Hp→Prop
noncomputable abbrev TE:=St→Hp→VK→Prop
noncomputable abbrev TT:=St→Hp→(Bool→Hp→Prop)→Prop
noncomputable abbrev TA:=St→Hp→(ak→Hp→Prop)→Prop
structure Ends where
 nx:St→Hp→Prop
 rt:VK
 bk:St→Hp→Prop:=fun _ _=>False
 ct:St→Hp→Prop:=fun _ _=>False
noncomputable abbrev TS:=Ends→St→Hp→Prop
noncomputable def EP(X:Cx)(pins:aJ)(σ:St)(Q:VK)(u:Value)(s' :Shared):Prop:=∃v H',Inv X pins σ H' s'∧RelV v u∧Q v H'
noncomputable def TP(X:Cx)(pins:aJ)(σ:St)(Q:Bool→Hp→Prop)(b:Bool)(s' :Shared):Prop:=∃H',Inv X pins σ H' s'∧Q b H'
noncomputable def AP(X:Cx)(pins:aJ)(σ:St)(Q:ak→Hp→Prop)(us:aD)(s' :Shared):Prop:=∃vs H',Inv X pins σ H' s'∧Vals vs us∧Q vs H'
noncomputable def SP(X:Cx)(pins:aJ)(D:Ends)(f:Flow)(s' :Shared):Prop:=
 match f with
 | .next=>∃dC H',Inv X pins dC H' s'∧D.nx dC H'
 | .brk=>∃dC H',Inv X pins dC H' s'∧D.bk dC H'
 | .cont=>∃dC H',Inv X pins dC H' s'∧D.ct dC H'
 | .ret u=>∃v dC H',Inv X pins dC H' s'∧RelV v u∧D.rt v H'
noncomputable def PE(X:Cx)(e:Expr)(t:TE):Prop:=
 ∀(pins:aJ) (s:Shared) (σ:St) (H:Hp) (Q:VK),Inv X pins σ H s→t σ H Q→wpAny (model X.prog X.w) X.A (eval e X.env) (EP X pins σ Q) X.xe s
noncomputable def PT(X:Cx)(e:Expr)(t:TT):Prop:=
 ∀(pins:aJ) (s:Shared) (σ:St) (H:Hp) (Q:Bool→Hp→Prop),Inv X pins σ H s→t σ H Q→wpAny (model X.prog X.w) X.A (isTrue e X.env (eval e X.env)) (TP X pins σ Q) X.xe s
noncomputable def PW(X:Cx)(e:Expr)(t:TT):Prop:=
 ∀(whole:Sem Value) (pins:aJ) (s:Shared) (σ:St) (H:Hp) (Q:Bool→Hp→Prop),Inv X pins σ H s→t σ H Q→wpAny (model X.prog X.w) X.A (isTrue e X.env whole) (TP X pins σ Q) X.xe s
theorem PW.pt{X:Cx}{e:Expr}{t:TT}(h:PW X e t):PT X e t:=h _
noncomputable def PA(X:Cx)(es:cu)(t:TA):Prop:=
 ∀(pos:Pos) (pins:aJ) (s:Shared) (σ:St) (H:Hp) (Q:ak→Hp→Prop),Inv X pins σ H s→t σ H Q→wpAny (model X.prog X.w) X.A (spliced (backTo pos (starEach es X.env))) (AP X pins σ Q) X.xe s
noncomputable def PS(X:Cx)(st:Stmt)(t:TS):Prop:=
 ∀(pins:aJ) (s:Shared) (σ:St) (H:Hp) (D:Ends),Inv X pins σ H s→t D σ H→wpAny (model X.prog X.w) X.A (exec st X.env) (SP X pins D) X.xe s
noncomputable def AO(X:Cx)(st:List Stmt)(t:TS):Prop:=
 ∀(pins:aJ) (s:Shared) (σ:St) (H:Hp) (D:Ends),Inv X pins σ H s→t D σ H→wpAny (model X.prog X.w) X.A (execs st X.env) (SP X pins D) X.xe s
theorem ck{α:Type}{t:Sem α}{Q Q' :α→Shared→Prop}{M:Model}{A:Around}{E:Value→Shared→Prop}{s:Shared}(h:wpAny M A t Q E s)(hQ:∀a s,Q a s→Q' a s):wpAny M A t Q' E s:=eA h hQ fun _ _ x=>x
section
variable{X:Cx}
theorem bin{a b:Expr}{ta tb:TE}(ha:PE X a ta)(hb:PE X b tb){pins:aJ}{s:Shared}{σ:St}{H:Hp}{R:V→V→Hp→Prop}(I:Inv X pins σ H s)(h:ta σ H fun x H1=>tb σ H1 fun y H2=>R x y H2)
 {α:Type} {Q:α→Shared→Prop} {f:Value→Value→Sem α}
 (hf:∀v u s2 x y H2,Inv X pins σ H2 s2→RelV x v→RelV y u→R x y H2→wpAny (model X.prog X.w) X.A (f v u) Q X.xe s2):
 wpAny (model X.prog X.w) X.A (eval a X.env) (fun v bC=>wpAny (model X.prog X.w) X.A (eval b X.env) (fun u nW=>wpAny (model X.prog X.w) X.A (f v u) Q X.xe nW) X.xe bC) X.xe s:=by
 refine ck (ha pins s σ H _ I h) fun v s1 ⟨x,H1,I1,r1,q1⟩=> ?_;refine ck (hb pins s1 σ H1 _ I1 q1) fun u s2 ⟨y,H2,I2,r2,q2⟩=> ?_;exact hf v u s2 x y H2 I2 r1 r2 q2
noncomputable def M7(i:Nat):TE:=fun σ H Q=>∃v,σ[i]? =some (some v)∧Q v H
noncomputable def tC(v:V):TE:=fun _ H Q=>Q v H
theorem WR{i:Nat}{x:Str}{pos:Pos}(hN:X.N[i]? =some x)(hv:Vis X.env.scope x)(hd:(x==("__debug__" :Str))=false:=by decide)(zR:(x==("__classdict__" :Str))=false:=by decide):PE X (.Name x pos) (M7 i):=by
 intro pins s σ H Q I h;obtain⟨v,e,h⟩:=h;obtain⟨m,hn,hl⟩:=I.loc;obtain⟨u,r,l⟩:=hl i x v hN e hv;have fin:EP X pins σ Q u s:=⟨v,H,I,r,h⟩;rcases l with⟨hk,hm⟩|⟨hk,c,hc,IH⟩
 ·exact wpAny_Name (wpAny_loadName_local I.ok.kind hk hn hm fin) hd
 ·rcases hk with hk|hk
  ·exact wpAny_Name (wpAny_loadName_cell I.ok.kind hk hc IH fin) hd
  ·exact wpAny_Name (wpAny_loadName_free I.ok.kind hk hc IH fin zR) hd
theorem af{i j pos}:PE X (.Constant (.int i) j pos) (tC (.int i)):=fun _ _ _ H _ I h=>wpAny_Constant_int ⟨.int i,H,I.tok _,⟨_,rfl⟩,h⟩
theorem lE{b j pos}:PE X (.Constant (.bool b) j pos) (tC (.bl b)):=fun _ _ _ H _ I h=>Constant_bool ⟨.bl b,H,I,rfl,h⟩
theorem g_{j pos}:PE X (.Constant .none j pos) (tC .bx):=fun _ _ _ H _ I h=>Constant_none ⟨.bx,H,I,rfl,h⟩
theorem aB{x j pos}:PE X (.Constant (.str x) j pos) (tC (.str x)):=fun _ _ _ H _ I h=>Calls.Constant_str ⟨.str x,H,I.tok _,⟨_,rfl⟩,h⟩
noncomputable def Gl(X:Cx)(x:Str):Prop:=X.env.kindOf x=some .globalImplicit
theorem jE{E:Value→Shared→Prop}{pins:aJ}{s:Shared}{σ:St}{H:Hp}{x:Str}{u:Value}{pos:Pos}{Q:Value→Shared→Prop}(I:Inv X pins σ H s)(hg:Gl X x)(hm:X.mg x=some u)(h:Q u s)
 (hd:(x==("__debug__" :Str))=false:=by decide):wpAny (model X.prog X.w) X.A (eval (.Name x pos) X.env) Q E s:=
 Calls.Name_function_global I.ok.kind hg (Calls.loadGlobal_global (by rw[I.ok.glob];exact I.mod.glob.keeps I.bk) hm h) hd
theorem pE{E:Value→Shared→Prop}{pins:aJ}{s:Shared}{σ:St}{H:Hp}{x:Str}{u:Value}{pos:Pos}{Q:Value→Shared→Prop}(I:Inv X pins σ H s)(hg:Gl X x)(hm:X.mg x=none)(hv:bootBuiltins x=some u)(h:Q u s)
 (hn:x≠ "__name__":=by decide) (hd:(x==("__debug__" :Str))=false:=by decide):wpAny (model X.prog X.w) X.A (eval (.Name x pos) X.env) Q E s:=by
 obtain⟨mb,h1,h2⟩:=I.mod.blt;exact Calls.Name_function_global I.ok.kind hg (Calls.loadGlobal_builtin (by rw[I.ok.glob];exact I.mod.glob.keeps I.bk) hm (by rw[I.ok.blt];exact h1.keeps I.bk) ((h2 x hn).trans hv) h) hd
theorem fi{x:Str}{v:V}{u:Value}{pos:Pos}(hg:Gl X x)(hm:X.mg x=some u)(r:RelV v u)(hd:(x==("__debug__" :Str))=false:=by decide):PE X (.Name x pos) (tC v):=
 fun _ _ _ H _ I h=>jE I hg hm ⟨v,H,I,r,h⟩ hd
theorem iV{x:Str}{v:V}{u:Value}{pos:Pos}(hg:Gl X x)(hm:X.mg x=none)(hv:bootBuiltins x=some u)(r:RelV v u)(hn:x≠ "__name__":=by decide)(hd:(x==("__debug__" :Str))=false:=by decide):PE X (.Name x pos) (tC v):=
 fun _ _ _ H _ I h=>pE I hg hm hv ⟨v,H,I,r,h⟩ hn hd
variable{a b:Expr}{ta tb:TE}{pos:Pos}
noncomputable def PC(X:Cx)(op:CmpOp)(a b:Expr)(t:TE):Prop:=
 ∀(pins:aJ) (s:Shared) (σ:St) (H:Hp) (Q:VK),Inv X pins σ H s→t σ H Q→
  wpAny (model X.prog X.w) X.A (eval a X.env) (fun v bC=>wpAny (model X.prog X.w) X.A (eval b X.env) (fun u nW=>wpAny (model X.prog X.w) X.A (compareOp op v u) (EP X pins σ Q) X.xe nW) X.xe bC) X.xe s
noncomputable def tB(t:TE):TT:=fun σ H Q=>t σ H fun x H1=>∃c,x= .bl c∧Q c H1
theorem Wa{op:CmpOp}{t:TE}(h:PC X op a b t)(h1:behindInMarks op b=false:=by first|exact Yz _ (by decide) (by decide)|rfl):PT X (.Compare a [op] [b] pos) (tB t):=by
 intro pins s σ H Q I hw;refine wpAny_isTrue_Compare1 (ck (h pins s σ H _ I hw) fun v s1 h1=>ck h1 fun u s2 h2=>ck h2 fun c s3 ⟨x,H1,I1,r1,q1⟩=> ?_) h1;obtain⟨d,rfl,q⟩:=q1;cases r1;exact nr ⟨H1,I1,q⟩
theorem iN{e:Expr}{t:TE}(h:PE X e t)(he:∀whole,isTrue e X.env whole=(do let v←whole;standAt e.pos;holding [v] (truthy v)):=by intro _;rfl):PT X e (tB t):=by
 intro pins s σ H Q I hw;refine isTrue_plain (ck (h pins s σ H _ I hw) fun v s1 ⟨x,H1,I1,r1,q1⟩=> ?_) (he _);obtain⟨d,rfl,q⟩:=q1;cases r1;exact nr ⟨H1,I1,q⟩
variable{tA tB' :TT}{rest:cu}
noncomputable def aeF(t u:TT):TT:=fun σ H Q=>t σ H fun c H1=>if c=true then u σ H1 Q else Q false H1
noncomputable def tOr(t u:TT):TT:=fun σ H Q=>t σ H fun c H1=>if c=true then Q true H1 else u σ H1 Q
noncomputable def aeJ(t:TT):TT:=fun σ H Q=>t σ H fun c H1=>Q (!c) H1
theorem wT(ha:PT X a tA):PW X (.BoolOp .And [a] pos) tA:=by
 intro wh pins s σ H Q I h;refine isTrue_and (ck (ha pins s σ H Q I h) fun c s1 e=> ?_)
 cases c with
 |true=>exact isTrue_and_nil e
 |false=>exact e
theorem WP(ha:PT X a tA):PW X (.BoolOp .Or [a] pos) tA:=by
 intro wh pins s σ H Q I h;refine isTrue_or (ck (ha pins s σ H Q I h) fun c s1 e=> ?_)
 cases c with
 |false=>exact isTrue_or_nil e
 |true=>exact e
theorem wS(ha:PT X a tA)(hb:PW X (.BoolOp .And (b::rest) pos) tB'):PW X (.BoolOp .And (a::b::rest) pos) (aeF tA tB'):=by
 intro wh pins s σ H Q I h;refine isTrue_and (ck (ha pins s σ H _ I h) fun c s1 ⟨H1,I1,q1⟩=> ?_)
 cases c with
 |true=>exact hb wh pins s1 σ H1 Q I1 q1
 |false=>exact⟨H1,I1,q1⟩
theorem XV(ha:PT X a tA)(hb:PW X (.BoolOp .Or (b::rest) pos) tB'):PW X (.BoolOp .Or (a::b::rest) pos) (tOr tA tB'):=by
 intro wh pins s σ H Q I h;refine isTrue_or (ck (ha pins s σ H _ I h) fun c s1 ⟨H1,I1,q1⟩=> ?_)
 cases c with
 |true=>exact⟨H1,I1,q1⟩
 |false=>exact hb wh pins s1 σ H1 Q I1 q1
theorem kK(ha:PT X a tA):PT X (.UnaryOp .Not a pos) (aeJ tA):=by
 intro pins s σ H Q I h;exact isTrue_not (ha pins s σ H (fun c H1=>Q (!c) H1) I h)
noncomputable def Zy(ta tb:TE):TE:=fun σ H Q=>ta σ H fun x H1=>∃c,x= .bl c∧if c=true then tb σ H1 Q else Q (.bl false) H1
noncomputable def ad0(ta tb:TE):TE:=fun σ H Q=>ta σ H fun x H1=>∃c,x= .bl c∧if c=true then Q (.bl true) H1 else tb σ H1 Q
noncomputable def Yi(ta:TE):TE:=fun σ H Q=>ta σ H fun x H1=>∃c,x= .bl c∧Q (.bl (!c)) H1
theorem lQ{op}{t:TE}(h:PE X a t):PE X (.BoolOp op [a] pos) t:=fun pins s σ H Q I hw=>BoolOp_one (h pins s σ H Q I hw)
theorem nZ(ha:PE X a ta)(hb:PE X (.BoolOp .And (b::rest) pos) tb):PE X (.BoolOp .And (a::b::rest) pos) (Zy ta tb):=by
 intro pins s σ H Q I h;refine BoolOp_and (ck (ha pins s σ H _ I h) fun v s1 ⟨x,H1,I1,r1,q1⟩=> ?_);obtain⟨c,rfl,q1⟩:=q1;cases r1;refine nr ?_
 cases c with
 |true=>exact hb pins s1 σ H1 Q I1 q1
 |false=>exact⟨.bl false,H1,I1,rfl,q1⟩
theorem Q7(ha:PE X a ta)(hb:PE X (.BoolOp .Or (b::rest) pos) tb):PE X (.BoolOp .Or (a::b::rest) pos) (ad0 ta tb):=by
 intro pins s σ H Q I h;refine BoolOp_or (ck (ha pins s σ H _ I h) fun v s1 ⟨x,H1,I1,r1,q1⟩=> ?_);obtain⟨c,rfl,q1⟩:=q1;cases r1;refine nr ?_
 cases c with
 |false=>exact hb pins s1 σ H1 Q I1 q1
 |true=>exact⟨.bl true,H1,I1,rfl,q1⟩
theorem Mx(ha:PE X a ta):PE X (.UnaryOp .Not a pos) (Yi ta):=by
 intro pins s σ H Q I h;refine UnaryOp_ (ck (ha pins s σ H _ I h) fun v s1 ⟨x,H1,I1,r1,q1⟩=> ?_);obtain⟨c,rfl,q1⟩:=q1;cases r1;exact not_of (nr ⟨.bl (!c),H1,I1,rfl,q1⟩)
noncomputable def tIf(t:TT)(ta tb:TE):TE:=fun σ H Q=>t σ H fun c H1=>if c=true then ta σ H1 Q else tb σ H1 Q
theorem zX{c:Expr}(hc:PT X c tA)(ha:PE X a ta)(hb:PE X b tb):PE X (.IfExp c a b pos) (tIf tA ta tb):=by
 intro pins s σ H Q I h;refine wpAny_IfExp (ck (hc pins s σ H _ I h) fun d s1 ⟨H1,I1,q1⟩=> ?_)
 cases d with
 |true=>exact ha pins s1 σ H1 Q I1 q1
 |false=>exact hb pins s1 σ H1 Q I1 q1
end
noncomputable def bF(K:Frag)(H:Hp)(a:Addr)(xs:ak):Prop:=
 Rd H a (.lst xs)∨
  ∃(o:Obj) (its:Array Value) (n:Nat),K.lookup a=some o∧o.cls= .type "list" ∧o.dict=none∧o.data= .seq its n∧its.size≤sizeLine∧Vals xs its.toList
noncomputable def bc(K:Frag)(H:Hp)(a:Addr)(xs:ak):Prop:=
 Rd H a (.tup xs)∨
  ∃(o:Obj) (its:Array Value) (n:Nat),K.lookup a=some o∧o.cls= .type "tuple" ∧o.data= .seq its n∧its.size≤sizeLine∧Vals xs its.toList
noncomputable def aeB:Value→Option V
 | .none=>some .bx
 | .bool b=>some (.bl b)
 | .int i _=>some (.int i)
 | .str x _=>some (.str x)
 | .bytes b _=>some (.Iu b)
 | .float b _=>some (.WM b)
 | .ref a=>some (.ref a)
 | .type n=>some (.ty n)
 |_=>none
theorem RelV.abs{x:V}{u:Value}(r:RelV x u):aeB u=some x:=by
 cases x with
 |bx=>cases r;rfl
 |bl _=>cases r;rfl
 |int _=>obtain⟨t,rfl⟩:=r;rfl
 |str _=>obtain⟨t,rfl⟩:=r;rfl
 |Iu _=>obtain⟨t,rfl⟩:=r;rfl
 |WM _=>obtain⟨t,rfl⟩:=r;rfl
 |ref _=>cases r;rfl
 |ty _=>cases r;rfl
theorem RelV.inj{x y:V}{u:Value}(r:RelV x u)(q:RelV y u):x=y:=di (r.abs.symm.trans q.abs)
theorem Vals.inj:∀{xs ys:ak} {us:aD},Vals xs us→Vals ys us→xs=ys
 |_,_,_,.nil,.nil=>rfl
 |_,_,_,.cons r t,.cons r' t' =>by rw[r.inj r',Vals.inj t t']
section
variable{X:Cx}{pins:aJ}{σ:St}{H:Hp}{s:Shared}{a:Addr}{xs ys:ak}
theorem bF.of{K:Frag}(h:H a=some (.lst xs)):bF K H a xs:= .inl (.inl h)
theorem bc.of{K:Frag}(h:H a=some (.tup xs)):bc K H a xs:= .inl (.inl h)
theorem Inv.list(I:Inv X pins σ H s)(h:bF X.K H a xs):∃its:aD,Vals xs its∧PlainL s.heap a its.toArray∧xs.length≤sizeLine:=by
 rcases h with h|⟨o,its,n,hk,hc,hd,hs,hz,r⟩
 ·obtain⟨z,its,n,r,e⟩:=h.ok I.bE;exact⟨its,r,⟨_,n,e,rfl,rfl,rfl⟩,z⟩
 ·refine⟨its.toList,r,⟨o,n,I.je a o hk,hc,hd,by simpa using hs⟩,?_⟩;have e:=r.length;simp only[tZ] at e;omega
theorem Inv.tuple(I:Inv X pins σ H s)(h:bc X.K H a xs):∃its:aD,Vals xs its∧IsTup s.heap a its.toArray∧xs.length≤sizeLine:=by
 rcases h with h|⟨o,its,n,hk,hc,hs,hz,r⟩
 ·obtain⟨z,its,r,p⟩:=h.ok I.bE;exact⟨its,r,p,z⟩
 ·refine⟨its.toList,r,⟨o,I.je a o hk,hc,n,by simpa using hs⟩,?_⟩;have e:=r.length;simp only[tZ] at e;omega
theorem Inv.Ek(I:Inv X pins σ H s)(h:bF X.K H a xs)(h' :bF X.K H a ys):xs=ys:=by
 obtain⟨its,r,⟨o,n,e,_,_,d⟩,_⟩:=I.list h;obtain⟨its',r',⟨o',n',e',_,_,d'⟩,_⟩:=I.list h';rw[e] at e';cases e'
 rw[d] at d';injection d' with d1 _;have:its=its' :=by simpa using congrArg Array.toList d1
 subst this;exact r.inj r'
theorem Inv.JR(I:Inv X pins σ H s)(h:bc X.K H a xs)(h' :bc X.K H a ys):xs=ys:=by
 obtain⟨its,r,⟨o,e,_,n,d⟩,_⟩:=I.tuple h;obtain⟨its',r',⟨o',e',_,n',d'⟩,_⟩:=I.tuple h';rw[e] at e';cases e'
 rw[d] at d';injection d' with d1 _;have:its=its' :=by simpa using congrArg Array.toList d1
 subst this;exact r.inj r'
end
noncomputable abbrev Cx.Bb(X:Cx)(E:Value→Shared→Prop):Cx:={X with xe:=E}
noncomputable abbrev Cx.Gg(X:Cx):Cx:=X.Bb fun _ _=>False
theorem Cx.Ok.Bb{X:Cx}(ok:X.Ok)(E:Value→Shared→Prop):(X.Bb E).Ok:=
 ⟨ok.mod,ok.kind,ok.glob,ok.blt,ok.above,ok.inj,ok.has,ok.R1,ok.hd,ok.frames,ok.Qe,ok.exf,ok.bs,ok.Kc,ok.G0,ok.JN,ok.qS,ok.NW⟩
theorem Cx.Ok.o5{X:Cx}{E:Value→Shared→Prop}(ok:(X.Bb E).Ok):X.Ok:=
 ⟨ok.mod,ok.kind,ok.glob,ok.blt,ok.above,ok.inj,ok.has,ok.R1,ok.hd,ok.frames,ok.Qe,ok.exf,ok.bs,ok.Kc,ok.G0,ok.JN,ok.qS,ok.NW⟩
section
variable{X:Cx}{pins:aJ}{σ:St}{H:Hp}{s:Shared}{E:Value→Shared→Prop}
theorem Inv.Bb(I:Inv X pins σ H s)(E:Value→Shared→Prop):Inv (X.Bb E) pins σ H s:=⟨I.ok.Bb E,I.os,I.bare,I.base,I.loc,I.cell,I.free,I.i4,I.pin,I.bE,I.len⟩
theorem Inv.o5(I:Inv (X.Bb E) pins σ H s):Inv X pins σ H s:=⟨I.ok.o5,I.os,I.bare,I.base,I.loc,I.cell,I.free,I.i4,I.pin,I.bE,I.len⟩
theorem SP.o5{D:Ends}{f:Flow}{s' :Shared}(h:SP (X.Bb E) pins D f s'):SP X pins D f s' :=by
 cases f with
 |next=>obtain⟨dC,H',I,q⟩:=h;exact⟨dC,H',I.o5,q⟩
 |brk=>obtain⟨dC,H',I,q⟩:=h;exact⟨dC,H',I.o5,q⟩
 |cont=>obtain⟨dC,H',I,q⟩:=h;exact⟨dC,H',I.o5,q⟩
 |ret u=>obtain⟨v,dC,H',I,r,q⟩:=h;exact⟨v,dC,H',I.o5,r,q⟩
theorem AO.Gg{st:List Stmt}{t:TS}(h:AO X.Gg st t):AO X st t:=fun pins s σ H D I hw=>
 eA (h pins s σ H D (I.Bb _) hw) (fun _ _ q=>q.o5) fun _ _ z=>False.elim z
end
section
variable{X:Cx}{st:Stmt}{rest:List Stmt}{t u:TS}{e:Expr}{te:TE}{pos:Pos}
noncomputable def MC:TS:=fun D σ H=>D.nx σ H
noncomputable def P6(t u:TS):TS:=fun D σ H=>t {D with nx:=u D} σ H
theorem aV:AO X [] MC:=fun _ _ σ H _ I h=>uM ⟨σ,H,I,h⟩
theorem ag(h1:PS X st t)(h2:AO X rest u):AO X (st::rest) (P6 t u):=by
 intro pins s σ H D I h;refine wpAny_execs_cons (ck (h1 pins s σ H {D with nx:=u D} I h) fun f s1 q=> ?_)
 cases f with
 |next=>
  obtain⟨dC,H',I',q⟩:=q;exact h2 pins s1 dC H' D I' q
 |ret v=>exact q
 |brk=>exact q
 |cont=>exact q
theorem ai(h1:PS X st t):AO X [st] t:=by
 intro pins s σ H D I h;refine wpAny_execs_cons (ck (h1 pins s σ H D I h) fun f s1 q=> ?_)
 cases f with
 |next=>exact uM q
 |ret v=>exact q
 |brk=>exact q
 |cont=>exact q
theorem Inv.quiet{pins:aJ}{σ:St}{H:Hp}{s:Shared}(I:Inv X pins σ H s):interactive X.env=false:=by simp[interactive,I.ok.kind]
noncomputable def aaq(te:TE):TS:=fun D σ H=>te σ H fun _ H1=>D.nx σ H1
theorem bf(he:PE X e te)(hs:swapsWith e none pos.line X.env=pure false:=by rfl):PS X (.Expr e pos) (aaq te):=by
 intro pins s σ H D I h;exact wpAny_Expr_any (ck (he pins s σ H _ I h) fun v s1 ⟨x,H1,I1,r1,q1⟩=>⟨σ,H1,I1,q1⟩) I.quiet hs
noncomputable def YM(te:TE):TS:=fun D σ H=>te σ H D.rt
theorem aF(he:PE X e te):PS X (.Return (some e) pos) (YM te):=by
 intro pins s σ H D I h;exact wpAny_Return_some (ck (he pins s σ H _ I h) fun v s1 ⟨x,H1,I1,r1,q1⟩=>⟨x,σ,H1,I1,r1,q1⟩)
noncomputable def VR(c:TT)(t u:TS):TS:=fun D σ H=>c σ H fun b H1=>if b=true then t D σ H1 else u D σ H1
theorem bu{c:Expr}{a b:List Stmt}{tc:TT}(hc:PT X c tc)(ha:AO X a t)(hb:AO X b u):PS X (.If c a b pos) (VR tc t u):=by
 intro pins s σ H D I h;refine wpAny_If (ck (hc pins s σ H _ I h) fun d s1 ⟨H1,I1,q1⟩=> ?_)
 cases d with
 |true=>exact ha pins s1 σ H1 D I1 q1
 |false=>exact hb pins s1 σ H1 D I1 q1
noncomputable def U7:TS:=fun _ _ _=>False
theorem E5:PS X st U7:=fun _ _ _ _ _ _ h=>h.elim
end
noncomputable abbrev TG:=V→St→Hp→(St→Hp→Prop)→Prop
noncomputable abbrev Ua:=ak→St→Hp→(St→Hp→Prop)→Prop
noncomputable def PG(X:Cx)(target:Expr)(t:TG):Prop:=
 ∀(pins:aJ) (s:Shared) (σ:St) (H:Hp) (v:V) (u:Value) (Q:St→Hp→Prop),Inv X pins σ H s→RelV v u→t v σ H Q→
  wpAny (model X.prog X.w) X.A (assign target X.env u) (fun _ s' =>∃dC H',Inv X pins dC H' s'∧Q dC H') X.xe s
noncomputable def X2(X:Cx)(ts:cu)(t:Ua):Prop:=
 ∀(pins:aJ) (s:Shared) (σ:St) (H:Hp) (vs:ak) (us:aD) (Q:St→Hp→Prop),Inv X pins σ H s→Vals vs us→t vs σ H Q→
  wpAny (model X.prog X.w) X.A (assignInOrder ((assignEach ts X.env).map (·.2)) us) (fun _ s' =>∃dC H',Inv X pins dC H' s'∧Q dC H') X.xe s
noncomputable abbrev VT:=V→V→V→Hp→(Hp→Prop)→Prop
noncomputable def YJ(X:Cx)(t:VT):Prop:=
 ∀(pins:aJ) (s:Shared) (σ:St) (H:Hp) (o i v:V) (ov iv u:Value) (Q:Hp→Prop),Inv X pins σ H s→RelV o ov→RelV i iv→RelV v u→t o i v H Q→
  wpAny (model X.prog X.w) X.A (setItem ov iv u) (fun _ s' =>∃H',Inv X pins σ H' s'∧Q H') X.xe s
noncomputable abbrev TIp:=V→V→Hp→VK→Prop
noncomputable def PIp(X:Cx)(op:Operator)(t:TIp):Prop:=
 ∀(pins:aJ) (s:Shared) (σ:St) (H:Hp) (x y:V) (v u:Value) (Q:VK),Inv X pins σ H s→RelV x v→RelV y u→t x y H Q→
  wpAny (model X.prog X.w) X.A (inplaceOp op v u) (EP X pins σ Q) X.xe s
section
variable{X:Cx}{pos:Pos}
noncomputable def zQ(i:Nat):TG:=fun v σ H Q=>Q (σ.set i (some v)) H
theorem PY{i:Nat}{x:Str}(hN:X.N.Nodup)(hi:X.N[i]? =some x)(hx:Loc X.env.scope x)(hf:X.fn x=true∨X.env.scope.names.lookup x=some .local:=by first|exact .inl rfl|exact .inr rfl|assumption):PG X (.Name x pos) (zQ i):=by
 intro pins s σ H v u Q I r h;exact wpAny_assign_Name (kM I hN hi hx r (fun s' I' =>⟨_,H,I',h⟩) hf)
noncomputable def ac7:Ua:=fun vs σ H Q=>vs=[]∧Q σ H
noncomputable def ZW(t:TG)(u:Ua):Ua:=fun vs σ H Q=>∃v r,vs=v::r∧t v σ H fun dC H' =>u r dC H' Q
theorem fq:X2 X [] ac7:=by
 intro pins s σ H vs us Q I r h;obtain⟨e,h⟩:=h;subst e;cases r;exact assignInOrder_nil ⟨σ,H,I,h⟩
theorem a_{e:Expr}{es:cu}{t:TG}{u:Ua}(h1:PG X e t)(h2:X2 X es u)
 (hs:(assignEach (e::es) X.env).map (·.2)=assign e X.env::(assignEach es X.env).map (·.2):=by rfl):X2 X (e::es) (ZW t u):=by
 intro pins s σ H vs us Q I r h;obtain⟨v,vr,e1,h⟩:=h;subst e1
 cases r with
 |cons r rr=>
  rw[hs];refine assignInOrder_cons (ck (h1 pins s σ H _ _ _ I r h) fun _ s1 ⟨σ1,H1,I1,q1⟩=> ?_);exact h2 pins s1 σ1 H1 _ _ Q I1 rr q1
noncomputable def XD(K:Frag)(n:Nat)(t:Ua):TG:=fun v σ H Q=>∃a xs,v= .ref a∧bc K H a xs∧xs.length=n∧t xs σ H Q
theorem lX{es:cu}{k:Nat}{t:Ua}{n:Nat}(hc:X.calm=true)(h:X2 X es t)
 (hn:(assignEach es X.env).length=n:=by rfl) (mv:(assignEach es X.env).findIdx? (·.1)=none:=by rfl):PG X (.Tuple es k pos) (XD X.K n t):=by
 intro pins s σ H v u Q I r hw;obtain⟨a,xs,e1,hq,hl,hw⟩:=hw;subst e1;cases r;obtain⟨its,rv,ht,hz⟩:=I.tuple hq;refine assign_Tuple_tuple (I.ok.hd hc) ht (by simp[hn,←hl,rv.length]) mv fun h' hx=> ?_;have I1:Inv X pins σ H {s with heap:=h'}:=I.kept (t' :=s.toks) fun b o e=>hx b o (bN (aQ e)) e;exact h pins _ σ H xs _ Q I1 (by simpa using rv) hw
noncomputable def aes(to ti:TE)(t:VT):TG:=fun v σ H Q=>to σ H fun o H1=>ti σ H1 fun i H2=>t o i v H2 fun H3=>Q σ H3
theorem GF{o i:Expr}{to ti:TE}{t:VT}(ho:PE X o to)(hi:PE X i ti)(hs:YJ X t)
 (ha:∀v,assign (.Subscript o i pos) X.env v=(do
  let ov←holding [v] (eval o X.env)
  let iv←holding [v,ov] (eval i X.env)
  standAt pos
  holding [v,ov,iv] (setItem ov iv v)
  release [v,ov,iv] []):=by intro _;rfl):PG X (.Subscript o i pos) (aes to ti t):=by
 intro pins s σ H v u Q I r h;rw[ha];refine ah (gZ (ck (ho pins s σ H _ I h) fun ov s1 ⟨x,H1,I1,r1,q1⟩=> ?_));refine ah (gZ (ck (hi pins s1 σ H1 _ I1 q1) fun iv s2 ⟨y,H2,I2,r2,q2⟩=> ?_));refine ah (pM (ah (gZ (ck (hs pins s2 σ H2 x y v ov iv u _ I2 r1 r2 r q2) fun _ s3 ⟨H3,I3,q3⟩=> ?_))));exact wpAny_release ⟨σ,H3,I3,q3⟩
noncomputable def JZ(te:TE)(g:TG):TS:=fun D σ H=>te σ H fun x H1=>g x σ H1 D.nx
theorem vQ{tg e:Expr}{te:TE}{g:TG}(he:PE X e te)(hg:PG X tg g)(hs:swapsWithSole [tg] e pos.line X.env=pure false:=by rfl)(hw:swappedStores [tg] e X.env=pure none:=by rfl)
 (h1:(assignEach [tg] X.env).map (·.2)=[assign tg X.env]:=by rfl):PS X (.Assign [tg] e pos) (JZ te g):=by
 intro pins s σ H D I h;refine wpAny_Assign_stores (ck (he pins s σ H _ I h) fun v s1 ⟨x,H1,I1,r1,q1⟩=> ?_) hs hw;rw[h1];exact ck (hg pins s1 σ H1 x v _ I1 r1 q1) fun _ s2 q=>q
theorem LS{i:Nat}{x:Str}{e:Expr}{te:TE}{pos' :Pos}(hN:X.N.Nodup)(hi:X.N[i]? =some x)(hx:Loc X.env.scope x)(he:PE X e te)(hs:swapsWith e (some (.Name x pos')) pos.line X.env=pure false:=by rfl)(hf:X.fn x=true∨X.env.scope.names.lookup x=some .local:=by first|exact .inl rfl|exact .inr rfl|assumption):
 PS X (.Assign [.Name x pos'] e pos) (JZ te (zQ i)):=by
 intro pins s σ H D I h;refine wpAny_Assign_Name (ck (he pins s σ H _ I h) fun v s1 ⟨y,H1,I1,r1,q1⟩=> ?_) hs;exact kM I1 hN hi hx r1 (fun s2 I2=>⟨_,H1,I2,q1⟩) hf
noncomputable def acj(i j:Nat)(ta:TA):TS:=fun D σ H=>ta σ H fun vs H1=>∃v w,vs=[v,w]∧D.nx ((σ.set i (some v)).set j (some w)) H1
theorem MN{i j:Nat}{x y:Str}{a b:Expr}{ta:TA}{px py pt:Pos}{kt k2 pt2}(hc:X.calm=true)(hN:X.N.Nodup)(hi:X.N[i]? =some x)(hj:X.N[j]? =some y)(hij:i≠j)
 (hx:X.env.scope.names.lookup x=some .local) (hy:X.env.scope.names.lookup y=some .local) (ha:PA X [a,b] ta)
 (hw:swappedStores [.Tuple [.Name x px,.Name y py] kt pt] (.Tuple [a,b] k2 pt2) X.env=pure (some [x,y]))
 (hs:swapsWithSole [.Tuple [.Name x px,.Name y py] kt pt] (.Tuple [a,b] k2 pt2) pos.line X.env=pure false:=by rfl):
 PS X (.Assign [.Tuple [.Name x px,.Name y py] kt pt] (.Tuple [a,b] k2 pt2) pos) (acj i j ta):=by
 intro pins s σ H D I h;rw[exec_Assign_arm];refine ah (pM ?_);rw[hs];refine ah (aC ?_);rw[ay (by decide)];refine ah (Tuple_ (ck (ha _ pins s σ H _ I h) fun us s1 ⟨vs,H1,I1,r1,q1⟩=> ?_));obtain⟨v,w,e1,q1⟩:=q1;subst e1
 obtain⟨u1,u2,rfl,rv,Mv⟩:∃u1 u2,us=[u1,u2]∧RelV v u1∧RelV w u2:=by
  cases r1 with
  |cons p q=>
   cases q with
   |cons p' q' =>
    cases q';exact⟨_,_,rfl,p,p'⟩
 refine gm ?_ (by show 2≤sizeLine;decide);have I2:Inv X pins σ H1 {s1 with heap:=s1.heap.push {cls:= .type "tuple",data:= .seq [u1,u2].toArray}}:=I1.kept (t' :=s1.toks) fun b o e=>a8 _ e;rw[hw];refine ah (aC ?_);show wpAny (model X.prog X.w) X.A (do rule "assign.swapped-stores";let items←unpackItems (.ref s1.heap.objs.size) 2 none;assignInOrder [fun v=>bindName X.env y v,fun v=>bindName X.env x v] items.reverse;pure Flow.next) _ _ _;refine ah (qH (ah (unpackItems_tuple (items:= #[u1,u2]) (I.ok.hd hc) (IsTup.new s1.heap _) fun h' Xf => ?_)));have I3:=I2.kept (h' :=h') (t' :=s1.toks) fun b o e=>Xf b o (bN (aQ e)) e;show wpAny _ _ (assignInOrder [fun v=>bindName X.env y v,fun v=>bindName X.env x v] [u2,u1]>>= fun _=>pure Flow.next) _ _ _;refine ah (assignInOrder_cons (wpAny_bindName (kM I3 hN hj (.inl hy) Mv (fun s2 I4=> ?_) (.inr hy))));refine assignInOrder_cons (wpAny_bindName (kM I4 hN hi (.inl hx) rv (fun s3 I5=>assignInOrder_nil (aC ?_)) (.inr hx)));rw[List.set_comm _ _ (bK hij)] at I5;exact⟨_,H1,I5,q1⟩
noncomputable def ac_(i:Nat)(te:TE)(ti:TIp):TS:=fun D σ H=>∃x,σ[i]? =some (some x)∧te σ H fun y H1=>ti x y H1 fun z H2=>D.nx (σ.set i (some z)) H2
theorem F7{i:Nat}{x:Str}{e:Expr}{te:TE}{op:Operator}{ti:TIp}{pos' :Pos}(hN:X.N.Nodup)(hi:X.N[i]? =some x)(hx:Loc X.env.scope x)(he:PE X e te)(ho:PIp X op ti)(hf:X.fn x=true∨X.env.scope.names.lookup x=some .local:=by first|exact .inl rfl|exact .inr rfl|assumption):
 PS X (.AugAssign (.Name x pos') op e pos) (ac_ i te ti):=by
 intro pins s σ H D I h;obtain⟨v,e1,h⟩:=h;obtain⟨m,hn,hl⟩:=I.loc
 have vis:Vis X.env.scope x:=by rcases hx with k|k;exact .inl k;exact .inr (.inl k)
 obtain⟨u,r,l⟩:=hl i x v hi e1 vis;refine wpAny_AugAssign_Name ?_
 have go:wpAny (model X.prog X.w) X.A (eval e X.env) (fun w nW=>wpAny (model X.prog X.w) X.A (inplaceOp op u w) (fun r vt=>wpAny (model X.prog X.w) X.A (storeName X.env x r) (fun _=>SP X pins D .next) X.xe vt) X.xe nW) X.xe s:=by
  refine ck (he pins s σ H _ I h) fun w s1 ⟨y,H1,I1,r1,q1⟩=> ?_;refine ck (ho pins s1 σ H1 v y u w _ I1 r r1 q1) fun z s2 ⟨zv,H2,I2,r2,q2⟩=> ?_;exact kM I2 hN hi hx r2 (fun s3 I3=>⟨_,H2,I3,q2⟩) hf
 rcases l with⟨hk,hm⟩|⟨hk,c,hc,IH⟩
 ·exact wpAny_loadName_local I.ok.kind hk hn hm go
 ·rcases hk with hk|hk
  ·exact wpAny_loadName_cell I.ok.kind hk hc IH go
  ·rcases hx with k|k
   ·have:X.env.scope.names.lookup x=some .free:=hk;rw[k] at this;cases this
   ·have:X.env.scope.names.lookup x=some .free:=hk;rw[k] at this;cases this
noncomputable def ipI(f:Int→Int→Int):TIp:=fun x y H Q=>∃i j,x= .int i∧y= .int j∧Q (.int (f i j)) H
theorem FY:PIp X .Add (ipI fun i j=>i+j):=by
 intro pins s σ H x y v u Q I r1 r2 h;obtain⟨i,j,e1,e2,q⟩:=h;subst e1;subst e2
 obtain⟨t,rfl⟩:=r1;obtain⟨t',rfl⟩:=r2;exact iadd_int ⟨.int _,H,I.tok _,⟨_,rfl⟩,q⟩
end
section
variable{X:Cx}{pos:Pos}
end
structure It where
 go:Nat→Hp→Prop
 yO:Nat→Hp→V→Hp→Prop
 stop:Nat→Hp→Prop
noncomputable def A4(X:Cx)(pins:aJ)(H:Hp)(b:Addr):Prop:=
 H b=none∧b≠X.env.locals∧b∉X.fs∧(b∈X.ex∨X.eV.heap.objs.size≤b)∧(∀x c,X.env.cells.lookup x=some c→c≠b)∧∀p∈X.pn++pins,p.1≠b
theorem Inv.CH{X:Cx}{pins:aJ}{σ:St}{H H' :Hp}{s:Shared}{b:Addr}(I:Inv X pins σ H s)(hb:s.heap.objs.size≤b)(hn:H' b=none):A4 X pins H' b:=by
 refine⟨hn,hU (cf I.lt hb),I.ab7 hb,.inr (aR I.sz hb),fun x c e z=> ?_,fun p hp z=> ?_⟩
 ·obtain⟨v,q⟩:=I.cell x c e;exact absurd (cf q.lt (by rw[z];exact hb)) (b7 _)
 ·exact absurd (cf (aQ (I.pin p hp).1) (by rw[z];exact hb)) (b7 _)
structure Turn(P:Program)(w:World)(K:Frag)(tg:Expr)(J:It)(fp:bP)(it:Addr)(tn:Nat→Heap→Prop):Prop where
 mem:it∈fp
 obj:∀i h,tn i h→∀b∈fp,∃o,h.get? b=some o∧∀v,o.data≠.cell v
 keep:∀i h h',tn i h→(∀b∈fp,∀o,h.get? b=some o→h'.get? b=some o)→tn i h'
 item:∀(X:Cx),X.prog=P→X.w=w→X.K=K→X.calm=true→∀(i:Nat) (pins:aJ) (s:Shared) (σ:St) (H:Hp) (E:Value→Shared→Prop),Inv X pins σ H s→(∀b∈fp,A4 X pins H b)→tn i s.heap→J.go i H→
  wpAny (model P w) X.A (pyNext (.ref it)) (fun r s1=>∃u,r=some u∧
   wpAny (model P w) X.A (letOwnedTupleGo tg (.ref it) u) (fun _ s2=>∃x H',Inv X pins σ H' s2∧RelV x u∧J.yO i H x H'∧tn (i+1) s2.heap∧∀b∈fp,H' b=none) E s1) E s
 done:∀(X:Cx),X.prog=P→X.w=w→X.K=K→X.calm=true→∀(i:Nat) (pins:aJ) (s:Shared) (σ:St) (H:Hp) (E:Value→Shared→Prop),Inv X pins σ H s→(∀b∈fp,A4 X pins H b)→tn i s.heap→J.stop i H→
  wpAny (model P w) X.A (pyNext (.ref it)) (fun r s1=>r=none∧Inv X pins σ H s1) E s
 self:∀(A:Around) (i:Nat) (s:Shared) (Q:Value→Shared→Prop) (E:Value→Shared→Prop),tn i s.heap→Q (.ref it) s→wpAny (model P w) A (pyIter (.ref it)) Q E s
noncomputable abbrev TI:=St→Hp→(It→Hp→Prop)→Prop
noncomputable def PIE(X:Cx)(pins:aJ)(σ:St)(tg:Expr)(R:It→Hp→Prop)(itv:Value)(s2:Shared):Prop:=
 ∃(it:Addr) (fp:bP) (tn:Nat→Heap→Prop) (J:It) (H' :Hp),itv= .ref it∧Inv X pins σ H' s2∧Turn X.prog X.w X.K tg J fp it tn∧tn 0 s2.heap∧(∀b∈fp,A4 X pins H' b)∧R J H'
noncomputable def PI(X:Cx)(tg iter:Expr)(wi:TI):Prop:=
 ∀(pins:aJ) (s:Shared) (σ:St) (H:Hp) (R:It→Hp→Prop),Inv X pins σ H s→wi σ H R→
  wpAny (model X.prog X.w) X.A (eval iter X.env) (fun v s1=>wpAny (model X.prog X.w) X.A (pyIter v) (PIE X pins σ tg R) X.xe s1) X.xe s
theorem NQ{M:Model}{A:Around}{E:Value→Shared→Prop}{s:Shared}{tg:Expr}{it:Addr}{u:Value}{o:Obj}{n:String}{vs:Array Value}{Q:Unit→Shared→Prop}(ho:s.heap.get? it=some o)(hc:o.cls= .type n)(hd:o.data= .fields vs)
 (hn:["enumerate","zip","dict_itemiterator","dict_reverseitemiterator","odict_iterator","itertools.zip_longest","itertools.pairwise"].contains n=false) (hQ:Q () s):wpAny M A (letOwnedTupleGo tg (.ref it) u) Q E s:=by
 unfold letOwnedTupleGo
 cases tg<;>first
  |exact aC hQ
  |(cases u<;>first
   |exact aC hQ
   |(refine ah (wpAny_load ho ?_)
     rw[hc,hd];show wpAny M A (if(["enumerate","zip","dict_itemiterator","dict_reverseitemiterator","odict_iterator","itertools.zip_longest","itertools.pairwise"].contains n&&vs[0]? ==some (rawInt _))=true then _ else _) Q E s;rw[ay (by intro h;rw[hn,Bool.false_and] at h;cases h)];exact aC hQ))
noncomputable def UW(K:Frag)(a:Addr):It:=
 ⟨fun i H=>∃xs x,bF K H a xs∧xs[i]? =some x,fun i H x H' =>H' =H∧∀xs,bF K H a xs→xs[i]? =some x,fun i H=>∃xs,bF K H a xs∧xs.length≤i⟩
noncomputable def U2(K:Frag)(a:Addr):It:=
 ⟨fun i H=>∃xs x,bc K H a xs∧xs[i]? =some x,fun i H x H' =>H' =H∧∀xs,bc K H a xs→xs[i]? =some x,fun i H=>∃xs,bc K H a xs∧xs.length≤i⟩
noncomputable def Rn(lo:Int)(n:Nat):It:=⟨fun i _=>i<n,fun i H x H' =>H' =H∧x= .int (lo+i),fun i _=>n≤i⟩
theorem Cc{P:Program}{w:World}{K:Frag}{tg:Expr}(a it:Addr):Turn P w K tg (UW K a) [it] it (fun i h=>h.IsListIter it a i) where
 mem:=by simp
 obj:=fun i h st b hb=>by
  have e:b=it:=by simpa using hb
  subst e;obtain⟨o,e,c,d⟩:=st;exact⟨o,e,fun v z=>by rw[d] at z;cases z⟩
 keep:=fun i h h' st k=>st.at fun o e=>k it (by simp) o e
 item:=by
  intro X hP hw hK hc i pins s σ H E I hf st hg;subst hP hw hK;obtain⟨xs,x,hq,hx⟩:=hg;obtain⟨its,rv,p,hz⟩:=I.list hq;obtain⟨u,hu,ru⟩:=rv.get hx;obtain⟨f0,f1,f2,f3,f4,f5⟩:=hf it (by simp);refine wpAny_pyNext_list_item st p.isList (x:=u) (by simpa using hu) fun h' N5 sb=> ?_;have I1:Inv X pins σ H {s with heap:=h'}:=I.turned (t' :=s.toks) (fun b o hb e=>(sb.2 b hb).trans e) f0 f1 f3 f4 f5;obtain⟨o,e,c,d⟩:=id N5;exact⟨u,rfl,NQ (s:={s with heap:=h'}) e c d (by decide) ⟨x,H,I1,ru,⟨rfl,fun ys hy=>by rw[I.Ek hy hq];exact hx⟩,N5,fun b hb=>(hf b hb).1⟩⟩
 done:=by
  intro X hP hw hK hc i pins s σ H E I hf st hg;subst hP hw hK;obtain⟨xs,hq,hx⟩:=hg;obtain⟨its,rv,p,hz⟩:=I.list hq;obtain⟨f0,f1,f2,f3,f4,f5⟩:=hf it (by simp);have hl:=rv.length;exact wpAny_pyNext_list_end (I.ok.hd hc) st p.isList (by simp;omega) fun h' eb=>⟨rfl,I.turned (t' :=s.toks) (fun b o hb e=>eb b o hb e) f0 f1 f3 f4 f5⟩
 self:=fun _ _ _ _ _ st h=>wpAny_pyIter_listiter st h
theorem y9{P:Program}{w:World}{K:Frag}{tg:Expr}(a it:Addr):Turn P w K tg (U2 K a) [it] it (fun i h=>h.IsTupleIter it a i) where
 mem:=by simp
 obj:=fun i h st b hb=>by
  have e:b=it:=by simpa using hb
  subst e;obtain⟨o,e,c,d⟩:=st;exact⟨o,e,fun v z=>by rw[d] at z;cases z⟩
 keep:=fun i h h' st k=>st.at fun o e=>k it (by simp) o e
 item:=by
  intro X hP hw hK hc i pins s σ H E I hf st hg;subst hP hw hK;obtain⟨xs,x,hq,hx⟩:=hg;obtain⟨its,rv,p,hz⟩:=I.tuple hq;obtain⟨u,hu,ru⟩:=rv.get hx;obtain⟨f0,f1,f2,f3,f4,f5⟩:=hf it (by simp);refine wpAny_pyNext_tuple_item st (show s.heap.IsTuple a its.toArray from p) (x:=u) (by simpa using hu) fun h' N5 sb=> ?_;have I1:Inv X pins σ H {s with heap:=h'}:=I.turned (t' :=s.toks) (fun b o hb e=>(sb.2 b hb).trans e) f0 f1 f3 f4 f5;obtain⟨o,e,c,d⟩:=id N5;exact⟨u,rfl,NQ (s:={s with heap:=h'}) e c d (by decide) ⟨x,H,I1,ru,⟨rfl,fun ys hy=>by rw[I.JR hy hq];exact hx⟩,N5,fun b hb=>(hf b hb).1⟩⟩
 done:=by
  intro X hP hw hK hc i pins s σ H E I hf st hg;subst hP hw hK;obtain⟨xs,hq,hx⟩:=hg;obtain⟨its,rv,p,hz⟩:=I.tuple hq;obtain⟨f0,f1,f2,f3,f4,f5⟩:=hf it (by simp);have hl:=rv.length;exact wpAny_pyNext_tuple_end (I.ok.hd hc) st (show s.heap.IsTuple a its.toArray from p) (by simp;omega) fun h' eb=>⟨rfl,I.turned (t' :=s.toks) (fun b o hb e=>eb b o hb e) f0 f1 f3 f4 f5⟩
 self:=fun _ _ _ _ _ st h=>wpAny_pyIter_tupleiter st h
theorem F9{P:Program}{w:World}{K:Frag}{tg:Expr}(it:Addr)(lo:Int)(n:Nat):Turn P w K tg (Rn lo n) [it] it (fun i h=>IsRangeIter h it (lo+(i:Nat)*1) ((n:Int) - (i:Nat)) 1) where
 mem:=by simp
 obj:=fun i h st b hb=>by
  have e:b=it:=by simpa using hb
  subst e
  exact⟨_,st,fun v z=>by
   have z' :Data.fields _=Data.cell v:=z;cases z'⟩
 keep:=fun i h h' st k=>k it (by simp) _ st
 item:=by
  intro X hP hw hK hc i pins s σ H E I hf st hg;subst hP hw hK;obtain⟨f0,f1,f2,f3,f4,f5⟩:=hf it (by simp);have W:=Walks.range (prog:=X.prog) (w:=X.w) (I.ok.hd hc) it lo 1 n;refine W.item i s _ _ hg st fun v h' tk hv N5 kk=> ?_;obtain⟨t,rfl⟩:=hv;have I1:Inv X pins σ H {s with heap:=h',toks:=tk}:=I.turned (fun b o hb e=>kk b o (by simpa using hb) e) f0 f1 f3 f4 f5;refine⟨_,rfl,NQ (s:={s with heap:=h',toks:=tk}) (n:="range_iterator") N5 rfl rfl (by decide) ⟨.int (lo+i),H,I1,⟨t,?_⟩,⟨rfl,rfl⟩,N5,fun b hb=>(hf b hb).1⟩⟩;rw[Int.mul_one]
 done:=by
  intro X hP hw hK hc i pins s σ H E I hf st hg;subst hP hw hK;obtain⟨f0,f1,f2,f3,f4,f5⟩:=hf it (by simp);exact wpAny_pyNext_range_end (I.ok.hd hc) st (by have:n≤i:=hg;omega) fun h' eb=>⟨rfl,I.turned (t' :=s.toks) (fun b o hb e=>eb b o hb e) f0 f1 f3 f4 f5⟩
 self:=fun _ _ _ _ _ st h=>wpAny_pyIter_rangeiter st h
section
variable{X:Cx}{tg:Expr}
noncomputable def ZZ(K:Frag)(tl:TE):TI:=fun σ H R=>tl σ H fun x H1=>∃a,x= .ref a∧(∃xs,bF K H1 a xs)∧R (UW K a) H1
noncomputable def aeb(K:Frag)(tl:TE):TI:=fun σ H R=>tl σ H fun x H1=>∃a,x= .ref a∧(∃xs,bc K H1 a xs)∧R (U2 K a) H1
theorem cz{l:Expr}{tl:TE}(hl:PE X l tl):PI X tg l (ZZ X.K tl):=by
 intro pins s σ H R I h;refine ck (hl pins s σ H _ I h) fun v s1 ⟨x,H1,I1,r1,q1⟩=> ?_;obtain⟨a,e,⟨xs,hq⟩,q⟩:=q1;subst e;cases r1;obtain⟨its,rv,p,hz⟩:=I1.list hq;refine tX p.isList ?_;refine⟨s1.heap.objs.size,[s1.heap.objs.size],_,_,H1,rfl,I1.kept (t' :=s1.toks) fun b o e=>a8 _ e,Cc a _,⟨_,cg _ rfl,rfl,rfl⟩,fun b hb=> ?_,q⟩;have e:b=s1.heap.objs.size:=by simpa using hb
 subst e;exact I1.CH (aG _) (I1.bE.fresh (aG _))
theorem wj{l:Expr}{tl:TE}(hl:PE X l tl):PI X tg l (aeb X.K tl):=by
 intro pins s σ H R I h;refine ck (hl pins s σ H _ I h) fun v s1 ⟨x,H1,I1,r1,q1⟩=> ?_;obtain⟨a,e,⟨xs,hq⟩,q⟩:=q1;subst e;cases r1;obtain⟨its,rv,p,hz⟩:=I1.tuple hq;refine yU (show s1.heap.IsTuple a its.toArray from p) ?_;refine⟨s1.heap.objs.size,[s1.heap.objs.size],_,_,H1,rfl,I1.kept (t' :=s1.toks) fun b o e=>a8 _ e,y9 a _,⟨_,cg _ rfl,rfl,rfl⟩,fun b hb=> ?_,q⟩;have e:b=s1.heap.objs.size:=by simpa using hb
 subst e;exact I1.CH (aG _) (I1.bE.fresh (aG _))
theorem Mb{pins:aJ}{σ:St}{H:Hp}{s:Shared}{R:It→Hp→Prop}{E:Value→Shared→Prop}{lo hi:Int}{t u v:Tok}{tk:Nat}(I:Inv X pins σ H s)(h1: -(2 ^ 62)≤lo)(h2:lo<2 ^ 62)(h3: -(2 ^ 62)≤hi)(h4:hi<2 ^ 62)
 (q:R (Rn lo (hi - lo).toNat) H):wpAny (model X.prog X.w) X.A (pyIter (.ref s.heap.objs.size)) (PIE X pins σ tg R) E {s with heap:=s.heap.push {cls:= .type "range",data:= .fields #[.int lo t,.int hi u,.int 1 v]},toks:=tk}:=by
 refine wpAny_pyIter_range (IsRange.new ..) (small_one h1 h2 h3 h4) ?_;have I1:Inv X pins σ H {s with heap:=s.heap.push {cls:= .type "range",data:= .fields #[.int lo t,.int hi u,.int 1 v]},toks:=tk}:=I.kept fun b o e=>a8 _ e
 refine⟨(s.heap.push {cls:= .type "range",data:= .fields #[.int lo t,.int hi u,.int 1 v]}).objs.size,[(s.heap.push {cls:= .type "range",data:= .fields #[.int lo t,.int hi u,.int 1 v]}).objs.size],_,_,H,rfl,
  I1.kept (t' :=tk) fun b o e=>a8 _ e,F9 _ lo (hi - lo).toNat,?_,fun b hb=> ?_,q⟩
 ·have e1:lo+((0:Nat):Int)*1=lo:=by simp
  have e2:(((hi - lo).toNat:Nat):Int) - ((0:Nat):Int)=Builtin.Range.rangeSize lo hi 1:=by rw[rangeSize_one];split<;>omega
  show IsRangeIter _ _ (lo+((0:Nat):Int)*1) ((((hi - lo).toNat:Nat):Int) - ((0:Nat):Int)) 1;rw[e1,e2];exact cg _ rfl
 ·have e:b=(s.heap.push {cls:= .type "range",data:= .fields #[.int lo t,.int hi u,.int 1 v]}).objs.size:=by simpa using hb
  subst e;exact I1.CH (aG _) (I1.bE.fresh (aG _))
noncomputable def Y_(ta:TA):TI:=fun σ H R=>ta σ H fun vs H1=>∃j:Int,vs=[.int j]∧ -(2 ^ 62)≤j∧j<2 ^ 62∧R (Rn 0 j.toNat) H1
theorem gS{a:Expr}{ta:TA}{p pos:Pos}(hg:Gl X "range")(hm:X.mg "range"=none)(ha:PA X [a] ta)(hs:starEach [a] X.env=[(false,eval a X.env)]:=by rfl):PI X tg (.Call (.Name "range" p) [a] [] pos) (Y_ ta):=by
 intro pins s σ H R I h;refine Call_ (pE I hg hm boot_range (Aq (ck (ha pos pins s σ H _ I h) fun us s1 ⟨vs,H1,I1,r1,q1⟩=> ?_) hs rfl));obtain⟨j,e,q1,q2,q⟩:=q1;subst e
 cases r1 with
 |cons r rr=>
  cases rr;obtain⟨t,rfl⟩:=r;exact call_range_1 (Mb I1 (by omega) (by omega) q1 q2 (by simpa using q))
noncomputable def Y3(wi:TI)(g:TG)(tb:TS):TS:=fun D σ H=>wi σ H fun J H1=>∃W:Nat→Nat→St→Hp→Prop,(∃m,W 0 m σ H1)∧∀i m σ H,W i m σ H→
 (J.stop i H∧D.nx σ H)∨(J.go i H∧∃N:St→Hp→Prop,(∀dC H',N dC H'→∃m',m' <m∧W (i+1) m' dC H')∧∀x H',J.yO i H x H'→g x σ H' fun lU H2=>tb {D with nx:=N,ct:=N,bk:=D.nx} lU H2)
noncomputable def AA(fp:bP)(h:Heap):aJ:=fp.filterMap fun b=>(h.get? b).map fun o=>(b,o)
theorem nz{fp:bP}{h:Heap}{b:Addr}{o:Obj}(hb:b∈fp)(e:h.get? b=some o):(b,o)∈AA fp h:=vn.mpr ⟨b,hb,by rw[e];rfl⟩
theorem JU{fp:bP}{h:Heap}{p:Addr×Obj}(hp:p∈AA fp h):p.1∈fp∧h.get? p.1=some p.2:=by
 obtain⟨b,hb,e⟩:=vn.mp hp
 cases q:h.get? b with
 |none=>rw[q] at e;cases e
 |some o=>
  rw[q] at e;have e' :(b,o)=p:=di e;subst e';exact⟨hb,q⟩
theorem Inv.pinned{pins:aJ}{σ:St}{H:Hp}{s:Shared}{fp:bP}(I:Inv X pins σ H s)(hf:∀b∈fp,A4 X pins H b)(ho:∀b∈fp,∃o,s.heap.get? b=some o∧∀v,o.data≠.cell v):Inv X (pins++AA fp s.heap) σ H s:=
 I.IU fun p hp=>(eK.mp hp).elim (fun z=>I.pin p (jT _ z)) fun z=>by
  obtain⟨hb,e⟩:=JU z;obtain⟨f0,f1,f2,_⟩:=hf p.1 hb;obtain⟨o,e',d⟩:=ho p.1 hb;rw[e] at e';cases e'
  exact⟨e,f0,f1,f2,d⟩
theorem Inv.vv{pins pl:aJ}{σ:St}{H:Hp}{s:Shared}(I:Inv X (pins++pl) σ H s):Inv X pins σ H s:=I.IU fun p hp=>I.pin p (jT _ (tm _ hp))
theorem WN{iter:Expr}{body:List Stmt}{wi:TI}{g:TG}{tb:TS}{pos:Pos}(hp:PassesOwn (model X.prog X.w) X.A X.env X.xe)(hc:X.calm=true)(hi:PI X tg iter wi)(hg:PG X tg g)(hb:AO X body tb)
 (hs:∀x,foldedSetIterable iter X.env x=pure x:=by intro _;rfl):PS X (.For tg iter body [] pos) (Y3 wi g tb):=by
 intro pins s σ H D I h;refine wpAny_For (ck (hi pins s σ H _ I h) fun v s1 h1=>ck h1 fun itv s2 h2=> ?_) hs;obtain⟨it,fp,tn,J,H2,e,I2,T,Pk,f2,W,⟨m0,w0⟩,turn⟩:=h2;subst e;have Gd:∀{H' :Hp},(∀b∈fp,H' b=none)→∀b∈fp,A4 X pins H' b:=fun hn b hb=>⟨hn b hb,(f2 b hb).2⟩;refine codeAny_forLoop_any (fun n s' =>∃i dC H',Inv X pins dC H' s'∧tn i s'.heap∧(∀b∈fp,H' b=none)∧W i n dC H') ?_ m0 ⟨0,σ,H2,I2,Pk,fun b hb=>(f2 b hb).1,w0⟩
 rintro n s3 ⟨i,ZA,H3,I3,st3,fr3,w3⟩
 rcases turn i n ZA H3 w3 with⟨stop,qn⟩|⟨go,N,hN,step⟩
 ·refine vy hp (ck (T.done X rfl rfl rfl hc i pins s3 ZA H3 X.xe I3 (Gd fr3) st3 stop) fun r s4 ⟨hr,I4⟩=> ?_);subst hr;exact uM ⟨ZA,H3,I4,qn⟩
 ·refine vy hp (ck (T.item X rfl rfl rfl hc i pins s3 ZA H3 X.xe I3 (Gd fr3) st3 go) fun r s4 ⟨u,hr,h4⟩=> ?_);subst hr;refine vy hp (ck h4 fun _ s5 ⟨x,H5,I5,r5,y5,Xh,fr5⟩=> ?_);have I5' :=I5.pinned (Gd fr5) (T.obj _ _ Xh);refine vy hp (ck (hg _ s5 ZA H5 x u _ I5' r5 (step x H5 y5)) fun _ s6 ⟨σ6,H6,I6,q6⟩=> ?_);refine vy hp (ck (hb _ s6 σ6 H6 _ I6 q6) fun f s7 q7=> ?_)
  have again:∀{LG:St} {H7:Hp},Inv X (pins++AA fp s5.heap) LG H7 s7→N LG H7→∃m,m<n∧∃i dC H',Inv X pins dC H' s7∧tn i s7.heap∧(∀b∈fp,H' b=none)∧W i m dC H' :=fun{LG H7} I7 n7=>by
   obtain⟨m',hm,w7⟩:=hN LG H7 n7;refine⟨m',hm,i+1,LG,H7,I7.vv,T.keep _ _ _ Xh fun b hb o e=>(I7.pin (b,o) (jT _ (jT _ (nz hb e)))).1,fun b hb=> ?_,w7⟩;obtain⟨o,e,d⟩:=T.obj _ _ Xh b hb;exact(I7.pin (b,o) (jT _ (jT _ (nz hb e)))).2.1
  cases f with
  |next=>obtain⟨LG,H7,I7,n7⟩:=q7;exact again I7 n7
  |cont=>obtain⟨LG,H7,I7,n7⟩:=q7;exact again I7 n7
  |brk=>obtain⟨LG,H7,I7,q7⟩:=q7;exact⟨LG,H7,I7.vv,q7⟩
  |ret v=>obtain⟨x7,LG,H7,I7,r7,q7⟩:=q7;exact⟨x7,LG,H7,I7.vv,r7,q7⟩
end
theorem dF{K:Frag}{a:Addr}{xs:ak}{g:TG}{tb:TS}{D:Ends}{σ:St}{H:Hp}(Pv:Nat→St→Hp→Prop)(h0:Pv 0 σ H)(hl:∀i σ H,i≤xs.length→Pv i σ H→bF K H a xs)
 (hs:∀i x σ H,xs[i]? =some x→Pv i σ H→g x σ H fun lU H2=>tb {D with nx:=Pv (i+1),ct:=Pv (i+1),bk:=D.nx} lU H2) (hd:∀σ H,Pv xs.length σ H→D.nx σ H):
 ∃W:Nat→Nat→St→Hp→Prop,(∃m,W 0 m σ H)∧∀i m σ H,W i m σ H→
  ((UW K a).stop i H∧D.nx σ H)∨((UW K a).go i H∧∃N:St→Hp→Prop,(∀dC H',N dC H'→∃m',m' <m∧W (i+1) m' dC H')∧∀x H',(UW K a).yO i H x H'→g x σ H' fun lU H2=>tb {D with nx:=N,ct:=N,bk:=D.nx} lU H2):=by
 refine⟨fun i m σ H=>m=xs.length - i∧i≤xs.length∧Pv i σ H,⟨xs.length,by simp,cN _,h0⟩,?_⟩
 rintro i m σ H ⟨rfl,hi,p⟩
 have q:=hl i σ H hi p;by_cases iU:i<xs.length
 ·refine .inr ⟨⟨xs,xs[i],q,by simp[iU]⟩,Pv (i+1),fun dC H' p' =>⟨xs.length - (i+1),by omega,rfl,iU,p'⟩,fun x H' y=> ?_⟩;obtain⟨e,y⟩:=y;subst e;exact hs i x σ _ (y xs q) p
 ·have e:i=xs.length:=by omega
  subst e;exact .inl ⟨⟨xs,q,aG _⟩,hd σ H p⟩
theorem uh{K:Frag}{a:Addr}{xs:ak}{g:TG}{tb:TS}{D:Ends}{σ:St}{H:Hp}(Pv:Nat→St→Hp→Prop)(h0:Pv 0 σ H)(hl:∀i σ H,i≤xs.length→Pv i σ H→bc K H a xs)
 (hs:∀i x σ H,xs[i]? =some x→Pv i σ H→g x σ H fun lU H2=>tb {D with nx:=Pv (i+1),ct:=Pv (i+1),bk:=D.nx} lU H2) (hd:∀σ H,Pv xs.length σ H→D.nx σ H):
 ∃W:Nat→Nat→St→Hp→Prop,(∃m,W 0 m σ H)∧∀i m σ H,W i m σ H→
  ((U2 K a).stop i H∧D.nx σ H)∨((U2 K a).go i H∧∃N:St→Hp→Prop,(∀dC H',N dC H'→∃m',m' <m∧W (i+1) m' dC H')∧∀x H',(U2 K a).yO i H x H'→g x σ H' fun lU H2=>tb {D with nx:=N,ct:=N,bk:=D.nx} lU H2):=by
 refine⟨fun i m σ H=>m=xs.length - i∧i≤xs.length∧Pv i σ H,⟨xs.length,by simp,cN _,h0⟩,?_⟩
 rintro i m σ H ⟨rfl,hi,p⟩
 have q:=hl i σ H hi p;by_cases iU:i<xs.length
 ·refine .inr ⟨⟨xs,xs[i],q,by simp[iU]⟩,Pv (i+1),fun dC H' p' =>⟨xs.length - (i+1),by omega,rfl,iU,p'⟩,fun x H' y=> ?_⟩;obtain⟨e,y⟩:=y;subst e;exact hs i x σ _ (y xs q) p
 ·have e:i=xs.length:=by omega
  subst e;exact .inl ⟨⟨xs,q,aG _⟩,hd σ H p⟩
theorem vT{lo:Int}{n:Nat}{g:TG}{tb:TS}{D:Ends}{σ:St}{H:Hp}(Pv:Nat→St→Hp→Prop)(h0:Pv 0 σ H)
 (hs:∀i σ H,i<n→Pv i σ H→g (.int (lo+i)) σ H fun lU H2=>tb {D with nx:=Pv (i+1),ct:=Pv (i+1),bk:=D.nx} lU H2) (hd:∀σ H,Pv n σ H→D.nx σ H):
 ∃W:Nat→Nat→St→Hp→Prop,(∃m,W 0 m σ H)∧∀i m σ H,W i m σ H→
  ((Rn lo n).stop i H∧D.nx σ H)∨((Rn lo n).go i H∧∃N:St→Hp→Prop,(∀dC H',N dC H'→∃m',m' <m∧W (i+1) m' dC H')∧∀x H',(Rn lo n).yO i H x H'→g x σ H' fun lU H2=>tb {D with nx:=N,ct:=N,bk:=D.nx} lU H2):=by
 refine⟨fun i m σ H=>m=n - i∧i≤n∧Pv i σ H,⟨n,by simp,cN _,h0⟩,?_⟩
 rintro i m σ H ⟨rfl,hi,p⟩
 by_cases iU:i<n
 ·refine .inr ⟨iU,Pv (i+1),fun dC H' p' =>⟨n - (i+1),by omega,rfl,iU,p'⟩,fun x H' y=> ?_⟩;obtain⟨e,y⟩:=y;subst e y;exact hs i σ _ iU p
 ·have e:i=n:=by omega
  subst e;exact .inl ⟨aG _,hd σ H p⟩
noncomputable abbrev R2:=V→V→Hp→VK→Prop
noncomputable def qp(X:Cx)(f:Value→Value→Sem Value)(r:R2):Prop:=
 ∀(pins:aJ) (s:Shared) (σ:St) (H:Hp) (x y:V) (v u:Value) (Q:VK),Inv X pins σ H s→RelV x v→RelV y u→r x y H Q→
  wpAny (model X.prog X.w) X.A (f v u) (EP X pins σ Q) X.xe s
noncomputable def UnR(X:Cx)(f:Value→Sem Value)(r:V→Hp→VK→Prop):Prop:=
 ∀(pins:aJ) (s:Shared) (σ:St) (H:Hp) (x:V) (v:Value) (Q:VK),Inv X pins σ H s→RelV x v→r x H Q→
  wpAny (model X.prog X.w) X.A (f v) (EP X pins σ Q) X.xe s
noncomputable def iq(X:Cx)(f:Value)(r:ak→Hp→VK→Prop):Prop:=
 ∀(pins:aJ) (s:Shared) (σ:St) (H:Hp) (xs:ak) (us:aD) (Q:VK),Inv X pins σ H s→Vals xs us→r xs H Q→
  wpAny (model X.prog X.w) X.A (call f us) (EP X pins σ Q) X.xe s
noncomputable def adx(X:Cx)(r:V→Hp→(Bool→Hp→Prop)→Prop):Prop:=
 ∀(pins:aJ) (s:Shared) (σ:St) (H:Hp) (x:V) (v:Value) (Q:Bool→Hp→Prop),Inv X pins σ H s→RelV x v→r x H Q→
  wpAny (model X.prog X.w) X.A (truthy v) (TP X pins σ Q) X.xe s
noncomputable def Pm(r:R2)(ta tb:TE):TE:=fun σ H Q=>ta σ H fun x H1=>tb σ H1 fun y H2=>r x y H2 Q
noncomputable def tUn(r:V→Hp→VK→Prop)(ta:TE):TE:=fun σ H Q=>ta σ H fun x H1=>r x H1 Q
noncomputable def rI(C:Int→Int→Prop)(g:Int→Int→V):R2:=fun x y H Q=>∃i j,x= .int i∧y= .int j∧C i j∧Q (g i j) H
noncomputable def Uz(g:Int→Int→V):R2:=fun x y H Q=>∃i j,x= .int i∧y= .int j∧Q (g i j) H
noncomputable def rU(g:Int→V):V→Hp→VK→Prop:=fun x H Q=>∃i,x= .int i∧Q (g i) H
section
variable{X:Cx}{a b c:Expr}{ta tb tc:TE}{pos:Pos}
theorem U1(ha:PE X a ta)(hb:PE X b tb){pins:aJ}{s:Shared}{σ:St}{H:Hp}{R:V→V→Hp→Prop}(I:Inv X pins σ H s)
 (h:ta σ H fun x H1=>tb σ H1 fun y H2=>R x y H2) {Q:Value→Shared→Prop} {f:Value→Value→Sem Value}
 (hf:∀v u s2 x y H2,Inv X pins σ H2 s2→RelV x v→RelV y u→R x y H2→wpAny (model X.prog X.w) X.A (f v u) Q X.xe s2):
 wpAny (model X.prog X.w) X.A (eval a X.env) (fun v bC=>wpAny (model X.prog X.w) X.A (eval b X.env) (fun u nW=>wpAny (model X.prog X.w) X.A (f v u) Q X.xe nW) X.xe bC) X.xe s:=by
 refine ck (ha pins s σ H _ I h) fun v s1 ⟨x,H1,I1,r1,q1⟩=> ?_;refine ck (hb pins s1 σ H1 _ I1 q1) fun u s2 ⟨y,H2,I2,r2,q2⟩=> ?_;exact hf v u s2 x y H2 I2 r1 r2 q2
theorem aO{op:Operator}{r:R2}(ho:qp X (binaryOp op) r)(ha:PE X a ta)(hb:PE X b tb):PE X (.BinOp a op b pos) (Pm r ta tb):=by
 intro pins s σ H Q I h;exact wpAny_BinOp (U1 ha hb I h fun v u s2 x y H2 I2 rx ry q=>ho pins s2 σ H2 x y v u Q I2 rx ry q)
theorem YT{op:UnaryOp}{r:V→Hp→VK→Prop}(ho:UnR X (unaryOp op) r)(ha:PE X a ta):PE X (.UnaryOp op a pos) (tUn r ta):=by
 intro pins s σ H Q I h;exact UnaryOp_ (ck (ha pins s σ H _ I h) fun v s1 ⟨x,H1,I1,r1,q1⟩=>ho pins s1 σ H1 x v Q I1 r1 q1)
theorem opI{f:Value→Value→Sem Value}{C:Int→Int→Prop}{g:Int→Int→Int}
 (rule:∀(i j:Int) (t u:Tok) (s:Shared) (Q:Value→Shared→Prop) (E:Value→Shared→Prop),C i j→Q (.int (g i j) s.toks) {s with toks:=s.toks+1}→wpAny (model X.prog X.w) X.A (f (.int i t) (.int j u)) Q E s):
 qp X f (rI C fun i j=> .int (g i j)):=by
 intro pins s σ H x y v u Q I rx ry h;obtain⟨i,j,rfl,rfl,hc,q⟩:=h;obtain⟨t,rfl⟩:=rx;obtain⟨t',rfl⟩:=ry;exact rule i j t t' s _ _ hc ⟨.int (g i j),H,I.tok _,⟨_,rfl⟩,q⟩
theorem aas{f:Value→Value→Sem Value}{g:Int→Int→Int}
 (rule:∀(i j:Int) (t u:Tok) (s:Shared) (Q:Value→Shared→Prop) (E:Value→Shared→Prop),Q (.int (g i j) s.toks) {s with toks:=s.toks+1}→wpAny (model X.prog X.w) X.A (f (.int i t) (.int j u)) Q E s):
 qp X f (Uz fun i j=> .int (g i j)):=by
 intro pins s σ H x y v u Q I rx ry h;obtain⟨i,j,rfl,rfl,q⟩:=h;obtain⟨t,rfl⟩:=rx;obtain⟨t',rfl⟩:=ry;exact rule i j t t' s _ _ ⟨.int (g i j),H,I.tok _,⟨_,rfl⟩,q⟩
theorem We{f:Value→Value→Sem Value}{g:Int→Int→Bool}
 (rule:∀(i j:Int) (t u:Tok) (s:Shared) (Q:Value→Shared→Prop) (E:Value→Shared→Prop),Q (.bool (g i j)) s→wpAny (model X.prog X.w) X.A (f (.int i t) (.int j u)) Q E s):
 qp X f (Uz fun i j=> .bl (g i j)):=by
 intro pins s σ H x y v u Q I rx ry h;obtain⟨i,j,rfl,rfl,q⟩:=h;obtain⟨t,rfl⟩:=rx;obtain⟨t',rfl⟩:=ry;exact rule i j t t' s _ _ ⟨.bl (g i j),H,I,rfl,q⟩
noncomputable def acv(i j:Int):Prop:=0≤j∧j≤1000000∧i.natAbs<2 ^ 64
noncomputable def Wl(i j:Int):Prop:=(-(2 ^ 64)<i∧i<2 ^ 64)∨(-(2 ^ 64)<j∧j<2 ^ 64)
theorem Wl.ok{i j:Int}(h:Wl i j):IntMulOk i j:=by
 rcases h with⟨h1,h2⟩|⟨h1,h2⟩
 ·exact .of_left (intBits_le_64 h1 h2)
 ·exact .of_right (intBits_le_64 h1 h2)
theorem bz:qp X (binaryOp .Add) (Uz fun i j=> .int (i+j)):=aas fun _ _ _ _ _ _ _ q=>add_int q
theorem jV:qp X (binaryOp .Sub) (Uz fun i j=> .int (i - j)):=aas fun _ _ _ _ _ _ _ q=>sub_int q
theorem l7:qp X (binaryOp .Mult) (rI Wl fun i j=> .int (i*j)):=opI fun _ _ _ _ _ _ _ hc q=>mul_int q hc.ok
theorem nM:qp X (binaryOp .Mod) (rI (fun _ j=>0<j) fun i j=> .int (i % j)):=opI fun i j _ _ _ _ _ hc q=>by
 have h1:(0:Int)<j:=hc;exact mod_int' (by omega) (by rw[Int.fmod_eq_emod_of_nonneg i (by omega)];exact q)
theorem wo:qp X (binaryOp .Pow) (rI acv fun i j=> .int (i ^ j.toNat)):=opI fun _ _ _ _ _ _ _ hc q=>pow_int_small hc.1 hc.2.1 hc.2.2 q
theorem unI{f:Value→Sem Value}{g:Int→Int}
 (rule:∀(i:Int) (t:Tok) (s:Shared) (Q:Value→Shared→Prop) (E:Value→Shared→Prop),Q (.int (g i) s.toks) {s with toks:=s.toks+1}→wpAny (model X.prog X.w) X.A (f (.int i t)) Q E s):
 UnR X f (rU fun i=> .int (g i)):=by
 intro pins s σ H x v Q I rx h;obtain⟨i,rfl,q⟩:=h;obtain⟨t,rfl⟩:=rx;exact rule i t s _ _ ⟨.int (g i),H,I.tok _,⟨_,rfl⟩,q⟩
theorem US:UnR X (unaryOp .USub) (rU fun i=> .int (-i)):=unI fun _ _ _ _ _ q=>neg_int q
end
noncomputable def Ym:V→V→Bool
 | .bx,.bx=>true| .bx,.int _=>true| .int _,.bx=>true| .bx,.bl _=>true| .bl _,.bx=>true| .bx,.str _=>true| .str _,.bx=>true
 | .int _,.int _=>true| .bl _,.bl _=>true| .str _,.str _=>true| .Iu _,.Iu _=>true
 | .int _,.str _=>true| .str _,.int _=>true| .bl _,.str _=>true| .str _,.bl _=>true
 |_,_=>false
noncomputable def rEq:R2:=fun x y H Q=>Ym x y=true∧Q (.bl (decide (x=y))) H
noncomputable def rNe:R2:=fun x y H Q=>Ym x y=true∧Q (.bl (!decide (x=y))) H
theorem Iq{i j:Int}:decide (V.int i=V.int j)=(i==j):=by
 rw[me];simp
theorem Mi{i j:Bool}:decide (V.bl i=V.bl j)=(i==j):=by
 rw[me];simp
theorem Hq{i j:Str}:decide (V.str i=V.str j)=(i==j):=by
 rw[me];simp
theorem IF{i j:Array UInt8}:decide (V.Iu i=V.Iu j)=(i.toList==j.toList):=by
 rw[me];cases i;cases j;simp
section
variable{X:Cx}{a b c:Expr}{ta tb tc:TE}{pos:Pos}
theorem bM{pins:aJ}{σ:St}{H:Hp}{s:Shared}{Q:VK}{k k' :Bool}(I:Inv X pins σ H s)(q:Q (.bl k) H)(e:k=k'):EP X pins σ Q (.bool k') s:=by
 subst e;exact⟨.bl k,H,I,rfl,q⟩
theorem dM:qp X (compareOp .Eq) rEq:=by
 intro pins s σ H x y v u Q I rx ry h;obtain⟨hs,q⟩:=h
 cases x with
 |bx=>
  cases rx
  cases y with
  |bx=>cases ry;exact PySem.EqNone.eq_none_none (bM I q (by simp))
  |bl j=>cases ry;exact PySem.EqNone.eq_none_bool (bM I q (by simp))
  |int j=>obtain⟨t',rfl⟩:=ry;exact PySem.EqNone.eq_none_int (bM I q (by simp))
  |str j=>obtain⟨t',rfl⟩:=ry;exact PySem.EqNone.eq_none_str (bM I q (by simp))
  |_=>exact absurd (show false=true from hs) cx
 |bl i=>
  cases rx
  cases y with
  |bx=>cases ry;exact PySem.EqNone.eq_bool_none (bM I q (by simp))
  |bl j=>cases ry;exact eq_bool (bM I q Mi)
  |str j=>obtain⟨t',rfl⟩:=ry;exact PySem.EqMixed.eq_bool_str (bM I q (by simp))
  |_=>exact absurd (show false=true from hs) cx
 |int i=>
  obtain⟨t,rfl⟩:=rx
  cases y with
  |bx=>cases ry;exact PySem.EqNone.eq_int_none (bM I q (by simp))
  |int j=>obtain⟨t',rfl⟩:=ry;exact eq_int (bM I q Iq)
  |str j=>obtain⟨t',rfl⟩:=ry;exact PySem.EqMixed.eq_int_str (bM I q (by simp))
  |_=>exact absurd (show false=true from hs) cx
 |str i=>
  obtain⟨t,rfl⟩:=rx
  cases y with
  |bx=>cases ry;exact PySem.EqNone.eq_str_none (bM I q (by simp))
  |bl j=>cases ry;exact PySem.EqMixed.eq_str_bool (bM I q (by simp))
  |int j=>obtain⟨t',rfl⟩:=ry;exact PySem.EqMixed.eq_str_int (bM I q (by simp))
  |str j=>obtain⟨t',rfl⟩:=ry;exact eq_str (bM I q Hq)
  |_=>exact absurd (show false=true from hs) cx
 |Iu i=>
  obtain⟨t,rfl⟩:=rx
  cases y with
  |Iu j=>obtain⟨t',rfl⟩:=ry;exact PySem.W.eq_bytes (bM I q IF)
  |_=>exact absurd (show false=true from hs) cx
 |_=>cases y<;>exact absurd (show false=true from hs) cx
theorem oV:qp X (compareOp .NotEq) rNe:=by
 intro pins s σ H x y v u Q I rx ry h;obtain⟨hs,q⟩:=h
 cases x with
 |bx=>
  cases rx
  cases y with
  |bx=>cases ry;exact PySem.EqNone.ne_none_none (bM I q (by simp))
  |bl j=>cases ry;exact PySem.EqNone.ne_none_bool (bM I q (by simp))
  |int j=>obtain⟨t',rfl⟩:=ry;exact PySem.EqNone.ne_none_int (bM I q (by simp))
  |str j=>obtain⟨t',rfl⟩:=ry;exact PySem.EqNone.ne_none_str (bM I q (by simp))
  |_=>exact absurd (show false=true from hs) cx
 |bl i=>
  cases rx
  cases y with
  |bx=>cases ry;exact PySem.EqNone.ne_bool_none (bM I q (by simp))
  |bl j=>cases ry;exact ne_bool (bM I q (congrArg not Mi))
  |str j=>obtain⟨t',rfl⟩:=ry;exact PySem.EqMixed.ne_bool_str (bM I q (by simp))
  |_=>exact absurd (show false=true from hs) cx
 |int i=>
  obtain⟨t,rfl⟩:=rx
  cases y with
  |bx=>cases ry;exact PySem.EqNone.ne_int_none (bM I q (by simp))
  |int j=>obtain⟨t',rfl⟩:=ry;exact ne_int (bM I q (congrArg not Iq))
  |str j=>obtain⟨t',rfl⟩:=ry;exact PySem.EqMixed.ne_int_str (bM I q (by simp))
  |_=>exact absurd (show false=true from hs) cx
 |str i=>
  obtain⟨t,rfl⟩:=rx
  cases y with
  |bx=>cases ry;exact PySem.EqNone.ne_str_none (bM I q (by simp))
  |bl j=>cases ry;exact PySem.EqMixed.ne_str_bool (bM I q (by simp))
  |int j=>obtain⟨t',rfl⟩:=ry;exact PySem.EqMixed.ne_str_int (bM I q (by simp))
  |str j=>obtain⟨t',rfl⟩:=ry;exact ne_str (bM I q (congrArg not Hq))
  |_=>exact absurd (show false=true from hs) cx
 |Iu i=>
  obtain⟨t,rfl⟩:=rx
  cases y with
  |Iu j=>obtain⟨t',rfl⟩:=ry;exact PySem.W.ne_bytes (bM I q (congrArg not IF))
  |_=>exact absurd (show false=true from hs) cx
 |_=>cases y<;>exact absurd (show false=true from hs) cx
theorem El:qp X (compareOp .Lt) (Uz fun i j=> .bl (decide (i<j))):=We fun _ _ _ _ _ _ _ q=>lt_int q
theorem BU:qp X (compareOp .LtE) (Uz fun i j=> .bl (decide (i≤j))):=We fun _ _ _ _ _ _ _ q=>le_int q
theorem r_:qp X (compareOp .Gt) (Uz fun i j=> .bl (decide (j<i))):=We fun _ _ _ _ _ _ _ q=>gt_int q
theorem JT:qp X (compareOp .In) (fun x y H Q=>∃i j,x= .str i∧y= .str j∧Q (.bl (!(Builtin.Str.occurrences j i 0 j.length 1).isEmpty)) H):=by
 intro pins s σ H x y v u Q I rx ry h;obtain⟨i,j,rfl,rfl,q⟩:=h;obtain⟨t,rfl⟩:=rx;obtain⟨t',rfl⟩:=ry;exact in_str (bM I q rfl)
theorem M4:qp X (compareOp .Is) (fun x y H Q=>y= .bx∧Q (.bl (decide (x= .bx))) H):=by
 intro pins s σ H x y v u Q I rx ry h;obtain⟨rfl,q⟩:=h;cases ry;refine is_none_gen (bM I q ?_)
 cases x<;>first
  |(cases rx;rfl)
  |(obtain⟨t,rfl⟩:=rx;rfl)
theorem vw:qp X (compareOp .IsNot) (fun x y H Q=>y= .bx∧Q (.bl (!decide (x= .bx))) H):=by
 intro pins s σ H x y v u Q I rx ry h;obtain⟨rfl,q⟩:=h;cases ry;refine isnot_none_gen (bM I q ?_)
 cases x<;>first
  |(cases rx;rfl)
  |(obtain⟨t,rfl⟩:=rx;rfl)
theorem Nc(b:Expr){op:CmpOp}(h:op≠.In:=by decide)(h2:op≠.NotIn:=by decide):behindInMarks op b=false:=by
 have e1:(op==CmpOp.In)=false:=by cases op<;>first|rfl|exact absurd rfl h
 have e2:(op==CmpOp.NotIn)=false:=by cases op<;>first|rfl|exact absurd rfl h2
 cases b<;>simp[behindInMarks,e1,e2]
theorem P_{op:CmpOp}{r:R2}(ho:qp X (compareOp op) r)(ha:PE X a ta)(hb:PE X b tb)(hm:behindInMarks op b=false):PE X (.Compare a [op] [b] pos) (Pm r ta tb):=by
 intro pins s σ H Q I h;exact wpAny_Compare1 (U1 ha hb I h fun v u s2 x y H2 I2 rx ry q=>ho pins s2 σ H2 x y v u Q I2 rx ry q) hm
noncomputable def RA(t:TE):TT:=fun σ H Q=>t σ H fun x H' =>∃k,x= .bl k∧Q k H'
theorem PF{op:CmpOp}{r:R2}(ho:qp X (compareOp op) r)(ha:PE X a ta)(hb:PE X b tb)(hm:behindInMarks op b=false):PT X (.Compare a [op] [b] pos) (RA (Pm r ta tb)):=by
 intro pins s σ H Q I h
 refine wpAny_isTrue_Compare1 (ck (ha pins s σ H _ I h) fun v s1 ⟨x,H1,I1,r1,q1⟩=>ck (hb pins s1 σ H1 _ I1 q1) fun u s2 ⟨y,H2,I2,r2,q2⟩=>
  ck (ho pins s2 σ H2 x y v u _ I2 r1 r2 q2) fun c s3 ⟨z,H3,I3,r3,k,e,q3⟩=> ?_) hm
 subst e;cases r3;exact nr ⟨H3,I3,q3⟩
noncomputable def UE(r r' :R2)(ta tb tc:TE):TE:=fun σ H Q=>ta σ H fun x H1=>tb σ H1 fun y H2=>r x y H2 fun z H3=>∃k,z= .bl k∧
 (if k=true then tc σ H3 fun w' H4=>r' y w' H4 Q else Q (.bl false) H3)
theorem y_{op op' :CmpOp}{r r' :R2}(ho:qp X (compareOp op) r)(Ky :qp X (compareOp op') r')(ha:PE X a ta)(hb:PE X b tb)(hc:PE X c tc)
 (hm:lastMarks [op,op'] [b,c]=false:=by with_unfolding_all rfl):PE X (.Compare a [op,op'] [b,c] pos) (UE r r' ta tb tc):=by
 intro pins s σ H Q I h
 refine Compare_chain (ck (ha pins s σ H _ I h) fun v s1 ⟨x,H1,I1,r1,q1⟩=>chain_link (ck (hb pins s1 σ H1 _ I1 q1) fun u s2 ⟨y,H2,I2,r2,q2⟩=>
  ck (ho pins s2 σ H2 x y v u _ I2 r1 r2 q2) fun d s3 ⟨z,H3,I3,r3,k,e,q3⟩=> ?_)) hm
 subst e;cases r3;refine nr ?_
 cases k with
 |false=>exact ite_ff ⟨.bl false,H3,I3,rfl,q3⟩
 |true=>exact ite_tt (chain_last (ck (hc pins s3 σ H3 _ I3 q3) fun w' s4 ⟨z',H4,I4,r4,q4⟩=>Ky pins s4 σ H4 y z' u w' Q I4 r2 r4 q4))
noncomputable def XC(K:Frag)(x:V)(H:Hp)(k:Bool):Prop:=
 match x with
 | .bx=>k=false
 | .bl b=>k=b
 | .int i=>k=(i !=0)
 | .str y=>y.length≤sizeLine∧k=((y.length:Int) !=0)
 | .Iu y=>y.size≤sizeLine∧k=((y.size:Int) !=0)
 | .ref p=>(∃xs,bF K H p xs∧k= !xs.isEmpty)∨(∃xs,bc K H p xs∧k= !xs.isEmpty)∨∃a6,H p=some (.dK a6)∧k= !a6.isEmpty
 |_=>False
theorem FU{κ:Type}{a6:List (κ×V)}{vs:List (κ×Value)}(r:KV a6 vs):(!vs.isEmpty)= !a6.isEmpty:=by
 cases r<;>rfl
theorem Ai{xs:ak}{its:aD}(r:Vals xs its):(!its.toArray.isEmpty)= !xs.isEmpty:=by
 cases r<;>simp
theorem sM:(sizeLine:Nat)<2 ^ 63:=by rw[qv];decide
theorem UY:adx X (fun x H Q=>∃k,XC X.K x H k∧Q k H):=by
 intro pins s σ H x v Q I rx h;obtain⟨k,e,q⟩:=h;have hl:=sM;have hs:sizeLine=16777216:=qv
 cases x with
 |bx=>
  cases rx;have e' :k=false:=e;subst e';exact truthy_none ⟨H,I,q⟩
 |bl b=>
  cases rx;have e' :k=b:=e;subst e';exact nr ⟨H,I,q⟩
 |int i=>
  obtain⟨t,rfl⟩:=rx;have e' :k=(i !=0):=e;subst e';exact PySem.P.truthy_int ⟨H,I,q⟩
 |str y=>
  obtain⟨t,rfl⟩:=rx;obtain⟨hy,e'⟩:y.length≤sizeLine∧k=((y.length:Int) !=0):=e;subst e';exact PySem.P.truthy_str (by omega) ⟨H,I.tok _,q⟩
 |Iu y=>
  obtain⟨t,rfl⟩:=rx;obtain⟨hy,e'⟩:y.size≤sizeLine∧k=((y.size:Int) !=0):=e;subst e';exact PySem.W.truthy_bytes (by omega) ⟨H,I.tok _,q⟩
 |ref p=>
  cases rx;have e' :(∃xs,bF X.K H p xs∧k= !xs.isEmpty)∨(∃xs,bc X.K H p xs∧k= !xs.isEmpty)∨∃a6,H p=some (.dK a6)∧k= !a6.isEmpty:=e;rcases e' with⟨xs,hx,e'⟩|⟨xs,hx,e'⟩|⟨a6,hx,e'⟩
  ·subst e';obtain⟨its,r,pl,hz⟩:=I.list hx;have hlen:=r.length;exact wpAny_truthy_list pl.isList (by simp only[bh];omega) ⟨H,I.tok _,by rw[Ai r];exact q⟩
  ·subst e';obtain⟨its,r,pl,hz⟩:=I.tuple hx;have hlen:=r.length;exact truthy_tuple pl (by simp only[bh];omega) ⟨H,I.tok _,by rw[Ai r];exact q⟩
  ·subst e';obtain⟨hz,hS,vs,r,m⟩:a6.length≤sizeLine∧(p==sysModules)=false∧∃vs,KV a6 vs∧s.heap.DictOf (cb X.prog X.w) p vs:=I.bE p _ hx;have hlen:a6.length=vs.length:=Paired.length r;exact wpAny_truthy_dict hS m (by omega) ⟨H,I.tok _,by rw[FU r];exact q⟩
 |_=>exact(show False from e).elim
theorem LM(ha:PE X a ta)(he:∀whole,isTrue a X.env whole=(do let v←whole;standAt a.pos;holding [v] (truthy v))):
 PT X a (fun σ H Q=>ta σ H fun x H' =>∃k,XC X.K x H' k∧Q k H'):=by
 intro pins s σ H Q I h;exact isTrue_plain (ck (ha pins s σ H _ I h) fun v s1 ⟨x,H1,I1,r1,q1⟩=>UY pins s1 σ H1 x v Q I1 r1 q1) (he _)
theorem sC:qp X (binaryOp .Add) (fun x y H Q=>∃i j,x= .str i∧y= .str j∧i.length+j.length≤sizeLine∧Q (.str (i++j)) H):=by
 intro pins s σ H x y v u Q I rx ry h;obtain⟨i,j,rfl,rfl,hz,q⟩:=h;obtain⟨t,rfl⟩:=rx;obtain⟨t',rfl⟩:=ry;exact add_str (fun t' tk=>⟨.str (i++j),H,I.tok _,⟨_,rfl⟩,q⟩) hz
theorem xz{x:V}{us:aD}(r:Vals [x] us):∃u,us=[u]∧RelV x u:=by
 cases r with
 |cons r1 r2=>cases r2;exact⟨_,rfl,r1⟩
theorem jad{x y:V}{us:aD}(r:Vals [x,y] us):∃u w',us=[u,w']∧RelV x u∧RelV y w' :=by
 cases r with
 |cons r1 r2=>
  cases r2 with
  |cons r3 r4=>cases r4;exact⟨_,_,rfl,r1,r3⟩
theorem jQ(hc:X.calm=true):iq X (.builtin "max") (fun xs H Q=>∃i j,xs=[.int i,.int j]∧Q (.int (if j>i then j else i)) H):=by
 intro pins s σ H xs us Q I r h;obtain⟨i,j,rfl,q⟩:=h;obtain⟨u,w',rfl,⟨t,rfl⟩,⟨t',rfl⟩⟩:=jad r;refine max_two_ints (I.ok.hd hc) fun h' tk k=>⟨_,H,I.kept k,?_,q⟩;by_cases hj:j>i
 ·rw[aA hj,aA hj];exact⟨_,rfl⟩
 ·rw[ay hj,ay hj];exact⟨_,rfl⟩
theorem JM(hc:X.calm=true):iq X (.builtin "min") (fun xs H Q=>∃i j,xs=[.int i,.int j]∧Q (.int (if j<i then j else i)) H):=by
 intro pins s σ H xs us Q I r h;obtain⟨i,j,rfl,q⟩:=h;obtain⟨u,w',rfl,⟨t,rfl⟩,⟨t',rfl⟩⟩:=jad r;refine min_two_ints (I.ok.hd hc) fun h' tk k=>⟨_,H,I.kept k,?_,q⟩;by_cases hj:j<i
 ·rw[aA hj,aA hj];exact⟨_,rfl⟩
 ·rw[ay hj,ay hj];exact⟨_,rfl⟩
theorem Ct:iq X (.type "int") (fun xs H Q=>(∃i,xs=[.int i]∧Q (.int i) H)∨∃k,xs=[.bl k]∧Q (.int (if k then 1 else 0)) H):=by
 intro pins s σ H xs us Q I r h;rcases h with⟨i,rfl,q⟩|⟨k,rfl,q⟩
 ·obtain⟨u,rfl,t,rfl⟩:=xz r;exact call_int_int ⟨.int i,H,I,⟨_,rfl⟩,q⟩
 ·obtain⟨u,rfl,r1⟩:=xz r;cases r1;exact call_int_bool ⟨.int (if k then 1 else 0),H,I.tok _,⟨_,rfl⟩,q⟩
end
structure Gh(h:Heap)(x dx C:Addr)(mA:Str→aI):Prop where
 obj:h.get? x=some (instObj C dx)
 ns:h.Ns1 dx mA
 ne:dx≠x
theorem Bv{h:Heap}{dx:Addr}{mA:Str→aI}(n:h.Ns1 dx mA):∃od,h.get? dx=some od∧∀name,lookIn name od=some (mA name):=by
 obtain⟨o,es,ep,ho,hd,hk,_,hm⟩:=n;refine⟨o,ho,fun name=> ?_⟩;have e:=hm name;unfold nsFind findBy at e;rw[←Array.find?_toList] at e;unfold lookIn;rw[hd];dsimp only
 split
 ·rename_i y q;rw[q] at e;exact congrArg some e
 ·rename_i q;rw[q] at e
  have a:es.toList.any (·.refKey)=false:=by
   rw[List.any_eq_false];intro y hy;obtain⟨z,t,Vv⟩:=hk y (Array.mem_toList_iff.mp hy);simp[DictEntry.refKey,Vv]
  have a' :¬es.toList.any (·.refKey)=true:=by rw[a];exact cx
  rw[ay a'];exact congrArg some e
theorem Gh.look{h:Heap}{x dx C:Addr}{mA:Str→aI}(I:Gh h x dx C mA):∃od,PySem.W.InstAt h x (instObj C dx) C (some od)∧∀name,lookIn name od=some (mA name):=
 let⟨od,ho,hl⟩:=Bv I.ns
 ⟨od,⟨I.obj,rfl,rfl,ho⟩,hl⟩
section
variable{prog:Program}{w:World}{A:Around}{E:Value→Shared→Prop}{s:Shared}{K:Frag}{x dx C f:Addr}{mA:Str→aI}{name:Str}{v:Value}
theorem jak{expr:Bool}{Q:Value→Shared→Prop}(X:K.In s.heap)(I:Gh s.heap x dx C mA)(hg:plainGet K C name=true)(hh:PySem.W.hasDictIn K C=true)
 (ha:PySem.W.findIn K (.ref C) name=some none) (hv:mA name=some v) (W0 :handedIn v=true) (h:Q v {s with toks:=s.toks+1}):
 wpAny (model prog w) A (getAttr (.ref x) name expr) Q E s:=by
 obtain⟨od,J,hl⟩:=I.look;exact PySem.W.get_value X J (plainGet_of hg).1 (findObj_own hh ha rfl (by rw[hl,hv])) W0 h
theorem Lu{pl:Sem Bool}{Q:Value×aD→Shared→Prop}(X:K.In s.heap)(I:Gh s.heap x dx C mA)(hg:plainGet K C name=true)
 (hf:PySem.W.findIn K (.ref C) name=some (some (.ref f))) (ht:PySem.W.isFn K (.ref f)=true) (hv:mA name=none) (h:Q (.ref f,[.ref x]) s):
 wpAny (model prog w) A (getMethod (.ref x) name pl) Q E s:=by
 obtain⟨od,J,hl⟩:=I.look;exact PySem.W.method_fn X J (plainGet_of hg).1 (plainGet_of hg).2 hf (qA.mp ht) (by show(lookIn name od).map (·.isSome)=some false;rw[hl,hv];rfl) h
theorem OZ{ns:ao}{Q:Unit→Shared→Prop}(X:K.In s.heap)(I:Gh s.heap x dx C mA)
 (hs:PySem.W.findIn K (.ref C) "__setattr__"=some (some (.builtin "object.__setattr__"))) (hp:plainOver K C=true) (ht:takerIn K C name=some none) (hh:PySem.W.hasDictIn K C=true)
 (hw:PySem.Within mA ns) (hsz:ns.length≤sizeLine)
 (h:∀h',Gh h' x dx C (fun y=>if y=name then some v else mA y)→Heap.SameBut dx s.heap h'→Q () {s with heap:=h',toks:=s.toks+2}):
 wpAny (model prog w) A (setAttr (.ref x) name v) Q E s:=by
 obtain⟨od,J,hl⟩:=I.look;refine set_plain X J hs (PySem.W.osa_open (s:={s with toks:=s.toks+1}) (r:=none) X J hp ht fun b=> ?_);obtain⟨cd,hc,OJ⟩:=PySem.W.any_some hh;have hx:s.heap.get? x=some ⟨.ref C,some dx,.plain,#[]⟩:=I.obj;refine ah (aC (ah (ah (wpAny_loadPart hx (ah (PySem.W.Looks.here (s:={s with toks:=s.toks+1}) (PySem.W.looks_clsIn X hc) ?_))))));rw[OJ];refine aC (a:=some dx) (ah (aC (ah ?_)));refine wpAny_nsSet1 (s:={s with toks:=s.toks+1}) I.ns fun h' WT Yq=> ?_;obtain⟨oD,esD,epD,YF,EH,ZR⟩:=WT.count (PySem.Within.cons name v hw);refine ah (wpAny_lookBehind YF (by rw[EH];exact pastItsLine_dict (aR ZR (by rw[aW];omega))) ?_);exact aC (h _ ⟨(Yq.2 _ (bK I.ne)).trans I.obj,WT,I.ne⟩ Yq)
theorem LV{R:Result→Shared→Prop}{vs:aD}{kw:List (Str×Value)}(X:K.In s.heap)(hm:makesIn K C=true)
 (hi:PySem.W.findIn K (.ref C) "__init__"=some (some (.ref f))) (hf:PySem.W.typeIn K (.ref f)=some (.type "function"))
 (h:codeAny (model prog w) (A.under (.builtin "type.__call__" ⟨.ref C::vs,kw⟩)) (.call (.ref f) ⟨.ref (s.heap.objs.size+1)::vs,kw⟩) (PySem.W.InitBack (s.heap.objs.size+1) R)
  {s with heap:=(s.heap.push emptyDict).push (instObj C s.heap.objs.size)}):
 codeAny (model prog w) A (.call (.ref C) ⟨vs,kw⟩) R s:=by
 obtain⟨hh,g,d,t,os⟩:=s;exact PySem.W.make_core (PySem.W.makes_of X hm) (looks_findIn X hi) (fun self=>bind_fn X self hf) (.inl rfl) h
end
noncomputable def iD(f:Str)(v:V):iG→iG
 |[]=>[(f,v)]
 |(g,x)::r=>if g=f then(g,v)::r else(g,x)::iD f v r
theorem pX(f g:Str)(v:V):∀fs:iG,(iD f v fs).lookup g=if g=f then some v else fs.lookup g
 |[]=>by
  show List.lookup g [(f,v)]=_;by_cases h:g=f
  ·have hb:(g==f)=true:=qA.mpr h;simp only[List.lookup,hb,aA h]
  ·have hb:(g==f)=false:=qL.mpr h;simp only[List.lookup,hb,ay h]
 |(k,x)::r=>by
  have ih:=pX f g v r;rw[show iD f v ((k,x)::r)=(if k=f then(k,v)::r else(k,x)::iD f v r) from rfl];by_cases hk:k=f
  ·rw[aA hk];by_cases h:g=k
   ·have hb:(g==k)=true:=qA.mpr h;simp only[List.lookup,hb,aA (h.trans hk)]
   ·have hb:(g==k)=false:=qL.mpr h;simp only[List.lookup,hb,ay (fun e:g=f=>h (e.trans hk.symm))]
  ·rw[ay hk];by_cases h:g=k
   ·have hb:(g==k)=true:=qA.mpr h;simp only[List.lookup,hb,ay (fun e:g=f=>hk (h.symm.trans e))]
   ·have hb:(g==k)=false:=qL.mpr h;simp only[List.lookup,hb];exact ih
theorem vM(f:Str)(v:V):∀fs:iG,f∈(iD f v fs).map (·.1)∧∀g,g∈fs.map (·.1)→g∈(iD f v fs).map (·.1)
 |[]=>⟨by simp[iD],fun g h=>by simp at h⟩
 |(k,x)::r=>by
  obtain⟨i1,i2⟩:=vM f v r;rw[show iD f v ((k,x)::r)=(if k=f then(k,v)::r else(k,x)::iD f v r) from rfl];by_cases hk:k=f
  ·rw[aA hk];subst hk;exact⟨by simp,fun g h=>by simpa using h⟩
  ·rw[ay hk];refine⟨?_,fun g h=> ?_⟩
   ·rw[dw];exact ff _ i1
   ·rw[dw] at h ⊢;rcases aU.mp h with e|e
    ·exact aU.mpr (.inl e)
    ·exact ff _ (i2 g e)
theorem xx(f:Str)(v:V):∀fs:iG,(iD f v fs).length≤fs.length+1
 |[]=>by simp[iD]
 |(k,x)::r=>by
  have ih:=xx f v r;rw[show iD f v ((k,x)::r)=(if k=f then(k,v)::r else(k,x)::iD f v r) from rfl];by_cases hk:k=f
  ·rw[aA hk,aW,aW];omega
  ·rw[ay hk,aW,aW];omega
theorem l4.some_of{v:V}{o:aI}(r:l4 (some v) o):∃u,o=some u∧RelV v u:=by
 cases o with
 |none=>exact(show False from r).elim
 |some u=>exact⟨u,rfl,r⟩
theorem l4.none_of{o:aI}(r:l4 none o):o=none:=by
 cases o with
 |none=>rfl
 |some u=>exact(show False from r).elim
theorem BA{v:V}{u:Value}(r:RelV v u):handedIn u=true:=by
 cases v with
 |bx=>cases(show u=Value.none from r);rfl
 |bl b=>cases(show u=Value.bool b from r);rfl
 |int i=>obtain⟨t,e⟩:=(show ∃t,u=Value.int i t from r);cases e;rfl
 |str x=>obtain⟨t,e⟩:=(show ∃t,u=Value.str x t from r);cases e;rfl
 |Iu b=>obtain⟨t,e⟩:=(show ∃t,u=Value.bytes b t from r);cases e;rfl
 |WM b=>obtain⟨t,e⟩:=(show ∃t,u=Value.float b t from r);cases e;rfl
 |ref a=>cases(show u=Value.ref a from r);rfl
 |ty n=>cases(show u=Value.type n from r);rfl
section
variable{P:Program}{w:World}{H H' :Hp}{h h' :Heap}{a C dx:Addr}{fs fs' :iG}
theorem yE(bE:m8 P w H h)(e:H a=some (.ins C dx fs)):∃mA,Gh h a dx C mA∧(∀f,l4 (fs.lookup f) (mA f))∧PySem.Within mA (fs.map (·.1))∧fs.length≤1000∧H dx=some (.own a):=by
 obtain⟨d,z,ne,ob,mA,n,r,q⟩:=(show bI P w H h a (.ins C dx fs) from bE a _ e);exact⟨mA,⟨ob,n,ne⟩,r,q,z,d⟩
end
structure He(K:Frag)(C:Addr):Prop where
 pg:plainGet K C Str.empty=true
 hd:PySem.W.hasDictIn K C=true
 po:plainOver K C=true
 sa:PySem.W.findIn K (.ref C) "__setattr__"=some (some (.builtin "object.__setattr__"))
theorem He.get{K:Frag}{C:Addr}(c:He K C)(f:Str):plainGet K C f=true:=c.pg
noncomputable def dv(K:Frag)(C:Addr)(f:Str):Prop:=PySem.W.findIn K (.ref C) f=some none
theorem dv.ZQ{K:Frag}{C:Addr}{f:Str}(n:dv K C f):takerIn K C f=some none:=by
 unfold takerIn;rw[show PySem.W.findIn K (.ref C) f=some none from n];rfl
structure Meth(K:Frag)(C:Addr)(m:Str)(f:Addr):Prop where
 at_:PySem.W.findIn K (.ref C) m=some (some (.ref f))
 fn:PySem.W.isFn K (.ref f)=true
 kp:PySem.W.keepIn K (.ref f)=true
section
variable{X:Cx}{pins:aJ}{σ:St}{H:Hp}{s:Shared}{a C dx:Addr}{fs:iG}{f:Str}{v:V}{A:Around}{E:Value→Shared→Prop}
theorem F3{b:Bool}{Q:Value→Shared→Prop}(I:Inv X pins σ H s)(e:H a=some (.ins C dx fs))(c:He X.K C)(n:dv X.K C f)(l:fs.lookup f=some v)
 (h:∀u s',Inv X pins σ H s'→RelV v u→Q u s'):wpAny (model X.prog X.w) A (getAttr (.ref a) f b) Q E s:=by
 obtain⟨mA,O,r,_,_,_⟩:=yE I.bE e;obtain⟨u,hu,ru⟩:=l4.some_of (v:=v) (o:=mA f) (by rw[←l];exact r f);exact jak I.je O (c.get f) c.hd n hu (BA ru) (h u _ (I.tok _) ru)
theorem nX{m:Str}{g:Addr}{pl:Sem Bool}{Q:Value×aD→Shared→Prop}(I:Inv X pins σ H s)(e:H a=some (.ins C dx fs))(c:He X.K C)(k:Meth X.K C m g)(l:fs.lookup m=none)
 (h:Q (.ref g,[.ref a]) s):wpAny (model X.prog X.w) A (getMethod (.ref a) m pl) Q E s:=by
 obtain⟨mA,O,r,_,_,_⟩:=yE I.bE e;have hn:mA m=none:=l4.none_of (by rw[←l];exact r m);exact Lu I.je O (c.get m) k.at_ k.fn hn h
theorem F5{y:V}{u:Value}{Q:Unit→Shared→Prop}(I:Inv X pins σ H s)(e:H a=some (.ins C dx fs))(c:He X.K C)(n:dv X.K C f)(hl:fs.length<1000)(ry:RelV y u)
 (h:∀s',Inv X pins σ (upd H a (.ins C dx (iD f y fs))) s'→Q () s'):wpAny (model X.prog X.w) A (setAttr (.ref a) f u) Q E s:=by
 obtain⟨mA,O,r,wi,_,ho⟩:=yE I.bE e;have hz:(fs.map (·.1)).length≤sizeLine:=by rw[aK,qv];omega
 refine OZ I.je O c.sa c.po n.ZQ c.hd wi hz fun h' O' sb=>h _ ?_;have hd:∃o,h'.get? dx=some o:=let⟨o,_,_,e',_⟩:=O'.ns;⟨o,e'⟩
 refine I.write (x:=a) (e:=dx) (by rw[e];exact True.intro) (.inr ho) (fun b q hb z=>(sb.2 b hb).trans z) hd ?_;refine⟨by rw[av O.ne];exact ho,?_,O.ne,O'.obj,_,O'.ns,fun g=> ?_,fun g hg=> ?_⟩
 ·have:=xx f y fs;omega
 ·show l4 ((iD f y fs).lookup g) (if g=f then some u else mA g);rw[pX];by_cases q:g=f
  ·rw[aA q,aA q];exact ry
  ·rw[ay q,ay q];exact r g
 ·by_cases q:g=f
  ·rw[q];exact(vM f y fs).1
  ·refine(vM f y fs).2 g (wi g fun z=>hg ?_);show(if g=f then some u else mA g)=none;rw[ay q];exact z
theorem Inv.made(I:Inv X pins σ H s):Inv X pins σ (upd (upd H s.heap.objs.size (.own (s.heap.objs.size+1))) (s.heap.objs.size+1) (.ins C s.heap.objs.size []))
 {s with heap:=(s.heap.push emptyDict).push (instObj C s.heap.objs.size)}:=by
 have e1:(s.heap.push emptyDict).get? s.heap.objs.size=some emptyDict:=cg s.heap rfl
 have e2:((s.heap.push emptyDict).push (instObj C s.heap.objs.size)).get? (s.heap.objs.size+1)=some (instObj C s.heap.objs.size):=by
  have:=cg (s.heap.push emptyDict) (o:=instObj C s.heap.objs.size) rfl;rwa[jr] at this
 have e3:(s.heap.push emptyDict).Ns s.heap.objs.size (fun _=>none):=⟨emptyDict,#[],_,e1,rfl,(fun e he=>absurd he (by simp)),fun _=>rfl⟩;have I1:=I.laid (a:=s.heap.objs.size) (o:= .own (s.heap.objs.size+1)) (h' :=s.heap.push emptyDict) (t' :=s.toks) (fun b u q=>a8 _ q) (aG _) ⟨_,e1⟩;refine I1.laid (a:=s.heap.objs.size+1) (o:= .ins C s.heap.objs.size []) (t' :=s.toks) (fun b u q=>a8 _ q) (n5 (jr _ _)) ?_;have ne:s.heap.objs.size≠s.heap.objs.size+1:=bN (yP _);refine⟨by rw[av ne,aa],cN _,ne,e2,fun _=>none,(Heap.Ns1.of_empty e3).at fun o q=>a8 _ q,fun _=>True.intro,fun y hy=>absurd rfl hy⟩
theorem IJ{prog:Program}{w:World}{env:Env}{e:Expr}{f:Str}{pos:Pos}{s:Shared}{Q:Value→Shared→Prop}(hb:attributeBase e f env (eval e env)=eval e env)
 (h:wpAny (model prog w) A (eval e env) (fun o bC=>wpAny (model prog w) A (getAttr o f true) Q E bC) E s):wpAny (model prog w) A (eval (.Attribute e f pos) env) Q E s:=
 Attribute_any_ h (by rw[arm_eval_Attribute,hb])
end
noncomputable def aav(K:Frag)(ta:TE)(f:Str):TE:=fun σ H Q=>ta σ H fun x H1=>∃a C dx fs v,x= .ref a∧H1 a=some (.ins C dx fs)∧He K C∧dv K C f∧fs.lookup f=some v∧Q v H1
noncomputable def acF(K:Frag)(ta tv:TE)(f:Str):TS:=fun D σ H=>tv σ H fun y H1=>ta σ H1 fun x H2=>∃a C dx fs,x= .ref a∧H2 a=some (.ins C dx fs)∧He K C∧dv K C f∧fs.length<1000∧
 D.nx σ (upd H2 a (.ins C dx (iD f y fs)))
section
variable{X:Cx}{o e value:Expr}{f:Str}{pos pos' adS:Pos}{ta tv:TE}
theorem UH(he:PE X e ta)(hb:attributeBase e f X.env (eval e X.env)=eval e X.env):PE X (.Attribute e f pos) (aav X.K ta f):=by
 intro pins s σ H Q I h;refine IJ hb (ck (he pins s σ H _ I h) fun u s1 ⟨x,H1,I1,rx,a,C,dx,fs,v,ex,ea,c,n,l,q⟩=> ?_);subst ex;obtain rfl:u=Value.ref a:=rx;exact F3 I1 ea c n l fun u' s2 I2 ru=>⟨v,H1,I2,ru,q⟩
theorem Nz(ha:PE X o ta)(hv:PE X value tv)(hs:swapsWith value (some (.Attribute o f pos')) pos.line X.env=pure false):PS X (.Assign [.Attribute o f pos'] value pos) (acF X.K ta tv f):=by
 intro pins s σ H D I h;refine plainObj_wpAny_Assign_Attribute (ck (hv pins s σ H _ I h) fun u s1 ⟨y,H1,I1,ry,q⟩=>ck (ha pins s1 σ H1 _ I1 q) fun ov s2 ⟨x,H2,I2,rx,a,C,dx,fs,ex,ea,c,n,l,q2⟩=> ?_) hs;subst ex;obtain rfl:ov=Value.ref a:=rx;exact F5 I2 ea c n l ry fun s3 I3=>⟨σ,_,I3,q2⟩
theorem T8{pl:Sem Bool}{m:Str}{apos:Pos}{args:cu}{pins:aJ}{s:Shared}{σ:St}{H:Hp}{Q:Value→Shared→Prop}{te:TE}(he:PE X e te)(I:Inv X pins σ H s)
 (h:te σ H fun x H1=>∃a C dx fs g,x= .ref a∧H1 a=some (.ins C dx fs)∧He X.K C∧Meth X.K C m g∧fs.lookup m=none∧
  ∀s1,Inv X pins σ H1 s1→wpAny (model X.prog X.w) X.A (callWith pos (.ref g) [.ref a] (backTo pos (starEach args X.env)) (backToKw pos (keywordEach [] X.env))) Q X.xe s1)
 (ht:eval (.Call (.Attribute e m apos) args [] pos) X.env=(do
  let ov←eval e X.env
  standAt apos.atName
  let(f,first)←holding [ov] (getMethod ov m pl)
  callWith pos f first (backTo pos (starEach args X.env)) (backToKw pos (keywordEach [] X.env)))):
 wpAny (model X.prog X.w) X.A (eval (.Call (.Attribute e m apos) args [] pos) X.env) Q X.xe s:=by
 refine qE (pl:=pl) (ck (he pins s σ H _ I h) fun u s1 ⟨x,H1,I1,rx,a,C,dx,fs,g,ex,ea,c,k,l,q⟩=> ?_) ht;subst ex;obtain rfl:u=Value.ref a:=rx;exact nX I1 ea c k l (q s1 I1)
end
section
variable{X:Cx}{pins:aJ}{σ:St}{H:Hp}{s:Shared}{A:Around}{E:Value→Shared→Prop}{Q:Value→Shared→Prop}{c:Value}{b:Bool}
inductive vK (K:Frag) (H:Hp):V→Value→Prop where
 |bx:vK K H .bx (.type "NoneType")
 |bl (x:Bool):vK K H (.bl x) (.type "bool")
 |int (i:Int):vK K H (.int i) (.type "int")
 |str (x:Str):vK K H (.str x) (.type "str")
 |WM (x:UInt64):vK K H (.WM x) (.type "float")
 |lst {a:Addr} {xs:ak} (e:H a=some (.lst xs)):vK K H (.ref a) (.type "list")
 |Eo {a:Addr} {o:Obj} {xs:ak} (e:H a=some (.Eo o (.lst xs))):vK K H (.ref a) (.type "list")
 |tup {a:Addr} {xs:ak} (e:H a=some (.tup xs)):vK K H (.ref a) (.type "tuple")
 |dK {a:Addr} {a6:dE} (e:H a=some (.dK a6)):vK K H (.ref a) (.type "dict")
 |dT {a:Addr} {a6:mJ} (e:H a=some (.dT a6)):vK K H (.ref a) (.type "dict")
 |ins {a C dx:Addr} {fs:iG} (e:H a=some (.ins C dx fs)) (cl:He K C) (ha:PySem.W.findIn K (.ref C) "__class__"=some (some (.builtin "object.__class__")))
  (hn:PySem.W.specialIn K (.builtin "object.__class__") "__get__"=some (some (.builtin "getset_descriptor.__get__"))) (htk:PySem.W.takesIn K (.builtin "object.__class__")=some true)
  (hm:PySem.W.mroIn K C (.type "object")=some true):vK K H (.ref a) (.ref C)
theorem Ke{x:V}{u t:Value}(I:Inv X pins σ H s)(rx:RelV x u)(ty:vK X.K H x t)(e:kitOne X.K t c=some b)(h:∀tk,Q (.bool b) {s with toks:=tk}):
 wpAny (model X.prog X.w) A (call (.builtin "isinstance") [u,c]) Q E s:=by
 cases ty with
 |bx=>cases(show u=Value.none from rx);exact kS PySem.W.kitx_none I.je True.intro e (fun z=>nomatch z) h
 |bl y=>cases(show u=Value.bool y from rx);exact kS PySem.W.kitx_bool I.je True.intro e (fun z=>nomatch z) h
 |int i=>obtain⟨t,q⟩:=(show ∃t,u=Value.int i t from rx);cases q;exact kS PySem.W.kitx_int I.je True.intro e (fun z=>nomatch z) h
 |str y=>obtain⟨t,q⟩:=(show ∃t,u=Value.str y t from rx);cases q;exact kS PySem.W.kitx_str I.je True.intro e (fun z=>nomatch z) h
 |WM y=>obtain⟨t,q⟩:=(show ∃t,u=Value.float y t from rx);cases q;exact kS PySem.W.kitx_float I.je True.intro e (fun z=>nomatch z) h
 | @lst a xs ea=>
  cases(show u=Value.ref a from rx);obtain⟨_,_,n,_,h1⟩:=(show bI X.prog X.w H s.heap a (.lst xs) from I.bE a _ ea);exact kS kitx_list I.je ⟨_,h1,rfl⟩ e (fun z=>nomatch z) h
 | @Eo a ob xs ea=>
  cases(show u=Value.ref a from rx);obtain⟨_,_,_,n,_,h1⟩:=(show bI X.prog X.w H s.heap a (.Eo ob (.lst xs)) from I.bE a _ ea);exact kS kitx_list I.je ⟨_,h1,rfl⟩ e (fun z=>nomatch z) h
 | @tup a xs ea=>
  cases(show u=Value.ref a from rx);obtain⟨_,_,_,p⟩:=(show bI X.prog X.w H s.heap a (.tup xs) from I.bE a _ ea);obtain⟨o,h1,h2,_⟩:=p;exact kS kitx_tuple I.je ⟨o,h1,h2⟩ e (fun z=>nomatch z) h
 | @dK a a6 ea=>
  cases(show u=Value.ref a from rx);obtain⟨_,_,vs,_,p⟩:=(show bI X.prog X.w H s.heap a (.dK a6) from I.bE a _ ea);obtain⟨o,es,ep,h1,h2,_⟩:=p;exact kS kitx_dict I.je ⟨o,h1,h2.1⟩ e (fun z=>nomatch z) h
 | @dT a a6 ea=>
  cases(show u=Value.ref a from rx);obtain⟨_,_,xs,_,o,es,ep,h1,h2,_⟩:=(show bI X.prog X.w H s.heap a (.dT a6) from I.bE a _ ea);exact kS kitx_dict I.je ⟨o,h1,h2.1⟩ e (fun z=>nomatch z) h
 | @ins a C dx fs ea cl ha hn htk hm=>
  cases(show u=Value.ref a from rx);obtain⟨mA,O,_⟩:=yE I.bE ea;obtain⟨od,J,_⟩:=O.look;exact kS (PySem.W.kitx_own (cl.get _) cl.hd ha hn htk hm) I.je J e (fun z=>nomatch z) h
end
structure cZ(k:Nat)(A:Around):Prop where
 hd:A.handled=none
 dp:A.depth+3*k+5<recursionLimit
 un:A.units+16*k+200<cLine
 gd:A.guards=some []
theorem cZ.mono{j k:Nat}{A:Around}(r:cZ k A)(h:j≤k):cZ j A:=⟨r.hd,by have:=r.dp;omega,by have:=r.un;omega,r.gd⟩
theorem cZ.deeper{k:Nat}{A:Around}(r:cZ (k+1) A)(env:Env):cZ k (A.deeper env):=
 ⟨r.hd,by have:=r.dp;show A.depth+1+3*k+5<_;omega,by have:=r.un;show A.units+3+16*k+200<_;omega,r.gd⟩
theorem GK{A:Around}{C:Addr}{us:aD}{kw:List (Str×Value)}:(A.under (.builtin "type.__call__" ⟨.ref C::us,kw⟩)).depth=A.depth+1:=by
 first|rfl|simp[Around.under,Code.weight,Code.isCreation,Code.isGuard,Code.isCaller,Code.frames,Code.isFrame,guardIds]
theorem GY{A:Around}{C:Addr}{us:aD}{kw:List (Str×Value)}:(A.under (.builtin "type.__call__" ⟨.ref C::us,kw⟩)).units=A.units+1:=by
 first|rfl|simp[Around.under,Code.cUnits,Code.frames,Code.isFrame]
theorem Ee{A:Around}{C:Addr}{us:aD}{kw:List (Str×Value)}{g:List Code}(h:A.guards=some g):(A.under (.builtin "type.__call__" ⟨.ref C::us,kw⟩)).guards=some g:=by
 have e:(Code.builtin "type.__call__" ⟨.ref C::us,kw⟩).guards=[]:=by first|rfl|simp[Code.guards,Code.isGuard,guardIds]
 first
  |(simp only[Around.under,e,pushGuards];exact h)
  |simp[Around.under,e,pushGuards,h]
theorem cZ.make{k:Nat}{A:Around}(r:cZ (k+1) A)(C:Addr)(us:aD)(kw:List (Str×Value)):cZ k (A.under (.builtin "type.__call__" ⟨.ref C::us,kw⟩)):=
 ⟨r.hd,by have:=r.dp;rw[GK];omega,by have:=r.un;rw[GY];omega,Ee r.gd⟩
theorem cZ.depth{k:Nat}{A:Around}(r:cZ k A):A.depth<recursionLimit:=by have:=r.dp;omega
theorem cZ.units{k:Nat}{A:Around}(r:cZ k A):A.units+64<cLine:=by have:=r.un;omega
noncomputable def uG:TA:=fun _ H Q=>Q [] H
noncomputable def xv(ta:TE)(tr:TA):TA:=fun σ H Q=>ta σ H fun x H1=>tr σ H1 fun xs H2=>Q (x::xs) H2
section
variable{X:Cx}{e:Expr}{es:cu}{te:TE}{t:TA}{pos:Pos}
theorem dr:PA X [] uG:=fun _ _ _ _ H Q I h=>tU ⟨[],H,I,.nil,h⟩
theorem ae(ha:PE X e te)(hr:PA X es t)(hs:starEach (e::es) X.env=(false,eval e X.env)::starEach es X.env:=by rfl):PA X (e::es) (xv te t):=by
 intro pos pins s σ H Q I h;rw[hs];show wpAny _ _ (spliced ((false,eval e X.env)::backTo pos (starEach es X.env))) _ _ s;refine sD (ck (ha pins s σ H _ I h) fun u s1 ⟨x,H1,I1,r1,q1⟩=> ?_);exact ck (hr pos pins s1 σ H1 _ I1 q1) fun us s2 ⟨xs,H2,I2,r2,q2⟩=>⟨x::xs,H2,I2,.cons r1 r2,q2⟩
noncomputable def adY(t:TA):TE:=fun σ H Q=>t σ H fun xs H1=>xs.length≤sizeLine∧∀p,H1 p=none→Q (.ref p) (upd H1 p (.tup xs))
noncomputable def VU(t:TA):TE:=fun σ H Q=>t σ H fun xs H1=>xs.length≤sizeLine∧∀p,H1 p=none→Q (.ref p) (upd H1 p (.lst xs))
theorem a9{x1}(h:PA X es t):PE X (.Tuple es x1 pos) (adY t):=by
 intro pins s σ H Q I hq;refine wpAny_Tuple_spliced (ck (h pos pins s σ H _ I hq) fun us s1 ⟨xs,H1,I1,r,z,q⟩=>⟨by rw[←r.length];exact z,?_⟩);have hf:H1 s1.heap.objs.size=none:=I1.bE.fresh (aG _);refine⟨.ref s1.heap.objs.size,upd H1 s1.heap.objs.size (.tup xs),I1.laid (t' :=s1.toks) (fun b u e=>a8 _ e) (aG _) ?_,rfl,q _ hf⟩;exact⟨z,us,r,⟨_,cg _ rfl,rfl,_,rfl⟩⟩
theorem bg(h:PA X es t):PE X (.List es pos) (VU t):=by
 intro pins s σ H Q I hq;refine wpAny_List_spliced (ck (h pos pins s σ H _ I hq) fun us s1 ⟨xs,H1,I1,r,z,q⟩=>⟨by rw[←r.length];exact z,?_⟩);have hf:H1 s1.heap.objs.size=none:=I1.bE.fresh (aG _);refine⟨.ref s1.heap.objs.size,upd H1 s1.heap.objs.size (.lst xs),I1.laid (t' :=s1.toks) (fun b u e=>a8 _ e) (aG _) ?_,rfl,q _ hf⟩;exact⟨z,us,0,r,cg _ rfl⟩
end
noncomputable abbrev Sp:=ak→Hp→VK→XK→Prop
noncomputable abbrev tD:=List Env→Hp→Shared→XK→Value→Shared→Prop
structure A0(P:Program)(w:World)(K:Frag)(mg:Str→aI)(base:Heap)(A:Around)(outer:List Env)(s:Shared)(H:Hp):Prop where
 frames:A.frames=some outer
 mod:Mod K mg base
 bs:∀b o,base.get? b=some o→s.heap.get? b=some o∧H b=none
 Kc:base.objs.size≤s.heap.objs.size
 qS:s.heap.FunFrames base outer
 NW:∀b∈A5 outer,H b=none
 bE:m8 P w H s.heap
 bare:AllBare s.gens
noncomputable def CE(outer:List Env)(P:Program)(w:World)(H:Hp)(s:Shared)(Q:VK)(u:Value)(s' :Shared):Prop:=
 ∃v H',s'.os=s.os∧AllBare s'.gens∧Un (A5 outer) [] H H' s.heap s'.heap∧m8 P w H' s'.heap∧RelV v u∧Q v H'
noncomputable def CR(CX:tD)(outer:List Env)(P:Program)(w:World)(H:Hp)(s:Shared)(Q:VK)(E:XK)(r:Result)(s' :Shared):Prop:=
 match r with
 | .ok (.ret u)=>CE outer P w H s Q u s'
 | .ok _=>False
 | .error e=>CX outer H s E e s'
structure aM(P:Program)(w:World)(K:Frag)(mg:Str→aI)(base:Heap)(CX:tD)(k:Nat)(f:Addr)(fd:FuncData)(ps:ao)(sp:Sp):Prop where
 len:∀vs H Q E,sp vs H Q E→vs.length=ps.length
 run:∀(A:Around) (outer:List Env) (s:Shared) (H:Hp) (args:Args) (us:aD) (vs:ak) (Q:VK) (E:XK),cZ k A→A0 P w K mg base A outer s H→BindsTo s fd args (ps.zip us)→Vals vs us→sp vs H Q E→
  codeAny (model P w) A (.call (.ref f) args) (CR CX outer P w H s Q E) s
theorem aM.mono{P:Program}{w:World}{K:Frag}{mg:Str→aI}{base:Heap}{CX:tD}{j k:Nat}{f:Addr}{fd:FuncData}{ps:ao}{sp:Sp}(F:aM P w K mg base CX j f fd ps sp)(h:j≤k):
 aM P w K mg base CX k f fd ps sp:=⟨F.len,fun A outer s H args us vs Q E hr=>F.run A outer s H args us vs Q E (hr.mono h)⟩
theorem aM.imp{P:Program}{w:World}{K:Frag}{mg:Str→aI}{base:Heap}{CX:tD}{k:Nat}{f:Addr}{fd:FuncData}{ps:ao}{sp sp' :Sp}(F:aM P w K mg base CX k f fd ps sp)
 (h:∀vs H Q E,sp' vs H Q E→sp vs H Q E):aM P w K mg base CX k f fd ps sp' :=
 ⟨fun vs H Q E q=>F.len vs H Q E (h _ _ _ _ q),fun A outer s H args us vs Q E hr he hb hv hs=>F.run A outer s H args us vs Q E hr he hb hv (h _ _ _ _ hs)⟩
theorem A0.make{P:Program}{w:World}{K:Frag}{mg:Str→aI}{base:Heap}{A:Around}{outer:List Env}{s:Shared}{H:Hp}(e:A0 P w K mg base A outer s H)(C:Addr)(us:aD)(kw:List (Str×Value)):
 A0 P w K mg base (A.under (.builtin "type.__call__" ⟨.ref C::us,kw⟩)) outer s H:=⟨by first|exact e.frames|(simpa[Around.under,Code.envs,Code.isFrame,pushEnvs] using e.frames),e.mod,e.bs,e.Kc,e.qS,e.NW,e.bE,e.bare⟩
section
variable{X:Cx}{pins:aJ}{σ:St}{H:Hp}{s s' :Shared}
theorem Inv.OD(I:Inv X pins σ H s):A0 X.prog X.w X.K X.mg X.base X.A X.stack s H:=
 ⟨I.ok.frames,I.ok.mod,I.bs,aR I.ok.Kc I.sz,I.stack,I.vd,I.bE,I.bare⟩
theorem Inv.after{Q:VK}{u:Value}(I:Inv X pins σ H s)(h:CE X.stack X.prog X.w H s Q u s'):EP X pins σ Q u s' :=by
 obtain⟨v,H',os,bare,un,bE,r,q⟩:=h;obtain⟨hh,g,d,t,os'⟩:=s';obtain rfl:os' =s.os:=os;exact⟨v,H',I.call (h' :=hh) (g' :=g) (d' :=d) (t' :=t) (ch:=[]) un bE bare (fun b z=>absurd z (by simp)),r,q⟩
end
noncomputable def HB(sp:Sp)(dvs:ak)(E:XK)(t:TA):TE:=fun σ H Q=>t σ H fun vs H1=>sp (vs++dvs) H1 Q E
noncomputable def HJ(C:Addr)(m:Str)(sp:Sp)(dvs:ak)(E:XK)(ta:TE)(t:TA):TE:=fun σ H Q=>ta σ H fun x H1=>∃a dx fs,x= .ref a∧H1 a=some (.ins C dx fs)∧fs.lookup m=none∧
 t σ H1 fun vs H2=>sp (x::(vs++dvs)) H2 Q E
noncomputable def aaF(C:Addr)(sp:Sp)(dvs:ak)(E:XK)(t:TA):TE:=fun σ H Q=>t σ H fun vs H1=>∀x dx,H1 x=none→H1 dx=none→dx≠x→
 sp (.ref x::(vs++dvs)) (upd (upd H1 dx (.own x)) x (.ins C dx [])) (fun v H2=>v= .bx∧Q (.ref x) H2) E
noncomputable def Binds(K:Frag)(fd:FuncData)(ps:ao)(ds:aD):Prop:=
 ∀(s:Shared) (us:aD),K.In s.heap→(us++ds).length=ps.length→BindsTo s fd ⟨us,[]⟩ (ps.zip (us++ds))
theorem Binds.all{K:Frag}{fd:FuncData}{ps:ao}(h:∀us:aD,us.length=ps.length→bindArgs fd ⟨us,[]⟩=pure (ps.zip us)):Binds K fd ps []:=fun s us _ hl=>by
 rw[dO] at hl ⊢;exact .of_eq (h us hl)
noncomputable def wn(CX:tD)(X:Cx)(E:XK):Prop:=∀(pins:aJ) (σ:St) (H:Hp) (s:Shared) (e:Value) (s' :Shared),Inv X pins σ H s→CX X.stack H s E e s'→X.xe e s'
section
variable{X:Cx}{CX:tD}{k:Nat}{f C:Addr}{fd:FuncData}{ps:ao}{sp:Sp}{dvs:ak}{ds:aD}{E:XK}{x m:Str}{p pos apos:Pos}{e o:Expr}{es:cu}{ta:TE}{t:TA}
theorem wB{pins:aJ}{σ:St}{H:Hp}{s:Shared}{Q:VK}{us:aD}{vs:ak}(F:aM X.prog X.w X.K X.mg X.base CX k f fd ps sp)(hr:cZ k X.A)(hb:Binds X.K fd ps ds)(hd:Vals dvs ds)(hx:wn CX X E)
 (I:Inv X pins σ H s) (r:Vals vs us) (h:sp (vs++dvs) H Q E):wpAny (model X.prog X.w) X.A (call (.ref f) us) (EP X pins σ Q) X.xe s:=by
 have r2:Vals (vs++dvs) (us++ds):=r.append hd;have hl:(us++ds).length=ps.length:=by rw[←r2.length];exact F.len _ _ _ _ h
 refine pP (pN (F.run X.A X.stack s H ⟨us,[]⟩ (us++ds) (vs++dvs) Q E hr I.OD (hb s us I.je hl) r2 h) fun r s' hq=> ?_)
 cases r with
 |error e=>exact hx pins σ H s e s' I hq
 |ok fl=>
  cases fl with
  |ret u=>exact I.after hq
  |next=>exact False.elim hq
  |brk=>exact False.elim hq
  |cont=>exact False.elim hq
theorem IY(F:aM X.prog X.w X.K X.mg X.base CX k f fd ps sp)(hr:cZ k X.A)(hg:Gl X x)(hm:X.mg x=some (.ref f))(hk:PySem.W.keepIn X.K (.ref f)=true)(hb:Binds X.K fd ps ds)(hd:Vals dvs ds)(hx:wn CX X E)
 (ha:PA X (e::es) t) (se:(x==("__debug__" :Str))=false:=by decide) (he:starEach (e::es) X.env=(false,eval e X.env)::starEach es X.env:=by rfl) (jN:(backTo pos (starEach es X.env)).any (·.1)=false:=by rfl):
 PE X (.Call (.Name x p) (e::es) [] pos) (HB sp dvs E t):=by
 intro pins s σ H Q I h;refine lR (jE I hg hm ?_ se);refine o6 (h₀:=X.base) I.ok.mod.tp hk (ck (ha pos pins s σ H _ I h) fun us s1 ⟨vs,H1,I1,r,q⟩=>⟨I1.je,?_⟩) he jN;exact wB F hr hb hd hx I1 r q
theorem Qq{pl:Sem Bool}(he:PE X o ta)(c:He X.K C)(hm:Meth X.K C m f)(F:aM X.prog X.w X.K X.mg X.base CX k f fd ps sp)(hr:cZ k X.A)(hb:Binds X.K fd ps ds)(hd:Vals dvs ds)(hx:wn CX X E)(ha:PA X (e::es) t)
 (mv:starEach (e::es) X.env=(false,eval e X.env)::starEach es X.env:=by rfl) (jN:(backTo pos (starEach es X.env)).any (·.1)=false:=by rfl)
 (ht:eval (.Call (.Attribute o m apos) (e::es) [] pos) X.env=(do
  let ov←eval o X.env
  standAt apos.atName
  let(f,first)←holding [ov] (getMethod ov m pl)
  callWith pos f first (backTo pos (starEach (e::es) X.env)) (backToKw pos (keywordEach [] X.env))):=by rfl):
 PE X (.Call (.Attribute o m apos) (e::es) [] pos) (HJ C m sp dvs E ta t):=by
 intro pins s σ H Q I h;refine qE (pl:=pl) (ck (he pins s σ H _ I h) fun u s1 ⟨x,H1,I1,rx,a,dx,fs,ex,ea,l,q⟩=> ?_) ht;subst ex;obtain rfl:u=Value.ref a:=rx;refine nX I1 ea c hm l ?_;refine o6 (first:=[.ref a]) (h₀:=X.base) I.ok.mod.tp hm.kp (ck (ha pos pins s1 σ H1 _ I1 q) fun us s2 ⟨vs,H2,I2,r,q2⟩=>⟨I2.je,?_⟩) mv jN;exact wB (us:= .ref a::us) (vs:= .ref a::vs) F hr hb hd hx I2 (.cons rfl r) q2
theorem Nf{pl:Sem Bool}(he:PE X o ta)(c:He X.K C)(hm:Meth X.K C m f)(F:aM X.prog X.w X.K X.mg X.base CX k f fd ps sp)(hr:cZ k X.A)(hb:Binds X.K fd ps ds)(hd:Vals dvs ds)(hx:wn CX X E)
 (ht:eval (.Call (.Attribute o m apos) [] [] pos) X.env=(do
  let ov←eval o X.env
  standAt apos.atName
  let(f,first)←holding [ov] (getMethod ov m pl)
  callWith pos f first (backTo pos (starEach [] X.env)) (backToKw pos (keywordEach [] X.env))):=by rfl):
 PE X (.Call (.Attribute o m apos) [] [] pos) (HJ C m sp dvs E ta uG):=by
 intro pins s σ H Q I h;refine qE (pl:=pl) (ck (he pins s σ H _ I h) fun u s1 ⟨x,H1,I1,rx,a,dx,fs,ex,ea,l,q⟩=> ?_) ht;subst ex;obtain rfl:u=Value.ref a:=rx;refine nX I1 ea c hm l ?_;exact PySem.W.callWith_K0 (first:=[.ref a]) I1.je hm.kp (wB (us:=[.ref a]) (vs:=[.ref a]) F hr hb hd hx I1 (.cons rfl .nil) q)
structure Mk(K:Frag)(C f:Addr):Prop where
 makes:makesIn K C=true
 init:PySem.W.findIn K (.ref C) "__init__"=some (some (.ref f))
 fn:PySem.W.isFn K (.ref f)=true
 kp:PySem.W.keepIn K (.ref C)=true
theorem LA{pins:aJ}{σ:St}{H:Hp}{s:Shared}{Q:VK}{us:aD}{vs:ak}(M:Mk X.K C f)(F:aM X.prog X.w X.K X.mg X.base CX k f fd ps sp)(hr:cZ (k+1) X.A)(hb:Binds X.K fd ps ds)(hd:Vals dvs ds)
 (hx:wn CX X E) (I:Inv X pins σ H s) (r:Vals vs us)
 (h:∀x dx,H x=none→H dx=none→dx≠x→sp (.ref x::(vs++dvs)) (upd (upd H dx (.own x)) x (.ins C dx [])) (fun v H2=>v= .bx∧Q (.ref x) H2) E):
 wpAny (model X.prog X.w) X.A (call (.ref C) us) (EP X pins σ Q) X.xe s:=by
 have hq:=h (s.heap.objs.size+1) s.heap.objs.size (I.bE.fresh (lJ _)) (I.bE.fresh (aG _)) (bN (yP _));have I2:=Inv.made (C:=C) I;have r2:Vals (V.ref (s.heap.objs.size+1)::(vs++dvs)) (Value.ref (s.heap.objs.size+1)::(us++ds)):= .cons rfl (r.append hd)
 have hl:(Value.ref (s.heap.objs.size+1)::us++ds).length=ps.length:=by
  have e:=r2.length;rw[F.len _ _ _ _ hq] at e;exact e.symm
 refine pP (LV (f:=f) I.je M.makes M.init (qA.mp M.fn) (pN (F.run _ X.stack _ _ ⟨Value.ref (s.heap.objs.size+1)::us,[]⟩ (Value.ref (s.heap.objs.size+1)::(us++ds)) _ _ E (hr.make C us [])
  (I2.OD.make C us []) (hb _ (Value.ref (s.heap.objs.size+1)::us) I2.je hl) r2 hq) fun r s' Nq => ?_))
 cases r with
 |error e=>exact hx pins σ _ _ e s' I2 Nq
 |ok fl=>
  cases fl with
  |ret u=>
   obtain⟨v,H',I3,rv,ev,q3⟩:=I2.after Nq;subst ev;exact⟨rv,⟨V.ref (s.heap.objs.size+1),H',I3,rfl,q3⟩⟩
  |next=>exact False.elim Nq
  |brk=>exact False.elim Nq
  |cont=>exact False.elim Nq
theorem yo(M:Mk X.K C f)(F:aM X.prog X.w X.K X.mg X.base CX k f fd ps sp)(hr:cZ (k+1) X.A)(hg:Gl X x)(hm:X.mg x=some (.ref C))(hb:Binds X.K fd ps ds)(hd:Vals dvs ds)(hx:wn CX X E)
 (ha:PA X (e::es) t) (se:(x==("__debug__" :Str))=false:=by decide) (he:starEach (e::es) X.env=(false,eval e X.env)::starEach es X.env:=by rfl) (jN:(backTo pos (starEach es X.env)).any (·.1)=false:=by rfl):
 PE X (.Call (.Name x p) (e::es) [] pos) (aaF C sp dvs E t):=by
 intro pins s σ H Q I h;refine lR (jE I hg hm ?_ se);refine o6 (h₀:=X.base) I.ok.mod.tp M.kp (ck (ha pos pins s σ H _ I h) fun us s1 ⟨vs,H1,I1,r,q⟩=>⟨I1.je,?_⟩) he jN;exact LA M F hr hb hd hx I1 r q
end
section
variable{X:Cx}{CX:tD}{k:Nat}{f C:Addr}{fd:FuncData}{ps ks:ao}{sp:Sp}{E:XK}{x m:Str}{p pos apos akA:Pos}{e o:Expr}{es:cu}{kws:List Keyword}{te ta:TE}{t tk:TA}{nm:Option Str}
variable{g:aD→aD→aD}{gV:ak→ak→ak}
end
structure aE(N P:ao)(sc:Scope):Prop where
 kind:sc.kind= .function
 co:sc.isCoroutine=false
 gen:sc.isGenerator=false
 nd:N.Nodup
 pre:N.take P.length=P
 par:∀x∈P,sc.names.lookup x=some .local∨sc.names.lookup x=some .cell
 Vf:∀y∈sc.names,y.2≠.free
theorem By{kindOf:Str→Option NameKind}{x:Str}:∀{binds:List (Str×Value)} {m:Str→aI},(∀v,(x,v)∉binds)→bindL kindOf binds m x=m x
 |[],_,_=>rfl
 |(n,v)::r,m,h=>by
  unfold bindL;rw[By fun w hw=>h w (ff _ hw)]
  split
  ·have:x≠n:=by rintro rfl;exact h v e_
   simp[this]
  ·rfl
theorem B_{kindOf:Str→Option NameKind}{x:Str}:∀{binds:List (Str×Value)} {m:Str→aI},(∀v,(x,v)∉binds)→bindC kindOf binds m x=m x
 |[],_,_=>rfl
 |(n,v)::r,m,h=>by
  unfold bindC;rw[B_ fun w hw=>h w (ff _ hw)]
  split
  ·rfl
  ·have:x≠n:=by rintro rfl;exact h v e_
   simp[this]
theorem Bn{kindOf:Str→Option NameKind}{x:Str}{v:Value}:∀{P:ao} {vs:aD} {i:Nat} {m:Str→aI},P.Nodup→P[i]? =some x→vs[i]? =some v→kindOf x=some .local→
 bindL kindOf (P.zip vs) m x=some v
 |[],_,_,_,_,h,_,_=>by simp at h
 |_::_,[],_,_,_,_,h,_=>by simp at h
 |p::P,w::vs,0,m,nd,h1,h2,hk=>by
  simp at h1 h2;subst h1;subst h2
  show bindL kindOf ((p,w)::P.zip vs) m p=_;unfold bindL;rw[By fun v hv=>(tN.mp nd).1 (yH hv).1,aA hk];simp
 |p::P,w::vs,i+1,m,nd,h1,h2,hk=>by
  show bindL kindOf ((p,w)::P.zip vs) m x=_;unfold bindL;exact Bn (i:=i) (tN.mp nd).2 (by simpa using h1) (by simpa using h2) hk
theorem Cn{kindOf:Str→Option NameKind}{x:Str}{v:Value}:∀{P:ao} {vs:aD} {i:Nat} {m:Str→aI},P.Nodup→P[i]? =some x→vs[i]? =some v→kindOf x≠some .local→
 bindC kindOf (P.zip vs) m x=some v
 |[],_,_,_,_,h,_,_=>by simp at h
 |_::_,[],_,_,_,_,h,_=>by simp at h
 |p::P,w::vs,0,m,nd,h1,h2,hk=>by
  simp at h1 h2;subst h1;subst h2
  show bindC kindOf ((p,w)::P.zip vs) m p=_;unfold bindC;rw[B_ fun v hv=>(tN.mp nd).1 (yH hv).1,ay hk];simp
 |p::P,w::vs,i+1,m,nd,h1,h2,hk=>by
  show bindC kindOf ((p,w)::P.zip vs) m x=_;unfold bindC;exact Cn (i:=i) (tN.mp nd).2 (by simpa using h1) (by simpa using h2) hk
noncomputable def start(N:ao)(vs:ak):St:=vs.map some++List.replicate (N.length - vs.length) none
noncomputable def kP(CX:tD)(P:Program)(w:World)(K:Frag)(mg:Str→aI)(base:Heap)(N:ao)(qual:Str)(scope:Scope)(f:Addr)(cd:Value)(A:Around)(outer:List Env)(s:Shared)(H:Hp)(E:XK):Cx where
 prog:=P
 w:=w
 K:=K
 mg:=mg
 base:=base
 A:=A.deeper (envOfC qual scope s.heap.objs.size f cd)
 N:=N
 eV:=s
 H₀:=H
 env:=envOfC qual scope s.heap.objs.size f cd
 outer:=outer
 stack:=envOfC qual scope s.heap.objs.size f cd::outer
 ex:=[]
 calm:=true
 fn:=fun _=>true
 pn:=[]
 xe:=fun e s' =>wpAny (model P w) (A.deeper (envOfC qual scope s.heap.objs.size f cd)) (leaving (envOfC qual scope s.heap.objs.size f cd) e) (fun _ Nw =>CX outer H s E e Nw) (fun e' Nw =>CX outer H s E e' Nw) s'
theorem Fd{sc:Scope}{n:Nat}{x:Str}(h:sc.names.lookup x=some .cell):∃c,(cellsFrom n sc.names []).lookup x=some c:=by
 have q:=cellsFrom_some sc.names n [] (.inl h);exact Option.isSome_iff_exists.mp q
theorem JQ{CX:tD}{P:Program}{w:World}{K:Frag}{mg:Str→aI}{base:Heap}{N ps:ao}{qual:Str}{scope:Scope}{f:Addr}{cd:Value}{A:Around}{outer:List Env}{s s1:Shared}{H:Hp}{E:XK}{us:aD}{vs:ak}
 (S:aE N ps scope) (hd:A.handled=none) (e0:A0 P w K mg base A outer s H) (hl:vs.length=ps.length) (r:Vals vs us)
 (x:InCallC s s.heap.objs.size (bindL (envOfC qual scope s.heap.objs.size f cd).kindOf (ps.zip us) fun _=>none) (cellsFrom (s.heap.objs.size+1) scope.names []) (bindC (envOfC qual scope s.heap.objs.size f cd).kindOf (ps.zip us) fun _=>none) s1):
 Inv (kP CX P w K mg base N qual scope f cd A outer s H E) [] (start N vs) H s1:=by
 have jN:ps.length≤N.length:=by have:=congrArg List.length S.pre;rw[gG] at this;omega
 obtain⟨h1,tk,rfl,hk⟩:=x.done;have Pz:∀b:Addr,b∉(kP CX P w K mg base N qual scope f cd A outer s H E).ex:=fun b z=>absurd (show b∈([]:bP) from z) (by simp)
 refine⟨⟨e0.mod,S.kind,rfl,rfl,aG _,fun y z c h1 h2=> ?_,fun y hy=> ?_,fun y c _ h=> ?_,fun _=>hd,Around.frames_deeper e0.frames,.inr ⟨rfl,rfl⟩,fun b z=>absurd z (Pz b),e0.bs,e0.Kc,fun b _ _=>Pz b,fun b z=>absurd z (Pz b),e0.qS,e0.NW⟩,
  rfl,e0.bare,Un.kept hk,⟨_,x.toInCall.ns,fun i y v h1 h2 h3=> ?_⟩,fun y c h=>⟨_,x.cell y c h⟩,e0.bE.fresh (aG _),fun y c h=> ?_,fun p hp=>absurd (show p∈([]:aJ) from hp) (by simp),e0.bE.kept hk,?_⟩
 ·exact name_of_addr x.apart (PySem.mem_of_lookup h1) (PySem.mem_of_lookup h2)
 ·have hy:scope.names.lookup y=some .cell∨scope.names.lookup y=some .free:=hy;rcases hy with hy|hy
  ·exact Fd hy
  ·exact absurd rfl (S.Vf _ (PySem.mem_of_lookup hy))
 ·exact bO (x.above y c (PySem.mem_of_lookup h))
 ·have hi:i<vs.length:=by
   unfold start at h2;by_cases hi:i<vs.length
   ·exact hi
   ·rw[gM (by simpa using hi)] at h2;rw[si] at h2
    split at h2<;>cases h2
  have ha:vs[i]? =some v:=by
   unfold start at h2;rw[dP (by simpa using hi),bj] at h2
   cases e:vs[i]? with
   |none=>rw[e] at h2;cases h2
   |some a=>rw[e] at h2;cases h2;rfl
  obtain⟨u,hu,rv⟩:=r.get ha
  have hp:ps[i]? =some y:=by
   rw[←S.pre,List.getElem?_take_of_lt (by omega)];exact h1
  have ndP:ps.Nodup:=by rw[←S.pre];exact S.nd.sublist (List.take_sublist _ _)
  refine⟨u,rv,?_⟩;rcases S.par y (bJ hp) with k|k
  ·exact .inl ⟨k,Bn ndP hp hu k⟩
  ·obtain⟨c,e⟩:=Fd (n:=s.heap.objs.size+1) k;refine .inr ⟨.inl k,c,e,?_⟩;have q:=x.cell y c e;rw[Cn ndP hp hu (by show scope.names.lookup y≠_;rw[k];decide)] at q;exact q
 ·exact e0.bE.fresh (bO (x.above y c (PySem.mem_of_lookup h)))
 ·unfold start;show _=N.length;rw[ba,aK,gN];omega
theorem HI{CX:tD}{P:Program}{w:World}{K:Frag}{mg:Str→aI}{base:Heap}{k:Nat}{f:Addr}{name qual:Str}{params:Arguments}{body:List Stmt}{scope:Scope}{dV kV doc pm cj ct oc:Value}{an od:Option Addr}
 {xI:Array (aI)} {N ps:ao} {sp:Sp} (lk:K.lookup f=some ⟨oc,od,.func (PySem.W.fnOf name qual params body scope dV kV doc pm an cj ct),xI⟩) (zR:PySem.W.codeIn K cj qual=true) (S:aE N ps scope)
 (len:∀vs H Q E,sp vs H Q E→vs.length=ps.length)
 (gu:∀(A:Around) (outer:List Env) (s:Shared) (H:Hp) (vs:ak) (Q:VK) (E:XK),cZ k (A.deeper (envOfC qual scope s.heap.objs.size f cj))→sp vs H Q E→
  ∃t,AO (kP CX P w K mg base N qual scope f cj A outer s H E) body t∧t {nx:=fun _ H' =>Q .bx H',rt:=Q} (start N vs) H):
 aM P w K mg base CX (k+1) f (PySem.W.fnOf name qual params body scope dV kV doc pm an cj ct) ps sp:=by
 refine⟨len,fun A outer s H args us vs Q E hr e0 hb r BC=> ?_⟩;have hl:=len _ _ _ _ BC;have KX:K.In s.heap:=e0.mod.tp.keeps fun b o e=>(e0.bs b o e).1;have lim:s.heap.NoLimit:=e0.mod.nolimit.keeps fun b o e=>(e0.bs b o e).1
 have ZM:∀y∈ps.zip us,scope.names.lookup y.1=some .local∨(scope.names.lookup y.1=some .cell∧((cellsFrom (s.heap.objs.size+1) scope.names []).lookup y.1).isSome=true):=fun⟨n,v⟩ hy=>by
  rcases S.par n (yH hy).1 with q|q
  ·exact .inl q
  ·exact .inr ⟨q,cellsFrom_some _ _ _ (.inl q)⟩
 refine codeAny_call_function hr.depth (KX _ _ lk) rfl S.co S.gen rfl (PySem.W.codeRec_of KX zR) (hb _ _ _ _ ?_);refine wpAny_newFunctionEnv_cells S.kind ZM fun env he s1 x=> ?_;subst he;refine⟨lim.keeps x.toInCall.keep,codeAny_func ?_⟩;obtain⟨t,ht,hq⟩:=gu A outer s H vs Q E (hr.deeper _) BC;have I:Inv (kP CX P w K mg base N qual scope f cj A outer s H E) [] (start N vs) H s1:=JQ S hr.hd e0 hl r x;refine eA (ht [] s1 (start N vs) H _ I hq) (fun fl s' hs=> ?_) fun e s' hs=>hs
 have fin:∀{dC :St} {H' :Hp} {v:V} {u:Value},Inv (kP CX P w K mg base N qual scope f cj A outer s H E) [] dC H' s'→RelV v u→Q v H'→CE outer P w H s Q u s' :=
  fun{dC H' v u} J rv q=>⟨v,H',J.os,J.bare,J.base,J.bE,rv,q⟩
 cases fl with
 |ret u=>
  obtain⟨v,dC,H',J,rv,q⟩:=hs;exact fin J rv q
 |next=>
  obtain⟨dC,H',J,q⟩:=hs;exact fin (v:=V.bx) (u:=Value.none) J rfl q
 |brk=>
  obtain⟨_,_,_,q⟩:=hs;exact False.elim q
 |cont=>
  obtain⟨_,_,_,q⟩:=hs;exact False.elim q
section
variable{X:Cx}{x:Str}{p pos:Pos}{e:Expr}{es:cu}{t:TA}{id T:String}{r:ak→Hp→VK→Prop}
noncomputable def Xe(r:ak→Hp→VK→Prop)(t:TA):TE:=fun σ H Q=>t σ H fun vs H1=>r vs H1 Q
theorem Lf(hc:iq X (.builtin id) r)(hg:Gl X x)(hm:X.mg x=none)(hv:bootBuiltins x=some (.builtin id))(ha:PA X (e::es) t)(hn:x≠ "__name__":=by decide)(se:(x==("__debug__" :Str))=false:=by decide)
 (he:starEach (e::es) X.env=(false,eval e X.env)::starEach es X.env:=by rfl) (jN:(backTo pos (starEach es X.env)).any (·.1)=false:=by rfl):PE X (.Call (.Name x p) (e::es) [] pos) (Xe r t):=by
 intro pins s σ H Q I h;refine lR (pE I hg hm hv ?_ hn se);exact IW (ck (ha pos pins s σ H _ I h) fun us s1 ⟨vs,H1,I1,r1,q1⟩=>hc pins s1 σ H1 vs us Q I1 r1 q1) he jN
theorem JI(hc:iq X (.type T) r)(hg:Gl X x)(hm:X.mg x=none)(hv:bootBuiltins x=some (.type T))(ha:PA X (e::es) t)(hn:x≠ "__name__":=by decide)(se:(x==("__debug__" :Str))=false:=by decide)
 (he:starEach (e::es) X.env=(false,eval e X.env)::starEach es X.env:=by rfl) (jN:(backTo pos (starEach es X.env)).any (·.1)=false:=by rfl):PE X (.Call (.Name x p) (e::es) [] pos) (Xe r t):=by
 intro pins s σ H Q I h;refine lR (pE I hg hm hv ?_ hn se);exact Aq (ck (ha pos pins s σ H _ I h) fun us s1 ⟨vs,H1,I1,r1,q1⟩=>hc pins s1 σ H1 vs us Q I1 r1 q1) he jN
end
end L2
namespace HT
open PySem PyProof.Rows
section
open PySem.SeqAt
open PySem.AutoSeq1 (wpAny_loadPart')
open PySem.MeetsSeq PySem.MeetsSeq2 PySem.MeetsSeq3
end
section
variable{prog:Program}{w:World}{A:Around}{E:Value→Shared→Prop}{s:Shared}
theorem Od{t b:Addr}{vs ws:aD}{Q:Value→Shared→Prop}(ht:IsTup s.heap t vs.toArray)(hb:IsTup s.heap b ws.toArray)(hv:vs≠[])
 (h1:ws=[]→Q (.ref t) s) (h2:ws≠[]→Q (.ref s.heap.objs.size) {s with heap:=s.heap.push {cls:= .type "tuple",data:= .seq (vs++ws).toArray}})
 (hsz:vs.length+ws.length≤sizeLine):wpAny (model prog w) A (binaryOp .Add (.ref t) (.ref b)) Q E s:=by
 obtain⟨⟨cls,dd,data,sl⟩,ho,hc,n,hd⟩:=id ht;obtain⟨⟨al2,SN,data2,sl2⟩,IS,hc2,n2,hd2⟩:=id hb;simp only at hc hd hc2 hd2;subst hc hd hc2 hd2;have e:vs.toArray++ws.toArray=(vs++ws).toArray:=by simp
 by_cases hw:ws=[]
 ·exact concat_meets ⟨_,ho,rfl⟩ ⟨_,IS,rfl⟩ noFill_tuple_add seq_tuple_add slot_tuple_add entry_tuple_add (args_tuple_add_2 _ _)
   (tuple_addW1 t b vs.toArray ws.toArray n n2 dd SN sl sl2 (by simpa using hv) (by simp[hw])) ⟨ho,IS,h1 hw⟩
 ·refine concat_meets ⟨_,ho,rfl⟩ ⟨_,IS,rfl⟩ noFill_tuple_add seq_tuple_add slot_tuple_add entry_tuple_add (args_tuple_add_2 _ _)
   (tuple_addW2 t b vs.toArray ws.toArray n n2 dd SN sl sl2 (by simpa using hv) (by simpa using hw) (by rw[bh,bh];exact hsz)) ⟨ho,IS,?_⟩
  rw[e];exact h2 hw
noncomputable def iB(n d:Nat):Option Int→Nat
 |none=>d
 |some v=>if v<0 then(v+(n:Int)).toNat else min v.toNat n
theorem An(n d:Nat):iB n d none=d:=rfl
theorem jJ(n d k:Nat):iB n d (some (k:Int))=min k n:=by
 show(if(k:Int)<0 then((k:Int)+(n:Int)).toNat else min (k:Int).toNat n)=min k n;rw[ay (by omega),jl]
theorem Vi(n d:Nat)(hd:d≤n)(o:Option Int):iB n d o≤n:=by
 cases o with
 |none=>exact hd
 |some v=>
  show(if v<0 then(v+(n:Int)).toNat else min v.toNat n)≤n;by_cases hv:v<0
  ·rw[aA hv];omega
  ·rw[ay hv];exact Nat.min_le_right _ _
theorem Ij(v:Int)(n d:Nat):(if v<0 then max (v+(n:Int)) 0 else min v (n:Int))=((iB n d (some v):Nat):Int):=by
 show(if v<0 then max (v+(n:Int)) 0 else min v (n:Int))=(((if v<0 then(v+(n:Int)).toNat else min v.toNat n):Nat):Int);by_cases hv:v<0
 ·simp only[aA hv];omega
 ·simp only[ay hv];omega
theorem FL(lo hi:Option Int)(n:Nat):Builtin.Slice.sliceAdjust lo hi 1 (n:Int)=(((iB n 0 lo:Nat):Int),((iB n n hi:Nat):Int)):=by
 have h1:¬((1:Int)<0):=by omega
 unfold Builtin.Slice.sliceAdjust;simp only[h1,iX];refine Prod.ext ?_ ?_
 ·cases lo with
  |none=>rfl
  |some v=>exact Ij v n 0
 ·cases hi with
  |none=>rfl
  |some v=>exact Ij v n n
theorem FH(i j:Nat):Builtin.Slice.slicePlaces (i:Int) (j:Int) 1=j - i:=by
 unfold Builtin.Slice.slicePlaces;have h1:(1:Int)>0:=by omega
 simp only[h1,if_true,Int.ediv_one]
 split<;>omega
theorem Ax{v:Value}{o:Option Int}{Q:Option Int→Shared→Prop}(p:IsPart v o)(h:Q o s):wpAny (model prog w) A (Builtin.Slice.slicePartIndex v) Q E s:=by
 cases p with
 |none=>exact slicePart_none h
 |int i t=>exact slicePart_int h
theorem mz{sl:Addr}{vl vu:Value}{lo hi:Option Int}{n:Nat}{Q:Int×Int×Nat→Shared→Prop}(hs:s.heap.IsSliceOf sl vl vu .none)(pl:IsPart vl lo)(pu:IsPart vu hi)
 (h:Q (((iB n 0 lo:Nat):Int),1,iB n n hi - iB n 0 lo) s):wpAny (model prog w) A (Builtin.Slice.sliceApplied (.ref sl) (pure (n:Int))) Q E s:=by
 obtain⟨os,Kw,Xl,OP⟩:=id hs;unfold Builtin.Slice.sliceApplied Builtin.Slice.sliceFields;refine ah (ah (cc Kw OP (x:=vl) rfl (ah (cc Kw OP (x:=vu) rfl (ah (cc Kw OP (x:= .none) rfl (aC ?_)))))));refine ah (slicePart_none ?_);show wpAny _ _ (if((1:Int)==0)=true then _ else _) _ _ s;rw[ay (by decide)];refine ah (Ax pl (ah (Ax pu (ah (aC ?_)))));show wpAny _ _ (match Builtin.Slice.sliceAdjust lo hi 1 (n:Int) with|(lo,hi)=>pure (lo,(1:Int),Builtin.Slice.slicePlaces lo hi 1)) _ _ s;rw[FL lo hi n];show wpAny _ _ (pure (((iB n 0 lo:Nat):Int),(1:Int),Builtin.Slice.slicePlaces ((iB n 0 lo:Nat):Int) ((iB n n hi:Nat):Int) 1)) _ _ s;rw[FH];exact aC h
theorem MA(xs:Array Value)(i k:Nat):((List.range k).filterMap fun(m:Nat)=>xs[((i:Int)+(m:Int)*1).toNat]?).toArray=((xs.toList.drop i).take k).toArray:=by
 have e:(fun(m:Nat)=>xs[((i:Int)+(m:Int)*1).toNat]?)=fun m=>xs[i+m]? :=by
  funext m
  have:((i:Int)+(m:Int)*1).toNat=i+m:=by omega
  rw[this]
 rw[e];have:=pick_run xs i k;rw[List.filterMap_map] at this;have e2:((fun x=>xs[x]?) ∘ fun x=>i+x)=fun m=>xs[i+m]? :=rfl;rw[e2] at this;rw[this]
theorem uf{t sl:Addr}{items:Array Value}{vl vu:Value}{lo hi:Option Int}{Q:Value→Shared→Prop}(ht:IsTup s.heap t items)(hs:s.heap.IsSliceOf sl vl vu .none)(pl:IsPart vl lo)(pu:IsPart vu hi)
 (hw:¬(iB items.size 0 lo=0∧iB items.size items.size hi=items.size))
 (h:Q (.ref s.heap.objs.size) {s with heap:=s.heap.push {cls:= .type "tuple",data:= .seq ((items.toList.drop (iB items.size 0 lo)).take (iB items.size items.size hi - iB items.size 0 lo)).toArray}})
 (hsz:items.size≤sizeLine):wpAny (model prog w) A (getItem (.ref t) (.ref sl)) Q E s:=by
 have uO:sizeOk (.seq ((items.toList.drop (iB items.size 0 lo)).take (iB items.size items.size hi - iB items.size 0 lo)).toArray):=by
  show((items.toList.drop (iB items.size 0 lo)).take (iB items.size items.size hi - iB items.size 0 lo)).toArray.size≤sizeLine;rw[bh,gG,tS,tZ];omega
 have hj:iB items.size items.size hi≤items.size:=Vi _ _ (aG _) hi;obtain⟨os,Kw,Xl,OP⟩:=id hs;have QP:s.TypeIs (.ref sl) "slice":=⟨os,Kw,Xl⟩;unfold getItem
 try with_reducible refine gZ ?_
 first|refine ah (aC ?_)|skip
 refine ah (wpAny_sequenceKey ht.typeIs (by decide) ?_)
 refine ah (ni (name:=Str.ofString "__getitem__") ht.typeIs nj
  (kQ nj ht.typeIs entry_tuple_getitem ?_ (args_tuple_getitem _ _)))
 show wpAny _ _ (Builtin.Tuple.tupleItemsOf (.ref t)>>= _) _ _ s;refine ah (tupleItemsOf_ ht ?_);refine ah (vb QP ?_);rw[aA (by decide)];refine ah (mz hs pl pu ?_)
 have hno:¬((((iB items.size 0 lo:Nat):Int)==0&&(1:Int)==1&&(iB items.size items.size hi - iB items.size 0 lo)==items.size)=true):=by
  intro q;rw[gL,gL] at q;have q1:((iB items.size 0 lo:Nat):Int)=0:=eq_of_beq q.1.1;have q2:iB items.size items.size hi - iB items.size 0 lo=items.size:=eq_of_beq q.2;exact hw ⟨by omega,by omega⟩
 show wpAny _ _ (if(((iB items.size 0 lo:Nat):Int)==0&&(1:Int)==1&&(iB items.size items.size hi - iB items.size 0 lo)==items.size)=true then _ else _) _ _ s;rw[ay hno,MA]
 first
  |exact ah (m:=Builtin.Tuple.tupleExact _) (gm (aC ⟨_,rfl,aC h⟩) uO)
  |exact ah (m:=Builtin.Tuple.tupleExact _) (gm (ah (aC (aC ⟨_,rfl,aC h⟩))) uO)
  |exact ah (ah (m:=Builtin.Tuple.tupleExact _) (gm (aC (aC ⟨_,rfl,aC h⟩)) uO))
  |exact ah (ah (m:=Builtin.Tuple.tupleExact _) (gm (aC ⟨_,rfl,aC h⟩) uO))
end
end HT
namespace L2
open PySem PySem.Spec PyProof.Rows
noncomputable abbrev TO:=St→Hp→(Option Int→Hp→Prop)→Prop
noncomputable def PO(X:Cx)(e:Option Expr)(t:TO):Prop:=
 ∀(pins:aJ) (s:Shared) (σ:St) (H:Hp) (Q:Option Int→Hp→Prop),Inv X pins σ H s→t σ H Q→
  wpAny (model X.prog X.w) X.A (evalPart e X.env) (fun u s' =>∃o H',Inv X pins σ H' s'∧IsPart u o∧Q o H') X.xe s
noncomputable def Qp:TO:=fun _ H Q=>Q none H
noncomputable def HR(t:TE):TO:=fun σ H Q=>t σ H fun x H1=>∃i,x= .int i∧Q (some i) H1
section
variable{X:Cx}{e:Expr}{te:TE}{lo hi:Option Expr}{tl th:TO}{pos p2:Pos}
theorem gA:PO X none Qp:=by
 intro pins s σ H Q I h;rw[evalPart_none];exact aC ⟨none,H,I,.none,h⟩
theorem cE(h:PE X e te):PO X (some e) (HR te):=by
 intro pins s σ H Q I hw;rw[evalPart_some];refine ck (h pins s σ H _ I hw) fun u s1 ⟨x,H1,I1,r1,q1⟩=> ?_;obtain⟨i,rfl,q⟩:=q1;obtain⟨t,rfl⟩:=r1;exact⟨some i,H1,I1,.int i t,q⟩
noncomputable def SlR(X:Cx)(r:V→Option Int→Option Int→Hp→VK→Prop):Prop:=
 ∀(pins:aJ) (s:Shared) (σ:St) (H:Hp) (x:V) (v vl vu:Value) (lo hi:Option Int) (sl:Addr) (Q:VK),Inv X pins σ H s→RelV x v→s.heap.IsSliceOf sl vl vu .none→IsPart vl lo→IsPart vu hi→r x lo hi H Q→
  ∃T id,typeLookup (.type T) "__getitem__"=pure (some (.builtin id))∧s.TypeIs v T∧wpAny (model X.prog X.w) X.A (getItem v (.ref sl)) (EP X pins σ Q) X.xe s
noncomputable def tSl(r:V→Option Int→Option Int→Hp→VK→Prop)(te:TE)(tl th:TO):TE:=fun σ H Q=>te σ H fun x H1=>tl σ H1 fun l H2=>th σ H2 fun u H3=>r x l u H3 Q
theorem c5{r:V→Option Int→Option Int→Hp→VK→Prop}(hr:SlR X r)(he:PE X e te)(hl:PO X lo tl)(hu:PO X hi th):PE X (.Subscript e (.Slice lo hi none p2) pos) (tSl r te tl th):=by
 intro pins s σ H Q I h;refine Subscript_ (ck (he pins s σ H _ I h) fun v s1 ⟨x,H1,I1,r1,q1⟩=> ?_);refine wpAny_Slice (ck (hl pins s1 σ H1 _ I1 q1) fun vl s2 ⟨l,H2,I2,pl,q2⟩=>ck (hu pins s2 σ H2 _ I2 q2) fun vu s3 ⟨u,H3,I3,pu,q3⟩=> ?_);rw[evalPart_none];refine aC ?_;have I4:Inv X pins σ H3 {s3 with heap:=s3.heap.push {cls:= .type "slice",data:= .fields #[vl,vu,.none]}}:=I3.kept (t' :=s3.toks) fun b ob q=>a8 _ q;obtain⟨T,id,hT,ht,hg⟩:=hr pins {s3 with heap:=s3.heap.push {cls:= .type "slice",data:= .fields #[vl,vu,.none]}} σ H3 x v vl vu l u s3.heap.objs.size Q I4 r1 (Heap.IsSliceOf.new ..) pl pu q3;show wpAny (model X.prog X.w) X.A (subscriptTail e (.Slice lo hi none p2) v (.ref s3.heap.objs.size)) (EP X pins σ Q) X.xe {s3 with heap:=s3.heap.push {cls:= .type "slice",data:= .fields #[vl,vu,.none]}};exact tail_any (ops:=[.ref s3.heap.objs.size,v]) ht hT hg (by with_unfolding_all rfl)
noncomputable def bY(xs:ak)(lo hi:Option Int):ak:=(xs.drop (HT.iB xs.length 0 lo)).take (HT.iB xs.length xs.length hi - HT.iB xs.length 0 lo)
theorem Ef(xs:ak)(lo hi:Option Int):(bY xs lo hi).length≤xs.length:=by
 unfold bY;rw[gG,tS];omega
noncomputable def aew(K:Frag):V→Option Int→Option Int→Hp→VK→Prop:=fun x lo hi H Q=>∃a xs,x= .ref a∧bc K H a xs∧
 ¬(HT.iB xs.length 0 lo=0∧HT.iB xs.length xs.length hi=xs.length)∧∀p,H p=none→Q (.ref p) (upd H p (.tup (bY xs lo hi)))
theorem lS:SlR X (aew X.K):=by
 intro pins s σ H x v vl vu lo hi sl Q I rx hs pl pu h;obtain⟨a,xs,rfl,hx,hw,q⟩:=h;cases rx;obtain⟨its,r,ht,hz⟩:=I.tuple hx;have hlen:its.toArray.size=xs.length:=by rw[bh];exact r.length.symm
 refine⟨"tuple",_,nj.lookup,ht.typeIs,?_⟩;refine HT.uf ht hs pl pu (by rw[hlen];exact hw) ?_ (by rw[hlen];exact hz);rw[hlen];refine⟨.ref s.heap.objs.size,_,I.laid (t' :=s.toks) (o:= .tup (bY xs lo hi)) (fun b ob q=>a8 _ q) (aG _) ?_,rfl,q _ (I.bE.fresh (aG _))⟩;exact⟨aR (Ef xs lo hi) hz,_,(r.drop (HT.iB xs.length 0 lo)).take (HT.iB xs.length xs.length hi - HT.iB xs.length 0 lo),IsTup.new _ _⟩
noncomputable def Yd(K:Frag):R2:=fun x y H Q=>∃a b xs ys,x= .ref a∧y= .ref b∧bc K H a xs∧bc K H b ys∧xs≠[]∧xs.length+ys.length≤sizeLine∧
 (ys=[]→Q (.ref a) H)∧(ys≠[]→∀p,H p=none→Q (.ref p) (upd H p (.tup (xs++ys))))
theorem Vals.C2{xs:ak}{us:aD}(r:Vals xs us):us=[]↔xs=[]:=by
 cases r with
 |nil=>simp
 |cons _ _=>simp
theorem DX:qp X (binaryOp .Add) (Yd X.K):=by
 intro pins s σ H x y v u Q I rx ry h;obtain⟨a,b,xs,ys,rfl,rfl,ha,hb,hx,hz,q1,q2⟩:=h;cases rx;cases ry;obtain⟨its,r1,p1,_⟩:=I.tuple ha;obtain⟨ra,r2,p2,_⟩:=I.tuple hb;refine HT.Od p1 p2 (fun z=>hx (r1.C2.mp z)) (fun z=>⟨.ref a,H,I,rfl,q1 (r2.C2.mp z)⟩) (fun z=> ?_) (by rw[←r1.length,←r2.length];exact hz);refine⟨.ref s.heap.objs.size,_,I.laid (t' :=s.toks) (o:= .tup (xs++ys)) (fun b ob q=>a8 _ q) (aG _) ?_,rfl,q2 (fun w=>z (r2.C2.mpr w)) _ (I.bE.fresh (aG _))⟩;exact⟨by rw[ba];exact hz,_,r1.append r2,IsTup.new _ _⟩
end
noncomputable def Wf(n:Nat)(i:Int):Option Nat:=if 0≤i then(if i<n then some i.toNat else none) else if -(n:Int)≤i then some (i+n).toNat else none
noncomputable def TQ{α:Type}(xs:List α)(i:Int):Option α:=(Wf xs.length i).bind fun j=>xs[j]?
theorem HG{n:Nat}{i:Int}{j:Nat}(h:Wf n i=some j):seqIndex? i n=some j∧j<n∧ -(n:Int)≤i∧i<n:=by
 unfold Wf at h;by_cases h0:0≤i
 ·rw[aA h0] at h;by_cases h1:i<n
  ·rw[aA h1] at h;have e:i.toNat=j:=di h;exact⟨by rw[seqIndex_of h0 h1,e],by omega,by omega,h1⟩
  ·rw[ay h1] at h;cases h
 ·rw[ay h0] at h;by_cases h1: -(n:Int)≤i
  ·rw[aA h1] at h;have e:(i+n).toNat=j:=di h;exact⟨by rw[seqIndex_neg (by omega) h1,e],by omega,h1,by omega⟩
  ·rw[ay h1] at h;cases h
theorem DJ{α:Type}{xs:List α}{i:Int}{v:α}(h:TQ xs i=some v):∃j,seqIndex? i xs.length=some j∧xs[j]? =some v∧j<xs.length∧ -(xs.length:Int)≤i∧i<xs.length:=by
 unfold TQ at h
 cases e:Wf xs.length i with
 |none=>rw[e] at h;cases h
 |some j=>
  rw[e] at h;obtain⟨h1,h2,h3,h4⟩:=HG e;exact⟨j,h1,h,h2,h3,h4⟩
theorem bU{α:Type}{xs:List α}{j:Nat}{v:α}(h:xs[j]? =some v):TQ xs (j:Int)=some v:=by
 have hj:j<xs.length:=(dq.mp h).1
 have e:Wf xs.length (j:Int)=some j:=by
  unfold Wf;rw[aA (by omega),aA (by omega)];simp
 unfold TQ;rw[e];exact h
noncomputable def HM(b:Expr):Prop:=∀o i,subscripted b false o i=operate [o,i] (getItem o i)
noncomputable def VH(X:Cx)(r:R2):Prop:=
 ∀(value slice:Expr) (pins:aJ) (s:Shared) (σ:St) (H:Hp) (x y:V) (v u:Value) (Q:VK),Inv X pins σ H s→RelV x v→RelV y u→r x y H Q→
  subscripted slice false v u=operate [v,u] (getItem v u)→wpAny (model X.prog X.w) X.A (subscriptTail value slice v u) (EP X pins σ Q) X.xe s
noncomputable def MtR(X:Cx)(id:String)(r:V→ak→Hp→VK→Prop):Prop:=
 ∀(pins:aJ) (s:Shared) (σ:St) (H:Hp) (x:V) (xs:ak) (v:Value) (us:aD) (Q:VK),Inv X pins σ H s→RelV x v→Vals xs us→r x xs H Q→
  wpAny (model X.prog X.w) X.A (call (.builtin id) (v::us)) (EP X pins σ Q) X.xe s
section
variable{X:Cx}{a b:Expr}{ta tb:TE}{pos:Pos}
theorem aau{r:R2}(hr:VH X r)(ha:PE X a ta)(hb:PE X b tb)(hs:HM b):PE X (.Subscript a b pos) (Pm r ta tb):=by
 intro pins s σ H Q I h;exact Subscript_ (U1 ha hb I h fun v u s2 x y H2 I2 rx ry q=>hr a b pins s2 σ H2 x y v u Q I2 rx ry q (hs _ _))
noncomputable def VJ(K:Frag):R2:=fun x y H Q=>∃p xs i v,x= .ref p∧y= .int i∧bF K H p xs∧TQ xs i=some v∧Q v H
noncomputable def ZL(K:Frag):R2:=fun x y H Q=>∃p xs i v,x= .ref p∧y= .int i∧bc K H p xs∧TQ xs i=some v∧Q v H
noncomputable def Yo:R2:=fun x y H Q=>∃z i c,x= .str z∧y= .int i∧z.length≤sizeLine∧TQ z.cps.toList i=some c∧Q (.str ⟨#[c]⟩) H
theorem a7:VH X (VJ X.K):=by
 intro value slice pins s σ H x y v u Q I rx ry h hs;obtain⟨p,xs,i,z,rfl,rfl,hq,he,q⟩:=h;cases rx;obtain⟨t,rfl⟩:=ry;obtain⟨its,r,pl,hz⟩:=I.list hq;obtain⟨j,h1,h2,h3,h4,h5⟩:=DJ he;obtain⟨w,ew,Mv⟩:=r.get h2;have hl:=r.length;have hn:=sM;have fin:EP X pins σ Q w s:=⟨z,H,I,Mv,q⟩;by_cases h0:0≤i
 ·have hj:i.toNat=j:=by
   rw[seqIndex_of h0 h5] at h1;exact di h1
  exact item_listR pl.isList h0 (by omega) (by rw[hj];simpa using ew) fin hs
 ·have hj:(i+(its.toArray.size:Int)).toNat=j:=by
   rw[seqIndex_neg (by omega) h4] at h1;rw[bh,←hl];exact di h1
  exact subscriptTail_builtinR (x:=w) pl.isList.typeIs slot_list_getitem.lookup
   (wpAny_getItem_list_neg (Q:=fun r s' =>r=w∧EP X pins σ Q r s') pl.isList (by omega) (by rw[bh]<;>omega) (by omega) (by rw[hj];simpa using ew) ⟨rfl,fin⟩) hs
theorem aX:VH X (ZL X.K):=by
 intro value slice pins s σ H x y v u Q I rx ry h hs;obtain⟨p,xs,i,z,rfl,rfl,hq,he,q⟩:=h;cases rx;obtain⟨t,rfl⟩:=ry;obtain⟨its,r,pl,hz⟩:=I.tuple hq;obtain⟨j,h1,h2,h3,h4,h5⟩:=DJ he;obtain⟨w,ew,Mv⟩:=r.get h2;have hl:=r.length;have hn:=sM;have fin:EP X pins σ Q w s:=⟨z,H,I,Mv,q⟩
 exact subscriptTail_builtinR (x:=w) pl.typeIs slot_tuple_getitem.lookup
  (getItem_tuple (j:=j) (Q:=fun r s' =>r=w∧EP X pins σ Q r s') pl (by omega) (by omega) (by rw[bh,←hl];exact h1) (by simpa using ew) ⟨rfl,fin⟩) hs
theorem Gx:VH X Yo:=by
 intro value slice pins s σ H x y v u Q I rx ry h hs;obtain⟨z,i,c,rfl,rfl,hz,he,q⟩:=h;obtain⟨t,rfl⟩:=rx;obtain⟨t',rfl⟩:=ry;obtain⟨j,h1,h2,h3,h4,h5⟩:=DJ he;have hl:z.cps.toList.length=z.length:=by simp[Str.length]
 rw[hl] at h1 h4 h5;have hn:=sM
 exact tail_any (typeIs_str s z t) slot_str_getitem.lookup (getItem_str (c:=c) (by
  have e1:decide (i< -(2 ^ 63:Int))=false:=br (by omega);have e2:decide (i≥2 ^ 63)=false:=br (by omega);rw[e1,e2,Bool.or_false]) (by rw[h1];simpa using h2) ⟨.str ⟨#[c]⟩,H,I.tok _,⟨_,rfl⟩,q⟩) hs
theorem Gy(its:aD)(n j:Nat)(u:Value):Obj.mapSeq (·.setIfInBounds j u) {cls:= .type "list",data:= .seq its.toArray n}={cls:= .type "list",data:= .seq (its.set j u).toArray n}:=by
 simp[Obj.mapSeq]
theorem Inv.lst{pins:aJ}{σ:St}{H:Hp}{s:Shared}{p:Addr}{xs:ak}(I:Inv X pins σ H s)(h:H p=some (.lst xs)):
 ∃(its:aD) (n:Nat),Vals xs its∧s.heap.get? p=some {cls:= .type "list",data:= .seq its.toArray n}∧xs.length≤sizeLine:=by
 obtain⟨z,its,n,r,e⟩:=I.bE p _ h;exact⟨its,n,r,e,z⟩
theorem Inv.UP{pins:aJ}{σ:St}{H:Hp}{s:Shared}{p:Addr}{xs ys:ak}{its its' :aD}{n n' :Nat}{f:Obj→Obj}(I:Inv X pins σ H s)(h:H p=some (.lst xs))
 (ho:s.heap.get? p=some {cls:= .type "list",data:= .seq its.toArray n}) (hf:f {cls:= .type "list",data:= .seq its.toArray n}={cls:= .type "list",data:= .seq its'.toArray n'}) (r:Vals ys its') (hz:ys.length≤sizeLine) (t:Nat):
 Inv X pins σ (upd H p (.lst ys)) {s with heap:=s.heap.update p f,toks:=t}:=by
 have e:(s.heap.update p f).get? p=some {cls:= .type "list",data:= .seq its'.toArray n'}:=by
  rw[jk f ho (by rw[hf]<;>rfl),hf]
 refine I.write (x:=p) (e:=p) (by rw[h];trivial) (.inl rfl) (fun b u hb q=>(fL _ _ (bK hb)).trans q) ⟨_,e⟩ ?_;exact⟨hz,its',n',r,e⟩
noncomputable def Z_:V→V→V→Hp→(Hp→Prop)→Prop:=fun o i v H Q=>∃p xs k j,o= .ref p∧i= .int k∧H p=some (.lst xs)∧Wf xs.length k=some j∧Q (upd H p (.lst (xs.set j v)))
theorem jae:YJ X Z_:=by
 intro pins s σ H o i v ov iv u Q I ro ri rv h;obtain⟨p,xs,k,j,rfl,rfl,hp,hj,q⟩:=h;cases ro;obtain⟨t,rfl⟩:=ri;obtain⟨its,n,r,ho,hz⟩:=I.lst hp;obtain⟨h1,h2,h3,h4⟩:=HG hj;have hl:=r.length;have hn:=sM
 have I' :Inv X pins σ (upd H p (.lst (xs.set j v))) {s with heap:=s.heap.update p (Obj.mapSeq (·.setIfInBounds j u))}:=
  I.UP hp ho (Gy its n j u) (r.set rv j) (by rw[Cz];exact hz) s.toks
 by_cases h0:0≤k
 ·have hk:k.toNat=j:=by
   rw[seqIndex_of h0 h4] at h1;exact di h1
  exact PySem.W.ki_setAt ho h0 (by omega) (by rw[bh,←hl];exact h4) (by rw[hk];exact⟨_,I',q⟩)
 ·have hk:(k+(its.toArray.size:Int)).toNat=j:=by
   rw[seqIndex_neg (by omega) h3] at h1;rw[bh,←hl];exact di h1
  exact PySem.W.ki_setBack ho (by omega) (by rw[bh,←hl];exact h3) (by omega) (by rw[hk];exact⟨_,I',q⟩)
noncomputable def ajA(K:Frag):V→Option Int→Option Int→Hp→VK→Prop:=fun x lo hi H Q=>∃a xs,x= .ref a∧bF K H a xs∧∀p,H p=none→Q (.ref p) (upd H p (.lst (bY xs lo hi)))
noncomputable def kX:V→Bool
 | .bx=>true
 | .bl _=>true
 | .int _=>true
 | .str _=>true
 |_=>false
noncomputable def Dg:V→V→Bool
 | .bx,.bx=>true
 | .bl a,.bl b=>a==b
 | .bl a,.int b=>(if a then 1 else 0)==b
 | .int a,.bl b=>a==(if b then 1 else 0)
 | .int a,.int b=>a==b
 | .str a,.str b=>a==b
 |_,_=>false
theorem NI{A:Around}{s:Shared}{y x:V}{u v:Value}(ry:RelV y u)(rx:RelV x v)(fy:kX y=true)(fx:kX x=true):SeqAt.EqAt A s u v (Dg y x):=by
 cases y with
 |bx=>
  cases ry
  cases x with
  |bx=>cases rx;exact SeqAt.EqAt.same _
  |bl b=>cases rx;exact SeqAt.EqAt.none_bool b
  |int b=>obtain⟨t,rfl⟩:=rx;exact SeqAt.EqAt.none_int b t
  |str b=>obtain⟨t,rfl⟩:=rx;exact SeqAt.EqAt.none_str b t
  |_=>exact absurd (show false=true from fx) cx
 |bl a=>
  cases ry
  cases x with
  |bx=>cases rx;exact SeqAt.EqAt.bool_none a
  |bl b=>cases rx;exact SeqAt.EqAt.bool_bool a b
  |int b=>obtain⟨t,rfl⟩:=rx;exact SeqAt.EqAt.bool_int a b t
  |str b=>obtain⟨t,rfl⟩:=rx;exact SeqAt.EqAt.bool_str a b t
  |_=>exact absurd (show false=true from fx) cx
 |int a=>
  obtain⟨t',rfl⟩:=ry
  cases x with
  |bx=>cases rx;exact SeqAt.EqAt.int_none a t'
  |bl b=>cases rx;exact SeqAt.EqAt.int_bool a t' b
  |int b=>obtain⟨t,rfl⟩:=rx;exact SeqAt.EqAt.int_int a t' b t
  |str b=>obtain⟨t,rfl⟩:=rx;exact SeqAt.EqAt.int_str a t' b t
  |_=>exact absurd (show false=true from fx) cx
 |str a=>
  obtain⟨t',rfl⟩:=ry
  cases x with
  |bx=>cases rx;exact SeqAt.EqAt.str_none a t'
  |bl b=>cases rx;exact SeqAt.EqAt.str_bool a t' b
  |int b=>obtain⟨t,rfl⟩:=rx;exact SeqAt.EqAt.str_int a t' b t
  |str b=>obtain⟨t,rfl⟩:=rx;exact SeqAt.EqAt.str_str a t' b t
  |_=>exact absurd (show false=true from fx) cx
 |_=>exact absurd (show false=true from fy) cx
noncomputable def F6(x:V)(u:Value):Bool:=match u with
 | .none=>Dg .bx x
 | .bool b=>Dg (.bl b) x
 | .int i _=>Dg (.int i) x
 | .str z _=>Dg (.str z) x
 |_=>false
theorem Lq{x y:V}{u:Value}(r:RelV y u)(f:kX y=true):F6 x u=Dg y x:=by
 cases y with
 |bx=>cases r;rfl
 |bl b=>cases r;rfl
 |int i=>obtain⟨t,rfl⟩:=r;rfl
 |str z=>obtain⟨t,rfl⟩:=r;rfl
 |_=>exact absurd (show false=true from f) cx
theorem vm{x:V}:∀{xs:ak} {us:aD},Vals xs us→xs.all kX=true→us.any (F6 x)=xs.any fun y=>Dg y x
 |_,_,.nil,_=>rfl
 |y::xs,u::us,.cons r t,f=>by
  rw[List.all_cons,gL] at f;rw[vk,vk,Lq r f.1,vm t f.2]
theorem qa{A:Around}{s:Shared}{x:V}{v:Value}(rx:RelV x v)(fx:kX x=true):∀{xs:ak} {us:aD},Vals xs us→xs.all kX=true→∀u∈us,SeqAt.EqAt A s u v (F6 x u)
 |_,_,.nil,_=>fun u hu=>by cases hu
 |y::xs,u::us,.cons r t,f=>fun u' hu=>by
  rw[List.all_cons,gL] at f;rcases aU.mp hu with rfl|hu
  ·rw[Lq r f.1];exact NI r rx f.1 fx
  ·exact qa rx fx t f.2 u' hu
noncomputable def wL(x:V)(xs:ak):Bool:=xs.any fun y=>Dg y x
noncomputable def rIn(K:Frag)(neg:Bool):R2:=fun x y H Q=>∃p xs,y= .ref p∧(bF K H p xs∨bc K H p xs)∧kX x=true∧xs.all kX=true∧Q (.bl (if neg then !wL x xs else wL x xs)) H
theorem mD:qp X (compareOp .In) (rIn X.K false):=by
 intro pins s σ H x y v u Q I rx ry h;obtain⟨p,xs,rfl,hq,fx,fs,q⟩:=h;cases ry;rcases hq with hq|hq
 ·obtain⟨its,r,pl,hz⟩:=I.list hq;refine SeqAt.in_listAt (F6 x) pl.isList (fun w hw=>qa rx fx r fs w (by simpa using hw)) ⟨.bl _,H,I,rfl,?_⟩;rw[show its.toArray.any (F6 x)=its.any (F6 x) by simp,vm r fs];exact q
 ·obtain⟨its,r,pl,hz⟩:=I.tuple hq;refine SeqAt.in_tupleAt (F6 x) pl (fun w hw=>qa rx fx r fs w (by simpa using hw)) ⟨.bl _,H,I,rfl,?_⟩;rw[show its.toArray.any (F6 x)=its.any (F6 x) by simp,vm r fs];exact q
theorem fZ:qp X (compareOp .NotIn) (rIn X.K true):=by
 intro pins s σ H x y v u Q I rx ry h;obtain⟨p,xs,rfl,hq,fx,fs,q⟩:=h;cases ry;rcases hq with hq|hq
 ·obtain⟨its,r,pl,hz⟩:=I.list hq;refine SeqAt.notIn_listAt (F6 x) pl.isList (fun w hw=>qa rx fx r fs w (by simpa using hw)) ⟨.bl _,H,I,rfl,?_⟩;rw[show its.toArray.any (F6 x)=its.any (F6 x) by simp,vm r fs];exact q
 ·obtain⟨its,r,pl,hz⟩:=I.tuple hq;refine SeqAt.notIn_tupleAt (F6 x) pl (fun w hw=>qa rx fx r fs w (by simpa using hw)) ⟨.bl _,H,I,rfl,?_⟩;rw[show its.toArray.any (F6 x)=its.any (F6 x) by simp,vm r fs];exact q
theorem aZ:iq X (.builtin "len") (fun xs H Q=>∃p ys,xs=[.ref p]∧(bF X.K H p ys∨bc X.K H p ys)∧Q (.int ys.length) H):=by
 intro pins s σ H xs us Q I r h;obtain⟨p,ys,rfl,hq,q⟩:=h;obtain⟨u,rfl,rx⟩:=xz r;cases rx;have hn:=sM;rcases hq with hq|hq
 ·obtain⟨its,r',pl,hz⟩:=I.list hq;have hlen:=r'.length;exact Calls.call_len_list pl.isList (by simp only[bh]<;>omega) ⟨.int ys.length,H,I.tok _,⟨s.toks+1,by rw[bh,hlen]⟩,q⟩
 ·obtain⟨its,r',pl,hz⟩:=I.tuple hq;have hlen:=r'.length;exact len_tuple pl (by simp only[bh]<;>omega) ⟨.int ys.length,H,I.tok _,⟨s.toks+1,by rw[bh,hlen]⟩,q⟩
theorem uo:iq X (.builtin "len") (fun xs H Q=>∃z,xs=[.str z]∧z.length≤sizeLine∧Q (.int z.length) H):=by
 intro pins s σ H xs us Q I r h;obtain⟨z,rfl,hz,q⟩:=h;obtain⟨u,rfl,t,rfl⟩:=xz r;have hn:=sM;exact len_str (by omega) ⟨.int z.length,H,I.tok _,⟨_,rfl⟩,q⟩
theorem Dp:iq X (.type "list") (fun xs H Q=>∃p ys,xs=[.ref p]∧(bF X.K H p ys∨bc X.K H p ys)∧∀l,H l=none→Q (.ref l) (upd H l (.lst ys))):=by
 intro pins s σ H xs us Q I r h;obtain⟨p,ys,rfl,hq,q⟩:=h;obtain⟨u,rfl,rx⟩:=xz r;cases rx
 have fin:∀(its:aD),Vals ys its→ys.length≤sizeLine→∀(h' :Heap) (c' :Nat),(∀b o',s.heap.get? b=some o'→h'.get? b=some o')→
  h'.get? s.heap.objs.size=some {cls:= .type "list",dict:=none,data:= .seq its.toArray c',slots:= #[]}→EP X pins σ Q (.ref s.heap.objs.size) {s with heap:=h'}:=fun its r' hz h' c' kp e=>
  ⟨.ref s.heap.objs.size,_,I.laid (t' :=s.toks) kp (aG _) (show bI X.prog X.w _ h' _ (.lst ys) from⟨hz,its,c',r',e⟩),rfl,q _ (I.bE.fresh (aG _))⟩
 rcases hq with hq|hq
 ·obtain⟨its,r',pl,hz⟩:=I.list hq;have hlen:=r'.length;obtain⟨o,ho,hc,n,hd⟩:=pl.isList;exact call_list_seq p (.inl rfl) ho hc hd (fun h' c' kp e=>fin its r' hz h' c' kp e) (by simp only[bh]<;>omega)
 ·obtain⟨its,r',pl,hz⟩:=I.tuple hq;have hlen:=r'.length;obtain⟨o,ho,hc,n,hd⟩:=pl;exact call_list_seq p (.inr rfl) ho hc hd (fun h' c' kp e=>fin its r' hz h' c' kp e) (by simp only[bh]<;>omega)
theorem dQ:iq X (.type "tuple") (fun xs H Q=>∃p ys,xs=[.ref p]∧((bF X.K H p ys∧∀l,H l=none→Q (.ref l) (upd H l (.tup ys)))∨(bc X.K H p ys∧Q (.ref p) H))):=by
 intro pins s σ H xs us Q I r h;obtain⟨p,ys,rfl,h⟩:=h;obtain⟨u,rfl,rx⟩:=xz r;cases rx;rcases h with⟨hq,q⟩|⟨hq,q⟩
 ·obtain⟨its,r',pl,hz⟩:=I.list hq;have hlen:=r'.length;refine call_tuple_list pl.isList (fun h' kp=> ?_) (by simp only[bh]<;>omega);have I1:Inv X pins σ H {s with heap:=h'}:=I.kept (t' :=s.toks) kp
  have I2:Inv X pins σ (upd H h'.objs.size (.tup ys)) {s with heap:=h'.push {cls:= .type "tuple",data:= .seq its.toArray}}:=
   I1.laid (t' :=s.toks) (fun b o e=>a8 _ e) (aG _) (show bI X.prog X.w _ _ _ (.tup ys) from⟨hz,its,r',IsTup.new _ _⟩)
  exact⟨.ref h'.objs.size,_,I2,rfl,q _ (I1.bE.fresh (aG _))⟩
 ·obtain⟨its,r',pl,hz⟩:=I.tuple hq;exact call_tuple_same pl ⟨.ref p,H,I,rfl,q⟩
noncomputable def tyV(K:Frag)(T:String)(x:V)(H:Hp):Prop:=match x with
 | .str _=>T="str"
 | .int _=>T="int"
 | .ref p=>(T="list" ∧∃xs,bF K H p xs)∨(T="tuple" ∧∃o,K.lookup p=some o∧o.cls= .type "tuple" ∧o.dict=none)∨
  (T="dict" ∧((∃a6,H p=some (.dK a6))∨∃a6,H p=some (.dT a6)))∨(T="set" ∧∃S n,H p=some (.set S n))
 |_=>False
theorem MH{pins:aJ}{σ:St}{H:Hp}{s:Shared}{T:String}{x:V}{v:Value}(I:Inv X pins σ H s)(r:RelV x v)(ty:tyV X.K T x H):
 s.TypeIs v T∧∀a,v= .ref a→∃ob,s.heap.get? a=some ob∧ob.dict=none:=by
 cases x with
 |str z=>
  obtain⟨t,rfl⟩:=r;cases(show T="str" from ty);exact⟨typeIs_str s z t,fun _ e=>nomatch e⟩
 |int i=>
  obtain⟨t,rfl⟩:=r;cases(show T="int" from ty);exact⟨typeIs_int s i t,fun _ e=>nomatch e⟩
 |ref p=>
  cases r;rcases ty with⟨rfl,xs,hq⟩|⟨rfl,o,hk,hc,hd⟩|⟨rfl,hk⟩|⟨rfl,S,n,hk⟩
  ·obtain⟨its,_,pl,_⟩:=I.list hq;refine⟨pl.isList.typeIs,fun a e=> ?_⟩;cases e;obtain⟨o,n,e,c,hd,_⟩:=pl;exact⟨o,e,hd⟩
  ·refine⟨⟨o,I.je p o hk,hc⟩,fun a e=> ?_⟩;cases e;exact⟨o,I.je _ o hk,hd⟩
  ·have z:∃o,s.heap.get? p=some o∧o.ExactDict:=by
    rcases hk with⟨a6,hk⟩|⟨a6,hk⟩
    ·obtain⟨_,_,_,_,o,_,_,e,ex,_⟩:=I.bE p _ hk;exact⟨o,e,ex⟩
    ·obtain⟨_,_,_,_,o,_,_,e,ex,_⟩:=I.bE p _ hk;exact⟨o,e,ex⟩
   obtain⟨o,e,ex⟩:=z;refine⟨⟨o,e,ex.1⟩,fun a e2=> ?_⟩;cases e2;exact⟨o,e,ex.2.1⟩
  ·obtain⟨o,_,_,_,e,ex,_⟩:=I.bE p _ hk;refine⟨⟨o,e,ex.1⟩,fun a e2=> ?_⟩;cases e2;exact⟨o,e,ex.2.1⟩
 |_=>exact False.elim ty
noncomputable def ac4(K:Frag)(T:String)(r:V→ak→Hp→VK→Prop)(to:TE):TE:=fun σ H Q=>to σ H fun x H1=>tyV K T x H1∧r x [] H1 Q
noncomputable def tBM(K:Frag)(T:String)(r:V→ak→Hp→VK→Prop)(to:TE)(t:TA):TE:=fun σ H Q=>to σ H fun x H1=>tyV K T x H1∧t σ H1 fun xs H2=>r x xs H2 Q
variable{o e:Expr}{es:cu}{to:TE}{t:TA}{name:Str}{apos gx:Pos}{T id:String}{r:V→ak→Hp→VK→Prop}
theorem GL(pa:PlainAttrs T)(slot:Slot T name id)(hty:typeOf (.builtin id)=pure (.type "method_descriptor"))(hm:MtR X id r)(ho:PE X o to)
 (uU:attributeBase o name X.env (eval o X.env)=eval o X.env:=by rfl) (M5:(apos.endLine==gx.line)=true:=by rfl):PE X (.Call (.Attribute o name apos) [] [] gx) (ac4 X.K T r to):=by
 intro pins s σ H Q I h;refine wpAny_Call_method0_late uU M5 (ck (ho pins s σ H _ I h) fun v s1 ⟨x,H1,I1,r1,ty,q1⟩=> ?_);obtain⟨h1,h2⟩:=MH I1 r1 ty;exact⟨T,id,pa,slot,hty,h1,h2,Dv rfl (PySem.evalArgs_none (hm pins s1 σ H1 x [] v [] Q I1 r1 .nil q1))⟩
theorem jg(pa:PlainAttrs T)(slot:Slot T name id)(hty:typeOf (.builtin id)=pure (.type "method_descriptor"))(hm:MtR X id r)(ho:PE X o to)(ha:PA X (e::es) t)
 (uU:attributeBase o name X.env (eval o X.env)=eval o X.env:=by rfl)
 (aeZ:((backTo gx (starEach (e::es) X.env)).all (fun x=> !x.1)&&(backToKw gx (keywordEach [] X.env)).all (fun x=>x.1.isSome)
  &&decide ((e::es).length+([]:List Keyword).length+(if([]:List Keyword).isEmpty then 0 else 1)<30))=true:=by rfl)
 (M5:(apos.endLine==gx.line)=true:=by rfl) (hs:starEach (e::es) X.env=(false,eval e X.env)::starEach es X.env:=by rfl) (VM:(backTo gx (starEach es X.env)).any (·.1)=false:=by rfl):
 PE X (.Call (.Attribute o name apos) (e::es) [] gx) (tBM X.K T r to t):=by
 intro pins s σ H Q I h;refine wpAny_Call_method_late uU aeZ M5 rfl (ck (ho pins s σ H _ I h) fun v s1 ⟨x,H1,I1,r1,ty,q1⟩=> ?_);obtain⟨h1,h2⟩:=MH I1 r1 ty;refine⟨T,id,pa,slot,hty,h1,h2,?_⟩;have hA:=ha gx pins s1 σ H1 _ I1 q1;rw[hs] at hA ⊢;refine Dv (by show(false||(backTo gx (starEach es X.env)).any (·.1))=false;rw[VM]<;>rfl) (Calls.evalArgs_plain ?_);exact ck hA fun us s2 ⟨vs,H2,I2,r2,q2⟩=>hm pins s2 σ H2 x vs v us Q I2 r1 r2 q2
end
noncomputable def MtM(X:Cx)(id:String)(r:V→ak→Hp→VK→Prop):Prop:=
 ∀(pins:aJ) (s:Shared) (σ:St) (H:Hp) (x:V) (xs:ak) (v:Value) (us:aD) (Q:VK),Inv X pins σ H s→RelV x v→Vals xs us→r x xs H Q→
  wpAny (model X.prog X.w) X.A (call (.builtin id) (v::us)) (EP X pins σ Q) X.xe s
theorem Vals.one:∀{x:V} {us:aD},Vals [x] us→∃u,us=[u]∧RelV x u
 |_,_,.cons r .nil=>⟨_,rfl,r⟩
theorem Vals.zero:∀{us:aD},Vals [] us→us=[]
 |_,.nil=>rfl
theorem Vals.reverse{xs:ak}{us:aD}(h:Vals xs us):Vals xs.reverse us.reverse:=by
 induction h with
 |nil=>exact .nil
 |cons r t ih=>rw[List.reverse_cons,List.reverse_cons];exact Vals.append ih (.cons r .nil)
section
variable{X:Cx}{pins:aJ}{σ:St}{H:Hp}{s:Shared}{l b:Addr}{xs ys zs:ak}
theorem Inv.PR{its its' :aD}{n:Nat}{f:Array Value→Array Value}{t' :Nat}(I:Inv X pins σ H s)(hH:H l=some (.lst xs))
 (e:s.heap.get? l=some {cls:= .type "list",data:= .seq its.toArray n}) (hf:f its.toArray=its'.toArray) (hv:Vals ys its') (hz:ys.length≤sizeLine):
 Inv X pins σ (upd H l (.lst ys)) {s with heap:=s.heap.update l (Obj.mapSeq f),toks:=t'}:=by
 have q:=PySem.IsL.update e f;rw[hf] at q;refine I.write (x:=l) (e:=l) (by rw[hH];exact trivial) (.inl rfl) (fun b' u hb hu=>(fL s.heap (Obj.mapSeq f) (bK hb)).trans hu) ⟨_,q⟩ ?_;exact⟨hz,its',_,hv,q⟩
theorem Inv.YH{its:aD}{t' :Nat}(I:Inv X pins σ H s)(hv:Vals ys its)(hz:ys.length≤sizeLine):
 Inv X pins σ (upd H s.heap.objs.size (.lst ys)) {s with heap:=s.heap.push {cls:= .type "list",data:= .seq its.toArray},toks:=t'}:=
 I.laid (fun _ _ q=>a8 _ q) (aG _) ⟨hz,its,0,hv,cg _ rfl⟩
theorem Inv.fresh(I:Inv X pins σ H s):H s.heap.objs.size=none:=I.bE.fresh (aG _)
theorem Inv.Ff(I:Inv X pins σ H s)(hH:H l=some (.lst xs)):xs.length≤sizeLine∧∃(its:aD) (n:Nat),Vals xs its∧xs.length=its.length∧s.heap.get? l=some {cls:= .type "list",data:= .seq its.toArray n}:=by
 obtain⟨z,its,n,r,e⟩:=I.bE l _ hH;exact⟨z,its,n,r,r.length,e⟩
theorem LN{n:Nat}(h:n≤sizeLine):Builtin.List.listTooLong n=false:=by
 unfold Builtin.List.listTooLong;exact br (by omega)
end
section
variable{X:Cx}
noncomputable def Oz:V→ak→Hp→VK→Prop:=fun x vs H Q=>∃l xs y,x= .ref l∧vs=[y]∧H l=some (.lst xs)∧xs.length<sizeLine∧Q .bx (upd H l (.lst (xs++[y])))
theorem cI:MtM X "list.append" Oz:=by
 intro pins s σ H x vs v us Q I rx rv h;obtain⟨l,xs,y,rfl,rfl,hH,hz,q⟩:=h;cases rx;obtain⟨u,rfl,ru⟩:=rv.one;obtain⟨z,its,n,r,hl,e⟩:=I.Ff hH;refine call_meets F.slot_list_append ⟨_,e,rfl⟩ F.entry_list_append (F.args_list_append_2 _ _) (PySem.list_append l its.toArray n u (by rw[bh];omega)) ⟨e,?_⟩;refine⟨.bx,_,I.PR (its' :=its++[u]) hH e (by simp) (r.append (.cons ru .nil)) ?_,rfl,q⟩;rw[ba,DM];omega
noncomputable def OI:V→ak→Hp→VK→Prop:=fun x vs H Q=>∃l b xs zs,x= .ref l∧vs=[.ref b]∧H l=some (.lst xs)∧H b=some (.lst zs)∧xs.length+zs.length≤sizeLine∧Q .bx (upd H l (.lst (xs++zs)))
theorem vV:MtM X "list.extend" OI:=by
 intro pins s σ H x vs v us Q I rx rv h;obtain⟨l,b,xs,zs,rfl,rfl,hH,hB,hz,q⟩:=h;cases rx;obtain⟨u,rfl,ru⟩:=rv.one;cases ru;obtain⟨z,its,n,r,hl,e⟩:=I.Ff hH;obtain⟨z2,ra,n2,r2,kU,e2⟩:=I.Ff hB;have hsz:its.toArray.size+ra.toArray.size≤sizeLine:=by rw[bh,bh];omega
 have XH:¬(!its.toArray.isEmpty&&Builtin.List.listTooLong (its.toArray.size+ra.toArray.size))=true:=by
  rw[LN hsz,Bool.and_false];exact cx
 refine call_meets yB ⟨_,e,rfl⟩ F.entry_list_extend (F.args_list_extend_2 _ _)
  (AutoSeq1.list_extend_list_list_0 l its.toArray n b ra.toArray n2 XH (by rw[bh];omega) (by omega)) ⟨e,e2,?_⟩
 refine⟨.bx,_,I.PR (its' :=its++ra) hH e (by simp) (r.append r2) ?_,rfl,q⟩;rw[ba];omega
noncomputable def aj6:V→ak→Hp→VK→Prop:=fun x vs H Q=>∃l xs y,x= .ref l∧vs=[]∧H l=some (.lst xs)∧xs[xs.length - 1]? =some y∧Q y (upd H l (.lst xs.dropLast))
noncomputable def M8:V→ak→Hp→VK→Prop:=fun x vs H Q=>∃l xs,x= .ref l∧vs=[]∧H l=some (.lst xs)∧Q .bx (upd H l (.lst xs.reverse))
theorem Gn:MtM X "list.reverse" M8:=by
 intro pins s σ H x vs v us Q I rx rv h;obtain⟨l,xs,rfl,rfl,hH,q⟩:=h;cases rx;have XO:=rv.zero;subst XO;obtain⟨z,its,n,r,hl,e⟩:=I.Ff hH;refine call_meets F.slot_list_reverse ⟨_,e,rfl⟩ F.entry_list_reverse (F.args_list_reverse_1 _) (AutoSeq1.list_reverse_list_0 l its.toArray n (by rw[bh];omega)) ⟨e,?_⟩;refine⟨.bx,_,I.PR (its' :=its.reverse) hH e (by simp) r.reverse ?_,rfl,q⟩;rw[List.length_reverse];omega
noncomputable def UJ:V→ak→Hp→VK→Prop:=fun x vs H Q=>∃l xs,x= .ref l∧vs=[]∧H l=some (.lst xs)∧Q .bx (upd H l (.lst []))
theorem Eb:MtM X "list.clear" UJ:=by
 intro pins s σ H x vs v us Q I rx rv h;obtain⟨l,xs,rfl,rfl,hH,q⟩:=h;cases rx;have XO:=rv.zero;subst XO;obtain⟨z,its,n,r,hl,e⟩:=I.Ff hH;refine call_meets F.slot_list_clear ⟨_,e,rfl⟩ F.entry_list_clear (F.args_list_clear_1 _) (AutoSeq1.list_clear_list_0 l its.toArray n (by rw[bh];omega)) ⟨e,?_⟩;exact⟨.bx,_,I.PR (its' :=[]) (ys:=[]) hH e rfl .nil (cN _),rfl,q⟩
noncomputable def Zr:R2:=fun x y H Q=>∃l b xs zs,x= .ref l∧y= .ref b∧H l=some (.lst xs)∧H b=some (.lst zs)∧xs.length+zs.length≤sizeLine∧∀p,H p=none→Q (.ref p) (upd H p (.lst (xs++zs)))
theorem oR:qp X (binaryOp .Add) Zr:=by
 intro pins s σ H x y v u Q I rx ry h;obtain⟨l,b,xs,zs,rfl,rfl,hH,hB,hz,q⟩:=h;cases rx;cases ry;obtain⟨z,its,n,r,hl,e⟩:=I.Ff hH;obtain⟨z2,ra,n2,r2,kU,e2⟩:=I.Ff hB;refine PySem.P.add_list e e2 ?_ (by rw[bh,bh];omega);have ea:its.toArray++ra.toArray=(its++ra).toArray:=by simp
 rw[ea];exact⟨.ref _,_,I.YH (t' :=s.toks) (r.append r2) (by rw[ba];omega),rfl,q _ I.fresh⟩
end
section
variable{prog:Program}{w:World}{A:Around}{E:Value→Shared→Prop}{s:Shared}
set_option maxRecDepth 100000 in
end
section
variable{X:Cx}
end
section
variable{κ:Type}[DecidableEq κ]
noncomputable def jo(a6:List (κ×V))(k:κ):Option V:=(a6.find? fun kv=>decide (kv.1=k)).map (·.2)
noncomputable def zn(a6:List (κ×V))(k:κ)(v:V):List (κ×V):=
 if(a6.any fun kv=>decide (kv.1=k))=true then a6.map (fun kv=>if kv.1=k then(kv.1,v) else kv) else a6++[(k,v)]
noncomputable def ah1(a6:List (κ×V))(k:κ):List (κ×V):=a6.filter fun kv=>decide (kv.1≠k)
theorem zP{p:κ×V}{r:List (κ×V)}{k:κ}(e:p.1=k):jo (p::r) k=some p.2:=by simp[jo,qy,e]
theorem zN{p:κ×V}{r:List (κ×V)}{k:κ}(e:¬p.1=k):jo (p::r) k=jo r k:=by simp[jo,qy,e]
theorem EU(k:κ):∀a6:List (κ×V),(a6.any fun kv=>decide (kv.1=k))=(jo a6 k).isSome
 |[]=>rfl
 |p::r=>by
  rw[vk];by_cases e:p.1=k
  ·simp only[zP e,aS e,Bool.true_or,Option.isSome_some]
  ·rw[zN e,br e,Bool.false_or];exact EU k r
theorem pA(a6:List (κ×V))(k:κ)(v:V):(zn a6 k v).length≤a6.length+1:=by
 unfold zn
 split
 ·rw[aK];omega
 ·rw[ba,aW,jh];omega
theorem l4.BR{o:Option V}{u:aI}(r:l4 o u):o.isSome=u.isSome:=by
 cases o with
 |none=>cases u with
  |none=>rfl
  |some _=>exact(show False from r).elim
 |some _=>cases u with
  |none=>exact(show False from r).elim
  |some _=>rfl
theorem l4.getD{o:Option V}{u:aI}{d:V}{d' :Value}(r:l4 o u)(rd:RelV d d'):RelV (o.getD d) (u.getD d'):=by
 cases o with
 |none=>cases u with
  |none=>exact rd
  |some _=>exact(show False from r).elim
 |some _=>cases u with
  |none=>exact(show False from r).elim
  |some _=>exact r
theorem KV.val{a6:List (κ×V)}{vs:List (κ×Value)}(r:KV a6 vs)(k:κ):l4 (jo a6 k) (valueAt vs k):=by
 unfold KV at r
 induction r with
 |nil=>exact True.intro
 | @cons p q ps qs h t ih=>
  obtain⟨h1,h2⟩:=h;by_cases e:p.1=k
  ·have e' :q.1=k:=h1.symm.trans e;have b:valueAt (q::qs) k=some q.2:=by simp[valueAt,qy,e']
   rw[zP e,b];exact h2
  ·have e' :¬q.1=k:=fun z=>e (h1.trans z);have b:valueAt (q::qs) k=valueAt qs k:=by simp[valueAt,qy,e']
   rw[zN e,b];exact ih
theorem KV.any{a6:List (κ×V)}{vs:List (κ×Value)}(r:KV a6 vs)(k:κ):(a6.any fun kv=>decide (kv.1=k))=vs.any fun kv=>decide (kv.1=k):=by
 unfold KV at r
 induction r with
 |nil=>rfl
 |cons h t ih=>rw[vk,vk,ih,h.1]
theorem KV.Us{a6:List (κ×V)}{vs:List (κ×Value)}(r:KV a6 vs)(k:κ){y:V}{u:Value}(ry:RelV y u):
 KV (a6.map fun kv=>if kv.1=k then(kv.1,y) else kv) (vs.map fun kv=>if kv.1=k then(kv.1,u) else kv):=by
 unfold KV at r ⊢
 induction r with
 |nil=>exact .nil
 | @cons p q ps qs h t ih=>
  rw[dw,dw];refine .cons ?_ ih;obtain⟨h1,h2⟩:=h;by_cases e:p.1=k
  ·rw[aA e,aA (h1.symm.trans e)];exact⟨h1,ry⟩
  ·rw[ay e,ay (fun z=>e (h1.trans z))];exact⟨h1,h2⟩
theorem KV.put{a6:List (κ×V)}{vs:List (κ×Value)}(r:KV a6 vs)(k:κ){y:V}{u:Value}(ry:RelV y u):KV (zn a6 k y) (stored vs k u):=by
 unfold zn stored;rw[r.any k];by_cases e:(vs.any fun kv=>decide (kv.1=k))=true
 ·rw[aA e,aA e];exact r.Us k ry
 ·rw[ay e,ay e];exact Paired.snoc r ⟨rfl,ry⟩
theorem KV.length{a6:List (κ×V)}{vs:List (κ×Value)}(r:KV a6 vs):a6.length=vs.length:=Paired.length r
end
theorem Bm{P:Program}{w:World}{k:ww}{u:Value}(r:RelV (kV k) u):(cb P w).is k u=true:=by
 cases k with
 |inl i=>obtain⟨t,e⟩:=(show ∃t,u=Value.int i t from r);subst e;exact E9 P w i t
 |inr x=>obtain⟨t,e⟩:=(show ∃t,u=Value.str x t from r);subst e;exact EW P w x t
theorem BK{P:Program}{w:World}:∀{ks:List ww} {us:aD},Vals (ks.map kV) us→ItemsAre (cb P w) ks us
 |[],_,r=>by rw[nV] at r;cases r;exact .nil
 |k::ks,_,r=>by
  rw[dw] at r
  cases r with
  |cons h t=>exact .cons (Bm h) (BK t)
noncomputable abbrev KT(H:Hp):mJ→List (List ww×Addr×Value)→Prop:=Paired fun p q=>p.1=q.1∧H q.2.1=some (.tup (p.1.map kV))∧RelV p.2 q.2.2
theorem KT.val{H:Hp}{a6:mJ}{xs:List (List ww×Addr×Value)}(r:KT H a6 xs)(k:List ww):l4 (jo a6 k) ((atKey xs k).map (·.2)):=by
 induction r with
 |nil=>exact True.intro
 | @cons p q ps qs h t ih=>
  obtain⟨h1,_,h2⟩:=h;by_cases e:p.1=k
  ·have e' :q.1=k:=h1.symm.trans e;have b:atKey (q::qs) k=some q.2:=by simp[atKey,qy,e']
   rw[zP e,b];exact h2
  ·have e' :¬q.1=k:=fun z=>e (h1.trans z);have b:atKey (q::qs) k=atKey qs k:=by simp[atKey,qy,e']
   rw[zN e,b];exact ih
theorem KT.Us{H:Hp}{a6:mJ}{xs:List (List ww×Addr×Value)}(r:KT H a6 xs)(k:List ww){y:V}{u:Value}(ry:RelV y u):
 KT H (a6.map fun kv=>if kv.1=k then(kv.1,y) else kv) (xs.map (putAt k u)):=by
 induction r with
 |nil=>exact .nil
 | @cons p q ps qs h t ih=>
  rw[dw,dw];refine .cons ?_ ih;obtain⟨h1,h2,h3⟩:=h;unfold putAt;by_cases e:p.1=k
  ·rw[aA e,aA (h1.symm.trans e)];exact⟨h1,h2,ry⟩
  ·rw[ay e,ay (fun z=>e (h1.trans z))];exact⟨h1,h2,h3⟩
theorem KT.put{H:Hp}{a6:mJ}{xs:List (List ww×Addr×Value)}(r:KT H a6 xs)(k:List ww){b:Addr}{y:V}{u:Value}(hb:H b=some (.tup (k.map kV)))(ry:RelV y u):
 KT H (zn a6 k y) (storedH xs k b u):=by
 have e:(a6.any fun kv=>decide (kv.1=k))=(atKey xs k).isSome:=by
  rw[EU,(r.val k).BR,Option.isSome_map]
 unfold zn storedH;rw[e];by_cases q:(atKey xs k).isSome=true
 ·rw[aA q,aA q];exact r.Us k ry
 ·rw[ay q,ay q];exact Paired.snoc r ⟨rfl,hb,ry⟩
theorem KT.keeps{H H' :Hp}{a6:mJ}{xs:List (List ww×Addr×Value)}(r:KT H a6 xs)(ht:∀b ys,H b=some (.tup ys)→H' b=some (.tup ys)):KT H' a6 xs:=
 Paired.WE r fun _ _ z=>⟨z.1,ht _ _ z.2.1,z.2.2⟩
section
variable{P:Program}{w:World}{H:Hp}{h:Heap}{a:Addr}
theorem QZ{u:HO}(ok:m8 P w H h)(e:Rd H a u):bI P w H h a u:=e.ok ok
theorem Ms{a6:dE}(ok:m8 P w H h)(e:Rd H a (.dK a6)):a6.length≤sizeLine∧(a==sysModules)=false∧∃vs,KV a6 vs∧h.DictOf (cb P w) a vs:=
 show bI P w H h a (.dK a6) from QZ ok e
theorem Hv{a6:dE}(ok:m8 P w H h)(e:H a=some (.dK a6)):a6.length≤sizeLine∧(a==sysModules)=false∧∃vs,KV a6 vs∧h.DictOf (cb P w) a vs:=Ms ok (.inl e)
theorem FP{ks:List ww}(ok:m8 P w H h)(e:H a=some (.tup (ks.map kV))):(tupleKind (cb P w)).is h ks a:=by
 obtain⟨_,its,r,o,h1,h2,n,h3⟩:=(show bI P w H h a (.tup (ks.map kV)) from ok a _ e);exact⟨o,its.toArray,n,h1,h2,h3,by simpa using BK r⟩
theorem L7{a6:mJ}(ok:m8 P w H h)(e:Rd H a (.dT a6)):a6.length≤sizeLine∧(a==sysModules)=false∧
 ∃xs,KT H a6 xs∧h.DictOfH (tupleKind (cb P w)) a xs:=by
 obtain⟨z,y,xs,r,o,es,ep,h1,h2,h3,h4,h5⟩:=(show bI P w H h a (.dT a6) from QZ ok e);refine⟨z,y,xs,r,o,es,ep,h1,h2,h3,h4,fun x hx=> ?_,h5⟩
 have all:∀{l:mJ} {m:List (List ww×Addr×Value)},KT H l m→∀x∈m,(tupleKind (cb P w)).is h x.1 x.2.1:=by
  intro l m q
  induction q with
  |nil=>intro x hx;exact nomatch hx
  | @cons p q ps qs hq t ih=>
   intro x hx;rcases aU.mp hx with e|hx
   ·subst e;exact FP ok (by rw[←hq.1];exact hq.2.1)
   ·exact ih x hx
 exact all r x hx
theorem X7{a6:mJ}(ok:m8 P w H h)(e:H a=some (.dT a6)):a6.length≤sizeLine∧(a==sysModules)=false∧
 ∃xs,KT H a6 xs∧h.DictOfH (tupleKind (cb P w)) a xs:=L7 ok (.inl e)
end
noncomputable def Jv(H:Hp)(a:Addr)(y:V)(r:Option V):Prop:=
 (∃a6 k,Rd H a (.dK a6)∧y=kV k∧r=jo a6 k)∨∃a6 k b,Rd H a (.dT a6)∧y= .ref b∧H b=some (.tup (k.map kV))∧r=jo a6 k
noncomputable def Lp(H:Hp)(a:Addr)(y v:V)(H' :Hp):Prop:=
 (∃a6 k,H a=some (.dK a6)∧y=kV k∧a6.length<sizeLine∧H' =upd H a (.dK (zn a6 k v)))∨
 ∃a6 k b,H a=some (.dT a6)∧y= .ref b∧H b=some (.tup (k.map kV))∧a6.length<sizeLine∧H' =upd H a (.dT (zn a6 k v))
theorem Jv.k{H:Hp}{a:Addr}{a6:dE}{k:ww}(e:H a=some (.dK a6)):Jv H a (kV k) (jo a6 k):= .inl ⟨a6,k,.inl e,rfl,rfl⟩
theorem Lp.k{H:Hp}{a:Addr}{a6:dE}{k:ww}{v:V}(e:H a=some (.dK a6))(hl:a6.length<sizeLine):Lp H a (kV k) v (upd H a (.dK (zn a6 k v))):= .inl ⟨a6,k,e,rfl,hl,rfl⟩
section
variable{X:Cx}{pins:aJ}{σ:St}{H:Hp}{s:Shared}{a:Addr}{y v:V}{u r:Value}{o:Option V}{A:Around}{E:Value→Shared→Prop}
theorem Inv.big(I:Inv X pins σ H s):sysModules<s.heap.objs.size:=by
 have h:mainGlobals<s.heap.objs.size:=(I.mod.glob.keeps I.bk).lt;exact yk (by decide) h
theorem Du{h' :Heap}{t' :Nat}{ob:HO}(I:Inv X pins σ H s)(mu:Yl (H a))(hs:Heap.SameBut a s.heap h')(he:∃q,h'.get? a=some q)(new:bI X.prog X.w (upd H a ob) h' a ob):
 Inv X pins σ (upd H a ob) {s with heap:=h',toks:=t'}:=
 I.write (x:=a) (e:=a) mu (.inl rfl) (fun b q hb z=>(hs.2 b hb).trans z) he new
theorem NM{P:Program}{w:World}{H' :Hp}{h' :Heap}{a6:dE}{vs:List (ww×Value)}(z:a6.length≤sizeLine)(hd:(a==sysModules)=false)(rel:KV a6 vs)(dd:h'.DictOf (cb P w) a vs):
 bI P w H' h' a (.dK a6):=⟨z,hd,vs,rel,dd⟩
theorem Ja{H' :Hp}{Q:Unit→Shared→Prop}(hu:A.units+1<cLine)(I:Inv X pins σ H s)(g:Lp H a y v H')(ry:RelV y u)(rv:RelV v r)(h:∀s',Inv X pins σ H' s'→Q () s'):
 wpAny (model X.prog X.w) A (setItem (.ref a) u r) Q E s:=by
 rcases g with⟨a6,k,e,ey,l,eH⟩|⟨a6,k,b,e,ey,eb,l,eH⟩
 ·subst ey eH;obtain⟨z,hd,vs,rel,dd⟩:=Hv I.bE e;have hz:vs.length≤sizeLine:=by rw[←rel.length];exact z
  have hl:(zn a6 k v).length≤sizeLine:=by have:=pA a6 k v;omega
  refine wpAny_setItem_pairs (hsz:=hz) (Bm ry) dd fun h' HS hs=>h _ ?_;have he:∃q,h'.get? a=some q:=let⟨q,_,_,hq,_⟩:=HS;⟨q,hq⟩
  exact Du I (by rw[e];exact True.intro) hs he (NM hl hd (rel.put k rv) HS)
 ·subst ey eH;cases(show u=Value.ref b from ry);obtain⟨z,hd,xs,rel,dd⟩:=X7 I.bE e;have hz:xs.length≤sizeLine:=by rw[←Paired.length rel];exact z
  have hl:(zn a6 k v).length≤sizeLine:=by have:=pA a6 k v;omega
  refine wpAny_setItem_heap (hsz:=hz) (tupleKind_room_in1 hu) (FP I.bE eb) dd fun h' HS hs=>h _ ?_;obtain⟨q,es,ep,hq,h2,h3,h4,_,h5⟩:=HS;refine Du I (by rw[e];exact True.intro) hs ⟨q,hq⟩ ⟨hl,hd,_,(rel.put k eb rv).keeps fun c ys ec=> ?_,q,es,ep,hq,h2,h3,h4,h5⟩;rw[av (bW ec e (fun z=>nomatch z))];exact ec
end
section
variable{X:Cx}{pins:aJ}{σ:St}{H:Hp}{s:Shared}{a:Addr}{a6:dE}{k:ww}{u:Value}{A:Around}{E:Value→Shared→Prop}
end
noncomputable def Z2(i:Expr):Prop:=∀ov iv,subscripted i false ov iv=operate [ov,iv] (getItem ov iv)
theorem PX{prog:Program}{w:World}{A:Around}{E:Value→Shared→Prop}{s:Shared}{env:Env}{value slice:Expr}{pos:Pos}{T id:String}{Q:Value→Shared→Prop}
 (hl:typeLookup (.type T) "__getitem__"=pure (some (.builtin id))) (hs:Z2 slice)
 (h:wpAny (model prog w) A (eval value env) (fun o bC=>wpAny (model prog w) A (eval slice env) (fun i nW=>nW.TypeIs o T∧wpAny (model prog w) A (getItem o i) Q E nW) E bC) E s):
 wpAny (model prog w) A (eval (.Subscript value slice pos) env) Q E s:=by
 refine Subscript_ (eA h (fun o bC h₁=>eA h₁ (fun i nW kq=> ?_) fun _ _ x=>x) fun _ _ x=>x);obtain⟨hT,kq⟩:=kq;unfold subscriptTail;refine ah ?_;rw[getitemInPython_of_ne hT.not_modules];refine ah (wpAny_specialOf hT hl ?_)
 have fin:wpAny (model prog w) A (subscripted slice false o i) (fun r vt=>wpAny (model prog w) A (letTemporaryGo value o r>>= fun _=>pure r) Q E vt) E nW:=by
  rw[hs o i];exact wpAny_operating (eA kq (fun r vt oW=>ah (wpAny_letTemporaryGo (aC oW))) fun _ _ x=>x)
 first
  |exact aC (ah fin)
  |exact ah (aC (ah fin))
  |exact ah fin
noncomputable def Yc(td ty tv:TE):TS:=fun D σ H=>tv σ H fun v H1=>td σ H1 fun x H2=>ty σ H2 fun y H3=>∃a H4,x= .ref a∧Lp H3 a y v H4∧D.nx σ H4
section
variable{X:Cx}{o i e value:Expr}{pos pos' adS:Pos}{td ty tv:TE}
theorem Oq(hu:X.A.units+1<cLine)(ho:PE X o td)(hi:PE X i ty)(hv:PE X value tv)(hs:swapsWith value (some (.Subscript o i pos')) pos.line X.env=pure false):
 PS X (.Assign [.Subscript o i pos'] value pos) (Yc td ty tv):=by
 intro pins s σ H D I h;refine wpAny_Assign_Subscript (ck (hv pins s σ H _ I h) fun r s1 ⟨v,H1,I1,rv,q1⟩=>ck (ho pins s1 σ H1 _ I1 q1) fun u s2 ⟨x,H2,I2,rx,q2⟩=>ck (hi pins s2 σ H2 _ I2 q2) fun iv s3 ⟨y,H3,I3,ry,a,H4,ex,g,q3⟩=> ?_) hs;subst ex;obtain rfl:u=Value.ref a:=rx;exact Ja hu I3 g ry rv fun s4 I4=>⟨σ,H4,I4,q3⟩
end
theorem Ed{P:Program}{w:World}{H:Hp}(h:Heap)(hb:sysModules<h.objs.size):bI P w H (h.push {cls:= .type "dict",data:= .dict #[]}) h.objs.size (.dK []):=
 ⟨cN _,qL.mpr (bK (bN hb)),[],.nil,Heap.DictOf.new h⟩
noncomputable def WG:TE:=fun _ H Q=>∀p,H p=none→Q (.ref p) (upd H p (.dK []))
section
variable{X:Cx}{pos:Pos}
theorem ER:PE X (.Dict [] [] pos) WG:=fun pins s σ H Q I h=>
 wpAny_Dict_empty ⟨.ref s.heap.objs.size,_,I.laid (a:=s.heap.objs.size) (o:= .dK []) (t' :=s.toks) (fun _ _ q=>a8 _ q) (aG _) (Ed s.heap I.big),rfl,h _ (I.bE.fresh (aG _))⟩
end
noncomputable def FG:List (TE×TE)→St→Hp→(List (V×V)→Hp→Prop)→Prop
 |[],_,H,Q=>Q [] H
 |(tk,tv)::r,σ,H,Q=>tk σ H fun x H1=>tv σ H1 fun y H2=>FG r σ H2 fun ps H3=>Q ((x,y)::ps) H3
noncomputable abbrev VV:List (V×V)→List (Value×Value)→Prop:=Paired fun p q=>RelV p.1 q.1∧RelV p.2 q.2
noncomputable def PPs(X:Cx)(pos:Pos)(keys:List (Option Expr))(values:cu)(Po:List (TE×TE)):Prop:=
 ∀(pins:aJ) (s:Shared) (σ:St) (H:Hp) (Q:List (V×V)→Hp→Prop),Inv X pins σ H s→FG Po σ H Q→
  wpAny (model X.prog X.w) X.A (evalPairs (pairTrees keys values X.env pos)) (fun vs s' =>∃ps H',Inv X pins σ H' s'∧VV ps vs∧Q ps H') X.xe s
theorem Ia{X:Cx}{pos:Pos}:PPs X pos [] [] []:=fun pins s σ H Q I h=>pairTrees_nil_walk ⟨[],H,I,.nil,h⟩
theorem i8{X:Cx}{pos:Pos}{k v:Expr}{ks:List (Option Expr)}{vs:cu}{tk tv:TE}{Po:List (TE×TE)}(hk:PE X k tk)(hv:PE X v tv)(hr:PPs X pos ks vs Po):
 PPs X pos (some k::ks) (v::vs) ((tk,tv)::Po):=fun pins s σ H Q I h=>
 pairTrees_cons_walk (ck (hk pins s σ H _ I h) fun u s1 ⟨x,H1,I1,rx,q1⟩=>ck (hv pins s1 σ H1 _ I1 q1) fun w2 s2 ⟨y,H2,I2,ry,q2⟩=>
  ck (hr pins s2 σ H2 _ I2 q2) fun ws s3 ⟨ps,H3,I3,rel,q3⟩=>⟨(x,y)::ps,H3,I3,.cons ⟨rx,ry⟩ rel,q3⟩)
noncomputable def sj(a6 more:dE):dE:=more.foldl (fun acc kv=>zn acc kv.1 kv.2) a6
theorem KV.merge:∀{more:dE} {rs:List (ww×Value)} {a6:dE} {vs:List (ww×Value)},KV more rs→KV a6 vs→KV (sj a6 more) (merged vs rs):=by
 intro more rs a6 vs r;unfold KV at r
 induction r generalizing a6 vs with
 |nil=>intro q;exact q
 | @cons p q ps qs h t ih=>
  intro r0
  have e:KV (zn a6 p.1 p.2) (stored vs q.1 q.2):=by
   have:=r0.put p.1 h.2;rw[←h.1];exact this
  exact ih e
theorem rR:∀(more a6:dE),(sj a6 more).length≤a6.length+more.length
 |[],a6=>by show a6.length≤a6.length+0;omega
 |p::r,a6=>by
  have h1:=rR r (zn a6 p.1 p.2);have h2:=pA a6 p.1 p.2;show(sj (zn a6 p.1 p.2) r).length≤_;rw[aW];omega
theorem AB{P:Program}{w:World}:∀{a6:dE} {ws:List (Value×Value)},VV (a6.map fun kv=>(kV kv.1,kv.2)) ws→∃rs,Carries (cb P w) ws rs∧KV a6 rs
 |[],_,r=>by rw[nV] at r;cases r;exact⟨[],True.intro,.nil⟩
 |p::a6,_,r=>by
  rw[dw] at r
  cases r with
  | @cons a b as bs h t=>
   obtain⟨rs,c,q⟩:=AB (P:=P) (w:=w) t;obtain⟨b1,b2⟩:=b;exact⟨(p.1,b2)::rs,⟨Bm h.1,rfl,c⟩,.cons ⟨rfl,h.2⟩ q⟩
noncomputable def aaw(Po:List (TE×TE)):TE:=fun σ H Q=>∀p,H p=none→FG Po σ (upd H p (.dK [])) fun ps H2=>H2 p=some (.dK [])∧∃a6:dE,ps=a6.map (fun kv=>(kV kv.1,kv.2))∧a6.length≤15∧Q (.ref p) (upd H2 p (.dK (sj [] a6)))
theorem HF{X:Cx}{pos:Pos}{keys:List (Option Expr)}{values:cu}{Po:List (TE×TE)}(h:PPs X pos keys values Po)(VN:keys.all (·.isSome)=true)(hl:keys.length=values.length)(h0:keys≠[])
 (h15:keys.length≤15):PE X (.Dict keys values pos) (aaw Po):=by
 intro pins s σ H Q I q;have hn:=I.bE.fresh (aG s.heap.objs.size);have I1:=I.laid (a:=s.heap.objs.size) (o:= .dK []) (h' :=s.heap.push {cls:= .type "dict",data:= .dict #[]}) (t' :=s.toks) (fun _ _ q=>a8 _ q) (aG _) (Ed s.heap I.big);refine wpAny_Dict_walk (knd:=cb X.prog X.w) VN hl h0 h15 (ck (h pins _ σ _ _ I1 (q _ hn)) fun ws s2 ⟨ps,H2,I2,rel,e,a6,ep,lk,q2⟩=> ?_);subst ep;obtain⟨rs,c,rk⟩:=AB (P:=X.prog) (w:=X.w) rel;obtain⟨z,hd,vs0,r0,dd⟩:=Hv I2.bE e;cases r0;refine⟨rs,c,dd,fun h' HS hs=>⟨.ref s.heap.objs.size,_,?_,rfl,q2⟩⟩
 have hz:(sj [] a6).length≤sizeLine:=by
  have h1:=rR a6 [];rw[jh] at h1;rw[qv];omega
 have he:∃q,h'.get? s.heap.objs.size=some q:=let⟨q,_,_,hq,_⟩:=HS;⟨q,hq⟩
 exact Du I2 (by rw[e];exact True.intro) hs he (NM hz hd (rk.merge .nil) HS)
structure M1(X:Cx)(o:Expr)(m:Str)(apos:Pos)(e:Expr)(gx:Pos):Prop where
 base:attributeBase o m X.env (eval o X.env)=eval o X.env
 few:((backTo gx (starEach [e] X.env)).all (fun x=> !x.1)&&(backToKw gx (keywordEach [] X.env)).all (fun x=>x.1.isSome)
  &&decide (([e]:cu).length+([]:List Keyword).length+(if([]:List Keyword).isEmpty then 0 else 1)<30))=true
 line:(apos.endLine==gx.line)=true
 trees:backTo gx (starEach [e] X.env)=[(false,eval e X.env)]
structure M2(X:Cx)(o:Expr)(m:Str)(apos:Pos)(e f:Expr)(gx:Pos):Prop where
 base:attributeBase o m X.env (eval o X.env)=eval o X.env
 few:((backTo gx (starEach [e,f] X.env)).all (fun x=> !x.1)&&(backToKw gx (keywordEach [] X.env)).all (fun x=>x.1.isSome)
  &&decide (([e,f]:cu).length+([]:List Keyword).length+(if([]:List Keyword).isEmpty then 0 else 1)<30))=true
 line:(apos.endLine==gx.line)=true
 trees:backTo gx (starEach [e,f] X.env)=[(false,eval e X.env),(false,eval f X.env)]
noncomputable def IsD(H:Hp)(a:Addr):Prop:=(∃a6,Rd H a (.dK a6))∨∃a6,Rd H a (.dT a6)
theorem Ur{X:Cx}{pins:aJ}{σ:St}{H:Hp}{s:Shared}{a:Addr}(I:Inv X pins σ H s)(d:IsD H a):
 s.TypeIs (.ref a) "dict" ∧(∀b,Value.ref a= .ref b→∃ob,s.heap.get? b=some ob∧ob.dict=none)∧(a==sysModules)=false:=by
 rcases d with⟨a6,e⟩|⟨a6,e⟩
 ·obtain⟨_,hd,vs,_,dd⟩:=Ms I.bE e;refine⟨dd.typeIs,fun b q=> ?_,hd⟩;cases q;obtain⟨ob,_,_,h1,h2,_⟩:=dd;exact⟨ob,h1,h2.2.1⟩
 ·obtain⟨_,hd,xs,_,dd⟩:=L7 I.bE e;refine⟨dd.typeIs,fun b q=> ?_,hd⟩;cases q;obtain⟨ob,_,_,h1,h2,_⟩:=dd;exact⟨ob,h1,h2.2.1⟩
section
variable{X:Cx}{pins:aJ}{σ:St}{H:Hp}{s:Shared}{a:Addr}{y d:V}{u r:Value}{o:Option V}{A:Around}{E:Value→Shared→Prop}
theorem UB{Q:Value→Shared→Prop}(hu:A.units+1<cLine)(I:Inv X pins σ H s)(g:Jv H a y o)(ry:RelV y u)(rd:RelV d r)(h:∀w' s',Inv X pins σ H s'→RelV (o.getD d) w'→Q w' s'):
 wpAny (model X.prog X.w) A (call (.builtin "dict.get") [.ref a,u,r]) Q E s:=by
 rcases g with⟨a6,k,e,ey,l⟩|⟨a6,k,b,e,ey,eb,l⟩
 ·subst ey;obtain⟨z,hd,vs,rel,dd⟩:=Ms I.bE e;refine call_meetsIn slot_dict_get dd.typeIs entry_dict_get (args_dict_get_3 _ _ _) (meets_dict_get_default (cb X.prog X.w) a (Bm ry) hd r) ⟨_,dd.mapOf,h _ _ (I.tok _) ?_⟩;rw[l];exact(rel.val k).getD rd
 ·subst ey;cases(show u=Value.ref b from ry);obtain⟨z,hd,xs,rel,dd⟩:=L7 I.bE e;refine call_meetsIn slot_dict_get dd.typeIs entry_dict_get (args_dict_get_3 _ _ _) (meetsH_dict_get_default (tupleKind (cb X.prog X.w)) a b hd r) ⟨tupleKind_room_in1 hu,k,xs,FP I.bE eb,dd,h _ _ (I.tok _) ?_⟩;rw[l];exact(rel.val k).getD rd
end
noncomputable def Uq(td ty tx:TE):TE:=fun σ H Q=>td σ H fun x H1=>∃a,x= .ref a∧IsD H1 a∧ty σ H1 fun y H2=>tx σ H2 fun z H3=>∃o,Jv H3 a y o∧Q (o.getD z) H3
section
variable{X:Cx}{o e f:Expr}{apos gx:Pos}{td ty tx:TE}
theorem EC(hu:X.A.units+1<cLine)(ho:PE X o td)(he:PE X e ty)(hf:PE X f tx)(m:M2 X o "get" apos e f gx):PE X (.Call (.Attribute o "get" apos) [e,f] [] gx) (Uq td ty tx):=by
 intro pins s σ H Q I h;refine wpAny_Call_method m.base m.few m.line PySem.F.plainAttrs_dict slot_dict_get PySem.F.type_dict_get (ck (ho pins s σ H _ I h) fun u s1 ⟨x,H1,I1,rx,a,ex,d,q1⟩=> ?_);subst ex;obtain rfl:u=Value.ref a:=rx;obtain⟨t1,t2,_⟩:=Ur I1 d;refine⟨t1,t2,?_⟩;rw[m.trees]
 refine Dv rfl (Calls.evalArgs_plain (sD (ck (he pins s1 σ H1 _ I1 q1) fun iv s2 ⟨y,H2,I2,ry,q2⟩=>
  sD (ck (hf pins s2 σ H2 _ I2 q2) fun fv s3 ⟨z,H3,I3,rz,ov,g,q3⟩=>tU ?_))))
 exact UB hu I3 g ry rz fun w' s4 I4 Mv =>⟨_,H3,I4,Mv,q3⟩
end
section
variable{X:Cx}{pins:aJ}{σ:St}{H:Hp}{s:Shared}{a:Addr}{a6:dE}{A:Around}{E:Value→Shared→Prop}
end
section
variable{X:Cx}{pins:aJ}{σ:St}{H:Hp}{s:Shared}{a:Addr}{y:V}{u:Value}{A:Around}{E:Value→Shared→Prop}
end
end L2
namespace Att
open PySem PySem.W PySem.Calls PyProof.Rows
theorem xK{P:Params}{h:Heap}:∀(ns:List Int) (vs:aD),WellAll P h vs (ns.map WData.int)→IntsAre vs ns:=by
 intro ns
 induction ns with
 |nil=>
  intro vs w;rw[nV] at w;cases w;exact .nil
 |cons n ns ih=>
  intro vs w;rw[dw] at w
  cases w with
  |cons a b=>
   cases a;exact .cons _ _ (ih _ b)
theorem Jz{l:OpenLaw}{n:Nat}(hn:l.most=some n){P:Params}{h:Heap}{args:List WData}{vals:aD}
 (Pg:l.row.toRowW.claim.pre args=true) (NY:WellAll P h vals args):
 ∃a vs ns,vals=[Value.ref a]∧args=[WData.list (ns.map WData.int)]∧h.get? a=some {cls:= .type "list",data:= .seq vs.toArray}∧IntsAre vs ns∧ns.length≤n:=by
 have hsh:WShape.hasAll [] args [.list .int]=true:=(pre_splitW Pg).1;have hc:l.pre.holds [] {args:=args}=true:=(pre_splitW Pg).2;obtain⟨d,r,rfl,h1,h2⟩:=hasAllW_cons hsh;obtain rfl:=hasAllW_nil h2;obtain⟨xs,rfl,h3⟩:=hasW_list h1;obtain⟨ns,rfl⟩:=items_int h3
 have hlen:ns.length≤n:=by
  unfold OpenLaw.pre at hc
  have h4:(WTm.not (.lt (.lit (.int (n:Int))) (.len (.arg 0)))).holds [] {args:=[.list (ns.map .int)]}=true:=by
   have h4:=(holds_andW hc).1;rw[hn] at h4;exact h4
  have h5:=condW_of h4 (w_not (w_lt w_lit (w_len_list (w_arg rfl))));rw[aK] at h5;refine Nat.le_of_not_lt fun q=> ?_;have q' :(n:Int)<((ns.length:Nat):Int):=by omega
  first
   |(rw[aS q'] at h5;exact absurd h5 (by decide))
   |(simp at h5;omega)
 cases NY with
 |cons w1 w2=>
  cases w2
  cases w1 with
  |list ho VN=>exact⟨_,_,ns,rfl,rfl,ho,xK ns _ VN,hlen⟩
theorem Jp(l:OpenLaw)(args:List WData):l.row.toRowW.claim.post args (.bool true) args=true:=
 postW_of (r:=l.row.toRowW) (X:=(true==true))
  (show WShape.has [] (.bool true) .bool=true by first|rfl|decide|simp[WShape.has,WShape.arms,WShape.armsAll])
  (show(WTm.eq .res (.lit (.bool true))).value [] {args:=args,res:=some (.bool true),after:=args}=some (.bool (true==true)) from w_eq_bool (w_res rfl) w_lit) rfl
theorem Ej{l:OpenLaw}{n:Nat}{q:Program}{loose:ao}{XP:(Str→aI)→Heap→Prop}{YP:World→Heap→Prop}{d:DefRec}
 (hn:l.most=some n) (Zk:d.params.defaults=[])
 (call:∀(w:World) (eV bC:Shared) (mg mb:Str→aI) (fa:Addr) (o:Obj) (pm cd doc:Value) (a:Addr) (vs:aD) (ns:List Int),
  Ground q loose [] XP w eV mg mb bC.heap→YP w bC.heap→
  bC.heap.get? fa=some o→o.data= .func (docDef d.name d.params d.body d.scope pm cd doc)→bC.heap.CodeRec cd d.name→mg d.name=some (.ref fa)→
  bC.heap.get? a=some {cls:= .type "list",data:= .seq vs.toArray}→IntsAre vs ns→ns.length≤n→bC.gens= #[]→
  codeAny (model l.prog w) callerA (.call (.ref fa) ⟨[.ref a],[]⟩) (fun r s' =>r= .ok (.ret (.bool true))∧OldK bC.heap s'.heap∧s'.os=bC.os∧AllBare s'.gens) bC):
 WalkO q loose XP YP l.row.toRowW d [] (fun f vs=>PySem.call f vs):=by
 intro w eV bC mg mb G Y fa o pm cd doc dV kV ho hd zR hD PZ hg args vals as Pg ama hrd NY JG;obtain rfl:dV= .none:=Dflts.none hD Zk;obtain rfl:kV= .none:=Dflts.noKw hD;obtain⟨a,vs,ns,rfl,rfl,VP,hints,hlen⟩:=Jz hn Pg NY;refine enter_call (pN (call w eV bC mg mb fa o pm cd doc a vs ns G Y ho (fd_plain hd) zR PZ VP hints hlen hg) fun r s' hq=> ?_);obtain⟨rfl,h2,h3,h4⟩:=hq;exact⟨.inl ⟨.bool true,.bool true,[],rfl,fun _=>rfl,.bool true,Jp l _,fun _=>⟨List.Pairwise.nil,fun _ hm=>(nomatch hm)⟩⟩,h2,h3,h4⟩
section
variable{prog:Program}{w:World}{A:Around}{E:Value→Shared→Prop}{s:Shared}{K:Frag}
end
end Att
namespace L2
open PySem PySem.Spec PyProof.Rows
theorem Bu:∀{vs:aD} {ns:List Int},IntsAre vs ns→Vals (ns.map V.int) vs
 |_,_,.nil=> .nil
 |_,_,.cons n t h=> .cons ⟨t,rfl⟩ (Bu h)
noncomputable def Bh(H:Hp):Prop:=∀b,H b=none∨∃o xs,H b=some (.Eo o (.lst xs))
noncomputable abbrev cK:tD:=fun _ _ _ _ _ _=>False
noncomputable abbrev E0:XK:=fun _ _ _=>False
theorem az{X:Cx}:wn cK X E0:=fun _ _ _ _ _ _ _ h=>h.elim
structure EG(K:Frag)(x qual:Str)(st:Stmt)(f:Addr)(fd:FuncData):Prop where
 ex:∃(oc:Value) (od:Option Addr) (kV doc pm:Value) (an:Option Addr) (cj ct:Value) (xI:Array (aI)),
  fd=PySem.W.fnOf x qual (gB st) (cR st) (aq st) .none kV doc pm an cj ct∧K.lookup f=some ⟨oc,od,.func fd,xI⟩∧PySem.W.codeIn K cj qual=true
 kp:PySem.W.keepIn K (.ref f)=true
section
variable{P:Program}{w:World}{K:Frag}{mg:Str→aI}{base:Heap}
theorem EG.ok{x qual:Str}{st:Stmt}{f:Addr}{fd:FuncData}{N ps:ao}{k:Nat}{sp:Sp}(F:EG K x qual st f fd)(S:aE N ps (aq st))(len:∀vs H Q E,sp vs H Q E→vs.length=ps.length)
 (gu:∀(cj:Value) (A:Around) (outer:List Env) (s:Shared) (H:Hp) (vs:ak) (Q:VK) (E:XK),cZ k (A.deeper (envOfC qual (aq st) s.heap.objs.size f cj))→sp vs H Q E→
  ∃t,AO (kP cK P w K mg base N qual (aq st) f cj A outer s H E).Gg (cR st) t∧t {nx:=fun _ H' =>Q .bx H',rt:=Q} (start N vs) H):aM P w K mg base cK (k+1) f fd ps sp:=by
 obtain⟨oc,od,kV,doc,pm,an,cj,ct,xI,rfl,lk,zR⟩:=F.ex;refine HI lk zR S len fun A outer s H vs Q E hr BC=> ?_;obtain⟨t,h,q⟩:=gu cj A outer s H vs Q E hr BC;exact⟨t,h.Gg,q⟩
theorem EG.binds{x qual:Str}{st:Stmt}{f:Addr}{fd:FuncData}{ps:ao}(F:EG K x qual st f fd)
 (h:∀(kV doc pm:Value) (an:Option Addr) (cj ct:Value) (us:aD),us.length=ps.length→bindArgs (PySem.W.fnOf x qual (gB st) (cR st) (aq st) .none kV doc pm an cj ct) ⟨us,[]⟩=pure (ps.zip us)):Binds K fd ps []:=by
 obtain⟨oc,od,kV,doc,pm,an,cj,ct,xI,rfl,lk,zR⟩:=F.ex;exact .all (h kV doc pm an cj ct)
theorem CP{x qual:Str}{st:Stmt}{f:Addr}{oc:Value}{od an:Option Addr}{xI:Array (aI)}{kV doc pm cj ct:Value}(l:K.lookup f=some ⟨oc,od,.func (PySem.W.fnOf x qual (gB st) (cR st) (aq st) .none kV doc pm an cj ct),xI⟩)
 (c:PySem.W.codeIn K cj qual=true) (k:PySem.W.keepIn K (.ref f)=true):EG K x qual st f (PySem.W.fnOf x qual (gB st) (cR st) (aq st) .none kV doc pm an cj ct):=⟨⟨oc,od,kV,doc,pm,an,cj,ct,xI,rfl,l,c⟩,k⟩
end
theorem Yp{A:Around}{k:Nat}(hr:cZ k A):A.units+1<cLine:=gp (ur (by decide:1≤64) _) hr.units
section
variable{X:Cx}
theorem pv(i:Nat){x:Str}{pos:Pos}(hN:X.N[i]? =some x:=by rfl)(hv:Vis X.env.scope x:=by first|exact Or.inl rfl|exact Or.inr (Or.inl rfl)|exact Or.inr (Or.inr rfl))(hd:(x==("__debug__" :Str))=false:=by decide)
 (zR:(x==("__classdict__" :Str))=false:=by decide):PE X (.Name x pos) (M7 i):=WR hN hv hd zR
end
theorem cA{A B:Prop}(h:B):if false=true then A else B:=by
 rw[ay cx];exact h
theorem dG{A B:Prop}(h:A):if true=true then A else B:=by
 rw[aA rfl];exact h
theorem sU{c A B:Prop}[Decidable c](h1:c→A)(h2:¬c→B):if c then A else B:=by
 by_cases h:c
 ·rw[aA h];exact h1 h
 ·rw[ay h];exact h2 h
noncomputable def aj(H H' :Hp):Prop:=∀b o,H b=some o→H' b=some o
theorem aj.refl(H:Hp):aj H H:=fun _ _ h=>h
theorem aj.trans{H H1 H2:Hp}(a:aj H H1)(b:aj H1 H2):aj H H2:=fun c o h=>b c o (a c o h)
theorem aj.free{H H' :Hp}(e:aj H H'){l:Addr}(h:H' l=Option.none):H l=Option.none:=by
 cases q:H l with
 |none=>rfl
 |some o=>
  rw[e l o q] at h;cases h
theorem aj.seq{K:Frag}{H H' :Hp}{a:Addr}{xs:ak}(e:aj H H')(h:bF K H a xs):bF K H' a xs:=by
 rcases h with(h|⟨o,h⟩)|h
 ·exact .inl (.inl (e _ _ h))
 ·exact .inl (.inr ⟨o,e _ _ h⟩)
 ·exact .inr h
section
variable{κ:Type}[DecidableEq κ]
end
noncomputable def nD(env:Env):List (Str×NameKind)→List (Str×Addr)→List (Str×Addr)
 |[],acc=>acc
 |y::r,acc=>nD env r (if(y.2==NameKind.free)=true then(y.1,(env.cells.lookup y.1).getD 0)::acc else acc)
theorem AI{env:Env}:∀(ns:List (Str×NameKind)) (acc:List (Str×Addr)),(∀y∈ns,y.2= .free→∃c,env.cells.lookup y.1=some c)→
 (forIn ns acc fun(x:Str×NameKind) (cs:List (Str×Addr))=>if(x.2==NameKind.free)=true then(cellOf env x.1>>= fun a=>pure (ForInStep.yield ((x.1,a)::cs))) else(pure (ForInStep.yield cs):Sem (ForInStep (List (Str×Addr)))))=pure (nD env ns acc)
 |[],acc,_=>rfl
 |y::r,acc,h=>by
  rw[tK];have ih:=fun a=>AI r a fun z hz=>h z (ff _ hz);by_cases hk:(y.2==NameKind.free)=true
  ·obtain⟨c,hc⟩:=h y e_ (eq_of_beq hk);have e:cellOf env y.1=pure c:=by unfold cellOf;rw[hc]
   rw[aA hk,e];show(forIn r ((y.1,c)::acc) _:Sem (List (Str×Addr)))=_;rw[ih];show pure (nD env r ((y.1,c)::acc))=pure (nD env r (if(y.2==NameKind.free)=true then(y.1,(env.cells.lookup y.1).getD 0)::acc else acc));rw[aA hk,hc];rfl
  ·rw[ay hk];show(forIn r acc _:Sem (List (Str×Addr)))=_;rw[ih];show pure (nD env r acc)=pure (nD env r (if(y.2==NameKind.free)=true then(y.1,(env.cells.lookup y.1).getD 0)::acc else acc));rw[ay hk]
theorem yZ{scope:Scope}{env:Env}(h:∀y∈scope.names,y.2= .free→∃c,env.cells.lookup y.1=some c):closureFor scope env=pure (nD env scope.names []):=by
 have q:=AI (env:=env) scope.names [] h;have e:closureFor scope env=((forIn scope.names ([]:List (Str×Addr)) fun(x:Str×NameKind) (cs:List (Str×Addr))=>if(x.2==NameKind.free)=true then(cellOf env x.1>>= fun a=>pure (ForInStep.yield ((x.1,a)::cs))) else(pure (ForInStep.yield cs):Sem (ForInStep (List (Str×Addr)))))>>= fun cs=>pure cs):=rfl;rw[e,q];rfl
theorem vU{env:Env}:∀(ns:List (Str×NameKind)) (acc:List (Str×Addr)) {x:Str} {c:Addr},(∀y∈ns,y.2= .free→∃c,env.cells.lookup y.1=some c)→(nD env ns acc).lookup x=some c→env.cells.lookup x=some c∨acc.lookup x=some c
 |[],acc,x,c,_,h=> .inr h
 |y::r,acc,x,c,h,e=>by
  have e:(nD env r (if(y.2==NameKind.free)=true then(y.1,(env.cells.lookup y.1).getD 0)::acc else acc)).lookup x=some c:=e;rcases vU r _ (fun z hz=>h z (ff _ hz)) e with q|q
  ·exact .inl q
  ·by_cases hk:(y.2==NameKind.free)=true
   ·rw[aA hk,iu] at q;obtain⟨d,hd⟩:=h y e_ (eq_of_beq hk)
    cases hx:x==y.1 with
    |true=>
     rw[hx] at q;dsimp only at q;rw[hd] at q;have hxy:x=y.1:=eq_of_beq hx;subst hxy;exact .inl (hd.trans q)
    |false=>
     rw[hx] at q;exact .inr q
   ·rw[ay hk] at q;exact .inr q
theorem v_{env:Env}:∀(ns:List (Str×NameKind)) (acc:List (Str×Addr)) {x:Str},((x,NameKind.free)∈ns∨∃c,acc.lookup x=some c)→∃c,(nD env ns acc).lookup x=some c
 |[],acc,x,h=>by
  rcases h with h|h
  ·cases h
  ·exact h
 |y::r,acc,x,h=>by
  show ∃c,(nD env r (if(y.2==NameKind.free)=true then(y.1,(env.cells.lookup y.1).getD 0)::acc else acc)).lookup x=some c;refine v_ r _ ?_;rcases h with h|⟨c,hc⟩
  ·rcases aU.mp h with e|h
   ·subst e;refine .inr ⟨(env.cells.lookup x).getD 0,?_⟩;rw[aA (by rfl),iu,beq_self_eq_true]
   ·exact .inl h
  ·by_cases hk:(y.2==NameKind.free)=true
   ·rw[aA hk]
    cases hx:x==y.1 with
    |true=>exact .inr ⟨_,by rw[iu,hx]⟩
    |false=>exact .inr ⟨c,by rw[iu,hx];exact hc⟩
   ·rw[ay hk];exact .inr ⟨c,hc⟩
theorem nE{env:Env}{x:Str}{k:NameKind}:∀(ns:List (Str×NameKind)),(ns.map fun(n,k)=>if(k==NameKind.free&&env.scope.kind== .function&&env.kindOf n==some .cell) then(n,NameKind.cell) else(n,k)).lookup x=some k→
 ns.lookup x=some k∨(ns.lookup x=some .free∧k= .cell)
 |[],h=>by cases h
 |(n,j)::r,h=>by
  have ih:=nE (env:=env) (x:=x) (k:=k) r;rw[dw] at h;dsimp only at h;by_cases hc:(j==NameKind.free&&env.scope.kind== .function&&env.kindOf n==some .cell)=true
  ·rw[aA hc,iu] at h;rw[iu]
   cases hx:x==n with
   |true=>
    rw[hx] at h
    have hj:(j==NameKind.free)=true:=by
     rw[gL,gL] at hc;exact hc.1.1
    have hj:=eq_of_beq hj;subst hj;exact .inr ⟨rfl,(di h).symm⟩
   |false=>
    rw[hx] at h;exact ih h
  ·rw[ay hc,iu] at h;rw[iu]
   cases hx:x==n with
   |true=>
    rw[hx] at h;exact .inl h
   |false=>
    rw[hx] at h;exact ih h
theorem vz{env:Env}{x:Str}:∀(ns:List (Str×NameKind)),ns.lookup x=some .free→
 (ns.map fun(n,k)=>if(k==NameKind.free&&env.scope.kind== .function&&env.kindOf n==some .cell) then(n,NameKind.cell) else(n,k)).lookup x=some .cell∨
 (ns.map fun(n,k)=>if(k==NameKind.free&&env.scope.kind== .function&&env.kindOf n==some .cell) then(n,NameKind.cell) else(n,k)).lookup x=some .free
 |[],h=>by cases h
 |(n,j)::r,h=>by
  have ih:=vz (env:=env) (x:=x) r;rw[dw];dsimp only;rw[iu] at h;by_cases hc:(j==NameKind.free&&env.scope.kind== .function&&env.kindOf n==some .cell)=true
  ·rw[aA hc,iu]
   cases hx:x==n with
   |true=>exact .inl rfl
   |false=>
    rw[hx] at h;exact ih h
  ·rw[ay hc,iu]
   cases hx:x==n with
   |true=>
    rw[hx] at h;exact .inr h
   |false=>
    rw[hx] at h;exact ih h
noncomputable def fB(X:Cx)(N:ao)(scope:Scope)(cl:List (Str×Addr))(C:Addr)(s:Shared)(H:Hp)(fp:bP):Cx where
 prog:=X.prog
 w:=X.w
 K:=X.K
 mg:=X.mg
 base:=X.base
 A:=X.A
 N:=N
 eV:=s
 H₀:=H
 env:=compEnvC scope cl C X.env
 outer:=X.stack
 stack:=X.stack
 ex:=fp
 fn:=fun _=>false
 calm:=X.calm
 pn:=[]
 xe:=fun _ _=>False
noncomputable def xY(k:Nat)(js:List Nat)(σ:St):St:=List.replicate k none++js.map fun j=>σ.getD j none
structure nL(X:Cx)(N:ao)(scope:Scope)(k:Nat)(js:List Nat):Prop where
 kind:scope.kind= .function
 cell:∀y∈scope.names,y.2≠.cell
 loc:∀y∈scope.names,y.2= .local→scope.names.lookup y.1=some .local
 free:∀y∈scope.names,y.2= .free→X.env.kindOf y.1=some .cell∨X.env.kindOf y.1=some .free
 len:N.length=k+js.length
 names:∀(i j:Nat),js[i]? =some j→X.N[j]? =N[k+i]?
 js:∀(i:Nat) (x:Str),N[k+i]? =some x→scope.names.lookup x=some .free
section
variable{X:Cx}{pins:aJ}{σ:St}{H:Hp}{s:Shared}{N:ao}{scope:Scope}{k:Nat}{js:List Nat}
theorem nL.cells(S:nL X N scope k js)(ok:X.Ok):∀y∈scope.names,y.2= .free→∃c,X.env.cells.lookup y.1=some c:=fun y hy hf=>ok.has _ (S.free y hy hf)
theorem Mr{fp:bP}{h1:Heap}{t1:Nat}(I:Inv X pins σ H s)(S:nL X N scope k js)(f:∀b∈fp,A4 X pins H b)(fo:∀b∈fp,∃o,s.heap.get? b=some o)
 (hn:h1.Ns s.heap.objs.size fun _=>none) (hk:∀b o,s.heap.get? b=some o→h1.get? b=some o):
 Inv (fB X N scope (nD X.env scope.names []) s.heap.objs.size s H fp) [] (xY k js σ) H {s with heap:=h1,toks:=t1}:=by
 have cs:=S.cells I.ok
 have SW:∀{x:Str} {c:Addr},(nD X.env scope.names []).lookup x=some c→X.env.cells.lookup x=some c:=fun{x c} e=>by
  rcases vU scope.names [] cs e with q|q
  ·exact q
  ·cases q
 refine⟨⟨I.ok.mod,S.kind,I.ok.glob,I.ok.blt,aG _,fun x y c e1 e2=>I.ok.inj x y c (SW e1) (SW e2),fun x hx=> ?_,fun x c hf _=>(nomatch hf),I.ok.hd,I.ok.frames,.inl rfl,fun b hb=>⟨?_,fun x c e=> ?_⟩,I.bs,
  aR I.ok.Kc I.sz,fun b o e hb=> ?_,fun b hb z=> ?_,I.stack,I.vd⟩,rfl,I.bare,Un.kept hk,⟨_,hn,fun i x v e1 e2 e3=> ?_⟩,fun x c e=> ?_,I.bE.fresh (aG _),fun x c e=>I.i4 x c (SW e),fun p hp=> ?_,I.bE.kept hk,?_⟩
 ·have hx:(relabel scope X.env).names.lookup x=some .cell∨(relabel scope X.env).names.lookup x=some .free:=hx
  have fr:scope.names.lookup x=some .free:=by
   rcases hx with q|q
   ·rcases nE scope.names q with z|z
    ·exact absurd rfl (S.cell _ (PySem.mem_of_lookup z))
    ·exact z.1
   ·rcases nE scope.names q with z|z
    ·exact z
    ·exact z.1
  exact v_ scope.names [] (.inl (PySem.mem_of_lookup fr))
 ·obtain⟨o,ho⟩:=fo b hb;exact bN (aQ ho)
 ·exact(f b hb).2.2.2.2.1 x c (SW e)
 ·rcases(f b hb).2.2.2.1 with z|z
  ·exact I.ok.G0 b o e z
  ·exact absurd (cf (cf (aQ e) I.ok.Kc) z) (b7 _)
 ·rcases aU.mp (I.zL b z) with q|q
  ·exact(f b hb).2.1 q
  ·exact(f b hb).2.2.1 q
 ·have e1:N[i]? =some x:=e1
  have hi:k≤i:=by
   by_cases hi:i<k
   ·unfold xY at e2;rw[dP (by rw[gN];exact hi),si,aA hi] at e2;cases e2
   ·omega
  obtain⟨d,rfl⟩:∃d,i=k+d:=⟨i - k,by omega⟩;unfold xY at e2;rw[gM (by rw[gN];omega),gN,bj] at e2;have ed:k+d - k=d:=by omega
  rw[ed] at e2
  cases ej:js[d]? with
  |none=>rw[ej] at e2;cases e2
  |some j=>
   rw[ej] at e2;have e2:σ.getD j none=some v:=di e2
   have Vu :σ[j]? =some (some v):=by
    rw[cy] at e2
    cases q:σ[j]? with
    |none=>rw[q] at e2;cases e2
    |some z=>rw[q] at e2;rw[show z=some v from e2]
   have en:X.N[j]? =some x:=(S.names d j ej).trans e1;have fr:=S.js d x e1;have kx:=S.free _ (PySem.mem_of_lookup fr) rfl;obtain⟨m,_,hl⟩:=I.loc;obtain⟨u,r,l⟩:=hl j x v en Vu (by rcases kx with q|q;exact .inr (.inl q);exact .inr (.inr q));refine⟨u,r,.inr ⟨?_,?_⟩⟩
   ·exact vz (env:=X.env) scope.names fr
   ·rcases l with⟨l,_⟩|⟨_,c,ec,ic⟩
    ·rcases kx with q|q
     ·dsimp only at q;rw[q] at l;cases l
     ·dsimp only at q;rw[q] at l;cases l
    ·obtain⟨c',e'⟩:=v_ (env:=X.env) scope.names [] (.inl (PySem.mem_of_lookup fr));have WY :=SW e';rw[ec] at WY;cases WY;exact⟨c,e',ic.keeps hk⟩
 ·obtain⟨v,q⟩:=I.cell x c (SW e);exact⟨v,q.keeps hk⟩
 ·have hp:p∈([]:aJ):=hp;cases hp
 ·show(xY k js σ).length=N.length;unfold xY;rw[ba,gN,aK,S.len]
end
noncomputable def fz(σ dC :St):Prop:=∀(i:Nat) v,σ[i]? =some (some v)→dC[i]? =some (some v)
theorem fz.refl(σ:St):fz σ σ:=fun _ _ h=>h
theorem fz.own{σ dC :St}{k i:Nat}{js:List Nat}{v:Option V}(h:fz (xY k js σ) dC)(hi:i<k):fz (xY k js σ) (dC.set i v):=fun j u e=>by
 have hj:j≠i:=fun z=>by
  subst z;unfold xY at e;rw[dP (by rw[gN];exact hi),si,aA hi] at e;cases e
 rw[yg (bK hj)];exact h j u e
noncomputable def mF(J:It)(k:Nat)(js:List Nat)(g:TG)(tt:TT)(te:TE)(σ:St)(H1:Hp)(Q:VK):Prop:=∀p,H1 p=none→∃W:Nat→Nat→ak→Hp→Prop,(∃m,W 0 m [] (upd H1 p (.lst [])))∧
 ∀i m ys H,W i m ys H→H p=some (.lst ys)∧((J.stop i H∧Q (.ref p) H)∨(J.go i H∧ys.length<sizeLine∧∀x H',J.yO i H x H'→g x (xY k js σ) H' fun lU H2=>fz (xY k js σ) lU∧tt lU H2 fun b H3=>
  if b=true then te lU H3 fun y H4=>H4 p=some (.lst ys)∧∃m',m' <m∧W (i+1) m' (ys++[y]) (upd H4 p (.lst (ys++[y]))) else ∃m',m' <m∧W (i+1) m' ys H3))
noncomputable def Ie(wi:TI)(k:Nat)(js:List Nat)(g:TG)(tt:TT)(te:TE):TE:=fun σ H Q=>wi σ H fun J H1=>mF J k js g tt te σ H1 Q
noncomputable def UL:TT:=fun _ H Q=>Q true H
noncomputable def GW(Y:Cx)(ifs:cu)(t:TT):Prop:=
 ∀(pins:aJ) (s:Shared) (σ:St) (H:Hp) (Q:Bool→Hp→Prop),Inv Y pins σ H s→t σ H Q→
  wpAny (model Y.prog Y.w) Y.A (forIn ifs true fun c r=>if r=true then do let ok←isTrue c Y.env (eval c Y.env);pure (ForInStep.yield ok) else pure (ForInStep.yield r)) (TP Y pins σ Q) Y.xe s
theorem uS{Y:Cx}:GW Y [] UL:=fun _ _ _ H _ I h=>wpAny_tests_nil ⟨H,I,h⟩
theorem EO{Y:Cx}{c:Expr}{t:TT}(h:PT Y c t):GW Y [c] t:=fun pins s σ H Q I hq=>wpAny_tests_one (h pins s σ H Q I hq)
section
variable{prog:Program}{w:World}{A:Around}{R:Result→Shared→Prop}{s:Shared}
theorem CL{elt target iter:Expr}{ifs:cu}{scope:Scope}{pos:Pos}{it acc:Value}{env:Env}(I:Nat→Shared→Prop)
 (turn:∀n s,I n s→wpAny (model prog w) A (pyNext it) (fun r bC=>match r with
  |none=>R (.ok .next) bC
  |some v=>wpAny (model prog w) A (letOwnedTupleGo target it v) (fun _ eV=>wpAny (model prog w) A (assign target env v) (fun _ nW=>
   wpAny (model prog w) A (forIn ifs true fun c r=>if r=true then do let ok←isTrue c env (eval c env);pure (ForInStep.yield ok) else pure (ForInStep.yield r)) (fun ok vt=>
    if ok=true then wpAny (model prog w) A (eval elt env) (fun x Pe=>
     wpAny (model prog w) A (call (.builtin "list.append") [acc,x]) (fun _ Yn=>∃m,m<n∧I m Yn) (fun _ _=>False) Pe) (fun _ _=>False) vt
    else ∃m,m<n∧I m vt) (fun _ _=>False) nW) (fun _ _=>False) eV) (fun _ _=>False) bC) (fun _ _=>False) s)
 (n:Nat) (h:I n s):
 codeAny (model prog w) A (.compLoop (.ListComp elt [⟨target,iter,ifs,0⟩] scope pos) 0 it acc env) R s:=by
 refine codeAny_loop rfl I (fun n s hI=> ?_) n h;show wpAny _ A ((compTurn (.ListComp elt [⟨target,iter,ifs,0⟩] scope pos) 0 it acc env).onRaise (fun x=>do noteFrame x env;theTreesLotGoes x)) _ _ s;refine wpAny_noted ?_;rw[compTurn_list];refine ah (pM (ah (eA (turn n s hI) (fun r bC h₁=> ?_) fun _ _ h' =>h'.elim)))
 cases r with
 |none=>exact aC h₁
 |some v=>
  refine ah (eA h₁ (fun _ eV h₀=> ?_) fun _ _ h' =>h'.elim);refine ah (eA h₀ (fun _ nW kq=>ah (eA kq (fun ok vt oW=> ?_) fun _ _ h' =>h'.elim)) fun _ _ h' =>h'.elim)
  cases ok with
  |false=>exact aC ⟨rfl,oW⟩
  |true=>
   exact ah (ah (eA oW (fun x Pe VF=>ah (eA VF (fun _ Yn oK=>aC (aC ⟨rfl,oK⟩)) fun _ _ h' =>h'.elim)) fun _ _ h' =>h'.elim))
end
section
variable{X:Cx}{tg iter elt:Expr}{ifs:cu}{scope:Scope}{pos:Pos}{N:ao}{k:Nat}{js:List Nat}{wi:TI}{g:TG}{tt:TT}{te:TE}
theorem BL{pins:aJ}{s2:Shared}{σ:St}{H2:Hp}{it:Addr}{fp:bP}{tn:Nat→Heap→Prop}{J:It}{Q:VK}{RR:Value→Addr→Result→Shared→Prop}{E:Value→Shared→Prop}(hc:X.calm=true)(S:nL X N scope k js)
 (hb:∀(cl:List (Str×Addr)) (C:Addr) (s:Shared) (H:Hp) (fp:bP),PG (fB X N scope cl C s H fp) tg g∧GW (fB X N scope cl C s H fp) ifs tt∧PE (fB X N scope cl C s H fp) elt te)
 (I2:Inv X pins σ H2 s2) (T:Turn X.prog X.w X.K tg J fp it tn) (Pk:tn 0 s2.heap) (f2:∀b∈fp,A4 X pins H2 b)
 (h:∀p,H2 p=none→∃W:Nat→Nat→ak→Hp→Prop,(∃m,W 0 m [] (upd H2 p (.lst [])))∧
  ∀i m ys H,W i m ys H→H p=some (.lst ys)∧((J.stop i H∧Q (.ref p) H)∨(J.go i H∧ys.length<sizeLine∧∀x H',J.yO i H x H'→g x (xY k js σ) H' fun lU H2=>fz (xY k js σ) lU∧tt lU H2 fun b H3=>
   if b=true then te lU H3 fun y H4=>H4 p=some (.lst ys)∧∃m',m' <m∧W (i+1) m' (ys++[y]) (upd H4 p (.lst (ys++[y]))) else ∃m',m' <m∧W (i+1) m' ys H3)))
 (hR:∀(p C:Addr) (s' :Shared) (H' :Hp) (m:Str→aI),Inv X pins σ H' s'→Q (.ref p) H'→s'.heap.Ns C m→H' C=none→C≠X.env.locals→X.eV.heap.objs.size≤C→(∀x c,X.env.cells.lookup x=some c→c≠C)→(∀q∈X.pn++pins,q.1≠C)→RR (.ref p) C (.ok .next) s'):
 wpAny (model X.prog X.w) X.A (newList []) (fun acc vt=>wpAny (model X.prog X.w) X.A (newFunctionEnv scope X.env.globals (nD X.env scope.names []) [] X.env.qual none .none (some X.env)) (fun Zz Pe=>
  codeAny (model X.prog X.w) X.A (.compStart (.ListComp elt [⟨tg,iter,ifs,0⟩] scope pos) 0 (.ref it) acc {Zz with scope:=relabel scope X.env}) (RR acc Zz.locals) Pe) E vt) E s2:=by
 have hf:H2 s2.heap.objs.size=none:=I2.bE.fresh (aG _);obtain⟨W,⟨m0,w0⟩,turn⟩:=h s2.heap.objs.size hf;have I3:Inv X pins σ (upd H2 s2.heap.objs.size (.lst [])) {s2 with heap:=s2.heap.push {cls:= .type "list",dict:=none,data:= .seq ([]:aD).toArray},toks:=s2.toks}:=I2.YH (ys:=[]) .nil (cN _);refine gm (wpAny_newFunctionEnv S.cell (by intro y hy;simp at hy) (fun h₁ FR Hn=> ?_) S.kind);dsimp only at FR Hn ⊢;generalize hp:s2.heap.objs.size=p at*
 generalize hH3:s2.heap.push {cls:= .type "list",dict:=none,data:= .seq ([]:aD).toArray}=g3 at FR Hn I3 ⊢;have k23:∀b o,s2.heap.get? b=some o→g3.get? b=some o:=fun b o e=>hH3▸a8 _ e;have k34:∀b o,g3.get? b=some o→h₁.get? b=some o:=fun b o e=>Hn.extBut b o (bN (aQ e)) (a8 _ e)
 have npf:∀b∈fp,b≠p:=fun b hb z=>by
  obtain⟨o,ho,_⟩:=T.obj _ _ Pk b hb;have:=aQ ho;rw[hp,z] at this;exact b7 _ this
 have f3:∀b∈fp,A4 X pins (upd H2 p (.lst [])) b:=fun b hb=>⟨by rw[av (npf b hb)];exact(f2 b hb).1,(f2 b hb).2⟩
 have fo3:∀b∈fp,∃o,g3.get? b=some o:=fun b hb=>by
  obtain⟨o,ho,_⟩:=T.obj _ _ Pk b hb;exact⟨o,k23 b o ho⟩
 have J0:=Mr (s:={s2 with heap:=g3,toks:=s2.toks}) (h1:=h₁) (t1:=s2.toks+([]:List (Str×Value)).length) I3 S f3 fo3 FR k34;have st4:tn 0 h₁:=T.keep _ _ _ Pk fun b hb o e=>k34 b o (k23 b o e);obtain⟨hG,hT,hE⟩:=hb (nD X.env scope.names []) g3.objs.size {s2 with heap:=g3,toks:=s2.toks} (upd H2 p (.lst [])) fp
 generalize hY:fB X N scope (nD X.env scope.names []) g3.objs.size {s2 with heap:=g3,toks:=s2.toks} (upd H2 p (.lst [])) fp=Y at*
 have yp:Y.prog=X.prog:=by rw[←hY];rfl
 have yw:Y.w=X.w:=by rw[←hY];rfl
 have yK:Y.K=X.K:=by rw[←hY];rfl
 have yA:Y.A=X.A:=by rw[←hY];rfl
 have yc:Y.calm=true:=by rw[←hY];exact hc
 have yx:Y.xe=fun _ _=>False:=by rw[←hY];rfl
 have ye:Y.env=compEnvC scope (nD X.env scope.names []) g3.objs.size X.env:=by rw[←hY];rfl
 have ypn:Y.pn=[]:=by rw[←hY];rfl
 have yex:Y.ex=fp:=by rw[←hY];rfl
 have yfs:Y.fs=A5 X.stack:=by rw[←hY];rfl
 have SW:∀{x:Str} {c:Addr},(nD X.env scope.names []).lookup x=some c→X.env.cells.lookup x=some c:=fun{x c} e=>by
  rcases vU scope.names [] (S.cells I2.ok) e with q|q
  ·exact q
  ·cases q
 have Gd:∀{H' :Hp},(∀b∈fp,H' b=none)→∀b∈fp,A4 Y [] H' b:=fun hn b hb=>by
  refine⟨hn b hb,?_,?_,?_,fun x c e=> ?_,fun q hq=> ?_⟩
  ·rw[ye];obtain⟨o,ho⟩:=fo3 b hb;exact bN (aQ ho)
  ·rw[yfs];intro z;rcases aU.mp (I2.zL b z) with q|q
   ·exact(f2 b hb).2.1 q
   ·exact(f2 b hb).2.2.1 q
  ·rw[yex];exact .inl hb
  ·rw[ye] at e;exact(f2 b hb).2.2.2.2.1 x c (SW e)
  ·rw[ypn] at hq;cases hq
 have adg:∀{dC :St} {H' :Hp} {s' :Shared},Inv Y [] dC H' s'→Q (.ref p) H'→RR (.ref p) g3.objs.size (.ok .next) s' :=fun{dC H' s'} I' q=>by
  have u:=I'.base;have ho:=I'.os;rw[yfs,yex] at u;subst hY;have IX:Inv X pins σ H' s' :=I3.QY (ch:=fp) ho u I'.bE I'.bare fun b hb=>⟨(f2 b hb).2.2.2.1,(f2 b hb).2.1,(f2 b hb).2.2.2.2.1,(f2 b hb).2.2.2.2.2⟩;obtain⟨m,hn,_⟩:=I'.loc;refine hR p g3.objs.size s' H' m IX q hn I'.free (fun z=> ?_) (aR I3.sz (aG _)) (fun x c e z=> ?_) fun r hr z=> ?_
  ·exact absurd (z▸I3.lt) (b7 _)
  ·obtain⟨v,o,ho,_⟩:=I3.cell x c e;exact absurd (z▸aQ ho) (b7 _)
  ·obtain⟨ho,_⟩:=I3.pin r hr;exact absurd (z▸aQ ho) (b7 _)
 have loop:codeAny (model X.prog X.w) X.A (.compLoop (.ListComp elt [⟨tg,iter,ifs,0⟩] scope pos) 0 (.ref it) (.ref p) (compEnvC scope (nD X.env scope.names []) g3.objs.size X.env)) (RR (.ref p) g3.objs.size) {s2 with heap:=h₁,toks:=s2.toks+([]:List (Str×Value)).length}:=by
  refine CL (fun n s' =>∃i ys H',Inv Y [] (xY k js σ) H' s'∧tn i s'.heap∧(∀b∈fp,H' b=none)∧W i n ys H') ?_ m0 ⟨0,[],_,J0,st4,fun b hb=>(f3 b hb).1,w0⟩
  rintro n s5 ⟨i,ys,H5,I5,Xh,fr5,w5⟩
  obtain⟨hys,w5⟩:=turn i n ys H5 w5;rw[←yp,←yw,←yA,←ye];have T' :Turn Y.prog Y.w Y.K tg J fp it tn:=by rw[yp,yw,yK];exact T
  rcases w5 with⟨stop,q⟩|⟨go,hz,step⟩
  ·refine ck (T'.done Y rfl rfl rfl yc i [] s5 _ H5 _ I5 (Gd fr5) Xh stop) fun r s6 ⟨hr,I6⟩=> ?_;subst hr;exact adg I6 q
  ·refine ck (T'.item Y rfl rfl rfl yc i [] s5 _ H5 _ I5 (Gd fr5) Xh go) fun r s6 ⟨u,hr,h6⟩=> ?_;subst hr;refine ck h6 fun _ s7 ⟨x,H7,I7,r7,y7,st7,fr7⟩=> ?_;have I7' :=I7.pinned (Gd fr7) (T.obj _ _ st7)
   have fin:∀{VB:St} {H8:Hp} {s8:Shared},fz (xY k js σ) VB→Inv Y ([]++AA fp s7.heap) VB H8 s8→Inv Y [] (xY k js σ) H8 s8∧tn (i+1) s8.heap∧∀b∈fp,H8 b=none:=fun{VB H8 s8} sb I8=>by
    refine⟨?_,T.keep _ _ _ st7 fun b hb o e=>(I8.pin (b,o) (jT _ (jT _ (nz hb e)))).1,fun b hb=> ?_⟩
    ·exact(I8.vv (pins:=[])).weak (by rw[I5.len,I8.len]) sb
    ·obtain⟨o,e,d⟩:=T.obj _ _ st7 b hb;exact(I8.pin (b,o) (jT _ (jT _ (nz hb e)))).2.1
   have wE:∀{α:Type} {t:Sem α} {P:α→Shared→Prop} {s' :Shared},wpAny (model Y.prog Y.w) Y.A t P Y.xe s'→wpAny (model Y.prog Y.w) Y.A t P (fun _ _=>False) s' :=fun{α t P s'} h=>by rw[yx] at h;exact h
   refine ck (wE (hG _ s7 _ H7 x u _ I7' r7 (step x H7 y7))) fun _ s8 ⟨VB,H8,I8,sb,q8⟩=> ?_;refine ck (wE (hT _ s8 VB H8 _ I8 q8)) fun b s9 ⟨H9,I9,q9⟩=> ?_
   cases b with
   |false=>
    have q9:∃m',m' <n∧W (i+1) m' ys H9:=q9;obtain⟨m',hm,w9⟩:=q9;obtain⟨a1,a2,a3⟩:=fin sb I9;exact⟨m',hm,i+1,ys,H9,a1,a2,a3,w9⟩
   |true=>
    refine ck (wE (hE _ s9 VB H9 _ I9 q9)) fun y N9 ⟨v,FD,I10,r10,Iv,m',hm,w10⟩=> ?_;refine ck (wE (cI _ N9 VB FD (.ref p) [v] (.ref p) [y] (fun _ tH=>∃m',m' <n∧W (i+1) m' (ys++[v]) tH) I10 rfl (.cons r10 .nil) ⟨p,ys,v,rfl,rfl,Iv,hz,m',hm,w10⟩)) fun z Ki ⟨_,tH,I11,_,m2,hm2,w11⟩=> ?_;obtain⟨a1,a2,a3⟩:=fin sb I11;exact⟨m2,hm2,i+1,ys++[v],tH,a1,a2,a3,w11⟩
 refine codeAny_compStart_list loop ?_;exact T.self _ _ _ _ _ st4 loop
theorem Oh(hc:X.calm=true)(S:nL X N scope k js)(hi:PI X tg iter wi)
 (hb:∀(cl:List (Str×Addr)) (C:Addr) (s:Shared) (H:Hp) (fp:bP),PG (fB X N scope cl C s H fp) tg g∧GW (fB X N scope cl C s H fp) ifs tt∧PE (fB X N scope cl C s H fp) elt te)
 (hs:∀x,foldedSetIterable iter X.env x=pure x:=by intro _;rfl):PE X (.ListComp elt [⟨tg,iter,ifs,0⟩] scope pos) (Ie wi k js g tt te):=by
 intro pins s σ H Q I h;rw[eval_ListComp];refine wpAny_comprehension_free (use:=none) rfl hs (yZ (S.cells I.ok)) S.kind S.loc (ck (hi pins s σ H _ I h) fun v s1 h1=>ck h1 fun itv s2 h2=> ?_);obtain⟨it,fp,tn,J,H2,e,I2,T,Pk,f2,q⟩:=h2;subst e;refine BL (RR:=fun acc C=>compPost (model X.prog X.w) X.A X.xe none (EP X pins σ Q) acc C) hc S hb I2 T Pk f2 q ?_;intro p C s' H' m IX q' hn hC hL h0 Ta hpn;refine⟨m,hn,fun h' sb=>⟨.ref p,H',?_,rfl,q'⟩⟩;exact IX.turned (t' :=s'.toks) (fun b o hb e=>(sb.2 b hb).trans e) hC (bK hL).symm (.inr h0) Ta hpn
theorem N_{i:Nat}{x:Str}{pos' gx:Pos}(hN:X.N.Nodup)(hi' :X.N[i]? =some x)(hx:Loc X.env.scope x)(hc:X.calm=true)(S:nL X N scope k js)(hi:PI X tg iter wi)
 (hb:∀(cl:List (Str×Addr)) (C:Addr) (s:Shared) (H:Hp) (fp:bP),PG (fB X N scope cl C s H fp) tg g∧GW (fB X N scope cl C s H fp) ifs tt∧PE (fB X N scope cl C s H fp) elt te)
 (hsw:swapsWith (.ListComp elt [⟨tg,iter,ifs,0⟩] scope gx) (some (.Name x pos')) pos.line X.env=pure true:=by rfl)
 (hs:∀x,foldedSetIterable iter X.env x=pure x:=by intro _;rfl) (hf:X.fn x=true∨X.env.scope.names.lookup x=some .local:=by first|exact .inl rfl|exact .inr rfl|assumption):
 PS X (.Assign [.Name x pos'] (.ListComp elt [⟨tg,iter,ifs,0⟩] scope gx) pos) (JZ (Ie wi k js g tt te) (zQ i)):=by
 intro pins s σ H D I h;rw[exec_Assign_Name_used _ _ _ _ hsw];refine ah (pM (ah ?_));show wpAny _ X.A (do let _←comprehension (.ListComp elt [⟨tg,iter,ifs,0⟩] scope gx) scope X.env _ (newList []) false (eval iter X.env) (some (assign (.Name x pos') X.env))) _ _ s
 refine ah (eA (wpAny_comprehension_free (use:=some (assign (.Name x pos') X.env)) (Q:=fun _ s' =>SP X pins D .next s') rfl hs (yZ (S.cells I.ok)) S.kind S.loc (ck (hi pins s σ H _ I h) fun v s1 h1=>ck h1 fun itv s2 h2=> ?_))
  (fun _ s' hq=>aC (aC hq)) fun _ _ e=>e)
 obtain⟨it,fp,tn,J,H2,e,I2,T,Pk,f2,q⟩:=h2;subst e;refine BL (Q:=fun v H' =>D.nx (σ.set i (some v)) H') (RR:=fun acc C=>compPost (model X.prog X.w) X.A X.xe (some (assign (.Name x pos') X.env)) (fun _ s' =>SP X pins D .next s') acc C) hc S hb I2 T Pk f2 q ?_;intro p C s' H' m IX q' hn hC hL h0 Ta hpn;show wpAny _ X.A (assign (.Name x pos') X.env (.ref p)) _ _ s';refine wpAny_assign_Name (BI (v:= .ref p) IX hN hi' hx rfl (fun Nw I'' ⟨a,sb,ha⟩=> ?_) hf)
 have hCa:C≠a:=by
  rcases ha with z|z
  ·rw[z];exact hL
  ·exact fun e=>Ta x a z e.symm
 refine⟨m,hn.sameBut sb hCa,fun h' sb' =>⟨σ.set i (some (.ref p)),H',?_,q'⟩⟩;exact I''.turned (t' :=Nw.toks) (fun b o hb e=>(sb'.2 b hb).trans e) hC hL (.inr h0) Ta hpn
end
noncomputable def cOk(osc:Scope)(ON N:ao)(scope:Scope)(k:Nat)(js:List Nat):Bool:=
 (scope.kind== .function)&&scope.names.all (fun y=> !(y.2== .cell))&&scope.names.all (fun y=> !(y.2== .local)||scope.names.lookup y.1==some .local)&&
 scope.names.all (fun y=> !(y.2== .free)||(osc.names.lookup y.1==some .cell||osc.names.lookup y.1==some .free))&&(N.length==k+js.length)&&
 (List.range js.length).all (fun i=>ON[js.getD i 0]? ==N[k+i]?)&&(N.drop k).all fun x=>scope.names.lookup x==some .free
theorem BV{X:Cx}{N:ao}{scope:Scope}{k:Nat}{js:List Nat}(h:cOk X.env.scope X.N N scope k js=true):nL X N scope k js:=by
 unfold cOk at h;simp only[gL] at h;obtain⟨⟨⟨⟨⟨⟨h1,h2⟩,h3⟩,h4⟩,h5⟩,h6⟩,h7⟩:=h;have h5:=eq_of_beq h5;rw[c_] at h2 h3 h4 h6 h7;refine⟨eq_of_beq h1,fun y hy e=> ?_,fun y hy e=> ?_,fun y hy e=> ?_,h5,fun i j e=> ?_,fun i x e=> ?_⟩
 ·have q:=h2 y hy;rw[e] at q;exact absurd q (by decide)
 ·have q:=h3 y hy;rw[e] at q;exact eq_of_beq (by simpa using q)
 ·have q:=h4 y hy;rw[e] at q;have q:(X.env.scope.names.lookup y.1==some .cell||X.env.scope.names.lookup y.1==some .free)=true:=by simpa using q
  rw[Bool.or_eq_true] at q;rcases q with q|q
  ·exact .inl (eq_of_beq q)
  ·exact .inr (eq_of_beq q)
 ·have hi:i<js.length:=(dq.mp e).1;have q:=eq_of_beq (h6 i (iA.mpr hi));rw[cy,e] at q;exact q
 ·refine eq_of_beq (h7 x ?_);rw[yl];exact⟨i,by rw[List.getElem?_drop];exact e⟩
section
variable{X:Cx}
theorem eB:iq X (.builtin "isinstance") (fun xs H Q=>∃x T t b,xs=[x,.ty T]∧vK X.K H x t∧kitOne X.K t (.type T)=some b∧Q (.bl b) H):=by
 intro pins s σ H xs us Q I r h;obtain⟨x,T,t,b,rfl,ty,e,q⟩:=h;obtain⟨u,c,rfl,ru,rc⟩:=jad r;cases rc;exact Ke I ru ty e fun tk=>⟨.bl b,H,I.tok tk,rfl,q⟩
noncomputable def adX:V→Option Int→Option Int→Hp→VK→Prop:=fun x lo hi H Q=>∃z,x= .str z∧z.length≤sizeLine∧Q (.str (Txt.slice z lo hi)) H
theorem Cu:SlR X adX:=by
 intro pins s σ H x v vl vu lo hi sl Q I rx hs pl pu h;obtain⟨z,rfl,hz,q⟩:=h;obtain⟨t,rfl⟩:=rx;refine⟨"str",_,F.slot_str_getitem.lookup,typeIs_str _ _ _,?_⟩
 have fin:∀{l u:Option (Int×Tok)},l.map (·.1)=lo→u.map (·.1)=hi→s.heap.IsSlice sl l u none→wpAny (model X.prog X.w) X.A (getItem (.str z t) (.ref sl)) (EP X pins σ Q) X.xe s:=fun{l u} el eu Jg=>by
  refine wpAny_getItem_str_slice (st:=none) Jg rfl ?_;have e:sliceMade z t l u none=sliceMade z t l u none:=rfl;subst el eu;exact post_val_or_str ⟨aR (Txt.slice_le z _ _) hz,fun t' k=>⟨.str (Txt.slice z _ _),H,I.tok k,⟨t',rfl⟩,q⟩⟩
 obtain⟨o,ho,hc,hd⟩:=hs
 cases pl with
 |none=>
  cases pu with
  |none=>exact fin (l:=none) (u:=none) rfl rfl ⟨o,ho,hc,hd⟩
  |int j uj=>exact fin (l:=none) (u:=some (j,uj)) rfl rfl ⟨o,ho,hc,hd⟩
 |int i ui=>
  cases pu with
  |none=>exact fin (l:=some (i,ui)) (u:=none) rfl rfl ⟨o,ho,hc,hd⟩
  |int j uj=>exact fin (l:=some (i,ui)) (u:=some (j,uj)) rfl rfl ⟨o,ho,hc,hd⟩
end
noncomputable def Zl(x:Str):It:=⟨fun i _=>i<x.length,fun i H v H' =>H' =H∧∃c,x.cps[i]? =some c∧v= .str ⟨#[c]⟩,fun i _=>x.length≤i⟩
theorem Fz{P:Program}{w:World}{K:Frag}{tg:Expr}{x:Str}{I:Addr}{St:Nat→Heap→Prop}(W:∀A:Around,A.handled=none→Walks P w A I [I] [I] x.cps.size (SignAt x) St)
 (Zu:∀i h,St i h→∃o,h.get? I=some o∧∀v,o.data≠.cell v) (ht:∀v,letOwnedTupleGo tg (.ref I) v=pure ())
 (aaA:∀(A:Around) (i:Nat) (s:Shared) (Q:Value→Shared→Prop) (E:Value→Shared→Prop),St i s.heap→Q (.ref I) s→wpAny (model P w) A (pyIter (.ref I)) Q E s):Turn P w K tg (Zl x) [I] I (fun i h=>i≤x.length∧St i h) where
 mem:=by simp
 obj:=fun i h st b hb=>by
  have e:b=I:=by simpa using hb
  subst e;exact Zu i h st.2
 keep:=fun i h h' st k=>⟨st.1,(W {handled:=none} rfl).frame i h h' st.2 k⟩
 item:=by
  intro X hP hw hK hc i pins s σ H E J hf st hg;subst hP hw hK;obtain⟨f0,f1,f2,f3,f4,f5⟩:=hf I (by simp);refine(W X.A (J.ok.hd hc)).item i s _ _ hg st.2 fun v h' tk hv N5 k=> ?_;have J1:Inv X pins σ H {s with heap:=h',toks:=tk}:=J.turned (fun b o hb e=>k b o (by simpa using hb) e) f0 f1 f3 f4 f5;obtain⟨c,u,hc',rfl⟩:=hv;exact⟨_,rfl,wpAny_of_eq (ht _) ⟨.str ⟨#[c]⟩,H,J1,⟨u,rfl⟩,⟨rfl,c,hc',rfl⟩,⟨hg,N5⟩,fun b hb=>(hf b hb).1⟩⟩
 done:=by
  intro X hP hw hK hc i pins s σ H E J hf st hg;subst hP hw hK;obtain⟨f0,f1,f2,f3,f4,f5⟩:=hf I (by simp);have e:i=x.cps.size:=Nat.le_antisymm st.1 hg;subst e;exact(W X.A (J.ok.hd hc)).done s _ _ st.2 fun h' tk k=>⟨rfl,J.turned (fun b o hb e=>k b o (by simpa using hb) e) f0 f1 f3 f4 f5⟩
 self:=fun A _ s Q E st h=>aaA A _ s Q E st.2 h
section
variable{X:Cx}{tg:Expr}
noncomputable def ad8(tl:TE):TI:=fun σ H R=>tl σ H fun x H1=>∃z,x= .str z∧R (Zl z) H1
theorem WQ{l:Expr}{tl:TE}(hl:PE X l tl)(hc:X.calm=true)(ht:∀it v,letOwnedTupleGo tg it v=pure ():=by intro _ _;rfl):PI X tg l (ad8 tl):=by
 intro pins s σ H R I h;refine ck (hl pins s σ H _ I h) fun v s1 ⟨x,H1,I1,r,z,e,q⟩=> ?_;subst e;obtain⟨t,rfl⟩:=r;cases ha:z.cps.all (· <128)
 ·refine wpAny_pyIter_wide ha ?_
  exact⟨_,[_],_,Zl z,H1,rfl,I1.kept (t' :=s1.toks) fun b u e=>a8 _ e,Fz (fun A' hA=>Walks.strWide hA _ z t) (fun i h st=>by
   obtain⟨o,ho,_,hd⟩:=st;exact⟨o,ho,fun v z=>by rw[hd] at z;cases z⟩) (ht _) (fun A _ s Q E st h=>wpAny_pyIter_striter_wide st h),⟨cN _,_,cg _ rfl,rfl,rfl⟩,fun b hb=>by
   have e:b=s1.heap.objs.size:=by simpa using hb
   subst e;exact I1.CH (aG _) (I1.bE.fresh (aG _)),q⟩
 ·refine wpAny_pyIter_ascii ha ?_
  exact⟨_,[_],_,Zl z,H1,rfl,I1.kept (t' :=s1.toks) fun b u e=>a8 _ e,Fz (fun A' hA=>Walks.strAscii hA _ z t) (fun i h st=>by
   obtain⟨o,ho,_,hd⟩:=st;exact⟨o,ho,fun v z=>by rw[hd] at z;cases z⟩) (ht _) (fun A _ s Q E st h=>wpAny_pyIter_striter_ascii st h),⟨cN _,_,cg _ rfl,rfl,rfl⟩,fun b hb=>by
   have e:b=s1.heap.objs.size:=by simpa using hb
   subst e;exact I1.CH (aG _) (I1.bE.fresh (aG _)),q⟩
end
section
variable{X:Cx}
theorem Fj:∀{bs:List Bool} {us:aD},Vals (bs.map V.bl) us→us=bs.map Value.bool
 |[],_,.nil=>rfl
 |b::bs,_,.cons r t=>by
  cases r;rw[Fj (bs:=bs) t];rfl
theorem jai{bs:List Bool}{f:Nat→Bool}(h:∀i b,bs[i]? =some b→f i=b):(List.range bs.length).all f=bs.all id:=by
 rw[me,c_,c_];constructor
 ·intro q b hb;obtain⟨i,hi⟩:=yl.mp hb;have hl:i<bs.length:=(dq.mp hi).1;rw[←h i b hi];exact q i (iA.mpr hl)
 ·intro q i hi;have hl:=iA.mp hi;rw[h i bs[i] (by simp[hl])];exact q _ (Dq hl)
theorem EI(hc:X.calm=true):iq X (.builtin "all") (fun xs H Q=>∃(a:Addr) (bs:List Bool),xs=[.ref a]∧H a=some (.lst (bs.map V.bl))∧Q (.bl (bs.all id)) H):=by
 intro pins s σ H xs us Q I r h;obtain⟨a,bs,rfl,ha,q⟩:=h;obtain⟨u,rfl,ru⟩:=xz r;cases ru;obtain⟨its,r,pl,hz⟩:=I.list (bF.of ha);have e:=Fj r;have iU:=I.bE.lt ha;have I1:Inv X pins σ H {s with heap:=s.heap.push {cls:= .type "list_iterator",data:= .fields #[.ref a,.int 0 0]}}:=I.kept (t' :=s.toks) fun b u e=>a8 _ e;refine call_all_walk (tX pl.isList ⟨_,_,_,_,_,_,fun i=>bs.getD i true,rfl,Walks.list (A:=X.A.in1) (I.ok.hd hc) _ a (bN iU) its.toArray,⟨⟨_,cg _ rfl,rfl,rfl⟩,pl.isList.push _⟩,?_,fun h' tk k=> ?_⟩)
 ·intro i v s' Q' E' hv hQ;rw[e] at hv;have hv:(bs.map Value.bool)[i]? =some v:=by simpa using hv
  rw[bj] at hv
  cases eb:bs[i]? with
  |none=>rw[eb] at hv;cases hv
  |some b=>
   rw[eb] at hv;cases hv;refine nr ?_;have e2:bs.getD i true=b:=by rw[cy,eb];rfl
   rw[←e2];exact hQ
 ·refine⟨.bl (bs.all id),H,I1.turned (fun b o hb e=>k b o (by simpa using hb) e) (I.bE.fresh (aG _)) (fun z=> ?_) (.inr I.sz) (fun x c e z=> ?_) (fun p hp z=> ?_),?_,q⟩
  ·exact absurd (z▸I.lt) (b7 _)
  ·obtain⟨v,o,ho,_⟩:=I.cell x c e;exact absurd (z▸aQ ho) (b7 _)
  ·obtain⟨ho,_⟩:=I.pin p hp;exact absurd (z▸aQ ho) (b7 _)
  ·show Value.bool _=Value.bool _;have e3:its.toArray.size=bs.length:=by rw[e];simp
   rw[e3,jai fun i b hb=>by rw[cy,hb];rfl]
noncomputable def Hd:ak→ak→Bool
 |[],[]=>true
 |x::xs,y::ys=>Dg x y&&Hd xs ys
 |_,_=>false
theorem zq:∀(xs ys:ak),xs.length=ys.length→(List.range xs.length).all (fun j=>Dg (xs.getD j .bx) (ys.getD j .bx))=Hd xs ys
 |[],[],_=>rfl
 |x::xs,y::ys,h=>by
  rw[aW,List.range_succ_eq_map,List.all_cons,yi];have h' :xs.length=ys.length:=by simpa using h
  rw[←(show(Dg x y&&Hd xs ys)=Hd (x::xs) (y::ys) from rfl),←zq xs ys h'];rfl
 |[],_::_,h=>by simp at h
 |_::_,[],h=>by simp at h
noncomputable def YX(neg:Bool):R2:=fun x y H Q=>∃a b xs ys,x= .ref a∧y= .ref b∧H a=some (.lst xs)∧H b=some (.lst ys)∧
 ((xs.length≠ys.length∧Q (.bl neg) H)∨(xs.length=ys.length∧xs.all kX=true∧ys.all kX=true∧Q (.bl (if neg then !Hd xs ys else Hd xs ys)) H))
theorem ES{xs:ak}{us:aD}{j:Nat}(r:Vals xs us)(f:xs.all kX=true)(hj:j<us.length):∃x,xs[j]? =some x∧RelV x us[j]∧kX x=true:=by
 have hl:=r.length;have hx:xs[j]? =some xs[j]:=by simp[hl,hj]
 obtain⟨u,hu,ru⟩:=r.get hx;have e:us[j]? =some us[j]:=by simp[hj]
 rw[e] at hu;cases hu;exact⟨_,hx,ru,c_.mp f _ (Dq _)⟩
theorem sA(hu:X.A.units<cLine):qp X (compareOp .Eq) (YX false):=by
 intro pins s σ H x y v u Q I rx ry h;obtain⟨a,b,xs,ys,rfl,rfl,ha,hb,h⟩:=h;cases rx;cases ry;obtain⟨its,r,pl,hz⟩:=I.list (bF.of ha);obtain⟨ra,r2,pl2,BZ⟩:=I.list (bF.of hb);have hl:=r.length;have kU:=r2.length;rcases h with⟨mq,q⟩|⟨he,f1,f2,q⟩
 ·exact SeqAt.eq_list_lengthsAt pl.isList pl2.isList (by simp;lia) hu ⟨.bl false,H,I,rfl,q⟩
 ·refine SeqAt.eq_listAt (e:=fun j=>Dg (xs.getD j .bx) (ys.getD j .bx)) pl.isList pl2.isList (by simp;lia) hu (fun j h1 h2=> ?_) ⟨.bl (Hd xs ys),H,I,?_,q⟩
  ·have h1:j<its.length:=by simpa using h1
   have h2:j<ra.length:=by simpa using h2
   obtain⟨x,e1,rx,fx⟩:=ES r f1 h1;obtain⟨y,e2,ry,fy⟩:=ES r2 f2 h2;have g1:xs.getD j .bx=x:=by rw[cy,e1];rfl
   have g2:ys.getD j .bx=y:=by rw[cy,e2];rfl
   show SeqAt.EqAt _ _ its.toArray[j] ra.toArray[j] (Dg (xs.getD j .bx) (ys.getD j .bx));rw[g1,g2];exact NI rx ry fx fy
  ·show Value.bool _=Value.bool _;rw[←zq xs ys he,bh,hl]
end
theorem aj.upd{H:Hp}{p:Addr}{o:HO}(h:H p=none):aj H (upd H p o):=fun b u e=>by
 rw[av (aw e h)];exact e
theorem aj.UC{K:Frag}{H H' :Hp}{a:Addr}{xs:ak}(e:aj H H')(h:bc K H a xs):bc K H' a xs:=by
 rcases h with(h|⟨o,h⟩)|h
 ·exact .inl (.inl (e _ _ h))
 ·exact .inl (.inr ⟨o,e _ _ h⟩)
 ·exact .inr h
structure xE(J:It)(H:Hp)(xs:ak):Prop where
 go:∀i H',aj H H'→i<xs.length→J.go i H'
 yO:∀i H' x fP,aj H H'→J.yO i H' x fP→fP =H'∧(i<xs.length→xs[i]? =some x)
 stop:∀i H',aj H H'→xs.length≤i→J.stop i H'
theorem Js(z:Str)(H:Hp):xE (Zl z) H (z.cps.toList.map fun c=>V.str ⟨#[c]⟩) where
 go:=fun i H' _ h=>by
  show i<z.cps.size;simpa using h
 yO:=fun i H' x fP _ h=>by
  obtain⟨e,c,hc,rfl⟩:=h;refine⟨e,fun _=> ?_⟩;rw[bj,Array.getElem?_toList,hc];rfl
 stop:=fun i H' _ h=>by
  show z.cps.size≤i;simpa using h
theorem dN{K:Frag}{a:Addr}{xs:ak}{H:Hp}(h:bF K H a xs):xE (UW K a) H xs where
 go:=fun i H' s hi=>⟨xs,xs[i],s.seq h,by simp[hi]⟩
 yO:=fun i H' x fP s q=>⟨q.1,fun _=>q.2 xs (s.seq h)⟩
 stop:=fun i H' s hi=>⟨xs,s.seq h,hi⟩
theorem qG{K:Frag}{a:Addr}{xs:ak}{H:Hp}(h:bc K H a xs):xE (U2 K a) H xs where
 go:=fun i H' s hi=>⟨xs,xs[i],s.UC h,by simp[hi]⟩
 yO:=fun i H' x fP s q=>⟨q.1,fun _=>q.2 xs (s.UC h)⟩
 stop:=fun i H' s hi=>⟨xs,s.UC h,hi⟩
theorem Fy(lo:Int)(n:Nat)(H:Hp):xE (Rn lo n) H ((List.range n).map fun(i:Nat)=>V.int (lo+(i:Int))) where
 go:=fun i H' _ h=>by
  show i<n;simpa using h
 yO:=fun i H' x fP _ q=>by
  obtain⟨e,rfl⟩:=q;refine⟨e,fun h=> ?_⟩;have h:i<n:=by simpa using h
  simp[bj,ql h]
 stop:=fun i H' _ h=>by
  show n≤i;simpa using h
theorem qm{J:It}{xs:ak}{k:Nat}{js:List Nat}{g:TG}{tt:TT}{te:TE}{σ:St}{H:Hp}{Q:VK}(pb:V→Bool)(fe:V→V)(F:xE J H xs)(hlen:xs.length≤sizeLine)
 (gu:∀(i:Nat) (x:V) (H' :Hp) (C1:V→Hp→Prop) (C0:Hp→Prop),xs[i]? =some x→aj H H'→(pb x=true→C1 (fe x) H')→(pb x=false→C0 H')→
  g x (xY k js σ) H' fun lU H2=>fz (xY k js σ) lU∧tt lU H2 fun b H3=>if b=true then te lU H3 C1 else C0 H3)
 (hq:∀p,H p=none→Q (.ref p) (upd H p (.lst ((xs.filter pb).map fe)))):
 mF J k js g tt te σ H Q:=by
 intro p hp;refine⟨fun i m ys H' =>m=xs.length - i∧i≤xs.length∧ys=((xs.take i).filter pb).map fe∧H' =upd H p (.lst ys),⟨xs.length,rfl,cN _,rfl,rfl⟩,?_⟩
 rintro i m ys H' ⟨rfl,hi,rfl,rfl⟩
 refine⟨aa,?_⟩;have hs:aj H (upd H p (.lst (((xs.take i).filter pb).map fe))):=aj.upd hp;by_cases iU:i<xs.length
 ·refine .inr ⟨F.go i _ hs iU,?_,fun x fP hy=> ?_⟩
  ·rw[aK];have h1:((xs.take i).filter pb).length≤(xs.take i).length:=sV _ _;rw[gG] at h1
   lia
  ·obtain⟨rfl,hx⟩:=F.yO i _ x fP hs hy;have hx:=hx iU;have et:(xs.take (i+1)).filter pb=(xs.take i).filter pb++(if pb x=true then[x] else[]):=PySem.take_succ_filter pb xs i x hx;refine gu i x _ _ _ hx hs (fun hb=>⟨aa,xs.length - (i+1),by lia,rfl,iU,?_,?_⟩) (fun hb=>⟨xs.length - (i+1),by lia,rfl,iU,?_,rfl⟩)
   ·rw[et,aA hb,fJ];rfl
   ·rw[Ov]
   ·rw[et,hb];simp
 ·have e:i=xs.length:=by lia
  subst e;refine .inl ⟨F.stop _ _ hs (aG _),?_⟩;rw[fK];exact hq p hp
noncomputable def Ite(K:Frag)(a:Addr):It:=
 ⟨fun i H=>∃xs x,bF K H a xs∧xs[i]? =some x,fun i H v H' =>∃T x,v= .ref T∧H T=none∧H' =upd H T (.tup [.int i,x])∧∀xs,bF K H a xs→xs[i]? =some x,fun i H=>∃xs,bF K H a xs∧xs.length≤i⟩
theorem Kh{P:Program}{w:World}{K:Frag}{elts:cu}{kt:Nat}{pt:Pos}(a e it:Addr)(hei:e≠it):Turn P w K (.Tuple elts kt pt) (Ite K a) [e,it] e (fun i h=>(∃old,IsEnum h e it i old)∧h.IsListIter it a i) where
 mem:=by simp
 obj:=fun i h st b hb=>by
  obtain⟨⟨old,he⟩,o,ho,c,d⟩:=st;have hb:b=e∨b=it:=by simpa using hb
  rcases hb with rfl|rfl
  ·exact⟨_,he,fun v z=>by cases z⟩
  ·exact⟨o,ho,fun v z=>by rw[d] at z;cases z⟩
 keep:=fun i h h' st k=>by
  obtain⟨⟨old,he⟩,hit⟩:=st;exact⟨⟨old,k e (by simp) _ he⟩,hit.at fun o x=>k it (by simp) o x⟩
 item:=by
  intro X hP hw hK hc i pins s σ H E I hf st hg;subst hP hw hK;obtain⟨xs,x,hq,hx⟩:=hg;obtain⟨its,rv,p,hz⟩:=I.list hq;obtain⟨u,hu,ru⟩:=rv.get hx;obtain⟨⟨old,he⟩,hit⟩:=st;obtain⟨f0,f1,f2,f3,f4,f5⟩:=hf e (by simp);obtain⟨g0,g1,g2,g3,g4,g5⟩:=hf it (by simp);have abN:e<s.heap.objs.size:=aQ he;have acG:it<s.heap.objs.size:=by obtain⟨_,x,_⟩:=hit;exact aQ x
  refine wpAny_pyNext_enum_item he hit p.isList (x:=u) (by simpa using hu) hei fun h' ho Kg hT hsz hk=> ?_;refine⟨.ref s.heap.objs.size,rfl,?_⟩;refine wpAny_letOwnedTupleGo_enum ho fun h'' ace Ve => ?_;have WS:H s.heap.objs.size=none:=I.bE.fresh (aG _);have N8:s.heap.objs.size≠e:=hU abN;have kk:∀b o,b≠e→b≠it→s.heap.get? b=some o→h''.get? b=some o:=fun b o AS hbi q=>(Ve.2 b AS).trans (hk b o AS hbi q);have acQ :h''.get? s.heap.objs.size=some {cls:= .type "tuple",data:= .seq #[.int i s.toks,u]}:=(Ve.2 _ N8).trans hT;have mq:∀b u,H b=some u→b≠e∧b≠it:=fun b u q=>⟨(fun z=>by rw[z,f0] at q;cases q),(fun z=>by rw[z,g0] at q;cases q)⟩
  have I2:Inv X pins σ (upd H s.heap.objs.size (.tup [.int i,x])) {s with heap:=h'',toks:=s.toks+1}:=by
   have new:bI X.prog X.w (upd H s.heap.objs.size (.tup [.int i,x])) h'' s.heap.objs.size (.tup [.int i,x]):=⟨(show 2≤sizeLine by decide),[.int i s.toks,u],.cons ⟨_,rfl⟩ (.cons ru .nil),⟨_,acQ,rfl,_,rfl⟩⟩
   refine I.step (g' :=s.gens) (d' :=s.drawn) (ch:=[e,it]) (fun b hb=> ?_) (fun b o _ _ hc q _=>kk b o (fun z=>hc (by simp[z])) (fun z=>hc (by simp[z])) q) (fun b o _ _ hc q _=>⟨o.slots,kk b o (fun z=>hc (by simp[z])) (fun z=>hc (by simp[z])) q⟩)
    (fun b o _ q n=> ?_) (fun b o hc q=>⟨o,kk b o (fun z=>hc (by simp[z])) (fun z=>hc (by simp[z])) q⟩) (fun b ys q=> ?_) (fun b o ys q=> ?_) (fun b ps q=>⟨#[],?_⟩) (fun m hm=> ?_) (fun b u q=> ?_) I.bare
   ·have hb:b=e∨b=it:=by simpa using hb
    rcases hb with rfl|rfl
    ·exact⟨f3,f1,f4,f5⟩
    ·exact⟨g3,g1,g4,g5⟩
   ·rw[av (bN (aQ q))];exact n
   ·rw[av (aw q WS)];exact q
   ·rw[av (aw q WS)];exact q
   ·rw[av (aw q WS),q];simp
   ·obtain⟨o,es,ep,q,r⟩:=hm;exact⟨o,es,ep,kk _ o (bK f1) (bK g1) q,r⟩
   ·by_cases hb:b=s.heap.objs.size
    ·subst hb;rw[aa] at q;cases q;exact new
    ·rw[av hb] at q;refine(I.bE b u q).xT (fun c v hc q' =>kk c v ?_ ?_ q') (fun c q' => ?_) fun c ys q' => ?_
     ·rcases hc with z|z
      ·rw[z];exact(mq b u q).1
      ·exact(mq c _ z).1
     ·rcases hc with z|z
      ·rw[z];exact(mq b u q).2
      ·exact(mq c _ z).2
     ·rw[av (aw q' WS)];exact q'
     ·rw[av (aw q' WS)];exact q'
  refine⟨.ref s.heap.objs.size,_,I2,rfl,⟨_,x,rfl,WS,rfl,fun ys hy=>by rw[I.Ek hy hq];exact hx⟩,⟨⟨_,by simpa using ace⟩,Kg.at fun o q=>(Ve.2 it hei.symm).trans q⟩,fun b hb=> ?_⟩;have hb:b=e∨b=it:=by simpa using hb
  rcases hb with rfl|rfl
  ·rw[av (bK N8)];exact f0
  ·rw[av (bN acG)];exact g0
 done:=by
  intro X hP hw hK hc i pins s σ H E I hf st hg;subst hP hw hK;obtain⟨xs,hq,hx⟩:=hg;obtain⟨its,rv,p,hz⟩:=I.list hq;obtain⟨⟨old,he⟩,hit⟩:=st;obtain⟨g0,g1,g2,g3,g4,g5⟩:=hf it (by simp);have hl:=rv.length;exact wpAny_pyNext_enum_end (I.ok.hd hc) he hit p.isList (by simp;omega) fun h' eb=>⟨rfl,I.turned (t' :=s.toks) (fun b o hb e=>eb b o hb e) g0 g1 g3 g4 g5⟩
 self:=fun _ _ _ _ _ st h=>by
  obtain⟨⟨old,he⟩,_⟩:=st;exact wpAny_pyIter_enum he h
section
variable{X:Cx}{tg:Expr}
noncomputable def X9(K:Frag)(ta:TA):TI:=fun σ H R=>ta σ H fun vs H1=>∃a xs,vs=[.ref a]∧H1 a=some (.lst xs)∧R (Ite K a) H1
theorem vo{a:Expr}{ta:TA}{p pos:Pos}{elts:cu}{kt:Nat}{pt:Pos}(hg:Gl X "enumerate")(hm:X.mg "enumerate"=none)(ha:PA X [a] ta)(hs:starEach [a] X.env=[(false,eval a X.env)]:=by rfl):
 PI X (.Tuple elts kt pt) (.Call (.Name "enumerate" p) [a] [] pos) (X9 X.K ta):=by
 intro pins s σ H R I h;refine Call_ (pE I hg hm Boot.«enumerate» (Aq (ck (ha pos pins s σ H _ I h) fun us s1 ⟨vs,H1,I1,r1,q1⟩=> ?_) hs rfl));obtain⟨l,xs,e,hq,q⟩:=q1;subst e;obtain⟨u,rfl,ru⟩:=xz r1;cases ru;obtain⟨its,n,rv,ho,hz⟩:=I1.lst hq;refine call_enumerate_1 ho fun h' he hit hsz hk=> ?_;have I2:Inv X pins σ H1 {s1 with heap:=h'}:=I1.kept (t' :=s1.toks) hk;refine wpAny_pyIter_enum (s:={s1 with heap:=h'}) he ?_;refine⟨s1.heap.objs.size+1,[s1.heap.objs.size+1,s1.heap.objs.size],_,_,H1,rfl,I2,Kh l _ _ (Nat.succ_ne_self _),⟨⟨_,he⟩,hit⟩,fun b hb=> ?_,q⟩;have hb:b=s1.heap.objs.size+1∨b=s1.heap.objs.size:=by simpa using hb
 rcases hb with rfl|rfl
 ·exact I1.CH (lJ _) (I1.bE.fresh (lJ _))
 ·exact I1.CH (aG _) (I1.bE.fresh (aG _))
end
structure zY(J:It)(H:Hp)(n:Nat)(Y:Nat→V→Hp→Prop):Prop where
 go:∀i H',aj H H'→i<n→J.go i H'
 yO:∀i H' x fP,aj H H'→i<n→J.yO i H' x fP→aj H' fP∧Y i x fP
 stop:∀i H',aj H H'→n≤i→J.stop i H'
theorem xE.g{J:It}{H:Hp}{xs:ak}(F:xE J H xs):zY J H xs.length (fun i x _=>xs[i]? =some x) where
 go:=F.go
 yO:=fun i H' x fP s hi h=>by
  obtain⟨e,q⟩:=F.yO i H' x fP s h;exact⟨e▸aj.refl H',q hi⟩
 stop:=F.stop
theorem yX{K:Frag}{a:Addr}{xs:ak}{H:Hp}(h:bF K H a xs):zY (Ite K a) H xs.length (fun i x H' =>∃T y,x= .ref T∧H' T=some (.tup [.int i,y])∧xs[i]? =some y) where
 go:=fun i H' s hi=>⟨xs,xs[i],s.seq h,by simp[hi]⟩
 yO:=fun i H' x fP s hi q=>by
  obtain⟨T,y,rfl,hT,rfl,hy⟩:=q;exact⟨aj.upd hT,T,y,rfl,aa,hy xs (s.seq h)⟩
 stop:=fun i H' s hi=>⟨xs,s.seq h,hi⟩
theorem gc{J:It}{n k:Nat}{js:List Nat}{Y:Nat→V→Hp→Prop}{g:TG}{tt:TT}{te:TE}{σ:St}{H:Hp}{Q:VK}(pb:Nat→Bool)(fe:Nat→V)(F:zY J H n Y)(hlen:n≤sizeLine)
 (gu:∀(i:Nat) (x:V) (H' :Hp) (C1:V→Hp→Prop) (C0:Hp→Prop),i<n→aj H H'→Y i x H'→(pb i=true→∀fP,aj H' fP→C1 (fe i) fP)→(pb i=false→∀fP,aj H' fP→C0 fP)→
  g x (xY k js σ) H' fun lU H2=>fz (xY k js σ) lU∧tt lU H2 fun b H3=>if b=true then te lU H3 C1 else C0 H3)
 (hq:∀p H',H p=none→aj H H'→H' p=some (.lst (((List.range n).filter pb).map fe))→Q (.ref p) H'):
 mF J k js g tt te σ H Q:=by
 intro p hp;refine⟨fun i m ys H' =>m=n - i∧i≤n∧ys=((List.range i).filter pb).map fe∧H' p=some (.lst ys)∧aj H H',⟨n,rfl,cN _,rfl,aa,aj.upd hp⟩,?_⟩
 rintro i m ys H' ⟨rfl,hi,rfl,hl,hs⟩
 refine⟨hl,?_⟩;by_cases iU:i<n
 ·refine .inr ⟨F.go i _ hs iU,?_,fun x fP hy=> ?_⟩
  ·rw[aK];have h1:((List.range i).filter pb).length≤(List.range i).length:=sV _ _;rw[lV] at h1;omega
  ·obtain⟨s1,y1⟩:=F.yO i _ x fP hs iU hy
   have et:(List.range (i+1)).filter pb=(List.range i).filter pb++(if pb i=true then[i] else[]):=by
    rw[Dc,qj];cases hb:pb i<;>simp[hb]
   refine gu i x fP _ _ iU (hs.trans s1) y1 (fun hb H3 s3=>⟨s3 _ _ (s1 _ _ hl),n - (i+1),by omega,rfl,iU,?_,aa,?_⟩) (fun hb H3 s3=>⟨n - (i+1),by omega,rfl,iU,?_,s3 _ _ (s1 _ _ hl),(hs.trans s1).trans s3⟩)
   ·rw[et,aA hb,fJ];rfl
   ·intro c o e;rw[av (aw e hp)];exact s3 _ _ (s1 _ _ (hs _ _ e))
   ·rw[et,hb];simp
 ·have e:i=n:=by omega
  subst e;exact .inl ⟨F.stop _ _ hs (aG _),hq p H' hp hs hl⟩
mutual
inductive Dat (H:Hp):V→PyData→Prop
 |bx:Dat H .bx .none
 |bl (b:Bool):Dat H (.bl b) (.bool b)
 |int (i:Int):Dat H (.int i) (.int i)
 |str (x:Str):Dat H (.str x) (.str x)
 |lst {a:Addr} {xs:ak} {ds:List PyData} (e:H a=some (.lst xs)) (h:DatAll H xs ds):Dat H (.ref a) (.list ds)
 |tup {a:Addr} {xs:ak} {ds:List PyData} (e:H a=some (.tup xs)) (h:DatAll H xs ds):Dat H (.ref a) (.tuple ds)
inductive DatAll (H:Hp):ak→List PyData→Prop
 |nil:DatAll H [] []
 |cons {x:V} {xs:ak} {d:PyData} {ds:List PyData} (h:Dat H x d) (t:DatAll H xs ds):DatAll H (x::xs) (d::ds)
end
mutual
theorem Dat.reads{P:Program}{w:World}{H:Hp}{h:Heap}(ok:m8 P w H h):∀{v:V} {d:PyData} {u:Value},Dat H v d→RelV v u→(∃as,Reads h u d as)∧d.hasDict=false
 |_,_,_,.bx,r=>by cases r;exact⟨⟨_,.none⟩,by simp only[PyData.hasDict]⟩
 |_,_,_,.bl b,r=>by cases r;exact⟨⟨_,.bool b⟩,by simp only[PyData.hasDict]⟩
 |_,_,_,.int i,r=>by obtain⟨t,rfl⟩:=r;exact⟨⟨_,.int i t⟩,by simp only[PyData.hasDict]⟩
 |_,_,_,.str x,r=>by obtain⟨t,rfl⟩:=r;exact⟨⟨_,.str x t⟩,by simp only[PyData.hasDict]⟩
 |_,_,_,.lst e hd,r=>by
  cases r;obtain⟨z,its,n,rv,ho⟩:=(show bI P w H h _ (.lst _) from ok _ _ e);obtain⟨⟨as,q⟩,hh⟩:=DatAll.reads ok hd rv;exact⟨⟨_,.list ho rfl rfl (by simpa using q)⟩,by simp only[PyData.hasDict];exact hh⟩
 |_,_,_,.tup e hd,r=>by
  cases r;obtain⟨z,its,rv,o,ho,hc,n,Xy⟩:=(show bI P w H h _ (.tup _) from ok _ _ e);obtain⟨⟨as,q⟩,hh⟩:=DatAll.reads ok hd rv;exact⟨⟨_,.tuple ho hc Xy (by simpa using q)⟩,by simp only[PyData.hasDict];exact hh⟩
theorem DatAll.reads{P:Program}{w:World}{H:Hp}{h:Heap}(ok:m8 P w H h):∀{xs:ak} {ds:List PyData} {us:aD},DatAll H xs ds→Vals xs us→(∃as,ReadsAll h us ds as)∧PyData.hasDictAll ds=false
 |_,_,_,.nil,.nil=>⟨⟨_,.nil⟩,by simp only[PyData.hasDictAll]⟩
 |_,_,_,.cons hd t,.cons r rr=>by
  obtain⟨⟨as,q⟩,h1⟩:=Dat.reads ok hd r;obtain⟨⟨bs,q'⟩,h2⟩:=DatAll.reads ok t rr;exact⟨⟨_,.cons q q'⟩,by simp only[PyData.hasDictAll,h1,h2,Bool.or_self]⟩
end
mutual
theorem Dat.same{H H' :Hp}(s:aj H H'):∀{v:V} {d:PyData},Dat H v d→Dat H' v d
 |_,_,.bx=> .bx
 |_,_,.bl b=> .bl b
 |_,_,.int i=> .int i
 |_,_,.str x=> .str x
 |_,_,.lst e h=> .lst (s _ _ e) (DatAll.same s h)
 |_,_,.tup e h=> .tup (s _ _ e) (DatAll.same s h)
theorem DatAll.same{H H' :Hp}(s:aj H H'):∀{xs:ak} {ds:List PyData},DatAll H xs ds→DatAll H' xs ds
 |_,_,.nil=> .nil
 |_,_,.cons h t=> .cons (Dat.same s h) (DatAll.same s t)
end
section
variable{X:Cx}
theorem dB(hg:X.A.guards=some [])(hu:X.A.units+100<cLine):iq X (.builtin "repr") (fun xs H Q=>∃v d,xs=[v]∧Dat H v d∧d.showable=true∧d.depth≤90∧d.shown.length≤sizeLine∧Q (.str d.shown) H):=by
 intro pins s σ H xs us Q I r h;obtain⟨v,d,rfl,hd,hs,Xi,hz,q⟩:=h;obtain⟨u,rfl,ru⟩:=xz r;have flat:∀{h' :Heap} {tk:Nat} (t:Tok),(∀b o,s.heap.get? b=some o→h'.get? b=some o)→EP X pins σ Q (.str d.shown t) {s with heap:=h',toks:=tk}:=fun{h' tk} t k=>⟨.str d.shown,H,I.kept k,⟨t,rfl⟩,q⟩;obtain⟨⟨as,rd⟩,nd⟩:=hd.reads I.bE ru
 cases hd with
 |bx=>cases ru;exact PySem.P.repr_of_none (flat _ fun _ _ e=>e)
 |bl b=>cases ru;exact PySem.P.repr_of_bool (by have:=flat (h' :=s.heap) (tk:=s.toks+1) s.toks fun _ _ e=>e;simpa only[PyData.shown] using this)
 |int i=>
  obtain⟨t,rfl⟩:=ru;have Ou :i.natAbs.log2<1920:=by simpa[PyData.showable] using hs
  exact PySem.P.repr_of_int Ou (by have:=flat (h' :=s.heap) (tk:=s.toks+1) s.toks fun _ _ e=>e;simpa only[PyData.shown] using this)
 |str x=>
  obtain⟨t,rfl⟩:=ru;refine PySem.P.repr_of_str (by have:=flat (h' :=s.heap) (tk:=s.toks+1) s.toks fun _ _ e=>e;simpa only[PyData.shown] using this) (by simpa only[PyData.shown] using hz)
 |lst e hx=>
  cases ru;exact tW rd hs (PyData.noDict_hsm nd) hg (by lia) (fun _ _ e=>e) (fun h' t tk k=>flat t k) hz
 |tup e hx=>
  cases ru;exact tW rd hs (PyData.noDict_hsm nd) hg (by lia) (fun _ _ e=>e) (fun h' t tk k=>flat t k) hz
end
section
variable{X:Cx}{e Xw:Expr}{te ts:TE}{pos p2:Pos}
end
section
variable{prog:Program}{w:World}{A:Around}{E:Value→Shared→Prop}{s:Shared}
end
section
variable{X:Cx}{e:Expr}{ta:TA}{p p' pos pos' :Pos}
end
section
variable{X:Cx}{K:Frag}
theorem Ma(hK:X.K=K):VH X (VJ K):=hK▸a7
theorem yL(hK:X.K=K):VH X (ZL K):=hK▸aX
theorem rY(hK:X.K=K):qp X (compareOp .NotIn) (rIn K true):=hK▸fZ
theorem uA{es:cu}{k:Nat}{t:Ua}{n:Nat}{pos:Pos}(hK:X.K=K)(hc:X.calm=true)(h:X2 X es t)(hn:(assignEach es X.env).length=n)(mv:(assignEach es X.env).findIdx? (·.1)=none):PG X (.Tuple es k pos) (XD K n t):=hK▸lX hc h hn mv
end
section
variable{X:Cx}{tg:Expr}
end
section
variable{X:Cx}{tg:Expr}
end
section
variable{X:Cx}{pins:aJ}{σ:St}{H:Hp}{s:Shared}{h' :Heap}
end
section
variable{X:Cx}{tg:Expr}
theorem JO(n l1 l2:Nat)(h1:l1<n)(h2:l2<n):ZipApart (n+4) (n+2) (n+3) n (n+1) l1 l2:=by
 constructor<;>(intro z;(have z' :(_:Nat)=_:=z);lia)
end
structure SV(K:Frag)(C:Addr)(m:Str)(f:Addr):Prop where
 sp:PySem.W.specialIn K (.ref C) "__getattribute__"=some (some (.builtin "type.__getattribute__"))
 rd:PySem.W.readsIn K C (.type "type")=true
 at_:findCls K (.ref C) (.type "type") m=some (.val (.ref f))
 kp:PySem.W.keepIn K (.ref f)=true
section
variable{X:Cx}{CX:tD}{k:Nat}{f C:Addr}{fd:FuncData}{ps:ao}{sp:Sp}{dvs:ak}{ds:aD}{E:XK}{x m:Str}{p pos apos:Pos}{e:Expr}{es:cu}{t:TA}
theorem kf{pl:Sem Bool}(c:SV X.K C m f)(hg:Gl X x)(hm:X.mg x=some (.ref C))(F:aM X.prog X.w X.K X.mg X.base CX k f fd ps sp)(hr:cZ k X.A)(hb:Binds X.K fd ps ds)(hd:Vals dvs ds)(hx:wn CX X E)(ha:PA X (e::es) t)
 (se:(x==("__debug__" :Str))=false:=by decide) (mv:starEach (e::es) X.env=(false,eval e X.env)::starEach es X.env:=by rfl) (jN:(backTo pos (starEach es X.env)).any (·.1)=false:=by rfl)
 (ht:eval (.Call (.Attribute (.Name x p) m apos) (e::es) [] pos) X.env=(do
  let ov←eval (.Name x p) X.env
  standAt apos.atName
  let(f,first)←holding [ov] (getMethod ov m pl)
  callWith pos f first (backTo pos (starEach (e::es) X.env)) (backToKw pos (keywordEach [] X.env))):=by rfl):
 PE X (.Call (.Attribute (.Name x p) m apos) (e::es) [] pos) (HB sp dvs E t):=by
 intro pins s σ H Q I h;refine qE (pl:=pl) (jE I hg hm ?_ se) ht;refine PySem.W.method_cls I.je c.sp (PySem.W.cls_value I.je c.rd c.at_ rfl ?_);refine o6 (first:=[]) (h₀:=X.base) I.ok.mod.tp c.kp (ck (ha pos pins _ σ H _ (I.tok _) h) fun us s2 ⟨vs,H2,I2,r,q2⟩=>⟨I2.je,?_⟩) mv jN;exact wB F hr hb hd hx I2 r q2
end
section
variable{X:Cx}{o e f:Expr}{apos gx:Pos}{td ty tx:TE}
end
section
variable{X:Cx}
theorem Ir:∀(ns:List Int) (i:Nat),PySem.preSum (fun j=>ns.getD j 0) i=(ns.take i).sum
 |ns,0=>by simp[PySem.preSum]
 |ns,i+1=>by
  show PySem.preSum (fun j=>ns.getD j 0) i+ns.getD i 0=_;rw[Ir ns i,qD,List.sum_append]
  cases e:ns[i]? with
  |none=>simp[cy,e]
  |some v=>simp[cy,e]
theorem zu(hc:X.calm=true):iq X (.builtin "sum") (fun xs H Q=>∃(a:Addr) (ns:List Int),xs=[.ref a]∧H a=some (.lst (ns.map V.int))∧ns.length≤2000∧(∀n∈ns,0≤n∧n≤1000000)∧Q (.int ns.sum) H):=by
 intro pins s σ H xs us Q I r h;obtain⟨a,ns,rfl,ha,hl,hb,q⟩:=h;obtain⟨u,rfl,ru⟩:=xz r;cases ru;obtain⟨its,r,pl,hz⟩:=I.list (bF.of ha);have hlen:=r.length;rw[aK] at hlen;have iU:=I.bE.lt ha;have I1:Inv X pins σ H {s with heap:=s.heap.push {cls:= .type "list_iterator",data:= .fields #[.ref a,.int 0 0]}}:=I.kept (t' :=s.toks) fun b u e=>a8 _ e
 have aac:∀j,0≤ns.getD j 0∧ns.getD j 0≤1000000:=fun j=>by
  rw[cy]
  cases e:ns[j]? with
  |none=>simp
  |some v=>exact hb v (bJ e)
 have aci:∀j,0≤PySem.preSum (fun j=>ns.getD j 0) j∧PySem.preSum (fun j=>ns.getD j 0) j≤1000000*(j:Int):=by
  intro j
  induction j with
  |zero=>simp[PySem.preSum]
  |succ j ih=>
   have:=aac j;show 0≤PySem.preSum (fun j=>ns.getD j 0) j+ns.getD j 0∧PySem.preSum (fun j=>ns.getD j 0) j+ns.getD j 0≤_
   push_cast
   lia
 refine call_sum_walk (tX pl.isList ⟨_,_,_,_,_,_,fun i=>ns.getD i 0,rfl,Walks.list (A:=X.A.in1) (I.ok.hd hc) _ a (bN iU) its.toArray,⟨⟨_,cg _ rfl,rfl,rfl⟩,pl.isList.push _⟩,?_,?_,?_,fun h' tk t' k=> ?_⟩)
 ·intro b Fq;have Fq :b=s.heap.objs.size∨b=a:=by simpa using Fq
  show b<(s.heap.push _).objs.size;rw[jr];rcases Fq with rfl|rfl
  ·exact yP _
  ·exact Nat.lt_succ_of_lt iU
 ·intro i v hv;have hv:its[i]? =some v:=by simpa using hv
  have hi:i<its.length:=(dq.mp hv).1;have hx:(ns.map V.int)[i]? =some (V.int ns[i]):=by simp[show i<ns.length by lia]
  obtain⟨u,hu,t,rfl⟩:=r.get hx;rw[hv] at hu;cases hu;refine⟨t,?_⟩;dsimp only;rw[cy,yM (by lia)];rfl
 ·intro j hj;have hj:j<its.length:=by simpa using hj
  have h1:=aac j;have h2:=aci (j+1)
  push_cast at h2
  unfold PySem.InLong;dsimp only;refine⟨?_,?_⟩<;>(constructor<;>lia)
 ·refine⟨.int ns.sum,H,I1.turned (fun b o hb e=>k b o (by simpa using hb) e) (I.bE.fresh (aG _)) (fun z=> ?_) (.inr I.sz) (fun x c e z=> ?_) (fun p hp z=> ?_),⟨t',?_⟩,q⟩
  ·exact absurd (z▸I.lt) (b7 _)
  ·obtain⟨v,o,ho,_⟩:=I.cell x c e;exact absurd (z▸aQ ho) (b7 _)
  ·obtain⟨ho,_⟩:=I.pin p hp;exact absurd (z▸aQ ho) (b7 _)
  ·rw[Ir,bh,←hlen,fK]
end
section
variable{X:Cx}{e:Expr}{ta:TA}{p pos p' pos' :Pos}
end
section
variable{X:Cx}{e lo Xw:Expr}{te tl ts:TE}{pos p2:Pos}
end
section
variable{X:Cx}{pins:aJ}{σ:St}{H:Hp}{s:Shared}{d:Addr}{a6:dE}
end
theorem ZO{P:Program}{w:World}{k:ww}{u:Value}(h:(cb P w).is k u=true):RelV (kV k) u:=by
 have h:mE k u=true:=h
 cases k with
 |inl i=>
  cases u with
  |int j t=>
   have:j=i:=by simpa[mE,Value.isInt] using h
   subst this;exact⟨t,rfl⟩
  |_=>simp[mE,Value.isInt] at h
 |inr x=>
  cases u with
  |str y t=>
   have:y=x:=by simpa[mE,Value.isStrOf] using h
   subst this;exact⟨t,rfl⟩
  |_=>simp[mE,Value.isStrOf] at h
theorem U0{a6:dE}{vs:List (ww×Value)}(r:KV a6 vs):∀{i:Nat} {p:ww×V} {k:ww} {x:Value},a6[i]? =some p→vs[i]? =some (k,x)→p.1=k:=by
 unfold KV at r
 induction r with
 |nil=>intro i p k x h;simp at h
 | @cons a b as bs h t ih=>
  intro i p k x h1 h2
  cases i with
  |zero=>
   simp at h1 h2;subst h1 h2;exact h.1
  |succ i=>exact ih (by simpa using h1) (by simpa using h2)
section
variable{X:Cx}{tg e:Expr}{te:TE}
end
structure Ks(h:Heap)(e T:Addr)(oe:Obj):Prop where
 at_:h.get? e=some oe
 fs:∃vs,oe.data= .fields vs∧vs[1]? =some (.ref T)
 ne:T≠e
 tr:∃oT ts,h.get? T=some oT∧oT.data= .fields ts∧ts[3]? =some .none
section
variable{M:Model}{A:Around}{E:Value→Shared→Prop}{s:Shared}
theorem qJ{base:Heap}{env:Env}{outer:List Env}{L e:Addr}{oe:Obj}{vs:Array Value}{head:Value}{Pl:Bool}{Q:Unit→Shared→Prop}
 (sE:A.frames=some (env::outer)) (hl:s.heap.FunFrames base (env::outer)) (hf:env.frame=some L)
 (he:s.heap.get? e=some oe) (hd:oe.data= .fields vs) (hsz:1<vs.size)
 (h:∀h' T,s.heap.objs.size≤T→Ks h' e T (oe.mapFields (·.setIfInBounds 1 (.ref T)))→(∀b o,b≠e→b∉(env::outer).filterMap (·.frame)→s.heap.get? b=some o→h'.get? b=some o)→
  (∀b o,b≠e→s.heap.get? b=some o→∃sl,h'.get? b=some {o with slots:=sl})→Q () {s with heap:=h'}):
 wpAny M A (do let a←frameOf env;let pl←entryPlaceOf L Pl;let b←EntryCells.newEntry head a .none (rawInt L) .none pl;setField (.ref e) 1 b) (fun _ s' =>wpAny M A (setFlight (.ref e) none) Q E s') E s:=by
 have ab4:e∉(env::outer).filterMap (·.frame):=fun hm=>by
  obtain⟨_,o,ho,Ol⟩:=hl.mem hm
  rw[he] at ho;injection ho with ho;subst ho;exact Ol vs hd
 refine ah (wpAny_frameOf_fun sE hl hf fun h₁ dX=> ?_);refine ah (wpAny_entryPlaceOf fun pl jN=> ?_);unfold EntryCells.newEntry newFields;refine ah (gm ?_ (jN.sizeOk5 _ _ _ _ _));have T_:h₁.get? e=some oe:=(dX.2.1 e ab4).trans he;have Tp:=a8 (h:=h₁) {cls:= .type "traceback",dict:=none,data:= .fields ([head,.ref L,.none,rawInt L,.none]++(if pl.isEmpty then List.replicate 6 Value.none else pl)).toArray} T_;refine nB Tp hd hsz ?_;have N8:h₁.objs.size≠e:=hU (aQ T_);have LJ:=n_ hd (·.setIfInBounds 1 (Value.ref h₁.objs.size));have HA:=jk (Obj.mapFields (·.setIfInBounds 1 (Value.ref h₁.objs.size))) Tp (z8 LJ)
 have S_:=(fL (h₁.push {cls:= .type "traceback",dict:=none,data:= .fields ([head,.ref L,.none,rawInt L,.none]++(if pl.isEmpty then List.replicate 6 Value.none else pl)).toArray})
  (Obj.mapFields (·.setIfInBounds 1 (Value.ref h₁.objs.size))) (bK N8)).trans (cg h₁ rfl)
 unfold setFlight;refine ah (cc HA LJ (x:= .ref h₁.objs.size) (by simp[hsz]) ?_);rw[aA (show(Value.ref h₁.objs.size !=Value.none)=true from by simp)];refine nB S_ rfl (by simp only[bh,ba,aW,jh]<;>lia) (h _ h₁.objs.size ?_ ?_ ?_ ?_)
 ·rw[dX.1];exact aG _
 ·refine⟨?_,⟨_,LJ,by simp[hsz]⟩,N8,_,_,jk _ S_ (z8 (n_ rfl _)),n_ rfl _,by first|(simp;done)|(rcases jN with rfl|⟨_,_,_,_,_,_,_,rfl⟩<;>simp)⟩;rw[fL _ _ N8];exact HA
 ·intro b o AS WH hb;have E_:=(dX.2.1 b WH).trans hb;have GZ:h₁.objs.size≠b:=hU (aQ E_);rw[fL _ _ GZ,fL _ _ (bK AS)];exact a8 _ E_
 ·intro b o AS hb;obtain⟨sl,E_⟩:=dX.2.2 b o hb;have GZ:h₁.objs.size≠b:=hU (aQ E_);refine⟨sl,?_⟩;rw[fL _ _ GZ,fL _ _ (bK AS)];exact a8 _ E_
theorem EV{base:Heap}{env:Env}{outer:List Env}{L e:Addr}{oe:Obj}{vs:Array Value}{Q:Unit→Shared→Prop}
 (sE:A.frames=some (env::outer)) (hl:s.heap.FunFrames base (env::outer)) (hf:env.frame=some L)
 (he:s.heap.get? e=some oe) (hd:oe.data= .fields vs) (h1:vs[1]? =some .none)
 (h:∀h' T,s.heap.objs.size≤T→Ks h' e T (oe.mapFields (·.setIfInBounds 1 (.ref T)))→(∀b o,b≠e→b∉(env::outer).filterMap (·.frame)→s.heap.get? b=some o→h'.get? b=some o)→
  (∀b o,b≠e→s.heap.get? b=some o→∃sl,h'.get? b=some {o with slots:=sl})→Q () {s with heap:=h'}):wpAny M A (leaving env (.ref e)) Q E s:=by
 unfold leaving noteFrame;simp only[hf];refine ah (ah (cc he hd h1 ?_));rw[ay (by decide)];exact qJ sE hl hf he hd (sW.mp h1).1 h
theorem GJ{base:Heap}{env:Env}{outer:List Env}{L e T:Addr}{oe:Obj}{Q:Unit→Shared→Prop}
 (sE:A.frames=some (env::outer)) (hl:s.heap.FunFrames base (env::outer)) (hf:env.frame=some L) (ht:Ks s.heap e T oe)
 (h:∀h' T',s.heap.objs.size≤T'→Ks h' e T' (oe.mapFields (·.setIfInBounds 1 (.ref T')))→(∀b o,b≠e→b≠T→b∉(env::outer).filterMap (·.frame)→s.heap.get? b=some o→h'.get? b=some o)→
  (∀b o,b≠e→b≠T→s.heap.get? b=some o→∃sl,h'.get? b=some {o with slots:=sl})→Q () {s with heap:=h'}):wpAny M A (leaving env (.ref e)) Q E s:=by
 obtain⟨he,⟨vs,hd,h1⟩,N8,oT,ts,hT,iQ,h3⟩:=ht;unfold leaving noteFrame;simp only[hf];refine ah (ah (cc he hd h1 ?_));rw[aA (show(Value.ref T !=Value.none)=true from by simp)];refine ah (cc hT iQ h3 ?_);rw[ay (show ¬((Value.none==rawInt L)=true) from by simp[rawInt])];refine ah (nB hT iQ (sW.mp h3).1 ?_);have other:∀b,b≠T→(s.heap.update T (Obj.mapFields (·.setIfInBounds 3 Value.none))).get? b=s.heap.get? b:=fun b hb=>fL _ _ (bK hb)
 have zU:∀b o,s.heap.get? b=some o→(∀vs,o.data≠.fields vs)→b≠T:=fun b o hb Ol q=>by
  rw[q,hT] at hb;injection hb with hb;subst hb;exact Ol ts iQ
 refine qJ sE (hl.of_keeps fun b o hb Ol=>⟨o,(other b (zU b o hb Ol)).trans hb,rfl⟩) hf ((other e (bK N8)).trans he) hd (sW.mp h1).1
  fun h' T' hn fl k1 k2=>h h' T' ?_ fl (fun b o AS GZ WH hb=>k1 b o AS WH ((other b GZ).trans hb)) fun b o AS GZ hb=>k2 b o AS ((other b GZ).trans hb)
 have E6 :(s.heap.update T (Obj.mapFields (·.setIfInBounds 3 Value.none))).objs.size≤T' :=hn;rw[Heap.size_after_update] at E6;exact E6
end
structure oh(bm:aD):Prop where
 hasB:bm.contains (.type "ValueError")=true
 hasBase:bm.contains (.type "BaseException")=true
 noAttr:bm.contains (.type "AttributeError")=false
 noName:bm.contains (.type "NameError")=false
noncomputable abbrev kC(C t:Addr):Obj:={cls:= .ref C,data:= .fields #[.ref t,.none,.none,.none,.bool false,.none]}
section
variable{prog:Program}{w:World}{A:Around}{E:Value→Shared→Prop}{h:Heap}{g:Array GenState}{d:Drawn}{t:Nat}{os:OsState}
variable{nm q:Str}{C N:Addr}{bs bm:aD}{gX:Bool}{sn:ao}{sub:aD}{ab:Bool}{col:Option Bool}{dd:Option Addr}{k0 k1 k2 k3 k5:aI}
theorem Be{M:Model}(T:oh bm){rest:aD}{Q:Unit→Shared→Prop}(hC:h.get? C=some (excClassObj nm q C N bs bm gX sn sub ab col dd k0 k1 k2 k3 k5 "ValueError.__new__"))
 (hq:Q () ⟨h,g,d,t,os⟩):wpAny M A (checkBuiltinCall "ValueError.__new__" ⟨.ref C::rest,[]⟩) Q E ⟨h,g,d,t,os⟩:=by
 have F:=Ac;have X4:(Value.ref C::bm).contains (.type "ValueError")=true:=by rw[nt,T.hasB,nh]
 have ahg:=F.noStar;simp only[checkBuiltinCall,F.newKind,F.newSplit,F.newRow]
 repeat (first|refine gE hC ?_|(refine mf hC ?_;rw[X4])|refine wpAny_staticBase_exc hC ?_|refine wpAny_madeBy_exc hC ?_|simp only[bne_self_eq_false,nO,iX]|wp_step)
 exact hq
theorem CU(T:oh bm){R:Result→Shared→Prop}{rest:aD}(hC:h.get? C=some (excClassObj nm q C N bs bm gX sn sub ab col dd k0 k1 k2 k3 k5 "ValueError.__new__"))
 (hq:R (.ok (.ret (.ref (h.objs.size+1)))) ⟨(h.push {cls:= .type "tuple",data:= .seq rest.toArray}).push (kC C h.objs.size),g,d,t,os⟩) (hrest:rest.length≤sizeLine:=by size_fits):
 codeAny (model prog w) A (.builtin "ValueError.__new__" ⟨.ref C::rest,[]⟩) R ⟨h,g,d,t,os⟩:=by
 have F:=Ac;have agc:=F.ends;have Me:(Value.ref C::bm).contains (.type "ValueError")=true:=by rw[nt,T.hasB,nh]
 have hcA:(Value.ref C::bm).contains (.type "AttributeError")=false:=by rw[nt,T.noAttr];rfl
 have hcN:(Value.ref C::bm).contains (.type "NameError")=false:=by rw[nt,T.noName];rfl
 refine codeAny_builtinAt F.entry ?_;unfold Builtin.«BaseException.__new__»;refine PySem.wpAt_bind ?_;show PySem.wpAt _ _ _ (stack>>= _) _ _ _;refine PySem.wpAt_bind (PySem.wpAt_stack fun p below=>PySem.wpAt_of_wpAny ?_)
 wp_walk
 refine PySem.wpAt_of_wpAny ?_;rw[F.owner]
 repeat (first|with_reducible refine wpAny_madeHere_exc F.canon hC ?_|with_reducible refine gE hC ?_|(with_reducible refine mf hC ?_;first|rw[Me]|rw[hcA]|rw[hcN])|wp_step)
 show R _ _;rw[jr];exact hq
theorem AY(T:oh bm){K:Frag}{rest:aD}{fI:Addr}{Q:Fin→Shared→Prop}
 (hC:h.get? C=some (excClassObj nm q C N bs bm gX sn sub ab col dd k0 k1 k2 k3 k5 "ValueError.__new__")) (X:K.In h) (hi:PySem.W.findIn K (.ref C) "__init__"=some (some (.ref fI))) (hf:PySem.W.typeIn K (.ref fI)=some (.type "function"))
 (hq:wpAny (model prog w) A (call (.ref fI) (.ref (h.objs.size+1)::rest)) (fun r s' =>r= .none∧Q (.done (.ret (.ref (h.objs.size+1)))) s') E ⟨(h.push {cls:= .type "tuple",data:= .seq rest.toArray}).push (kC C h.objs.size),g,d,t,os⟩) (hrest:rest.length≤sizeLine:=by size_fits):
 wpAny (model prog w) A (Builtin.«type.__call__» ⟨.ref C::rest,[]⟩) Q E ⟨h,g,d,t,os⟩:=by
 have F:=Ac
 repeat (first|with_reducible refine gE hC ?_|with_reducible refine wpAny_madeBy_exc hC ?_|wp_step)
 refine codeAny_call_builtin_code (Code.quiet_builtin _ F.quiet) (Be T hC ?_);refine CU T hC ?_ hrest;show wpAny _ _ _ _ _ _;have hk:∀b o,h.get? b=some o→((h.push {cls:= .type "tuple",data:= .seq rest.toArray}).push (kC C h.objs.size)).get? b=some o:=fun b o e=>a8 _ (a8 _ e);have YR:=hk _ _ hC;have aaB:K.In ((h.push {cls:= .type "tuple",data:= .seq rest.toArray}).push (kC C h.objs.size)):=X.keeps hk;have UN:((h.push {cls:= .type "tuple",data:= .seq rest.toArray}).push (kC C h.objs.size)).get? (h.objs.size+1)=some (kC C h.objs.size):=by heap_get
 have hcC:(Value.ref C::bm).contains (.ref C)=true:=by simp
 unfold isInstance
 repeat (first|with_reducible refine gE UN ?_|(with_reducible refine mf YR ?_;rw[hcC])|wp_step)
 show wpAny _ _ (typeLookup (.ref C) _) _ _ _;refine(looks_findIn aaB hi).here ?_;refine gZ (ah ?_);refine(bind_fn aaB (.ref (h.objs.size+1)) hf).here ?_;refine ah (eA hq (fun r s' hr=> ?_) fun _ _ x=>x);obtain⟨rfl,hQ⟩:=hr
 wp_walk
 exact hQ
theorem Lw(T:oh bm){K:Frag}{rest:aD}{fI:Addr}{Q:Value→Shared→Prop}
 (hC:h.get? C=some (excClassObj nm q C N bs bm gX sn sub ab col dd k0 k1 k2 k3 k5 "ValueError.__new__")) (X:K.In h) (hi:PySem.W.findIn K (.ref C) "__init__"=some (some (.ref fI))) (hf:PySem.W.typeIn K (.ref fI)=some (.type "function"))
 (hq:wpAny (model prog w) (A.under (.builtin "type.__call__" ⟨.ref C::rest,[]⟩)) (call (.ref fI) (.ref (h.objs.size+1)::rest)) (fun r s' =>r= .none∧Q (.ref (h.objs.size+1)) s') E ⟨(h.push {cls:= .type "tuple",data:= .seq rest.toArray}).push (kC C h.objs.size),g,d,t,os⟩) (hrest:rest.length≤sizeLine:=by size_fits):
 wpAny (model prog w) A (call (.ref C) rest) Q E ⟨h,g,d,t,os⟩:=by
 have f1:=tc_lookup;have f2:=tc_bind (.ref C);have hT:(⟨h,g,d,t,os⟩:Shared).TypeIs (.ref C) "type":=⟨_,hC,rfl⟩;refine pP (codeAny_of_tree ?_);show wpAny _ _ (callAny (.ref C) _) _ _ _
 repeat (any_goals (first|assumption|with_reducible refine gE hC ?_|wp_step))
 refine⟨rfl,?_⟩;exact codeAny_call_builtin_at (Code.quiet_builtin _ (by decide+kernel)) entry_typeCall (wpAny_check_type_call_sub hC (AY (hrest:=hrest) T hC X hi hf hq))
end
noncomputable def c8(a C:Addr)(dd:Option Addr)(n:Bool)(h:Heap):Prop:=∃vs:Array Value,h.get? a=some {cls:= .ref C,dict:=dd,data:= .fields vs}∧vs.size=6∧(n=true→vs[1]? =some .none)
theorem wc{P:Program}{w:World}{H:Hp}{h:Heap}{a C:Addr}{dd:Option Addr}{n:Bool}(p:c8 a C dd n h):bI P w H h a (.ext (c8 a C dd n)):=by
 obtain⟨vs,e,r⟩:=p;exact⟨⟨vs,e,r⟩,⟨_,e⟩,fun h1 h2 ⟨ws,e1,r1⟩ k=>⟨ws,k _ e1,r1⟩⟩
theorem n6{P:Program}{w:World}{H:Hp}{h:Heap}{a C:Addr}{dd:Option Addr}{n:Bool}(ok:m8 P w H h)(e:H a=some (.ext (c8 a C dd n))):c8 a C dd n h:=
 (show bI P w H h a (.ext (c8 a C dd n)) from ok a _ e).1
theorem uC{H:Hp}{a:Addr}{o:HO}(h:H a=some o):upd H a o=H:=by
 funext b
 by_cases hb:b=a
 ·subst hb;rw[aa,h]
 ·rw[av hb]
structure ExcC(K:Frag)(C:Addr):Prop where
 obj:∃nm q N bs bm gX sn sub ab col dd k0 k1 k2 k3 k5,K.lookup C=some (excClassObj nm q C N bs bm gX sn sub ab col dd k0 k1 k2 k3 k5 "ValueError.__new__")∧oh bm
structure ND(K:Frag)(C f:Addr):Prop extends ExcC K C where
 init:PySem.W.findIn K (.ref C) "__init__"=some (some (.ref f))
 fn:PySem.W.typeIn K (.ref f)=some (.type "function")
 kp:PySem.W.keepIn K (.ref C)=true
section
variable{X:Cx}{CX:tD}{k:Nat}{f C:Addr}{fd:FuncData}{ps:ao}{sp:Sp}{E:XK}{x m:Str}{p pos apos:Pos}{e o:Expr}{es:cu}{ta:TE}{t:TA}
noncomputable def FK(C:Addr)(sp:Sp)(E:XK)(t:TA):TE:=fun σ H Q=>t σ H fun vs H1=>∀x,H1 x=none→sp (.ref x::vs) (upd H1 x (.ext (c8 x C none true))) (fun v H2=>v= .bx∧Q (.ref x) H2) E
theorem J9{pins:aJ}{σ:St}{H:Hp}{s:Shared}{Q:VK}{us:aD}{vs:ak}(M:ND X.K C f)(F:aM X.prog X.w X.K X.mg X.base CX k f fd ps sp)(hr:cZ (k+1) X.A)(hb:Binds X.K fd ps [])
 (hx:wn CX X E) (I:Inv X pins σ H s) (r:Vals vs us) (XO:us.length≤100)
 (h:∀x,H x=none→sp (.ref x::vs) (upd H x (.ext (c8 x C none true))) (fun v H2=>v= .bx∧Q (.ref x) H2) E):
 wpAny (model X.prog X.w) X.A (call (.ref C) us) (EP X pins σ Q) X.xe s:=by
 have hq:=h (s.heap.objs.size+1) (I.bE.fresh (lJ _));obtain⟨nm,q,N,bs,bm,gX,sn,sub,ab,col,dd,k0,k1,k2,k3,k5,lk,T⟩:=M.obj;have hC:=I.je _ _ lk;have hk:∀b u,s.heap.get? b=some u→((s.heap.push {cls:= .type "tuple",data:= .seq us.toArray}).push (kC C s.heap.objs.size)).get? b=some u:=fun b u e=>a8 _ (a8 _ e);have UN:((s.heap.push {cls:= .type "tuple",data:= .seq us.toArray}).push (kC C s.heap.objs.size)).get? (s.heap.objs.size+1)=some (kC C s.heap.objs.size):=by heap_get
 have I2:Inv X pins σ (upd H (s.heap.objs.size+1) (.ext (c8 (s.heap.objs.size+1) C none true))) {s with heap:=(s.heap.push {cls:= .type "tuple",data:= .seq us.toArray}).push (kC C s.heap.objs.size)}:=
  I.laid (t' :=s.toks) hk (lJ _) (wc ⟨_,UN,rfl,fun _=>rfl⟩)
 have r2:Vals (V.ref (s.heap.objs.size+1)::vs) (Value.ref (s.heap.objs.size+1)::us):= .cons rfl r
 have hl:(Value.ref (s.heap.objs.size+1)::us++([]:aD)).length=ps.length:=by
  have e:=r2.length;rw[F.len _ _ _ _ hq] at e;rw[dO];exact e.symm
 obtain⟨hp,g,d,tk,os⟩:=s;refine Lw (hrest:=aR XO (by decide)) T hC I.je M.init M.fn (pP (pN (F.run _ X.stack _ _ ⟨Value.ref (hp.objs.size+1)::us,[]⟩ (Value.ref (hp.objs.size+1)::us) _ _ E (hr.make C us []) (I2.OD.make C us []) ?_ r2 hq) fun r s' Nq => ?_))
 ·have:=hb _ (Value.ref (hp.objs.size+1)::us) I2.je hl;rw[dO] at this;exact this
 ·cases r with
  |error e=>exact hx pins σ _ _ e s' I2 Nq
  |ok fl=>
   cases fl with
   |ret u=>
    obtain⟨v,H',I3,rv,ev,q3⟩:=I2.after Nq;subst ev;exact⟨rv,⟨V.ref (hp.objs.size+1),H',I3,rfl,q3⟩⟩
   |next=>exact False.elim Nq
   |brk=>exact False.elim Nq
   |cont=>exact False.elim Nq
theorem Nu(M:ND X.K C f)(F:aM X.prog X.w X.K X.mg X.base CX k f fd ps sp)(hr:cZ (k+1) X.A)(hg:Gl X x)(hm:X.mg x=some (.ref C))(hb:Binds X.K fd ps [])(hx:wn CX X E)
 (ha:PA X (e::es) t) (hlen:∀vs H Q E,sp vs H Q E→vs.length≤100) (se:(x==("__debug__" :Str))=false:=by decide) (he:starEach (e::es) X.env=(false,eval e X.env)::starEach es X.env:=by rfl) (jN:(backTo pos (starEach es X.env)).any (·.1)=false:=by rfl):
 PE X (.Call (.Name x p) (e::es) [] pos) (FK C sp E t):=by
 intro pins s σ H Q I h;refine lR (jE I hg hm ?_ se);refine o6 (h₀:=X.base) I.ok.mod.tp M.kp (ck (ha pos pins s σ H _ I h) fun us s1 ⟨vs,H1,I1,r,q⟩=>⟨I1.je,?_⟩) he jN;refine J9 M F hr hb hx I1 r ?_ q;have h1:=hlen _ _ _ _ (q _ (I1.bE.fresh (aG _)));have h2:=r.length;rw[aW] at h1;rw[qu]
 lia
end
theorem Gw(K:Frag):findCls K (.type "ValueError") (.type "type") "__init__"=some (.val (.builtin "ValueError.__init__")):=by kernel_rfl
section
variable{prog:Program}{w:World}{A:Around}{E:Value→Shared→Prop}{h:Heap}{g:Array GenState}{d:Drawn}{t:Nat}{os:OsState}
variable{nm q:Str}{C N:Addr}{bs bm:aD}{gX:Bool}{sn:ao}{sub:aD}{ab:Bool}{col:Option Bool}{dd:Option Addr}{k0 k1 k2 k3 k5:aI}
theorem z_{M:Model}(T:oh bm){e:Addr}{oe:Obj}{rest:aD}{Q:Unit→Shared→Prop}
 (hC:h.get? C=some (excClassObj nm q C N bs bm gX sn sub ab col dd k0 k1 k2 k3 k5 "ValueError.__new__")) (he:h.get? e=some oe) (zx:oe.cls= .ref C) (hq:Q () ⟨h,g,d,t,os⟩):
 wpAny M A (checkBuiltinCall "ValueError.__init__" ⟨.ref e::rest,[]⟩) Q E ⟨h,g,d,t,os⟩:=by
 have F:=Ac;have Me:(Value.ref C::bm).contains (.type "ValueError")=true:=by rw[nt,T.hasB,nh]
 have ac0:=F.noStar;simp only[checkBuiltinCall,F.initKind,F.initSplit,F.initRow]
 repeat (first|(with_reducible refine gE he ?_;rw[zx])|with_reducible refine gE hC ?_|(with_reducible refine mf hC ?_;rw[Me])|wp_step)
 refine yF ?_
 rw[show ∀(a b:String) (n:Nat),Bind.check ⟨.positional,"*","ValueError",.self,[⟨"args",.varPos,false⟩]⟩ a b n (List.map (fun x=>x.fst) ({pos:=Value.ref e::rest}:Args).kw)=pure () from
  fun a b n=>check_star_args _ _ _ _ _ _]
 exact aC hq
theorem Jx(T:oh bm){e:Addr}{vs:Array Value}{de:Option Addr}{x:Value}{Q:Value→Shared→Prop}
 (hC:h.get? C=some (excClassObj nm q C N bs bm gX sn sub ab col dd k0 k1 k2 k3 k5 "ValueError.__new__")) (he:h.get? e=some {cls:= .ref C,dict:=de,data:= .fields vs}) (hv:vs.size=6)
 (hq:∀h' T',h.get? T' =none→(∀b o,b≠e→h.get? b=some o→h'.get? b=some o)→h'.get? e=some {cls:= .ref C,dict:=de,data:= .fields (vs.setIfInBounds 0 (.ref T'))}→Q .none ⟨h',g,d,t,os⟩):
 wpAny (model prog w) A (call (.builtin "ValueError.__init__") [.ref e,x]) Q E ⟨h,g,d,t,os⟩:=by
 have F:=Ac;have hsz:0<vs.size:=by lia
 refine pP (DW F.init.plain F.initEntry (z_ T hC he rfl ?_));unfold Builtin.«BaseException.__init__»
 wp_walk
 have h0:vs[0]? =some vs[0]:=ue hsz;rw[h0];have Zg:=a8 {cls:= .type "tuple",data:= .seq #[x]} he
 have fin:Q .none ⟨(h.push {cls:= .type "tuple",data:= .seq #[x]}).update e (Obj.mapFields (·.setIfInBounds 0 (.ref h.objs.size))),g,d,t,os⟩:=by
  refine hq _ h.objs.size (Heap.get?_none_of_le (aG _)) (fun b o hb e' => ?_) ?_
  ·rw[fL _ _ (bK hb)];exact a8 _ e'
  ·exact jk _ Zg rfl
 generalize vs[0]=v0;refine aC ?_;refine ah (nB Zg rfl hsz ?_)
 cases v0 with
 |ref a=>exact wpAny_letGo (aC fin)
 |_=>exact aC (aC fin)
end
section
variable{X:Cx}{p pos apos:Pos}{e1 e2:Expr}{t:TA}
noncomputable def Vo(K:Frag)(t:TA):TE:=fun σ H Q=>t σ H fun vs H1=>∃a C dd n x,vs=[.ref a,x]∧H1 a=some (.ext (c8 a C dd n))∧ExcC K C∧Q .bx H1
theorem ML{pl:Sem Bool}(hg:Gl X "ValueError")(hm:X.mg "ValueError"=none)(ha:PA X [e1,e2] t)
 (mv:starEach [e1,e2] X.env=(false,eval e1 X.env)::starEach [e2] X.env:=by rfl) (jN:(backTo pos (starEach [e2] X.env)).any (·.1)=false:=by rfl)
 (ht:eval (.Call (.Attribute (.Name "ValueError" p) "__init__" apos) [e1,e2] [] pos) X.env=(do
  let ov←eval (.Name "ValueError" p) X.env
  standAt apos.atName
  let(f,first)←holding [ov] (getMethod ov "__init__" pl)
  callWith pos f first (backTo pos (starEach [e1,e2] X.env)) (backToKw pos (keywordEach [] X.env))):=by rfl):
 PE X (.Call (.Attribute (.Name "ValueError" p) "__init__" apos) [e1,e2] [] pos) (Vo X.K t):=by
 intro pins s σ H Q I h;refine qE (pl:=pl) (pE I hg hm Boot.«ValueError» ?_) ht;obtain⟨m,F⟩:=I.fr;refine PySem.W.method_type F I.mod.tp (by kernel_rfl) (by decide+kernel) (Gw X.K) (by decide+kernel) ?_;refine IW (ck (ha pos pins _ σ H _ (I.tok _) h) fun us s1 ⟨vs,H1,I1,r1,q1⟩=> ?_) mv jN;obtain⟨a,C,dd,n,x,rfl,hx,hc,q⟩:=q1
 cases r1 with
 |cons r rr=>
  cases rr with
  |cons r' rr=>
   cases rr;cases r;obtain⟨nm,q',N,bs,bm,gX,sn,sub,ab,col,HS,k0,k1,k2,k3,k5,lk,T⟩:=hc.obj;obtain⟨ws,he,hw,hn⟩:=n6 I1.bE hx;obtain⟨hp,g,d,tk,os⟩:=s1;refine Jx T (I1.je _ _ lk) he hw fun h' T' hT k he' =>⟨.bx,H1,?_,rfl,q⟩;have I2:=I1.write (h' :=h') (t' :=tk) (x:=a) (e:=a) (o:= .ext (c8 a C dd n)) (by rw[hx];exact True.intro) (.inl rfl) k ⟨_,he'⟩ (wc ⟨_,he',by simp[hw],fun z=>by rw[Array.getElem?_setIfInBounds_ne (by decide)];exact hn z⟩);rw[uC hx] at I2;exact I2
end
end L2
namespace L2
open PySem PySem.Spec PyProof.Rows PySem.Builtin.ObjectAttr
theorem vB(self:Value):refuseLoop self "__setattr__" [.type "ValueError",.type "Exception",.type "BaseException",.type "object"]=pure ():=by kernel_rfl
section
variable{prog:Program}{w:World}{A:Around}{E:Value→Shared→Prop}{h:Heap}{g:Array GenState}{d:Drawn}{t:Nat}{os:OsState}
variable{nm q:Str}{C N x:Addr}{bs bm:aD}{sn:ao}{sub:aD}{ab:Bool}{col:Option Bool}{dd:Option Addr}{k0 k1 k2 k3 k5:aI}{newId:String}
 {mA:Str→aI} {name:Str} {v:Value} {K:Frag}
theorem Cy{M:Model}{o:Obj}{Ts:Value}{Q:Unit→Shared→Prop}(Zu:bm.contains (.type "object")=true)
 (hC:h.get? C=some (excClassObj nm q C N bs bm true sn sub ab col dd k0 k1 k2 k3 k5 newId)) (hx:h.get? x=some o) (hc:o.cls= .ref C) (hq:Q () ⟨h,g,d,t,os⟩):
 wpAny M A (checkBuiltinCall "object.__setattr__" ⟨[.ref x,Ts,v],[]⟩) Q E ⟨h,g,d,t,os⟩:=by
 have SF:=PySem.F.store_object;have Me:(Value.ref C::bm).contains (.type "object")=true:=by rw[nt,Zu,nh]
 have ha:=SF.args (.ref x) Ts v;simp only[checkBuiltinCall,SF.kind,SF.split];refine ah ?_
 ·unfold isInstance
  repeat (first|(with_reducible refine gE hx ?_;rw[hc])|(with_reducible refine mf hC ?_;rw[Me])|wp_step)
  exact hq
theorem xZ{tk:Tok}{Q:Fin→Shared→Prop}{ns:ao}(Es:∀self,refuseLoop self "__setattr__" bm=pure ())(X:K.In h)(Xn:PySem.W.findIn K (.ref C) name=some none)
 (hC:h.get? C=some (excClassObj nm q C N bs bm true sn sub ab col dd k0 k1 k2 k3 k5 newId)) (I:h.Inst x C mA)
 (hq:∀h' OB,h'.Inst x C (fun y=>if y=name then some v else mA y)→
  (∀b o,b≠x→(∀jF dx,h.get? x=some jF→jF.dict=some dx→b≠dx)→h.get? b=some o→h'.get? b=some o)→
  (∀jF,h.get? x=some jF→∃wt,h'.get? x=some wt∧wt.cls=jF.cls∧wt.data=jF.data∧wt.slots=jF.slots∧(∀dx,jF.dict=some dx→wt.dict=some dx)∧(jF.dict=none→∃dx,wt.dict=some dx∧h.objs.size≤dx))→Q (.done (.ret .none)) ⟨h',g,d,OB,os⟩) (hw:Within mA ns) (hsz:ns.length≤1000):
 wpAny (model prog w) A (Builtin.«object.__setattr__» ⟨[.ref x,.str name tk,v],[]⟩) Q E ⟨h,g,d,t,os⟩:=by
 obtain⟨o,hx,hc,hnc,hd⟩:=I;have Es:=Es (.ref x);unfold Builtin.«object.__setattr__»
 repeat (first|rw[refuse_eq]|(rw[refuseLoop_ref,Es])|(with_reducible refine gE hx ?_;rw[hc])|with_reducible refine wpAny_mroOf_exc hC ?_|(with_reducible refine(looks_findIn X Xn).here ?_)|wp_step)
 rcases hd with⟨hdn,hmA⟩|⟨dx,FE,mq,Pn⟩
 ·
  rw[hdn,ay (by simp[typeHasDict])]
  split
  ·rename_i zR;cases zR
  split
  ·rename_i c zR;exact absurd zR (hnc c)
  ·have T7:(h.push {cls:= .type "dict",data:= .dict #[]}).get? x=some o:=a8 _ hx;have BW:x≠h.objs.size:=bN (aQ hx);refine ah (wpAny_alloc' ?_);refine ah (wpAny_update' T7 ?_);refine aC ?_
   have C5:((h.push {cls:= .type "dict",data:= .dict #[]}).update x fun o=>{cls:=o.cls,dict:=some h.objs.size,data:=o.data,slots:=o.slots}).get? h.objs.size
    =some {cls:= .type "dict",data:= .dict #[]}:=
    (Heap.get?_update_ne _ _ _ _ BW.symm).trans (Heap.get?_push_at rfl rfl)
   have hnd:((h.push {cls:= .type "dict",data:= .dict #[]}).update x fun o=>{cls:=o.cls,dict:=some h.objs.size,data:=o.data,slots:=o.slots}).Ns h.objs.size (fun _=>none):=
    ⟨_,#[],_,C5,rfl,fun e he=>absurd he (by simp),fun _=>rfl⟩
   show wpAny _ _ (storeInDict h.objs.size (.str name tk) name v) _ _ _;unfold storeInDict newKeyGuard;refine ah (aC (ah (wpAny_nsSet1 (Heap.Ns1.of_empty hnd) fun h' E6 hs=> ?_)));obtain⟨oD,esD,epD,YF,EH,ZR⟩:=E6.count (Within.cons name v Within.nil);refine ah (wpAny_lookBehind YF (by rw[EH];exact pastItsLine_dict (aR ZR (by rw[aW,jh,qv];lia))) ?_)
   wp_walk
   have Xf :h'.get? x=some {cls:=o.cls,dict:=some h.objs.size,data:=o.data,slots:=o.slots}:= ?_
   refine hq h' _ ⟨{cls:=o.cls,dict:=some h.objs.size,data:=o.data,slots:=o.slots},Xf,hc,hnc,.inr ⟨h.objs.size,rfl,BW.symm,?_⟩⟩ (fun b ob hbx _ hb=> ?_)
    (fun jF h₀=>by obtain rfl:o=jF:=di (hx.symm.trans h₀);exact⟨_,Xf,rfl,rfl,rfl,(fun dx e=>by rw[hdn] at e;cases e),fun _=>⟨_,rfl,aG _⟩⟩)
   ·obtain⟨o',es,ep,e1,e2,e3,eu,e4⟩:=E6;exact⟨o',es,ep,e1,e2,e3,eu,fun y=>by rw[e4 y];by_cases hy:y=name<;>simp[hy,hmA]⟩
   ·exact(hs.2 b (bN (aQ hb))).trans ((Heap.get?_update_ne _ _ _ _ hbx).trans (a8 _ hb))
   ·refine(hs.2 x BW).trans (jk _ T7 ?_);have sE:=(Heap.get?_some_iff.mp hx).2;obtain⟨oc,od,odt,xI⟩:=o;cases odt<;>first|rfl|exact sE
 ·
  rw[FE];refine aC ?_;show wpAny _ _ (storeInDict dx (.str name tk) name v) _ _ _;unfold storeInDict newKeyGuard;refine ah (aC (ah (wpAny_nsSet1 Pn fun h' E6 hs=> ?_)));obtain⟨oD,esD,epD,YF,EH,ZR⟩:=E6.count (Within.cons name v hw);refine ah (wpAny_lookBehind YF (by rw[EH];exact pastItsLine_dict (aR ZR (by rw[aW,qv];lia))) ?_)
  wp_walk
  refine hq h' _ ⟨o,(hs.2 x mq.symm).trans hx,hc,hnc,.inr ⟨dx,FE,mq,E6⟩⟩ (fun b ob _ hbd hb=> ?_)
   (fun jF h₀=>⟨jF,(hs.2 x mq.symm).trans h₀,rfl,rfl,rfl,(fun _ e=>e),fun e=>by obtain rfl:o=jF:=di (hx.symm.trans h₀);rw[FE] at e;cases e⟩)
  exact(hs.2 b (hbd o dx hx FE)).trans hb
theorem Cf{Q:Unit→Shared→Prop}{ns:ao}(Es:∀self,refuseLoop self "__setattr__" bm=pure ())(Zu:bm.contains (.type "object")=true)(X:K.In h)
 (hs:PySem.W.findIn K (.ref C) "__setattr__"=some (some (.builtin "object.__setattr__"))) (Xn:PySem.W.findIn K (.ref C) name=some none)
 (hC:h.get? C=some (excClassObj nm q C N bs bm true sn sub ab col dd k0 k1 k2 k3 k5 newId)) (I:h.Inst x C mA)
 (hq:∀h' OB,h'.Inst x C (fun y=>if y=name then some v else mA y)→
  (∀b o,b≠x→(∀jF dx,h.get? x=some jF→jF.dict=some dx→b≠dx)→h.get? b=some o→h'.get? b=some o)→
  (∀jF,h.get? x=some jF→∃wt,h'.get? x=some wt∧wt.cls=jF.cls∧wt.data=jF.data∧wt.slots=jF.slots∧(∀dx,jF.dict=some dx→wt.dict=some dx)∧(jF.dict=none→∃dx,wt.dict=some dx∧h.objs.size≤dx))→Q () ⟨h',g,d,OB,os⟩) (hw:Within mA ns) (hsz:ns.length≤1000):
 wpAny (model prog w) A (setAttr (.ref x) name v) Q E ⟨h,g,d,t,os⟩:=by
 obtain⟨o,hx,hc,hnc,hd⟩:=id I
 have J:∃od,PySem.W.InstAt h x o C od:=by
  rcases hd with⟨hdn,_⟩|⟨dx,FE,_,oD,es,ep,h1,_⟩
  ·exact⟨none,hx,hc,by cases e:o.data<;>simp_all[notCls],by rw[hdn];trivial⟩
  ·exact⟨some oD,hx,hc,by cases e:o.data<;>simp_all[notCls],by rw[FE];exact h1⟩
 obtain⟨od,J⟩:=J;refine set_plain (s:=⟨h,g,d,t,os⟩) X J hs ?_;exact DW PySem.F.store_object.slot.plain PySem.F.store_object.entry (Cy Zu hC hx hc (xZ Es X Xn hC I (fun h' OB a b c=>hq h' OB a b c) hw hsz))
end
structure Pp(K:Frag)(C:Addr):Prop where
 obj:∃nm q N bs bm sn sub ab col dd k0 k1 k2 k3 k5,K.lookup C=some (excClassObj nm q C N bs bm true sn sub ab col dd k0 k1 k2 k3 k5 "ValueError.__new__")∧(∀self,refuseLoop self "__setattr__" bm=pure ())∧bm.contains (.type "object")=true
 sa:PySem.W.findIn K (.ref C) "__setattr__"=some (some (.builtin "object.__setattr__"))
section
variable{X:Cx}{pins:aJ}{σ:St}{H:Hp}{s:Shared}{a C:Addr}{n:Bool}{f:Str}{y:V}{u:Value}{A:Around}{E:Value→Shared→Prop}
theorem GX{fs:iG}{mA:Str→aI}(r:∀f,l4 (fs.lookup f) (mA f)):PySem.Within mA (fs.map (·.1)):=by
 intro g hg;have:=r g
 cases e:fs.lookup g with
 |none=>rw[e] at this;cases q:mA g with
  |none=>rw[q] at hg;simp at hg
  |some v=>rw[q] at this;cases this
 |some v=>
  obtain⟨l1,l2,h1,_⟩:=DB.mp e;rw[h1];simp
theorem Inv.two{h' :Heap}{t' :Nat}{dx:Addr}{o1 o2:HO}{φ:Heap→Prop}(I:Inv X pins σ H s)(e:H a=some (.ext φ))(EE:(∀xs,H dx≠some (.tup xs))∧(∀y,H dx≠some (.own y))∧(∀o u,H dx≠some (.Eo o u))∧∀ps,H dx≠some (.wz ps))(hd2:H dx=none→s.heap.objs.size≤dx)(mq:dx≠a)
 (k:∀b o,b≠a→b≠dx→s.heap.get? b=some o→h'.get? b=some o) (ha:∃o,h'.get? a=some o) (hx:∃o,h'.get? dx=some o)
 (n1:bI X.prog X.w (upd (upd H a o1) dx o2) h' a o1) (n2:bI X.prog X.w (upd (upd H a o1) dx o2) h' dx o2):Inv X pins σ (upd (upd H a o1) dx o2) {s with heap:=h',toks:=t'}:=by
 have na:∀b,H b=none→b≠a:=fun b q z=>by rw[z,e] at q;cases q
 have nd:∀b o,s.heap.get? b=some o→H b=none→b≠dx:=fun b o q q' z=>by
  subst z;exact absurd (cf (aQ q) (hd2 q')) (b7 _)
 have Xq:∀b,b≠a→b≠dx→upd (upd H a o1) dx o2 b=H b:=fun b h1 h2=>by rw[av h2,av h1]
 refine I.step (g' :=s.gens) (d' :=s.drawn) (ch:=[]) (fun _ z=>nomatch z) (fun b o _ _ _ q n=>k b o (na b n) (nd b o q n) q) (fun b o _ _ _ q n=>⟨o.slots,k b o (na b n) (nd b o q n) q⟩) (fun b o _ q n=>by rw[Xq b (na b n) (nd b o q n)];exact n)
  (fun b o _ q=> ?_) (fun b xs q=> ?_) (fun b o u q=> ?_) (fun b ps q=>⟨#[],?_⟩) (fun m hm=> ?_) (fun b u q=> ?_) I.bare
 ·by_cases h1:b=a
  ·rw[h1];exact ha
  ·by_cases h2:b=dx
   ·rw[h2];exact hx
   ·exact⟨o,k b o h1 h2 q⟩
 ·rw[Xq b (fun z=>by rw[z,e] at q;cases q) (fun z=>EE.1 xs (by rw[←z];exact q))];exact q
 ·rw[Xq b (fun z=>by rw[z,e] at q;cases q) (fun z=>EE.2.2.1 o u (by rw[←z];exact q))];exact q
 ·rw[Xq b (fun z=>by rw[z,e] at q;cases q) (fun z=>EE.2.2.2 ps (by rw[←z];exact q)),q];simp
 ·obtain⟨o,es,ep,q,r⟩:=hm;exact⟨o,es,ep,k _ o (na _ I.free) (nd _ o q I.free) q,r⟩
 ·by_cases h2:b=dx
  ·subst h2;rw[aa] at q;cases q;exact n2
  ·rw[av h2] at q;by_cases h1:b=a
   ·subst h1;rw[aa] at q;cases q;exact n1
   ·rw[av h1] at q;refine(I.bE b u q).xT (fun c v hc q' =>k c v ?_ ?_ q') (fun c q' => ?_) fun c ys q' => ?_
    ·rcases hc with z|z
     ·rw[z];exact h1
     ·exact fun z' =>by rw[z',e] at z;cases z
    ·rcases hc with z|z
     ·rw[z];exact h2
     ·exact fun z' =>EE.2.1 b (by rw[←z'];exact z)
    ·rw[Xq c (fun z=>by rw[z,e] at q';cases q') (fun z=>EE.2.1 b (by rw[←z];exact q'))];exact q'
    ·rw[Xq c (fun z=>by rw[z,e] at q';cases q') (fun z=>EE.1 ys (by rw[←z];exact q'))];exact q'
theorem Ik{fs:iG}{mA:Str→aI}(r:∀f,l4 (fs.lookup f) (mA f))(ry:RelV y u):∀g,l4 ((iD f y fs).lookup g) (if g=f then some u else mA g):=fun g=>by
 rw[pX];by_cases h:g=f
 ·rw[aA h,aA h];exact ry
 ·rw[ay h,ay h];exact r g
theorem Ge{Q:Unit→Shared→Prop}(I:Inv X pins σ H s)(e:H a=some (.ext (c8 a C none n)))(c:Pp X.K C)(na:dv X.K C f)(ry:RelV y u)
 (h:∀dx s',H dx=none→dx≠a→Inv X pins σ (upd (upd H a (.ext (c8 a C (some dx) n))) dx (.xd [(f,y)])) s'→Q () s'):wpAny (model X.prog X.w) A (setAttr (.ref a) f u) Q E s:=by
 obtain⟨nm,q,N,bs,bm,sn,sub,ab,col,dd,k0,k1,k2,k3,k5,lk,hp,ho⟩:=c.obj;obtain⟨vs,he,hv,hn⟩:=n6 I.bE e;have hC:=I.je _ _ lk;have I0:=I;obtain⟨hh,g,d,tk,os⟩:=s;refine Cf (mA:=fun _=>none) (ns:=[]) hp ho I.je c.sa na hC ⟨_,he,rfl,(fun c z=>by cases z),.inl ⟨rfl,fun _=>rfl⟩⟩ (fun h' OB inst kk same=> ?_) (fun g hg=>by simp at hg) (by simp);obtain⟨o1,e1,ec,ed,es,_,acA⟩:=same _ he;obtain⟨dx,ex,FE⟩:=acA rfl;obtain⟨o2,e2,_,_,hd2⟩:=inst;rw[e1] at e2;cases e2;rcases hd2 with⟨z,_⟩|⟨d',OJ,ne',ZI⟩
 ·rw[ex] at z;cases z
 rw[ex] at OJ;cases OJ;have L4:H dx=none:=I0.bE.fresh FE
 have eo:o1={cls:= .ref C,dict:=some dx,data:= .fields vs}:=by
  obtain⟨oc,od,odt,xI⟩:=o1;simp only at ec ed es ex;subst ec ed es ex;rfl
 rw[eo] at e1;refine h dx _ L4 ne' (I0.two (t' :=OB) e ⟨(fun xs z=>by rw[L4] at z;cases z),(fun y z=>by rw[L4] at z;cases z),(fun o u z=>by rw[L4] at z;cases z),(fun ps z=>by rw[L4] at z;cases z)⟩ (fun _=>FE) ne' (fun b o hb _ q=>kk b o hb (fun o0 dx0 h0 h1=>by rw[he] at h0;cases h0;cases h1) q) ⟨_,e1⟩ (let⟨o,_,_,h1,_⟩:=ZI;⟨o,h1⟩) (wc ⟨vs,e1,hv,hn⟩) ⟨_,ZI,?_⟩);exact Ik (fs:=[]) (fun _=>trivial) ry
theorem F4{dx:Addr}{fs:iG}{Q:Unit→Shared→Prop}(I:Inv X pins σ H s)(e:H a=some (.ext (c8 a C (some dx) n)))(ed:H dx=some (.xd fs))(mq:dx≠a)(hl:fs.length≤900)(c:Pp X.K C)(na:dv X.K C f)(ry:RelV y u)
 (h:∀s',Inv X pins σ (upd H dx (.xd (iD f y fs))) s'→Q () s'):wpAny (model X.prog X.w) A (setAttr (.ref a) f u) Q E s:=by
 obtain⟨nm,q,N,bs,bm,sn,sub,ab,col,dd,k0,k1,k2,k3,k5,lk,hp,ho⟩:=c.obj;obtain⟨vs,he,hv,hn⟩:=n6 I.bE e;obtain⟨mA,ns,r⟩:=(show bI X.prog X.w H s.heap dx (.xd fs) from I.bE dx _ ed);have hC:=I.je _ _ lk;have I0:=I;obtain⟨hh,g,d,tk,os⟩:=s;refine Cf (mA:=mA) (ns:=fs.map (·.1)) hp ho I.je c.sa na hC ⟨_,he,rfl,(fun c z=>by cases z),.inr ⟨dx,rfl,mq,ns⟩⟩ (fun h' OB inst kk same=> ?_) (GX r) (by rw[aK];lia);obtain⟨o1,e1,ec,edt,es,acS,_⟩:=same _ he;have ex:=acS dx rfl;obtain⟨o2,e2,_,_,hd2⟩:=inst;rw[e1] at e2;cases e2;rcases hd2 with⟨z,_⟩|⟨d',OJ,ne',ZI⟩
 ·rw[ex] at z;cases z
 rw[ex] at OJ;cases OJ
 have eo:o1={cls:= .ref C,dict:=some dx,data:= .fields vs}:=by
  obtain⟨oc,od,odt,xI⟩:=o1;simp only at ec edt es ex;subst ec edt es ex;rfl
 rw[eo] at e1;have I2:=I0.two (t' :=OB) (o1:= .ext (c8 a C (some dx) n)) (o2:= .xd (iD f y fs)) e ⟨(fun xs z=>by rw[ed] at z;cases z),(fun y z=>by rw[ed] at z;cases z),(fun o u z=>by rw[ed] at z;cases z),(fun ps z=>by rw[ed] at z;cases z)⟩ (fun z=>by rw[ed] at z;cases z) mq (fun b o hb vE q=>kk b o hb (fun o0 dx0 h0 h1=>by rw[he] at h0;cases h0;cases h1;exact vE) q) ⟨_,e1⟩ (let⟨o,_,_,h1,_⟩:=ZI;⟨o,h1⟩) (wc ⟨vs,e1,hv,hn⟩) ⟨_,ZI,Ik r ry⟩;rw[uC e] at I2;exact h _ I2
end
section
variable{X:Cx}{o value:Expr}{f:Str}{pos pos' :Pos}{ta tv:TE}
noncomputable def aaD(K:Frag)(ta tv:TE)(f:Str):TS:=fun D σ H=>tv σ H fun y H1=>ta σ H1 fun x H2=>∃a C n,x= .ref a∧Pp K C∧dv K C f∧
 ((H2 a=some (.ext (c8 a C none n))∧∀dx,H2 dx=none→dx≠a→D.nx σ (upd (upd H2 a (.ext (c8 a C (some dx) n))) dx (.xd [(f,y)])))∨
  ∃dx fs,H2 a=some (.ext (c8 a C (some dx) n))∧H2 dx=some (.xd fs)∧dx≠a∧fs.length≤900∧D.nx σ (upd H2 dx (.xd (iD f y fs))))
theorem og(ha:PE X o ta)(hv:PE X value tv)(hs:swapsWith value (some (.Attribute o f pos')) pos.line X.env=pure false):PS X (.Assign [.Attribute o f pos'] value pos) (aaD X.K ta tv f):=by
 intro pins s σ H D I h;refine plainObj_wpAny_Assign_Attribute (ck (hv pins s σ H _ I h) fun u s1 ⟨y,H1,I1,ry,q⟩=>ck (ha pins s1 σ H1 _ I1 q) fun ov s2 ⟨x,H2,I2,rx,a,C,n,ex,c,na,q2⟩=> ?_) hs;subst ex;obtain rfl:ov=Value.ref a:=rx;rcases q2 with⟨e,q3⟩|⟨dx,fs,e,ed,ne,hl,q3⟩
 ·exact Ge I2 e c na ry fun dx s3 hn ne I3=>⟨σ,_,I3,q3 dx hn ne⟩
 ·exact F4 I2 e ed ne hl c na ry fun s3 I3=>⟨σ,_,I3,q3⟩
end
end L2
namespace L2
open PySem PySem.Spec PyProof.Rows PySem.Builtin.ObjectAttr
section
variable{prog:Program}{w:World}{A:Around}{E:Value→Shared→Prop}{s:Shared}{K:Frag}{x C:Addr}{ox:Obj}{od:Option Obj}{name:Str}{expr:Bool}{Q:Value→Shared→Prop}{v:Value}
theorem EA(X:K.In s.heap)(I:PySem.W.InstAt s.heap x ox C od)(hga:PySem.W.findIn K (.ref C) "__getattribute__"=some (some (.builtin "BaseException.__getattribute__")))(hhk:PySem.W.findIn K (.ref C) "__getattr__"=some none)
 (hm:PySem.W.mroIn K C (.type "BaseException")=some true) (hf:PySem.W.findObj K C od name=some (.value v)) (hh:handedIn v=true) (h:Q v {s with toks:=s.toks+1}):
 wpAny (model prog w) A (getAttr (.ref x) name expr) Q E s:=by
 have ht:=I.type (M:=model prog w);refine ah (wpAny_mkText (gZ (ah (ht _ _ _ _ (fun _ _ e=>e) (ah (looks_findIn X hga _ _ _ _ (fun _ _ e=>e) ?_))))));dsimp only;rw[show(onTheHeap (Value.ref C)&&Value.builtin "BaseException.__getattribute__" ==Value.builtin "object.__getattribute__")=false from by rw[show(Value.builtin "BaseException.__getattribute__" ==Value.builtin "object.__getattribute__")=false from by decide+kernel,Bool.and_false],ay (by decide)];have hb:PySem.W.Looks (model prog w) s.heap (hookBefore (.ref C)) none:=PySem.W.looks_hook X (by show(if onTheHeap (Value.ref C)=true then _ else _)=_;exact hhk);refine ah (hb _ _ _ _ (fun _ _ e=>e) (ah (uu (gZ ?_))));unfold callGetattribute;rw[show(expr&&onTheHeap (Value.builtin "BaseException.__getattribute__"))=false from Bool.and_false _,ay (by decide)];unfold boundAndCalled;rw[PySem.F.attr_ValueError.ga.bind];refine ah (aC ?_);show wpAny _ _ (call (.builtin "BaseException.__getattribute__") [.ref x,.str name s.toks]) _ _ _;refine pP ?_;refine DW PySem.F.attr_ValueError.ga.plain PySem.F.entry_bexc_ga ?_;refine @PySem.W.check_slot (model prog w) _ _ {s with toks:=s.toks+1} "BaseException.__getattribute__" "BaseException" "__getattribute__" (.ref x) [.str name s.toks] [] _ (by decide+kernel) (by decide+kernel) (ht.andThen (PySem.W.looks_mroIn X hm)) (PySem.F.args_bexc_ga (.ref x) (.str name s.toks)) ?_;unfold Builtin.«object.__getattribute__»;refine ah (aC ?_);refine ah (aC ?_);refine ah (ht _ _ _ _ (fun _ _ e=>e) ?_);refine ah (PySem.W.looks_find X I hf _ _ _ _ (fun _ _ e=>e) ?_);refine aC ?_;show wpAny _ _ (handedOut v) _ _ _;rw[PySem.W.handedOut_of hh];exact aC h
end
structure ExcG(K:Frag)(C:Addr):Prop where
 ga:PySem.W.findIn K (.ref C) "__getattribute__"=some (some (.builtin "BaseException.__getattribute__"))
 hk:PySem.W.findIn K (.ref C) "__getattr__"=some none
 mro:PySem.W.mroIn K C (.type "BaseException")=some true
 hd:PySem.W.hasDictIn K C=true
section
variable{X:Cx}{e:Expr}{f:Str}{pos:Pos}{ta:TE}
theorem Kn{pins:aJ}{σ:St}{H:Hp}{s:Shared}{a C dx:Addr}{n b:Bool}{fs:iG}{v:V}{A:Around}{E:Value→Shared→Prop}{Q:Value→Shared→Prop}(I:Inv X pins σ H s)(e:H a=some (.ext (c8 a C (some dx) n)))(ed:H dx=some (.xd fs))
 (c:ExcG X.K C) (na:dv X.K C f) (l:fs.lookup f=some v) (h:∀u s',Inv X pins σ H s'→RelV v u→Q u s'):wpAny (model X.prog X.w) A (getAttr (.ref a) f b) Q E s:=by
 obtain⟨vs,he,_,_⟩:=n6 I.bE e;obtain⟨mA,ns,r⟩:=(show bI X.prog X.w H s.heap dx (.xd fs) from I.bE dx _ ed);obtain⟨od,ho,hl⟩:=Bv ns;obtain⟨u,hu,ru⟩:=l4.some_of (v:=v) (o:=mA f) (by rw[←l];exact r f);exact EA I.je ⟨he,rfl,rfl,ho⟩ c.ga c.hk c.mro (findObj_own c.hd na rfl (by rw[hl,hu])) (BA ru) (h u _ (I.tok _) ru)
noncomputable def T9(K:Frag)(ta:TE)(f:Str):TE:=fun σ H Q=>ta σ H fun x H1=>∃a C dx n fs v,x= .ref a∧H1 a=some (.ext (c8 a C (some dx) n))∧H1 dx=some (.xd fs)∧ExcG K C∧dv K C f∧fs.lookup f=some v∧Q v H1
theorem OA(he:PE X e ta)(hb:attributeBase e f X.env (eval e X.env)=eval e X.env):PE X (.Attribute e f pos) (T9 X.K ta f):=by
 intro pins s σ H Q I h;refine IJ hb (ck (he pins s σ H _ I h) fun u s1 ⟨x,H1,I1,rx,a,C,dx,n,fs,v,ex,ea,ed,c,na,l,q⟩=> ?_);subst ex;obtain rfl:u=Value.ref a:=rx;exact Kn I1 ea ed c na l fun u' s2 I2 ru=>⟨v,H1,I2,ru,q⟩
end
noncomputable def A8(P:Program)(w:World):tD:=fun outer H s E e s' =>∃(a C:Addr) (dd:Option Addr) (T:Addr) (oe:Obj) (H' :Hp),e= .ref a∧s'.os=s.os∧AllBare s'.gens∧Un (A5 outer) [] H H' s.heap s'.heap∧m8 P w H' s'.heap∧
 H' a=some (.ext (c8 a C dd false))∧Ks s'.heap a T oe∧H' T=none∧s.heap.objs.size≤T∧E (.ref C) dd H'
noncomputable def Au(X:Cx)(pins:aJ)(H:Hp)(h:Heap)(a:Addr):Prop:=(∃oe vs,h.get? a=some oe∧oe.data= .fields vs∧vs[1]? =some .none)∨∃T oe,Ks h a T oe∧H T=none∧X.eV.heap.objs.size≤T∧∀p∈X.pn++pins,p.1≠T
section
variable{X:Cx}{pins:aJ}{σ:St}{H:Hp}{s:Shared}{a C:Addr}{dd:Option Addr}{n:Bool}{E:XK}
theorem BN(I:Inv X pins σ H s)(mv:X.stack=X.env::X.outer)(sE:X.env.frame=some X.env.locals)(hex:X.ex=[])(e:H a=some (.ext (c8 a C dd n)))(fl:Au X pins H s.heap a)(q:E (.ref C) dd (upd H a (.ext (c8 a C dd false)))){Ex:Value→Shared→Prop}:
 wpAny (model X.prog X.w) X.A (leaving X.env (.ref a)) (fun _ Nw =>A8 X.prog X.w X.outer X.H₀ X.eV E (.ref a) Nw) Ex s:=by
 obtain⟨vs,he,hv,hn⟩:=n6 I.bE e;have HN:X.A.frames=some (X.env::X.outer):=by rw[←mv];exact I.ok.frames
 have hl:s.heap.FunFrames X.base (X.env::X.outer):=by rw[←mv];exact I.stack
 have CT:∀b∈(X.env::X.outer).filterMap (·.frame),H b=none:=fun b hb=>I.vd b (by rw[mv];exact hb)
 have mem:∀b,b∈(X.env::X.outer).filterMap (·.frame)→b=X.env.locals∨b∈X.fs:=fun b hb=>by
  rw[mh,sE] at hb;rcases aU.mp hb with z|z
  ·exact .inl z
  ·exact .inr z
 have fin:∀(h' :Heap) (T T' :Addr),(X.eV.heap.objs.size≤T∨T=a)→(H T=none∨T=a)→s.heap.objs.size≤T'→Ks h' a T' (({cls:= .ref C,dict:=dd,data:= .fields vs}:Obj).mapFields (·.setIfInBounds 1 (.ref T')))→
  (∀b o,b≠a→b≠T→b∉(X.env::X.outer).filterMap (·.frame)→s.heap.get? b=some o→h'.get? b=some o)→(∀b o,b≠a→b≠T→s.heap.get? b=some o→∃sl,h'.get? b=some {o with slots:=sl})→
  A8 X.prog X.w X.outer X.H₀ X.eV E (.ref a) {s with heap:=h'}:=by
  intro h' T T' hT1 hT2 Ig f k1 k2;have Yx:H T' =none:=I.bE.fresh Ig;have Dk :∀b,H b=none→b≠a:=fun b z z' =>by rw[z',e] at z;cases z
  have old:∀b o,X.eV.heap.get? b=some o→b≠T∨T=a:=fun b o z=>by
   rcases hT1 with y|y
   ·exact .inl fun z' =>absurd (cf (aQ z) (by rw[z'];exact y)) (b7 _)
   ·exact .inr y
  refine⟨a,C,dd,T',_,upd H a (.ext (c8 a C dd false)),rfl,I.os,I.bare,⟨fun b o z z0 hb _=> ?_,fun b o z z0 hb _=> ?_,fun b o z z0 _=> ?_,fun b o z _=> ?_,fun b xs z=> ?_,fun b o u z=> ?_,fun b ps z=> ?_⟩,fun b u z=> ?_,aa,f,?_,aR I.sz Ig,q⟩
  ·have hx:b∉X.ex:=by rw[hex];simp
   have g:=I.base.keep b o z z0 hb hx;have g0:=I.base.free b o z z0 hx;refine k1 b o (Dk b g0) ?_ (fun hm=> ?_) g
   ·rcases old b o z with y|y
    ·exact y
    ·rw[y];exact Dk b g0
   ·rcases mem b hm with y|y
    ·exact absurd (cf (aQ z) (by rw[y];exact I.ok.above)) (b7 _)
    ·exact hb y
  ·have hx:b∉X.ex:=by rw[hex];simp
   obtain⟨sl,g⟩:=I.base.slot b o z z0 hb hx;have g0:=I.base.free b o z z0 hx
   obtain⟨sl',g'⟩:=k2 b _ (Dk b g0) (by
    rcases old b o z with y|y
    ·exact y
    ·rw[y];exact Dk b g0) g
   exact⟨sl',g'⟩
  ·have hx:b∉X.ex:=by rw[hex];simp
   have g0:=I.base.free b o z z0 hx;rw[av (Dk b g0)];exact g0
  ·have hx:b∉X.ex:=by rw[hex];simp
   obtain⟨o',g⟩:=I.base.there b o z hx;by_cases OY:b=a
   ·rw[OY];exact⟨_,f.at_⟩
   ·by_cases GZ:b=T
    ·rcases old b o z with y|y
     ·exact absurd GZ y
     ·exact absurd (GZ.trans y) OY
    ·obtain⟨sl,g'⟩:=k2 b o' OY GZ g;exact⟨_,g'⟩
  ·have g:=I.base.Bf b xs z;rw[av (fun y=>by rw[y,e] at g;cases g)];exact g
  ·have g:=I.base.zr b o u z;rw[av (fun y=>by rw[y,e] at g;cases g)];exact g
  ·obtain⟨more,g⟩:=I.base.Ad b ps z;refine⟨more,?_⟩;rw[av (fun y=>by rw[y,e] at g;cases g)];exact g
  ·by_cases hb:b=a
   ·subst hb;rw[aa] at z;cases z;exact wc ⟨_,f.at_,by simp[hv],fun y=>nomatch y⟩
   ·rw[av hb] at z;have KS:∀c u',H c=some u'→c∉(X.env::X.outer).filterMap (·.frame):=fun c u' y hm=>by rw[CT c hm] at y;cases y
    have LZ:∀c u',c≠a→H c=some u'→c≠T:=fun c u' ya y y' =>by
     rcases hT2 with t|t
     ·rw[y',t] at y;cases y
     ·exact ya (y'.trans t)
    refine(I.bE b u z).xT (fun c v hc y=> ?_) (fun c y=> ?_) fun c ys y=> ?_
    ·rcases hc with y' |y'
     ·subst y';exact k1 c v hb (LZ c u hb z) (KS c u z) y
     ·have Zm:c≠a:=fun w' =>by rw[w',e] at y';cases y'
      exact k1 c v Zm (LZ c _ Zm y') (KS c _ y') y
    ·rw[av (fun w' =>by rw[w',e] at y;cases y)];exact y
    ·rw[av (fun w' =>by rw[w',e] at y;cases y)];exact y
  ·rw[av (Dk _ Yx)];exact Yx
 rcases fl with⟨oe,vs',h1,h2,h3⟩|⟨T,oe,f,hT0,hT,_⟩
 ·rw[he] at h1;cases h1;cases h2;refine EV (base:=X.base) HN hl sE he rfl h3 fun h' T' Ig f k1 k2=>fin h' a T' (.inr rfl) (.inr rfl) Ig f (fun b o hb _ hf g=>k1 b o hb hf g) (fun b o hb _ g=>k2 b o hb g)
 ·have Vr:oe={cls:= .ref C,dict:=dd,data:= .fields vs}:=by
   have:=f.at_;rw[he] at this;cases this;rfl
  subst Vr;refine GJ (base:=X.base) HN hl sE f fun h' T' Ig f' k1 k2=>fin h' T T' (.inl hT) (.inl hT0) Ig f' k1 k2
theorem Cb{e:Value}{s' :Shared}(I:Inv X pins σ H s)(h:A8 X.prog X.w X.stack H s E e s'):∃(a C:Addr) (dd:Option Addr) (H' :Hp),e= .ref a∧Inv X pins σ H' s'∧H' a=some (.ext (c8 a C dd false))∧Au X pins H' s'.heap a∧E (.ref C) dd H' :=by
 obtain⟨a,C,dd,T,oe,H',rfl,os,bare,un,bE,ea,f,hT,QP,q⟩:=h;exact⟨a,C,dd,H',rfl,I.QY os un bE bare (fun b z=>absurd z (by simp)),ea,.inr ⟨T,oe,f,hT,aR I.sz QP,fun p hp z=>absurd (cf (aQ (I.pin p hp).1) (by rw[z];exact QP)) (b7 _)⟩,q⟩
end
section
variable{M:Model}{A:Around}{E:Value→Shared→Prop}{env:Env}
variable{nm q:Str}{C N:Addr}{bs bm:aD}{gX:Bool}{sn:ao}{sub:aD}{ab:Bool}{col:Option Bool}{dd:Option Addr}{k0 k1 k2 k3 k5:aI}{newId:String}
theorem l8{s:Shared}{x:Sem Value}{Q:Flow→Shared→Prop}(hh:A.handled=none)
 (h:wpAny M A x (fun v bC=>∃(e C N:Addr) (de:Option Addr) (vs:Array Value) (nm q:Str) (bs bm:aD) (gX:Bool) (sn:ao) (sub:aD) (ab:Bool) (col:Option Bool) (dd:Option Addr) (k0 k1 k2 k3 k5:aI),v= .ref e∧bC.heap.get? C=some (excClassObj nm q C N bs bm gX sn sub ab col dd k0 k1 k2 k3 k5 "ValueError.__new__")∧bm.contains (.type "BaseException")=true∧
  bC.heap.get? e=some {cls:= .ref C,dict:=de,data:= .fields vs}∧vs[1]? =some .none∧E (.ref e) bC) E s):
 wpAny M A (raiseStmt env (some x) none) Q E s:=by
 unfold raiseStmt;refine ah (eA h (fun v bC h₁=> ?_) fun _ _ x=>x);obtain⟨e,C,N,de,vs,nm,q,bs,bm,gX,sn,sub,ab,col,dd,k0,k1,k2,k3,k5,rfl,hC,uU,he,h1,hE⟩:=h₁;have Me:(Value.ref C::bm).contains (.type "BaseException")=true:=by rw[nt,uU,nh]
 obtain⟨hp,g,d,tk,os⟩:=bC
 repeat (first|with_reducible refine gE he ?_|with_reducible refine cc he rfl h1 ?_|with_reducible refine gE hC ?_|(with_reducible refine mf hC ?_;rw[Me])|wp_step)
 exact wpAny_raiseNew_none hh hE
end
section
variable{X:Cx}{e:Expr}{pos:Pos}{t:TE}{E:XK}
noncomputable def MS(K:Frag)(E:XK)(t:TE):TS:=fun _ σ H=>t σ H fun v H1=>∃a C dd,v= .ref a∧H1 a=some (.ext (c8 a C dd true))∧ExcC K C∧E (.ref C) dd (upd H1 a (.ext (c8 a C dd false)))
noncomputable def BB(X:Cx)(E:XK):Prop:=∀(pins:aJ) (σ:St) (H:Hp) (s:Shared) (a C:Addr) (dd:Option Addr) (n:Bool),Inv X pins σ H s→H a=some (.ext (c8 a C dd n))→Au X pins H s.heap a→E (.ref C) dd (upd H a (.ext (c8 a C dd false)))→X.xe (.ref a) s
theorem kh(hc:X.calm=true)(hw:BB X E)(he:PE X e t):PS X (.Raise (some e) none pos) (MS X.K E t):=by
 intro pins s σ H D I h;rw[arm_exec_Raise]
 have key:wpAny (model X.prog X.w) X.A (do let v←eval e X.env;standAt pos;pure v) (fun v bC=>∃(e C N:Addr) (de:Option Addr) (vs:Array Value) (nm q:Str) (bs bm:aD) (gX:Bool) (sn:ao) (sub:aD) (ab:Bool) (col:Option Bool) (dd:Option Addr) (k0 k1 k2 k3 k5:aI),v= .ref e∧bC.heap.get? C=some (excClassObj nm q C N bs bm gX sn sub ab col dd k0 k1 k2 k3 k5 "ValueError.__new__")∧bm.contains (.type "BaseException")=true∧
  bC.heap.get? e=some {cls:= .ref C,dict:=de,data:= .fields vs}∧vs[1]? =some .none∧X.xe (.ref e) bC) X.xe s:=by
  refine ah (ck (he pins s σ H _ I h) fun u s1 ⟨v,H1,I1,r1,a,C,dd,ev,ea,c,q⟩=> ?_);subst ev;obtain rfl:u=Value.ref a:=r1;refine ah (pM (aC ?_));obtain⟨nm,q',N,bs,bm,gX,sn,sub,ab,col,HS,k0,k1,k2,k3,k5,lk,T⟩:=c.obj;obtain⟨vs,hea,hv,hn⟩:=n6 I1.bE ea;exact⟨a,C,N,dd,vs,nm,q',bs,bm,gX,sn,sub,ab,col,HS,k0,k1,k2,k3,k5,rfl,I1.je _ _ lk,T.hasBase,hea,hn rfl,hw pins σ H1 s1 a C dd true I1 ea (.inl ⟨_,vs,hea,rfl,hn rfl⟩) q⟩
 first
  |exact ah (pM (l8 (I.ok.hd hc) key))
  |(simp only[evalOpt,Option.map];exact ah (pM (l8 (I.ok.hd hc) key)))
  |(show wpAny _ _ (do standAt pos;raiseStmt X.env (some (do let v←eval e X.env;standAt pos;pure v)) none) _ _ s;exact ah (pM (l8 (I.ok.hd hc) key)))
theorem mQ(hw:BB X E)(mv:True):wn (A8 X.prog X.w) X E:=by
 intro pins σ H s e s' I h;obtain⟨a,C,dd,H',rfl,I',ea,fl,q⟩:=Cb I h;refine hw pins σ H' s' a C dd false I' ea fl ?_;rw[uC ea];exact q
end
theorem eX{P:Program}{w:World}{K:Frag}{mg:Str→aI}{base:Heap}{N:ao}{qual:Str}{scope:Scope}{f:Addr}{cd:Value}{A:Around}{outer:List Env}{s:Shared}{H:Hp}{E:XK}
 (sE:(envOfC qual scope s.heap.objs.size f cd).frame=some s.heap.objs.size:=by rfl):BB (kP (A8 P w) P w K mg base N qual scope f cd A outer s H E) E:=by
 intro pins σ H1 s1 a C dd n I ea fl q;exact BN I rfl sE rfl ea fl q
section
variable{M:Model}{A:Around}{E:Value→Shared→Prop}{s:Shared}
theorem Hk{base:Heap}{env:Env}{outer:List Env}{L e:Addr}{oe:Obj}{vs:Array Value}{Q:Unit→Shared→Prop}
 (sE:A.frames=some (env::outer)) (hl:s.heap.FunFrames base (env::outer)) (hf:env.frame=some L)
 (he:s.heap.get? e=some oe) (hd:oe.data= .fields vs) (h1:vs[1]? =some .none)
 (h:∀h' T,s.heap.objs.size≤T→Ks h' e T (oe.mapFields (·.setIfInBounds 1 (.ref T)))→(∀b o,b≠e→b∉(env::outer).filterMap (·.frame)→s.heap.get? b=some o→h'.get? b=some o)→
  (∀b o,b≠e→s.heap.get? b=some o→∃sl,h'.get? b=some {o with slots:=sl})→Q () {s with heap:=h'}):wpAny M A (noteFrame (.ref e) env) (fun _ s' =>wpAny M A (setFlight (.ref e) none) Q E s') E s:=by
 unfold noteFrame;simp only[hf];refine ah (cc he hd h1 ?_);rw[ay (by decide)];exact qJ sE hl hf he hd (sW.mp h1).1 h
theorem JC{base:Heap}{env:Env}{outer:List Env}{L e T:Addr}{oe:Obj}{Q:Unit→Shared→Prop}
 (sE:A.frames=some (env::outer)) (hl:s.heap.FunFrames base (env::outer)) (hf:env.frame=some L) (ht:Ks s.heap e T oe)
 (h:∀h' T',s.heap.objs.size≤T'→Ks h' e T' (oe.mapFields (·.setIfInBounds 1 (.ref T')))→(∀b o,b≠e→b≠T→b∉(env::outer).filterMap (·.frame)→s.heap.get? b=some o→h'.get? b=some o)→
  (∀b o,b≠e→b≠T→s.heap.get? b=some o→∃sl,h'.get? b=some {o with slots:=sl})→Q () {s with heap:=h'}):wpAny M A (noteFrame (.ref e) env) (fun _ s' =>wpAny M A (setFlight (.ref e) none) Q E s') E s:=by
 obtain⟨he,⟨vs,hd,h1⟩,N8,oT,ts,hT,iQ,h3⟩:=ht;unfold noteFrame;simp only[hf];refine ah (cc he hd h1 ?_);rw[aA (show(Value.ref T !=Value.none)=true from by simp)];refine ah (cc hT iQ h3 ?_);rw[ay (show ¬((Value.none==rawInt L)=true) from by simp[rawInt])];refine ah (nB hT iQ (sW.mp h3).1 ?_);have other:∀b,b≠T→(s.heap.update T (Obj.mapFields (·.setIfInBounds 3 Value.none))).get? b=s.heap.get? b:=fun b hb=>fL _ _ (bK hb)
 have zU:∀b o,s.heap.get? b=some o→(∀vs,o.data≠.fields vs)→b≠T:=fun b o hb Ol q=>by
  rw[q,hT] at hb;injection hb with hb;subst hb;exact Ol ts iQ
 refine qJ sE (hl.of_keeps fun b o hb Ol=>⟨o,(other b (zU b o hb Ol)).trans hb,rfl⟩) hf ((other e (bK N8)).trans he) hd (sW.mp h1).1
  fun h' T' hn fl k1 k2=>h h' T' ?_ fl (fun b o AS GZ WH hb=>k1 b o AS WH ((other b GZ).trans hb)) fun b o AS GZ hb=>k2 b o AS ((other b GZ).trans hb)
 have E6 :(s.heap.update T (Obj.mapFields (·.setIfInBounds 3 Value.none))).objs.size≤T' :=hn;rw[Heap.size_after_update] at E6;exact E6
end
structure Ng(X:Cx)(pins:aJ)(H:Hp)(h:Heap)(a T:Addr):Prop where
 fly:∃oe,Ks h a T oe
 no:H T=none
 young:X.eV.heap.objs.size≤T
 pin:∀p∈X.pn++pins,p.1≠T
section
variable{X:Cx}{pins:aJ}{σ:St}{H:Hp}{s:Shared}{a C:Addr}{dd:Option Addr}{n:Bool}
theorem Inv.Sb{h' :Heap}{T T' :Addr}{vs:Array Value}(I:Inv X pins σ H s)(mv:X.stack=X.env::X.outer)(sE:X.env.frame=some X.env.locals)(e:H a=some (.ext (c8 a C dd n)))(hv:vs.size=6)
 (hT:T=a∨(H T=none∧X.eV.heap.objs.size≤T∧(∀p∈X.pn++pins,p.1≠T)∧∃oT ts,s.heap.get? T=some oT∧oT.data= .fields ts)) (he:h'.get? a=some {cls:= .ref C,dict:=dd,data:= .fields vs})
 (k1:∀b o,b≠a→b≠T→b∉(X.env::X.outer).filterMap (·.frame)→s.heap.get? b=some o→h'.get? b=some o) (k2:∀b o,b≠a→b≠T→s.heap.get? b=some o→∃sl,h'.get? b=some {o with slots:=sl}):
 Inv X pins σ (upd H a (.ext (c8 a C dd false))) {s with heap:=h'}:=by
 have CT:∀b∈(X.env::X.outer).filterMap (·.frame),H b=none:=fun b hb=>I.vd b (by rw[mv];exact hb)
 have mem:∀b,b∈(X.env::X.outer).filterMap (·.frame)→b=X.env.locals∨b∈X.fs:=fun b hb=>by
  rw[mh,sE] at hb;rcases aU.mp hb with z|z
  ·exact .inl z
  ·exact .inr z
 have Dk :∀b,H b=none→b≠a:=fun b z z' =>by rw[z',e] at z;cases z
 obtain⟨m0,⟨oL,esL,epL,hL,Y8,rL⟩,_⟩:=id I.loc
 have LT:X.env.locals≠T:=fun z=>by
  rcases hT with y|⟨_,_,_,oT,ts,g1,g2⟩
  ·exact Dk _ I.free (z.trans y)
  ·rw[z,g1] at hL;cases hL;rw[g2] at Y8;cases Y8
 have chT:∀b,b∉(if T=a then[] else[T]:bP)→b≠a→b≠T:=fun b hb OY z=>by
  by_cases Xo:T=a
  ·exact OY (z.trans Xo)
  ·rw[ay Xo] at hb;exact hb (by rw[z];simp)
 refine I.step (g' :=s.gens) (t' :=s.toks) (d' :=s.drawn) (ch:=if T=a then[] else[T]) (fun b hb=> ?_) (fun b o hbL WH hc q z=>k1 b o (Dk b z) (chT b hc (Dk b z)) (fun hm=>(mem b hm).elim hbL WH) q) (fun b o _ _ hc q z=>k2 b o (Dk b z) (chT b hc (Dk b z)) q)
  (fun b o _ q z=>by rw[av (Dk b z)];exact z) (fun b o hc q=> ?_) (fun b xs z=> ?_) (fun b o u z=> ?_) (fun b ps z=>⟨#[],?_⟩) (fun m hm=> ?_) (fun b u z=> ?_) I.bare
 ·by_cases Xo:T=a
  ·rw[aA Xo] at hb;cases hb
  ·rw[ay Xo] at hb;have hb:b=T:=by simpa using hb
   subst hb;rcases hT with y|⟨g0,g1,g2,oT,ts,g3,g4⟩
   ·exact absurd y Xo
   ·refine⟨.inr g1,bK LT,fun x c q z=> ?_,g2⟩;obtain⟨v,o,ho,hd⟩:=I.cell x c q;rw[z,g3] at ho;cases ho;rw[g4] at hd;cases hd
 ·by_cases OY:b=a
  ·rw[OY];exact⟨_,he⟩
  ·obtain⟨sl,g⟩:=k2 b o OY (chT b hc OY) q;exact⟨_,g⟩
 ·rw[av (fun y=>by rw[y,e] at z;cases z)];exact z
 ·rw[av (fun y=>by rw[y,e] at z;cases z)];exact z
 ·rw[av (fun y=>by rw[y,e] at z;cases z),z];simp
 ·obtain⟨o,es,ep,q,hd,r⟩:=hm;obtain⟨sl,g⟩:=k2 _ o (Dk _ I.free) LT q;exact⟨_,es,ep,g,hd,r⟩
 ·by_cases hb:b=a
  ·subst hb;rw[aa] at z;cases z;exact wc ⟨vs,he,hv,fun y=>nomatch y⟩
  ·rw[av hb] at z;have KS:∀c u',H c=some u'→c∉(X.env::X.outer).filterMap (·.frame):=fun c u' y hm=>by rw[CT c hm] at y;cases y
   have LZ:∀c u',c≠a→H c=some u'→c≠T:=fun c u' ya y y' =>by
    rcases hT with t|⟨t,_⟩
    ·exact ya (y'.trans t)
    ·rw[y',t] at y;cases y
   refine(I.bE b u z).xT (fun c v hc y=> ?_) (fun c y=> ?_) fun c ys y=> ?_
   ·rcases hc with y' |y'
    ·subst y';exact k1 c v hb (LZ c u hb z) (KS c u z) y
    ·have Zm:c≠a:=fun w' =>by rw[w',e] at y';cases y'
     exact k1 c v Zm (LZ c _ Zm y') (KS c _ y') y
   ·rw[av (fun w' =>by rw[w',e] at y;cases y)];exact y
   ·rw[av (fun w' =>by rw[w',e] at y;cases y)];exact y
theorem Cs{M:Model}{E:Value→Shared→Prop}{Q:Unit→Shared→Prop}(I:Inv X pins σ H s)(mv:X.stack=X.env::X.outer)(sE:X.env.frame=some X.env.locals)(e:H a=some (.ext (c8 a C dd n)))(fl:Au X pins H s.heap a)
 (h:∀s' T,Inv X pins σ (upd H a (.ext (c8 a C dd false))) s'→Ng X pins (upd H a (.ext (c8 a C dd false))) s'.heap a T→Q () s'):
 wpAny M X.A (noteFrame (.ref a) X.env) (fun _ s' =>wpAny M X.A (setFlight (.ref a) none) Q E s') E s:=by
 obtain⟨vs,he,hv,hn⟩:=n6 I.bE e;have HN:X.A.frames=some (X.env::X.outer):=by rw[←mv];exact I.ok.frames
 have hl:s.heap.FunFrames X.base (X.env::X.outer):=by rw[←mv];exact I.stack
 have Dk :∀b,H b=none→b≠a:=fun b z z' =>by rw[z',e] at z;cases z
 have hold:∀{h' :Heap} {T' :Addr} {oe:Obj},s.heap.objs.size≤T'→Ks h' a T' oe→Ng X pins (upd H a (.ext (c8 a C dd false))) h' a T' :=fun{h' T' oe} hT f=>
  ⟨⟨oe,f⟩,by rw[av (Dk _ (I.bE.fresh hT))];exact I.bE.fresh hT,aR I.sz hT,fun p hp z=>absurd (cf (aQ (I.pin p hp).1) (by rw[z];exact hT)) (b7 _)⟩
 rcases fl with⟨oe,vs',h1,h2,h3⟩|⟨T,oe,f,hT0,hT,hTp⟩
 ·rw[he] at h1;cases h1;cases h2;exact Hk (base:=X.base) HN hl sE he rfl h3 fun h' T' Ig f k1 k2=>h _ T' (I.Sb (vs:=vs.setIfInBounds 1 (.ref T')) (T:=a) (T' :=T') mv sE e (by simp[hv]) (.inl rfl) f.at_ (fun b o hb _ hf g=>k1 b o hb hf g) fun b o hb _ g=>k2 b o hb g) (hold Ig f)
 ·have Vr:oe={cls:= .ref C,dict:=dd,data:= .fields vs}:=by
   have:=f.at_;rw[he] at this;cases this;rfl
  subst Vr;obtain⟨oT,ts,g1,g2,_⟩:=f.tr;exact JC (base:=X.base) HN hl sE f fun h' T' Ig f' k1 k2=>h _ T' (I.Sb (vs:=vs.setIfInBounds 1 (.ref T')) (T:=T) (T' :=T') mv sE e (by simp[hv]) (.inr ⟨hT0,hT,hTp,oT,ts,g1,g2⟩) f'.at_ k1 k2) (hold Ig f')
end
section
variable{X:Cx}{pins:aJ}{σ:St}{H:Hp}{s:Shared}{a T:Addr}
noncomputable abbrev Cx.pI(X:Cx)(a:Addr)(E:Value→Shared→Prop):Cx:={X with A:=X.A.mark (some (.ref a)),calm:=false,xe:=E}
theorem Inv.pI(I:Inv X pins σ H s)(a:Addr)(E:Value→Shared→Prop):Inv (X.pI a E) pins σ H s:=
 ⟨⟨I.ok.mod,I.ok.kind,I.ok.glob,I.ok.blt,I.ok.above,I.ok.inj,I.ok.has,I.ok.R1,(fun z=>nomatch z),I.ok.frames,I.ok.Qe,I.ok.exf,I.ok.bs,I.ok.Kc,I.ok.G0,I.ok.JN,I.ok.qS,I.ok.NW⟩,I.os,I.bare,I.base,I.loc,I.cell,I.free,I.i4,I.pin,I.bE,I.len⟩
theorem Inv.pw{E:Value→Shared→Prop}(ok:X.Ok)(I:Inv (X.pI a E) pins σ H s):Inv X pins σ H s:=⟨ok,I.os,I.bare,I.base,I.loc,I.cell,I.free,I.i4,I.pin,I.bE,I.len⟩
noncomputable abbrev Cx.pinned(X:Cx)(pn:aJ)(E:Value→Shared→Prop):Cx:={X with pn:=X.pn++pn,xe:=E}
theorem Inv.E1(I:Inv X pins σ H s)(E:Value→Shared→Prop):Inv (X.pinned pins E) [] σ H s:=
 ⟨⟨I.ok.mod,I.ok.kind,I.ok.glob,I.ok.blt,I.ok.above,I.ok.inj,I.ok.has,I.ok.R1,I.ok.hd,I.ok.frames,I.ok.Qe,I.ok.exf,I.ok.bs,I.ok.Kc,I.ok.G0,I.ok.JN,I.ok.qS,I.ok.NW⟩,I.os,I.bare,I.base,I.loc,I.cell,I.free,I.i4,fun p hp=>I.pin p (by simpa using hp),I.bE,I.len⟩
theorem Inv.ofPinned{E:Value→Shared→Prop}{BG :aJ}(ok:X.Ok)(I:Inv (X.pinned pins E) BG σ H s):Inv X pins σ H s:=
 ⟨ok,I.os,I.bare,I.base,I.loc,I.cell,I.free,I.i4,fun p hp=>I.pin p (tm _ hp),I.bE,I.len⟩
theorem Inv.IL{h' :Heap}{t' i:Nat}{x:Str}{u:aI}{m:Str→aI}(I:Inv X pins σ H s)(hN:X.N.Nodup)(hi:X.N[i]? =some x)(hm:s.heap.Ns X.env.locals m)(hn:h'.Ns X.env.locals (fun y=>if y=x then u else m y))(sb:Heap.SameBut X.env.locals s.heap h'):
 Inv X pins (σ.set i none) H {s with heap:=h',toks:=t'}:=by
 have old:∀b o,X.eV.heap.get? b=some o→b≠X.env.locals:=fun b o q z=>absurd (cf (aQ q) (by rw[z];exact I.ok.above)) (b7 _);have Zn:=I.free;refine⟨I.ok,I.os,I.bare,⟨fun b o q z hb hx=> ?_,fun b o q z hb hx=> ?_,I.base.free,fun b o q hx=> ?_,I.base.Bf,I.base.zr,I.base.Ad⟩,⟨_,hn,fun j y v e1 e2 e3=> ?_⟩,fun y c q=> ?_,I.free,I.i4,fun p hp=> ?_,fun b o q=> ?_,?_⟩
 ·exact(sb.2 b (old b o q)).trans (I.base.keep b o q z hb hx)
 ·obtain⟨sl,g⟩:=I.base.slot b o q z hb hx;exact⟨sl,(sb.2 b (old b o q)).trans g⟩
 ·obtain⟨o',g⟩:=I.base.there b o q hx;exact⟨o',(sb.2 b (old b o q)).trans g⟩
 ·have hj:j≠i:=fun z=>by
   subst z;by_cases hl:j<σ.length
   ·rw[DK hl] at e2;cases e2
   ·rw[l0 (by rw[Cz];lia)] at e2;cases e2
  rw[yg (bK hj)] at e2;obtain⟨m0,hm0,hl⟩:=I.loc;obtain⟨w',Mv,lk⟩:=hl j y v e1 e2 e3
  have hyx:y≠x:=fun z=>by
   subst z;have h1:=(dq.mp e1).1;exact hj ((List.getElem?_inj h1 hN).mp (e1.trans hi.symm))
  refine⟨w',Mv,?_⟩;rcases lk with⟨k1,k2⟩|⟨k1,c,k2,k3⟩
  ·refine .inl ⟨k1,?_⟩;dsimp only;rw[ay hyx,show m=m0 from(Heap.Ns.eq_nsMap hm).trans (Heap.Ns.eq_nsMap hm0).symm];exact k2
  ·refine .inr ⟨k1,c,k2,?_⟩;obtain⟨o,g1,g2⟩:=k3;exact⟨o,(sb.2 c (I.N6 y c k2)).trans g1,g2⟩
 ·obtain⟨v,o,g1,g2⟩:=I.cell y c q;exact⟨v,o,(sb.2 c (I.N6 y c q)).trans g1,g2⟩
 ·obtain⟨g1,g2,g3,g4⟩:=I.pin p hp;exact⟨(sb.2 p.1 g3).trans g1,g2,g3,g4⟩
 ·refine(I.bE b o q).xT (fun c v hc g=>(sb.2 c ?_).trans g) (fun _ g=>g) fun _ _ g=>g;rcases hc with z|z
  ·rw[z];exact fun z' =>by rw[z',Zn] at q;cases q
  ·exact fun z' =>by rw[z',Zn] at z;cases z
 ·rw[Cz];exact I.len
theorem BS{M:Model}{A:Around}{E:Value→Shared→Prop}{Q:Unit→Shared→Prop}(I:Inv X pins σ H s)(hd:Ng X pins H s.heap a T)(h:∀s',Inv X pins σ H s'→Ng X pins H s'.heap a T→Q () s'):
 wpAny M A (setFlight (.ref a) none) Q E s:=by
 obtain⟨⟨oe,he,⟨vs,hdv,h1⟩,ne,oT,ts,hT,iQ,h3⟩,h0,hy,hp⟩:=hd;have hsz:3<ts.size:=(sW.mp h3).1;refine wpAny_setFlight_none he hdv h1 hT iQ hsz ?_;obtain⟨m0,⟨oL,esL,epL,hL,Y8,rL⟩,_⟩:=id I.loc;have LT:T≠X.env.locals:=fun z=>by rw[←z,hT] at hL;cases hL;rw[iQ] at Y8;cases Y8
 have I1:Inv X pins σ H {s with heap:=s.heap.update T (Obj.mapFields (·.setIfInBounds 3 .none))}:=I.turned (t' :=s.toks) (fun b o hb q=>by rw[fL _ _ (bK hb)];exact q) h0 LT (.inr hy)
  (fun x c q z=>by obtain⟨v,o,ho,hd⟩:=I.cell x c q;rw[z,hT] at ho;cases ho;rw[iQ] at hd;cases hd) hp
 refine h _ I1 ⟨⟨oe,by show(s.heap.update T _).get? a=_;rw[fL _ _ ne];exact he,⟨vs,hdv,h1⟩,ne,_,_,jk _ hT (z8 (n_ iQ _)),n_ iQ _,by simp[hsz]⟩,h0,hy,hp⟩
end
section
variable{M:Model}{A:Around}{E:Value→Shared→Prop}
theorem Ei{h:Heap}{g:Array GenState}{d:Drawn}{t:Nat}{os:OsState}{e C D N N' :Addr}{oe:Obj}{nm q nm' q' :Str}{bs bm Rp Vs :aD}{gX M6 :Bool}{sn sn' :ao}{sub U6 :aD}{ab ab' :Bool}{col Uw :Option Bool}{dd HS :Option Addr}{k0 k1 k2 k3 k5 j0 j1 j2 j3 j5:aI}{i j:String}{Q:Bool→Shared→Prop}
 (hC:h.get? C=some (excClassObj nm q C N bs bm gX sn sub ab col dd k0 k1 k2 k3 k5 i)) (hD:h.get? D=some (excClassObj nm' q' D N' Rp Vs M6 sn' U6 ab' Uw HS j0 j1 j2 j3 j5 j)) (he:h.get? e=some oe) (zx:oe.cls= .ref C) (uU:Vs.contains (.type "BaseException")=true)
 (CZ:(Value.ref C::bm).contains (.ref D)=true) (hq:Q true ⟨h,g,d,t,os⟩):wpAny M A (excMatches (.ref e) (.ref D)) Q E ⟨h,g,d,t,os⟩:=by
 have Me:(Value.ref D::Vs).contains (.type "BaseException")=true:=by rw[nt,uU,nh]
 have f:=tc_notTuple;unfold excMatches
 repeat (first|(with_reducible refine gE he ?_;rw[zx])|with_reducible refine gE hD ?_|(with_reducible refine mf hD ?_;rw[Me])|(with_reducible refine mf hC ?_;rw[CZ])|wp_step)
 exact hq
end
structure Under(K:Frag)(C D:Addr):Prop where
 ex:∃nm q N bs bm gX sn sub ab col dd k0 k1 k2 k3 k5 i,K.lookup C=some (excClassObj nm q C N bs bm gX sn sub ab col dd k0 k1 k2 k3 k5 i)∧(Value.ref C::bm).contains (.ref D)=true
section
variable{X:Cx}{body wH:List Stmt}{b0:Stmt}{rest:List ExceptHandler}{c nm:Str}{cp Ay pos:Pos}{tb:XK→TS}{th:TS}{i:Nat}{D:Addr}
noncomputable def zK(i:Nat)(D:Ends):Ends where
 nx:=fun σ H=>D.nx (σ.set i none) H
 rt:=D.rt
 bk:=fun σ H=>D.bk (σ.set i none) H
 ct:=fun σ H=>D.ct (σ.set i none) H
end
section
variable{P:Program}{w:World}{K:Frag}{mg:Str→aI}{base:Heap}
theorem EG.okX{x qual:Str}{st:Stmt}{f:Addr}{fd:FuncData}{N ps:ao}{k:Nat}{sp:Sp}(F:EG K x qual st f fd)(S:aE N ps (aq st))(len:∀vs H Q E,sp vs H Q E→vs.length=ps.length)
 (gu:∀(cj:Value) (A:Around) (outer:List Env) (s:Shared) (H:Hp) (vs:ak) (Q:VK) (E:XK),cZ k (A.deeper (envOfC qual (aq st) s.heap.objs.size f cj))→sp vs H Q E→
  ∃t,AO (kP (A8 P w) P w K mg base N qual (aq st) f cj A outer s H E) (cR st) t∧t {nx:=fun _ H' =>Q .bx H',rt:=Q} (start N vs) H):aM P w K mg base (A8 P w) (k+1) f fd ps sp:=by
 obtain⟨oc,od,kV,doc,pm,an,cj,ct,xI,rfl,lk,zR⟩:=F.ex;exact HI lk zR S len fun A outer s H vs Q E hr BC=>gu cj A outer s H vs Q E hr BC
end
section
variable{X:Cx}
theorem BP:∀{xs:ao} {us:aD},Vals (xs.map V.str) us→∃l:List (Str×Tok),us=strValues l∧l.map (·.1)=xs
 |[],_,.nil=>⟨[],rfl,rfl⟩
 |x::xs,_,.cons ⟨t,e⟩ r=>by
  obtain⟨l,rfl,rfl⟩:=BP r;subst e;exact⟨(x,t)::l,rfl,rfl⟩
theorem Oc:MtM X "str.join" (fun x vs H Q=>∃a b xs,x= .str a∧vs=[.ref b]∧H b=some (.lst (xs.map V.str))∧JoinOk a xs=true∧Q (.str (Txt.join a xs)) H):=by
 intro pins s σ H x vs v us Q I rx rv h;obtain⟨a,b,xs,rfl,rfl,hb,hj,q⟩:=h;obtain⟨t,rfl⟩:=rx;obtain⟨u,rfl,ru⟩:=rv.one;cases ru;obtain⟨z,its,n,r,hl,e⟩:=I.Ff hb;obtain⟨l,rfl,rfl⟩:=BP r;exact SC.join (x:=a) (D:=b) (l:=l) ⟨_,e,rfl,_,rfl⟩ rfl hj fun t' k=>⟨.str _,H,I.tok k,⟨t',rfl⟩,q⟩
end
end L2
namespace My
open PySem PySem.NumText PyProof.Rows L2
end My
namespace L2
open PySem PySem.Spec PySem.SeqAt PyProof.Rows
section
variable{X:Cx}
theorem GO:qp X (binaryOp .Mult) (fun x y H Q=>∃z n,x= .str z∧y= .int n∧MulOk z n∧Q (.str (Txt.mul z n)) H):=by
 intro pins s σ H x y v u Q I rx ry h;obtain⟨z,n,rfl,rfl,ok,q⟩:=h;obtain⟨t,rfl⟩:=rx;obtain⟨t',rfl⟩:=ry;exact SB.mul ok fun t' k=>⟨.str _,H,I.tok k,⟨t',rfl⟩,q⟩
theorem Bp(hu:X.A.units+100<cLine):qp X (compareOp .NotEq) (fun x y H Q=>∃d e,Dat H x d∧Dat H y e∧shaped d=true∧shaped e=true∧noMix d e=true∧Q (.bl (!PySem.Spec.same d e)) H):=by
 intro pins s σ H x y v u Q I rx ry h;obtain⟨d,e,hd,he,s1,s2,m,q⟩:=h;obtain⟨⟨as,rd⟩,_⟩:=hd.reads I.bE rx;obtain⟨⟨bs,re⟩,_⟩:=he.reads I.bE ry;exact ne_dataH_same rd re s1 s2 (by lia) m ⟨.bl _,H,I,rfl,q⟩
end
section
variable{X:Cx}{e:Expr}{f:Str}{pos:Pos}{ta:TE}{K:Frag}
theorem ix(hK:X.K=K)(he:PE X e ta)(hb:attributeBase e f X.env (eval e X.env)=eval e X.env):PE X (.Attribute e f pos) (T9 K ta f):=by
 subst hK;exact OA he hb
end
section
variable{X:Cx}{e:Expr}{es:cu}{st:Stmt}{sts:List Stmt}{te:TE}{ta:TA}{t u:TS}
structure PAm(X:Cx)(es:cu)(t:TA):Prop where
 h:PA X es t
structure PEm(X:Cx)(e:Expr)(t:TE):Prop where
 h:PE X e t
structure PSm(X:Cx)(st:Stmt)(t:TS):Prop where
 h:PS X st t
structure Fo(X:Cx)(sts:List Stmt)(t:TS):Prop where
 h:AO X sts t
theorem HK:PAm X [] uG:=⟨dr⟩
theorem b9(hs:∀(es:cu) (env:Env),starEach (e::es) env=(false,eval e env)::starEach es env)(ha:PE X e te)(hr:PAm X es ta):PAm X (e::es) (xv te ta):=⟨ae ha hr.h (hs _ _)⟩
theorem IE{pos:Pos}(h:PAm X es ta):PEm X (.List es pos) (VU ta):=⟨bg h.h⟩
theorem Ip{i:Nat}{x:Str}{pos pos' :Pos}(hN:X.N.Nodup)(hi:X.N[i]? =some x)(hx:Loc X.env.scope x)(he:PEm X e te)(hs:swapsWith e (some (.Name x pos')) pos.line X.env=pure false)(hf:X.fn x=true∨X.env.scope.names.lookup x=some .local):
 PSm X (.Assign [.Name x pos'] e pos) (JZ te (zQ i)):=⟨LS hN hi hx he.h hs hf⟩
theorem cJ(h1:PSm X st t)(h2:Fo X sts u):Fo X (st::sts) (P6 t u):=⟨ag h1.h h2.h⟩
theorem uc(h1:PSm X st t):Fo X [st] t:=⟨ai h1.h⟩
end
section
variable{P:Program}{w:World}{K:Frag}{mg:Str→aI}{base:Heap}
theorem EG.okM{x qual:Str}{st:Stmt}{f:Addr}{fd:FuncData}{N ps:ao}{k:Nat}{sp:Sp}(F:EG K x qual st f fd)(S:aE N ps (aq st))(len:∀vs H Q E,sp vs H Q E→vs.length=ps.length)
 (gu:∀(cj:Value) (A:Around) (outer:List Env) (s:Shared) (H:Hp) (vs:ak) (Q:VK) (E:XK),cZ k (A.deeper (envOfC qual (aq st) s.heap.objs.size f cj))→sp vs H Q E→
  ∃t,Fo (kP cK P w K mg base N qual (aq st) f cj A outer s H E).Gg (cR st) t∧t {nx:=fun _ H' =>Q .bx H',rt:=Q} (start N vs) H):aM P w K mg base cK (k+1) f fd ps sp:=
 F.ok S len fun cj A outer s H vs Q E hr h=>by
  obtain⟨t,h,q⟩:=gu cj A outer s H vs Q E hr h;exact⟨t,h.h,q⟩
end
end L2
namespace L2
open PySem PySem.Spec PyProof.Rows PySem.Builtin.ObjectAttr
structure acf(K:Frag)(C:Addr):Prop extends ExcG K C where
 ca:PySem.W.findIn K (.ref C) "__class__"=some (some (.builtin "object.__class__"))
 gt:PySem.W.specialIn K (.builtin "object.__class__") "__get__"=some (some (.builtin "getset_descriptor.__get__"))
 tk:PySem.W.takesIn K (.builtin "object.__class__")=some true
 mo:PySem.W.mroIn K C (.type "object")=some true
section
variable{K:Frag}{C:Addr}
variable{prog:Program}{w:World}{A:Around}{E:Value→Shared→Prop}{s:Shared}{x:Addr}{ox:Obj}{od:Option Obj}
end
section
variable{X:Cx}{K:Frag}
end
structure YV(k:Nat)(A:Around):Prop where
 dp:A.depth+3*k+5<recursionLimit
 un:A.units+16*k+200<cLine
 gd:A.guards=some []
structure agn(P:Program)(w:World)(K:Frag)(mg:Str→aI)(base:Heap)(k:Nat)(f:Addr)(fd:FuncData)(ps:ao)(sp:Sp):Prop where
 len:∀vs H Q E,sp vs H Q E→vs.length=ps.length
 run:∀(A:Around) (outer:List Env) (s:Shared) (H:Hp) (args:Args) (us:aD) (vs:ak) (Q:VK) (E:XK),YV k A→A0 P w K mg base A outer s H→BindsTo s fd args (ps.zip us)→Vals vs us→sp vs H Q E→
  codeAny (model P w) A (.call (.ref f) args) (CR cK outer P w H s Q E) s
section
variable{X:Cx}{k:Nat}{f:Addr}{fd:FuncData}{ps:ao}{sp:Sp}{x:Str}{p pos:Pos}{e:Expr}{es:cu}{t:TA}{K:Frag}
end
section
variable{X:Cx}
end
noncomputable def CK(CX:tD)(X:Cx)(E:St→XK):Prop:=∀(pins:aJ) (σ:St) (H:Hp) (s:Shared) (e:Value) (s' :Shared),Inv X pins σ H s→CX X.stack H s (E σ) e s'→X.xe e s'
noncomputable def FT(X:Cx)(E:St→XK):Prop:=∀(pins:aJ) (σ:St) (H:Hp) (s:Shared) (a C:Addr) (dd:Option Addr) (n:Bool),Inv X pins σ H s→H a=some (.ext (c8 a C dd n))→Au X pins H s.heap a→E σ (.ref C) dd (upd H a (.ext (c8 a C dd false)))→X.xe (.ref a) s
theorem GR{X:Cx}{E:St→XK}(hw:FT X E):CK (A8 X.prog X.w) X E:=by
 intro pins σ H s e s' I h;obtain⟨a,C,dd,H',rfl,I',ea,fl,q⟩:=Cb I h;refine hw pins σ H' s' a C dd false I' ea fl ?_;rw[uC ea];exact q
section
variable{X:Cx}{CX:tD}{k:Nat}{f C:Addr}{fd:FuncData}{ps:ao}{sp:Sp}{dvs:ak}{ds:aD}{E:St→XK}{x m:Str}{p pos apos:Pos}{e o:Expr}{es:cu}{ta:TE}{t:TA}
theorem Pa{pins:aJ}{σ:St}{H:Hp}{s:Shared}{Q:VK}{us:aD}{vs:ak}(F:aM X.prog X.w X.K X.mg X.base CX k f fd ps sp)(hr:cZ k X.A)(hb:Binds X.K fd ps ds)(hd:Vals dvs ds)(hx:CK CX X E)
 (I:Inv X pins σ H s) (r:Vals vs us) (h:sp (vs++dvs) H Q (E σ)):wpAny (model X.prog X.w) X.A (call (.ref f) us) (EP X pins σ Q) X.xe s:=by
 have r2:Vals (vs++dvs) (us++ds):=r.append hd;have hl:(us++ds).length=ps.length:=by rw[←r2.length];exact F.len _ _ _ _ h
 refine pP (pN (F.run X.A X.stack s H ⟨us,[]⟩ (us++ds) (vs++dvs) Q (E σ) hr I.OD (hb s us I.je hl) r2 h) fun r s' hq=> ?_)
 cases r with
 |error e=>exact hx pins σ H s e s' I hq
 |ok fl=>
  cases fl with
  |ret u=>exact I.after hq
  |next=>exact False.elim hq
  |brk=>exact False.elim hq
  |cont=>exact False.elim hq
noncomputable def Wd(C:Addr)(m:Str)(sp:Sp)(dvs:ak)(E:St→XK)(ta:TE)(t:TA):TE:=fun σ H Q=>ta σ H fun x H1=>∃a dx fs,x= .ref a∧H1 a=some (.ins C dx fs)∧fs.lookup m=none∧
 t σ H1 fun vs H2=>sp (x::(vs++dvs)) H2 Q (E σ)
theorem Na{pl:Sem Bool}(he:PE X o ta)(c:He X.K C)(hm:Meth X.K C m f)(F:aM X.prog X.w X.K X.mg X.base CX k f fd ps sp)(hr:cZ k X.A)(hb:Binds X.K fd ps ds)(hd:Vals dvs ds)(hx:CK CX X E)(ha:PA X (e::es) t)
 (mv:starEach (e::es) X.env=(false,eval e X.env)::starEach es X.env:=by rfl) (jN:(backTo pos (starEach es X.env)).any (·.1)=false:=by rfl)
 (ht:eval (.Call (.Attribute o m apos) (e::es) [] pos) X.env=(do
  let ov←eval o X.env
  standAt apos.atName
  let(f,first)←holding [ov] (getMethod ov m pl)
  callWith pos f first (backTo pos (starEach (e::es) X.env)) (backToKw pos (keywordEach [] X.env))):=by rfl):
 PE X (.Call (.Attribute o m apos) (e::es) [] pos) (Wd C m sp dvs E ta t):=by
 intro pins s σ H Q I h;refine qE (pl:=pl) (ck (he pins s σ H _ I h) fun u s1 ⟨x,H1,I1,rx,a,dx,fs,ex,ea,l,q⟩=> ?_) ht;subst ex;obtain rfl:u=Value.ref a:=rx;refine nX I1 ea c hm l ?_;refine o6 (first:=[.ref a]) (h₀:=X.base) I.ok.mod.tp hm.kp (ck (ha pos pins s1 σ H1 _ I1 q) fun us s2 ⟨vs,H2,I2,r,q2⟩=>⟨I2.je,?_⟩) mv jN;exact Pa (us:= .ref a::us) (vs:= .ref a::vs) F hr hb hd hx I2 (.cons rfl r) q2
end
section
variable{X:Cx}{body wH:List Stmt}{b0:Stmt}{rest:List ExceptHandler}{c nm:Str}{cp Ay pos:Pos}{tb:(St→XK)→TS}{th:TS}{i:Nat}{D:Addr}
noncomputable def Ss(K:Frag)(D:Addr)(i:Nat)(th:TS)(Ds:Ends):St→XK:=fun σ Cv dd H=>∃C,Cv= .ref C∧Under K C D∧∀(a:Addr),H a=some (.ext (c8 a C dd false))→th (zK i Ds) (σ.set i (some (.ref a))) H
noncomputable def Z3(K:Frag)(D:Addr)(i:Nat)(tb:(St→XK)→TS)(th:TS):TS:=fun Ds σ H=>tb (Ss K D i th Ds) Ds σ H
theorem Jd(mv:X.stack=X.env::X.outer)(sE:X.env.frame=some X.env.locals)(hN:X.N.Nodup)(hi:X.N[i]? =some nm)(zG:X.env.kindOf nm=some .local)(hg:Gl X c)(hm:X.mg c=some (.ref D))(hD:ExcC X.K D)
 (hb:∀(E:St→XK) (pn:aJ) (W:Value→Shared→Prop),FT (X.pinned pn W) E→AO (X.pinned pn W) body (tb E)) (hs:∀a,AO (X.pI a fun _ _=>False) (b0::wH) th) (se:(c==("__debug__" :Str))=false:=by decide):
 PS X (.Try body (.ExceptHandler (some (.Name c cp)) (some nm) (b0::wH) Ay::rest) [] [] pos) (Z3 X.K D i tb th):=by
 intro pins s σ H Ds I h;refine wpAny_Try_except ?_
 have hw:FT (X.pinned pins fun e bC=>wpAny (model X.prog X.w) X.A (noteFrame e X.env) (fun _ nW=>wpAny (model X.prog X.w) X.A (setFlight e none) (fun _ vt=>wpAny (model X.prog X.w) X.A (handleBy e X.env (.ExceptHandler (some (.Name c cp)) (some nm) (b0::wH) Ay::rest)) (SP X pins Ds) X.xe vt) X.xe nW) X.xe bC)
  (Ss X.K D i th Ds):=by
  intro BG dC H' s' a C dd n I' ea fl q;have J:Inv X pins dC H' s' :=I'.ofPinned I.ok
  have fl' :Au X pins H' s'.heap a:=by
   rcases fl with z|⟨T,oe,f,z1,z2,z3⟩
   ·exact .inl z
   ·exact .inr ⟨T,oe,f,z1,z2,fun p hp=>z3 p (tm _ hp)⟩
  obtain⟨C',eC,un,q⟩:=q;cases eC;refine Cs J mv sE ea fl' fun s2 T I2 held=> ?_;have XQ:upd H' a (.ext (c8 a C dd false)) a=some (.ext (c8 a C dd false)):=aa;obtain⟨vs,he,hv,_⟩:=n6 I2.bE XQ;refine wpAny_handleBy_cons (codeAny_handlers_test ?_) (by intro q;cases q);refine jE (I2.pI a fun _ _=>False) hg hm ?_ se;obtain⟨nm1,q1,N1,bs1,bm1,EE,sn1,ZK,To,Z0,WZ,k0,k1,k2,k3,k5,i1,lk,CZ⟩:=un.ex;obtain⟨nm2,q2,N2,bs2,bm2,hd2,sn2,adH,ab2,adG,SN,j0,j1,j2,j3,j5,lk2,T2⟩:=hD.obj;have hC:=I2.je _ _ lk;have hDD:=I2.je _ _ lk2;obtain⟨D0,g2,d2,t2,os2⟩:=s2;refine Ei hC hDD he rfl T2.hasBase CZ ?_;refine codeAny_handlers_suite_as ?_;refine BS I2 held fun s3 I3 Yk=> ?_;refine kM (X:=X.pI a fun _ _=>False) (I3.pI a fun _ _=>False) hN hi (.inl zG) (show RelV (.ref a) (.ref a) from rfl) (fun s4 I4=> ?_) (.inr zG);refine eA (hs a pins s4 _ _ (zK i Ds) I4 (q a XQ)) (fun f s5 z=> ?_) fun _ _ z=>z.elim;have zx:(X.env.scope.kind== .class||(X.env.scope.kind== .module&&X.env.locals !=X.env.globals))=false:=by rw[I.ok.kind];rfl
  have goes:∀{Gq:St} {H5:Hp} {Q:Unit→Shared→Prop},Inv X pins Gq H5 s5→(∀s6,Inv X pins (Gq.set i none) H5 s6→Q () s6)→wpAny (model X.prog X.w) X.A (do bindName X.env nm .none;unbindBehindTheSuite X.env nm Ay) Q X.xe s5:=fun{Gq H5 Q} J5 hQ=>by
   obtain⟨m,X6,_⟩:=id J5.loc;exact wpAny_nameGoes_keeps zG X6 zx fun h' v hn sb=>hQ _ (J5.IL (t' :=s5.toks+1) hN hi X6 hn sb)
  cases f with
  |next=>obtain⟨Gq,H5,I5,q5⟩:=z;exact goes (I5.pw I.ok) fun s6 I6=>⟨_,_,I6,q5⟩
  |brk=>obtain⟨Gq,H5,I5,q5⟩:=z;exact goes (I5.pw I.ok) fun s6 I6=>⟨_,_,I6,q5⟩
  |cont=>obtain⟨Gq,H5,I5,q5⟩:=z;exact goes (I5.pw I.ok) fun s6 I6=>⟨_,_,I6,q5⟩
  |ret u=>obtain⟨v,Gq,H5,I5,r5,q5⟩:=z;exact goes (I5.pw I.ok) fun s6 I6=>⟨v,_,_,I6,r5,q5⟩
 refine eA (hb _ pins _ hw [] s σ H Ds (I.E1 _) h) (fun f s1 z=> ?_) fun _ _ z=>z
 cases f with
 |next=>obtain⟨dC,H',I',q⟩:=z;exact uM ⟨dC,H',I'.ofPinned I.ok,q⟩
 |brk=>obtain⟨dC,H',I',q⟩:=z;exact⟨dC,H',I'.ofPinned I.ok,q⟩
 |cont=>obtain⟨dC,H',I',q⟩:=z;exact⟨dC,H',I'.ofPinned I.ok,q⟩
 |ret u=>obtain⟨v,dC,H',I',r,q⟩:=z;exact⟨v,dC,H',I'.ofPinned I.ok,r,q⟩
end
section
variable{prog:Program}{w:World}{A:Around}{E:Value→Shared→Prop}{s:Shared}
end
section
variable{prog:Program}{w:World}{A:Around}{R:Result→Shared→Prop}{I:Addr}{fp wr:bP}{G:Array GenState→Array GenState→Prop}{n:Nat}{P:Nat→Value→Prop}{St:Nat→Shared→Prop}{κ:Type}[DecidableEq κ]{knd:KeyKind prog w κ}
end
section
variable{prog:Program}{w:World}{A:Around}{E:Value→Shared→Prop}{s:Shared}{κ:Type}[DecidableEq κ]{knd:KeyKind prog w κ}
end
section
variable{X:Cx}
end
section
variable{X:Cx}{e:Expr}{te:TE}{elts:cu}{kt:Nat}{pt:Pos}
end
section
variable{prog:Program}{w:World}{A:Around}{E:Value→Shared→Prop}{s:Shared}
end
section
variable{X:Cx}{pos:Pos}
end
section
variable{X:Cx}{e hi Xw:Expr}{te th ts:TE}{pos p2:Pos}
end
section
variable{X:Cx}
variable{o e:Expr}{es:cu}{to:TE}{t:TA}{name:Str}{apos gx:Pos}{T id:String}{r:V→ak→Hp→VK→Prop}
end
end L2
namespace L2
open PySem PySem.Spec PySem.SeqAt PyProof.Rows
section
variable{X:Cx}
end
section
variable{prog:Program}{w:World}{A:Around}{E:Value→Shared→Prop}{s:Shared}
structure Fg(h:Heap)(d:Addr)(o:Obj)(es:Array DictEntry)(ep:Nat):Prop where
 at_:h.get? d=some o
 ex:o.ExactDict
 da:o.data= .dict es ep
end
section
variable{X:Cx}{pins:aJ}{σ:St}{H:Hp}{s:Shared}{d:Addr}{a6:mJ}
end
section
variable{X:Cx}{e:Expr}{te:TE}{elts:cu}{kt:Nat}{pt:Pos}
end
section
variable{prog:Program}{w:World}{A:Around}{R:Result→Shared→Prop}{I:Addr}{fp wr:bP}{G:Array GenState→Array GenState→Prop}{n:Nat}{P:Nat→Value→Prop}{St:Nat→Shared→Prop}{κ:Type}[DecidableEq κ]{knd:HeapKind prog w κ}
noncomputable def aaK(xs ps:List (κ×Addr×Value)):List (κ×Addr×Value):=ps.foldl (fun m p=>storedH m p.1 p.2.1 p.2.2) xs
end
section
variable{prog:Program}{w:World}{A:Around}{E:Value→Shared→Prop}{s:Shared}{κ:Type}[DecidableEq κ]{knd:HeapKind prog w κ}
end
section
variable{X:Cx}
noncomputable def aeo(a6 more:mJ):mJ:=more.foldl (fun acc kv=>zn acc kv.1 kv.2) a6
end
structure ak1(K:Frag)(C:Addr):Prop where
 ha:PySem.W.findIn K (.ref C) "__class__"=some (some (.builtin "object.__class__"))
 hn:PySem.W.specialIn K (.builtin "object.__class__") "__get__"=some (some (.builtin "getset_descriptor.__get__"))
 tk:PySem.W.takesIn K (.builtin "object.__class__")=some true
 hm:PySem.W.mroIn K C (.type "object")=some true
section
variable{X:Cx}
noncomputable def Yh(i j:Int):Prop:=0<j∧j.natAbs.log2<9000
theorem FA:qp X (binaryOp .FloorDiv) (rI Yh fun i j=> .int (i / j)):=opI fun i j _ _ _ _ _ hc q=>by
 have h1:(0:Int)<j:=hc.1;exact floordiv_int (by lia) (by rw[Int.fdiv_eq_ediv_of_nonneg i (by lia)];exact q) (.inl (PyProof.noPylong_of_log2 hc.2))
end
section
variable{X:Cx}{pos:Pos}
end
section
variable{prog:Program}{w:World}{A:Around}{E:Value→Shared→Prop}{s:Shared}
end
section
variable{X:Cx}
end
section
variable{X:Cx}{tg e:Expr}{te:TE}
end
section
variable{X:Cx}{pins:aJ}{σ:List (Option V)}{H H' :Hp}{s:Shared}{h' :Heap}
theorem Inv.more{t' :Nat}(I:Inv X pins σ H s)(k:∀b u,s.heap.get? b=some u→h'.get? b=some u)(sm:∀a o,H a=some o→H' a=some o)(new:∀a o,H' a=some o→H a=some o∨(s.heap.objs.size≤a∧bI X.prog X.w H' h' a o)):Inv X pins σ H' {s with heap:=h',toks:=t'}:=
 I.un ⟨fun b u q _ _ _=>k b u q,fun b u q _ _ _=>⟨u.slots,k b u q⟩,fun b u q n _=>by
  cases e:H' b with
  |none=>rfl
  |some o=>
   rcases new b o e with h|⟨h,_⟩
   ·rw[n] at h;cases h
   ·exact absurd (aQ q) (Nat.not_lt.mpr h),fun b u q _=>⟨u,k b u q⟩,fun b xs q=>sm _ _ q,fun b u xs q=>sm _ _ q,fun b ps q=>⟨#[],by rw[sm _ _ q];simp⟩⟩ fun a o e=>by
  rcases new a o e with h|⟨_,h⟩
  ·exact(I.bE a o h).xT (fun c v _ q=>k c v q) (fun c q=>sm _ _ q) (fun c xs q=>sm _ _ q)
  ·exact h
theorem UQ{as:bP}(h:as.Pairwise (· < ·)){j:Nat}{a:Addr}(e:as[j]? =some a):as.idxOf a=j:=by
 have hj:=(dq.mp e).1;have ha:=(dq.mp e).2;have hm:as.idxOf a<as.length:=List.idxOf_lt_length_of_mem (bJ e);have hg:as[as.idxOf a]=a:=List.getElem_idxOf hm;rcases Nat.lt_trichotomy (as.idxOf a) j with z|z|z
 ·have:=List.pairwise_iff_getElem.mp h _ _ hm hj z;rw[hg,ha] at this;exact absurd this (b7 _)
 ·exact z
 ·have:=List.pairwise_iff_getElem.mp h _ _ hj hm z;rw[hg,ha] at this;exact absurd this (b7 _)
end
section
variable{X:Cx}
end
section
variable{prog:Program}{w:World}{A:Around}{E:Value→Shared→Prop}{s:Shared}
theorem JF{d:Addr}{o:Obj}{es:Array DictEntry}{ep:Nat}{Q:Value→Shared→Prop}(hd:(d==sysModules)=false)(hm:Fg s.heap d o es ep)
 (hQ:Q (.ref s.heap.objs.size) {s with heap:=s.heap.push {cls:= .type "dict_keyiterator",data:= .fields #[.ref d,.int 0 0,.int es.size 0,.int ep 0]}}):
 wpAny (model prog w) A (pyIter (.ref d)) Q E s:=by
 have hT:s.TypeIs (.ref d) "dict":=⟨o,hm.at_,hm.ex.1⟩;have hn:¬((d==sysModules)=true):=by rw[hd];decide
 refine wpAny_pyIter_slot hT F.slot_dict_iter (kQ F.slot_dict_iter hT F.entry_dict_iter ?_ (F.args_dict_iter_1 _));unfold Builtin.«dict.__iter__»;refine ah ?_
 unfold Builtin.Dict.dictSlotNone;refine ah (wpAny_notOrdered_dict hT ?_)
 show wpAny _ _ (pure (Value.ref d)) _ _ s;refine aC ?_
 show wpAny _ _ (Builtin.Dict.showsAll d>>= _) _ _ s;unfold Builtin.Dict.showsAll;rw[ay hn]
 refine ah (aC (ah (wpAny_dictEntries hm.at_ hm.da (ah (wpAny_dictEpoch hm.at_ hm.da ?_)))));refine ah (gm (aC ⟨_,rfl,"dict_keyiterator",_,⟨_,cg _ rfl,rfl⟩,zC.lookup,?_⟩));simpa[rawInt] using hQ
theorem JE{it d:Addr}{i ep:Nat}{o:Obj}{es:Array DictEntry}{en:DictEntry}{Q:aI→Shared→Prop}(hit:s.heap.IsKeyIter it d i es.size ep)(hm:Fg s.heap d o es ep)(hx:es[i]? =some en)
 (hQ:∀h',h'.IsKeyIter it d (i+1) es.size ep→Heap.SameBut it s.heap h'→Q (some en.key) {s with heap:=h'}):wpAny (model prog w) A (pyNext (.ref it)) Q E s:=by
 obtain⟨oi,h1,h2,h3⟩:=id hit;have Wj:Builtin.Dict_items.ownsTuple "dict_keyiterator"=false:=by decide
 have mq:¬((Value.ref d==Value.none)=true):=cx;have CZ:¬((i:Int)<0):=by lia
 unfold pyNext;refine ah (uu (ni (name:=Str.ofString "__next__") hit.typeIs zC (kQ zC hit.typeIs F.entry_dict_keyiterator_next ?_ (F.args_dict_keyiterator_next_1 _))))
 refine ah (aC (ah (ah ?_)))
 first|refine ah (Dw hit.typeIs (aC (ah (yv h1 h3 ?_))))|refine ah (yf hit.typeIs (aC (ah (yv h1 h3 ?_))))
 simp only[Wj,nO,iX];show wpAny _ _ (if(Value.ref d==Value.none)=true then _ else _) _ _ s;rw[ay mq]
 refine ah (aC (ah (wpAny_dictEntries hm.at_ hm.da ?_)));rw[ay (by simp)]
 refine ah (aC (ah (wpAny_dictEpoch hm.at_ hm.da ?_)));rw[ay (by simp)]
 refine aC ?_;simp only[CZ,iX,jl,hx]
 refine ah ?_
 first|refine ah (Dw hit.typeIs (aC (ah (CI hit.typeIs ?_))))|refine ah (yf hit.typeIs (aC (ah (CI hit.typeIs ?_))))
 show wpAny _ _ (setField (.ref it) 1 (rawInt ((i:Int)+1))>>= _) _ _ s;refine ah (nB h1 h3 (by simp) ?_)
 have Kg :(s.heap.update it (Obj.mapFields (·.setIfInBounds 1 (rawInt ((i:Int)+1))))).IsKeyIter it d (i+1) es.size ep:=⟨_,jk _ h1 (z8 (n_ h3 _)),(Obj.cls_mapFields ..).trans h2,by rw[n_ h3];simp[rawInt]⟩;have Ig :Shared.TypeIs {s with heap:=s.heap.update it (Obj.mapFields (·.setIfInBounds 1 (rawInt ((i:Int)+1))))} (.ref it) "dict_keyiterator":=Kg.typeIs;refine ah (gZ (ah (CI Ig ?_)));show wpAny _ _ (pure en.key) _ _ _;exact aC (aC ⟨_,rfl,aC (hQ _ Kg (yI ..))⟩)
theorem Mf{it d:Addr}{i ep:Nat}{o:Obj}{es:Array DictEntry}{Q:aI→Shared→Prop}(hh:A.handled=none)(hit:s.heap.IsKeyIter it d i es.size ep)(hm:Fg s.heap d o es ep)(hx:es.size≤i)
 (hQ:∀h',Heap.ExtBut it s.heap h'→Q none {s with heap:=h'}):wpAny (model prog w) A (pyNext (.ref it)) Q E s:=by
 obtain⟨oi,h1,h2,h3⟩:=id hit;have Wj:Builtin.Dict_items.ownsTuple "dict_keyiterator"=false:=by decide
 have mq:¬((Value.ref d==Value.none)=true):=cx;have CZ:¬((i:Int)<0):=by lia
 unfold pyNext;refine ah (uu (ni (name:=Str.ofString "__next__") hit.typeIs zC (kQ zC hit.typeIs F.entry_dict_keyiterator_next ?_ (F.args_dict_keyiterator_next_1 _))))
 refine ah (aC (ah (ah ?_)))
 first|refine ah (Dw hit.typeIs (aC (ah (yv h1 h3 ?_))))|refine ah (yf hit.typeIs (aC (ah (yv h1 h3 ?_))))
 simp only[Wj,nO,iX];show wpAny _ _ (if(Value.ref d==Value.none)=true then _ else _) _ _ s;rw[ay mq]
 refine ah (aC (ah (wpAny_dictEntries hm.at_ hm.da ?_)));rw[ay (by simp)]
 refine ah (aC (ah (wpAny_dictEpoch hm.at_ hm.da ?_)));rw[ay (by simp)]
 refine aC ?_;simp only[CZ,iX,jl,Dh hx]
 refine ah ?_
 first|refine ah (Dw hit.typeIs (aC ?_))|refine ah (yf hit.typeIs (aC ?_))
 show wpAny _ _ (setField (.ref it) 0 .none>>= _) _ _ s;refine ah (nB h1 h3 (by simp) ?_)
 show wpAny _ _ (newExc (.type "StopIteration") []>>= _) _ _ _;refine ah ?_
 simp only[newExc,newTuple];refine ah (gm ?_ (by size_fits))
 refine ah (m:=firstArgMember _ _) (wpAny_of_eq (a:=Value.none) (by first|rfl|(simp only[firstArgMember];rfl)) (gm ?_ (by size_fits)));simp only[raiseNew];refine ah (wpAny_handled ?_);rw[show A.in1.handled=none from hh]
 refine ah (aC (wpAny_throw ?_));refine ah (wpAny_isInstance (T:="StopIteration") (b:=true) ⟨_,cg _ rfl,rfl⟩ isSubtype_stop ?_)
 exact aC (hQ _ (((yI ..).extBut.push _).push _))
end
section
variable{X:Cx}{tg e:Expr}{te:TE}
end
section
variable{prog:Program}{w:World}{A:Around}{E:Value→Shared→Prop}{s:Shared}
theorem Fg.keep{h h' :Heap}{d:Addr}{o:Obj}{es:Array DictEntry}{ep:Nat}(x:Fg h d o es ep)(e:∀o,h.get? d=some o→h'.get? d=some o):Fg h' d o es ep:=⟨e _ x.at_,x.ex,x.da⟩
theorem Gr{d:Addr}{o:Obj}{es:Array DictEntry}{ep:Nat}(hh:A.handled=none)(I:Addr)(mq:d≠I):
 Walks prog w A I [I,d] [I] es.size (fun i v=>∃en,es[i]? =some en∧v=en.key) (fun i h=>h.IsKeyIter I d i es.size ep∧Fg h d o es ep) where
 sub:=fun b hb=>by simp at hb;simp[hb]
 frame:=fun _ _ _ st hk=>⟨st.1.at fun o e=>hk I (by simp) o e,st.2.keep fun o e=>hk d (by simp) o e⟩
 item:=fun i s Q E hi st hQ=>by
  have hx:es[i]? =some es[i]:=by simp[hi]
  refine JE st.1 st.2 hx fun h' Kg Ou => ?_;exact hQ _ h' s.toks ⟨_,hx,rfl⟩ ⟨Kg,st.2.keep fun o e=>(Ou.2 d mq).trans e⟩ fun b o hb e=>Ou.extBut b o (fun h=>hb (by simp[h])) e
 done:=fun s Q E st hQ=>Mf hh st.1 st.2 (aG _) fun h' he' =>hQ h' s.toks fun b o hb e=>he' b o (fun h=>hb (by simp[h])) e
 self:=fun _ _ _ _ st hQ=>wpAny_pyIter_keyiter st.1 hQ
theorem K_{d:Addr}{o:Obj}{es:Array DictEntry}{ep:Nat}(hs:(d==sysModules)=false):PySem.W.KdlSrc prog w "dict" d d es.size (fun i v=>∃en,es[i]? =some en∧v=en.key) (fun h=>Fg h d o es ep) where
 type:=fun _ hm=>⟨o,hm.at_,hm.ex.1⟩
 there:=fun _ hm=>⟨aQ hm.at_,aQ hm.at_⟩
 keep:=fun _ _ hm hk=>hm.keep fun o e=>hk d (.inl rfl) o e
 notList:=by decide
 notTuple:=by decide
 hint:=fun _ _ _ _ hm hq=>PySem.W.kdl_hint_dict ⟨o,hm.at_,hm.ex.1⟩ hq
 iter:=fun _ _ hh hm=>⟨_,_,(fun _ _ hq=>JF hs hm hq),Gr hh _ (bN (aQ hm.at_)),⟨⟨_,cg _ rfl,rfl,rfl⟩,hm.keep fun _ e=>a8 _ e⟩⟩
end
section
variable{X:Cx}{o e f:Expr}{apos gx:Pos}{td ty tx:TE}
end
section
variable{prog:Program}{w:World}{A:Around}{E:Value→Shared→Prop}{s:Shared}
end
section
variable{X:Cx}
end
section
variable{X:Cx}
end
section
variable{X:Cx}
end
section
variable{prog:Program}{w:World}{A:Around}{E:Value→Shared→Prop}{s:Shared}
end
structure RxG(es:Array DictEntry)(lo:Addr)(h:Heap)(as:bP):Prop where
 rise:as.Pairwise (· < ·)
 above:∀a∈as,lo<a
 pairs:∀(j:Nat) (a:Addr),as[j]? =some a→∃en,es[j]? =some en∧h.get? a=some {cls:= .type "tuple",data:= .seq #[en.key,en.val]}
section
variable{prog:Program}{w:World}{A:Around}{E:Value→Shared→Prop}{s:Shared}{es:Array DictEntry}{ep:Nat}{od:Obj}
end
section
variable{X:Cx}
end
structure FI(K:Frag)(mg:Str→aI)(x:Str)(st:Stmt)(ps:ao)(f:Addr)(fd:FuncData):Prop where
 m:mg x=some (.ref f)
 F:EG K x x st f fd
 b:Binds K fd ps []
structure MI(K:Frag)(C:Addr)(x q:Str)(st:Stmt)(ps:ao)(f:Addr)(fd:FuncData):Prop where
 t:Meth K C x f
 F:EG K x q st f fd
 b:Binds K fd ps []
theorem aE.of{N P:ao}{sc:Scope}(h1:sc.kind= .function:=by rfl)(h2:sc.isCoroutine=false:=by rfl)(h3:sc.isGenerator=false:=by rfl)(h4:N.Nodup:=by decide+kernel)(h5:N.take P.length=P:=by rfl)
 (h6:∀x∈P,sc.names.lookup x=some .local∨sc.names.lookup x=some .cell:=by decide+kernel) (h7:∀y∈sc.names,y.2≠.free:=by decide+kernel):aE N P sc:=⟨h1,h2,h3,h4,h5,h6,h7⟩
section
variable{P:Program}{w:World}{K:Frag}{mg:Str→aI}{base:Heap}{x qual:Str}{st:Stmt}{f:Addr}{fd:FuncData}{N ps:ao}{k:Nat}{sp:Sp}
theorem EG.zk(F:EG K x qual st f fd)(S:aE N ps (aq st))
 (hb:∀(cj:Value) (A:Around) (outer:List Env) (s:Shared) (H:Hp) (vs:ak) (Q:VK) (E:XK),cZ k (A.deeper (envOfC qual (aq st) s.heap.objs.size f cj))→sp vs H Q E→
  ∃t,AO (kP cK P w K mg base N qual (aq st) f cj A outer s H E).Gg (cR st) t∧t {nx:=fun _ H' =>Q .bx H',rt:=Q} (start N vs) H)
 (len:∀vs H Q E,sp vs H Q E→vs.length=ps.length:=by intro _ _ _ _ h;repeat (first|(obtain⟨rfl,_⟩:=h;rfl)|obtain⟨_,h⟩:=h)):aM P w K mg base cK (k+1) f fd ps sp:=F.ok S len hb
theorem EG.okN(F:EG K x qual st f fd)(S:aE N ps (aq st))
 (hb:∀(cj:Value) (A:Around) (outer:List Env) (s:Shared) (H:Hp) (vs:ak) (Q:VK) (E:XK),cZ k (A.deeper (envOfC qual (aq st) s.heap.objs.size f cj))→sp vs H Q E→
  ∃t,Fo (kP cK P w K mg base N qual (aq st) f cj A outer s H E).Gg (cR st) t∧t {nx:=fun _ H' =>Q .bx H',rt:=Q} (start N vs) H)
 (len:∀vs H Q E,sp vs H Q E→vs.length=ps.length:=by intro _ _ _ _ h;repeat (first|(obtain⟨rfl,_⟩:=h;rfl)|obtain⟨_,h⟩:=h)):aM P w K mg base cK (k+1) f fd ps sp:=F.okM S len hb
end
section
variable{X:Cx}{CX:tD}{j k:Nat}{f C:Addr}{fd:FuncData}{ps:ao}{sp:Sp}{E:XK}{x m q:Str}{st:Stmt}{p pos apos:Pos}{e o:Expr}{es:cu}{ta:TE}{t:TA}
theorem cn(F:aM X.prog X.w X.K X.mg X.base CX j f fd ps sp)(hr:cZ k X.A)(I:FI X.K X.mg x st ps f fd)(hx:wn CX X E)(ha:PA X (e::es) t)(hj:j≤k:=by decide)(hg:Gl X x:=by rfl)
 (se:(x==("__debug__" :Str))=false:=by decide) (he:starEach (e::es) X.env=(false,eval e X.env)::starEach es X.env:=by rfl) (jN:(backTo pos (starEach es X.env)).any (·.1)=false:=by rfl):
 PE X (.Call (.Name x p) (e::es) [] pos) (HB sp [] E t):=IY (F.mono hj) hr hg I.m I.F.kp I.b .nil hx ha se he jN
theorem pmf{pl:Sem Bool}(he:PE X o ta)(c:He X.K C)(I:MI X.K C m q st ps f fd)(F:aM X.prog X.w X.K X.mg X.base CX j f fd ps sp)(hr:cZ k X.A)(hx:wn CX X E)(ha:PA X (e::es) t)(hj:j≤k:=by decide)
 (mv:starEach (e::es) X.env=(false,eval e X.env)::starEach es X.env:=by rfl) (jN:(backTo pos (starEach es X.env)).any (·.1)=false:=by rfl)
 (ht:eval (.Call (.Attribute o m apos) (e::es) [] pos) X.env=(do
  let ov←eval o X.env
  standAt apos.atName
  let(f,first)←holding [ov] (getMethod ov m pl)
  callWith pos f first (backTo pos (starEach (e::es) X.env)) (backToKw pos (keywordEach [] X.env))):=by rfl):
 PE X (.Call (.Attribute o m apos) (e::es) [] pos) (HJ C m sp [] E ta t):=Qq he c I.t (F.mono hj) hr I.b .nil hx ha mv jN ht
theorem GA{pl:Sem Bool}(he:PE X o ta)(c:He X.K C)(I:MI X.K C m q st ps f fd)(F:aM X.prog X.w X.K X.mg X.base CX j f fd ps sp)(hr:cZ k X.A)(hx:wn CX X E)(hj:j≤k:=by decide)
 (ht:eval (.Call (.Attribute o m apos) [] [] pos) X.env=(do
  let ov←eval o X.env
  standAt apos.atName
  let(f,first)←holding [ov] (getMethod ov m pl)
  callWith pos f first (backTo pos (starEach [] X.env)) (backToKw pos (keywordEach [] X.env))):=by rfl):
 PE X (.Call (.Attribute o m apos) [] [] pos) (HJ C m sp [] E ta uG):=Nf he c I.t (F.mono hj) hr I.b .nil hx ht
end
section
variable{X:Cx}{pos:Pos}{e a b:Expr}{te ta tb:TE}
theorem fO(i:Nat){x:Str}(hN:X.N.Nodup)(hi:X.N[i]? =some x:=by rfl)(hx:Loc X.env.scope x:=by first|exact .inl rfl|exact .inr rfl)(hf:X.fn x=true∨X.env.scope.names.lookup x=some .local:=by first|exact .inl rfl|exact .inr rfl|assumption):PG X (.Name x pos) (zQ i):=PY hN hi hx hf
theorem eU(i:Nat){x:Str}{pos' :Pos}(hN:X.N.Nodup)(he:PE X e te)(hi:X.N[i]? =some x:=by rfl)(hx:Loc X.env.scope x:=by first|exact .inl rfl|exact .inr rfl)(hs:swapsWith e (some (.Name x pos')) pos.line X.env=pure false:=by rfl)
 (hf:X.fn x=true∨X.env.scope.names.lookup x=some .local:=by first|exact .inl rfl|exact .inr rfl|assumption):PS X (.Assign [.Name x pos'] e pos) (JZ te (zQ i)):=LS hN hi hx he hs hf
theorem cU{r:R2}(hr:VH X r)(ha:PE X a ta)(hb:PE X b tb)(hs:HM b:=by exact fun _ _=>rfl):PE X (.Subscript a b pos) (Pm r ta tb):=aau hr ha hb hs
theorem KZ{op:CmpOp}{r:R2}(ho:qp X (compareOp op) r)(ha:PE X a ta)(hb:PE X b tb)(hm:behindInMarks op b=false:=by first|exact Nc _|with_unfolding_all rfl):PE X (.Compare a [op] [b] pos) (Pm r ta tb):=P_ ho ha hb hm
theorem wp{op:CmpOp}{r:R2}(ho:qp X (compareOp op) r)(ha:PE X a ta)(hb:PE X b tb)(hm:behindInMarks op b=false:=by first|exact Nc _|with_unfolding_all rfl):PT X (.Compare a [op] [b] pos) (RA (Pm r ta tb)):=PF ho ha hb hm
theorem Ln{f:Str}(he:PE X e te)(hb:attributeBase e f X.env (eval e X.env)=eval e X.env:=by rfl):PE X (.Attribute e f pos) (aav X.K te f):=UH he hb
theorem aH(ha:PE X e te)(hs:starEach [e] X.env=(false,eval e X.env)::starEach [] X.env:=by rfl):PA X [e] (xv te uG):=ae ha dr hs
end
section
variable{X:Cx}{tg iter elt:Expr}{ifs:cu}{scope:Scope}{pos:Pos}{wi:TI}{g:TG}{tt:TT}{te:TE}
theorem F1(N:ao)(k:Nat)(js:List Nat)(hi:PI X tg iter wi)
 (hb:∀(cl:List (Str×Addr)) (C:Addr) (s:Shared) (H:Hp) (fp:bP),PG (fB X N scope cl C s H fp) tg g∧GW (fB X N scope cl C s H fp) ifs tt∧PE (fB X N scope cl C s H fp) elt te)
 (hc:X.calm=true:=by rfl) (S:nL X N scope k js:=by exact BV (by kernel_rfl)) (hs:∀x,foldedSetIterable iter X.env x=pure x:=by intro _;rfl):PE X (.ListComp elt [⟨tg,iter,ifs,0⟩] scope pos) (Ie wi k js g tt te):=Oh hc S hi hb hs
theorem F8(i:Nat){x:Str}{pos' gx:Pos}(hN:X.N.Nodup)(N:ao)(k:Nat)(js:List Nat)(hi:PI X tg iter wi)
 (hb:∀(cl:List (Str×Addr)) (C:Addr) (s:Shared) (H:Hp) (fp:bP),PG (fB X N scope cl C s H fp) tg g∧GW (fB X N scope cl C s H fp) ifs tt∧PE (fB X N scope cl C s H fp) elt te)
 (hi' :X.N[i]? =some x:=by rfl) (hx:Loc X.env.scope x:=by first|exact .inl rfl|exact .inr rfl) (hc:X.calm=true:=by rfl) (S:nL X N scope k js:=by exact BV (by kernel_rfl))
 (hsw:swapsWith (.ListComp elt [⟨tg,iter,ifs,0⟩] scope gx) (some (.Name x pos')) pos.line X.env=pure true:=by rfl)
 (hs:∀x,foldedSetIterable iter X.env x=pure x:=by intro _;rfl) (hf:X.fn x=true∨X.env.scope.names.lookup x=some .local:=by first|exact .inl rfl|exact .inr rfl|assumption):
 PS X (.Assign [.Name x pos'] (.ListComp elt [⟨tg,iter,ifs,0⟩] scope gx) pos) (JZ (Ie wi k js g tt te) (zQ i)):=N_ hN hi' hx hc S hi hb hsw hs hf
theorem vI{body:List Stmt}{tb:TS}(hi:PI X tg iter wi)(hg:PG X tg g)(hb:AO X body tb)(hp:PassesOwn (model X.prog X.w) X.A X.env X.xe:=by exact PassesOwn.never)(hc:X.calm=true:=by rfl)
 (hs:∀x,foldedSetIterable iter X.env x=pure x:=by intro _;rfl):PS X (.For tg iter body [] pos) (Y3 wi g tb):=WN hp hc hi hg hb hs
theorem h8{id:String}{x:Str}{r:ak→Hp→VK→Prop}{e:Expr}{es:cu}{t:TA}{p:Pos}(hc:iq X (.builtin id) r)(hm:X.mg x=none)(hv:bootBuiltins x=some (.builtin id))(ha:PA X (e::es) t)(hg:Gl X x:=by rfl)(hn:x≠ "__name__":=by decide)(se:(x==("__debug__" :Str))=false:=by decide)
 (he:starEach (e::es) X.env=(false,eval e X.env)::starEach es X.env:=by rfl) (jN:(backTo pos (starEach es X.env)).any (·.1)=false:=by rfl):PE X (.Call (.Name x p) (e::es) [] pos) (Xe r t):=Lf hc hg hm hv ha hn se he jN
theorem K1{T:String}{x:Str}{r:ak→Hp→VK→Prop}{e:Expr}{es:cu}{t:TA}{p:Pos}(hc:iq X (.type T) r)(hm:X.mg x=none)(hv:bootBuiltins x=some (.type T))(ha:PA X (e::es) t)(hg:Gl X x:=by rfl)(hn:x≠ "__name__":=by decide)(se:(x==("__debug__" :Str))=false:=by decide)
 (he:starEach (e::es) X.env=(false,eval e X.env)::starEach es X.env:=by rfl) (jN:(backTo pos (starEach es X.env)).any (·.1)=false:=by rfl):PE X (.Call (.Name x p) (e::es) [] pos) (Xe r t):=JI hc hg hm hv ha hn se he jN
end
structure XI(K:Frag)(mg:Str→aI)(x:Str)(C f R:Addr):Prop where
 m:mg x=some (.ref C)
 X:ND K C f
 e:Pp K C
 g:acf K C
 tt:PySem.W.typeIn K (.ref C)=some (.type "type")
 mi:∀D:Addr,PySem.W.mroIn K C (.ref D)=some (decide (D=C)||decide (D=R))
 ve:PySem.W.mroIn K C (.type "ValueError")=some true
noncomputable def Exc(H:Hp)(a C:Addr):Prop:=∃φ dd n,H a=some (.ext φ)∧(∀h,φ h→c8 a C dd n h)∧∀dx,dd=some dx→∃fs,H dx=some (.xd fs)
section
variable{X:Cx}{K:Frag}
theorem OV{P:Program}{w:World}{H:Hp}{h:Heap}{a:Addr}{φ:Heap→Prop}(ok:m8 P w H h)(e:H a=some (.ext φ)):φ h:=
 (show bI P w H h a (.ext φ) from ok a _ e).1
end
section
variable{X:Cx}{CX:tD}{j k:Nat}{f C R:Addr}{fd:FuncData}{ps:ao}{sp:Sp}{E:XK}{x q:Str}{st:Stmt}{p pos:Pos}{e:Expr}{es:cu}{t:TA}
theorem VS(M:XI X.K X.mg x C f R)(I:MI X.K C "__init__" q st ps f fd)(F:aM X.prog X.w X.K X.mg X.base cK j f fd ps sp)(hr:cZ (k+1) X.A)(ha:PA X (e::es) t)(hj:j≤k:=by decide)(hl:ps.length≤100:=by decide)(hg:Gl X x:=by rfl)
 (se:(x==("__debug__" :Str))=false:=by decide) (he:starEach (e::es) X.env=(false,eval e X.env)::starEach es X.env:=by rfl) (jN:(backTo pos (starEach es X.env)).any (·.1)=false:=by rfl):
 PE X (.Call (.Name x p) (e::es) [] pos) (FK C sp E0 t):=Nu M.X (F.mono hj) hr hg M.m I.b az ha (fun _ _ _ _ h=>by rw[F.len _ _ _ _ h];exact hl) se he jN
end
section
variable{K:Frag}{nm q:Str}{C N R:Addr}{bs:aD}{h:Bool}{sn:ao}{sub:aD}{ab:Bool}{col:Option Bool}{dd:Option Addr}{k0 k1 k2 k3 k5:aI}{id:String}
theorem Yt(l:K.lookup C=some (excClassObj nm q C N bs [.ref R,.type "ValueError",.type "Exception",.type "BaseException",.type "object"] h sn sub ab col dd k0 k1 k2 k3 k5 id))(D:Addr):PySem.W.mroIn K C (.ref D)=some (decide (D=C)||decide (D=R)):=by
 unfold PySem.W.mroIn clsIn;rw[l];show some (List.contains [Value.ref C,Value.ref R,.type "ValueError",.type "Exception",.type "BaseException",.type "object"] (.ref D))=_
 congr 1
 by_cases h1:D=C
 ·subst h1;simp
 ·by_cases h2:D=R
  ·subst h2;simp
  ·simp[h1,h2]
theorem Vx(l:K.lookup C=some (excClassObj nm q C N bs [.type "ValueError",.type "Exception",.type "BaseException",.type "object"] h sn sub ab col dd k0 k1 k2 k3 k5 id))(D:Addr):PySem.W.mroIn K C (.ref D)=some (decide (D=C)||decide (D=C)):=by
 unfold PySem.W.mroIn clsIn;rw[l];show some (List.contains [Value.ref C,.type "ValueError",.type "Exception",.type "BaseException",.type "object"] (.ref D))=_
 congr 1
 by_cases h1:D=C
 ·subst h1;simp
 ·simp[h1]
end
section
variable{X:Cx}
end
section
variable{prog:Program}{w:World}{A:Around}{E:Value→Shared→Prop}{h:Heap}{g:Array GenState}{d:Drawn}{t:Nat}{os:OsState}
variable{nm q:Str}{C N:Addr}{bs bm:aD}{gX:Bool}{sn:ao}{sub:aD}{ab:Bool}{col:Option Bool}{dd:Option Addr}{k0 k1 k2 k3 k5:aI}
end
section
variable{X:Cx}{p pos apos:Pos}{e1 e2:Expr}{t:TA}
end
section
open Builtin Builtin.Str Builtin.BaseException
variable{prog:Program}{w:World}{A:Around}{E:Value→Shared→Prop}{s:Shared}{K:Frag}{x C t0:Addr}{ox ot:Obj}{od:Option Obj}{vs:Array Value}{m:Str}{tk:Tok}{n:Nat}
end
section
variable{X:Cx}{K:Frag}
end
noncomputable def kD:ww→PyData
 | .inl i=> .int i
 | .inr x=> .str x
mutual
inductive jL (H:Hp):V→PyData→Prop
 |bx:jL H .bx .none
 |bl (b:Bool):jL H (.bl b) (.bool b)
 |int (i:Int):jL H (.int i) (.int i)
 |str (x:Str):jL H (.str x) (.str x)
 |lst {a:Addr} {xs:ak} {ds:List PyData} (e:H a=some (.lst xs)) (h:ir H xs ds):jL H (.ref a) (.list ds)
 |tup {a:Addr} {xs:ak} {ds:List PyData} (e:H a=some (.tup xs)) (h:ir H xs ds):jL H (.ref a) (.tuple ds)
 |ZU {a:Addr} {a6:dE} {D:List (PyData×PyData)} (e:H a=some (.dK a6)) (hk:D.map (·.1)=a6.map fun p=>kD p.1) (h:ir H (a6.map (·.2)) (D.map (·.2))):jL H (.ref a) (.dict D)
inductive ir (H:Hp):ak→List PyData→Prop
 |nil:ir H [] []
 |cons {x:V} {xs:ak} {d:PyData} {ds:List PyData} (h:jL H x d) (t:ir H xs ds):ir H (x::xs) (d::ds)
end
mutual
theorem jL.same{H H' :Hp}(s:aj H H'):∀{v:V} {d:PyData},jL H v d→jL H' v d
 |_,_,.bx=> .bx
 |_,_,.bl b=> .bl b
 |_,_,.int i=> .int i
 |_,_,.str x=> .str x
 |_,_,.lst e h=> .lst (s _ _ e) (ir.same s h)
 |_,_,.tup e h=> .tup (s _ _ e) (ir.same s h)
 |_,_,.ZU e hk h=> .ZU (s _ _ e) hk (ir.same s h)
theorem ir.same{H H' :Hp}(s:aj H H'):∀{xs:ak} {ds:List PyData},ir H xs ds→ir H' xs ds
 |_,_,.nil=> .nil
 |_,_,.cons h t=> .cons (jL.same s h) (ir.same s t)
end
theorem Jl{P:Program}{w:World}(h:Heap){es:List DictEntry}{vs:List (ww×Value)}(a:Pairs (cb P w) es vs):∀{a6:dE},KV a6 vs→ReadsAll h (es.map (·.key)) (a6.map fun p=>kD p.1) []:=by
 induction a with
 |nil=>
  intro a6 u;cases u;exact .nil
 | @cons e q es vs hi hv t ih=>
  intro a6 u
  cases u with
  | @cons p _ _ _ r u=>
   have hi:mE q.1 e.key=true:=hi;rw[←r.1] at hi;show ReadsAll h (e.key::_) (kD p.1::_) ([]++[]);refine .cons ?_ (ih u);rcases cW hi with⟨i,t,e1,e2⟩|⟨x,t,e1,e2⟩
   ·rw[e1,e2];exact .int i t
   ·rw[e1,e2];exact .str x t
theorem BF{P:Program}{w:World}:∀{es:List DictEntry} {vs:List (ww×Value)} {a6:dE},Pairs (cb P w) es vs→KV a6 vs→Vals (a6.map (·.2)) (es.map (·.val))
 |_,_,_,.nil,.nil=> .nil
 |_,_,_,.cons _ hv t,.cons r u=> .cons (by show RelV _ (DictEntry.val _);rw[hv];exact r.2) (BF t u)
mutual
theorem jL.reads{P:Program}{w:World}{H:Hp}{h:Heap}(ok:m8 P w H h)(sm:∀a o,h.get? a=some o→o.cls= .type "list" →sysModules≠a):∀{v:V} {d:PyData} {u:Value},jL H v d→RelV v u→∃as,Reads h u d as∧sysModules∉as
 |_,_,_,.bx,r=>by cases r;exact⟨_,.none,by simp⟩
 |_,_,_,.bl b,r=>by cases r;exact⟨_,.bool b,by simp⟩
 |_,_,_,.int i,r=>by obtain⟨t,rfl⟩:=r;exact⟨_,.int i t,by simp⟩
 |_,_,_,.str x,r=>by obtain⟨t,rfl⟩:=r;exact⟨_,.str x t,by simp⟩
 |_,_,_,.lst e hd,r=>by
  cases r;obtain⟨z,its,n,rv,ho⟩:=(show bI P w H h _ (.lst _) from ok _ _ e);obtain⟨as,q,na⟩:=ir.reads ok sm hd rv
  exact⟨_,.list ho rfl rfl (by simpa using q),fun hm=>by
   rcases aU.mp hm with hm|hm
   ·exact sm _ _ ho rfl hm
   ·exact na hm⟩
 |_,_,_,.tup e hd,r=>by
  cases r;obtain⟨z,its,rv,o,ho,hc,n,Xy⟩:=(show bI P w H h _ (.tup _) from ok _ _ e);obtain⟨as,q,na⟩:=ir.reads ok sm hd rv;exact⟨_,.tuple ho hc Xy (by simpa using q),na⟩
 |_,_,_,.ZU (a:=a) e hk hd,r=>by
  cases r;obtain⟨z',ym,vs,kv,od,es,ep,hod,ex,hde,ko,pr,nd⟩:=Hv ok e;obtain⟨as,q,na⟩:=ir.reads ok sm hd (BF pr kv);refine⟨_,.dict hod ex.1 hde (by rw[hk];exact Jl h pr kv) q,fun hm=> ?_⟩;have hm:sysModules=a∨sysModules∈as:=by simpa using hm
  rcases hm with hm|hm
  ·rw[←hm] at ym;simp at ym
  ·exact na hm
theorem ir.reads{P:Program}{w:World}{H:Hp}{h:Heap}(ok:m8 P w H h)(sm:∀a o,h.get? a=some o→o.cls= .type "list" →sysModules≠a):∀{xs:ak} {ds:List PyData} {us:aD},ir H xs ds→Vals xs us→∃as,ReadsAll h us ds as∧sysModules∉as
 |_,_,_,.nil,.nil=>⟨_,.nil,by simp⟩
 |_,_,_,.cons hd t,.cons r rr=>by
  obtain⟨as,q,n1⟩:=jL.reads ok sm hd r;obtain⟨bs,q',n2⟩:=ir.reads ok sm t rr
  exact⟨_,.cons q q',fun hm=>by
   rcases eK.mp hm with hm|hm
   ·exact n1 hm
   ·exact n2 hm⟩
end
section
variable{X:Cx}
theorem zM(hg:X.A.guards=some [])(hu:X.A.units+100<cLine)(sm:∃o,X.K.lookup sysModules=some o∧o.cls= .type "dict"):iq X (.builtin "repr") (fun xs H Q=>∃v d,xs=[v]∧jL H v d∧d.showable=true∧d.depth≤90∧d.shown.length≤sizeLine∧Q (.str d.shown) H):=by
 intro pins s σ H xs us Q I r h;obtain⟨v,d,rfl,hd,hs,Xi,hz,q⟩:=h;obtain⟨u,rfl,ru⟩:=xz r;obtain⟨om,lm,cm⟩:=sm
 have sm:∀a o,s.heap.get? a=some o→o.cls= .type "list" →sysModules≠a:=fun a o e c z=>by
  rw[←z,I.je _ _ lm] at e;cases e;rw[cm] at c;exact absurd c (by decide)
 have flat:∀{h' :Heap} {tk:Nat} (t:Tok),(∀b o,s.heap.get? b=some o→h'.get? b=some o)→EP X pins σ Q (.str d.shown t) {s with heap:=h',toks:=tk}:=fun{h' tk} t k=>⟨.str d.shown,H,I.kept k,⟨t,rfl⟩,q⟩;obtain⟨as,rd,na⟩:=hd.reads I.bE sm ru
 cases hd with
 |bx=>cases ru;exact PySem.P.repr_of_none (flat _ fun _ _ e=>e)
 |bl b=>cases ru;exact PySem.P.repr_of_bool (by have:=flat (h' :=s.heap) (tk:=s.toks+1) s.toks fun _ _ e=>e;simpa only[PyData.shown] using this)
 |int i=>
  obtain⟨t,rfl⟩:=ru;have Ou :i.natAbs.log2<1920:=by simpa[PyData.showable] using hs
  exact PySem.P.repr_of_int Ou (by have:=flat (h' :=s.heap) (tk:=s.toks+1) s.toks fun _ _ e=>e;simpa only[PyData.shown] using this)
 |str x=>
  obtain⟨t,rfl⟩:=ru;refine PySem.P.repr_of_str (by have:=flat (h' :=s.heap) (tk:=s.toks+1) s.toks fun _ _ e=>e;simpa only[PyData.shown] using this) (by simpa only[PyData.shown] using hz)
 |lst e hx=>cases ru;exact tW rd hs (fun _=>na) hg (by lia) (fun _ _ e=>e) (fun h' t tk k=>flat t k) hz
 |tup e hx=>cases ru;exact tW rd hs (fun _=>na) hg (by lia) (fun _ _ e=>e) (fun h' t tk k=>flat t k) hz
 |ZU e hk hx=>cases ru;exact tW rd hs (fun _=>na) hg (by lia) (fun _ _ e=>e) (fun h' t tk k=>flat t k) hz
end
noncomputable def HD(CX:tD)(P:Program)(w:World)(K:Frag)(mg:Str→aI)(base:Heap)(N:ao)(qual:Str)(scope:Scope)(f:Addr)(cd:Value)(cl:List (Str×Addr))(A:Around)(outer:List Env)(s:Shared)(H:Hp)(E:XK):Cx where
 prog:=P
 w:=w
 K:=K
 mg:=mg
 base:=base
 A:=A.deeper (envX qual scope s.heap.objs.size f cd cl)
 N:=N
 eV:=s
 H₀:=H
 env:=envX qual scope s.heap.objs.size f cd cl
 outer:=outer
 stack:=envX qual scope s.heap.objs.size f cd cl::outer
 ex:=[]
 calm:=true
 fn:=fun _=>false
 pn:=[]
 xe:=fun e s' =>wpAny (model P w) (A.deeper (envX qual scope s.heap.objs.size f cd cl)) (leaving (envX qual scope s.heap.objs.size f cd cl) e) (fun _ Nw =>CX outer H s E e Nw) (fun e' Nw =>CX outer H s E e' Nw) s'
structure qK(ps fr:ao)(sc:Scope):Prop where
 kind:sc.kind= .function
 co:sc.isCoroutine=false
 gen:sc.isGenerator=false
 nd:(ps++fr).Nodup
 par:∀x∈ps,sc.names.lookup x=some .local
 fre:∀x∈fr,sc.names.lookup x=some .free
 KQ:∀y∈sc.names,y.2≠.cell
 all:∀x,sc.names.lookup x=some .free→x∈fr
structure zy(base:Heap)(cl:List (Str×Addr))(fr:ao)(jD:ak):Prop where
 len:jD.length=fr.length
 at_:∀(i:Nat) x v,fr[i]? =some x→jD[i]? =some v→∃c u,cl.lookup x=some c∧base.IsCell c (some u)∧RelV v u
 inj:∀x y c,cl.lookup x=some c→cl.lookup y=some c→x=y
 sub:∀x c,cl.lookup x=some c→x∈fr
theorem Aa{ps:ao}(nd:ps.Nodup){us:aD}(hl:ps.length=us.length){i:Nat}{x:Str}{u:Value}(h1:ps[i]? =some x)(h2:us[i]? =some u):(ps.zip us).reverse.lookup x=some u:=by
 have hm:(x,u)∈ps.zip us:=bJ (i:=i) (by rw[List.getElem?_zip_eq_some];exact⟨h1,h2⟩)
 have key:∀{l:List (Str×Value)},(l.map (·.1)).Nodup→(x,u)∈l→l.lookup x=some u:=by
  intro l
  induction l with
  |nil=>intro _ h;cases h
  |cons p r ih=>
   intro n h;rw[dw,tN] at n;obtain⟨a,b⟩:=p;rcases aU.mp h with h|h
   ·cases h;simp
   ·have:x≠a:=fun z=>n.1 (by rw[←z];exact List.mem_map_of_mem (f:=(·.1)) h);rw[iu];rw[show(x==a)=false from qL.mpr this];exact ih n.2 h
 refine key ?_ (List.mem_reverse.mpr hm);rw[List.map_reverse,List.map_fst_zip (by lia)];exact List.pairwise_reverse.mpr (nd.imp fun h=>h.symm)
theorem P8{CX:tD}{P:Program}{w:World}{K:Frag}{mg:Str→aI}{base:Heap}{ps fr:ao}{qual:Str}{scope:Scope}{f:Addr}{cd:Value}{cl:List (Str×Addr)}{A:Around}{outer:List Env}{s:Shared}{h1:Heap}{H:Hp}{E:XK}{us:aD}{vs jD:ak}{tk:Nat}
 (S:qK ps fr scope) (C:zy base cl fr jD) (hd:A.handled=none) (e0:A0 P w K mg base A outer s H) (hl:vs.length=ps.length) (r:Vals vs us)
 (ns:h1.Ns s.heap.objs.size (fun x=>(ps.zip us).reverse.lookup x)) (sb:Heap.SameBut s.heap.objs.size (s.heap.push {cls:= .type "frame",data:= .dict #[]}) h1):
 Inv (HD CX P w K mg base (ps++fr) qual scope f cd cl A outer s H E) [] (vs.map some++jD.map some) H {s with heap:=h1,toks:=tk}:=by
 have hul:=r.length;have hk:∀b o,s.heap.get? b=some o→h1.get? b=some o:=fun b o e=>sb.extBut b o (bN (aQ e)) (a8 _ e);have Pz:∀b:Addr,b∉(HD CX P w K mg base (ps++fr) qual scope f cd cl A outer s H E).ex:=fun b z=>absurd (show b∈([]:bP) from z) (by simp)
 have aag:∀x c,cl.lookup x=some c→∃v,base.IsCell c v:=fun x c e=>by
  have hx:=C.sub x c e;obtain⟨i,hi,rfl⟩:=List.mem_iff_getElem.mp hx;obtain⟨c',u,e',ic,_⟩:=C.at_ i fr[i] (jD[i]'(by rw[C.len];exact hi)) (by simp) (by simp);rw[e] at e';cases e';exact⟨_,ic⟩
 have kc:∀{c:Addr} {v:aI},base.IsCell c v→h1.IsCell c v∧H c=none:=fun{c v} ⟨o,ho,Xy⟩=>⟨⟨o,hk _ _ (e0.bs _ _ ho).1,Xy⟩,(e0.bs _ _ ho).2⟩
 refine⟨⟨e0.mod,S.kind,rfl,rfl,aG _,fun y z c h1 h2=>C.inj y z c h1 h2,fun y hy=> ?_,fun y c h=>(nomatch h),fun _=>hd,Around.frames_deeper e0.frames,.inr ⟨rfl,rfl⟩,fun b z=>absurd z (Pz b),e0.bs,e0.Kc,fun b _ _=>Pz b,fun b z=>absurd z (Pz b),e0.qS,e0.NW⟩,
  rfl,e0.bare,Un.kept hk,⟨_,ns,fun i y v e1 e2 e3=> ?_⟩,fun y c h=> ?_,e0.bE.fresh (aG _),fun y c h=> ?_,fun p hp=>absurd (show p∈([]:aJ) from hp) (by simp),e0.bE.kept hk,?_⟩
 ·have hy:scope.names.lookup y=some .cell∨scope.names.lookup y=some .free:=hy;rcases hy with hy|hy
  ·exact absurd rfl (S.KQ _ (PySem.mem_of_lookup hy))
  ·have hx:=S.all y hy;obtain⟨i,hi,rfl⟩:=List.mem_iff_getElem.mp hx;obtain⟨c',u,e',_⟩:=C.at_ i fr[i] (jD[i]'(by rw[C.len];exact hi)) (by simp) (by simp);exact⟨c',e'⟩
 ·have e1:(ps++fr)[i]? =some y:=e1;by_cases hi:i<ps.length
  ·rw[dP hi] at e1;rw[dP (by rw[aK];lia),bj] at e2;obtain⟨v',ev,z⟩:=CD.mp e2;cases z;obtain⟨u,hu,rv⟩:=r.get ev;exact⟨u,rv,.inl ⟨S.par y (bJ e1),Aa (S.nd.sublist (List.sublist_append_left _ _)) (by lia) e1 hu⟩⟩
  ·rw[gM (by lia)] at e1;rw[gM (by rw[aK];lia),aK,hl,bj] at e2;obtain⟨v',ev,z⟩:=CD.mp e2;cases z;obtain⟨c,u,ec,ic,rv⟩:=C.at_ _ y _ e1 ev;exact⟨u,rv,.inr ⟨.inr (S.fre y (bJ e1)),c,ec,(kc ic).1⟩⟩
 ·obtain⟨v,ic⟩:=aag y c h;exact⟨v,(kc ic).1⟩
 ·obtain⟨v,ic⟩:=aag y c h;exact(kc ic).2
 ·show _=(ps++fr).length;rw[ba,ba,aK,aK,hl,C.len]
theorem MQ{CX:tD}{P:Program}{w:World}{K:Frag}{mg:Str→aI}{base:Heap}{k:Nat}{f:Addr}{name qual:Str}{params:Arguments}{body:Expr}{scope:Scope}{pm cj ct oc:Value}{od:Option Addr}
 {xI:Array (aI)} {cl:List (Str×Addr)} {ps fr:ao} {jD:ak} {sp:Sp} (lk:base.get? f=some ⟨oc,od,.func (kla_fn name qual params body scope cl pm cj ct),xI⟩) (S:qK ps fr scope) (C:zy base cl fr jD)
 (len:∀vs H Q E,sp vs H Q E→vs.length=ps.length) (zR:∀vs H Q E h,sp vs H Q E→m8 P w H h→(∀b o,base.get? b=some o→h.get? b=some o)→h.CodeRec cj qual)
 (gu:∀(A:Around) (outer:List Env) (s:Shared) (H:Hp) (vs:ak) (Q:VK) (E:XK),cZ k (A.deeper (envX qual scope s.heap.objs.size f cj cl))→sp vs H Q E→
  ∃t,PE (HD CX P w K mg base (ps++fr) qual scope f cj cl A outer s H E) body t∧t (vs.map some++jD.map some) H Q):
 aM P w K mg base CX (k+1) f (kla_fn name qual params body scope cl pm cj ct) ps sp:=by
 refine⟨len,fun A outer s H args us vs Q E hr e0 hb r BC=> ?_⟩;have hl:=len _ _ _ _ BC;have lim:s.heap.NoLimit:=e0.mod.nolimit.keeps fun b o e=>(e0.bs b o e).1;have zG:∀y∈ps.zip us,scope.names.lookup y.1=some .local:=fun⟨n,v⟩ hy=>S.par n (yH hy).1;refine PySem.W.kla_callFunE hr.depth (e0.bs _ _ lk).1 rfl S.co S.gen rfl (zR vs H Q E s.heap BC e0.bE fun b o e=>(e0.bs b o e).1) (hb _ _ _ _ ?_);refine wpAny_newFunctionEnv S.KQ zG (fun h1 Pn hsb=>⟨lim.fresh _ hsb,?_⟩) S.kind;show codeAny _ _ (.expr body (envX qual scope s.heap.objs.size f cj cl)) _ _;obtain⟨t,ht,hq⟩:=gu A outer s H vs Q E (hr.deeper _) BC;have I:=P8 (CX:=CX) (qual:=qual) (f:=f) (cd:=cj) (E:=E) (tk:=s.toks+(ps.zip us).length) S C hr.hd e0 hl r Pn hsb;refine PySem.W.kla_codeExpr (eA (ht [] _ _ H _ I hq) (fun u s' hs=> ?_) fun e s' hs=>hs);obtain⟨v,H',J,rv,q⟩:=hs;exact⟨v,H',J.os,J.bare,J.base,J.bE,rv,q⟩
noncomputable def g9(c:Addr)(q:Str)(h:Heap):Prop:=∃o vs t,h.get? c=some o∧o.data= .fields vs∧vs[1]? =some (.str q t)
theorem KI{P:Program}{w:World}{H:Hp}{h:Heap}{c:Addr}{q:Str}(p:g9 c q h):bI P w H h c (.ext (g9 c q)):=by
 obtain⟨o,vs,t,e,r⟩:=p;exact⟨⟨o,vs,t,e,r⟩,⟨o,e⟩,fun h1 h2 ⟨o,vs,t,e1,r1⟩ k=>⟨o,vs,t,k _ e1,r1⟩⟩
theorem g9.rec{P:Program}{w:World}{H:Hp}{h:Heap}{c:Addr}{q:Str}(ok:m8 P w H h)(e:H c=some (.ext (g9 c q))):h.CodeRec (.ref c) q:=by
 obtain⟨o,vs,t,e1,r⟩:=(OV ok e:g9 c q h);exact⟨c,o,vs,t,rfl,e1,r⟩
section
variable{X:Cx}{pins:aJ}{σ:St}{H:Hp}{s:Shared}{E:Value→Shared→Prop}{c P:Addr}{ps:Array Value}
theorem Inv.lam{h' :Heap}{t' :Nat}{more:Array Value}{c' :Addr}{q:Str}{o:Obj}(I:Inv X pins σ H s)(eP:H P=some (.wz ps))(hx:∀b o,b≠P→s.heap.get? b=some o→h'.get? b=some o)
 (hP:h'.get? P=some {cls:= .none,data:= .fields (ps++more)}) (hc:s.heap.objs.size≤c') (hcp:g9 c' q h'):
 Inv X pins σ (upd (upd H P (.wz (ps++more))) c' (.ext (g9 c' q))) {s with heap:=h'.push o,toks:=t'}:=by
 have nP:∀b,H b=none→b≠P:=fun b n z=>by rw[z,eP] at n;cases n
 have nc:∀b o,s.heap.get? b=some o→b≠c' :=fun b o e z=>absurd (cf (aQ e) (z▸hc)) (b7 _);have hc0:H c' =none:=I.bE.fresh hc;have nH:∀b u,H b=some u→b≠c' :=fun b u e z=>by rw[z,hc0] at e;cases e
 have kp:∀b o',b≠P→s.heap.get? b=some o'→(h'.push o).get? b=some o' :=fun b o' n e=>a8 _ (hx b o' n e);have hPp:(h'.push o).get? P=some {cls:= .none,data:= .fields (ps++more)}:=a8 _ hP
 refine I.step (g' :=s.gens) (d' :=s.drawn) (ch:=[]) (fun _ z=>nomatch z) (fun b o' _ _ _ e n=>kp b o' (nP b n) e) (fun b o' _ _ _ e n=>⟨o'.slots,kp b o' (nP b n) e⟩) (fun b o' _ e n=>by rw[av (nc b o' e),av (nP b n)];exact n)
  (fun b o' _ e=> ?_) (fun b xs e=> ?_) (fun b o' u e=> ?_) (fun b Jc e=> ?_) (fun m hm=> ?_) (fun b u e=> ?_) I.bare
 ·by_cases hb:b=P
  ·rw[hb];exact⟨_,hPp⟩
  ·exact⟨o',kp b o' hb e⟩
 ·rw[av (nH b _ e),av (fun z=>by rw[z,eP] at e;cases e)];exact e
 ·rw[av (nH b _ e),av (fun z=>by rw[z,eP] at e;cases e)];exact e
 ·by_cases hb:b=P
  ·subst hb;rw[eP] at e;cases e;exact⟨more,by rw[av (nH b _ eP),aa]⟩
  ·exact⟨#[],by rw[av (nH b _ e),av hb,e];simp⟩
 ·obtain⟨o',es,ep,e,r⟩:=hm;exact⟨o',es,ep,kp _ o' (nP _ I.free) e,r⟩
 ·by_cases hb:b=c'
  ·subst hb;rw[aa] at e;cases e;obtain⟨o',vs,t,e1,r⟩:=hcp;exact KI ⟨o',vs,t,a8 _ e1,r⟩
  ·rw[av hb] at e;by_cases vE:b=P
   ·subst vE;rw[aa] at e;cases e;exact hPp
   ·rw[av vE] at e;refine(I.bE b u e).xT (fun b' v Fq e' =>kp b' v ?_ e') (fun b' q' => ?_) fun b' ys q' => ?_
    ·rcases Fq with z|z
     ·rw[z];exact vE
     ·exact fun z' =>by rw[z',eP] at z;cases z
    ·rw[av (nH b' _ q'),av (fun z=>by rw[z,eP] at q';cases q')];exact q'
    ·rw[av (nH b' _ q'),av (fun z=>by rw[z,eP] at q';cases q')];exact q'
structure qh(X:Cx)(c P:Addr):Prop where
 code:X.env.code= .ref c
 hd:CodeHd X.base c P
structure vY(X:Cx):Prop where
 at_:∃bm o,X.mg "__builtins__"=some (.ref bm)∧bm≠builtinsNs∧bm≠mainGlobals∧X.base.get? bm=some o∧o.cls= .type "module" ∧o.dict=some builtinsNs∧o.data= .plain
variable{params:Arguments}{body:Expr}{scope:Scope}{pos:Pos}{km:List (Str×Addr)}{Q:Value→Shared→Prop}
noncomputable abbrev sZ(X:Cx)(params:Arguments)(body:Expr)(scope:Scope)(km:List (Str×Addr))(c' :Addr)(vF:Value):Obj:=PySem.W.kla_obj "<lambda>" (X.env.qual++ "<lambda>") params body scope km ((X.mg "__name__").getD .none) c' vF
theorem VA(I:Inv X pins σ H s)(T:qh X c P)(B:vY X)(Bg:defaultsOf params X.env=([],[]))(Ta:closureFor scope X.env=pure km)(eP:H P=some (.wz ps))(ht:TriplesOk ps.toList)(hn:codeAmong pos ps.toList=none)
 (h:∀f c' vF s',H f=none→H c' =none→f≠c'→s.heap.objs.size≤f→Inv X pins σ (upd (upd H P (.wz (ps++ #[rawInt pos.line,rawInt pos.col,.ref c']))) c' (.ext (g9 c' (X.env.qual++ "<lambda>")))) s'→s'.heap.get? f=some (sZ X params body scope km c' vF)→
  (∀b o,b≠P→s.heap.get? b=some o→s'.heap.get? b=some o)→Q (.ref f) s'):wpAny (model X.prog X.w) X.A (eval (.Lambda params body scope pos) X.env) Q E s:=by
 have hP:s.heap.get? P=some (tabObj ps):=I.bE P _ eP;obtain⟨bm,ob,b1,b2,b3,b4,b5⟩:=B.at_
 have hgP:mainGlobals≠P:=fun z=>by
  obtain⟨o,es,ep,e,r⟩:=I.mod.glob;have:=(I.bs _ _ e).2;rw[z,eP] at this;cases this
 have hbP:bm≠P:=fun z=>by
  have:=(I.bs _ _ b4).2;rw[z,eP] at this;cases this
 refine kla_eval Bg (PySem.W.kla_makeFunction (mg:=X.mg) Ta I.ok.glob (I.mod.glob.keeps I.bk) T.code (T.hd.keeps I.bk) hP ht hn hgP ⟨bm,ob,b1,b2,b3,hbP,(I.bs _ _ b4).1,b5⟩ fun c' vF h' tk hx hge iU acr Eu=> ?_);obtain⟨c2,oc,vs,t,e2,hoc,hd,hv⟩:=acr;cases e2;have hsz:s.heap.objs.size≤h'.objs.size:=aR hge (bO iU);refine h h'.objs.size c' vF _ (I.bE.fresh hsz) (I.bE.fresh hge) (hU iU) hsz (I.lam eP (fun b o n e=>hx b o n e) Eu hge ⟨oc,vs,t,hoc,hd,hv⟩) (cg _ rfl) fun b o n e=>a8 _ (hx b o n e)
theorem Jj{c' :Addr}(I:Inv X pins σ H s)(T:qh X c P)(B:vY X)(Bg:defaultsOf params X.env=([],[]))(Ta:closureFor scope X.env=pure km)(eP:H P=some (.wz ps))(ht:TriplesOk ps.toList)(hf:codeAmong pos ps.toList=some (.ref c'))
 (h:∀f vF s',H f=none→s.heap.objs.size≤f→Inv X pins σ H s'→s'.heap.get? f=some (sZ X params body scope km c' vF)→
  (∀b o,s.heap.get? b=some o→s'.heap.get? b=some o)→Q (.ref f) s'):wpAny (model X.prog X.w) X.A (eval (.Lambda params body scope pos) X.env) Q E s:=by
 have hP:s.heap.get? P=some (tabObj ps):=I.bE P _ eP;obtain⟨bm,ob,b1,b2,b3,b4,b5⟩:=B.at_
 have hbP:bm≠P:=fun z=>by
  have:=(I.bs _ _ b4).2;rw[z,eP] at this;cases this
 refine kla_eval Bg (PySem.W.kla_makeFunctionHit (mg:=X.mg) Ta I.ok.glob (I.mod.glob.keeps I.bk) T.code (T.hd.keeps I.bk) hP ht hf ⟨bm,ob,b1,b2,b3,hbP,(I.bs _ _ b4).1,b5⟩ fun vF h' tk hk hsz=> ?_);have hk' :∀b o,s.heap.get? b=some o→(h'.push (sZ X params body scope km c' vF)).get? b=some o:=fun b o e=>a8 _ (hk b o e);exact h h'.objs.size vF _ (I.bE.fresh hsz) hsz (I.kept hk') (cg _ rfl) hk'
end
noncomputable def Ae(base:Heap)(xs:bP):Hp:=fun b=>if(base.get? b).isSome=true∨b∈xs then none else some (.wz #[])
theorem GU{base:Heap}{xs:bP}{b:Addr}{o:Obj}(e:base.get? b=some o):Ae base xs b=none:=by
 unfold Ae;rw[aA (.inl (by rw[e];rfl))]
theorem J7{base:Heap}{xs:bP}{b:Addr}(e:b∈xs):Ae base xs b=none:=by
 unfold Ae;rw[aA (.inr e)]
theorem Af{base:Heap}{xs:bP}{b:Addr}(e:Ae base xs b=none):(∃o,base.get? b=some o)∨b∈xs:=by
 unfold Ae at e
 split at e
 ·rename_i h;rcases h with h|h
  ·exact .inl (Option.isSome_iff_exists.mp h)
  ·exact .inr h
 ·cases e
section
variable{X:Cx}{pins:aJ}{σ:St}{H:Hp}{s:Shared}{xs:bP}
noncomputable abbrev wR(X:Cx)(s:Shared)(xs:bP):Heap:=A6 s.heap (Ae X.base xs)
theorem Jt(I:Inv X pins σ H s){b:Addr}{o:Obj}(e:X.base.get? b=some o):(wR X s xs).get? b=some o:=z7 (I.bs b o e).1 (GU e)
theorem Br{b:Addr}{o:Obj}(hb:b∈xs)(e:s.heap.get? b=some o):(wR X s xs).get? b=some o:=z7 e (J7 hb)
theorem Inv.Z9(I:Inv X pins σ H s)(hH:∀b∈xs,H b=none)(hF:∀b∈xs,b∉A5 X.stack):A0 X.prog X.w X.K X.mg (wR X s xs) X.A X.stack s H:=by
 have up:∀b o,X.base.get? b=some o→(wR X s xs).get? b=some o:=fun b o e=>Jt I e;obtain⟨mb,h1,h2⟩:=I.mod.blt;refine⟨I.ok.frames,⟨I.mod.tp.keeps up,I.mod.glob.keeps up,⟨mb,h1.keeps up,h2⟩,I.mod.nolimit.keeps up⟩,fun b o e=> ?_,n5 (BE _ _),?_,I.vd,I.bE,I.bare⟩
 ·obtain⟨e1,e2⟩:=DV e;refine⟨e1,?_⟩;rcases Af e2 with⟨o',e3⟩|e3
  ·exact(I.bs b o' e3).2
  ·exact hH b e3
 ·have all:∀(l:List Env),(∀b∈A5 l,b∈A5 X.stack)→s.heap.FunFrames X.base l→s.heap.FunFrames (wR X s xs) l:=by
   intro l
   induction l with
   |nil=>intro _ _;trivial
   |cons env r ih=>
    intro hs hl;obtain⟨hk,⟨L,o,hf,hn,ho,hd⟩,hr⟩:=hl;refine⟨hk,⟨L,o,hf,?_,ho,hd⟩,ih (fun b hb=>hs b (by unfold A5;rw[mh,hf];exact ff _ hb)) hr⟩
    cases q:(wR X s xs).get? L with
    |none=>rfl
    |some o' =>
     obtain⟨_,e2⟩:=DV q;rcases Af e2 with⟨o',e3⟩|e3
     ·rw[hn] at e3;cases e3
     ·exact absurd (hs L (by unfold A5;rw[mh,hf];exact e_)) (hF L e3)
  exact all X.stack (fun _ h=>h) I.stack
end
theorem PV{X:Cx}{pins:aJ}{σ:St}{H:Hp}{s:Shared}{xs:bP}{CX:tD}{k:Nat}{f:Addr}{fd:FuncData}{ps:ao}{sp:Sp}{E:XK}{Q:VK}{us ds:aD}{vs dvs:ak}(F:aM X.prog X.w X.K X.mg (wR X s xs) CX k f fd ps sp)(hr:cZ k X.A)(hb:Binds X.K fd ps ds)(hd:Vals dvs ds)
 (hx:wn CX X E) (I:Inv X pins σ H s) (hH:∀b∈xs,H b=none) (hF:∀b∈xs,b∉A5 X.stack) (r:Vals vs us) (h:sp (vs++dvs) H Q E):wpAny (model X.prog X.w) X.A (call (.ref f) us) (EP X pins σ Q) X.xe s:=by
 have hl:(us++ds).length=ps.length:=by rw[←(r.append hd).length];exact F.len _ _ _ _ h
 have hbb:=hb s us I.je hl;refine pP (pN (F.run X.A X.stack s H ⟨us,[]⟩ (us++ds) (vs++dvs) Q E hr (I.Z9 hH hF) hbb (r.append hd) h) fun r s' hq=> ?_)
 cases r with
 |error e=>exact hx pins σ H s e s' I hq
 |ok fl=>
  cases fl with
  |ret u=>exact I.after hq
  |next=>exact False.elim hq
  |brk=>exact False.elim hq
  |cont=>exact False.elim hq
section
variable{X:Cx}{CX:tD}{j k:Nat}{f:Addr}{fd Pj :FuncData}{ps:ao}{sp:Sp}{E:XK}{x:Str}{p pos:Pos}{e:Expr}{es:cu}{te:TE}{t:TA}
noncomputable def LI(f:Addr)(sp:Sp)(E:XK)(te:TE)(t:TA):TE:=fun σ H Q=>te σ H fun v H1=>v= .ref f∧t σ H1 fun vs H2=>sp vs H2 Q E
theorem KL(F:aM X.prog X.w X.K X.mg X.base CX j f fd ps sp)(hf:∃oc od sl,X.base.get? f=some ⟨oc,od,.func Pj,sl⟩)(hr:cZ k X.A)(hb:Binds X.K fd ps [])(hx:wn CX X E)(hn:PE X (.Name x p) te)(ha:PA X (e::es) t)(hj:j≤k:=by decide)
 (he:starEach (e::es) X.env=(false,eval e X.env)::starEach es X.env:=by rfl) (jN:(backTo pos (starEach es X.env)).any (·.1)=false:=by rfl):
 PE X (.Call (.Name x p) (e::es) [] pos) (LI f sp E te t):=by
 intro pins s σ H Q I h;obtain⟨oc,od,sl,lk⟩:=hf;refine lR (ck (hn pins s σ H _ I h) fun u s1 ⟨v,H1,I1,rv,ev,q⟩=> ?_);subst ev;cases rv;refine PySem.W.callWith_F ⟨oc,od,Pj,sl,I1.bk _ _ lk⟩ (ck (ha pos pins s1 σ H1 _ I1 q) fun us s2 ⟨vs,H2,I2,r,q2⟩=>⟨⟨oc,od,Pj,sl,I2.bk _ _ lk⟩,?_⟩) he jN;have:=wB (dvs:=[]) (ds:=[]) (F.mono hj) hr hb .nil hx I2 r (by rw[dO];exact q2);exact this
theorem JB(F:aM X.prog X.w X.K X.mg X.base CX j f fd ps sp)(hf:∃oc od sl,X.base.get? f=some ⟨oc,od,.func Pj,sl⟩)(hr:cZ k X.A)(hb:Binds X.K fd ps [])(hx:wn CX X E)(hn:PE X (.Name x p) te)(hj:j≤k:=by decide):
 PE X (.Call (.Name x p) [] [] pos) (LI f sp E te uG):=by
 intro pins s σ H Q I h;obtain⟨oc,od,sl,lk⟩:=hf;refine lR (ck (hn pins s σ H _ I h) fun u s1 ⟨v,H1,I1,rv,ev,q⟩=> ?_);subst ev;cases rv;exact PySem.W.callWith_F0 ⟨oc,od,Pj,sl,I1.bk _ _ lk⟩ (wB (us:=[]) (dvs:=[]) (ds:=[]) (F.mono hj) hr hb .nil hx I1 .nil q)
end
structure s_(X:Cx)(scope:Scope)(km:List (Str×Addr))(fr:ao)(js:List Nat):Prop where
 cl:closureFor scope X.env=pure km
 len:js.length=fr.length
 slot:∀(i j:Nat) x,js[i]? =some j→fr[i]? =some x→X.N[j]? =some x
 kind:∀x∈fr,X.env.kindOf x=some .cell
 fn:∀x∈fr,X.fn x=true
 xS:∀x∈fr,km.lookup x=X.env.cells.lookup x
 sub:∀x c,km.lookup x=some c→x∈fr
theorem s_.none{X:Cx}{scope:Scope}(h:closureFor scope X.env=pure []):s_ X scope [] [] []:=
 ⟨h,rfl,fun i j x e=>by simp at e,fun x h=>(nomatch h),fun x h=>(nomatch h),fun x h=>(nomatch h),fun x c e=>by simp at e⟩
noncomputable def Hh(P:Addr)(nk:Pos)(q:Str)(sp:Addr→Addr→ak→Sp)(E:XK)(js:List Nat)(dvs:ak)(t:TA):TE:=fun σ H Q=>t σ H fun vs H1=>∃(ps:Array Value) (jD:ak),H1 P=some (.wz ps)∧TriplesOk ps.toList∧jD.length=js.length∧(∀(i j:Nat) v,js[i]? =some j→jD[i]? =some v→σ[j]? =some (some v))∧
 ((codeAmong nk ps.toList=none∧∀f c',H1 f=none→H1 c' =none→f≠c'→sp f c' jD (vs++[.ref f]++dvs) (upd (upd H1 P (.wz (ps++ #[rawInt nk.line,rawInt nk.col,.ref c']))) c' (.ext (g9 c' q))) Q E)∨
  ∃c',codeAmong nk ps.toList=some (.ref c')∧H1 c' =some (.ext (g9 c' q))∧∀f,H1 f=none→sp f c' jD (vs++[.ref f]++dvs) H1 Q E)
section
variable{X:Cx}{CX:tD}{j k:Nat}{g c P:Addr}{Xd:FuncData}{Xr fr:ao}{js:List Nat}{sp:Addr→Addr→ak→Sp}{E:XK}{x:Str}{p pos nk:Pos}{e:Expr}{t:TA}{ds:aD}{dvs:ak}{params:Arguments}{body:Expr}{scope:Scope}{km:List (Str×Addr)}
theorem Im{pins:aJ}{σ:St}{H:Hp}{s:Shared}{Q:VK}{us0:aD}{vs:ak}(T:qh X c P)(B:vY X)(C:s_ X scope km fr js)(Bg:defaultsOf params X.env=([],[]))
 (F:∀(gs :Heap) (f c' :Addr) (vF:Value) (jD:ak),gs.get? f=some (sZ X params body scope km c' vF)→zy gs km fr jD→aM X.prog X.w X.K X.mg gs CX k g Xd Xr (sp f c' jD)) (hr:cZ k X.A) (hb:Binds X.K Xd Xr ds) (hd:Vals dvs ds) (hx:wn CX X E)
 (I:Inv X pins σ H s) (r:Vals vs us0) (h:Hh P nk (X.env.qual++ "<lambda>") sp E js dvs (fun σ H Q' =>Q' vs H) σ H Q):
 wpAny (model X.prog X.w) X.A (eval (.Lambda params body scope nk) X.env) (fun u s1=>X.K.In s1.heap∧wpAny (model X.prog X.w) X.A (call (.ref g) (us0++[u])) (EP X pins σ Q) X.xe s1) X.xe s:=by
 obtain⟨ps,jD,eP,ht,kW,hfv,Za⟩:=h
 have cells:∀y∈fr,∃c,X.env.cells.lookup y=some c∧X.eV.heap.objs.size≤c:=fun y hy=>by
  obtain⟨c,e⟩:=I.ok.has y (.inl (C.kind y hy));exact⟨c,e,I.ok.R1 y c (C.fn y hy) e⟩
 have fin:∀{H' :Hp} {s' :Shared} {f c' :Addr} {vF:Value},Inv X pins σ H' s'→H' f=none→s.heap.objs.size≤f→s'.heap.get? f=some (sZ X params body scope km c' vF)→sp f c' jD (vs++[.ref f]++dvs) H' Q E→
  X.K.In s'.heap∧wpAny (model X.prog X.w) X.A (call (.ref g) (us0++[.ref f])) (EP X pins σ Q) X.xe s' :=by
  intro H' s' f c' vF I' hf HN lk hq;refine⟨I'.je,?_⟩;have Qe:∀b∈A5 X.stack,b=X.env.locals∨b∈X.fs:=fun b hb=>aU.mp (I'.zL b hb)
  have fsz:∀b∈X.fs,b<X.eV.heap.objs.size:=fun b hb=>by
   obtain⟨_,o,ho,_⟩:=I.ok.qS.mem hb;exact aQ ho
  have BW:∀b∈f::fr.filterMap (fun y=>X.env.cells.lookup y),H' b=none∧b∉A5 X.stack:=fun b hb=>by
   rcases aU.mp hb with rfl|hb
   ·refine⟨hf,fun z=> ?_⟩;rcases Qe _ z with z|z
    ·exact absurd (cf I.lt (z▸HN)) (b7 _)
    ·exact absurd (cf (fsz _ z) (aR I.sz HN)) (b7 _)
   ·obtain⟨y,hy,e⟩:=vn.mp hb;refine⟨I'.i4 y b e,fun z=> ?_⟩;rcases Qe _ z with z|z
    ·exact I'.N6 y b e z
    ·obtain⟨c1,e1,hc1⟩:=cells y hy;rw[e] at e1;cases e1;exact absurd (cf (fsz _ z) hc1) (b7 _)
  have abY:zy (wR X s' (f::fr.filterMap (fun y=>X.env.cells.lookup y))) km fr jD:=by
   refine⟨by rw[kW,C.len],fun i y v e1 e2=> ?_,fun y z c0 e1 e2=> ?_,C.sub⟩
   ·have hi:i<js.length:=by rw[C.len];exact(dq.mp e1).1
    have ej:js[i]? =some js[i]:=by simp
    have hy:=bJ e1;obtain⟨m,_,hl⟩:=I'.loc;obtain⟨u,rv,l⟩:=hl js[i] y v (C.slot i _ y ej e1) (hfv i _ v ej e2) (.inr (.inl (C.kind y hy)));rcases l with⟨l1,_⟩|⟨_,c0,l1,o,ho,hd⟩
    ·rw[C.kind y hy] at l1;cases l1
    ·exact⟨c0,u,(C.xS y hy).trans l1,⟨o,Br (ff _ (vn.mpr ⟨y,hy,l1⟩)) ho,hd⟩,rv⟩
   ·exact I.ok.inj y z c0 ((C.xS y (C.sub y c0 e1)).symm.trans e1) ((C.xS z (C.sub z c0 e2)).symm.trans e2)
  have r2:Vals (vs++[.ref f]) (us0++[.ref f]):=r.append (.cons rfl .nil);exact PV (F _ f c' vF jD (Br e_ lk) abY) hr hb hd hx I' (fun b hb=>(BW b hb).1) (fun b hb=>(BW b hb).2) r2 hq
 rcases Za with⟨hn,hq⟩|⟨c',hh,hc,hq⟩
 ·refine VA I T B Bg C.cl eP ht hn fun f c' vF s' hf hc0 mq HN I' lk _=>fin I' ?_ HN lk (hq f c' hf hc0 mq);rw[av mq,av (fun z=>by rw[z,eP] at hf;cases hf)];exact hf
 ·exact Jj I T B Bg C.cl eP ht hh fun f vF s' hf HN I' lk _=>fin I' hf HN lk (hq f hf)
theorem Pq(T:qh X c P)(B:vY X)(C:s_ X scope km fr js)
 (F:∀(gs :Heap) (f c' :Addr) (vF:Value) (jD:ak),gs.get? f=some (sZ X params body scope km c' vF)→zy gs km fr jD→aM X.prog X.w X.K X.mg gs CX j g Xd Xr (sp f c' jD)) (hr:cZ k X.A) (hg:Gl X x) (hm:X.mg x=some (.ref g)) (hk:PySem.W.keepIn X.K (.ref g)=true) (hb:Binds X.K Xd Xr ds) (hd:Vals dvs ds) (hx:wn CX X E)
 (hj:j≤k:=by decide) (Bg:defaultsOf params X.env=([],[]):=by rfl) (se:(x==("__debug__" :Str))=false:=by decide) (he:starEach [.Lambda params body scope nk] X.env=[(false,eval (.Lambda params body scope nk) X.env)]:=by rfl):
 PE X (.Call (.Name x p) [.Lambda params body scope nk] [] pos) (Hh P nk (X.env.qual++ "<lambda>") sp E js dvs uG):=by
 intro pins s σ H Q I h;refine lR (jE I hg hm ?_ se);refine o6 (h₀:=X.base) I.ok.mod.tp hk ?_ he rfl;rw[he];show wpAny _ _ (spliced ((false,eval (.Lambda params body scope nk) X.env)::[])) _ _ s;refine sD (ck (Im (us0:=[]) (vs:=[]) T B C Bg (fun b f c' vF jD h1 h2=>(F b f c' vF jD h1 h2).mono hj) hr hb hd hx I .nil h) fun u s1 hu=>tU hu)
theorem Oj{te:TE}(T:qh X c P)(B:vY X)(C:s_ X scope km fr js)
 (F:∀(gs :Heap) (f c' :Addr) (vF:Value) (jD:ak),gs.get? f=some (sZ X params body scope km c' vF)→zy gs km fr jD→aM X.prog X.w X.K X.mg gs CX j g Xd Xr (sp f c' jD)) (hr:cZ k X.A) (hg:Gl X x) (hm:X.mg x=some (.ref g)) (hk:PySem.W.keepIn X.K (.ref g)=true) (hb:Binds X.K Xd Xr ds) (hd:Vals dvs ds) (hx:wn CX X E) (ha:PE X e te)
 (hj:j≤k:=by decide) (Bg:defaultsOf params X.env=([],[]):=by rfl) (se:(x==("__debug__" :Str))=false:=by decide) (he:starEach [e,.Lambda params body scope nk] X.env=[(false,eval e X.env),(false,eval (.Lambda params body scope nk) X.env)]:=by rfl) (Zg:starEach [.Lambda params body scope nk] X.env=[(false,eval (.Lambda params body scope nk) X.env)]:=by rfl):
 PE X (.Call (.Name x p) [e,.Lambda params body scope nk] [] pos) (Hh P nk (X.env.qual++ "<lambda>") sp E js dvs (xv te uG)):=by
 intro pins s σ H Q I h;refine lR (jE I hg hm ?_ se);refine o6 (h₀:=X.base) I.ok.mod.tp hk ?_ (by rw[he,Zg]) (by rw[Zg];rfl);rw[he];show wpAny _ _ (spliced ((false,eval e X.env)::(false,eval (.Lambda params body scope nk) X.env)::[])) _ _ s;refine sD (ck (ha pins s σ H _ I h) fun u s1 ⟨v,H1,I1,r1,q1⟩=> ?_);exact sD (ck (Im (us0:=[u]) (vs:=[v]) T B C Bg (fun b f c' vF jD h1 h2=>(F b f c' vF jD h1 h2).mono hj) hr hb hd hx I1 (.cons r1 .nil) q1) fun u2 s2 hu=>tU hu)
end
structure IP(tabs:List (Addr×Array Value))(H:Hp):Prop where
 only:∀b,H b=none∨(∃o xs,H b=some (.Eo o (.lst xs)))∨∃ps,(b,ps)∈tabs∧H b=some (.wz ps)
 at_:∀P ps,(P,ps)∈tabs→H P=some (.wz ps)
theorem Bt{β:Type}{l:List (Addr×β)}{k:Addr}{v:β}(h:l.lookup k=some v):(k,v)∈l:=by
 obtain⟨l1,l2,e,_⟩:=DB.mp h;rw[e];simp
theorem J6{P:Program}{w:World}{K:Frag}{mg mb:Str→aI}{CX:tD}{k:Nat}{fa a:Addr}{fd:FuncData}{x:Str}{sp:Sp}{bC:Shared}{vs:aD}{ns:List Int}{tabs:List (Addr×Array Value)}
 (KX:K.In bC.heap) (Pn:bC.heap.Ns mainGlobals mg) (hb:bC.heap.Ns builtinsNs mb) (hbb:∀x:Str,x≠ "__name__" →mb x=bootBuiltins x) (acD:bC.heap.NoLimit) (hg:bC.gens= #[])
 (ha:bC.heap.get? a=some {cls:= .type "list",data:= .seq vs.toArray}) (hi:IntsAre vs ns) (hl:ns.length≤sizeLine) (hr:cZ k callerA)
 (Eu:∀Pt ps,(Pt,ps)∈tabs→bC.heap.get? Pt=some (tabObj ps)∧K.lookup Pt=none∧∃c,CodeHd bC.heap c Pt) (htn:∀Pt ps Jc,(Pt,ps)∈tabs→(Pt,Jc)∈tabs→ps=Jc)
 (F:∀base:Heap,K.In base→base.Ns mainGlobals mg→aM P w K mg base CX k fa fd [x] sp) (ZX:∀(s:Shared) (u:Value),BindsTo s fd ⟨[u],[]⟩ [(x,u)])
 (BC:∀H:Hp,IP tabs H→bF K H a (ns.map V.int)→sp [.ref a] H (fun v _=>v= .bl true) fun _ _ _=>False)
 (hCX:∀H e s',CX [] H bC (fun _ _ _=>False) e s'→False):
 codeAny (model P w) callerA (.call (.ref fa) ⟨[.ref a],[]⟩) (fun r s' =>r= .ok (.ret (.bool true))∧OldK bC.heap s'.heap∧s'.os=bC.os∧AllBare s'.gens) bC:=by
 have rv:=Bu hi;have adj:=hi.length
 have core:∀H:Hp,IP tabs H→bF K H a (ns.map V.int)→m8 P w H bC.heap→(∀b,H b≠none→K.lookup b=none∧∀o es ep,bC.heap.get? b=some o→o.data≠.dict es ep)→
  codeAny (model P w) callerA (.call (.ref fa) ⟨[.ref a],[]⟩) (fun r s' =>r= .ok (.ret (.bool true))∧OldK bC.heap s'.heap∧s'.os=bC.os∧AllBare s'.gens) bC:=by
  intro H hO hS bE hK;have IT:∀{b:Addr} {o:Obj},bC.heap.get? b=some o→H b=none→(A6 bC.heap H).get? b=some o:=fun e n=>z7 e n
  have Pz:∀{b:Addr} {o:Obj} {es:Array DictEntry} {ep:Nat},bC.heap.get? b=some o→o.data= .dict es ep→H b=none:=fun{b o es ep} e d=>by
   cases q:H b with
   |none=>rfl
   |some u=>exact absurd d ((hK b (by rw[q];simp)).2 o es ep e)
  have nsK:∀{b:Addr} {m:Str→aI},bC.heap.Ns b m→(A6 bC.heap H).Ns b m:=fun{b m} ⟨o,es,ep,e,d,r⟩=>⟨o,es,ep,IT e (Pz e d),d,r⟩
  have hKb:K.In (A6 bC.heap H):=fun b o e=>IT (KX b o e) (by
   cases q:H b with
   |none=>rfl
   |some u=>
    rw[(hK b (by rw[q];simp)).1] at e;cases e)
  have hM:Mod K mg (A6 bC.heap H):=⟨hKb,nsK Pn,⟨mb,nsK hb,hbb⟩,let⟨mc,h1,h2⟩:=acD;⟨mc,nsK h1,h2⟩⟩;have e0:A0 P w K mg (A6 bC.heap H) callerA [] bC H:=⟨rfl,hM,fun b o e=>DV e,n5 (BE _ _),trivial,fun b hb=>absurd (show b∈([]:bP) from hb) (by simp),bE,.of_eq hg⟩;refine pN ((F _ hKb (nsK Pn)).run callerA [] bC H ⟨[.ref a],[]⟩ [.ref a] [.ref a] _ _ hr e0 (ZX bC (.ref a)) (.cons rfl .nil) (BC H hO hS)) fun r s' h=> ?_
  cases r with
  |error e=>exact(hCX H e s' h).elim
  |ok fl=>
   cases fl with
   |next=>exact False.elim h
   |brk=>exact False.elim h
   |cont=>exact False.elim h
   |ret u=>
    obtain⟨v,H',os,bare,un,Z4,r',q⟩:=h;have q' :v= .bl true:=q;subst q';obtain rfl:u=Value.bool true:=r';refine⟨rfl,⟨fun b o e=> ?_,fun b o e=>un.there b o e (by simp)⟩,os,bare⟩
    cases q:H b with
    |none=>exact .inl (un.keep b o e q (by intro z;exact absurd (show b∈([]:bP) from z) (by simp)) (by simp))
    |some u=>
     rcases hO.only b with z|⟨ob,xs,z⟩|⟨ps,hm,z⟩
     ·rw[q] at z;cases z
     ·have z2:=un.zr b ob _ z;obtain⟨e1,_⟩:=bE b _ z;obtain⟨e2,_⟩:=Z4 b _ z2;rw[e] at e1;cases e1
      exact .inl e2
     ·obtain⟨more,z2⟩:=un.Ad b ps z;have e2:s'.heap.get? b=some {cls:= .none,data:= .fields (ps++more)}:=Z4 b _ z2;obtain⟨e1,_,c,hc⟩:=Eu b ps hm;rw[e] at e1;cases e1;exact .inr (.inl ⟨(hc.tab e).isCodeTable,rfl,ps,more,rfl,e2⟩)
 have nPa:∀Pt ps,(Pt,ps)∈tabs→Pt≠a:=fun Pt ps hm z=>by
  have:=(Eu Pt ps hm).1;rw[z,ha] at this;cases this
 have mk:∀u:Option HO,(∀x,u=some x→x= .Eo {cls:= .type "list",data:= .seq vs.toArray} (.lst (ns.map V.int))∧K.lookup a=none)→
  ∃H:Hp,H a=u∧IP tabs H∧m8 P w H bC.heap∧∀b,H b≠none→K.lookup b=none∧∀o es ep,bC.heap.get? b=some o→o.data≠.dict es ep:=by
  intro u hu
  have lk:∀Pt ps,(Pt,ps)∈tabs→tabs.lookup Pt=some ps:=fun Pt ps hm=>by
   cases q:tabs.lookup Pt with
   |none=>
    have:=List.lookup_eq_none_iff.mp q (Pt,ps) hm;simp at this
   |some Jc =>rw[htn Pt ps Jc hm (Bt q)]
  have at' :∀Pt ps,(Pt,ps)∈tabs→(if Pt=a then u else(tabs.lookup Pt).map HO.wz)=some (.wz ps):=fun Pt ps hm=>by rw[ay (nPa Pt ps hm),lk Pt ps hm];rfl
  have FX :∀b x,(if b=a then u else(tabs.lookup b).map HO.wz)=some x→(b=a∧u=some x)∨∃ps,(b,ps)∈tabs∧x= .wz ps:=fun b x e=>by
   by_cases hb:b=a
   ·rw[aA hb] at e;exact .inl ⟨hb,e⟩
   ·rw[ay hb] at e;obtain⟨ps,e1,rfl⟩:=CD.mp e;exact .inr ⟨ps,Bt e1,rfl⟩
  refine⟨fun b=>if b=a then u else(tabs.lookup b).map HO.wz,aA rfl,⟨fun b=> ?_,at'⟩,fun b x e=> ?_,fun b hb=> ?_⟩
  ·cases q:(if b=a then u else(tabs.lookup b).map HO.wz) with
   |none=>exact .inl rfl
   |some x=>
    rcases FX b x q with⟨_,e⟩|⟨ps,hm,rfl⟩
    ·obtain⟨rfl,_⟩:=hu x e;exact .inr (.inl ⟨_,_,rfl⟩)
    ·exact .inr (.inr ⟨ps,hm,rfl⟩)
  ·rcases FX b x e with⟨Fq,e'⟩|⟨ps,hm,rfl⟩
   ·obtain⟨rfl,_⟩:=hu x e';subst Fq;exact⟨ha,by rw[aK];exact hl,vs,_,rv,ha⟩
   ·exact(Eu b ps hm).1
  ·obtain⟨x,q⟩:=Option.ne_none_iff_exists'.mp hb;rcases FX b x q with⟨Fq,e'⟩|⟨ps,hm,rfl⟩
   ·subst Fq;refine⟨(hu x e').2,fun o es ep eo d=> ?_⟩;rw[ha] at eo;cases eo;cases d
   ·obtain⟨e1,e2,_⟩:=Eu b ps hm;refine⟨e2,fun o es ep eo d=> ?_⟩;rw[e1] at eo;cases eo;cases d
 cases hk:K.lookup a with
 |some o=>
  have e:=KX a o hk;rw[ha] at e;cases e;obtain⟨H,_,hO,bE,hK⟩:=mk none (fun x e=>(nomatch e));exact core H hO (.inr ⟨_,vs.toArray,_,hk,rfl,rfl,rfl,by rw[bh,adj];exact hl,by simpa using rv⟩) bE hK
 |none=>
  obtain⟨H,eH,hO,bE,hK⟩:=mk (some (.Eo {cls:= .type "list",data:= .seq vs.toArray} (.lst (ns.map V.int)))) (fun x e=>by cases e;exact⟨rfl,hk⟩);exact core H hO (.inl (.inr ⟨_,eH⟩)) bE hK
theorem K3{l:PySem.W.OpenLaw}{n k:Nat}{q:Program}{loose:ao}{XP:(Str→aI)→Heap→Prop}{YP:World→Heap→Prop}{d:DefRec}{K:Params→Frag}{CX:World→tD}{sp:World→Sp}{x:Str}{tabs:List (Addr×Array Value)}
 (hn:l.most=some n) (WT:n≤sizeLine) (Zk:d.params.defaults=[]) (hr:cZ k callerA)
 (hY:∀(w:World) (h:Heap),YP w h→(K w.params).In h∧∀Pt ps,(Pt,ps)∈tabs→h.get? Pt=some (tabObj ps)∧(K w.params).lookup Pt=none∧∃c,CodeHd h c Pt) (htn:∀Pt ps Jc,(Pt,ps)∈tabs→(Pt,Jc)∈tabs→ps=Jc)
 (F:∀(w:World) (mg:Str→aI) (fa:Addr) (h:Heap),(K w.params).In h→h.Ns mainGlobals mg→mg d.name=some (.ref fa)→
  ∃fd:FuncData,(∀(s:Shared) (u:Value),BindsTo s fd ⟨[u],[]⟩ [(x,u)])∧
   ∀base:Heap,(K w.params).In base→base.Ns mainGlobals mg→aM l.prog w (K w.params) mg base (CX w) k fa fd [x] (sp w))
 (BC:∀(w:World) (H:Hp) (a:Addr) (ns:List Int),ns.length≤n→IP tabs H→bF (K w.params) H a (ns.map V.int)→sp w [.ref a] H (fun v _=>v= .bl true) fun _ _ _=>False)
 (hCX:∀(w:World) (H:Hp) (s:Shared) (e:Value) (s' :Shared),CX w [] H s (fun _ _ _=>False) e s'→False):
 PySem.W.WalkO q loose XP YP l.row.toRowW d [] (fun f vs=>PySem.call f vs):=by
 refine Att.Ej hn Zk fun w eV bC mg mb fa o pm cd doc a vs ns G Y ho hd zR PZ VP hints hlen hg=> ?_;obtain⟨KX,Eu⟩:=hY w _ Y;obtain⟨fd,hb,hF⟩:=F w mg fa _ KX G.T.g PZ;exact J6 KX G.T.g G.T.b G.T.builtins G.T.nolimit hg VP hints (aR hlen WT) hr Eu htn hF hb (fun H hO hS=>BC w H a ns hlen hO hS) fun H e s' =>hCX w H bC e s'
structure zI(P:Program)(w:World)(K:Frag)(d:Addr)(a6:dE):Prop where
 ex:∃o vs,K.lookup d=some o∧(d==sysModules)=false∧KV a6 vs∧∀h:Heap,h.get? d=some o→h.DictOf (cb P w) d vs
noncomputable def Wv(d:Addr)(a6:dE)(ta tb:TE):TE:=fun σ H Q=>ta σ H fun x H1=>tb σ H1 fun y H2=>∃k v,x= .ref d∧y=kV k∧jo a6 k=some v∧Q v H2
noncomputable def NJ(d:Addr)(a6:dE)(ty td:TE):TE:=fun σ H Q=>ty σ H fun y H1=>td σ H1 fun x H2=>∃k,x= .ref d∧y=kV k∧Q (.bl (!(jo a6 k).isSome)) H2
section
variable{X:Cx}{d:Addr}{a6:dE}{o i:Expr}{pos:Pos}{td ty:TE}
theorem zI.at_{P:Program}{w:World}{K:Frag}{h:Heap}(kd:zI P w K d a6)(X:K.In h):(d==sysModules)=false∧∃vs,KV a6 vs∧h.DictOf (cb P w) d vs:=by
 obtain⟨o,vs,lk,ns,rel,f⟩:=kd.ex;exact⟨ns,vs,rel,f h (X _ _ lk)⟩
theorem pS(kd:zI X.prog X.w X.K d a6)(ho:PE X o td)(hi:PE X i ty)(hs:Z2 i:=by exact fun _ _=>rfl):PE X (.Subscript o i pos) (Wv d a6 td ty):=by
 intro pins s σ H Q I h;refine PX PySem.F.slot_dict_getitem.lookup hs (ck (ho pins s σ H _ I h) fun u s1 ⟨x,H1,I1,rx,q1⟩=>ck (hi pins s1 σ H1 _ I1 q1) fun iv s2 ⟨y,H2,I2,ry,k,v,ex,ey,l,q2⟩=> ?_);subst ex ey;obtain rfl:u=Value.ref d:=rx;obtain⟨hd,vs,rel,dd⟩:=kd.at_ I2.je;obtain⟨w',hw,Mv⟩:=l4.some_of (v:=v) (o:=valueAt vs k) (by rw[←l];exact rel.val k);obtain⟨ob,es,ep,e1,e2,_⟩:=id dd;exact⟨⟨ob,e1,e2.1⟩,wpAny_getItem_of (Bm ry) dd.mapOf hw ⟨v,H2,I2.tok _,Mv,q2⟩⟩
theorem Gb(kd:zI X.prog X.w X.K d a6)(hi:PE X i ty)(ho:PE X o td):PC X .NotIn i o (NJ d a6 ty td):=by
 intro pins s σ H Q I h;refine ck (hi pins s σ H _ I h) fun iv s1 ⟨y,H1,I1,ry,q1⟩=>ck (ho pins s1 σ H1 _ I1 q1) fun u s2 ⟨x,H2,I2,rx,k,ex,ey,q2⟩=> ?_;subst ex ey;obtain rfl:u=Value.ref d:=rx;obtain⟨hd,vs,rel,dd⟩:=kd.at_ I2.je;refine wpAny_notIn_of (Bm ry) hd dd.mapOf ?_;rw[←(rel.val k).BR];exact⟨.bl _,H2,I2.tok _,rfl,q2⟩
end
structure yY(K:Frag)(cd:Value)(P:Addr):Prop where
 ex:∃c o vs file tf flags tg YQ text tt,cd= .ref c∧K.lookup c=some o∧o.cls= .type "code" ∧o.data= .fields vs∧vs[11]? =some (.ref P)∧vs.getD 11 .none= .ref P∧vs.getD 18 .none= .str file tf∧
  vs.getD 7 .none= .int flags tg∧vs.getD 9 .none= .bool YQ∧vs.getD 10 .none= .int text tt∧c≠P
theorem yY.tab{X:Cx}{cd:Value}{P:Addr}(h:yY X.K cd P)(m:X.K.In X.base)(e:X.env.code=cd):∃c,qh X c P:=by
 obtain⟨c,o,vs,file,tf,flags,tg,YQ,text,tt,e1,e2,r⟩:=h.ex;exact⟨c,e.trans e1,o,vs,file,tf,flags,tg,YQ,text,tt,m _ _ e2,r⟩
theorem yY.hd{K:Frag}{cd:Value}{P:Addr}{h:Heap}(k:yY K cd P)(m:K.In h):∃c,CodeHd h c P:=by
 obtain⟨c,o,vs,file,tf,flags,tg,YQ,text,tt,e1,e2,r⟩:=k.ex;exact⟨c,o,vs,file,tf,flags,tg,YQ,text,tt,m _ _ e2,r⟩
structure PK(K:Frag)(mg:Str→aI):Prop where
 ex:∃bm o,mg "__builtins__"=some (.ref bm)∧bm≠builtinsNs∧bm≠mainGlobals∧K.lookup bm=some o∧o.cls= .type "module" ∧o.dict=some builtinsNs∧o.data= .plain
theorem PK.mod{X:Cx}(h:PK X.K X.mg)(m:X.K.In X.base):vY X:=by
 obtain⟨bm,o,e1,e2,e3,e4,r⟩:=h.ex;exact⟨bm,o,e1,e2,e3,m _ _ e4,r⟩
section
variable{P:Program}{w:World}{K:Frag}{mg:Str→aI}{base:Heap}{x qual:Str}{st:Stmt}{f:Addr}{fd:FuncData}{N ps:ao}{k:Nat}{sp:Sp}
theorem EG.okC{CX:tD}(F:EG K x qual st f fd)(S:aE N ps (aq st))
 (hb:∀(A:Around) (outer:List Env) (s:Shared) (H:Hp) (vs:ak) (Q:VK) (E:XK),cZ k (A.deeper (envOfC qual (aq st) s.heap.objs.size f fd.code))→sp vs H Q E→
  ∃t,AO (kP CX P w K mg base N qual (aq st) f fd.code A outer s H E) (cR st) t∧t {nx:=fun _ H' =>Q .bx H',rt:=Q} (start N vs) H)
 (len:∀vs H Q E,sp vs H Q E→vs.length=ps.length:=by intro _ _ _ _ h;repeat (first|(obtain⟨rfl,_⟩:=h;rfl)|obtain⟨_,h⟩:=h)):aM P w K mg base CX (k+1) f fd ps sp:=by
 obtain⟨oc,od,kV,doc,pm,an,cj,ct,xI,rfl,lk,zR⟩:=F.ex;exact HI lk zR S len fun A outer s H vs Q E hr BC=>hb A outer s H vs Q E hr BC
end
section
variable{prog:Program}{w:World}{A:Around}{E:Value→Shared→Prop}{s:Shared}
theorem gz{it t:Addr}{i:Nat}{items}{x:Value}{Q:Value→Shared→Prop}(hit:s.heap.IsTupleIter it t i)(ht:s.heap.IsTuple t items)(hx:items[i]? =some x)
 (hQ:∀h',h'.IsTupleIter it t (i+1)→Heap.SameBut it s.heap h'→Q x {s with heap:=h'}):wpAny (model prog w) A (Builtin.SmallTypes.nextOf (.ref it)) Q E s:=by
 obtain⟨o,ho,hc,hd⟩:=id hit;obtain⟨ol,hol,_,nl,hdl⟩:=ht;unfold Builtin.SmallTypes.nextOf
 refine ah (ni (name:=Str.ofString "__next__") hit.typeIs yJ
  (kQ yJ hit.typeIs F.entry_tuple_iterator_next ?_ (F.args_tuple_iterator_next_1 _)))
 show wpAny _ _ (field (.ref it) 0>>= _) _ _ s;refine ah (cc ho hd (x:= .ref t) rfl ?_);show wpAny _ _ (if(Value.ref t==Value.none)=true then _ else _) _ _ s;rw[ay (show ¬((Value.ref t==Value.none)=true) from cx)];show wpAny _ _ (field (.ref it) 1>>= _) _ _ s;refine ah (cc ho hd (x:= .int i 0) rfl ?_);show wpAny _ _ (seqItems? (.ref t)>>= _) _ _ s;refine ah (nS hol hdl ?_);simp only[jl,hx];refine ah (nB ho hd (by simp) (aC ⟨x,rfl,aC (hQ _ ?_ (yI ..))⟩))
 exact⟨_,jk _ ho (z8 (n_ hd _)),(Obj.cls_mapFields ..).trans hc,by
  rw[n_ hd];simp[rawInt]⟩
theorem qe{it t:Addr}{i:Nat}{items}{Q:Value→Shared→Prop}(hh:A.handled=none)(hit:s.heap.IsTupleIter it t i)(ht:s.heap.IsTuple t items)(hx:items[i]? =none)
 (hE:∀h' e,Heap.ExtBut it s.heap h'→(∃o,h'.get? e=some o∧o.cls= .type "StopIteration")→E (.ref e) {s with heap:=h'}):wpAny (model prog w) A (Builtin.SmallTypes.nextOf (.ref it)) Q E s:=by
 obtain⟨o,ho,hc,hd⟩:=id hit;obtain⟨ol,hol,_,nl,hdl⟩:=ht;unfold Builtin.SmallTypes.nextOf
 refine ah (ni (name:=Str.ofString "__next__") hit.typeIs yJ
  (kQ yJ hit.typeIs F.entry_tuple_iterator_next ?_ (F.args_tuple_iterator_next_1 _)))
 show wpAny _ _ (field (.ref it) 0>>= _) _ _ s;refine ah (cc ho hd (x:= .ref t) rfl ?_);show wpAny _ _ (if(Value.ref t==Value.none)=true then _ else _) _ _ s;rw[ay (show ¬((Value.ref t==Value.none)=true) from cx)];show wpAny _ _ (field (.ref it) 1>>= _) _ _ s;refine ah (cc ho hd (x:= .int i 0) rfl ?_);show wpAny _ _ (seqItems? (.ref t)>>= _) _ _ s;refine ah (nS hol hdl ?_);simp only[jl,hx];refine ah (qH (ah (nB ho hd (by simp) ?_)));show wpAny _ _ (newExc (.type "StopIteration") []>>= _) _ _ _;refine ah ?_;simp only[newExc,newTuple];refine ah (gm ?_ (by size_fits));refine ah (m:=firstArgMember _ _) (wpAny_of_eq (a:=Value.none) (by first|rfl|(simp only[firstArgMember];rfl)) ?_);refine gm ?_ (by size_fits);simp only[raiseNew];refine ah (wpAny_handled ?_)
 first|rw[show A.in1.handled=none from hh]|rw[hh]
 refine ah (aC (wpAny_throw ?_));exact hE _ _ (((yI ..).extBut.push _).push _) ⟨_,cg _ rfl,rfl⟩
noncomputable abbrev Nd(h:Heap)(z TI TO:Addr)(f0:Value)(f:Bool):Prop:=
 h.get? z=some {cls:= .type "zip",dict:=none,data:= .fields #[f0,.bool f,.bool false,.ref TI,.ref TO],slots:= #[]}
noncomputable abbrev acz(h:Heap)(z TO i1 i2 S:Addr)(f0:Value)(f:Bool):Prop:=(f0= .none∧f=false)∨∃(a:Addr) (oa:Obj),f0=rawInt a∧h.get? a=some oa∧a≠z∧a≠TO∧a≠i1∧a≠i2∧a≠S
structure KR(h:Heap)(z TI TO i1 i2 t1 t2 S:Addr)(xs ys:Array Value)(k:Nat):Prop where
 z:∃f0 f,Nd h z TI TO f0 f∧acz h z TO i1 i2 S f0 f
 ti:IsPair h TI (.ref i1) (.ref i2)
 to:∃a b,IsPair h TO a b
 h1:h.IsTupleIter i1 t1 k
 h2:h.IsTupleIter i2 t2 k
 l1:h.IsTuple t1 xs
 l2:h.IsTuple t2 ys
end
section
variable{prog:Program}{w:World}{A:Around}{E:Value→Shared→Prop}{s:Shared}
theorem LK{z TI TO i1 i2 l1 l2:Addr}{k1 k2:Nat}{xs ys:Array Value}{x y a b:Value}{Q:Value→Shared→Prop}(D:ZipApart z TI TO i1 i2 l1 l2)
 (hz:IsZip s.heap z TI TO .none) (Ib:IsPair s.heap TI (.ref i1) (.ref i2)) (N7:IsPair s.heap TO a b)
 (h1:s.heap.IsTupleIter i1 l1 k1) (h2:s.heap.IsTupleIter i2 l2 k2) (AR:s.heap.IsTuple l1 xs) (kU:s.heap.IsTuple l2 ys) (hx:xs[k1]? =some x) (hy:ys[k2]? =some y)
 (hQ:∀h',IsZip h' z TI TO (rawInt s.heap.objs.size)→IsPair h' TO x y→h'.IsTupleIter i1 l1 (k1+1)→h'.IsTupleIter i2 l2 (k2+1)→IsPair h' s.heap.objs.size x y→h'.objs.size=s.heap.objs.size+1→
  (∀c o,c≠z→c≠TO→c≠i1→c≠i2→s.heap.get? c=some o→h'.get? c=some o)→Q (.ref s.heap.objs.size) {s with heap:=h'}):
 wpAny (model prog w) A (Builtin.«zip.__next__» ⟨[.ref z],[]⟩) (fun fin s' =>∃v,fin= .done (.ret v)∧Q v s') E s:=by
 show wpAny _ _ (field (.ref z) 2>>= _) _ _ _;refine ah (cc hz rfl (x:= .bool false) rfl ?_);show wpAny _ _ (field (.ref z) 3>>= _) _ _ _;refine ah (cc hz rfl (x:= .ref TI) rfl ?_);refine ah (nS Ib rfl ?_);show wpAny _ _ (Builtin.SmallTypes.ownedTupleIsFree (.ref z)>>= _) _ _ _;refine ah ?_;unfold Builtin.SmallTypes.ownedTupleIsFree;refine ah (cc hz rfl (x:= .none) rfl (aC ?_));simp only[if_true];refine ah (qH ?_);refine ah (cc hz rfl (x:= .ref TO) rfl ?_);refine ah (vP hz (by simp) fun h₁ rV dX=> ?_);replace rV:IsZip h₁ z TI TO .ellipsis:=rV;refine ah ?_;simp only[List.zipIdx_cons,List.zipIdx_nil,tK,yu];refine ah (ah (yF ?_));show wpAny _ _ (Builtin.SmallTypes.nextOf (.ref i1)>>= _) _ _ _;refine ah (gz (h1.extBut dX.extBut D.i1z) (AR.extBut dX.extBut D.l1z) hx fun kq Ni jd=>aC ?_);have Lr:IsPair kq TO a b:=jd.extBut _ _ D.TOi1 (dX.extBut _ _ D.TOz N7);refine ah (nS Lr rfl ?_);refine ah (wpAny_updateSeq_pair Lr fun oW GG jv=> ?_);replace GG:IsPair oW TO x b:=GG;refine ah (wpAny_letGo (aC ?_));refine ah (ah (yF ?_));show wpAny _ _ (Builtin.SmallTypes.nextOf (.ref i2)>>= _) _ _ _
 refine ah (gz (((h2.extBut dX.extBut D.i2z).extBut jd.extBut D.i12.symm).extBut jv.extBut D.TOi2.symm)
  (((kU.extBut dX.extBut D.l2z).extBut jd.extBut D.l2i1).extBut jv.extBut D.l2TO) hy fun VF YB ED=>aC ?_)
 have KP:IsPair VF TO x b:=ED.extBut _ _ D.TOi2 GG;refine ah (nS KP rfl ?_);refine ah (wpAny_updateSeq_pair KP fun oK DL Fh=> ?_);replace DL:IsPair oK TO x y:=DL;refine ah (wpAny_letGo (aC (aC ?_)));refine ah (nS DL rfl ?_);refine ah (wpAny_newTuple ?_);have hsz:oK.objs.size=s.heap.objs.size:=by rw[Fh.1,ED.1,jv.1,jd.1,dX.1]
 have Um:IsZip oK z TI TO .ellipsis:=Fh.extBut _ _ D.TOz.symm (ED.extBut _ _ D.i2z.symm (jv.extBut _ _ D.TOz.symm (jd.extBut _ _ D.i1z.symm rV)))
 have YN:∀c o,c≠z→c≠TO→c≠i1→c≠i2→s.heap.get? c=some o→oK.get? c=some o:=fun c o c1 c2 c3 c4 e=>
  Fh.extBut _ _ c2 (ED.extBut _ _ c4 (jv.extBut _ _ c2 (jd.extBut _ _ c3 (dX.extBut _ _ c1 e))))
 have ZN:oK.IsTupleIter i1 l1 (k1+1):=((Ni.extBut jv.extBut D.TOi1.symm).extBut ED.extBut D.i12).extBut Fh.extBut D.TOi1.symm;have X5:oK.IsTupleIter i2 l2 (k2+1):=YB.extBut Fh.extBut D.TOi2.symm;have aaC:z<oK.objs.size:=aQ Um;show wpAny _ _ (Builtin.SmallTypes.ownedTupleHandOut (.ref z) (.ref oK.objs.size)>>= _) _ _ _;refine ah ?_;unfold Builtin.SmallTypes.ownedTupleHandOut;have ZD:IsZip (oK.push {cls:= .type "tuple",data:= .seq #[x,y]}) z TI TO .ellipsis:=a8 _ Um;refine ah (vP ZD (by simp) fun aeO Nb Mn=> ?_);replace Nb:IsZip aeO z TI TO (rawInt oK.objs.size):=Nb;refine vP Nb (by simp) fun Je Ih LX=> ?_;replace Ih:IsZip Je z TI TO (rawInt oK.objs.size):=Ih;have up:∀c o,c≠z→oK.get? c=some o→Je.get? c=some o:=fun c o c1 e=>LX.extBut _ _ c1 (Mn.extBut _ _ c1 (a8 _ e));have Q0:IsPair Je oK.objs.size x y:=LX.extBut _ _ (hU aaC) (Mn.extBut _ _ (hU aaC) (cg _ rfl));have Zp:Je.objs.size=oK.objs.size+1:=by rw[LX.1,Mn.1,jr]
 rw[hsz] at Ih Q0 Zp;refine aC ⟨_,rfl,?_⟩;show Q (.ref oK.objs.size) _;rw[hsz];have Zw:∀{q r n},q≠z→oK.IsTupleIter q r n→Je.IsTupleIter q r n:=fun hq ⟨o,ho,r⟩=>⟨o,up _ _ hq ho,r⟩;exact hQ Je Ih (up _ _ D.TOz DL) (Zw D.i1z ZN) (Zw D.i2z X5) Q0 Zp fun c o c1 c2 c3 c4 e=>up c o c1 (YN c o c1 c2 c3 c4 e)
theorem HP{z TI TO a:Addr}{f:Bool}{oa:Obj}{Q:Bool→Shared→Prop}(hz:Nd s.heap z TI TO (rawInt a) f)(ha:s.heap.get? a=some oa)
 (hQ:∀h',Nd h' z TI TO (rawInt a) true→Heap.SameBut z s.heap h'→Q false {s with heap:=h'}):wpAny (model prog w) A (Builtin.SmallTypes.ownedTupleIsFree (.ref z)) Q E s:=by
 unfold Builtin.SmallTypes.ownedTupleIsFree;refine ah (cc hz rfl (x:=rawInt a) rfl ?_);show wpAny _ _ (loadIfAlive ((a:Int).toNat)>>= _) _ _ _;rw[jl];refine ah (PySem.W.kdx_alive ha ?_);simp only[Option.isNone_some,nO,iX];refine ah (cc hz rfl (x:= .bool f) rfl ?_)
 cases f with
 |true=>
  rw[ay (show ¬((Value.bool true !=Value.bool true)=true) from cx)];exact aC (hQ s.heap hz (Heap.SameBut.refl _ _))
 |false=>
  rw[aA (show(Value.bool false !=Value.bool true)=true from rfl)];refine ah (vP hz (by simp) fun oW HA jv=> ?_);exact aC (hQ oW HA jv)
theorem Oo{z TI TO i1 i2 l1 l2 a:Addr}{f:Bool}{oa:Obj}{k1 k2:Nat}{xs ys:Array Value}{x y:Value}{Q:Value→Shared→Prop}(D:ZipApart z TI TO i1 i2 l1 l2)
 (hz:Nd s.heap z TI TO (rawInt a) f) (ha:s.heap.get? a=some oa) (Ib:IsPair s.heap TI (.ref i1) (.ref i2))
 (h1:s.heap.IsTupleIter i1 l1 k1) (h2:s.heap.IsTupleIter i2 l2 k2) (AR:s.heap.IsTuple l1 xs) (kU:s.heap.IsTuple l2 ys) (hx:xs[k1]? =some x) (hy:ys[k2]? =some y)
 (hQ:∀h',Nd h' z TI TO (rawInt a) true→h'.IsTupleIter i1 l1 (k1+1)→h'.IsTupleIter i2 l2 (k2+1)→IsPair h' s.heap.objs.size x y→h'.objs.size=s.heap.objs.size+1→
  (∀c o,c≠z→c≠i1→c≠i2→s.heap.get? c=some o→h'.get? c=some o)→Q (.ref s.heap.objs.size) {s with heap:=h'}):
 wpAny (model prog w) A (Builtin.«zip.__next__» ⟨[.ref z],[]⟩) (fun fin s' =>∃v,fin= .done (.ret v)∧Q v s') E s:=by
 show wpAny _ _ (field (.ref z) 2>>= _) _ _ _;refine ah (cc hz rfl (x:= .bool false) rfl ?_);show wpAny _ _ (field (.ref z) 3>>= _) _ _ _;refine ah (cc hz rfl (x:= .ref TI) rfl ?_);refine ah (nS Ib rfl ?_);show wpAny _ _ (Builtin.SmallTypes.ownedTupleIsFree (.ref z)>>= _) _ _ _;refine ah (HP hz ha fun h₁ rV dX=> ?_);simp only[nO,iX];refine ah ?_;refine wpAny_arrayLoop ?_;simp only[tK,yu];refine ah (ah (gZ ?_));show wpAny _ _ (Builtin.SmallTypes.nextOf (.ref i1)>>= _) _ _ _;refine ah (gz (h1.extBut dX.extBut D.i1z) (AR.extBut dX.extBut D.l1z) hx fun kq Ni jd=>aC (aC ?_));refine ah (ah (gZ ?_));show wpAny _ _ (Builtin.SmallTypes.nextOf (.ref i2)>>= _) _ _ _;refine ah (gz ((h2.extBut dX.extBut D.i2z).extBut jd.extBut D.i12.symm) ((kU.extBut dX.extBut D.l2z).extBut jd.extBut D.l2i1) hy fun oW Y0 jv=>aC (aC (aC ?_)));show wpAny _ _ (newTuple [x,y]>>= _) _ _ _;refine ah (wpAny_newTuple (aC ⟨_,rfl,?_⟩));have hsz:oW.objs.size=s.heap.objs.size:=by rw[jv.1,jd.1,dX.1]
 show Q (.ref oW.objs.size) _;rw[hsz];have up:∀c o,oW.get? c=some o→(oW.push {cls:= .type "tuple",data:= .seq #[x,y]}).get? c=some o:=fun c o e=>a8 _ e;have Zw:∀{q r n},oW.IsTupleIter q r n→(oW.push {cls:= .type "tuple",data:= .seq #[x,y]}).IsTupleIter q r n:=fun⟨o,ho,r⟩=>⟨o,up _ _ ho,r⟩;refine hQ _ (up _ _ (jv.extBut _ _ D.i2z.symm (jd.extBut _ _ D.i1z.symm rV))) (Zw (Ni.extBut jv.extBut D.i12)) (Zw Y0) ?_ ?_ fun c o c1 c3 c4 e=>up _ _ (jv.extBut _ _ c4 (jd.extBut _ _ c3 (dX.extBut _ _ c1 e)))
 ·rw[←hsz];exact cg _ rfl
 ·rw[jr,hsz]
theorem UX{z TI TO i1 i2 l1 l2 S:Addr}{k:Nat}{xs ys:Array Value}{Q:Fin→Shared→Prop}(hh:A.handled=none)(D:ZipApart z TI TO i1 i2 l1 l2)(Z:KR s.heap z TI TO i1 i2 l1 l2 S xs ys k)(hx:xs[k]? =none)
 (hE:∀h' e,(∀c o,c≠z→c≠i1→s.heap.get? c=some o→h'.get? c=some o)→(∃o,h'.get? e=some o∧o.cls= .type "StopIteration")→E (.ref e) {s with heap:=h'}):
 wpAny (model prog w) A (Builtin.«zip.__next__» ⟨[.ref z],[]⟩) Q E s:=by
 obtain⟨⟨f0,f,hz,hw⟩,Ib,⟨a,b,N7⟩,h1,h2,AR,kU⟩:=Z;show wpAny _ _ (field (.ref z) 2>>= _) _ _ _;refine ah (cc hz rfl (x:= .bool false) rfl ?_);show wpAny _ _ (field (.ref z) 3>>= _) _ _ _;refine ah (cc hz rfl (x:= .ref TI) rfl ?_);refine ah (nS Ib rfl ?_);show wpAny _ _ (Builtin.SmallTypes.ownedTupleIsFree (.ref z)>>= _) _ _ _;rcases hw with⟨rfl,rfl⟩|⟨a',oa,rfl,ha,_⟩
 ·refine ah ?_;unfold Builtin.SmallTypes.ownedTupleIsFree;refine ah (cc hz rfl (x:= .none) rfl (aC ?_));simp only[if_true];refine ah (qH ?_);refine ah (cc hz rfl (x:= .ref TO) rfl ?_);refine ah (vP hz (by simp) fun h₁ rV dX=> ?_);replace rV:IsZip h₁ z TI TO .ellipsis:=rV;refine ah ?_;simp only[List.zipIdx_cons,List.zipIdx_nil,tK,yu];refine ah (ah (yF ?_));show wpAny _ _ (Builtin.SmallTypes.nextOf (.ref i1)>>= _) _ _ _;refine ah (qe hh (h1.extBut dX.extBut D.i1z) (AR.extBut dX.extBut D.l1z) hx fun kq e jd he=> ?_);obtain⟨oe,Vr,hce⟩:=he;have QR:IsZip kq z TI TO .ellipsis:=jd _ _ D.i1z.symm rV;have hez:e≠z:=fun x=>by subst x;rw[QR] at Vr;cases Vr;simp at hce
  refine vP QR (by simp) fun oW _ jv=>hE oW e (fun c o c1 c3 x=>jv.extBut _ _ c1 (jd _ _ c3 (dX.extBut _ _ c1 x))) ⟨oe,jv.extBut _ _ hez Vr,hce⟩
 ·refine ah (HP hz ha fun h₁ rV dX=> ?_);simp only[nO,iX];refine ah ?_;refine wpAny_arrayLoop ?_;simp only[tK,yu];refine ah (ah (gZ ?_));show wpAny _ _ (Builtin.SmallTypes.nextOf (.ref i1)>>= _) _ _ _;exact ah (qe hh (h1.extBut dX.extBut D.i1z) (AR.extBut dX.extBut D.l1z) hx fun kq e jd he=>hE kq e (fun c o c1 c3 x=>jd _ _ c3 (dX.extBut _ _ c1 x)) he)
theorem PL{z TI TO i1 i2 l1 l2 S:Addr}{k:Nat}{xs ys:Array Value}{x y:Value}{Q:aI→Shared→Prop}(D:ZipApart z TI TO i1 i2 l1 l2)(Z:KR s.heap z TI TO i1 i2 l1 l2 S xs ys k)(hS:S<s.heap.objs.size)(hx:xs[k]? =some x)(hy:ys[k]? =some y)
 (hQ:∀h',KR h' z TI TO i1 i2 l1 l2 S xs ys (k+1)→IsPair h' s.heap.objs.size x y→h'.objs.size=s.heap.objs.size+1→(∀c o,c≠z→c≠TO→c≠i1→c≠i2→s.heap.get? c=some o→h'.get? c=some o)→Q (some (.ref s.heap.objs.size)) {s with heap:=h'}):
 wpAny (model prog w) A (pyNext (.ref z)) Q E s:=by
 obtain⟨⟨f0,f,hz,hw⟩,Ib,⟨a,b,N7⟩,h1,h2,AR,kU⟩:=Z;have hT:s.TypeIs (.ref z) "zip":=⟨_,hz,rfl⟩;have lt:∀{c o},s.heap.get? c=some o→s.heap.objs.size≠c:=fun e=>hU (aQ e);have q1:s.heap.objs.size≠i1:=by obtain⟨o,e,_⟩:=h1;exact lt e
 have q2:s.heap.objs.size≠i2:=by obtain⟨o,e,_⟩:=h2;exact lt e
 unfold pyNext;refine ah (uu (ni (name:=Str.ofString "__next__") hT t_ (kQ t_ hT F.entry_zip_next ?_ (F.args_zip_next_1 _))));rcases hw with⟨rfl,rfl⟩|⟨a',oa,rfl,ha,a1,a2,a3,a4,a5⟩
 ·refine LK D hz Ib N7 h1 h2 AR kU hx hy fun h' b1 b2 b3 b4 b5 b6 hk=>aC (hQ h' ⟨⟨_,_,b1,.inr ⟨_,_,rfl,b5,lt hz,lt N7,q1,q2,hU hS⟩⟩,hk _ _ D.TIz D.TITO D.TIi1 D.TIi2 Ib,⟨_,_,b2⟩,b3,b4,?_,?_⟩ b5 b6 hk)
  ·obtain⟨o,e,r⟩:=AR;exact⟨o,hk _ _ D.l1z D.l1TO D.l1i1 D.l1i2 e,r⟩
  ·obtain⟨o,e,r⟩:=kU;exact⟨o,hk _ _ D.l2z D.l2TO D.l2i1 D.l2i2 e,r⟩
 ·refine Oo D hz ha Ib h1 h2 AR kU hx hy fun h' b1 b3 b4 b5 b6 hk=>aC (hQ h' ⟨⟨_,_,b1,.inr ⟨_,_,rfl,hk _ _ a1 a3 a4 ha,a1,a2,a3,a4,a5⟩⟩,hk _ _ D.TIz D.TIi1 D.TIi2 Ib,⟨_,_,hk _ _ D.TOz D.TOi1 D.TOi2 N7⟩,b3,b4,?_,?_⟩ b5 b6 fun c o c1 _ c3 c4 e=>hk c o c1 c3 c4 e)
  ·obtain⟨o,e,r⟩:=AR;exact⟨o,hk _ _ D.l1z D.l1i1 D.l1i2 e,r⟩
  ·obtain⟨o,e,r⟩:=kU;exact⟨o,hk _ _ D.l2z D.l2i1 D.l2i2 e,r⟩
theorem P5{z TI TO i1 i2 l1 l2 S:Addr}{k:Nat}{xs ys:Array Value}{Q:aI→Shared→Prop}(hh:A.handled=none)(D:ZipApart z TI TO i1 i2 l1 l2)(Z:KR s.heap z TI TO i1 i2 l1 l2 S xs ys k)(hx:xs[k]? =none)
 (hQ:∀h',(∀c o,c≠z→c≠i1→s.heap.get? c=some o→h'.get? c=some o)→Q none {s with heap:=h'}):wpAny (model prog w) A (pyNext (.ref z)) Q E s:=by
 obtain⟨⟨f0,f,hz,hw⟩,r⟩:=id Z;have hT:s.TypeIs (.ref z) "zip":=⟨_,hz,rfl⟩;unfold pyNext
 refine ah (uu (ni (name:=Str.ofString "__next__") hT t_
  (kQ t_ hT F.entry_zip_next (UX hh D Z hx fun h' e hk he=> ?_) (F.args_zip_next_1 _))))
 obtain⟨o,ho,hc⟩:=he;refine ah (wpAny_isInstance (T:="StopIteration") (b:=true) ⟨o,ho,hc⟩ isSubtype_stop ?_);exact aC (hQ _ hk)
theorem KR.keep{h h' :Heap}{z TI TO i1 i2 t1 t2 S:Addr}{xs ys:Array Value}{k:Nat}(Z:KR h z TI TO i1 i2 t1 t2 S xs ys k)(hk:∀b o,b≠S→h.get? b=some o→h'.get? b=some o)(n:∀b∈[z,TI,TO,i1,i2,t1,t2],b≠S):KR h' z TI TO i1 i2 t1 t2 S xs ys k:=by
 obtain⟨⟨f0,f,hz,hw⟩,Ib,⟨a,b,N7⟩,⟨o1,e1,h1⟩,⟨o2,e2,h2⟩,⟨o3,e3,AR⟩,⟨o4,e4,kU⟩⟩:=Z;refine⟨⟨f0,f,hk _ _ (n z (by simp)) hz,?_⟩,hk _ _ (n TI (by simp)) Ib,⟨a,b,hk _ _ (n TO (by simp)) N7⟩,⟨o1,hk _ _ (n i1 (by simp)) e1,h1⟩,⟨o2,hk _ _ (n i2 (by simp)) e2,h2⟩,⟨o3,hk _ _ (n t1 (by simp)) e3,AR⟩,⟨o4,hk _ _ (n t2 (by simp)) e4,kU⟩⟩;rcases hw with q|⟨a',oa,q1,ha,q2,q3,q4,q5,q6⟩
 ·exact .inl q
 ·exact .inr ⟨a',oa,q1,hk _ _ q6 ha,q2,q3,q4,q5,q6⟩
end
structure ZG(xs ys:Array Value)(lo:Addr)(h:Heap)(as:bP):Prop where
 rise:as.Pairwise (· < ·)
 above:∀a∈as,lo<a
 pairs:∀(j:Nat) (a:Addr),as[j]? =some a→∃x y,xs[j]? =some x∧ys[j]? =some y∧IsPair h a x y
section
variable{prog:Program}{w:World}{A:Around}{E:Value→Shared→Prop}{s:Shared}{R:Result→Shared→Prop}{xs ys:Array Value}{z TI TO i1 i2 l1 l2 S:Addr}
theorem Px(hh:A.handled=none)(D:ZipApart z TI TO i1 i2 l1 l2)(Yr:S≠z)(n:∀b∈[z,TI,TO,i1,i2,l1,l2],b≠S)(lo:Addr)(JG:∀b∈[z,TO,i1,i2,S],b≤lo)(he:xs.size=ys.size)(hn:xs.size≤sizeLine)(res:Value){h₁:Heap}
 (hR:∀h' tk acc c as,(∀b o,b≠S→b≠z→b≠TO→b≠i1→b≠i2→h₁.get? b=some o→h'.get? b=some o)→h'.get? S=some {cls:= .type "list",dict:=none,data:= .seq acc c,slots:= #[]}→as.length=xs.size→ZG xs ys lo h' as→
  acc.toList=as.map Value.ref→R (.ok (.ret res)) {s with heap:=h',toks:=tk}):
 ∀(k i:Nat) (h:Heap) (tk c:Nat) (acc:Array Value) (as:bP),xs.size - i=k→i≤xs.size→KR h z TI TO i1 i2 l1 l2 S xs ys i→(∀b o,b≠S→b≠z→b≠TO→b≠i1→b≠i2→h₁.get? b=some o→h.get? b=some o)→
  h.get? S=some {cls:= .type "list",dict:=none,data:= .seq acc c,slots:= #[]}→acc.toList=as.map Value.ref→as.length=i→ZG xs ys lo h as→lo<h.objs.size→
  codeAny (model prog w) A (.builtin "list.extend.loop" ⟨[.ref S,.ref z,res],[]⟩) R {s with heap:=h,toks:=tk}:=by
 have To:∀a b,lo<a→b∈[z,TO,i1,i2,S]→a≠b:=fun a b h hb q=>absurd (JG b hb) (by rw[←q];exact Nat.not_le.mpr h);have above:∀a,lo<a→a≠S∧a≠z∧a≠TO∧a≠i1∧a≠i2:=fun a h=>⟨To a S h (by simp),To a z h (by simp),To a TO h (by simp),To a i1 h (by simp),To a i2 h (by simp)⟩;intro k
 induction k with
 |zero=>
  intro i h tk c acc as hk hi mv La hS xX GS hG hIs;have CZ:i=xs.size:=by lia
  refine codeAny_builtin entry_extend_loop ?_;rw[Around.under_plainId yz _];show wpAny _ A.in1 (pyNext (.ref z)>>= _) _ _ _;refine ah (P5 (s:={s with heap:=h,toks:=tk}) (A:=A.in1) hh D mv (Dh (by lia)) fun h' he=> ?_);refine aC (hR h' tk acc c as (fun b o h1 h2 h3 h4 h5 e=>he b o h2 h4 (La b o h1 h2 h3 h4 h5 e)) (he S _ Yr (bK (n i1 (by simp))) hS) (by lia) ⟨hG.rise,hG.above,fun j a hj=> ?_⟩ xX);obtain⟨x,y,e1,e2,e3⟩:=hG.pairs j a hj;have q:=above a (hG.above a (bJ hj));exact⟨x,y,e1,e2,he a _ q.2.1 q.2.2.2.1 e3⟩
 |succ k ih=>
  intro i h tk c acc as hk hi mv La hS xX GS hG hIs;have iU:i<xs.size:=by lia
  have Om:i<ys.size:=by lia
  have hsz:acc.size=i:=by rw[←tZ,xX,aK,GS]
  refine codeAny_builtin entry_extend_loop ?_;rw[Around.under_plainId yz _];show wpAny _ A.in1 (pyNext (.ref z)>>= _) _ _ _;refine ah (PL (s:={s with heap:=h,toks:=tk}) (S:=S) D mv (aQ hS) (ue iU) (ue Om) fun h' acy ht hz hkp=> ?_);dsimp only at ht hz hkp ⊢;have hS' :=hkp S _ Yr (bK (n TO (by simp))) (bK (n i1 (by simp))) (bK (n i2 (by simp))) hS;have up:∀b o,b≠S→h'.get? b=some o→(h'.update S (Obj.mapSeq (·.push (Value.ref h.objs.size)))).get? b=some o:=fun b o hb e=>(fL _ _ (bK hb)).trans e;have hSl:S<h.objs.size:=aQ hS;show wpAny _ A.in1 (updateSeq S (·.push (Value.ref h.objs.size))>>= _) _ _ _;refine ah ?_
  refine yd hS' rfl (aC ⟨plainId_quiet yz _,ih (i+1) _ tk _ (acc.push (Value.ref h.objs.size)) (as++[h.objs.size]) (by lia) iU (acy.keep up n)
   (fun b o h1 h2 h3 h4 h5 e=>up b o h1 (hkp b o h2 h3 h4 h5 (La b o h1 h2 h3 h4 h5 e))) (jk _ hS' rfl) (by rw[Array.toList_push,xX,fJ];rfl) (by rw[ba,GS];rfl) ⟨?_,?_,?_⟩ ?_⟩) (by rw[hsz];lia) (by show(acc.push (Value.ref h.objs.size)).size≤sizeLine+1;rw[Array.size_push,hsz];lia)
  ·refine List.pairwise_append.mpr ⟨hG.rise,List.pairwise_singleton _ _,fun a ha b hb=> ?_⟩;rw[hV.mp hb];obtain⟨j,hj⟩:=yl.mp ha;obtain⟨_,_,_,_,e⟩:=hG.pairs j a hj;exact aQ e
  ·intro a ha;rcases eK.mp ha with ha|ha
   ·exact hG.above a ha
   ·rw[hV.mp ha];exact hIs
  ·intro j b hj;rcases Nat.lt_trichotomy j as.length with h1|h1|h1
   ·rw[dP h1] at hj;obtain⟨x',y',e1,e2,e3⟩:=hG.pairs j b hj;have q:=above b (hG.above b (bJ hj));exact⟨x',y',e1,e2,up b _ q.1 (hkp b _ q.2.1 q.2.2.1 q.2.2.2.1 q.2.2.2.2 e3)⟩
   ·subst h1;have hb:h.objs.size=b:=by simpa using hj
    subst hb;exact⟨_,_,by rw[GS];exact ue iU,by rw[GS];exact ue Om,up _ _ (hU hSl) ht⟩
   ·have Zq:(as++[h.objs.size])[j]? =none:=l0 (by rw[ba,DM];lia);rw[Zq] at hj;cases hj
  ·have e:(h'.update S (Obj.mapSeq (·.push (Value.ref h.objs.size)))).get? h.objs.size=_:=up _ _ (hU hSl) ht;exact yk hIs (aQ e)
end
theorem JP:typeLookup (.type "zip") "__len__"=pure none:=by rw[typeLookup_type,builtinLookup_eq_fast];kernel_rfl
theorem Hj:typeLookup (.type "zip") "__length_hint__"=pure none:=by rw[typeLookup_type,builtinLookup_eq_fast];kernel_rfl
section
variable{prog:Program}{w:World}{A:Around}{E:Value→Shared→Prop}{s:Shared}{R:Result→Shared→Prop}{xs ys:Array Value}{z TI TO i1 i2 l1 l2 S:Addr}
theorem Jk(hh:A.handled=none)(D:ZipApart z TI TO i1 i2 l1 l2)(Yr:S≠z)(n:∀b∈[z,TI,TO,i1,i2,l1,l2],b<S)(he:xs.size=ys.size)(hn:xs.size≤sizeLine)(res:Value)(c₀:Nat)(hS:s.heap.get? S=some {cls:= .type "list",data:= .seq #[] c₀})(mv:KR s.heap z TI TO i1 i2 l1 l2 S xs ys 0)
 (hR:∀h' tk acc c as,(∀b o,b≠S→b≠z→b≠TO→b≠i1→b≠i2→s.heap.get? b=some o→h'.get? b=some o)→h'.get? S=some {cls:= .type "list",dict:=none,data:= .seq acc c,slots:= #[]}→as.length=xs.size→ZG xs ys S h' as→
  acc.toList=as.map Value.ref→R (.ok (.ret res)) {s with heap:=h',toks:=tk}):
 wpAny (model prog w) A.in1 (Builtin.List.listExtendWith (.ref S) (.ref z) res)
  (fun fin s' =>match fin with| .done f=>R (.ok f) s' | .again c' =>c'.quiet=true∧codeAny (model prog w) A c' R s') (fun e s' =>R (.error e) s') s:=by
 have n' :∀b∈[z,TI,TO,i1,i2,l1,l2],b≠S:=fun b hb=>bN (n b hb)
 have JG:∀b∈[z,TO,i1,i2,S],b≤S:=fun b hb=>by
  simp only[aU,cP,cO] at hb;rcases hb with rfl|rfl|rfl|rfl|rfl
  ·exact bO (n _ (by simp))
  ·exact bO (n _ (by simp))
  ·exact bO (n _ (by simp))
  ·exact bO (n _ (by simp))
  ·exact aG _
 have key:∀(h:Heap) (c₁ tk:Nat),(∀b o,b≠S→s.heap.get? b=some o→h.get? b=some o)→h.get? S=some {cls:= .type "list",data:= .seq #[] c₁}→codeAny (model prog w) A (.builtin "list.extend.loop" ⟨[.ref S,.ref z,res],[]⟩) R {s with heap:=h,toks:=tk}:=by
  intro h c₁ tk hk Rh;exact Px (s:=s) (h₁:=s.heap) hh D Yr n' S JG he hn res hR xs.size 0 h tk c₁ #[] [] (Nat.sub_zero _) (cN _) (mv.keep hk n') (fun b o hb _ _ _ _ e=>hk b o hb e) Rh rfl rfl ⟨List.Pairwise.nil,(fun _ ha=>nomatch ha),(fun j a hj=>by simp at hj)⟩ (aQ Rh)
 obtain⟨f0,f,hz,_⟩:=mv.z;have hT:s.TypeIs (.ref z) "zip":=⟨_,hz,rfl⟩;unfold Builtin.List.listExtendWith;refine ah (vb (T:="zip") hT ?_);have h1:Builtin.List.listSameRef (.ref S) (.ref z)=false:=by simp[Builtin.List.listSameRef,Yr]
 rw[ay (by rw[h1];decide)];refine ah (wpAny_pyIter_slot hT F.slot_zip_iter (kQ F.slot_zip_iter hT F.entry_zip_iter (show wpAny _ _ (ret (.ref z)) _ _ s from aC ⟨_,rfl,"zip",_,hT,t_.lookup,?_⟩) (F.args_zip_iter_1 _)));refine ah (gZ ?_);unfold Builtin.List.listLengthHint;refine ah (wpAny_specialOf hT JP ?_);show wpAny _ A.in1 (specialOf (Value.ref z) (Str.ofString "__length_hint__")>>= _) _ _ _;refine ah (wpAny_specialOf hT Hj ?_);refine aC ?_;refine wpAny_ite_split (fun _=> ?_) (fun hab=>absurd rfl hab);refine ah (qH ?_);refine ah ?_;show wpAny _ _ (updateSeq S (·.push .none)>>= fun _=>updateSeq S (·.pop)) _ _ _;refine ah (yd hS rfl ?_);have HW:=jk (Obj.mapSeq (·.push Value.none)) hS rfl;refine yd (hz:=by seq_fits) HW rfl ?_;have XN:=jk (Obj.mapSeq (·.pop)) HW rfl;refine aC ⟨plainId_quiet yz _,key _ _ _ (fun b o hb e=> ?_) XN⟩;exact(fL _ _ (bK hb)).trans ((fL _ _ (bK hb)).trans e)
theorem Qf{Q:Value→Shared→Prop}(hh:A.handled=none)(D:ZipApart z TI TO i1 i2 l1 l2)(he:xs.size=ys.size)(hn:xs.size≤sizeLine)(mv:∀S,s.heap.objs.size≤S→KR s.heap z TI TO i1 i2 l1 l2 S xs ys 0)
 (hQ:∀h' tk acc c as,(∀b o,b≠z→b≠TO→b≠i1→b≠i2→s.heap.get? b=some o→h'.get? b=some o)→h'.get? s.heap.objs.size=some {cls:= .type "list",dict:=none,data:= .seq acc c,slots:= #[]}→as.length=xs.size→ZG xs ys s.heap.objs.size h' as→
  acc.toList=as.map Value.ref→Q (.ref s.heap.objs.size) {s with heap:=h',toks:=tk}):
 wpAny (model prog w) A (call (.type "list") [.ref z]) Q E s:=by
 have Z:=mv s.heap.objs.size (aG _)
 have n:∀b∈[z,TI,TO,i1,i2,l1,l2],b<s.heap.objs.size:=fun b hb=>by
  obtain⟨⟨f0,f,hz,hw⟩,Ib,⟨a,b',N7⟩,⟨o1,e1,h1⟩,⟨o2,e2,h2⟩,⟨o3,e3,AR⟩,⟨o4,e4,kU⟩⟩:=Z;simp only[aU,cP,cO] at hb;rcases hb with rfl|rfl|rfl|rfl|rfl|rfl|rfl
  ·exact aQ hz
  ·exact aQ Ib
  ·exact aQ N7
  ·exact aQ e1
  ·exact aQ e2
  ·exact aQ e3
  ·exact aQ e4
 refine callType_codes (Q₁:=fun obj bC=>obj= .ref s.heap.objs.size∧bC={s with heap:=s.heap.push {cls:= .type "list",data:= .seq #[]}}) F.called_list (F.typeCall_list_1 _) F.entry_list_init
  (code_list_new _ ⟨rfl,rfl⟩) fun obj bC h₁=> ?_
 obtain⟨rfl,rfl⟩:=h₁;have hS:(s.heap.push {cls:= .type "list",data:= .seq #[]}).get? s.heap.objs.size=some {cls:= .type "list",data:= .seq #[]}:=cg _ rfl;refine⟨⟨_,hS,rfl⟩,F.args_list_init_2 _ _,?_⟩;show wpAny _ _ (do let old←Builtin.List.listItems (.ref s.heap.objs.size);Builtin.List.listUpdate (.ref s.heap.objs.size) (fun _=> #[]);letGo old.toList.reverse;Builtin.List.listExtendWith (.ref s.heap.objs.size) (.ref z) .none) _ _ _;refine ah ?_;unfold Builtin.List.listItems;refine ah (nS hS rfl (aC ?_));show wpAny _ _ (updateSeq s.heap.objs.size (fun _=> #[])>>= fun _=>letGo (#[]:Array Value).toList.reverse>>= fun _=>Builtin.List.listExtendWith (.ref s.heap.objs.size) (.ref z) .none) _ _ _;refine ah (yd hS rfl ?_);have HW:=jk (Obj.mapSeq (fun _=>(#[]:Array Value))) hS rfl
 have oth:∀b o,b≠s.heap.objs.size→s.heap.get? b=some o→((s.heap.push {cls:= .type "list",data:= .seq #[]}).update s.heap.objs.size (Obj.mapSeq (fun _=>(#[]:Array Value)))).get? b=some o:=
  fun b o hb e=>(fL _ _ (bK hb)).trans (a8 _ e)
 refine ah (wpAny_letGo ?_);refine Jk (A:=A.in1) hh D (hU (n z (by simp))) n he hn .none _ HW (Z.keep oth fun b hb=>bN (n b hb)) (fun h' tk acc c as hk hS' hl hG xX=> ?_);exact⟨rfl,hQ h' tk acc c as (fun b o h2 h3 h4 h5 e=>hk b o (bN (aQ e)) h2 h3 h4 h5 (oth b o (bN (aQ e)) e)) hS' hl hG xX⟩
end
noncomputable abbrev OO(h:Heap)(l1:Addr):Heap:=h.push {cls:= .type "tuple_iterator",data:= .fields #[.ref l1,.int 0 0]}
noncomputable abbrev OT(h:Heap)(l1 l2:Addr):Heap:=(OO h l1).push {cls:= .type "tuple_iterator",data:= .fields #[.ref l2,.int 0 0]}
noncomputable abbrev Qd(h:Heap)(l1 l2:Addr):Heap:=(OT h l1 l2).push {cls:= .type "tuple",data:= .seq #[.ref h.objs.size,.ref (OO h l1).objs.size]}
noncomputable abbrev Ow(h:Heap)(l1 l2:Addr):Heap:=(Qd h l1 l2).push {cls:= .type "tuple",data:= .seq #[.none,.none]}
noncomputable abbrev Fl(h:Heap)(l1 l2:Addr):Heap:=(Ow h l1 l2).push {cls:= .type "zip",data:= .fields #[.none,.bool false,.bool false,.ref (OT h l1 l2).objs.size,.ref (Qd h l1 l2).objs.size]}
theorem WK(l1 l2:Addr)(xs ys:Array Value):
 Meets (Builtin.«zip.__new__» ⟨[.type "zip",.ref l1,.ref l2],[]⟩) (fun _ R s=>s.heap.IsTuple l1 xs∧s.heap.IsTuple l2 ys∧
  R (.ok (.ret (.ref (Ow s.heap l1 l2).objs.size))) {s with heap:=Fl s.heap l1 l2}):=
 .of_wp fun prog w A R s h=>by
  obtain⟨hp,g,d,tk,os⟩:=s;obtain⟨AR,kU,h⟩:=h
  have akL:=sub_zip;have hL1:Heap.IsTuple (Shared.heap ⟨hp,g,d,tk,os⟩) l1 xs:=AR;have hL2:Heap.IsTuple (Shared.heap ⟨hp.push {cls:= .type "tuple_iterator",data:= .fields #[.ref l1,.int 0 0]},g,d,tk,os⟩) l2 ys:=Heap.IsTuple.push kU _
  wp_walk using yU hL1,yU hL2
  exact⟨_,rfl,h⟩
section
variable{prog:Program}{w:World}{A:Around}{E:Value→Shared→Prop}{s:Shared}
theorem P7{l1 l2:Addr}{xs ys:Array Value}{Q:Value→Shared→Prop}(AR:s.heap.IsTuple l1 xs)(kU:s.heap.IsTuple l2 ys)
 (h:∀h',(∀S,h'.objs.size≤S→KR h' (s.heap.objs.size+4) (s.heap.objs.size+2) (s.heap.objs.size+3) s.heap.objs.size (s.heap.objs.size+1) l1 l2 S xs ys 0)→h'.objs.size=s.heap.objs.size+5→
  (∀c o,s.heap.get? c=some o→h'.get? c=some o)→Q (.ref (s.heap.objs.size+4)) {s with heap:=h'}):
 wpAny (model prog w) A (call (.type "zip") [.ref l1,.ref l2]) Q E s:=by
 refine callType_new F.called_zip (by decide) (F.typeCall_zip_2 _ _) (F.newCall_zip_2 _ _) (fun obj=>F.args_object_init_3 obj _ _) F.entry_zip_new
  (WK l1 l2 xs ys) ⟨AR,kU,?_⟩
 have z1:(OO s.heap l1).objs.size=s.heap.objs.size+1:=jr ..;have z2:(OT s.heap l1 l2).objs.size=s.heap.objs.size+2:=by rw[jr,z1]
 have z3:(Qd s.heap l1 l2).objs.size=s.heap.objs.size+3:=by rw[jr,z2]
 have z4:(Ow s.heap l1 l2).objs.size=s.heap.objs.size+4:=by rw[jr,z3]
 have z5:(Fl s.heap l1 l2).objs.size=s.heap.objs.size+5:=by rw[jr,z4]
 have g5:(Fl s.heap l1 l2).get? (Ow s.heap l1 l2).objs.size=some _:=cg _ rfl;have g4:(Fl s.heap l1 l2).get? (Qd s.heap l1 l2).objs.size=some _:=a8 _ (cg _ rfl);have g3:(Fl s.heap l1 l2).get? (OT s.heap l1 l2).objs.size=some _:=a8 _ (a8 _ (cg _ rfl));have g2:(Fl s.heap l1 l2).get? (OO s.heap l1).objs.size=some _:=a8 _ (a8 _ (a8 _ (cg _ rfl)));have g1:(Fl s.heap l1 l2).get? s.heap.objs.size=some _:=a8 _ (a8 _ (a8 _ (a8 _ (cg _ rfl))));show _∧_;rw[z2,z3,z4] at g5;rw[z1,z2] at g3;rw[z3] at g4;rw[z1] at g2;rw[z4];have kp:∀c o,s.heap.get? c=some o→(Fl s.heap l1 l2).get? c=some o:=fun c o x=>a8 _ (a8 _ (a8 _ (a8 _ (a8 _ x))));refine⟨⟨_,g5,rfl⟩,h _ (fun S hS=>⟨⟨_,_,g5,.inl ⟨rfl,rfl⟩⟩,g3,⟨_,_,g4⟩,⟨_,g1,rfl,rfl⟩,⟨_,g2,rfl,rfl⟩,?_,?_⟩) z5 kp⟩
 ·obtain⟨o,e,r⟩:=AR;exact⟨o,kp _ _ e,r⟩
 ·obtain⟨o,e,r⟩:=kU;exact⟨o,kp _ _ e,r⟩
end
structure Bo(H:Hp)(zs xs ys:ak):Prop where
 len:zs.length=xs.length
 at_:∀(j:Nat) x y,xs[j]? =some x→ys[j]? =some y→∃t,zs[j]? =some (.ref t)∧H t=some (.tup [x,y])
noncomputable def Vj(xs ys:ak)(j:Nat):ak:=match xs[j]?,ys[j]? with
 |some x,some y=>[x,y]
 |_,_=>[]
section
variable{X:Cx}{a b:Expr}{ta:TA}{p p' pos pos' :Pos}
noncomputable def Kz(K:Frag)(ta:TA):TE:=fun σ H Q=>ta σ H fun vs H1=>∃t1 t2 xs ys,vs=[.ref t1,.ref t2]∧bc K H1 t1 xs∧bc K H1 t2 ys∧xs.length=ys.length∧
 ∀l zs H',H1 l=none→aj H1 H'→H' l=some (.lst zs)→Bo H' zs xs ys→Q (.ref l) H'
theorem Gf(hc:X.calm=true)(hg:Gl X "list")(hm:X.mg "list"=none)(hg' :Gl X "zip")(hm' :X.mg "zip"=none)(ha:PA X [a,b] ta)(hs:starEach [a,b] X.env=[(false,eval a X.env),(false,eval b X.env)]:=by rfl)(Yq:starEach [b] X.env=[(false,eval b X.env)]:=by rfl)
 (Ou :starEach [Expr.Call (.Name "zip" p') [a,b] [] pos'] X.env=[(false,eval (.Call (.Name "zip" p') [a,b] [] pos') X.env)]:=by rfl):
 PE X (.Call (.Name "list" p) [.Call (.Name "zip" p') [a,b] [] pos'] [] pos) (Kz X.K ta):=by
 intro pins s σ H Q I h;refine lR (pE I hg hm Boot.«list» ?_);refine Aq ?_ Ou rfl;rw[Ou];show wpAny _ _ (spliced ((false,eval (.Call (.Name "zip" p') [a,b] [] pos') X.env)::backTo pos [])) _ _ s;refine sD (Call_ (pE I hg' hm' Boot.«zip» (Aq (ck (ha pos' pins s σ H _ I h) fun us s1 ⟨vs,H1,I1,r1,q1⟩=> ?_) (by rw[hs,Yq]) (by rw[Yq];rfl))));obtain⟨l1,l2,xs,ys,e,hq,hq2,hl,q⟩:=q1;subst e;obtain⟨u,v,rfl,ru,rv⟩:=jad r1;cases ru;cases rv;obtain⟨its,rx,p1,hz⟩:=I1.tuple hq;obtain⟨ra,ry,p2,BZ⟩:=I1.tuple hq2;have wg:s1.heap.IsTuple l1 its.toArray:=p1;have wb:s1.heap.IsTuple l2 ra.toArray:=p2;have Zh:=rx.length;have hly:=ry.length;have ad2:l1<s1.heap.objs.size:=by obtain⟨o,e,_⟩:=wg;exact aQ e
 have Om:l2<s1.heap.objs.size:=by obtain⟨o,e,_⟩:=wb;exact aQ e
 refine P7 wg wb fun kq mv hsz OG=> ?_;refine tU ?_;have hsa:its.toArray.size=ra.toArray.size:=by rw[bh,bh];lia
 refine Qf (s:={s1 with heap:=kq}) (I1.ok.hd hc) (JO _ _ _ ad2 Om) hsa (by rw[bh];lia) mv fun h' tk acc c as hk hS GS hG xX=> ?_
 have kp:∀b o,s1.heap.get? b=some o→h'.get? b=some o:=fun b o e=>by
  have q:b<s1.heap.objs.size:=aQ e;exact hk b o (bN (cf q (lL _ _))) (bN (cf q (lL _ _))) (bN q) (bN (cf q (lL _ _))) (OG b o e)
 dsimp only at hS hG ⊢;have hLo:s1.heap.objs.size≤kq.objs.size:=by lia
 have hnl:H1 kq.objs.size=none:=I1.bE.fresh hLo;have Xn:∀a∈as,H1 a=none:=fun a ha=>I1.bE.fresh (aR hLo (bO (hG.above a ha)))
 let H' :Hp:=fun a=>if a=kq.objs.size then some (.lst (as.map V.ref)) else if a∈as then some (.tup (Vj xs ys (as.idxOf a))) else H1 a
 have sm:∀a o,H1 a=some o→H' a=some o:=fun a o e=>by
  show(if a=kq.objs.size then some (.lst (as.map V.ref)) else if a∈as then some (.tup (Vj xs ys (as.idxOf a))) else H1 a)=some o;rw[ay (aw e hnl),ay fun z=>by rw[Xn a z] at e;cases e];exact e
 have Zb :H' kq.objs.size=some (.lst (as.map V.ref)):=aA rfl
 have hi:∀(j:Nat) a,as[j]? =some a→H' a=some (.tup (Vj xs ys j)):=fun j a e=>by
  have hm:=bJ e;show(if a=kq.objs.size then some (.lst (as.map V.ref)) else if a∈as then some (.tup (Vj xs ys (as.idxOf a))) else H1 a)=_;rw[ay (hU (hG.above a hm)),aA hm,UQ hG.rise e]
 have MX :as.length=xs.length:=by rw[GS,bh];lia
 have I2:Inv X pins σ H' {s1 with heap:=h',toks:=tk}:=by
  refine I1.more kp sm fun a ob e=> ?_;by_cases z1:a=kq.objs.size
  ·subst z1;rw[Zb] at e;cases e;refine .inr ⟨hLo,by rw[aK];lia,acc.toList,c,?_,hS⟩;rw[xX];clear xX hS hG GS hi Zb sm Xn MX
   induction as with
   |nil=>exact .nil
   |cons a r ih=>exact .cons rfl ih
  ·by_cases z2:a∈as
   ·obtain⟨j,hj⟩:=yl.mp z2;rw[hi j a hj] at e;cases e;obtain⟨x,y,e1,e2,e3⟩:=hG.pairs j a hj
    have hjl:j<xs.length:=by
     have:=(dq.mp hj).1
     lia
    have ae0:j<ys.length:=by lia
    have hp:xs[j]? =some xs[j]:=by simp[hjl]
    have D0:ys[j]? =some ys[j]:=by simp[ae0]
    obtain⟨x',ex,rx'⟩:=rx.get hp;obtain⟨y',ey,ry'⟩:=ry.get D0;have e1' :its[j]? =some x:=by simpa using e1
    have Vu :ra[j]? =some y:=by simpa using e2
    rw[ex] at e1';rw[ey] at Vu;cases e1';cases Vu;refine .inr ⟨aR hLo (bO (hG.above a z2)),?_⟩;unfold Vj;rw[hp,D0];exact⟨(show 2≤sizeLine by decide),[_,_],.cons rx' (.cons ry' .nil),⟨_,e3,rfl,_,rfl⟩⟩
   ·left
    have:H' a=H1 a:=by
     show(if a=kq.objs.size then some (.lst (as.map V.ref)) else if a∈as then some (.tup (Vj xs ys (as.idxOf a))) else H1 a)=H1 a;rw[ay z1,ay z2]
    rw[←this];exact e
 refine⟨.ref kq.objs.size,H',I2,rfl,q _ _ H' hnl sm Zb ⟨by rw[aK];exact MX,fun j x y ex ey=> ?_⟩⟩
 have hjl:j<as.length:=by
  have:=(dq.mp ex).1
  lia
 have ha:as[j]? =some as[j]:=by simp[hjl]
 refine⟨as[j],by rw[bj,ha];rfl,?_⟩;rw[hi j _ ha];unfold Vj;rw[ex,ey]
end
section
variable{M:Model}{A:Around}{E:Value→Shared→Prop}
theorem uH{h:Heap}{g:Array GenState}{d:Drawn}{t:Nat}{os:OsState}{e C D N N' :Addr}{oe:Obj}{nm q nm' q' :Str}{bs bm Rp Vs :aD}{gX M6 :Bool}{sn sn' :ao}{sub U6 :aD}{ab ab' :Bool}{col Uw :Option Bool}{dd HS :Option Addr}{k0 k1 k2 k3 k5 j0 j1 j2 j3 j5:aI}{i j:String}{b:Bool}{Q:Bool→Shared→Prop}
 (hC:h.get? C=some (excClassObj nm q C N bs bm gX sn sub ab col dd k0 k1 k2 k3 k5 i)) (hD:h.get? D=some (excClassObj nm' q' D N' Rp Vs M6 sn' U6 ab' Uw HS j0 j1 j2 j3 j5 j)) (he:h.get? e=some oe) (zx:oe.cls= .ref C) (uU:Vs.contains (.type "BaseException")=true)
 (CZ:(Value.ref C::bm).contains (.ref D)=b) (hq:Q b ⟨h,g,d,t,os⟩):wpAny M A (excMatches (.ref e) (.ref D)) Q E ⟨h,g,d,t,os⟩:=by
 have Me:(Value.ref D::Vs).contains (.type "BaseException")=true:=by rw[nt,uU,nh]
 have f:=tc_notTuple;unfold excMatches
 repeat (first|(with_reducible refine gE he ?_;rw[zx])|with_reducible refine gE hD ?_|(with_reducible refine mf hD ?_;rw[Me])|(with_reducible refine mf hC ?_;rw[CZ])|wp_step)
 cases b with
 |true=>
  rw[aA rfl]
  repeat wp_step
  exact hq
 |false=>
  rw[ay (by decide)]
  repeat wp_step
  exact hq
end
structure Ew(K:Frag)(C D:Addr):Prop where
 ex:∃nm q N bs bm gX sn sub ab col dd k0 k1 k2 k3 k5 i,K.lookup C=some (excClassObj nm q C N bs bm gX sn sub ab col dd k0 k1 k2 k3 k5 i)∧(Value.ref C::bm).contains (.ref D)=false
noncomputable def DC(K:Frag)(C:Addr):List (Addr×TS)→TS→Prop
 |[],_=>False
 |p::r,t=>(Under K C p.1∧t=p.2)∨(Ew K C p.1∧DC K C r t)
inductive EB (X:Cx) (nm:Str):List ExceptHandler→List (Addr×TS)→Prop
 |nil {r:List ExceptHandler}:EB X nm r []
 |cons {c:Str} {cp Ay:Pos} {b0:Stmt} {wH:List Stmt} {rest:List ExceptHandler} {D:Addr} {th:TS} {L:List (Addr×TS)} (hg:Gl X c) (hm:X.mg c=some (.ref D)) (hD:ExcC X.K D) (se:(c==("__debug__" :Str))=false)
  (hs:∀a,AO (X.pI a fun _ _=>False) (b0::wH) th) (r:EB X nm rest L):EB X nm (.ExceptHandler (some (.Name c cp)) (some nm) (b0::wH) Ay::rest) ((D,th)::L)
section
variable{X:Cx}{body:List Stmt}{Fx:List ExceptHandler}{nm:Str}{pos:Pos}{tb:XK→TS}{i:Nat}{L:List (Addr×TS)}
noncomputable def RN(K:Frag)(len:Nat)(L:List (Addr×TS))(i:Nat)(Ds:Ends):XK:=fun Cv dd H=>∃C th,Cv= .ref C∧DC K C L th∧∀(a:Addr) (σ:St),H a=some (.ext (c8 a C dd false))→σ.length=len→th (zK i Ds) (σ.set i (some (.ref a))) H
noncomputable def aak(K:Frag)(len:Nat)(L:List (Addr×TS))(i:Nat)(tb:XK→TS):TS:=fun Ds σ H=>tb (RN K len L i Ds) Ds σ H
theorem Nm{pins:aJ}{σ:St}{H:Hp}{a C T:Addr}{dd:Option Addr}{th:TS}{Ds:Ends}(hN:X.N.Nodup)(hi:X.N[i]? =some nm)(zG:X.env.kindOf nm=some .local)(Hs:EB X nm Fx L)(ct:DC X.K C L th):
 ∀s:Shared,Inv X pins σ H s→Ng X pins H s.heap a T→H a=some (.ext (c8 a C dd false))→th (zK i Ds) (σ.set i (some (.ref a))) H→wpAny (model X.prog X.w) X.A (handleBy (.ref a) X.env Fx) (SP X pins Ds) X.xe s:=by
 induction Hs with
 |nil=>exact ct.elim
 | @cons c cp Ay b0 wH rest D th' L' hg hm hD se hs r ih=>
  intro s I held ea q;obtain⟨vs,he,hv,_⟩:=n6 I.bE ea;refine wpAny_handleBy_cons (codeAny_handlers_test ?_) (by intro q;cases q);refine jE (I.pI a fun _ _=>False) hg hm ?_ se;obtain⟨nm2,q2,N2,bs2,bm2,hd2,sn2,adH,ab2,adG,SN,j0,j1,j2,j3,j5,lk2,T2⟩:=hD.obj;have hDD:=I.je _ _ lk2;rcases ct with⟨un,rfl⟩|⟨un,ct⟩
  ·obtain⟨nm1,q1,N1,bs1,bm1,EE,sn1,ZK,To,Z0,WZ,k0,k1,k2,k3,k5,i1,lk,CZ⟩:=un.ex;have hC:=I.je _ _ lk;obtain⟨D0,g2,d2,t2,os2⟩:=s;refine uH hC hDD he rfl T2.hasBase CZ ?_;refine codeAny_handlers_suite_as ?_;refine BS I held fun s3 I3 Yk=> ?_;refine kM (X:=X.pI a fun _ _=>False) (I3.pI a fun _ _=>False) hN hi (.inl zG) (show RelV (.ref a) (.ref a) from rfl) (fun s4 I4=> ?_) (.inr zG);refine eA (hs a pins s4 _ _ (zK i Ds) I4 q) (fun f s5 z=> ?_) fun _ _ z=>z.elim;have zx:(X.env.scope.kind== .class||(X.env.scope.kind== .module&&X.env.locals !=X.env.globals))=false:=by rw[I.ok.kind];rfl
   have goes:∀{Gq:St} {H5:Hp} {Q:Unit→Shared→Prop},Inv X pins Gq H5 s5→(∀s6,Inv X pins (Gq.set i none) H5 s6→Q () s6)→wpAny (model X.prog X.w) X.A (do bindName X.env nm .none;unbindBehindTheSuite X.env nm Ay) Q X.xe s5:=fun{Gq H5 Q} J5 hQ=>by
    obtain⟨m,X6,_⟩:=id J5.loc;exact wpAny_nameGoes_keeps zG X6 zx fun h' v hn sb=>hQ _ (J5.IL (t' :=s5.toks+1) hN hi X6 hn sb)
   cases f with
   |next=>obtain⟨Gq,H5,I5,q5⟩:=z;exact goes (I5.pw I.ok) fun s6 I6=>⟨_,_,I6,q5⟩
   |brk=>obtain⟨Gq,H5,I5,q5⟩:=z;exact goes (I5.pw I.ok) fun s6 I6=>⟨_,_,I6,q5⟩
   |cont=>obtain⟨Gq,H5,I5,q5⟩:=z;exact goes (I5.pw I.ok) fun s6 I6=>⟨_,_,I6,q5⟩
   |ret u=>obtain⟨v,Gq,H5,I5,r5,q5⟩:=z;exact goes (I5.pw I.ok) fun s6 I6=>⟨v,_,_,I6,r5,q5⟩
  ·obtain⟨nm1,q1,N1,bs1,bm1,EE,sn1,ZK,To,Z0,WZ,k0,k1,k2,k3,k5,i1,lk,CZ⟩:=un.ex;have hC:=I.je _ _ lk;obtain⟨D0,g2,d2,t2,os2⟩:=s;refine uH hC hDD he rfl T2.hasBase CZ ?_;exact ih ct _ I held ea q
theorem OE(mv:X.stack=X.env::X.outer)(sE:X.env.frame=some X.env.locals)(hN:X.N.Nodup)(hi:X.N[i]? =some nm)(zG:X.env.kindOf nm=some .local)(Hs:EB X nm Fx L)
 (hb:∀(E:XK) (pn:aJ) (W:Value→Shared→Prop),BB (X.pinned pn W) E→AO (X.pinned pn W) body (tb E)) (mq:∃h0 r,Fx=h0::r:=by exact⟨_,_,rfl⟩):
 PS X (.Try body Fx [] [] pos) (aak X.K X.N.length L i tb):=by
 obtain⟨h0,r0,rfl⟩:=mq;intro pins s σ H Ds I h;refine wpAny_Try_except ?_
 have hw:BB (X.pinned pins fun e bC=>wpAny (model X.prog X.w) X.A (noteFrame e X.env) (fun _ nW=>wpAny (model X.prog X.w) X.A (setFlight e none) (fun _ vt=>wpAny (model X.prog X.w) X.A (handleBy e X.env (h0::r0)) (SP X pins Ds) X.xe vt) X.xe nW) X.xe bC)
  (RN X.K X.N.length L i Ds):=by
  intro BG dC H' s' a C dd n I' ea fl q;have J:Inv X pins dC H' s' :=I'.ofPinned I.ok
  have fl' :Au X pins H' s'.heap a:=by
   rcases fl with z|⟨T,oe,f,z1,z2,z3⟩
   ·exact .inl z
   ·exact .inr ⟨T,oe,f,z1,z2,fun p hp=>z3 p (tm _ hp)⟩
  obtain⟨C',th,eC,ct,q⟩:=q;cases eC;refine Cs J mv sE ea fl' fun s2 T I2 held=> ?_;have XQ:upd H' a (.ext (c8 a C dd false)) a=some (.ext (c8 a C dd false)):=aa;exact Nm hN hi zG Hs ct s2 I2 held XQ (q a dC XQ I2.len)
 refine eA (hb _ pins _ hw [] s σ H Ds (I.E1 _) h) (fun f s1 z=> ?_) fun _ _ z=>z
 cases f with
 |next=>obtain⟨dC,H',I',q⟩:=z;exact uM ⟨dC,H',I'.ofPinned I.ok,q⟩
 |brk=>obtain⟨dC,H',I',q⟩:=z;exact⟨dC,H',I'.ofPinned I.ok,q⟩
 |cont=>obtain⟨dC,H',I',q⟩:=z;exact⟨dC,H',I'.ofPinned I.ok,q⟩
 |ret u=>obtain⟨v,dC,H',I',r,q⟩:=z;exact⟨v,dC,H',I'.ofPinned I.ok,r,q⟩
end
section
variable{X:Cx}{tg:Expr}
theorem Bi:iq X (.builtin "isinstance") (fun xs H Q=>∃a p,xs=[.ref a,.ref p]∧((∃ys,H a=some (.lst ys))∨∃ys,H a=some (.tup ys))∧H p=some (.tup [.ty "list",.ty "tuple"])∧Q (.bl true) H):=by
 intro pins s σ H xs us Q I r h;obtain⟨a,p,rfl,ha,hp,q⟩:=h;obtain⟨u,c,rfl,ru,rc⟩:=jad r;cases ru;cases rc;obtain⟨z,its,rv,o,h1,h2,n,h3⟩:=(show bI X.prog X.w H s.heap p (.tup _) from I.bE p _ hp);obtain⟨u1,u2,rfl,r1,r2⟩:=jad rv;cases r1;cases r2
 have htp:s.heap.get? p=some ⟨.type "tuple",o.dict,.seq ([Value.type "list",Value.type "tuple"]:aD).toArray n,o.slots⟩:=by
  obtain⟨c,d,dt,sl⟩:=o;dsimp only at h2 h3;subst h2 h3;exact h1
 rcases ha with⟨ys,ha⟩|⟨ys,ha⟩
 ·obtain⟨_,_,n,_,h1⟩:=(show bI X.prog X.w H s.heap a (.lst ys) from I.bE a _ ha);exact kia_tup kitx_list I.je ⟨_,h1,rfl⟩ htp (by rfl) (fun z=>nomatch z) fun tk=>⟨.bl true,H,I.tok tk,rfl,q⟩
 ·obtain⟨_,_,_,p⟩:=(show bI X.prog X.w H s.heap a (.tup ys) from I.bE a _ ha);obtain⟨o,h1,h2,_⟩:=p;exact kia_tup kitx_tuple I.je ⟨o,h1,h2⟩ htp (by rfl) (fun z=>nomatch z) fun tk=>⟨.bl true,H,I.tok tk,rfl,q⟩
noncomputable def Nv(K:Frag)(t:Bool)(a:Addr):It:=if t then U2 K a else UW K a
noncomputable def iSq(K:Frag)(tl:TE):TI:=fun σ H R=>tl σ H fun x H1=>∃a,∃t:Bool,x= .ref a∧(if t then(∃xs,bc K H1 a xs) else ∃xs,bF K H1 a xs)∧R (Nv K t a) H1
theorem pV{l:Expr}{tl:TE}(hl:PE X l tl):PI X tg l (iSq X.K tl):=by
 intro pins s σ H R I h;have key:=hl pins s σ H _ I h;refine ck key fun v s1 ⟨x,H1,I1,r1,q1⟩=> ?_;obtain⟨a,t,e,hq,q⟩:=q1;subst e;cases r1
 cases t with
 |false=>
  obtain⟨xs,hq⟩:=hq;obtain⟨its,rv,p,hz⟩:=I1.list hq;refine tX p.isList ?_;refine⟨s1.heap.objs.size,[s1.heap.objs.size],_,_,H1,rfl,I1.kept (t' :=s1.toks) fun b o e=>a8 _ e,Cc a _,⟨_,cg _ rfl,rfl,rfl⟩,fun b hb=> ?_,q⟩;have e:b=s1.heap.objs.size:=by simpa using hb
  subst e;exact I1.CH (aG _) (I1.bE.fresh (aG _))
 |true=>
  obtain⟨xs,hq⟩:=hq;obtain⟨its,rv,p,hz⟩:=I1.tuple hq;refine yU (show s1.heap.IsTuple a its.toArray from p) ?_;refine⟨s1.heap.objs.size,[s1.heap.objs.size],_,_,H1,rfl,I1.kept (t' :=s1.toks) fun b o e=>a8 _ e,y9 a _,⟨_,cg _ rfl,rfl,rfl⟩,fun b hb=> ?_,q⟩;have e:b=s1.heap.objs.size:=by simpa using hb
  subst e;exact I1.CH (aG _) (I1.bE.fresh (aG _))
end
noncomputable def Jo(t:Bool)(xs:ak):HO:=if t then .tup xs else .lst xs
theorem ng{K:Frag}{t:Bool}{a:Addr}{xs:ak}{g:TG}{tb:TS}{D:Ends}{σ:St}{H:Hp}(Pv:Nat→St→Hp→Prop)(h0:Pv 0 σ H)(hl:∀i σ H,i≤xs.length→Pv i σ H→H a=some (Jo t xs))
 (hs:∀i x σ H,xs[i]? =some x→Pv i σ H→g x σ H fun lU H2=>tb {D with nx:=Pv (i+1),ct:=Pv (i+1),bk:=D.nx} lU H2) (hd:∀σ H,Pv xs.length σ H→D.nx σ H):
 ∃W:Nat→Nat→St→Hp→Prop,(∃m,W 0 m σ H)∧∀i m σ H,W i m σ H→
  ((Nv K t a).stop i H∧D.nx σ H)∨((Nv K t a).go i H∧∃N:St→Hp→Prop,(∀dC H',N dC H'→∃m',m' <m∧W (i+1) m' dC H')∧∀x H',(Nv K t a).yO i H x H'→g x σ H' fun lU H2=>tb {D with nx:=N,ct:=N,bk:=D.nx} lU H2):=by
 cases t with
 |false=>exact dF Pv h0 (fun i σ H hi p=>bF.of (hl i σ H hi p)) hs hd
 |true=>exact uh Pv h0 (fun i σ H hi p=>bc.of (hl i σ H hi p)) hs hd
theorem Fv{K:Frag}{t:Bool}{a:Addr}{xs:ak}{H:Hp}(h:H a=some (Jo t xs)):xE (Nv K t a) H xs:=by
 cases t with
 |false=>exact dN (bF.of h)
 |true=>exact qG (bc.of h)
theorem MD{K:Frag}{t:Bool}{a:Addr}{xs:ak}{H:Hp}(h:H a=some (Jo t xs)):if t then(∃xs,bc K H a xs) else ∃xs,bF K H a xs:=by
 cases t with
 |false=>exact⟨xs,bF.of h⟩
 |true=>exact⟨xs,bc.of h⟩
theorem ZY{K:Frag}{t:Bool}{a:Addr}{xs:ak}{H:Hp}(h:H a=some (Jo t xs)):bF K H a xs∨bc K H a xs:=by
 cases t with
 |false=>exact .inl (bF.of h)
 |true=>exact .inr (bc.of h)
section
variable{prog:Program}{w:World}{A:Around}{E:Value→Shared→Prop}{s:Shared}
theorem rg{t sl:Addr}{items:Array Value}{vl vu:Value}{lo hi:Option Int}{Q:Value→Shared→Prop}(ht:IsTup s.heap t items)(hs:s.heap.IsSliceOf sl vl vu .none)(pl:IsPart vl lo)(pu:IsPart vu hi)
 (h0:HT.iB items.size 0 lo=0) (h1:HT.iB items.size items.size hi=items.size) (h:Q (.ref t) s):wpAny (model prog w) A (getItem (.ref t) (.ref sl)) Q E s:=by
 obtain⟨os,Kw,Xl,OP⟩:=id hs;have QP:s.TypeIs (.ref sl) "slice":=⟨os,Kw,Xl⟩;unfold getItem
 try with_reducible refine gZ ?_
 first|refine ah (aC ?_)|skip
 refine ah (wpAny_sequenceKey ht.typeIs (by decide) ?_)
 refine ah (ni (name:=Str.ofString "__getitem__") ht.typeIs nj
  (kQ nj ht.typeIs entry_tuple_getitem ?_ (args_tuple_getitem _ _)))
 show wpAny _ _ (Builtin.Tuple.tupleItemsOf (.ref t)>>= _) _ _ s;refine ah (tupleItemsOf_ ht ?_);refine ah (vb QP ?_);rw[aA (by decide)];refine ah (HT.mz hs pl pu ?_);show wpAny _ _ (if(((HT.iB items.size 0 lo:Nat):Int)==0&&(1:Int)==1&&(HT.iB items.size items.size hi - HT.iB items.size 0 lo)==items.size)=true then _ else _) _ _ s;rw[aA (by rw[h0,h1];simp)];refine ah ?_;unfold Builtin.Tuple.tupleIsExact;refine ah (vb ht.typeIs (aC ?_));rw[aA (by decide)];exact ah (qH (aC ⟨_,rfl,aC h⟩))
theorem sG{t sl:Addr}{items:Array Value}{t1 t2 t3:Tok}{Q:Value→Shared→Prop}(ht:IsTup s.heap t items)(hs:s.heap.IsSliceOf sl (.int 1 t1) (.int 4 t2) (.int 2 t3))(h2:2≤items.size)(h5:items.size≤5)
 (h:Q (.ref s.heap.objs.size) {s with heap:=s.heap.push {cls:= .type "tuple",data:= .seq (([1,3]:List Nat).filterMap (items[·]?)).toArray}}):wpAny (model prog w) A (getItem (.ref t) (.ref sl)) Q E s:=by
 obtain⟨os,Kw,Xl,OP⟩:=id hs;have QP:s.TypeIs (.ref sl) "slice":=⟨os,Kw,Xl⟩;unfold getItem
 try with_reducible refine gZ ?_
 first|refine ah (aC ?_)|skip
 refine ah (wpAny_sequenceKey ht.typeIs (by decide) ?_)
 refine ah (ni (name:=Str.ofString "__getitem__") ht.typeIs nj
  (kQ nj ht.typeIs entry_tuple_getitem ?_ (args_tuple_getitem _ _)))
 show wpAny _ _ (Builtin.Tuple.tupleItemsOf (.ref t)>>= _) _ _ s;refine ah (tupleItemsOf_ ht ?_);refine ah (vb QP ?_);rw[aA (by decide)];refine ah ?_;unfold Builtin.Slice.sliceApplied Builtin.Slice.sliceFields;refine ah (ah (cc Kw OP (x:= .int 1 t1) rfl (ah (cc Kw OP (x:= .int 4 t2) rfl (ah (cc Kw OP (x:= .int 2 t3) rfl (aC ?_)))))));refine ah (slicePart_int ?_);show wpAny _ _ (if((2:Int)==0)=true then _ else _) _ _ s;rw[ay (by decide)];refine ah (slicePart_int (ah (slicePart_int (ah (aC ?_)))));show wpAny _ _ (match Builtin.Slice.sliceAdjust (some 1) (some 4) 2 (items.size:Int) with|(lo,hi)=>pure (lo,(2:Int),Builtin.Slice.slicePlaces lo hi 2)) _ _ s
 have e:(match Builtin.Slice.sliceAdjust (some 1) (some 4) 2 (items.size:Int) with|(lo,hi)=>(lo,(2:Int),Builtin.Slice.slicePlaces lo hi 2))=((1:Int),(2:Int),if items.size<4 then 1 else 2):=by
  rcases(by lia:items.size=2∨items.size=3∨items.size=4∨items.size=5) with q|q|q|q<;>rw[q]<;>rfl
 have e' :(match Builtin.Slice.sliceAdjust (some 1) (some 4) 2 (items.size:Int) with|(lo,hi)=>(pure (lo,(2:Int),Builtin.Slice.slicePlaces lo hi 2):Sem (Int×Int×Nat)))=pure (match Builtin.Slice.sliceAdjust (some 1) (some 4) 2 (items.size:Int) with|(lo,hi)=>(lo,(2:Int),Builtin.Slice.slicePlaces lo hi 2)):=rfl;rw[e',e];refine aC ?_;show wpAny _ _ (if((1:Int)==0&&(2:Int)==1&&(if items.size<4 then 1 else 2)==items.size)=true then _ else _) _ _ s;rw[ay (by simp)]
 have ep:((List.range (if items.size<4 then 1 else 2)).filterMap fun(k:Nat)=>items[((1:Int)+(k:Int)*2).toNat]?)=(([1,3]:List Nat).filterMap (items[·]?)):=by
  split
  ·have:items[3]? =none:=Dh (by lia);simp only[mh,List.filterMap_nil,this,Dc,List.range_zero,qu];rfl
  ·rfl
 rw[ep]
 have uO:sizeOk (.seq (([1,3]:List Nat).filterMap (items[·]?)).toArray):=by
  show(([1,3]:List Nat).filterMap (items[·]?)).toArray.size≤sizeLine;rw[bh];exact aR (List.length_filterMap_le _ _) (by decide)
 first
  |exact ah (m:=Builtin.Tuple.tupleExact _) (gm (aC ⟨_,rfl,aC h⟩) uO)
  |exact ah (m:=Builtin.Tuple.tupleExact _) (gm (ah (aC (aC ⟨_,rfl,aC h⟩))) uO)
  |exact ah (ah (m:=Builtin.Tuple.tupleExact _) (gm (aC (aC ⟨_,rfl,aC h⟩)) uO))
  |exact ah (ah (m:=Builtin.Tuple.tupleExact _) (gm (aC ⟨_,rfl,aC h⟩) uO))
end
section
variable{X:Cx}{e lo hi Xw:Expr}{te tl th ts:TE}{pos p2:Pos}
noncomputable def aaf(K:Frag):V→Option Int→Option Int→Hp→VK→Prop:=fun x lo hi H Q=>∃a xs,x= .ref a∧bc K H a xs∧
 ((HT.iB xs.length 0 lo=0∧HT.iB xs.length xs.length hi=xs.length)→Q (.ref a) H)∧(¬(HT.iB xs.length 0 lo=0∧HT.iB xs.length xs.length hi=xs.length)→∀p,H p=none→Q (.ref p) (upd H p (.tup (bY xs lo hi))))
theorem HU:SlR X (aaf X.K):=by
 intro pins s σ H x v vl vu lo hi sl Q I rx hs pl pu h;obtain⟨a,xs,rfl,hx,q0,q1⟩:=h;by_cases hw:HT.iB xs.length 0 lo=0∧HT.iB xs.length xs.length hi=xs.length
 ·cases rx;obtain⟨its,r,ht,hz⟩:=I.tuple hx;have hlen:its.toArray.size=xs.length:=by rw[bh];exact r.length.symm
  refine⟨"tuple",_,nj.lookup,ht.typeIs,?_⟩;exact rg ht hs pl pu (by rw[hlen];exact hw.1) (by rw[hlen];exact hw.2) ⟨.ref a,H,I,rfl,q0 hw⟩
 ·exact lS pins s σ H _ v vl vu lo hi sl Q I rx hs pl pu ⟨a,xs,rfl,hx,hw,q1 hw⟩
noncomputable def Fn(xs:ak):ak:=([1,3]:List Nat).filterMap (xs[·]?)
noncomputable def V0(K:Frag)(te tl th ts:TE):TE:=fun σ H Q=>te σ H fun x H1=>HR tl σ H1 fun o1 H2=>HR th σ H2 fun o2 H3=>HR ts σ H3 fun o3 H4=>∃a xs,x= .ref a∧o1=some 1∧o2=some 4∧o3=some 2∧bc K H4 a xs∧2≤xs.length∧xs.length≤5∧
 ∀p,H4 p=none→Q (.ref p) (upd H4 p (.tup (Fn xs)))
theorem Vals.odd{xs:ak}{us:aD}(r:Vals xs us)(ns:List Nat):Vals (ns.filterMap (xs[·]?)) (ns.filterMap (us[·]?)):=by
 induction ns with
 |nil=>exact .nil
 |cons n ns ih=>
  rw[mh,mh]
  cases e:xs[n]? with
  |none=>
   have:us[n]? =none:=by
    have:=r.length;rw[Di] at e ⊢
    lia
   rw[this];exact ih
  |some x=>
   obtain⟨u,hu,ru⟩:=r.get e;rw[hu];exact .cons ru ih
theorem L0(he:PE X e te)(JG:PE X lo tl)(hhi:PE X hi th)(mv:PE X Xw ts):PE X (.Subscript e (.Slice (some lo) (some hi) (some Xw) p2) pos) (V0 X.K te tl th ts):=by
 intro pins s σ H Q I h;refine Subscript_ (ck (he pins s σ H _ I h) fun v s1 ⟨x,H1,I1,r1,q1⟩=> ?_);refine wpAny_Slice ?_;refine ck (cE JG pins s1 σ H1 _ I1 q1) fun vl s2 ⟨o1,H2,I2,pl,q2⟩=> ?_;refine ck (cE hhi pins s2 σ H2 _ I2 q2) fun vh s3 ⟨o2,H3,I3,ph,q3⟩=> ?_;refine ck (cE mv pins s3 σ H3 _ I3 q3) fun vs s4 ⟨o3,H4,I4,ps,a,xs,hx,ho1,IS,ho3,hq,h2,h5,q⟩=> ?_;subst ho1 IS ho3 hx;cases r1
 cases pl with
 |int _ t1=>
  cases ph with
  |int _ t2=>
   cases ps with
   |int _ t3=>
    have I5:Inv X pins σ H4 {s4 with heap:=s4.heap.push {cls:= .type "slice",data:= .fields #[.int 1 t1,.int 4 t2,.int 2 t3]}}:=I4.kept (t' :=s4.toks) fun b ob q=>a8 _ q;obtain⟨its,r,ht,hz⟩:=I5.tuple hq;have hlen:=r.length;show wpAny (model X.prog X.w) X.A (subscriptTail e (.Slice (some lo) (some hi) (some Xw) p2) (.ref a) (.ref s4.heap.objs.size)) (EP X pins σ Q) X.xe {s4 with heap:=s4.heap.push {cls:= .type "slice",data:= .fields #[.int 1 t1,.int 4 t2,.int 2 t3]}};refine tail_any (ops:=[.ref a,.ref s4.heap.objs.size]) ht.typeIs nj.lookup ?_ (by with_unfolding_all rfl);refine sG ht (Heap.IsSliceOf.new ..) (by rw[bh];lia) (by rw[bh];lia) ?_;refine⟨.ref _,_,I5.laid (t' :=s4.toks) (o:= .tup (Fn xs)) (fun b ob q=>a8 _ q) (aG _) ?_,rfl,q _ (I5.bE.fresh (aG _))⟩;refine⟨aR (List.length_filterMap_le _ _) (by decide),_,Vals.odd r [1,3],?_⟩;have e:(([1,3]:List Nat).filterMap (its.toArray[·]?))=([1,3]:List Nat).filterMap (its[·]?):=by simp
    rw[e];exact IsTup.new _ _
end
section
variable{X:Cx}
theorem Co(hc:X.calm=true):iq X (.builtin "max") (fun xs H Q=>∃(a:Addr) (i j:Int),xs=[.ref a]∧H a=some (.lst [.int i,.int j])∧Q (.int (if j>i then j else i)) H):=by
 intro pins s σ H xs us Q I r h;obtain⟨a,i,j,rfl,ha,q⟩:=h;obtain⟨u,rfl,ru⟩:=xz r;cases ru;obtain⟨its,r,pl,hz⟩:=I.list (bF.of ha);obtain⟨u1,u2,rfl,⟨t1,rfl⟩,⟨t2,rfl⟩⟩:=jad r;have iU:=I.bE.lt ha;have I1:Inv X pins σ H {s with heap:=s.heap.push {cls:= .type "list_iterator",data:= .fields #[.ref a,.int 0 0]}}:=I.kept (t' :=s.toks) fun b u e=>a8 _ e
 have Yj:∀(k:Nat) v,([Value.int i t1,Value.int j t2]:aD).toArray[k]? =some v→∃t,v= .int (if k=0 then i else j) t:=fun k v e=>by
  match k with
  |0=>cases e;exact⟨t1,rfl⟩
  |1=>cases e;exact⟨t2,rfl⟩
  |k+2=>cases e
 refine call_max_walk (tX pl.isList ⟨_,_,_,_,_,_,_,rfl,Walks.list (A:=X.A.in1) (I.ok.hd hc) _ a (bN iU) _,⟨⟨_,cg _ rfl,rfl,rfl⟩,pl.isList.push _⟩,?_,by simp,CmpOf.ints_gt (fun k=>if k=0 then i else j) Yj,fun v h' tk hP k=> ?_⟩)
 ·intro b Fq;have Fq :b=s.heap.objs.size∨b=a:=by simpa using Fq
  show b<(s.heap.push _).objs.size;rw[jr];rcases Fq with rfl|rfl
  ·exact yP _
  ·exact Nat.lt_succ_of_lt iU
 ·refine⟨.int (if j>i then j else i),H,I1.turned (fun b o hb e=>k b o (by simpa using hb) e) (I.bE.fresh (aG _)) (fun z=> ?_) (.inr I.sz) (fun x c e z=> ?_) (fun p hp z=> ?_),?_,q⟩
  ·exact absurd (z▸I.lt) (b7 _)
  ·obtain⟨v,o,ho,_⟩:=I.cell x c e;exact absurd (z▸aQ ho) (b7 _)
  ·obtain⟨ho,_⟩:=I.pin p hp;exact absurd (z▸aQ ho) (b7 _)
  ·obtain⟨t,rfl⟩:=Yj _ v hP;refine⟨t,?_⟩
   congr 1
   show(if(if decide ((if(0+1:Nat)=0 then i else j)>(if(0:Nat)=0 then i else j))=true then 1 else 0)=0 then i else j)=_;by_cases hj:j>i
   ·simp[hj]
   ·simp[hj]
end
structure Wx(K:Frag)(x qual:Str)(st:Stmt)(f:Addr)(fd:FuncData):Prop where
 ex:∃(oc:Value) (od:Option Addr) (dV kV doc pm:Value) (an:Option Addr) (cj ct:Value) (xI:Array (aI)),
  fd=PySem.W.fnOf x qual (gB st) (cR st) (aq st) dV kV doc pm an cj ct∧K.lookup f=some ⟨oc,od,.func fd,xI⟩∧PySem.W.codeIn K cj qual=true
 kp:PySem.W.keepIn K (.ref f)=true
structure FID(K:Frag)(mg:Str→aI)(x:Str)(st:Stmt)(ps:ao)(f:Addr)(fd:FuncData):Prop where
 m:mg x=some (.ref f)
 F:Wx K x x st f fd
 b:Binds K fd ps []
section
variable{P:Program}{w:World}{K:Frag}{mg:Str→aI}{base:Heap}
theorem Wx.ok{x qual:Str}{st:Stmt}{f:Addr}{fd:FuncData}{N ps:ao}{k:Nat}{sp:Sp}(F:Wx K x qual st f fd)(S:aE N ps (aq st))(len:∀vs H Q E,sp vs H Q E→vs.length=ps.length)
 (gu:∀(cj:Value) (A:Around) (outer:List Env) (s:Shared) (H:Hp) (vs:ak) (Q:VK) (E:XK),cZ k (A.deeper (envOfC qual (aq st) s.heap.objs.size f cj))→sp vs H Q E→
  ∃t,AO (kP cK P w K mg base N qual (aq st) f cj A outer s H E).Gg (cR st) t∧t {nx:=fun _ H' =>Q .bx H',rt:=Q} (start N vs) H):aM P w K mg base cK (k+1) f fd ps sp:=by
 obtain⟨oc,od,dV,kV,doc,pm,an,cj,ct,xI,rfl,lk,zR⟩:=F.ex;refine HI lk zR S len fun A outer s H vs Q E hr BC=> ?_;obtain⟨t,h,q⟩:=gu cj A outer s H vs Q E hr BC;exact⟨t,h.Gg,q⟩
end
section
variable{X:Cx}{CX:tD}{j k:Nat}{f:Addr}{fd:FuncData}{ps:ao}{sp:Sp}{E:XK}{x:Str}{st:Stmt}{p pos:Pos}{e:Expr}{es:cu}{t:TA}
theorem ada(F:aM X.prog X.w X.K X.mg X.base CX j f fd ps sp)(hr:cZ k X.A)(I:FID X.K X.mg x st ps f fd)(hx:wn CX X E)(ha:PA X (e::es) t)(hj:j≤k:=by decide)(hg:Gl X x:=by rfl)
 (se:(x==("__debug__" :Str))=false:=by decide) (he:starEach (e::es) X.env=(false,eval e X.env)::starEach es X.env:=by rfl) (jN:(backTo pos (starEach es X.env)).any (·.1)=false:=by rfl):
 PE X (.Call (.Name x p) (e::es) [] pos) (HB sp [] E t):=IY (F.mono hj) hr hg I.m I.F.kp I.b .nil hx ha se he jN
end
theorem UM{K:Frag}{h:Heap}{mg:Str→aI}{x:Str}{st:Stmt}{ps:ao}{f:Addr}{oc dV kV dc pm cd ct:Value}{od an:Option Addr}{sl:Array (aI)}(X:K.In h)(G:h.Ns mainGlobals mg)(a:PySem.W.nsIn K mainGlobals x=some (some (.ref f)))
 (l:K.lookup f=some ⟨oc,od,.func (PySem.W.fnOf x x (gB st) (cR st) (aq st) dV kV dc pm an cd ct),sl⟩) (c:PySem.W.codeIn K cd x=true) (k:PySem.W.keepIn K (.ref f)=true) (b:Binds K (PySem.W.fnOf x x (gB st) (cR st) (aq st) dV kV dc pm an cd ct) ps []):
 FID K mg x st ps f (PySem.W.fnOf x x (gB st) (cR st) (aq st) dV kV dc pm an cd ct):=⟨PySem.W.mg_of X G a,⟨⟨oc,od,dV,kV,dc,pm,an,cd,ct,sl,rfl,l,c⟩,k⟩,b⟩
theorem MT{α:Type}{n:Nat}{us:List α}(h:us.length=n+1):∃a r,us=a::r∧r.length=n:=by
 cases us with
 |nil=>cases h
 |cons a r=>exact⟨a,r,rfl,va h⟩
theorem bn0{α:Type}{P:List α→Prop}(h:P [])(us:List α)(hl:us.length=0):P us:=by rw[sk hl];exact h
theorem WU{α:Type}{n:Nat}{P:List α→Prop}(h:∀a us,us.length=n→P (a::us))(us:List α)(hl:us.length=n+1):P us:=by
 obtain⟨a,r,rfl,e⟩:=MT hl;exact h a r e
theorem bn1{α:Type}{P:List α→Prop}(h:∀a,P [a]):∀us:List α,us.length=1→P us:=WU fun a=>bn0 (P:=fun us=>P (a::us)) (h a)
theorem Yg{α:Type}{P:List α→Prop}(h:∀a b,P [a,b]):∀us:List α,us.length=2→P us:=WU fun a=>bn1 (P:=fun us=>P (a::us)) (h a)
theorem bn3{α:Type}{P:List α→Prop}(h:∀a b c,P [a,b,c]):∀us:List α,us.length=3→P us:=WU fun a=>Yg (P:=fun us=>P (a::us)) (h a)
theorem bn4{α:Type}{P:List α→Prop}(h:∀a b c d,P [a,b,c,d]):∀us:List α,us.length=4→P us:=WU fun a=>bn3 (P:=fun us=>P (a::us)) (h a)
theorem bn5{α:Type}{P:List α→Prop}(h:∀a b c d e,P [a,b,c,d,e]):∀us:List α,us.length=5→P us:=WU fun a=>bn4 (P:=fun us=>P (a::us)) (h a)
theorem bn6{α:Type}{P:List α→Prop}(h:∀a b c d e f,P [a,b,c,d,e,f]):∀us:List α,us.length=6→P us:=WU fun a=>bn5 (P:=fun us=>P (a::us)) (h a)
section
variable{X:Cx}
theorem Oa{xs:ak}{us:aD}(hl:xs.length=us.length)(h:∀(j:Nat) x u,xs[j]? =some x→us[j]? =some u→RelV x u):Vals xs us:=by
 induction xs generalizing us with
 |nil=>
  cases us with
  |nil=>exact .nil
  |cons u r=>cases hl
 |cons x r ih=>
  cases us with
  |nil=>cases hl
  |cons u q=>exact .cons (h 0 x u rfl rfl) (ih (va hl) fun j x u e1 e2=>h (j+1) x u (by simpa using e1) (by simpa using e2))
theorem yb(hc:X.calm=true):iq X (.type "list") (fun xs H Q=>∃d a6,xs=[.ref d]∧H d=some (.dK a6)∧∀l,H l=none→Q (.ref l) (upd H l (.lst (a6.map fun p=>kV p.1)))):=by
 intro pins s σ H xs us Q I r h;obtain⟨d,a6,rfl,hH,q⟩:=h;obtain⟨u,rfl,rx⟩:=xz r;cases rx;obtain⟨z,hs,vs,rel,o,es,ep,g1,g2,g3,g4,g5,g6⟩:=Hv I.bE hH;have hl:=rel.length;have hes:es.size=vs.length:=by rw[←g5.length];simp
 refine PySem.W.kdl_call (K_ (o:=o) (es:=es) (ep:=ep) hs) (I.ok.hd hc) ⟨g1,g2,g3⟩ (by lia) fun h' tk acc c hk hS xX=> ?_;refine⟨.ref s.heap.objs.size,_,I.laid (t' :=tk) (o:= .lst (a6.map fun p=>kV p.1)) hk (aG _) (show bI X.prog X.w _ h' _ (.lst _) from⟨by rw[aK];lia,acc.toList,c,Oa ?_ fun j x u e1 e2=> ?_,hS⟩),rfl,q _ (I.bE.fresh (aG _))⟩
 ·have h1:acc.toList.length=es.size:=tZ.trans xX.1;rw[aK,h1]
  lia
 ·rw[bj] at e1
  cases ek:a6[j]? with
  |none=>rw[ek] at e1;cases e1
  |some p=>
   rw[ek] at e1;cases e1;obtain⟨en,e3,e4⟩:=xX.2 j u (by simpa using e2)
   have hj:j<vs.length:=by
    have:=(dq.mp ek).1
    lia
   have hv:vs[j]? =some vs[j]:=by simp[hj]
   obtain⟨Vv,_⟩:=g5.get? (e:=en) (by simpa using e3) hv;have hk1:=U0 rel ek hv;show RelV (kV p.1) u;rw[e4,hk1];exact ZO Vv
end
section
variable{X:Cx}
theorem Jf(hu:X.A.units<cLine):qp X (compareOp .NotEq) (fun x y H Q=>∃a b xs,x= .ref a∧y= .ref b∧H a=some (.tup xs)∧H b=some (.tup [])∧Q (.bl (!xs.isEmpty)) H):=by
 intro pins s σ H x y v u Q I rx ry h;obtain⟨a,b,xs,rfl,rfl,ha,hb,q⟩:=h;cases rx;cases ry;obtain⟨its,r,pl,hz⟩:=I.tuple (bc.of ha);obtain⟨ra,r2,pl2,BZ⟩:=I.tuple (bc.of hb);cases r2
 have e:(!((List.range (min its.toArray.size ([]:aD).toArray.size)).all (fun _=>true)&&its.toArray.size==([]:aD).toArray.size))= !xs.isEmpty:=by
  cases r with
  |nil=>rfl
  |cons _ _=>rfl
 have key:=SeqAt.RcNeAt.tuples (A:=X.A) (s:=s) (e:=fun _=>true) (show s.heap.IsTuple a its.toArray from pl) (show s.heap.IsTuple b ([]:aD).toArray from pl2) hu (fun j _ h2=>absurd h2 (g8 _));rw[e] at key;exact key _ _ _ _ ⟨.bl _,H,I,rfl,q⟩
end
end L2
namespace My
open PySem L2 PyProof.Rows
theorem mI:0≤sizeLine:=by decide
theorem sS:1≤sizeLine:=by decide
theorem fw:2≤sizeLine:=by decide
theorem AZ:3≤sizeLine:=by decide
theorem GI:4≤sizeLine:=by decide
theorem ael:5≤sizeLine:=by decide
theorem aev:6≤sizeLine:=by decide
theorem aen:7≤sizeLine:=by decide
theorem abS:9≤sizeLine:=by decide
theorem aaJ:11≤sizeLine:=by decide
theorem oN:aE ["self","text"] ["self","text"] (aq i9):= .of
theorem rh:aE ["self","many"] ["self","many"] (aq kN):= .of
theorem rf:aE ["self","depth"] ["self","depth"] (aq kr):= .of
theorem qY:aE ["self","many"] ["self","many"] (aq jU):= .of
theorem rn:aE ["self","many"] ["self","many"] (aq jZ):= .of
theorem uR:aE ["self","label"] ["self","label"] (aq mM):= .of
theorem qO:aE ["self","label"] ["self","label"] (aq j9):= .of
theorem qb:aE ["self","found"] ["self","found"] (aq jz):= .of
theorem vq:aE ["thing"] ["thing"] (aq wZ):= .of
theorem wX:aE ["thing","low","high"] ["thing","low","high"] (aq Ak):= .of
theorem Gm:aE ["thing"] ["thing"] (aq Ca):= .of
theorem Gu:aE ["thing"] ["thing"] (aq Cp):= .of
theorem Qj:aE ["kind","thing"] ["kind","thing"] (aq ME):= .of
theorem Et:aE ["deed"] ["deed"] (aq AM):= .of
theorem DA:aE ["deed"] ["deed"] (aq xl):= .of
theorem E4:aE ["deed"] ["deed"] (aq Ab):= .of
theorem Er:aE ["deed"] ["deed"] (aq y0):= .of
theorem nG:aE ["thing","deed","body"] ["thing"] (aq xh):= .of
theorem jY:aE ["body","many","deed","inner"] ["body"] (aq Bz):= .of
theorem i3:aE ["body","depth","deed","inner"] ["body"] (aq Am):= .of
theorem ik:aE ["body","change","first","told","number","deed"] ["body","change","first"] (aq xq):= .of
theorem ee:aE ["deed","change","first","parts","number","kind","part"] ["deed","change","first"] (aq rG):= .of
theorem kA:aE ["body","around","listed","deed","inner","within"] ["body","around"] (aq BJ):= .of
theorem DY:aE ["body"] ["body"] (aq xp):= .of
theorem rP:aE ["deed","asked"] ["deed"] (aq uQ):= .of
theorem A7:aE ["body"] ["body"] (aq tV):= .of
theorem uK:aE ["deed","steps"] ["deed"] (aq xw):= .of
theorem rj:aE ["self","deeds"] ["self","deeds"] (aq eG):= .of
theorem xP:aE ["self"] ["self"] (aq pj):= .of
theorem wy:aE ["self"] ["self"] (aq oE):= .of
theorem eh:aE ["self","found","deed","around","name"] ["self"] (aq jj):= .of
theorem sv:aE ["self"] ["self"] (aq kZ):= .of
theorem uD:aE ["self","number"] ["self","number"] (aq mX):= .of
theorem uZ:aE ["self"] ["self"] (aq mN):= .of
theorem sP:aE ["self"] ["self"] (aq lG):= .of
theorem n8:aE ["body","many","depth"] ["body"] (aq wJ):= .of
theorem jX:aE ["listed","deed","around"] ["listed"] (aq rK):= .of
theorem ny:aE ["body","many","steps"] ["body"] (aq xD):= .of
theorem CB:aE ["_law_script","_law_k"] ["_law_script","_law_k"] (aq xm):= .of
theorem ET:aE ["_law_cell_here"] ["_law_cell_here"] (aq AF):= .of
theorem jM:aE ["_law_box_here","_law_many","_law_digit","_law_number"] ["_law_box_here","_law_many"] (aq wY):= .of
theorem cF:aE ["_law_box_here","_law_many","_law_letters","_law_way","_law_first","_law_step","_law_words","_law_stem","_law_at","_law_whole"] ["_law_box_here","_law_many"] (aq uw):= .of
theorem cH:aE ["_law_box_here","_law_names_here","_law_around","_law_kind","_law_x","_law_y","_law_k","_law_labels","_law_number","_law_some"] ["_law_box_here","_law_names_here","_law_around"] (aq rS):= .of
theorem cT:aE ["_law_box_here","_law_left","_law_names_here","_law_labels","_law_around","_law_room","_law_found","_law_turn","_law_kind","_law_free","_law_one","_law_label","_law_many","_law_times","_law_inner"] ["_law_box_here","_law_left","_law_names_here","_law_labels","_law_around","_law_room"] (aq pf):= .of
theorem eZ:aE ["_law_box_here","_law_upto","_law_room","_law_names_here","_law_labels"] ["_law_box_here"] (aq tR):= .of
theorem zB:aE ["_law_deed"] ["_law_deed"] (aq lT):= .of
theorem iT:aE ["_law_body_here","_law_found","_law_deed","_law_inner"] ["_law_body_here"] (aq u_):= .of
theorem fH:aE ["_law_body_here","_law_around","_law_down","_law_found","_law_deed","_law_inside","_law_one"] ["_law_body_here","_law_around","_law_down"] (aq rQ):= .of
theorem cv:aE ["_law_body_here","_law_asked","_law_done","_law_deed","_law_inner"] ["_law_body_here"] (aq w_):= .of
theorem bq:aE ["_law_body_here","_law_rows","_law_down","_law_deed","_law_around","_law_one","_law_asked","_law_done"] ["_law_body_here"] (aq kO):= .of
theorem bS:aE ["_law_call","_law_told","e"] ["_law_call"] (aq xF):= .of
theorem iW:aE ["_law_body_here","_law_found","_law_deed","_law_inner"] ["_law_body_here"] (aq tI):= .of
theorem j4:aE ["_law_body_here","_law_deed","_law_one"] ["_law_body_here"] (aq rJ):= .of
theorem cB:aE ["_law_rows","_law_found","_law_deed","_law_around","_law_down","_law_some","_law_name"] ["_law_rows"] (aq jq):= .of
theorem fj:aE ["_law_program_here","_law_thing","_law_found","e"] ["_law_program_here","_law_thing"] (aq m7):= .of
theorem cX:aE ["_law_program_here","_law_body_here","_law_rows","_law_makings","_law_turn","_law_some","_law_k","_law_found","_law_bad"] ["_law_program_here","_law_body_here"] (aq nK):= .of
theorem xV:aE ["_law_deeds_here"] ["_law_deeds_here"] (aq g7):= .of
theorem ij:aE ["_law_body_here","_law_due","_law_told","_law_found"] ["_law_body_here","_law_due"] (aq m4):= .of
theorem lZ:aE ["_law_script","_law_beside","_law_k","_law_body_here","_law_due","_law_handed","_law_told","_law_found","_law_tells"] ["_law_script"] (aq QD):= .of
set_option genInjectivity false in
set_option genSizeOf false in
structure m9 where
 (dH gJ lH gH gI gF iI gO gn ly pJ sY Cj Cm MK zT wK AD za w4 wx zS lM rO B0 pG vc nC wU bX pk oA jm lr mP mU lK wO rM wV xr zE xn vp rp qg uT iZ tL rq xo iz qc uY sd jn m6 nQ dZ mZ Te bH fQ oZ fW gb fX jI fR fE p_ ax:Addr)
 (iw gf au aY:Addr)
 (jb ki uL kE kJ ka mL kl jA uW pq sJ Bw BO Mj Ao wM zD ze wN vN zw dJ rN Ci qd vg nT xj bZ o9 oI oG lI mY mC kY xH rF wI xa Aw xk uP rC xc uk lY tY rD xG kL pd uX rH ou mW uF dh mK Hw:FuncData)
structure Txt(K:Frag)(mg:Str→aI)(A:m9):Prop where
 fM:XI K mg "RoomError" A.bH A.dH A.bH
 f_:XI K mg "TooMany" A.fQ A.gJ A.bH
 EK:XI K mg "NoDeed" A.oZ A.lH A.bH
 eY:XI K mg "TooDeep" A.fW A.gH A.bH
 cY:XI K mg "TooWide" A.gb A.gI A.bH
 cL:XI K mg "TooLong" A.fX A.gF A.bH
 hJ:XI K mg "Twice" A.jI A.iI A.bH
 dy:XI K mg "NoLabel" A.fR A.gO A.bH
 eJ:XI K mg "NoMaking" A.fE A.gn A.bH
 Ec:XI K mg "NoText" A.p_ A.ly A.bH
 qq:mg "Program"=some (.ref A.ax)
 bG:SV K A.bH "__init__" A.dH
 pT:dv K A.fQ "many"
 LH:dv K A.oZ "found"
 oz:dv K A.fW "depth"
 pB:dv K A.gb "many"
 pY:dv K A.fX "many"
 rA:dv K A.jI "label"
 oH:dv K A.fR "label"
 mT:dv K A.fE "found"
 NU:dv K A.p_ "line"
 bt:MI K A.bH "__init__" "RoomError.__init__" i9 ["self","text"] A.dH A.jb
 jR:MI K A.fQ "__init__" "TooMany.__init__" kN ["self","many"] A.gJ A.ki
 HL:MI K A.oZ "__init__" "NoDeed.__init__" tJ ["self","found"] A.lH A.uL
 ku:MI K A.fW "__init__" "TooDeep.__init__" kr ["self","depth"] A.gH A.kE
 kR:MI K A.gb "__init__" "TooWide.__init__" jU ["self","many"] A.gI A.kJ
 j8:MI K A.fX "__init__" "TooLong.__init__" jZ ["self","many"] A.gF A.ka
 my:MI K A.jI "__init__" "Twice.__init__" mM ["self","label"] A.iI A.mL
 j6:MI K A.fR "__init__" "NoLabel.__init__" j9 ["self","label"] A.gO A.kl
 jB:MI K A.fE "__init__" "NoMaking.__init__" jz ["self","found"] A.gn A.jA
 HH:MI K A.p_ "__init__" "NoText.__init__" uB ["self","line"] A.ly A.uW
 gR:FI K mg "is_number" wZ ["thing"] A.pJ A.pq
 nR:FI K mg "is_whole" Ak ["thing","low","high"] A.sY A.sJ
 qB:FI K mg "is_name" Ca ["thing"] A.Cj A.Bw
 BQ:FI K mg "is_deed" Cp ["thing"] A.Cm A.BO
 GQ:FI K mg "fits" ME ["kind","thing"] A.MK A.Mj
 kI:FI K mg "parts_of" AM ["deed"] A.zT A.Ao
 fG:FI K mg "bodies_of" xl ["deed"] A.wK A.wM
 Az:FI K mg "names_of" Ab ["deed"] A.AD A.zD
 sQ:FI K mg "is_block" y0 ["deed"] A.za A.ze
 pO:FI K mg "want_body" xh ["thing"] A.w4 A.wN
 mS:FI K mg "many_in" Bz ["body"] A.wx A.vN
 sy:FI K mg "depth_of" Am ["body"] A.zS A.zw
 lu:FID K mg "rewritten" xq ["body","change","first"] A.lM A.dJ
 rZ:FI K mg "with_bodies" rG ["deed","change","first"] A.rO A.rN
 vZ:FI K mg "listing" BJ ["body","around"] A.B0 A.Ci
 lj:FI K mg "widest_of" xp ["body"] A.pG A.qd
 uv:FI K mg "choices_of" uQ ["deed"] A.vc A.vg
 jC:FI K mg "longest_of" tV ["body"] A.nC A.nT
 xu:FI K mg "length_of" xw ["deed"] A.wU A.xj
 c7:MI K A.ax "__init__" "Program.__init__" eG ["self","deeds"] A.bX A.bZ
 pK:MI K A.ax "told" "Program.told" pj ["self"] A.pk A.o9
 oC:MI K A.ax "deeds" "Program.deeds" oE ["self"] A.oA A.oI
 oq:MI K A.ax "names" "Program.names" jj ["self"] A.jm A.oG
 hW:MI K A.ax "makings" "Program.makings" kZ ["self"] A.lr A.lI
 fV:MI K A.ax "around" "Program.around" mX ["self","number"] A.mP A.mY
 mG:MI K A.ax "widest" "Program.widest" mN ["self"] A.mU A.mC
 lz:MI K A.ax "longest" "Program.longest" lG ["self"] A.lK A.kY
 w8:FI K mg "want_size" wJ ["body"] A.wO A.xH
 sf:FI K mg "want_labels" rK ["listed"] A.rM A.rF
 xg:FI K mg "want_runs" xD ["body"] A.wV A.wI
 pF:FI K mg "_law_cell" xm ["_law_script","_law_k"] A.xr A.xa
 sX:FI K mg "_law_box" AF ["_law_cell_here"] A.zE A.Aw
 aP:FI K mg "_law_take" wY ["_law_box_here","_law_many"] A.xn A.xk
 jG:FI K mg "_law_names" uw ["_law_box_here","_law_many"] A.vp A.uP
 rW:FI K mg "_law_simple" rS ["_law_box_here","_law_names_here","_law_around"] A.rp A.rC
 i6:FI K mg "_law_body" pf ["_law_box_here","_law_left","_law_names_here","_law_labels","_law_around","_law_room"] A.qg A.xc
 uN:FI K mg "_law_deeds" tR ["_law_box_here"] A.uT A.uk
 dR:FI K mg "_law_bodies" lT ["_law_deed"] A.iZ A.lY
 jH:FI K mg "_law_plain" u_ ["_law_body_here"] A.tL A.tY
 iY:FI K mg "_law_listed" rQ ["_law_body_here","_law_around","_law_down"] A.rq A.rD
 lN:FI K mg "_law_cost" w_ ["_law_body_here"] A.xo A.xG
 oU:FI K mg "_law_refusal" kO ["_law_body_here"] A.iz A.kL
 k_:FI K mg "_law_made" xF ["_law_call"] A.qc A.pd
 ib:FI K mg "_law_loose" tI ["_law_body_here"] A.uY A.uX
 ma:FI K mg "_law_spoilt" rJ ["_law_body_here"] A.sd A.rH
 oF:FI K mg "_law_names_in" jq ["_law_rows"] A.jn A.ou
 mH:FI K mg "_law_no_making" m7 ["_law_program_here","_law_thing"] A.m6 A.mW
 eD:FI K mg "_law_right" nK ["_law_program_here","_law_body_here"] A.nQ A.uF
 j_:FI K mg "_law_program" g7 ["_law_deeds_here"] A.dZ A.dh
 mO:FI K mg "_law_as_tuples" m4 ["_law_body_here","_law_due"] A.mZ A.mK
 Ul:FI K mg "law" QD ["_law_script"] A.Te A.Hw
 bw:He K A.ax
 qt:Mk K A.ax A.bX
 dU:dv K A.ax "body"
 cC:dv K A.ax "listed"
 sm:∃o,K.lookup sysModules=some o∧o.cls= .type "dict"
 iw:mg "BOUNDS"=some (.ref A.iw)
 gf:mg "FORMS"=some (.ref A.gf)
 qU:yY K A.bZ.code A.au
 xM:yY K A.dh.code A.aY
 bm:PK K mg
 X_:∀(s:Shared) (u:Value),BindsTo s A.Hw ⟨[u],[]⟩ [("_law_script",u)]
 CN:mg "ValueError"=none
 Tv:mg "all"=none
 LD:mg "bool"=none
 w6:mg "enumerate"=none
 Iz:mg "int"=none
 cS:mg "isinstance"=none
 gi:mg "len"=none
 AK:mg "list"=none
 wQ:mg "max"=none
 aap:mg "min"=none
 lO:mg "range"=none
 h_:mg "repr"=none
 QL:mg "str"=none
 M_:mg "sum"=none
 jP:mg "tuple"=none
 XX:mg "zip"=none
 Jy:∃u,RelV (V.str "abcdefghijklmnopqrstuvwxyz") u∧mg "LETTERS"=some u
 zF:∃u,RelV (V.int 4) u∧mg "MOST_CHOICES"=some u
 Dj:∃u,RelV (V.int 40) u∧mg "MOST_DEEDS"=some u
 DR:∃u,RelV (V.int 6) u∧mg "MOST_DEPTH"=some u
 AL:∃u,RelV (V.int 6) u∧mg "MOST_LETTERS"=some u
 C6:∃u,RelV (V.int 100) u∧mg "MOST_STEPS"=some u
 wW:∃u,RelV (V.str "ground") u∧mg "OUTERMOST"=some u
noncomputable def Kept(b:Addr)(H H' :Hp):Prop:=∀c o,c≠b→H c=some o→H' c=some o
variable{P:Program}{w:World}{K:Frag}{mg:Str→aI}{base:Heap}{A:m9}
noncomputable def Wq(K:Frag):Sp:=fun vs H Q _=>∃(a:Addr) (ns:List Int) (k:Int),vs=[.ref a,.int k]∧bF K H a (ns.map V.int)∧0≤k∧k<1000∧∀c,Q (.int c) H
theorem uq(T:Txt K mg A):aM P w K mg base cK 1 A.xr A.xa ["_law_script","_law_k"] (Wq K):=by
 refine T.pF.F.zk CB ?_
 rintro cj Ar outer s H vs Q E hr ⟨a,ns,k,rfl,hS,h0,h1,q⟩
 refine⟨_,(ag (bu (wp El (pv 1) (h8 aZ T.gi Boot.«len» (aH (pv 0)))) (ai (aF (cU a7 (pv 0) (pv 1)))) aV) (ai (aF (aO bz (aO l7 af (pv 1)) af)))),?_⟩;refine⟨_,rfl,_,rfl,a,_,rfl,.inl hS,k,_,rfl,rfl,_,rfl,?_⟩;refine sU (fun hk=> ?_) (fun hk=> ?_)
 ·have hk:=bQ hk;rw[aK] at hk;obtain⟨j,rfl⟩:∃j:Nat,k=j:=⟨k.toNat,by omega⟩;have hj:j<ns.length:=by omega
  exact⟨_,rfl,_,rfl,a,_,_,_,rfl,rfl,hS,bU (v:= .int ns[j]) (by simp[hj]),q _⟩
 ·exact⟨_,rfl,15485863,k,rfl,rfl,.inl ⟨by decide,by decide⟩,_,_,rfl,rfl,q _⟩
noncomputable def c9(H:Hp)(b:Addr)(k:Nat):Prop:=∃(x y z:Int),H b=some (.lst [.int x,.int y,.int z])∧0≤x∧0≤y∧y<2147483629∧0≤z∧z≤(k:Int)
noncomputable def Bh(b:Addr)(H H' :Hp):Prop:=∀c,c≠b→H' c=H c
theorem Bh.upd{b:Addr}{H:Hp}{o:HO}:Bh b H (upd H b o):=fun c hc=>av hc
theorem Bh.kept{b:Addr}{H H' :Hp}(h:Bh b H H'):Kept b H H' :=fun c o hc e=>(h c hc).trans e
theorem Kept.refl(b:Addr)(H:Hp):Kept b H H:=fun _ _ _ e=>e
theorem Kept.trans{b:Addr}{H H1 H2:Hp}(h:Kept b H H1)(h' :Kept b H1 H2):Kept b H H2:=fun c o hc e=>h' c o hc (h c o hc e)
theorem _root_.L2.aj.kept{b:Addr}{H H' :Hp}(h:aj H H'):Kept b H H' :=fun c o _ e=>h c o e
theorem c9.same{b:Addr}{k:Nat}{H H' :Hp}(B:c9 H b k)(h:aj H H'):c9 H' b k:=by
 obtain⟨x,y,z,hb,r⟩:=B;exact⟨x,y,z,h _ _ hb,r⟩
theorem c9.mono{b:Addr}{k j:Nat}{H:Hp}(B:c9 H b k)(h:k≤j):c9 H b j:=by
 obtain⟨x,y,z,hb,h1,h2,h3,h4,h5⟩:=B;exact⟨x,y,z,hb,h1,h2,h3,h4,by omega⟩
theorem c9.ne{b p:Addr}{k:Nat}{H:Hp}(B:c9 H b k)(h:H p=none):p≠b:=by
 obtain⟨x,y,z,hb,_⟩:=B;exact(aw hb h).symm
theorem gP{K:Frag}{H:Hp}{p:Addr}{xs:ak}{i:Int}{Q:VK}(Pv:V→Prop)(h:H p=some (.lst xs))(h0:0≤i)(h1:i<xs.length)(hP:∀x∈xs,Pv x)(q:∀v,Pv v→Q v H):VJ K (.ref p) (.int i) H Q:=by
 obtain⟨j,rfl⟩:∃j:Nat,i=j:=⟨i.toNat,by omega⟩;have hj:j<xs.length:=by omega
 exact⟨p,xs,j,xs[j],rfl,rfl,bF.of h,bU (by simp[hj]),q _ (hP _ (Dq hj))⟩
noncomputable def aad:Sp:=fun vs H Q _=>∃c,vs=[.int c]∧∀b H',H b=none→c9 H' b 0→aj H H'→Q (.ref b) H'
theorem xy(T:Txt K mg A):aM P w K mg base cK 1 A.zE A.Aw ["_law_cell_here"] aad:=by
 refine T.sX.F.zk ET ?_
 rintro cj Ar outer s H vs Q E hr ⟨c,rfl,q⟩
 refine⟨_,(ai (aF (bg (ae (h8 (jQ rfl) T.wQ Boot.«max» (ae af (aH (aO jV (pv 0) (aO wo af af))))) (ae (aO nM (pv 0) af) (aH af)))))),?_⟩;refine⟨_,rfl,10,18,rfl,rfl,⟨by decide,by decide,by decide⟩,c,_,rfl,rfl,0,_,rfl,?_⟩;refine⟨_,rfl,c,2147483629,rfl,rfl,(show(0:Int)<2147483629 by decide),AZ,fun p hp=> ?_⟩;refine q p _ hp ⟨_,_,0,aa,?_,?_,?_,by decide,by decide⟩ (aj.upd hp)
 ·split<;>omega
 ·omega
 ·omega
theorem VC{n:Int}(h0:0<n)(h:n<1606938044258990275541962092341162602522202993782792835301376):n.natAbs.log2<9000:=by
 have h1:n.natAbs≠0:=by omega
 have h2:n.natAbs<2 ^ 200:=by
  have e:(2:Nat) ^ 200=1606938044258990275541962092341162602522202993782792835301376:=by decide+kernel
  omega
 exact yk ((Nat.log2_lt h1).mpr h2) (by decide)
noncomputable def UO:Sp:=fun vs H Q _=>∃(b:Addr) (n:Int) (k:Nat),vs=[.ref b,.int n]∧c9 H b k∧k≤100000∧0<n∧n<1606938044258990275541962092341162602522202993782792835301376∧
 ∀(r:Int) (H' :Hp),0≤r→r<n→c9 H' b (k+1)→Bh b H H'→Q (.int r) H'
theorem aN(T:Txt K mg A):aM P w K mg base cK 1 A.xn A.xk ["_law_box_here","_law_many"] UO:=by
 refine T.aP.F.zk jM ?_
 rintro cj Ar outer s H vs Q E hr ⟨b,n,k,rfl,⟨x,y,z,hb,hx,hy,hy2,hz,BZ⟩,hk,hn,WT,q⟩
 refine⟨_,(ag (bu (wp r_ (cU a7 (pv 0) af) af) (ag (eU 2 jM.nd (aO nM (cU a7 (pv 0) af) (pv 1))) (ag (vQ (aO FA (cU a7 (pv 0) af) (pv 1)) (GF (pv 0) af jae)) (ai (aF (pv 2))))) aV) (ag (vQ (aO bz (cU a7 (pv 0) af) af) (GF (pv 0) af jae)) (ag (eU 3 jM.nd (aO nM (aO wo (aO bz (aO bz (cU a7 (pv 0) af) (aO l7 af (cU a7 (pv 0) af))) af) af) af)) (ag (eU 3 jM.nd (aO nM (aO wo (aO bz (pv 3) (aO l7 af (cU a7 (pv 0) af))) af) af)) (ai (aF (aO nM (aO FA (pv 3) af) (pv 1)))))))),?_⟩;refine⟨_,rfl,b,_,_,_,rfl,rfl,bF.of hb,rfl,_,_,rfl,rfl,_,rfl,?_⟩;refine sU (fun h0=> ?_) (fun h0=> ?_)
 ·refine⟨_,rfl,b,_,_,_,rfl,rfl,bF.of hb,rfl,_,rfl,x,n,rfl,rfl,hn,?_⟩;refine⟨_,rfl,b,_,_,_,rfl,rfl,bF.of hb,rfl,_,rfl,x,n,rfl,rfl,⟨hn,VC hn WT⟩,?_⟩;refine⟨_,rfl,b,_,0,0,rfl,rfl,hb,rfl,?_⟩;refine⟨_,rfl,q _ _ (nJ _ (by omega)) (qo _ hn) ⟨_,y,z,aa,Int.ediv_nonneg hx (by omega),hy,hy2,hz,by omega⟩ Bh.upd⟩
 ·refine⟨_,rfl,b,_,_,_,rfl,rfl,bF.of hb,rfl,z,1,rfl,rfl,?_⟩;refine⟨_,rfl,b,_,2,2,rfl,rfl,hb,rfl,?_⟩;have Fq :upd H b (.lst [.int x,.int y,.int (z+1)]) b=some (.lst [.int x,.int y,.int (z+1)]):=aa;refine⟨_,rfl,b,_,_,_,rfl,rfl,bF.of Fq,rfl,_,rfl,b,_,_,_,rfl,rfl,bF.of Fq,rfl,48271,z+1,rfl,rfl,.inl ⟨by decide,by decide⟩,y,_,rfl,rfl,_,13,rfl,rfl,_,5,rfl,rfl,⟨by decide,by decide,?_⟩,_,2147483647,rfl,rfl,(show(0:Int)<2147483647 by decide),?_⟩
  ·omega
  dsimp only;generalize e1:(y+48271*(z+1)+13) ^ (5:Int).toNat % 2147483647=one;have b1:0≤one:=by rw[←e1];exact nJ _ (by decide)
  have b2:one<2147483647:=by rw[←e1];exact qo _ (by decide)
  refine⟨_,rfl,_,rfl,b,_,_,_,rfl,rfl,bF.of Fq,rfl,7919,z+1,rfl,rfl,.inl ⟨by decide,by decide⟩,one,_,rfl,rfl,_,3,rfl,rfl,⟨by decide,by decide,?_⟩,_,2147483629,rfl,rfl,(show(0:Int)<2147483629 by decide),?_⟩
  ·omega
  dsimp only;generalize e2:(one+7919*(z+1)) ^ (3:Int).toNat % 2147483629=other;have b3:0≤other:=by rw[←e2];exact nJ _ (by decide)
  refine⟨_,rfl,other,8,rfl,rfl,⟨by decide,by decide⟩,_,rfl,_,n,rfl,rfl,hn,?_⟩;exact q _ _ (nJ _ (by omega)) (qo _ hn) ⟨x,y,z+1,aa,hx,hy,hy2,by omega,by omega⟩ Bh.upd
noncomputable def gy(c:Nat):Bool:=decide (97≤c)&&decide (c≤122)
noncomputable def bB(x:Str):Bool:=decide (1≤x.length)&&decide (x.length≤6)&&x.cps.toList.all gy
theorem Ko(c:Nat):(!(Builtin.Str.occurrences ("abcdefghijklmnopqrstuvwxyz" :Str) ⟨#[c]⟩ 0 ("abcdefghijklmnopqrstuvwxyz" :Str).length 1).isEmpty)=gy c:=by
 rw[PySem.StrLaws.found_one];have e:("abcdefghijklmnopqrstuvwxyz" :Str).cps.toList=(List.range 26).map (· +97):=by decide+kernel
 rw[e,me,nF,fh];unfold gy;rw[gL,nF,nF];constructor
 ·rintro ⟨i,hi,rfl⟩
  have:=iA.mp hi;omega
 ·rintro ⟨h1,h2⟩
  exact⟨c - 97,iA.mpr (by omega),by omega⟩
noncomputable def UU:Sp:=fun vs H Q _=>∃x:Str,vs=[.str x]∧bB x=true∧∀H',aj H H'→Q (.bl true) H'
theorem sT(T:Txt K mg A):aM P w K mg base cK 1 A.Cj A.Bw ["thing"] UU:=by
 refine T.qB.F.zk Gm ?_
 rintro cj Ar outer s H vs Q E hr ⟨x,rfl,p,k⟩
 obtain⟨u1,Bx⟩:=T.Jy;obtain⟨u2,o8⟩:=T.AL;unfold bB at p;rw[gL,gL,nF,nF] at p;obtain⟨⟨h1,h6⟩,GS⟩:=p;refine⟨_,(ag (bu (kK (iN (h8 eB T.cS Boot.«isinstance» (ae (pv 0) (aH (iV (v:= .ty "str") rfl T.QL Boot.«str» rfl)))))) (ai (aF lE)) aV) (ai (aF (nZ (y_ BU BU af (h8 uo T.gi Boot.«len» (aH (pv 0))) (fi rfl o8.2 o8.1)) (lQ (h8 (EI rfl) T.Tv Boot.«all» (aH (F1 ["sign"] 1 [] (WQ (pv 0) rfl) (fun _ _ _ _ _=>⟨(fO 0 (show(["sign"]:ao).Nodup by decide+kernel)),uS,(KZ JT (pv 0) (fi rfl Bx.2 Bx.1))⟩))))))))),?_⟩;refine⟨_,rfl,_,_,_,_,rfl,.str x,rfl,_,rfl,cA ?_⟩;refine⟨_,rfl,x,rfl,aR h6 (by decide),1,x.length,rfl,rfl,_,rfl,?_⟩;rw[aS (show(1:Int)≤(x.length:Int) by omega)];refine dG ⟨x.length,6,rfl,rfl,_,rfl,?_⟩;rw[aS (show(x.length:Int)≤6 by omega)];refine dG ⟨_,rfl,x,rfl,?_⟩;refine qm (fun _=>true) (fun v=>match v with| .str z=> .bl (gy (z.cps.getD 0 0))|_=> .bx) (Js x H) ?_ ?_ fun p hp=> ?_
 ·simp;exact aR h6 (by decide)
 ·intro i y H' C1 C0 hy sm c1 c0;rw[bj] at hy
  cases ec:x.cps.toList[i]? with
  |none=>rw[ec] at hy;cases hy
  |some c=>
   rw[ec] at hy;cases hy;refine⟨(fz.refl _).own (by decide),⟨_,rfl,_,_,rfl,rfl,?_⟩⟩;rw[Ko];exact c1 rfl
 ·refine⟨p,x.cps.toList.map gy,rfl,?_,?_⟩
  ·rw[aa,ji.mpr (fun _ _=>rfl),iL,iL];rfl
  ·rw[yi];rw[show(x.cps.toList.all (id ∘ gy))=true from GS];exact k _ (aj.upd hp)
mutual
inductive Dd where
 |mk (w:Str) (ps:List PyData) (bs:Bs)
inductive Ds where
 |nil
 |cons (d:Dd) (r:Ds)
inductive Bs where
 |nil
 |cons (t:Bool) (b:Ds) (r:Bs)
end
noncomputable def gg(t:Bool)(xs:List PyData):PyData:=if t then .tuple xs else .list xs
mutual
noncomputable def dD:Dd→PyData
 | .mk w ps bs=> .tuple (.str w::(ps++bL bs))
noncomputable def sL:Ds→List PyData
 | .nil=>[]
 | .cons d r=>dD d::sL r
noncomputable def bL:Bs→List PyData
 | .nil=>[]
 | .cons t b r=>gg t (sL b)::bL r
end
mutual
noncomputable def lq:Dd→Nat
 | .mk _ _ bs=>l_ bs
noncomputable def cM:Ds→Nat
 | .nil=>0
 | .cons d r=>max (lq d) (cM r)
noncomputable def l_:Bs→Nat
 | .nil=>0
 | .cons _ b r=>max (cM b+1) (l_ r)
end
noncomputable def Ds.l:Ds→List Dd
 | .nil=>[]
 | .cons d r=>d::r.l
noncomputable def Bs.l:Bs→List (Bool×Ds)
 | .nil=>[]
 | .cons t b r=>(t,b)::r.l
noncomputable def Dd.wd:Dd→Str| .mk w _ _=>w
noncomputable def Dd.ps:Dd→List PyData| .mk _ ps _=>ps
noncomputable def Dd.bs:Dd→Bs| .mk _ _ bs=>bs
noncomputable def dg:List (Str×ao):=[("make",["name","size","mark"]),("put",["name","cell","name"]),("get",["name","name","cell"]),("set",["name","value"]),("copy",["name","name"]),("more",["name","name","number"]),("tell",["name"]),("same",["name","name"]),("frame",["label","body"]),("turns",["label","many","times","body"]),("either",["body","body"])]
noncomputable def Gs:List (Str×Int×Int):=[("size",1,6),("cell",0,5),("many",1,3),("times",0,4)]
inductive tE:Str→PyData→Prop
 |name (x:Str) (h:bB x=true):tE "name" (.str x)
 |label (x:Str) (h:bB x=true) (n:x≠ "ground"):tE "label" (.str x)
 |HE:tE "mark" .none
 |mark (x:Str) (h:bB x=true):tE "mark" (.str x)
 |Gj:tE "value" .none
 |value (i:Int) (h:i.natAbs<10 ^ 40):tE "value" (.int i)
 |number (i:Int) (h:i.natAbs<10 ^ 40):tE "number" (.int i)
 |num (k:Str) (lo hi i:Int) (h:(k,lo,hi)∈Gs) (h1:lo≤i) (h2:i≤hi):tE k (.int i)
inductive eM:ao→List PyData→Prop
 |nil:eM [] []
 |cons {k:Str} {d:PyData} {ks:ao} {ds:List PyData} (h:tE k d) (t:eM ks ds):eM (k::ks) (d::ds)
mutual
noncomputable def ip:Dd→Prop
 | .mk w ps bs=>(∃ks:ao,(w,ks++List.replicate bs.l.length ("body" :Str))∈dg∧eM ks ps)∧mw bs
noncomputable def gw:Ds→Prop
 | .nil=>True
 | .cons d r=>ip d∧gw r
noncomputable def mw:Bs→Prop
 | .nil=>True
 | .cons _ b r=>gw b∧mw r
end
theorem Cr:∀s:Ds,sL s=s.l.map dD
 | .nil=>by rw[sL];rfl
 | .cons d r=>by rw[sL,Cr r];rfl
theorem zc:∀b:Bs,bL b=b.l.map fun p=>gg p.1 (sL p.2)
 | .nil=>by rw[bL];rfl
 | .cons t b r=>by rw[bL,zc r];rfl
theorem eE:∀{s:Ds},gw s→∀d∈s.l,ip d
 | .nil,_,d,h=>by cases h
 | .cons e r,h,d,hd=>by
  rw[gw] at h;rcases aU.mp hd with rfl|hd
  ·exact h.1
  ·exact eE h.2 d hd
theorem fu:∀{b:Bs},mw b→∀p∈b.l,gw p.2
 | .nil,_,p,h=>by cases h
 | .cons t b r,h,p,hp=>by
  rw[mw] at h;rcases aU.mp hp with rfl|hp
  ·exact h.1
  ·exact fu h.2 p hp
theorem eT:∀{s:Ds},∀d∈s.l,lq d≤cM s
 | .nil,d,h=>by cases h
 | .cons e r,d,hd=>by
  rw[cM];rcases aU.mp hd with rfl|hd
  ·exact yS _ _
  ·exact aR (eT d hd) (yq _ _)
theorem fk:∀{b:Bs},∀p∈b.l,cM p.2+1≤l_ b
 | .nil,p,h=>by cases h
 | .cons t b r,p,hp=>by
  rw[l_];rcases aU.mp hp with rfl|hp
  ·exact yS _ _
  ·exact aR (fk p hp) (yq _ _)
theorem eQ{H:Hp}:∀{xs:ak} {ds:List PyData},DatAll H xs ds→xs.length=ds.length
 |_,_,.nil=>rfl
 |_,_,.cons _ t=>by rw[aW,aW,eQ t]
theorem nv{H:Hp}:∀{ds es:List PyData} {zs:ak},DatAll H zs (ds++es)→∃xs ys,zs=xs++ys∧DatAll H xs ds∧DatAll H ys es
 |[],es,zs,h=>⟨[],zs,rfl,.nil,h⟩
 |d::ds,es,_,.cons h t=>by
  obtain⟨xs,ys,rfl,h1,h2⟩:=nv t;exact⟨_::xs,ys,rfl,.cons h h1,h2⟩
theorem nA{H:Hp}:∀{xs ys:ak} {ds es:List PyData},DatAll H xs ds→DatAll H ys es→DatAll H (xs++ys) (ds++es)
 |_,_,_,_,.nil,h=>h
 |_,_,_,_,.cons a t,h=> .cons a (nA t h)
theorem fD{H:Hp}:∀{xs:ak} {ds:List PyData},DatAll H xs ds→∀(i:Nat) v,xs[i]? =some v→∃d,ds[i]? =some d∧Dat H v d
 |_,_,.nil,i,v,e=>by cases e
 |_,_,.cons h t,0,v,e=>by cases e;exact⟨_,rfl,h⟩
 |_,_,.cons h t,i+1,v,e=>by
  obtain⟨d,e',hd⟩:=fD t i v (by simpa using e);exact⟨d,by simpa using e',hd⟩
theorem fT{H:Hp}{v:V}{t:Bool}{ds:List PyData}(h:Dat H v (gg t ds)):∃a vs,v= .ref a∧H a=some (Jo t vs)∧DatAll H vs ds:=by
 cases t with
 |false=>cases h with|lst e h=>exact⟨_,_,rfl,e,h⟩
 |true=>cases h with|tup e h=>exact⟨_,_,rfl,e,h⟩
theorem Nn{H:Hp}{v:V}{d:Dd}(h:Dat H v (dD d)):∃a xs ys,v= .ref a∧H a=some (.tup (.str d.wd::(xs++ys)))∧DatAll H xs d.ps∧DatAll H ys (bL d.bs):=by
 cases d with
 |mk w ps bs=>
  rw[dD] at h
  cases h with
  |tup e h=>
   cases h with
   |cons h t=>
    cases h;obtain⟨xs,ys,rfl,h1,h2⟩:=nv t;exact⟨_,xs,ys,rfl,e,h1,h2⟩
structure Frm where
 kF:dE
 kB:dE
structure rT(P:Program)(w:World)(K:Frag)(A:m9)(fm:Frm):Prop where
 IQ:zI P w K A.gf fm.kF
 Lm:zI P w K A.iw fm.kB
 f:∀p∈dg,∃t,jo fm.kF (.inr p.1)=some (.ref t)∧∀H,bc K H t (p.2.map V.str)
 df:∃u,RelV (.int 0) u∧Binds K A.dJ ["body","change","first"] [u]
 b:∀p∈Gs,∃t,jo fm.kB (.inr p.1)=some (.ref t)∧∀H,bc K H t [.int p.2.1,.int p.2.2]
variable{fm:Frm}
noncomputable def Lo:Sp:=fun vs H Q _=>∃i:Int,vs=[.int i]∧Q (.bl true) H
theorem nu(T:Txt K mg A):aM P w K mg base cK 1 A.pJ A.pq ["thing"] Lo:=by
 refine T.gR.F.zk vq ?_
 rintro cj Ar outer s H vs Q E hr ⟨i,rfl,q⟩
 refine⟨_,(ai (aF (nZ (h8 eB T.cS Boot.«isinstance» (ae (pv 0) (aH (iV (v:= .ty "int") rfl T.Iz Boot.«int» rfl)))) (lQ (Mx (h8 eB T.cS Boot.«isinstance» (ae (pv 0) (aH (iV (v:= .ty "bool") rfl T.LD Boot.«bool» rfl))))))))),?_⟩;refine⟨_,rfl,_,_,_,_,rfl,.int i,rfl,_,rfl,dG ⟨_,rfl,_,_,_,_,rfl,.int i,rfl,_,rfl,q⟩⟩
noncomputable def OS:Sp:=fun vs H Q _=>∃i lo hi:Int,vs=[.int i,.int lo,.int hi]∧Q (.bl (decide (lo≤i)&&decide (i≤hi))) H
theorem E3(T:Txt K mg A):aM P w K mg base cK 2 A.sY A.sJ ["thing","low","high"] OS:=by
 refine T.nR.F.zk wX ?_
 rintro cj Ar outer s H vs Q E hr ⟨i,lo,hi,rfl,q⟩
 refine⟨_,(ai (aF (nZ (cn (nu T) hr T.gR az (aH (pv 0))) (lQ (y_ BU BU (pv 1) (pv 0) (pv 2)))))),?_⟩;refine⟨_,rfl,i,rfl,_,rfl,dG ⟨_,rfl,_,rfl,lo,i,rfl,rfl,_,rfl,?_⟩⟩;by_cases h1:lo≤i
 ·rw[aS h1] at q ⊢;exact dG ⟨_,rfl,i,hi,rfl,rfl,by simpa using q⟩
 ·rw[br h1] at q ⊢;exact cA (by simpa using q)
noncomputable def Qg:Sp:=fun vs H Q _=>∃a w ks xs,vs=[.ref a]∧H a=some (.tup (.str w::xs))∧(w,ks)∈dg∧ks.length=xs.length∧
 ∀l zs H',H l=none→aj H H'→H' l=some (.lst zs)→Bo H' zs (ks.map V.str) xs→Q (.ref l) H'
theorem aeV(x:V)(xs:ak):bY (x::xs) (some 1) none=xs:=by
 unfold bY;rw[show HT.iB (x::xs).length 0 (some 1)=min 1 (xs.length+1) from HT.jJ _ _ 1,HT.An,show min 1 (xs.length+1)=1 by lia];show xs.take (xs.length+1 - 1)=xs;exact sH (by lia)
theorem l5(x:V)(xs:ak):TQ (x::xs) 0=some x:=bU (xs:=x::xs) (j:=0) rfl
theorem lD(T:Txt K mg A)(Fm:rT P w K A fm):aM P w K mg base cK 1 A.zT A.Ao ["deed"] Qg:=by
 refine T.kI.F.zk Et ?_
 rintro cj Ar outer s H vs Q E hr ⟨a,w,ks,xs,rfl,ha,hf,hl,q⟩
 obtain⟨t,hv,ht⟩:=Fm.f _ hf;refine⟨_,(ai (aF (Gf rfl rfl T.AK rfl T.XX (ae (pS Fm.IQ (fi (v:= .ref A.gf) rfl T.gf rfl) (cU aX (pv 0) af)) (aH (c5 lS (pv 0) (cE af) gA)))))),?_⟩;refine⟨_,rfl,a,_,0,_,rfl,rfl,bc.of ha,l5 _ _,.inr w,_,rfl,rfl,hv,_,rfl,_,rfl,a,_,rfl,bc.of ha,?_,fun p hp=> ?_⟩
 ·rintro ⟨z,_⟩
  rw[show HT.iB _ 0 (some 1)=min 1 _ from HT.jJ _ _ 1] at z;simp only[aW] at z
  lia
 ·rw[aeV];refine⟨t,p,_,_,rfl,ht _,bc.of aa,by rw[aK];exact hl,fun l zs H' h1 h2 h3 h4=> ?_⟩;exact q l zs H' ((aj.upd hp).free h1) ((aj.upd hp).trans h2) h3 h4
theorem eqT{A B:Prop}{x:V}(h:A):if decide (x=x)=true then A else B:=by
 rw[aA (aS rfl)];exact h
theorem iH{A B:Prop}{x y:V}(n:x≠y)(h:B):if decide (x=y)=true then A else B:=by
 rw[ay (fun z=>n (bQ z))];exact h
theorem c6{x y:Str}(h:x≠y):V.str x≠V.str y:=fun z=>h (V.str.inj z)
theorem iJ{k y:Str}{lo hi:Int}(h:(k,lo,hi)∈Gs)(n:(Gs.all fun p=>decide (p.1≠y))=true):V.str k≠V.str y:=c6 (bQ (c_.mp n _ h))
noncomputable def aaI(H:Hp)(k:Str)(v:V):Prop:=(∃d,tE k d∧Dat H v d)∨(k="body" ∧∃a t xs,v= .ref a∧H a=some (Jo t xs))
noncomputable def UA:Sp:=fun vs H Q _=>∃k v,vs=[.str k,v]∧aaI H k v∧∀H',aj H H'→Q (.bl true) H'
theorem HQ(T:Txt K mg A)(Fm:rT P w K A fm):aM P w K mg base cK 3 A.MK A.Mj ["kind","thing"] UA:=by
 refine T.GQ.F.zk Qj ?_
 rintro cj Ar outer s H vs Q E hr ⟨k,v,rfl,hf,q⟩
 obtain⟨u1,ja⟩:=T.wW;refine⟨_,(ag (bu (wp dM (pv 0) aB) (ai (aF (cn (sT T) hr T.qB az (aH (pv 1))))) aV) (ag (bu (wp dM (pv 0) aB) (ai (aF (nZ (cn (sT T) hr T.qB az (aH (pv 1))) (lQ (KZ oV (pv 1) (fi rfl ja.2 ja.1)))))) aV) (ag (bu (wp dM (pv 0) aB) (ai (aF (Q7 (KZ M4 (pv 1) g_) (lQ (cn (sT T) hr T.qB az (aH (pv 1))))))) aV) (ag (bu (wp dM (pv 0) aB) (ai (aF (Q7 (KZ M4 (pv 1) g_) (lQ (cn (nu T) hr T.gR az (aH (pv 1))))))) aV) (ag (bu (wp dM (pv 0) aB) (ai (aF (cn (nu T) hr T.gR az (aH (pv 1))))) aV) (ag (bu (wp dM (pv 0) aB) (ai (aF (h8 Bi T.cS Boot.«isinstance» (ae (pv 1) (aH (a9 (ae (iV (v:= .ty "list") rfl T.AK Boot.«list» rfl) (aH (iV (v:= .ty "tuple") rfl T.jP Boot.«tuple» rfl))))))))) aV) (ai (aF (cn (E3 T) hr T.nR az (ae (pv 1) (ae (cU aX (pS Fm.Lm (fi (v:= .ref A.iw) rfl T.iw rfl) (pv 0)) af) (aH (cU aX (pS Fm.Lm (fi (v:= .ref A.iw) rfl T.iw rfl) (pv 0)) af))))))))))))),?_⟩;have q0:=q H (aj.refl H);rcases hf with⟨d,hf,hd⟩|⟨rfl,a,t,xs,rfl,ha⟩
 ·cases hf with
  |name x h=>
   cases hd;exact⟨_,rfl,rfl,_,rfl,eqT ⟨_,rfl,x,rfl,h,q⟩⟩
  |label x h n=>
   cases hd;refine⟨_,rfl,rfl,_,rfl,iH (by decide+kernel) ⟨_,rfl,rfl,_,rfl,eqT ⟨_,rfl,x,rfl,h,fun H' s=>⟨_,rfl,dG ⟨_,rfl,rfl,?_⟩⟩⟩⟩⟩;rw[br (c6 n)];exact q H' s
  |HE=>
   cases hd;exact⟨_,rfl,rfl,_,rfl,iH (by decide+kernel) ⟨_,rfl,rfl,_,rfl,iH (by decide+kernel) ⟨_,rfl,rfl,_,rfl,eqT ⟨_,rfl,rfl,_,rfl,dG q0⟩⟩⟩⟩
  |mark x h=>
   cases hd;exact⟨_,rfl,rfl,_,rfl,iH (by decide+kernel) ⟨_,rfl,rfl,_,rfl,iH (by decide+kernel) ⟨_,rfl,rfl,_,rfl,eqT ⟨_,rfl,rfl,_,rfl,iH (fun z=>nomatch z) ⟨_,rfl,x,rfl,h,q⟩⟩⟩⟩⟩
  |Gj=>
   cases hd;exact⟨_,rfl,rfl,_,rfl,iH (by decide+kernel) ⟨_,rfl,rfl,_,rfl,iH (by decide+kernel) ⟨_,rfl,rfl,_,rfl,iH (by decide+kernel) ⟨_,rfl,rfl,_,rfl,eqT ⟨_,rfl,rfl,_,rfl,dG q0⟩⟩⟩⟩⟩
  |value i h=>
   cases hd;exact⟨_,rfl,rfl,_,rfl,iH (by decide+kernel) ⟨_,rfl,rfl,_,rfl,iH (by decide+kernel) ⟨_,rfl,rfl,_,rfl,iH (by decide+kernel) ⟨_,rfl,rfl,_,rfl,eqT ⟨_,rfl,rfl,_,rfl,iH (fun z=>nomatch z) ⟨_,rfl,i,rfl,q0⟩⟩⟩⟩⟩⟩
  |number i h=>
   cases hd;exact⟨_,rfl,rfl,_,rfl,iH (by decide+kernel) ⟨_,rfl,rfl,_,rfl,iH (by decide+kernel) ⟨_,rfl,rfl,_,rfl,iH (by decide+kernel) ⟨_,rfl,rfl,_,rfl,iH (by decide+kernel) ⟨_,rfl,rfl,_,rfl,eqT ⟨_,rfl,i,rfl,q0⟩⟩⟩⟩⟩⟩
  |num k lo hi i h h1 h2=>
   cases hd;obtain⟨t,e1,e2⟩:=Fm.b _ h;refine⟨_,rfl,rfl,_,rfl,iH (iJ h (by decide+kernel)) ⟨_,rfl,rfl,_,rfl,iH (iJ h (by decide+kernel)) ⟨_,rfl,rfl,_,rfl,iH (iJ h (by decide+kernel)) ⟨_,rfl,rfl,_,rfl,iH (iJ h (by decide+kernel)) ⟨_,rfl,rfl,_,rfl,iH (iJ h (by decide+kernel)) ⟨_,rfl,rfl,_,rfl,iH (iJ h (by decide+kernel)) ?_⟩⟩⟩⟩⟩⟩;refine⟨_,rfl,_,rfl,.inr k,_,rfl,rfl,e1,t,_,0,_,rfl,rfl,e2 _,rfl,_,rfl,.inr k,_,rfl,rfl,e1,t,_,1,_,rfl,rfl,e2 _,rfl,i,_,_,rfl,?_⟩;rw[aS h1,aS h2];exact q0
 ·refine⟨_,rfl,rfl,_,rfl,iH (by decide+kernel) ⟨_,rfl,rfl,_,rfl,iH (by decide+kernel) ⟨_,rfl,rfl,_,rfl,iH (by decide+kernel) ⟨_,rfl,rfl,_,rfl,iH (by decide+kernel) ⟨_,rfl,rfl,_,rfl,iH (by decide+kernel) ⟨_,rfl,rfl,_,rfl,eqT ?_⟩⟩⟩⟩⟩⟩;refine⟨_,rfl,fw,fun p hp=> ?_⟩;have s1:=aj.upd (o:= .tup [V.ty "list",V.ty "tuple"]) hp;refine⟨a,p,rfl,?_,aa,q _ s1⟩;have Dk :=s1 _ _ ha
  cases t with
  |false=>exact .inl ⟨_,Dk⟩
  |true=>exact .inr ⟨_,Dk⟩
noncomputable def pC(ok:Hp→Dd→V→Hp→VK→Prop):Sp:=fun vs H Q _=>∃H0 v d,vs=[v]∧aj H0 H∧Dat H0 v (dD d)∧ip d∧ok H0 d v H Q
theorem Hg{k:Str}{d:PyData}(h:tE k d):k≠ "body":=by
 cases h with
 |num k lo hi i h=>
  intro z;subst z;exact iJ h (by decide+kernel) rfl
 |_=>decide+kernel
theorem nq{ks:ao}{ds:List PyData}(h:eM ks ds):ks.length=ds.length:=by
 induction h with
 |nil=>rfl
 |cons _ _ ih=>rw[aW,aW,ih]
theorem kg{ks:ao}{ds:List PyData}(h:eM ks ds):∀(i:Nat) k d,ks[i]? =some k→ds[i]? =some d→tE k d:=by
 induction h with
 |nil=>intro i k d e;cases e
 |cons h t ih=>
  intro i k d e1 e2
  cases i with
  |zero=>cases e1;cases e2;exact h
  |succ i=>exact ih i k d (by simpa using e1) (by simpa using e2)
structure gh(H:Hp)(d:Dd)(a:Addr)(ks:ao)(xs ys:ak):Prop where
 e:H a=some (.tup (.str d.wd::(xs++ys)))
 hx:DatAll H xs d.ps
 hy:DatAll H ys (bL d.bs)
 f:(d.wd,ks++List.replicate ys.length ("body" :Str))∈dg
 fit:eM ks d.ps
theorem cG{H:Hp}{v:V}{d:Dd}(h:Dat H v (dD d))(ok:ip d):∃a ks xs ys,v= .ref a∧gh H d a ks xs ys:=by
 obtain⟨a,xs,ys,rfl,e,h1,h2⟩:=Nn h
 cases d with
 |mk w ps bs=>
  rw[ip] at ok;obtain⟨⟨ks,f,fit⟩,_⟩:=ok
  have hl:ys.length=bs.l.length:=by
   rw[eQ h2,show Dd.bs (.mk w ps bs)=bs from rfl,zc,aK]
  exact⟨a,ks,xs,ys,rfl,e,h1,h2,by rw[hl];exact f,fit⟩
theorem gh.same{H H' :Hp}{d:Dd}{a:Addr}{ks:ao}{xs ys:ak}(p:gh H d a ks xs ys)(s:aj H H'):gh H' d a ks xs ys:=⟨s _ _ p.e,DatAll.same s p.hx,DatAll.same s p.hy,p.f,p.fit⟩
theorem gh.lx{H:Hp}{d:Dd}{a:Addr}{ks:ao}{xs ys:ak}(p:gh H d a ks xs ys):ks.length=xs.length:=by rw[nq p.fit,eQ p.hx]
theorem gh.len{H:Hp}{d:Dd}{a:Addr}{ks:ao}{xs ys:ak}(p:gh H d a ks xs ys):(ks++List.replicate ys.length ("body" :Str)).length=(xs++ys).length:=by
 rw[ba,ba,gN,p.lx]
theorem gh.fits{H:Hp}{d:Dd}{a:Addr}{ks:ao}{xs ys:ak}(p:gh H d a ks xs ys)(i:Nat)(k:Str)(v:V)(h1:(ks++List.replicate ys.length ("body" :Str))[i]? =some k)(h2:(xs++ys)[i]? =some v):aaI H k v:=by
 have hl:=p.lx;by_cases hi:i<xs.length
 ·rw[dP (by lia)] at h1;rw[dP hi] at h2;obtain⟨d',e,hd⟩:=fD p.hx i v h2;exact .inl ⟨d',kg p.fit i k d' h1 e,hd⟩
 ·rw[gM (by lia)] at h1 h2;rw[si] at h1
  split at h1
  ·cases h1;obtain⟨d',e,hd⟩:=fD p.hy _ v h2;rw[zc,bj] at e
   cases eb:d.bs.l[i - xs.length]? with
   |none=>rw[eb] at e;cases e
   |some b=>
    rw[eb] at e;cases e;obtain⟨a',vs,rfl,ea,_⟩:=fT hd;exact .inr ⟨rfl,a',b.1,vs,rfl,ea⟩
  ·cases h1
theorem _root_.L2.Bo.same{H H' :Hp}{zs xs ys:ak}(z:Bo H zs xs ys)(s:aj H H'):Bo H' zs xs ys:=⟨z.len,fun j x y e1 e2=>by
 obtain⟨t,e3,e4⟩:=z.at_ j x y e1 e2;exact⟨t,e3,s _ _ e4⟩⟩
theorem jac{H:Hp}{zs xs ys:ak}(z:Bo H zs xs ys)(hl:xs.length=ys.length){i:Nat}{v:V}(e:zs[i]? =some v):∃t x y,v= .ref t∧H t=some (.tup [x,y])∧xs[i]? =some x∧ys[i]? =some y:=by
 have hi:=(dq.mp e).1;have hz:=z.len;have e1:xs[i]? =some xs[i]:=by simp
 have e2:ys[i]? =some ys[i]:=by simp
 obtain⟨t,e3,e4⟩:=z.at_ i _ _ e1 e2;rw[e] at e3;cases e3;exact⟨t,_,_,rfl,e4,e1,e2⟩
theorem dz{w:Str}{ks:ao}(h:(w,ks)∈dg):ks.length≤4:=bQ (c_.mp (show(dg.all fun p=>decide (p.2.length≤4))=true by decide+kernel) _ h)
noncomputable def MY:Sp:=pC fun _ d v H Q=>∀H',aj H H'→Q (.bl true) H'
theorem Hc(T:Txt K mg A)(Fm:rT P w K A fm):aM P w K mg base cK 4 A.Cm A.BO ["thing"] MY:=by
 refine T.BQ.F.zk Gu ?_
 rintro cj Ar outer s H vs Q E hr ⟨H0,v,d,rfl,ju,hd,ok,q⟩
 obtain⟨a,ks,xs,ys,rfl,p0⟩:=cG hd ok;have p:=p0.same ju;obtain⟨t,hv,ht⟩:=Fm.f _ p.f;refine⟨_,(ag (bu (PW.pt (XV (kK (iN (h8 eB T.cS Boot.«isinstance» (ae (pv 0) (aH (iV (v:= .ty "tuple") rfl T.jP Boot.«tuple» rfl)))))) (XV (kK (LM (pv 0) (fun _=>rfl))) (WP (kK (iN (h8 eB T.cS Boot.«isinstance» (ae (cU aX (pv 0) af) (aH (iV (v:= .ty "str") rfl T.QL Boot.«str» rfl)))))))))) (ai (aF lE)) aV) (ag (bu (PW.pt (XV (Wa (Gb Fm.IQ (cU aX (pv 0) af) (fi (v:= .ref A.gf) rfl T.gf rfl))) (WP (wp oV (h8 aZ T.gi Boot.«len» (aH (pv 0))) (aO bz af (h8 aZ T.gi Boot.«len» (aH (pS Fm.IQ (fi (v:= .ref A.gf) rfl T.gf rfl) (cU aX (pv 0) af))))))))) (ai (aF lE)) aV) (ai (aF (h8 (EI rfl) T.Tv Boot.«all» (aH (F1 ["kind","part"] 2 [] (cz (cn (lD T Fm) hr T.kI az (aH (pv 0)))) (fun _ _ _ _ _=>⟨(uA (K:=K) (n:=2) rfl rfl (a_ (fO 0 (show(["kind","part"]:ao).Nodup by decide+kernel)) (a_ (fO 1 (show(["kind","part"]:ao).Nodup by decide+kernel)) fq)) rfl rfl),uS,(cn (HQ T Fm) hr T.GQ az (ae (pv 0) (aH (pv 1))))⟩)))))))),?_⟩;have hs:(ks++List.replicate ys.length ("body" :Str)).length≤sizeLine:=aR (dz p.f) (by decide);have hl:=p.len;refine⟨_,rfl,_,_,_,_,rfl,.tup p.e,rfl,_,rfl,cA ⟨_,rfl,_,.inr (.inl ⟨_,bc.of p.e,rfl⟩),cA ⟨_,rfl,a,_,0,_,rfl,rfl,bc.of p.e,l5 _ _,_,_,_,_,rfl,.str _,rfl,_,rfl,cA ?_⟩⟩⟩;refine⟨_,rfl,a,_,0,_,rfl,rfl,bc.of p.e,l5 _ _,.inr d.wd,rfl,rfl,?_⟩;have W0 :jo fm.kF (.inr d.wd)=some (.ref t):=hv;rw[W0];refine⟨_,rfl,cA ⟨_,rfl,a,_,rfl,.inr (bc.of p.e),_,rfl,a,_,0,_,rfl,rfl,bc.of p.e,l5 _ _,.inr d.wd,_,rfl,rfl,W0,t,_,rfl,.inr (ht _),1,_,rfl,rfl,rfl,_,rfl,?_⟩⟩
 have el:decide (V.int ((V.str d.wd::(xs++ys)).length:Int)=V.int (1+((ks++List.replicate ys.length ("body" :Str)).map V.str).length))=true:=by
  rw[aK,p.len,aW];exact aS (by congr 1;lia)
 show if(!decide (V.int ((V.str d.wd::(xs++ys)).length:Int)=V.int (1+((ks++List.replicate ys.length ("body" :Str)).map V.str).length)))=true then _ else _
 rw[el];refine cA ⟨_,rfl,a,d.wd,_,_,rfl,p.e,p.f,p.len,fun l zs H1 VG s1 hz zp=> ?_⟩;refine⟨l,rfl,⟨_,bF.of hz⟩,?_⟩;have Vl:zs.length=(ks++List.replicate ys.length ("body" :Str)).length:=by rw[zp.len,aK]
 refine gc (fun _=>true) (fun _=> .bl true) (dN (bF.of hz)).g (by lia) ?_ fun p2 H2 h0 s2 h2=> ?_
 ·intro i x H' C1 C0 hi sm hy c1 c0;obtain⟨tt,k,v,rfl,hT,e1,e2⟩:=jac (zp.same sm) (by rw[aK];exact p.len) hy;rw[bj] at e1
  cases ek:(ks++List.replicate ys.length ("body" :Str))[i]? with
  |none=>rw[ek] at e1;cases e1
  |some k' =>
   rw[ek] at e1;cases e1;refine⟨tt,_,rfl,bc.of hT,rfl,_,_,rfl,_,_,rfl,rfl,((fz.refl _).own (by decide)).own (by decide),⟨_,rfl,_,rfl,k',v,rfl,?_,fun H3 s3=>c1 rfl H3 s3⟩⟩;rcases p.fits i k' v ek e2 with⟨d',f1,f2⟩|⟨f1,a',t',Ww,f2,f3⟩
   ·exact .inl ⟨d',f1,f2.same (s1.trans sm)⟩
   ·exact .inr ⟨f1,a',t',Ww,f2,(s1.trans sm) _ _ f3⟩
 ·refine⟨p2,List.replicate zs.length true,rfl,?_,?_⟩
  ·rw[h2,ji.mpr (fun _ _=>rfl),List.map_replicate,List.map_const',lV]
  ·have:(List.replicate zs.length true).all id=true:=by simp
   rw[this];exact q _ (s1.trans s2)
noncomputable def L8:Sp:=pC fun H0 d v H Q=>∀l ys H',H l=none→aj H H'→H' l=some (.lst ys)→DatAll H0 ys (bL d.bs)→Q (.ref l) H'
theorem FJ{n m:Nat}{pb:Nat→Bool}(h1:∀i,i<n→pb i=false)(h2:∀i,n≤i→i<n+m→pb i=true):(List.range (n+m)).filter pb=(List.range m).map (n+ ·):=by
 rw[List.range_add,qj,yh.mpr (fun i hi=>by rw[h1 i (iA.mp hi)];decide),qu];refine ji.mpr fun i hi=> ?_;obtain⟨j,hj,rfl⟩:=fh.mp hi;exact h2 _ (lL _ _) (Nat.add_lt_add_left (iA.mp hj) _)
theorem Bc(xs ys:ak):((List.range ys.length).map (xs.length+ ·)).map (fun i=>(xs++ys).getD i .bx)=ys:=by
 apply yn;intro i;rw[iL,bj];by_cases hi:i<ys.length
 ·rw[ql hi];simp[cy,hi]
 ·rw[l0 (by rw[lV];lia),l0 (by lia)];rfl
theorem dI(T:Txt K mg A)(Fm:rT P w K A fm):aM P w K mg base cK 2 A.wK A.wM ["deed"] L8:=by
 refine T.fG.F.zk DA ?_
 rintro cj Ar outer s H vs Q E hr ⟨H0,v,d,rfl,ju,hd,ok,q⟩
 obtain⟨a,ks,xs,ys,rfl,p0⟩:=cG hd ok;have p:=p0.same ju;have hl:=p.len;have Zh:=p.lx;have hs:(ks++List.replicate ys.length ("body" :Str)).length≤sizeLine:=aR (dz p.f) (by decide);refine⟨_,(ai (aF (F1 ["kind","part"] 2 [] (cz (cn (lD T Fm) hr T.kI az (aH (pv 0)))) (fun _ _ _ _ _=>⟨(uA (K:=K) (n:=2) rfl rfl (a_ (fO 0 (show(["kind","part"]:ao).Nodup by decide+kernel)) (a_ (fO 1 (show(["kind","part"]:ao).Nodup by decide+kernel)) fq)) rfl rfl),(EO (wp dM (pv 0) aB)),(pv 1)⟩)))),?_⟩;refine⟨_,rfl,a,d.wd,_,_,rfl,p.e,p.f,p.len,fun l zs H1 VG s1 hz zp=> ?_⟩;refine⟨l,rfl,⟨_,bF.of hz⟩,?_⟩;have Vl:zs.length=(ks++List.replicate ys.length ("body" :Str)).length:=by rw[zp.len,aK]
 have BZ:zs.length=xs.length+ys.length:=by rw[Vl,hl,ba]
 refine gc (fun i=>decide (xs.length≤i)) (fun i=>(xs++ys).getD i .bx) (dN (bF.of hz)).g (by lia) ?_ fun p2 H2 h0 s2 h2=> ?_
 ·intro i x H' C1 C0 hi sm hy c1 c0;obtain⟨tt,k,v,rfl,hT,e1,e2⟩:=jac (zp.same sm) (by rw[aK];exact p.len) hy;rw[bj] at e1
  cases ek:(ks++List.replicate ys.length ("body" :Str))[i]? with
  |none=>rw[ek] at e1;cases e1
  |some k' =>
   rw[ek] at e1;cases e1;refine⟨tt,_,rfl,bc.of hT,rfl,_,_,rfl,_,_,rfl,rfl,((fz.refl _).own (by decide)).own (by decide),_,rfl,rfl,_,rfl,?_⟩;by_cases hb:xs.length≤i
   ·rw[gM (by lia),si] at ek
    split at ek
    ·cases ek;refine eqT ?_;have:=c1 (aS hb) H' (aj.refl H');rw[cy,e2] at this;exact⟨v,rfl,this⟩
    ·cases ek
   ·rw[dP (by lia)] at ek;rw[dP (by lia)] at e2;obtain⟨d',f1,f2⟩:=fD p.hx i v e2;exact iH (c6 (Hg (kg p.fit i k' d' ek f1))) (c0 (br hb) H' (aj.refl H'))
 ·rw[BZ,FJ (fun i hi=>br (by lia)) (fun i h _=>aS h),Bc] at h2;exact q p2 ys H2 (s1.free h0) (s1.trans s2) h2 p0.hy
noncomputable def cV(w:Str):Bool:=decide (w="frame")||decide (w="turns")
noncomputable def Pc:Sp:=pC fun _ d v H Q=>Q (.bl (cV d.wd)) H
theorem EJ{w:Str}{ks:ao}(h:(w,ks)∈dg):wL (.str "label") (ks.map V.str)=cV w:=bQ (c_.mp (show(dg.all fun p=>decide (wL (.str "label") (p.2.map V.str)=cV p.1))=true by decide+kernel) _ h)
theorem iP(ks:ao):(ks.map V.str).all kX=true:=by
 rw[yi];exact c_.mpr fun _ _=>rfl
theorem xf(T:Txt K mg A)(Fm:rT P w K A fm):aM P w K mg base cK 1 A.za A.ze ["deed"] Pc:=by
 refine T.sQ.F.zk Er ?_
 rintro cj Ar outer s H vs Q E hr ⟨H0,v,d,rfl,ju,hd,ok,q⟩
 obtain⟨a,ks,xs,ys,rfl,p0⟩:=cG hd ok;have p:=p0.same ju;obtain⟨t,hv,ht⟩:=Fm.f _ p.f;refine⟨_,(ai (aF (KZ mD aB (pS Fm.IQ (fi (v:= .ref A.gf) rfl T.gf rfl) (cU aX (pv 0) af))))),?_⟩;refine⟨_,rfl,a,_,0,_,rfl,rfl,bc.of p.e,l5 _ _,.inr d.wd,_,rfl,rfl,hv,t,_,rfl,.inr (ht _),rfl,iP _,?_⟩;have e:=EJ p.f;show Q (V.bl (wL (.str "label") _)) H;rw[e];exact q
mutual
noncomputable def l6:Dd→Nat
 | .mk _ _ bs=>nN bs
noncomputable def cQ:Ds→Nat
 | .nil=>0
 | .cons d r=>1+l6 d+cQ r
noncomputable def nN:Bs→Nat
 | .nil=>0
 | .cons _ b r=>cQ b+nN r
end
theorem CY:∀s:Ds,cQ s=s.l.length+(s.l.map l6).sum
 | .nil=>by rw[cQ];rfl
 | .cons d r=>by
  rw[cQ,CY r];show _=(d::r.l).length+((d::r.l).map l6).sum;rw[aW,dw,tO]
  lia
theorem Li:∀b:Bs,nN b=(b.l.map fun p=>cQ p.2).sum
 | .nil=>by rw[nN];rfl
 | .cons t b r=>by
  rw[nN,Li r];rfl
theorem Vk(d:Dd):l6 d=(d.bs.l.map fun p=>cQ p.2).sum:=by
 cases d with
 |mk w ps bs=>rw[l6,Li];rfl
theorem uy{α:Type}(f:α→Nat){l:List α}{i:Nat}{x:α}(e:l[i]? =some x):((l.take (i+1)).map f).sum=((l.take i).map f).sum+f x:=by
 rw[qD,e];simp
theorem gQ{d:Dd}(h:ip d):mw d.bs:=by
 cases d with
 |mk w ps bs=>
  rw[ip] at h;exact h.2
theorem iS(d:Dd):lq d=l_ d.bs:=by
 cases d with
 |mk w ps bs=>rw[lq];rfl
theorem h9{H:Hp}{s:Ds}{vs:ak}(h:DatAll H vs (sL s)){i:Nat}{x:V}(e:vs[i]? =some x):∃d,s.l[i]? =some d∧Dat H x (dD d):=by
 obtain⟨dd,e',hd⟩:=fD h i x e;rw[Cr,bj] at e'
 cases el:s.l[i]? with
 |none=>rw[el] at e';cases e'
 |some d=>rw[el] at e';cases e';exact⟨d,rfl,hd⟩
theorem ig{H:Hp}{b:Bs}{vs:ak}(h:DatAll H vs (bL b)){i:Nat}{x:V}(e:vs[i]? =some x):∃p,b.l[i]? =some p∧Dat H x (gg p.1 (sL p.2)):=by
 obtain⟨dd,e',hd⟩:=fD h i x e;rw[zc,bj] at e'
 cases el:b.l[i]? with
 |none=>rw[el] at e';cases e'
 |some d=>rw[el] at e';cases e';exact⟨d,rfl,hd⟩
theorem rB{H:Hp}{s:Ds}{vs:ak}(h:DatAll H vs (sL s)):vs.length=s.l.length:=by rw[eQ h,Cr,aK]
theorem iF{H:Hp}{b:Bs}{vs:ak}(h:DatAll H vs (bL b)):vs.length=b.l.length:=by rw[eQ h,zc,aK]
theorem d_{P:Program}{w:World}{K:Frag}{mg:Str→aI}{base:Heap}{CX:tD}{k:Nat}{f:Addr}{fd:FuncData}{ps:ao}{sp:Sp}(n:∀vs H Q E,¬sp vs H Q E):aM P w K mg base CX k f fd ps sp:=by
 constructor
 ·intro vs H Q E h;exact(n _ _ _ _ h).elim
 ·intros;exact(n _ _ _ _ (by assumption)).elim
noncomputable def spS(n:Nat)(ok:Bool→Ds→V→Hp→VK→Prop):Sp:=fun vs H Q _=>∃v t s,vs=[v]∧Dat H v (gg t (sL s))∧gw s∧cM s<n∧ok t s v H Q
noncomputable def Mw(n:Nat):Sp:=spS n fun t s v H Q=>∀H',aj H H'→Q (.int (cQ s:Nat)) H'
theorem sI(T:Txt K mg A)(Fm:rT P w K A fm)(n:Nat):aM P w K mg base cK (2+n) A.wx A.vN ["body"] (Mw n):=by
 induction n with
 |zero=>exact d_ (by rintro vs H Q E ⟨v,t,s,_,_,_,h,_⟩;exact g8 _ h)
 |succ n ih=>
 show aM P w K mg base cK ((2+n)+1) _ _ _ _;refine T.mS.F.ok jY (fun vs H Q E h=> ?_) (fun cj Ar outer s0 H vs Q E hr h=> ?_)
 ·obtain⟨v,t,s,rfl,_⟩:=h;rfl
 ·obtain⟨v,t,s,rfl,hd,ok,dp,q⟩:=h;obtain⟨a,vs,rfl,ha,hA⟩:=fT hd;refine⟨_,(ag (eU 1 jY.nd (h8 aZ T.gi Boot.«len» (aH (pv 0)))) (ag (vI (pV (pv 0)) (fO 2 jY.nd) (ai (vI (cz (cn (dI T Fm) hr T.fG az (aH (pv 2)) (hj:=by lia))) (fO 3 jY.nd) (ai (F7 (i:=1) jY.nd rfl (Or.inl rfl) (cn ih hr T.mS az (aH (pv 3)) (hj:=by lia)) FY))))) (ai (aF (pv 1))))),?_⟩;refine⟨_,rfl,a,_,rfl,ZY ha,⟨_,rfl,a,t,rfl,MD ha,?_⟩⟩;refine ng (K:=K) (t:=t) (a:=a) (xs:=vs) (fun i σ H' =>∃x2 x3:Option V,σ=[some (.ref a),some (.int ((vs.length+((s.l.take i).map l6).sum:Nat):Int)),x2,x3]∧aj H H') ⟨_,_,rfl,aj.refl H⟩ (by rintro i σ H' _ ⟨_,_,_,sm⟩;exact sm _ _ ha) ?_ ?_
  ·rintro i x σ H' hx ⟨x2,x3,rfl,sm⟩
   obtain⟨d,ed,k9⟩:=h9 hA hx;have dm:=bJ ed;have gq:=eE ok d dm;have Hm:=eT d dm;refine⟨_,rfl,H,x,d,rfl,sm,k9,gq,fun l ys H1 VG s1 hz hB=>⟨l,rfl,⟨_,bF.of hz⟩,?_⟩⟩;refine dF (K:=K) (a:=l) (xs:=ys) (fun j σ H2=>∃x3:Option V,σ=[some (.ref a),some (.int ((vs.length+((s.l.take i).map l6).sum+((d.bs.l.take j).map fun p=>cQ p.2).sum:Nat):Int)),some x,x3]∧aj H1 H2) ⟨_,rfl,aj.refl H1⟩ (by rintro i σ H' _ ⟨_,_,sm⟩;exact bF.of (sm _ _ hz)) ?_ ?_
   ·rintro j y σ H2 hy ⟨x3,rfl,s2⟩
    obtain⟨p,ep,hp⟩:=ig hB hy;have pm:=bJ ep;have vH:=fu (gQ gq) p pm;have A3:=fk p pm;rw[←iS] at A3;refine⟨_,rfl,_,rfl,y,p.1,p.2,rfl,hp.same (sm.trans (s1.trans s2)),vH,by lia,fun H3 s3=>⟨_,_,rfl,rfl,some y,?_,s2.trans s3⟩⟩;rw[uy (fun p:Bool×Ds=>cQ p.2) ep,←Nat.add_assoc,qr (_+_) (cQ p.2)];rfl
   ·rintro σ H2 ⟨x3,rfl,s2⟩
    refine⟨some x,x3,?_,sm.trans (s1.trans s2)⟩;rw[iF hB,fK,←Vk,uy l6 ed,Nat.add_assoc]
  ·rintro σ H' ⟨x2,x3,rfl,sm⟩
   refine⟨_,rfl,?_⟩;rw[rB hA,fK,←CY];exact q H' sm
noncomputable def pZ:List Nat→Nat
 |[]=>0
 |x::r=>max x (pZ r)
theorem EM:∀(l:List Nat) (x:Nat),pZ (l++[x])=max (pZ l) x
 |[],x=>by
  show max x 0=max 0 x
  lia
 |y::r,x=>by
  show max y (pZ (r++[x]))=max (max y (pZ r)) x;rw[EM r x]
  lia
theorem Mt:∀s:Ds,cM s=pZ (s.l.map lq)
 | .nil=>by rw[cM];rfl
 | .cons d r=>by rw[cM,Mt r];rfl
theorem KH:∀b:Bs,l_ b=pZ (b.l.map fun p=>cM p.2+1)
 | .nil=>by rw[l_];rfl
 | .cons t b r=>by rw[l_,KH r];rfl
theorem CJ{α:Type}(f:α→Nat){l:List α}{i:Nat}{x:α}(e:l[i]? =some x):pZ ((l.take (i+1)).map f)=max (pZ ((l.take i).map f)) (f x):=by
 rw[qD,e];simp[EM]
noncomputable def Qr(n:Nat):Sp:=spS n fun t s v H Q=>∀H',aj H H'→Q (.int (cM s:Nat)) H'
theorem Fw(T:Txt K mg A)(Fm:rT P w K A fm)(n:Nat):aM P w K mg base cK (2+n) A.zS A.zw ["body"] (Qr n):=by
 induction n with
 |zero=>exact d_ (by rintro vs H Q E ⟨v,t,s,_,_,_,h,_⟩;exact g8 _ h)
 |succ n ih=>
 show aM P w K mg base cK ((2+n)+1) _ _ _ _;refine T.sy.F.ok i3 (fun vs H Q E h=> ?_) (fun cj Ar outer s0 H vs Q E hr h=> ?_)
 ·obtain⟨v,t,s,rfl,_⟩:=h;rfl
 ·obtain⟨v,t,s,rfl,hd,ok,dp,q⟩:=h;obtain⟨a,vs,rfl,ha,hA⟩:=fT hd;refine⟨_,(ag (eU 1 i3.nd af) (ag (vI (pV (pv 0)) (fO 2 i3.nd) (ai (vI (cz (cn (dI T Fm) hr T.fG az (aH (pv 2)) (hj:=by lia))) (fO 3 i3.nd) (ai (eU 1 i3.nd (h8 (jQ rfl) T.wQ Boot.«max» (ae (pv 1) (aH (aO bz af (cn ih hr T.sy az (aH (pv 3)) (hj:=by lia))))))))))) (ai (aF (pv 1))))),?_⟩;refine⟨_,rfl,a,t,rfl,MD ha,?_⟩;refine ng (K:=K) (t:=t) (a:=a) (xs:=vs) (fun i σ H' =>∃x2 x3:Option V,σ=[some (.ref a),some (.int (pZ ((s.l.take i).map lq):Nat)),x2,x3]∧aj H H') ⟨_,_,rfl,aj.refl H⟩ (by rintro i σ H' _ ⟨_,_,_,sm⟩;exact sm _ _ ha) ?_ ?_
  ·rintro i x σ H' hx ⟨x2,x3,rfl,sm⟩
   obtain⟨d,ed,k9⟩:=h9 hA hx;have dm:=bJ ed;have gq:=eE ok d dm;have Hm:=eT d dm;refine⟨_,rfl,H,x,d,rfl,sm,k9,gq,fun l ys H1 VG s1 hz hB=>⟨l,rfl,⟨_,bF.of hz⟩,?_⟩⟩;refine dF (K:=K) (a:=l) (xs:=ys) (fun j σ H2=>∃x3:Option V,σ=[some (.ref a),some (.int ((max (pZ ((s.l.take i).map lq)) (pZ ((d.bs.l.take j).map fun p=>cM p.2+1)):Nat):Int)),some x,x3]∧aj H1 H2) ⟨x3,?_,aj.refl H1⟩ (by rintro i σ H' _ ⟨_,_,sm⟩;exact bF.of (sm _ _ hz)) ?_ ?_
   ·rw[show max (pZ ((s.l.take i).map lq)) (pZ ((d.bs.l.take 0).map fun p=>cM p.2+1))=pZ ((s.l.take i).map lq) from Nat.max_eq_left (cN _)];rfl
   ·rintro j y σ H2 hy ⟨x3,rfl,s2⟩
    obtain⟨p,ep,hp⟩:=ig hB hy;have pm:=bJ ep;have vH:=fu (gQ gq) p pm;have A3:=fk p pm;rw[←iS] at A3;refine⟨_,rfl,_,rfl,y,p.1,p.2,rfl,hp.same (sm.trans (s1.trans s2)),vH,by lia,fun H3 s3=>⟨1,_,rfl,rfl,_,_,rfl,some y,?_,s2.trans s3⟩⟩;rw[CJ (fun p:Bool×Ds=>cM p.2+1) ep,←Nat.max_assoc]
    have e:∀m k:Nat,((max m (k+1):Nat):Int)=if(1+(k:Int))>(m:Int) then(1+(k:Int)) else(m:Int):=fun m k=>by
     split<;>lia
    rw[e];rfl
   ·rintro σ H2 ⟨x3,rfl,s2⟩
    refine⟨some x,x3,?_,sm.trans (s1.trans s2)⟩;rw[iF hB,fK,←KH,←iS,CJ lq ed]
  ·rintro σ H' ⟨x2,x3,rfl,sm⟩
   refine⟨_,rfl,?_⟩;rw[rB hA,fK,←Mt];exact q H' sm
noncomputable def PB(n:Nat):Sp:=spS n fun t s v H Q=>∀H',aj H H'→Q .bx H'
theorem Dz(T:Txt K mg A)(Fm:rT P w K A fm)(n:Nat):aM P w K mg base cK (4+n) A.w4 A.wN ["thing"] (PB n):=by
 induction n with
 |zero=>exact d_ (by rintro vs H Q E ⟨v,t,s,_,_,_,h,_⟩;exact g8 _ h)
 |succ n ih=>
 show aM P w K mg base cK ((4+n)+1) _ _ _ _;refine T.pO.F.ok nG (fun vs H Q E h=> ?_) (fun cj Ar outer s0 H vs Q E hr h=> ?_)
 ·obtain⟨v,t,s,rfl,_⟩:=h;rfl
 ·obtain⟨v,t,s,rfl,hd,ok,dp,q⟩:=h;obtain⟨a,vs,rfl,ha,hA⟩:=fT hd;refine⟨_,(ag (bu (kK (iN (cn (HQ T Fm) hr T.GQ az (ae aB (aH (pv 0))) (hj:=by lia)))) (ai E5) aV) (ai (vI (pV (pv 0)) (fO 1 nG.nd) (ag (bu (kK (iN (cn (Hc T Fm) hr T.BQ az (aH (pv 1)) (hj:=by lia)))) (ai E5) aV) (ai (vI (cz (cn (dI T Fm) hr T.fG az (aH (pv 1)) (hj:=by lia))) (fO 2 nG.nd) (ai (bf (cn ih hr T.pO az (aH (pv 2)) (hj:=by lia)))))))))),?_⟩;refine⟨_,rfl,"body",_,rfl,.inr ⟨rfl,a,t,vs,rfl,ha⟩,fun H0 FF=>⟨_,rfl,cA ⟨_,rfl,a,t,rfl,MD (FF _ _ ha),?_⟩⟩⟩;refine ng (K:=K) (t:=t) (a:=a) (xs:=vs) (fun i σ H' =>∃x2 x3:Option V,σ=[some (.ref a),x2,x3]∧aj H H') ⟨_,_,rfl,FF⟩ (by rintro i σ H' _ ⟨_,_,_,sm⟩;exact sm _ _ ha) ?_ ?_
  ·rintro i x σ H' hx ⟨x2,x3,rfl,sm⟩
   obtain⟨d,ed,k9⟩:=h9 hA hx;have dm:=bJ ed;have gq:=eE ok d dm;have Hm:=eT d dm;refine⟨_,rfl,H,x,d,rfl,sm,k9,gq,fun H1 s1=>⟨_,rfl,cA ⟨_,rfl,H,x,d,rfl,sm.trans s1,k9,gq,fun l ys H2 VG s2 hz hB=>⟨l,rfl,⟨_,bF.of hz⟩,?_⟩⟩⟩⟩;refine dF (K:=K) (a:=l) (xs:=ys) (fun j σ H3=>∃x3:Option V,σ=[some (.ref a),some x,x3]∧aj H2 H3) ⟨x3,rfl,aj.refl H2⟩ (by rintro i σ H' _ ⟨_,_,sm⟩;exact bF.of (sm _ _ hz)) ?_ ?_
   ·rintro j y σ H3 hy ⟨x3,rfl,s3⟩
    obtain⟨p,ep,hp⟩:=ig hB hy;have pm:=bJ ep;have vH:=fu (gQ gq) p pm;have A3:=fk p pm;rw[←iS] at A3;exact⟨_,rfl,y,p.1,p.2,rfl,hp.same (sm.trans (s1.trans (s2.trans s3))),vH,by lia,fun H4 s4=>⟨some y,rfl,s3.trans s4⟩⟩
   ·rintro σ H3 ⟨x3,rfl,s3⟩
    exact⟨some x,x3,rfl,sm.trans (s1.trans (s2.trans s3))⟩
  ·rintro σ H' ⟨x2,x3,rfl,sm⟩
   exact q H' sm
noncomputable def iC(d:Dd):Str:=match d.ps with
 | .str x::_=>x
 |_=>""
noncomputable def mR(d:Dd)(ar:ao):ao:=if cV d.wd=true then iC d::ar else ar
mutual
noncomputable def Bd:Dd→ao→List (Dd×ao)
 | .mk w ps bs,ar=>(.mk w ps bs,ar)::AQ bs (mR (.mk w ps bs) ar)
noncomputable def fA:Ds→ao→List (Dd×ao)
 | .nil,_=>[]
 | .cons d r,ar=>Bd d ar++fA r ar
noncomputable def AQ:Bs→ao→List (Dd×ao)
 | .nil,_=>[]
 | .cons _ b r,ar=>fA b ar++AQ r ar
end
theorem GD(ar:ao):∀s:Ds,fA s ar=s.l.flatMap fun d=>Bd d ar
 | .nil=>by rw[fA];rfl
 | .cons d r=>by rw[fA,GD ar r];rfl
theorem NF(ar:ao):∀b:Bs,AQ b ar=b.l.flatMap fun p=>fA p.2 ar
 | .nil=>by rw[AQ];rfl
 | .cons t b r=>by rw[AQ,NF ar r];rfl
theorem L1(d:Dd)(ar:ao):Bd d ar=(d,ar)::d.bs.l.flatMap fun p=>fA p.2 (mR d ar):=by
 cases d with
 |mk w ps bs=>rw[Bd,NF];rfl
mutual
theorem CS:∀(d:Dd) (ar:ao),(Bd d ar).length=1+l6 d
 | .mk w ps bs,ar=>by rw[Bd,aW,II bs,l6];lia
theorem jO:∀(s:Ds) (ar:ao),(fA s ar).length=cQ s
 | .nil,ar=>by rw[fA,cQ];rfl
 | .cons d r,ar=>by rw[fA,ba,CS d,jO r,cQ]
theorem II:∀(b:Bs) (ar:ao),(AQ b ar).length=nN b
 | .nil,ar=>by rw[AQ,nN];rfl
 | .cons t b r,ar=>by rw[AQ,ba,jO b,II r,nN]
end
theorem fY{α β:Type}(f:α→List β){l:List α}{i:Nat}{x:α}(e:l[i]? =some x):(l.take (i+1)).flatMap f=(l.take i).flatMap f++f x:=by
 rw[qD,e];simp
theorem jK{α β:Type}(f:α→List β)(l:List α)(i:Nat):((l.take i).flatMap f).length≤(l.flatMap f).length:=by
 have e:l.flatMap f=(l.take i).flatMap f++(l.drop i).flatMap f:=by rw[←List.flatMap_append,p5]
 rw[e,ba]
 lia
theorem ie:∀{s:Ds},∀d∈s.l,1+l6 d≤cQ s
 | .nil,d,h=>by cases h
 | .cons e r,d,hd=>by
  rw[cQ];rcases aU.mp hd with rfl|hd
  ·lia
  ·have:=ie (s:=r) d hd
   lia
theorem i0:∀{b:Bs},∀p∈b.l,cQ p.2≤nN b
 | .nil,p,h=>by cases h
 | .cons t b r,p,hp=>by
  rw[nN];rcases aU.mp hp with rfl|hp
  ·exact lL _ _
  ·have:=i0 (b:=r) p hp
   lia
theorem oY(d:Dd):l6 d=nN d.bs:=by
 cases d with
 |mk w ps bs=>rw[l6];rfl
theorem Fs{w:Str}{ks:ao}(h:(w,ks)∈dg)(b:cV w=true):ks.head? =some "label":=by
 have:=bQ (c_.mp (show(dg.all fun p=>decide (cV p.1=true→p.2.head? =some "label"))=true by decide+kernel) _ h);exact this b
theorem gh.iC{H:Hp}{d:Dd}{a:Addr}{ks:ao}{xs ys:ak}(p:gh H d a ks xs ys)(b:cV d.wd=true):∃Ww,xs= .str (iC d)::Ww :=by
 have h:=Fs p.f b;have hf:=p.fit;have hx:=p.hx;unfold My.iC
 cases ks with
 |nil=>
  rw[qu] at h
  cases hn:ys.length with
  |zero=>rw[hn] at h;cases h
  |succ m=>rw[hn,List.replicate_succ] at h;exact absurd (di h) (by decide+kernel)
 |cons k ks=>
  have hk:k="label":=di h;subst hk;generalize d.ps=ps at hf hx
  cases hf with
  |cons h1 h2=>
   cases hx with
   |cons g1 g2=>
    cases h1 with
    |label x _ _=>cases g1;exact⟨_,rfl⟩
    |num _ _ _ _ hb=>exact absurd rfl (iJ hb (by decide+kernel))
noncomputable def Fc(H0 H:Hp)(v:V)(r:Dd×ao):Prop:=∃t x u,v= .ref t∧H t=some (.tup [x,.ref u])∧Dat H0 x (dD r.1)∧H u=some (.tup (r.2.map V.str))
structure gk(H0 H:Hp)(zs:ak)(rs:List (Dd×ao)):Prop where
 len:zs.length=rs.length
 at_:∀(i:Nat) v,zs[i]? =some v→∃r,rs[i]? =some r∧Fc H0 H v r
noncomputable def KT(H H' :Hp):Prop:=∀c xs,H c=some (.tup xs)→H' c=some (.tup xs)
theorem Fc.kt{H0 H H' :Hp}{v:V}{r:Dd×ao}(h:Fc H0 H v r)(k:KT H H'):Fc H0 H' v r:=by
 obtain⟨t,x,u,e1,e2,e3,e4⟩:=h;exact⟨t,x,u,e1,k _ _ e2,e3,k _ _ e4⟩
theorem gk.kt{H0 H H' :Hp}{zs:ak}{rs:List (Dd×ao)}(h:gk H0 H zs rs)(k:KT H H'):gk H0 H' zs rs:=⟨h.len,fun i v e=>by
 obtain⟨r,e1,e2⟩:=h.at_ i v e;exact⟨r,e1,e2.kt k⟩⟩
theorem gk.nil{H0 H:Hp}:gk H0 H [] []:=⟨rfl,fun i v e=>by cases e⟩
theorem gk.app{H0 H:Hp}{zs ws:ak}{rs qs:List (Dd×ao)}(h:gk H0 H zs rs)(g:gk H0 H ws qs):gk H0 H (zs++ws) (rs++qs):=⟨by rw[ba,ba,h.len,g.len],fun i v e=>by
 have hl:=h.len;by_cases hi:i<zs.length
 ·rw[dP hi] at e;rw[dP (by lia)];exact h.at_ i v e
 ·rw[gM (by lia)] at e;rw[gM (by lia),←hl];exact g.at_ _ v e⟩
theorem gk.one{H0 H:Hp}{v:V}{r:Dd×ao}(h:Fc H0 H v r):gk H0 H [v] [r]:=⟨rfl,fun i w e=>by
 cases i with
 |zero=>cases e;exact⟨r,rfl,h⟩
 |succ i=>cases e⟩
theorem KT.same{H H' :Hp}(s:aj H H'):KT H H' :=fun c xs e=>s c _ e
theorem KT.upd{H:Hp}{a:Addr}{xs:ak}{o:HO}(h:H a=some (.lst xs)):KT H (upd H a o):=fun c ys e=>by
 rw[av (bW e h (by intro z;cases z))];exact e
theorem KT.trans{H1 H2 H3:Hp}(a:KT H1 H2)(b:KT H2 H3):KT H1 H3:=fun c xs e=>b c xs (a c xs e)
theorem fC{H H' :Hp}{a:Addr}{o:HO}(h:H a=none)(s:aj H H'):aj H (upd H' a o):=fun c q e=>by
 rw[av (aw e h)];exact s c q e
theorem Dm{K:Frag}{H:Hp}{a:Addr}{xs:ak}(h:H a=some (.lst xs)):tyV K "list" (.ref a) H:= .inl ⟨rfl,_,bF.of h⟩
theorem jan{c:Bool}{X Y:Prop}{M G:Addr→Hp→Prop}(ha:c=true→(∀u h,G u h→M u h)→X)(hb:c=false→(∀u h,G u h→M u h)→Y)(k:∀u h,G u h→M u h):if c=true then X else Y:=by
 cases c with
 |true=>exact dG (ha rfl k)
 |false=>exact cA (hb rfl k)
noncomputable def JW(n:Nat):Sp:=fun vs H Q _=>∃H0 v t s u ar,vs=[v,.ref u]∧aj H0 H∧Dat H0 v (gg t (sL s))∧gw s∧cM s<n∧H u=some (.tup (ar.map V.str))∧ar≠[]∧cQ s≤1000∧ar.length+cM s<1000∧
 ∀l zs H',H l=none→aj H H'→H' l=some (.lst zs)→gk H0 H' zs (fA s ar)→Q (.ref l) H'
theorem GH(T:Txt K mg A)(Fm:rT P w K A fm)(n:Nat):aM P w K mg base cK (2+n) A.B0 A.Ci ["body","around"] (JW n):=by
 induction n with
 |zero=>exact d_ (by rintro vs H Q E ⟨H0,v,t,s,u,ar,_,_,_,_,h,_⟩;exact g8 _ h)
 |succ n ih=>
 show aM P w K mg base cK ((2+n)+1) _ _ _ _;refine T.vZ.F.ok kA (fun vs H Q E h=> ?_) (fun cj Ar outer s0 H vs Q E hr h=> ?_)
 ·obtain⟨H0,v,t,s,u,ar,rfl,_⟩:=h;rfl
 ·obtain⟨H0,v,t,s,u,ar,rfl,FF,hd,ok,dp,hu,mq,hmn,Qo,q⟩:=h;obtain⟨a,vs,rfl,ha,hA⟩:=fT hd;have Hr:(1000:Nat)≤sizeLine:=by decide
  refine⟨_,(ag (eU 2 kA.nd (bg dr)) (ag (vI (pV (pv 0)) (fO 3 kA.nd) (ag (bf (jg eO PySem.F.slot_list_append PySem.F.type_list_append cI (pv 2) (aH (a9 (ae (pv 3) (aH (pv 1))))))) (ag (eU 4 kA.nd (zX (iN (cn (xf T Fm) hr T.sQ az (aH (pv 3)) (hj:=by lia))) (aO DX (a9 (aH (cU aX (pv 3) af))) (pv 1)) (pv 1))) (ai (vI (cz (cn (dI T Fm) hr T.fG az (aH (pv 3)) (hj:=by lia))) (fO 5 kA.nd) (ai (bf (jg eO yB type_list_extend vV (pv 2) (aH (cn ih hr T.vZ az (ae (pv 5) (aH (pv 4))) (hj:=by lia))))))))))) (ai (aF (pv 2))))),?_⟩;refine⟨mI,fun fl kW=>⟨_,rfl,a,t,rfl,MD (fC kW (aj.refl H) _ _ (FF _ _ ha)),?_⟩⟩;refine ng (K:=K) (t:=t) (a:=a) (xs:=vs) (fun i σ H' =>∃(x3 x4 x5:Option V) (zs:ak),σ=[some (.ref a),some (.ref u),some (.ref fl),x3,x4,x5]∧aj H H'∧H' fl=some (.lst zs)∧gk H0 H' zs ((s.l.take i).flatMap fun d=>Bd d ar)) ⟨_,_,_,[],rfl,fC kW (aj.refl H),aa,.nil⟩ (by rintro i σ H' _ ⟨_,_,_,_,_,sm,_⟩;exact sm _ _ (FF _ _ ha)) ?_ ?_
  ·rintro i x σ H' hx ⟨x3,x4,x5,zs,rfl,sm,kj,R⟩
   obtain⟨d,ed,k9⟩:=h9 hA hx;have dm:=bJ ed;have gq:=eE ok d dm;have Hm:=eT d dm;have NX:=ie d dm;have tl:=jK (fun d=>Bd d ar) s.l (i+1);rw[←GD,jO,fY (fun d=>Bd d ar) ed,ba,CS,←R.len] at tl;obtain⟨b,ks,xs,C8,rfl,p0⟩:=cG k9 gq;refine⟨_,rfl,Dm kj,_,rfl,_,rfl,fw,fun t1 wg=>⟨fl,zs,.ref t1,rfl,rfl,(aj.upd wg) _ _ kj,by lia,?_⟩⟩;have alB:H' fl≠none:=by rw[kj];exact fun z=>nomatch z
   have s1:aj H (upd (upd H' t1 (.tup [.ref b,.ref u])) fl (.lst (zs++[.ref t1]))):=fC kW (sm.trans (aj.upd wg));have k1:KT H' (upd (upd H' t1 (.tup [.ref b,.ref u])) fl (.lst (zs++[.ref t1]))):=(KT.same (aj.upd wg)).trans (KT.upd ((aj.upd wg) _ _ kj));have m_:upd (upd H' t1 (.tup [.ref b,.ref u])) fl (.lst (zs++[.ref t1])) fl=some (.lst (zs++[.ref t1])):=aa;have XY :upd (upd H' t1 (.tup [.ref b,.ref u])) fl (.lst (zs++[.ref t1])) t1=some (.tup [.ref b,.ref u]):=(KT.upd ((aj.upd wg) _ _ kj)) _ _ aa;generalize upd (upd H' t1 (.tup [.ref b,.ref u])) fl (.lst (zs++[.ref t1]))=H2 at s1 k1 m_ XY ⊢;have R2:gk H0 H2 (zs++[.ref t1]) (((s.l.take i).flatMap fun d=>Bd d ar)++[(d,ar)]):=(R.kt k1).app (.one ⟨t1,_,u,rfl,XY,k9,s1 _ _ hu⟩);have p:=p0.same (FF.trans s1);refine⟨_,rfl,H0,_,d,rfl,FF.trans s1,k9,gq,_,rfl,?_⟩
   have aeH:mR d ar≠[]:=by
    unfold mR
    split
    ·exact fun z=>nomatch z
    ·exact mq
   have hil:(mR d ar).length≤ar.length+1:=by
    unfold mR
    split
    ·exact aG _
    ·exact lJ _
   apply jan (c:=cV d.wd) (G:=fun u' H3=>aj H2 H3∧H3 u' =some (.tup ((mR d ar).map V.str)))
   ·intro hb k;obtain⟨Ww,BW⟩:=p0.iC hb;have pe:=p.e;rw[BW] at pe;refine⟨_,rfl,b,_,1,_,rfl,rfl,bc.of pe,bU (j:=1) rfl,sS,fun t2 wb=>⟨_,rfl,t2,u,_,_,rfl,rfl,bc.of aa,bc.of ((aj.upd wb) _ _ (s1 _ _ hu)),(fun z=>nomatch z),?_,(fun z=>absurd (List.map_eq_nil_iff.mp z) mq),fun _ u' oj=> ?_⟩⟩
    ·rw[aK];show 1+ar.length≤_
     lia
    have s3:aj H2 (upd (upd H2 t2 (.tup [.str (iC d)])) u' (.tup ([.str (iC d)]++ar.map V.str))):=(aj.upd wb).trans (aj.upd oj)
    have NV:upd (upd H2 t2 (.tup [.str (iC d)])) u' (.tup ([.str (iC d)]++ar.map V.str)) u' =some (.tup ((mR d ar).map V.str)):=by
     rw[aa];unfold mR;rw[hb];rfl
    generalize upd (upd H2 t2 (.tup [.str (iC d)])) u' (.tup ([.str (iC d)]++ar.map V.str))=H3 at s3 NV ⊢;exact k u' H3 ⟨s3,NV⟩
   ·intro hb k;refine⟨_,rfl,k u H2 ⟨aj.refl H2,?_⟩⟩;unfold mR;rw[hb];exact s1 _ _ hu
   ·rintro u' H3 ⟨s3,NV⟩
    refine⟨_,rfl,H0,_,d,rfl,(FF.trans s1).trans s3,k9,gq,fun l ys H4 hl4 s4 hz hB=>⟨l,rfl,⟨_,bF.of hz⟩,?_⟩⟩;have Vc:=s4 _ _ (s3 _ _ m_);have Up:l≠fl:=(aw (s3 _ _ m_) hl4).symm;refine dF (K:=K) (a:=l) (xs:=ys) (fun j σ H5=>∃(x5:Option V) (AX :ak),σ=[some (.ref a),some (.ref u),some (.ref fl),some (.ref b),some (.ref u'),x5]∧Kept fl H4 H5∧H5 fl=some (.lst AX)∧gk H0 H5 AX (((s.l.take i).flatMap fun d=>Bd d ar)++(d,ar)::(d.bs.l.take j).flatMap fun p=>fA p.2 (mR d ar))) ⟨x5,_,rfl,Kept.refl _ _,Vc,R2.kt (KT.same (s3.trans s4))⟩ (by rintro i σ H' _ ⟨_,_,_,k,_⟩;exact bF.of (k _ _ Up hz)) ?_ ?_
    ·rintro j y σ H5 hy ⟨x5,AX,rfl,k5,xN,R5⟩
     obtain⟨pp,ep,hp⟩:=ig hB hy;have pm:=bJ ep;have vH:=fu (gQ gq) pp pm;have A3:=fk pp pm;have JH:=i0 pp pm;rw[←iS] at A3;rw[←oY] at JH;have tl2:=jK (fun p:Bool×Ds=>fA p.2 (mR d ar)) d.bs.l (j+1);have ll:=CS d ar;rw[L1,aW] at ll;rw[fY (fun p:Bool×Ds=>fA p.2 (mR d ar)) ep,ba,jO] at tl2;have r5l:=R5.len;rw[ba,aW,←R.len] at r5l;have S05:aj H0 H5:=fun c o e=>k5 c o (aw (FF _ _ e) kW) (s4 _ _ (s3 _ _ (s1 _ _ (FF _ _ e))));have hu5:H5 u' =some (.tup ((mR d ar).map V.str)):=k5 _ _ (bW (s3 _ _ m_) NV (fun z=>nomatch z)).symm (s4 _ _ NV);refine⟨_,rfl,Dm xN,_,rfl,_,rfl,H0,y,pp.1,pp.2,u',mR d ar,rfl,S05,hp,vH,by lia,hu5,aeH,by lia,by lia,fun l2 RS H6 kU s6 hz6 R6=>⟨fl,l2,AX,RS,rfl,rfl,s6 _ _ xN,hz6,?_,some y,AX ++RS,rfl,?_,aa,?_⟩⟩
     ·have:=R6.len;rw[jO] at this
      lia
     ·exact fun c o hc e=>by
       rw[av hc];exact s6 _ _ (k5 c o hc e)
     ·have kk:=KT.upd (o:= .lst (AX ++RS)) (s6 _ _ xN);rw[fY (fun p:Bool×Ds=>fA p.2 (mR d ar)) ep,←CA,←List.append_assoc];exact((R5.kt (KT.same s6)).app R6).kt kk
    ·rintro σ H5 ⟨x5,AX,rfl,k5,xN,R5⟩
     refine⟨_,_,_,AX,rfl,fun c o e=>k5 c o (aw e kW) (s4 _ _ (s3 _ _ (s1 _ _ e))),xN,?_⟩;rw[iF hB,fK,←L1,←fY (fun d=>Bd d ar) ed] at R5;exact R5
  ·rintro σ H' ⟨x3,x4,x5,zs,rfl,sm,kj,R⟩
   refine⟨_,rfl,q fl zs H' kW sm kj ?_⟩;rw[rB hA,fK,←GD] at R;exact R
theorem BM{ks:ao}{ps:List PyData}(h:eM ks ps):∀k∈ks,k≠ "body":=by
 induction h with
 |nil=>intro k hk;cases hk
 |cons h t ih=>
  intro k hk;rcases aU.mp hk with rfl|hk
  ·exact Hg h
  ·exact ih k hk
theorem QS{ks:ao}{m:Nat}{L:ao}(h:∀k∈ks,k≠ "body")(e:ks++List.replicate m ("body" :Str)=L):ks=L.filter (fun k:Str=>decide (k≠ "body"))∧m=(L.filter fun k:Str=>decide (k="body")).length:=by
 subst e;constructor
 ·rw[qj,ji.mpr (fun k hk=>aS (h k hk)),yh.mpr (fun k hk=>by rw[List.eq_of_mem_replicate hk];decide),dO]
 ·rw[qj,yh.mpr (fun k hk=>by simpa using h k hk),qu,ji.mpr (fun k hk=>by rw[List.eq_of_mem_replicate hk];decide),gN]
inductive Shape:Dd→Prop
 |ei (t:Bool) (b:Ds) (u:Bool) (c:Ds):Shape (.mk "either" [] (.cons t b (.cons u c .nil)))
 |tu (l:Str) (m n:Int) (t:Bool) (b:Ds) (hl:bB l=true) (hg:l≠ "ground") (m1:1≤m) (m3:m≤3) (n0:0≤n) (n4:n≤4):Shape (.mk "turns" [.str l,.int m,.int n] (.cons t b .nil))
 |fr (l:Str) (t:Bool) (b:Ds) (hl:bB l=true) (hg:l≠ "ground"):Shape (.mk "frame" [.str l] (.cons t b .nil))
 |sm (w:Str) (ks:ao) (ps:List PyData) (f:(w,ks)∈dg) (h:eM ks ps) (n1:w≠ "either") (n2:w≠ "turns") (n3:w≠ "frame"):Shape (.mk w ps .nil)
theorem Ht{b:Bs}(h:b.l.length=0):b= .nil:=by
 cases b with
 |nil=>rfl
 |cons t b r=>cases h
theorem Dy{b:Bs}(h:b.l.length=1):∃t c,b= .cons t c .nil:=by
 cases b with
 |nil=>cases h
 |cons t b r=>exact⟨t,b,by rw[Ht (b:=r) (va h)]⟩
theorem Qt{b:Bs}(h:b.l.length=2):∃t c u e,b= .cons t c (.cons u e .nil):=by
 cases b with
 |nil=>cases h
 |cons t b r=>
  obtain⟨u,e,rfl⟩:=Dy (b:=r) (va h);exact⟨t,b,u,e,rfl⟩
theorem Cd{d:PyData}(h:tE "label" d):∃x,d= .str x∧bB x=true∧x≠ "ground":=by
 cases h with
 |label x h n=>exact⟨x,rfl,h,n⟩
 |num _ _ _ _ hb=>exact absurd rfl (iJ hb (by decide+kernel))
theorem IA{k:Str}{lo hi:Int}{d:PyData}(h:tE k d)(hk:k="many" ∧lo=1∧hi=3∨k="times" ∧lo=0∧hi=4):∃i,d= .int i∧lo≤i∧i≤hi:=by
 cases h with
 |num _ lo' hi' i hb h1 h2=>
  refine⟨i,rfl,?_⟩;have:=c_.mp (show(Gs.all fun p=>decide ((p.1="many" →p.2=(1,3))∧(p.1="times" →p.2=(0,4))))=true by decide+kernel) _ hb;have:=bQ this;rcases hk with⟨rfl,rfl,rfl⟩|⟨rfl,rfl,rfl⟩
  ·have e:=this.1 rfl;cases e;exact⟨h1,h2⟩
  ·have e:=this.2 rfl;cases e;exact⟨h1,h2⟩
 |_=>
  rcases hk with⟨z,_⟩|⟨z,_⟩<;>exact absurd z (by decide+kernel)
theorem jaa{d:Dd}(ok:ip d):Shape d:=by
 cases d with
 |mk w ps bs=>
  rw[ip] at ok;obtain⟨⟨ks,f,fit⟩,_⟩:=ok;have nb:=BM fit;generalize hL:ks++List.replicate bs.l.length ("body" :Str)=L at f;obtain⟨e1,e2⟩:=QS nb hL;have f0:=f;by_cases h1:w="either"
  ·subst h1;have:=bQ (c_.mp (show(dg.all fun p=>decide (p.1="either" →p.2=(["body","body"]:ao)))=true by decide+kernel) _ f) rfl;dsimp only at this;subst this;obtain⟨t,c,u,e,rfl⟩:=Qt (e2.trans (by decide+kernel));rw[show ks=([]:ao) from e1.trans (by decide+kernel)] at fit;cases fit;exact .ei t c u e
  ·by_cases h2:w="turns"
   ·subst h2;have:=bQ (c_.mp (show(dg.all fun p=>decide (p.1="turns" →p.2=(["label","many","times","body"]:ao)))=true by decide+kernel) _ f) rfl;dsimp only at this;subst this;obtain⟨t,c,rfl⟩:=Dy (e2.trans (by decide+kernel));rw[show ks=(["label","many","times"]:ao) from e1.trans (by decide+kernel)] at fit
    cases fit with
    |cons a r=>
     cases r with
     |cons b r=>
      cases r with
      |cons c' r=>
       cases r;obtain⟨l,rfl,hl,hg⟩:=Cd a;obtain⟨m,rfl,m1,m3⟩:=IA b (.inl ⟨rfl,rfl,rfl⟩);obtain⟨n,rfl,n0,n4⟩:=IA c' (.inr ⟨rfl,rfl,rfl⟩);exact .tu l m n t c hl hg m1 m3 n0 n4
   ·by_cases h3:w="frame"
    ·subst h3;have:=bQ (c_.mp (show(dg.all fun p=>decide (p.1="frame" →p.2=(["label","body"]:ao)))=true by decide+kernel) _ f) rfl;dsimp only at this;subst this;obtain⟨t,c,rfl⟩:=Dy (e2.trans (by decide+kernel));rw[show ks=(["label"]:ao) from e1.trans (by decide+kernel)] at fit
     cases fit with
     |cons a r=>
      cases r;obtain⟨l,rfl,hl,hg⟩:=Cd a;exact .fr l t c hl hg
    ·have:=bQ (c_.mp (show(dg.all fun p=>decide (p.1≠ "either" →p.1≠ "turns" →p.1≠ "frame" →(p.2.filter fun k:Str=>decide (k="body")).length=0))=true by decide+kernel) _ f) h1 h2 h3;have hb:=Ht (e2.trans this);subst hb;have:ks=L:=by rw[←hL];exact(dO ks).symm
     subst this;exact .sm w ks ps f fit h1 h2 h3
noncomputable def Xv(ps:List PyData):Nat:=match ps with
 |[_,_,.int n]=>n.toNat
 |_=>0
mutual
noncomputable def yt:Dd→Nat
 | .mk w ps bs=>if w="either" then 1+pZ (qR bs) else if w="turns" then Xv ps*(qR bs).headD 0 else(qR bs).sum
noncomputable def gD:Ds→Nat
 | .nil=>0
 | .cons d r=>yt d+gD r
noncomputable def qR:Bs→List Nat
 | .nil=>[]
 | .cons _ b r=>gD b::qR r
end
mutual
noncomputable def yG:Dd→Nat
 | .mk w ps bs=>if w="either" then 1+pZ (sg bs) else if w="turns" then Xv ps*(1+(sg bs).headD 0)+1 else if w="frame" then 1+(sg bs).headD 0+1 else 1
noncomputable def gC:Ds→Nat
 | .nil=>0
 | .cons d r=>yG d+gC r
noncomputable def sg:Bs→List Nat
 | .nil=>[]
 | .cons _ b r=>gC b::sg r
end
theorem Gv:∀s:Ds,gD s=(s.l.map yt).sum
 | .nil=>by rw[gD];rfl
 | .cons d r=>by rw[gD,Gv r];rfl
theorem FQ:∀s:Ds,gC s=(s.l.map yG).sum
 | .nil=>by rw[gC];rfl
 | .cons d r=>by rw[gC,FQ r];rfl
theorem wa:∀b:Bs,qR b=b.l.map fun p=>gD p.2
 | .nil=>by rw[qR];rfl
 | .cons t b r=>by rw[qR,wa r];rfl
theorem C7:∀b:Bs,sg b=b.l.map fun p=>gC p.2
 | .nil=>by rw[sg];rfl
 | .cons t b r=>by rw[sg,C7 r];rfl
noncomputable def xS(dp mn:Nat):Nat:=5*4 ^ dp*mn
theorem pz{d d' m m' :Nat}(h:d≤d')(k:m≤m'):xS d m≤xS d' m' :=Nat.mul_le_mul (Nat.mul_le_mul_left _ (Nat.pow_le_pow_right (by decide) h)) k
theorem OM(d m k:Nat):xS d m+xS d k=xS d (m+k):=(Nat.mul_add _ _ _).symm
theorem GC(d m:Nat):5+4*xS d m≤xS (d+1) (1+m):=by
 unfold xS;have h:1≤4 ^ d:=Nat.pow_pos (by decide)
 rw[Nat.pow_succ,show 5*(4 ^ d*4)*(1+m)=20*4 ^ d+4*(5*4 ^ d*m) by
  rw[Nat.mul_add,Nat.mul_one]
  congr 1
  ·lia
  ·rw[←Nat.mul_assoc,←Nat.mul_assoc]
   congr 1
   lia]
 lia
mutual
theorem Lv:∀d:Dd,ip d→yt d≤xS (lq d) (1+l6 d)∧yG d≤xS (lq d) (1+l6 d)
 | .mk w ps bs,ok=>by
  have hb:mw bs:=gQ ok;have sh:=jaa ok;have hB:=XE bs hb;rw[lq,l6,yt,yG]
  cases sh with
  |ei t b u c=>
   rw[aA rfl,aA rfl];rw[mw,mw,mw] at hb;have h1:=wG b hb.1;have h2:=wG c hb.2.1;rw[qR,qR,qR,sg,sg,sg,l_,l_,l_,nN,nN,nN];have e1:=GC (max (cM b) (cM c)) (cQ b+cQ c);have c1:xS (cM b) (cQ b)≤xS (max (cM b) (cM c)) (cQ b+cQ c):=pz (yS _ _) (lL _ _);have c2:xS (cM c) (cQ c)≤xS (max (cM b) (cM c)) (cQ b+cQ c):=pz (yq _ _) (Nat.le_add_left _ _);have ed:max (cM b+1) (max (cM c+1) 0)=max (cM b) (cM c)+1:=by lia
   have em:1+(cQ b+(cQ c+0))=1+(cQ b+cQ c):=by lia
   rw[ed,em];show 1+max (gD b) (max (gD c) 0)≤_∧1+max (gC b) (max (gC c) 0)≤_
   lia
  |tu l m n t b hl hg m1 m3 n0 n4=>
   rw[ay (by decide+kernel),aA rfl,ay (by decide+kernel),aA rfl];rw[mw,mw] at hb;have h1:=wG b hb.1;rw[qR,qR,sg,sg,l_,l_,nN,nN];have e1:=GC (cM b) (cQ b);have ed:max (cM b+1) 0=cM b+1:=by lia
   rw[ed,Nat.add_zero (cQ b)];show n.toNat*gD b≤_∧n.toNat*(1+gC b)+1≤_;have hn:n.toNat≤4:=by lia
   have k1:=Nat.mul_le_mul hn (aG (gD b));have k2:=Nat.mul_le_mul hn (aG (1+gC b))
   lia
  |fr l t b hl hg=>
   rw[ay (by decide+kernel),ay (by decide+kernel),ay (by decide+kernel),ay (by decide+kernel),aA rfl];rw[mw,mw] at hb;have h1:=wG b hb.1;rw[qR,qR,sg,sg,l_,l_,nN,nN];have e1:=GC (cM b) (cQ b);have ed:max (cM b+1) 0=cM b+1:=by lia
   rw[ed,Nat.add_zero (cQ b)];show gD b+0≤_∧1+gC b+1≤_
   lia
  |sm w ks ps f h n1 n2 n3=>
   rw[ay n1,ay n2,ay n1,ay n2,ay n3,qR,l_,nN];exact⟨cN _,by decide⟩
theorem wG:∀s:Ds,gw s→gD s≤xS (cM s) (cQ s)∧gC s≤xS (cM s) (cQ s)
 | .nil,_=>by rw[gD,gC];exact⟨cN _,cN _⟩
 | .cons d r,ok=>by
  rw[gw] at ok;have h1:=Lv d ok.1;have h2:=wG r ok.2;rw[gD,gC,cM,cQ,←OM];have c1:xS (lq d) (1+l6 d)≤xS (max (lq d) (cM r)) (1+l6 d):=pz (yS _ _) (aG _);have c2:xS (cM r) (cQ r)≤xS (max (lq d) (cM r)) (cQ r):=pz (yq _ _) (aG _)
  lia
theorem XE:∀b:Bs,mw b→True
 | .nil,_=>True.intro
 | .cons t b r,_=>True.intro
end
theorem vC{d m:Nat}(h1:d≤6)(h2:m≤41):xS d m≤1000000:=aR (pz h1 h2) (by decide)
theorem xL{α:Type}(f:Nat→α)(l:List Nat):(List.range l.length).map (fun i=>f (l.getD i 0))=l.map f:=by
 apply yn;intro i;rw[bj,bj];by_cases h:i<l.length
 ·rw[ql h,yM h];simp[cy,h]
 ·rw[l0 (by rw[lV];lia),l0 (by lia)];rfl
theorem ug(l:List Nat):(l.map fun k:Nat=>(k:Int)).sum=((l.sum:Nat):Int):=by
 induction l with
 |nil=>rfl
 |cons x r ih=>rw[dw,tO,tO,ih];lia
theorem ZB{α:Type}(f:α→Nat){l:List α}{i:Nat}{x:α}(e:l[i]? =some x):(l.map f).getD i 0=f x:=by
 rw[cy,bj,e];rfl
theorem Ka:∀s:Ds,s.l.length≤cQ s
 |s=>by rw[CY];lia
theorem Nj{b:Bs}(ok:mw b)(h6:l_ b≤6)(hm:nN b≤40):(∀k∈qR b,k≤1000000)∧∀k∈sg b,k≤1000000:=by
 rw[wa,C7];constructor
 all_goals
  intro k hk;obtain⟨p,hp,rfl⟩:=fh.mp hk;have c:=wG p.2 (fu ok p hp);have A3:=fk p hp;have JH:=i0 p hp;have:=vC (d:=cM p.2) (m:=cQ p.2) (by lia) (by lia)
  lia
noncomputable def nI(k:Nat):V:= .int (k:Int)
theorem DQ(l:List Nat):(l.map fun k:Nat=>(k:Int)).map V.int=l.map nI:=by rw[iL];rfl
theorem yy{l:List Nat}(h:∀k∈l,k≤1000000):∀n∈l.map (fun k:Nat=>(k:Int)),0≤n∧n≤1000000:=fun n hn=>by
 obtain⟨k,hk,rfl⟩:=fh.mp hn;have:=h k hk;constructor<;>lia
theorem Pw{H:Hp}{xs:ak}{l:Str}{m n:Int}(h:DatAll H xs [.str l,.int m,.int n]):∃x1 x2,xs=[x1,x2,.int n]:=by
 cases h with
 |cons a r=>
  cases r with
  |cons b r=>
   cases r with
   |cons c r=>
    cases r;cases c;exact⟨_,_,rfl⟩
noncomputable def KG(n:Nat):Sp:=spS n fun t s v H Q=>cQ s≤40∧cM s≤6∧∀H',aj H H'→Q (.int (gD s:Nat)) H'
noncomputable def aer(n:Nat):Sp:=pC fun H0 d v H Q=>lq d<n∧1+l6 d≤40∧lq d≤6∧∀H',aj H H'→Q (.int (yt d:Nat)) H'
theorem Bj(T:Txt K mg A)(Fm:rT P w K A fm)(n:Nat)(ih:aM P w K mg base cK (2+2*n) A.pG A.qd ["body"] (KG n)):aM P w K mg base cK (3+2*n) A.vc A.vg ["deed"] (aer (n+1)):=by
 have el:3+2*n=(2+2*n)+1:=by lia
 rw[el];have qf:=dI (P:=P) (w:=w) (base:=base) T Fm;have Ep:=ih;refine T.uv.F.ok rP (fun vs H Q E h=> ?_) (fun cj Ar outer s0 H vs Q E hr h=> ?_)
 ·obtain⟨H0,v,d,rfl,_⟩:=h;rfl
 ·obtain⟨H0,v,d,rfl,ju,hd,ok,dp,hm,h6,q⟩:=h;obtain⟨a,ks,xs,C8,rfl,p0⟩:=cG hd ok;refine⟨_,(ag (F8 1 rP.nd ["body"] 1 [] (cz (cn (dI T Fm) hr T.fG az (aH (pv 0)) (hj:=by lia))) (fun _ _ _ _ _=>⟨(fO 0 (show(["body"]:ao).Nodup by decide+kernel)),uS,(cn ih hr T.lj az (aH (pv 0)) (hj:=by lia))⟩)) (ag (bu (wp dM (cU aX (pv 0) af) aB) (ai (aF (aO bz af (h8 (Co rfl) T.wQ Boot.«max» (aH (pv 1)))))) aV) (ag (bu (wp dM (cU aX (pv 0) af) aB) (ai (aF (aO l7 (cU aX (pv 0) af) (cU a7 (pv 1) af)))) aV) (ai (aF (h8 (zu rfl) T.M_ Boot.«sum» (aH (pv 1)))))))),?_⟩;refine⟨_,rfl,H0,_,d,rfl,ju,hd,ok,fun l ys H1 VG s1 hz hB=>⟨l,rfl,⟨_,bF.of hz⟩,?_⟩⟩;have bl:=iF hB;have Qb:=gQ ok;have Xi:=iS d;have hmn:=oY d
  have hys:ys.length≤4:=by
   have:=iF p0.hy;have f4:=dz p0.f;rw[ba,gN] at f4
   lia
  refine gc (fun _=>true) (fun i=>nI ((qR d.bs).getD i 0)) (dN (bF.of hz)).g (aR hys (by decide)) ?_ fun p2 H2 h0 s2 h2=> ?_
  ·intro i x H' C1 C0 hi sm hy c1 c0;obtain⟨p,ep,hp⟩:=ig hB hy;have pm:=bJ ep;have vH:=fu Qb p pm;have A3:=fk p pm;have JH:=i0 p pm;have:=c1 rfl;rw[wa,ZB (fun p:Bool×Ds=>gD p.2) ep] at this;exact⟨(fz.refl _).own (by decide),_,rfl,x,p.1,p.2,rfl,hp.same (ju.trans (s1.trans sm)),vH,by lia,by lia,by lia,this⟩
  ·rw[ji.mpr (fun _ _=>rfl),bl,show d.bs.l.length=(qR d.bs).length by rw[wa,aK],xL nI] at h2;have s3:=s1.trans s2;have p:=p0.same (ju.trans s3);have q' :=q H2 s3;have cost:=Nj Qb (aR (n5 Xi.symm) h6) (by lia);have hx:=p.hx;have kU:=iF p0.hy;clear hB ih Ep qf
   cases jaa ok with
   |ei t b u c=>
    rw[yt,aA rfl] at q';simp only[Dd.bs,qR] at h2 q'
    rw[show((1+pZ [gD b,gD c]:Nat):Int)=(1:Int)+(if((gD c:Nat):Int)>((gD b:Nat):Int) then((gD c:Nat):Int) else((gD b:Nat):Int)) by
     show((1+max (gD b) (max (gD c) 0):Nat):Int)=_
     split<;>lia] at q'
    exact⟨_,rfl,a,_,0,_,rfl,rfl,bc.of p.e,l5 _ _,rfl,_,rfl,eqT ⟨_,rfl,p2,_,_,rfl,h2,1,_,rfl,rfl,q'⟩⟩
   |tu l m n t b hl hg m1 m3 n0 n4=>
    rw[yt,ay (by decide+kernel),aA rfl] at q';simp only[Dd.bs,qR] at h2 q';obtain⟨x1,x2,rfl⟩:=Pw hx;refine⟨_,rfl,a,_,0,_,rfl,rfl,bc.of p.e,l5 _ _,rfl,_,rfl,iH (c6 (show("turns" :Str)≠ "either" by decide+kernel)) ⟨_,rfl,a,_,0,_,rfl,rfl,bc.of p.e,l5 _ _,rfl,_,rfl,eqT ?_⟩⟩;refine⟨_,rfl,a,_,3,_,rfl,rfl,bc.of p.e,bU (j:=3) rfl,_,rfl,p2,_,0,_,rfl,rfl,bF.of h2,rfl,n,_,rfl,rfl,.inl ⟨by lia,by lia⟩,?_⟩
    rw[show((Xv [.str l,.int m,.int n]*[gD b].headD 0:Nat):Int)=n*((gD b:Nat):Int) by
     show((n.toNat*gD b:Nat):Int)=_;rw[yD,yT n0]] at q'
    exact q'
   |fr l t b hl hg=>
    rw[yt,ay (by decide+kernel),ay (by decide+kernel)] at q';refine⟨_,rfl,a,_,0,_,rfl,rfl,bc.of p.e,l5 _ _,rfl,_,rfl,iH (c6 (show("frame" :Str)≠ "either" by decide+kernel)) ⟨_,rfl,a,_,0,_,rfl,rfl,bc.of p.e,l5 _ _,rfl,_,rfl,iH (c6 (show("frame" :Str)≠ "turns" by decide+kernel)) ?_⟩⟩;rw[←DQ] at h2;rw[←ug] at q';exact⟨_,rfl,p2,_,rfl,h2,by rw[aK,wa,aK];lia,yy cost.1,q'⟩
   |sm w ks ps f h n1 n2 n3=>
    rw[yt,ay n1,ay n2] at q';refine⟨_,rfl,a,_,0,_,rfl,rfl,bc.of p.e,l5 _ _,rfl,_,rfl,iH (c6 n1) ⟨_,rfl,a,_,0,_,rfl,rfl,bc.of p.e,l5 _ _,rfl,_,rfl,iH (c6 n2) ?_⟩⟩;rw[←DQ] at h2;rw[←ug] at q';exact⟨_,rfl,p2,_,rfl,h2,by rw[aK,wa,aK];lia,yy cost.1,q'⟩
theorem uz(T:Txt K mg A)(Fm:rT P w K A fm)(n:Nat):aM P w K mg base cK (2+2*n) A.pG A.qd ["body"] (KG n):=by
 induction n with
 |zero=>exact d_ (by rintro vs H Q E ⟨v,t,s,_,_,_,h,_⟩;exact g8 _ h)
 |succ n ih=>
 have el:2+2*(n+1)=(3+2*n)+1:=by lia
 rw[el];refine T.lj.F.ok DY (fun vs H Q E h=> ?_) (fun cj Ar outer s0 H vs Q E hr h=> ?_)
 ·obtain⟨v,t,s,rfl,_⟩:=h;rfl
 ·obtain⟨v,t,s,rfl,hd,ok,dp,hm,h6,q⟩:=h;obtain⟨a,vs,rfl,ha,hA⟩:=fT hd;have sl:=Ka s;have vl:=rB hA;refine⟨_,(ai (aF (h8 (zu rfl) T.M_ Boot.«sum» (aH (F1 ["deed"] 1 [] (pV (pv 0)) (fun _ _ _ _ _=>⟨(fO 0 (show(["deed"]:ao).Nodup by decide+kernel)),uS,(cn (Bj T Fm n ih) hr T.uv az (aH (pv 0)) (hj:=by lia))⟩)))))),?_⟩;refine⟨_,rfl,a,t,rfl,MD ha,?_⟩;refine gc (fun _=>true) (fun i=>nI ((s.l.map yt).getD i 0)) (Fv ha).g (aR (show vs.length≤40 by lia) (by decide)) ?_ fun p2 H2 h0 s2 h2=> ?_
  ·intro i x H' C1 C0 hi sm hy c1 c0;obtain⟨d,ed,k9⟩:=h9 hA hy;have dm:=bJ ed;have Hm:=eT d dm;have NX:=ie d dm;have:=c1 rfl;rw[ZB yt ed] at this;exact⟨(fz.refl _).own (by decide),_,rfl,H,x,d,rfl,sm,k9,eE ok d dm,by lia,by lia,by lia,this⟩
  ·rw[ji.mpr (fun _ _=>rfl),vl,show s.l.length=(s.l.map yt).length by rw[aK],xL nI] at h2;rw[←DQ] at h2;have q' :=q H2 s2;rw[Gv,←ug] at q';refine⟨p2,_,rfl,h2,by rw[aK,aK];lia,yy fun k hk=> ?_,?_⟩
   ·obtain⟨d,dm,rfl⟩:=fh.mp hk;have c:=Lv d (eE ok d dm);have Hm:=eT d dm;have NX:=ie d dm;have:=vC (d:=lq d) (m:=1+l6 d) (by lia) (by lia)
    lia
   ·exact q'
noncomputable def MV(n:Nat):Sp:=spS n fun t s v H Q=>cQ s≤40∧cM s≤6∧∀H',aj H H'→Q (.int (gC s:Nat)) H'
noncomputable def ZP(n:Nat):Sp:=pC fun H0 d v H Q=>lq d<n∧1+l6 d≤40∧lq d≤6∧∀H',aj H H'→Q (.int (yG d:Nat)) H'
theorem CW(T:Txt K mg A)(Fm:rT P w K A fm)(n:Nat)(ih:aM P w K mg base cK (2+2*n) A.nC A.nT ["body"] (MV n)):aM P w K mg base cK (3+2*n) A.wU A.xj ["deed"] (ZP (n+1)):=by
 have el:3+2*n=(2+2*n)+1:=by lia
 rw[el];have qf:=dI (P:=P) (w:=w) (base:=base) T Fm;have Dn:=ih;refine T.xu.F.ok uK (fun vs H Q E h=> ?_) (fun cj Ar outer s0 H vs Q E hr h=> ?_)
 ·obtain⟨H0,v,d,rfl,_⟩:=h;rfl
 ·obtain⟨H0,v,d,rfl,ju,hd,ok,dp,hm,h6,q⟩:=h;obtain⟨a,ks,xs,C8,rfl,p0⟩:=cG hd ok;refine⟨_,(ag (F8 1 uK.nd ["body"] 1 [] (cz (cn (dI T Fm) hr T.fG az (aH (pv 0)) (hj:=by lia))) (fun _ _ _ _ _=>⟨(fO 0 (show(["body"]:ao).Nodup by decide+kernel)),uS,(cn ih hr T.jC az (aH (pv 0)) (hj:=by lia))⟩)) (ag (bu (wp dM (cU aX (pv 0) af) aB) (ai (aF (aO bz af (h8 (Co rfl) T.wQ Boot.«max» (aH (pv 1)))))) aV) (ag (bu (wp dM (cU aX (pv 0) af) aB) (ai (aF (aO bz (aO l7 (cU aX (pv 0) af) (aO bz af (cU a7 (pv 1) af))) af))) aV) (ag (bu (wp dM (cU aX (pv 0) af) aB) (ai (aF (aO bz (aO bz af (cU a7 (pv 1) af)) af))) aV) (ai (aF af)))))),?_⟩;refine⟨_,rfl,H0,_,d,rfl,ju,hd,ok,fun l ys H1 VG s1 hz hB=>⟨l,rfl,⟨_,bF.of hz⟩,?_⟩⟩;have bl:=iF hB;have Qb:=gQ ok;have Xi:=iS d;have hmn:=oY d
  have hys:ys.length≤4:=by
   have:=iF p0.hy;have f4:=dz p0.f;rw[ba,gN] at f4
   lia
  refine gc (fun _=>true) (fun i=>nI ((sg d.bs).getD i 0)) (dN (bF.of hz)).g (aR hys (by decide)) ?_ fun p2 H2 h0 s2 h2=> ?_
  ·intro i x H' C1 C0 hi sm hy c1 c0;obtain⟨p,ep,hp⟩:=ig hB hy;have pm:=bJ ep;have vH:=fu Qb p pm;have A3:=fk p pm;have JH:=i0 p pm;have:=c1 rfl;rw[C7,ZB (fun p:Bool×Ds=>gC p.2) ep] at this;exact⟨(fz.refl _).own (by decide),_,rfl,x,p.1,p.2,rfl,hp.same (ju.trans (s1.trans sm)),vH,by lia,by lia,by lia,this⟩
  ·rw[ji.mpr (fun _ _=>rfl),bl,show d.bs.l.length=(sg d.bs).length by rw[C7,aK],xL nI] at h2;have s3:=s1.trans s2;have p:=p0.same (ju.trans s3);have q' :=q H2 s3;have cost:=Nj Qb (aR (n5 Xi.symm) h6) (by lia);have hx:=p.hx;have kU:=iF p0.hy;clear hB ih Dn qf
   cases jaa ok with
   |ei t b u c=>
    rw[yG,aA rfl] at q';simp only[Dd.bs,sg] at h2 q'
    rw[show((1+pZ [gC b,gC c]:Nat):Int)=(1:Int)+(if((gC c:Nat):Int)>((gC b:Nat):Int) then((gC c:Nat):Int) else((gC b:Nat):Int)) by
     show((1+max (gC b) (max (gC c) 0):Nat):Int)=_
     split<;>lia] at q'
    exact⟨_,rfl,a,_,0,_,rfl,rfl,bc.of p.e,l5 _ _,rfl,_,rfl,eqT ⟨_,rfl,p2,_,_,rfl,h2,1,_,rfl,rfl,q'⟩⟩
   |tu l m n t b hl hg m1 m3 n0 n4=>
    rw[yG,ay (by decide+kernel),aA rfl] at q';simp only[Dd.bs,sg] at h2 q';obtain⟨x1,x2,rfl⟩:=Pw hx;refine⟨_,rfl,a,_,0,_,rfl,rfl,bc.of p.e,l5 _ _,rfl,_,rfl,iH (c6 (show("turns" :Str)≠ "either" by decide+kernel)) ⟨_,rfl,a,_,0,_,rfl,rfl,bc.of p.e,l5 _ _,rfl,_,rfl,eqT ?_⟩⟩;refine⟨_,rfl,a,_,3,_,rfl,rfl,bc.of p.e,bU (j:=3) rfl,_,rfl,p2,_,0,_,rfl,rfl,bF.of h2,rfl,1,_,rfl,rfl,n,_,rfl,rfl,.inl ⟨by lia,by lia⟩,_,1,rfl,rfl,?_⟩
    rw[show((Xv [.str l,.int m,.int n]*(1+[gC b].headD 0)+1:Nat):Int)=n*(1+((gC b:Nat):Int))+1 by
     show((n.toNat*(1+gC b)+1:Nat):Int)=_;rw[qr,yD,yT n0];rfl] at q'
    exact q'
   |fr l t b hl hg=>
    rw[yG,ay (by decide+kernel),ay (by decide+kernel),aA rfl] at q';simp only[Dd.bs,sg] at h2 q';refine⟨_,rfl,a,_,0,_,rfl,rfl,bc.of p.e,l5 _ _,rfl,_,rfl,iH (c6 (show("frame" :Str)≠ "either" by decide+kernel)) ⟨_,rfl,a,_,0,_,rfl,rfl,bc.of p.e,l5 _ _,rfl,_,rfl,iH (c6 (show("frame" :Str)≠ "turns" by decide+kernel)) ⟨_,rfl,a,_,0,_,rfl,rfl,bc.of p.e,l5 _ _,rfl,_,rfl,eqT ?_⟩⟩⟩;refine⟨_,rfl,p2,_,0,_,rfl,rfl,bF.of h2,rfl,1,_,rfl,rfl,_,1,rfl,rfl,?_⟩;exact q'
   |sm w ks ps f h n1 n2 n3=>
    rw[yG,ay n1,ay n2,ay n3] at q';exact⟨_,rfl,a,_,0,_,rfl,rfl,bc.of p.e,l5 _ _,rfl,_,rfl,iH (c6 n1) ⟨_,rfl,a,_,0,_,rfl,rfl,bc.of p.e,l5 _ _,rfl,_,rfl,iH (c6 n2) ⟨_,rfl,a,_,0,_,rfl,rfl,bc.of p.e,l5 _ _,rfl,_,rfl,iH (c6 n3) q'⟩⟩⟩
theorem rX(T:Txt K mg A)(Fm:rT P w K A fm)(n:Nat):aM P w K mg base cK (2+2*n) A.nC A.nT ["body"] (MV n):=by
 induction n with
 |zero=>exact d_ (by rintro vs H Q E ⟨v,t,s,_,_,_,h,_⟩;exact g8 _ h)
 |succ n ih=>
 have el:2+2*(n+1)=(3+2*n)+1:=by lia
 rw[el];refine T.jC.F.ok A7 (fun vs H Q E h=> ?_) (fun cj Ar outer s0 H vs Q E hr h=> ?_)
 ·obtain⟨v,t,s,rfl,_⟩:=h;rfl
 ·obtain⟨v,t,s,rfl,hd,ok,dp,hm,h6,q⟩:=h;obtain⟨a,vs,rfl,ha,hA⟩:=fT hd;have sl:=Ka s;have vl:=rB hA;refine⟨_,(ai (aF (h8 (zu rfl) T.M_ Boot.«sum» (aH (F1 ["deed"] 1 [] (pV (pv 0)) (fun _ _ _ _ _=>⟨(fO 0 (show(["deed"]:ao).Nodup by decide+kernel)),uS,(cn (CW T Fm n ih) hr T.xu az (aH (pv 0)) (hj:=by lia))⟩)))))),?_⟩;refine⟨_,rfl,a,t,rfl,MD ha,?_⟩;refine gc (fun _=>true) (fun i=>nI ((s.l.map yG).getD i 0)) (Fv ha).g (aR (show vs.length≤40 by lia) (by decide)) ?_ fun p2 H2 h0 s2 h2=> ?_
  ·intro i x H' C1 C0 hi sm hy c1 c0;obtain⟨d,ed,k9⟩:=h9 hA hy;have dm:=bJ ed;have Hm:=eT d dm;have NX:=ie d dm;have:=c1 rfl;rw[ZB yG ed] at this;exact⟨(fz.refl _).own (by decide),_,rfl,H,x,d,rfl,sm,k9,eE ok d dm,by lia,by lia,by lia,this⟩
  ·rw[ji.mpr (fun _ _=>rfl),vl,show s.l.length=(s.l.map yG).length by rw[aK],xL nI] at h2;rw[←DQ] at h2;have q' :=q H2 s2;rw[FQ,←ug] at q';refine⟨p2,_,rfl,h2,by rw[aK,aK];lia,yy fun k hk=> ?_,?_⟩
   ·obtain⟨d,dm,rfl⟩:=fh.mp hk;have c:=Lv d (eE ok d dm);have Hm:=eT d dm;have NX:=ie d dm;have:=vC (d:=lq d) (m:=1+l6 d) (by lia) (by lia)
    lia
   ·exact q'
mutual
inductive hX (H:Hp):V→PyData→Prop
 |bx:hX H .bx .none
 |int (i:Int):hX H (.int i) (.int i)
 |str (x:Str):hX H (.str x) (.str x)
 |tup {a:Addr} {xs:ak} {ds:List PyData} (e:H a=some (.tup xs)) (h:bo H xs ds):hX H (.ref a) (.tuple ds)
inductive bo (H:Hp):ak→List PyData→Prop
 |nil:bo H [] []
 |cons {x:V} {xs:ak} {d:PyData} {ds:List PyData} (h:hX H x d) (t:bo H xs ds):bo H (x::xs) (d::ds)
end
mutual
theorem hX.dat{H:Hp}:∀{v:V} {d:PyData},hX H v d→Dat H v d
 |_,_,.bx=> .bx
 |_,_,.int i=> .int i
 |_,_,.str x=> .str x
 |_,_,.tup e h=> .tup e (bo.dat h)
theorem bo.dat{H:Hp}:∀{xs:ak} {ds:List PyData},bo H xs ds→DatAll H xs ds
 |_,_,.nil=> .nil
 |_,_,.cons h t=> .cons (hX.dat h) (bo.dat t)
end
mutual
theorem hX.kt{H H' :Hp}(k:∀c xs,H c=some (.tup xs)→H' c=some (.tup xs)):∀{v:V} {d:PyData},hX H v d→hX H' v d
 |_,_,.bx=> .bx
 |_,_,.int i=> .int i
 |_,_,.str x=> .str x
 |_,_,.tup e h=> .tup (k _ _ e) (bo.kt k h)
theorem bo.kt{H H' :Hp}(k:∀c xs,H c=some (.tup xs)→H' c=some (.tup xs)):∀{xs:ak} {ds:List PyData},bo H xs ds→bo H' xs ds
 |_,_,.nil=> .nil
 |_,_,.cons h t=> .cons (hX.kt k h) (bo.kt k t)
end
theorem bo.append{H:Hp}:∀{xs ys:ak} {ds es:List PyData},bo H xs ds→bo H ys es→bo H (xs++ys) (ds++es)
 |_,_,_,_,.nil,h=>h
 |_,_,_,_,.cons a t,h=> .cons a (t.append h)
mutual
noncomputable def lP:Dd→Dd
 | .mk w ps bs=> .mk w ps (qZ bs)
noncomputable def gU:Ds→Ds
 | .nil=> .nil
 | .cons d r=> .cons (lP d) (gU r)
noncomputable def qZ:Bs→Bs
 | .nil=> .nil
 | .cons _ b r=> .cons true (gU b) (qZ r)
end
theorem Sj:∀s:Ds,(gU s).l=s.l.map lP
 | .nil=>by rw[gU];rfl
 | .cons d r=>by rw[gU];show lP d::(gU r).l=_;rw[Sj r];rfl
theorem Mm:∀b:Bs,(qZ b).l=b.l.map fun p=>(true,gU p.2)
 | .nil=>by rw[qZ];rfl
 | .cons t b r=>by rw[qZ];show(true,gU b)::(qZ r).l=_;rw[Mm r];rfl
theorem DS(d:Dd):dD (lP d)= .tuple (.str d.wd::(d.ps++d.bs.l.map fun p=> .tuple (sL (gU p.2)))):=by
 cases d with
 |mk w ps bs=>
  rw[lP,dD,zc,Mm,iL];rfl
theorem NC{H:Hp}{k:Str}{v:V}{d:PyData}(h:tE k d){H' :Hp}(hd:Dat H v d):hX H' v d:=by
 cases h<;>cases hd<;>constructor
noncomputable def Sn(d:Dd):List PyData:=d.ps++d.bs.l.map fun p=> .tuple (sL (gU p.2))
theorem bo.snoc{H:Hp}{xs:ak}{ds:List PyData}{v:V}{d:PyData}(h:bo H xs ds)(g:hX H v d):bo H (xs++[v]) (ds++[d]):=h.append (.cons g .nil)
theorem wv{α:Type}{l:List α}{i:Nat}{x:α}(e:l[i]? =some x):l.take (i+1)=l.take i++[x]:=by
 rw[qD,e];rfl
theorem vO{H:Hp}:∀{xs:ak} {ds:List PyData},bo H xs ds→xs.length=ds.length
 |_,_,.nil=>rfl
 |_,_,.cons _ t=>by rw[aW,aW,vO t]
noncomputable def LO(c:Addr)(qn:Str):Sp:=fun vs H Q _=>∃i v,vs=[.int i,v]∧H c=some (.ext (g9 c qn))∧∀l,H l=none→Q (.ref l) (upd H l (.lst [v]))
noncomputable def IZ(f c:Addr)(qn:Str)(n:Nat):Sp:=fun vs H Q _=>∃H0 v t s,∃i:Int,vs=[v,.ref f,.int i]∧aj H0 H∧Dat H0 v (gg t (sL s))∧gw s∧cM s<n∧cQ s≤1000∧H c=some (.ext (g9 c qn))∧
 ∀tt H',H tt=none→aj H H'→hX H' (.ref tt) (.tuple (sL (gU s)))→Q (.ref tt) H'
noncomputable def VY(f c:Addr)(qn:Str)(n:Nat):Sp:=fun vs H Q _=>∃H0 v d,∃i:Int,vs=[v,.ref f,.int i]∧aj H0 H∧Dat H0 v (dD d)∧ip d∧lq d<n∧l6 d≤1000∧H c=some (.ext (g9 c qn))∧
 ∀tt H',H tt=none→aj H H'→hX H' (.ref tt) (dD (lP d))→Q (.ref tt) H'
theorem As(T:Txt K mg A)(Fm:rT P w K A fm){f c:Addr}{qn:Str}(n:Nat)(ih:aM P w K mg base cK (3+2*n) A.lM A.dJ ["body","change","first"] (IZ f c qn n)):
 aM P w K mg base cK (4+2*n) A.rO A.rN ["deed","change","first"] (VY f c qn (n+1)):=by
 have el:4+2*n=(3+2*n)+1:=by lia
 rw[el];refine T.rZ.F.ok ee (fun vs H Q E h=> ?_) (fun cj Ar outer s0 H vs Q E hr h=> ?_)
 ·obtain⟨H0,v,d,i,rfl,_⟩:=h;rfl
 ·obtain⟨H0,v,d,i,rfl,ju,hd,ok,dp,hm,hc,q⟩:=h;obtain⟨a,ks,xs,ys,rfl,p0⟩:=cG hd ok;have p:=p0.same ju;have bl:=iF p0.hy;have Qb:=gQ ok;have Xi:=iS d;have hmn:=oY d;have Zh:=p.lx;have hlp:=eQ p.hx;have h4:=dz p.f;have hl:=p.len;refine⟨_,(ag (eU 3 ee.nd (bg (aH (cU aX (pv 0) af)))) (ag (eU 4 ee.nd (pv 2)) (ag (vI (cz (cn (lD T Fm) hr T.kI az (aH (pv 0)) (hj:=by lia))) (lX rfl (a_ (fO 5 ee.nd) (a_ (fO 6 ee.nd) fq))) (ai (bu (wp dM (pv 5) aB) (ag (bf (jg eO PySem.F.slot_list_append PySem.F.type_list_append cI (pv 3) (aH (ada ih hr T.lu az (ae (pv 6) (ae (pv 1) (aH (pv 4)))) (hj:=by lia))))) (ai (F7 (i:=4) ee.nd rfl (Or.inl rfl) (cn (sI T Fm n) hr T.mS az (aH (pv 6)) (hj:=by lia)) FY))) (ai (bf (jg eO PySem.F.slot_list_append PySem.F.type_list_append cI (pv 3) (aH (pv 6)))))))) (ai (aF (K1 dQ T.jP Boot.«tuple» (aH (pv 3)))))))),?_⟩;refine⟨_,rfl,a,_,0,_,rfl,rfl,bc.of p.e,l5 _ _,sS,fun pl jN=>⟨_,rfl,?_⟩⟩;have s1:=aj.upd (o:= .lst [V.str d.wd]) jN;have Wu:upd H pl (.lst [V.str d.wd]) pl=some (.lst [V.str d.wd]):=aa;generalize upd H pl (.lst [V.str d.wd])=H1 at s1 Wu ⊢;refine⟨_,rfl,a,d.wd,_,_,rfl,s1 _ _ p.e,p.f,p.len,fun l zs H2 kU s2 hz zp=>⟨l,rfl,⟨_,bF.of hz⟩,?_⟩⟩;have Vl:zs.length=(ks++List.replicate ys.length ("body" :Str)).length:=by rw[zp.len,aK]
  have aep:l≠pl:=(aw Wu kU).symm;have yQ:=s1.trans s2;have Y6:=s2 _ _ Wu;rw[ba,gN] at h4 Vl;refine dF (K:=K) (a:=l) (xs:=zs) (fun j σ H' =>∃(x5 x6:Option V) (k:Int) (ws:ak),σ=[some (.ref a),some (.ref f),some (.int i),some (.ref pl),some (.int k),x5,x6]∧Kept pl H2 H'∧H' pl=some (.lst ws)∧bo H' ws (.str d.wd::(Sn d).take j)) ⟨_,_,i,_,rfl,Kept.refl _ _,Y6,.cons (.str _) .nil⟩ (by rintro i σ H' _ ⟨_,_,_,_,_,k,_⟩;exact bF.of (k _ _ aep hz)) ?_ ?_
  ·rintro j z σ H' hj ⟨x5,x6,k,ws,rfl,kp,E2,tw⟩
   have hjl:=(dq.mp hj).1;obtain⟨tt,x,y,rfl,hT,e1,e2⟩:=jac zp (by rw[aK];exact p.len) hj;rw[bj] at e1;have Ig :=kp _ _ (bW Y6 hT (fun z=>nomatch z)).symm hT;have SH:aj H H' :=fun c o e=>kp c o (aw e jN) (yQ _ _ e);have wl:=vO tw
   have wl4:ws.length≤5:=by
    rw[wl,aW,gG]
    lia
   cases ek:(ks++List.replicate ys.length ("body" :Str))[j]? with
   |none=>rw[ek] at e1;cases e1
   |some k' =>
    rw[ek] at e1;cases e1;refine⟨tt,_,rfl,bc.of Ig,rfl,_,_,rfl,_,_,rfl,rfl,_,rfl,rfl,_,rfl,?_⟩;by_cases hb:xs.length≤j
    ·rw[gM (by lia),si] at ek;rw[gM hb] at e2
     split at ek
     ·cases ek;obtain⟨pp,ep,hp⟩:=ig p0.hy e2;have pm:=bJ ep;have vH:=fu Qb pp pm;have A3:=fk pp pm;have JH:=i0 pp pm
      have ej:(Sn d)[j]? =some (.tuple (sL (gU pp.2))):=by
       unfold Sn;rw[gM (by lia),bj,←hlp,ep];rfl
      refine eqT ⟨_,rfl,Dm E2,_,rfl,_,rfl,_,rfl,H0,y,pp.1,pp.2,k,rfl,ju.trans SH,hp,vH,by lia,by lia,SH _ _ hc,fun t1 H3 wg s3 td=>⟨pl,ws,_,rfl,rfl,s3 _ _ E2,gp wl4 (by decide),?_⟩⟩;have abT:=s3 _ _ E2;have kt:=KT.upd (o:= .lst (ws++[.ref t1])) abT;refine⟨_,rfl,_,rfl,y,pp.1,pp.2,rfl,hp.same (fun c o e=> ?_),vH,by lia,fun H4 s4=>⟨_,_,rfl,rfl,_,_,_,ws++[.ref t1],rfl,?_,s4 _ _ aa,?_⟩⟩
      ·rw[av (aw (ju _ _ e) jN)];exact s3 _ _ (SH _ _ (ju _ _ e))
      ·exact fun c o hc e=>s4 _ _ (by rw[av hc];exact s3 _ _ (kp c o hc e))
      ·rw[wv ej];exact(((tw.kt (KT.same s3)).snoc td).kt kt).kt (KT.same s4)
     ·cases ek
    ·rw[dP (by lia)] at ek;rw[dP (by lia)] at e2;obtain⟨d',f1,f2⟩:=fD p0.hx j y e2;have ft:=kg p0.fit j k' d' ek f1
     have ej:(Sn d)[j]? =some d' :=by
      unfold Sn;rw[dP (by lia)];exact f1
     refine iH (c6 (Hg ft)) ⟨_,rfl,Dm E2,_,rfl,pl,ws,_,rfl,rfl,E2,gp wl4 (by decide),_,_,_,ws++[y],rfl,?_,aa,?_⟩
     ·exact fun c o hc e=>by
       rw[av hc];exact kp c o hc e
     ·rw[wv ej];exact(tw.snoc (NC ft f2)).kt (KT.upd E2)
  ·rintro σ H' ⟨x5,x6,k,ws,rfl,kp,E2,tw⟩
   refine⟨_,rfl,pl,ws,rfl,.inl ⟨bF.of E2,fun tt sF=> ?_⟩⟩;have SH:aj H H' :=fun c o e=>kp c o (aw e jN) (yQ _ _ e);refine q tt _ (SH.free sF) (SH.trans (aj.upd sF)) ?_;rw[DS]
   have el2:(Sn d).take zs.length=Sn d:=sH (by
    unfold Sn;rw[ba,aK]
    lia)
   rw[el2] at tw;exact .tup aa (tw.kt (KT.same (aj.upd sF)))
theorem IV(s:Ds):sL (gU s)=s.l.map fun d=>dD (lP d):=by rw[Cr,Sj,iL];rfl
theorem Dr(T:Txt K mg A)(Fm:rT P w K A fm){f c:Addr}{qn:Str}{Z6 Pj :FuncData}(Vg:aM P w K mg base cK 1 f Z6 ["number","deed"] (LO c qn))(WI:∃oc od sl,base.get? f=some ⟨oc,od,.func Pj,sl⟩)(VE:Binds K Z6 ["number","deed"] [])(n:Nat):
 aM P w K mg base cK (3+2*n) A.lM A.dJ ["body","change","first"] (IZ f c qn n):=by
 induction n with
 |zero=>exact d_ (by rintro vs H Q E ⟨H0,v,t,s,i,_,_,_,_,h,_⟩;exact g8 _ h)
 |succ n ih=>
 have JK:aM P w K mg base cK (2+(n+1)) A.wx A.vN ["body"] (Mw (n+1)):=sI T Fm (n+1);have el:3+2*(n+1)=(4+2*n)+1:=by lia
 rw[el];refine T.lu.F.ok ik (fun vs H Q E h=> ?_) (fun cj Ar outer s0 H vs Q E hr h=> ?_)
 ·obtain⟨H0,v,t,s,i,rfl,_⟩:=h;rfl
 ·obtain⟨H0,v,t,s,i,rfl,ju,hd,ok,dp,hm,hc,q⟩:=h;obtain⟨a,vs,rfl,ha,hA⟩:=fT hd;have sl:=Ka s;have vl:=rB hA;have Hr:(1000:Nat)≤sizeLine:=by decide
  refine⟨_,(ag (eU 3 ik.nd (bg dr)) (ag (eU 4 ik.nd (pv 2)) (ag (vI (pV (pv 0)) (fO 5 ik.nd) (ag (bf (jg eO yB type_list_extend vV (pv 3) (aH (KL Vg WI hr VE az (pv 1) (ae (pv 4) (aH (cn (As T Fm n ih) hr T.rZ az (ae (pv 5) (ae (pv 1) (aH (aO bz (pv 4) af)))) (hj:=by lia)))) (hj:=by lia))))) (ai (F7 (i:=4) ik.nd rfl (Or.inl rfl) (cn JK hr T.mS az (aH (a9 (aH (pv 5)))) (hj:=by lia)) FY)))) (ai (aF (K1 dQ T.jP Boot.«tuple» (aH (pv 3)))))))),?_⟩;refine⟨mI,fun tl htl=>⟨_,rfl,_,rfl,a,t,rfl,MD (aj.upd htl _ _ (ju _ _ ha)),?_⟩⟩;refine ng (K:=K) (t:=t) (a:=a) (xs:=vs) (fun j σ H' =>∃(x5:Option V) (k:Int) (ws:ak),σ=[some (.ref a),some (.ref f),some (.int i),some (.ref tl),some (.int k),x5]∧aj H H'∧H' tl=some (.lst ws)∧bo H' ws ((sL (gU s)).take j)) ⟨_,i,[],rfl,aj.upd htl,aa,.nil⟩ (by rintro j σ H' _ ⟨_,_,_,_,sm,_⟩;exact sm _ _ (ju _ _ ha)) ?_ ?_
  ·rintro j x σ H' hx ⟨x5,k,ws,rfl,sm,DT,tw⟩
   obtain⟨d,ed,k9⟩:=h9 hA hx;have dm:=bJ ed;have gq:=eE ok d dm;have Hm:=eT d dm;have NX:=ie d dm;have wl:=vO tw;rw[gG] at wl;have hj:=(dq.mp hx).1
   have ej:(sL (gU s))[j]? =some (dD (lP d)):=by
    rw[IV,bj,ed];rfl
   refine⟨_,rfl,Dm DT,_,rfl,rfl,_,rfl,_,rfl,_,rfl,_,rfl,k,1,rfl,rfl,H0,x,d,k+1,rfl,ju.trans sm,k9,gq,by lia,by lia,sm _ _ hc,fun t1 H1 wg s1 td=> ?_⟩;refine⟨k,_,rfl,s1 _ _ (sm _ _ hc),fun l hl=>⟨tl,l,ws,[.ref t1],rfl,rfl,aj.upd hl _ _ (s1 _ _ DT),aa,by simp only[DM];lia,?_⟩⟩;have aeg:=aj.upd (o:= .lst [V.ref t1]) hl _ _ (s1 _ _ DT);have kt:KT H1 (upd (upd H1 l (.lst [V.ref t1])) tl (.lst (ws++[.ref t1]))):=(KT.same (aj.upd hl)).trans (KT.upd aeg);have S2:aj H (upd (upd H1 l (.lst [V.ref t1])) tl (.lst (ws++[.ref t1]))):=fC htl ((sm.trans s1).trans (aj.upd hl));have Y5:upd (upd H1 l (.lst [V.ref t1])) tl (.lst (ws++[.ref t1])) tl=some (.lst (ws++[.ref t1])):=aa;generalize upd (upd H1 l (.lst [V.ref t1])) tl (.lst (ws++[.ref t1]))=H2 at kt S2 Y5 ⊢;refine⟨_,rfl,_,rfl,sS,fun t2 wb=> ?_⟩;have s3:=aj.upd (o:= .tup [x]) wb;refine⟨_,true,.cons d .nil,rfl,?_,?_,?_,fun H4 s4=>⟨_,_,rfl,rfl,_,_,ws++[.ref t1],rfl,S2.trans (s3.trans s4),s4 _ _ (s3 _ _ Y5),?_⟩⟩
   ·rw[sL,sL];exact .tup aa (.cons (k9.same ((ju.trans S2).trans s3)) .nil)
   ·rw[gw,gw];exact⟨gq,True.intro⟩
   ·rw[cM,cM]
    lia
   ·rw[wv ej];exact(((tw.kt (KT.same s1)).snoc td).kt kt).kt (KT.same (s3.trans s4))
  ·rintro σ H' ⟨x5,k,ws,rfl,sm,DT,tw⟩
   refine⟨_,rfl,tl,ws,rfl,.inl ⟨bF.of DT,fun tt sF=> ?_⟩⟩;refine q tt _ (sm.free sF) (sm.trans (aj.upd sF)) ?_;rw[vl,sH (by rw[IV,aK];exact aG _)] at tw;exact .tup aa (tw.kt (KT.same (aj.upd sF)))
noncomputable def adp(K:Frag):Sp:=fun vs H Q _=>∃a C dd n x,vs=[.ref a,x]∧H a=some (.ext (c8 a C dd n))∧ExcC K C∧Q .bx H
theorem bD(T:Txt K mg A):aM P w K mg base cK 1 A.dH A.jb ["self","text"] (adp K):=by
 refine T.bt.F.zk oN ?_
 rintro cj Ar outer s H vs Q E hr ⟨a,C,dd,n,x,rfl,ea,hc,k⟩
 refine⟨_,(ai (bf (ML rfl T.CN (ae (pv 0) (aH (pv 1)))))),?_⟩;exact⟨_,rfl,_,rfl,a,C,dd,n,x,rfl,ea,hc,k⟩
noncomputable def E7(C:Addr)(fd:Str):Sp:=fun vs H Q _=>∃a x,vs=[.ref a,x]∧H a=some (.ext (c8 a C none true))∧∀dx,H dx=none→dx≠a→Q .bx (upd (upd H a (.ext (c8 a C (some dx) true))) dx (.xd [(fd,x)]))
theorem qQ(T:Txt K mg A):aM P w K mg base cK 2 A.gJ A.ki ["self","many"] (E7 A.fQ "many"):=by
 refine T.jR.F.zk rh ?_
 rintro cj Ar outer s H vs Q E hr ⟨a,x,rfl,ea,k⟩
 refine⟨_,(ag (bf (kf T.bG rfl T.fM.m ((bD T).mono (by decide)) hr T.bt.b .nil az (ae (pv 0) (aH aB)))) (ai (og (pv 0) (pv 1) rfl))),?_⟩;refine⟨_,rfl,a,A.fQ,none,true,_,rfl,ea,T.f_.X.toExcC,?_⟩;exact⟨_,rfl,_,rfl,a,A.fQ,true,rfl,T.f_.e,T.pT,.inl ⟨ea,fun dx hn ne=>k dx hn ne⟩⟩
theorem qW(T:Txt K mg A):aM P w K mg base cK 2 A.gH A.kE ["self","depth"] (E7 A.fW "depth"):=by
 refine T.ku.F.zk rf ?_
 rintro cj Ar outer s H vs Q E hr ⟨a,x,rfl,ea,k⟩
 refine⟨_,(ag (bf (kf T.bG rfl T.fM.m ((bD T).mono (by decide)) hr T.bt.b .nil az (ae (pv 0) (aH aB)))) (ai (og (pv 0) (pv 1) rfl))),?_⟩;refine⟨_,rfl,a,A.fW,none,true,_,rfl,ea,T.eY.X.toExcC,?_⟩;exact⟨_,rfl,_,rfl,a,A.fW,true,rfl,T.eY.e,T.oz,.inl ⟨ea,fun dx hn ne=>k dx hn ne⟩⟩
theorem q_(T:Txt K mg A):aM P w K mg base cK 2 A.gI A.kJ ["self","many"] (E7 A.gb "many"):=by
 refine T.kR.F.zk qY ?_
 rintro cj Ar outer s H vs Q E hr ⟨a,x,rfl,ea,k⟩
 refine⟨_,(ag (bf (kf T.bG rfl T.fM.m ((bD T).mono (by decide)) hr T.bt.b .nil az (ae (pv 0) (aH aB)))) (ai (og (pv 0) (pv 1) rfl))),?_⟩;refine⟨_,rfl,a,A.gb,none,true,_,rfl,ea,T.cY.X.toExcC,?_⟩;exact⟨_,rfl,_,rfl,a,A.gb,true,rfl,T.cY.e,T.pB,.inl ⟨ea,fun dx hn ne=>k dx hn ne⟩⟩
theorem rb(T:Txt K mg A):aM P w K mg base cK 2 A.gF A.ka ["self","many"] (E7 A.fX "many"):=by
 refine T.j8.F.zk rn ?_
 rintro cj Ar outer s H vs Q E hr ⟨a,x,rfl,ea,k⟩
 refine⟨_,(ag (bf (kf T.bG rfl T.fM.m ((bD T).mono (by decide)) hr T.bt.b .nil az (ae (pv 0) (aH aB)))) (ai (og (pv 0) (pv 1) rfl))),?_⟩;refine⟨_,rfl,a,A.fX,none,true,_,rfl,ea,T.cL.X.toExcC,?_⟩;exact⟨_,rfl,_,rfl,a,A.fX,true,rfl,T.cL.e,T.pY,.inl ⟨ea,fun dx hn ne=>k dx hn ne⟩⟩
theorem t8(T:Txt K mg A):aM P w K mg base cK 2 A.iI A.mL ["self","label"] (E7 A.jI "label"):=by
 refine T.my.F.zk uR ?_
 rintro cj Ar outer s H vs Q E hr ⟨a,x,rfl,ea,k⟩
 refine⟨_,(ag (bf (kf T.bG rfl T.fM.m ((bD T).mono (by decide)) hr T.bt.b .nil az (ae (pv 0) (aH aB)))) (ai (og (pv 0) (pv 1) rfl))),?_⟩;refine⟨_,rfl,a,A.jI,none,true,_,rfl,ea,T.hJ.X.toExcC,?_⟩;exact⟨_,rfl,_,rfl,a,A.jI,true,rfl,T.hJ.e,T.rA,.inl ⟨ea,fun dx hn ne=>k dx hn ne⟩⟩
theorem qX(T:Txt K mg A):aM P w K mg base cK 2 A.gO A.kl ["self","label"] (E7 A.fR "label"):=by
 refine T.j6.F.zk qO ?_
 rintro cj Ar outer s H vs Q E hr ⟨a,x,rfl,ea,k⟩
 refine⟨_,(ag (bf (kf T.bG rfl T.fM.m ((bD T).mono (by decide)) hr T.bt.b .nil az (ae (pv 0) (aH aB)))) (ai (og (pv 0) (pv 1) rfl))),?_⟩;refine⟨_,rfl,a,A.fR,none,true,_,rfl,ea,T.dy.X.toExcC,?_⟩;exact⟨_,rfl,_,rfl,a,A.fR,true,rfl,T.dy.e,T.oH,.inl ⟨ea,fun dx hn ne=>k dx hn ne⟩⟩
theorem o_(T:Txt K mg A):aM P w K mg base cK 2 A.gn A.jA ["self","found"] (E7 A.fE "found"):=by
 refine T.jB.F.zk qb ?_
 rintro cj Ar outer s H vs Q E hr ⟨a,x,rfl,ea,k⟩
 refine⟨_,(ag (bf (kf T.bG rfl T.fM.m ((bD T).mono (by decide)) hr T.bt.b .nil az (ae (pv 0) (aH aB)))) (ai (og (pv 0) (pv 1) rfl))),?_⟩;refine⟨_,rfl,a,A.fE,none,true,_,rfl,ea,T.eJ.X.toExcC,?_⟩;exact⟨_,rfl,_,rfl,a,A.fE,true,rfl,T.eJ.e,T.mT,.inl ⟨ea,fun dx hn ne=>k dx hn ne⟩⟩
theorem pR{K:Frag}{C:Addr}{fd:Str}{k:Ends}{σ:L2.St}{v:V}{H:Hp}{E:XK}{t:TA}(hc:ExcC K C)(ht:∀Q:ak→Hp→Prop,Q [v] H→t σ H Q)
 (r:∀dx H2,aj H H2→H2 dx=some (.xd [(fd,v)])→E (.ref C) (some dx) H2):MS K E (FK C (E7 C fd) E0 t) k σ H:=by
 refine ht _ fun x hx=>⟨x,v,rfl,aa,fun dx FE ne=>⟨rfl,x,C,some dx,rfl,(by rw[av (fun z=>ne z.symm),aa]),hc,r dx _ (fun c o e=> ?_) ?_⟩⟩
 ·have hd:H dx=none:=by rw[av ne] at FE;exact FE
  rw[av (aw e hx),av (aw e hd),av (aw e hx),av (aw e hx)];exact e
 ·rw[av ne,aa]
inductive Rf
 |many (n:Nat)
 |deep (n:Nat)
 |twice (l:Str)
 |oy (l:Str)
 |wide (n:Nat)
 |long (n:Nat)
noncomputable def Rf.cls(A:m9):Rf→Addr
 | .many _=>A.fQ
 | .deep _=>A.fW
 | .twice _=>A.jI
 | .oy _=>A.fR
 | .wide _=>A.gb
 | .long _=>A.fX
noncomputable def Rf.fd:Rf→Str
 | .many _=>"many"
 | .deep _=>"depth"
 | .twice _=>"label"
 | .oy _=>"label"
 | .wide _=>"many"
 | .long _=>"many"
noncomputable def Rf.v:Rf→V
 | .many n=>nI n
 | .deep n=>nI n
 | .twice l=> .str l
 | .oy l=> .str l
 | .wide n=>nI n
 | .long n=>nI n
noncomputable def Raises(A:m9)(H:Hp)(E:XK)(r:Rf):Prop:=∀dx H2,aj H H2→H2 dx=some (.xd [(r.fd,r.v)])→E (.ref (r.cls A)) (some dx) H2
theorem Raises.on{A:m9}{H H1:Hp}{E:XK}{r:Rf}(h:Raises A H E r)(s:aj H H1):Raises A H1 E r:=fun dx H2 s2 e=>h dx H2 (s.trans s2) e
noncomputable def L9(A:m9)(H:Hp)(Q:VK)(E:XK):Option Rf→Prop
 |none=>∀H',aj H H'→Q .bx H'
 |some r=>Raises A H E r
noncomputable def jy(s:Ds):Option Rf:=if 40<cQ s then some (.many (cQ s)) else if 6<cM s then some (.deep (cM s)) else none
noncomputable def sO(s:Ds):Option Rf:=if 4<gD s then some (.wide (gD s)) else if 100<gC s then some (.long (gC s)) else none
noncomputable def sx(d:Dd):Option Str:=match d.ps with
 |[_,_,.str x]=>some x
 |_=>none
noncomputable def gv(r:Dd×ao):Option Rf:=if cV r.1.wd=true∧iC r.1∈r.2 then some (.twice (iC r.1)) else if r.1.wd="make" then match sx r.1 with
 |some x=>if x∈r.2 then none else some (.oy x)
 |none=>none
 else none
noncomputable def WA(A:m9):Sp:=fun vs H Q E=>∃v t s,vs=[v]∧Dat H v (gg t (sL s))∧gw s∧cM s<9∧L9 A H Q E (jy s)
theorem C9(T:Txt K mg A)(Fm:rT P w K A fm):aM P w K mg base (A8 P w) 12 A.wO A.xH ["body"] (WA A):=by
 refine T.w8.F.okX n8 (fun vs H Q E h=> ?_) (fun cj Ar outer s0 H vs Q E hr h=> ?_)
 ·obtain⟨v,t,s,rfl,_⟩:=h;rfl
 ·obtain⟨v,t,s,rfl,hd,ok,dp,q⟩:=h;obtain⟨u1,vj⟩:=T.Dj;obtain⟨u2,uE⟩:=T.DR;refine⟨_,(ag (eU 1 n8.nd (cn (sI T Fm 9) hr T.mS az (aH (pv 0)))) (ag (bu (wp r_ (pv 1) (fi rfl vj.2 vj.1)) (ai (kh rfl eX (VS T.f_ T.jR (qQ T) hr (aH (pv 1))))) aV) (ag (eU 2 n8.nd (cn (Fw T Fm 9) hr T.sy az (aH (pv 0)))) (ai (bu (wp r_ (pv 2) (fi rfl uE.2 uE.1)) (ai (kh rfl eX (VS T.eY T.ku (qW T) hr (aH (pv 2))))) aV))))),?_⟩;refine⟨_,rfl,v,t,s,rfl,hd,ok,dp,fun H1 s1=>⟨_,rfl,_,_,rfl,rfl,_,rfl,?_⟩⟩;unfold jy at q;refine sU (fun hk=> ?_) (fun hk=> ?_)
  ·have hk:=bQ hk;rw[aA (by lia)] at q;exact pR T.f_.X.toExcC (fun Q' h=>⟨_,rfl,h⟩) (Raises.on q s1)
  ·have hk:¬((cQ s:Nat):Int)>40:=fun z=>hk (aS z);rw[ay (by lia)] at q;refine⟨_,rfl,v,t,s,rfl,hd.same s1,ok,dp,fun H2 s2=>⟨_,rfl,_,_,rfl,rfl,_,rfl,?_⟩⟩;refine sU (fun hk=> ?_) (fun hk=> ?_)
   ·have hk:=bQ hk;rw[aA (by lia)] at q;exact pR T.eY.X.toExcC (fun Q' h=>⟨_,rfl,h⟩) (Raises.on q (s1.trans s2))
   ·have hk:¬((cM s:Nat):Int)>6:=fun z=>hk (aS z);rw[ay (by lia)] at q;exact q _ (s1.trans s2)
noncomputable def WB(A:m9):Sp:=fun vs H Q E=>∃v t s,vs=[v]∧Dat H v (gg t (sL s))∧gw s∧cQ s≤40∧cM s≤6∧L9 A H Q E (sO s)
theorem Dt(T:Txt K mg A)(Fm:rT P w K A fm):aM P w K mg base (A8 P w) 17 A.wV A.wI ["body"] (WB A):=by
 refine T.xg.F.okX ny (fun vs H Q E h=> ?_) (fun cj Ar outer s0 H vs Q E hr h=> ?_)
 ·obtain⟨v,t,s,rfl,_⟩:=h;rfl
 ·obtain⟨v,t,s,rfl,hd,ok,hm,dp,q⟩:=h;obtain⟨u1,pQ⟩:=T.zF;obtain⟨u2,vx⟩:=T.C6;refine⟨_,(ag (eU 1 ny.nd (cn (uz T Fm 7) hr T.lj az (aH (pv 0)))) (ag (bu (wp r_ (pv 1) (fi rfl pQ.2 pQ.1)) (ai (kh rfl eX (VS T.cY T.kR (q_ T) hr (aH (pv 1))))) aV) (ag (eU 2 ny.nd (cn (rX T Fm 7) hr T.jC az (aH (pv 0)))) (ai (bu (wp r_ (pv 2) (fi rfl vx.2 vx.1)) (ai (kh rfl eX (VS T.cL T.j8 (rb T) hr (aH (pv 2))))) aV))))),?_⟩;refine⟨_,rfl,v,t,s,rfl,hd,ok,by lia,hm,dp,fun H1 s1=>⟨_,rfl,_,_,rfl,rfl,_,rfl,?_⟩⟩;unfold sO at q;refine sU (fun hk=> ?_) (fun hk=> ?_)
  ·have hk:=bQ hk;rw[aA (by lia)] at q;exact pR T.cY.X.toExcC (fun Q' h=>⟨_,rfl,h⟩) (Raises.on q s1)
  ·have hk:¬((gD s:Nat):Int)>4:=fun z=>hk (aS z);rw[ay (by lia)] at q;refine⟨_,rfl,v,t,s,rfl,hd.same s1,ok,by lia,hm,dp,fun H2 s2=>⟨_,rfl,_,_,rfl,rfl,_,rfl,?_⟩⟩;refine sU (fun hk=> ?_) (fun hk=> ?_)
   ·have hk:=bQ hk;rw[aA (by lia)] at q;exact pR T.cL.X.toExcC (fun Q' h=>⟨_,rfl,h⟩) (Raises.on q (s1.trans s2))
   ·have hk:¬((gC s:Nat):Int)>100:=fun z=>hk (aS z);rw[ay (by lia)] at q;exact q _ (s1.trans s2)
theorem zZ{H:Hp}{d:Dd}{a:Addr}{ks:ao}{xs ys:ak}(p:gh H d a ks xs ys)(hw:d.wd="make"):∃x1 x2 m,xs=[x1,x2,m]∧ys=[]∧((m= .bx∧sx d=none)∨∃y,m= .str y∧sx d=some y):=by
 have f:=p.f;rw[hw] at f;have e:=bQ (c_.mp (show(dg.all fun p=>decide (p.1="make" →p.2=(["name","size","mark"]:ao)))=true by decide+kernel) _ f) rfl;obtain⟨e1,e2⟩:=QS (BM p.fit) (show ks++List.replicate ys.length ("body" :Str)=_ from e);have e1:ks=(["name","size","mark"]:ao):=e1.trans (by decide+kernel);have e2:ys.length=0:=e2.trans (by decide+kernel);have hy:=sk e2;have hf:=p.fit;have hx:=p.hx;unfold sx;rw[e1] at hf;generalize d.ps=ps at hf hx
 cases hf with
 |cons a1 r=>
  cases r with
  |cons a2 r=>
   cases r with
   |cons a3 r=>
    cases r
    cases hx with
    |cons b1 r=>
     cases r with
     |cons b2 r=>
      cases r with
      |cons b3 r=>
       cases r;refine⟨_,_,_,rfl,hy,?_⟩
       cases a3 with
       |HE=>cases b3;exact .inl ⟨rfl,rfl⟩
       |mark y _=>cases b3;exact .inr ⟨y,rfl,rfl⟩
       |num _ _ _ _ hb=>exact absurd rfl (iJ hb (by decide+kernel))
theorem jc(x:Str)(l:ao):wL (.str x) (l.map V.str)=decide (x∈l):=by
 unfold wL;rw[yr,me,yj,nF];constructor
 ·rintro ⟨y,hy,e⟩
  have e:Dg (.str y) (.str x)=true:=e;have:y=x:=by simpa[Dg] using e
  exact this▸hy
 ·intro h;exact⟨x,h,by simp[Dg]⟩
noncomputable def M9(A:m9):Sp:=fun vs H Q E=>∃H0 l zs rs,vs=[.ref l]∧aj H0 H∧H l=some (.lst zs)∧gk H0 H zs rs∧(∀r∈rs,ip r.1)∧L9 A H Q E (rs.findSome? gv)
theorem wk{α β:Type}(f:α→Option β){l:List α}{i:Nat}{x:α}(e:l[i]? =some x):(l.take (i+1)).findSome? f=((l.take i).findSome? f).or (f x):=by
 rw[qD,e,C4];simp
theorem Al{α β:Type}(f:α→Option β){l:List α}{i:Nat}{x:α}{r:β}(e:l[i]? =some x)(h0:(l.take i).findSome? f=none)(h1:f x=some r):l.findSome? f=some r:=by
 have:l=l.take (i+1)++l.drop (i+1):=(p5 _ _).symm;rw[this,C4,wk f e,h0,h1];rfl
theorem zm(T:Txt K mg A)(Fm:rT P w K A fm):aM P w K mg base (A8 P w) 4 A.rM A.rF ["listed"] (M9 A):=by
 refine T.sf.F.okX jX (fun vs H Q E h=> ?_) (fun cj Ar outer s0 H vs Q E hr h=> ?_)
 ·obtain⟨H0,l,zs,rs,rfl,_⟩:=h;rfl
 ·obtain⟨H0,l,zs,rs,rfl,ju,hl,R,ok,q⟩:=h;refine⟨_,(ai (vI (cz (pv 0)) (lX rfl (a_ (fO 1 jX.nd) (a_ (fO 2 jX.nd) fq))) (ag (bu (PW.pt (wS (iN (cn (xf T Fm) hr T.sQ az (aH (pv 1)))) (wT (wp mD (cU aX (pv 1) af) (pv 2))))) (ai (kh rfl eX (VS T.hJ T.my (t8 T) hr (aH (cU aX (pv 1) af))))) aV) (ai (bu (PW.pt (wS (wp dM (cU aX (pv 1) af) aB) (wS (wp vw (cU aX (pv 1) af) g_) (wT (wp fZ (cU aX (pv 1) af) (pv 2)))))) (ai (kh rfl eX (VS T.dy T.j6 (qX T) hr (aH (cU aX (pv 1) af))))) aV))) (hp:=PassesOwn.leaving))),?_⟩;refine⟨_,rfl,l,rfl,⟨_,bF.of hl⟩,?_⟩;refine dF (K:=K) (a:=l) (xs:=zs) (fun i σ H' =>∃x1 x2:Option V,σ=[some (.ref l),x1,x2]∧H' =H∧(rs.take i).findSome? gv=none) ⟨_,_,rfl,rfl,rfl⟩ (by rintro i σ H' _ ⟨_,_,_,e,_⟩;exact bF.of (by rw[e];exact hl)) ?_ ?_
  ·rintro i x σ H' hx ⟨x1,x2,rfl,rfl,hn⟩
   obtain⟨⟨d,ar⟩,er,t,v,u,rfl,ht,k9,hu⟩:=R.at_ i x hx;have gq:=ok _ (bJ er);obtain⟨b,ks,xs,ys,rfl,p0⟩:=cG k9 gq;have p:=p0.same ju;dsimp only at k9 hu gq p0 p
   have next:gv (d,ar)=none→(rs.take (i+1)).findSome? gv=none:=fun h=>by
    rw[wk gv er,hn,h];rfl
   have bad:∀r,gv (d,ar)=some r→Raises A H' E r:=fun r h=>by
    rw[Al gv er hn h] at q;exact q
   refine⟨t,_,rfl,bc.of ht,rfl,_,_,rfl,_,_,rfl,rfl,_,rfl,H0,_,d,rfl,ju,k9,gq,_,rfl,?_⟩
   have two:¬(cV d.wd=true∧iC d∈ar)→gv (d,ar)=(if d.wd="make" then match sx d with
    |some x=>if x∈ar then none else some (.oy x)
    |none=>none
    else none):=fun h=>ay h
   have nb:∀{y:Str},decide (V.str d.wd=V.str y)=decide (d.wd=y):=fun{y}=>by
    by_cases h:d.wd=y
    ·rw[aS h,h];exact aS rfl
    ·rw[br h];exact br (c6 h)
   cases hb:cV d.wd with
   |true=>
    obtain⟨Ww,rfl⟩:=p0.iC hb;refine dG ⟨_,rfl,b,_,1,_,rfl,rfl,bc.of p.e,bU (j:=1) rfl,_,rfl,u,_,rfl,.inr (bc.of hu),rfl,iP _,_,rfl,?_⟩;show if wL (V.str (iC d)) (ar.map V.str)=true then _ else _
    rw[jc];by_cases kU:iC d∈ar
    ·rw[aS kU];exact dG (pR T.hJ.X.toExcC (fun Q' h=>⟨_,rfl,b,_,1,_,rfl,rfl,bc.of p.e,bU (j:=1) rfl,h⟩) (bad (.twice (iC d)) (aA ⟨hb,kU⟩)))
    ·rw[br kU];have nm:d.wd≠ "make":=fun z=>by rw[z] at hb;exact absurd hb (by decide+kernel)
     refine cA ⟨_,rfl,b,_,0,_,rfl,rfl,bc.of p.e,l5 _ _,rfl,_,rfl,?_⟩;exact iH (c6 nm) ⟨_,_,rfl,rfl,next ((two fun z=>kU z.2).trans (ay nm))⟩
   |false=>
    have tw:=two fun z=>by rw[hb] at z;exact cx z.1
    refine cA ⟨_,rfl,b,_,0,_,rfl,rfl,bc.of p.e,l5 _ _,rfl,_,rfl,?_⟩;by_cases nm:d.wd="make"
    ·obtain⟨y1,y2,m,rfl,rfl,hm⟩:=zZ p nm;rw[aA nm] at tw;rw[nb,aS nm];rcases hm with⟨rfl,hk⟩|⟨y,rfl,hk⟩
     ·rw[hk] at tw;exact dG ⟨_,rfl,b,_,3,_,rfl,rfl,bc.of p.e,bU (j:=3) rfl,rfl,_,rfl,cA ⟨_,_,rfl,rfl,next tw⟩⟩
     ·rw[hk] at tw;dsimp only at tw;refine dG ⟨_,rfl,b,_,3,_,rfl,rfl,bc.of p.e,bU (j:=3) rfl,rfl,_,rfl,dG ⟨_,rfl,b,_,3,_,rfl,rfl,bc.of p.e,bU (j:=3) rfl,_,rfl,u,_,rfl,.inr (bc.of hu),rfl,iP _,_,rfl,?_⟩⟩;show if(!wL (V.str y) (ar.map V.str))=true then _ else _
      rw[jc];by_cases hy:y∈ar
      ·rw[aA hy] at tw;rw[aS hy];exact cA ⟨_,_,rfl,rfl,next tw⟩
      ·rw[ay hy] at tw;rw[br hy];exact dG (pR T.dy.X.toExcC (fun Q' h=>⟨_,rfl,b,_,3,_,rfl,rfl,bc.of p.e,bU (j:=3) rfl,h⟩) (bad (.oy y) tw))
    ·exact iH (c6 nm) ⟨_,_,rfl,rfl,next (tw.trans (ay nm))⟩
  ·rintro σ H' ⟨x1,x2,rfl,rfl,hn⟩
   have:rs.take zs.length=rs:=sH (by rw[R.len];exact aG _);rw[this] at hn;rw[hn] at q;exact q _ (aj.refl _)
mutual
theorem we{H H' :Hp}(k:KT H H')(l:∀c xs,H c=some (.lst xs)→H' c=some (.lst xs)):∀{v:V} {d:PyData},Dat H v d→Dat H' v d
 |_,_,.bx=> .bx
 |_,_,.bl b=> .bl b
 |_,_,.int i=> .int i
 |_,_,.str x=> .str x
 |_,_,.lst e h=> .lst (l _ _ e) (m5 k l h)
 |_,_,.tup e h=> .tup (k _ _ e) (m5 k l h)
theorem m5{H H' :Hp}(k:KT H H')(l:∀c xs,H c=some (.lst xs)→H' c=some (.lst xs)):∀{xs:ak} {ds:List PyData},DatAll H xs ds→DatAll H' xs ds
 |_,_,.nil=> .nil
 |_,_,.cons h t=> .cons (we k l h) (m5 k l t)
end
noncomputable def jaf(P:Addr)(H:Hp):Hp:=fun c=>if c=P then none else H c
theorem Wp{P c:Addr}{H:Hp}(h:c≠P):jaf P H c=H c:=ay h
theorem M0{P:Addr}{H:Hp}{ps:Array Value}(h:H P=some (.wz ps)){v:V}{d:PyData}(hd:Dat H v d):Dat (jaf P H) v d:=
 we (fun c xs e=>(Wp (bW e h (fun z=>nomatch z))).trans e) (fun c xs e=>(Wp (bW e h (fun z=>nomatch z))).trans e) hd
theorem vS{P:Addr}{H H' :Hp}(k:Kept P H H'):aj (jaf P H) H' :=fun c o e=>by
 by_cases h:c=P
 ·rw[h,show jaf P H P=none from aA rfl] at e;cases e
 ·rw[Wp h] at e;exact k c o h e
noncomputable def Tab(H:Hp)(P:Addr)(lp:Pos)(q:Str):Prop:=∃ps,H P=some (.wz ps)∧TriplesOk ps.toList∧(codeAmong lp ps.toList=none∨∃c',codeAmong lp ps.toList=some (.ref c')∧H c' =some (.ext (g9 c' q)))
theorem Tab.same{H H' :Hp}{P:Addr}{lp:Pos}{q:Str}(t:Tab H P lp q)(s:aj H H'):Tab H' P lp q:=by
 obtain⟨ps,e,h,r⟩:=t;refine⟨ps,s _ _ e,h,?_⟩;rcases r with r|⟨c,r1,r2⟩
 ·exact .inl r
 ·exact .inr ⟨c,r1,s _ _ r2⟩
theorem Tab.lam{P:Addr}{lp:Pos}{q:Str}{sp:Addr→Addr→ak→Sp}{E:XK}{dvs vs:ak}{H:Hp}{Q:VK}{σ:L2.St}{t:TA}(T:Tab H P lp q)(ht:∀Q' :ak→Hp→Prop,Q' vs H→t σ H Q')
 (h:∀f c' H1,H f=none→H1 f=none→Kept P H H1→Tab H1 P lp q→H1 c' =some (.ext (g9 c' q))→sp f c' [] (vs++[.ref f]++dvs) H1 Q E):Hh P lp q sp E [] dvs t σ H Q:=by
 obtain⟨ps,e,tr,r⟩:=T;refine ht _ ⟨ps,[],e,tr,rfl,(fun i j v z=>by simp at z),?_⟩;rcases r with r|⟨c,r1,r2⟩
 ·refine .inl ⟨r,fun f c' hf hc hfc=> ?_⟩;have ncP:c'≠P:=(aw e hc).symm;have nfP:f≠P:=(aw e hf).symm;refine h f c' _ hf ?_ (fun b o hb eb=> ?_) ⟨_,(by rw[av ncP.symm];exact aa),?_,.inr ⟨c',?_,aa⟩⟩ aa
  ·rw[av hfc,av nfP];exact hf
  ·rw[av (aw eb hc),av hb];exact eb
  ·have:(ps++ #[rawInt lp.line,rawInt lp.col,.ref c']).toList=ps.toList++[rawInt lp.line,rawInt lp.col,.ref c']:=by simp
   rw[this];exact TriplesOk_snoc _ _ _ _ tr
  ·have:(ps++ #[rawInt lp.line,rawInt lp.col,.ref c']).toList=ps.toList++[rawInt lp.line,rawInt lp.col,.ref c']:=by simp
   rw[this];exact codeAmong_snoc _ tr r
 ·exact .inr ⟨c,r1,r2,fun f hf=>h f c H hf hf (Kept.refl _ _) ⟨ps,e,tr,.inr ⟨c,r1,r2⟩⟩ r2⟩
theorem _root_.L2.aM.IB{P:Program}{w:World}{K:Frag}{mg:Str→aI}{base:Heap}{CX:tD}{k:Nat}{f:Addr}{fd:FuncData}{ps:ao}{sp:Sp}(len:∀vs H Q E,sp vs H Q E→vs.length=ps.length)(h:K.In base→aM P w K mg base CX k f fd ps sp):aM P w K mg base CX k f fd ps sp:=
 ⟨len,fun A outer s H args us vs Q E hr e0 hb r BC=>(h e0.mod.tp).run A outer s H args us vs Q E hr e0 hb r BC⟩
theorem P4{P:Program}{w:World}{K:Frag}{mg:Str→aI}{base:Heap}{f c' :Addr}{name qual:Str}{params:Arguments}{scope:Scope}{pm ct oc:Value}{od:Option Addr}{xI:Array (aI)}{p1 p2:Pos}{jD:ak}
 (lk:base.get? f=some ⟨oc,od,.func (kla_fn name qual params (.List [.Name "deed" p1] p2) scope [] pm (.ref c') ct),xI⟩) (S:qK ["number","deed"] [] scope) (C:zy base [] [] jD):aM P w K mg base cK 1 f (kla_fn name qual params (.List [.Name "deed" p1] p2) scope [] pm (.ref c') ct) ["number","deed"] (LO c' qual):=by
 refine MQ lk S C (fun vs H Q E ⟨i,v,e,_⟩=>by rw[e];rfl) (fun vs H Q E h ⟨i,v,e,hc,_⟩ ok _=>g9.rec ok hc) fun A outer s H vs Q E hr ⟨i,v,e,hc,q⟩=> ?_;subst e;exact⟨_,bg (aH (pv 1 (hv:= .inl (S.par "deed" (by simp))))),⟨_,rfl,sS,q⟩⟩
mutual
theorem Mo:∀d:Dd,ip d→ip (lP d)
 | .mk w ps bs,h=>by
  rw[ip] at h;rw[lP,ip];obtain⟨⟨ks,f,fit⟩,hb⟩:=h;exact⟨⟨ks,by rw[Mm,aK];exact f,fit⟩,LU bs hb⟩
theorem tq:∀s:Ds,gw s→gw (gU s)
 | .nil,h=>by rw[gU,gw];exact True.intro
 | .cons d r,h=>by
  rw[gw] at h;rw[gU,gw];exact⟨Mo d h.1,tq r h.2⟩
theorem LU:∀b:Bs,mw b→mw (qZ b)
 | .nil,h=>by rw[qZ,mw];exact True.intro
 | .cons t b r,h=>by
  rw[mw] at h;rw[qZ,mw];exact⟨tq b h.1,LU r h.2⟩
end
mutual
theorem acd:∀d:Dd,lq (lP d)=lq d∧l6 (lP d)=l6 d∧yt (lP d)=yt d∧yG (lP d)=yG d
 | .mk w ps bs=>by
  obtain⟨h1,h2,h3,h4⟩:=aao bs;rw[lP,lq,lq,l6,l6,yt,yt,yG,yG,h1,h2,h3,h4];exact⟨rfl,rfl,rfl,rfl⟩
theorem AJ:∀s:Ds,cM (gU s)=cM s∧cQ (gU s)=cQ s∧gD (gU s)=gD s∧gC (gU s)=gC s
 | .nil=>by rw[gU];exact⟨rfl,rfl,rfl,rfl⟩
 | .cons d r=>by
  obtain⟨h1,h2,h3,h4⟩:=acd d;obtain⟨g1,g2,g3,g4⟩:=AJ r;rw[gU,cM,cM,cQ,cQ,gD,gD,gC,gC,h1,h2,h3,h4,g1,g2,g3,g4];exact⟨rfl,rfl,rfl,rfl⟩
theorem aao:∀b:Bs,l_ (qZ b)=l_ b∧nN (qZ b)=nN b∧qR (qZ b)=qR b∧sg (qZ b)=sg b
 | .nil=>by rw[qZ];exact⟨rfl,rfl,rfl,rfl⟩
 | .cons t b r=>by
  obtain⟨h1,h2,h3,h4⟩:=AJ b;obtain⟨g1,g2,g3,g4⟩:=aao r;rw[qZ,l_,l_,nN,nN,qR,qR,sg,sg,h1,h2,h3,h4,g1,g2,g3,g4];exact⟨rfl,rfl,rfl,rfl⟩
end
noncomputable def Jr(r:Dd×ao):Dd×ao:=(lP r.1,r.2)
theorem VD(d:Dd)(ar:ao):mR (lP d) ar=mR d ar:=by
 cases d with
 |mk w ps bs=>rw[lP];rfl
mutual
theorem U8:∀(d:Dd) (ar:ao),Bd (lP d) ar=(Bd d ar).map Jr
 | .mk w ps bs,ar=>by
  have e:=VD (.mk w ps bs) ar;rw[lP] at e ⊢;rw[Bd,Bd,dw,e,Mp bs];show _::_=(lP (.mk w ps bs),ar)::_;rw[lP]
theorem sN:∀(s:Ds) (ar:ao),fA (gU s) ar=(fA s ar).map Jr
 | .nil,ar=>by rw[gU,fA];rfl
 | .cons d r,ar=>by rw[gU,fA,fA,U8 d,sN r,fJ]
theorem Mp:∀(b:Bs) (ar:ao),AQ (qZ b) ar=(AQ b ar).map Jr
 | .nil,ar=>by rw[qZ,AQ];rfl
 | .cons t b r,ar=>by rw[qZ,AQ,AQ,sN b,Mp r,fJ]
end
theorem Ph(r:Dd×ao):gv (Jr r)=gv r:=by
 obtain⟨d,ar⟩:=r
 cases d with
 |mk w ps bs=>
  unfold Jr;dsimp only;rw[lP];rfl
theorem Io(s:Ds)(ar:ao):(fA (gU s) ar).findSome? gv=(fA s ar).findSome? gv:=by
 rw[sN,List.findSome?_map]
 congr 1
 funext r
 exact Ph r
mutual
theorem Wb:∀(d:Dd) (ar:ao),ip d→∀r∈Bd d ar,ip r.1
 | .mk w ps bs,ar,h,r,hr=>by
  rw[Bd] at hr;rcases aU.mp hr with rfl|hr
  ·exact h
  ·exact KW bs _ (gQ h) r hr
theorem so:∀(s:Ds) (ar:ao),gw s→∀r∈fA s ar,ip r.1
 | .nil,ar,h,r,hr=>by rw[fA] at hr;cases hr
 | .cons d q,ar,h,r,hr=>by
  rw[gw] at h;rw[fA] at hr;rcases eK.mp hr with hr|hr
  ·exact Wb d ar h.1 r hr
  ·exact so q ar h.2 r hr
theorem KW:∀(b:Bs) (ar:ao),mw b→∀r∈AQ b ar,ip r.1
 | .nil,ar,h,r,hr=>by rw[AQ] at hr;cases hr
 | .cons t b q,ar,h,r,hr=>by
  rw[mw] at h;rw[AQ] at hr;rcases eK.mp hr with hr|hr
  ·exact so b ar h.1 r hr
  ·exact KW q ar h.2 r hr
end
theorem yR{H H' :Hp}{ks:ao}{ps:List PyData}(h:eM ks ps):∀{xs:ak},DatAll H xs ps→bo H' xs ps:=by
 induction h with
 |nil=>intro xs hx;cases hx;exact .nil
 |cons h t ih=>
  intro xs hx
  cases hx with
  |cons a r=>exact .cons (NC h a) (ih r)
mutual
theorem XT{H:Hp}:∀(d:Dd) {v:V},ip d→Dat H v (dD (lP d))→hX H v (dD (lP d))
 | .mk w ps bs,v,ok,h=>by
  rw[ip] at ok;obtain⟨⟨ks,f,fit⟩,hb⟩:=ok;rw[lP,dD] at h ⊢
  cases h with
  |tup e h=>
   cases h with
   |cons a r=>
    cases a;obtain⟨xs,ys,rfl,h1,h2⟩:=nv r;exact .tup e (.cons (.str _) ((yR fit h1).append (Zc bs hb h2)))
theorem aaH{H:Hp}:∀(s:Ds) {xs:ak},gw s→DatAll H xs (sL (gU s))→bo H xs (sL (gU s))
 | .nil,xs,ok,h=>by
  rw[gU,sL] at h ⊢;cases h;exact .nil
 | .cons d r,xs,ok,h=>by
  rw[gw] at ok;rw[gU,sL] at h ⊢
  cases h with
  |cons a t=>exact .cons (XT d ok.1 a) (aaH r ok.2 t)
theorem Zc{H:Hp}:∀(b:Bs) {xs:ak},mw b→DatAll H xs (bL (qZ b))→bo H xs (bL (qZ b))
 | .nil,xs,ok,h=>by
  rw[qZ,bL] at h ⊢;cases h;exact .nil
 | .cons t b r,xs,ok,h=>by
  rw[mw] at ok;rw[qZ,bL] at h ⊢
  cases h with
  |cons a q=>
   refine .cons ?_ (Zc r ok.2 q);obtain⟨a',vs,rfl,ea,hA⟩:=fT a;exact .tup ea (aaH b ok.1 hA)
end
noncomputable def LF(H:Hp)(v:V)(r:Dd×ao):Prop:=∃t x u,v= .ref t∧H t=some (.tup [x,.ref u])∧hX H x (dD (lP r.1))∧H u=some (.tup (r.2.map V.str))
noncomputable def Uc(tb ls:Addr):iG:=iD "listed" (.ref ls) (iD "body" (.ref tb) [])
structure iy(C:Addr)(H:Hp)(p tb ls:Addr)(s:Ds):Prop where
 ob:∃dx,H p=some (.ins C dx (Uc tb ls))
 body:hX H (.ref tb) (.tuple (sL (gU s)))
 rows:∃zs,H ls=some (.lst zs)∧zs.length=(fA s ["ground"]).length∧∀(i:Nat) v,zs[i]? =some v→∃r,(fA s ["ground"])[i]? =some r∧LF H v r
theorem LF.kt{H H' :Hp}{v:V}{r:Dd×ao}(h:LF H v r)(k:KT H H'):LF H' v r:=by
 obtain⟨t,x,u,e1,e2,e3,e4⟩:=h;exact⟨t,x,u,e1,k _ _ e2,e3.kt k,k _ _ e4⟩
theorem iy.kt{C:Addr}{H H' :Hp}{p tb ls:Addr}{s:Ds}(h:iy C H p tb ls s)(k:KT H H')(hp:H' p=H p)(hl:H' ls=H ls):iy C H' p tb ls s:=by
 obtain⟨⟨dx,e⟩,b,zs,e1,e2,e3⟩:=h;refine⟨⟨dx,hp.trans e⟩,b.kt k,zs,hl.trans e1,e2,fun i v ev=> ?_⟩;obtain⟨r,er,hr⟩:=e3 i v ev;exact⟨r,er,hr.kt k⟩
noncomputable def cq(s:Ds):Option Rf:=(jy s).or (((fA s ["ground"]).findSome? gv).or (sO s))
noncomputable def HC:Pos:=⟨169,37,169,64⟩
noncomputable def qI:Str:="Program.__init__" ++ ".<locals>." ++ "<lambda>"
noncomputable def gT(p P:Addr)(H H' :Hp):Prop:=∀b o,b≠p→b≠P→H b=some o→H' b=some o
theorem K0{H:Hp}{p C dx:Addr}{fs:iG}{o:HO}(h:H p=some (.ins C dx fs)):KT H (upd H p o):=fun c ys e=>by
 rw[av (bW e h (by intro z;cases z))];exact e
theorem vW{β:Type}{l:List (Str×β)}{k:Str}{v:β}(h:l.lookup k=some v):(k,v)∈l:=by
 obtain⟨l1,l2,e,_⟩:=DB.mp h;rw[e];simp
theorem Kf{p C dx:Addr}{fs:iG}{H:Hp}(h:H p=some (.ins C dx fs)){v:V}{d:PyData}(hd:Dat H v d):Dat (jaf p H) v d:=
 we (fun c xs e=>(Wp (bW e h (fun z=>nomatch z))).trans e) (fun c xs e=>(Wp (bW e h (fun z=>nomatch z))).trans e) hd
theorem Tab.Yv{H:Hp}{P p C dx:Addr}{fs:iG}{lp:Pos}{q:Str}{o:HO}(t:Tab H P lp q)(h:H p=some (.ins C dx fs)):Tab (upd H p o) P lp q:=by
 obtain⟨ps,e,tr,r⟩:=t;refine⟨ps,(by rw[av (bW e h (fun z=>nomatch z))];exact e),tr,?_⟩;rcases r with r|⟨c,r1,r2⟩
 ·exact .inl r
 ·exact .inr ⟨c,r1,by rw[av (bW r2 h (fun z=>nomatch z))];exact r2⟩
theorem aeL{sc:Scope}(h1:sc.kind= .function)(h2:sc.isCoroutine=false)(h3:sc.isGenerator=false)(h:sc.names=[(("number" :Str),NameKind.local),(("deed" :Str),NameKind.local)]):qK ["number","deed"] [] sc:=by
 refine⟨h1,h2,h3,by decide+kernel,?_,(fun _ h=>nomatch h),?_,?_⟩
 ·rw[h];decide+kernel
 ·rw[h];decide+kernel
 ·rw[h];intro x hx;have hm:=vW hx;rcases aU.mp hm with z|hm
  ·cases z
  ·rcases aU.mp hm with z|hm
   ·cases z
   ·cases hm
theorem Z7(T:Txt K mg A)(Fm:rT P w K A fm){gs :Heap}{f c' :Addr}{name qual:Str}{scope:Scope}{pm ct oc:Value}{od:Option Addr}{xI:Array (aI)}{p1 p2 p3 p4:Pos}{jD:ak}
 (lk:gs.get? f=some ⟨oc,od,.func (kla_fn name qual {posonlyargs:=[],args:=[{arg:="number",annotation:=none,pos:=p3},{arg:="deed",annotation:=none,pos:=p4}],vararg:=none,kwonlyargs:=[],kw_defaults:=[],kwarg:=none,defaults:=[]} (.List [.Name "deed" p1] p2) scope [] pm (.ref c') ct),xI⟩)
 (C:zy gs [] [] jD) (h1:scope.kind= .function:=by rfl) (h2:scope.isCoroutine=false:=by rfl) (h3:scope.isGenerator=false:=by rfl) (h:scope.names=[(("number" :Str),NameKind.local),(("deed" :Str),NameKind.local)]:=by rfl):aM P w K mg gs cK 17 A.lM A.dJ ["body","change","first"] (IZ f c' qual 7):=
 Dr T Fm (P4 lk (aeL h1 h2 h3 h) C) ⟨_,_,_,lk⟩ (Binds.all (Yg fun _ _=>rfl)) 7
noncomputable def nY(A:m9)(q:Str):Sp:=fun vs H Q E=>∃p dx v t s,vs=[.ref p,v]∧H p=some (.ins A.ax dx [])∧Dat H v (gg t (sL s))∧gw s∧cM s<9∧cQ s≤1000∧Tab H A.au HC q∧
 match cq s with
 |none=>∀tb ls H',H tb=none→H ls=none→gT p A.au H H'→Tab H' A.au HC q→iy A.ax H' p tb ls s→Q .bx H'
 |some r=>∀dx H2,gT p A.au H H2→Tab H2 A.au HC q→H2 dx=some (.xd [(r.fd,r.v)])→E (.ref (r.cls A)) (some dx) H2
theorem jw(T:Txt K mg A)(Fm:rT P w K A fm)(tp:K.In base):aM P w K mg base (A8 P w) 18 A.bX A.bZ ["self","deeds"] (nY A qI):=by
 refine T.c7.F.okC rj (fun Ar outer s0 H vs Q E hr h=> ?_) (fun vs H Q E h=> ?_)
 ·obtain⟨p,dx,v,t,s,rfl,hp,hd,ok,dp,hm,tab,q⟩:=h;obtain⟨u1,ja⟩:=T.wW;obtain⟨u0,adv,bnd⟩:=Fm.df;have bnv:Vals [V.int 0] [u0]:= .cons adv .nil;obtain⟨c0,ct⟩:=T.qU.tab (X:=kP (A8 P w) P w K mg base ["self","deeds"] "Program.__init__" (aq eG) A.bX A.bZ.code Ar outer s0 H E) tp rfl;have bm:=T.bm.mod (X:=kP (A8 P w) P w K mg base ["self","deeds"] "Program.__init__" (aq eG) A.bX A.bZ.code Ar outer s0 H E) tp;refine⟨_,(ag (bf (cn (Dz T Fm 9) hr T.pO az (aH (pv 1)))) (ag (bf (cn (C9 T Fm) hr T.w8 (mQ eX trivial) (aH (pv 1)))) (ag (Nz (pv 0) (Oj ct bm (s_.none rfl) (fun gs f c' vF jD lk cp=>Z7 T Fm lk cp) hr rfl T.lu.m T.lu.F.kp bnd bnv az (pv 1)) rfl) (ag (Nz (pv 0) (cn (GH T Fm 7) hr T.vZ az (ae (Ln (pv 0)) (aH (a9 (aH (fi rfl ja.2 ja.1)))))) rfl) (ag (bf (cn (zm T Fm) hr T.sf (mQ eX trivial) (aH (Ln (pv 0))))) (ai (bf (cn (Dt T Fm) hr T.xg (mQ eX trivial) (aH (Ln (pv 0))))))))))),?_⟩;refine⟨_,rfl,v,t,s,rfl,hd,ok,dp,fun H1 s1=> ?_⟩;unfold cq at q
  have npP:p≠A.au:=by
   obtain⟨ps,e,_⟩:=tab;exact bW hp e (fun z=>nomatch z)
  refine⟨_,rfl,v,t,s,rfl,hd.same s1,ok,dp,?_⟩
  cases es:jy s with
  |some r=>
   rw[es] at q;exact fun NS H2 s2 e=>q NS H2 (fun b o _ _ eb=>s2 _ _ (s1 _ _ eb)) (tab.same (s1.trans s2)) e
  |none=>
   rw[es,nU] at q
   have hs:cQ s≤40∧cM s≤6:=by
    unfold jy at es
    split at es
    ·cases es
    ·split at es
     ·cases es
     ·lia
   intro H2 s2;have yQ:=s1.trans s2;have Mg:=tab.same yQ;show Hh A.au HC qI (fun f c' _=>IZ f c' qI 7) E0 [] [V.int 0] (xv (M7 1) uG) (L2.start ["self","deeds"] [V.ref p,v]) H2 _;refine Tab.lam (q:=qI) (lp:=HC) Mg (fun Q' h=>⟨_,rfl,h⟩) fun f c' H3 hf hf3 k3 wm hc3=> ?_;obtain⟨ps,eP,_⟩:=id Mg;refine⟨jaf A.au H2,v,t,s,0,rfl,vS k3,M0 eP (hd.same yQ),ok,by lia,hm,hc3,fun tb H4 Eu s4 td=> ?_⟩;have NN:H4 p=some (.ins A.ax dx []):=s4 _ _ (k3 _ _ npP (yQ _ _ hp));refine⟨_,rfl,p,A.ax,dx,[],rfl,NN,T.bw,T.dU,(by show 0<1000;decide),?_⟩;have hp5:upd H4 p (.ins A.ax dx (iD "body" (.ref tb) [])) p=some (.ins A.ax dx (iD "body" (.ref tb) [])):=aa;have k45:KT H4 (upd H4 p (.ins A.ax dx (iD "body" (.ref tb) []))):=K0 NN;have e45:∀c,c≠p→upd H4 p (.ins A.ax dx (iD "body" (.ref tb) [])) c=H4 c:=fun c h=>av h;have Dx:=Tab.Yv (o:= .ins A.ax dx (iD "body" (.ref tb) [])) (wm.same s4) NN;generalize upd H4 p (.ins A.ax dx (iD "body" (.ref tb) []))=H5 at hp5 k45 e45 Dx ⊢;obtain⟨e1,e2,e3,e4⟩:=AJ s;have vH:=tq s ok;have td5:=td.kt k45
   have hk5:gT p A.au H H5:=fun b o h1 h2 eb=>by
    rw[e45 b h1];exact s4 _ _ (k3 _ _ h2 (yQ _ _ eb))
   refine⟨_,rfl,p,A.ax,dx,_,_,rfl,hp5,T.bw,T.dU,rfl,sS,fun u hu=> ?_⟩;have s6:=aj.upd (o:= .tup [V.str "ground"]) hu;refine⟨jaf p H5,.ref tb,true,gU s,u,["ground"],rfl,vS s6.kept,Kf hp5 (td5.dat),vH,by lia,aa,(fun z=>nomatch z),by lia,by rw[e1];show 1+_<_;lia,fun ls zs H7 OK s7 hz R=> ?_⟩;have X0:=s6.trans s7;have TB:=X0 _ _ hp5;have nlp:ls≠p:=bW hz TB (fun z=>nomatch z);refine⟨_,rfl,p,A.ax,dx,_,rfl,TB,T.bw,T.cC,(by show 1<1000;decide),?_⟩;have Kj:upd H7 p (.ins A.ax dx (Uc tb ls)) p=some (.ins A.ax dx (Uc tb ls)):=aa;have k78:KT H7 (upd H7 p (.ins A.ax dx (Uc tb ls))):=K0 TB;have e78:∀c,c≠p→upd H7 p (.ins A.ax dx (Uc tb ls)) c=H7 c:=fun c h=>av h;have Jm:=Tab.Yv (o:= .ins A.ax dx (Uc tb ls)) (Dx.same X0) TB;show{nx:=_,rt:=_:Ends}.nx _ (upd H7 p (.ins A.ax dx (Uc tb ls)));generalize upd H7 p (.ins A.ax dx (Uc tb ls))=H8 at Kj k78 e78 Jm ⊢;have R8:=R.kt k78;have Zp:H8 ls=some (.lst zs):=(e78 _ nlp).trans hz
   have s58:aj (jaf p H5) H8:=vS fun c o h e=>by
    rw[e78 c h];exact X0 _ _ e
   have hk8:gT p A.au H H8:=fun b o h1 h2 eb=>by
    rw[e78 b h1];exact X0 _ _ (hk5 b o h1 h2 eb)
   have td8:hX H8 (.ref tb) (.tuple (sL (gU s))):=(td5.kt (KT.same X0)).kt k78;refine⟨_,rfl,p,A.ax,dx,_,_,rfl,Kj,T.bw,T.cC,rfl,jaf p H5,ls,zs,_,rfl,s58,Zp,R8,so _ _ vH,?_⟩;rw[Io]
   cases ef:(fA s ["ground"]).findSome? gv with
   |some r=>
    rw[ef] at q;exact fun NS H9 s9 e=>q NS H9 (fun b o h1 h2 eb=>s9 _ _ (hk8 b o h1 h2 eb)) (Jm.same s9) e
   |none=>
    rw[ef,nU] at q;intro H9 s9;refine⟨_,rfl,p,A.ax,dx,_,_,rfl,s9 _ _ Kj,T.bw,T.dU,rfl,.ref tb,true,gU s,rfl,(td8.kt (KT.same s9)).dat,vH,by lia,by lia,?_⟩
    have er:sO (gU s)=sO s:=by
     unfold sO;rw[e3,e4]
    rw[er]
    cases eu:sO s with
    |some r=>
     rw[eu] at q;exact fun NS FD N9 e=>q NS FD (fun b o h1 h2 eb=>N9 _ _ (s9 _ _ (hk8 b o h1 h2 eb))) (Jm.same (s9.trans N9)) e
    |none=>
     rw[eu] at q;intro FD N9;have EF:=s9.trans N9
     have ab0:H tb=none:=by
      cases eb:H tb with
      |none=>rfl
      |some o=>
       by_cases h2:tb=A.au
       ·obtain⟨ps3,Wk,_⟩:=wm;rw[←h2,Eu] at Wk;cases Wk
       ·rw[k3 _ _ h2 (yQ _ _ eb)] at Eu;cases Eu
     have acC:H ls=none:=by
      cases eb:H ls with
      |none=>rfl
      |some o=>
       by_cases h2:ls=A.au
       ·obtain⟨ps3,Wk,_⟩:=Dx;have:=s6 _ _ Wk;rw[←h2,OK] at this;cases this
       ·have:=s6 _ _ (hk5 _ _ nlp h2 eb);rw[OK] at this;cases this
     refine q tb ls FD ab0 acC (fun b o h1 h2 eb=>EF _ _ (hk8 b o h1 h2 eb)) (Jm.same EF) ⟨⟨dx,EF _ _ Kj⟩,td8.kt (KT.same EF),zs,EF _ _ Zp,?_,fun i v ev=> ?_⟩
     ·rw[R8.len,sN,aK]
     ·obtain⟨r,QI,t',x,u',rfl,f1,f2,f3⟩:=R8.at_ i v ev;rw[sN,bj] at QI
      cases eg:(fA s ["ground"])[i]? with
      |none=>rw[eg] at QI;cases QI
      |some r' =>
       rw[eg] at QI;cases QI;exact⟨r',rfl,t',x,u',rfl,EF _ _ f1,((XT r'.1 (so s _ ok r' (bJ eg)) f2).kt (KT.same s58)).kt (KT.same EF),EF _ _ f3⟩
 ·obtain⟨p,dx,v,t,s,rfl,_⟩:=h;rfl
noncomputable def Wh(C:Addr):Sp:=fun vs H Q _=>∃p tb ls s,vs=[.ref p]∧iy C H p tb ls s∧Q (.ref tb) H
theorem xW(T:Txt K mg A):aM P w K mg base cK 1 A.pk A.o9 ["self"] (Wh A.ax):=by
 refine T.pK.F.ok xP (fun vs H Q E h=> ?_) (fun cj Ar outer s0 H vs Q E hr h=> ?_)
 ·obtain⟨p,tb,ls,s,rfl,_⟩:=h;rfl
 ·obtain⟨p,tb,ls,s,rfl,pr,q⟩:=h;obtain⟨dx,ho⟩:=pr.ob;refine⟨_,(ai (aF (Ln (pv 0)))),?_⟩;exact⟨_,rfl,p,A.ax,dx,_,_,rfl,ho,T.bw,T.dU,rfl,q⟩
noncomputable def Oy(C:Addr):Sp:=fun vs H Q _=>∃p tb ls s,vs=[.ref p]∧iy C H p tb ls s∧Q (nI (cQ s)) H
theorem vR(T:Txt K mg A):aM P w K mg base cK 1 A.oA A.oI ["self"] (Oy A.ax):=by
 refine T.oC.F.ok wy (fun vs H Q E h=> ?_) (fun cj Ar outer s0 H vs Q E hr h=> ?_)
 ·obtain⟨p,tb,ls,s,rfl,_⟩:=h;rfl
 ·obtain⟨p,tb,ls,s,rfl,pr,q⟩:=h;obtain⟨dx,ho⟩:=pr.ob;obtain⟨zs,hz,hl,_⟩:=pr.rows;refine⟨_,(ai (aF (h8 aZ T.gi Boot.«len» (aH (Ln (pv 0)))))),?_⟩;rw[←jO s ["ground"],←hl] at q;exact⟨_,rfl,p,A.ax,dx,_,_,rfl,ho,T.bw,T.cC,rfl,ls,zs,rfl,.inl (bF.of hz),q⟩
noncomputable def Nl(C:Addr):Sp:=fun vs H Q _=>∃p tb ls s,vs=[.ref p]∧iy C H p tb ls s∧gw s∧cQ s≤40∧cM s≤6∧∀H',aj H H'→Q (nI (gD s)) H'
theorem uV(T:Txt K mg A)(Fm:rT P w K A fm):aM P w K mg base cK 17 A.mU A.mC ["self"] (Nl A.ax):=by
 refine T.mG.F.ok uZ (fun vs H Q E h=> ?_) (fun cj Ar outer s0 H vs Q E hr h=> ?_)
 ·obtain⟨p,tb,ls,s,rfl,_⟩:=h;rfl
 ·obtain⟨p,tb,ls,s,rfl,pr,ok,hm,h6,q⟩:=h;obtain⟨dx,ho⟩:=pr.ob;obtain⟨e1,e2,e3,e4⟩:=AJ s;refine⟨_,(ai (aF (cn (uz T Fm 7) hr T.lj az (aH (Ln (pv 0)))))),?_⟩;rw[←e3] at q;exact⟨_,rfl,p,A.ax,dx,_,_,rfl,ho,T.bw,T.dU,rfl,.ref tb,true,gU s,rfl,pr.body.dat,tq s ok,by lia,by lia,by lia,q⟩
noncomputable def J_(C:Addr):Sp:=fun vs H Q _=>∃p tb ls s,vs=[.ref p]∧iy C H p tb ls s∧gw s∧cQ s≤40∧cM s≤6∧∀H',aj H H'→Q (nI (gC s)) H'
theorem sr(T:Txt K mg A)(Fm:rT P w K A fm):aM P w K mg base cK 17 A.lK A.kY ["self"] (J_ A.ax):=by
 refine T.lz.F.ok sP (fun vs H Q E h=> ?_) (fun cj Ar outer s0 H vs Q E hr h=> ?_)
 ·obtain⟨p,tb,ls,s,rfl,_⟩:=h;rfl
 ·obtain⟨p,tb,ls,s,rfl,pr,ok,hm,h6,q⟩:=h;obtain⟨dx,ho⟩:=pr.ob;obtain⟨e1,e2,e3,e4⟩:=AJ s;refine⟨_,(ai (aF (cn (rX T Fm 7) hr T.jC az (aH (Ln (pv 0)))))),?_⟩;rw[←e4] at q;exact⟨_,rfl,p,A.ax,dx,_,_,rfl,ho,T.bw,T.dU,rfl,.ref tb,true,gU s,rfl,pr.body.dat,tq s ok,by lia,by lia,by lia,q⟩
noncomputable def Il(rs:List (Dd×ao)):List Nat:=(List.range rs.length).filter fun i=>decide (((rs[i]?).map fun r=>r.1.wd)=some ("make" :Str))
theorem TN{H:Hp}{v:V}{r:Dd×ao}(h:LF H v r):∃t b u vs,v= .ref t∧H t=some (.tup [.ref b,.ref u])∧H b=some (.tup (.str r.1.wd::vs))∧H u=some (.tup (r.2.map V.str)):=by
 obtain⟨t,x,u,e1,e2,e3,e4⟩:=h;rw[DS] at e3
 cases e3 with
 |tup e h=>
  cases h with
  |cons a r=>cases a;exact⟨t,_,u,_,e1,e2,e,e4⟩
noncomputable def Kk(C:Addr):Sp:=fun vs H Q _=>∃p tb ls s,vs=[.ref p]∧iy C H p tb ls s∧cQ s≤1000∧∀l H',H l=none→aj H H'→H' l=some (.lst ((Il (fA s ["ground"])).map nI))→Q (.ref l) H'
theorem ke(T:Txt K mg A):aM P w K mg base cK 1 A.lr A.lI ["self"] (Kk A.ax):=by
 refine T.hW.F.ok sv (fun vs H Q E h=> ?_) (fun cj Ar outer s0 H vs Q E hr h=> ?_)
 ·obtain⟨p,tb,ls,s,rfl,_⟩:=h;rfl
 ·obtain⟨p,tb,ls,s,rfl,pr,hm,q⟩:=h;obtain⟨dx,ho⟩:=pr.ob;obtain⟨zs,hz,hl,Kl⟩:=pr.rows;have hlen:=jO s ["ground"];refine⟨_,(ai (aF (F1 ["number","row"] 2 [] (vo rfl T.w6 (aH (Ln (pv 0)))) (fun _ _ _ _ _=>⟨(uA (K:=K) (n:=2) rfl rfl (a_ (fO 0 (show(["number","row"]:ao).Nodup by decide+kernel)) (a_ (fO 1 (show(["number","row"]:ao).Nodup by decide+kernel)) fq)) rfl rfl),(EO (wp dM (cU (yL (K:=K) rfl) (cU (yL (K:=K) rfl) (pv 1) af) af) aB)),(pv 0)⟩)))),?_⟩;refine⟨_,rfl,p,A.ax,dx,_,_,rfl,ho,T.bw,T.cC,rfl,ls,_,rfl,hz,?_⟩;refine gc (fun i=>decide ((((fA s ["ground"])[i]?).map fun r=>r.1.wd)=some ("make" :Str))) (fun i=>nI i) (yX (bF.of hz)) (aR (show zs.length≤1000 by lia) (by decide)) ?_ fun p2 H2 h0 s2 h2=> ?_
  ·rintro i x H' C1 C0 hi sm ⟨tt,y,rfl,hT,hy⟩ c1 c0
   obtain⟨r,er,VZ⟩:=Kl i y hy;obtain⟨t,b,u,vs,rfl,f1,f2,f3⟩:=TN VZ;refine⟨tt,_,rfl,bc.of hT,rfl,_,_,rfl,_,_,rfl,rfl,((fz.refl _).own (by decide)).own (by decide),_,rfl,t,_,0,_,rfl,rfl,bc.of (sm _ _ f1),rfl,b,_,0,_,rfl,rfl,bc.of (sm _ _ f2),l5 _ _,rfl,_,rfl,?_⟩;rw[er] at c1 c0;by_cases hw:r.1.wd="make"
   ·rw[hw];exact eqT ⟨_,rfl,c1 (aS (congrArg some hw)) H' (aj.refl H')⟩
   ·exact iH (c6 hw) (c0 (br (fun z=>hw (di z))) H' (aj.refl H'))
  ·rw[hl] at h2;exact q p2 H2 h0 s2 h2
inductive TV (H:Hp):V→Prop
 |bx:TV H .bx
 |bl (b:Bool):TV H (.bl b)
 |int (i:Int) (h:i.natAbs<10 ^ 40):TV H (.int i)
 |str (x:Str) (h:(PyData.str x).shown.length≤100):TV H (.str x)
 |lst {a:Addr} (e:H a=some (.lst [.int 0])):TV H (.ref a)
 |tup {a:Addr} (e:H a=some (.tup [.int 0])):TV H (.ref a)
 |dK {a:Addr} (e:H a=some (.dK [])):TV H (.ref a)
theorem TV.same{H H' :Hp}{v:V}(t:TV H v)(s:aj H H'):TV H' v:=by
 cases t with
 |bx=>exact .bx
 |bl b=>exact .bl b
 |int i h=>exact .int i h
 |str x h=>exact .str x h
 |lst e=>exact .lst (s _ _ e)
 |tup e=>exact .tup (s _ _ e)
 |dK e=>exact .dK (s _ _ e)
noncomputable def jao:V→Bool
 | .int _=>true
 |_=>false
noncomputable def NB(lo hi:Int):V→Bool
 | .int i=>decide (lo≤i)&&decide (i≤hi)
 |_=>false
theorem Mh{lo hi i:Int}{Q:Bool→Prop}(k:Q (decide (lo≤i)&&decide (i≤hi)))(A1:Prop)(h:Q (decide (i≤hi))→A1):if decide (lo≤i)=true then A1 else Q false:=by
 by_cases q:lo≤i
 ·rw[aS q] at k ⊢;exact dG (h (by simpa using k))
 ·rw[br q] at k ⊢;exact cA (by simpa using k)
theorem MF(i:Int)(l:List Nat):wL (.int i) (l.map nI)=decide (∃k∈l,((k:Nat):Int)=i):=by
 unfold wL;rw[yr,me,yj,nF];constructor
 ·rintro ⟨k,hk,e⟩
  have e:Dg (nI k) (.int i)=true:=e;exact⟨k,hk,by simpa[Dg,nI] using e⟩
 ·rintro ⟨k,hk,e⟩
  exact⟨k,hk,by subst e;simp[Dg,nI]⟩
theorem Iy(l:List Nat):(l.map nI).all kX=true:=by
 rw[yi];exact c_.mpr fun _ _=>rfl
noncomputable def V9:Sp:=fun vs H Q _=>∃v,vs=[v]∧TV H v∧Q (.bl (jao v)) H
theorem A9(T:Txt K mg A):aM P w K mg base cK 1 A.pJ A.pq ["thing"] V9:=by
 refine T.gR.F.zk vq ?_
 rintro cj Ar outer s H vs Q E hr ⟨v,rfl,p,k⟩
 refine⟨_,(ai (aF (nZ (h8 eB T.cS Boot.«isinstance» (ae (pv 0) (aH (iV (v:= .ty "int") rfl T.Iz Boot.«int» rfl)))) (lQ (Mx (h8 eB T.cS Boot.«isinstance» (ae (pv 0) (aH (iV (v:= .ty "bool") rfl T.LD Boot.«bool» rfl))))))))),?_⟩
 cases p with
 |bx=>exact⟨_,rfl,_,_,_,_,rfl,.bx,rfl,_,rfl,cA k⟩
 |bl b=>exact⟨_,rfl,_,_,_,_,rfl,.bl b,rfl,_,rfl,dG ⟨_,rfl,_,_,_,_,rfl,.bl b,rfl,_,rfl,k⟩⟩
 |int i h=>exact⟨_,rfl,_,_,_,_,rfl,.int i,rfl,_,rfl,dG ⟨_,rfl,_,_,_,_,rfl,.int i,rfl,_,rfl,k⟩⟩
 |str x h=>exact⟨_,rfl,_,_,_,_,rfl,.str x,rfl,_,rfl,cA k⟩
 |lst e=>exact⟨_,rfl,_,_,_,_,rfl,.lst e,rfl,_,rfl,cA k⟩
 |tup e=>exact⟨_,rfl,_,_,_,_,rfl,.tup e,rfl,_,rfl,cA k⟩
 |dK e=>exact⟨_,rfl,_,_,_,_,rfl,.dK e,rfl,_,rfl,cA k⟩
noncomputable def NG:Sp:=fun vs H Q _=>∃(v:V) (lo hi:Int),vs=[v,.int lo,.int hi]∧TV H v∧Q (.bl (NB lo hi v)) H
theorem CF(T:Txt K mg A):aM P w K mg base cK 2 A.sY A.sJ ["thing","low","high"] NG:=by
 refine T.nR.F.zk wX ?_
 rintro cj Ar outer s H vs Q E hr ⟨v,lo,hi,rfl,p,k⟩
 refine⟨_,(ai (aF (nZ (cn (A9 T) hr T.gR az (aH (pv 0))) (lQ (y_ BU BU (pv 1) (pv 0) (pv 2)))))),?_⟩;refine⟨_,rfl,v,rfl,p,_,rfl,?_⟩
 cases p with
 |int i h=>exact dG ⟨_,rfl,_,rfl,lo,i,rfl,rfl,_,rfl,Mh (Q:=fun b=>Q (.bl b) H) k _ fun q=>⟨_,rfl,i,hi,rfl,rfl,q⟩⟩
 |bx=>exact cA k
 |bl b=>exact cA k
 |str x h=>exact cA k
 |lst e=>exact cA k
 |tup e=>exact cA k
 |dK e=>exact cA k
noncomputable def KU(A:m9):Sp:=fun vs H Q E=>∃p tb ls s v,vs=[.ref p,v]∧iy A.ax H p tb ls s∧cQ s≤1000∧TV H v∧
 ((∃k r,k∈Il (fA s ["ground"])∧v=nI k∧(fA s ["ground"])[k]? =some r∧∀l H',H l=none→aj H H'→H' l=some (.lst (r.2.map V.str))→Q (.ref l) H')∨
  ((∀k∈Il (fA s ["ground"]),v≠nI k)∧∀dx H2,aj H H2→H2 dx=some (.xd [("found",v)])→E (.ref A.fE) (some dx) H2))
theorem k6(T:Txt K mg A):aM P w K mg base (A8 P w) 4 A.mP A.mY ["self","number"] (KU A):=by
 refine T.fV.F.okX uD (fun vs H Q E h=> ?_) (fun cj Ar outer s0 H vs Q E hr h=> ?_)
 ·obtain⟨p,tb,ls,s,v,rfl,_⟩:=h;rfl
 ·obtain⟨p,tb,ls,s,v,rfl,pr,hm,tv,q⟩:=h;obtain⟨dx,ho⟩:=pr.ob;obtain⟨zs,hz,hl,Kl⟩:=pr.rows;refine⟨_,(ag (bu (PW.pt (XV (kK (iN (cn (CF T) hr T.nR az (ae (pv 1) (ae af (aH (h8 aZ T.gi Boot.«len» (aH (Ln (pv 0)))))))))) (WP (wp fZ (pv 1) (GA (pv 0) T.bw T.hW (ke T) hr az))))) (ai (kh rfl eX (VS T.eJ T.jB (o_ T) hr (aH (pv 1))))) aV) (ai (aF (K1 Dp T.AK Boot.«list» (aH (cU aX (cU a7 (Ln (pv 0)) (pv 1)) af)))))),?_⟩;refine⟨_,rfl,_,rfl,p,A.ax,dx,_,_,rfl,ho,T.bw,T.cC,rfl,ls,zs,rfl,.inl (bF.of hz),v,0,_,rfl,tv,_,rfl,?_⟩
  have bad:(∀k∈Il (fA s ["ground"]),v≠nI k)→∀H1,aj H H1→∀dx H2,aj H1 H2→H2 dx=some (.xd [("found",v)])→E (.ref A.fE) (some dx) H2:=fun hn H1 s1=>by
   rcases q with⟨k,r,hk,hv,_⟩|⟨_,q⟩
   ·exact absurd hv (hn k hk)
   ·exact fun dx H2 s2 e=>q dx H2 (s1.trans s2) e
  have mlt:∀k∈Il (fA s ["ground"]),k<(fA s ["ground"]).length:=fun k hk=>iA.mp (lW.mp hk).1
  cases hw:NB 0 (zs.length:Int) v with
  |false=>
   refine dG (dG (pR T.eJ.X.toExcC (fun Q' h=>⟨_,rfl,h⟩) (bad (fun k hk hv=> ?_) H (aj.refl H))));have:=mlt k hk;rw[hv] at hw;have hw:(decide ((0:Int)≤(k:Int))&&decide ((k:Int)≤(zs.length:Int)))=false:=hw;rw[aS (by lia),aS (by lia)] at hw;cases hw
  |true=>
   obtain⟨i,rfl⟩:∃i,v= .int i:=by
    cases v with
    |int i=>exact⟨i,rfl⟩
    |_=>cases hw
   refine cA ⟨_,rfl,_,rfl,p,dx,_,rfl,ho,rfl,p,tb,ls,s,rfl,pr,hm,fun l H1 AR s1 kU=> ?_⟩;refine⟨l,_,rfl,.inl (bF.of kU),rfl,Iy _,_,rfl,?_⟩;show if(!wL (V.int i) ((Il (fA s ["ground"])).map nI))=true then _ else _
   rw[MF];by_cases he:∃k∈Il (fA s ["ground"]),((k:Nat):Int)=i
   ·rw[aS he];obtain⟨k0,hk0,rfl⟩:=he
    have key:∃r,(fA s ["ground"])[k0]? =some r∧∀l H',H l=none→aj H H'→H' l=some (.lst (r.2.map V.str))→Q (.ref l) H' :=by
     rcases q with⟨k,r,hk,hv,er,q⟩|⟨hn,_⟩
     ·have:k0=k:=by
       have:=V.int.inj hv
       lia
      subst this;exact⟨r,er,q⟩
     ·exact absurd rfl (hn k0 hk0)
    obtain⟨r,er,q⟩:=key;have hk1:=mlt k0 hk0;have ez:zs[k0]? =some zs[k0]:=by simp[show k0<zs.length by lia]
    obtain⟨r',QI,VZ⟩:=Kl k0 _ ez;rw[er] at QI;cases QI;obtain⟨t,b,u,vs,hv,f1,f2,f3⟩:=TN VZ;rw[hv] at ez;refine cA ⟨_,rfl,p,A.ax,dx,_,_,rfl,s1 _ _ ho,T.bw,T.cC,rfl,_,rfl,ls,_,_,_,rfl,rfl,bF.of (s1 _ _ hz),bU ez,t,_,1,_,rfl,rfl,bc.of (s1 _ _ f1),rfl,u,_,rfl,.inr (bc.of (s1 _ _ f3)),fun l3 NZ=> ?_⟩;exact q l3 _ (s1.free NZ) (s1.trans (aj.upd NZ)) aa
   ·rw[br he];exact dG (pR T.eJ.X.toExcC (fun Q' h=>⟨_,rfl,h⟩) (bad (fun k hk hv=>he ⟨k,hk,(V.int.inj hv).symm⟩) H1 s1))
noncomputable def wC(w:Str):ao:=(dg.lookup w).getD []
theorem xt{w:Str}{L:ao}(h:(w,L)∈dg):wC w=L:=bQ (c_.mp (show(dg.all fun p=>decide (wC p.1=p.2))=true by decide+kernel) _ h)
noncomputable def jah:PyData→Str
 | .str x=>x
 |_=>""
noncomputable def tQ(d:Dd):ao:=((List.range d.ps.length).filter fun i=>decide ((wC d.wd).getD i ""="name")).map fun i=>jah (d.ps.getD i .none)
theorem Wi(d:Dd):tQ (lP d)=tQ d:=by
 cases d with
 |mk w ps bs=>rw[lP];rfl
noncomputable def Pf:Sp:=pC fun _ d v H Q=>∀l H',H l=none→aj H H'→H' l=some (.lst ((tQ d).map V.str))→Q (.ref l) H'
theorem Ft(T:Txt K mg A)(Fm:rT P w K A fm):aM P w K mg base cK 2 A.AD A.zD ["deed"] Pf:=by
 refine T.Az.F.zk E4 ?_
 rintro cj Ar outer s H vs Q E hr ⟨H0,v,d,rfl,ju,hd,ok,q⟩
 obtain⟨a,ks,xs,ys,rfl,p0⟩:=cG hd ok;have p:=p0.same ju;have hl:=p.len;have Zh:=p.lx;have hlp:=eQ p.hx;have hkw:=xt p.f;have hs:(ks++List.replicate ys.length ("body" :Str)).length≤sizeLine:=aR (dz p.f) (by decide);refine⟨_,(ai (aF (F1 ["kind","part"] 2 [] (cz (cn (lD T Fm) hr T.kI az (aH (pv 0)))) (fun _ _ _ _ _=>⟨(uA (K:=K) (n:=2) rfl rfl (a_ (fO 0 (show(["kind","part"]:ao).Nodup by decide+kernel)) (a_ (fO 1 (show(["kind","part"]:ao).Nodup by decide+kernel)) fq)) rfl rfl),(EO (wp dM (pv 0) aB)),(pv 1)⟩)))),?_⟩;refine⟨_,rfl,a,d.wd,_,_,rfl,p.e,p.f,p.len,fun l zs H1 VG s1 hz zp=> ?_⟩;refine⟨l,rfl,⟨_,bF.of hz⟩,?_⟩;have Vl:zs.length=(ks++List.replicate ys.length ("body" :Str)).length:=by rw[zp.len,aK]
 have BZ:zs.length=xs.length+ys.length:=by rw[Vl,hl,ba]
 refine gc (fun i=>decide ((wC d.wd).getD i ""="name")) (fun i=>(xs++ys).getD i .bx) (dN (bF.of hz)).g (by lia) ?_ fun p2 H2 h0 s2 h2=> ?_
 ·intro i x H' C1 C0 hi sm hy c1 c0;obtain⟨tt,k,v,rfl,hT,e1,e2⟩:=jac (zp.same sm) (by rw[aK];exact p.len) hy;rw[bj] at e1;rw[hkw] at c1 c0
  cases ek:(ks++List.replicate ys.length ("body" :Str))[i]? with
  |none=>rw[ek] at e1;cases e1
  |some k' =>
   rw[ek] at e1;cases e1;refine⟨tt,_,rfl,bc.of hT,rfl,_,_,rfl,_,_,rfl,rfl,((fz.refl _).own (by decide)).own (by decide),_,rfl,rfl,_,rfl,?_⟩;rw[cy,cy,ek,e2] at c1;rw[cy,ek] at c0;by_cases hb:k' ="name"
   ·subst hb;exact eqT ⟨v,rfl,c1 (aS rfl) H' (aj.refl H')⟩
   ·exact iH (c6 hb) (c0 (br hb) H' (aj.refl H'))
 ·refine q p2 H2 (s1.free h0) (s1.trans s2) ?_;rw[h2,BZ]
  have e0:((List.range ys.length).map (xs.length+ ·)).filter (fun i=>decide ((wC d.wd).getD i ""="name"))=[]:=yh.mpr fun i hi=>by
   obtain⟨j,hj,rfl⟩:=fh.mp hi;have hj:=iA.mp hj;rw[hkw,cy,gM (by lia),si,aA (by lia)];decide+kernel
  unfold tQ;rw[List.range_add,qj,e0,dO,←hlp,iL];refine congrArg (fun z=>some (HO.lst z)) (C_ fun i hi=> ?_);obtain⟨hi1,hi2⟩:=lW.mp hi;have hi1:=iA.mp hi1;have hk:=bQ hi2;rw[hkw,cy,dP (by lia)] at hk;have ek:ks[i]? =some ks[i]:=by simp[show i<ks.length by lia]
  have ev:xs[i]? =some xs[i]:=by simp[hi1]
  rw[ek] at hk;obtain⟨d',f1,f2⟩:=fD p.hx i _ ev;have ft:=kg p.fit i _ d' ek f1;have hk:ks[i]="name":=hk;rw[hk] at ft;show(xs++ys).getD i .bx=V.str (jah (d.ps.getD i .none));rw[cy,dP hi1,ev,cy,f1];show xs[i]=V.str (jah d');generalize xs[i]=xi at f2
  cases ft with
  |name x _=>cases f2;rfl
  |num _ _ _ _ hb=>exact absurd rfl (iJ hb (by decide+kernel))
noncomputable def jW(acc:ao)(x:Str):ao:=if x∈acc then acc else acc++[x]
noncomputable def Kx(l:ao):dE:=l.map fun x=>(.inr x,.bl true)
theorem Qv(l:ao)(x:Str):zn (Kx l) (.inr x) (.bl true)=Kx (jW l x):=by
 unfold zn jW;by_cases h:x∈l
 ·have h1:((Kx l).any fun kv=>decide (kv.1=Sum.inr x))=true:=by
   unfold Kx;rw[yr,yj];exact⟨x,h,aS rfl⟩
  rw[aA h1,aA h];unfold Kx;rw[iL];refine C_ fun y _=> ?_;show(if(Sum.inr y:ww)=Sum.inr x then((Sum.inr y:ww),V.bl true) else(Sum.inr y,.bl true))=_
  split<;>rfl
 ·have h1:¬((Kx l).any fun kv=>decide (kv.1=Sum.inr x))=true:=by
   unfold Kx;rw[yr,yj]
   rintro ⟨y,hy,e⟩
   have e:(Sum.inr y:ww)=Sum.inr x:=bQ e;exact h (Sum.inr.inj e▸hy)
  rw[ay h1,ay h];unfold Kx;rw[fJ];rfl
noncomputable def CV(rs:List (Dd×ao)):ao:=(rs.flatMap fun r=>tQ r.1).foldl jW []
theorem um(l:ao):∀acc:ao,(l.foldl jW acc).length≤acc.length+l.length:=by
 induction l with
 |nil=>intro acc;exact aG _
 |cons x r ih=>
  intro acc;have h1:=ih (jW acc x)
  have h2:(jW acc x).length≤acc.length+1:=by
   unfold jW
   split
   ·lia
   ·rw[ba];exact aG _
  show(r.foldl jW (jW acc x)).length≤_;rw[aW]
  lia
theorem DO(d:Dd)(ok:ip d):(tQ d).length≤4:=by
 cases d with
 |mk w ps bs=>
  rw[ip] at ok;obtain⟨⟨ks,f,fit⟩,_⟩:=ok;have:=dz f;rw[ba,nq fit] at this;unfold tQ;rw[aK];refine aR (sV _ _) ?_;rw[lV];show ps.length≤4
  lia
theorem En{rs:List (Dd×ao)}(ok:∀r∈rs,ip r.1):(rs.flatMap fun r=>tQ r.1).length≤4*rs.length:=by
 induction rs with
 |nil=>exact aG _
 |cons r q ih=>
  have h1:=ih fun x hx=>ok x (ff _ hx);have h2:=DO r.1 (ok r e_);rw[List.flatMap_cons,ba,aW]
  lia
noncomputable def Nt(C:Addr):Sp:=fun vs H Q _=>∃p tb ls s,vs=[.ref p]∧iy C H p tb ls s∧gw s∧cQ s≤1000∧∀l H',H l=none→aj H H'→H' l=some (.lst ((CV (fA s ["ground"])).map V.str))→Q (.ref l) H'
theorem wF(T:Txt K mg A)(Fm:rT P w K A fm):aM P w K mg base cK 3 A.jm A.oG ["self"] (Nt A.ax):=by
 refine T.oq.F.ok eh (fun vs H Q E h=> ?_) (fun cj Ar outer s0 H vs Q E hr h=> ?_)
 ·obtain⟨p,tb,ls,s,rfl,_⟩:=h;rfl
 ·obtain⟨p,tb,ls,s,rfl,pr,ok,hm,q⟩:=h
  have hu:(kP cK P w K mg base ["self","found","deed","around","name"] "Program.names" (aq jj) A.jm cj Ar outer s0 H E).Gg.A.units+1<cLine:=by
   have:=hr.un;show(Ar.deeper _).units+1<cLine;omega
  obtain⟨dx,ho⟩:=pr.ob;obtain⟨zs,hz,hl,Kl⟩:=pr.rows;have hlen:=jO s ["ground"];have Kp:=so s ["ground"] ok;refine⟨_,(ag (eU 1 eh.nd ER) (ag (vI (cz (Ln (pv 0))) (lX rfl (a_ (fO 2 eh.nd) (a_ (fO 3 eh.nd) fq))) (ai (vI (cz (cn (Ft T Fm) hr T.Az az (aH (pv 2)))) (fO 4 eh.nd) (ai (Oq hu (pv 1) (pv 4) lE rfl))))) (ai (aF (K1 (yb rfl) T.AK Boot.«list» (aH (pv 1))))))),?_⟩;refine fun dd k9=>⟨_,rfl,p,A.ax,dx,_,_,rfl,aj.upd k9 _ _ ho,T.bw,T.cC,rfl,ls,rfl,⟨_,bF.of (aj.upd k9 _ _ hz)⟩,?_⟩;refine dF (K:=K) (a:=ls) (xs:=zs) (fun i σ H' =>∃x2 x3 x4:Option V,σ=[some (.ref p),some (.ref dd),x2,x3,x4]∧aj H H'∧H' dd=some (.dK (Kx (CV ((fA s ["ground"]).take i))))) ⟨_,_,_,rfl,aj.upd k9,aa⟩ (by rintro i σ H' _ ⟨_,_,_,_,sm,_⟩;exact bF.of (sm _ _ hz)) ?_ ?_
  ·rintro i x σ H' hx ⟨x2,x3,x4,rfl,sm,EE⟩
   obtain⟨r,er,t,y,u,rfl,f1,f2,f3⟩:=Kl i x hx;have gq:=Kp r (bJ er);have hri:=(dq.mp er).1;refine⟨t,_,rfl,bc.of (sm _ _ f1),rfl,_,_,rfl,_,_,rfl,rfl,_,rfl,H,y,lP r.1,rfl,sm,f2.dat,Mo _ gq,fun l H1 AR s1 kU=>⟨l,rfl,⟨_,bF.of kU⟩,?_⟩⟩;rw[Wi] at kU;have acY:l≠dd:=(aw EE AR).symm
   have hb1:(CV ((fA s ["ground"]).take i)).length≤4000:=by
    have h1:=um (((fA s ["ground"]).take i).flatMap fun r=>tQ r.1) [];have h2:=En (rs:=(fA s ["ground"]).take i) fun r hr=>Kp r (List.mem_of_mem_take hr);rw[gG] at h2;unfold CV;simp only[jh] at h1
    lia
   have vE:=DO r.1 gq;refine dF (K:=K) (a:=l) (xs:=(tQ r.1).map V.str) (fun j σ H2=>∃x4:Option V,σ=[some (.ref p),some (.ref dd),some y,some (.ref u),x4]∧Kept dd H1 H2∧H2 dd=some (.dK (Kx (((tQ r.1).take j).foldl jW (CV ((fA s ["ground"]).take i)))))) ⟨x4,rfl,Kept.refl _ _,s1 _ _ EE⟩ (by rintro j σ H' _ ⟨_,_,k,_⟩;exact bF.of (k _ _ acY kU)) ?_ ?_
   ·rintro j z σ H2 BZ ⟨x4,rfl,k2,hd2⟩
    rw[bj] at BZ
    cases en:(tQ r.1)[j]? with
    |none=>rw[en] at BZ;cases BZ
    |some nm=>
     rw[en] at BZ;cases BZ;refine⟨_,rfl,_,rfl,dd,_,rfl,Lp.k (k:= .inr nm) hd2 ?_,some (.str nm),rfl,fun c o hc e=> ?_,?_⟩
     ·have h1:=um ((tQ r.1).take j) (CV ((fA s ["ground"]).take i));unfold Kx;rw[aK];rw[gG] at h1;exact gp (show _≤4004 by lia) (by decide)
     ·rw[av hc];exact k2 c o hc e
     ·rw[aa,Qv,wv en,yC];rfl
   ·rintro σ H2 ⟨x4,rfl,k2,hd2⟩
    refine⟨_,_,_,rfl,fun c o e=>k2 c o (aw e k9) (s1 _ _ (sm _ _ e)),?_⟩;rw[aK,fK] at hd2;rw[hd2];unfold CV;rw[fY (fun r:Dd×ao=>tQ r.1) er,yC]
  ·rintro σ H' ⟨x2,x3,x4,rfl,sm,EE⟩
   rw[hl,fK] at EE;refine⟨_,rfl,dd,_,rfl,EE,fun l NZ=>q l _ (sm.free NZ) (sm.trans (aj.upd NZ)) ?_⟩;rw[aa];unfold Kx;rw[iL];rfl
theorem qk{x:V}{xs:ak}{k:Nat}(hk:1≤k)(hi:Option Int):¬(HT.iB (x::xs).length 0 (some (k:Int))=0∧HT.iB (x::xs).length (x::xs).length hi=(x::xs).length):=by
 rintro ⟨z,_⟩
 rw[HT.jJ] at z;simp only[aW] at z
 lia
theorem zV(xs:ak)(k:Nat):bY xs (some (k:Int)) none=xs.drop k:=by
 unfold bY;rw[HT.jJ,HT.An];by_cases h:k≤xs.length
 ·rw[Nat.min_eq_left h];exact sH (by rw[tS];exact aG _)
 ·rw[Nat.min_eq_right (by lia),List.drop_of_length_le (by lia),List.drop_of_length_le (by lia),List.take_nil]
noncomputable def Km:Sp:=pC fun H0 d v H Q=>∀t ys H',H t=none→aj H H'→H' t=some (.tup ys)→DatAll H0 ys (bL d.bs)→Q (.ref t) H'
noncomputable def GB:Sp:=pC fun H0 d v H Q=>∀t ys H',H t=none→aj H H'→H' t=some (.tup ys)→DatAll H0 ys (bL d.bs)→(∃a xs,v= .ref a∧H a=some (.tup (.str d.wd::(xs++ys)))∧xs.length=d.ps.length)→Q (.ref t) H'
theorem oB(T:Txt K mg A):aM P w K mg base cK 1 A.iZ A.lY ["_law_deed"] GB:=by
 refine T.dR.F.ok zB (fun vs H Q E h=> ?_) (fun cj Ar outer s0 H vs Q E hr h=> ?_)
 ·obtain⟨H0,v,d,rfl,_⟩:=h;rfl
 ·obtain⟨H0,v,d,rfl,ju,hd,ok,q⟩:=h;obtain⟨a,ks,xs,ys,rfl,p0⟩:=cG hd ok;have pp:=p0.same ju
  have hu:(kP cK P w K mg base ["_law_deed"] "_law_bodies" (aq lT) A.iZ cj Ar outer s0 H E).Gg.A.units+1<cLine:=by
   have:=hr.un;show(Ar.deeper _).units+1<cLine;omega
  refine⟨_,(ai (aF (EC hu (HF (i8 aB (c5 lS (pv 0) (cE af) gA) (i8 aB (c5 lS (pv 0) (cE af) gA) (i8 aB (c5 lS (pv 0) (cE af) gA) Ia))) rfl rfl (by simp) (by decide)) (cU aX (pv 0) af) (a9 dr) ⟨rfl,rfl,rfl,rfl⟩))),?_⟩;refine fun p hp=>⟨_,rfl,2,rfl,a,_,rfl,bc.of (aj.upd hp _ _ pp.e),qk (k:=2) (by decide) _,fun t1 wg=> ?_⟩;have s1:=(aj.upd (o:= .dK []) hp).trans (aj.upd (o:= .tup (bY (.str d.wd::(xs++ys)) (some 2) none)) wg);have RW:=aj.upd (o:= .tup (bY (.str d.wd::(xs++ys)) (some 2) none)) wg p _ aa;have e1:upd (upd H p (.dK [])) t1 (.tup (bY (.str d.wd::(xs++ys)) (some 2) none)) t1=some (.tup (bY (.str d.wd::(xs++ys)) (some 2) none)):=aa;have f1:H t1=none:=(aj.upd (o:= .dK []) hp).free wg;generalize upd (upd H p (.dK [])) t1 (.tup (bY (.str d.wd::(xs++ys)) (some 2) none))=H1 at s1 RW e1 ⊢;refine⟨_,rfl,4,rfl,a,_,rfl,bc.of (s1 _ _ pp.e),qk (k:=4) (by decide) _,fun t2 wb=> ?_⟩;have s2:=s1.trans (aj.upd (o:= .tup (bY (.str d.wd::(xs++ys)) (some 4) none)) wb);have D0:=aj.upd (o:= .tup (bY (.str d.wd::(xs++ys)) (some 4) none)) wb _ _ RW;have e2:=aj.upd (o:= .tup (bY (.str d.wd::(xs++ys)) (some 4) none)) wb _ _ e1;have Vu :upd H1 t2 (.tup (bY (.str d.wd::(xs++ys)) (some 4) none)) t2=some (.tup (bY (.str d.wd::(xs++ys)) (some 4) none)):=aa;have f2:H t2=none:=s1.free wb;generalize upd H1 t2 (.tup (bY (.str d.wd::(xs++ys)) (some 4) none))=H2 at s2 D0 e2 Vu ⊢;refine⟨_,rfl,1,rfl,a,_,rfl,bc.of (s2 _ _ pp.e),qk (k:=1) (by decide) _,fun t3 oj=> ?_⟩;have u3:=aj.upd (o:= .tup (bY (.str d.wd::(xs++ys)) (some 1) none)) oj;have Wk :upd H2 t3 (.tup (bY (.str d.wd::(xs++ys)) (some 1) none)) t3=some (.tup (bY (.str d.wd::(xs++ys)) (some 1) none)):=aa;have f3:H t3=none:=s2.free oj;generalize upd H2 t3 (.tup (bY (.str d.wd::(xs++ys)) (some 1) none))=H3 at u3 Wk ⊢;have s3:=s2.trans u3;have Cq:=u3 _ _ D0
  have PZ:sj [] [((.inr "frame" :ww),V.ref t1),(.inr "turns",.ref t2),(.inr "either",.ref t3)]=[(.inr "frame",.ref t1),(.inr "turns",.ref t2),(.inr "either",.ref t3)]:=by with_unfolding_all rfl
  refine⟨Cq,[(.inr "frame",.ref t1),(.inr "turns",.ref t2),(.inr "either",.ref t3)],rfl,(show 3≤15 by decide),p,rfl,.inl ⟨_,.inl aa⟩,?_⟩;rw[PZ];have s4:aj H (upd H3 p (.dK [(.inr "frame",.ref t1),(.inr "turns",.ref t2),(.inr "either",.ref t3)])):=fC hp s3
  have k4:KT H3 (upd H3 p (.dK [(.inr "frame",.ref t1),(.inr "turns",.ref t2),(.inr "either",.ref t3)])):=fun c ys e=>by
   rw[av (bW e Cq (fun z=>nomatch z))];exact e
  have e4:upd H3 p (.dK [(.inr "frame",.ref t1),(.inr "turns",.ref t2),(.inr "either",.ref t3)]) p=some (.dK [(.inr "frame",.ref t1),(.inr "turns",.ref t2),(.inr "either",.ref t3)]):=aa;generalize upd H3 p (.dK [(.inr "frame",.ref t1),(.inr "turns",.ref t2),(.inr "either",.ref t3)])=H4 at s4 k4 e4 ⊢;refine⟨_,rfl,a,_,0,_,rfl,rfl,bc.of (s4 _ _ pp.e),l5 _ _,mI,fun t4 F0=> ?_⟩;have u5:=aj.upd (o:= .tup []) F0;refine⟨_,Jv.k (k:= .inr d.wd) (u5 _ _ e4),?_⟩;have s5:=s4.trans u5;have hx:=p0.hx;have hy:=p0.hy;have q1:∀t H',H t=none→aj H H'→H' t=some (.tup ys)→Q (.ref t) H' :=fun t H' h1 h2 h3=>q t ys H' h1 h2 h3 hy ⟨a,xs,rfl,pp.e,eQ hx⟩
  cases jaa ok with
  |ei t b u c=>
   rw[show jo [((.inr "frame" :ww),V.ref t1),(.inr "turns",.ref t2),(.inr "either",.ref t3)] (.inr (Dd.wd (.mk "either" [] (.cons t b (.cons u c .nil)))))=some (.ref t3) by with_unfolding_all rfl];refine q1 t3 _ f3 s5 ((u5 _ _ (k4 _ _ Wk)).trans ?_);rw[show bY (V.str (Dd.wd (.mk "either" [] (.cons t b (.cons u c .nil))))::(xs++ys)) (some 1) none=xs++ys from zV _ 1];cases hx;rfl
  |tu l m n t b hl hg m1 m3 n0 n4=>
   rw[show jo [((.inr "frame" :ww),V.ref t1),(.inr "turns",.ref t2),(.inr "either",.ref t3)] (.inr (Dd.wd (.mk "turns" [.str l,.int m,.int n] (.cons t b .nil))))=some (.ref t2) by with_unfolding_all rfl];refine q1 t2 _ f2 s5 ((u5 _ _ (k4 _ _ (u3 _ _ Vu))).trans ?_);obtain⟨x1,x2,rfl⟩:=Pw hx;rw[show bY (V.str (Dd.wd (.mk "turns" [.str l,.int m,.int n] (.cons t b .nil)))::([x1,x2,V.int n]++ys)) (some 4) none=ys from zV _ 4]
  |fr l t b hl hg=>
   rw[show jo [((.inr "frame" :ww),V.ref t1),(.inr "turns",.ref t2),(.inr "either",.ref t3)] (.inr (Dd.wd (.mk "frame" [.str l] (.cons t b .nil))))=some (.ref t1) by with_unfolding_all rfl];refine q1 t1 _ f1 s5 ((u5 _ _ (k4 _ _ (u3 _ _ e2))).trans ?_)
   cases hx with
   |cons h1 r=>
    cases r;rw[show bY (V.str (Dd.wd (.mk "frame" [.str l] (.cons t b .nil)))::([_]++ys)) (some 2) none=ys from zV _ 2]
  |sm w ks ps f h n1 n2 n3=>
   have hv:jo [((.inr "frame" :ww),V.ref t1),(.inr "turns",.ref t2),(.inr "either",.ref t3)] (.inr w)=none:=by
    unfold jo;rw[List.find?_eq_none.mpr]
    ·rfl
    ·intro x hx;simp only[aU,cP,cO] at hx;rcases hx with rfl|rfl|rfl
     ·simpa using fun z=>n3 z.symm
     ·simpa using fun z=>n2 z.symm
     ·simpa using fun z=>n1 z.symm
   have W0 :jo [((.inr "frame" :ww),V.ref t1),(.inr "turns",.ref t2),(.inr "either",.ref t3)] (.inr (Dd.wd (.mk w ps .nil)))=none:=hv;rw[W0];refine q1 t4 _ (s4.free F0) s5 (aa.trans ?_);have hy:DatAll H0 ys (bL .nil):=hy;rw[bL] at hy;cases hy;rfl
theorem fF(T:Txt K mg A):aM P w K mg base cK 1 A.iZ A.lY ["_law_deed"] Km:=
 (oB T).imp fun vs H Q E ⟨H0,v,d,e,sm,hd,ok,q⟩=>⟨H0,v,d,e,sm,hd,ok,fun t ys H' h1 h2 h3 h4 _=>q t ys H' h1 h2 h3 h4⟩
theorem DD{J:It}{n k:Nat}{js:List Nat}{Y:Nat→V→Hp→Prop}{g:TG}{tt:TT}{te:TE}{σ:L2.St}{H:Hp}{Q:VK}(pb:Nat→Bool)(d:Nat→PyData)(F:zY J H n Y)(hlen:n≤sizeLine)
 (gu:∀(i:Nat) (x:V) (H' :Hp) (C1:V→Hp→Prop) (C0:Hp→Prop),i<n→aj H H'→Y i x H'→(pb i=true→∀v fP,aj H' fP→hX fP v (d i)→C1 v fP)→(pb i=false→∀fP,aj H' fP→C0 fP)→
  g x (xY k js σ) H' fun lU H2=>fz (xY k js σ) lU∧tt lU H2 fun b H3=>if b=true then te lU H3 C1 else C0 H3)
 (hq:∀p H' ys,H p=none→aj H H'→H' p=some (.lst ys)→bo H' ys (((List.range n).filter pb).map d)→ys.length≤n→Q (.ref p) H'):
 mF J k js g tt te σ H Q:=by
 intro p hp;refine⟨fun i m ys H' =>m=n - i∧i≤n∧ys.length≤i∧bo H' ys (((List.range i).filter pb).map d)∧H' p=some (.lst ys)∧aj H H',⟨n,rfl,cN _,aG _,.nil,aa,aj.upd hp⟩,?_⟩
 rintro i m ys H' ⟨rfl,hi,hy,hd,hl,hs⟩
 refine⟨hl,?_⟩;by_cases iU:i<n
 ·refine .inr ⟨F.go i _ hs iU,by lia,fun x fP zg=> ?_⟩;obtain⟨s1,y1⟩:=F.yO i _ x fP hs iU zg
  have et:(List.range (i+1)).filter pb=(List.range i).filter pb++(if pb i=true then[i] else[]):=by
   rw[Dc,qj];cases hb:pb i<;>simp[hb]
  refine gu i x fP _ _ iU (hs.trans s1) y1 (fun hb v H3 s3 e3=> ?_) (fun hb H3 s3=>⟨n - (i+1),by lia,rfl,iU,by lia,?_,s3 _ _ (s1 _ _ hl),(hs.trans s1).trans s3⟩)
  ·have Cq:H3 p=some (.lst ys):=s3 _ _ (s1 _ _ hl)
   have kt:∀c xs,H3 c=some (.tup xs)→upd H3 p (.lst (ys++[v])) c=some (.tup xs):=fun c xs e=>by
    rw[av (bW e Cq (by intro z;cases z))];exact e
   refine⟨Cq,n - (i+1),by lia,rfl,iU,by rw[ba];show ys.length+1≤i+1;lia,?_,aa,fun c o e=> ?_⟩
   ·rw[et,aA hb,fJ];exact((hd.kt (KT.same (s1.trans s3))).kt kt).append (.cons (e3.kt kt) .nil)
   ·rw[av (aw e hp)];exact s3 _ _ (s1 _ _ (hs _ _ e))
  ·rw[et,hb];simp only[nO,iX,dO];exact hd.kt (KT.same (s1.trans s3))
 ·have e:i=n:=by lia
  subst e;exact .inl ⟨F.stop _ _ hs (aG _),hq p H' ys hp hs hl hd hy⟩
theorem vf(l:List PyData):(List.range l.length).map (fun i=>l.getD i .none)=l:=by
 apply yn;intro i;rw[bj];by_cases h:i<l.length
 ·rw[ql h,yM h];simp[cy,h]
 ·rw[l0 (by rw[lV];lia),l0 (by lia)];rfl
noncomputable def MU(d:Dd):List PyData:=d.bs.l.map fun p=> .tuple (sL (gU p.2))
noncomputable def P1(n:Nat):Sp:=fun vs H Q _=>∃H0 v t s,vs=[v]∧aj H0 H∧Dat H0 v (gg t (sL s))∧gw s∧cM s<n∧cQ s≤1000∧∀tt H',H tt=none→aj H H'→hX H' (.ref tt) (.tuple (sL (gU s)))→Q (.ref tt) H'
theorem Nh(xs ys:ak):bY (xs++ys) none (some (xs.length:Int))=xs:=by
 unfold bY;rw[HT.An,HT.jJ,List.drop_zero,Nat.sub_zero,ba,Nat.min_eq_left (lL _ _),List.take_left' rfl]
theorem rE(T:Txt K mg A)(n:Nat):aM P w K mg base cK (1+n) A.tL A.tY ["_law_body_here"] (P1 n):=by
 induction n with
 |zero=>exact d_ (by rintro vs H Q E ⟨H0,v,t,s,_,_,_,_,h,_⟩;exact g8 _ h)
 |succ n ih=>
 show aM P w K mg base cK ((1+n)+1) _ _ _ _;refine T.jH.F.ok iT (fun vs H Q E h=> ?_) (fun cj Ar outer s0 H vs Q E hr h=> ?_)
 ·obtain⟨H0,v,t,s,rfl,_⟩:=h;rfl
 ·obtain⟨H0,v,t,s,rfl,ju,hd,ok,dp,hm,q⟩:=h;obtain⟨a,vs,rfl,ha,hA⟩:=fT hd;have sl:=Ka s;have vl:=rB hA;have Hr:(1000:Nat)<sizeLine:=by decide
  refine⟨_,(ag (eU 1 iT.nd (bg dr)) (ag (vI (pV (pv 0)) (fO 2 iT.nd) (ag (F8 3 iT.nd ["_law_one"] 1 [] (wj (cn (fF T) hr T.dR az (aH (pv 2)) (hj:=by lia))) (fun _ _ _ _ _=>⟨(fO 0 (show(["_law_one"]:ao).Nodup by decide+kernel)),uS,(cn ih hr T.jH az (aH (pv 0)) (hj:=by lia))⟩)) (ai (bf (jg eO PySem.F.slot_list_append PySem.F.type_list_append cI (pv 1) (aH (aO DX (c5 HU (pv 2) gA (cE (aO jV (h8 aZ T.gi Boot.«len» (aH (pv 2))) (h8 aZ T.gi Boot.«len» (aH (pv 3)))))) (K1 dQ T.jP Boot.«tuple» (aH (pv 3)))))))))) (ai (aF (K1 dQ T.jP Boot.«tuple» (aH (pv 1))))))),?_⟩;refine⟨mI,fun fl kW=>⟨_,rfl,a,t,rfl,MD (aj.upd kW _ _ (ju _ _ ha)),?_⟩⟩;refine ng (K:=K) (t:=t) (a:=a) (xs:=vs) (fun j σ H' =>∃(x2 x3:Option V) (ws:ak),σ=[some (.ref a),some (.ref fl),x2,x3]∧aj H H'∧H' fl=some (.lst ws)∧bo H' ws ((sL (gU s)).take j)) ⟨_,_,[],rfl,aj.upd kW,aa,.nil⟩ (by rintro j σ H' _ ⟨_,_,_,_,sm,_⟩;exact sm _ _ (ju _ _ ha)) ?_ ?_
  ·rintro j x σ H' hx ⟨x2,x3,ws,rfl,sm,kj,tw⟩
   obtain⟨d,ed,k9⟩:=h9 hA hx;have dm:=bJ ed;have gq:=eE ok d dm;have Hm:=eT d dm;have NX:=ie d dm;have wl:=vO tw;rw[gG] at wl;have hj:=(dq.mp hx).1
   have ej:(sL (gU s))[j]? =some (dD (lP d)):=by
    rw[IV,bj,ed];rfl
   obtain⟨b,ks,xs,C8,rfl,p0⟩:=cG k9 gq;have Zh:=p0.lx;have h4:=dz p0.f;rw[ba,gN] at h4;have P9:=iF p0.hy;refine⟨_,rfl,H0,_,d,rfl,ju.trans sm,k9,gq,fun t1 ys H1 wg s1 hz hB=>⟨t1,rfl,⟨_,bc.of hz⟩,?_⟩⟩;have bl:=iF hB
   have pl:(MU d).length=ys.length:=by
    unfold MU;rw[aK,bl]
   refine DD (fun _=>true) (fun i=>(MU d).getD i .none) (qG (bc.of hz)).g (aR (show ys.length≤1000 by lia) (bO Hr)) ?_ fun il H2 wi hil s2 qV LW NY=> ?_
   ·intro i y H3 C1 C0 hi s3 hy c1 c0;obtain⟨pp,ep,hp⟩:=ig hB hy;have pm:=bJ ep;have vH:=fu (gQ gq) pp pm;have A3:=fk pp pm;have JH:=i0 pp pm;rw[←iS] at A3;rw[←oY] at JH
    have ec:(MU d).getD i .none= .tuple (sL (gU pp.2)):=by
     unfold MU;rw[cy,bj,ep];rfl
    refine⟨(fz.refl _).own (by decide),_,rfl,H0,y,pp.1,pp.2,rfl,((ju.trans sm).trans s1).trans s3,hp,vH,by lia,by lia,fun t2 H4 _ s4 td=>c1 rfl _ H4 s4 ?_⟩;rw[ec];exact td
   ·rw[ji.mpr (fun _ _=>rfl),←pl,vf] at LW;have ZC:=vO LW;have AW:=(sm.trans s1).trans s2;have vE:H2 b=some (.tup (.str d.wd::(xs++C8))):=AW _ _ (ju _ _ p0.e);have m_:=s2 _ _ (s1 _ _ kj)
    have XR:(((V.str d.wd::(xs++C8)).length:Nat):Int) - ((wi.length:Nat):Int)=(((V.str d.wd::xs).length:Nat):Int):=by
     simp only[aW,ba]
     lia
    have fin:∀(e:Addr) (H5:Hp),aj H2 H5→hX H5 (.ref e) (dD (lP d))→∃(x2 x3:Option V) (Z5 :ak),([some (V.ref a),some (.ref fl),some (.ref b),some (.ref il)]:L2.St)=[some (.ref a),some (.ref fl),x2,x3]∧aj H (upd H5 fl (.lst (ws++[.ref e])))∧upd H5 fl (.lst (ws++[.ref e])) fl=some (.lst Z5)∧bo (upd H5 fl (.lst (ws++[.ref e]))) Z5 ((sL (gU s)).take (j+1)):=fun e H5 s5 td=>by
     refine⟨_,_,ws++[.ref e],rfl,fC kW (AW.trans s5),aa,?_⟩;rw[wv ej];exact((tw.kt (KT.same ((s1.trans s2).trans s5))).snoc td).kt (KT.upd (s5 _ _ m_))
    have Pb:ws.length<sizeLine:=gp (show ws.length≤1000 by lia) Hr;refine⟨_,rfl,Dm m_,_,rfl,_,rfl,b,_,rfl,.inr (bc.of vE),_,rfl,il,_,rfl,.inl (bF.of qV),_,_,rfl,rfl,_,rfl,b,_,rfl,bc.of vE,?_,?_⟩
    ·rw[XR]
     rintro ⟨_,hw⟩
     rw[HT.jJ] at hw;simp only[aW,ba] at hw;have WD:C8=[]:=sk (by lia);have hw0:wi=[]:=sk (by rw[WD] at P9;simp only[jh] at P9;lia);subst WD hw0;refine⟨_,rfl,il,_,rfl,.inl ⟨bF.of qV,fun t5 NH=> ?_⟩⟩;have u5:=aj.upd (o:= .tup []) NH;refine⟨b,t5,_,_,rfl,rfl,bc.of (u5 _ _ vE),bc.of aa,(fun z=>nomatch z),?_,(fun _=>⟨fl,ws,_,rfl,rfl,u5 _ _ m_,Pb,fin b _ u5 ?_⟩),(fun z=>absurd rfl z)⟩
     ·simp only[aW,ba,jh];exact aR (show _≤1000 by lia) (bO Hr)
     ·have hbs:d.bs.l=[]:=sk (by rw[←P9];rfl);rw[DS,hbs];exact .tup (u5 _ _ vE) (.cons (.str _) (by rw[dO,nV,dO];exact yR p0.fit p0.hx))
    ·rw[XR];intro hw t4 F0;have UR:bY (V.str d.wd::(xs++C8)) none (some (((V.str d.wd::xs).length:Nat):Int))=V.str d.wd::xs:=Nh (V.str d.wd::xs) C8;rw[UR];have u4:=aj.upd (o:= .tup (V.str d.wd::xs)) F0;refine⟨_,rfl,il,_,rfl,.inl ⟨bF.of (u4 _ _ qV),fun t5 NH=> ?_⟩⟩;have u5:=aj.upd (o:= .tup wi) NH
     have mq:wi≠[]:=fun z=>hw (by
      rw[z] at ZC
      have WD:C8.length=0:=by
       rw[P9,←bl,←pl,←ZC];rfl
      refine⟨rfl,?_⟩;rw[HT.jJ];simp only[aW,ba]
      lia)
     refine⟨t4,t5,_,_,rfl,rfl,bc.of (u5 _ _ aa),bc.of aa,(fun z=>nomatch z),?_,(fun z=>absurd z mq),fun _ t6 NR=> ?_⟩
     ·simp only[aW];exact aR (show _≤1000 by lia) (bO Hr)
     ·have u6:=aj.upd (o:= .tup (V.str d.wd::xs++wi)) NR;have su:=(u4.trans u5).trans u6;refine⟨fl,ws,_,rfl,rfl,su _ _ m_,Pb,fin t6 _ su ?_⟩;rw[DS];exact .tup aa (.cons (.str _) ((yR p0.fit p0.hx).append (LW.kt (KT.same su))))
  ·rintro σ H' ⟨x2,x3,ws,rfl,sm,DT,tw⟩
   refine⟨_,rfl,fl,ws,rfl,.inl ⟨bF.of DT,fun tt sF=> ?_⟩⟩;refine q tt _ (sm.free sF) (sm.trans (aj.upd sF)) ?_;rw[vl,sH (by rw[IV,aK];exact aG _)] at tw;exact .tup aa (tw.kt (KT.same (aj.upd sF)))
noncomputable def Zt(b:Ds):PyData:= .tuple [.int (gD b:Nat),.int (gC b:Nat)]
theorem IG{H:Hp}{v:V}{b:Ds}(h:hX H v (Zt b)):∃t,v= .ref t∧H t=some (.tup [nI (gD b),nI (gC b)]):=by
 cases h with
 |tup e h=>
  cases h with
  |cons a r=>
   cases r with
   |cons c r=>
    cases r;cases a;cases c;exact⟨_,rfl,e⟩
noncomputable def WC(n:Nat):Sp:=fun vs H Q _=>∃H0 v t s,vs=[v]∧aj H0 H∧Dat H0 v (gg t (sL s))∧gw s∧cM s<n∧∀tt H',H tt=none→aj H H'→H' tt=some (.tup [nI (gD s),nI (gC s)])→Q (.ref tt) H'
theorem uJ(T:Txt K mg A)(n:Nat):aM P w K mg base cK (1+n) A.xo A.xG ["_law_body_here"] (WC n):=by
 induction n with
 |zero=>exact d_ (by rintro vs H Q E ⟨H0,v,t,s,_,_,_,_,h,_⟩;exact g8 _ h)
 |succ n ih=>
 show aM P w K mg base cK ((1+n)+1) _ _ _ _;refine T.lN.F.ok cv (fun vs H Q E h=> ?_) (fun cj Ar outer s0 H vs Q E hr h=> ?_)
 ·obtain⟨H0,v,t,s,rfl,_⟩:=h;rfl
 ·obtain⟨H0,v,t,s,rfl,ju,hd,ok,dp,q⟩:=h;obtain⟨a,vs,rfl,ha,hA⟩:=fT hd;have vl:=rB hA;refine⟨_,(ag (eU 1 cv.nd af) (ag (eU 2 cv.nd af) (ag (vI (pV (pv 0)) (fO 3 cv.nd) (ag (F8 4 cv.nd ["_law_one"] 1 [] (wj (cn (fF T) hr T.dR az (aH (pv 3)) (hj:=by lia))) (fun _ _ _ _ _=>⟨(fO 0 (show(["_law_one"]:ao).Nodup by decide+kernel)),uS,(cn ih hr T.lN az (aH (pv 0)) (hj:=by lia))⟩)) (ai (bu (wp dM (cU aX (pv 3) af) aB) (ai (MN (i:=1) (j:=2) rfl cv.nd rfl rfl (by decide) rfl rfl (ae (aO bz (pv 1) (cU aX (cU a7 (pv 4) af) af)) (aH (aO bz (aO bz (pv 2) (cU aX (cU a7 (pv 4) af) af)) af))) (by rfl))) (ai (bu (wp dM (cU aX (pv 3) af) aB) (ag (eU 1 cv.nd (aO bz (pv 1) (aO l7 (cU aX (pv 3) af) (cU aX (cU a7 (pv 4) af) af)))) (ai (eU 2 cv.nd (aO bz (aO bz (pv 2) (aO l7 (cU aX (pv 3) af) (aO bz (cU aX (cU a7 (pv 4) af) af) af))) af)))) (ai (bu (wp dM (cU aX (pv 3) af) aB) (ag (eU 1 cv.nd (aO bz (aO bz (pv 1) (h8 (jQ rfl) T.wQ Boot.«max» (ae (cU aX (cU a7 (pv 4) af) af) (aH (cU aX (cU a7 (pv 4) af) af))))) af)) (ai (eU 2 cv.nd (aO bz (aO bz (pv 2) (h8 (jQ rfl) T.wQ Boot.«max» (ae (cU aX (cU a7 (pv 4) af) af) (aH (cU aX (cU a7 (pv 4) af) af))))) af)))) (ai (eU 2 cv.nd (aO bz (pv 2) af))))))))))) (ai (aF (a9 (ae (pv 1) (aH (pv 2))))))))),?_⟩;refine⟨_,rfl,a,t,rfl,MD (ju _ _ ha),?_⟩;refine ng (K:=K) (t:=t) (a:=a) (xs:=vs) (fun j σ H' =>∃(x3 x4:Option V),σ=[some (.ref a),some (nI ((s.l.take j).map yt).sum),some (nI ((s.l.take j).map yG).sum),x3,x4]∧aj H H') ⟨_,_,rfl,aj.refl H⟩ (by rintro j σ H' _ ⟨_,_,_,sm⟩;exact sm _ _ (ju _ _ ha)) ?_ ?_
  ·rintro j x σ H' hx ⟨x3,x4,rfl,sm⟩
   obtain⟨d,ed,k9⟩:=h9 hA hx;have dm:=bJ ed;have gq:=eE ok d dm;have Hm:=eT d dm;obtain⟨b,ks,xs,C8,rfl,p0⟩:=cG k9 gq;have h4:=dz p0.f;rw[ba,gN] at h4;have P9:=iF p0.hy;refine⟨_,rfl,H0,_,d,rfl,ju.trans sm,k9,gq,fun t1 ys H1 wg s1 hz hB=>⟨t1,rfl,⟨_,bc.of hz⟩,?_⟩⟩;have bl:=iF hB;refine DD (fun _=>true) (fun i=>(d.bs.l.map fun p=>Zt p.2).getD i .none) (qG (bc.of hz)).g (aR (show ys.length≤4 by lia) (by decide)) ?_ fun il H2 wi hil s2 qV LW NY=> ?_
   ·intro i y H3 C1 C0 hi s3 hy c1 c0;obtain⟨pp,ep,hp⟩:=ig hB hy;have pm:=bJ ep;have vH:=fu (gQ gq) pp pm;have A3:=fk pp pm;rw[←iS] at A3
    have ec:(d.bs.l.map fun p=>Zt p.2).getD i .none=Zt pp.2:=by
     rw[cy,bj,ep];rfl
    refine⟨(fz.refl _).own (by decide),_,rfl,H0,y,pp.1,pp.2,rfl,((ju.trans sm).trans s1).trans s3,hp,vH,by lia,fun t2 H4 _ s4 td=>c1 rfl _ H4 s4 ?_⟩;rw[ec];exact .tup td (.cons (.int _) (.cons (.int _) .nil))
   ·rw[ji.mpr (fun _ _=>rfl),bl,show d.bs.l.length=(d.bs.l.map fun p=>Zt p.2).length by rw[aK],vf] at LW;have AW:=(sm.trans s1).trans s2;have vE:H2 b=some (.tup (.str d.wd::(xs++C8))):=AW _ _ (ju _ _ p0.e);have hx0:=p0.hx;have tw:=uy yt ed;have tl:=uy yG ed;generalize ((s.l.take j).map yt).sum=wA at tw ⊢;generalize ((s.l.take j).map yG).sum=lA at tl ⊢;rw[tw,tl]
    cases jaa gq with
    |ei t' b' u c=>
     simp only[Dd.bs,Bs.l,dw,nV] at LW
     cases LW with
     |cons i1 r=>
      cases r with
      |cons i2 r=>
       cases r;obtain⟨q1,rfl,g1⟩:=IG i1;obtain⟨q2,rfl,g2⟩:=IG i2;refine⟨_,rfl,b,_,0,_,rfl,rfl,bc.of vE,l5 _ _,rfl,_,rfl,iH (c6 (show("either" :Str)≠ "frame" by decide+kernel)) ⟨_,rfl,b,_,0,_,rfl,rfl,bc.of vE,l5 _ _,rfl,_,rfl,iH (c6 (show("either" :Str)≠ "turns" by decide+kernel)) ⟨_,rfl,b,_,0,_,rfl,rfl,bc.of vE,l5 _ _,rfl,_,rfl,eqT ?_⟩⟩⟩;have mx:∀x y:Nat,((max x (max y 0):Nat):Int)=if(y:Int)>(x:Int) then(y:Int) else(x:Int):=fun x y=>by split<;>lia
       refine⟨_,rfl,_,rfl,il,_,0,_,rfl,rfl,bF.of qV,rfl,q1,_,0,_,rfl,rfl,bc.of g1,rfl,_,rfl,il,_,1,_,rfl,rfl,bF.of qV,rfl,q2,_,0,_,rfl,rfl,bc.of g2,rfl,_,_,rfl,_,_,rfl,rfl,_,1,rfl,rfl,?_⟩;refine⟨_,rfl,_,rfl,il,_,0,_,rfl,rfl,bF.of qV,rfl,q1,_,1,_,rfl,rfl,bc.of g1,rfl,_,rfl,il,_,1,_,rfl,rfl,bF.of qV,rfl,q2,_,1,_,rfl,rfl,bc.of g2,rfl,_,_,rfl,_,_,rfl,rfl,_,1,rfl,rfl,some (.ref b),some (.ref il),?_,AW⟩;rw[yt,yG,aA rfl,aA rfl,qR,qR,qR,sg,sg,sg]
       have z1:nI (wA+(1+pZ [gD b',gD c]))= .int ((wA:Int)+(if((gD c:Nat):Int)>((gD b' :Nat):Int) then((gD c:Nat):Int) else((gD b' :Nat):Int))+1):=by
        rw[←mx];show V.int ((wA+(1+max (gD b') (max (gD c) 0)):Nat):Int)=_
        congr 1
        lia
       have z2:nI (lA+(1+pZ [gC b',gC c]))= .int ((lA:Int)+(if((gC c:Nat):Int)>((gC b' :Nat):Int) then((gC c:Nat):Int) else((gC b' :Nat):Int))+1):=by
        rw[←mx];show V.int ((lA+(1+max (gC b') (max (gC c) 0)):Nat):Int)=_
        congr 1
        lia
       rw[z1,z2];rfl
    |tu l m n' t' b' hl hg m1 m3 n0 n4=>
     simp only[Dd.bs,Bs.l,dw,nV] at LW;obtain⟨x1,x2,rfl⟩:=Pw hx0
     cases LW with
     |cons i1 r=>
      cases r;obtain⟨q1,rfl,g1⟩:=IG i1;refine⟨_,rfl,b,_,0,_,rfl,rfl,bc.of vE,l5 _ _,rfl,_,rfl,iH (c6 (show("turns" :Str)≠ "frame" by decide+kernel)) ⟨_,rfl,b,_,0,_,rfl,rfl,bc.of vE,l5 _ _,rfl,_,rfl,eqT ?_⟩⟩;refine⟨_,rfl,_,rfl,b,_,3,_,rfl,rfl,bc.of vE,bU (j:=3) rfl,_,rfl,il,_,0,_,rfl,rfl,bF.of qV,rfl,q1,_,0,_,rfl,rfl,bc.of g1,rfl,n',_,rfl,rfl,.inl ⟨by lia,by lia⟩,_,_,rfl,rfl,?_⟩;refine⟨_,rfl,_,rfl,b,_,3,_,rfl,rfl,bc.of vE,bU (j:=3) rfl,_,rfl,il,_,0,_,rfl,rfl,bF.of qV,rfl,q1,_,1,_,rfl,rfl,bc.of g1,rfl,_,1,rfl,rfl,n',_,rfl,rfl,.inl ⟨by lia,by lia⟩,_,_,rfl,rfl,_,1,rfl,rfl,some (.ref b),some (.ref il),?_,AW⟩;rw[yt,yG,ay (by decide+kernel),aA rfl,ay (by decide+kernel),aA rfl,qR,qR,sg,sg]
      have z1:nI (wA+Xv [.str l,.int m,.int n']*[gD b'].headD 0)= .int ((wA:Int)+n' *((gD b' :Nat):Int)):=by
       show V.int ((wA+n'.toNat*gD b' :Nat):Int)=_;rw[qr,yD,yT n0]
      have z2:nI (lA+(Xv [.str l,.int m,.int n']*(1+[gC b'].headD 0)+1))= .int ((lA:Int)+n' *(((gC b' :Nat):Int)+1)+1):=by
       show V.int ((lA+(n'.toNat*(1+gC b')+1):Nat):Int)=_;rw[qr,qr,yD,yT n0,qr,Int.add_comm ((1:Nat):Int),←Int.add_assoc];rfl
      rw[z1,z2];rfl
    |fr l t' b' hl hg=>
     simp only[Dd.bs,Bs.l,dw,nV] at LW
     cases LW with
     |cons i1 r=>
      cases r;obtain⟨q1,rfl,g1⟩:=IG i1;refine⟨_,rfl,b,_,0,_,rfl,rfl,bc.of vE,l5 _ _,rfl,_,rfl,eqT ?_⟩;refine⟨_,rfl,_,rfl,il,_,0,_,rfl,rfl,bF.of qV,rfl,q1,_,0,_,rfl,rfl,bc.of g1,rfl,_,_,rfl,rfl,_,rfl,_,rfl,il,_,0,_,rfl,rfl,bF.of qV,rfl,q1,_,1,_,rfl,rfl,bc.of g1,rfl,_,_,rfl,rfl,_,2,rfl,rfl,_,_,rfl,some (.ref b),some (.ref il),?_,AW⟩;rw[yt,yG,ay (by decide+kernel),ay (by decide+kernel),ay (by decide+kernel),ay (by decide+kernel),aA rfl,qR,qR,sg,sg]
      have z2:nI (lA+(1+[gC b'].headD 0+1))= .int ((lA:Int)+((gC b' :Nat):Int)+2):=by
       show V.int ((lA+(1+gC b' +1):Nat):Int)=_
       congr 1
       lia
      have z1:nI (wA+[gD b'].sum)= .int ((wA:Int)+((gD b' :Nat):Int)):=by
       show V.int ((wA+(gD b' +0):Nat):Int)=_
       congr 1
      rw[z1,z2];rfl
    |sm w ks ps f h n1 n2 n3=>
     refine⟨_,rfl,b,_,0,_,rfl,rfl,bc.of vE,l5 _ _,rfl,_,rfl,iH (c6 n3) ⟨_,rfl,b,_,0,_,rfl,rfl,bc.of vE,l5 _ _,rfl,_,rfl,iH (c6 n2) ⟨_,rfl,b,_,0,_,rfl,rfl,bc.of vE,l5 _ _,rfl,_,rfl,iH (c6 n1) ?_⟩⟩⟩;refine⟨_,rfl,_,1,rfl,rfl,some (.ref b),some (.ref il),?_,AW⟩;rw[yt,yG,ay n1,ay n2,ay n1,ay n2,ay n3,qR];rfl
  ·rintro σ H' ⟨x3,x4,rfl,sm⟩
   refine⟨_,rfl,_,rfl,fw,fun tt sF=>q tt _ (sm.free sF) (sm.trans (aj.upd sF)) ?_⟩;rw[aa,vl,fK,←Gv,←FQ]
noncomputable abbrev LR:=(Dd×ao)×Nat
mutual
noncomputable def D2:Dd→ao→Nat→List LR
 | .mk w ps bs,ar,k=>((.mk w ps bs,ar),k)::DE bs (mR (.mk w ps bs) ar) (k+1)
noncomputable def lC:Ds→ao→Nat→List LR
 | .nil,_,_=>[]
 | .cons d r,ar,k=>D2 d ar k++lC r ar k
noncomputable def DE:Bs→ao→Nat→List LR
 | .nil,_,_=>[]
 | .cons _ b r,ar,k=>lC b ar k++DE r ar k
end
theorem Gz(ar:ao)(k:Nat):∀s:Ds,lC s ar k=s.l.flatMap fun d=>D2 d ar k
 | .nil=>by rw[lC];rfl
 | .cons d r=>by rw[lC,Gz ar k r];rfl
theorem LC(ar:ao)(k:Nat):∀b:Bs,DE b ar k=b.l.flatMap fun p=>lC p.2 ar k
 | .nil=>by rw[DE];rfl
 | .cons t b r=>by rw[DE,LC ar k r];rfl
theorem Lj(d:Dd)(ar:ao)(k:Nat):D2 d ar k=((d,ar),k)::d.bs.l.flatMap fun p=>lC p.2 (mR d ar) (k+1):=by
 cases d with
 |mk w ps bs=>rw[D2,LC];rfl
mutual
theorem CQ:∀(d:Dd) (ar:ao) (k:Nat),(D2 d ar k).length=1+l6 d
 | .mk w ps bs,ar,k=>by rw[D2,aW,Ho bs,l6];lia
theorem lh:∀(s:Ds) (ar:ao) (k:Nat),(lC s ar k).length=cQ s
 | .nil,ar,k=>by rw[lC,cQ];rfl
 | .cons d r,ar,k=>by rw[lC,ba,CQ d,lh r,cQ]
theorem Ho:∀(b:Bs) (ar:ao) (k:Nat),(DE b ar k).length=nN b
 | .nil,ar,k=>by rw[DE,nN];rfl
 | .cons t b r,ar,k=>by rw[DE,ba,lh b,Ho r,nN]
end
noncomputable def Uo(N:Addr→Prop)(H0 H:Hp)(v:V)(r:LR):Prop:=∃t x u,v= .ref t∧H t=some (.tup [x,.ref u,nI r.2])∧Dat H0 x (dD r.1.1)∧N u∧H u=some (.lst (r.1.2.map V.str))
structure gj(N:Addr→Prop)(H0 H:Hp)(zs:ak)(rs:List LR):Prop where
 len:zs.length=rs.length
 at_:∀(i:Nat) v,zs[i]? =some v→∃r,rs[i]? =some r∧Uo N H0 H v r
theorem gj.same{N:Addr→Prop}{H0 H H' :Hp}{zs:ak}{rs:List LR}(h:gj N H0 H zs rs)(s:aj H H'):gj N H0 H' zs rs:=⟨h.len,fun i v e=>by
 obtain⟨r,e1,t,x,u,f1,f2,f3,f4,f5⟩:=h.at_ i v e;exact⟨r,e1,t,x,u,f1,s _ _ f2,f3,f4,s _ _ f5⟩⟩
theorem gj.upd{N:Addr→Prop}{H0 H:Hp}{zs ws:ak}{rs:List LR}{fl:Addr}{o:HO}(h:gj N H0 H zs rs)(hn:¬N fl)(hf:H fl=some (.lst ws)):gj N H0 (upd H fl o) zs rs:=⟨h.len,fun i v e=>by
 obtain⟨r,e1,t,x,u,f1,f2,f3,f4,f5⟩:=h.at_ i v e;refine⟨r,e1,t,x,u,f1,?_,f3,f4,?_⟩
 ·rw[av (bW f2 hf (fun z=>nomatch z))];exact f2
 ·rw[av (fun z:u=fl=>hn (z▸f4))];exact f5⟩
theorem gj.imp{N N' :Addr→Prop}{H0 H:Hp}{zs:ak}{rs:List LR}(h:gj N H0 H zs rs)(i:∀c,N c→N' c):gj N' H0 H zs rs:=⟨h.len,fun j v e=>by
 obtain⟨r,e1,t,x,u,f1,f2,f3,f4,f5⟩:=h.at_ j v e;exact⟨r,e1,t,x,u,f1,f2,f3,i u f4,f5⟩⟩
theorem gj.nil{N:Addr→Prop}{H0 H:Hp}:gj N H0 H [] []:=⟨rfl,fun i v e=>by cases e⟩
theorem gj.app{N:Addr→Prop}{H0 H:Hp}{zs ws:ak}{rs qs:List LR}(h:gj N H0 H zs rs)(g:gj N H0 H ws qs):gj N H0 H (zs++ws) (rs++qs):=⟨by rw[ba,ba,h.len,g.len],fun i v e=>by
 have hl:=h.len;by_cases hi:i<zs.length
 ·rw[dP hi] at e;rw[dP (by lia)];exact h.at_ i v e
 ·rw[gM (by lia)] at e;rw[gM (by lia),←hl];exact g.at_ _ v e⟩
theorem gj.one{N:Addr→Prop}{H0 H:Hp}{v:V}{r:LR}(h:Uo N H0 H v r):gj N H0 H [v] [r]:=⟨rfl,fun i w e=>by
 cases i with
 |zero=>cases e;exact⟨r,rfl,h⟩
 |succ i=>cases e⟩
theorem BD(w:Str):wL (.str w) [.str "frame",.str "turns"]=cV w:=by
 have:=jc w ["frame","turns"];rw[show(["frame","turns"]:ao).map V.str=[V.str "frame",.str "turns"] from rfl] at this;rw[this];unfold cV;rw[me];simp
noncomputable def JY(n:Nat):Sp:=fun vs H Q _=>∃H0 v t s u ar k,vs=[v,.ref u,nI k]∧aj H0 H∧Dat H0 v (gg t (sL s))∧gw s∧cM s<n∧H u=some (.lst (ar.map V.str))∧cQ s≤1000∧ar.length+cM s<1000∧
 ∀l zs H',H l=none→aj H H'→H' l=some (.lst zs)→gj (fun c=>c=u∨(H c=none∧c≠l)) H0 H' zs (lC s ar k)→Q (.ref l) H'
theorem pU(T:Txt K mg A)(n:Nat):aM P w K mg base cK (1+n) A.rq A.rD ["_law_body_here","_law_around","_law_down"] (JY n):=by
 induction n with
 |zero=>exact d_ (by rintro vs H Q E ⟨H0,v,t,s,u,ar,k,_,_,_,_,h,_⟩;exact g8 _ h)
 |succ n ih=>
 show aM P w K mg base cK ((1+n)+1) _ _ _ _;refine T.iY.F.ok fH (fun vs H Q E h=> ?_) (fun cj Ar outer s0 H vs Q E hr h=> ?_)
 ·obtain⟨H0,v,t,s,u,ar,k,rfl,_⟩:=h;rfl
 ·obtain⟨H0,v,t,s,u,ar,k,rfl,FF,hd,ok,dp,hu,hmn,Qo,q⟩:=h;obtain⟨a,vs,rfl,ha,hA⟩:=fT hd;have Hr:(1000:Nat)≤sizeLine:=by decide
  refine⟨_,(ag (eU 3 fH.nd (bg dr)) (ag (vI (pV (pv 0)) (fO 4 fH.nd) (ag (bf (jg eO PySem.F.slot_list_append PySem.F.type_list_append cI (pv 3) (aH (a9 (ae (pv 4) (ae (pv 1) (aH (pv 2)))))))) (ag (eU 5 fH.nd (zX (wp mD (cU aX (pv 4) af) (a9 (ae aB (aH aB)))) (aO oR (bg (aH (cU aX (pv 4) af))) (pv 1)) (pv 1))) (ai (vI (wj (cn (fF T) hr T.dR az (aH (pv 4)) (hj:=by lia))) (fO 6 fH.nd) (ai (bf (jg eO yB type_list_extend vV (pv 3) (aH (cn ih hr T.iY az (ae (pv 6) (ae (pv 5) (aH (aO bz (pv 2) af)))) (hj:=by lia))))))))))) (ai (aF (pv 3))))),?_⟩;refine⟨mI,fun fl kW=>⟨_,rfl,a,t,rfl,MD (fC kW (aj.refl H) _ _ (FF _ _ ha)),?_⟩⟩
  have Vq:¬(fl=u∨(H fl=none∧fl≠fl)):=by
   rintro (z|⟨_,z⟩)
   ·rw[z,hu] at kW;cases kW
   ·exact z rfl
  refine ng (K:=K) (t:=t) (a:=a) (xs:=vs) (fun i σ H' =>∃(x4 x5 x6:Option V) (zs:ak),σ=[some (.ref a),some (.ref u),some (nI k),some (.ref fl),x4,x5,x6]∧aj H H'∧H' fl=some (.lst zs)∧gj (fun c=>c=u∨(H c=none∧c≠fl)) H0 H' zs ((s.l.take i).flatMap fun d=>D2 d ar k)) ⟨_,_,_,[],rfl,fC kW (aj.refl H),aa,.nil⟩ (by rintro i σ H' _ ⟨_,_,_,_,_,sm,_⟩;exact sm _ _ (FF _ _ ha)) ?_ ?_
  ·rintro i x σ H' hx ⟨x4,x5,x6,zs,rfl,sm,kj,R⟩
   obtain⟨d,ed,k9⟩:=h9 hA hx;have dm:=bJ ed;have gq:=eE ok d dm;have Hm:=eT d dm;have NX:=ie d dm;have tl:=jK (fun d=>D2 d ar k) s.l (i+1);rw[←Gz,lh,fY (fun d=>D2 d ar k) ed,ba,CQ,←R.len] at tl;obtain⟨b,ks,xs,C8,rfl,p0⟩:=cG k9 gq;refine⟨_,rfl,Dm kj,_,rfl,_,rfl,_,rfl,AZ,fun t1 wg=>⟨fl,zs,.ref t1,rfl,rfl,(aj.upd wg) _ _ kj,by lia,?_⟩⟩;have XF :=(aj.upd (o:= .tup [V.ref b,.ref u,nI k]) wg) _ _ kj;have s1:aj H (upd (upd H' t1 (.tup [.ref b,.ref u,nI k])) fl (.lst (zs++[.ref t1]))):=fC kW (sm.trans (aj.upd wg));have m_:upd (upd H' t1 (.tup [.ref b,.ref u,nI k])) fl (.lst (zs++[.ref t1])) fl=some (.lst (zs++[.ref t1])):=aa;have row:Uo (fun c=>c=u∨(H c=none∧c≠fl)) H0 (upd H' t1 (.tup [.ref b,.ref u,nI k])) (.ref t1) ((d,ar),k):=⟨t1,.ref b,u,rfl,aa,k9,.inl rfl,aj.upd wg _ _ (sm _ _ hu)⟩
   have R2:gj (fun c=>c=u∨(H c=none∧c≠fl)) H0 (upd (upd H' t1 (.tup [.ref b,.ref u,nI k])) fl (.lst (zs++[.ref t1]))) (zs++[.ref t1]) (((s.l.take i).flatMap fun d=>D2 d ar k)++[((d,ar),k)]):=
    ((R.same (aj.upd wg)).app (.one row)).upd Vq XF
   generalize upd (upd H' t1 (.tup [.ref b,.ref u,nI k])) fl (.lst (zs++[.ref t1]))=H2 at s1 m_ R2 ⊢;have p:=p0.same (FF.trans s1)
   have hil:(mR d ar).length≤ar.length+1:=by
    unfold mR
    split
    ·exact aG _
    ·exact lJ _
   refine⟨_,rfl,b,_,0,_,rfl,rfl,bc.of p.e,l5 _ _,fw,fun t2 wb=> ?_⟩;have u2:=aj.upd (o:= .tup [V.str "frame",.str "turns"]) wb;refine⟨t2,_,rfl,.inr (bc.of aa),rfl,rfl,_,rfl,?_⟩;show if wL (V.str d.wd) [.str "frame",.str "turns"]=true then _ else _
   rw[BD];generalize upd H2 t2 (.tup [V.str "frame",.str "turns"])=Hb at u2 ⊢;apply jan (c:=cV d.wd) (G:=fun u' H3=>aj H2 H3∧H3 u' =some (.lst ((mR d ar).map V.str))∧(u' =u∨(H u' =none∧u'≠fl)))
   ·intro hb k;obtain⟨Ww,BW⟩:=p0.iC hb;have pe:=p.e;rw[BW] at pe;refine⟨_,rfl,b,_,1,_,rfl,rfl,bc.of (u2 _ _ pe),bU (j:=1) rfl,sS,fun t3 oj=>⟨_,rfl,t3,u,_,_,rfl,rfl,aa,aj.upd oj _ _ (u2 _ _ (s1 _ _ hu)),?_,fun u' F0=> ?_⟩⟩
    ·rw[aK];show 1+ar.length≤_
     lia
    have s3:=(u2.trans (aj.upd (o:= .lst [V.str (iC d)]) oj)).trans (aj.upd (o:= .lst ([V.str (iC d)]++ar.map V.str)) F0)
    have hN:u' =u∨(H u' =none∧u'≠fl):=by
     have z:=(u2.trans (aj.upd (o:= .lst [V.str (iC d)]) oj)).free F0;exact .inr ⟨s1.free z,fun z' =>by rw[z',m_] at z;cases z⟩
    have NV:upd (upd Hb t3 (.lst [V.str (iC d)])) u' (.lst ([V.str (iC d)]++ar.map V.str)) u' =some (.lst ((mR d ar).map V.str)):=by
     rw[aa];unfold mR;rw[hb];rfl
    generalize upd (upd Hb t3 (.lst [V.str (iC d)])) u' (.lst ([V.str (iC d)]++ar.map V.str))=H3 at s3 NV ⊢;exact k u' H3 ⟨s3,NV,hN⟩
   ·intro hb k;refine⟨_,rfl,k u Hb ⟨u2,?_,.inl rfl⟩⟩;unfold mR;rw[hb];exact u2 _ _ (s1 _ _ hu)
   ·rintro u' H3 ⟨s3,NV,hN⟩
    refine⟨_,rfl,H0,_,d,rfl,(FF.trans s1).trans s3,k9,gq,fun l ys H4 hl4 s4 hz hB=>⟨l,rfl,⟨_,bc.of hz⟩,?_⟩⟩;have Vc:=s4 _ _ (s3 _ _ m_);have Up:l≠fl:=(aw (s3 _ _ m_) hl4).symm;refine uh (K:=K) (a:=l) (xs:=ys) (fun j σ H5=>∃(x6:Option V) (AX :ak),σ=[some (.ref a),some (.ref u),some (nI k),some (.ref fl),some (.ref b),some (.ref u'),x6]∧Kept fl H4 H5∧H5 fl=some (.lst AX)∧gj (fun c=>c=u∨(H c=none∧c≠fl)) H0 H5 AX (((s.l.take i).flatMap fun d=>D2 d ar k)++((d,ar),k)::(d.bs.l.take j).flatMap fun p=>lC p.2 (mR d ar) (k+1))) ⟨x6,_,rfl,Kept.refl _ _,Vc,R2.same (s3.trans s4)⟩ (by rintro i σ H' _ ⟨_,_,_,k,_⟩;exact bc.of (k _ _ Up hz)) ?_ ?_
    ·rintro j y σ H5 hy ⟨x6,AX,rfl,k5,xN,R5⟩
     obtain⟨pp,ep,hp⟩:=ig hB hy;have pm:=bJ ep;have vH:=fu (gQ gq) pp pm;have A3:=fk pp pm;have JH:=i0 pp pm;rw[←iS] at A3;rw[←oY] at JH;have tl2:=jK (fun p:Bool×Ds=>lC p.2 (mR d ar) (k+1)) d.bs.l (j+1);have ll:=CQ d ar k;rw[Lj,aW] at ll;rw[fY (fun p:Bool×Ds=>lC p.2 (mR d ar) (k+1)) ep,ba,lh] at tl2;have r5l:=R5.len;rw[ba,aW,←R.len] at r5l;have SH5:aj H H5:=fun c o e=>k5 c o (aw e kW) (s4 _ _ (s3 _ _ (s1 _ _ e)));have hu5:H5 u' =some (.lst ((mR d ar).map V.str)):=k5 _ _ (fun z=>Vq (z▸hN)) (s4 _ _ NV);refine⟨_,rfl,Dm xN,_,rfl,_,rfl,_,rfl,_,1,rfl,rfl,H0,y,pp.1,pp.2,u',mR d ar,k+1,rfl,FF.trans SH5,hp,vH,by lia,hu5,by lia,by lia,fun l2 RS H6 kU s6 hz6 R6=>⟨fl,l2,AX,RS,rfl,rfl,s6 _ _ xN,hz6,?_,some y,AX ++RS,rfl,?_,aa,?_⟩⟩
     ·have:=R6.len;rw[lh] at this
      lia
     ·exact fun c o hc e=>by
       rw[av hc];exact s6 _ _ (k5 c o hc e)
     ·rw[fY (fun p:Bool×Ds=>lC p.2 (mR d ar) (k+1)) ep,←CA,←List.append_assoc];refine((R5.same s6).app (R6.imp fun c hc=> ?_)).upd Vq (s6 _ _ xN);rcases hc with rfl|⟨z1,z2⟩
      ·exact hN
      ·exact .inr ⟨SH5.free z1,fun z=>by rw[z,xN] at z1;cases z1⟩
    ·rintro σ H5 ⟨x6,AX,rfl,k5,xN,R5⟩
     refine⟨_,_,_,AX,rfl,fun c o e=>k5 c o (aw e kW) (s4 _ _ (s3 _ _ (s1 _ _ e))),xN,?_⟩;rw[iF hB,fK,←Lj,←fY (fun d=>D2 d ar k) ed] at R5;exact R5
  ·rintro σ H' ⟨x4,x5,x6,zs,rfl,sm,kj,R⟩
   refine⟨_,rfl,q fl zs H' kW sm kj ?_⟩;rw[rB hA,fK,←Gz] at R;exact R
theorem b8{n:Nat}(h:n≤100000):n<sizeLine:=gp h (by decide)
noncomputable def Lt(x:Str):Prop:=∀c∈x.cps.toList,gy c=true
theorem Lt.app{x y:Str}(h:Lt x)(h' :Lt y):Lt (x++y):=by
 intro c hc;rcases mem_cps_append.mp hc with hc|hc
 ·exact h c hc
 ·exact h' c hc
theorem Lt.slice{x:Str}(h:Lt x)(l u:Option Int):Lt (Txt.slice x l u):=by
 intro c hc;unfold Txt.slice at hc
 split at hc
 ·exact h c hc
 ·rw[DG] at hc;obtain⟨i,_,hi⟩:=vn.mp hc;exact h c (Array.mem_toList_iff.mpr (Array.mem_of_getElem? hi))
theorem Lt.one{c:Nat}(h:gy c=true):Lt ⟨#[c]⟩:=by
 intro d hd;have hd:d∈[c]:=hd;rw[hV.mp hd];exact h
theorem Lt.name{x:Str}(h:Lt x)(h1:1≤x.length)(h6:x.length≤6):bB x=true:=by
 unfold bB;rw[aS h1,aS h6,c_.mpr h];rfl
theorem hZ{x:Str}{j:Nat}(h:j≤x.length):(Txt.slice x none (some (j:Int))).length=j:=by
 have hl:x.cps.toList.length=x.length:=rfl;rw[qA.mp (slice_closes_toL (x:=x) (j:=(j:Int)) (by lia) (by lia))];show(((x.cps.toList.drop (0:Int).toNat).take ((j:Int) - 0).toNat).toArray).size=j;rw[bh,gG,tS];have e1:((j:Int) - 0).toNat=j:=by lia
 have e2:(0:Int).toNat=0:=rfl;rw[e1,e2]
 lia
theorem pW{x:Str}{j:Nat}(h:j≤x.length):(Txt.slice x (some (j:Int)) none).length=x.length - j:=by
 have hl:x.cps.toList.length=x.length:=rfl;rw[slice_from_eq (x:=x) (i:=(j:Int)) (b:=x.length) (by lia) (by lia) rfl];show(((x.cps.toList.drop (j:Int).toNat).take ((x.length:Int) - (j:Int)).toNat).toArray).size=x.length - j;rw[bh,gG,tS];have e1:((x.length:Int) - (j:Int)).toNat=x.length - j:=by lia
 have e2:(j:Int).toNat=j:=by lia
 rw[e1,e2]
 lia
theorem qM{p:Str→Prop}:∀{ys:ak},(∀v∈ys,∃x,v= .str x∧p x)→∃xs:ao,ys=xs.map V.str∧∀x∈xs,p x
 |[],_=>⟨[],rfl,fun x hx=>by cases hx⟩
 |v::r,h=>by
  obtain⟨x,rfl,hx⟩:=h v e_;obtain⟨xs,rfl,BW⟩:=qM (ys:=r) fun u hu=>h u (ff _ hu)
  exact⟨x::xs,rfl,fun y hy=>by
   rcases aU.mp hy with rfl|hy
   ·exact hx
   ·exact BW y hy⟩
theorem qx{H:Hp}{Q:VK}{i:Int}(h0:0≤i)(h1:i<26)(q:∀c,gy c=true→Q (.str ⟨#[c]⟩) H):Yo (.str "abcdefghijklmnopqrstuvwxyz") (.int i) H Q:=by
 obtain⟨j,rfl⟩:∃j:Nat,i=j:=⟨i.toNat,by lia⟩;have e:("abcdefghijklmnopqrstuvwxyz" :Str).cps.toList=(List.range 26).map (· +97):=by decide+kernel
 have hj:j<26:=by lia
 refine⟨_,_,j+97,rfl,rfl,by decide+kernel,?_,q _ ?_⟩
 ·refine bU ?_;rw[e,bj,ql hj];rfl
 ·unfold gy;rw[aS (by lia),aS (by lia)];rfl
section
variable{X:Cx}{c:Expr}{a b:List Stmt}{tc:TT}{t u:TS}{pos:Pos}
theorem _root_.L2.EL:Fo X [] MC:=⟨aV⟩
theorem _root_.L2.Nr(hc:PT X c tc)(ha:Fo X a t)(hb:Fo X b u):PSm X (.If c a b pos) (VR tc t u):=⟨bu hc ha.h hb.h⟩
end
theorem oX{lo:Int}{n k m k0:Nat}{b:Addr}{js:List Nat}{g:TG}{te:TE}{σ:L2.St}{H:Hp}{Q:VK}(R:V→Prop)(hlen:n≤sizeLine)(B:c9 H b k0)
 (gu:∀(i:Nat) (H' :Hp) (C1:V→Hp→Prop),i<n→Kept b H H'→c9 H' b (k0+i*m)→(∀v fP,R v→c9 fP b (k0+i*m+m)→Kept b H' fP→C1 v fP)→
  g (.int (lo+i)) (xY k js σ) H' fun lU H2=>fz (xY k js σ) lU∧te lU H2 C1)
 (hq:∀p H' ys,H p=none→Kept b H H'→c9 H' b (k0+n*m)→H' p=some (.lst ys)→ys.length=n→(∀v∈ys,R v)→Q (.ref p) H'):
 mF (Rn lo n) k js g UL te σ H Q:=by
 intro p hp;have hpb:p≠b:=B.ne hp
 refine⟨fun i m' ys H' =>m' =n - i∧i≤n∧ys.length=i∧H' p=some (.lst ys)∧Kept b H H'∧c9 H' b (k0+i*m)∧∀v∈ys,R v,
  ⟨n,rfl,cN _,rfl,aa,(aj.upd hp).kept,by rw[Nat.zero_mul];exact B.same (aj.upd hp),fun v e=>by cases e⟩,?_⟩
 rintro i m' ys H' ⟨rfl,hi,zg,hl,hs,hB,hE⟩
 refine⟨hl,?_⟩;by_cases iU:i<n
 ·refine .inr ⟨iU,by lia,fun x fP hy=> ?_⟩;obtain⟨rfl,rfl⟩:=hy;refine gu i _ _ iU hs hB fun v H4 r4 B4 s4=> ?_;have NN:H4 p=some (.lst ys):=s4 _ _ hpb hl;refine⟨NN,n - (i+1),by lia,rfl,iU,by simp[zg],aa,fun c o hc e=> ?_,?_,fun v' e=> ?_⟩
  ·rw[av (aw e hp)];exact s4 _ _ hc (hs _ _ hc e)
  ·obtain⟨x,y,z,hb,r⟩:=B4;refine⟨x,y,z,?_,?_⟩
   ·rw[av (fun z=>hpb z.symm)];exact hb
   ·rw[show k0+(i+1)*m=k0+i*m+m by rw[Nat.succ_mul];lia];exact r
  ·rcases eK.mp e with e|e
   ·exact hE _ e
   ·rw[hV.mp e];exact r4
 ·have e:i=n:=by lia
  subst e;exact .inl ⟨aG _,hq p H' ys hp hs hB hl zg hE⟩
theorem o7(x y:Str):(x++y).length=x.length+y.length:=by
 show(x.cps++y.cps).size=x.cps.size+y.cps.size;exact Array.size_append
theorem aey(c:Nat):Txt.mul ⟨#[c]⟩ 6=⟨#[c,c,c,c,c,c]⟩:=rfl
theorem Lt.six{c:Nat}(h:gy c=true):Lt ⟨#[c,c,c,c,c,c]⟩:=by
 intro d hd;have hd:d∈[c,c,c,c,c,c]:=hd;simp only[aU,cP,cO,or_self] at hd;rw[hd];exact h
theorem Lt.join{ts:ao}(h' :∀t∈ts,Lt t):Lt (Str.join "" ts):=by
 intro c hc;rcases(mem_join "" c ts).mp hc with⟨t,ht,hc⟩|⟨_,hc⟩
 ·exact h' t ht c hc
 ·have:c∈([]:List Nat):=hc;cases this
noncomputable def zo:ak:=[.str "in",.str "or",.str "end",.str "make",.str "frame",.str "ground",.str "none",.str "turns",.str "put",.str "hand",.str "room"]
theorem MZ:∀x∈zo,∃s,x= .str s∧bB s=true:=by
 intro x hx;simp only[zo,aU,cP,cO] at hx
 rcases hx with rfl|rfl|rfl|rfl|rfl|rfl|rfl|rfl|rfl|rfl|rfl<;>exact⟨_,rfl,by decide+kernel⟩
noncomputable def Lc:Sp:=fun vs H Q _=>∃(b:Addr) (n k:Nat),vs=[.ref b,.int n]∧c9 H b k∧k+12≤100000∧n≤12∧∀l (xs:ao) H',H l=none→xs.length=n→(∀x∈xs,bB x=true)→H' l=some (.lst (xs.map V.str))→c9 H' b (k+12)→Kept b H H'→Q (.ref l) H'
theorem l9(T:Txt K mg A):aM P w K mg base cK 2 A.vp A.uP ["_law_box_here","_law_many"] Lc:=by
 refine T.jG.F.okN cF ?_
 rintro cj Ar outer s H vs Q E hr ⟨b,n,k,rfl,B,hk,hn,q⟩
 have hu:=Yp hr;refine⟨_,(cJ ⟨(eU 2 cF.nd aB)⟩ (cJ ⟨(eU 3 cF.nd (cn (aN T) hr T.aP az (ae (pv 0) (aH af))))⟩ (cJ ⟨(eU 4 cF.nd (cn (aN T) hr T.aP az (ae (pv 0) (aH af))))⟩ (cJ ⟨(eU 5 cF.nd (cU a7 (bg (ae af (ae af (ae af (ae af (ae af (aH af))))))) (cn (aN T) hr T.aP az (ae (pv 0) (aH af)))))⟩ (cJ (Nr (wp dM (pv 3) af) (cJ (Ip (i:=6) cF.nd rfl (Or.inr rfl) (IE (b9 (fun _ _=>rfl) aB (b9 (fun _ _=>rfl) aB (b9 (fun _ _=>rfl) aB (b9 (fun _ _=>rfl) aB (b9 (fun _ _=>rfl) aB (b9 (fun _ _=>rfl) aB (b9 (fun _ _=>rfl) aB (b9 (fun _ _=>rfl) aB (b9 (fun _ _=>rfl) aB (b9 (fun _ _=>rfl) aB (b9 (fun _ _=>rfl) aB HK)))))))))))) (by kernel_rfl) (Or.inl rfl)) (uc ⟨(aF (F1 ["_law_k","_law_words","_law_first","_law_step"] 1 [6,4,5] (gS rfl T.lO (aH (pv 1))) (fun _ _ _ _ _=>⟨(fO 0 (show(["_law_k","_law_words","_law_first","_law_step"]:ao).Nodup by decide+kernel)),uS,(cU (Ma (K:=K) rfl) (pv 1) (aO nM (aO bz (pv 2) (aO l7 (aO nM (pv 3) af) (pv 0))) af))⟩)))⟩)) EL) (cJ ⟨(eU 7 cF.nd (jg PySem.F.plainAttrs_str PySem.F.slot_str_join PySem.F.type_str_join Oc aB (aH (F1 ["_law_k","_law_letters","_law_box_here"] 1 [2,0] (gS rfl T.lO (aH (cn (aN T) hr T.aP az (ae (pv 0) (aH af))))) (fun _ _ _ _ _=>⟨(fO 0 (show(["_law_k","_law_letters","_law_box_here"]:ao).Nodup by decide+kernel)),uS,(cU Gx (pv 1) (cn (aN T) hr T.aP az (ae (pv 2) (aH af))))⟩)))))⟩ (cJ ⟨(eU 8 cF.nd (cn (aN T) hr T.aP az (ae (pv 0) (aH (aO bz (h8 uo T.gi Boot.«len» (aH (pv 7))) af)))))⟩ (cJ (Nr (PW.pt (wS (wp dM (pv 3) af) (wT (wp El (pv 1) af)))) (cJ ⟨(eU 9 cF.nd (c5 Cu (aO sC (pv 7) (aO GO (cU Gx (pv 2) (pv 4)) af)) gA (cE af)))⟩ (uc ⟨(aF (F1 ["_law_k","_law_whole","_law_first"] 1 [9,4] (gS rfl T.lO (aH (pv 1))) (fun _ _ _ _ _=>⟨(fO 0 (show(["_law_k","_law_whole","_law_first"]:ao).Nodup by decide+kernel)),uS,(c5 Cu (pv 1) gA (cE (aO bz af (aO nM (aO bz (pv 2) (pv 0)) af))))⟩)))⟩)) EL) (uc ⟨(aF (F1 ["_law_k","_law_stem","_law_letters","_law_at","_law_first","_law_step"] 1 [7,2,8,4,5] (gS rfl T.lO (aH (pv 1))) (fun _ _ _ _ _=>⟨(fO 0 (show(["_law_k","_law_stem","_law_letters","_law_at","_law_first","_law_step"]:ao).Nodup by decide+kernel)),uS,(aO sC (aO sC (c5 Cu (pv 1) gA (cE (pv 3))) (cU Gx (pv 2) (aO nM (aO bz (pv 4) (aO l7 (pv 5) (pv 0))) af))) (c5 Cu (pv 1) (cE (pv 3)) gA))⟩)))⟩))))))))),?_⟩;refine⟨_,rfl,b,3,k,rfl,B,by lia,by decide,by decide,fun way H1 w0 w1 B1 O1=> ?_⟩;refine⟨_,rfl,b,26,k+1,rfl,B1,by lia,by decide,by decide,fun first H2 f0 f1 B2 O2=> ?_⟩;refine⟨aev,fun p hp=> ?_⟩;have s3:=aj.upd (o:= .lst [V.int 1,V.int 3,V.int 5,V.int 7,V.int 9,V.int 11]) hp;have e3:upd H2 p (.lst [V.int 1,V.int 3,V.int 5,V.int 7,V.int 9,V.int 11]) p=some (.lst [V.int 1,V.int 3,V.int 5,V.int 7,V.int 9,V.int 11]):=aa;generalize upd H2 p (.lst [V.int 1,V.int 3,V.int 5,V.int 7,V.int 9,V.int 11])=H3 at s3 e3;have npb:p≠b:=B2.ne hp;refine⟨_,rfl,b,6,k+2,rfl,B2.same s3,by lia,by decide,by decide,fun r H4 r0 r1 B4 O4=> ?_⟩;refine gP (fun v=>∃i:Int,v= .int i∧0≤i∧i≤11) (O4.kept _ _ npb e3) r0 r1 ?_ fun v hv=> ?_
 ·intro x hx;simp only[aU,cP,cO] at hx
  rcases hx with rfl|rfl|rfl|rfl|rfl|rfl<;>exact⟨_,rfl,by decide,by decide⟩
 obtain⟨step,rfl,st0,st1⟩:=hv;have K4:Kept b H H4:=((O1.kept.trans O2.kept).trans s3.kept).trans O4.kept
 have fr:∀{H' :Hp} {c:Addr} {k' :Nat},Kept b H H'→c9 H' b k'→H' c=none→H c=none:=fun{H' c k'} K' B' hc=>by
  cases e:H c with
  |none=>rfl
  |some o=>rw[K' _ o (B'.ne hc) e] at hc;cases hc
 refine⟨_,rfl,rfl,_,rfl,?_⟩;refine sU (fun _=> ?_) (fun _=> ?_)
 ·refine⟨aaJ,fun wl NY=> ?_⟩;have s5:=aj.upd (o:= .lst zo) NY;have e5:upd H4 wl (.lst zo) wl=some (.lst zo):=aa;have nwb:wl≠b:=B4.ne NY;refine⟨_,rfl,_,rfl,by lia,by lia,?_⟩;rw[jl];refine oX (m:=0) (k0:=k+3) (fun v=>∃x,v= .str x∧bB x=true) (bO (b8 (by lia))) (B4.same s5) ?_ ?_
  ·intro i H' C1 hi K' B' c1;refine⟨(fz.refl _).own (by decide),_,rfl,_,rfl,_,rfl,step,10,rfl,rfl,(show(0:Int)<10 by decide),_,rfl,_,_,rfl,rfl,?_,first,_,rfl,rfl,_,11,rfl,rfl,(show(0:Int)<11 by decide),?_⟩
   ·exact .inl ⟨by lia,by lia⟩
   ·refine gP (fun v=>∃x,v= .str x∧bB x=true) (K' _ _ nwb e5) (nJ _ (by decide)) (qo _ (by decide)) MZ fun v hv=>c1 v H' hv (B'.mono (by lia)) (Kept.refl b H')
  ·intro pl H' ys jN K' B' Vt zg hR;obtain⟨xs,rfl,BW⟩:=qM hR;rw[aK] at zg;exact q pl xs H' (fr K4 B4 (s5.free jN)) zg BW Vt (B'.mono (by lia)) (K4.trans (s5.kept.trans K'))
 ·refine⟨rfl,_,rfl,b,6,k+3,rfl,B4,by lia,by decide,by decide,fun cnt H5 c0 c1 B5 O5=> ?_⟩;obtain⟨c,rfl⟩:∃c:Nat,cnt=c:=⟨cnt.toNat,by lia⟩;refine⟨_,rfl,by lia,by lia,?_⟩;rw[jl];have K5:Kept b H H5:=K4.trans O5.kept;refine oX (m:=1) (k0:=k+4) (fun v=>∃x:Str,v= .str x∧x.length=1∧Lt x) (bO (b8 (by lia))) B5 ?_ ?_
  ·intro i H' C1 hi K' B' q1;refine⟨(fz.refl _).own (by decide),_,rfl,_,rfl,b,26,_,rfl,B',by lia,by decide,by decide,fun r H6 r0 r1 B6 O6=> ?_⟩;exact qx r0 r1 fun ch Ea=>q1 _ _ ⟨_,rfl,rfl,Lt.one Ea⟩ B6 O6.kept
  ·intro pl H6 ys jN K6 B6 hp6 zg hR;obtain⟨xs,rfl,hx⟩:=qM hR;rw[aK] at zg;have he:(Str.ofString "").length=0:=by decide+kernel
   have hj:Builtin.Str.tooLong (xs.toArray.foldl (fun a p=>a+p.length+(Str.ofString "").length) 0)=false:=PySem.StrLaws.joinFits (B:=1) (fun y hy=>n5 (hx y hy).1) (by
    rw[he]
    lia)
   have hlen:(Txt.join (Str.ofString "") xs).length≤5:=by
    have h1:=PySem.StrLaws.join_length_le (Str.ofString "") xs;have h2:=PySem.StrLaws.sumLen_le xs (B:=1) (fun y hy=>n5 (hx y hy).1);rw[he] at h1;show(Builtin.Str.glued _ xs).length≤5;rw[PySem.StrLaws.glued_eq_join]
    lia
   have JG:Lt (Txt.join (Str.ofString "") xs):=by
    show Lt (Builtin.Str.glued _ xs);rw[PySem.StrLaws.glued_eq_join];exact Lt.join fun t ht=>(hx t ht).2
   have K56:Kept b H H6:=K5.trans K6;refine⟨_,pl,xs,rfl,rfl,hp6,by unfold JoinOk;rw[hj];rfl,?_⟩;generalize Txt.join (Str.ofString "") xs=oO at hlen JG;have hL:sizeLine=16777216:=by decide
   refine⟨_,rfl,_,rfl,oO,rfl,by lia,(oO.length:Int),1,rfl,rfl,b,_,k+4+c*1,rfl,B6,by lia,by lia,by lia,fun at_ H7 a0 a1 B7 O7=> ?_⟩;obtain⟨at_,rfl⟩:∃j:Nat,at_=j:=⟨at_.toNat,by lia⟩;have ha:at_≤oO.length:=by lia
   have K7:Kept b H H7:=K56.trans O7.kept;refine⟨_,rfl,rfl,_,rfl,?_⟩;refine sU (fun _=> ?_) (fun _=> ?_)
   ·refine⟨_,rfl,_,7,rfl,rfl,_,rfl,?_⟩;by_cases h7:n<7
    ·rw[aS (show(n:Int)<7 by lia)];refine dG ?_;refine⟨_,rfl,_,rfl,_,rfl,qx f0 f1 fun ch Ea=> ?_⟩;have hmul:MulOk ⟨#[ch]⟩ 6:=⟨by decide,fun _ _=>by show ¬((1:Int)>(2 ^ 63 - 1) / 6);decide,fun _ _=>by show Builtin.Str.tooLong (1*6)=false;decide+kernel⟩;refine⟨⟨#[ch]⟩,6,rfl,rfl,hmul,?_⟩;rw[aey];have h6l:(⟨#[ch,ch,ch,ch,ch,ch]⟩:Str).length=6:=rfl;have NY:(oO++⟨#[ch,ch,ch,ch,ch,ch]⟩).length=oO.length+6:=o7 _ _;refine⟨oO,_,rfl,rfl,by lia,?_⟩;have hwo:Lt (oO++⟨#[ch,ch,ch,ch,ch,ch]⟩):=JG.app (Lt.six Ea);generalize oO++⟨#[ch,ch,ch,ch,ch,ch]⟩=whole at NY hwo;refine⟨6,rfl,whole,rfl,by lia,?_⟩;have Jg:=hZ (x:=whole) (j:=6) (by lia);have hso:=hwo.slice none (some ((6:Nat):Int));have e6:((6:Nat):Int)=6:=rfl;rw[e6] at Jg hso;generalize Txt.slice whole none (some 6)=wh at Jg hso;refine⟨_,rfl,_,rfl,by lia,by lia,?_⟩;rw[jl];refine oX (m:=0) (k0:=k+4+c*1+1) (fun v=>∃x,v= .str x∧bB x=true) (bO (b8 (by lia))) B7 ?_ ?_
     ·intro i H' C1 hi K' B' q1;refine⟨(fz.refl _).own (by decide),_,rfl,_,rfl,_,rfl,first,_,rfl,rfl,_,6,rfl,rfl,(show(0:Int)<6 by decide),1,_,rfl,rfl,_,rfl,wh,rfl,by lia,?_⟩;obtain⟨j,hj⟩:∃j:Nat,1+(first+(0+(i:Int))) % 6=j:=⟨(1+(first+(0+(i:Int))) % 6).toNat,by lia⟩;rw[hj];exact q1 _ _ ⟨_,rfl,(hso.slice none (some (j:Int))).name (by rw[hZ (by lia)];lia) (by rw[hZ (by lia)];lia)⟩ (B'.mono (by lia)) (Kept.refl b H')
     ·intro pl H' ys jN K' B' Vt zg hR;obtain⟨xs,rfl,BW⟩:=qM hR;rw[aK] at zg;exact q pl xs H' (fr K7 B7 jN) zg BW Vt (B'.mono (by lia)) (K7.trans K')
    ·rw[br (show ¬(n:Int)<7 by lia)];refine cA ?_;refine⟨_,rfl,_,rfl,by lia,by lia,?_⟩;rw[jl];refine oX (m:=0) (k0:=k+4+c*1+1) (fun v=>∃x,v= .str x∧bB x=true) (bO (b8 (by lia))) B7 ?_ ?_
     ·intro i H' C1 hi K' B' q1;have l1:=hZ ha;have l2:=pW ha;have o1:=JG.slice none (some (at_:Int));have o2:=JG.slice (some (at_:Int)) none;refine⟨(fz.refl _).own (by decide),_,rfl,_,rfl,_,rfl,oO,rfl,by lia,?_⟩;refine⟨_,rfl,_,rfl,_,rfl,_,rfl,step,_,rfl,rfl,.inl ⟨by lia,by lia⟩,first,_,rfl,rfl,_,26,rfl,rfl,(show(0:Int)<26 by decide),qx (nJ _ (by decide)) (qo _ (by decide)) fun ch Ea=> ?_⟩;have h1l:(⟨#[ch]⟩:Str).length=1:=rfl;have la:=o7 (Txt.slice oO none (some (at_:Int))) ⟨#[ch]⟩;refine⟨_,_,rfl,rfl,by lia,_,rfl,_,rfl,_,rfl,oO,rfl,by lia,?_⟩;have lb:=o7 (Txt.slice oO none (some (at_:Int))++⟨#[ch]⟩) (Txt.slice oO (some (at_:Int)) none);refine⟨_,_,rfl,rfl,by lia,?_⟩;exact q1 _ _ ⟨_,rfl,((o1.app (Lt.one Ea)).app o2).name (by lia) (by lia)⟩ (B'.mono (by lia)) (Kept.refl b H')
     ·intro pl H' ys jN K' B' Vt zg hR;obtain⟨xs,rfl,BW⟩:=qM hR;rw[aK] at zg;exact q pl xs H' (fr K7 B7 jN) zg BW Vt (B'.mono (by lia)) (K7.trans K')
   ·refine cA ?_;refine⟨_,rfl,_,rfl,by lia,by lia,?_⟩;rw[jl];refine oX (m:=0) (k0:=k+4+c*1+1) (fun v=>∃x,v= .str x∧bB x=true) (bO (b8 (by lia))) B7 ?_ ?_
    ·intro i H' C1 hi K' B' q1;have l1:=hZ ha;have l2:=pW ha;have o1:=JG.slice none (some (at_:Int));have o2:=JG.slice (some (at_:Int)) none;refine⟨(fz.refl _).own (by decide),_,rfl,_,rfl,_,rfl,oO,rfl,by lia,?_⟩;refine⟨_,rfl,_,rfl,_,rfl,_,rfl,step,_,rfl,rfl,.inl ⟨by lia,by lia⟩,first,_,rfl,rfl,_,26,rfl,rfl,(show(0:Int)<26 by decide),qx (nJ _ (by decide)) (qo _ (by decide)) fun ch Ea=> ?_⟩;have h1l:(⟨#[ch]⟩:Str).length=1:=rfl;have la:=o7 (Txt.slice oO none (some (at_:Int))) ⟨#[ch]⟩;refine⟨_,_,rfl,rfl,by lia,_,rfl,_,rfl,_,rfl,oO,rfl,by lia,?_⟩;have lb:=o7 (Txt.slice oO none (some (at_:Int))++⟨#[ch]⟩) (Txt.slice oO (some (at_:Int)) none);refine⟨_,_,rfl,rfl,by lia,?_⟩;exact q1 _ _ ⟨_,rfl,((o1.app (Lt.one Ea)).app o2).name (by lia) (by lia)⟩ (B'.mono (by lia)) (Kept.refl b H')
    ·intro pl H' ys jN K' B' Vt zg hR;obtain⟨xs,rfl,BW⟩:=qM hR;rw[aK] at zg;exact q pl xs H' (fr K7 B7 jN) zg BW Vt (B'.mono (by lia)) (K7.trans K')
theorem DN:∀a b:List Nat,pZ (a++b)=max (pZ a) (pZ b)
 |[],b=>by
  show pZ b=max 0 (pZ b)
  lia
 |x::r,b=>by
  show max x (pZ (r++b))=max (max x (pZ r)) (pZ b);rw[DN r b]
  lia
noncomputable def dn(r:LR):Nat:=if r.1.1.bs.l.isEmpty=true then 0 else r.2+1
mutual
theorem ado:∀(d:Dd) (ar:ao) (k:Nat),pZ ((D2 d ar k).map dn)=if lq d=0 then 0 else k+lq d
 | .mk w ps bs,ar,k=>by
  have h:=Y7 bs (mR (.mk w ps bs) ar) (k+1);rw[D2,dw,lq];show max (dn ((.mk w ps bs,ar),k)) (pZ _)=_
  cases bs with
  |nil=>
   rw[DE,l_];rfl
  |cons t b r=>
   have e:dn ((Dd.mk w ps (.cons t b r),ar),k)=k+1:=rfl;have p:1≤l_ (.cons t b r):=by rw[l_];lia
   rw[e,h,ay (by lia)]
   lia
theorem Wy:∀(s:Ds) (ar:ao) (k:Nat),pZ ((lC s ar k).map dn)=if cM s=0 then 0 else k+cM s
 | .nil,ar,k=>by rw[lC,cM];rfl
 | .cons d r,ar,k=>by
  rw[lC,fJ,DN,ado d,Wy r,cM]
  split<;>split<;>split<;>lia
theorem Y7:∀(b:Bs) (ar:ao) (k:Nat),max k (pZ ((DE b ar k).map dn))=k+(l_ b - 1)
 | .nil,ar,k=>by
  rw[DE,l_];show max k 0=k+(0 - 1)
  lia
 | .cons t b r,ar,k=>by
  have h:=Y7 r ar k;rw[DE,fJ,DN,Wy b,l_]
  split<;>lia
end
noncomputable def gr(r:LR):Dd×ao:=(r.1.1,r.1.2++[("ground" :Str)])
theorem UZ(d:Dd)(ar:ao):mR d (ar++[("ground" :Str)])=mR d ar++[("ground" :Str)]:=by
 unfold mR
 split<;>rfl
mutual
theorem ad3:∀(d:Dd) (ar:ao) (k:Nat),Bd d (ar++[("ground" :Str)])=(D2 d ar k).map gr
 | .mk w ps bs,ar,k=>by
  rw[Bd,D2,dw,UZ,Zx bs _ (k+1)];rfl
theorem Ld:∀(s:Ds) (ar:ao) (k:Nat),fA s (ar++[("ground" :Str)])=(lC s ar k).map gr
 | .nil,ar,k=>by rw[fA,lC];rfl
 | .cons d r,ar,k=>by rw[fA,lC,fJ,ad3 d ar k,Ld r ar k]
theorem Zx:∀(b:Bs) (ar:ao) (k:Nat),AQ b (ar++[("ground" :Str)])=(DE b ar k).map gr
 | .nil,ar,k=>by rw[AQ,DE];rfl
 | .cons t b r,ar,k=>by rw[AQ,DE,fJ,Ld b ar k,Zx r ar k]
end
theorem T4{s:Ds}(ok:gw s)(k:Nat):∀r∈lC s [] k,ip r.1.1:=fun r hr=>by
 have:=so s ([]++[("ground" :Str)]) ok (gr r) (by rw[Ld s [] k];exact List.mem_map_of_mem hr);exact this
noncomputable def Rf.tag:Rf→Str
 | .many _=>"many"
 | .deep _=>"down"
 | .twice _=>"twice"
 | .oy _=>"label"
 | .wide _=>"wide"
 | .long _=>"long"
theorem V8{d:Dd}(ok:ip d)(h:cV d.wd=true):iC d≠ "ground":=by
 cases jaa ok with
 |ei t b u c=>exact absurd h (by show ¬cV "either"=true;decide+kernel)
 |tu l m n t b hl hg _ _ _ _=>exact hg
 |fr l t b hl hg=>exact hg
 |sm w ks ps f hf n1 n2 n3=>
  have h:cV w=true:=h;unfold cV at h;rw[br n3,br n2] at h;cases h
noncomputable def JV:Sp:=fun vs H Q _=>∃v t s,vs=[v]∧Dat H v (gg t (sL s))∧gw s∧cM s<9∧cQ s≤1000∧
 match cq s with
 |none=>∀H',aj H H'→Q .bx H'
 |some r=>∀t H',H t=none→aj H H'→H' t=some (.tup [.str r.tag,r.v])→Q (.ref t) H'
theorem xO(T:Txt K mg A):aM P w K mg base cK 12 A.iz A.kL ["_law_body_here"] JV:=by
 refine T.oU.F.ok bq (fun vs H Q E h=> ?_) (fun cj Ar outer s0 H vs Q E hr h=> ?_)
 ·obtain⟨v,t,s,rfl,_⟩:=h;rfl
 ·obtain⟨v,t,s,rfl,hd,ok,dp,hm,q⟩:=h
  have Xb:(kP cK P w K mg base ["_law_body_here","_law_rows","_law_down","_law_deed","_law_around","_law_one","_law_asked","_law_done"] "_law_refusal" (aq kO) A.iz cj Ar outer s0 H E).Gg.A.units<cLine:=by
   have:=hr.un;show(Ar.deeper _).units<cLine;omega
  refine⟨_,(ag (eU 1 bq.nd (cn (pU T 9) hr T.iY az (ae (pv 0) (ae (bg dr) (aH af))))) (ag (eU 2 bq.nd af) (ag (vI (cz (pv 1)) (lX rfl (a_ (fO 3 bq.nd) (a_ (fO 4 bq.nd) (a_ (fO 5 bq.nd) fq)))) (ai (bu (wp (Jf Xb) (cn (fF T) hr T.dR az (aH (pv 3))) (a9 dr)) (ai (eU 2 bq.nd (h8 (jQ rfl) T.wQ Boot.«max» (ae (pv 2) (aH (aO bz (pv 5) af)))))) aV))) (ag (bu (wp r_ (h8 aZ T.gi Boot.«len» (aH (pv 1))) af) (ai (aF (a9 (ae aB (aH (h8 aZ T.gi Boot.«len» (aH (pv 1)))))))) aV) (ag (bu (wp r_ (pv 2) af) (ai (aF (a9 (ae aB (aH (pv 2)))))) aV) (ag (vI (cz (pv 1)) (lX rfl (a_ (fO 3 bq.nd) (a_ (fO 4 bq.nd) (a_ (fO 5 bq.nd) fq)))) (ag (bu (PW.pt (wS (wp mD (cU aX (pv 3) af) (a9 (ae aB (aH aB)))) (wT (wp mD (cU aX (pv 3) af) (pv 4))))) (ai (aF (a9 (ae aB (aH (cU aX (pv 3) af)))))) aV) (ai (bu (PW.pt (wS (wp dM (cU aX (pv 3) af) aB) (wS (wp vw (cU aX (pv 3) af) g_) (wS (wp fZ (cU aX (pv 3) af) (pv 4)) (wT (wp oV (cU aX (pv 3) af) aB)))))) (ai (aF (a9 (ae aB (aH (cU aX (pv 3) af)))))) aV)))) (ag (vQ (cn (uJ T 9) hr T.lN az (aH (pv 0))) (lX rfl (a_ (fO 6 bq.nd) (a_ (fO 7 bq.nd) fq)))) (ag (bu (wp r_ (pv 6) af) (ai (aF (a9 (ae aB (aH (pv 6)))))) aV) (ai (aF (zX (wp r_ (pv 7) af) (a9 (ae aB (aH (pv 7)))) g_))))))))))),?_⟩;refine⟨_,rfl,mI,fun u hu=> ?_⟩;have su:=aj.upd (o:= .lst []) hu;refine⟨upd H u (.lst []),v,t,s,u,[],0,rfl,aj.refl _,hd.same su,ok,dp,aa,hm,by show 0+_<_;lia,fun l zs H1 hl s1 hz R=> ?_⟩;have sH1:=su.trans s1;have Kp:=T4 ok 0;have rl:=R.len;rw[lh] at rl;refine⟨_,rfl,l,rfl,⟨_,bF.of hz⟩,?_⟩;refine dF (K:=K) (a:=l) (xs:=zs) (fun i σ H' =>∃(x3 x4 x5:Option V),σ=[some v,some (.ref l),some (nI (pZ (((lC s [] 0).take i).map dn))),x3,x4,x5,none,none]∧aj H1 H') ⟨_,_,_,rfl,aj.refl H1⟩ (by rintro i σ H' _ ⟨_,_,_,_,sm⟩;exact bF.of (sm _ _ hz)) ?_ ?_
  ·rintro i x σ H' hx ⟨x3,x4,x5,rfl,sm⟩
   obtain⟨⟨⟨d,ar⟩,k⟩,er,t1,y,u1,rfl,f1,f2,f3,f4⟩:=R.at_ i x hx;have gq:=Kp _ (bJ er);dsimp only at f2 f4 gq;refine⟨t1,_,rfl,bc.of (sm _ _ f1),rfl,_,_,rfl,_,_,rfl,_,_,rfl,rfl,?_⟩;refine⟨_,rfl,upd H u (.lst []),y,d,rfl,s1.trans sm,f2,gq,fun t2 ys H2 wb s2 BZ hB=> ?_⟩;refine⟨mI,fun t3 oj=>⟨t2,t3,ys,rfl,rfl,aj.upd oj _ _ BZ,aa,_,rfl,?_⟩⟩;have s4:=s2.trans (aj.upd (o:= .tup []) oj);have tk:=CJ dn er
   have ye:ys.isEmpty=d.bs.l.isEmpty:=by
    have:=iF hB
    cases ys with
    |nil=>cases hh:d.bs.l with
     |nil=>rfl
     |cons _ _=>rw[hh] at this;cases this
    |cons _ _=>cases hh:d.bs.l with
     |nil=>rw[hh] at this;cases this
     |cons _ _=>rfl
   cases he:d.bs.l.isEmpty with
   |true=>
    rw[ye,he];have e0:dn ((d,ar),k)=0:=aA he;rw[e0,Nat.max_eq_left (cN _)] at tk;exact cA ⟨_,_,_,by rw[tk];rfl,sm.trans s4⟩
   |false=>
    rw[ye,he];have e0:dn ((d,ar),k)=k+1:=ay (by rw[he];decide);rw[e0] at tk;refine dG ⟨_,rfl,_,rfl,_,1,rfl,rfl,_,_,rfl,some y,some (.ref u1),some (nI k),?_,sm.trans s4⟩
    have mx:∀x y:Nat,nI (max x (y+1))= .int (if((y:Int)+1)>(x:Int) then((y:Int)+1) else(x:Int)):=fun x y=>by
     show V.int ((max x (y+1):Nat):Int)=_
     congr 1
     split<;>lia
    rw[tk,mx];rfl
  ·rintro σ H2 ⟨x3,x4,x5,rfl,sm⟩
   have etk:(lC s [] 0).take zs.length=lC s [] 0:=sH (by rw[lh];lia)
   have dnE:pZ ((lC s [] 0).map dn)=cM s:=by
    rw[Wy]
    split<;>lia
   rw[etk,dnE];have BZ:=sm _ _ hz;have AW:=sH1.trans sm
   have out:∀(r:Rf) (H3:Hp) (t3:Addr),cq s=some r→aj H2 H3→H3 t3=none→Q (.ref t3) (upd H3 t3 (.tup [.str r.tag,r.v])):=fun r H3 t3 e s3 oj=>by
    rw[e] at q;exact q t3 _ ((AW.trans s3).free oj) ((AW.trans s3).trans (aj.upd oj)) aa
   refine⟨_,rfl,l,zs,rfl,.inl (bF.of BZ),_,40,rfl,rfl,_,rfl,?_⟩;refine sU (fun hk=> ?_) (fun hk=> ?_)
   ·have hk:=bQ hk;refine⟨_,rfl,l,zs,rfl,.inl (bF.of BZ),fw,fun t3 oj=> ?_⟩;have:=out (.many (cQ s)) H2 t3 (by unfold cq jy;rw[aA (by lia)];rfl) (aj.refl _) oj;rw[show Rf.v (.many (cQ s))=V.int (zs.length:Int) by rw[rl];rfl] at this;exact this
   ·have hk1:¬(zs.length:Int)>40:=fun z=>hk (aS z);refine⟨_,rfl,_,6,rfl,rfl,_,rfl,?_⟩;refine sU (fun hk=> ?_) (fun hk=> ?_)
    ·have hk:=bQ hk;exact⟨_,rfl,fw,fun t3 oj=>out (.deep (cM s)) H2 t3 (by unfold cq jy;rw[ay (by lia),aA (by lia)];rfl) (aj.refl _) oj⟩
    ·have OG:¬((cM s:Nat):Int)>6:=fun z=>hk (aS z);have eS:jy s=none:=by unfold jy;rw[ay (by lia),ay (by lia)]
     have eF:(fA s ["ground"]).findSome? gv=(lC s [] 0).findSome? fun r=>gv (gr r):=by
      rw[show fA s ["ground"]=_ from Ld s [] 0,List.findSome?_map];rfl
     refine⟨_,rfl,l,rfl,⟨_,bF.of BZ⟩,?_⟩;refine dF (K:=K) (a:=l) (xs:=zs) (fun i σ H' =>∃(x3 x4 x5:Option V),σ=[some v,some (.ref l),some (nI (cM s)),x3,x4,x5,none,none]∧aj H2 H'∧((lC s [] 0).take i).findSome? (fun r=>gv (gr r))=none) ⟨_,_,_,rfl,aj.refl H2,rfl⟩ (by rintro i σ H' _ ⟨_,_,_,_,sm,_⟩;exact bF.of (sm _ _ BZ)) ?_ ?_
     ·rintro i x σ H' hx ⟨x3,x4,x5,rfl,sm',hn⟩
      obtain⟨⟨⟨d,ar⟩,k⟩,er,t1,y,u1,rfl,f1,f2,f3,f4⟩:=R.at_ i x hx;have gq:=Kp _ (bJ er);dsimp only at f2 f4 gq;have sR:=sm.trans sm';obtain⟨b,ks,xs,ys,rfl,p0⟩:=cG f2 gq;have p:=p0.same (s1.trans sR)
      have bad:∀r,gv (d,ar++[("ground" :Str)])=some r→cq s=some r:=fun r h=>by
       unfold cq;rw[eS,nU,eF,Al (fun r=>gv (gr r)) er hn h];rfl
      have next:gv (d,ar++[("ground" :Str)])=none→((lC s [] 0).take (i+1)).findSome? (fun r=>gv (gr r))=none:=fun h=>by
       rw[wk (fun r=>gv (gr r)) er,hn];exact h
      refine⟨t1,_,rfl,bc.of (sR _ _ f1),rfl,_,_,rfl,_,_,rfl,_,_,rfl,rfl,?_⟩;refine⟨_,rfl,b,_,0,_,rfl,rfl,bc.of p.e,l5 _ _,fw,fun t2 wb=>⟨t2,_,rfl,.inr (bc.of aa),rfl,rfl,_,rfl,?_⟩⟩;have u2:=aj.upd (o:= .tup [V.str "frame",.str "turns"]) wb;generalize upd H' t2 (.tup [V.str "frame",.str "turns"])=H3 at u2 ⊢;have pe:=u2 _ _ p.e;have AV:=u2 _ _ (sR _ _ f4);have s3:=sm'.trans u2;show if wL (V.str d.wd) [.str "frame",.str "turns"]=true then _ else _
      rw[BD]
      have two:¬(cV d.wd=true∧iC d∈ar++[("ground" :Str)])→gv (d,ar++[("ground" :Str)])=(if d.wd="make" then match sx d with
       |some x=>if x∈ar++[("ground" :Str)] then none else some (.oy x)
       |none=>none
       else none):=fun h=>ay h
      rcases hb:cV d.wd with _|_
      ·have tw:=two fun z=>by rw[hb] at z;exact cx z.1
       refine cA ⟨_,rfl,b,_,0,_,rfl,rfl,bc.of pe,l5 _ _,rfl,_,rfl,?_⟩;by_cases nm:d.wd="make"
       ·obtain⟨y1,y2,m,rfl,rfl,hm'⟩:=zZ p nm;rw[aA nm] at tw;rw[show decide (V.str d.wd=V.str "make")=true from aS (by rw[nm])];rcases hm' with⟨rfl,hk⟩|⟨z,rfl,hk⟩
        ·rw[hk] at tw;exact dG ⟨_,rfl,b,_,3,_,rfl,rfl,bc.of pe,bU (j:=3) rfl,rfl,_,rfl,cA ⟨_,_,_,rfl,s3,next tw⟩⟩
        ·rw[hk] at tw;dsimp only at tw;refine dG ⟨_,rfl,b,_,3,_,rfl,rfl,bc.of pe,bU (j:=3) rfl,rfl,_,rfl,dG ⟨_,rfl,b,_,3,_,rfl,rfl,bc.of pe,bU (j:=3) rfl,_,rfl,u1,_,rfl,.inl (bF.of AV),rfl,iP _,_,rfl,?_⟩⟩;show if(!wL (V.str z) (ar.map V.str))=true then _ else _
         rw[jc];by_cases hy:z∈ar
         ·rw[aA (tm _ hy)] at tw;rw[aS hy];exact cA ⟨_,_,_,rfl,s3,next tw⟩
         ·rw[br hy];refine dG ⟨_,rfl,b,_,3,_,rfl,rfl,bc.of pe,bU (j:=3) rfl,rfl,_,rfl,?_⟩;by_cases hg:z="ground"
          ·rw[aA (jT _ (by rw[hg];exact hV.mpr rfl))] at tw;rw[show decide (V.str z=V.str "ground")=true from aS (by rw[hg])];exact cA ⟨_,_,_,rfl,s3,next tw⟩
          ·rw[ay (fun h=>by
            rcases eK.mp h with h|h
            ·exact hy h
            ·exact hg (hV.mp h))] at tw
           rw[show decide (V.str z=V.str "ground")=false from br (c6 hg)];exact dG ⟨_,rfl,b,_,3,_,rfl,rfl,bc.of pe,bU (j:=3) rfl,fw,fun t3 oj=>out (.oy z) _ t3 (bad _ tw) s3 oj⟩
       ·exact iH (c6 nm) ⟨_,_,_,rfl,s3,next (tw.trans (ay nm))⟩
      ·obtain⟨Ww,rfl⟩:=p0.iC hb;have lg:=V8 gq hb;refine dG ⟨_,rfl,b,_,1,_,rfl,rfl,bc.of pe,bU (j:=1) rfl,_,rfl,u1,_,rfl,.inl (bF.of AV),rfl,iP _,_,rfl,?_⟩;show if wL (V.str (iC d)) (ar.map V.str)=true then _ else _
       rw[jc];by_cases kU:iC d∈ar
       ·rw[aS kU];exact dG ⟨_,rfl,b,_,1,_,rfl,rfl,bc.of pe,bU (j:=1) rfl,fw,fun t3 oj=>out (.twice (iC d)) _ t3 (bad _ (aA ⟨hb,tm _ kU⟩)) s3 oj⟩
       ·rw[br kU];have nm:d.wd≠ "make":=fun z=>by rw[z] at hb;exact absurd hb (by decide+kernel)
        refine cA ⟨_,rfl,b,_,0,_,rfl,rfl,bc.of pe,l5 _ _,rfl,_,rfl,?_⟩;refine iH (c6 nm) ⟨_,_,_,rfl,s3,next ((two fun z=> ?_).trans (ay nm))⟩;rcases eK.mp z.2 with h|h
        ·exact kU h
        ·exact lg (hV.mp h)
     ·rintro σ H3 ⟨x3,x4,x5,rfl,s3,hn⟩
      rw[etk] at hn
      have eR:cq s=sO s:=by
       unfold cq;rw[eS,nU,eF,hn,nU]
      refine⟨_,rfl,H,v,t,s,rfl,AW.trans s3,hd,ok,dp,fun tt H4 sF s4 hz4=> ?_⟩;have RX:=s3.trans s4;refine⟨tt,_,rfl,bc.of hz4,rfl,_,_,rfl,_,_,rfl,rfl,?_⟩;refine⟨_,rfl,_,4,rfl,rfl,_,rfl,?_⟩;refine sU (fun hk=> ?_) (fun hk=> ?_)
      ·have hk:=bQ hk;exact⟨_,rfl,fw,fun t3 oj=>out (.wide (gD s)) _ t3 (by rw[eR];unfold sO;rw[aA (by lia)]) RX oj⟩
      ·have hk3:¬((gD s:Nat):Int)>4:=fun z=>hk (aS z);refine⟨_,rfl,_,100,rfl,rfl,_,rfl,?_⟩;refine sU (fun hk=> ?_) (fun hk=> ?_)
       ·have hk:=bQ hk;exact⟨_,rfl,fw,fun t3 oj=>out (.long (gC s)) _ t3 (by rw[eR];unfold sO;rw[ay (by lia),aA (by lia)]) RX oj⟩
       ·have hk4:¬((gC s:Nat):Int)>100:=fun z=>hk (aS z);have eN:cq s=none:=by rw[eR];unfold sO;rw[ay (by lia),ay (by lia)]
        rw[eN] at q;exact q _ (AW.trans RX)
theorem Yu{K:Frag}{mg:Str→aI}{x:Str}{C f R:Addr}(E:XI K mg x C f R)(D:Addr):∃nm q N bs bm gX sn sub ab col dd k0 k1 k2 k3 k5 i,K.lookup C=some (excClassObj nm q C N bs bm gX sn sub ab col dd k0 k1 k2 k3 k5 i)∧(Value.ref C::bm).contains (.ref D)=(decide (D=C)||decide (D=R)):=by
 obtain⟨nm,q,N,bs,bm,hd,sn,sub,ab,col,dd,j0,j1,j2,j3,j5,lk,T2⟩:=E.X.toExcC.obj;refine⟨nm,q,N,bs,bm,hd,sn,sub,ab,col,dd,j0,j1,j2,j3,j5,_,lk,?_⟩;have h:=E.mi D;unfold PySem.W.mroIn clsIn at h;rw[lk] at h;exact di h
theorem jS{K:Frag}{mg:Str→aI}{x:Str}{C f R:Addr}(E:XI K mg x C f R):Under K C C:=by
 obtain⟨nm,q,N,bs,bm,hd,sn,sub,ab,col,dd,j0,j1,j2,j3,j5,i,lk,h⟩:=Yu E C;exact⟨nm,q,N,bs,bm,hd,sn,sub,ab,col,dd,j0,j1,j2,j3,j5,i,lk,by rw[h,aS rfl];rfl⟩
theorem cD{K:Frag}{mg:Str→aI}{x:Str}{C f R D:Addr}(E:XI K mg x C f R)(h1:D≠C)(h2:D≠R):Ew K C D:=by
 obtain⟨nm,q,N,bs,bm,hd,sn,sub,ab,col,dd,j0,j1,j2,j3,j5,i,lk,h⟩:=Yu E D;exact⟨nm,q,N,bs,bm,hd,sn,sub,ab,col,dd,j0,j1,j2,j3,j5,i,lk,by rw[h,br h1,br h2];rfl⟩
noncomputable def Og(A:m9):Prop:=([A.bH,A.oZ,A.fQ,A.fW,A.jI,A.fR,A.gb,A.fX,A.p_]:bP).Nodup
noncomputable def U9(A:m9):bP:=[A.bH,A.oZ,A.fQ,A.fW,A.jI,A.fR,A.gb,A.fX,A.p_]
theorem dS{A:m9}(df:Og A){x y:Addr}(i j:Nat)(h1:(U9 A)[i]? =some x)(h2:(U9 A)[j]? =some y)(hij:i≠j):x≠y:=fun z=>by
 subst z;have hi:=(dq.mp h1).1;exact hij ((List.getElem?_inj hi (show(U9 A).Nodup from df)).mp (h1.trans h2.symm))
noncomputable def Hi(A:m9)(f:Addr)(spL:Sp):Sp:=fun vs H Q _=>vs=[.ref f]∧∀t0,H t0=none→∀(Q' :VK) (E' :XK),(∀v H1,(∀t,H1 t=none→Q (.ref t) (upd H1 t (.tup [.str "program",v])))→Q' v H1)→
 (∀(r:Rf) dx H2,H2 dx=some (.xd [(r.fd,r.v)])→(∀t,H2 t=none→Q (.ref t) (upd H2 t (.tup [.str r.tag,r.v])))→E' (.ref (r.cls A)) (some dx) H2)→spL [] (upd H t0 (.tup [.str "other"])) Q' E'
theorem CM(T:Txt K mg A)(df:Og A){f:Addr}{Z6 Pj :FuncData}{spL:Sp}(Vg:aM P w K mg base (A8 P w) 20 f Z6 [] spL)(WI:∃oc od sl,base.get? f=some ⟨oc,od,.func Pj,sl⟩)(VE:Binds K Z6 [] []):
 aM P w K mg base cK 21 A.qc A.pd ["_law_call"] (Hi A f spL):=by
 refine T.k_.F.ok bS (fun vs H Q E h=> ?_) (fun cj Ar outer s0 H vs Q E hr h=> ?_)
 ·obtain⟨rfl,_⟩:=h;rfl
 ·obtain⟨rfl,q⟩:=h;refine⟨_,(ag (eU 1 bS.nd (a9 (aH aB))) (ag (OE (i:=2) rfl rfl bS.nd rfl rfl (.cons rfl T.EK.m T.EK.X.toExcC (by decide) (fun a=>(ai (eU 1 bS.nd (a9 (ae aB (aH (ix (K:=K) rfl (pv 2) rfl))))))) (.cons rfl T.f_.m T.f_.X.toExcC (by decide) (fun a=>(ai (eU 1 bS.nd (a9 (ae aB (aH (ix (K:=K) rfl (pv 2) rfl))))))) (.cons rfl T.eY.m T.eY.X.toExcC (by decide) (fun a=>(ai (eU 1 bS.nd (a9 (ae aB (aH (ix (K:=K) rfl (pv 2) rfl))))))) (.cons rfl T.hJ.m T.hJ.X.toExcC (by decide) (fun a=>(ai (eU 1 bS.nd (a9 (ae aB (aH (ix (K:=K) rfl (pv 2) rfl))))))) (.cons rfl T.dy.m T.dy.X.toExcC (by decide) (fun a=>(ai (eU 1 bS.nd (a9 (ae aB (aH (ix (K:=K) rfl (pv 2) rfl))))))) (.cons rfl T.cY.m T.cY.X.toExcC (by decide) (fun a=>(ai (eU 1 bS.nd (a9 (ae aB (aH (ix (K:=K) rfl (pv 2) rfl))))))) (.cons rfl T.cL.m T.cL.X.toExcC (by decide) (fun a=>(ai (eU 1 bS.nd (a9 (ae aB (aH (ix (K:=K) rfl (pv 2) rfl))))))) (.cons rfl T.Ec.m T.Ec.X.toExcC (by decide) (fun a=>(ai (eU 1 bS.nd (a9 (ae aB (aH (ix (K:=K) rfl (pv 2) rfl))))))) .nil)))))))) (fun E pn W hw=>(ai (eU 1 bS.nd (a9 (ae aB (aH (JB Vg WI hr VE (mQ hw trivial) (pv 0))))))))) (ai (aF (pv 1))))),?_⟩;refine⟨sS,fun t0 ht0=>⟨_,rfl,rfl,q t0 ht0 _ _ (fun v H1 h=>⟨fw,fun t ht=>⟨_,rfl,h t ht⟩⟩) fun r dx H2 hx h=> ?_⟩⟩;have JL:∀σ:L2.St,σ.length=3→∃x0 x1 x2,σ=[x0,x1,x2]:=bn3 fun a b c=>⟨a,b,c,rfl⟩
  cases r with
  |many z=>
   refine⟨_,_,rfl,(.inr ⟨cD T.f_ (dS df 1 2 rfl rfl (by decide)) (dS df 1 0 rfl rfl (by decide)),.inl ⟨jS T.f_,rfl⟩⟩),fun a σ ea hl=> ?_⟩;obtain⟨x0,x1,x2,rfl⟩:=JL σ hl;exact⟨_,rfl,a,_,dx,false,_,_,rfl,ea,hx,T.f_.g.toExcG,T.pT,rfl,fw,fun t ht=>⟨_,rfl,h t ht⟩⟩
  |deep z=>
   refine⟨_,_,rfl,(.inr ⟨cD T.eY (dS df 1 3 rfl rfl (by decide)) (dS df 1 0 rfl rfl (by decide)),.inr ⟨cD T.eY (dS df 2 3 rfl rfl (by decide)) (dS df 2 0 rfl rfl (by decide)),.inl ⟨jS T.eY,rfl⟩⟩⟩),fun a σ ea hl=> ?_⟩;obtain⟨x0,x1,x2,rfl⟩:=JL σ hl;exact⟨_,rfl,a,_,dx,false,_,_,rfl,ea,hx,T.eY.g.toExcG,T.oz,rfl,fw,fun t ht=>⟨_,rfl,h t ht⟩⟩
  |twice z=>
   refine⟨_,_,rfl,(.inr ⟨cD T.hJ (dS df 1 4 rfl rfl (by decide)) (dS df 1 0 rfl rfl (by decide)),.inr ⟨cD T.hJ (dS df 2 4 rfl rfl (by decide)) (dS df 2 0 rfl rfl (by decide)),.inr ⟨cD T.hJ (dS df 3 4 rfl rfl (by decide)) (dS df 3 0 rfl rfl (by decide)),.inl ⟨jS T.hJ,rfl⟩⟩⟩⟩),fun a σ ea hl=> ?_⟩;obtain⟨x0,x1,x2,rfl⟩:=JL σ hl;exact⟨_,rfl,a,_,dx,false,_,_,rfl,ea,hx,T.hJ.g.toExcG,T.rA,rfl,fw,fun t ht=>⟨_,rfl,h t ht⟩⟩
  |oy z=>
   refine⟨_,_,rfl,(.inr ⟨cD T.dy (dS df 1 5 rfl rfl (by decide)) (dS df 1 0 rfl rfl (by decide)),.inr ⟨cD T.dy (dS df 2 5 rfl rfl (by decide)) (dS df 2 0 rfl rfl (by decide)),.inr ⟨cD T.dy (dS df 3 5 rfl rfl (by decide)) (dS df 3 0 rfl rfl (by decide)),.inr ⟨cD T.dy (dS df 4 5 rfl rfl (by decide)) (dS df 4 0 rfl rfl (by decide)),.inl ⟨jS T.dy,rfl⟩⟩⟩⟩⟩),fun a σ ea hl=> ?_⟩;obtain⟨x0,x1,x2,rfl⟩:=JL σ hl;exact⟨_,rfl,a,_,dx,false,_,_,rfl,ea,hx,T.dy.g.toExcG,T.oH,rfl,fw,fun t ht=>⟨_,rfl,h t ht⟩⟩
  |wide z=>
   refine⟨_,_,rfl,(.inr ⟨cD T.cY (dS df 1 6 rfl rfl (by decide)) (dS df 1 0 rfl rfl (by decide)),.inr ⟨cD T.cY (dS df 2 6 rfl rfl (by decide)) (dS df 2 0 rfl rfl (by decide)),.inr ⟨cD T.cY (dS df 3 6 rfl rfl (by decide)) (dS df 3 0 rfl rfl (by decide)),.inr ⟨cD T.cY (dS df 4 6 rfl rfl (by decide)) (dS df 4 0 rfl rfl (by decide)),.inr ⟨cD T.cY (dS df 5 6 rfl rfl (by decide)) (dS df 5 0 rfl rfl (by decide)),.inl ⟨jS T.cY,rfl⟩⟩⟩⟩⟩⟩),fun a σ ea hl=> ?_⟩;obtain⟨x0,x1,x2,rfl⟩:=JL σ hl;exact⟨_,rfl,a,_,dx,false,_,_,rfl,ea,hx,T.cY.g.toExcG,T.pB,rfl,fw,fun t ht=>⟨_,rfl,h t ht⟩⟩
  |long z=>
   refine⟨_,_,rfl,(.inr ⟨cD T.cL (dS df 1 7 rfl rfl (by decide)) (dS df 1 0 rfl rfl (by decide)),.inr ⟨cD T.cL (dS df 2 7 rfl rfl (by decide)) (dS df 2 0 rfl rfl (by decide)),.inr ⟨cD T.cL (dS df 3 7 rfl rfl (by decide)) (dS df 3 0 rfl rfl (by decide)),.inr ⟨cD T.cL (dS df 4 7 rfl rfl (by decide)) (dS df 4 0 rfl rfl (by decide)),.inr ⟨cD T.cL (dS df 5 7 rfl rfl (by decide)) (dS df 5 0 rfl rfl (by decide)),.inr ⟨cD T.cL (dS df 6 7 rfl rfl (by decide)) (dS df 6 0 rfl rfl (by decide)),.inl ⟨jS T.cL,rfl⟩⟩⟩⟩⟩⟩⟩),fun a σ ea hl=> ?_⟩;obtain⟨x0,x1,x2,rfl⟩:=JL σ hl;exact⟨_,rfl,a,_,dx,false,_,_,rfl,ea,hx,T.cL.g.toExcG,T.pY,rfl,fw,fun t ht=>⟨_,rfl,h t ht⟩⟩
theorem J2{P:Program}{w:World}{K:Frag}{mg:Str→aI}{base:Heap}{N:ao}{qual:Str}{scope:Scope}{f:Addr}{cd:Value}{cl:List (Str×Addr)}{A:Around}{outer:List Env}{s:Shared}{H:Hp}{E:XK}:BB (HD (A8 P w) P w K mg base N qual scope f cd cl A outer s H E) E:=by
 intro pins σ H1 s1 a C dd n I ea fl q;exact BN I rfl rfl rfl ea fl q
noncomputable def GV(A:m9)(s:Ds)(H:Hp)(Q:Addr→Hp→Prop)(E:Rf→Addr→Hp→Prop):Prop:=match cq s with
 |none=>∀p tb ls H',H p=none→H tb=none→H ls=none→Kept A.au H H'→Tab H' A.au HC qI→iy A.ax H' p tb ls s→Q p H'
 |some r=>∀dx H2,Kept A.au H H2→Tab H2 A.au HC qI→H2 dx=some (.xd [(r.fd,r.v)])→E r dx H2
noncomputable def G_(A:m9)(c:Addr)(qn:Str)(v:V):Sp:=fun vs H Q E=>∃t s,vs=[]∧H c=some (.ext (g9 c qn))∧Dat H v (gg t (sL s))∧gw s∧cM s<9∧cQ s≤1000∧Tab H A.au HC qI∧GV A s H (fun p H' =>Q (.ref p) H') (fun r dx H2=>E (.ref (r.cls A)) (some dx) H2)
theorem PU(T:Txt K mg A)(Fm:rT P w K A fm){f c' :Addr}{name qual:Str}{params:Arguments}{scope:Scope}{pm ct oc:Value}{od:Option Addr}{xI:Array (aI)}{p1 p2 p3:Pos}{cl:List (Str×Addr)}{v:V}
 (lk:base.get? f=some ⟨oc,od,.func (kla_fn name qual params (.Call (.Name "Program" p1) [.Name "_law_deeds_here" p2] [] p3) scope cl pm (.ref c') ct),xI⟩) (S:qK [] ["_law_deeds_here"] scope) (C:zy base cl ["_law_deeds_here"] [v]) (hg:scope.names.lookup ("Program" :Str)=some NameKind.globalImplicit):aM P w K mg base (A8 P w) 20 f (kla_fn name qual params (.Call (.Name "Program" p1) [.Name "_law_deeds_here" p2] [] p3) scope cl pm (.ref c') ct) [] (G_ A c' qual v):=by
 have F:aM P w K mg base (A8 P w) 18 A.bX A.bZ ["self","deeds"] (nY A qI):=aM.IB (fun vs H Q E ⟨p,dx,v,t,s,e,_⟩=>by rw[e];rfl) fun tp=>jw T Fm tp;refine MQ lk S C (fun vs H Q E ⟨t,s,e,_⟩=>by rw[e];rfl) (fun vs H Q E h ⟨t,s,e,hc,_⟩ ok _=>g9.rec ok hc) fun Ar outer s0 H vs Q E hr ⟨t,s,e,hc,hd,ok,dp,hm,tab,q⟩=> ?_;subst e;refine⟨_,yo T.qt F hr ?_ T.qq T.c7.b .nil (mQ J2 trivial) (aH (pv 0 (hv:= .inr (.inr (S.fre "_law_deeds_here" (by simp)))))),?_⟩
 ·exact hg
 ·refine⟨_,rfl,fun x dx hx FE mq=> ?_⟩;have s1:=aj.upd (o:= .own x) FE;have Vm:upd H dx (.own x) x=none:=by rw[av mq.symm];exact hx
  have s2:=s1.trans (aj.upd (o:= .ins A.ax dx []) Vm);refine⟨x,dx,v,t,s,rfl,aa,hd.same s2,ok,dp,hm,tab.same s2,?_⟩;have kk:∀{H'},gT x A.au (upd (upd H dx (.own x)) x (.ins A.ax dx [])) H'→Kept A.au H H' :=fun k b o hb e=>k b o (aw e hx) hb (s2 _ _ e);unfold GV at q
  cases er:cq s with
  |none=>
   rw[er] at q;exact fun tb ls H' h1 h2 k P0 pr=>⟨rfl,q x tb ls H' hx (s2.free h1) (s2.free h2) (kk k) P0 pr⟩
  |some r=>
   rw[er] at q;exact fun NS H2 k P0 e=>q NS H2 (kk k) P0 e
theorem Tab.adV{P:Addr}{lp:Pos}{q:Str}{sp:Addr→Addr→ak→Sp}{E:XK}{H:Hp}{Q:VK}{σ:L2.St}{j:Nat}{v:V}(T:Tab H P lp q)(hj:σ[j]? =some (some v))
 (h:∀f c' H1,H f=none→H1 f=none→Kept P H H1→Tab H1 P lp q→H1 c' =some (.ext (g9 c' q))→sp f c' [v] [.ref f] H1 Q E):Hh P lp q sp E [j] [] uG σ H Q:=by
 obtain⟨ps,e,tr,r⟩:=T;refine⟨ps,[v],e,tr,rfl,(fun i j' v' e1 e2=> ?_),?_⟩
 ·cases i with
  |zero=>
   cases e1;cases e2;exact hj
  |succ i=>cases e1
 rcases r with r|⟨c,r1,r2⟩
 ·refine .inl ⟨r,fun f c' hf hc hfc=> ?_⟩;have ncP:c'≠P:=(aw e hc).symm;have nfP:f≠P:=(aw e hf).symm;refine h f c' _ hf ?_ (fun b o hb eb=> ?_) ⟨_,(by rw[av ncP.symm];exact aa),?_,.inr ⟨c',?_,aa⟩⟩ aa
  ·rw[av hfc,av nfP];exact hf
  ·rw[av (aw eb hc),av hb];exact eb
  ·have:(ps++ #[rawInt lp.line,rawInt lp.col,.ref c']).toList=ps.toList++[rawInt lp.line,rawInt lp.col,.ref c']:=by simp
   rw[this];exact TriplesOk_snoc _ _ _ _ tr
  ·have:(ps++ #[rawInt lp.line,rawInt lp.col,.ref c']).toList=ps.toList++[rawInt lp.line,rawInt lp.col,.ref c']:=by simp
   rw[this];exact codeAmong_snoc _ tr r
 ·exact .inr ⟨c,r1,r2,fun f hf=>h f c H hf hf (Kept.refl _ _) ⟨ps,e,tr,.inr ⟨c,r1,r2⟩⟩ r2⟩
noncomputable def Xk:Pos:=⟨411,21,411,53⟩
noncomputable def qP:Str:="_law_program" ++ ".<locals>." ++ "<lambda>"
theorem Tab.kept{H H' :Hp}{P P' :Addr}{lp:Pos}{q:Str}{ps:Array Value}(t:Tab H P lp q)(k:Kept P' H H')(hP:P≠P')(e:H P' =some (.wz ps)):Tab H' P lp q:=by
 obtain⟨Jc,e1,tr,r⟩:=t;refine⟨Jc,k _ _ hP e1,tr,?_⟩;rcases r with r|⟨c,r1,r2⟩
 ·exact .inl r
 ·exact .inr ⟨c,r1,k _ _ (bW r2 e (fun z=>nomatch z)) r2⟩
theorem acn{sc:Scope}(h1:sc.kind= .function)(h2:sc.isCoroutine=false)(h3:sc.isGenerator=false)(h:sc.names=[(("_law_deeds_here" :Str),NameKind.free),(("Program" :Str),NameKind.globalImplicit)]):qK [] ["_law_deeds_here"] sc:=by
 refine⟨h1,h2,h3,by decide+kernel,(fun _ h=>nomatch h),?_,?_,?_⟩
 ·rw[h];decide+kernel
 ·rw[h];decide+kernel
 ·rw[h];intro x hx;have hm:=vW hx;rcases aU.mp hm with z|hm
  ·cases z;exact e_
  ·rcases aU.mp hm with z|hm
   ·cases z
   ·cases hm
theorem YD{base:Heap}{cl:List (Str×Addr)}{x:Str}{jD:ak}(C:zy base cl [x] jD):∃v,jD=[v]:=by
 exact bn1 (P:=fun jD=>∃v,jD=[v]) (fun v=>⟨v,rfl⟩) jD C.len
theorem XJ(T:Txt K mg A)(Fm:rT P w K A fm)(df:Og A){gs :Heap}{f c' :Addr}{name qual:Str}{scope:Scope}{pm ct oc:Value}{od:Option Addr}{xI:Array (aI)}{p1 p2 p3:Pos}{cl:List (Str×Addr)}{jD:ak}
 (lk:gs.get? f=some ⟨oc,od,.func (kla_fn name qual {posonlyargs:=[],args:=[],vararg:=none,kwonlyargs:=[],kw_defaults:=[],kwarg:=none,defaults:=[]} (.Call (.Name "Program" p1) [.Name "_law_deeds_here" p2] [] p3) scope cl pm (.ref c') ct),xI⟩)
 (C:zy gs cl ["_law_deeds_here"] jD) (h1:scope.kind= .function:=by rfl) (h2:scope.isCoroutine=false:=by rfl) (h3:scope.isGenerator=false:=by rfl) (h:scope.names=[(("_law_deeds_here" :Str),NameKind.free),(("Program" :Str),NameKind.globalImplicit)]:=by rfl):
 aM P w K mg gs cK 21 A.qc A.pd ["_law_call"] (Hi A f (G_ A c' qual (jD.getD 0 .bx))):=by
 obtain⟨v,rfl⟩:=YD C;refine CM T df (PU T Fm lk (acn h1 h2 h3 h) C (by rw[h];decide+kernel)) ⟨_,_,_,lk⟩ (Binds.all (bn0 rfl))
noncomputable def vJ(A:m9):Sp:=fun vs H Q _=>∃v t s,vs=[v]∧Dat H v (gg t (sL s))∧gw s∧cM s<9∧cQ s≤1000∧A.aY≠A.au∧Tab H A.aY Xk qP∧Tab H A.au HC qI∧
 ∀tt H',H tt=none→(∀b o,b≠A.aY→b≠A.au→H b=some o→H' b=some o)→Tab H' A.aY Xk qP→Tab H' A.au HC qI→
  (match cq s with
   |none=>∃p tb ls,H p=none∧H tb=none∧H ls=none∧iy A.ax H' p tb ls s∧H' tt=some (.tup [.str "program",.ref p])
   |some r=>H' tt=some (.tup [.str r.tag,r.v]))→Q (.ref tt) H'
theorem oo(T:Txt K mg A)(Fm:rT P w K A fm)(df:Og A)(tp:K.In base):aM P w K mg base cK 22 A.dZ A.dh ["_law_deeds_here"] (vJ A):=by
 refine T.j_.F.okC xV (fun Ar outer s0 H vs Q E hr h=> ?_) (fun vs H Q E h=> ?_)
 ·obtain⟨v,t,s,rfl,hd,ok,dp,hm,mq,Z8,Mg,q⟩:=h;have bnv:Vals ([]:ak) []:= .nil;have bnd:=T.k_.b;obtain⟨c0,ct⟩:=T.xM.tab (X:=kP cK P w K mg base ["_law_deeds_here"] "_law_program" (aq g7) A.dZ A.dh.code Ar outer s0 H E) tp rfl;have bm:=T.bm.mod (X:=kP cK P w K mg base ["_law_deeds_here"] "_law_program" (aq g7) A.dZ A.dh.code Ar outer s0 H E) tp;refine⟨_,(ai (aF (Pq ct bm (show s_ _ _ _ ["_law_deeds_here"] [0] from⟨rfl,rfl,(fun i j x e1 e2=>by rcases i with _|i<;>cases e1<;>cases e2<;>rfl),(fun x hx=>by rw[hV.mp hx];rfl),(fun _ _=>rfl),(fun x hx=>by rw[hV.mp hx];rfl),(fun x c h=>by rcases aU.mp (vW h) with z|z<;>cases z;exact e_)⟩) (fun gs f c' vF jD lk cp=>XJ T Fm df lk cp) hr rfl T.k_.m T.k_.F.kp bnd bnv az))),?_⟩;show Hh A.aY Xk qP (fun f c' jD=>Hi A f (G_ A c' qP (jD.getD 0 .bx))) E0 [0] [] uG (L2.start ["_law_deeds_here"] [v]) H Q;refine Tab.adV Z8 rfl fun f c' H1 hf hf1 k1 t1 hc1=>⟨rfl,fun t0 ht0 Q' E' hq he=> ?_⟩;have u0:=aj.upd (o:= .tup [V.str "other"]) ht0;obtain⟨ps1,eP1,_⟩:=id Z8;obtain⟨Zi,eP2,_⟩:=id Mg;have EE:Dat H1 v (gg t (sL s)):=we (fun c xs e=>k1 _ _ (bW e eP1 (fun z=>nomatch z)) e) (fun c xs e=>k1 _ _ (bW e eP1 (fun z=>nomatch z)) e) hd;have tabI:=(Mg.kept k1 mq.symm eP1).same u0;have aaa:=t1.same u0;have kH:Kept A.aY H (upd H1 t0 (.tup [V.str "other"])):=fun b o hb e=>u0 _ _ (k1 _ _ hb e);obtain⟨ps3,eP3,_⟩:=id tabI
  have fin:∀(H' :Hp) (tt:Addr) (o:HO),Kept A.au (upd H1 t0 (.tup [V.str "other"])) H'→Tab H' A.au HC qI→H' tt=none→H tt=none∧(∀b o',b≠A.aY→b≠A.au→H b=some o'→upd H' tt o b=some o')∧Tab (upd H' tt o) A.aY Xk qP∧Tab (upd H' tt o) A.au HC qI:=fun H' tt o k tb sF=>by
   have tP:=aaa.kept k mq eP3;have u:=aj.upd (o:=o) sF;refine⟨?_,fun b o' h1 h2 e=>u _ _ (k _ _ h2 (kH _ _ h1 e)),tP.same u,tb.same u⟩
   cases e:H tt with
   |none=>rfl
   |some o' =>
    by_cases h1:tt=A.aY
    ·obtain⟨_,e',_⟩:=tP;rw[←h1,sF] at e';cases e'
    ·by_cases h2:tt=A.au
     ·obtain⟨_,e',_⟩:=tb;rw[←h2,sF] at e';cases e'
     ·rw[k _ _ h2 (kH _ _ h1 e)] at sF;cases sF
  have back:∀c,upd H1 t0 (.tup [V.str "other"]) c=none→H c=none:=fun c h=>by
   cases e:H c with
   |none=>rfl
   |some o' =>
    by_cases h1:c=A.aY
    ·obtain⟨_,e',_⟩:=aaa;rw[←h1,h] at e';cases e'
    ·rw[kH _ _ h1 e] at h;cases h
  refine⟨t,s,rfl,u0 _ _ hc1,EE.same u0,ok,dp,hm,tabI,?_⟩;unfold GV
  cases er:cq s with
  |none=>
   rw[er] at q;intro p tb ls H' hp Eu OK k P0 pr;refine hq _ _ fun tt sF=> ?_;obtain⟨f1,f2,f3,f4⟩:=fin H' tt (.tup [.str "program",.ref p]) k P0 sF;obtain⟨dx,ho⟩:=pr.ob;obtain⟨zs,hz,_⟩:=id pr.rows;exact q tt _ f1 f2 f3 f4 ⟨p,tb,ls,back _ hp,back _ Eu,back _ OK,pr.kt (KT.same (aj.upd sF)) (av (aw ho sF)) (av (aw hz sF)),aa⟩
  |some r=>
   rw[er] at q;intro dx H2 k P0 e;refine he r dx H2 e fun tt sF=> ?_;obtain⟨f1,f2,f3,f4⟩:=fin H2 tt (.tup [.str r.tag,r.v]) k P0 sF;exact q tt _ f1 f2 f3 f4 aa
 ·obtain⟨v,t,s,rfl,_⟩:=h;rfl
mutual
noncomputable def HX:Dd→Dd
 | .mk w ps bs=> .mk w ps (Kr bs)
noncomputable def xQ:Ds→Ds
 | .nil=> .nil
 | .cons d r=> .cons (HX d) (xQ r)
noncomputable def Kr:Bs→Bs
 | .nil=> .nil
 | .cons _ b r=> .cons false (xQ b) (Kr r)
end
theorem RT:∀s:Ds,(xQ s).l=s.l.map HX
 | .nil=>by rw[xQ];rfl
 | .cons d r=>by rw[xQ];show HX d::(xQ r).l=_;rw[RT r];rfl
theorem NL:∀b:Bs,(Kr b).l=b.l.map fun p=>(false,xQ p.2)
 | .nil=>by rw[Kr];rfl
 | .cons t b r=>by rw[Kr];show(false,xQ b)::(Kr r).l=_;rw[NL r];rfl
theorem Vn(d:Dd):dD (HX d)= .tuple (.str d.wd::(d.ps++d.bs.l.map fun p=> .list (sL (xQ p.2)))):=by
 cases d with
 |mk w ps bs=>
  rw[HX,dD,zc,NL,iL];rfl
theorem Ny(s:Ds):sL (xQ s)=s.l.map fun d=>dD (HX d):=by rw[Cr,RT,iL];rfl
mutual
theorem U4:∀d:Dd,lP (HX d)=lP d
 | .mk w ps bs=>by rw[HX,lP,lP,NO bs]
theorem zj:∀s:Ds,gU (xQ s)=gU s
 | .nil=>by rw[xQ]
 | .cons d r=>by rw[xQ,gU,gU,U4 d,zj r]
theorem NO:∀b:Bs,qZ (Kr b)=qZ b
 | .nil=>by rw[Kr]
 | .cons t b r=>by rw[Kr,qZ,qZ,zj b,NO r]
end
mutual
theorem L5:∀d:Dd,ip d→ip (HX d)
 | .mk w ps bs,h=>by
  rw[ip] at h;rw[HX,ip];obtain⟨⟨ks,f,fit⟩,hb⟩:=h;exact⟨⟨ks,by rw[NL,aK];exact f,fit⟩,Nk bs hb⟩
theorem CG:∀s:Ds,gw s→gw (xQ s)
 | .nil,h=>by rw[xQ,gw];exact True.intro
 | .cons d r,h=>by
  rw[gw] at h;rw[xQ,gw];exact⟨L5 d h.1,CG r h.2⟩
theorem Nk:∀b:Bs,mw b→mw (Kr b)
 | .nil,h=>by rw[Kr,mw];exact True.intro
 | .cons t b r,h=>by
  rw[mw] at h;rw[Kr,mw];exact⟨CG b h.1,Nk r h.2⟩
end
theorem ad_(s:Ds):cM (xQ s)=cM s∧cQ (xQ s)=cQ s:=by
 obtain⟨h1,h2,_⟩:=AJ s;obtain⟨g1,g2,_⟩:=AJ (xQ s);rw[zj] at g1 g2;exact⟨g1.symm.trans h1,g2.symm.trans h2⟩
theorem AG(s:Ds):cq (gU s)=cq s:=by
 obtain⟨h1,h2,h3,h4⟩:=AJ s;unfold cq jy sO;rw[Io,h1,h2,h3,h4]
theorem Lh(s:Ds):cq (xQ s)=cq s:=by rw[←AG (xQ s),zj,AG]
theorem Lk{s s' :Ds}(h:gU s' =gU s)(ar:ao):(fA s' ar).map Jr=(fA s ar).map Jr:=by rw[←sN,←sN,h]
theorem iy.alike{C:Addr}{H:Hp}{p tb ls:Addr}{s s' :Ds}(pr:iy C H p tb ls s')(h:gU s' =gU s):iy C H p tb ls s:=by
 obtain⟨ob,b,zs,e1,e2,e3⟩:=pr;have al:=Lk h ["ground"]
 have ll:(fA s' ["ground"]).length=(fA s ["ground"]).length:=by
  have:=congrArg List.length al;rw[aK,aK] at this;exact this
 refine⟨ob,by rw[←h];exact b,zs,e1,e2.trans ll,fun i v ev=> ?_⟩;obtain⟨r,er,t,x,u,f1,f2,f3,f4⟩:=e3 i v ev;have g:((fA s ["ground"]).map Jr)[i]? =some (Jr r):=by rw[←al,bj,er];rfl
 rw[bj] at g
 cases eg:(fA s ["ground"])[i]? with
 |none=>rw[eg] at g;cases g
 |some r' =>
  rw[eg] at g;have g:Jr r' =Jr r:=di g;have g1:lP r'.1=lP r.1:=congrArg Prod.fst g;have g2:r'.2=r.2:=show(Jr r').2=(Jr r).2 by rw[g]
  exact⟨r',rfl,t,x,u,f1,f2,by rw[g1];exact f3,by rw[g2];exact f4⟩
mutual
inductive Ku (H:Hp):Dd→V→(Addr→Prop)→Prop
 |mk {w:Str} {ps:List PyData} {bs:Bs} {a:Addr} {xs ys:ak} {N:Addr→Prop} (e:H a=some (.tup (.str w::(xs++ys)))) (hx:bo H xs ps) (hb:tF H bs.l ys N):Ku H (.mk w ps bs) (.ref a) N
inductive oP (H:Hp):List Dd→ak→(Addr→Prop)→Prop
 |nil {N:Addr→Prop}:oP H [] [] N
 |cons {d:Dd} {r:List Dd} {v:V} {vs:ak} {N1 N2 N:Addr→Prop} (hd:Ku H d v N1) (hr:oP H r vs N2) (dj:∀c,N1 c→N2 c→False) (i1:∀c,N1 c→N c) (i2:∀c,N2 c→N c):oP H (d::r) (v::vs) N
inductive tF (H:Hp):List (Bool×Ds)→ak→(Addr→Prop)→Prop
 |nil {N:Addr→Prop}:tF H [] [] N
 |cons {t:Bool} {b:Ds} {r:List (Bool×Ds)} {a:Addr} {zs ys:ak} {N1 N2 N:Addr→Prop} (e:H a=some (.lst zs)) (hs:oP H b.l zs N1) (hr:tF H r ys N2) (na:¬N1 a) (nb:¬N2 a) (ia:N a) (dj:∀c,N1 c→N2 c→False) (i1:∀c,N1 c→N c) (i2:∀c,N2 c→N c):tF H ((t,b)::r) (.ref a::ys) N
end
noncomputable def KN(N:Addr→Prop)(H H' :Hp):Prop:=∀c xs,N c→H c=some (.lst xs)→H' c=some (.lst xs)
mutual
theorem Ku.kt{H H' :Hp}(k:KT H H'):∀{d:Dd} {v:V} {N:Addr→Prop},Ku H d v N→KN N H H'→Ku H' d v N
 |_,_,_,.mk e hx hb,n=> .mk (k _ _ e) (hx.kt k) (tF.kt k hb n)
theorem oP.kt{H H' :Hp}(k:KT H H'):∀{l:List Dd} {vs:ak} {N:Addr→Prop},oP H l vs N→KN N H H'→oP H' l vs N
 |_,_,_,.nil,n=> .nil
 |_,_,_,.cons hd hr dj i1 i2,n=> .cons (Ku.kt k hd fun c xs h=>n c xs (i1 c h)) (oP.kt k hr fun c xs h=>n c xs (i2 c h)) dj i1 i2
theorem tF.kt{H H' :Hp}(k:KT H H'):∀{l:List (Bool×Ds)} {vs:ak} {N:Addr→Prop},tF H l vs N→KN N H H'→tF H' l vs N
 |_,_,_,.nil,n=> .nil
 |_,_,_,.cons e hs hr na nb ia dj i1 i2,n=> .cons (n _ _ ia e) (oP.kt k hs fun c xs h=>n c xs (i1 c h)) (tF.kt k hr fun c xs h=>n c xs (i2 c h)) na nb ia dj i1 i2
end
theorem oP.imp{H:Hp}{l:List Dd}{vs:ak}{N N' :Addr→Prop}(h:oP H l vs N)(i:∀c,N c→N' c):oP H l vs N' :=by
 cases h with
 |nil=>exact .nil
 |cons hd hr dj i1 i2=>exact .cons hd hr dj (fun c h=>i c (i1 c h)) (fun c h=>i c (i2 c h))
theorem tF.imp{H:Hp}{l:List (Bool×Ds)}{vs:ak}{N N' :Addr→Prop}(h:tF H l vs N)(i:∀c,N c→N' c):tF H l vs N' :=by
 cases h with
 |nil=>exact .nil
 |cons e hs hr na nb ia dj i1 i2=>exact .cons e hs hr na nb (i _ ia) dj (fun c h=>i c (i1 c h)) (fun c h=>i c (i2 c h))
theorem oP.snoc{H:Hp}{d:Dd}{v:V}{N' :Addr→Prop}(g:Ku H d v N'):∀{l:List Dd} {vs:ak} {N:Addr→Prop},oP H l vs N→(∀c,N c→N' c→False)→oP H (l++[d]) (vs++[v]) (fun c=>N c∨N' c)
 |[],_,_,.nil,dj=> .cons (N2:=fun _=>False) g .nil (fun _ _ h=>h) (fun _ h=> .inr h) (fun _ h=>h.elim)
 |_::_,_,_,.cons hd hr dj i1 i2,Xj => .cons hd (oP.snoc g hr fun c h=>Xj c (i2 c h)) (fun c h h' =>h'.elim (dj c h) (Xj c (i1 c h))) (fun c h=> .inl (i1 c h)) (fun c h=>h.imp (i2 c) id)
theorem tF.snoc{H:Hp}{t:Bool}{b:Ds}{a:Addr}{zs:ak}{N' :Addr→Prop}(e:H a=some (.lst zs))(g:oP H b.l zs N')(na:¬N' a):∀{l:List (Bool×Ds)} {vs:ak} {N:Addr→Prop},tF H l vs N→¬N a→(∀c,N c→N' c→False)→tF H (l++[(t,b)]) (vs++[.ref a]) (fun c=>N c∨N' c∨c=a)
 |[],_,_,.nil,nb,dj=> .cons (N2:=fun _=>False) e g .nil na id (.inr (.inr rfl)) (fun _ _ h=>h) (fun _ h=> .inr (.inl h)) (fun _ h=>h.elim)
 |_::_,_,_,.cons e' hs hr na' nb' ia dj i1 i2,nb,Xj => .cons e' hs (tF.snoc e g na hr (fun h=>nb (i2 _ h)) fun c h=>Xj c (i2 c h)) na' (fun h=>h.elim nb' fun h=>h.elim (Xj _ ia) fun h=>nb (h▸ia)) (.inl ia) (fun c h h' =>h'.elim (dj c h) fun h' =>h'.elim (Xj c (i1 c h)) fun h' =>nb (h'▸i1 c h)) (fun c h=> .inl (i1 c h)) (fun c h=>h.elim (fun h=> .inl (i2 c h)) .inr)
mutual
theorem Ku.dat{H:Hp}:∀{d:Dd} {v:V} {N:Addr→Prop},Ku H d v N→Dat H v (dD (HX d))
 | .mk w ps bs,_,_,.mk e hx hb=>by
  rw[Vn];exact .tup e (.cons (.str _) (nA hx.dat (tF.dat hb)))
theorem oP.dat{H:Hp}:∀{l:List Dd} {vs:ak} {N:Addr→Prop},oP H l vs N→DatAll H vs (l.map fun d=>dD (HX d))
 |_,_,_,.nil=> .nil
 |_,_,_,.cons hd hr _ _ _=> .cons (Ku.dat hd) (oP.dat hr)
theorem tF.dat{H:Hp}:∀{l:List (Bool×Ds)} {vs:ak} {N:Addr→Prop},tF H l vs N→DatAll H vs (l.map fun p=> .list (sL (xQ p.2)))
 |_,_,_,.nil=> .nil
 |_,_,_,.cons (b:=b) e hs hr _ _ _ _ _ _=> .cons (.lst e (by rw[Ny];exact oP.dat hs)) (tF.dat hr)
end
theorem Cw{H:Hp}:∀{l:List (Bool×Ds)} {vs:ak} {N:Addr→Prop},tF H l vs N→vs.length=l.length
 |_,_,_,.nil=>rfl
 |_,_,_,.cons _ _ hr _ _ _ _ _ _=>by rw[aW,aW,Cw hr]
theorem Df{H:Hp}:∀{l:List Dd} {vs:ak} {N:Addr→Prop},oP H l vs N→vs.length=l.length
 |_,_,_,.nil=>rfl
 |_,_,_,.cons _ hr _ _ _=>by rw[aW,aW,Df hr]
noncomputable def pL(H H' :Hp)(l c:Addr):Prop:=H c=none∧c≠l∧H' c≠none
theorem DP{H H' :Hp}(s:aj H H'){c:Addr}(h:H c≠none):H' c≠none:=by
 cases e:H c with
 |none=>exact absurd e h
 |some o=>rw[s _ _ e];exact fun z=>nomatch z
theorem KN.same{N:Addr→Prop}{H H' :Hp}(s:aj H H'):KN N H H' :=fun c xs _ e=>s _ _ e
theorem KN.upd{N:Addr→Prop}{H:Hp}{p:Addr}{o:HO}(h:¬N p):KN N H (upd H p o):=fun c xs n e=>by
 rw[av (fun z:c=p=>h (z▸n))];exact e
theorem pL.ne{H H' :Hp}{l c p:Addr}{o:HO}(h:pL H H' l c)(e:H p=some o):c≠p:=fun z=>by
 have:=h.1;rw[z,e] at this;cases this
theorem Ob{J:It}{k:Nat}{js:List Nat}{Y:Nat→V→Hp→Prop}{g:TG}{te:TE}{σ:L2.St}{H:Hp}{Q:VK}{bs:List (Bool×Ds)}(F:zY J H bs.length Y)(hlen:bs.length≤sizeLine)
 (gu:∀(i:Nat) (x:V) (H' :Hp) (C1:V→Hp→Prop) (p:Bool×Ds),bs[i]? =some p→aj H H'→Y i x H'→
  (∀a zs fP,H' a=none→aj H' fP→fP a=some (.lst zs)→oP fP p.2.l zs (pL H' fP a)→C1 (.ref a) fP)→
  g x (xY k js σ) H' fun lU H2=>fz (xY k js σ) lU∧te lU H2 C1)
 (hq:∀p H' ys,H p=none→aj H H'→H' p=some (.lst ys)→tF H' bs ys (pL H H' p)→Q (.ref p) H'):
 mF J k js g UL te σ H Q:=by
 intro p hp;refine⟨fun i m ys H' =>m=bs.length - i∧i≤bs.length∧H' p=some (.lst ys)∧aj H H'∧tF H' (bs.take i) ys (pL H H' p),⟨bs.length,rfl,cN _,aa,aj.upd hp,.nil⟩,?_⟩
 rintro i m ys H' ⟨rfl,hi,hl,hs,hO⟩
 refine⟨hl,?_⟩;by_cases iU:i<bs.length
 ·refine .inr ⟨F.go i _ hs iU,?_,fun x fP zg=> ?_⟩
  ·have:=Cw hO;rw[gG] at this
   lia
  obtain⟨s1,y1⟩:=F.yO i _ x fP hs iU zg;have eb:bs[i]? =some bs[i]:=by simp[iU]
  refine gu i x fP _ bs[i] eb (hs.trans s1) y1 fun a zs H3 ha s3 e3 o3=> ?_;have D0:fP p=some (.lst ys):=s1 _ _ hl;have Cq:H3 p=some (.lst ys):=s3 _ _ D0;have nap:a≠p:=(aw D0 ha).symm;have k4:KT H3 (upd H3 p (.lst (ys++[.ref a]))):=KT.upd Cq;refine⟨Cq,bs.length - (i+1),by lia,rfl,iU,aa,fun c o e=> ?_,?_⟩
  ·rw[av (aw e hp)];exact s3 _ _ (s1 _ _ (hs _ _ e))
  ·rw[wv eb];have O1:tF (upd H3 p (.lst (ys++[.ref a]))) (bs.take i) ys (pL H H' p):=(hO.kt (KT.same (s1.trans s3)) (KN.same (s1.trans s3))).kt k4 (KN.upd fun z=>z.2.1 rfl);have O2:oP (upd H3 p (.lst (ys++[.ref a]))) bs[i].2.l zs (pL fP H3 a):=o3.kt k4 (KN.upd fun z=>z.ne D0 rfl);have O3:=tF.snoc (t:=bs[i].1) (b:=bs[i].2) (by rw[av nap];exact e3) O2 (fun z=>z.2.1 rfl) O1 (fun z=>z.2.2 (s1.free ha)) (fun c h h' =>h.2.2 (s1.free h'.1));refine O3.imp fun c h=> ?_
   have ne:∀c,c≠p→H3 c≠none→upd H3 p (.lst (ys++[.ref a])) c≠none:=fun c h1 h2=>by
    rw[av h1];exact h2
   rcases h with h|h|rfl
   ·exact⟨h.1,h.2.1,ne c h.2.1 (DP (s1.trans s3) h.2.2)⟩
   ·have h1:c≠p:=h.ne D0;exact⟨(hs.trans s1).free h.1,h1,ne c h1 h.2.2⟩
   ·exact⟨(hs.trans s1).free ha,nap,ne c nap (by rw[e3];exact fun z=>nomatch z)⟩
 ·have e:i=bs.length:=by lia
  subst e;rw[fK] at hO;exact .inl ⟨F.stop _ _ hs (aG _),hq p H' ys hp hs hl hO⟩
noncomputable def Ox(n:Nat):Sp:=fun vs H Q _=>∃H0 v t s,vs=[v]∧aj H0 H∧Dat H0 v (gg t (sL s))∧gw s∧cM s<n∧cQ s≤1000∧∀l zs H',H l=none→aj H H'→H' l=some (.lst zs)→oP H' s.l zs (pL H H' l)→Q (.ref l) H'
theorem md(T:Txt K mg A)(n:Nat):aM P w K mg base cK (1+n) A.uY A.uX ["_law_body_here"] (Ox n):=by
 induction n with
 |zero=>exact d_ (by rintro vs H Q E ⟨H0,v,t,s,_,_,_,_,h,_⟩;exact g8 _ h)
 |succ n ih=>
 show aM P w K mg base cK ((1+n)+1) _ _ _ _;refine T.ib.F.ok iW (fun vs H Q E h=> ?_) (fun cj Ar outer s0 H vs Q E hr h=> ?_)
 ·obtain⟨H0,v,t,s,rfl,_⟩:=h;rfl
 ·obtain⟨H0,v,t,s,rfl,ju,hd,ok,dp,hm,q⟩:=h;obtain⟨a,vs,rfl,ha,hA⟩:=fT hd;have sl:=Ka s;have vl:=rB hA;have Hr:(1000:Nat)<sizeLine:=by decide
  refine⟨_,(ag (eU 1 iW.nd (bg dr)) (ag (vI (pV (pv 0)) (fO 2 iW.nd) (ag (F8 3 iW.nd ["_law_one"] 1 [] (wj (cn (fF T) hr T.dR az (aH (pv 2)) (hj:=by lia))) (fun _ _ _ _ _=>⟨(fO 0 (show(["_law_one"]:ao).Nodup by decide+kernel)),uS,(cn ih hr T.ib az (aH (pv 0)) (hj:=by lia))⟩)) (ai (bf (jg eO PySem.F.slot_list_append PySem.F.type_list_append cI (pv 1) (aH (aO DX (c5 HU (pv 2) gA (cE (aO jV (h8 aZ T.gi Boot.«len» (aH (pv 2))) (h8 aZ T.gi Boot.«len» (aH (pv 3)))))) (K1 dQ T.jP Boot.«tuple» (aH (pv 3)))))))))) (ai (aF (pv 1))))),?_⟩;refine⟨mI,fun fl kW=>⟨_,rfl,a,t,rfl,MD (aj.upd kW _ _ (ju _ _ ha)),?_⟩⟩;refine ng (K:=K) (t:=t) (a:=a) (xs:=vs) (fun j σ H' =>∃(x2 x3:Option V) (ws:ak),σ=[some (.ref a),some (.ref fl),x2,x3]∧aj H H'∧H' fl=some (.lst ws)∧oP H' (s.l.take j) ws (pL H H' fl)) ⟨_,_,[],rfl,aj.upd kW,aa,.nil⟩ (by rintro j σ H' _ ⟨_,_,_,_,sm,_⟩;exact sm _ _ (ju _ _ ha)) ?_ ?_
  ·rintro j x σ H' hx ⟨x2,x3,ws,rfl,sm,kj,tw⟩
   obtain⟨d,ed,k9⟩:=h9 hA hx;have dm:=bJ ed;have gq:=eE ok d dm;have Hm:=eT d dm;have NX:=ie d dm;have wl:=Df tw;rw[gG] at wl;have hj:=(dq.mp hx).1;obtain⟨b,ks,xs,C8,rfl,p0⟩:=cG k9 gq;have Zh:=p0.lx;have h4:=dz p0.f;rw[ba,gN] at h4;have P9:=iF p0.hy;refine⟨_,rfl,H0,_,d,rfl,ju.trans sm,k9,gq,fun t1 ys H1 wg s1 hz hB=>⟨t1,rfl,⟨_,bc.of hz⟩,?_⟩⟩;have bl:=iF hB;have fg:=(qG (K:=K) (bc.of hz)).g;rw[bl] at fg;refine Ob (bs:=d.bs.l) fg (aR (show d.bs.l.length≤1000 by lia) (bO Hr)) ?_ fun il H2 wi hil s2 qV owi=> ?_
   ·intro i y H3 C1 pp ep s3 hy c1;obtain⟨pp',Xc,hp⟩:=ig hB hy;rw[ep] at Xc;cases Xc;have pm:=bJ ep;have vH:=fu (gQ gq) pp pm;have A3:=fk pp pm;have JH:=i0 pp pm;rw[←iS] at A3;rw[←oY] at JH;exact⟨(fz.refl _).own (by decide),_,rfl,H0,y,pp.1,pp.2,rfl,((ju.trans sm).trans s1).trans s3,hp,vH,by lia,by lia,fun l zs H4 hl s4 e4 o4=>c1 l zs H4 hl s4 e4 o4⟩
   ·have ZC:=Cw owi;have AW:=(sm.trans s1).trans s2;have vE:H2 b=some (.tup (.str d.wd::(xs++C8))):=AW _ _ (ju _ _ p0.e);have m_:=s2 _ _ (s1 _ _ kj)
    have XR:(((V.str d.wd::(xs++C8)).length:Nat):Int) - ((wi.length:Nat):Int)=(((V.str d.wd::xs).length:Nat):Int):=by
     simp only[aW,ba]
     lia
    have fin:∀(e:Addr) (H5:Hp),aj H2 H5→H5 e=some (.tup (.str d.wd::(xs++wi)))→∃(x2 x3:Option V) (Z5 :ak),([some (V.ref a),some (.ref fl),some (.ref b),some (.ref il)]:L2.St)=[some (.ref a),some (.ref fl),x2,x3]∧aj H (upd H5 fl (.lst (ws++[.ref e])))∧upd H5 fl (.lst (ws++[.ref e])) fl=some (.lst Z5)∧oP (upd H5 fl (.lst (ws++[.ref e]))) (s.l.take (j+1)) Z5 (pL H (upd H5 fl (.lst (ws++[.ref e]))) fl):=fun e H5 s5 td=>by
     refine⟨_,_,ws++[.ref e],rfl,fC kW (AW.trans s5),aa,?_⟩;have Xs:=(s1.trans s2).trans s5;have k5:KT H5 (upd H5 fl (.lst (ws++[.ref e]))):=KT.upd (s5 _ _ m_);have Vq:∀c,pL H1 H2 il c→c≠fl:=fun c h=>h.ne (s1 _ _ kj);have O1:oP (upd H5 fl (.lst (ws++[.ref e]))) (s.l.take j) ws (pL H H' fl):=(tw.kt (KT.same Xs) (KN.same Xs)).kt k5 (KN.upd fun z=>z.2.1 rfl);have O2:tF (upd H5 fl (.lst (ws++[.ref e]))) d.bs.l wi (pL H1 H2 il):=(owi.kt (KT.same s5) (KN.same s5)).kt k5 (KN.upd fun z=>Vq fl z rfl)
     have O3:Ku (upd H5 fl (.lst (ws++[.ref e]))) d (.ref e) (pL H1 H2 il):=by
      have Xf :bo (upd H5 fl (.lst (ws++[.ref e]))) xs d.ps:=yR p0.fit p0.hx
      cases d with
      |mk w ps bs=>exact .mk (k5 _ _ td) Xf O2
     rw[wv ed];refine(oP.snoc O3 O1 fun c h h' =>h.2.2 (s1.free h'.1)).imp fun c h=> ?_
     have ne:c≠fl→H5 c≠none→upd H5 fl (.lst (ws++[.ref e])) c≠none:=fun h1 h2=>by
      rw[av h1];exact h2
     rcases h with h|h
     ·exact⟨h.1,h.2.1,ne h.2.1 (DP Xs h.2.2)⟩
     ·exact⟨(sm.trans s1).free h.1,Vq c h,ne (Vq c h) (DP s5 h.2.2)⟩
    have Pb:ws.length<sizeLine:=gp (show ws.length≤1000 by lia) Hr;refine⟨_,rfl,Dm m_,_,rfl,_,rfl,b,_,rfl,.inr (bc.of vE),_,rfl,il,_,rfl,.inl (bF.of qV),_,_,rfl,rfl,_,rfl,b,_,rfl,bc.of vE,?_,?_⟩
    ·rw[XR]
     rintro ⟨_,hw⟩
     rw[HT.jJ] at hw;simp only[aW,ba] at hw;have WD:C8=[]:=sk (by lia);have hw0:wi=[]:=sk (by rw[WD] at P9;simp only[jh] at P9;lia);subst WD hw0;refine⟨_,rfl,il,_,rfl,.inl ⟨bF.of qV,fun t5 NH=> ?_⟩⟩;have u5:=aj.upd (o:= .tup []) NH;refine⟨b,t5,_,_,rfl,rfl,bc.of (u5 _ _ vE),bc.of aa,(fun z=>nomatch z),?_,(fun _=>⟨fl,ws,_,rfl,rfl,u5 _ _ m_,Pb,fin b _ u5 (u5 _ _ vE)⟩),(fun z=>absurd rfl z)⟩
     ·simp only[aW,ba,jh];exact aR (show _≤1000 by lia) (bO Hr)
    ·rw[XR];intro hw t4 F0;have UR:bY (V.str d.wd::(xs++C8)) none (some (((V.str d.wd::xs).length:Nat):Int))=V.str d.wd::xs:=Nh (V.str d.wd::xs) C8;rw[UR];have u4:=aj.upd (o:= .tup (V.str d.wd::xs)) F0;refine⟨_,rfl,il,_,rfl,.inl ⟨bF.of (u4 _ _ qV),fun t5 NH=> ?_⟩⟩;have u5:=aj.upd (o:= .tup wi) NH
     have mq:wi≠[]:=fun z=>hw (by
      rw[z] at ZC
      have WD:C8.length=0:=by
       rw[P9,←ZC];rfl
      refine⟨rfl,?_⟩;rw[HT.jJ];simp only[aW,ba]
      lia)
     refine⟨t4,t5,_,_,rfl,rfl,bc.of (u5 _ _ aa),bc.of aa,(fun z=>nomatch z),?_,(fun z=>absurd z mq),fun _ t6 NR=> ?_⟩
     ·simp only[aW];exact aR (show _≤1000 by lia) (bO Hr)
     ·have u6:=aj.upd (o:= .tup (V.str d.wd::xs++wi)) NR;have su:=(u4.trans u5).trans u6;exact⟨fl,ws,_,rfl,rfl,su _ _ m_,Pb,fin t6 _ su aa⟩
  ·rintro σ H' ⟨x2,x3,ws,rfl,sm,DT,tw⟩
   rw[vl,fK] at tw;exact⟨_,rfl,q fl ws H' kW sm DT tw⟩
theorem WF{α:Type}{l:List α}{i:Nat}{x:α}(e:l[i]? =some x):l.drop i=x::l.drop (i+1):=by
 have h:=(dq.mp e);obtain⟨h1,h2⟩:=h;rw[List.drop_eq_getElem_cons h1,h2]
theorem Vp{H:Hp}{l:List Dd}{vs:ak}{N:Addr→Prop}{i:Nat}{v:V}(h:oP H (l.drop i) (vs.drop i) N)(e:vs[i]? =some v):∃d N1 N2,l[i]? =some d∧Ku H d v N1∧oP H (l.drop (i+1)) (vs.drop (i+1)) N2∧(∀c,N1 c→N2 c→False)∧(∀c,N1 c→N c)∧(∀c,N2 c→N c):=by
 rw[WF e] at h
 cases el:l[i]? with
 |none=>
  rw[List.drop_eq_nil_of_le (Di.mp el)] at h;cases h
 |some d=>
  rw[WF el] at h
  cases h with
  |cons hd hr dj i1 i2=>exact⟨d,_,_,rfl,hd,hr,dj,i1,i2⟩
theorem VQ{H:Hp}{l:List (Bool×Ds)}{vs:ak}{N:Addr→Prop}{i:Nat}{v:V}(h:tF H (l.drop i) (vs.drop i) N)(e:vs[i]? =some v):∃p a zs N1 N2,l[i]? =some p∧v= .ref a∧H a=some (.lst zs)∧oP H p.2.l zs N1∧tF H (l.drop (i+1)) (vs.drop (i+1)) N2∧¬N1 a∧¬N2 a∧N a∧(∀c,N1 c→N2 c→False)∧(∀c,N1 c→N c)∧(∀c,N2 c→N c):=by
 rw[WF e] at h
 cases el:l[i]? with
 |none=>
  rw[List.drop_eq_nil_of_le (Di.mp el)] at h;cases h
 |some d=>
  rw[WF el] at h
  cases h with
  |cons e' hs hr na nb ia dj i1 i2=>exact⟨_,_,_,_,_,rfl,rfl,e',hs,hr,na,nb,ia,dj,i1,i2⟩
noncomputable def KO(N:Addr→Prop)(H H' :Hp):Prop:=(∀c o,(∀xs,o≠HO.lst xs)→H c=some o→H' c=some o)∧∀c o,¬N c→H c=some o→H' c=some o
theorem KO.kt{N:Addr→Prop}{H H' :Hp}(k:KO N H H'):KT H H' :=fun c xs e=>k.1 c _ (fun _ z=>nomatch z) e
theorem KO.refl(N:Addr→Prop)(H:Hp):KO N H H:=⟨fun _ _ _ e=>e,fun _ _ _ e=>e⟩
theorem KO.same{N:Addr→Prop}{H H' :Hp}(s:aj H H'):KO N H H' :=⟨fun _ _ _ e=>s _ _ e,fun _ _ _ e=>s _ _ e⟩
theorem KO.trans{N:Addr→Prop}{H H1 H2:Hp}(a:KO N H H1)(b:KO N H1 H2):KO N H H2:=⟨fun c o n e=>b.1 _ _ n (a.1 _ _ n e),fun c o n e=>b.2 _ _ n (a.2 _ _ n e)⟩
theorem KO.imp{N N' :Addr→Prop}{H H' :Hp}(a:KO N H H')(i:∀c,N c→N' c):KO N' H H' :=⟨a.1,fun c o n e=>a.2 c o (fun h=>n (i c h)) e⟩
theorem KO.kn{N M:Addr→Prop}{H H' :Hp}(a:KO N H H')(dj:∀c,M c→N c→False):KN M H H' :=fun c xs m e=>a.2 c _ (fun n=>dj c m n) e
noncomputable def MG(n:Nat):Sp:=fun vs H Q _=>∃a s zs N,vs=[.ref a]∧H a=some (.lst zs)∧oP H (Ds.l s) zs N∧¬N a∧gw s∧cM s<n∧cQ s≤1000∧∀H',KO (fun c=>N c∨c=a) H H'→Q .bx H'
theorem Ah(T:Txt K mg A)(n:Nat):aM P w K mg base cK (1+n) A.sd A.rH ["_law_body_here"] (MG n):=by
 induction n with
 |zero=>exact d_ (by rintro vs H Q E ⟨a,s,zs,N,_,_,_,_,_,h,_⟩;exact g8 _ h)
 |succ n ih=>
 show aM P w K mg base cK ((1+n)+1) _ _ _ _;refine T.ma.F.ok j4 (fun vs H Q E h=> ?_) (fun cj Ar outer s0 H vs Q E hr h=> ?_)
 ·obtain⟨a,s,zs,N,rfl,_⟩:=h;rfl
 ·obtain⟨a,s,zs,N,rfl,ha,ow,na,ok,dp,hm,q⟩:=h;have sl:=Ka s;have zl:=Df ow;have Hr:(1000:Nat)<sizeLine:=by decide
  refine⟨_,(ag (vI (cz (pv 0)) (fO 1 j4.nd) (ai (vI (wj (cn (oB T) hr T.dR az (aH (pv 1)) (hj:=by lia))) (fO 2 j4.nd) (ai (bf (cn ih hr T.ma az (aH (pv 2)) (hj:=by lia))))))) (ag (bf (jg eO PySem.F.slot_list_append PySem.F.type_list_append cI (pv 0) (aH g_))) (ai (bf (GL eO PySem.F.slot_list_reverse PySem.F.type_list_reverse Gn (pv 0)))))),?_⟩;refine⟨_,rfl,a,rfl,⟨_,bF.of ha⟩,?_⟩;refine dF (K:=K) (a:=a) (xs:=zs) (fun i σ H' =>∃(x2 x3:Option V) (N' :Addr→Prop),σ=[some (.ref a),x2,x3]∧KO N H H'∧(∀c,N' c→N c)∧oP H' (s.l.drop i) (zs.drop i) N') ⟨_,_,N,rfl,KO.refl _ _,fun _ h=>h,ow⟩ (by rintro i σ H' _ ⟨_,_,_,_,k,_⟩;exact bF.of (k.2 _ _ na ha)) ?_ ?_
  ·rintro i x σ H' hx ⟨x2,x3,N',rfl,k1,hN,ow1⟩
   obtain⟨d,N1,N2,ed,od,or,dj,i1,i2⟩:=Vp ow1 hx;have dm:=bJ ed;have gq:=eE ok d dm;have Hm:=eT d dm;have NX:=ie d dm;refine⟨_,rfl,H',x,HX d,rfl,aj.refl _,od.dat,L5 d gq,fun t ys H1 ht s1 hz hB hR=>⟨t,rfl,⟨_,bc.of hz⟩,?_⟩⟩;obtain⟨b,xs,rfl,eb,hxl⟩:=hR
   have ob:tF H' d.bs.l ys N1:=by
    cases d with
    |mk w ps bs=>
     rw[HX] at eb hxl
     cases od with
     |mk e hx hb=>
      rw[e] at eb;have e2:=HO.tup.inj (di eb);have hl:=vO hx;have e3:=List.append_inj (List.cons.inj e2).2 (hl.trans hxl.symm);rw[←e3.2];exact hb
   refine uh (K:=K) (a:=t) (xs:=ys) (fun j σ H2=>∃(x3:Option V) (N3:Addr→Prop),σ=[some (.ref a),some (.ref b),x3]∧KO N1 H1 H2∧(∀c,N3 c→N1 c)∧tF H2 (d.bs.l.drop j) (ys.drop j) N3) ⟨x3,N1,rfl,KO.refl _ _,fun _ h=>h,ob.kt (KT.same s1) (KN.same s1)⟩ (by rintro j σ H2 _ ⟨_,_,_,k,_⟩;exact bc.of (k.kt _ _ hz)) ?_ ?_
   ·rintro j y σ H2 hy ⟨x3,N3,rfl,k2,hN3,ob2⟩
    obtain⟨pp,a',AX,M1,M2,ep,rfl,ea,os,obr,nM1,nM2,iM,djM,j1,j2⟩:=VQ ob2 hy;have pm:=bJ ep;have vH:=fu (gQ gq) pp pm;have A3:=fk pp pm;have JH:=i0 pp pm;rw[←iS] at A3;rw[←oY] at JH;refine⟨_,rfl,a',pp.2,AX,M1,rfl,ea,os,nM1,vH,by lia,by lia,fun H3 k3=>⟨some (.ref a'),M2,rfl,k2.trans (k3.imp fun c h=>h.elim (fun h=>hN3 c (j1 c h)) fun h=>h▸hN3 _ iM),fun c h=>hN3 c (j2 c h),obr.kt k3.kt (k3.kn fun c m h=>h.elim (fun h=>djM c h m) fun h=>nM2 (h▸m))⟩⟩
   ·rintro σ H2 ⟨x3,N3,rfl,k2,hN3,ob2⟩
    have k12:KO N1 H' H2:=(KO.same s1).trans k2;exact⟨some (.ref b),x3,N2,rfl,k1.trans (k12.imp fun c h=>hN c (i1 c h)),fun c h=>hN c (i2 c h),or.kt k12.kt (k12.kn fun c m h=>dj c h m)⟩
  ·rintro σ H' ⟨x2,x3,N',rfl,k1,hN,ow1⟩
   have ha1:=k1.2 _ _ na ha;refine⟨_,rfl,Dm ha1,a,_,_,rfl,rfl,ha1,gp (show zs.length≤1000 by lia) Hr,?_⟩;refine⟨_,rfl,Dm aa,a,_,rfl,rfl,aa,?_⟩;refine q _ ⟨fun c o n e=> ?_,fun c o n e=> ?_⟩
   ·have e1:=k1.1 _ _ n e;have hc:=bW e1 ha1 (n _);rw[av hc,av hc];exact e1
   ·have hc:c≠a:=fun z=>n (.inr z);rw[av hc,av hc];exact k1.2 _ _ (fun h=>n (.inl h)) e
structure Fits(B k:Nat)(d:PyData):Prop where
 sh:d.showable=true
 dp:d.depth≤k
 ln:d.shown.length≤B
theorem Fits.mono{B B' k k' :Nat}{d:PyData}(g:Fits B k d)(h:B≤B')(h' :k≤k'):Fits B' k' d:=⟨g.sh,aR g.dp h',aR g.ln h⟩
structure bA(B k:Nat)(ds:List PyData):Prop where
 sh:PyData.showableAll ds=true
 dp:PyData.depthAll ds≤k
 ln:((PyData.shownAll ds).map (·.length)).sum+2*(PyData.shownAll ds).length≤B
theorem bA.nil{k:Nat}:bA 0 k []:=⟨by simp[PyData.showableAll],by simp[PyData.depthAll],by simp[PyData.shownAll]⟩
theorem bA.cons{B C k:Nat}{d:PyData}{ds:List PyData}(g:Fits B k d)(h:bA C k ds):bA (B+2+C) k (d::ds):=by
 have g1:=g.ln;have h1:=h.ln;refine⟨?_,?_,?_⟩
 ·simp only[PyData.showableAll,g.sh,h.sh,Bool.and_self]
 ·simp only[PyData.depthAll];exact Nat.max_le.mpr ⟨g.dp,h.dp⟩
 ·simp only[PyData.shownAll,dw,tO,aW]
  lia
theorem bA.mono{B B' k k' :Nat}{d:List PyData}(g:bA B k d)(h:B≤B')(h' :k≤k'):bA B' k' d:=⟨g.sh,aR g.dp h',aR g.ln h⟩
theorem bA.app{B C k:Nat}:∀{ds es:List PyData},bA B k ds→bA C k es→bA (B+C) k (ds++es)
 |[],es,_,h=>h.mono (by lia) (aG _)
 |d::ds,es,g,h=>by
  have sh:=g.sh;have dp:=g.dp;have ln:=g.ln;simp only[PyData.showableAll,gL] at sh;simp only[PyData.depthAll] at dp;simp only[PyData.shownAll,dw,tO,aW] at ln;have r:=bA.app (B:=B - d.shown.length - 2) (ds:=ds) ⟨sh.2,by lia,by lia⟩ h;refine(bA.cons (B:=d.shown.length) (k:=k) ⟨sh.1,by lia,aG _⟩ r).mono (by lia) (aG _)
theorem bA.list{B k:Nat}{ds:List PyData}(h:bA B k ds):Fits (B+3) (k+1) (.list ds):=by
 have h1:=h.ln;have h2:=h.dp;refine⟨?_,?_,?_⟩
 ·simp only[PyData.showable,h.sh]
 ·simp only[PyData.depth]
  lia
 ·simp only[PyData.shown];have:=listText_len_le (PyData.shownAll ds)
  lia
theorem bA.tup{B k:Nat}{ds:List PyData}(h:bA B k ds):Fits (B+3) (k+1) (.tuple ds):=by
 have h1:=h.ln;have h2:=h.dp;refine⟨?_,?_,?_⟩
 ·simp only[PyData.showable,h.sh]
 ·simp only[PyData.depth]
  lia
 ·simp only[PyData.shown];have:=tupleText_len_le (PyData.shownAll ds)
  lia
theorem Fits.rep{B k:Nat}{d:PyData}(g:Fits B k d)(hB:B≤100000)(hk:k≤90):d.showable=true∧d.depth≤90∧d.shown.length≤sizeLine:=⟨g.sh,aR g.dp hk,aR g.ln (bO (b8 hB))⟩
theorem oS{i:Int}(h:i.natAbs<10 ^ 40):Fits 100 3 (.int i):=by
 refine⟨?_,?_,?_⟩
 ·simp only[PyData.showable];refine aS ?_;by_cases h0:i.natAbs=0
  ·rw[h0];decide
  ·refine(Nat.log2_lt h0).mpr (yk h ?_);decide+kernel
 ·simp[PyData.depth]
 ·simp only[PyData.shown];rw[PySem.ofString_length];exact aR (PySem.int_text_length_le10 (k:=40) (by decide) h) (by decide)
theorem i_{n:Nat}(h:n≤1000000):Fits 100 3 (.int (n:Int)):=oS (gp (show(n:Int).natAbs≤1000000 by rw[DH];exact h) (by decide+kernel))
theorem vL:Fits 100 3 .none:=by
 refine⟨?_,?_,?_⟩
 ·simp only[PyData.showable]
 ·simp[PyData.depth]
 ·simp only[PyData.shown];decide+kernel
theorem Hu{x:Str}(h:bB x=true):PyData.strOk x=true:=by
 unfold bB at h;rw[gL] at h;show x.cps.all (· <1114112)=true;rw[←Array.all_toList];rw[c_];intro c hc;have:=c_.mp h.2 c hc;unfold gy at this;rw[gL] at this;have h2:=bQ this.2;exact aS (by lia)
theorem MM{x:Str}(h:bB x=true):x.length≤6:=by
 unfold bB at h;rw[gL,gL] at h;exact bQ h.1.2
theorem iK{x:Str}(h:bB x=true):Fits 100 3 (.str x):=by
 refine⟨?_,?_,?_⟩
 ·simp only[PyData.showable]
 ·simp[PyData.depth]
 ·have h1:=PyData.shown_le 8 (by decide) (.str x) (PyData.leavesShort_of_canLay0 8 _ (by simp only[PyData.canLay0];exact Hu h) (by simp only[PyData.intsShort]));have h2:PyData.weight (.str x)=x.length:=by simp only[PyData.weight];rfl
  have h3:=MM h
  lia
theorem Ls{k:Str}{d:PyData}(h:tE k d):Fits 100 3 d:=by
 cases h with
 |name x h=>exact iK h
 |label x h n=>exact iK h
 |HE=>exact vL
 |mark x h=>exact iK h
 |Gj=>exact vL
 |value i h=>exact oS h
 |number i h=>exact oS h
 |num k lo hi i h h1 h2=>
  have:=bQ (c_.mp (show(Gs.all fun p=>decide (0≤p.2.1∧p.2.2≤6))=true by decide+kernel) _ h);exact oS (gp (show i.natAbs≤6 by have h3:(0:Int)≤lo:=this.1;have h4:hi≤(6:Int):=this.2;lia) (by decide+kernel))
theorem Em{ks:ao}{ps:List PyData}(h:eM ks ps):bA (102*ps.length) 3 ps:=by
 induction h with
 |nil=>exact bA.nil
 |cons h t ih=>exact(bA.cons (Ls h) ih).mono (by rw[aW];lia) (aG _)
theorem JD{w:Str}{ks:ao}(h:(w,ks)∈dg):bB w=true:=bQ (c_.mp (show(dg.all fun p=>decide (bB p.1=true))=true by decide+kernel) _ h)
theorem Qu{t:Bool}{B k:Nat}{ds:List PyData}(h:bA B k ds):Fits (B+3) (k+1) (gg t ds):=by
 cases t with
 |false=>exact h.list
 |true=>exact h.tup
mutual
theorem shD:∀d:Dd,ip d→Fits (998+1000*l6 d) (4+2*lq d) (dD d)
 | .mk w ps bs,ok=>by
  rw[ip] at ok;obtain⟨⟨ks,f,fit⟩,hb⟩:=ok;have h4:=dz f;rw[ba,gN] at h4;have hl:=nq fit;rw[dD,l6,lq];refine(bA.tup (bA.cons (B:=100) (k:=3+2*l_ bs) ((iK (JD f)).mono (aG _) (by lia)) (((Em fit).mono (aG _) (by lia)).app (shB bs hb)))).mono ?_ (by lia)
  lia
theorem shS:∀s:Ds,gw s→bA (1000*cQ s) (4+2*cM s) (sL s)
 | .nil,_=>by rw[sL];exact bA.nil.mono (cN _) (aG _)
 | .cons d r,ok=>by
  rw[gw] at ok;rw[sL,cQ,cM];exact(bA.cons ((shD d ok.1).mono (aG _) (by lia)) ((shS r ok.2).mono (aG _) (by lia))).mono (by lia) (aG _)
theorem shB:∀b:Bs,mw b→bA (1000*nN b+5*b.l.length) (3+2*l_ b) (bL b)
 | .nil,_=>by rw[bL];exact bA.nil.mono (cN _) (aG _)
 | .cons t b r,ok=>by
  rw[mw] at ok;rw[bL,nN,l_];refine(bA.cons ((Qu (shS b ok.1)).mono (aG _) (by lia)) ((shB r ok.2).mono (aG _) (by lia))).mono ?_ (aG _);show _≤1000*(cQ b+nN r)+5*(r.l.length+1)
  lia
end
noncomputable def A2(H:Hp)(l:Addr)(ns:ao):Prop:=H l=some (.lst (ns.map V.str))∧ns.length≤100∧∀x∈ns,bB x=true
noncomputable def xR(H:Hp)(v:V):Prop:=∃wd ps,hX H v (dD (.mk wd ps .nil))∧ip (.mk wd ps .nil)
theorem xR.same{H H' :Hp}{v:V}(h:xR H v)(s:aj H H'):xR H' v:=by
 obtain⟨wd,ps,td,ok⟩:=h;exact⟨wd,ps,td.kt (KT.same s),ok⟩
theorem xR.box{H H' :Hp}{v:V}{b:Addr}{k:Nat}(h:xR H v)(B:c9 H b k)(o:Bh b H H'):xR H' v:=by
 obtain⟨wd,ps,td,ok⟩:=h;obtain⟨x,y,z,hb,_⟩:=B;exact⟨wd,ps,td.kt fun c ys e=>(o c (bW e hb (fun z=>nomatch z))).trans e,ok⟩
theorem xR.mk{H:Hp}{t:Addr}{wd:Str}{xs:ak}{ks:ao}{ps:List PyData}(e:H t=some (.tup (.str wd::xs)))(f:(wd,ks)∈dg)(h:eM ks ps)(hx:bo H xs ps):xR H (.ref t):=by
 refine⟨wd,ps,?_,?_⟩
 ·rw[dD,bL,dO];exact .tup e (.cons (.str _) hx)
 ·rw[ip,mw];exact⟨⟨ks,by show(wd,ks++[])∈dg;rw[dO];exact f,h⟩,True.intro⟩
structure Sw(b:Addr)(H:Hp)(k:Nat)(H' :Hp):Prop where
 box:c9 H' b k
 kp:Kept b H H'
theorem Sw.same{b:Addr}{H H' fP :Hp}{k:Nat}(W:Sw b H k H')(s:aj H' fP):Sw b H k fP :=⟨W.box.same s,W.kp.trans s.kept⟩
theorem Sw.take{b:Addr}{H H' fP :Hp}{k:Nat}(W:Sw b H k H')(B:c9 fP b (k+1))(O:Bh b H' fP):Sw b H (k+1) fP :=⟨B,W.kp.trans O.kept⟩
theorem Tr:(10:Int) ^ (30:Int).toNat=1000000000000000000000000000000:=by decide+kernel
noncomputable def LB:Sp:=fun vs H Q _=>∃b nl al k ns ar,vs=[.ref b,.ref nl,.ref al]∧c9 H b k∧k+20≤100000∧A2 H nl ns∧ns≠[]∧A2 H al ar∧nl≠b∧al≠b∧
 ∀v H',xR H' v→c9 H' b (k+20)→Kept b H H'→Q v H'
theorem zW(T:Txt K mg A):aM P w K mg base cK 2 A.rp A.rC ["_law_box_here","_law_names_here","_law_around"] LB:=by
 refine T.rW.F.zk cH ?_
 rintro cj Ar outer s H vs Q E hr ⟨b,nl,al,k,ns,ar,rfl,B,hk,hn,mq,ha,nb,ab,q⟩
 have Ay:0<((ns.map V.str).length:Int):=by
  rw[aK];have:=List.length_pos_iff.mpr mq
  lia
 have hle:((ns.map V.str).length:Int)<1606938044258990275541962092341162602522202993782792835301376:=by
  rw[aK];have:=hn.2.1
  lia
 have nmo:∀x∈ns.map V.str,∃z,x= .str z∧bB z=true:=fun x hx=>by
  obtain⟨z,hz,rfl⟩:=fh.mp hx;exact⟨z,rfl,hn.2.2 z hz⟩
 refine⟨_,(ag (eU 3 cH.nd (cn (aN T) hr T.aP az (ae (pv 0) (aH af)))) (ag (eU 4 cH.nd (cU a7 (pv 1) (cn (aN T) hr T.aP az (ae (pv 0) (aH (h8 aZ T.gi Boot.«len» (aH (pv 1)))))))) (ag (eU 5 cH.nd (cU a7 (pv 1) (cn (aN T) hr T.aP az (ae (pv 0) (aH (h8 aZ T.gi Boot.«len» (aH (pv 1)))))))) (ag (eU 6 cH.nd (cU a7 (bg (ae af (aH (cn (aN T) hr T.aP az (ae (pv 0) (aH af)))))) (cn (aN T) hr T.aP az (ae (pv 0) (aH af))))) (ag (bu (wp El (pv 3) af) (ag (eU 7 cH.nd (aO oR (aO oR (bg (ae g_ (aH g_))) (pv 2)) (bg (aH aB)))) (ai (aF (a9 (ae aB (ae (pv 4) (ae (aO bz af (cn (aN T) hr T.aP az (ae (pv 0) (aH (cU a7 (bg (ae af (aH af))) (cn (aN T) hr T.aP az (ae (pv 0) (aH af)))))))) (aH (cU a7 (pv 7) (cn (aN T) hr T.aP az (ae (pv 0) (aH (h8 aZ T.gi Boot.«len» (aH (pv 7))))))))))))))) aV) (ag (eU 8 cH.nd (cU a7 (bg (ae (aO jV (cn (aN T) hr T.aP az (ae (pv 0) (aH af))) af) (aH (aO bz (aO jV (cn (aN T) hr T.aP az (ae (pv 0) (aH (aO jV (aO l7 af (aO wo af af)) af)))) (aO wo af af)) af)))) (K1 Ct T.Iz Boot.«int» (aH (KZ dM (cn (aN T) hr T.aP az (ae (pv 0) (aH af))) af))))) (ag (eU 9 cH.nd (bg (ae (a9 (ae aB (ae (pv 4) (ae (pv 6) (aH (pv 5)))))) (ae (a9 (ae aB (ae (pv 4) (ae (pv 5) (aH (pv 6)))))) (ae (a9 (ae aB (ae (pv 4) (aH (cU a7 (bg (ae g_ (aH (pv 8)))) (cn (aN T) hr T.aP az (ae (pv 0) (aH af)))))))) (aH (a9 (ae aB (ae (pv 4) (aH (pv 5))))))))))) (ai (aF (cU a7 (aO oR (pv 9) (bg (ae (a9 (ae aB (ae (pv 4) (ae (pv 5) (aH (pv 8)))))) (ae (a9 (ae aB (aH (pv 4)))) (aH (a9 (ae aB (ae (pv 4) (aH (pv 5)))))))))) (aO jV (pv 3) af))))))))))),?_⟩;refine⟨_,rfl,b,9,k,rfl,B,by lia,by decide,by decide,fun kind H1 k0 k1 B1 O1=> ?_⟩;have W1:Sw b H (k+1) H1:=Sw.take ⟨B,Kept.refl _ _⟩ B1 O1;refine⟨_,rfl,_,rfl,_,rfl,nl,_,rfl,.inl (bF.of (W1.kp _ _ nb hn.1)),b,_,k+1,rfl,B1,by lia,Ay,hle,fun i1 H2 r0 r1 B2 O2=> ?_⟩;have W2:=W1.take B2 O2;refine gP (fun v=>∃z,v= .str z∧bB z=true) (W2.kp _ _ nb hn.1) r0 r1 nmo fun v hv=> ?_;obtain⟨x,rfl,hx⟩:=hv;refine⟨_,rfl,_,rfl,_,rfl,nl,_,rfl,.inl (bF.of (W2.kp _ _ nb hn.1)),b,_,k+2,rfl,B2,by lia,Ay,hle,fun i2 H3 s0 s1 B3 O3=> ?_⟩;have W3:=W2.take B3 O3;refine gP (fun v=>∃z,v= .str z∧bB z=true) (W3.kp _ _ nb hn.1) s0 s1 nmo fun v hv=> ?_;obtain⟨y,rfl,hy⟩:=hv;refine⟨_,rfl,b,6,k+3,rfl,B3,by lia,by decide,by decide,fun r6 H4 a0 a1 B4 O4=> ?_⟩;have W4:=W3.take B4 O4;refine⟨fw,fun p4 NN=> ?_⟩;have W4' :=W4.same (aj.upd (o:= .lst [V.int 0,V.int r6]) NN);have np4:p4≠b:=W4.box.ne NN;refine⟨_,rfl,b,2,k+4,rfl,W4'.box,by lia,by decide,by decide,fun r2 H5 c0 c1 B5 O5=> ?_⟩;have W5:=W4'.take B5 O5;refine gP (fun v=>∃i:Int,v= .int i∧0≤i∧i≤5) (O5.kept _ _ np4 aa) c0 c1 ?_ fun v hv=> ?_
 ·intro z hz;simp only[aU,cP,cO] at hz;rcases hz with rfl|rfl
  ·exact⟨_,rfl,by decide,by decide⟩
  ·exact⟨_,rfl,a0,by lia⟩
 obtain⟨cl,rfl,cl0,cl5⟩:=hv;clear W1 W2 W3 W4 W4' O1 O2 O3 O4 O5 B1 B2 B3 B4;refine⟨_,rfl,kind,2,rfl,rfl,_,rfl,?_⟩;have fc:tE "cell" (.int cl):= .num "cell" 0 5 cl (by decide+kernel) cl0 cl5;have al5:=W5.kp _ _ ab ha.1;have arl:=ha.2.1;refine sU (fun OG=> ?_) (fun OG=> ?_)
 ·refine⟨fw,fun p1 RW=>⟨_,rfl,p1,al,_,_,rfl,rfl,aa,aj.upd RW _ _ al5,?_,fun p2 D0=>⟨sS,fun p3 Cq=>⟨p2,p3,_,_,rfl,rfl,aj.upd Cq _ _ aa,aa,?_,fun p6 hp6=> ?_⟩⟩⟩⟩
  ·rw[aK];exact bO (b8 (show 2+ar.length≤100000 by lia))
  ·rw[ba,aK];exact bO (b8 (show 2+ar.length+1≤100000 by lia))
  have W6:=(((W5.same (aj.upd RW)).same (aj.upd D0)).same (aj.upd (o:= .lst [V.str "ground"]) Cq));have np6:p6≠b:=W6.box.ne hp6;have W7:=W6.same (aj.upd (o:= .lst (([V.bx,V.bx]++ar.map V.str)++[.str "ground"])) hp6);have e7:upd _ p6 (.lst (([V.bx,V.bx]++ar.map V.str)++[.str "ground"])) p6=some (.lst (([V.bx,V.bx]++ar.map V.str)++[.str "ground"])):=aa (H:=upd (upd (upd H5 p1 (.lst [V.bx,V.bx])) p2 (.lst ([V.bx,V.bx]++ar.map V.str))) p3 (.lst [V.str "ground"]));generalize upd (upd (upd (upd H5 p1 (.lst [V.bx,V.bx])) p2 (.lst ([V.bx,V.bx]++ar.map V.str))) p3 (.lst [V.str "ground"])) p6 (.lst (([V.bx,V.bx]++ar.map V.str)++[.str "ground"]))=H7 at W7 e7 ⊢
  have mko:∀v∈([V.bx,V.bx]++ar.map V.str)++[.str "ground"],∃d,tE "mark" d∧∀H,hX H v d:=fun v hv=>by
   rcases eK.mp hv with hv|hv
   ·rcases eK.mp hv with hv|hv
    ·simp only[aU,cP,cO,or_self] at hv;exact⟨.none,.HE,fun _=>by rw[hv];exact .bx⟩
    ·obtain⟨z,hz,rfl⟩:=fh.mp hv;exact⟨.str z,.mark z (ha.2.2 z hz),fun _=> .str _⟩
   ·rw[hV.mp hv];exact⟨.str "ground",.mark _ (by decide+kernel),fun _=> .str _⟩
  have hll:(([V.bx,V.bx]++ar.map V.str)++[V.str "ground"]).length=ar.length+3:=by
   simp only[ba,aK,aW,jh]
   lia
  generalize ([V.bx,V.bx]++ar.map V.str)++[V.str "ground"]=yV at e7 mko hll;refine⟨_,rfl,_,rfl,fw,fun p8 Kj=> ?_⟩;have W8:=W7.same (aj.upd (o:= .lst [V.int 2,V.int 6]) Kj);have np8:p8≠b:=W7.box.ne Kj;refine⟨_,rfl,b,2,k+5,rfl,W8.box,by lia,by decide,by decide,fun r8 H9 d0 d1 B9 O9=> ?_⟩;have W9:=W8.take B9 O9;refine gP (fun v=>∃i:Int,v= .int i∧0<i∧i≤6) (O9.kept _ _ np8 aa) d0 d1 ?_ fun v hv=> ?_
  ·intro z hz;simp only[aU,cP,cO] at hz
   rcases hz with rfl|rfl<;>exact⟨_,rfl,by decide,by decide⟩
  obtain⟨up,rfl,u0,u6⟩:=hv;refine⟨b,up,k+6,rfl,B9,by lia,u0,by lia,fun sz FD z0 z1 B10 O10=> ?_⟩;have W10:=W9.take B10 O10;have Iv:=O10.kept _ _ np6 (O9.kept _ _ np6 (aj.upd Kj _ _ e7));refine⟨1,sz,rfl,rfl,_,rfl,_,rfl,_,rfl,p6,_,rfl,.inl (bF.of Iv),b,_,k+7,rfl,B10,by lia,by rw[hll];lia,by rw[hll];lia,fun r11 tH f0 f1 B11 Ze=> ?_⟩;have W11:=W10.take B11 Ze;refine gP (fun v=>∃d,tE "mark" d∧∀H,hX H v d) (Ze.kept _ _ np6 Iv) f0 f1 mko fun v hv=> ?_;obtain⟨d,fd,td⟩:=hv;refine⟨GI,fun t ht=> ?_⟩;have W12:=W11.same (aj.upd (o:= .tup [V.str "make",.str x,.int (1+sz),v]) ht);exact q _ _ (xR.mk (ks:=["name","size","mark"]) (ps:=[.str x,.int (1+sz),d]) aa (by decide+kernel) (.cons (.name x hx) (.cons (.num "size" 1 6 _ (by decide+kernel) (by lia) (by lia)) (.cons fd .nil))) (.cons (.str _) (.cons (.int _) (.cons (td _) .nil)))) (W12.box.mono (by lia)) W12.kp
 ·have OG:¬kind<2:=fun z=>OG (aS z);refine⟨_,rfl,b,7,k+5,rfl,W5.box,by lia,by decide,by decide,fun n7 H6 d0 d1 B6 O6=> ?_⟩;have W6:=W5.take B6 O6;refine⟨n7,3,rfl,rfl,_,rfl,10,30,rfl,rfl,⟨by decide,by decide,by decide⟩,2,_,rfl,rfl,.inl ⟨by decide,by decide⟩,_,1,rfl,rfl,?_⟩;rw[Tr];refine⟨b,_,k+6,rfl,B6,by lia,by decide,by decide,fun nb7 H7 f0 f1 B7 O7=> ?_⟩;have W7:=W6.take B7 O7;refine⟨10,30,rfl,rfl,⟨by decide,by decide,by decide⟩,_,_,rfl,rfl,_,1,rfl,rfl,?_⟩;rw[Tr];refine⟨fw,fun p8 Kj=> ?_⟩;have W8:=W7.same (aj.upd (o:= .lst [V.int (n7 - 3),.int (nb7 - 1000000000000000000000000000000+1)]) Kj);have np8:p8≠b:=W7.box.ne Kj;refine⟨_,rfl,b,5,k+7,rfl,W8.box,by lia,by decide,by decide,fun r8 H9 g0 g1 B9 O9=> ?_⟩;have W9:=W8.take B9 O9;refine⟨rfl,.inr ⟨_,rfl,?_⟩⟩;refine gP (fun v=>∃i:Int,v= .int i∧i.natAbs<10 ^ 40) (O9.kept _ _ np8 aa) (by split<;>decide) (by split;exact(show(1:Int)<2 by decide);exact(show(0:Int)<2 by decide)) ?_ fun v hv=> ?_
  ·have e40:(10:Nat) ^ 40=10000000000000000000000000000000000000000:=by decide+kernel
   intro z hz;simp only[aU,cP,cO] at hz;rcases hz with rfl|rfl
   ·exact⟨_,rfl,by rw[e40];lia⟩
   ·exact⟨_,rfl,by rw[e40];lia⟩
  obtain⟨num,rfl,YK⟩:=hv;clear W6 W7 W8 O6 O7 O9 B6 B7;have fx:=tE.name x hx;have fy:=tE.name y hy;refine⟨_,rfl,_,rfl,_,rfl,GI,fun t1 wg=> ?_⟩;have u1:=aj.upd (o:= .tup [V.str "put",.str x,.int cl,.str y]) wg;have S1:xR (upd H9 t1 (.tup [V.str "put",.str x,.int cl,.str y])) (.ref t1):=xR.mk (ks:=["name","cell","name"]) (ps:=[.str x,.int cl,.str y]) aa (by decide+kernel) (.cons fx (.cons fc (.cons fy .nil))) (.cons (.str _) (.cons (.int _) (.cons (.str _) .nil)));have V1:=W9.same u1;generalize upd H9 t1 (.tup [V.str "put",.str x,.int cl,.str y])=G1 at u1 S1 V1 ⊢;refine⟨_,rfl,_,rfl,_,rfl,GI,fun t2 wb=> ?_⟩;have u2:=aj.upd (o:= .tup [V.str "get",.str x,.str y,.int cl]) wb;have S2:xR (upd G1 t2 (.tup [V.str "get",.str x,.str y,.int cl])) (.ref t2):=xR.mk (ks:=["name","name","cell"]) (ps:=[.str x,.str y,.int cl]) aa (by decide+kernel) (.cons fx (.cons fy (.cons fc .nil))) (.cons (.str _) (.cons (.str _) (.cons (.int _) .nil)));have V2:=V1.same u2;replace S1:=S1.same u2;generalize upd G1 t2 (.tup [V.str "get",.str x,.str y,.int cl])=G2 at u2 S1 S2 V2 ⊢;refine⟨_,rfl,_,rfl,fw,fun p3 Cq=> ?_⟩;have u3:=aj.upd (o:= .lst [V.bx,V.int num]) Cq;have V3:=V2.same u3;have np3:p3≠b:=V2.box.ne Cq;refine⟨_,rfl,b,2,k+8,rfl,V3.box,by lia,by decide,by decide,fun r3 G3 h0 h1 B3 O3=> ?_⟩;have V4:=V3.take B3 O3;replace S1:=(S1.same u3).box V3.box O3;replace S2:=(S2.same u3).box V3.box O3;refine gP (fun v=>∃d,tE "value" d∧∀H,hX H v d) (O3.kept _ _ np3 aa) h0 h1 ?_ fun v hv=> ?_
  ·intro z hz;simp only[aU,cP,cO] at hz;rcases hz with rfl|rfl
   ·exact⟨_,.Gj,fun _=> .bx⟩
   ·exact⟨_,.value num YK,fun _=> .int _⟩
  obtain⟨d,fd,td⟩:=hv;refine⟨AZ,fun t3 oj=> ?_⟩;have u5:=aj.upd (o:= .tup [V.str "set",.str x,v]) oj;have S3:xR (upd G3 t3 (.tup [V.str "set",.str x,v])) (.ref t3):=xR.mk (ks:=["name","value"]) (ps:=[.str x,d]) aa (by decide+kernel) (.cons fx (.cons fd .nil)) (.cons (.str _) (.cons (td _) .nil));have V5:=V4.same u5;replace S1:=S1.same u5;replace S2:=S2.same u5;generalize upd G3 t3 (.tup [V.str "set",.str x,v])=G5 at u5 S1 S2 S3 V5 ⊢;refine⟨_,rfl,_,rfl,AZ,fun t4 F0=> ?_⟩;have u6:=aj.upd (o:= .tup [V.str "copy",.str x,.str y]) F0;have S4:xR (upd G5 t4 (.tup [V.str "copy",.str x,.str y])) (.ref t4):=xR.mk (ks:=["name","name"]) (ps:=[.str x,.str y]) aa (by decide+kernel) (.cons fx (.cons fy .nil)) (.cons (.str _) (.cons (.str _) .nil));have V6:=V5.same u6;replace S1:=S1.same u6;replace S2:=S2.same u6;replace S3:=S3.same u6;generalize upd G5 t4 (.tup [V.str "copy",.str x,.str y])=G6 at u6 S1 S2 S3 S4 V6 ⊢;refine⟨GI,fun sl Jg=> ?_⟩;have u7:=aj.upd (o:= .lst [V.ref t1,.ref t2,.ref t3,.ref t4]) Jg;have e7:upd G6 sl (.lst [V.ref t1,.ref t2,.ref t3,.ref t4]) sl=some (.lst [V.ref t1,.ref t2,.ref t3,.ref t4]):=aa;have V7:=V6.same u7;replace S1:=S1.same u7;replace S2:=S2.same u7;replace S3:=S3.same u7;replace S4:=S4.same u7;generalize upd G6 sl (.lst [V.ref t1,.ref t2,.ref t3,.ref t4])=G7 at u7 e7 S1 S2 S3 S4 V7 ⊢;refine⟨_,rfl,_,rfl,_,rfl,_,rfl,GI,fun t5 NH=> ?_⟩;have u8:=aj.upd (o:= .tup [V.str "more",.str x,.str y,.int num]) NH;have S5:xR (upd G7 t5 (.tup [V.str "more",.str x,.str y,.int num])) (.ref t5):=xR.mk (ks:=["name","name","number"]) (ps:=[.str x,.str y,.int num]) aa (by decide+kernel) (.cons fx (.cons fy (.cons (.number num YK) .nil))) (.cons (.str _) (.cons (.str _) (.cons (.int _) .nil)));generalize upd G7 t5 (.tup [V.str "more",.str x,.str y,.int num])=G8 at u8 S5 ⊢;refine⟨_,rfl,fw,fun t6 NR=> ?_⟩;have u9:=aj.upd (o:= .tup [V.str "tell",.str x]) NR;have S6:xR (upd G8 t6 (.tup [V.str "tell",.str x])) (.ref t6):=xR.mk (ks:=["name"]) (ps:=[.str x]) aa (by decide+kernel) (.cons fx .nil) (.cons (.str _) .nil);generalize upd G8 t6 (.tup [V.str "tell",.str x])=G9 at u9 S6 ⊢;refine⟨_,rfl,_,rfl,AZ,fun t7 Oi=> ?_⟩;have Qm:=aj.upd (o:= .tup [V.str "same",.str x,.str y]) Oi;have S7:xR (upd G9 t7 (.tup [V.str "same",.str x,.str y])) (.ref t7):=xR.mk (ks:=["name","name"]) (ps:=[.str x,.str y]) aa (by decide+kernel) (.cons fx (.cons fy .nil)) (.cons (.str _) (.cons (.str _) .nil));generalize upd G9 t7 (.tup [V.str "same",.str x,.str y])=G10 at Qm S7 ⊢;refine⟨AZ,fun l2 kU=> ?_⟩;have u11:=aj.upd (o:= .lst [V.ref t5,.ref t6,.ref t7]) kU;have Zj:=(u8.trans u9).trans Qm;refine⟨sl,l2,_,_,rfl,rfl,u11 _ _ (Zj _ _ e7),aa,aen,fun l3 NZ=> ?_⟩;have Y9:=aj.upd (o:= .lst ([V.ref t1,.ref t2,.ref t3,.ref t4]++[V.ref t5,.ref t6,.ref t7])) NZ;have ZE:upd (upd G10 l2 (.lst [V.ref t5,.ref t6,.ref t7])) l3 (.lst ([V.ref t1,.ref t2,.ref t3,.ref t4]++[V.ref t5,.ref t6,.ref t7])) l3=some (.lst ([V.ref t1,.ref t2,.ref t3,.ref t4]++[V.ref t5,.ref t6,.ref t7])):=aa;have yQ:=u11.trans Y9;refine⟨_,rfl,kind,2,rfl,rfl,?_⟩;generalize upd (upd G10 l2 (.lst [V.ref t5,.ref t6,.ref t7])) l3 (.lst ([V.ref t1,.ref t2,.ref t3,.ref t4]++[V.ref t5,.ref t6,.ref t7]))=G12 at yQ ZE ⊢;have s7:=Zj.trans yQ;have V12:=V7.same s7;refine gP (xR G12) ZE (by lia) (by show kind - 2<7;lia) ?_ fun v hv=>q v G12 hv (V12.box.mono (by lia)) V12.kp;intro z hz;simp only[CA,qu,aU,cP,cO] at hz;rcases hz with rfl|rfl|rfl|rfl|rfl|rfl|rfl
  ·exact S1.same s7
  ·exact S2.same s7
  ·exact S3.same s7
  ·exact S4.same s7
  ·exact S5.same ((u9.trans Qm).trans yQ)
  ·exact S6.same (Qm.trans yQ)
  ·exact S7.same yQ
noncomputable def i5(H H' :Hp):Hp:=fun c=>match H' c with
 |some (.lst xs)=>(match H c with
  |none=>some (.lst xs)
  |some _=>none)
 |o=>o
theorem zO{H H' :Hp}{c:Addr}{xs:ak}(h:H c=none)(e:H' c=some (.lst xs)):i5 H H' c=some (.lst xs):=by
 unfold i5;rw[e,h]
theorem jf{H H' :Hp}{c:Addr}{xs:ak}(e:H' c=some (.tup xs)):i5 H H' c=some (.tup xs):=by
 unfold i5;rw[e]
theorem iO{H H' :Hp}{c:Addr}{xs:ak}(e:i5 H H' c=some (.lst xs)):H c=none∧H' c=some (.lst xs):=by
 unfold i5 at e
 cases e1:H' c with
 |none=>rw[e1] at e;cases e
 |some o=>
  rw[e1] at e
  cases o with
  |lst ys=>
   cases e2:H c with
   |none=>rw[e2] at e;exact⟨rfl,e⟩
   |some _=>rw[e2] at e;cases e
  |_=>cases e
theorem sq{H H' :Hp}{c:Addr}{xs:ak}(e:i5 H H' c=some (.tup xs)):H' c=some (.tup xs):=by
 unfold i5 at e
 cases e1:H' c with
 |none=>rw[e1] at e;cases e
 |some o=>
  rw[e1] at e
  cases o with
  |lst ys=>
   cases e2:H c with
   |none=>rw[e2] at e;cases e
   |some _=>rw[e2] at e;cases e
  |_=>exact e
theorem Lb{H H1 H' fP :Hp}(f:∀c,H1 c=none→H c=none)(k:KT H' fP)(l:∀c xs,H1 c=none→H' c=some (.lst xs)→fP c=some (.lst xs)){v:V}{d:PyData}(h:Dat (i5 H1 H') v d):Dat (i5 H fP) v d:=
 we (fun c xs e=>jf (k _ _ (sq e))) (fun c xs e=>zO (f c (iO e).1) (l c xs (iO e).1 (iO e).2)) h
theorem mB{H H1 H' fP :Hp}(f:∀c,H1 c=none→H c=none)(k:KT H' fP)(l:∀c xs,H1 c=none→H' c=some (.lst xs)→fP c=some (.lst xs)){v:ak}{d:List PyData}(h:DatAll (i5 H1 H') v d):DatAll (i5 H fP) v d:=
 m5 (fun c xs e=>jf (k _ _ (sq e))) (fun c xs e=>zO (f c (iO e).1) (l c xs (iO e).1 (iO e).2)) h
theorem Qk{H H' :Hp}{v:V}{d:PyData}(h:hX H' v d):Dat (i5 H H') v d:=(h.kt fun _ _ e=>jf e).dat
theorem Jw{H H' :Hp}{v:ak}{d:List PyData}(h:DatAll (i5 H H') v d):DatAll H' v d:=m5 (fun _ _ e=>sq e) (fun _ _ e=>(iO e).2) h
noncomputable def Ds.of:List Dd→Ds
 |[]=> .nil
 |d::r=> .cons d (Ds.of r)
theorem Vh:∀l:List Dd,(Ds.of l).l=l
 |[]=>rfl
 |d::r=>by show d::(Ds.of r).l=_;rw[Vh r]
theorem jag:∀{l:List Dd},(∀d∈l,ip d)→gw (Ds.of l)
 |[],_=>by rw[Ds.of,gw];exact True.intro
 |d::r,h=>by rw[Ds.of,gw];exact⟨h d e_,jag fun x hx=>h x (ff _ hx)⟩
theorem BH{n:Nat}:∀{l:List Dd},(∀d∈l,lq d≤n)→cM (Ds.of l)≤n
 |[],_=>by rw[Ds.of,cM];exact cN _
 |d::r,h=>by rw[Ds.of,cM];exact Nat.max_le.mpr ⟨h d e_,BH fun x hx=>h x (ff _ hx)⟩
theorem IK(l:List Dd):cQ (Ds.of l)=l.length+(l.map l6).sum:=by rw[CY,Vh]
theorem Ut(l:List Dd):sL (Ds.of l)=l.map dD:=by rw[Cr,Vh]
theorem gT.trans{b f:Addr}{H H1 H2:Hp}(a:gT b f H H1)(c:gT b f H1 H2):gT b f H H2:=fun x o h1 h2 e=>c x o h1 h2 (a x o h1 h2 e)
theorem _root_.L2.aj.gY{b f:Addr}{H H' :Hp}(s:aj H H'):gT b f H H' :=fun c o _ _ e=>s _ _ e
theorem Kept.gY{b f:Addr}{H H' :Hp}(s:Kept b H H'):gT b f H H' :=fun c o h _ e=>s _ _ h e
theorem gT.kt{b f:Addr}{H H' :Hp}{k:Nat}{xs:ak}(a:gT b f H H')(B:c9 H b k)(hl:H f=some (.lst xs)):KT H H' :=fun c ys e=>by
 obtain⟨x,y,z,hb,_⟩:=B;exact a _ _ (bW e hb (fun z=>nomatch z)) (bW e hl (fun z=>nomatch z)) e
theorem CC{H:Hp}{a p:Addr}{xs:ak}{Q:VK}(ha:H a=some (.lst xs))(hp:H p=some (.lst []))(q:Q (.bl xs.isEmpty) H):YX false (.ref a) (.ref p) H Q:=by
 refine⟨a,p,xs,[],rfl,rfl,ha,hp,?_⟩
 cases xs with
 |nil=>exact .inr ⟨rfl,rfl,rfl,q⟩
 |cons x r=>exact .inl ⟨(fun z=>by cases z),q⟩
structure LY(H H1:Hp)(b lf fl:Addr)(H' :Hp)(kc:Nat)(m:Int)(ds:List Dd)(ws:ak):Prop where
 kp:gT b lf H H'
 fl:H' fl=some (.lst ws)
 dat:DatAll (i5 H1 H') ws (ds.map dD)
 box:c9 H' b kc
 left:H' lf=some (.lst [.int m])
theorem LY.move{H H1 H' fP :Hp}{b lf fl:Addr}{kc YI :Nat}{m m' :Int}{ds:List Dd}{ws:ak}(h:LY H H1 b lf fl H' kc m ds ws)(n1:H1 b≠none)(n2:H1 lf≠none)(nb:fl≠b)(nf:fl≠lf)(k:gT b lf H' fP)(B:c9 fP b YI)(L:fP lf=some (.lst [.int m'])):LY H H1 b lf fl fP YI m' ds ws:=
 ⟨h.kp.trans k,k _ _ nb nf h.fl,mB (fun _ e=>e) (k.kt h.box h.left) (fun c xs e1 e2=>k _ _ (fun z=>n1 (z▸e1)) (fun z=>n2 (z▸e1)) e2) h.dat,B,L⟩
theorem LY.push{H H1 H' :Hp}{b lf fl:Addr}{kc:Nat}{m:Int}{ds:List Dd}{ws:ak}{v:V}{d:Dd}(h:LY H H1 b lf fl H' kc m ds ws)(n0:H fl=none)(n1:H1 fl≠none)(nb:fl≠b)(nf:fl≠lf)(g:Dat (i5 H1 H') v (dD d)):LY H H1 b lf fl (upd H' fl (.lst (ws++[v]))) kc m (ds++[d]) (ws++[v]):=by
 have k:KT H' (upd H' fl (.lst (ws++[v]))):=KT.upd h.fl
 have l:∀c xs,H1 c=none→H' c=some (.lst xs)→upd H' fl (.lst (ws++[v])) c=some (.lst xs):=fun c xs e1 e2=>by
  rw[av (fun z:c=fl=>n1 (z▸e1))];exact e2
 refine⟨fun c o h1 h2 e=> ?_,aa,?_,?_,?_⟩
 ·rw[av (aw e n0)];exact h.kp _ _ h1 h2 e
 ·rw[fJ];exact nA (mB (fun _ e=>e) k l h.dat) (.cons (Lb (fun _ e=>e) k l g) .nil)
 ·obtain⟨x,y,z,hb,r⟩:=h.box;exact⟨x,y,z,by rw[av nb.symm];exact hb,r⟩
 ·rw[av nf.symm];exact h.left
structure BdN(rm k:Nat)(lv:Int)(kc:Nat)(m:Int)(ds:List Dd):Prop where
 ok:∀d∈ds,ip d
 dp:∀d∈ds,lq d≤rm
 mn:ds.length+(ds.map l6).sum+m.toNat≤lv.toNat
 kb:(kc:Int)+30*m≤k+30*lv+1
 lo:0≤lv→ -(2*(rm:Int))≤m
 VO:lv<0→m=lv
 le:m≤lv
theorem BdN.push{rm k:Nat}{lv:Int}{kc YI :Nat}{m m' :Int}{ds:List Dd}{d:Dd}(h:BdN rm k lv kc m ds)(hm:1≤m)(ok:ip d)(dp:lq d≤rm)(mn:1+l6 d+m'.toNat≤m.toNat)(kb:(YI :Int)+30*m'≤kc+30*m)(lo: -(2*(rm:Int))≤m')(le:m'≤m):BdN rm k lv YI m' (ds++[d]):=by
 have h1:=h.mn;have h2:=h.kb;have h3:=h.le;have h4:=h.VO;refine⟨fun x hx=> ?_,fun x hx=> ?_,?_,by lia,fun _=>lo,fun z=>by have:=h4 z;lia,by lia⟩
 ·rcases eK.mp hx with hx|hx
  ·exact h.ok x hx
  ·rw[hV.mp hx];exact ok
 ·rcases eK.mp hx with hx|hx
  ·exact h.dp x hx
  ·rw[hV.mp hx];exact dp
 ·rw[ba,fJ,List.sum_append];show ds.length+1+((ds.map l6).sum+(l6 d+0))+m'.toNat≤_
  lia
structure zJ(n:Nat)(H:Hp)(b lf nl ll al:Addr)(rm k:Nat)(lv:Int)(ns yV ar:ao):Prop where
 room:rm<n
 r8:rm≤8
 box:c9 H b k
 left:H lf=some (.lst [.int lv])
 low: -40+2*(rm:Int)≤lv
 up:lv≤44
 kb:(k:Int)+30*lv+2000≤90000
 nm:A2 H nl ns
 ne:ns≠[]
 lb:A2 H ll yV
 lg:∀x∈yV,x≠ "ground"
 arA:A2 H al ar
 arn:ar.length+rm≤20
 d1:lf≠b
 d2:nl≠b∧nl≠lf
 d3:ll≠b∧ll≠lf
 d4:al≠b∧al≠lf
structure yW(H:Hp)(b lf l:Addr)(rm k:Nat)(lv:Int)(ds:List Dd)(H' :Hp)(k' :Nat)(CO :Int):Prop where
 new:H l=none
 ls:∃ws,H' l=some (.lst ws)∧DatAll (i5 H H') ws (ds.map dD)
 ok:∀d∈ds,ip d
 dp:∀d∈ds,lq d≤rm
 mn:ds.length+(ds.map l6).sum+CO.toNat≤lv.toNat
 box:c9 H' b k'
 left:H' lf=some (.lst [.int CO])
 kb:(k' :Int)+30*CO≤k+30*lv+1
 lo:0≤lv→ -(1+2*(rm:Int))≤CO
 VO:lv<0→lv - 1≤CO
 le:CO≤lv
 kp:gT b lf H H'
theorem A2.k2{H H' :Hp}{l b f:Addr}{ns:ao}(h:A2 H l ns)(k:gT b f H H')(n:l≠b∧l≠f):A2 H' l ns:=⟨k _ _ n.1 n.2 h.1,h.2⟩
theorem zJ.again{n n' :Nat}{H H' :Hp}{b lf nl ll al IC :Addr}{rm rm' k k' :Nat}{lv CO :Int}{ns yV ar ar' :ao}(h:zJ n H b lf nl ll al rm k lv ns yV ar)(hr:rm' <n')(hr1:rm' +1=rm)(kp:gT b lf H H')(B:c9 H' b k')(L:H' lf=some (.lst [.int CO]))(lo: -(2*(rm' :Int)+1)≤CO)(up:CO≤lv)(kb:(k' :Int)+30*CO≤k+30*lv)(a:A2 H' IC ar')(d:IC≠b∧IC≠lf)(hl:ar'.length≤ar.length+1):zJ n' H' b lf nl ll IC rm' k' CO ns yV ar' :=by
 have h1:=h.r8;have h2:=h.up;have h3:=h.kb;have h4:=h.arn;exact⟨hr,by lia,B,L,by lia,by lia,by lia,h.nm.k2 kp h.d2,h.ne,h.lb.k2 kp h.d3,h.lg,a,by lia,h.d1,h.d2,h.d3,d⟩
theorem Ws{s1 s2:Ds}{t u:Bool}(h1:gw s1)(h2:gw s2):ip (.mk "either" [] (.cons t s1 (.cons u s2 .nil))):=by
 rw[ip,mw,mw,mw];exact⟨⟨[],by show(("either" :Str),(["body","body"]:ao))∈dg;decide+kernel,.nil⟩,h1,h2,True.intro⟩
theorem U3{s1:Ds}{t:Bool}{l:Str}(h1:gw s1)(hl:bB l=true)(hg:l≠ "ground"):ip (.mk "frame" [.str l] (.cons t s1 .nil)):=by
 rw[ip,mw,mw];exact⟨⟨["label"],by show(("frame" :Str),(["label","body"]:ao))∈dg;decide+kernel,.cons (.label l hl hg) .nil⟩,h1,True.intro⟩
theorem Wr{s1:Ds}{t:Bool}{l:Str}{m n:Int}(h1:gw s1)(hl:bB l=true)(hg:l≠ "ground")(m1:1≤m)(m3:m≤3)(n0:0≤n)(n4:n≤4):ip (.mk "turns" [.str l,.int m,.int n] (.cons t s1 .nil)):=by
 rw[ip,mw,mw];exact⟨⟨["label","many","times"],by show(("turns" :Str),(["label","many","times","body"]:ao))∈dg;decide+kernel,.cons (.label l hl hg) (.cons (.num "many" 1 3 m (by decide+kernel) m1 m3) (.cons (.num "times" 0 4 n (by decide+kernel) n0 n4) .nil))⟩,h1,True.intro⟩
theorem WO{tt:TT}{a b:TS}{D:Ends}{σ:L2.St}{H:Hp}(C:Prop)(ht:∀Q' :Bool→Hp→Prop,(∀H8,aj H H8→C→Q' true H8)→(∀H8,aj H H8→¬C→Q' false H8)→tt σ H Q')(ha:∀H8,aj H H8→C→a D σ H8)(hb:∀H8,aj H H8→¬C→b D σ H8):VR tt a b D σ H:=
 ht _ (fun H8 s c=>dG (ha H8 s c)) (fun H8 s c=>cA (hb H8 s c))
theorem yW.Ux{H8 H1 Ha Hz:Hp}{b lf l:Addr}{rm k k' :Nat}{lv CO :Int}{ds:List Dd}{ws:ak}(po:yW H8 b lf l rm k lv ds Ha k' CO)(o:∀c,H8 c=none→H1 c=none)(x1:H8 b≠none)(x2:H8 lf≠none)(kk:gT b lf Ha Hz)(h:DatAll (i5 H8 Ha) ws (ds.map dD)):DatAll (i5 H1 Hz) ws (sL (Ds.of ds)):=by
 rw[Ut];exact mB o (kk.kt po.box po.left) (fun c xs e1 e2=>kk c _ (fun z=>x1 (z▸e1)) (fun z=>x2 (z▸e1)) e2) h
theorem yW.lst{H8 H1 Ha Hz:Hp}{b lf l:Addr}{rm k k' :Nat}{lv CO :Int}{ds:List Dd}{ws:ak}(po:yW H8 b lf l rm k lv ds Ha k' CO)(o:∀c,H8 c=none→H1 c=none)(x1:H8 b≠none)(x2:H8 lf≠none)(kk:gT b lf Ha Hz)(e:Ha l=some (.lst ws))(h:DatAll (i5 H8 Ha) ws (ds.map dD)):Dat (i5 H1 Hz) (.ref l) (gg false (sL (Ds.of ds))):=
 .lst (zO (o _ po.new) (kk _ _ (fun z=>x1 (z▸po.new)) (fun z=>x2 (z▸po.new)) e)) (po.Ux o x1 x2 kk h)
noncomputable def VW(n:Nat):Sp:=fun vs H Q _=>∃(b lf nl ll al:Addr) (rm k:Nat) (lv:Int) (ns yV ar:ao),vs=[.ref b,.ref lf,.ref nl,.ref ll,.ref al,.int rm]∧zJ n H b lf nl ll al rm k lv ns yV ar∧
 ∀l ds H' k' CO,yW H b lf l rm k lv ds H' k' CO→Q (.ref l) H'
theorem Dl(T:Txt K mg A)(n:Nat):aM P w K mg base cK (2+n) A.qg A.xc ["_law_box_here","_law_left","_law_names_here","_law_labels","_law_around","_law_room"] (VW n):=by
 induction n with
 |zero=>exact d_ (by rintro vs H Q E ⟨b,lf,nl,ll,al,rm,k,lv,ns,yV,ar,_,h,_⟩;exact g8 _ h.room)
 |succ n ih=>
 show aM P w K mg base cK ((2+n)+1) _ _ _ _;refine T.i6.F.ok cT (fun vs H Q E h=> ?_) (fun cj Ar outer s0 H vs Q E hr h=> ?_)
 ·obtain⟨b,lf,nl,ll,al,rm,k,lv,ns,yV,ar,rfl,_⟩:=h;rfl
 ·obtain⟨b,lf,nl,ll,al,rm,k,lv,ns,yV,ar,rfl,pre,q⟩:=h
  have Xb:(kP cK P w K mg base ["_law_box_here","_law_left","_law_names_here","_law_labels","_law_around","_law_room","_law_found","_law_turn","_law_kind","_law_free","_law_one","_law_label","_law_many","_law_times","_law_inner"] "_law_body" (aq pf) A.qg cj Ar outer s0 H E).Gg.A.units<cLine:=by
   have:=hr.un;show(Ar.deeper _).units<cLine;omega
  obtain⟨afH,r8,B,Ql,low,up,kb,hnm,mq,hlb,hlg,Qo,arn,d1,d2,d3,d4⟩:=id pre;refine⟨_,(ag (eU 6 cT.nd (bg dr)) (ag (vI (gS rfl T.lO (aH (cn (aN T) hr T.aP az (ae (pv 0) (aH (cU a7 (bg (ae af (aH af))) (K1 Ct T.Iz Boot.«int» (aH (KZ (sA Xb) (pv 4) (bg dr))))))) (hj:=by lia)))) (fO 7 cT.nd) (ag (eU 8 cT.nd (cn (aN T) hr T.aP az (ae (pv 0) (aH af)) (hj:=by lia))) (ag (vQ (aO jV (cU a7 (pv 1) af) af) (GF (pv 1) af jae)) (ag (F8 9 cT.nd ["_law_label","_law_around"] 1 [4] (cz (pv 3)) (fun _ _ _ _ _=>⟨(fO 0 (show(["_law_label","_law_around"]:ao).Nodup by decide+kernel)),(EO (wp (rY (K:=K) rfl) (pv 0) (pv 1))),(pv 0)⟩)) (ag (bu (wp El (cU a7 (pv 1) af) af) (ai (aF (pv 6))) aV) (ai (bu (PW.pt (XV (wp r_ (pv 8) af) (XV (wp dM (pv 5) af) (WP (PW.pt (wS (wp (sA Xb) (pv 9) (bg dr)) (wT (wp El (pv 8) af)))))))) (ai (bf (jg eO PySem.F.slot_list_append PySem.F.type_list_append cI (pv 6) (aH (cn (zW T) hr T.rW az (ae (pv 0) (ae (pv 2) (aH (pv 4)))) (hj:=by lia)))))) (ai (bu (wp dM (pv 8) af) (ag (eU 10 cT.nd (cn ih hr T.i6 az (ae (pv 0) (ae (pv 1) (ae (pv 2) (ae (pv 3) (ae (pv 4) (aH (aO jV (pv 5) af))))))) (hj:=by lia))) (ai (bf (jg eO PySem.F.slot_list_append PySem.F.type_list_append cI (pv 6) (aH (a9 (ae aB (ae (pv 10) (aH (K1 dQ T.jP Boot.«tuple» (aH (cn ih hr T.i6 az (ae (pv 0) (ae (pv 1) (ae (pv 2) (ae (pv 3) (ae (pv 4) (aH (aO jV (pv 5) af))))))) (hj:=by lia))))))))))))) (ag (eU 11 cT.nd (cU a7 (pv 9) (cn (aN T) hr T.aP az (ae (pv 0) (aH (h8 aZ T.gi Boot.«len» (aH (pv 9))))) (hj:=by lia)))) (ag (MN (i:=12) (j:=13) rfl cT.nd rfl rfl (by decide) rfl rfl (ae (aO bz af (cn (aN T) hr T.aP az (ae (pv 0) (aH af)) (hj:=by lia))) (aH (cn (aN T) hr T.aP az (ae (pv 0) (aH af)) (hj:=by lia)))) (by rfl)) (ag (eU 14 cT.nd (cn ih hr T.i6 az (ae (pv 0) (ae (pv 1) (ae (pv 2) (ae (pv 3) (ae (aO oR (bg (aH (pv 11))) (pv 4)) (aH (aO jV (pv 5) af))))))) (hj:=by lia))) (ai (bf (jg eO PySem.F.slot_list_append PySem.F.type_list_append cI (pv 6) (aH (cU a7 (bg (ae (a9 (ae aB (ae (pv 11) (aH (K1 dQ T.jP Boot.«tuple» (aH (pv 14))))))) (aH (a9 (ae aB (ae (pv 11) (ae (pv 12) (ae (pv 13) (aH (pv 14)))))))))) (pv 8)))))))))))))))))) (ai (aF (pv 6))))),?_⟩;refine⟨mI,fun fl kW=> ?_⟩;have s1:=aj.upd (o:= .lst []) kW;have e1:upd H fl (.lst []) fl=some (.lst []):=aa;have f1:∀c,upd H fl (.lst []) c=none→H c=none:=fun c h=>s1.free h
  have g1:∀c o,upd H fl (.lst []) c=some o→c=fl∨∃o,H c=some o:=fun c o h=>by
   by_cases z:c=fl
   ·exact .inl z
   ·rw[av z] at h;exact .inr ⟨o,h⟩
  generalize upd H fl (.lst [])=H1 at s1 e1 f1 g1 ⊢;have nb:fl≠b:=B.ne kW;have nf:fl≠lf:=(aw Ql kW).symm
  have x1:H1 b≠none:=by
   obtain⟨x,y,z,hb,_⟩:=B;rw[s1 _ _ hb];exact fun z=>nomatch z
  have x2:H1 lf≠none:=by rw[s1 _ _ Ql];exact fun z=>nomatch z
  have x3:H1 fl≠none:=by rw[e1];exact fun z=>nomatch z
  have old:∀{H' :Hp} {kc:Nat} {m:Int} {ds:List Dd} {ws:ak},LY H H1 b lf fl H' kc m ds ws→∀c,H' c=none→H1 c=none:=fun{H' kc m ds ws} D c h=>by
   cases e:H1 c with
   |none=>rfl
   |some o=>
    rcases g1 c o e with z|⟨o',z⟩
    ·rw[z,D.fl] at h;cases h
    ·by_cases zb:c=b
     ·obtain⟨x,y,z',hb,_⟩:=D.box;rw[zb,hb] at h;cases h
     ·by_cases zf:c=lf
      ·rw[zf,D.left] at h;cases h
      ·rw[D.kp _ _ zb zf z] at h;cases h
  have xb:∀{H' :Hp} {kc:Nat} {m:Int} {ds:List Dd} {ws:ak},LY H H1 b lf fl H' kc m ds ws→H' b≠none∧H' lf≠none:=fun{H' kc m ds ws} D=>by
   obtain⟨x,y,z',hb,_⟩:=D.box;rw[hb,D.left];exact⟨fun z=>(nomatch z),fun z=>(nomatch z)⟩
  have D1:LY H H1 b lf fl H1 k lv [] []:=⟨s1.gY,e1,.nil,B.same s1,s1 _ _ Ql⟩;refine⟨_,rfl,fw,fun p2 D0=>⟨_,rfl,mI,fun p3 Cq=> ?_⟩⟩;have u2:=aj.upd (o:= .lst [V.int 5,V.int 14]) D0;have u3:=aj.upd (o:= .lst []) Cq;have s3:=u2.trans u3;have e3:=u3 _ _ (aa (H:=H1) (a:=p2) (o:= .lst [V.int 5,V.int 14]));refine CC (s3 _ _ (s1 _ _ Qo.1)) aa ?_;generalize upd (upd H1 p2 (.lst [V.int 5,V.int 14])) p3 (.lst [])=H3 at s3 e3 ⊢;refine .inr ⟨_,rfl,?_⟩;refine gP (fun v=>∃i:Int,v= .int i∧0<i∧i≤14) e3 (by split<;>decide) (by split;exact(show(1:Int)<2 by decide);exact(show(0:Int)<2 by decide)) ?_ fun v hv=> ?_
  ·intro z hz;simp only[aU,cP,cO] at hz
   rcases hz with rfl|rfl<;>exact⟨_,rfl,by decide,by decide⟩
  obtain⟨up2,rfl,u0,u14⟩:=hv;have D3:=D1.move x1 x2 nb nf s3.gY (D1.box.same s3) (s3 _ _ D1.left);refine⟨b,up2,k,rfl,D3.box,by lia,u0,by lia,fun cnt H4 c0 c1 B4 O4=> ?_⟩;have D4:=D3.move x1 x2 nb nf O4.kept.gY B4 (O4.kept _ _ d1 D3.left);refine⟨cnt,rfl,by lia,by lia,?_⟩;refine vT (fun i σ H' =>∃(x7 x8 x9 x10 x11 x12 x13 x14:Option V) (kc:Nat) (m:Int) (ds:List Dd) (ws:ak),σ=[some (.ref b),some (.ref lf),some (.ref nl),some (.ref ll),some (.ref al),some (.int rm),some (.ref fl),x7,x8,x9,x10,x11,x12,x13,x14]∧LY H H1 b lf fl H' kc m ds ws∧BdN rm k lv kc m ds) ⟨_,_,_,_,_,_,_,_,k+1,lv,[],[],rfl,D4,⟨(fun _ h=>nomatch h),(fun _ h=>nomatch h),by simp,by lia,fun h=>by lia,fun _=>rfl,Int.le_refl _⟩⟩ ?_ ?_
  ·rintro i σ H' hi ⟨x7,x8,x9,x10,x11,x12,x13,x14,kc,m,ds,ws,rfl,D,N⟩
   obtain⟨Nok,Ndp,Nmn,Nkb,Nlo,O8,Nle⟩:=id N
   have mlo: -40≤m:=by
    by_cases h0:0≤lv
    ·have:=Nlo h0
     lia
    ·have:=O8 (by lia)
     lia
   have wl:ws.length≤44:=by
    have:=eQ D.dat;rw[aK] at this
    lia
   have Pb:ws.length<sizeLine:=b8 (by lia);refine⟨_,rfl,b,7,kc,rfl,D.box,by lia,by decide,by decide,fun kind H5 k0 k1 B5 O5=> ?_⟩;have D5:=D.move x1 x2 nb nf O5.kept.gY B5 (O5.kept _ _ d1 D.left);refine⟨_,rfl,lf,_,0,_,rfl,rfl,bF.of D5.left,rfl,_,_,rfl,rfl,_,rfl,lf,_,0,0,rfl,rfl,D5.left,rfl,?_⟩
   have D6:LY H H1 b lf fl (upd H5 lf (.lst [.int (m - 1)])) (kc+1) (m - 1) ds ws:=D5.move x1 x2 nb nf (fun c o h1 h2 e=>by rw[av h2];exact e) (by
    obtain⟨x,y,z,hb,r⟩:=D5.box;exact⟨x,y,z,by rw[av d1.symm];exact hb,r⟩) aa
   show P6 _ _ _ _ (upd H5 lf (.lst [.int (m - 1)]));generalize upd H5 lf (.lst [.int (m - 1)])=H6 at D6 ⊢;have nm6:=hnm.k2 D6.kp d2;have lb6:=hlb.k2 D6.kp d3;have ar6:=Qo.k2 D6.kp d4;have lbl:=lb6.2.1;refine⟨_,rfl,ll,rfl,⟨_,bF.of lb6.1⟩,?_⟩;refine qm (fun v=>match v with| .str z=>decide (z∉ar)|_=>false) (fun v=>v) (dN (bF.of lb6.1)) (by rw[aK];exact bO (b8 (by lia))) ?_ fun p7 TB=> ?_
   ·intro j y H7 C1 C0 hy sm c1 c0;rw[bj] at hy
    cases ex:yV[j]? with
    |none=>rw[ex] at hy;cases hy
    |some z=>
     rw[ex] at hy;cases hy;refine⟨(fz.refl _).own (by decide),_,rfl,_,rfl,al,_,rfl,.inl (bF.of (sm _ _ ar6.1)),rfl,iP _,_,rfl,?_⟩;show if(!wL (V.str z) (ar.map V.str))=true then _ else _
     rw[jc];by_cases hz:z∈ar
     ·rw[aS hz];exact cA (c0 (br (fun h=>h hz)))
     ·rw[br hz];exact dG ⟨_,rfl,c1 (aS hz)⟩
   obtain⟨fr,sE,aeu⟩:∃fr:ao,((yV.map V.str).filter fun v=>match v with| .str z=>decide (z∉ar)|_=>false).map (fun v=>v)=fr.map V.str∧∀x∈fr,x∈yV:=by
    refine⟨yV.filter fun z=>decide (z∉ar),?_,fun x hx=>(lW.mp hx).1⟩;rw[List.map_id',List.filter_map];rfl
   rw[sE];have u7:=aj.upd (o:= .lst (fr.map V.str)) TB;have e7:upd H6 p7 (.lst (fr.map V.str)) p7=some (.lst (fr.map V.str)):=aa;have ac9:p7≠b:=D6.box.ne TB;have alL:p7≠lf:=(aw D6.left TB).symm;have D7:=D6.move x1 x2 nb nf u7.gY (D6.box.same u7) (u7 _ _ D6.left);show P6 _ _ _ _ (upd H6 p7 (.lst (fr.map V.str)));generalize upd H6 p7 (.lst (fr.map V.str))=H7 at u7 e7 D7 ⊢;refine⟨_,rfl,lf,_,0,_,rfl,rfl,bF.of D7.left,rfl,_,0,rfl,rfl,_,rfl,?_⟩;refine sU (fun hm=> ?_) (fun hm=> ?_)
   ·have hm:m - 1<0:=bQ hm;refine⟨_,rfl,q fl ds H7 (kc+1) (m - 1) ⟨kW,⟨ws,D7.fl,mB f1 (fun _ _ e=>e) (fun _ _ _ e=>e) D7.dat⟩,Nok,Ndp,by lia,D7.box,D7.left,by lia,fun h=>by have:=Nlo h;lia,fun h=>by have:=O8 h;lia,by lia,D7.kp⟩⟩
   ·have hm:¬m - 1<0:=fun z=>hm (aS z);have nm7:=hnm.k2 D7.kp d2;have lb7:=hlb.k2 D7.kp d3;have ar7:=Qo.k2 D7.kp d4;unfold MC;dsimp only;refine WO (2<kind∨rm=0∨(fr=[]∧kind<2)) (fun Q' qT qF=> ?_) (fun H8 s8 hC=> ?_) (fun H8 s8 hC=> ?_)
    ·refine⟨_,rfl,_,_,rfl,rfl,_,rfl,?_⟩;refine sU (fun h1=>qT _ (aj.refl _) (.inl (bQ h1))) (fun h1=> ?_);have h1:¬2<kind:=fun z=>h1 (aS z);refine⟨_,rfl,rfl,_,rfl,?_⟩;by_cases h2:rm=0
     ·rw[h2];exact eqT (qT _ (aj.refl _) (.inr (.inl h2)))
     ·refine iH (fun z=>h2 (by have:=V.int.inj z;lia)) ⟨_,rfl,mI,fun p8 Kj=> ?_⟩;have u8:=aj.upd (o:= .lst []) Kj;refine CC (u8 _ _ e7) aa ⟨_,rfl,?_⟩
      cases hf:fr with
      |nil=>
       refine dG ⟨_,rfl,_,_,rfl,rfl,_,rfl,?_⟩;by_cases h3:kind<2
       ·rw[aS h3];exact qT _ u8 (.inr (.inr ⟨hf,h3⟩))
       ·rw[br h3];exact qF _ u8 (fun z=>z.elim h1 fun z=>z.elim h2 fun z=>h3 z.2)
      |cons z zs=>exact cA (qF _ u8 (fun z=>z.elim h1 fun z=>z.elim h2 fun z=>by rw[hf] at z;cases z.1))
    ·have D8:=D7.move x1 x2 nb nf s8.gY (D7.box.same s8) (s8 _ _ D7.left);refine⟨_,rfl,Dm D8.fl,_,rfl,_,rfl,_,rfl,b,nl,al,kc+1,ns,ar,rfl,D8.box,by lia,⟨s8 _ _ nm7.1,nm7.2⟩,mq,⟨s8 _ _ ar7.1,ar7.2⟩,d2.1,d4.1,fun v H9 sm9 B9 K9=> ?_⟩;have D9:=D8.move x1 x2 nb nf K9.gY B9 (K9 _ _ d1 D8.left);obtain⟨wd,ps,td,gq⟩:=sm9;refine⟨fl,ws,v,rfl,rfl,D9.fl,Pb,_,_,_,_,_,_,_,_,kc+1+20,m - 1,ds++[.mk wd ps .nil],ws++[v],rfl,D9.push kW x3 nb nf (Qk td),N.push (by lia) gq (by rw[lq,l_];exact cN _) (by rw[l6,nN];lia) (by lia) (by lia) (by lia)⟩
    ·have D8:=D7.move x1 x2 nb nf s8.gY (D7.box.same s8) (s8 _ _ D7.left);have h1:¬2<kind:=fun z=>hC (.inl z);obtain⟨r,rfl⟩:∃r,rm=r+1:=⟨rm - 1,by have:rm≠0:=fun z=>hC (.inr (.inl z));lia⟩;have er:(((r+1:Nat):Int) - 1)=(r:Int):=by lia
     refine⟨_,rfl,rfl,_,rfl,?_⟩;by_cases h2:kind=2
     ·rw[h2];refine eqT ?_;have UI:zJ n H8 b lf nl ll al r (kc+1) (m - 1) ns yV ar:=pre.again (by lia) rfl D8.kp D8.box D8.left (by lia) (by lia) (by lia) (Qo.k2 D8.kp d4) d4 (by lia);refine⟨_,rfl,_,rfl,_,rfl,_,rfl,_,rfl,_,rfl,_,1,rfl,rfl,b,lf,nl,ll,al,r,kc+1,m - 1,ns,yV,ar,by simp only[er,dO],UI,fun l1 N4 Ha k1' m1 xJ=> ?_⟩;obtain⟨WX,ea,da⟩:=xJ.ls;have D9:=D8.move x1 x2 nb nf xJ.kp xJ.box xJ.left;have lo1:=xJ.lo (by lia);have le1:=xJ.le;have kb1:=xJ.kb;have mn1:=xJ.mn;have abV:zJ n Ha b lf nl ll al r k1' m1 ns yV ar:=pre.again (by lia) rfl D9.kp D9.box D9.left (by lia) (by lia) (by lia) (Qo.k2 D9.kp d4) d4 (by lia);refine⟨_,rfl,Dm D9.fl,_,rfl,_,rfl,_,rfl,_,rfl,_,rfl,_,rfl,_,rfl,_,1,rfl,rfl,b,lf,nl,ll,al,r,k1',m1,ns,yV,ar,by simp only[er,dO],abV,fun l2 ds2 Hb k2' m2 I_=> ?_⟩;obtain⟨YL,eb,db⟩:=I_.ls;have Va:=D9.move x1 x2 nb nf I_.kp I_.box I_.left;refine⟨l2,YL,rfl,.inl ⟨bF.of eb,fun t2 wb=>⟨AZ,fun t3 oj=> ?_⟩⟩⟩;have v2:=aj.upd (o:= .tup YL) wb;have v3:=aj.upd (o:= .tup [V.str "either",.ref l1,.ref t2]) oj;have yQ:=v2.trans v3;have Zs:=v3 _ _ (aa (H:=Hb) (a:=t2) (o:= .tup YL));have XZ:upd (upd Hb t2 (.tup YL)) t3 (.tup [V.str "either",.ref l1,.ref t2]) t3=some (.tup [V.str "either",.ref l1,.ref t2]):=aa;generalize upd (upd Hb t2 (.tup YL)) t3 (.tup [V.str "either",.ref l1,.ref t2])=Hz at yQ Zs XZ ⊢;have J8:=Va.move x1 x2 nb nf yQ.gY (Va.box.same yQ) (yQ _ _ Va.left);have VO:=I_.lo;have lo3:=I_.VO;have le2:=I_.le;have kb2:=I_.kb;have mn2:=I_.mn;have WZ:Dat (i5 H1 Hz) (.ref l1) (gg false (sL (Ds.of N4))):=xJ.lst (old D8) (xb D8).1 (xb D8).2 (I_.kp.trans yQ.gY) ea da;have SN:Dat (i5 H1 Hz) (.ref t2) (gg true (sL (Ds.of ds2))):= .tup (jf Zs) (I_.Ux (old D9) (xb D9).1 (xb D9).2 yQ.gY db);have dp1:=BH xJ.dp;have dp2:=BH I_.dp;have mm1:=IK N4;have mm2:=IK ds2;refine⟨fl,ws,_,rfl,rfl,J8.fl,Pb,_,_,_,_,_,_,_,_,k2',m2,ds++[.mk "either" [] (.cons false (Ds.of N4) (.cons true (Ds.of ds2) .nil))],_,rfl,J8.push kW x3 nb nf ?_,N.push (by lia) (Ws (jag xJ.ok) (jag I_.ok)) (by rw[lq,l_,l_,l_];lia) (by rw[l6,nN,nN,nN];lia) (by lia) ?_ (by lia)⟩
      ·rw[dD,bL,bL,bL];exact .tup (jf XZ) (.cons (.str _) (.cons WZ (.cons SN .nil)))
      ·by_cases h0:0≤m1
       ·have:=VO h0
        lia
       ·have:=lo3 (by lia)
        lia
     ·refine iH (fun z=>h2 (V.int.inj z)) ?_;have OG:kind<2:=by lia
      have acO:fr≠[]:=fun z=>hC (.inr (.inr ⟨z,OG⟩));have frp:=List.length_pos_iff.mpr acO
      have frl:fr.length≤100:=by
       have h1:=congrArg List.length sE;rw[aK,aK] at h1;have h2:=sV (fun v:V=>match v with| .str z=>decide (z∉ar)|_=>false) (yV.map V.str);rw[aK] at h2
       lia
      have e8:=s8 _ _ e7;refine⟨_,rfl,_,rfl,_,rfl,p7,_,rfl,.inl (bF.of e8),b,_,kc+1,rfl,D8.box,by lia,by rw[aK];lia,by rw[aK];lia,fun r9 H9 a0 a1 B9 O9=> ?_⟩;have D9:=D8.move x1 x2 nb nf O9.kept.gY B9 (O9.kept _ _ d1 D8.left);refine gP (fun v=>∃z,v= .str z∧z∈yV) (O9.kept _ _ ac9 e8) a0 a1 (fun v hv=> ?_) fun v hv=> ?_
      ·obtain⟨z,hz,rfl⟩:=fh.mp hv;exact⟨z,rfl,aeu z hz⟩
      obtain⟨iC,rfl,YU⟩:=hv;have lbn:=hlb.2.2 iC YU;have lbg:=hlg iC YU;refine⟨_,rfl,b,3,kc+1+1,rfl,D9.box,by lia,by decide,by decide,fun m3 FD b0 b1 B10 O10=> ?_⟩;have Va:=D9.move x1 x2 nb nf O10.kept.gY B10 (O10.kept _ _ d1 D9.left);refine⟨1,m3,rfl,rfl,_,rfl,b,5,kc+1+1+1,rfl,Va.box,by lia,by decide,by decide,fun t5 tH c0' c1' B11 Ze=>⟨_,_,rfl,?_⟩⟩;have WV:=Va.move x1 x2 nb nf Ze.kept.gY B11 (Ze.kept _ _ d1 Va.left);have ae4:=Qo.k2 WV.kp d4;refine⟨_,rfl,_,rfl,_,rfl,_,rfl,_,rfl,sS,fun p12 Wt=>⟨_,rfl,p12,al,_,_,rfl,rfl,aa,aj.upd Wt _ _ ae4.1,?_,fun IC MX => ?_⟩⟩
      ·rw[aK];exact bO (b8 (show 1+ar.length≤100000 by lia))
      have Qn:=(aj.upd (o:= .lst [V.str iC]) Wt).trans (aj.upd (o:= .lst ([V.str iC]++ar.map V.str)) MX);have ZE:upd (upd tH p12 (.lst [V.str iC])) IC (.lst ([V.str iC]++ar.map V.str)) IC =some (.lst ([V.str iC]++ar.map V.str)):=aa;have Y2:tH IC =none:=(aj.upd (o:= .lst [V.str iC]) Wt).free MX;generalize upd (upd tH p12 (.lst [V.str iC])) IC (.lst ([V.str iC]++ar.map V.str))=VI at Qn ZE ⊢;have J8:=WV.move x1 x2 nb nf Qn.gY (WV.box.same Qn) (Qn _ _ WV.left);have d12:IC≠b∧IC≠lf:=⟨WV.box.ne Y2,(aw WV.left Y2).symm⟩
      have adt:A2 VI IC (iC::ar):=⟨ZE,by rw[aW];lia,fun x hx=>by
       rcases aU.mp hx with rfl|hx
       ·exact lbn
       ·exact Qo.2.2 x hx⟩
      have UI:zJ n VI b lf nl ll IC r (kc+1+1+1+1) (m - 1) ns yV (iC::ar):=pre.again (by lia) rfl J8.kp J8.box J8.left (by lia) (by lia) (by lia) adt d12 (by rw[aW];lia);refine⟨_,rfl,_,1,rfl,rfl,b,lf,nl,ll,IC,r,kc+1+1+1+1,m - 1,ns,yV,iC::ar,by simp only[er,dO],UI,fun l1 N4 Ha k1' m1' xJ=> ?_⟩;obtain⟨WX,ea,da⟩:=xJ.ls;have D13:=J8.move x1 x2 nb nf xJ.kp xJ.box xJ.left;have lo1:=xJ.lo (by lia);have le1:=xJ.le;have kb1:=xJ.kb;have mn1:=xJ.mn;refine⟨_,rfl,Dm D13.fl,_,rfl,_,rfl,l1,WX,rfl,.inl ⟨bF.of ea,fun t1 wg=>⟨AZ,fun t2 wb=> ?_⟩⟩⟩;have v1:=aj.upd (o:= .tup WX) wg;have v2:=aj.upd (o:= .tup [V.str "frame",.str iC,.ref t1]) wb;have yQ:=v1.trans v2;have et1:=v2 _ _ (aa (H:=Ha) (a:=t1) (o:= .tup WX));have Zs:upd (upd Ha t1 (.tup WX)) t2 (.tup [V.str "frame",.str iC,.ref t1]) t2=some (.tup [V.str "frame",.str iC,.ref t1]):=aa;generalize upd (upd Ha t1 (.tup WX)) t2 (.tup [V.str "frame",.str iC,.ref t1])=Hb at yQ et1 Zs ⊢;refine⟨_,rfl,_,rfl,_,rfl,_,rfl,ael,fun t3 oj=>⟨fw,fun p4 NN=> ?_⟩⟩;have v3:=aj.upd (o:= .tup [V.str "turns",.str iC,.int (1+m3),.int t5,.ref l1]) oj;have v4:=aj.upd (o:= .lst [V.ref t2,.ref t3]) NN;have RX:=v3.trans v4;have XZ:=v4 _ _ (aa (H:=Hb) (a:=t3) (o:= .tup [V.str "turns",.str iC,.int (1+m3),.int t5,.ref l1]));have ep4:upd (upd Hb t3 (.tup [V.str "turns",.str iC,.int (1+m3),.int t5,.ref l1])) p4 (.lst [V.ref t2,.ref t3]) p4=some (.lst [V.ref t2,.ref t3]):=aa;refine⟨_,rfl,?_⟩;generalize upd (upd Hb t3 (.tup [V.str "turns",.str iC,.int (1+m3),.int t5,.ref l1])) p4 (.lst [V.ref t2,.ref t3])=Hz at RX XZ ep4 ⊢;have Qy:=yQ.trans RX;have D14:=D13.move x1 x2 nb nf Qy.gY (D13.box.same Qy) (Qy _ _ D13.left);have WZ:Dat (i5 H1 Hz) (.ref l1) (gg false (sL (Ds.of N4))):=xJ.lst (old J8) (xb J8).1 (xb J8).2 Qy.gY ea da;have SN:Dat (i5 H1 Hz) (.ref t1) (gg true (sL (Ds.of N4))):= .tup (jf (RX _ _ et1)) (xJ.Ux (old J8) (xb J8).1 (xb J8).2 Qy.gY da);have dp1:=BH xJ.dp;have mm1:=IK N4;refine gP (fun v=>∃d,Dat (i5 H1 Hz) v (dD d)∧ip d∧lq d≤r+1∧l6 d=cQ (Ds.of N4)) ep4 k0 OG (fun v hv=> ?_) fun v hv=> ?_
      ·simp only[aU,cP,cO] at hv;rcases hv with rfl|rfl
       ·refine⟨.mk "frame" [.str iC] (.cons true (Ds.of N4) .nil),?_,U3 (jag xJ.ok) lbn lbg,by rw[lq,l_,l_];lia,by rw[l6,nN,nN];lia⟩;rw[dD,bL,bL];exact .tup (jf (RX _ _ Zs)) (.cons (.str _) (.cons (.str _) (.cons SN .nil)))
       ·refine⟨.mk "turns" [.str iC,.int (1+m3),.int t5] (.cons false (Ds.of N4) .nil),?_,Wr (jag xJ.ok) lbn lbg (by lia) (by lia) (by lia) (by lia),by rw[lq,l_,l_];lia,by rw[l6,nN,nN];lia⟩;rw[dD,bL,bL];exact .tup (jf XZ) (.cons (.str _) (.cons (.str _) (.cons (.int _) (.cons (.int _) (.cons WZ .nil)))))
      obtain⟨d,dd,gq,Hm,NX⟩:=hv;exact⟨fl,ws,v,rfl,rfl,D14.fl,Pb,_,_,_,_,_,_,_,_,k1',m1',ds++[d],_,rfl,D14.push kW x3 nb nf dd,N.push (by lia) gq Hm (by lia) (by lia) (by lia) (by lia)⟩
  ·rintro σ H' ⟨x7,x8,x9,x10,x11,x12,x13,x14,kc,m,ds,ws,rfl,D,N⟩
   obtain⟨Nok,Ndp,Nmn,Nkb,Nlo,O8,Nle⟩:=id N;exact⟨_,rfl,q fl ds H' kc m ⟨kW,⟨ws,D.fl,mB f1 (fun _ _ e=>e) (fun _ _ _ e=>e) D.dat⟩,Nok,Ndp,Nmn,D.box,D.left,Nkb,fun h=>by have:=Nlo h;lia,fun h=>by have:=O8 h;lia,Nle,D.kp⟩⟩
noncomputable def MR:Sp:=fun vs H Q _=>∃b,vs=[.ref b]∧c9 H b 0∧∀l s H',H l=none→Dat H' (.ref l) (gg false (sL s))→gw s→cM s≤7→cQ s≤44→Kept b H H'→Q (.ref l) H'
theorem A_(T:Txt K mg A):aM P w K mg base cK 11 A.uT A.uk ["_law_box_here"] MR:=by
 refine T.uN.F.ok eZ (fun vs H Q E h=> ?_) (fun cj Ar outer s0 H vs Q E hr h=> ?_)
 ·obtain⟨b,rfl,_⟩:=h;rfl
 ·obtain⟨b,rfl,B,q⟩:=h;refine⟨_,(ag (eU 1 eZ.nd (cU a7 (bg (ae af (ae af (ae af (aH af))))) (cn (aN T) hr T.aP az (ae (pv 0) (aH af))))) (ag (eU 2 eZ.nd (cU a7 (bg (ae af (ae af (ae af (aH af))))) (cn (aN T) hr T.aP az (ae (pv 0) (aH af))))) (ag (eU 3 eZ.nd (cn (l9 T) hr T.jG az (ae (pv 0) (aH (aO bz af (cn (aN T) hr T.aP az (ae (pv 0) (aH af)))))))) (ag (eU 4 eZ.nd (cn (l9 T) hr T.jG az (ae (pv 0) (aH (aO bz af (cn (aN T) hr T.aP az (ae (pv 0) (aH af)))))))) (ag (eU 4 eZ.nd (aO oR (F1 ["_law_label"] 1 [] (cz (pv 4)) (fun _ _ _ _ _=>⟨(fO 0 (show(["_law_label"]:ao).Nodup by decide+kernel)),(EO (wp oV (pv 0) aB)),(pv 0)⟩)) (bg (ae aB (aH aB))))) (ai (aF (cn (Dl T 8) hr T.i6 az (ae (pv 0) (ae (bg (aH (pv 1))) (ae (pv 3) (ae (pv 4) (ae (bg dr) (aH (pv 2))))))))))))))),?_⟩
  have fr:∀{H' :Hp} {c:Addr} {k' :Nat},Sw b H k' H'→H' c=none→H c=none:=fun{H' c k'} W hc=>by
   cases e:H c with
   |none=>rfl
   |some o=>rw[W.kp _ o (W.box.ne hc) e] at hc;cases hc
  refine⟨GI,fun p1 RW=> ?_⟩;have W1:Sw b H 0 _:=Sw.same ⟨B,Kept.refl _ _⟩ (aj.upd (o:= .lst [V.int 12,V.int 25,V.int 40,V.int 44]) RW);have n1:p1≠b:=B.ne RW;refine⟨_,rfl,b,4,0,rfl,W1.box,by lia,by decide,by decide,fun r1 H2 a0 a1 B2 O2=> ?_⟩;have W2:=W1.take B2 O2;refine gP (fun v=>∃i:Int,v= .int i∧0≤i∧i≤44) (O2.kept _ _ n1 aa) a0 a1 ?_ fun v hv=> ?_
  ·intro x hx;simp only[aU,cP,cO] at hx
   rcases hx with rfl|rfl|rfl|rfl<;>exact⟨_,rfl,by decide,by decide⟩
  obtain⟨up,rfl,u0,u1⟩:=hv;refine⟨GI,fun p3 Cq=> ?_⟩;have W3:=W2.same (aj.upd (o:= .lst [V.int 2,V.int 3,V.int 6,V.int 7]) Cq);have n3:p3≠b:=B2.ne Cq;refine⟨_,rfl,b,4,0+1,rfl,W3.box,by lia,by decide,by decide,fun r3 H4 b0 b1 B4 O4=> ?_⟩;have W4:=W3.take B4 O4;refine gP (fun v=>∃i:Nat,v= .int (i:Int)∧i≤7) (O4.kept _ _ n3 aa) b0 b1 ?_ fun v hv=> ?_
  ·intro x hx;simp only[aU,cP,cO] at hx;rcases hx with rfl|rfl|rfl|rfl
   ·exact⟨2,rfl,by decide⟩
   ·exact⟨3,rfl,by decide⟩
   ·exact⟨6,rfl,by decide⟩
   ·exact⟨7,rfl,by decide⟩
  obtain⟨rm,rfl,hrm⟩:=hv;refine⟨_,rfl,_,rfl,b,5,0+1+1,rfl,B4,by lia,by decide,by decide,fun r5 H5 c0 c1 B5 O5=> ?_⟩;have W5:=W4.take B5 O5;obtain⟨j5,rfl⟩:∃j:Nat,r5=j:=⟨r5.toNat,by lia⟩;have e5:(1:Int)+(j5:Int)=((1+j5:Nat):Int):=by lia
  refine⟨1,_,rfl,rfl,b,1+j5,0+1+1+1,by simp only[e5,dO],B5,by lia,by lia,fun nl ns H6 hnl Pn nms enl B6 K6=> ?_⟩;have W6:Sw b H (0+1+1+1+12) H6:=⟨B6,W5.kp.trans K6⟩;have nnl:nl≠b:=B5.ne hnl;refine⟨_,rfl,_,rfl,b,6,0+1+1+1+12,rfl,B6,by lia,by decide,by decide,fun r7 H7 d0 d1 B7 O7=> ?_⟩;have W7:=W6.take B7 O7;obtain⟨j7,rfl⟩:∃j:Nat,r7=j:=⟨r7.toNat,by lia⟩;have e7:(1:Int)+(j7:Int)=((1+j7:Nat):Int):=by lia
  refine⟨1,_,rfl,rfl,b,1+j7,0+1+1+1+12+1,by simp only[e7,dO],B7,by lia,by lia,fun ll ls H8 hll OK lms ell B8 K8=> ?_⟩;have W8:Sw b H (0+1+1+1+12+1+12) H8:=⟨B8,W7.kp.trans K8⟩;have ZT:=K8 _ _ nnl (O7.kept _ _ nnl enl);refine⟨_,rfl,ll,rfl,⟨_,bF.of ell⟩,?_⟩;refine qm (fun v=>match v with| .str z=>decide (z≠ "ground")|_=>false) (fun v=>v) (dN (bF.of ell)) (by rw[aK];exact bO (b8 (by lia))) ?_ fun p9 hp9=> ?_
  ·intro j y H9 C1 C0 hy sm q1 q0;rw[bj] at hy
   cases ex:ls[j]? with
   |none=>rw[ex] at hy;cases hy
   |some z=>
    rw[ex] at hy;cases hy;refine⟨(fz.refl _).own (by decide),_,rfl,rfl,_,rfl,?_⟩;by_cases hz:z="ground"
    ·rw[show decide (V.str z=V.str "ground")=true from aS (by rw[hz])];exact cA (q0 (br (fun h=>h hz)))
    ·rw[show decide (V.str z=V.str "ground")=false from br (c6 hz)];exact dG ⟨_,rfl,q1 (aS hz)⟩
  obtain⟨fs,HN,kW,W_⟩:∃fs:ao,((ls.map V.str).filter fun v=>match v with| .str z=>decide (z≠ "ground")|_=>false).map (fun v=>v)=fs.map V.str∧fs.length≤ls.length∧∀x∈fs,x∈ls∧x≠ "ground":=by
   refine⟨ls.filter fun z=>decide (z≠ "ground"),?_,sV _ _,fun x hx=>⟨(lW.mp hx).1,bQ (lW.mp hx).2⟩⟩;rw[List.map_id',List.filter_map];rfl
  rw[HN];refine⟨fw,fun p10 X3=>⟨p9,p10,_,_,rfl,rfl,aj.upd X3 _ _ aa,aa,?_,fun UG aan=> ?_⟩⟩
  ·rw[aK];exact bO (b8 (show fs.length+2≤100000 by lia))
  have v9:=aj.upd (o:= .lst (fs.map V.str)) hp9;have v10:=aj.upd (o:= .lst [V.str "f",.str "ff"]) X3;have v11:=aj.upd (o:= .lst (fs.map V.str++[V.str "f",.str "ff"])) aan;have Ki:=(v9.trans v10).trans v11;have e11:upd (upd (upd H8 p9 (.lst (fs.map V.str))) p10 (.lst [V.str "f",.str "ff"])) UG (.lst (fs.map V.str++[V.str "f",.str "ff"])) UG=some (.lst (fs.map V.str++[V.str "f",.str "ff"])):=aa;have f11:H8 UG=none:=(v9.trans v10).free aan;generalize upd (upd (upd H8 p9 (.lst (fs.map V.str))) p10 (.lst [V.str "f",.str "ff"])) UG (.lst (fs.map V.str++[V.str "f",.str "ff"]))=tH at Ki e11 ⊢;have W11:=W8.same Ki;have n11:UG≠b:=B8.ne f11;refine⟨_,rfl,_,rfl,sS,fun lf Ql=>⟨_,rfl,_,rfl,mI,fun al GS=>⟨_,rfl,?_⟩⟩⟩;have Qn:=aj.upd (o:= .lst [V.int up]) Ql;have v13:=aj.upd (o:= .lst []) GS;have DU:=Qn.trans v13;have elf:=v13 _ _ (aa (H:=tH) (a:=lf) (o:= .lst [V.int up]));have eal:upd (upd tH lf (.lst [V.int up])) al (.lst []) al=some (.lst []):=aa;have fal:tH al=none:=Qn.free GS
  have nlf:al≠lf:=fun z=>by
   rw[z,aa] at GS;cases GS
  generalize upd (upd tH lf (.lst [V.int up])) al (.lst [])=H13 at DU elf eal ⊢;have W13:=W11.same DU;have ad4:nl≠lf:=aw (Ki _ _ ZT) Ql;have lnl:UG≠lf:=aw e11 Ql;have abX:=fr W11 Ql;refine⟨b,lf,nl,UG,al,rm,_,up,ns,fs++[("f" :Str),"ff"],[],rfl,⟨by lia,by lia,W13.box,elf,by lia,u1,by lia,⟨DU _ _ (Ki _ _ ZT),by lia,nms⟩,(fun z=>by rw[z] at Pn;simp only[jh] at Pn;lia),⟨by rw[fJ];exact DU _ _ e11,by rw[ba];show fs.length+2≤100;lia,?_⟩,?_,⟨eal,by decide,fun x hx=>nomatch hx⟩,by show 0+rm≤20;lia,(B8.ne (Ki.free Ql)).symm.symm,⟨nnl,ad4⟩,⟨n11,lnl⟩,⟨W11.box.ne fal,nlf⟩⟩,fun l ds H' k' CO po=> ?_⟩
  ·intro x hx;rcases eK.mp hx with hx|hx
   ·exact lms x (W_ x hx).1
   ·simp only[aU,cP,cO] at hx
    rcases hx with rfl|rfl<;>decide+kernel
  ·intro x hx;rcases eK.mp hx with hx|hx
   ·exact(W_ x hx).2
   ·simp only[aU,cP,cO] at hx
    rcases hx with rfl|rfl<;>decide+kernel
  ·obtain⟨ws,el,da⟩:=po.ls;have mn:=po.mn;have dp:=BH po.dp;have mm:=IK ds;refine q l (Ds.of ds) H' (fr W13 po.new) (.lst el (by rw[Ut];exact Jw da)) (jag po.ok) (by lia) (by lia) fun c o hc e=>po.kp _ _ hc (aw e abX) (W13.kp _ _ hc e)
noncomputable def w3(w:Str):Bool:=decide (w="frame")||decide (w="either")||decide (w="turns")
theorem Ml(w:Str):wL (.str w) [.str "frame",.str "either",.str "turns"]=w3 w:=by
 have:=jc w ["frame","either","turns"];rw[show(["frame","either","turns"]:ao).map V.str=[V.str "frame",.str "either",.str "turns"] from rfl] at this;rw[this];unfold w3;rw[me];simp[or_assoc]
theorem J4{w:Str}{ks:ao}(h:(w,ks)∈dg):1≤ks.length:=bQ (c_.mp (show(dg.all fun p=>decide (1≤p.2.length))=true by decide+kernel) _ h)
theorem iR{d:PyData}(h:tE "name" d):∃x,d= .str x:=by
 cases h with
 |name x h=>exact⟨x,rfl⟩
 |num _ _ _ _ hb=>exact absurd rfl (iJ hb (by decide+kernel))
noncomputable def Mc(t2 t3 t4 t5 t6:Addr):dE:=[(.inr "more",.ref t2),(.inr "get",.ref t3),(.inr "copy",.ref t4),(.inr "same",.ref t5),(.inr "put",.ref t6)]
theorem Aj{k:Str}{ks:ao}{ps:List PyData}(h:eM (k::ks) ps):∃d ds,ps=d::ds∧tE k d∧eM ks ds:=by
 cases h with
 |cons a r=>exact⟨_,_,rfl,a,r⟩
theorem Qi{ps:List PyData}(h:eM [] ps):ps=[]:=by cases h;rfl
theorem zi{H:Hp}{xs:ak}{d:PyData}{ds:List PyData}(h:DatAll H xs (d::ds)):∃x ys,xs=x::ys∧Dat H x d∧DatAll H ys ds:=by
 cases h with
 |cons a r=>exact⟨_,_,rfl,a,r⟩
theorem Ic{H:Hp}{xs:ak}(h:DatAll H xs []):xs=[]:=by cases h;rfl
theorem fU{H:Hp}{x:V}{z:Str}(h:Dat H x (.str z)):x= .str z:=by cases h;rfl
theorem Y1{k:Str}{ps:List PyData}(h:eM [k] ps):∃a,ps=[a]∧tE k a:=by
 obtain⟨a,p,rfl,f,r⟩:=Aj h;exact⟨a,by rw[Qi r],f⟩
theorem Qc{k l:Str}{ps:List PyData}(h:eM [k,l] ps):∃a b,ps=[a,b]∧tE k a∧tE l b:=by
 obtain⟨a,p,rfl,f,r⟩:=Aj h;obtain⟨b,rfl,g⟩:=Y1 r;exact⟨a,b,rfl,f,g⟩
theorem Oe{k l m:Str}{ps:List PyData}(h:eM [k,l,m] ps):∃a b c,ps=[a,b,c]∧tE k a∧tE l b∧tE m c:=by
 obtain⟨a,p,rfl,f,r⟩:=Aj h;obtain⟨b,c,rfl,g⟩:=Qc r;exact⟨a,b,c,rfl,f,g⟩
theorem aay{H:Hp}{xs:ak}{a:PyData}(h:DatAll H xs [a]):∃x,xs=[x]∧Dat H x a:=by
 obtain⟨x,p,rfl,f,r⟩:=zi h;exact⟨x,by rw[Ic r],f⟩
theorem OW{H:Hp}{xs:ak}{a b:PyData}(h:DatAll H xs [a,b]):∃x y,xs=[x,y]∧Dat H x a∧Dat H y b:=by
 obtain⟨x,p,rfl,f,r⟩:=zi h;obtain⟨y,rfl,g⟩:=aay r;exact⟨x,y,rfl,f,g⟩
theorem OQ{H:Hp}{xs:ak}{a b c:PyData}(h:DatAll H xs [a,b,c]):∃x y z,xs=[x,y,z]∧Dat H x a∧Dat H y b∧Dat H z c:=by
 obtain⟨x,p,rfl,f,r⟩:=zi h;obtain⟨y,z,rfl,g⟩:=OW r;exact⟨x,y,z,rfl,f,g⟩
noncomputable def Fb(w:Str)(L:ak):ak:=if w="more" then bY L (some 1) (some 3) else if w="get" then bY L (some 1) (some 3) else if w="copy" then bY L (some 1) none else if w="same" then bY L (some 1) none else if w="put" then Fn L else bY L (some 1) (some 2)
theorem LL{H:Hp}{w:Str}{L:ak}{t2 t3 t4 t5 t6 t7:Addr}(e2:H t2=some (.tup (bY L (some 1) (some 3))))(e3:H t3=some (.tup (bY L (some 1) (some 3))))(e4:H t4=some (.tup (bY L (some 1) none)))(e5:H t5=some (.tup (bY L (some 1) none)))
 (e6:H t6=some (.tup (Fn L))) (e7:H t7=some (.tup (bY L (some 1) (some 2)))):∃t,(jo (Mc t2 t3 t4 t5 t6) (.inr w)).getD (.ref t7)= .ref t∧H t=some (.tup (Fb w L)):=by
 unfold Fb;by_cases h1:w="more"
 ·subst h1;exact⟨t2,by with_unfolding_all rfl,e2⟩
 by_cases h2:w="get"
 ·subst h2;exact⟨t3,by with_unfolding_all rfl,e3⟩
 by_cases h3:w="copy"
 ·subst h3;exact⟨t4,by with_unfolding_all rfl,e4⟩
 by_cases h4:w="same"
 ·subst h4;exact⟨t5,by with_unfolding_all rfl,e5⟩
 by_cases h5:w="put"
 ·subst h5;exact⟨t6,by with_unfolding_all rfl,e6⟩
 refine⟨t7,?_,by rw[ay h1,ay h2,ay h3,ay h4,ay h5];exact e7⟩
 have hv:jo (Mc t2 t3 t4 t5 t6) (.inr w)=none:=by
  unfold jo Mc;rw[List.find?_eq_none.mpr]
  ·rfl
  ·intro x hx;simp only[aU,cP,cO] at hx;rcases hx with rfl|rfl|rfl|rfl|rfl
   ·simpa using fun z=>h1 z.symm
   ·simpa using fun z=>h2 z.symm
   ·simpa using fun z=>h3 z.symm
   ·simpa using fun z=>h4 z.symm
   ·simpa using fun z=>h5 z.symm
 rw[hv];rfl
theorem G4{H0:Hp}{d:Dd}{xs ys:ak}(hx:DatAll H0 xs d.ps)(hy:DatAll H0 ys (bL d.bs))(gq:ip d):w3 d.wd=true∧tQ d=[]∨w3 d.wd=false∧Fb d.wd (.str d.wd::(xs++ys))=(tQ d).map V.str:=by
 cases jaa gq with
 |ei t b u c=>exact .inl ⟨by show w3 "either"=true;decide+kernel,rfl⟩
 |tu l m n t b hl hg m1 m3 n0 n4=>exact .inl ⟨by show w3 "turns"=true;decide+kernel,by with_unfolding_all rfl⟩
 |fr l t b hl hg=>exact .inl ⟨by show w3 "frame"=true;decide+kernel,by with_unfolding_all rfl⟩
 |sm w ks ps f h n1 n2 n3=>
  have hy:DatAll H0 ys (bL .nil):=hy;rw[bL] at hy;rw[Ic hy,dO];clear hy gq;have hx:DatAll H0 xs ps:=hx;show w3 w=true∧_∨w3 w=false∧Fb w (.str w::xs)=_;simp only[dg,aU,cP,cO,Prod.mk.injEq] at f;rcases f with⟨rfl,rfl⟩|⟨rfl,rfl⟩|⟨rfl,rfl⟩|⟨rfl,rfl⟩|⟨rfl,rfl⟩|⟨rfl,rfl⟩|⟨rfl,rfl⟩|⟨rfl,rfl⟩|⟨rfl,rfl⟩|⟨rfl,rfl⟩|⟨rfl,rfl⟩
  ·obtain⟨a,b,c,rfl,fa,fb,fc⟩:=Oe h;obtain⟨x,y,z,rfl,ha,hb,hc⟩:=OQ hx;obtain⟨_,rfl⟩:=iR fa;cases fU ha;exact .inr ⟨by decide+kernel,by with_unfolding_all rfl⟩
  ·obtain⟨a,b,c,rfl,fa,fb,fc⟩:=Oe h;obtain⟨x,y,z,rfl,ha,hb,hc⟩:=OQ hx;obtain⟨_,rfl⟩:=iR fa;cases fU ha;obtain⟨_,rfl⟩:=iR fc;cases fU hc;exact .inr ⟨by decide+kernel,by with_unfolding_all rfl⟩
  ·obtain⟨a,b,c,rfl,fa,fb,fc⟩:=Oe h;obtain⟨x,y,z,rfl,ha,hb,hc⟩:=OQ hx;obtain⟨_,rfl⟩:=iR fa;cases fU ha;obtain⟨_,rfl⟩:=iR fb;cases fU hb;exact .inr ⟨by decide+kernel,by with_unfolding_all rfl⟩
  ·obtain⟨a,b,rfl,fa,fb⟩:=Qc h;obtain⟨x,y,rfl,ha,hb⟩:=OW hx;obtain⟨_,rfl⟩:=iR fa;cases fU ha;exact .inr ⟨by decide+kernel,by with_unfolding_all rfl⟩
  ·obtain⟨a,b,rfl,fa,fb⟩:=Qc h;obtain⟨x,y,rfl,ha,hb⟩:=OW hx;obtain⟨_,rfl⟩:=iR fa;cases fU ha;obtain⟨_,rfl⟩:=iR fb;cases fU hb;exact .inr ⟨by decide+kernel,by with_unfolding_all rfl⟩
  ·obtain⟨a,b,c,rfl,fa,fb,fc⟩:=Oe h;obtain⟨x,y,z,rfl,ha,hb,hc⟩:=OQ hx;obtain⟨_,rfl⟩:=iR fa;cases fU ha;obtain⟨_,rfl⟩:=iR fb;cases fU hb;exact .inr ⟨by decide+kernel,by with_unfolding_all rfl⟩
  ·obtain⟨a,rfl,fa⟩:=Y1 h;obtain⟨x,rfl,ha⟩:=aay hx;obtain⟨_,rfl⟩:=iR fa;cases fU ha;exact .inr ⟨by decide+kernel,by with_unfolding_all rfl⟩
  ·obtain⟨a,b,rfl,fa,fb⟩:=Qc h;obtain⟨x,y,rfl,ha,hb⟩:=OW hx;obtain⟨_,rfl⟩:=iR fa;cases fU ha;obtain⟨_,rfl⟩:=iR fb;cases fU hb;exact .inr ⟨by decide+kernel,by with_unfolding_all rfl⟩
  ·exact absurd rfl n3
  ·exact absurd rfl n2
  ·exact absurd rfl n1
theorem Iw{rs:List (Dd×ao)}(ok:∀r∈rs,ip r.1):(CV rs).length≤4*rs.length:=by
 have h1:=um (rs.flatMap fun r=>tQ r.1) [];have h2:=En ok;unfold CV;simp only[jh] at h1
 lia
noncomputable def Jb:Sp:=fun vs H Q _=>∃l zs N H0 rs,vs=[.ref l]∧aj H0 H∧H l=some (.lst zs)∧gj N H0 H zs rs∧(∀r∈rs,ip r.1.1)∧rs.length≤1000∧∀f H',H f=none→aj H H'→H' f=some (.lst ((CV (rs.map gr)).map V.str))→Q (.ref f) H'
theorem vX(T:Txt K mg A):aM P w K mg base cK 1 A.jn A.ou ["_law_rows"] Jb:=by
 refine T.oF.F.ok cB (fun vs H Q E h=> ?_) (fun cj Ar outer s0 H vs Q E hr h=> ?_)
 ·obtain⟨l,zs,N,H0,rs,rfl,_⟩:=h;rfl
 ·obtain⟨l,zs,N,H0,rs,rfl,ju,hl,R,Kp,rl,q⟩:=h
  have hu:(kP cK P w K mg base ["_law_rows","_law_found","_law_deed","_law_around","_law_down","_law_some","_law_name"] "_law_names_in" (aq jq) A.jn cj Ar outer s0 H E).Gg.A.units+1<cLine:=by
   have:=hr.un;show(Ar.deeper _).units+1<cLine;omega
  refine⟨_,(ag (eU 1 cB.nd (bg dr)) (ag (vI (cz (pv 0)) (lX rfl (a_ (fO 2 cB.nd) (a_ (fO 3 cB.nd) (a_ (fO 4 cB.nd) fq)))) (ag (eU 5 cB.nd (HF (i8 aB (c5 lS (pv 2) (cE af) (cE af)) (i8 aB (c5 lS (pv 2) (cE af) (cE af)) (i8 aB (c5 lS (pv 2) (cE af) gA) (i8 aB (c5 lS (pv 2) (cE af) gA) (i8 aB (L0 (pv 2) af af af) Ia))))) rfl rfl (by simp) (by decide))) (ai (vI (wj (EC hu (pv 5) (cU aX (pv 2) af) (c5 lS (pv 2) (cE af) (cE af)) ⟨rfl,rfl,rfl,rfl⟩)) (fO 6 cB.nd) (ai (bu (PW.pt (wS (wp fZ (cU aX (pv 2) af) (a9 (ae aB (ae aB (aH aB))))) (wT (wp fZ (pv 6) (pv 1))))) (ai (bf (jg eO PySem.F.slot_list_append PySem.F.type_list_append cI (pv 1) (aH (pv 6))))) aV)))))) (ai (aF (pv 1))))),?_⟩;refine⟨mI,fun fl kW=>⟨_,rfl,l,rfl,⟨_,bF.of (aj.upd kW _ _ hl)⟩,?_⟩⟩;refine dF (K:=K) (a:=l) (xs:=zs) (fun i σ H' =>∃x2 x3 x4 x5 x6:Option V,σ=[some (.ref l),some (.ref fl),x2,x3,x4,x5,x6]∧aj H H'∧H' fl=some (.lst ((CV ((rs.take i).map gr)).map V.str))) ⟨_,_,_,_,_,rfl,aj.upd kW,aa⟩ (by rintro i σ H' _ ⟨_,_,_,_,_,_,sm,_⟩;exact bF.of (sm _ _ hl)) ?_ ?_
  ·rintro i x σ H' hx ⟨x2,x3,x4,x5,x6,rfl,sm,kj⟩
   obtain⟨⟨⟨d,ar⟩,k⟩,er,t1,y,u1,rfl,f1,f2,f3,f4⟩:=R.at_ i x hx;have gq:=Kp _ (bJ er);dsimp only at f2 f4 gq;obtain⟨b,ks,xs,ys,rfl,p0⟩:=cG f2 gq;have p:=p0.same (ju.trans sm);have h4:=dz p0.f;have h1:=J4 p0.f;have pl:=p0.len.trans ba;refine⟨t1,_,rfl,bc.of (sm _ _ f1),rfl,_,_,rfl,_,_,rfl,_,_,rfl,rfl,?_⟩;generalize hL:V.str d.wd::(xs++ys)=L at p
   have Ll:2≤L.length∧L.length≤5:=by
    rw[←hL,aW,ba]
    lia
   have pe:H' b=some (.tup L):=by rw[←hL];exact p.e
   have nw:∀hi:Option Int,¬(HT.iB L.length 0 (some ((1:Nat):Int))=0∧HT.iB L.length L.length hi=L.length):=fun hi=>by rw[←hL];exact qk (k:=1) (by decide) hi
   refine fun dd k9=>⟨_,rfl,1,rfl,3,rfl,b,_,rfl,bc.of (aj.upd k9 _ _ pe),nw _,fun t2 wb=> ?_⟩;have s2:=(aj.upd (o:= .dK []) k9).trans (aj.upd (o:= .tup (bY L (some 1) (some 3))) wb);have d2:=aj.upd (o:= .tup (bY L (some 1) (some 3))) wb dd _ aa;have e2:upd (upd H' dd (.dK [])) t2 (.tup (bY L (some 1) (some 3))) t2=some (.tup (bY L (some 1) (some 3))):=aa;generalize upd (upd H' dd (.dK [])) t2 (.tup (bY L (some 1) (some 3)))=H2 at s2 d2 e2 ⊢;refine⟨_,rfl,1,rfl,3,rfl,b,_,rfl,bc.of (s2 _ _ pe),nw _,fun t3 oj=> ?_⟩;have u3:=aj.upd (o:= .tup (bY L (some 1) (some 3))) oj;have e3:upd H2 t3 (.tup (bY L (some 1) (some 3))) t3=some (.tup (bY L (some 1) (some 3))):=aa;generalize upd H2 t3 (.tup (bY L (some 1) (some 3)))=H3 at u3 e3 ⊢;refine⟨_,rfl,1,rfl,b,_,rfl,bc.of (u3 _ _ (s2 _ _ pe)),nw _,fun t4 F0=> ?_⟩;have u4:=aj.upd (o:= .tup (bY L (some 1) none)) F0;have e4:upd H3 t4 (.tup (bY L (some 1) none)) t4=some (.tup (bY L (some 1) none)):=aa;generalize upd H3 t4 (.tup (bY L (some 1) none))=H4 at u4 e4 ⊢;refine⟨_,rfl,1,rfl,b,_,rfl,bc.of (u4 _ _ (u3 _ _ (s2 _ _ pe))),nw _,fun t5 NH=> ?_⟩;have u5:=aj.upd (o:= .tup (bY L (some 1) none)) NH;have e5:upd H4 t5 (.tup (bY L (some 1) none)) t5=some (.tup (bY L (some 1) none)):=aa;generalize upd H4 t5 (.tup (bY L (some 1) none))=H5 at u5 e5 ⊢;have Xs:=(u3.trans u4).trans u5;refine⟨_,rfl,1,rfl,4,rfl,2,rfl,b,_,rfl,rfl,rfl,rfl,bc.of (Xs _ _ (s2 _ _ pe)),Ll.1,Ll.2,fun t6 NR=> ?_⟩;have u6:=aj.upd (o:= .tup (Fn L)) NR;have e6:upd H5 t6 (.tup (Fn L)) t6=some (.tup (Fn L)):=aa;generalize upd H5 t6 (.tup (Fn L))=H6 at u6 e6 ⊢;have s26:=Xs.trans u6;have d6:=s26 _ _ d2
   have PZ:sj [] (Mc t2 t3 t4 t5 t6)=Mc t2 t3 t4 t5 t6:=by with_unfolding_all rfl
   refine⟨d6,Mc t2 t3 t4 t5 t6,rfl,(show 5≤15 by decide),?_⟩;rw[PZ];have s7:aj H' (upd H6 dd (.dK (Mc t2 t3 t4 t5 t6))):=fC k9 (s2.trans s26)
   have k7:KT H6 (upd H6 dd (.dK (Mc t2 t3 t4 t5 t6))):=fun c ys e=>by
    rw[av (bW e d6 (fun z=>nomatch z))];exact e
   have d7:upd H6 dd (.dK (Mc t2 t3 t4 t5 t6)) dd=some (.dK (Mc t2 t3 t4 t5 t6)):=aa;generalize upd H6 dd (.dK (Mc t2 t3 t4 t5 t6))=H7 at s7 k7 d7 ⊢;refine⟨_,rfl,dd,rfl,.inl ⟨_,.inl d7⟩,_,rfl,b,_,0,_,rfl,rfl,bc.of (s7 _ _ pe),by rw[←hL];exact l5 _ _,_,rfl,1,rfl,2,rfl,b,_,rfl,bc.of (s7 _ _ pe),nw _,fun t7 Oi=>⟨_,Jv.k (k:= .inr d.wd) (aj.upd Oi _ _ d7),?_⟩⟩;have u8:=aj.upd (o:= .tup (bY L (some 1) (some 2))) Oi;have e8:upd H7 t7 (.tup (bY L (some 1) (some 2))) t7=some (.tup (bY L (some 1) (some 2))):=aa;generalize upd H7 t7 (.tup (bY L (some 1) (some 2)))=H8 at u8 e8 ⊢;have s8:=s7.trans u8;have kk:∀c ys,H6 c=some (.tup ys)→H8 c=some (.tup ys):=fun c ys e=>u8 _ _ (k7 _ _ e);obtain⟨t,ek,et⟩:=LL (H:=H8) (w:=d.wd) (kk _ _ (s26 _ _ e2)) (kk _ _ (u6 _ _ (u5 _ _ (u4 _ _ e3)))) (kk _ _ (u6 _ _ (u5 _ _ e4))) (kk _ _ (u6 _ _ e5)) (kk _ _ e6) e8;have hk:=G4 p0.hx p0.hy gq;rw[hL] at hk;generalize Fb d.wd L=items at et hk;rw[ek];refine⟨t,rfl,⟨_,bc.of et⟩,?_⟩;have Lx:=s8 _ _ kj;have htf:t≠fl:=bW et Lx (fun z=>nomatch z);have SH8:aj H H8:=sm.trans s8;have pe8:=s8 _ _ pe
   have tk:(CV ((rs.take (i+1)).map gr))=(tQ d).foldl jW (CV ((rs.take i).map gr)):=by
    unfold CV;rw[wv er,fJ,List.flatMap_append,yC];show((tQ d)++[]).foldl jW _=_;rw[dO]
   have nl:=Iw (rs:=(rs.take i).map gr) fun r hr=>by
    obtain⟨r',VZ,rfl⟩:=fh.mp hr;exact Kp r' (List.mem_of_mem_take VZ)
   rw[aK,gG] at nl;generalize CV ((rs.take i).map gr)=acc at Lx tk nl;rcases hk with⟨hw,hn⟩|⟨hw,hn⟩
   ·rw[hn] at tk;refine uh (K:=K) (a:=t) (xs:=items) (fun j σ H9=>∃x6:Option V,σ=[some (.ref l),some (.ref fl),some (.ref b),some (.ref u1),some (nI k),some (.ref dd),x6]∧aj H8 H9) ⟨x6,rfl,aj.refl _⟩ (by rintro j σ H9 _ ⟨_,_,s⟩;exact bc.of (s _ _ et)) ?_ ?_
    ·rintro j z σ H9 hz ⟨x6,rfl,s9⟩
     refine⟨_,rfl,b,_,0,_,rfl,rfl,bc.of (s9 _ _ pe8),by rw[←hL];exact l5 _ _,AZ,fun t9 ht9=>⟨t9,_,rfl,.inr (bc.of aa),rfl,rfl,_,rfl,?_⟩⟩;show if(!wL (V.str d.wd) [.str "frame",.str "either",.str "turns"])=true then _ else _
     rw[Ml,hw];exact cA ⟨_,rfl,s9.trans (aj.upd ht9)⟩
    ·rintro σ H9 ⟨x6,rfl,s9⟩
     exact⟨_,_,_,_,_,rfl,SH8.trans s9,by rw[tk];exact s9 _ _ Lx⟩
   ·subst hn;have hd4:=DO d gq;refine uh (K:=K) (a:=t) (xs:=(tQ d).map V.str) (fun j σ H9=>∃x6:Option V,σ=[some (.ref l),some (.ref fl),some (.ref b),some (.ref u1),some (nI k),some (.ref dd),x6]∧Kept fl H8 H9∧H9 fl=some (.lst ((((tQ d).take j).foldl jW acc).map V.str))) ⟨x6,rfl,Kept.refl _ _,Lx⟩ (by rintro j σ H9 _ ⟨_,_,s,_⟩;exact bc.of (s _ _ htf et)) ?_ ?_
    ·rintro j z σ H9 hz ⟨x6,rfl,s9,OC⟩
     rw[bj] at hz
     cases en:(tQ d)[j]? with
     |none=>rw[en] at hz;cases hz
     |some nm=>
      rw[en] at hz;cases hz;refine⟨_,rfl,b,_,0,_,rfl,rfl,bc.of (s9 _ _ (bW pe8 Lx (fun z=>nomatch z)) pe8),by rw[←hL];exact l5 _ _,AZ,fun t9 ht9=>⟨t9,_,rfl,.inr (bc.of aa),rfl,rfl,_,rfl,?_⟩⟩;show if(!wL (V.str d.wd) [.str "frame",.str "either",.str "turns"])=true then _ else _
      rw[Ml,hw];have u9:=aj.upd (o:= .tup [V.str "frame",.str "either",.str "turns"]) ht9;have H_:=u9 _ _ OC;refine dG ⟨_,rfl,_,rfl,fl,_,rfl,.inl (bF.of H_),rfl,iP _,_,rfl,?_⟩;show if(!wL (V.str nm) ((((tQ d).take j).foldl jW acc).map V.str))=true then _ else _
      have tj:((tQ d).take (j+1)).foldl jW acc=jW (((tQ d).take j).foldl jW acc) nm:=by
       rw[wv en,yC];rfl
      have fl4:=um ((tQ d).take j) acc;rw[gG] at fl4;rw[jc];by_cases CZ:nm∈((tQ d).take j).foldl jW acc
      ·rw[aS CZ];refine cA ⟨_,rfl,s9.trans u9.kept,?_⟩;rw[tj,jW,aA CZ];exact H_
      ·rw[br CZ];refine dG ⟨_,rfl,Dm H_,_,rfl,fl,_,_,rfl,rfl,H_,?_,_,rfl,(s9.trans u9.kept).trans fun c o hc e=>(by rw[av hc];exact e),?_⟩
       ·rw[aK];exact b8 (by lia)
       ·rw[aa,tj,jW,ay CZ,fJ];rfl
    ·rintro σ H9 ⟨x6,rfl,s9,OC⟩
     rw[aK,fK] at OC;exact⟨_,_,_,_,_,rfl,fun c o e=>s9 _ _ (aw e kW) (SH8 _ _ e),by rw[tk];exact OC⟩
  ·rintro σ H' ⟨x2,x3,x4,x5,x6,rfl,sm,kj⟩
   rw[R.len,fK] at kj;exact⟨_,rfl,q fl H' kW sm kj⟩
theorem _root_.L2.aM.calm{P:Program}{w:World}{K:Frag}{mg:Str→aI}{base:Heap}{k:Nat}{f:Addr}{fd:FuncData}{ps:ao}{sp:Sp}(F:aM P w K mg base (A8 P w) k f fd ps sp):aM P w K mg base cK k f fd ps (fun vs H Q _=>sp vs H Q E0):=
 ⟨fun vs H Q _ h=>F.len vs H Q E0 h,fun A outer s H args us vs Q _ hr he hb hv hs=>pN (F.run A outer s H args us vs Q E0 hr he hb hv hs) fun r s' h=>by
  cases r with
  |error e=>
   obtain⟨_,_,_,_,_,_,_,_,_,_,_,_,_,_,_,z⟩:=(show A8 P w outer H s E0 e s' from h);exact z
  |ok fl=>cases fl<;>exact h⟩
theorem _root_.L2.O_{X:Cx}{a b:Expr}{ta tb:TE}{pos:Pos}(ha:PE X a ta)(hb:PEm X b tb):PEm X (.BinOp a .Add b pos) (Pm Zr ta tb):=⟨aO oR ha hb.h⟩
theorem TV.data{H:Hp}{v:V}(t:TV H v):∃d,jL H v d∧Fits 200 5 d:=by
 cases t with
 |bx=>exact⟨_,.bx,vL.mono (by decide) (by decide)⟩
 |bl b=>exact⟨_,.bl b,⟨by simp only[PyData.showable],by simp[PyData.depth],by simp only[PyData.shown];cases b<;>decide+kernel⟩⟩
 |int i h=>exact⟨_,.int i,(oS h).mono (by decide) (by decide)⟩
 |str x h=>exact⟨_,.str x,⟨by simp only[PyData.showable],by simp[PyData.depth],aR h (by decide)⟩⟩
 |lst e=>exact⟨_,.lst e (.cons (.int _) .nil),((bA.cons (i_ (n:=0) (by decide)) bA.nil).list).mono (by decide) (by decide)⟩
 |tup e=>exact⟨_,.tup e (.cons (.int _) .nil),((bA.cons (i_ (n:=0) (by decide)) bA.nil).tup).mono (by decide) (by decide)⟩
 |dK e=>exact⟨_,.ZU (D:=[]) e rfl .nil,⟨by simp[PyData.showable,PyData.showableKv],by simp[PyData.depth,PyData.depthKv],by simp only[PyData.shown,PyData.shownKv];decide+kernel⟩⟩
theorem JS:Fits 100 3 (.str "more"):=⟨by simp only[PyData.showable],by simp[PyData.depth],by simp only[PyData.shown];decide+kernel⟩
noncomputable def FV(A:m9):Sp:=fun vs H Q _=>∃p tb ls s v,vs=[.ref p,v]∧iy A.ax H p tb ls s∧cQ s≤1000∧TV H v∧(∀k∈Il (fA s ["ground"]),v≠nI k)∧∀H',(∀c o,(∀xs,v= .ref c→o≠.lst xs)→H c=some o→H' c=some o)→Q (.bl true) H'
theorem tG(T:Txt K mg A):aM P w K mg base cK 5 A.m6 A.mW ["_law_program_here","_law_thing"] (FV A):=by
 refine T.mH.F.ok fj (fun vs H Q E h=> ?_) (fun cj Ar outer s0 H vs Q E hr h=> ?_)
 ·obtain⟨p,tb,ls,s,v,rfl,_⟩:=h;rfl
 ·obtain⟨p,tb,ls,s,v,rfl,pr,hm,tv,hn,q⟩:=h;have C5:=hr.gd;have AV:_+100<cLine:=gp (ur (by decide:100≤16*4+200) _) (by have:=hr.un;omega);obtain⟨dx,ho⟩:=pr.ob;obtain⟨zs,hz,Vl,Kl⟩:=id pr.rows;refine⟨_,(ag (eU 2 fj.nd (bg dr)) (ag (Jd (i:=3) rfl rfl fj.nd rfl rfl rfl T.eJ.m T.eJ.X.toExcC (fun E pn W hw=>(ai (bf (Na (pv 0) T.bw T.fV.t ((k6 T).mono (by decide)) hr T.fV.b .nil (GR hw) (aH (pv 1)))))) (fun a=>(ai (eU 2 fj.nd (bg (aH (ix (K:=K) rfl (pv 3) rfl))))))) (ag (bu (iN (h8 eB T.cS Boot.«isinstance» (ae (pv 1) (aH (iV (v:= .ty "list") rfl T.AK Boot.«list» rfl))))) (ai (bf (jg eO PySem.F.slot_list_append PySem.F.type_list_append cI (pv 1) (aH aB)))) aV) (ai (aF (KZ dM (h8 (zM C5 AV T.sm) T.h_ Boot.«repr» (aH (pv 2))) (h8 (zM C5 AV T.sm) T.h_ Boot.«repr» (aH (bg (aH (pv 1))))))))))),?_⟩;refine⟨mI,fun fl kW=> ?_⟩;have s1:=aj.upd (o:= .lst []) kW;have pr1:=pr.kt (KT.same s1) (av (aw ho kW)) (av (aw hz kW));have tv1:=tv.same s1;generalize upd H fl (.lst [])=H1 at s1 pr1 tv1 ⊢;refine⟨_,rfl,p,dx,_,rfl,s1 _ _ ho,rfl,_,rfl,p,tb,ls,s,v,rfl,pr1,hm,tv1,.inr ⟨hn,fun NS H2 s2 e=>⟨_,rfl,jS T.eJ,fun a ea=> ?_⟩⟩⟩;refine⟨_,rfl,a,_,NS,false,_,_,rfl,ea,e,T.eJ.g.toExcG,T.mT,rfl,sS,fun f2 WW=> ?_⟩;have u3:=aj.upd (o:= .lst [v]) WW;have DU:=(s1.trans s2).trans u3;have tv3:=tv.same DU;have e3:upd H2 f2 (.lst [v]) f2=some (.lst [v]):=aa
  have v3:∀a0,v= .ref a0→a0≠f2:=fun a0 z h=>by
   have t2:=tv.same (s1.trans s2);rw[z,h] at t2
   cases t2 with
   |lst e=>rw[WW] at e;cases e
   |tup e=>rw[WW] at e;cases e
   |dK e=>rw[WW] at e;cases e
  generalize upd H2 f2 (.lst [v])=H3 at u3 DU tv3 e3 ⊢;have Xm:∀H4:Hp,aj H3 H4→∀c o,(∀xs,v= .ref c→o≠.lst xs)→H c=some o→H4 c=some o:=fun H4 s4 c o _ e' =>s4 _ _ (DU _ _ e')
  have go:∀H4:Hp,(∀c o,(∀xs,v= .ref c→o≠.lst xs)→H c=some o→H4 c=some o)→H4 f2=some (.lst [v])→(∃d,jL H4 v d∧Fits 1000 10 d)→∃d,jL H4 (.ref f2) d∧d.showable=true∧d.depth≤90∧d.shown.length≤sizeLine∧∀g,H4 g=none→jL (upd H4 g (.lst [v])) (.ref g) d∧Q (.bl true) (upd H4 g (.lst [v])):=fun H4 hk hf ⟨d,dd,fd⟩=>by
   have ft:=((bA.cons fd bA.nil).list).rep (by decide) (by decide);refine⟨.list [d],.lst hf (.cons dd .nil),ft.1,ft.2.1,ft.2.2,fun g hg=>⟨.lst aa (.cons (dd.same (aj.upd hg)) .nil),q _ fun c o E6 e' =>aj.upd hg _ _ (hk c o E6 e')⟩⟩
  have out:∀H4:Hp,(∀c o,(∀xs,v= .ref c→o≠.lst xs)→H c=some o→H4 c=some o)→H4 f2=some (.lst [v])→(∃d,jL H4 v d∧Fits 1000 10 d)→YM (Pm rEq (Xe (fun xs H Q=>∃v d,xs=[v]∧jL H v d∧d.showable=true∧d.depth≤90∧d.shown.length≤sizeLine∧Q (V.str d.shown) H) (xv (M7 2) uG)) (Xe (fun xs H Q=>∃v d,xs=[v]∧jL H v d∧d.showable=true∧d.depth≤90∧d.shown.length≤sizeLine∧Q (V.str d.shown) H) (xv (VU (xv (M7 1) uG)) uG))) {nx:=fun x H' =>Q V.bx H',rt:=Q} [some (.ref p),some v,some (.ref f2),none] H4:=fun H4 hk hf hd=>by
   obtain⟨d,d1,d2,d3,d4,d5⟩:=go H4 hk hf hd;refine⟨_,rfl,_,d,rfl,d1,d2,d3,d4,_,rfl,sS,fun g hg=>⟨_,d,rfl,(d5 g hg).1,d2,d3,d4,rfl,?_⟩⟩;rw[aS rfl];exact(d5 g hg).2
  obtain⟨d0,dd0,fd0⟩:=tv3.data;have k3:∃d,jL H3 v d∧Fits 1000 10 d:=⟨d0,dd0,fd0.mono (by decide) (by decide)⟩
  cases tv3 with
  |bx=>exact⟨_,rfl,_,_,_,_,rfl,.bx,rfl,_,rfl,cA (out H3 (Xm H3 (aj.refl _)) e3 k3)⟩
  |bl b=>exact⟨_,rfl,_,_,_,_,rfl,.bl b,rfl,_,rfl,cA (out H3 (Xm H3 (aj.refl _)) e3 k3)⟩
  |int i h=>exact⟨_,rfl,_,_,_,_,rfl,.int i,rfl,_,rfl,cA (out H3 (Xm H3 (aj.refl _)) e3 k3)⟩
  |str x h=>exact⟨_,rfl,_,_,_,_,rfl,.str x,rfl,_,rfl,cA (out H3 (Xm H3 (aj.refl _)) e3 k3)⟩
  |tup e' =>exact⟨_,rfl,_,_,_,_,rfl,.tup e',rfl,_,rfl,cA (out H3 (Xm H3 (aj.refl _)) e3 k3)⟩
  |dK e' =>exact⟨_,rfl,_,_,_,_,rfl,.dK e',rfl,_,rfl,cA (out H3 (Xm H3 (aj.refl _)) e3 k3)⟩
  |lst e' =>
   rename_i a0;refine⟨_,rfl,_,_,_,_,rfl,.lst e',rfl,_,rfl,dG ⟨_,rfl,Dm e',a0,_,_,rfl,rfl,e',(show 1<sizeLine by decide),?_⟩⟩;refine out _ (fun c o E6 WY => ?_) (by rw[av (v3 a0 rfl).symm];exact e3) ⟨.list [.int 0,.str "more"],.lst aa (.cons (.int _) (.cons (.str _) .nil)),((bA.cons (i_ (n:=0) (by decide)) (bA.cons JS bA.nil)).list).mono (by decide) (by decide)⟩
   have hc:c≠a0:=fun z=>by
    rw[z] at WY;have:=DU _ _ WY;rw[e'] at this;exact E6 [.int 0] (by rw[z]) (di this).symm
   rw[av hc];exact DU _ _ WY
structure Ly(k:Nat)(d:PyData):Prop where
 lay:d.canLay0=true
 mix:PySem.SeqAt.noMix d d=true
 dp:d.depth≤k
theorem Gi{k:Nat}:∀{ds:List PyData},(∀d∈ds,Ly k d)→PyData.canLayAll0 ds=true∧PySem.SeqAt.noMixAll ds ds=true∧PyData.depthAll ds≤k
 |[],_=>by simp[PyData.canLayAll0,PySem.SeqAt.noMixAll,PyData.depthAll]
 |d::r,h=>by
  obtain⟨h1,h2,h3⟩:=Gi (ds:=r) fun x hx=>h x (ff _ hx);have g:=h d e_;refine⟨?_,?_,?_⟩
  ·simp only[PyData.canLayAll0,g.lay,h1,Bool.and_self]
  ·simp only[PySem.SeqAt.noMixAll,g.mix,h2,Bool.and_self]
  ·simp only[PyData.depthAll];exact Nat.max_le.mpr ⟨g.dp,h3⟩
theorem Ly.tup{k:Nat}{ds:List PyData}(h:∀d∈ds,Ly k d):Ly (k+1) (.tuple ds):=by
 obtain⟨h1,h2,h3⟩:=Gi h;refine⟨?_,?_,?_⟩
 ·simp only[PyData.canLay0,h1]
 ·simp only[PySem.SeqAt.noMix,h2]
 ·simp only[PyData.depth]
  lia
theorem Ly.list{k:Nat}{ds:List PyData}(h:∀d∈ds,Ly k d):Ly (k+1) (.list ds):=by
 obtain⟨h1,h2,h3⟩:=Gi h;refine⟨?_,?_,?_⟩
 ·simp only[PyData.canLay0,h1]
 ·simp only[PySem.SeqAt.noMix,h2]
 ·simp only[PyData.depth]
  lia
theorem WJ(i:Int):Ly 1 (.int i):=⟨by simp only[PyData.canLay0],by simp only[PySem.SeqAt.noMix],by simp[PyData.depth]⟩
theorem Qa{x:Str}(h:bB x=true):Ly 1 (.str x):=⟨by simp only[PyData.canLay0];exact Hu h,by simp only[PySem.SeqAt.noMix],by simp[PyData.depth]⟩
theorem Ly.shaped{k:Nat}{d:PyData}(h:Ly k d)(hk:k≤64):PySem.SeqAt.shaped d=true:=by
 unfold PySem.SeqAt.shaped;rw[h.lay,aS (aR h.dp hk)];rfl
theorem LQ{d:Dd}(ok:ip d):∀x∈tQ d,bB x=true:=by
 cases d with
 |mk w ps bs=>
  rw[ip] at ok;obtain⟨⟨ks,f,fit⟩,_⟩:=ok;intro x hx;unfold tQ at hx;obtain⟨i,hi,rfl⟩:=fh.mp hx;obtain⟨h1,h2⟩:=lW.mp hi;have h1:i<ps.length:=iA.mp h1;have hk:(wC w).getD i ""="name":=bQ h2;have hl:=nq fit;rw[xt f,cy,dP (by lia)] at hk;have ek:ks[i]? =some ks[i]:=by simp[show i<ks.length by lia]
  rw[ek] at hk;have hk:ks[i]="name":=hk;have ep:ps[i]? =some ps[i]:=by simp[h1]
  have ft:=kg fit i _ _ ek ep;rw[hk] at ft;show bB (jah (ps.getD i .none))=true;rw[cy,ep];show bB (jah ps[i])=true;generalize ps[i]=d' at ft
  cases ft with
  |name x h=>exact h
  |num _ _ _ _ hb=>exact absurd rfl (iJ hb (by decide+kernel))
theorem Nx(l:ao):∀(acc:ao) (x:Str),x∈l.foldl jW acc→x∈acc∨x∈l:=by
 induction l with
 |nil=>exact fun acc x h=> .inl h
 |cons y r ih=>
  intro acc x h;rcases ih (jW acc y) x h with h|h
  ·unfold jW at h
   split at h
   ·exact .inl h
   ·rcases eK.mp h with h|h
    ·exact .inl h
    ·exact .inr (by rw[hV.mp h];exact e_)
  ·exact .inr (ff _ h)
theorem MJ{rs:List (Dd×ao)}(ok:∀r∈rs,ip r.1):∀x∈CV rs,bB x=true:=fun x hx=>by
 rcases Nx _ _ x hx with h|h
 ·cases h
 ·obtain⟨r,hr,h⟩:=List.mem_flatMap.mp h;exact LQ (ok r hr) x h
theorem Cg:∀{xs:ao},(∀x∈xs,bB x=true)→bA (102*xs.length) 3 (xs.map PyData.str)
 |[],_=>bA.nil
 |x::r,h=>(bA.cons (iK (h x e_)) (Cg fun y hy=>h y (ff _ hy))).mono (by rw[aW];lia) (aG _)
theorem Ck:∀{ns:List Nat},(∀n∈ns,n≤1000000)→bA (102*ns.length) 3 (ns.map fun n:Nat=>PyData.int (n:Int))
 |[],_=>bA.nil
 |x::r,h=>(bA.cons (i_ (h x e_)) (Ck fun y hy=>h y (ff _ hy))).mono (by rw[aW];lia) (aG _)
theorem vD{H:Hp}:∀xs:ao,DatAll H (xs.map V.str) (xs.map PyData.str)
 |[]=> .nil
 |x::r=> .cons (.str x) (vD r)
theorem EZ{H:Hp}:∀ns:List Nat,DatAll H (ns.map nI) (ns.map fun n:Nat=>PyData.int (n:Int))
 |[]=> .nil
 |x::r=> .cons (.int _) (EZ r)
theorem Mz(s:Ds):fA s ["ground"]=(lC s [] 0).map gr:=Ld s [] 0
theorem jap(s:Ds):((List.range (lC s [] 0).length).filter fun i=>decide ((((lC s [] 0)[i]?).map fun r=>r.1.1.wd)=some ("make" :Str)))=Il (fA s ["ground"]):=by
 unfold Il;rw[Mz,aK];refine List.filter_congr fun i _=> ?_;rw[bj,Option.map_map];rfl
theorem Uu{rs:List (Dd×ao)}:∀k∈Il rs,k<rs.length:=fun k hk=>iA.mp (lW.mp hk).1
theorem PM{rs:List (Dd×ao)}:(Il rs).length≤rs.length:=by
 unfold Il;refine aR (sV _ _) ?_;rw[lV];exact aG _
theorem N0{A B:Prop}{x:V}(h:B):if(!decide (x=x))=true then A else B:=by
 rw[aS rfl];exact cA h
noncomputable abbrev zd(n:Nat)(a t d:Addr):ak:=[.int (n:Int),.int (-1),.bx,.bl true,.str "0",.ref a,.ref t,.ref d,.int ((10:Int) ^ (29:Int).toNat)]
theorem Fe{d:Dd}{ar:ao}(ok:ip d)(h:∀x∈ar,bB x=true):∀x∈mR d ar,bB x=true:=fun x hx=>by
 unfold mR at hx
 split at hx
 ·rename_i hb;rcases aU.mp hx with rfl|hx
  ·cases jaa ok with
   |ei t b u c=>exact absurd hb (by show ¬cV "either"=true;decide+kernel)
   |tu l m n t b hl hg _ _ _ _=>exact hl
   |fr l t b hl hg=>exact hl
   |sm w ks ps f hf n1 n2 n3=>
    have hb:cV w=true:=hb;unfold cV at hb;rw[br n3,br n2] at hb;cases hb
  ·exact h x hx
 ·exact h x hx
theorem Pd(d:Dd)(ar:ao):(mR d ar).length≤ar.length+1:=by
 unfold mR
 split
 ·exact aG _
 ·exact lJ _
mutual
theorem YS:∀(d:Dd) (ar:ao) (k:Nat),ip d→(∀x∈ar,bB x=true)→∀r∈D2 d ar k,(∀x∈r.1.2,bB x=true)∧r.1.2.length≤ar.length+lq d
 | .mk w ps bs,ar,k,ok,h,r,hr=>by
  rw[D2] at hr;rw[lq];rcases aU.mp hr with rfl|hr
  ·exact⟨h,lL _ _⟩
  ·cases bs with
   |nil=>rw[DE] at hr;cases hr
   |cons t b q=>
    have g:=Sa (.cons t b q) _ (k+1) (gQ ok) (Fe ok h) r hr;have:=Pd (.mk w ps (.cons t b q)) ar;have hd:1≤l_ (.cons t b q):=by rw[l_];lia
    exact⟨g.1,by have:=g.2;lia⟩
theorem Ii:∀(s:Ds) (ar:ao) (k:Nat),gw s→(∀x∈ar,bB x=true)→∀r∈lC s ar k,(∀x∈r.1.2,bB x=true)∧r.1.2.length≤ar.length+cM s
 | .nil,ar,k,ok,h,r,hr=>by rw[lC] at hr;cases hr
 | .cons d q,ar,k,ok,h,r,hr=>by
  rw[gw] at ok;rw[lC] at hr;rw[cM];rcases eK.mp hr with hr|hr
  ·have g:=YS d ar k ok.1 h r hr;exact⟨g.1,by have:=g.2;lia⟩
  ·have g:=Ii q ar k ok.2 h r hr;exact⟨g.1,by have:=g.2;lia⟩
theorem Sa:∀(b:Bs) (ar:ao) (k:Nat),mw b→(∀x∈ar,bB x=true)→∀r∈DE b ar k,(∀x∈r.1.2,bB x=true)∧r.1.2.length+1≤ar.length+l_ b
 | .nil,ar,k,ok,h,r,hr=>by rw[DE] at hr;cases hr
 | .cons t b q,ar,k,ok,h,r,hr=>by
  rw[mw] at ok;rw[DE] at hr;rw[l_];rcases eK.mp hr with hr|hr
  ·have g:=Ii b ar k ok.1 h r hr;exact⟨g.1,by have:=g.2;lia⟩
  ·have g:=Sa q ar k ok.2 h r hr;exact⟨g.1,by have:=g.2;lia⟩
end
theorem PH(s:Ds)(ok:gw s){k:Nat}{r:LR}(e:(lC s [] 0)[k]? =some r):∀x∈r.1.2,bB x=true:=(Ii s [] 0 ok (fun _ h=>nomatch h) r (bJ e)).1
theorem Wz(s:Ds)(ok:gw s){k:Nat}{r:LR}(e:(lC s [] 0)[k]? =some r):r.1.2.length≤cM s:=by
 have:=(Ii s [] 0 ok (fun _ h=>nomatch h) r (bJ e)).2;simpa using this
noncomputable def Qs(A:m9):Sp:=fun vs H Q _=>∃p tb ls s v t,vs=[.ref p,v]∧iy A.ax H p tb ls s∧Dat H v (gg t (sL s))∧gw s∧cQ s≤40∧cM s≤6∧∀H',aj H H'→Q (.bl true) H'
theorem iy.same{C:Addr}{H H' :Hp}{p tb ls:Addr}{s:Ds}(pr:iy C H p tb ls s)(k:aj H H'):iy C H' p tb ls s:=by
 obtain⟨⟨dx,ho⟩,_,zs,hz,_⟩:=id pr;exact pr.kt (KT.same k) ((k _ _ ho).trans ho.symm) ((k _ _ hz).trans hz.symm)
theorem eW(T:Txt K mg A)(Fm:rT P w K A fm):aM P w K mg base cK 19 A.nQ A.uF ["_law_program_here","_law_body_here"] (Qs A):=by
 have v7:=(k6 (P:=P) (w:=w) (base:=base) T).calm;refine T.eD.F.okM cX (fun vs H Q E h=> ?_) (fun cj Ar outer s0 H vs Q E hr h=> ?_)
 ·obtain⟨p,tb,ls,s,v,t,rfl,_⟩:=h;rfl
 ·obtain⟨p,tb,ls,s,v,t,rfl,pr,hd,ok,mn,dp,q⟩:=h;have C5:=hr.gd;have AV:_+100<cLine:=gp (ur (by decide:100≤16*18+200) _) (by have:=hr.un;omega)
  have Xb:(kP cK P w K mg base ["_law_program_here","_law_body_here","_law_rows","_law_makings","_law_turn","_law_some","_law_k","_law_found","_law_bad"] "_law_right" (aq nK) A.nQ cj Ar outer s0 H E).Gg.A.units<cLine:=by
   have:=hr.un;show(Ar.deeper _).units<cLine;omega
  obtain⟨dx,ho⟩:=pr.ob;refine⟨_,(cJ ⟨(eU 2 cX.nd (cn (pU T 9) hr T.iY az (ae (pv 1) (ae (bg dr) (aH af)))))⟩ (cJ ⟨(eU 3 cX.nd (F1 ["_law_k","_law_row"] 2 [] (vo rfl T.w6 (aH (pv 2))) (fun _ _ _ _ _=>⟨(uA (K:=K) (n:=2) rfl rfl (a_ (fO 0 (show(["_law_k","_law_row"]:ao).Nodup by decide+kernel)) (a_ (fO 1 (show(["_law_k","_law_row"]:ao).Nodup by decide+kernel)) fq)) rfl rfl),(EO (wp dM (cU (yL (K:=K) rfl) (cU (yL (K:=K) rfl) (pv 1) af) af) aB)),(pv 0)⟩)))⟩ (cJ ⟨(vI (gS rfl T.lO (aH af)) (fO 4 cX.nd) (ag (bu (PW.pt (XV (wp oV (h8 (dB C5 AV) T.h_ Boot.«repr» (aH (GA (pv 0) T.bw T.pK (xW T) hr az))) (h8 (dB C5 AV) T.h_ Boot.«repr» (aH (cn (rE T 9) hr T.jH az (aH (pv 1)))))) (WP (wp oV (GA (pv 0) T.bw T.oC (vR T) hr az) (h8 aZ T.gi Boot.«len» (aH (pv 2))))))) (ai (aF lE)) aV) (ag (bu (wp (Bp AV) (a9 (ae (GA (pv 0) T.bw T.mG (uV T Fm) hr az) (aH (GA (pv 0) T.bw T.lz (sr T Fm) hr az)))) (cn (uJ T 9) hr T.lN az (aH (pv 1)))) (ai (aF lE)) aV) (ag (eU 5 cX.nd (bg (ae (GA (pv 0) T.bw T.oq (wF T Fm) hr az) (aH (GA (pv 0) T.bw T.hW (ke T) hr az))))) (ag (bu (wp oV (h8 (dB C5 AV) T.h_ Boot.«repr» (aH (pv 5))) (h8 (dB C5 AV) T.h_ Boot.«repr» (aH (bg (ae (cn (vX T) hr T.oF az (aH (pv 2))) (aH (pv 3))))))) (ai (aF lE)) aV) (ag (vI (cz (pv 3)) (fO 6 cX.nd) (ag (eU 7 cX.nd (pmf (pv 0) T.bw T.fV v7 hr az (aH (pv 6)))) (ag (bu (wp (Bp AV) (pv 7) (aO oR (cU aX (cU a7 (pv 2) (pv 6)) af) (bg (aH aB)))) (ai (aF lE)) aV) (ai (bf (GL eO slot_list_clear type_list_clear Eb (pv 7))))))) (ag (bf (jg eO PySem.F.slot_list_append PySem.F.type_list_append cI (cU a7 (pv 5) af) (aH aB))) (ai (bf (GL eO slot_list_clear type_list_clear Eb (cU a7 (pv 5) af)))))))))))⟩ (cJ (Ip (i:=8) cX.nd rfl (Or.inl rfl) (O_ (F1 ["_law_k","_law_makings"] 1 [3] (gS rfl T.lO (aH (h8 aZ T.gi Boot.«len» (aH (pv 2))))) (fun _ _ _ _ _=>⟨(fO 0 (show(["_law_k","_law_makings"]:ao).Nodup by decide+kernel)),(EO (wp (rY (K:=K) rfl) (pv 0) (pv 1))),(pv 0)⟩)) (IE (b9 (fun _ _=>rfl) (h8 aZ T.gi Boot.«len» (aH (pv 2))) (b9 (fun _ _=>rfl) (YT US af) (b9 (fun _ _=>rfl) g_ (b9 (fun _ _=>rfl) lE (b9 (fun _ _=>rfl) aB (b9 (fun _ _=>rfl) (bg (aH af)) (b9 (fun _ _=>rfl) (a9 (aH af)) (b9 (fun _ _=>rfl) ER (b9 (fun _ _=>rfl) (aO wo af af) HK))))))))))) (by kernel_rfl) (Or.inl rfl)) (uc ⟨(aF (KZ (sA Xb) (F1 ["_law_thing","_law_program_here"] 1 [0] (cz (pv 8)) (fun _ _ _ _ _=>⟨(fO 0 (show(["_law_thing","_law_program_here"]:ao).Nodup by decide+kernel)),(EO (kK (iN (cn (tG T) hr T.mH az (ae (pv 1) (aH (pv 0))))))),(pv 0)⟩)) (bg dr)))⟩))))),?_⟩;refine⟨_,rfl,mI,fun u hu=> ?_⟩;have su:=aj.upd (o:= .lst []) hu;refine⟨upd H u (.lst []),v,t,s,u,[],0,rfl,aj.refl _,hd.same su,ok,by lia,aa,by lia,by show 0+_<_;lia,fun l rz H1 hl s1 hrz R=> ?_⟩;have sH1:=su.trans s1;have Kp:=T4 ok 0;have rl:=R.len;have ml:(lC s [] 0).length=cQ s:=lh s [] 0;generalize hH0:upd H u (.lst [])=H0 at su s1 R;refine⟨_,rfl,l,_,rfl,hrz,?_⟩;refine gc (fun i=>decide ((((lC s [] 0)[i]?).map fun r=>r.1.1.wd)=some ("make" :Str))) (fun i=>nI i) (yX (bF.of hrz)) (bO (b8 (show rz.length≤100000 by lia))) ?_ fun p2 H2 D0 s2 h2=> ?_
  ·rintro i x H' C1 C0 hi sm ⟨tt,y,rfl,hT,hy⟩ c1 c0
   obtain⟨⟨⟨d,ar⟩,k⟩,er,t1,y',u1,rfl,f1,f2,f3,f4⟩:=R.at_ i y hy;have gq:=Kp _ (bJ er);dsimp only at f2 f4 gq;obtain⟨b,ks,xs,ys,rfl,p0⟩:=cG f2 gq;refine⟨tt,_,rfl,bc.of hT,rfl,_,_,rfl,_,_,rfl,rfl,((fz.refl _).own (by decide)).own (by decide),_,rfl,t1,_,0,_,rfl,rfl,bc.of (sm _ _ f1),rfl,b,_,0,_,rfl,rfl,bc.of (sm _ _ (s1 _ _ p0.e)),l5 _ _,rfl,_,rfl,?_⟩;rw[er] at c1 c0;by_cases hw:d.wd="make"
   ·rw[hw];exact eqT ⟨_,rfl,c1 (aS (congrArg some hw)) H' (aj.refl H')⟩
   ·exact iH (c6 hw) (c0 (br (fun z=>hw (di z))) H' (aj.refl H'))
  rw[rl,jap] at h2;have mlt:=Uu (rs:=fA s ["ground"]);have mle:=PM (rs:=fA s ["ground"]);have lsl:=jO s ["ground"];have AW:=sH1.trans s2;have OR:=s2 _ _ hrz;have R2:=R.same s2;have NT:=pr.same AW;have hd2:=hd.same AW;have IS:=AW _ _ ho;have s02:aj H0 H2:=s1.trans s2;generalize hmk:Il (fA s ["ground"])=mk at h2 mlt mle
  have okg:∀r∈(lC s [] 0).map gr,ip r.1:=fun r hr=>by
   obtain⟨r',VZ,rfl⟩:=fh.mp hr;exact Kp r' VZ
  have nml:=Iw okg;have nmn:=MJ okg;have Xx:=((shS _ (tq s ok)).tup).rep (by obtain⟨e1,e2,_⟩:=AJ s;lia) (by obtain⟨e1,_⟩:=AJ s;lia);have cst:=wG s ok;have cpt:=vC (d:=cM s) (m:=cQ s) (by lia) (by lia);refine⟨2,rfl,by decide,by decide,?_⟩;refine vT (fun i σ H' =>∃x4 x5 x6 x7 x8:Option V,σ=[some (.ref p),some v,some (.ref l),some (.ref p2),x4,x5,x6,x7,x8]∧aj H2 H') ⟨_,_,_,_,_,rfl,aj.refl _⟩ ?_ ?_
  ·rintro i σ H' hi ⟨x4,x5,x6,x7,x8,rfl,sm⟩
   have prA:=NT.same sm;have hoA:=sm _ _ IS;refine⟨_,rfl,p,dx,_,rfl,hoA,rfl,p,tb,ls,s,rfl,prA,_,_,rfl,prA.body.dat,Xx.1,Xx.2.1,Xx.2.2,?_⟩;refine⟨_,rfl,H',v,t,s,rfl,aj.refl _,hd2.same sm,ok,by lia,by lia,fun tt H3 sF s3 td=>⟨_,_,rfl,td.dat,Xx.1,Xx.2.1,Xx.2.2,rfl,_,rfl,N0 ?_⟩⟩;have XG:=sm.trans s3;have prB:=NT.same XG;refine⟨_,rfl,p,dx,_,rfl,XG _ _ IS,rfl,p,tb,ls,s,rfl,prB,_,rfl,l,_,rfl,.inl (bF.of (XG _ _ OR)),rfl,_,rfl,?_⟩;rw[show V.int ((rz.length:Nat):Int)=nI (cQ s) by rw[rl,ml];rfl];refine N0 ?_;refine⟨_,rfl,p,dx,_,rfl,XG _ _ IS,rfl,p,tb,ls,s,rfl,prB,ok,mn,dp,fun H4 s4=> ?_⟩;have sm4:=XG.trans s4;refine⟨_,rfl,p,dx,_,rfl,sm4 _ _ IS,rfl,p,tb,ls,s,rfl,NT.same sm4,ok,mn,dp,fun H5 s5=>⟨fw,fun t6 NR=> ?_⟩⟩;have u6:=aj.upd (o:= .tup [nI (gD s),nI (gC s)]) NR;have sm6:=(sm4.trans s5).trans u6;refine⟨_,rfl,_,v,t,s,rfl,aj.refl _,hd2.same sm6,ok,by lia,fun t7 H7 Oi s7 e7=> ?_⟩;have dW:∀(Hx:Hp) (a:Addr),Hx a=some (.tup [nI (gD s),nI (gC s)])→Dat Hx (.ref a) (.tuple [.int (gD s:Int),.int (gC s:Int)]):=fun Hx a e=> .tup e (.cons (.int _) (.cons (.int _) .nil))
   have L6:Ly 2 (.tuple [.int (gD s:Int),.int (gC s:Int)]):=Ly.tup (k:=1) fun d hd=>by
    simp only[aU,cP,cO] at hd
    rcases hd with rfl|rfl<;>exact WJ _
   refine⟨_,_,dW _ _ (s7 _ _ aa),dW _ _ e7,L6.shaped (by decide),L6.shaped (by decide),L6.mix,?_⟩;rw[PySem.Spec.same_self];refine⟨_,rfl,cA ?_⟩;have Xu:=sm6.trans s7;clear e7 u6 NR Oi s7 s5 s4 prB;refine⟨_,rfl,p,dx,_,rfl,Xu _ _ IS,rfl,p,tb,ls,s,rfl,NT.same Xu,ok,by lia,fun n1 H8 hn1 s8 e8=> ?_⟩;have YW:=Xu.trans s8;refine⟨_,rfl,p,dx,_,rfl,YW _ _ IS,rfl,p,tb,ls,s,rfl,NT.same YW,by lia,fun m1 H9 hm1 s9 e9=>⟨fw,fun sl Jg=> ?_⟩⟩;rw[hmk] at e9;rw[Mz] at e8;have Qm:=aj.upd (o:= .lst [V.ref n1,.ref m1]) Jg;have Iv:upd H9 sl (.lst [V.ref n1,.ref m1]) sl=some (.lst [V.ref n1,.ref m1]):=aa;have Py:=Qm _ _ (s9 _ _ e8);have TF:=Qm _ _ e9;have Le:=(YW.trans s9).trans Qm;have fn1:H2 n1=none:=Xu.free hn1;have fm1:H2 m1=none:=YW.free hm1;have fsl:H2 sl=none:=(YW.trans s9).free Jg;have nn:n1≠m1:=fun z=>by rw[z,hm1] at e8;cases e8
   have ns1:n1≠sl:=fun z=>by rw[z] at e8;rw[s9 _ _ e8] at Jg;cases Jg
   have ms1:m1≠sl:=fun z=>by rw[z] at e9;rw[e9] at Jg;cases Jg
   generalize upd H9 sl (.lst [V.ref n1,.ref m1])=FD at Qm Iv Py TF Le ⊢;have aeC:=(Cg nmn).list;have ae7:=(Ck (ns:=mk) fun n hn=>by have:=mlt n hn;lia).list;have acV:=(bA.cons (aeC.mono (aG _) (aG _)) (bA.cons (ae7.mono (aG _) (aG _)) bA.nil)).list;have Xg:=acV.rep (by rw[aK] at nml;lia) (by decide);have dA:∀(Hx:Hp) (a n m:Addr),Hx a=some (.lst [.ref n,.ref m])→Hx n=some (.lst ((CV ((lC s [] 0).map gr)).map V.str))→Hx m=some (.lst (mk.map nI))→Dat Hx (.ref a) (.list [.list ((CV ((lC s [] 0).map gr)).map PyData.str),.list (mk.map fun n:Nat=>PyData.int (n:Int))]):=fun Hx a n m e1 e2 e3=> .lst e1 (.cons (.lst e2 (vD _)) (.cons (.lst e3 (EZ _)) .nil));refine⟨_,rfl,_,_,rfl,dA _ _ _ _ Iv Py TF,Xg.1,Xg.2.1,Xg.2.2,_,rfl,l,rz,_,H0,lC s [] 0,rfl,s02.trans Le,Le _ _ OR,R2.same Le,Kp,by lia,fun f1 tH hf1 Ki e11=>⟨_,rfl,fw,fun s2' adT => ?_⟩⟩;have Y9:=aj.upd (o:= .lst [V.ref f1,.ref p2]) adT;have Jq:=(Le.trans Ki).trans Y9;refine⟨_,_,rfl,dA _ _ _ _ aa (Y9 _ _ e11) (Jq _ _ h2),Xg.1,Xg.2.1,Xg.2.2,rfl,_,rfl,N0 ?_⟩;have MO:=Ki.trans Y9;replace Iv:=MO _ _ Iv;replace Py:=MO _ _ Py;replace TF:=MO _ _ TF;generalize upd tH s2' (.lst [V.ref f1,.ref p2])=VI at Jq Iv Py TF ⊢;refine⟨_,rfl,p2,rfl,⟨_,bF.of (Jq _ _ h2)⟩,?_⟩;refine dF (K:=K) (a:=p2) (xs:=mk.map nI) (fun j σ H' =>∃x6 x7:Option V,σ=[some (.ref p),some v,some (.ref l),some (.ref p2),some (.int (0+(i:Int))),some (.ref sl),x6,x7,x8]∧aj VI H') ⟨_,_,rfl,aj.refl _⟩ (by rintro j σ H' _ ⟨_,_,_,sm'⟩;exact bF.of (sm' _ _ (Jq _ _ h2))) ?_ ?_
   ·rintro j x σ H13 hx ⟨x6',x7',rfl,DU⟩
    have KJ:=Jq.trans DU;rw[bj] at hx
    cases ek:mk[j]? with
    |none=>rw[ek] at hx;cases hx
    |some k=>
     rw[ek] at hx;cases hx;have hk:=bJ ek;have klt:=mlt k hk;have kz:rz[k]? =some rz[k]:=by simp[show k<rz.length by lia]
     obtain⟨⟨⟨d,ar⟩,kd⟩,er,t1,y',u1,hv1,f1',f2',f3',f4'⟩:=R2.at_ k _ kz;rw[hv1] at kz;have erg:(fA s ["ground"])[k]? =some (gr ((d,ar),kd)):=by rw[Mz,bj,er];rfl
     refine⟨_,rfl,p,dx,_,rfl,KJ _ _ IS,rfl,_,rfl,p,tb,ls,s,nI k,rfl,NT.same KJ,by lia,.int _ (gp (show(k:Int).natAbs≤1000 by rw[DH];lia) (by decide+kernel)),.inl ⟨k,gr ((d,ar),kd),by rw[hmk];exact hk,rfl,erg,fun f2 H14 WW Qy e14=> ?_⟩⟩;have UK:=KJ.trans Qy;refine⟨_,rfl,_,rfl,_,rfl,l,_,_,_,rfl,rfl,bF.of (UK _ _ OR),bU kz,t1,_,1,_,rfl,rfl,bc.of (UK _ _ f1'),rfl,sS,fun g hg=>⟨u1,g,_,_,rfl,rfl,aj.upd hg _ _ (UK _ _ f4'),aa,?_,fun c hc=> ?_⟩⟩
     ·rw[aK];have:ar.length≤cM s:=Wz s ok er;exact bO (b8 (show ar.length+1≤100000 by lia))
     have u15:=(aj.upd (o:= .lst [V.str "ground"]) hg).trans (aj.upd (o:= .lst (ar.map V.str++[V.str "ground"])) hc)
     have nmr:∀x∈ar++[("ground" :Str)],bB x=true:=fun x hx=>by
      rcases eK.mp hx with hx|hx
      ·exact PH s ok er x hx
      ·rw[hV.mp hx];decide+kernel
     have L15:Ly 2 (.list ((ar++[("ground" :Str)]).map PyData.str)):=Ly.list (k:=1) fun d hd=>by
      obtain⟨x,hx,rfl⟩:=fh.mp hd;exact Qa (nmr x hx)
     refine⟨.list ((ar++[("ground" :Str)]).map PyData.str),.list ((ar++[("ground" :Str)]).map PyData.str),.lst (u15 _ _ e14) (vD _),.lst aa (by rw[fJ];exact nA (vD ar) (.cons (.str _) .nil)),L15.shaped (by decide),L15.shaped (by decide),L15.mix,?_⟩;rw[PySem.Spec.same_self];refine⟨_,rfl,cA ?_⟩;have e15:=u15 _ _ e14;refine⟨_,rfl,Dm e15,f2,_,rfl,rfl,e15,_,_,rfl,fun c' o e' => ?_⟩;rw[av (aw (DU _ _ e') WW)];exact u15 _ _ (Qy _ _ (DU _ _ e'))
   ·rintro σ H13 ⟨x6',x7',rfl,DU⟩
    replace Iv:=DU _ _ Iv;replace Py:=DU _ _ Py;replace TF:=DU _ _ TF;have KJ:=Jq.trans DU;refine⟨_,rfl,sl,_,0,_,rfl,rfl,bF.of Iv,rfl,Dm Py,n1,_,_,rfl,rfl,Py,?_,?_⟩
    ·rw[aK];rw[aK] at nml;exact b8 (by lia)
    have m11:upd H13 n1 (.lst ((CV ((lC s [] 0).map gr)).map V.str++[.str "more"])) m1=some (.lst (mk.map nI)):=by
     rw[av nn.symm];exact TF
    refine⟨_,rfl,sl,_,1,_,rfl,rfl,bF.of (by rw[av ns1.symm];exact Iv),rfl,Dm m11,m1,_,rfl,rfl,m11,_,_,_,_,_,rfl,fun c o e=> ?_⟩;rw[av (aw e fm1),av (aw e fn1)];exact KJ _ _ e
  ·rintro σ H' ⟨x4,x5,x6,x7,x8,rfl,sm⟩
   have NZ:=sm _ _ OR;have h23:=sm _ _ h2;refine⟨_,rfl,l,_,rfl,.inl (bF.of NZ),_,rfl,by lia,by lia,?_⟩;rw[jl];refine qm (fun x=> !wL x (mk.map nI)) (fun x=>x) (Fy 0 rz.length H') (by rw[aK,lV];exact bO (b8 (by lia))) ?_ fun p9 hp9=> ?_
   ·intro j y H7 C1 C0 hy Xu c1 c0;rw[bj] at hy
    cases ej:(List.range rz.length)[j]? with
    |none=>rw[ej] at hy;cases hy
    |some j' =>
     rw[ej] at hy;cases hy;refine⟨(fz.refl _).own (by decide),_,rfl,_,rfl,p2,_,rfl,.inl (bF.of (Xu _ _ h23)),rfl,Iy _,_,rfl,?_⟩;show if(!wL (V.int (0+(j' :Int))) (mk.map nI))=true then _ else _
     cases hb:(!wL (V.int (0+(j' :Int))) (mk.map nI)) with
     |true=>exact dG ⟨_,rfl,c1 hb⟩
     |false=>exact cA (c0 hb)
   obtain⟨AU,aeU,Vm⟩:∃AU:ak,((((List.range rz.length).map fun(i:Nat)=>V.int (0+(i:Int))).filter fun x=> !wL x (mk.map nI)).map fun x=>x)=AU∧AU.length≤rz.length∧∀x∈AU,∃k:Nat,x=nI k∧k≤1000∧k∉mk:=by
    refine⟨_,rfl,?_,fun x hx=> ?_⟩
    ·rw[aK];refine aR (sV _ _) ?_;rw[aK,lV];exact aG _
    ·rw[List.map_id'] at hx;obtain⟨h1,h2⟩:=lW.mp hx;obtain⟨k,hk,rfl⟩:=fh.mp h1;have hk:=iA.mp hk;rw[MF] at h2;refine⟨k,by rw[Int.zero_add];rfl,by lia,fun hm=> ?_⟩;rw[aS ⟨k,hm,(Int.zero_add _).symm⟩] at h2;cases h2
   obtain⟨xl1,Vm⟩:=Vm;rw[aeU];have u9:=aj.upd (o:= .lst AU) hp9;have e9:upd H' p9 (.lst AU) p9=some (.lst AU):=aa;generalize upd H' p9 (.lst AU)=H9 at u9 e9 ⊢;refine⟨_,rfl,l,_,rfl,.inl (bF.of (u9 _ _ NZ)),1,rfl,sS,fun aL haL=> ?_⟩;have ua:=aj.upd (o:= .lst [V.int 0]) haL;have ea:upd H9 aL (.lst [V.int 0]) aL=some (.lst [V.int 0]):=aa;generalize upd H9 aL (.lst [V.int 0])=FD at ua ea ⊢;refine⟨sS,fun tT htT=> ?_⟩;have ut:=aj.upd (o:= .tup [V.int 0]) htT;have et:upd FD tT (.tup [V.int 0]) tT=some (.tup [V.int 0]):=aa;generalize upd FD tT (.tup [V.int 0])=tH at ut et ⊢;refine fun FC EH=> ?_;have ud:=aj.upd (o:= .dK []) EH;have ed:upd tH FC (.dK []) FC =some (.dK []):=aa;generalize upd tH FC (.dK [])=VI at ud ed ⊢;have eL:(10:Int) ^ (29:Int).toNat=100000000000000000000000000000:=by decide+kernel
   refine⟨10,29,rfl,rfl,⟨by decide,by decide,by decide⟩,abS,fun bl hbl=> ?_⟩;have ac1:=((u9.trans ua).trans ut).trans ud;refine⟨p9,bl,_,_,rfl,rfl,aj.upd hbl _ _ (((ua.trans ut).trans ud) _ _ e9),aa,?_,fun bd hbd=> ?_⟩
   ·exact bO (b8 (show AU.length+9≤100000 by lia))
   have ub:=(aj.upd (o:= .lst (zd rz.length aL tT FC)) hbl).trans (aj.upd (o:= .lst (AU++zd rz.length aL tT FC)) hbd);have eb:upd (upd VI bl (.lst (zd rz.length aL tT FC))) bd (.lst (AU++zd rz.length aL tT FC)) bd=some (.lst (AU++zd rz.length aL tT FC)):=aa;refine⟨_,rfl,bd,rfl,⟨_,bF.of eb⟩,?_⟩;generalize upd (upd VI bl (.lst (zd rz.length aL tT FC))) bd (.lst (AU++zd rz.length aL tT FC))=Xp at ub eb ⊢;have s20:aj H2 Xp:=(sm.trans ac1).trans ub;have JX:Xp aL=some (.lst [.int 0]):=ub _ _ (ud _ _ (ut _ _ ea));have OU:Xp tT=some (.tup [.int 0]):=ub _ _ (ud _ _ et);have PD:Xp FC =some (.dK []):=ub _ _ ed;have faL:H2 aL=none:=(sm.trans u9).free haL;have ZH:=NT.same s20;obtain⟨⟨dx2,hoX⟩,_,zsX,hzX,_⟩:=id NT;have npa:p≠aL:=aw hoX faL;have nla:ls≠aL:=aw hzX faL
   have nba:bd≠aL:=fun z=>by
    rw[z,JX] at eb;have:=HO.lst.inj (di eb);have:1=AU.length+9:=(congrArg List.length this).trans ba
    lia
   have nta:tT≠aL:=bW OU JX (fun z=>nomatch z);have nda:FC≠aL:=bW PD JX (fun z=>nomatch z)
   have hel:∀(i:Nat) x,(AU++zd rz.length aL tT FC)[i]? =some x→(x= .ref aL∧i=AU.length+5∨x= .ref tT∨x= .ref FC∨(∀H,TV H x)∧∀c,x≠.ref c)∧∀k∈mk,x≠nI k:=by
    have sml:∀k:Nat,k≤1000→(k:Int).natAbs<10 ^ 40:=fun k h=>gp (show(k:Int).natAbs≤1000 by rw[DH];exact h) (by decide+kernel);intro i x hx;by_cases hi:i<AU.length
    ·rw[dP hi] at hx;obtain⟨k,rfl,hk,hn⟩:=Vm x (bJ hx);exact⟨.inr (.inr (.inr ⟨fun H=> .int _ (sml k hk),fun c z=>nomatch z⟩)),fun k' hk' z=>hn (by have:=V.int.inj z;rw[show k=k' by lia];exact hk')⟩
    ·rw[gM (by lia)] at hx;generalize hj:i - AU.length=j at hx
     match j,hx with
     |0,hx=>cases hx;exact⟨.inr (.inr (.inr ⟨fun H=> .int _ (sml _ (by lia)),fun c z=>nomatch z⟩)),fun k hk z=>by have:=V.int.inj z;have:=mlt k hk;lia⟩
     |1,hx=>cases hx;exact⟨.inr (.inr (.inr ⟨fun H=> .int _ (by decide+kernel),fun c z=>nomatch z⟩)),fun k hk z=>by have:=V.int.inj z;lia⟩
     |2,hx=>cases hx;exact⟨.inr (.inr (.inr ⟨fun H=> .bx,fun c z=>nomatch z⟩)),fun k hk z=>nomatch z⟩
     |3,hx=>cases hx;exact⟨.inr (.inr (.inr ⟨fun H=> .bl _,fun c z=>nomatch z⟩)),fun k hk z=>nomatch z⟩
     |4,hx=>cases hx;exact⟨.inr (.inr (.inr ⟨fun H=> .str _ (by simp only[PyData.shown];decide+kernel),fun c z=>nomatch z⟩)),fun k hk z=>nomatch z⟩
     |5,hx=>cases hx;exact⟨.inl ⟨rfl,by lia⟩,fun k hk z=>nomatch z⟩
     |6,hx=>cases hx;exact⟨.inr (.inl rfl),fun k hk z=>nomatch z⟩
     |7,hx=>cases hx;exact⟨.inr (.inr (.inl rfl)),fun k hk z=>nomatch z⟩
     |8,hx=>cases hx;exact⟨.inr (.inr (.inr ⟨fun H=> .int _ (by rw[eL];decide+kernel),fun c z=>nomatch z⟩)),fun k hk z=>by have:=V.int.inj z;rw[eL] at this;have:=mlt k hk;lia⟩
     |j+9,hx=>simp[zd] at hx
   have xsl:(AU++zd rz.length aL tT FC).length≤100000:=by
    rw[ba];show AU.length+9≤_
    lia
   generalize AU++zd rz.length aL tT FC =xs at eb hel xsl;intro pc Ub;have nca:pc≠aL:=(aw JX Ub).symm;have ncb:bd≠pc:=aw eb Ub;refine⟨fun i m ys Hx=>m=xs.length - i∧i≤xs.length∧ys=[]∧Hx pc=some (.lst [])∧(∀c o,c≠aL→Xp c=some o→Hx c=some o)∧(i≤AU.length+5→Hx aL=some (.lst [.int 0])),⟨xs.length,rfl,cN _,rfl,aa,fun c o _ e=>aj.upd Ub _ _ e,fun _=>aj.upd Ub _ _ JX⟩,?_⟩
   rintro i m ys Hx ⟨rfl,hi,rfl,hpx,kx,hax⟩
   refine⟨hpx,?_⟩;have F:=dN (K:=K) (bF.of (kx _ _ nba eb));by_cases iU:i<xs.length
   ·refine .inr ⟨F.g.go i _ (aj.refl _) iU,cf (show 0<1 by decide) (by decide),fun x Hy zg=> ?_⟩;obtain⟨s1',y1⟩:=F.g.yO i _ x Hy (aj.refl _) iU zg;obtain⟨O0,hno⟩:=hel i x y1;have ky:∀c o,c≠aL→Xp c=some o→Hy c=some o:=fun c o hc e=>s1' _ _ (kx c o hc e)
    have tvx:TV Hy x:=by
     rcases O0 with⟨rfl,h5⟩|rfl|rfl|⟨h,_⟩
     ·exact .lst (s1' _ _ (hax (by lia)))
     ·exact .tup (ky _ _ nta OU)
     ·exact .dK (ky _ _ nda PD)
     ·exact h Hy
    have prY:iy A.ax Hy p tb ls s:=by
     obtain⟨⟨NS,Ky⟩,_,AX,hz',_⟩:=id ZH;exact ZH.kt (fun c ys e=>ky _ _ (bW e JX (fun z=>nomatch z)) e) ((ky _ _ npa Ky).trans Ky.symm) ((ky _ _ nla hz').trans hz'.symm)
    refine⟨(fz.refl _).own (by decide),_,rfl,_,rfl,p,tb,ls,s,x,rfl,prY,by lia,tvx,by rw[hmk];exact hno,fun Hz hz=>⟨_,rfl,cA ⟨xs.length - (i+1),by lia,rfl,iU,rfl,?_,fun c o hc e=> ?_,fun h5=> ?_⟩⟩⟩
    ·refine hz _ _ (fun ys hv z=> ?_) (s1' _ _ hpx);rcases O0 with⟨rfl,_⟩|rfl|rfl|⟨_,h⟩
     ·exact nca (V.ref.inj hv).symm
     ·rw[←V.ref.inj hv,OU] at Ub;cases Ub
     ·rw[←V.ref.inj hv,PD] at Ub;cases Ub
     ·exact h _ hv
    ·refine hz _ _ (fun ys hv z=> ?_) (ky c o hc e);rcases O0 with⟨rfl,_⟩|rfl|rfl|⟨_,h⟩
     ·exact hc (V.ref.inj hv).symm
     ·rw[←V.ref.inj hv,OU,z] at e;cases e
     ·rw[←V.ref.inj hv,PD,z] at e;cases e
     ·exact h _ hv
    ·refine hz _ _ (fun ys hv z=> ?_) (s1' _ _ (hax (by lia)));rcases O0 with⟨rfl,h⟩|rfl|rfl|⟨_,h⟩
     ·lia
     ·exact nta (V.ref.inj hv)
     ·exact nda (V.ref.inj hv)
     ·exact h _ hv
   ·have e:i=xs.length:=by lia
    subst e;refine .inl ⟨F.g.stop _ _ (aj.refl _) (aG _),mI,fun pe hpe=> ?_⟩;refine CC (aj.upd hpe _ _ hpx) aa ?_;refine q _ fun c o e=>aj.upd hpe _ _ (kx c o (aw (AW _ _ e) faL) (s20 _ _ (AW _ _ e)))
mutual
theorem Wo:∀d:Dd,lP (lP d)=lP d
 | .mk w ps bs=>by rw[lP,lP,Lg bs]
theorem MW:∀s:Ds,gU (gU s)=gU s
 | .nil=>by rw[gU];rw[gU]
 | .cons d r=>by rw[gU,gU,Wo d,MW r]
theorem Lg:∀b:Bs,qZ (qZ b)=qZ b
 | .nil=>by rw[qZ];rw[qZ]
 | .cons t b r=>by rw[qZ,qZ,MW b,Lg r]
end
theorem FZ{ks:ao}{ps:List PyData}(h:eM ks ps):∀x:Str,PyData.str x∈ps→bB x=true:=by
 induction h with
 |nil=>intro x hx;cases hx
 |cons h t ih=>
  intro x hx;rcases aU.mp hx with rfl|hx
  ·cases h with
   |name x h=>exact h
   |label x h n=>exact h
   |mark x h=>exact h
  ·exact ih x hx
theorem Mu{d:Dd}(ok:ip d):∀x:Str,PyData.str x∈d.ps→bB x=true:=by
 cases d with
 |mk w ps bs=>
  rw[ip] at ok;obtain⟨⟨ks,f,fit⟩,_⟩:=ok;exact FZ fit
theorem Jn{r:Dd×ao}(ok:ip r.1){x:Rf}(h:gv r=some x):∃l,(x= .twice l∨x= .oy l)∧bB l=true:=by
 unfold gv at h
 split at h
 ·rename_i hb;cases h;refine⟨_,.inl rfl,?_⟩;have:=Fe (ar:=[]) ok (fun _ h=>nomatch h) (iC r.1) (by unfold mR;rw[aA hb.1];exact e_);exact this
 ·split at h
  ·split at h
   ·rename_i y hy
    split at h
    ·cases h
    ·cases h;refine⟨y,.inr rfl,Mu ok y ?_⟩;unfold sx at hy
     split at hy
     ·rename_i e;cases hy;rw[e];simp
     ·cases hy
   ·cases h
  ·cases h
noncomputable def Rf.d:Rf→PyData
 | .many n=> .int n
 | .deep n=> .int n
 | .twice l=> .str l
 | .oy l=> .str l
 | .wide n=> .int n
 | .long n=> .int n
theorem Rf.dat(r:Rf)(H:Hp):Dat H r.v r.d:=by
 cases r<;>first|exact .int _|exact .str _
theorem L_(r:Rf):bB r.tag=true:=by cases r<;>(simp only[Rf.tag];decide+kernel)
theorem Ap{s:Ds}(h:cq s=none):cQ s≤40∧cM s≤6:=by
 unfold cq at h;rw[Option.or_eq_none_iff] at h;have h:=h.1;unfold jy at h
 split at h
 ·cases h
 ·split at h
  ·cases h
  ·lia
theorem FW{s:Ds}(ok:gw s)(dp:cM s<9)(mn:cQ s≤1000){r:Rf}(h:cq s=some r):Fits 100 3 r.d:=by
 unfold cq at h
 cases es:jy s with
 |some r' =>
  rw[es] at h;cases h;unfold jy at es
  split at es
  ·cases es;exact i_ (by lia)
  ·split at es
   ·cases es;exact i_ (by lia)
   ·cases es
 |none=>
  rw[es,nU] at h
  cases ef:(fA s ["ground"]).findSome? gv with
  |some r' =>
   rw[ef] at h;cases h;obtain⟨row,hr,e⟩:=List.exists_of_findSome?_eq_some ef;obtain⟨l,h,hn⟩:=Jn (so s _ ok row hr) e
   rcases h with rfl|rfl<;>exact iK hn
  |none=>
   rw[ef,nU] at h
   have sz:cQ s≤40∧cM s≤6:=by
    unfold jy at es
    split at es
    ·cases es
    ·split at es
     ·cases es
     ·lia
   have c:=wG s ok;have t:=vC (d:=cM s) (m:=cQ s) sz.2 (by lia);unfold sO at h
   split at h
   ·cases h;exact i_ (by lia)
   ·split at h
    ·cases h;exact i_ (by lia)
    ·cases h
theorem Ez{s:Ds}(ok:gw s)(dp:cM s<9)(mn:cQ s≤1000){r:Rf}(h:cq s=some r):(PyData.tuple [.str r.tag,r.d]).showable=true∧(PyData.tuple [.str r.tag,r.d]).depth≤90∧(PyData.tuple [.str r.tag,r.d]).shown.length≤sizeLine:=
 ((bA.cons (iK (L_ r)) (bA.cons (FW ok dp mn h) bA.nil)).tup).rep (by decide) (by decide)
noncomputable def cw(A:m9)(H H' :Hp):Prop:=∀b o,b≠A.aY→b≠A.au→H b=some o→H' b=some o
structure mV(A:m9)(H:Hp):Prop where
 ne:A.aY≠A.au
 p:Tab H A.aY Xk qP
 i:Tab H A.au HC qI
theorem mV.same{A:m9}{H H' :Hp}(t:mV A H)(s:aj H H'):mV A H' :=⟨t.ne,t.p.same s,t.i.same s⟩
theorem cw.dat{A:m9}{H H' :Hp}(k:cw A H H')(t:mV A H){v:V}{d:PyData}(h:Dat H v d):Dat H' v d:=by
 obtain⟨_,⟨ps1,e1,_⟩,⟨Zi,e2,_⟩⟩:=t;exact we (fun c xs e=>k _ _ (bW e e1 (fun z=>nomatch z)) (bW e e2 (fun z=>nomatch z)) e) (fun c xs e=>k _ _ (bW e e1 (fun z=>nomatch z)) (bW e e2 (fun z=>nomatch z)) e) h
theorem cw.lst{A:m9}{H H' :Hp}(k:cw A H H')(t:mV A H){c:Addr}{xs:ak}(e:H c=some (.lst xs)):H' c=some (.lst xs):=by
 obtain⟨_,⟨ps1,e1,_⟩,⟨Zi,e2,_⟩⟩:=t;exact k _ _ (bW e e1 (fun z=>nomatch z)) (bW e e2 (fun z=>nomatch z)) e
theorem cw.tup{A:m9}{H H' :Hp}(k:cw A H H')(t:mV A H){c:Addr}{xs:ak}(e:H c=some (.tup xs)):H' c=some (.tup xs):=by
 obtain⟨_,⟨ps1,e1,_⟩,⟨Zi,e2,_⟩⟩:=t;exact k _ _ (bW e e1 (fun z=>nomatch z)) (bW e e2 (fun z=>nomatch z)) e
theorem cw.pr{A:m9}{H H' :Hp}(k:cw A H H')(t:mV A H){C p tb ls:Addr}{s:Ds}(pr:iy C H p tb ls s):iy C H' p tb ls s:=by
 obtain⟨⟨dx,ho⟩,_,zs,hz,_⟩:=id pr;obtain⟨_,⟨ps1,e1,_⟩,⟨Zi,e2,_⟩⟩:=id t;exact pr.kt (fun c xs e=>k.tup t e) ((k _ _ (bW ho e1 (fun z=>nomatch z)) (bW ho e2 (fun z=>nomatch z)) ho).trans ho.symm) ((k.lst t hz).trans hz.symm)
theorem cw.trans{A:m9}{H H1 H2:Hp}(a:cw A H H1)(b:cw A H1 H2):cw A H H2:=fun c o h1 h2 e=>b c o h1 h2 (a c o h1 h2 e)
theorem _root_.L2.aj.iE{A:m9}{H H' :Hp}(s:aj H H'):cw A H H' :=fun c o _ _ e=>s _ _ e
noncomputable def LP(H:Hp)(v:V):Option Rf→Prop
 |none=>v= .bx
 |some r=>∃t,v= .ref t∧H t=some (.tup [.str r.tag,r.v])
noncomputable def YC(A:m9):Sp:=fun vs H Q _=>∃v t s Kq,vs=[v,Kq]∧Dat H v (gg t (sL s))∧gw s∧cM s<9∧cQ s≤1000∧mV A H∧LP H Kq (cq s)∧∀H',cw A H H'→mV A H'→Q (.bl true) H'
theorem vi(T:Txt K mg A)(Fm:rT P w K A fm)(df:Og A):aM P w K mg base cK 23 A.mZ A.mK ["_law_body_here","_law_due"] (YC A):=by
 have kG:aM P w K mg base cK 22 A.dZ A.dh ["_law_deeds_here"] (vJ A):=aM.IB (fun vs H Q E ⟨v,t,s,e,_⟩=>by rw[e];rfl) fun tp=>oo T Fm df tp;refine T.mO.F.ok ij (fun vs H Q E h=> ?_) (fun cj Ar outer s0 H vs Q E hr h=> ?_)
 ·obtain⟨v,t,s,Kq,rfl,_⟩:=h;rfl
 ·obtain⟨v,t,s,Kq,rfl,hd,ok,dp,mn,tabs,du,q⟩:=h;have C5:=hr.gd;have AV:_+100<cLine:=gp (ur (by decide:100≤16*22+200) _) (by have:=hr.un;omega);refine⟨_,(ag (vQ (cn kG hr T.j_ az (aH (cn (rE T 9) hr T.jH az (aH (pv 0))))) (lX rfl (a_ (fO 2 ij.nd) (a_ (fO 3 ij.nd) fq)))) (ag (bu (wp vw (pv 1) g_) (ai (aF (KZ dM (h8 (dB C5 AV) T.h_ Boot.«repr» (aH (a9 (ae (pv 2) (aH (pv 3)))))) (h8 (dB C5 AV) T.h_ Boot.«repr» (aH (pv 1)))))) aV) (ai (aF (nZ (KZ dM (pv 2) aB) (lQ (cn (eW T Fm) hr T.eD az (ae (pv 3) (aH (pv 0)))))))))),?_⟩;obtain⟨e1,e2,_⟩:=AJ s;refine⟨_,rfl,H,v,t,s,rfl,aj.refl _,hd,ok,by lia,by lia,fun tt H1 sF s1 td=> ?_⟩;have tb1:=tabs.same s1;refine⟨.ref tt,true,gU s,rfl,td.dat,tq s ok,by lia,by lia,tabs.ne,tb1.p,tb1.i,fun t2 H2 wb k2 T1 T2 zH=> ?_⟩;rw[AG] at zH;have kk:cw A H1 H2:=k2;have tb2:mV A H2:=⟨tabs.ne,T1,T2⟩;have kH:cw A H H2:=s1.iE.trans kk
  cases er:cq s with
  |some r=>
   rw[er] at zH du;obtain⟨t0,rfl,e0⟩:=du;have F:=Ez ok dp mn er;refine⟨t2,_,rfl,bc.of zH,rfl,_,_,rfl,_,_,rfl,rfl,?_⟩;refine⟨_,rfl,rfl,_,rfl,?_⟩;rw[show(decide (V.ref t0=V.bx))=false from br (fun z=>nomatch z)];refine dG ⟨_,rfl,_,rfl,fw,fun t3 oj=>⟨_,_,rfl,.tup aa (.cons (.str _) (.cons (r.dat _) .nil)),F.1,F.2.1,F.2.2,_,rfl,_,_,rfl,.tup (aj.upd oj _ _ (kH.tup tabs e0)) (.cons (.str _) (.cons (r.dat _) .nil)),F.1,F.2.1,F.2.2,rfl,?_⟩⟩;rw[aS rfl];exact q _ (kH.trans (aj.upd oj).iE) (tb2.same (aj.upd oj))
  |none=>
   rw[er] at zH du;obtain⟨p,tb,ls,hp,Eu,OK,pr,e⟩:=zH;have du:Kq= .bx:=du;subst du;obtain⟨m40,d6⟩:=Ap er;have NT:iy A.ax H2 p tb ls s:=pr.alike (MW s);refine⟨t2,_,rfl,bc.of e,rfl,_,_,rfl,_,_,rfl,rfl,?_⟩;refine⟨_,rfl,rfl,_,rfl,N0 ?_⟩;refine⟨_,rfl,rfl,_,rfl,eqT ⟨_,rfl,_,rfl,p,tb,ls,s,v,t,rfl,NT,kH.dat tabs hd,ok,m40,d6,fun H3 s3=>q _ (kH.trans s3.iE) (tb2.same s3)⟩⟩
theorem Tab.ko{H H' :Hp}{P:Addr}{lp:Pos}{q:Str}{N:Addr→Prop}(t:Tab H P lp q)(k:KO N H H'):Tab H' P lp q:=by
 obtain⟨ps,e,h,r⟩:=t;refine⟨ps,k.1 _ _ (fun _ z=>nomatch z) e,h,?_⟩;rcases r with r|⟨c,r1,r2⟩
 ·exact .inl r
 ·exact .inr ⟨c,r1,k.1 _ _ (fun _ z=>nomatch z) r2⟩
noncomputable def z6(A:m9)(H:Hp)(v:V):Prop:=v= .bx∨∃t p tb ls s b tt,v= .ref t∧H t=some (.tup [.ref p,b])∧iy A.ax H p tb ls s∧Dat H b (gg tt (sL s))∧gw s∧cQ s≤40∧cM s≤6
theorem z6.kept{A:m9}{H H' :Hp}{v:V}(h:z6 A H v)(k:cw A H H')(t:mV A H):z6 A H' v:=by
 rcases h with h|⟨t0,p,tb,ls,s,b,tt,h1,h2,h3,h4,h5⟩
 ·exact .inl h
 ·exact .inr ⟨t0,p,tb,ls,s,b,tt,h1,k.tup t h2,k.pr t h3,k.dat t h4,h5⟩
theorem BY:cq .nil=none:=by
 unfold cq jy sO;rw[cQ,cM,gD,gC,fA];rfl
noncomputable def wP(xs:ao):Ds:=Ds.of (xs.map fun x=> .mk "tell" [.str x] .nil)
theorem Fu{xs:ao}(h:∀x∈xs,bB x=true):gw (wP xs):=jag fun d hd=>by
 obtain⟨x,hx,rfl⟩:=fh.mp hd;rw[ip,mw];exact⟨⟨["name"],by show(("tell" :Str),(["name"]:ao)++[])∈dg;decide+kernel,.cons (.name x (h x hx)) .nil⟩,True.intro⟩
theorem P2(xs:ao):sL (wP xs)=xs.map fun x=>PyData.tuple [.str "tell",.str x]:=by
 unfold wP;rw[Ut,iL];refine C_ fun x _=> ?_;show dD (.mk "tell" [.str x] .nil)=_;rw[dD,bL];rfl
theorem Eg(xs:ao):cM (wP xs)=0:=Nat.le_zero.mp (BH fun d hd=>by
 obtain⟨x,_,rfl⟩:=fh.mp hd;rw[lq,l_];exact aG _)
theorem wu:∀xs:ao,cQ (wP xs)=xs.length∧gD (wP xs)=0∧gC (wP xs)=xs.length∧∀ar,(fA (wP xs) ar).findSome? gv=none
 |[]=>by
  show cQ .nil=0∧gD .nil=0∧gC .nil=0∧∀ar,(fA .nil ar).findSome? gv=none;rw[cQ,gD,gC];refine⟨rfl,rfl,rfl,fun ar=> ?_⟩;rw[fA];rfl
 |x::r=>by
  obtain⟨h1,h2,h3,h4⟩:=wu r;show cQ (.cons (.mk "tell" [.str x] .nil) (wP r))=_∧gD (.cons (.mk "tell" [.str x] .nil) (wP r))=0∧gC (.cons (.mk "tell" [.str x] .nil) (wP r))=_∧∀ar,(fA (.cons (.mk "tell" [.str x] .nil) (wP r)) ar).findSome? gv=none;rw[cQ,gD,gC,h1,h2,h3,l6,nN,yt,qR,yG,ay (by decide+kernel),ay (by decide+kernel),ay (by decide+kernel),ay (by decide+kernel),ay (by decide+kernel),aW];refine⟨by lia,rfl,by lia,fun ar=> ?_⟩;rw[fA,Bd,AQ,C4,h4 ar];show(List.findSome? gv [(Dd.mk "tell" [.str x] .nil,ar)]).or none=none;rw[List.findSome?_cons,show gv (Dd.mk "tell" [.str x] .nil,ar)=none from ?_]
  ·rfl
  ·unfold gv;rw[ay (fun z=>absurd z.1 (by show ¬cV "tell"=true;decide+kernel)),ay (by show ¬("tell" :Str)="make";decide+kernel)]
theorem E8{xs:ao}(h:xs.length≤40):cq (wP xs)=none:=by
 obtain⟨h1,h2,h3,h4⟩:=wu xs;unfold cq jy sO;rw[h1,h2,h3,h4,Eg,ay (by lia),ay (by lia),ay (by lia),ay (by lia)];rfl
theorem DI{H:Hp}{v:V}{t:Bool}{s:Ds}(hd:Dat H v (gg t (sL s)))(ok:gw s)(dp:cM s<9)(mn:cQ s≤1000)(er:cq s=none)(tabs:mV A H){x dx:Addr}(hx:H x=none)(FE:H dx=none)(mq:dx≠x){Q:VK}(q:∀tb ls H',iy A.ax H' x tb ls s→cw A H H'→mV A H'→Q .bx H'):
 nY A qI [.ref x,v] (upd (upd H dx (.own x)) x (.ins A.ax dx [])) Q E0:=by
 have s1:=aj.upd (o:= .own x) FE;have Vm:upd H dx (.own x) x=none:=by rw[av mq.symm];exact hx
 have s2:=s1.trans (aj.upd (o:= .ins A.ax dx []) Vm);refine⟨x,dx,v,t,s,rfl,aa,hd.same s2,ok,dp,mn,tabs.i.same s2,?_⟩;rw[er];intro tb ls H' Eu OK k P0 pr;obtain⟨psP,eP,_⟩:=id tabs.p;obtain⟨psI,eI,_⟩:=id (tabs.i.same s2)
 have kk:Kept A.au (jaf x (upd (upd H dx (.own x)) x (.ins A.ax dx []))) H' :=fun c o hc e=>by
  by_cases z:c=x
  ·rw[z,show jaf x _ x=none from aA rfl] at e;cases e
  ·rw[Wp z] at e;exact k c o z hc e
 have nPx:A.aY≠x:=aw eP hx;refine q tb ls H' pr (fun c o h1 h2 e=>k c o (aw e hx) h2 (s2 _ _ e)) ⟨tabs.ne,?_,P0⟩;obtain⟨Jc,e1,tr,r⟩:=tabs.p.same s2;refine⟨Jc,k _ _ nPx tabs.ne e1,tr,?_⟩;rcases r with r|⟨c,r1,r2⟩
 ·exact .inl r
 ·refine .inr ⟨c,r1,k _ _ (fun z=> ?_) (bW r2 eI (fun z=>nomatch z)) r2⟩;rw[z,aa] at r2;cases r2
noncomputable def F_:Sp:=fun vs H Q _=>∃v t s,vs=[v]∧Dat H v (gg t (sL s))∧gw s∧cM s<9∧cQ s≤1000∧∀Kq H',aj H H'→LP H' Kq (cq s)→Q Kq H'
theorem EY(T:Txt K mg A):aM P w K mg base cK 12 A.iz A.kL ["_law_body_here"] F_:=(xO T).imp fun vs H Q E ⟨v,t,s,e,hd,ok,dp,mn,q⟩=>by
 refine⟨v,t,s,e,hd,ok,dp,mn,?_⟩
 cases er:cq s with
 |none=>exact fun H' s' =>q _ H' s' (by rw[er];exact rfl)
 |some r=>exact fun t' H' _ s' e' =>q _ H' s' (by rw[er];exact⟨t',rfl,e'⟩)
noncomputable def Gk(A:m9)(H4 H:Hp)(s:Ds)(x:Str)(y:V):Prop:=match cq s with
 |none=>x="program" ∧∃p tb ls,y= .ref p∧H4 p=none∧H4 ls=none∧iy A.ax H p tb ls s
 |some r=>x=r.tag∧y=r.v
noncomputable def Yy(A:m9)(K:Frag):Sp:=fun vs H Q _=>∃(a:Addr) (ns:List Int),vs=[.ref a]∧bF K H a (ns.map V.int)∧ns.length≤63∧mV A H∧∀H',Q (.bl true) H'
theorem Wg(T:Txt K mg A)(Fm:rT P w K A fm)(df:Og A):aM P w K mg base cK 24 A.Te A.Hw ["_law_script"] (Yy A K):=by
 have kG:aM P w K mg base cK 22 A.dZ A.dh ["_law_deeds_here"] (vJ A):=aM.IB (fun vs H Q E ⟨v,t,s,e,_⟩=>by rw[e];rfl) fun tp=>oo T Fm df tp;have gK:aM P w K mg base cK 18 A.bX A.bZ ["self","deeds"] (fun vs H Q _=>nY A qI vs H Q E0):=(aM.IB (fun vs H Q E ⟨p,dx,v,t,s,e,_⟩=>by rw[e];rfl) fun tp=>jw T Fm tp).calm;refine T.Ul.F.ok lZ (fun vs H Q E h=> ?_) (fun cj Ar outer s0 H vs Q E hr h=> ?_)
 ·obtain⟨a,ns,rfl,_⟩:=h;rfl
 ·obtain⟨a,ns,rfl,hS,hl,tabs,q⟩:=h;have C5:=hr.gd;have AV:_+100<cLine:=gp (ur (by decide:100≤16*23+200) _) (by have:=hr.un;omega)
  have hSx:∀H',cw A H H'→bF K H' a (ns.map V.int):=fun H' k=>by
   obtain⟨_,⟨ps1,e1,_⟩,⟨Zi,e2,_⟩⟩:=id tabs;rcases hS with(h|⟨o,h⟩)|h
   ·exact .inl (.inl (k.lst tabs h))
   ·exact .inl (.inr ⟨o,k _ _ (bW h e1 (fun z=>nomatch z)) (bW h e2 (fun z=>nomatch z)) h⟩)
   ·exact .inr h
  refine⟨_,(ag (eU 1 lZ.nd g_) (ag (vI (gS rfl T.lO (aH (h8 (jQ rfl) T.wQ Boot.«max» (ae af (aH (h8 (JM rfl) T.aap Boot.«min» (ae af (aH (h8 aZ T.gi Boot.«len» (aH (pv 0))))))))))) (fO 2 lZ.nd) (ag (eU 3 lZ.nd (cn (A_ T) hr T.uN az (aH (cn (xy T) hr T.sX az (aH (cn (uq T) hr T.pF az (ae (pv 0) (aH (pv 2))))))))) (ag (eU 4 lZ.nd (cn (EY T) hr T.oU az (aH (pv 3)))) (ag (eU 5 lZ.nd (cn (md T 9) hr T.ib az (aH (pv 3)))) (ag (vQ (cn kG hr T.j_ az (aH (pv 5))) (lX rfl (a_ (fO 6 lZ.nd) (a_ (fO 7 lZ.nd) fq)))) (ag (bu (kK (iN (cn (vi T Fm df) hr T.mO az (ae (pv 3) (aH (pv 4)))))) (ai (aF lE)) aV) (ai (bu (wp vw (pv 4) g_) (ai (bu (PW.pt (XV (wp oV (h8 (dB C5 AV) T.h_ Boot.«repr» (aH (a9 (ae (pv 6) (aH (pv 7)))))) (h8 (dB C5 AV) T.h_ Boot.«repr» (aH (pv 4)))) (WP (wp oV (h8 (dB C5 AV) T.h_ Boot.«repr» (aH (pv 5))) (h8 (dB C5 AV) T.h_ Boot.«repr» (aH (cn (md T 9) hr T.ib az (aH (pv 3))))))))) (ai (aF lE)) aV)) (ag (bu (PW.pt (XV (wp oV (pv 6) aB) (WP (wp oV (h8 (dB C5 AV) T.h_ Boot.«repr» (aH (pv 5))) (h8 (dB C5 AV) T.h_ Boot.«repr» (aH (cn (md T 9) hr T.ib az (aH (pv 3))))))))) (ai (aF lE)) aV) (ag (bf (cn (Ah T 9) hr T.ma az (aH (pv 5)))) (ag (bu (kK (iN (cn (eW T Fm) hr T.eD az (ae (pv 7) (aH (pv 3)))))) (ai (aF lE)) aV) (ag (bu (PW.pt (wS (wp vw (pv 1) g_) (wT (kK (iN (cn (eW T Fm) hr T.eD az (ae (cU aX (pv 1) af) (aH (cU aX (pv 1) af))))))))) (ai (aF lE)) aV) (ai (eU 1 lZ.nd (a9 (ae (pv 7) (aH (pv 3)))))))))))))))))) (ag (F8 8 lZ.nd ["_law_name"] 1 [] (cz (cn (l9 T) hr T.jG az (ae (cn (xy T) hr T.sX az (aH (cn (uq T) hr T.pF az (ae (pv 0) (aH af))))) (aH af)))) (fun _ _ _ _ _=>⟨(fO 0 (show(["_law_name"]:ao).Nodup by decide+kernel)),uS,(a9 (ae aB (aH (pv 0))))⟩)) (ai (aF (nZ (cn (eW T Fm) hr T.eD az (ae (yo T.qt (gK.mono (by decide)) hr rfl T.qq T.c7.b .nil az (aH (bg dr))) (aH (bg dr)))) (nZ (cn (eW T Fm) hr T.eD az (ae (yo T.qt (gK.mono (by decide)) hr rfl T.qq T.c7.b .nil az (aH (a9 dr))) (aH (a9 dr)))) (lQ (cn (eW T Fm) hr T.eD az (ae (yo T.qt (gK.mono (by decide)) hr rfl T.qq T.c7.b .nil az (aH (pv 8))) (aH (pv 8)))))))))))),?_⟩;refine⟨_,rfl,a,_,rfl,.inl hS,5,_,rfl,2,_,rfl,?_⟩;generalize hn:(if(if((List.map V.int ns).length:Int)<5 then((List.map V.int ns).length:Int) else 5)>2 then(if((List.map V.int ns).length:Int)<5 then((List.map V.int ns).length:Int) else 5) else 2)=n
  have nn:0≤n∧n≤5:=by
   rw[←hn]
   split<;>split<;>lia
  refine⟨n,rfl,by lia,by lia,?_⟩;refine vT (fun i σ H' =>∃(bs:V) (x2 x3 x4 x5 x6 x7 x8:Option V),σ=[some (.ref a),some bs,x2,x3,x4,x5,x6,x7,x8]∧cw A H H'∧mV A H'∧z6 A H' bs) ⟨.bx,_,_,_,_,_,_,_,rfl,(aj.refl H).iE,tabs,.inl rfl⟩ ?_ ?_
  ·rintro i σ Hs hi ⟨bs,x2,x3,x4,x5,x6,x7,x8,rfl,kHs,tabS,bes⟩
   refine⟨_,rfl,_,rfl,a,ns,_,rfl,hSx _ kHs,by lia,by lia,fun c=>⟨c,rfl,fun b H1 hb B s1=>⟨b,rfl,B,fun l s H2 kU hd ok dp mn K2=> ?_⟩⟩⟩;have sS2:aj Hs H2:=fun c o e=>K2 _ _ (aw e hb) (s1 _ _ e);refine⟨_,rfl,.ref l,false,s,rfl,hd,ok,by lia,by lia,fun Kq H3 s3 du=> ?_⟩;have XB:=hd.same s3;have sS3:=sS2.trans s3;have wm:=tabS.same sS3;refine⟨_,rfl,H3,.ref l,false,s,rfl,aj.refl _,XB,ok,by lia,by lia,fun hh zs H4 hhl s4 ehl ow=> ?_⟩;have Ga:=wm.same s4;have dH4:Dat H4 (.ref hh) (gg false (sL (xQ s))):= .lst ehl (by rw[Ny];exact ow.dat);obtain⟨lo1,VO⟩:=ad_ s;refine⟨_,rfl,.ref hh,false,xQ s,rfl,dH4,CG s ok,by lia,by lia,tabs.ne,Ga.p,Ga.i,fun tt H5 sF k5 T1 T2 zH=> ?_⟩;rw[Lh] at zH;have k45:cw A H4 H5:=k5;have Dx:mV A H5:=⟨tabs.ne,T1,T2⟩
   obtain⟨x,y,et,told⟩:∃x y,H5 tt=some (.tup [.str x,y])∧Gk A H4 H5 s x y:=by
    unfold Gk
    cases er:cq s with
    |none=>
     rw[er] at zH;obtain⟨p,tb,ls,hp,Eu,OK,pr,e⟩:=zH;exact⟨_,_,e,rfl,p,tb,ls,rfl,hp,OK,pr.alike (zj s)⟩
    |some r=>
     rw[er] at zH;exact⟨_,_,zH,rfl,rfl⟩
   refine⟨tt,_,rfl,bc.of et,rfl,_,_,rfl,_,_,rfl,rfl,?_⟩;have Yb:cw A H3 H5:=s4.iE.trans k45
   have Vz:LP H5 Kq (cq s):=by
    cases er:cq s with
    |none=>rw[er] at du;exact du
    |some r=>
     rw[er] at du;obtain⟨t0,rfl,e0⟩:=du;exact⟨t0,rfl,Yb.tup wm e0⟩
   refine⟨_,rfl,_,rfl,.ref l,false,s,Kq,rfl,Yb.dat wm XB,ok,by lia,by lia,Dx,Vz,fun H6 k56 Vw=>⟨_,rfl,cA ?_⟩⟩;have k36:cw A H3 H6:=Yb.trans k56;have k46:cw A H4 H6:=k45.trans k56;have Kv:=((shS _ (CG s ok)).list).rep (by rw[VO];lia) (by rw[lo1];lia);have dOf:∀{Hx:Hp} {h' :Addr} {AX :ak} {N:Addr→Prop},Hx h' =some (.lst AX)→oP Hx s.l AX N→Dat Hx (.ref h') (.list (sL (xQ s))):=fun e o=> .lst e (by rw[Ny];exact o.dat);have fin:∀(H7:Hp) (Rp :V) (x3 x4 x5 x6 x7:Option V),cw A Hs H7→mV A H7→z6 A H7 Rp→∃(bs:V) (y2 y3 y4 y5 y6 y7 y8:Option V),([some (V.ref a),some Rp,some (V.int (0+(i:Int))),x3,x4,x5,x6,x7,x8]:L2.St)=[some (.ref a),some bs,y2,y3,y4,y5,y6,y7,y8]∧cw A H H7∧mV A H7∧z6 A H7 bs:=fun H7 Rp x3 x4 x5 x6 x7 k t b=>⟨Rp,_,_,_,_,_,_,_,rfl,kHs.trans k,t,b⟩;have kS6:cw A Hs H6:=sS3.iE.trans k36;refine⟨_,rfl,rfl,_,rfl,?_⟩;unfold Gk at told
   cases er:cq s with
   |some r=>
    rw[er] at told Vz;obtain⟨rfl,rfl⟩:=told;obtain⟨t0,rfl,e0⟩:=Vz;have F:=Ez ok (by lia) (by lia) er;rw[show(decide (V.ref t0=V.bx))=false from br (fun z=>nomatch z)];refine dG ⟨_,rfl,_,rfl,fw,fun t7 Oi=>⟨_,_,rfl,.tup aa (.cons (.str _) (.cons (r.dat _) .nil)),F.1,F.2.1,F.2.2,_,rfl,_,_,rfl,.tup (aj.upd Oi _ _ (k56.tup Dx e0)) (.cons (.str _) (.cons (r.dat _) .nil)),F.1,F.2.1,F.2.2,rfl,_,rfl,N0 ?_⟩⟩;have u7:=aj.upd (o:= .tup [V.str r.tag,r.v]) Oi;generalize upd H6 t7 (.tup [V.str r.tag,r.v])=H7 at u7 ⊢;have k47:cw A H4 H7:=k46.trans u7.iE;have k37:cw A H3 H7:=k36.trans u7.iE;refine⟨_,rfl,_,_,rfl,k47.dat Ga dH4,Kv.1,Kv.2.1,Kv.2.2,_,rfl,H7,.ref l,false,s,rfl,aj.refl _,k37.dat wm XB,ok,by lia,by lia,fun h2 RS H8 hh2 s8 e8 ow8=>⟨_,_,rfl,dOf e8 ow8,Kv.1,Kv.2.1,Kv.2.2,rfl,_,rfl,N0 ?_⟩⟩;have kS8:cw A Hs H8:=(kS6.trans u7.iE).trans s8.iE;exact fin H8 bs _ _ _ _ _ kS8 ((Vw.same u7).same s8) (bes.kept kS8 tabS)
   |none=>
    rw[er] at told Vz;obtain⟨rfl,p,tb,ls,rfl,NN,Vb,pr5⟩:=told;have Vz:Kq= .bx:=Vz;subst Vz;obtain⟨m40,d6⟩:=Ap er;refine N0 ⟨_,rfl,rfl,_,rfl,N0 ⟨_,rfl,_,_,rfl,k46.dat Ga dH4,Kv.1,Kv.2.1,Kv.2.2,_,rfl,H6,.ref l,false,s,rfl,aj.refl _,k36.dat wm XB,ok,by lia,by lia,fun h2 RS H8 hh2 s8 e8 ow8=>⟨_,_,rfl,dOf e8 ow8,Kv.1,Kv.2.1,Kv.2.2,rfl,_,rfl,N0 ?_⟩⟩⟩;have k48:cw A H4 H8:=k46.trans s8.iE;have k38:cw A H3 H8:=k36.trans s8.iE;have acU:oP H8 s.l zs (pL H3 H4 hh):=ow.kt (fun c xs e=>k48.tup Ga e) (fun c xs _ e=>k48.lst Ga e);have pr8:=(k56.pr Dx pr5).same s8;refine⟨_,rfl,hh,s,zs,pL H3 H4 hh,rfl,k48.lst Ga ehl,acU,(fun z=>z.2.1 rfl),ok,by lia,by lia,fun H9 ko=> ?_⟩
    have acg:∀c o,H3 c=some o→¬(pL H3 H4 hh c∨c=hh):=fun c o e z=>by
     rcases z with z|z
     ·rw[z.1] at e;cases e
     ·rw[z,hhl] at e;cases e
    have ZF:cw A H3 H9:=fun c o h1 h2 e=>ko.2 _ _ (acg c o e) (k38 c o h1 h2 e);have acR:mV A H9:=⟨tabs.ne,(Vw.same s8).p.ko ko,(Vw.same s8).i.ko ko⟩
    have pr9:iy A.ax H9 p tb ls s:=by
     obtain⟨⟨dx,ho⟩,_,zz,hz,_⟩:=id pr8;refine pr8.kt ko.kt ((ko.1 _ _ (by intro xs z;cases z) ho).trans ho.symm) ((ko.2 _ _ (fun z=> ?_) hz).trans hz.symm);rcases z with z|z
     ·exact z.2.2 Vb
     ·rw[z,ehl] at Vb;cases Vb
    have hd9:=ZF.dat wm XB;refine⟨_,rfl,_,rfl,p,tb,ls,s,.ref l,false,rfl,pr9,hd9,ok,m40,d6,fun FD N9=>⟨_,rfl,cA ?_⟩⟩;have kS9:cw A Hs H9:=sS3.iE.trans ZF;have aed:cw A Hs FD:=kS9.trans N9.iE;have Zo:=bes.kept aed tabS
    have last:∀tH,aj FD tH→∀Kt,tH Kt=none→∃(bs:V) (y2 y3 y4 y5 y6 y7 y8:Option V),([some (V.ref a),some (V.ref Kt),some (V.int (0+(i:Int))),some (V.ref l),some V.bx,some (V.ref hh),some (V.str "program"),some (V.ref p),x8]:L2.St)=[some (.ref a),some bs,y2,y3,y4,y5,y6,y7,y8]∧cw A H (upd tH Kt (.tup [.ref p,.ref l]))∧mV A (upd tH Kt (.tup [.ref p,.ref l]))∧z6 A (upd tH Kt (.tup [.ref p,.ref l])) bs:=fun tH Ki Kt MP=>by
     have su:=(N9.trans Ki).trans (aj.upd (o:= .tup [V.ref p,.ref l]) MP);exact fin _ (.ref Kt) _ _ _ _ _ (kS9.trans su.iE) (acR.same su) (.inr ⟨Kt,p,tb,ls,s,.ref l,false,rfl,aa,pr9.same su,hd9.same su,ok,m40,d6⟩)
    refine⟨_,rfl,rfl,_,rfl,?_⟩;rcases Zo with rfl|⟨t0,p0,tb0,ls0,sb,bb,tt0,rfl,eb,prb,se,Qb,mnb,dpb⟩
    ·exact N0 ⟨_,rfl,_,rfl,fw,fun Kt MP=>last FD (aj.refl _) Kt MP⟩
    ·rw[show(decide (V.ref t0=V.bx))=false from br (fun z=>nomatch z)];refine dG ⟨_,rfl,t0,_,0,_,rfl,rfl,bc.of eb,rfl,_,rfl,t0,_,1,_,rfl,rfl,bc.of eb,rfl,p0,tb0,ls0,sb,bb,tt0,rfl,prb,se,Qb,mnb,dpb,fun tH Ki=>⟨_,rfl,cA ⟨_,rfl,_,rfl,fw,fun Kt MP=>last tH Ki Kt MP⟩⟩⟩
  ·rintro σ Hs ⟨bs,x2,x3,x4,x5,x6,x7,x8,rfl,kHs,tabS,bes⟩
   refine⟨_,rfl,a,ns,5,rfl,hSx _ kHs,by decide,by decide,fun c=>⟨c,rfl,fun b H1 hb B s1=>⟨b,12,0,rfl,B,by lia,by lia,fun l xs H2 kU hxl hxn el B2 K2=>⟨l,rfl,⟨_,bF.of el⟩,?_⟩⟩⟩⟩;have sS2:aj Hs H2:=fun c o e=>K2 _ _ (aw e hb) (s1 _ _ e);have fg:=(dN (K:=K) (bF.of el)).g;rw[aK] at fg;refine DD (fun _=>true) (fun i=>PyData.tuple [.str "tell",.str (xs.getD i "")]) fg (bO (b8 (by lia))) ?_ fun p3 H3 ys Cq s3 e3 td zg=> ?_
   ·intro j y Hx C1 C0 hj sm hy c1 c0;have hy:(xs.map V.str)[j]? =some y:=hy;rw[bj] at hy
    cases ex:xs[j]? with
    |none=>rw[ex] at hy;cases hy
    |some z=>
     rw[ex] at hy;cases hy;refine⟨(fz.refl _).own (by decide),_,rfl,fw,fun t4 F0=>c1 rfl _ _ (aj.upd F0) ?_⟩;rw[cy,ex];exact .tup aa (.cons (.str _) (.cons (.str _) .nil))
   rw[ji.mpr (fun _ _=>rfl)] at td
   have eL:(List.range xs.length).map (fun i=>PyData.tuple [.str "tell",.str (xs.getD i "")])=sL (wP xs):=by
    rw[P2];apply yn;intro j;rw[bj,bj];by_cases h:j<xs.length
    ·rw[ql h,yM h];simp[cy,h]
    ·rw[l0 (by rw[lV];lia),l0 (by lia)];rfl
   rw[eL] at td;have iQ:Dat H3 (.ref p3) (gg false (sL (wP xs))):= .lst e3 td.dat;have wm:=tabS.same (sS2.trans s3);obtain⟨tm1,_⟩:=wu xs;have tdp:=Eg xs;have n0:cQ .nil=0:=by rw[cQ]
   have d0:cM .nil=0:=by rw[cM]
   have okn:gw .nil:=by rw[gw];exact True.intro
   have dn:∀{Hx:Hp} {e:Addr},Hx e=some (.lst [])→Dat Hx (.ref e) (gg false (sL .nil)):=fun h=> .lst h (by rw[sL];exact .nil);have dt:∀{Hx:Hp} {e:Addr},Hx e=some (.tup [])→Dat Hx (.ref e) (gg true (sL .nil)):=fun h=> .tup h (by rw[sL];exact .nil);refine⟨mI,fun e4 he4=> ?_⟩;have u4:=aj.upd (o:= .lst []) he4;intro xA dxA hxA aeh aea;show nY A qI [V.ref xA,V.ref e4] _ _ _;refine DI (dn aa) okn (by lia) (by lia) BY (wm.same u4) hxA aeh aea fun tbA lsA H5 prA k5 Dx=>⟨rfl,?_⟩;have Yb:cw A H3 H5:=u4.iE.trans k5;refine⟨mI,fun e5 he5=> ?_⟩;have u5:=aj.upd (o:= .lst []) he5;refine⟨xA,tbA,lsA,.nil,.ref e5,false,rfl,prA.same u5,dn aa,okn,by lia,by lia,fun H6 s6=>⟨_,rfl,dG ?_⟩⟩;have s56:=u5.trans s6;refine⟨mI,fun e7 he7=> ?_⟩;have u7:=aj.upd (o:= .tup []) he7;have ab5:=(Dx.same s56).same u7;intro xB dxB hxB adD acX;show nY A qI [V.ref xB,V.ref e7] _ _ _;refine DI (dt aa) okn (by lia) (by lia) BY ab5 hxB adD acX fun tbB AQ H8 prB k8 Jm=>⟨rfl,?_⟩;refine⟨mI,fun e8 he8=> ?_⟩;have u8:=aj.upd (o:= .tup []) he8;refine⟨xB,tbB,AQ,.nil,.ref e8,true,rfl,prB.same u8,dt aa,okn,by lia,by lia,fun H9 s9=>⟨_,rfl,dG ?_⟩⟩;have s89:=u8.trans s9;have ZF:cw A H3 H9:=((Yb.trans (s56.trans u7).iE).trans k8).trans s89.iE;refine⟨_,rfl,fun xC dxC hxC aem acs=> ?_⟩;show nY A qI [V.ref xC,V.ref p3] _ _ _;refine DI (ZF.dat wm iQ) (Fu hxn) (by lia) (by lia) (E8 (by lia)) (Jm.same s89) hxC aem acs fun tbC lsC FD prC k10 aiI=>⟨rfl,?_⟩;exact⟨_,rfl,xC,tbC,lsC,wP xs,.ref p3,false,rfl,prC,(ZF.trans k10).dat wm iQ,Fu hxn,by lia,by lia,fun tH _=>q tH⟩
theorem L3{K:Frag}{c P:Addr}{od:Option Addr}{sl:Array (aI)}{v0 v1 v2 v3 v4 v5 v6 v8 Qn v13 v14 v15 v16 v17:Value}{fl tx:Int}{tg tt tf:Tok}{b:Bool}{file:Str}
 (l:K.lookup c=some ⟨.type "code",od,.fields #[v0,v1,v2,v3,v4,v5,v6,.int fl tg,v8,.bool b,.int tx tt,.ref P,Qn,v13,v14,v15,v16,v17,.str file tf],sl⟩) (ne:c≠P):yY K (.ref c) P:=
 ⟨c,_,_,file,tf,fl,tg,b,tx,tt,rfl,l,rfl,rfl,rfl,rfl,rfl,rfl,rfl,rfl,ne⟩
theorem VX{K:Frag}{h:Heap}{mg:Str→aI}{bm:Addr}{sl:Array (aI)}(X:K.In h)(G:h.Ns mainGlobals mg)(a:PySem.W.nsIn K mainGlobals "__builtins__"=some (some (.ref bm)))(l:K.lookup bm=some ⟨.type "module",some builtinsNs,.plain,sl⟩)(n1:bm≠builtinsNs)(n2:bm≠mainGlobals):PK K mg:=
 ⟨bm,_,PySem.W.mg_of X G a,n1,n2,l,rfl,rfl,rfl⟩
theorem aeq{K:Frag}{fd:FuncData}{ps:ao}{T:Addr}{o:Obj}{items:Array Value}{n:Nat}{k:Value→Value→Value→Option (Array Value)→Sem (List (Str×Value))}(ho:K.lookup T=some o)(hd:fd.defaults= .ref T)(hs:o.data= .seq items n)
 (h1:∀a b c,bindArgs fd ⟨[a,b,c],[]⟩=seqItems? fd.defaults>>= k a b c) (h2:∀a b c,k a b c (some items)=pure (ps.zip [a,b,c])) (hp:ps.length=3:=by rfl):Binds K fd ps []:=by
 intro s us X hl;rw[dO,hp] at hl;rw[dO];exact bn3 (P:=fun us=>BindsTo s fd ⟨us,[]⟩ (ps.zip us)) (fun a b c=>binds_K X hd ho hs (h1 a b c) (h2 a b c)) us hl
theorem adU{K:Frag}{fd:FuncData}{ps:ao}{T:Addr}{o:Obj}{u:Value}{n:Nat}{k:Value→Value→Option (Array Value)→Sem (List (Str×Value))}(ho:K.lookup T=some o)(hd:fd.defaults= .ref T)(hs:o.data= .seq #[u] n)
 (h1:∀a b,bindArgs fd ⟨[a,b],[]⟩=seqItems? fd.defaults>>= k a b) (h2:∀a b,k a b (some #[u])=pure (ps.zip [a,b,u])) (hp:ps.length=3:=by rfl):Binds K fd ps [u]:=by
 intro s us X hl;rw[ba,hp] at hl;have hl:us.length=2:=va hl;exact Yg (P:=fun us=>BindsTo s fd ⟨us,[]⟩ (ps.zip (us++[u]))) (fun a b=>binds_K X hd ho hs (h1 a b) (h2 a b)) us hl
noncomputable abbrev adn(P:Params)(l:List (Str×Tok×Addr))(ep:Nat):Obj:={cls:= .type "dict",data:= .dict (l.map fun p=>(⟨PyData.keyHash P p.1,.str p.1 p.2.1,.ref p.2.2⟩:DictEntry)).toArray ep}
theorem HV:∀l:List (Str×Tok×Addr),KV (l.map fun p=>((Sum.inr p.1:ww),V.ref p.2.2)) (l.map fun p=>((Sum.inr p.1:ww),Value.ref p.2.2))
 |[]=> .nil
 |p::r=> .cons ⟨rfl,rfl⟩ (HV r)
theorem zt(x:Str)(t:Tok):mE (.inr x) (.str x t)=true:=by
 show Value.isStrOf x (.str x t)=true;simp[Value.isStrOf]
theorem Ag{P:Program}{w:World}:∀l:List (Str×Tok×Addr),Pairs (cb P w) (l.map fun p=>(⟨PyData.keyHash w.params p.1,.str p.1 p.2.1,.ref p.2.2⟩:DictEntry)) (l.map fun p=>((Sum.inr p.1:ww),Value.ref p.2.2))
 |[]=> .nil
 |p::r=> .cons (zt p.1 p.2.1) rfl (Ag r)
theorem Fi{P:Program}{w:World}{K:Frag}{d:Addr}{l:List (Str×Tok×Addr)}{ep:Nat}(lk:K.lookup d=some (adn w.params l ep))(nd:(l.map fun p=>(Sum.inr p.1:ww)).Nodup)(ns:(d==sysModules)=false):zI P w K d (l.map fun p=>((Sum.inr p.1:ww),V.ref p.2.2)):=by
 refine⟨_,l.map fun p=>((Sum.inr p.1:ww),Value.ref p.2.2),lk,ns,HV l,fun h e=>⟨_,_,ep,e,⟨rfl,rfl,rfl⟩,rfl,fun x hx=> ?_,?_,?_⟩⟩
 ·rw[List.mem_toArray] at hx;obtain⟨p,_,rfl⟩:=fh.mp hx;exact⟨.inr p.1,zt p.1 p.2.1,rfl⟩
 ·rw[DG];exact Ag l
 ·rw[iL];exact nd
theorem fN{K:Frag}{t:Addr}{n:Nat}(l:List (Str×Tok))(lk:K.lookup t=some {cls:= .type "tuple",data:= .seq (l.map fun p=>Value.str p.1 p.2).toArray n})(h:l.length≤10):∀H,bc K H t (l.map fun p=>V.str p.1):=fun H=>by
 refine .inr ⟨_,_,n,lk,rfl,rfl,?_,?_⟩
 ·rw[bh,aK];exact aR h (by decide)
 ·rw[DG];clear lk h
  induction l with
  |nil=>exact .nil
  |cons p r ih=>exact .cons ⟨_,rfl⟩ ih
theorem tM{K:Frag}{t:Addr}{n:Nat}{i j:Int}{ti tj:Tok}(lk:K.lookup t=some {cls:= .type "tuple",data:= .seq #[.int i ti,.int j tj] n}):∀H,bc K H t [.int i,.int j]:=fun H=> .inr ⟨_,_,n,lk,rfl,rfl,fw,.cons ⟨_,rfl⟩ (.cons ⟨_,rfl⟩ .nil)⟩
noncomputable def lF:List (Str×Tok×Addr):=[("make",472,226),("put",476,227),("get",480,228),("set",484,229),("copy",487,230),("more",490,231),("tell",494,232),("same",496,233),("frame",499,234),("turns",502,235),("either",507,236)]
noncomputable def lB:List (Str×Tok×Addr):=[("size",522,238),("cell",525,239),("many",528,240),("times",531,241)]
noncomputable def frm:Frm:=⟨lF.map fun p=>((Sum.inr p.1:ww),V.ref p.2.2),lB.map fun p=>((Sum.inr p.1:ww),V.ref p.2.2)⟩
theorem WL(P:Program)(w:World){A:m9}(e1:A.gf=225)(e2:A.iw=237)(e3:Eh.data= .func A.dJ):rT P w (uI w.params) A frm:=by
 refine⟨?_,?_,?_,?_,?_⟩
 ·rw[e1];exact Fi (l:=lF) (ep:=11) (by kernel_rfl) (by decide+kernel) (by decide)
 ·rw[e2];exact Fi (l:=lB) (ep:=4) (by kernel_rfl) (by decide+kernel) (by decide)
 ·intro p hp;simp only[dg,aU,cP,cO] at hp;rcases hp with rfl|rfl|rfl|rfl|rfl|rfl|rfl|rfl|rfl|rfl|rfl
  ·exact⟨226,by with_unfolding_all rfl,fN (n:=0) [("name",473),("size",474),("mark",475)] (by kernel_rfl) (by decide)⟩
  ·exact⟨227,by with_unfolding_all rfl,fN (n:=0) [("name",477),("cell",478),("name",479)] (by kernel_rfl) (by decide)⟩
  ·exact⟨228,by with_unfolding_all rfl,fN (n:=0) [("name",481),("name",482),("cell",483)] (by kernel_rfl) (by decide)⟩
  ·exact⟨229,by with_unfolding_all rfl,fN (n:=0) [("name",485),("value",486)] (by kernel_rfl) (by decide)⟩
  ·exact⟨230,by with_unfolding_all rfl,fN (n:=0) [("name",488),("name",489)] (by kernel_rfl) (by decide)⟩
  ·exact⟨231,by with_unfolding_all rfl,fN (n:=0) [("name",491),("name",492),("number",493)] (by kernel_rfl) (by decide)⟩
  ·exact⟨232,by with_unfolding_all rfl,fN (n:=0) [("name",495)] (by kernel_rfl) (by decide)⟩
  ·exact⟨233,by with_unfolding_all rfl,fN (n:=0) [("name",497),("name",498)] (by kernel_rfl) (by decide)⟩
  ·exact⟨234,by with_unfolding_all rfl,fN (n:=0) [("label",500),("body",501)] (by kernel_rfl) (by decide)⟩
  ·exact⟨235,by with_unfolding_all rfl,fN (n:=0) [("label",503),("many",504),("times",505),("body",506)] (by kernel_rfl) (by decide)⟩
  ·exact⟨236,by with_unfolding_all rfl,fN (n:=0) [("body",508),("body",509)] (by kernel_rfl) (by decide)⟩
 ·have e4:A.dJ=(match Eh.data with| .func fd=>fd|_=>A.dJ):=by rw[e3]
  rw[e4];exact⟨.int 0 608,⟨_,rfl⟩,adU (T:=299) (o:=NA) (n:=0) (by kernel_rfl) rfl rfl (fun _ _=>rfl) (fun _ _=>rfl)⟩
 ·intro p hp;simp only[Gs,aU,cP,cO] at hp;rcases hp with rfl|rfl|rfl|rfl
  ·exact⟨238,by with_unfolding_all rfl,tM (n:=0) (ti:=523) (tj:=524) (by kernel_rfl)⟩
  ·exact⟨239,by with_unfolding_all rfl,tM (n:=0) (ti:=526) (tj:=527) (by kernel_rfl)⟩
  ·exact⟨240,by with_unfolding_all rfl,tM (n:=0) (ti:=529) (tj:=530) (by kernel_rfl)⟩
  ·exact⟨241,by with_unfolding_all rfl,tM (n:=0) (ti:=532) (tj:=533) (by kernel_rfl)⟩
structure PQ(P:Program)(w:World)(K:Frag)(A:m9):Prop where
 fm:∃fm,rT P w K A fm
 df:Og A
 p1:A.aY=543
 p2:A.au=349
theorem OL{P:Program}(w:World)(A:m9)(e1:A.gf=225)(e2:A.iw=237)(e3:Eh.data= .func A.dJ)(df:Og A)(p1:A.aY=543)(p2:A.au=349):PQ P w (uI w.params) A:=⟨⟨_,WL P w e1 e2 e3⟩,df,p1,p2⟩
noncomputable abbrev Hf:List (Addr×Array Value):=[(543,#[]),(349,#[])]
theorem Ot{w:World}{h:Heap}(X:(DF w.params).In h):(uI w.params).In h∧∀Pt ps,(Pt,ps)∈Hf→h.get? Pt=some (tabObj ps)∧(uI w.params).lookup Pt=none∧∃c,CodeHd h c Pt:=by
 have l1:(uI w.params).lookup 349=none:=by kernel_rfl
 have l2:(uI w.params).lookup 543=none:=by kernel_rfl
 have tp:(uI w.params).In h:=fun a o e=>by
  refine X a o ?_;show List.lookup a ((349,_)::(543,_)::uI w.params)=some o;have n1:a≠349:=fun z=>by rw[z,l1] at e;cases e
  have n2:a≠543:=fun z=>by rw[z,l2] at e;cases e
  rw[iu,beq_false_of_ne n1,iu,beq_false_of_ne n2];exact e
 refine⟨tp,fun Pt ps hm=> ?_⟩;simp only[aU,cP,cO,Prod.mk.injEq] at hm;rcases hm with⟨rfl,rfl⟩|⟨rfl,rfl⟩
 ·exact⟨X _ _ (by kernel_rfl),l2,(L3 (K:=uI w.params) (c:=547) (l:=show(uI w.params).lookup 547=some M3 by kernel_rfl) (by decide)).hd tp⟩
 ·exact⟨X _ _ (by kernel_rfl),l1,(L3 (K:=uI w.params) (c:=353) (l:=show(uI w.params).lookup 353=some Lz by kernel_rfl) (by decide)).hd tp⟩
structure YA(p1 p2:Addr)(H:Hp):Prop where
 ne:p1≠p2
 p:Tab H p1 Xk qP
 i:Tab H p2 HC qI
noncomputable def GN(K:Frag):Sp:=fun vs H Q _=>∃(a:Addr) (ns:List Int),vs=[.ref a]∧bF K H a (ns.map V.int)∧ns.length≤63∧YA 543 349 H∧∀H',Q (.bl true) H'
theorem walk{l:PySem.W.OpenLaw}{q:Program}{loose:ao}{XP:(Str→aI)→Heap→Prop}{YP:World→Heap→Prop}{d:DefRec}{K:Params→Frag}(hn:l.most=some 63)(Zk:d.params.defaults=[])
 (hY:∀(w:World) (h:Heap),YP w h→(K w.params).In h∧∀Pt ps,(Pt,ps)∈Hf→h.get? Pt=some (tabObj ps)∧(K w.params).lookup Pt=none∧∃c,CodeHd h c Pt)
 (F:∀(w:World) (mg:Str→aI) (fa:Addr) (h:Heap),(K w.params).In h→h.Ns mainGlobals mg→mg d.name=some (.ref fa)→
  ∃fd:FuncData,(∀(s:Shared) (u:Value),BindsTo s fd ⟨[u],[]⟩ [("_law_script",u)])∧∀base:Heap,(K w.params).In base→base.Ns mainGlobals mg→aM l.prog w (K w.params) mg base cK 24 fa fd ["_law_script"] (GN (K w.params))):
 PySem.W.WalkO q loose XP YP l.row.toRowW d [] (fun f vs=>PySem.call f vs):=
 L2.K3 (n:=63) (k:=24) (x:="_law_script") (CX:=fun _=>cK) (sp:=fun w=>GN (K w.params)) (tabs:=Hf) hn (by decide) Zk ⟨rfl,by decide,by decide,rfl⟩ hY (fun Pt ps Jc h1 h2=>by
  simp only[aU,cP,cO,Prod.mk.injEq] at h1 h2
  rcases h1 with⟨_,rfl⟩|⟨_,rfl⟩<;>rcases h2 with⟨_,rfl⟩|⟨_,rfl⟩<;>rfl) F (fun _ H a ns hl hO hS=>⟨a,ns,rfl,hS,hl,⟨by decide,⟨#[],hO.at_ _ _ (by simp),by first|exact True.intro|constructor|decide,.inl rfl⟩,⟨#[],hO.at_ _ _ (by simp),by first|exact True.intro|constructor|decide,.inl rfl⟩⟩,fun _=>rfl⟩) fun _ _ _ _ _ z=>z
theorem Uy{l:PySem.W.OpenLaw}{w:World}{K:Frag}{h:Heap}{mg:Str→aI}{fa:Addr}(X:K.In h)(G:h.Ns mainGlobals mg)(hfa:mg "law"=some (.ref fa))(hT:∃A:m9,Txt K mg A∧PQ l.prog w K A):
 ∃fd:FuncData,(∀(s:Shared) (u:Value),BindsTo s fd ⟨[u],[]⟩ [("_law_script",u)])∧∀base:Heap,K.In base→base.Ns mainGlobals mg→aM l.prog w K mg base cK 24 fa fd ["_law_script"] (GN K):=by
 obtain⟨A,T,S⟩:=hT;obtain⟨fm,Fm⟩:=S.fm;have e:=hfa.symm.trans T.Ul.m;cases e;refine⟨A.Hw,T.X_,fun base _ _=>(Wg T Fm S.df).imp fun vs H Q E ⟨a,ns,h1,h2,h3,h4,h5⟩=>⟨a,ns,h1,h2,h3,⟨?_,?_,?_⟩,h5⟩⟩
 ·rw[S.p1,S.p2];exact h4.ne
 ·rw[S.p1];exact h4.p
 ·rw[S.p2];exact h4.i
section
open PySem.W
variable{K:Frag}{h:Heap}{mg:Str→aI}{x q:Str}{st:Stmt}{ps:ao}{f C:Addr}{oc kV dc pm cd ct:Value}{od an:Option Addr}{sl:Array (aI)}
noncomputable abbrev fS(n q:Str)(s:Stmt)(kV dc pm:Value)(an:Option Addr)(cd ct:Value):FuncData:=fnOf n q (gB s) (cR s) (aq s) .none kV dc pm an cd ct
theorem YO(X:K.In h)(G:h.Ns mainGlobals mg)(a:nsIn K mainGlobals x=some (some (.ref f)))(l:K.lookup f=some ⟨oc,od,.func (fS x x st kV dc pm an cd ct),sl⟩)(c:codeIn K cd x=true)(k:keepIn K (.ref f)=true)
 (b:∀kV dc pm an cd ct (us:aD),us.length=ps.length→bindArgs (fS x x st kV dc pm an cd ct) ⟨us,[]⟩=pure (ps.zip us)):FI K mg x st ps f (fS x x st kV dc pm an cd ct):=⟨mg_of X G a,CP (st:=st) l c k,(CP (st:=st) l c k).binds b⟩
theorem ZJ(a:findIn K (.ref C) x=some (some (.ref f)))(i:isFn K (.ref f)=true)(l:K.lookup f=some ⟨oc,od,.func (fS x q st kV dc pm an cd ct),sl⟩)(c:codeIn K cd q=true)(k:keepIn K (.ref f)=true)
 (b:∀kV dc pm an cd ct (us:aD),us.length=ps.length→bindArgs (fS x q st kV dc pm an cd ct) ⟨us,[]⟩=pure (ps.zip us)):MI K C x q st ps f (fS x q st kV dc pm an cd ct):=⟨⟨a,i,k⟩,CP (st:=st) l c k,(CP (st:=st) l c k).binds b⟩
theorem ZV{nm q' :Str}{N R:Addr}{bs:aD}{sn:ao}{sub:aD}{ab:Bool}{col:Option Bool}{dd:Option Addr}{k0 k1 k2 k3 k5:aI}(X:K.In h)(G:h.Ns mainGlobals mg)(a:nsIn K mainGlobals x=some (some (.ref C)))
 (l:K.lookup C=some (excClassObj nm q' C N bs [.ref R,.type "ValueError",.type "Exception",.type "BaseException",.type "object"] true sn sub ab col dd k0 k1 k2 k3 k5 "ValueError.__new__")) (i:findIn K (.ref C) "__init__"=some (some (.ref f))) (ty:typeIn K (.ref f)=some (.type "function")) (kp:keepIn K (.ref C)=true)
 (sa:findIn K (.ref C) "__setattr__"=some (some (.builtin "object.__setattr__"))) (ga:findIn K (.ref C) "__getattribute__"=some (some (.builtin "BaseException.__getattribute__"))) (hk:findIn K (.ref C) "__getattr__"=some none) (mr:mroIn K C (.type "BaseException")=some true) (hd:hasDictIn K C=true)
 (ca:findIn K (.ref C) "__class__"=some (some (.builtin "object.__class__"))) (gt:specialIn K (.builtin "object.__class__") "__get__"=some (some (.builtin "getset_descriptor.__get__"))) (tk:takesIn K (.builtin "object.__class__")=some true) (mo:mroIn K C (.type "object")=some true) (tt:typeIn K (.ref C)=some (.type "type")) (ve:mroIn K C (.type "ValueError")=some true):XI K mg x C f R:=
 ⟨mg_of X G a,⟨⟨nm,q',N,bs,_,true,sn,sub,ab,col,dd,k0,k1,k2,k3,k5,l,rfl,rfl,rfl,rfl⟩,i,ty,kp⟩,⟨⟨nm,q',N,bs,_,sn,sub,ab,col,dd,k0,k1,k2,k3,k5,l,(by intro self;(repeat rw[refuseLoop_ref]);exact L2.vB self),rfl⟩,sa⟩,⟨⟨ga,hk,mr,hd⟩,ca,gt,tk,mo⟩,tt,Yt l,ve⟩
theorem U_{nm q' :Str}{N:Addr}{bs:aD}{sn:ao}{sub:aD}{ab:Bool}{col:Option Bool}{dd:Option Addr}{k0 k1 k2 k3 k5:aI}(X:K.In h)(G:h.Ns mainGlobals mg)(a:nsIn K mainGlobals x=some (some (.ref C)))
 (l:K.lookup C=some (excClassObj nm q' C N bs [.type "ValueError",.type "Exception",.type "BaseException",.type "object"] true sn sub ab col dd k0 k1 k2 k3 k5 "ValueError.__new__")) (i:findIn K (.ref C) "__init__"=some (some (.ref f))) (ty:typeIn K (.ref f)=some (.type "function")) (kp:keepIn K (.ref C)=true)
 (sa:findIn K (.ref C) "__setattr__"=some (some (.builtin "object.__setattr__"))) (ga:findIn K (.ref C) "__getattribute__"=some (some (.builtin "BaseException.__getattribute__"))) (hk:findIn K (.ref C) "__getattr__"=some none) (mr:mroIn K C (.type "BaseException")=some true) (hd:hasDictIn K C=true)
 (ca:findIn K (.ref C) "__class__"=some (some (.builtin "object.__class__"))) (gt:specialIn K (.builtin "object.__class__") "__get__"=some (some (.builtin "getset_descriptor.__get__"))) (tk:takesIn K (.builtin "object.__class__")=some true) (mo:mroIn K C (.type "object")=some true) (tt:typeIn K (.ref C)=some (.type "type")) (ve:mroIn K C (.type "ValueError")=some true):XI K mg x C f C:=
 ⟨mg_of X G a,⟨⟨nm,q',N,bs,_,true,sn,sub,ab,col,dd,k0,k1,k2,k3,k5,l,rfl,rfl,rfl,rfl⟩,i,ty,kp⟩,⟨⟨nm,q',N,bs,_,sn,sub,ab,col,dd,k0,k1,k2,k3,k5,l,(by intro self;(repeat rw[refuseLoop_ref]);exact L2.vB self),rfl⟩,sa⟩,⟨⟨ga,hk,mr,hd⟩,ca,gt,tk,mo⟩,tt,Vx l,ve⟩
theorem XW{oc:Value}{od:Option Addr}{dt:Data}{sl:Array (aI)}(l:K.lookup sysModules=some ⟨oc,od,dt,sl⟩)(e:oc= .type "dict"):∃o,K.lookup sysModules=some o∧o.cls= .type "dict":=⟨_,l,e⟩
theorem XU{n:Int}{t:Tok}(X:K.In h)(G:h.Ns mainGlobals mg)(a:nsIn K mainGlobals x=some (some (.int n t))):∃u,RelV (.int n) u∧mg x=some u:=⟨_,⟨_,rfl⟩,mg_of X G a⟩
theorem X1{n:Str}{t:Tok}(X:K.In h)(G:h.Ns mainGlobals mg)(a:nsIn K mainGlobals x=some (some (.str n t))):∃u,RelV (.str n) u∧mg x=some u:=⟨_,⟨_,rfl⟩,mg_of X G a⟩
end
theorem VL{P:Program}{w:World}{K:Frag}{mg:Str→aI}{f0 f1 f2 f3 f4 f5 f6 f7 f8 f9 f10 f11 Y2 f13 f14 f15 f16 f17 f18 f19 f20 f21 f22 f23 f24 f25 f26 f27 f28 f29 f30 f31 f32 f33 f34 f35 f36 f37 f38 f39 f40 f41 f42 f43 f44 f45 f46 f47 f48 f49 f50 f51 f52 f53 f54 f55 f56 f57 f58 f59 f60 f61 f62 f63 f64 f65 f66 f67 f68 f69 f70 f71 f72 f73 f74 f75:Addr}{d0 d1 d2 d3 d4 d5 d6 d7 d8 d9 d10 d11 d12 d13 d14 d15 d16 d17 d18 d19 d20 d21 d22 d23 d24 d25 d26 d27 d28 d29 d30 d31 d32 d33 d34 d35 d36 d37 d38 d39 d40 d41 d42 d43 d44 d45 d46 d47 d48 d49 d50 d51 d52 d53 d54 d55 d56 d57 d58 d59 d60:FuncData}(T:Txt K mg ⟨f0,f1,f2,f3,f4,f5,f6,f7,f8,f9,f10,f11,Y2,f13,f14,f15,f16,f17,f18,f19,f20,f21,f22,f23,f24,f25,f26,f27,f28,f29,f30,f31,f32,f33,f34,f35,f36,f37,f38,f39,f40,f41,f42,f43,f44,f45,f46,f47,f48,f49,f50,f51,f52,f53,f54,f55,f56,f57,f58,f59,f60,f61,f62,f63,f64,f65,f66,f67,f68,f69,f70,f71,f72,f73,f74,f75,d0,d1,d2,d3,d4,d5,d6,d7,d8,d9,d10,d11,d12,d13,d14,d15,d16,d17,d18,d19,d20,d21,d22,d23,d24,d25,d26,d27,d28,d29,d30,d31,d32,d33,d34,d35,d36,d37,d38,d39,d40,d41,d42,d43,d44,d45,d46,d47,d48,d49,d50,d51,d52,d53,d54,d55,d56,d57,d58,d59,d60⟩)(S:PQ P w K ⟨f0,f1,f2,f3,f4,f5,f6,f7,f8,f9,f10,f11,Y2,f13,f14,f15,f16,f17,f18,f19,f20,f21,f22,f23,f24,f25,f26,f27,f28,f29,f30,f31,f32,f33,f34,f35,f36,f37,f38,f39,f40,f41,f42,f43,f44,f45,f46,f47,f48,f49,f50,f51,f52,f53,f54,f55,f56,f57,f58,f59,f60,f61,f62,f63,f64,f65,f66,f67,f68,f69,f70,f71,f72,f73,f74,f75,d0,d1,d2,d3,d4,d5,d6,d7,d8,d9,d10,d11,d12,d13,d14,d15,d16,d17,d18,d19,d20,d21,d22,d23,d24,d25,d26,d27,d28,d29,d30,d31,d32,d33,d34,d35,d36,d37,d38,d39,d40,d41,d42,d43,d44,d45,d46,d47,d48,d49,d50,d51,d52,d53,d54,d55,d56,d57,d58,d59,d60⟩):∃A:m9,Txt K mg A∧PQ P w K A:=⟨_,T,S⟩
end My
open PySem PySem.W PyProof.Rows
set_option maxRecDepth 100000 in
set_option maxHeartbeats 0 in
theorem PySem.Challenge.cw_framerooms_k36_programs_told_holds : PySem.Challenge.rw_framerooms_k36_programs_told.Holds := by
 w_on
 refine holds_law My.U5 fun adW=> ?_;refine holds_open (q:=My.pH) (loose:=My.yN) (Xt:=fun s=>xlAt My.pH [] s&&recOk (RowW.records PySem.Challenge.rw_framerooms_k36_programs_told.row.toRowW) s) (XP:=XL My.pH []) (Yf:=My.oQ.obs) (Ya:=My.oQ.val) (YP:=Hook.says (kHook My.DF My.UT My.HZ)) My.Wn My.oQ.of My.oQ.keeps (fun s e=>xl_of s (Bool.and_eq_true_iff.mp e).1) XL.keeps (by rfl) (by rfl) (by rfl) (fun s e=>recFacts_of (Bool.and_eq_true_iff.mp e).2) (by rfl) adW (by decide+kernel) ⟨rfl,rfl,rfl,rfl,rfl,by decide+kernel⟩ ?hw ?hc
 case hw=>w_witness2
 refine My.walk (l:=PySem.Challenge.rw_framerooms_k36_programs_told) (K:=My.uI) rfl rfl (fun w h Y=>My.Ot (PySem.W.kIn_of Y)) ?F
 case F=>
  k_fill
  intro w mg fa h KX G PZ;refine' My.Uy KX G PZ (My.VL ?T ?S)
  case T=>
   constructor
   all_goals try dsimp only
   all_goals first|(apply My.ZV KX G<;>k_is)|(apply My.U_ KX G<;>k_is)|(apply My.YO KX G;(iterate 4 k_is);(intro _ _ _ _ _ _;first|exact L2.bn1 fun _=>rfl|exact L2.Yg fun _ _=>rfl|exact L2.bn3 fun _ _ _=>rfl|exact L2.bn4 fun _ _ _ _=>rfl|exact L2.bn6 fun _ _ _ _ _ _=>rfl))|(apply L2.UM KX G;(iterate 4 k_is);exact My.aeq (by k_is) rfl rfl (fun _ _ _=>rfl) (fun _ _ _=>rfl))|(apply My.ZJ;(iterate 5 k_is);(intro _ _ _ _ _ _;first|exact L2.bn1 fun _=>rfl|exact L2.Yg fun _ _=>rfl|exact L2.bn3 fun _ _ _=>rfl|exact L2.bn4 fun _ _ _ _=>rfl|exact L2.bn6 fun _ _ _ _ _ _=>rfl))|(refine' mg_of KX G ?_;k_is)|(refine' mg_none_of KX G ?_;k_is)|(apply My.XU KX G;k_is)|(apply My.X1 KX G;k_is)|k_is|(show _=_;k_is)|(apply My.L3;k_is;decide)|(apply My.VX KX G;k_is;k_is;decide;decide)|(constructor<;>k_is)|(apply My.XW;k_is;rfl)|decide|(intro _ _;exact BindsTo.of_eq rfl)
  case S=>exact My.OL w _ rfl rfl rfl (by unfold My.Og;decide) rfl rfl
