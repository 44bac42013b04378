import PyProof.Rows.All
import Wide.All
import OpenK.AllK
import Wide.FinOn
import Lean
import PyProof.EqAt
import PyProof.EqKinds
import PyProof.TupleCall
import PySem.Challenge.RW_framerooms_k38_texts_both_ways
set_option Elab.async false
set_option linter.all false
set_option maxRecDepth 100000
set_option maxHeartbeats 4000000
theorem Z{α:Sort _}{a:α}:a=a:=rfl
abbrev D':=@PySem.mem_of_lookup
abbrev F':=@PySem.F.slot_list_append
abbrev G':=@PySem.F.type_list_append
abbrev J':=@PySem.StrLaws.join_length_le
abbrev M':=@PySem.StrLaws.sumLen_le
abbrev R':=@PySem.StrLaws.glued_eq_join
abbrev S':=@PySem.W.KIN.signs_num
abbrev U':=@PySem.Spec.same_self
abbrev V':=PySem.Value->PySem.Shared->Prop
abbrev W':=PySem.Value
abbrev X':=PySem.Shared
abbrev Y':=PySem.Addr
abbrev Z':=PySem.PyData
abbrev aaa:=PySem.Expr
abbrev aai:=PySem.World
abbrev aal:=PySem.Around
abbrev aam:=PySem.Heap
abbrev aan:=PySem.Program
abbrev aap:=PySem.FuncData
abbrev av:=@PySem.wpAny_bind
abbrev bg:=@PySem.Heap.get?_push_of_some
abbrev aG:=@List.length_map
abbrev aT:=@List.length_append
abbrev aX:=@PySem.Heap.lt_size
abbrev aW:=@PySem.wpAny_pure
abbrev aN:=@List.mem_cons
abbrev aZ:=@List.length_cons
abbrev aJ:=@Nat.le_refl
abbrev a7:=@List.mem_cons_of_mem
abbrev a9:=@List.mem_cons_self
abbrev aU:=@decide_eq_true
abbrev aq:=@if_neg
abbrev aL:=@Nat.le_trans
abbrev bt:=@List.mem_of_getElem?
abbrev bf:=@decide_eq_false
abbrev bo:=@of_decide_eq_true
abbrev cK:=@PySem.Heap.get?_push_size
abbrev bC:=@List.size_toArray
abbrev ay:=@if_pos
abbrev bG:=@List.getElem?_map
abbrev dE:=@List.getElem?_eq_some_iff
abbrev bS:=@List.all_eq_true
abbrev cq:=@Nat.lt_of_lt_of_le
abbrev dC:=@PySem.F.plainAttrs_list
abbrev cE:=@Bool.false_ne_true
abbrev eQ:=@List.getD_eq_getElem?_getD
abbrev bZ:=@List.append_nil
abbrev fY:=@PySem.Heap.get?_update_other
abbrev fz:=@List.getElem?_append_left
abbrev cu:=@List.map_append
abbrev cF:=@List.not_mem_nil
abbrev dP:=@List.mem_append_right
abbrev cP:=@PySem.wpAny_field
abbrev cL:=@Bool.and_eq_true
abbrev eJ:=@List.mem_append_left
abbrev eV:=@List.length_replicate
abbrev dv:=@List.append_assoc
abbrev cn:=@Nat.lt_irrefl
abbrev bY:=@Nat.ne_of_lt
abbrev cW:=@List.mem_append
abbrev gS:=@List.getElem?_append_right
abbrev bU:=@Nat.zero_le
abbrev gf:=@List.take_of_length_le
abbrev fA:=@decide_eq_true_iff
abbrev fB:=@List.mem_singleton
abbrev cV:=@Nat.le_of_lt
abbrev gD:=@List.filter_eq_self
abbrev i5:=@PySem.wpAny_loadPart_at
abbrev kP:=@PySem.Heap.get?_update_self
abbrev fM:=@PySem.wpAny_mono
abbrev gx:=@Nat.lt_of_le_of_lt
abbrev fC:=@Option.some.inj
abbrev eG:=@List.map_cons
abbrev fN:=@List.nodup_cons
abbrev fO:=@List.length_nil
abbrev jD:=@PySem.F.plainAttrs_str
abbrev kI:=@PySem.wpAny_truthy_bool
abbrev jI:=@List.getElem?_eq_none
abbrev jE:=@PySem.Heap.size_push
abbrev mv:=@PySem.wpAny_Call_Name_kw
abbrev cH:=@or_false
abbrev b7:=@Ne.symm
abbrev jF:=@PySem.wpAny_holding
abbrev g_:=@Nat.not_lt_zero
abbrev ip:=@List.lookup_cons
abbrev j_:=@Nat.mul_le_mul_right
abbrev iU:=@PySem.call_meets
abbrev nX:=@PySem.wpAny_newObj_type
abbrev fZ:=@List.mem_map
abbrev qr:=@PySem.wpAny_isSubtype_exc
abbrev qt:=@PySem.F.slot_list_extend
abbrev wt:=@PyProof.Rows.slot_tuple_getitem
abbrev tM:=@Array.getElem?_eq_some_iff
abbrev gX:=@Nat.ne_of_gt
abbrev nV:=@PySem.wpAny_seqItems
abbrev lh:=@List.take_length
abbrev lu:=@Nat.le_add_right
abbrev wH:=@PySem.wpAny_callSpecial?_slot
abbrev nt:=@Nat.add_le_add_left
abbrev mD:=@Int.toNat_natCast
abbrev qD:=@List.take_append_drop
abbrev tK:=@PySem.Calls.spliced_cons
abbrev tL:=@PySem.Obj.data_mapFields
abbrev tO:=@PySem.F.type_list_extend
abbrev qk:=@PySem.F.slot_str_join
abbrev qo:=@PySem.F.type_str_join
abbrev km:=@Bool.eq_iff_iff
abbrev ko:=@PySem.W.kia_one
abbrev wF:=@PyProof.Rows.callWith_type1
abbrev tm:=@List.getElem?_replicate
abbrev tV:=@PySem.wpAny_call_entry
abbrev qq:=@PySem.wpAny_standAt
abbrev z9:=@List.eq_nil_of_length_eq_zero
abbrev oE:=@List.length_take
abbrev pz:=@List.contains_cons
abbrev wM:=@PySem.wpAny_setField_rec
abbrev oo:=@List.cons_append
abbrev mC:=@List.mem_range
abbrev oB:=@PySem.wpAny_setField
abbrev rh:=@List.length_eq_zero_iff
abbrev oA:=@List.filterMap_cons
abbrev ik:=@List.map_map
abbrev uH:=@PySem.F.excBase_ValueError
abbrev ze:=@PySem.F.slot_tuple_iterator_next
abbrev n8:=@PySem.codeAny_mono
abbrev nC:=@List.filter_append
abbrev uQ:=@Array.getElem?_eq_getElem
abbrev uG:=@PySem.wpAny_pyIter_list
abbrev vo:=@PySem.Calls.spliced_nil
abbrev qH:=@beq_eq_false_iff_ne
abbrev qG:=@List.replicate_succ
abbrev rg:=@List.getElem?_range
abbrev oh:=@PySem.wpAny_call
abbrev nS:=@List.length_drop
abbrev vT:=@PySem.F.slot_str_split
abbrev vO:=@PySem.F.slot_tuple_mul
abbrev ub:=@List.filter_eq_nil_iff
abbrev qX:=@PySem.W.callWith_K
abbrev zi:=@PySem.Obj.isFreed_of_fields
abbrev qW:=@Int.emod_lt_of_pos
abbrev uY:=@PySem.wpAny_passesOwn
abbrev vw:=@List.mem_iff_getElem?
abbrev vd:=@PySem.F.slot_zip_next
abbrev nz:=@Int.emod_nonneg
abbrev lV:=@List.cons.inj
abbrev rG:=@PySem.W.piece_app
abbrev qU:=@PySem.sizeLine_eq
abbrev qM:=@List.length_range
abbrev rb:=@List.take_add_one
abbrev qY:=@List.reverse_cons
abbrev zD:=@PySem.F.plain_extend_loop
abbrev nA:=@Option.none_or
abbrev qE:=@PySem.wpAny_rule
abbrev zj:=@PySem.wpAny_pyIter_tuple
abbrev lP:=@Nat.le_of_eq
abbrev qV:=@PySem.typeIs_str
abbrev zI:=@List.getElem?_eq_getElem
abbrev vP:=@Array.length_toList
abbrev zt:=@PySem.PyData.noDict_hsm
abbrev uL:=@List.mem_filterMap
abbrev q_:=@List.nil_append
abbrev qZ:=@List.find?_cons
abbrev uM:=@Bool.false_eq_true
abbrev rE:=@Int.natCast_add
abbrev vY:=@List.ext_getElem?
abbrev vB:=@List.flatMap_cons
abbrev rC:=@List.drop_drop
abbrev y_:=@PySem.wpAny_execs_nil
abbrev Fn:=@PySem.Calls.callWith_builtin
abbrev zq:=@PySem.F.slot_int_rmul
abbrev n5:=@List.map_nil
abbrev y0:=@List.length_filter_le
abbrev zh:=@PySem.wpAny_updateSeq
abbrev zd:=@List.getElem?_set_ne
abbrev vh:=@PySem.typeIs_int
abbrev uN:=@List.cons_ne_nil
abbrev Eo:=@PySem.codeAny_call_builtin
abbrev nT:=@Nat.le_succ
abbrev zu:=@PySem.wpAny_onRaise
abbrev zr:=@Int.toNat_of_nonneg
abbrev vL:=@List.mem_filter
abbrev vj:=@List.forIn_cons
abbrev rp:=@Nat.lt_trans
abbrev qS:=@Bool.or_true
abbrev Ef:=@PySem.F.args_str_split_2
abbrev El:=@PySem.F.args_tuple_mul_2
abbrev zm:=@Int.natAbs_natCast
abbrev vg:=@Nat.add_le_add
abbrev E1:=@List.lookup_eq_some_iff
abbrev zk:=@List.flatten_cons
abbrev zN:=@List.nodup_append
abbrev Fp:=@List.getElem?_set_self
abbrev Fy:=@Option.map_eq_some_iff
abbrev E3:=@List.drop_of_length_le
abbrev uI:=@List.sum_cons
abbrev zA:=@Nat.lt_succ_self
abbrev me:=@if_false
abbrev zC:=@Nat.le_max_right
abbrev EX:=@List.length_singleton
abbrev rD:=@beq_iff_eq
abbrev zL:=@List.of_mem_zip
abbrev JV:=@PyProof.Rows.callWith_builtin1
abbrev yZ:=@Nat.le_max_left
abbrev zM:=@Int.natCast_mul
abbrev Ec:=@ne_true_of_eq_false
abbrev Eg:=@List.toList_toArray
abbrev zo:=@List.forIn_nil
abbrev zB:=@Nat.mul_le_mul
abbrev Ky:=@Nat.toDigits_append_toDigits
abbrev zF:=@List.all_cons
abbrev zG:=@List.any_cons
abbrev oz:=@if_true
abbrev EI:=@List.getElem_mem
abbrev zz:=@List.all_map
abbrev zw:=@Nat.succ.inj
abbrev FC:=@List.length_set
open PySem.W (CodeHd Frag bind_fn binds_K callWith_K cellsFrom_some clsIn emptyDict envX findCls findObj_own handedIn instObj kia_one kia_tup kitOne kitx_dict kitx_list kitx_tuple kla_eval kla_fn lookIn looks_findIn makesIn methodCall_KW methodObj notCls plainGet plainGet_of plainOver set_plain tabObj takerIn)
open PySem.F (args_dict_get_3 args_tuple_add_2 entry_dict_get entry_extend_loop entry_tuple_add excBase_ValueError plainAttrs_list plainAttrs_str plain_extend_loop slot_dict_get slot_list_extend slot_str_join slot_str_split slot_str_startswith slot_tuple_add type_list_extend type_str_join type_str_split type_str_startswith)
open PySem in
noncomputable abbrev aR:=List (Y'×Obj)
open PySem in
noncomputable abbrev aE:=List W'
open PySem in
noncomputable abbrev aM:=Option W'
open PySem in
noncomputable abbrev aj:=List Str
open PySem in
noncomputable abbrev bh:=List Y'
open PySem in
noncomputable abbrev b_:=List aaa
namespace L2
open PySem PySem.Spec PyProof.Rows
def wf(s:Stmt)(j:Nat):Stmt:=match s with
 | .ClassDef _ _ _ body _ _ _ _ _ _ _=>body.getD j (.Pass ⟨0,0,0,0⟩)
 |_=> .Pass ⟨0,0,0,0⟩
noncomputable def gN(s:Stmt):Arguments:=match s with
 | .FunctionDef _ a _ _ _ _ _ _ _ _=>a
 |_=>{posonlyargs:=[],args:=[],vararg:=none,kwonlyargs:=[],kw_defaults:=[],kwarg:=none,defaults:=[]}
noncomputable def dr(s:Stmt):List Stmt:=match s with
 | .FunctionDef _ _ b _ _ _ _ _ _ _=>b
 |_=>[]
noncomputable def ao(s:Stmt):Scope:=match s with
 | .FunctionDef _ _ _ _ _ _ sc _ _ _=>sc
 |_=>{kind:= .function,names:=[],isGenerator:=false,isCoroutine:=false}
end L2
namespace My
open PySem L2 PyProof.Rows
def top(i:Nat):Stmt:=PySem.Challenge.pw_framerooms_k38_texts_both_ways.main.body.getD i (.Pass ⟨0,0,0,0⟩)
abbrev jo:Stmt:=(wf (top 2) 0)
abbrev lC:Stmt:=(wf (top 3) 0)
abbrev vz:Stmt:=(wf (top 4) 0)
abbrev kQ:Stmt:=(wf (top 5) 0)
abbrev kC:Stmt:=(wf (top 6) 0)
abbrev kU:Stmt:=(wf (top 7) 0)
abbrev m8:Stmt:=(wf (top 8) 0)
abbrev kM:Stmt:=(wf (top 9) 0)
abbrev l8:Stmt:=(wf (top 11) 0)
abbrev xu:Stmt:=(top 17)
abbrev AH:Stmt:=(top 18)
abbrev DG:Stmt:=(top 19)
abbrev oY:Stmt:=(top 20)
abbrev oU:Stmt:=(top 21)
abbrev Dx:Stmt:=(top 26)
abbrev PX:Stmt:=(top 27)
abbrev A3:Stmt:=(top 28)
abbrev ym:Stmt:=(top 29)
abbrev A1:Stmt:=(top 30)
abbrev yk:Stmt:=(top 31)
abbrev Dr:Stmt:=(top 32)
abbrev BQ:Stmt:=(top 33)
abbrev xx:Stmt:=(top 34)
abbrev sk:Stmt:=(top 35)
abbrev De:Stmt:=(top 36)
abbrev xD:Stmt:=(top 37)
abbrev uB:Stmt:=(top 38)
abbrev uf:Stmt:=(top 39)
abbrev yi:Stmt:=(top 40)
abbrev fE:Stmt:=(wf (top 46) 0)
abbrev qf:Stmt:=(wf (top 46) 1)
abbrev oI:Stmt:=(wf (top 46) 2)
abbrev mL:Stmt:=(wf (top 46) 6)
abbrev mj:Stmt:=(wf (top 46) 7)
abbrev xZ:Stmt:=(top 47)
abbrev sQ:Stmt:=(top 48)
abbrev xh:Stmt:=(top 49)
abbrev qw:Stmt:=(top 51)
abbrev AJ:Stmt:=(top 52)
abbrev vb:Stmt:=(top 53)
abbrev Be:Stmt:=(top 54)
abbrev pU:Stmt:=(top 55)
abbrev vZ:Stmt:=(top 56)
abbrev uz:Stmt:=(top 57)
abbrev yr:Stmt:=(top 58)
abbrev AR:Stmt:=(top 59)
abbrev xX:Stmt:=(top 60)
abbrev xA:Stmt:=(top 62)
abbrev BU:Stmt:=(top 63)
abbrev yn:Stmt:=(top 64)
abbrev vU:Stmt:=(top 65)
abbrev sP:Stmt:=(top 66)
abbrev qi:Stmt:=(top 67)
abbrev vp:Stmt:=(top 68)
abbrev mz:Stmt:=(top 69)
abbrev uh:Stmt:=(top 70)
abbrev sv:Stmt:=(top 71)
abbrev x_:Stmt:=(top 72)
abbrev kX:Stmt:=(top 73)
abbrev xY:Stmt:=(top 74)
abbrev oi:Stmt:=(top 75)
abbrev yj:Stmt:=(top 76)
abbrev jW:Stmt:=(top 77)
abbrev kL:Stmt:=(top 78)
abbrev Tt:Stmt:=(top 79)
section hd
open PySem PySem.W PySem.Calls PyProof.Rows
noncomputable section
noncomputable abbrev bK(x:String)(n:Nat):W':=Value.str (Str.ofString x) n
noncomputable abbrev lJ(l:Array W'):Obj:={cls:=Value.type "tuple",data:=Data.seq l}
noncomputable abbrev Vy(l:Array W'):Obj:={cls:=Value.none,data:=Data.fields l}
noncomputable abbrev hdO(l:Array W'):Obj:={cls:=Value.type "code",data:=Data.fields l}
noncomputable abbrev hdK(a b:String)(n l r u:Nat):Obj:=hdO #[bK a n,bK b (n+1),bK "/claim/cut.py" (n+2),.int l 0,.int 0 0,.int 0 0,.int 0 0,.int 0 0,.ref r,.bool false,.int 181 0,.ref (r+1),.none,.none,.none,.none,.int u 0,.int l 0,bK "/claim/cut.py" (u+1)]
noncomputable abbrev FF(a b:String)(n l p r u:Nat):Obj:=hdO #[bK a n,bK b (n+1),bK "/claim/cut.py" (n+2),.int l 0,.int p 0,.int 0 0,.int 0 0,.int 3 0,.ref r,.bool true,.int 181 0,.ref (r+1),.none,.ref (r+2),.ref (r+3),.ref (r+4),.int u 0,.int l 0,bK "/claim/cut.py" (u+1)]
noncomputable abbrev hdF(n q:String)(s:Stmt)(m:String)(k:Nat)(c:Y'):Obj:={cls:=Value.type "function",data:=Data.func {name:=Str.ofString n,qualname:=Str.ofString q,params:=L2.gN s,body:= .stmts (L2.dr s),scope:=L2.ao s,globals:=3,closure:=[],defaults:=Value.none,kwdefaults:=Value.none,pyModule:=bK m k,code:=Value.ref c}}
noncomputable abbrev hdG(n q:String)(s:Stmt):Obj:={cls:=Value.none,data:=Data.func {name:=Str.ofString n,qualname:=Str.ofString q,params:=L2.gN s,body:= .stmts (L2.dr s),scope:=L2.ao s,globals:=0,closure:=[],defaults:=Value.none,kwdefaults:=Value.none}}
variable(P:Params)
noncomputable abbrev j8(P:Params)(x:String)(n:Nat)(v:W'):DictEntry:={hash:=PyData.keyHash P (Str.ofString x),key:=Value.str (Str.ofString x) n,val:=v}
noncomputable def WR(c:Nat):List (Nat×Nat)->aE|[]=>[]|(a,r)::l=> .int a 0:: .int c 0:: .ref r::WR c l
noncomputable abbrev NO:List (Nat×Nat):=[(1,20),(5,27),(9,47),(14,66),(19,85),(24,104)]
noncomputable abbrev Kd:List (Nat×Nat):=NO++[(29,123),(34,142),(39,161),(44,180),(49,199)]
noncomputable abbrev Hj:List (Nat×Nat):=Kd++[(59,218),(61,225),(63,230),(67,237),(71,242)]
noncomputable abbrev DI:List (Nat×Nat):=Hj++[(81,264),(87,271),(101,278),(103,283),(105,290),(107,297),(115,304),(121,311),(127,319),(134,326),(144,333),(152,338),(154,343),(161,348),(163,353)]
noncomputable abbrev Jo:List (Nat×Nat):=DI++[(177,360),(209,428),(216,435),(222,442),(230,449),(232,456),(244,463),(249,470),(257,477),(261,484),(280,491),(282,496),(292,503),(300,510),(307,517),(311,524),(313,531),(322,536),(336,543),(347,548),(366,553),(373,560),(375,565),(381,572),(389,577),(405,584),(424,591),(426,596),(439,603),(462,610),(478,615),(488,622)]
noncomputable abbrev dh(P:Params)(x:String)(n:Nat)(a:Y'):DictEntry:=j8 P x n (.ref a)
noncomputable abbrev Ih(l:List DictEntry)(n:Nat):Obj:={cls:= .type "dict",data:=Data.dict ⟨l⟩ n}
noncomputable def Ll(t:List DictEntry):List DictEntry:=j8 P "__doc__" 166 (.none)::j8 P "__package__" 167 (.none)::j8 P "__loader__" 168 (.builtin ("__main__.__loader__#opa" ++ "que"))::j8 P "__spec__" 169 (.none)::dh P "__annotations__" 170 6::dh P "__builtins__" 171 4::j8 P "__file__" 173 (bK "/claim/cut.py" 172)::j8 P "__cached__" 174 (.none)::dh P "_wall" 193 21::dh P "RoomError" 221 38::dh P "TooMany" 246 58::dh P "NoDeed" 271 77::dh P "TooDeep" 296 96::dh P "TooWide" 321 115::t
noncomputable def FT(t:List DictEntry):List DictEntry:=dh P "TooLong" 346 134::dh P "Twice" 371 153::dh P "NoLabel" 396 172::dh P "NoMaking" 421 191::dh P "NoText" 446 210::t
noncomputable def KO(t:List DictEntry):List DictEntry:=j8 P "LETTERS" 450 (bK "abcdefghijklmnopqrstuvwxyz" 449)::j8 P "FIGURES" 452 (bK "0123456789" 451)::j8 P "MOST_LETTERS" 454 (.int 6 453)::j8 P "MOST_FIGURES" 456 (.int 40 455)::dh P "is_number" 463 219::dh P "is_whole" 472 226::dh P "is_name" 478 231::dh P "is_whole_text" 485 238::dh P "is_count_text" 491 243::j8 P "OUTERMOST" 495 (bK "ground" 494)::t
noncomputable def S8(t:List DictEntry):List DictEntry:=dh P "is_deed" 568 265::dh P "fits" 576 272::dh P "parts_of" 583 279::dh P "bodies_of" 589 284::dh P "is_block" 596 291::dh P "want_body" 605 298::dh P "many_in" 615 305::dh P "depth_of" 625 312::dh P "rewritten" 638 320::dh P "with_bodies" 651 327::dh P "listing" 663 334::dh P "widest_of" 669 339::dh P "choices_of" 675 344::dh P "longest_of" 681 349::dh P "length_of" 687 354::j8 P "MOST_DEEDS" 691 (.int 40 690)::j8 P "MOST_DEPTH" 693 (.int 6 692)::j8 P "MOST_CHOICES" 695 (.int 4 694)::j8 P "MOST_STEPS" 697 (.int 100 696)::t
noncomputable abbrev yD(x0:String)(x1:Nat)(x2:Nat)(x3:Nat):Obj:=hdK x0 x0 x1 x2 x3 (x1+3)
noncomputable abbrev yB(x0:Nat)(x1:Nat)(x2:String)(x3:Nat):Obj:={cls:= .type "frame",slots:= #[some (.ref x0),some (.ref 3),some (.ref x1),none,some (bK x2 x3),none,some (.ref 0)]}
noncomputable abbrev iO(x0:String)(x1:Nat):Obj:=lJ #[bK x0 x1]
noncomputable abbrev cZ(x0:String)(x1:Nat):Obj:=hdG x0 x0 (top x1)
noncomputable abbrev fQ(x0:String)(x1:Nat)(x2:Nat)(x3:Nat)(x4:Nat)(x5:Nat):Obj:=FF x0 x0 x1 x2 x3 x4 x5
noncomputable abbrev dg(x0:String)(x1:Nat)(x2:String)(x3:Nat)(x4:Nat):Obj:=hdF x0 x0 (top x1) x2 x3 x4
noncomputable abbrev CI(x0:Nat)(x1:String)(x2:Nat)(x3:Nat)(x4:Nat):Obj:={cls:= .type "dict",data:=Data.dict #[j8 P "__module__" x0 (bK "framerooms.errors" 194),j8 P "__qualname__" (x0+2) (bK x1 (x0+1)),j8 P "__firstlineno__" (x0+4) (.int x2 (x0+3)),j8 P "__init__" (x0+12) (.ref x3),j8 P "__static_attributes__" x4 (.ref (x3+1))] 5}
noncomputable abbrev Cn(x0:Nat)(x1:Nat):Obj:=Vy #[.int x0 0,.int 4 0,.ref x1]
noncomputable abbrev n_(x0:String)(x1:Nat)(x2:String):Obj:=lJ #[bK x0 x1,bK x2 (x1+1)]
noncomputable abbrev oZ(x0:String)(x1:String)(x2:Nat)(x3:Nat):Obj:=hdG x0 x1 (wf (top x2) x3)
noncomputable abbrev iT(x0:String)(x1:String)(x2:Nat)(x3:Nat)(x4:String)(x5:Nat)(x6:Nat):Obj:=hdF x0 x1 (wf (top x2) x3) x4 x5 x6
noncomputable abbrev pB(x0:Nat):Obj:={cls:= .type "super",data:=Data.fields #[.ref x0,.ref x0,.ref x0]}
noncomputable abbrev qj(x0:Nat):Obj:={cls:= .type "builtin_function_or_method",data:=Data.fields #[.builtin "object.__init_subclass__",.ref x0]}
noncomputable abbrev vW(x0:Nat)(x1:Nat)(x2:Nat):Obj:={cls:= .type "dict",data:=Data.dict #[j8 P "__module__" x0 (bK "framerooms.errors" 194),j8 P "__firstlineno__" (x0+4) (.int x1 (x0+3)),j8 P "__init__" (x0+12) (.ref x2),j8 P "__static_attributes__" (x0+14) (.ref (x2+1)),j8 P "__doc__" (x0+15) (.none)] 2}
noncomputable abbrev uO(x0:String)(x1:Nat)(x2:Nat):Obj:={cls:= .type "type",data:=Data.cls {name:=Str.ofString x0,bases:=[.ref 38],mro:=[.ref (x1+16),.ref 38,.type "ValueError",.type "Exception",.type "BaseException",.type "object"],ns:=(x1+15),qualname:=Str.ofString x0},slots:= #[some (.ref x1),none,some (bK x0 x2),some (bK x0 (x2+8)),some (.builtin "ValueError.__new__"),some (.bool true)]}
noncomputable abbrev xj(x0:String)(x1:Nat)(x2:String)(x3:String):Obj:=lJ #[bK x0 x1,bK x2 (x1+1),bK x3 (x1+2)]
noncomputable abbrev jL(x0:String)(x1:Nat)(x2:Nat)(x3:Nat)(x4:Nat):Obj:=hdO #[bK x0 x1,bK x0 (x1+1),bK "/claim/cut.py" (x1+2),.int x2 0,.int x3 0,.int 0 0,.int 0 0,.int 3 0,.ref x4,.bool true,.int 181 0,.ref (x4+1),.none,.none,.none,.ref (x4+2),.int (x1+3) 0,.int x2 0,bK "/claim/cut.py" (x1+4)]
noncomputable abbrev aS:=lJ #[]
noncomputable abbrev bN:=Vy #[]
noncomputable abbrev Jg:=yD "<module>" 182 1 11
noncomputable abbrev Ju:=yB 13 3 "__main__" 164
noncomputable abbrev Am:Obj:={cls:= .type "builtin_function_or_method",data:=Data.fields #[.builtin "type.__prepare__",.type "type"]}
noncomputable abbrev acD:=FF "__init__" "RoomError.__init__" 208 7 2 29 213
noncomputable abbrev aaR:=iT "__init__" "RoomError.__init__" 2 0 "framerooms.errors" 194 34
noncomputable abbrev abc:Obj:={cls:= .type "dict",data:=Data.dict #[j8 P "__module__" 203 (bK "framerooms.errors" 194),j8 P "__firstlineno__" 207 (.int 5 206),j8 P "__init__" 215 (.ref 35),j8 P "__static_attributes__" 216 (.ref 36),j8 P "__weakref__" 218 (.ref 39),j8 P "__doc__" 219 (.none)] 3}
noncomputable abbrev EC:=lJ #[.ref 38]
noncomputable abbrev acq:=FF "__init__" "TooMany.__init__" 234 11 2 49 239
noncomputable abbrev aaQ:=iT "__init__" "TooMany.__init__" 3 0 "framerooms.errors" 194 54
noncomputable abbrev abM:=vW P 229 9 55
noncomputable abbrev aaY:=uO "TooMany" 42 222
noncomputable abbrev abO:=FF "__init__" "NoDeed.__init__" 259 16 2 68 264
noncomputable abbrev abf:=iT "__init__" "NoDeed.__init__" 4 0 "framerooms.errors" 194 73
noncomputable abbrev ZJ:=vW P 254 14 74
noncomputable abbrev abN:=uO "NoDeed" 61 247
noncomputable abbrev ZP:=FF "__init__" "TooDeep.__init__" 284 21 2 87 289
noncomputable abbrev aaS:=iT "__init__" "TooDeep.__init__" 5 0 "framerooms.errors" 194 92
noncomputable abbrev ach:=vW P 279 19 93
noncomputable abbrev abl:=uO "TooDeep" 80 272
noncomputable abbrev VD:=FF "__init__" "TooWide.__init__" 309 26 2 106 314
noncomputable abbrev T3:=iT "__init__" "TooWide.__init__" 6 0 "framerooms.errors" 194 111
noncomputable abbrev Vg:=vW P 304 24 112
noncomputable abbrev Ut:=uO "TooWide" 99 297
noncomputable abbrev C6:Obj:={cls:= .type "type",data:=Data.cls {name:=Str.ofString "RoomError",bases:=[.type "ValueError"],mro:=[.ref 38,.type "ValueError",.type "Exception",.type "BaseException",.type "object"],ns:=37,qualname:=Str.ofString "RoomError",subclasses:=[.ref 58,.ref 77,.ref 96,.ref 115,.ref 134,.ref 153,.ref 172,.ref 191,.ref 210]},slots:= #[some (.ref 22),none,some (bK "RoomError" 196),some (bK "RoomError" 204),some (.builtin "ValueError.__new__"),some (.bool true)]}
noncomputable abbrev Tj:=FF "__init__" "TooLong.__init__" 334 31 2 125 339
noncomputable abbrev Vr:=iT "__init__" "TooLong.__init__" 7 0 "framerooms.errors" 194 130
noncomputable abbrev Sh:=vW P 329 29 131
noncomputable abbrev U3:=uO "TooLong" 118 322
noncomputable abbrev T9:=FF "__init__" "Twice.__init__" 359 36 2 144 364
noncomputable abbrev Ss:=iT "__init__" "Twice.__init__" 8 0 "framerooms.errors" 194 149
noncomputable abbrev VR:=vW P 354 34 150
noncomputable abbrev VZ:=uO "Twice" 137 347
noncomputable abbrev UI:=FF "__init__" "NoLabel.__init__" 384 41 2 163 389
noncomputable abbrev VI:=iT "__init__" "NoLabel.__init__" 9 0 "framerooms.errors" 194 168
noncomputable abbrev UX:=vW P 379 39 169
noncomputable abbrev Uo:=uO "NoLabel" 156 372
noncomputable abbrev TN:=FF "__init__" "NoText.__init__" 434 51 2 201 439
noncomputable abbrev VP:=iT "__init__" "NoText.__init__" 11 0 "framerooms.errors" 194 206
noncomputable abbrev Sn:=vW P 429 49 207
noncomputable abbrev Vj:=uO "NoText" 194 422
noncomputable abbrev KH:=Vy ⟨WR 0 Hj⟩
noncomputable abbrev Tw:=fQ "is_number" 457 59 1 213 461
noncomputable abbrev T5:=dg "is_number" 17 "framerooms.words" 447 218
noncomputable abbrev Vk:=fQ "is_whole" 464 61 3 220 470
noncomputable abbrev Tv:=dg "is_whole" 18 "framerooms.words" 447 225
noncomputable abbrev Vv:=jL "is_name" 473 63 1 227
noncomputable abbrev U9:=dg "is_name" 19 "framerooms.words" 447 230
noncomputable abbrev VH:=fQ "is_whole_text" 479 67 1 232 483
noncomputable abbrev Se:=dg "is_whole_text" 20 "framerooms.words" 447 237
noncomputable abbrev Uh:=jL "is_count_text" 486 71 1 239
noncomputable abbrev Tr:=dg "is_count_text" 21 "framerooms.words" 447 242
noncomputable abbrev TV:=Ih [dh P "make" 496 245,dh P "put" 500 246,dh P "get" 504 247,dh P "set" 508 248,dh P "copy" 511 249,dh P "more" 514 250,dh P "tell" 518 251,dh P "same" 520 252,dh P "frame" 523 253,dh P "turns" 526 254,dh P "either" 531 255] 11
noncomputable abbrev Sk:=xj "name" 497 "size" "mark"
noncomputable abbrev Uz:=lJ #[bK "name" 501,bK "cell" 502,bK "name" 503]
noncomputable abbrev Sr:=lJ #[bK "name" 505,bK "name" 506,bK "cell" 507]
noncomputable abbrev UB:=n_ "name" 509 "value"
noncomputable abbrev Uc:=lJ #[bK "name" 512,bK "name" 513]
noncomputable abbrev Sf:=lJ #[bK "name" 515,bK "name" 516,bK "number" 517]
noncomputable abbrev Ti:=iO "name" 519
noncomputable abbrev Ub:=lJ #[bK "name" 521,bK "name" 522]
noncomputable abbrev Um:=n_ "label" 524 "body"
noncomputable abbrev Vf:=lJ #[bK "label" 527,bK "many" 528,bK "times" 529,bK "body" 530]
noncomputable abbrev UH:=lJ #[bK "body" 532,bK "body" 533]
noncomputable abbrev Ug:Obj:={cls:= .type "dict",data:=Data.dict #[j8 P "size" 546 (.ref 257),j8 P "cell" 549 (.ref 258),j8 P "many" 552 (.ref 259),j8 P "times" 555 (.ref 260)] 4}
noncomputable abbrev Vc:=lJ #[.int 1 547,.int 6 548]
noncomputable abbrev U6:=lJ #[.int 0 550,.int 5 551]
noncomputable abbrev Ul:=lJ #[.int 1 553,.int 3 554]
noncomputable abbrev SR:=lJ #[.int 0 556,.int 4 557]
noncomputable abbrev TR:=jL "is_deed" 563 81 1 261
noncomputable abbrev Ud:=dg "is_deed" 26 "framerooms.deeds" 492 264
noncomputable abbrev VG:=fQ "fits" 569 87 2 266 574
noncomputable abbrev SS:=dg "fits" 27 "framerooms.deeds" 492 271
noncomputable abbrev Sd:=fQ "parts_of" 577 101 1 273 581
noncomputable abbrev Si:=dg "parts_of" 28 "framerooms.deeds" 492 278
noncomputable abbrev UD:=jL "bodies_of" 584 103 1 280
noncomputable abbrev VU:=dg "bodies_of" 29 "framerooms.deeds" 492 283
noncomputable abbrev Sq:=fQ "is_block" 590 105 1 285 594
noncomputable abbrev Vl:=dg "is_block" 30 "framerooms.deeds" 492 290
noncomputable abbrev Th:=fQ "want_body" 597 107 1 292 603
noncomputable abbrev V9:=dg "want_body" 31 "framerooms.deeds" 492 297
noncomputable abbrev UQ:=fQ "many_in" 606 115 1 299 613
noncomputable abbrev Ta:=dg "many_in" 32 "framerooms.deeds" 492 304
noncomputable abbrev SV:=fQ "depth_of" 616 121 1 306 623
noncomputable abbrev Sv:=dg "depth_of" 33 "framerooms.deeds" 492 311
noncomputable abbrev Oy:=lJ #[.int 0 626]
noncomputable abbrev TJ:=fQ "rewritten" 627 127 3 314 636
noncomputable abbrev FH:Obj:={cls:= .type "function",data:=Data.func {name:=Str.ofString "rewritten",qualname:=Str.ofString "rewritten",params:=L2.gN (top 34),body:= .stmts (L2.dr (top 34)),scope:=L2.ao (top 34),globals:=3,closure:=[],defaults:= .ref 313,kwdefaults:= .none,pyModule:=bK "framerooms.deeds" 492,code:= .ref 319}}
noncomputable abbrev S_:=fQ "with_bodies" 639 134 3 321 649
noncomputable abbrev SN:=dg "with_bodies" 35 "framerooms.deeds" 492 326
noncomputable abbrev VE:=fQ "listing" 652 144 2 328 661
noncomputable abbrev T7:=dg "listing" 36 "framerooms.deeds" 492 333
noncomputable abbrev VF:=jL "widest_of" 664 152 1 335
noncomputable abbrev S9:=dg "widest_of" 37 "framerooms.deeds" 492 338
noncomputable abbrev Vs:=jL "choices_of" 670 154 1 340
noncomputable abbrev VJ:=dg "choices_of" 38 "framerooms.deeds" 492 343
noncomputable abbrev UZ:=jL "longest_of" 676 161 1 345
noncomputable abbrev Uj:=dg "longest_of" 39 "framerooms.deeds" 492 348
noncomputable abbrev To:=jL "length_of" 682 163 1 350
noncomputable abbrev SW:=dg "length_of" 40 "framerooms.deeds" 492 353
noncomputable abbrev FZ:=Ih (j8 P "__name__" 165 (bK "law_framerooms_k38_texts_both_ways" 891)::Ll P (FT P (KO P (dh P "FORMS" 545 244::dh P "BOUNDS" 562 256::S8 P (dh P "Program" 776 418::dh P "want_size" 785 429::dh P "want_labels" 794 436::dh P "want_runs" 803 443::dh P "show_program" 812 450::dh P "lines_of" 824 457::dh P "first_line" 834 464::dh P "words_of" 842 471::dh P "read_program" 849 478::dh P "read_lines" 862 485::dh P "lacks_body" 869 492::dh P "read_head" 875 497::dh P "texts_of" 882 504::dh P "read_part" 890 511::dh P "_law_cell" 900 518::dh P "_law_box" 907 525::dh P "_law_take" 917 532::dh P "_law_names" 923 537::dh P "_law_simple" 939 544::dh P "_law_body" 945 549::dh P "_law_deeds" 951 554::dh P "_law_bodies" 958 561::dh P "_law_plain" 964 566::dh P "_law_listed" 977 573::dh P "_law_cost" 983 578::dh P "_law_refusal" 997 585::dh P "_law_word" 1004 592::dh P "_law_lines" 1010 597::dh P "_law_made" 1019 604::dh P "_law_right" 1030 611::dh P "_law_great_right" 1036 616::dh P "law" 1045 623::[]))))) 83
noncomputable abbrev M4:=FF "__init__" "Program.__init__" 710 179 2 362 715
noncomputable abbrev Sj:=iT "__init__" "Program.__init__" 46 0 "framerooms.programs" 688 367
noncomputable abbrev Su:=FF "told" "Program.told" 718 187 1 369 722
noncomputable abbrev Ue:=iT "told" "Program.told" 46 1 "framerooms.programs" 688 374
noncomputable abbrev T1:=FF "deeds" "Program.deeds" 725 190 1 376 729
noncomputable abbrev Uw:=iT "deeds" "Program.deeds" 46 2 "framerooms.programs" 688 381
noncomputable abbrev SQ:=FF "widest" "Program.widest" 753 204 1 402 757
noncomputable abbrev Ua:=iT "widest" "Program.widest" 46 6 "framerooms.programs" 688 407
noncomputable abbrev Vt:=FF "longest" "Program.longest" 760 207 1 409 764
noncomputable abbrev UR:=iT "longest" "Program.longest" 46 7 "framerooms.programs" 688 414
noncomputable abbrev TC:=Ih [j8 P "__module__" 705 (bK "framerooms.programs" 688),j8 P "__firstlineno__" 709 (.int 177 708),dh P "__init__" 717 368,dh P "told" 724 375,dh P "deeds" 731 382,dh P "names" 738 389,dh P "makings" 744 394,dh P "around" 752 401,dh P "widest" 759 408,dh P "longest" 766 415,dh P "__static_attributes__" 769 416,dh P "__dict__" 771 419,dh P "__weakref__" 773 420,j8 P "__doc__" 774 (.none)] 4
noncomputable abbrev Ur:Obj:={cls:= .type "type",data:=Data.cls {name:=Str.ofString "Program",bases:=[.type "object"],mro:=[.ref 418,.type "object"],ns:=417,qualname:=Str.ofString "Program"},slots:= #[none,none,some (bK "Program" 698),some (bK "Program" 706),some (.builtin "object.__new__"),some (.bool true)]}
noncomputable abbrev Ui:=fQ "want_size" 777 209 1 423 783
noncomputable abbrev T8:=dg "want_size" 47 "framerooms.programs" 688 428
noncomputable abbrev So:=fQ "want_labels" 786 216 1 430 792
noncomputable abbrev UG:=dg "want_labels" 48 "framerooms.programs" 688 435
noncomputable abbrev TQ:=fQ "want_runs" 795 222 1 437 801
noncomputable abbrev UN:=dg "want_runs" 49 "framerooms.programs" 688 442
noncomputable abbrev SO:=fQ "show_program" 806 230 1 444 810
noncomputable abbrev T4:=dg "show_program" 51 "framerooms.progtext" 804 449
noncomputable abbrev Ts:=fQ "lines_of" 813 232 1 451 822
noncomputable abbrev Tb:=dg "lines_of" 52 "framerooms.progtext" 804 456
noncomputable abbrev Tn:=fQ "first_line" 825 244 1 458 832
noncomputable abbrev Vh:=dg "first_line" 53 "framerooms.progtext" 804 463
noncomputable abbrev US:=fQ "words_of" 835 249 2 465 840
noncomputable abbrev Va:=dg "words_of" 54 "framerooms.progtext" 804 470
noncomputable abbrev Sm:=fQ "read_program" 843 257 1 472 847
noncomputable abbrev Te:=dg "read_program" 55 "framerooms.progtext" 804 477
noncomputable abbrev SK:=fQ "read_lines" 850 261 1 479 860
noncomputable abbrev VQ:=dg "read_lines" 56 "framerooms.progtext" 804 484
noncomputable abbrev Sl:=fQ "lacks_body" 863 280 1 486 867
noncomputable abbrev UK:=dg "lacks_body" 57 "framerooms.progtext" 804 491
noncomputable abbrev VN:=jL "read_head" 870 282 1 493
noncomputable abbrev UW:=dg "read_head" 58 "framerooms.progtext" 804 496
noncomputable abbrev VX:=fQ "texts_of" 876 292 1 498 880
noncomputable abbrev TB:=dg "texts_of" 59 "framerooms.progtext" 804 503
noncomputable abbrev Sx:=fQ "read_part" 883 300 2 505 888
noncomputable abbrev VS:=dg "read_part" 60 "framerooms.progtext" 804 510
noncomputable abbrev UU:=fQ "_law_cell" 893 307 2 512 898
noncomputable abbrev TF:=dg "_law_cell" 62 "law_framerooms_k38_texts_both_ways" 891 517
noncomputable abbrev TH:=fQ "_law_box" 901 311 1 519 905
noncomputable abbrev T6:=dg "_law_box" 63 "law_framerooms_k38_texts_both_ways" 891 524
noncomputable abbrev Vp:=fQ "_law_take" 908 313 2 526 915
noncomputable abbrev UM:=dg "_law_take" 64 "law_framerooms_k38_texts_both_ways" 891 531
noncomputable abbrev UC:=jL "_law_names" 918 322 2 533
noncomputable abbrev SX:=dg "_law_names" 65 "law_framerooms_k38_texts_both_ways" 891 536
noncomputable abbrev Wc:=fQ "_law_simple" 924 336 3 538 937
noncomputable abbrev Vz:=dg "_law_simple" 66 "law_framerooms_k38_texts_both_ways" 891 543
noncomputable abbrev U1:=jL "_law_body" 940 347 6 545
noncomputable abbrev TL:=dg "_law_body" 67 "law_framerooms_k38_texts_both_ways" 891 548
noncomputable abbrev We:=jL "_law_deeds" 946 366 1 550
noncomputable abbrev VY:=dg "_law_deeds" 68 "law_framerooms_k38_texts_both_ways" 891 553
noncomputable abbrev UJ:=fQ "_law_bodies" 952 373 1 555 956
noncomputable abbrev V_:=dg "_law_bodies" 69 "law_framerooms_k38_texts_both_ways" 891 560
noncomputable abbrev Ux:=jL "_law_plain" 959 375 1 562
noncomputable abbrev TU:=dg "_law_plain" 70 "law_framerooms_k38_texts_both_ways" 891 565
noncomputable abbrev Us:=fQ "_law_listed" 965 381 3 567 975
noncomputable abbrev TZ:=dg "_law_listed" 71 "law_framerooms_k38_texts_both_ways" 891 572
noncomputable abbrev Uu:=jL "_law_cost" 978 389 1 574
noncomputable abbrev Tc:=dg "_law_cost" 72 "law_framerooms_k38_texts_both_ways" 891 577
noncomputable abbrev U_:=fQ "_law_refusal" 984 405 1 579 995
noncomputable abbrev Tg:=dg "_law_refusal" 73 "law_framerooms_k38_texts_both_ways" 891 584
noncomputable abbrev Wa:=fQ "_law_word" 998 424 1 586 1002
noncomputable abbrev SE:=dg "_law_word" 74 "law_framerooms_k38_texts_both_ways" 891 591
noncomputable abbrev VT:=jL "_law_lines" 1005 426 1 593
noncomputable abbrev VB:=dg "_law_lines" 75 "law_framerooms_k38_texts_both_ways" 891 596
noncomputable abbrev Tz:=fQ "_law_made" 1011 439 1 598 1017
noncomputable abbrev Tu:=dg "_law_made" 76 "law_framerooms_k38_texts_both_ways" 891 603
noncomputable abbrev Pd:=fQ "_law_right" 1020 462 1 605 1028
noncomputable abbrev UY:=dg "_law_right" 77 "law_framerooms_k38_texts_both_ways" 891 610
noncomputable abbrev Sz:=jL "_law_great_right" 1031 478 1 612
noncomputable abbrev Wf:=dg "_law_great_right" 78 "law_framerooms_k38_texts_both_ways" 891 615
noncomputable abbrev Sg:=fQ "law" 1037 488 1 617 1043
noncomputable abbrev Wd:=dg "law" 79 "law_framerooms_k38_texts_both_ways" 891 622
noncomputable def Iy(t:List Obj):List Obj:=boot_o_4 P::boot_o_5 P::boot_o_6 P::boot_o_7 P::boot_o_8 P::boot_o_9 P::boot_o_10 P::aS::t
noncomputable def C_(t:List Obj):List Obj:=aS::bN::(iO "k" 190)::aS::(cZ "_wall" 0)::(fQ "_wall" 187 1 1 15 191)::(dg "_wall" 0 "__main__" 164 20)::(lJ #[.type "ValueError"])::Am::(CI P 203 "RoomError" 5 35 216)::aS::(Cn 7 34)::(yD "RoomError" 198 5 25)::(yB 27 24 "framerooms.errors" 194)::aS::bN::(n_ "self" 211 "text")::aS::(oZ "__init__" "RoomError.__init__" 2 0)::acD::aaR::aS::abc P::t
noncomputable def CZ(t:List Obj):List Obj:={cls:= .type "getset_descriptor",data:=Data.fields #[bK "__weakref__" 217,.ref 38,.builtin "ExceptionGroup.__weakref__",.none]}::(pB 38)::(qj 38)::EC::Am::(CI P 229 "TooMany" 9 55 243)::aS::(Cn 11 54)::(yD "TooMany" 224 9 45)::(yB 47 44 "framerooms.errors" 194)::aS::bN::(n_ "self" 237 "many")::aS::(oZ "__init__" "TooMany.__init__" 3 0)::acq::aaQ::(iO "many" 242)::abM P::aaY::(pB 58)::(qj 58)::EC::Am::(CI P 254 "NoDeed" 14 74 268)::aS::(Cn 16 73)::(yD "NoDeed" 249 14 64)::(yB 66 63 "framerooms.errors" 194)::aS::bN::(n_ "self" 262 "found")::aS::(oZ "__init__" "NoDeed.__init__" 4 0)::abO::abf::(iO "found" 267)::ZJ P::abN::(pB 77)::(qj 77)::EC::Am::(CI P 279 "TooDeep" 19 93 293)::aS::(Cn 21 92)::(yD "TooDeep" 274 19 83)::(yB 85 82 "framerooms.errors" 194)::aS::bN::(n_ "self" 287 "depth")::aS::(oZ "__init__" "TooDeep.__init__" 5 0)::ZP::aaS::(iO "depth" 292)::ach P::abl::(pB 96)::(qj 96)::EC::Am::(CI P 304 "TooWide" 24 112 318)::aS::(Cn 26 111)::(yD "TooWide" 299 24 102)::(yB 104 101 "framerooms.errors" 194)::aS::bN::(n_ "self" 312 "many")::aS::(oZ "__init__" "TooWide.__init__" 6 0)::VD::T3::(iO "many" 317)::Vg P::Ut::(pB 115)::(qj 115)::t
noncomputable def Ay(t:List Obj):List Obj:=EC::Am::(CI P 329 "TooLong" 29 131 343)::aS::(Cn 31 130)::(yD "TooLong" 324 29 121)::(yB 123 120 "framerooms.errors" 194)::aS::bN::(n_ "self" 337 "many")::aS::(oZ "__init__" "TooLong.__init__" 7 0)::Tj::Vr::(iO "many" 342)::Sh P::U3::(pB 134)::(qj 134)::EC::Am::(CI P 354 "Twice" 34 150 368)::aS::(Cn 36 149)::(yD "Twice" 349 34 140)::(yB 142 139 "framerooms.errors" 194)::aS::bN::(n_ "self" 362 "label")::aS::(oZ "__init__" "Twice.__init__" 8 0)::T9::Ss::(iO "label" 367)::VR P::VZ::(pB 153)::(qj 153)::EC::Am::(CI P 379 "NoLabel" 39 169 393)::aS::(Cn 41 168)::(yD "NoLabel" 374 39 159)::(yB 161 158 "framerooms.errors" 194)::aS::bN::(n_ "self" 387 "label")::aS::(oZ "__init__" "NoLabel.__init__" 9 0)::UI::VI::(iO "label" 392)::UX P::Uo::(pB 172)::(qj 172)::EC::Am::(CI P 404 "NoMaking" 44 188 418)::aS::(Cn 46 187)::(yD "NoMaking" 399 44 178)::(yB 180 177 "framerooms.errors" 194)::aS::bN::(n_ "self" 412 "found")::aS::(oZ "__init__" "NoMaking.__init__" 10 0)::(FF "__init__" "NoMaking.__init__" 409 46 2 182 414)::(iT "__init__" "NoMaking.__init__" 10 0 "framerooms.errors" 194 187)::(iO "found" 417)::(vW P 404 44 188)::(uO "NoMaking" 175 397)::(pB 191)::(qj 191)::EC::Am::(CI P 429 "NoText" 49 207 443)::aS::(Cn 51 206)::(yD "NoText" 424 49 197)::(yB 199 196 "framerooms.errors" 194)::aS::bN::(n_ "self" 437 "line")::aS::(oZ "__init__" "NoText.__init__" 11 0)::TN::VP::(iO "line" 442)::Sn P::Vj::(pB 210)::(qj 210)::t
noncomputable def Fo(t:List Obj):List Obj:=aS::bN::(iO "thing" 460)::aS::(cZ "is_number" 17)::Tw::T5::aS::bN::(xj "thing" 467 "low" "high")::aS::(cZ "is_whole" 18)::Vk::Tv::aS::bN::(cZ "is_name" 19)::Vv::U9::aS::bN::(iO "text" 482)::aS::(cZ "is_whole_text" 20)::VH::Se::aS::bN::(cZ "is_count_text" 21)::Uh::Tr::t
noncomputable def Ie(t:List Obj):List Obj:=TV P::Sk::Uz::Sr::UB::Uc::Sf::Ti::Ub::Um::Vf::UH::Ug P::Vc::U6::Ul::SR::t
noncomputable def MZ(t:List Obj):List Obj:=aS::bN::(cZ "is_deed" 26)::TR::Ud::aS::bN::(n_ "kind" 572 "thing")::aS::(cZ "fits" 27)::VG::SS::aS::bN::(iO "deed" 580)::aS::(cZ "parts_of" 28)::Sd::Si::aS::bN::(cZ "bodies_of" 29)::UD::VU::aS::bN::(iO "deed" 593)::aS::(cZ "is_block" 30)::Sq::Vl::aS::bN::(xj "thing" 600 "deed" "body")::aS::(cZ "want_body" 31)::Th::V9::aS::bN::(lJ #[bK "body" 609,bK "many" 610,bK "deed" 611,bK "inner" 612])::aS::(cZ "many_in" 32)::UQ::Ta::aS::bN::(lJ #[bK "body" 619,bK "depth" 620,bK "deed" 621,bK "inner" 622])::aS::(cZ "depth_of" 33)::SV::Sv::Oy::aS::bN::(lJ #[bK "body" 630,bK "change" 631,bK "first" 632,bK "told" 633,bK "number" 634,bK "deed" 635])::aS::(cZ "rewritten" 34)::TJ::FH::aS::bN::(lJ #[bK "deed" 642,bK "change" 643,bK "first" 644,bK "parts" 645,bK "number" 646,bK "kind" 647,bK "part" 648])::aS::(cZ "with_bodies" 35)::S_::SN::aS::bN::(lJ #[bK "body" 655,bK "around" 656,bK "listed" 657,bK "deed" 658,bK "inner" 659,bK "within" 660])::aS::(cZ "listing" 36)::VE::T7::aS::bN::(cZ "widest_of" 37)::VF::S9::aS::bN::(cZ "choices_of" 38)::Vs::VJ::aS::bN::(cZ "longest_of" 39)::UZ::Uj::aS::bN::(cZ "length_of" 40)::To::SW::t
noncomputable def rn:aam:=⟨⟨boot_o_0 P::boot_o_1 P::boot_o_2 P::boot_o_3 P::Iy P (bN::Jg::Ju::[])⟩,{}⟩
noncomputable def AY:aam:=⟨⟨boot_o_0 P::boot_o_1 P::boot_o_2 P::(Ih (j8 P "__name__" 165 (bK "framerooms.errors" 194)::Ll P ([])) 15)::Iy P ((Vy ⟨WR 0 NO⟩)::Jg::Ju::C_ P ({cls:= .type "type",data:=Data.cls {name:=Str.ofString "RoomError",bases:=[.type "ValueError"],mro:=[.ref 38,.type "ValueError",.type "Exception",.type "BaseException",.type "object"],ns:=37,qualname:=Str.ofString "RoomError",subclasses:=[.ref 58,.ref 77,.ref 96,.ref 115]},slots:= #[some (.ref 22),none,some (bK "RoomError" 196),some (bK "RoomError" 204),some (.builtin "ValueError.__new__"),some (.bool true)]}::CZ P ([])))⟩,{}⟩
noncomputable def wD:aam:=⟨⟨boot_o_0 P::boot_o_1 P::boot_o_2 P::(Ih (j8 P "__name__" 165 (bK "framerooms.errors" 194)::Ll P (FT P ([]))) 20)::Iy P ((Vy ⟨WR 0 Kd⟩)::Jg::Ju::C_ P (C6::CZ P (Ay P ([]))))⟩,{}⟩
noncomputable def rq:aam:=⟨⟨boot_o_0 P::boot_o_1 P::boot_o_2 P::(Ih (j8 P "__name__" 165 (bK "framerooms.deeds" 492)::Ll P (FT P (KO P ([])))) 30)::Iy P (KH::Jg::Ju::C_ P (C6::CZ P (Ay P (Fo ([])))))⟩,{}⟩
noncomputable def qR:aam:=⟨⟨boot_o_0 P::boot_o_1 P::boot_o_2 P::(Ih (j8 P "__name__" 165 (bK "framerooms.deeds" 492)::Ll P (FT P (KO P (dh P "FORMS" 545 244::dh P "BOUNDS" 562 256::[])))) 32)::Iy P (KH::Jg::Ju::C_ P (C6::CZ P (Ay P (Fo (Ie P ([]))))))⟩,{}⟩
noncomputable def wJ:aam:=⟨⟨boot_o_0 P::boot_o_1 P::boot_o_2 P::(Ih (j8 P "__name__" 165 (bK "framerooms.programs" 688)::Ll P (FT P (KO P (dh P "FORMS" 545 244::dh P "BOUNDS" 562 256::S8 P ([]))))) 51)::Iy P ((Vy ⟨WR 0 DI⟩)::Jg::Ju::C_ P (C6::CZ P (Ay P (Fo (Ie P (MZ ([])))))))⟩,{}⟩
noncomputable def cB:aam:=⟨⟨boot_o_0 P::boot_o_1 P::boot_o_2 P::FZ P::Iy P ((Vy ⟨WR 0 Jo⟩)::Jg::Ju::C_ P (C6::CZ P (Ay P (Fo (Ie P (MZ (aS::Am::(Ih [j8 P "__module__" 705 (bK "framerooms.programs" 688),j8 P "__qualname__" 707 (bK "Program" 706),j8 P "__firstlineno__" 709 (.int 177 708),dh P "__init__" 717 368,dh P "told" 724 375,dh P "deeds" 731 382,dh P "names" 738 389,dh P "makings" 744 394,dh P "around" 752 401,dh P "widest" 759 408,dh P "longest" 766 415,dh P "__static_attributes__" 769 416] 12)::aS::(Vy ⟨WR 4 [(179,367),(187,374),(190,381),(193,388),(196,393),(199,400),(204,407),(207,414)]⟩)::(yD "Program" 700 177 358)::(yB 360 357 "framerooms.programs" 688)::aS::bN::(n_ "self" 713 "deeds")::aS::(oZ "__init__" "Program.__init__" 46 0)::M4::Sj::aS::bN::(iO "self" 721)::aS::(oZ "told" "Program.told" 46 1)::Su::Ue::aS::bN::(iO "self" 728)::aS::(oZ "deeds" "Program.deeds" 46 2)::T1::Uw::aS::bN::(iO "self" 735)::aS::(oZ "names" "Program.names" 46 3)::(FF "names" "Program.names" 732 193 1 383 736)::(iT "names" "Program.names" 46 3 "framerooms.programs" 688 388)::aS::bN::(oZ "makings" "Program.makings" 46 4)::(hdO #[bK "makings" 739,bK "Program.makings" 740,bK "/claim/cut.py" 741,.int 196 0,.int 1 0,.int 0 0,.int 0 0,.int 3 0,.ref 390,.bool true,.int 181 0,.ref 391,.none,.none,.none,.ref 392,.int 742 0,.int 196 0,bK "/claim/cut.py" 743])::(iT "makings" "Program.makings" 46 4 "framerooms.programs" 688 393)::aS::bN::(n_ "self" 748 "number")::aS::(oZ "around" "Program.around" 46 5)::(FF "around" "Program.around" 745 199 2 395 750)::(iT "around" "Program.around" 46 5 "framerooms.programs" 688 400)::aS::bN::(iO "self" 756)::aS::(oZ "widest" "Program.widest" 46 6)::SQ::Ua::aS::bN::(iO "self" 763)::aS::(oZ "longest" "Program.longest" 46 7)::Vt::UR::(n_ "body" 767 "listed")::TC P::Ur::{cls:= .type "getset_descriptor",data:=Data.fields #[bK "__dict__" 770,.ref 418,.builtin "function.__dict__",.builtin "function.__dict__#set"]}::{cls:= .type "getset_descriptor",data:=Data.fields #[bK "__weakref__" 772,.ref 418,.builtin "ExceptionGroup.__weakref__",.none]}::(pB 418)::(qj 418)::aS::bN::(xj "body" 780 "many" "depth")::aS::(cZ "want_size" 47)::Ui::T8::aS::bN::(xj "listed" 789 "deed" "around")::aS::(cZ "want_labels" 48)::So::UG::aS::bN::(xj "body" 798 "many" "steps")::aS::(cZ "want_runs" 49)::TQ::UN::aS::bN::(iO "program" 809)::aS::(cZ "show_program" 51)::SO::T4::aS::bN::(lJ #[bK "body" 816,bK "lines" 817,bK "deed" 818,bK "bodies" 819,bK "turn" 820,bK "inner" 821])::aS::(cZ "lines_of" 52)::Ts::Tb::aS::bN::(lJ #[bK "deed" 828,bK "words" 829,bK "kind" 830,bK "part" 831])::aS::(cZ "first_line" 53)::Tn::Vh::aS::bN::(n_ "kind" 838 "part")::aS::(cZ "words_of" 54)::US::Va::aS::bN::(iO "text" 846)::aS::(cZ "read_program" 55)::Sm::Te::aS::bN::(lJ #[bK "lines" 853,bK "levels" 854,bK "number" 855,bK "line" 856,bK "bodies" 857,bK "head" 858,bK "done" 859])::aS::(cZ "read_lines" 56)::SK::VQ::aS::bN::(iO "level" 866)::aS::(cZ "lacks_body" 57)::Sl::UK::aS::bN::(cZ "read_head" 58)::VN::UW::aS::bN::(iO "words" 879)::aS::(cZ "texts_of" 59)::VX::TB::aS::bN::(n_ "kind" 886 "text")::aS::(cZ "read_part" 60)::Sx::VS::aS::bN::(n_ "_law_script" 896 "_law_k")::aS::(cZ "_law_cell" 62)::UU::TF::aS::bN::(iO "_law_cell_here" 904)::aS::(cZ "_law_box" 63)::TH::T6::aS::bN::(lJ #[bK "_law_box_here" 911,bK "_law_many" 912,bK "_law_digit" 913,bK "_law_number" 914])::aS::(cZ "_law_take" 64)::Vp::UM::aS::bN::(cZ "_law_names" 65)::UC::SX::aS::bN::(lJ #[bK "_law_box_here" 927,bK "_law_names_here" 928,bK "_law_around" 929,bK "_law_kind" 930,bK "_law_x" 931,bK "_law_y" 932,bK "_law_k" 933,bK "_law_labels" 934,bK "_law_number" 935,bK "_law_some" 936])::aS::(cZ "_law_simple" 66)::Wc::Vz::aS::bN::(cZ "_law_body" 67)::U1::TL::aS::bN::(cZ "_law_deeds" 68)::We::VY::aS::bN::(iO "_law_deed" 955)::aS::(cZ "_law_bodies" 69)::UJ::V_::aS::bN::(cZ "_law_plain" 70)::Ux::TU::aS::bN::(lJ #[bK "_law_body_here" 968,bK "_law_around" 969,bK "_law_down" 970,bK "_law_found" 971,bK "_law_deed" 972,bK "_law_inside" 973,bK "_law_one" 974])::aS::(cZ "_law_listed" 71)::Us::TZ::aS::bN::(cZ "_law_cost" 72)::Uu::Tc::aS::bN::(lJ #[bK "_law_body_here" 987,bK "_law_rows" 988,bK "_law_down" 989,bK "_law_deed" 990,bK "_law_around" 991,bK "_law_one" 992,bK "_law_asked" 993,bK "_law_done" 994])::aS::(cZ "_law_refusal" 73)::U_::Tg::aS::bN::(iO "_law_part" 1001)::aS::(cZ "_law_word" 74)::Wa::SE::aS::bN::(cZ "_law_lines" 75)::VT::VB::aS::bN::(xj "_law_call" 1014 "_law_told" "e")::aS::(cZ "_law_made" 76)::Tz::Tu::aS::bN::(lJ #[bK "_law_body_here" 1023,bK "_law_due" 1024,bK "_law_turn" 1025,bK "_law_found" 1026])::(iO "_law_text" 1027)::(cZ "_law_right" 77)::Pd::UY::aS::bN::(cZ "_law_great_right" 78)::Sz::Wf::aS::bN::(xj "_law_script" 1040 "_law_k" "_law_box_here")::aS::(cZ "law" 79)::Sg::Wd::[])))))))⟩,{}⟩
end
noncomputable abbrev jn:aan:=PySem.Challenge.rw_framerooms_k38_texts_both_ways.row.prog
noncomputable def jM:Env:={scope:=jn.main.scope,locals:=mainNs,globals:=mainNs,cells:=[],code:=Value.ref 13,frame:=some 14}
noncomputable def nM:List Stmt:=behindTheImports jn
noncomputable def wa:Code:=Code.body nM jM
noncomputable def h8:aM:=some (Value.ref 6)
noncomputable abbrev FG:Pos:={line:=0,col:=0,endLine:=0,endCol:=0}
theorem Oe(w:aai)(os:OsState):topGo treeTable jn w 11 h8 12 ⟨boot_heap w.params,⟨[]⟩,boot_drawn,boot_toks,os⟩ (topStub jn)=some (⟨rn w.params,⟨[]⟩,{},187,os⟩,⟨denote treeTable wa,wa,{line:=0,col:=0,endLine:=0,endCol:=0},[topFrame FG]⟩):=by kernel_rfl
theorem ID(w:aai)(os:OsState):segRun treeTable jn w 11 h8 1 1 ⟨rn w.params,⟨[]⟩,{},187,os⟩ (blockOf nM jM wa {line:=0,col:=0,endLine:=0,endCol:=0} [topFrame FG])=some (.next,⟨rn w.params,⟨[]⟩,{},187,os⟩,wa,{line:=0,col:=0,endLine:=0,endCol:=0}):=by kernel_rfl
theorem Xi(w:aai)(os:OsState):segRun treeTable jn w 11 h8 1 1236 ⟨rn w.params,⟨[]⟩,{},187,os⟩ (piecesOf ((nM.drop 0).take 7) jM wa {line:=0,col:=0,endLine:=0,endCol:=0} [topFrame FG])=some (.next,⟨AY w.params,⟨[]⟩,{},322,os⟩,wa,{line:=24,col:=0,endLine:=28,endCol:=24}):=by kernel_rfl
theorem Rn(w:aai)(os:OsState):segRun treeTable jn w 11 h8 1 1226 ⟨AY w.params,⟨[]⟩,{},322,os⟩ (piecesOf ((nM.drop 7).take 5) jM wa {line:=24,col:=0,endLine:=28,endCol:=24} [topFrame FG])=some (.next,⟨wD w.params,⟨[]⟩,{},447,os⟩,wa,{line:=49,col:=0,endLine:=53,endCol:=24}):=by kernel_rfl
theorem QF(w:aai)(os:OsState):segRun treeTable jn w 11 h8 1 205 ⟨wD w.params,⟨[]⟩,{},447,os⟩ (piecesOf ((nM.drop 12).take 12) jM wa {line:=49,col:=0,endLine:=53,endCol:=24} [topFrame FG])=some (.next,⟨rq w.params,⟨[]⟩,{},496,os⟩,wa,{line:=78,col:=0,endLine:=78,endCol:=9}):=by kernel_rfl
def Bf(os:OsState)(w:aai):Prop:=segRun treeTable jn w 11 h8 1 296 ⟨rq w.params,⟨[]⟩,{},496,os⟩ (piecesOf ((nM.drop 24).take 2) jM wa {line:=78,col:=0,endLine:=78,endCol:=9} [topFrame FG])=some (.next,⟨qR w.params,⟨[]⟩,{},563,os⟩,wa,{line:=80,col:=0,endLine:=80,endCol:=6})
theorem Rb(w:aai)(os:OsState):segRun treeTable jn w 11 h8 1 296 ⟨rq w.params,⟨[]⟩,{},496,os⟩ (piecesOf ((nM.drop 24).take 2) jM wa {line:=78,col:=0,endLine:=78,endCol:=9} [topFrame FG])=some (.next,⟨qR w.params,⟨[]⟩,{},563,os⟩,wa,{line:=80,col:=0,endLine:=80,endCol:=6}):=by have h:Bf os (w.withFollow "special-get-raises" (w.params.followText "special-get-raises")):=(λ(b:Bool) (w:aai)=>show Bf os (w.withFollow "special-get-raises" b) by cases b<;>(unfold Bf;kernel_rfl)) _ w;rw[World.withFollow_self] at h;exact h
theorem RY(w:aai)(os:OsState):segRun treeTable jn w 11 h8 1 490 ⟨qR w.params,⟨[]⟩,{},563,os⟩ (piecesOf ((nM.drop 26).take 20) jM wa {line:=80,col:=0,endLine:=80,endCol:=6} [topFrame FG])=some (.next,⟨wJ w.params,⟨[]⟩,{},698,os⟩,wa,{line:=176,col:=0,endLine:=176,endCol:=10}):=by kernel_rfl
theorem Qx(w:aai)(os:OsState):segRun treeTable jn w 11 h8 1 1388 ⟨wJ w.params,⟨[]⟩,{},698,os⟩ (piecesOf ((nM.drop 46).take 34) jM wa {line:=176,col:=0,endLine:=176,endCol:=10} [topFrame FG])=some (.next,⟨cB w.params,⟨[]⟩,{},1046,os⟩,wa,{line:=488,col:=0,endLine:=493,endCol:=110}):=by kernel_rfl
theorem OY(w:aai)(os:OsState):topRun treeTable jn w 11 h8 2 ⟨cB w.params,⟨[]⟩,{},1046,os⟩ ⟨doneF .next,wa,{line:=488,col:=0,endLine:=493,endCol:=110},[topFrame FG]⟩=some ⟨cB w.params,⟨[]⟩,{},1046,os⟩:=by kernel_rfl
theorem aay(w:aai)(os:OsState):topRun treeTable jn w 11 h8 2 ⟨cB w.params,⟨[]⟩,{},1046,os⟩ (restOf [] jM wa {line:=488,col:=0,endLine:=493,endCol:=110} [topFrame FG])=some ⟨cB w.params,⟨[]⟩,{},1046,os⟩:=piece_nil (OY w os)
theorem acV:nM.drop 80=[]:=by kernel_rfl
theorem Lk:((nM.drop 46).take 34)++([])=nM.drop 46:=by rw[<-acV];have:=qD 34 (nM.drop 46);rwa[rC] at this
theorem Nk(w:aai)(os:OsState):topRun treeTable jn w 11 h8 (1388+2) ⟨wJ w.params,⟨[]⟩,{},698,os⟩ (restOf (nM.drop 46) jM wa {line:=176,col:=0,endLine:=176,endCol:=10} [topFrame FG])=some ⟨cB w.params,⟨[]⟩,{},1046,os⟩:=by rw[<-Lk];exact rG (Qx w os) (aay w os)
theorem LJ:((nM.drop 26).take 20)++(nM.drop 46)=nM.drop 26:=by have:=qD 20 (nM.drop 26);rwa[rC] at this
theorem Pg(w:aai)(os:OsState):topRun treeTable jn w 11 h8 (490+(1388+2)) ⟨qR w.params,⟨[]⟩,{},563,os⟩ (restOf (nM.drop 26) jM wa {line:=80,col:=0,endLine:=80,endCol:=6} [topFrame FG])=some ⟨cB w.params,⟨[]⟩,{},1046,os⟩:=by rw[<-LJ];exact rG (RY w os) (Nk w os)
theorem K0:((nM.drop 24).take 2)++(nM.drop 26)=nM.drop 24:=by have:=qD 2 (nM.drop 24);rwa[rC] at this
theorem Oa(w:aai)(os:OsState):topRun treeTable jn w 11 h8 (296+(490+(1388+2))) ⟨rq w.params,⟨[]⟩,{},496,os⟩ (restOf (nM.drop 24) jM wa {line:=78,col:=0,endLine:=78,endCol:=9} [topFrame FG])=some ⟨cB w.params,⟨[]⟩,{},1046,os⟩:=by rw[<-K0];exact rG (Rb w os) (Pg w os)
theorem K_:((nM.drop 12).take 12)++(nM.drop 24)=nM.drop 12:=by have:=qD 12 (nM.drop 12);rwa[rC] at this
theorem OO(w:aai)(os:OsState):topRun treeTable jn w 11 h8 (205+(296+(490+(1388+2)))) ⟨wD w.params,⟨[]⟩,{},447,os⟩ (restOf (nM.drop 12) jM wa {line:=49,col:=0,endLine:=53,endCol:=24} [topFrame FG])=some ⟨cB w.params,⟨[]⟩,{},1046,os⟩:=by rw[<-K_];exact rG (QF w os) (Oa w os)
theorem Mj:((nM.drop 7).take 5)++(nM.drop 12)=nM.drop 7:=by have:=qD 5 (nM.drop 7);rwa[rC] at this
theorem OJ(w:aai)(os:OsState):topRun treeTable jn w 11 h8 (1226+(205+(296+(490+(1388+2))))) ⟨AY w.params,⟨[]⟩,{},322,os⟩ (restOf (nM.drop 7) jM wa {line:=24,col:=0,endLine:=28,endCol:=24} [topFrame FG])=some ⟨cB w.params,⟨[]⟩,{},1046,os⟩:=by rw[<-Mj];exact rG (Rn w os) (OO w os)
theorem M_:((nM.drop 0).take 7)++(nM.drop 7)=nM.drop 0:=by have:=qD 7 (nM.drop 0);rwa[rC] at this
theorem Q3(w:aai)(os:OsState):topRun treeTable jn w 11 h8 (1236+(1226+(205+(296+(490+(1388+2)))))) ⟨rn w.params,⟨[]⟩,{},187,os⟩ (restOf (nM.drop 0) jM wa {line:=0,col:=0,endLine:=0,endCol:=0} [topFrame FG])=some ⟨cB w.params,⟨[]⟩,{},1046,os⟩:=by rw[<-M_];exact rG (Xi w os) (OJ w os)
theorem Yw(w:aai)(os:OsState):topRun treeTable jn w 11 h8 (1+(1236+(1226+(205+(296+(490+(1388+2))))))) ⟨rn w.params,⟨[]⟩,{},187,os⟩ ⟨denote treeTable wa,wa,{line:=0,col:=0,endLine:=0,endCol:=0},[topFrame FG]⟩=some ⟨cB w.params,⟨[]⟩,{},1046,os⟩:=piece_block (ID w os) (Q3 w os)
theorem ab0(w:aai)(os:OsState):topRun treeTable jn w 11 h8 (12+(1+(1236+(1226+(205+(296+(490+(1388+2)))))))) ⟨boot_heap w.params,⟨[]⟩,boot_drawn,boot_toks,os⟩ (topStub jn)=some ⟨cB w.params,⟨[]⟩,{},1046,os⟩:=go_top (Oe w os) (Yw w os)
theorem WW:PySem.Challenge.rw_framerooms_k38_texts_both_ways.wellSaid=true:=by decide+kernel
end hd
noncomputable def tI:PySem.Params->Frag:=λP=>(nat_lit 1,PySem.W.boot_o_1 P)::(nat_lit 2,PySem.W.boot_o_2 P)::(nat_lit 3,FZ P)::(nat_lit 4,PySem.W.boot_o_4 P)::(nat_lit 34,acD)::(nat_lit 35,aaR)::(nat_lit 37,abc P)::(nat_lit 38,C6)::(nat_lit 54,acq)::(nat_lit 55,aaQ)::(nat_lit 57,abM P)::(nat_lit 58,aaY)::(nat_lit 73,abO)::(nat_lit 74,abf)::(nat_lit 76,ZJ P)::(nat_lit 77,abN)::(nat_lit 92,ZP)::(nat_lit 93,aaS)::(nat_lit 95,ach P)::(nat_lit 96,abl)::(nat_lit 111,VD)::(nat_lit 112,T3)::(nat_lit 114,Vg P)::(nat_lit 115,Ut)::(nat_lit 130,Tj)::(nat_lit 131,Vr)::(nat_lit 133,Sh P)::(nat_lit 134,U3)::(nat_lit 149,T9)::(nat_lit 150,Ss)::(nat_lit 152,VR P)::(nat_lit 153,VZ)::(nat_lit 168,UI)::(nat_lit 169,VI)::(nat_lit 171,UX P)::(nat_lit 172,Uo)::(nat_lit 206,TN)::(nat_lit 207,VP)::(nat_lit 209,Sn P)::(nat_lit 210,Vj)::(nat_lit 218,Tw)::(nat_lit 219,T5)::(nat_lit 225,Vk)::(nat_lit 226,Tv)::(nat_lit 230,Vv)::(nat_lit 231,U9)::(nat_lit 237,VH)::(nat_lit 238,Se)::(nat_lit 242,Uh)::(nat_lit 243,Tr)::(nat_lit 244,TV P)::(nat_lit 245,Sk)::(nat_lit 246,Uz)::(nat_lit 247,Sr)::(nat_lit 248,UB)::(nat_lit 249,Uc)::(nat_lit 250,Sf)::(nat_lit 251,Ti)::(nat_lit 252,Ub)::(nat_lit 253,Um)::(nat_lit 254,Vf)::(nat_lit 255,UH)::(nat_lit 256,Ug P)::(nat_lit 257,Vc)::(nat_lit 258,U6)::(nat_lit 259,Ul)::(nat_lit 260,SR)::(nat_lit 264,TR)::(nat_lit 265,Ud)::(nat_lit 271,VG)::(nat_lit 272,SS)::(nat_lit 278,Sd)::(nat_lit 279,Si)::(nat_lit 283,UD)::(nat_lit 284,VU)::(nat_lit 290,Sq)::(nat_lit 291,Vl)::(nat_lit 297,Th)::(nat_lit 298,V9)::(nat_lit 304,UQ)::(nat_lit 305,Ta)::(nat_lit 311,SV)::(nat_lit 312,Sv)::(nat_lit 313,Oy)::(nat_lit 319,TJ)::(nat_lit 320,FH)::(nat_lit 326,S_)::(nat_lit 327,SN)::(nat_lit 333,VE)::(nat_lit 334,T7)::(nat_lit 338,VF)::(nat_lit 339,S9)::(nat_lit 343,Vs)::(nat_lit 344,VJ)::(nat_lit 348,UZ)::(nat_lit 349,Uj)::(nat_lit 353,To)::(nat_lit 354,SW)::(nat_lit 367,M4)::(nat_lit 368,Sj)::(nat_lit 374,Su)::(nat_lit 375,Ue)::(nat_lit 381,T1)::(nat_lit 382,Uw)::(nat_lit 407,SQ)::(nat_lit 408,Ua)::(nat_lit 414,Vt)::(nat_lit 415,UR)::(nat_lit 417,TC P)::(nat_lit 418,Ur)::(nat_lit 428,Ui)::(nat_lit 429,T8)::(nat_lit 435,So)::(nat_lit 436,UG)::(nat_lit 442,TQ)::(nat_lit 443,UN)::(nat_lit 449,SO)::(nat_lit 450,T4)::(nat_lit 456,Ts)::(nat_lit 457,Tb)::(nat_lit 463,Tn)::(nat_lit 464,Vh)::(nat_lit 470,US)::(nat_lit 471,Va)::(nat_lit 477,Sm)::(nat_lit 478,Te)::(nat_lit 484,SK)::(nat_lit 485,VQ)::(nat_lit 491,Sl)::(nat_lit 492,UK)::(nat_lit 496,VN)::(nat_lit 497,UW)::(nat_lit 503,VX)::(nat_lit 504,TB)::(nat_lit 510,Sx)::(nat_lit 511,VS)::(nat_lit 517,UU)::(nat_lit 518,TF)::(nat_lit 524,TH)::(nat_lit 525,T6)::(nat_lit 531,Vp)::(nat_lit 532,UM)::(nat_lit 536,UC)::(nat_lit 537,SX)::(nat_lit 543,Wc)::(nat_lit 544,Vz)::(nat_lit 548,U1)::(nat_lit 549,TL)::(nat_lit 553,We)::(nat_lit 554,VY)::(nat_lit 560,UJ)::(nat_lit 561,V_)::(nat_lit 565,Ux)::(nat_lit 566,TU)::(nat_lit 572,Us)::(nat_lit 573,TZ)::(nat_lit 577,Uu)::(nat_lit 578,Tc)::(nat_lit 584,U_)::(nat_lit 585,Tg)::(nat_lit 591,Wa)::(nat_lit 592,SE)::(nat_lit 596,VT)::(nat_lit 597,VB)::(nat_lit 603,Tz)::(nat_lit 604,Tu)::(nat_lit 610,Pd)::(nat_lit 611,UY)::(nat_lit 615,Sz)::(nat_lit 616,Wf)::(nat_lit 622,Sg)::(nat_lit 623,Wd)::[]
noncomputable def EU:PySem.Params->Frag:=λP=>(nat_lit 363,bN)::(nat_lit 606,bN)::tI P
noncomputable def Xb:bh:=[363,606,1,2,3,4,34,35,37,38,54,55,57,58,73,74,76,77,92,93,95,96,111,112,114,115,130,131,133,134,149,150,152,153,168,169,171,172,206,207,209,210,218,219,225,226,230,231,237,238,242,243,244,245,246,247,248,249,250,251,252,253,254,255,256,257,258,259,260,264,265,271,272,278,279,283,284,290,291,297,298,304,305,311,312,313,319,320,326,327,333,334,338,339,343,344,348,349,353,354,367,368,374,375,381,382,407,408,414,415,417,418,428,429,435,436,442,443,449,450,456,457,463,464,470,471,477,478,484,485,491,492,496,497,503,504,510,511,517,518,524,525,531,532,536,537,543,544,548,549,553,554,560,561,565,566,572,573,577,578,584,585,591,592,596,597,603,604,610,611,615,616,622,623]
theorem JX:∀P,Xb=(EU P).map (·.1):=λ_=>by kernel_rfl
noncomputable def pT:PySem.Program:={PySem.Challenge.pw_framerooms_k38_texts_both_ways with main:={PySem.Challenge.pw_framerooms_k38_texts_both_ways.main with body:=[top 0,top 2,top 3,top 4,top 5,top 6,top 7,top 8,top 9,top 10,top 11,top 13,top 14,top 15,top 16,top 17,top 18,top 19,top 20,top 21,top 23,top 24,top 25,top 26,top 27,top 28,top 29,top 30,top 31,top 32,top 33,top 35,top 36,top 37,top 38,top 39,top 40,top 42,top 43,top 44,top 45,top 46,top 47,top 48,top 49,top 51,top 52,top 53,top 54,top 55,top 56,top 57,top 58,top 59,top 60,top 62,top 63,top 64,top 65,top 66,top 67,top 68,top 69,top 70,top 71,top 72,top 73,top 74,top 75,top 76,top 77,top 78,top 79]}}
noncomputable abbrev zP:List PySem.Str:=["FORMS","BOUNDS","rewritten"]
noncomputable abbrev pN:PySem.W.Hook:=PySem.W.kHook EU Xb JX
theorem Sa(w:PySem.World):(λos:PySem.OsState=>((PySem.W.staticsOk (importedModules jn.main.body) (PySem.W.boot_heap w.params) (cB w.params)&&PySem.W.namesBound jn (cB w.params)&&PySem.W.gensDone ⟨cB w.params,⟨[]⟩,{},1046,os⟩&&PySem.W.laidKept (PySem.W.boot_heap w.params) (cB w.params)),PySem.W.openSeen pT zP (importedModules jn.main.body) (λs=>PySem.W.xlAt pT [] s&&PySem.W.recOk (PySem.W.RowW.records PySem.Challenge.rw_framerooms_k38_texts_both_ways.row.toRowW) s) true ⟨cB w.params,⟨[]⟩,{},1046,os⟩,pN.obs ⟨cB w.params,⟨[]⟩,{},1046,os⟩))=λ_=>(true,PySem.W.openGood pT zP,pN.val w):=by kernel_rfl
theorem XC:PySem.W.LeftO PySem.Challenge.rw_framerooms_k38_texts_both_ways.row.prog pT zP (λs=>PySem.W.xlAt pT [] s&&PySem.W.recOk (PySem.W.RowW.records PySem.Challenge.rw_framerooms_k38_texts_both_ways.row.toRowW) s) pN.obs pN.val 9796:=PySem.W.LeftO.of_pieces (H₀:=PySem.W.boot_heap) (H₁:=cB) (gs₁:=⟨[]⟩) (d₁:={}) (k₁:=1046) (m₀:=11) (ann:=h8) (PySem.W.boot_open Z (by decide) (λ_=>rfl)) (λ_=>by kernel_rfl) ab0 (by decide) Sa
end My
namespace L2
open PySem PySem.Spec PyProof.Rows
abbrev wS:=Sum Int Str
noncomputable def Aj:wS->W'->Bool
 | .inl k,v=>Value.isInt k v
 | .inr x,v=>Value.isStrOf x v
noncomputable def aeq(w:aai):wS->Int
 | .inl k=>hashInt k
 | .inr x=>hashStr w x
theorem dZ:∀{k:wS} {v:W'},Aj k v=true->(∃i t,k=Sum.inl i/\v=Value.int i t)\/(∃x t,k=Sum.inr x/\v=Value.str x t)
 | .inl i,v,h=>by
  obtain⟨t,e⟩:=Value.isInt_shape (k:=i) (v:=v) h;exact .inl ⟨i,t,Z,e⟩
 | .inr x,v,h=>by
  obtain⟨t,e⟩:=Value.isStrOf_shape (x:=x) (v:=v) h;exact .inr ⟨x,t,Z,e⟩
theorem LO(i:Int)(t:Tok):Aj (.inl i) (.int i t)=true:=by simp[Aj,Value.isInt]
theorem LY(x:Str)(t:Tok):Aj (.inr x) (.str x t)=true:=by simp[Aj,Value.isStrOf]
theorem XN(a b:Int):decide ((Sum.inl a:wS)=Sum.inl b)=(a==b):=by
 by_cases e:a=b
 .subst e;simp
 .have h:¬(Sum.inl a:wS)=Sum.inl b:=λq=>e (Sum.inl.inj q);rw[bf h];exact(qH.mpr e).symm
theorem Yt(a b:Str):decide ((Sum.inr a:wS)=Sum.inr b)=decide (a=b):=by
 by_cases e:a=b
 .subst e;simp
 .have h:¬(Sum.inr a:wS)=Sum.inr b:=λq=>e (Sum.inr.inj q);rw[bf h,bf e]
theorem Ws(a:Int)(b:Str):decide ((Sum.inl a:wS)=Sum.inr b)=false:=bf (λq=>nomatch q)
theorem XS(a:Str)(b:Int):decide ((Sum.inr a:wS)=Sum.inl b)=false:=bf (λq=>nomatch q)
noncomputable def c5(prog:aan)(w:aai):PySem.KeyKind prog w wS where
 is:=Aj
 hash:=aeq w
 inj:=λv a b ha hb=>by
  rcases dZ ha with⟨i,t,rfl,rfl⟩|⟨x,t,rfl,rfl⟩
  .rcases dZ hb with⟨j,u,rfl,e⟩|⟨y,u,rfl,e⟩
   .injection e with e1 _;rw[e1]
   .exact nomatch e
  .rcases dZ hb with⟨j,u,rfl,e⟩|⟨y,u,rfl,e⟩
   .exact nomatch e
   .injection e with e1 _;rw[e1]
 byValue:=λk v h=>by
  rcases dZ h with⟨i,t,rfl,rfl⟩|⟨x,t,rfl,rfl⟩<;>rfl
 pyHash:=λhv h=>by
  rcases dZ hv with⟨i,t,rfl,rfl⟩|⟨x,t,rfl,rfl⟩
  .exact wpAny_pyHash_int h
  .exact wpAny_pyHash_str h
 eqBool:=λhu hv h=>by
  rcases dZ hu with⟨i,t,rfl,rfl⟩|⟨x,t,rfl,rfl⟩
  .rcases dZ hv with⟨j,u,rfl,rfl⟩|⟨y,u,rfl,rfl⟩
   .rw[XN] at h;exact wpAny_eqBool_int h
   .rw[Ws] at h;exact SeqAt.EqAt.int_str i t y u _ _ _ _ h
  .rcases dZ hv with⟨j,u,rfl,rfl⟩|⟨y,u,rfl,rfl⟩
   .rw[XS] at h;exact SeqAt.EqAt.str_int x t j u _ _ _ _ h
   .rw[Yt] at h;exact wpAny_eqBool_str h
 «strs» :=λk x t v h=>by
  rcases dZ h with⟨i,u,rfl,e⟩|⟨y,u,rfl,e⟩
  .exact nomatch e
  .injection e with e1 _;subst e1;cases v<;>rfl
theorem He(prog:aan)(w:aai)(i:Int)(t:Tok):(c5 prog w).is (.inl i) (.int i t)=true:=LO i t
theorem HA(prog:aan)(w:aai)(x:Str)(t:Tok):(c5 prog w).is (.inr x) (.str x t)=true:=LY x t
inductive V where
 |bV|bl (b:Bool)|int (i:Int)|str (x:Str)|Ki (b:Array UInt8)|Y1 (b:UInt64)|ref (a:Y')|ty (n:String)
 deriving DecidableEq
noncomputable abbrev gu:=List (wS×V)
noncomputable abbrev ak:=List V
noncomputable abbrev iS:=List (Str×V)
def RelV:V->W'->Prop
 | .bV,u=>u=Value.none
 | .bl b,u=>u=Value.bool b
 | .int i,u=>∃t,u=Value.int i t
 | .str x,u=>∃t,u=Value.str x t
 | .Ki b,u=>∃t,u=Value.bytes b t
 | .Y1 b,u=>∃t,u=Value.float b t
 | .ref a,u=>u=Value.ref a
 | .ty n,u=>u=Value.type n
abbrev Vals:ak->aE->Prop:=Paired RelV
theorem Vals.length{xs:ak}{us:aE}(r:Vals xs us):xs.length=us.length:=Paired.length r
theorem Vals.get:∀{xs:ak} {us:aE} {i:Nat} {x:V},Vals xs us->xs[i]? =some x->∃u,us[i]? =some u/\RelV x u
 |_,_,_,_,.nil,e=>by simp at e
 |_,_,0,_,.cons r _,e=>by simp at e;subst e;exact⟨_,Z,r⟩
 |_,_,i+1,x,.cons _ t,e=>by
  obtain⟨u,h1,h2⟩:=Vals.get (i:=i) (x:=x) t (by simpa using e);exact⟨u,by simpa using h1,h2⟩
theorem Vals.set{x:V}{u:W'}(r:RelV x u):∀{xs:ak} {us:aE} (i:Nat),Vals xs us->Vals (xs.set i x) (us.set i u)
 |_,_,_,.nil=> .nil
 |_,_,0,.cons _ t=> .cons r t
 |_,_,i+1,.cons q t=> .cons q (Vals.set r i t)
theorem Vals.append:∀{xs ys:ak} {us ws:aE},Vals xs us->Vals ys ws->Vals (xs++ys) (us++ws)
 |_,_,_,_,.nil,s=>s
 |_,_,_,_,.cons r t,s=> .cons r (Vals.append t s)
theorem Vals.take:∀{xs:ak} {us:aE} (n:Nat),Vals xs us->Vals (xs.take n) (us.take n)
 |_,_,0,_=> .nil
 |_,_,_+1,.nil=> .nil
 |_,_,n+1,.cons r t=> .cons r (Vals.take n t)
theorem Vals.drop:∀{xs:ak} {us:aE} (n:Nat),Vals xs us->Vals (xs.drop n) (us.drop n)
 |_,_,0,r=>r
 |_,_,_+1,.nil=> .nil
 |_,_,n+1,.cons _ t=>Vals.drop n t
def mw:Option V->aM->Prop
 |some v,some u=>RelV v u
 |none,none=>True
 |_,_=>False
def KV{κ:Type}:List (κ×V)->List (κ×W')->Prop:=Paired λ(p:κ×V) (q:κ×W')=>p.1=q.1/\RelV p.2 q.2
noncomputable def kV:wS->V
 | .inl i=> .int i
 | .inr x=> .str x
inductive HO where
 |lst (xs:ak)
 |tup (xs:ak)
 |dK (bF:gu)|dT (bF:List (List wS×V))
 |set (S:Int->Bool) (n:Nat)
 |ins (C dx:Y') (fs:iS)
 |own (x:Y')
 |xd (fs:iS)
 |met (f x:Y')
 |rng (lo hi:Int)
 |Gj (o:Obj) (u:HO)
 |wy (ps:Array W')
 |ext (φ:aam->Prop)
abbrev Hp:=Y'->Option HO
noncomputable def upd(H:Hp)(a:Y')(o:HO):Hp:=λb=>if b=a then some o else H b
theorem aa{H:Hp}{a:Y'}{o:HO}:upd H a o a=some o:=by unfold upd;rw[ay Z]
theorem au{H:Hp}{a b:Y'}{o:HO}(h:b≠a):upd H a o b=H b:=by unfold upd;rw[aq h]
theorem Qo{H:Hp}{a:Y'}{o u:HO}:upd (upd H a o) a u=upd H a u:=by
 funext b;unfold upd;split<;>rfl
theorem b8{H:Hp}{a b:Y'}{o u:HO}(h:H a=some o)(h' :H b=some u)(d:o≠u):a≠b:=by
 intro e;subst e;rw[h] at h';exact d (fC h')
theorem aw{H:Hp}{a b:Y'}{o:HO}(h:H a=some o)(h' :H b=none):a≠b:=by
 intro e;subst e;rw[h] at h';cases h'
section
variable(P:aan)(w:aai)
def cg(H:Hp)(h:aam)(a:Y'):HO->Prop
 | .lst xs=>xs.length<=sizeLine/\∃(its:aE) (n:Nat),Vals xs its/\h.get? a=some {cls:= .type "list",data:= .seq its.toArray n}
 | .tup xs=>xs.length<=sizeLine/\∃its:aE,Vals xs its/\IsTup h a its.toArray
 | .dK bF=>bF.length<=sizeLine/\(a==sysModules)=false/\∃vs,KV bF vs/\h.DictOf (c5 P w) a vs
 | .dT bF=>bF.length<=sizeLine/\(a==sysModules)=false/\∃xs:List (List wS×Y'×W'),
  Paired (λ(p:List wS×V) (q:List wS×Y'×W')=>p.1=q.1/\H q.2.1=some (.tup (p.1.map kV))/\RelV p.2 q.2.2) bF xs/\
  ∃o es ep,h.get? a=some o/\o.ExactDict/\o.data= .dict es ep/\es.toList=xs.map (entryOfKey (tupleKind (c5 P w)))/\(xs.map (·.1)).Nodup
 | .set S n=>h.SetOf (intKind P w) a S n
 | .ins C dx fs=>H dx=some (.own a)/\fs.length<=1000/\dx≠a/\h.get? a=some (instObj C dx)/\
  ∃mA,h.Ns1 dx mA/\(∀f,mw (fs.lookup f) (mA f))/\PySem.Within mA (fs.map (·.1))
 | .own _=>∃o,h.get? a=some o
 | .xd fs=>∃mA,h.Ns1 a mA/\∀f,mw (fs.lookup f) (mA f)
 | .rng lo hi=>∃t u v,h.get? a=some {cls:= .type "range",data:= .fields #[.int lo t,.int hi u,.int 1 v]}
 | .Gj o u=>h.get? a=some o/\cg H h a u
 | .wy ps=>h.get? a=some {cls:= .none,data:= .fields ps}
 | .met f x=>h.get? a=some (methodObj (.ref f) (.ref x))
 | .ext φ=>φ h/\(∃o,h.get? a=some o)/\∀h1 h2:aam,φ h1->(∀o,h1.get? a=some o->h2.get? a=some o)->φ h2
def o5(H:Hp)(h:aam):Prop:=∀a o,H a=some o->cg P w H h a o
end
section
variable{P:aan}{w:aai}{H H' :Hp}{h h' :aam}{a:Y'}{o:HO}
theorem cg.lt(x:cg P w H h a o):a<h.objs.size:=by
 cases o with
 |lst xs=>obtain⟨_,_,_,_,e⟩:=x;exact aX e
 |tup xs=>obtain⟨_,_,_,p⟩:=x;exact p.lt
 |dK bF=>obtain⟨_,_,_,_,o,_,_,e,_⟩:=x;exact aX e
 |dT bF=>obtain⟨_,_,_,_,o,_,_,e,_⟩:=x;exact aX e
 |set S n=>obtain⟨o,_,_,_,e,_⟩:=x;exact aX e
 |ins C dx fs=>obtain⟨_,_,_,e,_⟩:=x;exact aX e
 |own y=>obtain⟨_,e⟩:=x;exact aX e
 |xd fs=>obtain⟨_,⟨_,_,_,e,_⟩,_⟩:=x;exact aX e
 |rng lo hi=>obtain⟨_,_,_,e⟩:=x;exact aX e
 |Gj ob u=>obtain⟨e,_⟩:=x;exact aX e
 |wy ps=>exact aX (show h.get? a=some _ from x)
 |met f y=>exact aX (show h.get? a=some _ from x)
 |ext φ=>obtain⟨_,⟨_,e⟩,_⟩:=x;exact aX e
theorem Paired.aba{α β:Type}{F G:α->β->Prop}:∀{l₁:List α} {l₂:List β},Paired F l₁ l₂->(∀a b,F a b->G a b)->Paired G l₁ l₂
 |_,_,.nil,_=> .nil
 |_,_,.cons r t,f=> .cons (f _ _ r) (Paired.aba t f)
theorem cg.uD(x:cg P w H h a o)(k:∀b u,(b=a\/H b=some (.own a))->h.get? b=some u->h'.get? b=some u)
 (ho:∀b,H b=some (.own a)->H' b=some (.own a)) (ht:∀b xs,H b=some (.tup xs)->H' b=some (.tup xs)):cg P w H' h' a o:=by
 induction o with
 |lst xs=>obtain⟨z,its,n,r,e⟩:=x;exact⟨z,its,n,r,k _ _ (.inl Z) e⟩
 |tup xs=>obtain⟨z,its,r,ob,e,c⟩:=x;exact⟨z,its,r,ob,k _ _ (.inl Z) e,c⟩
 |dK bF=>obtain⟨z,y,vs,r,ob,es,ep,e,c⟩:=x;exact⟨z,y,vs,r,ob,es,ep,k _ _ (.inl Z) e,c⟩
 |dT bF=>
  obtain⟨z,y,xs,r,ob,es,ep,e,c⟩:=x;exact⟨z,y,xs,Paired.aba r λp q z=>⟨z.1,ht _ _ z.2.1,z.2.2⟩,ob,es,ep,k _ _ (.inl Z) e,c⟩
 |set S n=>obtain⟨ob,es,ep,t,e,c⟩:=x;exact⟨ob,es,ep,t,k _ _ (.inl Z) e,c⟩
 |ins C dx fs=>
  obtain⟨d,z,ne,e,mA,⟨od,es,ep,e2,c⟩,r⟩:=x;exact⟨ho _ d,z,ne,k _ _ (.inl Z) e,mA,⟨od,es,ep,k _ _ (.inr d) e2,c⟩,r⟩
 |own y=>obtain⟨ob,e⟩:=x;exact⟨ob,k _ _ (.inl Z) e⟩
 |xd fs=>obtain⟨mA,⟨od,es,ep,e,c⟩,r⟩:=x;exact⟨mA,⟨od,es,ep,k _ _ (.inl Z) e,c⟩,r⟩
 |rng lo hi=>obtain⟨t,u,v,e⟩:=x;exact⟨t,u,v,k _ _ (.inl Z) e⟩
 |Gj ob u ih=>obtain⟨e,q⟩:=x;exact⟨k _ _ (.inl Z) e,ih q⟩
 |wy ps=>
  have e:h.get? a=some {cls:= .none,data:= .fields ps}:=x;show h'.get? a=some {cls:= .none,data:= .fields ps};exact k a _ (.inl Z) e
 |met f y=>
  have e:h.get? a=some (methodObj (.ref f) (.ref y)):=x;show h'.get? a=some (methodObj (.ref f) (.ref y));exact k a _ (.inl Z) e
 |ext φ=>obtain⟨p,⟨o,e⟩,st⟩:=x;exact⟨st _ _ p λo q=>k _ _ (.inl Z) q,⟨o,k _ _ (.inl Z) e⟩,st⟩
theorem o5.lt(x:o5 P w H h)(e:H a=some o):a<h.objs.size:=(x a o e).lt
theorem o5.fresh(x:o5 P w H h)(e:h.objs.size<=a):H a=none:=by
 cases q:H a with
 |none=>rfl
 |some u=>exact absurd (cq (x.lt q) e) (cn _)
theorem o5.kept(x:o5 P w H h)(k:∀b u,h.get? b=some u->h'.get? b=some u):o5 P w H h' :=λa o e=>
 (x a o e).uD (λb u _ q=>k b u q) (λ_ q=>q) λ_ _ q=>q
theorem o5.laid(x:o5 P w H h)(k:∀b u,h.get? b=some u->h'.get? b=some u)(hp:h.objs.size<=a)(new:cg P w (upd H a o) h' a o):o5 P w (upd H a o) h' :=λb u e=>by
 have hn:=x.fresh hp;by_cases hb:b=a
 .subst hb;rw[aa] at e;cases e;exact new
 .rw[au hb] at e;exact(x b u e).uD (λc v _ q=>k c v q) (λc q=>by rw[au (aw q hn)];exact q) λc xs q=>by rw[au (aw q hn)];exact q
end
def Rd(H:Hp)(a:Y')(u:HO):Prop:=H a=some u\/∃o,H a=some (.Gj o u)
theorem Rd.ok{P:aan}{w:aai}{H:Hp}{h:aam}{a:Y'}{u:HO}(r:Rd H a u)(x:o5 P w H h):cg P w H h a u:=by
 rcases r with r|⟨o,r⟩
 .exact x a u r
 .obtain⟨_,q⟩:=x a _ r;exact q
def Mut:Option HO->Prop
 |some (.lst _)=>True
 |some (.dK _)=>True
 |some (.dT _)=>True
 |some (.set _ _)=>True
 |some (.ins _ _ _)=>True
 |some (.ext _)=>True
 |_=>False
section
variable{P:aan}{w:aai}{H:Hp}{h h' :aam}{x e:Y'}{o' :HO}
theorem o5.write(ok:o5 P w H h)(mu:Mut (H x))(he:e=x\/H e=some (.own x))(k:∀b u,b≠e->h.get? b=some u->h'.get? b=some u)(Y3:∃u,h'.get? e=some u)
 (new:cg P w (upd H x o') h' x o'):o5 P w (upd H x o') h' :=λb u q=>by
 have acU:∀c y,H c=some (.own y)->c≠x:=λc y r z=>by subst z;rw[r] at mu;exact mu
 have afo:∀c xs,H c=some (.tup xs)->c≠x:=λc xs r z=>by subst z;rw[r] at mu;exact mu
 by_cases hb:b=x
 .subst hb;rw[aa] at q;cases q;exact new
 .rw[au hb] at q;by_cases BW:b=e
  .have q' :H b=some (.own x):=by
    rcases he with z|z
    .exact absurd (BW.trans z) hb
    .rw[BW];exact z
   rw[q] at q';cases q'
   obtain⟨v,hv⟩:=Y3;exact⟨v,by rw[BW];exact hv⟩
  .refine(ok b u q).uD (λc v hc r=>k c v ?_ r) (λc r=>by rw[au (acU c b r)];exact r) λc xs r=>by rw[au (afo c xs r)];exact r
   rcases hc with rfl|hc
   .exact BW
   .rintro rfl
    rcases he with z|z
    .exact acU c b hc z
    .rw[hc] at z;cases z;exact hb rfl
end
structure Un(fs ex:bh)(H H' :Hp)(h h' :aam):Prop where
 keep:∀b o,h.get? b=some o->H b=none->b∉fs->b∉ex->h'.get? b=some o
 slot:∀b o,h.get? b=some o->H b=none->b∈fs->b∉ex->∃sl,h'.get? b=some {o with slots:=sl}
 free:∀b o,h.get? b=some o->H b=none->b∉ex->H' b=none
 there:∀b o,h.get? b=some o->b∉ex->∃o',h'.get? b=some o'
 B_:∀b xs,H b=some (.tup xs)->H' b=some (.tup xs)
 zZ:∀b o u,H b=some (.Gj o u)->H' b=some (.Gj o u)
 Bu:∀b ps,H b=some (.wy ps)->∃more,H' b=some (.wy (ps++more))
section
variable{fs fs' ex ex' :bh}{H H1 H2:Hp}{h h1 h2 h' :aam}{a x e:Y'}{o:HO}
theorem Un.any(u:Un fs ex H H1 h h1){b:Y'}{ob:Obj}(q:h.get? b=some ob)(n:H b=none)(hx:b∉ex):∃sl,h1.get? b=some {ob with slots:=sl}:=by
 by_cases hb:b∈fs
 .exact u.slot b ob q n hb hx
 .exact⟨ob.slots,u.keep b ob q n hb hx⟩
theorem Un.kept(k:∀b u,h.get? b=some u->h'.get? b=some u):Un fs ex H H h h' :=
 ⟨λb ob q _ _ _=>k b ob q,λb ob q _ _ _=>⟨ob.slots,k b ob q⟩,λ_ _ _ n _=>n,λb ob q _=>⟨ob,k b ob q⟩,λ_ _ q=>q,λ_ _ _ q=>q,λ_ ps q=>⟨#[],by rw[q];simp⟩⟩
theorem Un.refl:Un fs ex H H h h:=Un.kept λ_ _ q=>q
theorem Un.laid(k:∀b u,h.get? b=some u->h'.get? b=some u)(hp:h.objs.size<=a)(hn:H a=none):Un fs ex H (upd H a o) h h' where
 keep:=λb u q _ _ _=>k b u q
 slot:=λb u q _ _ _=>⟨u.slots,k b u q⟩
 free:=λb u q n _=>by rw[au (bY (cq (aX q) hp))];exact n
 there:=λb u q _=>⟨u,k b u q⟩
 B_:=λb xs q=>by rw[au (aw q hn)];exact q
 zZ:=λb u xs q=>by rw[au (aw q hn)];exact q
 Bu:=λb ps q=>⟨#[],by rw[au (aw q hn),q];simp⟩
theorem Un.write(mu:Mut (H x))(he:e=x\/H e=some (.own x))(k:∀b u,b≠e->h.get? b=some u->h'.get? b=some u)(Y3:∃u,h'.get? e=some u):Un fs ex H (upd H x o) h h' :=by
 have hx:∀b,H b=none->b≠x:=λb n z=>by subst z;rw[n] at mu;exact mu
 have hb:∀b,H b=none->b≠e:=λb n z=>by
  subst z;rcases he with r|r
  .exact hx b n r
  .rw[n] at r;cases r
 have hm:∀b u,H b=some u->¬Mut (some u)->b≠x:=λb u q nm z=>by subst z;rw[q] at mu;exact nm mu
 refine⟨λb u q n _ _=>k b u (hb b n) q,λb u q n _ _=>⟨u.slots,k b u (hb b n) q⟩,λb u q n _=>by rw[au (hx b n)];exact n,λb u q _=> ?_,
  λb xs q=>by rw[au (hm b _ q λz=>z)];exact q,λb u xs q=>by rw[au (hm b _ q λz=>z)];exact q,λb ps q=>⟨#[],by rw[au (hm b _ q λz=>z),q];simp⟩⟩
 by_cases BW:b=e
 .subst BW;exact Y3
 .exact⟨u,k b u BW q⟩
end
noncomputable def trk(h:aam)(H:Hp):bh:=(List.range h.objs.size).filter λa=>(H a).isSome
noncomputable def CN(h:aam)(H:Hp):aam:=PySem.W.hideAll h (trk h H)
theorem Dt(h:aam)(H:Hp):(CN h H).objs.size=h.objs.size:=PySem.W.hideAll_size _ _
theorem zR{h:aam}{H:Hp}{b:Y'}{o:Obj}(e:h.get? b=some o)(n:H b=none):(CN h H).get? b=some o:=
 PySem.W.hideAll_get _ e λhm=>by
  have q:(H b).isSome=true:=(vL.mp hm).2;rw[n] at q;simp at q
theorem EO{h:aam}{H:Hp}{b:Y'}{o:Obj}(e:(CN h H).get? b=some o):h.get? b=some o/\H b=none:=by
 have e' :h.get? b=some o:=PySem.W.of_hideAll (trk h H) e;refine⟨e',?_⟩
 cases q:H b with
 |none=>rfl
 |some x=>
  have hm:b∈trk h H:=vL.mpr ⟨mC.mpr (aX e'),by simp[q]⟩;have z:(CN h H).get? b=none:=PySem.W.hideAll_none (trk h H) hm;rw[z] at e;cases e
noncomputable def Rz(g h:aam)(L:Y'):aR:=(List.range h.objs.size).filterMap λa=>if a=L\/(g.get? a).isSome=true then none else(h.get? a).map λo=>(a,o)
noncomputable def rest(g h:aam)(L d:Y'):aR:=(Rz g h L).filter λp=>decide (p.1≠d)
structure Mod(K:Frag)(mg:Str->aM)(base:aam):Prop where
 tZ:K.In base
 glob:base.Ns mainGlobals mg
 blt:∃mb,base.Ns builtinsNs mb/\∀x:Str,x≠ "__name__" ->mb x=bootBuiltins x
 nolimit:base.NoLimit
structure Cx where
 prog:aan
 w:aai
 K:Frag
 mg:Str->aM
 base:aam
 A:aal
 N:aj
 fG:X'
 H₀:Hp
 env:Env
 outer:List Env
 stack:List Env
 ex:bh
 fn:Str->Bool
 calm:Bool
 pn:aR
 xe:V'
noncomputable def CK(l:List Env):bh:=l.filterMap (·.frame)
noncomputable abbrev Cx.fs(X:Cx):bh:=CK X.outer
def Vis(sc:Scope)(x:Str):Prop:=sc.names.lookup x=some .local\/sc.names.lookup x=some .cell\/sc.names.lookup x=some .free
def Loc(sc:Scope)(x:Str):Prop:=sc.names.lookup x=some .local\/sc.names.lookup x=some .cell
def jaI(env:Env)(h:aam)(m:Str->aM)(x:Str)(u:W'):Prop:=
 (env.kindOf x=some .local/\m x=some u)\/((env.kindOf x=some .cell\/env.kindOf x=some .free)/\∃c,env.cells.lookup x=some c/\h.IsCell c (some u))
structure Cx.Ok(X:Cx):Prop where
 mod:Mod X.K X.mg X.base
 kind:X.env.scope.kind= .function
 glob:X.env.globals=mainGlobals
 blt:X.env.builtins=builtinsNs
 above:X.fG.heap.objs.size<=X.env.locals
 inj:∀x y c,X.env.cells.lookup x=some c->X.env.cells.lookup y=some c->x=y
 has:∀x,(X.env.kindOf x=some .cell\/X.env.kindOf x=some .free)->∃c,X.env.cells.lookup x=some c
 Vw:∀x c,X.fn x=true->X.env.cells.lookup x=some c->X.fG.heap.objs.size<=c
 hd:X.calm=true->X.A.handled=none
 frames:X.A.frames=some X.stack
 Qd:X.stack=X.outer\/(X.stack=X.env::X.outer/\X.env.frame=some X.env.locals)
 exf:∀b∈X.ex,b≠X.env.locals/\∀x c,X.env.cells.lookup x=some c->c≠b
 bs:∀b o,X.base.get? b=some o->X.fG.heap.get? b=some o/\X.H₀ b=none
 LF:X.base.objs.size<=X.fG.heap.objs.size
 Ik:∀b o,X.base.get? b=some o->b∉X.ex
 Ma:∀b∈X.ex,b∉X.fs
 rR:X.fG.heap.FunFrames X.base X.outer
 P8:∀b∈X.fs,X.H₀ b=none
structure Inv(X:Cx)(ad:aR)(σ:List (Option V))(H:Hp)(s:X'):Prop where
 ok:X.Ok
 os:s.os=X.fG.os
 bare:AllBare s.gens
 base:Un X.fs X.ex X.H₀ H X.fG.heap s.heap
 loc:∃m,s.heap.Ns X.env.locals m/\∀(i:Nat) (x:Str) (v:V),X.N[i]? =some x->σ[i]? =some (some v)->Vis X.env.scope x->∃u,RelV v u/\jaI X.env s.heap m x u
 cell:∀x c,X.env.cells.lookup x=some c->∃v,s.heap.IsCell c v
 free:H X.env.locals=none
 jA:∀x c,X.env.cells.lookup x=some c->H c=none
 pin:∀p∈X.pn++ad,s.heap.get? p.1=some p.2/\H p.1=none/\p.1≠X.env.locals/\p.1∉X.fs/\∀v,p.2.data≠.cell v
 bM:o5 X.prog X.w H s.heap
 len:σ.length=X.N.length
section
variable{X:Cx}{ad:aR}{σ:List (Option V)}{H H' :Hp}{s:X'}{h' :aam}
theorem Cx.Ok.aee(ok:X.Ok){b:Y'}{o:Obj}(e:X.base.get? b=some o):b∉X.fs:=λhb=>by
 have:=(ok.rR.mem hb).1;rw[e] at this;cases this
theorem Inv.bs(I:Inv X ad σ H s):∀b o,X.base.get? b=some o->s.heap.get? b=some o/\H b=none:=λb o e=>
 ⟨I.base.keep b o (I.ok.bs b o e).1 (I.ok.bs b o e).2 (I.ok.aee e) (I.ok.Ik b o e),I.base.free b o (I.ok.bs b o e).1 (I.ok.bs b o e).2 (I.ok.Ik b o e)⟩
theorem Inv.bk(I:Inv X ad σ H s):∀b o,X.base.get? b=some o->s.heap.get? b=some o:=λb o e=>(I.bs b o e).1
theorem Inv.mod(I:Inv X ad σ H s):Mod X.K X.mg X.base:=I.ok.mod
theorem Inv.kZ(I:Inv X ad σ H s):X.K.In s.heap:=I.ok.mod.tZ.keeps I.bk
theorem Inv.fr(I:Inv X ad σ H s):∃m,Fr X.base X.env.locals s.heap m:=
 let⟨m,hn,_⟩:=I.loc
 ⟨m,hn,I.bk,aL I.ok.LF I.ok.above⟩
theorem Inv.lt(I:Inv X ad σ H s):X.env.locals<s.heap.objs.size:=let⟨_,hn,_⟩:=I.loc;hn.lt
theorem Inv.sz(I:Inv X ad σ H s):X.fG.heap.objs.size<=s.heap.objs.size:=aL I.ok.above (cV I.lt)
theorem Inv.af_(I:Inv X ad σ H s){a:Y'}(h:s.heap.objs.size<=a):a∉X.fs:=λhb=>by
 obtain⟨_,o,ho,_⟩:=I.ok.rR.mem hb;exact absurd (cq (aX ho) (aL I.sz h)) (cn _)
theorem Inv.P4(I:Inv X ad σ H s):∀x c,X.env.cells.lookup x=some c->c≠X.env.locals:=λx c e z=>by
 obtain⟨v,o,ho,hd⟩:=I.cell x c e;obtain⟨m,⟨o',es,ep,OA,Lm,_⟩,_⟩:=I.loc;rw[z,OA] at ho;cases ho;rw[Lm] at hd;cases hd
theorem Inv.rR(I:Inv X ad σ H s):s.heap.FunFrames X.base X.outer:=by
 have all:∀(l:List Env),(∀b∈CK l,b∈X.fs)->X.fG.heap.FunFrames X.base l->s.heap.FunFrames X.base l:=by
  intro l
  induction l with
  |nil=>intro _ _;trivial
  |cons env r ih=>
   intro hs hl;obtain⟨hk,⟨L,o,hf,hn,ho,hd⟩,hr⟩:=hl;have hL:L∈X.fs:=hs L (by unfold CK;rw[oA,hf];exact a9);obtain⟨sl,e⟩:=I.base.slot L o ho (I.ok.P8 L hL) hL λz=>I.ok.Ma L z hL;exact⟨hk,⟨L,_,hf,hn,e,hd⟩,ih (λb hb=>hs b (by unfold CK;rw[oA,hf];exact a7 _ hb)) hr⟩
 exact all X.outer (λ_ hb=>hb) I.ok.rR
theorem Inv.stack(I:Inv X ad σ H s):s.heap.FunFrames X.base X.stack:=by
 rcases I.ok.Qd with e|⟨e,hf⟩
 .rw[e];exact I.rR
 .rw[e];obtain⟨m,hn,_⟩:=I.loc;refine .cons (by rw[I.ok.kind];decide) hf hn ?_ I.rR;exact Heap.get?_none_of_le (aL I.ok.LF I.ok.above)
theorem Inv.Bd(I:Inv X ad σ H s):∀b∈CK X.stack,b∈X.env.locals::X.fs:=λb hb=>by
 rcases I.ok.Qd with e|⟨e,hf⟩
 .rw[e] at hb;exact a7 _ hb
 .rw[e] at hb;unfold CK at hb;rw[oA,hf] at hb;exact hb
theorem Inv.u_(I:Inv X ad σ H s):∀b∈CK X.stack,H b=none:=λb hb=>by
 rcases aN.mp (I.Bd b hb) with e|hb
 .rw[e];exact I.free
 .obtain⟨_,o,ho,_⟩:=I.ok.rR.mem hb;exact I.base.free b o ho (I.ok.P8 b hb) λz=>I.ok.Ma b z hb
theorem Inv.step{g' :Array GenState}{t' :Nat}{d' :Drawn}{ch:bh}(I:Inv X ad σ H s)
 (Dg:∀b∈ch,(b∈X.ex\/X.fG.heap.objs.size<=b)/\b≠X.env.locals/\(∀x c,X.env.cells.lookup x=some c->c≠b)/\∀p∈X.pn++ad,p.1≠b)
 (keep:∀b o,b≠X.env.locals->b∉X.fs->b∉ch->s.heap.get? b=some o->H b=none->h'.get? b=some o)
 (slot:∀b o,b≠X.env.locals->b∈X.fs->b∉ch->s.heap.get? b=some o->H b=none->∃sl,h'.get? b=some {o with slots:=sl}) (free:∀b o,b∉ch->s.heap.get? b=some o->H b=none->H' b=none)
 (there:∀b o,b∉ch->s.heap.get? b=some o->∃o',h'.get? b=some o')
 (B_:∀b xs,H b=some (.tup xs)->H' b=some (.tup xs)) (zZ:∀b o u,H b=some (.Gj o u)->H' b=some (.Gj o u)) (Bu:∀b ps,H b=some (.wy ps)->∃more,H' b=some (.wy (ps++more)))
 (ns:∀m,s.heap.Ns X.env.locals m->h'.Ns X.env.locals m) (bM:o5 X.prog X.w H' h') (hg:AllBare g'):
 Inv X ad σ H' {s with heap:=h',gens:=g',drawn:=d',toks:=t'}:=by
 have neL:∀b o,X.fG.heap.get? b=some o->b≠X.env.locals:=λb o e=>bY (cq (aX e) I.ok.above)
 have neC:∀b o,X.fG.heap.get? b=some o->b∉X.ex->b∉ch:=λb o e hx hb=>by
  rcases(Dg b hb).1 with z|z
  .exact hx z
  .exact absurd (cq (aX e) z) (cn _)
 have cellK:∀x c,X.env.cells.lookup x=some c->∀v,s.heap.IsCell c v->h'.IsCell c v:=λx c e v ⟨o,ho,hd⟩=>by
  have nch:c∉ch:=λz=>(Dg c z).2.2.1 x c e rfl;by_cases hc:c∈X.fs
  .obtain⟨sl,q⟩:=slot c o (I.P4 x c e) hc nch ho (I.jA x c e);exact⟨_,q,hd⟩
  .exact⟨o,keep c o (I.P4 x c e) hc nch ho (I.jA x c e),hd⟩
 refine⟨I.ok,I.os,hg,⟨λb o e n hb hx=> ?_,λb o e n hb hx=> ?_,λb o e n hx=> ?_,λb o e hx=> ?_,λb xs e=>B_ b xs (I.base.B_ b xs e),λb o xs e=>zZ b o xs (I.base.zZ b o xs e),λb ps e=> ?_⟩,?_,λx c e=> ?_,?_,λx c e=> ?_,λp hp=> ?_,bM,I.len⟩
 .exact keep b o (neL b o e) hb (neC b o e hx) (I.base.keep b o e n hb hx) (I.base.free b o e n hx)
 .obtain⟨sl,e1⟩:=I.base.slot b o e n hb hx;obtain⟨sl',e2⟩:=slot b _ (neL b o e) hb (neC b o e hx) e1 (I.base.free b o e n hx);exact⟨sl',e2⟩
 .obtain⟨o',e1⟩:=I.base.there b o e hx;exact free b o' (neC b o e hx) e1 (I.base.free b o e n hx)
 .obtain⟨o',e1⟩:=I.base.there b o e hx;exact there b o' (neC b o e hx) e1
 .obtain⟨m1,e1⟩:=I.base.Bu b ps e;obtain⟨m2,e2⟩:=Bu b _ e1;exact⟨m1++m2,by rw[e2,Array.append_assoc]⟩
 .obtain⟨m,hn,hl⟩:=I.loc;refine⟨m,ns m hn,λi x v e1 e2 e3=> ?_⟩;obtain⟨u,r,l⟩:=hl i x v e1 e2 e3;refine⟨u,r,?_⟩;rcases l with l|⟨k,c,e,z⟩
  .exact .inl l
  .exact .inr ⟨k,c,e,cellK x c e _ z⟩
 .obtain⟨v,z⟩:=I.cell x c e;exact⟨v,cellK x c e v z⟩
 .obtain⟨m,⟨o,_,_,ho,_⟩,_⟩:=I.loc;exact free _ o (λz=>(Dg _ z).2.1 Z) ho I.free
 .obtain⟨v,o,ho,hd⟩:=I.cell x c e;exact free c o (λz=>(Dg c z).2.2.1 x c e Z) ho (I.jA x c e)
 .obtain⟨e,n,ne,nf,d⟩:=I.pin p hp;have nch:p.1∉ch:=λz=>(Dg p.1 z).2.2.2 p hp rfl;exact⟨keep p.1 p.2 ne nf nch e n,free p.1 p.2 nch e n,ne,nf,d⟩
theorem Inv.un{t' :Nat}(I:Inv X ad σ H s)(u:Un X.fs [] H H' s.heap h')(bM:o5 X.prog X.w H' h'):Inv X ad σ H' {s with heap:=h',toks:=t'}:=by
 obtain⟨m,⟨o,es,ep,ho,r⟩,_⟩:=id I.loc;obtain⟨sl,hL⟩:=u.any ho I.free (by simp)
 exact I.step (g' :=s.gens) (d' :=s.drawn) (ch:=[]) (λ_ z=>nomatch z) (λb o _ hb _ e n=>u.keep b o e n hb (by simp)) (λb o _ hb _ e n=>u.slot b o e n hb (by simp)) (λb o _ e n=>u.free b o e n (by simp)) (λb o _ e=>u.there b o e (by simp)) u.B_ u.zZ u.Bu (λm' hm=>by
  obtain⟨o',es',ep',OA,r'⟩:=hm;rw[ho] at OA;cases OA
  exact⟨_,es',ep',hL,r'⟩) bM I.bare
theorem Inv.call{g' :Array GenState}{t' :Nat}{d' :Drawn}{ch:bh}(I:Inv X ad σ H s)(u:Un (CK X.stack) ch H H' s.heap h')(bM:o5 X.prog X.w H' h')(hg:AllBare g')
 (Dg:∀b∈ch,(b∈X.ex\/X.fG.heap.objs.size<=b)/\b≠X.env.locals/\(∀x c,X.env.cells.lookup x=some c->c≠b)/\∀p∈X.pn++ad,p.1≠b):
 Inv X ad σ H' {s with heap:=h',gens:=g',drawn:=d',toks:=t'}:=by
 obtain⟨m,⟨o,es,ep,ho,r⟩,_⟩:=id I.loc;obtain⟨sl,hL⟩:=u.any ho I.free λz=>(Dg _ z).2.1 rfl
 exact I.step (ch:=ch) Dg (λb o hL hb hc e n=>u.keep b o e n (λz=>(aN.mp (I.Bd b z)).elim hL hb) hc) (λb o _ _ hc e n=>u.any e n hc) (λb o hc e n=>u.free b o e n hc) (λb o hc e=>u.there b o e hc) u.B_ u.zZ u.Bu (λm' hm=>by
  obtain⟨o',es',ep',OA,r'⟩:=hm;rw[ho] at OA;cases OA
  exact⟨_,es',ep',hL,r'⟩) bM hg
theorem Inv.turned{t' :Nat}{it:Y'}(I:Inv X ad σ H s)(k:∀b o,b≠it->s.heap.get? b=some o->h'.get? b=some o)(hn:H it=none)(hL:it≠X.env.locals)
 (h1:it∈X.ex\/X.fG.heap.objs.size<=it) (h2:∀x c,X.env.cells.lookup x=some c->c≠it) (h3:∀p∈X.pn++ad,p.1≠it):Inv X ad σ H {s with heap:=h',toks:=t'}:=by
 have T_:∀b u,H b=some u->b≠it:=λb u e z=>by rw[z,hn] at e;cases e
 refine I.step (g' :=s.gens) (d' :=s.drawn) (ch:=[it]) (λb hb=> ?_) (λb o _ _ hc e _=>k b o (λz=>hc (by simp[z])) e) (λb o _ _ hc e _=>⟨o.slots,k b o (λz=>hc (by simp[z])) e⟩) (λ_ _ _ _ n=>n)
  (λb o hc e=>⟨o,k b o (λz=>hc (by simp[z])) e⟩) (λ_ _ e=>e) (λ_ _ _ e=>e) (λb ps e=>⟨#[],by rw[e];simp⟩) (λm hm=> ?_) (λb u e=> ?_) I.bare
 .have e:b=it:=by simpa using hb
  subst e;exact⟨h1,hL,h2,h3⟩
 .obtain⟨o,es,ep,ho,r⟩:=hm;exact⟨o,es,ep,k _ o (b7 hL) ho,r⟩
 .refine(I.bM b u e).uD (λc v hc q=>k c v ?_ q) (λ_ q=>q) λ_ _ q=>q;rcases hc with z|z
  .rw[z];exact T_ b u e
  .exact T_ c _ z
theorem Inv.tok(I:Inv X ad σ H s)(t:Nat):Inv X ad σ H {s with toks:=t}:=I.un (h' :=s.heap) (t' :=t) Un.refl I.bM
theorem Inv.kept{t' :Nat}(I:Inv X ad σ H s)(k:∀b u,s.heap.get? b=some u->h'.get? b=some u):Inv X ad σ H {s with heap:=h',toks:=t'}:=I.un (Un.kept k) (I.bM.kept k)
theorem Inv.laid{a:Y'}{o:HO}{t' :Nat}(I:Inv X ad σ H s)(k:∀b u,s.heap.get? b=some u->h'.get? b=some u)(hp:s.heap.objs.size<=a)(new:cg X.prog X.w (upd H a o) h' a o):
 Inv X ad σ (upd H a o) {s with heap:=h',toks:=t'}:=I.un (Un.laid k hp (I.bM.fresh hp)) (I.bM.laid k hp new)
theorem Inv.write{x e:Y'}{o:HO}{t' :Nat}(I:Inv X ad σ H s)(mu:Mut (H x))(he:e=x\/H e=some (.own x))(k:∀b u,b≠e->s.heap.get? b=some u->h'.get? b=some u)(Y3:∃u,h'.get? e=some u)
 (new:cg X.prog X.w (upd H x o) h' x o):Inv X ad σ (upd H x o) {s with heap:=h',toks:=t'}:=I.un (Un.write mu he k Y3) (I.bM.write mu he k Y3 new)
theorem Inv.weak{eO :List (Option V)}(I:Inv X ad σ H s)(hl:eO.length=σ.length)(w:∀(i:Nat) v,eO[i]? =some (some v)->σ[i]? =some (some v)):Inv X ad eO H s:=
 ⟨I.ok,I.os,I.bare,I.base,let⟨m,hn,Mv⟩:=I.loc;⟨m,hn,λi x v e1 e2 e3=>Mv i x v e1 (w i v e2) e3⟩,I.cell,I.free,I.jA,I.pin,I.bM,hl.trans I.len⟩
theorem Inv.JM{HD :aR}(I:Inv X ad σ H s)(h:∀p∈HD,s.heap.get? p.1=some p.2/\H p.1=none/\p.1≠X.env.locals/\p.1∉X.fs/\∀v,p.2.data≠.cell v):Inv X HD σ H s:=
 ⟨I.ok,I.os,I.bare,I.base,I.loc,I.cell,I.free,I.jA,λp hp=>(cW.mp hp).elim (λz=>I.pin p (eJ _ z)) (h p),I.bM,I.len⟩
theorem GU{N:aj}(hN:N.Nodup){i j:Nat}{x:Str}(a:N[i]? =some x)(b:N[j]? =some x):i=j:=by
 obtain⟨h1,e1⟩:=dE.mp a;obtain⟨h2,e2⟩:=dE.mp b;exact(List.getElem_inj hN).mp (e1.trans e2.symm)
theorem CW{M:Model}{A:aal}{E:V'}{i:Nat}{x:Str}{v:V}{u:W'}{Q:Unit->X'->Prop}(I:Inv X ad σ H s)(hN:X.N.Nodup)(hi:X.N[i]? =some x)(hx:Loc X.env.scope x)(r:RelV v u)
 (h:∀s',Inv X ad (σ.set i (some v)) H s'->(∃a,Heap.SameBut a s.heap s'.heap/\(a=X.env.locals\/X.env.cells.lookup x=some a))->Q () s') (hf:X.fn x=true\/X.env.scope.names.lookup x=some .local:=by first|exact .inl rfl|exact .inr rfl|assumption):wpAny M A (storeName X.env x u) Q E s:=by
 obtain⟨m,hn,hl⟩:=id I.loc;have Js:(X.env.scope.kind== .class||(X.env.scope.kind== .module&&X.env.locals !=X.env.globals))=false:=by rw[I.ok.kind];rfl
 have abV:i<σ.length:=by rw[I.len];exact(dE.mp hi).1
 have P4:=I.P4
 have tracked:∀{a:Y'} {h' :aam},(∃o,s.heap.get? a=some o/\H a=none)->Heap.SameBut a s.heap h'->o5 X.prog X.w H h' :=λ{a h'} ha hs b ob e=>by
  obtain⟨_,_,VC⟩:=ha;refine(I.bM b ob e).uD (λc w' hc q=>(hs.2 c ?_).trans q) (λ_ q=>q) λ_ _ q=>q
  rintro rfl
  rcases hc with rfl|hc
  .rw[VC] at e;cases e
  .rw[VC] at hc;cases hc
 rcases hx with hk|hk
 .refine wpAny_storeName_local hk hn (λh' LI hs=> ?_) Js;obtain⟨oL,_,_,hoL,_⟩:=id hn;refine h _ ⟨I.ok,I.os,I.bare,⟨λb o e n hb hx=> ?_,λb o e n hb hx=> ?_,I.base.free,λb o e hx=> ?_,I.base.B_,I.base.zZ,I.base.Bu⟩,⟨_,LI,λj y v' e1 e2 e3=> ?_⟩,λy c e=> ?_,I.free,I.jA,λp hp=> ?_,tracked ⟨oL,hoL,I.free⟩ hs,by simpa using I.len⟩ ⟨_,hs,.inl Z⟩
  .exact(hs.2 b (bY (cq (aX e) I.ok.above))).trans (I.base.keep b o e n hb hx)
  .obtain⟨sl,e1⟩:=I.base.slot b o e n hb hx;exact⟨sl,(hs.2 b (bY (cq (aX e) I.ok.above))).trans e1⟩
  .obtain⟨o',e1⟩:=I.base.there b o e hx;exact⟨o',(hs.2 b (bY (cq (aX e) I.ok.above))).trans e1⟩
  .by_cases hj:j=i
   .subst hj;rw[hi] at e1;cases e1
    rw[Fp abV] at e2;cases e2;exact⟨u,r,.inl ⟨hk,by simp⟩⟩
   .rw[zd (b7 hj)] at e2;obtain⟨u',r',q⟩:=hl j y v' e1 e2 e3;refine⟨u',r',?_⟩;rcases q with⟨k,e⟩|⟨k,c,e,z⟩
    .refine .inl ⟨k,?_⟩;have:y≠x:=λe=>hj (GU hN e1 (e▸hi));simp[this,e]
    .exact .inr ⟨k,c,e,z.sameBut hs (P4 y c e)⟩
  .obtain⟨w',z⟩:=I.cell y c e;exact⟨w',z.sameBut hs (P4 y c e)⟩
  .obtain⟨e,n,ne,nf,d⟩:=I.pin p hp;exact⟨(hs.2 p.1 ne).trans e,n,ne,nf,d⟩
 .have Zw:X.fn x=true:=by
   rcases hf with z|z
   .exact z
   .rw[z] at hk;cases hk
  obtain⟨c,hc⟩:=I.ok.has x (.inl hk);obtain⟨w',z⟩:=I.cell x c hc;refine wpAny_storeName_cell I.ok.kind hk hc z (λh' hc' hs=> ?_);obtain⟨oc,hoc,aga⟩:=id z;refine h {s with heap:=h'} ⟨I.ok,I.os,I.bare,⟨λb o e n hb hx=> ?_,λb o e n hb hx=> ?_,I.base.free,λb o e hx=> ?_,I.base.B_,I.base.zZ,I.base.Bu⟩,⟨m,hn.sameBut hs (b7 (P4 x c hc)),λj y v' e1 e2 e3=> ?_⟩,λy c' e=> ?_,I.free,I.jA,λp hp=> ?_,tracked ⟨oc,hoc,I.jA x c hc⟩ hs,by simpa using I.len⟩ ⟨c,hs,.inr hc⟩
  .exact(hs.2 b (bY (cq (aX e) (I.ok.Vw x c Zw hc)))).trans (I.base.keep b o e n hb hx)
  .obtain⟨sl,e1⟩:=I.base.slot b o e n hb hx;exact⟨sl,(hs.2 b (bY (cq (aX e) (I.ok.Vw x c Zw hc)))).trans e1⟩
  .obtain⟨o',e1⟩:=I.base.there b o e hx;exact⟨o',(hs.2 b (bY (cq (aX e) (I.ok.Vw x c Zw hc)))).trans e1⟩
  .by_cases hj:j=i
   .subst hj;rw[hi] at e1;cases e1
    rw[Fp abV] at e2;cases e2;exact⟨u,r,.inr ⟨.inl hk,c,hc,hc'⟩⟩
   .rw[zd (b7 hj)] at e2;obtain⟨u',r',q⟩:=hl j y v' e1 e2 e3;refine⟨u',r',?_⟩;rcases q with q|⟨k,c',e,z'⟩
    .exact .inl q
    .refine .inr ⟨k,c',e,z'.sameBut hs ?_⟩
     rintro rfl
     exact hj (GU hN e1 (I.ok.inj _ _ _ e hc▸hi))
  .by_cases hcc:c' =c
   .subst hcc;exact⟨_,hc'⟩
   .obtain⟨w2,z2⟩:=I.cell y c' e;exact⟨w2,z2.sameBut hs hcc⟩
  .obtain⟨e,n,ne,nf,d⟩:=I.pin p hp;refine⟨(hs.2 p.1 ?_).trans e,n,ne,nf,d⟩;intro q;rw[q,hoc] at e;have q' :oc=p.2:=fC e;exact d w' (by rw[<-q'];exact aga)
theorem m6{M:Model}{A:aal}{E:V'}{i:Nat}{x:Str}{v:V}{u:W'}{Q:Unit->X'->Prop}(I:Inv X ad σ H s)(hN:X.N.Nodup)(hi:X.N[i]? =some x)(hx:Loc X.env.scope x)(r:RelV v u)
 (h:∀s',Inv X ad (σ.set i (some v)) H s'->Q () s') (hf:X.fn x=true\/X.env.scope.names.lookup x=some .local:=by first|exact .inl rfl|exact .inr rfl|assumption):wpAny M A (storeName X.env x u) Q E s:=
 CW I hN hi hx r (λs' I' _=>h s' I') hf
theorem Inv.U0{s' :X'}{ch:bh}(I:Inv X ad σ H s)(ho:s'.os=s.os)(u:Un (CK X.stack) ch H H' s.heap s'.heap)(bM:o5 X.prog X.w H' s'.heap)(hg:AllBare s'.gens)
 (Dg:∀b∈ch,(b∈X.ex\/X.fG.heap.objs.size<=b)/\b≠X.env.locals/\(∀x c,X.env.cells.lookup x=some c->c≠b)/\∀p∈X.pn++ad,p.1≠b):Inv X ad σ H' s' :=by
 obtain⟨h',g',d',t',o'⟩:=s';have e:o' =s.os:=ho;subst e;exact I.call (g' :=g') (t' :=t') (d' :=d') u bM hg Dg
end
abbrev XK:=W'->Option Y'->Hp->Prop
abbrev St:=List (Option V)
abbrev VK:=V->Hp->Prop
abbrev TE:=St->Hp->VK->Prop
abbrev TT:=St->Hp->(Bool->Hp->Prop)->Prop
abbrev TA:=St->Hp->(ak->Hp->Prop)->Prop
structure Ends where
 nx:St->Hp->Prop
 rt:VK
 bk:St->Hp->Prop:=λ_ _=>False
 ct:St->Hp->Prop:=λ_ _=>False
abbrev TS:=Ends->St->Hp->Prop
def EP(X:Cx)(ad:aR)(σ:St)(Q:VK)(u:W')(s' :X'):Prop:=∃v H',Inv X ad σ H' s'/\RelV v u/\Q v H'
def TP(X:Cx)(ad:aR)(σ:St)(Q:Bool->Hp->Prop)(b:Bool)(s' :X'):Prop:=∃H',Inv X ad σ H' s'/\Q b H'
def AP(X:Cx)(ad:aR)(σ:St)(Q:ak->Hp->Prop)(us:aE)(s' :X'):Prop:=∃vs H',Inv X ad σ H' s'/\Vals vs us/\Q vs H'
def SP(X:Cx)(ad:aR)(D:Ends)(f:Flow)(s' :X'):Prop:=
 match f with
 | .next=>∃eO H',Inv X ad eO H' s'/\D.nx eO H'
 | .brk=>∃eO H',Inv X ad eO H' s'/\D.bk eO H'
 | .cont=>∃eO H',Inv X ad eO H' s'/\D.ct eO H'
 | .ret u=>∃v eO H',Inv X ad eO H' s'/\RelV v u/\D.rt v H'
def PE(X:Cx)(e:aaa)(t:TE):Prop:=
 ∀(ad:aR) (s:X') (σ:St) (H:Hp) (Q:VK),Inv X ad σ H s->t σ H Q->wpAny (model X.prog X.w) X.A (eval e X.env) (EP X ad σ Q) X.xe s
def PT(X:Cx)(e:aaa)(t:TT):Prop:=
 ∀(ad:aR) (s:X') (σ:St) (H:Hp) (Q:Bool->Hp->Prop),Inv X ad σ H s->t σ H Q->wpAny (model X.prog X.w) X.A (isTrue e X.env (eval e X.env)) (TP X ad σ Q) X.xe s
def PW(X:Cx)(e:aaa)(t:TT):Prop:=
 ∀(whole:Sem W') (ad:aR) (s:X') (σ:St) (H:Hp) (Q:Bool->Hp->Prop),Inv X ad σ H s->t σ H Q->wpAny (model X.prog X.w) X.A (isTrue e X.env whole) (TP X ad σ Q) X.xe s
theorem PW.pt{X:Cx}{e:aaa}{t:TT}(h:PW X e t):PT X e t:=h _
def PA(X:Cx)(es:b_)(t:TA):Prop:=
 ∀(pos:Pos) (ad:aR) (s:X') (σ:St) (H:Hp) (Q:ak->Hp->Prop),Inv X ad σ H s->t σ H Q->wpAny (model X.prog X.w) X.A (spliced (backTo pos (starEach es X.env))) (AP X ad σ Q) X.xe s
def PS(X:Cx)(st:Stmt)(t:TS):Prop:=
 ∀(ad:aR) (s:X') (σ:St) (H:Hp) (D:Ends),Inv X ad σ H s->t D σ H->wpAny (model X.prog X.w) X.A (exec st X.env) (SP X ad D) X.xe s
def DE(X:Cx)(st:List Stmt)(t:TS):Prop:=
 ∀(ad:aR) (s:X') (σ:St) (H:Hp) (D:Ends),Inv X ad σ H s->t D σ H->wpAny (model X.prog X.w) X.A (execs st X.env) (SP X ad D) X.xe s
theorem cN{α:Type}{t:Sem α}{Q Q' :α->X'->Prop}{M:Model}{A:aal}{E:V'}{s:X'}(h:wpAny M A t Q E s)(hQ:∀a s,Q a s->Q' a s):wpAny M A t Q' E s:=fM h hQ λ_ _ x=>x
variable{X:Cx}
def MW(i:Nat):TE:=λσ H Q=>∃v,σ[i]? =some (some v)/\Q v H
def tC(v:V):TE:=λ_ H Q=>Q v H
theorem YS{i:Nat}{x:Str}{pos:Pos}(hN:X.N[i]? =some x)(hv:Vis X.env.scope x)(hd:(x==("__debug__" :Str))=false:=by decide)(AG:(x==("__classdict__" :Str))=false:=by decide):PE X (.Name x pos) (MW i):=by
 intro ad s σ H Q I h;obtain⟨v,e,h⟩:=h;obtain⟨m,hn,hl⟩:=I.loc;obtain⟨u,r,l⟩:=hl i x v hN e hv;have fin:EP X ad σ Q u s:=⟨v,H,I,r,h⟩;rcases l with⟨hk,hm⟩|⟨hk,c,hc,JW⟩
 .exact wpAny_Name (wpAny_loadName_local I.ok.kind hk hn hm fin) hd
 .rcases hk with hk|hk
  .exact wpAny_Name (wpAny_loadName_cell I.ok.kind hk hc JW fin) hd
  .exact wpAny_Name (wpAny_loadName_free I.ok.kind hk hc JW fin AG) hd
theorem ae{i j pos}:PE X (.Constant (.int i) j pos) (tC (.int i)):=λ_ _ _ H _ I h=>wpAny_Constant_int ⟨.int i,H,I.tok _,⟨_,Z⟩,h⟩
theorem oM{b j pos}:PE X (.Constant (.bool b) j pos) (tC (.bl b)):=λ_ _ _ H _ I h=>Constant_bool ⟨.bl b,H,I,Z,h⟩
theorem eU{j pos}:PE X (.Constant .none j pos) (tC .bV):=λ_ _ _ H _ I h=>Constant_none ⟨.bV,H,I,Z,h⟩
theorem ax{x j pos}:PE X (.Constant (.str x) j pos) (tC (.str x)):=λ_ _ _ H _ I h=>Calls.Constant_str ⟨.str x,H,I.tok _,⟨_,Z⟩,h⟩
def Gl(X:Cx)(x:Str):Prop:=X.env.kindOf x=some .globalImplicit
theorem mh{E:V'}{ad:aR}{s:X'}{σ:St}{H:Hp}{x:Str}{u:W'}{pos:Pos}{Q:V'}(I:Inv X ad σ H s)(hg:Gl X x)(hm:X.mg x=some u)(h:Q u s)
 (hd:(x==("__debug__" :Str))=false:=by decide):wpAny (model X.prog X.w) X.A (eval (.Name x pos) X.env) Q E s:=
 Calls.Name_function_global I.ok.kind hg (Calls.loadGlobal_global (by rw[I.ok.glob];exact I.mod.glob.keeps I.bk) hm h) hd
theorem nB{E:V'}{ad:aR}{s:X'}{σ:St}{H:Hp}{x:Str}{u:W'}{pos:Pos}{Q:V'}(I:Inv X ad σ H s)(hg:Gl X x)(hm:X.mg x=none)(hv:bootBuiltins x=some u)(h:Q u s)
 (hn:x≠ "__name__":=by decide) (hd:(x==("__debug__" :Str))=false:=by decide):wpAny (model X.prog X.w) X.A (eval (.Name x pos) X.env) Q E s:=by
 obtain⟨mb,h1,h2⟩:=I.mod.blt;exact Calls.Name_function_global I.ok.kind hg (Calls.loadGlobal_builtin (by rw[I.ok.glob];exact I.mod.glob.keeps I.bk) hm (by rw[I.ok.blt];exact h1.keeps I.bk) ((h2 x hn).trans hv) h) hd
theorem c8{x:Str}{v:V}{u:W'}{pos:Pos}(hg:Gl X x)(hm:X.mg x=some u)(r:RelV v u)(hd:(x==("__debug__" :Str))=false:=by decide):PE X (.Name x pos) (tC v):=
 λ_ _ _ H _ I h=>mh I hg hm ⟨v,H,I,r,h⟩ hd
theorem lW{x:Str}{v:V}{u:W'}{pos:Pos}(hg:Gl X x)(hm:X.mg x=none)(hv:bootBuiltins x=some u)(r:RelV v u)(hn:x≠ "__name__":=by decide)(hd:(x==("__debug__" :Str))=false:=by decide):PE X (.Name x pos) (tC v):=
 λ_ _ _ H _ I h=>nB I hg hm hv ⟨v,H,I,r,h⟩ hn hd
variable{a b:aaa}{ta tb:TE}{pos:Pos}
def PC(X:Cx)(op:CmpOp)(a b:aaa)(t:TE):Prop:=
 ∀(ad:aR) (s:X') (σ:St) (H:Hp) (Q:VK),Inv X ad σ H s->t σ H Q->
  wpAny (model X.prog X.w) X.A (eval a X.env) (λv bP=>wpAny (model X.prog X.w) X.A (eval b X.env) (λu tU=>wpAny (model X.prog X.w) X.A (compareOp op v u) (EP X ad σ Q) X.xe tU) X.xe bP) X.xe s
def tB(t:TE):TT:=λσ H Q=>t σ H λx H1=>∃c,x= .bl c/\Q c H1
theorem NN{op:CmpOp}{t:TE}(h:PC X op a b t)(h1:behindInMarks op b=false:=by first|exact aac _ (by decide) (by decide)|rfl):PT X (.Compare a [op] [b] pos) (tB t):=by
 intro ad s σ H Q I hw;refine wpAny_isTrue_Compare1 (cN (h ad s σ H _ I hw) λv s1 h1=>cN h1 λu s2 h2=>cN h2 λc s3 ⟨x,H1,I1,r1,q1⟩=> ?_) h1;obtain⟨d,rfl,q⟩:=q1;cases r1;exact kI ⟨H1,I1,q⟩
theorem gA{e:aaa}{t:TE}(h:PE X e t)(he:∀whole,isTrue e X.env whole=(do let v<-whole;standAt e.pos;holding [v] (truthy v)):=by intro _;rfl):PT X e (tB t):=by
 intro ad s σ H Q I hw;refine isTrue_plain (cN (h ad s σ H _ I hw) λv s1 ⟨x,H1,I1,r1,q1⟩=> ?_) (he _);obtain⟨d,rfl,q⟩:=q1;cases r1;exact kI ⟨H1,I1,q⟩
variable{tA tB' :TT}{rest:b_}
def afW(t u:TT):TT:=λσ H Q=>t σ H λc H1=>if c=true then u σ H1 Q else Q false H1
def tOr(t u:TT):TT:=λσ H Q=>t σ H λc H1=>if c=true then Q true H1 else u σ H1 Q
def afH(t:TT):TT:=λσ H Q=>t σ H λc H1=>Q (!c) H1
theorem ww(ha:PT X a tA):PW X (.BoolOp .And [a] pos) tA:=by
 intro wh ad s σ H Q I h;refine isTrue_and (cN (ha ad s σ H Q I h) λc s1 e=> ?_)
 cases c with
 |true=>exact isTrue_and_nil e
 |false=>exact e
theorem WF(ha:PT X a tA):PW X (.BoolOp .Or [a] pos) tA:=by
 intro wh ad s σ H Q I h;refine isTrue_or (cN (ha ad s σ H Q I h) λc s1 e=> ?_)
 cases c with
 |false=>exact isTrue_or_nil e
 |true=>exact e
theorem wv(ha:PT X a tA)(hb:PW X (.BoolOp .And (b::rest) pos) tB'):PW X (.BoolOp .And (a::b::rest) pos) (afW tA tB'):=by
 intro wh ad s σ H Q I h;refine isTrue_and (cN (ha ad s σ H _ I h) λc s1 ⟨H1,I1,q1⟩=> ?_)
 cases c with
 |true=>exact hb wh ad s1 σ H1 Q I1 q1
 |false=>exact⟨H1,I1,q1⟩
theorem WP(ha:PT X a tA)(hb:PW X (.BoolOp .Or (b::rest) pos) tB'):PW X (.BoolOp .Or (a::b::rest) pos) (tOr tA tB'):=by
 intro wh ad s σ H Q I h;refine isTrue_or (cN (ha ad s σ H _ I h) λc s1 ⟨H1,I1,q1⟩=> ?_)
 cases c with
 |true=>exact⟨H1,I1,q1⟩
 |false=>exact hb wh ad s1 σ H1 Q I1 q1
theorem lj(ha:PT X a tA):PT X (.UnaryOp .Not a pos) (afH tA):=by
 intro ad s σ H Q I h;exact isTrue_not (ha ad s σ H (λc H1=>Q (!c) H1) I h)
def UO(ta tb:TE):TE:=λσ H Q=>ta σ H λx H1=>∃c,x= .bl c/\if c=true then tb σ H1 Q else Q (.bl false) H1
def agx(ta tb:TE):TE:=λσ H Q=>ta σ H λx H1=>∃c,x= .bl c/\if c=true then Q (.bl true) H1 else tb σ H1 Q
def aaf(ta:TE):TE:=λσ H Q=>ta σ H λx H1=>∃c,x= .bl c/\Q (.bl (!c)) H1
theorem lr{op}{t:TE}(h:PE X a t):PE X (.BoolOp op [a] pos) t:=λad s σ H Q I hw=>BoolOp_one (h ad s σ H Q I hw)
theorem pM(ha:PE X a ta)(hb:PE X (.BoolOp .And (b::rest) pos) tb):PE X (.BoolOp .And (a::b::rest) pos) (UO ta tb):=by
 intro ad s σ H Q I h;refine BoolOp_and (cN (ha ad s σ H _ I h) λv s1 ⟨x,H1,I1,r1,q1⟩=> ?_);obtain⟨c,rfl,q1⟩:=q1;cases r1;refine kI ?_
 cases c with
 |true=>exact hb ad s1 σ H1 Q I1 q1
 |false=>exact⟨.bl false,H1,I1,Z,q1⟩
theorem ME(ha:PE X a ta)(hb:PE X (.BoolOp .Or (b::rest) pos) tb):PE X (.BoolOp .Or (a::b::rest) pos) (agx ta tb):=by
 intro ad s σ H Q I h;refine BoolOp_or (cN (ha ad s σ H _ I h) λv s1 ⟨x,H1,I1,r1,q1⟩=> ?_);obtain⟨c,rfl,q1⟩:=q1;cases r1;refine kI ?_
 cases c with
 |false=>exact hb ad s1 σ H1 Q I1 q1
 |true=>exact⟨.bl true,H1,I1,Z,q1⟩
theorem Wn(ha:PE X a ta):PE X (.UnaryOp .Not a pos) (aaf ta):=by
 intro ad s σ H Q I h;refine UnaryOp_ (cN (ha ad s σ H _ I h) λv s1 ⟨x,H1,I1,r1,q1⟩=> ?_);obtain⟨c,rfl,q1⟩:=q1;cases r1;exact not_of (kI ⟨.bl (!c),H1,I1,Z,q1⟩)
def tIf(t:TT)(ta tb:TE):TE:=λσ H Q=>t σ H λc H1=>if c=true then ta σ H1 Q else tb σ H1 Q
theorem kE{c:aaa}(hc:PT X c tA)(ha:PE X a ta)(hb:PE X b tb):PE X (.IfExp c a b pos) (tIf tA ta tb):=by
 intro ad s σ H Q I h;refine wpAny_IfExp (cN (hc ad s σ H _ I h) λd s1 ⟨H1,I1,q1⟩=> ?_)
 cases d with
 |true=>exact ha ad s1 σ H1 Q I1 q1
 |false=>exact hb ad s1 σ H1 Q I1 q1
def bq(K:Frag)(H:Hp)(a:Y')(xs:ak):Prop:=
 Rd H a (.lst xs)\/
  ∃(o:Obj) (its:Array W') (n:Nat),K.lookup a=some o/\o.cls= .type "list" /\o.dict=none/\o.data= .seq its n/\its.size<=sizeLine/\Vals xs its.toList
def bu(K:Frag)(H:Hp)(a:Y')(xs:ak):Prop:=
 Rd H a (.tup xs)\/
  ∃(o:Obj) (its:Array W') (n:Nat),K.lookup a=some o/\o.cls= .type "tuple" /\o.data= .seq its n/\its.size<=sizeLine/\Vals xs its.toList
noncomputable def af6:W'->Option V
 | .none=>some .bV
 | .bool b=>some (.bl b)
 | .int i _=>some (.int i)
 | .str x _=>some (.str x)
 | .bytes b _=>some (.Ki b)
 | .float b _=>some (.Y1 b)
 | .ref a=>some (.ref a)
 | .type n=>some (.ty n)
 |_=>none
theorem RelV.abs{x:V}{u:W'}(r:RelV x u):af6 u=some x:=by
 cases x with
 |bV=>cases r;rfl
 |bl _=>cases r;rfl
 |int _=>obtain⟨t,rfl⟩:=r;rfl
 |str _=>obtain⟨t,rfl⟩:=r;rfl
 |Ki _=>obtain⟨t,rfl⟩:=r;rfl
 |Y1 _=>obtain⟨t,rfl⟩:=r;rfl
 |ref _=>cases r;rfl
 |ty _=>cases r;rfl
theorem RelV.inj{x y:V}{u:W'}(r:RelV x u)(q:RelV y u):x=y:=fC (r.abs.symm.trans q.abs)
theorem Vals.inj:∀{xs ys:ak} {us:aE},Vals xs us->Vals ys us->xs=ys
 |_,_,_,.nil,.nil=>rfl
 |_,_,_,.cons r t,.cons r' t' =>by rw[r.inj r',Vals.inj t t']
section
variable{X:Cx}{ad:aR}{σ:St}{H:Hp}{s:X'}{a:Y'}{xs ys:ak}
theorem bq.of{K:Frag}(h:H a=some (.lst xs)):bq K H a xs:= .inl (.inl h)
theorem bu.of{K:Frag}(h:H a=some (.tup xs)):bu K H a xs:= .inl (.inl h)
theorem Inv.list(I:Inv X ad σ H s)(h:bq X.K H a xs):∃its:aE,Vals xs its/\PlainL s.heap a its.toArray/\xs.length<=sizeLine:=by
 rcases h with h|⟨o,its,n,hk,hc,hd,hs,hz,r⟩
 .obtain⟨z,its,n,r,e⟩:=h.ok I.bM;exact⟨its,r,⟨_,n,e,Z,Z,Z⟩,z⟩
 .refine⟨its.toList,r,⟨o,n,I.kZ a o hk,hc,hd,by simpa using hs⟩,?_⟩;have e:=r.length;simp only[vP] at e;omega
theorem Inv.tuple(I:Inv X ad σ H s)(h:bu X.K H a xs):∃its:aE,Vals xs its/\IsTup s.heap a its.toArray/\xs.length<=sizeLine:=by
 rcases h with h|⟨o,its,n,hk,hc,hs,hz,r⟩
 .obtain⟨z,its,r,p⟩:=h.ok I.bM;exact⟨its,r,p,z⟩
 .refine⟨its.toList,r,⟨o,I.kZ a o hk,hc,n,by simpa using hs⟩,?_⟩;have e:=r.length;simp only[vP] at e;omega
theorem Inv.uC(I:Inv X ad σ H s)(h:bq X.K H a xs)(h' :bq X.K H a ys):xs=ys:=by
 obtain⟨its,r,⟨o,n,e,_,_,d⟩,_⟩:=I.list h;obtain⟨its',r',⟨o',n',e',_,_,d'⟩,_⟩:=I.list h';rw[e] at e';cases e'
 rw[d] at d';injection d' with d1 _;have:its=its' :=by simpa using congrArg Array.toList d1
 subst this;exact r.inj r'
theorem Inv.Lb(I:Inv X ad σ H s)(h:bu X.K H a xs)(h' :bu X.K H a ys):xs=ys:=by
 obtain⟨its,r,⟨o,e,_,n,d⟩,_⟩:=I.tuple h;obtain⟨its',r',⟨o',e',_,n',d'⟩,_⟩:=I.tuple h';rw[e] at e';cases e'
 rw[d] at d';injection d' with d1 _;have:its=its' :=by simpa using congrArg Array.toList d1
 subst this;exact r.inj r'
end
noncomputable abbrev Cx.Cf(X:Cx)(E:V'):Cx:={X with xe:=E}
noncomputable abbrev Cx.Mt(X:Cx):Cx:=X.Cf λ_ _=>False
theorem Cx.Ok.Cf{X:Cx}(ok:X.Ok)(E:V'):(X.Cf E).Ok:=
 ⟨ok.mod,ok.kind,ok.glob,ok.blt,ok.above,ok.inj,ok.has,ok.Vw,ok.hd,ok.frames,ok.Qd,ok.exf,ok.bs,ok.LF,ok.Ik,ok.Ma,ok.rR,ok.P8⟩
theorem Cx.Ok.pF{X:Cx}{E:V'}(ok:(X.Cf E).Ok):X.Ok:=
 ⟨ok.mod,ok.kind,ok.glob,ok.blt,ok.above,ok.inj,ok.has,ok.Vw,ok.hd,ok.frames,ok.Qd,ok.exf,ok.bs,ok.LF,ok.Ik,ok.Ma,ok.rR,ok.P8⟩
section
variable{X:Cx}{ad:aR}{σ:St}{H:Hp}{s:X'}{E:V'}
theorem Inv.Cf(I:Inv X ad σ H s)(E:V'):Inv (X.Cf E) ad σ H s:=⟨I.ok.Cf E,I.os,I.bare,I.base,I.loc,I.cell,I.free,I.jA,I.pin,I.bM,I.len⟩
theorem Inv.pF(I:Inv (X.Cf E) ad σ H s):Inv X ad σ H s:=⟨I.ok.pF,I.os,I.bare,I.base,I.loc,I.cell,I.free,I.jA,I.pin,I.bM,I.len⟩
theorem SP.pF{D:Ends}{f:Flow}{s' :X'}(h:SP (X.Cf E) ad D f s'):SP X ad D f s' :=by
 cases f with
 |next=>obtain⟨eO,H',I,q⟩:=h;exact⟨eO,H',I.pF,q⟩
 |brk=>obtain⟨eO,H',I,q⟩:=h;exact⟨eO,H',I.pF,q⟩
 |cont=>obtain⟨eO,H',I,q⟩:=h;exact⟨eO,H',I.pF,q⟩
 |ret u=>obtain⟨v,eO,H',I,r,q⟩:=h;exact⟨v,eO,H',I.pF,r,q⟩
theorem DE.Mt{st:List Stmt}{t:TS}(h:DE X.Mt st t):DE X st t:=λad s σ H D I hw=>
 fM (h ad s σ H D (I.Cf _) hw) (λ_ _ q=>q.pF) λ_ _ z=>False.elim z
end
section
variable{X:Cx}{st:Stmt}{rest:List Stmt}{t u:TS}{e:aaa}{te:TE}{pos:Pos}
def NG:TS:=λD σ H=>D.nx σ H
def QL(t u:TS):TS:=λD σ H=>t {D with nx:=u D} σ H
theorem aK:DE X [] NG:=λ_ _ σ H _ I h=>y_ ⟨σ,H,I,h⟩
theorem af(h1:PS X st t)(h2:DE X rest u):DE X (st::rest) (QL t u):=by
 intro ad s σ H D I h;refine wpAny_execs_cons (cN (h1 ad s σ H {D with nx:=u D} I h) λf s1 q=> ?_)
 cases f with
 |next=>
  obtain⟨eO,H',I',q⟩:=q;exact h2 ad s1 eO H' D I' q
 |ret v=>exact q
 |brk=>exact q
 |cont=>exact q
theorem ah(h1:PS X st t):DE X [st] t:=by
 intro ad s σ H D I h;refine wpAny_execs_cons (cN (h1 ad s σ H D I h) λf s1 q=> ?_)
 cases f with
 |next=>exact y_ q
 |ret v=>exact q
 |brk=>exact q
 |cont=>exact q
theorem Inv.quiet{ad:aR}{σ:St}{H:Hp}{s:X'}(I:Inv X ad σ H s):interactive X.env=false:=by simp[interactive,I.ok.kind]
def aaJ(te:TE):TS:=λD σ H=>te σ H λ_ H1=>D.nx σ H1
theorem bj(he:PE X e te)(hs:swapsWith e none pos.line X.env=pure false:=by rfl):PS X (.Expr e pos) (aaJ te):=by
 intro ad s σ H D I h;exact wpAny_Expr_any (cN (he ad s σ H _ I h) λv s1 ⟨x,H1,I1,r1,q1⟩=>⟨σ,H1,I1,q1⟩) I.quiet hs
def YH(te:TE):TS:=λD σ H=>te σ H D.rt
theorem aB(he:PE X e te):PS X (.Return (some e) pos) (YH te):=by
 intro ad s σ H D I h;exact wpAny_Return_some (cN (he ad s σ H _ I h) λv s1 ⟨x,H1,I1,r1,q1⟩=>⟨x,σ,H1,I1,r1,q1⟩)
def XT(c:TT)(t u:TS):TS:=λD σ H=>c σ H λb H1=>if b=true then t D σ H1 else u D σ H1
theorem a_{c:aaa}{a b:List Stmt}{tc:TT}(hc:PT X c tc)(ha:DE X a t)(hb:DE X b u):PS X (.If c a b pos) (XT tc t u):=by
 intro ad s σ H D I h;refine wpAny_If (cN (hc ad s σ H _ I h) λd s1 ⟨H1,I1,q1⟩=> ?_)
 cases d with
 |true=>exact ha ad s1 σ H1 D I1 q1
 |false=>exact hb ad s1 σ H1 D I1 q1
def YG:TS:=λ_ _ _=>False
theorem vC:PS X st YG:=λ_ _ _ _ _ _ h=>h.elim
end
abbrev TG:=V->St->Hp->(St->Hp->Prop)->Prop
abbrev Uy:=ak->St->Hp->(St->Hp->Prop)->Prop
def PG(X:Cx)(target:aaa)(t:TG):Prop:=
 ∀(ad:aR) (s:X') (σ:St) (H:Hp) (v:V) (u:W') (Q:St->Hp->Prop),Inv X ad σ H s->RelV v u->t v σ H Q->
  wpAny (model X.prog X.w) X.A (assign target X.env u) (λ_ s' =>∃eO H',Inv X ad eO H' s'/\Q eO H') X.xe s
def PGs(X:Cx)(ts:b_)(t:Uy):Prop:=
 ∀(ad:aR) (s:X') (σ:St) (H:Hp) (vs:ak) (us:aE) (Q:St->Hp->Prop),Inv X ad σ H s->Vals vs us->t vs σ H Q->
  wpAny (model X.prog X.w) X.A (assignInOrder ((assignEach ts X.env).map (·.2)) us) (λ_ s' =>∃eO H',Inv X ad eO H' s'/\Q eO H') X.xe s
abbrev Yz:=V->V->V->Hp->(Hp->Prop)->Prop
def ZV(X:Cx)(t:Yz):Prop:=
 ∀(ad:aR) (s:X') (σ:St) (H:Hp) (o i v:V) (ov iv u:W') (Q:Hp->Prop),Inv X ad σ H s->RelV o ov->RelV i iv->RelV v u->t o i v H Q->
  wpAny (model X.prog X.w) X.A (setItem ov iv u) (λ_ s' =>∃H',Inv X ad σ H' s'/\Q H') X.xe s
abbrev TIp:=V->V->Hp->VK->Prop
def PIp(X:Cx)(op:Operator)(t:TIp):Prop:=
 ∀(ad:aR) (s:X') (σ:St) (H:Hp) (x y:V) (v u:W') (Q:VK),Inv X ad σ H s->RelV x v->RelV y u->t x y H Q->
  wpAny (model X.prog X.w) X.A (inplaceOp op v u) (EP X ad σ Q) X.xe s
section
variable{X:Cx}{pos:Pos}
def yg(i:Nat):TG:=λv σ H Q=>Q (σ.set i (some v)) H
theorem RV{i:Nat}{x:Str}(hN:X.N.Nodup)(hi:X.N[i]? =some x)(hx:Loc X.env.scope x)(hf:X.fn x=true\/X.env.scope.names.lookup x=some .local:=by first|exact .inl rfl|exact .inr rfl|assumption):PG X (.Name x pos) (yg i):=by
 intro ad s σ H v u Q I r h;exact wpAny_assign_Name (m6 I hN hi hx r (λs' I' =>⟨_,H,I',h⟩) hf)
def afS:Uy:=λvs σ H Q=>vs=[]/\Q σ H
def acs(t:TG)(u:Uy):Uy:=λvs σ H Q=>∃v r,vs=v::r/\t v σ H λeO H' =>u r eO H' Q
theorem iq:PGs X [] afS:=by
 intro ad s σ H vs us Q I r h;obtain⟨e,h⟩:=h;subst e;cases r;exact assignInOrder_nil ⟨σ,H,I,h⟩
theorem bJ{e:aaa}{es:b_}{t:TG}{u:Uy}(h1:PG X e t)(h2:PGs X es u)
 (hs:(assignEach (e::es) X.env).map (·.2)=assign e X.env::(assignEach es X.env).map (·.2):=by rfl):PGs X (e::es) (acs t u):=by
 intro ad s σ H vs us Q I r h;obtain⟨v,vr,e1,h⟩:=h;subst e1
 cases r with
 |cons r rr=>
  rw[hs];refine assignInOrder_cons (cN (h1 ad s σ H _ _ _ I r h) λ_ s1 ⟨σ1,H1,I1,q1⟩=> ?_);exact h2 ad s1 σ1 H1 _ _ Q I1 rr q1
def aaZ(K:Frag)(n:Nat)(t:Uy):TG:=λv σ H Q=>∃a xs,v= .ref a/\bu K H a xs/\xs.length=n/\t xs σ H Q
theorem nu{es:b_}{k:Nat}{t:Uy}{n:Nat}(hc:X.calm=true)(h:PGs X es t)
 (hn:(assignEach es X.env).length=n:=by rfl) (pj:(assignEach es X.env).findIdx? (·.1)=none:=by rfl):PG X (.Tuple es k pos) (aaZ X.K n t):=by
 intro ad s σ H v u Q I r hw;obtain⟨a,xs,e1,hq,hl,hw⟩:=hw;subst e1;cases r;obtain⟨its,rv,ht,hz⟩:=I.tuple hq;refine assign_Tuple_tuple (I.ok.hd hc) ht (by simp[hn,<-hl,rv.length]) pj λh' hx=> ?_;have I1:Inv X ad σ H {s with heap:=h'}:=I.kept (t' :=s.toks) λb o e=>hx b o (bY (aX e)) e;exact h ad _ σ H xs _ Q I1 (by simpa using rv) hw
def afh(to ti:TE)(t:Yz):TG:=λv σ H Q=>to σ H λo H1=>ti σ H1 λi H2=>t o i v H2 λH3=>Q σ H3
theorem Jy{o i:aaa}{to ti:TE}{t:Yz}(ho:PE X o to)(hi:PE X i ti)(hs:ZV X t)
 (ha:∀v,assign (.Subscript o i pos) X.env v=(do
  let ov<-holding [v] (eval o X.env)
  let iv<-holding [v,ov] (eval i X.env)
  standAt pos
  holding [v,ov,iv] (setItem ov iv v)
  release [v,ov,iv] []):=by intro _;rfl):PG X (.Subscript o i pos) (afh to ti t):=by
 intro ad s σ H v u Q I r h;rw[ha];refine av (jF (cN (ho ad s σ H _ I h) λov s1 ⟨x,H1,I1,r1,q1⟩=> ?_));refine av (jF (cN (hi ad s1 σ H1 _ I1 q1) λiv s2 ⟨y,H2,I2,r2,q2⟩=> ?_));refine av (qq (av (jF (cN (hs ad s2 σ H2 x y v ov iv u _ I2 r1 r2 r q2) λ_ s3 ⟨H3,I3,q3⟩=> ?_))));exact wpAny_release ⟨σ,H3,I3,q3⟩
def Md(te:TE)(g:TG):TS:=λD σ H=>te σ H λx H1=>g x σ H1 D.nx
theorem Fz{tg e:aaa}{te:TE}{g:TG}(he:PE X e te)(hg:PG X tg g)(hs:swapsWithSole [tg] e pos.line X.env=pure false:=by rfl)(hw:swappedStores [tg] e X.env=pure none:=by rfl)
 (h1:(assignEach [tg] X.env).map (·.2)=[assign tg X.env]:=by rfl):PS X (.Assign [tg] e pos) (Md te g):=by
 intro ad s σ H D I h;refine wpAny_Assign_stores (cN (he ad s σ H _ I h) λv s1 ⟨x,H1,I1,r1,q1⟩=> ?_) hs hw;rw[h1];exact cN (hg ad s1 σ H1 x v _ I1 r1 q1) λ_ s2 q=>q
theorem Pn{i:Nat}{x:Str}{e:aaa}{te:TE}{pos' :Pos}(hN:X.N.Nodup)(hi:X.N[i]? =some x)(hx:Loc X.env.scope x)(he:PE X e te)(hs:swapsWith e (some (.Name x pos')) pos.line X.env=pure false:=by rfl)(hf:X.fn x=true\/X.env.scope.names.lookup x=some .local:=by first|exact .inl rfl|exact .inr rfl|assumption):
 PS X (.Assign [.Name x pos'] e pos) (Md te (yg i)):=by
 intro ad s σ H D I h;refine wpAny_Assign_Name (cN (he ad s σ H _ I h) λv s1 ⟨y,H1,I1,r1,q1⟩=> ?_) hs;exact m6 I1 hN hi hx r1 (λs2 I2=>⟨_,H1,I2,q1⟩) hf
def agT(i j:Nat)(ta:TA):TS:=λD σ H=>ta σ H λvs H1=>∃v w,vs=[v,w]/\D.nx ((σ.set i (some v)).set j (some w)) H1
theorem Nm{i j:Nat}{x y:Str}{a b:aaa}{ta:TA}{px py pt:Pos}{kt k2 pt2}(hc:X.calm=true)(hN:X.N.Nodup)(hi:X.N[i]? =some x)(hj:X.N[j]? =some y)(hij:i≠j)
 (hx:X.env.scope.names.lookup x=some .local) (hy:X.env.scope.names.lookup y=some .local) (ha:PA X [a,b] ta)
 (hw:swappedStores [.Tuple [.Name x px,.Name y py] kt pt] (.Tuple [a,b] k2 pt2) X.env=pure (some [x,y]))
 (hs:swapsWithSole [.Tuple [.Name x px,.Name y py] kt pt] (.Tuple [a,b] k2 pt2) pos.line X.env=pure false:=by rfl):
 PS X (.Assign [.Tuple [.Name x px,.Name y py] kt pt] (.Tuple [a,b] k2 pt2) pos) (agT i j ta):=by
 intro ad s σ H D I h;rw[exec_Assign_arm];refine av (qq ?_);rw[hs];refine av (aW ?_);rw[aq (by decide)];refine av (Tuple_ (cN (ha _ ad s σ H _ I h) λus s1 ⟨vs,H1,I1,r1,q1⟩=> ?_));obtain⟨v,w,e1,q1⟩:=q1;subst e1
 obtain⟨u1,u2,rfl,rv,M5⟩:∃u1 u2,us=[u1,u2]/\RelV v u1/\RelV w u2:=by
  cases r1 with
  |cons p q=>
   cases q with
   |cons p' q' =>
    cases q';exact⟨_,_,Z,p,p'⟩
 refine nX ?_ (by show 2<=sizeLine;decide);have I2:Inv X ad σ H1 {s1 with heap:=s1.heap.push {cls:= .type "tuple",data:= .seq [u1,u2].toArray}}:=I1.kept (t' :=s1.toks) λb o e=>bg _ e;rw[hw];refine av (aW ?_);show wpAny (model X.prog X.w) X.A (do rule "assign.swapped-stores";let items<-unpackItems (.ref s1.heap.objs.size) 2 none;assignInOrder [λv=>bindName X.env y v,λv=>bindName X.env x v] items.reverse;pure Flow.next) _ _ _;refine av (qE (av (unpackItems_tuple (items:= #[u1,u2]) (I.ok.hd hc) (IsTup.new s1.heap _) λh' hx' => ?_)));have I3:=I2.kept (h' :=h') (t' :=s1.toks) λb o e=>hx' b o (bY (aX e)) e;show wpAny _ _ (assignInOrder [λv=>bindName X.env y v,λv=>bindName X.env x v] [u2,u1]>>= λ_=>pure Flow.next) _ _ _;refine av (assignInOrder_cons (wpAny_bindName (m6 I3 hN hj (.inl hy) M5 (λs2 I4=> ?_) (.inr hy))));refine assignInOrder_cons (wpAny_bindName (m6 I4 hN hi (.inl hx) rv (λs3 I5=>assignInOrder_nil (aW ?_)) (.inr hx)));rw[List.set_comm _ _ (b7 hij)] at I5;exact⟨_,H1,I5,q1⟩
def aeV(i:Nat)(te:TE)(ti:TIp):TS:=λD σ H=>∃x,σ[i]? =some (some x)/\te σ H λy H1=>ti x y H1 λz H2=>D.nx (σ.set i (some z)) H2
theorem JA{i:Nat}{x:Str}{e:aaa}{te:TE}{op:Operator}{ti:TIp}{pos' :Pos}(hN:X.N.Nodup)(hi:X.N[i]? =some x)(hx:Loc X.env.scope x)(he:PE X e te)(ho:PIp X op ti)(hf:X.fn x=true\/X.env.scope.names.lookup x=some .local:=by first|exact .inl rfl|exact .inr rfl|assumption):
 PS X (.AugAssign (.Name x pos') op e pos) (aeV i te ti):=by
 intro ad s σ H D I h;obtain⟨v,e1,h⟩:=h;obtain⟨m,hn,hl⟩:=I.loc
 have vis:Vis X.env.scope x:=by rcases hx with k|k;exact .inl k;exact .inr (.inl k)
 obtain⟨u,r,l⟩:=hl i x v hi e1 vis;refine wpAny_AugAssign_Name ?_
 have go:wpAny (model X.prog X.w) X.A (eval e X.env) (λw tU=>wpAny (model X.prog X.w) X.A (inplaceOp op u w) (λr yW=>wpAny (model X.prog X.w) X.A (storeName X.env x r) (λ_=>SP X ad D .next) X.xe yW) X.xe tU) X.xe s:=by
  refine cN (he ad s σ H _ I h) λw s1 ⟨y,H1,I1,r1,q1⟩=> ?_;refine cN (ho ad s1 σ H1 v y u w _ I1 r r1 q1) λz s2 ⟨zv,H2,I2,r2,q2⟩=> ?_;exact m6 I2 hN hi hx r2 (λs3 I3=>⟨_,H2,I3,q2⟩) hf
 rcases l with⟨hk,hm⟩|⟨hk,c,hc,JW⟩
 .exact wpAny_loadName_local I.ok.kind hk hn hm go
 .rcases hk with hk|hk
  .exact wpAny_loadName_cell I.ok.kind hk hc JW go
  .rcases hx with k|k
   .have:X.env.scope.names.lookup x=some .free:=hk;rw[k] at this;cases this
   .have:X.env.scope.names.lookup x=some .free:=hk;rw[k] at this;cases this
def ipI(f:Int->Int->Int):TIp:=λx y H Q=>∃i j,x= .int i/\y= .int j/\Q (.int (f i j)) H
theorem Jd:PIp X .Add (ipI λi j=>i+j):=by
 intro ad s σ H x y v u Q I r1 r2 h;obtain⟨i,j,e1,e2,q⟩:=h;subst e1;subst e2
 obtain⟨t,rfl⟩:=r1;obtain⟨t',rfl⟩:=r2;exact iadd_int ⟨.int _,H,I.tok _,⟨_,Z⟩,q⟩
end
section
variable{X:Cx}{pos:Pos}
end
structure It where
 go:Nat->Hp->Prop
 zS:Nat->Hp->V->Hp->Prop
 stop:Nat->Hp->Prop
def yM(X:Cx)(ad:aR)(H:Hp)(b:Y'):Prop:=
 H b=none/\b≠X.env.locals/\b∉X.fs/\(b∈X.ex\/X.fG.heap.objs.size<=b)/\(∀x c,X.env.cells.lookup x=some c->c≠b)/\∀p∈X.pn++ad,p.1≠b
theorem Inv.Ci{X:Cx}{ad:aR}{σ:St}{H H' :Hp}{s:X'}{b:Y'}(I:Inv X ad σ H s)(hb:s.heap.objs.size<=b)(hn:H' b=none):yM X ad H' b:=by
 refine⟨hn,gX (cq I.lt hb),I.af_ hb,.inr (aL I.sz hb),λx c e z=> ?_,λp hp z=> ?_⟩
 .obtain⟨v,q⟩:=I.cell x c e;exact absurd (cq q.lt (by rw[z];exact hb)) (cn _)
 .exact absurd (cq (aX (I.pin p hp).1) (by rw[z];exact hb)) (cn _)
structure Turn(P:aan)(w:aai)(K:Frag)(tg:aaa)(J:It)(fp:bh)(it:Y')(tn:Nat->aam->Prop):Prop where
 mem:it∈fp
 obj:∀i h,tn i h->∀b∈fp,∃o,h.get? b=some o/\∀v,o.data≠.cell v
 keep:∀i h h',tn i h->(∀b∈fp,∀o,h.get? b=some o->h'.get? b=some o)->tn i h'
 item:∀(X:Cx),X.prog=P->X.w=w->X.K=K->X.calm=true->∀(i:Nat) (ad:aR) (s:X') (σ:St) (H:Hp) (E:V'),Inv X ad σ H s->(∀b∈fp,yM X ad H b)->tn i s.heap->J.go i H->
  wpAny (model P w) X.A (pyNext (.ref it)) (λr s1=>∃u,r=some u/\
   wpAny (model P w) X.A (letOwnedTupleGo tg (.ref it) u) (λ_ s2=>∃x H',Inv X ad σ H' s2/\RelV x u/\J.zS i H x H'/\tn (i+1) s2.heap/\∀b∈fp,H' b=none) E s1) E s
 done:∀(X:Cx),X.prog=P->X.w=w->X.K=K->X.calm=true->∀(i:Nat) (ad:aR) (s:X') (σ:St) (H:Hp) (E:V'),Inv X ad σ H s->(∀b∈fp,yM X ad H b)->tn i s.heap->J.stop i H->
  wpAny (model P w) X.A (pyNext (.ref it)) (λr s1=>r=none/\Inv X ad σ H s1) E s
 self:∀(A:aal) (i:Nat) (s:X') (Q:V') (E:V'),tn i s.heap->Q (.ref it) s->wpAny (model P w) A (pyIter (.ref it)) Q E s
abbrev TI:=St->Hp->(It->Hp->Prop)->Prop
def PIE(X:Cx)(ad:aR)(σ:St)(tg:aaa)(R:It->Hp->Prop)(itv:W')(s2:X'):Prop:=
 ∃(it:Y') (fp:bh) (tn:Nat->aam->Prop) (J:It) (H' :Hp),itv= .ref it/\Inv X ad σ H' s2/\Turn X.prog X.w X.K tg J fp it tn/\tn 0 s2.heap/\(∀b∈fp,yM X ad H' b)/\R J H'
def PI(X:Cx)(tg iter:aaa)(wi:TI):Prop:=
 ∀(ad:aR) (s:X') (σ:St) (H:Hp) (R:It->Hp->Prop),Inv X ad σ H s->wi σ H R->
  wpAny (model X.prog X.w) X.A (eval iter X.env) (λv s1=>wpAny (model X.prog X.w) X.A (pyIter v) (PIE X ad σ tg R) X.xe s1) X.xe s
theorem MQ{M:Model}{A:aal}{E:V'}{s:X'}{tg:aaa}{it:Y'}{u:W'}{o:Obj}{n:String}{vs:Array W'}{Q:Unit->X'->Prop}(ho:s.heap.get? it=some o)(hc:o.cls= .type n)(hd:o.data= .fields vs)
 (hn:["enumerate","zip","dict_itemiterator","dict_reverseitemiterator","odict_iterator","itertools.zip_longest","itertools.pairwise"].contains n=false) (hQ:Q () s):wpAny M A (letOwnedTupleGo tg (.ref it) u) Q E s:=by
 unfold letOwnedTupleGo
 cases tg<;>first
  |exact aW hQ
  |(cases u<;>first
   |exact aW hQ
   |(refine av (wpAny_load ho ?_)
     rw[hc,hd];show wpAny M A (if(["enumerate","zip","dict_itemiterator","dict_reverseitemiterator","odict_iterator","itertools.zip_longest","itertools.pairwise"].contains n&&vs[0]? ==some (rawInt _))=true then _ else _) Q E s;rw[aq (by intro h;rw[hn,Bool.false_and] at h;cases h)];exact aW hQ))
noncomputable def YC(K:Frag)(a:Y'):It:=
 ⟨λi H=>∃xs x,bq K H a xs/\xs[i]? =some x,λi H x H' =>H' =H/\∀xs,bq K H a xs->xs[i]? =some x,λi H=>∃xs,bq K H a xs/\xs.length<=i⟩
noncomputable def Wk(K:Frag)(a:Y'):It:=
 ⟨λi H=>∃xs x,bu K H a xs/\xs[i]? =some x,λi H x H' =>H' =H/\∀xs,bu K H a xs->xs[i]? =some x,λi H=>∃xs,bu K H a xs/\xs.length<=i⟩
noncomputable def YI(lo:Int)(n:Nat):It:=⟨λi _=>i<n,λi H x H' =>H' =H/\x= .int (lo+i),λi _=>n<=i⟩
theorem DB{P:aan}{w:aai}{K:Frag}{tg:aaa}(a it:Y'):Turn P w K tg (YC K a) [it] it (λi h=>h.IsListIter it a i) where
 mem:=by simp
 obj:=λi h st b hb=>by
  have e:b=it:=by simpa using hb
  subst e;obtain⟨o,e,c,d⟩:=st;exact⟨o,e,λv z=>by rw[d] at z;cases z⟩
 keep:=λi h h' st k=>st.at λo e=>k it (by simp) o e
 item:=by
  intro X hP hw hK hc i ad s σ H E I hf st hg;subst hP hw hK;obtain⟨xs,x,hq,hx⟩:=hg;obtain⟨its,rv,p,hz⟩:=I.list hq;obtain⟨u,hu,ru⟩:=rv.get hx;obtain⟨f0,f1,f2,f3,f4,f5⟩:=hf it (by simp);refine wpAny_pyNext_list_item st p.isList (x:=u) (by simpa using hu) λh' P_ sb=> ?_;have I1:Inv X ad σ H {s with heap:=h'}:=I.turned (t' :=s.toks) (λb o hb e=>(sb.2 b hb).trans e) f0 f1 f3 f4 f5;obtain⟨o,e,c,d⟩:=id P_;exact⟨u,Z,MQ (s:={s with heap:=h'}) e c d (by decide) ⟨x,H,I1,ru,⟨Z,λys hy=>by rw[I.uC hy hq];exact hx⟩,P_,λb hb=>(hf b hb).1⟩⟩
 done:=by
  intro X hP hw hK hc i ad s σ H E I hf st hg;subst hP hw hK;obtain⟨xs,hq,hx⟩:=hg;obtain⟨its,rv,p,hz⟩:=I.list hq;obtain⟨f0,f1,f2,f3,f4,f5⟩:=hf it (by simp);have hl:=rv.length;exact wpAny_pyNext_list_end (I.ok.hd hc) st p.isList (by simp;omega) λh' eb=>⟨Z,I.turned (t' :=s.toks) (λb o hb e=>eb b o hb e) f0 f1 f3 f4 f5⟩
 self:=λ_ _ _ _ _ st h=>wpAny_pyIter_listiter st h
theorem BG{P:aan}{w:aai}{K:Frag}{tg:aaa}(a it:Y'):Turn P w K tg (Wk K a) [it] it (λi h=>h.IsTupleIter it a i) where
 mem:=by simp
 obj:=λi h st b hb=>by
  have e:b=it:=by simpa using hb
  subst e;obtain⟨o,e,c,d⟩:=st;exact⟨o,e,λv z=>by rw[d] at z;cases z⟩
 keep:=λi h h' st k=>st.at λo e=>k it (by simp) o e
 item:=by
  intro X hP hw hK hc i ad s σ H E I hf st hg;subst hP hw hK;obtain⟨xs,x,hq,hx⟩:=hg;obtain⟨its,rv,p,hz⟩:=I.tuple hq;obtain⟨u,hu,ru⟩:=rv.get hx;obtain⟨f0,f1,f2,f3,f4,f5⟩:=hf it (by simp);refine wpAny_pyNext_tuple_item st (show s.heap.IsTuple a its.toArray from p) (x:=u) (by simpa using hu) λh' P_ sb=> ?_;have I1:Inv X ad σ H {s with heap:=h'}:=I.turned (t' :=s.toks) (λb o hb e=>(sb.2 b hb).trans e) f0 f1 f3 f4 f5;obtain⟨o,e,c,d⟩:=id P_;exact⟨u,Z,MQ (s:={s with heap:=h'}) e c d (by decide) ⟨x,H,I1,ru,⟨Z,λys hy=>by rw[I.Lb hy hq];exact hx⟩,P_,λb hb=>(hf b hb).1⟩⟩
 done:=by
  intro X hP hw hK hc i ad s σ H E I hf st hg;subst hP hw hK;obtain⟨xs,hq,hx⟩:=hg;obtain⟨its,rv,p,hz⟩:=I.tuple hq;obtain⟨f0,f1,f2,f3,f4,f5⟩:=hf it (by simp);have hl:=rv.length;exact wpAny_pyNext_tuple_end (I.ok.hd hc) st (show s.heap.IsTuple a its.toArray from p) (by simp;omega) λh' eb=>⟨Z,I.turned (t' :=s.toks) (λb o hb e=>eb b o hb e) f0 f1 f3 f4 f5⟩
 self:=λ_ _ _ _ _ st h=>wpAny_pyIter_tupleiter st h
theorem IB{P:aan}{w:aai}{K:Frag}{tg:aaa}(it:Y')(lo:Int)(n:Nat):Turn P w K tg (YI lo n) [it] it (λi h=>IsRangeIter h it (lo+(i:Nat)*1) ((n:Int) - (i:Nat)) 1) where
 mem:=by simp
 obj:=λi h st b hb=>by
  have e:b=it:=by simpa using hb
  subst e
  exact⟨_,st,λv z=>by
   have z' :Data.fields _=Data.cell v:=z;cases z'⟩
 keep:=λi h h' st k=>k it (by simp) _ st
 item:=by
  intro X hP hw hK hc i ad s σ H E I hf st hg;subst hP hw hK;obtain⟨f0,f1,f2,f3,f4,f5⟩:=hf it (by simp);have W:=Walks.range (prog:=X.prog) (w:=X.w) (I.ok.hd hc) it lo 1 n;refine W.item i s _ _ hg st λv h' tk hv P_ kk=> ?_;obtain⟨t,rfl⟩:=hv;have I1:Inv X ad σ H {s with heap:=h',toks:=tk}:=I.turned (λb o hb e=>kk b o (by simpa using hb) e) f0 f1 f3 f4 f5;refine⟨_,Z,MQ (s:={s with heap:=h',toks:=tk}) (n:="range_iterator") P_ Z Z (by decide) ⟨.int (lo+i),H,I1,⟨t,?_⟩,⟨Z,Z⟩,P_,λb hb=>(hf b hb).1⟩⟩;rw[Int.mul_one]
 done:=by
  intro X hP hw hK hc i ad s σ H E I hf st hg;subst hP hw hK;obtain⟨f0,f1,f2,f3,f4,f5⟩:=hf it (by simp);exact wpAny_pyNext_range_end (I.ok.hd hc) st (by have:n<=i:=hg;omega) λh' eb=>⟨Z,I.turned (t' :=s.toks) (λb o hb e=>eb b o hb e) f0 f1 f3 f4 f5⟩
 self:=λ_ _ _ _ _ st h=>wpAny_pyIter_rangeiter st h
section
variable{X:Cx}{tg:aaa}
def acn(K:Frag)(tl:TE):TI:=λσ H R=>tl σ H λx H1=>∃a,x= .ref a/\(∃xs,bq K H1 a xs)/\R (YC K a) H1
def ae1(K:Frag)(tl:TE):TI:=λσ H R=>tl σ H λx H1=>∃a,x= .ref a/\(∃xs,bu K H1 a xs)/\R (Wk K a) H1
theorem fb{l:aaa}{tl:TE}(hl:PE X l tl):PI X tg l (acn X.K tl):=by
 intro ad s σ H R I h;refine cN (hl ad s σ H _ I h) λv s1 ⟨x,H1,I1,r1,q1⟩=> ?_;obtain⟨a,e,⟨xs,hq⟩,q⟩:=q1;subst e;cases r1;obtain⟨its,rv,p,hz⟩:=I1.list hq;refine uG p.isList ?_;refine⟨s1.heap.objs.size,[s1.heap.objs.size],_,_,H1,Z,I1.kept (t' :=s1.toks) λb o e=>bg _ e,DB a _,⟨_,cK _ Z,Z,Z⟩,λb hb=> ?_,q⟩;have e:b=s1.heap.objs.size:=by simpa using hb
 subst e;exact I1.Ci (aJ _) (I1.bM.fresh (aJ _))
theorem wU{l:aaa}{tl:TE}(hl:PE X l tl):PI X tg l (ae1 X.K tl):=by
 intro ad s σ H R I h;refine cN (hl ad s σ H _ I h) λv s1 ⟨x,H1,I1,r1,q1⟩=> ?_;obtain⟨a,e,⟨xs,hq⟩,q⟩:=q1;subst e;cases r1;obtain⟨its,rv,p,hz⟩:=I1.tuple hq;refine zj (show s1.heap.IsTuple a its.toArray from p) ?_;refine⟨s1.heap.objs.size,[s1.heap.objs.size],_,_,H1,Z,I1.kept (t' :=s1.toks) λb o e=>bg _ e,BG a _,⟨_,cK _ Z,Z,Z⟩,λb hb=> ?_,q⟩;have e:b=s1.heap.objs.size:=by simpa using hb
 subst e;exact I1.Ci (aJ _) (I1.bM.fresh (aJ _))
theorem Nn{ad:aR}{σ:St}{H:Hp}{s:X'}{R:It->Hp->Prop}{E:V'}{lo hi:Int}{t u v:Tok}{tk:Nat}(I:Inv X ad σ H s)(h1: -(2 ^ 62)<=lo)(h2:lo<2 ^ 62)(h3: -(2 ^ 62)<=hi)(h4:hi<2 ^ 62)
 (q:R (YI lo (hi - lo).toNat) H):wpAny (model X.prog X.w) X.A (pyIter (.ref s.heap.objs.size)) (PIE X ad σ tg R) E {s with heap:=s.heap.push {cls:= .type "range",data:= .fields #[.int lo t,.int hi u,.int 1 v]},toks:=tk}:=by
 refine wpAny_pyIter_range (IsRange.new ..) (small_one h1 h2 h3 h4) ?_;have I1:Inv X ad σ H {s with heap:=s.heap.push {cls:= .type "range",data:= .fields #[.int lo t,.int hi u,.int 1 v]},toks:=tk}:=I.kept λb o e=>bg _ e
 refine⟨(s.heap.push {cls:= .type "range",data:= .fields #[.int lo t,.int hi u,.int 1 v]}).objs.size,[(s.heap.push {cls:= .type "range",data:= .fields #[.int lo t,.int hi u,.int 1 v]}).objs.size],_,_,H,Z,
  I1.kept (t' :=tk) λb o e=>bg _ e,IB _ lo (hi - lo).toNat,?_,λb hb=> ?_,q⟩
 .have e1:lo+((0:Nat):Int)*1=lo:=by simp
  have e2:(((hi - lo).toNat:Nat):Int) - ((0:Nat):Int)=Builtin.Range.rangeSize lo hi 1:=by rw[rangeSize_one];split<;>omega
  show IsRangeIter _ _ (lo+((0:Nat):Int)*1) ((((hi - lo).toNat:Nat):Int) - ((0:Nat):Int)) 1;rw[e1,e2];exact cK _ rfl
 .have e:b=(s.heap.push {cls:= .type "range",data:= .fields #[.int lo t,.int hi u,.int 1 v]}).objs.size:=by simpa using hb
  subst e;exact I1.Ci (aJ _) (I1.bM.fresh (aJ _))
def abz(ta:TA):TI:=λσ H R=>ta σ H λvs H1=>∃j:Int,vs=[.int j]/\ -(2 ^ 62)<=j/\j<2 ^ 62/\R (YI 0 j.toNat) H1
theorem h_{a:aaa}{ta:TA}{p pos:Pos}(hg:Gl X "range")(hm:X.mg "range"=none)(ha:PA X [a] ta)(hs:starEach [a] X.env=[(false,eval a X.env)]:=by rfl):PI X tg (.Call (.Name "range" p) [a] [] pos) (abz ta):=by
 intro ad s σ H R I h;refine Call_ (nB I hg hm boot_range (wF (cN (ha pos ad s σ H _ I h) λus s1 ⟨vs,H1,I1,r1,q1⟩=> ?_) hs Z));obtain⟨j,e,q1,q2,q⟩:=q1;subst e
 cases r1 with
 |cons r rr=>
  cases rr;obtain⟨t,rfl⟩:=r;exact call_range_1 (Nn I1 (by omega) (by omega) q1 q2 (by simpa using q))
def aaI(wi:TI)(g:TG)(tb:TS):TS:=λD σ H=>wi σ H λJ H1=>∃W:Nat->Nat->St->Hp->Prop,(∃m,W 0 m σ H1)/\∀i m σ H,W i m σ H->
 (J.stop i H/\D.nx σ H)\/(J.go i H/\∃N:St->Hp->Prop,(∀eO H',N eO H'->∃m',m' <m/\W (i+1) m' eO H')/\∀x H',J.zS i H x H'->g x σ H' λkn H2=>tb {D with nx:=N,ct:=N,bk:=D.nx} kn H2)
noncomputable def A5(fp:bh)(h:aam):aR:=fp.filterMap λb=>(h.get? b).map λo=>(b,o)
theorem nD{fp:bh}{h:aam}{b:Y'}{o:Obj}(hb:b∈fp)(e:h.get? b=some o):(b,o)∈A5 fp h:=uL.mpr ⟨b,hb,by rw[e];rfl⟩
theorem L1{fp:bh}{h:aam}{p:Y'×Obj}(hp:p∈A5 fp h):p.1∈fp/\h.get? p.1=some p.2:=by
 obtain⟨b,hb,e⟩:=uL.mp hp
 cases q:h.get? b with
 |none=>rw[q] at e;cases e
 |some o=>
  rw[q] at e;have e' :(b,o)=p:=fC e;subst e';exact⟨hb,q⟩
theorem Inv.pinned{ad:aR}{σ:St}{H:Hp}{s:X'}{fp:bh}(I:Inv X ad σ H s)(hf:∀b∈fp,yM X ad H b)(ho:∀b∈fp,∃o,s.heap.get? b=some o/\∀v,o.data≠.cell v):Inv X (ad++A5 fp s.heap) σ H s:=
 I.JM λp hp=>(cW.mp hp).elim (λz=>I.pin p (dP _ z)) λz=>by
  obtain⟨hb,e⟩:=L1 z;obtain⟨f0,f1,f2,_⟩:=hf p.1 hb;obtain⟨o,e',d⟩:=ho p.1 hb;rw[e] at e';cases e'
  exact⟨e,f0,f1,f2,d⟩
theorem Inv.uu{ad pl:aR}{σ:St}{H:Hp}{s:X'}(I:Inv X (ad++pl) σ H s):Inv X ad σ H s:=I.JM λp hp=>I.pin p (dP _ (eJ _ hp))
theorem Wr{iter:aaa}{body:List Stmt}{wi:TI}{g:TG}{tb:TS}{pos:Pos}(hp:PassesOwn (model X.prog X.w) X.A X.env X.xe)(hc:X.calm=true)(hi:PI X tg iter wi)(hg:PG X tg g)(hb:DE X body tb)
 (hs:∀x,foldedSetIterable iter X.env x=pure x:=by intro _;rfl):PS X (.For tg iter body [] pos) (aaI wi g tb):=by
 intro ad s σ H D I h;refine wpAny_For (cN (hi ad s σ H _ I h) λv s1 h1=>cN h1 λitv s2 h2=> ?_) hs;obtain⟨it,fp,tn,J,H2,e,I2,T,Q6,f2,W,⟨m0,w0⟩,turn⟩:=h2;subst e;have Jq:∀{H' :Hp},(∀b∈fp,H' b=none)->∀b∈fp,yM X ad H' b:=λhn b hb=>⟨hn b hb,(f2 b hb).2⟩;refine codeAny_forLoop_any (λn s' =>∃i eO H',Inv X ad eO H' s'/\tn i s'.heap/\(∀b∈fp,H' b=none)/\W i n eO H') ?_ m0 ⟨0,σ,H2,I2,Q6,λb hb=>(f2 b hb).1,w0⟩
 rintro n s3 ⟨i,σ3,H3,I3,st3,fr3,w3⟩
 rcases turn i n σ3 H3 w3 with⟨stop,qn⟩|⟨go,N,hN,step⟩
 .refine uY hp (cN (T.done X Z Z Z hc i ad s3 σ3 H3 X.xe I3 (Jq fr3) st3 stop) λr s4 ⟨hr,I4⟩=> ?_);subst hr;exact y_ ⟨σ3,H3,I4,qn⟩
 .refine uY hp (cN (T.item X Z Z Z hc i ad s3 σ3 H3 X.xe I3 (Jq fr3) st3 go) λr s4 ⟨u,hr,h4⟩=> ?_);subst hr;refine uY hp (cN h4 λ_ s5 ⟨x,H5,I5,r5,y5,Zo,fr5⟩=> ?_);have I5' :=I5.pinned (Jq fr5) (T.obj _ _ Zo);refine uY hp (cN (hg _ s5 σ3 H5 x u _ I5' r5 (step x H5 y5)) λ_ s6 ⟨σ6,H6,I6,q6⟩=> ?_);refine uY hp (cN (hb _ s6 σ6 H6 _ I6 q6) λf s7 q7=> ?_)
  have again:∀{NB:St} {H7:Hp},Inv X (ad++A5 fp s5.heap) NB H7 s7->N NB H7->∃m,m<n/\∃i eO H',Inv X ad eO H' s7/\tn i s7.heap/\(∀b∈fp,H' b=none)/\W i m eO H' :=λ{NB H7} I7 n7=>by
   obtain⟨m',hm,w7⟩:=hN NB H7 n7;refine⟨m',hm,i+1,NB,H7,I7.uu,T.keep _ _ _ Zo λb hb o e=>(I7.pin (b,o) (dP _ (dP _ (nD hb e)))).1,λb hb=> ?_,w7⟩;obtain⟨o,e,d⟩:=T.obj _ _ Zo b hb;exact(I7.pin (b,o) (dP _ (dP _ (nD hb e)))).2.1
  cases f with
  |next=>obtain⟨NB,H7,I7,n7⟩:=q7;exact again I7 n7
  |cont=>obtain⟨NB,H7,I7,n7⟩:=q7;exact again I7 n7
  |brk=>obtain⟨NB,H7,I7,q7⟩:=q7;exact⟨NB,H7,I7.uu,q7⟩
  |ret v=>obtain⟨x7,NB,H7,I7,r7,q7⟩:=q7;exact⟨x7,NB,H7,I7.uu,r7,q7⟩
end
theorem gJ{K:Frag}{a:Y'}{xs:ak}{g:TG}{tb:TS}{D:Ends}{σ:St}{H:Hp}(Pv:Nat->St->Hp->Prop)(h0:Pv 0 σ H)(hl:∀i σ H,i<=xs.length->Pv i σ H->bq K H a xs)
 (hs:∀i x σ H,xs[i]? =some x->Pv i σ H->g x σ H λkn H2=>tb {D with nx:=Pv (i+1),ct:=Pv (i+1),bk:=D.nx} kn H2) (hd:∀σ H,Pv xs.length σ H->D.nx σ H):
 ∃W:Nat->Nat->St->Hp->Prop,(∃m,W 0 m σ H)/\∀i m σ H,W i m σ H->
  ((YC K a).stop i H/\D.nx σ H)\/((YC K a).go i H/\∃N:St->Hp->Prop,(∀eO H',N eO H'->∃m',m' <m/\W (i+1) m' eO H')/\∀x H',(YC K a).zS i H x H'->g x σ H' λkn H2=>tb {D with nx:=N,ct:=N,bk:=D.nx} kn H2):=by
 refine⟨λi m σ H=>m=xs.length - i/\i<=xs.length/\Pv i σ H,⟨xs.length,by simp,bU _,h0⟩,?_⟩
 rintro i m σ H ⟨rfl,hi,p⟩
 have q:=hl i σ H hi p;by_cases jB:i<xs.length
 .refine .inr ⟨⟨xs,xs[i],q,by simp[jB]⟩,Pv (i+1),λeO H' p' =>⟨xs.length - (i+1),by omega,Z,jB,p'⟩,λx H' y=> ?_⟩;obtain⟨e,y⟩:=y;subst e;exact hs i x σ _ (y xs q) p
 .have e:i=xs.length:=by omega
  subst e;exact .inl ⟨⟨xs,q,aJ _⟩,hd σ H p⟩
theorem KG{K:Frag}{a:Y'}{xs:ak}{g:TG}{tb:TS}{D:Ends}{σ:St}{H:Hp}(Pv:Nat->St->Hp->Prop)(h0:Pv 0 σ H)(hl:∀i σ H,i<=xs.length->Pv i σ H->bu K H a xs)
 (hs:∀i x σ H,xs[i]? =some x->Pv i σ H->g x σ H λkn H2=>tb {D with nx:=Pv (i+1),ct:=Pv (i+1),bk:=D.nx} kn H2) (hd:∀σ H,Pv xs.length σ H->D.nx σ H):
 ∃W:Nat->Nat->St->Hp->Prop,(∃m,W 0 m σ H)/\∀i m σ H,W i m σ H->
  ((Wk K a).stop i H/\D.nx σ H)\/((Wk K a).go i H/\∃N:St->Hp->Prop,(∀eO H',N eO H'->∃m',m' <m/\W (i+1) m' eO H')/\∀x H',(Wk K a).zS i H x H'->g x σ H' λkn H2=>tb {D with nx:=N,ct:=N,bk:=D.nx} kn H2):=by
 refine⟨λi m σ H=>m=xs.length - i/\i<=xs.length/\Pv i σ H,⟨xs.length,by simp,bU _,h0⟩,?_⟩
 rintro i m σ H ⟨rfl,hi,p⟩
 have q:=hl i σ H hi p;by_cases jB:i<xs.length
 .refine .inr ⟨⟨xs,xs[i],q,by simp[jB]⟩,Pv (i+1),λeO H' p' =>⟨xs.length - (i+1),by omega,Z,jB,p'⟩,λx H' y=> ?_⟩;obtain⟨e,y⟩:=y;subst e;exact hs i x σ _ (y xs q) p
 .have e:i=xs.length:=by omega
  subst e;exact .inl ⟨⟨xs,q,aJ _⟩,hd σ H p⟩
theorem we{lo:Int}{n:Nat}{g:TG}{tb:TS}{D:Ends}{σ:St}{H:Hp}(Pv:Nat->St->Hp->Prop)(h0:Pv 0 σ H)
 (hs:∀i σ H,i<n->Pv i σ H->g (.int (lo+i)) σ H λkn H2=>tb {D with nx:=Pv (i+1),ct:=Pv (i+1),bk:=D.nx} kn H2) (hd:∀σ H,Pv n σ H->D.nx σ H):
 ∃W:Nat->Nat->St->Hp->Prop,(∃m,W 0 m σ H)/\∀i m σ H,W i m σ H->
  ((YI lo n).stop i H/\D.nx σ H)\/((YI lo n).go i H/\∃N:St->Hp->Prop,(∀eO H',N eO H'->∃m',m' <m/\W (i+1) m' eO H')/\∀x H',(YI lo n).zS i H x H'->g x σ H' λkn H2=>tb {D with nx:=N,ct:=N,bk:=D.nx} kn H2):=by
 refine⟨λi m σ H=>m=n - i/\i<=n/\Pv i σ H,⟨n,by simp,bU _,h0⟩,?_⟩
 rintro i m σ H ⟨rfl,hi,p⟩
 by_cases jB:i<n
 .refine .inr ⟨jB,Pv (i+1),λeO H' p' =>⟨n - (i+1),by omega,Z,jB,p'⟩,λx H' y=> ?_⟩;obtain⟨e,y⟩:=y;subst e y;exact hs i σ _ jB p
 .have e:i=n:=by omega
  subst e;exact .inl ⟨aJ _,hd σ H p⟩
abbrev R2:=V->V->Hp->VK->Prop
def nq(X:Cx)(f:W'->W'->Sem W')(r:R2):Prop:=
 ∀(ad:aR) (s:X') (σ:St) (H:Hp) (x y:V) (v u:W') (Q:VK),Inv X ad σ H s->RelV x v->RelV y u->r x y H Q->
  wpAny (model X.prog X.w) X.A (f v u) (EP X ad σ Q) X.xe s
def UnR(X:Cx)(f:W'->Sem W')(r:V->Hp->VK->Prop):Prop:=
 ∀(ad:aR) (s:X') (σ:St) (H:Hp) (x:V) (v:W') (Q:VK),Inv X ad σ H s->RelV x v->r x H Q->
  wpAny (model X.prog X.w) X.A (f v) (EP X ad σ Q) X.xe s
def ij(X:Cx)(f:W')(r:ak->Hp->VK->Prop):Prop:=
 ∀(ad:aR) (s:X') (σ:St) (H:Hp) (xs:ak) (us:aE) (Q:VK),Inv X ad σ H s->Vals xs us->r xs H Q->
  wpAny (model X.prog X.w) X.A (call f us) (EP X ad σ Q) X.xe s
def aex(X:Cx)(r:V->Hp->(Bool->Hp->Prop)->Prop):Prop:=
 ∀(ad:aR) (s:X') (σ:St) (H:Hp) (x:V) (v:W') (Q:Bool->Hp->Prop),Inv X ad σ H s->RelV x v->r x H Q->
  wpAny (model X.prog X.w) X.A (truthy v) (TP X ad σ Q) X.xe s
def SY(r:R2)(ta tb:TE):TE:=λσ H Q=>ta σ H λx H1=>tb σ H1 λy H2=>r x y H2 Q
def tUn(r:V->Hp->VK->Prop)(ta:TE):TE:=λσ H Q=>ta σ H λx H1=>r x H1 Q
def rI(C:Int->Int->Prop)(g:Int->Int->V):R2:=λx y H Q=>∃i j,x= .int i/\y= .int j/\C i j/\Q (g i j) H
def Yx(g:Int->Int->V):R2:=λx y H Q=>∃i j,x= .int i/\y= .int j/\Q (g i j) H
def rU(g:Int->V):V->Hp->VK->Prop:=λx H Q=>∃i,x= .int i/\Q (g i) H
section
variable{X:Cx}{a b c:aaa}{ta tb tc:TE}{pos:Pos}
theorem YA(ha:PE X a ta)(hb:PE X b tb){ad:aR}{s:X'}{σ:St}{H:Hp}{R:V->V->Hp->Prop}(I:Inv X ad σ H s)
 (h:ta σ H λx H1=>tb σ H1 λy H2=>R x y H2) {Q:V'} {f:W'->W'->Sem W'}
 (hf:∀v u s2 x y H2,Inv X ad σ H2 s2->RelV x v->RelV y u->R x y H2->wpAny (model X.prog X.w) X.A (f v u) Q X.xe s2):
 wpAny (model X.prog X.w) X.A (eval a X.env) (λv bP=>wpAny (model X.prog X.w) X.A (eval b X.env) (λu tU=>wpAny (model X.prog X.w) X.A (f v u) Q X.xe tU) X.xe bP) X.xe s:=by
 refine cN (ha ad s σ H _ I h) λv s1 ⟨x,H1,I1,r1,q1⟩=> ?_;refine cN (hb ad s1 σ H1 _ I1 q1) λu s2 ⟨y,H2,I2,r2,q2⟩=> ?_;exact hf v u s2 x y H2 I2 r1 r2 q2
theorem aH{op:Operator}{r:R2}(ho:nq X (binaryOp op) r)(ha:PE X a ta)(hb:PE X b tb):PE X (.BinOp a op b pos) (SY r ta tb):=by
 intro ad s σ H Q I h;exact wpAny_BinOp (YA ha hb I h λv u s2 x y H2 I2 rx ry q=>ho ad s2 σ H2 x y v u Q I2 rx ry q)
theorem D2{op:UnaryOp}{r:V->Hp->VK->Prop}(ho:UnR X (unaryOp op) r)(ha:PE X a ta):PE X (.UnaryOp op a pos) (tUn r ta):=by
 intro ad s σ H Q I h;exact UnaryOp_ (cN (ha ad s σ H _ I h) λv s1 ⟨x,H1,I1,r1,q1⟩=>ho ad s1 σ H1 x v Q I1 r1 q1)
theorem opI{f:W'->W'->Sem W'}{C:Int->Int->Prop}{g:Int->Int->Int}
 (rule:∀(i j:Int) (t u:Tok) (s:X') (Q:V') (E:V'),C i j->Q (.int (g i j) s.toks) {s with toks:=s.toks+1}->wpAny (model X.prog X.w) X.A (f (.int i t) (.int j u)) Q E s):
 nq X f (rI C λi j=> .int (g i j)):=by
 intro ad s σ H x y v u Q I rx ry h;obtain⟨i,j,rfl,rfl,hc,q⟩:=h;obtain⟨t,rfl⟩:=rx;obtain⟨t',rfl⟩:=ry;exact rule i j t t' s _ _ hc ⟨.int (g i j),H,I.tok _,⟨_,Z⟩,q⟩
theorem ZO{f:W'->W'->Sem W'}{g:Int->Int->Int}
 (rule:∀(i j:Int) (t u:Tok) (s:X') (Q:V') (E:V'),Q (.int (g i j) s.toks) {s with toks:=s.toks+1}->wpAny (model X.prog X.w) X.A (f (.int i t) (.int j u)) Q E s):
 nq X f (Yx λi j=> .int (g i j)):=by
 intro ad s σ H x y v u Q I rx ry h;obtain⟨i,j,rfl,rfl,q⟩:=h;obtain⟨t,rfl⟩:=rx;obtain⟨t',rfl⟩:=ry;exact rule i j t t' s _ _ ⟨.int (g i j),H,I.tok _,⟨_,Z⟩,q⟩
theorem XG{f:W'->W'->Sem W'}{g:Int->Int->Bool}
 (rule:∀(i j:Int) (t u:Tok) (s:X') (Q:V') (E:V'),Q (.bool (g i j)) s->wpAny (model X.prog X.w) X.A (f (.int i t) (.int j u)) Q E s):
 nq X f (Yx λi j=> .bl (g i j)):=by
 intro ad s σ H x y v u Q I rx ry h;obtain⟨i,j,rfl,rfl,q⟩:=h;obtain⟨t,rfl⟩:=rx;obtain⟨t',rfl⟩:=ry;exact rule i j t t' s _ _ ⟨.bl (g i j),H,I,Z,q⟩
def aen(i j:Int):Prop:=0<=j/\j<=1000000/\i.natAbs<2 ^ 64
def Xs(i j:Int):Prop:=(-(2 ^ 64)<i/\i<2 ^ 64)\/(-(2 ^ 64)<j/\j<2 ^ 64)
theorem Xs.ok{i j:Int}(h:Xs i j):IntMulOk i j:=by
 rcases h with⟨h1,h2⟩|⟨h1,h2⟩
 .exact .of_left (intBits_le_64 h1 h2)
 .exact .of_right (intBits_le_64 h1 h2)
theorem bB:nq X (binaryOp .Add) (Yx λi j=> .int (i+j)):=ZO λ_ _ _ _ _ _ _ q=>add_int q
theorem jC:nq X (binaryOp .Sub) (Yx λi j=> .int (i - j)):=ZO λ_ _ _ _ _ _ _ q=>sub_int q
theorem my:nq X (binaryOp .Mult) (rI Xs λi j=> .int (i*j)):=opI λ_ _ _ _ _ _ _ hc q=>mul_int q hc.ok
theorem nR:nq X (binaryOp .Mod) (rI (λ_ j=>0<j) λi j=> .int (i % j)):=opI λi j _ _ _ _ _ hc q=>by
 have h1:(0:Int)<j:=hc;exact mod_int' (by omega) (by rw[Int.fmod_eq_emod_of_nonneg i (by omega)];exact q)
theorem Ax:nq X (binaryOp .Pow) (rI aen λi j=> .int (i ^ j.toNat)):=opI λ_ _ _ _ _ _ _ hc q=>pow_int_small hc.1 hc.2.1 hc.2.2 q
theorem unI{f:W'->Sem W'}{g:Int->Int}
 (rule:∀(i:Int) (t:Tok) (s:X') (Q:V') (E:V'),Q (.int (g i) s.toks) {s with toks:=s.toks+1}->wpAny (model X.prog X.w) X.A (f (.int i t)) Q E s):
 UnR X f (rU λi=> .int (g i)):=by
 intro ad s σ H x v Q I rx h;obtain⟨i,rfl,q⟩:=h;obtain⟨t,rfl⟩:=rx;exact rule i t s _ _ ⟨.int (g i),H,I.tok _,⟨_,Z⟩,q⟩
theorem wG:UnR X (unaryOp .USub) (rU λi=> .int (-i)):=unI λ_ _ _ _ _ q=>neg_int q
end
noncomputable def ZU:V->V->Bool
 | .bV,.bV=>true| .bV,.int _=>true| .int _,.bV=>true| .bV,.bl _=>true| .bl _,.bV=>true| .bV,.str _=>true| .str _,.bV=>true
 | .int _,.int _=>true| .bl _,.bl _=>true| .str _,.str _=>true| .Ki _,.Ki _=>true
 | .int _,.str _=>true| .str _,.int _=>true| .bl _,.str _=>true| .str _,.bl _=>true
 |_,_=>false
def rEq:R2:=λx y H Q=>ZU x y=true/\Q (.bl (decide (x=y))) H
def rNe:R2:=λx y H Q=>ZU x y=true/\Q (.bl (!decide (x=y))) H
theorem JE{i j:Int}:decide (V.int i=V.int j)=(i==j):=by
 rw[km];simp
theorem O_{i j:Bool}:decide (V.bl i=V.bl j)=(i==j):=by
 rw[km];simp
theorem Kt{i j:Str}:decide (V.str i=V.str j)=(i==j):=by
 rw[km];simp
theorem Kl{i j:Array UInt8}:decide (V.Ki i=V.Ki j)=(i.toList==j.toList):=by
 rw[km];cases i;cases j;simp
section
variable{X:Cx}{a b c:aaa}{ta tb tc:TE}{pos:Pos}
theorem bW{ad:aR}{σ:St}{H:Hp}{s:X'}{Q:VK}{k k' :Bool}(I:Inv X ad σ H s)(q:Q (.bl k) H)(e:k=k'):EP X ad σ Q (.bool k') s:=by
 subst e;exact⟨.bl k,H,I,Z,q⟩
theorem cM:nq X (compareOp .Eq) rEq:=by
 intro ad s σ H x y v u Q I rx ry h;obtain⟨hs,q⟩:=h
 cases x with
 |bV=>
  cases rx
  cases y with
  |bV=>cases ry;exact PySem.EqNone.eq_none_none (bW I q (by simp))
  |bl j=>cases ry;exact PySem.EqNone.eq_none_bool (bW I q (by simp))
  |int j=>obtain⟨t',rfl⟩:=ry;exact PySem.EqNone.eq_none_int (bW I q (by simp))
  |str j=>obtain⟨t',rfl⟩:=ry;exact PySem.EqNone.eq_none_str (bW I q (by simp))
  |_=>exact absurd (show false=true from hs) cE
 |bl i=>
  cases rx
  cases y with
  |bV=>cases ry;exact PySem.EqNone.eq_bool_none (bW I q (by simp))
  |bl j=>cases ry;exact eq_bool (bW I q O_)
  |str j=>obtain⟨t',rfl⟩:=ry;exact PySem.EqMixed.eq_bool_str (bW I q (by simp))
  |_=>exact absurd (show false=true from hs) cE
 |int i=>
  obtain⟨t,rfl⟩:=rx
  cases y with
  |bV=>cases ry;exact PySem.EqNone.eq_int_none (bW I q (by simp))
  |int j=>obtain⟨t',rfl⟩:=ry;exact eq_int (bW I q JE)
  |str j=>obtain⟨t',rfl⟩:=ry;exact PySem.EqMixed.eq_int_str (bW I q (by simp))
  |_=>exact absurd (show false=true from hs) cE
 |str i=>
  obtain⟨t,rfl⟩:=rx
  cases y with
  |bV=>cases ry;exact PySem.EqNone.eq_str_none (bW I q (by simp))
  |bl j=>cases ry;exact PySem.EqMixed.eq_str_bool (bW I q (by simp))
  |int j=>obtain⟨t',rfl⟩:=ry;exact PySem.EqMixed.eq_str_int (bW I q (by simp))
  |str j=>obtain⟨t',rfl⟩:=ry;exact eq_str (bW I q Kt)
  |_=>exact absurd (show false=true from hs) cE
 |Ki i=>
  obtain⟨t,rfl⟩:=rx
  cases y with
  |Ki j=>obtain⟨t',rfl⟩:=ry;exact PySem.W.eq_bytes (bW I q Kl)
  |_=>exact absurd (show false=true from hs) cE
 |_=>cases y<;>exact absurd (show false=true from hs) cE
theorem mN:nq X (compareOp .NotEq) rNe:=by
 intro ad s σ H x y v u Q I rx ry h;obtain⟨hs,q⟩:=h
 cases x with
 |bV=>
  cases rx
  cases y with
  |bV=>cases ry;exact PySem.EqNone.ne_none_none (bW I q (by simp))
  |bl j=>cases ry;exact PySem.EqNone.ne_none_bool (bW I q (by simp))
  |int j=>obtain⟨t',rfl⟩:=ry;exact PySem.EqNone.ne_none_int (bW I q (by simp))
  |str j=>obtain⟨t',rfl⟩:=ry;exact PySem.EqNone.ne_none_str (bW I q (by simp))
  |_=>exact absurd (show false=true from hs) cE
 |bl i=>
  cases rx
  cases y with
  |bV=>cases ry;exact PySem.EqNone.ne_bool_none (bW I q (by simp))
  |bl j=>cases ry;exact ne_bool (bW I q (congrArg not O_))
  |str j=>obtain⟨t',rfl⟩:=ry;exact PySem.EqMixed.ne_bool_str (bW I q (by simp))
  |_=>exact absurd (show false=true from hs) cE
 |int i=>
  obtain⟨t,rfl⟩:=rx
  cases y with
  |bV=>cases ry;exact PySem.EqNone.ne_int_none (bW I q (by simp))
  |int j=>obtain⟨t',rfl⟩:=ry;exact ne_int (bW I q (congrArg not JE))
  |str j=>obtain⟨t',rfl⟩:=ry;exact PySem.EqMixed.ne_int_str (bW I q (by simp))
  |_=>exact absurd (show false=true from hs) cE
 |str i=>
  obtain⟨t,rfl⟩:=rx
  cases y with
  |bV=>cases ry;exact PySem.EqNone.ne_str_none (bW I q (by simp))
  |bl j=>cases ry;exact PySem.EqMixed.ne_str_bool (bW I q (by simp))
  |int j=>obtain⟨t',rfl⟩:=ry;exact PySem.EqMixed.ne_str_int (bW I q (by simp))
  |str j=>obtain⟨t',rfl⟩:=ry;exact ne_str (bW I q (congrArg not Kt))
  |_=>exact absurd (show false=true from hs) cE
 |Ki i=>
  obtain⟨t,rfl⟩:=rx
  cases y with
  |Ki j=>obtain⟨t',rfl⟩:=ry;exact PySem.W.ne_bytes (bW I q (congrArg not Kl))
  |_=>exact absurd (show false=true from hs) cE
 |_=>cases y<;>exact absurd (show false=true from hs) cE
theorem DF:nq X (compareOp .Lt) (Yx λi j=> .bl (decide (i<j))):=XG λ_ _ _ _ _ _ _ q=>lt_int q
theorem Dv:nq X (compareOp .LtE) (Yx λi j=> .bl (decide (i<=j))):=XG λ_ _ _ _ _ _ _ q=>le_int q
theorem kR:nq X (compareOp .Gt) (Yx λi j=> .bl (decide (j<i))):=XG λ_ _ _ _ _ _ _ q=>gt_int q
theorem Df:nq X (compareOp .In) (λx y H Q=>∃i j,x= .str i/\y= .str j/\Q (.bl (!(Builtin.Str.occurrences j i 0 j.length 1).isEmpty)) H):=by
 intro ad s σ H x y v u Q I rx ry h;obtain⟨i,j,rfl,rfl,q⟩:=h;obtain⟨t,rfl⟩:=rx;obtain⟨t',rfl⟩:=ry;exact in_str (bW I q Z)
theorem AQ:nq X (compareOp .Is) (λx y H Q=>y= .bV/\Q (.bl (decide (x= .bV))) H):=by
 intro ad s σ H x y v u Q I rx ry h;obtain⟨rfl,q⟩:=h;cases ry;refine is_none_gen (bW I q ?_)
 cases x<;>first
  |(cases rx;rfl)
  |(obtain⟨t,rfl⟩:=rx;rfl)
theorem rF:nq X (compareOp .IsNot) (λx y H Q=>y= .bV/\Q (.bl (!decide (x= .bV))) H):=by
 intro ad s σ H x y v u Q I rx ry h;obtain⟨rfl,q⟩:=h;cases ry;refine isnot_none_gen (bW I q ?_)
 cases x<;>first
  |(cases rx;rfl)
  |(obtain⟨t,rfl⟩:=rx;rfl)
theorem Nx(b:aaa){op:CmpOp}(h:op≠.In:=by decide)(h2:op≠.NotIn:=by decide):behindInMarks op b=false:=by
 have e1:(op==CmpOp.In)=false:=by cases op<;>first|rfl|exact absurd rfl h
 have e2:(op==CmpOp.NotIn)=false:=by cases op<;>first|rfl|exact absurd rfl h2
 cases b<;>simp[behindInMarks,e1,e2]
theorem RZ{op:CmpOp}{r:R2}(ho:nq X (compareOp op) r)(ha:PE X a ta)(hb:PE X b tb)(hm:behindInMarks op b=false):PE X (.Compare a [op] [b] pos) (SY r ta tb):=by
 intro ad s σ H Q I h;exact wpAny_Compare1 (YA ha hb I h λv u s2 x y H2 I2 rx ry q=>ho ad s2 σ H2 x y v u Q I2 rx ry q) hm
def Pf(t:TE):TT:=λσ H Q=>t σ H λx H' =>∃k,x= .bl k/\Q k H'
theorem RQ{op:CmpOp}{r:R2}(ho:nq X (compareOp op) r)(ha:PE X a ta)(hb:PE X b tb)(hm:behindInMarks op b=false):PT X (.Compare a [op] [b] pos) (Pf (SY r ta tb)):=by
 intro ad s σ H Q I h
 refine wpAny_isTrue_Compare1 (cN (ha ad s σ H _ I h) λv s1 ⟨x,H1,I1,r1,q1⟩=>cN (hb ad s1 σ H1 _ I1 q1) λu s2 ⟨y,H2,I2,r2,q2⟩=>
  cN (ho ad s2 σ H2 x y v u _ I2 r1 r2 q2) λc s3 ⟨z,H3,I3,r3,k,e,q3⟩=> ?_) hm
 subst e;cases r3;exact kI ⟨H3,I3,q3⟩
def OD(r r' :R2)(ta tb tc:TE):TE:=λσ H Q=>ta σ H λx H1=>tb σ H1 λy H2=>r x y H2 λz H3=>∃k,z= .bl k/\
 (if k=true then tc σ H3 λw' H4=>r' y w' H4 Q else Q (.bl false) H3)
theorem FQ{op Wo :CmpOp}{r r' :R2}(ho:nq X (compareOp op) r)(OA :nq X (compareOp Wo) r')(ha:PE X a ta)(hb:PE X b tb)(hc:PE X c tc)
 (hm:lastMarks [op,Wo] [b,c]=false:=by with_unfolding_all rfl):PE X (.Compare a [op,Wo] [b,c] pos) (OD r r' ta tb tc):=by
 intro ad s σ H Q I h
 refine Compare_chain (cN (ha ad s σ H _ I h) λv s1 ⟨x,H1,I1,r1,q1⟩=>chain_link (cN (hb ad s1 σ H1 _ I1 q1) λu s2 ⟨y,H2,I2,r2,q2⟩=>
  cN (ho ad s2 σ H2 x y v u _ I2 r1 r2 q2) λd s3 ⟨z,H3,I3,r3,k,e,q3⟩=> ?_)) hm
 subst e;cases r3;refine kI ?_
 cases k with
 |false=>exact ite_ff ⟨.bl false,H3,I3,Z,q3⟩
 |true=>exact ite_tt (chain_last (cN (hc ad s3 σ H3 _ I3 q3) λw' s4 ⟨z',H4,I4,r4,q4⟩=>OA ad s4 σ H4 y z' u w' Q I4 r2 r4 q4))
theorem OQ{op Wo :CmpOp}{r r' :R2}(ho:nq X (compareOp op) r)(OA :nq X (compareOp Wo) r')(ha:PE X a ta)(hb:PE X b tb)(hc:PE X c tc)
 (hm:lastMarks [op,Wo] [b,c]=false:=by with_unfolding_all rfl):PT X (.Compare a [op,Wo] [b,c] pos) (Pf (OD r r' ta tb tc)):=by
 intro ad s σ H Q I h
 refine isTrue_chain (cN (ha ad s σ H _ I h) λv s1 ⟨x,H1,I1,r1,q1⟩=>test_link (cN (hb ad s1 σ H1 _ I1 q1) λu s2 ⟨y,H2,I2,r2,q2⟩=>
  cN (ho ad s2 σ H2 x y v u _ I2 r1 r2 q2) λd s3 ⟨z,H3,I3,r3,k,e,q3⟩=> ?_)) hm
 subst e;cases r3;refine kI ?_
 cases k with
 |false=>
  obtain⟨k',e',q'⟩:=q3;cases e';exact ite_ff ⟨H3,I3,q'⟩
 |true=>
  refine ite_tt (test_last (cN (hc ad s3 σ H3 _ I3 q3) λw' s4 ⟨z',H4,I4,r4,q4⟩=>cN (OA ad s4 σ H4 y z' u w' _ I4 r2 r4 q4) λd' s5 ⟨z2,H5,I5,r5,k2,e2,q5⟩=> ?_));subst e2;cases r5;exact kI ⟨H5,I5,q5⟩
def aaC(K:Frag)(x:V)(H:Hp)(k:Bool):Prop:=
 match x with
 | .bV=>k=false
 | .bl b=>k=b
 | .int i=>k=(i !=0)
 | .str y=>y.length<=sizeLine/\k=((y.length:Int) !=0)
 | .Ki y=>y.size<=sizeLine/\k=((y.size:Int) !=0)
 | .ref p=>(∃xs,bq K H p xs/\k= !xs.isEmpty)\/(∃xs,bu K H p xs/\k= !xs.isEmpty)\/∃bF,H p=some (.dK bF)/\k= !bF.isEmpty
 |_=>False
theorem IF{κ:Type}{bF:List (κ×V)}{vs:List (κ×W')}(r:KV bF vs):(!vs.isEmpty)= !bF.isEmpty:=by
 cases r<;>rfl
theorem A0{xs:ak}{its:aE}(r:Vals xs its):(!its.toArray.isEmpty)= !xs.isEmpty:=by
 cases r<;>simp
theorem sX:(sizeLine:Nat)<2 ^ 63:=by rw[qU];decide
theorem Xj:aex X (λx H Q=>∃k,aaC X.K x H k/\Q k H):=by
 intro ad s σ H x v Q I rx h;obtain⟨k,e,q⟩:=h;have hl:=sX;have hs:sizeLine=16777216:=qU
 cases x with
 |bV=>
  cases rx;have e' :k=false:=e;subst e';exact truthy_none ⟨H,I,q⟩
 |bl b=>
  cases rx;have e' :k=b:=e;subst e';exact kI ⟨H,I,q⟩
 |int i=>
  obtain⟨t,rfl⟩:=rx;have e' :k=(i !=0):=e;subst e';exact PySem.P.truthy_int ⟨H,I,q⟩
 |str y=>
  obtain⟨t,rfl⟩:=rx;obtain⟨hy,e'⟩:y.length<=sizeLine/\k=((y.length:Int) !=0):=e;subst e';exact PySem.P.truthy_str (by omega) ⟨H,I.tok _,q⟩
 |Ki y=>
  obtain⟨t,rfl⟩:=rx;obtain⟨hy,e'⟩:y.size<=sizeLine/\k=((y.size:Int) !=0):=e;subst e';exact PySem.W.truthy_bytes (by omega) ⟨H,I.tok _,q⟩
 |ref p=>
  cases rx;have e' :(∃xs,bq X.K H p xs/\k= !xs.isEmpty)\/(∃xs,bu X.K H p xs/\k= !xs.isEmpty)\/∃bF,H p=some (.dK bF)/\k= !bF.isEmpty:=e;rcases e' with⟨xs,hx,e'⟩|⟨xs,hx,e'⟩|⟨bF,hx,e'⟩
  .subst e';obtain⟨its,r,pl,hz⟩:=I.list hx;have hlen:=r.length;exact wpAny_truthy_list pl.isList (by simp only[bC];omega) ⟨H,I.tok _,by rw[A0 r];exact q⟩
  .subst e';obtain⟨its,r,pl,hz⟩:=I.tuple hx;have hlen:=r.length;exact truthy_tuple pl (by simp only[bC];omega) ⟨H,I.tok _,by rw[A0 r];exact q⟩
  .subst e';obtain⟨hz,hS,vs,r,m⟩:bF.length<=sizeLine/\(p==sysModules)=false/\∃vs,KV bF vs/\s.heap.DictOf (c5 X.prog X.w) p vs:=I.bM p _ hx;have hlen:bF.length=vs.length:=Paired.length r;exact wpAny_truthy_dict hS m (by omega) ⟨H,I.tok _,by rw[IF r];exact q⟩
 |_=>exact(show False from e).elim
theorem AS(ha:PE X a ta)(he:∀whole,isTrue a X.env whole=(do let v<-whole;standAt a.pos;holding [v] (truthy v))):
 PT X a (λσ H Q=>ta σ H λx H' =>∃k,aaC X.K x H' k/\Q k H'):=by
 intro ad s σ H Q I h;exact isTrue_plain (cN (ha ad s σ H _ I h) λv s1 ⟨x,H1,I1,r1,q1⟩=>Xj ad s1 σ H1 x v Q I1 r1 q1) (he _)
theorem fw:nq X (binaryOp .Add) (λx y H Q=>∃i j,x= .str i/\y= .str j/\i.length+j.length<=sizeLine/\Q (.str (i++j)) H):=by
 intro ad s σ H x y v u Q I rx ry h;obtain⟨i,j,rfl,rfl,hz,q⟩:=h;obtain⟨t,rfl⟩:=rx;obtain⟨t',rfl⟩:=ry;exact add_str (λt' tk=>⟨.str (i++j),H,I.tok _,⟨_,Z⟩,q⟩) hz
theorem wT{x:V}{us:aE}(r:Vals [x] us):∃u,us=[u]/\RelV x u:=by
 cases r with
 |cons r1 r2=>cases r2;exact⟨_,Z,r1⟩
theorem jab{x y:V}{us:aE}(r:Vals [x,y] us):∃u w',us=[u,w']/\RelV x u/\RelV y w' :=by
 cases r with
 |cons r1 r2=>
  cases r2 with
  |cons r3 r4=>cases r4;exact⟨_,_,Z,r1,r3⟩
theorem j9(hc:X.calm=true):ij X (.builtin "max") (λxs H Q=>∃i j,xs=[.int i,.int j]/\Q (.int (if j>i then j else i)) H):=by
 intro ad s σ H xs us Q I r h;obtain⟨i,j,rfl,q⟩:=h;obtain⟨u,w',rfl,⟨t,rfl⟩,⟨t',rfl⟩⟩:=jab r;refine max_two_ints (I.ok.hd hc) λh' tk k=>⟨_,H,I.kept k,?_,q⟩;by_cases hj:j>i
 .rw[ay hj,ay hj];exact⟨_,Z⟩
 .rw[aq hj,aq hj];exact⟨_,Z⟩
theorem L4(hc:X.calm=true):ij X (.builtin "min") (λxs H Q=>∃i j,xs=[.int i,.int j]/\Q (.int (if j<i then j else i)) H):=by
 intro ad s σ H xs us Q I r h;obtain⟨i,j,rfl,q⟩:=h;obtain⟨u,w',rfl,⟨t,rfl⟩,⟨t',rfl⟩⟩:=jab r;refine min_two_ints (I.ok.hd hc) λh' tk k=>⟨_,H,I.kept k,?_,q⟩;by_cases hj:j<i
 .rw[ay hj,ay hj];exact⟨_,Z⟩
 .rw[aq hj,aq hj];exact⟨_,Z⟩
theorem xg:ij X (.type "int") (λxs H Q=>(∃i,xs=[.int i]/\Q (.int i) H)\/∃k,xs=[.bl k]/\Q (.int (if k then 1 else 0)) H):=by
 intro ad s σ H xs us Q I r h;rcases h with⟨i,rfl,q⟩|⟨k,rfl,q⟩
 .obtain⟨u,rfl,t,rfl⟩:=wT r;exact call_int_int ⟨.int i,H,I,⟨_,Z⟩,q⟩
 .obtain⟨u,rfl,r1⟩:=wT r;cases r1;exact call_int_bool ⟨.int (if k then 1 else 0),H,I.tok _,⟨_,Z⟩,q⟩
theorem vv:ij X (.type "str") (λxs H Q=>∃i,xs=[.int i]/\i.natAbs.log2<1920/\Q (.str (toString i)) H):=by
 intro ad s σ H xs us Q I r h;obtain⟨i,rfl,hz,q⟩:=h;obtain⟨u,rfl,t,rfl⟩:=wT r;exact PySem.P.str_of_int hz ⟨.str _,H,I.tok _,⟨_,Z⟩,q⟩
end
structure Jt(h:aam)(x dx C:Y')(mA:Str->aM):Prop where
 obj:h.get? x=some (instObj C dx)
 ns:h.Ns1 dx mA
 ne:dx≠x
theorem Dc{h:aam}{dx:Y'}{mA:Str->aM}(n:h.Ns1 dx mA):∃od,h.get? dx=some od/\∀name,lookIn name od=some (mA name):=by
 obtain⟨o,es,ep,ho,hd,hk,_,hm⟩:=n;refine⟨o,ho,λname=> ?_⟩;have e:=hm name;unfold nsFind findBy at e;rw[<-Array.find?_toList] at e;unfold lookIn;rw[hd];dsimp only
 split
 .rename_i y q;rw[q] at e;exact congrArg some e
 .rename_i q;rw[q] at e
  have a:es.toList.any (·.refKey)=false:=by
   rw[List.any_eq_false];intro y hy;obtain⟨z,t,af5⟩:=hk y (Array.mem_toList_iff.mp hy);simp[DictEntry.refKey,af5]
  have a' :¬es.toList.any (·.refKey)=true:=by rw[a];exact cE
  rw[aq a'];exact congrArg some e
theorem Jt.look{h:aam}{x dx C:Y'}{mA:Str->aM}(I:Jt h x dx C mA):∃od,PySem.W.InstAt h x (instObj C dx) C (some od)/\∀name,lookIn name od=some (mA name):=
 let⟨od,ho,hl⟩:=Dc I.ns
 ⟨od,⟨I.obj,Z,Z,ho⟩,hl⟩
section
variable{prog:aan}{w:aai}{A:aal}{E:V'}{s:X'}{K:Frag}{x dx C f:Y'}{mA:Str->aM}{name:Str}{v:W'}
theorem jam{expr:Bool}{Q:V'}(X:K.In s.heap)(I:Jt s.heap x dx C mA)(hg:plainGet K C name=true)(hh:PySem.W.hasDictIn K C=true)
 (ha:PySem.W.findIn K (.ref C) name=some none) (hv:mA name=some v) (Mo :handedIn v=true) (h:Q v {s with toks:=s.toks+1}):
 wpAny (model prog w) A (getAttr (.ref x) name expr) Q E s:=by
 obtain⟨od,J,hl⟩:=I.look;exact PySem.W.get_value X J (plainGet_of hg).1 (findObj_own hh ha Z (by rw[hl,hv])) Mo h
theorem Ob{pl:Sem Bool}{Q:W'×aE->X'->Prop}(X:K.In s.heap)(I:Jt s.heap x dx C mA)(hg:plainGet K C name=true)
 (hf:PySem.W.findIn K (.ref C) name=some (some (.ref f))) (ht:PySem.W.isFn K (.ref f)=true) (hv:mA name=none) (h:Q (.ref f,[.ref x]) s):
 wpAny (model prog w) A (getMethod (.ref x) name pl) Q E s:=by
 obtain⟨od,J,hl⟩:=I.look;exact PySem.W.method_fn X J (plainGet_of hg).1 (plainGet_of hg).2 hf (rD.mp ht) (by show(lookIn name od).map (·.isSome)=some false;rw[hl,hv];rfl) h
theorem Q7{ns:aj}{Q:Unit->X'->Prop}(X:K.In s.heap)(I:Jt s.heap x dx C mA)
 (hs:PySem.W.findIn K (.ref C) "__setattr__"=some (some (.builtin "object.__setattr__"))) (hp:plainOver K C=true) (ht:takerIn K C name=some none) (hh:PySem.W.hasDictIn K C=true)
 (hw:PySem.Within mA ns) (pd:ns.length<=sizeLine)
 (h:∀h',Jt h' x dx C (λy=>if y=name then some v else mA y)->Heap.SameBut dx s.heap h'->Q () {s with heap:=h',toks:=s.toks+2}):
 wpAny (model prog w) A (setAttr (.ref x) name v) Q E s:=by
 obtain⟨od,J,hl⟩:=I.look;refine set_plain X J hs (PySem.W.osa_open (s:={s with toks:=s.toks+1}) (r:=none) X J hp ht λb=> ?_);obtain⟨cd,hc,Lm⟩:=PySem.W.any_some hh;have hx:s.heap.get? x=some ⟨.ref C,some dx,.plain,#[]⟩:=I.obj;refine av (aW (av (av (wpAny_loadPart hx (av (PySem.W.Looks.here (s:={s with toks:=s.toks+1}) (PySem.W.looks_clsIn X hc) ?_))))));rw[Lm];refine aW (a:=some dx) (av (aW (av ?_)));refine wpAny_nsSet1 (s:={s with toks:=s.toks+1}) I.ns λh' Zg TM=> ?_;obtain⟨oD,esD,epD,hoD,Ih,hcD⟩:=Zg.count (PySem.Within.cons name v hw);refine av (wpAny_lookBehind hoD (by rw[Ih];exact pastItsLine_dict (aL hcD (by rw[aZ];omega))) ?_);exact aW (h _ ⟨(TM.2 _ (b7 I.ne)).trans I.obj,Zg,I.ne⟩ TM)
theorem PD{R:Result->X'->Prop}{vs:aE}{kw:List (Str×W')}(X:K.In s.heap)(hm:makesIn K C=true)
 (hi:PySem.W.findIn K (.ref C) "__init__"=some (some (.ref f))) (hf:PySem.W.typeIn K (.ref f)=some (.type "function"))
 (h:codeAny (model prog w) (A.under (.builtin "type.__call__" ⟨.ref C::vs,kw⟩)) (.call (.ref f) ⟨.ref (s.heap.objs.size+1)::vs,kw⟩) (PySem.W.InitBack (s.heap.objs.size+1) R)
  {s with heap:=(s.heap.push emptyDict).push (instObj C s.heap.objs.size)}):
 codeAny (model prog w) A (.call (.ref C) ⟨vs,kw⟩) R s:=by
 obtain⟨hh,g,d,t,os⟩:=s;exact PySem.W.make_core (PySem.W.makes_of X hm) (looks_findIn X hi) (λself=>bind_fn X self hf) (.inl Z) h
end
noncomputable def iP(f:Str)(v:V):iS->iS
 |[]=>[(f,v)]
 |(g,x)::r=>if g=f then(g,v)::r else(g,x)::iP f v r
theorem pJ(f g:Str)(v:V):∀fs:iS,(iP f v fs).lookup g=if g=f then some v else fs.lookup g
 |[]=>by
  show List.lookup g [(f,v)]=_;by_cases h:g=f
  .have hb:(g==f)=true:=rD.mpr h;simp only[List.lookup,hb,ay h]
  .have hb:(g==f)=false:=qH.mpr h;simp only[List.lookup,hb,aq h]
 |(k,x)::r=>by
  have ih:=pJ f g v r;rw[show iP f v ((k,x)::r)=(if k=f then(k,v)::r else(k,x)::iP f v r) from Z];by_cases hk:k=f
  .rw[ay hk];by_cases h:g=k
   .have hb:(g==k)=true:=rD.mpr h;simp only[List.lookup,hb,ay (h.trans hk)]
   .have hb:(g==k)=false:=qH.mpr h;simp only[List.lookup,hb,aq (λe:g=f=>h (e.trans hk.symm))]
  .rw[aq hk];by_cases h:g=k
   .have hb:(g==k)=true:=rD.mpr h;simp only[List.lookup,hb,aq (λe:g=f=>hk (h.symm.trans e))]
   .have hb:(g==k)=false:=qH.mpr h;simp only[List.lookup,hb];exact ih
theorem wY(f:Str)(v:V):∀fs:iS,f∈(iP f v fs).map (·.1)/\∀g,g∈fs.map (·.1)->g∈(iP f v fs).map (·.1)
 |[]=>⟨by simp[iP],λg h=>by simp at h⟩
 |(k,x)::r=>by
  obtain⟨i1,i2⟩:=wY f v r;rw[show iP f v ((k,x)::r)=(if k=f then(k,v)::r else(k,x)::iP f v r) from Z];by_cases hk:k=f
  .rw[ay hk];subst hk;exact⟨by simp,λg h=>by simpa using h⟩
  .rw[aq hk];refine⟨?_,λg h=> ?_⟩
   .rw[eG];exact a7 _ i1
   .rw[eG] at h ⊢;rcases aN.mp h with e|e
    .exact aN.mpr (.inl e)
    .exact a7 _ (i2 g e)
theorem yq(f:Str)(v:V):∀fs:iS,(iP f v fs).length<=fs.length+1
 |[]=>by simp[iP]
 |(k,x)::r=>by
  have ih:=yq f v r;rw[show iP f v ((k,x)::r)=(if k=f then(k,v)::r else(k,x)::iP f v r) from Z];by_cases hk:k=f
  .rw[ay hk,aZ,aZ];omega
  .rw[aq hk,aZ,aZ];omega
theorem mw.some_of{v:V}{o:aM}(r:mw (some v) o):∃u,o=some u/\RelV v u:=by
 cases o with
 |none=>exact(show False from r).elim
 |some u=>exact⟨u,Z,r⟩
theorem mw.none_of{o:aM}(r:mw none o):o=none:=by
 cases o with
 |none=>rfl
 |some u=>exact(show False from r).elim
theorem C2{v:V}{u:W'}(r:RelV v u):handedIn u=true:=by
 cases v with
 |bV=>cases(show u=Value.none from r);rfl
 |bl b=>cases(show u=Value.bool b from r);rfl
 |int i=>obtain⟨t,e⟩:=(show ∃t,u=Value.int i t from r);cases e;rfl
 |str x=>obtain⟨t,e⟩:=(show ∃t,u=Value.str x t from r);cases e;rfl
 |Ki b=>obtain⟨t,e⟩:=(show ∃t,u=Value.bytes b t from r);cases e;rfl
 |Y1 b=>obtain⟨t,e⟩:=(show ∃t,u=Value.float b t from r);cases e;rfl
 |ref a=>cases(show u=Value.ref a from r);rfl
 |ty n=>cases(show u=Value.type n from r);rfl
section
variable{P:aan}{w:aai}{H H' :Hp}{h h' :aam}{a C dx:Y'}{fs fs' :iS}
theorem zH(bM:o5 P w H h)(e:H a=some (.ins C dx fs)):∃mA,Jt h a dx C mA/\(∀f,mw (fs.lookup f) (mA f))/\PySem.Within mA (fs.map (·.1))/\fs.length<=1000/\H dx=some (.own a):=by
 obtain⟨d,z,ne,ob,mA,n,r,q⟩:=(show cg P w H h a (.ins C dx fs) from bM a _ e);exact⟨mA,⟨ob,n,ne⟩,r,q,z,d⟩
end
structure Nb(K:Frag)(C:Y'):Prop where
 pg:plainGet K C Str.empty=true
 hd:PySem.W.hasDictIn K C=true
 po:plainOver K C=true
 sa:PySem.W.findIn K (.ref C) "__setattr__"=some (some (.builtin "object.__setattr__"))
theorem Nb.get{K:Frag}{C:Y'}(c:Nb K C)(f:Str):plainGet K C f=true:=c.pg
def eE(K:Frag)(C:Y')(f:Str):Prop:=PySem.W.findIn K (.ref C) f=some none
theorem eE.acK{K:Frag}{C:Y'}{f:Str}(n:eE K C f):takerIn K C f=some none:=by
 unfold takerIn;rw[show PySem.W.findIn K (.ref C) f=some none from n];rfl
structure Meth(K:Frag)(C:Y')(m:Str)(f:Y'):Prop where
 at_:PySem.W.findIn K (.ref C) m=some (some (.ref f))
 fn:PySem.W.isFn K (.ref f)=true
 kp:PySem.W.keepIn K (.ref f)=true
section
variable{X:Cx}{ad:aR}{σ:St}{H:Hp}{s:X'}{a C dx:Y'}{fs:iS}{f:Str}{v:V}{A:aal}{E:V'}
theorem Jc{b:Bool}{Q:V'}(I:Inv X ad σ H s)(e:H a=some (.ins C dx fs))(c:Nb X.K C)(n:eE X.K C f)(l:fs.lookup f=some v)
 (h:∀u s',Inv X ad σ H s'->RelV v u->Q u s'):wpAny (model X.prog X.w) A (getAttr (.ref a) f b) Q E s:=by
 obtain⟨mA,O,r,_,_,_⟩:=zH I.bM e;obtain⟨u,hu,ru⟩:=mw.some_of (v:=v) (o:=mA f) (by rw[<-l];exact r f);exact jam I.kZ O (c.get f) c.hd n hu (C2 ru) (h u _ (I.tok _) ru)
theorem H_{m:Str}{g:Y'}{pl:Sem Bool}{Q:W'×aE->X'->Prop}(I:Inv X ad σ H s)(e:H a=some (.ins C dx fs))(c:Nb X.K C)(k:Meth X.K C m g)(l:fs.lookup m=none)
 (h:Q (.ref g,[.ref a]) s):wpAny (model X.prog X.w) A (getMethod (.ref a) m pl) Q E s:=by
 obtain⟨mA,O,r,_,_,_⟩:=zH I.bM e;have hn:mA m=none:=mw.none_of (by rw[<-l];exact r m);exact Ob I.kZ O (c.get m) k.at_ k.fn hn h
theorem Ip{y:V}{u:W'}{Q:Unit->X'->Prop}(I:Inv X ad σ H s)(e:H a=some (.ins C dx fs))(c:Nb X.K C)(n:eE X.K C f)(hl:fs.length<1000)(ry:RelV y u)
 (h:∀s',Inv X ad σ (upd H a (.ins C dx (iP f y fs))) s'->Q () s'):wpAny (model X.prog X.w) A (setAttr (.ref a) f u) Q E s:=by
 obtain⟨mA,O,r,wi,_,ho⟩:=zH I.bM e;have hz:(fs.map (·.1)).length<=sizeLine:=by rw[aG,qU];omega
 refine Q7 I.kZ O c.sa c.po n.acK c.hd wi hz λh' O' sb=>h _ ?_;have hd:∃o,h'.get? dx=some o:=let⟨o,_,_,e',_⟩:=O'.ns;⟨o,e'⟩
 refine I.write (x:=a) (e:=dx) (by rw[e];exact True.intro) (.inr ho) (λb q hb z=>(sb.2 b hb).trans z) hd ?_;refine⟨by rw[au O.ne];exact ho,?_,O.ne,O'.obj,_,O'.ns,λg=> ?_,λg hg=> ?_⟩
 .have:=yq f y fs;omega
 .show mw ((iP f y fs).lookup g) (if g=f then some u else mA g);rw[pJ];by_cases q:g=f
  .rw[ay q,ay q];exact ry
  .rw[aq q,aq q];exact r g
 .by_cases q:g=f
  .rw[q];exact(wY f y fs).1
  .refine(wY f y fs).2 g (wi g λz=>hg ?_);show(if g=f then some u else mA g)=none;rw[aq q];exact z
theorem Inv.made(I:Inv X ad σ H s):Inv X ad σ (upd (upd H s.heap.objs.size (.own (s.heap.objs.size+1))) (s.heap.objs.size+1) (.ins C s.heap.objs.size []))
 {s with heap:=(s.heap.push emptyDict).push (instObj C s.heap.objs.size)}:=by
 have e1:(s.heap.push emptyDict).get? s.heap.objs.size=some emptyDict:=cK s.heap rfl
 have e2:((s.heap.push emptyDict).push (instObj C s.heap.objs.size)).get? (s.heap.objs.size+1)=some (instObj C s.heap.objs.size):=by
  have:=cK (s.heap.push emptyDict) (o:=instObj C s.heap.objs.size) rfl;rwa[jE] at this
 have e3:(s.heap.push emptyDict).Ns s.heap.objs.size (λ_=>none):=⟨emptyDict,#[],_,e1,Z,(λe he=>absurd he (by simp)),λ_=>rfl⟩;have I1:=I.laid (a:=s.heap.objs.size) (o:= .own (s.heap.objs.size+1)) (h' :=s.heap.push emptyDict) (t' :=s.toks) (λb u q=>bg _ q) (aJ _) ⟨_,e1⟩;refine I1.laid (a:=s.heap.objs.size+1) (o:= .ins C s.heap.objs.size []) (t' :=s.toks) (λb u q=>bg _ q) (lP (jE _ _)) ?_;have ne:s.heap.objs.size≠s.heap.objs.size+1:=bY (zA _);refine⟨by rw[au ne,aa],bU _,ne,e2,λ_=>none,(Heap.Ns1.of_empty e3).at λo q=>bg _ q,λ_=>True.intro,λy hy=>absurd rfl hy⟩
theorem Kb{prog:aan}{w:aai}{env:Env}{e:aaa}{f:Str}{pos:Pos}{s:X'}{Q:V'}(hb:attributeBase e f env (eval e env)=eval e env)
 (h:wpAny (model prog w) A (eval e env) (λo bP=>wpAny (model prog w) A (getAttr o f true) Q E bP) E s):wpAny (model prog w) A (eval (.Attribute e f pos) env) Q E s:=
 Attribute_any_ h (by rw[arm_eval_Attribute,hb])
end
def acw(K:Frag)(ta:TE)(f:Str):TE:=λσ H Q=>ta σ H λx H1=>∃a C dx fs v,x= .ref a/\H1 a=some (.ins C dx fs)/\Nb K C/\eE K C f/\fs.lookup f=some v/\Q v H1
def afD(K:Frag)(ta tv:TE)(f:Str):TS:=λD σ H=>tv σ H λy H1=>ta σ H1 λx H2=>∃a C dx fs,x= .ref a/\H2 a=some (.ins C dx fs)/\Nb K C/\eE K C f/\fs.length<1000/\
 D.nx σ (upd H2 a (.ins C dx (iP f y fs)))
section
variable{X:Cx}{o e value:aaa}{f:Str}{pos pos' aeR:Pos}{ta tv:TE}
theorem XF(he:PE X e ta)(hb:attributeBase e f X.env (eval e X.env)=eval e X.env):PE X (.Attribute e f pos) (acw X.K ta f):=by
 intro ad s σ H Q I h;refine Kb hb (cN (he ad s σ H _ I h) λu s1 ⟨x,H1,I1,rx,a,C,dx,fs,v,ex,ea,c,n,l,q⟩=> ?_);subst ex;obtain rfl:u=Value.ref a:=rx;exact Jc I1 ea c n l λu' s2 I2 ru=>⟨v,H1,I2,ru,q⟩
theorem Oc(ha:PE X o ta)(hv:PE X value tv)(hs:swapsWith value (some (.Attribute o f pos')) pos.line X.env=pure false):PS X (.Assign [.Attribute o f pos'] value pos) (afD X.K ta tv f):=by
 intro ad s σ H D I h;refine plainObj_wpAny_Assign_Attribute (cN (hv ad s σ H _ I h) λu s1 ⟨y,H1,I1,ry,q⟩=>cN (ha ad s1 σ H1 _ I1 q) λov s2 ⟨x,H2,I2,rx,a,C,dx,fs,ex,ea,c,n,l,q2⟩=> ?_) hs;subst ex;obtain rfl:ov=Value.ref a:=rx;exact Ip I2 ea c n l ry λs3 I3=>⟨σ,_,I3,q2⟩
end
section
variable{X:Cx}{ad:aR}{σ:St}{H:Hp}{s:X'}{A:aal}{E:V'}{Q:V'}{c:W'}{b:Bool}
inductive wL (K:Frag) (H:Hp):V->W'->Prop where
 |bV:wL K H .bV (.type "NoneType")
 |bl (x:Bool):wL K H (.bl x) (.type "bool")
 |int (i:Int):wL K H (.int i) (.type "int")
 |str (x:Str):wL K H (.str x) (.type "str")
 |Y1 (x:UInt64):wL K H (.Y1 x) (.type "float")
 |lst {a:Y'} {xs:ak} (e:H a=some (.lst xs)):wL K H (.ref a) (.type "list")
 |Gj {a:Y'} {o:Obj} {xs:ak} (e:H a=some (.Gj o (.lst xs))):wL K H (.ref a) (.type "list")
 |tup {a:Y'} {xs:ak} (e:H a=some (.tup xs)):wL K H (.ref a) (.type "tuple")
 |dK {a:Y'} {bF:gu} (e:H a=some (.dK bF)):wL K H (.ref a) (.type "dict")
 |dT {a:Y'} {bF:List (List wS×V)} (e:H a=some (.dT bF)):wL K H (.ref a) (.type "dict")
 |ins {a C dx:Y'} {fs:iS} (e:H a=some (.ins C dx fs)) (cl:Nb K C) (ha:PySem.W.findIn K (.ref C) "__class__"=some (some (.builtin "object.__class__")))
  (hn:PySem.W.specialIn K (.builtin "object.__class__") "__get__"=some (some (.builtin "getset_descriptor.__get__"))) (htk:PySem.W.takesIn K (.builtin "object.__class__")=some true)
  (hm:PySem.W.mroIn K C (.type "object")=some true):wL K H (.ref a) (.ref C)
theorem L8{x:V}{u t:W'}(I:Inv X ad σ H s)(rx:RelV x u)(ty:wL X.K H x t)(e:kitOne X.K t c=some b)(h:∀tk,Q (.bool b) {s with toks:=tk}):
 wpAny (model X.prog X.w) A (call (.builtin "isinstance") [u,c]) Q E s:=by
 cases ty with
 |bV=>cases(show u=Value.none from rx);exact ko PySem.W.kitx_none I.kZ True.intro e (λz=>nomatch z) h
 |bl y=>cases(show u=Value.bool y from rx);exact ko PySem.W.kitx_bool I.kZ True.intro e (λz=>nomatch z) h
 |int i=>obtain⟨t,q⟩:=(show ∃t,u=Value.int i t from rx);cases q;exact ko PySem.W.kitx_int I.kZ True.intro e (λz=>nomatch z) h
 |str y=>obtain⟨t,q⟩:=(show ∃t,u=Value.str y t from rx);cases q;exact ko PySem.W.kitx_str I.kZ True.intro e (λz=>nomatch z) h
 |Y1 y=>obtain⟨t,q⟩:=(show ∃t,u=Value.float y t from rx);cases q;exact ko PySem.W.kitx_float I.kZ True.intro e (λz=>nomatch z) h
 | @lst a xs ea=>
  cases(show u=Value.ref a from rx);obtain⟨_,_,n,_,h1⟩:=(show cg X.prog X.w H s.heap a (.lst xs) from I.bM a _ ea);exact ko kitx_list I.kZ ⟨_,h1,Z⟩ e (λz=>nomatch z) h
 | @Gj a ob xs ea=>
  cases(show u=Value.ref a from rx);obtain⟨_,_,_,n,_,h1⟩:=(show cg X.prog X.w H s.heap a (.Gj ob (.lst xs)) from I.bM a _ ea);exact ko kitx_list I.kZ ⟨_,h1,Z⟩ e (λz=>nomatch z) h
 | @tup a xs ea=>
  cases(show u=Value.ref a from rx);obtain⟨_,_,_,p⟩:=(show cg X.prog X.w H s.heap a (.tup xs) from I.bM a _ ea);obtain⟨o,h1,h2,_⟩:=p;exact ko kitx_tuple I.kZ ⟨o,h1,h2⟩ e (λz=>nomatch z) h
 | @dK a bF ea=>
  cases(show u=Value.ref a from rx);obtain⟨_,_,vs,_,p⟩:=(show cg X.prog X.w H s.heap a (.dK bF) from I.bM a _ ea);obtain⟨o,es,ep,h1,h2,_⟩:=p;exact ko kitx_dict I.kZ ⟨o,h1,h2.1⟩ e (λz=>nomatch z) h
 | @dT a bF ea=>
  cases(show u=Value.ref a from rx);obtain⟨_,_,xs,_,o,es,ep,h1,h2,_⟩:=(show cg X.prog X.w H s.heap a (.dT bF) from I.bM a _ ea);exact ko kitx_dict I.kZ ⟨o,h1,h2.1⟩ e (λz=>nomatch z) h
 | @ins a C dx fs ea cl ha hn htk hm=>
  cases(show u=Value.ref a from rx);obtain⟨mA,O,_⟩:=zH I.bM ea;obtain⟨od,J,_⟩:=O.look;exact ko (PySem.W.kitx_own (cl.get _) cl.hd ha hn htk hm) I.kZ J e (λz=>nomatch z) h
end
structure dQ(k:Nat)(A:aal):Prop where
 hd:A.handled=none
 dp:A.depth+3*k+5<recursionLimit
 un:A.units+16*k+200<cLine
 gd:A.guards=some []
theorem dQ.mono{j k:Nat}{A:aal}(r:dQ k A)(h:j<=k):dQ j A:=⟨r.hd,by have:=r.dp;omega,by have:=r.un;omega,r.gd⟩
theorem dQ.deeper{k:Nat}{A:aal}(r:dQ (k+1) A)(env:Env):dQ k (A.deeper env):=
 ⟨r.hd,by have:=r.dp;show A.depth+1+3*k+5<_;omega,by have:=r.un;show A.units+3+16*k+200<_;omega,r.gd⟩
theorem Iz{A:aal}{C:Y'}{us:aE}{kw:List (Str×W')}:(A.under (.builtin "type.__call__" ⟨.ref C::us,kw⟩)).depth=A.depth+1:=by
 first|rfl|simp[Around.under,Code.weight,Code.isCreation,Code.isGuard,Code.isCaller,Code.frames,Code.isFrame,guardIds]
theorem IH{A:aal}{C:Y'}{us:aE}{kw:List (Str×W')}:(A.under (.builtin "type.__call__" ⟨.ref C::us,kw⟩)).units=A.units+1:=by
 first|rfl|simp[Around.under,Code.cUnits,Code.frames,Code.isFrame]
theorem F9{A:aal}{C:Y'}{us:aE}{kw:List (Str×W')}{g:List Code}(h:A.guards=some g):(A.under (.builtin "type.__call__" ⟨.ref C::us,kw⟩)).guards=some g:=by
 have e:(Code.builtin "type.__call__" ⟨.ref C::us,kw⟩).guards=[]:=by first|rfl|simp[Code.guards,Code.isGuard,guardIds]
 first
  |(simp only[Around.under,e,pushGuards];exact h)
  |simp[Around.under,e,pushGuards,h]
theorem dQ.make{k:Nat}{A:aal}(r:dQ (k+1) A)(C:Y')(us:aE)(kw:List (Str×W')):dQ k (A.under (.builtin "type.__call__" ⟨.ref C::us,kw⟩)):=
 ⟨r.hd,by have:=r.dp;rw[Iz];omega,by have:=r.un;rw[IH];omega,F9 r.gd⟩
theorem dQ.depth{k:Nat}{A:aal}(r:dQ k A):A.depth<recursionLimit:=by have:=r.dp;omega
theorem dQ.units{k:Nat}{A:aal}(r:dQ k A):A.units+64<cLine:=by have:=r.un;omega
def yF:TA:=λ_ H Q=>Q [] H
def Au(ta:TE)(tr:TA):TA:=λσ H Q=>ta σ H λx H1=>tr σ H1 λxs H2=>Q (x::xs) H2
section
variable{X:Cx}{e:aaa}{es:b_}{te:TE}{t:TA}{pos:Pos}
theorem c_:PA X [] yF:=λ_ _ _ _ H Q I h=>vo ⟨[],H,I,.nil,h⟩
theorem ag(ha:PE X e te)(hr:PA X es t)(hs:starEach (e::es) X.env=(false,eval e X.env)::starEach es X.env:=by rfl):PA X (e::es) (Au te t):=by
 intro pos ad s σ H Q I h;rw[hs];show wpAny _ _ (spliced ((false,eval e X.env)::backTo pos (starEach es X.env))) _ _ s;refine tK (cN (ha ad s σ H _ I h) λu s1 ⟨x,H1,I1,r1,q1⟩=> ?_);exact cN (hr pos ad s1 σ H1 _ I1 q1) λus s2 ⟨xs,H2,I2,r2,q2⟩=>⟨x::xs,H2,I2,.cons r1 r2,q2⟩
def ZZ(t:TA):TE:=λσ H Q=>t σ H λxs H1=>xs.length<=sizeLine/\∀p,H1 p=none->Q (.ref p) (upd H1 p (.tup xs))
def acR(t:TA):TE:=λσ H Q=>t σ H λxs H1=>xs.length<=sizeLine/\∀p,H1 p=none->Q (.ref p) (upd H1 p (.lst xs))
theorem ba{x1}(h:PA X es t):PE X (.Tuple es x1 pos) (ZZ t):=by
 intro ad s σ H Q I hq;refine wpAny_Tuple_spliced (cN (h pos ad s σ H _ I hq) λus s1 ⟨xs,H1,I1,r,z,q⟩=>⟨by rw[<-r.length];exact z,?_⟩);have hf:H1 s1.heap.objs.size=none:=I1.bM.fresh (aJ _);refine⟨.ref s1.heap.objs.size,upd H1 s1.heap.objs.size (.tup xs),I1.laid (t' :=s1.toks) (λb u e=>bg _ e) (aJ _) ?_,Z,q _ hf⟩;exact⟨z,us,r,⟨_,cK _ Z,Z,_,Z⟩⟩
theorem a8(h:PA X es t):PE X (.List es pos) (acR t):=by
 intro ad s σ H Q I hq;refine wpAny_List_spliced (cN (h pos ad s σ H _ I hq) λus s1 ⟨xs,H1,I1,r,z,q⟩=>⟨by rw[<-r.length];exact z,?_⟩);have hf:H1 s1.heap.objs.size=none:=I1.bM.fresh (aJ _);refine⟨.ref s1.heap.objs.size,upd H1 s1.heap.objs.size (.lst xs),I1.laid (t' :=s1.toks) (λb u e=>bg _ e) (aJ _) ?_,Z,q _ hf⟩;exact⟨z,us,0,r,cK _ Z⟩
end
abbrev Sp:=ak->Hp->VK->XK->Prop
abbrev tY:=List Env->Hp->X'->XK->V'
structure Ck(P:aan)(w:aai)(K:Frag)(mg:Str->aM)(base:aam)(A:aal)(outer:List Env)(s:X')(H:Hp):Prop where
 frames:A.frames=some outer
 mod:Mod K mg base
 bs:∀b o,base.get? b=some o->s.heap.get? b=some o/\H b=none
 LF:base.objs.size<=s.heap.objs.size
 rR:s.heap.FunFrames base outer
 P8:∀b∈CK outer,H b=none
 bM:o5 P w H s.heap
 bare:AllBare s.gens
def CE(outer:List Env)(P:aan)(w:aai)(H:Hp)(s:X')(Q:VK)(u:W')(s' :X'):Prop:=
 ∃v H',s'.os=s.os/\AllBare s'.gens/\Un (CK outer) [] H H' s.heap s'.heap/\o5 P w H' s'.heap/\RelV v u/\Q v H'
def CR(CX:tY)(outer:List Env)(P:aan)(w:aai)(H:Hp)(s:X')(Q:VK)(E:XK)(r:Result)(s' :X'):Prop:=
 match r with
 | .ok (.ret u)=>CE outer P w H s Q u s'
 | .ok _=>False
 | .error e=>CX outer H s E e s'
structure aQ(P:aan)(w:aai)(K:Frag)(mg:Str->aM)(base:aam)(CX:tY)(k:Nat)(f:Y')(fd:aap)(ps:aj)(sp:Sp):Prop where
 len:∀vs H Q E,sp vs H Q E->vs.length=ps.length
 run:∀(A:aal) (outer:List Env) (s:X') (H:Hp) (args:Args) (us:aE) (vs:ak) (Q:VK) (E:XK),dQ k A->Ck P w K mg base A outer s H->BindsTo s fd args (ps.zip us)->Vals vs us->sp vs H Q E->
  codeAny (model P w) A (.call (.ref f) args) (CR CX outer P w H s Q E) s
theorem aQ.mono{P:aan}{w:aai}{K:Frag}{mg:Str->aM}{base:aam}{CX:tY}{j k:Nat}{f:Y'}{fd:aap}{ps:aj}{sp:Sp}(F:aQ P w K mg base CX j f fd ps sp)(h:j<=k):
 aQ P w K mg base CX k f fd ps sp:=⟨F.len,λA outer s H args us vs Q E hr=>F.run A outer s H args us vs Q E (hr.mono h)⟩
theorem aQ.imp{P:aan}{w:aai}{K:Frag}{mg:Str->aM}{base:aam}{CX:tY}{k:Nat}{f:Y'}{fd:aap}{ps:aj}{sp sp' :Sp}(F:aQ P w K mg base CX k f fd ps sp)
 (h:∀vs H Q E,sp' vs H Q E->sp vs H Q E):aQ P w K mg base CX k f fd ps sp' :=
 ⟨λvs H Q E q=>F.len vs H Q E (h _ _ _ _ q),λA outer s H args us vs Q E hr he hb hv hs=>F.run A outer s H args us vs Q E hr he hb hv (h _ _ _ _ hs)⟩
theorem Ck.make{P:aan}{w:aai}{K:Frag}{mg:Str->aM}{base:aam}{A:aal}{outer:List Env}{s:X'}{H:Hp}(e:Ck P w K mg base A outer s H)(C:Y')(us:aE)(kw:List (Str×W')):
 Ck P w K mg base (A.under (.builtin "type.__call__" ⟨.ref C::us,kw⟩)) outer s H:=⟨by first|exact e.frames|(simpa[Around.under,Code.envs,Code.isFrame,pushEnvs] using e.frames),e.mod,e.bs,e.LF,e.rR,e.P8,e.bM,e.bare⟩
section
variable{X:Cx}{ad:aR}{σ:St}{H:Hp}{s s' :X'}
theorem Inv.Xy(I:Inv X ad σ H s):Ck X.prog X.w X.K X.mg X.base X.A X.stack s H:=
 ⟨I.ok.frames,I.ok.mod,I.bs,aL I.ok.LF I.sz,I.stack,I.u_,I.bM,I.bare⟩
theorem Inv.after{Q:VK}{u:W'}(I:Inv X ad σ H s)(h:CE X.stack X.prog X.w H s Q u s'):EP X ad σ Q u s' :=by
 obtain⟨v,H',os,bare,un,bM,r,q⟩:=h;obtain⟨hh,g,d,t,os'⟩:=s';obtain rfl:os' =s.os:=os;exact⟨v,H',I.call (h' :=hh) (g' :=g) (d' :=d) (t' :=t) (ch:=[]) un bM bare (λb z=>absurd z (by simp)),r,q⟩
end
def F1(sp:Sp)(dvs:ak)(E:XK)(t:TA):TE:=λσ H Q=>t σ H λvs H1=>sp (vs++dvs) H1 Q E
def U5(C:Y')(m:Str)(sp:Sp)(dvs:ak)(E:XK)(ta:TE)(t:TA):TE:=λσ H Q=>ta σ H λx H1=>∃a dx fs,x= .ref a/\H1 a=some (.ins C dx fs)/\fs.lookup m=none/\
 t σ H1 λvs H2=>sp (x::(vs++dvs)) H2 Q E
def acO(C:Y')(sp:Sp)(dvs:ak)(E:XK)(t:TA):TE:=λσ H Q=>t σ H λvs H1=>∀x dx,H1 x=none->H1 dx=none->dx≠x->
 sp (.ref x::(vs++dvs)) (upd (upd H1 dx (.own x)) x (.ins C dx [])) (λv H2=>v= .bV/\Q (.ref x) H2) E
def Binds(K:Frag)(fd:aap)(ps:aj)(ds:aE):Prop:=
 ∀(s:X') (us:aE),K.In s.heap->(us++ds).length=ps.length->BindsTo s fd ⟨us,[]⟩ (ps.zip (us++ds))
theorem Binds.all{K:Frag}{fd:aap}{ps:aj}(h:∀us:aE,us.length=ps.length->bindArgs fd ⟨us,[]⟩=pure (ps.zip us)):Binds K fd ps []:=λs us _ hl=>by
 rw[bZ] at hl ⊢;exact .of_eq (h us hl)
def wn(CX:tY)(X:Cx)(E:XK):Prop:=∀(ad:aR) (σ:St) (H:Hp) (s:X') (e:W') (s' :X'),Inv X ad σ H s->CX X.stack H s E e s'->X.xe e s'
section
variable{X:Cx}{CX:tY}{k:Nat}{f C:Y'}{fd:aap}{ps:aj}{sp:Sp}{dvs:ak}{ds:aE}{E:XK}{x m:Str}{p pos apos:Pos}{e o:aaa}{es:b_}{ta:TE}{t:TA}
theorem Ad{ad:aR}{σ:St}{H:Hp}{s:X'}{Q:VK}{us:aE}{vs:ak}(F:aQ X.prog X.w X.K X.mg X.base CX k f fd ps sp)(hr:dQ k X.A)(hb:Binds X.K fd ps ds)(hd:Vals dvs ds)(hx:wn CX X E)
 (I:Inv X ad σ H s) (r:Vals vs us) (h:sp (vs++dvs) H Q E):wpAny (model X.prog X.w) X.A (call (.ref f) us) (EP X ad σ Q) X.xe s:=by
 have r2:Vals (vs++dvs) (us++ds):=r.append hd;have hl:(us++ds).length=ps.length:=by rw[<-r2.length];exact F.len _ _ _ _ h
 refine oh (n8 (F.run X.A X.stack s H ⟨us,[]⟩ (us++ds) (vs++dvs) Q E hr I.Xy (hb s us I.kZ hl) r2 h) λr s' hq=> ?_)
 cases r with
 |error e=>exact hx ad σ H s e s' I hq
 |ok fl=>
  cases fl with
  |ret u=>exact I.after hq
  |next=>exact False.elim hq
  |brk=>exact False.elim hq
  |cont=>exact False.elim hq
theorem JZ(F:aQ X.prog X.w X.K X.mg X.base CX k f fd ps sp)(hr:dQ k X.A)(hg:Gl X x)(hm:X.mg x=some (.ref f))(hk:PySem.W.keepIn X.K (.ref f)=true)(hb:Binds X.K fd ps ds)(hd:Vals dvs ds)(hx:wn CX X E)
 (ha:PA X (e::es) t) (ua:(x==("__debug__" :Str))=false:=by decide) (he:starEach (e::es) X.env=(false,eval e X.env)::starEach es X.env:=by rfl) (jY:(backTo pos (starEach es X.env)).any (·.1)=false:=by rfl):
 PE X (.Call (.Name x p) (e::es) [] pos) (F1 sp dvs E t):=by
 intro ad s σ H Q I h;refine mv (mh I hg hm ?_ ua);refine qX (h₀:=X.base) I.ok.mod.tZ hk (cN (ha pos ad s σ H _ I h) λus s1 ⟨vs,H1,I1,r,q⟩=>⟨I1.kZ,?_⟩) he jY;exact Ad F hr hb hd hx I1 r q
theorem N7{pl:Sem Bool}(he:PE X o ta)(c:Nb X.K C)(hm:Meth X.K C m f)(F:aQ X.prog X.w X.K X.mg X.base CX k f fd ps sp)(hr:dQ k X.A)(hb:Binds X.K fd ps ds)(hd:Vals dvs ds)(hx:wn CX X E)
 (ht:eval (.Call (.Attribute o m apos) [] [] pos) X.env=(do
  let ov<-eval o X.env
  standAt apos.atName
  let(f,first)<-holding [ov] (getMethod ov m pl)
  callWith pos f first (backTo pos (starEach [] X.env)) (backToKw pos (keywordEach [] X.env))):=by rfl):
 PE X (.Call (.Attribute o m apos) [] [] pos) (U5 C m sp dvs E ta yF):=by
 intro ad s σ H Q I h;refine methodCall_KW (pl:=pl) (cN (he ad s σ H _ I h) λu s1 ⟨x,H1,I1,rx,a,dx,fs,ex,ea,l,q⟩=> ?_) ht;subst ex;obtain rfl:u=Value.ref a:=rx;refine H_ I1 ea c hm l ?_;exact PySem.W.callWith_K0 (first:=[.ref a]) I1.kZ hm.kp (Ad (us:=[.ref a]) (vs:=[.ref a]) F hr hb hd hx I1 (.cons Z .nil) q)
structure Mk(K:Frag)(C f:Y'):Prop where
 makes:makesIn K C=true
 init:PySem.W.findIn K (.ref C) "__init__"=some (some (.ref f))
 fn:PySem.W.isFn K (.ref f)=true
 kp:PySem.W.keepIn K (.ref C)=true
theorem Ov{ad:aR}{σ:St}{H:Hp}{s:X'}{Q:VK}{us:aE}{vs:ak}(M:Mk X.K C f)(F:aQ X.prog X.w X.K X.mg X.base CX k f fd ps sp)(hr:dQ (k+1) X.A)(hb:Binds X.K fd ps ds)(hd:Vals dvs ds)
 (hx:wn CX X E) (I:Inv X ad σ H s) (r:Vals vs us)
 (h:∀x dx,H x=none->H dx=none->dx≠x->sp (.ref x::(vs++dvs)) (upd (upd H dx (.own x)) x (.ins C dx [])) (λv H2=>v= .bV/\Q (.ref x) H2) E):
 wpAny (model X.prog X.w) X.A (call (.ref C) us) (EP X ad σ Q) X.xe s:=by
 have hq:=h (s.heap.objs.size+1) s.heap.objs.size (I.bM.fresh (nT _)) (I.bM.fresh (aJ _)) (bY (zA _));have I2:=Inv.made (C:=C) I;have r2:Vals (V.ref (s.heap.objs.size+1)::(vs++dvs)) (Value.ref (s.heap.objs.size+1)::(us++ds)):= .cons Z (r.append hd)
 have hl:(Value.ref (s.heap.objs.size+1)::us++ds).length=ps.length:=by
  have e:=r2.length;rw[F.len _ _ _ _ hq] at e;exact e.symm
 refine oh (PD (f:=f) I.kZ M.makes M.init (rD.mp M.fn) (n8 (F.run _ X.stack _ _ ⟨Value.ref (s.heap.objs.size+1)::us,[]⟩ (Value.ref (s.heap.objs.size+1)::(us++ds)) _ _ E (hr.make C us [])
  (I2.Xy.make C us []) (hb _ (Value.ref (s.heap.objs.size+1)::us) I2.kZ hl) r2 hq) λr s' PU => ?_))
 cases r with
 |error e=>exact hx ad σ _ _ e s' I2 PU
 |ok fl=>
  cases fl with
  |ret u=>
   obtain⟨v,H',I3,rv,ev,q3⟩:=I2.after PU;subst ev;exact⟨rv,⟨V.ref (s.heap.objs.size+1),H',I3,Z,q3⟩⟩
  |next=>exact False.elim PU
  |brk=>exact False.elim PU
  |cont=>exact False.elim PU
theorem EF(M:Mk X.K C f)(F:aQ X.prog X.w X.K X.mg X.base CX k f fd ps sp)(hr:dQ (k+1) X.A)(hg:Gl X x)(hm:X.mg x=some (.ref C))(hb:Binds X.K fd ps ds)(hd:Vals dvs ds)(hx:wn CX X E)
 (ha:PA X (e::es) t) (ua:(x==("__debug__" :Str))=false:=by decide) (he:starEach (e::es) X.env=(false,eval e X.env)::starEach es X.env:=by rfl) (jY:(backTo pos (starEach es X.env)).any (·.1)=false:=by rfl):
 PE X (.Call (.Name x p) (e::es) [] pos) (acO C sp dvs E t):=by
 intro ad s σ H Q I h;refine mv (mh I hg hm ?_ ua);refine qX (h₀:=X.base) I.ok.mod.tZ M.kp (cN (ha pos ad s σ H _ I h) λus s1 ⟨vs,H1,I1,r,q⟩=>⟨I1.kZ,?_⟩) he jY;exact Ov M F hr hb hd hx I1 r q
end
section
variable{X:Cx}{CX:tY}{k:Nat}{f C:Y'}{fd:aap}{ps ks:aj}{sp:Sp}{E:XK}{x m:Str}{p pos apos alY:Pos}{e o:aaa}{es:b_}{kws:List Keyword}{te ta:TE}{t tk:TA}{nm:Option Str}
variable{g:aE->aE->aE}{gV:ak->ak->ak}
end
structure aC(N P:aj)(sc:Scope):Prop where
 kind:sc.kind= .function
 co:sc.isCoroutine=false
 gen:sc.isGenerator=false
 nd:N.Nodup
 pre:N.take P.length=P
 par:∀x∈P,sc.names.lookup x=some .local\/sc.names.lookup x=some .cell
 Ww:∀y∈sc.names,y.2≠.free
theorem C8{kindOf:Str->Option NameKind}{x:Str}:∀{binds:List (Str×W')} {m:Str->aM},(∀v,(x,v)∉binds)->bindL kindOf binds m x=m x
 |[],_,_=>rfl
 |(n,v)::r,m,h=>by
  unfold bindL;rw[C8 λw hw=>h w (a7 _ hw)]
  split
  .have:x≠n:=by rintro rfl;exact h v a9
   simp[this]
  .rfl
theorem DJ{kindOf:Str->Option NameKind}{x:Str}:∀{binds:List (Str×W')} {m:Str->aM},(∀v,(x,v)∉binds)->bindC kindOf binds m x=m x
 |[],_,_=>rfl
 |(n,v)::r,m,h=>by
  unfold bindC;rw[DJ λw hw=>h w (a7 _ hw)]
  split
  .rfl
  .have:x≠n:=by rintro rfl;exact h v a9
   simp[this]
theorem CP{kindOf:Str->Option NameKind}{x:Str}{v:W'}:∀{P:aj} {vs:aE} {i:Nat} {m:Str->aM},P.Nodup->P[i]? =some x->vs[i]? =some v->kindOf x=some .local->
 bindL kindOf (P.zip vs) m x=some v
 |[],_,_,_,_,h,_,_=>by simp at h
 |_::_,[],_,_,_,_,h,_=>by simp at h
 |p::P,w::vs,0,m,nd,h1,h2,hk=>by
  simp at h1 h2;subst h1;subst h2
  show bindL kindOf ((p,w)::P.zip vs) m p=_;unfold bindL;rw[C8 λv hv=>(fN.mp nd).1 (zL hv).1,ay hk];simp
 |p::P,w::vs,i+1,m,nd,h1,h2,hk=>by
  show bindL kindOf ((p,w)::P.zip vs) m x=_;unfold bindL;exact CP (i:=i) (fN.mp nd).2 (by simpa using h1) (by simpa using h2) hk
theorem DU{kindOf:Str->Option NameKind}{x:Str}{v:W'}:∀{P:aj} {vs:aE} {i:Nat} {m:Str->aM},P.Nodup->P[i]? =some x->vs[i]? =some v->kindOf x≠some .local->
 bindC kindOf (P.zip vs) m x=some v
 |[],_,_,_,_,h,_,_=>by simp at h
 |_::_,[],_,_,_,_,h,_=>by simp at h
 |p::P,w::vs,0,m,nd,h1,h2,hk=>by
  simp at h1 h2;subst h1;subst h2
  show bindC kindOf ((p,w)::P.zip vs) m p=_;unfold bindC;rw[DJ λv hv=>(fN.mp nd).1 (zL hv).1,aq hk];simp
 |p::P,w::vs,i+1,m,nd,h1,h2,hk=>by
  show bindC kindOf ((p,w)::P.zip vs) m x=_;unfold bindC;exact DU (i:=i) (fN.mp nd).2 (by simpa using h1) (by simpa using h2) hk
noncomputable def start(N:aj)(vs:ak):St:=vs.map some++List.replicate (N.length - vs.length) none
noncomputable def mQ(CX:tY)(P:aan)(w:aai)(K:Frag)(mg:Str->aM)(base:aam)(N:aj)(qual:Str)(scope:Scope)(f:Y')(cd:W')(A:aal)(outer:List Env)(s:X')(H:Hp)(E:XK):Cx where
 prog:=P
 w:=w
 K:=K
 mg:=mg
 base:=base
 A:=A.deeper (envOfC qual scope s.heap.objs.size f cd)
 N:=N
 fG:=s
 H₀:=H
 env:=envOfC qual scope s.heap.objs.size f cd
 outer:=outer
 stack:=envOfC qual scope s.heap.objs.size f cd::outer
 ex:=[]
 calm:=true
 fn:=λ_=>true
 pn:=[]
 xe:=λe s' =>wpAny (model P w) (A.deeper (envOfC qual scope s.heap.objs.size f cd)) (leaving (envOfC qual scope s.heap.objs.size f cd) e) (λ_ OU =>CX outer H s E e OU) (λe' OU =>CX outer H s E e' OU) s'
theorem Hl{sc:Scope}{n:Nat}{x:Str}(h:sc.names.lookup x=some .cell):∃c,(cellsFrom n sc.names []).lookup x=some c:=by
 have q:=cellsFrom_some sc.names n [] (.inl h);exact Option.isSome_iff_exists.mp q
theorem KW{CX:tY}{P:aan}{w:aai}{K:Frag}{mg:Str->aM}{base:aam}{N ps:aj}{qual:Str}{scope:Scope}{f:Y'}{cd:W'}{A:aal}{outer:List Env}{s s1:X'}{H:Hp}{E:XK}{us:aE}{vs:ak}
 (S:aC N ps scope) (hd:A.handled=none) (e0:Ck P w K mg base A outer s H) (hl:vs.length=ps.length) (r:Vals vs us)
 (x:InCallC s s.heap.objs.size (bindL (envOfC qual scope s.heap.objs.size f cd).kindOf (ps.zip us) λ_=>none) (cellsFrom (s.heap.objs.size+1) scope.names []) (bindC (envOfC qual scope s.heap.objs.size f cd).kindOf (ps.zip us) λ_=>none) s1):
 Inv (mQ CX P w K mg base N qual scope f cd A outer s H E) [] (start N vs) H s1:=by
 have jY:ps.length<=N.length:=by have:=congrArg List.length S.pre;rw[oE] at this;omega
 obtain⟨h1,tk,rfl,hk⟩:=x.done;have QO:∀b:Y',b∉(mQ CX P w K mg base N qual scope f cd A outer s H E).ex:=λb z=>absurd (show b∈([]:bh) from z) (by simp)
 refine⟨⟨e0.mod,S.kind,Z,Z,aJ _,λy z c h1 h2=> ?_,λy hy=> ?_,λy c _ h=> ?_,λ_=>hd,Around.frames_deeper e0.frames,.inr ⟨Z,Z⟩,λb z=>absurd z (QO b),e0.bs,e0.LF,λb _ _=>QO b,λb z=>absurd z (QO b),e0.rR,e0.P8⟩,
  rfl,e0.bare,Un.kept hk,⟨_,x.toInCall.ns,λi y v h1 h2 h3=> ?_⟩,λy c h=>⟨_,x.cell y c h⟩,e0.bM.fresh (aJ _),λy c h=> ?_,λp hp=>absurd (show p∈([]:aR) from hp) (by simp),e0.bM.kept hk,?_⟩
 .exact name_of_addr x.apart (D' h1) (D' h2)
 .have hy:scope.names.lookup y=some .cell\/scope.names.lookup y=some .free:=hy;rcases hy with hy|hy
  .exact Hl hy
  .exact absurd Z (S.Ww _ (D' hy))
 .exact cV (x.above y c (D' h))
 .have hi:i<vs.length:=by
   unfold start at h2;by_cases hi:i<vs.length
   .exact hi
   .rw[gS (by simpa using hi)] at h2;rw[tm] at h2
    split at h2<;>cases h2
  have ha:vs[i]? =some v:=by
   unfold start at h2;rw[fz (by simpa using hi),bG] at h2
   cases e:vs[i]? with
   |none=>rw[e] at h2;cases h2
   |some a=>rw[e] at h2;cases h2;rfl
  obtain⟨u,hu,rv⟩:=r.get ha
  have hp:ps[i]? =some y:=by
   rw[<-S.pre,List.getElem?_take_of_lt (by omega)];exact h1
  have ndP:ps.Nodup:=by rw[<-S.pre];exact S.nd.sublist (List.take_sublist _ _)
  refine⟨u,rv,?_⟩;rcases S.par y (bt hp) with k|k
  .exact .inl ⟨k,CP ndP hp hu k⟩
  .obtain⟨c,e⟩:=Hl (n:=s.heap.objs.size+1) k;refine .inr ⟨.inl k,c,e,?_⟩;have q:=x.cell y c e;rw[DU ndP hp hu (by show scope.names.lookup y≠_;rw[k];decide)] at q;exact q
 .exact e0.bM.fresh (cV (x.above y c (D' h)))
 .unfold start;show _=N.length;rw[aT,aG,eV];omega
theorem JP{CX:tY}{P:aan}{w:aai}{K:Frag}{mg:Str->aM}{base:aam}{k:Nat}{f:Y'}{name qual:Str}{params:Arguments}{body:List Stmt}{scope:Scope}{dV kV doc pm cC ct oc:W'}{an od:Option Y'}
 {xF:Array (aM)} {N ps:aj} {sp:Sp} (lk:K.lookup f=some ⟨oc,od,.func (PySem.W.fnOf name qual params body scope dV kV doc pm an cC ct),xF⟩) (AG:PySem.W.codeIn K cC qual=true) (S:aC N ps scope)
 (len:∀vs H Q E,sp vs H Q E->vs.length=ps.length)
 (gI:∀(A:aal) (outer:List Env) (s:X') (H:Hp) (vs:ak) (Q:VK) (E:XK),dQ k (A.deeper (envOfC qual scope s.heap.objs.size f cC))->sp vs H Q E->
  ∃t,DE (mQ CX P w K mg base N qual scope f cC A outer s H E) body t/\t {nx:=λ_ H' =>Q .bV H',rt:=Q} (start N vs) H):
 aQ P w K mg base CX (k+1) f (PySem.W.fnOf name qual params body scope dV kV doc pm an cC ct) ps sp:=by
 refine⟨len,λA outer s H args us vs Q E hr e0 hb r DW=> ?_⟩;have hl:=len _ _ _ _ DW;have KX:K.In s.heap:=e0.mod.tZ.keeps λb o e=>(e0.bs b o e).1;have lim:s.heap.NoLimit:=e0.mod.nolimit.keeps λb o e=>(e0.bs b o e).1
 have acp:∀y∈ps.zip us,scope.names.lookup y.1=some .local\/(scope.names.lookup y.1=some .cell/\((cellsFrom (s.heap.objs.size+1) scope.names []).lookup y.1).isSome=true):=λ⟨n,v⟩ hy=>by
  rcases S.par n (zL hy).1 with q|q
  .exact .inl q
  .exact .inr ⟨q,cellsFrom_some _ _ _ (.inl q)⟩
 refine codeAny_call_function hr.depth (KX _ _ lk) Z S.co S.gen Z (PySem.W.codeRec_of KX AG) (hb _ _ _ _ ?_);refine wpAny_newFunctionEnv_cells S.kind acp λenv he s1 x=> ?_;subst he;refine⟨lim.keeps x.toInCall.keep,codeAny_func ?_⟩;obtain⟨t,ht,hq⟩:=gI A outer s H vs Q E (hr.deeper _) DW;have I:Inv (mQ CX P w K mg base N qual scope f cC A outer s H E) [] (start N vs) H s1:=KW S hr.hd e0 hl r x;refine fM (ht [] s1 (start N vs) H _ I hq) (λfl s' hs=> ?_) λe s' hs=>hs
 have fin:∀{eO :St} {H' :Hp} {v:V} {u:W'},Inv (mQ CX P w K mg base N qual scope f cC A outer s H E) [] eO H' s'->RelV v u->Q v H'->CE outer P w H s Q u s' :=
  λ{eO H' v u} J rv q=>⟨v,H',J.os,J.bare,J.base,J.bM,rv,q⟩
 cases fl with
 |ret u=>
  obtain⟨v,eO,H',J,rv,q⟩:=hs;exact fin J rv q
 |next=>
  obtain⟨eO,H',J,q⟩:=hs;exact fin (v:=V.bV) (u:=Value.none) J Z q
 |brk=>
  obtain⟨_,_,_,q⟩:=hs;exact False.elim q
 |cont=>
  obtain⟨_,_,_,q⟩:=hs;exact False.elim q
section
variable{X:Cx}{x:Str}{p pos:Pos}{e:aaa}{es:b_}{t:TA}{id T:String}{r:ak->Hp->VK->Prop}
def tCB(r:ak->Hp->VK->Prop)(t:TA):TE:=λσ H Q=>t σ H λvs H1=>r vs H1 Q
theorem O0(hc:ij X (.builtin id) r)(hg:Gl X x)(hm:X.mg x=none)(hv:bootBuiltins x=some (.builtin id))(ha:PA X (e::es) t)(hn:x≠ "__name__":=by decide)(ua:(x==("__debug__" :Str))=false:=by decide)
 (he:starEach (e::es) X.env=(false,eval e X.env)::starEach es X.env:=by rfl) (jY:(backTo pos (starEach es X.env)).any (·.1)=false:=by rfl):PE X (.Call (.Name x p) (e::es) [] pos) (tCB r t):=by
 intro ad s σ H Q I h;refine mv (nB I hg hm hv ?_ hn ua);exact JV (cN (ha pos ad s σ H _ I h) λus s1 ⟨vs,H1,I1,r1,q1⟩=>hc ad s1 σ H1 vs us Q I1 r1 q1) he jY
theorem Mb(hc:ij X (.type T) r)(hg:Gl X x)(hm:X.mg x=none)(hv:bootBuiltins x=some (.type T))(ha:PA X (e::es) t)(hn:x≠ "__name__":=by decide)(ua:(x==("__debug__" :Str))=false:=by decide)
 (he:starEach (e::es) X.env=(false,eval e X.env)::starEach es X.env:=by rfl) (jY:(backTo pos (starEach es X.env)).any (·.1)=false:=by rfl):PE X (.Call (.Name x p) (e::es) [] pos) (tCB r t):=by
 intro ad s σ H Q I h;refine mv (nB I hg hm hv ?_ hn ua);exact wF (cN (ha pos ad s σ H _ I h) λus s1 ⟨vs,H1,I1,r1,q1⟩=>hc ad s1 σ H1 vs us Q I1 r1 q1) he jY
end
end L2
namespace HT
open PySem PyProof.Rows
section
open PySem.SeqAt
open PySem.AutoSeq1 (wpAny_loadPart')
open PySem.MeetsSeq PySem.MeetsSeq2 PySem.MeetsSeq3
end
section
variable{prog:aan}{w:aai}{A:aal}{E:V'}{s:X'}
theorem Rl{t b:Y'}{vs ws:aE}{Q:V'}(ht:IsTup s.heap t vs.toArray)(hb:IsTup s.heap b ws.toArray)(hv:vs≠[])
 (h1:ws=[]->Q (.ref t) s) (h2:ws≠[]->Q (.ref s.heap.objs.size) {s with heap:=s.heap.push {cls:= .type "tuple",data:= .seq (vs++ws).toArray}})
 (pd:vs.length+ws.length<=sizeLine):wpAny (model prog w) A (binaryOp .Add (.ref t) (.ref b)) Q E s:=by
 obtain⟨⟨cls,dd,data,sl⟩,ho,hc,n,hd⟩:=id ht;obtain⟨⟨anC,XY,data2,sl2⟩,VA,hc2,n2,hd2⟩:=id hb;simp only at hc hd hc2 hd2;subst hc hd hc2 hd2;have e:vs.toArray++ws.toArray=(vs++ws).toArray:=by simp
 by_cases hw:ws=[]
 .exact concat_meets ⟨_,ho,Z⟩ ⟨_,VA,Z⟩ noFill_tuple_add seq_tuple_add slot_tuple_add entry_tuple_add (args_tuple_add_2 _ _)
   (tuple_addW1 t b vs.toArray ws.toArray n n2 dd XY sl sl2 (by simpa using hv) (by simp[hw])) ⟨ho,VA,h1 hw⟩
 .refine concat_meets ⟨_,ho,Z⟩ ⟨_,VA,Z⟩ noFill_tuple_add seq_tuple_add slot_tuple_add entry_tuple_add (args_tuple_add_2 _ _)
   (tuple_addW2 t b vs.toArray ws.toArray n n2 dd XY sl sl2 (by simpa using hv) (by simpa using hw) (by rw[bC,bC];exact pd)) ⟨ho,VA,?_⟩
  rw[e];exact h2 hw
noncomputable def gw(n d:Nat):Option Int->Nat
 |none=>d
 |some v=>if v<0 then(v+(n:Int)).toNat else min v.toNat n
theorem AF(n d:Nat):gw n d none=d:=rfl
theorem nY(n d k:Nat):gw n d (some (k:Int))=min k n:=by
 show(if(k:Int)<0 then((k:Int)+(n:Int)).toNat else min (k:Int).toNat n)=min k n;rw[aq (by omega),mD]
theorem Xd(n d:Nat)(hd:d<=n)(o:Option Int):gw n d o<=n:=by
 cases o with
 |none=>exact hd
 |some v=>
  show(if v<0 then(v+(n:Int)).toNat else min v.toNat n)<=n;by_cases hv:v<0
  .rw[ay hv];omega
  .rw[aq hv];exact Nat.min_le_right _ _
theorem JL(v:Int)(n d:Nat):(if v<0 then max (v+(n:Int)) 0 else min v (n:Int))=((gw n d (some v):Nat):Int):=by
 show(if v<0 then max (v+(n:Int)) 0 else min v (n:Int))=(((if v<0 then(v+(n:Int)).toNat else min v.toNat n):Nat):Int);by_cases hv:v<0
 .simp only[ay hv];omega
 .simp only[aq hv];omega
theorem Jx(lo hi:Option Int)(n:Nat):Builtin.Slice.sliceAdjust lo hi 1 (n:Int)=(((gw n 0 lo:Nat):Int),((gw n n hi:Nat):Int)):=by
 have h1:¬((1:Int)<0):=by omega
 unfold Builtin.Slice.sliceAdjust;simp only[h1,me];refine Prod.ext ?_ ?_
 .cases lo with
  |none=>rfl
  |some v=>exact JL v n 0
 .cases hi with
  |none=>rfl
  |some v=>exact JL v n n
theorem HQ(i j:Nat):Builtin.Slice.slicePlaces (i:Int) (j:Int) 1=j - i:=by
 unfold Builtin.Slice.slicePlaces;have h1:(1:Int)>0:=by omega
 simp only[h1,oz,Int.ediv_one]
 split<;>omega
theorem Aw{v:W'}{o:Option Int}{Q:Option Int->X'->Prop}(p:IsPart v o)(h:Q o s):wpAny (model prog w) A (Builtin.Slice.slicePartIndex v) Q E s:=by
 cases p with
 |none=>exact slicePart_none h
 |int i t=>exact slicePart_int h
theorem mY{sl:Y'}{vl vu:W'}{lo hi:Option Int}{n:Nat}{Q:Int×Int×Nat->X'->Prop}(hs:s.heap.IsSliceOf sl vl vu .none)(pl:IsPart vl lo)(pu:IsPart vu hi)
 (h:Q (((gw n 0 lo:Nat):Int),1,gw n n hi - gw n 0 lo) s):wpAny (model prog w) A (Builtin.Slice.sliceApplied (.ref sl) (pure (n:Int))) Q E s:=by
 obtain⟨os,X2,hcs,Tp⟩:=id hs;unfold Builtin.Slice.sliceApplied Builtin.Slice.sliceFields;refine av (av (cP X2 Tp (x:=vl) Z (av (cP X2 Tp (x:=vu) Z (av (cP X2 Tp (x:= .none) Z (aW ?_)))))));refine av (slicePart_none ?_);show wpAny _ _ (if((1:Int)==0)=true then _ else _) _ _ s;rw[aq (by decide)];refine av (Aw pl (av (Aw pu (av (aW ?_)))));show wpAny _ _ (match Builtin.Slice.sliceAdjust lo hi 1 (n:Int) with|(lo,hi)=>pure (lo,(1:Int),Builtin.Slice.slicePlaces lo hi 1)) _ _ s;rw[Jx lo hi n];show wpAny _ _ (pure (((gw n 0 lo:Nat):Int),(1:Int),Builtin.Slice.slicePlaces ((gw n 0 lo:Nat):Int) ((gw n n hi:Nat):Int) 1)) _ _ s;rw[HQ];exact aW h
theorem OS(xs:Array W')(i k:Nat):((List.range k).filterMap λ(m:Nat)=>xs[((i:Int)+(m:Int)*1).toNat]?).toArray=((xs.toList.drop i).take k).toArray:=by
 have e:(λ(m:Nat)=>xs[((i:Int)+(m:Int)*1).toNat]?)=λm=>xs[i+m]? :=by
  funext m
  have:((i:Int)+(m:Int)*1).toNat=i+m:=by omega
  rw[this]
 rw[e];have:=pick_run xs i k;rw[List.filterMap_map] at this;have e2:((λx=>xs[x]?) ∘ λx=>i+x)=λm=>xs[i+m]? :=rfl;rw[e2] at this;rw[this]
theorem uU{t sl:Y'}{items:Array W'}{vl vu:W'}{lo hi:Option Int}{Q:V'}(ht:IsTup s.heap t items)(hs:s.heap.IsSliceOf sl vl vu .none)(pl:IsPart vl lo)(pu:IsPart vu hi)
 (hw:¬(gw items.size 0 lo=0/\gw items.size items.size hi=items.size))
 (h:Q (.ref s.heap.objs.size) {s with heap:=s.heap.push {cls:= .type "tuple",data:= .seq ((items.toList.drop (gw items.size 0 lo)).take (gw items.size items.size hi - gw items.size 0 lo)).toArray}})
 (pd:items.size<=sizeLine):wpAny (model prog w) A (getItem (.ref t) (.ref sl)) Q E s:=by
 have J9:sizeOk (.seq ((items.toList.drop (gw items.size 0 lo)).take (gw items.size items.size hi - gw items.size 0 lo)).toArray):=by
  show((items.toList.drop (gw items.size 0 lo)).take (gw items.size items.size hi - gw items.size 0 lo)).toArray.size<=sizeLine;rw[bC,oE,nS,vP];omega
 have hj:gw items.size items.size hi<=items.size:=Xd _ _ (aJ _) hi;obtain⟨os,X2,hcs,Tp⟩:=id hs;have Zc:s.TypeIs (.ref sl) "slice":=⟨os,X2,hcs⟩;unfold getItem
 try with_reducible refine jF ?_
 first|refine av (aW ?_)|skip
 refine av (wpAny_sequenceKey ht.typeIs (by decide) ?_)
 refine av (wH (name:=Str.ofString "__getitem__") ht.typeIs wt
  (tV wt ht.typeIs entry_tuple_getitem ?_ (args_tuple_getitem _ _)))
 show wpAny _ _ (Builtin.Tuple.tupleItemsOf (.ref t)>>= _) _ _ s;refine av (tupleItemsOf_ ht ?_);refine av (wpAny_typeOf Zc ?_);rw[ay (by decide)];refine av (mY hs pl pu ?_)
 have hno:¬((((gw items.size 0 lo:Nat):Int)==0&&(1:Int)==1&&(gw items.size items.size hi - gw items.size 0 lo)==items.size)=true):=by
  intro q;rw[cL,cL] at q;have q1:((gw items.size 0 lo:Nat):Int)=0:=eq_of_beq q.1.1;have q2:gw items.size items.size hi - gw items.size 0 lo=items.size:=eq_of_beq q.2;exact hw ⟨by omega,by omega⟩
 show wpAny _ _ (if(((gw items.size 0 lo:Nat):Int)==0&&(1:Int)==1&&(gw items.size items.size hi - gw items.size 0 lo)==items.size)=true then _ else _) _ _ s;rw[aq hno,OS]
 first
  |exact av (m:=Builtin.Tuple.tupleExact _) (nX (aW ⟨_,rfl,aW h⟩) J9)
  |exact av (m:=Builtin.Tuple.tupleExact _) (nX (av (aW (aW ⟨_,rfl,aW h⟩))) J9)
  |exact av (av (m:=Builtin.Tuple.tupleExact _) (nX (aW (aW ⟨_,rfl,aW h⟩)) J9))
  |exact av (av (m:=Builtin.Tuple.tupleExact _) (nX (aW ⟨_,rfl,aW h⟩) J9))
end
end HT
namespace L2
open PySem PySem.Spec PyProof.Rows
abbrev TO:=St->Hp->(Option Int->Hp->Prop)->Prop
def PO(X:Cx)(e:Option aaa)(t:TO):Prop:=
 ∀(ad:aR) (s:X') (σ:St) (H:Hp) (Q:Option Int->Hp->Prop),Inv X ad σ H s->t σ H Q->
  wpAny (model X.prog X.w) X.A (evalPart e X.env) (λu s' =>∃o H',Inv X ad σ H' s'/\IsPart u o/\Q o H') X.xe s
def RE:TO:=λ_ H Q=>Q none H
def aas(t:TE):TO:=λσ H Q=>t σ H λx H1=>∃i,x= .int i/\Q (some i) H1
section
variable{X:Cx}{e:aaa}{te:TE}{lo hi:Option aaa}{tl th:TO}{pos p2:Pos}
theorem fj:PO X none RE:=by
 intro ad s σ H Q I h;rw[evalPart_none];exact aW ⟨none,H,I,.none,h⟩
theorem eA(h:PE X e te):PO X (some e) (aas te):=by
 intro ad s σ H Q I hw;rw[evalPart_some];refine cN (h ad s σ H _ I hw) λu s1 ⟨x,H1,I1,r1,q1⟩=> ?_;obtain⟨i,rfl,q⟩:=q1;obtain⟨t,rfl⟩:=r1;exact⟨some i,H1,I1,.int i t,q⟩
def Z1(X:Cx)(r:V->Option Int->Option Int->Hp->VK->Prop):Prop:=
 ∀(ad:aR) (s:X') (σ:St) (H:Hp) (x:V) (v vl vu:W') (lo hi:Option Int) (sl:Y') (Q:VK),Inv X ad σ H s->RelV x v->s.heap.IsSliceOf sl vl vu .none->IsPart vl lo->IsPart vu hi->r x lo hi H Q->
  ∃T id,typeLookup (.type T) "__getitem__"=pure (some (.builtin id))/\s.TypeIs v T/\wpAny (model X.prog X.w) X.A (getItem v (.ref sl)) (EP X ad σ Q) X.xe s
def tSl(r:V->Option Int->Option Int->Hp->VK->Prop)(te:TE)(tl th:TO):TE:=λσ H Q=>te σ H λx H1=>tl σ H1 λl H2=>th σ H2 λu H3=>r x l u H3 Q
theorem dj{r:V->Option Int->Option Int->Hp->VK->Prop}(hr:Z1 X r)(he:PE X e te)(hl:PO X lo tl)(hu:PO X hi th):PE X (.Subscript e (.Slice lo hi none p2) pos) (tSl r te tl th):=by
 intro ad s σ H Q I h;refine Subscript_ (cN (he ad s σ H _ I h) λv s1 ⟨x,H1,I1,r1,q1⟩=> ?_);refine wpAny_Slice (cN (hl ad s1 σ H1 _ I1 q1) λvl s2 ⟨l,H2,I2,pl,q2⟩=>cN (hu ad s2 σ H2 _ I2 q2) λvu s3 ⟨u,H3,I3,pu,q3⟩=> ?_);rw[evalPart_none];refine aW ?_;have I4:Inv X ad σ H3 {s3 with heap:=s3.heap.push {cls:= .type "slice",data:= .fields #[vl,vu,.none]}}:=I3.kept (t' :=s3.toks) λb ob q=>bg _ q;obtain⟨T,id,hT,ht,hg⟩:=hr ad {s3 with heap:=s3.heap.push {cls:= .type "slice",data:= .fields #[vl,vu,.none]}} σ H3 x v vl vu l u s3.heap.objs.size Q I4 r1 (Heap.IsSliceOf.new ..) pl pu q3;show wpAny (model X.prog X.w) X.A (subscriptTail e (.Slice lo hi none p2) v (.ref s3.heap.objs.size)) (EP X ad σ Q) X.xe {s3 with heap:=s3.heap.push {cls:= .type "slice",data:= .fields #[vl,vu,.none]}};exact tail_any (ops:=[.ref s3.heap.objs.size,v]) ht hT hg (by with_unfolding_all rfl)
noncomputable def gC(xs:ak)(lo hi:Option Int):ak:=(xs.drop (HT.gw xs.length 0 lo)).take (HT.gw xs.length xs.length hi - HT.gw xs.length 0 lo)
theorem xi(xs:ak)(lo hi:Option Int):(gC xs lo hi).length<=xs.length:=by
 unfold gC;rw[oE,nS];omega
def aeh(K:Frag):V->Option Int->Option Int->Hp->VK->Prop:=λx lo hi H Q=>∃a xs,x= .ref a/\bu K H a xs/\
 ¬(HT.gw xs.length 0 lo=0/\HT.gw xs.length xs.length hi=xs.length)/\∀p,H p=none->Q (.ref p) (upd H p (.tup (gC xs lo hi)))
theorem Aq:Z1 X (aeh X.K):=by
 intro ad s σ H x v vl vu lo hi sl Q I rx hs pl pu h;obtain⟨a,xs,rfl,hx,hw,q⟩:=h;cases rx;obtain⟨its,r,ht,hz⟩:=I.tuple hx;have hlen:its.toArray.size=xs.length:=by rw[bC];exact r.length.symm
 refine⟨"tuple",_,wt.lookup,ht.typeIs,?_⟩;refine HT.uU ht hs pl pu (by rw[hlen];exact hw) ?_ (by rw[hlen];exact hz);rw[hlen];refine⟨.ref s.heap.objs.size,_,I.laid (t' :=s.toks) (o:= .tup (gC xs lo hi)) (λb ob q=>bg _ q) (aJ _) ?_,Z,q _ (I.bM.fresh (aJ _))⟩;exact⟨aL (xi xs lo hi) hz,_,(r.drop (HT.gw xs.length 0 lo)).take (HT.gw xs.length xs.length hi - HT.gw xs.length 0 lo),IsTup.new _ _⟩
def UT(K:Frag):R2:=λx y H Q=>∃a b xs ys,x= .ref a/\y= .ref b/\bu K H a xs/\bu K H b ys/\xs≠[]/\xs.length+ys.length<=sizeLine/\
 (ys=[]->Q (.ref a) H)/\(ys≠[]->∀p,H p=none->Q (.ref p) (upd H p (.tup (xs++ys))))
theorem Vals.Fl{xs:ak}{us:aE}(r:Vals xs us):us=[]↔xs=[]:=by
 cases r with
 |nil=>simp
 |cons _ _=>simp
theorem uE:nq X (binaryOp .Add) (UT X.K):=by
 intro ad s σ H x y v u Q I rx ry h;obtain⟨a,b,xs,ys,rfl,rfl,ha,hb,hx,hz,q1,q2⟩:=h;cases rx;cases ry;obtain⟨its,r1,p1,_⟩:=I.tuple ha;obtain⟨mS,r2,p2,_⟩:=I.tuple hb;refine HT.Rl p1 p2 (λz=>hx (r1.Fl.mp z)) (λz=>⟨.ref a,H,I,Z,q1 (r2.Fl.mp z)⟩) (λz=> ?_) (by rw[<-r1.length,<-r2.length];exact hz);refine⟨.ref s.heap.objs.size,_,I.laid (t' :=s.toks) (o:= .tup (xs++ys)) (λb ob q=>bg _ q) (aJ _) ?_,Z,q2 (λw=>z (r2.Fl.mpr w)) _ (I.bM.fresh (aJ _))⟩;exact⟨by rw[aT];exact hz,_,r1.append r2,IsTup.new _ _⟩
end
noncomputable def Rm(n:Nat)(i:Int):Option Nat:=if 0<=i then(if i<n then some i.toNat else none) else if -(n:Int)<=i then some (i+n).toNat else none
noncomputable def Kh{α:Type}(xs:List α)(i:Int):Option α:=(Rm xs.length i).bind λj=>xs[j]?
theorem Km{n:Nat}{i:Int}{j:Nat}(h:Rm n i=some j):seqIndex? i n=some j/\j<n/\ -(n:Int)<=i/\i<n:=by
 unfold Rm at h;by_cases h0:0<=i
 .rw[ay h0] at h;by_cases h1:i<n
  .rw[ay h1] at h;have e:i.toNat=j:=fC h;exact⟨by rw[seqIndex_of h0 h1,e],by omega,by omega,h1⟩
  .rw[aq h1] at h;cases h
 .rw[aq h0] at h;by_cases h1: -(n:Int)<=i
  .rw[ay h1] at h;have e:(i+n).toNat=j:=fC h;exact⟨by rw[seqIndex_neg (by omega) h1,e],by omega,h1,by omega⟩
  .rw[aq h1] at h;cases h
theorem Fh{α:Type}{xs:List α}{i:Int}{v:α}(h:Kh xs i=some v):∃j,seqIndex? i xs.length=some j/\xs[j]? =some v/\j<xs.length/\ -(xs.length:Int)<=i/\i<xs.length:=by
 unfold Kh at h
 cases e:Rm xs.length i with
 |none=>rw[e] at h;cases h
 |some j=>
  rw[e] at h;obtain⟨h1,h2,h3,h4⟩:=Km e;exact⟨j,h1,h,h2,h3,h4⟩
theorem bA{α:Type}{xs:List α}{j:Nat}{v:α}(h:xs[j]? =some v):Kh xs (j:Int)=some v:=by
 have hj:j<xs.length:=(dE.mp h).1
 have e:Rm xs.length (j:Int)=some j:=by
  unfold Rm;rw[ay (by omega),ay (by omega)];simp
 unfold Kh;rw[e];exact h
theorem uk{α:Type}(xs:List α)(v:α):Kh (xs++[v]) (-1)=some v:=by
 have hl:(xs++[v]).length=xs.length+1:=by simp
 have e:Rm (xs++[v]).length (-1)=some xs.length:=by
  unfold Rm;rw[hl,aq (by decide),ay (by omega)]
  congr 1
  omega
 unfold Kh;rw[e];show(xs++[v])[xs.length]? =some v;simp
def Kv(b:aaa):Prop:=∀o i,subscripted b false o i=operate [o,i] (getItem o i)
def Zj(X:Cx)(r:R2):Prop:=
 ∀(value slice:aaa) (ad:aR) (s:X') (σ:St) (H:Hp) (x y:V) (v u:W') (Q:VK),Inv X ad σ H s->RelV x v->RelV y u->r x y H Q->
  subscripted slice false v u=operate [v,u] (getItem v u)->wpAny (model X.prog X.w) X.A (subscriptTail value slice v u) (EP X ad σ Q) X.xe s
def MtR(X:Cx)(id:String)(r:V->ak->Hp->VK->Prop):Prop:=
 ∀(ad:aR) (s:X') (σ:St) (H:Hp) (x:V) (xs:ak) (v:W') (us:aE) (Q:VK),Inv X ad σ H s->RelV x v->Vals xs us->r x xs H Q->
  wpAny (model X.prog X.w) X.A (call (.builtin id) (v::us)) (EP X ad σ Q) X.xe s
section
variable{X:Cx}{a b:aaa}{ta tb:TE}{pos:Pos}
theorem ZD{r:R2}(hr:Zj X r)(ha:PE X a ta)(hb:PE X b tb)(hs:Kv b):PE X (.Subscript a b pos) (SY r ta tb):=by
 intro ad s σ H Q I h;exact Subscript_ (YA ha hb I h λv u s2 x y H2 I2 rx ry q=>hr a b ad s2 σ H2 x y v u Q I2 rx ry q (hs _ _))
def Wg(K:Frag):R2:=λx y H Q=>∃p xs i v,x= .ref p/\y= .int i/\bq K H p xs/\Kh xs i=some v/\Q v H
def afO(K:Frag):R2:=λx y H Q=>∃p xs i v,x= .ref p/\y= .int i/\bu K H p xs/\Kh xs i=some v/\Q v H
def ZI:R2:=λx y H Q=>∃z i c,x= .str z/\y= .int i/\z.length<=sizeLine/\Kh z.cps.toList i=some c/\Q (.str ⟨#[c]⟩) H
theorem aP:Zj X (Wg X.K):=by
 intro value slice ad s σ H x y v u Q I rx ry h hs;obtain⟨p,xs,i,z,rfl,rfl,hq,he,q⟩:=h;cases rx;obtain⟨t,rfl⟩:=ry;obtain⟨its,r,pl,hz⟩:=I.list hq;obtain⟨j,h1,h2,h3,h4,h5⟩:=Fh he;obtain⟨w,ew,M5⟩:=r.get h2;have hl:=r.length;have hn:=sX;have fin:EP X ad σ Q w s:=⟨z,H,I,M5,q⟩;by_cases h0:0<=i
 .have hj:i.toNat=j:=by
   rw[seqIndex_of h0 h5] at h1;exact fC h1
  exact item_listR pl.isList h0 (by omega) (by rw[hj];simpa using ew) fin hs
 .have hj:(i+(its.toArray.size:Int)).toNat=j:=by
   rw[seqIndex_neg (by omega) h4] at h1;rw[bC,<-hl];exact fC h1
  exact subscriptTail_builtinR (x:=w) pl.isList.typeIs slot_list_getitem.lookup
   (wpAny_getItem_list_neg (Q:=λr s' =>r=w/\EP X ad σ Q r s') pl.isList (by omega) (by rw[bC]<;>omega) (by omega) (by rw[hj];simpa using ew) ⟨Z,fin⟩) hs
theorem aY:Zj X (afO X.K):=by
 intro value slice ad s σ H x y v u Q I rx ry h hs;obtain⟨p,xs,i,z,rfl,rfl,hq,he,q⟩:=h;cases rx;obtain⟨t,rfl⟩:=ry;obtain⟨its,r,pl,hz⟩:=I.tuple hq;obtain⟨j,h1,h2,h3,h4,h5⟩:=Fh he;obtain⟨w,ew,M5⟩:=r.get h2;have hl:=r.length;have hn:=sX;have fin:EP X ad σ Q w s:=⟨z,H,I,M5,q⟩
 exact subscriptTail_builtinR (x:=w) pl.typeIs slot_tuple_getitem.lookup
  (getItem_tuple (j:=j) (Q:=λr s' =>r=w/\EP X ad σ Q r s') pl (by omega) (by omega) (by rw[bC,<-hl];exact h1) (by simpa using ew) ⟨Z,fin⟩) hs
theorem HX:Zj X ZI:=by
 intro value slice ad s σ H x y v u Q I rx ry h hs;obtain⟨z,i,c,rfl,rfl,hz,he,q⟩:=h;obtain⟨t,rfl⟩:=rx;obtain⟨t',rfl⟩:=ry;obtain⟨j,h1,h2,h3,h4,h5⟩:=Fh he;have hl:z.cps.toList.length=z.length:=by simp[Str.length]
 rw[hl] at h1 h4 h5;have hn:=sX
 exact tail_any (qV s z t) slot_str_getitem.lookup (getItem_str (c:=c) (by
  have e1:decide (i< -(2 ^ 63:Int))=false:=bf (by omega);have e2:decide (i≥2 ^ 63)=false:=bf (by omega);rw[e1,e2,Bool.or_false]) (by rw[h1];simpa using h2) ⟨.str ⟨#[c]⟩,H,I.tok _,⟨_,Z⟩,q⟩) hs
theorem Jn(its:aE)(n j:Nat)(u:W'):Obj.mapSeq (·.setIfInBounds j u) {cls:= .type "list",data:= .seq its.toArray n}={cls:= .type "list",data:= .seq (its.set j u).toArray n}:=by
 simp[Obj.mapSeq]
theorem Inv.lst{ad:aR}{σ:St}{H:Hp}{s:X'}{p:Y'}{xs:ak}(I:Inv X ad σ H s)(h:H p=some (.lst xs)):
 ∃(its:aE) (n:Nat),Vals xs its/\s.heap.get? p=some {cls:= .type "list",data:= .seq its.toArray n}/\xs.length<=sizeLine:=by
 obtain⟨z,its,n,r,e⟩:=I.bM p _ h;exact⟨its,n,r,e,z⟩
theorem Inv.Yl{ad:aR}{σ:St}{H:Hp}{s:X'}{p:Y'}{xs ys:ak}{its its' :aE}{n n' :Nat}{f:Obj->Obj}(I:Inv X ad σ H s)(h:H p=some (.lst xs))
 (ho:s.heap.get? p=some {cls:= .type "list",data:= .seq its.toArray n}) (hf:f {cls:= .type "list",data:= .seq its.toArray n}={cls:= .type "list",data:= .seq its'.toArray n'}) (r:Vals ys its') (hz:ys.length<=sizeLine) (t:Nat):
 Inv X ad σ (upd H p (.lst ys)) {s with heap:=s.heap.update p f,toks:=t}:=by
 have e:(s.heap.update p f).get? p=some {cls:= .type "list",data:= .seq its'.toArray n'}:=by
  rw[kP f ho (by rw[hf]<;>rfl),hf]
 refine I.write (x:=p) (e:=p) (by rw[h];trivial) (.inl Z) (λb u hb q=>(fY _ _ (b7 hb)).trans q) ⟨_,e⟩ ?_;exact⟨hz,its',n',r,e⟩
def acI:V->V->V->Hp->(Hp->Prop)->Prop:=λo i v H Q=>∃p xs k j,o= .ref p/\i= .int k/\H p=some (.lst xs)/\Rm xs.length k=some j/\Q (upd H p (.lst (xs.set j v)))
theorem jac:ZV X acI:=by
 intro ad s σ H o i v ov iv u Q I ro ri rv h;obtain⟨p,xs,k,j,rfl,rfl,hp,hj,q⟩:=h;cases ro;obtain⟨t,rfl⟩:=ri;obtain⟨its,n,r,ho,hz⟩:=I.lst hp;obtain⟨h1,h2,h3,h4⟩:=Km hj;have hl:=r.length;have hn:=sX
 have I' :Inv X ad σ (upd H p (.lst (xs.set j v))) {s with heap:=s.heap.update p (Obj.mapSeq (·.setIfInBounds j u))}:=
  I.Yl hp ho (Jn its n j u) (r.set rv j) (by rw[FC];exact hz) s.toks
 by_cases h0:0<=k
 .have hk:k.toNat=j:=by
   rw[seqIndex_of h0 h4] at h1;exact fC h1
  exact PySem.W.ki_setAt ho h0 (by omega) (by rw[bC,<-hl];exact h4) (by rw[hk];exact⟨_,I',q⟩)
 .have hk:(k+(its.toArray.size:Int)).toNat=j:=by
   rw[seqIndex_neg (by omega) h3] at h1;rw[bC,<-hl];exact fC h1
  exact PySem.W.ki_setBack ho (by omega) (by rw[bC,<-hl];exact h3) (by omega) (by rw[hk];exact⟨_,I',q⟩)
theorem E_(lo hi:Option Int)(n:Nat):(sliceBounds lo hi none n).1=((HT.gw n 0 lo:Nat):Int)/\(sliceBounds lo hi none n).2.1=((HT.gw n n hi:Nat):Int)/\(sliceBounds lo hi none n).2.2=1:=by
 refine⟨?_,?_,Z⟩
 .cases lo with
  |none=>simp[sliceBounds,HT.gw]
  |some i=>
   simp only[sliceBounds,HT.gw,Option.getD_none,show(1:Int)>0 by decide,oz];by_cases h:i<0
   .simp only[h,oz]<;>omega
   .simp only[h,me]<;>omega
 .cases hi with
  |none=>simp[sliceBounds,HT.gw]
  |some i=>
   simp only[sliceBounds,HT.gw,Option.getD_none,show(1:Int)>0 by decide,oz];by_cases h:i<0
   .simp only[h,oz]<;>omega
   .simp only[h,me]<;>omega
theorem Cu(its:aE)(lo hi:Option Int):slicePick its.toArray lo hi none=((its.drop (HT.gw its.length 0 lo)).take (HT.gw its.length its.length hi - HT.gw its.length 0 lo)).toArray:=by
 obtain⟨h1,h2,h3⟩:=E_ lo hi its.toArray.size;unfold slicePick;rw[h1,h2,h3];simp only[sliceRange_one,pick_run,bC]<;>rfl
def agX(K:Frag):V->Option Int->Option Int->Hp->VK->Prop:=λx lo hi H Q=>∃a xs,x= .ref a/\bq K H a xs/\∀p,H p=none->Q (.ref p) (upd H p (.lst (gC xs lo hi)))
theorem qJ:Z1 X (agX X.K):=by
 intro ad s σ H x v vl vu lo hi sl Q I rx hs pl pu h;obtain⟨a,xs,rfl,hx,q⟩:=h;cases rx;obtain⟨its,r,ht,hz⟩:=I.list hx;have hlen:=r.length;refine⟨"list",_,slot_list_getitem.lookup,ht.isList.typeIs,?_⟩;refine wpAny_getItem_list_slice ht.isList hs pl pu .none (by simp) ?_ (by rw[bC]<;>omega);rw[Cu,<-hlen];refine⟨.ref s.heap.objs.size,_,I.laid (t' :=s.toks) (o:= .lst (gC xs lo hi)) (λb ob q=>bg _ q) (aJ _) ?_,Z,q _ (I.bM.fresh (aJ _))⟩;exact⟨aL (xi xs lo hi) hz,_,0,(r.drop (HT.gw xs.length 0 lo)).take (HT.gw xs.length xs.length hi - HT.gw xs.length 0 lo),cK _ Z⟩
noncomputable def jK:V->Bool
 | .bV=>true
 | .bl _=>true
 | .int _=>true
 | .str _=>true
 |_=>false
noncomputable def DH:V->V->Bool
 | .bV,.bV=>true
 | .bl a,.bl b=>a==b
 | .bl a,.int b=>(if a then 1 else 0)==b
 | .int a,.bl b=>a==(if b then 1 else 0)
 | .int a,.int b=>a==b
 | .str a,.str b=>a==b
 |_,_=>false
theorem NQ{A:aal}{s:X'}{y x:V}{u v:W'}(ry:RelV y u)(rx:RelV x v)(fy:jK y=true)(fx:jK x=true):SeqAt.EqAt A s u v (DH y x):=by
 cases y with
 |bV=>
  cases ry
  cases x with
  |bV=>cases rx;exact SeqAt.EqAt.same _
  |bl b=>cases rx;exact SeqAt.EqAt.none_bool b
  |int b=>obtain⟨t,rfl⟩:=rx;exact SeqAt.EqAt.none_int b t
  |str b=>obtain⟨t,rfl⟩:=rx;exact SeqAt.EqAt.none_str b t
  |_=>exact absurd (show false=true from fx) cE
 |bl a=>
  cases ry
  cases x with
  |bV=>cases rx;exact SeqAt.EqAt.bool_none a
  |bl b=>cases rx;exact SeqAt.EqAt.bool_bool a b
  |int b=>obtain⟨t,rfl⟩:=rx;exact SeqAt.EqAt.bool_int a b t
  |str b=>obtain⟨t,rfl⟩:=rx;exact SeqAt.EqAt.bool_str a b t
  |_=>exact absurd (show false=true from fx) cE
 |int a=>
  obtain⟨t',rfl⟩:=ry
  cases x with
  |bV=>cases rx;exact SeqAt.EqAt.int_none a t'
  |bl b=>cases rx;exact SeqAt.EqAt.int_bool a t' b
  |int b=>obtain⟨t,rfl⟩:=rx;exact SeqAt.EqAt.int_int a t' b t
  |str b=>obtain⟨t,rfl⟩:=rx;exact SeqAt.EqAt.int_str a t' b t
  |_=>exact absurd (show false=true from fx) cE
 |str a=>
  obtain⟨t',rfl⟩:=ry
  cases x with
  |bV=>cases rx;exact SeqAt.EqAt.str_none a t'
  |bl b=>cases rx;exact SeqAt.EqAt.str_bool a t' b
  |int b=>obtain⟨t,rfl⟩:=rx;exact SeqAt.EqAt.str_int a t' b t
  |str b=>obtain⟨t,rfl⟩:=rx;exact SeqAt.EqAt.str_str a t' b t
  |_=>exact absurd (show false=true from fx) cE
 |_=>exact absurd (show false=true from fy) cE
noncomputable def Ho(x:V)(u:W'):Bool:=match u with
 | .none=>DH .bV x
 | .bool b=>DH (.bl b) x
 | .int i _=>DH (.int i) x
 | .str z _=>DH (.str z) x
 |_=>false
theorem Ii{x y:V}{u:W'}(r:RelV y u)(f:jK y=true):Ho x u=DH y x:=by
 cases y with
 |bV=>cases r;rfl
 |bl b=>cases r;rfl
 |int i=>obtain⟨t,rfl⟩:=r;rfl
 |str z=>obtain⟨t,rfl⟩:=r;rfl
 |_=>exact absurd (show false=true from f) cE
theorem vm{x:V}:∀{xs:ak} {us:aE},Vals xs us->xs.all jK=true->us.any (Ho x)=xs.any λy=>DH y x
 |_,_,.nil,_=>rfl
 |y::xs,u::us,.cons r t,f=>by
  rw[zF,cL] at f;rw[zG,zG,Ii r f.1,vm t f.2]
theorem mP{A:aal}{s:X'}{x:V}{v:W'}(rx:RelV x v)(fx:jK x=true):∀{xs:ak} {us:aE},Vals xs us->xs.all jK=true->∀u∈us,SeqAt.EqAt A s u v (Ho x u)
 |_,_,.nil,_=>λu hu=>by cases hu
 |y::xs,u::us,.cons r t,f=>λu' hu=>by
  rw[zF,cL] at f;rcases aN.mp hu with rfl|hu
  .rw[Ii r f.1];exact NQ r rx f.1 fx
  .exact mP rx fx t f.2 u' hu
noncomputable def yY(x:V)(xs:ak):Bool:=xs.any λy=>DH y x
def rIn(K:Frag)(neg:Bool):R2:=λx y H Q=>∃p xs,y= .ref p/\(bq K H p xs\/bu K H p xs)/\jK x=true/\xs.all jK=true/\Q (.bl (if neg then !yY x xs else yY x xs)) H
theorem iW:nq X (compareOp .In) (rIn X.K false):=by
 intro ad s σ H x y v u Q I rx ry h;obtain⟨p,xs,rfl,hq,fx,fs,q⟩:=h;cases ry;rcases hq with hq|hq
 .obtain⟨its,r,pl,hz⟩:=I.list hq;refine SeqAt.in_listAt (Ho x) pl.isList (λw hw=>mP rx fx r fs w (by simpa using hw)) ⟨.bl _,H,I,Z,?_⟩;rw[show its.toArray.any (Ho x)=its.any (Ho x) by simp,vm r fs];exact q
 .obtain⟨its,r,pl,hz⟩:=I.tuple hq;refine SeqAt.in_tupleAt (Ho x) pl (λw hw=>mP rx fx r fs w (by simpa using hw)) ⟨.bl _,H,I,Z,?_⟩;rw[show its.toArray.any (Ho x)=its.any (Ho x) by simp,vm r fs];exact q
theorem ou:nq X (compareOp .NotIn) (rIn X.K true):=by
 intro ad s σ H x y v u Q I rx ry h;obtain⟨p,xs,rfl,hq,fx,fs,q⟩:=h;cases ry;rcases hq with hq|hq
 .obtain⟨its,r,pl,hz⟩:=I.list hq;refine SeqAt.notIn_listAt (Ho x) pl.isList (λw hw=>mP rx fx r fs w (by simpa using hw)) ⟨.bl _,H,I,Z,?_⟩;rw[show its.toArray.any (Ho x)=its.any (Ho x) by simp,vm r fs];exact q
 .obtain⟨its,r,pl,hz⟩:=I.tuple hq;refine SeqAt.notIn_tupleAt (Ho x) pl (λw hw=>mP rx fx r fs w (by simpa using hw)) ⟨.bl _,H,I,Z,?_⟩;rw[show its.toArray.any (Ho x)=its.any (Ho x) by simp,vm r fs];exact q
theorem aV:ij X (.builtin "len") (λxs H Q=>∃p ys,xs=[.ref p]/\(bq X.K H p ys\/bu X.K H p ys)/\Q (.int ys.length) H):=by
 intro ad s σ H xs us Q I r h;obtain⟨p,ys,rfl,hq,q⟩:=h;obtain⟨u,rfl,rx⟩:=wT r;cases rx;have hn:=sX;rcases hq with hq|hq
 .obtain⟨its,r',pl,hz⟩:=I.list hq;have hlen:=r'.length;exact Calls.call_len_list pl.isList (by simp only[bC]<;>omega) ⟨.int ys.length,H,I.tok _,⟨s.toks+1,by rw[bC,hlen]⟩,q⟩
 .obtain⟨its,r',pl,hz⟩:=I.tuple hq;have hlen:=r'.length;exact len_tuple pl (by simp only[bC]<;>omega) ⟨.int ys.length,H,I.tok _,⟨s.toks+1,by rw[bC,hlen]⟩,q⟩
theorem ix:ij X (.builtin "len") (λxs H Q=>∃z,xs=[.str z]/\z.length<=sizeLine/\Q (.int z.length) H):=by
 intro ad s σ H xs us Q I r h;obtain⟨z,rfl,hz,q⟩:=h;obtain⟨u,rfl,t,rfl⟩:=wT r;have hn:=sX;exact len_str (by omega) ⟨.int z.length,H,I.tok _,⟨_,Z⟩,q⟩
theorem dG:ij X (.type "tuple") (λxs H Q=>∃p ys,xs=[.ref p]/\((bq X.K H p ys/\∀l,H l=none->Q (.ref l) (upd H l (.tup ys)))\/(bu X.K H p ys/\Q (.ref p) H))):=by
 intro ad s σ H xs us Q I r h;obtain⟨p,ys,rfl,h⟩:=h;obtain⟨u,rfl,rx⟩:=wT r;cases rx;rcases h with⟨hq,q⟩|⟨hq,q⟩
 .obtain⟨its,r',pl,hz⟩:=I.list hq;have hlen:=r'.length;refine call_tuple_list pl.isList (λh' kp=> ?_) (by simp only[bC]<;>omega);have I1:Inv X ad σ H {s with heap:=h'}:=I.kept (t' :=s.toks) kp
  have I2:Inv X ad σ (upd H h'.objs.size (.tup ys)) {s with heap:=h'.push {cls:= .type "tuple",data:= .seq its.toArray}}:=
   I1.laid (t' :=s.toks) (λb o e=>bg _ e) (aJ _) (show cg X.prog X.w _ _ _ (.tup ys) from⟨hz,its,r',IsTup.new _ _⟩)
  exact⟨.ref h'.objs.size,_,I2,Z,q _ (I1.bM.fresh (aJ _))⟩
 .obtain⟨its,r',pl,hz⟩:=I.tuple hq;exact call_tuple_same pl ⟨.ref p,H,I,Z,q⟩
def tyV(K:Frag)(T:String)(x:V)(H:Hp):Prop:=match x with
 | .str _=>T="str"
 | .int _=>T="int"
 | .ref p=>(T="list" /\∃xs,bq K H p xs)\/(T="tuple" /\∃o,K.lookup p=some o/\o.cls= .type "tuple" /\o.dict=none)\/
  (T="dict" /\((∃bF,H p=some (.dK bF))\/∃bF,H p=some (.dT bF)))\/(T="set" /\∃S n,H p=some (.set S n))
 |_=>False
theorem OM{ad:aR}{σ:St}{H:Hp}{s:X'}{T:String}{x:V}{v:W'}(I:Inv X ad σ H s)(r:RelV x v)(ty:tyV X.K T x H):
 s.TypeIs v T/\∀a,v= .ref a->∃ob,s.heap.get? a=some ob/\ob.dict=none:=by
 cases x with
 |str z=>
  obtain⟨t,rfl⟩:=r;cases(show T="str" from ty);exact⟨qV s z t,λ_ e=>nomatch e⟩
 |int i=>
  obtain⟨t,rfl⟩:=r;cases(show T="int" from ty);exact⟨vh s i t,λ_ e=>nomatch e⟩
 |ref p=>
  cases r;rcases ty with⟨rfl,xs,hq⟩|⟨rfl,o,hk,hc,hd⟩|⟨rfl,hk⟩|⟨rfl,S,n,hk⟩
  .obtain⟨its,_,pl,_⟩:=I.list hq;refine⟨pl.isList.typeIs,λa e=> ?_⟩;cases e;obtain⟨o,n,e,c,hd,_⟩:=pl;exact⟨o,e,hd⟩
  .refine⟨⟨o,I.kZ p o hk,hc⟩,λa e=> ?_⟩;cases e;exact⟨o,I.kZ _ o hk,hd⟩
  .have z:∃o,s.heap.get? p=some o/\o.ExactDict:=by
    rcases hk with⟨bF,hk⟩|⟨bF,hk⟩
    .obtain⟨_,_,_,_,o,_,_,e,ex,_⟩:=I.bM p _ hk;exact⟨o,e,ex⟩
    .obtain⟨_,_,_,_,o,_,_,e,ex,_⟩:=I.bM p _ hk;exact⟨o,e,ex⟩
   obtain⟨o,e,ex⟩:=z;refine⟨⟨o,e,ex.1⟩,λa e2=> ?_⟩;cases e2;exact⟨o,e,ex.2.1⟩
  .obtain⟨o,_,_,_,e,ex,_⟩:=I.bM p _ hk;refine⟨⟨o,e,ex.1⟩,λa e2=> ?_⟩;cases e2;exact⟨o,e,ex.2.1⟩
 |_=>exact False.elim ty
def agI(K:Frag)(T:String)(r:V->ak->Hp->VK->Prop)(to:TE):TE:=λσ H Q=>to σ H λx H1=>tyV K T x H1/\r x [] H1 Q
def tBM(K:Frag)(T:String)(r:V->ak->Hp->VK->Prop)(to:TE)(t:TA):TE:=λσ H Q=>to σ H λx H1=>tyV K T x H1/\t σ H1 λxs H2=>r x xs H2 Q
variable{o e:aaa}{es:b_}{to:TE}{t:TA}{name:Str}{apos i9:Pos}{T id:String}{r:V->ak->Hp->VK->Prop}
theorem YE(pa:PlainAttrs T)(slot:Slot T name id)(hty:typeOf (.builtin id)=pure (.type "method_descriptor"))(hm:MtR X id r)(ho:PE X o to)
 (BP:attributeBase o name X.env (eval o X.env)=eval o X.env:=by rfl) (Oz:(apos.endLine==i9.line)=true:=by rfl):PE X (.Call (.Attribute o name apos) [] [] i9) (agI X.K T r to):=by
 intro ad s σ H Q I h;refine wpAny_Call_method0_late BP Oz (cN (ho ad s σ H _ I h) λv s1 ⟨x,H1,I1,r1,ty,q1⟩=> ?_);obtain⟨h1,h2⟩:=OM I1 r1 ty;exact⟨T,id,pa,slot,hty,h1,h2,Fn Z (PySem.evalArgs_none (hm ad s1 σ H1 x [] v [] Q I1 r1 .nil q1))⟩
theorem cR(pa:PlainAttrs T)(slot:Slot T name id)(hty:typeOf (.builtin id)=pure (.type "method_descriptor"))(hm:MtR X id r)(ho:PE X o to)(ha:PA X (e::es) t)
 (BP:attributeBase o name X.env (eval o X.env)=eval o X.env:=by rfl)
 (agY:((backTo i9 (starEach (e::es) X.env)).all (λx=> !x.1)&&(backToKw i9 (keywordEach [] X.env)).all (λx=>x.1.isSome)
  &&decide ((e::es).length+([]:List Keyword).length+(if([]:List Keyword).isEmpty then 0 else 1)<30))=true:=by rfl)
 (Oz:(apos.endLine==i9.line)=true:=by rfl) (hs:starEach (e::es) X.env=(false,eval e X.env)::starEach es X.env:=by rfl) (YZ:(backTo i9 (starEach es X.env)).any (·.1)=false:=by rfl):
 PE X (.Call (.Attribute o name apos) (e::es) [] i9) (tBM X.K T r to t):=by
 intro ad s σ H Q I h;refine wpAny_Call_method_late BP agY Oz Z (cN (ho ad s σ H _ I h) λv s1 ⟨x,H1,I1,r1,ty,q1⟩=> ?_);obtain⟨h1,h2⟩:=OM I1 r1 ty;refine⟨T,id,pa,slot,hty,h1,h2,?_⟩;have hA:=ha i9 ad s1 σ H1 _ I1 q1;rw[hs] at hA ⊢;refine Fn (by show(false||(backTo i9 (starEach es X.env)).any (·.1))=false;rw[YZ]<;>rfl) (Calls.evalArgs_plain ?_);exact cN hA λus s2 ⟨vs,H2,I2,r2,q2⟩=>hm ad s2 σ H2 x vs v us Q I2 r1 r2 q2
end
def Xg(X:Cx)(id:String)(r:V->ak->Hp->VK->Prop):Prop:=
 ∀(ad:aR) (s:X') (σ:St) (H:Hp) (x:V) (xs:ak) (v:W') (us:aE) (Q:VK),Inv X ad σ H s->RelV x v->Vals xs us->r x xs H Q->
  wpAny (model X.prog X.w) X.A (call (.builtin id) (v::us)) (EP X ad σ Q) X.xe s
theorem Vals.one:∀{x:V} {us:aE},Vals [x] us->∃u,us=[u]/\RelV x u
 |_,_,.cons r .nil=>⟨_,Z,r⟩
theorem Vals.zero:∀{us:aE},Vals [] us->us=[]
 |_,.nil=>rfl
theorem Vals.dropLast{xs:ak}{us:aE}(h:Vals xs us):Vals xs.dropLast us.dropLast:=by
 induction h with
 |nil=>exact .nil
 |cons r t ih=>
  cases t with
  |nil=>exact .nil
  |cons q t' =>exact .cons r ih
theorem Vals.rep{xs:ak}{us:aE}(h:Vals xs us):∀k:Nat,Vals (List.replicate k xs).flatten (List.replicate k us).flatten
 |0=> .nil
 |k+1=>by
  rw[qG,qG,zk,zk];exact Vals.append h (Vals.rep h k)
theorem HL{α:Type}(l:List α):l.eraseIdx (l.length - 1)=l.dropLast:=by
 induction l with
 |nil=>rfl
 |cons a r ih=>
  cases r with
  |nil=>rfl
  |cons b r=>
   have e:(a::b::r).length - 1=((b::r).length - 1)+1:=by
    have h1:(a::b::r).length=r.length+2:=rfl;have h2:(b::r).length=r.length+1:=rfl;omega
   rw[e,List.eraseIdx_cons_succ,ih]
   all_goals rfl
theorem jah(its:aE):∀(k:Nat) (acc:aE),
 List.foldl (λx1 x2=>x1++x2) acc.toArray (List.replicate k its.toArray)=(acc++(List.replicate k its).flatten).toArray
 |0,acc=>by simp
 |k+1,acc=>by
  have e:acc.toArray++its.toArray=(acc++its).toArray:=by simp
  have e2:(acc++its)++(List.replicate k its).flatten=acc++(List.replicate (k+1) its).flatten:=by
   rw[qG,zk,dv]
  rw[<-e2,<-jah its k (acc++its),<-e,qG,List.foldl_cons]
section
variable{X:Cx}{ad:aR}{σ:St}{H:Hp}{s:X'}{l b:Y'}{xs ys zs:ak}
theorem Inv.Xv{its its' :aE}{n:Nat}{f:Array W'->Array W'}{t' :Nat}(I:Inv X ad σ H s)(hH:H l=some (.lst xs))
 (e:s.heap.get? l=some {cls:= .type "list",data:= .seq its.toArray n}) (hf:f its.toArray=its'.toArray) (hv:Vals ys its') (hz:ys.length<=sizeLine):
 Inv X ad σ (upd H l (.lst ys)) {s with heap:=s.heap.update l (Obj.mapSeq f),toks:=t'}:=by
 have q:=PySem.IsL.update e f;rw[hf] at q;refine I.write (x:=l) (e:=l) (by rw[hH];exact trivial) (.inl Z) (λb' u hb hu=>(fY s.heap (Obj.mapSeq f) (b7 hb)).trans hu) ⟨_,q⟩ ?_;exact⟨hz,its',_,hv,q⟩
theorem Inv.RM{its:aE}{t' :Nat}(I:Inv X ad σ H s)(hv:Vals ys its)(hz:ys.length<=sizeLine):
 Inv X ad σ (upd H s.heap.objs.size (.lst ys)) {s with heap:=s.heap.push {cls:= .type "list",data:= .seq its.toArray},toks:=t'}:=
 I.laid (λ_ _ q=>bg _ q) (aJ _) ⟨hz,its,0,hv,cK _ Z⟩
theorem Inv.fresh(I:Inv X ad σ H s):H s.heap.objs.size=none:=I.bM.fresh (aJ _)
theorem Inv.Hn(I:Inv X ad σ H s)(hH:H l=some (.lst xs)):xs.length<=sizeLine/\∃(its:aE) (n:Nat),Vals xs its/\xs.length=its.length/\s.heap.get? l=some {cls:= .type "list",data:= .seq its.toArray n}:=by
 obtain⟨z,its,n,r,e⟩:=I.bM l _ hH;exact⟨z,its,n,r,r.length,e⟩
theorem GW{n:Nat}(h:n<=sizeLine):Builtin.List.listTooLong n=false:=by
 unfold Builtin.List.listTooLong;exact bf (by omega)
end
variable{X:Cx}
def RW:V->ak->Hp->VK->Prop:=λx vs H Q=>∃l xs y,x= .ref l/\vs=[y]/\H l=some (.lst xs)/\xs.length<sizeLine/\Q .bV (upd H l (.lst (xs++[y])))
theorem cA:Xg X "list.append" RW:=by
 intro ad s σ H x vs v us Q I rx rv h;obtain⟨l,xs,y,rfl,rfl,hH,hz,q⟩:=h;cases rx;obtain⟨u,rfl,ru⟩:=rv.one;obtain⟨z,its,n,r,hl,e⟩:=I.Hn hH;refine iU F.slot_list_append ⟨_,e,Z⟩ F.entry_list_append (F.args_list_append_2 _ _) (PySem.list_append l its.toArray n u (by rw[bC];omega)) ⟨e,?_⟩;refine⟨.bV,_,I.Xv (its' :=its++[u]) hH e (by simp) (r.append (.cons ru .nil)) ?_,Z,q⟩;rw[aT,EX];omega
def Ru:V->ak->Hp->VK->Prop:=λx vs H Q=>∃l b xs zs,x= .ref l/\vs=[.ref b]/\H l=some (.lst xs)/\H b=some (.lst zs)/\xs.length+zs.length<=sizeLine/\Q .bV (upd H l (.lst (xs++zs)))
theorem i7:Xg X "list.extend" Ru:=by
 intro ad s σ H x vs v us Q I rx rv h;obtain⟨l,b,xs,zs,rfl,rfl,hH,hB,hz,q⟩:=h;cases rx;obtain⟨u,rfl,ru⟩:=rv.one;cases ru;obtain⟨z,its,n,r,hl,e⟩:=I.Hn hH;obtain⟨z2,mS,n2,r2,lK,e2⟩:=I.Hn hB;have pd:its.toArray.size+mS.toArray.size<=sizeLine:=by rw[bC,bC];omega
 have Ph:¬(!its.toArray.isEmpty&&Builtin.List.listTooLong (its.toArray.size+mS.toArray.size))=true:=by
  rw[GW pd,Bool.and_false];exact cE
 refine iU qt ⟨_,e,Z⟩ F.entry_list_extend (F.args_list_extend_2 _ _)
  (AutoSeq1.list_extend_list_list_0 l its.toArray n b mS.toArray n2 Ph (by rw[bC];omega) (by omega)) ⟨e,e2,?_⟩
 refine⟨.bV,_,I.Xv (its' :=its++mS) hH e (by simp) (r.append r2) ?_,Z,q⟩;rw[aT];omega
def ae0:V->ak->Hp->VK->Prop:=λx vs H Q=>∃l xs y,x= .ref l/\vs=[]/\H l=some (.lst xs)/\xs[xs.length - 1]? =some y/\Q y (upd H l (.lst xs.dropLast))
theorem W0:Xg X "list.pop" ae0:=by
 intro ad s σ H x vs v us Q I rx rv h;obtain⟨l,xs,y,rfl,rfl,hH,hy,q⟩:=h;cases rx;have hus:=rv.zero;subst hus;obtain⟨z,its,n,r,hl,e⟩:=I.Hn hH;obtain⟨u,hu,ru⟩:=r.get hy
 have hy' :its.toArray[its.toArray.size - 1]? =some u:=by
  show its.toArray[its.length - 1]? =some u;rw[<-Array.getElem?_toList,<-hl];exact hu
 refine iU F.slot_list_pop ⟨_,e,Z⟩ F.entry_list_pop (F.args_list_pop_1 _) (MeetsSeq.list_pop_last l its.toArray n u hy' (by rw[bC];omega)) ⟨e,?_⟩;refine⟨y,_,I.Xv (its' :=its.dropLast) hH e ?_ r.dropLast ?_,ru,q⟩
 .show its.toArray.eraseIdxIfInBounds (its.toArray.size - 1)=its.dropLast.toArray;rw[bC,List.eraseIdxIfInBounds_toArray,HL]
 .rw[List.length_dropLast];omega
def aet:R2:=λx y H Q=>∃l b xs zs,x= .ref l/\y= .ref b/\H l=some (.lst xs)/\H b=some (.lst zs)/\xs.length+zs.length<=sizeLine/\∀p,H p=none->Q (.ref p) (upd H p (.lst (xs++zs)))
theorem i6:nq X (binaryOp .Add) aet:=by
 intro ad s σ H x y v u Q I rx ry h;obtain⟨l,b,xs,zs,rfl,rfl,hH,hB,hz,q⟩:=h;cases rx;cases ry;obtain⟨z,its,n,r,hl,e⟩:=I.Hn hH;obtain⟨z2,mS,n2,r2,lK,e2⟩:=I.Hn hB;refine PySem.P.add_list e e2 ?_ (by rw[bC,bC];omega);have ea:its.toArray++mS.toArray=(its++mS).toArray:=by simp
 rw[ea];exact⟨.ref _,_,I.RM (t' :=s.toks) (r.append r2) (by rw[aT];omega),Z,q _ I.fresh⟩
def aeb:R2:=λx y H Q=>∃l k xs,x= .ref l/\y= .int k/\H l=some (.lst xs)/\ -(2 ^ 63)<=k/\k<2 ^ 63/\xs.length*k.toNat<=sizeLine/\
 ∀p,H p=none->Q (.ref p) (upd H p (.lst (List.replicate k.toNat xs).flatten))
theorem jan{α:Type}(xs:List α)(k:Nat):(List.replicate k xs).flatten.length=k*xs.length:=by
 induction k with
 |zero=>simp
 |succ k ih=>rw[qG,zk,aT,ih,Nat.succ_mul,Nat.add_comm]
theorem Yo:nq X (binaryOp .Mult) aeb:=by
 intro ad s σ H x y v u Q I rx ry h;obtain⟨l,k,xs,rfl,rfl,hH,h1,h2,hz,q⟩:=h;cases rx;obtain⟨t,rfl⟩:=ry;obtain⟨z,its,n,r,hl,e⟩:=I.Hn hH;have hlen:its.toArray.size*k.toNat<=sizeLine:=by rw[bC,<-hl];exact hz
 have aff:¬its.toArray.size*k.toNat>(2 ^ 63 - 1) / 8:=by
  have:(sizeLine:Nat)<=(2 ^ 63 - 1) / 8:=by decide
  omega
 have af4:¬(!Builtin.List.listFitsIndex k)=true:=by
  rw[fitsIndex_both h1 h2];exact cE
 have Ph:¬Builtin.List.listTooLong (its.toArray.size*k.toNat)=true:=by
  rw[GW hlen];exact cE
 have agF:List.foldl (λx1 x2=>x1++x2) #[] (List.replicate (if its.toArray.isEmpty=true then 0 else k.toNat) its.toArray)=(List.replicate k.toNat its).flatten.toArray:=by
  have f0:∀m:Nat,List.foldl (λx1 x2=>x1++x2) #[] (List.replicate m its.toArray)=(List.replicate m its).flatten.toArray:=λm=>by
   have:=jah its m [];rw[q_] at this;exact this
  rw[f0]
  cases its with
  |nil=>simp
  |cons a r' =>rw[aq (by simp)]
 refine wpAny_binaryOp_repeat_ref (T:="list") (U:="int") (by decide) ⟨_,e,Z⟩ (λs' =>vh s' k t) noFill_list_mul F.fills_int_mul zq repeat_list F.slot_int_index.lookup
  (iU zq (vh s k t) F.entry_int_rmul (F.args_int_rmul_2 _ _) (int___rmul___int_list k t l its.toArray n)
   ⟨e,Z,⟨_,e,Z⟩,iU F.slot_list_mul ⟨_,e,Z⟩ F.entry_list_mul (F.args_list_mul_2 _ _) (AutoListH.list___mul___list_int_3 l its.toArray n k t af4 aff Ph) ⟨e,?_⟩⟩)
 rw[agF];exact⟨.ref _,_,I.RM (t' :=s.toks) (r.rep k.toNat) (by rw[jan,Nat.mul_comm];exact hz),Z,q _ I.fresh⟩
section
variable{prog:aan}{w:aai}{A:aal}{E:V'}{s:X'}
set_option maxRecDepth 100000 in
end
section
variable{κ:Type}[DecidableEq κ]
noncomputable def i4(bF:List (κ×V))(k:κ):Option V:=(bF.find? λkv=>decide (kv.1=k)).map (·.2)
noncomputable def jad(bF:List (κ×V))(k:κ)(v:V):List (κ×V):=
 if(bF.any λkv=>decide (kv.1=k))=true then bF.map (λkv=>if kv.1=k then(kv.1,v) else kv) else bF++[(k,v)]
noncomputable def akJ(bF:List (κ×V))(k:κ):List (κ×V):=bF.filter λkv=>decide (kv.1≠k)
theorem Gh{p:κ×V}{r:List (κ×V)}{k:κ}(e:p.1=k):i4 (p::r) k=some p.2:=by simp[i4,qZ,e]
theorem GZ{p:κ×V}{r:List (κ×V)}{k:κ}(e:¬p.1=k):i4 (p::r) k=i4 r k:=by simp[i4,qZ,e]
theorem Hr(bF:List (κ×V))(k:κ)(v:V):(jad bF k v).length<=bF.length+1:=by
 unfold jad
 split
 .rw[aG];omega
 .rw[aT,aZ,fO];omega
theorem mw.Mi{o:Option V}{u:aM}(r:mw o u):o.isSome=u.isSome:=by
 cases o with
 |none=>cases u with
  |none=>rfl
  |some _=>exact(show False from r).elim
 |some _=>cases u with
  |none=>exact(show False from r).elim
  |some _=>rfl
theorem mw.getD{o:Option V}{u:aM}{d:V}{d' :W'}(r:mw o u)(rd:RelV d d'):RelV (o.getD d) (u.getD d'):=by
 cases o with
 |none=>cases u with
  |none=>exact rd
  |some _=>exact(show False from r).elim
 |some _=>cases u with
  |none=>exact(show False from r).elim
  |some _=>exact r
theorem KV.val{bF:List (κ×V)}{vs:List (κ×W')}(r:KV bF vs)(k:κ):mw (i4 bF k) (valueAt vs k):=by
 unfold KV at r
 induction r with
 |nil=>exact True.intro
 | @cons p q ps qs h t ih=>
  obtain⟨h1,h2⟩:=h;by_cases e:p.1=k
  .have e' :q.1=k:=h1.symm.trans e;have b:valueAt (q::qs) k=some q.2:=by simp[valueAt,qZ,e']
   rw[Gh e,b];exact h2
  .have e' :¬q.1=k:=λz=>e (h1.trans z);have b:valueAt (q::qs) k=valueAt qs k:=by simp[valueAt,qZ,e']
   rw[GZ e,b];exact ih
theorem KV.any{bF:List (κ×V)}{vs:List (κ×W')}(r:KV bF vs)(k:κ):(bF.any λkv=>decide (kv.1=k))=vs.any λkv=>decide (kv.1=k):=by
 unfold KV at r
 induction r with
 |nil=>rfl
 |cons h t ih=>rw[zG,zG,ih,h.1]
theorem KV.afx{bF:List (κ×V)}{vs:List (κ×W')}(r:KV bF vs)(k:κ){y:V}{u:W'}(ry:RelV y u):
 KV (bF.map λkv=>if kv.1=k then(kv.1,y) else kv) (vs.map λkv=>if kv.1=k then(kv.1,u) else kv):=by
 unfold KV at r ⊢
 induction r with
 |nil=>exact .nil
 | @cons p q ps qs h t ih=>
  rw[eG,eG];refine .cons ?_ ih;obtain⟨h1,h2⟩:=h;by_cases e:p.1=k
  .rw[ay e,ay (h1.symm.trans e)];exact⟨h1,ry⟩
  .rw[aq e,aq (λz=>e (h1.trans z))];exact⟨h1,h2⟩
theorem KV.put{bF:List (κ×V)}{vs:List (κ×W')}(r:KV bF vs)(k:κ){y:V}{u:W'}(ry:RelV y u):KV (jad bF k y) (stored vs k u):=by
 unfold jad stored;rw[r.any k];by_cases e:(vs.any λkv=>decide (kv.1=k))=true
 .rw[ay e,ay e];exact r.afx k ry
 .rw[aq e,aq e];exact Paired.snoc r ⟨Z,ry⟩
end
theorem GC{P:aan}{w:aai}{k:wS}{u:W'}(r:RelV (kV k) u):(c5 P w).is k u=true:=by
 cases k with
 |inl i=>obtain⟨t,e⟩:=(show ∃t,u=Value.int i t from r);subst e;exact He P w i t
 |inr x=>obtain⟨t,e⟩:=(show ∃t,u=Value.str x t from r);subst e;exact HA P w x t
theorem Dp{P:aan}{w:aai}:∀{ks:List wS} {us:aE},Vals (ks.map kV) us->ItemsAre (c5 P w) ks us
 |[],_,r=>by rw[n5] at r;cases r;exact .nil
 |k::ks,_,r=>by
  rw[eG] at r
  cases r with
  |cons h t=>exact .cons (GC h) (Dp t)
abbrev KT(H:Hp):List (List wS×V)->List (List wS×Y'×W')->Prop:=Paired λp q=>p.1=q.1/\H q.2.1=some (.tup (p.1.map kV))/\RelV p.2 q.2.2
theorem KT.val{H:Hp}{bF:List (List wS×V)}{xs:List (List wS×Y'×W')}(r:KT H bF xs)(k:List wS):mw (i4 bF k) ((atKey xs k).map (·.2)):=by
 induction r with
 |nil=>exact True.intro
 | @cons p q ps qs h t ih=>
  obtain⟨h1,_,h2⟩:=h;by_cases e:p.1=k
  .have e' :q.1=k:=h1.symm.trans e;have b:atKey (q::qs) k=some q.2:=by simp[atKey,qZ,e']
   rw[Gh e,b];exact h2
  .have e' :¬q.1=k:=λz=>e (h1.trans z);have b:atKey (q::qs) k=atKey qs k:=by simp[atKey,qZ,e']
   rw[GZ e,b];exact ih
section
variable{P:aan}{w:aai}{H:Hp}{h:aam}{a:Y'}
theorem V0{u:HO}(ok:o5 P w H h)(e:Rd H a u):cg P w H h a u:=e.ok ok
theorem MM{bF:gu}(ok:o5 P w H h)(e:Rd H a (.dK bF)):bF.length<=sizeLine/\(a==sysModules)=false/\∃vs,KV bF vs/\h.DictOf (c5 P w) a vs:=
 show cg P w H h a (.dK bF) from V0 ok e
theorem ZK{bF:gu}(ok:o5 P w H h)(e:H a=some (.dK bF)):bF.length<=sizeLine/\(a==sysModules)=false/\∃vs,KV bF vs/\h.DictOf (c5 P w) a vs:=MM ok (.inl e)
theorem M6{ks:List wS}(ok:o5 P w H h)(e:H a=some (.tup (ks.map kV))):(tupleKind (c5 P w)).is h ks a:=by
 obtain⟨_,its,r,o,h1,h2,n,h3⟩:=(show cg P w H h a (.tup (ks.map kV)) from ok a _ e);exact⟨o,its.toArray,n,h1,h2,h3,by simpa using Dp r⟩
theorem TX{bF:List (List wS×V)}(ok:o5 P w H h)(e:Rd H a (.dT bF)):bF.length<=sizeLine/\(a==sysModules)=false/\
 ∃xs,KT H bF xs/\h.DictOfH (tupleKind (c5 P w)) a xs:=by
 obtain⟨z,y,xs,r,o,es,ep,h1,h2,h3,h4,h5⟩:=(show cg P w H h a (.dT bF) from V0 ok e);refine⟨z,y,xs,r,o,es,ep,h1,h2,h3,h4,λx hx=> ?_,h5⟩
 have all:∀{l:List (List wS×V)} {m:List (List wS×Y'×W')},KT H l m->∀x∈m,(tupleKind (c5 P w)).is h x.1 x.2.1:=by
  intro l m q
  induction q with
  |nil=>intro x hx;exact nomatch hx
  | @cons p q ps qs hq t ih=>
   intro x hx;rcases aN.mp hx with e|hx
   .subst e;exact M6 ok (by rw[<-hq.1];exact hq.2.1)
   .exact ih x hx
 exact all r x hx
end
def OW(H:Hp)(a:Y')(y:V)(r:Option V):Prop:=
 (∃bF k,Rd H a (.dK bF)/\y=kV k/\r=i4 bF k)\/∃bF k b,Rd H a (.dT bF)/\y= .ref b/\H b=some (.tup (k.map kV))/\r=i4 bF k
def alL(H:Hp)(a:Y')(y v:V)(H' :Hp):Prop:=
 (∃bF k,H a=some (.dK bF)/\y=kV k/\bF.length<sizeLine/\H' =upd H a (.dK (jad bF k v)))\/
 ∃bF k b,H a=some (.dT bF)/\y= .ref b/\H b=some (.tup (k.map kV))/\bF.length<sizeLine/\H' =upd H a (.dT (jad bF k v))
theorem OW.k{H:Hp}{a:Y'}{bF:gu}{k:wS}(e:H a=some (.dK bF)):OW H a (kV k) (i4 bF k):= .inl ⟨bF,k,.inl e,Z,Z⟩
section
variable{X:Cx}{ad:aR}{σ:St}{H:Hp}{s:X'}{a:Y'}{y v:V}{u r:W'}{o:Option V}{A:aal}{E:V'}
theorem Inv.big(I:Inv X ad σ H s):sysModules<s.heap.objs.size:=by
 have h:mainGlobals<s.heap.objs.size:=(I.mod.glob.keeps I.bk).lt;exact rp (by decide) h
theorem Qq{h' :aam}{t' :Nat}{ob:HO}(I:Inv X ad σ H s)(mu:Mut (H a))(hs:Heap.SameBut a s.heap h')(he:∃q,h'.get? a=some q)(new:cg X.prog X.w (upd H a ob) h' a ob):
 Inv X ad σ (upd H a ob) {s with heap:=h',toks:=t'}:=
 I.write (x:=a) (e:=a) mu (.inl Z) (λb q hb z=>(hs.2 b hb).trans z) he new
theorem Yj{P:aan}{w:aai}{H' :Hp}{h' :aam}{bF:gu}{vs:List (wS×W')}(z:bF.length<=sizeLine)(hd:(a==sysModules)=false)(rel:KV bF vs)(dd:h'.DictOf (c5 P w) a vs):
 cg P w H' h' a (.dK bF):=⟨z,hd,vs,rel,dd⟩
end
section
variable{X:Cx}{ad:aR}{σ:St}{H:Hp}{s:X'}{a:Y'}{bF:gu}{k:wS}{u:W'}{A:aal}{E:V'}
end
def acT(i:aaa):Prop:=∀ov iv,subscripted i false ov iv=operate [ov,iv] (getItem ov iv)
theorem R4{prog:aan}{w:aai}{A:aal}{E:V'}{s:X'}{env:Env}{value slice:aaa}{pos:Pos}{T id:String}{Q:V'}
 (hl:typeLookup (.type T) "__getitem__"=pure (some (.builtin id))) (hs:acT slice)
 (h:wpAny (model prog w) A (eval value env) (λo bP=>wpAny (model prog w) A (eval slice env) (λi tU=>tU.TypeIs o T/\wpAny (model prog w) A (getItem o i) Q E tU) E bP) E s):
 wpAny (model prog w) A (eval (.Subscript value slice pos) env) Q E s:=by
 refine Subscript_ (fM h (λo bP h₁=>fM h₁ (λi tU kj=> ?_) λ_ _ x=>x) λ_ _ x=>x);obtain⟨hT,kj⟩:=kj;unfold subscriptTail;refine av ?_;rw[getitemInPython_of_ne hT.not_modules];refine av (wpAny_specialOf hT hl ?_)
 have fin:wpAny (model prog w) A (subscripted slice false o i) (λr yW=>wpAny (model prog w) A (letTemporaryGo value o r>>= λ_=>pure r) Q E yW) E tU:=by
  rw[hs o i];exact wpAny_operating (fM kj (λr yW qx=>av (wpAny_letTemporaryGo (aW qx))) λ_ _ x=>x)
 first
  |exact aW (av fin)
  |exact av (aW (av fin))
  |exact av fin
section
variable{X:Cx}{o i e value:aaa}{pos pos' aeR:Pos}{td ty tv:TE}
end
theorem Oj{P:aan}{w:aai}{H:Hp}(h:aam)(hb:sysModules<h.objs.size):cg P w H (h.push {cls:= .type "dict",data:= .dict #[]}) h.objs.size (.dK []):=
 ⟨bU _,qH.mpr (b7 (bY hb)),[],.nil,Heap.DictOf.new h⟩
section
variable{X:Cx}{pos:Pos}
end
def Ic:List (TE×TE)->St->Hp->(List (V×V)->Hp->Prop)->Prop
 |[],_,H,Q=>Q [] H
 |(tk,tv)::r,σ,H,Q=>tk σ H λx H1=>tv σ H1 λy H2=>Ic r σ H2 λps H3=>Q ((x,y)::ps) H3
abbrev VV:List (V×V)->List (W'×W')->Prop:=Paired λp q=>RelV p.1 q.1/\RelV p.2 q.2
def PPs(X:Cx)(pos:Pos)(keys:List (Option aaa))(values:b_)(QC:List (TE×TE)):Prop:=
 ∀(ad:aR) (s:X') (σ:St) (H:Hp) (Q:List (V×V)->Hp->Prop),Inv X ad σ H s->Ic QC σ H Q->
  wpAny (model X.prog X.w) X.A (evalPairs (pairTrees keys values X.env pos)) (λvs s' =>∃ps H',Inv X ad σ H' s'/\VV ps vs/\Q ps H') X.xe s
theorem Rt{X:Cx}{pos:Pos}:PPs X pos [] [] []:=λad s σ H Q I h=>pairTrees_nil_walk ⟨[],H,I,.nil,h⟩
theorem Ai{X:Cx}{pos:Pos}{k v:aaa}{ks:List (Option aaa)}{vs:b_}{tk tv:TE}{QC:List (TE×TE)}(hk:PE X k tk)(hv:PE X v tv)(hr:PPs X pos ks vs QC):
 PPs X pos (some k::ks) (v::vs) ((tk,tv)::QC):=λad s σ H Q I h=>
 pairTrees_cons_walk (cN (hk ad s σ H _ I h) λu s1 ⟨x,H1,I1,rx,q1⟩=>cN (hv ad s1 σ H1 _ I1 q1) λw2 s2 ⟨y,H2,I2,ry,q2⟩=>
  cN (hr ad s2 σ H2 _ I2 q2) λws s3 ⟨ps,H3,I3,rel,q3⟩=>⟨(x,y)::ps,H3,I3,.cons ⟨rx,ry⟩ rel,q3⟩)
noncomputable def xf(bF more:gu):gu:=more.foldl (λacc kv=>jad acc kv.1 kv.2) bF
theorem KV.merge:∀{more:gu} {rs:List (wS×W')} {bF:gu} {vs:List (wS×W')},KV more rs->KV bF vs->KV (xf bF more) (merged vs rs):=by
 intro more rs bF vs r;unfold KV at r
 induction r generalizing bF vs with
 |nil=>intro q;exact q
 | @cons p q ps qs h t ih=>
  intro r0
  have e:KV (jad bF p.1 p.2) (stored vs q.1 q.2):=by
   have:=r0.put p.1 h.2;rw[<-h.1];exact this
  exact ih e
theorem sr:∀(more bF:gu),(xf bF more).length<=bF.length+more.length
 |[],bF=>by show bF.length<=bF.length+0;omega
 |p::r,bF=>by
  have h1:=sr r (jad bF p.1 p.2);have h2:=Hr bF p.1 p.2;show(xf (jad bF p.1 p.2) r).length<=_;rw[aZ];omega
theorem Ap{P:aan}{w:aai}:∀{bF:gu} {ws:List (W'×W')},VV (bF.map λkv=>(kV kv.1,kv.2)) ws->∃rs,Carries (c5 P w) ws rs/\KV bF rs
 |[],_,r=>by rw[n5] at r;cases r;exact⟨[],True.intro,.nil⟩
 |p::bF,_,r=>by
  rw[eG] at r
  cases r with
  | @cons a b as bs h t=>
   obtain⟨rs,c,q⟩:=Ap (P:=P) (w:=w) t;obtain⟨b1,b2⟩:=b;exact⟨(p.1,b2)::rs,⟨GC h.1,Z,c⟩,.cons ⟨Z,h.2⟩ q⟩
def Z6(QC:List (TE×TE)):TE:=λσ H Q=>∀p,H p=none->Ic QC σ (upd H p (.dK [])) λps H2=>H2 p=some (.dK [])/\∃bF:gu,ps=bF.map (λkv=>(kV kv.1,kv.2))/\bF.length<=15/\Q (.ref p) (upd H2 p (.dK (xf [] bF)))
theorem QQ{X:Cx}{pos:Pos}{keys:List (Option aaa)}{values:b_}{QC:List (TE×TE)}(h:PPs X pos keys values QC)(Yn:keys.all (·.isSome)=true)(hl:keys.length=values.length)(h0:keys≠[])
 (h15:keys.length<=15):PE X (.Dict keys values pos) (Z6 QC):=by
 intro ad s σ H Q I q;have hn:=I.bM.fresh (aJ s.heap.objs.size);have I1:=I.laid (a:=s.heap.objs.size) (o:= .dK []) (h' :=s.heap.push {cls:= .type "dict",data:= .dict #[]}) (t' :=s.toks) (λ_ _ q=>bg _ q) (aJ _) (Oj s.heap I.big);refine wpAny_Dict_walk (knd:=c5 X.prog X.w) Yn hl h0 h15 (cN (h ad _ σ _ _ I1 (q _ hn)) λws s2 ⟨ps,H2,I2,rel,e,bF,ep,lk,q2⟩=> ?_);subst ep;obtain⟨rs,c,rk⟩:=Ap (P:=X.prog) (w:=X.w) rel;obtain⟨z,hd,vs0,r0,dd⟩:=ZK I2.bM e;cases r0;refine⟨rs,c,dd,λh' XW hs=>⟨.ref s.heap.objs.size,_,?_,Z,q2⟩⟩
 have hz:(xf [] bF).length<=sizeLine:=by
  have h1:=sr bF [];rw[fO] at h1;rw[qU];omega
 have he:∃q,h'.get? s.heap.objs.size=some q:=let⟨q,_,_,hq,_⟩:=XW;⟨q,hq⟩
 exact Qq I2 (by rw[e];exact True.intro) hs he (Yj hz hd (rk.merge .nil) XW)
structure M2(X:Cx)(o:aaa)(m:Str)(apos:Pos)(e f:aaa)(i9:Pos):Prop where
 base:attributeBase o m X.env (eval o X.env)=eval o X.env
 few:((backTo i9 (starEach [e,f] X.env)).all (λx=> !x.1)&&(backToKw i9 (keywordEach [] X.env)).all (λx=>x.1.isSome)
  &&decide (([e,f]:b_).length+([]:List Keyword).length+(if([]:List Keyword).isEmpty then 0 else 1)<30))=true
 line:(apos.endLine==i9.line)=true
 trees:backTo i9 (starEach [e,f] X.env)=[(false,eval e X.env),(false,eval f X.env)]
def IsD(H:Hp)(a:Y'):Prop:=(∃bF,Rd H a (.dK bF))\/∃bF,Rd H a (.dT bF)
theorem Yr{X:Cx}{ad:aR}{σ:St}{H:Hp}{s:X'}{a:Y'}(I:Inv X ad σ H s)(d:IsD H a):
 s.TypeIs (.ref a) "dict" /\(∀b,Value.ref a= .ref b->∃ob,s.heap.get? b=some ob/\ob.dict=none)/\(a==sysModules)=false:=by
 rcases d with⟨bF,e⟩|⟨bF,e⟩
 .obtain⟨_,hd,vs,_,dd⟩:=MM I.bM e;refine⟨dd.typeIs,λb q=> ?_,hd⟩;cases q;obtain⟨ob,_,_,h1,h2,_⟩:=dd;exact⟨ob,h1,h2.2.1⟩
 .obtain⟨_,hd,xs,_,dd⟩:=TX I.bM e;refine⟨dd.typeIs,λb q=> ?_,hd⟩;cases q;obtain⟨ob,_,_,h1,h2,_⟩:=dd;exact⟨ob,h1,h2.2.1⟩
section
variable{X:Cx}{ad:aR}{σ:St}{H:Hp}{s:X'}{a:Y'}{y d:V}{u r:W'}{o:Option V}{A:aal}{E:V'}
theorem WT{Q:V'}(hu:A.units+1<cLine)(I:Inv X ad σ H s)(g:OW H a y o)(ry:RelV y u)(rd:RelV d r)(h:∀w' s',Inv X ad σ H s'->RelV (o.getD d) w'->Q w' s'):
 wpAny (model X.prog X.w) A (call (.builtin "dict.get") [.ref a,u,r]) Q E s:=by
 rcases g with⟨bF,k,e,ey,l⟩|⟨bF,k,b,e,ey,eb,l⟩
 .subst ey;obtain⟨z,hd,vs,rel,dd⟩:=MM I.bM e;refine call_meetsIn slot_dict_get dd.typeIs entry_dict_get (args_dict_get_3 _ _ _) (meets_dict_get_default (c5 X.prog X.w) a (GC ry) hd r) ⟨_,dd.mapOf,h _ _ (I.tok _) ?_⟩;rw[l];exact(rel.val k).getD rd
 .subst ey;cases(show u=Value.ref b from ry);obtain⟨z,hd,xs,rel,dd⟩:=TX I.bM e;refine call_meetsIn slot_dict_get dd.typeIs entry_dict_get (args_dict_get_3 _ _ _) (meetsH_dict_get_default (tupleKind (c5 X.prog X.w)) a b hd r) ⟨tupleKind_room_in1 hu,k,xs,M6 I.bM eb,dd,h _ _ (I.tok _) ?_⟩;rw[l];exact(rel.val k).getD rd
end
def YN(td ty tx:TE):TE:=λσ H Q=>td σ H λx H1=>∃a,x= .ref a/\IsD H1 a/\ty σ H1 λy H2=>tx σ H2 λz H3=>∃o,OW H3 a y o/\Q (o.getD z) H3
section
variable{X:Cx}{o e f:aaa}{apos i9:Pos}{td ty tx:TE}
theorem NM(hu:X.A.units+1<cLine)(ho:PE X o td)(he:PE X e ty)(hf:PE X f tx)(m:M2 X o "get" apos e f i9):PE X (.Call (.Attribute o "get" apos) [e,f] [] i9) (YN td ty tx):=by
 intro ad s σ H Q I h;refine wpAny_Call_method m.base m.few m.line PySem.F.plainAttrs_dict slot_dict_get PySem.F.type_dict_get (cN (ho ad s σ H _ I h) λu s1 ⟨x,H1,I1,rx,a,ex,d,q1⟩=> ?_);subst ex;obtain rfl:u=Value.ref a:=rx;obtain⟨t1,t2,_⟩:=Yr I1 d;refine⟨t1,t2,?_⟩;rw[m.trees]
 refine Fn Z (Calls.evalArgs_plain (tK (cN (he ad s1 σ H1 _ I1 q1) λiv s2 ⟨y,H2,I2,ry,q2⟩=>
  tK (cN (hf ad s2 σ H2 _ I2 q2) λfv s3 ⟨z,H3,I3,rz,ov,g,q3⟩=>vo ?_))))
 exact WT hu I3 g ry rz λw' s4 I4 M5 =>⟨_,H3,I4,M5,q3⟩
end
section
variable{X:Cx}{ad:aR}{σ:St}{H:Hp}{s:X'}{a:Y'}{bF:gu}{A:aal}{E:V'}
end
section
variable{X:Cx}{ad:aR}{σ:St}{H:Hp}{s:X'}{a:Y'}{y:V}{u:W'}{A:aal}{E:V'}
end
end L2
namespace Att
open PySem PySem.W PySem.Calls PyProof.Rows
theorem yz{P:Params}{h:aam}:∀(ns:List Int) (vs:aE),WellAll P h vs (ns.map WData.int)->IntsAre vs ns:=by
 intro ns
 induction ns with
 |nil=>
  intro vs w;rw[n5] at w;cases w;exact .nil
 |cons n ns ih=>
  intro vs w;rw[eG] at w
  cases w with
  |cons a b=>
   cases a;exact .cons _ _ (ih _ b)
theorem LM{l:OpenLaw}{n:Nat}(hn:l.most=some n){P:Params}{h:aam}{args:List WData}{vals:aE}
 (Qn:l.row.toRowW.claim.pre args=true) (Lq:WellAll P h vals args):
 ∃a vs ns,vals=[Value.ref a]/\args=[WData.list (ns.map WData.int)]/\h.get? a=some {cls:= .type "list",data:= .seq vs.toArray}/\IntsAre vs ns/\ns.length<=n:=by
 have hsh:WShape.hasAll [] args [.list .int]=true:=(pre_splitW Qn).1;have hc:l.pre.holds [] {args:=args}=true:=(pre_splitW Qn).2;obtain⟨d,r,rfl,h1,h2⟩:=hasAllW_cons hsh;obtain rfl:=hasAllW_nil h2;obtain⟨xs,rfl,h3⟩:=hasW_list h1;obtain⟨ns,rfl⟩:=items_int h3
 have hlen:ns.length<=n:=by
  unfold OpenLaw.pre at hc
  have h4:(WTm.not (.lt (.lit (.int (n:Int))) (.len (.arg 0)))).holds [] {args:=[.list (ns.map .int)]}=true:=by
   have h4:=(holds_andW hc).1;rw[hn] at h4;exact h4
  have h5:=condW_of h4 (w_not (w_lt w_lit (w_len_list (w_arg Z))));rw[aG] at h5;refine Nat.le_of_not_lt λq=> ?_;have q' :(n:Int)<((ns.length:Nat):Int):=by omega
  first
   |(rw[aU q'] at h5;exact absurd h5 (by decide))
   |(simp at h5;omega)
 cases Lq with
 |cons w1 w2=>
  cases w2
  cases w1 with
  |list ho Yn=>exact⟨_,_,ns,Z,Z,ho,yz ns _ Yn,hlen⟩
theorem Ml(l:OpenLaw)(args:List WData):l.row.toRowW.claim.post args (.bool true) args=true:=
 postW_of (r:=l.row.toRowW) (X:=(true==true))
  (show WShape.has [] (.bool true) .bool=true by first|rfl|decide|simp[WShape.has,WShape.arms,WShape.armsAll])
  (show(WTm.eq .res (.lit (.bool true))).value [] {args:=args,res:=some (.bool true),after:=args}=some (.bool (true==true)) from w_eq_bool (w_res Z) w_lit) rfl
theorem Gb{l:OpenLaw}{n:Nat}{q:aan}{loose:aj}{XP:(Str->aM)->aam->Prop}{YP:aai->aam->Prop}{d:DefRec}
 (hn:l.most=some n) (hdf:d.params.defaults=[])
 (call:∀(w:aai) (fG bP:X') (mg mb:Str->aM) (fa:Y') (o:Obj) (pm cd doc:W') (a:Y') (vs:aE) (ns:List Int),
  Ground q loose [] XP w fG mg mb bP.heap->YP w bP.heap->
  bP.heap.get? fa=some o->o.data= .func (docDef d.name d.params d.body d.scope pm cd doc)->bP.heap.CodeRec cd d.name->mg d.name=some (.ref fa)->
  bP.heap.get? a=some {cls:= .type "list",data:= .seq vs.toArray}->IntsAre vs ns->ns.length<=n->bP.gens= #[]->
  codeAny (model l.prog w) callerA (.call (.ref fa) ⟨[.ref a],[]⟩) (λr s' =>r= .ok (.ret (.bool true))/\OldK bP.heap s'.heap/\s'.os=bP.os/\AllBare s'.gens) bP):
 WalkO q loose XP YP l.row.toRowW d [] (λf vs=>PySem.call f vs):=by
 intro w fG bP mg mb G Y fa o pm cd doc dV kV ho hd AG hD Xk hg args vals as Qn ald hrd Lq MR;obtain rfl:dV= .none:=Dflts.none hD hdf;obtain rfl:kV= .none:=Dflts.noKw hD;obtain⟨a,vs,ns,rfl,rfl,X8,hints,hlen⟩:=LM hn Qn Lq;refine enter_call (n8 (call w fG bP mg mb fa o pm cd doc a vs ns G Y ho (fd_plain hd) AG Xk X8 hints hlen hg) λr s' hq=> ?_);obtain⟨rfl,h2,h3,h4⟩:=hq;exact⟨.inl ⟨.bool true,.bool true,[],Z,λ_=>rfl,.bool true,Ml l _,λ_=>⟨List.Pairwise.nil,λ_ hm=>(nomatch hm)⟩⟩,h2,h3,h4⟩
section
variable{prog:aan}{w:aai}{A:aal}{E:V'}{s:X'}{K:Frag}
end
end Att
namespace L2
open PySem PySem.Spec PyProof.Rows
theorem Du:∀{vs:aE} {ns:List Int},IntsAre vs ns->Vals (ns.map V.int) vs
 |_,_,.nil=> .nil
 |_,_,.cons n t h=> .cons ⟨t,Z⟩ (Du h)
def CF(H:Hp):Prop:=∀b,H b=none\/∃o xs,H b=some (.Gj o (.lst xs))
abbrev cY:tY:=λ_ _ _ _ _ _=>False
abbrev E0:XK:=λ_ _ _=>False
theorem aA{X:Cx}:wn cY X E0:=λ_ _ _ _ _ _ _ h=>h.elim
structure Gm(K:Frag)(x qual:Str)(st:Stmt)(f:Y')(fd:aap):Prop where
 ex:∃(oc:W') (od:Option Y') (kV doc pm:W') (an:Option Y') (cC ct:W') (xF:Array (aM)),
  fd=PySem.W.fnOf x qual (gN st) (dr st) (ao st) .none kV doc pm an cC ct/\K.lookup f=some ⟨oc,od,.func fd,xF⟩/\PySem.W.codeIn K cC qual=true
 kp:PySem.W.keepIn K (.ref f)=true
section
variable{P:aan}{w:aai}{K:Frag}{mg:Str->aM}{base:aam}
theorem Gm.ok{x qual:Str}{st:Stmt}{f:Y'}{fd:aap}{N ps:aj}{k:Nat}{sp:Sp}(F:Gm K x qual st f fd)(S:aC N ps (ao st))(len:∀vs H Q E,sp vs H Q E->vs.length=ps.length)
 (gI:∀(cC:W') (A:aal) (outer:List Env) (s:X') (H:Hp) (vs:ak) (Q:VK) (E:XK),dQ k (A.deeper (envOfC qual (ao st) s.heap.objs.size f cC))->sp vs H Q E->
  ∃t,DE (mQ cY P w K mg base N qual (ao st) f cC A outer s H E).Mt (dr st) t/\t {nx:=λ_ H' =>Q .bV H',rt:=Q} (start N vs) H):aQ P w K mg base cY (k+1) f fd ps sp:=by
 obtain⟨oc,od,kV,doc,pm,an,cC,ct,xF,rfl,lk,AG⟩:=F.ex;refine JP lk AG S len λA outer s H vs Q E hr DW=> ?_;obtain⟨t,h,q⟩:=gI cC A outer s H vs Q E hr DW;exact⟨t,h.Mt,q⟩
theorem Gm.binds{x qual:Str}{st:Stmt}{f:Y'}{fd:aap}{ps:aj}(F:Gm K x qual st f fd)
 (h:∀(kV doc pm:W') (an:Option Y') (cC ct:W') (us:aE),us.length=ps.length->bindArgs (PySem.W.fnOf x qual (gN st) (dr st) (ao st) .none kV doc pm an cC ct) ⟨us,[]⟩=pure (ps.zip us)):Binds K fd ps []:=by
 obtain⟨oc,od,kV,doc,pm,an,cC,ct,xF,rfl,lk,AG⟩:=F.ex;exact .all (h kV doc pm an cC ct)
theorem Fs{x qual:Str}{st:Stmt}{f:Y'}{oc:W'}{od an:Option Y'}{xF:Array (aM)}{kV doc pm cC ct:W'}(l:K.lookup f=some ⟨oc,od,.func (PySem.W.fnOf x qual (gN st) (dr st) (ao st) .none kV doc pm an cC ct),xF⟩)
 (c:PySem.W.codeIn K cC qual=true) (k:PySem.W.keepIn K (.ref f)=true):Gm K x qual st f (PySem.W.fnOf x qual (gN st) (dr st) (ao st) .none kV doc pm an cC ct):=⟨⟨oc,od,kV,doc,pm,an,cC,ct,xF,Z,l,c⟩,k⟩
end
theorem abL{A:aal}{k:Nat}(hr:dQ k A):A.units+1<cLine:=gx (nt (by decide:1<=64) _) hr.units
variable{X:Cx}
theorem pv(i:Nat){x:Str}{pos:Pos}(hN:X.N[i]? =some x:=by rfl)(hv:Vis X.env.scope x:=by first|exact Or.inl rfl|exact Or.inr (Or.inl rfl)|exact Or.inr (Or.inr rfl))(hd:(x==("__debug__" :Str))=false:=by decide)
 (AG:(x==("__classdict__" :Str))=false:=by decide):PE X (.Name x pos) (MW i):=YS hN hv hd AG
theorem cf{A B:Prop}(h:B):if false=true then A else B:=by
 rw[aq cE];exact h
theorem cD{A B:Prop}(h:A):if true=true then A else B:=by
 rw[ay Z];exact h
theorem sV{c A B:Prop}[Decidable c](h1:c->A)(h2:¬c->B):if c then A else B:=by
 by_cases h:c
 .rw[ay h];exact h1 h
 .rw[aq h];exact h2 h
def ai(H H' :Hp):Prop:=∀b o,H b=some o->H' b=some o
theorem ai.refl(H:Hp):ai H H:=λ_ _ h=>h
theorem ai.trans{H H1 H2:Hp}(a:ai H H1)(b:ai H1 H2):ai H H2:=λc o h=>b c o (a c o h)
theorem ai.free{H H' :Hp}(e:ai H H'){l:Y'}(h:H' l=Option.none):H l=Option.none:=by
 cases q:H l with
 |none=>rfl
 |some o=>
  rw[e l o q] at h;cases h
theorem ai.seq{K:Frag}{H H' :Hp}{a:Y'}{xs:ak}(e:ai H H')(h:bq K H a xs):bq K H' a xs:=by
 rcases h with(h|⟨o,h⟩)|h
 .exact .inl (.inl (e _ _ h))
 .exact .inl (.inr ⟨o,e _ _ h⟩)
 .exact .inr h
section
variable{κ:Type}[DecidableEq κ]
end
noncomputable def nN(env:Env):List (Str×NameKind)->List (Str×Y')->List (Str×Y')
 |[],acc=>acc
 |y::r,acc=>nN env r (if(y.2==NameKind.free)=true then(y.1,(env.cells.lookup y.1).getD 0)::acc else acc)
theorem Av{env:Env}:∀(ns:List (Str×NameKind)) (acc:List (Str×Y')),(∀y∈ns,y.2= .free->∃c,env.cells.lookup y.1=some c)->
 (forIn ns acc λ(x:Str×NameKind) (cs:List (Str×Y'))=>if(x.2==NameKind.free)=true then(cellOf env x.1>>= λa=>pure (ForInStep.yield ((x.1,a)::cs))) else(pure (ForInStep.yield cs):Sem (ForInStep (List (Str×Y')))))=pure (nN env ns acc)
 |[],acc,_=>rfl
 |y::r,acc,h=>by
  rw[vj];have ih:=λa=>Av r a λz hz=>h z (a7 _ hz);by_cases hk:(y.2==NameKind.free)=true
  .obtain⟨c,hc⟩:=h y a9 (eq_of_beq hk);have e:cellOf env y.1=pure c:=by unfold cellOf;rw[hc]
   rw[ay hk,e];show(forIn r ((y.1,c)::acc) _:Sem (List (Str×Y')))=_;rw[ih];show pure (nN env r ((y.1,c)::acc))=pure (nN env r (if(y.2==NameKind.free)=true then(y.1,(env.cells.lookup y.1).getD 0)::acc else acc));rw[ay hk,hc];rfl
  .rw[aq hk];show(forIn r acc _:Sem (List (Str×Y')))=_;rw[ih];show pure (nN env r acc)=pure (nN env r (if(y.2==NameKind.free)=true then(y.1,(env.cells.lookup y.1).getD 0)::acc else acc));rw[aq hk]
theorem BI{scope:Scope}{env:Env}(h:∀y∈scope.names,y.2= .free->∃c,env.cells.lookup y.1=some c):closureFor scope env=pure (nN env scope.names []):=by
 have q:=Av (env:=env) scope.names [] h;have e:closureFor scope env=((forIn scope.names ([]:List (Str×Y')) λ(x:Str×NameKind) (cs:List (Str×Y'))=>if(x.2==NameKind.free)=true then(cellOf env x.1>>= λa=>pure (ForInStep.yield ((x.1,a)::cs))) else(pure (ForInStep.yield cs):Sem (ForInStep (List (Str×Y')))))>>= λcs=>pure cs):=rfl;rw[e,q];rfl
theorem wQ{env:Env}:∀(ns:List (Str×NameKind)) (acc:List (Str×Y')) {x:Str} {c:Y'},(∀y∈ns,y.2= .free->∃c,env.cells.lookup y.1=some c)->(nN env ns acc).lookup x=some c->env.cells.lookup x=some c\/acc.lookup x=some c
 |[],acc,x,c,_,h=> .inr h
 |y::r,acc,x,c,h,e=>by
  have e:(nN env r (if(y.2==NameKind.free)=true then(y.1,(env.cells.lookup y.1).getD 0)::acc else acc)).lookup x=some c:=e;rcases wQ r _ (λz hz=>h z (a7 _ hz)) e with q|q
  .exact .inl q
  .by_cases hk:(y.2==NameKind.free)=true
   .rw[ay hk,ip] at q;obtain⟨d,hd⟩:=h y a9 (eq_of_beq hk)
    cases hx:x==y.1 with
    |true=>
     rw[hx] at q;dsimp only at q;rw[hd] at q;have hxy:x=y.1:=eq_of_beq hx;subst hxy;exact .inl (hd.trans q)
    |false=>
     rw[hx] at q;exact .inr q
   .rw[aq hk] at q;exact .inr q
theorem w_{env:Env}:∀(ns:List (Str×NameKind)) (acc:List (Str×Y')) {x:Str},((x,NameKind.free)∈ns\/∃c,acc.lookup x=some c)->∃c,(nN env ns acc).lookup x=some c
 |[],acc,x,h=>by
  rcases h with h|h
  .cases h
  .exact h
 |y::r,acc,x,h=>by
  show ∃c,(nN env r (if(y.2==NameKind.free)=true then(y.1,(env.cells.lookup y.1).getD 0)::acc else acc)).lookup x=some c;refine w_ r _ ?_;rcases h with h|⟨c,hc⟩
  .rcases aN.mp h with e|h
   .subst e;refine .inr ⟨(env.cells.lookup x).getD 0,?_⟩;rw[ay (by rfl),ip,beq_self_eq_true]
   .exact .inl h
  .by_cases hk:(y.2==NameKind.free)=true
   .rw[ay hk]
    cases hx:x==y.1 with
    |true=>exact .inr ⟨_,by rw[ip,hx]⟩
    |false=>exact .inr ⟨c,by rw[ip,hx];exact hc⟩
   .rw[aq hk];exact .inr ⟨c,hc⟩
theorem nZ{env:Env}{x:Str}{k:NameKind}:∀(ns:List (Str×NameKind)),(ns.map λ(n,k)=>if(k==NameKind.free&&env.scope.kind== .function&&env.kindOf n==some .cell) then(n,NameKind.cell) else(n,k)).lookup x=some k->
 ns.lookup x=some k\/(ns.lookup x=some .free/\k= .cell)
 |[],h=>by cases h
 |(n,j)::r,h=>by
  have ih:=nZ (env:=env) (x:=x) (k:=k) r;rw[eG] at h;dsimp only at h;by_cases hc:(j==NameKind.free&&env.scope.kind== .function&&env.kindOf n==some .cell)=true
  .rw[ay hc,ip] at h;rw[ip]
   cases hx:x==n with
   |true=>
    rw[hx] at h
    have hj:(j==NameKind.free)=true:=by
     rw[cL,cL] at hc;exact hc.1.1
    have hj:=eq_of_beq hj;subst hj;exact .inr ⟨Z,(fC h).symm⟩
   |false=>
    rw[hx] at h;exact ih h
  .rw[aq hc,ip] at h;rw[ip]
   cases hx:x==n with
   |true=>
    rw[hx] at h;exact .inl h
   |false=>
    rw[hx] at h;exact ih h
theorem vq{env:Env}{x:Str}:∀(ns:List (Str×NameKind)),ns.lookup x=some .free->
 (ns.map λ(n,k)=>if(k==NameKind.free&&env.scope.kind== .function&&env.kindOf n==some .cell) then(n,NameKind.cell) else(n,k)).lookup x=some .cell\/
 (ns.map λ(n,k)=>if(k==NameKind.free&&env.scope.kind== .function&&env.kindOf n==some .cell) then(n,NameKind.cell) else(n,k)).lookup x=some .free
 |[],h=>by cases h
 |(n,j)::r,h=>by
  have ih:=vq (env:=env) (x:=x) r;rw[eG];dsimp only;rw[ip] at h;by_cases hc:(j==NameKind.free&&env.scope.kind== .function&&env.kindOf n==some .cell)=true
  .rw[ay hc,ip]
   cases hx:x==n with
   |true=>exact .inl rfl
   |false=>
    rw[hx] at h;exact ih h
  .rw[aq hc,ip]
   cases hx:x==n with
   |true=>
    rw[hx] at h;exact .inr h
   |false=>
    rw[hx] at h;exact ih h
noncomputable def gg(X:Cx)(N:aj)(scope:Scope)(cl:List (Str×Y'))(C:Y')(s:X')(H:Hp)(fp:bh):Cx where
 prog:=X.prog
 w:=X.w
 K:=X.K
 mg:=X.mg
 base:=X.base
 A:=X.A
 N:=N
 fG:=s
 H₀:=H
 env:=compEnvC scope cl C X.env
 outer:=X.stack
 stack:=X.stack
 ex:=fp
 fn:=λ_=>false
 calm:=X.calm
 pn:=[]
 xe:=λ_ _=>False
noncomputable def yO(k:Nat)(js:List Nat)(σ:St):St:=List.replicate k none++js.map λj=>σ.getD j none
structure ny(X:Cx)(N:aj)(scope:Scope)(k:Nat)(js:List Nat):Prop where
 kind:scope.kind= .function
 cell:∀y∈scope.names,y.2≠.cell
 loc:∀y∈scope.names,y.2= .local->scope.names.lookup y.1=some .local
 free:∀y∈scope.names,y.2= .free->X.env.kindOf y.1=some .cell\/X.env.kindOf y.1=some .free
 len:N.length=k+js.length
 names:∀(i j:Nat),js[i]? =some j->X.N[j]? =N[k+i]?
 js:∀(i:Nat) (x:Str),N[k+i]? =some x->scope.names.lookup x=some .free
section
variable{X:Cx}{ad:aR}{σ:St}{H:Hp}{s:X'}{N:aj}{scope:Scope}{k:Nat}{js:List Nat}
theorem ny.cells(S:ny X N scope k js)(ok:X.Ok):∀y∈scope.names,y.2= .free->∃c,X.env.cells.lookup y.1=some c:=λy hy hf=>ok.has _ (S.free y hy hf)
theorem PM{fp:bh}{h1:aam}{t1:Nat}(I:Inv X ad σ H s)(S:ny X N scope k js)(f:∀b∈fp,yM X ad H b)(fo:∀b∈fp,∃o,s.heap.get? b=some o)
 (hn:h1.Ns s.heap.objs.size λ_=>none) (hk:∀b o,s.heap.get? b=some o->h1.get? b=some o):
 Inv (gg X N scope (nN X.env scope.names []) s.heap.objs.size s H fp) [] (yO k js σ) H {s with heap:=h1,toks:=t1}:=by
 have cs:=S.cells I.ok
 have UA:∀{x:Str} {c:Y'},(nN X.env scope.names []).lookup x=some c->X.env.cells.lookup x=some c:=λ{x c} e=>by
  rcases wQ scope.names [] cs e with q|q
  .exact q
  .cases q
 refine⟨⟨I.ok.mod,S.kind,I.ok.glob,I.ok.blt,aJ _,λx y c e1 e2=>I.ok.inj x y c (UA e1) (UA e2),λx hx=> ?_,λx c hf _=>(nomatch hf),I.ok.hd,I.ok.frames,.inl Z,λb hb=>⟨?_,λx c e=> ?_⟩,I.bs,
  aL I.ok.LF I.sz,λb o e hb=> ?_,λb hb z=> ?_,I.stack,I.u_⟩,Z,I.bare,Un.kept hk,⟨_,hn,λi x v e1 e2 e3=> ?_⟩,λx c e=> ?_,I.bM.fresh (aJ _),λx c e=>I.jA x c (UA e),λp hp=> ?_,I.bM.kept hk,?_⟩
 .have hx:(relabel scope X.env).names.lookup x=some .cell\/(relabel scope X.env).names.lookup x=some .free:=hx
  have fr:scope.names.lookup x=some .free:=by
   rcases hx with q|q
   .rcases nZ scope.names q with z|z
    .exact absurd Z (S.cell _ (D' z))
    .exact z.1
   .rcases nZ scope.names q with z|z
    .exact z
    .exact z.1
  exact w_ scope.names [] (.inl (D' fr))
 .obtain⟨o,ho⟩:=fo b hb;exact bY (aX ho)
 .exact(f b hb).2.2.2.2.1 x c (UA e)
 .rcases(f b hb).2.2.2.1 with z|z
  .exact I.ok.Ik b o e z
  .exact absurd (cq (cq (aX e) I.ok.LF) z) (cn _)
 .rcases aN.mp (I.Bd b z) with q|q
  .exact(f b hb).2.1 q
  .exact(f b hb).2.2.1 q
 .have e1:N[i]? =some x:=e1
  have hi:k<=i:=by
   by_cases hi:i<k
   .unfold yO at e2;rw[fz (by rw[eV];exact hi),tm,ay hi] at e2;cases e2
   .omega
  obtain⟨d,rfl⟩:∃d,i=k+d:=⟨i - k,by omega⟩;unfold yO at e2;rw[gS (by rw[eV];omega),eV,bG] at e2;have ed:k+d - k=d:=by omega
  rw[ed] at e2
  cases ej:js[d]? with
  |none=>rw[ej] at e2;cases e2
  |some j=>
   rw[ej] at e2;have e2:σ.getD j none=some v:=fC e2
   have Xe :σ[j]? =some (some v):=by
    rw[eQ] at e2
    cases q:σ[j]? with
    |none=>rw[q] at e2;cases e2
    |some z=>rw[q] at e2;rw[show z=some v from e2]
   have en:X.N[j]? =some x:=(S.names d j ej).trans e1;have fr:=S.js d x e1;have kx:=S.free _ (D' fr) rfl;obtain⟨m,_,hl⟩:=I.loc;obtain⟨u,r,l⟩:=hl j x v en Xe (by rcases kx with q|q;exact .inr (.inl q);exact .inr (.inr q));refine⟨u,r,.inr ⟨?_,?_⟩⟩
   .exact vq (env:=X.env) scope.names fr
   .rcases l with⟨l,_⟩|⟨_,c,ec,ic⟩
    .rcases kx with q|q
     .dsimp only at q;rw[q] at l;cases l
     .dsimp only at q;rw[q] at l;cases l
    .obtain⟨c',e'⟩:=w_ (env:=X.env) scope.names [] (.inl (D' fr));have e'' :=UA e';rw[ec] at e'';cases e'';exact⟨c,e',ic.keeps hk⟩
 .obtain⟨v,q⟩:=I.cell x c (UA e);exact⟨v,q.keeps hk⟩
 .have hp:p∈([]:aR):=hp;cases hp
 .show(yO k js σ).length=N.length;unfold yO;rw[aT,eV,aG,S.len]
end
def fU(σ eO :St):Prop:=∀(i:Nat) v,σ[i]? =some (some v)->eO[i]? =some (some v)
theorem fU.refl(σ:St):fU σ σ:=λ_ _ h=>h
theorem fU.own{σ eO :St}{k i:Nat}{js:List Nat}{v:Option V}(h:fU (yO k js σ) eO)(hi:i<k):fU (yO k js σ) (eO.set i v):=λj u e=>by
 have hj:j≠i:=λz=>by
  subst z;unfold yO at e;rw[fz (by rw[eV];exact hi),tm,ay hi] at e;cases e
 rw[zd (b7 hj)];exact h j u e
def nh(J:It)(k:Nat)(js:List Nat)(g:TG)(tt:TT)(te:TE)(σ:St)(H1:Hp)(Q:VK):Prop:=∀p,H1 p=none->∃W:Nat->Nat->ak->Hp->Prop,(∃m,W 0 m [] (upd H1 p (.lst [])))/\
 ∀i m ys H,W i m ys H->H p=some (.lst ys)/\((J.stop i H/\Q (.ref p) H)\/(J.go i H/\ys.length<sizeLine/\∀x H',J.zS i H x H'->g x (yO k js σ) H' λkn H2=>fU (yO k js σ) kn/\tt kn H2 λb H3=>
  if b=true then te kn H3 λy H4=>H4 p=some (.lst ys)/\∃m',m' <m/\W (i+1) m' (ys++[y]) (upd H4 p (.lst (ys++[y]))) else ∃m',m' <m/\W (i+1) m' ys H3))
def FW(wi:TI)(k:Nat)(js:List Nat)(g:TG)(tt:TT)(te:TE):TE:=λσ H Q=>wi σ H λJ H1=>nh J k js g tt te σ H1 Q
def Rg:TT:=λ_ H Q=>Q true H
def Il(Y:Cx)(ifs:b_)(t:TT):Prop:=
 ∀(ad:aR) (s:X') (σ:St) (H:Hp) (Q:Bool->Hp->Prop),Inv Y ad σ H s->t σ H Q->
  wpAny (model Y.prog Y.w) Y.A (forIn ifs true λc r=>if r=true then do let ok<-isTrue c Y.env (eval c Y.env);pure (ForInStep.yield ok) else pure (ForInStep.yield r)) (TP Y ad σ Q) Y.xe s
theorem pD{Y:Cx}:Il Y [] Rg:=λ_ _ _ H _ I h=>wpAny_tests_nil ⟨H,I,h⟩
theorem Rx{Y:Cx}{c:aaa}{t:TT}(h:PT Y c t):Il Y [c] t:=λad s σ H Q I hq=>wpAny_tests_one (h ad s σ H Q I hq)
section
variable{prog:aan}{w:aai}{A:aal}{R:Result->X'->Prop}{s:X'}
theorem EW{elt target iter:aaa}{ifs:b_}{scope:Scope}{pos:Pos}{it acc:W'}{env:Env}(I:Nat->X'->Prop)
 (turn:∀n s,I n s->wpAny (model prog w) A (pyNext it) (λr bP=>match r with
  |none=>R (.ok .next) bP
  |some v=>wpAny (model prog w) A (letOwnedTupleGo target it v) (λ_ fG=>wpAny (model prog w) A (assign target env v) (λ_ tU=>
   wpAny (model prog w) A (forIn ifs true λc r=>if r=true then do let ok<-isTrue c env (eval c env);pure (ForInStep.yield ok) else pure (ForInStep.yield r)) (λok yW=>
    if ok=true then wpAny (model prog w) A (eval elt env) (λx RL=>
     wpAny (model prog w) A (call (.builtin "list.append") [acc,x]) (λ_ abi=>∃m,m<n/\I m abi) (λ_ _=>False) RL) (λ_ _=>False) yW
    else ∃m,m<n/\I m yW) (λ_ _=>False) tU) (λ_ _=>False) fG) (λ_ _=>False) bP) (λ_ _=>False) s)
 (n:Nat) (h:I n s):
 codeAny (model prog w) A (.compLoop (.ListComp elt [⟨target,iter,ifs,0⟩] scope pos) 0 it acc env) R s:=by
 refine codeAny_loop Z I (λn s hI=> ?_) n h;show wpAny _ A ((compTurn (.ListComp elt [⟨target,iter,ifs,0⟩] scope pos) 0 it acc env).onRaise (λx=>do noteFrame x env;theTreesLotGoes x)) _ _ s;refine wpAny_noted ?_;rw[compTurn_list];refine av (qq (av (fM (turn n s hI) (λr bP h₁=> ?_) λ_ _ h' =>h'.elim)))
 cases r with
 |none=>exact aW h₁
 |some v=>
  refine av (fM h₁ (λ_ fG h₀=> ?_) λ_ _ h' =>h'.elim);refine av (fM h₀ (λ_ tU kj=>av (fM kj (λok yW qx=> ?_) λ_ _ h' =>h'.elim)) λ_ _ h' =>h'.elim)
  cases ok with
  |false=>exact aW ⟨Z,qx⟩
  |true=>
   exact av (av (fM qx (λx RL Xx=>av (fM Xx (λ_ abi o6=>aW (aW ⟨Z,o6⟩)) λ_ _ h' =>h'.elim)) λ_ _ h' =>h'.elim))
end
section
variable{X:Cx}{tg iter elt:aaa}{ifs:b_}{scope:Scope}{pos:Pos}{N:aj}{k:Nat}{js:List Nat}{wi:TI}{g:TG}{tt:TT}{te:TE}
theorem DM{ad:aR}{s2:X'}{σ:St}{H2:Hp}{it:Y'}{fp:bh}{tn:Nat->aam->Prop}{J:It}{Q:VK}{RR:W'->Y'->Result->X'->Prop}{E:V'}(hc:X.calm=true)(S:ny X N scope k js)
 (hb:∀(cl:List (Str×Y')) (C:Y') (s:X') (H:Hp) (fp:bh),PG (gg X N scope cl C s H fp) tg g/\Il (gg X N scope cl C s H fp) ifs tt/\PE (gg X N scope cl C s H fp) elt te)
 (I2:Inv X ad σ H2 s2) (T:Turn X.prog X.w X.K tg J fp it tn) (Q6:tn 0 s2.heap) (f2:∀b∈fp,yM X ad H2 b)
 (h:∀p,H2 p=none->∃W:Nat->Nat->ak->Hp->Prop,(∃m,W 0 m [] (upd H2 p (.lst [])))/\
  ∀i m ys H,W i m ys H->H p=some (.lst ys)/\((J.stop i H/\Q (.ref p) H)\/(J.go i H/\ys.length<sizeLine/\∀x H',J.zS i H x H'->g x (yO k js σ) H' λkn H2=>fU (yO k js σ) kn/\tt kn H2 λb H3=>
   if b=true then te kn H3 λy H4=>H4 p=some (.lst ys)/\∃m',m' <m/\W (i+1) m' (ys++[y]) (upd H4 p (.lst (ys++[y]))) else ∃m',m' <m/\W (i+1) m' ys H3)))
 (hR:∀(p C:Y') (s' :X') (H' :Hp) (m:Str->aM),Inv X ad σ H' s'->Q (.ref p) H'->s'.heap.Ns C m->H' C=none->C≠X.env.locals->X.fG.heap.objs.size<=C->(∀x c,X.env.cells.lookup x=some c->c≠C)->(∀q∈X.pn++ad,q.1≠C)->RR (.ref p) C (.ok .next) s'):
 wpAny (model X.prog X.w) X.A (newList []) (λacc yW=>wpAny (model X.prog X.w) X.A (newFunctionEnv scope X.env.globals (nN X.env scope.names []) [] X.env.qual none .none (some X.env)) (λacE RL=>
  codeAny (model X.prog X.w) X.A (.compStart (.ListComp elt [⟨tg,iter,ifs,0⟩] scope pos) 0 (.ref it) acc {acE with scope:=relabel scope X.env}) (RR acc acE.locals) RL) E yW) E s2:=by
 have hf:H2 s2.heap.objs.size=none:=I2.bM.fresh (aJ _);obtain⟨W,⟨m0,w0⟩,turn⟩:=h s2.heap.objs.size hf;have I3:Inv X ad σ (upd H2 s2.heap.objs.size (.lst [])) {s2 with heap:=s2.heap.push {cls:= .type "list",dict:=none,data:= .seq ([]:aE).toArray},toks:=s2.toks}:=I2.RM (ys:=[]) .nil (bU _);refine nX (wpAny_newFunctionEnv S.cell (by intro y hy;simp at hy) (λh₁ Jm Ib=> ?_) S.kind);dsimp only at Jm Ib ⊢;generalize hp:s2.heap.objs.size=p at*
 generalize hH3:s2.heap.push {cls:= .type "list",dict:=none,data:= .seq ([]:aE).toArray}=g3 at Jm Ib I3 ⊢;have k23:∀b o,s2.heap.get? b=some o->g3.get? b=some o:=λb o e=>hH3▸bg _ e;have k34:∀b o,g3.get? b=some o->h₁.get? b=some o:=λb o e=>Ib.extBut b o (bY (aX e)) (bg _ e)
 have npf:∀b∈fp,b≠p:=λb hb z=>by
  obtain⟨o,ho,_⟩:=T.obj _ _ Q6 b hb;have:=aX ho;rw[hp,z] at this;exact cn _ this
 have f3:∀b∈fp,yM X ad (upd H2 p (.lst [])) b:=λb hb=>⟨by rw[au (npf b hb)];exact(f2 b hb).1,(f2 b hb).2⟩
 have fo3:∀b∈fp,∃o,g3.get? b=some o:=λb hb=>by
  obtain⟨o,ho,_⟩:=T.obj _ _ Q6 b hb;exact⟨o,k23 b o ho⟩
 have J0:=PM (s:={s2 with heap:=g3,toks:=s2.toks}) (h1:=h₁) (t1:=s2.toks+([]:List (Str×W')).length) I3 S f3 fo3 Jm k34;have st4:tn 0 h₁:=T.keep _ _ _ Q6 λb hb o e=>k34 b o (k23 b o e);obtain⟨hG,hT,hE⟩:=hb (nN X.env scope.names []) g3.objs.size {s2 with heap:=g3,toks:=s2.toks} (upd H2 p (.lst [])) fp
 generalize hY:gg X N scope (nN X.env scope.names []) g3.objs.size {s2 with heap:=g3,toks:=s2.toks} (upd H2 p (.lst [])) fp=Y at*
 have yp:Y.prog=X.prog:=by rw[<-hY];rfl
 have yw:Y.w=X.w:=by rw[<-hY];rfl
 have yK:Y.K=X.K:=by rw[<-hY];rfl
 have yA:Y.A=X.A:=by rw[<-hY];rfl
 have yc:Y.calm=true:=by rw[<-hY];exact hc
 have yx:Y.xe=λ_ _=>False:=by rw[<-hY];rfl
 have ye:Y.env=compEnvC scope (nN X.env scope.names []) g3.objs.size X.env:=by rw[<-hY];rfl
 have ypn:Y.pn=[]:=by rw[<-hY];rfl
 have yex:Y.ex=fp:=by rw[<-hY];rfl
 have yfs:Y.fs=CK X.stack:=by rw[<-hY];rfl
 have UA:∀{x:Str} {c:Y'},(nN X.env scope.names []).lookup x=some c->X.env.cells.lookup x=some c:=λ{x c} e=>by
  rcases wQ scope.names [] (S.cells I2.ok) e with q|q
  .exact q
  .cases q
 have Jq:∀{H' :Hp},(∀b∈fp,H' b=none)->∀b∈fp,yM Y [] H' b:=λhn b hb=>by
  refine⟨hn b hb,?_,?_,?_,λx c e=> ?_,λq hq=> ?_⟩
  .rw[ye];obtain⟨o,ho⟩:=fo3 b hb;exact bY (aX ho)
  .rw[yfs];intro z;rcases aN.mp (I2.Bd b z) with q|q
   .exact(f2 b hb).2.1 q
   .exact(f2 b hb).2.2.1 q
  .rw[yex];exact .inl hb
  .rw[ye] at e;exact(f2 b hb).2.2.2.2.1 x c (UA e)
  .rw[ypn] at hq;cases hq
 have agf:∀{eO :St} {H' :Hp} {s' :X'},Inv Y [] eO H' s'->Q (.ref p) H'->RR (.ref p) g3.objs.size (.ok .next) s' :=λ{eO H' s'} I' q=>by
  have u:=I'.base;have ho:=I'.os;rw[yfs,yex] at u;subst hY;have IX:Inv X ad σ H' s' :=I3.U0 (ch:=fp) ho u I'.bM I'.bare λb hb=>⟨(f2 b hb).2.2.2.1,(f2 b hb).2.1,(f2 b hb).2.2.2.2.1,(f2 b hb).2.2.2.2.2⟩;obtain⟨m,hn,_⟩:=I'.loc;refine hR p g3.objs.size s' H' m IX q hn I'.free (λz=> ?_) (aL I3.sz (aJ _)) (λx c e z=> ?_) λr hr z=> ?_
  .exact absurd (z▸I3.lt) (cn _)
  .obtain⟨v,o,ho,_⟩:=I3.cell x c e;exact absurd (z▸aX ho) (cn _)
  .obtain⟨ho,_⟩:=I3.pin r hr;exact absurd (z▸aX ho) (cn _)
 have loop:codeAny (model X.prog X.w) X.A (.compLoop (.ListComp elt [⟨tg,iter,ifs,0⟩] scope pos) 0 (.ref it) (.ref p) (compEnvC scope (nN X.env scope.names []) g3.objs.size X.env)) (RR (.ref p) g3.objs.size) {s2 with heap:=h₁,toks:=s2.toks+([]:List (Str×W')).length}:=by
  refine EW (λn s' =>∃i ys H',Inv Y [] (yO k js σ) H' s'/\tn i s'.heap/\(∀b∈fp,H' b=none)/\W i n ys H') ?_ m0 ⟨0,[],_,J0,st4,λb hb=>(f3 b hb).1,w0⟩
  rintro n s5 ⟨i,ys,H5,I5,Zo,fr5,w5⟩
  obtain⟨hys,w5⟩:=turn i n ys H5 w5;rw[<-yp,<-yw,<-yA,<-ye];have T' :Turn Y.prog Y.w Y.K tg J fp it tn:=by rw[yp,yw,yK];exact T
  rcases w5 with⟨stop,q⟩|⟨go,hz,step⟩
  .refine cN (T'.done Y Z Z Z yc i [] s5 _ H5 _ I5 (Jq fr5) Zo stop) λr s6 ⟨hr,I6⟩=> ?_;subst hr;exact agf I6 q
  .refine cN (T'.item Y Z Z Z yc i [] s5 _ H5 _ I5 (Jq fr5) Zo go) λr s6 ⟨u,hr,h6⟩=> ?_;subst hr;refine cN h6 λ_ s7 ⟨x,H7,I7,r7,y7,st7,fr7⟩=> ?_;have I7' :=I7.pinned (Jq fr7) (T.obj _ _ st7)
   have fin:∀{X3:St} {H8:Hp} {s8:X'},fU (yO k js σ) X3->Inv Y ([]++A5 fp s7.heap) X3 H8 s8->Inv Y [] (yO k js σ) H8 s8/\tn (i+1) s8.heap/\∀b∈fp,H8 b=none:=λ{X3 H8 s8} sb I8=>by
    refine⟨?_,T.keep _ _ _ st7 λb hb o e=>(I8.pin (b,o) (dP _ (dP _ (nD hb e)))).1,λb hb=> ?_⟩
    .exact(I8.uu (ad:=[])).weak (by rw[I5.len,I8.len]) sb
    .obtain⟨o,e,d⟩:=T.obj _ _ st7 b hb;exact(I8.pin (b,o) (dP _ (dP _ (nD hb e)))).2.1
   have wE:∀{α:Type} {t:Sem α} {P:α->X'->Prop} {s' :X'},wpAny (model Y.prog Y.w) Y.A t P Y.xe s'->wpAny (model Y.prog Y.w) Y.A t P (λ_ _=>False) s' :=λ{α t P s'} h=>by rw[yx] at h;exact h
   refine cN (wE (hG _ s7 _ H7 x u _ I7' r7 (step x H7 y7))) λ_ s8 ⟨X3,H8,I8,sb,q8⟩=> ?_;refine cN (wE (hT _ s8 X3 H8 _ I8 q8)) λb s9 ⟨H9,I9,q9⟩=> ?_
   cases b with
   |false=>
    have q9:∃m',m' <n/\W (i+1) m' ys H9:=q9;obtain⟨m',hm,w9⟩:=q9;obtain⟨a1,a2,a3⟩:=fin sb I9;exact⟨m',hm,i+1,ys,H9,a1,a2,a3,w9⟩
   |true=>
    refine cN (wE (hE _ s9 X3 H9 _ I9 q9)) λy P5 ⟨v,Mu,I10,r10,e10,m',hm,w10⟩=> ?_;refine cN (wE (cA _ P5 X3 Mu (.ref p) [v] (.ref p) [y] (λ_ HN=>∃m',m' <n/\W (i+1) m' (ys++[v]) HN) I10 Z (.cons r10 .nil) ⟨p,ys,v,Z,Z,e10,hz,m',hm,w10⟩)) λz Q8 ⟨_,HN,I11,_,m2,hm2,w11⟩=> ?_;obtain⟨a1,a2,a3⟩:=fin sb I11;exact⟨m2,hm2,i+1,ys++[v],HN,a1,a2,a3,w11⟩
 refine codeAny_compStart_list loop ?_;exact T.self _ _ _ _ _ st4 loop
theorem R0(hc:X.calm=true)(S:ny X N scope k js)(hi:PI X tg iter wi)
 (hb:∀(cl:List (Str×Y')) (C:Y') (s:X') (H:Hp) (fp:bh),PG (gg X N scope cl C s H fp) tg g/\Il (gg X N scope cl C s H fp) ifs tt/\PE (gg X N scope cl C s H fp) elt te)
 (hs:∀x,foldedSetIterable iter X.env x=pure x:=by intro _;rfl):PE X (.ListComp elt [⟨tg,iter,ifs,0⟩] scope pos) (FW wi k js g tt te):=by
 intro ad s σ H Q I h;rw[eval_ListComp];refine wpAny_comprehension_free (use:=none) Z hs (BI (S.cells I.ok)) S.kind S.loc (cN (hi ad s σ H _ I h) λv s1 h1=>cN h1 λitv s2 h2=> ?_);obtain⟨it,fp,tn,J,H2,e,I2,T,Q6,f2,q⟩:=h2;subst e;refine DM (RR:=λacc C=>compPost (model X.prog X.w) X.A X.xe none (EP X ad σ Q) acc C) hc S hb I2 T Q6 f2 q ?_;intro p C s' H' m IX q' hn hC hL h0 P2 Z0;refine⟨m,hn,λh' sb=>⟨.ref p,H',?_,Z,q'⟩⟩;exact IX.turned (t' :=s'.toks) (λb o hb e=>(sb.2 b hb).trans e) hC (b7 hL).symm (.inr h0) P2 Z0
theorem QW{i:Nat}{x:Str}{pos' i9:Pos}(hN:X.N.Nodup)(hi' :X.N[i]? =some x)(hx:Loc X.env.scope x)(hc:X.calm=true)(S:ny X N scope k js)(hi:PI X tg iter wi)
 (hb:∀(cl:List (Str×Y')) (C:Y') (s:X') (H:Hp) (fp:bh),PG (gg X N scope cl C s H fp) tg g/\Il (gg X N scope cl C s H fp) ifs tt/\PE (gg X N scope cl C s H fp) elt te)
 (hsw:swapsWith (.ListComp elt [⟨tg,iter,ifs,0⟩] scope i9) (some (.Name x pos')) pos.line X.env=pure true:=by rfl)
 (hs:∀x,foldedSetIterable iter X.env x=pure x:=by intro _;rfl) (hf:X.fn x=true\/X.env.scope.names.lookup x=some .local:=by first|exact .inl rfl|exact .inr rfl|assumption):
 PS X (.Assign [.Name x pos'] (.ListComp elt [⟨tg,iter,ifs,0⟩] scope i9) pos) (Md (FW wi k js g tt te) (yg i)):=by
 intro ad s σ H D I h;rw[exec_Assign_Name_used _ _ _ _ hsw];refine av (qq (av ?_));show wpAny _ X.A (do let _<-comprehension (.ListComp elt [⟨tg,iter,ifs,0⟩] scope i9) scope X.env _ (newList []) false (eval iter X.env) (some (assign (.Name x pos') X.env))) _ _ s
 refine av (fM (wpAny_comprehension_free (use:=some (assign (.Name x pos') X.env)) (Q:=λ_ s' =>SP X ad D .next s') Z hs (BI (S.cells I.ok)) S.kind S.loc (cN (hi ad s σ H _ I h) λv s1 h1=>cN h1 λitv s2 h2=> ?_))
  (λ_ s' hq=>aW (aW hq)) λ_ _ e=>e)
 obtain⟨it,fp,tn,J,H2,e,I2,T,Q6,f2,q⟩:=h2;subst e;refine DM (Q:=λv H' =>D.nx (σ.set i (some v)) H') (RR:=λacc C=>compPost (model X.prog X.w) X.A X.xe (some (assign (.Name x pos') X.env)) (λ_ s' =>SP X ad D .next s') acc C) hc S hb I2 T Q6 f2 q ?_;intro p C s' H' m IX q' hn hC hL h0 P2 Z0;show wpAny _ X.A (assign (.Name x pos') X.env (.ref p)) _ _ s';refine wpAny_assign_Name (CW (v:= .ref p) IX hN hi' hx Z (λOU I'' ⟨a,sb,ha⟩=> ?_) hf)
 have hCa:C≠a:=by
  rcases ha with z|z
  .rw[z];exact hL
  .exact λe=>P2 x a z e.symm
 refine⟨m,hn.sameBut sb hCa,λh' sb' =>⟨σ.set i (some (.ref p)),H',?_,q'⟩⟩;exact I''.turned (t' :=OU.toks) (λb o hb e=>(sb'.2 b hb).trans e) hC hL (.inr h0) P2 Z0
end
noncomputable def cOk(osc:Scope)(ON N:aj)(scope:Scope)(k:Nat)(js:List Nat):Bool:=
 (scope.kind== .function)&&scope.names.all (λy=> !(y.2== .cell))&&scope.names.all (λy=> !(y.2== .local)||scope.names.lookup y.1==some .local)&&
 scope.names.all (λy=> !(y.2== .free)||(osc.names.lookup y.1==some .cell||osc.names.lookup y.1==some .free))&&(N.length==k+js.length)&&
 (List.range js.length).all (λi=>ON[js.getD i 0]? ==N[k+i]?)&&(N.drop k).all λx=>scope.names.lookup x==some .free
theorem Di{X:Cx}{N:aj}{scope:Scope}{k:Nat}{js:List Nat}(h:cOk X.env.scope X.N N scope k js=true):ny X N scope k js:=by
 unfold cOk at h;simp only[cL] at h;obtain⟨⟨⟨⟨⟨⟨h1,h2⟩,h3⟩,h4⟩,h5⟩,h6⟩,h7⟩:=h;have h5:=eq_of_beq h5;rw[bS] at h2 h3 h4 h6 h7;refine⟨eq_of_beq h1,λy hy e=> ?_,λy hy e=> ?_,λy hy e=> ?_,h5,λi j e=> ?_,λi x e=> ?_⟩
 .have q:=h2 y hy;rw[e] at q;exact absurd q (by decide)
 .have q:=h3 y hy;rw[e] at q;exact eq_of_beq (by simpa using q)
 .have q:=h4 y hy;rw[e] at q;have q:(X.env.scope.names.lookup y.1==some .cell||X.env.scope.names.lookup y.1==some .free)=true:=by simpa using q
  rw[Bool.or_eq_true] at q;rcases q with q|q
  .exact .inl (eq_of_beq q)
  .exact .inr (eq_of_beq q)
 .have hi:i<js.length:=(dE.mp e).1;have q:=eq_of_beq (h6 i (mC.mpr hi));rw[eQ,e] at q;exact q
 .refine eq_of_beq (h7 x ?_);rw[vw];exact⟨i,by rw[List.getElem?_drop];exact e⟩
theorem hZ:ij X (.builtin "isinstance") (λxs H Q=>∃x T t b,xs=[x,.ty T]/\wL X.K H x t/\kitOne X.K t (.type T)=some b/\Q (.bl b) H):=by
 intro ad s σ H xs us Q I r h;obtain⟨x,T,t,b,rfl,ty,e,q⟩:=h;obtain⟨u,c,rfl,ru,rc⟩:=jab r;cases rc;exact L8 I ru ty e λtk=>⟨.bl b,H,I.tok tk,Z,q⟩
def afI:V->Option Int->Option Int->Hp->VK->Prop:=λx lo hi H Q=>∃z,x= .str z/\z.length<=sizeLine/\Q (.str (Txt.slice z lo hi)) H
theorem Bk:Z1 X afI:=by
 intro ad s σ H x v vl vu lo hi sl Q I rx hs pl pu h;obtain⟨z,rfl,hz,q⟩:=h;obtain⟨t,rfl⟩:=rx;refine⟨"str",_,F.slot_str_getitem.lookup,qV _ _ _,?_⟩
 have fin:∀{l u:Option (Int×Tok)},l.map (·.1)=lo->u.map (·.1)=hi->s.heap.IsSlice sl l u none->wpAny (model X.prog X.w) X.A (getItem (.str z t) (.ref sl)) (EP X ad σ Q) X.xe s:=λ{l u} el eu Za=>by
  refine wpAny_getItem_str_slice (st:=none) Za Z ?_;have e:sliceMade z t l u none=sliceMade z t l u none:=rfl;subst el eu;exact post_val_or_str ⟨aL (Txt.slice_le z _ _) hz,λt' k=>⟨.str (Txt.slice z _ _),H,I.tok k,⟨t',Z⟩,q⟩⟩
 obtain⟨o,ho,hc,hd⟩:=hs
 cases pl with
 |none=>
  cases pu with
  |none=>exact fin (l:=none) (u:=none) Z Z ⟨o,ho,hc,hd⟩
  |int j uj=>exact fin (l:=none) (u:=some (j,uj)) Z Z ⟨o,ho,hc,hd⟩
 |int i ui=>
  cases pu with
  |none=>exact fin (l:=some (i,ui)) (u:=none) Z Z ⟨o,ho,hc,hd⟩
  |int j uj=>exact fin (l:=some (i,ui)) (u:=some (j,uj)) Z Z ⟨o,ho,hc,hd⟩
noncomputable def ZM(x:Str):It:=⟨λi _=>i<x.length,λi H v H' =>H' =H/\∃c,x.cps[i]? =some c/\v= .str ⟨#[c]⟩,λi _=>x.length<=i⟩
theorem GF{P:aan}{w:aai}{K:Frag}{tg:aaa}{x:Str}{I:Y'}{St:Nat->aam->Prop}(W:∀A:aal,A.handled=none->Walks P w A I [I] [I] x.cps.size (SignAt x) St)
 (hob:∀i h,St i h->∃o,h.get? I=some o/\∀v,o.data≠.cell v) (ht:∀v,letOwnedTupleGo tg (.ref I) v=pure ())
 (aaw:∀(A:aal) (i:Nat) (s:X') (Q:V') (E:V'),St i s.heap->Q (.ref I) s->wpAny (model P w) A (pyIter (.ref I)) Q E s):Turn P w K tg (ZM x) [I] I (λi h=>i<=x.length/\St i h) where
 mem:=by simp
 obj:=λi h st b hb=>by
  have e:b=I:=by simpa using hb
  subst e;exact hob i h st.2
 keep:=λi h h' st k=>⟨st.1,(W {handled:=none} rfl).frame i h h' st.2 k⟩
 item:=by
  intro X hP hw hK hc i ad s σ H E J hf st hg;subst hP hw hK;obtain⟨f0,f1,f2,f3,f4,f5⟩:=hf I (by simp);refine(W X.A (J.ok.hd hc)).item i s _ _ hg st.2 λv h' tk hv P_ k=> ?_;have J1:Inv X ad σ H {s with heap:=h',toks:=tk}:=J.turned (λb o hb e=>k b o (by simpa using hb) e) f0 f1 f3 f4 f5;obtain⟨c,u,hc',rfl⟩:=hv;exact⟨_,Z,wpAny_of_eq (ht _) ⟨.str ⟨#[c]⟩,H,J1,⟨u,Z⟩,⟨Z,c,hc',Z⟩,⟨hg,P_⟩,λb hb=>(hf b hb).1⟩⟩
 done:=by
  intro X hP hw hK hc i ad s σ H E J hf st hg;subst hP hw hK;obtain⟨f0,f1,f2,f3,f4,f5⟩:=hf I (by simp);have e:i=x.cps.size:=Nat.le_antisymm st.1 hg;subst e;exact(W X.A (J.ok.hd hc)).done s _ _ st.2 λh' tk k=>⟨Z,J.turned (λb o hb e=>k b o (by simpa using hb) e) f0 f1 f3 f4 f5⟩
 self:=λA _ s Q E st h=>aaw A _ s Q E st.2 h
section
variable{X:Cx}{tg:aaa}
def abT(tl:TE):TI:=λσ H R=>tl σ H λx H1=>∃z,x= .str z/\R (ZM z) H1
theorem M3{l:aaa}{tl:TE}(hl:PE X l tl)(hc:X.calm=true)(ht:∀it v,letOwnedTupleGo tg it v=pure ():=by intro _ _;rfl):PI X tg l (abT tl):=by
 intro ad s σ H R I h;refine cN (hl ad s σ H _ I h) λv s1 ⟨x,H1,I1,r,z,e,q⟩=> ?_;subst e;obtain⟨t,rfl⟩:=r;cases ha:z.cps.all (· <128)
 .refine wpAny_pyIter_wide ha ?_
  exact⟨_,[_],_,ZM z,H1,Z,I1.kept (t' :=s1.toks) λb u e=>bg _ e,GF (λA' hA=>Walks.strWide hA _ z t) (λi h st=>by
   obtain⟨o,ho,_,hd⟩:=st;exact⟨o,ho,λv z=>by rw[hd] at z;cases z⟩) (ht _) (λA _ s Q E st h=>wpAny_pyIter_striter_wide st h),⟨bU _,_,cK _ Z,Z,Z⟩,λb hb=>by
   have e:b=s1.heap.objs.size:=by simpa using hb
   subst e;exact I1.Ci (aJ _) (I1.bM.fresh (aJ _)),q⟩
 .refine wpAny_pyIter_ascii ha ?_
  exact⟨_,[_],_,ZM z,H1,Z,I1.kept (t' :=s1.toks) λb u e=>bg _ e,GF (λA' hA=>Walks.strAscii hA _ z t) (λi h st=>by
   obtain⟨o,ho,_,hd⟩:=st;exact⟨o,ho,λv z=>by rw[hd] at z;cases z⟩) (ht _) (λA _ s Q E st h=>wpAny_pyIter_striter_ascii st h),⟨bU _,_,cK _ Z,Z,Z⟩,λb hb=>by
   have e:b=s1.heap.objs.size:=by simpa using hb
   subst e;exact I1.Ci (aJ _) (I1.bM.fresh (aJ _)),q⟩
end
theorem Hy:∀{bs:List Bool} {us:aE},Vals (bs.map V.bl) us->us=bs.map Value.bool
 |[],_,.nil=>rfl
 |b::bs,_,.cons r t=>by
  cases r;rw[Hy (bs:=bs) t];rfl
theorem jaj{bs:List Bool}{f:Nat->Bool}(h:∀i b,bs[i]? =some b->f i=b):(List.range bs.length).all f=bs.all id:=by
 rw[km,bS,bS];constructor
 .intro q b hb;obtain⟨i,hi⟩:=vw.mp hb;have hl:i<bs.length:=(dE.mp hi).1;rw[<-h i b hi];exact q i (mC.mpr hl)
 .intro q i hi;have hl:=mC.mp hi;rw[h i bs[i] (by simp[hl])];exact q _ (EI hl)
theorem BO(hc:X.calm=true):ij X (.builtin "all") (λxs H Q=>∃(a:Y') (bs:List Bool),xs=[.ref a]/\H a=some (.lst (bs.map V.bl))/\Q (.bl (bs.all id)) H):=by
 intro ad s σ H xs us Q I r h;obtain⟨a,bs,rfl,ha,q⟩:=h;obtain⟨u,rfl,ru⟩:=wT r;cases ru;obtain⟨its,r,pl,hz⟩:=I.list (bq.of ha);have e:=Hy r;have jB:=I.bM.lt ha;have I1:Inv X ad σ H {s with heap:=s.heap.push {cls:= .type "list_iterator",data:= .fields #[.ref a,.int 0 0]}}:=I.kept (t' :=s.toks) λb u e=>bg _ e;refine call_all_walk (uG pl.isList ⟨_,_,_,_,_,_,λi=>bs.getD i true,Z,Walks.list (A:=X.A.in1) (I.ok.hd hc) _ a (bY jB) its.toArray,⟨⟨_,cK _ Z,Z,Z⟩,pl.isList.push _⟩,?_,λh' tk k=> ?_⟩)
 .intro i v s' Q' E' hv hQ;rw[e] at hv;have hv:(bs.map Value.bool)[i]? =some v:=by simpa using hv
  rw[bG] at hv
  cases eb:bs[i]? with
  |none=>rw[eb] at hv;cases hv
  |some b=>
   rw[eb] at hv;cases hv;refine kI ?_;have e2:bs.getD i true=b:=by rw[eQ,eb];rfl
   rw[<-e2];exact hQ
 .refine⟨.bl (bs.all id),H,I1.turned (λb o hb e=>k b o (by simpa using hb) e) (I.bM.fresh (aJ _)) (λz=> ?_) (.inr I.sz) (λx c e z=> ?_) (λp hp z=> ?_),?_,q⟩
  .exact absurd (z▸I.lt) (cn _)
  .obtain⟨v,o,ho,_⟩:=I.cell x c e;exact absurd (z▸aX ho) (cn _)
  .obtain⟨ho,_⟩:=I.pin p hp;exact absurd (z▸aX ho) (cn _)
  .show Value.bool _=Value.bool _;have e3:its.toArray.size=bs.length:=by rw[e];simp
   rw[e3,jaj λi b hb=>by rw[eQ,hb];rfl]
noncomputable def Iw:ak->ak->Bool
 |[],[]=>true
 |x::xs,y::ys=>DH x y&&Iw xs ys
 |_,_=>false
theorem Br:∀(xs ys:ak),xs.length=ys.length->(List.range xs.length).all (λj=>DH (xs.getD j .bV) (ys.getD j .bV))=Iw xs ys
 |[],[],_=>rfl
 |x::xs,y::ys,h=>by
  rw[aZ,List.range_succ_eq_map,zF,zz];have h' :xs.length=ys.length:=by simpa using h
  rw[<-(show(DH x y&&Iw xs ys)=Iw (x::xs) (y::ys) from Z),<-Br xs ys h'];rfl
 |[],_::_,h=>by simp at h
 |_::_,[],h=>by simp at h
def ZQ(neg:Bool):R2:=λx y H Q=>∃a b xs ys,x= .ref a/\y= .ref b/\H a=some (.lst xs)/\H b=some (.lst ys)/\
 ((xs.length≠ys.length/\Q (.bl neg) H)\/(xs.length=ys.length/\xs.all jK=true/\ys.all jK=true/\Q (.bl (if neg then !Iw xs ys else Iw xs ys)) H))
theorem F8{xs:ak}{us:aE}{j:Nat}(r:Vals xs us)(f:xs.all jK=true)(hj:j<us.length):∃x,xs[j]? =some x/\RelV x us[j]/\jK x=true:=by
 have hl:=r.length;have hx:xs[j]? =some xs[j]:=by simp[hl,hj]
 obtain⟨u,hu,ru⟩:=r.get hx;have e:us[j]? =some us[j]:=by simp[hj]
 rw[e] at hu;cases hu;exact⟨_,hx,ru,bS.mp f _ (EI _)⟩
theorem BL(hu:X.A.units<cLine):nq X (compareOp .Eq) (ZQ false):=by
 intro ad s σ H x y v u Q I rx ry h;obtain⟨a,b,xs,ys,rfl,rfl,ha,hb,h⟩:=h;cases rx;cases ry;obtain⟨its,r,pl,hz⟩:=I.list (bq.of ha);obtain⟨mS,r2,UE,JJ⟩:=I.list (bq.of hb);have hl:=r.length;have lK:=r2.length;rcases h with⟨o8,q⟩|⟨he,f1,f2,q⟩
 .exact SeqAt.eq_list_lengthsAt pl.isList UE.isList (by simp;lia) hu ⟨.bl false,H,I,Z,q⟩
 .refine SeqAt.eq_listAt (e:=λj=>DH (xs.getD j .bV) (ys.getD j .bV)) pl.isList UE.isList (by simp;lia) hu (λj h1 h2=> ?_) ⟨.bl (Iw xs ys),H,I,?_,q⟩
  .have h1:j<its.length:=by simpa using h1
   have h2:j<mS.length:=by simpa using h2
   obtain⟨x,e1,rx,fx⟩:=F8 r f1 h1;obtain⟨y,e2,ry,fy⟩:=F8 r2 f2 h2;have g1:xs.getD j .bV=x:=by rw[eQ,e1];rfl
   have g2:ys.getD j .bV=y:=by rw[eQ,e2];rfl
   show SeqAt.EqAt _ _ its.toArray[j] mS.toArray[j] (DH (xs.getD j .bV) (ys.getD j .bV));rw[g1,g2];exact NQ rx ry fx fy
  .show Value.bool _=Value.bool _;rw[<-Br xs ys he,bC,hl]
theorem ai.upd{H:Hp}{p:Y'}{o:HO}(h:H p=none):ai H (upd H p o):=λb u e=>by
 rw[au (aw e h)];exact e
theorem ai.Ye{K:Frag}{H H' :Hp}{a:Y'}{xs:ak}(e:ai H H')(h:bu K H a xs):bu K H' a xs:=by
 rcases h with(h|⟨o,h⟩)|h
 .exact .inl (.inl (e _ _ h))
 .exact .inl (.inr ⟨o,e _ _ h⟩)
 .exact .inr h
structure BB(J:It)(H:Hp)(xs:ak):Prop where
 go:∀i H',ai H H'->i<xs.length->J.go i H'
 zS:∀i H' x gE,ai H H'->J.zS i H' x gE->gE =H'/\(i<xs.length->xs[i]? =some x)
 stop:∀i H',ai H H'->xs.length<=i->J.stop i H'
theorem D_(z:Str)(H:Hp):BB (ZM z) H (z.cps.toList.map λc=>V.str ⟨#[c]⟩) where
 go:=λi H' _ h=>by
  show i<z.cps.size;simpa using h
 zS:=λi H' x gE _ h=>by
  obtain⟨e,c,hc,rfl⟩:=h;refine⟨e,λ_=> ?_⟩;rw[bG,Array.getElem?_toList,hc];rfl
 stop:=λi H' _ h=>by
  show z.cps.size<=i;simpa using h
theorem gZ{K:Frag}{a:Y'}{xs:ak}{H:Hp}(h:bq K H a xs):BB (YC K a) H xs where
 go:=λi H' s hi=>⟨xs,xs[i],s.seq h,by simp[hi]⟩
 zS:=λi H' x gE s q=>⟨q.1,λ_=>q.2 xs (s.seq h)⟩
 stop:=λi H' s hi=>⟨xs,s.seq h,hi⟩
theorem j4{K:Frag}{a:Y'}{xs:ak}{H:Hp}(h:bu K H a xs):BB (Wk K a) H xs where
 go:=λi H' s hi=>⟨xs,xs[i],s.Ye h,by simp[hi]⟩
 zS:=λi H' x gE s q=>⟨q.1,λ_=>q.2 xs (s.Ye h)⟩
 stop:=λi H' s hi=>⟨xs,s.Ye h,hi⟩
theorem m7{J:It}{xs:ak}{k:Nat}{js:List Nat}{g:TG}{tt:TT}{te:TE}{σ:St}{H:Hp}{Q:VK}(pb:V->Bool)(fe:V->V)(F:BB J H xs)(hlen:xs.length<=sizeLine)
 (gI:∀(i:Nat) (x:V) (H' :Hp) (C1:V->Hp->Prop) (C0:Hp->Prop),xs[i]? =some x->ai H H'->(pb x=true->C1 (fe x) H')->(pb x=false->C0 H')->
  g x (yO k js σ) H' λkn H2=>fU (yO k js σ) kn/\tt kn H2 λb H3=>if b=true then te kn H3 C1 else C0 H3)
 (hq:∀p,H p=none->Q (.ref p) (upd H p (.lst ((xs.filter pb).map fe)))):
 nh J k js g tt te σ H Q:=by
 intro p hp;refine⟨λi m ys H' =>m=xs.length - i/\i<=xs.length/\ys=((xs.take i).filter pb).map fe/\H' =upd H p (.lst ys),⟨xs.length,Z,bU _,Z,Z⟩,?_⟩
 rintro i m ys H' ⟨rfl,hi,rfl,rfl⟩
 refine⟨aa,?_⟩;have hs:ai H (upd H p (.lst (((xs.take i).filter pb).map fe))):=ai.upd hp;by_cases jB:i<xs.length
 .refine .inr ⟨F.go i _ hs jB,?_,λx gE hy=> ?_⟩
  .rw[aG];have h1:((xs.take i).filter pb).length<=(xs.take i).length:=y0 _ _;rw[oE] at h1
   lia
  .obtain⟨rfl,hx⟩:=F.zS i _ x gE hs hy;have hx:=hx jB;have et:(xs.take (i+1)).filter pb=(xs.take i).filter pb++(if pb x=true then[x] else[]):=PySem.take_succ_filter pb xs i x hx;refine gI i x _ _ _ hx hs (λhb=>⟨aa,xs.length - (i+1),by lia,Z,jB,?_,?_⟩) (λhb=>⟨xs.length - (i+1),by lia,Z,jB,?_,Z⟩)
   .rw[et,ay hb,cu];rfl
   .rw[Qo]
   .rw[et,hb];simp
 .have e:i=xs.length:=by lia
  subst e;refine .inl ⟨F.stop _ _ hs (aJ _),?_⟩;rw[lh];exact hq p hp
noncomputable def Ite(K:Frag)(a:Y'):It:=
 ⟨λi H=>∃xs x,bq K H a xs/\xs[i]? =some x,λi H v H' =>∃T x,v= .ref T/\H T=none/\H' =upd H T (.tup [.int i,x])/\∀xs,bq K H a xs->xs[i]? =some x,λi H=>∃xs,bq K H a xs/\xs.length<=i⟩
theorem Li{P:aan}{w:aai}{K:Frag}{elts:b_}{kt:Nat}{pt:Pos}(a e it:Y')(hei:e≠it):Turn P w K (.Tuple elts kt pt) (Ite K a) [e,it] e (λi h=>(∃old,IsEnum h e it i old)/\h.IsListIter it a i) where
 mem:=by simp
 obj:=λi h st b hb=>by
  obtain⟨⟨old,he⟩,o,ho,c,d⟩:=st;have hb:b=e\/b=it:=by simpa using hb
  rcases hb with rfl|rfl
  .exact⟨_,he,λv z=>by cases z⟩
  .exact⟨o,ho,λv z=>by rw[d] at z;cases z⟩
 keep:=λi h h' st k=>by
  obtain⟨⟨old,he⟩,hit⟩:=st;exact⟨⟨old,k e (by simp) _ he⟩,hit.at λo x=>k it (by simp) o x⟩
 item:=by
  intro X hP hw hK hc i ad s σ H E I hf st hg;subst hP hw hK;obtain⟨xs,x,hq,hx⟩:=hg;obtain⟨its,rv,p,hz⟩:=I.list hq;obtain⟨u,hu,ru⟩:=rv.get hx;obtain⟨⟨old,he⟩,hit⟩:=st;obtain⟨f0,f1,f2,f3,f4,f5⟩:=hf e (by simp);obtain⟨g0,g1,g2,g3,g4,g5⟩:=hf it (by simp);have ad_:e<s.heap.objs.size:=aX he;have agn:it<s.heap.objs.size:=by obtain⟨_,x,_⟩:=hit;exact aX x
  refine wpAny_pyNext_enum_item he hit p.isList (x:=u) (by simpa using hu) hei λh' ho aeJ hT pd hk=> ?_;refine⟨.ref s.heap.objs.size,Z,?_⟩;refine wpAny_letOwnedTupleGo_enum ho λVu af8 CC => ?_;have JS:H s.heap.objs.size=none:=I.bM.fresh (aJ _);have P7:s.heap.objs.size≠e:=gX ad_;have kk:∀b o,b≠e->b≠it->s.heap.get? b=some o->Vu.get? b=some o:=λb o BW hbi q=>(CC.2 b BW).trans (hk b o BW hbi q);have XQ :Vu.get? s.heap.objs.size=some {cls:= .type "tuple",data:= .seq #[.int i s.toks,u]}:=(CC.2 _ P7).trans hT;have o8:∀b u,H b=some u->b≠e/\b≠it:=λb u q=>⟨(λz=>by rw[z,f0] at q;cases q),(λz=>by rw[z,g0] at q;cases q)⟩
  have I2:Inv X ad σ (upd H s.heap.objs.size (.tup [.int i,x])) {s with heap:=Vu,toks:=s.toks+1}:=by
   have new:cg X.prog X.w (upd H s.heap.objs.size (.tup [.int i,x])) Vu s.heap.objs.size (.tup [.int i,x]):=⟨(show 2<=sizeLine by decide),[.int i s.toks,u],.cons ⟨_,Z⟩ (.cons ru .nil),⟨_,XQ,Z,_,Z⟩⟩
   refine I.step (g' :=s.gens) (d' :=s.drawn) (ch:=[e,it]) (λb hb=> ?_) (λb o _ _ hc q _=>kk b o (λz=>hc (by simp[z])) (λz=>hc (by simp[z])) q) (λb o _ _ hc q _=>⟨o.slots,kk b o (λz=>hc (by simp[z])) (λz=>hc (by simp[z])) q⟩)
    (λb o _ q n=> ?_) (λb o hc q=>⟨o,kk b o (λz=>hc (by simp[z])) (λz=>hc (by simp[z])) q⟩) (λb ys q=> ?_) (λb o ys q=> ?_) (λb ps q=>⟨#[],?_⟩) (λm hm=> ?_) (λb u q=> ?_) I.bare
   .have hb:b=e\/b=it:=by simpa using hb
    rcases hb with rfl|rfl
    .exact⟨f3,f1,f4,f5⟩
    .exact⟨g3,g1,g4,g5⟩
   .rw[au (bY (aX q))];exact n
   .rw[au (aw q JS)];exact q
   .rw[au (aw q JS)];exact q
   .rw[au (aw q JS),q];simp
   .obtain⟨o,es,ep,q,r⟩:=hm;exact⟨o,es,ep,kk _ o (b7 f1) (b7 g1) q,r⟩
   .by_cases hb:b=s.heap.objs.size
    .subst hb;rw[aa] at q;cases q;exact new
    .rw[au hb] at q;refine(I.bM b u q).uD (λc v hc q' =>kk c v ?_ ?_ q') (λc q' => ?_) λc ys q' => ?_
     .rcases hc with z|z
      .rw[z];exact(o8 b u q).1
      .exact(o8 c _ z).1
     .rcases hc with z|z
      .rw[z];exact(o8 b u q).2
      .exact(o8 c _ z).2
     .rw[au (aw q' JS)];exact q'
     .rw[au (aw q' JS)];exact q'
  refine⟨.ref s.heap.objs.size,_,I2,Z,⟨_,x,Z,JS,Z,λys hy=>by rw[I.uC hy hq];exact hx⟩,⟨⟨_,by simpa using af8⟩,aeJ.at λo q=>(CC.2 it hei.symm).trans q⟩,λb hb=> ?_⟩;have hb:b=e\/b=it:=by simpa using hb
  rcases hb with rfl|rfl
  .rw[au (b7 P7)];exact f0
  .rw[au (bY agn)];exact g0
 done:=by
  intro X hP hw hK hc i ad s σ H E I hf st hg;subst hP hw hK;obtain⟨xs,hq,hx⟩:=hg;obtain⟨its,rv,p,hz⟩:=I.list hq;obtain⟨⟨old,he⟩,hit⟩:=st;obtain⟨g0,g1,g2,g3,g4,g5⟩:=hf it (by simp);have hl:=rv.length;exact wpAny_pyNext_enum_end (I.ok.hd hc) he hit p.isList (by simp;omega) λh' eb=>⟨Z,I.turned (t' :=s.toks) (λb o hb e=>eb b o hb e) g0 g1 g3 g4 g5⟩
 self:=λ_ _ _ _ _ st h=>by
  obtain⟨⟨old,he⟩,_⟩:=st;exact wpAny_pyIter_enum he h
section
variable{X:Cx}{tg:aaa}
def Z3(K:Frag)(ta:TA):TI:=λσ H R=>ta σ H λvs H1=>∃a xs,vs=[.ref a]/\H1 a=some (.lst xs)/\R (Ite K a) H1
theorem ug{a:aaa}{ta:TA}{p pos:Pos}{elts:b_}{kt:Nat}{pt:Pos}(hg:Gl X "enumerate")(hm:X.mg "enumerate"=none)(ha:PA X [a] ta)(hs:starEach [a] X.env=[(false,eval a X.env)]:=by rfl):
 PI X (.Tuple elts kt pt) (.Call (.Name "enumerate" p) [a] [] pos) (Z3 X.K ta):=by
 intro ad s σ H R I h;refine Call_ (nB I hg hm Boot.«enumerate» (wF (cN (ha pos ad s σ H _ I h) λus s1 ⟨vs,H1,I1,r1,q1⟩=> ?_) hs Z));obtain⟨l,xs,e,hq,q⟩:=q1;subst e;obtain⟨u,rfl,ru⟩:=wT r1;cases ru;obtain⟨its,n,rv,ho,hz⟩:=I1.lst hq;refine call_enumerate_1 ho λh' he hit pd hk=> ?_;have I2:Inv X ad σ H1 {s1 with heap:=h'}:=I1.kept (t' :=s1.toks) hk;refine wpAny_pyIter_enum (s:={s1 with heap:=h'}) he ?_;refine⟨s1.heap.objs.size+1,[s1.heap.objs.size+1,s1.heap.objs.size],_,_,H1,Z,I2,Li l _ _ (Nat.succ_ne_self _),⟨⟨_,he⟩,hit⟩,λb hb=> ?_,q⟩;have hb:b=s1.heap.objs.size+1\/b=s1.heap.objs.size:=by simpa using hb
 rcases hb with rfl|rfl
 .exact I1.Ci (nT _) (I1.bM.fresh (nT _))
 .exact I1.Ci (aJ _) (I1.bM.fresh (aJ _))
end
structure AV(J:It)(H:Hp)(n:Nat)(Y:Nat->V->Hp->Prop):Prop where
 go:∀i H',ai H H'->i<n->J.go i H'
 zS:∀i H' x gE,ai H H'->i<n->J.zS i H' x gE->ai H' gE/\Y i x gE
 stop:∀i H',ai H H'->n<=i->J.stop i H'
theorem BB.g{J:It}{H:Hp}{xs:ak}(F:BB J H xs):AV J H xs.length (λi x _=>xs[i]? =some x) where
 go:=F.go
 zS:=λi H' x gE s hi h=>by
  obtain⟨e,q⟩:=F.zS i H' x gE s h;exact⟨e▸ai.refl H',q hi⟩
 stop:=F.stop
theorem ib{J:It}{n k:Nat}{js:List Nat}{Y:Nat->V->Hp->Prop}{g:TG}{tt:TT}{te:TE}{σ:St}{H:Hp}{Q:VK}(pb:Nat->Bool)(fe:Nat->V)(F:AV J H n Y)(hlen:n<=sizeLine)
 (gI:∀(i:Nat) (x:V) (H' :Hp) (C1:V->Hp->Prop) (C0:Hp->Prop),i<n->ai H H'->Y i x H'->(pb i=true->∀gE,ai H' gE->C1 (fe i) gE)->(pb i=false->∀gE,ai H' gE->C0 gE)->
  g x (yO k js σ) H' λkn H2=>fU (yO k js σ) kn/\tt kn H2 λb H3=>if b=true then te kn H3 C1 else C0 H3)
 (hq:∀p H',H p=none->ai H H'->H' p=some (.lst (((List.range n).filter pb).map fe))->Q (.ref p) H'):
 nh J k js g tt te σ H Q:=by
 intro p hp;refine⟨λi m ys H' =>m=n - i/\i<=n/\ys=((List.range i).filter pb).map fe/\H' p=some (.lst ys)/\ai H H',⟨n,Z,bU _,Z,aa,ai.upd hp⟩,?_⟩
 rintro i m ys H' ⟨rfl,hi,rfl,hl,hs⟩
 refine⟨hl,?_⟩;by_cases jB:i<n
 .refine .inr ⟨F.go i _ hs jB,?_,λx gE hy=> ?_⟩
  .rw[aG];have h1:((List.range i).filter pb).length<=(List.range i).length:=y0 _ _;rw[qM] at h1;omega
  .obtain⟨s1,y1⟩:=F.zS i _ x gE hs jB hy
   have et:(List.range (i+1)).filter pb=(List.range i).filter pb++(if pb i=true then[i] else[]):=by
    rw[List.range_succ,nC];cases hb:pb i<;>simp[hb]
   refine gI i x gE _ _ jB (hs.trans s1) y1 (λhb H3 s3=>⟨s3 _ _ (s1 _ _ hl),n - (i+1),by omega,Z,jB,?_,aa,?_⟩) (λhb H3 s3=>⟨n - (i+1),by omega,Z,jB,?_,s3 _ _ (s1 _ _ hl),(hs.trans s1).trans s3⟩)
   .rw[et,ay hb,cu];rfl
   .intro c o e;rw[au (aw e hp)];exact s3 _ _ (s1 _ _ (hs _ _ e))
   .rw[et,hb];simp
 .have e:i=n:=by omega
  subst e;exact .inl ⟨F.stop _ _ hs (aJ _),hq p H' hp hs hl⟩
mutual
inductive Dat (H:Hp):V->Z'->Prop
 |bV:Dat H .bV .none
 |bl (b:Bool):Dat H (.bl b) (.bool b)
 |int (i:Int):Dat H (.int i) (.int i)
 |str (x:Str):Dat H (.str x) (.str x)
 |lst {a:Y'} {xs:ak} {ds:List Z'} (e:H a=some (.lst xs)) (h:DatAll H xs ds):Dat H (.ref a) (.list ds)
 |tup {a:Y'} {xs:ak} {ds:List Z'} (e:H a=some (.tup xs)) (h:DatAll H xs ds):Dat H (.ref a) (.tuple ds)
inductive DatAll (H:Hp):ak->List Z'->Prop
 |nil:DatAll H [] []
 |cons {x:V} {xs:ak} {d:Z'} {ds:List Z'} (h:Dat H x d) (t:DatAll H xs ds):DatAll H (x::xs) (d::ds)
end
mutual
theorem Dat.reads{P:aan}{w:aai}{H:Hp}{h:aam}(ok:o5 P w H h):∀{v:V} {d:Z'} {u:W'},Dat H v d->RelV v u->(∃as,Reads h u d as)/\d.hasDict=false
 |_,_,_,.bV,r=>by cases r;exact⟨⟨_,.none⟩,by simp only[PyData.hasDict]⟩
 |_,_,_,.bl b,r=>by cases r;exact⟨⟨_,.bool b⟩,by simp only[PyData.hasDict]⟩
 |_,_,_,.int i,r=>by obtain⟨t,rfl⟩:=r;exact⟨⟨_,.int i t⟩,by simp only[PyData.hasDict]⟩
 |_,_,_,.str x,r=>by obtain⟨t,rfl⟩:=r;exact⟨⟨_,.str x t⟩,by simp only[PyData.hasDict]⟩
 |_,_,_,.lst e hd,r=>by
  cases r;obtain⟨z,its,n,rv,ho⟩:=(show cg P w H h _ (.lst _) from ok _ _ e);obtain⟨⟨as,q⟩,hh⟩:=DatAll.reads ok hd rv;exact⟨⟨_,.list ho Z Z (by simpa using q)⟩,by simp only[PyData.hasDict];exact hh⟩
 |_,_,_,.tup e hd,r=>by
  cases r;obtain⟨z,its,rv,o,ho,hc,n,hdt⟩:=(show cg P w H h _ (.tup _) from ok _ _ e);obtain⟨⟨as,q⟩,hh⟩:=DatAll.reads ok hd rv;exact⟨⟨_,.tuple ho hc hdt (by simpa using q)⟩,by simp only[PyData.hasDict];exact hh⟩
theorem DatAll.reads{P:aan}{w:aai}{H:Hp}{h:aam}(ok:o5 P w H h):∀{xs:ak} {ds:List Z'} {us:aE},DatAll H xs ds->Vals xs us->(∃as,ReadsAll h us ds as)/\PyData.hasDictAll ds=false
 |_,_,_,.nil,.nil=>⟨⟨_,.nil⟩,by simp only[PyData.hasDictAll]⟩
 |_,_,_,.cons hd t,.cons r rr=>by
  obtain⟨⟨as,q⟩,h1⟩:=Dat.reads ok hd r;obtain⟨⟨bs,q'⟩,h2⟩:=DatAll.reads ok t rr;exact⟨⟨_,.cons q q'⟩,by simp only[PyData.hasDictAll,h1,h2,Bool.or_self]⟩
end
mutual
theorem Dat.same{H H' :Hp}(s:ai H H'):∀{v:V} {d:Z'},Dat H v d->Dat H' v d
 |_,_,.bV=> .bV
 |_,_,.bl b=> .bl b
 |_,_,.int i=> .int i
 |_,_,.str x=> .str x
 |_,_,.lst e h=> .lst (s _ _ e) (DatAll.same s h)
 |_,_,.tup e h=> .tup (s _ _ e) (DatAll.same s h)
theorem DatAll.same{H H' :Hp}(s:ai H H'):∀{xs:ak} {ds:List Z'},DatAll H xs ds->DatAll H' xs ds
 |_,_,.nil=> .nil
 |_,_,.cons h t=> .cons (Dat.same s h) (DatAll.same s t)
end
theorem qN(hg:X.A.guards=some [])(hu:X.A.units+100<cLine):ij X (.builtin "repr") (λxs H Q=>∃v d,xs=[v]/\Dat H v d/\d.showable=true/\d.depth<=90/\d.shown.length<=sizeLine/\Q (.str d.shown) H):=by
 intro ad s σ H xs us Q I r h;obtain⟨v,d,rfl,hd,hs,XE,hz,q⟩:=h;obtain⟨u,rfl,ru⟩:=wT r;have flat:∀{h' :aam} {tk:Nat} (t:Tok),(∀b o,s.heap.get? b=some o->h'.get? b=some o)->EP X ad σ Q (.str d.shown t) {s with heap:=h',toks:=tk}:=λ{h' tk} t k=>⟨.str d.shown,H,I.kept k,⟨t,Z⟩,q⟩;obtain⟨⟨as,rd⟩,nd⟩:=hd.reads I.bM ru
 cases hd with
 |bV=>cases ru;exact PySem.P.repr_of_none (flat _ λ_ _ e=>e)
 |bl b=>cases ru;exact PySem.P.repr_of_bool (by have:=flat (h' :=s.heap) (tk:=s.toks+1) s.toks λ_ _ e=>e;simpa only[PyData.shown] using this)
 |int i=>
  obtain⟨t,rfl⟩:=ru;have Y_ :i.natAbs.log2<1920:=by simpa[PyData.showable] using hs
  exact PySem.P.repr_of_int Y_ (by have:=flat (h' :=s.heap) (tk:=s.toks+1) s.toks λ_ _ e=>e;simpa only[PyData.shown] using this)
 |str x=>
  obtain⟨t,rfl⟩:=ru;refine PySem.P.repr_of_str (by have:=flat (h' :=s.heap) (tk:=s.toks+1) s.toks λ_ _ e=>e;simpa only[PyData.shown] using this) (by simpa only[PyData.shown] using hz)
 |lst e hx=>
  cases ru;exact repr_of_reads' rd hs (zt nd) hg (by lia) (λ_ _ e=>e) (λh' t tk k=>flat t k) hz
 |tup e hx=>
  cases ru;exact repr_of_reads' rd hs (zt nd) hg (by lia) (λ_ _ e=>e) (λh' t tk k=>flat t k) hz
section
variable{X:Cx}{e stp:aaa}{te ts:TE}{pos p2:Pos}
end
section
variable{prog:aan}{w:aai}{A:aal}{E:V'}{s:X'}
end
section
variable{X:Cx}{e:aaa}{ta:TA}{p p' pos pos' :Pos}
end
section
variable{X:Cx}{K:Frag}
theorem OB(hK:X.K=K):Zj X (Wg K):=hK▸aP
theorem Cj(hK:X.K=K):nq X (compareOp .NotIn) (rIn K true):=hK▸ou
theorem Fv{es:b_}{k:Nat}{t:Uy}{n:Nat}{pos:Pos}(hK:X.K=K)(hc:X.calm=true)(h:PGs X es t)(hn:(assignEach es X.env).length=n)(pj:(assignEach es X.env).findIdx? (·.1)=none):PG X (.Tuple es k pos) (aaZ K n t):=hK▸nu hc h hn pj
end
section
variable{X:Cx}{tg:aaa}
end
section
variable{X:Cx}{tg:aaa}
end
section
variable{X:Cx}{ad:aR}{σ:St}{H:Hp}{s:X'}{h' :aam}
theorem Inv.RJ{t' :Nat}{ch:bh}(I:Inv X ad σ H s)(hf:∀b∈ch,yM X ad H b)(k:∀b o,b∉ch->s.heap.get? b=some o->h'.get? b=some o):Inv X ad σ H {s with heap:=h',toks:=t'}:=by
 have T_:∀b u,H b=some u->b∉ch:=λb u e z=>by rw[(hf b z).1] at e;cases e
 have hL:X.env.locals∉ch:=λz=>(hf _ z).2.1 rfl
 refine I.step (g' :=s.gens) (d' :=s.drawn) (ch:=ch) (λb hb=> ?_) (λb o _ _ hc e _=>k b o hc e) (λb o _ _ hc e _=>⟨o.slots,k b o hc e⟩) (λ_ _ _ _ n=>n)
  (λb o hc e=>⟨o,k b o hc e⟩) (λ_ _ e=>e) (λ_ _ _ e=>e) (λb ps e=>⟨#[],by rw[e];simp⟩) (λm hm=> ?_) (λb u e=> ?_) I.bare
 .obtain⟨f0,f1,f2,f3,f4,f5⟩:=hf b hb;exact⟨f3,f1,f4,f5⟩
 .obtain⟨o,es,ep,ho,r⟩:=hm;exact⟨o,es,ep,k _ o hL ho,r⟩
 .refine(I.bM b u e).uD (λc v hc q=>k c v ?_ q) (λ_ q=>q) λ_ _ q=>q;rcases hc with z|z
  .rw[z];exact T_ b u e
  .exact T_ c _ z
theorem Inv.Lp{t' :Nat}{ch:bh}{xs:ak}(I:Inv X ad σ H s)(hf:∀b∈ch,yM X ad H b)(k:∀b o,b∉ch->s.heap.get? b=some o->h'.get? b=some o)
 (new:cg X.prog X.w (upd H s.heap.objs.size (.tup xs)) h' s.heap.objs.size (.tup xs)):Inv X ad σ (upd H s.heap.objs.size (.tup xs)) {s with heap:=h',toks:=t'}:=by
 have JS:H s.heap.objs.size=none:=I.bM.fresh (aJ _);have T_:∀b u,H b=some u->b∉ch:=λb u e z=>by rw[(hf b z).1] at e;cases e
 have hL:X.env.locals∉ch:=λz=>(hf _ z).2.1 rfl
 refine I.step (g' :=s.gens) (d' :=s.drawn) (ch:=ch) (λb hb=> ?_) (λb o _ _ hc q _=>k b o hc q) (λb o _ _ hc q _=>⟨o.slots,k b o hc q⟩)
  (λb o _ q n=> ?_) (λb o hc q=>⟨o,k b o hc q⟩) (λb ys q=> ?_) (λb o ys q=> ?_) (λb ps q=>⟨#[],?_⟩) (λm hm=> ?_) (λb u q=> ?_) I.bare
 .obtain⟨f0,f1,f2,f3,f4,f5⟩:=hf b hb;exact⟨f3,f1,f4,f5⟩
 .rw[au (bY (aX q))];exact n
 .rw[au (aw q JS)];exact q
 .rw[au (aw q JS)];exact q
 .rw[au (aw q JS),q];simp
 .obtain⟨o,es,ep,q,r⟩:=hm;exact⟨o,es,ep,k _ o hL q,r⟩
 .by_cases hb:b=s.heap.objs.size
  .subst hb;rw[aa] at q;cases q;exact new
  .rw[au hb] at q;refine(I.bM b u q).uD (λc v hc q' =>k c v ?_ q') (λc q' => ?_) λc ys q' => ?_
   .rcases hc with z|z
    .rw[z];exact T_ b u q
    .exact T_ c _ z
   .rw[au (aw q' JS)];exact q'
   .rw[au (aw q' JS)];exact q'
end
noncomputable def Itz(K:Frag)(a b:Y'):It:=
 ⟨λi H=>∃xs ys x y,bq K H a xs/\bq K H b ys/\xs[i]? =some x/\ys[i]? =some y,
  λi H v H' =>∃T x y,v= .ref T/\H T=none/\H' =upd H T (.tup [x,y])/\(∀xs,bq K H a xs->xs[i]? =some x)/\∀ys,bq K H b ys->ys[i]? =some y,
  λi H=>∃xs ys,bq K H a xs/\bq K H b ys/\(xs.length<=i\/ys.length<=i)⟩
theorem NC{P:aan}{w:aai}{K:Frag}{elts:b_}{kt:Nat}{pt:Pos}(l1 l2 z TI TO i1 i2:Y')(D:ZipApart z TI TO i1 i2 l1 l2):
 Turn P w K (.Tuple elts kt pt) (Itz K l1 l2) [z,TI,TO,i1,i2] z (λi h=>IsZip h z TI TO .none/\IsPair h TI (.ref i1) (.ref i2)/\(∃a b,IsPair h TO a b)/\h.IsListIter i1 l1 i/\h.IsListIter i2 l2 i) where
 mem:=by simp
 obj:=λi h st b hb=>by
  obtain⟨hz,zK,⟨a,c,EB⟩,⟨o1,h1,c1,d1⟩,⟨o2,h2,c2,d2⟩⟩:=st;have hb:b=z\/b=TI\/b=TO\/b=i1\/b=i2:=by simpa using hb
  rcases hb with rfl|rfl|rfl|rfl|rfl
  .exact⟨_,hz,λv z=>by cases z⟩
  .exact⟨_,zK,λv z=>by cases z⟩
  .exact⟨_,EB,λv z=>by cases z⟩
  .exact⟨o1,h1,λv z=>by rw[d1] at z;cases z⟩
  .exact⟨o2,h2,λv z=>by rw[d2] at z;cases z⟩
 keep:=λi h h' st k=>by
  obtain⟨hz,zK,⟨a,b,EB⟩,h1,h2⟩:=st;exact⟨k z (by simp) _ hz,k TI (by simp) _ zK,⟨a,b,k TO (by simp) _ EB⟩,h1.at λo e=>k i1 (by simp) o e,h2.at λo e=>k i2 (by simp) o e⟩
 item:=by
  intro X hP hw hK hc i ad s σ H E I hf st hg;subst hP hw hK;obtain⟨xs,ys,x,y,hq,Ra,hx,hy⟩:=hg;obtain⟨its,rv,p,hzz⟩:=I.list hq;obtain⟨mS,rv2,p2,af3⟩:=I.list Ra;obtain⟨u,hu,ru⟩:=rv.get hx;obtain⟨u2,hu2,ru2⟩:=rv2.get hy;obtain⟨hz,zK,⟨a,b,EB⟩,h1,h2⟩:=st;refine wpAny_pyNext_zip_item D hz zK EB h1 h2 p.isList p2.isList (x:=u) (y:=u2) (by simpa using hu) (by simpa using hu2) λh' a1 a2 a3 a4 a5 a6 hk=> ?_;refine⟨.ref s.heap.objs.size,Z,?_⟩;refine wpAny_letOwnedTupleGo_zip a1 λVu agj CC => ?_;have lt:∀{c o},s.heap.get? c=some o->s.heap.objs.size≠c:=λe=>gX (aX e);have ltl:∀{c},(∃o,s.heap.get? c=some o)->c<s.heap.objs.size:=λ⟨o,e⟩=>aX e;have JS:H s.heap.objs.size=none:=I.bM.fresh (aJ _);have XQ :Vu.get? s.heap.objs.size=some {cls:= .type "tuple",data:= .seq #[u,u2]}:=(CC.2 _ (lt hz)).trans a5;have kk:∀c o,c∉[z,TI,TO,i1,i2]->s.heap.get? c=some o->Vu.get? c=some o:=λc o hc q=>(CC.2 c (λx=>hc (by simp[x]))).trans (hk c o (λx=>hc (by simp[x])) (λx=>hc (by simp[x])) (λx=>hc (by simp[x])) (λx=>hc (by simp[x])) q);have I2:=I.Lp (t' :=s.toks) hf kk (show cg X.prog X.w (upd H s.heap.objs.size (.tup [x,y])) Vu s.heap.objs.size (.tup [x,y]) from⟨(show 2<=sizeLine by decide),[u,u2],.cons ru (.cons ru2 .nil),⟨_,XQ,Z,_,Z⟩⟩);refine⟨.ref s.heap.objs.size,_,I2,Z,⟨_,x,y,Z,JS,Z,(λys hy=>by rw[I.uC hy hq];exact hx),(λys' hy' =>by rw[I.uC hy' Ra];exact hy)⟩,⟨agj,?_,⟨_,_,(CC.2 _ D.TOz).trans a2⟩,a3.at λo q=>(CC.2 _ D.i1z).trans q,a4.at λo q=>(CC.2 _ D.i2z).trans q⟩,λc hc=> ?_⟩
  .exact(CC.2 _ D.TIz).trans (hk _ _ D.TIz D.TITO D.TIi1 D.TIi2 zK)
  .have P2:c≠s.heap.objs.size:=λq=>by
    subst q;have hb:s.heap.objs.size=z\/s.heap.objs.size=TI\/s.heap.objs.size=TO\/s.heap.objs.size=i1\/s.heap.objs.size=i2:=by simpa using hc
    rcases hb with q|q|q|q|q
    .exact lt hz q
    .exact lt zK q
    .exact lt EB q
    .obtain⟨_,e,_⟩:=h1;exact lt e q
    .obtain⟨_,e,_⟩:=h2;exact lt e q
   rw[au P2];exact(hf c hc).1
 done:=by
  intro X hP hw hK hc i ad s σ H E I hf st hg;subst hP hw hK;obtain⟨xs,ys,hq,Ra,hx⟩:=hg;obtain⟨its,rv,p,hzz⟩:=I.list hq;obtain⟨mS,rv2,p2,af3⟩:=I.list Ra;obtain⟨hz,zK,⟨a,b,EB⟩,h1,h2⟩:=st;have hl:=rv.length;have lK:=rv2.length;refine wpAny_pyNext_zip_end (I.ok.hd hc) D hz zK EB h1 h2 p.isList p2.isList ?_ λh' hk=>⟨Z,I.RJ (t' :=s.toks) hf λc o hc q=>hk c o (λx=>hc (by simp[x])) (λx=>hc (by simp[x])) (λx=>hc (by simp[x])) (λx=>hc (by simp[x])) q⟩;rcases hx with hx|hx
  .exact .inl (by simp;lia)
  .exact .inr (by simp;lia)
 self:=λ_ _ _ _ _ st h=>wpAny_pyIter_zip st.1 h
section
variable{X:Cx}{tg:aaa}
theorem DN(n l1 l2:Nat)(h1:l1<n)(h2:l2<n):ZipApart (n+4) (n+2) (n+3) n (n+1) l1 l2:=by
 constructor<;>(intro z;(have z' :(_:Nat)=_:=z);lia)
def aeK(K:Frag)(ta:TA):TI:=λσ H R=>ta σ H λvs H1=>∃a b,vs=[.ref a,.ref b]/\(∃xs,H1 a=some (.lst xs))/\(∃ys,H1 b=some (.lst ys))/\R (Itz K a b) H1
theorem Yi{a b:aaa}{ta:TA}{p pos:Pos}{elts:b_}{kt:Nat}{pt:Pos}(hg:Gl X "zip")(hm:X.mg "zip"=none)(ha:PA X [a,b] ta)(hs:starEach [a,b] X.env=[(false,eval a X.env),(false,eval b X.env)]:=by rfl)(TM:starEach [b] X.env=[(false,eval b X.env)]:=by rfl):
 PI X (.Tuple elts kt pt) (.Call (.Name "zip" p) [a,b] [] pos) (aeK X.K ta):=by
 intro ad s σ H R I h;refine Call_ (nB I hg hm Boot.«zip» (wF (cN (ha pos ad s σ H _ I h) λus s1 ⟨vs,H1,I1,r1,q1⟩=> ?_) (by rw[hs,TM]) (by rw[TM];rfl)));obtain⟨l1,l2,e,⟨xs,hq⟩,⟨ys,Ra⟩,q⟩:=q1;subst e
 cases r1 with
 |cons r rr=>
  cases rr with
  |cons r' rr=>
   cases rr;cases r;cases r';obtain⟨its,rv,p1,hz⟩:=I1.list (bq.of hq);obtain⟨mS,rv2,p2,JJ⟩:=I1.list (bq.of Ra);refine call_zip_2 p1.isList p2.isList λh' a1 a2 a3 a4 a5 a6 hk=> ?_;have I2:Inv X ad σ H1 {s1 with heap:=h'}:=I1.kept (t' :=s1.toks) hk;have A4:=I1.bM.lt hq;have lK:=I1.bM.lt Ra;refine wpAny_pyIter_zip (s:={s1 with heap:=h'}) a1 ?_;refine⟨s1.heap.objs.size+4,[s1.heap.objs.size+4,s1.heap.objs.size+2,s1.heap.objs.size+3,s1.heap.objs.size,s1.heap.objs.size+1],_,_,H1,Z,I2,NC l1 l2 _ _ _ _ _ (DN _ _ _ A4 lK),⟨a1,a2,⟨_,_,a3⟩,a4,a5⟩,λb hb=> ?_,q⟩
   have hb:s1.heap.objs.size<=b:=by
    simp only[aN,cF,cH] at hb;rcases hb with rfl|rfl|rfl|rfl|rfl
    .exact lu _ _
    .exact lu _ _
    .exact lu _ _
    .exact aJ _
    .exact lu _ _
   exact I1.Ci hb (I1.bM.fresh hb)
end
structure U7(K:Frag)(C:Y')(m:Str)(f:Y'):Prop where
 sp:PySem.W.specialIn K (.ref C) "__getattribute__"=some (some (.builtin "type.__getattribute__"))
 rd:PySem.W.readsIn K C (.type "type")=true
 at_:findCls K (.ref C) (.type "type") m=some (.val (.ref f))
 kp:PySem.W.keepIn K (.ref f)=true
section
variable{X:Cx}{CX:tY}{k:Nat}{f C:Y'}{fd:aap}{ps:aj}{sp:Sp}{dvs:ak}{ds:aE}{E:XK}{x m:Str}{p pos apos:Pos}{e:aaa}{es:b_}{t:TA}
theorem kz{pl:Sem Bool}(c:U7 X.K C m f)(hg:Gl X x)(hm:X.mg x=some (.ref C))(F:aQ X.prog X.w X.K X.mg X.base CX k f fd ps sp)(hr:dQ k X.A)(hb:Binds X.K fd ps ds)(hd:Vals dvs ds)(hx:wn CX X E)(ha:PA X (e::es) t)
 (ua:(x==("__debug__" :Str))=false:=by decide) (pj:starEach (e::es) X.env=(false,eval e X.env)::starEach es X.env:=by rfl) (jY:(backTo pos (starEach es X.env)).any (·.1)=false:=by rfl)
 (ht:eval (.Call (.Attribute (.Name x p) m apos) (e::es) [] pos) X.env=(do
  let ov<-eval (.Name x p) X.env
  standAt apos.atName
  let(f,first)<-holding [ov] (getMethod ov m pl)
  callWith pos f first (backTo pos (starEach (e::es) X.env)) (backToKw pos (keywordEach [] X.env))):=by rfl):
 PE X (.Call (.Attribute (.Name x p) m apos) (e::es) [] pos) (F1 sp dvs E t):=by
 intro ad s σ H Q I h;refine methodCall_KW (pl:=pl) (mh I hg hm ?_ ua) ht;refine PySem.W.method_cls I.kZ c.sp (PySem.W.cls_value I.kZ c.rd c.at_ Z ?_);refine qX (first:=[]) (h₀:=X.base) I.ok.mod.tZ c.kp (cN (ha pos ad _ σ H _ (I.tok _) h) λus s2 ⟨vs,H2,I2,r,q2⟩=>⟨I2.kZ,?_⟩) pj jY;exact Ad F hr hb hd hx I2 r q2
end
section
variable{X:Cx}{o e f:aaa}{apos i9:Pos}{td ty tx:TE}
end
theorem Kn:∀(ns:List Int) (i:Nat),PySem.preSum (λj=>ns.getD j 0) i=(ns.take i).sum
 |ns,0=>by simp[PySem.preSum]
 |ns,i+1=>by
  show PySem.preSum (λj=>ns.getD j 0) i+ns.getD i 0=_;rw[Kn ns i,rb,List.sum_append]
  cases e:ns[i]? with
  |none=>simp[eQ,e]
  |some v=>simp[eQ,e]
theorem z8(hc:X.calm=true):ij X (.builtin "sum") (λxs H Q=>∃(a:Y') (ns:List Int),xs=[.ref a]/\H a=some (.lst (ns.map V.int))/\ns.length<=2000/\(∀n∈ns,0<=n/\n<=1000000)/\Q (.int ns.sum) H):=by
 intro ad s σ H xs us Q I r h;obtain⟨a,ns,rfl,ha,hl,hb,q⟩:=h;obtain⟨u,rfl,ru⟩:=wT r;cases ru;obtain⟨its,r,pl,hz⟩:=I.list (bq.of ha);have hlen:=r.length;rw[aG] at hlen;have jB:=I.bM.lt ha;have I1:Inv X ad σ H {s with heap:=s.heap.push {cls:= .type "list_iterator",data:= .fields #[.ref a,.int 0 0]}}:=I.kept (t' :=s.toks) λb u e=>bg _ e
 have ZT:∀j,0<=ns.getD j 0/\ns.getD j 0<=1000000:=λj=>by
  rw[eQ]
  cases e:ns[j]? with
  |none=>simp
  |some v=>exact hb v (bt e)
 have ag1:∀j,0<=PySem.preSum (λj=>ns.getD j 0) j/\PySem.preSum (λj=>ns.getD j 0) j<=1000000*(j:Int):=by
  intro j
  induction j with
  |zero=>simp[PySem.preSum]
  |succ j ih=>
   have:=ZT j;show 0<=PySem.preSum (λj=>ns.getD j 0) j+ns.getD j 0/\PySem.preSum (λj=>ns.getD j 0) j+ns.getD j 0<=_
   push_cast
   lia
 refine call_sum_walk (uG pl.isList ⟨_,_,_,_,_,_,λi=>ns.getD i 0,Z,Walks.list (A:=X.A.in1) (I.ok.hd hc) _ a (bY jB) its.toArray,⟨⟨_,cK _ Z,Z,Z⟩,pl.isList.push _⟩,?_,?_,?_,λh' tk t' k=> ?_⟩)
 .intro b DQ;have DQ :b=s.heap.objs.size\/b=a:=by simpa using DQ
  show b<(s.heap.push _).objs.size;rw[jE];rcases DQ with rfl|rfl
  .exact zA _
  .exact Nat.lt_succ_of_lt jB
 .intro i v hv;have hv:its[i]? =some v:=by simpa using hv
  have hi:i<its.length:=(dE.mp hv).1;have hx:(ns.map V.int)[i]? =some (V.int ns[i]):=by simp[show i<ns.length by lia]
  obtain⟨u,hu,t,rfl⟩:=r.get hx;rw[hv] at hu;cases hu;refine⟨t,?_⟩;dsimp only;rw[eQ,zI (by lia)];rfl
 .intro j hj;have hj:j<its.length:=by simpa using hj
  have h1:=ZT j;have h2:=ag1 (j+1)
  push_cast at h2
  unfold PySem.InLong;dsimp only;refine⟨?_,?_⟩<;>(constructor<;>lia)
 .refine⟨.int ns.sum,H,I1.turned (λb o hb e=>k b o (by simpa using hb) e) (I.bM.fresh (aJ _)) (λz=> ?_) (.inr I.sz) (λx c e z=> ?_) (λp hp z=> ?_),⟨t',?_⟩,q⟩
  .exact absurd (z▸I.lt) (cn _)
  .obtain⟨v,o,ho,_⟩:=I.cell x c e;exact absurd (z▸aX ho) (cn _)
  .obtain⟨ho,_⟩:=I.pin p hp;exact absurd (z▸aX ho) (cn _)
  .rw[Kn,bC,<-hlen,lh]
section
variable{X:Cx}{e:aaa}{ta:TA}{p pos p' pos' :Pos}
end
section
variable{X:Cx}{e lo stp:aaa}{te tl ts:TE}{pos p2:Pos}
end
section
variable{X:Cx}{ad:aR}{σ:St}{H:Hp}{s:X'}{d:Y'}{bF:gu}
end
section
variable{X:Cx}{tg e:aaa}{te:TE}
end
structure Ms(h:aam)(e T:Y')(oe:Obj):Prop where
 at_:h.get? e=some oe
 fs:∃vs,oe.data= .fields vs/\vs[1]? =some (.ref T)
 ne:T≠e
 tr:∃oT ts,h.get? T=some oT/\oT.data= .fields ts/\ts[3]? =some .none
section
variable{M:Model}{A:aal}{E:V'}{s:X'}
theorem rB{base:aam}{env:Env}{outer:List Env}{L e:Y'}{oe:Obj}{vs:Array W'}{head:W'}{Qv:Bool}{Q:Unit->X'->Prop}
 (ud:A.frames=some (env::outer)) (hl:s.heap.FunFrames base (env::outer)) (hf:env.frame=some L)
 (he:s.heap.get? e=some oe) (hd:oe.data= .fields vs) (pd:1<vs.size)
 (h:∀h' T,s.heap.objs.size<=T->Ms h' e T (oe.mapFields (·.setIfInBounds 1 (.ref T)))->(∀b o,b≠e->b∉(env::outer).filterMap (·.frame)->s.heap.get? b=some o->h'.get? b=some o)->
  (∀b o,b≠e->s.heap.get? b=some o->∃sl,h'.get? b=some {o with slots:=sl})->Q () {s with heap:=h'}):
 wpAny M A (do let a<-frameOf env;let pl<-entryPlaceOf L Qv;let b<-EntryCells.newEntry head a .none (rawInt L) .none pl;setField (.ref e) 1 b) (λ_ s' =>wpAny M A (setFlight (.ref e) none) Q E s') E s:=by
 have afP:e∉(env::outer).filterMap (·.frame):=λhm=>by
  obtain⟨_,o,ho,QN⟩:=hl.mem hm
  rw[he] at ho;injection ho with ho;subst ho;exact QN vs hd
 refine av (wpAny_frameOf_fun ud hl hf λh₁ eY=> ?_);refine av (wpAny_entryPlaceOf λpl jY=> ?_);unfold EntryCells.newEntry newFields;refine av (nX ?_ (jY.sizeOk5 _ _ _ _ _));have Sy:h₁.get? e=some oe:=(eY.2.1 e afP).trans he;have SI:=bg (h:=h₁) {cls:= .type "traceback",dict:=none,data:= .fields ([head,.ref L,.none,rawInt L,.none]++(if pl.isEmpty then List.replicate 6 Value.none else pl)).toArray} Sy;refine oB SI hd pd ?_;have P7:h₁.objs.size≠e:=gX (aX Sy);have M9:=tL hd (·.setIfInBounds 1 (Value.ref h₁.objs.size));have Kp:=kP (Obj.mapFields (·.setIfInBounds 1 (Value.ref h₁.objs.size))) SI (zi M9)
 have Vo:=(fY (h₁.push {cls:= .type "traceback",dict:=none,data:= .fields ([head,.ref L,.none,rawInt L,.none]++(if pl.isEmpty then List.replicate 6 Value.none else pl)).toArray})
  (Obj.mapFields (·.setIfInBounds 1 (Value.ref h₁.objs.size))) (b7 P7)).trans (cK h₁ Z)
 unfold setFlight;refine av (cP Kp M9 (x:= .ref h₁.objs.size) (by simp[pd]) ?_);rw[ay (show(Value.ref h₁.objs.size !=Value.none)=true from by simp)];refine oB Vo Z (by simp only[bC,aT,aZ,fO]<;>lia) (h _ h₁.objs.size ?_ ?_ ?_ ?_)
 .rw[eY.1];exact aJ _
 .refine⟨?_,⟨_,M9,by simp[pd]⟩,P7,_,_,kP _ Vo (zi (tL Z _)),tL Z _,by first|(simp;done)|(rcases jY with rfl|⟨_,_,_,_,_,_,_,rfl⟩<;>simp)⟩;rw[fY _ _ P7];exact Kp
 .intro b o BW YL hb;have GV:=(eY.2.1 b YL).trans hb;have Ja:h₁.objs.size≠b:=gX (aX GV);rw[fY _ _ Ja,fY _ _ (b7 BW)];exact bg _ GV
 .intro b o BW hb;obtain⟨sl,GV⟩:=eY.2.2 b o hb;have Ja:h₁.objs.size≠b:=gX (aX GV);refine⟨sl,?_⟩;rw[fY _ _ Ja,fY _ _ (b7 BW)];exact bg _ GV
theorem GD{base:aam}{env:Env}{outer:List Env}{L e:Y'}{oe:Obj}{vs:Array W'}{Q:Unit->X'->Prop}
 (ud:A.frames=some (env::outer)) (hl:s.heap.FunFrames base (env::outer)) (hf:env.frame=some L)
 (he:s.heap.get? e=some oe) (hd:oe.data= .fields vs) (h1:vs[1]? =some .none)
 (h:∀h' T,s.heap.objs.size<=T->Ms h' e T (oe.mapFields (·.setIfInBounds 1 (.ref T)))->(∀b o,b≠e->b∉(env::outer).filterMap (·.frame)->s.heap.get? b=some o->h'.get? b=some o)->
  (∀b o,b≠e->s.heap.get? b=some o->∃sl,h'.get? b=some {o with slots:=sl})->Q () {s with heap:=h'}):wpAny M A (leaving env (.ref e)) Q E s:=by
 unfold leaving noteFrame;simp only[hf];refine av (av (cP he hd h1 ?_));rw[aq (by decide)];exact rB ud hl hf he hd (tM.mp h1).1 h
theorem Jl{base:aam}{env:Env}{outer:List Env}{L e T:Y'}{oe:Obj}{Q:Unit->X'->Prop}
 (ud:A.frames=some (env::outer)) (hl:s.heap.FunFrames base (env::outer)) (hf:env.frame=some L) (ht:Ms s.heap e T oe)
 (h:∀h' T',s.heap.objs.size<=T'->Ms h' e T' (oe.mapFields (·.setIfInBounds 1 (.ref T')))->(∀b o,b≠e->b≠T->b∉(env::outer).filterMap (·.frame)->s.heap.get? b=some o->h'.get? b=some o)->
  (∀b o,b≠e->b≠T->s.heap.get? b=some o->∃sl,h'.get? b=some {o with slots:=sl})->Q () {s with heap:=h'}):wpAny M A (leaving env (.ref e)) Q E s:=by
 obtain⟨he,⟨vs,hd,h1⟩,P7,oT,ts,hT,lJ,h3⟩:=ht;unfold leaving noteFrame;simp only[hf];refine av (av (cP he hd h1 ?_));rw[ay (show(Value.ref T !=Value.none)=true from by simp)];refine av (cP hT lJ h3 ?_);rw[aq (show ¬((Value.none==rawInt L)=true) from by simp[rawInt])];refine av (oB hT lJ (tM.mp h3).1 ?_);have other:∀b,b≠T->(s.heap.update T (Obj.mapFields (·.setIfInBounds 3 Value.none))).get? b=s.heap.get? b:=λb hb=>fY _ _ (b7 hb)
 have BC:∀b o,s.heap.get? b=some o->(∀vs,o.data≠.fields vs)->b≠T:=λb o hb QN q=>by
  rw[q,hT] at hb;injection hb with hb;subst hb;exact QN ts lJ
 refine rB ud (hl.of_keeps λb o hb QN=>⟨o,(other b (BC b o hb QN)).trans hb,Z⟩) hf ((other e (b7 P7)).trans he) hd (tM.mp h1).1
  λh' T' hn fl k1 k2=>h h' T' ?_ fl (λb o BW Ja YL hb=>k1 b o BW YL ((other b Ja).trans hb)) λb o BW Ja hb=>k2 b o BW ((other b Ja).trans hb)
 have LI :(s.heap.update T (Obj.mapFields (·.setIfInBounds 3 Value.none))).objs.size<=T' :=hn;rw[Heap.size_after_update] at LI;exact LI
end
structure nG(bm:aE):Prop where
 hasB:bm.contains (.type "ValueError")=true
 hasBase:bm.contains (.type "BaseException")=true
 noAttr:bm.contains (.type "AttributeError")=false
 noName:bm.contains (.type "NameError")=false
noncomputable abbrev k9(C t:Y'):Obj:={cls:= .ref C,data:= .fields #[.ref t,.none,.none,.none,.bool false,.none]}
section
variable{prog:aan}{w:aai}{A:aal}{E:V'}{h:aam}{g:Array GenState}{d:Drawn}{t:Nat}{os:OsState}
variable{nm q:Str}{C N:Y'}{bs bm:aE}{iQ:Bool}{sn:aj}{sub:aE}{ab:Bool}{col:Option Bool}{dd:Option Y'}{k0 k1 k2 k3 k5:aM}
theorem Cw{M:Model}(T:nG bm){rest:aE}{Q:Unit->X'->Prop}(hC:h.get? C=some (excClassObj nm q C N bs bm iQ sn sub ab col dd k0 k1 k2 k3 k5 "ValueError.__new__"))
 (hq:Q () ⟨h,g,d,t,os⟩):wpAny M A (checkBuiltinCall "ValueError.__new__" ⟨.ref C::rest,[]⟩) Q E ⟨h,g,d,t,os⟩:=by
 have F:=uH;have acj:(Value.ref C::bm).contains (.type "ValueError")=true:=by rw[pz,T.hasB,qS]
 have akj:=F.noStar;simp only[checkBuiltinCall,F.newKind,F.newSplit,F.newRow]
 repeat (first|refine i5 hC ?_|(refine qr hC ?_;rw[acj])|refine wpAny_staticBase_exc hC ?_|refine wpAny_madeBy_exc hC ?_|simp only[bne_self_eq_false,uM,me]|wp_step)
 exact hq
theorem ET(T:nG bm){R:Result->X'->Prop}{rest:aE}(hC:h.get? C=some (excClassObj nm q C N bs bm iQ sn sub ab col dd k0 k1 k2 k3 k5 "ValueError.__new__"))
 (hq:R (.ok (.ret (.ref (h.objs.size+1)))) ⟨(h.push {cls:= .type "tuple",data:= .seq rest.toArray}).push (k9 C h.objs.size),g,d,t,os⟩) (hrest:rest.length<=sizeLine:=by size_fits):
 codeAny (model prog w) A (.builtin "ValueError.__new__" ⟨.ref C::rest,[]⟩) R ⟨h,g,d,t,os⟩:=by
 have F:=uH;have akf:=F.ends;have RS:(Value.ref C::bm).contains (.type "ValueError")=true:=by rw[pz,T.hasB,qS]
 have hcA:(Value.ref C::bm).contains (.type "AttributeError")=false:=by rw[pz,T.noAttr];rfl
 have hcN:(Value.ref C::bm).contains (.type "NameError")=false:=by rw[pz,T.noName];rfl
 refine codeAny_builtinAt F.entry ?_;unfold Builtin.«BaseException.__new__»;refine PySem.wpAt_bind ?_;show PySem.wpAt _ _ _ (stack>>= _) _ _ _;refine PySem.wpAt_bind (PySem.wpAt_stack λp below=>PySem.wpAt_of_wpAny ?_)
 wp_walk
 refine PySem.wpAt_of_wpAny ?_;rw[F.owner]
 repeat (first|with_reducible refine wpAny_madeHere_exc F.canon hC ?_|with_reducible refine i5 hC ?_|(with_reducible refine qr hC ?_;first|rw[RS]|rw[hcA]|rw[hcN])|wp_step)
 show R _ _;rw[jE];exact hq
theorem CM(T:nG bm){K:Frag}{rest:aE}{fI:Y'}{Q:Fin->X'->Prop}
 (hC:h.get? C=some (excClassObj nm q C N bs bm iQ sn sub ab col dd k0 k1 k2 k3 k5 "ValueError.__new__")) (X:K.In h) (hi:PySem.W.findIn K (.ref C) "__init__"=some (some (.ref fI))) (hf:PySem.W.typeIn K (.ref fI)=some (.type "function"))
 (hq:wpAny (model prog w) A (call (.ref fI) (.ref (h.objs.size+1)::rest)) (λr s' =>r= .none/\Q (.done (.ret (.ref (h.objs.size+1)))) s') E ⟨(h.push {cls:= .type "tuple",data:= .seq rest.toArray}).push (k9 C h.objs.size),g,d,t,os⟩) (hrest:rest.length<=sizeLine:=by size_fits):
 wpAny (model prog w) A (Builtin.«type.__call__» ⟨.ref C::rest,[]⟩) Q E ⟨h,g,d,t,os⟩:=by
 have F:=uH
 repeat (first|with_reducible refine i5 hC ?_|with_reducible refine wpAny_madeBy_exc hC ?_|wp_step)
 refine codeAny_call_builtin_code (Code.quiet_builtin _ F.quiet) (Cw T hC ?_);refine ET T hC ?_ hrest;show wpAny _ _ _ _ _ _;have hk:∀b o,h.get? b=some o->((h.push {cls:= .type "tuple",data:= .seq rest.toArray}).push (k9 C h.objs.size)).get? b=some o:=λb o e=>bg _ (bg _ e);have aag:=hk _ _ hC;have aaK:K.In ((h.push {cls:= .type "tuple",data:= .seq rest.toArray}).push (k9 C h.objs.size)):=X.keeps hk;have Yq:((h.push {cls:= .type "tuple",data:= .seq rest.toArray}).push (k9 C h.objs.size)).get? (h.objs.size+1)=some (k9 C h.objs.size):=by heap_get
 have hcC:(Value.ref C::bm).contains (.ref C)=true:=by simp
 unfold isInstance
 repeat (first|with_reducible refine i5 Yq ?_|(with_reducible refine qr aag ?_;rw[hcC])|wp_step)
 show wpAny _ _ (typeLookup (.ref C) _) _ _ _;refine(looks_findIn aaK hi).here ?_;refine jF (av ?_);refine(bind_fn aaK (.ref (h.objs.size+1)) hf).here ?_;refine av (fM hq (λr s' hr=> ?_) λ_ _ x=>x);obtain⟨rfl,hQ⟩:=hr
 wp_walk
 exact hQ
theorem Nh(T:nG bm){K:Frag}{rest:aE}{fI:Y'}{Q:V'}
 (hC:h.get? C=some (excClassObj nm q C N bs bm iQ sn sub ab col dd k0 k1 k2 k3 k5 "ValueError.__new__")) (X:K.In h) (hi:PySem.W.findIn K (.ref C) "__init__"=some (some (.ref fI))) (hf:PySem.W.typeIn K (.ref fI)=some (.type "function"))
 (hq:wpAny (model prog w) (A.under (.builtin "type.__call__" ⟨.ref C::rest,[]⟩)) (call (.ref fI) (.ref (h.objs.size+1)::rest)) (λr s' =>r= .none/\Q (.ref (h.objs.size+1)) s') E ⟨(h.push {cls:= .type "tuple",data:= .seq rest.toArray}).push (k9 C h.objs.size),g,d,t,os⟩) (hrest:rest.length<=sizeLine:=by size_fits):
 wpAny (model prog w) A (call (.ref C) rest) Q E ⟨h,g,d,t,os⟩:=by
 have f1:=tc_lookup;have f2:=tc_bind (.ref C);have hT:(⟨h,g,d,t,os⟩:X').TypeIs (.ref C) "type":=⟨_,hC,Z⟩;refine oh (codeAny_of_tree ?_);show wpAny _ _ (callAny (.ref C) _) _ _ _
 repeat (any_goals (first|assumption|with_reducible refine i5 hC ?_|wp_step))
 refine⟨Z,?_⟩;exact codeAny_call_builtin_at (Code.quiet_builtin _ (by decide+kernel)) entry_typeCall (wpAny_check_type_call_sub hC (CM (hrest:=hrest) T hC X hi hf hq))
end
def eM(a C:Y')(dd:Option Y')(n:Bool)(h:aam):Prop:=∃vs:Array W',h.get? a=some {cls:= .ref C,dict:=dd,data:= .fields vs}/\vs.size=6/\(n=true->vs[1]? =some .none)
theorem wo{P:aan}{w:aai}{H:Hp}{h:aam}{a C:Y'}{dd:Option Y'}{n:Bool}(p:eM a C dd n h):cg P w H h a (.ext (eM a C dd n)):=by
 obtain⟨vs,e,r⟩:=p;exact⟨⟨vs,e,r⟩,⟨_,e⟩,λh1 h2 ⟨ws,e1,r1⟩ k=>⟨ws,k _ e1,r1⟩⟩
theorem pW{P:aan}{w:aai}{H:Hp}{h:aam}{a C:Y'}{dd:Option Y'}{n:Bool}(ok:o5 P w H h)(e:H a=some (.ext (eM a C dd n))):eM a C dd n h:=
 (show cg P w H h a (.ext (eM a C dd n)) from ok a _ e).1
theorem AO{H:Hp}{a:Y'}{o:HO}(h:H a=some o):upd H a o=H:=by
 funext b
 by_cases hb:b=a
 .subst hb;rw[aa,h]
 .rw[au hb]
structure ExcC(K:Frag)(C:Y'):Prop where
 obj:∃nm q N bs bm iQ sn sub ab col dd k0 k1 k2 k3 k5,K.lookup C=some (excClassObj nm q C N bs bm iQ sn sub ab col dd k0 k1 k2 k3 k5 "ValueError.__new__")/\nG bm
structure Ny(K:Frag)(C f:Y'):Prop extends ExcC K C where
 init:PySem.W.findIn K (.ref C) "__init__"=some (some (.ref f))
 fn:PySem.W.typeIn K (.ref f)=some (.type "function")
 kp:PySem.W.keepIn K (.ref C)=true
section
variable{X:Cx}{CX:tY}{k:Nat}{f C:Y'}{fd:aap}{ps:aj}{sp:Sp}{E:XK}{x m:Str}{p pos apos:Pos}{e o:aaa}{es:b_}{ta:TE}{t:TA}
def IK(C:Y')(sp:Sp)(E:XK)(t:TA):TE:=λσ H Q=>t σ H λvs H1=>∀x,H1 x=none->sp (.ref x::vs) (upd H1 x (.ext (eM x C none true))) (λv H2=>v= .bV/\Q (.ref x) H2) E
theorem LZ{ad:aR}{σ:St}{H:Hp}{s:X'}{Q:VK}{us:aE}{vs:ak}(M:Ny X.K C f)(F:aQ X.prog X.w X.K X.mg X.base CX k f fd ps sp)(hr:dQ (k+1) X.A)(hb:Binds X.K fd ps [])
 (hx:wn CX X E) (I:Inv X ad σ H s) (r:Vals vs us) (hus:us.length<=100)
 (h:∀x,H x=none->sp (.ref x::vs) (upd H x (.ext (eM x C none true))) (λv H2=>v= .bV/\Q (.ref x) H2) E):
 wpAny (model X.prog X.w) X.A (call (.ref C) us) (EP X ad σ Q) X.xe s:=by
 have hq:=h (s.heap.objs.size+1) (I.bM.fresh (nT _));obtain⟨nm,q,N,bs,bm,iQ,sn,sub,ab,col,dd,k0,k1,k2,k3,k5,lk,T⟩:=M.obj;have hC:=I.kZ _ _ lk;have hk:∀b u,s.heap.get? b=some u->((s.heap.push {cls:= .type "tuple",data:= .seq us.toArray}).push (k9 C s.heap.objs.size)).get? b=some u:=λb u e=>bg _ (bg _ e);have Yq:((s.heap.push {cls:= .type "tuple",data:= .seq us.toArray}).push (k9 C s.heap.objs.size)).get? (s.heap.objs.size+1)=some (k9 C s.heap.objs.size):=by heap_get
 have I2:Inv X ad σ (upd H (s.heap.objs.size+1) (.ext (eM (s.heap.objs.size+1) C none true))) {s with heap:=(s.heap.push {cls:= .type "tuple",data:= .seq us.toArray}).push (k9 C s.heap.objs.size)}:=
  I.laid (t' :=s.toks) hk (nT _) (wo ⟨_,Yq,Z,λ_=>rfl⟩)
 have r2:Vals (V.ref (s.heap.objs.size+1)::vs) (Value.ref (s.heap.objs.size+1)::us):= .cons Z r
 have hl:(Value.ref (s.heap.objs.size+1)::us++([]:aE)).length=ps.length:=by
  have e:=r2.length;rw[F.len _ _ _ _ hq] at e;rw[bZ];exact e.symm
 obtain⟨hp,g,d,tk,os⟩:=s;refine Nh (hrest:=aL hus (by decide)) T hC I.kZ M.init M.fn (oh (n8 (F.run _ X.stack _ _ ⟨Value.ref (hp.objs.size+1)::us,[]⟩ (Value.ref (hp.objs.size+1)::us) _ _ E (hr.make C us []) (I2.Xy.make C us []) ?_ r2 hq) λr s' PU => ?_))
 .have:=hb _ (Value.ref (hp.objs.size+1)::us) I2.kZ hl;rw[bZ] at this;exact this
 .cases r with
  |error e=>exact hx ad σ _ _ e s' I2 PU
  |ok fl=>
   cases fl with
   |ret u=>
    obtain⟨v,H',I3,rv,ev,q3⟩:=I2.after PU;subst ev;exact⟨rv,⟨V.ref (hp.objs.size+1),H',I3,Z,q3⟩⟩
   |next=>exact False.elim PU
   |brk=>exact False.elim PU
   |cont=>exact False.elim PU
theorem Nj(M:Ny X.K C f)(F:aQ X.prog X.w X.K X.mg X.base CX k f fd ps sp)(hr:dQ (k+1) X.A)(hg:Gl X x)(hm:X.mg x=some (.ref C))(hb:Binds X.K fd ps [])(hx:wn CX X E)
 (ha:PA X (e::es) t) (hlen:∀vs H Q E,sp vs H Q E->vs.length<=100) (ua:(x==("__debug__" :Str))=false:=by decide) (he:starEach (e::es) X.env=(false,eval e X.env)::starEach es X.env:=by rfl) (jY:(backTo pos (starEach es X.env)).any (·.1)=false:=by rfl):
 PE X (.Call (.Name x p) (e::es) [] pos) (IK C sp E t):=by
 intro ad s σ H Q I h;refine mv (mh I hg hm ?_ ua);refine qX (h₀:=X.base) I.ok.mod.tZ M.kp (cN (ha pos ad s σ H _ I h) λus s1 ⟨vs,H1,I1,r,q⟩=>⟨I1.kZ,?_⟩) he jY;refine LZ M F hr hb hx I1 r ?_ q;have h1:=hlen _ _ _ _ (q _ (I1.bM.fresh (aJ _)));have h2:=r.length;rw[aZ] at h1;rw[q_]
 lia
end
theorem HY(K:Frag):findCls K (.type "ValueError") (.type "type") "__init__"=some (.val (.builtin "ValueError.__init__")):=by kernel_rfl
section
variable{prog:aan}{w:aai}{A:aal}{E:V'}{h:aam}{g:Array GenState}{d:Drawn}{t:Nat}{os:OsState}
variable{nm q:Str}{C N:Y'}{bs bm:aE}{iQ:Bool}{sn:aj}{sub:aE}{ab:Bool}{col:Option Bool}{dd:Option Y'}{k0 k1 k2 k3 k5:aM}
theorem zV{M:Model}(T:nG bm){e:Y'}{oe:Obj}{rest:aE}{Q:Unit->X'->Prop}
 (hC:h.get? C=some (excClassObj nm q C N bs bm iQ sn sub ab col dd k0 k1 k2 k3 k5 "ValueError.__new__")) (he:h.get? e=some oe) (Js:oe.cls= .ref C) (hq:Q () ⟨h,g,d,t,os⟩):
 wpAny M A (checkBuiltinCall "ValueError.__init__" ⟨.ref e::rest,[]⟩) Q E ⟨h,g,d,t,os⟩:=by
 have F:=uH;have RS:(Value.ref C::bm).contains (.type "ValueError")=true:=by rw[pz,T.hasB,qS]
 have aei:=F.noStar;simp only[checkBuiltinCall,F.initKind,F.initSplit,F.initRow]
 repeat (first|(with_reducible refine i5 he ?_;rw[Js])|with_reducible refine i5 hC ?_|(with_reducible refine qr hC ?_;rw[RS])|wp_step)
 refine zu ?_
 rw[show ∀(a b:String) (n:Nat),Bind.check ⟨.positional,"*","ValueError",.self,[⟨"args",.varPos,false⟩]⟩ a b n (List.map (λx=>x.fst) ({pos:=Value.ref e::rest}:Args).kw)=pure () from
  λa b n=>check_star_args _ _ _ _ _ _]
 exact aW hq
theorem KZ(T:nG bm){e:Y'}{vs:Array W'}{de:Option Y'}{x:W'}{Q:V'}
 (hC:h.get? C=some (excClassObj nm q C N bs bm iQ sn sub ab col dd k0 k1 k2 k3 k5 "ValueError.__new__")) (he:h.get? e=some {cls:= .ref C,dict:=de,data:= .fields vs}) (hv:vs.size=6)
 (hq:∀h' T',h.get? T' =none->(∀b o,b≠e->h.get? b=some o->h'.get? b=some o)->h'.get? e=some {cls:= .ref C,dict:=de,data:= .fields (vs.setIfInBounds 0 (.ref T'))}->Q .none ⟨h',g,d,t,os⟩):
 wpAny (model prog w) A (call (.builtin "ValueError.__init__") [.ref e,x]) Q E ⟨h,g,d,t,os⟩:=by
 have F:=uH;have pd:0<vs.size:=by lia
 refine oh (Eo F.init.plain F.initEntry (zV T hC he Z ?_));unfold Builtin.«BaseException.__init__»
 wp_walk
 have h0:vs[0]? =some vs[0]:=uQ pd;rw[h0];have he2:=bg {cls:= .type "tuple",data:= .seq #[x]} he
 have fin:Q .none ⟨(h.push {cls:= .type "tuple",data:= .seq #[x]}).update e (Obj.mapFields (·.setIfInBounds 0 (.ref h.objs.size))),g,d,t,os⟩:=by
  refine hq _ h.objs.size (Heap.get?_none_of_le (aJ _)) (λb o hb e' => ?_) ?_
  .rw[fY _ _ (b7 hb)];exact bg _ e'
  .exact kP _ he2 rfl
 generalize vs[0]=v0;refine aW ?_;refine av (oB he2 Z pd ?_)
 cases v0 with
 |ref a=>exact wpAny_letGo (aW fin)
 |_=>exact aW (aW fin)
end
section
variable{X:Cx}{p pos apos:Pos}{e1 e2:aaa}{t:TA}
def Yk(K:Frag)(t:TA):TE:=λσ H Q=>t σ H λvs H1=>∃a C dd n x,vs=[.ref a,x]/\H1 a=some (.ext (eM a C dd n))/\ExcC K C/\Q .bV H1
theorem NZ{pl:Sem Bool}(hg:Gl X "ValueError")(hm:X.mg "ValueError"=none)(ha:PA X [e1,e2] t)
 (pj:starEach [e1,e2] X.env=(false,eval e1 X.env)::starEach [e2] X.env:=by rfl) (jY:(backTo pos (starEach [e2] X.env)).any (·.1)=false:=by rfl)
 (ht:eval (.Call (.Attribute (.Name "ValueError" p) "__init__" apos) [e1,e2] [] pos) X.env=(do
  let ov<-eval (.Name "ValueError" p) X.env
  standAt apos.atName
  let(f,first)<-holding [ov] (getMethod ov "__init__" pl)
  callWith pos f first (backTo pos (starEach [e1,e2] X.env)) (backToKw pos (keywordEach [] X.env))):=by rfl):
 PE X (.Call (.Attribute (.Name "ValueError" p) "__init__" apos) [e1,e2] [] pos) (Yk X.K t):=by
 intro ad s σ H Q I h;refine methodCall_KW (pl:=pl) (nB I hg hm Boot.«ValueError» ?_) ht;obtain⟨m,F⟩:=I.fr;refine PySem.W.method_type F I.mod.tZ (by kernel_rfl) (by decide+kernel) (HY X.K) (by decide+kernel) ?_;refine JV (cN (ha pos ad _ σ H _ (I.tok _) h) λus s1 ⟨vs,H1,I1,r1,q1⟩=> ?_) pj jY;obtain⟨a,C,dd,n,x,rfl,hx,hc,q⟩:=q1
 cases r1 with
 |cons r rr=>
  cases rr with
  |cons r' rr=>
   cases rr;cases r;obtain⟨nm,q',N,bs,bm,iQ,sn,sub,ab,col,XW,k0,k1,k2,k3,k5,lk,T⟩:=hc.obj;obtain⟨ws,he,hw,hn⟩:=pW I1.bM hx;obtain⟨hp,g,d,tk,os⟩:=s1;refine KZ T (I1.kZ _ _ lk) he hw λh' T' hT k he' =>⟨.bV,H1,?_,Z,q⟩;have I2:=I1.write (h' :=h') (t' :=tk) (x:=a) (e:=a) (o:= .ext (eM a C dd n)) (by rw[hx];exact True.intro) (.inl Z) k ⟨_,he'⟩ (wo ⟨_,he',by simp[hw],λz=>by rw[Array.getElem?_setIfInBounds_ne (by decide)];exact hn z⟩);rw[AO hx] at I2;exact I2
end
end L2
namespace L2
open PySem PySem.Spec PyProof.Rows PySem.Builtin.ObjectAttr
theorem uy(self:W'):refuseLoop self "__setattr__" [.type "ValueError",.type "Exception",.type "BaseException",.type "object"]=pure ():=by kernel_rfl
section
variable{prog:aan}{w:aai}{A:aal}{E:V'}{h:aam}{g:Array GenState}{d:Drawn}{t:Nat}{os:OsState}
variable{nm q:Str}{C N x:Y'}{bs bm:aE}{sn:aj}{sub:aE}{ab:Bool}{col:Option Bool}{dd:Option Y'}{k0 k1 k2 k3 k5:aM}{newId:String}
 {mA:Str->aM} {name:Str} {v:W'} {K:Frag}
theorem Fe{M:Model}{o:Obj}{UP:W'}{Q:Unit->X'->Prop}(hob:bm.contains (.type "object")=true)
 (hC:h.get? C=some (excClassObj nm q C N bs bm true sn sub ab col dd k0 k1 k2 k3 k5 newId)) (hx:h.get? x=some o) (hc:o.cls= .ref C) (hq:Q () ⟨h,g,d,t,os⟩):
 wpAny M A (checkBuiltinCall "object.__setattr__" ⟨[.ref x,UP,v],[]⟩) Q E ⟨h,g,d,t,os⟩:=by
 have SF:=PySem.F.store_object;have RS:(Value.ref C::bm).contains (.type "object")=true:=by rw[pz,hob,qS]
 have ha:=SF.args (.ref x) UP v;simp only[checkBuiltinCall,SF.kind,SF.split];refine av ?_
 .unfold isInstance
  repeat (first|(with_reducible refine i5 hx ?_;rw[hc])|(with_reducible refine qr hC ?_;rw[RS])|wp_step)
  exact hq
theorem yR{tk:Tok}{Q:Fin->X'->Prop}{ns:aj}(Gx:∀self,refuseLoop self "__setattr__" bm=pure ())(X:K.In h)(Zx:PySem.W.findIn K (.ref C) name=some none)
 (hC:h.get? C=some (excClassObj nm q C N bs bm true sn sub ab col dd k0 k1 k2 k3 k5 newId)) (I:h.Inst x C mA)
 (hq:∀h' QD,h'.Inst x C (λy=>if y=name then some v else mA y)->
  (∀b o,b≠x->(∀jQ dx,h.get? x=some jQ->jQ.dict=some dx->b≠dx)->h.get? b=some o->h'.get? b=some o)->
  (∀jQ,h.get? x=some jQ->∃wN,h'.get? x=some wN/\wN.cls=jQ.cls/\wN.data=jQ.data/\wN.slots=jQ.slots/\(∀dx,jQ.dict=some dx->wN.dict=some dx)/\(jQ.dict=none->∃dx,wN.dict=some dx/\h.objs.size<=dx))->Q (.done (.ret .none)) ⟨h',g,d,QD,os⟩) (hw:Within mA ns) (pd:ns.length<=1000):
 wpAny (model prog w) A (Builtin.«object.__setattr__» ⟨[.ref x,.str name tk,v],[]⟩) Q E ⟨h,g,d,t,os⟩:=by
 obtain⟨o,hx,hc,hnc,hd⟩:=I;have Gx:=Gx (.ref x);unfold Builtin.«object.__setattr__»
 repeat (first|rw[refuse_eq]|(rw[refuseLoop_ref,Gx])|(with_reducible refine i5 hx ?_;rw[hc])|with_reducible refine wpAny_mroOf_exc hC ?_|(with_reducible refine(looks_findIn X Zx).here ?_)|wp_step)
 rcases hd with⟨hdn,hmA⟩|⟨dx,BX,o8,QU⟩
 .
  rw[hdn,aq (by simp[typeHasDict])]
  split
  .rename_i AG;cases AG
  split
  .rename_i c AG;exact absurd AG (hnc c)
  .have Uq:(h.push {cls:= .type "dict",data:= .dict #[]}).get? x=some o:=bg _ hx;have CT:x≠h.objs.size:=bY (aX hx);refine av (wpAny_alloc' ?_);refine av (wpAny_update' Uq ?_);refine aW ?_
   have P1:((h.push {cls:= .type "dict",data:= .dict #[]}).update x λo=>{cls:=o.cls,dict:=some h.objs.size,data:=o.data,slots:=o.slots}).get? h.objs.size
    =some {cls:= .type "dict",data:= .dict #[]}:=
    (Heap.get?_update_ne _ _ _ _ CT.symm).trans (Heap.get?_push_at Z Z)
   have hnd:((h.push {cls:= .type "dict",data:= .dict #[]}).update x λo=>{cls:=o.cls,dict:=some h.objs.size,data:=o.data,slots:=o.slots}).Ns h.objs.size (λ_=>none):=
    ⟨_,#[],_,P1,Z,λe he=>absurd he (by simp),λ_=>rfl⟩
   show wpAny _ _ (storeInDict h.objs.size (.str name tk) name v) _ _ _;unfold storeInDict newKeyGuard;refine av (aW (av (wpAny_nsSet1 (Heap.Ns1.of_empty hnd) λh' LI hs=> ?_)));obtain⟨oD,esD,epD,hoD,Ih,hcD⟩:=LI.count (Within.cons name v Within.nil);refine av (wpAny_lookBehind hoD (by rw[Ih];exact pastItsLine_dict (aL hcD (by rw[aZ,fO,qU];lia))) ?_)
   wp_walk
   have hx' :h'.get? x=some {cls:=o.cls,dict:=some h.objs.size,data:=o.data,slots:=o.slots}:= ?_
   refine hq h' _ ⟨{cls:=o.cls,dict:=some h.objs.size,data:=o.data,slots:=o.slots},hx',hc,hnc,.inr ⟨h.objs.size,Z,CT.symm,?_⟩⟩ (λb ob hbx _ hb=> ?_)
    (λjQ h₀=>by obtain rfl:o=jQ:=fC (hx.symm.trans h₀);exact⟨_,hx',Z,Z,Z,(λdx e=>by rw[hdn] at e;cases e),λ_=>⟨_,Z,aJ _⟩⟩)
   .obtain⟨o',es,ep,e1,e2,e3,eu,e4⟩:=LI;exact⟨o',es,ep,e1,e2,e3,eu,λy=>by rw[e4 y];by_cases hy:y=name<;>simp[hy,hmA]⟩
   .exact(hs.2 b (bY (aX hb))).trans ((Heap.get?_update_ne _ _ _ _ hbx).trans (bg _ hb))
   .refine(hs.2 x CT).trans (kP _ Uq ?_);have ud:=(Heap.get?_some_iff.mp hx).2;obtain⟨oc,od,odt,xF⟩:=o;cases odt<;>first|rfl|exact ud
 .
  rw[BX];refine aW ?_;show wpAny _ _ (storeInDict dx (.str name tk) name v) _ _ _;unfold storeInDict newKeyGuard;refine av (aW (av (wpAny_nsSet1 QU λh' LI hs=> ?_)));obtain⟨oD,esD,epD,hoD,Ih,hcD⟩:=LI.count (Within.cons name v hw);refine av (wpAny_lookBehind hoD (by rw[Ih];exact pastItsLine_dict (aL hcD (by rw[aZ,qU];lia))) ?_)
  wp_walk
  refine hq h' _ ⟨o,(hs.2 x o8.symm).trans hx,hc,hnc,.inr ⟨dx,BX,o8,LI⟩⟩ (λb ob _ hbd hb=> ?_)
   (λjQ h₀=>⟨jQ,(hs.2 x o8.symm).trans h₀,Z,Z,Z,(λ_ e=>e),λe=>by obtain rfl:o=jQ:=fC (hx.symm.trans h₀);rw[BX] at e;cases e⟩)
  exact(hs.2 b (hbd o dx hx BX)).trans hb
theorem CQ{Q:Unit->X'->Prop}{ns:aj}(Gx:∀self,refuseLoop self "__setattr__" bm=pure ())(hob:bm.contains (.type "object")=true)(X:K.In h)
 (hs:PySem.W.findIn K (.ref C) "__setattr__"=some (some (.builtin "object.__setattr__"))) (Zx:PySem.W.findIn K (.ref C) name=some none)
 (hC:h.get? C=some (excClassObj nm q C N bs bm true sn sub ab col dd k0 k1 k2 k3 k5 newId)) (I:h.Inst x C mA)
 (hq:∀h' QD,h'.Inst x C (λy=>if y=name then some v else mA y)->
  (∀b o,b≠x->(∀jQ dx,h.get? x=some jQ->jQ.dict=some dx->b≠dx)->h.get? b=some o->h'.get? b=some o)->
  (∀jQ,h.get? x=some jQ->∃wN,h'.get? x=some wN/\wN.cls=jQ.cls/\wN.data=jQ.data/\wN.slots=jQ.slots/\(∀dx,jQ.dict=some dx->wN.dict=some dx)/\(jQ.dict=none->∃dx,wN.dict=some dx/\h.objs.size<=dx))->Q () ⟨h',g,d,QD,os⟩) (hw:Within mA ns) (pd:ns.length<=1000):
 wpAny (model prog w) A (setAttr (.ref x) name v) Q E ⟨h,g,d,t,os⟩:=by
 obtain⟨o,hx,hc,hnc,hd⟩:=id I
 have J:∃od,PySem.W.InstAt h x o C od:=by
  rcases hd with⟨hdn,_⟩|⟨dx,BX,_,oD,es,ep,h1,_⟩
  .exact⟨none,hx,hc,by cases e:o.data<;>simp_all[notCls],by rw[hdn];trivial⟩
  .exact⟨some oD,hx,hc,by cases e:o.data<;>simp_all[notCls],by rw[BX];exact h1⟩
 obtain⟨od,J⟩:=J;refine set_plain (s:=⟨h,g,d,t,os⟩) X J hs ?_;exact Eo PySem.F.store_object.slot.plain PySem.F.store_object.entry (Fe hob hC hx hc (yR Gx X Zx hC I (λh' QD a b c=>hq h' QD a b c) hw pd))
end
structure RK(K:Frag)(C:Y'):Prop where
 obj:∃nm q N bs bm sn sub ab col dd k0 k1 k2 k3 k5,K.lookup C=some (excClassObj nm q C N bs bm true sn sub ab col dd k0 k1 k2 k3 k5 "ValueError.__new__")/\(∀self,refuseLoop self "__setattr__" bm=pure ())/\bm.contains (.type "object")=true
 sa:PySem.W.findIn K (.ref C) "__setattr__"=some (some (.builtin "object.__setattr__"))
section
variable{X:Cx}{ad:aR}{σ:St}{H:Hp}{s:X'}{a C:Y'}{n:Bool}{f:Str}{y:V}{u:W'}{A:aal}{E:V'}
theorem Iv{fs:iS}{mA:Str->aM}(r:∀f,mw (fs.lookup f) (mA f)):PySem.Within mA (fs.map (·.1)):=by
 intro g hg;have:=r g
 cases e:fs.lookup g with
 |none=>rw[e] at this;cases q:mA g with
  |none=>rw[q] at hg;simp at hg
  |some v=>rw[q] at this;cases this
 |some v=>
  obtain⟨l1,l2,h1,_⟩:=E1.mp e;rw[h1];simp
theorem Inv.two{h' :aam}{t' :Nat}{dx:Y'}{o1 o2:HO}{φ:aam->Prop}(I:Inv X ad σ H s)(e:H a=some (.ext φ))(Vd:(∀xs,H dx≠some (.tup xs))/\(∀y,H dx≠some (.own y))/\(∀o u,H dx≠some (.Gj o u))/\∀ps,H dx≠some (.wy ps))(hd2:H dx=none->s.heap.objs.size<=dx)(o8:dx≠a)
 (k:∀b o,b≠a->b≠dx->s.heap.get? b=some o->h'.get? b=some o) (ha:∃o,h'.get? a=some o) (hx:∃o,h'.get? dx=some o)
 (n1:cg X.prog X.w (upd (upd H a o1) dx o2) h' a o1) (n2:cg X.prog X.w (upd (upd H a o1) dx o2) h' dx o2):Inv X ad σ (upd (upd H a o1) dx o2) {s with heap:=h',toks:=t'}:=by
 have na:∀b,H b=none->b≠a:=λb q z=>by rw[z,e] at q;cases q
 have nd:∀b o,s.heap.get? b=some o->H b=none->b≠dx:=λb o q q' z=>by
  subst z;exact absurd (cq (aX q) (hd2 q')) (cn _)
 have Y8:∀b,b≠a->b≠dx->upd (upd H a o1) dx o2 b=H b:=λb h1 h2=>by rw[au h2,au h1]
 refine I.step (g' :=s.gens) (d' :=s.drawn) (ch:=[]) (λ_ z=>nomatch z) (λb o _ _ _ q n=>k b o (na b n) (nd b o q n) q) (λb o _ _ _ q n=>⟨o.slots,k b o (na b n) (nd b o q n) q⟩) (λb o _ q n=>by rw[Y8 b (na b n) (nd b o q n)];exact n)
  (λb o _ q=> ?_) (λb xs q=> ?_) (λb o u q=> ?_) (λb ps q=>⟨#[],?_⟩) (λm hm=> ?_) (λb u q=> ?_) I.bare
 .by_cases h1:b=a
  .rw[h1];exact ha
  .by_cases h2:b=dx
   .rw[h2];exact hx
   .exact⟨o,k b o h1 h2 q⟩
 .rw[Y8 b (λz=>by rw[z,e] at q;cases q) (λz=>Vd.1 xs (by rw[<-z];exact q))];exact q
 .rw[Y8 b (λz=>by rw[z,e] at q;cases q) (λz=>Vd.2.2.1 o u (by rw[<-z];exact q))];exact q
 .rw[Y8 b (λz=>by rw[z,e] at q;cases q) (λz=>Vd.2.2.2 ps (by rw[<-z];exact q)),q];simp
 .obtain⟨o,es,ep,q,r⟩:=hm;exact⟨o,es,ep,k _ o (na _ I.free) (nd _ o q I.free) q,r⟩
 .by_cases h2:b=dx
  .subst h2;rw[aa] at q;cases q;exact n2
  .rw[au h2] at q;by_cases h1:b=a
   .subst h1;rw[aa] at q;cases q;exact n1
   .rw[au h1] at q;refine(I.bM b u q).uD (λc v hc q' =>k c v ?_ ?_ q') (λc q' => ?_) λc ys q' => ?_
    .rcases hc with z|z
     .rw[z];exact h1
     .exact λz' =>by rw[z',e] at z;cases z
    .rcases hc with z|z
     .rw[z];exact h2
     .exact λz' =>Vd.2.1 b (by rw[<-z'];exact z)
    .rw[Y8 c (λz=>by rw[z,e] at q';cases q') (λz=>Vd.2.1 b (by rw[<-z];exact q'))];exact q'
    .rw[Y8 c (λz=>by rw[z,e] at q';cases q') (λz=>Vd.1 ys (by rw[<-z];exact q'))];exact q'
theorem Kq{fs:iS}{mA:Str->aM}(r:∀f,mw (fs.lookup f) (mA f))(ry:RelV y u):∀g,mw ((iP f y fs).lookup g) (if g=f then some u else mA g):=λg=>by
 rw[pJ];by_cases h:g=f
 .rw[ay h,ay h];exact ry
 .rw[aq h,aq h];exact r g
theorem HP{Q:Unit->X'->Prop}(I:Inv X ad σ H s)(e:H a=some (.ext (eM a C none n)))(c:RK X.K C)(na:eE X.K C f)(ry:RelV y u)
 (h:∀dx s',H dx=none->dx≠a->Inv X ad σ (upd (upd H a (.ext (eM a C (some dx) n))) dx (.xd [(f,y)])) s'->Q () s'):wpAny (model X.prog X.w) A (setAttr (.ref a) f u) Q E s:=by
 obtain⟨nm,q,N,bs,bm,sn,sub,ab,col,dd,k0,k1,k2,k3,k5,lk,hp,ho⟩:=c.obj;obtain⟨vs,he,hv,hn⟩:=pW I.bM e;have hC:=I.kZ _ _ lk;have I0:=I;obtain⟨hh,g,d,tk,os⟩:=s;refine CQ (mA:=λ_=>none) (ns:=[]) hp ho I.kZ c.sa na hC ⟨_,he,Z,(λc z=>by cases z),.inl ⟨Z,λ_=>rfl⟩⟩ (λh' QD inst kk same=> ?_) (λg hg=>by simp at hg) (by simp);obtain⟨o1,e1,ec,ed,es,_,afi⟩:=same _ he;obtain⟨dx,ex,BX⟩:=afi rfl;obtain⟨o2,e2,_,_,hd2⟩:=inst;rw[e1] at e2;cases e2;rcases hd2 with⟨z,_⟩|⟨d',Lm,ne',ns'⟩
 .rw[ex] at z;cases z
 rw[ex] at Lm;cases Lm;have Pm:H dx=none:=I0.bM.fresh BX
 have eo:o1={cls:= .ref C,dict:=some dx,data:= .fields vs}:=by
  obtain⟨oc,od,odt,xF⟩:=o1;simp only at ec ed es ex;subst ec ed es ex;rfl
 rw[eo] at e1;refine h dx _ Pm ne' (I0.two (t' :=QD) e ⟨(λxs z=>by rw[Pm] at z;cases z),(λy z=>by rw[Pm] at z;cases z),(λo u z=>by rw[Pm] at z;cases z),(λps z=>by rw[Pm] at z;cases z)⟩ (λ_=>BX) ne' (λb o hb _ q=>kk b o hb (λo0 dx0 h0 h1=>by rw[he] at h0;cases h0;cases h1) q) ⟨_,e1⟩ (let⟨o,_,_,h1,_⟩:=ns';⟨o,h1⟩) (wo ⟨vs,e1,hv,hn⟩) ⟨_,ns',?_⟩);exact Kq (fs:=[]) (λ_=>trivial) ry
theorem IY{dx:Y'}{fs:iS}{Q:Unit->X'->Prop}(I:Inv X ad σ H s)(e:H a=some (.ext (eM a C (some dx) n)))(ed:H dx=some (.xd fs))(o8:dx≠a)(hl:fs.length<=900)(c:RK X.K C)(na:eE X.K C f)(ry:RelV y u)
 (h:∀s',Inv X ad σ (upd H dx (.xd (iP f y fs))) s'->Q () s'):wpAny (model X.prog X.w) A (setAttr (.ref a) f u) Q E s:=by
 obtain⟨nm,q,N,bs,bm,sn,sub,ab,col,dd,k0,k1,k2,k3,k5,lk,hp,ho⟩:=c.obj;obtain⟨vs,he,hv,hn⟩:=pW I.bM e;obtain⟨mA,ns,r⟩:=(show cg X.prog X.w H s.heap dx (.xd fs) from I.bM dx _ ed);have hC:=I.kZ _ _ lk;have I0:=I;obtain⟨hh,g,d,tk,os⟩:=s;refine CQ (mA:=mA) (ns:=fs.map (·.1)) hp ho I.kZ c.sa na hC ⟨_,he,Z,(λc z=>by cases z),.inr ⟨dx,Z,o8,ns⟩⟩ (λh' QD inst kk same=> ?_) (Iv r) (by rw[aG];lia);obtain⟨o1,e1,ec,edt,es,afm,_⟩:=same _ he;have ex:=afm dx rfl;obtain⟨o2,e2,_,_,hd2⟩:=inst;rw[e1] at e2;cases e2;rcases hd2 with⟨z,_⟩|⟨d',Lm,ne',ns'⟩
 .rw[ex] at z;cases z
 rw[ex] at Lm;cases Lm
 have eo:o1={cls:= .ref C,dict:=some dx,data:= .fields vs}:=by
  obtain⟨oc,od,odt,xF⟩:=o1;simp only at ec edt es ex;subst ec edt es ex;rfl
 rw[eo] at e1;have I2:=I0.two (t' :=QD) (o1:= .ext (eM a C (some dx) n)) (o2:= .xd (iP f y fs)) e ⟨(λxs z=>by rw[ed] at z;cases z),(λy z=>by rw[ed] at z;cases z),(λo u z=>by rw[ed] at z;cases z),(λps z=>by rw[ed] at z;cases z)⟩ (λz=>by rw[ed] at z;cases z) o8 (λb o hb v_ q=>kk b o hb (λo0 dx0 h0 h1=>by rw[he] at h0;cases h0;cases h1;exact v_) q) ⟨_,e1⟩ (let⟨o,_,_,h1,_⟩:=ns';⟨o,h1⟩) (wo ⟨vs,e1,hv,hn⟩) ⟨_,ns',Kq r ry⟩;rw[AO e] at I2;exact h _ I2
end
section
variable{X:Cx}{o value:aaa}{f:Str}{pos pos' :Pos}{ta tv:TE}
def Z_(K:Frag)(ta tv:TE)(f:Str):TS:=λD σ H=>tv σ H λy H1=>ta σ H1 λx H2=>∃a C n,x= .ref a/\RK K C/\eE K C f/\
 ((H2 a=some (.ext (eM a C none n))/\∀dx,H2 dx=none->dx≠a->D.nx σ (upd (upd H2 a (.ext (eM a C (some dx) n))) dx (.xd [(f,y)])))\/
  ∃dx fs,H2 a=some (.ext (eM a C (some dx) n))/\H2 dx=some (.xd fs)/\dx≠a/\fs.length<=900/\D.nx σ (upd H2 dx (.xd (iP f y fs))))
theorem nW(ha:PE X o ta)(hv:PE X value tv)(hs:swapsWith value (some (.Attribute o f pos')) pos.line X.env=pure false):PS X (.Assign [.Attribute o f pos'] value pos) (Z_ X.K ta tv f):=by
 intro ad s σ H D I h;refine plainObj_wpAny_Assign_Attribute (cN (hv ad s σ H _ I h) λu s1 ⟨y,H1,I1,ry,q⟩=>cN (ha ad s1 σ H1 _ I1 q) λov s2 ⟨x,H2,I2,rx,a,C,n,ex,c,na,q2⟩=> ?_) hs;subst ex;obtain rfl:ov=Value.ref a:=rx;rcases q2 with⟨e,q3⟩|⟨dx,fs,e,ed,ne,hl,q3⟩
 .exact HP I2 e c na ry λdx s3 hn ne I3=>⟨σ,_,I3,q3 dx hn ne⟩
 .exact IY I2 e ed ne hl c na ry λs3 I3=>⟨σ,_,I3,q3⟩
end
end L2
namespace L2
open PySem PySem.Spec PyProof.Rows PySem.Builtin.ObjectAttr
section
variable{prog:aan}{w:aai}{A:aal}{E:V'}{s:X'}{K:Frag}{x C:Y'}{ox:Obj}{od:Option Obj}{name:Str}{expr:Bool}{Q:V'}{v:W'}
theorem GO(X:K.In s.heap)(I:PySem.W.InstAt s.heap x ox C od)(hga:PySem.W.findIn K (.ref C) "__getattribute__"=some (some (.builtin "BaseException.__getattribute__")))(hhk:PySem.W.findIn K (.ref C) "__getattr__"=some none)
 (hm:PySem.W.mroIn K C (.type "BaseException")=some true) (hf:PySem.W.findObj K C od name=some (.value v)) (hh:handedIn v=true) (h:Q v {s with toks:=s.toks+1}):
 wpAny (model prog w) A (getAttr (.ref x) name expr) Q E s:=by
 have ht:=I.type (M:=model prog w);refine av (wpAny_mkText (jF (av (ht _ _ _ _ (λ_ _ e=>e) (av (looks_findIn X hga _ _ _ _ (λ_ _ e=>e) ?_))))));dsimp only;rw[show(onTheHeap (Value.ref C)&&Value.builtin "BaseException.__getattribute__" ==Value.builtin "object.__getattribute__")=false from by rw[show(Value.builtin "BaseException.__getattribute__" ==Value.builtin "object.__getattribute__")=false from by decide+kernel,Bool.and_false],aq (by decide)];have hb:PySem.W.Looks (model prog w) s.heap (hookBefore (.ref C)) none:=PySem.W.looks_hook X (by show(if onTheHeap (Value.ref C)=true then _ else _)=_;exact hhk);refine av (hb _ _ _ _ (λ_ _ e=>e) (av (wpAny_attempt (jF ?_))));unfold callGetattribute;rw[show(expr&&onTheHeap (Value.builtin "BaseException.__getattribute__"))=false from Bool.and_false _,aq (by decide)];unfold boundAndCalled;rw[PySem.F.attr_ValueError.ga.bind];refine av (aW ?_);show wpAny _ _ (call (.builtin "BaseException.__getattribute__") [.ref x,.str name s.toks]) _ _ _;refine oh ?_;refine Eo PySem.F.attr_ValueError.ga.plain PySem.F.entry_bexc_ga ?_;refine @PySem.W.check_slot (model prog w) _ _ {s with toks:=s.toks+1} "BaseException.__getattribute__" "BaseException" "__getattribute__" (.ref x) [.str name s.toks] [] _ (by decide+kernel) (by decide+kernel) (ht.andThen (PySem.W.looks_mroIn X hm)) (PySem.F.args_bexc_ga (.ref x) (.str name s.toks)) ?_;unfold Builtin.«object.__getattribute__»;refine av (aW ?_);refine av (aW ?_);refine av (ht _ _ _ _ (λ_ _ e=>e) ?_);refine av (PySem.W.looks_find X I hf _ _ _ _ (λ_ _ e=>e) ?_);refine aW ?_;show wpAny _ _ (handedOut v) _ _ _;rw[PySem.W.handedOut_of hh];exact aW h
end
structure ExcG(K:Frag)(C:Y'):Prop where
 ga:PySem.W.findIn K (.ref C) "__getattribute__"=some (some (.builtin "BaseException.__getattribute__"))
 hk:PySem.W.findIn K (.ref C) "__getattr__"=some none
 mro:PySem.W.mroIn K C (.type "BaseException")=some true
 hd:PySem.W.hasDictIn K C=true
section
variable{X:Cx}{e:aaa}{f:Str}{pos:Pos}{ta:TE}
theorem LK{ad:aR}{σ:St}{H:Hp}{s:X'}{a C dx:Y'}{n b:Bool}{fs:iS}{v:V}{A:aal}{E:V'}{Q:V'}(I:Inv X ad σ H s)(e:H a=some (.ext (eM a C (some dx) n)))(ed:H dx=some (.xd fs))
 (c:ExcG X.K C) (na:eE X.K C f) (l:fs.lookup f=some v) (h:∀u s',Inv X ad σ H s'->RelV v u->Q u s'):wpAny (model X.prog X.w) A (getAttr (.ref a) f b) Q E s:=by
 obtain⟨vs,he,_,_⟩:=pW I.bM e;obtain⟨mA,ns,r⟩:=(show cg X.prog X.w H s.heap dx (.xd fs) from I.bM dx _ ed);obtain⟨od,ho,hl⟩:=Dc ns;obtain⟨u,hu,ru⟩:=mw.some_of (v:=v) (o:=mA f) (by rw[<-l];exact r f);exact GO I.kZ ⟨he,Z,Z,ho⟩ c.ga c.hk c.mro (findObj_own c.hd na Z (by rw[hl,hu])) (C2 ru) (h u _ (I.tok _) ru)
def Vn(K:Frag)(ta:TE)(f:Str):TE:=λσ H Q=>ta σ H λx H1=>∃a C dx n fs v,x= .ref a/\H1 a=some (.ext (eM a C (some dx) n))/\H1 dx=some (.xd fs)/\ExcG K C/\eE K C f/\fs.lookup f=some v/\Q v H1
theorem Rv(he:PE X e ta)(hb:attributeBase e f X.env (eval e X.env)=eval e X.env):PE X (.Attribute e f pos) (Vn X.K ta f):=by
 intro ad s σ H Q I h;refine Kb hb (cN (he ad s σ H _ I h) λu s1 ⟨x,H1,I1,rx,a,C,dx,n,fs,v,ex,ea,ed,c,na,l,q⟩=> ?_);subst ex;obtain rfl:u=Value.ref a:=rx;exact LK I1 ea ed c na l λu' s2 I2 ru=>⟨v,H1,I2,ru,q⟩
end
def C9(P:aan)(w:aai):tY:=λouter H s E e s' =>∃(a C:Y') (dd:Option Y') (T:Y') (oe:Obj) (H' :Hp),e= .ref a/\s'.os=s.os/\AllBare s'.gens/\Un (CK outer) [] H H' s.heap s'.heap/\o5 P w H' s'.heap/\
 H' a=some (.ext (eM a C dd false))/\Ms s'.heap a T oe/\H' T=none/\s.heap.objs.size<=T/\E (.ref C) dd H'
def Gg(X:Cx)(ad:aR)(H:Hp)(h:aam)(a:Y'):Prop:=(∃oe vs,h.get? a=some oe/\oe.data= .fields vs/\vs[1]? =some .none)\/∃T oe,Ms h a T oe/\H T=none/\X.fG.heap.objs.size<=T/\∀p∈X.pn++ad,p.1≠T
section
variable{X:Cx}{ad:aR}{σ:St}{H:Hp}{s:X'}{a C:Y'}{dd:Option Y'}{n:Bool}{E:XK}
theorem DL(I:Inv X ad σ H s)(pj:X.stack=X.env::X.outer)(ud:X.env.frame=some X.env.locals)(hex:X.ex=[])(e:H a=some (.ext (eM a C dd n)))(fl:Gg X ad H s.heap a)(q:E (.ref C) dd (upd H a (.ext (eM a C dd false)))){Ex:V'}:
 wpAny (model X.prog X.w) X.A (leaving X.env (.ref a)) (λ_ OU =>C9 X.prog X.w X.outer X.H₀ X.fG E (.ref a) OU) Ex s:=by
 obtain⟨vs,he,hv,hn⟩:=pW I.bM e;have KD:X.A.frames=some (X.env::X.outer):=by rw[<-pj];exact I.ok.frames
 have hl:s.heap.FunFrames X.base (X.env::X.outer):=by rw[<-pj];exact I.stack
 have Fd:∀b∈(X.env::X.outer).filterMap (·.frame),H b=none:=λb hb=>I.u_ b (by rw[pj];exact hb)
 have mem:∀b,b∈(X.env::X.outer).filterMap (·.frame)->b=X.env.locals\/b∈X.fs:=λb hb=>by
  rw[oA,ud] at hb;rcases aN.mp hb with z|z
  .exact .inl z
  .exact .inr z
 have fin:∀(h' :aam) (T T' :Y'),(X.fG.heap.objs.size<=T\/T=a)->(H T=none\/T=a)->s.heap.objs.size<=T'->Ms h' a T' (({cls:= .ref C,dict:=dd,data:= .fields vs}:Obj).mapFields (·.setIfInBounds 1 (.ref T')))->
  (∀b o,b≠a->b≠T->b∉(X.env::X.outer).filterMap (·.frame)->s.heap.get? b=some o->h'.get? b=some o)->(∀b o,b≠a->b≠T->s.heap.get? b=some o->∃sl,h'.get? b=some {o with slots:=sl})->
  C9 X.prog X.w X.outer X.H₀ X.fG E (.ref a) {s with heap:=h'}:=by
  intro h' T T' hT1 hT2 Kw f k1 k2;have abj:H T' =none:=I.bM.fresh Kw;have E8 :∀b,H b=none->b≠a:=λb z z' =>by rw[z',e] at z;cases z
  have old:∀b o,X.fG.heap.get? b=some o->b≠T\/T=a:=λb o z=>by
   rcases hT1 with y|y
   .exact .inl λz' =>absurd (cq (aX z) (by rw[z'];exact y)) (cn _)
   .exact .inr y
  refine⟨a,C,dd,T',_,upd H a (.ext (eM a C dd false)),Z,I.os,I.bare,⟨λb o z z0 hb _=> ?_,λb o z z0 hb _=> ?_,λb o z z0 _=> ?_,λb o z _=> ?_,λb xs z=> ?_,λb o u z=> ?_,λb ps z=> ?_⟩,λb u z=> ?_,aa,f,?_,aL I.sz Kw,q⟩
  .have hx:b∉X.ex:=by rw[hex];simp
   have g:=I.base.keep b o z z0 hb hx;have g0:=I.base.free b o z z0 hx;refine k1 b o (E8 b g0) ?_ (λhm=> ?_) g
   .rcases old b o z with y|y
    .exact y
    .rw[y];exact E8 b g0
   .rcases mem b hm with y|y
    .exact absurd (cq (aX z) (by rw[y];exact I.ok.above)) (cn _)
    .exact hb y
  .have hx:b∉X.ex:=by rw[hex];simp
   obtain⟨sl,g⟩:=I.base.slot b o z z0 hb hx;have g0:=I.base.free b o z z0 hx
   obtain⟨sl',g'⟩:=k2 b _ (E8 b g0) (by
    rcases old b o z with y|y
    .exact y
    .rw[y];exact E8 b g0) g
   exact⟨sl',g'⟩
  .have hx:b∉X.ex:=by rw[hex];simp
   have g0:=I.base.free b o z z0 hx;rw[au (E8 b g0)];exact g0
  .have hx:b∉X.ex:=by rw[hex];simp
   obtain⟨o',g⟩:=I.base.there b o z hx;by_cases Qu:b=a
   .rw[Qu];exact⟨_,f.at_⟩
   .by_cases Ja:b=T
    .rcases old b o z with y|y
     .exact absurd Ja y
     .exact absurd (Ja.trans y) Qu
    .obtain⟨sl,g'⟩:=k2 b o' Qu Ja g;exact⟨_,g'⟩
  .have g:=I.base.B_ b xs z;rw[au (λy=>by rw[y,e] at g;cases g)];exact g
  .have g:=I.base.zZ b o u z;rw[au (λy=>by rw[y,e] at g;cases g)];exact g
  .obtain⟨more,g⟩:=I.base.Bu b ps z;refine⟨more,?_⟩;rw[au (λy=>by rw[y,e] at g;cases g)];exact g
  .by_cases hb:b=a
   .subst hb;rw[aa] at z;cases z;exact wo ⟨_,f.at_,by simp[hv],λy=>nomatch y⟩
   .rw[au hb] at z;have Oq:∀c u',H c=some u'->c∉(X.env::X.outer).filterMap (·.frame):=λc u' y hm=>by rw[Fd c hm] at y;cases y
    have PK:∀c u',c≠a->H c=some u'->c≠T:=λc u' ya y y' =>by
     rcases hT2 with t|t
     .rw[y',t] at y;cases y
     .exact ya (y'.trans t)
    refine(I.bM b u z).uD (λc v hc y=> ?_) (λc y=> ?_) λc ys y=> ?_
    .rcases hc with y' |y'
     .subst y';exact k1 c v hb (PK c u hb z) (Oq c u z) y
     .have hca:c≠a:=λw' =>by rw[w',e] at y';cases y'
      exact k1 c v hca (PK c _ hca y') (Oq c _ y') y
    .rw[au (λw' =>by rw[w',e] at y;cases y)];exact y
    .rw[au (λw' =>by rw[w',e] at y;cases y)];exact y
  .rw[au (E8 _ abj)];exact abj
 rcases fl with⟨oe,vs',h1,h2,h3⟩|⟨T,oe,f,hT0,hT,_⟩
 .rw[he] at h1;cases h1;cases h2;refine GD (base:=X.base) KD hl ud he Z h3 λh' T' Kw f k1 k2=>fin h' a T' (.inr Z) (.inr Z) Kw f (λb o hb _ hf g=>k1 b o hb hf g) (λb o hb _ g=>k2 b o hb g)
 .have X_:oe={cls:= .ref C,dict:=dd,data:= .fields vs}:=by
   have:=f.at_;rw[he] at this;cases this;rfl
  subst X_;refine Jl (base:=X.base) KD hl ud f λh' T' Kw f' k1 k2=>fin h' T T' (.inl hT) (.inl hT0) Kw f' k1 k2
theorem Lf{e:W'}{s' :X'}(I:Inv X ad σ H s)(h:C9 X.prog X.w X.stack H s E e s'):∃(a C:Y') (dd:Option Y') (H' :Hp),e= .ref a/\Inv X ad σ H' s'/\H' a=some (.ext (eM a C dd false))/\Gg X ad H' s'.heap a/\E (.ref C) dd H' :=by
 obtain⟨a,C,dd,T,oe,H',rfl,os,bare,un,bM,ea,f,hT,Zc,q⟩:=h;exact⟨a,C,dd,H',Z,I.U0 os un bM bare (λb z=>absurd z (by simp)),ea,.inr ⟨T,oe,f,hT,aL I.sz Zc,λp hp z=>absurd (cq (aX (I.pin p hp).1) (by rw[z];exact Zc)) (cn _)⟩,q⟩
end
section
variable{M:Model}{A:aal}{E:V'}{env:Env}
variable{nm q:Str}{C N:Y'}{bs bm:aE}{iQ:Bool}{sn:aj}{sub:aE}{ab:Bool}{col:Option Bool}{dd:Option Y'}{k0 k1 k2 k3 k5:aM}{newId:String}
theorem mE{s:X'}{x:Sem W'}{Q:Flow->X'->Prop}(hh:A.handled=none)
 (h:wpAny M A x (λv bP=>∃(e C N:Y') (de:Option Y') (vs:Array W') (nm q:Str) (bs bm:aE) (iQ:Bool) (sn:aj) (sub:aE) (ab:Bool) (col:Option Bool) (dd:Option Y') (k0 k1 k2 k3 k5:aM),v= .ref e/\bP.heap.get? C=some (excClassObj nm q C N bs bm iQ sn sub ab col dd k0 k1 k2 k3 k5 "ValueError.__new__")/\bm.contains (.type "BaseException")=true/\
  bP.heap.get? e=some {cls:= .ref C,dict:=de,data:= .fields vs}/\vs[1]? =some .none/\E (.ref e) bP) E s):
 wpAny M A (raiseStmt env (some x) none) Q E s:=by
 unfold raiseStmt;refine av (fM h (λv bP h₁=> ?_) λ_ _ x=>x);obtain⟨e,C,N,de,vs,nm,q,bs,bm,iQ,sn,sub,ab,col,dd,k0,k1,k2,k3,k5,rfl,hC,BP,he,h1,hE⟩:=h₁;have RS:(Value.ref C::bm).contains (.type "BaseException")=true:=by rw[pz,BP,qS]
 obtain⟨hp,g,d,tk,os⟩:=bP
 repeat (first|with_reducible refine i5 he ?_|with_reducible refine cP he rfl h1 ?_|with_reducible refine i5 hC ?_|(with_reducible refine qr hC ?_;rw[RS])|wp_step)
 exact wpAny_raiseNew_none hh hE
end
section
variable{X:Cx}{e:aaa}{pos:Pos}{t:TE}{E:XK}
def OV(K:Frag)(E:XK)(t:TE):TS:=λ_ σ H=>t σ H λv H1=>∃a C dd,v= .ref a/\H1 a=some (.ext (eM a C dd true))/\ExcC K C/\E (.ref C) dd (upd H1 a (.ext (eM a C dd false)))
def DA(X:Cx)(E:XK):Prop:=∀(ad:aR) (σ:St) (H:Hp) (s:X') (a C:Y') (dd:Option Y') (n:Bool),Inv X ad σ H s->H a=some (.ext (eM a C dd n))->Gg X ad H s.heap a->E (.ref C) dd (upd H a (.ext (eM a C dd false)))->X.xe (.ref a) s
theorem kJ(hc:X.calm=true)(hw:DA X E)(he:PE X e t):PS X (.Raise (some e) none pos) (OV X.K E t):=by
 intro ad s σ H D I h;rw[arm_exec_Raise]
 have key:wpAny (model X.prog X.w) X.A (do let v<-eval e X.env;standAt pos;pure v) (λv bP=>∃(e C N:Y') (de:Option Y') (vs:Array W') (nm q:Str) (bs bm:aE) (iQ:Bool) (sn:aj) (sub:aE) (ab:Bool) (col:Option Bool) (dd:Option Y') (k0 k1 k2 k3 k5:aM),v= .ref e/\bP.heap.get? C=some (excClassObj nm q C N bs bm iQ sn sub ab col dd k0 k1 k2 k3 k5 "ValueError.__new__")/\bm.contains (.type "BaseException")=true/\
  bP.heap.get? e=some {cls:= .ref C,dict:=de,data:= .fields vs}/\vs[1]? =some .none/\X.xe (.ref e) bP) X.xe s:=by
  refine av (cN (he ad s σ H _ I h) λu s1 ⟨v,H1,I1,r1,a,C,dd,ev,ea,c,q⟩=> ?_);subst ev;obtain rfl:u=Value.ref a:=r1;refine av (qq (aW ?_));obtain⟨nm,q',N,bs,bm,iQ,sn,sub,ab,col,XW,k0,k1,k2,k3,k5,lk,T⟩:=c.obj;obtain⟨vs,hea,hv,hn⟩:=pW I1.bM ea;exact⟨a,C,N,dd,vs,nm,q',bs,bm,iQ,sn,sub,ab,col,XW,k0,k1,k2,k3,k5,Z,I1.kZ _ _ lk,T.hasBase,hea,hn Z,hw ad σ H1 s1 a C dd true I1 ea (.inl ⟨_,vs,hea,Z,hn Z⟩) q⟩
 first
  |exact av (qq (mE (I.ok.hd hc) key))
  |(simp only[evalOpt,Option.map];exact av (qq (mE (I.ok.hd hc) key)))
  |(show wpAny _ _ (do standAt pos;raiseStmt X.env (some (do let v<-eval e X.env;standAt pos;pure v)) none) _ _ s;exact av (qq (mE (I.ok.hd hc) key)))
theorem j6(hw:DA X E)(pj:True):wn (C9 X.prog X.w) X E:=by
 intro ad σ H s e s' I h;obtain⟨a,C,dd,H',rfl,I',ea,fl,q⟩:=Lf I h;refine hw ad σ H' s' a C dd false I' ea fl ?_;rw[AO ea];exact q
end
theorem eZ{P:aan}{w:aai}{K:Frag}{mg:Str->aM}{base:aam}{N:aj}{qual:Str}{scope:Scope}{f:Y'}{cd:W'}{A:aal}{outer:List Env}{s:X'}{H:Hp}{E:XK}
 (ud:(envOfC qual scope s.heap.objs.size f cd).frame=some s.heap.objs.size:=by rfl):DA (mQ (C9 P w) P w K mg base N qual scope f cd A outer s H E) E:=by
 intro ad σ H1 s1 a C dd n I ea fl q;exact DL I Z ud Z ea fl q
section
variable{M:Model}{A:aal}{E:V'}{s:X'}
theorem IM{base:aam}{env:Env}{outer:List Env}{L e:Y'}{oe:Obj}{vs:Array W'}{Q:Unit->X'->Prop}
 (ud:A.frames=some (env::outer)) (hl:s.heap.FunFrames base (env::outer)) (hf:env.frame=some L)
 (he:s.heap.get? e=some oe) (hd:oe.data= .fields vs) (h1:vs[1]? =some .none)
 (h:∀h' T,s.heap.objs.size<=T->Ms h' e T (oe.mapFields (·.setIfInBounds 1 (.ref T)))->(∀b o,b≠e->b∉(env::outer).filterMap (·.frame)->s.heap.get? b=some o->h'.get? b=some o)->
  (∀b o,b≠e->s.heap.get? b=some o->∃sl,h'.get? b=some {o with slots:=sl})->Q () {s with heap:=h'}):wpAny M A (noteFrame (.ref e) env) (λ_ s' =>wpAny M A (setFlight (.ref e) none) Q E s') E s:=by
 unfold noteFrame;simp only[hf];refine av (cP he hd h1 ?_);rw[aq (by decide)];exact rB ud hl hf he hd (tM.mp h1).1 h
theorem L5{base:aam}{env:Env}{outer:List Env}{L e T:Y'}{oe:Obj}{Q:Unit->X'->Prop}
 (ud:A.frames=some (env::outer)) (hl:s.heap.FunFrames base (env::outer)) (hf:env.frame=some L) (ht:Ms s.heap e T oe)
 (h:∀h' T',s.heap.objs.size<=T'->Ms h' e T' (oe.mapFields (·.setIfInBounds 1 (.ref T')))->(∀b o,b≠e->b≠T->b∉(env::outer).filterMap (·.frame)->s.heap.get? b=some o->h'.get? b=some o)->
  (∀b o,b≠e->b≠T->s.heap.get? b=some o->∃sl,h'.get? b=some {o with slots:=sl})->Q () {s with heap:=h'}):wpAny M A (noteFrame (.ref e) env) (λ_ s' =>wpAny M A (setFlight (.ref e) none) Q E s') E s:=by
 obtain⟨he,⟨vs,hd,h1⟩,P7,oT,ts,hT,lJ,h3⟩:=ht;unfold noteFrame;simp only[hf];refine av (cP he hd h1 ?_);rw[ay (show(Value.ref T !=Value.none)=true from by simp)];refine av (cP hT lJ h3 ?_);rw[aq (show ¬((Value.none==rawInt L)=true) from by simp[rawInt])];refine av (oB hT lJ (tM.mp h3).1 ?_);have other:∀b,b≠T->(s.heap.update T (Obj.mapFields (·.setIfInBounds 3 Value.none))).get? b=s.heap.get? b:=λb hb=>fY _ _ (b7 hb)
 have BC:∀b o,s.heap.get? b=some o->(∀vs,o.data≠.fields vs)->b≠T:=λb o hb QN q=>by
  rw[q,hT] at hb;injection hb with hb;subst hb;exact QN ts lJ
 refine rB ud (hl.of_keeps λb o hb QN=>⟨o,(other b (BC b o hb QN)).trans hb,Z⟩) hf ((other e (b7 P7)).trans he) hd (tM.mp h1).1
  λh' T' hn fl k1 k2=>h h' T' ?_ fl (λb o BW Ja YL hb=>k1 b o BW YL ((other b Ja).trans hb)) λb o BW Ja hb=>k2 b o BW ((other b Ja).trans hb)
 have LI :(s.heap.update T (Obj.mapFields (·.setIfInBounds 3 Value.none))).objs.size<=T' :=hn;rw[Heap.size_after_update] at LI;exact LI
end
structure Mz(X:Cx)(ad:aR)(H:Hp)(h:aam)(a T:Y'):Prop where
 fly:∃oe,Ms h a T oe
 no:H T=none
 young:X.fG.heap.objs.size<=T
 pin:∀p∈X.pn++ad,p.1≠T
section
variable{X:Cx}{ad:aR}{σ:St}{H:Hp}{s:X'}{a C:Y'}{dd:Option Y'}{n:Bool}
theorem Inv.Ve{h' :aam}{T T' :Y'}{vs:Array W'}(I:Inv X ad σ H s)(pj:X.stack=X.env::X.outer)(ud:X.env.frame=some X.env.locals)(e:H a=some (.ext (eM a C dd n)))(hv:vs.size=6)
 (hT:T=a\/(H T=none/\X.fG.heap.objs.size<=T/\(∀p∈X.pn++ad,p.1≠T)/\∃oT ts,s.heap.get? T=some oT/\oT.data= .fields ts)) (he:h'.get? a=some {cls:= .ref C,dict:=dd,data:= .fields vs})
 (k1:∀b o,b≠a->b≠T->b∉(X.env::X.outer).filterMap (·.frame)->s.heap.get? b=some o->h'.get? b=some o) (k2:∀b o,b≠a->b≠T->s.heap.get? b=some o->∃sl,h'.get? b=some {o with slots:=sl}):
 Inv X ad σ (upd H a (.ext (eM a C dd false))) {s with heap:=h'}:=by
 have Fd:∀b∈(X.env::X.outer).filterMap (·.frame),H b=none:=λb hb=>I.u_ b (by rw[pj];exact hb)
 have mem:∀b,b∈(X.env::X.outer).filterMap (·.frame)->b=X.env.locals\/b∈X.fs:=λb hb=>by
  rw[oA,ud] at hb;rcases aN.mp hb with z|z
  .exact .inl z
  .exact .inr z
 have E8 :∀b,H b=none->b≠a:=λb z z' =>by rw[z',e] at z;cases z
 obtain⟨m0,⟨oL,esL,epL,hL,Qz,rL⟩,_⟩:=id I.loc
 have LT:X.env.locals≠T:=λz=>by
  rcases hT with y|⟨_,_,_,oT,ts,g1,g2⟩
  .exact E8 _ I.free (z.trans y)
  .rw[z,g1] at hL;cases hL;rw[g2] at Qz;cases Qz
 have chT:∀b,b∉(if T=a then[] else[T]:bh)->b≠a->b≠T:=λb hb Qu z=>by
  by_cases Zu:T=a
  .exact Qu (z.trans Zu)
  .rw[aq Zu] at hb;exact hb (by rw[z];simp)
 refine I.step (g' :=s.gens) (t' :=s.toks) (d' :=s.drawn) (ch:=if T=a then[] else[T]) (λb hb=> ?_) (λb o hbL YL hc q z=>k1 b o (E8 b z) (chT b hc (E8 b z)) (λhm=>(mem b hm).elim hbL YL) q) (λb o _ _ hc q z=>k2 b o (E8 b z) (chT b hc (E8 b z)) q)
  (λb o _ q z=>by rw[au (E8 b z)];exact z) (λb o hc q=> ?_) (λb xs z=> ?_) (λb o u z=> ?_) (λb ps z=>⟨#[],?_⟩) (λm hm=> ?_) (λb u z=> ?_) I.bare
 .by_cases Zu:T=a
  .rw[ay Zu] at hb;cases hb
  .rw[aq Zu] at hb;have hb:b=T:=by simpa using hb
   subst hb;rcases hT with y|⟨g0,g1,g2,oT,ts,g3,g4⟩
   .exact absurd y Zu
   .refine⟨.inr g1,b7 LT,λx c q z=> ?_,g2⟩;obtain⟨v,o,ho,hd⟩:=I.cell x c q;rw[z,g3] at ho;cases ho;rw[g4] at hd;cases hd
 .by_cases Qu:b=a
  .rw[Qu];exact⟨_,he⟩
  .obtain⟨sl,g⟩:=k2 b o Qu (chT b hc Qu) q;exact⟨_,g⟩
 .rw[au (λy=>by rw[y,e] at z;cases z)];exact z
 .rw[au (λy=>by rw[y,e] at z;cases z)];exact z
 .rw[au (λy=>by rw[y,e] at z;cases z),z];simp
 .obtain⟨o,es,ep,q,hd,r⟩:=hm;obtain⟨sl,g⟩:=k2 _ o (E8 _ I.free) LT q;exact⟨_,es,ep,g,hd,r⟩
 .by_cases hb:b=a
  .subst hb;rw[aa] at z;cases z;exact wo ⟨vs,he,hv,λy=>nomatch y⟩
  .rw[au hb] at z;have Oq:∀c u',H c=some u'->c∉(X.env::X.outer).filterMap (·.frame):=λc u' y hm=>by rw[Fd c hm] at y;cases y
   have PK:∀c u',c≠a->H c=some u'->c≠T:=λc u' ya y y' =>by
    rcases hT with t|⟨t,_⟩
    .exact ya (y'.trans t)
    .rw[y',t] at y;cases y
   refine(I.bM b u z).uD (λc v hc y=> ?_) (λc y=> ?_) λc ys y=> ?_
   .rcases hc with y' |y'
    .subst y';exact k1 c v hb (PK c u hb z) (Oq c u z) y
    .have hca:c≠a:=λw' =>by rw[w',e] at y';cases y'
     exact k1 c v hca (PK c _ hca y') (Oq c _ y') y
   .rw[au (λw' =>by rw[w',e] at y;cases y)];exact y
   .rw[au (λw' =>by rw[w',e] at y;cases y)];exact y
theorem Mn{M:Model}{E:V'}{Q:Unit->X'->Prop}(I:Inv X ad σ H s)(pj:X.stack=X.env::X.outer)(ud:X.env.frame=some X.env.locals)(e:H a=some (.ext (eM a C dd n)))(fl:Gg X ad H s.heap a)
 (h:∀s' T,Inv X ad σ (upd H a (.ext (eM a C dd false))) s'->Mz X ad (upd H a (.ext (eM a C dd false))) s'.heap a T->Q () s'):
 wpAny M X.A (noteFrame (.ref a) X.env) (λ_ s' =>wpAny M X.A (setFlight (.ref a) none) Q E s') E s:=by
 obtain⟨vs,he,hv,hn⟩:=pW I.bM e;have KD:X.A.frames=some (X.env::X.outer):=by rw[<-pj];exact I.ok.frames
 have hl:s.heap.FunFrames X.base (X.env::X.outer):=by rw[<-pj];exact I.stack
 have E8 :∀b,H b=none->b≠a:=λb z z' =>by rw[z',e] at z;cases z
 have hold:∀{h' :aam} {T' :Y'} {oe:Obj},s.heap.objs.size<=T'->Ms h' a T' oe->Mz X ad (upd H a (.ext (eM a C dd false))) h' a T' :=λ{h' T' oe} hT f=>
  ⟨⟨oe,f⟩,by rw[au (E8 _ (I.bM.fresh hT))];exact I.bM.fresh hT,aL I.sz hT,λp hp z=>absurd (cq (aX (I.pin p hp).1) (by rw[z];exact hT)) (cn _)⟩
 rcases fl with⟨oe,vs',h1,h2,h3⟩|⟨T,oe,f,hT0,hT,hTp⟩
 .rw[he] at h1;cases h1;cases h2;exact IM (base:=X.base) KD hl ud he Z h3 λh' T' Kw f k1 k2=>h _ T' (I.Ve (vs:=vs.setIfInBounds 1 (.ref T')) (T:=a) (T' :=T') pj ud e (by simp[hv]) (.inl Z) f.at_ (λb o hb _ hf g=>k1 b o hb hf g) λb o hb _ g=>k2 b o hb g) (hold Kw f)
 .have X_:oe={cls:= .ref C,dict:=dd,data:= .fields vs}:=by
   have:=f.at_;rw[he] at this;cases this;rfl
  subst X_;obtain⟨oT,ts,g1,g2,_⟩:=f.tr;exact L5 (base:=X.base) KD hl ud f λh' T' Kw f' k1 k2=>h _ T' (I.Ve (vs:=vs.setIfInBounds 1 (.ref T')) (T:=T) (T' :=T') pj ud e (by simp[hv]) (.inr ⟨hT0,hT,hTp,oT,ts,g1,g2⟩) f'.at_ k1 k2) (hold Kw f')
end
section
variable{X:Cx}{ad:aR}{σ:St}{H:Hp}{s:X'}{a T:Y'}
noncomputable abbrev Cx.Bm(X:Cx)(a:Y')(E:V'):Cx:={X with A:=X.A.mark (some (.ref a)),calm:=false,xe:=E}
theorem Inv.Bm(I:Inv X ad σ H s)(a:Y')(E:V'):Inv (X.Bm a E) ad σ H s:=
 ⟨⟨I.ok.mod,I.ok.kind,I.ok.glob,I.ok.blt,I.ok.above,I.ok.inj,I.ok.has,I.ok.Vw,(λz=>nomatch z),I.ok.frames,I.ok.Qd,I.ok.exf,I.ok.bs,I.ok.LF,I.ok.Ik,I.ok.Ma,I.ok.rR,I.ok.P8⟩,I.os,I.bare,I.base,I.loc,I.cell,I.free,I.jA,I.pin,I.bM,I.len⟩
theorem Inv.Fb{E:V'}(ok:X.Ok)(I:Inv (X.Bm a E) ad σ H s):Inv X ad σ H s:=⟨ok,I.os,I.bare,I.base,I.loc,I.cell,I.free,I.jA,I.pin,I.bM,I.len⟩
noncomputable abbrev Cx.pinned(X:Cx)(pn:aR)(E:V'):Cx:={X with pn:=X.pn++pn,xe:=E}
theorem Inv.OP(I:Inv X ad σ H s)(E:V'):Inv (X.pinned ad E) [] σ H s:=
 ⟨⟨I.ok.mod,I.ok.kind,I.ok.glob,I.ok.blt,I.ok.above,I.ok.inj,I.ok.has,I.ok.Vw,I.ok.hd,I.ok.frames,I.ok.Qd,I.ok.exf,I.ok.bs,I.ok.LF,I.ok.Ik,I.ok.Ma,I.ok.rR,I.ok.P8⟩,I.os,I.bare,I.base,I.loc,I.cell,I.free,I.jA,λp hp=>I.pin p (by simpa using hp),I.bM,I.len⟩
theorem Inv.ofPinned{E:V'}{HD :aR}(ok:X.Ok)(I:Inv (X.pinned ad E) HD σ H s):Inv X ad σ H s:=
 ⟨ok,I.os,I.bare,I.base,I.loc,I.cell,I.free,I.jA,λp hp=>I.pin p (eJ _ hp),I.bM,I.len⟩
theorem Inv.Qp{h' :aam}{t' i:Nat}{x:Str}{u:aM}{m:Str->aM}(I:Inv X ad σ H s)(hN:X.N.Nodup)(hi:X.N[i]? =some x)(hm:s.heap.Ns X.env.locals m)(hn:h'.Ns X.env.locals (λy=>if y=x then u else m y))(sb:Heap.SameBut X.env.locals s.heap h'):
 Inv X ad (σ.set i none) H {s with heap:=h',toks:=t'}:=by
 have old:∀b o,X.fG.heap.get? b=some o->b≠X.env.locals:=λb o q z=>absurd (cq (aX q) (by rw[z];exact I.ok.above)) (cn _);have abJ:=I.free;refine⟨I.ok,I.os,I.bare,⟨λb o q z hb hx=> ?_,λb o q z hb hx=> ?_,I.base.free,λb o q hx=> ?_,I.base.B_,I.base.zZ,I.base.Bu⟩,⟨_,hn,λj y v e1 e2 e3=> ?_⟩,λy c q=> ?_,I.free,I.jA,λp hp=> ?_,λb o q=> ?_,?_⟩
 .exact(sb.2 b (old b o q)).trans (I.base.keep b o q z hb hx)
 .obtain⟨sl,g⟩:=I.base.slot b o q z hb hx;exact⟨sl,(sb.2 b (old b o q)).trans g⟩
 .obtain⟨o',g⟩:=I.base.there b o q hx;exact⟨o',(sb.2 b (old b o q)).trans g⟩
 .have hj:j≠i:=λz=>by
   subst z;by_cases hl:j<σ.length
   .rw[Fp hl] at e2;cases e2
   .rw[jI (by rw[FC];lia)] at e2;cases e2
  rw[zd (b7 hj)] at e2;obtain⟨m0,hm0,hl⟩:=I.loc;obtain⟨w',M5,lk⟩:=hl j y v e1 e2 e3
  have hyx:y≠x:=λz=>by
   subst z;have h1:=(dE.mp e1).1;exact hj ((List.getElem?_inj h1 hN).mp (e1.trans hi.symm))
  refine⟨w',M5,?_⟩;rcases lk with⟨k1,k2⟩|⟨k1,c,k2,k3⟩
  .refine .inl ⟨k1,?_⟩;dsimp only;rw[aq hyx,show m=m0 from(Heap.Ns.eq_nsMap hm).trans (Heap.Ns.eq_nsMap hm0).symm];exact k2
  .refine .inr ⟨k1,c,k2,?_⟩;obtain⟨o,g1,g2⟩:=k3;exact⟨o,(sb.2 c (I.P4 y c k2)).trans g1,g2⟩
 .obtain⟨v,o,g1,g2⟩:=I.cell y c q;exact⟨v,o,(sb.2 c (I.P4 y c q)).trans g1,g2⟩
 .obtain⟨g1,g2,g3,g4⟩:=I.pin p hp;exact⟨(sb.2 p.1 g3).trans g1,g2,g3,g4⟩
 .refine(I.bM b o q).uD (λc v hc g=>(sb.2 c ?_).trans g) (λ_ g=>g) λ_ _ g=>g;rcases hc with z|z
  .rw[z];exact λz' =>by rw[z',abJ] at q;cases q
  .exact λz' =>by rw[z',abJ] at z;cases z
 .rw[FC];exact I.len
theorem LH{M:Model}{A:aal}{E:V'}{Q:Unit->X'->Prop}(I:Inv X ad σ H s)(hd:Mz X ad H s.heap a T)(h:∀s',Inv X ad σ H s'->Mz X ad H s'.heap a T->Q () s'):
 wpAny M A (setFlight (.ref a) none) Q E s:=by
 obtain⟨⟨oe,he,⟨vs,hdv,h1⟩,ne,oT,ts,hT,lJ,h3⟩,h0,hy,hp⟩:=hd;have pd:3<ts.size:=(tM.mp h3).1;refine wpAny_setFlight_none he hdv h1 hT lJ pd ?_;obtain⟨m0,⟨oL,esL,epL,hL,Qz,rL⟩,_⟩:=id I.loc;have LT:T≠X.env.locals:=λz=>by rw[<-z,hT] at hL;cases hL;rw[lJ] at Qz;cases Qz
 have I1:Inv X ad σ H {s with heap:=s.heap.update T (Obj.mapFields (·.setIfInBounds 3 .none))}:=I.turned (t' :=s.toks) (λb o hb q=>by rw[fY _ _ (b7 hb)];exact q) h0 LT (.inr hy)
  (λx c q z=>by obtain⟨v,o,ho,hd⟩:=I.cell x c q;rw[z,hT] at ho;cases ho;rw[lJ] at hd;cases hd) hp
 refine h _ I1 ⟨⟨oe,by show(s.heap.update T _).get? a=_;rw[fY _ _ ne];exact he,⟨vs,hdv,h1⟩,ne,_,_,kP _ hT (zi (tL lJ _)),tL lJ _,by simp[pd]⟩,h0,hy,hp⟩
end
section
variable{M:Model}{A:aal}{E:V'}
end
structure Under(K:Frag)(C D:Y'):Prop where
 ex:∃nm q N bs bm iQ sn sub ab col dd k0 k1 k2 k3 k5 i,K.lookup C=some (excClassObj nm q C N bs bm iQ sn sub ab col dd k0 k1 k2 k3 k5 i)/\(Value.ref C::bm).contains (.ref D)=true
section
variable{X:Cx}{body Gn:List Stmt}{b0:Stmt}{rest:List ExceptHandler}{c nm:Str}{cp Gr pos:Pos}{tb:XK->TS}{th:TS}{i:Nat}{D:Y'}
noncomputable def Jz(i:Nat)(D:Ends):Ends where
 nx:=λσ H=>D.nx (σ.set i none) H
 rt:=D.rt
 bk:=λσ H=>D.bk (σ.set i none) H
 ct:=λσ H=>D.ct (σ.set i none) H
end
section
variable{P:aan}{w:aai}{K:Frag}{mg:Str->aM}{base:aam}
theorem Gm.okX{x qual:Str}{st:Stmt}{f:Y'}{fd:aap}{N ps:aj}{k:Nat}{sp:Sp}(F:Gm K x qual st f fd)(S:aC N ps (ao st))(len:∀vs H Q E,sp vs H Q E->vs.length=ps.length)
 (gI:∀(cC:W') (A:aal) (outer:List Env) (s:X') (H:Hp) (vs:ak) (Q:VK) (E:XK),dQ k (A.deeper (envOfC qual (ao st) s.heap.objs.size f cC))->sp vs H Q E->
  ∃t,DE (mQ (C9 P w) P w K mg base N qual (ao st) f cC A outer s H E) (dr st) t/\t {nx:=λ_ H' =>Q .bV H',rt:=Q} (start N vs) H):aQ P w K mg base (C9 P w) (k+1) f fd ps sp:=by
 obtain⟨oc,od,kV,doc,pm,an,cC,ct,xF,rfl,lk,AG⟩:=F.ex;exact JP lk AG S len λA outer s H vs Q E hr DW=>gI cC A outer s H vs Q E hr DW
end
variable{X:Cx}
theorem sq:Xg X "str.startswith" (λx vs H Q=>∃a b,x= .str a/\vs=[.str b]/\Q (.bl (Txt.startswith a b)) H):=by
 intro ad s σ H x vs v us Q I rx rv h;obtain⟨a,b,rfl,rfl,q⟩:=h;obtain⟨t,rfl⟩:=rx;obtain⟨u,rfl,t',rfl⟩:=rv.one;exact SC.startswith ⟨.bl _,H,I,Z,q⟩
theorem Dq:∀(l:List (Str×Tok)),Vals ((l.map (·.1)).map V.str) (strValues l)
 |[]=> .nil
 |p::r=> .cons ⟨_,Z⟩ (Dq r)
theorem GJ:Xg X "str.split" (λx vs H Q=>∃a b,x= .str a/\vs=[.str b]/\a.length<=sizeLine/\(b.length==0)=false/\(Builtin.Str.partsBetween a (Builtin.Str.occurrences a b 0 a.length (a.length+1)) b.length).length<=sizeLine/\
 ∀l,H l=none->Q (.ref l) (upd H l (.lst ((Txt.split a b).map V.str)))):=by
 intro ad s σ H x vs v us Q I rx rv h;obtain⟨a,b,rfl,rfl,ha,hb,hp,q⟩:=h;obtain⟨t,rfl⟩:=rx;obtain⟨u,rfl,t',rfl⟩:=rv.one
 have fin:∀(l:List (Str×Tok)) (k:Nat),l.map (·.1)=Txt.split a b->l.length<=sizeLine->EP X ad σ Q (.ref s.heap.objs.size) {s with heap:=s.heap.push {cls:= .type "list",data:= .seq (strValues l).toArray},toks:=k}:=λl k e hl=>by
  have hv:=Dq l;rw[e] at hv;have hz:((Txt.split a b).map V.str).length<=sizeLine:=by rw[aG,<-e,aG];exact hl
  exact⟨.ref _,_,I.RM hv hz,Z,q _ I.fresh⟩
 cases h1:(decide (a.length<b.length)||decide (Builtin.Str.strKind a<Builtin.Str.strKind b))
 .cases hf:(Builtin.Str.occurrences a b 0 a.length (a.length+1)).isEmpty
  .refine iU vT (qV _ _ _) F.entry_str_split (Ef _ _) (meets_str_split_sep a b t t' h1 hb hf ha hp) ?_;show EP X ad σ Q (.ref s.heap.objs.size) {s with heap:=s.heap.push {cls:= .type "list",data:= .seq (strsFrom s.toks (Builtin.Str.partsBetween a (Builtin.Str.occurrences a b 0 a.length (a.length+1)) b.length)).toArray},toks:=_};rw[strsFrom_eq];have e:(numbered s.toks (Builtin.Str.partsBetween a (Builtin.Str.occurrences a b 0 a.length (a.length+1)) b.length)).map (·.1)=Txt.split a b:=(numbered_texts _ _).trans ((aq (Ec h1)).trans (aq (Ec hf))).symm;refine fin _ _ e ?_;have:=congrArg List.length (numbered_texts s.toks (Builtin.Str.partsBetween a (Builtin.Str.occurrences a b 0 a.length (a.length+1)) b.length));rw[aG] at this
   lia
  .exact iU vT (qV _ _ _) F.entry_str_split (Ef _ _) (meets_str_split_not_found a b t t' h1 hb hf)
    (fin [(a,t)] _ ((aq (Ec h1)).trans (ay hf)).symm (by show 1<=16777216;decide))
 .exact iU vT (qV _ _ _) F.entry_str_split (Ef _ _) (meets_str_split_cannot_occur a b t t' h1)
   (fin [(a,t)] _ (ay h1).symm (by show 1<=16777216;decide))
theorem C4:∀{xs:aj} {us:aE},Vals (xs.map V.str) us->∃l:List (Str×Tok),us=strValues l/\l.map (·.1)=xs
 |[],_,.nil=>⟨[],Z,Z⟩
 |x::xs,_,.cons ⟨t,e⟩ r=>by
  obtain⟨l,rfl,rfl⟩:=C4 r;subst e;exact⟨(x,t)::l,Z,Z⟩
theorem l_:Xg X "str.join" (λx vs H Q=>∃a b xs,x= .str a/\vs=[.ref b]/\H b=some (.lst (xs.map V.str))/\JoinOk a xs=true/\Q (.str (Txt.join a xs)) H):=by
 intro ad s σ H x vs v us Q I rx rv h;obtain⟨a,b,xs,rfl,rfl,hb,hj,q⟩:=h;obtain⟨t,rfl⟩:=rx;obtain⟨u,rfl,ru⟩:=rv.one;cases ru;obtain⟨z,its,n,r,hl,e⟩:=I.Hn hb;obtain⟨l,rfl,rfl⟩:=C4 r;exact SC.join (x:=a) (D:=b) (l:=l) ⟨_,e,Z,_,Z⟩ Z hj λt' k=>⟨.str _,H,I.tok k,⟨t',Z⟩,q⟩
theorem so:ij X (.type "int") (λxs H Q=>∃x n,xs=[.str x]/\PySem.intText? x=some n/\x.length<=640/\Q (.int n) H):=by
 intro ad s σ H xs us Q I r h;obtain⟨x,n,rfl,hn,hl,q⟩:=h;obtain⟨u,rfl,t,rfl⟩:=wT r;exact PySem.W.KIN.call_text hn hl ⟨.int n,H,I.tok _,⟨_,Z⟩,q⟩
end L2
namespace My
open PySem PySem.NumText PyProof.Rows L2
noncomputable def Ca(c:Nat):Bool:=decide (48<=c)&&decide (c<=57)
noncomputable def kG(l:List Nat):Bool:=decide (1<=l.length)&&decide (l.length<=40)&& !(decide (l.head? =some 48)&&decide (l≠[48]))&&l.all Ca
noncomputable def qd(l:List Nat):Bool:=if l.head? =some 45 then decide (l≠[45,48])&&kG (l.drop 1) else kG l
theorem AM(x:Str)(c:Nat):Txt.startswith x ⟨#[c]⟩=decide (x.cps.toList.head? =some c):=by
 have h:=PySem.StrLaws.subAt_one x c 0;rw[km,fA,List.head?_eq_getElem?,<-h];show(decide (0+(⟨#[c]⟩:Str).length<=x.length)&&_)=true↔_;rw[cL,fA]
theorem ji{x y:Str}(h:x.cps.toList=y.cps.toList):x=y:=by
 cases x;cases y
 exact congrArg Str.mk (Array.toList_inj.mp h)
theorem HU(x:Str):(Txt.slice x (some 1) none).cps.toList=x.cps.toList.drop 1:=by
 by_cases h:1<=x.length
 .rw[slice_from_eq (x:=x) (i:=1) (b:=x.length) (by decide) (by lia) Z];show(x.cps.toList.drop 1).take _=_;rw[gf];have:x.cps.toList.length=x.length:=rfl;rw[nS]
  lia
 .rw[slice_beyond (by lia)];have:x.cps.toList.length=x.length:=rfl;rw[List.drop_eq_nil_of_le (by lia)];rfl
theorem QH{l:List Nat}(h:l.all Ca=true):AllDigits l:=λc hc=>by
 have:=bS.mp h c hc;unfold Ca at this;rw[cL,fA,fA] at this;exact this
theorem mO{l:List Nat}(h:kG l=true):1<=l.length/\l.length<=40/\(l.head? =some 48->l=[48])/\AllDigits l:=by
 unfold kG at h;simp only[cL,fA,Bool.not_eq_true',Bool.and_eq_false_iff,decide_eq_false_iff_not] at h;obtain⟨⟨⟨h1,h2⟩,h3⟩,h4⟩:=h;refine⟨h1,h2,λe=> ?_,QH h4⟩;rcases h3 with h3|h3
 .exact absurd e h3
 .exact Classical.byContradiction λz=>h3 z
theorem DV{l:List Nat}(h:1<=l.length):l≠[]:=λe=>by rw[e] at h;cases h
theorem Gi{x:Str}(h:kG x.cps.toList=true):PySem.intText? x=some ((digitsVal x.cps.toList:Nat):Int):=by
 obtain⟨h1,h2,h3,h4⟩:=mO h;have:x.cps.toList.length=x.length:=rfl;exact intText_digits h4 (DV h1) (by lia)
theorem QA{l:List Nat}{c:Nat}(h:l.head? =some c):l=c::l.drop 1:=by
 cases l with
 |nil=>cases h
 |cons a r=>cases h;rfl
theorem CY{l:List Nat}(h:qd l=true):(l.head?≠some 45/\kG l=true)\/(l=45::l.drop 1/\l.drop 1≠[48]/\kG (l.drop 1)=true):=by
 unfold qd at h;by_cases e:l.head? =some 45
 .rw[ay e,cL,fA] at h;have e' :=QA e;exact .inr ⟨e',λz=>h.1 (by rw[e',z]),h.2⟩
 .rw[aq e] at h;exact .inl ⟨e,h⟩
noncomputable def qa(l:List Nat):Int:=if l.head? =some 45 then -((digitsVal (l.drop 1):Nat):Int) else((digitsVal l:Nat):Int)
theorem FL{x:Str}(h:qd x.cps.toList=true):PySem.intText? x=some (qa x.cps.toList):=by
 unfold qa;have hl:x.cps.toList.length=x.length:=rfl;rcases CY h with⟨e,h⟩|⟨e,hn,h⟩
 .rw[aq e];exact Gi h
 .rw[ay (by rw[e];rfl)];obtain⟨h1,h2,h3,h4⟩:=mO h;refine intText_neg e h4 (DV h1) ?_;rw[nS] at h2
  lia
theorem GS(m:Nat)(h:0<m):(Str.ofString (toString (-((m:Nat):Int)))).cps.toList=45::(Str.ofString (toString ((m:Nat):Int))).cps.toList:=by
 rw[signs_ofString,signs_ofString];obtain⟨k,rfl⟩:∃k,m=k+1:=⟨m - 1,by lia⟩;show(("-" ++Nat.repr (k+1)).toList).map Char.toNat=45::(Nat.repr (k+1)).toList.map Char.toNat;rw[String.toList_append,cu];rfl
end My
namespace L2
open PySem PySem.Spec PySem.SeqAt PyProof.Rows
variable{X:Cx}
theorem Im:nq X (binaryOp .Mult) (λx y H Q=>∃z n,x= .str z/\y= .int n/\MulOk z n/\Q (.str (Txt.mul z n)) H):=by
 intro ad s σ H x y v u Q I rx ry h;obtain⟨z,n,rfl,rfl,ok,q⟩:=h;obtain⟨t,rfl⟩:=rx;obtain⟨t',rfl⟩:=ry;exact SB.mul ok λt' k=>⟨.str _,H,I.tok k,⟨t',Z⟩,q⟩
theorem Dh(hu:X.A.units+100<cLine):nq X (compareOp .NotEq) (λx y H Q=>∃d e,Dat H x d/\Dat H y e/\shaped d=true/\shaped e=true/\noMix d e=true/\Q (.bl (!PySem.Spec.same d e)) H):=by
 intro ad s σ H x y v u Q I rx ry h;obtain⟨d,e,hd,he,s1,s2,m,q⟩:=h;obtain⟨⟨as,rd⟩,_⟩:=hd.reads I.bM rx;obtain⟨⟨bs,re⟩,_⟩:=he.reads I.bM ry;exact ne_dataH_same rd re s1 s2 (by lia) m ⟨.bl _,H,I,Z,q⟩
section
variable{X:Cx}{e:aaa}{f:Str}{pos:Pos}{ta:TE}{K:Frag}
theorem jr(hK:X.K=K)(he:PE X e ta)(hb:attributeBase e f X.env (eval e X.env)=eval e X.env):PE X (.Attribute e f pos) (Vn K ta f):=by
 subst hK;exact Rv he hb
end
section
variable{X:Cx}{e:aaa}{es:b_}{st:Stmt}{sts:List Stmt}{te:TE}{ta:TA}{t u:TS}
structure UL(X:Cx)(es:b_)(t:TA):Prop where
 h:PA X es t
structure Ox(X:Cx)(e:aaa)(t:TE):Prop where
 h:PE X e t
structure ZR(X:Cx)(st:Stmt)(t:TS):Prop where
 h:PS X st t
structure Gu(X:Cx)(sts:List Stmt)(t:TS):Prop where
 h:DE X sts t
theorem gL:UL X [] yF:=⟨c_⟩
theorem gb(hs:∀(es:b_) (env:Env),starEach (e::es) env=(false,eval e env)::starEach es env)(ha:PE X e te)(hr:UL X es ta):UL X (e::es) (Au te ta):=⟨ag ha hr.h (hs _ _)⟩
theorem zJ{pos:Pos}(h:UL X es ta):Ox X (.List es pos) (acR ta):=⟨a8 h.h⟩
theorem Q4{i:Nat}{x:Str}{pos pos' :Pos}(hN:X.N.Nodup)(hi:X.N[i]? =some x)(hx:Loc X.env.scope x)(he:Ox X e te)(hs:swapsWith e (some (.Name x pos')) pos.line X.env=pure false)(hf:X.fn x=true\/X.env.scope.names.lookup x=some .local):
 ZR X (.Assign [.Name x pos'] e pos) (Md te (yg i)):=⟨Pn hN hi hx he.h hs hf⟩
theorem eW(h1:ZR X st t)(h2:Gu X sts u):Gu X (st::sts) (QL t u):=⟨af h1.h h2.h⟩
theorem vX(h1:ZR X st t):Gu X [st] t:=⟨ah h1.h⟩
end
section
variable{P:aan}{w:aai}{K:Frag}{mg:Str->aM}{base:aam}
theorem Gm.okM{x qual:Str}{st:Stmt}{f:Y'}{fd:aap}{N ps:aj}{k:Nat}{sp:Sp}(F:Gm K x qual st f fd)(S:aC N ps (ao st))(len:∀vs H Q E,sp vs H Q E->vs.length=ps.length)
 (gI:∀(cC:W') (A:aal) (outer:List Env) (s:X') (H:Hp) (vs:ak) (Q:VK) (E:XK),dQ k (A.deeper (envOfC qual (ao st) s.heap.objs.size f cC))->sp vs H Q E->
  ∃t,Gu (mQ cY P w K mg base N qual (ao st) f cC A outer s H E).Mt (dr st) t/\t {nx:=λ_ H' =>Q .bV H',rt:=Q} (start N vs) H):aQ P w K mg base cY (k+1) f fd ps sp:=
 F.ok S len λcC A outer s H vs Q E hr h=>by
  obtain⟨t,h,q⟩:=gI cC A outer s H vs Q E hr h;exact⟨t,h.h,q⟩
end
end L2
namespace L2
open PySem PySem.Spec PyProof.Rows PySem.Builtin.ObjectAttr
structure agp(K:Frag)(C:Y'):Prop extends ExcG K C where
 ca:PySem.W.findIn K (.ref C) "__class__"=some (some (.builtin "object.__class__"))
 gt:PySem.W.specialIn K (.builtin "object.__class__") "__get__"=some (some (.builtin "getset_descriptor.__get__"))
 tk:PySem.W.takesIn K (.builtin "object.__class__")=some true
 mo:PySem.W.mroIn K C (.type "object")=some true
section
variable{K:Frag}{C:Y'}
variable{prog:aan}{w:aai}{A:aal}{E:V'}{s:X'}{x:Y'}{ox:Obj}{od:Option Obj}
end
section
variable{X:Cx}{K:Frag}
end
structure abC(k:Nat)(A:aal):Prop where
 dp:A.depth+3*k+5<recursionLimit
 un:A.units+16*k+200<cLine
 gd:A.guards=some []
structure ahJ(P:aan)(w:aai)(K:Frag)(mg:Str->aM)(base:aam)(k:Nat)(f:Y')(fd:aap)(ps:aj)(sp:Sp):Prop where
 len:∀vs H Q E,sp vs H Q E->vs.length=ps.length
 run:∀(A:aal) (outer:List Env) (s:X') (H:Hp) (args:Args) (us:aE) (vs:ak) (Q:VK) (E:XK),abC k A->Ck P w K mg base A outer s H->BindsTo s fd args (ps.zip us)->Vals vs us->sp vs H Q E->
  codeAny (model P w) A (.call (.ref f) args) (CR cY outer P w H s Q E) s
section
variable{X:Cx}{k:Nat}{f:Y'}{fd:aap}{ps:aj}{sp:Sp}{x:Str}{p pos:Pos}{e:aaa}{es:b_}{t:TA}{K:Frag}
end
variable{X:Cx}
theorem Nt{J:It}{n k:Nat}{js:List Nat}{Y:Nat->V->Hp->Prop}{g:TG}{te:TE}{σ:St}{H:Hp}{Q:VK}(E:Nat->V->(Y'->Prop)->Hp->Prop)(F:AV J H n Y)(hlen:n<=sizeLine)
 (pj:∀i v N1 N2 H1 H2,(∀c,N1 c->N2 c)->(∀c o,N1 c->H1 c=some o->H2 c=some o)->E i v N1 H1->E i v N2 H2)
 (gI:∀(i:Nat) (x:V) (H' :Hp) (C1:V->Hp->Prop),i<n->ai H H'->Y i x H'->(∀v gE,ai H' gE->E i v (λc=>H' c=none) gE->C1 v gE)->
  g x (yO k js σ) H' λkn H2=>fU (yO k js σ) kn/\te kn H2 C1)
 (hq:∀p H' ys,H p=none->ai H H'->H' p=some (.lst ys)->ys.length=n->(∀i v,ys[i]? =some v->E i v (λc=>H c=none) H')->Q (.ref p) H'):
 nh J k js g Rg te σ H Q:=by
 intro p hp
 refine⟨λi m ys H' =>m=n - i/\i<=n/\ys.length=i/\H' p=some (.lst ys)/\ai H H'/\∀j v,ys[j]? =some v->E j v (λc=>c≠p/\H c=none) H',
  ⟨n,Z,bU _,Z,aa,ai.upd hp,λj v e=>by simp at e⟩,?_⟩
 rintro i m ys H' ⟨rfl,hi,yH,hl,hs,hE⟩
 refine⟨hl,?_⟩;by_cases jB:i<n
 .refine .inr ⟨F.go i _ hs jB,by lia,λx gE hy=> ?_⟩;obtain⟨s1,y1⟩:=F.zS i _ x gE hs jB hy;refine gI i x gE (λv H4=>H4 p=some (.lst ys)/\∃m',m' <n - i/\(m' =n - (i+1)/\i+1<=n/\(ys++[v]).length=i+1/\upd H4 p (.lst (ys++[v])) p=some (.lst (ys++[v]))/\ai H (upd H4 p (.lst (ys++[v])))/\∀j v',(ys++[v])[j]? =some v'->E j v' (λc=>c≠p/\H c=none) (upd H4 p (.lst (ys++[v]))))) jB (hs.trans s1) y1 ?_;intro v H4 s4 e4;have Io:H4 p=some (.lst ys):=s4 _ _ (s1 _ _ hl);refine⟨Io,n - (i+1),by lia,Z,jB,by simp[yH],aa,λc o e=> ?_,λj v' e=> ?_⟩
  .rw[au (aw e hp)];exact s4 _ _ (s1 _ _ (hs _ _ e))
  .by_cases hj:j<ys.length
   .rw[fz hj] at e;refine pj _ _ _ _ _ _ (λc z=>z) (λc o z q=> ?_) (hE j v' e);rw[au z.1];exact s4 _ _ (s1 _ _ q)
   .rw[gS (by lia)] at e
    have hj2:j - ys.length=0:=by
     have:=(dE.mp e).1;simp at this
     lia
    rw[hj2] at e;cases e;have:j=i:=by lia
    subst this
    have np:∀c,gE c=none->c≠p:=λc z z' =>by
     rw[z',s1 _ _ hl] at z;cases z
    refine pj _ _ _ _ _ _ (λc z=>⟨np c z,(hs.trans s1).free z⟩) (λc o z q=> ?_) e4;rw[au (np c z)];exact q
 .have e:i=n:=by lia
  subst e;exact .inl ⟨F.stop _ _ hs (aJ _),hq p H' ys hp hs hl yH λj v e=>pj _ _ _ _ _ _ (λc z=>z.2) (λc o _ q=>q) (hE j v e)⟩
section
variable{X:Cx}{CX:tY}{k:Nat}{f C:Y'}{fd:aap}{ps:aj}{sp:Sp}{dvs:ak}{ds:aE}{E:St->XK}{x m:Str}{p pos apos:Pos}{e o:aaa}{es:b_}{ta:TE}{t:TA}
end
section
variable{X:Cx}{body Gn:List Stmt}{b0:Stmt}{rest:List ExceptHandler}{c nm:Str}{cp Gr pos:Pos}{tb:(St->XK)->TS}{th:TS}{i:Nat}{D:Y'}
end
section
variable{prog:aan}{w:aai}{A:aal}{E:V'}{s:X'}
end
section
variable{prog:aan}{w:aai}{A:aal}{R:Result->X'->Prop}{I:Y'}{fp wr:bh}{G:Array GenState->Array GenState->Prop}{n:Nat}{P:Nat->W'->Prop}{St:Nat->X'->Prop}{κ:Type}[DecidableEq κ]{knd:KeyKind prog w κ}
end
section
variable{prog:aan}{w:aai}{A:aal}{E:V'}{s:X'}{κ:Type}[DecidableEq κ]{knd:KeyKind prog w κ}
end
section
variable{X:Cx}{e:aaa}{te:TE}{elts:b_}{kt:Nat}{pt:Pos}
end
section
variable{prog:aan}{w:aai}{A:aal}{E:V'}{s:X'}
end
section
variable{X:Cx}{pos:Pos}
end
section
variable{X:Cx}{e hi stp:aaa}{te th ts:TE}{pos p2:Pos}
end
variable{o e:aaa}{es:b_}{to:TE}{t:TA}{name:Str}{apos i9:Pos}{T id:String}{r:V->ak->Hp->VK->Prop}
end L2
namespace L2
open PySem PySem.Spec PySem.SeqAt PyProof.Rows
variable{X:Cx}
section
variable{prog:aan}{w:aai}{A:aal}{E:V'}{s:X'}
structure aly(h:aam)(d:Y')(o:Obj)(es:Array DictEntry)(ep:Nat):Prop where
 at_:h.get? d=some o
 ex:o.ExactDict
 da:o.data= .dict es ep
end
section
variable{X:Cx}{ad:aR}{σ:St}{H:Hp}{s:X'}{d:Y'}{bF:List (List wS×V)}
end
section
variable{X:Cx}{e:aaa}{te:TE}{elts:b_}{kt:Nat}{pt:Pos}
end
section
variable{prog:aan}{w:aai}{A:aal}{R:Result->X'->Prop}{I:Y'}{fp wr:bh}{G:Array GenState->Array GenState->Prop}{n:Nat}{P:Nat->W'->Prop}{St:Nat->X'->Prop}{κ:Type}[DecidableEq κ]{knd:HeapKind prog w κ}
noncomputable def adD(xs ps:List (κ×Y'×W')):List (κ×Y'×W'):=ps.foldl (λm p=>storedH m p.1 p.2.1 p.2.2) xs
end
section
variable{prog:aan}{w:aai}{A:aal}{E:V'}{s:X'}{κ:Type}[DecidableEq κ]{knd:HeapKind prog w κ}
end
noncomputable def agB(bF more:List (List wS×V)):List (List wS×V):=more.foldl (λacc kv=>jad acc kv.1 kv.2) bF
structure ans(K:Frag)(C:Y'):Prop where
 ha:PySem.W.findIn K (.ref C) "__class__"=some (some (.builtin "object.__class__"))
 hn:PySem.W.specialIn K (.builtin "object.__class__") "__get__"=some (some (.builtin "getset_descriptor.__get__"))
 tk:PySem.W.takesIn K (.builtin "object.__class__")=some true
 hm:PySem.W.mroIn K C (.type "object")=some true
def Z2(i j:Int):Prop:=0<j/\j.natAbs.log2<9000
theorem GR:nq X (binaryOp .FloorDiv) (rI Z2 λi j=> .int (i / j)):=opI λi j _ _ _ _ _ hc q=>by
 have h1:(0:Int)<j:=hc.1;exact floordiv_int (by lia) (by rw[Int.fdiv_eq_ediv_of_nonneg i (by lia)];exact q) (.inl (PyProof.noPylong_of_log2 hc.2))
section
variable{X:Cx}{pos:Pos}
theorem Rh{e:aaa}{t:TE}(h:Ox X e t):ZR X (.Return (some e) pos) (YH t):=⟨aB h.h⟩
end
section
variable{prog:aan}{w:aai}{A:aal}{E:V'}{s:X'}
end
section
variable{X:Cx}{tg e:aaa}{te:TE}
end
section
variable{X:Cx}{ad:aR}{σ:List (Option V)}{H H' :Hp}{s:X'}{h' :aam}
theorem Inv.more{t' :Nat}(I:Inv X ad σ H s)(k:∀b u,s.heap.get? b=some u->h'.get? b=some u)(sm:∀a o,H a=some o->H' a=some o)(new:∀a o,H' a=some o->H a=some o\/(s.heap.objs.size<=a/\cg X.prog X.w H' h' a o)):Inv X ad σ H' {s with heap:=h',toks:=t'}:=
 I.un ⟨λb u q _ _ _=>k b u q,λb u q _ _ _=>⟨u.slots,k b u q⟩,λb u q n _=>by
  cases e:H' b with
  |none=>rfl
  |some o=>
   rcases new b o e with h|⟨h,_⟩
   .rw[n] at h;cases h
   .exact absurd (aX q) (Nat.not_lt.mpr h),λb u q _=>⟨u,k b u q⟩,λb xs q=>sm _ _ q,λb u xs q=>sm _ _ q,λb ps q=>⟨#[],by rw[sm _ _ q];simp⟩⟩ λa o e=>by
  rcases new a o e with h|⟨_,h⟩
  .exact(I.bM a o h).uD (λc v _ q=>k c v q) (λc q=>sm _ _ q) (λc xs q=>sm _ _ q)
  .exact h
theorem Xm{as:bh}(h:as.Pairwise (· < ·)){j:Nat}{a:Y'}(e:as[j]? =some a):as.idxOf a=j:=by
 have hj:=(dE.mp e).1;have ha:=(dE.mp e).2;have hm:as.idxOf a<as.length:=List.idxOf_lt_length_of_mem (bt e);have hg:as[as.idxOf a]=a:=List.getElem_idxOf hm;rcases Nat.lt_trichotomy (as.idxOf a) j with z|z|z
 .have:=List.pairwise_iff_getElem.mp h _ _ hm hj z;rw[hg,ha] at this;exact absurd this (cn _)
 .exact z
 .have:=List.pairwise_iff_getElem.mp h _ _ hj hm z;rw[hg,ha] at this;exact absurd this (cn _)
end
section
variable{prog:aan}{w:aai}{A:aal}{E:V'}{s:X'}
end
section
variable{X:Cx}{tg e:aaa}{te:TE}
end
section
variable{prog:aan}{w:aai}{A:aal}{E:V'}{s:X'}
end
section
variable{X:Cx}{o e f:aaa}{apos i9:Pos}{td ty tx:TE}
end
section
variable{prog:aan}{w:aai}{A:aal}{E:V'}{s:X'}
end
theorem Lg(hu:X.A.units<cLine):nq X (compareOp .NotEq) (λx y H Q=>∃a b xs,x= .ref a/\y= .ref b/\H a=some (.lst xs)/\H b=some (.lst [])/\Q (.bl (!xs.isEmpty)) H):=by
 intro ad s σ H x y v u Q I rx ry h;obtain⟨a,b,xs,rfl,rfl,ha,hb,q⟩:=h;cases rx;cases ry;obtain⟨its,r,pl,hz⟩:=I.list (bq.of ha);obtain⟨mS,r2,UE,JJ⟩:=I.list (bq.of hb);have hl:=r.length;cases r2
 cases xs with
 |nil=>
  cases r;exact SeqAt.RcNeAt.lists (e:=λ_=>true) pl.isList UE.isList Z hu (λj h1 _=>absurd h1 (g_ _)) _ _ _ _ ⟨.bl false,H,I,Z,q⟩
 |cons x r' =>
  exact SeqAt.RcNeAt.lists_lengths pl.isList UE.isList (by cases r;rfl) hu _ _ _ _ ⟨.bl true,H,I,Z,q⟩
theorem FJ{K:Frag}{a:Y'}{xs:ak}{g:TG}{tb:TS}{D:Ends}{σ:St}{H:Hp}(Pv:Nat->St->Hp->Prop)(h0:Pv 0 σ H)(hl:∀i σ H,Pv i σ H->bq K H a xs)
 (hs:∀i y T σ H,xs[i]? =some y->H T=none->Pv i σ H->g (.ref T) σ (upd H T (.tup [.int i,y])) λkn H2=>tb {D with nx:=Pv (i+1),ct:=Pv (i+1),bk:=D.nx} kn H2) (hd:∀σ H,Pv xs.length σ H->D.nx σ H):
 ∃W:Nat->Nat->St->Hp->Prop,(∃m,W 0 m σ H)/\∀i m σ H,W i m σ H->
  ((Ite K a).stop i H/\D.nx σ H)\/((Ite K a).go i H/\∃N:St->Hp->Prop,(∀eO H',N eO H'->∃m',m' <m/\W (i+1) m' eO H')/\∀x H',(Ite K a).zS i H x H'->g x σ H' λkn H2=>tb {D with nx:=N,ct:=N,bk:=D.nx} kn H2):=by
 refine⟨λi m σ H=>m=xs.length - i/\i<=xs.length/\Pv i σ H,⟨xs.length,by simp,bU _,h0⟩,?_⟩
 rintro i m σ H ⟨rfl,hi,p⟩
 have q:=hl i σ H p;by_cases jB:i<xs.length
 .refine .inr ⟨⟨xs,xs[i],q,by simp[jB]⟩,Pv (i+1),λeO H' p' =>⟨xs.length - (i+1),by lia,Z,jB,p'⟩,λx H' y=> ?_⟩;obtain⟨T,y,rfl,hT,rfl,hy⟩:=y;exact hs i y T σ H (hy xs q) hT p
 .have e:i=xs.length:=by lia
  subst e;exact .inl ⟨⟨xs,q,aJ _⟩,hd σ H p⟩
section
variable{prog:aan}{w:aai}{A:aal}{E:V'}{s:X'}
end
structure RxG(es:Array DictEntry)(lo:Y')(h:aam)(as:bh):Prop where
 rise:as.Pairwise (· < ·)
 above:∀a∈as,lo<a
 pairs:∀(j:Nat) (a:Y'),as[j]? =some a->∃en,es[j]? =some en/\h.get? a=some {cls:= .type "tuple",data:= .seq #[en.key,en.val]}
section
variable{prog:aan}{w:aai}{A:aal}{E:V'}{s:X'}{es:Array DictEntry}{ep:Nat}{od:Obj}
end
structure FI(K:Frag)(mg:Str->aM)(x:Str)(st:Stmt)(ps:aj)(f:Y')(fd:aap):Prop where
 m:mg x=some (.ref f)
 F:Gm K x x st f fd
 b:Binds K fd ps []
structure MI(K:Frag)(C:Y')(x q:Str)(st:Stmt)(ps:aj)(f:Y')(fd:aap):Prop where
 t:Meth K C x f
 F:Gm K x q st f fd
 b:Binds K fd ps []
theorem aC.of{N P:aj}{sc:Scope}(h1:sc.kind= .function:=by rfl)(h2:sc.isCoroutine=false:=by rfl)(h3:sc.isGenerator=false:=by rfl)(h4:N.Nodup:=by decide+kernel)(h5:N.take P.length=P:=by rfl)
 (h6:∀x∈P,sc.names.lookup x=some .local\/sc.names.lookup x=some .cell:=by decide+kernel) (h7:∀y∈sc.names,y.2≠.free:=by decide+kernel):aC N P sc:=⟨h1,h2,h3,h4,h5,h6,h7⟩
section
variable{P:aan}{w:aai}{K:Frag}{mg:Str->aM}{base:aam}{x qual:Str}{st:Stmt}{f:Y'}{fd:aap}{N ps:aj}{k:Nat}{sp:Sp}
theorem Gm.BY(F:Gm K x qual st f fd)(S:aC N ps (ao st))
 (hb:∀(cC:W') (A:aal) (outer:List Env) (s:X') (H:Hp) (vs:ak) (Q:VK) (E:XK),dQ k (A.deeper (envOfC qual (ao st) s.heap.objs.size f cC))->sp vs H Q E->
  ∃t,DE (mQ cY P w K mg base N qual (ao st) f cC A outer s H E).Mt (dr st) t/\t {nx:=λ_ H' =>Q .bV H',rt:=Q} (start N vs) H)
 (len:∀vs H Q E,sp vs H Q E->vs.length=ps.length:=by intro _ _ _ _ h;repeat (first|(obtain⟨rfl,_⟩:=h;rfl)|obtain⟨_,h⟩:=h)):aQ P w K mg base cY (k+1) f fd ps sp:=F.ok S len hb
theorem Gm.okN(F:Gm K x qual st f fd)(S:aC N ps (ao st))
 (hb:∀(cC:W') (A:aal) (outer:List Env) (s:X') (H:Hp) (vs:ak) (Q:VK) (E:XK),dQ k (A.deeper (envOfC qual (ao st) s.heap.objs.size f cC))->sp vs H Q E->
  ∃t,Gu (mQ cY P w K mg base N qual (ao st) f cC A outer s H E).Mt (dr st) t/\t {nx:=λ_ H' =>Q .bV H',rt:=Q} (start N vs) H)
 (len:∀vs H Q E,sp vs H Q E->vs.length=ps.length:=by intro _ _ _ _ h;repeat (first|(obtain⟨rfl,_⟩:=h;rfl)|obtain⟨_,h⟩:=h)):aQ P w K mg base cY (k+1) f fd ps sp:=F.okM S len hb
end
section
variable{X:Cx}{CX:tY}{j k:Nat}{f C:Y'}{fd:aap}{ps:aj}{sp:Sp}{E:XK}{x m q:Str}{st:Stmt}{p pos apos:Pos}{e o:aaa}{es:b_}{ta:TE}{t:TA}
theorem cv(F:aQ X.prog X.w X.K X.mg X.base CX j f fd ps sp)(hr:dQ k X.A)(I:FI X.K X.mg x st ps f fd)(hx:wn CX X E)(ha:PA X (e::es) t)(hj:j<=k:=by decide)(hg:Gl X x:=by rfl)
 (ua:(x==("__debug__" :Str))=false:=by decide) (he:starEach (e::es) X.env=(false,eval e X.env)::starEach es X.env:=by rfl) (jY:(backTo pos (starEach es X.env)).any (·.1)=false:=by rfl):
 PE X (.Call (.Name x p) (e::es) [] pos) (F1 sp [] E t):=JZ (F.mono hj) hr hg I.m I.F.kp I.b .nil hx ha ua he jY
theorem EV{pl:Sem Bool}(he:PE X o ta)(c:Nb X.K C)(I:MI X.K C m q st ps f fd)(F:aQ X.prog X.w X.K X.mg X.base CX j f fd ps sp)(hr:dQ k X.A)(hx:wn CX X E)(hj:j<=k:=by decide)
 (ht:eval (.Call (.Attribute o m apos) [] [] pos) X.env=(do
  let ov<-eval o X.env
  standAt apos.atName
  let(f,first)<-holding [ov] (getMethod ov m pl)
  callWith pos f first (backTo pos (starEach [] X.env)) (backToKw pos (keywordEach [] X.env))):=by rfl):
 PE X (.Call (.Attribute o m apos) [] [] pos) (U5 C m sp [] E ta yF):=N7 he c I.t (F.mono hj) hr I.b .nil hx ht
end
section
variable{X:Cx}{pos:Pos}{e a b:aaa}{te ta tb:TE}
theorem ie(i:Nat){x:Str}(hN:X.N.Nodup)(hi:X.N[i]? =some x:=by rfl)(hx:Loc X.env.scope x:=by first|exact .inl rfl|exact .inr rfl)(hf:X.fn x=true\/X.env.scope.names.lookup x=some .local:=by first|exact .inl rfl|exact .inr rfl|assumption):PG X (.Name x pos) (yg i):=RV hN hi hx hf
theorem eL(i:Nat){x:Str}{pos' :Pos}(hN:X.N.Nodup)(he:PE X e te)(hi:X.N[i]? =some x:=by rfl)(hx:Loc X.env.scope x:=by first|exact .inl rfl|exact .inr rfl)(hs:swapsWith e (some (.Name x pos')) pos.line X.env=pure false:=by rfl)
 (hf:X.fn x=true\/X.env.scope.names.lookup x=some .local:=by first|exact .inl rfl|exact .inr rfl|assumption):PS X (.Assign [.Name x pos'] e pos) (Md te (yg i)):=Pn hN hi hx he hs hf
theorem cJ{r:R2}(hr:Zj X r)(ha:PE X a ta)(hb:PE X b tb)(hs:Kv b:=by exact λ_ _=>rfl):PE X (.Subscript a b pos) (SY r ta tb):=ZD hr ha hb hs
theorem HG{op:CmpOp}{r:R2}(ho:nq X (compareOp op) r)(ha:PE X a ta)(hb:PE X b tb)(hm:behindInMarks op b=false:=by first|exact Nx _|with_unfolding_all rfl):PE X (.Compare a [op] [b] pos) (SY r ta tb):=RZ ho ha hb hm
theorem jp{op:CmpOp}{r:R2}(ho:nq X (compareOp op) r)(ha:PE X a ta)(hb:PE X b tb)(hm:behindInMarks op b=false:=by first|exact Nx _|with_unfolding_all rfl):PT X (.Compare a [op] [b] pos) (Pf (SY r ta tb)):=RQ ho ha hb hm
theorem X6{f:Str}(he:PE X e te)(hb:attributeBase e f X.env (eval e X.env)=eval e X.env:=by rfl):PE X (.Attribute e f pos) (acw X.K te f):=XF he hb
theorem aF(ha:PE X e te)(hs:starEach [e] X.env=(false,eval e X.env)::starEach [] X.env:=by rfl):PA X [e] (Au te yF):=ag ha c_ hs
end
section
variable{X:Cx}{tg iter elt:aaa}{ifs:b_}{scope:Scope}{pos:Pos}{wi:TI}{g:TG}{tt:TT}{te:TE}
theorem L9(N:aj)(k:Nat)(js:List Nat)(hi:PI X tg iter wi)
 (hb:∀(cl:List (Str×Y')) (C:Y') (s:X') (H:Hp) (fp:bh),PG (gg X N scope cl C s H fp) tg g/\Il (gg X N scope cl C s H fp) ifs tt/\PE (gg X N scope cl C s H fp) elt te)
 (hc:X.calm=true:=by rfl) (S:ny X N scope k js:=by exact Di (by kernel_rfl)) (hs:∀x,foldedSetIterable iter X.env x=pure x:=by intro _;rfl):PE X (.ListComp elt [⟨tg,iter,ifs,0⟩] scope pos) (FW wi k js g tt te):=R0 hc S hi hb hs
theorem G0(i:Nat){x:Str}{pos' i9:Pos}(hN:X.N.Nodup)(N:aj)(k:Nat)(js:List Nat)(hi:PI X tg iter wi)
 (hb:∀(cl:List (Str×Y')) (C:Y') (s:X') (H:Hp) (fp:bh),PG (gg X N scope cl C s H fp) tg g/\Il (gg X N scope cl C s H fp) ifs tt/\PE (gg X N scope cl C s H fp) elt te)
 (hi' :X.N[i]? =some x:=by rfl) (hx:Loc X.env.scope x:=by first|exact .inl rfl|exact .inr rfl) (hc:X.calm=true:=by rfl) (S:ny X N scope k js:=by exact Di (by kernel_rfl))
 (hsw:swapsWith (.ListComp elt [⟨tg,iter,ifs,0⟩] scope i9) (some (.Name x pos')) pos.line X.env=pure true:=by rfl)
 (hs:∀x,foldedSetIterable iter X.env x=pure x:=by intro _;rfl) (hf:X.fn x=true\/X.env.scope.names.lookup x=some .local:=by first|exact .inl rfl|exact .inr rfl|assumption):
 PS X (.Assign [.Name x pos'] (.ListComp elt [⟨tg,iter,ifs,0⟩] scope i9) pos) (Md (FW wi k js g tt te) (yg i)):=QW hN hi' hx hc S hi hb hsw hs hf
theorem yI{body:List Stmt}{tb:TS}(hi:PI X tg iter wi)(hg:PG X tg g)(hb:DE X body tb)(hp:PassesOwn (model X.prog X.w) X.A X.env X.xe:=by exact PassesOwn.never)(hc:X.calm=true:=by rfl)
 (hs:∀x,foldedSetIterable iter X.env x=pure x:=by intro _;rfl):PS X (.For tg iter body [] pos) (aaI wi g tb):=Wr hp hc hi hg hb hs
theorem iY{id:String}{x:Str}{r:ak->Hp->VK->Prop}{e:aaa}{es:b_}{t:TA}{p:Pos}(hc:ij X (.builtin id) r)(hm:X.mg x=none)(hv:bootBuiltins x=some (.builtin id))(ha:PA X (e::es) t)(hg:Gl X x:=by rfl)(hn:x≠ "__name__":=by decide)(ua:(x==("__debug__" :Str))=false:=by decide)
 (he:starEach (e::es) X.env=(false,eval e X.env)::starEach es X.env:=by rfl) (jY:(backTo pos (starEach es X.env)).any (·.1)=false:=by rfl):PE X (.Call (.Name x p) (e::es) [] pos) (tCB r t):=O0 hc hg hm hv ha hn ua he jY
theorem GX{T:String}{x:Str}{r:ak->Hp->VK->Prop}{e:aaa}{es:b_}{t:TA}{p:Pos}(hc:ij X (.type T) r)(hm:X.mg x=none)(hv:bootBuiltins x=some (.type T))(ha:PA X (e::es) t)(hg:Gl X x:=by rfl)(hn:x≠ "__name__":=by decide)(ua:(x==("__debug__" :Str))=false:=by decide)
 (he:starEach (e::es) X.env=(false,eval e X.env)::starEach es X.env:=by rfl) (jY:(backTo pos (starEach es X.env)).any (·.1)=false:=by rfl):PE X (.Call (.Name x p) (e::es) [] pos) (tCB r t):=Mb hc hg hm hv ha hn ua he jY
end
structure XI(K:Frag)(mg:Str->aM)(x:Str)(C f R:Y'):Prop where
 m:mg x=some (.ref C)
 X:Ny K C f
 e:RK K C
 g:agp K C
 tt:PySem.W.typeIn K (.ref C)=some (.type "type")
 mi:∀D:Y',PySem.W.mroIn K C (.ref D)=some (decide (D=C)||decide (D=R))
 ve:PySem.W.mroIn K C (.type "ValueError")=some true
def Exc(H:Hp)(a C:Y'):Prop:=∃φ dd n,H a=some (.ext φ)/\(∀h,φ h->eM a C dd n h)/\∀dx,dd=some dx->∃fs,H dx=some (.xd fs)
section
variable{X:Cx}{K:Frag}
theorem Ri{P:aan}{w:aai}{H:Hp}{h:aam}{a:Y'}{φ:aam->Prop}(ok:o5 P w H h)(e:H a=some (.ext φ)):φ h:=
 (show cg P w H h a (.ext φ) from ok a _ e).1
end
section
variable{X:Cx}{CX:tY}{j k:Nat}{f C R:Y'}{fd:aap}{ps:aj}{sp:Sp}{E:XK}{x q:Str}{st:Stmt}{p pos:Pos}{e:aaa}{es:b_}{t:TA}
theorem X4(M:XI X.K X.mg x C f R)(I:MI X.K C "__init__" q st ps f fd)(F:aQ X.prog X.w X.K X.mg X.base cY j f fd ps sp)(hr:dQ (k+1) X.A)(ha:PA X (e::es) t)(hj:j<=k:=by decide)(hl:ps.length<=100:=by decide)(hg:Gl X x:=by rfl)
 (ua:(x==("__debug__" :Str))=false:=by decide) (he:starEach (e::es) X.env=(false,eval e X.env)::starEach es X.env:=by rfl) (jY:(backTo pos (starEach es X.env)).any (·.1)=false:=by rfl):
 PE X (.Call (.Name x p) (e::es) [] pos) (IK C sp E0 t):=Nj M.X (F.mono hj) hr hg M.m I.b aA ha (λ_ _ _ _ h=>by rw[F.len _ _ _ _ h];exact hl) ua he jY
end
section
variable{K:Frag}{nm q:Str}{C N R:Y'}{bs:aE}{h:Bool}{sn:aj}{sub:aE}{ab:Bool}{col:Option Bool}{dd:Option Y'}{k0 k1 k2 k3 k5:aM}{id:String}
theorem ab9(l:K.lookup C=some (excClassObj nm q C N bs [.ref R,.type "ValueError",.type "Exception",.type "BaseException",.type "object"] h sn sub ab col dd k0 k1 k2 k3 k5 id))(D:Y'):PySem.W.mroIn K C (.ref D)=some (decide (D=C)||decide (D=R)):=by
 unfold PySem.W.mroIn clsIn;rw[l];show some (List.contains [Value.ref C,Value.ref R,.type "ValueError",.type "Exception",.type "BaseException",.type "object"] (.ref D))=_
 congr 1
 by_cases h1:D=C
 .subst h1;simp
 .by_cases h2:D=R
  .subst h2;simp
  .simp[h1,h2]
theorem YD(l:K.lookup C=some (excClassObj nm q C N bs [.type "ValueError",.type "Exception",.type "BaseException",.type "object"] h sn sub ab col dd k0 k1 k2 k3 k5 id))(D:Y'):PySem.W.mroIn K C (.ref D)=some (decide (D=C)||decide (D=C)):=by
 unfold PySem.W.mroIn clsIn;rw[l];show some (List.contains [Value.ref C,.type "ValueError",.type "Exception",.type "BaseException",.type "object"] (.ref D))=_
 congr 1
 by_cases h1:D=C
 .subst h1;simp
 .simp[h1]
end
section
variable{prog:aan}{w:aai}{A:aal}{E:V'}{h:aam}{g:Array GenState}{d:Drawn}{t:Nat}{os:OsState}
variable{nm q:Str}{C N:Y'}{bs bm:aE}{iQ:Bool}{sn:aj}{sub:aE}{ab:Bool}{col:Option Bool}{dd:Option Y'}{k0 k1 k2 k3 k5:aM}
end
section
variable{X:Cx}{p pos apos:Pos}{e1 e2:aaa}{t:TA}
end
section
open Builtin Builtin.Str Builtin.BaseException
variable{prog:aan}{w:aai}{A:aal}{E:V'}{s:X'}{K:Frag}{x C t0:Y'}{ox ot:Obj}{od:Option Obj}{vs:Array W'}{m:Str}{tk:Tok}{n:Nat}
end
section
variable{X:Cx}{K:Frag}
end
noncomputable def kD:wS->Z'
 | .inl i=> .int i
 | .inr x=> .str x
noncomputable def J7(CX:tY)(P:aan)(w:aai)(K:Frag)(mg:Str->aM)(base:aam)(N:aj)(qual:Str)(scope:Scope)(f:Y')(cd:W')(cl:List (Str×Y'))(A:aal)(outer:List Env)(s:X')(H:Hp)(E:XK):Cx where
 prog:=P
 w:=w
 K:=K
 mg:=mg
 base:=base
 A:=A.deeper (envX qual scope s.heap.objs.size f cd cl)
 N:=N
 fG:=s
 H₀:=H
 env:=envX qual scope s.heap.objs.size f cd cl
 outer:=outer
 stack:=envX qual scope s.heap.objs.size f cd cl::outer
 ex:=[]
 calm:=true
 fn:=λ_=>false
 pn:=[]
 xe:=λe s' =>wpAny (model P w) (A.deeper (envX qual scope s.heap.objs.size f cd cl)) (leaving (envX qual scope s.heap.objs.size f cd cl) e) (λ_ OU =>CX outer H s E e OU) (λe' OU =>CX outer H s E e' OU) s'
structure qL(ps fr:aj)(sc:Scope):Prop where
 kind:sc.kind= .function
 co:sc.isCoroutine=false
 gen:sc.isGenerator=false
 nd:(ps++fr).Nodup
 par:∀x∈ps,sc.names.lookup x=some .local
 fre:∀x∈fr,sc.names.lookup x=some .free
 NJ:∀y∈sc.names,y.2≠.cell
 all:∀x,sc.names.lookup x=some .free->x∈fr
structure Bj(base:aam)(cl:List (Str×Y'))(fr:aj)(jU:ak):Prop where
 len:jU.length=fr.length
 at_:∀(i:Nat) x v,fr[i]? =some x->jU[i]? =some v->∃c u,cl.lookup x=some c/\base.IsCell c (some u)/\RelV v u
 inj:∀x y c,cl.lookup x=some c->cl.lookup y=some c->x=y
 sub:∀x c,cl.lookup x=some c->x∈fr
theorem A7{ps:aj}(nd:ps.Nodup){us:aE}(hl:ps.length=us.length){i:Nat}{x:Str}{u:W'}(h1:ps[i]? =some x)(h2:us[i]? =some u):(ps.zip us).reverse.lookup x=some u:=by
 have hm:(x,u)∈ps.zip us:=bt (i:=i) (by rw[List.getElem?_zip_eq_some];exact⟨h1,h2⟩)
 have key:∀{l:List (Str×W')},(l.map (·.1)).Nodup->(x,u)∈l->l.lookup x=some u:=by
  intro l
  induction l with
  |nil=>intro _ h;cases h
  |cons p r ih=>
   intro n h;rw[eG,fN] at n;obtain⟨a,b⟩:=p;rcases aN.mp h with h|h
   .cases h;simp
   .have:x≠a:=λz=>n.1 (by rw[<-z];exact List.mem_map_of_mem (f:=(·.1)) h);rw[ip];rw[show(x==a)=false from qH.mpr this];exact ih n.2 h
 refine key ?_ (List.mem_reverse.mpr hm);rw[List.map_reverse,List.map_fst_zip (by lia)];exact List.pairwise_reverse.mpr (nd.imp λh=>h.symm)
theorem RF{CX:tY}{P:aan}{w:aai}{K:Frag}{mg:Str->aM}{base:aam}{ps fr:aj}{qual:Str}{scope:Scope}{f:Y'}{cd:W'}{cl:List (Str×Y')}{A:aal}{outer:List Env}{s:X'}{h1:aam}{H:Hp}{E:XK}{us:aE}{vs jU:ak}{tk:Nat}
 (S:qL ps fr scope) (C:Bj base cl fr jU) (hd:A.handled=none) (e0:Ck P w K mg base A outer s H) (hl:vs.length=ps.length) (r:Vals vs us)
 (ns:h1.Ns s.heap.objs.size (λx=>(ps.zip us).reverse.lookup x)) (sb:Heap.SameBut s.heap.objs.size (s.heap.push {cls:= .type "frame",data:= .dict #[]}) h1):
 Inv (J7 CX P w K mg base (ps++fr) qual scope f cd cl A outer s H E) [] (vs.map some++jU.map some) H {s with heap:=h1,toks:=tk}:=by
 have hul:=r.length;have hk:∀b o,s.heap.get? b=some o->h1.get? b=some o:=λb o e=>sb.extBut b o (bY (aX e)) (bg _ e);have QO:∀b:Y',b∉(J7 CX P w K mg base (ps++fr) qual scope f cd cl A outer s H E).ex:=λb z=>absurd (show b∈([]:bh) from z) (by simp)
 have aaU:∀x c,cl.lookup x=some c->∃v,base.IsCell c v:=λx c e=>by
  have hx:=C.sub x c e;obtain⟨i,hi,rfl⟩:=List.mem_iff_getElem.mp hx;obtain⟨c',u,e',ic,_⟩:=C.at_ i fr[i] (jU[i]'(by rw[C.len];exact hi)) (by simp) (by simp);rw[e] at e';cases e';exact⟨_,ic⟩
 have kc:∀{c:Y'} {v:aM},base.IsCell c v->h1.IsCell c v/\H c=none:=λ{c v} ⟨o,ho,hdt⟩=>⟨⟨o,hk _ _ (e0.bs _ _ ho).1,hdt⟩,(e0.bs _ _ ho).2⟩
 refine⟨⟨e0.mod,S.kind,Z,Z,aJ _,λy z c h1 h2=>C.inj y z c h1 h2,λy hy=> ?_,λy c h=>(nomatch h),λ_=>hd,Around.frames_deeper e0.frames,.inr ⟨Z,Z⟩,λb z=>absurd z (QO b),e0.bs,e0.LF,λb _ _=>QO b,λb z=>absurd z (QO b),e0.rR,e0.P8⟩,
  rfl,e0.bare,Un.kept hk,⟨_,ns,λi y v e1 e2 e3=> ?_⟩,λy c h=> ?_,e0.bM.fresh (aJ _),λy c h=> ?_,λp hp=>absurd (show p∈([]:aR) from hp) (by simp),e0.bM.kept hk,?_⟩
 .have hy:scope.names.lookup y=some .cell\/scope.names.lookup y=some .free:=hy;rcases hy with hy|hy
  .exact absurd Z (S.NJ _ (D' hy))
  .have hx:=S.all y hy;obtain⟨i,hi,rfl⟩:=List.mem_iff_getElem.mp hx;obtain⟨c',u,e',_⟩:=C.at_ i fr[i] (jU[i]'(by rw[C.len];exact hi)) (by simp) (by simp);exact⟨c',e'⟩
 .have e1:(ps++fr)[i]? =some y:=e1;by_cases hi:i<ps.length
  .rw[fz hi] at e1;rw[fz (by rw[aG];lia),bG] at e2;obtain⟨v',ev,z⟩:=Fy.mp e2;cases z;obtain⟨u,hu,rv⟩:=r.get ev;exact⟨u,rv,.inl ⟨S.par y (bt e1),A7 (S.nd.sublist (List.sublist_append_left _ _)) (by lia) e1 hu⟩⟩
  .rw[gS (by lia)] at e1;rw[gS (by rw[aG];lia),aG,hl,bG] at e2;obtain⟨v',ev,z⟩:=Fy.mp e2;cases z;obtain⟨c,u,ec,ic,rv⟩:=C.at_ _ y _ e1 ev;exact⟨u,rv,.inr ⟨.inr (S.fre y (bt e1)),c,ec,(kc ic).1⟩⟩
 .obtain⟨v,ic⟩:=aaU y c h;exact⟨v,(kc ic).1⟩
 .obtain⟨v,ic⟩:=aaU y c h;exact(kc ic).2
 .show _=(ps++fr).length;rw[aT,aT,aG,aG,hl,C.len]
theorem OL{CX:tY}{P:aan}{w:aai}{K:Frag}{mg:Str->aM}{base:aam}{k:Nat}{f:Y'}{name qual:Str}{params:Arguments}{body:aaa}{scope:Scope}{pm cC ct oc:W'}{od:Option Y'}
 {xF:Array (aM)} {cl:List (Str×Y')} {ps fr:aj} {jU:ak} {sp:Sp} (lk:base.get? f=some ⟨oc,od,.func (kla_fn name qual params body scope cl pm cC ct),xF⟩) (S:qL ps fr scope) (C:Bj base cl fr jU)
 (len:∀vs H Q E,sp vs H Q E->vs.length=ps.length) (AG:∀vs H Q E h,sp vs H Q E->o5 P w H h->(∀b o,base.get? b=some o->h.get? b=some o)->h.CodeRec cC qual)
 (gI:∀(A:aal) (outer:List Env) (s:X') (H:Hp) (vs:ak) (Q:VK) (E:XK),dQ k (A.deeper (envX qual scope s.heap.objs.size f cC cl))->sp vs H Q E->
  ∃t,PE (J7 CX P w K mg base (ps++fr) qual scope f cC cl A outer s H E) body t/\t (vs.map some++jU.map some) H Q):
 aQ P w K mg base CX (k+1) f (kla_fn name qual params body scope cl pm cC ct) ps sp:=by
 refine⟨len,λA outer s H args us vs Q E hr e0 hb r DW=> ?_⟩;have hl:=len _ _ _ _ DW;have lim:s.heap.NoLimit:=e0.mod.nolimit.keeps λb o e=>(e0.bs b o e).1;have IC:∀y∈ps.zip us,scope.names.lookup y.1=some .local:=λ⟨n,v⟩ hy=>S.par n (zL hy).1;refine PySem.W.kla_callFunE hr.depth (e0.bs _ _ lk).1 Z S.co S.gen Z (AG vs H Q E s.heap DW e0.bM λb o e=>(e0.bs b o e).1) (hb _ _ _ _ ?_);refine wpAny_newFunctionEnv S.NJ IC (λh1 QU hsb=>⟨lim.fresh _ hsb,?_⟩) S.kind;show codeAny _ _ (.expr body (envX qual scope s.heap.objs.size f cC cl)) _ _;obtain⟨t,ht,hq⟩:=gI A outer s H vs Q E (hr.deeper _) DW;have I:=RF (CX:=CX) (qual:=qual) (f:=f) (cd:=cC) (E:=E) (tk:=s.toks+(ps.zip us).length) S C hr.hd e0 hl r QU hsb;refine PySem.W.kla_codeExpr (fM (ht [] _ _ H _ I hq) (λu s' hs=> ?_) λe s' hs=>hs);obtain⟨v,H',J,rv,q⟩:=hs;exact⟨v,H',J.os,J.bare,J.base,J.bM,rv,q⟩
def iE(c:Y')(q:Str)(h:aam):Prop:=∃o vs t,h.get? c=some o/\o.data= .fields vs/\vs[1]? =some (.str q t)
theorem Nu{P:aan}{w:aai}{H:Hp}{h:aam}{c:Y'}{q:Str}(p:iE c q h):cg P w H h c (.ext (iE c q)):=by
 obtain⟨o,vs,t,e,r⟩:=p;exact⟨⟨o,vs,t,e,r⟩,⟨o,e⟩,λh1 h2 ⟨o,vs,t,e1,r1⟩ k=>⟨o,vs,t,k _ e1,r1⟩⟩
theorem iE.rec{P:aan}{w:aai}{H:Hp}{h:aam}{c:Y'}{q:Str}(ok:o5 P w H h)(e:H c=some (.ext (iE c q))):h.CodeRec (.ref c) q:=by
 obtain⟨o,vs,t,e1,r⟩:=(Ri ok e:iE c q h);exact⟨c,o,vs,t,Z,e1,r⟩
section
variable{X:Cx}{ad:aR}{σ:St}{H:Hp}{s:X'}{E:V'}{c P:Y'}{ps:Array W'}
theorem Inv.lam{h' :aam}{t' :Nat}{more:Array W'}{c' :Y'}{q:Str}{o:Obj}(I:Inv X ad σ H s)(eP:H P=some (.wy ps))(hx:∀b o,b≠P->s.heap.get? b=some o->h'.get? b=some o)
 (hP:h'.get? P=some {cls:= .none,data:= .fields (ps++more)}) (hc:s.heap.objs.size<=c') (hcp:iE c' q h'):
 Inv X ad σ (upd (upd H P (.wy (ps++more))) c' (.ext (iE c' q))) {s with heap:=h'.push o,toks:=t'}:=by
 have nP:∀b,H b=none->b≠P:=λb n z=>by rw[z,eP] at n;cases n
 have nc:∀b o,s.heap.get? b=some o->b≠c' :=λb o e z=>absurd (cq (aX e) (z▸hc)) (cn _);have hc0:H c' =none:=I.bM.fresh hc;have nH:∀b u,H b=some u->b≠c' :=λb u e z=>by rw[z,hc0] at e;cases e
 have kp:∀b o',b≠P->s.heap.get? b=some o'->(h'.push o).get? b=some o' :=λb o' n e=>bg _ (hx b o' n e);have hPp:(h'.push o).get? P=some {cls:= .none,data:= .fields (ps++more)}:=bg _ hP
 refine I.step (g' :=s.gens) (d' :=s.drawn) (ch:=[]) (λ_ z=>nomatch z) (λb o' _ _ _ e n=>kp b o' (nP b n) e) (λb o' _ _ _ e n=>⟨o'.slots,kp b o' (nP b n) e⟩) (λb o' _ e n=>by rw[au (nc b o' e),au (nP b n)];exact n)
  (λb o' _ e=> ?_) (λb xs e=> ?_) (λb o' u e=> ?_) (λb IT e=> ?_) (λm hm=> ?_) (λb u e=> ?_) I.bare
 .by_cases hb:b=P
  .rw[hb];exact⟨_,hPp⟩
  .exact⟨o',kp b o' hb e⟩
 .rw[au (nH b _ e),au (λz=>by rw[z,eP] at e;cases e)];exact e
 .rw[au (nH b _ e),au (λz=>by rw[z,eP] at e;cases e)];exact e
 .by_cases hb:b=P
  .subst hb;rw[eP] at e;cases e;exact⟨more,by rw[au (nH b _ eP),aa]⟩
  .exact⟨#[],by rw[au (nH b _ e),au hb,e];simp⟩
 .obtain⟨o',es,ep,e,r⟩:=hm;exact⟨o',es,ep,kp _ o' (nP _ I.free) e,r⟩
 .by_cases hb:b=c'
  .subst hb;rw[aa] at e;cases e;obtain⟨o',vs,t,e1,r⟩:=hcp;exact Nu ⟨o',vs,t,bg _ e1,r⟩
  .rw[au hb] at e;by_cases v_:b=P
   .subst v_;rw[aa] at e;cases e;exact hPp
   .rw[au v_] at e;refine(I.bM b u e).uD (λb' v DQ e' =>kp b' v ?_ e') (λb' q' => ?_) λb' ys q' => ?_
    .rcases DQ with z|z
     .rw[z];exact v_
     .exact λz' =>by rw[z',eP] at z;cases z
    .rw[au (nH b' _ q'),au (λz=>by rw[z,eP] at q';cases q')];exact q'
    .rw[au (nH b' _ q'),au (λz=>by rw[z,eP] at q';cases q')];exact q'
structure qQ(X:Cx)(c P:Y'):Prop where
 code:X.env.code= .ref c
 hd:CodeHd X.base c P
structure wx(X:Cx):Prop where
 at_:∃bm o,X.mg "__builtins__"=some (.ref bm)/\bm≠builtinsNs/\bm≠mainGlobals/\X.base.get? bm=some o/\o.cls= .type "module" /\o.dict=some builtinsNs/\o.data= .plain
variable{params:Arguments}{body:aaa}{scope:Scope}{pos:Pos}{lq:List (Str×Y')}{Q:V'}
noncomputable abbrev tq(X:Cx)(params:Arguments)(body:aaa)(scope:Scope)(lq:List (Str×Y'))(c' :Y')(wb:W'):Obj:=PySem.W.kla_obj "<lambda>" (X.env.qual++ "<lambda>") params body scope lq ((X.mg "__name__").getD .none) c' wb
theorem WH(I:Inv X ad σ H s)(T:qQ X c P)(B:wx X)(Cr:defaultsOf params X.env=([],[]))(P2:closureFor scope X.env=pure lq)(eP:H P=some (.wy ps))(ht:TriplesOk ps.toList)(hn:codeAmong pos ps.toList=none)
 (h:∀f c' wb s',H f=none->H c' =none->f≠c'->s.heap.objs.size<=f->Inv X ad σ (upd (upd H P (.wy (ps++ #[rawInt pos.line,rawInt pos.col,.ref c']))) c' (.ext (iE c' (X.env.qual++ "<lambda>")))) s'->s'.heap.get? f=some (tq X params body scope lq c' wb)->
  (∀b o,b≠P->s.heap.get? b=some o->s'.heap.get? b=some o)->Q (.ref f) s'):wpAny (model X.prog X.w) X.A (eval (.Lambda params body scope pos) X.env) Q E s:=by
 have hP:s.heap.get? P=some (tabObj ps):=I.bM P _ eP;obtain⟨bm,ob,b1,b2,b3,b4,b5⟩:=B.at_
 have hgP:mainGlobals≠P:=λz=>by
  obtain⟨o,es,ep,e,r⟩:=I.mod.glob;have:=(I.bs _ _ e).2;rw[z,eP] at this;cases this
 have hbP:bm≠P:=λz=>by
  have:=(I.bs _ _ b4).2;rw[z,eP] at this;cases this
 refine kla_eval Cr (PySem.W.kla_makeFunction (mg:=X.mg) P2 I.ok.glob (I.mod.glob.keeps I.bk) T.code (T.hd.keeps I.bk) hP ht hn hgP ⟨bm,ob,b1,b2,b3,hbP,(I.bs _ _ b4).1,b5⟩ λc' wb h' tk hx hge jB afw I_=> ?_);obtain⟨c2,oc,vs,t,e2,hoc,hd,hv⟩:=afw;cases e2;have pd:s.heap.objs.size<=h'.objs.size:=aL hge (cV jB);refine h h'.objs.size c' wb _ (I.bM.fresh pd) (I.bM.fresh hge) (gX jB) pd (I.lam eP (λb o n e=>hx b o n e) I_ hge ⟨oc,vs,t,hoc,hd,hv⟩) (cK _ Z) λb o n e=>bg _ (hx b o n e)
theorem Lo{c' :Y'}(I:Inv X ad σ H s)(T:qQ X c P)(B:wx X)(Cr:defaultsOf params X.env=([],[]))(P2:closureFor scope X.env=pure lq)(eP:H P=some (.wy ps))(ht:TriplesOk ps.toList)(hf:codeAmong pos ps.toList=some (.ref c'))
 (h:∀f wb s',H f=none->s.heap.objs.size<=f->Inv X ad σ H s'->s'.heap.get? f=some (tq X params body scope lq c' wb)->
  (∀b o,s.heap.get? b=some o->s'.heap.get? b=some o)->Q (.ref f) s'):wpAny (model X.prog X.w) X.A (eval (.Lambda params body scope pos) X.env) Q E s:=by
 have hP:s.heap.get? P=some (tabObj ps):=I.bM P _ eP;obtain⟨bm,ob,b1,b2,b3,b4,b5⟩:=B.at_
 have hbP:bm≠P:=λz=>by
  have:=(I.bs _ _ b4).2;rw[z,eP] at this;cases this
 refine kla_eval Cr (PySem.W.kla_makeFunctionHit (mg:=X.mg) P2 I.ok.glob (I.mod.glob.keeps I.bk) T.code (T.hd.keeps I.bk) hP ht hf ⟨bm,ob,b1,b2,b3,hbP,(I.bs _ _ b4).1,b5⟩ λwb h' tk hk pd=> ?_);have Q2 :∀b o,s.heap.get? b=some o->(h'.push (tq X params body scope lq c' wb)).get? b=some o:=λb o e=>bg _ (hk b o e);exact h h'.objs.size wb _ (I.bM.fresh pd) pd (I.kept Q2) (cK _ Z) Q2
end
noncomputable def BS(base:aam)(xs:bh):Hp:=λb=>if(base.get? b).isSome=true\/b∈xs then none else some (.wy #[])
theorem JC{base:aam}{xs:bh}{b:Y'}{o:Obj}(e:base.get? b=some o):BS base xs b=none:=by
 unfold BS;rw[ay (.inl (by rw[e];rfl))]
theorem LB{base:aam}{xs:bh}{b:Y'}(e:b∈xs):BS base xs b=none:=by
 unfold BS;rw[ay (.inr e)]
theorem As{base:aam}{xs:bh}{b:Y'}(e:BS base xs b=none):(∃o,base.get? b=some o)\/b∈xs:=by
 unfold BS at e
 split at e
 .rename_i h;rcases h with h|h
  .exact .inl (Option.isSome_iff_exists.mp h)
  .exact .inr h
 .cases e
section
variable{X:Cx}{ad:aR}{σ:St}{H:Hp}{s:X'}{xs:bh}
noncomputable abbrev xI(X:Cx)(s:X')(xs:bh):aam:=CN s.heap (BS X.base xs)
theorem Le(I:Inv X ad σ H s){b:Y'}{o:Obj}(e:X.base.get? b=some o):(xI X s xs).get? b=some o:=zR (I.bs b o e).1 (JC e)
theorem DK{b:Y'}{o:Obj}(hb:b∈xs)(e:s.heap.get? b=some o):(xI X s xs).get? b=some o:=zR e (LB hb)
theorem Inv.acr(I:Inv X ad σ H s)(hH:∀b∈xs,H b=none)(hF:∀b∈xs,b∉CK X.stack):Ck X.prog X.w X.K X.mg (xI X s xs) X.A X.stack s H:=by
 have up:∀b o,X.base.get? b=some o->(xI X s xs).get? b=some o:=λb o e=>Le I e;obtain⟨mb,h1,h2⟩:=I.mod.blt;refine⟨I.ok.frames,⟨I.mod.tZ.keeps up,I.mod.glob.keeps up,⟨mb,h1.keeps up,h2⟩,I.mod.nolimit.keeps up⟩,λb o e=> ?_,lP (Dt _ _),?_,I.u_,I.bM,I.bare⟩
 .obtain⟨e1,e2⟩:=EO e;refine⟨e1,?_⟩;rcases As e2 with⟨o',e3⟩|e3
  .exact(I.bs b o' e3).2
  .exact hH b e3
 .have all:∀(l:List Env),(∀b∈CK l,b∈CK X.stack)->s.heap.FunFrames X.base l->s.heap.FunFrames (xI X s xs) l:=by
   intro l
   induction l with
   |nil=>intro _ _;trivial
   |cons env r ih=>
    intro hs hl;obtain⟨hk,⟨L,o,hf,hn,ho,hd⟩,hr⟩:=hl;refine⟨hk,⟨L,o,hf,?_,ho,hd⟩,ih (λb hb=>hs b (by unfold CK;rw[oA,hf];exact a7 _ hb)) hr⟩
    cases q:(xI X s xs).get? L with
    |none=>rfl
    |some o' =>
     obtain⟨_,e2⟩:=EO q;rcases As e2 with⟨o',e3⟩|e3
     .rw[hn] at e3;cases e3
     .exact absurd (hs L (by unfold CK;rw[oA,hf];exact a9)) (hF L e3)
  exact all X.stack (λ_ h=>h) I.stack
end
theorem R1{X:Cx}{ad:aR}{σ:St}{H:Hp}{s:X'}{xs:bh}{CX:tY}{k:Nat}{f:Y'}{fd:aap}{ps:aj}{sp:Sp}{E:XK}{Q:VK}{us ds:aE}{vs dvs:ak}(F:aQ X.prog X.w X.K X.mg (xI X s xs) CX k f fd ps sp)(hr:dQ k X.A)(hb:Binds X.K fd ps ds)(hd:Vals dvs ds)
 (hx:wn CX X E) (I:Inv X ad σ H s) (hH:∀b∈xs,H b=none) (hF:∀b∈xs,b∉CK X.stack) (r:Vals vs us) (h:sp (vs++dvs) H Q E):wpAny (model X.prog X.w) X.A (call (.ref f) us) (EP X ad σ Q) X.xe s:=by
 have hl:(us++ds).length=ps.length:=by rw[<-(r.append hd).length];exact F.len _ _ _ _ h
 have XA:=hb s us I.kZ hl;refine oh (n8 (F.run X.A X.stack s H ⟨us,[]⟩ (us++ds) (vs++dvs) Q E hr (I.acr hH hF) XA (r.append hd) h) λr s' hq=> ?_)
 cases r with
 |error e=>exact hx ad σ H s e s' I hq
 |ok fl=>
  cases fl with
  |ret u=>exact I.after hq
  |next=>exact False.elim hq
  |brk=>exact False.elim hq
  |cont=>exact False.elim hq
section
variable{X:Cx}{CX:tY}{j k:Nat}{f:Y'}{fd RB :aap}{ps:aj}{sp:Sp}{E:XK}{x:Str}{p pos:Pos}{e:aaa}{es:b_}{te:TE}{t:TA}
def MY(f:Y')(sp:Sp)(E:XK)(te:TE)(t:TA):TE:=λσ H Q=>te σ H λv H1=>v= .ref f/\t σ H1 λvs H2=>sp vs H2 Q E
theorem Om(F:aQ X.prog X.w X.K X.mg X.base CX j f fd ps sp)(hf:∃oc od sl,X.base.get? f=some ⟨oc,od,.func RB,sl⟩)(hr:dQ k X.A)(hb:Binds X.K fd ps [])(hx:wn CX X E)(hn:PE X (.Name x p) te)(ha:PA X (e::es) t)(hj:j<=k:=by decide)
 (he:starEach (e::es) X.env=(false,eval e X.env)::starEach es X.env:=by rfl) (jY:(backTo pos (starEach es X.env)).any (·.1)=false:=by rfl):
 PE X (.Call (.Name x p) (e::es) [] pos) (MY f sp E te t):=by
 intro ad s σ H Q I h;obtain⟨oc,od,sl,lk⟩:=hf;refine mv (cN (hn ad s σ H _ I h) λu s1 ⟨v,H1,I1,rv,ev,q⟩=> ?_);subst ev;cases rv;refine PySem.W.callWith_F ⟨oc,od,RB,sl,I1.bk _ _ lk⟩ (cN (ha pos ad s1 σ H1 _ I1 q) λus s2 ⟨vs,H2,I2,r,q2⟩=>⟨⟨oc,od,RB,sl,I2.bk _ _ lk⟩,?_⟩) he jY;have:=Ad (dvs:=[]) (ds:=[]) (F.mono hj) hr hb .nil hx I2 r (by rw[bZ];exact q2);exact this
theorem Mg(F:aQ X.prog X.w X.K X.mg X.base CX j f fd ps sp)(hf:∃oc od sl,X.base.get? f=some ⟨oc,od,.func RB,sl⟩)(hr:dQ k X.A)(hb:Binds X.K fd ps [])(hx:wn CX X E)(hn:PE X (.Name x p) te)(hj:j<=k:=by decide):
 PE X (.Call (.Name x p) [] [] pos) (MY f sp E te yF):=by
 intro ad s σ H Q I h;obtain⟨oc,od,sl,lk⟩:=hf;refine mv (cN (hn ad s σ H _ I h) λu s1 ⟨v,H1,I1,rv,ev,q⟩=> ?_);subst ev;cases rv;exact PySem.W.callWith_F0 ⟨oc,od,RB,sl,I1.bk _ _ lk⟩ (Ad (us:=[]) (dvs:=[]) (ds:=[]) (F.mono hj) hr hb .nil hx I1 .nil q)
end
structure tJ(X:Cx)(scope:Scope)(lq:List (Str×Y'))(fr:aj)(js:List Nat):Prop where
 cl:closureFor scope X.env=pure lq
 len:js.length=fr.length
 slot:∀(i j:Nat) x,js[i]? =some j->fr[i]? =some x->X.N[j]? =some x
 kind:∀x∈fr,X.env.kindOf x=some .cell
 fn:∀x∈fr,X.fn x=true
 yQ:∀x∈fr,lq.lookup x=X.env.cells.lookup x
 sub:∀x c,lq.lookup x=some c->x∈fr
theorem tJ.none{X:Cx}{scope:Scope}(h:closureFor scope X.env=pure []):tJ X scope [] [] []:=
 ⟨h,Z,λi j x e=>by simp at e,λx h=>(nomatch h),λx h=>(nomatch h),λx h=>(nomatch h),λx c e=>by simp at e⟩
def JB(P:Y')(n6:Pos)(q:Str)(sp:Y'->Y'->ak->Sp)(E:XK)(js:List Nat)(dvs:ak)(t:TA):TE:=λσ H Q=>t σ H λvs H1=>∃(ps:Array W') (jU:ak),H1 P=some (.wy ps)/\TriplesOk ps.toList/\jU.length=js.length/\(∀(i j:Nat) v,js[i]? =some j->jU[i]? =some v->σ[j]? =some (some v))/\
 ((codeAmong n6 ps.toList=none/\∀f c',H1 f=none->H1 c' =none->f≠c'->sp f c' jU (vs++[.ref f]++dvs) (upd (upd H1 P (.wy (ps++ #[rawInt n6.line,rawInt n6.col,.ref c']))) c' (.ext (iE c' q))) Q E)\/
  ∃c',codeAmong n6 ps.toList=some (.ref c')/\H1 c' =some (.ext (iE c' q))/\∀f,H1 f=none->sp f c' jU (vs++[.ref f]++dvs) H1 Q E)
section
variable{X:Cx}{CX:tY}{j k:Nat}{g c P:Y'}{Zb:aap}{Zq fr:aj}{js:List Nat}{sp:Y'->Y'->ak->Sp}{E:XK}{x:Str}{p pos n6:Pos}{e:aaa}{t:TA}{ds:aE}{dvs:ak}{params:Arguments}{body:aaa}{scope:Scope}{lq:List (Str×Y')}
theorem Ke{ad:aR}{σ:St}{H:Hp}{s:X'}{Q:VK}{us0:aE}{vs:ak}(T:qQ X c P)(B:wx X)(C:tJ X scope lq fr js)(Cr:defaultsOf params X.env=([],[]))
 (F:∀(gF :aam) (f c' :Y') (wb:W') (jU:ak),gF.get? f=some (tq X params body scope lq c' wb)->Bj gF lq fr jU->aQ X.prog X.w X.K X.mg gF CX k g Zb Zq (sp f c' jU)) (hr:dQ k X.A) (hb:Binds X.K Zb Zq ds) (hd:Vals dvs ds) (hx:wn CX X E)
 (I:Inv X ad σ H s) (r:Vals vs us0) (h:JB P n6 (X.env.qual++ "<lambda>") sp E js dvs (λσ H Q' =>Q' vs H) σ H Q):
 wpAny (model X.prog X.w) X.A (eval (.Lambda params body scope n6) X.env) (λu s1=>X.K.In s1.heap/\wpAny (model X.prog X.w) X.A (call (.ref g) (us0++[u])) (EP X ad σ Q) X.xe s1) X.xe s:=by
 obtain⟨ps,jU,eP,ht,lI,hfv,acM⟩:=h
 have cells:∀y∈fr,∃c,X.env.cells.lookup y=some c/\X.fG.heap.objs.size<=c:=λy hy=>by
  obtain⟨c,e⟩:=I.ok.has y (.inl (C.kind y hy));exact⟨c,e,I.ok.Vw y c (C.fn y hy) e⟩
 have fin:∀{H' :Hp} {s' :X'} {f c' :Y'} {wb:W'},Inv X ad σ H' s'->H' f=none->s.heap.objs.size<=f->s'.heap.get? f=some (tq X params body scope lq c' wb)->sp f c' jU (vs++[.ref f]++dvs) H' Q E->
  X.K.In s'.heap/\wpAny (model X.prog X.w) X.A (call (.ref g) (us0++[.ref f])) (EP X ad σ Q) X.xe s' :=by
  intro H' s' f c' wb I' hf KD lk hq;refine⟨I'.kZ,?_⟩;have Qd:∀b∈CK X.stack,b=X.env.locals\/b∈X.fs:=λb hb=>aN.mp (I'.Bd b hb)
  have fsz:∀b∈X.fs,b<X.fG.heap.objs.size:=λb hb=>by
   obtain⟨_,o,ho,_⟩:=I.ok.rR.mem hb;exact aX ho
  have CT:∀b∈f::fr.filterMap (λy=>X.env.cells.lookup y),H' b=none/\b∉CK X.stack:=λb hb=>by
   rcases aN.mp hb with rfl|hb
   .refine⟨hf,λz=> ?_⟩;rcases Qd _ z with z|z
    .exact absurd (cq I.lt (z▸KD)) (cn _)
    .exact absurd (cq (fsz _ z) (aL I.sz KD)) (cn _)
   .obtain⟨y,hy,e⟩:=uL.mp hb;refine⟨I'.jA y b e,λz=> ?_⟩;rcases Qd _ z with z|z
    .exact I'.P4 y b e z
    .obtain⟨c1,e1,hc1⟩:=cells y hy;rw[e] at e1;cases e1;exact absurd (cq (fsz _ z) hc1) (cn _)
  have aeW:Bj (xI X s' (f::fr.filterMap (λy=>X.env.cells.lookup y))) lq fr jU:=by
   refine⟨by rw[lI,C.len],λi y v e1 e2=> ?_,λy z c0 e1 e2=> ?_,C.sub⟩
   .have hi:i<js.length:=by rw[C.len];exact(dE.mp e1).1
    have ej:js[i]? =some js[i]:=by simp
    have hy:=bt e1;obtain⟨m,_,hl⟩:=I'.loc;obtain⟨u,rv,l⟩:=hl js[i] y v (C.slot i _ y ej e1) (hfv i _ v ej e2) (.inr (.inl (C.kind y hy)));rcases l with⟨l1,_⟩|⟨_,c0,l1,o,ho,hd⟩
    .rw[C.kind y hy] at l1;cases l1
    .exact⟨c0,u,(C.yQ y hy).trans l1,⟨o,DK (a7 _ (uL.mpr ⟨y,hy,l1⟩)) ho,hd⟩,rv⟩
   .exact I.ok.inj y z c0 ((C.yQ y (C.sub y c0 e1)).symm.trans e1) ((C.yQ z (C.sub z c0 e2)).symm.trans e2)
  have r2:Vals (vs++[.ref f]) (us0++[.ref f]):=r.append (.cons Z .nil);exact R1 (F _ f c' wb jU (DK a9 lk) aeW) hr hb hd hx I' (λb hb=>(CT b hb).1) (λb hb=>(CT b hb).2) r2 hq
 rcases acM with⟨hn,hq⟩|⟨c',hh,hc,hq⟩
 .refine WH I T B Cr C.cl eP ht hn λf c' wb s' hf hc0 o8 KD I' lk _=>fin I' ?_ KD lk (hq f c' hf hc0 o8);rw[au o8,au (λz=>by rw[z,eP] at hf;cases hf)];exact hf
 .exact Lo I T B Cr C.cl eP ht hh λf wb s' hf KD I' lk _=>fin I' hf KD lk (hq f hf)
theorem RP(T:qQ X c P)(B:wx X)(C:tJ X scope lq fr js)
 (F:∀(gF :aam) (f c' :Y') (wb:W') (jU:ak),gF.get? f=some (tq X params body scope lq c' wb)->Bj gF lq fr jU->aQ X.prog X.w X.K X.mg gF CX j g Zb Zq (sp f c' jU)) (hr:dQ k X.A) (hg:Gl X x) (hm:X.mg x=some (.ref g)) (hk:PySem.W.keepIn X.K (.ref g)=true) (hb:Binds X.K Zb Zq ds) (hd:Vals dvs ds) (hx:wn CX X E)
 (hj:j<=k:=by decide) (Cr:defaultsOf params X.env=([],[]):=by rfl) (ua:(x==("__debug__" :Str))=false:=by decide) (he:starEach [.Lambda params body scope n6] X.env=[(false,eval (.Lambda params body scope n6) X.env)]:=by rfl):
 PE X (.Call (.Name x p) [.Lambda params body scope n6] [] pos) (JB P n6 (X.env.qual++ "<lambda>") sp E js dvs yF):=by
 intro ad s σ H Q I h;refine mv (mh I hg hm ?_ ua);refine qX (h₀:=X.base) I.ok.mod.tZ hk ?_ he rfl;rw[he];show wpAny _ _ (spliced ((false,eval (.Lambda params body scope n6) X.env)::[])) _ _ s;refine tK (cN (Ke (us0:=[]) (vs:=[]) T B C Cr (λb f c' wb jU h1 h2=>(F b f c' wb jU h1 h2).mono hj) hr hb hd hx I .nil h) λu s1 hu=>vo hu)
theorem Q1{te:TE}(T:qQ X c P)(B:wx X)(C:tJ X scope lq fr js)
 (F:∀(gF :aam) (f c' :Y') (wb:W') (jU:ak),gF.get? f=some (tq X params body scope lq c' wb)->Bj gF lq fr jU->aQ X.prog X.w X.K X.mg gF CX j g Zb Zq (sp f c' jU)) (hr:dQ k X.A) (hg:Gl X x) (hm:X.mg x=some (.ref g)) (hk:PySem.W.keepIn X.K (.ref g)=true) (hb:Binds X.K Zb Zq ds) (hd:Vals dvs ds) (hx:wn CX X E) (ha:PE X e te)
 (hj:j<=k:=by decide) (Cr:defaultsOf params X.env=([],[]):=by rfl) (ua:(x==("__debug__" :Str))=false:=by decide) (he:starEach [e,.Lambda params body scope n6] X.env=[(false,eval e X.env),(false,eval (.Lambda params body scope n6) X.env)]:=by rfl) (he2:starEach [.Lambda params body scope n6] X.env=[(false,eval (.Lambda params body scope n6) X.env)]:=by rfl):
 PE X (.Call (.Name x p) [e,.Lambda params body scope n6] [] pos) (JB P n6 (X.env.qual++ "<lambda>") sp E js dvs (Au te yF)):=by
 intro ad s σ H Q I h;refine mv (mh I hg hm ?_ ua);refine qX (h₀:=X.base) I.ok.mod.tZ hk ?_ (by rw[he,he2]) (by rw[he2];rfl);rw[he];show wpAny _ _ (spliced ((false,eval e X.env)::(false,eval (.Lambda params body scope n6) X.env)::[])) _ _ s;refine tK (cN (ha ad s σ H _ I h) λu s1 ⟨v,H1,I1,r1,q1⟩=> ?_);exact tK (cN (Ke (us0:=[u]) (vs:=[v]) T B C Cr (λb f c' wb jU h1 h2=>(F b f c' wb jU h1 h2).mono hj) hr hb hd hx I1 (.cons r1 .nil) q1) λu2 s2 hu=>vo hu)
end
structure J4(tabs:List (Y'×Array W'))(H:Hp):Prop where
 only:∀b,H b=none\/(∃o xs,H b=some (.Gj o (.lst xs)))\/∃ps,(b,ps)∈tabs/\H b=some (.wy ps)
 at_:∀P ps,(P,ps)∈tabs->H P=some (.wy ps)
theorem Dk{β:Type}{l:List (Y'×β)}{k:Y'}{v:β}(h:l.lookup k=some v):(k,v)∈l:=by
 obtain⟨l1,l2,e,_⟩:=E1.mp h;rw[e];simp
theorem Lj{P:aan}{w:aai}{K:Frag}{mg mb:Str->aM}{CX:tY}{k:Nat}{fa a:Y'}{fd:aap}{x:Str}{sp:Sp}{bP:X'}{vs:aE}{ns:List Int}{tabs:List (Y'×Array W')}
 (KX:K.In bP.heap) (QU:bP.heap.Ns mainGlobals mg) (hb:bP.heap.Ns builtinsNs mb) (XA:∀x:Str,x≠ "__name__" ->mb x=bootBuiltins x) (afQ:bP.heap.NoLimit) (hg:bP.gens= #[])
 (ha:bP.heap.get? a=some {cls:= .type "list",data:= .seq vs.toArray}) (hi:IntsAre vs ns) (hl:ns.length<=sizeLine) (hr:dQ k callerA)
 (I_:∀Pt ps,(Pt,ps)∈tabs->bP.heap.get? Pt=some (tabObj ps)/\K.lookup Pt=none/\∃c,CodeHd bP.heap c Pt) (htn:∀Pt ps IT,(Pt,ps)∈tabs->(Pt,IT)∈tabs->ps=IT)
 (F:∀base:aam,K.In base->base.Ns mainGlobals mg->aQ P w K mg base CX k fa fd [x] sp) (aa0:∀(s:X') (u:W'),BindsTo s fd ⟨[u],[]⟩ [(x,u)])
 (DW:∀H:Hp,J4 tabs H->bq K H a (ns.map V.int)->sp [.ref a] H (λv _=>v= .bl true) λ_ _ _=>False)
 (hCX:∀H e s',CX [] H bP (λ_ _ _=>False) e s'->False):
 codeAny (model P w) callerA (.call (.ref fa) ⟨[.ref a],[]⟩) (λr s' =>r= .ok (.ret (.bool true))/\OldK bP.heap s'.heap/\s'.os=bP.os/\AllBare s'.gens) bP:=by
 have rv:=Du hi;have aey:=hi.length
 have core:∀H:Hp,J4 tabs H->bq K H a (ns.map V.int)->o5 P w H bP.heap->(∀b,H b≠none->K.lookup b=none/\∀o es ep,bP.heap.get? b=some o->o.data≠.dict es ep)->
  codeAny (model P w) callerA (.call (.ref fa) ⟨[.ref a],[]⟩) (λr s' =>r= .ok (.ret (.bool true))/\OldK bP.heap s'.heap/\s'.os=bP.os/\AllBare s'.gens) bP:=by
  intro H hO hS bM hK;have KI:∀{b:Y'} {o:Obj},bP.heap.get? b=some o->H b=none->(CN bP.heap H).get? b=some o:=λe n=>zR e n
  have QO:∀{b:Y'} {o:Obj} {es:Array DictEntry} {ep:Nat},bP.heap.get? b=some o->o.data= .dict es ep->H b=none:=λ{b o es ep} e d=>by
   cases q:H b with
   |none=>rfl
   |some u=>exact absurd d ((hK b (by rw[q];simp)).2 o es ep e)
  have nsK:∀{b:Y'} {m:Str->aM},bP.heap.Ns b m->(CN bP.heap H).Ns b m:=λ{b m} ⟨o,es,ep,e,d,r⟩=>⟨o,es,ep,KI e (QO e d),d,r⟩
  have hKb:K.In (CN bP.heap H):=λb o e=>KI (KX b o e) (by
   cases q:H b with
   |none=>rfl
   |some u=>
    rw[(hK b (by rw[q];simp)).1] at e;cases e)
  have hM:Mod K mg (CN bP.heap H):=⟨hKb,nsK QU,⟨mb,nsK hb,XA⟩,let⟨mc,h1,h2⟩:=afQ;⟨mc,nsK h1,h2⟩⟩;have e0:Ck P w K mg (CN bP.heap H) callerA [] bP H:=⟨Z,hM,λb o e=>EO e,lP (Dt _ _),trivial,λb hb=>absurd (show b∈([]:bh) from hb) (by simp),bM,.of_eq hg⟩;refine n8 ((F _ hKb (nsK QU)).run callerA [] bP H ⟨[.ref a],[]⟩ [.ref a] [.ref a] _ _ hr e0 (aa0 bP (.ref a)) (.cons Z .nil) (DW H hO hS)) λr s' h=> ?_
  cases r with
  |error e=>exact(hCX H e s' h).elim
  |ok fl=>
   cases fl with
   |next=>exact False.elim h
   |brk=>exact False.elim h
   |cont=>exact False.elim h
   |ret u=>
    obtain⟨v,H',os,bare,un,abS,r',q⟩:=h;have q' :v= .bl true:=q;subst q';obtain rfl:u=Value.bool true:=r';refine⟨Z,⟨λb o e=> ?_,λb o e=>un.there b o e (by simp)⟩,os,bare⟩
    cases q:H b with
    |none=>exact .inl (un.keep b o e q (by intro z;exact absurd (show b∈([]:bh) from z) (by simp)) (by simp))
    |some u=>
     rcases hO.only b with z|⟨ob,xs,z⟩|⟨ps,hm,z⟩
     .rw[q] at z;cases z
     .have z2:=un.zZ b ob _ z;obtain⟨e1,_⟩:=bM b _ z;obtain⟨e2,_⟩:=abS b _ z2;rw[e] at e1;cases e1
      exact .inl e2
     .obtain⟨more,z2⟩:=un.Bu b ps z;have e2:s'.heap.get? b=some {cls:= .none,data:= .fields (ps++more)}:=abS b _ z2;obtain⟨e1,_,c,hc⟩:=I_ b ps hm;rw[e] at e1;cases e1;exact .inr (.inl ⟨(hc.tab e).isCodeTable,Z,ps,more,Z,e2⟩)
 have nPa:∀Pt ps,(Pt,ps)∈tabs->Pt≠a:=λPt ps hm z=>by
  have:=(I_ Pt ps hm).1;rw[z,ha] at this;cases this
 have mk:∀u:Option HO,(∀x,u=some x->x= .Gj {cls:= .type "list",data:= .seq vs.toArray} (.lst (ns.map V.int))/\K.lookup a=none)->
  ∃H:Hp,H a=u/\J4 tabs H/\o5 P w H bP.heap/\∀b,H b≠none->K.lookup b=none/\∀o es ep,bP.heap.get? b=some o->o.data≠.dict es ep:=by
  intro u hu
  have lk:∀Pt ps,(Pt,ps)∈tabs->tabs.lookup Pt=some ps:=λPt ps hm=>by
   cases q:tabs.lookup Pt with
   |none=>
    have:=List.lookup_eq_none_iff.mp q (Pt,ps) hm;simp at this
   |some IT =>rw[htn Pt ps IT hm (Dk q)]
  have at' :∀Pt ps,(Pt,ps)∈tabs->(if Pt=a then u else(tabs.lookup Pt).map HO.wy)=some (.wy ps):=λPt ps hm=>by rw[aq (nPa Pt ps hm),lk Pt ps hm];rfl
  have HZ :∀b x,(if b=a then u else(tabs.lookup b).map HO.wy)=some x->(b=a/\u=some x)\/∃ps,(b,ps)∈tabs/\x= .wy ps:=λb x e=>by
   by_cases hb:b=a
   .rw[ay hb] at e;exact .inl ⟨hb,e⟩
   .rw[aq hb] at e;obtain⟨ps,e1,rfl⟩:=Fy.mp e;exact .inr ⟨ps,Dk e1,Z⟩
  refine⟨λb=>if b=a then u else(tabs.lookup b).map HO.wy,ay Z,⟨λb=> ?_,at'⟩,λb x e=> ?_,λb hb=> ?_⟩
  .cases q:(if b=a then u else(tabs.lookup b).map HO.wy) with
   |none=>exact .inl rfl
   |some x=>
    rcases HZ b x q with⟨_,e⟩|⟨ps,hm,rfl⟩
    .obtain⟨rfl,_⟩:=hu x e;exact .inr (.inl ⟨_,_,Z⟩)
    .exact .inr (.inr ⟨ps,hm,Z⟩)
  .rcases HZ b x e with⟨DQ,e'⟩|⟨ps,hm,rfl⟩
   .obtain⟨rfl,_⟩:=hu x e';subst DQ;exact⟨ha,by rw[aG];exact hl,vs,_,rv,ha⟩
   .exact(I_ b ps hm).1
  .obtain⟨x,q⟩:=Option.ne_none_iff_exists'.mp hb;rcases HZ b x q with⟨DQ,e'⟩|⟨ps,hm,rfl⟩
   .subst DQ;refine⟨(hu x e').2,λo es ep eo d=> ?_⟩;rw[ha] at eo;cases eo;cases d
   .obtain⟨e1,e2,_⟩:=I_ b ps hm;refine⟨e2,λo es ep eo d=> ?_⟩;rw[e1] at eo;cases eo;cases d
 cases hk:K.lookup a with
 |some o=>
  have e:=KX a o hk;rw[ha] at e;cases e;obtain⟨H,_,hO,bM,hK⟩:=mk none (λx e=>(nomatch e));exact core H hO (.inr ⟨_,vs.toArray,_,hk,Z,Z,Z,by rw[bC,aey];exact hl,by simpa using rv⟩) bM hK
 |none=>
  obtain⟨H,eH,hO,bM,hK⟩:=mk (some (.Gj {cls:= .type "list",data:= .seq vs.toArray} (.lst (ns.map V.int)))) (λx e=>by cases e;exact⟨Z,hk⟩);exact core H hO (.inl (.inr ⟨_,eH⟩)) bM hK
theorem Pr{l:PySem.W.OpenLaw}{n k:Nat}{q:aan}{loose:aj}{XP:(Str->aM)->aam->Prop}{YP:aai->aam->Prop}{d:DefRec}{K:Params->Frag}{CX:aai->tY}{sp:aai->Sp}{x:Str}{tabs:List (Y'×Array W')}
 (hn:l.most=some n) (Zg:n<=sizeLine) (hdf:d.params.defaults=[]) (hr:dQ k callerA)
 (hY:∀(w:aai) (h:aam),YP w h->(K w.params).In h/\∀Pt ps,(Pt,ps)∈tabs->h.get? Pt=some (tabObj ps)/\(K w.params).lookup Pt=none/\∃c,CodeHd h c Pt) (htn:∀Pt ps IT,(Pt,ps)∈tabs->(Pt,IT)∈tabs->ps=IT)
 (F:∀(w:aai) (mg:Str->aM) (fa:Y') (h:aam),(K w.params).In h->h.Ns mainGlobals mg->mg d.name=some (.ref fa)->
  ∃fd:aap,(∀(s:X') (u:W'),BindsTo s fd ⟨[u],[]⟩ [(x,u)])/\
   ∀base:aam,(K w.params).In base->base.Ns mainGlobals mg->aQ l.prog w (K w.params) mg base (CX w) k fa fd [x] (sp w))
 (DW:∀(w:aai) (H:Hp) (a:Y') (ns:List Int),ns.length<=n->J4 tabs H->bq (K w.params) H a (ns.map V.int)->sp w [.ref a] H (λv _=>v= .bl true) λ_ _ _=>False)
 (hCX:∀(w:aai) (H:Hp) (s:X') (e:W') (s' :X'),CX w [] H s (λ_ _ _=>False) e s'->False):
 PySem.W.WalkO q loose XP YP l.row.toRowW d [] (λf vs=>PySem.call f vs):=by
 refine Att.Gb hn hdf λw fG bP mg mb fa o pm cd doc a vs ns G Y ho hd AG Xk X8 hints hlen hg=> ?_;obtain⟨KX,I_⟩:=hY w _ Y;obtain⟨fd,hb,hF⟩:=F w mg fa _ KX G.T.g Xk;exact Lj KX G.T.g G.T.b G.T.builtins G.T.nolimit hg X8 hints (aL hlen Zg) hr I_ htn hF hb (λH hO hS=>DW w H a ns hlen hO hS) λH e s' =>hCX w H bP e s'
structure AZ(P:aan)(w:aai)(K:Frag)(d:Y')(bF:gu):Prop where
 ex:∃o vs,K.lookup d=some o/\(d==sysModules)=false/\KV bF vs/\∀h:aam,h.get? d=some o->h.DictOf (c5 P w) d vs
def Yp(d:Y')(bF:gu)(ta tb:TE):TE:=λσ H Q=>ta σ H λx H1=>tb σ H1 λy H2=>∃k v,x= .ref d/\y=kV k/\i4 bF k=some v/\Q v H2
def OC(d:Y')(bF:gu)(ty td:TE):TE:=λσ H Q=>ty σ H λy H1=>td σ H1 λx H2=>∃k,x= .ref d/\y=kV k/\Q (.bl (!(i4 bF k).isSome)) H2
section
variable{X:Cx}{d:Y'}{bF:gu}{o i:aaa}{pos:Pos}{td ty:TE}
theorem AZ.at_{P:aan}{w:aai}{K:Frag}{h:aam}(kd:AZ P w K d bF)(X:K.In h):(d==sysModules)=false/\∃vs,KV bF vs/\h.DictOf (c5 P w) d vs:=by
 obtain⟨o,vs,lk,ns,rel,f⟩:=kd.ex;exact⟨ns,vs,rel,f h (X _ _ lk)⟩
theorem jv(kd:AZ X.prog X.w X.K d bF)(ho:PE X o td)(hi:PE X i ty)(hs:acT i:=by exact λ_ _=>rfl):PE X (.Subscript o i pos) (Yp d bF td ty):=by
 intro ad s σ H Q I h;refine R4 PySem.F.slot_dict_getitem.lookup hs (cN (ho ad s σ H _ I h) λu s1 ⟨x,H1,I1,rx,q1⟩=>cN (hi ad s1 σ H1 _ I1 q1) λiv s2 ⟨y,H2,I2,ry,k,v,ex,ey,l,q2⟩=> ?_);subst ex ey;obtain rfl:u=Value.ref d:=rx;obtain⟨hd,vs,rel,dd⟩:=kd.at_ I2.kZ;obtain⟨w',hw,M5⟩:=mw.some_of (v:=v) (o:=valueAt vs k) (by rw[<-l];exact rel.val k);obtain⟨ob,es,ep,e1,e2,_⟩:=id dd;exact⟨⟨ob,e1,e2.1⟩,wpAny_getItem_of (GC ry) dd.mapOf hw ⟨v,H2,I2.tok _,M5,q2⟩⟩
theorem Ao(kd:AZ X.prog X.w X.K d bF)(hi:PE X i ty)(ho:PE X o td):PC X .NotIn i o (OC d bF ty td):=by
 intro ad s σ H Q I h;refine cN (hi ad s σ H _ I h) λiv s1 ⟨y,H1,I1,ry,q1⟩=>cN (ho ad s1 σ H1 _ I1 q1) λu s2 ⟨x,H2,I2,rx,k,ex,ey,q2⟩=> ?_;subst ex ey;obtain rfl:u=Value.ref d:=rx;obtain⟨hd,vs,rel,dd⟩:=kd.at_ I2.kZ;refine wpAny_notIn_of (GC ry) hd dd.mapOf ?_;rw[<-(rel.val k).Mi];exact⟨.bl _,H2,I2.tok _,Z,q2⟩
end
structure AB(K:Frag)(cd:W')(P:Y'):Prop where
 ex:∃c o vs file tf flags tg inF text tt,cd= .ref c/\K.lookup c=some o/\o.cls= .type "code" /\o.data= .fields vs/\vs[11]? =some (.ref P)/\vs.getD 11 .none= .ref P/\vs.getD 18 .none= .str file tf/\
  vs.getD 7 .none= .int flags tg/\vs.getD 9 .none= .bool inF/\vs.getD 10 .none= .int text tt/\c≠P
theorem AB.tab{X:Cx}{cd:W'}{P:Y'}(h:AB X.K cd P)(m:X.K.In X.base)(e:X.env.code=cd):∃c,qQ X c P:=by
 obtain⟨c,o,vs,file,tf,flags,tg,inF,text,tt,e1,e2,r⟩:=h.ex;exact⟨c,e.trans e1,o,vs,file,tf,flags,tg,inF,text,tt,m _ _ e2,r⟩
theorem AB.hd{K:Frag}{cd:W'}{P:Y'}{h:aam}(k:AB K cd P)(m:K.In h):∃c,CodeHd h c P:=by
 obtain⟨c,o,vs,file,tf,flags,tg,inF,text,tt,e1,e2,r⟩:=k.ex;exact⟨c,o,vs,file,tf,flags,tg,inF,text,tt,m _ _ e2,r⟩
structure QR(K:Frag)(mg:Str->aM):Prop where
 ex:∃bm o,mg "__builtins__"=some (.ref bm)/\bm≠builtinsNs/\bm≠mainGlobals/\K.lookup bm=some o/\o.cls= .type "module" /\o.dict=some builtinsNs/\o.data= .plain
theorem QR.mod{X:Cx}(h:QR X.K X.mg)(m:X.K.In X.base):wx X:=by
 obtain⟨bm,o,e1,e2,e3,e4,r⟩:=h.ex;exact⟨bm,o,e1,e2,e3,m _ _ e4,r⟩
section
variable{P:aan}{w:aai}{K:Frag}{mg:Str->aM}{base:aam}{x qual:Str}{st:Stmt}{f:Y'}{fd:aap}{N ps:aj}{k:Nat}{sp:Sp}
theorem Gm.okC{CX:tY}(F:Gm K x qual st f fd)(S:aC N ps (ao st))
 (hb:∀(A:aal) (outer:List Env) (s:X') (H:Hp) (vs:ak) (Q:VK) (E:XK),dQ k (A.deeper (envOfC qual (ao st) s.heap.objs.size f fd.code))->sp vs H Q E->
  ∃t,DE (mQ CX P w K mg base N qual (ao st) f fd.code A outer s H E) (dr st) t/\t {nx:=λ_ H' =>Q .bV H',rt:=Q} (start N vs) H)
 (len:∀vs H Q E,sp vs H Q E->vs.length=ps.length:=by intro _ _ _ _ h;repeat (first|(obtain⟨rfl,_⟩:=h;rfl)|obtain⟨_,h⟩:=h)):aQ P w K mg base CX (k+1) f fd ps sp:=by
 obtain⟨oc,od,kV,doc,pm,an,cC,ct,xF,rfl,lk,AG⟩:=F.ex;exact JP lk AG S len λA outer s H vs Q E hr DW=>hb A outer s H vs Q E hr DW
end
section
variable{prog:aan}{w:aai}{A:aal}{E:V'}{s:X'}
theorem gM{it t:Y'}{i:Nat}{items}{x:W'}{Q:V'}(hit:s.heap.IsTupleIter it t i)(ht:s.heap.IsTuple t items)(hx:items[i]? =some x)
 (hQ:∀h',h'.IsTupleIter it t (i+1)->Heap.SameBut it s.heap h'->Q x {s with heap:=h'}):wpAny (model prog w) A (Builtin.SmallTypes.nextOf (.ref it)) Q E s:=by
 obtain⟨o,ho,hc,hd⟩:=id hit;obtain⟨ol,hol,_,nl,hdl⟩:=ht;unfold Builtin.SmallTypes.nextOf
 refine av (wH (name:=Str.ofString "__next__") hit.typeIs ze
  (tV ze hit.typeIs F.entry_tuple_iterator_next ?_ (F.args_tuple_iterator_next_1 _)))
 show wpAny _ _ (field (.ref it) 0>>= _) _ _ s;refine av (cP ho hd (x:= .ref t) Z ?_);show wpAny _ _ (if(Value.ref t==Value.none)=true then _ else _) _ _ s;rw[aq (show ¬((Value.ref t==Value.none)=true) from cE)];show wpAny _ _ (field (.ref it) 1>>= _) _ _ s;refine av (cP ho hd (x:= .int i 0) Z ?_);show wpAny _ _ (seqItems? (.ref t)>>= _) _ _ s;refine av (nV hol hdl ?_);simp only[mD,hx];refine av (oB ho hd (by simp) (aW ⟨x,Z,aW (hQ _ ?_ (Heap.SameBut.update ..))⟩))
 exact⟨_,kP _ ho (zi (tL hd _)),(Obj.cls_mapFields ..).trans hc,by
  rw[tL hd];simp[rawInt]⟩
theorem qB{it t:Y'}{i:Nat}{items}{Q:V'}(hh:A.handled=none)(hit:s.heap.IsTupleIter it t i)(ht:s.heap.IsTuple t items)(hx:items[i]? =none)
 (hE:∀h' e,Heap.ExtBut it s.heap h'->(∃o,h'.get? e=some o/\o.cls= .type "StopIteration")->E (.ref e) {s with heap:=h'}):wpAny (model prog w) A (Builtin.SmallTypes.nextOf (.ref it)) Q E s:=by
 obtain⟨o,ho,hc,hd⟩:=id hit;obtain⟨ol,hol,_,nl,hdl⟩:=ht;unfold Builtin.SmallTypes.nextOf
 refine av (wH (name:=Str.ofString "__next__") hit.typeIs ze
  (tV ze hit.typeIs F.entry_tuple_iterator_next ?_ (F.args_tuple_iterator_next_1 _)))
 show wpAny _ _ (field (.ref it) 0>>= _) _ _ s;refine av (cP ho hd (x:= .ref t) Z ?_);show wpAny _ _ (if(Value.ref t==Value.none)=true then _ else _) _ _ s;rw[aq (show ¬((Value.ref t==Value.none)=true) from cE)];show wpAny _ _ (field (.ref it) 1>>= _) _ _ s;refine av (cP ho hd (x:= .int i 0) Z ?_);show wpAny _ _ (seqItems? (.ref t)>>= _) _ _ s;refine av (nV hol hdl ?_);simp only[mD,hx];refine av (qE (av (oB ho hd (by simp) ?_)));show wpAny _ _ (newExc (.type "StopIteration") []>>= _) _ _ _;refine av ?_;simp only[newExc,newTuple];refine av (nX ?_ (by size_fits));refine av (m:=firstArgMember _ _) (wpAny_of_eq (a:=Value.none) (by first|rfl|(simp only[firstArgMember];rfl)) ?_);refine nX ?_ (by size_fits);simp only[raiseNew];refine av (wpAny_handled ?_)
 first|rw[show A.in1.handled=none from hh]|rw[hh]
 refine av (aW (wpAny_throw ?_));exact hE _ _ (((Heap.SameBut.update ..).extBut.push _).push _) ⟨_,cK _ Z,Z⟩
abbrev MK(h:aam)(z TI TO:Y')(f0:W')(f:Bool):Prop:=
 h.get? z=some {cls:= .type "zip",dict:=none,data:= .fields #[f0,.bool f,.bool false,.ref TI,.ref TO],slots:= #[]}
abbrev agC(h:aam)(z TO i1 i2 S:Y')(f0:W')(f:Bool):Prop:=(f0= .none/\f=false)\/∃(a:Y') (oa:Obj),f0=rawInt a/\h.get? a=some oa/\a≠z/\a≠TO/\a≠i1/\a≠i2/\a≠S
structure Pe(h:aam)(z TI TO i1 i2 t1 t2 S:Y')(xs ys:Array W')(k:Nat):Prop where
 z:∃f0 f,MK h z TI TO f0 f/\agC h z TO i1 i2 S f0 f
 ti:IsPair h TI (.ref i1) (.ref i2)
 to:∃a b,IsPair h TO a b
 h1:h.IsTupleIter i1 t1 k
 h2:h.IsTupleIter i2 t2 k
 l1:h.IsTuple t1 xs
 l2:h.IsTuple t2 ys
end
section
variable{prog:aan}{w:aai}{A:aal}{E:V'}{s:X'}
theorem Oo{z TI TO i1 i2 l1 l2:Y'}{k1 k2:Nat}{xs ys:Array W'}{x y a b:W'}{Q:V'}(D:ZipApart z TI TO i1 i2 l1 l2)
 (hz:IsZip s.heap z TI TO .none) (zK:IsPair s.heap TI (.ref i1) (.ref i2)) (EB:IsPair s.heap TO a b)
 (h1:s.heap.IsTupleIter i1 l1 k1) (h2:s.heap.IsTupleIter i2 l2 k2) (A4:s.heap.IsTuple l1 xs) (lK:s.heap.IsTuple l2 ys) (hx:xs[k1]? =some x) (hy:ys[k2]? =some y)
 (hQ:∀h',IsZip h' z TI TO (rawInt s.heap.objs.size)->IsPair h' TO x y->h'.IsTupleIter i1 l1 (k1+1)->h'.IsTupleIter i2 l2 (k2+1)->IsPair h' s.heap.objs.size x y->h'.objs.size=s.heap.objs.size+1->
  (∀c o,c≠z->c≠TO->c≠i1->c≠i2->s.heap.get? c=some o->h'.get? c=some o)->Q (.ref s.heap.objs.size) {s with heap:=h'}):
 wpAny (model prog w) A (Builtin.«zip.__next__» ⟨[.ref z],[]⟩) (λfin s' =>∃v,fin= .done (.ret v)/\Q v s') E s:=by
 show wpAny _ _ (field (.ref z) 2>>= _) _ _ _;refine av (cP hz Z (x:= .bool false) Z ?_);show wpAny _ _ (field (.ref z) 3>>= _) _ _ _;refine av (cP hz Z (x:= .ref TI) Z ?_);refine av (nV zK Z ?_);show wpAny _ _ (Builtin.SmallTypes.ownedTupleIsFree (.ref z)>>= _) _ _ _;refine av ?_;unfold Builtin.SmallTypes.ownedTupleIsFree;refine av (cP hz Z (x:= .none) Z (aW ?_));simp only[oz];refine av (qE ?_);refine av (cP hz Z (x:= .ref TO) Z ?_);refine av (wM hz (by simp) λh₁ sN eY=> ?_);replace sN:IsZip h₁ z TI TO .ellipsis:=sN;refine av ?_;simp only[List.zipIdx_cons,List.zipIdx_nil,vj,zo];refine av (av (zu ?_));show wpAny _ _ (Builtin.SmallTypes.nextOf (.ref i1)>>= _) _ _ _;refine av (gM (h1.extBut eY.extBut D.i1z) (A4.extBut eY.extBut D.l1z) hx λkj PN jt=>aW ?_);have NF:IsPair kj TO a b:=jt.extBut _ _ D.TOi1 (eY.extBut _ _ D.TOz EB);refine av (nV NF Z ?_);refine av (wpAny_updateSeq_pair NF λqx Jj jN=> ?_);replace Jj:IsPair qx TO x b:=Jj;refine av (wpAny_letGo (aW ?_));refine av (av (zu ?_));show wpAny _ _ (Builtin.SmallTypes.nextOf (.ref i2)>>= _) _ _ _
 refine av (gM (((h2.extBut eY.extBut D.i2z).extBut jt.extBut D.i12.symm).extBut jN.extBut D.TOi2.symm)
  (((lK.extBut eY.extBut D.l2z).extBut jt.extBut D.l2i1).extBut jN.extBut D.l2TO) hy λXx acG FX=>aW ?_)
 have Ng:IsPair Xx TO x b:=FX.extBut _ _ D.TOi2 Jj;refine av (nV Ng Z ?_);refine av (wpAny_updateSeq_pair Ng λo6 Ff Hu=> ?_);replace Ff:IsPair o6 TO x y:=Ff;refine av (wpAny_letGo (aW (aW ?_)));refine av (nV Ff Z ?_);refine av (wpAny_newTuple ?_);have pd:o6.objs.size=s.heap.objs.size:=by rw[Hu.1,FX.1,jN.1,jt.1,eY.1]
 have Sb:IsZip o6 z TI TO .ellipsis:=Hu.extBut _ _ D.TOz.symm (FX.extBut _ _ D.i2z.symm (jN.extBut _ _ D.TOz.symm (jt.extBut _ _ D.i1z.symm sN)))
 have aar:∀c o,c≠z->c≠TO->c≠i1->c≠i2->s.heap.get? c=some o->o6.get? c=some o:=λc o c1 c2 c3 c4 e=>
  Hu.extBut _ _ c2 (FX.extBut _ _ c4 (jN.extBut _ _ c2 (jt.extBut _ _ c3 (eY.extBut _ _ c1 e))))
 have aa1:o6.IsTupleIter i1 l1 (k1+1):=((PN.extBut jN.extBut D.TOi1.symm).extBut FX.extBut D.i12).extBut Hu.extBut D.TOi1.symm;have abp:o6.IsTupleIter i2 l2 (k2+1):=acG.extBut Hu.extBut D.TOi2.symm;have acX:z<o6.objs.size:=aX Sb;show wpAny _ _ (Builtin.SmallTypes.ownedTupleHandOut (.ref z) (.ref o6.objs.size)>>= _) _ _ _;refine av ?_;unfold Builtin.SmallTypes.ownedTupleHandOut;have acB:IsZip (o6.push {cls:= .type "tuple",data:= .seq #[x,y]}) z TI TO .ellipsis:=bg _ Sb;refine av (wM acB (by simp) λaeP PB N8=> ?_);replace PB:IsZip aeP z TI TO (rawInt o6.objs.size):=PB;refine wM PB (by simp) λLQ Ka N3=> ?_;replace Ka:IsZip LQ z TI TO (rawInt o6.objs.size):=Ka;have up:∀c o,c≠z->o6.get? c=some o->LQ.get? c=some o:=λc o c1 e=>N3.extBut _ _ c1 (N8.extBut _ _ c1 (bg _ e));have VM:IsPair LQ o6.objs.size x y:=N3.extBut _ _ (gX acX) (N8.extBut _ _ (gX acX) (cK _ Z));have Wz:LQ.objs.size=o6.objs.size+1:=by rw[N3.1,N8.1,jE]
 rw[pd] at Ka VM Wz;refine aW ⟨_,Z,?_⟩;show Q (.ref o6.objs.size) _;rw[pd];have at1:∀{q r n},q≠z->o6.IsTupleIter q r n->LQ.IsTupleIter q r n:=λhq ⟨o,ho,r⟩=>⟨o,up _ _ hq ho,r⟩;exact hQ LQ Ka (up _ _ D.TOz Ff) (at1 D.i1z aa1) (at1 D.i2z abp) VM Wz λc o c1 c2 c3 c4 e=>up c o c1 (aar c o c1 c2 c3 c4 e)
theorem Kz{z TI TO a:Y'}{f:Bool}{oa:Obj}{Q:Bool->X'->Prop}(hz:MK s.heap z TI TO (rawInt a) f)(ha:s.heap.get? a=some oa)
 (hQ:∀h',MK h' z TI TO (rawInt a) true->Heap.SameBut z s.heap h'->Q false {s with heap:=h'}):wpAny (model prog w) A (Builtin.SmallTypes.ownedTupleIsFree (.ref z)) Q E s:=by
 unfold Builtin.SmallTypes.ownedTupleIsFree;refine av (cP hz Z (x:=rawInt a) Z ?_);show wpAny _ _ (loadIfAlive ((a:Int).toNat)>>= _) _ _ _;rw[mD];refine av (PySem.W.kdx_alive ha ?_);simp only[Option.isNone_some,uM,me];refine av (cP hz Z (x:= .bool f) Z ?_)
 cases f with
 |true=>
  rw[aq (show ¬((Value.bool true !=Value.bool true)=true) from cE)];exact aW (hQ s.heap hz (Heap.SameBut.refl _ _))
 |false=>
  rw[ay (show(Value.bool false !=Value.bool true)=true from Z)];refine av (wM hz (by simp) λqx Kp jN=> ?_);exact aW (hQ qx Kp jN)
theorem RG{z TI TO i1 i2 l1 l2 a:Y'}{f:Bool}{oa:Obj}{k1 k2:Nat}{xs ys:Array W'}{x y:W'}{Q:V'}(D:ZipApart z TI TO i1 i2 l1 l2)
 (hz:MK s.heap z TI TO (rawInt a) f) (ha:s.heap.get? a=some oa) (zK:IsPair s.heap TI (.ref i1) (.ref i2))
 (h1:s.heap.IsTupleIter i1 l1 k1) (h2:s.heap.IsTupleIter i2 l2 k2) (A4:s.heap.IsTuple l1 xs) (lK:s.heap.IsTuple l2 ys) (hx:xs[k1]? =some x) (hy:ys[k2]? =some y)
 (hQ:∀h',MK h' z TI TO (rawInt a) true->h'.IsTupleIter i1 l1 (k1+1)->h'.IsTupleIter i2 l2 (k2+1)->IsPair h' s.heap.objs.size x y->h'.objs.size=s.heap.objs.size+1->
  (∀c o,c≠z->c≠i1->c≠i2->s.heap.get? c=some o->h'.get? c=some o)->Q (.ref s.heap.objs.size) {s with heap:=h'}):
 wpAny (model prog w) A (Builtin.«zip.__next__» ⟨[.ref z],[]⟩) (λfin s' =>∃v,fin= .done (.ret v)/\Q v s') E s:=by
 show wpAny _ _ (field (.ref z) 2>>= _) _ _ _;refine av (cP hz Z (x:= .bool false) Z ?_);show wpAny _ _ (field (.ref z) 3>>= _) _ _ _;refine av (cP hz Z (x:= .ref TI) Z ?_);refine av (nV zK Z ?_);show wpAny _ _ (Builtin.SmallTypes.ownedTupleIsFree (.ref z)>>= _) _ _ _;refine av (Kz hz ha λh₁ sN eY=> ?_);simp only[uM,me];refine av ?_;refine wpAny_arrayLoop ?_;simp only[vj,zo];refine av (av (jF ?_));show wpAny _ _ (Builtin.SmallTypes.nextOf (.ref i1)>>= _) _ _ _;refine av (gM (h1.extBut eY.extBut D.i1z) (A4.extBut eY.extBut D.l1z) hx λkj PN jt=>aW (aW ?_));refine av (av (jF ?_));show wpAny _ _ (Builtin.SmallTypes.nextOf (.ref i2)>>= _) _ _ _;refine av (gM ((h2.extBut eY.extBut D.i2z).extBut jt.extBut D.i12.symm) ((lK.extBut eY.extBut D.l2z).extBut jt.extBut D.l2i1) hy λqx ZN jN=>aW (aW (aW ?_)));show wpAny _ _ (newTuple [x,y]>>= _) _ _ _;refine av (wpAny_newTuple (aW ⟨_,Z,?_⟩));have pd:qx.objs.size=s.heap.objs.size:=by rw[jN.1,jt.1,eY.1]
 show Q (.ref qx.objs.size) _;rw[pd];have up:∀c o,qx.get? c=some o->(qx.push {cls:= .type "tuple",data:= .seq #[x,y]}).get? c=some o:=λc o e=>bg _ e;have at1:∀{q r n},qx.IsTupleIter q r n->(qx.push {cls:= .type "tuple",data:= .seq #[x,y]}).IsTupleIter q r n:=λ⟨o,ho,r⟩=>⟨o,up _ _ ho,r⟩;refine hQ _ (up _ _ (jN.extBut _ _ D.i2z.symm (jt.extBut _ _ D.i1z.symm sN))) (at1 (PN.extBut jN.extBut D.i12)) (at1 ZN) ?_ ?_ λc o c1 c3 c4 e=>up _ _ (jN.extBut _ _ c4 (jt.extBut _ _ c3 (eY.extBut _ _ c1 e)))
 .rw[<-pd];exact cK _ rfl
 .rw[jE,pd]
theorem XU{z TI TO i1 i2 l1 l2 S:Y'}{k:Nat}{xs ys:Array W'}{Q:Fin->X'->Prop}(hh:A.handled=none)(D:ZipApart z TI TO i1 i2 l1 l2)(ac:Pe s.heap z TI TO i1 i2 l1 l2 S xs ys k)(hx:xs[k]? =none)
 (hE:∀h' e,(∀c o,c≠z->c≠i1->s.heap.get? c=some o->h'.get? c=some o)->(∃o,h'.get? e=some o/\o.cls= .type "StopIteration")->E (.ref e) {s with heap:=h'}):
 wpAny (model prog w) A (Builtin.«zip.__next__» ⟨[.ref z],[]⟩) Q E s:=by
 obtain⟨⟨f0,f,hz,hw⟩,zK,⟨a,b,EB⟩,h1,h2,A4,lK⟩:=ac;show wpAny _ _ (field (.ref z) 2>>= _) _ _ _;refine av (cP hz Z (x:= .bool false) Z ?_);show wpAny _ _ (field (.ref z) 3>>= _) _ _ _;refine av (cP hz Z (x:= .ref TI) Z ?_);refine av (nV zK Z ?_);show wpAny _ _ (Builtin.SmallTypes.ownedTupleIsFree (.ref z)>>= _) _ _ _;rcases hw with⟨rfl,rfl⟩|⟨a',oa,rfl,ha,_⟩
 .refine av ?_;unfold Builtin.SmallTypes.ownedTupleIsFree;refine av (cP hz Z (x:= .none) Z (aW ?_));simp only[oz];refine av (qE ?_);refine av (cP hz Z (x:= .ref TO) Z ?_);refine av (wM hz (by simp) λh₁ sN eY=> ?_);replace sN:IsZip h₁ z TI TO .ellipsis:=sN;refine av ?_;simp only[List.zipIdx_cons,List.zipIdx_nil,vj,zo];refine av (av (zu ?_));show wpAny _ _ (Builtin.SmallTypes.nextOf (.ref i1)>>= _) _ _ _;refine av (qB hh (h1.extBut eY.extBut D.i1z) (A4.extBut eY.extBut D.l1z) hx λkj e jt he=> ?_);obtain⟨oe,X_,hce⟩:=he;have V8:IsZip kj z TI TO .ellipsis:=jt _ _ D.i1z.symm sN;have hez:e≠z:=λx=>by subst x;rw[V8] at X_;cases X_;simp at hce
  refine wM V8 (by simp) λqx _ jN=>hE qx e (λc o c1 c3 x=>jN.extBut _ _ c1 (jt _ _ c3 (eY.extBut _ _ c1 x))) ⟨oe,jN.extBut _ _ hez X_,hce⟩
 .refine av (Kz hz ha λh₁ sN eY=> ?_);simp only[uM,me];refine av ?_;refine wpAny_arrayLoop ?_;simp only[vj,zo];refine av (av (jF ?_));show wpAny _ _ (Builtin.SmallTypes.nextOf (.ref i1)>>= _) _ _ _;exact av (qB hh (h1.extBut eY.extBut D.i1z) (A4.extBut eY.extBut D.l1z) hx λkj e jt he=>hE kj e (λc o c1 c3 x=>jt _ _ c3 (eY.extBut _ _ c1 x)) he)
theorem Qs{z TI TO i1 i2 l1 l2 S:Y'}{k:Nat}{xs ys:Array W'}{x y:W'}{Q:aM->X'->Prop}(D:ZipApart z TI TO i1 i2 l1 l2)(ac:Pe s.heap z TI TO i1 i2 l1 l2 S xs ys k)(hS:S<s.heap.objs.size)(hx:xs[k]? =some x)(hy:ys[k]? =some y)
 (hQ:∀h',Pe h' z TI TO i1 i2 l1 l2 S xs ys (k+1)->IsPair h' s.heap.objs.size x y->h'.objs.size=s.heap.objs.size+1->(∀c o,c≠z->c≠TO->c≠i1->c≠i2->s.heap.get? c=some o->h'.get? c=some o)->Q (some (.ref s.heap.objs.size)) {s with heap:=h'}):
 wpAny (model prog w) A (pyNext (.ref z)) Q E s:=by
 obtain⟨⟨f0,f,hz,hw⟩,zK,⟨a,b,EB⟩,h1,h2,A4,lK⟩:=ac;have hT:s.TypeIs (.ref z) "zip":=⟨_,hz,Z⟩;have lt:∀{c o},s.heap.get? c=some o->s.heap.objs.size≠c:=λe=>gX (aX e);have q1:s.heap.objs.size≠i1:=by obtain⟨o,e,_⟩:=h1;exact lt e
 have q2:s.heap.objs.size≠i2:=by obtain⟨o,e,_⟩:=h2;exact lt e
 unfold pyNext;refine av (wpAny_attempt (wH (name:=Str.ofString "__next__") hT vd (tV vd hT F.entry_zip_next ?_ (F.args_zip_next_1 _))));rcases hw with⟨rfl,rfl⟩|⟨a',oa,rfl,ha,a1,a2,a3,a4,a5⟩
 .refine Oo D hz zK EB h1 h2 A4 lK hx hy λh' b1 b2 b3 b4 b5 b6 hk=>aW (hQ h' ⟨⟨_,_,b1,.inr ⟨_,_,Z,b5,lt hz,lt EB,q1,q2,gX hS⟩⟩,hk _ _ D.TIz D.TITO D.TIi1 D.TIi2 zK,⟨_,_,b2⟩,b3,b4,?_,?_⟩ b5 b6 hk)
  .obtain⟨o,e,r⟩:=A4;exact⟨o,hk _ _ D.l1z D.l1TO D.l1i1 D.l1i2 e,r⟩
  .obtain⟨o,e,r⟩:=lK;exact⟨o,hk _ _ D.l2z D.l2TO D.l2i1 D.l2i2 e,r⟩
 .refine RG D hz ha zK h1 h2 A4 lK hx hy λh' b1 b3 b4 b5 b6 hk=>aW (hQ h' ⟨⟨_,_,b1,.inr ⟨_,_,Z,hk _ _ a1 a3 a4 ha,a1,a2,a3,a4,a5⟩⟩,hk _ _ D.TIz D.TIi1 D.TIi2 zK,⟨_,_,hk _ _ D.TOz D.TOi1 D.TOi2 EB⟩,b3,b4,?_,?_⟩ b5 b6 λc o c1 _ c3 c4 e=>hk c o c1 c3 c4 e)
  .obtain⟨o,e,r⟩:=A4;exact⟨o,hk _ _ D.l1z D.l1i1 D.l1i2 e,r⟩
  .obtain⟨o,e,r⟩:=lK;exact⟨o,hk _ _ D.l2z D.l2i1 D.l2i2 e,r⟩
theorem QZ{z TI TO i1 i2 l1 l2 S:Y'}{k:Nat}{xs ys:Array W'}{Q:aM->X'->Prop}(hh:A.handled=none)(D:ZipApart z TI TO i1 i2 l1 l2)(ac:Pe s.heap z TI TO i1 i2 l1 l2 S xs ys k)(hx:xs[k]? =none)
 (hQ:∀h',(∀c o,c≠z->c≠i1->s.heap.get? c=some o->h'.get? c=some o)->Q none {s with heap:=h'}):wpAny (model prog w) A (pyNext (.ref z)) Q E s:=by
 obtain⟨⟨f0,f,hz,hw⟩,r⟩:=id ac;have hT:s.TypeIs (.ref z) "zip":=⟨_,hz,Z⟩;unfold pyNext
 refine av (wpAny_attempt (wH (name:=Str.ofString "__next__") hT vd
  (tV vd hT F.entry_zip_next (XU hh D ac hx λh' e hk he=> ?_) (F.args_zip_next_1 _))))
 obtain⟨o,ho,hc⟩:=he;refine av (wpAny_isInstance (T:="StopIteration") (b:=true) ⟨o,ho,hc⟩ isSubtype_stop ?_);exact aW (hQ _ hk)
theorem Pe.keep{h h' :aam}{z TI TO i1 i2 t1 t2 S:Y'}{xs ys:Array W'}{k:Nat}(ac:Pe h z TI TO i1 i2 t1 t2 S xs ys k)(hk:∀b o,b≠S->h.get? b=some o->h'.get? b=some o)(n:∀b∈[z,TI,TO,i1,i2,t1,t2],b≠S):Pe h' z TI TO i1 i2 t1 t2 S xs ys k:=by
 obtain⟨⟨f0,f,hz,hw⟩,zK,⟨a,b,EB⟩,⟨o1,e1,h1⟩,⟨o2,e2,h2⟩,⟨o3,e3,A4⟩,⟨o4,e4,lK⟩⟩:=ac;refine⟨⟨f0,f,hk _ _ (n z (by simp)) hz,?_⟩,hk _ _ (n TI (by simp)) zK,⟨a,b,hk _ _ (n TO (by simp)) EB⟩,⟨o1,hk _ _ (n i1 (by simp)) e1,h1⟩,⟨o2,hk _ _ (n i2 (by simp)) e2,h2⟩,⟨o3,hk _ _ (n t1 (by simp)) e3,A4⟩,⟨o4,hk _ _ (n t2 (by simp)) e4,lK⟩⟩;rcases hw with q|⟨a',oa,q1,ha,q2,q3,q4,q5,q6⟩
 .exact .inl q
 .exact .inr ⟨a',oa,q1,hk _ _ q6 ha,q2,q3,q4,q5,q6⟩
end
structure ZG(xs ys:Array W')(lo:Y')(h:aam)(as:bh):Prop where
 rise:as.Pairwise (· < ·)
 above:∀a∈as,lo<a
 pairs:∀(j:Nat) (a:Y'),as[j]? =some a->∃x y,xs[j]? =some x/\ys[j]? =some y/\IsPair h a x y
section
variable{prog:aan}{w:aai}{A:aal}{E:V'}{s:X'}{R:Result->X'->Prop}{xs ys:Array W'}{z TI TO i1 i2 l1 l2 S:Y'}
theorem Q5(hh:A.handled=none)(D:ZipApart z TI TO i1 i2 l1 l2)(hSz:S≠z)(n:∀b∈[z,TI,TO,i1,i2,l1,l2],b≠S)(lo:Y')(MR:∀b∈[z,TO,i1,i2,S],b<=lo)(he:xs.size=ys.size)(hn:xs.size<=sizeLine)(res:W'){h₁:aam}
 (hR:∀h' tk acc c as,(∀b o,b≠S->b≠z->b≠TO->b≠i1->b≠i2->h₁.get? b=some o->h'.get? b=some o)->h'.get? S=some {cls:= .type "list",dict:=none,data:= .seq acc c,slots:= #[]}->as.length=xs.size->ZG xs ys lo h' as->
  acc.toList=as.map Value.ref->R (.ok (.ret res)) {s with heap:=h',toks:=tk}):
 ∀(k i:Nat) (h:aam) (tk c:Nat) (acc:Array W') (as:bh),xs.size - i=k->i<=xs.size->Pe h z TI TO i1 i2 l1 l2 S xs ys i->(∀b o,b≠S->b≠z->b≠TO->b≠i1->b≠i2->h₁.get? b=some o->h.get? b=some o)->
  h.get? S=some {cls:= .type "list",dict:=none,data:= .seq acc c,slots:= #[]}->acc.toList=as.map Value.ref->as.length=i->ZG xs ys lo h as->lo<h.objs.size->
  codeAny (model prog w) A (.builtin "list.extend.loop" ⟨[.ref S,.ref z,res],[]⟩) R {s with heap:=h,toks:=tk}:=by
 have Xa:∀a b,lo<a->b∈[z,TO,i1,i2,S]->a≠b:=λa b h hb q=>absurd (MR b hb) (by rw[<-q];exact Nat.not_le.mpr h);have above:∀a,lo<a->a≠S/\a≠z/\a≠TO/\a≠i1/\a≠i2:=λa h=>⟨Xa a S h (by simp),Xa a z h (by simp),Xa a TO h (by simp),Xa a i1 h (by simp),Xa a i2 h (by simp)⟩;intro k
 induction k with
 |zero=>
  intro i h tk c acc as hk hi pj PV hS Er Ir hG hIs;have Zt:i=xs.size:=by lia
  refine codeAny_builtin entry_extend_loop ?_;rw[Around.under_plainId zD _];show wpAny _ A.in1 (pyNext (.ref z)>>= _) _ _ _;refine av (QZ (s:={s with heap:=h,toks:=tk}) (A:=A.in1) hh D pj (Array.getElem?_eq_none (by lia)) λh' he=> ?_);refine aW (hR h' tk acc c as (λb o h1 h2 h3 h4 h5 e=>he b o h2 h4 (PV b o h1 h2 h3 h4 h5 e)) (he S _ hSz (b7 (n i1 (by simp))) hS) (by lia) ⟨hG.rise,hG.above,λj a hj=> ?_⟩ Er);obtain⟨x,y,e1,e2,e3⟩:=hG.pairs j a hj;have q:=above a (hG.above a (bt hj));exact⟨x,y,e1,e2,he a _ q.2.1 q.2.2.2.1 e3⟩
 |succ k ih=>
  intro i h tk c acc as hk hi pj PV hS Er Ir hG hIs;have jB:i<xs.size:=by lia
  have Qe:i<ys.size:=by lia
  have pd:acc.size=i:=by rw[<-vP,Er,aG,Ir]
  refine codeAny_builtin entry_extend_loop ?_;rw[Around.under_plainId zD _];show wpAny _ A.in1 (pyNext (.ref z)>>= _) _ _ _;refine av (Qs (s:={s with heap:=h,toks:=tk}) (S:=S) D pj (aX hS) (uQ jB) (uQ Qe) λh' agm ht hz hkp=> ?_);dsimp only at ht hz hkp ⊢;have hS' :=hkp S _ hSz (b7 (n TO (by simp))) (b7 (n i1 (by simp))) (b7 (n i2 (by simp))) hS;have up:∀b o,b≠S->h'.get? b=some o->(h'.update S (Obj.mapSeq (·.push (Value.ref h.objs.size)))).get? b=some o:=λb o hb e=>(fY _ _ (b7 hb)).trans e;have hSl:S<h.objs.size:=aX hS;show wpAny _ A.in1 (updateSeq S (·.push (Value.ref h.objs.size))>>= _) _ _ _;refine av ?_
  refine zh hS' Z (aW ⟨plainId_quiet zD _,ih (i+1) _ tk _ (acc.push (Value.ref h.objs.size)) (as++[h.objs.size]) (by lia) jB (agm.keep up n)
   (λb o h1 h2 h3 h4 h5 e=>up b o h1 (hkp b o h2 h3 h4 h5 (PV b o h1 h2 h3 h4 h5 e))) (kP _ hS' Z) (by rw[Array.toList_push,Er,cu];rfl) (by rw[aT,Ir];rfl) ⟨?_,?_,?_⟩ ?_⟩) (by rw[pd];lia) (by show(acc.push (Value.ref h.objs.size)).size<=sizeLine+1;rw[Array.size_push,pd];lia)
  .refine List.pairwise_append.mpr ⟨hG.rise,List.pairwise_singleton _ _,λa ha b hb=> ?_⟩;rw[fB.mp hb];obtain⟨j,hj⟩:=vw.mp ha;obtain⟨_,_,_,_,e⟩:=hG.pairs j a hj;exact aX e
  .intro a ha;rcases cW.mp ha with ha|ha
   .exact hG.above a ha
   .rw[fB.mp ha];exact hIs
  .intro j b hj;rcases Nat.lt_trichotomy j as.length with h1|h1|h1
   .rw[fz h1] at hj;obtain⟨x',y',e1,e2,e3⟩:=hG.pairs j b hj;have q:=above b (hG.above b (bt hj));exact⟨x',y',e1,e2,up b _ q.1 (hkp b _ q.2.1 q.2.2.1 q.2.2.2.1 q.2.2.2.2 e3)⟩
   .subst h1;have hb:h.objs.size=b:=by simpa using hj
    subst hb;exact⟨_,_,by rw[Ir];exact uQ jB,by rw[Ir];exact uQ Qe,up _ _ (gX hSl) ht⟩
   .have abH:(as++[h.objs.size])[j]? =none:=jI (by rw[aT,EX];lia);rw[abH] at hj;cases hj
  .have e:(h'.update S (Obj.mapSeq (·.push (Value.ref h.objs.size)))).get? h.objs.size=_:=up _ _ (gX hSl) ht;exact rp hIs (aX e)
end
theorem K1:typeLookup (.type "zip") "__len__"=pure none:=by rw[typeLookup_type,builtinLookup_eq_fast];kernel_rfl
theorem IU:typeLookup (.type "zip") "__length_hint__"=pure none:=by rw[typeLookup_type,builtinLookup_eq_fast];kernel_rfl
section
variable{prog:aan}{w:aai}{A:aal}{E:V'}{s:X'}{R:Result->X'->Prop}{xs ys:Array W'}{z TI TO i1 i2 l1 l2 S:Y'}
theorem L3(hh:A.handled=none)(D:ZipApart z TI TO i1 i2 l1 l2)(hSz:S≠z)(n:∀b∈[z,TI,TO,i1,i2,l1,l2],b<S)(he:xs.size=ys.size)(hn:xs.size<=sizeLine)(res:W')(c₀:Nat)(hS:s.heap.get? S=some {cls:= .type "list",data:= .seq #[] c₀})(pj:Pe s.heap z TI TO i1 i2 l1 l2 S xs ys 0)
 (hR:∀h' tk acc c as,(∀b o,b≠S->b≠z->b≠TO->b≠i1->b≠i2->s.heap.get? b=some o->h'.get? b=some o)->h'.get? S=some {cls:= .type "list",dict:=none,data:= .seq acc c,slots:= #[]}->as.length=xs.size->ZG xs ys S h' as->
  acc.toList=as.map Value.ref->R (.ok (.ret res)) {s with heap:=h',toks:=tk}):
 wpAny (model prog w) A.in1 (Builtin.List.listExtendWith (.ref S) (.ref z) res)
  (λfin s' =>match fin with| .done f=>R (.ok f) s' | .again c' =>c'.quiet=true/\codeAny (model prog w) A c' R s') (λe s' =>R (.error e) s') s:=by
 have n' :∀b∈[z,TI,TO,i1,i2,l1,l2],b≠S:=λb hb=>bY (n b hb)
 have MR:∀b∈[z,TO,i1,i2,S],b<=S:=λb hb=>by
  simp only[aN,cF,cH] at hb;rcases hb with rfl|rfl|rfl|rfl|rfl
  .exact cV (n _ (by simp))
  .exact cV (n _ (by simp))
  .exact cV (n _ (by simp))
  .exact cV (n _ (by simp))
  .exact aJ _
 have key:∀(h:aam) (c₁ tk:Nat),(∀b o,b≠S->s.heap.get? b=some o->h.get? b=some o)->h.get? S=some {cls:= .type "list",data:= .seq #[] c₁}->codeAny (model prog w) A (.builtin "list.extend.loop" ⟨[.ref S,.ref z,res],[]⟩) R {s with heap:=h,toks:=tk}:=by
  intro h c₁ tk hk Tq;exact Q5 (s:=s) (h₁:=s.heap) hh D hSz n' S MR he hn res hR xs.size 0 h tk c₁ #[] [] (Nat.sub_zero _) (bU _) (pj.keep hk n') (λb o hb _ _ _ _ e=>hk b o hb e) Tq Z Z ⟨List.Pairwise.nil,(λ_ ha=>nomatch ha),(λj a hj=>by simp at hj)⟩ (aX Tq)
 obtain⟨f0,f,hz,_⟩:=pj.z;have hT:s.TypeIs (.ref z) "zip":=⟨_,hz,Z⟩;unfold Builtin.List.listExtendWith;refine av (wpAny_typeOf (T:="zip") hT ?_);have h1:Builtin.List.listSameRef (.ref S) (.ref z)=false:=by simp[Builtin.List.listSameRef,hSz]
 rw[aq (by rw[h1];decide)];refine av (wpAny_pyIter_slot hT F.slot_zip_iter (tV F.slot_zip_iter hT F.entry_zip_iter (show wpAny _ _ (ret (.ref z)) _ _ s from aW ⟨_,Z,"zip",_,hT,vd.lookup,?_⟩) (F.args_zip_iter_1 _)));refine av (jF ?_);unfold Builtin.List.listLengthHint;refine av (wpAny_specialOf hT K1 ?_);show wpAny _ A.in1 (specialOf (Value.ref z) (Str.ofString "__length_hint__")>>= _) _ _ _;refine av (wpAny_specialOf hT IU ?_);refine aW ?_;refine wpAny_ite_split (λ_=> ?_) (λhab=>absurd Z hab);refine av (qE ?_);refine av ?_;show wpAny _ _ (updateSeq S (·.push .none)>>= λ_=>updateSeq S (·.pop)) _ _ _;refine av (zh hS Z ?_);have JY:=kP (Obj.mapSeq (·.push Value.none)) hS rfl;refine zh (hz:=by seq_fits) JY Z ?_;have Z5:=kP (Obj.mapSeq (·.pop)) JY rfl;refine aW ⟨plainId_quiet zD _,key _ _ _ (λb o hb e=> ?_) Z5⟩;exact(fY _ _ (b7 hb)).trans ((fY _ _ (b7 hb)).trans e)
theorem Rw{Q:V'}(hh:A.handled=none)(D:ZipApart z TI TO i1 i2 l1 l2)(he:xs.size=ys.size)(hn:xs.size<=sizeLine)(pj:∀S,s.heap.objs.size<=S->Pe s.heap z TI TO i1 i2 l1 l2 S xs ys 0)
 (hQ:∀h' tk acc c as,(∀b o,b≠z->b≠TO->b≠i1->b≠i2->s.heap.get? b=some o->h'.get? b=some o)->h'.get? s.heap.objs.size=some {cls:= .type "list",dict:=none,data:= .seq acc c,slots:= #[]}->as.length=xs.size->ZG xs ys s.heap.objs.size h' as->
  acc.toList=as.map Value.ref->Q (.ref s.heap.objs.size) {s with heap:=h',toks:=tk}):
 wpAny (model prog w) A (call (.type "list") [.ref z]) Q E s:=by
 have ac:=pj s.heap.objs.size (aJ _)
 have n:∀b∈[z,TI,TO,i1,i2,l1,l2],b<s.heap.objs.size:=λb hb=>by
  obtain⟨⟨f0,f,hz,hw⟩,zK,⟨a,b',EB⟩,⟨o1,e1,h1⟩,⟨o2,e2,h2⟩,⟨o3,e3,A4⟩,⟨o4,e4,lK⟩⟩:=ac;simp only[aN,cF,cH] at hb;rcases hb with rfl|rfl|rfl|rfl|rfl|rfl|rfl
  .exact aX hz
  .exact aX zK
  .exact aX EB
  .exact aX e1
  .exact aX e2
  .exact aX e3
  .exact aX e4
 refine callType_codes (Q₁:=λobj bP=>obj= .ref s.heap.objs.size/\bP={s with heap:=s.heap.push {cls:= .type "list",data:= .seq #[]}}) F.called_list (F.typeCall_list_1 _) F.entry_list_init
  (code_list_new _ ⟨Z,Z⟩) λobj bP h₁=> ?_
 obtain⟨rfl,rfl⟩:=h₁;have hS:(s.heap.push {cls:= .type "list",data:= .seq #[]}).get? s.heap.objs.size=some {cls:= .type "list",data:= .seq #[]}:=cK _ rfl;refine⟨⟨_,hS,Z⟩,F.args_list_init_2 _ _,?_⟩;show wpAny _ _ (do let old<-Builtin.List.listItems (.ref s.heap.objs.size);Builtin.List.listUpdate (.ref s.heap.objs.size) (λ_=> #[]);letGo old.toList.reverse;Builtin.List.listExtendWith (.ref s.heap.objs.size) (.ref z) .none) _ _ _;refine av ?_;unfold Builtin.List.listItems;refine av (nV hS Z (aW ?_));show wpAny _ _ (updateSeq s.heap.objs.size (λ_=> #[])>>= λ_=>letGo (#[]:Array W').toList.reverse>>= λ_=>Builtin.List.listExtendWith (.ref s.heap.objs.size) (.ref z) .none) _ _ _;refine av (zh hS Z ?_);have JY:=kP (Obj.mapSeq (λ_=>(#[]:Array W'))) hS rfl
 have oth:∀b o,b≠s.heap.objs.size->s.heap.get? b=some o->((s.heap.push {cls:= .type "list",data:= .seq #[]}).update s.heap.objs.size (Obj.mapSeq (λ_=>(#[]:Array W')))).get? b=some o:=
  λb o hb e=>(fY _ _ (b7 hb)).trans (bg _ e)
 refine av (wpAny_letGo ?_);refine L3 (A:=A.in1) hh D (gX (n z (by simp))) n he hn .none _ JY (ac.keep oth λb hb=>bY (n b hb)) (λh' tk acc c as hk hS' hl hG Er=> ?_);exact⟨Z,hQ h' tk acc c as (λb o h2 h3 h4 h5 e=>hk b o (bY (aX e)) h2 h3 h4 h5 (oth b o (bY (aX e)) e)) hS' hl hG Er⟩
end
noncomputable abbrev QJ(h:aam)(l1:Y'):aam:=h.push {cls:= .type "tuple_iterator",data:= .fields #[.ref l1,.int 0 0]}
noncomputable abbrev QP(h:aam)(l1 l2:Y'):aam:=(QJ h l1).push {cls:= .type "tuple_iterator",data:= .fields #[.ref l2,.int 0 0]}
noncomputable abbrev Rq(h:aam)(l1 l2:Y'):aam:=(QP h l1 l2).push {cls:= .type "tuple",data:= .seq #[.ref h.objs.size,.ref (QJ h l1).objs.size]}
noncomputable abbrev RI(h:aam)(l1 l2:Y'):aam:=(Rq h l1 l2).push {cls:= .type "tuple",data:= .seq #[.none,.none]}
noncomputable abbrev Hm(h:aam)(l1 l2:Y'):aam:=(RI h l1 l2).push {cls:= .type "zip",data:= .fields #[.none,.bool false,.bool false,.ref (QP h l1 l2).objs.size,.ref (Rq h l1 l2).objs.size]}
theorem X1(l1 l2:Y')(xs ys:Array W'):
 Meets (Builtin.«zip.__new__» ⟨[.type "zip",.ref l1,.ref l2],[]⟩) (λ_ R s=>s.heap.IsTuple l1 xs/\s.heap.IsTuple l2 ys/\
  R (.ok (.ret (.ref (RI s.heap l1 l2).objs.size))) {s with heap:=Hm s.heap l1 l2}):=
 .of_wp λprog w A R s h=>by
  obtain⟨hp,g,d,tk,os⟩:=s;obtain⟨A4,lK,h⟩:=h
  have anB:=sub_zip;have hL1:Heap.IsTuple (Shared.heap ⟨hp,g,d,tk,os⟩) l1 xs:=A4;have hL2:Heap.IsTuple (Shared.heap ⟨hp.push {cls:= .type "tuple_iterator",data:= .fields #[.ref l1,.int 0 0]},g,d,tk,os⟩) l2 ys:=Heap.IsTuple.push lK _
  wp_walk using zj hL1,zj hL2
  exact⟨_,Z,h⟩
section
variable{prog:aan}{w:aai}{A:aal}{E:V'}{s:X'}
theorem Q9{l1 l2:Y'}{xs ys:Array W'}{Q:V'}(A4:s.heap.IsTuple l1 xs)(lK:s.heap.IsTuple l2 ys)
 (h:∀h',(∀S,h'.objs.size<=S->Pe h' (s.heap.objs.size+4) (s.heap.objs.size+2) (s.heap.objs.size+3) s.heap.objs.size (s.heap.objs.size+1) l1 l2 S xs ys 0)->h'.objs.size=s.heap.objs.size+5->
  (∀c o,s.heap.get? c=some o->h'.get? c=some o)->Q (.ref (s.heap.objs.size+4)) {s with heap:=h'}):
 wpAny (model prog w) A (call (.type "zip") [.ref l1,.ref l2]) Q E s:=by
 refine callType_new F.called_zip (by decide) (F.typeCall_zip_2 _ _) (F.newCall_zip_2 _ _) (λobj=>F.args_object_init_3 obj _ _) F.entry_zip_new
  (X1 l1 l2 xs ys) ⟨A4,lK,?_⟩
 have z1:(QJ s.heap l1).objs.size=s.heap.objs.size+1:=jE ..;have z2:(QP s.heap l1 l2).objs.size=s.heap.objs.size+2:=by rw[jE,z1]
 have z3:(Rq s.heap l1 l2).objs.size=s.heap.objs.size+3:=by rw[jE,z2]
 have z4:(RI s.heap l1 l2).objs.size=s.heap.objs.size+4:=by rw[jE,z3]
 have z5:(Hm s.heap l1 l2).objs.size=s.heap.objs.size+5:=by rw[jE,z4]
 have g5:(Hm s.heap l1 l2).get? (RI s.heap l1 l2).objs.size=some _:=cK _ rfl;have g4:(Hm s.heap l1 l2).get? (Rq s.heap l1 l2).objs.size=some _:=bg _ (cK _ Z);have g3:(Hm s.heap l1 l2).get? (QP s.heap l1 l2).objs.size=some _:=bg _ (bg _ (cK _ Z));have g2:(Hm s.heap l1 l2).get? (QJ s.heap l1).objs.size=some _:=bg _ (bg _ (bg _ (cK _ Z)));have g1:(Hm s.heap l1 l2).get? s.heap.objs.size=some _:=bg _ (bg _ (bg _ (bg _ (cK _ Z))));show _/\_;rw[z2,z3,z4] at g5;rw[z1,z2] at g3;rw[z3] at g4;rw[z1] at g2;rw[z4];have kp:∀c o,s.heap.get? c=some o->(Hm s.heap l1 l2).get? c=some o:=λc o x=>bg _ (bg _ (bg _ (bg _ (bg _ x))));refine⟨⟨_,g5,Z⟩,h _ (λS hS=>⟨⟨_,_,g5,.inl ⟨Z,Z⟩⟩,g3,⟨_,_,g4⟩,⟨_,g1,Z,Z⟩,⟨_,g2,Z,Z⟩,?_,?_⟩) z5 kp⟩
 .obtain⟨o,e,r⟩:=A4;exact⟨o,kp _ _ e,r⟩
 .obtain⟨o,e,r⟩:=lK;exact⟨o,kp _ _ e,r⟩
end
structure DP(H:Hp)(zs xs ys:ak):Prop where
 len:zs.length=xs.length
 at_:∀(j:Nat) x y,xs[j]? =some x->ys[j]? =some y->∃t,zs[j]? =some (.ref t)/\H t=some (.tup [x,y])
noncomputable def YJ(xs ys:ak)(j:Nat):ak:=match xs[j]?,ys[j]? with
 |some x,some y=>[x,y]
 |_,_=>[]
section
variable{X:Cx}{a b:aaa}{ta:TA}{p p' pos pos' :Pos}
def Px(K:Frag)(ta:TA):TE:=λσ H Q=>ta σ H λvs H1=>∃t1 t2 xs ys,vs=[.ref t1,.ref t2]/\bu K H1 t1 xs/\bu K H1 t2 ys/\xs.length=ys.length/\
 ∀l zs H',H1 l=none->ai H1 H'->H' l=some (.lst zs)->DP H' zs xs ys->Q (.ref l) H'
theorem IJ(hc:X.calm=true)(hg:Gl X "list")(hm:X.mg "list"=none)(hg' :Gl X "zip")(Mw :X.mg "zip"=none)(ha:PA X [a,b] ta)(hs:starEach [a,b] X.env=[(false,eval a X.env),(false,eval b X.env)]:=by rfl)(TM:starEach [b] X.env=[(false,eval b X.env)]:=by rfl)
 (Y_ :starEach [Expr.Call (.Name "zip" p') [a,b] [] pos'] X.env=[(false,eval (.Call (.Name "zip" p') [a,b] [] pos') X.env)]:=by rfl):
 PE X (.Call (.Name "list" p) [.Call (.Name "zip" p') [a,b] [] pos'] [] pos) (Px X.K ta):=by
 intro ad s σ H Q I h;refine mv (nB I hg hm Boot.«list» ?_);refine wF ?_ Y_ rfl;rw[Y_];show wpAny _ _ (spliced ((false,eval (.Call (.Name "zip" p') [a,b] [] pos') X.env)::backTo pos [])) _ _ s;refine tK (Call_ (nB I hg' Mw Boot.«zip» (wF (cN (ha pos' ad s σ H _ I h) λus s1 ⟨vs,H1,I1,r1,q1⟩=> ?_) (by rw[hs,TM]) (by rw[TM];rfl))));obtain⟨l1,l2,xs,ys,e,hq,Ra,hl,q⟩:=q1;subst e;obtain⟨u,v,rfl,ru,rv⟩:=jab r1;cases ru;cases rv;obtain⟨its,rx,p1,hz⟩:=I1.tuple hq;obtain⟨mS,ry,p2,JJ⟩:=I1.tuple Ra;have o_:s1.heap.IsTuple l1 its.toArray:=p1;have vR:s1.heap.IsTuple l2 mS.toArray:=p2;have hlx:=rx.length;have hly:=ry.length;have age:l1<s1.heap.objs.size:=by obtain⟨o,e,_⟩:=o_;exact aX e
 have Qe:l2<s1.heap.objs.size:=by obtain⟨o,e,_⟩:=vR;exact aX e
 refine Q9 o_ vR λkj pj pd RN=> ?_;refine vo ?_;have hsa:its.toArray.size=mS.toArray.size:=by rw[bC,bC];lia
 refine Rw (s:={s1 with heap:=kj}) (I1.ok.hd hc) (DN _ _ _ age Qe) hsa (by rw[bC];lia) pj λh' tk acc c as hk hS Ir hG Er=> ?_
 have kp:∀b o,s1.heap.get? b=some o->h'.get? b=some o:=λb o e=>by
  have q:b<s1.heap.objs.size:=aX e;exact hk b o (bY (cq q (lu _ _))) (bY (cq q (lu _ _))) (bY q) (bY (cq q (lu _ _))) (RN b o e)
 dsimp only at hS hG ⊢;have hLo:s1.heap.objs.size<=kj.objs.size:=by lia
 have Zy:H1 kj.objs.size=none:=I1.bM.fresh hLo;have Zx:∀a∈as,H1 a=none:=λa ha=>I1.bM.fresh (aL hLo (cV (hG.above a ha)))
 let H' :Hp:=λa=>if a=kj.objs.size then some (.lst (as.map V.ref)) else if a∈as then some (.tup (YJ xs ys (as.idxOf a))) else H1 a
 have sm:∀a o,H1 a=some o->H' a=some o:=λa o e=>by
  show(if a=kj.objs.size then some (.lst (as.map V.ref)) else if a∈as then some (.tup (YJ xs ys (as.idxOf a))) else H1 a)=some o;rw[aq (aw e Zy),aq λz=>by rw[Zx a z] at e;cases e];exact e
 have Mv :H' kj.objs.size=some (.lst (as.map V.ref)):=ay rfl
 have hi:∀(j:Nat) a,as[j]? =some a->H' a=some (.tup (YJ xs ys j)):=λj a e=>by
  have hm:=bt e;show(if a=kj.objs.size then some (.lst (as.map V.ref)) else if a∈as then some (.tup (YJ xs ys (as.idxOf a))) else H1 a)=_;rw[aq (gX (hG.above a hm)),ay hm,Xm hG.rise e]
 have OG :as.length=xs.length:=by rw[Ir,bC];lia
 have I2:Inv X ad σ H' {s1 with heap:=h',toks:=tk}:=by
  refine I1.more kp sm λa ob e=> ?_;by_cases z1:a=kj.objs.size
  .subst z1;rw[Mv] at e;cases e;refine .inr ⟨hLo,by rw[aG];lia,acc.toList,c,?_,hS⟩;rw[Er];clear Er hS hG Ir hi Mv sm Zx OG
   induction as with
   |nil=>exact .nil
   |cons a r ih=>exact .cons Z ih
  .by_cases z2:a∈as
   .obtain⟨j,hj⟩:=vw.mp z2;rw[hi j a hj] at e;cases e;obtain⟨x,y,e1,e2,e3⟩:=hG.pairs j a hj
    have hjl:j<xs.length:=by
     have:=(dE.mp hj).1
     lia
    have aej:j<ys.length:=by lia
    have hp:xs[j]? =some xs[j]:=by simp[hjl]
    have Cm:ys[j]? =some ys[j]:=by simp[aej]
    obtain⟨x',ex,rx'⟩:=rx.get hp;obtain⟨y',ey,ry'⟩:=ry.get Cm;have e1' :its[j]? =some x:=by simpa using e1
    have Xe :mS[j]? =some y:=by simpa using e2
    rw[ex] at e1';rw[ey] at Xe;cases e1';cases Xe;refine .inr ⟨aL hLo (cV (hG.above a z2)),?_⟩;unfold YJ;rw[hp,Cm];exact⟨(show 2<=sizeLine by decide),[_,_],.cons rx' (.cons ry' .nil),⟨_,e3,Z,_,Z⟩⟩
   .left
    have:H' a=H1 a:=by
     show(if a=kj.objs.size then some (.lst (as.map V.ref)) else if a∈as then some (.tup (YJ xs ys (as.idxOf a))) else H1 a)=H1 a;rw[aq z1,aq z2]
    rw[<-this];exact e
 refine⟨.ref kj.objs.size,H',I2,Z,q _ _ H' Zy sm Mv ⟨by rw[aG];exact OG,λj x y ex ey=> ?_⟩⟩
 have hjl:j<as.length:=by
  have:=(dE.mp ex).1
  lia
 have ha:as[j]? =some as[j]:=by simp[hjl]
 refine⟨as[j],by rw[bG,ha];rfl,?_⟩;rw[hi j _ ha];unfold YJ;rw[ex,ey]
end
section
variable{M:Model}{A:aal}{E:V'}
theorem ur{h:aam}{g:Array GenState}{d:Drawn}{t:Nat}{os:OsState}{e C D N N' :Y'}{oe:Obj}{nm q nm' q' :Str}{bs bm bs' bm' :aE}{iQ ab_ :Bool}{sn sn' :aj}{sub aez :aE}{ab ab' :Bool}{col agU :Option Bool}{dd XW :Option Y'}{k0 k1 k2 k3 k5 j0 j1 j2 j3 j5:aM}{i j:String}{b:Bool}{Q:Bool->X'->Prop}
 (hC:h.get? C=some (excClassObj nm q C N bs bm iQ sn sub ab col dd k0 k1 k2 k3 k5 i)) (hD:h.get? D=some (excClassObj nm' q' D N' bs' bm' ab_ sn' aez ab' agU XW j0 j1 j2 j3 j5 j)) (he:h.get? e=some oe) (Js:oe.cls= .ref C) (BP:bm'.contains (.type "BaseException")=true)
 (Zt:(Value.ref C::bm).contains (.ref D)=b) (hq:Q b ⟨h,g,d,t,os⟩):wpAny M A (excMatches (.ref e) (.ref D)) Q E ⟨h,g,d,t,os⟩:=by
 have RS:(Value.ref D::bm').contains (.type "BaseException")=true:=by rw[pz,BP,qS]
 have f:=tc_notTuple;unfold excMatches
 repeat (first|(with_reducible refine i5 he ?_;rw[Js])|with_reducible refine i5 hD ?_|(with_reducible refine qr hD ?_;rw[RS])|(with_reducible refine qr hC ?_;rw[Zt])|wp_step)
 cases b with
 |true=>
  rw[ay Z]
  repeat wp_step
  exact hq
 |false=>
  rw[aq (by decide)]
  repeat wp_step
  exact hq
end
structure F3(K:Frag)(C D:Y'):Prop where
 ex:∃nm q N bs bm iQ sn sub ab col dd k0 k1 k2 k3 k5 i,K.lookup C=some (excClassObj nm q C N bs bm iQ sn sub ab col dd k0 k1 k2 k3 k5 i)/\(Value.ref C::bm).contains (.ref D)=false
def E4(K:Frag)(C:Y'):List (Y'×TS)->TS->Prop
 |[],_=>False
 |p::r,t=>(Under K C p.1/\t=p.2)\/(F3 K C p.1/\E4 K C r t)
inductive Hq (X:Cx) (nm:Str):List ExceptHandler->List (Y'×TS)->Prop
 |nil {r:List ExceptHandler}:Hq X nm r []
 |cons {c:Str} {cp Gr:Pos} {b0:Stmt} {Gn:List Stmt} {rest:List ExceptHandler} {D:Y'} {th:TS} {L:List (Y'×TS)} (hg:Gl X c) (hm:X.mg c=some (.ref D)) (hD:ExcC X.K D) (ua:(c==("__debug__" :Str))=false)
  (hs:∀a,DE (X.Bm a λ_ _=>False) (b0::Gn) th) (r:Hq X nm rest L):Hq X nm (.ExceptHandler (some (.Name c cp)) (some nm) (b0::Gn) Gr::rest) ((D,th)::L)
section
variable{X:Cx}{body:List Stmt}{F7:List ExceptHandler}{nm:Str}{pos:Pos}{tb:XK->TS}{i:Nat}{L:List (Y'×TS)}
def SG(K:Frag)(len:Nat)(L:List (Y'×TS))(i:Nat)(Ds:Ends):XK:=λCv dd H=>∃C th,Cv= .ref C/\E4 K C L th/\∀(a:Y') (σ:St),H a=some (.ext (eM a C dd false))->σ.length=len->th (Jz i Ds) (σ.set i (some (.ref a))) H
def abG(K:Frag)(len:Nat)(L:List (Y'×TS))(i:Nat)(tb:XK->TS):TS:=λDs σ H=>tb (SG K len L i Ds) Ds σ H
theorem NI{ad:aR}{σ:St}{H:Hp}{a C T:Y'}{dd:Option Y'}{th:TS}{Ds:Ends}(hN:X.N.Nodup)(hi:X.N[i]? =some nm)(IC:X.env.kindOf nm=some .local)(Hs:Hq X nm F7 L)(ct:E4 X.K C L th):
 ∀s:X',Inv X ad σ H s->Mz X ad H s.heap a T->H a=some (.ext (eM a C dd false))->th (Jz i Ds) (σ.set i (some (.ref a))) H->wpAny (model X.prog X.w) X.A (handleBy (.ref a) X.env F7) (SP X ad Ds) X.xe s:=by
 induction Hs with
 |nil=>exact ct.elim
 | @cons c cp Gr b0 Gn rest D th' L' hg hm hD ua hs r ih=>
  intro s I held ea q;obtain⟨vs,he,hv,_⟩:=pW I.bM ea;refine wpAny_handleBy_cons (codeAny_handlers_test ?_) (by intro q;cases q);refine mh (I.Bm a λ_ _=>False) hg hm ?_ ua;obtain⟨nm2,q2,N2,RT,bm2,hd2,sn2,alE,ab2,anj,XY,j0,j1,j2,j3,j5,Y2,T2⟩:=hD.obj;have hDD:=I.kZ _ _ Y2;rcases ct with⟨un,rfl⟩|⟨un,ct⟩
  .obtain⟨nm1,q1,N1,bs1,bm1,Vd,sn1,agv,Xa,agl,dd1,k0,k1,k2,k3,k5,i1,lk,Zt⟩:=un.ex;have hC:=I.kZ _ _ lk;obtain⟨Cm,g2,d2,t2,os2⟩:=s;refine ur hC hDD he Z T2.hasBase Zt ?_;refine codeAny_handlers_suite_as ?_;refine LH I held λs3 I3 akU=> ?_;refine m6 (X:=X.Bm a λ_ _=>False) (I3.Bm a λ_ _=>False) hN hi (.inl IC) (show RelV (.ref a) (.ref a) from Z) (λs4 I4=> ?_) (.inr IC);refine fM (hs a ad s4 _ _ (Jz i Ds) I4 q) (λf s5 z=> ?_) λ_ _ z=>z.elim;have Js:(X.env.scope.kind== .class||(X.env.scope.kind== .module&&X.env.locals !=X.env.globals))=false:=by rw[I.ok.kind];rfl
   have goes:∀{WI:St} {H5:Hp} {Q:Unit->X'->Prop},Inv X ad WI H5 s5->(∀s6,Inv X ad (WI.set i none) H5 s6->Q () s6)->wpAny (model X.prog X.w) X.A (do bindName X.env nm .none;unbindBehindTheSuite X.env nm Gr) Q X.xe s5:=λ{WI H5 Q} J5 hQ=>by
    obtain⟨m,hm5,_⟩:=id J5.loc;exact wpAny_nameGoes_keeps IC hm5 Js λh' v hn sb=>hQ _ (J5.Qp (t' :=s5.toks+1) hN hi hm5 hn sb)
   cases f with
   |next=>obtain⟨WI,H5,I5,q5⟩:=z;exact goes (I5.Fb I.ok) λs6 I6=>⟨_,_,I6,q5⟩
   |brk=>obtain⟨WI,H5,I5,q5⟩:=z;exact goes (I5.Fb I.ok) λs6 I6=>⟨_,_,I6,q5⟩
   |cont=>obtain⟨WI,H5,I5,q5⟩:=z;exact goes (I5.Fb I.ok) λs6 I6=>⟨_,_,I6,q5⟩
   |ret u=>obtain⟨v,WI,H5,I5,r5,q5⟩:=z;exact goes (I5.Fb I.ok) λs6 I6=>⟨v,_,_,I6,r5,q5⟩
  .obtain⟨nm1,q1,N1,bs1,bm1,Vd,sn1,agv,Xa,agl,dd1,k0,k1,k2,k3,k5,i1,lk,Zt⟩:=un.ex;have hC:=I.kZ _ _ lk;obtain⟨Cm,g2,d2,t2,os2⟩:=s;refine ur hC hDD he Z T2.hasBase Zt ?_;exact ih ct _ I held ea q
theorem Qh(pj:X.stack=X.env::X.outer)(ud:X.env.frame=some X.env.locals)(hN:X.N.Nodup)(hi:X.N[i]? =some nm)(IC:X.env.kindOf nm=some .local)(Hs:Hq X nm F7 L)
 (hb:∀(E:XK) (pn:aR) (W:V'),DA (X.pinned pn W) E->DE (X.pinned pn W) body (tb E)) (o8:∃h0 r,F7=h0::r:=by exact⟨_,_,Z⟩):
 PS X (.Try body F7 [] [] pos) (abG X.K X.N.length L i tb):=by
 obtain⟨h0,r0,rfl⟩:=o8;intro ad s σ H Ds I h;refine wpAny_Try_except ?_
 have hw:DA (X.pinned ad λe bP=>wpAny (model X.prog X.w) X.A (noteFrame e X.env) (λ_ tU=>wpAny (model X.prog X.w) X.A (setFlight e none) (λ_ yW=>wpAny (model X.prog X.w) X.A (handleBy e X.env (h0::r0)) (SP X ad Ds) X.xe yW) X.xe tU) X.xe bP)
  (SG X.K X.N.length L i Ds):=by
  intro HD eO H' s' a C dd n I' ea fl q;have J:Inv X ad eO H' s' :=I'.ofPinned I.ok
  have fl' :Gg X ad H' s'.heap a:=by
   rcases fl with z|⟨T,oe,f,z1,z2,z3⟩
   .exact .inl z
   .exact .inr ⟨T,oe,f,z1,z2,λp hp=>z3 p (eJ _ hp)⟩
  obtain⟨C',th,eC,ct,q⟩:=q;cases eC;refine Mn J pj ud ea fl' λs2 T I2 held=> ?_;have ea2:upd H' a (.ext (eM a C dd false)) a=some (.ext (eM a C dd false)):=aa;exact NI hN hi IC Hs ct s2 I2 held ea2 (q a eO ea2 I2.len)
 refine fM (hb _ ad _ hw [] s σ H Ds (I.OP _) h) (λf s1 z=> ?_) λ_ _ z=>z
 cases f with
 |next=>obtain⟨eO,H',I',q⟩:=z;exact y_ ⟨eO,H',I'.ofPinned I.ok,q⟩
 |brk=>obtain⟨eO,H',I',q⟩:=z;exact⟨eO,H',I'.ofPinned I.ok,q⟩
 |cont=>obtain⟨eO,H',I',q⟩:=z;exact⟨eO,H',I'.ofPinned I.ok,q⟩
 |ret u=>obtain⟨v,eO,H',I',r,q⟩:=z;exact⟨v,eO,H',I'.ofPinned I.ok,r,q⟩
end
section
variable{X:Cx}{tg:aaa}
theorem Co:ij X (.builtin "isinstance") (λxs H Q=>∃a p,xs=[.ref a,.ref p]/\((∃ys,H a=some (.lst ys))\/∃ys,H a=some (.tup ys))/\H p=some (.tup [.ty "list",.ty "tuple"])/\Q (.bl true) H):=by
 intro ad s σ H xs us Q I r h;obtain⟨a,p,rfl,ha,hp,q⟩:=h;obtain⟨u,c,rfl,ru,rc⟩:=jab r;cases ru;cases rc;obtain⟨z,its,rv,o,h1,h2,n,h3⟩:=(show cg X.prog X.w H s.heap p (.tup _) from I.bM p _ hp);obtain⟨u1,u2,rfl,r1,r2⟩:=jab rv;cases r1;cases r2
 have htp:s.heap.get? p=some ⟨.type "tuple",o.dict,.seq ([Value.type "list",Value.type "tuple"]:aE).toArray n,o.slots⟩:=by
  obtain⟨c,d,dt,sl⟩:=o;dsimp only at h2 h3;subst h2 h3;exact h1
 rcases ha with⟨ys,ha⟩|⟨ys,ha⟩
 .obtain⟨_,_,n,_,h1⟩:=(show cg X.prog X.w H s.heap a (.lst ys) from I.bM a _ ha);exact kia_tup kitx_list I.kZ ⟨_,h1,Z⟩ htp (by rfl) (λz=>nomatch z) λtk=>⟨.bl true,H,I.tok tk,Z,q⟩
 .obtain⟨_,_,_,p⟩:=(show cg X.prog X.w H s.heap a (.tup ys) from I.bM a _ ha);obtain⟨o,h1,h2,_⟩:=p;exact kia_tup kitx_tuple I.kZ ⟨o,h1,h2⟩ htp (by rfl) (λz=>nomatch z) λtk=>⟨.bl true,H,I.tok tk,Z,q⟩
noncomputable def Oi(K:Frag)(t:Bool)(a:Y'):It:=if t then Wk K a else YC K a
def iSq(K:Frag)(tl:TE):TI:=λσ H R=>tl σ H λx H1=>∃a,∃t:Bool,x= .ref a/\(if t then(∃xs,bu K H1 a xs) else ∃xs,bq K H1 a xs)/\R (Oi K t a) H1
theorem oP{l:aaa}{tl:TE}(hl:PE X l tl):PI X tg l (iSq X.K tl):=by
 intro ad s σ H R I h;have key:=hl ad s σ H _ I h;refine cN key λv s1 ⟨x,H1,I1,r1,q1⟩=> ?_;obtain⟨a,t,e,hq,q⟩:=q1;subst e;cases r1
 cases t with
 |false=>
  obtain⟨xs,hq⟩:=hq;obtain⟨its,rv,p,hz⟩:=I1.list hq;refine uG p.isList ?_;refine⟨s1.heap.objs.size,[s1.heap.objs.size],_,_,H1,Z,I1.kept (t' :=s1.toks) λb o e=>bg _ e,DB a _,⟨_,cK _ Z,Z,Z⟩,λb hb=> ?_,q⟩;have e:b=s1.heap.objs.size:=by simpa using hb
  subst e;exact I1.Ci (aJ _) (I1.bM.fresh (aJ _))
 |true=>
  obtain⟨xs,hq⟩:=hq;obtain⟨its,rv,p,hz⟩:=I1.tuple hq;refine zj (show s1.heap.IsTuple a its.toArray from p) ?_;refine⟨s1.heap.objs.size,[s1.heap.objs.size],_,_,H1,Z,I1.kept (t' :=s1.toks) λb o e=>bg _ e,BG a _,⟨_,cK _ Z,Z,Z⟩,λb hb=> ?_,q⟩;have e:b=s1.heap.objs.size:=by simpa using hb
  subst e;exact I1.Ci (aJ _) (I1.bM.fresh (aJ _))
end
noncomputable def Ls(t:Bool)(xs:ak):HO:=if t then .tup xs else .lst xs
theorem mF{K:Frag}{t:Bool}{a:Y'}{xs:ak}{g:TG}{tb:TS}{D:Ends}{σ:St}{H:Hp}(Pv:Nat->St->Hp->Prop)(h0:Pv 0 σ H)(hl:∀i σ H,i<=xs.length->Pv i σ H->H a=some (Ls t xs))
 (hs:∀i x σ H,xs[i]? =some x->Pv i σ H->g x σ H λkn H2=>tb {D with nx:=Pv (i+1),ct:=Pv (i+1),bk:=D.nx} kn H2) (hd:∀σ H,Pv xs.length σ H->D.nx σ H):
 ∃W:Nat->Nat->St->Hp->Prop,(∃m,W 0 m σ H)/\∀i m σ H,W i m σ H->
  ((Oi K t a).stop i H/\D.nx σ H)\/((Oi K t a).go i H/\∃N:St->Hp->Prop,(∀eO H',N eO H'->∃m',m' <m/\W (i+1) m' eO H')/\∀x H',(Oi K t a).zS i H x H'->g x σ H' λkn H2=>tb {D with nx:=N,ct:=N,bk:=D.nx} kn H2):=by
 cases t with
 |false=>exact gJ Pv h0 (λi σ H hi p=>bq.of (hl i σ H hi p)) hs hd
 |true=>exact KG Pv h0 (λi σ H hi p=>bu.of (hl i σ H hi p)) hs hd
theorem Hd{K:Frag}{t:Bool}{a:Y'}{xs:ak}{H:Hp}(h:H a=some (Ls t xs)):BB (Oi K t a) H xs:=by
 cases t with
 |false=>exact gZ (bq.of h)
 |true=>exact j4 (bu.of h)
theorem Mr{K:Frag}{t:Bool}{a:Y'}{xs:ak}{H:Hp}(h:H a=some (Ls t xs)):if t then(∃xs,bu K H a xs) else ∃xs,bq K H a xs:=by
 cases t with
 |false=>exact⟨xs,bq.of h⟩
 |true=>exact⟨xs,bu.of h⟩
theorem abR{K:Frag}{t:Bool}{a:Y'}{xs:ak}{H:Hp}(h:H a=some (Ls t xs)):bq K H a xs\/bu K H a xs:=by
 cases t with
 |false=>exact .inl (bq.of h)
 |true=>exact .inr (bu.of h)
section
variable{prog:aan}{w:aai}{A:aal}{E:V'}{s:X'}
theorem rQ{t sl:Y'}{items:Array W'}{vl vu:W'}{lo hi:Option Int}{Q:V'}(ht:IsTup s.heap t items)(hs:s.heap.IsSliceOf sl vl vu .none)(pl:IsPart vl lo)(pu:IsPart vu hi)
 (h0:HT.gw items.size 0 lo=0) (h1:HT.gw items.size items.size hi=items.size) (h:Q (.ref t) s):wpAny (model prog w) A (getItem (.ref t) (.ref sl)) Q E s:=by
 obtain⟨os,X2,hcs,Tp⟩:=id hs;have Zc:s.TypeIs (.ref sl) "slice":=⟨os,X2,hcs⟩;unfold getItem
 try with_reducible refine jF ?_
 first|refine av (aW ?_)|skip
 refine av (wpAny_sequenceKey ht.typeIs (by decide) ?_)
 refine av (wH (name:=Str.ofString "__getitem__") ht.typeIs wt
  (tV wt ht.typeIs entry_tuple_getitem ?_ (args_tuple_getitem _ _)))
 show wpAny _ _ (Builtin.Tuple.tupleItemsOf (.ref t)>>= _) _ _ s;refine av (tupleItemsOf_ ht ?_);refine av (wpAny_typeOf Zc ?_);rw[ay (by decide)];refine av (HT.mY hs pl pu ?_);show wpAny _ _ (if(((HT.gw items.size 0 lo:Nat):Int)==0&&(1:Int)==1&&(HT.gw items.size items.size hi - HT.gw items.size 0 lo)==items.size)=true then _ else _) _ _ s;rw[ay (by rw[h0,h1];simp)];refine av ?_;unfold Builtin.Tuple.tupleIsExact;refine av (wpAny_typeOf ht.typeIs (aW ?_));rw[ay (by decide)];exact av (qE (aW ⟨_,Z,aW h⟩))
end
section
variable{X:Cx}{e lo hi stp:aaa}{te tl th ts:TE}{pos p2:Pos}
def ace(K:Frag):V->Option Int->Option Int->Hp->VK->Prop:=λx lo hi H Q=>∃a xs,x= .ref a/\bu K H a xs/\
 ((HT.gw xs.length 0 lo=0/\HT.gw xs.length xs.length hi=xs.length)->Q (.ref a) H)/\(¬(HT.gw xs.length 0 lo=0/\HT.gw xs.length xs.length hi=xs.length)->∀p,H p=none->Q (.ref p) (upd H p (.tup (gC xs lo hi))))
theorem QE:Z1 X (ace X.K):=by
 intro ad s σ H x v vl vu lo hi sl Q I rx hs pl pu h;obtain⟨a,xs,rfl,hx,q0,q1⟩:=h;by_cases hw:HT.gw xs.length 0 lo=0/\HT.gw xs.length xs.length hi=xs.length
 .cases rx;obtain⟨its,r,ht,hz⟩:=I.tuple hx;have hlen:its.toArray.size=xs.length:=by rw[bC];exact r.length.symm
  refine⟨"tuple",_,wt.lookup,ht.typeIs,?_⟩;exact rQ ht hs pl pu (by rw[hlen];exact hw.1) (by rw[hlen];exact hw.2) ⟨.ref a,H,I,Z,q0 hw⟩
 .exact Aq ad s σ H _ v vl vu lo hi sl Q I rx hs pl pu ⟨a,xs,Z,hx,hw,q1 hw⟩
end
theorem Eb(hc:X.calm=true):ij X (.builtin "max") (λxs H Q=>∃(a:Y') (i j:Int),xs=[.ref a]/\H a=some (.lst [.int i,.int j])/\Q (.int (if j>i then j else i)) H):=by
 intro ad s σ H xs us Q I r h;obtain⟨a,i,j,rfl,ha,q⟩:=h;obtain⟨u,rfl,ru⟩:=wT r;cases ru;obtain⟨its,r,pl,hz⟩:=I.list (bq.of ha);obtain⟨u1,u2,rfl,⟨t1,rfl⟩,⟨t2,rfl⟩⟩:=jab r;have jB:=I.bM.lt ha;have I1:Inv X ad σ H {s with heap:=s.heap.push {cls:= .type "list_iterator",data:= .fields #[.ref a,.int 0 0]}}:=I.kept (t' :=s.toks) λb u e=>bg _ e
 have ab8:∀(k:Nat) v,([Value.int i t1,Value.int j t2]:aE).toArray[k]? =some v->∃t,v= .int (if k=0 then i else j) t:=λk v e=>by
  match k with
  |0=>cases e;exact⟨t1,Z⟩
  |1=>cases e;exact⟨t2,Z⟩
  |k+2=>cases e
 refine call_max_walk (uG pl.isList ⟨_,_,_,_,_,_,_,Z,Walks.list (A:=X.A.in1) (I.ok.hd hc) _ a (bY jB) _,⟨⟨_,cK _ Z,Z,Z⟩,pl.isList.push _⟩,?_,by simp,CmpOf.ints_gt (λk=>if k=0 then i else j) ab8,λv h' tk hP k=> ?_⟩)
 .intro b DQ;have DQ :b=s.heap.objs.size\/b=a:=by simpa using DQ
  show b<(s.heap.push _).objs.size;rw[jE];rcases DQ with rfl|rfl
  .exact zA _
  .exact Nat.lt_succ_of_lt jB
 .refine⟨.int (if j>i then j else i),H,I1.turned (λb o hb e=>k b o (by simpa using hb) e) (I.bM.fresh (aJ _)) (λz=> ?_) (.inr I.sz) (λx c e z=> ?_) (λp hp z=> ?_),?_,q⟩
  .exact absurd (z▸I.lt) (cn _)
  .obtain⟨v,o,ho,_⟩:=I.cell x c e;exact absurd (z▸aX ho) (cn _)
  .obtain⟨ho,_⟩:=I.pin p hp;exact absurd (z▸aX ho) (cn _)
  .obtain⟨t,rfl⟩:=ab8 _ v hP;refine⟨t,?_⟩
   congr 1
   show(if(if decide ((if(0+1:Nat)=0 then i else j)>(if(0:Nat)=0 then i else j))=true then 1 else 0)=0 then i else j)=_;by_cases hj:j>i
   .simp[hj]
   .simp[hj]
structure XO(K:Frag)(x qual:Str)(st:Stmt)(f:Y')(fd:aap):Prop where
 ex:∃(oc:W') (od:Option Y') (dV kV doc pm:W') (an:Option Y') (cC ct:W') (xF:Array (aM)),
  fd=PySem.W.fnOf x qual (gN st) (dr st) (ao st) dV kV doc pm an cC ct/\K.lookup f=some ⟨oc,od,.func fd,xF⟩/\PySem.W.codeIn K cC qual=true
 kp:PySem.W.keepIn K (.ref f)=true
structure FID(K:Frag)(mg:Str->aM)(x:Str)(st:Stmt)(ps:aj)(f:Y')(fd:aap):Prop where
 m:mg x=some (.ref f)
 F:XO K x x st f fd
 b:Binds K fd ps []
section
variable{P:aan}{w:aai}{K:Frag}{mg:Str->aM}{base:aam}
theorem XO.ok{x qual:Str}{st:Stmt}{f:Y'}{fd:aap}{N ps:aj}{k:Nat}{sp:Sp}(F:XO K x qual st f fd)(S:aC N ps (ao st))(len:∀vs H Q E,sp vs H Q E->vs.length=ps.length)
 (gI:∀(cC:W') (A:aal) (outer:List Env) (s:X') (H:Hp) (vs:ak) (Q:VK) (E:XK),dQ k (A.deeper (envOfC qual (ao st) s.heap.objs.size f cC))->sp vs H Q E->
  ∃t,DE (mQ cY P w K mg base N qual (ao st) f cC A outer s H E).Mt (dr st) t/\t {nx:=λ_ H' =>Q .bV H',rt:=Q} (start N vs) H):aQ P w K mg base cY (k+1) f fd ps sp:=by
 obtain⟨oc,od,dV,kV,doc,pm,an,cC,ct,xF,rfl,lk,AG⟩:=F.ex;refine JP lk AG S len λA outer s H vs Q E hr DW=> ?_;obtain⟨t,h,q⟩:=gI cC A outer s H vs Q E hr DW;exact⟨t,h.Mt,q⟩
end
section
variable{X:Cx}{CX:tY}{j k:Nat}{f:Y'}{fd:aap}{ps:aj}{sp:Sp}{E:XK}{x:Str}{st:Stmt}{p pos:Pos}{e:aaa}{es:b_}{t:TA}
theorem agG(F:aQ X.prog X.w X.K X.mg X.base CX j f fd ps sp)(hr:dQ k X.A)(I:FID X.K X.mg x st ps f fd)(hx:wn CX X E)(ha:PA X (e::es) t)(hj:j<=k:=by decide)(hg:Gl X x:=by rfl)
 (ua:(x==("__debug__" :Str))=false:=by decide) (he:starEach (e::es) X.env=(false,eval e X.env)::starEach es X.env:=by rfl) (jY:(backTo pos (starEach es X.env)).any (·.1)=false:=by rfl):
 PE X (.Call (.Name x p) (e::es) [] pos) (F1 sp [] E t):=JZ (F.mono hj) hr hg I.m I.F.kp I.b .nil hx ha ua he jY
end
theorem WN{K:Frag}{h:aam}{mg:Str->aM}{x:Str}{st:Stmt}{ps:aj}{f:Y'}{oc dV kV dc pm cd ct:W'}{od an:Option Y'}{sl:Array (aM)}(X:K.In h)(G:h.Ns mainGlobals mg)(a:PySem.W.nsIn K mainGlobals x=some (some (.ref f)))
 (l:K.lookup f=some ⟨oc,od,.func (PySem.W.fnOf x x (gN st) (dr st) (ao st) dV kV dc pm an cd ct),sl⟩) (c:PySem.W.codeIn K cd x=true) (k:PySem.W.keepIn K (.ref f)=true) (b:Binds K (PySem.W.fnOf x x (gN st) (dr st) (ao st) dV kV dc pm an cd ct) ps []):
 FID K mg x st ps f (PySem.W.fnOf x x (gN st) (dr st) (ao st) dV kV dc pm an cd ct):=⟨PySem.W.mg_of X G a,⟨⟨oc,od,dV,kV,dc,pm,an,cd,ct,sl,Z,l,c⟩,k⟩,b⟩
theorem ML{α:Type}{n:Nat}{us:List α}(h:us.length=n+1):∃a r,us=a::r/\r.length=n:=by
 cases us with
 |nil=>cases h
 |cons a r=>exact⟨a,r,Z,zw h⟩
theorem bn0{α:Type}{P:List α->Prop}(h:P [])(us:List α)(hl:us.length=0):P us:=by rw[z9 hl];exact h
theorem Y6{α:Type}{n:Nat}{P:List α->Prop}(h:∀a us,us.length=n->P (a::us))(us:List α)(hl:us.length=n+1):P us:=by
 obtain⟨a,r,rfl,e⟩:=ML hl;exact h a r e
theorem bn1{α:Type}{P:List α->Prop}(h:∀a,P [a]):∀us:List α,us.length=1->P us:=Y6 λa=>bn0 (P:=λus=>P (a::us)) (h a)
theorem bn2{α:Type}{P:List α->Prop}(h:∀a b,P [a,b]):∀us:List α,us.length=2->P us:=Y6 λa=>bn1 (P:=λus=>P (a::us)) (h a)
theorem bn3{α:Type}{P:List α->Prop}(h:∀a b c,P [a,b,c]):∀us:List α,us.length=3->P us:=Y6 λa=>bn2 (P:=λus=>P (a::us)) (h a)
theorem bn4{α:Type}{P:List α->Prop}(h:∀a b c d,P [a,b,c,d]):∀us:List α,us.length=4->P us:=Y6 λa=>bn3 (P:=λus=>P (a::us)) (h a)
theorem bn5{α:Type}{P:List α->Prop}(h:∀a b c d e,P [a,b,c,d,e]):∀us:List α,us.length=5->P us:=Y6 λa=>bn4 (P:=λus=>P (a::us)) (h a)
theorem bn6{α:Type}{P:List α->Prop}(h:∀a b c d e f,P [a,b,c,d,e,f]):∀us:List α,us.length=6->P us:=Y6 λa=>bn5 (P:=λus=>P (a::us)) (h a)
theorem LS(hu:X.A.units<cLine):nq X (compareOp .NotEq) (λx y H Q=>∃a b xs,x= .ref a/\y= .ref b/\H a=some (.tup xs)/\H b=some (.tup [])/\Q (.bl (!xs.isEmpty)) H):=by
 intro ad s σ H x y v u Q I rx ry h;obtain⟨a,b,xs,rfl,rfl,ha,hb,q⟩:=h;cases rx;cases ry;obtain⟨its,r,pl,hz⟩:=I.tuple (bu.of ha);obtain⟨mS,r2,UE,JJ⟩:=I.tuple (bu.of hb);cases r2
 have e:(!((List.range (min its.toArray.size ([]:aE).toArray.size)).all (λ_=>true)&&its.toArray.size==([]:aE).toArray.size))= !xs.isEmpty:=by
  cases r with
  |nil=>rfl
  |cons _ _=>rfl
 have key:=SeqAt.RcNeAt.tuples (A:=X.A) (s:=s) (e:=λ_=>true) (show s.heap.IsTuple a its.toArray from pl) (show s.heap.IsTuple b ([]:aE).toArray from UE) hu (λj _ h2=>absurd h2 (g_ _));rw[e] at key;exact key _ _ _ _ ⟨.bl _,H,I,Z,q⟩
noncomputable def AA:Z'->Str
 | .str x=>x
 |d=>d.shown
theorem DY(hg:X.A.guards=some [])(hu:X.A.units+100<cLine):ij X (.type "str") (λxs H Q=>∃v d,xs=[v]/\Dat H v d/\d.showable=true/\d.depth<=90/\d.shown.length<=sizeLine/\Q (.str (AA d)) H):=by
 intro ad s σ H xs us Q I r h;obtain⟨v,d,rfl,hd,hs,XE,hz,q⟩:=h;obtain⟨u,rfl,ru⟩:=wT r;have flat:∀{h' :aam} {tk:Nat} (t:Tok),(∀b o,s.heap.get? b=some o->h'.get? b=some o)->EP X ad σ Q (.str (AA d) t) {s with heap:=h',toks:=tk}:=λ{h' tk} t k=>⟨.str (AA d),H,I.kept k,⟨t,Z⟩,q⟩;obtain⟨⟨as,rd⟩,nd⟩:=hd.reads I.bM ru
 cases hd with
 |bV=>cases ru;exact PySem.P.str_of_none (by have:=flat (h' :=s.heap) (tk:=s.toks+1) s.toks λ_ _ e=>e;simpa only[AA,PyData.shown] using this)
 |bl b=>cases ru;exact PySem.P.str_of_bool (by have:=flat (h' :=s.heap) (tk:=s.toks+1) s.toks λ_ _ e=>e;simpa only[AA,PyData.shown] using this)
 |int i=>
  obtain⟨t,rfl⟩:=ru;have Y_ :i.natAbs.log2<1920:=by simpa[PyData.showable] using hs
  exact PySem.P.str_of_int Y_ (by have:=flat (h' :=s.heap) (tk:=s.toks+1) s.toks λ_ _ e=>e;simpa only[AA,PyData.shown] using this)
 |str x=>
  obtain⟨t,rfl⟩:=ru;exact PySem.P.str_of_str ⟨.str x,H,I,⟨t,Z⟩,q⟩
 |lst e hx=>
  cases ru;exact str_of_reads rd hs (zt nd) hg (by lia) (λ_ _ e=>e) (λh' t tk k=>by have:=flat (tk:=tk) t k;simpa only[AA] using this) hz
 |tup e hx=>
  cases ru;exact str_of_reads rd hs (zt nd) hg (by lia) (λ_ _ e=>e) (λh' t tk k=>by have:=flat (tk:=tk) t k;simpa only[AA] using this) hz
end L2
namespace PySem
open Sem (wp)
open Builtin
theorem wk:fillsNumberSlot (.type "tuple") "mul"=pure false:=
 fillsNumberSlot_seq (id:="tuple.__mul__") (r:=some (.builtin "tuple.__rmul__")) vO.lookup (by decide+kernel) F.slot_tuple_rmul.lookup (by decide+kernel)
theorem EA:seqRepeat? (.type "tuple")=pure (some (.builtin "tuple.__mul__")):=by
 unfold seqRepeat?;rw[seqSlot_of (T:="tuple") (name:="__mul__") (id:="tuple.__mul__") vO.lookup (by decide+kernel),seqSlot_of (T:="tuple") (name:="__rmul__") (id:="tuple.__rmul__") F.slot_tuple_rmul.lookup (by decide+kernel)];rfl
section
variable(l:Y')(n:Nat)(dd:Option Y')(sl:Array (aM))(v:W')(u:Tok)
theorem E2(a:Int):Meets (Builtin.«int.__rmul__» ⟨[.int a u,.ref l],[]⟩) (λ_ R s=>s.heap.get? l=some {cls:= .type "tuple",dict:=dd,data:= .seq #[v] n,slots:=sl}/\R (.ok (.ret Value.notImplemented)) s):=
 .of_wp λprog w A R s h=>by obtain⟨hp,g,d,tk,os⟩:=s;obtain⟨hl,h⟩:=h;wp_walk;exact⟨_,Z,h⟩
theorem Pu:Meets (Builtin.«tuple.__mul__» ⟨[.ref l,.int 0 u],[]⟩) (λ_ R s=>s.heap.get? l=some {cls:= .type "tuple",dict:=dd,data:= .seq #[v] n,slots:=sl}/\R (.ok (.ret (.ref s.heap.objs.size))) {s with heap:=s.heap.push {cls:= .type "tuple",data:= .seq #[]}}):=
 .of_wp λprog w A R s h=>by obtain⟨hp,g,d,tk,os⟩:=s;obtain⟨hl,h⟩:=h;wp_walk;exact⟨_,Z,h⟩
theorem OI:Meets (Builtin.«tuple.__mul__» ⟨[.ref l,.int 1 u],[]⟩) (λ_ R s=>s.heap.get? l=some {cls:= .type "tuple",dict:=dd,data:= .seq #[v] n,slots:=sl}/\R (.ok (.ret (.ref l))) s):=
 .of_wp λprog w A R s h=>by obtain⟨hp,g,d,tk,os⟩:=s;obtain⟨hl,h⟩:=h;wp_walk;exact⟨_,Z,h⟩
theorem Po:Meets (Builtin.«tuple.__mul__» ⟨[.ref l,.int 2 u],[]⟩) (λ_ R s=>s.heap.get? l=some {cls:= .type "tuple",dict:=dd,data:= .seq #[v] n,slots:=sl}/\R (.ok (.ret (.ref s.heap.objs.size))) {s with heap:=s.heap.push {cls:= .type "tuple",data:= .seq #[v,v]}}):=
 .of_wp λprog w A R s h=>by obtain⟨hp,g,d,tk,os⟩:=s;obtain⟨hl,h⟩:=h;wp_walk;exact⟨_,Z,h⟩
end
end PySem
namespace L2
open PySem PySem.Spec PyProof.Rows
variable{X:Cx}
def VO(K:Frag):R2:=λx y H Q=>∃a k v,x= .ref a/\y= .int k/\bu K H a [v]/\((k=0/\∀p,H p=none->Q (.ref p) (upd H p (.tup [])))\/(k=1/\Q (.ref a) H)\/(k=2/\∀p,H p=none->Q (.ref p) (upd H p (.tup [v,v]))))
theorem RX:nq X (binaryOp .Mult) (VO X.K):=by
 intro ad s σ H x y v u Q I rx ry h;obtain⟨a,k,y,rfl,rfl,ha,h⟩:=h;cases rx;obtain⟨t,rfl⟩:=ry;obtain⟨its,r,pl,_⟩:=I.tuple ha
 cases r with
 |cons ru rr=>
  cases rr;obtain⟨⟨cls,dd,data,sl⟩,ho,hc,n,hd⟩:=id pl;simp only at hc hd;subst hc hd
  refine wpAny_binaryOp_repeat_ref (T:="tuple") (U:="int") (by decide) ⟨_,ho,Z⟩ (λs' =>vh s' k t) wk F.fills_int_mul zq EA F.slot_int_index.lookup
   (iU zq (vh s k t) F.entry_int_rmul (F.args_int_rmul_2 _ _) (E2 a n dd sl _ t k) ⟨ho,Z,⟨_,ho,Z⟩,?_⟩)
  rcases h with⟨rfl,q⟩|⟨rfl,q⟩|⟨rfl,q⟩
  .refine iU vO ⟨_,ho,Z⟩ F.entry_tuple_mul (El _ _) (Pu a n dd sl _ t) ⟨ho,?_⟩;exact⟨.ref s.heap.objs.size,_,I.laid (t' :=s.toks) (o:= .tup []) (λb ob q=>bg _ q) (aJ _) ⟨bU _,_,.nil,IsTup.new _ _⟩,Z,q _ I.fresh⟩
  .exact iU vO ⟨_,ho,Z⟩ F.entry_tuple_mul (El _ _) (OI a n dd sl _ t) ⟨ho,.ref a,H,I,Z,q⟩
  .refine iU vO ⟨_,ho,Z⟩ F.entry_tuple_mul (El _ _) (Po a n dd sl _ t) ⟨ho,?_⟩;exact⟨.ref s.heap.objs.size,_,I.laid (t' :=s.toks) (o:= .tup [y,y]) (λb ob q=>bg _ q) (aJ _) ⟨(show 2<=sizeLine by decide),_,.cons ru (.cons ru .nil),IsTup.new _ _⟩,Z,q _ I.fresh⟩
theorem Dw{x:V}:∀{xs:ak} {us:aE},Vals xs us->xs.all jK=true->us.countP (Ho x)=xs.countP λy=>DH y x
 |_,_,.nil,_=>rfl
 |y::xs,u::us,.cons r t,f=>by
  rw[zF,cL] at f;rw[List.countP_cons,List.countP_cons,Ii r f.1,Dw t f.2]
def Z8(K:Frag):V->ak->Hp->VK->Prop:=λx vs H Q=>∃a xs y,x= .ref a/\vs=[y]/\bu K H a xs/\jK y=true/\xs.all jK=true/\Q (.int ((xs.countP λz=>DH z y:Nat):Int)) H
theorem KU:Xg X "tuple.count" (Z8 X.K):=by
 intro ad s σ H x vs v us Q I rx rv h;obtain⟨a,xs,y,rfl,rfl,ha,fy,fs,q⟩:=h;cases rx;obtain⟨u,rfl,ru⟩:=wT rv;obtain⟨its,r,pl,_⟩:=I.tuple ha;obtain⟨⟨cls,dd,data,sl⟩,ho,hc,n,hd⟩:=id pl;simp only at hc hd;subst hc hd;refine iU F.slot_tuple_count ⟨_,ho,Z⟩ F.entry_tuple_count (F.args_tuple_count_2 _ _) (SeqAt.tuple_countAt a its.toArray n dd sl u (Ho y)) ⟨ho,λw hw=>mP ru fy r fs w (by simpa using hw),?_⟩;rw[show its.toArray.toList=its from Z,Dw r fs];exact⟨.int _,H,I.tok _,⟨_,Z⟩,q⟩
end L2
namespace L2
open PySem PySem.Spec PySem.SeqAt PyProof.Rows
variable{X:Cx}
theorem DR(hu:X.A.units+100<cLine):nq X (compareOp .Eq) (λx y H Q=>∃d e,Dat H x d/\Dat H y e/\shaped d=true/\shaped e=true/\noMix d e=true/\Q (.bl (PySem.Spec.same d e)) H):=by
 intro ad s σ H x y v u Q I rx ry h;obtain⟨d,e,hd,he,s1,s2,m,q⟩:=h;obtain⟨⟨as,rd⟩,_⟩:=hd.reads I.bM rx;obtain⟨⟨bs,re⟩,_⟩:=he.reads I.bM ry;exact eq_dataH_same rd re s1 s2 (by lia) m ⟨.bl _,H,I,Z,q⟩
theorem cI{X:Cx}{e:aaa}{es:b_}{te:TE}{ta:TA}(hs:∀(es:b_) (env:Env),starEach (e::es) env=(false,eval e env)::starEach es env)(ha:Ox X e te)(hr:UL X es ta):UL X (e::es) (Au te ta):=⟨ag ha.h hr.h (hs _ _)⟩
theorem qO{X:Cx}{es:b_}{ta:TA}{x1:Nat}{pos:Pos}(h:UL X es ta):Ox X (.Tuple es x1 pos) (ZZ ta):=⟨ba h.h⟩
theorem Qj{X:Cx}{a b:aaa}{rest:b_}{ta tb:TE}{pos:Pos}(ha:Ox X a ta)(hb:Ox X (.BoolOp .And (b::rest) pos) tb):Ox X (.BoolOp .And (a::b::rest) pos) (UO ta tb):=⟨pM ha.h hb.h⟩
theorem RO{X:Cx}{a:aaa}{t:TE}{op:BoolOp}{pos:Pos}(h:Ox X a t):Ox X (.BoolOp op [a] pos) t:=⟨lr h.h⟩
theorem acu{X:Cx}{CX:tY}{j k:Nat}{f:Y'}{fd:aap}{ps:aj}{sp:Sp}{E:XK}{x:Str}{st:Stmt}{p pos:Pos}{e:aaa}{t:TA}(F:aQ X.prog X.w X.K X.mg X.base CX j f fd ps sp)(hr:dQ k X.A)(I:FI X.K X.mg x st ps f fd)(hx:wn CX X E)(hs:∀(es:b_) (env:Env),starEach (e::es) env=(false,eval e env)::starEach es env)(ha:UL X [e] t)(hj:j<=k:=by decide)(hg:Gl X x:=by rfl)(ua:(x==("__debug__" :Str))=false:=by decide):Ox X (.Call (.Name x p) [e] [] pos) (F1 sp [] E t):=⟨cv F hr I hx ha.h hj hg ua (hs _ _)⟩
end L2
namespace My
open PySem L2 PyProof.Rows
theorem jy:0<=sizeLine:=by decide
theorem ki:1<=sizeLine:=by decide
theorem fT:2<=sizeLine:=by decide
theorem sY:3<=sizeLine:=by decide
theorem Ht:4<=sizeLine:=by decide
theorem aak:5<=sizeLine:=by decide
theorem aeH:6<=sizeLine:=by decide
theorem agh:7<=sizeLine:=by decide
theorem aax:11<=sizeLine:=by decide
theorem o9:aC ["self","text"] ["self","text"] (ao jo):= .of
theorem rX:aC ["self","many"] ["self","many"] (ao lC):= .of
theorem rK:aC ["self","depth"] ["self","depth"] (ao kQ):= .of
theorem sd:aC ["self","many"] ["self","many"] (ao kC):= .of
theorem rZ:aC ["self","many"] ["self","many"] (ao kU):= .of
theorem vt:aC ["self","label"] ["self","label"] (ao m8):= .of
theorem rP:aC ["self","label"] ["self","label"] (ao kM):= .of
theorem sZ:aC ["self","line"] ["self","line"] (ao l8):= .of
theorem Ep:aC ["thing"] ["thing"] (ao xu):= .of
theorem GH:aC ["thing","low","high"] ["thing","low","high"] (ao AH):= .of
theorem HS:aC ["thing"] ["thing"] (ao DG):= .of
theorem w6:aC ["text"] ["text"] (ao oY):= .of
theorem wV:aC ["text"] ["text"] (ao oU):= .of
theorem IL:aC ["thing"] ["thing"] (ao Dx):= .of
theorem RC:aC ["kind","thing"] ["kind","thing"] (ao PX):= .of
theorem F5:aC ["deed"] ["deed"] (ao A3):= .of
theorem EG:aC ["deed"] ["deed"] (ao ym):= .of
theorem F_:aC ["deed"] ["deed"] (ao A1):= .of
theorem oy:aC ["thing","deed","body"] ["thing"] (ao yk):= .of
theorem kf:aC ["body","many","deed","inner"] ["body"] (ao Dr):= .of
theorem jw:aC ["body","depth","deed","inner"] ["body"] (ao BQ):= .of
theorem iG:aC ["body","change","first","told","number","deed"] ["body","change","first"] (ao xx):= .of
theorem e9:aC ["deed","change","first","parts","number","kind","part"] ["deed","change","first"] (ao sk):= .of
theorem ly:aC ["body","around","listed","deed","inner","within"] ["body","around"] (ao De):= .of
theorem Em:aC ["body"] ["body"] (ao xD):= .of
theorem sM:aC ["deed","asked"] ["deed"] (ao uB):= .of
theorem Ce:aC ["body"] ["body"] (ao uf):= .of
theorem vM:aC ["deed","steps"] ["deed"] (ao yi):= .of
theorem rN:aC ["self","deeds"] ["self","deeds"] (ao fE):= .of
theorem yE:aC ["self"] ["self"] (ao qf):= .of
theorem wz:aC ["self"] ["self"] (ao oI):= .of
theorem uT:aC ["self"] ["self"] (ao mL):= .of
theorem sS:aC ["self"] ["self"] (ao mj):= .of
theorem nQ:aC ["body","many","depth"] ["body"] (ao xZ):= .of
theorem kW:aC ["listed","deed","around"] ["listed"] (ao sQ):= .of
theorem nK:aC ["body","many","steps"] ["body"] (ao xh):= .of
theorem yN:aC ["program"] ["program"] (ao qw):= .of
theorem hV:aC ["body","lines","deed","bodies","turn","inner"] ["body"] (ao AJ):= .of
theorem jd:aC ["deed","words","kind","part"] ["deed"] (ao vb):= .of
theorem Gv:aC ["kind","part"] ["kind","part"] (ao Be):= .of
theorem yT:aC ["text"] ["text"] (ao pU):= .of
theorem eD:aC ["lines","levels","number","line","bodies","head","done"] ["lines"] (ao vZ):= .of
theorem Cs:aC ["level"] ["level"] (ao uz):= .of
theorem iI:aC ["line","words","kinds","texts","head"] ["line"] (ao yr):= .of
theorem FV:aC ["words"] ["words"] (ao AR):= .of
theorem Ej:aC ["kind","text"] ["kind","text"] (ao xX):= .of
theorem Es:aC ["_law_script","_law_k"] ["_law_script","_law_k"] (ao xA):= .of
theorem GB:aC ["_law_cell_here"] ["_law_cell_here"] (ao BU):= .of
theorem jS:aC ["_law_box_here","_law_many","_law_digit","_law_number"] ["_law_box_here","_law_many"] (ao yn):= .of
theorem cU:aC ["_law_box_here","_law_many","_law_letters","_law_way","_law_first","_law_step","_law_words","_law_stem","_law_at","_law_whole"] ["_law_box_here","_law_many"] (ao vU):= .of
theorem cX:aC ["_law_box_here","_law_names_here","_law_around","_law_kind","_law_x","_law_y","_law_k","_law_labels","_law_number","_law_some"] ["_law_box_here","_law_names_here","_law_around"] (ao sP):= .of
theorem dz:aC ["_law_box_here","_law_left","_law_names_here","_law_labels","_law_around","_law_room","_law_found","_law_turn","_law_kind","_law_free","_law_one","_law_label","_law_many","_law_times","_law_inner"] ["_law_box_here","_law_left","_law_names_here","_law_labels","_law_around","_law_room"] (ao qi):= .of
theorem fL:aC ["_law_box_here","_law_upto","_law_room","_law_names_here","_law_labels"] ["_law_box_here"] (ao vp):= .of
theorem Ba:aC ["_law_deed"] ["_law_deed"] (ao mz):= .of
theorem jg:aC ["_law_body_here","_law_found","_law_deed","_law_inner"] ["_law_body_here"] (ao uh):= .of
theorem f_:aC ["_law_body_here","_law_around","_law_down","_law_found","_law_deed","_law_inside","_law_one"] ["_law_body_here","_law_around","_law_down"] (ao sv):= .of
theorem cG:aC ["_law_body_here","_law_asked","_law_done","_law_deed","_law_inner"] ["_law_body_here"] (ao x_):= .of
theorem br:aC ["_law_body_here","_law_rows","_law_down","_law_deed","_law_around","_law_one","_law_asked","_law_done"] ["_law_body_here"] (ao kX):= .of
theorem EK:aC ["_law_part"] ["_law_part"] (ao xY):= .of
theorem fK:aC ["_law_body_here","_law_found","_law_deed","_law_words","_law_inner"] ["_law_body_here"] (ao oi):= .of
theorem cj:aC ["_law_call","_law_told","e"] ["_law_call"] (ao yj):= .of
theorem gH:aC ["_law_body_here","_law_text","_law_due","_law_turn","_law_found"] ["_law_body_here"] (ao jW):= .of
theorem bX:aC ["_law_box_here","_law_many","_law_figures","_law_sign","_law_lines_here","_law_found","_law_number"] ["_law_box_here"] (ao kL):= .of
theorem Jp:aC ["_law_script","_law_k","_law_box_here"] ["_law_script"] (ao Tt):= .of
set_option genInjectivity false in
set_option genSizeOf false in
structure pk where
 (d_ gR lU g8 g9 gT i8 gY iB yh Bp CU oR oX DD MU Az xw A6 xv wC AL lS sO Dl pV vS nv yt bQ qz oK mJ md xP sA xM pG AE vV Bo p_ vA uV yf Bc xm xN Ab xT ue sF pQ um je vQ si xy iF xR oF pO iK gW Vi b9 gj qp gq gm gi jP gk jl aD:Y')
 (iA cT az dy:Y')
 (jz ky vk k8 ka kK m9 k_ lY xk AD CV oG oH Dy N4 A8 xC Bn xE wq BK dX sJ C7 pq vJ nL xK bR pE oQ mT l7 xn sH xQ pA Ac vD Bh qA vI vn xp By xl yl Ae xH uK sE xB uR mG vH sx xW kS xG uq pS gh gU Kf:aap)
structure Txt(K:Frag)(mg:Str->aM)(A:pk):Prop where
 gc:XI K mg "RoomError" A.b9 A.d_ A.b9
 gp:XI K mg "TooMany" A.gj A.gR A.b9
 GY:XI K mg "NoDeed" A.qp A.lU A.b9
 fH:XI K mg "TooDeep" A.gq A.g8 A.b9
 dH:XI K mg "TooWide" A.gm A.g9 A.b9
 c7:XI K mg "TooLong" A.gi A.gT A.b9
 ir:XI K mg "Twice" A.jP A.i8 A.b9
 dS:XI K mg "NoLabel" A.gk A.gY A.b9
 pC:XI K mg "NoText" A.jl A.iB A.b9
 wR:mg "Program"=some (.ref A.aD)
 bT:U7 K A.b9 "__init__" A.d_
 qc:eE K A.gj "many"
 Nq:eE K A.qp "found"
 oS:eE K A.gq "depth"
 pw:eE K A.gm "many"
 pZ:eE K A.gi "many"
 sj:eE K A.jP "label"
 oW:eE K A.gk "label"
 CG:eE K A.jl "line"
 bD:MI K A.b9 "__init__" "RoomError.__init__" jo ["self","text"] A.d_ A.jz
 kY:MI K A.gj "__init__" "TooMany.__init__" lC ["self","many"] A.gR A.ky
 Kk:MI K A.qp "__init__" "NoDeed.__init__" vz ["self","found"] A.lU A.vk
 kA:MI K A.gq "__init__" "TooDeep.__init__" kQ ["self","depth"] A.g8 A.k8
 kO:MI K A.gm "__init__" "TooWide.__init__" kC ["self","many"] A.g9 A.ka
 kq:MI K A.gi "__init__" "TooLong.__init__" kU ["self","many"] A.gT A.kK
 mR:MI K A.jP "__init__" "Twice.__init__" m8 ["self","label"] A.i8 A.m9
 kT:MI K A.gk "__init__" "NoLabel.__init__" kM ["self","label"] A.gY A.k_
 mf:MI K A.jl "__init__" "NoText.__init__" l8 ["self","line"] A.iB A.lY
 lO:FI K mg "is_number" xu ["thing"] A.yh A.xk
 BE:FI K mg "is_whole" AH ["thing","low","high"] A.Bp A.AD
 qK:FI K mg "is_name" DG ["thing"] A.CU A.CV
 oJ:FI K mg "is_whole_text" oY ["text"] A.oR A.oG
 jJ:FI K mg "is_count_text" oU ["text"] A.oX A.oH
 w8:FI K mg "is_deed" Dx ["thing"] A.DD A.Dy
 IG:FI K mg "fits" PX ["kind","thing"] A.MU A.N4
 ke:FI K mg "parts_of" A3 ["deed"] A.Az A.A8
 e_:FI K mg "bodies_of" ym ["deed"] A.xw A.xC
 tH:FI K mg "is_block" A1 ["deed"] A.A6 A.Bn
 qh:FI K mg "want_body" yk ["thing"] A.xv A.xE
 mU:FI K mg "many_in" Dr ["body"] A.wC A.wq
 s_:FI K mg "depth_of" BQ ["body"] A.AL A.BK
 l9:FID K mg "rewritten" xx ["body","change","first"] A.lS A.dX
 sy:FI K mg "with_bodies" sk ["deed","change","first"] A.sO A.sJ
 wj:FI K mg "listing" De ["body","around"] A.Dl A.C7
 lR:FI K mg "widest_of" xD ["body"] A.pV A.pq
 vG:FI K mg "choices_of" uB ["deed"] A.vS A.vJ
 jX:FI K mg "longest_of" uf ["body"] A.nv A.nL
 yb:FI K mg "length_of" yi ["deed"] A.yt A.xK
 fi:MI K A.aD "__init__" "Program.__init__" fE ["self","deeds"] A.bQ A.bR
 dM:MI K A.aD "told" "Program.told" qf ["self"] A.qz A.pE
 oV:MI K A.aD "deeds" "Program.deeds" oI ["self"] A.oK A.oQ
 mW:MI K A.aD "widest" "Program.widest" mL ["self"] A.mJ A.mT
 l5:MI K A.aD "longest" "Program.longest" mj ["self"] A.md A.l7
 xo:FI K mg "want_size" xZ ["body"] A.xP A.xn
 sf:FI K mg "want_labels" sQ ["listed"] A.sA A.sH
 yo:FI K mg "want_runs" xh ["body"] A.xM A.xQ
 iC:FI K mg "show_program" qw ["program"] A.pG A.pA
 tG:FI K mg "lines_of" AJ ["body"] A.AE A.Ac
 uX:FI K mg "first_line" vb ["deed"] A.vV A.vD
 AW:FI K mg "words_of" Be ["kind","part"] A.Bo A.Bh
 iL:FI K mg "read_program" pU ["text"] A.p_ A.qA
 uS:FI K mg "read_lines" vZ ["lines"] A.vA A.vI
 nE:FI K mg "lacks_body" uz ["level"] A.uV A.vn
 xt:FI K mg "read_head" yr ["line"] A.yf A.xp
 Aa:FI K mg "texts_of" AR ["words"] A.Bc A.By
 xr:FI K mg "read_part" xX ["kind","text"] A.xm A.xl
 xJ:FI K mg "_law_cell" xA ["_law_script","_law_k"] A.xN A.yl
 zY:FI K mg "_law_box" BU ["_law_cell_here"] A.Ab A.Ae
 aO:FI K mg "_law_take" yn ["_law_box_here","_law_many"] A.xT A.xH
 om:FI K mg "_law_names" vU ["_law_box_here","_law_many"] A.ue A.uK
 se:FI K mg "_law_simple" sP ["_law_box_here","_law_names_here","_law_around"] A.sF A.sE
 jq:FI K mg "_law_body" qi ["_law_box_here","_law_left","_law_names_here","_law_labels","_law_around","_law_room"] A.pQ A.xB
 uZ:FI K mg "_law_deeds" vp ["_law_box_here"] A.um A.uR
 fJ:FI K mg "_law_bodies" mz ["_law_deed"] A.je A.mG
 oj:FI K mg "_law_plain" uh ["_law_body_here"] A.vQ A.vH
 jk:FI K mg "_law_listed" sv ["_law_body_here","_law_around","_law_down"] A.si A.sx
 ma:FI K mg "_law_cost" x_ ["_law_body_here"] A.xy A.xW
 pI:FI K mg "_law_refusal" kX ["_law_body_here"] A.iF A.kS
 xU:FI K mg "_law_word" xY ["_law_part"] A.xR A.xG
 nJ:FI K mg "_law_lines" oi ["_law_body_here"] A.oF A.uq
 lM:FI K mg "_law_made" yj ["_law_call"] A.pO A.pS
 jO:FI K mg "_law_right" jW ["_law_body_here"] A.iK A.gh
 kN:FI K mg "_law_great_right" kL ["_law_box_here"] A.gW A.gU
 TK:FI K mg "law" Tt ["_law_script"] A.Vi A.Kf
 cb:Nb K A.aD
 wB:Mk K A.aD A.bQ
 eX:eE K A.aD "body"
 ja:eE K A.aD "listed"
 sm:∃o,K.lookup sysModules=some o/\o.cls= .type "dict"
 iA:mg "BOUNDS"=some (.ref A.iA)
 cT:mg "FORMS"=some (.ref A.cT)
 rJ:AB K A.bR.code A.az
 Cp:AB K A.gh.code A.dy
 bm:QR K mg
 abh:∀(s:X') (u:W'),BindsTo s A.Kf ⟨[u],[]⟩ [("_law_script",u)]
 E7:mg "ValueError"=none
 Ol:mg "all"=none
 Wv:mg "bool"=none
 xO:mg "enumerate"=none
 DS:mg "int"=none
 fg:mg "isinstance"=none
 dY:mg "len"=none
 NW:mg "list"=none
 yd:mg "max"=none
 abt:mg "min"=none
 lL:mg "range"=none
 EN:mg "repr"=none
 BV:mg "str"=none
 PL:mg "sum"=none
 jf:mg "tuple"=none
 U4:mg "zip"=none
 Lw:∃u,RelV (V.str "0123456789") u/\mg "FIGURES"=some u
 KY:∃u,RelV (V.str "abcdefghijklmnopqrstuvwxyz") u/\mg "LETTERS"=some u
 BD:∃u,RelV (V.int 4) u/\mg "MOST_CHOICES"=some u
 Eu:∃u,RelV (V.int 40) u/\mg "MOST_DEEDS"=some u
 ER:∃u,RelV (V.int 6) u/\mg "MOST_DEPTH"=some u
 A2:∃u,RelV (V.int 40) u/\mg "MOST_FIGURES"=some u
 zT:∃u,RelV (V.int 6) u/\mg "MOST_LETTERS"=some u
 ED:∃u,RelV (V.int 100) u/\mg "MOST_STEPS"=some u
 xq:∃u,RelV (V.str "ground") u/\mg "OUTERMOST"=some u
def Kept(b:Y')(H H' :Hp):Prop:=∀c o,c≠b->H c=some o->H' c=some o
variable{P:aan}{w:aai}{K:Frag}{mg:Str->aM}{base:aam}{A:pk}
def XM(K:Frag):Sp:=λvs H Q _=>∃(a:Y') (ns:List Int) (k:Int),vs=[.ref a,.int k]/\bq K H a (ns.map V.int)/\0<=k/\k<1000/\∀c,Q (.int c) H
theorem Ey(T:Txt K mg A):aQ P w K mg base cY 1 A.xN A.yl ["_law_script","_law_k"] (XM K):=by
 refine T.xJ.F.BY Es ?_
 rintro cC Ar outer s H vs Q E hr ⟨a,ns,k,rfl,hS,h0,h1,q⟩
 refine⟨_,(af (a_ (jp DF (pv 1) (iY aV T.dY Boot.«len» (aF (pv 0)))) (ah (aB (cJ aP (pv 0) (pv 1)))) aK) (ah (aB (aH bB (aH my ae (pv 1)) ae)))),?_⟩;refine⟨_,Z,_,Z,a,_,Z,.inl hS,k,_,Z,Z,_,Z,?_⟩;refine sV (λhk=> ?_) (λhk=> ?_)
 .have hk:=bo hk;rw[aG] at hk;obtain⟨j,rfl⟩:∃j:Nat,k=j:=⟨k.toNat,by omega⟩;have hj:j<ns.length:=by omega
  exact⟨_,Z,_,Z,a,_,_,_,Z,Z,hS,bA (v:= .int ns[j]) (by simp[hj]),q _⟩
 .exact⟨_,Z,104729,k,Z,Z,.inl ⟨by decide,by decide⟩,_,_,Z,Z,q _⟩
def di(H:Hp)(b:Y')(k:Nat):Prop:=∃(x y z:Int),H b=some (.lst [.int x,.int y,.int z])/\0<=x/\0<=y/\y<2147483629/\0<=z/\z<=(k:Int)
def CF(b:Y')(H H' :Hp):Prop:=∀c,c≠b->H' c=H c
theorem CF.upd{b:Y'}{H:Hp}{o:HO}:CF b H (upd H b o):=λc hc=>au hc
theorem CF.kept{b:Y'}{H H' :Hp}(h:CF b H H'):Kept b H H' :=λc o hc e=>(h c hc).trans e
theorem Kept.refl(b:Y')(H:Hp):Kept b H H:=λ_ _ _ e=>e
theorem Kept.trans{b:Y'}{H H1 H2:Hp}(h:Kept b H H1)(h' :Kept b H1 H2):Kept b H H2:=λc o hc e=>h' c o hc (h c o hc e)
theorem _root_.L2.ai.kept{b:Y'}{H H' :Hp}(h:ai H H'):Kept b H H' :=λc o _ e=>h c o e
theorem di.same{b:Y'}{k:Nat}{H H' :Hp}(B:di H b k)(h:ai H H'):di H' b k:=by
 obtain⟨x,y,z,hb,r⟩:=B;exact⟨x,y,z,h _ _ hb,r⟩
theorem di.mono{b:Y'}{k j:Nat}{H:Hp}(B:di H b k)(h:k<=j):di H b j:=by
 obtain⟨x,y,z,hb,h1,h2,h3,h4,h5⟩:=B;exact⟨x,y,z,hb,h1,h2,h3,h4,by omega⟩
theorem di.ne{b p:Y'}{k:Nat}{H:Hp}(B:di H b k)(h:H p=none):p≠b:=by
 obtain⟨x,y,z,hb,_⟩:=B;exact(aw hb h).symm
theorem gy{K:Frag}{H:Hp}{p:Y'}{xs:ak}{i:Int}{Q:VK}(Pv:V->Prop)(h:H p=some (.lst xs))(h0:0<=i)(h1:i<xs.length)(hP:∀x∈xs,Pv x)(q:∀v,Pv v->Q v H):Wg K (.ref p) (.int i) H Q:=by
 obtain⟨j,rfl⟩:∃j:Nat,i=j:=⟨i.toNat,by omega⟩;have hj:j<xs.length:=by omega
 exact⟨p,xs,j,xs[j],Z,Z,bq.of h,bA (by simp[hj]),q _ (hP _ (EI hj))⟩
def acg:Sp:=λvs H Q _=>∃c,vs=[.int c]/\∀b H',H b=none->di H' b 0->ai H H'->Q (.ref b) H'
theorem FP(T:Txt K mg A):aQ P w K mg base cY 1 A.Ab A.Ae ["_law_cell_here"] acg:=by
 refine T.zY.F.BY GB ?_
 rintro cC Ar outer s H vs Q E hr ⟨c,rfl,q⟩
 refine⟨_,(ah (aB (a8 (ag (iY (j9 Z) T.yd Boot.«max» (ag ae (aF (aH jC (pv 0) (aH Ax ae ae))))) (ag (aH nR (pv 0) ae) (aF ae)))))),?_⟩;refine⟨_,Z,10,18,Z,Z,⟨by decide,by decide,by decide⟩,c,_,Z,Z,0,_,Z,?_⟩;refine⟨_,Z,c,2147483629,Z,Z,(show(0:Int)<2147483629 by decide),sY,λp hp=> ?_⟩;refine q p _ hp ⟨_,_,0,aa,?_,?_,?_,by decide,by decide⟩ (ai.upd hp)
 .split<;>omega
 .omega
 .omega
theorem Yh{n:Int}(h0:0<n)(h:n<1606938044258990275541962092341162602522202993782792835301376):n.natAbs.log2<9000:=by
 have h1:n.natAbs≠0:=by omega
 have h2:n.natAbs<2 ^ 200:=by
  have e:(2:Nat) ^ 200=1606938044258990275541962092341162602522202993782792835301376:=by decide+kernel
  omega
 exact rp ((Nat.log2_lt h1).mpr h2) (by decide)
def Wx:Sp:=λvs H Q _=>∃(b:Y') (n:Int) (k:Nat),vs=[.ref b,.int n]/\di H b k/\k<=100000/\0<n/\n<1606938044258990275541962092341162602522202993782792835301376/\
 ∀(r:Int) (H' :Hp),0<=r->r<n->di H' b (k+1)->CF b H H'->Q (.int r) H'
theorem aI(T:Txt K mg A):aQ P w K mg base cY 1 A.xT A.xH ["_law_box_here","_law_many"] Wx:=by
 refine T.aO.F.BY jS ?_
 rintro cC Ar outer s H vs Q E hr ⟨b,n,k,rfl,⟨x,y,z,hb,hx,hy,hy2,hz,JJ⟩,hk,hn,Zg,q⟩
 refine⟨_,(af (a_ (jp kR (cJ aP (pv 0) ae) ae) (af (eL 2 jS.nd (aH nR (cJ aP (pv 0) ae) (pv 1))) (af (Fz (aH GR (cJ aP (pv 0) ae) (pv 1)) (Jy (pv 0) ae jac)) (ah (aB (pv 2))))) aK) (af (Fz (aH bB (cJ aP (pv 0) ae) ae) (Jy (pv 0) ae jac)) (af (eL 3 jS.nd (aH nR (aH Ax (aH bB (aH bB (cJ aP (pv 0) ae) (aH my ae (cJ aP (pv 0) ae))) ae) ae) ae)) (af (eL 3 jS.nd (aH nR (aH Ax (aH bB (pv 3) (aH my ae (cJ aP (pv 0) ae))) ae) ae)) (ah (aB (aH nR (aH GR (pv 3) ae) (pv 1)))))))),?_⟩;refine⟨_,Z,b,_,_,_,Z,Z,bq.of hb,Z,_,_,Z,Z,_,Z,?_⟩;refine sV (λh0=> ?_) (λh0=> ?_)
 .refine⟨_,Z,b,_,_,_,Z,Z,bq.of hb,Z,_,Z,x,n,Z,Z,hn,?_⟩;refine⟨_,Z,b,_,_,_,Z,Z,bq.of hb,Z,_,Z,x,n,Z,Z,⟨hn,Yh hn Zg⟩,?_⟩;refine⟨_,Z,b,_,0,0,Z,Z,hb,Z,?_⟩;refine⟨_,Z,q _ _ (nz _ (by omega)) (qW _ hn) ⟨_,y,z,aa,Int.ediv_nonneg hx (by omega),hy,hy2,hz,by omega⟩ CF.upd⟩
 .refine⟨_,Z,b,_,_,_,Z,Z,bq.of hb,Z,z,1,Z,Z,?_⟩;refine⟨_,Z,b,_,2,2,Z,Z,hb,Z,?_⟩;have DQ :upd H b (.lst [.int x,.int y,.int (z+1)]) b=some (.lst [.int x,.int y,.int (z+1)]):=aa;refine⟨_,Z,b,_,_,_,Z,Z,bq.of DQ,Z,_,Z,b,_,_,_,Z,Z,bq.of DQ,Z,7919,z+1,Z,Z,.inl ⟨by decide,by decide⟩,y,_,Z,Z,_,61,Z,Z,_,5,Z,Z,⟨by decide,by decide,?_⟩,_,2147483647,Z,Z,(show(0:Int)<2147483647 by decide),?_⟩
  .omega
  dsimp only;generalize e1:(y+7919*(z+1)+61) ^ (5:Int).toNat % 2147483647=one;have b1:0<=one:=by rw[<-e1];exact nz _ (by decide)
  have b2:one<2147483647:=by rw[<-e1];exact qW _ (by decide)
  refine⟨_,Z,_,Z,b,_,_,_,Z,Z,bq.of DQ,Z,48271,z+1,Z,Z,.inl ⟨by decide,by decide⟩,one,_,Z,Z,_,3,Z,Z,⟨by decide,by decide,?_⟩,_,2147483629,Z,Z,(show(0:Int)<2147483629 by decide),?_⟩
  .omega
  dsimp only;generalize e2:(one+48271*(z+1)) ^ (3:Int).toNat % 2147483629=other;have b3:0<=other:=by rw[<-e2];exact nz _ (by decide)
  refine⟨_,Z,other,8,Z,Z,⟨by decide,by decide⟩,_,Z,_,n,Z,Z,hn,?_⟩;exact q _ _ (nz _ (by omega)) (qW _ hn) ⟨x,y,z+1,aa,hx,hy,hy2,by omega,by omega⟩ CF.upd
noncomputable def gn(c:Nat):Bool:=decide (97<=c)&&decide (c<=122)
noncomputable def ck(x:Str):Bool:=decide (1<=x.length)&&decide (x.length<=6)&&x.cps.toList.all gn
theorem Ln(c:Nat):(!(Builtin.Str.occurrences ("abcdefghijklmnopqrstuvwxyz" :Str) ⟨#[c]⟩ 0 ("abcdefghijklmnopqrstuvwxyz" :Str).length 1).isEmpty)=gn c:=by
 rw[PySem.StrLaws.found_one];have e:("abcdefghijklmnopqrstuvwxyz" :Str).cps.toList=(List.range 26).map (· +97):=by decide+kernel
 rw[e,km,fA,fZ];unfold gn;rw[cL,fA,fA];constructor
 .rintro ⟨i,hi,rfl⟩
  have:=mC.mp hi;omega
 .rintro ⟨h1,h2⟩
  exact⟨c - 97,mC.mpr (by omega),by omega⟩
def YO:Sp:=λvs H Q _=>∃x:Str,vs=[.str x]/\ck x=true/\∀H',ai H H'->Q (.bl true) H'
theorem tT(T:Txt K mg A):aQ P w K mg base cY 1 A.CU A.CV ["thing"] YO:=by
 refine T.qK.F.BY HS ?_
 rintro cC Ar outer s H vs Q E hr ⟨x,rfl,p,k⟩
 obtain⟨u1,D0⟩:=T.KY;obtain⟨u2,qg⟩:=T.zT;unfold ck at p;rw[cL,cL,fA,fA] at p;obtain⟨⟨h1,h6⟩,Ir⟩:=p;refine⟨_,(af (a_ (lj (gA (iY hZ T.fg Boot.«isinstance» (ag (pv 0) (aF (lW (v:= .ty "str") Z T.BV Boot.«str» rfl)))))) (ah (aB oM)) aK) (ah (aB (pM (FQ Dv Dv ae (iY ix T.dY Boot.«len» (aF (pv 0))) (c8 Z qg.2 qg.1)) (lr (iY (BO Z) T.Ol Boot.«all» (aF (L9 ["sign"] 1 [] (M3 (pv 0) Z) (λ_ _ _ _ _=>⟨(ie 0 (show(["sign"]:aj).Nodup by decide+kernel)),pD,(HG Df (pv 0) (c8 Z D0.2 D0.1))⟩))))))))),?_⟩;refine⟨_,Z,_,_,_,_,Z,.str x,Z,_,Z,cf ?_⟩;refine⟨_,Z,x,Z,aL h6 (by decide),1,x.length,Z,Z,_,Z,?_⟩;rw[aU (show(1:Int)<=(x.length:Int) by omega)];refine cD ⟨x.length,6,Z,Z,_,Z,?_⟩;rw[aU (show(x.length:Int)<=6 by omega)];refine cD ⟨_,Z,x,Z,?_⟩;refine m7 (λ_=>true) (λv=>match v with| .str z=> .bl (gn (z.cps.getD 0 0))|_=> .bV) (D_ x H) ?_ ?_ λp hp=> ?_
 .simp;exact aL h6 (by decide)
 .intro i y H' C1 C0 hy sm c1 c0;rw[bG] at hy
  cases ec:x.cps.toList[i]? with
  |none=>rw[ec] at hy;cases hy
  |some c=>
   rw[ec] at hy;cases hy;refine⟨(fU.refl _).own (by decide),⟨_,Z,_,_,Z,Z,?_⟩⟩;rw[Ln];exact c1 rfl
 .refine⟨p,x.cps.toList.map gn,Z,?_,?_⟩
  .rw[aa,gD.mpr (λ_ _=>rfl),ik,ik];rfl
  .rw[zz];rw[show(x.cps.toList.all (id ∘ gn))=true from Ir];exact k _ (ai.upd hp)
mutual
inductive Dd where
 |mk (w:Str) (ps:List Z') (bs:Bs)
inductive Ds where
 |nil
 |cons (d:Dd) (r:Ds)
inductive Bs where
 |nil
 |cons (t:Bool) (b:Ds) (r:Bs)
end
noncomputable def iR(t:Bool)(xs:List Z'):Z':=if t then .tuple xs else .list xs
mutual
noncomputable def dD:Dd->Z'
 | .mk w ps bs=> .tuple (.str w::(ps++bL bs))
noncomputable def sL:Ds->List Z'
 | .nil=>[]
 | .cons d r=>dD d::sL r
noncomputable def bL:Bs->List Z'
 | .nil=>[]
 | .cons t b r=>iR t (sL b)::bL r
end
mutual
noncomputable def mB:Dd->Nat
 | .mk _ _ bs=>nk bs
noncomputable def dq:Ds->Nat
 | .nil=>0
 | .cons d r=>max (mB d) (dq r)
noncomputable def nk:Bs->Nat
 | .nil=>0
 | .cons _ b r=>max (dq b+1) (nk r)
end
noncomputable def Ds.l:Ds->List Dd
 | .nil=>[]
 | .cons d r=>d::r.l
noncomputable def Bs.l:Bs->List (Bool×Ds)
 | .nil=>[]
 | .cons t b r=>(t,b)::r.l
noncomputable def Dd.wd:Dd->Str| .mk w _ _=>w
noncomputable def Dd.ps:Dd->List Z'| .mk _ ps _=>ps
noncomputable def Dd.bs:Dd->Bs| .mk _ _ bs=>bs
noncomputable def bH:List (Str×aj):=[("make",["name","size","mark"]),("put",["name","cell","name"]),("get",["name","name","cell"]),("set",["name","value"]),("copy",["name","name"]),("more",["name","name","number"]),("tell",["name"]),("same",["name","name"]),("frame",["label","body"]),("turns",["label","many","times","body"]),("either",["body","body"])]
noncomputable def CD:List (Str×Int×Int):=[("size",1,6),("cell",0,5),("many",1,3),("times",0,4)]
inductive rO:Str->Z'->Prop
 |name (x:Str) (h:ck x=true):rO "name" (.str x)
 |label (x:Str) (h:ck x=true) (n:x≠ "ground"):rO "label" (.str x)
 |Bl:rO "mark" .none
 |mark (x:Str) (h:ck x=true):rO "mark" (.str x)
 |Ag:rO "value" .none
 |value (i:Int) (h:i.natAbs<10 ^ 40):rO "value" (.int i)
 |number (i:Int) (h:i.natAbs<10 ^ 40):rO "number" (.int i)
 |num (k:Str) (lo hi i:Int) (h:(k,lo,hi)∈CD) (h1:lo<=i) (h2:i<=hi):rO k (.int i)
inductive c9:aj->List Z'->Prop
 |nil:c9 [] []
 |cons {k:Str} {d:Z'} {ks:aj} {ds:List Z'} (h:rO k d) (t:c9 ks ds):c9 (k::ks) (d::ds)
mutual
def ia:Dd->Prop
 | .mk w ps bs=>(∃ks:aj,(w,ks++List.replicate bs.l.length ("body" :Str))∈bH/\c9 ks ps)/\i3 bs
def fR:Ds->Prop
 | .nil=>True
 | .cons d r=>ia d/\fR r
def i3:Bs->Prop
 | .nil=>True
 | .cons _ b r=>fR b/\i3 r
end
theorem DZ:∀s:Ds,sL s=s.l.map dD
 | .nil=>by rw[sL];rfl
 | .cons d r=>by rw[sL,DZ r];rfl
theorem va:∀b:Bs,bL b=b.l.map λp=>iR p.1 (sL p.2)
 | .nil=>by rw[bL];rfl
 | .cons t b r=>by rw[bL,va r];rfl
theorem fD:∀{s:Ds},fR s->∀d∈s.l,ia d
 | .nil,_,d,h=>by cases h
 | .cons e r,h,d,hd=>by
  rw[fR] at h;rcases aN.mp hd with rfl|hd
  .exact h.1
  .exact fD h.2 d hd
theorem fh:∀{b:Bs},i3 b->∀p∈b.l,fR p.2
 | .nil,_,p,h=>by cases h
 | .cons t b r,h,p,hp=>by
  rw[i3] at h;rcases aN.mp hp with rfl|hp
  .exact h.1
  .exact fh h.2 p hp
theorem fu:∀{s:Ds},∀d∈s.l,mB d<=dq s
 | .nil,d,h=>by cases h
 | .cons e r,d,hd=>by
  rw[dq];rcases aN.mp hd with rfl|hd
  .exact yZ _ _
  .exact aL (fu d hd) (zC _ _)
theorem fk:∀{b:Bs},∀p∈b.l,dq p.2+1<=nk b
 | .nil,p,h=>by cases h
 | .cons t b r,p,hp=>by
  rw[nk];rcases aN.mp hp with rfl|hp
  .exact yZ _ _
  .exact aL (fk p hp) (zC _ _)
theorem cQ{H:Hp}:∀{xs:ak} {ds:List Z'},DatAll H xs ds->xs.length=ds.length
 |_,_,.nil=>rfl
 |_,_,.cons _ t=>by rw[aZ,aZ,cQ t]
theorem oq{H:Hp}:∀{ds es:List Z'} {zs:ak},DatAll H zs (ds++es)->∃xs ys,zs=xs++ys/\DatAll H xs ds/\DatAll H ys es
 |[],es,zs,h=>⟨[],zs,Z,.nil,h⟩
 |d::ds,es,_,.cons h t=>by
  obtain⟨xs,ys,rfl,h1,h2⟩:=oq t;exact⟨_::xs,ys,Z,.cons h h1,h2⟩
theorem i_{H:Hp}:∀{xs ys:ak} {ds es:List Z'},DatAll H xs ds->DatAll H ys es->DatAll H (xs++ys) (ds++es)
 |_,_,_,_,.nil,h=>h
 |_,_,_,_,.cons a t,h=> .cons a (i_ t h)
theorem ff{H:Hp}:∀{xs:ak} {ds:List Z'},DatAll H xs ds->∀(i:Nat) v,xs[i]? =some v->∃d,ds[i]? =some d/\Dat H v d
 |_,_,.nil,i,v,e=>by cases e
 |_,_,.cons h t,0,v,e=>by cases e;exact⟨_,Z,h⟩
 |_,_,.cons h t,i+1,v,e=>by
  obtain⟨d,e',hd⟩:=ff t i v (by simpa using e);exact⟨d,by simpa using e',hd⟩
theorem fP{H:Hp}{v:V}{t:Bool}{ds:List Z'}(h:Dat H v (iR t ds)):∃a vs,v= .ref a/\H a=some (Ls t vs)/\DatAll H vs ds:=by
 cases t with
 |false=>cases h with|lst e h=>exact⟨_,_,Z,e,h⟩
 |true=>cases h with|tup e h=>exact⟨_,_,Z,e,h⟩
theorem Ou{H:Hp}{v:V}{d:Dd}(h:Dat H v (dD d)):∃a xs ys,v= .ref a/\H a=some (.tup (.str d.wd::(xs++ys)))/\DatAll H xs d.ps/\DatAll H ys (bL d.bs):=by
 cases d with
 |mk w ps bs=>
  rw[dD] at h
  cases h with
  |tup e h=>
   cases h with
   |cons h t=>
    cases h;obtain⟨xs,ys,rfl,h1,h2⟩:=oq t;exact⟨_,xs,ys,Z,e,h1,h2⟩
structure Frm where
 kF:gu
 kB:gu
structure pP(P:aan)(w:aai)(K:Frag)(A:pk)(fm:Frm):Prop where
 xV:AZ P w K A.cT fm.kF
 OK:AZ P w K A.iA fm.kB
 f:∀p∈bH,∃t,i4 fm.kF (.inr p.1)=some (.ref t)/\∀H,bu K H t (p.2.map V.str)
 df:∃u,RelV (.int 0) u/\Binds K A.dX ["body","change","first"] [u]
 b:∀p∈CD,∃t,i4 fm.kB (.inr p.1)=some (.ref t)/\∀H,bu K H t [.int p.2.1,.int p.2.2]
 no:i4 fm.kF (.inr "or")=none
 ne:i4 fm.kF (.inr "end")=none
 ft:∀p∈bH,∀t,i4 fm.kF (.inr p.1)=some (.ref t)->∃o,K.lookup t=some o/\o.cls= .type "tuple" /\o.dict=none
variable{fm:Frm}
def Nd:Sp:=λvs H Q _=>∃i:Int,vs=[.int i]/\Q (.bl true) H
theorem ow(T:Txt K mg A):aQ P w K mg base cY 1 A.yh A.xk ["thing"] Nd:=by
 refine T.lO.F.BY Ep ?_
 rintro cC Ar outer s H vs Q E hr ⟨i,rfl,q⟩
 refine⟨_,(ah (aB (pM (iY hZ T.fg Boot.«isinstance» (ag (pv 0) (aF (lW (v:= .ty "int") Z T.DS Boot.«int» rfl)))) (lr (Wn (iY hZ T.fg Boot.«isinstance» (ag (pv 0) (aF (lW (v:= .ty "bool") Z T.Wv Boot.«bool» rfl))))))))),?_⟩;refine⟨_,Z,_,_,_,_,Z,.int i,Z,_,Z,cD ⟨_,Z,_,_,_,_,Z,.int i,Z,_,Z,q⟩⟩
def Ro:Sp:=λvs H Q _=>∃i lo hi:Int,vs=[.int i,.int lo,.int hi]/\Q (.bl (decide (lo<=i)&&decide (i<=hi))) H
theorem Hw(T:Txt K mg A):aQ P w K mg base cY 2 A.Bp A.AD ["thing","low","high"] Ro:=by
 refine T.BE.F.BY GH ?_
 rintro cC Ar outer s H vs Q E hr ⟨i,lo,hi,rfl,q⟩
 refine⟨_,(ah (aB (pM (cv (ow T) hr T.lO aA (aF (pv 0))) (lr (FQ Dv Dv (pv 1) (pv 0) (pv 2)))))),?_⟩;refine⟨_,Z,i,Z,_,Z,cD ⟨_,Z,_,Z,lo,i,Z,Z,_,Z,?_⟩⟩;by_cases h1:lo<=i
 .rw[aU h1] at q ⊢;exact cD ⟨_,Z,i,hi,Z,Z,by simpa using q⟩
 .rw[bf h1] at q ⊢;exact cf (by simpa using q)
def Qm:Sp:=λvs H Q _=>∃a w ks xs,vs=[.ref a]/\H a=some (.tup (.str w::xs))/\(w,ks)∈bH/\ks.length=xs.length/\
 ∀l zs H',H l=none->ai H H'->H' l=some (.lst zs)->DP H' zs (ks.map V.str) xs->Q (.ref l) H'
theorem QB(x:V)(xs:ak):gC (x::xs) (some 1) none=xs:=by
 unfold gC;rw[show HT.gw (x::xs).length 0 (some 1)=min 1 (xs.length+1) from HT.nY _ _ 1,HT.AF,show min 1 (xs.length+1)=1 by lia];show xs.take (xs.length+1 - 1)=xs;exact gf (by lia)
theorem iZ(x:V)(xs:ak):Kh (x::xs) 0=some x:=bA (xs:=x::xs) (j:=0) rfl
theorem lZ(T:Txt K mg A)(Fm:pP P w K A fm):aQ P w K mg base cY 1 A.Az A.A8 ["deed"] Qm:=by
 refine T.ke.F.BY F5 ?_
 rintro cC Ar outer s H vs Q E hr ⟨a,w,ks,xs,rfl,ha,hf,hl,q⟩
 obtain⟨t,hv,ht⟩:=Fm.f _ hf;refine⟨_,(ah (aB (IJ Z Z T.NW Z T.U4 (ag (jv Fm.xV (c8 (v:= .ref A.cT) Z T.cT Z) (cJ aY (pv 0) ae)) (aF (dj Aq (pv 0) (eA ae) fj)))))),?_⟩;refine⟨_,Z,a,_,0,_,Z,Z,bu.of ha,iZ _ _,.inr w,_,Z,Z,hv,_,Z,_,Z,a,_,Z,bu.of ha,?_,λp hp=> ?_⟩
 .rintro ⟨z,_⟩
  rw[show HT.gw _ 0 (some 1)=min 1 _ from HT.nY _ _ 1] at z;simp only[aZ] at z
  lia
 .rw[QB];refine⟨t,p,_,_,Z,ht _,bu.of aa,by rw[aG];exact hl,λl zs H' h1 h2 h3 h4=> ?_⟩;exact q l zs H' ((ai.upd hp).free h1) ((ai.upd hp).trans h2) h3 h4
theorem Wp{A B:Prop}{x:V}(h:A):if decide (x=x)=true then A else B:=by
 rw[ay (aU Z)];exact h
theorem g7{A B:Prop}{x y:V}(n:x≠y)(h:B):if decide (x=y)=true then A else B:=by
 rw[aq (λz=>n (bo z))];exact h
theorem cw{x y:Str}(h:x≠y):V.str x≠V.str y:=λz=>h (V.str.inj z)
theorem kg{k y:Str}{lo hi:Int}(h:(k,lo,hi)∈CD)(n:(CD.all λp=>decide (p.1≠y))=true):V.str k≠V.str y:=cw (bo (bS.mp n _ h))
def Z9(H:Hp)(k:Str)(v:V):Prop:=(∃d,rO k d/\Dat H v d)\/(k="body" /\∃a t xs,v= .ref a/\H a=some (Ls t xs))
def Y0:Sp:=λvs H Q _=>∃k v,vs=[.str k,v]/\Z9 H k v/\∀H',ai H H'->Q (.bl true) H'
theorem J_(T:Txt K mg A)(Fm:pP P w K A fm):aQ P w K mg base cY 3 A.MU A.N4 ["kind","thing"] Y0:=by
 refine T.IG.F.BY RC ?_
 rintro cC Ar outer s H vs Q E hr ⟨k,v,rfl,hf,q⟩
 obtain⟨u1,ju⟩:=T.xq;refine⟨_,(af (a_ (jp cM (pv 0) ax) (ah (aB (cv (tT T) hr T.qK aA (aF (pv 1))))) aK) (af (a_ (jp cM (pv 0) ax) (ah (aB (pM (cv (tT T) hr T.qK aA (aF (pv 1))) (lr (HG mN (pv 1) (c8 Z ju.2 ju.1)))))) aK) (af (a_ (jp cM (pv 0) ax) (ah (aB (ME (HG AQ (pv 1) eU) (lr (cv (tT T) hr T.qK aA (aF (pv 1))))))) aK) (af (a_ (jp cM (pv 0) ax) (ah (aB (ME (HG AQ (pv 1) eU) (lr (cv (ow T) hr T.lO aA (aF (pv 1))))))) aK) (af (a_ (jp cM (pv 0) ax) (ah (aB (cv (ow T) hr T.lO aA (aF (pv 1))))) aK) (af (a_ (jp cM (pv 0) ax) (ah (aB (iY Co T.fg Boot.«isinstance» (ag (pv 1) (aF (ba (ag (lW (v:= .ty "list") Z T.NW Boot.«list» rfl) (aF (lW (v:= .ty "tuple") Z T.jf Boot.«tuple» rfl))))))))) aK) (ah (aB (cv (Hw T) hr T.BE aA (ag (pv 1) (ag (cJ aY (jv Fm.OK (c8 (v:= .ref A.iA) Z T.iA Z) (pv 0)) ae) (aF (cJ aY (jv Fm.OK (c8 (v:= .ref A.iA) Z T.iA Z) (pv 0)) ae))))))))))))),?_⟩;have q0:=q H (ai.refl H);rcases hf with⟨d,hf,hd⟩|⟨rfl,a,t,xs,rfl,ha⟩
 .cases hf with
  |name x h=>
   cases hd;exact⟨_,Z,Z,_,Z,Wp ⟨_,Z,x,Z,h,q⟩⟩
  |label x h n=>
   cases hd;refine⟨_,Z,Z,_,Z,g7 (by decide+kernel) ⟨_,Z,Z,_,Z,Wp ⟨_,Z,x,Z,h,λH' s=>⟨_,Z,cD ⟨_,Z,Z,?_⟩⟩⟩⟩⟩;rw[bf (cw n)];exact q H' s
  |Bl=>
   cases hd;exact⟨_,Z,Z,_,Z,g7 (by decide+kernel) ⟨_,Z,Z,_,Z,g7 (by decide+kernel) ⟨_,Z,Z,_,Z,Wp ⟨_,Z,Z,_,Z,cD q0⟩⟩⟩⟩
  |mark x h=>
   cases hd;exact⟨_,Z,Z,_,Z,g7 (by decide+kernel) ⟨_,Z,Z,_,Z,g7 (by decide+kernel) ⟨_,Z,Z,_,Z,Wp ⟨_,Z,Z,_,Z,g7 (λz=>nomatch z) ⟨_,Z,x,Z,h,q⟩⟩⟩⟩⟩
  |Ag=>
   cases hd;exact⟨_,Z,Z,_,Z,g7 (by decide+kernel) ⟨_,Z,Z,_,Z,g7 (by decide+kernel) ⟨_,Z,Z,_,Z,g7 (by decide+kernel) ⟨_,Z,Z,_,Z,Wp ⟨_,Z,Z,_,Z,cD q0⟩⟩⟩⟩⟩
  |value i h=>
   cases hd;exact⟨_,Z,Z,_,Z,g7 (by decide+kernel) ⟨_,Z,Z,_,Z,g7 (by decide+kernel) ⟨_,Z,Z,_,Z,g7 (by decide+kernel) ⟨_,Z,Z,_,Z,Wp ⟨_,Z,Z,_,Z,g7 (λz=>nomatch z) ⟨_,Z,i,Z,q0⟩⟩⟩⟩⟩⟩
  |number i h=>
   cases hd;exact⟨_,Z,Z,_,Z,g7 (by decide+kernel) ⟨_,Z,Z,_,Z,g7 (by decide+kernel) ⟨_,Z,Z,_,Z,g7 (by decide+kernel) ⟨_,Z,Z,_,Z,g7 (by decide+kernel) ⟨_,Z,Z,_,Z,Wp ⟨_,Z,i,Z,q0⟩⟩⟩⟩⟩⟩
  |num k lo hi i h h1 h2=>
   cases hd;obtain⟨t,e1,e2⟩:=Fm.b _ h;refine⟨_,Z,Z,_,Z,g7 (kg h (by decide+kernel)) ⟨_,Z,Z,_,Z,g7 (kg h (by decide+kernel)) ⟨_,Z,Z,_,Z,g7 (kg h (by decide+kernel)) ⟨_,Z,Z,_,Z,g7 (kg h (by decide+kernel)) ⟨_,Z,Z,_,Z,g7 (kg h (by decide+kernel)) ⟨_,Z,Z,_,Z,g7 (kg h (by decide+kernel)) ?_⟩⟩⟩⟩⟩⟩;refine⟨_,Z,_,Z,.inr k,_,Z,Z,e1,t,_,0,_,Z,Z,e2 _,Z,_,Z,.inr k,_,Z,Z,e1,t,_,1,_,Z,Z,e2 _,Z,i,_,_,Z,?_⟩;rw[aU h1,aU h2];exact q0
 .refine⟨_,Z,Z,_,Z,g7 (by decide+kernel) ⟨_,Z,Z,_,Z,g7 (by decide+kernel) ⟨_,Z,Z,_,Z,g7 (by decide+kernel) ⟨_,Z,Z,_,Z,g7 (by decide+kernel) ⟨_,Z,Z,_,Z,g7 (by decide+kernel) ⟨_,Z,Z,_,Z,Wp ?_⟩⟩⟩⟩⟩⟩;refine⟨_,Z,fT,λp hp=> ?_⟩;have s1:=ai.upd (o:= .tup [V.ty "list",V.ty "tuple"]) hp;refine⟨a,p,Z,?_,aa,q _ s1⟩;have E8 :=s1 _ _ ha
  cases t with
  |false=>exact .inl ⟨_,E8⟩
  |true=>exact .inr ⟨_,E8⟩
def pK(ok:Hp->Dd->V->Hp->VK->Prop):Sp:=λvs H Q _=>∃H0 v d,vs=[v]/\ai H0 H/\Dat H0 v (dD d)/\ia d/\ok H0 d v H Q
theorem wc{k:Str}{d:Z'}(h:rO k d):k≠ "body":=by
 cases h with
 |num k lo hi i h=>
  intro z;subst z;exact kg h (by decide+kernel) rfl
 |_=>decide+kernel
theorem n9{ks:aj}{ds:List Z'}(h:c9 ks ds):ks.length=ds.length:=by
 induction h with
 |nil=>rfl
 |cons _ _ ih=>rw[aZ,aZ,ih]
theorem fV{ks:aj}{ds:List Z'}(h:c9 ks ds):∀(i:Nat) k d,ks[i]? =some k->ds[i]? =some d->rO k d:=by
 induction h with
 |nil=>intro i k d e;cases e
 |cons h t ih=>
  intro i k d e1 e2
  cases i with
  |zero=>cases e1;cases e2;exact h
  |succ i=>exact ih i k d (by simpa using e1) (by simpa using e2)
structure gs(H:Hp)(d:Dd)(a:Y')(ks:aj)(xs ys:ak):Prop where
 e:H a=some (.tup (.str d.wd::(xs++ys)))
 hx:DatAll H xs d.ps
 hy:DatAll H ys (bL d.bs)
 f:(d.wd,ks++List.replicate ys.length ("body" :Str))∈bH
 fit:c9 ks d.ps
theorem dO{H:Hp}{v:V}{d:Dd}(h:Dat H v (dD d))(ok:ia d):∃a ks xs ys,v= .ref a/\gs H d a ks xs ys:=by
 obtain⟨a,xs,ys,rfl,e,h1,h2⟩:=Ou h
 cases d with
 |mk w ps bs=>
  rw[ia] at ok;obtain⟨⟨ks,f,fit⟩,_⟩:=ok
  have hl:ys.length=bs.l.length:=by
   rw[cQ h2,show Dd.bs (.mk w ps bs)=bs from Z,va,aG]
  exact⟨a,ks,xs,ys,Z,e,h1,h2,by rw[hl];exact f,fit⟩
theorem gs.same{H H' :Hp}{d:Dd}{a:Y'}{ks:aj}{xs ys:ak}(p:gs H d a ks xs ys)(s:ai H H'):gs H' d a ks xs ys:=⟨s _ _ p.e,DatAll.same s p.hx,DatAll.same s p.hy,p.f,p.fit⟩
theorem gs.lx{H:Hp}{d:Dd}{a:Y'}{ks:aj}{xs ys:ak}(p:gs H d a ks xs ys):ks.length=xs.length:=by rw[n9 p.fit,cQ p.hx]
theorem gs.len{H:Hp}{d:Dd}{a:Y'}{ks:aj}{xs ys:ak}(p:gs H d a ks xs ys):(ks++List.replicate ys.length ("body" :Str)).length=(xs++ys).length:=by
 rw[aT,aT,eV,p.lx]
theorem gs.fits{H:Hp}{d:Dd}{a:Y'}{ks:aj}{xs ys:ak}(p:gs H d a ks xs ys)(i:Nat)(k:Str)(v:V)(h1:(ks++List.replicate ys.length ("body" :Str))[i]? =some k)(h2:(xs++ys)[i]? =some v):Z9 H k v:=by
 have hl:=p.lx;by_cases hi:i<xs.length
 .rw[fz (by lia)] at h1;rw[fz hi] at h2;obtain⟨d',e,hd⟩:=ff p.hx i v h2;exact .inl ⟨d',fV p.fit i k d' h1 e,hd⟩
 .rw[gS (by lia)] at h1 h2;rw[tm] at h1
  split at h1
  .cases h1;obtain⟨d',e,hd⟩:=ff p.hy _ v h2;rw[va,bG] at e
   cases eb:d.bs.l[i - xs.length]? with
   |none=>rw[eb] at e;cases e
   |some b=>
    rw[eb] at e;cases e;obtain⟨a',vs,rfl,ea,_⟩:=fP hd;exact .inr ⟨Z,a',b.1,vs,Z,ea⟩
  .cases h1
theorem _root_.L2.DP.same{H H' :Hp}{zs xs ys:ak}(z:DP H zs xs ys)(s:ai H H'):DP H' zs xs ys:=⟨z.len,λj x y e1 e2=>by
 obtain⟨t,e3,e4⟩:=z.at_ j x y e1 e2;exact⟨t,e3,s _ _ e4⟩⟩
theorem ZB{H:Hp}{zs xs ys:ak}(z:DP H zs xs ys)(hl:xs.length=ys.length){i:Nat}{v:V}(e:zs[i]? =some v):∃t x y,v= .ref t/\H t=some (.tup [x,y])/\xs[i]? =some x/\ys[i]? =some y:=by
 have hi:=(dE.mp e).1;have hz:=z.len;have e1:xs[i]? =some xs[i]:=by simp
 have e2:ys[i]? =some ys[i]:=by simp
 obtain⟨t,e3,e4⟩:=z.at_ i _ _ e1 e2;rw[e] at e3;cases e3;exact⟨t,_,_,Z,e4,e1,e2⟩
theorem cO{w:Str}{ks:aj}(h:(w,ks)∈bH):ks.length<=4:=bo (bS.mp (show(bH.all λp=>decide (p.2.length<=4))=true by decide+kernel) _ h)
def MB:Sp:=pK λ_ d v H Q=>∀H',ai H H'->Q (.bl true) H'
theorem A9(T:Txt K mg A)(Fm:pP P w K A fm):aQ P w K mg base cY 4 A.DD A.Dy ["thing"] MB:=by
 refine T.w8.F.BY IL ?_
 rintro cC Ar outer s H vs Q E hr ⟨H0,v,d,rfl,jZ,hd,ok,q⟩
 obtain⟨a,ks,xs,ys,rfl,p0⟩:=dO hd ok;have p:=p0.same jZ;obtain⟨t,hv,ht⟩:=Fm.f _ p.f;refine⟨_,(af (a_ (PW.pt (WP (lj (gA (iY hZ T.fg Boot.«isinstance» (ag (pv 0) (aF (lW (v:= .ty "tuple") Z T.jf Boot.«tuple» rfl)))))) (WP (lj (AS (pv 0) (λ_=>rfl))) (WF (lj (gA (iY hZ T.fg Boot.«isinstance» (ag (cJ aY (pv 0) ae) (aF (lW (v:= .ty "str") Z T.BV Boot.«str» rfl)))))))))) (ah (aB oM)) aK) (af (a_ (PW.pt (WP (NN (Ao Fm.xV (cJ aY (pv 0) ae) (c8 (v:= .ref A.cT) Z T.cT Z))) (WF (jp mN (iY aV T.dY Boot.«len» (aF (pv 0))) (aH bB ae (iY aV T.dY Boot.«len» (aF (jv Fm.xV (c8 (v:= .ref A.cT) Z T.cT Z) (cJ aY (pv 0) ae))))))))) (ah (aB oM)) aK) (ah (aB (iY (BO Z) T.Ol Boot.«all» (aF (L9 ["kind","part"] 2 [] (fb (cv (lZ T Fm) hr T.ke aA (aF (pv 0)))) (λ_ _ _ _ _=>⟨(Fv (K:=K) (n:=2) Z Z (bJ (ie 0 (show(["kind","part"]:aj).Nodup by decide+kernel)) (bJ (ie 1 (show(["kind","part"]:aj).Nodup by decide+kernel)) iq)) Z Z),pD,(cv (J_ T Fm) hr T.IG aA (ag (pv 0) (aF (pv 1))))⟩)))))))),?_⟩;have hs:(ks++List.replicate ys.length ("body" :Str)).length<=sizeLine:=aL (cO p.f) (by decide);have hl:=p.len;refine⟨_,Z,_,_,_,_,Z,.tup p.e,Z,_,Z,cf ⟨_,Z,_,.inr (.inl ⟨_,bu.of p.e,Z⟩),cf ⟨_,Z,a,_,0,_,Z,Z,bu.of p.e,iZ _ _,_,_,_,_,Z,.str _,Z,_,Z,cf ?_⟩⟩⟩;refine⟨_,Z,a,_,0,_,Z,Z,bu.of p.e,iZ _ _,.inr d.wd,Z,Z,?_⟩;have Mo :i4 fm.kF (.inr d.wd)=some (.ref t):=hv;rw[Mo];refine⟨_,Z,cf ⟨_,Z,a,_,Z,.inr (bu.of p.e),_,Z,a,_,0,_,Z,Z,bu.of p.e,iZ _ _,.inr d.wd,_,Z,Z,Mo,t,_,Z,.inr (ht _),1,_,Z,Z,Z,_,Z,?_⟩⟩
 have el:decide (V.int ((V.str d.wd::(xs++ys)).length:Int)=V.int (1+((ks++List.replicate ys.length ("body" :Str)).map V.str).length))=true:=by
  rw[aG,p.len,aZ];exact aU (by congr 1;lia)
 show if(!decide (V.int ((V.str d.wd::(xs++ys)).length:Int)=V.int (1+((ks++List.replicate ys.length ("body" :Str)).map V.str).length)))=true then _ else _
 rw[el];refine cf ⟨_,Z,a,d.wd,_,_,Z,p.e,p.f,p.len,λl zs H1 Zk s1 hz zp=> ?_⟩;refine⟨l,Z,⟨_,bq.of hz⟩,?_⟩;have Zd:zs.length=(ks++List.replicate ys.length ("body" :Str)).length:=by rw[zp.len,aG]
 refine ib (λ_=>true) (λ_=> .bl true) (gZ (bq.of hz)).g (by lia) ?_ λp2 H2 h0 s2 h2=> ?_
 .intro i x H' C1 C0 hi sm hy c1 c0;obtain⟨tt,k,v,rfl,hT,e1,e2⟩:=ZB (zp.same sm) (by rw[aG];exact p.len) hy;rw[bG] at e1
  cases ek:(ks++List.replicate ys.length ("body" :Str))[i]? with
  |none=>rw[ek] at e1;cases e1
  |some k' =>
   rw[ek] at e1;cases e1;refine⟨tt,_,Z,bu.of hT,Z,_,_,Z,_,_,Z,Z,((fU.refl _).own (by decide)).own (by decide),⟨_,Z,_,Z,k',v,Z,?_,λH3 s3=>c1 Z H3 s3⟩⟩;rcases p.fits i k' v ek e2 with⟨d',f1,f2⟩|⟨f1,a',t',Mq,f2,f3⟩
   .exact .inl ⟨d',f1,f2.same (s1.trans sm)⟩
   .exact .inr ⟨f1,a',t',Mq,f2,(s1.trans sm) _ _ f3⟩
 .refine⟨p2,List.replicate zs.length true,Z,?_,?_⟩
  .rw[h2,gD.mpr (λ_ _=>rfl),List.map_replicate,List.map_const',qM]
  .have:(List.replicate zs.length true).all id=true:=by simp
   rw[this];exact q _ (s1.trans s2)
def Nl:Sp:=pK λH0 d v H Q=>∀l ys H',H l=none->ai H H'->H' l=some (.lst ys)->DatAll H0 ys (bL d.bs)->Q (.ref l) H'
theorem HV{n m:Nat}{pb:Nat->Bool}(h1:∀i,i<n->pb i=false)(h2:∀i,n<=i->i<n+m->pb i=true):(List.range (n+m)).filter pb=(List.range m).map (n+ ·):=by
 rw[List.range_add,nC,ub.mpr (λi hi=>by rw[h1 i (mC.mp hi)];decide),q_];refine gD.mpr λi hi=> ?_;obtain⟨j,hj,rfl⟩:=fZ.mp hi;exact h2 _ (lu _ _) (Nat.add_lt_add_left (mC.mp hj) _)
theorem Cy(xs ys:ak):((List.range ys.length).map (xs.length+ ·)).map (λi=>(xs++ys).getD i .bV)=ys:=by
 apply vY;intro i;rw[ik,bG];by_cases hi:i<ys.length
 .rw[rg hi];simp[eQ,hi]
 .rw[jI (by rw[qM];lia),jI (by lia)];rfl
theorem dw(T:Txt K mg A)(Fm:pP P w K A fm):aQ P w K mg base cY 2 A.xw A.xC ["deed"] Nl:=by
 refine T.e_.F.BY EG ?_
 rintro cC Ar outer s H vs Q E hr ⟨H0,v,d,rfl,jZ,hd,ok,q⟩
 obtain⟨a,ks,xs,ys,rfl,p0⟩:=dO hd ok;have p:=p0.same jZ;have hl:=p.len;have hlx:=p.lx;have hs:(ks++List.replicate ys.length ("body" :Str)).length<=sizeLine:=aL (cO p.f) (by decide);refine⟨_,(ah (aB (L9 ["kind","part"] 2 [] (fb (cv (lZ T Fm) hr T.ke aA (aF (pv 0)))) (λ_ _ _ _ _=>⟨(Fv (K:=K) (n:=2) Z Z (bJ (ie 0 (show(["kind","part"]:aj).Nodup by decide+kernel)) (bJ (ie 1 (show(["kind","part"]:aj).Nodup by decide+kernel)) iq)) Z Z),(Rx (jp cM (pv 0) ax)),(pv 1)⟩)))),?_⟩;refine⟨_,Z,a,d.wd,_,_,Z,p.e,p.f,p.len,λl zs H1 Zk s1 hz zp=> ?_⟩;refine⟨l,Z,⟨_,bq.of hz⟩,?_⟩;have Zd:zs.length=(ks++List.replicate ys.length ("body" :Str)).length:=by rw[zp.len,aG]
 have JJ:zs.length=xs.length+ys.length:=by rw[Zd,hl,aT]
 refine ib (λi=>decide (xs.length<=i)) (λi=>(xs++ys).getD i .bV) (gZ (bq.of hz)).g (by lia) ?_ λp2 H2 h0 s2 h2=> ?_
 .intro i x H' C1 C0 hi sm hy c1 c0;obtain⟨tt,k,v,rfl,hT,e1,e2⟩:=ZB (zp.same sm) (by rw[aG];exact p.len) hy;rw[bG] at e1
  cases ek:(ks++List.replicate ys.length ("body" :Str))[i]? with
  |none=>rw[ek] at e1;cases e1
  |some k' =>
   rw[ek] at e1;cases e1;refine⟨tt,_,Z,bu.of hT,Z,_,_,Z,_,_,Z,Z,((fU.refl _).own (by decide)).own (by decide),_,Z,Z,_,Z,?_⟩;by_cases hb:xs.length<=i
   .rw[gS (by lia),tm] at ek
    split at ek
    .cases ek;refine Wp ?_;have:=c1 (aU hb) H' (ai.refl H');rw[eQ,e2] at this;exact⟨v,Z,this⟩
    .cases ek
   .rw[fz (by lia)] at ek;rw[fz (by lia)] at e2;obtain⟨d',f1,f2⟩:=ff p.hx i v e2;exact g7 (cw (wc (fV p.fit i k' d' ek f1))) (c0 (bf hb) H' (ai.refl H'))
 .rw[JJ,HV (λi hi=>bf (by lia)) (λi h _=>aU h),Cy] at h2;exact q p2 ys H2 (s1.free h0) (s1.trans s2) h2 p0.hy
noncomputable def dN(w:Str):Bool:=decide (w="frame")||decide (w="turns")
def Qw:Sp:=pK λ_ d v H Q=>Q (.bl (dN d.wd)) H
theorem G_{w:Str}{ks:aj}(h:(w,ks)∈bH):yY (.str "label") (ks.map V.str)=dN w:=bo (bS.mp (show(bH.all λp=>decide (yY (.str "label") (p.2.map V.str)=dN p.1))=true by decide+kernel) _ h)
theorem hX(ks:aj):(ks.map V.str).all jK=true:=by
 rw[zz];exact bS.mpr λ_ _=>rfl
theorem xS(T:Txt K mg A)(Fm:pP P w K A fm):aQ P w K mg base cY 1 A.A6 A.Bn ["deed"] Qw:=by
 refine T.tH.F.BY F_ ?_
 rintro cC Ar outer s H vs Q E hr ⟨H0,v,d,rfl,jZ,hd,ok,q⟩
 obtain⟨a,ks,xs,ys,rfl,p0⟩:=dO hd ok;have p:=p0.same jZ;obtain⟨t,hv,ht⟩:=Fm.f _ p.f;refine⟨_,(ah (aB (HG iW ax (jv Fm.xV (c8 (v:= .ref A.cT) Z T.cT Z) (cJ aY (pv 0) ae))))),?_⟩;refine⟨_,Z,a,_,0,_,Z,Z,bu.of p.e,iZ _ _,.inr d.wd,_,Z,Z,hv,t,_,Z,.inr (ht _),Z,hX _,?_⟩;have e:=G_ p.f;show Q (V.bl (yY (.str "label") _)) H;rw[e];exact q
mutual
noncomputable def lG:Dd->Nat
 | .mk _ _ bs=>l6 bs
noncomputable def dF:Ds->Nat
 | .nil=>0
 | .cons d r=>1+lG d+dF r
noncomputable def l6:Bs->Nat
 | .nil=>0
 | .cons _ b r=>dF b+l6 r
end
theorem Ei:∀s:Ds,dF s=s.l.length+(s.l.map lG).sum
 | .nil=>by rw[dF];rfl
 | .cons d r=>by
  rw[dF,Ei r];show _=(d::r.l).length+((d::r.l).map lG).sum;rw[aZ,eG,uI]
  lia
theorem OE:∀b:Bs,l6 b=(b.l.map λp=>dF p.2).sum
 | .nil=>by rw[l6];rfl
 | .cons t b r=>by
  rw[l6,OE r];rfl
theorem W_(d:Dd):lG d=(d.bs.l.map λp=>dF p.2).sum:=by
 cases d with
 |mk w ps bs=>rw[lG,OE];rfl
theorem uw{α:Type}(f:α->Nat){l:List α}{i:Nat}{x:α}(e:l[i]? =some x):((l.take (i+1)).map f).sum=((l.take i).map f).sum+f x:=by
 rw[rb,e];simp
theorem g6{d:Dd}(h:ia d):i3 d.bs:=by
 cases d with
 |mk w ps bs=>
  rw[ia] at h;exact h.2
theorem iw(d:Dd):mB d=nk d.bs:=by
 cases d with
 |mk w ps bs=>rw[mB];rfl
theorem gP{H:Hp}{s:Ds}{vs:ak}(h:DatAll H vs (sL s)){i:Nat}{x:V}(e:vs[i]? =some x):∃d,s.l[i]? =some d/\Dat H x (dD d):=by
 obtain⟨dd,e',hd⟩:=ff h i x e;rw[DZ,bG] at e'
 cases el:s.l[i]? with
 |none=>rw[el] at e';cases e'
 |some d=>rw[el] at e';cases e';exact⟨d,Z,hd⟩
theorem gQ{H:Hp}{b:Bs}{vs:ak}(h:DatAll H vs (bL b)){i:Nat}{x:V}(e:vs[i]? =some x):∃p,b.l[i]? =some p/\Dat H x (iR p.1 (sL p.2)):=by
 obtain⟨dd,e',hd⟩:=ff h i x e;rw[va,bG] at e'
 cases el:b.l[i]? with
 |none=>rw[el] at e';cases e'
 |some d=>rw[el] at e';cases e';exact⟨d,Z,hd⟩
theorem qb{H:Hp}{s:Ds}{vs:ak}(h:DatAll H vs (sL s)):vs.length=s.l.length:=by rw[cQ h,DZ,aG]
theorem iu{H:Hp}{b:Bs}{vs:ak}(h:DatAll H vs (bL b)):vs.length=b.l.length:=by rw[cQ h,va,aG]
theorem eT{P:aan}{w:aai}{K:Frag}{mg:Str->aM}{base:aam}{CX:tY}{k:Nat}{f:Y'}{fd:aap}{ps:aj}{sp:Sp}(n:∀vs H Q E,¬sp vs H Q E):aQ P w K mg base CX k f fd ps sp:=by
 constructor
 .intro vs H Q E h;exact(n _ _ _ _ h).elim
 .intros;exact(n _ _ _ _ (by assumption)).elim
def spS(n:Nat)(ok:Bool->Ds->V->Hp->VK->Prop):Sp:=λvs H Q _=>∃v t s,vs=[v]/\Dat H v (iR t (sL s))/\fR s/\dq s<n/\ok t s v H Q
def NU(n:Nat):Sp:=spS n λt s v H Q=>∀H',ai H H'->Q (.int (dF s:Nat)) H'
theorem tR(T:Txt K mg A)(Fm:pP P w K A fm)(n:Nat):aQ P w K mg base cY (2+n) A.wC A.wq ["body"] (NU n):=by
 induction n with
 |zero=>exact eT (by rintro vs H Q E ⟨v,t,s,_,_,_,h,_⟩;exact g_ _ h)
 |succ n ih=>
 show aQ P w K mg base cY ((2+n)+1) _ _ _ _;refine T.mU.F.ok kf (λvs H Q E h=> ?_) (λcC Ar outer s0 H vs Q E hr h=> ?_)
 .obtain⟨v,t,s,rfl,_⟩:=h;rfl
 .obtain⟨v,t,s,rfl,hd,ok,dp,q⟩:=h;obtain⟨a,vs,rfl,ha,hA⟩:=fP hd;refine⟨_,(af (eL 1 kf.nd (iY aV T.dY Boot.«len» (aF (pv 0)))) (af (yI (oP (pv 0)) (ie 2 kf.nd) (ah (yI (fb (cv (dw T Fm) hr T.e_ aA (aF (pv 2)) (hj:=by lia))) (ie 3 kf.nd) (ah (JA (i:=1) kf.nd Z (Or.inl Z) (cv ih hr T.mU aA (aF (pv 3)) (hj:=by lia)) Jd))))) (ah (aB (pv 1))))),?_⟩;refine⟨_,Z,a,_,Z,abR ha,⟨_,Z,a,t,Z,Mr ha,?_⟩⟩;refine mF (K:=K) (t:=t) (a:=a) (xs:=vs) (λi σ H' =>∃x2 x3:Option V,σ=[some (.ref a),some (.int ((vs.length+((s.l.take i).map lG).sum:Nat):Int)),x2,x3]/\ai H H') ⟨_,_,Z,ai.refl H⟩ (by rintro i σ H' _ ⟨_,_,_,sm⟩;exact sm _ _ ha) ?_ ?_
  .rintro i x σ H' hx ⟨x2,x3,rfl,sm⟩
   obtain⟨d,ed,nj⟩:=gP hA hx;have dm:=bt ed;have jc:=fD ok d dm;have IS:=fu d dm;refine⟨_,Z,H,x,d,Z,sm,nj,jc,λl ys H1 Zk s1 hz hB=>⟨l,Z,⟨_,bq.of hz⟩,?_⟩⟩;refine gJ (K:=K) (a:=l) (xs:=ys) (λj σ H2=>∃x3:Option V,σ=[some (.ref a),some (.int ((vs.length+((s.l.take i).map lG).sum+((d.bs.l.take j).map λp=>dF p.2).sum:Nat):Int)),some x,x3]/\ai H1 H2) ⟨_,Z,ai.refl H1⟩ (by rintro i σ H' _ ⟨_,_,sm⟩;exact bq.of (sm _ _ hz)) ?_ ?_
   .rintro j y σ H2 hy ⟨x3,rfl,s2⟩
    obtain⟨p,ep,hp⟩:=gQ hB hy;have pm:=bt ep;have t_:=fh (g6 jc) p pm;have Ak:=fk p pm;rw[<-iw] at Ak;refine⟨_,Z,_,Z,y,p.1,p.2,Z,hp.same (sm.trans (s1.trans s2)),t_,by lia,λH3 s3=>⟨_,_,Z,Z,some y,?_,s2.trans s3⟩⟩;rw[uw (λp:Bool×Ds=>dF p.2) ep,<-Nat.add_assoc,rE (_+_) (dF p.2)];rfl
   .rintro σ H2 ⟨x3,rfl,s2⟩
    refine⟨some x,x3,?_,sm.trans (s1.trans s2)⟩;rw[iu hB,lh,<-W_,uw lG ed,Nat.add_assoc]
  .rintro σ H' ⟨x2,x3,rfl,sm⟩
   refine⟨_,Z,?_⟩;rw[qb hA,lh,<-Ei];exact q H' sm
noncomputable def qy:List Nat->Nat
 |[]=>0
 |x::r=>max x (qy r)
theorem GG:∀(l:List Nat) (x:Nat),qy (l++[x])=max (qy l) x
 |[],x=>by
  show max x 0=max 0 x
  lia
 |y::r,x=>by
  show max y (qy (r++[x]))=max (max y (qy r)) x;rw[GG r x]
  lia
theorem Nz:∀s:Ds,dq s=qy (s.l.map mB)
 | .nil=>by rw[dq];rfl
 | .cons d r=>by rw[dq,Nz r];rfl
theorem Pw:∀b:Bs,nk b=qy (b.l.map λp=>dq p.2+1)
 | .nil=>by rw[nk];rfl
 | .cons t b r=>by rw[nk,Pw r];rfl
theorem Fi{α:Type}(f:α->Nat){l:List α}{i:Nat}{x:α}(e:l[i]? =some x):qy ((l.take (i+1)).map f)=max (qy ((l.take i).map f)) (f x):=by
 rw[rb,e];simp[GG]
def QK(n:Nat):Sp:=spS n λt s v H Q=>∀H',ai H H'->Q (.int (dq s:Nat)) H'
theorem Hh(T:Txt K mg A)(Fm:pP P w K A fm)(n:Nat):aQ P w K mg base cY (2+n) A.AL A.BK ["body"] (QK n):=by
 induction n with
 |zero=>exact eT (by rintro vs H Q E ⟨v,t,s,_,_,_,h,_⟩;exact g_ _ h)
 |succ n ih=>
 show aQ P w K mg base cY ((2+n)+1) _ _ _ _;refine T.s_.F.ok jw (λvs H Q E h=> ?_) (λcC Ar outer s0 H vs Q E hr h=> ?_)
 .obtain⟨v,t,s,rfl,_⟩:=h;rfl
 .obtain⟨v,t,s,rfl,hd,ok,dp,q⟩:=h;obtain⟨a,vs,rfl,ha,hA⟩:=fP hd;refine⟨_,(af (eL 1 jw.nd ae) (af (yI (oP (pv 0)) (ie 2 jw.nd) (ah (yI (fb (cv (dw T Fm) hr T.e_ aA (aF (pv 2)) (hj:=by lia))) (ie 3 jw.nd) (ah (eL 1 jw.nd (iY (j9 Z) T.yd Boot.«max» (ag (pv 1) (aF (aH bB ae (cv ih hr T.s_ aA (aF (pv 3)) (hj:=by lia))))))))))) (ah (aB (pv 1))))),?_⟩;refine⟨_,Z,a,t,Z,Mr ha,?_⟩;refine mF (K:=K) (t:=t) (a:=a) (xs:=vs) (λi σ H' =>∃x2 x3:Option V,σ=[some (.ref a),some (.int (qy ((s.l.take i).map mB):Nat)),x2,x3]/\ai H H') ⟨_,_,Z,ai.refl H⟩ (by rintro i σ H' _ ⟨_,_,_,sm⟩;exact sm _ _ ha) ?_ ?_
  .rintro i x σ H' hx ⟨x2,x3,rfl,sm⟩
   obtain⟨d,ed,nj⟩:=gP hA hx;have dm:=bt ed;have jc:=fD ok d dm;have IS:=fu d dm;refine⟨_,Z,H,x,d,Z,sm,nj,jc,λl ys H1 Zk s1 hz hB=>⟨l,Z,⟨_,bq.of hz⟩,?_⟩⟩;refine gJ (K:=K) (a:=l) (xs:=ys) (λj σ H2=>∃x3:Option V,σ=[some (.ref a),some (.int ((max (qy ((s.l.take i).map mB)) (qy ((d.bs.l.take j).map λp=>dq p.2+1)):Nat):Int)),some x,x3]/\ai H1 H2) ⟨x3,?_,ai.refl H1⟩ (by rintro i σ H' _ ⟨_,_,sm⟩;exact bq.of (sm _ _ hz)) ?_ ?_
   .rw[show max (qy ((s.l.take i).map mB)) (qy ((d.bs.l.take 0).map λp=>dq p.2+1))=qy ((s.l.take i).map mB) from Nat.max_eq_left (bU _)];rfl
   .rintro j y σ H2 hy ⟨x3,rfl,s2⟩
    obtain⟨p,ep,hp⟩:=gQ hB hy;have pm:=bt ep;have t_:=fh (g6 jc) p pm;have Ak:=fk p pm;rw[<-iw] at Ak;refine⟨_,Z,_,Z,y,p.1,p.2,Z,hp.same (sm.trans (s1.trans s2)),t_,by lia,λH3 s3=>⟨1,_,Z,Z,_,_,Z,some y,?_,s2.trans s3⟩⟩;rw[Fi (λp:Bool×Ds=>dq p.2+1) ep,<-Nat.max_assoc]
    have e:∀m k:Nat,((max m (k+1):Nat):Int)=if(1+(k:Int))>(m:Int) then(1+(k:Int)) else(m:Int):=λm k=>by
     split<;>lia
    rw[e];rfl
   .rintro σ H2 ⟨x3,rfl,s2⟩
    refine⟨some x,x3,?_,sm.trans (s1.trans s2)⟩;rw[iu hB,lh,<-Pw,<-iw,Fi mB ed]
  .rintro σ H' ⟨x2,x3,rfl,sm⟩
   refine⟨_,Z,?_⟩;rw[qb hA,lh,<-Nz];exact q H' sm
def QV(n:Nat):Sp:=spS n λt s v H Q=>∀H',ai H H'->Q .bV H'
theorem Fj(T:Txt K mg A)(Fm:pP P w K A fm)(n:Nat):aQ P w K mg base cY (4+n) A.xv A.xE ["thing"] (QV n):=by
 induction n with
 |zero=>exact eT (by rintro vs H Q E ⟨v,t,s,_,_,_,h,_⟩;exact g_ _ h)
 |succ n ih=>
 show aQ P w K mg base cY ((4+n)+1) _ _ _ _;refine T.qh.F.ok oy (λvs H Q E h=> ?_) (λcC Ar outer s0 H vs Q E hr h=> ?_)
 .obtain⟨v,t,s,rfl,_⟩:=h;rfl
 .obtain⟨v,t,s,rfl,hd,ok,dp,q⟩:=h;obtain⟨a,vs,rfl,ha,hA⟩:=fP hd;refine⟨_,(af (a_ (lj (gA (cv (J_ T Fm) hr T.IG aA (ag ax (aF (pv 0))) (hj:=by lia)))) (ah vC) aK) (ah (yI (oP (pv 0)) (ie 1 oy.nd) (af (a_ (lj (gA (cv (A9 T Fm) hr T.w8 aA (aF (pv 1)) (hj:=by lia)))) (ah vC) aK) (ah (yI (fb (cv (dw T Fm) hr T.e_ aA (aF (pv 1)) (hj:=by lia))) (ie 2 oy.nd) (ah (bj (cv ih hr T.qh aA (aF (pv 2)) (hj:=by lia)))))))))),?_⟩;refine⟨_,Z,"body",_,Z,.inr ⟨Z,a,t,vs,Z,ha⟩,λH0 yV=>⟨_,Z,cf ⟨_,Z,a,t,Z,Mr (yV _ _ ha),?_⟩⟩⟩;refine mF (K:=K) (t:=t) (a:=a) (xs:=vs) (λi σ H' =>∃x2 x3:Option V,σ=[some (.ref a),x2,x3]/\ai H H') ⟨_,_,Z,yV⟩ (by rintro i σ H' _ ⟨_,_,_,sm⟩;exact sm _ _ ha) ?_ ?_
  .rintro i x σ H' hx ⟨x2,x3,rfl,sm⟩
   obtain⟨d,ed,nj⟩:=gP hA hx;have dm:=bt ed;have jc:=fD ok d dm;have IS:=fu d dm;refine⟨_,Z,H,x,d,Z,sm,nj,jc,λH1 s1=>⟨_,Z,cf ⟨_,Z,H,x,d,Z,sm.trans s1,nj,jc,λl ys H2 Zk s2 hz hB=>⟨l,Z,⟨_,bq.of hz⟩,?_⟩⟩⟩⟩;refine gJ (K:=K) (a:=l) (xs:=ys) (λj σ H3=>∃x3:Option V,σ=[some (.ref a),some x,x3]/\ai H2 H3) ⟨x3,Z,ai.refl H2⟩ (by rintro i σ H' _ ⟨_,_,sm⟩;exact bq.of (sm _ _ hz)) ?_ ?_
   .rintro j y σ H3 hy ⟨x3,rfl,s3⟩
    obtain⟨p,ep,hp⟩:=gQ hB hy;have pm:=bt ep;have t_:=fh (g6 jc) p pm;have Ak:=fk p pm;rw[<-iw] at Ak;exact⟨_,Z,y,p.1,p.2,Z,hp.same (sm.trans (s1.trans (s2.trans s3))),t_,by lia,λH4 s4=>⟨some y,Z,s3.trans s4⟩⟩
   .rintro σ H3 ⟨x3,rfl,s3⟩
    exact⟨some x,x3,Z,sm.trans (s1.trans (s2.trans s3))⟩
  .rintro σ H' ⟨x2,x3,rfl,sm⟩
   exact q H' sm
noncomputable def iM(d:Dd):Str:=match d.ps with
 | .str x::_=>x
 |_=>""
noncomputable def nU(d:Dd)(ar:aj):aj:=if dN d.wd=true then iM d::ar else ar
mutual
noncomputable def BZ:Dd->aj->List (Dd×aj)
 | .mk w ps bs,ar=>(.mk w ps bs,ar)::CB bs (nU (.mk w ps bs) ar)
noncomputable def lE:Ds->aj->List (Dd×aj)
 | .nil,_=>[]
 | .cons d r,ar=>BZ d ar++lE r ar
noncomputable def CB:Bs->aj->List (Dd×aj)
 | .nil,_=>[]
 | .cons _ b r,ar=>lE b ar++CB r ar
end
theorem IQ(ar:aj):∀s:Ds,lE s ar=s.l.flatMap λd=>BZ d ar
 | .nil=>by rw[lE];rfl
 | .cons d r=>by rw[lE,IQ ar r];rfl
theorem N5(ar:aj):∀b:Bs,CB b ar=b.l.flatMap λp=>lE p.2 ar
 | .nil=>by rw[CB];rfl
 | .cons t b r=>by rw[CB,N5 ar r];rfl
theorem NH(d:Dd)(ar:aj):BZ d ar=(d,ar)::d.bs.l.flatMap λp=>lE p.2 (nU d ar):=by
 cases d with
 |mk w ps bs=>rw[BZ,N5];rfl
mutual
theorem Ek:∀(d:Dd) (ar:aj),(BZ d ar).length=1+lG d
 | .mk w ps bs,ar=>by rw[BZ,aZ,KN bs,lG];lia
theorem rA:∀(s:Ds) (ar:aj),(lE s ar).length=dF s
 | .nil,ar=>by rw[lE,dF];rfl
 | .cons d r,ar=>by rw[lE,aT,Ek d,rA r,dF]
theorem KN:∀(b:Bs) (ar:aj),(CB b ar).length=l6 b
 | .nil,ar=>by rw[CB,l6];rfl
 | .cons t b r,ar=>by rw[CB,aT,rA b,KN r,l6]
end
theorem dI{α β:Type}(f:α->List β){l:List α}{i:Nat}{x:α}(e:l[i]? =some x):(l.take (i+1)).flatMap f=(l.take i).flatMap f++f x:=by
 rw[rb,e];simp
theorem fq{α β:Type}(f:α->List β)(l:List α)(i:Nat):((l.take i).flatMap f).length<=(l.flatMap f).length:=by
 have e:l.flatMap f=(l.take i).flatMap f++(l.drop i).flatMap f:=by rw[<-List.flatMap_append,qD]
 rw[e,aT]
 lia
theorem iy:∀{s:Ds},∀d∈s.l,1+lG d<=dF s
 | .nil,d,h=>by cases h
 | .cons e r,d,hd=>by
  rw[dF];rcases aN.mp hd with rfl|hd
  .lia
  .have:=iy (s:=r) d hd
   lia
theorem iz:∀{b:Bs},∀p∈b.l,dF p.2<=l6 b
 | .nil,p,h=>by cases h
 | .cons t b r,p,hp=>by
  rw[l6];rcases aN.mp hp with rfl|hp
  .exact lu _ _
  .have:=iz (b:=r) p hp
   lia
theorem oC(d:Dd):lG d=l6 d.bs:=by
 cases d with
 |mk w ps bs=>rw[lG];rfl
theorem Gf{w:Str}{ks:aj}(h:(w,ks)∈bH)(b:dN w=true):ks.head? =some "label":=by
 have:=bo (bS.mp (show(bH.all λp=>decide (dN p.1=true->p.2.head? =some "label"))=true by decide+kernel) _ h);exact this b
theorem gs.iM{H:Hp}{d:Dd}{a:Y'}{ks:aj}{xs ys:ak}(p:gs H d a ks xs ys)(b:dN d.wd=true):∃Mq,xs= .str (iM d)::Mq :=by
 have h:=Gf p.f b;have hf:=p.fit;have hx:=p.hx;unfold My.iM
 cases ks with
 |nil=>
  rw[q_] at h
  cases hn:ys.length with
  |zero=>rw[hn] at h;cases h
  |succ m=>rw[hn,qG] at h;exact absurd (fC h) (by decide+kernel)
 |cons k ks=>
  have hk:k="label":=fC h;subst hk;generalize d.ps=ps at hf hx
  cases hf with
  |cons h1 h2=>
   cases hx with
   |cons g1 g2=>
    cases h1 with
    |label x _ _=>cases g1;exact⟨_,Z⟩
    |num _ _ _ _ hb=>exact absurd Z (kg hb (by decide+kernel))
def Hv(H0 H:Hp)(v:V)(r:Dd×aj):Prop:=∃t x u,v= .ref t/\H t=some (.tup [x,.ref u])/\Dat H0 x (dD r.1)/\H u=some (.tup (r.2.map V.str))
structure gB(H0 H:Hp)(zs:ak)(rs:List (Dd×aj)):Prop where
 len:zs.length=rs.length
 at_:∀(i:Nat) v,zs[i]? =some v->∃r,rs[i]? =some r/\Hv H0 H v r
def KT(H H' :Hp):Prop:=∀c xs,H c=some (.tup xs)->H' c=some (.tup xs)
theorem Hv.kt{H0 H H' :Hp}{v:V}{r:Dd×aj}(h:Hv H0 H v r)(k:KT H H'):Hv H0 H' v r:=by
 obtain⟨t,x,u,e1,e2,e3,e4⟩:=h;exact⟨t,x,u,e1,k _ _ e2,e3,k _ _ e4⟩
theorem gB.kt{H0 H H' :Hp}{zs:ak}{rs:List (Dd×aj)}(h:gB H0 H zs rs)(k:KT H H'):gB H0 H' zs rs:=⟨h.len,λi v e=>by
 obtain⟨r,e1,e2⟩:=h.at_ i v e;exact⟨r,e1,e2.kt k⟩⟩
theorem gB.nil{H0 H:Hp}:gB H0 H [] []:=⟨Z,λi v e=>by cases e⟩
theorem gB.app{H0 H:Hp}{zs ws:ak}{rs qs:List (Dd×aj)}(h:gB H0 H zs rs)(g:gB H0 H ws qs):gB H0 H (zs++ws) (rs++qs):=⟨by rw[aT,aT,h.len,g.len],λi v e=>by
 have hl:=h.len;by_cases hi:i<zs.length
 .rw[fz hi] at e;rw[fz (by lia)];exact h.at_ i v e
 .rw[gS (by lia)] at e;rw[gS (by lia),<-hl];exact g.at_ _ v e⟩
theorem gB.one{H0 H:Hp}{v:V}{r:Dd×aj}(h:Hv H0 H v r):gB H0 H [v] [r]:=⟨Z,λi w e=>by
 cases i with
 |zero=>cases e;exact⟨r,Z,h⟩
 |succ i=>cases e⟩
theorem KT.same{H H' :Hp}(s:ai H H'):KT H H' :=λc xs e=>s c _ e
theorem KT.upd{H:Hp}{a:Y'}{xs:ak}{o:HO}(h:H a=some (.lst xs)):KT H (upd H a o):=λc ys e=>by
 rw[au (b8 e h (by intro z;cases z))];exact e
theorem KT.trans{H1 H2 H3:Hp}(a:KT H1 H2)(b:KT H2 H3):KT H1 H3:=λc xs e=>b c xs (a c xs e)
theorem fW{H H' :Hp}{a:Y'}{o:HO}(h:H a=none)(s:ai H H'):ai H (upd H' a o):=λc q e=>by
 rw[au (aw e h)];exact s c q e
theorem zx{K:Frag}{H:Hp}{a:Y'}{xs:ak}(h:H a=some (.lst xs)):tyV K "list" (.ref a) H:= .inl ⟨Z,_,bq.of h⟩
theorem jau{c:Bool}{X Y:Prop}{M G:Y'->Hp->Prop}(ha:c=true->(∀u h,G u h->M u h)->X)(hb:c=false->(∀u h,G u h->M u h)->Y)(k:∀u h,G u h->M u h):if c=true then X else Y:=by
 cases c with
 |true=>exact cD (ha Z k)
 |false=>exact cf (hb Z k)
def Lr(n:Nat):Sp:=λvs H Q _=>∃H0 v t s u ar,vs=[v,.ref u]/\ai H0 H/\Dat H0 v (iR t (sL s))/\fR s/\dq s<n/\H u=some (.tup (ar.map V.str))/\ar≠[]/\dF s<=1000/\ar.length+dq s<1000/\
 ∀l zs H',H l=none->ai H H'->H' l=some (.lst zs)->gB H0 H' zs (lE s ar)->Q (.ref l) H'
theorem HK(T:Txt K mg A)(Fm:pP P w K A fm)(n:Nat):aQ P w K mg base cY (2+n) A.Dl A.C7 ["body","around"] (Lr n):=by
 induction n with
 |zero=>exact eT (by rintro vs H Q E ⟨H0,v,t,s,u,ar,_,_,_,_,h,_⟩;exact g_ _ h)
 |succ n ih=>
 show aQ P w K mg base cY ((2+n)+1) _ _ _ _;refine T.wj.F.ok ly (λvs H Q E h=> ?_) (λcC Ar outer s0 H vs Q E hr h=> ?_)
 .obtain⟨H0,v,t,s,u,ar,rfl,_⟩:=h;rfl
 .obtain⟨H0,v,t,s,u,ar,rfl,yV,hd,ok,dp,hu,o8,hmn,QM,q⟩:=h;obtain⟨a,vs,rfl,ha,hA⟩:=fP hd;have Vx:(1000:Nat)<=sizeLine:=by decide
  refine⟨_,(af (eL 2 ly.nd (a8 c_)) (af (yI (oP (pv 0)) (ie 3 ly.nd) (af (bj (cR dC F' G' cA (pv 2) (aF (ba (ag (pv 3) (aF (pv 1))))))) (af (eL 4 ly.nd (kE (gA (cv (xS T Fm) hr T.tH aA (aF (pv 3)) (hj:=by lia))) (aH uE (ba (aF (cJ aY (pv 3) ae))) (pv 1)) (pv 1))) (ah (yI (fb (cv (dw T Fm) hr T.e_ aA (aF (pv 3)) (hj:=by lia))) (ie 5 ly.nd) (ah (bj (cR dC qt tO i7 (pv 2) (aF (cv ih hr T.wj aA (ag (pv 5) (aF (pv 4))) (hj:=by lia))))))))))) (ah (aB (pv 2))))),?_⟩;refine⟨jy,λfl lI=>⟨_,Z,a,t,Z,Mr (fW lI (ai.refl H) _ _ (yV _ _ ha)),?_⟩⟩;refine mF (K:=K) (t:=t) (a:=a) (xs:=vs) (λi σ H' =>∃(x3 x4 x5:Option V) (zs:ak),σ=[some (.ref a),some (.ref u),some (.ref fl),x3,x4,x5]/\ai H H'/\H' fl=some (.lst zs)/\gB H0 H' zs ((s.l.take i).flatMap λd=>BZ d ar)) ⟨_,_,_,[],Z,fW lI (ai.refl H),aa,.nil⟩ (by rintro i σ H' _ ⟨_,_,_,_,_,sm,_⟩;exact sm _ _ (yV _ _ ha)) ?_ ?_
  .rintro i x σ H' hx ⟨x3,x4,x5,zs,rfl,sm,jR,R⟩
   obtain⟨d,ed,nj⟩:=gP hA hx;have dm:=bt ed;have jc:=fD ok d dm;have IS:=fu d dm;have P6:=iy d dm;have tl:=fq (λd=>BZ d ar) s.l (i+1);rw[<-IQ,rA,dI (λd=>BZ d ar) ed,aT,Ek,<-R.len] at tl;obtain⟨b,ks,xs,Ge,rfl,p0⟩:=dO nj jc;refine⟨_,Z,zx jR,_,Z,_,Z,fT,λt1 o_=>⟨fl,zs,.ref t1,Z,Z,(ai.upd o_) _ _ jR,by lia,?_⟩⟩;have alh:H' fl≠none:=by rw[jR];exact λz=>nomatch z
   have s1:ai H (upd (upd H' t1 (.tup [.ref b,.ref u])) fl (.lst (zs++[.ref t1]))):=fW lI (sm.trans (ai.upd o_));have k1:KT H' (upd (upd H' t1 (.tup [.ref b,.ref u])) fl (.lst (zs++[.ref t1]))):=(KT.same (ai.upd o_)).trans (KT.upd ((ai.upd o_) _ _ jR));have mX:upd (upd H' t1 (.tup [.ref b,.ref u])) fl (.lst (zs++[.ref t1])) fl=some (.lst (zs++[.ref t1])):=aa;have aa7 :upd (upd H' t1 (.tup [.ref b,.ref u])) fl (.lst (zs++[.ref t1])) t1=some (.tup [.ref b,.ref u]):=(KT.upd ((ai.upd o_) _ _ jR)) _ _ aa;generalize upd (upd H' t1 (.tup [.ref b,.ref u])) fl (.lst (zs++[.ref t1]))=H2 at s1 k1 mX aa7 ⊢;have R2:gB H0 H2 (zs++[.ref t1]) (((s.l.take i).flatMap λd=>BZ d ar)++[(d,ar)]):=(R.kt k1).app (.one ⟨t1,_,u,Z,aa7,nj,s1 _ _ hu⟩);have p:=p0.same (yV.trans s1);refine⟨_,Z,H0,_,d,Z,yV.trans s1,nj,jc,_,Z,?_⟩
   have af0:nU d ar≠[]:=by
    unfold nU
    split
    .exact λz=>nomatch z
    .exact o8
   have Ze:(nU d ar).length<=ar.length+1:=by
    unfold nU
    split
    .exact aJ _
    .exact nT _
   apply jau (c:=dN d.wd) (G:=λu' H3=>ai H2 H3/\H3 u' =some (.tup ((nU d ar).map V.str)))
   .intro hb k;obtain⟨Mq,CT⟩:=p0.iM hb;have pe:=p.e;rw[CT] at pe;refine⟨_,Z,b,_,1,_,Z,Z,bu.of pe,bA (j:=1) Z,ki,λt2 vR=>⟨_,Z,t2,u,_,_,Z,Z,bu.of aa,bu.of ((ai.upd vR) _ _ (s1 _ _ hu)),(λz=>nomatch z),?_,(λz=>absurd (List.map_eq_nil_iff.mp z) o8),λ_ u' pf=> ?_⟩⟩
    .rw[aG];show 1+ar.length<=_
     lia
    have s3:ai H2 (upd (upd H2 t2 (.tup [.str (iM d)])) u' (.tup ([.str (iM d)]++ar.map V.str))):=(ai.upd vR).trans (ai.upd pf)
    have Qb:upd (upd H2 t2 (.tup [.str (iM d)])) u' (.tup ([.str (iM d)]++ar.map V.str)) u' =some (.tup ((nU d ar).map V.str)):=by
     rw[aa];unfold nU;rw[hb];rfl
    generalize upd (upd H2 t2 (.tup [.str (iM d)])) u' (.tup ([.str (iM d)]++ar.map V.str))=H3 at s3 Qb ⊢;exact k u' H3 ⟨s3,Qb⟩
   .intro hb k;refine⟨_,Z,k u H2 ⟨ai.refl H2,?_⟩⟩;unfold nU;rw[hb];exact s1 _ _ hu
   .rintro u' H3 ⟨s3,Qb⟩
    refine⟨_,Z,H0,_,d,Z,(yV.trans s1).trans s3,nj,jc,λl ys H4 ZF s4 hz hB=>⟨l,Z,⟨_,bq.of hz⟩,?_⟩⟩;have Cd:=s4 _ _ (s3 _ _ mX);have Ld:l≠fl:=(aw (s3 _ _ mX) ZF).symm;refine gJ (K:=K) (a:=l) (xs:=ys) (λj σ H5=>∃(x5:Option V) (CA :ak),σ=[some (.ref a),some (.ref u),some (.ref fl),some (.ref b),some (.ref u'),x5]/\Kept fl H4 H5/\H5 fl=some (.lst CA)/\gB H0 H5 CA (((s.l.take i).flatMap λd=>BZ d ar)++(d,ar)::(d.bs.l.take j).flatMap λp=>lE p.2 (nU d ar))) ⟨x5,_,Z,Kept.refl _ _,Cd,R2.kt (KT.same (s3.trans s4))⟩ (by rintro i σ H' _ ⟨_,_,_,k,_⟩;exact bq.of (k _ _ Ld hz)) ?_ ?_
    .rintro j y σ H5 hy ⟨x5,CA,rfl,k5,lH,R5⟩
     obtain⟨pp,ep,hp⟩:=gQ hB hy;have pm:=bt ep;have t_:=fh (g6 jc) pp pm;have Ak:=fk pp pm;have HR:=iz pp pm;rw[<-iw] at Ak;rw[<-oC] at HR;have P9:=fq (λp:Bool×Ds=>lE p.2 (nU d ar)) d.bs.l (j+1);have ll:=Ek d ar;rw[NH,aZ] at ll;rw[dI (λp:Bool×Ds=>lE p.2 (nU d ar)) ep,aT,rA] at P9;have r5l:=R5.len;rw[aT,aZ,<-R.len] at r5l;have S05:ai H0 H5:=λc o e=>k5 c o (aw (yV _ _ e) lI) (s4 _ _ (s3 _ _ (s1 _ _ (yV _ _ e))));have hu5:H5 u' =some (.tup ((nU d ar).map V.str)):=k5 _ _ (b8 (s3 _ _ mX) Qb (λz=>nomatch z)).symm (s4 _ _ Qb);refine⟨_,Z,zx lH,_,Z,_,Z,H0,y,pp.1,pp.2,u',nU d ar,Z,S05,hp,t_,by lia,hu5,af0,by lia,by lia,λl2 Zn H6 lK s6 hz6 R6=>⟨fl,l2,CA,Zn,Z,Z,s6 _ _ lH,hz6,?_,some y,CA ++Zn,Z,?_,aa,?_⟩⟩
     .have:=R6.len;rw[rA] at this
      lia
     .exact λc o hc e=>by
       rw[au hc];exact s6 _ _ (k5 c o hc e)
     .have kk:=KT.upd (o:= .lst (CA ++Zn)) (s6 _ _ lH);rw[dI (λp:Bool×Ds=>lE p.2 (nU d ar)) ep,<-oo,<-dv];exact((R5.kt (KT.same s6)).app R6).kt kk
    .rintro σ H5 ⟨x5,CA,rfl,k5,lH,R5⟩
     refine⟨_,_,_,CA,Z,λc o e=>k5 c o (aw e lI) (s4 _ _ (s3 _ _ (s1 _ _ e))),lH,?_⟩;rw[iu hB,lh,<-NH,<-dI (λd=>BZ d ar) ed] at R5;exact R5
  .rintro σ H' ⟨x3,x4,x5,zs,rfl,sm,jR,R⟩
   refine⟨_,Z,q fl zs H' lI sm jR ?_⟩;rw[qb hA,lh,<-IQ] at R;exact R
theorem Dj{ks:aj}{ps:List Z'}(h:c9 ks ps):∀k∈ks,k≠ "body":=by
 induction h with
 |nil=>intro k hk;cases hk
 |cons h t ih=>
  intro k hk;rcases aN.mp hk with rfl|hk
  .exact wc h
  .exact ih k hk
theorem Vm{ks:aj}{m:Nat}{L:aj}(h:∀k∈ks,k≠ "body")(e:ks++List.replicate m ("body" :Str)=L):ks=L.filter (λk:Str=>decide (k≠ "body"))/\m=(L.filter λk:Str=>decide (k="body")).length:=by
 subst e;constructor
 .rw[nC,gD.mpr (λk hk=>aU (h k hk)),ub.mpr (λk hk=>by rw[List.eq_of_mem_replicate hk];decide),bZ]
 .rw[nC,ub.mpr (λk hk=>by simpa using h k hk),q_,gD.mpr (λk hk=>by rw[List.eq_of_mem_replicate hk];decide),eV]
inductive Shape:Dd->Prop
 |ei (t:Bool) (b:Ds) (u:Bool) (c:Ds):Shape (.mk "either" [] (.cons t b (.cons u c .nil)))
 |tu (l:Str) (m n:Int) (t:Bool) (b:Ds) (hl:ck l=true) (hg:l≠ "ground") (m1:1<=m) (m3:m<=3) (n0:0<=n) (n4:n<=4):Shape (.mk "turns" [.str l,.int m,.int n] (.cons t b .nil))
 |fr (l:Str) (t:Bool) (b:Ds) (hl:ck l=true) (hg:l≠ "ground"):Shape (.mk "frame" [.str l] (.cons t b .nil))
 |sm (w:Str) (ks:aj) (ps:List Z') (f:(w,ks)∈bH) (h:c9 ks ps) (n1:w≠ "either") (n2:w≠ "turns") (n3:w≠ "frame"):Shape (.mk w ps .nil)
theorem JN{b:Bs}(h:b.l.length=0):b= .nil:=by
 cases b with
 |nil=>rfl
 |cons t b r=>cases h
theorem EJ{b:Bs}(h:b.l.length=1):∃t c,b= .cons t c .nil:=by
 cases b with
 |nil=>cases h
 |cons t b r=>exact⟨t,b,by rw[JN (b:=r) (zw h)]⟩
theorem QY{b:Bs}(h:b.l.length=2):∃t c u e,b= .cons t c (.cons u e .nil):=by
 cases b with
 |nil=>cases h
 |cons t b r=>
  obtain⟨u,e,rfl⟩:=EJ (b:=r) (zw h);exact⟨t,b,u,e,Z⟩
theorem C3{d:Z'}(h:rO "label" d):∃x,d= .str x/\ck x=true/\x≠ "ground":=by
 cases h with
 |label x h n=>exact⟨x,Z,h,n⟩
 |num _ _ _ _ hb=>exact absurd Z (kg hb (by decide+kernel))
theorem JH{k:Str}{lo hi:Int}{d:Z'}(h:rO k d)(hk:k="many" /\lo=1/\hi=3\/k="times" /\lo=0/\hi=4):∃i,d= .int i/\lo<=i/\i<=hi:=by
 cases h with
 |num _ lo' hi' i hb h1 h2=>
  refine⟨i,Z,?_⟩;have:=bS.mp (show(CD.all λp=>decide ((p.1="many" ->p.2=(1,3))/\(p.1="times" ->p.2=(0,4))))=true by decide+kernel) _ hb;have:=bo this;rcases hk with⟨rfl,rfl,rfl⟩|⟨rfl,rfl,rfl⟩
  .have e:=this.1 rfl;cases e;exact⟨h1,h2⟩
  .have e:=this.2 rfl;cases e;exact⟨h1,h2⟩
 |_=>
  rcases hk with⟨z,_⟩|⟨z,_⟩<;>exact absurd z (by decide+kernel)
theorem jae{d:Dd}(ok:ia d):Shape d:=by
 cases d with
 |mk w ps bs=>
  rw[ia] at ok;obtain⟨⟨ks,f,fit⟩,_⟩:=ok;have nb:=Dj fit;generalize hL:ks++List.replicate bs.l.length ("body" :Str)=L at f;obtain⟨e1,e2⟩:=Vm nb hL;have f0:=f;by_cases h1:w="either"
  .subst h1;have:=bo (bS.mp (show(bH.all λp=>decide (p.1="either" ->p.2=(["body","body"]:aj)))=true by decide+kernel) _ f) rfl;dsimp only at this;subst this;obtain⟨t,c,u,e,rfl⟩:=QY (e2.trans (by decide+kernel));rw[show ks=([]:aj) from e1.trans (by decide+kernel)] at fit;cases fit;exact .ei t c u e
  .by_cases h2:w="turns"
   .subst h2;have:=bo (bS.mp (show(bH.all λp=>decide (p.1="turns" ->p.2=(["label","many","times","body"]:aj)))=true by decide+kernel) _ f) rfl;dsimp only at this;subst this;obtain⟨t,c,rfl⟩:=EJ (e2.trans (by decide+kernel));rw[show ks=(["label","many","times"]:aj) from e1.trans (by decide+kernel)] at fit
    cases fit with
    |cons a r=>
     cases r with
     |cons b r=>
      cases r with
      |cons c' r=>
       cases r;obtain⟨l,rfl,hl,hg⟩:=C3 a;obtain⟨m,rfl,m1,m3⟩:=JH b (.inl ⟨Z,Z,Z⟩);obtain⟨n,rfl,n0,n4⟩:=JH c' (.inr ⟨Z,Z,Z⟩);exact .tu l m n t c hl hg m1 m3 n0 n4
   .by_cases h3:w="frame"
    .subst h3;have:=bo (bS.mp (show(bH.all λp=>decide (p.1="frame" ->p.2=(["label","body"]:aj)))=true by decide+kernel) _ f) rfl;dsimp only at this;subst this;obtain⟨t,c,rfl⟩:=EJ (e2.trans (by decide+kernel));rw[show ks=(["label"]:aj) from e1.trans (by decide+kernel)] at fit
     cases fit with
     |cons a r=>
      cases r;obtain⟨l,rfl,hl,hg⟩:=C3 a;exact .fr l t c hl hg
    .have:=bo (bS.mp (show(bH.all λp=>decide (p.1≠ "either" ->p.1≠ "turns" ->p.1≠ "frame" ->(p.2.filter λk:Str=>decide (k="body")).length=0))=true by decide+kernel) _ f) h1 h2 h3;have hb:=JN (e2.trans this);subst hb;have:ks=L:=by rw[<-hL];exact(bZ ks).symm
     subst this;exact .sm w ks ps f fit h1 h2 h3
noncomputable def Y9(ps:List Z'):Nat:=match ps with
 |[_,_,.int n]=>n.toNat
 |_=>0
mutual
noncomputable def yL:Dd->Nat
 | .mk w ps bs=>if w="either" then 1+qy (rT bs) else if w="turns" then Y9 ps*(rT bs).headD 0 else(rT bs).sum
noncomputable def hJ:Ds->Nat
 | .nil=>0
 | .cons d r=>yL d+hJ r
noncomputable def rT:Bs->List Nat
 | .nil=>[]
 | .cons _ b r=>hJ b::rT r
end
mutual
noncomputable def yC:Dd->Nat
 | .mk w ps bs=>if w="either" then 1+qy (tD bs) else if w="turns" then Y9 ps*(1+(tD bs).headD 0)+1 else if w="frame" then 1+(tD bs).headD 0+1 else 1
noncomputable def hU:Ds->Nat
 | .nil=>0
 | .cons d r=>yC d+hU r
noncomputable def tD:Bs->List Nat
 | .nil=>[]
 | .cons _ b r=>hU b::tD r
end
theorem Jb:∀s:Ds,hJ s=(s.l.map yL).sum
 | .nil=>by rw[hJ];rfl
 | .cons d r=>by rw[hJ,Jb r];rfl
theorem Ji:∀s:Ds,hU s=(s.l.map yC).sum
 | .nil=>by rw[hU];rfl
 | .cons d r=>by rw[hU,Ji r];rfl
theorem xc:∀b:Bs,rT b=b.l.map λp=>hJ p.2
 | .nil=>by rw[rT];rfl
 | .cons t b r=>by rw[rT,xc r];rfl
theorem EM:∀b:Bs,tD b=b.l.map λp=>hU p.2
 | .nil=>by rw[tD];rfl
 | .cons t b r=>by rw[tD,EM r];rfl
noncomputable def yQ(dp mn:Nat):Nat:=5*4 ^ dp*mn
theorem qe{d d' m m' :Nat}(h:d<=d')(k:m<=m'):yQ d m<=yQ d' m' :=zB (Nat.mul_le_mul_left _ (Nat.pow_le_pow_right (by decide) h)) k
theorem R9(d m k:Nat):yQ d m+yQ d k=yQ d (m+k):=(Nat.mul_add _ _ _).symm
theorem IE(d m:Nat):5+4*yQ d m<=yQ (d+1) (1+m):=by
 unfold yQ;have h:1<=4 ^ d:=Nat.pow_pos (by decide)
 rw[Nat.pow_succ,show 5*(4 ^ d*4)*(1+m)=20*4 ^ d+4*(5*4 ^ d*m) by
  rw[Nat.mul_add,Nat.mul_one]
  congr 1
  .lia
  .rw[<-Nat.mul_assoc,<-Nat.mul_assoc]
   congr 1
   lia]
 lia
mutual
theorem NY:∀d:Dd,ia d->yL d<=yQ (mB d) (1+lG d)/\yC d<=yQ (mB d) (1+lG d)
 | .mk w ps bs,ok=>by
  have hb:i3 bs:=g6 ok;have sh:=jae ok;have hB:=abE bs hb;rw[mB,lG,yL,yC]
  cases sh with
  |ei t b u c=>
   rw[ay Z,ay Z];rw[i3,i3,i3] at hb;have h1:=An b hb.1;have h2:=An c hb.2.1;rw[rT,rT,rT,tD,tD,tD,nk,nk,nk,l6,l6,l6];have e1:=IE (max (dq b) (dq c)) (dF b+dF c);have c1:yQ (dq b) (dF b)<=yQ (max (dq b) (dq c)) (dF b+dF c):=qe (yZ _ _) (lu _ _);have c2:yQ (dq c) (dF c)<=yQ (max (dq b) (dq c)) (dF b+dF c):=qe (zC _ _) (Nat.le_add_left _ _);have ed:max (dq b+1) (max (dq c+1) 0)=max (dq b) (dq c)+1:=by lia
   have em:1+(dF b+(dF c+0))=1+(dF b+dF c):=by lia
   rw[ed,em];show 1+max (hJ b) (max (hJ c) 0)<=_/\1+max (hU b) (max (hU c) 0)<=_
   lia
  |tu l m n t b hl hg m1 m3 n0 n4=>
   rw[aq (by decide+kernel),ay Z,aq (by decide+kernel),ay Z];rw[i3,i3] at hb;have h1:=An b hb.1;rw[rT,rT,tD,tD,nk,nk,l6,l6];have e1:=IE (dq b) (dF b);have ed:max (dq b+1) 0=dq b+1:=by lia
   rw[ed,Nat.add_zero (dF b)];show n.toNat*hJ b<=_/\n.toNat*(1+hU b)+1<=_;have hn:n.toNat<=4:=by lia
   have k1:=zB hn (aJ (hJ b));have k2:=zB hn (aJ (1+hU b))
   lia
  |fr l t b hl hg=>
   rw[aq (by decide+kernel),aq (by decide+kernel),aq (by decide+kernel),aq (by decide+kernel),ay Z];rw[i3,i3] at hb;have h1:=An b hb.1;rw[rT,rT,tD,tD,nk,nk,l6,l6];have e1:=IE (dq b) (dF b);have ed:max (dq b+1) 0=dq b+1:=by lia
   rw[ed,Nat.add_zero (dF b)];show hJ b+0<=_/\1+hU b+1<=_
   lia
  |sm w ks ps f h n1 n2 n3=>
   rw[aq n1,aq n2,aq n1,aq n2,aq n3,rT,nk,l6];exact⟨bU _,by decide⟩
theorem An:∀s:Ds,fR s->hJ s<=yQ (dq s) (dF s)/\hU s<=yQ (dq s) (dF s)
 | .nil,_=>by rw[hJ,hU];exact⟨bU _,bU _⟩
 | .cons d r,ok=>by
  rw[fR] at ok;have h1:=NY d ok.1;have h2:=An r ok.2;rw[hJ,hU,dq,dF,<-R9];have c1:yQ (mB d) (1+lG d)<=yQ (max (mB d) (dq r)) (1+lG d):=qe (yZ _ _) (aJ _);have c2:yQ (dq r) (dF r)<=yQ (max (mB d) (dq r)) (dF r):=qe (zC _ _) (aJ _)
  lia
theorem abE:∀b:Bs,i3 b->True
 | .nil,_=>True.intro
 | .cons t b r,_=>True.intro
end
theorem za{d m:Nat}(h1:d<=6)(h2:m<=41):yQ d m<=1000000:=aL (qe h1 h2) (by decide)
theorem xz{α:Type}(f:Nat->α)(l:List Nat):(List.range l.length).map (λi=>f (l.getD i 0))=l.map f:=by
 apply vY;intro i;rw[bG,bG];by_cases h:i<l.length
 .rw[rg h,zI h];simp[eQ,h]
 .rw[jI (by rw[qM];lia),jI (by lia)];rfl
theorem ux(l:List Nat):(l.map λk:Nat=>(k:Int)).sum=((l.sum:Nat):Int):=by
 induction l with
 |nil=>rfl
 |cons x r ih=>rw[eG,uI,uI,ih];lia
theorem XV{α:Type}(f:α->Nat){l:List α}{i:Nat}{x:α}(e:l[i]? =some x):(l.map f).getD i 0=f x:=by
 rw[eQ,bG,e];rfl
theorem PH:∀s:Ds,s.l.length<=dF s
 |s=>by rw[Ei];lia
theorem MX{b:Bs}(ok:i3 b)(h6:nk b<=6)(hm:l6 b<=40):(∀k∈rT b,k<=1000000)/\∀k∈tD b,k<=1000000:=by
 rw[xc,EM];constructor
 all_goals
  intro k hk;obtain⟨p,hp,rfl⟩:=fZ.mp hk;have c:=An p.2 (fh ok p hp);have Ak:=fk p hp;have HR:=iz p hp;have:=za (d:=dq p.2) (m:=dF p.2) (by lia) (by lia)
  lia
noncomputable def nI(k:Nat):V:= .int (k:Int)
theorem Eh(l:List Nat):(l.map λk:Nat=>(k:Int)).map V.int=l.map nI:=by rw[ik];rfl
theorem zc{l:List Nat}(h:∀k∈l,k<=1000000):∀n∈l.map (λk:Nat=>(k:Int)),0<=n/\n<=1000000:=λn hn=>by
 obtain⟨k,hk,rfl⟩:=fZ.mp hn;have:=h k hk;constructor<;>lia
theorem Rr{H:Hp}{xs:ak}{l:Str}{m n:Int}(h:DatAll H xs [.str l,.int m,.int n]):∃x1 x2,xs=[x1,x2,.int n]:=by
 cases h with
 |cons a r=>
  cases r with
  |cons b r=>
   cases r with
   |cons c r=>
    cases r;cases c;exact⟨_,_,Z⟩
def Oh(n:Nat):Sp:=spS n λt s v H Q=>dF s<=40/\dq s<=6/\∀H',ai H H'->Q (.int (hJ s:Nat)) H'
def ag2(n:Nat):Sp:=pK λH0 d v H Q=>mB d<n/\1+lG d<=40/\mB d<=6/\∀H',ai H H'->Q (.int (yL d:Nat)) H'
theorem B0(T:Txt K mg A)(Fm:pP P w K A fm)(n:Nat)(ih:aQ P w K mg base cY (2+2*n) A.pV A.pq ["body"] (Oh n)):aQ P w K mg base cY (3+2*n) A.vS A.vJ ["deed"] (ag2 (n+1)):=by
 have el:3+2*n=(2+2*n)+1:=by lia
 rw[el];have pX:=dw (P:=P) (w:=w) (base:=base) T Fm;have GN:=ih;refine T.vG.F.ok sM (λvs H Q E h=> ?_) (λcC Ar outer s0 H vs Q E hr h=> ?_)
 .obtain⟨H0,v,d,rfl,_⟩:=h;rfl
 .obtain⟨H0,v,d,rfl,jZ,hd,ok,dp,hm,h6,q⟩:=h;obtain⟨a,ks,xs,Ge,rfl,p0⟩:=dO hd ok;refine⟨_,(af (G0 1 sM.nd ["body"] 1 [] (fb (cv (dw T Fm) hr T.e_ aA (aF (pv 0)) (hj:=by lia))) (λ_ _ _ _ _=>⟨(ie 0 (show(["body"]:aj).Nodup by decide+kernel)),pD,(cv ih hr T.lR aA (aF (pv 0)) (hj:=by lia))⟩)) (af (a_ (jp cM (cJ aY (pv 0) ae) ax) (ah (aB (aH bB ae (iY (Eb Z) T.yd Boot.«max» (aF (pv 1)))))) aK) (af (a_ (jp cM (cJ aY (pv 0) ae) ax) (ah (aB (aH my (cJ aY (pv 0) ae) (cJ aP (pv 1) ae)))) aK) (ah (aB (iY (z8 Z) T.PL Boot.«sum» (aF (pv 1)))))))),?_⟩;refine⟨_,Z,H0,_,d,Z,jZ,hd,ok,λl ys H1 Zk s1 hz hB=>⟨l,Z,⟨_,bq.of hz⟩,?_⟩⟩;have bl:=iu hB;have Pj:=g6 ok;have XE:=iw d;have hmn:=oC d
  have hys:ys.length<=4:=by
   have:=iu p0.hy;have f4:=cO p0.f;rw[aT,eV] at f4
   lia
  refine ib (λ_=>true) (λi=>nI ((rT d.bs).getD i 0)) (gZ (bq.of hz)).g (aL hys (by decide)) ?_ λp2 H2 h0 s2 h2=> ?_
  .intro i x H' C1 C0 hi sm hy c1 c0;obtain⟨p,ep,hp⟩:=gQ hB hy;have pm:=bt ep;have t_:=fh Pj p pm;have Ak:=fk p pm;have HR:=iz p pm;have:=c1 rfl;rw[xc,XV (λp:Bool×Ds=>hJ p.2) ep] at this;exact⟨(fU.refl _).own (by decide),_,Z,x,p.1,p.2,Z,hp.same (jZ.trans (s1.trans sm)),t_,by lia,by lia,by lia,this⟩
  .rw[gD.mpr (λ_ _=>rfl),bl,show d.bs.l.length=(rT d.bs).length by rw[xc,aG],xz nI] at h2;have s3:=s1.trans s2;have p:=p0.same (jZ.trans s3);have q' :=q H2 s3;have cost:=MX Pj (aL (lP XE.symm) h6) (by lia);have hx:=p.hx;have lK:=iu p0.hy;clear hB ih GN pX
   cases jae ok with
   |ei t b u c=>
    rw[yL,ay Z] at q';simp only[Dd.bs,rT] at h2 q'
    rw[show((1+qy [hJ b,hJ c]:Nat):Int)=(1:Int)+(if((hJ c:Nat):Int)>((hJ b:Nat):Int) then((hJ c:Nat):Int) else((hJ b:Nat):Int)) by
     show((1+max (hJ b) (max (hJ c) 0):Nat):Int)=_
     split<;>lia] at q'
    exact⟨_,Z,a,_,0,_,Z,Z,bu.of p.e,iZ _ _,Z,_,Z,Wp ⟨_,Z,p2,_,_,Z,h2,1,_,Z,Z,q'⟩⟩
   |tu l m n t b hl hg m1 m3 n0 n4=>
    rw[yL,aq (by decide+kernel),ay Z] at q';simp only[Dd.bs,rT] at h2 q';obtain⟨x1,x2,rfl⟩:=Rr hx;refine⟨_,Z,a,_,0,_,Z,Z,bu.of p.e,iZ _ _,Z,_,Z,g7 (cw (show("turns" :Str)≠ "either" by decide+kernel)) ⟨_,Z,a,_,0,_,Z,Z,bu.of p.e,iZ _ _,Z,_,Z,Wp ?_⟩⟩;refine⟨_,Z,a,_,3,_,Z,Z,bu.of p.e,bA (j:=3) Z,_,Z,p2,_,0,_,Z,Z,bq.of h2,Z,n,_,Z,Z,.inl ⟨by lia,by lia⟩,?_⟩
    rw[show((Y9 [.str l,.int m,.int n]*[hJ b].headD 0:Nat):Int)=n*((hJ b:Nat):Int) by
     show((n.toNat*hJ b:Nat):Int)=_;rw[zM,zr n0]] at q'
    exact q'
   |fr l t b hl hg=>
    rw[yL,aq (by decide+kernel),aq (by decide+kernel)] at q';refine⟨_,Z,a,_,0,_,Z,Z,bu.of p.e,iZ _ _,Z,_,Z,g7 (cw (show("frame" :Str)≠ "either" by decide+kernel)) ⟨_,Z,a,_,0,_,Z,Z,bu.of p.e,iZ _ _,Z,_,Z,g7 (cw (show("frame" :Str)≠ "turns" by decide+kernel)) ?_⟩⟩;rw[<-Eh] at h2;rw[<-ux] at q';exact⟨_,Z,p2,_,Z,h2,by rw[aG,xc,aG];lia,zc cost.1,q'⟩
   |sm w ks ps f h n1 n2 n3=>
    rw[yL,aq n1,aq n2] at q';refine⟨_,Z,a,_,0,_,Z,Z,bu.of p.e,iZ _ _,Z,_,Z,g7 (cw n1) ⟨_,Z,a,_,0,_,Z,Z,bu.of p.e,iZ _ _,Z,_,Z,g7 (cw n2) ?_⟩⟩;rw[<-Eh] at h2;rw[<-ux] at q';exact⟨_,Z,p2,_,Z,h2,by rw[aG,xc,aG];lia,zc cost.1,q'⟩
theorem vf(T:Txt K mg A)(Fm:pP P w K A fm)(n:Nat):aQ P w K mg base cY (2+2*n) A.pV A.pq ["body"] (Oh n):=by
 induction n with
 |zero=>exact eT (by rintro vs H Q E ⟨v,t,s,_,_,_,h,_⟩;exact g_ _ h)
 |succ n ih=>
 have el:2+2*(n+1)=(3+2*n)+1:=by lia
 rw[el];refine T.lR.F.ok Em (λvs H Q E h=> ?_) (λcC Ar outer s0 H vs Q E hr h=> ?_)
 .obtain⟨v,t,s,rfl,_⟩:=h;rfl
 .obtain⟨v,t,s,rfl,hd,ok,dp,hm,h6,q⟩:=h;obtain⟨a,vs,rfl,ha,hA⟩:=fP hd;have sl:=PH s;have vl:=qb hA;refine⟨_,(ah (aB (iY (z8 Z) T.PL Boot.«sum» (aF (L9 ["deed"] 1 [] (oP (pv 0)) (λ_ _ _ _ _=>⟨(ie 0 (show(["deed"]:aj).Nodup by decide+kernel)),pD,(cv (B0 T Fm n ih) hr T.vG aA (aF (pv 0)) (hj:=by lia))⟩)))))),?_⟩;refine⟨_,Z,a,t,Z,Mr ha,?_⟩;refine ib (λ_=>true) (λi=>nI ((s.l.map yL).getD i 0)) (Hd ha).g (aL (show vs.length<=40 by lia) (by decide)) ?_ λp2 H2 h0 s2 h2=> ?_
  .intro i x H' C1 C0 hi sm hy c1 c0;obtain⟨d,ed,nj⟩:=gP hA hy;have dm:=bt ed;have IS:=fu d dm;have P6:=iy d dm;have:=c1 rfl;rw[XV yL ed] at this;exact⟨(fU.refl _).own (by decide),_,Z,H,x,d,Z,sm,nj,fD ok d dm,by lia,by lia,by lia,this⟩
  .rw[gD.mpr (λ_ _=>rfl),vl,show s.l.length=(s.l.map yL).length by rw[aG],xz nI] at h2;rw[<-Eh] at h2;have q' :=q H2 s2;rw[Jb,<-ux] at q';refine⟨p2,_,Z,h2,by rw[aG,aG];lia,zc λk hk=> ?_,?_⟩
   .obtain⟨d,dm,rfl⟩:=fZ.mp hk;have c:=NY d (fD ok d dm);have IS:=fu d dm;have P6:=iy d dm;have:=za (d:=mB d) (m:=1+lG d) (by lia) (by lia)
    lia
   .exact q'
def Nw(n:Nat):Sp:=spS n λt s v H Q=>dF s<=40/\dq s<=6/\∀H',ai H H'->Q (.int (hU s:Nat)) H'
def aaV(n:Nat):Sp:=pK λH0 d v H Q=>mB d<n/\1+lG d<=40/\mB d<=6/\∀H',ai H H'->Q (.int (yC d:Nat)) H'
theorem Fu(T:Txt K mg A)(Fm:pP P w K A fm)(n:Nat)(ih:aQ P w K mg base cY (2+2*n) A.nv A.nL ["body"] (Nw n)):aQ P w K mg base cY (3+2*n) A.yt A.xK ["deed"] (aaV (n+1)):=by
 have el:3+2*n=(2+2*n)+1:=by lia
 rw[el];have pX:=dw (P:=P) (w:=w) (base:=base) T Fm;have Fx:=ih;refine T.yb.F.ok vM (λvs H Q E h=> ?_) (λcC Ar outer s0 H vs Q E hr h=> ?_)
 .obtain⟨H0,v,d,rfl,_⟩:=h;rfl
 .obtain⟨H0,v,d,rfl,jZ,hd,ok,dp,hm,h6,q⟩:=h;obtain⟨a,ks,xs,Ge,rfl,p0⟩:=dO hd ok;refine⟨_,(af (G0 1 vM.nd ["body"] 1 [] (fb (cv (dw T Fm) hr T.e_ aA (aF (pv 0)) (hj:=by lia))) (λ_ _ _ _ _=>⟨(ie 0 (show(["body"]:aj).Nodup by decide+kernel)),pD,(cv ih hr T.jX aA (aF (pv 0)) (hj:=by lia))⟩)) (af (a_ (jp cM (cJ aY (pv 0) ae) ax) (ah (aB (aH bB ae (iY (Eb Z) T.yd Boot.«max» (aF (pv 1)))))) aK) (af (a_ (jp cM (cJ aY (pv 0) ae) ax) (ah (aB (aH bB (aH my (cJ aY (pv 0) ae) (aH bB ae (cJ aP (pv 1) ae))) ae))) aK) (af (a_ (jp cM (cJ aY (pv 0) ae) ax) (ah (aB (aH bB (aH bB ae (cJ aP (pv 1) ae)) ae))) aK) (ah (aB ae)))))),?_⟩;refine⟨_,Z,H0,_,d,Z,jZ,hd,ok,λl ys H1 Zk s1 hz hB=>⟨l,Z,⟨_,bq.of hz⟩,?_⟩⟩;have bl:=iu hB;have Pj:=g6 ok;have XE:=iw d;have hmn:=oC d
  have hys:ys.length<=4:=by
   have:=iu p0.hy;have f4:=cO p0.f;rw[aT,eV] at f4
   lia
  refine ib (λ_=>true) (λi=>nI ((tD d.bs).getD i 0)) (gZ (bq.of hz)).g (aL hys (by decide)) ?_ λp2 H2 h0 s2 h2=> ?_
  .intro i x H' C1 C0 hi sm hy c1 c0;obtain⟨p,ep,hp⟩:=gQ hB hy;have pm:=bt ep;have t_:=fh Pj p pm;have Ak:=fk p pm;have HR:=iz p pm;have:=c1 rfl;rw[EM,XV (λp:Bool×Ds=>hU p.2) ep] at this;exact⟨(fU.refl _).own (by decide),_,Z,x,p.1,p.2,Z,hp.same (jZ.trans (s1.trans sm)),t_,by lia,by lia,by lia,this⟩
  .rw[gD.mpr (λ_ _=>rfl),bl,show d.bs.l.length=(tD d.bs).length by rw[EM,aG],xz nI] at h2;have s3:=s1.trans s2;have p:=p0.same (jZ.trans s3);have q' :=q H2 s3;have cost:=MX Pj (aL (lP XE.symm) h6) (by lia);have hx:=p.hx;have lK:=iu p0.hy;clear hB ih Fx pX
   cases jae ok with
   |ei t b u c=>
    rw[yC,ay Z] at q';simp only[Dd.bs,tD] at h2 q'
    rw[show((1+qy [hU b,hU c]:Nat):Int)=(1:Int)+(if((hU c:Nat):Int)>((hU b:Nat):Int) then((hU c:Nat):Int) else((hU b:Nat):Int)) by
     show((1+max (hU b) (max (hU c) 0):Nat):Int)=_
     split<;>lia] at q'
    exact⟨_,Z,a,_,0,_,Z,Z,bu.of p.e,iZ _ _,Z,_,Z,Wp ⟨_,Z,p2,_,_,Z,h2,1,_,Z,Z,q'⟩⟩
   |tu l m n t b hl hg m1 m3 n0 n4=>
    rw[yC,aq (by decide+kernel),ay Z] at q';simp only[Dd.bs,tD] at h2 q';obtain⟨x1,x2,rfl⟩:=Rr hx;refine⟨_,Z,a,_,0,_,Z,Z,bu.of p.e,iZ _ _,Z,_,Z,g7 (cw (show("turns" :Str)≠ "either" by decide+kernel)) ⟨_,Z,a,_,0,_,Z,Z,bu.of p.e,iZ _ _,Z,_,Z,Wp ?_⟩⟩;refine⟨_,Z,a,_,3,_,Z,Z,bu.of p.e,bA (j:=3) Z,_,Z,p2,_,0,_,Z,Z,bq.of h2,Z,1,_,Z,Z,n,_,Z,Z,.inl ⟨by lia,by lia⟩,_,1,Z,Z,?_⟩
    rw[show((Y9 [.str l,.int m,.int n]*(1+[hU b].headD 0)+1:Nat):Int)=n*(1+((hU b:Nat):Int))+1 by
     show((n.toNat*(1+hU b)+1:Nat):Int)=_;rw[rE,zM,zr n0];rfl] at q'
    exact q'
   |fr l t b hl hg=>
    rw[yC,aq (by decide+kernel),aq (by decide+kernel),ay Z] at q';simp only[Dd.bs,tD] at h2 q';refine⟨_,Z,a,_,0,_,Z,Z,bu.of p.e,iZ _ _,Z,_,Z,g7 (cw (show("frame" :Str)≠ "either" by decide+kernel)) ⟨_,Z,a,_,0,_,Z,Z,bu.of p.e,iZ _ _,Z,_,Z,g7 (cw (show("frame" :Str)≠ "turns" by decide+kernel)) ⟨_,Z,a,_,0,_,Z,Z,bu.of p.e,iZ _ _,Z,_,Z,Wp ?_⟩⟩⟩;refine⟨_,Z,p2,_,0,_,Z,Z,bq.of h2,Z,1,_,Z,Z,_,1,Z,Z,?_⟩;exact q'
   |sm w ks ps f h n1 n2 n3=>
    rw[yC,aq n1,aq n2,aq n3] at q';exact⟨_,Z,a,_,0,_,Z,Z,bu.of p.e,iZ _ _,Z,_,Z,g7 (cw n1) ⟨_,Z,a,_,0,_,Z,Z,bu.of p.e,iZ _ _,Z,_,Z,g7 (cw n2) ⟨_,Z,a,_,0,_,Z,Z,bu.of p.e,iZ _ _,Z,_,Z,g7 (cw n3) q'⟩⟩⟩
theorem sG(T:Txt K mg A)(Fm:pP P w K A fm)(n:Nat):aQ P w K mg base cY (2+2*n) A.nv A.nL ["body"] (Nw n):=by
 induction n with
 |zero=>exact eT (by rintro vs H Q E ⟨v,t,s,_,_,_,h,_⟩;exact g_ _ h)
 |succ n ih=>
 have el:2+2*(n+1)=(3+2*n)+1:=by lia
 rw[el];refine T.jX.F.ok Ce (λvs H Q E h=> ?_) (λcC Ar outer s0 H vs Q E hr h=> ?_)
 .obtain⟨v,t,s,rfl,_⟩:=h;rfl
 .obtain⟨v,t,s,rfl,hd,ok,dp,hm,h6,q⟩:=h;obtain⟨a,vs,rfl,ha,hA⟩:=fP hd;have sl:=PH s;have vl:=qb hA;refine⟨_,(ah (aB (iY (z8 Z) T.PL Boot.«sum» (aF (L9 ["deed"] 1 [] (oP (pv 0)) (λ_ _ _ _ _=>⟨(ie 0 (show(["deed"]:aj).Nodup by decide+kernel)),pD,(cv (Fu T Fm n ih) hr T.yb aA (aF (pv 0)) (hj:=by lia))⟩)))))),?_⟩;refine⟨_,Z,a,t,Z,Mr ha,?_⟩;refine ib (λ_=>true) (λi=>nI ((s.l.map yC).getD i 0)) (Hd ha).g (aL (show vs.length<=40 by lia) (by decide)) ?_ λp2 H2 h0 s2 h2=> ?_
  .intro i x H' C1 C0 hi sm hy c1 c0;obtain⟨d,ed,nj⟩:=gP hA hy;have dm:=bt ed;have IS:=fu d dm;have P6:=iy d dm;have:=c1 rfl;rw[XV yC ed] at this;exact⟨(fU.refl _).own (by decide),_,Z,H,x,d,Z,sm,nj,fD ok d dm,by lia,by lia,by lia,this⟩
  .rw[gD.mpr (λ_ _=>rfl),vl,show s.l.length=(s.l.map yC).length by rw[aG],xz nI] at h2;rw[<-Eh] at h2;have q' :=q H2 s2;rw[Ji,<-ux] at q';refine⟨p2,_,Z,h2,by rw[aG,aG];lia,zc λk hk=> ?_,?_⟩
   .obtain⟨d,dm,rfl⟩:=fZ.mp hk;have c:=NY d (fD ok d dm);have IS:=fu d dm;have P6:=iy d dm;have:=za (d:=mB d) (m:=1+lG d) (by lia) (by lia)
    lia
   .exact q'
mutual
inductive iJ (H:Hp):V->Z'->Prop
 |bV:iJ H .bV .none
 |int (i:Int):iJ H (.int i) (.int i)
 |str (x:Str):iJ H (.str x) (.str x)
 |tup {a:Y'} {xs:ak} {ds:List Z'} (e:H a=some (.tup xs)) (h:bE H xs ds):iJ H (.ref a) (.tuple ds)
inductive bE (H:Hp):ak->List Z'->Prop
 |nil:bE H [] []
 |cons {x:V} {xs:ak} {d:Z'} {ds:List Z'} (h:iJ H x d) (t:bE H xs ds):bE H (x::xs) (d::ds)
end
mutual
theorem iJ.dat{H:Hp}:∀{v:V} {d:Z'},iJ H v d->Dat H v d
 |_,_,.bV=> .bV
 |_,_,.int i=> .int i
 |_,_,.str x=> .str x
 |_,_,.tup e h=> .tup e (bE.dat h)
theorem bE.dat{H:Hp}:∀{xs:ak} {ds:List Z'},bE H xs ds->DatAll H xs ds
 |_,_,.nil=> .nil
 |_,_,.cons h t=> .cons (iJ.dat h) (bE.dat t)
end
mutual
theorem iJ.kt{H H' :Hp}(k:∀c xs,H c=some (.tup xs)->H' c=some (.tup xs)):∀{v:V} {d:Z'},iJ H v d->iJ H' v d
 |_,_,.bV=> .bV
 |_,_,.int i=> .int i
 |_,_,.str x=> .str x
 |_,_,.tup e h=> .tup (k _ _ e) (bE.kt k h)
theorem bE.kt{H H' :Hp}(k:∀c xs,H c=some (.tup xs)->H' c=some (.tup xs)):∀{xs:ak} {ds:List Z'},bE H xs ds->bE H' xs ds
 |_,_,.nil=> .nil
 |_,_,.cons h t=> .cons (iJ.kt k h) (bE.kt k t)
end
theorem bE.append{H:Hp}:∀{xs ys:ak} {ds es:List Z'},bE H xs ds->bE H ys es->bE H (xs++ys) (ds++es)
 |_,_,_,_,.nil,h=>h
 |_,_,_,_,.cons a t,h=> .cons a (t.append h)
mutual
noncomputable def ni:Dd->Dd
 | .mk w ps bs=> .mk w ps (rj bs)
noncomputable def gO:Ds->Ds
 | .nil=> .nil
 | .cons d r=> .cons (ni d) (gO r)
noncomputable def rj:Bs->Bs
 | .nil=> .nil
 | .cons _ b r=> .cons true (gO b) (rj r)
end
theorem VL:∀s:Ds,(gO s).l=s.l.map ni
 | .nil=>by rw[gO];rfl
 | .cons d r=>by rw[gO];show ni d::(gO r).l=_;rw[VL r];rfl
theorem Nr:∀b:Bs,(rj b).l=b.l.map λp=>(true,gO p.2)
 | .nil=>by rw[rj];rfl
 | .cons t b r=>by rw[rj];show(true,gO b)::(rj r).l=_;rw[Nr r];rfl
theorem Jr(d:Dd):dD (ni d)= .tuple (.str d.wd::(d.ps++d.bs.l.map λp=> .tuple (sL (gO p.2)))):=by
 cases d with
 |mk w ps bs=>
  rw[ni,dD,va,Nr,ik];rfl
theorem MH{H:Hp}{k:Str}{v:V}{d:Z'}(h:rO k d){H' :Hp}(hd:Dat H v d):iJ H' v d:=by
 cases h<;>cases hd<;>constructor
noncomputable def SD(d:Dd):List Z':=d.ps++d.bs.l.map λp=> .tuple (sL (gO p.2))
theorem bE.snoc{H:Hp}{xs:ak}{ds:List Z'}{v:V}{d:Z'}(h:bE H xs ds)(g:iJ H v d):bE H (xs++[v]) (ds++[d]):=h.append (.cons g .nil)
theorem xL{α:Type}{l:List α}{i:Nat}{x:α}(e:l[i]? =some x):l.take (i+1)=l.take i++[x]:=by
 rw[rb,e];rfl
theorem z6{H:Hp}:∀{xs:ak} {ds:List Z'},bE H xs ds->xs.length=ds.length
 |_,_,.nil=>rfl
 |_,_,.cons _ t=>by rw[aZ,aZ,z6 t]
def MN(c:Y')(qn:Str):Sp:=λvs H Q _=>∃i v,vs=[.int i,v]/\H c=some (.ext (iE c qn))/\∀l,H l=none->Q (.ref l) (upd H l (.lst [v]))
def JT(f c:Y')(qn:Str)(n:Nat):Sp:=λvs H Q _=>∃H0 v t s,∃i:Int,vs=[v,.ref f,.int i]/\ai H0 H/\Dat H0 v (iR t (sL s))/\fR s/\dq s<n/\dF s<=1000/\H c=some (.ext (iE c qn))/\
 ∀tt H',H tt=none->ai H H'->iJ H' (.ref tt) (.tuple (sL (gO s)))->Q (.ref tt) H'
def WY(f c:Y')(qn:Str)(n:Nat):Sp:=λvs H Q _=>∃H0 v d,∃i:Int,vs=[v,.ref f,.int i]/\ai H0 H/\Dat H0 v (dD d)/\ia d/\mB d<n/\lG d<=1000/\H c=some (.ext (iE c qn))/\
 ∀tt H',H tt=none->ai H H'->iJ H' (.ref tt) (dD (ni d))->Q (.ref tt) H'
theorem BR(T:Txt K mg A)(Fm:pP P w K A fm){f c:Y'}{qn:Str}(n:Nat)(ih:aQ P w K mg base cY (3+2*n) A.lS A.dX ["body","change","first"] (JT f c qn n)):
 aQ P w K mg base cY (4+2*n) A.sO A.sJ ["deed","change","first"] (WY f c qn (n+1)):=by
 have el:4+2*n=(3+2*n)+1:=by lia
 rw[el];refine T.sy.F.ok e9 (λvs H Q E h=> ?_) (λcC Ar outer s0 H vs Q E hr h=> ?_)
 .obtain⟨H0,v,d,i,rfl,_⟩:=h;rfl
 .obtain⟨H0,v,d,i,rfl,jZ,hd,ok,dp,hm,hc,q⟩:=h;obtain⟨a,ks,xs,ys,rfl,p0⟩:=dO hd ok;have p:=p0.same jZ;have bl:=iu p0.hy;have Pj:=g6 ok;have XE:=iw d;have hmn:=oC d;have hlx:=p.lx;have hlp:=cQ p.hx;have h4:=cO p.f;have hl:=p.len;refine⟨_,(af (eL 3 e9.nd (a8 (aF (cJ aY (pv 0) ae)))) (af (eL 4 e9.nd (pv 2)) (af (yI (fb (cv (lZ T Fm) hr T.ke aA (aF (pv 0)) (hj:=by lia))) (nu Z (bJ (ie 5 e9.nd) (bJ (ie 6 e9.nd) iq))) (ah (a_ (jp cM (pv 5) ax) (af (bj (cR dC F' G' cA (pv 3) (aF (agG ih hr T.l9 aA (ag (pv 6) (ag (pv 1) (aF (pv 4)))) (hj:=by lia))))) (ah (JA (i:=4) e9.nd Z (Or.inl Z) (cv (tR T Fm n) hr T.mU aA (aF (pv 6)) (hj:=by lia)) Jd))) (ah (bj (cR dC F' G' cA (pv 3) (aF (pv 6)))))))) (ah (aB (GX dG T.jf Boot.«tuple» (aF (pv 3)))))))),?_⟩;refine⟨_,Z,a,_,0,_,Z,Z,bu.of p.e,iZ _ _,ki,λpl jY=>⟨_,Z,?_⟩⟩;have s1:=ai.upd (o:= .lst [V.str d.wd]) jY;have IP:upd H pl (.lst [V.str d.wd]) pl=some (.lst [V.str d.wd]):=aa;generalize upd H pl (.lst [V.str d.wd])=H1 at s1 IP ⊢;refine⟨_,Z,a,d.wd,_,_,Z,s1 _ _ p.e,p.f,p.len,λl zs H2 lK s2 hz zp=>⟨l,Z,⟨_,bq.of hz⟩,?_⟩⟩;have Zd:zs.length=(ks++List.replicate ys.length ("body" :Str)).length:=by rw[zp.len,aG]
  have XB:l≠pl:=(aw IP lK).symm;have rW:=s1.trans s2;have MD:=s2 _ _ IP;rw[aT,eV] at h4 Zd;refine gJ (K:=K) (a:=l) (xs:=zs) (λj σ H' =>∃(x5 x6:Option V) (k:Int) (ws:ak),σ=[some (.ref a),some (.ref f),some (.int i),some (.ref pl),some (.int k),x5,x6]/\Kept pl H2 H'/\H' pl=some (.lst ws)/\bE H' ws (.str d.wd::(SD d).take j)) ⟨_,_,i,_,Z,Kept.refl _ _,MD,.cons (.str _) .nil⟩ (by rintro i σ H' _ ⟨_,_,_,_,_,k,_⟩;exact bq.of (k _ _ XB hz)) ?_ ?_
  .rintro j z σ H' hj ⟨x5,x6,k,ws,rfl,kp,sU,tw⟩
   have hjl:=(dE.mp hj).1;obtain⟨tt,x,y,rfl,hT,e1,e2⟩:=ZB zp (by rw[aG];exact p.len) hj;rw[bG] at e1;have Kw :=kp _ _ (b8 MD hT (λz=>nomatch z)).symm hT;have SH:ai H H' :=λc o e=>kp c o (aw e jY) (rW _ _ e);have wl:=z6 tw
   have wl4:ws.length<=5:=by
    rw[wl,aZ,oE]
    lia
   cases ek:(ks++List.replicate ys.length ("body" :Str))[j]? with
   |none=>rw[ek] at e1;cases e1
   |some k' =>
    rw[ek] at e1;cases e1;refine⟨tt,_,Z,bu.of Kw,Z,_,_,Z,_,_,Z,Z,_,Z,Z,_,Z,?_⟩;by_cases hb:xs.length<=j
    .rw[gS (by lia),tm] at ek;rw[gS hb] at e2
     split at ek
     .cases ek;obtain⟨pp,ep,hp⟩:=gQ p0.hy e2;have pm:=bt ep;have t_:=fh Pj pp pm;have Ak:=fk pp pm;have HR:=iz pp pm
      have ej:(SD d)[j]? =some (.tuple (sL (gO pp.2))):=by
       unfold SD;rw[gS (by lia),bG,<-hlp,ep];rfl
      refine Wp ⟨_,Z,zx sU,_,Z,_,Z,_,Z,H0,y,pp.1,pp.2,k,Z,jZ.trans SH,hp,t_,by lia,by lia,SH _ _ hc,λt1 H3 o_ s3 td=>⟨pl,ws,_,Z,Z,s3 _ _ sU,gx wl4 (by decide),?_⟩⟩;have agg:=s3 _ _ sU;have kt:=KT.upd (o:= .lst (ws++[.ref t1])) agg;refine⟨_,Z,_,Z,y,pp.1,pp.2,Z,hp.same (λc o e=> ?_),t_,by lia,λH4 s4=>⟨_,_,Z,Z,_,_,_,ws++[.ref t1],Z,?_,s4 _ _ aa,?_⟩⟩
      .rw[au (aw (jZ _ _ e) jY)];exact s3 _ _ (SH _ _ (jZ _ _ e))
      .exact λc o hc e=>s4 _ _ (by rw[au hc];exact s3 _ _ (kp c o hc e))
      .rw[xL ej];exact(((tw.kt (KT.same s3)).snoc td).kt kt).kt (KT.same s4)
     .cases ek
    .rw[fz (by lia)] at ek;rw[fz (by lia)] at e2;obtain⟨d',f1,f2⟩:=ff p0.hx j y e2;have ft:=fV p0.fit j k' d' ek f1
     have ej:(SD d)[j]? =some d' :=by
      unfold SD;rw[fz (by lia)];exact f1
     refine g7 (cw (wc ft)) ⟨_,Z,zx sU,_,Z,pl,ws,_,Z,Z,sU,gx wl4 (by decide),_,_,_,ws++[y],Z,?_,aa,?_⟩
     .exact λc o hc e=>by
       rw[au hc];exact kp c o hc e
     .rw[xL ej];exact(tw.snoc (MH ft f2)).kt (KT.upd sU)
  .rintro σ H' ⟨x5,x6,k,ws,rfl,kp,sU,tw⟩
   refine⟨_,Z,pl,ws,Z,.inl ⟨bq.of sU,λtt zQ=> ?_⟩⟩;have SH:ai H H' :=λc o e=>kp c o (aw e jY) (rW _ _ e);refine q tt _ (SH.free zQ) (SH.trans (ai.upd zQ)) ?_;rw[Jr]
   have el2:(SD d).take zs.length=SD d:=gf (by
    unfold SD;rw[aT,aG]
    lia)
   rw[el2] at tw;exact .tup aa (tw.kt (KT.same (ai.upd zQ)))
theorem JG(s:Ds):sL (gO s)=s.l.map λd=>dD (ni d):=by rw[DZ,VL,ik];rfl
theorem ES(T:Txt K mg A)(Fm:pP P w K A fm){f c:Y'}{qn:Str}{fdl RB :aap}(Wj:aQ P w K mg base cY 1 f fdl ["number","deed"] (MN c qn))(Xc:∃oc od sl,base.get? f=some ⟨oc,od,.func RB,sl⟩)(WK:Binds K fdl ["number","deed"] [])(n:Nat):
 aQ P w K mg base cY (3+2*n) A.lS A.dX ["body","change","first"] (JT f c qn n):=by
 induction n with
 |zero=>exact eT (by rintro vs H Q E ⟨H0,v,t,s,i,_,_,_,_,h,_⟩;exact g_ _ h)
 |succ n ih=>
 have LX:aQ P w K mg base cY (2+(n+1)) A.wC A.wq ["body"] (NU (n+1)):=tR T Fm (n+1);have el:3+2*(n+1)=(4+2*n)+1:=by lia
 rw[el];refine T.l9.F.ok iG (λvs H Q E h=> ?_) (λcC Ar outer s0 H vs Q E hr h=> ?_)
 .obtain⟨H0,v,t,s,i,rfl,_⟩:=h;rfl
 .obtain⟨H0,v,t,s,i,rfl,jZ,hd,ok,dp,hm,hc,q⟩:=h;obtain⟨a,vs,rfl,ha,hA⟩:=fP hd;have sl:=PH s;have vl:=qb hA;have Vx:(1000:Nat)<=sizeLine:=by decide
  refine⟨_,(af (eL 3 iG.nd (a8 c_)) (af (eL 4 iG.nd (pv 2)) (af (yI (oP (pv 0)) (ie 5 iG.nd) (af (bj (cR dC qt tO i7 (pv 3) (aF (Om Wj Xc hr WK aA (pv 1) (ag (pv 4) (aF (cv (BR T Fm n ih) hr T.sy aA (ag (pv 5) (ag (pv 1) (aF (aH bB (pv 4) ae)))) (hj:=by lia)))) (hj:=by lia))))) (ah (JA (i:=4) iG.nd Z (Or.inl Z) (cv LX hr T.mU aA (aF (ba (aF (pv 5)))) (hj:=by lia)) Jd)))) (ah (aB (GX dG T.jf Boot.«tuple» (aF (pv 3)))))))),?_⟩;refine⟨jy,λtl htl=>⟨_,Z,_,Z,a,t,Z,Mr (ai.upd htl _ _ (jZ _ _ ha)),?_⟩⟩;refine mF (K:=K) (t:=t) (a:=a) (xs:=vs) (λj σ H' =>∃(x5:Option V) (k:Int) (ws:ak),σ=[some (.ref a),some (.ref f),some (.int i),some (.ref tl),some (.int k),x5]/\ai H H'/\H' tl=some (.lst ws)/\bE H' ws ((sL (gO s)).take j)) ⟨_,i,[],Z,ai.upd htl,aa,.nil⟩ (by rintro j σ H' _ ⟨_,_,_,_,sm,_⟩;exact sm _ _ (jZ _ _ ha)) ?_ ?_
  .rintro j x σ H' hx ⟨x5,k,ws,rfl,sm,BN,tw⟩
   obtain⟨d,ed,nj⟩:=gP hA hx;have dm:=bt ed;have jc:=fD ok d dm;have IS:=fu d dm;have P6:=iy d dm;have wl:=z6 tw;rw[oE] at wl;have hj:=(dE.mp hx).1
   have ej:(sL (gO s))[j]? =some (dD (ni d)):=by
    rw[JG,bG,ed];rfl
   refine⟨_,Z,zx BN,_,Z,Z,_,Z,_,Z,_,Z,_,Z,k,1,Z,Z,H0,x,d,k+1,Z,jZ.trans sm,nj,jc,by lia,by lia,sm _ _ hc,λt1 H1 o_ s1 td=> ?_⟩;refine⟨k,_,Z,s1 _ _ (sm _ _ hc),λl hl=>⟨tl,l,ws,[.ref t1],Z,Z,ai.upd hl _ _ (s1 _ _ BN),aa,by simp only[EX];lia,?_⟩⟩;have afA:=ai.upd (o:= .lst [V.ref t1]) hl _ _ (s1 _ _ BN);have kt:KT H1 (upd (upd H1 l (.lst [V.ref t1])) tl (.lst (ws++[.ref t1]))):=(KT.same (ai.upd hl)).trans (KT.upd afA);have S2:ai H (upd (upd H1 l (.lst [V.ref t1])) tl (.lst (ws++[.ref t1]))):=fW htl ((sm.trans s1).trans (ai.upd hl));have abD:upd (upd H1 l (.lst [V.ref t1])) tl (.lst (ws++[.ref t1])) tl=some (.lst (ws++[.ref t1])):=aa;generalize upd (upd H1 l (.lst [V.ref t1])) tl (.lst (ws++[.ref t1]))=H2 at kt S2 abD ⊢;refine⟨_,Z,_,Z,ki,λt2 vR=> ?_⟩;have s3:=ai.upd (o:= .tup [x]) vR;refine⟨_,true,.cons d .nil,Z,?_,?_,?_,λH4 s4=>⟨_,_,Z,Z,_,_,ws++[.ref t1],Z,S2.trans (s3.trans s4),s4 _ _ (s3 _ _ abD),?_⟩⟩
   .rw[sL,sL];exact .tup aa (.cons (nj.same ((jZ.trans S2).trans s3)) .nil)
   .rw[fR,fR];exact⟨jc,True.intro⟩
   .rw[dq,dq]
    lia
   .rw[xL ej];exact(((tw.kt (KT.same s1)).snoc td).kt kt).kt (KT.same (s3.trans s4))
  .rintro σ H' ⟨x5,k,ws,rfl,sm,BN,tw⟩
   refine⟨_,Z,tl,ws,Z,.inl ⟨bq.of BN,λtt zQ=> ?_⟩⟩;refine q tt _ (sm.free zQ) (sm.trans (ai.upd zQ)) ?_;rw[vl,gf (by rw[JG,aG];exact aJ _)] at tw;exact .tup aa (tw.kt (KT.same (ai.upd zQ)))
def aeI(K:Frag):Sp:=λvs H Q _=>∃a C dd n x,vs=[.ref a,x]/\H a=some (.ext (eM a C dd n))/\ExcC K C/\Q .bV H
theorem bI(T:Txt K mg A):aQ P w K mg base cY 1 A.d_ A.jz ["self","text"] (aeI K):=by
 refine T.bD.F.BY o9 ?_
 rintro cC Ar outer s H vs Q E hr ⟨a,C,dd,n,x,rfl,ea,hc,k⟩
 refine⟨_,(ah (bj (NZ Z T.E7 (ag (pv 0) (aF (pv 1)))))),?_⟩;exact⟨_,Z,_,Z,a,C,dd,n,x,Z,ea,hc,k⟩
def FU(C:Y')(fd:Str):Sp:=λvs H Q _=>∃a x,vs=[.ref a,x]/\H a=some (.ext (eM a C none true))/\∀dx,H dx=none->dx≠a->Q .bV (upd (upd H a (.ext (eM a C (some dx) true))) dx (.xd [(fd,x)]))
theorem rY(T:Txt K mg A):aQ P w K mg base cY 2 A.gR A.ky ["self","many"] (FU A.gj "many"):=by
 refine T.kY.F.BY rX ?_
 rintro cC Ar outer s H vs Q E hr ⟨a,x,rfl,ea,k⟩
 refine⟨_,(af (bj (kz T.bT Z T.gc.m ((bI T).mono (by decide)) hr T.bD.b .nil aA (ag (pv 0) (aF ax)))) (ah (nW (pv 0) (pv 1) Z))),?_⟩;refine⟨_,Z,a,A.gj,none,true,_,Z,ea,T.gp.X.toExcC,?_⟩;exact⟨_,Z,_,Z,a,A.gj,true,Z,T.gp.e,T.qc,.inl ⟨ea,λdx hn ne=>k dx hn ne⟩⟩
theorem rS(T:Txt K mg A):aQ P w K mg base cY 2 A.g8 A.k8 ["self","depth"] (FU A.gq "depth"):=by
 refine T.kA.F.BY rK ?_
 rintro cC Ar outer s H vs Q E hr ⟨a,x,rfl,ea,k⟩
 refine⟨_,(af (bj (kz T.bT Z T.gc.m ((bI T).mono (by decide)) hr T.bD.b .nil aA (ag (pv 0) (aF ax)))) (ah (nW (pv 0) (pv 1) Z))),?_⟩;refine⟨_,Z,a,A.gq,none,true,_,Z,ea,T.fH.X.toExcC,?_⟩;exact⟨_,Z,_,Z,a,A.gq,true,Z,T.fH.e,T.oS,.inl ⟨ea,λdx hn ne=>k dx hn ne⟩⟩
theorem rV(T:Txt K mg A):aQ P w K mg base cY 2 A.g9 A.ka ["self","many"] (FU A.gm "many"):=by
 refine T.kO.F.BY sd ?_
 rintro cC Ar outer s H vs Q E hr ⟨a,x,rfl,ea,k⟩
 refine⟨_,(af (bj (kz T.bT Z T.gc.m ((bI T).mono (by decide)) hr T.bD.b .nil aA (ag (pv 0) (aF ax)))) (ah (nW (pv 0) (pv 1) Z))),?_⟩;refine⟨_,Z,a,A.gm,none,true,_,Z,ea,T.dH.X.toExcC,?_⟩;exact⟨_,Z,_,Z,a,A.gm,true,Z,T.dH.e,T.pw,.inl ⟨ea,λdx hn ne=>k dx hn ne⟩⟩
theorem rH(T:Txt K mg A):aQ P w K mg base cY 2 A.gT A.kK ["self","many"] (FU A.gi "many"):=by
 refine T.kq.F.BY rZ ?_
 rintro cC Ar outer s H vs Q E hr ⟨a,x,rfl,ea,k⟩
 refine⟨_,(af (bj (kz T.bT Z T.gc.m ((bI T).mono (by decide)) hr T.bD.b .nil aA (ag (pv 0) (aF ax)))) (ah (nW (pv 0) (pv 1) Z))),?_⟩;refine⟨_,Z,a,A.gi,none,true,_,Z,ea,T.c7.X.toExcC,?_⟩;exact⟨_,Z,_,Z,a,A.gi,true,Z,T.c7.e,T.pZ,.inl ⟨ea,λdx hn ne=>k dx hn ne⟩⟩
theorem uA(T:Txt K mg A):aQ P w K mg base cY 2 A.i8 A.m9 ["self","label"] (FU A.jP "label"):=by
 refine T.mR.F.BY vt ?_
 rintro cC Ar outer s H vs Q E hr ⟨a,x,rfl,ea,k⟩
 refine⟨_,(af (bj (kz T.bT Z T.gc.m ((bI T).mono (by decide)) hr T.bD.b .nil aA (ag (pv 0) (aF ax)))) (ah (nW (pv 0) (pv 1) Z))),?_⟩;refine⟨_,Z,a,A.jP,none,true,_,Z,ea,T.ir.X.toExcC,?_⟩;exact⟨_,Z,_,Z,a,A.jP,true,Z,T.ir.e,T.sj,.inl ⟨ea,λdx hn ne=>k dx hn ne⟩⟩
theorem r_(T:Txt K mg A):aQ P w K mg base cY 2 A.gY A.k_ ["self","label"] (FU A.gk "label"):=by
 refine T.kT.F.BY rP ?_
 rintro cC Ar outer s H vs Q E hr ⟨a,x,rfl,ea,k⟩
 refine⟨_,(af (bj (kz T.bT Z T.gc.m ((bI T).mono (by decide)) hr T.bD.b .nil aA (ag (pv 0) (aF ax)))) (ah (nW (pv 0) (pv 1) Z))),?_⟩;refine⟨_,Z,a,A.gk,none,true,_,Z,ea,T.dS.X.toExcC,?_⟩;exact⟨_,Z,_,Z,a,A.gk,true,Z,T.dS.e,T.oW,.inl ⟨ea,λdx hn ne=>k dx hn ne⟩⟩
theorem sW(T:Txt K mg A):aQ P w K mg base cY 2 A.iB A.lY ["self","line"] (FU A.jl "line"):=by
 refine T.mf.F.BY sZ ?_
 rintro cC Ar outer s H vs Q E hr ⟨a,x,rfl,ea,k⟩
 refine⟨_,(af (bj (kz T.bT Z T.gc.m ((bI T).mono (by decide)) hr T.bD.b .nil aA (ag (pv 0) (aF ax)))) (ah (nW (pv 0) (pv 1) Z))),?_⟩;refine⟨_,Z,a,A.jl,none,true,_,Z,ea,T.pC.X.toExcC,?_⟩;exact⟨_,Z,_,Z,a,A.jl,true,Z,T.pC.e,T.CG,.inl ⟨ea,λdx hn ne=>k dx hn ne⟩⟩
theorem wg{K:Frag}{C:Y'}{fd:Str}{k:Ends}{σ:L2.St}{v:V}{H:Hp}{E:XK}{t:TA}(hc:ExcC K C)(ht:∀Q:ak->Hp->Prop,Q [v] H->t σ H Q)
 (r:∀dx H2,ai H H2->H2 dx=some (.xd [(fd,v)])->E (.ref C) (some dx) H2):OV K E (IK C (FU C fd) E0 t) k σ H:=by
 refine ht _ λx hx=>⟨x,v,Z,aa,λdx BX ne=>⟨Z,x,C,some dx,Z,(by rw[au (λz=>ne z.symm),aa]),hc,r dx _ (λc o e=> ?_) ?_⟩⟩
 .have hd:H dx=none:=by rw[au ne] at BX;exact BX
  rw[au (aw e hx),au (aw e hd),au (aw e hx),au (aw e hx)];exact e
 .rw[au ne,aa]
inductive Rf
 |many (n:Nat)
 |deep (n:Nat)
 |twice (l:Str)
 |oO (l:Str)
 |wide (n:Nat)
 |long (n:Nat)
noncomputable def Rf.cls(A:pk):Rf->Y'
 | .many _=>A.gj
 | .deep _=>A.gq
 | .twice _=>A.jP
 | .oO _=>A.gk
 | .wide _=>A.gm
 | .long _=>A.gi
noncomputable def Rf.fd:Rf->Str
 | .many _=>"many"
 | .deep _=>"depth"
 | .twice _=>"label"
 | .oO _=>"label"
 | .wide _=>"many"
 | .long _=>"many"
noncomputable def Rf.v:Rf->V
 | .many n=>nI n
 | .deep n=>nI n
 | .twice l=> .str l
 | .oO l=> .str l
 | .wide n=>nI n
 | .long n=>nI n
def Raises(A:pk)(H:Hp)(E:XK)(r:Rf):Prop:=∀dx H2,ai H H2->H2 dx=some (.xd [(r.fd,r.v)])->E (.ref (r.cls A)) (some dx) H2
theorem Raises.on{A:pk}{H H1:Hp}{E:XK}{r:Rf}(h:Raises A H E r)(s:ai H H1):Raises A H1 E r:=λdx H2 s2 e=>h dx H2 (s.trans s2) e
def Pz(A:pk)(H:Hp)(Q:VK)(E:XK):Option Rf->Prop
 |none=>∀H',ai H H'->Q .bV H'
 |some r=>Raises A H E r
noncomputable def lz(s:Ds):Option Rf:=if 40<dF s then some (.many (dF s)) else if 6<dq s then some (.deep (dq s)) else none
noncomputable def uW(s:Ds):Option Rf:=if 4<hJ s then some (.wide (hJ s)) else if 100<hU s then some (.long (hU s)) else none
noncomputable def tP(d:Dd):Option Str:=match d.ps with
 |[_,_,.str x]=>some x
 |_=>none
noncomputable def iV(r:Dd×aj):Option Rf:=if dN r.1.wd=true/\iM r.1∈r.2 then some (.twice (iM r.1)) else if r.1.wd="make" then match tP r.1 with
 |some x=>if x∈r.2 then none else some (.oO x)
 |none=>none
 else none
def XD(A:pk):Sp:=λvs H Q E=>∃v t s,vs=[v]/\Dat H v (iR t (sL s))/\fR s/\dq s<9/\Pz A H Q E (lz s)
theorem EH(T:Txt K mg A)(Fm:pP P w K A fm):aQ P w K mg base (C9 P w) 12 A.xP A.xn ["body"] (XD A):=by
 refine T.xo.F.okX nQ (λvs H Q E h=> ?_) (λcC Ar outer s0 H vs Q E hr h=> ?_)
 .obtain⟨v,t,s,rfl,_⟩:=h;rfl
 .obtain⟨v,t,s,rfl,hd,ok,dp,q⟩:=h;obtain⟨u1,vy⟩:=T.Eu;obtain⟨u2,vK⟩:=T.ER;refine⟨_,(af (eL 1 nQ.nd (cv (tR T Fm 9) hr T.mU aA (aF (pv 0)))) (af (a_ (jp kR (pv 1) (c8 Z vy.2 vy.1)) (ah (kJ Z eZ (X4 T.gp T.kY (rY T) hr (aF (pv 1))))) aK) (af (eL 2 nQ.nd (cv (Hh T Fm 9) hr T.s_ aA (aF (pv 0)))) (ah (a_ (jp kR (pv 2) (c8 Z vK.2 vK.1)) (ah (kJ Z eZ (X4 T.fH T.kA (rS T) hr (aF (pv 2))))) aK))))),?_⟩;refine⟨_,Z,v,t,s,Z,hd,ok,dp,λH1 s1=>⟨_,Z,_,_,Z,Z,_,Z,?_⟩⟩;unfold lz at q;refine sV (λhk=> ?_) (λhk=> ?_)
  .have hk:=bo hk;rw[ay (by lia)] at q;exact wg T.gp.X.toExcC (λQ' h=>⟨_,Z,h⟩) (Raises.on q s1)
  .have hk:¬((dF s:Nat):Int)>40:=λz=>hk (aU z);rw[aq (by lia)] at q;refine⟨_,Z,v,t,s,Z,hd.same s1,ok,dp,λH2 s2=>⟨_,Z,_,_,Z,Z,_,Z,?_⟩⟩;refine sV (λhk=> ?_) (λhk=> ?_)
   .have hk:=bo hk;rw[ay (by lia)] at q;exact wg T.fH.X.toExcC (λQ' h=>⟨_,Z,h⟩) (Raises.on q (s1.trans s2))
   .have hk:¬((dq s:Nat):Int)>6:=λz=>hk (aU z);rw[aq (by lia)] at q;exact q _ (s1.trans s2)
def YQ(A:pk):Sp:=λvs H Q E=>∃v t s,vs=[v]/\Dat H v (iR t (sL s))/\fR s/\dF s<=40/\dq s<=6/\Pz A H Q E (uW s)
theorem EZ(T:Txt K mg A)(Fm:pP P w K A fm):aQ P w K mg base (C9 P w) 17 A.xM A.xQ ["body"] (YQ A):=by
 refine T.yo.F.okX nK (λvs H Q E h=> ?_) (λcC Ar outer s0 H vs Q E hr h=> ?_)
 .obtain⟨v,t,s,rfl,_⟩:=h;rfl
 .obtain⟨v,t,s,rfl,hd,ok,hm,dp,q⟩:=h;obtain⟨u1,pL⟩:=T.BD;obtain⟨u2,uJ⟩:=T.ED;refine⟨_,(af (eL 1 nK.nd (cv (vf T Fm 7) hr T.lR aA (aF (pv 0)))) (af (a_ (jp kR (pv 1) (c8 Z pL.2 pL.1)) (ah (kJ Z eZ (X4 T.dH T.kO (rV T) hr (aF (pv 1))))) aK) (af (eL 2 nK.nd (cv (sG T Fm 7) hr T.jX aA (aF (pv 0)))) (ah (a_ (jp kR (pv 2) (c8 Z uJ.2 uJ.1)) (ah (kJ Z eZ (X4 T.c7 T.kq (rH T) hr (aF (pv 2))))) aK))))),?_⟩;refine⟨_,Z,v,t,s,Z,hd,ok,by lia,hm,dp,λH1 s1=>⟨_,Z,_,_,Z,Z,_,Z,?_⟩⟩;unfold uW at q;refine sV (λhk=> ?_) (λhk=> ?_)
  .have hk:=bo hk;rw[ay (by lia)] at q;exact wg T.dH.X.toExcC (λQ' h=>⟨_,Z,h⟩) (Raises.on q s1)
  .have hk:¬((hJ s:Nat):Int)>4:=λz=>hk (aU z);rw[aq (by lia)] at q;refine⟨_,Z,v,t,s,Z,hd.same s1,ok,by lia,hm,dp,λH2 s2=>⟨_,Z,_,_,Z,Z,_,Z,?_⟩⟩;refine sV (λhk=> ?_) (λhk=> ?_)
   .have hk:=bo hk;rw[ay (by lia)] at q;exact wg T.c7.X.toExcC (λQ' h=>⟨_,Z,h⟩) (Raises.on q (s1.trans s2))
   .have hk:¬((hU s:Nat):Int)>100:=λz=>hk (aU z);rw[aq (by lia)] at q;exact q _ (s1.trans s2)
theorem Bg{H:Hp}{d:Dd}{a:Y'}{ks:aj}{xs ys:ak}(p:gs H d a ks xs ys)(hw:d.wd="make"):∃x1 x2 m,xs=[x1,x2,m]/\ys=[]/\((m= .bV/\tP d=none)\/∃y,m= .str y/\tP d=some y):=by
 have f:=p.f;rw[hw] at f;have e:=bo (bS.mp (show(bH.all λp=>decide (p.1="make" ->p.2=(["name","size","mark"]:aj)))=true by decide+kernel) _ f) rfl;obtain⟨e1,e2⟩:=Vm (Dj p.fit) (show ks++List.replicate ys.length ("body" :Str)=_ from e);have e1:ks=(["name","size","mark"]:aj):=e1.trans (by decide+kernel);have e2:ys.length=0:=e2.trans (by decide+kernel);have hy:=z9 e2;have hf:=p.fit;have hx:=p.hx;unfold tP;rw[e1] at hf;generalize d.ps=ps at hf hx
 cases hf with
 |cons a1 r=>
  cases r with
  |cons a2 r=>
   cases r with
   |cons a3 r=>
    cases r
    cases hx with
    |cons b1 r=>
     cases r with
     |cons b2 r=>
      cases r with
      |cons b3 r=>
       cases r;refine⟨_,_,_,Z,hy,?_⟩
       cases a3 with
       |Bl=>cases b3;exact .inl ⟨Z,Z⟩
       |mark y _=>cases b3;exact .inr ⟨y,Z,Z⟩
       |num _ _ _ _ hb=>exact absurd Z (kg hb (by decide+kernel))
theorem ng(x:Str)(l:aj):yY (.str x) (l.map V.str)=decide (x∈l):=by
 unfold yY;rw[List.any_map,km,List.any_eq_true,fA];constructor
 .rintro ⟨y,hy,e⟩
  have e:DH (.str y) (.str x)=true:=e;have:y=x:=by simpa[DH] using e
  exact this▸hy
 .intro h;exact⟨x,h,by simp[DH]⟩
def Py(A:pk):Sp:=λvs H Q E=>∃H0 l zs rs,vs=[.ref l]/\ai H0 H/\H l=some (.lst zs)/\gB H0 H zs rs/\(∀r∈rs,ia r.1)/\Pz A H Q E (rs.findSome? iV)
theorem wO{α β:Type}(f:α->Option β){l:List α}{i:Nat}{x:α}(e:l[i]? =some x):(l.take (i+1)).findSome? f=((l.take i).findSome? f).or (f x):=by
 rw[rb,e,List.findSome?_append];simp
theorem AX{α β:Type}(f:α->Option β){l:List α}{i:Nat}{x:α}{r:β}(e:l[i]? =some x)(h0:(l.take i).findSome? f=none)(h1:f x=some r):l.findSome? f=some r:=by
 have:l=l.take (i+1)++l.drop (i+1):=(qD _ _).symm;rw[this,List.findSome?_append,wO f e,h0,h1];rfl
theorem zW(T:Txt K mg A)(Fm:pP P w K A fm):aQ P w K mg base (C9 P w) 4 A.sA A.sH ["listed"] (Py A):=by
 refine T.sf.F.okX kW (λvs H Q E h=> ?_) (λcC Ar outer s0 H vs Q E hr h=> ?_)
 .obtain⟨H0,l,zs,rs,rfl,_⟩:=h;rfl
 .obtain⟨H0,l,zs,rs,rfl,jZ,hl,R,ok,q⟩:=h;refine⟨_,(ah (yI (fb (pv 0)) (nu Z (bJ (ie 1 kW.nd) (bJ (ie 2 kW.nd) iq))) (af (a_ (PW.pt (wv (gA (cv (xS T Fm) hr T.tH aA (aF (pv 1)))) (ww (jp iW (cJ aY (pv 1) ae) (pv 2))))) (ah (kJ Z eZ (X4 T.ir T.mR (uA T) hr (aF (cJ aY (pv 1) ae))))) aK) (ah (a_ (PW.pt (wv (jp cM (cJ aY (pv 1) ae) ax) (wv (jp rF (cJ aY (pv 1) ae) eU) (ww (jp ou (cJ aY (pv 1) ae) (pv 2)))))) (ah (kJ Z eZ (X4 T.dS T.kT (r_ T) hr (aF (cJ aY (pv 1) ae))))) aK))) (hp:=PassesOwn.leaving))),?_⟩;refine⟨_,Z,l,Z,⟨_,bq.of hl⟩,?_⟩;refine gJ (K:=K) (a:=l) (xs:=zs) (λi σ H' =>∃x1 x2:Option V,σ=[some (.ref l),x1,x2]/\H' =H/\(rs.take i).findSome? iV=none) ⟨_,_,Z,Z,Z⟩ (by rintro i σ H' _ ⟨_,_,_,e,_⟩;exact bq.of (by rw[e];exact hl)) ?_ ?_
  .rintro i x σ H' hx ⟨x1,x2,rfl,rfl,hn⟩
   obtain⟨⟨d,ar⟩,er,t,v,u,rfl,ht,nj,hu⟩:=R.at_ i x hx;have jc:=ok _ (bt er);obtain⟨b,ks,xs,ys,rfl,p0⟩:=dO nj jc;have p:=p0.same jZ;dsimp only at nj hu jc p0 p
   have next:iV (d,ar)=none->(rs.take (i+1)).findSome? iV=none:=λh=>by
    rw[wO iV er,hn,h];rfl
   have bad:∀r,iV (d,ar)=some r->Raises A H' E r:=λr h=>by
    rw[AX iV er hn h] at q;exact q
   refine⟨t,_,Z,bu.of ht,Z,_,_,Z,_,_,Z,Z,_,Z,H0,_,d,Z,jZ,nj,jc,_,Z,?_⟩
   have two:¬(dN d.wd=true/\iM d∈ar)->iV (d,ar)=(if d.wd="make" then match tP d with
    |some x=>if x∈ar then none else some (.oO x)
    |none=>none
    else none):=λh=>aq h
   have nb:∀{y:Str},decide (V.str d.wd=V.str y)=decide (d.wd=y):=λ{y}=>by
    by_cases h:d.wd=y
    .rw[aU h,h];exact aU rfl
    .rw[bf h];exact bf (cw h)
   cases hb:dN d.wd with
   |true=>
    obtain⟨Mq,rfl⟩:=p0.iM hb;refine cD ⟨_,Z,b,_,1,_,Z,Z,bu.of p.e,bA (j:=1) Z,_,Z,u,_,Z,.inr (bu.of hu),Z,hX _,_,Z,?_⟩;show if yY (V.str (iM d)) (ar.map V.str)=true then _ else _
    rw[ng];by_cases lK:iM d∈ar
    .rw[aU lK];exact cD (wg T.ir.X.toExcC (λQ' h=>⟨_,Z,b,_,1,_,Z,Z,bu.of p.e,bA (j:=1) Z,h⟩) (bad (.twice (iM d)) (ay ⟨hb,lK⟩)))
    .rw[bf lK];have nm:d.wd≠ "make":=λz=>by rw[z] at hb;exact absurd hb (by decide+kernel)
     refine cf ⟨_,Z,b,_,0,_,Z,Z,bu.of p.e,iZ _ _,Z,_,Z,?_⟩;exact g7 (cw nm) ⟨_,_,Z,Z,next ((two λz=>lK z.2).trans (aq nm))⟩
   |false=>
    have tw:=two λz=>by rw[hb] at z;exact cE z.1
    refine cf ⟨_,Z,b,_,0,_,Z,Z,bu.of p.e,iZ _ _,Z,_,Z,?_⟩;by_cases nm:d.wd="make"
    .obtain⟨y1,y2,m,rfl,rfl,hm⟩:=Bg p nm;rw[ay nm] at tw;rw[nb,aU nm];rcases hm with⟨rfl,hk⟩|⟨y,rfl,hk⟩
     .rw[hk] at tw;exact cD ⟨_,Z,b,_,3,_,Z,Z,bu.of p.e,bA (j:=3) Z,Z,_,Z,cf ⟨_,_,Z,Z,next tw⟩⟩
     .rw[hk] at tw;dsimp only at tw;refine cD ⟨_,Z,b,_,3,_,Z,Z,bu.of p.e,bA (j:=3) Z,Z,_,Z,cD ⟨_,Z,b,_,3,_,Z,Z,bu.of p.e,bA (j:=3) Z,_,Z,u,_,Z,.inr (bu.of hu),Z,hX _,_,Z,?_⟩⟩;show if(!yY (V.str y) (ar.map V.str))=true then _ else _
      rw[ng];by_cases hy:y∈ar
      .rw[ay hy] at tw;rw[aU hy];exact cf ⟨_,_,Z,Z,next tw⟩
      .rw[aq hy] at tw;rw[bf hy];exact cD (wg T.dS.X.toExcC (λQ' h=>⟨_,Z,b,_,3,_,Z,Z,bu.of p.e,bA (j:=3) Z,h⟩) (bad (.oO y) tw))
    .exact g7 (cw nm) ⟨_,_,Z,Z,next (tw.trans (aq nm))⟩
  .rintro σ H' ⟨x1,x2,rfl,rfl,hn⟩
   have:rs.take zs.length=rs:=gf (by rw[R.len];exact aJ _);rw[this] at hn;rw[hn] at q;exact q _ (ai.refl _)
mutual
theorem zU{H H' :Hp}(k:KT H H')(l:∀c xs,H c=some (.lst xs)->H' c=some (.lst xs)):∀{v:V} {d:Z'},Dat H v d->Dat H' v d
 |_,_,.bV=> .bV
 |_,_,.bl b=> .bl b
 |_,_,.int i=> .int i
 |_,_,.str x=> .str x
 |_,_,.lst e h=> .lst (l _ _ e) (mZ k l h)
 |_,_,.tup e h=> .tup (k _ _ e) (mZ k l h)
theorem mZ{H H' :Hp}(k:KT H H')(l:∀c xs,H c=some (.lst xs)->H' c=some (.lst xs)):∀{xs:ak} {ds:List Z'},DatAll H xs ds->DatAll H' xs ds
 |_,_,.nil=> .nil
 |_,_,.cons h t=> .cons (zU k l h) (mZ k l t)
end
noncomputable def jaf(P:Y')(H:Hp):Hp:=λc=>if c=P then none else H c
theorem zn{P c:Y'}{H:Hp}(h:c≠P):jaf P H c=H c:=aq h
theorem OX{P:Y'}{H:Hp}{ps:Array W'}(h:H P=some (.wy ps)){v:V}{d:Z'}(hd:Dat H v d):Dat (jaf P H) v d:=
 zU (λc xs e=>(zn (b8 e h (λz=>nomatch z))).trans e) (λc xs e=>(zn (b8 e h (λz=>nomatch z))).trans e) hd
theorem wu{P:Y'}{H H' :Hp}(k:Kept P H H'):ai (jaf P H) H' :=λc o e=>by
 by_cases h:c=P
 .rw[h,show jaf P H P=none from ay Z] at e;cases e
 .rw[zn h] at e;exact k c o h e
def Tab(H:Hp)(P:Y')(lp:Pos)(q:Str):Prop:=∃ps,H P=some (.wy ps)/\TriplesOk ps.toList/\(codeAmong lp ps.toList=none\/∃c',codeAmong lp ps.toList=some (.ref c')/\H c' =some (.ext (iE c' q)))
theorem Tab.same{H H' :Hp}{P:Y'}{lp:Pos}{q:Str}(t:Tab H P lp q)(s:ai H H'):Tab H' P lp q:=by
 obtain⟨ps,e,h,r⟩:=t;refine⟨ps,s _ _ e,h,?_⟩;rcases r with r|⟨c,r1,r2⟩
 .exact .inl r
 .exact .inr ⟨c,r1,s _ _ r2⟩
theorem Tab.lam{P:Y'}{lp:Pos}{q:Str}{sp:Y'->Y'->ak->Sp}{E:XK}{dvs vs:ak}{H:Hp}{Q:VK}{σ:L2.St}{t:TA}(T:Tab H P lp q)(ht:∀Q' :ak->Hp->Prop,Q' vs H->t σ H Q')
 (h:∀f c' H1,H f=none->H1 f=none->Kept P H H1->Tab H1 P lp q->H1 c' =some (.ext (iE c' q))->sp f c' [] (vs++[.ref f]++dvs) H1 Q E):JB P lp q sp E [] dvs t σ H Q:=by
 obtain⟨ps,e,tr,r⟩:=T;refine ht _ ⟨ps,[],e,tr,Z,(λi j v z=>by simp at z),?_⟩;rcases r with r|⟨c,r1,r2⟩
 .refine .inl ⟨r,λf c' hf hc hfc=> ?_⟩;have ncP:c'≠P:=(aw e hc).symm;have nfP:f≠P:=(aw e hf).symm;refine h f c' _ hf ?_ (λb o hb eb=> ?_) ⟨_,(by rw[au ncP.symm];exact aa),?_,.inr ⟨c',?_,aa⟩⟩ aa
  .rw[au hfc,au nfP];exact hf
  .rw[au (aw eb hc),au hb];exact eb
  .have:(ps++ #[rawInt lp.line,rawInt lp.col,.ref c']).toList=ps.toList++[rawInt lp.line,rawInt lp.col,.ref c']:=by simp
   rw[this];exact TriplesOk_snoc _ _ _ _ tr
  .have:(ps++ #[rawInt lp.line,rawInt lp.col,.ref c']).toList=ps.toList++[rawInt lp.line,rawInt lp.col,.ref c']:=by simp
   rw[this];exact codeAmong_snoc _ tr r
 .exact .inr ⟨c,r1,r2,λf hf=>h f c H hf hf (Kept.refl _ _) ⟨ps,e,tr,.inr ⟨c,r1,r2⟩⟩ r2⟩
theorem _root_.L2.aQ.N9{P:aan}{w:aai}{K:Frag}{mg:Str->aM}{base:aam}{CX:tY}{k:Nat}{f:Y'}{fd:aap}{ps:aj}{sp:Sp}(len:∀vs H Q E,sp vs H Q E->vs.length=ps.length)(h:K.In base->aQ P w K mg base CX k f fd ps sp):aQ P w K mg base CX k f fd ps sp:=
 ⟨len,λA outer s H args us vs Q E hr e0 hb r DW=>(h e0.mod.tZ).run A outer s H args us vs Q E hr e0 hb r DW⟩
theorem Qf{P:aan}{w:aai}{K:Frag}{mg:Str->aM}{base:aam}{f c' :Y'}{name qual:Str}{params:Arguments}{scope:Scope}{pm ct oc:W'}{od:Option Y'}{xF:Array (aM)}{p1 p2:Pos}{jU:ak}
 (lk:base.get? f=some ⟨oc,od,.func (kla_fn name qual params (.List [.Name "deed" p1] p2) scope [] pm (.ref c') ct),xF⟩) (S:qL ["number","deed"] [] scope) (C:Bj base [] [] jU):aQ P w K mg base cY 1 f (kla_fn name qual params (.List [.Name "deed" p1] p2) scope [] pm (.ref c') ct) ["number","deed"] (MN c' qual):=by
 refine OL lk S C (λvs H Q E ⟨i,v,e,_⟩=>by rw[e];rfl) (λvs H Q E h ⟨i,v,e,hc,_⟩ ok _=>iE.rec ok hc) λA outer s H vs Q E hr ⟨i,v,e,hc,q⟩=> ?_;subst e;exact⟨_,a8 (aF (pv 1 (hv:= .inl (S.par "deed" (by simp))))),⟨_,Z,ki,q⟩⟩
mutual
theorem Xz:∀d:Dd,ia d->ia (ni d)
 | .mk w ps bs,h=>by
  rw[ia] at h;rw[ni,ia];obtain⟨⟨ks,f,fit⟩,hb⟩:=h;exact⟨⟨ks,by rw[Nr,aG];exact f,fit⟩,Ot bs hb⟩
theorem tW:∀s:Ds,fR s->fR (gO s)
 | .nil,h=>by rw[gO,fR];exact True.intro
 | .cons d r,h=>by
  rw[fR] at h;rw[gO,fR];exact⟨Xz d h.1,tW r h.2⟩
theorem Ot:∀b:Bs,i3 b->i3 (rj b)
 | .nil,h=>by rw[rj,i3];exact True.intro
 | .cons t b r,h=>by
  rw[i3] at h;rw[rj,i3];exact⟨tW b h.1,Ot r h.2⟩
end
mutual
theorem aeY:∀d:Dd,mB (ni d)=mB d/\lG (ni d)=lG d/\yL (ni d)=yL d/\yC (ni d)=yC d
 | .mk w ps bs=>by
  obtain⟨h1,h2,h3,h4⟩:=abo bs;rw[ni,mB,mB,lG,lG,yL,yL,yC,yC,h1,h2,h3,h4];exact⟨Z,Z,Z,Z⟩
theorem Cb:∀s:Ds,dq (gO s)=dq s/\dF (gO s)=dF s/\hJ (gO s)=hJ s/\hU (gO s)=hU s
 | .nil=>by rw[gO];exact⟨Z,Z,Z,Z⟩
 | .cons d r=>by
  obtain⟨h1,h2,h3,h4⟩:=aeY d;obtain⟨g1,g2,g3,g4⟩:=Cb r;rw[gO,dq,dq,dF,dF,hJ,hJ,hU,hU,h1,h2,h3,h4,g1,g2,g3,g4];exact⟨Z,Z,Z,Z⟩
theorem abo:∀b:Bs,nk (rj b)=nk b/\l6 (rj b)=l6 b/\rT (rj b)=rT b/\tD (rj b)=tD b
 | .nil=>by rw[rj];exact⟨Z,Z,Z,Z⟩
 | .cons t b r=>by
  obtain⟨h1,h2,h3,h4⟩:=Cb b;obtain⟨g1,g2,g3,g4⟩:=abo r;rw[rj,nk,nk,l6,l6,rT,rT,tD,tD,h1,h2,h3,h4,g1,g2,g3,g4];exact⟨Z,Z,Z,Z⟩
end
noncomputable def LP(r:Dd×aj):Dd×aj:=(ni r.1,r.2)
theorem Xp(d:Dd)(ar:aj):nU (ni d) ar=nU d ar:=by
 cases d with
 |mk w ps bs=>rw[ni];rfl
mutual
theorem YB:∀(d:Dd) (ar:aj),BZ (ni d) ar=(BZ d ar).map LP
 | .mk w ps bs,ar=>by
  have e:=Xp (.mk w ps bs) ar;rw[ni] at e ⊢;rw[BZ,BZ,eG,e,Pk bs];show _::_=(ni (.mk w ps bs),ar)::_;rw[ni]
theorem tQ:∀(s:Ds) (ar:aj),lE (gO s) ar=(lE s ar).map LP
 | .nil,ar=>by rw[gO,lE];rfl
 | .cons d r,ar=>by rw[gO,lE,lE,YB d,tQ r,cu]
theorem Pk:∀(b:Bs) (ar:aj),CB (rj b) ar=(CB b ar).map LP
 | .nil,ar=>by rw[rj,CB];rfl
 | .cons t b r,ar=>by rw[rj,CB,CB,tQ b,Pk r,cu]
end
theorem R3(r:Dd×aj):iV (LP r)=iV r:=by
 obtain⟨d,ar⟩:=r
 cases d with
 |mk w ps bs=>
  unfold LP;dsimp only;rw[ni];rfl
theorem JF(s:Ds)(ar:aj):(lE (gO s) ar).findSome? iV=(lE s ar).findSome? iV:=by
 rw[tQ,List.findSome?_map]
 congr 1
 funext r
 exact R3 r
mutual
theorem YU:∀(d:Dd) (ar:aj),ia d->∀r∈BZ d ar,ia r.1
 | .mk w ps bs,ar,h,r,hr=>by
  rw[BZ] at hr;rcases aN.mp hr with rfl|hr
  .exact h
  .exact OH bs _ (g6 h) r hr
theorem wI:∀(s:Ds) (ar:aj),fR s->∀r∈lE s ar,ia r.1
 | .nil,ar,h,r,hr=>by rw[lE] at hr;cases hr
 | .cons d q,ar,h,r,hr=>by
  rw[fR] at h;rw[lE] at hr;rcases cW.mp hr with hr|hr
  .exact YU d ar h.1 r hr
  .exact wI q ar h.2 r hr
theorem OH:∀(b:Bs) (ar:aj),i3 b->∀r∈CB b ar,ia r.1
 | .nil,ar,h,r,hr=>by rw[CB] at hr;cases hr
 | .cons t b q,ar,h,r,hr=>by
  rw[i3] at h;rw[CB] at hr;rcases cW.mp hr with hr|hr
  .exact wI b ar h.1 r hr
  .exact OH q ar h.2 r hr
end
theorem E9{H H' :Hp}{ks:aj}{ps:List Z'}(h:c9 ks ps):∀{xs:ak},DatAll H xs ps->bE H' xs ps:=by
 induction h with
 |nil=>intro xs hx;cases hx;exact .nil
 |cons h t ih=>
  intro xs hx
  cases hx with
  |cons a r=>exact .cons (MH h a) (ih r)
mutual
theorem abW{H:Hp}:∀(d:Dd) {v:V},ia d->Dat H v (dD (ni d))->iJ H v (dD (ni d))
 | .mk w ps bs,v,ok,h=>by
  rw[ia] at ok;obtain⟨⟨ks,f,fit⟩,hb⟩:=ok;rw[ni,dD] at h ⊢
  cases h with
  |tup e h=>
   cases h with
   |cons a r=>
    cases a;obtain⟨xs,ys,rfl,h1,h2⟩:=oq r;exact .tup e (.cons (.str _) ((E9 fit h1).append (aa5 bs hb h2)))
theorem Z4{H:Hp}:∀(s:Ds) {xs:ak},fR s->DatAll H xs (sL (gO s))->bE H xs (sL (gO s))
 | .nil,xs,ok,h=>by
  rw[gO,sL] at h ⊢;cases h;exact .nil
 | .cons d r,xs,ok,h=>by
  rw[fR] at ok;rw[gO,sL] at h ⊢
  cases h with
  |cons a t=>exact .cons (abW d ok.1 a) (Z4 r ok.2 t)
theorem aa5{H:Hp}:∀(b:Bs) {xs:ak},i3 b->DatAll H xs (bL (rj b))->bE H xs (bL (rj b))
 | .nil,xs,ok,h=>by
  rw[rj,bL] at h ⊢;cases h;exact .nil
 | .cons t b r,xs,ok,h=>by
  rw[i3] at ok;rw[rj,bL] at h ⊢
  cases h with
  |cons a q=>
   refine .cons ?_ (aa5 r ok.2 q);obtain⟨a',vs,rfl,ea,hA⟩:=fP a;exact .tup ea (Z4 b ok.1 hA)
end
def Qg(H:Hp)(v:V)(r:Dd×aj):Prop:=∃t x u,v= .ref t/\H t=some (.tup [x,.ref u])/\iJ H x (dD (ni r.1))/\H u=some (.tup (r.2.map V.str))
noncomputable def Uv(tb ls:Y'):iS:=iP "listed" (.ref ls) (iP "body" (.ref tb) [])
structure m_(C:Y')(H:Hp)(p tb ls:Y')(s:Ds):Prop where
 ob:∃dx,H p=some (.ins C dx (Uv tb ls))
 body:iJ H (.ref tb) (.tuple (sL (gO s)))
 rows:∃zs,H ls=some (.lst zs)/\zs.length=(lE s ["ground"]).length/\∀(i:Nat) v,zs[i]? =some v->∃r,(lE s ["ground"])[i]? =some r/\Qg H v r
theorem Qg.kt{H H' :Hp}{v:V}{r:Dd×aj}(h:Qg H v r)(k:KT H H'):Qg H' v r:=by
 obtain⟨t,x,u,e1,e2,e3,e4⟩:=h;exact⟨t,x,u,e1,k _ _ e2,e3.kt k,k _ _ e4⟩
theorem m_.kt{C:Y'}{H H' :Hp}{p tb ls:Y'}{s:Ds}(h:m_ C H p tb ls s)(k:KT H H')(hp:H' p=H p)(hl:H' ls=H ls):m_ C H' p tb ls s:=by
 obtain⟨⟨dx,e⟩,b,zs,e1,e2,e3⟩:=h;refine⟨⟨dx,hp.trans e⟩,b.kt k,zs,hl.trans e1,e2,λi v ev=> ?_⟩;obtain⟨r,er,hr⟩:=e3 i v ev;exact⟨r,er,hr.kt k⟩
noncomputable def dU(s:Ds):Option Rf:=(lz s).or (((lE s ["ground"]).findSome? iV).or (uW s))
noncomputable def P0:Pos:=⟨182,37,182,64⟩
noncomputable def qI:Str:="Program.__init__" ++ ".<locals>." ++ "<lambda>"
def hW(p P:Y')(H H' :Hp):Prop:=∀b o,b≠p->b≠P->H b=some o->H' b=some o
theorem MO{H:Hp}{p C dx:Y'}{fs:iS}{o:HO}(h:H p=some (.ins C dx fs)):KT H (upd H p o):=λc ys e=>by
 rw[au (b8 e h (by intro z;cases z))];exact e
theorem wK{β:Type}{l:List (Str×β)}{k:Str}{v:β}(h:l.lookup k=some v):(k,v)∈l:=by
 obtain⟨l1,l2,e,_⟩:=E1.mp h;rw[e];simp
theorem L_{p C dx:Y'}{fs:iS}{H:Hp}(h:H p=some (.ins C dx fs)){v:V}{d:Z'}(hd:Dat H v d):Dat (jaf p H) v d:=
 zU (λc xs e=>(zn (b8 e h (λz=>nomatch z))).trans e) (λc xs e=>(zn (b8 e h (λz=>nomatch z))).trans e) hd
theorem Tab.ZS{H:Hp}{P p C dx:Y'}{fs:iS}{lp:Pos}{q:Str}{o:HO}(t:Tab H P lp q)(h:H p=some (.ins C dx fs)):Tab (upd H p o) P lp q:=by
 obtain⟨ps,e,tr,r⟩:=t;refine⟨ps,(by rw[au (b8 e h (λz=>nomatch z))];exact e),tr,?_⟩;rcases r with r|⟨c,r1,r2⟩
 .exact .inl r
 .exact .inr ⟨c,r1,by rw[au (b8 r2 h (λz=>nomatch z))];exact r2⟩
theorem aeG{sc:Scope}(h1:sc.kind= .function)(h2:sc.isCoroutine=false)(h3:sc.isGenerator=false)(h:sc.names=[(("number" :Str),NameKind.local),(("deed" :Str),NameKind.local)]):qL ["number","deed"] [] sc:=by
 refine⟨h1,h2,h3,by decide+kernel,?_,(λ_ h=>nomatch h),?_,?_⟩
 .rw[h];decide+kernel
 .rw[h];decide+kernel
 .rw[h];intro x hx;have hm:=wK hx;rcases aN.mp hm with z|hm
  .cases z
  .rcases aN.mp hm with z|hm
   .cases z
   .cases hm
theorem abX(T:Txt K mg A)(Fm:pP P w K A fm){gF :aam}{f c' :Y'}{name qual:Str}{scope:Scope}{pm ct oc:W'}{od:Option Y'}{xF:Array (aM)}{p1 p2 p3 p4:Pos}{jU:ak}
 (lk:gF.get? f=some ⟨oc,od,.func (kla_fn name qual {posonlyargs:=[],args:=[{arg:="number",annotation:=none,pos:=p3},{arg:="deed",annotation:=none,pos:=p4}],vararg:=none,kwonlyargs:=[],kw_defaults:=[],kwarg:=none,defaults:=[]} (.List [.Name "deed" p1] p2) scope [] pm (.ref c') ct),xF⟩)
 (C:Bj gF [] [] jU) (h1:scope.kind= .function:=by rfl) (h2:scope.isCoroutine=false:=by rfl) (h3:scope.isGenerator=false:=by rfl) (h:scope.names=[(("number" :Str),NameKind.local),(("deed" :Str),NameKind.local)]:=by rfl):aQ P w K mg gF cY 17 A.lS A.dX ["body","change","first"] (JT f c' qual 7):=
 ES T Fm (Qf lk (aeG h1 h2 h3 h) C) ⟨_,_,_,lk⟩ (Binds.all (bn2 λ_ _=>rfl)) 7
def jV(A:pk)(q:Str):Sp:=λvs H Q E=>∃p dx v t s,vs=[.ref p,v]/\H p=some (.ins A.aD dx [])/\Dat H v (iR t (sL s))/\fR s/\dq s<9/\dF s<=1000/\Tab H A.az P0 q/\
 match dU s with
 |none=>∀tb ls H',H tb=none->H ls=none->hW p A.az H H'->Tab H' A.az P0 q->m_ A.aD H' p tb ls s->Q .bV H'
 |some r=>∀dx H2,hW p A.az H H2->Tab H2 A.az P0 q->H2 dx=some (.xd [(r.fd,r.v)])->E (.ref (r.cls A)) (some dx) H2
theorem gz(T:Txt K mg A)(Fm:pP P w K A fm)(tZ:K.In base):aQ P w K mg base (C9 P w) 18 A.bQ A.bR ["self","deeds"] (jV A qI):=by
 refine T.fi.F.okC rN (λAr outer s0 H vs Q E hr h=> ?_) (λvs H Q E h=> ?_)
 .obtain⟨p,dx,v,t,s,rfl,hp,hd,ok,dp,hm,tab,q⟩:=h;obtain⟨u1,ju⟩:=T.xq;obtain⟨u0,afV,bnd⟩:=Fm.df;have bnv:Vals [V.int 0] [u0]:= .cons afV .nil;obtain⟨c0,ct⟩:=T.rJ.tab (X:=mQ (C9 P w) P w K mg base ["self","deeds"] "Program.__init__" (ao fE) A.bQ A.bR.code Ar outer s0 H E) tZ rfl;have bm:=T.bm.mod (X:=mQ (C9 P w) P w K mg base ["self","deeds"] "Program.__init__" (ao fE) A.bQ A.bR.code Ar outer s0 H E) tZ;refine⟨_,(af (bj (cv (Fj T Fm 9) hr T.qh aA (aF (pv 1)))) (af (bj (cv (EH T Fm) hr T.xo (j6 eZ trivial) (aF (pv 1)))) (af (Oc (pv 0) (Q1 ct bm (tJ.none Z) (λgF f c' wb jU lk cp=>abX T Fm lk cp) hr Z T.l9.m T.l9.F.kp bnd bnv aA (pv 1)) Z) (af (Oc (pv 0) (cv (HK T Fm 7) hr T.wj aA (ag (X6 (pv 0)) (aF (ba (aF (c8 Z ju.2 ju.1)))))) Z) (af (bj (cv (zW T Fm) hr T.sf (j6 eZ trivial) (aF (X6 (pv 0))))) (ah (bj (cv (EZ T Fm) hr T.yo (j6 eZ trivial) (aF (X6 (pv 0))))))))))),?_⟩;refine⟨_,Z,v,t,s,Z,hd,ok,dp,λH1 s1=> ?_⟩;unfold dU at q
  have npP:p≠A.az:=by
   obtain⟨ps,e,_⟩:=tab;exact b8 hp e (λz=>nomatch z)
  refine⟨_,Z,v,t,s,Z,hd.same s1,ok,dp,?_⟩
  cases es:lz s with
  |some r=>
   rw[es] at q;exact λMp H2 s2 e=>q Mp H2 (λb o _ _ eb=>s2 _ _ (s1 _ _ eb)) (tab.same (s1.trans s2)) e
  |none=>
   rw[es,nA] at q
   have hs:dF s<=40/\dq s<=6:=by
    unfold lz at es
    split at es
    .cases es
    .split at es
     .cases es
     .lia
   intro H2 s2;have rW:=s1.trans s2;have yU:=tab.same rW;show JB A.az P0 qI (λf c' _=>JT f c' qI 7) E0 [] [V.int 0] (Au (MW 1) yF) (L2.start ["self","deeds"] [V.ref p,v]) H2 _;refine Tab.lam (q:=qI) (lp:=P0) yU (λQ' h=>⟨_,Z,h⟩) λf c' H3 hf hf3 k3 Mf WE=> ?_;obtain⟨ps,eP,_⟩:=id yU;refine⟨jaf A.az H2,v,t,s,0,Z,wu k3,OX eP (hd.same rW),ok,by lia,hm,WE,λtb H4 I_ s4 td=> ?_⟩;have Io:H4 p=some (.ins A.aD dx []):=s4 _ _ (k3 _ _ npP (rW _ _ hp));refine⟨_,Z,p,A.aD,dx,[],Z,Io,T.cb,T.eX,(by show 0<1000;decide),?_⟩;have Y5:upd H4 p (.ins A.aD dx (iP "body" (.ref tb) [])) p=some (.ins A.aD dx (iP "body" (.ref tb) [])):=aa;have k45:KT H4 (upd H4 p (.ins A.aD dx (iP "body" (.ref tb) []))):=MO Io;have e45:∀c,c≠p->upd H4 p (.ins A.aD dx (iP "body" (.ref tb) [])) c=H4 c:=λc h=>au h;have E6:=Tab.ZS (o:= .ins A.aD dx (iP "body" (.ref tb) [])) (Mf.same s4) Io;generalize upd H4 p (.ins A.aD dx (iP "body" (.ref tb) []))=H5 at Y5 k45 e45 E6 ⊢;obtain⟨e1,e2,e3,e4⟩:=Cb s;have t_:=tW s ok;have Wl:=td.kt k45
   have hk5:hW p A.az H H5:=λb o h1 h2 eb=>by
    rw[e45 b h1];exact s4 _ _ (k3 _ _ h2 (rW _ _ eb))
   refine⟨_,Z,p,A.aD,dx,_,_,Z,Y5,T.cb,T.eX,Z,ki,λu hu=> ?_⟩;have s6:=ai.upd (o:= .tup [V.str "ground"]) hu;refine⟨jaf p H5,.ref tb,true,gO s,u,["ground"],Z,wu s6.kept,L_ Y5 (Wl.dat),t_,by lia,aa,(λz=>nomatch z),by lia,by rw[e1];show 1+_<_;lia,λls zs H7 RH s7 hz R=> ?_⟩;have HW:=s6.trans s7;have Tx:=HW _ _ Y5;have nlp:ls≠p:=b8 hz Tx (λz=>nomatch z);refine⟨_,Z,p,A.aD,dx,_,Z,Tx,T.cb,T.ja,(by show 1<1000;decide),?_⟩;have Lz:upd H7 p (.ins A.aD dx (Uv tb ls)) p=some (.ins A.aD dx (Uv tb ls)):=aa;have k78:KT H7 (upd H7 p (.ins A.aD dx (Uv tb ls))):=MO Tx;have e78:∀c,c≠p->upd H7 p (.ins A.aD dx (Uv tb ls)) c=H7 c:=λc h=>au h;have Ia:=Tab.ZS (o:= .ins A.aD dx (Uv tb ls)) (E6.same HW) Tx;show{nx:=_,rt:=_:Ends}.nx _ (upd H7 p (.ins A.aD dx (Uv tb ls)));generalize upd H7 p (.ins A.aD dx (Uv tb ls))=H8 at Lz k78 e78 Ia ⊢;have R8:=R.kt k78;have Wz:H8 ls=some (.lst zs):=(e78 _ nlp).trans hz
   have Zi:ai (jaf p H5) H8:=wu λc o h e=>by
    rw[e78 c h];exact HW _ _ e
   have hk8:hW p A.az H H8:=λb o h1 h2 eb=>by
    rw[e78 b h1];exact HW _ _ (hk5 b o h1 h2 eb)
   have td8:iJ H8 (.ref tb) (.tuple (sL (gO s))):=(Wl.kt (KT.same HW)).kt k78;refine⟨_,Z,p,A.aD,dx,_,_,Z,Lz,T.cb,T.ja,Z,jaf p H5,ls,zs,_,Z,Zi,Wz,R8,wI _ _ t_,?_⟩;rw[JF]
   cases ef:(lE s ["ground"]).findSome? iV with
   |some r=>
    rw[ef] at q;exact λMp H9 s9 e=>q Mp H9 (λb o h1 h2 eb=>s9 _ _ (hk8 b o h1 h2 eb)) (Ia.same s9) e
   |none=>
    rw[ef,nA] at q;intro H9 s9;refine⟨_,Z,p,A.aD,dx,_,_,Z,s9 _ _ Lz,T.cb,T.eX,Z,.ref tb,true,gO s,Z,(td8.kt (KT.same s9)).dat,t_,by lia,by lia,?_⟩
    have er:uW (gO s)=uW s:=by
     unfold uW;rw[e3,e4]
    rw[er]
    cases eu:uW s with
    |some r=>
     rw[eu] at q;exact λMp Mu P5 e=>q Mp Mu (λb o h1 h2 eb=>P5 _ _ (s9 _ _ (hk8 b o h1 h2 eb))) (Ia.same (s9.trans P5)) e
    |none=>
     rw[eu] at q;intro Mu P5;have FN:=s9.trans P5
     have aem:H tb=none:=by
      cases eb:H tb with
      |none=>rfl
      |some o=>
       by_cases h2:tb=A.az
       .obtain⟨ps3,YV,_⟩:=Mf;rw[<-h2,I_] at YV;cases YV
       .rw[k3 _ _ h2 (rW _ _ eb)] at I_;cases I_
     have ad4:H ls=none:=by
      cases eb:H ls with
      |none=>rfl
      |some o=>
       by_cases h2:ls=A.az
       .obtain⟨ps3,YV,_⟩:=E6;have:=s6 _ _ YV;rw[<-h2,RH] at this;cases this
       .have:=s6 _ _ (hk5 _ _ nlp h2 eb);rw[RH] at this;cases this
     refine q tb ls Mu aem ad4 (λb o h1 h2 eb=>FN _ _ (hk8 b o h1 h2 eb)) (Ia.same FN) ⟨⟨dx,FN _ _ Lz⟩,td8.kt (KT.same FN),zs,FN _ _ Wz,?_,λi v ev=> ?_⟩
     .rw[R8.len,tQ,aG]
     .obtain⟨r,er',t',x,u',rfl,f1,f2,f3⟩:=R8.at_ i v ev;rw[tQ,bG] at er'
      cases eg:(lE s ["ground"])[i]? with
      |none=>rw[eg] at er';cases er'
      |some r' =>
       rw[eg] at er';cases er';exact⟨r',Z,t',x,u',Z,FN _ _ f1,((abW r'.1 (wI s _ ok r' (bt eg)) f2).kt (KT.same Zi)).kt (KT.same FN),FN _ _ f3⟩
 .obtain⟨p,dx,v,t,s,rfl,_⟩:=h;rfl
def YY(C:Y'):Sp:=λvs H Q _=>∃p tb ls s,vs=[.ref p]/\m_ C H p tb ls s/\Q (.ref tb) H
theorem dR(T:Txt K mg A):aQ P w K mg base cY 1 A.qz A.pE ["self"] (YY A.aD):=by
 refine T.dM.F.ok yE (λvs H Q E h=> ?_) (λcC Ar outer s0 H vs Q E hr h=> ?_)
 .obtain⟨p,tb,ls,s,rfl,_⟩:=h;rfl
 .obtain⟨p,tb,ls,s,rfl,pr,q⟩:=h;obtain⟨dx,ho⟩:=pr.ob;refine⟨_,(ah (aB (X6 (pv 0)))),?_⟩;exact⟨_,Z,p,A.aD,dx,_,_,Z,ho,T.cb,T.eX,Z,q⟩
def R_(C:Y'):Sp:=λvs H Q _=>∃p tb ls s,vs=[.ref p]/\m_ C H p tb ls s/\Q (nI (dF s)) H
theorem wZ(T:Txt K mg A):aQ P w K mg base cY 1 A.oK A.oQ ["self"] (R_ A.aD):=by
 refine T.oV.F.ok wz (λvs H Q E h=> ?_) (λcC Ar outer s0 H vs Q E hr h=> ?_)
 .obtain⟨p,tb,ls,s,rfl,_⟩:=h;rfl
 .obtain⟨p,tb,ls,s,rfl,pr,q⟩:=h;obtain⟨dx,ho⟩:=pr.ob;obtain⟨zs,hz,hl,_⟩:=pr.rows;refine⟨_,(ah (aB (iY aV T.dY Boot.«len» (aF (X6 (pv 0)))))),?_⟩;rw[<-rA s ["ground"],<-hl] at q;exact⟨_,Z,p,A.aD,dx,_,_,Z,ho,T.cb,T.ja,Z,ls,zs,Z,.inl (bq.of hz),q⟩
def Pc(C:Y'):Sp:=λvs H Q _=>∃p tb ls s,vs=[.ref p]/\m_ C H p tb ls s/\fR s/\dF s<=40/\dq s<=6/\∀H',ai H H'->Q (nI (hJ s)) H'
theorem vF(T:Txt K mg A)(Fm:pP P w K A fm):aQ P w K mg base cY 17 A.mJ A.mT ["self"] (Pc A.aD):=by
 refine T.mW.F.ok uT (λvs H Q E h=> ?_) (λcC Ar outer s0 H vs Q E hr h=> ?_)
 .obtain⟨p,tb,ls,s,rfl,_⟩:=h;rfl
 .obtain⟨p,tb,ls,s,rfl,pr,ok,hm,h6,q⟩:=h;obtain⟨dx,ho⟩:=pr.ob;obtain⟨e1,e2,e3,e4⟩:=Cb s;refine⟨_,(ah (aB (cv (vf T Fm 7) hr T.lR aA (aF (X6 (pv 0)))))),?_⟩;rw[<-e3] at q;exact⟨_,Z,p,A.aD,dx,_,_,Z,ho,T.cb,T.eX,Z,.ref tb,true,gO s,Z,pr.body.dat,tW s ok,by lia,by lia,by lia,q⟩
def LL(C:Y'):Sp:=λvs H Q _=>∃p tb ls s,vs=[.ref p]/\m_ C H p tb ls s/\fR s/\dF s<=40/\dq s<=6/\∀H',ai H H'->Q (nI (hU s)) H'
theorem tS(T:Txt K mg A)(Fm:pP P w K A fm):aQ P w K mg base cY 17 A.md A.l7 ["self"] (LL A.aD):=by
 refine T.l5.F.ok sS (λvs H Q E h=> ?_) (λcC Ar outer s0 H vs Q E hr h=> ?_)
 .obtain⟨p,tb,ls,s,rfl,_⟩:=h;rfl
 .obtain⟨p,tb,ls,s,rfl,pr,ok,hm,h6,q⟩:=h;obtain⟨dx,ho⟩:=pr.ob;obtain⟨e1,e2,e3,e4⟩:=Cb s;refine⟨_,(ah (aB (cv (sG T Fm 7) hr T.jX aA (aF (X6 (pv 0)))))),?_⟩;rw[<-e4] at q;exact⟨_,Z,p,A.aD,dx,_,_,Z,ho,T.cb,T.eX,Z,.ref tb,true,gO s,Z,pr.body.dat,tW s ok,by lia,by lia,by lia,q⟩
theorem wW{x:V}{xs:ak}{k:Nat}(hk:1<=k)(hi:Option Int):¬(HT.gw (x::xs).length 0 (some (k:Int))=0/\HT.gw (x::xs).length (x::xs).length hi=(x::xs).length):=by
 rintro ⟨z,_⟩
 rw[HT.nY] at z;simp only[aZ] at z
 lia
theorem BH(xs:ak)(k:Nat):gC xs (some (k:Int)) none=xs.drop k:=by
 unfold gC;rw[HT.nY,HT.AF];by_cases h:k<=xs.length
 .rw[Nat.min_eq_left h];exact gf (by rw[nS];exact aJ _)
 .rw[Nat.min_eq_right (by lia),E3 (by lia),E3 (by lia),List.take_nil]
def Lv:Sp:=pK λH0 d v H Q=>∀t ys H',H t=none->ai H H'->H' t=some (.tup ys)->DatAll H0 ys (bL d.bs)->Q (.ref t) H'
def IW:Sp:=pK λH0 d v H Q=>∀t ys H',H t=none->ai H H'->H' t=some (.tup ys)->DatAll H0 ys (bL d.bs)->(∃a xs,v= .ref a/\H a=some (.tup (.str d.wd::(xs++ys)))/\xs.length=d.ps.length)->Q (.ref t) H'
theorem yv(T:Txt K mg A):aQ P w K mg base cY 1 A.je A.mG ["_law_deed"] IW:=by
 refine T.fJ.F.ok Ba (λvs H Q E h=> ?_) (λcC Ar outer s0 H vs Q E hr h=> ?_)
 .obtain⟨H0,v,d,rfl,_⟩:=h;rfl
 .obtain⟨H0,v,d,rfl,jZ,hd,ok,q⟩:=h;obtain⟨a,ks,xs,ys,rfl,p0⟩:=dO hd ok;have pp:=p0.same jZ
  have hu:(mQ cY P w K mg base ["_law_deed"] "_law_bodies" (ao mz) A.je cC Ar outer s0 H E).Mt.A.units+1<cLine:=by
   have:=hr.un;show(Ar.deeper _).units+1<cLine;omega
  refine⟨_,(ah (aB (NM hu (QQ (Ai ax (dj Aq (pv 0) (eA ae) fj) (Ai ax (dj Aq (pv 0) (eA ae) fj) (Ai ax (dj Aq (pv 0) (eA ae) fj) Rt))) Z Z (by simp) (by decide)) (cJ aY (pv 0) ae) (ba c_) ⟨Z,Z,Z,Z⟩))),?_⟩;refine λp hp=>⟨_,Z,2,Z,a,_,Z,bu.of (ai.upd hp _ _ pp.e),wW (k:=2) (by decide) _,λt1 o_=> ?_⟩;have s1:=(ai.upd (o:= .dK []) hp).trans (ai.upd (o:= .tup (gC (.str d.wd::(xs++ys)) (some 2) none)) o_);have GP:=ai.upd (o:= .tup (gC (.str d.wd::(xs++ys)) (some 2) none)) o_ p _ aa;have e1:upd (upd H p (.dK [])) t1 (.tup (gC (.str d.wd::(xs++ys)) (some 2) none)) t1=some (.tup (gC (.str d.wd::(xs++ys)) (some 2) none)):=aa;have f1:H t1=none:=(ai.upd (o:= .dK []) hp).free o_;generalize upd (upd H p (.dK [])) t1 (.tup (gC (.str d.wd::(xs++ys)) (some 2) none))=H1 at s1 GP e1 ⊢;refine⟨_,Z,4,Z,a,_,Z,bu.of (s1 _ _ pp.e),wW (k:=4) (by decide) _,λt2 vR=> ?_⟩;have s2:=s1.trans (ai.upd (o:= .tup (gC (.str d.wd::(xs++ys)) (some 4) none)) vR);have Cm:=ai.upd (o:= .tup (gC (.str d.wd::(xs++ys)) (some 4) none)) vR _ _ GP;have e2:=ai.upd (o:= .tup (gC (.str d.wd::(xs++ys)) (some 4) none)) vR _ _ e1;have Xe :upd H1 t2 (.tup (gC (.str d.wd::(xs++ys)) (some 4) none)) t2=some (.tup (gC (.str d.wd::(xs++ys)) (some 4) none)):=aa;have f2:H t2=none:=s1.free vR;generalize upd H1 t2 (.tup (gC (.str d.wd::(xs++ys)) (some 4) none))=H2 at s2 Cm e2 Xe ⊢;refine⟨_,Z,1,Z,a,_,Z,bu.of (s2 _ _ pp.e),wW (k:=1) (by decide) _,λt3 pf=> ?_⟩;have u3:=ai.upd (o:= .tup (gC (.str d.wd::(xs++ys)) (some 1) none)) pf;have YV :upd H2 t3 (.tup (gC (.str d.wd::(xs++ys)) (some 1) none)) t3=some (.tup (gC (.str d.wd::(xs++ys)) (some 1) none)):=aa;have f3:H t3=none:=s2.free pf;generalize upd H2 t3 (.tup (gC (.str d.wd::(xs++ys)) (some 1) none))=H3 at u3 YV ⊢;have s3:=s2.trans u3;have zg:=u3 _ _ Cm
  have Xk:xf [] [((.inr "frame" :wS),V.ref t1),(.inr "turns",.ref t2),(.inr "either",.ref t3)]=[(.inr "frame",.ref t1),(.inr "turns",.ref t2),(.inr "either",.ref t3)]:=by with_unfolding_all rfl
  refine⟨zg,[(.inr "frame",.ref t1),(.inr "turns",.ref t2),(.inr "either",.ref t3)],Z,(show 3<=15 by decide),p,Z,.inl ⟨_,.inl aa⟩,?_⟩;rw[Xk];have s4:ai H (upd H3 p (.dK [(.inr "frame",.ref t1),(.inr "turns",.ref t2),(.inr "either",.ref t3)])):=fW hp s3
  have k4:KT H3 (upd H3 p (.dK [(.inr "frame",.ref t1),(.inr "turns",.ref t2),(.inr "either",.ref t3)])):=λc ys e=>by
   rw[au (b8 e zg (λz=>nomatch z))];exact e
  have e4:upd H3 p (.dK [(.inr "frame",.ref t1),(.inr "turns",.ref t2),(.inr "either",.ref t3)]) p=some (.dK [(.inr "frame",.ref t1),(.inr "turns",.ref t2),(.inr "either",.ref t3)]):=aa;generalize upd H3 p (.dK [(.inr "frame",.ref t1),(.inr "turns",.ref t2),(.inr "either",.ref t3)])=H4 at s4 k4 e4 ⊢;refine⟨_,Z,a,_,0,_,Z,Z,bu.of (s4 _ _ pp.e),iZ _ _,jy,λt4 PR=> ?_⟩;have u5:=ai.upd (o:= .tup []) PR;refine⟨_,OW.k (k:= .inr d.wd) (u5 _ _ e4),?_⟩;have s5:=s4.trans u5;have hx:=p0.hx;have hy:=p0.hy;have q1:∀t H',H t=none->ai H H'->H' t=some (.tup ys)->Q (.ref t) H' :=λt H' h1 h2 h3=>q t ys H' h1 h2 h3 hy ⟨a,xs,Z,pp.e,cQ hx⟩
  cases jae ok with
  |ei t b u c=>
   rw[show i4 [((.inr "frame" :wS),V.ref t1),(.inr "turns",.ref t2),(.inr "either",.ref t3)] (.inr (Dd.wd (.mk "either" [] (.cons t b (.cons u c .nil)))))=some (.ref t3) by with_unfolding_all rfl];refine q1 t3 _ f3 s5 ((u5 _ _ (k4 _ _ YV)).trans ?_);rw[show gC (V.str (Dd.wd (.mk "either" [] (.cons t b (.cons u c .nil))))::(xs++ys)) (some 1) none=xs++ys from BH _ 1];cases hx;rfl
  |tu l m n t b hl hg m1 m3 n0 n4=>
   rw[show i4 [((.inr "frame" :wS),V.ref t1),(.inr "turns",.ref t2),(.inr "either",.ref t3)] (.inr (Dd.wd (.mk "turns" [.str l,.int m,.int n] (.cons t b .nil))))=some (.ref t2) by with_unfolding_all rfl];refine q1 t2 _ f2 s5 ((u5 _ _ (k4 _ _ (u3 _ _ Xe))).trans ?_);obtain⟨x1,x2,rfl⟩:=Rr hx;rw[show gC (V.str (Dd.wd (.mk "turns" [.str l,.int m,.int n] (.cons t b .nil)))::([x1,x2,V.int n]++ys)) (some 4) none=ys from BH _ 4]
  |fr l t b hl hg=>
   rw[show i4 [((.inr "frame" :wS),V.ref t1),(.inr "turns",.ref t2),(.inr "either",.ref t3)] (.inr (Dd.wd (.mk "frame" [.str l] (.cons t b .nil))))=some (.ref t1) by with_unfolding_all rfl];refine q1 t1 _ f1 s5 ((u5 _ _ (k4 _ _ (u3 _ _ e2))).trans ?_)
   cases hx with
   |cons h1 r=>
    cases r;rw[show gC (V.str (Dd.wd (.mk "frame" [.str l] (.cons t b .nil)))::([_]++ys)) (some 2) none=ys from BH _ 2]
  |sm w ks ps f h n1 n2 n3=>
   have hv:i4 [((.inr "frame" :wS),V.ref t1),(.inr "turns",.ref t2),(.inr "either",.ref t3)] (.inr w)=none:=by
    unfold i4;rw[List.find?_eq_none.mpr]
    .rfl
    .intro x hx;simp only[aN,cF,cH] at hx;rcases hx with rfl|rfl|rfl
     .simpa using λz=>n3 z.symm
     .simpa using λz=>n2 z.symm
     .simpa using λz=>n1 z.symm
   have Mo :i4 [((.inr "frame" :wS),V.ref t1),(.inr "turns",.ref t2),(.inr "either",.ref t3)] (.inr (Dd.wd (.mk w ps .nil)))=none:=hv;rw[Mo];refine q1 t4 _ (s4.free PR) s5 (aa.trans ?_);have hy:DatAll H0 ys (bL .nil):=hy;rw[bL] at hy;cases hy;rfl
theorem fX(T:Txt K mg A):aQ P w K mg base cY 1 A.je A.mG ["_law_deed"] Lv:=
 (yv T).imp λvs H Q E ⟨H0,v,d,e,sm,hd,ok,q⟩=>⟨H0,v,d,e,sm,hd,ok,λt ys H' h1 h2 h3 h4 _=>q t ys H' h1 h2 h3 h4⟩
theorem Kc{J:It}{n k:Nat}{js:List Nat}{Y:Nat->V->Hp->Prop}{g:TG}{tt:TT}{te:TE}{σ:L2.St}{H:Hp}{Q:VK}(pb:Nat->Bool)(d:Nat->Z')(F:AV J H n Y)(hlen:n<=sizeLine)
 (gI:∀(i:Nat) (x:V) (H' :Hp) (C1:V->Hp->Prop) (C0:Hp->Prop),i<n->ai H H'->Y i x H'->(pb i=true->∀v gE,ai H' gE->iJ gE v (d i)->C1 v gE)->(pb i=false->∀gE,ai H' gE->C0 gE)->
  g x (yO k js σ) H' λkn H2=>fU (yO k js σ) kn/\tt kn H2 λb H3=>if b=true then te kn H3 C1 else C0 H3)
 (hq:∀p H' ys,H p=none->ai H H'->H' p=some (.lst ys)->bE H' ys (((List.range n).filter pb).map d)->ys.length<=n->Q (.ref p) H'):
 nh J k js g tt te σ H Q:=by
 intro p hp;refine⟨λi m ys H' =>m=n - i/\i<=n/\ys.length<=i/\bE H' ys (((List.range i).filter pb).map d)/\H' p=some (.lst ys)/\ai H H',⟨n,Z,bU _,aJ _,.nil,aa,ai.upd hp⟩,?_⟩
 rintro i m ys H' ⟨rfl,hi,hy,hd,hl,hs⟩
 refine⟨hl,?_⟩;by_cases jB:i<n
 .refine .inr ⟨F.go i _ hs jB,by lia,λx gE yH=> ?_⟩;obtain⟨s1,y1⟩:=F.zS i _ x gE hs jB yH
  have et:(List.range (i+1)).filter pb=(List.range i).filter pb++(if pb i=true then[i] else[]):=by
   rw[List.range_succ,nC];cases hb:pb i<;>simp[hb]
  refine gI i x gE _ _ jB (hs.trans s1) y1 (λhb v H3 s3 e3=> ?_) (λhb H3 s3=>⟨n - (i+1),by lia,Z,jB,by lia,?_,s3 _ _ (s1 _ _ hl),(hs.trans s1).trans s3⟩)
  .have zg:H3 p=some (.lst ys):=s3 _ _ (s1 _ _ hl)
   have kt:∀c xs,H3 c=some (.tup xs)->upd H3 p (.lst (ys++[v])) c=some (.tup xs):=λc xs e=>by
    rw[au (b8 e zg (by intro z;cases z))];exact e
   refine⟨zg,n - (i+1),by lia,Z,jB,by rw[aT];show ys.length+1<=i+1;lia,?_,aa,λc o e=> ?_⟩
   .rw[et,ay hb,cu];exact((hd.kt (KT.same (s1.trans s3))).kt kt).append (.cons (e3.kt kt) .nil)
   .rw[au (aw e hp)];exact s3 _ _ (s1 _ _ (hs _ _ e))
  .rw[et,hb];simp only[uM,me,bZ];exact hd.kt (KT.same (s1.trans s3))
 .have e:i=n:=by lia
  subst e;exact .inl ⟨F.stop _ _ hs (aJ _),hq p H' ys hp hs hl hd hy⟩
theorem vN(l:List Z'):(List.range l.length).map (λi=>l.getD i .none)=l:=by
 apply vY;intro i;rw[bG];by_cases h:i<l.length
 .rw[rg h,zI h];simp[eQ,h]
 .rw[jI (by rw[qM];lia),jI (by lia)];rfl
noncomputable def PJ(d:Dd):List Z':=d.bs.l.map λp=> .tuple (sL (gO p.2))
def QI(n:Nat):Sp:=λvs H Q _=>∃H0 v t s,vs=[v]/\ai H0 H/\Dat H0 v (iR t (sL s))/\fR s/\dq s<n/\dF s<=1000/\∀tt H',H tt=none->ai H H'->iJ H' (.ref tt) (.tuple (sL (gO s)))->Q (.ref tt) H'
theorem HM(xs ys:ak):gC (xs++ys) none (some (xs.length:Int))=xs:=by
 unfold gC;rw[HT.AF,HT.nY,List.drop_zero,Nat.sub_zero,aT,Nat.min_eq_left (lu _ _),List.take_left' Z]
theorem CH(T:Txt K mg A)(n:Nat):aQ P w K mg base cY (1+n) A.vQ A.vH ["_law_body_here"] (QI n):=by
 induction n with
 |zero=>exact eT (by rintro vs H Q E ⟨H0,v,t,s,_,_,_,_,h,_⟩;exact g_ _ h)
 |succ n ih=>
 show aQ P w K mg base cY ((1+n)+1) _ _ _ _;refine T.oj.F.ok jg (λvs H Q E h=> ?_) (λcC Ar outer s0 H vs Q E hr h=> ?_)
 .obtain⟨H0,v,t,s,rfl,_⟩:=h;rfl
 .obtain⟨H0,v,t,s,rfl,jZ,hd,ok,dp,hm,q⟩:=h;obtain⟨a,vs,rfl,ha,hA⟩:=fP hd;have sl:=PH s;have vl:=qb hA;have Vx:(1000:Nat)<sizeLine:=by decide
  refine⟨_,(af (eL 1 jg.nd (a8 c_)) (af (yI (oP (pv 0)) (ie 2 jg.nd) (af (G0 3 jg.nd ["_law_one"] 1 [] (wU (cv (fX T) hr T.fJ aA (aF (pv 2)) (hj:=by lia))) (λ_ _ _ _ _=>⟨(ie 0 (show(["_law_one"]:aj).Nodup by decide+kernel)),pD,(cv ih hr T.oj aA (aF (pv 0)) (hj:=by lia))⟩)) (ah (bj (cR dC F' G' cA (pv 1) (aF (aH uE (dj QE (pv 2) fj (eA (aH jC (iY aV T.dY Boot.«len» (aF (pv 2))) (iY aV T.dY Boot.«len» (aF (pv 3)))))) (GX dG T.jf Boot.«tuple» (aF (pv 3)))))))))) (ah (aB (GX dG T.jf Boot.«tuple» (aF (pv 1))))))),?_⟩;refine⟨jy,λfl lI=>⟨_,Z,a,t,Z,Mr (ai.upd lI _ _ (jZ _ _ ha)),?_⟩⟩;refine mF (K:=K) (t:=t) (a:=a) (xs:=vs) (λj σ H' =>∃(x2 x3:Option V) (ws:ak),σ=[some (.ref a),some (.ref fl),x2,x3]/\ai H H'/\H' fl=some (.lst ws)/\bE H' ws ((sL (gO s)).take j)) ⟨_,_,[],Z,ai.upd lI,aa,.nil⟩ (by rintro j σ H' _ ⟨_,_,_,_,sm,_⟩;exact sm _ _ (jZ _ _ ha)) ?_ ?_
  .rintro j x σ H' hx ⟨x2,x3,ws,rfl,sm,jR,tw⟩
   obtain⟨d,ed,nj⟩:=gP hA hx;have dm:=bt ed;have jc:=fD ok d dm;have IS:=fu d dm;have P6:=iy d dm;have wl:=z6 tw;rw[oE] at wl;have hj:=(dE.mp hx).1
   have ej:(sL (gO s))[j]? =some (dD (ni d)):=by
    rw[JG,bG,ed];rfl
   obtain⟨b,ks,xs,Ge,rfl,p0⟩:=dO nj jc;have hlx:=p0.lx;have h4:=cO p0.f;rw[aT,eV] at h4;have Tf:=iu p0.hy;refine⟨_,Z,H0,_,d,Z,jZ.trans sm,nj,jc,λt1 ys H1 o_ s1 hz hB=>⟨t1,Z,⟨_,bu.of hz⟩,?_⟩⟩;have bl:=iu hB
   have pl:(PJ d).length=ys.length:=by
    unfold PJ;rw[aG,bl]
   refine Kc (λ_=>true) (λi=>(PJ d).getD i .none) (j4 (bu.of hz)).g (aL (show ys.length<=1000 by lia) (cV Vx)) ?_ λil H2 wi Ze s2 yy MS Lq=> ?_
   .intro i y H3 C1 C0 hi s3 hy c1 c0;obtain⟨pp,ep,hp⟩:=gQ hB hy;have pm:=bt ep;have t_:=fh (g6 jc) pp pm;have Ak:=fk pp pm;have HR:=iz pp pm;rw[<-iw] at Ak;rw[<-oC] at HR
    have ec:(PJ d).getD i .none= .tuple (sL (gO pp.2)):=by
     unfold PJ;rw[eQ,bG,ep];rfl
    refine⟨(fU.refl _).own (by decide),_,Z,H0,y,pp.1,pp.2,Z,((jZ.trans sm).trans s1).trans s3,hp,t_,by lia,by lia,λt2 H4 _ s4 td=>c1 Z _ H4 s4 ?_⟩;rw[ec];exact td
   .rw[gD.mpr (λ_ _=>rfl),<-pl,vN] at MS;have wil:=z6 MS;have HE:=(sm.trans s1).trans s2;have v_:H2 b=some (.tup (.str d.wd::(xs++Ge))):=HE _ _ (jZ _ _ p0.e);have mX:=s2 _ _ (s1 _ _ jR)
    have eix:(((V.str d.wd::(xs++Ge)).length:Nat):Int) - ((wi.length:Nat):Int)=(((V.str d.wd::xs).length:Nat):Int):=by
     simp only[aZ,aT]
     lia
    have fin:∀(e:Y') (H5:Hp),ai H2 H5->iJ H5 (.ref e) (dD (ni d))->∃(x2 x3:Option V) (ws' :ak),([some (V.ref a),some (.ref fl),some (.ref b),some (.ref il)]:L2.St)=[some (.ref a),some (.ref fl),x2,x3]/\ai H (upd H5 fl (.lst (ws++[.ref e])))/\upd H5 fl (.lst (ws++[.ref e])) fl=some (.lst ws')/\bE (upd H5 fl (.lst (ws++[.ref e]))) ws' ((sL (gO s)).take (j+1)):=λe H5 s5 td=>by
     refine⟨_,_,ws++[.ref e],Z,fW lI (HE.trans s5),aa,?_⟩;rw[xL ej];exact((tw.kt (KT.same ((s1.trans s2).trans s5))).snoc td).kt (KT.upd (s5 _ _ mX))
    have Zm:ws.length<sizeLine:=gx (show ws.length<=1000 by lia) Vx;refine⟨_,Z,zx mX,_,Z,_,Z,b,_,Z,.inr (bu.of v_),_,Z,il,_,Z,.inl (bq.of yy),_,_,Z,Z,_,Z,b,_,Z,bu.of v_,?_,?_⟩
    .rw[eix]
     rintro ⟨_,hw⟩
     rw[HT.nY] at hw;simp only[aZ,aT] at hw;have hy0:Ge=[]:=z9 (by lia);have hw0:wi=[]:=z9 (by rw[hy0] at Tf;simp only[fO] at Tf;lia);subst hy0 hw0;refine⟨_,Z,il,_,Z,.inl ⟨bq.of yy,λt5 Xw=> ?_⟩⟩;have u5:=ai.upd (o:= .tup []) Xw;refine⟨b,t5,_,_,Z,Z,bu.of (u5 _ _ v_),bu.of aa,(λz=>nomatch z),?_,(λ_=>⟨fl,ws,_,Z,Z,u5 _ _ mX,Zm,fin b _ u5 ?_⟩),(λz=>absurd Z z)⟩
     .simp only[aZ,aT,fO];exact aL (show _<=1000 by lia) (cV Vx)
     .have hbs:d.bs.l=[]:=z9 (by rw[<-Tf];rfl);rw[Jr,hbs];exact .tup (u5 _ _ v_) (.cons (.str _) (by rw[bZ,n5,bZ];exact E9 p0.fit p0.hx))
    .rw[eix];intro hw t4 PR;have ae7:gC (V.str d.wd::(xs++Ge)) none (some (((V.str d.wd::xs).length:Nat):Int))=V.str d.wd::xs:=HM (V.str d.wd::xs) Ge;rw[ae7];have u4:=ai.upd (o:= .tup (V.str d.wd::xs)) PR;refine⟨_,Z,il,_,Z,.inl ⟨bq.of (u4 _ _ yy),λt5 Xw=> ?_⟩⟩;have u5:=ai.upd (o:= .tup wi) Xw
     have o8:wi≠[]:=λz=>hw (by
      rw[z] at wil
      have hy0:Ge.length=0:=by
       rw[Tf,<-bl,<-pl,<-wil];rfl
      refine⟨Z,?_⟩;rw[HT.nY];simp only[aZ,aT]
      lia)
     refine⟨t4,t5,_,_,Z,Z,bu.of (u5 _ _ aa),bu.of aa,(λz=>nomatch z),?_,(λz=>absurd z o8),λ_ t6 Q_=> ?_⟩
     .simp only[aZ];exact aL (show _<=1000 by lia) (cV Vx)
     .have u6:=ai.upd (o:= .tup (V.str d.wd::xs++wi)) Q_;have su:=(u4.trans u5).trans u6;refine⟨fl,ws,_,Z,Z,su _ _ mX,Zm,fin t6 _ su ?_⟩;rw[Jr];exact .tup aa (.cons (.str _) ((E9 p0.fit p0.hx).append (MS.kt (KT.same su))))
  .rintro σ H' ⟨x2,x3,ws,rfl,sm,BN,tw⟩
   refine⟨_,Z,fl,ws,Z,.inl ⟨bq.of BN,λtt zQ=> ?_⟩⟩;refine q tt _ (sm.free zQ) (sm.trans (ai.upd zQ)) ?_;rw[vl,gf (by rw[JG,aG];exact aJ _)] at tw;exact .tup aa (tw.kt (KT.same (ai.upd zQ)))
noncomputable def csD(b:Ds):Z':= .tuple [.int (hJ b:Nat),.int (hU b:Nat)]
theorem JI{H:Hp}{v:V}{b:Ds}(h:iJ H v (csD b)):∃t,v= .ref t/\H t=some (.tup [nI (hJ b),nI (hU b)]):=by
 cases h with
 |tup e h=>
  cases h with
  |cons a r=>
   cases r with
   |cons c r=>
    cases r;cases a;cases c;exact⟨_,Z,e⟩
def WV(n:Nat):Sp:=λvs H Q _=>∃H0 v t s,vs=[v]/\ai H0 H/\Dat H0 v (iR t (sL s))/\fR s/\dq s<n/\∀tt H',H tt=none->ai H H'->H' tt=some (.tup [nI (hJ s),nI (hU s)])->Q (.ref tt) H'
theorem vc(T:Txt K mg A)(n:Nat):aQ P w K mg base cY (1+n) A.xy A.xW ["_law_body_here"] (WV n):=by
 induction n with
 |zero=>exact eT (by rintro vs H Q E ⟨H0,v,t,s,_,_,_,_,h,_⟩;exact g_ _ h)
 |succ n ih=>
 show aQ P w K mg base cY ((1+n)+1) _ _ _ _;refine T.ma.F.ok cG (λvs H Q E h=> ?_) (λcC Ar outer s0 H vs Q E hr h=> ?_)
 .obtain⟨H0,v,t,s,rfl,_⟩:=h;rfl
 .obtain⟨H0,v,t,s,rfl,jZ,hd,ok,dp,q⟩:=h;obtain⟨a,vs,rfl,ha,hA⟩:=fP hd;have vl:=qb hA;refine⟨_,(af (eL 1 cG.nd ae) (af (eL 2 cG.nd ae) (af (yI (oP (pv 0)) (ie 3 cG.nd) (af (G0 4 cG.nd ["_law_one"] 1 [] (wU (cv (fX T) hr T.fJ aA (aF (pv 3)) (hj:=by lia))) (λ_ _ _ _ _=>⟨(ie 0 (show(["_law_one"]:aj).Nodup by decide+kernel)),pD,(cv ih hr T.ma aA (aF (pv 0)) (hj:=by lia))⟩)) (ah (a_ (jp cM (cJ aY (pv 3) ae) ax) (ah (Nm (i:=1) (j:=2) Z cG.nd Z Z (by decide) Z Z (ag (aH bB (pv 1) (cJ aY (cJ aP (pv 4) ae) ae)) (aF (aH bB (aH bB (pv 2) (cJ aY (cJ aP (pv 4) ae) ae)) ae))) (by rfl))) (ah (a_ (jp cM (cJ aY (pv 3) ae) ax) (af (eL 1 cG.nd (aH bB (pv 1) (aH my (cJ aY (pv 3) ae) (cJ aY (cJ aP (pv 4) ae) ae)))) (ah (eL 2 cG.nd (aH bB (aH bB (pv 2) (aH my (cJ aY (pv 3) ae) (aH bB (cJ aY (cJ aP (pv 4) ae) ae) ae))) ae)))) (ah (a_ (jp cM (cJ aY (pv 3) ae) ax) (af (eL 1 cG.nd (aH bB (aH bB (pv 1) (iY (j9 Z) T.yd Boot.«max» (ag (cJ aY (cJ aP (pv 4) ae) ae) (aF (cJ aY (cJ aP (pv 4) ae) ae))))) ae)) (ah (eL 2 cG.nd (aH bB (aH bB (pv 2) (iY (j9 Z) T.yd Boot.«max» (ag (cJ aY (cJ aP (pv 4) ae) ae) (aF (cJ aY (cJ aP (pv 4) ae) ae))))) ae)))) (ah (eL 2 cG.nd (aH bB (pv 2) ae))))))))))) (ah (aB (ba (ag (pv 1) (aF (pv 2))))))))),?_⟩;refine⟨_,Z,a,t,Z,Mr (jZ _ _ ha),?_⟩;refine mF (K:=K) (t:=t) (a:=a) (xs:=vs) (λj σ H' =>∃(x3 x4:Option V),σ=[some (.ref a),some (nI ((s.l.take j).map yL).sum),some (nI ((s.l.take j).map yC).sum),x3,x4]/\ai H H') ⟨_,_,Z,ai.refl H⟩ (by rintro j σ H' _ ⟨_,_,_,sm⟩;exact sm _ _ (jZ _ _ ha)) ?_ ?_
  .rintro j x σ H' hx ⟨x3,x4,rfl,sm⟩
   obtain⟨d,ed,nj⟩:=gP hA hx;have dm:=bt ed;have jc:=fD ok d dm;have IS:=fu d dm;obtain⟨b,ks,xs,Ge,rfl,p0⟩:=dO nj jc;have h4:=cO p0.f;rw[aT,eV] at h4;have Tf:=iu p0.hy;refine⟨_,Z,H0,_,d,Z,jZ.trans sm,nj,jc,λt1 ys H1 o_ s1 hz hB=>⟨t1,Z,⟨_,bu.of hz⟩,?_⟩⟩;have bl:=iu hB;refine Kc (λ_=>true) (λi=>(d.bs.l.map λp=>csD p.2).getD i .none) (j4 (bu.of hz)).g (aL (show ys.length<=4 by lia) (by decide)) ?_ λil H2 wi Ze s2 yy MS Lq=> ?_
   .intro i y H3 C1 C0 hi s3 hy c1 c0;obtain⟨pp,ep,hp⟩:=gQ hB hy;have pm:=bt ep;have t_:=fh (g6 jc) pp pm;have Ak:=fk pp pm;rw[<-iw] at Ak
    have ec:(d.bs.l.map λp=>csD p.2).getD i .none=csD pp.2:=by
     rw[eQ,bG,ep];rfl
    refine⟨(fU.refl _).own (by decide),_,Z,H0,y,pp.1,pp.2,Z,((jZ.trans sm).trans s1).trans s3,hp,t_,by lia,λt2 H4 _ s4 td=>c1 Z _ H4 s4 ?_⟩;rw[ec];exact .tup td (.cons (.int _) (.cons (.int _) .nil))
   .rw[gD.mpr (λ_ _=>rfl),bl,show d.bs.l.length=(d.bs.l.map λp=>csD p.2).length by rw[aG],vN] at MS;have HE:=(sm.trans s1).trans s2;have v_:H2 b=some (.tup (.str d.wd::(xs++Ge))):=HE _ _ (jZ _ _ p0.e);have hx0:=p0.hx;have tw:=uw yL ed;have tl:=uw yC ed;generalize ((s.l.take j).map yL).sum=wA at tw ⊢;generalize ((s.l.take j).map yC).sum=lA at tl ⊢;rw[tw,tl]
    cases jae jc with
    |ei t' b' u c=>
     simp only[Dd.bs,Bs.l,eG,n5] at MS
     cases MS with
     |cons i1 r=>
      cases r with
      |cons i2 r=>
       cases r;obtain⟨q1,rfl,g1⟩:=JI i1;obtain⟨q2,rfl,g2⟩:=JI i2;refine⟨_,Z,b,_,0,_,Z,Z,bu.of v_,iZ _ _,Z,_,Z,g7 (cw (show("either" :Str)≠ "frame" by decide+kernel)) ⟨_,Z,b,_,0,_,Z,Z,bu.of v_,iZ _ _,Z,_,Z,g7 (cw (show("either" :Str)≠ "turns" by decide+kernel)) ⟨_,Z,b,_,0,_,Z,Z,bu.of v_,iZ _ _,Z,_,Z,Wp ?_⟩⟩⟩;have mx:∀x y:Nat,((max x (max y 0):Nat):Int)=if(y:Int)>(x:Int) then(y:Int) else(x:Int):=λx y=>by split<;>lia
       refine⟨_,Z,_,Z,il,_,0,_,Z,Z,bq.of yy,Z,q1,_,0,_,Z,Z,bu.of g1,Z,_,Z,il,_,1,_,Z,Z,bq.of yy,Z,q2,_,0,_,Z,Z,bu.of g2,Z,_,_,Z,_,_,Z,Z,_,1,Z,Z,?_⟩;refine⟨_,Z,_,Z,il,_,0,_,Z,Z,bq.of yy,Z,q1,_,1,_,Z,Z,bu.of g1,Z,_,Z,il,_,1,_,Z,Z,bq.of yy,Z,q2,_,1,_,Z,Z,bu.of g2,Z,_,_,Z,_,_,Z,Z,_,1,Z,Z,some (.ref b),some (.ref il),?_,HE⟩;rw[yL,yC,ay Z,ay Z,rT,rT,rT,tD,tD,tD]
       have z1:nI (wA+(1+qy [hJ b',hJ c]))= .int ((wA:Int)+(if((hJ c:Nat):Int)>((hJ b' :Nat):Int) then((hJ c:Nat):Int) else((hJ b' :Nat):Int))+1):=by
        rw[<-mx];show V.int ((wA+(1+max (hJ b') (max (hJ c) 0)):Nat):Int)=_
        congr 1
        lia
       have z2:nI (lA+(1+qy [hU b',hU c]))= .int ((lA:Int)+(if((hU c:Nat):Int)>((hU b' :Nat):Int) then((hU c:Nat):Int) else((hU b' :Nat):Int))+1):=by
        rw[<-mx];show V.int ((lA+(1+max (hU b') (max (hU c) 0)):Nat):Int)=_
        congr 1
        lia
       rw[z1,z2];rfl
    |tu l m n' t' b' hl hg m1 m3 n0 n4=>
     simp only[Dd.bs,Bs.l,eG,n5] at MS;obtain⟨x1,x2,rfl⟩:=Rr hx0
     cases MS with
     |cons i1 r=>
      cases r;obtain⟨q1,rfl,g1⟩:=JI i1;refine⟨_,Z,b,_,0,_,Z,Z,bu.of v_,iZ _ _,Z,_,Z,g7 (cw (show("turns" :Str)≠ "frame" by decide+kernel)) ⟨_,Z,b,_,0,_,Z,Z,bu.of v_,iZ _ _,Z,_,Z,Wp ?_⟩⟩;refine⟨_,Z,_,Z,b,_,3,_,Z,Z,bu.of v_,bA (j:=3) Z,_,Z,il,_,0,_,Z,Z,bq.of yy,Z,q1,_,0,_,Z,Z,bu.of g1,Z,n',_,Z,Z,.inl ⟨by lia,by lia⟩,_,_,Z,Z,?_⟩;refine⟨_,Z,_,Z,b,_,3,_,Z,Z,bu.of v_,bA (j:=3) Z,_,Z,il,_,0,_,Z,Z,bq.of yy,Z,q1,_,1,_,Z,Z,bu.of g1,Z,_,1,Z,Z,n',_,Z,Z,.inl ⟨by lia,by lia⟩,_,_,Z,Z,_,1,Z,Z,some (.ref b),some (.ref il),?_,HE⟩;rw[yL,yC,aq (by decide+kernel),ay Z,aq (by decide+kernel),ay Z,rT,rT,tD,tD]
      have z1:nI (wA+Y9 [.str l,.int m,.int n']*[hJ b'].headD 0)= .int ((wA:Int)+n' *((hJ b' :Nat):Int)):=by
       show V.int ((wA+n'.toNat*hJ b' :Nat):Int)=_;rw[rE,zM,zr n0]
      have z2:nI (lA+(Y9 [.str l,.int m,.int n']*(1+[hU b'].headD 0)+1))= .int ((lA:Int)+n' *(((hU b' :Nat):Int)+1)+1):=by
       show V.int ((lA+(n'.toNat*(1+hU b')+1):Nat):Int)=_;rw[rE,rE,zM,zr n0,rE,Int.add_comm ((1:Nat):Int),<-Int.add_assoc];rfl
      rw[z1,z2];rfl
    |fr l t' b' hl hg=>
     simp only[Dd.bs,Bs.l,eG,n5] at MS
     cases MS with
     |cons i1 r=>
      cases r;obtain⟨q1,rfl,g1⟩:=JI i1;refine⟨_,Z,b,_,0,_,Z,Z,bu.of v_,iZ _ _,Z,_,Z,Wp ?_⟩;refine⟨_,Z,_,Z,il,_,0,_,Z,Z,bq.of yy,Z,q1,_,0,_,Z,Z,bu.of g1,Z,_,_,Z,Z,_,Z,_,Z,il,_,0,_,Z,Z,bq.of yy,Z,q1,_,1,_,Z,Z,bu.of g1,Z,_,_,Z,Z,_,2,Z,Z,_,_,Z,some (.ref b),some (.ref il),?_,HE⟩;rw[yL,yC,aq (by decide+kernel),aq (by decide+kernel),aq (by decide+kernel),aq (by decide+kernel),ay Z,rT,rT,tD,tD]
      have z2:nI (lA+(1+[hU b'].headD 0+1))= .int ((lA:Int)+((hU b' :Nat):Int)+2):=by
       show V.int ((lA+(1+hU b' +1):Nat):Int)=_
       congr 1
       lia
      have z1:nI (wA+[hJ b'].sum)= .int ((wA:Int)+((hJ b' :Nat):Int)):=by
       show V.int ((wA+(hJ b' +0):Nat):Int)=_
       congr 1
      rw[z1,z2];rfl
    |sm w ks ps f h n1 n2 n3=>
     refine⟨_,Z,b,_,0,_,Z,Z,bu.of v_,iZ _ _,Z,_,Z,g7 (cw n3) ⟨_,Z,b,_,0,_,Z,Z,bu.of v_,iZ _ _,Z,_,Z,g7 (cw n2) ⟨_,Z,b,_,0,_,Z,Z,bu.of v_,iZ _ _,Z,_,Z,g7 (cw n1) ?_⟩⟩⟩;refine⟨_,Z,_,1,Z,Z,some (.ref b),some (.ref il),?_,HE⟩;rw[yL,yC,aq n1,aq n2,aq n1,aq n2,aq n3,rT];rfl
  .rintro σ H' ⟨x3,x4,rfl,sm⟩
   refine⟨_,Z,_,Z,fT,λtt zQ=>q tt _ (sm.free zQ) (sm.trans (ai.upd zQ)) ?_⟩;rw[aa,vl,lh,<-Jb,<-Ji]
abbrev LR:=(Dd×aj)×Nat
mutual
noncomputable def HF:Dd->aj->Nat->List LR
 | .mk w ps bs,ar,k=>((.mk w ps bs,ar),k)::IV bs (nU (.mk w ps bs) ar) (k+1)
noncomputable def tX:Ds->aj->Nat->List LR
 | .nil,_,_=>[]
 | .cons d r,ar,k=>HF d ar k++tX r ar k
noncomputable def IV:Bs->aj->Nat->List LR
 | .nil,_,_=>[]
 | .cons _ b r,ar,k=>tX b ar k++IV r ar k
end
theorem IA(ar:aj)(k:Nat):∀s:Ds,tX s ar k=s.l.flatMap λd=>HF d ar k
 | .nil=>by rw[tX];rfl
 | .cons d r=>by rw[tX,IA ar k r];rfl
theorem NX(ar:aj)(k:Nat):∀b:Bs,IV b ar k=b.l.flatMap λp=>tX p.2 ar k
 | .nil=>by rw[IV];rfl
 | .cons t b r=>by rw[IV,NX ar k r];rfl
theorem Nc(d:Dd)(ar:aj)(k:Nat):HF d ar k=((d,ar),k)::d.bs.l.flatMap λp=>tX p.2 (nU d ar) (k+1):=by
 cases d with
 |mk w ps bs=>rw[HF,NX];rfl
mutual
theorem Et:∀(d:Dd) (ar:aj) (k:Nat),(HF d ar k).length=1+lG d
 | .mk w ps bs,ar,k=>by rw[HF,aZ,J6 bs,lG];lia
theorem lX:∀(s:Ds) (ar:aj) (k:Nat),(tX s ar k).length=dF s
 | .nil,ar,k=>by rw[tX,dF];rfl
 | .cons d r,ar,k=>by rw[tX,aT,Et d,lX r,dF]
theorem J6:∀(b:Bs) (ar:aj) (k:Nat),(IV b ar k).length=l6 b
 | .nil,ar,k=>by rw[IV,l6];rfl
 | .cons t b r,ar,k=>by rw[IV,aT,lX b,J6 r,l6]
end
def XZ(N:Y'->Prop)(H0 H:Hp)(v:V)(r:LR):Prop:=∃t x u,v= .ref t/\H t=some (.tup [x,.ref u,nI r.2])/\Dat H0 x (dD r.1.1)/\N u/\H u=some (.lst (r.1.2.map V.str))
structure gG(N:Y'->Prop)(H0 H:Hp)(zs:ak)(rs:List LR):Prop where
 len:zs.length=rs.length
 at_:∀(i:Nat) v,zs[i]? =some v->∃r,rs[i]? =some r/\XZ N H0 H v r
theorem gG.same{N:Y'->Prop}{H0 H H' :Hp}{zs:ak}{rs:List LR}(h:gG N H0 H zs rs)(s:ai H H'):gG N H0 H' zs rs:=⟨h.len,λi v e=>by
 obtain⟨r,e1,t,x,u,f1,f2,f3,f4,f5⟩:=h.at_ i v e;exact⟨r,e1,t,x,u,f1,s _ _ f2,f3,f4,s _ _ f5⟩⟩
theorem gG.upd{N:Y'->Prop}{H0 H:Hp}{zs ws:ak}{rs:List LR}{fl:Y'}{o:HO}(h:gG N H0 H zs rs)(hn:¬N fl)(hf:H fl=some (.lst ws)):gG N H0 (upd H fl o) zs rs:=⟨h.len,λi v e=>by
 obtain⟨r,e1,t,x,u,f1,f2,f3,f4,f5⟩:=h.at_ i v e;refine⟨r,e1,t,x,u,f1,?_,f3,f4,?_⟩
 .rw[au (b8 f2 hf (λz=>nomatch z))];exact f2
 .rw[au (λz:u=fl=>hn (z▸f4))];exact f5⟩
theorem gG.imp{N N' :Y'->Prop}{H0 H:Hp}{zs:ak}{rs:List LR}(h:gG N H0 H zs rs)(i:∀c,N c->N' c):gG N' H0 H zs rs:=⟨h.len,λj v e=>by
 obtain⟨r,e1,t,x,u,f1,f2,f3,f4,f5⟩:=h.at_ j v e;exact⟨r,e1,t,x,u,f1,f2,f3,i u f4,f5⟩⟩
theorem gG.nil{N:Y'->Prop}{H0 H:Hp}:gG N H0 H [] []:=⟨Z,λi v e=>by cases e⟩
theorem gG.app{N:Y'->Prop}{H0 H:Hp}{zs ws:ak}{rs qs:List LR}(h:gG N H0 H zs rs)(g:gG N H0 H ws qs):gG N H0 H (zs++ws) (rs++qs):=⟨by rw[aT,aT,h.len,g.len],λi v e=>by
 have hl:=h.len;by_cases hi:i<zs.length
 .rw[fz hi] at e;rw[fz (by lia)];exact h.at_ i v e
 .rw[gS (by lia)] at e;rw[gS (by lia),<-hl];exact g.at_ _ v e⟩
theorem gG.one{N:Y'->Prop}{H0 H:Hp}{v:V}{r:LR}(h:XZ N H0 H v r):gG N H0 H [v] [r]:=⟨Z,λi w e=>by
 cases i with
 |zero=>cases e;exact⟨r,Z,h⟩
 |succ i=>cases e⟩
theorem Dn(w:Str):yY (.str w) [.str "frame",.str "turns"]=dN w:=by
 have:=ng w ["frame","turns"];rw[show(["frame","turns"]:aj).map V.str=[V.str "frame",.str "turns"] from Z] at this;rw[this];unfold dN;rw[km];simp
def Lx(n:Nat):Sp:=λvs H Q _=>∃H0 v t s u ar k,vs=[v,.ref u,nI k]/\ai H0 H/\Dat H0 v (iR t (sL s))/\fR s/\dq s<n/\H u=some (.lst (ar.map V.str))/\dF s<=1000/\ar.length+dq s<1000/\
 ∀l zs H',H l=none->ai H H'->H' l=some (.lst zs)->gG (λc=>c=u\/(H c=none/\c≠l)) H0 H' zs (tX s ar k)->Q (.ref l) H'
theorem qC(T:Txt K mg A)(n:Nat):aQ P w K mg base cY (1+n) A.si A.sx ["_law_body_here","_law_around","_law_down"] (Lx n):=by
 induction n with
 |zero=>exact eT (by rintro vs H Q E ⟨H0,v,t,s,u,ar,k,_,_,_,_,h,_⟩;exact g_ _ h)
 |succ n ih=>
 show aQ P w K mg base cY ((1+n)+1) _ _ _ _;refine T.jk.F.ok f_ (λvs H Q E h=> ?_) (λcC Ar outer s0 H vs Q E hr h=> ?_)
 .obtain⟨H0,v,t,s,u,ar,k,rfl,_⟩:=h;rfl
 .obtain⟨H0,v,t,s,u,ar,k,rfl,yV,hd,ok,dp,hu,hmn,QM,q⟩:=h;obtain⟨a,vs,rfl,ha,hA⟩:=fP hd;have Vx:(1000:Nat)<=sizeLine:=by decide
  refine⟨_,(af (eL 3 f_.nd (a8 c_)) (af (yI (oP (pv 0)) (ie 4 f_.nd) (af (bj (cR dC F' G' cA (pv 3) (aF (ba (ag (pv 4) (ag (pv 1) (aF (pv 2)))))))) (af (eL 5 f_.nd (kE (jp iW (cJ aY (pv 4) ae) (ba (ag ax (aF ax)))) (aH i6 (a8 (aF (cJ aY (pv 4) ae))) (pv 1)) (pv 1))) (ah (yI (wU (cv (fX T) hr T.fJ aA (aF (pv 4)) (hj:=by lia))) (ie 6 f_.nd) (ah (bj (cR dC qt tO i7 (pv 3) (aF (cv ih hr T.jk aA (ag (pv 6) (ag (pv 5) (aF (aH bB (pv 2) ae)))) (hj:=by lia))))))))))) (ah (aB (pv 3))))),?_⟩;refine⟨jy,λfl lI=>⟨_,Z,a,t,Z,Mr (fW lI (ai.refl H) _ _ (yV _ _ ha)),?_⟩⟩
  have Y4:¬(fl=u\/(H fl=none/\fl≠fl)):=by
   rintro (z|⟨_,z⟩)
   .rw[z,hu] at lI;cases lI
   .exact z rfl
  refine mF (K:=K) (t:=t) (a:=a) (xs:=vs) (λi σ H' =>∃(x4 x5 x6:Option V) (zs:ak),σ=[some (.ref a),some (.ref u),some (nI k),some (.ref fl),x4,x5,x6]/\ai H H'/\H' fl=some (.lst zs)/\gG (λc=>c=u\/(H c=none/\c≠fl)) H0 H' zs ((s.l.take i).flatMap λd=>HF d ar k)) ⟨_,_,_,[],Z,fW lI (ai.refl H),aa,.nil⟩ (by rintro i σ H' _ ⟨_,_,_,_,_,sm,_⟩;exact sm _ _ (yV _ _ ha)) ?_ ?_
  .rintro i x σ H' hx ⟨x4,x5,x6,zs,rfl,sm,jR,R⟩
   obtain⟨d,ed,nj⟩:=gP hA hx;have dm:=bt ed;have jc:=fD ok d dm;have IS:=fu d dm;have P6:=iy d dm;have tl:=fq (λd=>HF d ar k) s.l (i+1);rw[<-IA,lX,dI (λd=>HF d ar k) ed,aT,Et,<-R.len] at tl;obtain⟨b,ks,xs,Ge,rfl,p0⟩:=dO nj jc;refine⟨_,Z,zx jR,_,Z,_,Z,_,Z,sY,λt1 o_=>⟨fl,zs,.ref t1,Z,Z,(ai.upd o_) _ _ jR,by lia,?_⟩⟩;have abQ :=(ai.upd (o:= .tup [V.ref b,.ref u,nI k]) o_) _ _ jR;have s1:ai H (upd (upd H' t1 (.tup [.ref b,.ref u,nI k])) fl (.lst (zs++[.ref t1]))):=fW lI (sm.trans (ai.upd o_));have mX:upd (upd H' t1 (.tup [.ref b,.ref u,nI k])) fl (.lst (zs++[.ref t1])) fl=some (.lst (zs++[.ref t1])):=aa;have row:XZ (λc=>c=u\/(H c=none/\c≠fl)) H0 (upd H' t1 (.tup [.ref b,.ref u,nI k])) (.ref t1) ((d,ar),k):=⟨t1,.ref b,u,Z,aa,nj,.inl Z,ai.upd o_ _ _ (sm _ _ hu)⟩
   have R2:gG (λc=>c=u\/(H c=none/\c≠fl)) H0 (upd (upd H' t1 (.tup [.ref b,.ref u,nI k])) fl (.lst (zs++[.ref t1]))) (zs++[.ref t1]) (((s.l.take i).flatMap λd=>HF d ar k)++[((d,ar),k)]):=
    ((R.same (ai.upd o_)).app (.one row)).upd Y4 abQ
   generalize upd (upd H' t1 (.tup [.ref b,.ref u,nI k])) fl (.lst (zs++[.ref t1]))=H2 at s1 mX R2 ⊢;have p:=p0.same (yV.trans s1)
   have Ze:(nU d ar).length<=ar.length+1:=by
    unfold nU
    split
    .exact aJ _
    .exact nT _
   refine⟨_,Z,b,_,0,_,Z,Z,bu.of p.e,iZ _ _,fT,λt2 vR=> ?_⟩;have u2:=ai.upd (o:= .tup [V.str "frame",.str "turns"]) vR;refine⟨t2,_,Z,.inr (bu.of aa),Z,Z,_,Z,?_⟩;show if yY (V.str d.wd) [.str "frame",.str "turns"]=true then _ else _
   rw[Dn];generalize upd H2 t2 (.tup [V.str "frame",.str "turns"])=Hb at u2 ⊢;apply jau (c:=dN d.wd) (G:=λu' H3=>ai H2 H3/\H3 u' =some (.lst ((nU d ar).map V.str))/\(u' =u\/(H u' =none/\u'≠fl)))
   .intro hb k;obtain⟨Mq,CT⟩:=p0.iM hb;have pe:=p.e;rw[CT] at pe;refine⟨_,Z,b,_,1,_,Z,Z,bu.of (u2 _ _ pe),bA (j:=1) Z,ki,λt3 pf=>⟨_,Z,t3,u,_,_,Z,Z,aa,ai.upd pf _ _ (u2 _ _ (s1 _ _ hu)),?_,λu' PR=> ?_⟩⟩
    .rw[aG];show 1+ar.length<=_
     lia
    have s3:=(u2.trans (ai.upd (o:= .lst [V.str (iM d)]) pf)).trans (ai.upd (o:= .lst ([V.str (iM d)]++ar.map V.str)) PR)
    have hN:u' =u\/(H u' =none/\u'≠fl):=by
     have z:=(u2.trans (ai.upd (o:= .lst [V.str (iM d)]) pf)).free PR;exact .inr ⟨s1.free z,λz' =>by rw[z',mX] at z;cases z⟩
    have Qb:upd (upd Hb t3 (.lst [V.str (iM d)])) u' (.lst ([V.str (iM d)]++ar.map V.str)) u' =some (.lst ((nU d ar).map V.str)):=by
     rw[aa];unfold nU;rw[hb];rfl
    generalize upd (upd Hb t3 (.lst [V.str (iM d)])) u' (.lst ([V.str (iM d)]++ar.map V.str))=H3 at s3 Qb ⊢;exact k u' H3 ⟨s3,Qb,hN⟩
   .intro hb k;refine⟨_,Z,k u Hb ⟨u2,?_,.inl Z⟩⟩;unfold nU;rw[hb];exact u2 _ _ (s1 _ _ hu)
   .rintro u' H3 ⟨s3,Qb,hN⟩
    refine⟨_,Z,H0,_,d,Z,(yV.trans s1).trans s3,nj,jc,λl ys H4 ZF s4 hz hB=>⟨l,Z,⟨_,bu.of hz⟩,?_⟩⟩;have Cd:=s4 _ _ (s3 _ _ mX);have Ld:l≠fl:=(aw (s3 _ _ mX) ZF).symm;refine KG (K:=K) (a:=l) (xs:=ys) (λj σ H5=>∃(x6:Option V) (CA :ak),σ=[some (.ref a),some (.ref u),some (nI k),some (.ref fl),some (.ref b),some (.ref u'),x6]/\Kept fl H4 H5/\H5 fl=some (.lst CA)/\gG (λc=>c=u\/(H c=none/\c≠fl)) H0 H5 CA (((s.l.take i).flatMap λd=>HF d ar k)++((d,ar),k)::(d.bs.l.take j).flatMap λp=>tX p.2 (nU d ar) (k+1))) ⟨x6,_,Z,Kept.refl _ _,Cd,R2.same (s3.trans s4)⟩ (by rintro i σ H' _ ⟨_,_,_,k,_⟩;exact bu.of (k _ _ Ld hz)) ?_ ?_
    .rintro j y σ H5 hy ⟨x6,CA,rfl,k5,lH,R5⟩
     obtain⟨pp,ep,hp⟩:=gQ hB hy;have pm:=bt ep;have t_:=fh (g6 jc) pp pm;have Ak:=fk pp pm;have HR:=iz pp pm;rw[<-iw] at Ak;rw[<-oC] at HR;have P9:=fq (λp:Bool×Ds=>tX p.2 (nU d ar) (k+1)) d.bs.l (j+1);have ll:=Et d ar k;rw[Nc,aZ] at ll;rw[dI (λp:Bool×Ds=>tX p.2 (nU d ar) (k+1)) ep,aT,lX] at P9;have r5l:=R5.len;rw[aT,aZ,<-R.len] at r5l;have SH5:ai H H5:=λc o e=>k5 c o (aw e lI) (s4 _ _ (s3 _ _ (s1 _ _ e)));have hu5:H5 u' =some (.lst ((nU d ar).map V.str)):=k5 _ _ (λz=>Y4 (z▸hN)) (s4 _ _ Qb);refine⟨_,Z,zx lH,_,Z,_,Z,_,Z,_,1,Z,Z,H0,y,pp.1,pp.2,u',nU d ar,k+1,Z,yV.trans SH5,hp,t_,by lia,hu5,by lia,by lia,λl2 Zn H6 lK s6 hz6 R6=>⟨fl,l2,CA,Zn,Z,Z,s6 _ _ lH,hz6,?_,some y,CA ++Zn,Z,?_,aa,?_⟩⟩
     .have:=R6.len;rw[lX] at this
      lia
     .exact λc o hc e=>by
       rw[au hc];exact s6 _ _ (k5 c o hc e)
     .rw[dI (λp:Bool×Ds=>tX p.2 (nU d ar) (k+1)) ep,<-oo,<-dv];refine((R5.same s6).app (R6.imp λc hc=> ?_)).upd Y4 (s6 _ _ lH);rcases hc with rfl|⟨z1,z2⟩
      .exact hN
      .exact .inr ⟨SH5.free z1,λz=>by rw[z,lH] at z1;cases z1⟩
    .rintro σ H5 ⟨x6,CA,rfl,k5,lH,R5⟩
     refine⟨_,_,_,CA,Z,λc o e=>k5 c o (aw e lI) (s4 _ _ (s3 _ _ (s1 _ _ e))),lH,?_⟩;rw[iu hB,lh,<-Nc,<-dI (λd=>HF d ar k) ed] at R5;exact R5
  .rintro σ H' ⟨x4,x5,x6,zs,rfl,sm,jR,R⟩
   refine⟨_,Z,q fl zs H' lI sm jR ?_⟩;rw[qb hA,lh,<-IA] at R;exact R
theorem eB{n:Nat}(h:n<=100000):n<sizeLine:=gx h (by decide)
def Lt(x:Str):Prop:=∀c∈x.cps.toList,gn c=true
theorem Lt.app{x y:Str}(h:Lt x)(h' :Lt y):Lt (x++y):=by
 intro c hc;rcases mem_cps_append.mp hc with hc|hc
 .exact h c hc
 .exact h' c hc
theorem Lt.slice{x:Str}(h:Lt x)(l u:Option Int):Lt (Txt.slice x l u):=by
 intro c hc;unfold Txt.slice at hc
 split at hc
 .exact h c hc
 .rw[Eg] at hc;obtain⟨i,_,hi⟩:=uL.mp hc;exact h c (Array.mem_toList_iff.mpr (Array.mem_of_getElem? hi))
theorem Lt.one{c:Nat}(h:gn c=true):Lt ⟨#[c]⟩:=by
 intro d hd;have hd:d∈[c]:=hd;rw[fB.mp hd];exact h
theorem Lt.name{x:Str}(h:Lt x)(h1:1<=x.length)(h6:x.length<=6):ck x=true:=by
 unfold ck;rw[aU h1,aU h6,bS.mpr h];rfl
theorem iD{x:Str}{j:Nat}(h:j<=x.length):(Txt.slice x none (some (j:Int))).length=j:=by
 have hl:x.cps.toList.length=x.length:=rfl;rw[rD.mp (slice_closes_toL (x:=x) (j:=(j:Int)) (by lia) (by lia))];show(((x.cps.toList.drop (0:Int).toNat).take ((j:Int) - 0).toNat).toArray).size=j;rw[bC,oE,nS];have e1:((j:Int) - 0).toNat=j:=by lia
 have e2:(0:Int).toNat=0:=rfl;rw[e1,e2]
 lia
theorem qm{x:Str}{j:Nat}(h:j<=x.length):(Txt.slice x (some (j:Int)) none).length=x.length - j:=by
 have hl:x.cps.toList.length=x.length:=rfl;rw[slice_from_eq (x:=x) (i:=(j:Int)) (b:=x.length) (by lia) (by lia) Z];show(((x.cps.toList.drop (j:Int).toNat).take ((x.length:Int) - (j:Int)).toNat).toArray).size=x.length - j;rw[bC,oE,nS];have e1:((x.length:Int) - (j:Int)).toNat=x.length - j:=by lia
 have e2:(j:Int).toNat=j:=by lia
 rw[e1,e2]
 lia
theorem nF{p:Str->Prop}:∀{ys:ak},(∀v∈ys,∃x,v= .str x/\p x)->∃xs:aj,ys=xs.map V.str/\∀x∈xs,p x
 |[],_=>⟨[],Z,λx hx=>by cases hx⟩
 |v::r,h=>by
  obtain⟨x,rfl,hx⟩:=h v a9;obtain⟨xs,rfl,CT⟩:=nF (ys:=r) λu hu=>h u (a7 _ hu)
  exact⟨x::xs,Z,λy hy=>by
   rcases aN.mp hy with rfl|hy
   .exact hx
   .exact CT y hy⟩
theorem rf{H:Hp}{Q:VK}{i:Int}(h0:0<=i)(h1:i<26)(q:∀c,gn c=true->Q (.str ⟨#[c]⟩) H):ZI (.str "abcdefghijklmnopqrstuvwxyz") (.int i) H Q:=by
 obtain⟨j,rfl⟩:∃j:Nat,i=j:=⟨i.toNat,by lia⟩;have e:("abcdefghijklmnopqrstuvwxyz" :Str).cps.toList=(List.range 26).map (· +97):=by decide+kernel
 have hj:j<26:=by lia
 refine⟨_,_,j+97,Z,Z,by decide+kernel,?_,q _ ?_⟩
 .refine bA ?_;rw[e,bG,rg hj];rfl
 .unfold gn;rw[aU (by lia),aU (by lia)];rfl
section
variable{X:Cx}{c:aaa}{a b:List Stmt}{tc:TT}{t u:TS}{pos:Pos}
theorem _root_.L2.Gs:Gu X [] NG:=⟨aK⟩
theorem _root_.L2.NT(hc:PT X c tc)(ha:Gu X a t)(hb:Gu X b u):ZR X (.If c a b pos) (XT tc t u):=⟨a_ hc ha.h hb.h⟩
end
theorem mV{lo:Int}{n k m k0:Nat}{b:Y'}{js:List Nat}{g:TG}{te:TE}{σ:L2.St}{H:Hp}{Q:VK}(R:V->Prop)(hlen:n<=sizeLine)(B:di H b k0)
 (gI:∀(i:Nat) (H' :Hp) (C1:V->Hp->Prop),i<n->Kept b H H'->di H' b (k0+i*m)->(∀v gE,R v->di gE b (k0+i*m+m)->Kept b H' gE->C1 v gE)->
  g (.int (lo+i)) (yO k js σ) H' λkn H2=>fU (yO k js σ) kn/\te kn H2 C1)
 (hq:∀p H' ys,H p=none->Kept b H H'->di H' b (k0+n*m)->H' p=some (.lst ys)->ys.length=n->(∀v∈ys,R v)->Q (.ref p) H'):
 nh (YI lo n) k js g Rg te σ H Q:=by
 intro p hp;have hpb:p≠b:=B.ne hp
 refine⟨λi m' ys H' =>m' =n - i/\i<=n/\ys.length=i/\H' p=some (.lst ys)/\Kept b H H'/\di H' b (k0+i*m)/\∀v∈ys,R v,
  ⟨n,Z,bU _,Z,aa,(ai.upd hp).kept,by rw[Nat.zero_mul];exact B.same (ai.upd hp),λv e=>by cases e⟩,?_⟩
 rintro i m' ys H' ⟨rfl,hi,yH,hl,hs,hB,hE⟩
 refine⟨hl,?_⟩;by_cases jB:i<n
 .refine .inr ⟨jB,by lia,λx gE hy=> ?_⟩;obtain⟨rfl,rfl⟩:=hy;refine gI i _ _ jB hs hB λv H4 r4 B4 s4=> ?_;have Io:H4 p=some (.lst ys):=s4 _ _ hpb hl;refine⟨Io,n - (i+1),by lia,Z,jB,by simp[yH],aa,λc o hc e=> ?_,?_,λv' e=> ?_⟩
  .rw[au (aw e hp)];exact s4 _ _ hc (hs _ _ hc e)
  .obtain⟨x,y,z,hb,r⟩:=B4;refine⟨x,y,z,?_,?_⟩
   .rw[au (λz=>hpb z.symm)];exact hb
   .rw[show k0+(i+1)*m=k0+i*m+m by rw[Nat.succ_mul];lia];exact r
  .rcases cW.mp e with e|e
   .exact hE _ e
   .rw[fB.mp e];exact r4
 .have e:i=n:=by lia
  subst e;exact .inl ⟨aJ _,hq p H' ys hp hs hB hl yH hE⟩
theorem pH(x y:Str):(x++y).length=x.length+y.length:=by
 show(x.cps++y.cps).size=x.cps.size+y.cps.size;exact Array.size_append
theorem afn(c:Nat):Txt.mul ⟨#[c]⟩ 6=⟨#[c,c,c,c,c,c]⟩:=rfl
theorem Lt.six{c:Nat}(h:gn c=true):Lt ⟨#[c,c,c,c,c,c]⟩:=by
 intro d hd;have hd:d∈[c,c,c,c,c,c]:=hd;simp only[aN,cF,cH,or_self] at hd;rw[hd];exact h
theorem Lt.join{ts:aj}(h' :∀t∈ts,Lt t):Lt (Str.join "" ts):=by
 intro c hc;rcases(mem_join "" c ts).mp hc with⟨t,ht,hc⟩|⟨_,hc⟩
 .exact h' t ht c hc
 .have:c∈([]:List Nat):=hc;cases this
noncomputable def AI:ak:=[.str "in",.str "or",.str "end",.str "make",.str "frame",.str "ground",.str "none",.str "turns",.str "put",.str "hand",.str "room"]
theorem OT:∀x∈AI,∃s,x= .str s/\ck s=true:=by
 intro x hx;simp only[AI,aN,cF,cH] at hx
 rcases hx with rfl|rfl|rfl|rfl|rfl|rfl|rfl|rfl|rfl|rfl|rfl<;>exact⟨_,rfl,by decide+kernel⟩
def M1:Sp:=λvs H Q _=>∃(b:Y') (n k:Nat),vs=[.ref b,.int n]/\di H b k/\k+12<=100000/\n<=12/\∀l (xs:aj) H',H l=none->xs.length=n->(∀x∈xs,ck x=true)->H' l=some (.lst (xs.map V.str))->di H' b (k+12)->Kept b H H'->Q (.ref l) H'
theorem sI(T:Txt K mg A):aQ P w K mg base cY 2 A.ue A.uK ["_law_box_here","_law_many"] M1:=by
 refine T.om.F.okN cU ?_
 rintro cC Ar outer s H vs Q E hr ⟨b,n,k,rfl,B,hk,hn,q⟩
 have hu:=abL hr;refine⟨_,(eW ⟨(eL 2 cU.nd ax)⟩ (eW ⟨(eL 3 cU.nd (cv (aI T) hr T.aO aA (ag (pv 0) (aF ae))))⟩ (eW ⟨(eL 4 cU.nd (cv (aI T) hr T.aO aA (ag (pv 0) (aF ae))))⟩ (eW ⟨(eL 5 cU.nd (cJ aP (a8 (ag ae (ag ae (ag ae (ag ae (ag ae (aF ae))))))) (cv (aI T) hr T.aO aA (ag (pv 0) (aF ae)))))⟩ (eW (NT (jp cM (pv 3) ae) (eW (Q4 (i:=6) cU.nd Z (Or.inr Z) (zJ (gb (λ_ _=>rfl) ax (gb (λ_ _=>rfl) ax (gb (λ_ _=>rfl) ax (gb (λ_ _=>rfl) ax (gb (λ_ _=>rfl) ax (gb (λ_ _=>rfl) ax (gb (λ_ _=>rfl) ax (gb (λ_ _=>rfl) ax (gb (λ_ _=>rfl) ax (gb (λ_ _=>rfl) ax (gb (λ_ _=>rfl) ax gL)))))))))))) (by kernel_rfl) (Or.inl Z)) (vX ⟨(aB (L9 ["_law_k","_law_words","_law_first","_law_step"] 1 [6,4,5] (h_ Z T.lL (aF (pv 1))) (λ_ _ _ _ _=>⟨(ie 0 (show(["_law_k","_law_words","_law_first","_law_step"]:aj).Nodup by decide+kernel)),pD,(cJ (OB (K:=K) Z) (pv 1) (aH nR (aH bB (pv 2) (aH my (aH nR (pv 3) ae) (pv 0))) ae))⟩)))⟩)) Gs) (eW ⟨(eL 7 cU.nd (cR jD qk qo l_ ax (aF (L9 ["_law_k","_law_letters","_law_box_here"] 1 [2,0] (h_ Z T.lL (aF (cv (aI T) hr T.aO aA (ag (pv 0) (aF ae))))) (λ_ _ _ _ _=>⟨(ie 0 (show(["_law_k","_law_letters","_law_box_here"]:aj).Nodup by decide+kernel)),pD,(cJ HX (pv 1) (cv (aI T) hr T.aO aA (ag (pv 2) (aF ae))))⟩)))))⟩ (eW ⟨(eL 8 cU.nd (cv (aI T) hr T.aO aA (ag (pv 0) (aF (aH bB (iY ix T.dY Boot.«len» (aF (pv 7))) ae)))))⟩ (eW (NT (PW.pt (wv (jp cM (pv 3) ae) (ww (jp DF (pv 1) ae)))) (eW ⟨(eL 9 cU.nd (dj Bk (aH fw (pv 7) (aH Im (cJ HX (pv 2) (pv 4)) ae)) fj (eA ae)))⟩ (vX ⟨(aB (L9 ["_law_k","_law_whole","_law_first"] 1 [9,4] (h_ Z T.lL (aF (pv 1))) (λ_ _ _ _ _=>⟨(ie 0 (show(["_law_k","_law_whole","_law_first"]:aj).Nodup by decide+kernel)),pD,(dj Bk (pv 1) fj (eA (aH bB ae (aH nR (aH bB (pv 2) (pv 0)) ae))))⟩)))⟩)) Gs) (vX ⟨(aB (L9 ["_law_k","_law_stem","_law_letters","_law_at","_law_first","_law_step"] 1 [7,2,8,4,5] (h_ Z T.lL (aF (pv 1))) (λ_ _ _ _ _=>⟨(ie 0 (show(["_law_k","_law_stem","_law_letters","_law_at","_law_first","_law_step"]:aj).Nodup by decide+kernel)),pD,(aH fw (aH fw (dj Bk (pv 1) fj (eA (pv 3))) (cJ HX (pv 2) (aH nR (aH bB (pv 4) (aH my (pv 5) (pv 0))) ae))) (dj Bk (pv 1) (eA (pv 3)) fj))⟩)))⟩))))))))),?_⟩;refine⟨_,Z,b,3,k,Z,B,by lia,by decide,by decide,λway H1 w0 w1 B1 O1=> ?_⟩;refine⟨_,Z,b,26,k+1,Z,B1,by lia,by decide,by decide,λfirst H2 f0 f1 B2 O2=> ?_⟩;refine⟨aeH,λp hp=> ?_⟩;have s3:=ai.upd (o:= .lst [V.int 1,V.int 3,V.int 5,V.int 7,V.int 9,V.int 11]) hp;have e3:upd H2 p (.lst [V.int 1,V.int 3,V.int 5,V.int 7,V.int 9,V.int 11]) p=some (.lst [V.int 1,V.int 3,V.int 5,V.int 7,V.int 9,V.int 11]):=aa;generalize upd H2 p (.lst [V.int 1,V.int 3,V.int 5,V.int 7,V.int 9,V.int 11])=H3 at s3 e3;have npb:p≠b:=B2.ne hp;refine⟨_,Z,b,6,k+2,Z,B2.same s3,by lia,by decide,by decide,λr H4 r0 r1 B4 O4=> ?_⟩;refine gy (λv=>∃i:Int,v= .int i/\0<=i/\i<=11) (O4.kept _ _ npb e3) r0 r1 ?_ λv hv=> ?_
 .intro x hx;simp only[aN,cF,cH] at hx
  rcases hx with rfl|rfl|rfl|rfl|rfl|rfl<;>exact⟨_,rfl,by decide,by decide⟩
 obtain⟨step,rfl,st0,st1⟩:=hv;have K4:Kept b H H4:=((O1.kept.trans O2.kept).trans s3.kept).trans O4.kept
 have fr:∀{H' :Hp} {c:Y'} {k' :Nat},Kept b H H'->di H' b k'->H' c=none->H c=none:=λ{H' c k'} K' B' hc=>by
  cases e:H c with
  |none=>rfl
  |some o=>rw[K' _ o (B'.ne hc) e] at hc;cases hc
 refine⟨_,Z,Z,_,Z,?_⟩;refine sV (λ_=> ?_) (λ_=> ?_)
 .refine⟨aax,λwl Lq=> ?_⟩;have s5:=ai.upd (o:= .lst AI) Lq;have e5:upd H4 wl (.lst AI) wl=some (.lst AI):=aa;have nwb:wl≠b:=B4.ne Lq;refine⟨_,Z,_,Z,by lia,by lia,?_⟩;rw[mD];refine mV (m:=0) (k0:=k+3) (λv=>∃x,v= .str x/\ck x=true) (cV (eB (by lia))) (B4.same s5) ?_ ?_
  .intro i H' C1 hi K' B' c1;refine⟨(fU.refl _).own (by decide),_,Z,_,Z,_,Z,step,10,Z,Z,(show(0:Int)<10 by decide),_,Z,_,_,Z,Z,?_,first,_,Z,Z,_,11,Z,Z,(show(0:Int)<11 by decide),?_⟩
   .exact .inl ⟨by lia,by lia⟩
   .refine gy (λv=>∃x,v= .str x/\ck x=true) (K' _ _ nwb e5) (nz _ (by decide)) (qW _ (by decide)) OT λv hv=>c1 v H' hv (B'.mono (by lia)) (Kept.refl b H')
  .intro pl H' ys jY K' B' Yd yH hR;obtain⟨xs,rfl,CT⟩:=nF hR;rw[aG] at yH;exact q pl xs H' (fr K4 B4 (s5.free jY)) yH CT Yd (B'.mono (by lia)) (K4.trans (s5.kept.trans K'))
 .refine⟨Z,_,Z,b,6,k+3,Z,B4,by lia,by decide,by decide,λcnt H5 c0 c1 B5 O5=> ?_⟩;obtain⟨c,rfl⟩:∃c:Nat,cnt=c:=⟨cnt.toNat,by lia⟩;refine⟨_,Z,by lia,by lia,?_⟩;rw[mD];have K5:Kept b H H5:=K4.trans O5.kept;refine mV (m:=1) (k0:=k+4) (λv=>∃x:Str,v= .str x/\x.length=1/\Lt x) (cV (eB (by lia))) B5 ?_ ?_
  .intro i H' C1 hi K' B' q1;refine⟨(fU.refl _).own (by decide),_,Z,_,Z,b,26,_,Z,B',by lia,by decide,by decide,λr H6 r0 r1 B6 O6=> ?_⟩;exact rf r0 r1 λch Dg=>q1 _ _ ⟨_,Z,Z,Lt.one Dg⟩ B6 O6.kept
  .intro pl H6 ys jY K6 B6 hp6 yH hR;obtain⟨xs,rfl,hx⟩:=nF hR;rw[aG] at yH;have he:(Str.ofString "").length=0:=by decide+kernel
   have hj:Builtin.Str.tooLong (xs.toArray.foldl (λa p=>a+p.length+(Str.ofString "").length) 0)=false:=PySem.StrLaws.joinFits (B:=1) (λy hy=>lP (hx y hy).1) (by
    rw[he]
    lia)
   have hlen:(Txt.join (Str.ofString "") xs).length<=5:=by
    have h1:=J' (Str.ofString "") xs;have h2:=M' xs (B:=1) (λy hy=>lP (hx y hy).1);rw[he] at h1;show(Builtin.Str.glued _ xs).length<=5;rw[R']
    lia
   have MR:Lt (Txt.join (Str.ofString "") xs):=by
    show Lt (Builtin.Str.glued _ xs);rw[R'];exact Lt.join λt ht=>(hx t ht).2
   have K56:Kept b H H6:=K5.trans K6;refine⟨_,pl,xs,Z,Z,hp6,by unfold JoinOk;rw[hj];rfl,?_⟩;generalize Txt.join (Str.ofString "") xs=o7 at hlen MR;have hL:sizeLine=16777216:=by decide
   refine⟨_,Z,_,Z,o7,Z,by lia,(o7.length:Int),1,Z,Z,b,_,k+4+c*1,Z,B6,by lia,by lia,by lia,λat_ H7 a0 a1 B7 O7=> ?_⟩;obtain⟨at_,rfl⟩:∃j:Nat,at_=j:=⟨at_.toNat,by lia⟩;have ha:at_<=o7.length:=by lia
   have K7:Kept b H H7:=K56.trans O7.kept;refine⟨_,Z,Z,_,Z,?_⟩;refine sV (λ_=> ?_) (λ_=> ?_)
   .refine⟨_,Z,_,7,Z,Z,_,Z,?_⟩;by_cases h7:n<7
    .rw[aU (show(n:Int)<7 by lia)];refine cD ?_;refine⟨_,Z,_,Z,_,Z,rf f0 f1 λch Dg=> ?_⟩;have hmul:MulOk ⟨#[ch]⟩ 6:=⟨by decide,λ_ _=>by show ¬((1:Int)>(2 ^ 63 - 1) / 6);decide,λ_ _=>by show Builtin.Str.tooLong (1*6)=false;decide+kernel⟩;refine⟨⟨#[ch]⟩,6,Z,Z,hmul,?_⟩;rw[afn];have h6l:(⟨#[ch,ch,ch,ch,ch,ch]⟩:Str).length=6:=rfl;have Lq:(o7++⟨#[ch,ch,ch,ch,ch,ch]⟩).length=o7.length+6:=pH _ _;refine⟨o7,_,Z,Z,by lia,?_⟩;have hwo:Lt (o7++⟨#[ch,ch,ch,ch,ch,ch]⟩):=MR.app (Lt.six Dg);generalize o7++⟨#[ch,ch,ch,ch,ch,ch]⟩=whole at Lq hwo;refine⟨6,Z,whole,Z,by lia,?_⟩;have Za:=iD (x:=whole) (j:=6) (by lia);have hso:=hwo.slice none (some ((6:Nat):Int));have e6:((6:Nat):Int)=6:=rfl;rw[e6] at Za hso;generalize Txt.slice whole none (some 6)=wh at Za hso;refine⟨_,Z,_,Z,by lia,by lia,?_⟩;rw[mD];refine mV (m:=0) (k0:=k+4+c*1+1) (λv=>∃x,v= .str x/\ck x=true) (cV (eB (by lia))) B7 ?_ ?_
     .intro i H' C1 hi K' B' q1;refine⟨(fU.refl _).own (by decide),_,Z,_,Z,_,Z,first,_,Z,Z,_,6,Z,Z,(show(0:Int)<6 by decide),1,_,Z,Z,_,Z,wh,Z,by lia,?_⟩;obtain⟨j,hj⟩:∃j:Nat,1+(first+(0+(i:Int))) % 6=j:=⟨(1+(first+(0+(i:Int))) % 6).toNat,by lia⟩;rw[hj];exact q1 _ _ ⟨_,Z,(hso.slice none (some (j:Int))).name (by rw[iD (by lia)];lia) (by rw[iD (by lia)];lia)⟩ (B'.mono (by lia)) (Kept.refl b H')
     .intro pl H' ys jY K' B' Yd yH hR;obtain⟨xs,rfl,CT⟩:=nF hR;rw[aG] at yH;exact q pl xs H' (fr K7 B7 jY) yH CT Yd (B'.mono (by lia)) (K7.trans K')
    .rw[bf (show ¬(n:Int)<7 by lia)];refine cf ?_;refine⟨_,Z,_,Z,by lia,by lia,?_⟩;rw[mD];refine mV (m:=0) (k0:=k+4+c*1+1) (λv=>∃x,v= .str x/\ck x=true) (cV (eB (by lia))) B7 ?_ ?_
     .intro i H' C1 hi K' B' q1;have l1:=iD ha;have l2:=qm ha;have o1:=MR.slice none (some (at_:Int));have o2:=MR.slice (some (at_:Int)) none;refine⟨(fU.refl _).own (by decide),_,Z,_,Z,_,Z,o7,Z,by lia,?_⟩;refine⟨_,Z,_,Z,_,Z,_,Z,step,_,Z,Z,.inl ⟨by lia,by lia⟩,first,_,Z,Z,_,26,Z,Z,(show(0:Int)<26 by decide),rf (nz _ (by decide)) (qW _ (by decide)) λch Dg=> ?_⟩;have h1l:(⟨#[ch]⟩:Str).length=1:=rfl;have la:=pH (Txt.slice o7 none (some (at_:Int))) ⟨#[ch]⟩;refine⟨_,_,Z,Z,by lia,_,Z,_,Z,_,Z,o7,Z,by lia,?_⟩;have lb:=pH (Txt.slice o7 none (some (at_:Int))++⟨#[ch]⟩) (Txt.slice o7 (some (at_:Int)) none);refine⟨_,_,Z,Z,by lia,?_⟩;exact q1 _ _ ⟨_,Z,((o1.app (Lt.one Dg)).app o2).name (by lia) (by lia)⟩ (B'.mono (by lia)) (Kept.refl b H')
     .intro pl H' ys jY K' B' Yd yH hR;obtain⟨xs,rfl,CT⟩:=nF hR;rw[aG] at yH;exact q pl xs H' (fr K7 B7 jY) yH CT Yd (B'.mono (by lia)) (K7.trans K')
   .refine cf ?_;refine⟨_,Z,_,Z,by lia,by lia,?_⟩;rw[mD];refine mV (m:=0) (k0:=k+4+c*1+1) (λv=>∃x,v= .str x/\ck x=true) (cV (eB (by lia))) B7 ?_ ?_
    .intro i H' C1 hi K' B' q1;have l1:=iD ha;have l2:=qm ha;have o1:=MR.slice none (some (at_:Int));have o2:=MR.slice (some (at_:Int)) none;refine⟨(fU.refl _).own (by decide),_,Z,_,Z,_,Z,o7,Z,by lia,?_⟩;refine⟨_,Z,_,Z,_,Z,_,Z,step,_,Z,Z,.inl ⟨by lia,by lia⟩,first,_,Z,Z,_,26,Z,Z,(show(0:Int)<26 by decide),rf (nz _ (by decide)) (qW _ (by decide)) λch Dg=> ?_⟩;have h1l:(⟨#[ch]⟩:Str).length=1:=rfl;have la:=pH (Txt.slice o7 none (some (at_:Int))) ⟨#[ch]⟩;refine⟨_,_,Z,Z,by lia,_,Z,_,Z,_,Z,o7,Z,by lia,?_⟩;have lb:=pH (Txt.slice o7 none (some (at_:Int))++⟨#[ch]⟩) (Txt.slice o7 (some (at_:Int)) none);refine⟨_,_,Z,Z,by lia,?_⟩;exact q1 _ _ ⟨_,Z,((o1.app (Lt.one Dg)).app o2).name (by lia) (by lia)⟩ (B'.mono (by lia)) (Kept.refl b H')
    .intro pl H' ys jY K' B' Yd yH hR;obtain⟨xs,rfl,CT⟩:=nF hR;rw[aG] at yH;exact q pl xs H' (fr K7 B7 jY) yH CT Yd (B'.mono (by lia)) (K7.trans K')
theorem En:∀a b:List Nat,qy (a++b)=max (qy a) (qy b)
 |[],b=>by
  show qy b=max 0 (qy b)
  lia
 |x::r,b=>by
  show max x (qy (r++b))=max (max x (qy r)) (qy b);rw[En r b]
  lia
noncomputable def dn(r:LR):Nat:=if r.1.1.bs.l.isEmpty=true then 0 else r.2+1
mutual
theorem ael:∀(d:Dd) (ar:aj) (k:Nat),qy ((HF d ar k).map dn)=if mB d=0 then 0 else k+mB d
 | .mk w ps bs,ar,k=>by
  have h:=aaA bs (nU (.mk w ps bs) ar) (k+1);rw[HF,eG,mB];show max (dn ((.mk w ps bs,ar),k)) (qy _)=_
  cases bs with
  |nil=>
   rw[IV,nk];rfl
  |cons t b r=>
   have e:dn ((Dd.mk w ps (.cons t b r),ar),k)=k+1:=rfl;have p:1<=nk (.cons t b r):=by rw[nk];lia
   rw[e,h,aq (by lia)]
   lia
theorem Xl:∀(s:Ds) (ar:aj) (k:Nat),qy ((tX s ar k).map dn)=if dq s=0 then 0 else k+dq s
 | .nil,ar,k=>by rw[tX,dq];rfl
 | .cons d r,ar,k=>by
  rw[tX,cu,En,ael d,Xl r,dq]
  split<;>split<;>split<;>lia
theorem aaA:∀(b:Bs) (ar:aj) (k:Nat),max k (qy ((IV b ar k).map dn))=k+(nk b - 1)
 | .nil,ar,k=>by
  rw[IV,nk];show max k 0=k+(0 - 1)
  lia
 | .cons t b r,ar,k=>by
  have h:=aaA r ar k;rw[IV,cu,En,Xl b,nk]
  split<;>lia
end
noncomputable def gr(r:LR):Dd×aj:=(r.1.1,r.1.2++[("ground" :Str)])
theorem WQ(d:Dd)(ar:aj):nU d (ar++[("ground" :Str)])=nU d ar++[("ground" :Str)]:=by
 unfold nU
 split<;>rfl
mutual
theorem ae8:∀(d:Dd) (ar:aj) (k:Nat),BZ d (ar++[("ground" :Str)])=(HF d ar k).map gr
 | .mk w ps bs,ar,k=>by
  rw[BZ,HF,eG,WQ,abF bs _ (k+1)];rfl
theorem Rk:∀(s:Ds) (ar:aj) (k:Nat),lE s (ar++[("ground" :Str)])=(tX s ar k).map gr
 | .nil,ar,k=>by rw[lE,tX];rfl
 | .cons d r,ar,k=>by rw[lE,tX,cu,ae8 d ar k,Rk r ar k]
theorem abF:∀(b:Bs) (ar:aj) (k:Nat),CB b (ar++[("ground" :Str)])=(IV b ar k).map gr
 | .nil,ar,k=>by rw[CB,IV];rfl
 | .cons t b r,ar,k=>by rw[CB,IV,cu,Rk b ar k,abF r ar k]
end
theorem Z7{s:Ds}(ok:fR s)(k:Nat):∀r∈tX s [] k,ia r.1.1:=λr hr=>by
 have:=wI s ([]++[("ground" :Str)]) ok (gr r) (by rw[Rk s [] k];exact List.mem_map_of_mem hr);exact this
noncomputable def Rf.tag:Rf->Str
 | .many _=>"many"
 | .deep _=>"down"
 | .twice _=>"twice"
 | .oO _=>"label"
 | .wide _=>"wide"
 | .long _=>"long"
theorem YR{d:Dd}(ok:ia d)(h:dN d.wd=true):iM d≠ "ground":=by
 cases jae ok with
 |ei t b u c=>exact absurd h (by show ¬dN "either"=true;decide+kernel)
 |tu l m n t b hl hg _ _ _ _=>exact hg
 |fr l t b hl hg=>exact hg
 |sm w ks ps f hf n1 n2 n3=>
  have h:dN w=true:=h;unfold dN at h;rw[bf n3,bf n2] at h;cases h
def LA:Sp:=λvs H Q _=>∃v t s,vs=[v]/\Dat H v (iR t (sL s))/\fR s/\dq s<9/\dF s<=1000/\
 match dU s with
 |none=>∀H',ai H H'->Q .bV H'
 |some r=>∀t H',H t=none->ai H H'->H' t=some (.tup [.str r.tag,r.v])->Q (.ref t) H'
theorem yG(T:Txt K mg A):aQ P w K mg base cY 12 A.iF A.kS ["_law_body_here"] LA:=by
 refine T.pI.F.ok br (λvs H Q E h=> ?_) (λcC Ar outer s0 H vs Q E hr h=> ?_)
 .obtain⟨v,t,s,rfl,_⟩:=h;rfl
 .obtain⟨v,t,s,rfl,hd,ok,dp,hm,q⟩:=h
  have Zs:(mQ cY P w K mg base ["_law_body_here","_law_rows","_law_down","_law_deed","_law_around","_law_one","_law_asked","_law_done"] "_law_refusal" (ao kX) A.iF cC Ar outer s0 H E).Mt.A.units<cLine:=by
   have:=hr.un;show(Ar.deeper _).units<cLine;omega
  refine⟨_,(af (eL 1 br.nd (cv (qC T 9) hr T.jk aA (ag (pv 0) (ag (a8 c_) (aF ae))))) (af (eL 2 br.nd ae) (af (yI (fb (pv 1)) (nu Z (bJ (ie 3 br.nd) (bJ (ie 4 br.nd) (bJ (ie 5 br.nd) iq)))) (ah (a_ (jp (LS Zs) (cv (fX T) hr T.fJ aA (aF (pv 3))) (ba c_)) (ah (eL 2 br.nd (iY (j9 Z) T.yd Boot.«max» (ag (pv 2) (aF (aH bB (pv 5) ae)))))) aK))) (af (a_ (jp kR (iY aV T.dY Boot.«len» (aF (pv 1))) ae) (ah (aB (ba (ag ax (aF (iY aV T.dY Boot.«len» (aF (pv 1)))))))) aK) (af (a_ (jp kR (pv 2) ae) (ah (aB (ba (ag ax (aF (pv 2)))))) aK) (af (yI (fb (pv 1)) (nu Z (bJ (ie 3 br.nd) (bJ (ie 4 br.nd) (bJ (ie 5 br.nd) iq)))) (af (a_ (PW.pt (wv (jp iW (cJ aY (pv 3) ae) (ba (ag ax (aF ax)))) (ww (jp iW (cJ aY (pv 3) ae) (pv 4))))) (ah (aB (ba (ag ax (aF (cJ aY (pv 3) ae)))))) aK) (ah (a_ (PW.pt (wv (jp cM (cJ aY (pv 3) ae) ax) (wv (jp rF (cJ aY (pv 3) ae) eU) (wv (jp ou (cJ aY (pv 3) ae) (pv 4)) (ww (jp mN (cJ aY (pv 3) ae) ax)))))) (ah (aB (ba (ag ax (aF (cJ aY (pv 3) ae)))))) aK)))) (af (Fz (cv (vc T 9) hr T.ma aA (aF (pv 0))) (nu Z (bJ (ie 6 br.nd) (bJ (ie 7 br.nd) iq)))) (af (a_ (jp kR (pv 6) ae) (ah (aB (ba (ag ax (aF (pv 6)))))) aK) (ah (aB (kE (jp kR (pv 7) ae) (ba (ag ax (aF (pv 7)))) eU))))))))))),?_⟩;refine⟨_,Z,jy,λu hu=> ?_⟩;have su:=ai.upd (o:= .lst []) hu;refine⟨upd H u (.lst []),v,t,s,u,[],0,Z,ai.refl _,hd.same su,ok,dp,aa,hm,by show 0+_<_;lia,λl zs H1 hl s1 hz R=> ?_⟩;have sH1:=su.trans s1;have okr:=Z7 ok 0;have rl:=R.len;rw[lX] at rl;refine⟨_,Z,l,Z,⟨_,bq.of hz⟩,?_⟩;refine gJ (K:=K) (a:=l) (xs:=zs) (λi σ H' =>∃(x3 x4 x5:Option V),σ=[some v,some (.ref l),some (nI (qy (((tX s [] 0).take i).map dn))),x3,x4,x5,none,none]/\ai H1 H') ⟨_,_,_,Z,ai.refl H1⟩ (by rintro i σ H' _ ⟨_,_,_,_,sm⟩;exact bq.of (sm _ _ hz)) ?_ ?_
  .rintro i x σ H' hx ⟨x3,x4,x5,rfl,sm⟩
   obtain⟨⟨⟨d,ar⟩,k⟩,er,t1,y,u1,rfl,f1,f2,f3,f4⟩:=R.at_ i x hx;have jc:=okr _ (bt er);dsimp only at f2 f4 jc;refine⟨t1,_,Z,bu.of (sm _ _ f1),Z,_,_,Z,_,_,Z,_,_,Z,Z,?_⟩;refine⟨_,Z,upd H u (.lst []),y,d,Z,s1.trans sm,f2,jc,λt2 ys H2 vR s2 JJ hB=> ?_⟩;refine⟨jy,λt3 pf=>⟨t2,t3,ys,Z,Z,ai.upd pf _ _ JJ,aa,_,Z,?_⟩⟩;have s4:=s2.trans (ai.upd (o:= .tup []) pf);have tk:=Fi dn er
   have ye:ys.isEmpty=d.bs.l.isEmpty:=by
    have:=iu hB
    cases ys with
    |nil=>cases hh:d.bs.l with
     |nil=>rfl
     |cons _ _=>rw[hh] at this;cases this
    |cons _ _=>cases hh:d.bs.l with
     |nil=>rw[hh] at this;cases this
     |cons _ _=>rfl
   cases he:d.bs.l.isEmpty with
   |true=>
    rw[ye,he];have e0:dn ((d,ar),k)=0:=ay he;rw[e0,Nat.max_eq_left (bU _)] at tk;exact cf ⟨_,_,_,by rw[tk];rfl,sm.trans s4⟩
   |false=>
    rw[ye,he];have e0:dn ((d,ar),k)=k+1:=aq (by rw[he];decide);rw[e0] at tk;refine cD ⟨_,Z,_,Z,_,1,Z,Z,_,_,Z,some y,some (.ref u1),some (nI k),?_,sm.trans s4⟩
    have mx:∀x y:Nat,nI (max x (y+1))= .int (if((y:Int)+1)>(x:Int) then((y:Int)+1) else(x:Int)):=λx y=>by
     show V.int ((max x (y+1):Nat):Int)=_
     congr 1
     split<;>lia
    rw[tk,mx];rfl
  .rintro σ H2 ⟨x3,x4,x5,rfl,sm⟩
   have etk:(tX s [] 0).take zs.length=tX s [] 0:=gf (by rw[lX];lia)
   have dnE:qy ((tX s [] 0).map dn)=dq s:=by
    rw[Xl]
    split<;>lia
   rw[etk,dnE];have JJ:=sm _ _ hz;have HE:=sH1.trans sm
   have out:∀(r:Rf) (H3:Hp) (t3:Y'),dU s=some r->ai H2 H3->H3 t3=none->Q (.ref t3) (upd H3 t3 (.tup [.str r.tag,r.v])):=λr H3 t3 e s3 pf=>by
    rw[e] at q;exact q t3 _ ((HE.trans s3).free pf) ((HE.trans s3).trans (ai.upd pf)) aa
   refine⟨_,Z,l,zs,Z,.inl (bq.of JJ),_,40,Z,Z,_,Z,?_⟩;refine sV (λhk=> ?_) (λhk=> ?_)
   .have hk:=bo hk;refine⟨_,Z,l,zs,Z,.inl (bq.of JJ),fT,λt3 pf=> ?_⟩;have:=out (.many (dF s)) H2 t3 (by unfold dU lz;rw[ay (by lia)];rfl) (ai.refl _) pf;rw[show Rf.v (.many (dF s))=V.int (zs.length:Int) by rw[rl];rfl] at this;exact this
   .have hk1:¬(zs.length:Int)>40:=λz=>hk (aU z);refine⟨_,Z,_,6,Z,Z,_,Z,?_⟩;refine sV (λhk=> ?_) (λhk=> ?_)
    .have hk:=bo hk;exact⟨_,Z,fT,λt3 pf=>out (.deep (dq s)) H2 t3 (by unfold dU lz;rw[aq (by lia),ay (by lia)];rfl) (ai.refl _) pf⟩
    .have RN:¬((dq s:Nat):Int)>6:=λz=>hk (aU z);have eS:lz s=none:=by unfold lz;rw[aq (by lia),aq (by lia)]
     have eF:(lE s ["ground"]).findSome? iV=(tX s [] 0).findSome? λr=>iV (gr r):=by
      rw[show lE s ["ground"]=_ from Rk s [] 0,List.findSome?_map];rfl
     refine⟨_,Z,l,Z,⟨_,bq.of JJ⟩,?_⟩;refine gJ (K:=K) (a:=l) (xs:=zs) (λi σ H' =>∃(x3 x4 x5:Option V),σ=[some v,some (.ref l),some (nI (dq s)),x3,x4,x5,none,none]/\ai H2 H'/\((tX s [] 0).take i).findSome? (λr=>iV (gr r))=none) ⟨_,_,_,Z,ai.refl H2,Z⟩ (by rintro i σ H' _ ⟨_,_,_,_,sm,_⟩;exact bq.of (sm _ _ JJ)) ?_ ?_
     .rintro i x σ H' hx ⟨x3,x4,x5,rfl,sm',hn⟩
      obtain⟨⟨⟨d,ar⟩,k⟩,er,t1,y,u1,rfl,f1,f2,f3,f4⟩:=R.at_ i x hx;have jc:=okr _ (bt er);dsimp only at f2 f4 jc;have sR:=sm.trans sm';obtain⟨b,ks,xs,ys,rfl,p0⟩:=dO f2 jc;have p:=p0.same (s1.trans sR)
      have bad:∀r,iV (d,ar++[("ground" :Str)])=some r->dU s=some r:=λr h=>by
       unfold dU;rw[eS,nA,eF,AX (λr=>iV (gr r)) er hn h];rfl
      have next:iV (d,ar++[("ground" :Str)])=none->((tX s [] 0).take (i+1)).findSome? (λr=>iV (gr r))=none:=λh=>by
       rw[wO (λr=>iV (gr r)) er,hn];exact h
      refine⟨t1,_,Z,bu.of (sR _ _ f1),Z,_,_,Z,_,_,Z,_,_,Z,Z,?_⟩;refine⟨_,Z,b,_,0,_,Z,Z,bu.of p.e,iZ _ _,fT,λt2 vR=>⟨t2,_,Z,.inr (bu.of aa),Z,Z,_,Z,?_⟩⟩;have u2:=ai.upd (o:= .tup [V.str "frame",.str "turns"]) vR;generalize upd H' t2 (.tup [V.str "frame",.str "turns"])=H3 at u2 ⊢;have pe:=u2 _ _ p.e;have F6:=u2 _ _ (sR _ _ f4);have s3:=sm'.trans u2;show if yY (V.str d.wd) [.str "frame",.str "turns"]=true then _ else _
      rw[Dn]
      have two:¬(dN d.wd=true/\iM d∈ar++[("ground" :Str)])->iV (d,ar++[("ground" :Str)])=(if d.wd="make" then match tP d with
       |some x=>if x∈ar++[("ground" :Str)] then none else some (.oO x)
       |none=>none
       else none):=λh=>aq h
      rcases hb:dN d.wd with _|_
      .have tw:=two λz=>by rw[hb] at z;exact cE z.1
       refine cf ⟨_,Z,b,_,0,_,Z,Z,bu.of pe,iZ _ _,Z,_,Z,?_⟩;by_cases nm:d.wd="make"
       .obtain⟨y1,y2,m,rfl,rfl,Mw⟩:=Bg p nm;rw[ay nm] at tw;rw[show decide (V.str d.wd=V.str "make")=true from aU (by rw[nm])];rcases Mw with⟨rfl,hk⟩|⟨z,rfl,hk⟩
        .rw[hk] at tw;exact cD ⟨_,Z,b,_,3,_,Z,Z,bu.of pe,bA (j:=3) Z,Z,_,Z,cf ⟨_,_,_,Z,s3,next tw⟩⟩
        .rw[hk] at tw;dsimp only at tw;refine cD ⟨_,Z,b,_,3,_,Z,Z,bu.of pe,bA (j:=3) Z,Z,_,Z,cD ⟨_,Z,b,_,3,_,Z,Z,bu.of pe,bA (j:=3) Z,_,Z,u1,_,Z,.inl (bq.of F6),Z,hX _,_,Z,?_⟩⟩;show if(!yY (V.str z) (ar.map V.str))=true then _ else _
         rw[ng];by_cases hy:z∈ar
         .rw[ay (eJ _ hy)] at tw;rw[aU hy];exact cf ⟨_,_,_,Z,s3,next tw⟩
         .rw[bf hy];refine cD ⟨_,Z,b,_,3,_,Z,Z,bu.of pe,bA (j:=3) Z,Z,_,Z,?_⟩;by_cases hg:z="ground"
          .rw[ay (dP _ (by rw[hg];exact fB.mpr Z))] at tw;rw[show decide (V.str z=V.str "ground")=true from aU (by rw[hg])];exact cf ⟨_,_,_,Z,s3,next tw⟩
          .rw[aq (λh=>by
            rcases cW.mp h with h|h
            .exact hy h
            .exact hg (fB.mp h))] at tw
           rw[show decide (V.str z=V.str "ground")=false from bf (cw hg)];exact cD ⟨_,Z,b,_,3,_,Z,Z,bu.of pe,bA (j:=3) Z,fT,λt3 pf=>out (.oO z) _ t3 (bad _ tw) s3 pf⟩
       .exact g7 (cw nm) ⟨_,_,_,Z,s3,next (tw.trans (aq nm))⟩
      .obtain⟨Mq,rfl⟩:=p0.iM hb;have lg:=YR jc hb;refine cD ⟨_,Z,b,_,1,_,Z,Z,bu.of pe,bA (j:=1) Z,_,Z,u1,_,Z,.inl (bq.of F6),Z,hX _,_,Z,?_⟩;show if yY (V.str (iM d)) (ar.map V.str)=true then _ else _
       rw[ng];by_cases lK:iM d∈ar
       .rw[aU lK];exact cD ⟨_,Z,b,_,1,_,Z,Z,bu.of pe,bA (j:=1) Z,fT,λt3 pf=>out (.twice (iM d)) _ t3 (bad _ (ay ⟨hb,eJ _ lK⟩)) s3 pf⟩
       .rw[bf lK];have nm:d.wd≠ "make":=λz=>by rw[z] at hb;exact absurd hb (by decide+kernel)
        refine cf ⟨_,Z,b,_,0,_,Z,Z,bu.of pe,iZ _ _,Z,_,Z,?_⟩;refine g7 (cw nm) ⟨_,_,_,Z,s3,next ((two λz=> ?_).trans (aq nm))⟩;rcases cW.mp z.2 with h|h
        .exact lK h
        .exact lg (fB.mp h)
     .rintro σ H3 ⟨x3,x4,x5,rfl,s3,hn⟩
      rw[etk] at hn
      have eR:dU s=uW s:=by
       unfold dU;rw[eS,nA,eF,hn,nA]
      refine⟨_,Z,H,v,t,s,Z,HE.trans s3,hd,ok,dp,λtt H4 zQ s4 hz4=> ?_⟩;have Fg:=s3.trans s4;refine⟨tt,_,Z,bu.of hz4,Z,_,_,Z,_,_,Z,Z,?_⟩;refine⟨_,Z,_,4,Z,Z,_,Z,?_⟩;refine sV (λhk=> ?_) (λhk=> ?_)
      .have hk:=bo hk;exact⟨_,Z,fT,λt3 pf=>out (.wide (hJ s)) _ t3 (by rw[eR];unfold uW;rw[ay (by lia)]) Fg pf⟩
      .have hk3:¬((hJ s:Nat):Int)>4:=λz=>hk (aU z);refine⟨_,Z,_,100,Z,Z,_,Z,?_⟩;refine sV (λhk=> ?_) (λhk=> ?_)
       .have hk:=bo hk;exact⟨_,Z,fT,λt3 pf=>out (.long (hU s)) _ t3 (by rw[eR];unfold uW;rw[aq (by lia),ay (by lia)]) Fg pf⟩
       .have hk4:¬((hU s:Nat):Int)>100:=λz=>hk (aU z);have eN:dU s=none:=by rw[eR];unfold uW;rw[aq (by lia),aq (by lia)]
        rw[eN] at q;exact q _ (HE.trans Fg)
theorem acd{K:Frag}{mg:Str->aM}{x:Str}{C f R:Y'}(E:XI K mg x C f R)(D:Y'):∃nm q N bs bm iQ sn sub ab col dd k0 k1 k2 k3 k5 i,K.lookup C=some (excClassObj nm q C N bs bm iQ sn sub ab col dd k0 k1 k2 k3 k5 i)/\(Value.ref C::bm).contains (.ref D)=(decide (D=C)||decide (D=R)):=by
 obtain⟨nm,q,N,bs,bm,hd,sn,sub,ab,col,dd,j0,j1,j2,j3,j5,lk,T2⟩:=E.X.toExcC.obj;refine⟨nm,q,N,bs,bm,hd,sn,sub,ab,col,dd,j0,j1,j2,j3,j5,_,lk,?_⟩;have h:=E.mi D;unfold PySem.W.mroIn clsIn at h;rw[lk] at h;exact fC h
theorem mM{K:Frag}{mg:Str->aM}{x:Str}{C f R:Y'}(E:XI K mg x C f R):Under K C C:=by
 obtain⟨nm,q,N,bs,bm,hd,sn,sub,ab,col,dd,j0,j1,j2,j3,j5,i,lk,h⟩:=acd E C;exact⟨nm,q,N,bs,bm,hd,sn,sub,ab,col,dd,j0,j1,j2,j3,j5,i,lk,by rw[h,aU Z];rfl⟩
theorem cS{K:Frag}{mg:Str->aM}{x:Str}{C f R D:Y'}(E:XI K mg x C f R)(h1:D≠C)(h2:D≠R):F3 K C D:=by
 obtain⟨nm,q,N,bs,bm,hd,sn,sub,ab,col,dd,j0,j1,j2,j3,j5,i,lk,h⟩:=acd E D;exact⟨nm,q,N,bs,bm,hd,sn,sub,ab,col,dd,j0,j1,j2,j3,j5,i,lk,by rw[h,bf h1,bf h2];rfl⟩
def U8(A:pk):Prop:=([A.b9,A.qp,A.gj,A.gq,A.jP,A.gk,A.gm,A.gi,A.jl]:bh).Nodup
noncomputable def Xf(A:pk):bh:=[A.b9,A.qp,A.gj,A.gq,A.jP,A.gk,A.gm,A.gi,A.jl]
theorem eK{A:pk}(df:U8 A){x y:Y'}(i j:Nat)(h1:(Xf A)[i]? =some x)(h2:(Xf A)[j]? =some y)(hij:i≠j):x≠y:=λz=>by
 subst z;have hi:=(dE.mp h1).1;exact hij ((List.getElem?_inj hi (show(Xf A).Nodup from df)).mp (h1.trans h2.symm))
def Jf(A:pk)(f:Y')(spL:Sp):Sp:=λvs H Q _=>vs=[.ref f]/\∀t0,H t0=none->∀(Q' :VK) (E' :XK),(∀v H1,(∀t,H1 t=none->Q (.ref t) (upd H1 t (.tup [.str "program",v])))->Q' v H1)->
 (∀(r:Rf) dx H2,H2 dx=some (.xd [(r.fd,r.v)])->(∀t,H2 t=none->Q (.ref t) (upd H2 t (.tup [.str r.tag,r.v])))->E' (.ref (r.cls A)) (some dx) H2)->spL [] (upd H t0 (.tup [.str "other"])) Q' E'
theorem E5(T:Txt K mg A)(df:U8 A){f:Y'}{fdl RB :aap}{spL:Sp}(Wj:aQ P w K mg base (C9 P w) 21 f fdl [] spL)(Xc:∃oc od sl,base.get? f=some ⟨oc,od,.func RB,sl⟩)(WK:Binds K fdl [] []):
 aQ P w K mg base cY 22 A.pO A.pS ["_law_call"] (Jf A f spL):=by
 refine T.lM.F.ok cj (λvs H Q E h=> ?_) (λcC Ar outer s0 H vs Q E hr h=> ?_)
 .obtain⟨rfl,_⟩:=h;rfl
 .obtain⟨rfl,q⟩:=h;refine⟨_,(af (eL 1 cj.nd (ba (aF ax))) (af (Qh (i:=2) Z Z cj.nd Z Z (.cons Z T.GY.m T.GY.X.toExcC (by decide) (λa=>(ah (eL 1 cj.nd (ba (ag ax (aF (jr (K:=K) Z (pv 2) Z))))))) (.cons Z T.gp.m T.gp.X.toExcC (by decide) (λa=>(ah (eL 1 cj.nd (ba (ag ax (aF (jr (K:=K) Z (pv 2) Z))))))) (.cons Z T.fH.m T.fH.X.toExcC (by decide) (λa=>(ah (eL 1 cj.nd (ba (ag ax (aF (jr (K:=K) Z (pv 2) Z))))))) (.cons Z T.ir.m T.ir.X.toExcC (by decide) (λa=>(ah (eL 1 cj.nd (ba (ag ax (aF (jr (K:=K) Z (pv 2) Z))))))) (.cons Z T.dS.m T.dS.X.toExcC (by decide) (λa=>(ah (eL 1 cj.nd (ba (ag ax (aF (jr (K:=K) Z (pv 2) Z))))))) (.cons Z T.dH.m T.dH.X.toExcC (by decide) (λa=>(ah (eL 1 cj.nd (ba (ag ax (aF (jr (K:=K) Z (pv 2) Z))))))) (.cons Z T.c7.m T.c7.X.toExcC (by decide) (λa=>(ah (eL 1 cj.nd (ba (ag ax (aF (jr (K:=K) Z (pv 2) Z))))))) (.cons Z T.pC.m T.pC.X.toExcC (by decide) (λa=>(ah (eL 1 cj.nd (ba (ag ax (aF (jr (K:=K) Z (pv 2) Z))))))) .nil)))))))) (λE pn W hw=>(ah (eL 1 cj.nd (ba (ag ax (aF (Mg Wj Xc hr WK (j6 hw trivial) (pv 0))))))))) (ah (aB (pv 1))))),?_⟩;refine⟨ki,λt0 Y7=>⟨_,Z,Z,q t0 Y7 _ _ (λv H1 h=>⟨fT,λt ht=>⟨_,Z,h t ht⟩⟩) λr dx H2 hx h=> ?_⟩⟩;have Cq:∀σ:L2.St,σ.length=3->∃x0 x1 x2,σ=[x0,x1,x2]:=bn3 λa b c=>⟨a,b,c,Z⟩
  cases r with
  |many z=>
   refine⟨_,_,Z,(.inr ⟨cS T.gp (eK df 1 2 Z Z (by decide)) (eK df 1 0 Z Z (by decide)),.inl ⟨mM T.gp,Z⟩⟩),λa σ ea hl=> ?_⟩;obtain⟨x0,x1,x2,rfl⟩:=Cq σ hl;exact⟨_,Z,a,_,dx,false,_,_,Z,ea,hx,T.gp.g.toExcG,T.qc,Z,fT,λt ht=>⟨_,Z,h t ht⟩⟩
  |deep z=>
   refine⟨_,_,Z,(.inr ⟨cS T.fH (eK df 1 3 Z Z (by decide)) (eK df 1 0 Z Z (by decide)),.inr ⟨cS T.fH (eK df 2 3 Z Z (by decide)) (eK df 2 0 Z Z (by decide)),.inl ⟨mM T.fH,Z⟩⟩⟩),λa σ ea hl=> ?_⟩;obtain⟨x0,x1,x2,rfl⟩:=Cq σ hl;exact⟨_,Z,a,_,dx,false,_,_,Z,ea,hx,T.fH.g.toExcG,T.oS,Z,fT,λt ht=>⟨_,Z,h t ht⟩⟩
  |twice z=>
   refine⟨_,_,Z,(.inr ⟨cS T.ir (eK df 1 4 Z Z (by decide)) (eK df 1 0 Z Z (by decide)),.inr ⟨cS T.ir (eK df 2 4 Z Z (by decide)) (eK df 2 0 Z Z (by decide)),.inr ⟨cS T.ir (eK df 3 4 Z Z (by decide)) (eK df 3 0 Z Z (by decide)),.inl ⟨mM T.ir,Z⟩⟩⟩⟩),λa σ ea hl=> ?_⟩;obtain⟨x0,x1,x2,rfl⟩:=Cq σ hl;exact⟨_,Z,a,_,dx,false,_,_,Z,ea,hx,T.ir.g.toExcG,T.sj,Z,fT,λt ht=>⟨_,Z,h t ht⟩⟩
  |oO z=>
   refine⟨_,_,Z,(.inr ⟨cS T.dS (eK df 1 5 Z Z (by decide)) (eK df 1 0 Z Z (by decide)),.inr ⟨cS T.dS (eK df 2 5 Z Z (by decide)) (eK df 2 0 Z Z (by decide)),.inr ⟨cS T.dS (eK df 3 5 Z Z (by decide)) (eK df 3 0 Z Z (by decide)),.inr ⟨cS T.dS (eK df 4 5 Z Z (by decide)) (eK df 4 0 Z Z (by decide)),.inl ⟨mM T.dS,Z⟩⟩⟩⟩⟩),λa σ ea hl=> ?_⟩;obtain⟨x0,x1,x2,rfl⟩:=Cq σ hl;exact⟨_,Z,a,_,dx,false,_,_,Z,ea,hx,T.dS.g.toExcG,T.oW,Z,fT,λt ht=>⟨_,Z,h t ht⟩⟩
  |wide z=>
   refine⟨_,_,Z,(.inr ⟨cS T.dH (eK df 1 6 Z Z (by decide)) (eK df 1 0 Z Z (by decide)),.inr ⟨cS T.dH (eK df 2 6 Z Z (by decide)) (eK df 2 0 Z Z (by decide)),.inr ⟨cS T.dH (eK df 3 6 Z Z (by decide)) (eK df 3 0 Z Z (by decide)),.inr ⟨cS T.dH (eK df 4 6 Z Z (by decide)) (eK df 4 0 Z Z (by decide)),.inr ⟨cS T.dH (eK df 5 6 Z Z (by decide)) (eK df 5 0 Z Z (by decide)),.inl ⟨mM T.dH,Z⟩⟩⟩⟩⟩⟩),λa σ ea hl=> ?_⟩;obtain⟨x0,x1,x2,rfl⟩:=Cq σ hl;exact⟨_,Z,a,_,dx,false,_,_,Z,ea,hx,T.dH.g.toExcG,T.pw,Z,fT,λt ht=>⟨_,Z,h t ht⟩⟩
  |long z=>
   refine⟨_,_,Z,(.inr ⟨cS T.c7 (eK df 1 7 Z Z (by decide)) (eK df 1 0 Z Z (by decide)),.inr ⟨cS T.c7 (eK df 2 7 Z Z (by decide)) (eK df 2 0 Z Z (by decide)),.inr ⟨cS T.c7 (eK df 3 7 Z Z (by decide)) (eK df 3 0 Z Z (by decide)),.inr ⟨cS T.c7 (eK df 4 7 Z Z (by decide)) (eK df 4 0 Z Z (by decide)),.inr ⟨cS T.c7 (eK df 5 7 Z Z (by decide)) (eK df 5 0 Z Z (by decide)),.inr ⟨cS T.c7 (eK df 6 7 Z Z (by decide)) (eK df 6 0 Z Z (by decide)),.inl ⟨mM T.c7,Z⟩⟩⟩⟩⟩⟩⟩),λa σ ea hl=> ?_⟩;obtain⟨x0,x1,x2,rfl⟩:=Cq σ hl;exact⟨_,Z,a,_,dx,false,_,_,Z,ea,hx,T.c7.g.toExcG,T.pZ,Z,fT,λt ht=>⟨_,Z,h t ht⟩⟩
structure Fits(B k:Nat)(d:Z'):Prop where
 sh:d.showable=true
 dp:d.depth<=k
 ln:d.shown.length<=B
theorem Fits.mono{B B' k k' :Nat}{d:Z'}(g:Fits B k d)(h:B<=B')(h' :k<=k'):Fits B' k' d:=⟨g.sh,aL g.dp h',aL g.ln h⟩
structure dk(B k:Nat)(ds:List Z'):Prop where
 sh:PyData.showableAll ds=true
 dp:PyData.depthAll ds<=k
 ln:((PyData.shownAll ds).map (·.length)).sum+2*(PyData.shownAll ds).length<=B
theorem dk.nil{k:Nat}:dk 0 k []:=⟨by simp[PyData.showableAll],by simp[PyData.depthAll],by simp[PyData.shownAll]⟩
theorem dk.cons{B C k:Nat}{d:Z'}{ds:List Z'}(g:Fits B k d)(h:dk C k ds):dk (B+2+C) k (d::ds):=by
 have g1:=g.ln;have h1:=h.ln;refine⟨?_,?_,?_⟩
 .simp only[PyData.showableAll,g.sh,h.sh,Bool.and_self]
 .simp only[PyData.depthAll];exact Nat.max_le.mpr ⟨g.dp,h.dp⟩
 .simp only[PyData.shownAll,eG,uI,aZ]
  lia
theorem dk.mono{B B' k k' :Nat}{d:List Z'}(g:dk B k d)(h:B<=B')(h' :k<=k'):dk B' k' d:=⟨g.sh,aL g.dp h',aL g.ln h⟩
theorem dk.app{B C k:Nat}:∀{ds es:List Z'},dk B k ds->dk C k es->dk (B+C) k (ds++es)
 |[],es,_,h=>h.mono (by lia) (aJ _)
 |d::ds,es,g,h=>by
  have sh:=g.sh;have dp:=g.dp;have ln:=g.ln;simp only[PyData.showableAll,cL] at sh;simp only[PyData.depthAll] at dp;simp only[PyData.shownAll,eG,uI,aZ] at ln;have r:=dk.app (B:=B - d.shown.length - 2) (ds:=ds) ⟨sh.2,by lia,by lia⟩ h;refine(dk.cons (B:=d.shown.length) (k:=k) ⟨sh.1,by lia,aJ _⟩ r).mono (by lia) (aJ _)
theorem dk.list{B k:Nat}{ds:List Z'}(h:dk B k ds):Fits (B+3) (k+1) (.list ds):=by
 have h1:=h.ln;have h2:=h.dp;refine⟨?_,?_,?_⟩
 .simp only[PyData.showable,h.sh]
 .simp only[PyData.depth]
  lia
 .simp only[PyData.shown];have:=listText_len_le (PyData.shownAll ds)
  lia
theorem dk.tup{B k:Nat}{ds:List Z'}(h:dk B k ds):Fits (B+3) (k+1) (.tuple ds):=by
 have h1:=h.ln;have h2:=h.dp;refine⟨?_,?_,?_⟩
 .simp only[PyData.showable,h.sh]
 .simp only[PyData.depth]
  lia
 .simp only[PyData.shown];have:=tupleText_len_le (PyData.shownAll ds)
  lia
theorem Fits.rep{B k:Nat}{d:Z'}(g:Fits B k d)(hB:B<=100000)(hk:k<=90):d.showable=true/\d.depth<=90/\d.shown.length<=sizeLine:=⟨g.sh,aL g.dp hk,aL g.ln (cV (eB hB))⟩
theorem vi{i:Int}(h:i.natAbs<10 ^ 40):Fits 100 3 (.int i):=by
 refine⟨?_,?_,?_⟩
 .simp only[PyData.showable];refine aU ?_;by_cases h0:i.natAbs=0
  .rw[h0];decide
  .refine(Nat.log2_lt h0).mpr (rp h ?_);decide+kernel
 .simp[PyData.depth]
 .simp only[PyData.shown];rw[PySem.ofString_length];exact aL (PySem.int_text_length_le10 (k:=40) (by decide) h) (by decide)
theorem uv{n:Nat}(h:n<=1000000):Fits 100 3 (.int (n:Int)):=vi (gx (show(n:Int).natAbs<=1000000 by rw[zm];exact h) (by decide+kernel))
theorem CS:Fits 100 3 .none:=by
 refine⟨?_,?_,?_⟩
 .simp only[PyData.showable]
 .simp[PyData.depth]
 .simp only[PyData.shown];decide+kernel
theorem Ks{x:Str}(h:ck x=true):PyData.strOk x=true:=by
 unfold ck at h;rw[cL] at h;show x.cps.all (· <1114112)=true;rw[<-Array.all_toList];rw[bS];intro c hc;have:=bS.mp h.2 c hc;unfold gn at this;rw[cL] at this;have h2:=bo this.2;exact aU (by lia)
theorem Gy{x:Str}(h:ck x=true):x.length<=6:=by
 unfold ck at h;rw[cL,cL] at h;exact bo h.1.2
theorem jb{x:Str}(h:ck x=true):Fits 100 3 (.str x):=by
 refine⟨?_,?_,?_⟩
 .simp only[PyData.showable]
 .simp[PyData.depth]
 .have h1:=PyData.shown_le 8 (by decide) (.str x) (PyData.leavesShort_of_canLay0 8 _ (by simp only[PyData.canLay0];exact Ks h) (by simp only[PyData.intsShort]));have h2:PyData.weight (.str x)=x.length:=by simp only[PyData.weight];rfl
  have h3:=Gy h
  lia
theorem vE{k:Str}{d:Z'}(h:rO k d):Fits 100 3 d:=by
 cases h with
 |name x h=>exact jb h
 |label x h n=>exact jb h
 |Bl=>exact CS
 |mark x h=>exact jb h
 |Ag=>exact CS
 |value i h=>exact vi h
 |number i h=>exact vi h
 |num k lo hi i h h1 h2=>
  have:=bo (bS.mp (show(CD.all λp=>decide (0<=p.2.1/\p.2.2<=6))=true by decide+kernel) _ h);exact vi (gx (show i.natAbs<=6 by have h3:(0:Int)<=lo:=this.1;have h4:hi<=(6:Int):=this.2;lia) (by decide+kernel))
theorem Gq{ks:aj}{ps:List Z'}(h:c9 ks ps):dk (102*ps.length) 3 ps:=by
 induction h with
 |nil=>exact dk.nil
 |cons h t ih=>exact(dk.cons (vE h) ih).mono (by rw[aZ];lia) (aJ _)
theorem Lc{w:Str}{ks:aj}(h:(w,ks)∈bH):ck w=true:=bo (bS.mp (show(bH.all λp=>decide (ck p.1=true))=true by decide+kernel) _ h)
theorem R7{t:Bool}{B k:Nat}{ds:List Z'}(h:dk B k ds):Fits (B+3) (k+1) (iR t ds):=by
 cases t with
 |false=>exact h.list
 |true=>exact h.tup
mutual
theorem shD:∀d:Dd,ia d->Fits (998+1000*lG d) (4+2*mB d) (dD d)
 | .mk w ps bs,ok=>by
  rw[ia] at ok;obtain⟨⟨ks,f,fit⟩,hb⟩:=ok;have h4:=cO f;rw[aT,eV] at h4;have hl:=n9 fit;rw[dD,lG,mB];refine(dk.tup (dk.cons (B:=100) (k:=3+2*nk bs) ((jb (Lc f)).mono (aJ _) (by lia)) (((Gq fit).mono (aJ _) (by lia)).app (shB bs hb)))).mono ?_ (by lia)
  lia
theorem shS:∀s:Ds,fR s->dk (1000*dF s) (4+2*dq s) (sL s)
 | .nil,_=>by rw[sL];exact dk.nil.mono (bU _) (aJ _)
 | .cons d r,ok=>by
  rw[fR] at ok;rw[sL,dF,dq];exact(dk.cons ((shD d ok.1).mono (aJ _) (by lia)) ((shS r ok.2).mono (aJ _) (by lia))).mono (by lia) (aJ _)
theorem shB:∀b:Bs,i3 b->dk (1000*l6 b+5*b.l.length) (3+2*nk b) (bL b)
 | .nil,_=>by rw[bL];exact dk.nil.mono (bU _) (aJ _)
 | .cons t b r,ok=>by
  rw[i3] at ok;rw[bL,l6,nk];refine(dk.cons ((R7 (shS b ok.1)).mono (aJ _) (by lia)) ((shB r ok.2).mono (aJ _) (by lia))).mono ?_ (aJ _);show _<=1000*(dF b+l6 r)+5*(r.l.length+1)
  lia
end
def CL(H:Hp)(l:Y')(ns:aj):Prop:=H l=some (.lst (ns.map V.str))/\ns.length<=100/\∀x∈ns,ck x=true
def yu(H:Hp)(v:V):Prop:=∃wd ps,iJ H v (dD (.mk wd ps .nil))/\ia (.mk wd ps .nil)
theorem yu.same{H H' :Hp}{v:V}(h:yu H v)(s:ai H H'):yu H' v:=by
 obtain⟨wd,ps,td,ok⟩:=h;exact⟨wd,ps,td.kt (KT.same s),ok⟩
theorem yu.box{H H' :Hp}{v:V}{b:Y'}{k:Nat}(h:yu H v)(B:di H b k)(o:CF b H H'):yu H' v:=by
 obtain⟨wd,ps,td,ok⟩:=h;obtain⟨x,y,z,hb,_⟩:=B;exact⟨wd,ps,td.kt λc ys e=>(o c (b8 e hb (λz=>nomatch z))).trans e,ok⟩
theorem yu.mk{H:Hp}{t:Y'}{wd:Str}{xs:ak}{ks:aj}{ps:List Z'}(e:H t=some (.tup (.str wd::xs)))(f:(wd,ks)∈bH)(h:c9 ks ps)(hx:bE H xs ps):yu H (.ref t):=by
 refine⟨wd,ps,?_,?_⟩
 .rw[dD,bL,bZ];exact .tup e (.cons (.str _) hx)
 .rw[ia,i3];exact⟨⟨ks,by show(wd,ks++[])∈bH;rw[bZ];exact f,h⟩,True.intro⟩
structure Sw(b:Y')(H:Hp)(k:Nat)(H' :Hp):Prop where
 box:di H' b k
 kp:Kept b H H'
theorem Sw.same{b:Y'}{H H' gE :Hp}{k:Nat}(W:Sw b H k H')(s:ai H' gE):Sw b H k gE :=⟨W.box.same s,W.kp.trans s.kept⟩
theorem Sw.take{b:Y'}{H H' gE :Hp}{k:Nat}(W:Sw b H k H')(B:di gE b (k+1))(O:CF b H' gE):Sw b H (k+1) gE :=⟨B,W.kp.trans O.kept⟩
theorem Uk:(10:Int) ^ (30:Int).toNat=1000000000000000000000000000000:=by decide+kernel
def Og:Sp:=λvs H Q _=>∃b nl al k ns ar,vs=[.ref b,.ref nl,.ref al]/\di H b k/\k+20<=100000/\CL H nl ns/\ns≠[]/\CL H al ar/\nl≠b/\al≠b/\
 ∀v H',yu H' v->di H' b (k+20)->Kept b H H'->Q v H'
theorem Bt(T:Txt K mg A):aQ P w K mg base cY 2 A.sF A.sE ["_law_box_here","_law_names_here","_law_around"] Og:=by
 refine T.se.F.BY cX ?_
 rintro cC Ar outer s H vs Q E hr ⟨b,nl,al,k,ns,ar,rfl,B,hk,hn,o8,ha,nb,ab,q⟩
 have Gr:0<((ns.map V.str).length:Int):=by
  rw[aG];have:=List.length_pos_iff.mpr o8
  lia
 have hle:((ns.map V.str).length:Int)<1606938044258990275541962092341162602522202993782792835301376:=by
  rw[aG];have:=hn.2.1
  lia
 have nmo:∀x∈ns.map V.str,∃z,x= .str z/\ck z=true:=λx hx=>by
  obtain⟨z,hz,rfl⟩:=fZ.mp hx;exact⟨z,Z,hn.2.2 z hz⟩
 refine⟨_,(af (eL 3 cX.nd (cv (aI T) hr T.aO aA (ag (pv 0) (aF ae)))) (af (eL 4 cX.nd (cJ aP (pv 1) (cv (aI T) hr T.aO aA (ag (pv 0) (aF (iY aV T.dY Boot.«len» (aF (pv 1)))))))) (af (eL 5 cX.nd (cJ aP (pv 1) (cv (aI T) hr T.aO aA (ag (pv 0) (aF (iY aV T.dY Boot.«len» (aF (pv 1)))))))) (af (eL 6 cX.nd (cJ aP (a8 (ag ae (aF (cv (aI T) hr T.aO aA (ag (pv 0) (aF ae)))))) (cv (aI T) hr T.aO aA (ag (pv 0) (aF ae))))) (af (a_ (jp DF (pv 3) ae) (af (eL 7 cX.nd (aH i6 (aH i6 (a8 (ag eU (aF eU))) (pv 2)) (a8 (aF ax)))) (ah (aB (ba (ag ax (ag (pv 4) (ag (aH bB ae (cv (aI T) hr T.aO aA (ag (pv 0) (aF (cJ aP (a8 (ag ae (aF ae))) (cv (aI T) hr T.aO aA (ag (pv 0) (aF ae)))))))) (aF (cJ aP (pv 7) (cv (aI T) hr T.aO aA (ag (pv 0) (aF (iY aV T.dY Boot.«len» (aF (pv 7))))))))))))))) aK) (af (eL 8 cX.nd (cJ aP (a8 (ag (aH jC (cv (aI T) hr T.aO aA (ag (pv 0) (aF ae))) ae) (aF (aH bB (aH jC (cv (aI T) hr T.aO aA (ag (pv 0) (aF (aH jC (aH my ae (aH Ax ae ae)) ae)))) (aH Ax ae ae)) ae)))) (GX xg T.DS Boot.«int» (aF (HG cM (cv (aI T) hr T.aO aA (ag (pv 0) (aF ae))) ae))))) (af (eL 9 cX.nd (a8 (ag (ba (ag ax (ag (pv 4) (ag (pv 6) (aF (pv 5)))))) (ag (ba (ag ax (ag (pv 4) (ag (pv 5) (aF (pv 6)))))) (ag (ba (ag ax (ag (pv 4) (aF (cJ aP (a8 (ag eU (aF (pv 8)))) (cv (aI T) hr T.aO aA (ag (pv 0) (aF ae)))))))) (aF (ba (ag ax (ag (pv 4) (aF (pv 5))))))))))) (ah (aB (cJ aP (aH i6 (pv 9) (a8 (ag (ba (ag ax (ag (pv 4) (ag (pv 5) (aF (pv 8)))))) (ag (ba (ag ax (aF (pv 4)))) (aF (ba (ag ax (ag (pv 4) (aF (pv 5)))))))))) (aH jC (pv 3) ae))))))))))),?_⟩;refine⟨_,Z,b,9,k,Z,B,by lia,by decide,by decide,λkind H1 k0 k1 B1 O1=> ?_⟩;have W1:Sw b H (k+1) H1:=Sw.take ⟨B,Kept.refl _ _⟩ B1 O1;refine⟨_,Z,_,Z,_,Z,nl,_,Z,.inl (bq.of (W1.kp _ _ nb hn.1)),b,_,k+1,Z,B1,by lia,Gr,hle,λi1 H2 r0 r1 B2 O2=> ?_⟩;have W2:=W1.take B2 O2;refine gy (λv=>∃z,v= .str z/\ck z=true) (W2.kp _ _ nb hn.1) r0 r1 nmo λv hv=> ?_;obtain⟨x,rfl,hx⟩:=hv;refine⟨_,Z,_,Z,_,Z,nl,_,Z,.inl (bq.of (W2.kp _ _ nb hn.1)),b,_,k+2,Z,B2,by lia,Gr,hle,λi2 H3 s0 s1 B3 O3=> ?_⟩;have W3:=W2.take B3 O3;refine gy (λv=>∃z,v= .str z/\ck z=true) (W3.kp _ _ nb hn.1) s0 s1 nmo λv hv=> ?_;obtain⟨y,rfl,hy⟩:=hv;refine⟨_,Z,b,6,k+3,Z,B3,by lia,by decide,by decide,λr6 H4 a0 a1 B4 O4=> ?_⟩;have W4:=W3.take B4 O4;refine⟨fT,λp4 Io=> ?_⟩;have W4' :=W4.same (ai.upd (o:= .lst [V.int 0,V.int r6]) Io);have np4:p4≠b:=W4.box.ne Io;refine⟨_,Z,b,2,k+4,Z,W4'.box,by lia,by decide,by decide,λr2 H5 c0 c1 B5 O5=> ?_⟩;have W5:=W4'.take B5 O5;refine gy (λv=>∃i:Int,v= .int i/\0<=i/\i<=5) (O5.kept _ _ np4 aa) c0 c1 ?_ λv hv=> ?_
 .intro z hz;simp only[aN,cF,cH] at hz;rcases hz with rfl|rfl
  .exact⟨_,Z,by decide,by decide⟩
  .exact⟨_,Z,a0,by lia⟩
 obtain⟨cl,rfl,cl0,cl5⟩:=hv;clear W1 W2 W3 W4 W4' O1 O2 O3 O4 O5 B1 B2 B3 B4;refine⟨_,Z,kind,2,Z,Z,_,Z,?_⟩;have fc:rO "cell" (.int cl):= .num "cell" 0 5 cl (by decide+kernel) cl0 cl5;have al5:=W5.kp _ _ ab ha.1;have arl:=ha.2.1;refine sV (λRN=> ?_) (λRN=> ?_)
 .refine⟨fT,λp1 GP=>⟨_,Z,p1,al,_,_,Z,Z,aa,ai.upd GP _ _ al5,?_,λp2 Cm=>⟨ki,λp3 zg=>⟨p2,p3,_,_,Z,Z,ai.upd zg _ _ aa,aa,?_,λp6 hp6=> ?_⟩⟩⟩⟩
  .rw[aG];exact cV (eB (show 2+ar.length<=100000 by lia))
  .rw[aT,aG];exact cV (eB (show 2+ar.length+1<=100000 by lia))
  have W6:=(((W5.same (ai.upd GP)).same (ai.upd Cm)).same (ai.upd (o:= .lst [V.str "ground"]) zg));have np6:p6≠b:=W6.box.ne hp6;have W7:=W6.same (ai.upd (o:= .lst (([V.bV,V.bV]++ar.map V.str)++[.str "ground"])) hp6);have e7:upd _ p6 (.lst (([V.bV,V.bV]++ar.map V.str)++[.str "ground"])) p6=some (.lst (([V.bV,V.bV]++ar.map V.str)++[.str "ground"])):=aa (H:=upd (upd (upd H5 p1 (.lst [V.bV,V.bV])) p2 (.lst ([V.bV,V.bV]++ar.map V.str))) p3 (.lst [V.str "ground"]));generalize upd (upd (upd (upd H5 p1 (.lst [V.bV,V.bV])) p2 (.lst ([V.bV,V.bV]++ar.map V.str))) p3 (.lst [V.str "ground"])) p6 (.lst (([V.bV,V.bV]++ar.map V.str)++[.str "ground"]))=H7 at W7 e7 ⊢
  have mko:∀v∈([V.bV,V.bV]++ar.map V.str)++[.str "ground"],∃d,rO "mark" d/\∀H,iJ H v d:=λv hv=>by
   rcases cW.mp hv with hv|hv
   .rcases cW.mp hv with hv|hv
    .simp only[aN,cF,cH,or_self] at hv;exact⟨.none,.Bl,λ_=>by rw[hv];exact .bV⟩
    .obtain⟨z,hz,rfl⟩:=fZ.mp hv;exact⟨.str z,.mark z (ha.2.2 z hz),λ_=> .str _⟩
   .rw[fB.mp hv];exact⟨.str "ground",.mark _ (by decide+kernel),λ_=> .str _⟩
  have Zv:(([V.bV,V.bV]++ar.map V.str)++[V.str "ground"]).length=ar.length+3:=by
   simp only[aT,aG,aZ,fO]
   lia
  generalize ([V.bV,V.bV]++ar.map V.str)++[V.str "ground"]=BF at e7 mko Zv;refine⟨_,Z,_,Z,fT,λp8 Lz=> ?_⟩;have W8:=W7.same (ai.upd (o:= .lst [V.int 2,V.int 6]) Lz);have np8:p8≠b:=W7.box.ne Lz;refine⟨_,Z,b,2,k+5,Z,W8.box,by lia,by decide,by decide,λr8 H9 d0 d1 B9 O9=> ?_⟩;have W9:=W8.take B9 O9;refine gy (λv=>∃i:Int,v= .int i/\0<i/\i<=6) (O9.kept _ _ np8 aa) d0 d1 ?_ λv hv=> ?_
  .intro z hz;simp only[aN,cF,cH] at hz
   rcases hz with rfl|rfl<;>exact⟨_,rfl,by decide,by decide⟩
  obtain⟨up,rfl,u0,u6⟩:=hv;refine⟨b,up,k+6,Z,B9,by lia,u0,by lia,λsz Mu z0 z1 B10 O10=> ?_⟩;have W10:=W9.take B10 O10;have e10:=O10.kept _ _ np6 (O9.kept _ _ np6 (ai.upd Lz _ _ e7));refine⟨1,sz,Z,Z,_,Z,_,Z,_,Z,p6,_,Z,.inl (bq.of e10),b,_,k+7,Z,B10,by lia,by rw[Zv];lia,by rw[Zv];lia,λr11 HN f0 f1 B11 O11=> ?_⟩;have W11:=W10.take B11 O11;refine gy (λv=>∃d,rO "mark" d/\∀H,iJ H v d) (O11.kept _ _ np6 e10) f0 f1 mko λv hv=> ?_;obtain⟨d,fd,td⟩:=hv;refine⟨Ht,λt ht=> ?_⟩;have W12:=W11.same (ai.upd (o:= .tup [V.str "make",.str x,.int (1+sz),v]) ht);exact q _ _ (yu.mk (ks:=["name","size","mark"]) (ps:=[.str x,.int (1+sz),d]) aa (by decide+kernel) (.cons (.name x hx) (.cons (.num "size" 1 6 _ (by decide+kernel) (by lia) (by lia)) (.cons fd .nil))) (.cons (.str _) (.cons (.int _) (.cons (td _) .nil)))) (W12.box.mono (by lia)) W12.kp
 .have RN:¬kind<2:=λz=>RN (aU z);refine⟨_,Z,b,7,k+5,Z,W5.box,by lia,by decide,by decide,λn7 H6 d0 d1 B6 O6=> ?_⟩;have W6:=W5.take B6 O6;refine⟨n7,3,Z,Z,_,Z,10,30,Z,Z,⟨by decide,by decide,by decide⟩,2,_,Z,Z,.inl ⟨by decide,by decide⟩,_,1,Z,Z,?_⟩;rw[Uk];refine⟨b,_,k+6,Z,B6,by lia,by decide,by decide,λnb7 H7 f0 f1 B7 O7=> ?_⟩;have W7:=W6.take B7 O7;refine⟨10,30,Z,Z,⟨by decide,by decide,by decide⟩,_,_,Z,Z,_,1,Z,Z,?_⟩;rw[Uk];refine⟨fT,λp8 Lz=> ?_⟩;have W8:=W7.same (ai.upd (o:= .lst [V.int (n7 - 3),.int (nb7 - 1000000000000000000000000000000+1)]) Lz);have np8:p8≠b:=W7.box.ne Lz;refine⟨_,Z,b,5,k+7,Z,W8.box,by lia,by decide,by decide,λr8 H9 g0 g1 B9 O9=> ?_⟩;have W9:=W8.take B9 O9;refine⟨Z,.inr ⟨_,Z,?_⟩⟩;refine gy (λv=>∃i:Int,v= .int i/\i.natAbs<10 ^ 40) (O9.kept _ _ np8 aa) (by split<;>decide) (by split;exact(show(1:Int)<2 by decide);exact(show(0:Int)<2 by decide)) ?_ λv hv=> ?_
  .have e40:(10:Nat) ^ 40=10000000000000000000000000000000000000000:=by decide+kernel
   intro z hz;simp only[aN,cF,cH] at hz;rcases hz with rfl|rfl
   .exact⟨_,Z,by rw[e40];lia⟩
   .exact⟨_,Z,by rw[e40];lia⟩
  obtain⟨num,rfl,ack⟩:=hv;clear W6 W7 W8 O6 O7 O9 B6 B7;have fx:=rO.name x hx;have fy:=rO.name y hy;refine⟨_,Z,_,Z,_,Z,Ht,λt1 o_=> ?_⟩;have u1:=ai.upd (o:= .tup [V.str "put",.str x,.int cl,.str y]) o_;have S1:yu (upd H9 t1 (.tup [V.str "put",.str x,.int cl,.str y])) (.ref t1):=yu.mk (ks:=["name","cell","name"]) (ps:=[.str x,.int cl,.str y]) aa (by decide+kernel) (.cons fx (.cons fc (.cons fy .nil))) (.cons (.str _) (.cons (.int _) (.cons (.str _) .nil)));have V1:=W9.same u1;generalize upd H9 t1 (.tup [V.str "put",.str x,.int cl,.str y])=G1 at u1 S1 V1 ⊢;refine⟨_,Z,_,Z,_,Z,Ht,λt2 vR=> ?_⟩;have u2:=ai.upd (o:= .tup [V.str "get",.str x,.str y,.int cl]) vR;have S2:yu (upd G1 t2 (.tup [V.str "get",.str x,.str y,.int cl])) (.ref t2):=yu.mk (ks:=["name","name","cell"]) (ps:=[.str x,.str y,.int cl]) aa (by decide+kernel) (.cons fx (.cons fy (.cons fc .nil))) (.cons (.str _) (.cons (.str _) (.cons (.int _) .nil)));have V2:=V1.same u2;replace S1:=S1.same u2;generalize upd G1 t2 (.tup [V.str "get",.str x,.str y,.int cl])=G2 at u2 S1 S2 V2 ⊢;refine⟨_,Z,_,Z,fT,λp3 zg=> ?_⟩;have u3:=ai.upd (o:= .lst [V.bV,V.int num]) zg;have V3:=V2.same u3;have np3:p3≠b:=V2.box.ne zg;refine⟨_,Z,b,2,k+8,Z,V3.box,by lia,by decide,by decide,λr3 G3 h0 h1 B3 O3=> ?_⟩;have V4:=V3.take B3 O3;replace S1:=(S1.same u3).box V3.box O3;replace S2:=(S2.same u3).box V3.box O3;refine gy (λv=>∃d,rO "value" d/\∀H,iJ H v d) (O3.kept _ _ np3 aa) h0 h1 ?_ λv hv=> ?_
  .intro z hz;simp only[aN,cF,cH] at hz;rcases hz with rfl|rfl
   .exact⟨_,.Ag,λ_=> .bV⟩
   .exact⟨_,.value num ack,λ_=> .int _⟩
  obtain⟨d,fd,td⟩:=hv;refine⟨sY,λt3 pf=> ?_⟩;have u5:=ai.upd (o:= .tup [V.str "set",.str x,v]) pf;have S3:yu (upd G3 t3 (.tup [V.str "set",.str x,v])) (.ref t3):=yu.mk (ks:=["name","value"]) (ps:=[.str x,d]) aa (by decide+kernel) (.cons fx (.cons fd .nil)) (.cons (.str _) (.cons (td _) .nil));have V5:=V4.same u5;replace S1:=S1.same u5;replace S2:=S2.same u5;generalize upd G3 t3 (.tup [V.str "set",.str x,v])=G5 at u5 S1 S2 S3 V5 ⊢;refine⟨_,Z,_,Z,sY,λt4 PR=> ?_⟩;have u6:=ai.upd (o:= .tup [V.str "copy",.str x,.str y]) PR;have S4:yu (upd G5 t4 (.tup [V.str "copy",.str x,.str y])) (.ref t4):=yu.mk (ks:=["name","name"]) (ps:=[.str x,.str y]) aa (by decide+kernel) (.cons fx (.cons fy .nil)) (.cons (.str _) (.cons (.str _) .nil));have V6:=V5.same u6;replace S1:=S1.same u6;replace S2:=S2.same u6;replace S3:=S3.same u6;generalize upd G5 t4 (.tup [V.str "copy",.str x,.str y])=G6 at u6 S1 S2 S3 S4 V6 ⊢;refine⟨Ht,λsl Za=> ?_⟩;have u7:=ai.upd (o:= .lst [V.ref t1,.ref t2,.ref t3,.ref t4]) Za;have e7:upd G6 sl (.lst [V.ref t1,.ref t2,.ref t3,.ref t4]) sl=some (.lst [V.ref t1,.ref t2,.ref t3,.ref t4]):=aa;have V7:=V6.same u7;replace S1:=S1.same u7;replace S2:=S2.same u7;replace S3:=S3.same u7;replace S4:=S4.same u7;generalize upd G6 sl (.lst [V.ref t1,.ref t2,.ref t3,.ref t4])=G7 at u7 e7 S1 S2 S3 S4 V7 ⊢;refine⟨_,Z,_,Z,_,Z,_,Z,Ht,λt5 Xw=> ?_⟩;have u8:=ai.upd (o:= .tup [V.str "more",.str x,.str y,.int num]) Xw;have S5:yu (upd G7 t5 (.tup [V.str "more",.str x,.str y,.int num])) (.ref t5):=yu.mk (ks:=["name","name","number"]) (ps:=[.str x,.str y,.int num]) aa (by decide+kernel) (.cons fx (.cons fy (.cons (.number num ack) .nil))) (.cons (.str _) (.cons (.str _) (.cons (.int _) .nil)));generalize upd G7 t5 (.tup [V.str "more",.str x,.str y,.int num])=G8 at u8 S5 ⊢;refine⟨_,Z,fT,λt6 Q_=> ?_⟩;have u9:=ai.upd (o:= .tup [V.str "tell",.str x]) Q_;have S6:yu (upd G8 t6 (.tup [V.str "tell",.str x])) (.ref t6):=yu.mk (ks:=["name"]) (ps:=[.str x]) aa (by decide+kernel) (.cons fx .nil) (.cons (.str _) .nil);generalize upd G8 t6 (.tup [V.str "tell",.str x])=G9 at u9 S6 ⊢;refine⟨_,Z,_,Z,sY,λt7 ht7=> ?_⟩;have u10:=ai.upd (o:= .tup [V.str "same",.str x,.str y]) ht7;have S7:yu (upd G9 t7 (.tup [V.str "same",.str x,.str y])) (.ref t7):=yu.mk (ks:=["name","name"]) (ps:=[.str x,.str y]) aa (by decide+kernel) (.cons fx (.cons fy .nil)) (.cons (.str _) (.cons (.str _) .nil));generalize upd G9 t7 (.tup [V.str "same",.str x,.str y])=G10 at u10 S7 ⊢;refine⟨sY,λl2 lK=> ?_⟩;have u11:=ai.upd (o:= .lst [V.ref t5,.ref t6,.ref t7]) lK;have abv:=(u8.trans u9).trans u10;refine⟨sl,l2,_,_,Z,Z,u11 _ _ (abv _ _ e7),aa,agh,λl3 hl3=> ?_⟩;have u12:=ai.upd (o:= .lst ([V.ref t1,.ref t2,.ref t3,.ref t4]++[V.ref t5,.ref t6,.ref t7])) hl3;have e12:upd (upd G10 l2 (.lst [V.ref t5,.ref t6,.ref t7])) l3 (.lst ([V.ref t1,.ref t2,.ref t3,.ref t4]++[V.ref t5,.ref t6,.ref t7])) l3=some (.lst ([V.ref t1,.ref t2,.ref t3,.ref t4]++[V.ref t5,.ref t6,.ref t7])):=aa;have rW:=u11.trans u12;refine⟨_,Z,kind,2,Z,Z,?_⟩;generalize upd (upd G10 l2 (.lst [V.ref t5,.ref t6,.ref t7])) l3 (.lst ([V.ref t1,.ref t2,.ref t3,.ref t4]++[V.ref t5,.ref t6,.ref t7]))=G12 at rW e12 ⊢;have s7:=abv.trans rW;have V12:=V7.same s7;refine gy (yu G12) e12 (by lia) (by show kind - 2<7;lia) ?_ λv hv=>q v G12 hv (V12.box.mono (by lia)) V12.kp;intro z hz;simp only[oo,q_,aN,cF,cH] at hz;rcases hz with rfl|rfl|rfl|rfl|rfl|rfl|rfl
  .exact S1.same s7
  .exact S2.same s7
  .exact S3.same s7
  .exact S4.same s7
  .exact S5.same ((u9.trans u10).trans rW)
  .exact S6.same (u10.trans rW)
  .exact S7.same rW
noncomputable def jm(H H' :Hp):Hp:=λc=>match H' c with
 |some (.lst xs)=>(match H c with
  |none=>some (.lst xs)
  |some _=>none)
 |o=>o
theorem Bz{H H' :Hp}{c:Y'}{xs:ak}(h:H c=none)(e:H' c=some (.lst xs)):jm H H' c=some (.lst xs):=by
 unfold jm;rw[e,h]
theorem jx{H H' :Hp}{c:Y'}{xs:ak}(e:H' c=some (.tup xs)):jm H H' c=some (.tup xs):=by
 unfold jm;rw[e]
theorem iX{H H' :Hp}{c:Y'}{xs:ak}(e:jm H H' c=some (.lst xs)):H c=none/\H' c=some (.lst xs):=by
 unfold jm at e
 cases e1:H' c with
 |none=>rw[e1] at e;cases e
 |some o=>
  rw[e1] at e
  cases o with
  |lst ys=>
   cases e2:H c with
   |none=>rw[e2] at e;exact⟨Z,e⟩
   |some _=>rw[e2] at e;cases e
  |_=>cases e
theorem tF{H H' :Hp}{c:Y'}{xs:ak}(e:jm H H' c=some (.tup xs)):H' c=some (.tup xs):=by
 unfold jm at e
 cases e1:H' c with
 |none=>rw[e1] at e;cases e
 |some o=>
  rw[e1] at e
  cases o with
  |lst ys=>
   cases e2:H c with
   |none=>rw[e2] at e;cases e
   |some _=>rw[e2] at e;cases e
  |_=>exact e
theorem Na{H H1 H' gE :Hp}(f:∀c,H1 c=none->H c=none)(k:KT H' gE)(l:∀c xs,H1 c=none->H' c=some (.lst xs)->gE c=some (.lst xs)){v:V}{d:Z'}(h:Dat (jm H1 H') v d):Dat (jm H gE) v d:=
 zU (λc xs e=>jx (k _ _ (tF e))) (λc xs e=>Bz (f c (iX e).1) (l c xs (iX e).1 (iX e).2)) h
theorem mK{H H1 H' gE :Hp}(f:∀c,H1 c=none->H c=none)(k:KT H' gE)(l:∀c xs,H1 c=none->H' c=some (.lst xs)->gE c=some (.lst xs)){v:ak}{d:List Z'}(h:DatAll (jm H1 H') v d):DatAll (jm H gE) v d:=
 mZ (λc xs e=>jx (k _ _ (tF e))) (λc xs e=>Bz (f c (iX e).1) (l c xs (iX e).1 (iX e).2)) h
theorem QT{H H' :Hp}{v:V}{d:Z'}(h:iJ H' v d):Dat (jm H H') v d:=(h.kt λ_ _ e=>jx e).dat
theorem KR{H H' :Hp}{v:ak}{d:List Z'}(h:DatAll (jm H H') v d):DatAll H' v d:=mZ (λ_ _ e=>tF e) (λ_ _ e=>(iX e).2) h
noncomputable def Ds.of:List Dd->Ds
 |[]=> .nil
 |d::r=> .cons d (Ds.of r)
theorem Wt:∀l:List Dd,(Ds.of l).l=l
 |[]=>rfl
 |d::r=>by show d::(Ds.of r).l=_;rw[Wt r]
theorem jai:∀{l:List Dd},(∀d∈l,ia d)->fR (Ds.of l)
 |[],_=>by rw[Ds.of,fR];exact True.intro
 |d::r,h=>by rw[Ds.of,fR];exact⟨h d a9,jai λx hx=>h x (a7 _ hx)⟩
theorem Gd{n:Nat}:∀{l:List Dd},(∀d∈l,mB d<=n)->dq (Ds.of l)<=n
 |[],_=>by rw[Ds.of,dq];exact bU _
 |d::r,h=>by rw[Ds.of,dq];exact Nat.max_le.mpr ⟨h d a9,Gd λx hx=>h x (a7 _ hx)⟩
theorem Kg(l:List Dd):dF (Ds.of l)=l.length+(l.map lG).sum:=by rw[Ei,Wt]
theorem acF(l:List Dd):sL (Ds.of l)=l.map dD:=by rw[DZ,Wt]
theorem hW.trans{b f:Y'}{H H1 H2:Hp}(a:hW b f H H1)(c:hW b f H1 H2):hW b f H H2:=λx o h1 h2 e=>c x o h1 h2 (a x o h1 h2 e)
theorem _root_.L2.ai.ig{b f:Y'}{H H' :Hp}(s:ai H H'):hW b f H H' :=λc o _ _ e=>s _ _ e
theorem Kept.ig{b f:Y'}{H H' :Hp}(s:Kept b H H'):hW b f H H' :=λc o h _ e=>s _ _ h e
theorem hW.kt{b f:Y'}{H H' :Hp}{k:Nat}{xs:ak}(a:hW b f H H')(B:di H b k)(hl:H f=some (.lst xs)):KT H H' :=λc ys e=>by
 obtain⟨x,y,z,hb,_⟩:=B;exact a _ _ (b8 e hb (λz=>nomatch z)) (b8 e hl (λz=>nomatch z)) e
theorem Ko{H:Hp}{a p:Y'}{xs:ak}{Q:VK}(ha:H a=some (.lst xs))(hp:H p=some (.lst []))(q:Q (.bl xs.isEmpty) H):ZQ false (.ref a) (.ref p) H Q:=by
 refine⟨a,p,xs,[],Z,Z,ha,hp,?_⟩
 cases xs with
 |nil=>exact .inr ⟨Z,Z,Z,q⟩
 |cons x r=>exact .inl ⟨(λz=>by cases z),q⟩
structure NA(H H1:Hp)(b lf fl:Y')(H' :Hp)(kc:Nat)(m:Int)(ds:List Dd)(ws:ak):Prop where
 kp:hW b lf H H'
 fl:H' fl=some (.lst ws)
 dat:DatAll (jm H1 H') ws (ds.map dD)
 box:di H' b kc
 left:H' lf=some (.lst [.int m])
theorem NA.move{H H1 H' gE :Hp}{b lf fl:Y'}{kc ZL :Nat}{m m' :Int}{ds:List Dd}{ws:ak}(h:NA H H1 b lf fl H' kc m ds ws)(n1:H1 b≠none)(n2:H1 lf≠none)(nb:fl≠b)(nf:fl≠lf)(k:hW b lf H' gE)(B:di gE b ZL)(L:gE lf=some (.lst [.int m'])):NA H H1 b lf fl gE ZL m' ds ws:=
 ⟨h.kp.trans k,k _ _ nb nf h.fl,mK (λ_ e=>e) (k.kt h.box h.left) (λc xs e1 e2=>k _ _ (λz=>n1 (z▸e1)) (λz=>n2 (z▸e1)) e2) h.dat,B,L⟩
theorem NA.push{H H1 H' :Hp}{b lf fl:Y'}{kc:Nat}{m:Int}{ds:List Dd}{ws:ak}{v:V}{d:Dd}(h:NA H H1 b lf fl H' kc m ds ws)(n0:H fl=none)(n1:H1 fl≠none)(nb:fl≠b)(nf:fl≠lf)(g:Dat (jm H1 H') v (dD d)):NA H H1 b lf fl (upd H' fl (.lst (ws++[v]))) kc m (ds++[d]) (ws++[v]):=by
 have k:KT H' (upd H' fl (.lst (ws++[v]))):=KT.upd h.fl
 have l:∀c xs,H1 c=none->H' c=some (.lst xs)->upd H' fl (.lst (ws++[v])) c=some (.lst xs):=λc xs e1 e2=>by
  rw[au (λz:c=fl=>n1 (z▸e1))];exact e2
 refine⟨λc o h1 h2 e=> ?_,aa,?_,?_,?_⟩
 .rw[au (aw e n0)];exact h.kp _ _ h1 h2 e
 .rw[cu];exact i_ (mK (λ_ e=>e) k l h.dat) (.cons (Na (λ_ e=>e) k l g) .nil)
 .obtain⟨x,y,z,hb,r⟩:=h.box;exact⟨x,y,z,by rw[au nb.symm];exact hb,r⟩
 .rw[au nf.symm];exact h.left
structure BdN(rm k:Nat)(lv:Int)(kc:Nat)(m:Int)(ds:List Dd):Prop where
 ok:∀d∈ds,ia d
 dp:∀d∈ds,mB d<=rm
 mn:ds.length+(ds.map lG).sum+m.toNat<=lv.toNat
 kb:(kc:Int)+30*m<=k+30*lv+1
 lo:0<=lv-> -(2*(rm:Int))<=m
 ZA:lv<0->m=lv
 le:m<=lv
theorem BdN.push{rm k:Nat}{lv:Int}{kc ZL :Nat}{m m' :Int}{ds:List Dd}{d:Dd}(h:BdN rm k lv kc m ds)(hm:1<=m)(ok:ia d)(dp:mB d<=rm)(mn:1+lG d+m'.toNat<=m.toNat)(kb:(ZL :Int)+30*m'<=kc+30*m)(lo: -(2*(rm:Int))<=m')(le:m'<=m):BdN rm k lv ZL m' (ds++[d]):=by
 have h1:=h.mn;have h2:=h.kb;have h3:=h.le;have h4:=h.ZA;refine⟨λx hx=> ?_,λx hx=> ?_,?_,by lia,λ_=>lo,λz=>by have:=h4 z;lia,by lia⟩
 .rcases cW.mp hx with hx|hx
  .exact h.ok x hx
  .rw[fB.mp hx];exact ok
 .rcases cW.mp hx with hx|hx
  .exact h.dp x hx
  .rw[fB.mp hx];exact dp
 .rw[aT,cu,List.sum_append];show ds.length+1+((ds.map lG).sum+(lG d+0))+m'.toNat<=_
  lia
structure Af(n:Nat)(H:Hp)(b lf nl ll al:Y')(rm k:Nat)(lv:Int)(ns BF ar:aj):Prop where
 room:rm<n
 r8:rm<=8
 box:di H b k
 left:H lf=some (.lst [.int lv])
 low: -40+2*(rm:Int)<=lv
 up:lv<=44
 kb:(k:Int)+30*lv+2000<=90000
 nm:CL H nl ns
 ne:ns≠[]
 lb:CL H ll BF
 lg:∀x∈BF,x≠ "ground"
 arA:CL H al ar
 arn:ar.length+rm<=20
 d1:lf≠b
 d2:nl≠b/\nl≠lf
 d3:ll≠b/\ll≠lf
 d4:al≠b/\al≠lf
structure AK(H:Hp)(b lf l:Y')(rm k:Nat)(lv:Int)(ds:List Dd)(H' :Hp)(k' :Nat)(Fw :Int):Prop where
 new:H l=none
 ls:∃ws,H' l=some (.lst ws)/\DatAll (jm H H') ws (ds.map dD)
 ok:∀d∈ds,ia d
 dp:∀d∈ds,mB d<=rm
 mn:ds.length+(ds.map lG).sum+Fw.toNat<=lv.toNat
 box:di H' b k'
 left:H' lf=some (.lst [.int Fw])
 kb:(k' :Int)+30*Fw<=k+30*lv+1
 lo:0<=lv-> -(1+2*(rm:Int))<=Fw
 ZA:lv<0->lv - 1<=Fw
 le:Fw<=lv
 kp:hW b lf H H'
theorem CL.k2{H H' :Hp}{l b f:Y'}{ns:aj}(h:CL H l ns)(k:hW b f H H')(n:l≠b/\l≠f):CL H' l ns:=⟨k _ _ n.1 n.2 h.1,h.2⟩
theorem Af.again{n n' :Nat}{H H' :Hp}{b lf nl ll al Ku :Y'}{rm rm' k k' :Nat}{lv Fw :Int}{ns BF ar ar' :aj}(h:Af n H b lf nl ll al rm k lv ns BF ar)(hr:rm' <n')(hr1:rm' +1=rm)(kp:hW b lf H H')(B:di H' b k')(L:H' lf=some (.lst [.int Fw]))(lo: -(2*(rm' :Int)+1)<=Fw)(up:Fw<=lv)(kb:(k' :Int)+30*Fw<=k+30*lv)(a:CL H' Ku ar')(d:Ku≠b/\Ku≠lf)(hl:ar'.length<=ar.length+1):Af n' H' b lf nl ll Ku rm' k' Fw ns BF ar' :=by
 have h1:=h.r8;have h2:=h.up;have h3:=h.kb;have h4:=h.arn;exact⟨hr,by lia,B,L,by lia,by lia,by lia,h.nm.k2 kp h.d2,h.ne,h.lb.k2 kp h.d3,h.lg,a,by lia,h.d1,h.d2,h.d3,d⟩
theorem Wi{s1 s2:Ds}{t u:Bool}(h1:fR s1)(h2:fR s2):ia (.mk "either" [] (.cons t s1 (.cons u s2 .nil))):=by
 rw[ia,i3,i3,i3];exact⟨⟨[],by show(("either" :Str),(["body","body"]:aj))∈bH;decide+kernel,.nil⟩,h1,h2,True.intro⟩
theorem X5{s1:Ds}{t:Bool}{l:Str}(h1:fR s1)(hl:ck l=true)(hg:l≠ "ground"):ia (.mk "frame" [.str l] (.cons t s1 .nil)):=by
 rw[ia,i3,i3];exact⟨⟨["label"],by show(("frame" :Str),(["label","body"]:aj))∈bH;decide+kernel,.cons (.label l hl hg) .nil⟩,h1,True.intro⟩
theorem YT{s1:Ds}{t:Bool}{l:Str}{m n:Int}(h1:fR s1)(hl:ck l=true)(hg:l≠ "ground")(m1:1<=m)(m3:m<=3)(n0:0<=n)(n4:n<=4):ia (.mk "turns" [.str l,.int m,.int n] (.cons t s1 .nil)):=by
 rw[ia,i3,i3];exact⟨⟨["label","many","times"],by show(("turns" :Str),(["label","many","times","body"]:aj))∈bH;decide+kernel,.cons (.label l hl hg) (.cons (.num "many" 1 3 m (by decide+kernel) m1 m3) (.cons (.num "times" 0 4 n (by decide+kernel) n0 n4) .nil))⟩,h1,True.intro⟩
theorem Xo{tt:TT}{a b:TS}{D:Ends}{σ:L2.St}{H:Hp}(C:Prop)(ht:∀Q' :Bool->Hp->Prop,(∀H8,ai H H8->C->Q' true H8)->(∀H8,ai H H8->¬C->Q' false H8)->tt σ H Q')(ha:∀H8,ai H H8->C->a D σ H8)(hb:∀H8,ai H H8->¬C->b D σ H8):XT tt a b D σ H:=
 ht _ (λH8 s c=>cD (ha H8 s c)) (λH8 s c=>cf (hb H8 s c))
theorem AK.WM{H8 H1 Ha Hz:Hp}{b lf l:Y'}{rm k k' :Nat}{lv Fw :Int}{ds:List Dd}{ws:ak}(po:AK H8 b lf l rm k lv ds Ha k' Fw)(o:∀c,H8 c=none->H1 c=none)(x1:H8 b≠none)(x2:H8 lf≠none)(kk:hW b lf Ha Hz)(h:DatAll (jm H8 Ha) ws (ds.map dD)):DatAll (jm H1 Hz) ws (sL (Ds.of ds)):=by
 rw[acF];exact mK o (kk.kt po.box po.left) (λc xs e1 e2=>kk c _ (λz=>x1 (z▸e1)) (λz=>x2 (z▸e1)) e2) h
theorem AK.lst{H8 H1 Ha Hz:Hp}{b lf l:Y'}{rm k k' :Nat}{lv Fw :Int}{ds:List Dd}{ws:ak}(po:AK H8 b lf l rm k lv ds Ha k' Fw)(o:∀c,H8 c=none->H1 c=none)(x1:H8 b≠none)(x2:H8 lf≠none)(kk:hW b lf Ha Hz)(e:Ha l=some (.lst ws))(h:DatAll (jm H8 Ha) ws (ds.map dD)):Dat (jm H1 Hz) (.ref l) (iR false (sL (Ds.of ds))):=
 .lst (Bz (o _ po.new) (kk _ _ (λz=>x1 (z▸po.new)) (λz=>x2 (z▸po.new)) e)) (po.WM o x1 x2 kk h)
def WL(n:Nat):Sp:=λvs H Q _=>∃(b lf nl ll al:Y') (rm k:Nat) (lv:Int) (ns BF ar:aj),vs=[.ref b,.ref lf,.ref nl,.ref ll,.ref al,.int rm]/\Af n H b lf nl ll al rm k lv ns BF ar/\
 ∀l ds H' k' Fw,AK H b lf l rm k lv ds H' k' Fw->Q (.ref l) H'
theorem Fc(T:Txt K mg A)(n:Nat):aQ P w K mg base cY (2+n) A.pQ A.xB ["_law_box_here","_law_left","_law_names_here","_law_labels","_law_around","_law_room"] (WL n):=by
 induction n with
 |zero=>exact eT (by rintro vs H Q E ⟨b,lf,nl,ll,al,rm,k,lv,ns,BF,ar,_,h,_⟩;exact g_ _ h.room)
 |succ n ih=>
 show aQ P w K mg base cY ((2+n)+1) _ _ _ _;refine T.jq.F.ok dz (λvs H Q E h=> ?_) (λcC Ar outer s0 H vs Q E hr h=> ?_)
 .obtain⟨b,lf,nl,ll,al,rm,k,lv,ns,BF,ar,rfl,_⟩:=h;rfl
 .obtain⟨b,lf,nl,ll,al,rm,k,lv,ns,BF,ar,rfl,pre,q⟩:=h
  have Zs:(mQ cY P w K mg base ["_law_box_here","_law_left","_law_names_here","_law_labels","_law_around","_law_room","_law_found","_law_turn","_law_kind","_law_free","_law_one","_law_label","_law_many","_law_times","_law_inner"] "_law_body" (ao qi) A.pQ cC Ar outer s0 H E).Mt.A.units<cLine:=by
   have:=hr.un;show(Ar.deeper _).units<cLine;omega
  obtain⟨ajZ,r8,B,Qt,low,up,kb,hnm,o8,hlb,hlg,QM,arn,d1,d2,d3,d4⟩:=id pre;refine⟨_,(af (eL 6 dz.nd (a8 c_)) (af (yI (h_ Z T.lL (aF (cv (aI T) hr T.aO aA (ag (pv 0) (aF (cJ aP (a8 (ag ae (aF ae))) (GX xg T.DS Boot.«int» (aF (HG (BL Zs) (pv 4) (a8 c_))))))) (hj:=by lia)))) (ie 7 dz.nd) (af (eL 8 dz.nd (cv (aI T) hr T.aO aA (ag (pv 0) (aF ae)) (hj:=by lia))) (af (Fz (aH jC (cJ aP (pv 1) ae) ae) (Jy (pv 1) ae jac)) (af (G0 9 dz.nd ["_law_label","_law_around"] 1 [4] (fb (pv 3)) (λ_ _ _ _ _=>⟨(ie 0 (show(["_law_label","_law_around"]:aj).Nodup by decide+kernel)),(Rx (jp (Cj (K:=K) Z) (pv 0) (pv 1))),(pv 0)⟩)) (af (a_ (jp DF (cJ aP (pv 1) ae) ae) (ah (aB (pv 6))) aK) (ah (a_ (PW.pt (WP (jp kR (pv 8) ae) (WP (jp cM (pv 5) ae) (WF (PW.pt (wv (jp (BL Zs) (pv 9) (a8 c_)) (ww (jp DF (pv 8) ae)))))))) (ah (bj (cR dC F' G' cA (pv 6) (aF (cv (Bt T) hr T.se aA (ag (pv 0) (ag (pv 2) (aF (pv 4)))) (hj:=by lia)))))) (ah (a_ (jp cM (pv 8) ae) (af (eL 10 dz.nd (cv ih hr T.jq aA (ag (pv 0) (ag (pv 1) (ag (pv 2) (ag (pv 3) (ag (pv 4) (aF (aH jC (pv 5) ae))))))) (hj:=by lia))) (ah (bj (cR dC F' G' cA (pv 6) (aF (ba (ag ax (ag (pv 10) (aF (GX dG T.jf Boot.«tuple» (aF (cv ih hr T.jq aA (ag (pv 0) (ag (pv 1) (ag (pv 2) (ag (pv 3) (ag (pv 4) (aF (aH jC (pv 5) ae))))))) (hj:=by lia))))))))))))) (af (eL 11 dz.nd (cJ aP (pv 9) (cv (aI T) hr T.aO aA (ag (pv 0) (aF (iY aV T.dY Boot.«len» (aF (pv 9))))) (hj:=by lia)))) (af (Nm (i:=12) (j:=13) Z dz.nd Z Z (by decide) Z Z (ag (aH bB ae (cv (aI T) hr T.aO aA (ag (pv 0) (aF ae)) (hj:=by lia))) (aF (cv (aI T) hr T.aO aA (ag (pv 0) (aF ae)) (hj:=by lia)))) (by rfl)) (af (eL 14 dz.nd (cv ih hr T.jq aA (ag (pv 0) (ag (pv 1) (ag (pv 2) (ag (pv 3) (ag (aH i6 (a8 (aF (pv 11))) (pv 4)) (aF (aH jC (pv 5) ae))))))) (hj:=by lia))) (ah (bj (cR dC F' G' cA (pv 6) (aF (cJ aP (a8 (ag (ba (ag ax (ag (pv 11) (aF (GX dG T.jf Boot.«tuple» (aF (pv 14))))))) (aF (ba (ag ax (ag (pv 11) (ag (pv 12) (ag (pv 13) (aF (pv 14)))))))))) (pv 8)))))))))))))))))) (ah (aB (pv 6))))),?_⟩;refine⟨jy,λfl lI=> ?_⟩;have s1:=ai.upd (o:= .lst []) lI;have e1:upd H fl (.lst []) fl=some (.lst []):=aa;have f1:∀c,upd H fl (.lst []) c=none->H c=none:=λc h=>s1.free h
  have g1:∀c o,upd H fl (.lst []) c=some o->c=fl\/∃o,H c=some o:=λc o h=>by
   by_cases z:c=fl
   .exact .inl z
   .rw[au z] at h;exact .inr ⟨o,h⟩
  generalize upd H fl (.lst [])=H1 at s1 e1 f1 g1 ⊢;have nb:fl≠b:=B.ne lI;have nf:fl≠lf:=(aw Qt lI).symm
  have x1:H1 b≠none:=by
   obtain⟨x,y,z,hb,_⟩:=B;rw[s1 _ _ hb];exact λz=>nomatch z
  have x2:H1 lf≠none:=by rw[s1 _ _ Qt];exact λz=>nomatch z
  have x3:H1 fl≠none:=by rw[e1];exact λz=>nomatch z
  have old:∀{H' :Hp} {kc:Nat} {m:Int} {ds:List Dd} {ws:ak},NA H H1 b lf fl H' kc m ds ws->∀c,H' c=none->H1 c=none:=λ{H' kc m ds ws} D c h=>by
   cases e:H1 c with
   |none=>rfl
   |some o=>
    rcases g1 c o e with z|⟨o',z⟩
    .rw[z,D.fl] at h;cases h
    .by_cases zb:c=b
     .obtain⟨x,y,z',hb,_⟩:=D.box;rw[zb,hb] at h;cases h
     .by_cases zf:c=lf
      .rw[zf,D.left] at h;cases h
      .rw[D.kp _ _ zb zf z] at h;cases h
  have xb:∀{H' :Hp} {kc:Nat} {m:Int} {ds:List Dd} {ws:ak},NA H H1 b lf fl H' kc m ds ws->H' b≠none/\H' lf≠none:=λ{H' kc m ds ws} D=>by
   obtain⟨x,y,z',hb,_⟩:=D.box;rw[hb,D.left];exact⟨λz=>(nomatch z),λz=>(nomatch z)⟩
  have D1:NA H H1 b lf fl H1 k lv [] []:=⟨s1.ig,e1,.nil,B.same s1,s1 _ _ Qt⟩;refine⟨_,Z,fT,λp2 Cm=>⟨_,Z,jy,λp3 zg=> ?_⟩⟩;have u2:=ai.upd (o:= .lst [V.int 5,V.int 14]) Cm;have u3:=ai.upd (o:= .lst []) zg;have s3:=u2.trans u3;have e3:=u3 _ _ (aa (H:=H1) (a:=p2) (o:= .lst [V.int 5,V.int 14]));refine Ko (s3 _ _ (s1 _ _ QM.1)) aa ?_;generalize upd (upd H1 p2 (.lst [V.int 5,V.int 14])) p3 (.lst [])=H3 at s3 e3 ⊢;refine .inr ⟨_,Z,?_⟩;refine gy (λv=>∃i:Int,v= .int i/\0<i/\i<=14) e3 (by split<;>decide) (by split;exact(show(1:Int)<2 by decide);exact(show(0:Int)<2 by decide)) ?_ λv hv=> ?_
  .intro z hz;simp only[aN,cF,cH] at hz
   rcases hz with rfl|rfl<;>exact⟨_,rfl,by decide,by decide⟩
  obtain⟨up2,rfl,u0,u14⟩:=hv;have D3:=D1.move x1 x2 nb nf s3.ig (D1.box.same s3) (s3 _ _ D1.left);refine⟨b,up2,k,Z,D3.box,by lia,u0,by lia,λcnt H4 c0 c1 B4 O4=> ?_⟩;have D4:=D3.move x1 x2 nb nf O4.kept.ig B4 (O4.kept _ _ d1 D3.left);refine⟨cnt,Z,by lia,by lia,?_⟩;refine we (λi σ H' =>∃(x7 x8 x9 x10 x11 x12 x13 x14:Option V) (kc:Nat) (m:Int) (ds:List Dd) (ws:ak),σ=[some (.ref b),some (.ref lf),some (.ref nl),some (.ref ll),some (.ref al),some (.int rm),some (.ref fl),x7,x8,x9,x10,x11,x12,x13,x14]/\NA H H1 b lf fl H' kc m ds ws/\BdN rm k lv kc m ds) ⟨_,_,_,_,_,_,_,_,k+1,lv,[],[],Z,D4,⟨(λ_ h=>nomatch h),(λ_ h=>nomatch h),by simp,by lia,λh=>by lia,λ_=>rfl,Int.le_refl _⟩⟩ ?_ ?_
  .rintro i σ H' hi ⟨x7,x8,x9,x10,x11,x12,x13,x14,kc,m,ds,ws,rfl,D,N⟩
   obtain⟨Nok,Ndp,Nmn,Nkb,Nlo,Ql,Nle⟩:=id N
   have mlo: -40<=m:=by
    by_cases h0:0<=lv
    .have:=Nlo h0
     lia
    .have:=Ql (by lia)
     lia
   have wl:ws.length<=44:=by
    have:=cQ D.dat;rw[aG] at this
    lia
   have Zm:ws.length<sizeLine:=eB (by lia);refine⟨_,Z,b,7,kc,Z,D.box,by lia,by decide,by decide,λkind H5 k0 k1 B5 O5=> ?_⟩;have D5:=D.move x1 x2 nb nf O5.kept.ig B5 (O5.kept _ _ d1 D.left);refine⟨_,Z,lf,_,0,_,Z,Z,bq.of D5.left,Z,_,_,Z,Z,_,Z,lf,_,0,0,Z,Z,D5.left,Z,?_⟩
   have D6:NA H H1 b lf fl (upd H5 lf (.lst [.int (m - 1)])) (kc+1) (m - 1) ds ws:=D5.move x1 x2 nb nf (λc o h1 h2 e=>by rw[au h2];exact e) (by
    obtain⟨x,y,z,hb,r⟩:=D5.box;exact⟨x,y,z,by rw[au d1.symm];exact hb,r⟩) aa
   show QL _ _ _ _ (upd H5 lf (.lst [.int (m - 1)]));generalize upd H5 lf (.lst [.int (m - 1)])=H6 at D6 ⊢;have nm6:=hnm.k2 D6.kp d2;have lb6:=hlb.k2 D6.kp d3;have ar6:=QM.k2 D6.kp d4;have lbl:=lb6.2.1;refine⟨_,Z,ll,Z,⟨_,bq.of lb6.1⟩,?_⟩;refine m7 (λv=>match v with| .str z=>decide (z∉ar)|_=>false) (λv=>v) (gZ (bq.of lb6.1)) (by rw[aG];exact cV (eB (by lia))) ?_ λp7 Tx=> ?_
   .intro j y H7 C1 C0 hy sm c1 c0;rw[bG] at hy
    cases ex:BF[j]? with
    |none=>rw[ex] at hy;cases hy
    |some z=>
     rw[ex] at hy;cases hy;refine⟨(fU.refl _).own (by decide),_,Z,_,Z,al,_,Z,.inl (bq.of (sm _ _ ar6.1)),Z,hX _,_,Z,?_⟩;show if(!yY (V.str z) (ar.map V.str))=true then _ else _
     rw[ng];by_cases hz:z∈ar
     .rw[aU hz];exact cf (c0 (bf (λh=>h hz)))
     .rw[bf hz];exact cD ⟨_,Z,c1 (aU hz)⟩
   obtain⟨fr,ud,afM⟩:∃fr:aj,((BF.map V.str).filter λv=>match v with| .str z=>decide (z∉ar)|_=>false).map (λv=>v)=fr.map V.str/\∀x∈fr,x∈BF:=by
    refine⟨BF.filter λz=>decide (z∉ar),?_,λx hx=>(vL.mp hx).1⟩;rw[List.map_id',List.filter_map];rfl
   rw[ud];have u7:=ai.upd (o:= .lst (fr.map V.str)) Tx;have e7:upd H6 p7 (.lst (fr.map V.str)) p7=some (.lst (fr.map V.str)):=aa;have aeM:p7≠b:=D6.box.ne Tx;have al_:p7≠lf:=(aw D6.left Tx).symm;have D7:=D6.move x1 x2 nb nf u7.ig (D6.box.same u7) (u7 _ _ D6.left);show QL _ _ _ _ (upd H6 p7 (.lst (fr.map V.str)));generalize upd H6 p7 (.lst (fr.map V.str))=H7 at u7 e7 D7 ⊢;refine⟨_,Z,lf,_,0,_,Z,Z,bq.of D7.left,Z,_,0,Z,Z,_,Z,?_⟩;refine sV (λhm=> ?_) (λhm=> ?_)
   .have hm:m - 1<0:=bo hm;refine⟨_,Z,q fl ds H7 (kc+1) (m - 1) ⟨lI,⟨ws,D7.fl,mK f1 (λ_ _ e=>e) (λ_ _ _ e=>e) D7.dat⟩,Nok,Ndp,by lia,D7.box,D7.left,by lia,λh=>by have:=Nlo h;lia,λh=>by have:=Ql h;lia,by lia,D7.kp⟩⟩
   .have hm:¬m - 1<0:=λz=>hm (aU z);have nm7:=hnm.k2 D7.kp d2;have lb7:=hlb.k2 D7.kp d3;have ar7:=QM.k2 D7.kp d4;unfold NG;dsimp only;refine Xo (2<kind\/rm=0\/(fr=[]/\kind<2)) (λQ' qT qF=> ?_) (λH8 s8 hC=> ?_) (λH8 s8 hC=> ?_)
    .refine⟨_,Z,_,_,Z,Z,_,Z,?_⟩;refine sV (λh1=>qT _ (ai.refl _) (.inl (bo h1))) (λh1=> ?_);have h1:¬2<kind:=λz=>h1 (aU z);refine⟨_,Z,Z,_,Z,?_⟩;by_cases h2:rm=0
     .rw[h2];exact Wp (qT _ (ai.refl _) (.inr (.inl h2)))
     .refine g7 (λz=>h2 (by have:=V.int.inj z;lia)) ⟨_,Z,jy,λp8 Lz=> ?_⟩;have u8:=ai.upd (o:= .lst []) Lz;refine Ko (u8 _ _ e7) aa ⟨_,Z,?_⟩
      cases hf:fr with
      |nil=>
       refine cD ⟨_,Z,_,_,Z,Z,_,Z,?_⟩;by_cases h3:kind<2
       .rw[aU h3];exact qT _ u8 (.inr (.inr ⟨hf,h3⟩))
       .rw[bf h3];exact qF _ u8 (λz=>z.elim h1 λz=>z.elim h2 λz=>h3 z.2)
      |cons z zs=>exact cf (qF _ u8 (λz=>z.elim h1 λz=>z.elim h2 λz=>by rw[hf] at z;cases z.1))
    .have D8:=D7.move x1 x2 nb nf s8.ig (D7.box.same s8) (s8 _ _ D7.left);refine⟨_,Z,zx D8.fl,_,Z,_,Z,_,Z,b,nl,al,kc+1,ns,ar,Z,D8.box,by lia,⟨s8 _ _ nm7.1,nm7.2⟩,o8,⟨s8 _ _ ar7.1,ar7.2⟩,d2.1,d4.1,λv H9 sm9 B9 K9=> ?_⟩;have D9:=D8.move x1 x2 nb nf K9.ig B9 (K9 _ _ d1 D8.left);obtain⟨wd,ps,td,jc⟩:=sm9;refine⟨fl,ws,v,Z,Z,D9.fl,Zm,_,_,_,_,_,_,_,_,kc+1+20,m - 1,ds++[.mk wd ps .nil],ws++[v],Z,D9.push lI x3 nb nf (QT td),N.push (by lia) jc (by rw[mB,nk];exact bU _) (by rw[lG,l6];lia) (by lia) (by lia) (by lia)⟩
    .have D8:=D7.move x1 x2 nb nf s8.ig (D7.box.same s8) (s8 _ _ D7.left);have h1:¬2<kind:=λz=>hC (.inl z);obtain⟨r,rfl⟩:∃r,rm=r+1:=⟨rm - 1,by have:rm≠0:=λz=>hC (.inr (.inl z));lia⟩;have er:(((r+1:Nat):Int) - 1)=(r:Int):=by lia
     refine⟨_,Z,Z,_,Z,?_⟩;by_cases h2:kind=2
     .rw[h2];refine Wp ?_;have WA:Af n H8 b lf nl ll al r (kc+1) (m - 1) ns BF ar:=pre.again (by lia) Z D8.kp D8.box D8.left (by lia) (by lia) (by lia) (QM.k2 D8.kp d4) d4 (by lia);refine⟨_,Z,_,Z,_,Z,_,Z,_,Z,_,Z,_,1,Z,Z,b,lf,nl,ll,al,r,kc+1,m - 1,ns,BF,ar,by simp only[er,bZ],WA,λl1 Qa Ha k1' m1 yX=> ?_⟩;obtain⟨Zp,ea,da⟩:=yX.ls;have D9:=D8.move x1 x2 nb nf yX.kp yX.box yX.left;have lo1:=yX.lo (by lia);have le1:=yX.le;have kb1:=yX.kb;have mn1:=yX.mn;have afz:Af n Ha b lf nl ll al r k1' m1 ns BF ar:=pre.again (by lia) Z D9.kp D9.box D9.left (by lia) (by lia) (by lia) (QM.k2 D9.kp d4) d4 (by lia);refine⟨_,Z,zx D9.fl,_,Z,_,Z,_,Z,_,Z,_,Z,_,Z,_,Z,_,1,Z,Z,b,lf,nl,ll,al,r,k1',m1,ns,BF,ar,by simp only[er,bZ],afz,λl2 ds2 Hb k2' m2 Lu=> ?_⟩;obtain⟨ws2,eb,db⟩:=Lu.ls;have WX:=D9.move x1 x2 nb nf Lu.kp Lu.box Lu.left;refine⟨l2,ws2,Z,.inl ⟨bq.of eb,λt2 vR=>⟨sY,λt3 pf=> ?_⟩⟩⟩;have v2:=ai.upd (o:= .tup ws2) vR;have v3:=ai.upd (o:= .tup [V.str "either",.ref l1,.ref t2]) pf;have rW:=v2.trans v3;have Td:=v3 _ _ (aa (H:=Hb) (a:=t2) (o:= .tup ws2));have Vq:upd (upd Hb t2 (.tup ws2)) t3 (.tup [V.str "either",.ref l1,.ref t2]) t3=some (.tup [V.str "either",.ref l1,.ref t2]):=aa;generalize upd (upd Hb t2 (.tup ws2)) t3 (.tup [V.str "either",.ref l1,.ref t2])=Hz at rW Td Vq ⊢;have Mc:=WX.move x1 x2 nb nf rW.ig (WX.box.same rW) (rW _ _ WX.left);have ZA:=Lu.lo;have lo3:=Lu.ZA;have le2:=Lu.le;have kb2:=Lu.kb;have mn2:=Lu.mn;have dd1:Dat (jm H1 Hz) (.ref l1) (iR false (sL (Ds.of Qa))):=yX.lst (old D8) (xb D8).1 (xb D8).2 (Lu.kp.trans rW.ig) ea da;have XY:Dat (jm H1 Hz) (.ref t2) (iR true (sL (Ds.of ds2))):= .tup (jx Td) (Lu.WM (old D9) (xb D9).1 (xb D9).2 rW.ig db);have dp1:=Gd yX.dp;have dp2:=Gd Lu.dp;have mm1:=Kg Qa;have mm2:=Kg ds2;refine⟨fl,ws,_,Z,Z,Mc.fl,Zm,_,_,_,_,_,_,_,_,k2',m2,ds++[.mk "either" [] (.cons false (Ds.of Qa) (.cons true (Ds.of ds2) .nil))],_,Z,Mc.push lI x3 nb nf ?_,N.push (by lia) (Wi (jai yX.ok) (jai Lu.ok)) (by rw[mB,nk,nk,nk];lia) (by rw[lG,l6,l6,l6];lia) (by lia) ?_ (by lia)⟩
      .rw[dD,bL,bL,bL];exact .tup (jx Vq) (.cons (.str _) (.cons dd1 (.cons XY .nil)))
      .by_cases h0:0<=m1
       .have:=ZA h0
        lia
       .have:=lo3 (by lia)
        lia
     .refine g7 (λz=>h2 (V.int.inj z)) ?_;have RN:kind<2:=by lia
      have aeB:fr≠[]:=λz=>hC (.inr (.inr ⟨z,RN⟩));have frp:=List.length_pos_iff.mpr aeB
      have frl:fr.length<=100:=by
       have h1:=congrArg List.length ud;rw[aG,aG] at h1;have h2:=y0 (λv:V=>match v with| .str z=>decide (z∉ar)|_=>false) (BF.map V.str);rw[aG] at h2
       lia
      have e8:=s8 _ _ e7;refine⟨_,Z,_,Z,_,Z,p7,_,Z,.inl (bq.of e8),b,_,kc+1,Z,D8.box,by lia,by rw[aG];lia,by rw[aG];lia,λr9 H9 a0 a1 B9 O9=> ?_⟩;have D9:=D8.move x1 x2 nb nf O9.kept.ig B9 (O9.kept _ _ d1 D8.left);refine gy (λv=>∃z,v= .str z/\z∈BF) (O9.kept _ _ aeM e8) a0 a1 (λv hv=> ?_) λv hv=> ?_
      .obtain⟨z,hz,rfl⟩:=fZ.mp hv;exact⟨z,Z,afM z hz⟩
      obtain⟨iM,rfl,acy⟩:=hv;have lbn:=hlb.2.2 iM acy;have lbg:=hlg iM acy;refine⟨_,Z,b,3,kc+1+1,Z,D9.box,by lia,by decide,by decide,λm3 Mu b0 b1 B10 O10=> ?_⟩;have WX:=D9.move x1 x2 nb nf O10.kept.ig B10 (O10.kept _ _ d1 D9.left);refine⟨1,m3,Z,Z,_,Z,b,5,kc+1+1+1,Z,WX.box,by lia,by decide,by decide,λt5 HN c0' c1' B11 O11=>⟨_,_,Z,?_⟩⟩;have Zf:=WX.move x1 x2 nb nf O11.kept.ig B11 (O11.kept _ _ d1 WX.left);have aeZ:=QM.k2 Zf.kp d4;refine⟨_,Z,_,Z,_,Z,_,Z,_,Z,ki,λp12 WG=>⟨_,Z,p12,al,_,_,Z,Z,aa,ai.upd WG _ _ aeZ.1,?_,λKu OG => ?_⟩⟩
      .rw[aG];exact cV (eB (show 1+ar.length<=100000 by lia))
      have Rj:=(ai.upd (o:= .lst [V.str iM]) WG).trans (ai.upd (o:= .lst ([V.str iM]++ar.map V.str)) OG);have e12:upd (upd HN p12 (.lst [V.str iM])) Ku (.lst ([V.str iM]++ar.map V.str)) Ku =some (.lst ([V.str iM]++ar.map V.str)):=aa;have f12:HN Ku =none:=(ai.upd (o:= .lst [V.str iM]) WG).free OG;generalize upd (upd HN p12 (.lst [V.str iM])) Ku (.lst ([V.str iM]++ar.map V.str))=H12 at Rj e12 ⊢;have Mc:=Zf.move x1 x2 nb nf Rj.ig (Zf.box.same Rj) (Rj _ _ Zf.left);have d12:Ku≠b/\Ku≠lf:=⟨Zf.box.ne f12,(aw Zf.left f12).symm⟩
      have aeA:CL H12 Ku (iM::ar):=⟨e12,by rw[aZ];lia,λx hx=>by
       rcases aN.mp hx with rfl|hx
       .exact lbn
       .exact QM.2.2 x hx⟩
      have WA:Af n H12 b lf nl ll Ku r (kc+1+1+1+1) (m - 1) ns BF (iM::ar):=pre.again (by lia) Z Mc.kp Mc.box Mc.left (by lia) (by lia) (by lia) aeA d12 (by rw[aZ];lia);refine⟨_,Z,_,1,Z,Z,b,lf,nl,ll,Ku,r,kc+1+1+1+1,m - 1,ns,BF,iM::ar,by simp only[er,bZ],WA,λl1 Qa Ha k1' m1' yX=> ?_⟩;obtain⟨Zp,ea,da⟩:=yX.ls;have D13:=Mc.move x1 x2 nb nf yX.kp yX.box yX.left;have lo1:=yX.lo (by lia);have le1:=yX.le;have kb1:=yX.kb;have mn1:=yX.mn;refine⟨_,Z,zx D13.fl,_,Z,_,Z,l1,Zp,Z,.inl ⟨bq.of ea,λt1 o_=>⟨sY,λt2 vR=> ?_⟩⟩⟩;have v1:=ai.upd (o:= .tup Zp) o_;have v2:=ai.upd (o:= .tup [V.str "frame",.str iM,.ref t1]) vR;have rW:=v1.trans v2;have et1:=v2 _ _ (aa (H:=Ha) (a:=t1) (o:= .tup Zp));have Td:upd (upd Ha t1 (.tup Zp)) t2 (.tup [V.str "frame",.str iM,.ref t1]) t2=some (.tup [V.str "frame",.str iM,.ref t1]):=aa;generalize upd (upd Ha t1 (.tup Zp)) t2 (.tup [V.str "frame",.str iM,.ref t1])=Hb at rW et1 Td ⊢;refine⟨_,Z,_,Z,_,Z,_,Z,aak,λt3 pf=>⟨fT,λp4 Io=> ?_⟩⟩;have v3:=ai.upd (o:= .tup [V.str "turns",.str iM,.int (1+m3),.int t5,.ref l1]) pf;have v4:=ai.upd (o:= .lst [V.ref t2,.ref t3]) Io;have Fg:=v3.trans v4;have Vq:=v4 _ _ (aa (H:=Hb) (a:=t3) (o:= .tup [V.str "turns",.str iM,.int (1+m3),.int t5,.ref l1]));have ep4:upd (upd Hb t3 (.tup [V.str "turns",.str iM,.int (1+m3),.int t5,.ref l1])) p4 (.lst [V.ref t2,.ref t3]) p4=some (.lst [V.ref t2,.ref t3]):=aa;refine⟨_,Z,?_⟩;generalize upd (upd Hb t3 (.tup [V.str "turns",.str iM,.int (1+m3),.int t5,.ref l1])) p4 (.lst [V.ref t2,.ref t3])=Hz at Fg Vq ep4 ⊢;have s14:=rW.trans Fg;have D14:=D13.move x1 x2 nb nf s14.ig (D13.box.same s14) (s14 _ _ D13.left);have dd1:Dat (jm H1 Hz) (.ref l1) (iR false (sL (Ds.of Qa))):=yX.lst (old Mc) (xb Mc).1 (xb Mc).2 s14.ig ea da;have XY:Dat (jm H1 Hz) (.ref t1) (iR true (sL (Ds.of Qa))):= .tup (jx (Fg _ _ et1)) (yX.WM (old Mc) (xb Mc).1 (xb Mc).2 s14.ig da);have dp1:=Gd yX.dp;have mm1:=Kg Qa;refine gy (λv=>∃d,Dat (jm H1 Hz) v (dD d)/\ia d/\mB d<=r+1/\lG d=dF (Ds.of Qa)) ep4 k0 RN (λv hv=> ?_) λv hv=> ?_
      .simp only[aN,cF,cH] at hv;rcases hv with rfl|rfl
       .refine⟨.mk "frame" [.str iM] (.cons true (Ds.of Qa) .nil),?_,X5 (jai yX.ok) lbn lbg,by rw[mB,nk,nk];lia,by rw[lG,l6,l6];lia⟩;rw[dD,bL,bL];exact .tup (jx (Fg _ _ Td)) (.cons (.str _) (.cons (.str _) (.cons XY .nil)))
       .refine⟨.mk "turns" [.str iM,.int (1+m3),.int t5] (.cons false (Ds.of Qa) .nil),?_,YT (jai yX.ok) lbn lbg (by lia) (by lia) (by lia) (by lia),by rw[mB,nk,nk];lia,by rw[lG,l6,l6];lia⟩;rw[dD,bL,bL];exact .tup (jx Vq) (.cons (.str _) (.cons (.str _) (.cons (.int _) (.cons (.int _) (.cons dd1 .nil)))))
      obtain⟨d,dd,jc,IS,P6⟩:=hv;exact⟨fl,ws,v,Z,Z,D14.fl,Zm,_,_,_,_,_,_,_,_,k1',m1',ds++[d],_,Z,D14.push lI x3 nb nf dd,N.push (by lia) jc IS (by lia) (by lia) (by lia) (by lia)⟩
  .rintro σ H' ⟨x7,x8,x9,x10,x11,x12,x13,x14,kc,m,ds,ws,rfl,D,N⟩
   obtain⟨Nok,Ndp,Nmn,Nkb,Nlo,Ql,Nle⟩:=id N;exact⟨_,Z,q fl ds H' kc m ⟨lI,⟨ws,D.fl,mK f1 (λ_ _ e=>e) (λ_ _ _ e=>e) D.dat⟩,Nok,Ndp,Nmn,D.box,D.left,Nkb,λh=>by have:=Nlo h;lia,λh=>by have:=Ql h;lia,Nle,D.kp⟩⟩
def Ni:Sp:=λvs H Q _=>∃b,vs=[.ref b]/\di H b 0/\∀l s H',H l=none->Dat H' (.ref l) (iR false (sL s))->fR s->dq s<=7->dF s<=44->(∃k',di H' b k'/\k'<=50000)->Kept b H H'->Q (.ref l) H'
theorem Cg(T:Txt K mg A):aQ P w K mg base cY 11 A.um A.uR ["_law_box_here"] Ni:=by
 refine T.uZ.F.ok fL (λvs H Q E h=> ?_) (λcC Ar outer s0 H vs Q E hr h=> ?_)
 .obtain⟨b,rfl,_⟩:=h;rfl
 .obtain⟨b,rfl,B,q⟩:=h;refine⟨_,(af (eL 1 fL.nd (cJ aP (a8 (ag ae (ag ae (ag ae (aF ae))))) (cv (aI T) hr T.aO aA (ag (pv 0) (aF ae))))) (af (eL 2 fL.nd (cJ aP (a8 (ag ae (ag ae (ag ae (aF ae))))) (cv (aI T) hr T.aO aA (ag (pv 0) (aF ae))))) (af (eL 3 fL.nd (cv (sI T) hr T.om aA (ag (pv 0) (aF (aH bB ae (cv (aI T) hr T.aO aA (ag (pv 0) (aF ae)))))))) (af (eL 4 fL.nd (cv (sI T) hr T.om aA (ag (pv 0) (aF (aH bB ae (cv (aI T) hr T.aO aA (ag (pv 0) (aF ae)))))))) (af (eL 4 fL.nd (aH i6 (L9 ["_law_label"] 1 [] (fb (pv 4)) (λ_ _ _ _ _=>⟨(ie 0 (show(["_law_label"]:aj).Nodup by decide+kernel)),(Rx (jp mN (pv 0) ax)),(pv 0)⟩)) (a8 (ag ax (aF ax))))) (ah (aB (cv (Fc T 8) hr T.jq aA (ag (pv 0) (ag (a8 (aF (pv 1))) (ag (pv 3) (ag (pv 4) (ag (a8 c_) (aF (pv 2))))))))))))))),?_⟩
  have fr:∀{H' :Hp} {c:Y'} {k' :Nat},Sw b H k' H'->H' c=none->H c=none:=λ{H' c k'} W hc=>by
   cases e:H c with
   |none=>rfl
   |some o=>rw[W.kp _ o (W.box.ne hc) e] at hc;cases hc
  refine⟨Ht,λp1 GP=> ?_⟩;have W1:Sw b H 0 _:=Sw.same ⟨B,Kept.refl _ _⟩ (ai.upd (o:= .lst [V.int 12,V.int 25,V.int 40,V.int 44]) GP);have n1:p1≠b:=B.ne GP;refine⟨_,Z,b,4,0,Z,W1.box,by lia,by decide,by decide,λr1 H2 a0 a1 B2 O2=> ?_⟩;have W2:=W1.take B2 O2;refine gy (λv=>∃i:Int,v= .int i/\0<=i/\i<=44) (O2.kept _ _ n1 aa) a0 a1 ?_ λv hv=> ?_
  .intro x hx;simp only[aN,cF,cH] at hx
   rcases hx with rfl|rfl|rfl|rfl<;>exact⟨_,rfl,by decide,by decide⟩
  obtain⟨up,rfl,u0,u1⟩:=hv;refine⟨Ht,λp3 zg=> ?_⟩;have W3:=W2.same (ai.upd (o:= .lst [V.int 2,V.int 3,V.int 6,V.int 7]) zg);have n3:p3≠b:=B2.ne zg;refine⟨_,Z,b,4,0+1,Z,W3.box,by lia,by decide,by decide,λr3 H4 b0 b1 B4 O4=> ?_⟩;have W4:=W3.take B4 O4;refine gy (λv=>∃i:Nat,v= .int (i:Int)/\i<=7) (O4.kept _ _ n3 aa) b0 b1 ?_ λv hv=> ?_
  .intro x hx;simp only[aN,cF,cH] at hx;rcases hx with rfl|rfl|rfl|rfl
   .exact⟨2,Z,by decide⟩
   .exact⟨3,Z,by decide⟩
   .exact⟨6,Z,by decide⟩
   .exact⟨7,Z,by decide⟩
  obtain⟨rm,rfl,hrm⟩:=hv;refine⟨_,Z,_,Z,b,5,0+1+1,Z,B4,by lia,by decide,by decide,λr5 H5 c0 c1 B5 O5=> ?_⟩;have W5:=W4.take B5 O5;obtain⟨j5,rfl⟩:∃j:Nat,r5=j:=⟨r5.toNat,by lia⟩;have e5:(1:Int)+(j5:Int)=((1+j5:Nat):Int):=by lia
  refine⟨1,_,Z,Z,b,1+j5,0+1+1+1,by simp only[e5,bZ],B5,by lia,by lia,λnl ns H6 Zy QU nms enl B6 K6=> ?_⟩;have W6:Sw b H (0+1+1+1+12) H6:=⟨B6,W5.kp.trans K6⟩;have nnl:nl≠b:=B5.ne Zy;refine⟨_,Z,_,Z,b,6,0+1+1+1+12,Z,B6,by lia,by decide,by decide,λr7 H7 d0 d1 B7 O7=> ?_⟩;have W7:=W6.take B7 O7;obtain⟨j7,rfl⟩:∃j:Nat,r7=j:=⟨r7.toNat,by lia⟩;have e7:(1:Int)+(j7:Int)=((1+j7:Nat):Int):=by lia
  refine⟨1,_,Z,Z,b,1+j7,0+1+1+1+12+1,by simp only[e7,bZ],B7,by lia,by lia,λll ls H8 Zv RH lms ell B8 K8=> ?_⟩;have W8:Sw b H (0+1+1+1+12+1+12) H8:=⟨B8,W7.kp.trans K8⟩;have aaE:=K8 _ _ nnl (O7.kept _ _ nnl enl);refine⟨_,Z,ll,Z,⟨_,bq.of ell⟩,?_⟩;refine m7 (λv=>match v with| .str z=>decide (z≠ "ground")|_=>false) (λv=>v) (gZ (bq.of ell)) (by rw[aG];exact cV (eB (by lia))) ?_ λp9 hp9=> ?_
  .intro j y H9 C1 C0 hy sm q1 q0;rw[bG] at hy
   cases ex:ls[j]? with
   |none=>rw[ex] at hy;cases hy
   |some z=>
    rw[ex] at hy;cases hy;refine⟨(fU.refl _).own (by decide),_,Z,Z,_,Z,?_⟩;by_cases hz:z="ground"
    .rw[show decide (V.str z=V.str "ground")=true from aU (by rw[hz])];exact cf (q0 (bf (λh=>h hz)))
    .rw[show decide (V.str z=V.str "ground")=false from bf (cw hz)];exact cD ⟨_,Z,q1 (aU hz)⟩
  obtain⟨fs,KD,lI,Zw⟩:∃fs:aj,((ls.map V.str).filter λv=>match v with| .str z=>decide (z≠ "ground")|_=>false).map (λv=>v)=fs.map V.str/\fs.length<=ls.length/\∀x∈fs,x∈ls/\x≠ "ground":=by
   refine⟨ls.filter λz=>decide (z≠ "ground"),?_,y0 _ _,λx hx=>⟨(vL.mp hx).1,bo (vL.mp hx).2⟩⟩;rw[List.map_id',List.filter_map];rfl
  rw[KD];refine⟨fT,λp10 acH=>⟨p9,p10,_,_,Z,Z,ai.upd acH _ _ aa,aa,?_,λXr aaT=> ?_⟩⟩
  .rw[aG];exact cV (eB (show fs.length+2<=100000 by lia))
  have v9:=ai.upd (o:= .lst (fs.map V.str)) hp9;have v10:=ai.upd (o:= .lst [V.str "f",.str "ff"]) acH;have v11:=ai.upd (o:= .lst (fs.map V.str++[V.str "f",.str "ff"])) aaT;have Q8:=(v9.trans v10).trans v11;have e11:upd (upd (upd H8 p9 (.lst (fs.map V.str))) p10 (.lst [V.str "f",.str "ff"])) Xr (.lst (fs.map V.str++[V.str "f",.str "ff"])) Xr=some (.lst (fs.map V.str++[V.str "f",.str "ff"])):=aa;have f11:H8 Xr=none:=(v9.trans v10).free aaT;generalize upd (upd (upd H8 p9 (.lst (fs.map V.str))) p10 (.lst [V.str "f",.str "ff"])) Xr (.lst (fs.map V.str++[V.str "f",.str "ff"]))=HN at Q8 e11 ⊢;have W11:=W8.same Q8;have n11:Xr≠b:=B8.ne f11;refine⟨_,Z,_,Z,ki,λlf Qt=>⟨_,Z,_,Z,jy,λal Ir=>⟨_,Z,?_⟩⟩⟩;have Rj:=ai.upd (o:= .lst [V.int up]) Qt;have v13:=ai.upd (o:= .lst []) Ir;have s13:=Rj.trans v13;have elf:=v13 _ _ (aa (H:=HN) (a:=lf) (o:= .lst [V.int up]));have eal:upd (upd HN lf (.lst [V.int up])) al (.lst []) al=some (.lst []):=aa;have fal:HN al=none:=Rj.free Ir
  have nlf:al≠lf:=λz=>by
   rw[z,aa] at Ir;cases Ir
  generalize upd (upd HN lf (.lst [V.int up])) al (.lst [])=H13 at s13 elf eal ⊢;have W13:=W11.same s13;have afq:nl≠lf:=aw (Q8 _ _ aaE) Qt;have lnl:Xr≠lf:=aw e11 Qt;have afj:=fr W11 Qt;refine⟨b,lf,nl,Xr,al,rm,_,up,ns,fs++[("f" :Str),"ff"],[],Z,⟨by lia,by lia,W13.box,elf,by lia,u1,by lia,⟨s13 _ _ (Q8 _ _ aaE),by lia,nms⟩,(λz=>by rw[z] at QU;simp only[fO] at QU;lia),⟨by rw[cu];exact s13 _ _ e11,by rw[aT];show fs.length+2<=100;lia,?_⟩,?_,⟨eal,by decide,λx hx=>nomatch hx⟩,by show 0+rm<=20;lia,(B8.ne (Q8.free Qt)).symm.symm,⟨nnl,afq⟩,⟨n11,lnl⟩,⟨W11.box.ne fal,nlf⟩⟩,λl ds H' k' Fw po=> ?_⟩
  .intro x hx;rcases cW.mp hx with hx|hx
   .exact lms x (Zw x hx).1
   .simp only[aN,cF,cH] at hx
    rcases hx with rfl|rfl<;>decide+kernel
  .intro x hx;rcases cW.mp hx with hx|hx
   .exact(Zw x hx).2
   .simp only[aN,cF,cH] at hx
    rcases hx with rfl|rfl<;>decide+kernel
  .obtain⟨ws,el,da⟩:=po.ls;have mn:=po.mn;have dp:=Gd po.dp;have mm:=Kg ds;refine q l (Ds.of ds) H' (fr W13 po.new) (.lst el (by rw[acF];exact KR da)) (jai po.ok) (by lia) (by lia) ⟨k',po.box,by have h1:=po.kb;have h2:=po.lo u0;lia⟩ λc o hc e=>po.kp _ _ hc (aw e afj) (W13.kp _ _ hc e)
mutual
noncomputable def PZ:Dd->Dd
 | .mk w ps bs=> .mk w ps (FE bs)
noncomputable def t9:Ds->Ds
 | .nil=> .nil
 | .cons d r=> .cons (PZ d) (t9 r)
noncomputable def FE:Bs->Bs
 | .nil=> .nil
 | .cons _ b r=> .cons false (t9 b) (FE r)
end
theorem Wb:∀b:Bs,(FE b).l=b.l.map λp=>(false,t9 p.2)
 | .nil=>by rw[FE];rfl
 | .cons t b r=>by rw[FE];show(false,t9 b)::(FE r).l=_;rw[Wb r];rfl
mutual
theorem WU:∀d:Dd,ni (PZ d)=ni d
 | .mk w ps bs=>by rw[PZ,ni,ni,MA bs]
theorem BJ:∀s:Ds,gO (t9 s)=gO s
 | .nil=>by rw[t9]
 | .cons d r=>by rw[t9,gO,gO,WU d,BJ r]
theorem MA:∀b:Bs,rj (FE b)=rj b
 | .nil=>by rw[FE]
 | .cons t b r=>by rw[FE,rj,rj,BJ b,MA r]
end
mutual
theorem WS:∀d:Dd,ia d->ia (PZ d)
 | .mk w ps bs,h=>by
  rw[ia] at h;rw[PZ,ia];obtain⟨⟨ks,f,fit⟩,hb⟩:=h;exact⟨⟨ks,by rw[Wb,aG];exact f,fit⟩,Od bs hb⟩
theorem Jh:∀s:Ds,fR s->fR (t9 s)
 | .nil,h=>by rw[t9,fR];exact True.intro
 | .cons d r,h=>by
  rw[fR] at h;rw[t9,fR];exact⟨WS d h.1,Jh r h.2⟩
theorem Od:∀b:Bs,i3 b->i3 (FE b)
 | .nil,h=>by rw[FE,i3];exact True.intro
 | .cons t b r,h=>by
  rw[i3] at h;rw[FE,i3];exact⟨Jh b h.1,Od r h.2⟩
end
theorem aeX(s:Ds):dq (t9 s)=dq s/\dF (t9 s)=dF s:=by
 obtain⟨h1,h2,_⟩:=Cb s;obtain⟨g1,g2,_⟩:=Cb (t9 s);rw[BJ] at g1 g2;exact⟨g1.symm.trans h1,g2.symm.trans h2⟩
theorem GA(s:Ds):dU (gO s)=dU s:=by
 obtain⟨h1,h2,h3,h4⟩:=Cb s;unfold dU lz uW;rw[JF,h1,h2,h3,h4]
theorem Of(s:Ds):dU (t9 s)=dU s:=by rw[<-GA (t9 s),BJ,GA]
theorem N6{s s' :Ds}(h:gO s' =gO s)(ar:aj):(lE s' ar).map LP=(lE s ar).map LP:=by rw[<-tQ,<-tQ,h]
theorem m_.alike{C:Y'}{H:Hp}{p tb ls:Y'}{s s' :Ds}(pr:m_ C H p tb ls s')(h:gO s' =gO s):m_ C H p tb ls s:=by
 obtain⟨ob,b,zs,e1,e2,e3⟩:=pr;have al:=N6 h ["ground"]
 have ll:(lE s' ["ground"]).length=(lE s ["ground"]).length:=by
  have:=congrArg List.length al;rw[aG,aG] at this;exact this
 refine⟨ob,by rw[<-h];exact b,zs,e1,e2.trans ll,λi v ev=> ?_⟩;obtain⟨r,er,t,x,u,f1,f2,f3,f4⟩:=e3 i v ev;have g:((lE s ["ground"]).map LP)[i]? =some (LP r):=by rw[<-al,bG,er];rfl
 rw[bG] at g
 cases eg:(lE s ["ground"])[i]? with
 |none=>rw[eg] at g;cases g
 |some r' =>
  rw[eg] at g;have g:LP r' =LP r:=fC g;have g1:ni r'.1=ni r.1:=congrArg Prod.fst g;have g2:r'.2=r.2:=show(LP r').2=(LP r).2 by rw[g]
  exact⟨r',Z,t,x,u,f1,f2,by rw[g1];exact f3,by rw[g2];exact f4⟩
structure Ly(k:Nat)(d:Z'):Prop where
 lay:d.canLay0=true
 mix:PySem.SeqAt.noMix d d=true
 dp:d.depth<=k
theorem MV{k:Nat}:∀{ds:List Z'},(∀d∈ds,Ly k d)->PyData.canLayAll0 ds=true/\PySem.SeqAt.noMixAll ds ds=true/\PyData.depthAll ds<=k
 |[],_=>by simp[PyData.canLayAll0,PySem.SeqAt.noMixAll,PyData.depthAll]
 |d::r,h=>by
  obtain⟨h1,h2,h3⟩:=MV (ds:=r) λx hx=>h x (a7 _ hx);have g:=h d a9;refine⟨?_,?_,?_⟩
  .simp only[PyData.canLayAll0,g.lay,h1,Bool.and_self]
  .simp only[PySem.SeqAt.noMixAll,g.mix,h2,Bool.and_self]
  .simp only[PyData.depthAll];exact Nat.max_le.mpr ⟨g.dp,h3⟩
theorem Ly.tup{k:Nat}{ds:List Z'}(h:∀d∈ds,Ly k d):Ly (k+1) (.tuple ds):=by
 obtain⟨h1,h2,h3⟩:=MV h;refine⟨?_,?_,?_⟩
 .simp only[PyData.canLay0,h1]
 .simp only[PySem.SeqAt.noMix,h2]
 .simp only[PyData.depth]
  lia
theorem Ft(i:Int):Ly 1 (.int i):=⟨by simp only[PyData.canLay0],by simp only[PySem.SeqAt.noMix],by simp[PyData.depth]⟩
theorem nO{x:Str}(h:ck x=true):Ly 1 (.str x):=⟨by simp only[PyData.canLay0];exact Ks h,by simp only[PySem.SeqAt.noMix],by simp[PyData.depth]⟩
theorem Ly.shaped{k:Nat}{d:Z'}(h:Ly k d)(hk:k<=64):PySem.SeqAt.shaped d=true:=by
 unfold PySem.SeqAt.shaped;rw[h.lay,aU (aL h.dp hk)];rfl
theorem Gp{c:Nat}:∀{p q r t:List Nat},c∉p->c∉q->p++c::r=q++c::t->p=q/\r=t
 |[],[],_,_,_,_,e=>⟨Z,(lV e).2⟩
 |[],b::q,_,_,_,hq,e=>absurd ((lV e).1▸a9) hq
 |a::p,[],_,_,hp,_,e=>absurd ((lV e).1▸a9) hp
 |a::p,b::q,r,t,hp,hq,e=>by
  obtain⟨e1,e2⟩:=lV e;obtain⟨h1,h2⟩:=Gp (λh=>hp (a7 _ h)) (λh=>hq (a7 _ h)) e2;exact⟨by rw[e1,h1],h2⟩
theorem iH(x y:Str):(x++y).cps.toList=x.cps.toList++y.cps.toList:=by
 show(x.cps++y.cps).toList=_;exact Array.toList_append
theorem kh(c:Nat)(x y:Str)(r:aj):(Str.join ⟨#[c]⟩ (x::y::r)).cps.toList=x.cps.toList++c::(Str.join ⟨#[c]⟩ (y::r)).cps.toList:=by
 show(x++⟨#[c]⟩++Str.join ⟨#[c]⟩ (y::r)).cps.toList=_;rw[iH,iH,dv];rfl
theorem kr(a:Str)(ts:aj):Txt.join a ts=Str.join a ts:=R' a ts
def WB(c:Nat)(ps:aj):Prop:=∀p∈ps,c∉p.cps.toList
theorem Hk(c:Nat):∀(ps qs:aj),ps≠[]->qs≠[]->WB c ps->WB c qs->Str.join ⟨#[c]⟩ ps=Str.join ⟨#[c]⟩ qs->ps=qs
 |[],_,h,_,_,_,_=>absurd Z h
 |_,[],_,h,_,_,_=>absurd Z h
 |[x],[y],_,_,_,_,e=>by rw[show x=y from e]
 |[x],y::z::r,_,_,fx,_,e=>by
  have e:=congrArg (λs:Str=>s.cps.toList) e;rw[kh] at e;exact absurd (show c∈x.cps.toList by rw[show x.cps.toList=_ from e];exact dP _ a9) (fx x a9)
 |x::z::r,[y],_,_,_,fy,e=>by
  have e:=congrArg (λs:Str=>s.cps.toList) e;rw[kh] at e;exact absurd (show c∈y.cps.toList by rw[show y.cps.toList=_ from e.symm];exact dP _ a9) (fy y a9)
 |x::z::r,y::v::t,_,_,fx,fy,e=>by
  have e:=congrArg (λs:Str=>s.cps.toList) e;rw[kh,kh] at e;obtain⟨h1,h2⟩:=Gp (fx x a9) (fy y a9) e;rw[ji h1,Hk c (z::r) (v::t) (uN _ _) (uN _ _) (λp hp=>fx p (a7 _ hp)) (λp hp=>fy p (a7 _ hp)) (ji h2)]
theorem Bq{c:Nat}{ps:aj}(h0:ps≠[])(hf:WB c ps)(hn:Str.join ⟨#[c]⟩ ps≠Str.empty):Txt.split (Str.join ⟨#[c]⟩ ps) ⟨#[c]⟩=ps:=by
 have hj:=PySem.StrLaws.join_split (Str.join ⟨#[c]⟩ ps) ⟨#[c]⟩;refine Hk c _ _ (λe=>hn ?_) h0 (PySem.StrLaws.split_free _ c) hf hj;rw[e] at hj;exact hj.symm
noncomputable def bO(i:Int):Str:=Str.ofString (toString i)
theorem pY:∀(k m:Nat),m<10 ^ (k+1)->(Nat.toDigits 10 m).length<=k+1/\((Nat.toDigits 10 m).head? =some '0'->m=0)
 |0,m,h=>by
  rw[Nat.toDigits_of_lt_base (by lia)];refine⟨aJ _,λe=> ?_⟩;have:∀d:Nat,d<10->Nat.digitChar d= '0'->d=0:=by decide
  exact this m (by lia) (by injection e)
 |k+1,m,h=>by
  by_cases h0:m<10
  .obtain⟨h1,h2⟩:=pY 0 m (by lia);exact⟨by lia,h2⟩
  .have hm:m % 10<10:=Nat.mod_lt m (by decide);have t:Nat.toDigits 10 (m / 10)++Nat.toDigits 10 (m % 10)=Nat.toDigits 10 (10*(m / 10)+m % 10):=Ky (by decide) (by lia) hm;rw[Nat.div_add_mod] at t;obtain⟨ih1,ih2⟩:=pY k (m / 10) (by rw[Nat.pow_succ] at h;lia);have hp:=toDigits_len_ge 10 (m / 10);rw[<-t,aT,Nat.toDigits_of_lt_base hm];refine⟨show _+1<=_ by lia,λe=> ?_⟩
   cases ed:Nat.toDigits 10 (m / 10) with
   |nil=>rw[ed] at hp;exact absurd hp (by decide)
   |cons ch r=>
    rw[ed] at e ih2;have:=ih2 e
    lia
theorem LG{m:Nat}(h:m<10 ^ 40):kG (bO (m:Int)).cps.toList=true:=by
 obtain⟨h1,h2⟩:=pY 39 m h;have e:=S' m;have hp:=toDigits_len_ge 10 m;unfold bO;rw[e];unfold kG;rw[aG,aU (show 1<=_ from hp),aU h1,Bool.true_and,Bool.true_and,cL];constructor
 .by_cases hz:m=0
  .subst hz;decide
  .rw[bf (λq=>hz (h2 ?_))]
   .rfl
   .rw[List.head?_map] at q
    cases eh:(Nat.toDigits 10 m).head? with
    |none=>rw[eh] at q;cases q
    |some ch=>
     rw[eh] at q;have q:ch.toNat=48:=by injection q
     exact congrArg some (Char.toNat_inj.mp q)
 .rw[bS];intro c hc;obtain⟨ch,Dg,rfl⟩:=fZ.mp hc;have r:=digit_range (Nat.isDigit_of_mem_toDigits (by decide) (by decide) Dg);unfold Ca;rw[cL,fA,fA];exact r
theorem C5{i:Int}(h:i.natAbs<10 ^ 40):qd (bO i).cps.toList=true/\qa (bO i).cps.toList=i/\45∉(bO (i.natAbs:Int)).cps.toList:=by
 have hc:=LG h
 have hd:45∉(bO (i.natAbs:Int)).cps.toList:=λz=>by
  have:=(mO hc).2.2.2 45 z
  lia
 have hv:PySem.NumText.digitsVal (bO (i.natAbs:Int)).cps.toList=i.natAbs:=by
  unfold bO;rw[S',PySem.W.KIN.val_back]
 have hh:(bO (i.natAbs:Int)).cps.toList.head?≠some 45:=λz=>hd (List.mem_of_mem_head? z);by_cases h0:0<=i
 .have e:i=(i.natAbs:Int):=by lia
  generalize i.natAbs=m at*
  subst e;refine⟨?_,?_,hd⟩
  .unfold qd;rw[aq hh];exact hc
  .unfold qa;rw[aq hh,hv]
 .have e:i= -(i.natAbs:Int):=by lia
  have hp:0<i.natAbs:=by lia
  generalize i.natAbs=m at*
  subst e;have en:(bO (-(m:Int))).cps.toList=45::(bO (m:Int)).cps.toList:=GS m hp;refine⟨?_,?_,hd⟩
  .unfold qd;rw[en,ay (show List.head? _=some 45 from Z),List.drop_succ_cons,List.drop_zero,hc,Bool.and_true];refine aU λz=> ?_;have z:=(lV z).2;rw[z] at hv;have:PySem.NumText.digitsVal [48]=0:=rfl
   lia
  .unfold qa;rw[en,ay (show List.head? _=some 45 from Z),List.drop_succ_cons,List.drop_zero,hv]
theorem Yu(c:Nat):(!(Builtin.Str.occurrences ("0123456789" :Str) ⟨#[c]⟩ 0 ("0123456789" :Str).length 1).isEmpty)=Ca c:=by
 rw[PySem.StrLaws.found_one];have e:("0123456789" :Str).cps.toList=(List.range 10).map (· +48):=by decide+kernel
 rw[e,km,fA,fZ];unfold Ca;rw[cL,fA,fA];constructor
 .rintro ⟨i,hi,rfl⟩
  have:=mC.mp hi
  lia
 .rintro ⟨h1,h2⟩
  exact⟨c - 48,mC.mpr (by lia),by lia⟩
noncomputable def wX(x:Str):Bool:=decide (1<=x.length)&&decide (x.length<=40)&& !(Txt.startswith x "0" &&decide (x≠ "0"))&&x.cps.toList.all Ca
noncomputable def zX(x:Str):Bool:=if Txt.startswith x "-"=true then decide (x≠ "-0")&&wX (Txt.slice x (some 1) none) else wX x
theorem MC(x:Str)(y:Str)(l:List Nat)(h:y.cps.toList=l):decide (x≠y)=decide (x.cps.toList≠l):=by
 rw[km,fA,fA];subst h;exact⟨λh z=>h (ji z),λh z=>h (by rw[z])⟩
theorem DC(x:Str):wX x=kG x.cps.toList:=by
 unfold wX kG;rw[show Txt.startswith x (Str.ofString "0")=_ from AM x 48,MC x (Str.ofString "0") [48] (by decide+kernel)];rfl
theorem LU(x:Str):zX x=qd x.cps.toList:=by
 unfold zX qd;rw[show Txt.startswith x (Str.ofString "-")=_ from AM x 45,MC x (Str.ofString "-0") [45,48] (by decide+kernel),DC,DC,HU];by_cases h:x.cps.toList.head? =some 45
 .rw[ay (aU h),ay h]
 .rw[aq (λz=>h (bo z)),aq h]
def afd:Sp:=λvs H Q _=>∃x:Str,vs=[.str x]/\x.length<=100000/\∀H',ai H H'->Q (.bl (wX x)) H'
theorem m4(T:Txt K mg A):aQ P w K mg base cY 1 A.oX A.oH ["text"] afd:=by
 refine T.jJ.F.BY wV ?_
 rintro cC Ar outer s H vs Q E hr ⟨x,rfl,hx,k⟩
 have hL:sizeLine=16777216:=rfl;obtain⟨u1,pR⟩:=T.A2;obtain⟨u2,Dz⟩:=T.Lw;refine⟨_,(af (a_ (lj (OQ Dv Dv ae (iY ix T.dY Boot.«len» (aF (pv 0))) (c8 Z pR.2 pR.1))) (ah (aB oM)) aK) (af (a_ (PW.pt (wv (gA (cR jD slot_str_startswith type_str_startswith sq (pv 0) (aF ax))) (ww (jp mN (pv 0) ax)))) (ah (aB oM)) aK) (ah (aB (iY (BO Z) T.Ol Boot.«all» (aF (L9 ["sign"] 1 [] (M3 (pv 0) Z) (λ_ _ _ _ _=>⟨(ie 0 (show(["sign"]:aj).Nodup by decide+kernel)),pD,(HG Df (pv 0) (c8 Z Dz.2 Dz.1))⟩)))))))),?_⟩;refine⟨_,Z,x,Z,by lia,1,x.length,Z,Z,_,Z,?_⟩;unfold wX at k;by_cases h1:(1:Int)<=(x.length:Int)
 .rw[aU h1];rw[aU (show 1<=x.length by lia)] at k;refine cD ⟨x.length,40,Z,Z,_,Z,?_⟩;by_cases h2:(x.length:Int)<=40
  .rw[aU h2];rw[aU (show x.length<=40 by lia)] at k;refine cf ?_;refine⟨_,Z,Z,x,_,Z,Z,_,Z,?_⟩
   have go:(∀H',ai H H'->Q (.bl (x.cps.toList.all Ca)) H')->YH (tCB (λxs H Q=>∃a bs,xs=[V.ref a]/\H a=some (HO.lst (List.map V.bl bs))/\Q (V.bl (bs.all id)) H) (Au (FW (abT (MW 0)) 1 [] (yg 0) Rg (SY (λx y H Q=>∃i j,x= .str i/\y= .str j/\Q (.bl (!(Builtin.Str.occurrences j i 0 j.length 1).isEmpty)) H) (MW 0) (tC (V.str (Str.ofString "0123456789"))))) yF)) {nx:=λx H' =>Q V.bV H',rt:=Q} (L2.start [Str.ofString "text"] [V.str x]) H:=by
    intro k;refine⟨_,Z,x,Z,?_⟩;refine m7 (λ_=>true) (λv=>match v with| .str z=> .bl (Ca (z.cps.getD 0 0))|_=> .bV) (D_ x H) ?_ ?_ λp hp=> ?_
    .simp only[aG,vP];have:x.cps.size=x.length:=rfl
     lia
    .intro i y H' C1 C0 hy sm c1 c0;rw[bG] at hy
     cases ec:x.cps.toList[i]? with
     |none=>rw[ec] at hy;cases hy
     |some c=>
      rw[ec] at hy;cases hy;refine⟨(fU.refl _).own (by decide),⟨_,Z,_,_,Z,Z,?_⟩⟩;rw[Yu];exact c1 rfl
    .refine⟨p,x.cps.toList.map Ca,Z,?_,?_⟩
     .rw[aa,gD.mpr (λ_ _=>rfl),ik,ik];rfl
     .rw[zz];exact k _ (ai.upd hp)
   cases es:Txt.startswith x "0" with
   |true=>
    rw[es] at k;refine cD ⟨_,Z,Z,_,Z,?_⟩;by_cases h0:x="0"
    .rw[aU (show V.str x=V.str (Str.ofString "0") from congrArg V.str h0)];rw[bf (λz=>z h0)] at k;exact cf (go k)
    .rw[bf (show ¬V.str x=V.str (Str.ofString "0") from λz=>h0 (by injection z))];rw[aU h0] at k;exact cD (k H (ai.refl H))
   |false=>
    rw[es] at k;exact cf (cf (go k))
  .rw[bf h2];rw[bf (show ¬x.length<=40 by lia)] at k;exact cD (k H (ai.refl H))
 .rw[bf h1];rw[bf (show ¬1<=x.length by lia)] at k;exact cf ⟨_,Z,cD (k H (ai.refl H))⟩
def aeo:Sp:=λvs H Q _=>∃x:Str,vs=[.str x]/\x.length<=100000/\∀H',ai H H'->Q (.bl (zX x)) H'
theorem xa(T:Txt K mg A):aQ P w K mg base cY 2 A.oR A.oG ["text"] aeo:=by
 refine T.oJ.F.BY w6 ?_
 rintro cC Ar outer s H vs Q E hr ⟨x,rfl,hx,k⟩
 have hL:sizeLine=16777216:=rfl;refine⟨_,(af (a_ (gA (cR jD slot_str_startswith type_str_startswith sq (pv 0) (aF ax))) (ah (aB (pM (HG mN (pv 0) ax) (lr (cv (m4 T) hr T.jJ aA (aF (dj Bk (pv 0) (eA ae) fj))))))) aK) (ah (aB (cv (m4 T) hr T.jJ aA (aF (pv 0)))))),?_⟩;refine⟨_,Z,Z,x,_,Z,Z,_,Z,?_⟩;unfold zX at k
 cases es:Txt.startswith x "-" with
 |false=>
  rw[es] at k;exact cf ⟨_,Z,x,Z,hx,k⟩
 |true=>
  rw[es] at k;refine cD ⟨_,Z,Z,_,Z,?_⟩;by_cases h0:x="-0"
  .rw[aU (show V.str x=V.str (Str.ofString "-0") from congrArg V.str h0)];have k:=k H (ai.refl H);rw[ay Z,bf (λz=>z h0)] at k;exact cf k
  .rw[bf (show ¬V.str x=V.str (Str.ofString "-0") from λz=>h0 (by injection z))];rw[ay Z,aU h0] at k;refine cD ⟨_,Z,1,Z,x,Z,by lia,_,Z,aL (Txt.slice_le x _ _) hx,k⟩
noncomputable def mH:Z'->Str
 | .str x=>x
 | .int i=>bO i
 |_=>"none"
noncomputable def oN(k:Str)(d:Z'):aj:=if k="mark" then(match d with| .none=>[]|d=>["in",mH d]) else[mH d]
noncomputable def AU:aj->List Z'->aj
 |k::ks,d::ds=>oN k d++AU ks ds
 |_,_=>[]
noncomputable def qu(w:Str):aj:=((bH.lookup w).getD []).filter λk=>decide (k≠("body" :Str))
noncomputable def lT(w:Str)(ps:List Z'):Str:=Str.join " " (w::AU (qu w) ps)
inductive Tk where
 |hd (w:Str) (ps:List Z')
 |or
 |fin
noncomputable def HJ:Tk->Str
 | .hd w ps=>lT w ps
 | .or=>"or"
 | .fin=>"end"
mutual
noncomputable def mI:Dd->List Tk
 | .mk w ps bs=> .hd w ps::Ew bs
noncomputable def fF:Ds->List Tk
 | .nil=>[]
 | .cons d r=>mI d++fF r
noncomputable def Ew:Bs->List Tk
 | .nil=>[]
 | .cons _ b r=>fF b++FD r
noncomputable def FD:Bs->List Tk
 | .nil=>[.fin]
 | .cons _ b r=> .or::(fF b++FD r)
end
theorem jh{w:Str}{ks:aj}{ps:List Z'}{n:Nat}(h:(w,ks++List.replicate n ("body" :Str))∈bH)(ft:c9 ks ps):qu w=ks:=by
 have e:=bo (bS.mp (show(bH.all λp=>decide (qu p.1=p.2.filter λk=>decide (k≠("body" :Str))))=true by decide+kernel) _ h);rw[show qu w=_ from e];show(ks++List.replicate n ("body" :Str)).filter _=ks;rw[nC,gD.mpr λk hk=> ?_,ub.mpr λk hk=> ?_,bZ]
 .rw[(List.mem_replicate.mp hk).2];decide
 .clear h e
  induction ft with
  |nil=>cases hk
  |cons h t ih=>
   rcases aN.mp hk with rfl|hk
   .exact aU (wc h)
   .exact ih hk
theorem ra{k:Str}{d:Z'}(h:rO k d):d= .none\/(∃x,d= .str x/\ck x=true)\/∃i,d= .int i/\i.natAbs<10 ^ 40:=by
 cases h with
 |name x h=>exact .inr (.inl ⟨x,Z,h⟩)
 |label x h _=>exact .inr (.inl ⟨x,Z,h⟩)
 |Bl=>exact .inl rfl
 |mark x h=>exact .inr (.inl ⟨x,Z,h⟩)
 |Ag=>exact .inl rfl
 |value i h=>exact .inr (.inr ⟨i,Z,h⟩)
 |number i h=>exact .inr (.inr ⟨i,Z,h⟩)
 |num _ lo hi i h h1 h2=>
  have hb:=bo (bS.mp (show(CD.all λp=>decide (-1<p.2.1/\p.2.2<10))=true by decide+kernel) _ h);exact .inr (.inr ⟨i,Z,rp (show i.natAbs<10 by have h3: -1<lo:=hb.1;have h4:hi<10:=hb.2;lia) (by decide)⟩)
theorem A_{d:Z'}(ft:rO "mark" d):d= .none\/∃x,d= .str x:=by
 generalize ek:("mark" :Str)=k' at ft
 cases ft with
 |Bl=>exact .inl rfl
 |mark x h=>exact .inr ⟨x,Z⟩
 |num _ lo hi i h h1 h2=>subst ek;exact absurd Z (kg h (by decide+kernel:(CD.all λp=>decide (p.1≠ "mark"))=true))
 |_=>exact absurd ek (by decide+kernel)
def Rc:Sp:=λvs H Q _=>∃k v ws,vs=[.str k,v]/\((∃d,rO k d/\Dat H v d/\ws=oN k d)\/(k="body" /\ws=[]))/\∀l H',H l=none->ai H H'->H' l=some (.lst (ws.map V.str))->Q (.ref l) H'
theorem Hi(T:Txt K mg A):aQ P w K mg base cY 1 A.Bo A.Bh ["kind","part"] Rc:=by
 refine T.AW.F.ok Gv (λvs H Q E h=> ?_) (λcC Ar outer s0 H vs Q E hr h=> ?_)
 .obtain⟨k,v,ws,rfl,_⟩:=h;rfl
 .obtain⟨k,v,ws,rfl,hw,q⟩:=h;have P1:=hr.gd;have F6:_+100<cLine:=gx (nt (by decide:100<=16*0+200) _) (by have:=hr.un;omega);refine⟨_,(af (a_ (PW.pt (WP (jp cM (pv 0) ax) (WF (PW.pt (wv (jp cM (pv 0) ax) (ww (jp AQ (pv 1) eU))))))) (ah (aB (a8 c_))) aK) (af (a_ (jp cM (pv 0) ax) (ah (aB (a8 (ag ax (aF (pv 1)))))) aK) (af (a_ (jp AQ (pv 1) eU) (ah (aB (a8 (aF ax)))) aK) (ah (aB (a8 (aF (GX (DY P1 F6) T.BV Boot.«str» (aF (pv 1)))))))))),?_⟩;have done:∀{ws' :ak},ws' =ws.map V.str->∀l,H l=none->Q (.ref l) (upd H l (.lst ws')):=λe l hl=>q l _ hl (ai.upd hl) (by rw[aa,e]);rcases hw with⟨d,ft,hd,rfl⟩|⟨rfl,rfl⟩
  .refine⟨_,Z,Z,_,Z,g7 (cw (wc ft)) ⟨_,Z,Z,_,Z,?_⟩⟩;by_cases hk:k="mark"
   .subst hk;refine Wp ?_;rcases A_ ft with rfl|⟨x,rfl⟩
    .cases hd;exact⟨_,Z,Z,_,Z,cD ⟨by decide,λl hl=>done Z l hl⟩⟩
    .cases hd;exact⟨_,Z,Z,_,Z,cf ⟨_,Z,Z,_,Z,Wp ⟨_,Z,fT,λl hl=>done Z l hl⟩⟩⟩
   .have ew:oN k d=[mH d]:=aq hk;rw[ew] at done;refine g7 (cw hk) (cf ⟨_,Z,Z,_,Z,g7 (cw hk) ⟨_,Z,Z,_,Z,?_⟩⟩);rcases ra ft with rfl|⟨x,rfl,hx⟩|⟨i,rfl,hi⟩
    .cases hd;exact Wp ⟨by decide,λl hl=>done Z l hl⟩
    .cases hd;obtain⟨r1,r2,r3⟩:=(vE ft).rep (by decide) (by decide);exact cf ⟨_,Z,_,_,Z,.str x,r1,r2,r3,ki,λl hl=>done Z l hl⟩
    .cases hd;obtain⟨r1,r2,r3⟩:=(vE ft).rep (by decide) (by decide);refine cf ⟨_,Z,_,_,Z,.int i,r1,r2,r3,ki,λl hl=>done ?_ l hl⟩;simp only[AA,PyData.shown];rfl
  .refine⟨_,Z,Z,_,Z,Wp ?_⟩;exact cD ⟨by decide,λl hl=>done Z l hl⟩
def PQ(x:Str):Prop:=1<=x.length/\x.length<=60/\∀c∈x.cps.toList,45<=c
theorem Ym{x:Str}(h:ck x=true):PQ x:=by
 have h0:=Gy h;unfold ck at h;rw[cL,cL] at h;refine⟨bo h.1.1,by lia,λc hc=> ?_⟩;have:=bS.mp h.2 c hc;unfold gn at this;rw[cL] at this;have h2:=bo this.1
 lia
theorem Vb{i:Int}(h:i.natAbs<10 ^ 40):PQ (bO i):=by
 have hw:=(C5 h).1;have e0:(bO i).length=(bO i).cps.toList.length:=rfl;rcases CY hw with⟨_,hc⟩|⟨e,_,hc⟩
 .obtain⟨h1,h2,_,h4⟩:=mO hc;refine⟨by lia,by lia,λc hc=> ?_⟩;have:=h4 c hc
  lia
 .obtain⟨h1,h2,_,h4⟩:=mO hc;have el:=congrArg List.length e;rw[aZ] at el;refine⟨by lia,by lia,λc hc=> ?_⟩;rw[e] at hc;rcases aN.mp hc with rfl|hc
  .exact aJ _
  .have:=h4 c hc
   lia
theorem Al(x:Str)(h:(decide (1<=x.length)&&decide (x.length<=60)&&x.cps.toList.all λc=>decide (45<=c))=true):PQ x:=by
 rw[cL,cL] at h;exact⟨bo h.1.1,bo h.1.2,λc hc=>bo (bS.mp h.2 c hc)⟩
theorem acP{k:Str}{d:Z'}(h:rO k d):PQ (mH d):=by
 rcases ra h with rfl|⟨x,rfl,hx⟩|⟨i,rfl,hi⟩
 .exact Al _ (by decide+kernel)
 .exact Ym hx
 .exact Vb hi
theorem MP{k:Str}{d:Z'}(h:rO k d):(oN k d).length<=2/\∀y∈oN k d,PQ y:=by
 have h1:∀y∈[mH d],PQ y:=λy hy=>by rw[fB.mp hy];exact acP h
 unfold oN
 split
 .split
  .exact⟨bU _,λy hy=>by cases hy⟩
  .refine⟨aJ _,λy hy=> ?_⟩;rcases aN.mp hy with rfl|hy
   .exact Al _ (by decide+kernel)
   .exact h1 y hy
 .exact⟨show 1<=2 by decide,h1⟩
theorem Up{ks:aj}{ds:List Z'}(h:c9 ks ds):(AU ks ds).length<=2*ks.length/\∀y∈AU ks ds,PQ y:=by
 induction h with
 |nil=>exact⟨aJ _,λy hy=>by cases hy⟩
 |cons h t ih=>
  obtain⟨h1,h2⟩:=MP h;refine⟨?_,λy hy=> ?_⟩
  .show(oN _ _++AU _ _).length<=_;rw[aT,aZ]
   lia
  .rcases cW.mp hy with hy|hy
   .exact h2 y hy
   .exact ih.2 y hy
theorem Gk:∀{ks:aj} {ds:List Z'} {j:Nat} {k:Str} {d:Z'},ks[j]? =some k->ds[j]? =some d->AU (ks.take (j+1)) (ds.take (j+1))=AU (ks.take j) (ds.take j)++oN k d
 |[],_,_,_,_,e,_=>by cases e
 |_,[],_,_,_,_,e=>by cases e
 |k::ks,d::ds,0,_,_,e1,e2=>by
  cases e1;cases e2;show oN _ _++AU (ks.take 0) (ds.take 0)=AU [] []++oN _ _;rw[List.take_zero,List.take_zero];show _++[]=[]++_;rw[bZ];rfl
 |k::ks,d::ds,j+1,_,_,e1,e2=>by
  show oN k d++AU (ks.take (j+1)) (ds.take (j+1))=(oN k d++AU (ks.take j) (ds.take j))++_;rw[Gk (by simpa using e1) (by simpa using e2),dv]
theorem GI:∀(ks:aj) (ds:List Z') (j:Nat),(AU (ks.take j) (ds.take j)).length<=2*ks.length
 |[],ds,j=>by rw[List.take_nil];exact bU _
 |k::ks,ds,0=>bU _
 |k::ks,[],j+1=>bU _
 |k::ks,d::ds,j+1=>by
  show(oN k d++AU (ks.take j) (ds.take j)).length<=_;have:=GI ks ds j
  have h2:(oN k d).length<=2:=by
   unfold oN
   split
   .split<;>simp
   .simp
  rw[aT,aZ]
  lia
theorem NR{w:Str}{ks:aj}(h:(w,ks)∈bH):PQ w:=Al _ (bS.mp (show(bH.all λp=>decide (1<=p.1.length)&&decide (p.1.length<=60)&&p.1.cps.toList.all λc=>decide (45<=c))=true by decide+kernel) _ h)
noncomputable def tN(w:Str)(ps:List Z'):aj:=w::AU (qu w) ps
theorem Kj{w:Str}{ks:aj}{ps:List Z'}{n:Nat}(h:(w,ks++List.replicate n ("body" :Str))∈bH)(ft:c9 ks ps):(tN w ps).length<=9/\∀y∈tN w ps,PQ y:=by
 unfold tN;rw[jh h ft];obtain⟨h1,h2⟩:=Up ft;have h4:=cO h;rw[aT] at h4;refine⟨by rw[aZ];lia,λy hy=> ?_⟩;rcases aN.mp hy with rfl|hy
 .exact NR h
 .exact h2 y hy
theorem zy{sep:Str}{ws:aj}{B:Nat}(hB:∀y∈ws,y.length<=B)(h:ws.length*B+ws.length*sep.length<=16777216):JoinOk sep ws=true:=by
 unfold JoinOk;rw[PySem.StrLaws.joinFits hB h];rfl
def Qk:Sp:=pK λ_ d v H Q=>∀H',ai H H'->Q (.str (lT d.wd d.ps)) H'
theorem CJ(T:Txt K mg A)(Fm:pP P w K A fm):aQ P w K mg base cY 2 A.vV A.vD ["deed"] Qk:=by
 refine T.uX.F.ok jd (λvs H Q E h=> ?_) (λcC Ar outer s0 H vs Q E hr h=> ?_)
 .obtain⟨H0,v,d,rfl,_⟩:=h;rfl
 .obtain⟨H0,v,d,rfl,jZ,hd,ok,q⟩:=h;obtain⟨a,ks,xs,ys,rfl,p0⟩:=dO hd ok;have p:=p0.same jZ;have hlx:=p.lx;have hlp:=cQ p.hx;have h4:=cO p.f;obtain⟨w1,w2⟩:=Kj p.f p.fit;obtain⟨w3,w4⟩:=Up p.fit;refine⟨_,(af (eL 1 jd.nd (a8 (aF (cJ aY (pv 0) ae)))) (af (yI (fb (cv (lZ T Fm) hr T.ke aA (aF (pv 0)))) (nu Z (bJ (ie 2 jd.nd) (bJ (ie 3 jd.nd) iq))) (ah (bj (cR dC qt tO i7 (pv 1) (aF (cv (Hi T) hr T.AW aA (ag (pv 2) (aF (pv 3))))))))) (ah (aB (cR jD qk qo l_ ax (aF (pv 1))))))),?_⟩;refine⟨_,Z,a,_,0,_,Z,Z,bu.of p.e,iZ _ _,ki,λpl jY=> ?_⟩;have s1:=ai.upd (o:= .lst [V.str d.wd]) jY;have IP:upd H pl (.lst [V.str d.wd]) pl=some (.lst [V.str d.wd]):=aa;generalize upd H pl (.lst [V.str d.wd])=H1 at s1 IP ⊢;refine⟨_,Z,a,d.wd,_,_,Z,s1 _ _ p.e,p.f,p.len,λl zs H2 lK s2 hz zp=>⟨l,Z,⟨_,bq.of hz⟩,?_⟩⟩;have Zd:zs.length=(ks++List.replicate ys.length ("body" :Str)).length:=by rw[zp.len,aG]
  have XB:l≠pl:=(aw IP lK).symm;have rW:=s1.trans s2;have MD:=s2 _ _ IP;rw[aT,eV] at h4 Zd;refine gJ (K:=K) (a:=l) (xs:=zs) (λj σ H' =>∃(x2 x3:Option V),σ=[some (.ref a),some (.ref pl),x2,x3]/\Kept pl H2 H'/\H' pl=some (.lst ((d.wd::AU (ks.take j) (d.ps.take j)).map V.str))) ⟨_,_,Z,Kept.refl _ _,MD⟩ (by rintro i σ H' _ ⟨_,_,_,k,_⟩;exact bq.of (k _ _ XB hz)) ?_ ?_
  .rintro j z σ H' hj ⟨x2,x3,rfl,kp,sU⟩
   have hjl:=(dE.mp hj).1;obtain⟨tt,x,y,rfl,hT,e1,e2⟩:=ZB zp (by rw[aG];exact p.len) hj;rw[bG] at e1;have Kw :=kp _ _ (b8 MD hT (λz=>nomatch z)).symm hT;have SH:ai H H' :=λc o e=>kp c o (aw e jY) (rW _ _ e)
   cases ek:(ks++List.replicate ys.length ("body" :Str))[j]? with
   |none=>rw[ek] at e1;cases e1
   |some k' =>
    rw[ek] at e1;cases e1
    have hw:∃ws,((∃dd,rO k' dd/\Dat H' y dd/\ws=oN k' dd)\/(k' ="body" /\ws=[]))/\AU (ks.take (j+1)) (d.ps.take (j+1))=AU (ks.take j) (d.ps.take j)++ws:=by
     by_cases hb:xs.length<=j
     .rw[gS (by lia),tm] at ek
      split at ek
      .cases ek;refine⟨[],.inr ⟨Z,Z⟩,?_⟩;rw[gf (by lia),gf (by lia),gf (by lia),gf (by lia),bZ]
      .cases ek
     .rw[fz (by lia)] at ek e2;obtain⟨dd,ed,nj⟩:=ff p.hx j _ e2;exact⟨_,.inl ⟨dd,fV p.fit j _ _ ek ed,nj.same SH,Z⟩,Gk ek ed⟩
    obtain⟨ws,hw,ews⟩:=hw;refine⟨tt,_,Z,bu.of Kw,Z,_,_,Z,_,_,Z,Z,?_⟩;refine⟨_,Z,zx sU,_,Z,_,Z,k',y,ws,Z,hw,λl2 H6 lK s6 hz6=>⟨pl,l2,_,_,Z,Z,s6 _ _ sU,hz6,?_,some (.str k'),some y,Z,λc o hc e=> ?_,?_⟩⟩
    .have:=(show ws.length<=2 by rcases hw with⟨dd,h1,_,rfl⟩|⟨_,rfl⟩;exact(MP h1).1;exact bU _)
     have h9:((d.wd::AU (ks.take j) (d.ps.take j)).map V.str).length<=9:=by
      rw[aG,aZ];exact aL (Nat.succ_le_succ (GI ks d.ps j)) (by lia)
     refine aL (show _<=9+2 from vg h9 ?_) (by decide);rw[aG];exact this
    .rw[au hc];exact s6 _ _ (kp c o hc e)
    .rw[aa,ews,<-oo,cu]
  .rintro σ H' ⟨x2,x3,rfl,kp,sU⟩
   rw[gf (by lia),gf (by lia)] at sU
   have ee:d.wd::AU ks d.ps=tN d.wd d.ps:=by
    unfold tN;rw[jh p.f p.fit]
   rw[ee] at sU;refine⟨Z,_,Z,_,pl,_,Z,Z,sU,zy (B:=60) (λy hy=>(w2 y hy).2.1) ?_,?_⟩
   rotate_left
   .rw[kr];exact q _ λc o e=>kp c o (aw e jY) (rW _ _ e)
   exact aL (show _<=9*60+9*1 from vg (j_ _ w1) (j_ _ w1)) (by decide)
noncomputable def i0(ts:List Tk):ak:=ts.map λk=>V.str (HJ k)
theorem jj(a b:List Tk):i0 (a++b)=i0 a++i0 b:=cu
theorem c6(a:List Tk):(i0 a).length=a.length:=aG _
noncomputable def TY:List (Bool×Ds)->List Tk
 |[]=>[]
 |p::r=>fF p.2++r.flatMap λp=> .or::fF p.2
theorem Pa:∀b:Bs,FD b=(b.l.flatMap λp=> .or::fF p.2)++[.fin]
 | .nil=>by rw[FD];rfl
 | .cons t b r=>by
  rw[FD,Pa r];show _=(Tk.or::fF b++r.l.flatMap λp=> .or::fF p.2)++[.fin];rw[dv,oo]
theorem MF(b:Bs):Ew b=TY b.l++if b.l=[] then[] else[.fin]:=by
 cases b with
 |nil=>rw[Ew];rfl
 |cons t b r=>
  rw[Ew,Pa];show _=(fF b++_)++[.fin];rw[dv]
theorem MJ(d:Dd):mI d= .hd d.wd d.ps::Ew d.bs:=by
 cases d with
 |mk w ps bs=>rw[mI];rfl
theorem z7:∀s:Ds,fF s=s.l.flatMap mI
 | .nil=>by rw[fF];rfl
 | .cons d r=>by rw[fF,z7 r];rfl
theorem NK{l:List (Bool×Ds)}{j:Nat}{p:Bool×Ds}(e:l[j]? =some p):TY (l.take (j+1))=TY (l.take j)++((if 0<j then[.or] else[])++fF p.2):=by
 cases l with
 |nil=>cases e
 |cons q l=>
  cases j with
  |zero=>
   obtain rfl:q=p:=by simpa using e
   show fF q.2++[]=[]++([]++fF q.2);rw[bZ];rfl
  |succ j=>
   show fF q.2++((l.take (j+1)).flatMap λp=> .or::fF p.2)=(fF q.2++((l.take j).flatMap λp=> .or::fF p.2))++_;rw[dI (λp:Bool×Ds=>Tk.or::fF p.2) (by simpa using e),ay (Nat.succ_pos _),dv];rfl
theorem Pp(l:List (Bool×Ds))(j:Nat):(TY (l.take j)).length<=(TY l).length:=by
 cases l with
 |nil=>rw[List.take_nil];exact aJ _
 |cons p l=>
  cases j with
  |zero=>exact bU _
  |succ j=>
   have:=fq (λp:Bool×Ds=>Tk.or::fF p.2) l j;show(fF p.2++_).length<=(fF p.2++_).length;rw[aT,aT]
   lia
theorem YW{d:Dd}(ok:ia d):d.bs.l.length<=4:=by
 cases d with
 |mk w ps bs=>
  rw[ia] at ok;obtain⟨⟨ks,h,_⟩,_⟩:=ok;have:=cO h;rw[aT,eV] at this;show bs.l.length<=4
  lia
mutual
theorem Ry:∀d:Dd,ia d->(mI d).length<=5+5*lG d
 | .mk w ps bs,ok=>by
  have h4:bs.l.length<=4:=YW ok;rw[ia] at ok;have:=QS bs ok.2;rw[mI,lG,aZ]
  lia
theorem uF:∀s:Ds,fR s->(fF s).length<=5*dF s
 | .nil,_=>by rw[fF];exact bU _
 | .cons d r,ok=>by
  rw[fR] at ok;have h1:=Ry d ok.1;have h2:=uF r ok.2;rw[fF,dF,aT]
  lia
theorem QS:∀b:Bs,i3 b->(Ew b).length<=5*l6 b+b.l.length
 | .nil,_=>by rw[Ew];exact bU _
 | .cons t b r,ok=>by
  rw[i3] at ok;have h1:=uF b ok.1;have h2:=JQ r ok.2;rw[Ew,l6,aT];show _<=_+(r.l.length+1)
  lia
theorem JQ:∀b:Bs,i3 b->(FD b).length<=5*l6 b+b.l.length+1
 | .nil,_=>by rw[FD];exact Nat.le_add_left _ _
 | .cons t b r,ok=>by
  rw[i3] at ok;have h1:=uF b ok.1;have h2:=JQ r ok.2;rw[FD,l6,aZ,aT];show _<=_+(r.l.length+1)+1
  lia
end
theorem KP{s:Ds}(ok:fR s)(hm:dF s<=1000):(i0 (fF s)).length<=5000:=by
 have:=uF s ok;rw[c6]
 lia
theorem aa9{c:Bool}{X Y:Prop}{M G:Hp->Prop}(ha:c=true->(∀h,G h->M h)->X)(hb:c=false->(∀h,G h->M h)->Y)(k:∀h,G h->M h):if c=true then X else Y:=by
 cases c with
 |true=>exact cD (ha Z k)
 |false=>exact cf (hb Z k)
def afF(n:Nat):Sp:=λvs H Q _=>∃H0 v t s,vs=[v]/\ai H0 H/\Dat H0 v (iR t (sL s))/\fR s/\dq s<n/\dF s<=1000/\∀l H',H l=none->ai H H'->H' l=some (.lst (i0 (fF s)))->Q (.ref l) H'
theorem FY(T:Txt K mg A)(Fm:pP P w K A fm)(n:Nat):aQ P w K mg base cY (2+n) A.AE A.Ac ["body"] (afF n):=by
 induction n with
 |zero=>exact eT (by rintro vs H Q E ⟨_,v,t,s,_,_,_,_,h,_⟩;exact g_ _ h)
 |succ n ih=>
 show aQ P w K mg base cY ((2+n)+1) _ _ _ _;refine T.tG.F.ok hV (λvs H Q E h=> ?_) (λcC Ar outer s0 H vs Q E hr h=> ?_)
 .obtain⟨H0,v,t,s,rfl,_⟩:=h;rfl
 .obtain⟨H0,v,t,s,rfl,yV,hd,ok,dp,hm,q⟩:=h;obtain⟨a,vs,rfl,ha,hA⟩:=fP hd;have hT5:=KP ok hm;refine⟨_,(af (eL 1 hV.nd (a8 c_)) (af (yI (oP (pv 0)) (ie 2 hV.nd) (af (bj (cR dC F' G' cA (pv 1) (aF (cv (CJ T Fm) hr T.uX aA (aF (pv 2)) (hj:=by lia))))) (af (eL 3 hV.nd (cv (dw T Fm) hr T.e_ aA (aF (pv 2)) (hj:=by lia))) (af (yI (ug Z T.xO (aF (pv 3))) (nu Z (bJ (ie 4 hV.nd) (bJ (ie 5 hV.nd) iq))) (af (a_ (jp kR (pv 4) ae) (ah (bj (cR dC F' G' cA (pv 1) (aF ax)))) aK) (ah (bj (cR dC qt tO i7 (pv 1) (aF (cv ih hr T.tG aA (aF (pv 5)) (hj:=by lia)))))))) (ah (a_ (AS (pv 3) (λ_=>rfl)) (ah (bj (cR dC F' G' cA (pv 1) (aF ax)))) aK)))))) (ah (aB (pv 1))))),?_⟩;refine⟨jy,λfl lI=> ?_⟩;have s1:=ai.upd (o:= .lst []) lI;have jR:upd H fl (.lst []) fl=some (.lst []):=aa;generalize upd H fl (.lst [])=H1 at s1 jR ⊢;refine⟨_,Z,a,t,Z,Mr (s1 _ _ (yV _ _ ha)),?_⟩;refine mF (K:=K) (t:=t) (a:=a) (xs:=vs) (λi σ H' =>∃x2 x3 x4 x5:Option V,σ=[some (.ref a),some (.ref fl),x2,x3,x4,x5]/\Kept fl H1 H'/\H' fl=some (.lst (i0 ((s.l.take i).flatMap mI)))) ⟨_,_,_,_,Z,Kept.refl _ _,jR⟩ (by rintro i σ H' _ ⟨_,_,_,_,_,k,_⟩;exact k _ _ (aw (yV _ _ ha) lI) (s1 _ _ (yV _ _ ha))) ?_ ?_
  .rintro i x σ H' hx ⟨x2,x3,x4,x5,rfl,kp,mX⟩
   obtain⟨d,ed,nj⟩:=gP hA hx;have dm:=bt ed;have jc:=fD ok d dm;have IS:=fu d dm;have P6:=iy d dm;have S0' :ai H0 H' :=λc o e=>kp c o (aw (yV _ _ e) lI) (s1 _ _ (yV _ _ e));have tl:=fq mI s.l (i+1);rw[<-z7,dI mI ed,aT] at tl;rw[c6] at hT5;refine⟨_,Z,zx mX,_,Z,H0,x,d,Z,S0',nj,jc,λH2 s2=>⟨fl,_,_,Z,Z,s2 _ _ mX,?_,?_⟩⟩
   .rw[c6];exact gx (show _<=5000 by lia) (by decide)
   have k3:Kept fl H1 (upd H2 fl (.lst (i0 ((s.l.take i).flatMap mI)++[.str (lT d.wd d.ps)]))):=λc o hc e=>by rw[au hc];exact s2 _ _ (kp c o hc e)
   have WZ:upd H2 fl (.lst (i0 ((s.l.take i).flatMap mI)++[.str (lT d.wd d.ps)])) fl=some (.lst (i0 ((s.l.take i).flatMap mI++[.hd d.wd d.ps]))):=by rw[aa,jj];rfl
   generalize upd H2 fl (.lst (i0 ((s.l.take i).flatMap mI)++[.str (lT d.wd d.ps)]))=H3 at k3 WZ ⊢;have S03:ai H0 H3:=λc o e=>k3 c o (aw (yV _ _ e) lI) (s1 _ _ (yV _ _ e));refine⟨_,Z,H0,x,d,Z,S03,nj,jc,λl ys H4 ZF s4 hz hB=> ?_⟩;have Cd:=s4 _ _ WZ;have Ld:l≠fl:=(aw WZ ZF).symm;have bl:=iu hB;have fd:=MJ d;rw[MF] at fd;refine⟨_,Z,l,_,Z,hz,?_⟩;refine FJ (K:=K) (a:=l) (xs:=ys) (λj σ H5=>∃x4 x5:Option V,σ=[some (.ref a),some (.ref fl),some x,some (.ref l),x4,x5]/\Kept fl H4 H5/\H5 fl=some (.lst (i0 ((s.l.take i).flatMap mI++ .hd d.wd d.ps::TY (d.bs.l.take j))))) ⟨_,_,Z,Kept.refl _ _,Cd⟩ (by rintro i σ H' ⟨_,_,_,k,_⟩;exact bq.of (k _ _ Ld hz)) ?_ ?_
   .rintro j y tt σ H5 hy zQ ⟨x4,x5,rfl,k5,lH⟩
    obtain⟨pp,ep,hp⟩:=gQ hB hy;have pm:=bt ep;have t_:=fh (g6 jc) pp pm;have Ak:=fk pp pm;have HR:=iz pp pm;rw[<-iw] at Ak;rw[<-oC] at HR;have sn:=NK ep;have k6:Kept fl H4 (upd H5 tt (.tup [.int j,y])):=λc o hc e=>(ai.upd zQ) _ _ (k5 c o hc e);have Bv:=(ai.upd (o:= .tup [.int j,y]) zQ) _ _ lH;have aaO:upd H5 tt (.tup [.int j,y]) tt=some (.tup [.int j,y]):=aa;generalize upd H5 tt (.tup [.int j,y])=H6 at k6 Bv aaO ⊢;refine⟨tt,_,Z,bu.of aaO,Z,_,_,Z,_,_,Z,Z,?_⟩
    have P9:((s.l.take i).flatMap mI++ .hd d.wd d.ps::TY (d.bs.l.take (j+1))).length<=5000:=by
     have h1:=Pp d.bs.l (j+1);have h2:=congrArg List.length fd;rw[aZ,aT] at h2;rw[aT,aZ]
     lia
    rw[sn,<-oo,<-dv,<-dv,aT,aT] at P9;generalize hP:(s.l.take i).flatMap mI++ .hd d.wd d.ps::TY (d.bs.l.take j)=Mx at Bv P9;refine⟨_,Z,_,_,Z,Z,_,Z,?_⟩;apply aa9 (c:=decide ((0:Int)<(j:Int))) (G:=λh=>Kept fl H4 h/\h fl=some (.lst (i0 (Mx++if 0<j then[.or] else[]))))
    .intro hb k;have hj:0<j:=by have:=bo hb;lia
     rw[ay hj] at k P9;refine⟨_,Z,zx Bv,fl,_,_,Z,Z,Bv,?_,?_⟩
     .rw[c6];exact gx (show _<=5000 by lia) (by decide)
     have k7:Kept fl H4 (upd H6 fl (.lst (i0 Mx++[.str "or"]))):=λc o hc e=>by rw[au hc];exact k6 c o hc e
     have Ee:upd H6 fl (.lst (i0 Mx++[.str "or"])) fl=some (.lst (i0 (Mx++[.or]))):=by rw[aa,jj];rfl
     generalize upd H6 fl (.lst (i0 Mx++[.str "or"]))=H7 at k7 Ee ⊢;exact k H7 ⟨k7,Ee⟩
    .intro hb k;have hj:¬0<j:=by have:=of_decide_eq_false hb;lia
     rw[aq hj,bZ] at k;generalize H6=H7 at k6 Bv ⊢;exact k H7 ⟨k6,Bv⟩
    .rintro H7 ⟨k7,Ee⟩
     have S07:ai H0 H7:=λc o e=>k7 c o (aw (yV _ _ e) lI) (s4 _ _ (S03 _ _ e));refine⟨_,Z,zx Ee,_,Z,H0,y,pp.1,pp.2,Z,S07,hp,t_,by lia,by lia,λl2 H8 hl8 s8 Wz=>⟨fl,l2,_,_,Z,Z,s8 _ _ Ee,Wz,?_,some (.int j),some y,Z,λc o hc e=> ?_,?_⟩⟩
     .rw[c6,c6,aT];exact aL (show _<=5000 by lia) (by decide)
     .rw[au hc];exact s8 _ _ (k7 c o hc e)
     .rw[aa,sn,<-jj,<-hP,dv,dv,oo]
   .rintro σ H5 ⟨x4,x5,rfl,k5,lH⟩
    rw[bl,gf (aJ _)] at lH;have k15:Kept fl H1 H5:=λc o hc e=>k5 c o hc (s4 _ _ (k3 c o hc e));have P9:((s.l.take i).flatMap mI).length+(mI d).length<=5000:=by lia
    rw[fd,aZ,aT] at P9;have tk:=dI mI ed;rw[fd] at tk;have hl5:=k5 _ _ Ld hz;refine⟨_,Z,!ys.isEmpty,.inl ⟨ys,bq.of hl5,Z⟩,?_⟩;by_cases h0:d.bs.l=[]
    .rw[h0] at bl lH tk;rw[show ys=[] from rh.mp bl];refine cf ⟨_,_,_,_,Z,k15,?_⟩;rw[tk];exact lH
    .rw[show(!ys.isEmpty)=true by
      cases ys with
      |nil=>exact absurd (rh.mp bl.symm) h0
      |cons _ _=>rfl]
     rw[aq h0] at tk P9;refine cD ⟨_,Z,zx lH,fl,_,_,Z,Z,lH,?_,_,_,_,_,Z,λc o hc e=> ?_,?_⟩
     .rw[c6,aT,aZ];exact gx (show _<=5000 by lia) (by decide)
     .rw[au hc];exact k15 c o hc e
     .rw[aa,tk,<-oo,<-dv,jj _ [.fin]];rfl
  .rintro σ H' ⟨x2,x3,x4,x5,rfl,kp,mX⟩
   rw[gf (lP (qb hA).symm),<-z7] at mX;exact⟨_,Z,q fl H' lI (λc o e=>kp c o (aw e lI) (s1 _ _ e)) mX⟩
mutual
theorem XJ:∀d:Dd,mI (ni d)=mI d
 | .mk w ps bs=>by rw[ni,mI,mI,Yg bs]
theorem FA:∀s:Ds,fF (gO s)=fF s
 | .nil=>by rw[gO]
 | .cons d r=>by rw[gO,fF,fF,XJ d,FA r]
theorem Yg:∀b:Bs,Ew (rj b)=Ew b
 | .nil=>by rw[rj]
 | .cons t b r=>by rw[rj,Ew,Ew,FA b,NV r]
theorem NV:∀b:Bs,FD (rj b)=FD b
 | .nil=>by rw[rj]
 | .cons t b r=>by rw[rj,FD,FD,FA b,NV r]
end
def yP:Tk->Prop
 | .hd w ps=>∃(ks:aj) (n:Nat),(w,ks++List.replicate n ("body" :Str))∈bH/\c9 ks ps
 |_=>True
mutual
theorem X7:∀d:Dd,ia d->∀k∈mI d,yP k
 | .mk w ps bs,ok,k,hk=>by
  rw[ia] at ok;rw[mI] at hk;rcases aN.mp hk with rfl|hk
  .obtain⟨⟨ks,h⟩,_⟩:=ok;exact⟨ks,_,h⟩
  .exact XR bs ok.2 k hk
theorem Bw:∀s:Ds,fR s->∀k∈fF s,yP k
 | .nil,_,k,hk=>by rw[fF] at hk;cases hk
 | .cons d r,ok,k,hk=>by
  rw[fR] at ok;rw[fF] at hk;exact(cW.mp hk).elim (X7 d ok.1 k) (Bw r ok.2 k)
theorem XR:∀b:Bs,i3 b->∀k∈Ew b,yP k
 | .nil,_,k,hk=>by rw[Ew] at hk;cases hk
 | .cons t b r,ok,k,hk=>by
  rw[i3] at ok;rw[Ew] at hk;exact(cW.mp hk).elim (Bw b ok.1 k) (Ow r ok.2 k)
theorem Ow:∀b:Bs,i3 b->∀k∈FD b,yP k
 | .nil,_,k,hk=>by rw[FD] at hk;rw[fB.mp hk];exact trivial
 | .cons t b r,ok,k,hk=>by
  rw[i3] at ok;rw[FD] at hk;rcases aN.mp hk with rfl|hk
  .exact trivial
  .exact(cW.mp hk).elim (Bw b ok.1 k) (Ow r ok.2 k)
end
theorem Gw{c x:Nat}:∀{ws:aj},x∈(Str.join ⟨#[c]⟩ ws).cps.toList->x=c\/∃y∈ws,x∈y.cps.toList
 |[],h=>by cases h
 |[y],h=> .inr ⟨y,a9,h⟩
 |y::z::r,h=>by
  rw[kh] at h;rcases cW.mp h with h|h
  .exact .inr ⟨y,a9,h⟩
  .rcases aN.mp h with h|h
   .exact .inl h
   .rcases Gw h with h|⟨v,hv,h⟩
    .exact .inl h
    .exact .inr ⟨v,a7 _ hv,h⟩
theorem EY{k:Tk}(h:yP k):1<=(HJ k).length/\(HJ k).length<=600/\∀c∈(HJ k).cps.toList,c=32\/45<=c:=by
 have lit:∀x:Str,PQ x->1<=x.length/\x.length<=600/\∀c∈x.cps.toList,c=32\/45<=c:=λx h=>⟨h.1,by have:=h.2.1;lia,λc hc=> .inr (h.2.2 c hc)⟩
 cases k with
 |or=>exact lit _ (Al _ (by decide+kernel))
 |fin=>exact lit _ (Al _ (by decide+kernel))
 |hd w ps=>
  obtain⟨ks,n,hf,ft⟩:=h;obtain⟨w1,w2⟩:=Kj hf ft;have hl:=J' " " (tN w ps);have h60:=M' (B:=60) (tN w ps) λy hy=>(w2 y hy).2.1;refine⟨?_,?_,λc hc=> ?_⟩
  .show 1<=(Str.join " " (tN w ps)).length;have:=(NR hf).1;unfold tN
   cases AU (qu w) ps with
   |nil=>exact this
   |cons y r=>
    have e:=congrArg List.length (kh 32 w y r);rw[aT] at e;have h1:w.cps.toList.length=w.length:=rfl;show 1<=(Str.join ⟨#[32]⟩ (w::y::r)).cps.toList.length
    lia
  .show(Str.join " " (tN w ps)).length<=600;have:(tN w ps).length*(" " :Str).length<=9*1:=j_ _ w1;have:(tN w ps).length*60<=9*60:=j_ _ w1
   lia
  .rcases Gw (c:=32) (show c∈(Str.join ⟨#[32]⟩ (tN w ps)).cps.toList from hc) with rfl|⟨y,hy,h⟩
   .exact .inl rfl
   .exact .inr ((w2 y hy).2.2 c h)
noncomputable def qv(s:Ds):aj:=(fF s).map HJ
theorem Jw(ts:List Tk):i0 ts=(ts.map HJ).map V.str:=by rw[ik];rfl
noncomputable def txt(s:Ds):Str:=Str.join "\n" (qv s)
theorem BA{s:Ds}(ok:fR s)(hm:dF s<=1000):(qv s).length<=5000/\(∀x∈qv s,1<=x.length/\x.length<=600/\∀c∈x.cps.toList,c=32\/45<=c)/\JoinOk "\n" (qv s)=true:=by
 have h1:(qv s).length<=5000:=by
  have:=uF s ok;unfold qv;rw[aG]
  lia
 have h2:∀x∈qv s,1<=x.length/\x.length<=600/\∀c∈x.cps.toList,c=32\/45<=c:=λx hx=>by
  obtain⟨k,hk,rfl⟩:=fZ.mp hx;exact EY (Bw s ok k hk)
 refine⟨h1,h2,zy (B:=600) (λy hy=>(h2 y hy).2.1) ?_⟩;exact aL (vg (j_ _ h1) (j_ _ h1)) (show 5000*600+5000*1<=_ by decide)
def X9(C:Y'):Sp:=λvs H Q _=>∃p tb ls s,vs=[.ref p]/\m_ C H p tb ls s/\fR s/\dF s<=40/\dq s<=6/\∀H',ai H H'->Q (.str (txt s)) H'
theorem jH(T:Txt K mg A)(Fm:pP P w K A fm):aQ P w K mg base cY 10 A.pG A.pA ["program"] (X9 A.aD):=by
 refine T.iC.F.ok yN (λvs H Q E h=> ?_) (λcC Ar outer s0 H vs Q E hr h=> ?_)
 .obtain⟨p,tb,ls,s,rfl,_⟩:=h;rfl
 .obtain⟨p,tb,ls,s,rfl,pr,ok,hm,XE,q⟩:=h;obtain⟨dx,ho⟩:=pr.ob;obtain⟨e1,e2,_⟩:=Cb s;refine⟨_,(ah (aB (cR jD qk qo l_ ax (aF (cv (FY T Fm 7) hr T.tG aA (aF (EV (pv 0) T.cb T.dM (dR T) hr aA))))))),?_⟩;have td:=(pr.body).dat;refine⟨Z,_,Z,p,dx,_,Z,ho,Z,p,tb,ls,s,Z,pr,H,_,true,gO s,Z,ai.refl H,td,tW s ok,by lia,by lia,λl H' hl s1 hz=> ?_⟩;rw[FA,Jw] at hz;refine⟨_,l,qv s,Z,Z,hz,(BA ok (by lia)).2.2,?_⟩;rw[kr];exact q H' s1
noncomputable def KJ:Z'->V
 | .str x=> .str x
 | .int i=> .int i
 |_=> .bV
noncomputable def HI(k:Str):Z'->V
 | .none=>if k="mark" then .bV else .str "none"
 |d=> .str (mH d)
theorem Yy{k:Str}{d:Z'}(h:rO k d)(H:Hp):Dat H (KJ d) d:=by
 rcases ra h with rfl|⟨x,rfl,_⟩|⟨i,rfl,_⟩
 .exact .bV
 .exact .str x
 .exact .int i
theorem zE{i:Int}(h:i.natAbs<10 ^ 40):zX (bO i)=true/\PySem.intText? (bO i)=some i/\bO i≠ "none" /\(bO i).length<=60:=by
 obtain⟨h1,h2,_⟩:=C5 h;have hw:=Vb h;refine⟨by rw[LU];exact h1,?_,λe=> ?_,hw.2.1⟩
 .have:=FL h1;rw[h2] at this;exact this
 .rw[e] at h1;exact absurd h1 (by decide+kernel)
theorem Iu{k:Str}{d:Z'}(h:rO k d):(yY (.str k) [.str "name",.str "label",.str "mark"]=true/\HI k d=KJ d)\/(yY (.str k) [.str "name",.str "label",.str "mark"]=false/\((k="value" /\d= .none)\/∃i,d= .int i/\i.natAbs<10 ^ 40)):=by
 have hd:=ra h
 cases h with
 |name x h=>exact .inl ⟨by decide+kernel,Z⟩
 |label x h _=>exact .inl ⟨by decide+kernel,Z⟩
 |Bl=>exact .inl ⟨by decide+kernel,Z⟩
 |mark x h=>exact .inl ⟨by decide+kernel,Z⟩
 |Ag=>exact .inr ⟨by decide+kernel,.inl ⟨Z,Z⟩⟩
 |value i h=>exact .inr ⟨by decide+kernel,.inr ⟨i,Z,h⟩⟩
 |number i h=>exact .inr ⟨by decide+kernel,.inr ⟨i,Z,h⟩⟩
 |num _ lo hi i h h1 h2=>
  have hb:=bo (bS.mp (show(CD.all λp=>decide (yY (.str p.1) [.str "name",.str "label",.str "mark"]=false))=true by decide+kernel) _ h);rcases hd with h|⟨x,h,_⟩|⟨i',h,hi⟩
  .cases h
  .cases h
  .cases h;exact .inr ⟨hb,.inr ⟨_,Z,hi⟩⟩
def YX:Sp:=λvs H Q _=>∃k d,vs=[.str k,HI k d]/\rO k d/\∀H',ai H H'->Q (KJ d) H'
theorem Fq(T:Txt K mg A):aQ P w K mg base cY 3 A.xm A.xl ["kind","text"] YX:=by
 refine T.xr.F.ok Ej (λvs H Q E h=> ?_) (λcC Ar outer s0 H vs Q E hr h=> ?_)
 .obtain⟨k,d,rfl,_⟩:=h;rfl
 .obtain⟨k,d,rfl,ft,q⟩:=h;refine⟨_,(af (a_ (jp iW (pv 0) (ba (ag ax (ag ax (aF ax))))) (ah (aB (pv 1))) aK) (af (a_ (PW.pt (wv (jp cM (pv 0) ax) (ww (jp cM (pv 1) ax)))) (ah (aB eU)) aK) (ah (aB (kE (gA (cv (xa T) hr T.oJ aA (aF (pv 1)))) (GX so T.DS Boot.«int» (aF (pv 1))) (pv 1)))))),?_⟩;refine⟨_,Z,sY,λtp htp=> ?_⟩;have s1:=ai.upd (o:= .tup [V.str "name",.str "label",.str "mark"]) htp;have o_:upd H tp (.tup [V.str "name",.str "label",.str "mark"]) tp=some (.tup [V.str "name",.str "label",.str "mark"]):=aa;generalize upd H tp (.tup [V.str "name",.str "label",.str "mark"])=H1 at s1 o_ ⊢;refine⟨tp,_,Z,.inr (bu.of o_),Z,Z,_,Z,?_⟩;rcases Iu ft with⟨e,e2⟩|⟨e,⟨rfl,rfl⟩|⟨i,rfl,hi⟩⟩
  .rw[show(if false=true then _ else yY (V.str k) _)=true from e];exact cD ⟨_,Z,by rw[e2];exact q H1 s1⟩
  .rw[show(if false=true then _ else yY (V.str "value") _)=false from e];exact cf ⟨_,Z,Z,_,Z,Wp ⟨_,Z,Z,_,Z,Wp (q H1 s1)⟩⟩
  .rw[show(if false=true then _ else yY (V.str k) _)=false from e];obtain⟨w1,w2,w3,w4⟩:=zE hi;refine cf ⟨_,Z,Z,_,Z,?_⟩;by_cases hv:k="value"
   .subst hv;exact Wp ⟨_,Z,Z,_,Z,g7 (cw w3) ⟨_,Z,bO i,Z,by lia,λH2 s2=>⟨_,Z,by rw[w1];exact cD ⟨_,Z,bO i,i,Z,w2,by lia,q H2 (s1.trans s2)⟩⟩⟩⟩
   .exact g7 (cw hv) (cf ⟨_,Z,bO i,Z,by lia,λH2 s2=>⟨_,Z,by rw[w1];exact cD ⟨_,Z,bO i,i,Z,w2,by lia,q H2 (s1.trans s2)⟩⟩⟩)
noncomputable def SU(w:Str)(ps:List Z'):ak:=List.zipWith HI (qu w) ps
theorem GK{k:Str}{d:Z'}(h:k≠ "mark"):HI k d= .str (mH d)/\oN k d=[mH d]:=by
 refine⟨?_,aq h⟩;unfold HI
 split
 .exact aq h
 .rfl
theorem DX:∀{ks:aj} {ps:List Z'},c9 ks ps->("mark" :Str)∉ks->(AU ks ps).map V.str=List.zipWith HI ks ps
 |_,_,.nil,_=>rfl
 |_,_,.cons (k:=k) (d:=d) (ks:=ks) (ds:=ds) h t,n=>by
  obtain⟨e1,e2⟩:=GK (d:=d) (k:=k) λe=>n (e▸a9);show(oN k d++AU ks ds).map V.str=HI k d::List.zipWith HI ks ds;rw[e1,e2,<-DX t λe=>n (a7 _ e)];rfl
theorem KQ{w:Str}{ks:aj}(h:(w,ks)∈bH)(n:w≠ "make"):("mark" :Str)∉ks:=by
 have:=bo (bS.mp (show(bH.all λp=>decide (p.1="make" \/("mark" :Str)∉p.2))=true by decide+kernel) _ h);exact this.resolve_left n
theorem KA{ks:aj}{n:Nat}(h:(("make" :Str),ks++List.replicate n ("body" :Str))∈bH){ps:List Z'}(ft:c9 ks ps):∃d1 d2 d3,ps=[d1,d2,d3]/\rO "mark" d3/\qu "make"=[("name" :Str),"size","mark"]:=by
 have e:=jh h ft;have e2:qu "make"=[("name" :Str),"size","mark"]:=by decide+kernel
 rw[e2] at e;subst e
 cases ft with
 |cons _ t=>cases t with|cons _ t=>cases t with|cons h t=>cases t;exact⟨_,_,_,Z,h,e2⟩
def QX:Sp:=λvs H Q _=>∃a w ps,vs=[.ref a]/\H a=some (.lst ((tN w ps).map V.str))/\yP (.hd w ps)/\∀l H',H l=none->ai H H'->H' l=some (.lst (SU w ps))->Q (.ref l) H'
theorem FK(T:Txt K mg A):aQ P w K mg base cY 1 A.Bc A.By ["words"] QX:=by
 refine T.Aa.F.ok FV (λvs H Q E h=> ?_) (λcC Ar outer s0 H vs Q E hr h=> ?_)
 .obtain⟨a,w,ps,rfl,_⟩:=h;rfl
 .obtain⟨a,w,ps,rfl,ha,⟨ks,n,hf,ft⟩,q⟩:=h;refine⟨_,(af (a_ (jp mN (cJ aP (pv 0) ae) ax) (ah (aB (dj qJ (pv 0) (eA ae) fj))) aK) (af (a_ (jp cM (iY aV T.dY Boot.«len» (aF (pv 0))) ae) (ah (aB (aH i6 (dj qJ (pv 0) (eA ae) fj) (a8 (aF eU))))) aK) (af (a_ (PW.pt (wv (jp cM (iY aV T.dY Boot.«len» (aF (pv 0))) ae) (ww (jp cM (cJ aP (pv 0) ae) ax)))) (ah (aB (aH i6 (dj qJ (pv 0) (eA ae) (eA ae)) (dj qJ (pv 0) (eA ae) fj)))) aK) (ah (aB (a8 c_)))))),?_⟩;refine⟨_,Z,a,_,0,_,Z,Z,bq.of ha,iZ _ _,Z,_,Z,?_⟩;by_cases hm:w="make"
  .subst hm;obtain⟨d1,d2,d3,rfl,hd3,ek⟩:=KA hf ft;have e1:=GK (k:="name") (d:=d1) (by decide+kernel);have e2:=GK (k:="size") (d:=d2) (by decide+kernel)
   have et:SU "make" [d1,d2,d3]=[.str (mH d1),.str (mH d2),HI "mark" d3]:=by
    unfold SU;rw[ek];show[HI "name" d1,HI "size" d2,HI "mark" d3]=_;rw[e1.1,e2.1]
   have ew:tN "make" [d1,d2,d3]=[("make" :Str),mH d1,mH d2]++oN "mark" d3:=by
    unfold tN;rw[ek];show(("make" :Str)::(oN "name" d1++(oN "size" d2++(oN "mark" d3++[]))))=_;rw[e1.2,e2.2,bZ];rfl
   rw[et] at q;rw[ew] at ha;refine cf ?_;rcases A_ hd3 with rfl|⟨x,rfl⟩
   .have hx:H a=some (.lst [.str "make",.str (mH d1),.str (mH d2)]):=by rw[show oN "mark" .none=[] from ay Z] at ha;exact ha
    refine⟨_,Z,a,_,Z,.inl (bq.of hx),Z,_,Z,?_⟩;refine cD ⟨_,Z,1,Z,a,_,Z,bq.of hx,λp1 GP=>⟨ki,λp2 Cm=>⟨p1,p2,_,_,Z,Z,(ai.upd Cm) _ _ aa,aa,?_,λl hl=>q l _ ((ai.upd GP).free ((ai.upd Cm).free hl)) (((ai.upd GP).trans (ai.upd Cm)).trans (ai.upd hl)) ?_⟩⟩⟩
    .rw[QB];exact sY
    .rw[aa,QB,show HI "mark" .none= .bV by unfold HI;exact ay Z];rfl
   .have hx:H a=some (.lst [.str "make",.str (mH d1),.str (mH d2),.str "in",.str x]):=by rw[show oN "mark" (.str x)=[("in" :Str),x] from ay Z] at ha;exact ha
    refine⟨_,Z,a,_,Z,.inl (bq.of hx),Z,_,Z,?_⟩;refine cf ⟨_,Z,a,_,Z,.inl (bq.of hx),Z,_,Z,?_⟩;refine cD ⟨_,Z,a,_,3,_,Z,Z,bq.of hx,bA (j:=3) Z,Z,_,Z,Wp ?_⟩;refine⟨_,Z,1,Z,3,Z,a,_,Z,bq.of hx,λp1 GP=>⟨_,Z,4,Z,a,_,Z,bq.of ((ai.upd GP) _ _ hx),λp2 Cm=>⟨p1,p2,_,_,Z,Z,(ai.upd Cm) _ _ aa,aa,?_,λl hl=>q l _ ((ai.upd GP).free ((ai.upd Cm).free hl)) (((ai.upd GP).trans (ai.upd Cm)).trans (ai.upd hl)) ?_⟩⟩⟩
    .exact sY
    .rw[aa];rfl
  .rw[bf (cw hm)];have em:=DX ft (λz=>KQ hf hm (eJ _ z));rw[<-jh hf ft] at em;refine cD ⟨_,Z,1,Z,a,_,Z,bq.of ha,λl hl=>q l _ hl (ai.upd hl) ?_⟩;rw[aa];unfold SU;rw[<-em];exact congrArg (λz=>some (HO.lst z)) (QB _ _)
noncomputable def hdV(w:Str)(ps:List Z'):ak:= .str w::ps.map KJ
theorem Ea{x:Str}(y:Str)(h:x.length<=100000):(Builtin.Str.partsBetween x (Builtin.Str.occurrences x y 0 x.length (x.length+1)) y.length).length<=sizeLine:=by
 rw[PySem.length_partsBetween];have:=PySem.StrLaws.occ_length_le x y 0 x.length (x.length+1);have hL:sizeLine=16777216:=rfl
 lia
noncomputable def tkW:Tk->aj
 | .hd w ps=>tN w ps
 | .or=>["or"]
 | .fin=>["end"]
theorem Ah{k:Tk}(tok:yP k):Txt.split (HJ k) " "=tkW k:=by
 have hl:=(EY tok).1
 have go:∀ws:aj,ws≠[]->Str.join ⟨#[32]⟩ ws=HJ k->(∀y∈ws,PQ y)->Txt.split (HJ k) " "=ws:=λws h0 e hw=>by
  rw[<-e] at hl ⊢;exact Bq (c:=32) h0 (λp hp z=>absurd ((hw p hp).2.2 32 z) (by decide)) (λz=>by rw[z] at hl;exact absurd hl (by decide))
 cases k with
 |hd w ps=>
  obtain⟨ks,n,hf,ft⟩:=tok;exact go _ (uN _ _) Z (Kj hf ft).2
 |or=>exact go _ (uN _ _) Z λy hy=>by rw[fB.mp hy];exact Al _ (by decide+kernel)
 |fin=>exact go _ (uN _ _) Z λy hy=>by rw[fB.mp hy];exact Al _ (by decide+kernel)
theorem LW{K:Frag}{a b:Y'}{xs ys:ak}{H:Hp}(h:bq K H a xs)(h2:bq K H b ys)(hl:xs.length=ys.length):AV (Itz K a b) H xs.length (λi x H' =>∃T u v,x= .ref T/\H' T=some (.tup [u,v])/\xs[i]? =some u/\ys[i]? =some v) where
 go:=λi H' s hi=>⟨xs,ys,xs[i],ys[i],s.seq h,s.seq h2,by simp[hi],by simp[hl▸hi]⟩
 zS:=λi H' x gE s hi q=>by
  obtain⟨T,u,v,rfl,hT,rfl,hu,hv⟩:=q;exact⟨ai.upd hT,T,u,v,Z,aa,hu xs (s.seq h),hv ys (s.seq h2)⟩
 stop:=λi H' s hi=>⟨xs,ys,s.seq h,s.seq h2,.inl hi⟩
theorem L7{ks:aj}{ps:List Z'}(ft:c9 ks ps)(n:Nat):((ks++List.replicate n ("body" :Str)).map V.str).filter (λv=>decide (v≠.str "body"))=ks.map V.str:=by
 rw[cu,nC,gD.mpr λk hk=> ?_,ub.mpr λk hk=> ?_,bZ]
 .rw[List.map_replicate] at hk;rw[(List.mem_replicate.mp hk).2];decide
 .obtain⟨k,Q2,rfl⟩:=fZ.mp hk;clear hk
  induction ft with
  |nil=>cases Q2
  |cons h t ih=>
   rcases aN.mp Q2 with rfl|hk
   .exact aU (cw (wc h))
   .exact ih hk
theorem Bi{K:Frag}{a b:Y'}{xs ys:ak}{H:Hp}{Q:VK}(h1:H a=some (.tup xs))(h2:bu K H b ys)(hx:xs≠[])(hl:xs.length+ys.length<=sizeLine)(q:∀p H',(p=a\/H p=none)->ai H H'->H' p=some (.tup (xs++ys))->Q (.ref p) H'):UT K (.ref a) (.ref b) H Q:=
 ⟨a,b,xs,ys,Z,Z,bu.of h1,h2,hx,hl,λe=>q a H (.inl Z) (ai.refl H) (by rw[e,bZ];exact h1),λ_ p hp=>q p _ (.inr hp) (ai.upd hp) aa⟩
theorem Yc(ps:List Z'):(List.range ps.length).map (λi=>KJ (ps.getD i .none))=ps.map KJ:=by
 apply vY;intro i;rw[bG,bG];by_cases h:i<ps.length
 .rw[rg h];simp[h]
 .rw[jI (by simpa using h),jI (by simpa using h)];rfl
theorem OR{K:Frag}{a:Y'}{v:V}{H:Hp}{Q:VK}{n:Nat}(h:H a=some (.tup [v]))(hn:n<=2)(q:∀p H',ai H H'->H' p=some (.tup (List.replicate n v))->Q (.ref p) H'):VO K (.ref a) (.int (n:Nat)) H Q:=by
 refine⟨a,n,v,Z,Z,bu.of h,?_⟩
 match n,hn with
 |0,_=>exact .inl ⟨Z,λp hp=>q p _ (ai.upd hp) aa⟩
 |1,_=>exact .inr (.inl ⟨Z,q a H (ai.refl H) h⟩)
 |2,_=>exact .inr (.inr ⟨Z,λp hp=>q p _ (ai.upd hp) aa⟩)
theorem GQ{w:Str}{ks:aj}{ps:List Z'}{n:Nat}(h:(w,ks++List.replicate n ("body" :Str))∈bH)(ft:c9 ks ps):((ks++List.replicate n ("body" :Str)).map V.str).countP (λz=>DH z (.str "body"))=n/\n<=2:=by
 have e:=bo (bS.mp (show(bH.all λp=>decide ((p.2.map V.str).countP (λz=>DH z (.str "body"))=p.2.length - (qu p.1).length/\p.2.length - (qu p.1).length<=2))=true by decide+kernel) _ h);rw[show(qu (w,ks++List.replicate n ("body" :Str)).1)=ks from jh h ft] at e;rw[show(w,ks++List.replicate n ("body" :Str)).2.length=ks.length+n by show(ks++_).length=_;rw[aT,eV]] at e;exact⟨e.1.trans (by lia),by lia⟩
noncomputable def Bb:Nat->Bs
 |0=> .nil
 |n+1=> .cons true .nil (Bb n)
theorem zO:∀n:Nat,i3 (Bb n)/\(Bb n).l.length=n/\bL (Bb n)=List.replicate n (.tuple [])
 |0=>⟨by rw[Bb,i3];trivial,Z,by rw[Bb,bL];rfl⟩
 |n+1=>by
  obtain⟨h1,h2,h3⟩:=zO n;refine⟨?_,?_,?_⟩
  .rw[Bb,i3,fR];exact⟨trivial,h1⟩
  .show(Bb n).l.length+1=_;rw[h2]
  .rw[Bb,bL,h3,sL];rfl
theorem EL{ks:aj}{ps:List Z'}(ft:c9 ks ps)(H:Hp):DatAll H (ps.map KJ) ps:=by
 induction ft with
 |nil=>exact .nil
 |cons h t ih=>exact .cons (Yy h H) ih
theorem Kx{H:Hp}{v:V}{d:Z'}(h:Dat H v d):∀n:Nat,DatAll H (List.replicate n v) (List.replicate n d)
 |0=> .nil
 |n+1=> .cons h (Kx h n)
def X0:Sp:=λvs H Q _=>∃k,vs=[.str (HJ k)]/\yP k/\match k with
 | .hd w ps=>∀a H',H a=none->ai H H'->H' a=some (.tup (hdV w ps))->Q (.ref a) H'
 |_=>∀H',ai H H'->Q .bV H'
theorem Ez(T:Txt K mg A)(Fm:pP P w K A fm):aQ P w K mg base cY 5 A.yf A.xp ["line"] X0:=by
 refine T.xt.F.ok iI (λvs H Q E h=> ?_) (λcC Ar outer s0 H vs Q E hr h=> ?_)
 .obtain⟨k,rfl,_⟩:=h;rfl
 .obtain⟨k,rfl,tok,q⟩:=h;refine⟨_,(af (eL 1 iI.nd (cR jD vT type_str_split GJ (pv 0) (aF ax))) (af (a_ (NN (Ao Fm.xV (cJ aP (pv 1) ae) (c8 (v:= .ref A.cT) Z T.cT Z))) (ah (aB eU)) aK) (af (G0 2 iI.nd ["kind"] 1 [] (wU (jv Fm.xV (c8 (v:= .ref A.cT) Z T.cT Z) (cJ aP (pv 1) ae))) (λ_ _ _ _ _=>⟨(ie 0 (show(["kind"]:aj).Nodup by decide+kernel)),(Rx (jp mN (pv 0) ax)),(pv 0)⟩)) (af (eL 3 iI.nd (cv (FK T) hr T.Aa aA (aF (pv 1)))) (af (a_ (jp mN (iY aV T.dY Boot.«len» (aF (pv 3))) (iY aV T.dY Boot.«len» (aF (pv 2)))) (ah (aB eU)) aK) (af (eL 4 iI.nd (aH uE (ba (aF (cJ aP (pv 1) ae))) (GX dG T.jf Boot.«tuple» (aF (L9 ["kind","text"] 2 [] (Yi Z T.U4 (ag (pv 2) (aF (pv 3)))) (λ_ _ _ _ _=>⟨(Fv (K:=K) (n:=2) Z Z (bJ (ie 0 (show(["kind","text"]:aj).Nodup by decide+kernel)) (bJ (ie 1 (show(["kind","text"]:aj).Nodup by decide+kernel)) iq)) Z Z),pD,(cv (Fq T) hr T.xr aA (ag (pv 0) (aF (pv 1))))⟩)))))) (ah (aB (kE (gA (cv (A9 T Fm) hr T.w8 aA (aF (aH uE (pv 4) (aH RX (ba (aF (ba c_))) (cR PySem.F.plainAttrs_tuple PySem.F.slot_tuple_count PySem.F.type_tuple_count KU (jv Fm.xV (c8 (v:= .ref A.cT) Z T.cT Z) (cJ aP (pv 1) ae)) (aF ax))))))) (pv 4) eU))))))))),?_⟩;have hl:=(EY tok).2.1;have hL:sizeLine=16777216:=rfl;have sp:=Ah tok;refine⟨_,Z,Z,_,_,Z,Z,by lia,Z,Ea _ (by lia),λwl Lq=> ?_⟩;rw[sp];have s1:=ai.upd (o:= .lst ((tkW k).map V.str)) Lq;have yS:upd H wl (.lst ((tkW k).map V.str)) wl=some (.lst ((tkW k).map V.str)):=aa;generalize upd H wl (.lst ((tkW k).map V.str))=H1 at s1 yS ⊢
  cases k with
  |or=>
   refine⟨_,Z,wl,_,0,_,Z,Z,bq.of yS,iZ _ _,.inr "or",Z,Z,?_⟩;rw[Fm.no];exact⟨_,Z,cD (q H1 s1)⟩
  |fin=>
   refine⟨_,Z,wl,_,0,_,Z,Z,bq.of yS,iZ _ _,.inr "end",Z,Z,?_⟩;rw[Fm.ne];exact⟨_,Z,cD (q H1 s1)⟩
  |hd w ps=>
   obtain⟨ks,n,hf,ft⟩:=id tok;obtain⟨t,hv,ht⟩:=Fm.f _ hf;have Mo :i4 fm.kF (.inr w)=some (.ref t):=hv;refine⟨_,Z,wl,_,0,_,Z,Z,bq.of yS,iZ _ _,.inr w,Z,Z,?_⟩;rw[Mo];refine⟨_,Z,cf ⟨_,Z,wl,_,0,_,Z,Z,bq.of yS,iZ _ _,.inr w,_,Z,Z,Mo,t,Z,⟨_,ht _⟩,?_⟩⟩;have hs:((ks++List.replicate n ("body" :Str)).map V.str).length<=sizeLine:=by rw[aG];exact aL (cO hf) (by decide)
   refine m7 (λv=>decide (v≠.str "body")) id (j4 (ht H1)) hs ?_ λkl hkl=> ?_
   .intro i y H' C1 C0 hy sm c1 c0;obtain⟨z,_,rfl⟩:=fZ.mp (bt hy);refine⟨(fU.refl _).own (by decide),⟨_,Z,Z,_,Z,?_⟩⟩;by_cases hz:z="body"
    .subst hz;rw[aU Z];exact cf (c0 (by decide))
    .rw[bf (cw hz)];exact cD ⟨_,Z,c1 (aU (cw hz))⟩
   rw[L7 ft n,List.map_id];have s2:=ai.upd (o:= .lst (ks.map V.str)) hkl;have abk:upd H1 kl (.lst (ks.map V.str)) kl=some (.lst (ks.map V.str)):=aa;generalize upd H1 kl (.lst (ks.map V.str))=H2 at s2 abk ⊢;refine⟨_,Z,wl,w,ps,Z,s2 _ _ yS,tok,λtl H3 htl s3 BN=> ?_⟩;have el:=n9 ft
   have et:(SU w ps).length=ks.length:=by
    unfold SU;rw[jh hf ft,List.length_zipWith]
    lia
   have Xn:=s3 _ _ abk;refine⟨_,Z,tl,_,Z,.inl (bq.of BN),_,Z,kl,_,Z,.inl (bq.of Xn),Z,_,Z,?_⟩;rw[et,aG,aU Z];have afB:=s3 _ _ (s2 _ _ yS);have hk4:ks.length<=4:=by have:=cO hf;rw[aT] at this;lia
   refine cf ⟨_,Z,wl,_,0,_,Z,Z,bq.of afB,iZ _ _,ki,λt1 o_=> ?_⟩;have s4:=ai.upd (o:= .tup [V.str w]) o_;have aaF:upd H3 t1 (.tup [V.str w]) t1=some (.tup [V.str w]):=aa;generalize upd H3 t1 (.tup [V.str w])=H4 at s4 aaF ⊢;refine⟨_,Z,_,Z,kl,tl,Z,⟨_,s4 _ _ Xn⟩,⟨_,s4 _ _ BN⟩,?_⟩;refine ib (λ_=>true) (λi=>KJ (ps.getD i .none)) (LW (bq.of (s4 _ _ Xn)) (bq.of (s4 _ _ BN)) (by rw[aG,et])) (by rw[aG];exact aL hk4 (by decide)) ?_ λp2 H5 h0 s5 h5=> ?_
   .rintro i x H' C1 C0 hi sm ⟨tt,u,v,rfl,hT,e1,e2⟩ c1 c0
    refine⟨tt,_,Z,bu.of hT,Z,_,_,Z,_,_,Z,Z,((fU.refl _).own (by decide)).own (by decide),?_⟩;rw[bG] at e1
    cases ek:ks[i]? with
    |none=>rw[ek] at e1;cases e1
    |some k' =>
     rw[ek] at e1;cases e1;have hip:i<ps.length:=by rw[<-el];exact(dE.mp ek).1
     have ep:ps[i]? =some ps[i]:=by simp[hip]
     have ev:v=HI k' ps[i]:=by
      have e3:(SU w ps)[i]? =some (HI k' ps[i]):=by
       unfold SU;rw[jh hf ft,List.getElem?_zipWith,ek,ep]
      rw[e3] at e2;exact(fC e2).symm
     refine⟨_,Z,_,Z,k',ps[i],by rw[ev];rfl,fV ft i _ _ ek ep,λH6 s6=> ?_⟩;have:=c1 Z H6 s6;rw[eQ,ep] at this;exact this
   have h5:H5 p2=some (.lst (ps.map KJ)):=by rw[h5,gD.mpr (λ_ _=>rfl),aG,el,Yc]
   refine⟨p2,_,Z,.inl ⟨bq.of h5,λt2 vR=> ?_⟩⟩;have s6:=ai.upd (o:= .tup (ps.map KJ)) vR;have aau:upd H5 t2 (.tup (ps.map KJ)) t2=some (.tup (ps.map KJ)):=aa;generalize upd H5 t2 (.tup (ps.map KJ))=H6 at s6 aau ⊢;have S6:=(((s1.trans s2).trans s3).trans s4).trans (s5.trans s6);refine Bi ((s5.trans s6) _ _ aaF) (bu.of aau) (λz=>nomatch z) ?_ λhp H7 hp0 s7 hh=> ?_
   .rw[aG,<-el];exact aL (show _<=5 from nt hk4 1) (by decide)
   have Z0:H hp=none:=by
    rcases hp0 with rfl|h
    .exact((s1.trans s2).trans s3).free o_
    .exact S6.free h
   have S7:=S6.trans s7;obtain⟨bc,bn⟩:=GQ hf ft;refine⟨_,Z,jy,λe0 he0=>⟨ki,λe1 he1=> ?_⟩⟩;have s8:=(ai.upd (o:= .tup []) he0).trans (ai.upd (o:= .tup [.ref e0]) he1);have ab6:upd (upd H7 e0 (.tup [])) e1 (.tup [.ref e0]) e0=some (.tup []):=(ai.upd he1) _ _ aa;have abY:upd (upd H7 e0 (.tup [])) e1 (.tup [.ref e0]) e1=some (.tup [.ref e0]):=aa;generalize upd (upd H7 e0 (.tup [])) e1 (.tup [.ref e0])=H8 at s8 ab6 abY ⊢;have aeg:H8 wl=_:=(((((s2.trans s3).trans s4).trans (s5.trans s6)).trans s7).trans s8) _ _ yS;refine⟨_,Z,wl,_,0,_,Z,Z,bq.of aeg,iZ _ _,.inr w,_,Z,Z,Mo,?_,t,_,_,Z,Z,ht _,Z,hX _,?_⟩
   .exact .inr (.inl ⟨Z,Fm.ft _ hf t hv⟩)
   rw[bc];refine OR abY bn λb H9 s9 hb=> ?_;refine Bi ((s8.trans s9) _ _ hh) (bu.of hb) (λz=>nomatch z) ?_ λg Mu _ P5 hg=> ?_
   .rw[eV,aT,aG,<-el];exact aL (show _<=7 from vg (nt hk4 1) bn) (by decide)
   have ad5:Dat Mu (.ref g) (dD (.mk w ps (Bb n))):=by
    rw[dD,(zO n).2.2];refine .tup hg (.cons (.str w) (i_ (EL ft _) (Kx (.tup ((s9.trans P5) _ _ ab6) .nil) n)))
   refine⟨Mu,_,.mk w ps (Bb n),Z,ai.refl _,ad5,?_,λHN Q8=>⟨_,Z,cD ⟨_,Z,q hp HN Z0 (S7.trans ((s8.trans s9).trans (P5.trans Q8))) ((s8.trans (s9.trans (P5.trans Q8))) _ _ hh)⟩⟩⟩;rw[ia,(zO n).2.1];exact⟨⟨ks,hf,ft⟩,(zO n).1⟩
structure ph where
 h:Option (Str×List Z')
 pre:List (List Dd)
 cur:List Dd
noncomputable def Qc:List Dd->Ds
 |[]=> .nil
 |d::r=> .cons d (Qc r)
noncomputable def NS:List (List Dd)->Bs
 |[]=> .nil
 |b::r=> .cons false (Qc b) (NS r)
theorem JU:∀s:Ds,Qc s.l=s
 | .nil=>rfl
 | .cons d r=>by show Ds.cons d (Qc r.l)=_;rw[JU r]
noncomputable def yJ(w:Str):Bool:=decide (w="frame")||decide (w="turns")||decide (w="either")
noncomputable def Hc:ph->Bool
 |⟨some (w,_),pre,_⟩=>decide (w="either")&&pre.isEmpty
 |_=>false
noncomputable def step:Tk->List ph->Option (List ph)
 | .hd w ps,⟨h,pre,cur⟩::L=>if yJ w=true then some (⟨some (w,ps),[],[]⟩::⟨h,pre,cur⟩::L) else some (⟨h,pre,cur++[.mk w ps .nil]⟩::L)
 | .or,⟨h,pre,cur⟩::L=>if Hc ⟨h,pre,cur⟩=true then some (⟨h,pre++[cur],[]⟩::L) else none
 | .fin,⟨some (w,ps),pre,cur⟩::⟨h,p,c⟩::L=>if Hc ⟨some (w,ps),pre,cur⟩=true then none else some (⟨h,p,c++[.mk w ps (NS (pre++[cur]))]⟩::L)
 |_,_=>none
noncomputable def run:List Tk->List ph->Option (List ph)
 |[],L=>some L
 |k::r,L=>(step k L).bind (run r)
theorem uP:∀(a b:List Tk) (L:List ph),run (a++b) L=(run a L).bind (run b)
 |[],b,L=>rfl
 |k::a,b,L=>by
  show(step k L).bind (run (a++b))=((step k L).bind (run a)).bind (run b)
  cases step k L with
  |none=>rfl
  |some M=>exact uP a b M
theorem JD{w:Str}{ks:aj}{ps:List Z'}{n:Nat}(h:(w,ks++List.replicate n ("body" :Str))∈bH)(ft:c9 ks ps):n=if w="either" then 2 else if yJ w=true then 1 else 0:=by
 have e:=bo (bS.mp (show(bH.all λp=>decide (p.2.length - (qu p.1).length=if p.1="either" then 2 else if yJ p.1=true then 1 else 0))=true by decide+kernel) _ h);rw[show(qu (w,ks++List.replicate n ("body" :Str)).1)=ks from jh h ft,show(w,ks++List.replicate n ("body" :Str)).2.length=ks.length+n by show(ks++_).length=_;rw[aT,eV]] at e;rw[<-show(if(w,ks++List.replicate n ("body" :Str)).1="either" then 2 else if yJ (w,ks++List.replicate n ("body" :Str)).1=true then 1 else 0)=if w="either" then 2 else if yJ w=true then 1 else 0 from Z,<-e]
 lia
mutual
theorem ZE:∀d:Dd,ia d->∀h p c L,run (mI d) (⟨h,p,c⟩::L)=some (⟨h,p,c++[PZ d]⟩::L)
 | .mk w ps .nil,ok,h,p,c,L=>by
  rw[ia] at ok;obtain⟨⟨ks,hf,ft⟩,_⟩:=ok;have hn:0=_:=JD hf ft
  have hb:yJ w≠true:=λz=>by
   rw[z] at hn
   split at hn<;>cases hn
  rw[mI,Ew,PZ,FE];show(step (.hd w ps) (⟨h,p,c⟩::L)).bind (run [])=_;rw[show step (.hd w ps) (⟨h,p,c⟩::L)=some (⟨h,p,c++[.mk w ps .nil]⟩::L) from aq hb];rfl
 | .mk w ps (.cons t b .nil),ok,h,p,c,L=>by
  rw[ia,i3] at ok;obtain⟨⟨ks,hf,ft⟩,Pj,_⟩:=ok;have hn:1=_:=JD hf ft;have hw:w≠ "either":=λz=>by rw[ay z] at hn;cases hn
  have hb:yJ w=true:=by
   rw[aq hw] at hn
   split at hn
   .assumption
   .cases hn
  rw[mI,Ew,FD,PZ,FE,FE];show(step (.hd w ps) (⟨h,p,c⟩::L)).bind (run (fF b++[.fin]))=_;rw[show step (.hd w ps) (⟨h,p,c⟩::L)=some (⟨some (w,ps),[],[]⟩::⟨h,p,c⟩::L) from ay hb];show run (fF b++[.fin]) _=_;rw[uP,F4 b Pj];show(step .fin (⟨some (w,ps),[],(t9 b).l⟩::⟨h,p,c⟩::L)).bind (run [])=_
  rw[show step .fin (⟨some (w,ps),[],(t9 b).l⟩::⟨h,p,c⟩::L)=some (⟨h,p,c++[.mk w ps (NS ([]++[(t9 b).l]))]⟩::L) from aq (by
   show ¬(decide (w="either")&&_)=true;rw[bf hw];exact cE)]
  show some (⟨h,p,c++[.mk w ps (.cons false (Qc (t9 b).l) .nil)]⟩::L)=_;rw[JU]
 | .mk w ps (.cons t b (.cons u e .nil)),ok,h,p,c,L=>by
  rw[ia,i3,i3] at ok;obtain⟨⟨ks,hf,ft⟩,Pj,oke,_⟩:=ok;have hn:2=_:=JD hf ft
  have hw:w="either":=by
   split at hn
   .assumption
   .split at hn<;>cases hn
  subst hw;rw[mI,Ew,FD,FD,PZ,FE,FE,FE];show run (fF b++ .or::(fF e++[.fin])) (⟨some ("either",ps),[],[]⟩::⟨h,p,c⟩::L)=_;rw[uP,F4 b Pj];show run (fF e++[.fin]) (⟨some ("either",ps),[(t9 b).l],[]⟩::⟨h,p,c⟩::L)=_;rw[uP,F4 e oke];show some (⟨h,p,c++[.mk "either" ps (.cons false (Qc (t9 b).l) (.cons false (Qc (t9 e).l) .nil))]⟩::L)=_;rw[JU,JU]
 | .mk w ps (.cons t b (.cons u e (.cons v f r))),ok,h,p,c,L=>by
  rw[ia] at ok;obtain⟨⟨ks,hf,ft⟩,_⟩:=ok;have:=(GQ hf ft).2;exact absurd this (show ¬(r.l.length+1+1+1)<=2 by lia)
theorem F4:∀s:Ds,fR s->∀h p c L,run (fF s) (⟨h,p,c⟩::L)=some (⟨h,p,c++(t9 s).l⟩::L)
 | .nil,_,h,p,c,L=>by rw[fF,t9];show some (⟨h,p,c⟩::L)=some (⟨h,p,c++[]⟩::L);rw[bZ]
 | .cons d r,ok,h,p,c,L=>by
  rw[fR] at ok;rw[fF,t9,uP,ZE d ok.1];show run (fF r) _=some (⟨h,p,c++PZ d::(t9 r).l⟩::L);rw[F4 r ok.2,dv];rfl
end
noncomputable def Qz:Option (Str×List Z')->ak
 |none=>[]
 |some (w,ps)=>hdV w ps
def Wq:Option (Str×List Z')->Prop
 |none=>True
 |some (w,ps)=>yP (.hd w ps)
noncomputable def M8:Option (Str×List Z')->List Z'
 |none=>[]
 |some (w,ps)=> .str w::ps
noncomputable def eiB:Option (Str×List Z')->Bool
 |none=>false
 |some (w,_)=>decide (w="either")
theorem Xh{ks:aj}{ps:List Z'}(ft:c9 ks ps):∀d∈ps,Ly 1 d:=by
 induction ft with
 |nil=>intro d h;cases h
 |cons h t ih=>
  intro d hd;rcases aN.mp hd with rfl|hd
  .rcases ra h with rfl|⟨x,rfl,hx⟩|⟨i,rfl,_⟩
   .exact⟨by simp only[PyData.canLay0],by simp only[PySem.SeqAt.noMix],by simp[PyData.depth]⟩
   .exact nO hx
   .exact Ft i
  .exact ih d hd
theorem Xq{H:Hp}{ht:Y'}{h:Option (Str×List Z')}(ok:Wq h)(e:H ht=some (.tup (Qz h))):Dat H (.ref ht) (.tuple (M8 h))/\PySem.SeqAt.shaped (.tuple (M8 h))=true/\PySem.SeqAt.noMix (.tuple (M8 h)) (.tuple [.str "either"])=true/\PySem.Spec.same (.tuple (M8 h)) (.tuple [.str "either"])=eiB h:=by
 cases h with
 |none=>exact⟨.tup e .nil,by decide+kernel,by decide+kernel,by decide+kernel⟩
 |some x=>
  obtain⟨w,ps⟩:=x;obtain⟨ks,n,hf,ft⟩:=ok;refine⟨.tup e (.cons (.str w) (EL ft H)),(Ly.tup (k:=1) λd hd=> ?_).shaped (by decide),?_,?_⟩
  .rcases aN.mp hd with rfl|hd
   .exact nO (bS.mp (show(bH.all λp=>ck p.1)=true by decide+kernel) _ hf)
   .exact Xh ft d hd
  .show PySem.SeqAt.noMix (.tuple (.str w::ps)) _=true;cases ps<;>simp[PySem.SeqAt.noMix,PySem.SeqAt.noMixAll]
  .show PySem.Spec.same (.tuple (.str w::ps)) _=decide (w="either");by_cases hw:w="either"
   .subst hw;have:qu "either"=([]:aj):=by decide+kernel
    rw[jh hf ft] at this;subst this;cases ft;decide+kernel
   .rw[bf hw];simp[PySem.Spec.same,PySem.Spec.sameAll,hw]
def WJ:Sp:=λvs H Q _=>∃t ht bl l bs,vs=[.ref t]/\H t=some (.tup [.ref ht,.ref bl])/\H ht=some (.tup (Qz (ph.h l)))/\Wq l.h/\H bl=some (.lst bs)/\bs.length=l.pre.length+1/\∀H',ai H H'->Q (.bl (Hc l)) H'
theorem sD(T:Txt K mg A):aQ P w K mg base cY 1 A.uV A.vn ["level"] WJ:=by
 refine T.nE.F.ok Cs (λvs H Q E h=> ?_) (λcC Ar outer s0 H vs Q E hr h=> ?_)
 .obtain⟨t,ht,bl,l,bs,rfl,_⟩:=h;rfl
 .obtain⟨t,ht,bl,l,bs,rfl,e1,e2,ok,e3,e4,q⟩:=h;have F6:_+100<cLine:=gx (nt (by decide:100<=16*0+200) _) (by have:=hr.un;omega);obtain⟨d1,d2,d3,d4⟩:=Xq ok e2;refine⟨_,(ah (aB (pM (HG (DR F6) (cJ aY (pv 0) ae) (ba (aF ax))) (lr (HG DF (iY aV T.dY Boot.«len» (aF (cJ aY (pv 0) ae))) ae))))),?_⟩;refine⟨_,Z,t,_,0,_,Z,Z,bu.of e1,iZ _ _,ki,λet het=> ?_⟩;have s1:=ai.upd (o:= .tup [V.str "either"]) het;have ZW:upd H et (.tup [V.str "either"]) et=some (.tup [V.str "either"]):=aa;generalize upd H et (.tup [V.str "either"])=H1 at s1 ZW ⊢;refine⟨.tuple (M8 l.h),.tuple [.str "either"],d1.same s1,.tup ZW (.cons (.str _) .nil),d2,by decide+kernel,d3,_,Z,?_⟩;rw[d4];obtain⟨hh,pre,cur⟩:=l
  cases hh with
  |none=>exact cf (q H1 s1)
  |some x=>
   obtain⟨w',ps⟩:=x;show if decide (w' ="either")=true then _ else _
   have ql:∀H',ai H H'->Q (.bl (decide (w' ="either")&&pre.isEmpty)) H' :=q;by_cases hw:w' ="either"
   .rw[aU hw] at ql ⊢;refine cD ⟨_,Z,t,_,1,_,Z,Z,bu.of (s1 _ _ e1),bA (j:=1) Z,bl,_,Z,.inl (bq.of (s1 _ _ e3)),_,_,Z,Z,?_⟩
    have:decide ((bs.length:Int)<2)=pre.isEmpty:=by
     have e4:bs.length=pre.length+1:=e4
     cases pre with
     |nil=>exact aU (by rw[e4];decide)
     |cons a r=>exact bf (by rw[e4,aZ];lia)
    show Q (.bl (decide ((bs.length:Int)<2))) H1;rw[this];exact ql H1 s1
   .rw[bf hw] at ql ⊢;exact cf (ql H1 s1)
noncomputable def GL(N:bh)(H:Hp):Hp:=λc=>if c∈N then none else H c
theorem NL{N:bh}{H:Hp}{c:Y'}{o:HO}(h:GL N H c=some o):c∉N/\H c=some o:=by
 unfold GL at h
 split at h
 .cases h
 .exact⟨by assumption,h⟩
theorem EE{N:bh}{H:Hp}{c:Y'}{o:HO}(n:c∉N)(h:H c=some o):GL N H c=some o:=(aq n).trans h
theorem m5{N N' :bh}{H H' :Hp}(k:∀c o,c∉N->H c=some o->H' c=some o)(n:∀c∈N',c∈N\/H c=none):ai (GL N H) (GL N' H'):=λc o e=>by
 obtain⟨e1,e2⟩:=NL e;refine EE (λz=> ?_) (k c o e1 e2);rcases n c z with h|h
 .exact e1 h
 .rw[h] at e2;cases e2
theorem YM(N:bh)(H:Hp):ai (GL N H) H:=λ_ _ e=>(NL e).2
structure La where
 t:Y'
 ht:Y'
 bl:Y'
 bs:bh
noncomputable def La.own(a:La):bh:=a.bl::a.bs
inductive gK (H Hf:Hp):bh->List (List Dd)->Prop
 |nil:gK H Hf [] []
 |cons {b:Y'} {r:bh} {c:List Dd} {cs:List (List Dd)} {vs:ak} (e:H b=some (.lst vs)) (d:DatAll Hf vs (c.map dD)) (t:gK H Hf r cs):gK H Hf (b::r) (c::cs)
structure ND(H Hf:Hp)(a:La)(l:ph):Prop where
 e:H a.t=some (.tup [.ref a.ht,.ref a.bl])
 h:H a.ht=some (.tup (Qz l.h))
 ok:Wq l.h
 b:H a.bl=some (.lst (a.bs.map V.ref))
 d:gK H Hf a.bs (l.pre++[l.cur])
inductive ku (H Hf:Hp):List La->List ph->Prop
 |nil:ku H Hf [] []
 |cons {a:La} {as:List La} {l:ph} {ls:List ph} (h:ND H Hf a l) (t:ku H Hf as ls):ku H Hf (a::as) (l::ls)
noncomputable def wP(lv:Y')(as:List La):bh:=lv::as.flatMap La.own
structure jT(H:Hp)(lv:Y')(as:List La)(ls:List ph):Prop where
 e:H lv=some (.lst (as.reverse.map λa=> .ref a.t))
 nd:(wP lv as).Nodup
 at_:ku H (GL (wP lv as) H) as ls
theorem gK.len{H Hf:Hp}{bs:bh}{cs:List (List Dd)}(h:gK H Hf bs cs):bs.length=cs.length:=by
 induction h with
 |nil=>rfl
 |cons _ _ _ ih=>rw[aZ,aZ,ih]
theorem gK.kept{H Hf H' U2 :Hp}{bs:bh}{cs:List (List Dd)}(h:gK H Hf bs cs)(k:∀c∈bs,∀o,H c=some o->H' c=some o)(s:ai Hf U2):gK H' U2 bs cs:=by
 induction h with
 |nil=>exact .nil
 |cons e d t ih=>exact .cons (k _ a9 _ e) (d.same s) (ih λc hc=>k c (a7 _ hc))
theorem ND.kept{H Hf H' U2 :Hp}{a:La}{l:ph}(h:ND H Hf a l)(k:∀c∈a.own,∀o,H c=some o->H' c=some o)(kt:∀c xs,H c=some (.tup xs)->H' c=some (.tup xs))(s:ai Hf U2):ND H' U2 a l:=
 ⟨kt _ _ h.e,kt _ _ h.h,h.ok,k _ a9 _ h.b,h.d.kept (λc hc=>k c (a7 _ hc)) s⟩
theorem ku.kept{H Hf H' U2 :Hp}{as:List La}{ls:List ph}(h:ku H Hf as ls)(k:∀c∈as.flatMap La.own,∀o,H c=some o->H' c=some o)(kt:∀c xs,H c=some (.tup xs)->H' c=some (.tup xs))(s:ai Hf U2):ku H' U2 as ls:=by
 induction h with
 |nil=>exact .nil
 |cons h t ih=>exact .cons (h.kept (λc hc=>k c (eJ _ hc)) kt s) (ih λc hc=>k c (dP _ hc))
theorem gK.snoc{H Hf:Hp}{bs:bh}{cs:List (List Dd)}{b:Y'}{c:List Dd}{vs:ak}(h:gK H Hf bs cs)(e:H b=some (.lst vs))(d:DatAll Hf vs (c.map dD)):gK H Hf (bs++[b]) (cs++[c]):=by
 induction h with
 |nil=>exact .cons e d .nil
 |cons e' d' _ ih=>exact .cons e' d' ih
theorem gK.last{H Hf:Hp}:∀{cs:List (List Dd)} {bs:bh} {c:List Dd},gK H Hf bs (cs++[c])->∃bp b vs,bs=bp++[b]/\gK H Hf bp cs/\H b=some (.lst vs)/\DatAll Hf vs (c.map dD)
 |[],_,_,.cons e d t=>by
  cases t;exact⟨[],_,_,Z,.nil,e,d⟩
 |_::cs,_,_,.cons e d t=>by
  obtain⟨bp,b,vs,rfl,h1,h2,h3⟩:=gK.last t;exact⟨_::bp,b,vs,Z,.cons e d h1,h2,h3⟩
theorem jT.same{H H' :Hp}{lv:Y'}{as:List La}{ls:List ph}(h:jT H lv as ls)(s:ai H H'):jT H' lv as ls:=
 ⟨s _ _ h.e,h.nd,h.at_.kept (λc _ o e=>s c o e) (λc xs e=>s c _ e) (m5 (λc o _ e=>s c o e) λc hc=> .inl hc)⟩
theorem jT.add{H:Hp}{lv:Y'}{a:La}{as:List La}{l:ph}{ls:List ph}(h:jT H lv (a::as) (l::ls)){d:Dd}{v:V}(hv:Dat (GL (wP lv (a::as)) H) v (dD d)):
 ∃bp b vs,a.bs=bp++[b]/\H b=some (.lst vs)/\vs.length=l.cur.length/\jT (upd H b (.lst (vs++[v]))) lv (a::as) (⟨l.h,l.pre,l.cur++[d]⟩::ls):=by
 obtain⟨e,nd,at_⟩:=h
 cases at_ with
 |cons ha t=>
  obtain⟨bp,b,vs,eb,h1,h2,h3⟩:=ha.d.last;have Yb :=nd;unfold wP at Yb;rw[vB] at Yb;have hn:=fN.mp Yb;have ho:=zN.mp hn.2;have bm:b∈a.own:=a7 _ (by rw[eb];exact dP _ a9);have WO:lv≠b:=λz=>hn.1 (z▸eJ _ bm);have Pb:a.bl≠b:=λz=>(fN.mp ho.1).1 (z▸(by rw[eb];exact dP _ a9));have kt:∀c xs,H c=some (.tup xs)->upd H b (.lst (vs++[v])) c=some (.tup xs):=λc xs ec=>by rw[au (b8 h2 ec (λz=>nomatch z)).symm];exact ec
  have sh:ai (GL (wP lv (a::as)) H) (GL (wP lv (a::as)) (upd H b (.lst (vs++[v])))):=m5 (λc o hc ec=>by
   have bl:b∈wP lv (a::as):=a7 _ (eJ _ bm);rw[au (λz:c=b=>hc (by rw[z];exact bl))];exact ec) λc hc=> .inl hc
  refine⟨bp,b,vs,eb,h2,by rw[cQ h3,aG],?_,nd,.cons ⟨kt _ _ ha.e,kt _ _ ha.h,ha.ok,?_,?_⟩ (t.kept (λc hc o ec=> ?_) kt sh)⟩
  .rw[au WO];exact e
  .rw[au Pb];exact ha.b
  .rw[eb];refine(h1.kept (λc hc o ec=> ?_) sh).snoc aa ?_
   .rw[au (λz=> ?_)]
    .exact ec
    .have:=(fN.mp ho.1).2;rw[eb] at this;exact(zN.mp this).2.2 c hc b a9 z
   .rw[cu];exact i_ (h3.same sh) (.cons (hv.same sh) .nil)
  .rw[au (λz=>ho.2.2 b bm c hc z.symm)];exact ec
theorem gK.there{H Hf:Hp}{bs:bh}{cs:List (List Dd)}(h:gK H Hf bs cs):∀c∈bs,H c≠none:=by
 induction h with
 |nil=>intro c hc;cases hc
 |cons e _ _ ih=>
  intro c hc;rcases aN.mp hc with rfl|hc
  .rw[e];exact λz=>nomatch z
  .exact ih c hc
theorem ku.there{H Hf:Hp}{as:List La}{ls:List ph}(h:ku H Hf as ls):∀c∈as.flatMap La.own,H c≠none:=by
 induction h with
 |nil=>intro c hc;cases hc
 |cons h _ ih=>
  intro c hc;rcases cW.mp hc with hc|hc
  .rcases aN.mp hc with rfl|hc
   .rw[h.b];exact λz=>nomatch z
   .exact h.d.there c hc
  .exact ih c hc
theorem jT.there{H:Hp}{lv:Y'}{as:List La}{ls:List ph}(h:jT H lv as ls):∀c∈wP lv as,H c≠none:=λc hc=>by
 rcases aN.mp hc with rfl|hc
 .rw[h.e];exact λz=>nomatch z
 .exact h.at_.there c hc
theorem jT.push{H H1:Hp}{lv t ht bl b0:Y'}{as:List La}{ls:List ph}{w:Str}{ps:List Z'}(h:jT H lv as ls)(s:ai H H1)(hb:H b0=none)(hl:H bl=none)(ne:bl≠b0)
 (e0:H1 b0=some (.lst [])) (e1:H1 bl=some (.lst [.ref b0])) (e2:H1 t=some (.tup [.ref ht,.ref bl])) (e3:H1 ht=some (.tup (hdV w ps))) (ok:yP (.hd w ps)):
 jT (upd H1 lv (.lst ((as.reverse.map λa=> .ref a.t)++[.ref t]))) lv (⟨t,ht,bl,[b0]⟩::as) (⟨some (w,ps),[],[]⟩::ls):=by
 have sm:=h.there;have f:∀c,H c=none->c∉wP lv as:=λc hc z=>sm c z hc;have lm:lv∈wP lv as:=a9;have elv:=s _ _ h.e;have nb:b0≠lv:=λz=>f b0 hb (z▸lm);have nl:bl≠lv:=λz=>f bl hl (z▸lm);have kt:∀c xs,H1 c=some (.tup xs)->upd H1 lv (.lst ((as.reverse.map λa=> .ref a.t)++[.ref t])) c=some (.tup xs):=λc xs ec=>by rw[au (b8 elv ec (λz=>nomatch z)).symm];exact ec
 have nd:=fN.mp h.nd;refine⟨?_,?_,.cons ⟨kt _ _ e2,kt _ _ e3,ok,?_,.cons (vs:=[]) ?_ .nil .nil⟩ (h.at_.kept (λc hc o ec=> ?_) (λc xs ec=>kt c xs (s _ _ ec)) (m5 (λc o hc ec=> ?_) λc hc=> ?_))⟩
 .rw[aa,qY,cu];rfl
 .show(lv::bl::b0::as.flatMap La.own).Nodup;refine fN.mpr ⟨λz=> ?_,fN.mpr ⟨λz=> ?_,fN.mpr ⟨λz=>f b0 hb (a7 _ z),nd.2⟩⟩⟩
  .rcases aN.mp z with z|z
   .exact nl z.symm
   .rcases aN.mp z with z|z
    .exact nb z.symm
    .exact nd.1 z
  .rcases aN.mp z with z|z
   .exact ne z
   .exact f bl hl (a7 _ z)
 .rw[au nl];exact e1
 .rw[au nb];exact e0
 .rw[au (λz:c=lv=>nd.1 (by rw[<-z];exact hc))];exact s _ _ ec
 .rw[au (λz:c=lv=>hc (by rw[z];exact lm))];exact s _ _ ec
 .rcases aN.mp hc with rfl|hc
  .exact .inl lm
  .rcases aN.mp hc with rfl|hc
   .exact .inr hl
   .rcases aN.mp hc with rfl|hc
    .exact .inr hb
    .exact .inl (a7 _ hc)
theorem MT:∀c:List Dd,sL (Qc c)=c.map dD
 |[]=>by rw[Qc,sL];rfl
 |d::r=>by rw[Qc,sL,MT r];rfl
theorem gK.dat{H Hf:Hp}{bs:bh}{cs:List (List Dd)}(h:gK H Hf bs cs){Hg:Hp}(k:∀c∈bs,∀o,H c=some o->Hg c=some o)(s:ai Hf Hg):DatAll Hg (bs.map V.ref) (bL (NS cs)):=by
 induction h with
 |nil=>rw[NS,bL];exact .nil
 |cons e d t ih=>
  rw[NS,bL,MT];exact .cons (.lst (k _ a9 _ e) (d.same s)) (ih λc hc=>k c (a7 _ hc))
theorem jT.drop{H:Hp}{lv:Y'}{a:La}{as:List La}{l:ph}{ls:List ph}(h:jT H lv (a::as) (l::ls)):
 jT (upd H lv (.lst (as.reverse.map λa=> .ref a.t))) lv as ls/\DatAll (GL (wP lv as) (upd H lv (.lst (as.reverse.map λa=> .ref a.t)))) (a.bs.map V.ref) (bL (NS (l.pre++[l.cur]))):=by
 obtain⟨e,nd,at_⟩:=h
 cases at_ with
 |cons ha t=>
  unfold wP at nd;rw[vB] at nd;have hn:=fN.mp nd;have ho:=zN.mp hn.2;have nl:∀c∈a.own,c≠lv:=λc hc z=>hn.1 (z▸eJ _ hc);have nr:∀c∈as.flatMap La.own,c≠lv:=λc hc z=>hn.1 (z▸dP _ hc);have kt:∀c xs,H c=some (.tup xs)->upd H lv (.lst (as.reverse.map λa=> .ref a.t)) c=some (.tup xs):=λc xs ec=>by rw[au (b8 e ec (λz=>nomatch z)).symm];exact ec
  have sh:ai (GL (wP lv (a::as)) H) (GL (wP lv as) (upd H lv (.lst (as.reverse.map λa=> .ref a.t)))):=m5 (λc o hc ec=>by
   rw[au (λz:c=lv=>hc (by rw[z];exact a9))];exact ec) λc hc=> .inl (by
   rcases aN.mp hc with rfl|hc
   .exact a9
   .exact a7 _ (dP _ hc))
  refine⟨⟨aa,fN.mpr ⟨λz=>hn.1 (dP _ z),ho.2.1⟩,t.kept (λc hc o ec=>by rw[au (nr c hc)];exact ec) kt sh⟩,ha.d.dat (λc hc o ec=> ?_) sh⟩;have cm:c∈a.own:=a7 _ hc;refine EE (λz=> ?_) (by rw[au (nl c cm)];exact ec);rcases aN.mp z with z|z
  .exact nl c cm z
  .exact ho.2.2 c cm c z rfl
theorem jT.next{H H1:Hp}{lv b0:Y'}{a:La}{as:List La}{l:ph}{ls:List ph}(h:jT H lv (a::as) (l::ls))(s:ai H H1)(hb:H b0=none)(e0:H1 b0=some (.lst [])):
 jT (upd H1 a.bl (.lst (a.bs.map V.ref++[.ref b0]))) lv (⟨a.t,a.ht,a.bl,a.bs++[b0]⟩::as) (⟨l.h,l.pre++[l.cur],[]⟩::ls):=by
 have sm:=h.there;have f:b0∉wP lv (a::as):=λz=>sm b0 z hb;obtain⟨e,nd,at_⟩:=h
 cases at_ with
 |cons ha t=>
  have Yb :=nd;unfold wP at Yb;rw[vB] at Yb;have hn:=fN.mp Yb;have ho:=zN.mp hn.2;have hbn:=fN.mp ho.1;have bm:a.bl∈a.own:=a9;have bl:a.bl∈wP lv (a::as):=a7 _ (eJ _ bm);have nb:b0≠a.bl:=λz=>f (z▸bl);have ebl:=s _ _ ha.b;have kt:∀c xs,H c=some (.tup xs)->upd H1 a.bl (.lst (a.bs.map V.ref++[.ref b0])) c=some (.tup xs):=λc xs ec=>by rw[au (b8 ha.b ec (λz=>nomatch z)).symm];exact s _ _ ec
  have sh:ai (GL (wP lv (a::as)) H) (GL (wP lv (⟨a.t,a.ht,a.bl,a.bs++[b0]⟩::as)) (upd H1 a.bl (.lst (a.bs.map V.ref++[.ref b0])))):=m5 (λc o hc ec=>by
   rw[au (λz:c=a.bl=>hc (by rw[z];exact bl))];exact s _ _ ec) λc hc=>by
   rcases aN.mp hc with rfl|hc
   .exact .inl a9
   .rcases cW.mp hc with hc|hc
    .rcases aN.mp hc with rfl|hc
     .exact .inl bl
     .rcases cW.mp hc with hc|hc
      .exact .inl (a7 _ (eJ _ (a7 _ hc)))
      .rw[fB.mp hc];exact .inr hb
    .exact .inl (a7 _ (dP _ hc))
  refine⟨?_,?_,.cons ⟨kt _ _ ha.e,kt _ _ ha.h,ha.ok,?_,(ha.d.kept (λc hc o ec=> ?_) sh).snoc (vs:=[]) ?_ .nil⟩ (t.kept (λc hc o ec=> ?_) kt sh)⟩
  .rw[au (λz:lv=a.bl=>hn.1 (by rw[z];exact eJ _ bm)),qY,cu];rw[qY,cu] at e;exact s _ _ e
  .have pm:(wP lv (⟨a.t,a.ht,a.bl,a.bs++[b0]⟩::as)).Perm (b0::wP lv (a::as)):=by
    show(lv::a.bl::((a.bs++[b0])++as.flatMap La.own)).Perm (b0::lv::a.bl::(a.bs++as.flatMap La.own));rw[dv];exact(List.perm_middle (l₁:=lv::a.bl::a.bs) (a:=b0) (l₂:=as.flatMap La.own))
   exact pm.nodup_iff.mpr (fN.mpr ⟨f,nd⟩)
  .show _=some (HO.lst ((a.bs++[b0]).map V.ref));rw[aa,cu];rfl
  .rw[au (λz:c=a.bl=>hbn.1 (z▸hc))];exact s _ _ ec
  .rw[au nb];exact e0
  .rw[au (λz:c=a.bl=>ho.2.2 _ bm c hc z.symm)];exact s _ _ ec
theorem ku.lists{H Hf:Hp}{as:List La}{ls:List ph}(h:ku H Hf as ls):∀c∈as.flatMap La.own,∃xs,H c=some (.lst xs):=by
 induction h with
 |nil=>intro c hc;cases hc
 |cons h _ ih=>
  intro c hc;rcases cW.mp hc with hc|hc
  .rcases aN.mp hc with rfl|hc
   .exact⟨_,h.b⟩
   .have:∀{bs:bh} {cs:List (List Dd)},gK H Hf bs cs->∀c∈bs,∃xs,H c=some (.lst xs):=λhb=>by
     induction hb with
     |nil=>intro c hc;cases hc
     |cons e _ _ ih=>
      intro c hc;rcases aN.mp hc with rfl|hc
      .exact⟨_,e⟩
      .exact ih c hc
    exact this h.d c hc
  .exact ih c hc
theorem jT.tup{H:Hp}{lv:Y'}{as:List La}{ls:List ph}(h:jT H lv as ls){g:Y'}{xs:ak}(e:H g=some (.tup xs)):GL (wP lv as) H g=some (.tup xs):=by
 refine EE (λz=> ?_) e;rcases aN.mp z with rfl|z
 .rw[h.e] at e;cases e
 .obtain⟨ys,hy⟩:=h.at_.lists g z;rw[hy] at e;cases e
theorem vx{H H' :Hp}{c:Y'}{o:HO}(s:ai H H')(h:H c=none):ai H (upd H' c o):=λd p e=>by
 rw[au (aw e h)];exact s _ _ e
def Pq(i:Nat)(ls:List ph):Prop:=ls.length<=i+1/\∀l∈ls,l.cur.length<=i/\l.pre.length<=i
theorem M7{k:Tk}{ls HH :List ph}{i:Nat}(h:step k ls=some HH)(hl:Pq i ls):Pq (i+1) HH :=by
 obtain⟨h1,h2⟩:=hl;have up:∀{L:List ph},(∀l∈L,l∈ls)->∀l∈L,l.cur.length<=i+1/\l.pre.length<=i+1:=λf l hl=>by have:=h2 l (f l hl);lia
 cases k with
 |hd w ps=>
  cases ls with
  |nil=>cases h
  |cons l L=>
   obtain⟨hh,pre,cur⟩:=l;have c:=h2 _ a9;have h:(if yJ w=true then some (⟨some (w,ps),[],[]⟩::⟨hh,pre,cur⟩::L) else some (⟨hh,pre,cur++[.mk w ps .nil]⟩::L))=some HH :=h
   split at h
   .cases h;refine⟨by simpa using h1,λl hl=> ?_⟩;rcases aN.mp hl with rfl|hl
    .exact⟨bU _,bU _⟩
    .exact up (λ_ h=>h) l hl
   .cases h;refine⟨by simp only[aZ] at h1 ⊢;lia,λl hl=> ?_⟩;rcases aN.mp hl with rfl|hl
    .simp only[aT,aZ,fO] at c ⊢;lia
    .exact up (λ_ h=>a7 _ h) l hl
 |or=>
  cases ls with
  |nil=>cases h
  |cons l L=>
   obtain⟨hh,pre,cur⟩:=l;have c:=h2 _ a9;have h:(if Hc ⟨hh,pre,cur⟩=true then some (⟨hh,pre++[cur],[]⟩::L) else none)=some HH :=h
   split at h
   .cases h;refine⟨by simp only[aZ] at h1 ⊢;lia,λl hl=> ?_⟩;rcases aN.mp hl with rfl|hl
    .simp only[aT,aZ,fO] at c ⊢;lia
    .exact up (λ_ h=>a7 _ h) l hl
   .cases h
 |fin=>
  match ls,h with
  |⟨some (w,ps),pre,cur⟩::⟨hh,p,c⟩::L,h=>
   have cc:=h2 _ (a7 _ a9);have h:(if Hc ⟨some (w,ps),pre,cur⟩=true then none else some (⟨hh,p,c++[.mk w ps (NS (pre++[cur]))]⟩::L))=some HH :=h
   split at h
   .cases h
   .cases h;refine⟨by simp only[aZ] at h1 ⊢;lia,λl hl=> ?_⟩;rcases aN.mp hl with rfl|hl
    .simp only[aT,aZ,fO] at cc ⊢;lia
    .exact up (λ_ h=>a7 _ (a7 _ h)) l hl
theorem Np{l:ph}{ls YK:List ph}(h:step .fin (l::ls)=some YK):∃w ps pre cur hh p c L,l=⟨some (w,ps),pre,cur⟩/\ls=⟨hh,p,c⟩::L/\Hc ⟨some (w,ps),pre,cur⟩=false/\YK=⟨hh,p,c++[.mk w ps (NS (pre++[cur]))]⟩::L:=by
 match l,ls,h with
 |⟨some (w,ps),pre,cur⟩,⟨hh,p,c⟩::L,h=>
  have h:(if Hc ⟨some (w,ps),pre,cur⟩=true then none else some (⟨hh,p,c++[.mk w ps (NS (pre++[cur]))]⟩::L))=some YK:=h
  split at h
  .cases h
  .rename_i n;cases h;exact⟨_,_,_,_,_,_,_,_,Z,Z,Bool.eq_false_iff.mpr n,Z⟩
theorem dcT{c A B:Prop}[Decidable c](h:c)(x:A):if decide c=true then A else B:=by
 rw[ay (aU h)];exact x
theorem ku.top{H Hf:Hp}{a:La}{as:List La}{l:ph}{ls:List ph}(h:ku H Hf (a::as) (l::ls)):∃bp b vs,a.bs=bp++[b]/\H b=some (.lst vs)/\vs.length=l.cur.length/\ND H Hf a l:=by
 cases h with
 |cons ha t=>
  obtain⟨bp,b,vs,eb,_,h2,h3⟩:=ha.d.last;exact⟨bp,b,vs,eb,h2,by rw[cQ h3,aG],ha⟩
theorem jT.ZX{H:Hp}{lv:Y'}{a:La}{as:List La}{l:ph}{ls:List ph}(h:jT H lv (a::as) (l::ls)){bp:bh}{b:Y'}{vs:ak}(eb:a.bs=bp++[b])(e:H b=some (.lst vs)){d:Dd}{v:V}(hv:Dat (GL (wP lv (a::as)) H) v (dD d)):jT (upd H b (.lst (vs++[v]))) lv (a::as) (⟨l.h,l.pre,l.cur++[d]⟩::ls):=by
 obtain⟨bp',b',vs',eb',e',_,L⟩:=h.add hv;obtain⟨_,z⟩:=List.append_inj' (eb'.symm.trans eb) rfl;obtain rfl:b' =b:=(lV z).1;rw[e] at e';cases e';exact L
theorem ku.len{H Hf:Hp}{as:List La}{ls:List ph}(h:ku H Hf as ls):as.length=ls.length:=by
 induction h with
 |nil=>rfl
 |cons _ _ ih=>rw[aZ,aZ,ih]
theorem SJ{w:Str}{ps:List Z'}(tok:yP (.hd w ps)){y:Str}(hy:Txt.split y " "=[y])(nw:(bH.all λp=>decide (p.1≠y))=true):lT w ps≠y:=λe=>by
 have sp:=Ah tok;obtain⟨ks,n,hf,ft⟩:=tok;rw[show HJ (.hd w ps)=y from e,hy] at sp;have:y=w:=(lV sp).1;exact bo (bS.mp nw _ hf) this.symm
theorem Xu{w:Str}{ks:aj}(h:(w,ks)∈bH):yY (.str "body") (ks.map V.str)=yJ w:=bo (bS.mp (show(bH.all λp=>decide (yY (.str "body") (p.2.map V.str)=yJ p.1))=true by decide+kernel) _ h)
def J2:Sp:=λvs H Q _=>∃a ts c,vs=[.ref a]/\H a=some (.lst (i0 ts))/\(∀k∈ts,yP k)/\ts.length<=5000/\run ts [⟨none,[],[]⟩]=some [⟨none,[],c⟩]/\∀l xs H',H l=none->ai H H'->H' l=some (.lst xs)->DatAll H' xs (c.map dD)->Q (.ref l) H'
theorem Ct(T:Txt K mg A)(Fm:pP P w K A fm):aQ P w K mg base cY 6 A.vA A.vI ["lines"] J2:=by
 refine T.uS.F.ok eD (λvs H Q E h=> ?_) (λcC Ar outer s0 H vs Q E hr h=> ?_)
 .obtain⟨a,ts,c,rfl,_⟩:=h;rfl
 .obtain⟨a,ts,c,rfl,ha,tok,hn,aeE,q⟩:=h;refine⟨_,(af (eL 1 eD.nd (a8 (aF (ba (ag (ba c_) (aF (a8 (aF (a8 c_))))))))) (af (yI (ug Z T.xO (aF (pv 0))) (nu Z (bJ (ie 2 eD.nd) (bJ (ie 3 eD.nd) iq))) (af (eL 4 eD.nd (cJ aY (cJ aP (pv 1) (D2 wG ae)) ae)) (af (eL 5 eD.nd (cv (Ez T Fm) hr T.xt aA (aF (pv 3)))) (ah (a_ (PW.pt (wv (jp cM (pv 3) ax) (ww (gA (cv (sD T) hr T.nE aA (aF (cJ aP (pv 1) (D2 wG ae)))))))) (ah (bj (cR dC F' G' cA (pv 4) (aF (a8 c_))))) (ah (a_ (PW.pt (wv (jp cM (pv 3) ax) (wv (jp kR (iY aV T.dY Boot.«len» (aF (pv 1))) ae) (ww (lj (gA (cv (sD T) hr T.nE aA (aF (cJ aP (pv 1) (D2 wG ae)))))))))) (af (eL 6 eD.nd (YE dC PySem.F.slot_list_pop PySem.F.type_list_pop W0 (pv 1))) (ah (bj (cR dC F' G' cA (cJ aP (cJ aY (cJ aP (pv 1) (D2 wG ae)) ae) (D2 wG ae)) (aF (aH uE (cJ aY (pv 6) ae) (GX dG T.jf Boot.«tuple» (aF (cJ aY (pv 6) ae))))))))) (ah (a_ (PW.pt (wv (jp rF (pv 5) eU) (ww (jp iW ax (jv Fm.xV (c8 (v:= .ref A.cT) Z T.cT Z) (cJ aY (pv 5) ae)))))) (ah (bj (cR dC F' G' cA (pv 1) (aF (ba (ag (pv 5) (aF (a8 (aF (a8 c_)))))))))) (ah (a_ (jp rF (pv 5) eU) (ah (bj (cR dC F' G' cA (cJ aP (pv 4) (D2 wG ae)) (aF (pv 5))))) (ah vC)))))))))))) (af (a_ (jp kR (iY aV T.dY Boot.«len» (aF (pv 1))) ae) (ah vC) aK) (ah (aB (cJ aP (cJ aY (cJ aP (pv 1) ae) ae) ae)))))),?_⟩;have hL:sizeLine=16777216:=rfl;refine⟨jy,λt0 Y7=>⟨jy,λb0 O8=>⟨ki,λbl Pb=>⟨fT,λt ht=>⟨ki,λlv WO=> ?_⟩⟩⟩⟩⟩;have S0:=ai.upd (o:= .tup []) Y7;have S1:=ai.upd (o:= .lst []) O8;have S2:=ai.upd (o:= .lst [.ref b0]) Pb;have S3:=ai.upd (o:= .tup [.ref t0,.ref bl]) ht;have S4:=ai.upd (o:= .lst [.ref t]) WO;have abA:=S0.free O8;have aa6:=S0.free (S1.free Pb);have ab4:=S0.free (S1.free (S2.free (S3.free WO)));have SA:=(((S0.trans S1).trans S2).trans S3).trans S4;have n1:bl≠b0:=(aw aa Pb).symm;have n2:lv≠bl:=(aw (S3 _ _ aa) WO).symm;have n3:lv≠b0:=(aw (S3 _ _ (S2 _ _ aa)) WO).symm
  have L0:jT (upd (upd (upd (upd (upd H t0 (.tup [])) b0 (.lst [])) bl (.lst [.ref b0])) t (.tup [.ref t0,.ref bl])) lv (.lst [.ref t])) lv [⟨t,t0,bl,[b0]⟩] [⟨none,[],[]⟩]:=
   ⟨aa,by simp[wP,La.own,n1,n2,n3],.cons ⟨S4 _ _ aa,S4 _ _ (S3 _ _ (S2 _ _ (S1 _ _ aa))),trivial,S4 _ _ (S3 _ _ aa),.cons (vs:=[]) (S4 _ _ (S3 _ _ (S2 _ _ aa))) .nil .nil⟩ .nil⟩
  have F0:∀c∈wP lv [⟨t,t0,bl,[b0]⟩],H c=none:=λc hc=>by
   simp only[wP,La.own,vB,List.flatMap_nil,bZ,aN,cF,cH] at hc;rcases hc with rfl|rfl|rfl
   .exact ab4
   .exact aa6
   .exact abA
  generalize upd (upd (upd (upd (upd H t0 (.tup [])) b0 (.lst [])) bl (.lst [.ref b0])) t (.tup [.ref t0,.ref bl])) lv (.lst [.ref t])=H1 at SA L0 ⊢;clear S0 S1 S2 S3 S4 abA aa6 ab4 n1 n2 n3 Y7 O8 Pb ht WO;refine⟨_,Z,a,_,Z,SA _ _ ha,?_⟩;refine FJ (K:=K) (a:=a) (xs:=i0 ts) (λi σ H' =>∃x2 x3 x4 x5 x6:Option V,σ=[some (.ref a),some (.ref lv),x2,x3,x4,x5,x6]/\∃as ls,jT H' lv as ls/\(∀c∈wP lv as,H c=none)/\ai H H'/\Pq i ls/\run (ts.drop i) ls=some [⟨none,[],c⟩]) ⟨_,_,_,_,_,Z,_,_,L0,F0,SA,⟨aJ _,λl hl=>by rw[fB.mp hl];exact⟨aJ _,aJ _⟩⟩,aeE⟩ (by rintro i σ H' ⟨_,_,_,_,_,_,as,ls,_,_,s,_⟩;exact bq.of (s _ _ ha)) ?_ ?_
  .rintro i y tt σ H' hy zQ ⟨x2,x3,x4,x5,x6,rfl,as,ls,LV,FR,SM,LN,RU⟩
   unfold i0 at hy;rw[bG] at hy
   cases ek:ts[i]? with
   |none=>rw[ek] at hy;cases hy
   |some k=>
   rw[ek] at hy;cases hy;have hi:=(dE.mp ek).1;have tk:=tok k (bt ek);rw[List.drop_eq_getElem_cons hi,(dE.mp ek).2] at RU;have RU' :(step k ls).bind (run (ts.drop (i+1)))=some [⟨none,[],c⟩]:=RU
   cases es:step k ls with
   |none=>rw[es] at RU';cases RU'
   |some YK=>
   rw[es] at RU';have RU1:run (ts.drop (i+1)) YK=some [⟨none,[],c⟩]:=RU';have LN1:=M7 es LN;have sT:=ai.upd (o:= .tup [.int i,.str (HJ k)]) zQ;have LV:=LV.same sT;have SM:=SM.trans sT;have aab:upd H' tt (.tup [.int i,.str (HJ k)]) tt=some (.tup [.int i,.str (HJ k)]):=aa;generalize upd H' tt (.tup [.int i,.str (HJ k)])=H2 at LV SM aab ⊢;clear RU RU' sT zQ;refine⟨tt,_,Z,bu.of aab,Z,_,_,Z,_,_,Z,Z,?_⟩
   cases ls with
   |nil=>cases k<;>cases es
   |cons l ls=>
   obtain⟨e0,nd0,ae2⟩:=id LV
   cases ae2 with
   | @cons b bs _ _ la lt=>
   rw[qY,cu] at e0;have lst:Kh ((bs.reverse.map λa=>V.ref a.t)++[V.ref b.t]) (-1)=some (V.ref b.t):=uk _ _;refine⟨_,Z,_,Z,lv,_, -1,_,Z,Z,bq.of e0,lst,b.t,_,1,_,Z,Z,bu.of la.e,bA (j:=1) Z,_,Z,k,Z,tk,?_⟩;have lnl:=LN.2 _ a9;have bsl:b.bs.length=l.pre.length+1:=by rw[la.d.len,aT];rfl
   cases k with
   |or=>
    intro H3 s3;obtain⟨hh,pre,cur⟩:=l;have es:(if Hc ⟨hh,pre,cur⟩=true then some (⟨hh,pre++[cur],[]⟩::ls) else none)=some YK:=es
    split at es
    case isFalse=>cases es
    rename_i lk;cases es;have LV3:=LV.same s3;have SM3:=SM.trans s3;have e3:=s3 _ _ e0;have bl3:=s3 _ _ la.b;have tl3:b.bl∈wP lv (b::bs):=a7 _ (eJ _ a9);refine⟨_,Z,Z,_,Z,Wp ⟨_,Z,_,Z,lv,_, -1,_,Z,Z,bq.of e3,lst,b.t,b.ht,b.bl,⟨hh,pre,cur⟩,_,Z,s3 _ _ la.e,s3 _ _ la.h,la.ok,bl3,by rw[aG];exact bsl,λH4 s4=> ?_⟩⟩;rw[lk];have Fg:=s3.trans s4;refine⟨_,Z,cD ⟨_,Z,zx (s4 _ _ bl3),jy,λb0 O8=> ?_⟩⟩;have u5:=ai.upd (o:= .lst []) O8;refine⟨b.bl,_,_,Z,Z,u5 _ _ (s4 _ _ bl3),by rw[aG];lia,?_⟩;have Zr:=LV.next (Fg.trans u5) (Fg.free O8) aa;refine⟨_,_,_,_,_,Z,_,_,Zr,λc hc=> ?_,vx ((SM.trans Fg).trans u5) (FR _ tl3),LN1,RU1⟩;rcases aN.mp hc with rfl|hc
    .exact FR _ a9
    .rcases cW.mp hc with hc|hc
     .rcases aN.mp hc with rfl|hc
      .exact FR _ tl3
      .rcases cW.mp hc with hc|hc
       .exact FR _ (a7 _ (eJ _ (a7 _ hc)))
       .rw[fB.mp hc];exact SM.free (Fg.free O8)
     .exact FR _ (a7 _ (dP _ hc))
   |fin=>
    intro H3 s3;obtain⟨w',ps,pre,cur,hh,p,cc,L,rfl,rfl,lk,rfl⟩:=Np es
    cases lt with
    | @cons b2 RT _ _ la2 lt2=>
    have e3:=s3 _ _ e0;have n1:V.str (HJ .fin)≠V.str "or":=cw (by decide+kernel);refine⟨_,Z,Z,_,Z,g7 n1 (cf ⟨_,Z,Z,_,Z,Wp ⟨_,Z,lv,_,Z,.inl (bq.of e3),_,_,Z,Z,_,Z,dcT ?_ ⟨_,Z,_,Z,lv,_, -1,_,Z,Z,bq.of e3,lst,b.t,b.ht,b.bl,_,_,Z,s3 _ _ la.e,s3 _ _ la.h,la.ok,s3 _ _ la.b,by rw[aG];exact bsl,λH4 s4=> ?_⟩⟩⟩)⟩
    .show(1:Int)<((((b2::RT).reverse.map λa=>V.ref a.t)++[V.ref b.t]).length:Nat);rw[aT,aG,List.length_reverse,aZ,aZ]
     lia
    rw[lk];have Fg:=s3.trans s4;have Zl:=LV.same Fg;have e4:=s4 _ _ e3;refine⟨_,Z,cD ⟨_,Z,zx e4,lv,_,V.ref b.t,Z,Z,e4,by simp,?_⟩⟩;have hn0:=fN.mp nd0;obtain⟨Zr,aa3⟩:=Zl.drop;have h4t:=Fg _ _ la.e;have h4h:=Fg _ _ la.h;have h4b:=Fg _ _ la.b;have nbl:b.bl≠lv:=λz=>hn0.1 (z▸eJ _ a9);have h5t:upd H4 lv (.lst ((b2::RT).reverse.map λa=> .ref a.t)) b.t=_:=(au (b8 e4 h4t (λz=>nomatch z)).symm).trans h4t;have h5h:upd H4 lv (.lst ((b2::RT).reverse.map λa=> .ref a.t)) b.ht=_:=(au (b8 e4 h4h (λz=>nomatch z)).symm).trans h4h;have h5b:upd H4 lv (.lst ((b2::RT).reverse.map λa=> .ref a.t)) b.bl=_:=(au nbl).trans h4b;have SM5:=vx (o:= .lst ((b2::RT).reverse.map λa=> .ref a.t)) (SM.trans Fg) (FR lv a9);rw[show List.map (λa:La=>V.ref a.t) [b]=[V.ref b.t] from Z,List.dropLast_concat];generalize upd H4 lv (.lst ((b2::RT).reverse.map λa=> .ref a.t))=H5 at Zr aa3 h5t h5h h5b SM5 ⊢;obtain⟨e5,nd5,at5⟩:=id Zr;rw[qY,cu] at e5
    cases at5 with
    |cons la5 lt5=>
    obtain⟨bp,bb,vs,eb,_,hb5,_⟩:=la5.d.last;have v_:=la5.b;rw[eb,cu] at v_;have afy:Kh ((RT.reverse.map λa=>V.ref a.t)++[V.ref b2.t]) (-1)=some (V.ref b2.t):=uk _ _;have Cq:Kh (bp.map V.ref++[V.ref bb]) (-1)=some (V.ref bb):=uk _ _;refine⟨_,Z,_,Z,lv,_, -1,_,Z,Z,bq.of e5,afy,b2.t,_,1,_,Z,Z,bu.of la5.e,bA (j:=1) Z,_,Z,b2.bl,_, -1,_,Z,Z,bq.of v_,Cq,zx hb5,?_⟩;refine⟨_,Z,b.t,_,0,_,Z,Z,bu.of h5t,iZ _ _,_,Z,b.t,_,1,_,Z,Z,bu.of h5t,bA (j:=1) Z,b.bl,_,Z,.inl ⟨bq.of h5b,λt6 Q_=> ?_⟩⟩;have u6:=ai.upd (o:= .tup (b.bs.map V.ref)) Q_;obtain⟨ks,n,hf,ft⟩:=id la.ok;have h4l:=cO hf;rw[aT] at h4l;have fl:=n9 ft;refine Bi (xs:=hdV w' ps) (u6 _ _ h5h) (bu.of aa) (λz=>nomatch z) ?_ λg H7 _ s7 hg7=> ?_
    .show(V.str w' ::ps.map KJ).length+_<=_;rw[aZ,aG,aG,bsl];have:pre.length<=i:=lnl.2
     lia
    have HW:=u6.trans s7;have LV7:=Zr.same HW;have cl:=(LN.2 _ (a7 _ a9)).1;obtain⟨bp',bb',vs',eb',DQ,vl',_⟩:=id Zr.at_.top;obtain⟨rfl,z⟩:=List.append_inj' (eb'.symm.trans eb) rfl;obtain rfl:bb' =bb:=(lV z).1;rw[hb5] at DQ;cases DQ
    have LV8:=LV7.ZX (d:= .mk w' ps (NS (pre++[cur]))) (v:= .ref g) eb (HW _ _ hb5) (by
     rw[dD];exact .tup (LV7.tup hg7) (.cons (.str w') (i_ (EL ft _) (aa3.same (m5 (λc o _ e=>HW _ _ e) λc hc=> .inl hc)))))
    refine⟨bb',vs,_,Z,Z,HW _ _ hb5,?_,?_⟩
    .have:cc.length<=i:=cl;have:vs.length=cc.length:=vl'
     lia
    have F2:∀c∈wP lv (b2::RT),H c=none:=λc hc=>by
     rcases aN.mp hc with rfl|hc
     .exact FR _ a9
     .exact FR _ (a7 _ (dP _ hc))
    exact⟨_,_,_,_,_,Z,_,_,LV8,F2,vx (SM5.trans HW) (F2 _ (a7 _ (eJ _ (a7 _ (by rw[eb];simp))))),LN1,RU1⟩
   |hd w ps=>
    intro hp H3 hhp s3 zg;have LV3:=LV.same s3;have SM3:=SM.trans s3;have n1:=SJ tk (y:="or") (by decide+kernel) (by decide+kernel);have n2:=SJ tk (y:="end") (by decide+kernel) (by decide+kernel);obtain⟨ks,n,hf,ft⟩:=id tk;obtain⟨ft',hv,hft⟩:=Fm.f _ hf;have Mo :i4 fm.kF (.inr w)=some (.ref ft'):=hv;refine⟨_,Z,Z,_,Z,g7 (cw n1) (cf ⟨_,Z,Z,_,Z,g7 (cw n2) (cf ⟨_,Z,Z,_,Z,cD ?_⟩)⟩)⟩;have es:(if yJ w=true then some (⟨some (w,ps),[],[]⟩::l::ls) else some (⟨l.h,l.pre,l.cur++[.mk w ps .nil]⟩::ls))=some YK:=es;refine⟨_,Z,hp,_,0,_,Z,Z,bu.of zg,iZ _ _,.inr w,_,Z,Z,Mo,ft',_,Z,.inr (hft _),Z,hX _,_,Z,?_⟩;show if yY (.str "body") ((ks++List.replicate n ("body" :Str)).map V.str)=true then _ else _
    rw[Xu hf];have e3:=s3 _ _ e0;by_cases hb:yJ w=true
    .rw[ay hb] at es;cases es;rw[hb];refine cD ⟨_,Z,zx e3,_,Z,jy,λb0 O8=>⟨ki,λbl Pb=>⟨fT,λt' ht' => ?_⟩⟩⟩;have u1:=ai.upd (o:= .lst []) O8;have u2:=ai.upd (o:= .lst [V.ref b0]) Pb;have u3:=ai.upd (o:= .tup [V.ref hp,V.ref bl]) ht';have U:=(u1.trans u2).trans u3;refine⟨lv,_,_,Z,Z,U _ _ e3,?_,?_⟩
     .have:=LN.1;have bl' :bs.length=ls.length:=lt.len;show((bs.reverse.map λa:La=>V.ref a.t)++[V.ref b.t]).length<_;rw[aT,aG,List.length_reverse];simp only[aZ,fO] at this ⊢
      lia
     have Zl:=LV3.push U O8 (u1.free Pb) (aw aa Pb).symm (u3 _ _ (u2 _ _ aa)) (u3 _ _ aa) aa (U _ _ zg) tk;rw[qY,cu] at Zl;refine⟨_,_,_,_,_,Z,_,_,Zl,λc hc=> ?_,vx (SM3.trans U) (FR lv a9),LN1,RU1⟩;rcases aN.mp hc with rfl|hc
     .exact FR _ a9
     .rcases aN.mp hc with rfl|hc
      .exact SM3.free (u1.free Pb)
      .rcases aN.mp hc with rfl|hc
       .exact SM3.free O8
       .exact FR _ (a7 _ hc)
    .rw[aq hb] at es;cases es;rw[Bool.eq_false_iff.mpr hb];obtain⟨bp,bb,vs,eb,XA,vl,la3⟩:=LV3.at_.top;have v_:=la3.b;rw[eb,cu] at v_;have Cq:Kh (bp.map V.ref++[V.ref bb]) (-1)=some (V.ref bb):=uk _ _
     have Zl:=LV3.ZX (d:= .mk w ps .nil) (v:= .ref hp) eb XA (by
      rw[dD,bL,bZ];exact .tup (LV3.tup zg) (.cons (.str w) (EL ft _)))
     refine cf ⟨_,Z,Z,_,Z,cD ⟨_,Z,_,Z,b.bl,_, -1,_,Z,Z,bq.of v_,Cq,zx XA,_,Z,bb,vs,_,Z,Z,XA,by lia,?_⟩⟩;exact⟨_,_,_,_,_,Z,_,_,Zl,FR,vx SM3 (FR _ (a7 _ (eJ _ (a7 _ (by rw[eb];simp))))),LN1,RU1⟩
  .rintro σ H' ⟨x2,x3,x4,x5,x6,rfl,as,ls,LV,FR,SM,LN,RU⟩
   rw[E3 (by rw[c6];exact aJ _)] at RU;cases RU;obtain⟨e,nd,at_⟩:=LV
   cases at_ with
   |cons h t=>
   cases t;rename_i b;obtain⟨bp,b0,vs,eb,h1,h2,h3⟩:=h.d.last (cs:=[]);cases h1;have eb:b.bs=[b0]:=eb;have hb:=h.b;rw[eb] at hb;refine⟨_,Z,lv,_,Z,.inl (bq.of e),_,_,Z,Z,_,Z,cf ?_⟩;refine⟨_,Z,lv,_,0,_,Z,Z,bq.of e,iZ _ _,b.t,_,1,_,Z,Z,bu.of h.e,bA (j:=1) Z,b.bl,_,0,_,Z,Z,bq.of hb,iZ _ _,?_⟩;exact q b0 vs H' (FR _ (a7 _ (eJ _ (a7 _ (by rw[eb];exact a9))))) SM h2 (h3.same (YM _ _))
theorem jak{c:Nat}:∀{ps:aj},ps≠[]->(∀p∈ps,1<=p.length)->Str.join ⟨#[c]⟩ ps≠Str.empty
 |[],h,_,_=>h rfl
 |[x],_,h,e=>by
  have:=h x a9;rw[show x=Str.empty from e] at this;exact absurd this (by decide)
 |x::y::r,_,_,e=>by
  have e:=congrArg (λs:Str=>s.cps.toList) e;rw[kh] at e;exact absurd (show x.cps.toList++c::_=[] from e) (by simp)
theorem Pl{s:Ds}(h:qv s=[]):txt s="":=by
 unfold txt;rw[h];decide+kernel
theorem Mm{s:Ds}(ok:fR s)(hm:dF s<=1000)(h:qv s≠[]):txt s≠ "" /\Txt.split (txt s) "\n"=qv s:=by
 obtain⟨h1,h2,h3⟩:=BA ok hm;have hn:txt s≠ "":=jak (c:=10) h λp hp=>(h2 p hp).1;exact⟨hn,Bq (c:=10) h (λp hp z=>by rcases(h2 p hp).2.2 10 z with h|h<;>revert h<;>decide) hn⟩
def z_(A:pk)(s:Ds)(H:Hp)(Q:Y'->Hp->Prop)(E:Rf->Y'->Hp->Prop):Prop:=match dU s with
 |none=>∀p tb ls H',H p=none->H tb=none->H ls=none->Kept A.az H H'->Tab H' A.az P0 qI->m_ A.aD H' p tb ls s->Q p H'
 |some r=>∀dx H2,Kept A.az H H2->Tab H2 A.az P0 qI->H2 dx=some (.xd [(r.fd,r.v)])->E r dx H2
def JK(A:pk):Sp:=λvs H Q E=>∃s,vs=[.str (txt s)]/\(txt s).length<=4000/\fR s/\dq s<9/\dF s<=1000/\Tab H A.az P0 qI/\z_ A s H (λp H' =>Q (.ref p) H') (λr dx H2=>E (.ref (r.cls A)) (some dx) H2)
theorem jG(T:Txt K mg A)(Fm:pP P w K A fm):aQ P w K mg base (C9 P w) 20 A.p_ A.qA ["text"] (JK A):=by
 have dJ:aQ P w K mg base (C9 P w) 18 A.bQ A.bR ["self","deeds"] (jV A qI):=(aQ.N9 (λvs H Q E ⟨p,dx,v,t,s,e,_⟩=>by rw[e];rfl) λtZ=>gz T Fm tZ).mono (aJ _);refine T.iL.F.okX yT (λvs H Q E h=> ?_) (λcC Ar outer s0 H vs Q E hr h=> ?_)
 .obtain⟨s,rfl,_⟩:=h;rfl
 .obtain⟨s,rfl,hl,ok,dp,hm,tab,q⟩:=h;refine⟨_,(af (a_ (lj (gA (iY hZ T.fg Boot.«isinstance» (ag (pv 0) (aF (lW (v:= .ty "str") Z T.BV Boot.«str» rfl)))))) (ah (kJ Z eZ (X4 T.pC T.mf (sW T) hr (aF ae)))) aK) (ah (aB (EF T.wB (dJ.mono (by decide)) hr Z T.wR T.fi.b .nil (j6 eZ trivial) (aF (cv (Ct T Fm) hr T.uS aA (aF (kE (AS (pv 0) (λ_=>rfl)) (cR jD vT type_str_split GJ (pv 0) (aF ax)) (a8 c_))))))))),?_⟩;obtain⟨lo1,ZA⟩:=aeX s;have hr' :run (fF s) [⟨none,[],[]⟩]=some [⟨none,[],(t9 s).l⟩]:=F4 s ok none [] [] []
  have go:∀(l:Y') (xs:ak) (H1:Hp),ai H H1->H1 l=some (.lst xs)->DatAll H1 xs ((t9 s).l.map dD)->∀x dx,H1 x=none->H1 dx=none->dx≠x->jV A qI [.ref x,.ref l] (upd (upd H1 dx (.own x)) x (.ins A.aD dx [])) (λv H' =>v= .bV/\Q (.ref x) H') E:=λl xs H1 s1 A4 da x dx hx BX o8=>by
   have u1:=ai.upd (o:= .own x) BX;have hx1:upd H1 dx (.own x) x=none:=by rw[au o8.symm];exact hx
   have u2:=u1.trans (ai.upd (o:= .ins A.aD dx []) hx1);have hd:Dat H1 (.ref l) (iR false (sL (t9 s))):= .lst A4 (by rw[DZ];exact da);refine⟨x,dx,.ref l,false,t9 s,Z,aa,hd.same u2,Jh s ok,by lia,by lia,(tab.same s1).same u2,?_⟩;rw[Of];have kk:∀{H'},hW x A.az (upd (upd H1 dx (.own x)) x (.ins A.aD dx [])) H'->Kept A.az H H' :=λk b o hb e=>k b o (aw (s1 _ _ e) hx) hb (u2 _ _ (s1 _ _ e));unfold z_ at q
   cases er:dU s with
   |none=>
    rw[er] at q;exact λtb ls H' h1 h2 k M0 pr=>⟨Z,q x tb ls H' (s1.free hx) (s1.free (u2.free h1)) (s1.free (u2.free h2)) (kk k) M0 (pr.alike (BJ s))⟩
   |some r=>
    rw[er] at q;exact λMp H2 k M0 e=>q Mp H2 (kk k) M0 e
  obtain⟨lk1,Y2,lk3⟩:=BA ok hm;have RH:(qv s).map V.str=i0 (fF s):=(Jw _).symm;have lok:=Bw s ok
  have lln:(fF s).length<=5000:=by
   have:=lk1;unfold qv at this;rw[aG] at this;exact this
  have hL:sizeLine=16777216:=rfl;have key:∀l,H l=none->J2 [.ref l] (upd H l (.lst (i0 (fF s)))) (λv H1=>∀x dx,H1 x=none->H1 dx=none->dx≠x->jV A qI [.ref x,v] (upd (upd H1 dx (.own x)) x (.ins A.aD dx [])) (λv H' =>v= .bV/\Q (.ref x) H') E) E0:=λl Mv =>⟨l,fF s,_,Z,aa,lok,lln,hr',λl2 xs H' h1 s2 e2 d2 x dx hx BX o8=>go l2 xs H' ((ai.upd Mv).trans s2) e2 d2 x dx hx BX o8⟩;refine⟨_,Z,_,_,_,_,Z,.str _,Z,_,Z,cf ⟨_,Z,_,⟨aL hl (by decide),Z⟩,?_⟩⟩;show if(((txt s).length:Int) !=0)=true then _ else _
  by_cases h0:qv s=[]
  .rw[show(((txt s).length:Int) !=0)=false by rw[Pl h0];decide+kernel];rw[<-RH,h0] at key;exact cf ⟨jy,λl Mv =>key l Mv⟩
  .obtain⟨h1,h2⟩:=Mm ok hm h0
   rw[show(((txt s).length:Int) !=0)=true by
    rw[bne_iff_ne];intro z;refine h1 (ji ?_);have z:(txt s).length=0:=by lia
    have:(txt s).cps.toList.length=0:=z;rw[rh.mp this];rfl]
   refine cD ⟨_,Z,Z,_,_,Z,Z,aL hl (by decide),Z,Ea _ (aL hl (by decide)),λl Mv => ?_⟩;rw[h2,RH];exact key l Mv
theorem Mh{P:aan}{w:aai}{K:Frag}{mg:Str->aM}{base:aam}{N:aj}{qual:Str}{scope:Scope}{f:Y'}{cd:W'}{cl:List (Str×Y')}{A:aal}{outer:List Env}{s:X'}{H:Hp}{E:XK}:DA (J7 (C9 P w) P w K mg base N qual scope f cd cl A outer s H E) E:=by
 intro ad σ H1 s1 a C dd n I ea fl q;exact DL I Z Z Z ea fl q
theorem _root_.L2.aQ.calm{P:aan}{w:aai}{K:Frag}{mg:Str->aM}{base:aam}{k:Nat}{f:Y'}{fd:aap}{ps:aj}{sp:Sp}(F:aQ P w K mg base (C9 P w) k f fd ps sp):aQ P w K mg base cY k f fd ps (λvs H Q _=>sp vs H Q E0):=
 ⟨λvs H Q _ h=>F.len vs H Q E0 h,λA outer s H args us vs Q _ hr he hb hv hs=>n8 (F.run A outer s H args us vs Q E0 hr he hb hv hs) λr s' h=>by
  cases r with
  |error e=>
   obtain⟨_,_,_,_,_,_,_,_,_,_,_,_,_,_,_,z⟩:=(show C9 P w outer H s E0 e s' from h);exact z
  |ok fl=>cases fl<;>exact h⟩
noncomputable def lpP:Pos:=⟨466,55,466,86⟩
noncomputable def qP:Str:="_law_right" ++ ".<locals>." ++ "<lambda>"
def II(A:pk)(c:Y')(qn:Str)(v:V):Sp:=λvs H Q E=>vs=[]/\H c=some (.ext (iE c qn))/\JK A [v] H Q E
theorem QG(T:Txt K mg A)(Fm:pP P w K A fm){f c' :Y'}{name qual:Str}{params:Arguments}{scope:Scope}{pm ct oc:W'}{od:Option Y'}{xF:Array (aM)}{p1 p2 p3:Pos}{cl:List (Str×Y')}{v:V}
 (lk:base.get? f=some ⟨oc,od,.func (kla_fn name qual params (.Call (.Name "read_program" p1) [.Name "_law_text" p2] [] p3) scope cl pm (.ref c') ct),xF⟩) (S:qL [] ["_law_text"] scope) (C:Bj base cl ["_law_text"] [v]) (hg:scope.names.lookup ("read_program" :Str)=some NameKind.globalImplicit):aQ P w K mg base (C9 P w) 21 f (kla_fn name qual params (.Call (.Name "read_program" p1) [.Name "_law_text" p2] [] p3) scope cl pm (.ref c') ct) [] (II A c' qual v):=by
 refine OL lk S C (λvs H Q E ⟨e,_⟩=>by rw[e];rfl) (λvs H Q E h ⟨e,hc,_⟩ ok _=>iE.rec ok hc) λAr outer s0 H vs Q E hr ⟨e,hc,q⟩=> ?_;subst e;refine⟨_,cv (jG T Fm) hr T.iL (j6 Mh trivial) (aF (pv 0 (hv:= .inr (.inr (S.fre "_law_text" (by simp)))))) (hg:= ?_),?_⟩
 .exact hg
 .exact⟨_,Z,q⟩
theorem Tab.afk{P:Y'}{lp:Pos}{q:Str}{sp:Y'->Y'->ak->Sp}{E:XK}{H:Hp}{Q:VK}{σ:L2.St}{j:Nat}{v:V}(T:Tab H P lp q)(hj:σ[j]? =some (some v))
 (h:∀f c' H1,H f=none->H1 f=none->Kept P H H1->Tab H1 P lp q->H1 c' =some (.ext (iE c' q))->sp f c' [v] [.ref f] H1 Q E):JB P lp q sp E [j] [] yF σ H Q:=by
 obtain⟨ps,e,tr,r⟩:=T;refine⟨ps,[v],e,tr,Z,(λi j' v' e1 e2=> ?_),?_⟩
 .cases i with
  |zero=>
   cases e1;cases e2;exact hj
  |succ i=>cases e1
 rcases r with r|⟨c,r1,r2⟩
 .refine .inl ⟨r,λf c' hf hc hfc=> ?_⟩;have ncP:c'≠P:=(aw e hc).symm;have nfP:f≠P:=(aw e hf).symm;refine h f c' _ hf ?_ (λb o hb eb=> ?_) ⟨_,(by rw[au ncP.symm];exact aa),?_,.inr ⟨c',?_,aa⟩⟩ aa
  .rw[au hfc,au nfP];exact hf
  .rw[au (aw eb hc),au hb];exact eb
  .have:(ps++ #[rawInt lp.line,rawInt lp.col,.ref c']).toList=ps.toList++[rawInt lp.line,rawInt lp.col,.ref c']:=by simp
   rw[this];exact TriplesOk_snoc _ _ _ _ tr
  .have:(ps++ #[rawInt lp.line,rawInt lp.col,.ref c']).toList=ps.toList++[rawInt lp.line,rawInt lp.col,.ref c']:=by simp
   rw[this];exact codeAmong_snoc _ tr r
 .exact .inr ⟨c,r1,r2,λf hf=>h f c H hf hf (Kept.refl _ _) ⟨ps,e,tr,.inr ⟨c,r1,r2⟩⟩ r2⟩
theorem agS{sc:Scope}(h1:sc.kind= .function)(h2:sc.isCoroutine=false)(h3:sc.isGenerator=false)(h:sc.names=[(("_law_text" :Str),NameKind.free),(("read_program" :Str),NameKind.globalImplicit)]):qL [] ["_law_text"] sc:=by
 refine⟨h1,h2,h3,by decide+kernel,(λ_ h=>nomatch h),?_,?_,?_⟩
 .rw[h];decide+kernel
 .rw[h];decide+kernel
 .rw[h];intro x hx;have hm:=wK hx;rcases aN.mp hm with z|hm
  .cases z;exact a9
  .rcases aN.mp hm with z|hm
   .cases z
   .cases hm
theorem acW{base:aam}{cl:List (Str×Y')}{x:Str}{jU:ak}(C:Bj base cl [x] jU):∃v,jU=[v]:=by
 exact bn1 (P:=λjU=>∃v,jU=[v]) (λv=>⟨v,Z⟩) jU C.len
theorem aaj(T:Txt K mg A)(Fm:pP P w K A fm)(df:U8 A){gF :aam}{f c' :Y'}{name qual:Str}{scope:Scope}{pm ct oc:W'}{od:Option Y'}{xF:Array (aM)}{p1 p2 p3:Pos}{cl:List (Str×Y')}{jU:ak}
 (lk:gF.get? f=some ⟨oc,od,.func (kla_fn name qual {posonlyargs:=[],args:=[],vararg:=none,kwonlyargs:=[],kw_defaults:=[],kwarg:=none,defaults:=[]} (.Call (.Name "read_program" p1) [.Name "_law_text" p2] [] p3) scope cl pm (.ref c') ct),xF⟩)
 (C:Bj gF cl ["_law_text"] jU) (h1:scope.kind= .function:=by rfl) (h2:scope.isCoroutine=false:=by rfl) (h3:scope.isGenerator=false:=by rfl) (h:scope.names=[(("_law_text" :Str),NameKind.free),(("read_program" :Str),NameKind.globalImplicit)]:=by rfl):
 aQ P w K mg gF cY 22 A.pO A.pS ["_law_call"] (Jf A f (II A c' qual (jU.getD 0 .bV))):=by
 obtain⟨v,rfl⟩:=acW C;refine E5 T df (QG T Fm lk (agS h1 h2 h3 h) C (by rw[h];decide+kernel)) ⟨_,_,_,lk⟩ (Binds.all (bn0 Z))
theorem Tab.kept{H H' :Hp}{P P' :Y'}{lp:Pos}{q:Str}{ps:Array W'}(t:Tab H P lp q)(k:Kept P' H H')(hP:P≠P')(e:H P' =some (.wy ps)):Tab H' P lp q:=by
 obtain⟨IT,e1,tr,r⟩:=t;refine⟨IT,k _ _ hP e1,tr,?_⟩;rcases r with r|⟨c,r1,r2⟩
 .exact .inl r
 .exact .inr ⟨c,r1,k _ _ (b8 r2 e (λz=>nomatch z)) r2⟩
theorem Jk{ks:aj}{ps:List Z'}(h:c9 ks ps):∀x:Str,PyData.str x∈ps->ck x=true:=by
 induction h with
 |nil=>intro x hx;cases hx
 |cons h t ih=>
  intro x hx;rcases aN.mp hx with rfl|hx
  .cases h with
   |name x h=>exact h
   |label x h n=>exact h
   |mark x h=>exact h
  .exact ih x hx
theorem MG{d:Dd}(ok:ia d):∀x:Str,PyData.str x∈d.ps->ck x=true:=by
 cases d with
 |mk w ps bs=>
  rw[ia] at ok;obtain⟨⟨ks,f,fit⟩,_⟩:=ok;exact Jk fit
theorem PF{d:Dd}{ar:aj}(ok:ia d)(h:∀x∈ar,ck x=true):∀x∈nU d ar,ck x=true:=λx hx=>by
 unfold nU at hx
 split at hx
 .rename_i hb;rcases aN.mp hx with rfl|hx
  .cases jae ok with
   |ei t b u c=>exact absurd hb (by show ¬dN "either"=true;decide+kernel)
   |tu l m n t b hl hg _ _ _ _=>exact hl
   |fr l t b hl hg=>exact hl
   |sm w ks ps f hf n1 n2 n3=>
    have hb:dN w=true:=hb;unfold dN at hb;rw[bf n3,bf n2] at hb;cases hb
  .exact h x hx
 .exact h x hx
theorem Me{r:Dd×aj}(ok:ia r.1){x:Rf}(h:iV r=some x):∃l,(x= .twice l\/x= .oO l)/\ck l=true:=by
 unfold iV at h
 split at h
 .rename_i hb;cases h;refine⟨_,.inl Z,?_⟩;have:=PF (ar:=[]) ok (λ_ h=>nomatch h) (iM r.1) (by unfold nU;rw[ay hb.1];exact a9);exact this
 .split at h
  .split at h
   .rename_i y hy
    split at h
    .cases h
    .cases h;refine⟨y,.inr Z,MG ok y ?_⟩;unfold tP at hy
     split at hy
     .rename_i e;cases hy;rw[e];simp
     .cases hy
   .cases h
  .cases h
noncomputable def Rf.d:Rf->Z'
 | .many n=> .int n
 | .deep n=> .int n
 | .twice l=> .str l
 | .oO l=> .str l
 | .wide n=> .int n
 | .long n=> .int n
theorem Rf.dat(r:Rf)(H:Hp):Dat H r.v r.d:=by
 cases r<;>first|exact .int _|exact .str _
theorem Nf(r:Rf):ck r.tag=true:=by cases r<;>(simp only[Rf.tag];decide+kernel)
theorem Ig{s:Ds}(h:dU s=none):dF s<=40/\dq s<=6:=by
 unfold dU at h;rw[Option.or_eq_none_iff] at h;have h:=h.1;unfold lz at h
 split at h
 .cases h
 .split at h
  .cases h
  .lia
theorem IZ{s:Ds}(ok:fR s)(dp:dq s<9)(mn:dF s<=1000){r:Rf}(h:dU s=some r):Fits 100 3 r.d:=by
 unfold dU at h
 cases es:lz s with
 |some r' =>
  rw[es] at h;cases h;unfold lz at es
  split at es
  .cases es;exact uv (by lia)
  .split at es
   .cases es;exact uv (by lia)
   .cases es
 |none=>
  rw[es,nA] at h
  cases ef:(lE s ["ground"]).findSome? iV with
  |some r' =>
   rw[ef] at h;cases h;obtain⟨row,hr,e⟩:=List.exists_of_findSome?_eq_some ef;obtain⟨l,h,hn⟩:=Me (wI s _ ok row hr) e
   rcases h with rfl|rfl<;>exact jb hn
  |none=>
   rw[ef,nA] at h
   have sz:dF s<=40/\dq s<=6:=by
    unfold lz at es
    split at es
    .cases es
    .split at es
     .cases es
     .lia
   have c:=An s ok;have t:=za (d:=dq s) (m:=dF s) sz.2 (by lia);unfold uW at h
   split at h
   .cases h;exact uv (by lia)
   .split at h
    .cases h;exact uv (by lia)
    .cases h
theorem N_{s:Ds}(ok:fR s)(dp:dq s<9)(mn:dF s<=1000){r:Rf}(h:dU s=some r):(PyData.tuple [.str r.tag,r.d]).showable=true/\(PyData.tuple [.str r.tag,r.d]).depth<=90/\(PyData.tuple [.str r.tag,r.d]).shown.length<=sizeLine:=
 ((dk.cons (jb (Nf r)) (dk.cons (IZ ok dp mn h) dk.nil)).tup).rep (by decide) (by decide)
def gv(A:pk)(H H' :Hp):Prop:=∀b o,b≠A.dy->b≠A.az->H b=some o->H' b=some o
structure mq(A:pk)(H:Hp):Prop where
 ne:A.dy≠A.az
 p:Tab H A.dy lpP qP
 i:Tab H A.az P0 qI
theorem mq.same{A:pk}{H H' :Hp}(t:mq A H)(s:ai H H'):mq A H' :=⟨t.ne,t.p.same s,t.i.same s⟩
theorem gv.dat{A:pk}{H H' :Hp}(k:gv A H H')(t:mq A H){v:V}{d:Z'}(h:Dat H v d):Dat H' v d:=by
 obtain⟨_,⟨ps1,e1,_⟩,⟨ps2,e2,_⟩⟩:=t;exact zU (λc xs e=>k _ _ (b8 e e1 (λz=>nomatch z)) (b8 e e2 (λz=>nomatch z)) e) (λc xs e=>k _ _ (b8 e e1 (λz=>nomatch z)) (b8 e e2 (λz=>nomatch z)) e) h
theorem gv.lst{A:pk}{H H' :Hp}(k:gv A H H')(t:mq A H){c:Y'}{xs:ak}(e:H c=some (.lst xs)):H' c=some (.lst xs):=by
 obtain⟨_,⟨ps1,e1,_⟩,⟨ps2,e2,_⟩⟩:=t;exact k _ _ (b8 e e1 (λz=>nomatch z)) (b8 e e2 (λz=>nomatch z)) e
theorem gv.tup{A:pk}{H H' :Hp}(k:gv A H H')(t:mq A H){c:Y'}{xs:ak}(e:H c=some (.tup xs)):H' c=some (.tup xs):=by
 obtain⟨_,⟨ps1,e1,_⟩,⟨ps2,e2,_⟩⟩:=t;exact k _ _ (b8 e e1 (λz=>nomatch z)) (b8 e e2 (λz=>nomatch z)) e
theorem gv.pr{A:pk}{H H' :Hp}(k:gv A H H')(t:mq A H){C p tb ls:Y'}{s:Ds}(pr:m_ C H p tb ls s):m_ C H' p tb ls s:=by
 obtain⟨⟨dx,ho⟩,_,zs,hz,_⟩:=id pr;obtain⟨_,⟨ps1,e1,_⟩,⟨ps2,e2,_⟩⟩:=id t;exact pr.kt (λc xs e=>k.tup t e) ((k _ _ (b8 ho e1 (λz=>nomatch z)) (b8 ho e2 (λz=>nomatch z)) ho).trans ho.symm) ((k.lst t hz).trans hz.symm)
theorem gv.trans{A:pk}{H H1 H2:Hp}(a:gv A H H1)(b:gv A H1 H2):gv A H H2:=λc o h1 h2 e=>b c o h1 h2 (a c o h1 h2 e)
theorem _root_.L2.ai.Dm{A:pk}{H H' :Hp}(s:ai H H'):gv A H H' :=λc o _ _ e=>s _ _ e
def aci(H:Hp)(v:V):Option Rf->Prop
 |none=>v= .bV
 |some r=>∃t,v= .ref t/\H t=some (.tup [.str r.tag,r.v])
theorem neF{A B:Prop}{x:V}(h:B):if(!decide (x=x))=true then A else B:=by
 rw[aU Z];exact cf h
theorem KL{H:Hp}{v:V}{t:Bool}{s:Ds}(hd:Dat H v (iR t (sL s)))(ok:fR s)(dp:dq s<9)(mn:dF s<=1000)(er:dU s=none)(tabs:mq A H){x dx:Y'}(hx:H x=none)(BX:H dx=none)(o8:dx≠x){Q:VK}(q:∀tb ls H',m_ A.aD H' x tb ls s->gv A H H'->mq A H'->Q .bV H'):
 jV A qI [.ref x,v] (upd (upd H dx (.own x)) x (.ins A.aD dx [])) Q E0:=by
 have s1:=ai.upd (o:= .own x) BX;have hx1:upd H dx (.own x) x=none:=by rw[au o8.symm];exact hx
 have s2:=s1.trans (ai.upd (o:= .ins A.aD dx []) hx1);refine⟨x,dx,v,t,s,Z,aa,hd.same s2,ok,dp,mn,tabs.i.same s2,?_⟩;rw[er];intro tb ls H' I_ RH k M0 pr;obtain⟨psP,eP,_⟩:=id tabs.p;obtain⟨psI,eI,_⟩:=id (tabs.i.same s2)
 have kk:Kept A.az (jaf x (upd (upd H dx (.own x)) x (.ins A.aD dx []))) H' :=λc o hc e=>by
  by_cases z:c=x
  .rw[z,show jaf x _ x=none from ay Z] at e;cases e
  .rw[zn z] at e;exact k c o z hc e
 have nPx:A.dy≠x:=aw eP hx;refine q tb ls H' pr (λc o h1 h2 e=>k c o (aw e hx) h2 (s2 _ _ e)) ⟨tabs.ne,?_,M0⟩;obtain⟨IT,e1,tr,r⟩:=tabs.p.same s2;refine⟨IT,k _ _ nPx tabs.ne e1,tr,?_⟩;rcases r with r|⟨c,r1,r2⟩
 .exact .inl r
 .refine .inr ⟨c,r1,k _ _ (λz=> ?_) (b8 r2 eI (λz=>nomatch z)) r2⟩;rw[z,aa] at r2;cases r2
def Iq:Sp:=λvs H Q _=>∃v t s,vs=[v]/\Dat H v (iR t (sL s))/\fR s/\dq s<9/\dF s<=1000/\∀due H',ai H H'->aci H' due (dU s)->Q due H'
theorem FO(T:Txt K mg A):aQ P w K mg base cY 12 A.iF A.kS ["_law_body_here"] Iq:=(yG T).imp λvs H Q E ⟨v,t,s,e,hd,ok,dp,mn,q⟩=>by
 refine⟨v,t,s,e,hd,ok,dp,mn,?_⟩
 cases er:dU s with
 |none=>exact λH' s' =>q _ H' s' (by rw[er];exact Z)
 |some r=>exact λt' H' _ s' e' =>q _ H' s' (by rw[er];exact⟨t',Z,e'⟩)
noncomputable def Gz:Z'->Str
 | .none=>"none"
 |d=>AA d
theorem Je{k:Str}{d:Z'}(h:rO k d):Gz d=mH d:=by
 rcases ra h with rfl|⟨x,rfl,_⟩|⟨i,rfl,_⟩
 .rfl
 .rfl
 .simp only[Gz,AA,PyData.shown];rfl
theorem aby{c:Bool}{X Y:Prop}{M G:Y'->Hp->Prop}(ha:c=true->(∀a h,G a h->M a h)->X)(hb:c=false->(∀a h,G a h->M a h)->Y)(k:∀a h,G a h->M a h):if c=true then X else Y:=by
 cases c with
 |true=>exact cD (ha Z k)
 |false=>exact cf (hb Z k)
theorem LC(f:Z'->V)(l:List Z'):(List.range l.length).map (λi=>f (l.getD i .none))=l.map f:=by
 apply vY;intro i;rw[bG,bG];by_cases h:i<l.length
 .rw[rg h,zI h];simp[eQ,h]
 .rw[jI (by rw[qM];lia),jI (by lia)];rfl
theorem KS{ks:aj}{ds:List Z'}(h:c9 ks ds)(n:("mark" :Str)∉ks):AU ks ds=ds.map Gz:=by
 induction h with
 |nil=>rfl
 | @cons k d _ _ h t ih=>
  show oN k d++_=Gz d::_;rw[ih λz=>n (a7 _ z),show oN k d=[mH d] from aq λz=>n (by rw[z];exact a9),Je h];rfl
theorem abg{H:Hp}{xs:ak}{d1 d2 d3:Z'}(h:DatAll H xs [d1,d2,d3]):∃v1 v2 v3,xs=[v1,v2,v3]/\Dat H v3 d3:=by
 cases h with
 |cons _ t=>cases t with
  |cons _ t=>cases t with
   |cons h t=>cases t;exact⟨_,_,_,Z,h⟩
noncomputable def dDs(d:Dd):List Z':= .str d.wd::(d.ps++bL d.bs)
def Wh:Sp:=λvs H Q _=>∃v d,vs=[v]/\Dat H v d/\d.showable=true/\d.depth<=90/\d.shown.length<=sizeLine/\Q (.str (Gz d)) H
theorem Ed(T:Txt K mg A):aQ P w K mg base cY 1 A.xR A.xG ["_law_part"] Wh:=by
 refine T.xU.F.ok EK (λvs H Q E h=> ?_) (λcC Ar outer s0 H vs Q E hr h=> ?_)
 .obtain⟨v,d,rfl,_⟩:=h;rfl
 .obtain⟨v,d,rfl,hd,h1,h2,h3,q⟩:=h;have P1:=hr.gd;have F6:_+100<cLine:=gx (nt (by decide:100<=16*0+200) _) (by have:=hr.un;omega);refine⟨_,(ah (aB (kE (jp AQ (pv 0) eU) ax (GX (DY P1 F6) T.BV Boot.«str» (aF (pv 0)))))),?_⟩;refine⟨_,Z,Z,_,Z,?_⟩;have Lm :=hd
  cases hd with
  |bV=>exact Wp q
  |_=>exact g7 (λz=>nomatch z) ⟨_,Z,_,_,Z,Lm,h1,h2,h3,q⟩
def aa8(n:Nat):Sp:=λvs H Q _=>∃H0 v t s,vs=[v]/\ai H0 H/\Dat H0 v (iR t (sL s))/\fR s/\dq s<n/\dq s<20/\dF s<=90/\∀l H',H l=none->ai H H'->H' l=some (.lst (i0 (fF s)))->Q (.ref l) H'
theorem Cc(T:Txt K mg A)(n:Nat):aQ P w K mg base cY (1+n) A.oF A.uq ["_law_body_here"] (aa8 n):=by
 induction n with
 |zero=>exact eT (by rintro vs H Q E ⟨H0,v,t,s,_,_,_,_,h,_⟩;exact g_ _ h)
 |succ n ih=>
 show aQ P w K mg base cY ((1+n)+1) _ _ _ _;refine T.nJ.F.ok fK (λvs H Q E h=> ?_) (λcC Ar outer s0 H vs Q E hr h=> ?_)
 .obtain⟨H0,v,t,s,rfl,_⟩:=h;rfl
 .obtain⟨H0,v,t,s,rfl,jZ,hd,ok,dp,dp2,hm,q⟩:=h;obtain⟨a,vs,rfl,ha,hA⟩:=fP hd
  have Zs:(Ar.deeper (envOfC "_law_lines" (ao oi) s0.heap.objs.size A.oF cC)).units<cLine:=by
   have:=hr.un
   lia
  have sl:=PH s;have vl:=qb hA;have Vx:(6000:Nat)<sizeLine:=by decide
  have hT5:=KP ok (by lia);rw[c6] at hT5;refine⟨_,(af (eL 1 fK.nd (a8 c_)) (af (yI (oP (pv 0)) (ie 2 fK.nd) (af (G0 3 fK.nd ["_law_part"] 1 [] (wU (pv 2)) (λ_ _ _ _ _=>⟨(ie 0 (show(["_law_part"]:aj).Nodup by decide+kernel)),pD,(cv (Ed T) hr T.xU aA (aF (pv 0)) (hj:=by lia))⟩)) (af (a_ (jp cM (cJ aY (pv 2) ae) ax) (ah (eL 3 fK.nd (aH i6 (dj qJ (pv 3) fj (eA ae)) (aH Yo (a8 (ag ax (aF (cJ aP (pv 3) ae)))) (GX xg T.DS Boot.«int» (aF (HG rF (cJ aY (pv 2) ae) eU))))))) aK) (af (G0 4 fK.nd ["_law_one"] 1 [] (wU (cv (fX T) hr T.fJ aA (aF (pv 2)) (hj:=by lia))) (λ_ _ _ _ _=>⟨(ie 0 (show(["_law_one"]:aj).Nodup by decide+kernel)),pD,(cv ih hr T.nJ aA (aF (pv 0)) (hj:=by lia))⟩)) (af (bj (cR dC F' G' cA (pv 1) (aF (cR jD qk qo l_ ax (aF (dj qJ (pv 3) fj (eA (aH jC (iY aV T.dY Boot.«len» (aF (pv 3))) (iY aV T.dY Boot.«len» (aF (pv 4))))))))))) (ah (a_ (jp cM (cJ aY (pv 2) ae) ax) (ah (bj (cR dC qt tO i7 (pv 1) (aF (aH i6 (aH i6 (aH i6 (cJ aP (pv 4) ae) (a8 (aF ax))) (cJ aP (pv 4) ae)) (a8 (aF ax))))))) (ah (a_ (jp (Lg Zs) (pv 4) (a8 c_)) (ah (bj (cR dC qt tO i7 (pv 1) (aF (aH i6 (cJ aP (pv 4) ae) (a8 (aF ax))))))) aK))))))))) (ah (aB (pv 1))))),?_⟩;refine⟨jy,λfl lI=>⟨_,Z,a,t,Z,Mr (ai.upd lI _ _ (jZ _ _ ha)),?_⟩⟩;refine mF (K:=K) (t:=t) (a:=a) (xs:=vs) (λj σ H' =>∃x2 x3 x4:Option V,σ=[some (.ref a),some (.ref fl),x2,x3,x4]/\ai H H'/\H' fl=some (.lst (i0 ((s.l.take j).flatMap mI)))) ⟨_,_,_,Z,ai.upd lI,aa⟩ (by rintro j σ H' _ ⟨_,_,_,_,sm,_⟩;exact sm _ _ (jZ _ _ ha)) ?_ ?_
  .rintro j x σ H' hx ⟨x2,x3,x4,rfl,sm,jR⟩
   obtain⟨d,ed,nj⟩:=gP hA hx;have dm:=bt ed;have jc:=fD ok d dm;have IS:=fu d dm;have P6:=iy d dm;have tl:=fq mI s.l (j+1);rw[<-z7,dI mI ed,aT] at tl;obtain⟨b,ks,xs,Ge,rfl,p0⟩:=dO nj jc;have hlx:=p0.lx;have h4:=cO p0.f;rw[aT,eV] at h4;have Tf:=iu p0.hy;have hxl:=cQ p0.hx;have eb:H' b=some (.tup (.str d.wd::(xs++Ge))):=sm _ _ (jZ _ _ p0.e);have dA:DatAll H0 (V.str d.wd::(xs++Ge)) (dDs d):= .cons (.str _) (i_ p0.hx p0.hy);have dl:=cQ dA
   have pl:∀dd∈dDs d,dd.showable=true/\dd.depth<=90/\dd.shown.length<=sizeLine:=λdd Mw =>by
    rcases aN.mp Mw with rfl|Mw
    .exact(jb (bS.mp (show(bH.all λp=>ck p.1)=true by decide+kernel) _ p0.f)).rep (by decide) (by decide)
    .rcases cW.mp Mw with Mw |Mw
     .obtain⟨i,hi⟩:=vw.mp Mw;have Ze:=(dE.mp hi).1;obtain⟨k',Q2⟩:∃k',ks[i]? =some k' :=⟨ks[i]'(by lia),by simp⟩;exact(vE (fV p0.fit i _ _ Q2 hi)).rep (by decide) (by decide)
     .rw[va] at Mw;obtain⟨pp,pm,rfl⟩:=fZ.mp Mw;have t_:=fh (g6 jc) pp pm;have Ak:=fk pp pm;have HR:=iz pp pm;rw[<-iw] at Ak;rw[<-oC] at HR;have F:=shS pp.2 t_;obtain⟨tt,ss⟩:=pp
      cases tt with
      |true=>exact F.tup.rep (by lia) (by lia)
      |false=>exact F.list.rep (by lia) (by lia)
   refine⟨_,Z,b,Z,⟨_,bu.of eb⟩,?_⟩;refine ib (λ_=>true) (λi=>V.str (Gz ((dDs d).getD i .none))) (j4 (bu.of eb)).g (aL (show _<=1000 by rw[aZ,aT];lia) (by decide)) ?_ λwl H1 Lq s1 yS=> ?_
   .intro i y H3 C1 C0 hi s3 hy c1 c0;have hy:(V.str d.wd::(xs++Ge))[i]? =some y:=hy;obtain⟨dd,ed',Lm⟩:=ff dA i y hy;obtain⟨f1,f2,f3⟩:=pl dd (bt ed');refine⟨(fU.refl _).own (by decide),_,Z,y,dd,Z,Lm.same ((jZ.trans sm).trans s3),f1,f2,f3,?_⟩;have:=c1 Z H3 (ai.refl _);rw[eQ,ed'] at this;exact this
   rw[gD.mpr (λ_ _=>rfl),dl,LC (λd=>V.str (Gz d))] at yS;have nb:=JD p0.f p0.fit;rw[Tf] at nb;have kw:=jh p0.f p0.fit;obtain⟨w1,w2⟩:=Kj p0.f p0.fit;have eb1:=s1 _ _ eb;refine⟨_,Z,b,_,0,_,Z,Z,bu.of eb1,iZ _ _,Z,_,Z,?_⟩;apply aby (c:=decide (V.str d.wd=V.str "make")) (G:=λwl' h=>ai H1 h/\∃bw:aj,h wl' =some (.lst ((tN d.wd d.ps++bw).map V.str))/\bw.length=d.bs.l.length)
   .intro hb k;have hw:d.wd="make":=V.str.inj (bo hb);have hf' :=p0.f;rw[hw] at hf';obtain⟨d1,d2,d3,eps,fd3,ekm⟩:=KA hf' p0.fit;rw[hw,aq (by decide+kernel),aq (by decide+kernel)] at nb;have bs0:d.bs.l=[]:=rh.mp nb;have eys:Ge=[]:=rh.mp (Tf.trans nb);obtain⟨v1,v2,v3,exs,hv3⟩:∃v1 v2 v3,xs=[v1,v2,v3]/\Dat H0 v3 d3:=abg (eps▸p0.hx);have f1:Gz d1=mH d1:=Je (fV p0.fit 0 "name" d1 (by rw[<-kw,hw,ekm];rfl) (by rw[eps];rfl));have f2:Gz d2=mH d2:=Je (fV p0.fit 1 "size" d2 (by rw[<-kw,hw,ekm];rfl) (by rw[eps];rfl))
    have hx:H1 wl=some (.lst [.str "make",.str (mH d1),.str (mH d2),.str (Gz d3)]):=by
     rw[yS];unfold dDs;rw[eps,va,bs0,hw,<-f1,<-f2];rfl
    have ew:tN d.wd d.ps=[("make" :Str),mH d1,mH d2]++oN "mark" d3:=by
     unfold tN;rw[hw,eps,ekm];show(("make" :Str)::(oN "name" d1++(oN "size" d2++(oN "mark" d3++[]))))=_;rw[(GK (k:="name") (d:=d1) (by decide+kernel)).2,(GK (k:="size") (d:=d2) (by decide+kernel)).2,bZ];rfl
    have eb2:H1 b=some (.tup [.str d.wd,v1,v2,v3]):=by
     rw[eb1,exs,eys];rfl
    obtain⟨kk,ekk,k0,k1,ez⟩:∃kk:Int,(if(!decide (v3=V.bV))=true then(1:Int) else 0)=kk/\0<=kk/\kk<=1/\(List.replicate kk.toNat [V.str "in",.str (Gz d3)]).flatten=(oN "mark" d3).map V.str:=by
     rcases A_ fd3 with rfl|⟨x,rfl⟩
     .cases hv3;exact⟨0,Z,by decide,by decide,Z⟩
     .cases hv3;exact⟨1,Z,by decide,by decide,Z⟩
    refine⟨_,Z,3,Z,wl,_,Z,bq.of hx,λp1 GP=> ?_⟩;have c3:gC [V.str "make",.str (mH d1),.str (mH d2),.str (Gz d3)] none (some 3)=[V.str "make",.str (mH d1),.str (mH d2)]:=HM [V.str "make",.str (mH d1),.str (mH d2)] [.str (Gz d3)];rw[c3];have u1:=ai.upd (o:= .lst [V.str "make",.str (mH d1),.str (mH d2)]) GP;have e1:upd H1 p1 (.lst [V.str "make",.str (mH d1),.str (mH d2)]) p1=_:=aa;generalize upd H1 p1 (.lst [V.str "make",.str (mH d1),.str (mH d2)])=H2 at u1 e1 ⊢;refine⟨_,Z,wl,_,3,_,Z,Z,bq.of (u1 _ _ hx),bA (j:=3) Z,fT,λp2 Cm=> ?_⟩;have u2:=ai.upd (o:= .lst [V.str "in",.str (Gz d3)]) Cm;have e2:upd H2 p2 (.lst [V.str "in",.str (Gz d3)]) p2=_:=aa;generalize upd H2 p2 (.lst [V.str "in",.str (Gz d3)])=H3 at u2 e2 ⊢;refine⟨_,Z,b,_,3,_,Z,Z,bu.of (u2 _ _ (u1 _ _ eb2)),bA (j:=3) Z,Z,.inr ⟨_,Z,?_⟩⟩;rw[ekk];refine⟨p2,_,_,Z,Z,e2,by lia,by lia,?_,λp3 zg=> ?_⟩
    .have:kk.toNat<=1:=by lia
     exact aL (Nat.mul_le_mul_left 2 this) (by decide)
    rw[ez];have u3:=ai.upd (o:= .lst ((oN "mark" d3).map V.str)) zg;refine⟨p1,p3,_,_,Z,Z,u3 _ _ (u2 _ _ e1),aa,?_,λnl Zy=> ?_⟩
    .rw[aG];refine aL (show 3+_<=3+2 from nt ?_ 3) (by decide);exact(MP fd3).1
    have g:ai H1 (upd (upd H3 p3 (.lst ((oN "mark" d3).map V.str))) nl (.lst ([V.str "make",.str (mH d1),.str (mH d2)]++(oN "mark" d3).map V.str)))/\∃bw:aj,upd (upd H3 p3 (.lst ((oN "mark" d3).map V.str))) nl (.lst ([V.str "make",.str (mH d1),.str (mH d2)]++(oN "mark" d3).map V.str)) nl=some (.lst ((tN d.wd d.ps++bw).map V.str))/\bw.length=d.bs.l.length:=by
     refine⟨((u1.trans u2).trans u3).trans (ai.upd Zy),[],?_,by rw[bs0];rfl⟩;rw[aa,ew,bZ,cu];rfl
    generalize upd (upd H3 p3 (.lst ((oN "mark" d3).map V.str))) nl (.lst ([V.str "make",.str (mH d1),.str (mH d2)]++(oN "mark" d3).map V.str))=H7 at g ⊢;exact k nl H7 g
   .intro hb k;have hw:d.wd≠ "make":=λz=>of_decide_eq_false hb (by rw[z]);refine k wl H1 ⟨ai.refl _,(bL d.bs).map Gz,?_,by rw[aG,va,aG]⟩;rw[yS];unfold tN dDs;rw[kw,KS p0.fit λz=>KQ p0.f hw (eJ _ z)];simp only[eG,cu,ik,oo];rfl
   .rintro wl' H2 ⟨s2,bw,afR,hbw⟩
    have HE:=(sm.trans s1).trans s2;have S02:=jZ.trans HE;refine⟨_,Z,H0,_,d,Z,S02,nj,jc,λt1 ys H3 o_ s3 hz hB=>⟨t1,Z,⟨_,bu.of hz⟩,?_⟩⟩;have bl:=iu hB;refine Nt (λi v N h=>∃l pp,v= .ref l/\N l/\d.bs.l[i]? =some pp/\h l=some (.lst (i0 (fF pp.2)))) (j4 (bu.of hz)).g (aL (show ys.length<=1000 by lia) (by decide)) ?_ ?_ λil H4 zs Ze s4 aah zl hE=> ?_
    .rintro i v N1 N2 Ha Hb hN hh ⟨l,pp,rfl,n1,ep,e⟩
     exact⟨l,pp,Z,hN _ n1,ep,hh _ _ n1 e⟩
    .intro i y H5 C1 hi s5 hy c1;obtain⟨pp,ep,hp⟩:=gQ hB hy;have pm:=bt ep;have t_:=fh (g6 jc) pp pm;have Ak:=fk pp pm;have HR:=iz pp pm;rw[<-iw] at Ak;rw[<-oC] at HR;exact⟨(fU.refl _).own (by decide),_,Z,H0,y,pp.1,pp.2,Z,(S02.trans s3).trans s5,hp,t_,by lia,by lia,by lia,λl H6 hl6 s6 e6=>c1 _ H6 s6 ⟨l,pp,Z,hl6,ep,e6⟩⟩
    have sH4:=(HE.trans s3).trans s4;have acS:=s4 _ _ (s3 _ _ afR);have Cd:H4 fl=_:=(((s1.trans s2).trans s3).trans s4) _ _ jR;have eb4:H4 b=_:=(((s1.trans s2).trans s3).trans s4) _ _ eb
    have eix:((((tN d.wd d.ps++bw).map V.str).length:Nat):Int) - ((zs.length:Nat):Int)=(((tN d.wd d.ps).map V.str).length:Int):=by
     rw[aG,aG,aT]
     lia
    refine⟨_,Z,zx Cd,Z,_,Z,_,Z,wl',_,Z,.inl (bq.of acS),_,Z,il,_,Z,.inl (bq.of aah),_,_,Z,Z,_,Z,wl',_,Z,bq.of acS,λp5 Y5=> ?_⟩;rw[eix,cu,HM];refine⟨_,p5,tN d.wd d.ps,Z,Z,aa,zy (B:=60) (λy hy=>(w2 y hy).2.1) ?_,?_⟩
    .exact aL (show _<=9*60+9*1 from vg (j_ _ w1) (j_ _ w1)) (by decide)
    rw[kr];have u5:=ai.upd (o:= .lst ((tN d.wd d.ps).map V.str)) Y5;have Wl:((s.l.take j).flatMap mI).length+(mI d).length<=5000:=by lia
    have fd:=MJ d;rw[MF] at fd;have tk:=dI mI ed;generalize hP:(s.l.take j).flatMap mI=Mx at Cd Wl tk
    have Y4:∀c,H3 c=none->c≠fl:=λc hc z=>by
     have:=s3 _ _ (s2 _ _ (s1 _ _ jR));rw[<-z,hc] at this;cases this
    have lH:=u5 _ _ Cd;refine⟨fl,_,_,Z,Z,lH,?_,?_⟩
    .rw[c6];exact gx (show _<=5000 by lia) (by decide)
    have k46:Kept fl H4 (upd (upd H4 p5 (.lst ((tN d.wd d.ps).map V.str))) fl (.lst (i0 Mx++[.str (lT d.wd d.ps)]))):=λc o hc e=>by
     rw[au hc];exact u5 _ _ e
    have Bv:upd (upd H4 p5 (.lst ((tN d.wd d.ps).map V.str))) fl (.lst (i0 Mx++[.str (lT d.wd d.ps)])) fl=some (.lst (i0 (Mx++[.hd d.wd d.ps]))):=by rw[aa,jj];rfl
    have sH6:ai H (upd (upd H4 p5 (.lst ((tN d.wd d.ps).map V.str))) fl (.lst (i0 Mx++[.str (lT d.wd d.ps)]))):=fW lI (sH4.trans u5);rw[show Str.join " " (tN d.wd d.ps)=lT d.wd d.ps from Z];generalize upd (upd H4 p5 (.lst ((tN d.wd d.ps).map V.str))) fl (.lst (i0 Mx++[.str (lT d.wd d.ps)]))=H6 at k46 Bv sH6 ⊢;have Rp:=k46 _ _ (Y4 _ Ze) aah;have eb6:=k46 _ _ (b8 eb4 Cd (λz=>nomatch z)) eb4
    have hE6:∀(i:Nat) v,zs[i]? =some v->∃l pp,v= .ref l/\d.bs.l[i]? =some pp/\H6 l=some (.lst (i0 (fF pp.2))):=λi v e=>by
     obtain⟨l,pp,e1,n1,e2,e3⟩:=hE i v e;exact⟨l,pp,e1,e2,k46 _ _ (Y4 _ n1) e3⟩
    have Zz :zs.length=d.bs.l.length:=zl.trans bl
    have last:∀(H7:Hp) (TT:List Tk) (c3:Y'),ai H6 H7->H7 c3=some (.lst (i0 TT))->mI d= .hd d.wd d.ps::TT->∃b' Mq CA,[V.ref c3]=[V.ref b']/\H7 fl=some (.lst Mq)/\H7 b' =some (.lst CA)/\Mq.length+CA.length<=sizeLine/\ai H (upd H7 fl (.lst (Mq ++CA)))/\upd H7 fl (.lst (Mq ++CA)) fl=some (.lst (i0 ((s.l.take (j+1)).flatMap mI))):=λH7 TT c3 s7 e7 et=>by
     refine⟨c3,_,_,Z,s7 _ _ Bv,e7,?_,fW lI (sH6.trans s7),?_⟩
     .rw[et,aZ] at Wl;rw[c6,c6,aT];exact aL (show Mx.length+1+TT.length<=5000 by lia) (by decide)
     .rw[aa,<-jj,tk,et,dv];rfl
    refine⟨_,Z,b,_,0,_,Z,Z,bu.of eb6,iZ _ _,Z,_,Z,?_⟩;by_cases hw:d.wd="either"
    .rw[hw,ay Z] at nb
     match hl:d.bs.l,nb with
     |[q0,q1],_=>
     rw[hl] at hE6 Zz fd
     match hz0:zs,Zz with
     |[z0,z1],_=>
     obtain⟨l0,pp0,rfl,e0,h0⟩:=hE6 0 z0 rfl;obtain⟨l1,pp1,rfl,e1,h1⟩:=hE6 1 z1 rfl;cases e0;cases e1
     have fd:mI d= .hd d.wd d.ps::(((fF q0.2++[.or])++fF q1.2)++[.fin]):=by
      rw[fd];show _::((fF q0.2++(.or::fF q1.2++[]))++[.fin])=_;simp
     have ln:=Wl;rw[fd] at ln;simp only[aZ,aT,fO] at ln;rw[hw];refine Wp ⟨_,Z,zx Bv,_,Z,il,_,0,_,Z,Z,bq.of Rp,iZ _ _,ki,λo1 ho1=> ?_⟩;have v1:=ai.upd (o:= .lst [V.str "or"]) ho1;have x1:upd H6 o1 (.lst [V.str "or"]) o1=some (.lst (i0 [.or])):=aa;generalize upd H6 o1 (.lst [V.str "or"])=G1 at v1 x1 ⊢;refine⟨l0,o1,_,_,Z,Z,v1 _ _ h0,x1,?_,λc1 hc1=> ?_⟩
     .rw[c6,c6];exact aL (show _<=5000 by simp only[aZ,fO];lia) (by decide)
     have v2:=v1.trans (ai.upd (o:= .lst (i0 (fF q0.2)++i0 [.or])) hc1);have x2' :upd G1 c1 (.lst (i0 (fF q0.2)++i0 [.or])) c1=some (.lst (i0 (fF q0.2++[.or]))):=by rw[aa,jj]
     generalize upd G1 c1 (.lst (i0 (fF q0.2)++i0 [.or]))=G2 at v2 x2' ⊢;refine⟨_,Z,il,_,1,_,Z,Z,bq.of (v2 _ _ Rp),bA (j:=1) Z,c1,l1,_,_,Z,Z,x2',v2 _ _ h1,?_,λc2 hc2=> ?_⟩
     .rw[c6,c6];exact aL (show _<=5000 by simp only[aT,aZ,fO];lia) (by decide)
     have v3:=v2.trans (ai.upd (o:= .lst (i0 (fF q0.2++[.or])++i0 (fF q1.2))) hc2);have x3' :upd G2 c2 (.lst (i0 (fF q0.2++[.or])++i0 (fF q1.2))) c2=some (.lst (i0 ((fF q0.2++[.or])++fF q1.2))):=by rw[aa,jj _ (fF q1.2)]
     generalize upd G2 c2 (.lst (i0 (fF q0.2++[.or])++i0 (fF q1.2)))=G3 at v3 x3' ⊢;refine⟨ki,λo2 VA=> ?_⟩;have v4:=ai.upd (o:= .lst [V.str "end"]) VA;have x4' :upd G3 o2 (.lst [V.str "end"]) o2=some (.lst (i0 [.fin])):=aa;refine⟨c2,o2,_,_,Z,Z,v4 _ _ x3',x4',?_,λc3 WE=> ?_⟩
     .rw[c6,c6];exact aL (show _<=5000 by simp only[aT,aZ,fO];lia) (by decide)
     have v5:=(v3.trans v4).trans (ai.upd (o:= .lst (i0 ((fF q0.2++[.or])++fF q1.2)++i0 [.fin])) WE);obtain⟨y1,y2,y3,y4,y5,y6,y7,y8,y9⟩:=last _ _ c3 v5 (by rw[aa,<-jj]) fd;exact⟨fl,y1,y2,y3,Z,y4,y5,y6,y7,_,_,_,Z,y8,y9⟩
    .rw[aq hw] at nb;refine g7 (cw hw) ⟨_,Z,jy,λe1 he1=> ?_⟩;have v1:=ai.upd (o:= .lst []) he1;refine⟨il,e1,zs,Z,Z,v1 _ _ Rp,aa,_,Z,?_⟩;have abb:=v1 _ _ Rp;have Ee:=v1 _ _ Bv;generalize upd H6 e1 (.lst [])=H7 at v1 abb Ee ⊢
     match hl:d.bs.l,nb with
     |[],_=>
      rw[hl] at Zz fd;rw[rh.mp Zz];refine cf ⟨_,_,_,Z,sH6.trans v1,?_⟩;rw[Ee,tk,fd];rfl
     |[q0],_=>
      rw[hl] at hE6 Zz fd
      match hz0:zs,Zz with
      |[z0],_=>
      obtain⟨l0,pp0,rfl,e0,h0⟩:=hE6 0 z0 rfl;cases e0
      have fd:mI d= .hd d.wd d.ps::(fF q0.2++[.fin]):=by
       rw[fd];show _::((fF q0.2++[])++[.fin])=_;simp
      have ln:=Wl;rw[fd] at ln;simp only[aZ,aT,fO] at ln;refine cD ⟨_,Z,zx Ee,_,Z,il,_,0,_,Z,Z,bq.of abb,iZ _ _,ki,λo2 VA=> ?_⟩;have v4:=ai.upd (o:= .lst [V.str "end"]) VA;have x4' :upd H7 o2 (.lst [V.str "end"]) o2=some (.lst (i0 [.fin])):=aa;refine⟨l0,o2,_,_,Z,Z,v4 _ _ (v1 _ _ h0),x4',?_,λc3 WE=> ?_⟩
      .rw[c6,c6];exact aL (show _<=5000 by simp only[aZ,fO];lia) (by decide)
      have v5:=(v1.trans v4).trans (ai.upd (o:= .lst (i0 (fF q0.2)++i0 [.fin])) WE);obtain⟨y1,y2,y3,y4,y5,y6,y7,y8,y9⟩:=last _ _ c3 v5 (by rw[aa,<-jj]) fd;exact⟨fl,y1,y2,y3,Z,y4,y5,y6,y7,_,_,_,Z,y8,y9⟩
     |_::_::_,nb=>split at nb<;>simp at nb
  .rintro σ H' ⟨x2,x3,x4,rfl,sm,jR⟩
   rw[vl,gf (aJ _),<-z7] at jR;exact⟨_,Z,q fl H' lI sm jR⟩
theorem m_.same{C:Y'}{H H' :Hp}{p tb ls:Y'}{s:Ds}(pr:m_ C H p tb ls s)(k:ai H H'):m_ C H' p tb ls s:=by
 obtain⟨⟨dx,ho⟩,_,zs,hz,_⟩:=id pr;exact pr.kt (KT.same k) ((k _ _ ho).trans ho.symm) ((k _ _ hz).trans hz.symm)
def Kr(A:pk):Sp:=λvs H Q _=>∃v t s,vs=[v]/\Dat H v (iR t (sL s))/\fR s/\dq s<9/\dF s<=90/\mq A H/\∀H',gv A H H'->mq A H'->Q (.bl true) H'
theorem Cz(T:Txt K mg A)(Fm:pP P w K A fm)(df:U8 A)(tZ:K.In base):aQ P w K mg base cY 23 A.iK A.gh ["_law_body_here"] (Kr A):=by
 have lD:=(jG (P:=P) (w:=w) (base:=base) T Fm).calm;have dJ:aQ P w K mg base cY 18 A.bQ A.bR ["self","deeds"] (λvs H Q _=>jV A qI vs H Q E0):=(gz T Fm tZ).calm;refine T.jO.F.okC gH (λAr outer s0 H vs Q E hr h=> ?_) (λvs H Q E h=> ?_)
 .obtain⟨v,t,s,rfl,hd,ok,dp,mn,tabs,q⟩:=h;have bnv:Vals ([]:ak) []:= .nil;have bnd:=T.lM.b;have P1:=hr.gd;have F6:_+100<cLine:=gx (nt (by decide:100<=16*22+200) _) (by have:=hr.un;omega);obtain⟨c0,ct⟩:=T.Cp.tab (X:=mQ cY P w K mg base ["_law_body_here","_law_text","_law_due","_law_turn","_law_found"] "_law_right" (ao jW) A.iK A.gh.code Ar outer s0 H E) tZ rfl;have bm:=T.bm.mod (X:=mQ cY P w K mg base ["_law_body_here","_law_text","_law_due","_law_turn","_law_found"] "_law_right" (ao jW) A.iK A.gh.code Ar outer s0 H E) tZ;refine⟨_,(af (eL 1 gH.nd (cR jD qk qo l_ ax (aF (cv (Cc T 9) hr T.nJ aA (aF (pv 0)))))) (af (eL 2 gH.nd (cv (FO T) hr T.pI aA (aF (pv 0)))) (af (a_ (jp rF (pv 2) eU) (ah (aB (ME (HG kR (iY ix T.dY Boot.«len» (aF (pv 1))) ae) (lr (HG cM (iY (qN P1 F6) T.EN Boot.«repr» (aF (RP ct bm (show tJ _ _ _ ["_law_text"] [1] from⟨Z,Z,(λi j x e1 e2=>by rcases i with _|i<;>cases e1<;>cases e2<;>rfl),(λx hx=>by rw[fB.mp hx];rfl),(λ_ _=>rfl),(λx hx=>by rw[fB.mp hx];rfl),(λx c h=>by rcases aN.mp (wK h) with z|z<;>cases z;exact a9)⟩) (λgF f c' wb jU lk cp=>aaj T Fm df lk cp) hr Z T.lM.m T.lM.F.kp bnd bnv aA))) (iY (qN P1 F6) T.EN Boot.«repr» (aF (pv 2)))))))) aK) (af (a_ (jp mN (cv (jH T Fm) hr T.iC aA (aF (EF T.wB (dJ.mono (by decide)) hr Z T.wR T.fi.b .nil aA (aF (pv 0))))) (pv 1)) (ah (aB oM)) aK) (af (a_ (jp kR (iY ix T.dY Boot.«len» (aF (pv 1))) ae) (ah (aB oM)) aK) (af (yI (h_ Z T.lL (aF ae)) (ie 3 gH.nd) (af (eL 4 gH.nd (cv lD hr T.iL aA (aF (pv 1)))) (af (a_ (PW.pt (WP (jp mN (iY (qN P1 F6) T.EN Boot.«repr» (aF (EV (pv 4) T.cb T.dM (dR T) hr aA))) (iY (qN P1 F6) T.EN Boot.«repr» (aF (cv (CH T 9) hr T.oj aA (aF (pv 0)))))) (WF (jp mN (cv (jH T Fm) hr T.iC aA (aF (pv 4))) (pv 1))))) (ah (aB oM)) aK) (ah (a_ (PW.pt (WP (jp (Dh F6) (ba (ag (EV (pv 4) T.cb T.mW (vF T Fm) hr aA) (aF (EV (pv 4) T.cb T.l5 (tS T Fm) hr aA)))) (cv (vc T 9) hr T.ma aA (aF (pv 0)))) (WF (jp mN (EV (pv 4) T.cb T.oV (wZ T) hr aA) (iY aV T.dY Boot.«len» (aF (cv (qC T 9) hr T.jk aA (ag (pv 0) (ag (a8 c_) (aF ae)))))))))) (ah (aB oM)) aK)))) (hp:=PassesOwn.leaving)) (ah (aB oM)))))))),?_⟩;obtain⟨lk1,Y2,lk3⟩:=BA ok (aL mn (by decide))
  have aaP:(txt s).length<=sizeLine:=by
   have h1:=J' "\n" (qv s);have h2:=M' (B:=600) (qv s) λy hy=>(Y2 y hy).2.1;have h3:(qv s).length*("\n" :Str).length<=5000*1:=j_ _ lk1;have h4:(qv s).length*600<=5000*600:=j_ _ lk1;have hL:sizeLine=16777216:=rfl;show(Str.join "\n" (qv s)).length<=_
   lia
  refine⟨Z,_,Z,H,v,t,s,Z,ai.refl _,hd,ok,dp,by lia,mn,λl H1 hl s1 e1=>⟨_,l,qv s,Z,Z,e1.trans (by rw[Jw];rfl),lk3,?_⟩⟩;rw[kr,show Str.join "\n" (qv s)=txt s from Z];refine⟨_,Z,v,t,s,Z,hd.same s1,ok,dp,by lia,λdue H2 s2 du=> ?_⟩;have rW:=s1.trans s2;have yU:=tabs.same rW;have hd2:=hd.same rW;refine⟨_,Z,Z,_,Z,?_⟩;obtain⟨psP,eP,_⟩:=id yU.p;obtain⟨psI,eI,_⟩:=id yU.i
  cases er:dU s with
  |some r=>
   rw[er] at du;obtain⟨td,rfl,ed⟩:=du;have F:=N_ ok dp (by lia) er;rw[show(decide (V.ref td=V.bV))=false from bf (λz=>nomatch z)];refine cD ⟨_,Z,_,Z,aaP,_,_,Z,Z,_,Z,?_⟩;by_cases h4:(4000:Int)<((txt s).length:Int)
   .exact dcT h4 (q H2 rW.Dm yU)
   .rw[bf h4];have t4:(txt s).length<=4000:=by lia
    refine cf ?_;show JB A.dy lpP qP (λf c' jU=>Jf A f (II A c' qP (jU.getD 0 .bV))) E0 [1] [] yF [some v,some (.str (txt s)),some (.ref td),none,none] H2 _;refine Tab.afk yU.p Z λf c' H3 hf hf3 k3 t3 WE=>⟨Z,λt0 Y7 Q' E' hq he=> ?_⟩;have u0:=ai.upd (o:= .tup [V.str "other"]) Y7;have tabI:=(yU.i.kept k3 tabs.ne.symm eP).same u0;have ZC:=t3.same u0;obtain⟨ps3,e3,_⟩:=id tabI;have kH:gv A H (upd H3 t0 (.tup [V.str "other"])):=λb o h1 _ e=>u0 _ _ (k3 _ _ h1 (rW _ _ e));refine⟨Z,u0 _ _ WE,s,Z,t4,ok,dp,by lia,tabI,?_⟩;unfold z_;rw[er];intro dx H4 k4 tb4 e4;have Lh:mq A H4:=⟨tabs.ne,ZC.kept k4 tabs.ne e3,tb4⟩;have k04:gv A (upd H3 t0 (.tup [V.str "other"])) H4:=λb o _ h2 e=>k4 _ _ h2 e;have kH4:=kH.trans k04;refine he r dx H4 e4 λtt zQ=> ?_;have u5:=ai.upd (o:= .tup [V.str r.tag,r.v]) zQ;have ed5:upd H4 tt (.tup [V.str r.tag,r.v]) td=some (.tup [V.str r.tag,r.v]):=u5 _ _ (k04.tup ⟨tabs.ne,ZC,tabI⟩ (u0 _ _ (k3 _ _ (b8 ed eP (λz=>nomatch z)) ed)));refine⟨_,_,Z,.tup aa (.cons (.str _) (.cons (r.dat _) .nil)),F.1,F.2.1,F.2.2,_,Z,_,_,Z,.tup ed5 (.cons (.str _) (.cons (r.dat _) .nil)),F.1,F.2.1,F.2.2,Z,?_⟩;rw[aU Z];exact q _ (kH4.trans u5.Dm) (Lh.same u5)
  |none=>
   rw[er] at du;have du:due= .bV:=du;subst du;obtain⟨m40,d6⟩:=Ig er;refine neF ⟨_,Z,λx dx hx BX o8=> ?_⟩;show jV A qI [V.ref x,v] _ _ _;refine KL hd2 ok dp (by lia) er yU hx BX o8 λtb ls H3 pr k3 Mf=>⟨Z,x,tb,ls,s,Z,pr,ok,m40,d6,λH4 s4=>⟨_,Z,Z,_,Z,neF ?_⟩⟩;have k14:gv A H H4:=(rW.Dm.trans k3).trans s4.Dm;have Lh:=Mf.same s4;refine⟨_,Z,_,Z,aaP,_,_,Z,Z,_,Z,?_⟩;by_cases h4:(4000:Int)<((txt s).length:Int)
   .exact dcT h4 (q H4 k14 Lh)
   .rw[bf h4];have t4:(txt s).length<=4000:=by lia
    refine cf ⟨2,Z,by decide,by decide,?_⟩;obtain⟨pl1,UE,_⟩:=Cb s;have Zh:=((shS _ (tW s ok)).tup).rep (by lia) (by lia);refine we (λi σ H' =>∃x3 x4:Option V,σ=[some v,some (.str (txt s)),some .bV,x3,x4]/\gv A H H'/\mq A H') ⟨_,_,Z,k14,Lh⟩ ?_ ?_
    .rintro i σ H' hi ⟨x3,x4,rfl,kp,tab⟩
     obtain⟨amE,eI',_⟩:=id tab.i;refine⟨_,Z,s,Z,t4,ok,dp,by lia,tab.i,?_⟩;unfold z_;rw[er];intro p M0 HH H5 hp I_ RH k5 tb5 WD;have kk5:gv A H' H5:=λb o h1 h2 e=>k5 b o h2 e;have E6:mq A H5:=⟨tab.ne,tab.p.kept k5 tab.ne eI',tb5⟩;have k05:=kp.trans kk5;obtain⟨Mp,ho⟩:=id WD.ob;have hd5:=k05.dat tabs hd;refine⟨_,Z,p,Mp,_,Z,ho,Z,p,M0,HH,s,Z,WD,_,_,Z,WD.body.dat,Zh.1,Zh.2.1,Zh.2.2,?_⟩;refine⟨_,Z,H5,v,t,s,Z,ai.refl _,hd5,ok,by lia,by lia,λtt H6 zQ s6 td=>⟨_,_,Z,td.dat,Zh.1,Zh.2.1,Zh.2.2,Z,_,Z,neF ?_⟩⟩;refine⟨_,Z,p,M0,HH,s,Z,WD.same s6,ok,m40,d6,λH7 s7=>⟨_,Z,Z,_,Z,neF ?_⟩⟩;have HW:=s6.trans s7;refine⟨_,Z,p,Mp,_,Z,HW _ _ ho,Z,p,M0,HH,s,Z,WD.same HW,ok,m40,d6,λH8 s8=> ?_⟩;have Zi:=HW.trans s8;refine⟨_,Z,p,Mp,_,Z,Zi _ _ ho,Z,p,M0,HH,s,Z,WD.same Zi,ok,m40,d6,λH9 s9=>⟨fT,λt6 Q_=> ?_⟩⟩;have u6:=ai.upd (o:= .tup [nI (hJ s),nI (hU s)]) Q_;have s5A:=(Zi.trans s9).trans u6;refine⟨_,Z,_,v,t,s,Z,ai.refl _,hd5.same s5A,ok,by lia,λt7 HB ht7 s7' e7=> ?_⟩;have dW:∀(Hx:Hp) (a:Y'),Hx a=some (.tup [nI (hJ s),nI (hU s)])->Dat Hx (.ref a) (.tuple [.int (hJ s:Int),.int (hU s:Int)]):=λHx a e=> .tup e (.cons (.int _) (.cons (.int _) .nil))
     have L6:Ly 2 (.tuple [.int (hJ s:Int),.int (hU s:Int)]):=Ly.tup (k:=1) λd hd=>by
      simp only[aN,cF,cH] at hd
      rcases hd with rfl|rfl<;>exact Ft _
     refine⟨_,_,dW _ _ (s7' _ _ aa),dW _ _ e7,L6.shaped (by decide),L6.shaped (by decide),L6.mix,?_⟩;rw[U'];have s5B:=s5A.trans s7';refine⟨_,Z,cf ⟨_,Z,p,Mp,_,Z,s5B _ _ ho,Z,p,M0,HH,s,Z,WD.same s5B,_,Z,jy,λu hu=> ?_⟩⟩;have su:=ai.upd (o:= .lst []) hu;refine⟨_,v,t,s,u,[],0,Z,ai.refl _,hd5.same (s5B.trans su),ok,by lia,aa,by lia,by show 0+_<_;lia,λl' rz HC Mv sC hrz R=>⟨l',_,Z,.inl (bq.of hrz),Z,_,Z,?_⟩⟩;have rl:=R.len;have ml:(tX s [] 0).length=dF s:=lX s [] 0;rw[show V.int ((rz.length:Nat):Int)=nI (dF s) by rw[rl,ml];rfl];have s5C:=(s5B.trans su).trans sC;exact neF ⟨_,_,Z,k05.trans s5C.Dm,E6.same s5C⟩
    .rintro σ H' ⟨x3,x4,rfl,kp,tab⟩
     exact q H' kp tab
 .obtain⟨v,t,s,rfl,_⟩:=h;rfl
theorem aae:∀(l:List Nat) (N0:Nat),0<N0->(∀d∈l,d<10)->∃N,0<N/\N<(N0+1)*10 ^ l.length/\Nat.toDigits 10 N0++l.flatMap (Nat.toDigits 10)=Nat.toDigits 10 N
 |[],N0,h,_=>⟨N0,h,by simp,by simp⟩
 |d::l,N0,h,hd=>by
  have h10:d<10:=hd d a9;obtain⟨N,h1,h2,h3⟩:=aae l (10*N0+d) (by lia) (λx hx=>hd x (a7 _ hx));refine⟨N,h1,cq h2 ?_,?_⟩
  .rw[aZ,Nat.pow_succ,Nat.mul_comm (10 ^ l.length) 10,<-Nat.mul_assoc];exact j_ _ (by lia)
  .rw[vB,<-dv,Ky (by decide) h h10];exact h3
theorem DT:∀xs:aj,(Str.join "" xs).cps.toList=xs.flatMap λx=>x.cps.toList
 |[]=>rfl
 |[x]=>by
  show x.cps.toList=x.cps.toList++[];rw[bZ]
 |x::y::r=>by
  show(x++ "" ++Str.join "" (y::r)).cps.toList=x.cps.toList++(y::r).flatMap λx=>x.cps.toList;rw[iH,iH,DT (y::r)];show(x.cps.toList++[])++_=_;rw[bZ]
theorem wm(m:Nat):(bO (m:Int)).cps.toList=(Nat.toDigits 10 m).map Char.toNat:=by
 unfold bO;exact S' m
theorem PY{f:Nat}{ds:List Nat}(h1:1<=f)(h2:f<=9)(hl:ds.length<=39)(hd:∀d∈ds,d<10):∃N:Nat,0<N/\N<10 ^ 40/\bO (f:Int)++Str.join "" (ds.map λd:Nat=>bO (d:Int))=bO (N:Int):=by
 obtain⟨N,n1,n2,n3⟩:=aae ds f h1 hd;refine⟨N,n1,cq n2 ?_,ji ?_⟩
 .exact aL (zB (show f+1<=10 by lia) (Nat.pow_le_pow_right (by decide) hl)) (by decide)
 .rw[iH,DT,wm,wm,<-n3,cu,List.flatMap_map,List.map_flatMap]
  congr 1
  congr 1
  funext d
  exact wm d
noncomputable def lQ(i:Int):Ds:= .cons (.mk "set" [.str "a",.int i] .nil) (.cons (.mk "more" [.str "b",.str "a",.int i] .nil) .nil)
theorem abx{i:Int}(h:i.natAbs<10 ^ 40):fR (lQ i):=by
 unfold lQ;rw[fR,fR,fR,ia,ia,i3];refine⟨⟨⟨["name","value"],?_,?_⟩,True.intro⟩,⟨⟨["name","name","number"],?_,?_⟩,True.intro⟩,True.intro⟩
 .show(("set" :Str),(["name","value"]:aj)++[])∈bH;decide+kernel
 .exact .cons (.name "a" (by decide+kernel)) (.cons (.value i h) .nil)
 .show(("more" :Str),(["name","name","number"]:aj)++[])∈bH;decide+kernel
 .exact .cons (.name "b" (by decide+kernel)) (.cons (.name "a" (by decide+kernel)) (.cons (.number i h) .nil))
theorem VW(i:Int):qv (lQ i)=["set a " ++bO i,"more b a " ++bO i]:=by
 unfold qv lQ;rw[fF,fF,fF,mI,mI,Ew];show[lT "set" [.str "a",.int i],lT "more" [.str "b",.str "a",.int i]]=_;unfold lT;rw[show qu "set"=[("name" :Str),"value"] by decide+kernel,show qu "more"=[("name" :Str),"name","number"] by decide+kernel];show[Str.join " " ["set","a",bO i],Str.join " " ["more","b","a",bO i]]=_
 congr 1
 .show "set" ++ " " ++("a" ++ " " ++bO i)=_;exact ji (by simp only[iH];rw[<-dv,<-dv];rfl)
 .congr 1
  show "more" ++ " " ++("b" ++ " " ++("a" ++ " " ++bO i))=_;exact ji (by simp only[iH];rw[<-dv,<-dv,<-dv,<-dv];rfl)
theorem jao(i:Int):dF (lQ i)=2/\dq (lQ i)=0/\dU (lQ i)=none/\sL (gO (lQ i))=[.tuple [.str "set",.str "a",.int i],.tuple [.str "more",.str "b",.str "a",.int i]]:=by
 have h1:dF (lQ i)=2:=by unfold lQ;simp[dF,lG,l6]
 have h2:dq (lQ i)=0:=by unfold lQ;simp[dq,mB,nk]
 refine⟨h1,h2,?_,?_⟩
 .unfold dU lz uW;rw[h1,h2,aq (by lia),aq (by lia)];have w0:hJ (lQ i)=0:=by unfold lQ;rw[hJ,hJ,hJ,yL,yL,rT,aq (by decide+kernel),aq (by decide+kernel),aq (by decide+kernel),aq (by decide+kernel)];rfl
  have l0:hU (lQ i)=2:=by unfold lQ;rw[hU,hU,hU,yC,yC,aq (by decide+kernel),aq (by decide+kernel),aq (by decide+kernel),aq (by decide+kernel),aq (by decide+kernel),aq (by decide+kernel)]
  rw[w0,l0,aq (by lia),aq (by lia)]
  have f0:List.findSome? iV (lE (lQ i) ["ground"])=none:=by
   unfold lQ;rw[lE,BZ,CB,lE,BZ,CB,lE];rfl
  rw[f0];rfl
 .unfold lQ;simp[gO,ni,rj,sL,dD,bL]
theorem J3:∀{xs:aj},(∀x∈xs,∃d:Nat,d<10/\x=bO (d:Int))->∃ds:List Nat,xs=(ds.map λd:Nat=>bO (d:Int))/\∀d∈ds,d<10
 |[],_=>⟨[],Z,λd hd=>nomatch hd⟩
 |x::r,h=>by
  obtain⟨d,hd,rfl⟩:=h x a9;obtain⟨ds,rfl,hs⟩:=J3 λy hy=>h y (a7 _ hy)
  exact⟨d::ds,Z,λe he=>by
   rcases aN.mp he with rfl|he
   .exact hd
   .exact hs e he⟩
theorem acQ(i:Int):gO (lQ i)=lQ i:=by
 unfold lQ;rw[gO,gO,gO,ni,ni,rj]
theorem Qy{sg:Str}{N:Nat}(h:sg="" \/sg="-")(hN:0<N):∃i:Int,i.natAbs=N/\sg++bO (N:Int)=bO i:=by
 rcases h with rfl|rfl
 .exact⟨N,zm N,ji (by rw[iH];rfl)⟩
 .refine⟨-(N:Int),by lia,ji ?_⟩;rw[iH,show(bO (-(N:Int))).cps.toList=_ from GS N hN];rfl
theorem jaa(x y:Str):(x++y).length=x.length+y.length:=by
 have:=congrArg List.length (iH x y);rw[aT] at this;exact this
theorem DO:∀n:Nat,n<11->n.log2<1920:=by decide
theorem Tab.JO{H H' :Hp}{P b:Y'}{lp:Pos}{q:Str}{xs:ak}(t:Tab H P lp q)(k:Kept b H H')(e:H b=some (.lst xs)):Tab H' P lp q:=by
 obtain⟨IT,e1,tr,r⟩:=t;refine⟨IT,k _ _ (b8 e1 e (λz=>nomatch z)) e1,tr,?_⟩;rcases r with r|⟨c,r1,r2⟩
 .exact .inl r
 .exact .inr ⟨c,r1,k _ _ (b8 r2 e (λz=>nomatch z)) r2⟩
theorem CO(x y z:Str):x++y++z=x++(y++z):=ji (by simp only[iH];rw[dv])
def NP(A:pk)(b:Y')(H H' :Hp):Prop:=∀c o,c≠b->c≠A.dy->c≠A.az->H c=some o->H' c=some o
def J8(A:pk):Sp:=λvs H Q _=>∃b k,vs=[.ref b]/\di H b k/\k<=50000/\mq A H/\∀H',NP A b H H'->mq A H'->Q (.bl true) H'
theorem rM(T:Txt K mg A)(Fm:pP P w K A fm)(tZ:K.In base):aQ P w K mg base cY 21 A.gW A.gU ["_law_box_here"] (J8 A):=by
 have lD:=(jG (P:=P) (w:=w) (base:=base) T Fm).calm;have dJ:aQ P w K mg base cY 18 A.bQ A.bR ["self","deeds"] (λvs H Q _=>jV A qI vs H Q E0):=(gz T Fm tZ).calm;refine T.kN.F.ok bX (λvs H Q E h=> ?_) (λcC Ar outer s0 H vs Q E hr h=> ?_)
 .obtain⟨b,k,rfl,_⟩:=h;rfl
 .obtain⟨b,k,rfl,B,hk,tabs,q⟩:=h;have F6:_+100<cLine:=gx (nt (by decide:100<=16*20+200) _) (by have:=hr.un;omega);have hL:sizeLine=16777216:=rfl;refine⟨_,(af (eL 1 bX.nd (aH bB ae (cv (aI T) hr T.aO aA (ag (pv 0) (aF ae))))) (af (eL 2 bX.nd (aH fw (GX vv T.BV Boot.«str» (aF (aH bB ae (cv (aI T) hr T.aO aA (ag (pv 0) (aF ae)))))) (cR jD qk qo l_ ax (aF (L9 ["_law_k","_law_box_here"] 1 [0] (h_ Z T.lL (aF (aH jC (pv 1) ae))) (λ_ _ _ _ _=>⟨(ie 0 (show(["_law_k","_law_box_here"]:aj).Nodup by decide+kernel)),pD,(GX vv T.BV Boot.«str» (aF (cv (aI T) hr T.aO aA (ag (pv 1) (aF ae)))))⟩)))))) (af (eL 3 bX.nd (cJ aP (a8 (ag ax (aF ax))) (cv (aI T) hr T.aO aA (ag (pv 0) (aF ae))))) (af (eL 4 bX.nd (a8 (ag (aH fw (aH fw ax (pv 3)) (pv 2)) (aF (aH fw (aH fw ax (pv 3)) (pv 2)))))) (af (eL 5 bX.nd (cv lD hr T.iL aA (aF (cR jD qk qo l_ ax (aF (pv 4)))))) (af (eL 6 bX.nd (GX so T.DS Boot.«int» (aF (aH fw (pv 3) (pv 2))))) (af (a_ (jp (Dh F6) (EV (pv 5) T.cb T.dM (dR T) hr aA) (ba (ag (ba (ag ax (ag ax (aF (pv 6))))) (aF (ba (ag ax (ag ax (ag ax (aF (pv 6)))))))))) (ah (aB oM)) aK) (ah (aB (pM (HG cM (cv (jH T Fm) hr T.iC aA (aF (pv 5))) (cR jD qk qo l_ ax (aF (pv 4)))) (lr (HG (DR F6) (EV (EF T.wB (dJ.mono (by decide)) hr Z T.wR T.fi.b .nil aA (aF (EV (pv 5) T.cb T.dM (dR T) hr aA))) T.cb T.dM (dR T) hr aA) (EV (pv 5) T.cb T.dM (dR T) hr aA))))))))))))),?_⟩;refine⟨_,Z,b,10,k,Z,B,by lia,by decide,by decide,λr1 H1 a0 a1 B1 O1=> ?_⟩;obtain⟨j1,rfl⟩:∃j:Nat,r1=j:=⟨r1.toNat,by lia⟩;refine⟨31,_,Z,Z,?_⟩;refine⟨_,Z,b,9,k+1,Z,B1,by lia,by decide,by decide,λr2 H2 b0 b1 B2 O2=> ?_⟩;obtain⟨j2,rfl⟩:∃j:Nat,r2=j:=⟨r2.toNat,by lia⟩;have e2:(1:Int)+(j2:Int)=((1+j2:Nat):Int):=by lia
  have e1:(31:Int)+(j1:Int) - 1=((30+j1:Nat):Int):=by lia
  refine⟨1,_,Z,Z,_,Z,?_,Z,_,Z,_,1,Z,Z,_,Z,by lia,by lia,?_⟩
  .show((1:Int)+(j2:Int)).natAbs.log2<1920;exact DO _ (by lia)
  rw[e1,mD];refine mV (m:=1) (k0:=k+1+1) (λv=>∃x:Str,v= .str x/\∃d:Nat,d<10/\x=bO (d:Int)) (cV (eB (by lia))) B2 ?_ ?_
  .intro i H' C1 hi K' B' q1;refine⟨(fU.refl _).own (by decide),_,Z,b,10,_,Z,B',by lia,by decide,by decide,λr H6 r0 r1' B6 O6=> ?_⟩;obtain⟨j,rfl⟩:∃j:Nat,r=j:=⟨r.toNat,by lia⟩;exact⟨_,Z,DO _ (by lia),q1 _ _ ⟨_,Z,j,by lia,Z⟩ B6 O6.kept⟩
  .intro pl H3 ys jY K3 B3 zg yH hR;obtain⟨xs,rfl,hx⟩:=nF hR;rw[aG] at yH;obtain⟨ds,rfl,Tp⟩:=J3 hx;rw[aG] at yH;obtain⟨N,n0,n40,eN⟩:=PY (f:=1+j2) (ds:=ds) (by lia) (by lia) (by lia) Tp
   have ef:Str.ofString (toString ((1:Int)+(j2:Int)))++Txt.join (Str.ofString "") (ds.map λd:Nat=>bO (d:Int))=bO (N:Int):=by
    rw[kr,e2];exact eN
   have lN:=(zE (i:=(N:Int)) (by rw[zm];exact n40)).2.2.2;have lf:=jaa (Str.ofString (toString ((1:Int)+(j2:Int)))) (Txt.join (Str.ofString "") (ds.map λd:Nat=>bO (d:Int)));rw[ef] at lf;refine⟨_,pl,_,Z,Z,zg,zy (B:=60) (λy hy=> ?_) ?_,_,_,Z,Z,by lia,?_⟩
   .obtain⟨d,hd,rfl⟩:=fZ.mp hy;exact(zE (i:=(d:Int)) (by rw[zm];exact rp (Tp d hd) (by decide))).2.2.2
   .rw[aG,yH];have:(Str.ofString "").length=0:=by decide+kernel
    rw[this]
    lia
   rw[ef];refine⟨fT,λp4 Io=> ?_⟩;have u4:=ai.upd (o:= .lst [V.str "",V.str "-"]) Io;have n4:p4≠b:=B3.ne Io;refine⟨_,Z,b,2,_,Z,B3.same u4,by lia,by decide,by decide,λr5 H5 c0 c1 B5 O5=> ?_⟩;refine gy (λv=>∃sg:Str,v= .str sg/\(sg="" \/sg="-")) (O5.kept _ _ n4 aa) c0 c1 ?_ λv hv=> ?_
   .intro x hx;simp only[aN,cF,cH] at hx;rcases hx with rfl|rfl
    .exact⟨_,Z,.inl Z⟩
    .exact⟨_,Z,.inr Z⟩
   obtain⟨sg,rfl,hsg⟩:=hv;obtain⟨i,iN,ei⟩:=Qy hsg n0;have ZH:i.natAbs<10 ^ 40:=by rw[iN];exact n40
   obtain⟨_,wi,_,li⟩:=zE ZH;have K5:Kept b H H5:=(((O1.kept.trans O2.kept).trans K3).trans u4.kept).trans O5.kept;obtain⟨bx,by_,bz,eb,_⟩:=id B;have E6:mq A H5:=⟨tabs.ne,tabs.p.JO K5 eb,tabs.i.JO K5 eb⟩;have ls:=jaa sg (bO (N:Int));rw[ei] at ls;have l1:=jaa ("set a " :Str) sg;have l2:=jaa ("more b a " :Str) sg;have l3:("set a " :Str).length=6:=by decide+kernel
   have l4:("more b a " :Str).length=9:=by decide+kernel
   refine⟨_,Z,_,_,Z,Z,by lia,_,Z,_,_,Z,Z,by lia,_,Z,_,_,Z,Z,by lia,_,Z,_,_,Z,Z,by lia,fT,λll Zv=> ?_⟩;rw[CO,CO,ei,show[V.str ("set a " ++bO i),V.str ("more b a " ++bO i)]=(qv (lQ i)).map V.str by rw[VW];rfl];have u6:=ai.upd (o:= .lst ((qv (lQ i)).map V.str)) Zv;have e6:upd H5 ll (.lst ((qv (lQ i)).map V.str)) ll=some (.lst ((qv (lQ i)).map V.str)):=aa;have Qr:=E6.same u6;generalize upd H5 ll (.lst ((qv (lQ i)).map V.str))=H6 at u6 e6 Qr ⊢;obtain⟨g1,g2,g3,g4⟩:=jao i;have gok:=abx ZH;obtain⟨lk1,Y2,lk3⟩:=BA gok (by lia)
   have t4:(txt (lQ i)).length<=4000:=by
    have h1:=J' "\n" (qv (lQ i));have h2:=M' (B:=600) (qv (lQ i)) λy hy=>(Y2 y hy).2.1;have h3:(qv (lQ i)).length=2:=by rw[VW];rfl
    have h4:("\n" :Str).length=1:=by decide+kernel
    rw[h3,h4] at h1;rw[h3] at h2;show(Str.join "\n" (qv (lQ i))).length<=_
    lia
   refine⟨Z,_,Z,_,ll,qv (lQ i),Z,Z,e6,lk3,lQ i,by rw[kr];rfl,t4,gok,by lia,by lia,Qr.i,?_⟩;unfold z_;rw[g3];intro p tb HH H7 hp I_ RH k7 tb7 pr7;obtain⟨psI,eI,_⟩:=id Qr.i;have af9:mq A H7:=⟨tabs.ne,Qr.p.kept k7 tabs.ne eI,tb7⟩;obtain⟨dx,ho⟩:=id pr7.ob;have e7:H7 ll=_:=k7 _ _ (b8 e6 eI (λz=>nomatch z)) e6;have K7:NP A b H H7:=λc o h1 _ h3 e=>k7 _ _ h3 (u6 _ _ (K5 _ _ h1 e));refine⟨_,Z,_,Z,sg,bO (N:Int),Z,Z,by lia,?_⟩;rw[ei];refine⟨bO i,i,Z,wi,by lia,?_⟩;refine⟨_,Z,p,dx,_,Z,ho,Z,p,tb,HH,lQ i,Z,pr7,_,Z,sY,λt1 o_=>⟨_,Z,Ht,λt2 vR=>⟨fT,λt3 pf=> ?_⟩⟩⟩;have v1:=ai.upd (o:= .tup [V.str "set",.str "a",.int i]) o_;have v2:=ai.upd (o:= .tup [V.str "more",.str "b",.str "a",.int i]) vR;have v3:=ai.upd (o:= .tup [V.ref t1,.ref t2]) pf
   have dB:∀{Hx:Hp} {tx lx p' :Y'},m_ A.aD Hx p' tx lx (lQ i)->Dat Hx (.ref tx) (.tuple [.tuple [.str "set",.str "a",.int i],.tuple [.str "more",.str "b",.str "a",.int i]]):=λpr=>by
    have:=pr.body.dat;rw[g4] at this;exact this
   have dW:Dat (upd (upd (upd H7 t1 (.tup [V.str "set",.str "a",.int i])) t2 (.tup [V.str "more",.str "b",.str "a",.int i])) t3 (.tup [V.ref t1,.ref t2])) (.ref t3) (.tuple [.tuple [.str "set",.str "a",.int i],.tuple [.str "more",.str "b",.str "a",.int i]]):= .tup aa (.cons (.tup (v3 _ _ (v2 _ _ aa)) (.cons (.str _) (.cons (.str _) (.cons (.int _) .nil)))) (.cons (.tup (v3 _ _ aa) (.cons (.str _) (.cons (.str _) (.cons (.str _) (.cons (.int _) .nil))))) .nil));have V3:=(v1.trans v2).trans v3;have pr8:=pr7.same V3;have ho8:=V3 _ _ ho;have e8:=V3 _ _ e7;have Ia:=af9.same V3;have K8:NP A b H _:=λc o h1 h2 h3 e=>V3 _ _ (K7 c o h1 h2 h3 e);generalize upd (upd (upd H7 t1 (.tup [V.str "set",.str "a",.int i])) t2 (.tup [V.str "more",.str "b",.str "a",.int i])) t3 (.tup [V.ref t1,.ref t2])=H8 at dW pr8 ho8 e8 Ia K8 ⊢
   have LD:Ly 3 (.tuple [.tuple [.str "set",.str "a",.int i],.tuple [.str "more",.str "b",.str "a",.int i]]):=Ly.tup (k:=2) λd hd=>by
    simp only[aN,cF,cH] at hd;rcases hd with rfl|rfl
    .refine Ly.tup (k:=1) λd hd=> ?_;simp only[aN,cF,cH] at hd;rcases hd with rfl|rfl|rfl
     .exact nO (by decide+kernel)
     .exact nO (by decide+kernel)
     .exact Ft _
    .refine Ly.tup (k:=1) λd hd=> ?_;simp only[aN,cF,cH] at hd;rcases hd with rfl|rfl|rfl|rfl
     .exact nO (by decide+kernel)
     .exact nO (by decide+kernel)
     .exact nO (by decide+kernel)
     .exact Ft _
   refine⟨_,_,dB pr8,dW,LD.shaped (by decide),LD.shaped (by decide),LD.mix,?_⟩;rw[U'];refine⟨_,Z,cf ⟨_,Z,p,tb,HH,lQ i,Z,pr8,gok,by lia,by lia,λH9 s9=>⟨Z,_,Z,_,ll,qv (lQ i),Z,Z,s9 _ _ e8,lk3,?_⟩⟩⟩;rw[kr,show Str.join "\n" (qv (lQ i))=txt (lQ i) from Z];have pr9:=pr8.same s9;have aa2:=Ia.same s9;refine⟨Z,_,Z,Wp ⟨_,Z,p,dx,_,Z,s9 _ _ ho8,Z,p,tb,HH,lQ i,Z,pr9,λx dx2 hx BX o8=> ?_⟩⟩;show jV A qI [V.ref x,V.ref tb] _ _ _;refine KL (t:=true) (s:=lQ i) (by have:=pr9.body.dat;rw[acQ] at this;exact this) gok (by lia) (by lia) g3 aa2 hx BX o8 λtb2 ls2 Mu Wm k10 ZY=>⟨Z,?_⟩;obtain⟨dx3,aek⟩:=id Wm.ob;have WC:=k10.pr aa2 pr9;obtain⟨dx4,aew⟩:=id WC.ob;refine⟨x,dx3,_,Z,aek,Z,x,tb2,ls2,lQ i,Z,Wm,_,Z,p,dx4,_,Z,aew,Z,p,tb,HH,lQ i,Z,WC,_,_,dB Wm,dB WC,LD.shaped (by decide),LD.shaped (by decide),LD.mix,?_⟩;rw[U'];exact q Mu (λc o h1 h2 h3 e=>k10 _ _ h2 h3 (s9 _ _ (K8 c o h1 h2 h3 e))) ZY
noncomputable def uc:Ds:= .cons (.mk "either" [] (.cons true .nil (.cons true .nil .nil))) (.cons (.mk "frame" [.str "f"] (.cons false .nil .nil)) (.cons (.mk "turns" [.str "end",.int 3,.int 0] (.cons true .nil .nil)) .nil))
theorem XX:sL uc=[.tuple [.str "either",.tuple [],.tuple []],.tuple [.str "frame",.str "f",.list []],.tuple [.str "turns",.str "end",.int 3,.int 0,.tuple []]]:=by
 unfold uc;simp[sL,dD,bL,iR]
theorem Qi:fR uc/\dq uc=1/\dF uc=3:=by
 refine⟨?_,?_,?_⟩
 .unfold uc;simp only[fR,ia,i3,and_true,true_and];refine⟨⟨[],?_,.nil⟩,⟨["label"],?_,.cons (.label "f" (by decide+kernel) (by decide+kernel)) .nil⟩,⟨["label","many","times"],?_,.cons (.label "end" (by decide+kernel) (by decide+kernel)) (.cons (.num "many" 1 3 3 (by decide+kernel) (by decide) (by decide)) (.cons (.num "times" 0 4 0 (by decide+kernel) (by decide) (by decide)) .nil))⟩⟩
  .show(("either" :Str),([]:aj)++List.replicate 2 ("body" :Str))∈bH;decide+kernel
  .show(("frame" :Str),(["label"]:aj)++List.replicate 1 ("body" :Str))∈bH;decide+kernel
  .show(("turns" :Str),(["label","many","times"]:aj)++List.replicate 1 ("body" :Str))∈bH;decide+kernel
 .unfold uc;simp[dq,mB,nk]
 .unfold uc;simp[dF,lG,l6]
def aad(A:pk)(K:Frag):Sp:=λvs H Q _=>∃(a:Y') (ns:List Int),vs=[.ref a]/\bq K H a (ns.map V.int)/\ns.length<=63/\mq A H/\∀H',Q (.bl true) H'
theorem YF(T:Txt K mg A)(Fm:pP P w K A fm)(df:U8 A):aQ P w K mg base cY 24 A.Vi A.Kf ["_law_script"] (aad A K):=by
 have og:aQ P w K mg base cY 23 A.iK A.gh ["_law_body_here"] (Kr A):=aQ.N9 (λvs H Q E ⟨v,t,s,e,_⟩=>by rw[e];rfl) λtZ=>Cz T Fm df tZ;have tE:aQ P w K mg base cY 21 A.gW A.gU ["_law_box_here"] (J8 A):=aQ.N9 (λvs H Q E ⟨b,k,e,_⟩=>by rw[e];rfl) λtZ=>rM T Fm tZ;refine T.TK.F.okM Jp (λvs H Q E h=> ?_) (λcC Ar outer s0 H vs Q E hr h=> ?_)
 .obtain⟨a,ns,rfl,_⟩:=h;rfl
 .obtain⟨a,ns,rfl,hS,hl,tabs,q⟩:=h
  have hSx:∀H',gv A H H'->bq K H' a (ns.map V.int):=λH' k=>by
   obtain⟨_,⟨ps1,e1,_⟩,⟨ps2,e2,_⟩⟩:=id tabs;rcases hS with(h|⟨o,h⟩)|h
   .exact .inl (.inl (k.lst tabs h))
   .exact .inl (.inr ⟨o,k _ _ (b8 h e1 (λz=>nomatch z)) (b8 h e2 (λz=>nomatch z)) h⟩)
   .exact .inr h
  refine⟨_,(eW ⟨(yI (h_ Z T.lL (aF (iY (j9 Z) T.yd Boot.«max» (ag ae (aF (iY (L4 Z) T.abt Boot.«min» (ag ae (aF (iY aV T.dY Boot.«len» (aF (pv 0))))))))))) (ie 1 Jp.nd) (af (eL 2 Jp.nd (cv (FP T) hr T.zY aA (aF (cv (Ey T) hr T.xJ aA (ag (pv 0) (aF (pv 1))))))) (ah (a_ (PW.pt (WP (lj (gA (cv og hr T.jO aA (aF (cv (Cg T) hr T.uZ aA (aF (pv 2))))))) (WF (lj (gA (cv tE hr T.kN aA (aF (pv 2)))))))) (ah (aB oM)) aK))))⟩ (vX (Rh (Qj (acu og hr T.jO aA (λ_ _=>rfl) (cI (λ_ _=>rfl) (zJ gL) gL)) (RO (acu og hr T.jO aA (λ_ _=>rfl) (cI (λ_ _=>rfl) (zJ (cI (λ_ _=>rfl) (qO (cI (λ_ _=>rfl) ⟨ax⟩ (cI (λ_ _=>rfl) (qO gL) (cI (λ_ _=>rfl) (qO gL) gL)))) (cI (λ_ _=>rfl) (qO (cI (λ_ _=>rfl) ⟨ax⟩ (cI (λ_ _=>rfl) ⟨ax⟩ (cI (λ_ _=>rfl) (zJ gL) gL)))) (cI (λ_ _=>rfl) (qO (cI (λ_ _=>rfl) ⟨ax⟩ (cI (λ_ _=>rfl) ⟨ax⟩ (cI (λ_ _=>rfl) ⟨ae⟩ (cI (λ_ _=>rfl) ⟨ae⟩ (cI (λ_ _=>rfl) (qO gL) gL)))))) gL)))) gL))))))),?_⟩;refine⟨_,Z,a,_,Z,.inl hS,6,_,Z,2,_,Z,?_⟩;generalize hn:(if(if((List.map V.int ns).length:Int)<6 then((List.map V.int ns).length:Int) else 6)>2 then(if((List.map V.int ns).length:Int)<6 then((List.map V.int ns).length:Int) else 6) else 2)=n
  have nn:0<=n/\n<=6:=by
   rw[<-hn]
   split<;>split<;>lia
  refine⟨n,Z,by lia,by lia,?_⟩;refine we (λi σ H' =>∃(x1 x2:Option V),σ=[some (.ref a),x1,x2]/\gv A H H'/\mq A H') ⟨_,_,Z,(ai.refl H).Dm,tabs⟩ ?_ ?_
  .rintro i σ Hs hi ⟨x1,x2,rfl,kHs,tabS⟩
   refine⟨_,Z,_,Z,a,ns,_,Z,hSx _ kHs,by lia,by lia,λc=>⟨c,Z,λb H1 hb B s1=>⟨_,Z,b,Z,B,λl s H2 lK hd ok dp mn ⟨k',B2,Q2⟩ K2=> ?_⟩⟩⟩;obtain⟨bx,by_,bz,eb,_⟩:=id B;have aco:=tabS.same s1;have yU:mq A H2:=⟨tabs.ne,aco.p.JO K2 eb,aco.i.JO K2 eb⟩;refine⟨.ref l,false,s,Z,hd,ok,by lia,by lia,yU,λH3 k3 Mf=>⟨_,Z,cf ?_⟩⟩;obtain⟨cx,cy,cz,ec,er⟩:=B2;refine⟨_,Z,b,k',Z,⟨cx,cy,cz,k3.lst yU ec,er⟩,Q2,Mf,λH4 k4 Lh=>⟨_,Z,cf ⟨_,_,Z,λc' o h1 h2 e=> ?_,Lh⟩⟩⟩;have e' :=kHs _ _ h1 h2 e;have nb:=aw e' hb;exact k4 _ _ nb h1 h2 (k3 _ _ h1 h2 (K2 _ _ nb (s1 _ _ e')))
  .rintro σ Hs ⟨x1,x2,rfl,kHs,tabS⟩
   have n0:dF .nil=0:=by rw[dF]
   have d0:dq .nil=0:=by rw[dq]
   have okn:fR .nil:=by rw[fR];exact True.intro
   refine⟨jy,λe4 he4=> ?_⟩;refine⟨.ref e4,false,.nil,Z,.lst aa (by rw[sL];exact .nil),okn,by lia,by lia,tabS.same (ai.upd he4),λH5 k5 E6=>⟨_,Z,cD ?_⟩⟩;obtain⟨l1,l2,l3⟩:=Qi;refine⟨jy,λt1 o_=> ?_⟩;have v1:=ai.upd (o:= .tup []) o_;have et1:upd H5 t1 (.tup []) t1=some (.tup []):=aa;generalize upd H5 t1 (.tup [])=G1 at v1 et1 ⊢;refine⟨jy,λt2 vR=> ?_⟩;have v2:=ai.upd (o:= .tup []) vR;have Td:upd G1 t2 (.tup []) t2=some (.tup []):=aa;generalize upd G1 t2 (.tup [])=G2 at v2 Td ⊢;refine⟨sY,λt3 pf=> ?_⟩;have v3:=ai.upd (o:= .tup [V.str "either",.ref t1,.ref t2]) pf;have Vq:upd G2 t3 (.tup [V.str "either",.ref t1,.ref t2]) t3=some (.tup [V.str "either",.ref t1,.ref t2]):=aa;generalize upd G2 t3 (.tup [V.str "either",.ref t1,.ref t2])=G3 at v3 Vq ⊢;refine⟨jy,λt4 PR=> ?_⟩;have v4:=ai.upd (o:= .lst []) PR;have et4:upd G3 t4 (.lst []) t4=some (.lst []):=aa;generalize upd G3 t4 (.lst [])=G4 at v4 et4 ⊢;refine⟨sY,λt5 Xw=> ?_⟩;have v5:=ai.upd (o:= .tup [V.str "frame",.str "f",.ref t4]) Xw;have et5:upd G4 t5 (.tup [V.str "frame",.str "f",.ref t4]) t5=some (.tup [V.str "frame",.str "f",.ref t4]):=aa;generalize upd G4 t5 (.tup [V.str "frame",.str "f",.ref t4])=G5 at v5 et5 ⊢;refine⟨jy,λt6 Q_=> ?_⟩;have v6:=ai.upd (o:= .tup []) Q_;have et6:upd G5 t6 (.tup []) t6=some (.tup []):=aa;generalize upd G5 t6 (.tup [])=G6 at v6 et6 ⊢;refine⟨aak,λt7 ht7=> ?_⟩;have v7:=ai.upd (o:= .tup [V.str "turns",.str "end",.int 3,.int 0,.ref t6]) ht7;have et7:upd G6 t7 (.tup [V.str "turns",.str "end",.int 3,.int 0,.ref t6]) t7=some (.tup [V.str "turns",.str "end",.int 3,.int 0,.ref t6]):=aa;generalize upd G6 t7 (.tup [V.str "turns",.str "end",.int 3,.int 0,.ref t6])=G7 at v7 et7 ⊢;refine⟨sY,λt8 ht8=> ?_⟩;have v8:=ai.upd (o:= .lst [V.ref t3,.ref t5,.ref t7]) ht8;have et8:upd G7 t8 (.lst [V.ref t3,.ref t5,.ref t7]) t8=some (.lst [V.ref t3,.ref t5,.ref t7]):=aa;generalize upd G7 t8 (.lst [V.ref t3,.ref t5,.ref t7])=G8 at v8 et8 ⊢;have w78:=v7.trans v8;have w58:=(v5.trans v6).trans w78;have w38:=(v3.trans v4).trans w58;refine⟨.ref t8,false,uc,Z,.lst et8 ?_,l1,by lia,by lia,E6.same ((v1.trans v2).trans w38),λH6 _ _=>q H6⟩;rw[XX];exact .cons (.tup ((v4.trans w58) _ _ Vq) (.cons (.str _) (.cons (.tup ((v2.trans w38) _ _ et1) .nil) (.cons (.tup (w38 _ _ Td) .nil) .nil)))) (.cons (.tup ((v6.trans w78) _ _ et5) (.cons (.str _) (.cons (.str _) (.cons (.lst (w58 _ _ et4) .nil) .nil)))) (.cons (.tup (v8 _ _ et7) (.cons (.str _) (.cons (.str _) (.cons (.int _) (.cons (.int _) (.cons (.tup (w78 _ _ et6) .nil) .nil)))))) .nil))
theorem Nv{K:Frag}{c P:Y'}{od:Option Y'}{sl:Array (aM)}{v0 v1 v2 v3 v4 v5 v6 v8 Rj v13 v14 v15 v16 v17:W'}{fl tx:Int}{tg tt tf:Tok}{b:Bool}{file:Str}
 (l:K.lookup c=some ⟨.type "code",od,.fields #[v0,v1,v2,v3,v4,v5,v6,.int fl tg,v8,.bool b,.int tx tt,.ref P,Rj,v13,v14,v15,v16,v17,.str file tf],sl⟩) (ne:c≠P):AB K (.ref c) P:=
 ⟨c,_,_,file,tf,fl,tg,b,tx,tt,Z,l,Z,Z,Z,Z,Z,Z,Z,Z,ne⟩
theorem Yv{K:Frag}{h:aam}{mg:Str->aM}{bm:Y'}{sl:Array (aM)}(X:K.In h)(G:h.Ns mainGlobals mg)(a:PySem.W.nsIn K mainGlobals "__builtins__"=some (some (.ref bm)))(l:K.lookup bm=some ⟨.type "module",some builtinsNs,.plain,sl⟩)(n1:bm≠builtinsNs)(n2:bm≠mainGlobals):QR K mg:=
 ⟨bm,_,PySem.W.mg_of X G a,n1,n2,l,Z,Z,Z⟩
theorem ag4{K:Frag}{fd:aap}{ps:aj}{T:Y'}{o:Obj}{items:Array W'}{n:Nat}{k:W'->W'->W'->Option (Array W')->Sem (List (Str×W'))}(ho:K.lookup T=some o)(hd:fd.defaults= .ref T)(hs:o.data= .seq items n)
 (h1:∀a b c,bindArgs fd ⟨[a,b,c],[]⟩=seqItems? fd.defaults>>= k a b c) (h2:∀a b c,k a b c (some items)=pure (ps.zip [a,b,c])) (hp:ps.length=3:=by rfl):Binds K fd ps []:=by
 intro s us X hl;rw[bZ,hp] at hl;rw[bZ];exact bn3 (P:=λus=>BindsTo s fd ⟨us,[]⟩ (ps.zip us)) (λa b c=>binds_K X hd ho hs (h1 a b c) (h2 a b c)) us hl
theorem agK{K:Frag}{fd:aap}{ps:aj}{T:Y'}{o:Obj}{u:W'}{n:Nat}{k:W'->W'->Option (Array W')->Sem (List (Str×W'))}(ho:K.lookup T=some o)(hd:fd.defaults= .ref T)(hs:o.data= .seq #[u] n)
 (h1:∀a b,bindArgs fd ⟨[a,b],[]⟩=seqItems? fd.defaults>>= k a b) (h2:∀a b,k a b (some #[u])=pure (ps.zip [a,b,u])) (hp:ps.length=3:=by rfl):Binds K fd ps [u]:=by
 intro s us X hl;rw[aT,hp] at hl;have hl:us.length=2:=zw hl;exact bn2 (P:=λus=>BindsTo s fd ⟨us,[]⟩ (ps.zip (us++[u]))) (λa b=>binds_K X hd ho hs (h1 a b) (h2 a b)) us hl
noncomputable abbrev aec(P:Params)(l:List (Str×Tok×Y'))(ep:Nat):Obj:={cls:= .type "dict",data:= .dict (l.map λp=>(⟨PyData.keyHash P p.1,.str p.1 p.2.1,.ref p.2.2⟩:DictEntry)).toArray ep}
theorem KC:∀l:List (Str×Tok×Y'),KV (l.map λp=>((Sum.inr p.1:wS),V.ref p.2.2)) (l.map λp=>((Sum.inr p.1:wS),Value.ref p.2.2))
 |[]=> .nil
 |p::r=> .cons ⟨Z,Z⟩ (KC r)
theorem Bx(x:Str)(t:Tok):Aj (.inr x) (.str x t)=true:=by
 show Value.isStrOf x (.str x t)=true;simp[Value.isStrOf]
theorem BM{P:aan}{w:aai}:∀l:List (Str×Tok×Y'),Pairs (c5 P w) (l.map λp=>(⟨PyData.keyHash w.params p.1,.str p.1 p.2.1,.ref p.2.2⟩:DictEntry)) (l.map λp=>((Sum.inr p.1:wS),Value.ref p.2.2))
 |[]=> .nil
 |p::r=> .cons (Bx p.1 p.2.1) Z (BM r)
theorem Ga{P:aan}{w:aai}{K:Frag}{d:Y'}{l:List (Str×Tok×Y')}{ep:Nat}(lk:K.lookup d=some (aec w.params l ep))(nd:(l.map λp=>(Sum.inr p.1:wS)).Nodup)(ns:(d==sysModules)=false):AZ P w K d (l.map λp=>((Sum.inr p.1:wS),V.ref p.2.2)):=by
 refine⟨_,l.map λp=>((Sum.inr p.1:wS),Value.ref p.2.2),lk,ns,KC l,λh e=>⟨_,_,ep,e,⟨Z,Z,Z⟩,Z,λx hx=> ?_,?_,?_⟩⟩
 .rw[List.mem_toArray] at hx;obtain⟨p,_,rfl⟩:=fZ.mp hx;exact⟨.inr p.1,Bx p.1 p.2.1,Z⟩
 .rw[Eg];exact BM l
 .rw[ik];exact nd
theorem OZ{K:Frag}{t:Y'}{n:Nat}(l:List (Str×Tok))(lk:K.lookup t=some {cls:= .type "tuple",data:= .seq (l.map λp=>Value.str p.1 p.2).toArray n})(h:l.length<=10):∀H,bu K H t (l.map λp=>V.str p.1):=λH=>by
 refine .inr ⟨_,_,n,lk,Z,Z,?_,?_⟩
 .rw[bC,aG];exact aL h (by decide)
 .rw[Eg];clear lk h
  induction l with
  |nil=>exact .nil
  |cons p r ih=>exact .cons ⟨_,Z⟩ ih
theorem uo{K:Frag}{t:Y'}{n:Nat}{i j:Int}{ti tj:Tok}(lk:K.lookup t=some {cls:= .type "tuple",data:= .seq #[.int i ti,.int j tj] n}):∀H,bu K H t [.int i,.int j]:=λH=> .inr ⟨_,_,n,lk,Z,Z,fT,.cons ⟨_,Z⟩ (.cons ⟨_,Z⟩ .nil)⟩
noncomputable def lF:List (Str×Tok×Y'):=[("make",496,245),("put",500,246),("get",504,247),("set",508,248),("copy",511,249),("more",514,250),("tell",518,251),("same",520,252),("frame",523,253),("turns",526,254),("either",531,255)]
noncomputable def lB:List (Str×Tok×Y'):=[("size",546,257),("cell",549,258),("many",552,259),("times",555,260)]
noncomputable def frm:Frm:=⟨lF.map λp=>((Sum.inr p.1:wS),V.ref p.2.2),lB.map λp=>((Sum.inr p.1:wS),V.ref p.2.2)⟩
theorem JR(w:aai):∀p∈bH,∃(t:Y') (l:List (Str×Tok)),i4 frm.kF (.inr p.1)=some (.ref t)/\l.map (λp=>V.str p.1)=p.2.map V.str/\l.length<=10/\(tI w.params).lookup t=some {cls:= .type "tuple",data:= .seq (l.map λp=>Value.str p.1 p.2).toArray 0}:=by
 intro p hp;simp only[bH,aN,cF,cH] at hp;rcases hp with rfl|rfl|rfl|rfl|rfl|rfl|rfl|rfl|rfl|rfl|rfl
 .exact⟨245,[("name",497),("size",498),("mark",499)],by with_unfolding_all rfl,Z,by decide,by kernel_rfl⟩
 .exact⟨246,[("name",501),("cell",502),("name",503)],by with_unfolding_all rfl,Z,by decide,by kernel_rfl⟩
 .exact⟨247,[("name",505),("name",506),("cell",507)],by with_unfolding_all rfl,Z,by decide,by kernel_rfl⟩
 .exact⟨248,[("name",509),("value",510)],by with_unfolding_all rfl,Z,by decide,by kernel_rfl⟩
 .exact⟨249,[("name",512),("name",513)],by with_unfolding_all rfl,Z,by decide,by kernel_rfl⟩
 .exact⟨250,[("name",515),("name",516),("number",517)],by with_unfolding_all rfl,Z,by decide,by kernel_rfl⟩
 .exact⟨251,[("name",519)],by with_unfolding_all rfl,Z,by decide,by kernel_rfl⟩
 .exact⟨252,[("name",521),("name",522)],by with_unfolding_all rfl,Z,by decide,by kernel_rfl⟩
 .exact⟨253,[("label",524),("body",525)],by with_unfolding_all rfl,Z,by decide,by kernel_rfl⟩
 .exact⟨254,[("label",527),("many",528),("times",529),("body",530)],by with_unfolding_all rfl,Z,by decide,by kernel_rfl⟩
 .exact⟨255,[("body",532),("body",533)],by with_unfolding_all rfl,Z,by decide,by kernel_rfl⟩
theorem Ys(P:aan)(w:aai){A:pk}(e1:A.cT=244)(e2:A.iA=256)(e3:FH.data= .func A.dX):pP P w (tI w.params) A frm:=by
 refine⟨?_,?_,?_,?_,?_,by with_unfolding_all rfl,by with_unfolding_all rfl,?_⟩
 .rw[e1];exact Ga (l:=lF) (ep:=11) (by kernel_rfl) (by decide+kernel) (by decide)
 .rw[e2];exact Ga (l:=lB) (ep:=4) (by kernel_rfl) (by decide+kernel) (by decide)
 .intro p hp;obtain⟨t,l,h1,h2,h3,h4⟩:=JR w p hp;exact⟨t,h1,λH=>h2▸OZ l h4 h3 H⟩
 .have e4:A.dX=(match FH.data with| .func fd=>fd|_=>A.dX):=by rw[e3]
  rw[e4];exact⟨.int 0 626,⟨_,Z⟩,agK (T:=313) (o:=Oy) (n:=0) (by kernel_rfl) Z Z (λ_ _=>rfl) (λ_ _=>rfl)⟩
 .intro p hp;simp only[CD,aN,cF,cH] at hp;rcases hp with rfl|rfl|rfl|rfl
  .exact⟨257,by with_unfolding_all rfl,uo (n:=0) (ti:=547) (tj:=548) (by kernel_rfl)⟩
  .exact⟨258,by with_unfolding_all rfl,uo (n:=0) (ti:=550) (tj:=551) (by kernel_rfl)⟩
  .exact⟨259,by with_unfolding_all rfl,uo (n:=0) (ti:=553) (tj:=554) (by kernel_rfl)⟩
  .exact⟨260,by with_unfolding_all rfl,uo (n:=0) (ti:=556) (tj:=557) (by kernel_rfl)⟩
 .intro p hp t ht;obtain⟨t',l,h1,h2,h3,h4⟩:=JR w p hp;rw[h1] at ht;cases ht;exact⟨_,h4,Z,Z⟩
structure Q0(P:aan)(w:aai)(K:Frag)(A:pk):Prop where
 fm:∃fm,pP P w K A fm
 df:U8 A
 p1:A.dy=606
 p2:A.az=363
theorem RD{P:aan}(w:aai)(A:pk)(e1:A.cT=244)(e2:A.iA=256)(e3:FH.data= .func A.dX)(df:U8 A)(p1:A.dy=606)(p2:A.az=363):Q0 P w (tI w.params) A:=⟨⟨_,Ys P w e1 e2 e3⟩,df,p1,p2⟩
noncomputable abbrev Ij:List (Y'×Array W'):=[(606,#[]),(363,#[])]
theorem RA{w:aai}{h:aam}(X:(EU w.params).In h):(tI w.params).In h/\∀Pt ps,(Pt,ps)∈Ij->h.get? Pt=some (tabObj ps)/\(tI w.params).lookup Pt=none/\∃c,CodeHd h c Pt:=by
 have l1:(tI w.params).lookup 363=none:=by kernel_rfl
 have l2:(tI w.params).lookup 606=none:=by kernel_rfl
 have tZ:(tI w.params).In h:=λa o e=>by
  refine X a o ?_;show List.lookup a ((363,_)::(606,_)::tI w.params)=some o;have n1:a≠363:=λz=>by rw[z,l1] at e;cases e
  have n2:a≠606:=λz=>by rw[z,l2] at e;cases e
  rw[ip,beq_false_of_ne n1,ip,beq_false_of_ne n2];exact e
 refine⟨tZ,λPt ps hm=> ?_⟩;simp only[aN,cF,cH,Prod.mk.injEq] at hm;rcases hm with⟨rfl,rfl⟩|⟨rfl,rfl⟩
 .exact⟨X _ _ (by kernel_rfl),l2,(Nv (K:=tI w.params) (c:=610) (l:=show(tI w.params).lookup 610=some Pd by kernel_rfl) (by decide)).hd tZ⟩
 .exact⟨X _ _ (by kernel_rfl),l1,(Nv (K:=tI w.params) (c:=367) (l:=show(tI w.params).lookup 367=some M4 by kernel_rfl) (by decide)).hd tZ⟩
structure aaB(p1 p2:Y')(H:Hp):Prop where
 ne:p1≠p2
 p:Tab H p1 lpP qP
 i:Tab H p2 P0 qI
def Jv(K:Frag):Sp:=λvs H Q _=>∃(a:Y') (ns:List Int),vs=[.ref a]/\bq K H a (ns.map V.int)/\ns.length<=63/\aaB 606 363 H/\∀H',Q (.bl true) H'
theorem walk{l:PySem.W.OpenLaw}{q:aan}{loose:aj}{XP:(Str->aM)->aam->Prop}{YP:aai->aam->Prop}{d:DefRec}{K:Params->Frag}(hn:l.most=some 63)(hdf:d.params.defaults=[])
 (hY:∀(w:aai) (h:aam),YP w h->(K w.params).In h/\∀Pt ps,(Pt,ps)∈Ij->h.get? Pt=some (tabObj ps)/\(K w.params).lookup Pt=none/\∃c,CodeHd h c Pt)
 (F:∀(w:aai) (mg:Str->aM) (fa:Y') (h:aam),(K w.params).In h->h.Ns mainGlobals mg->mg d.name=some (.ref fa)->
  ∃fd:aap,(∀(s:X') (u:W'),BindsTo s fd ⟨[u],[]⟩ [("_law_script",u)])/\∀base:aam,(K w.params).In base->base.Ns mainGlobals mg->aQ l.prog w (K w.params) mg base cY 24 fa fd ["_law_script"] (Jv (K w.params))):
 PySem.W.WalkO q loose XP YP l.row.toRowW d [] (λf vs=>PySem.call f vs):=
 L2.Pr (n:=63) (k:=24) (x:="_law_script") (CX:=λ_=>cY) (sp:=λw=>Jv (K w.params)) (tabs:=Ij) hn (by decide) hdf ⟨Z,by decide,by decide,Z⟩ hY (λPt ps IT h1 h2=>by
  simp only[aN,cF,cH,Prod.mk.injEq] at h1 h2
  rcases h1 with⟨_,rfl⟩|⟨_,rfl⟩<;>rcases h2 with⟨_,rfl⟩|⟨_,rfl⟩<;>rfl) F (λ_ H a ns hl hO hS=>⟨a,ns,Z,hS,hl,⟨by decide,⟨#[],hO.at_ _ _ (by simp),by first|exact True.intro|constructor|decide,.inl rfl⟩,⟨#[],hO.at_ _ _ (by simp),by first|exact True.intro|constructor|decide,.inl rfl⟩⟩,λ_=>rfl⟩) λ_ _ _ _ _ z=>z
theorem Wu{l:PySem.W.OpenLaw}{w:aai}{K:Frag}{h:aam}{mg:Str->aM}{fa:Y'}(X:K.In h)(G:h.Ns mainGlobals mg)(hfa:mg "law"=some (.ref fa))(hT:∃A:pk,Txt K mg A/\Q0 l.prog w K A):
 ∃fd:aap,(∀(s:X') (u:W'),BindsTo s fd ⟨[u],[]⟩ [("_law_script",u)])/\∀base:aam,K.In base->base.Ns mainGlobals mg->aQ l.prog w K mg base cY 24 fa fd ["_law_script"] (Jv K):=by
 obtain⟨A,T,S⟩:=hT;obtain⟨fm,Fm⟩:=S.fm;have e:=hfa.symm.trans T.TK.m;cases e;refine⟨A.Kf,T.abh,λbase _ _=>(YF T Fm S.df).imp λvs H Q E ⟨a,ns,h1,h2,h3,h4,h5⟩=>⟨a,ns,h1,h2,h3,⟨?_,?_,?_⟩,h5⟩⟩
 .rw[S.p1,S.p2];exact h4.ne
 .rw[S.p1];exact h4.p
 .rw[S.p2];exact h4.i
section
open PySem.W
variable{K:Frag}{h:aam}{mg:Str->aM}{x q:Str}{st:Stmt}{ps:aj}{f C:Y'}{oc kV dc pm cd ct:W'}{od an:Option Y'}{sl:Array (aM)}
noncomputable abbrev fS(n q:Str)(s:Stmt)(kV dc pm:W')(an:Option Y')(cd ct:W'):aap:=fnOf n q (gN s) (dr s) (ao s) .none kV dc pm an cd ct
theorem aaL(X:K.In h)(G:h.Ns mainGlobals mg)(a:nsIn K mainGlobals x=some (some (.ref f)))(l:K.lookup f=some ⟨oc,od,.func (fS x x st kV dc pm an cd ct),sl⟩)(c:codeIn K cd x=true)(k:keepIn K (.ref f)=true)
 (b:∀kV dc pm an cd ct (us:aE),us.length=ps.length->bindArgs (fS x x st kV dc pm an cd ct) ⟨us,[]⟩=pure (ps.zip us)):FI K mg x st ps f (fS x x st kV dc pm an cd ct):=⟨mg_of X G a,Fs (st:=st) l c k,(Fs (st:=st) l c k).binds b⟩
theorem acA(a:findIn K (.ref C) x=some (some (.ref f)))(i:isFn K (.ref f)=true)(l:K.lookup f=some ⟨oc,od,.func (fS x q st kV dc pm an cd ct),sl⟩)(c:codeIn K cd q=true)(k:keepIn K (.ref f)=true)
 (b:∀kV dc pm an cd ct (us:aE),us.length=ps.length->bindArgs (fS x q st kV dc pm an cd ct) ⟨us,[]⟩=pure (ps.zip us)):MI K C x q st ps f (fS x q st kV dc pm an cd ct):=⟨⟨a,i,k⟩,Fs (st:=st) l c k,(Fs (st:=st) l c k).binds b⟩
theorem abu{nm q' :Str}{N R:Y'}{bs:aE}{sn:aj}{sub:aE}{ab:Bool}{col:Option Bool}{dd:Option Y'}{k0 k1 k2 k3 k5:aM}(X:K.In h)(G:h.Ns mainGlobals mg)(a:nsIn K mainGlobals x=some (some (.ref C)))
 (l:K.lookup C=some (excClassObj nm q' C N bs [.ref R,.type "ValueError",.type "Exception",.type "BaseException",.type "object"] true sn sub ab col dd k0 k1 k2 k3 k5 "ValueError.__new__")) (i:findIn K (.ref C) "__init__"=some (some (.ref f))) (ty:typeIn K (.ref f)=some (.type "function")) (kp:keepIn K (.ref C)=true)
 (sa:findIn K (.ref C) "__setattr__"=some (some (.builtin "object.__setattr__"))) (ga:findIn K (.ref C) "__getattribute__"=some (some (.builtin "BaseException.__getattribute__"))) (hk:findIn K (.ref C) "__getattr__"=some none) (mr:mroIn K C (.type "BaseException")=some true) (hd:hasDictIn K C=true)
 (ca:findIn K (.ref C) "__class__"=some (some (.builtin "object.__class__"))) (gt:specialIn K (.builtin "object.__class__") "__get__"=some (some (.builtin "getset_descriptor.__get__"))) (tk:takesIn K (.builtin "object.__class__")=some true) (mo:mroIn K C (.type "object")=some true) (tt:typeIn K (.ref C)=some (.type "type")) (ve:mroIn K C (.type "ValueError")=some true):XI K mg x C f R:=
 ⟨mg_of X G a,⟨⟨nm,q',N,bs,_,true,sn,sub,ab,col,dd,k0,k1,k2,k3,k5,l,Z,Z,Z,Z⟩,i,ty,kp⟩,⟨⟨nm,q',N,bs,_,sn,sub,ab,col,dd,k0,k1,k2,k3,k5,l,(by intro self;(repeat rw[refuseLoop_ref]);exact L2.uy self),Z⟩,sa⟩,⟨⟨ga,hk,mr,hd⟩,ca,gt,tk,mo⟩,tt,ab9 l,ve⟩
theorem XH{nm q' :Str}{N:Y'}{bs:aE}{sn:aj}{sub:aE}{ab:Bool}{col:Option Bool}{dd:Option Y'}{k0 k1 k2 k3 k5:aM}(X:K.In h)(G:h.Ns mainGlobals mg)(a:nsIn K mainGlobals x=some (some (.ref C)))
 (l:K.lookup C=some (excClassObj nm q' C N bs [.type "ValueError",.type "Exception",.type "BaseException",.type "object"] true sn sub ab col dd k0 k1 k2 k3 k5 "ValueError.__new__")) (i:findIn K (.ref C) "__init__"=some (some (.ref f))) (ty:typeIn K (.ref f)=some (.type "function")) (kp:keepIn K (.ref C)=true)
 (sa:findIn K (.ref C) "__setattr__"=some (some (.builtin "object.__setattr__"))) (ga:findIn K (.ref C) "__getattribute__"=some (some (.builtin "BaseException.__getattribute__"))) (hk:findIn K (.ref C) "__getattr__"=some none) (mr:mroIn K C (.type "BaseException")=some true) (hd:hasDictIn K C=true)
 (ca:findIn K (.ref C) "__class__"=some (some (.builtin "object.__class__"))) (gt:specialIn K (.builtin "object.__class__") "__get__"=some (some (.builtin "getset_descriptor.__get__"))) (tk:takesIn K (.builtin "object.__class__")=some true) (mo:mroIn K C (.type "object")=some true) (tt:typeIn K (.ref C)=some (.type "type")) (ve:mroIn K C (.type "ValueError")=some true):XI K mg x C f C:=
 ⟨mg_of X G a,⟨⟨nm,q',N,bs,_,true,sn,sub,ab,col,dd,k0,k1,k2,k3,k5,l,Z,Z,Z,Z⟩,i,ty,kp⟩,⟨⟨nm,q',N,bs,_,sn,sub,ab,col,dd,k0,k1,k2,k3,k5,l,(by intro self;(repeat rw[refuseLoop_ref]);exact L2.uy self),Z⟩,sa⟩,⟨⟨ga,hk,mr,hd⟩,ca,gt,tk,mo⟩,tt,YD l,ve⟩
theorem aao{oc:W'}{od:Option Y'}{dt:Data}{sl:Array (aM)}(l:K.lookup sysModules=some ⟨oc,od,dt,sl⟩)(e:oc= .type "dict"):∃o,K.lookup sysModules=some o/\o.cls= .type "dict":=⟨_,l,e⟩
theorem aca{n:Int}{t:Tok}(X:K.In h)(G:h.Ns mainGlobals mg)(a:nsIn K mainGlobals x=some (some (.int n t))):∃u,RelV (.int n) u/\mg x=some u:=⟨_,⟨_,Z⟩,mg_of X G a⟩
theorem acJ{n:Str}{t:Tok}(X:K.In h)(G:h.Ns mainGlobals mg)(a:nsIn K mainGlobals x=some (some (.str n t))):∃u,RelV (.str n) u/\mg x=some u:=⟨_,⟨_,Z⟩,mg_of X G a⟩
end
theorem Wy{P:aan}{w:aai}{K:Frag}{mg:Str->aM}{f0 f1 f2 f3 f4 f5 f6 f7 f8 f9 f10 f11 f12 f13 f14 f15 f16 f17 f18 f19 f20 f21 f22 f23 f24 f25 f26 f27 f28 f29 f30 f31 f32 f33 f34 f35 f36 f37 f38 f39 f40 f41 f42 f43 f44 f45 f46 f47 f48 f49 f50 f51 f52 f53 f54 f55 f56 f57 f58 f59 f60 f61 f62 f63 f64 f65 f66 f67 f68 f69 f70 f71 f72 f73 f74 f75 f76 f77 f78:Y'}{d0 d1 d2 d3 d4 d5 d6 d7 d8 d9 d10 d11 d12 d13 d14 d15 d16 d17 d18 d19 d20 d21 d22 d23 d24 d25 d26 d27 d28 d29 d30 d31 d32 d33 d34 d35 d36 d37 d38 d39 d40 d41 d42 d43 d44 d45 d46 d47 d48 d49 d50 d51 d52 d53 d54 d55 d56 d57 d58 d59 d60 d61 d62 d63 d64:aap}(T:Txt K mg ⟨f0,f1,f2,f3,f4,f5,f6,f7,f8,f9,f10,f11,f12,f13,f14,f15,f16,f17,f18,f19,f20,f21,f22,f23,f24,f25,f26,f27,f28,f29,f30,f31,f32,f33,f34,f35,f36,f37,f38,f39,f40,f41,f42,f43,f44,f45,f46,f47,f48,f49,f50,f51,f52,f53,f54,f55,f56,f57,f58,f59,f60,f61,f62,f63,f64,f65,f66,f67,f68,f69,f70,f71,f72,f73,f74,f75,f76,f77,f78,d0,d1,d2,d3,d4,d5,d6,d7,d8,d9,d10,d11,d12,d13,d14,d15,d16,d17,d18,d19,d20,d21,d22,d23,d24,d25,d26,d27,d28,d29,d30,d31,d32,d33,d34,d35,d36,d37,d38,d39,d40,d41,d42,d43,d44,d45,d46,d47,d48,d49,d50,d51,d52,d53,d54,d55,d56,d57,d58,d59,d60,d61,d62,d63,d64⟩)(S:Q0 P w K ⟨f0,f1,f2,f3,f4,f5,f6,f7,f8,f9,f10,f11,f12,f13,f14,f15,f16,f17,f18,f19,f20,f21,f22,f23,f24,f25,f26,f27,f28,f29,f30,f31,f32,f33,f34,f35,f36,f37,f38,f39,f40,f41,f42,f43,f44,f45,f46,f47,f48,f49,f50,f51,f52,f53,f54,f55,f56,f57,f58,f59,f60,f61,f62,f63,f64,f65,f66,f67,f68,f69,f70,f71,f72,f73,f74,f75,f76,f77,f78,d0,d1,d2,d3,d4,d5,d6,d7,d8,d9,d10,d11,d12,d13,d14,d15,d16,d17,d18,d19,d20,d21,d22,d23,d24,d25,d26,d27,d28,d29,d30,d31,d32,d33,d34,d35,d36,d37,d38,d39,d40,d41,d42,d43,d44,d45,d46,d47,d48,d49,d50,d51,d52,d53,d54,d55,d56,d57,d58,d59,d60,d61,d62,d63,d64⟩):∃A:pk,Txt K mg A/\Q0 P w K A:=⟨_,T,S⟩
end My
open PySem PySem.W PyProof.Rows
set_option maxRecDepth 100000 in
set_option maxHeartbeats 0 in
theorem PySem.Challenge.cw_framerooms_k38_texts_both_ways_holds : PySem.Challenge.rw_framerooms_k38_texts_both_ways.Holds := by
 w_on
 refine holds_law My.WW λagW=> ?_;refine holds_open (q:=My.pT) (loose:=My.zP) (Xt:=λs=>xlAt My.pT [] s&&recOk (RowW.records PySem.Challenge.rw_framerooms_k38_texts_both_ways.row.toRowW) s) (XP:=XL My.pT []) (Yf:=My.pN.obs) (Ya:=My.pN.val) (YP:=Hook.says (kHook My.EU My.Xb My.JX)) My.XC My.pN.of My.pN.keeps (λs e=>xl_of s (Bool.and_eq_true_iff.mp e).1) XL.keeps (by rfl) (by rfl) (by rfl) (λs e=>recFacts_of (Bool.and_eq_true_iff.mp e).2) (by rfl) agW (by decide+kernel) ⟨Z,Z,Z,Z,Z,by decide+kernel⟩ ?hw ?hc
 case hw=>w_witness2
 refine My.walk (l:=PySem.Challenge.rw_framerooms_k38_texts_both_ways) (K:=My.tI) Z Z (λw h Y=>My.RA (PySem.W.kIn_of Y)) ?F
 case F=>
  k_fill
  intro w mg fa h KX G Xk;refine' My.Wu KX G Xk (My.Wy ?T ?S)
  case T=>
   constructor
   all_goals try dsimp only
   all_goals first|(apply My.abu KX G<;>k_is)|(apply My.XH KX G<;>k_is)|(apply My.aaL KX G;(iterate 4 k_is);(intro _ _ _ _ _ _;first|exact L2.bn1 λ_=>rfl|exact L2.bn2 λ_ _=>rfl|exact L2.bn3 λ_ _ _=>rfl|exact L2.bn4 λ_ _ _ _=>rfl|exact L2.bn6 λ_ _ _ _ _ _=>rfl))|(apply L2.WN KX G;(iterate 4 k_is);exact My.ag4 (by k_is) rfl rfl (λ_ _ _=>rfl) (λ_ _ _=>rfl))|(apply My.acA;(iterate 5 k_is);(intro _ _ _ _ _ _;first|exact L2.bn1 λ_=>rfl|exact L2.bn2 λ_ _=>rfl|exact L2.bn3 λ_ _ _=>rfl|exact L2.bn4 λ_ _ _ _=>rfl|exact L2.bn6 λ_ _ _ _ _ _=>rfl))|(refine' mg_of KX G ?_;k_is)|(refine' mg_none_of KX G ?_;k_is)|(apply My.aca KX G;k_is)|(apply My.acJ KX G;k_is)|k_is|(show _=_;k_is)|(apply My.Nv;k_is;decide)|(apply My.Yv KX G;k_is;k_is;decide;decide)|(constructor<;>k_is)|(apply My.aao;k_is;rfl)|decide|(intro _ _;exact BindsTo.of_eq rfl)
  case S=>exact My.RD w _ Z Z Z (by unfold My.U8;decide) Z rfl
