import PyProof.Rows.All
import Wide.All
import OpenK.AllK
import Wide.FinOn
import Lean
import PyProof.EqAt
import PyProof.EqKinds
import PyProof.TupleCall
import PySem.Challenge.RW_framerooms_k27_kept_and_why
set_option Elab.async false
set_option linter.all false
set_option maxRecDepth 100000
set_option maxHeartbeats 4000000
abbrev ag:=@PySem.wpAny_bind
abbrev aB:=@PySem.wpAny_pure
abbrev aS:=@List.getElem?_eq_some_iff
abbrev a_:=@List.mem_cons_of_mem
abbrev bD:=@List.getD_eq_getElem?_getD
abbrev aN:=@List.length_map
abbrev bT:=@PySem.Heap.get?_push_of_some
abbrev bh:=@PySem.Heap.lt_size
abbrev bj:=@List.length_append
abbrev az:=@Nat.le_refl
abbrev ba:=@List.mem_of_getElem?
abbrev aW:=@List.getElem?_map
abbrev bI:=@PySem.Heap.get?_push_size
abbrev au:=@if_neg
abbrev bV:=@List.getElem?_append_left
abbrev bJ:=@List.mem_cons_self
abbrev cF:=@List.getElem?_append_right
abbrev aY:=@Nat.le_trans
abbrev bq:=@List.mem_cons
abbrev bu:=@decide_eq_true
abbrev aC:=@if_pos
abbrev cN:=@List.getElem?_eq_getElem
abbrev b7:=@Bool.false_ne_true
abbrev bZ:=@List.size_toArray
abbrev cw:=@List.mem_singleton
abbrev bF:=@Nat.ne_of_lt
abbrev cf:=@List.length_cons
abbrev bM:=@List.mem_map
abbrev cj:=@List.mem_append
abbrev cg:=@List.map_append
abbrev dz:=@List.mem_iff_getElem?
abbrev cA:=@List.mem_filter
abbrev cT:=@Int.toNat_natCast
abbrev cR:=@List.not_mem_nil
abbrev fc:=@PySem.F.plainAttrs_list
abbrev cy:=@List.map_cons
abbrev dR:=@Nat.lt_of_le_of_lt
abbrev ck:=@Nat.le_of_lt
abbrev fZ:=@PySem.wpAny_dictEntries
abbrev eF:=@Nat.lt_of_lt_of_le
abbrev eJ:=@Bool.false_eq_true
abbrev dg:=@List.mem_range
abbrev cB:=@Nat.zero_le
abbrev dA:=@List.append_nil
abbrev gN:=@PySem.wpAny_newObj_type
abbrev fD:=@PySem.wpAny_fieldsOf
abbrev mI:=@PySem.F.slot_dict_itemiterator_next
abbrev iD:=@PySem.Heap.SameBut.update
abbrev h9:=@PySem.F.plainAttrs_dict
abbrev jc:=@PySem.Heap.get?_update_self
abbrev gB:=@List.getElem?_eq_none
abbrev fB:=@List.append_assoc
abbrev fz:=@List.length_range
abbrev nO:=@PySem.wpAny_typeNameOfWhole_itemiter
abbrev hV:=@List.mem_append_right
abbrev eZ:=@decide_eq_false
abbrev fE:=@List.filter_cons
abbrev fq:=@List.nodup_cons
abbrev oN:=@PySem.wpAny_typeNameOf_itemiter
abbrev eA:=@Nat.lt_irrefl
abbrev g7:=@PySem.wpAny_holding
abbrev jn:=@PySem.wpAny_call_entry
abbrev fH:=@Option.some.inj
abbrev fW:=@PySem.wpAny_mono
abbrev gc:=@Bool.and_eq_true
abbrev gQ:=@of_decide_eq_true
abbrev g9:=@List.filter_append
abbrev cI:=@if_false
abbrev nD:=@PySem.wpAny_callSpecial?_slot
abbrev jE:=@List.length_replicate
abbrev jh:=@List.length_filter_le
abbrev jg:=@PySem.wpAny_dictEpoch
abbrev jm:=@PySem.size_of_entries
abbrev eh:=@Nat.ne_of_gt
abbrev pe:=@PySem.wpAny_isOneOf_itemiter
abbrev jw:=@List.getElem?_range
abbrev cV:=@or_false
abbrev lO:=@PySem.F.slot_dict_items
abbrev qX:=@PySem.Heap.get?_update_other
abbrev oW:=@PySem.Calls.spliced_cons
abbrev iK:=@List.take_length
abbrev kH:=@Nat.add_le_add_left
abbrev qV:=@PyProof.Rows.callWith_type1
abbrev qR:=@PySem.wpAny_notOrdered_dict
abbrev ju:=@List.take_add_one
abbrev ph:=@PySem.wpAny_truthy_bool
abbrev yG:=@PySem.F.slot_dict_valueiterator_next
abbrev kS:=@decide_eq_true_iff
abbrev je:=@List.lookup_cons
abbrev zU:=@PySem.F.slot_dict_keyiterator_next
abbrev qH:=@PySem.tupleKind_room_in1
abbrev qY:=@PySem.wpAny_setField_rec
abbrev gE:=@List.map_map
abbrev jo:=@PySem.W.kia_one
abbrev mf:=@PySem.call_meetsIn
abbrev dt:=@Ne.symm
abbrev qJ:=@PySem.F.type_dict_items
abbrev kD:=@List.length_take
abbrev uU:=@PySem.Obj.data_mapDictKeys
abbrev jM:=@PySem.wpAny_attempt
abbrev jH:=@List.filter_eq_self
abbrev ij:=@List.length_set
abbrev pR:=@PySem.F.plain_extend_loop
abbrev xE:=@PySem.F.args_dict_itemiterator_next_1
abbrev lV:=@PySem.wpAny_passesOwn
abbrev i7:=@List.all_eq_true
abbrev iZ:=@List.getElem_mem
abbrev xt:=@PySem.F.entry_dict_itemiterator_next
abbrev mF:=@List.getElem?_set_ne
abbrev uc:=@PySem.Calls.callWith_builtin
abbrev ik:=@List.nodup_nil
abbrev w4:=@PySem.wpAny_typeNameOfWhole_valiter
abbrev xb:=@PySem.wpAny_typeNameOfWhole_keyiter
abbrev mw:=@List.mem_of_mem_take
abbrev lY:=@List.flatMap_append
abbrev mr:=@List.length_pos_iff
abbrev kh:=@List.length_drop
abbrev jO:=@Nat.le_add_right
abbrev j8:=@List.mem_flatMap
abbrev l7:=@Int.emod_lt_of_pos
abbrev gM:=@Nat.le_succ
abbrev pC:=@PySem.Heap.size_push
abbrev sk:=@PySem.wpAny_Call_Name_kw
abbrev pH:=@PySem.wpAny_setField
abbrev xl:=@PySem.wpAny_typeNameOf_valiter
abbrev xa:=@PySem.wpAny_typeNameOf_keyiter
abbrev jS:=@Int.emod_nonneg
abbrev pK:=@List.Pairwise.filter
abbrev mz:=@PySem.wpAny_field
abbrev me:=@List.nodup_append
abbrev lP:=@List.filter_congr
abbrev sf:=@PySem.Calls.spliced_nil
abbrev uA:=@List.getElem?_replicate
abbrev pI:=@beq_eq_false_iff_ne
abbrev pO:=@List.replicate_succ
abbrev pU:=@PySem.plainId_quiet
abbrev xW:=@PySem.F.slot_dict_setdefault
abbrev tO:=@List.getElem?_set_self
abbrev rG:=@PySem.wpAny_isInstance
abbrev rp:=@Array.getElem?_eq_none
abbrev tK:=@List.flatMap_singleton
abbrev xu:=@PySem.wpAny_isOneOf_valiter
abbrev t9:=@List.take_append_drop
abbrev lZ:=@Bool.eq_iff_iff
abbrev eL:=@if_true
abbrev tT:=@PySem.wpAny_updateSeq
abbrev ue:=@PySem.PassesOwn.never
abbrev xx:=@PySem.Calls.evalArgs_plain
abbrev w8:=@PySem.Around.under_plainId
abbrev jQ:=@List.sum_cons
abbrev pS:=@List.ext_getElem?
abbrev xH:=@Classical.byContradiction
abbrev xi:=@PySem.F.slot_list_extend
abbrev xU:=@PySem.Obj.data_mapFields
abbrev tj:=@List.filterMap_cons
abbrev xT:=@PySem.wpAny_pyIter_list
abbrev xI:=@PySem.atKey_none_of_get
abbrev CB:=@PySem.wpAny_getItem_list_slice
abbrev pV:=@List.find?_cons
abbrev pj:=@List.length_nil
abbrev tX:=@List.getElem?_drop
abbrev pG:=@List.range_succ
abbrev CH:=@PySem.F.slot_list_getattribute
abbrev xR:=@List.take_of_length_le
abbrev xn:=@List.filter_eq_nil_iff
abbrev se:=@List.flatten_cons
abbrev rZ:=@PySem.wpAny_of_eq
abbrev rM:=@PySem.wpAny_letGo
abbrev uq:=@List.flatMap_cons
abbrev xm:=@PySem.wpAny_execs_nil
abbrev lS:=@Nat.lt_trans
abbrev xV:=@PySem.codeAny_builtin
abbrev pL:=@List.take_zero
abbrev CY:=@PySem.builtinLookup_eq_fast
abbrev BW:=@PySem.wpAny_isOneOf_keyiter
abbrev tH:=@PySem.call_meets
abbrev xX:=@PySem.isSubtype_stop
abbrev rL:=@Nat.succ_le_succ
abbrev xk:=@List.mem_iff_getElem
abbrev BK:=@PySem.wpAny_pyIter_revIter
abbrev CD:=@PySem.wpAny_pyIter_keyiter
abbrev Cu:=@PySem.wpAny_updateDictKeys
abbrev xB:=@Array.length_toList
abbrev x_:=@PySem.evalPart_none
abbrev xC:=@List.length_reverse
abbrev xw:=@PySem.wpAny_handled
abbrev xo:=@List.map_congr_left
abbrev BS:=@List.getElem?_eq_none_iff
abbrev CZ:=@PySem.Obj.isFreed_of_dict
abbrev CU:=@List.pairwise_iff_getElem
abbrev rh:=@Nat.not_lt_zero
abbrev rD:=@List.filter_nil
abbrev xf:=@List.mem_filterMap
abbrev BI:=@List.getElem?_take_of_lt
abbrev CK:=@PySem.Heap.IsSliceOf.new
abbrev pP:=@Nat.sub_self
abbrev CT:=@List.filter_cons_of_pos
abbrev Cw:=@List.filter_cons_of_neg
abbrev w_:=@List.any_eq_false
abbrev xq:=@List.getElem?_inj
abbrev uC:=@List.any_cons
abbrev xY:=@Nat.lt_succ_self
abbrev xN:=@List.any_eq_true
abbrev xO:=@beq_self_eq_true
abbrev xZ:=@List.map_reverse
abbrev xp:=@List.mem_reverse
abbrev BL:=@List.length_singleton
abbrev Cr:=@Array.getElem?_toList
abbrev B0:=@List.getElem?_zipWith
abbrev Ct:=@List.mem_append_left
abbrev pQ:=@beq_iff_eq
abbrev rj:=@Nat.succ_mul
abbrev xc:=@Option.map_some
abbrev uH:=@List.map_nil
abbrev ya:=@List.sum_append
abbrev BO:=@List.mem_of_mem_drop
abbrev w6:=@List.drop_drop
abbrev xK:=@List.take_succ
abbrev xA:=@Bool.true_and
abbrev xF:=@Bool.and_self
abbrev Ck:=@Option.isSome_map
abbrev BR:=@List.getElem?_set
abbrev Cf:=@List.getElem_inj
abbrev xg:=@Nat.le_of_eq
abbrev Cs:=@List.nodup_range
abbrev CO:=@List.of_mem_zip
open PySem.W (Frag KdxIt KdxSt callWith_K cellsFrom_some emptyDict handedIn hasDictIn instObj kia_one kitOne kitx_dict kitx_list lookIn makesIn methodCall_KW methodObj mroIn plainGet plainGet_of plainOver specialIn takerIn takesIn)
open PySem.F (args_dict_get_3 args_dict_items_1 args_dict_setdefault_3 entry_dict_get entry_dict_items entry_dict_setdefault entry_extend_loop plainAttrs_dict plainAttrs_list plain_extend_loop slot_dict_clear slot_dict_get slot_dict_items slot_dict_pop slot_dict_setdefault slot_dict_values slot_list_extend type_dict_items type_dict_setdefault type_list_extend)
open PySem in
noncomputable abbrev aZ:=List (Addr×Obj)
open PySem in
noncomputable abbrev av:=List (Option Nat)
open PySem in
noncomputable abbrev aP:=List Value
open PySem in
noncomputable abbrev aQ:=Option Value
open PySem in
noncomputable abbrev aJ:=List Str
open PySem in
noncomputable abbrev aH:=List Addr
open PySem in
noncomputable abbrev cq:=List Expr
namespace L2
open PySem PySem.Spec PyProof.Rows
noncomputable def wf(s:Stmt)(j:Nat):Stmt:=match s with
 | .ClassDef _ _ _ body _ _ _ _ _ _ _=>body.getD j (.Pass ⟨0,0,0,0⟩)
 |_=> .Pass ⟨0,0,0,0⟩
noncomputable def l8(s:Stmt):Arguments:=match s with
 | .FunctionDef _ a _ _ _ _ _ _ _ _=>a
 |_=>{posonlyargs:=[],args:=[],vararg:=none,kwonlyargs:=[],kw_defaults:=[],kwarg:=none,defaults:=[]}
noncomputable def gH(s:Stmt):List Stmt:=match s with
 | .FunctionDef _ _ b _ _ _ _ _ _ _=>b
 |_=>[]
noncomputable def ay(s:Stmt):Scope:=match s with
 | .FunctionDef _ _ _ _ _ _ sc _ _ _=>sc
 |_=>{kind:= .function,names:=[],isGenerator:=false,isCoroutine:=false}
end L2
namespace My
open PySem L2 PyProof.Rows
noncomputable def top(i:Nat):Stmt:=PySem.Challenge.pw_framerooms_k27_kept_and_why.main.body.getD i (.Pass ⟨0,0,0,0⟩)
noncomputable abbrev vN:Stmt:=(top 16)
noncomputable abbrev yg:Stmt:=(top 17)
noncomputable abbrev A7:Stmt:=(top 18)
noncomputable abbrev yo:Stmt:=(top 19)
noncomputable abbrev AO:Stmt:=(top 20)
noncomputable abbrev BG:Stmt:=(top 22)
noncomputable abbrev Jy:Stmt:=(top 23)
noncomputable abbrev su:Stmt:=(top 24)
noncomputable abbrev vU:Stmt:=(top 25)
noncomputable abbrev yt:Stmt:=(top 26)
noncomputable abbrev zQ:Stmt:=(top 27)
noncomputable abbrev jZ:Stmt:=(wf (top 31) 0)
noncomputable abbrev oQ:Stmt:=(wf (top 31) 1)
noncomputable abbrev mL:Stmt:=(wf (top 31) 2)
noncomputable abbrev qi:Stmt:=(wf (top 31) 3)
noncomputable abbrev mM:Stmt:=(wf (top 31) 4)
noncomputable abbrev tf:Stmt:=(wf (top 31) 5)
noncomputable abbrev jJ:Stmt:=(wf (top 31) 7)
noncomputable abbrev mQ:Stmt:=(wf (top 31) 8)
noncomputable abbrev jL:Stmt:=(wf (top 31) 9)
noncomputable abbrev oH:Stmt:=(wf (top 31) 10)
noncomputable abbrev jf:Stmt:=(wf (top 31) 11)
noncomputable abbrev iL:Stmt:=(wf (top 31) 12)
noncomputable abbrev gz:Stmt:=(wf (top 31) 13)
noncomputable abbrev gw:Stmt:=(wf (top 31) 14)
noncomputable abbrev gy:Stmt:=(wf (top 31) 15)
noncomputable abbrev k_:Stmt:=(wf (top 35) 0)
noncomputable abbrev uD:Stmt:=(wf (top 35) 1)
noncomputable abbrev v_:Stmt:=(wf (top 35) 3)
noncomputable abbrev qq:Stmt:=(wf (top 35) 5)
noncomputable abbrev ux:Stmt:=(wf (top 35) 6)
noncomputable abbrev ur:Stmt:=(wf (top 35) 7)
noncomputable abbrev lB:Stmt:=(wf (top 35) 9)
noncomputable abbrev qe:Stmt:=(wf (top 35) 10)
noncomputable abbrev mS:Stmt:=(wf (top 35) 11)
noncomputable abbrev jz:Stmt:=(wf (top 35) 12)
noncomputable abbrev og:Stmt:=(wf (top 35) 14)
noncomputable abbrev lr:Stmt:=(wf (top 35) 15)
noncomputable abbrev ki:Stmt:=(wf (top 35) 16)
noncomputable abbrev wF:Stmt:=(top 36)
noncomputable abbrev wA:Stmt:=(top 38)
noncomputable abbrev yE:Stmt:=(top 39)
noncomputable abbrev vG:Stmt:=(top 40)
noncomputable abbrev rC:Stmt:=(top 41)
noncomputable abbrev rB:Stmt:=(top 42)
noncomputable abbrev yh:Stmt:=(top 43)
noncomputable abbrev mV:Stmt:=(top 44)
noncomputable abbrev vJ:Stmt:=(top 45)
noncomputable abbrev ug:Stmt:=(top 46)
noncomputable abbrev rW:Stmt:=(top 47)
noncomputable abbrev tP:Stmt:=(top 48)
noncomputable abbrev nH:Stmt:=(top 49)
noncomputable abbrev lI:Stmt:=(top 50)
noncomputable abbrev sU:Stmt:=(top 51)
noncomputable abbrev wg:Stmt:=(top 52)
noncomputable abbrev uE:Stmt:=(top 53)
noncomputable abbrev rq:Stmt:=(top 54)
noncomputable abbrev si:Stmt:=(top 55)
noncomputable abbrev vM:Stmt:=(top 56)
noncomputable abbrev uz:Stmt:=(top 57)
noncomputable abbrev o9:Stmt:=(top 58)
noncomputable abbrev rV:Stmt:=(top 59)
noncomputable abbrev sd:Stmt:=(top 60)
noncomputable abbrev QM:Stmt:=(top 61)
section hd
open PySem PySem.W PySem.Calls PyProof.Rows
noncomputable section
noncomputable abbrev bP(x:String)(n:Nat):Value:=Value.str (Str.ofString x) n
noncomputable abbrev kT(l:Array Value):Obj:={cls:=Value.type "tuple",data:=Data.seq l}
noncomputable abbrev Qx(l:Array Value):Obj:={cls:=Value.none,data:=Data.fields l}
noncomputable abbrev hdO(l:Array Value):Obj:={cls:=Value.type "code",data:=Data.fields l}
noncomputable abbrev hdK(a b:String)(n l r u:Nat):Obj:=hdO #[bP a n,bP b (n+1),bP "/claim/cut.py" (n+2),.int l 0,.int 0 0,.int 0 0,.int 0 0,.int 0 0,.ref r,.bool false,.int 181 0,.ref (r+1),.none,.none,.none,.none,.int u 0,.int l 0,bP "/claim/cut.py" (u+1)]
noncomputable abbrev m8(a b:String)(n l p r u:Nat):Obj:=hdO #[bP a n,bP b (n+1),bP "/claim/cut.py" (n+2),.int l 0,.int p 0,.int 0 0,.int 0 0,.int 3 0,.ref r,.bool true,.int 181 0,.ref (r+1),.none,.ref (r+2),.ref (r+3),.ref (r+4),.int u 0,.int l 0,bP "/claim/cut.py" (u+1)]
noncomputable abbrev hdF(n q:String)(s:Stmt)(m:String)(k:Nat)(c:Addr):Obj:={cls:=Value.type "function",data:=Data.func {name:=Str.ofString n,qualname:=Str.ofString q,params:=L2.l8 s,body:= .stmts (L2.gH s),scope:=L2.ay s,globals:=3,closure:=[],defaults:=Value.none,kwdefaults:=Value.none,pyModule:=bP m k,code:=Value.ref c}}
noncomputable abbrev hdG(n q:String)(s:Stmt):Obj:={cls:=Value.none,data:=Data.func {name:=Str.ofString n,qualname:=Str.ofString q,params:=L2.l8 s,body:= .stmts (L2.gH s),scope:=L2.ay s,globals:=0,closure:=[],defaults:=Value.none,kwdefaults:=Value.none}}
variable(P:Params)
noncomputable abbrev jF(P:Params)(x:String)(n:Nat)(v:Value):DictEntry:={hash:=PyData.keyHash P (Str.ofString x),key:=Value.str (Str.ofString x) n,val:=v}
noncomputable def UL(c:Nat):List (Nat×Nat)→aP|[]=>[]|(a,r)::l=> .int a 0:: .int c 0:: .ref r::UL c l
noncomputable abbrev Mj:List (Nat×Nat):=[(1,20),(5,27),(9,47),(14,66),(19,85),(24,104),(30,123),(34,142),(39,161)]
noncomputable abbrev FQ:List (Nat×Nat):=Mj++[(45,180),(50,199),(55,218),(63,237),(65,244),(67,249),(71,256),(73,263),(78,268)]
noncomputable abbrev DJ:List (Nat×Nat):=FQ++[(87,275),(102,282),(106,287),(110,294),(112,299),(117,306)]
noncomputable abbrev Hu:List (Nat×Nat):=DJ++[(193,426),(274,549),(278,556),(282,563),(284,570),(293,575),(307,582),(309,589),(314,594),(316,599),(318,606),(324,613),(331,618),(339,623),(345,630),(350,637),(362,644),(381,649),(386,654),(388,659),(396,664),(413,671),(421,678),(440,685),(450,692),(467,699)]
noncomputable abbrev cv(P:Params)(x:String)(n:Nat)(a:Addr):DictEntry:=jF P x n (.ref a)
noncomputable abbrev ML(l:List DictEntry)(n:Nat):Obj:={cls:= .type "dict",data:=Data.dict ⟨l⟩ n}
noncomputable def OA(t:List DictEntry):List DictEntry:=jF P "__doc__" 166 (.none)::jF P "__package__" 167 (.none)::jF P "__loader__" 168 (.builtin ("__main__.__loader__#opa" ++ "que"))::jF P "__spec__" 169 (.none)::cv P "__annotations__" 170 6::cv P "__builtins__" 171 4::jF P "__file__" 173 (bP "/claim/cut.py" 172)::jF P "__cached__" 174 (.none)::cv P "_wall" 193 21::cv P "RoomError" 221 38::cv P "NoNumber" 246 58::cv P "NoValue" 271 77::cv P "NoFrame" 296 96::cv P "Gone" 323 115::cv P "Ground" 346 134::cv P "TooMany" 371 153::cv P "Full" 398 172::t
noncomputable def Ls(t:List DictEntry):List DictEntry:=cv P "NoWay" 423 191::cv P "NoCell" 448 210::cv P "NoHands" 473 229::jF P "LETTERS" 477 (bP "abcdefghijklmnopqrstuvwxyz" 476)::jF P "MOST_LETTERS" 479 (.int 6 478)::cv P "is_number" 486 238::cv P "is_whole" 495 245::cv P "is_name" 501 250::cv P "is_count" 508 257::cv P "is_pair" 515 264::cv P "ways_in" 523 269::t
noncomputable def QV(t:List DictEntry):List DictEntry:=cv P "kept" 538 276::cv P "want_hands" 547 283::cv P "are_hands" 553 288::cv P "leads_in" 561 295::cv P "links_of" 567 300::jF P "GROUND" 571 (.int 0 570)::jF P "MOST_FRAMES" 573 (.int 100 572)::cv P "Frames" 719 416::jF P "MOST_CELLS" 723 (.int 1000 722)::t
noncomputable abbrev tL(x0:String)(x1:Nat)(x2:Nat)(x3:Nat):Obj:=hdK x0 x0 x1 x2 x3 (x1+3)
noncomputable abbrev tV(x0:Nat)(x1:Nat)(x2:String)(x3:Nat):Obj:={cls:= .type "frame",slots:= #[some (.ref x0),some (.ref 3),some (.ref x1),none,some (bP x2 x3),none,some (.ref 0)]}
noncomputable abbrev ff(x0:String)(x1:Nat):Obj:=hdG x0 x0 (top x1)
noncomputable abbrev i3(x0:String)(x1:Nat)(x2:Nat)(x3:Nat)(x4:Nat)(x5:Nat):Obj:=m8 x0 x0 x1 x2 x3 x4 x5
noncomputable abbrev eY(x0:String)(x1:Nat)(x2:String)(x3:Nat)(x4:Nat):Obj:=hdF x0 x0 (top x1) x2 x3 x4
noncomputable abbrev yT(x0:Nat)(x1:String)(x2:Nat)(x3:Nat)(x4:Nat)(x5:Nat):Obj:={cls:= .type "dict",data:=Data.dict #[jF P "__module__" x0 (bP "framerooms.errors" 194),jF P "__qualname__" (x0+2) (bP x1 (x0+1)),jF P "__firstlineno__" (x0+4) (.int x2 (x0+3)),jF P "__init__" x3 (.ref x4),jF P "__static_attributes__" x5 (.ref (x4+1))] 5}
noncomputable abbrev yJ(x0:Nat)(x1:Nat):Obj:=Qx #[.int x0 0,.int 4 0,.ref x1]
noncomputable abbrev gS(x0:String)(x1:Nat)(x2:String):Obj:=kT #[bP x0 x1,bP x2 (x1+1)]
noncomputable abbrev dF(x0:String)(x1:String)(x2:Nat)(x3:Nat):Obj:=hdG x0 x1 (wf (top x2) x3)
noncomputable abbrev dM(x0:String)(x1:String)(x2:Nat)(x3:Nat)(x4:String)(x5:Nat)(x6:Nat):Obj:=hdF x0 x1 (wf (top x2) x3) x4 x5 x6
noncomputable abbrev kY(x0:Nat):Obj:={cls:= .type "super",data:=Data.fields #[.ref x0,.ref x0,.ref x0]}
noncomputable abbrev lh(x0:Nat):Obj:={cls:= .type "builtin_function_or_method",data:=Data.fields #[.builtin "object.__init_subclass__",.ref x0]}
noncomputable abbrev qc(x0:Nat)(x1:Nat)(x2:Nat)(x3:Nat)(x4:Nat):Obj:={cls:= .type "dict",data:=Data.dict #[jF P "__module__" x0 (bP "framerooms.errors" 194),jF P "__firstlineno__" (x0+4) (.int x1 (x0+3)),jF P "__init__" x2 (.ref x3),jF P "__static_attributes__" x4 (.ref (x3+1)),jF P "__doc__" (x4+1) (.none)] 2}
noncomputable abbrev qy(x0:String)(x1:Nat)(x2:Nat):Obj:={cls:= .type "type",data:=Data.cls {name:=Str.ofString x0,bases:=[.ref 38],mro:=[.ref (x1+16),.ref 38,.type "ValueError",.type "Exception",.type "BaseException",.type "object"],ns:=(x1+15),qualname:=Str.ofString x0},slots:= #[some (.ref x1),none,some (bP x0 x2),some (bP x0 (x2+8)),some (.builtin "ValueError.__new__"),some (.bool true)]}
noncomputable abbrev lK(x0:String)(x1:Nat)(x2:Nat)(x3:Nat)(x4:Nat):Obj:=hdO #[bP x0 x1,bP x0 (x1+1),bP "/claim/cut.py" (x1+2),.int x2 0,.int x3 0,.int 0 0,.int 0 0,.int 3 0,.ref x4,.bool true,.int 181 0,.ref (x4+1),.none,.none,.none,.ref (x4+2),.int (x1+3) 0,.int x2 0,bP "/claim/cut.py" (x1+4)]
noncomputable abbrev yZ(x0:String)(x1:Nat)(x2:String)(x3:String)(x4:String):Obj:=kT #[bP x0 x1,bP x2 (x1+1),bP x3 (x1+2),bP x4 (x1+3)]
noncomputable abbrev y6(x0:String)(x1:Nat)(x2:String)(x3:Nat)(x4:Nat)(x5:Nat):Obj:=hdO #[bP x0 x1,bP x2 (x1+1),bP "/claim/cut.py" (x1+2),.int x3 0,.int x4 0,.int 0 0,.int 0 0,.int 3 0,.ref x5,.bool true,.int 181 0,.ref (x5+1),.none,.none,.none,.ref (x5+2),.int (x1+3) 0,.int x3 0,bP "/claim/cut.py" (x1+4)]
noncomputable abbrev aL:=kT #[]
noncomputable abbrev bN:=Qx #[]
noncomputable abbrev Jt:=tL "<module>" 182 1 11
noncomputable abbrev Le:=tV 13 3 "__main__" 164
noncomputable abbrev Mv:=ML (jF P "__name__" 165 (bP "framerooms.errors" 194)::OA P ([])) 18
noncomputable abbrev ac1:=Qx ⟨UL 0 Mj⟩
noncomputable abbrev ah7:=kT #[bP "k" 190]
noncomputable abbrev af9:=ff "_wall" 0
noncomputable abbrev agd:=i3 "_wall" 187 1 1 15 191
noncomputable abbrev aeI:=eY "_wall" 0 "__main__" 164 20
noncomputable abbrev agm:=kT #[.type "ValueError"]
noncomputable abbrev va:Obj:={cls:= .type "builtin_function_or_method",data:=Data.fields #[.builtin "type.__prepare__",.type "type"]}
noncomputable abbrev ag0:=yT P 203 "RoomError" 5 215 35 216
noncomputable abbrev ahw:=yJ 7 34
noncomputable abbrev ae4:=tL "RoomError" 198 5 25
noncomputable abbrev agQ:=tV 27 24 "framerooms.errors" 194
noncomputable abbrev ahl:=gS "self" 211 "text"
noncomputable abbrev ahP:=dF "__init__" "RoomError.__init__" 2 0
noncomputable abbrev aiD:=m8 "__init__" "RoomError.__init__" 208 7 2 29 213
noncomputable abbrev aiq:=dM "__init__" "RoomError.__init__" 2 0 "framerooms.errors" 194 34
noncomputable abbrev aiQ:Obj:={cls:= .type "dict",data:=Data.dict #[jF P "__module__" 203 (bP "framerooms.errors" 194),jF P "__firstlineno__" 207 (.int 5 206),jF P "__init__" 215 (.ref 35),jF P "__static_attributes__" 216 (.ref 36),jF P "__weakref__" 218 (.ref 39),jF P "__doc__" 219 (.none)] 3}
noncomputable abbrev ahQ:Obj:={cls:= .type "type",data:=Data.cls {name:=Str.ofString "RoomError",bases:=[.type "ValueError"],mro:=[.ref 38,.type "ValueError",.type "Exception",.type "BaseException",.type "object"],ns:=37,qualname:=Str.ofString "RoomError",subclasses:=[.ref 58,.ref 77,.ref 96,.ref 115,.ref 134,.ref 153,.ref 172]},slots:= #[some (.ref 22),none,some (bP "RoomError" 196),some (bP "RoomError" 204),some (.builtin "ValueError.__new__"),some (.bool true)]}
noncomputable abbrev aiR:Obj:={cls:= .type "getset_descriptor",data:=Data.fields #[bP "__weakref__" 217,.ref 38,.builtin "ExceptionGroup.__weakref__",.none]}
noncomputable abbrev afN:=kY 38
noncomputable abbrev agp:=lh 38
noncomputable abbrev Av:=kT #[.ref 38]
noncomputable abbrev ahC:=yT P 229 "NoNumber" 9 241 55 243
noncomputable abbrev afG:=yJ 11 54
noncomputable abbrev ahW:=tL "NoNumber" 224 9 45
noncomputable abbrev ag_:=tV 47 44 "framerooms.errors" 194
noncomputable abbrev agl:=gS "self" 237 "found"
noncomputable abbrev aiN:=dF "__init__" "NoNumber.__init__" 3 0
noncomputable abbrev ag8:=m8 "__init__" "NoNumber.__init__" 234 11 2 49 239
noncomputable abbrev aih:=dM "__init__" "NoNumber.__init__" 3 0 "framerooms.errors" 194 54
noncomputable abbrev ag3:=kT #[bP "found" 242]
noncomputable abbrev ai4:=qc P 229 9 241 55 243
noncomputable abbrev ae5:=qy "NoNumber" 42 222
noncomputable abbrev ain:=kY 58
noncomputable abbrev aeT:=lh 58
noncomputable abbrev aiz:=yT P 254 "NoValue" 14 266 74 268
noncomputable abbrev agY:=yJ 16 73
noncomputable abbrev aeM:=tL "NoValue" 249 14 64
noncomputable abbrev agW:=tV 66 63 "framerooms.errors" 194
noncomputable abbrev aiA:=gS "self" 262 "found"
noncomputable abbrev ai5:=dF "__init__" "NoValue.__init__" 4 0
noncomputable abbrev agX:=m8 "__init__" "NoValue.__init__" 259 16 2 68 264
noncomputable abbrev ahG:=dM "__init__" "NoValue.__init__" 4 0 "framerooms.errors" 194 73
noncomputable abbrev agr:=kT #[bP "found" 267]
noncomputable abbrev afp:=qc P 254 14 266 74 268
noncomputable abbrev ae_:=qy "NoValue" 61 247
noncomputable abbrev ahL:=kY 77
noncomputable abbrev agg:=lh 77
noncomputable abbrev af7:=yT P 279 "NoFrame" 19 291 93 293
noncomputable abbrev ahA:=yJ 21 92
noncomputable abbrev ahS:=tL "NoFrame" 274 19 83
noncomputable abbrev ae8:=tV 85 82 "framerooms.errors" 194
noncomputable abbrev aiM:=gS "self" 287 "found"
noncomputable abbrev agB:=dF "__init__" "NoFrame.__init__" 5 0
noncomputable abbrev agI:=m8 "__init__" "NoFrame.__init__" 284 21 2 87 289
noncomputable abbrev afl:=dM "__init__" "NoFrame.__init__" 5 0 "framerooms.errors" 194 92
noncomputable abbrev agZ:=kT #[bP "found" 292]
noncomputable abbrev afs:=qc P 279 19 291 93 293
noncomputable abbrev aib:=qy "NoFrame" 80 272
noncomputable abbrev ahh:=kY 96
noncomputable abbrev ahk:=lh 96
noncomputable abbrev XR:=yT P 304 "Gone" 24 317 112 320
noncomputable abbrev Zj:=yJ 26 111
noncomputable abbrev adp:=tL "Gone" 299 24 102
noncomputable abbrev aa5:=tV 104 101 "framerooms.errors" 194
noncomputable abbrev ZY:=kT #[bP "self" 312,bP "found" 313,bP "by" 314]
noncomputable abbrev Xy:=dF "__init__" "Gone.__init__" 6 0
noncomputable abbrev Xb:=m8 "__init__" "Gone.__init__" 309 26 3 106 315
noncomputable abbrev WU:=dM "__init__" "Gone.__init__" 6 0 "framerooms.errors" 194 111
noncomputable abbrev Wv:=gS "by" 318 "found"
noncomputable abbrev WV:=qc P 304 24 317 112 320
noncomputable abbrev abx:=qy "Gone" 99 297
noncomputable abbrev aa_:=kY 115
noncomputable abbrev ack:=lh 115
noncomputable abbrev Xm:=yT P 331 "Ground" 30 342 131 343
noncomputable abbrev abw:=yJ 32 130
noncomputable abbrev aad:=tL "Ground" 326 30 121
noncomputable abbrev XT:=tV 123 120 "framerooms.errors" 194
noncomputable abbrev ada:=kT #[bP "self" 339]
noncomputable abbrev acY:=dF "__init__" "Ground.__init__" 7 0
noncomputable abbrev Yb:=m8 "__init__" "Ground.__init__" 336 32 1 125 340
noncomputable abbrev XH:=dM "__init__" "Ground.__init__" 7 0 "framerooms.errors" 194 130
noncomputable abbrev Zz:=qc P 331 30 342 131 343
noncomputable abbrev XY:=qy "Ground" 118 324
noncomputable abbrev ZN:=kY 134
noncomputable abbrev aby:=lh 134
noncomputable abbrev ac9:=yT P 354 "TooMany" 34 366 150 368
noncomputable abbrev aaV:=yJ 36 149
noncomputable abbrev abj:=tL "TooMany" 349 34 140
noncomputable abbrev acV:=tV 142 139 "framerooms.errors" 194
noncomputable abbrev XZ:=gS "self" 362 "many"
noncomputable abbrev Wr:=dF "__init__" "TooMany.__init__" 8 0
noncomputable abbrev Yn:=m8 "__init__" "TooMany.__init__" 359 36 2 144 364
noncomputable abbrev Yc:=dM "__init__" "TooMany.__init__" 8 0 "framerooms.errors" 194 149
noncomputable abbrev Wz:=kT #[bP "many" 367]
noncomputable abbrev adv:=qc P 354 34 366 150 368
noncomputable abbrev abV:=qy "TooMany" 137 347
noncomputable abbrev WJ:=kY 153
noncomputable abbrev aa3:=lh 153
noncomputable abbrev aal:=yT P 379 "Full" 39 392 169 395
noncomputable abbrev W0:=yJ 41 168
noncomputable abbrev acm:=tL "Full" 374 39 159
noncomputable abbrev aaX:=tV 161 158 "framerooms.errors" 194
noncomputable abbrev Zy:=kT #[bP "self" 387,bP "need" 388,bP "spare" 389]
noncomputable abbrev ab3:=dF "__init__" "Full.__init__" 9 0
noncomputable abbrev adb:=m8 "__init__" "Full.__init__" 384 41 3 163 390
noncomputable abbrev abe:=dM "__init__" "Full.__init__" 9 0 "framerooms.errors" 194 168
noncomputable abbrev XW:=gS "need" 393 "spare"
noncomputable abbrev WS:=qc P 379 39 392 169 395
noncomputable abbrev Ze:=qy "Full" 156 372
noncomputable abbrev Xr:=kY 172
noncomputable abbrev Zb:=lh 172
noncomputable abbrev aft:=ML (jF P "__name__" 165 (bP "framerooms.ways" 516)::OA P (Ls P ([]))) 29
noncomputable abbrev T7:=Qx ⟨UL 0 FQ⟩
noncomputable abbrev J6:Obj:={cls:= .type "type",data:=Data.cls {name:=Str.ofString "RoomError",bases:=[.type "ValueError"],mro:=[.ref 38,.type "ValueError",.type "Exception",.type "BaseException",.type "object"],ns:=37,qualname:=Str.ofString "RoomError",subclasses:=[.ref 58,.ref 77,.ref 96,.ref 115,.ref 134,.ref 153,.ref 172,.ref 191,.ref 210,.ref 229]},slots:= #[some (.ref 22),none,some (bP "RoomError" 196),some (bP "RoomError" 204),some (.builtin "ValueError.__new__"),some (.bool true)]}
noncomputable abbrev Xw:=yT P 406 "NoWay" 45 418 188 420
noncomputable abbrev abL:=yJ 47 187
noncomputable abbrev ZH:=tL "NoWay" 401 45 178
noncomputable abbrev YU:=tV 180 177 "framerooms.errors" 194
noncomputable abbrev Yl:=gS "self" 414 "found"
noncomputable abbrev abq:=dF "__init__" "NoWay.__init__" 10 0
noncomputable abbrev YI:=m8 "__init__" "NoWay.__init__" 411 47 2 182 416
noncomputable abbrev ZS:=dM "__init__" "NoWay.__init__" 10 0 "framerooms.errors" 194 187
noncomputable abbrev YR:=kT #[bP "found" 419]
noncomputable abbrev abS:=qc P 406 45 418 188 420
noncomputable abbrev abg:=qy "NoWay" 175 399
noncomputable abbrev acK:=kY 191
noncomputable abbrev abN:=lh 191
noncomputable abbrev ZJ:=yT P 431 "NoCell" 50 443 207 445
noncomputable abbrev Yu:=yJ 52 206
noncomputable abbrev ZC:=tL "NoCell" 426 50 197
noncomputable abbrev adA:=tV 199 196 "framerooms.errors" 194
noncomputable abbrev ZZ:=gS "self" 439 "found"
noncomputable abbrev aa4:=dF "__init__" "NoCell.__init__" 11 0
noncomputable abbrev X0:=m8 "__init__" "NoCell.__init__" 436 52 2 201 441
noncomputable abbrev YV:=dM "__init__" "NoCell.__init__" 11 0 "framerooms.errors" 194 206
noncomputable abbrev acL:=kT #[bP "found" 444]
noncomputable abbrev ab6:=qc P 431 50 443 207 445
noncomputable abbrev ZL:=qy "NoCell" 194 424
noncomputable abbrev WC:=kY 210
noncomputable abbrev acQ:=lh 210
noncomputable abbrev Zk:=yT P 456 "NoHands" 55 468 226 470
noncomputable abbrev acA:=yJ 57 225
noncomputable abbrev Yo:=tL "NoHands" 451 55 216
noncomputable abbrev adn:=tV 218 215 "framerooms.errors" 194
noncomputable abbrev Yr:=gS "self" 464 "found"
noncomputable abbrev abJ:=dF "__init__" "NoHands.__init__" 12 0
noncomputable abbrev acW:=m8 "__init__" "NoHands.__init__" 461 57 2 220 466
noncomputable abbrev Ww:=dM "__init__" "NoHands.__init__" 12 0 "framerooms.errors" 194 225
noncomputable abbrev YN:=kT #[bP "found" 469]
noncomputable abbrev Yz:=qc P 456 55 468 226 470
noncomputable abbrev ab1:=qy "NoHands" 213 449
noncomputable abbrev adE:=kY 229
noncomputable abbrev abY:=lh 229
noncomputable abbrev YW:=kT #[bP "thing" 483]
noncomputable abbrev Zi:=ff "is_number" 16
noncomputable abbrev SE:=i3 "is_number" 480 63 1 232 484
noncomputable abbrev So:=eY "is_number" 16 "framerooms.words" 474 237
noncomputable abbrev Zt:=kT #[bP "thing" 490,bP "low" 491,bP "high" 492]
noncomputable abbrev ach:=ff "is_whole" 17
noncomputable abbrev RZ:=i3 "is_whole" 487 65 3 239 493
noncomputable abbrev Sv:=eY "is_whole" 17 "framerooms.words" 474 244
noncomputable abbrev WN:=ff "is_name" 18
noncomputable abbrev Sb:=lK "is_name" 496 67 1 246
noncomputable abbrev RU:=eY "is_name" 18 "framerooms.words" 474 249
noncomputable abbrev aae:=kT #[bP "thing" 505]
noncomputable abbrev acx:=ff "is_count" 19
noncomputable abbrev Rt:=i3 "is_count" 502 71 1 251 506
noncomputable abbrev PZ:=eY "is_count" 19 "framerooms.words" 474 256
noncomputable abbrev X4:=kT #[bP "thing" 512]
noncomputable abbrev WI:=ff "is_pair" 20
noncomputable abbrev Qk:=i3 "is_pair" 509 73 1 258 513
noncomputable abbrev QF:=eY "is_pair" 20 "framerooms.words" 474 263
noncomputable abbrev Xh:=ff "ways_in" 22
noncomputable abbrev QL:=lK "ways_in" 518 78 3 265
noncomputable abbrev RG:=eY "ways_in" 22 "framerooms.ways" 516 268
noncomputable abbrev Xg:=ML (jF P "__name__" 165 (bP "framerooms.house" 720)::OA P (Ls P (QV P ([])))) 38
noncomputable abbrev Pd:=Qx ⟨UL 0 DJ⟩
noncomputable abbrev aaC:=kT #[bP "house" 527,bP "frame" 528,bP "hands" 529,bP "rows" 530,bP "link" 531,bP "part" 532,bP "found" 533,bP "turn" 534,bP "row" 535]
noncomputable abbrev YO:=ff "kept" 23
noncomputable abbrev Rj:=i3 "kept" 524 87 3 270 536
noncomputable abbrev RW:=eY "kept" 23 "framerooms.ways" 516 275
noncomputable abbrev Zd:=kT #[bP "house" 542,bP "frame" 543,bP "hands" 544]
noncomputable abbrev abp:=ff "want_hands" 24
noncomputable abbrev Pp:=i3 "want_hands" 539 102 3 277 545
noncomputable abbrev RL:=eY "want_hands" 24 "framerooms.ways" 516 282
noncomputable abbrev acE:=ff "are_hands" 25
noncomputable abbrev Ry:=lK "are_hands" 548 106 2 284
noncomputable abbrev RX:=eY "are_hands" 25 "framerooms.ways" 516 287
noncomputable abbrev XF:=gS "value" 557 "part"
noncomputable abbrev ac4:=ff "leads_in" 26
noncomputable abbrev RH:=i3 "leads_in" 554 110 2 289 559
noncomputable abbrev QX:=eY "leads_in" 26 "framerooms.ways" 516 294
noncomputable abbrev acR:=ff "links_of" 27
noncomputable abbrev Rf:=lK "links_of" 562 112 3 296
noncomputable abbrev RE:=eY "links_of" 27 "framerooms.ways" 516 299
noncomputable abbrev Xs:=ML [jF P "__module__" 581 (bP "framerooms.frames" 568),jF P "__qualname__" 583 (bP "Frames" 582),jF P "__firstlineno__" 585 (.int 117 584),cv P "__init__" 592 314,cv P "begin" 600 321,cv P "finish" 610 328,cv P "part" 616 333,cv P "inside" 624 340,cv P "row" 634 347,cv P "within" 640 352,cv P "ended_by" 648 359,cv P "stands" 656 366,cv P "standing" 662 371,cv P "begun" 669 378,cv P "was_begun" 677 385,cv P "want_begun" 685 392,cv P "want_standing" 693 399,cv P "want_beginning" 701 406,cv P "want_finishing" 709 413,cv P "__static_attributes__" 712 414] 20
noncomputable abbrev Y_:=Qx ⟨UL 4 [(119,313),(123,320),(129,327),(136,332),(139,339),(143,346),(152,351),(156,358),(160,365),(163,370),(166,377),(169,384),(172,391),(176,398),(181,405),(186,412)]⟩
noncomputable abbrev aaw:=tL "Frames" 576 117 304
noncomputable abbrev aaF:=tV 306 303 "framerooms.frames" 568
noncomputable abbrev YS:=kT #[bP "self" 589]
noncomputable abbrev YH:=dF "__init__" "Frames.__init__" 31 0
noncomputable abbrev Sn:=m8 "__init__" "Frames.__init__" 586 119 1 308 590
noncomputable abbrev SQ:=dM "__init__" "Frames.__init__" 31 0 "framerooms.frames" 568 313
noncomputable abbrev aaL:=gS "self" 596 "frame"
noncomputable abbrev Wh:=dF "begin" "Frames.begin" 31 1
noncomputable abbrev R4:=m8 "begin" "Frames.begin" 593 123 2 315 598
noncomputable abbrev Ra:=dM "begin" "Frames.begin" 31 1 "framerooms.frames" 568 320
noncomputable abbrev Yi:=yZ "self" 604 "frame" "ended" "number"
noncomputable abbrev abQ:=dF "finish" "Frames.finish" 31 2
noncomputable abbrev Rz:=m8 "finish" "Frames.finish" 601 129 2 322 608
noncomputable abbrev Sj:=dM "finish" "Frames.finish" 31 2 "framerooms.frames" 568 327
noncomputable abbrev aaE:=dF "part" "Frames.part" 31 3
noncomputable abbrev RK:=y6 "part" 611 "Frames.part" 136 2 329
noncomputable abbrev Qq:=dM "part" "Frames.part" 31 3 "framerooms.frames" 568 332
noncomputable abbrev XU:=gS "self" 620 "frame"
noncomputable abbrev Zr:=dF "inside" "Frames.inside" 31 4
noncomputable abbrev SK:=m8 "inside" "Frames.inside" 617 139 2 334 622
noncomputable abbrev QH:=dM "inside" "Frames.inside" 31 4 "framerooms.frames" 568 339
noncomputable abbrev YT:=yZ "self" 628 "frame" "outward" "step"
noncomputable abbrev Yx:=dF "row" "Frames.row" 31 5
noncomputable abbrev Sr:=m8 "row" "Frames.row" 625 143 2 341 632
noncomputable abbrev Ss:=dM "row" "Frames.row" 31 5 "framerooms.frames" 568 346
noncomputable abbrev ZQ:=dF "within" "Frames.within" 31 6
noncomputable abbrev ac7:=y6 "within" 635 "Frames.within" 152 2 348
noncomputable abbrev Xo:=dM "within" "Frames.within" 31 6 "framerooms.frames" 568 351
noncomputable abbrev YD:=gS "self" 644 "frame"
noncomputable abbrev acf:=dF "ended_by" "Frames.ended_by" 31 7
noncomputable abbrev QK:=m8 "ended_by" "Frames.ended_by" 641 156 2 353 646
noncomputable abbrev Rl:=dM "ended_by" "Frames.ended_by" 31 7 "framerooms.frames" 568 358
noncomputable abbrev Ye:=gS "self" 652 "thing"
noncomputable abbrev abf:=dF "stands" "Frames.stands" 31 8
noncomputable abbrev Sz:=m8 "stands" "Frames.stands" 649 160 2 360 654
noncomputable abbrev Qy:=dM "stands" "Frames.stands" 31 8 "framerooms.frames" 568 365
noncomputable abbrev abP:=dF "standing" "Frames.standing" 31 9
noncomputable abbrev SD:=y6 "standing" 657 "Frames.standing" 163 1 367
noncomputable abbrev Si:=dM "standing" "Frames.standing" 31 9 "framerooms.frames" 568 370
noncomputable abbrev abn:=kT #[bP "self" 666]
noncomputable abbrev aca:=dF "begun" "Frames.begun" 31 10
noncomputable abbrev SH:=m8 "begun" "Frames.begun" 663 166 1 372 667
noncomputable abbrev PH:=dM "begun" "Frames.begun" 31 10 "framerooms.frames" 568 377
noncomputable abbrev ZT:=gS "self" 673 "thing"
noncomputable abbrev X3:=dF "was_begun" "Frames.was_begun" 31 11
noncomputable abbrev P9:=m8 "was_begun" "Frames.was_begun" 670 169 2 379 675
noncomputable abbrev Sx:=dM "was_begun" "Frames.was_begun" 31 11 "framerooms.frames" 568 384
noncomputable abbrev adt:=gS "self" 681 "thing"
noncomputable abbrev acu:=dF "want_begun" "Frames.want_begun" 31 12
noncomputable abbrev Rq:=m8 "want_begun" "Frames.want_begun" 678 172 2 386 683
noncomputable abbrev Sh:=dM "want_begun" "Frames.want_begun" 31 12 "framerooms.frames" 568 391
noncomputable abbrev Yk:=gS "self" 689 "thing"
noncomputable abbrev XM:=dF "want_standing" "Frames.want_standing" 31 13
noncomputable abbrev PL:=m8 "want_standing" "Frames.want_standing" 686 176 2 393 691
noncomputable abbrev Sm:=dM "want_standing" "Frames.want_standing" 31 13 "framerooms.frames" 568 398
noncomputable abbrev ZF:=gS "self" 697 "thing"
noncomputable abbrev adu:=dF "want_beginning" "Frames.want_beginning" 31 14
noncomputable abbrev Qv:=m8 "want_beginning" "Frames.want_beginning" 694 181 2 400 699
noncomputable abbrev Qa:=dM "want_beginning" "Frames.want_beginning" 31 14 "framerooms.frames" 568 405
noncomputable abbrev X5:=gS "self" 705 "thing"
noncomputable abbrev XI:=dF "want_finishing" "Frames.want_finishing" 31 15
noncomputable abbrev Qc:=m8 "want_finishing" "Frames.want_finishing" 702 186 2 407 707
noncomputable abbrev Pt:=dM "want_finishing" "Frames.want_finishing" 31 15 "framerooms.frames" 568 412
noncomputable abbrev Zq:=gS "parents" 710 "takers"
noncomputable abbrev Q7:=ML [jF P "__module__" 581 (bP "framerooms.frames" 568),jF P "__firstlineno__" 585 (.int 117 584),cv P "__init__" 592 314,cv P "begin" 600 321,cv P "finish" 610 328,cv P "part" 616 333,cv P "inside" 624 340,cv P "row" 634 347,cv P "within" 640 352,cv P "ended_by" 648 359,cv P "stands" 656 366,cv P "standing" 662 371,cv P "begun" 669 378,cv P "was_begun" 677 385,cv P "want_begun" 685 392,cv P "want_standing" 693 399,cv P "want_beginning" 701 406,cv P "want_finishing" 709 413,cv P "__static_attributes__" 712 414,cv P "__dict__" 714 417,cv P "__weakref__" 716 418,jF P "__doc__" 717 (.none)] 4
noncomputable abbrev YE:Obj:={cls:= .type "type",data:=Data.cls {name:=Str.ofString "Frames",bases:=[.type "object"],mro:=[.ref 416,.type "object"],ns:=415,qualname:=Str.ofString "Frames"},slots:= #[none,none,some (bP "Frames" 574),some (bP "Frames" 582),some (.builtin "object.__new__"),some (.bool true)]}
noncomputable abbrev aar:Obj:={cls:= .type "getset_descriptor",data:=Data.fields #[bP "__dict__" 713,.ref 416,.builtin "function.__dict__",.builtin "function.__dict__#set"]}
noncomputable abbrev XC:Obj:={cls:= .type "getset_descriptor",data:=Data.fields #[bP "__weakref__" 715,.ref 416,.builtin "ExceptionGroup.__weakref__",.none]}
noncomputable abbrev ab4:=kY 416
noncomputable abbrev abu:=lh 416
noncomputable abbrev Kj:=ML (jF P "__name__" 165 (bP "law_framerooms_k27_kept_and_why" 888)::OA P (Ls P (QV P (jF P "MOST_CELLS_OF_ROOM" 725 (.int 6 724)::cv P "House" 879 541::cv P "want_cell" 887 550::cv P "_law_cell" 897 557::cv P "_law_box" 904 564::cv P "_law_take" 914 571::cv P "_law_names" 920 576::cv P "_law_world" 927 583::cv P "_law_row" 936 590::cv P "_law_standing" 942 595::cv P "_law_used" 948 600::cv P "_law_begun" 956 607::cv P "_law_given" 966 614::cv P "_law_ended" 972 619::cv P "_law_picture" 978 624::cv P "_law_all_rooms" 987 631::cv P "_law_value" 997 638::cv P "_law_deed" 1014 645::cv P "_law_hands" 1020 650::cv P "_law_inner" 1026 655::cv P "_law_steps" 1032 660::cv P "_law_kept" 1038 665::cv P "_law_scene" 1049 672::cv P "_law_chained" 1066 679::cv P "_law_walks" 1077 686::cv P "_law_right" 1093 693::cv P "law" 1104 700::[])))) 65
noncomputable abbrev Lg:=Qx ⟨UL 0 Hu⟩
noncomputable abbrev Jn:Obj:={cls:= .type "type",data:=Data.cls {name:=Str.ofString "Frames",bases:=[.type "object"],mro:=[.ref 416,.type "object"],ns:=415,qualname:=Str.ofString "Frames",subclasses:=[.ref 541]},slots:= #[none,none,some (bP "Frames" 574),some (bP "Frames" 582),some (.builtin "object.__new__"),some (.bool true)]}
noncomputable abbrev ZU:=kT #[.ref 416]
noncomputable abbrev abA:=ML [jF P "__module__" 733 (bP "framerooms.house" 720),jF P "__qualname__" 735 (bP "House" 734),jF P "__firstlineno__" 737 (.int 193 736),cv P "__init__" 745 434,cv P "make" 757 441,cv P "get" 767 448,cv P "put" 778 455,cv P "size" 786 462,cv P "cells" 794 469,cv P "used" 800 474,cv P "left" 807 481,cv P "limit" 814 488,cv P "greatest" 821 495,cv P "rooms" 827 500,cv P "picture" 833 505,cv P "picture_of" 839 510,cv P "twin" 846 517,cv P "is_way" 854 524,cv P "is_value" 862 531,cv P "want_room" 871 538,cv P "__static_attributes__" 876 539] 21
noncomputable abbrev acr:=Qx ⟨UL 4 [(195,433),(204,440),(218,447),(223,454),(230,461),(233,468),(236,473),(239,480),(242,487),(245,494),(248,499),(252,504),(255,509),(258,516),(261,523),(264,530),(267,537)]⟩
noncomputable abbrev aaR:=tL "House" 728 193 424
noncomputable abbrev WH:=tV 426 423 "framerooms.house" 720
noncomputable abbrev ZD:=gS "self" 741 "limit"
noncomputable abbrev aaG:=dF "__init__" "House.__init__" 35 0
noncomputable abbrev RY:=m8 "__init__" "House.__init__" 738 195 2 428 743
noncomputable abbrev QT:=dM "__init__" "House.__init__" 35 0 "framerooms.house" 720 433
noncomputable abbrev acG:=kT #[bP "self" 749,bP "frame" 750,bP "size" 751,bP "spare" 752,bP "place" 753,bP "floor" 754]
noncomputable abbrev Yv:=dF "make" "House.make" 35 1
noncomputable abbrev Qb:=m8 "make" "House.make" 746 204 3 435 755
noncomputable abbrev Qz:=dM "make" "House.make" 35 1 "framerooms.house" 720 440
noncomputable abbrev Yd:=yZ "self" 761 "way" "k" "room"
noncomputable abbrev XA:=dF "get" "House.get" 35 2
noncomputable abbrev ace:=m8 "get" "House.get" 758 218 3 442 765
noncomputable abbrev WG:=dM "get" "House.get" 35 2 "framerooms.house" 720 447
noncomputable abbrev Ym:=kT #[bP "self" 771,bP "way" 772,bP "k" 773,bP "value" 774,bP "room" 775]
noncomputable abbrev ZM:=dF "put" "House.put" 35 3
noncomputable abbrev Qh:=m8 "put" "House.put" 768 223 4 449 776
noncomputable abbrev PB:=dM "put" "House.put" 35 3 "framerooms.house" 720 454
noncomputable abbrev aci:=gS "self" 782 "way"
noncomputable abbrev acS:=dF "size" "House.size" 35 4
noncomputable abbrev Wo:=m8 "size" "House.size" 779 230 2 456 784
noncomputable abbrev adC:=dM "size" "House.size" 35 4 "framerooms.house" 720 461
noncomputable abbrev Xi:=gS "self" 790 "way"
noncomputable abbrev X2:=dF "cells" "House.cells" 35 5
noncomputable abbrev SF:=m8 "cells" "House.cells" 787 233 2 463 792
noncomputable abbrev QE:=dM "cells" "House.cells" 35 5 "framerooms.house" 720 468
noncomputable abbrev aa6:=dF "used" "House.used" 35 6
noncomputable abbrev RN:=y6 "used" 795 "House.used" 236 1 470
noncomputable abbrev Qr:=dM "used" "House.used" 35 6 "framerooms.house" 720 473
noncomputable abbrev abk:=kT #[bP "self" 804]
noncomputable abbrev Xp:=dF "left" "House.left" 35 7
noncomputable abbrev QS:=m8 "left" "House.left" 801 239 1 475 805
noncomputable abbrev QG:=dM "left" "House.left" 35 7 "framerooms.house" 720 480
noncomputable abbrev Zf:=kT #[bP "self" 811]
noncomputable abbrev WL:=dF "limit" "House.limit" 35 8
noncomputable abbrev Zg:=m8 "limit" "House.limit" 808 242 1 482 812
noncomputable abbrev Zx:=dM "limit" "House.limit" 35 8 "framerooms.house" 720 487
noncomputable abbrev Yw:=kT #[bP "self" 818]
noncomputable abbrev ac5:=dF "greatest" "House.greatest" 35 9
noncomputable abbrev Qe:=m8 "greatest" "House.greatest" 815 245 1 489 819
noncomputable abbrev Qj:=dM "greatest" "House.greatest" 35 9 "framerooms.house" 720 494
noncomputable abbrev aao:=dF "rooms" "House.rooms" 35 10
noncomputable abbrev Qo:=y6 "rooms" 822 "House.rooms" 248 2 496
noncomputable abbrev Pu:=dM "rooms" "House.rooms" 35 10 "framerooms.house" 720 499
noncomputable abbrev abo:=dF "picture" "House.picture" 35 11
noncomputable abbrev R_:=y6 "picture" 828 "House.picture" 252 1 501
noncomputable abbrev Rr:=dM "picture" "House.picture" 35 11 "framerooms.house" 720 504
noncomputable abbrev adx:=dF "picture_of" "House.picture_of" 35 12
noncomputable abbrev Q9:=y6 "picture_of" 834 "House.picture_of" 255 2 506
noncomputable abbrev SU:=dM "picture_of" "House.picture_of" 35 12 "framerooms.house" 720 509
noncomputable abbrev abh:=kT #[bP "self" 843]
noncomputable abbrev aak:=dF "twin" "House.twin" 35 13
noncomputable abbrev aaH:=m8 "twin" "House.twin" 840 258 1 511 844
noncomputable abbrev Wn:=dM "twin" "House.twin" 35 13 "framerooms.house" 720 516
noncomputable abbrev ac2:=gS "self" 850 "thing"
noncomputable abbrev abG:=dF "is_way" "House.is_way" 35 14
noncomputable abbrev PK:=m8 "is_way" "House.is_way" 847 261 2 518 852
noncomputable abbrev P6:=dM "is_way" "House.is_way" 35 14 "framerooms.house" 720 523
noncomputable abbrev Xn:=gS "self" 858 "thing"
noncomputable abbrev W_:=dF "is_value" "House.is_value" 35 15
noncomputable abbrev Po:=m8 "is_value" "House.is_value" 855 264 2 525 860
noncomputable abbrev Py:=dM "is_value" "House.is_value" 35 15 "framerooms.house" 720 530
noncomputable abbrev aa1:=kT #[bP "self" 866,bP "thing" 867,bP "taker" 868]
noncomputable abbrev acX:=dF "want_room" "House.want_room" 35 16
noncomputable abbrev R5:=m8 "want_room" "House.want_room" 863 267 2 532 869
noncomputable abbrev RS:=dM "want_room" "House.want_room" 35 16 "framerooms.house" 720 537
noncomputable abbrev aaz:=yZ "bound" 872 "floors" "lengths" "peak"
noncomputable abbrev Qw:=ML [jF P "__module__" 733 (bP "framerooms.house" 720),jF P "__firstlineno__" 737 (.int 193 736),cv P "__init__" 745 434,cv P "make" 757 441,cv P "get" 767 448,cv P "put" 778 455,cv P "size" 786 462,cv P "cells" 794 469,cv P "used" 800 474,cv P "left" 807 481,cv P "limit" 814 488,cv P "greatest" 821 495,cv P "rooms" 827 500,cv P "picture" 833 505,cv P "picture_of" 839 510,cv P "twin" 846 517,cv P "is_way" 854 524,cv P "is_value" 862 531,cv P "want_room" 871 538,cv P "__static_attributes__" 876 539,jF P "__doc__" 877 (.none)] 2
noncomputable abbrev Qm:Obj:={cls:= .type "type",data:=Data.cls {name:=Str.ofString "House",bases:=[.ref 416],mro:=[.ref 541,.ref 416,.type "object"],ns:=540,qualname:=Str.ofString "House"},slots:= #[some (.ref 421),none,some (bP "House" 726),some (bP "House" 734),some (.builtin "object.__new__"),some (.bool true)]}
noncomputable abbrev aa9:=kY 541
noncomputable abbrev X_:=lh 541
noncomputable abbrev ab5:=gS "room" 883 "thing"
noncomputable abbrev abt:=ff "want_cell" 36
noncomputable abbrev PY:=i3 "want_cell" 880 274 2 544 885
noncomputable abbrev Sd:=eY "want_cell" 36 "framerooms.house" 720 549
noncomputable abbrev Wk:=gS "_law_script" 893 "_law_k"
noncomputable abbrev aac:=ff "_law_cell" 38
noncomputable abbrev Q3:=i3 "_law_cell" 890 278 2 551 895
noncomputable abbrev Ro:=eY "_law_cell" 38 "law_framerooms_k27_kept_and_why" 888 556
noncomputable abbrev abz:=kT #[bP "_law_cell_here" 901]
noncomputable abbrev Zp:=ff "_law_box" 39
noncomputable abbrev QR:=i3 "_law_box" 898 282 1 558 902
noncomputable abbrev Sl:=eY "_law_box" 39 "law_framerooms_k27_kept_and_why" 888 563
noncomputable abbrev WR:=yZ "_law_box_here" 908 "_law_many" "_law_digit" "_law_number"
noncomputable abbrev aaB:=ff "_law_take" 40
noncomputable abbrev Pm:=i3 "_law_take" 905 284 2 565 912
noncomputable abbrev Sa:=eY "_law_take" 40 "law_framerooms_k27_kept_and_why" 888 570
noncomputable abbrev aag:=ff "_law_names" 41
noncomputable abbrev QP:=lK "_law_names" 915 293 2 572
noncomputable abbrev Px:=eY "_law_names" 41 "law_framerooms_k27_kept_and_why" 888 575
noncomputable abbrev ado:=kT #[bP "_law_limit" 924]
noncomputable abbrev Zw:=ff "_law_world" 42
noncomputable abbrev PQ:=i3 "_law_world" 921 307 1 577 925
noncomputable abbrev RI:=eY "_law_world" 42 "law_framerooms_k27_kept_and_why" 888 582
noncomputable abbrev aas:=kT #[bP "_law_world_here" 931,bP "_law_frame" 932,bP "_law_found" 933]
noncomputable abbrev ady:=ff "_law_row" 43
noncomputable abbrev QI:=i3 "_law_row" 928 309 2 584 934
noncomputable abbrev QD:=eY "_law_row" 43 "law_framerooms_k27_kept_and_why" 888 589
noncomputable abbrev aaW:=ff "_law_standing" 44
noncomputable abbrev Sw:=lK "_law_standing" 937 314 1 591
noncomputable abbrev Q6:=eY "_law_standing" 44 "law_framerooms_k27_kept_and_why" 888 594
noncomputable abbrev ZG:=ff "_law_used" 45
noncomputable abbrev Rh:=lK "_law_used" 943 316 1 596
noncomputable abbrev R3:=eY "_law_used" 45 "law_framerooms_k27_kept_and_why" 888 599
noncomputable abbrev aav:=gS "_law_world_here" 952 "_law_frame"
noncomputable abbrev WQ:=ff "_law_begun" 46
noncomputable abbrev Qp:=i3 "_law_begun" 949 318 2 601 954
noncomputable abbrev Pn:=eY "_law_begun" 46 "law_framerooms_k27_kept_and_why" 888 606
noncomputable abbrev abC:=yZ "_law_world_here" 960 "_law_frame" "_law_size" "_law_way"
noncomputable abbrev aau:=ff "_law_given" 47
noncomputable abbrev Pz:=i3 "_law_given" 957 324 3 608 964
noncomputable abbrev Q_:=eY "_law_given" 47 "law_framerooms_k27_kept_and_why" 888 613
noncomputable abbrev acN:=ff "_law_ended" 48
noncomputable abbrev Ru:=lK "_law_ended" 967 331 2 615
noncomputable abbrev Qg:=eY "_law_ended" 48 "law_framerooms_k27_kept_and_why" 888 618
noncomputable abbrev YJ:=ff "_law_picture" 49
noncomputable abbrev P0:=lK "_law_picture" 973 339 1 620
noncomputable abbrev R6:=eY "_law_picture" 49 "law_framerooms_k27_kept_and_why" 888 623
noncomputable abbrev aaI:=kT #[bP "_law_world_here" 982,bP "_law_found" 983,bP "_law_frame" 984]
noncomputable abbrev abv:=ff "_law_all_rooms" 50
noncomputable abbrev R1:=i3 "_law_all_rooms" 979 345 1 625 985
noncomputable abbrev P7:=eY "_law_all_rooms" 50 "law_framerooms_k27_kept_and_why" 888 630
noncomputable abbrev Zu:=yZ "_law_box_here" 991 "_law_world_here" "_law_kind" "_law_some"
noncomputable abbrev aan:=ff "_law_value" 51
noncomputable abbrev Rk:=i3 "_law_value" 988 350 2 632 995
noncomputable abbrev QQ:=eY "_law_value" 51 "law_framerooms_k27_kept_and_why" 888 637
noncomputable abbrev acJ:=kT #[bP "_law_box_here" 1001,bP "_law_house" 1002,bP "_law_world_here" 1003,bP "_law_kind" 1004,bP "_law_standing_here" 1005,bP "_law_frame" 1006,bP "_law_some" 1007,bP "_law_size" 1008,bP "_law_way" 1009,bP "_law_k" 1010,bP "_law_value_here" 1011]
noncomputable abbrev XG:=ff "_law_deed" 52
noncomputable abbrev RC:=i3 "_law_deed" 998 362 3 639 1012
noncomputable abbrev PF:=eY "_law_deed" 52 "law_framerooms_k27_kept_and_why" 888 644
noncomputable abbrev XQ:=ff "_law_hands" 53
noncomputable abbrev Qn:=lK "_law_hands" 1015 381 2 646
noncomputable abbrev SJ:=eY "_law_hands" 53 "law_framerooms_k27_kept_and_why" 888 649
noncomputable abbrev adw:=ff "_law_inner" 54
noncomputable abbrev SS:=lK "_law_inner" 1021 386 2 651
noncomputable abbrev Su:=eY "_law_inner" 54 "law_framerooms_k27_kept_and_why" 888 654
noncomputable abbrev abB:=ff "_law_steps" 55
noncomputable abbrev R7:=lK "_law_steps" 1027 388 3 656
noncomputable abbrev PU:=eY "_law_steps" 55 "law_framerooms_k27_kept_and_why" 888 659
noncomputable abbrev ab2:=ff "_law_kept" 56
noncomputable abbrev Qu:=lK "_law_kept" 1033 396 3 661
noncomputable abbrev Ri:=eY "_law_kept" 56 "law_framerooms_k27_kept_and_why" 888 664
noncomputable abbrev YQ:=kT #[bP "_law_box_here" 1042,bP "_law_limit" 1043,bP "_law_house" 1044,bP "_law_world_here" 1045,bP "_law_turn" 1046]
noncomputable abbrev aap:=ff "_law_scene" 57
noncomputable abbrev SG:=i3 "_law_scene" 1039 413 1 666 1047
noncomputable abbrev Sg:=eY "_law_scene" 57 "law_framerooms_k27_kept_and_why" 888 671
noncomputable abbrev adk:=kT #[bP "_law_box_here" 1053,bP "_law_house" 1054,bP "_law_world_here" 1055,bP "_law_hands_here" 1056,bP "_law_standing_here" 1057,bP "_law_last" 1058,bP "_law_many" 1059,bP "_law_turn" 1060,bP "_law_frame" 1061,bP "_law_way" 1062,bP "_law_k" 1063]
noncomputable abbrev aba:=ff "_law_chained" 58
noncomputable abbrev RV:=i3 "_law_chained" 1050 421 4 673 1064
noncomputable abbrev RT:=eY "_law_chained" 58 "law_framerooms_k27_kept_and_why" 888 678
noncomputable abbrev Y6:=kT #[bP "_law_world_here" 1070,bP "_law_hands_here" 1071,bP "_law_row_here" 1072,bP "_law_one" 1073,bP "_law_other" 1074]
noncomputable abbrev adl:=ff "_law_walks" 59
noncomputable abbrev RP:=i3 "_law_walks" 1067 440 3 680 1075
noncomputable abbrev SN:=eY "_law_walks" 59 "law_framerooms_k27_kept_and_why" 888 685
noncomputable abbrev abc:=kT #[bP "_law_house" 1081,bP "_law_world_here" 1082,bP "_law_hands_here" 1083,bP "_law_other" 1084,bP "_law_frame" 1085,bP "_law_some" 1086,bP "_law_due" 1087,bP "_law_handed" 1088,bP "_law_found" 1089,bP "_law_way" 1090]
noncomputable abbrev YG:=ff "_law_right" 60
noncomputable abbrev Rn:=i3 "_law_right" 1078 450 3 687 1091
noncomputable abbrev Se:=eY "_law_right" 60 "law_framerooms_k27_kept_and_why" 888 692
noncomputable abbrev YZ:=kT #[bP "_law_script" 1097,bP "_law_beside" 1098,bP "_law_k" 1099,bP "_law_box_here" 1100,bP "_law_scene_here" 1101]
noncomputable abbrev Wt:=ff "law" 61
noncomputable abbrev RM:=i3 "law" 1094 467 1 694 1102
noncomputable abbrev QZ:=eY "law" 61 "law_framerooms_k27_kept_and_why" 888 699
noncomputable def Lw(t:List Obj):List Obj:=boot_o_4 P::boot_o_5 P::boot_o_6 P::boot_o_7 P::boot_o_8 P::boot_o_9 P::boot_o_10 P::aL::t
noncomputable def FJ(t:List Obj):List Obj:=aL::bN::ah7::aL::af9::agd::aeI::agm::va::ag0 P::aL::ahw::ae4::agQ::aL::bN::ahl::aL::ahP::aiD::aiq::aL::aiQ P::t
noncomputable def GI(t:List Obj):List Obj:=aiR::afN::agp::Av::va::ahC P::aL::afG::ahW::ag_::aL::bN::agl::aL::aiN::ag8::aih::ag3::ai4 P::ae5::ain::aeT::Av::va::aiz P::aL::agY::aeM::agW::aL::bN::aiA::aL::ai5::agX::ahG::agr::afp P::ae_::ahL::agg::Av::va::af7 P::aL::ahA::ahS::ae8::aL::bN::aiM::aL::agB::agI::afl::agZ::afs P::aib::ahh::ahk::Av::va::XR P::aL::Zj::adp::aa5::aL::bN::ZY::aL::Xy::Xb::WU::Wv::WV P::abx::aa_::ack::Av::va::Xm P::aL::abw::aad::XT::aL::bN::ada::aL::acY::Yb::XH::aL::Zz P::XY::ZN::aby::Av::va::ac9 P::aL::aaV::abj::acV::aL::bN::XZ::aL::Wr::Yn::Yc::Wz::adv P::abV::WJ::aa3::Av::va::aal P::aL::W0::acm::aaX::aL::bN::Zy::aL::ab3::adb::abe::XW::WS P::Ze::Xr::Zb::t
noncomputable def Es(t:List Obj):List Obj:=Av::va::Xw P::aL::abL::ZH::YU::aL::bN::Yl::aL::abq::YI::ZS::YR::abS P::abg::acK::abN::Av::va::ZJ P::aL::Yu::ZC::adA::aL::bN::ZZ::aL::aa4::X0::YV::acL::ab6 P::ZL::WC::acQ::Av::va::Zk P::aL::acA::Yo::adn::aL::bN::Yr::aL::abJ::acW::Ww::YN::Yz P::ab1::adE::abY::aL::bN::YW::aL::Zi::SE::So::aL::bN::Zt::aL::ach::RZ::Sv::aL::bN::WN::Sb::RU::aL::bN::aae::aL::acx::Rt::PZ::aL::bN::X4::aL::WI::Qk::QF::aL::bN::Xh::QL::RG::t
noncomputable def KO(t:List Obj):List Obj:=aL::bN::aaC::aL::YO::Rj::RW::aL::bN::Zd::aL::abp::Pp::RL::aL::bN::acE::Ry::RX::aL::bN::XF::aL::ac4::RH::QX::aL::bN::acR::Rf::RE::aL::va::Xs P::aL::Y_::aaw::aaF::aL::bN::YS::aL::YH::Sn::SQ::aL::bN::aaL::aL::Wh::R4::Ra::aL::bN::Yi::aL::abQ::Rz::Sj::aL::bN::aaE::RK::Qq::aL::bN::XU::aL::Zr::SK::QH::aL::bN::YT::aL::Yx::Sr::Ss::aL::bN::ZQ::ac7::Xo::aL::bN::YD::aL::acf::QK::Rl::aL::bN::Ye::aL::abf::Sz::Qy::aL::bN::abP::SD::Si::aL::bN::abn::aL::aca::SH::PH::aL::bN::ZT::aL::X3::P9::Sx::aL::bN::adt::aL::acu::Rq::Sh::aL::bN::Yk::aL::XM::PL::Sm::aL::bN::ZF::aL::adu::Qv::Qa::aL::bN::X5::aL::XI::Qc::Pt::Zq::Q7 P::t
noncomputable def Lr(t:List Obj):List Obj:=aar::XC::ab4::abu::t
noncomputable def pE:Heap:=⟨⟨boot_o_0 P::boot_o_1 P::boot_o_2 P::boot_o_3 P::Lw P (bN::Jt::Le::[])⟩,{}⟩
noncomputable def zb:Heap:=⟨⟨boot_o_0 P::boot_o_1 P::boot_o_2 P::Mv P::Lw P (ac1::Jt::Le::FJ P (ahQ::GI P ([])))⟩,{}⟩
noncomputable def uX:Heap:=⟨⟨boot_o_0 P::boot_o_1 P::boot_o_2 P::aft P::Lw P (T7::Jt::Le::FJ P (J6::GI P (Es P ([]))))⟩,{}⟩
noncomputable def u5:Heap:=⟨⟨boot_o_0 P::boot_o_1 P::boot_o_2 P::Xg P::Lw P (Pd::Jt::Le::FJ P (J6::GI P (Es P (KO P (YE::Lr ([]))))))⟩,{}⟩
noncomputable def cM:Heap:=⟨⟨boot_o_0 P::boot_o_1 P::boot_o_2 P::Kj P::Lw P (Lg::Jt::Le::FJ P (J6::GI P (Es P (KO P (Jn::Lr (ZU::va::abA P::aL::acr::aaR::WH::aL::bN::ZD::aL::aaG::RY::QT::aL::bN::acG::aL::Yv::Qb::Qz::aL::bN::Yd::aL::XA::ace::WG::aL::bN::Ym::aL::ZM::Qh::PB::aL::bN::aci::aL::acS::Wo::adC::aL::bN::Xi::aL::X2::SF::QE::aL::bN::aa6::RN::Qr::aL::bN::abk::aL::Xp::QS::QG::aL::bN::Zf::aL::WL::Zg::Zx::aL::bN::Yw::aL::ac5::Qe::Qj::aL::bN::aao::Qo::Pu::aL::bN::abo::R_::Rr::aL::bN::adx::Q9::SU::aL::bN::abh::aL::aak::aaH::Wn::aL::bN::ac2::aL::abG::PK::P6::aL::bN::Xn::aL::W_::Po::Py::aL::bN::aa1::aL::acX::R5::RS::aaz::Qw P::Qm::aa9::X_::aL::bN::ab5::aL::abt::PY::Sd::aL::bN::Wk::aL::aac::Q3::Ro::aL::bN::abz::aL::Zp::QR::Sl::aL::bN::WR::aL::aaB::Pm::Sa::aL::bN::aag::QP::Px::aL::bN::ado::aL::Zw::PQ::RI::aL::bN::aas::aL::ady::QI::QD::aL::bN::aaW::Sw::Q6::aL::bN::ZG::Rh::R3::aL::bN::aav::aL::WQ::Qp::Pn::aL::bN::abC::aL::aau::Pz::Q_::aL::bN::acN::Ru::Qg::aL::bN::YJ::P0::R6::aL::bN::aaI::aL::abv::R1::P7::aL::bN::Zu::aL::aan::Rk::QQ::aL::bN::acJ::aL::XG::RC::PF::aL::bN::XQ::Qn::SJ::aL::bN::adw::SS::Su::aL::bN::abB::R7::PU::aL::bN::ab2::Qu::Ri::aL::bN::YQ::aL::aap::SG::Sg::aL::bN::adk::aL::aba::RV::RT::aL::bN::Y6::aL::adl::RP::SN::aL::bN::abc::aL::YG::Rn::Se::aL::bN::YZ::aL::Wt::RM::QZ::[]))))))⟩,{}⟩
end
noncomputable abbrev kr:Program:=PySem.Challenge.rw_framerooms_k27_kept_and_why.row.prog
noncomputable def nE:Env:={scope:=kr.main.scope,locals:=mainNs,globals:=mainNs,cells:=[],code:=Value.ref 13,frame:=some 14}
noncomputable def we:List Stmt:=behindTheImports kr
noncomputable def Be:Code:=Code.body we nE
noncomputable def jv:aQ:=some (Value.ref 6)
noncomputable abbrev HW:Pos:={line:=0,col:=0,endLine:=0,endCol:=0}
theorem Kl(w:World)(os:OsState):topGo treeTable kr w 11 jv 12 ⟨boot_heap w.params,⟨[]⟩,boot_drawn,boot_toks,os⟩ (topStub kr)=some (⟨pE w.params,⟨[]⟩,{},187,os⟩,⟨denote treeTable Be,Be,{line:=0,col:=0,endLine:=0,endCol:=0},[topFrame HW]⟩):=by kernel_rfl
theorem ED(w:World)(os:OsState):segRun treeTable kr w 11 jv 1 1 ⟨pE w.params,⟨[]⟩,{},187,os⟩ (blockOf we nE Be {line:=0,col:=0,endLine:=0,endCol:=0} [topFrame HW])=some (.next,⟨pE w.params,⟨[]⟩,{},187,os⟩,Be,{line:=0,col:=0,endLine:=0,endCol:=0}):=by kernel_rfl
theorem UK(w:World)(os:OsState):segRun treeTable kr w 11 jv 1 1973 ⟨pE w.params,⟨[]⟩,{},187,os⟩ (piecesOf ((we.drop 0).take 10) nE Be {line:=0,col:=0,endLine:=0,endCol:=0} [topFrame HW])=some (.next,⟨zb w.params,⟨[]⟩,{},399,os⟩,Be,{line:=39,col:=0,endLine:=44,endCol:=26}):=by kernel_rfl
theorem NS(w:World)(os:OsState):segRun treeTable kr w 11 jv 1 942 ⟨zb w.params,⟨[]⟩,{},399,os⟩ (piecesOf ((we.drop 10).take 13) nE Be {line:=39,col:=0,endLine:=44,endCol:=26} [topFrame HW])=some (.next,⟨uX w.params,⟨[]⟩,{},524,os⟩,Be,{line:=78,col:=0,endLine:=86,endCol:=16}):=by kernel_rfl
theorem M8(w:World)(os:OsState):segRun treeTable kr w 11 jv 1 889 ⟨uX w.params,⟨[]⟩,{},524,os⟩ (piecesOf ((we.drop 23).take 11) nE Be {line:=78,col:=0,endLine:=86,endCol:=16} [topFrame HW])=some (.next,⟨u5 w.params,⟨[]⟩,{},724,os⟩,Be,{line:=191,col:=0,endLine:=191,endCol:=10}):=by kernel_rfl
theorem OQ(w:World)(os:OsState):segRun treeTable kr w 11 jv 1 1524 ⟨u5 w.params,⟨[]⟩,{},724,os⟩ (piecesOf ((we.drop 34).take 28) nE Be {line:=191,col:=0,endLine:=191,endCol:=10} [topFrame HW])=some (.next,⟨cM w.params,⟨[]⟩,{},1105,os⟩,Be,{line:=467,col:=0,endLine:=481,endCol:=15}):=by kernel_rfl
theorem KH(w:World)(os:OsState):topRun treeTable kr w 11 jv 2 ⟨cM w.params,⟨[]⟩,{},1105,os⟩ ⟨doneF .next,Be,{line:=467,col:=0,endLine:=481,endCol:=15},[topFrame HW]⟩=some ⟨cM w.params,⟨[]⟩,{},1105,os⟩:=by kernel_rfl
theorem acU(w:World)(os:OsState):topRun treeTable kr w 11 jv 2 ⟨cM w.params,⟨[]⟩,{},1105,os⟩ (restOf [] nE Be {line:=467,col:=0,endLine:=481,endCol:=15} [topFrame HW])=some ⟨cM w.params,⟨[]⟩,{},1105,os⟩:=piece_nil (KH w os)
theorem Xd:we.drop 62=[]:=by kernel_rfl
theorem G4:((we.drop 34).take 28)++([])=we.drop 34:=by rw[←Xd];have:=t9 28 (we.drop 34);rwa[w6] at this
theorem LN(w:World)(os:OsState):topRun treeTable kr w 11 jv (1524+2) ⟨u5 w.params,⟨[]⟩,{},724,os⟩ (restOf (we.drop 34) nE Be {line:=191,col:=0,endLine:=191,endCol:=10} [topFrame HW])=some ⟨cM w.params,⟨[]⟩,{},1105,os⟩:=by rw[←G4];exact piece_app (OQ w os) (acU w os)
theorem G8:((we.drop 23).take 11)++(we.drop 34)=we.drop 23:=by have:=t9 11 (we.drop 23);rwa[w6] at this
theorem Ke(w:World)(os:OsState):topRun treeTable kr w 11 jv (889+(1524+2)) ⟨uX w.params,⟨[]⟩,{},524,os⟩ (restOf (we.drop 23) nE Be {line:=78,col:=0,endLine:=86,endCol:=16} [topFrame HW])=some ⟨cM w.params,⟨[]⟩,{},1105,os⟩:=by rw[←G8];exact piece_app (M8 w os) (LN w os)
theorem HP:((we.drop 10).take 13)++(we.drop 23)=we.drop 10:=by have:=t9 13 (we.drop 10);rwa[w6] at this
theorem LU(w:World)(os:OsState):topRun treeTable kr w 11 jv (942+(889+(1524+2))) ⟨zb w.params,⟨[]⟩,{},399,os⟩ (restOf (we.drop 10) nE Be {line:=39,col:=0,endLine:=44,endCol:=26} [topFrame HW])=some ⟨cM w.params,⟨[]⟩,{},1105,os⟩:=by rw[←HP];exact piece_app (NS w os) (Ke w os)
theorem KA:((we.drop 0).take 10)++(we.drop 10)=we.drop 0:=by have:=t9 10 (we.drop 0);rwa[w6] at this
theorem Nk(w:World)(os:OsState):topRun treeTable kr w 11 jv (1973+(942+(889+(1524+2)))) ⟨pE w.params,⟨[]⟩,{},187,os⟩ (restOf (we.drop 0) nE Be {line:=0,col:=0,endLine:=0,endCol:=0} [topFrame HW])=some ⟨cM w.params,⟨[]⟩,{},1105,os⟩:=by rw[←KA];exact piece_app (UK w os) (LU w os)
theorem TN(w:World)(os:OsState):topRun treeTable kr w 11 jv (1+(1973+(942+(889+(1524+2))))) ⟨pE w.params,⟨[]⟩,{},187,os⟩ ⟨denote treeTable Be,Be,{line:=0,col:=0,endLine:=0,endCol:=0},[topFrame HW]⟩=some ⟨cM w.params,⟨[]⟩,{},1105,os⟩:=piece_block (ED w os) (Nk w os)
theorem WX(w:World)(os:OsState):topRun treeTable kr w 11 jv (12+(1+(1973+(942+(889+(1524+2)))))) ⟨boot_heap w.params,⟨[]⟩,boot_drawn,boot_toks,os⟩ (topStub kr)=some ⟨cM w.params,⟨[]⟩,{},1105,os⟩:=go_top (Kl w os) (TN w os)
theorem Uh:PySem.Challenge.rw_framerooms_k27_kept_and_why.wellSaid=true:=by decide+kernel
end hd
noncomputable def EG:PySem.Params→Frag:=fun P=>(nat_lit 2,PySem.W.boot_o_2 P)::(nat_lit 3,Kj P)::(nat_lit 237,SE)::(nat_lit 238,So)::(nat_lit 244,RZ)::(nat_lit 245,Sv)::(nat_lit 249,Sb)::(nat_lit 250,RU)::(nat_lit 256,Rt)::(nat_lit 257,PZ)::(nat_lit 263,Qk)::(nat_lit 264,QF)::(nat_lit 268,QL)::(nat_lit 269,RG)::(nat_lit 275,Rj)::(nat_lit 276,RW)::(nat_lit 282,Pp)::(nat_lit 283,RL)::(nat_lit 287,Ry)::(nat_lit 288,RX)::(nat_lit 294,RH)::(nat_lit 295,QX)::(nat_lit 299,Rf)::(nat_lit 300,RE)::(nat_lit 313,Sn)::(nat_lit 314,SQ)::(nat_lit 320,R4)::(nat_lit 321,Ra)::(nat_lit 327,Rz)::(nat_lit 328,Sj)::(nat_lit 332,RK)::(nat_lit 333,Qq)::(nat_lit 339,SK)::(nat_lit 340,QH)::(nat_lit 346,Sr)::(nat_lit 347,Ss)::(nat_lit 358,QK)::(nat_lit 359,Rl)::(nat_lit 365,Sz)::(nat_lit 366,Qy)::(nat_lit 370,SD)::(nat_lit 371,Si)::(nat_lit 377,SH)::(nat_lit 378,PH)::(nat_lit 384,P9)::(nat_lit 385,Sx)::(nat_lit 391,Rq)::(nat_lit 392,Sh)::(nat_lit 398,PL)::(nat_lit 399,Sm)::(nat_lit 405,Qv)::(nat_lit 406,Qa)::(nat_lit 412,Qc)::(nat_lit 413,Pt)::(nat_lit 415,Q7 P)::(nat_lit 416,Jn)::(nat_lit 433,RY)::(nat_lit 434,QT)::(nat_lit 440,Qb)::(nat_lit 441,Qz)::(nat_lit 454,Qh)::(nat_lit 455,PB)::(nat_lit 468,SF)::(nat_lit 469,QE)::(nat_lit 473,RN)::(nat_lit 474,Qr)::(nat_lit 480,QS)::(nat_lit 481,QG)::(nat_lit 494,Qe)::(nat_lit 495,Qj)::(nat_lit 499,Qo)::(nat_lit 500,Pu)::(nat_lit 504,R_)::(nat_lit 505,Rr)::(nat_lit 509,Q9)::(nat_lit 510,SU)::(nat_lit 523,PK)::(nat_lit 524,P6)::(nat_lit 530,Po)::(nat_lit 531,Py)::(nat_lit 537,R5)::(nat_lit 538,RS)::(nat_lit 540,Qw P)::(nat_lit 541,Qm)::(nat_lit 549,PY)::(nat_lit 550,Sd)::(nat_lit 556,Q3)::(nat_lit 557,Ro)::(nat_lit 563,QR)::(nat_lit 564,Sl)::(nat_lit 570,Pm)::(nat_lit 571,Sa)::(nat_lit 575,QP)::(nat_lit 576,Px)::(nat_lit 582,PQ)::(nat_lit 583,RI)::(nat_lit 589,QI)::(nat_lit 590,QD)::(nat_lit 594,Sw)::(nat_lit 595,Q6)::(nat_lit 599,Rh)::(nat_lit 600,R3)::(nat_lit 606,Qp)::(nat_lit 607,Pn)::(nat_lit 613,Pz)::(nat_lit 614,Q_)::(nat_lit 618,Ru)::(nat_lit 619,Qg)::(nat_lit 623,P0)::(nat_lit 624,R6)::(nat_lit 630,R1)::(nat_lit 631,P7)::(nat_lit 637,Rk)::(nat_lit 638,QQ)::(nat_lit 644,RC)::(nat_lit 645,PF)::(nat_lit 649,Qn)::(nat_lit 650,SJ)::(nat_lit 654,SS)::(nat_lit 655,Su)::(nat_lit 659,R7)::(nat_lit 660,PU)::(nat_lit 664,Qu)::(nat_lit 665,Ri)::(nat_lit 671,SG)::(nat_lit 672,Sg)::(nat_lit 678,RV)::(nat_lit 679,RT)::(nat_lit 685,RP)::(nat_lit 686,SN)::(nat_lit 692,Rn)::(nat_lit 693,Se)::(nat_lit 699,RM)::(nat_lit 700,QZ)::[]
noncomputable def UM:aH:=[2,3,237,238,244,245,249,250,256,257,263,264,268,269,275,276,282,283,287,288,294,295,299,300,313,314,320,321,327,328,332,333,339,340,346,347,358,359,365,366,370,371,377,378,384,385,391,392,398,399,405,406,412,413,415,416,433,434,440,441,454,455,468,469,473,474,480,481,494,495,499,500,504,505,509,510,523,524,530,531,537,538,540,541,549,550,556,557,563,564,570,571,575,576,582,583,589,590,594,595,599,600,606,607,613,614,618,619,623,624,630,631,637,638,644,645,649,650,654,655,659,660,664,665,671,672,678,679,685,686,692,693,699,700]
theorem GQ:∀P,UM=(EG P).map (·.1):=fun _=>by kernel_rfl
noncomputable def oq:PySem.Program:={PySem.Challenge.pw_framerooms_k27_kept_and_why with main:={PySem.Challenge.pw_framerooms_k27_kept_and_why.main with body:=[top 0,top 2,top 3,top 4,top 5,top 6,top 7,top 8,top 9,top 10,top 11,top 12,top 14,top 15,top 16,top 17,top 18,top 19,top 20,top 22,top 23,top 24,top 25,top 26,top 27,top 29,top 30,top 31,top 33,top 34,top 35,top 36,top 38,top 39,top 40,top 41,top 42,top 43,top 44,top 45,top 46,top 47,top 48,top 49,top 50,top 51,top 52,top 53,top 54,top 55,top 56,top 57,top 58,top 59,top 60,top 61]}}
noncomputable abbrev nJ:PySem.W.Hook:=PySem.W.kHook EG UM GQ
theorem NJ(w:PySem.World):(fun os:PySem.OsState=>((PySem.W.staticsOk (importedModules kr.main.body) (PySem.W.boot_heap w.params) (cM w.params)&&PySem.W.namesBound kr (cM w.params)&&PySem.W.gensDone ⟨cM w.params,⟨[]⟩,{},1105,os⟩&&PySem.W.laidKept (PySem.W.boot_heap w.params) (cM w.params)),PySem.W.openSeen oq [] (importedModules kr.main.body) (fun s=>PySem.W.xlAt oq [] s&&PySem.W.recOk (PySem.W.RowW.records PySem.Challenge.rw_framerooms_k27_kept_and_why.row.toRowW) s) true ⟨cM w.params,⟨[]⟩,{},1105,os⟩,nJ.obs ⟨cM w.params,⟨[]⟩,{},1105,os⟩))=fun _=>(true,PySem.W.openGood oq [],nJ.val w):=by kernel_rfl
theorem U0:PySem.W.LeftO PySem.Challenge.rw_framerooms_k27_kept_and_why.row.prog oq [] (fun s=>PySem.W.xlAt oq [] s&&PySem.W.recOk (PySem.W.RowW.records PySem.Challenge.rw_framerooms_k27_kept_and_why.row.toRowW) s) nJ.obs nJ.val 10774:=PySem.W.LeftO.of_pieces (H₀:=PySem.W.boot_heap) (H₁:=cM) (gs₁:=⟨[]⟩) (d₁:={}) (k₁:=1105) (m₀:=11) (ann:=jv) (PySem.W.boot_open rfl (by decide) (fun _=>rfl)) (fun _=>by kernel_rfl) WX (by decide) NJ
end My
namespace L2
open PySem PySem.Spec PyProof.Rows
noncomputable abbrev ww:=Sum Int Str
noncomputable def nI:ww→Value→Bool
 | .inl k,v=>Value.isInt k v
 | .inr x,v=>Value.isStrOf x v
noncomputable def ait(w:World):ww→Int
 | .inl k=>hashInt k
 | .inr x=>hashStr w x
theorem dN:∀{k:ww} {v:Value},nI k v=true→(∃i t,k=Sum.inl i∧v=Value.int i t)∨(∃x t,k=Sum.inr x∧v=Value.str x t)
 | .inl i,v,h=>by
  obtain⟨t,e⟩:=Value.isInt_shape (k:=i) (v:=v) h;exact .inl ⟨i,t,rfl,e⟩
 | .inr x,v,h=>by
  obtain⟨t,e⟩:=Value.isStrOf_shape (x:=x) (v:=v) h;exact .inr ⟨x,t,rfl,e⟩
theorem IJ(i:Int)(t:Tok):nI (.inl i) (.int i t)=true:=by simp[nI,Value.isInt]
theorem Ir(x:Str)(t:Tok):nI (.inr x) (.str x t)=true:=by simp[nI,Value.isStrOf]
theorem Ua(a b:Int):decide ((Sum.inl a:ww)=Sum.inl b)=(a==b):=by
 by_cases e:a=b
 ·subst e;simp
 ·have h:¬(Sum.inl a:ww)=Sum.inl b:=fun q=>e (Sum.inl.inj q);rw[eZ h];exact(pI.mpr e).symm
theorem Uc(a b:Str):decide ((Sum.inr a:ww)=Sum.inr b)=decide (a=b):=by
 by_cases e:a=b
 ·subst e;simp
 ·have h:¬(Sum.inr a:ww)=Sum.inr b:=fun q=>e (Sum.inr.inj q);rw[eZ h,eZ e]
theorem Uq(a:Int)(b:Str):decide ((Sum.inl a:ww)=Sum.inr b)=false:=eZ (fun q=>nomatch q)
theorem UW(a:Str)(b:Int):decide ((Sum.inr a:ww)=Sum.inl b)=false:=eZ (fun q=>nomatch q)
noncomputable def bL(prog:Program)(w:World):PySem.KeyKind prog w ww where
 is:=nI
 hash:=ait w
 inj:=fun v a b ha hb=>by
  rcases dN ha with⟨i,t,rfl,rfl⟩|⟨x,t,rfl,rfl⟩
  ·rcases dN hb with⟨j,u,rfl,e⟩|⟨y,u,rfl,e⟩
   ·injection e with e1 _;rw[e1]
   ·exact nomatch e
  ·rcases dN hb with⟨j,u,rfl,e⟩|⟨y,u,rfl,e⟩
   ·exact nomatch e
   ·injection e with e1 _;rw[e1]
 byValue:=fun k v h=>by
  rcases dN h with⟨i,t,rfl,rfl⟩|⟨x,t,rfl,rfl⟩<;>rfl
 pyHash:=fun hv h=>by
  rcases dN hv with⟨i,t,rfl,rfl⟩|⟨x,t,rfl,rfl⟩
  ·exact wpAny_pyHash_int h
  ·exact wpAny_pyHash_str h
 eqBool:=fun hu hv h=>by
  rcases dN hu with⟨i,t,rfl,rfl⟩|⟨x,t,rfl,rfl⟩
  ·rcases dN hv with⟨j,u,rfl,rfl⟩|⟨y,u,rfl,rfl⟩
   ·rw[Ua] at h;exact wpAny_eqBool_int h
   ·rw[Uq] at h;exact SeqAt.EqAt.int_str i t y u _ _ _ _ h
  ·rcases dN hv with⟨j,u,rfl,rfl⟩|⟨y,u,rfl,rfl⟩
   ·rw[UW] at h;exact SeqAt.EqAt.str_int x t j u _ _ _ _ h
   ·rw[Uc] at h;exact wpAny_eqBool_str h
 «strs» :=fun k x t v h=>by
  rcases dN h with⟨i,u,rfl,e⟩|⟨y,u,rfl,e⟩
  ·exact nomatch e
  ·injection e with e1 _;subst e1;cases v<;>rfl
theorem De(prog:Program)(w:World)(i:Int)(t:Tok):(bL prog w).is (.inl i) (.int i t)=true:=IJ i t
theorem D7(prog:Program)(w:World)(x:Str)(t:Tok):(bL prog w).is (.inr x) (.str x t)=true:=Ir x t
inductive V where
 |bK|bl (b:Bool)|int (i:Int)|str (x:Str)|I0 (b:Array UInt8)|Ux (b:UInt64)|ref (a:Addr)|ty (n:String)
 deriving DecidableEq
noncomputable abbrev dw:=List (List ww×V)
noncomputable abbrev bQ:=List (ww×V)
noncomputable abbrev cO:=List (List V)
noncomputable abbrev aA:=List V
noncomputable abbrev jX:=List (Str×V)
noncomputable def RelV:V→Value→Prop
 | .bK,u=>u=Value.none
 | .bl b,u=>u=Value.bool b
 | .int i,u=>∃t,u=Value.int i t
 | .str x,u=>∃t,u=Value.str x t
 | .I0 b,u=>∃t,u=Value.bytes b t
 | .Ux b,u=>∃t,u=Value.float b t
 | .ref a,u=>u=Value.ref a
 | .ty n,u=>u=Value.type n
noncomputable abbrev Vals:aA→aP→Prop:=Paired RelV
theorem Vals.length{xs:aA}{us:aP}(r:Vals xs us):xs.length=us.length:=Paired.length r
theorem Vals.get:∀{xs:aA} {us:aP} {i:Nat} {x:V},Vals xs us→xs[i]? =some x→∃u,us[i]? =some u∧RelV x u
 |_,_,_,_,.nil,e=>by simp at e
 |_,_,0,_,.cons r _,e=>by simp at e;subst e;exact⟨_,rfl,r⟩
 |_,_,i+1,x,.cons _ t,e=>by
  obtain⟨u,h1,h2⟩:=Vals.get (i:=i) (x:=x) t (by simpa using e);exact⟨u,by simpa using h1,h2⟩
theorem Vals.set{x:V}{u:Value}(r:RelV x u):∀{xs:aA} {us:aP} (i:Nat),Vals xs us→Vals (xs.set i x) (us.set i u)
 |_,_,_,.nil=> .nil
 |_,_,0,.cons _ t=> .cons r t
 |_,_,i+1,.cons q t=> .cons q (Vals.set r i t)
theorem Vals.append:∀{xs ys:aA} {us ws:aP},Vals xs us→Vals ys ws→Vals (xs++ys) (us++ws)
 |_,_,_,_,.nil,s=>s
 |_,_,_,_,.cons r t,s=> .cons r (Vals.append t s)
theorem Vals.take:∀{xs:aA} {us:aP} (n:Nat),Vals xs us→Vals (xs.take n) (us.take n)
 |_,_,0,_=> .nil
 |_,_,_+1,.nil=> .nil
 |_,_,n+1,.cons r t=> .cons r (Vals.take n t)
theorem Vals.drop:∀{xs:aA} {us:aP} (n:Nat),Vals xs us→Vals (xs.drop n) (us.drop n)
 |_,_,0,r=>r
 |_,_,_+1,.nil=> .nil
 |_,_,n+1,.cons _ t=>Vals.drop n t
theorem Vals.none_of:∀{xs:aA} {us:aP} {i:Nat},Vals xs us→xs[i]? =none→us[i]? =none:=fun{xs us i} r e=>by
 have h1:=r.length;have h2:xs.length≤i:=BS.mp e;exact BS.mpr (by lia)
noncomputable def nq:Option V→aQ→Prop
 |some v,some u=>RelV v u
 |none,none=>True
 |_,_=>False
noncomputable def KV{κ:Type}:List (κ×V)→List (κ×Value)→Prop:=Paired fun(p:κ×V) (q:κ×Value)=>p.1=q.1∧RelV p.2 q.2
noncomputable def kV:ww→V
 | .inl i=> .int i
 | .inr x=> .str x
inductive HO where
 |lst (xs:aA)
 |tup (xs:aA)
 |dK (kvs:bQ)|dT (kvs:dw)
 |set (S:Int→Bool) (n:Nat)
 |ins (C dx:Addr) (fs:jX)
 |own (x:Addr)
 |xd (fs:jX)
 |met (f x:Addr)
 |rng (lo hi:Int)
 |eX (o:Obj) (u:HO)
 |Om (ps:Array Value)
 |ext (φ:Heap→Prop)
noncomputable abbrev Hp:=Addr→Option HO
noncomputable def upd(H:Hp)(a:Addr)(o:HO):Hp:=fun b=>if b=a then some o else H b
theorem ae{H:Hp}{a:Addr}{o:HO}:upd H a o a=some o:=by unfold upd;rw[aC rfl]
theorem af{H:Hp}{a b:Addr}{o:HO}(h:b≠a):upd H a o b=H b:=by unfold upd;rw[au h]
theorem BJ{H:Hp}{a:Addr}{o u:HO}:upd (upd H a o) a u=upd H a u:=by
 funext b;unfold upd;split<;>rfl
theorem aD{H:Hp}{a b:Addr}{o u:HO}(h:H a=some o)(h' :H b=some u)(d:o≠u):a≠b:=by
 intro e;subst e;rw[h] at h';exact d (fH h')
theorem aq{H:Hp}{a b:Addr}{o:HO}(h:H a=some o)(h' :H b=none):a≠b:=by
 intro e;subst e;rw[h] at h';cases h'
section
variable(P:Program)(w:World)
noncomputable def bx(H:Hp)(h:Heap)(a:Addr):HO→Prop
 | .lst xs=>xs.length≤sizeLine∧∃(its:aP) (n:Nat),Vals xs its∧h.get? a=some {cls:= .type "list",data:= .seq its.toArray n}
 | .tup xs=>xs.length≤sizeLine∧∃its:aP,Vals xs its∧IsTup h a its.toArray
 | .dK kvs=>kvs.length≤sizeLine∧(a==sysModules)=false∧∃vs,KV kvs vs∧h.DictOf (bL P w) a vs
 | .dT kvs=>kvs.length≤sizeLine∧(a==sysModules)=false∧∃xs:List (List ww×Addr×Value),
  Paired (fun(p:List ww×V) (q:List ww×Addr×Value)=>p.1=q.1∧H q.2.1=some (.tup (p.1.map kV))∧RelV p.2 q.2.2) kvs xs∧
  ∃o es ep,h.get? a=some o∧o.ExactDict∧o.data= .dict es ep∧es.toList=xs.map (entryOfKey (tupleKind (bL P w)))∧(xs.map (·.1)).Nodup
 | .set S n=>h.SetOf (intKind P w) a S n
 | .ins C dx fs=>H dx=some (.own a)∧fs.length≤1000∧dx≠a∧h.get? a=some (instObj C dx)∧
  ∃mA,h.Ns1 dx mA∧(∀f,nq (fs.lookup f) (mA f))∧PySem.Within mA (fs.map (·.1))
 | .own _=>∃o,h.get? a=some o
 | .xd fs=>∃mA,h.Ns1 a mA∧∀f,nq (fs.lookup f) (mA f)
 | .rng lo hi=>∃t u v,h.get? a=some {cls:= .type "range",data:= .fields #[.int lo t,.int hi u,.int 1 v]}
 | .eX o u=>h.get? a=some o∧bx H h a u
 | .Om ps=>h.get? a=some {cls:= .none,data:= .fields ps}
 | .met f x=>h.get? a=some (methodObj (.ref f) (.ref x))
 | .ext φ=>φ h∧(∃o,h.get? a=some o)∧∀h1 h2:Heap,φ h1→(∀o,h1.get? a=some o→h2.get? a=some o)→φ h2
noncomputable def qd(H:Hp)(h:Heap):Prop:=∀a o,H a=some o→bx P w H h a o
end
section
variable{P:Program}{w:World}{H H' :Hp}{h h' :Heap}{a:Addr}{o:HO}
theorem bx.lt(x:bx P w H h a o):a<h.objs.size:=by
 cases o with
 |lst xs=>obtain⟨_,_,_,_,e⟩:=x;exact bh e
 |tup xs=>obtain⟨_,_,_,p⟩:=x;exact p.lt
 |dK kvs=>obtain⟨_,_,_,_,o,_,_,e,_⟩:=x;exact bh e
 |dT kvs=>obtain⟨_,_,_,_,o,_,_,e,_⟩:=x;exact bh e
 |set S n=>obtain⟨o,_,_,_,e,_⟩:=x;exact bh e
 |ins C dx fs=>obtain⟨_,_,_,e,_⟩:=x;exact bh e
 |own y=>obtain⟨_,e⟩:=x;exact bh e
 |xd fs=>obtain⟨_,⟨_,_,_,e,_⟩,_⟩:=x;exact bh e
 |rng lo hi=>obtain⟨_,_,_,e⟩:=x;exact bh e
 |eX ob u=>obtain⟨e,_⟩:=x;exact bh e
 |Om ps=>exact bh (show h.get? a=some _ from x)
 |met f y=>exact bh (show h.get? a=some _ from x)
 |ext φ=>obtain⟨_,⟨_,e⟩,_⟩:=x;exact bh e
theorem Paired.UJ{α β:Type}{F G:α→β→Prop}:∀{l₁:List α} {zE:List β},Paired F l₁ zE→(∀a b,F a b→G a b)→Paired G l₁ zE
 |_,_,.nil,_=> .nil
 |_,_,.cons r t,f=> .cons (f _ _ r) (Paired.UJ t f)
theorem bx.qQ(x:bx P w H h a o)(k:∀b u,(b=a∨H b=some (.own a))→h.get? b=some u→h'.get? b=some u)
 (ho:∀b,H b=some (.own a)→H' b=some (.own a)) (ht:∀b xs,H b=some (.tup xs)→H' b=some (.tup xs)):bx P w H' h' a o:=by
 induction o with
 |lst xs=>obtain⟨z,its,n,r,e⟩:=x;exact⟨z,its,n,r,k _ _ (.inl rfl) e⟩
 |tup xs=>obtain⟨z,its,r,ob,e,c⟩:=x;exact⟨z,its,r,ob,k _ _ (.inl rfl) e,c⟩
 |dK kvs=>obtain⟨z,y,vs,r,ob,es,ep,e,c⟩:=x;exact⟨z,y,vs,r,ob,es,ep,k _ _ (.inl rfl) e,c⟩
 |dT kvs=>
  obtain⟨z,y,xs,r,ob,es,ep,e,c⟩:=x;exact⟨z,y,xs,Paired.UJ r fun p q z=>⟨z.1,ht _ _ z.2.1,z.2.2⟩,ob,es,ep,k _ _ (.inl rfl) e,c⟩
 |set S n=>obtain⟨ob,es,ep,t,e,c⟩:=x;exact⟨ob,es,ep,t,k _ _ (.inl rfl) e,c⟩
 |ins C dx fs=>
  obtain⟨d,z,ne,e,mA,⟨od,es,ep,e2,c⟩,r⟩:=x;exact⟨ho _ d,z,ne,k _ _ (.inl rfl) e,mA,⟨od,es,ep,k _ _ (.inr d) e2,c⟩,r⟩
 |own y=>obtain⟨ob,e⟩:=x;exact⟨ob,k _ _ (.inl rfl) e⟩
 |xd fs=>obtain⟨mA,⟨od,es,ep,e,c⟩,r⟩:=x;exact⟨mA,⟨od,es,ep,k _ _ (.inl rfl) e,c⟩,r⟩
 |rng lo hi=>obtain⟨t,u,v,e⟩:=x;exact⟨t,u,v,k _ _ (.inl rfl) e⟩
 |eX ob u ih=>obtain⟨e,q⟩:=x;exact⟨k _ _ (.inl rfl) e,ih q⟩
 |Om ps=>
  have e:h.get? a=some {cls:= .none,data:= .fields ps}:=x;show h'.get? a=some {cls:= .none,data:= .fields ps};exact k a _ (.inl rfl) e
 |met f y=>
  have e:h.get? a=some (methodObj (.ref f) (.ref y)):=x;show h'.get? a=some (methodObj (.ref f) (.ref y));exact k a _ (.inl rfl) e
 |ext φ=>obtain⟨p,⟨o,e⟩,st⟩:=x;exact⟨st _ _ p fun o q=>k _ _ (.inl rfl) q,⟨o,k _ _ (.inl rfl) e⟩,st⟩
theorem qd.lt(x:qd P w H h)(e:H a=some o):a<h.objs.size:=(x a o e).lt
theorem qd.fresh(x:qd P w H h)(e:h.objs.size≤a):H a=none:=by
 cases q:H a with
 |none=>rfl
 |some u=>exact absurd (eF (x.lt q) e) (eA _)
theorem qd.kept(x:qd P w H h)(k:∀b u,h.get? b=some u→h'.get? b=some u):qd P w H h' :=fun a o e=>
 (x a o e).qQ (fun b u _ q=>k b u q) (fun _ q=>q) fun _ _ q=>q
theorem qd.laid(x:qd P w H h)(k:∀b u,h.get? b=some u→h'.get? b=some u)(hp:h.objs.size≤a)(new:bx P w (upd H a o) h' a o):qd P w (upd H a o) h' :=fun b u e=>by
 have hn:=x.fresh hp;by_cases hb:b=a
 ·subst hb;rw[ae] at e;cases e;exact new
 ·rw[af hb] at e;exact(x b u e).qQ (fun c v _ q=>k c v q) (fun c q=>by rw[af (aq q hn)];exact q) fun c xs q=>by rw[af (aq q hn)];exact q
end
noncomputable def Rd(H:Hp)(a:Addr)(u:HO):Prop:=H a=some u∨∃o,H a=some (.eX o u)
theorem Rd.of{H:Hp}{a:Addr}{u:HO}(h:H a=some u):Rd H a u:= .inl h
theorem Rd.ok{P:Program}{w:World}{H:Hp}{h:Heap}{a:Addr}{u:HO}(r:Rd H a u)(x:qd P w H h):bx P w H h a u:=by
 rcases r with r|⟨o,r⟩
 ·exact x a u r
 ·obtain⟨_,q⟩:=x a _ r;exact q
noncomputable def Zc:Option HO→Prop
 |some (.lst _)=>True
 |some (.dK _)=>True
 |some (.dT _)=>True
 |some (.set _ _)=>True
 |some (.ins _ _ _)=>True
 |some (.ext _)=>True
 |_=>False
section
variable{P:Program}{w:World}{H:Hp}{h h' :Heap}{x e:Addr}{o' :HO}
theorem qd.write(ok:qd P w H h)(mu:Zc (H x))(he:e=x∨H e=some (.own x))(k:∀b u,b≠e→h.get? b=some u→h'.get? b=some u)(V8:∃u,h'.get? e=some u)
 (new:bx P w (upd H x o') h' x o'):qd P w (upd H x o') h' :=fun b u q=>by
 have AI:∀c y,H c=some (.own y)→c≠x:=fun c y r z=>by subst z;rw[r] at mu;exact mu
 have agK:∀c xs,H c=some (.tup xs)→c≠x:=fun c xs r z=>by subst z;rw[r] at mu;exact mu
 by_cases hb:b=x
 ·subst hb;rw[ae] at q;cases q;exact new
 ·rw[af hb] at q;by_cases Mz:b=e
  ·have q' :H b=some (.own x):=by
    rcases he with z|z
    ·exact absurd (Mz.trans z) hb
    ·rw[Mz];exact z
   rw[q] at q';cases q'
   obtain⟨v,hv⟩:=V8;exact⟨v,by rw[Mz];exact hv⟩
  ·refine(ok b u q).qQ (fun c v hc r=>k c v ?_ r) (fun c r=>by rw[af (AI c b r)];exact r) fun c xs r=>by rw[af (agK c xs r)];exact r
   rcases hc with rfl|hc
   ·exact Mz
   ·rintro rfl
    rcases he with z|z
    ·exact AI c b hc z
    ·rw[hc] at z;cases z;exact hb rfl
end
structure Un(fs ex:aH)(H H' :Hp)(h h' :Heap):Prop where
 keep:∀b o,h.get? b=some o→H b=none→b∉fs→b∉ex→h'.get? b=some o
 slot:∀b o,h.get? b=some o→H b=none→b∈fs→b∉ex→∃sl,h'.get? b=some {o with slots:=sl}
 free:∀b o,h.get? b=some o→H b=none→b∉ex→H' b=none
 there:∀b o,h.get? b=some o→b∉ex→∃o',h'.get? b=some o'
 uM:∀b xs,H b=some (.tup xs)→H' b=some (.tup xs)
 pZ:∀b o u,H b=some (.eX o u)→H' b=some (.eX o u)
 vh:∀b ps,H b=some (.Om ps)→∃more,H' b=some (.Om (ps++more))
section
variable{fs WY ex ex' :aH}{H H1 H2:Hp}{h h1 h2 h' :Heap}{a x e:Addr}{o:HO}
theorem Un.any(u:Un fs ex H H1 h h1){b:Addr}{ob:Obj}(q:h.get? b=some ob)(n:H b=none)(hx:b∉ex):∃sl,h1.get? b=some {ob with slots:=sl}:=by
 by_cases hb:b∈fs
 ·exact u.slot b ob q n hb hx
 ·exact⟨ob.slots,u.keep b ob q n hb hx⟩
theorem Un.trans(a:Un fs ex H H1 h h1)(b:Un fs ex H1 H2 h1 h2):Un fs ex H H2 h h2 where
 keep:=fun c ob q n hc hx=>b.keep c ob (a.keep c ob q n hc hx) (a.free c ob q n hx) hc hx
 slot:=fun c ob q n hc hx=>by
  obtain⟨sl,e1⟩:=a.slot c ob q n hc hx;obtain⟨sl',e2⟩:=b.slot c _ e1 (a.free c ob q n hx) hc hx;exact⟨sl',e2⟩
 free:=fun c ob q n hx=>by
  obtain⟨o',e1⟩:=a.there c ob q hx;exact b.free c o' e1 (a.free c ob q n hx) hx
 there:=fun c ob q hx=>by
  obtain⟨o',e1⟩:=a.there c ob q hx;exact b.there c o' e1 hx
 uM:=fun c xs q=>b.uM c xs (a.uM c xs q)
 pZ:=fun c ob xs q=>b.pZ c ob xs (a.pZ c ob xs q)
 vh:=fun c ps q=>by
  obtain⟨m1,e1⟩:=a.vh c ps q;obtain⟨m2,e2⟩:=b.vh c _ e1;exact⟨m1++m2,by rw[e2,Array.append_assoc]⟩
theorem Un.kept(k:∀b u,h.get? b=some u→h'.get? b=some u):Un fs ex H H h h' :=
 ⟨fun b ob q _ _ _=>k b ob q,fun b ob q _ _ _=>⟨ob.slots,k b ob q⟩,fun _ _ _ n _=>n,fun b ob q _=>⟨ob,k b ob q⟩,fun _ _ q=>q,fun _ _ _ q=>q,fun _ ps q=>⟨#[],by rw[q];simp⟩⟩
theorem Un.refl:Un fs ex H H h h:=Un.kept fun _ _ q=>q
theorem Un.laid(k:∀b u,h.get? b=some u→h'.get? b=some u)(hp:h.objs.size≤a)(hn:H a=none):Un fs ex H (upd H a o) h h' where
 keep:=fun b u q _ _ _=>k b u q
 slot:=fun b u q _ _ _=>⟨u.slots,k b u q⟩
 free:=fun b u q n _=>by rw[af (bF (eF (bh q) hp))];exact n
 there:=fun b u q _=>⟨u,k b u q⟩
 uM:=fun b xs q=>by rw[af (aq q hn)];exact q
 pZ:=fun b u xs q=>by rw[af (aq q hn)];exact q
 vh:=fun b ps q=>⟨#[],by rw[af (aq q hn),q];simp⟩
theorem Un.write(mu:Zc (H x))(he:e=x∨H e=some (.own x))(k:∀b u,b≠e→h.get? b=some u→h'.get? b=some u)(V8:∃u,h'.get? e=some u):Un fs ex H (upd H x o) h h' :=by
 have hx:∀b,H b=none→b≠x:=fun b n z=>by subst z;rw[n] at mu;exact mu
 have hb:∀b,H b=none→b≠e:=fun b n z=>by
  subst z;rcases he with r|r
  ·exact hx b n r
  ·rw[n] at r;cases r
 have hm:∀b u,H b=some u→¬Zc (some u)→b≠x:=fun b u q nm z=>by subst z;rw[q] at mu;exact nm mu
 refine⟨fun b u q n _ _=>k b u (hb b n) q,fun b u q n _ _=>⟨u.slots,k b u (hb b n) q⟩,fun b u q n _=>by rw[af (hx b n)];exact n,fun b u q _=> ?_,
  fun b xs q=>by rw[af (hm b _ q fun z=>z)];exact q,fun b u xs q=>by rw[af (hm b _ q fun z=>z)];exact q,fun b ps q=>⟨#[],by rw[af (hm b _ q fun z=>z),q];simp⟩⟩
 by_cases Mz:b=e
 ·subst Mz;exact V8
 ·exact⟨u,k b u Mz q⟩
theorem Un.mono(u:Un fs ex H H1 h h1)(hs:∀b∈fs,b∈WY)(hx:∀b∈ex,b∈ex'):Un WY ex' H H1 h h1:=
 ⟨fun b ob q n hb he=>u.keep b ob q n (fun z=>hb (hs b z)) fun z=>he (hx b z),fun _ _ q n _ he=>u.any q n fun z=>he (hx _ z),fun b ob q n he=>u.free b ob q n fun z=>he (hx b z),fun b ob q he=>u.there b ob q fun z=>he (hx b z),u.uM,u.pZ,u.vh⟩
end
noncomputable def trk(h:Heap)(H:Hp):aH:=(List.range h.objs.size).filter fun a=>(H a).isSome
noncomputable def CW(h:Heap)(H:Hp):Heap:=PySem.W.hideAll h (trk h H)
theorem IC(h:Heap)(H:Hp):(CW h H).objs.size=h.objs.size:=PySem.W.hideAll_size _ _
theorem Lj{h:Heap}{H:Hp}{b:Addr}{o:Obj}(e:h.get? b=some o)(n:H b=none):(CW h H).get? b=some o:=
 PySem.W.hideAll_get _ e fun hm=>by
  have q:(H b).isSome=true:=(cA.mp hm).2;rw[n] at q;simp at q
theorem Nl{h:Heap}{H:Hp}{b:Addr}{o:Obj}(e:(CW h H).get? b=some o):h.get? b=some o∧H b=none:=by
 have e' :h.get? b=some o:=PySem.W.of_hideAll (trk h H) e;refine⟨e',?_⟩
 cases q:H b with
 |none=>rfl
 |some x=>
  have hm:b∈trk h H:=cA.mpr ⟨dg.mpr (bh e'),by simp[q]⟩;have z:(CW h H).get? b=none:=PySem.W.hideAll_none (trk h H) hm;rw[z] at e;cases e
noncomputable def MN(g h:Heap)(L:Addr):aZ:=(List.range h.objs.size).filterMap fun a=>if a=L∨(g.get? a).isSome=true then none else(h.get? a).map fun o=>(a,o)
noncomputable def wP(g h:Heap)(L d:Addr):aZ:=(MN g h L).filter fun p=>decide (p.1≠d)
structure Mod(K:Frag)(mg:Str→aQ)(base:Heap):Prop where
 VS:K.In base
 glob:base.Ns mainGlobals mg
 blt:∃mb,base.Ns builtinsNs mb∧∀x:Str,x≠ "__name__" →mb x=bootBuiltins x
 nolimit:base.NoLimit
set_option genInjectivity false in
set_option genSizeOf false in
structure Cx where
 prog:Program
 w:World
 K:Frag
 mg:Str→aQ
 base:Heap
 A:Around
 N:aJ
 ia:Shared
 H₀:Hp
 env:Env
 outer:List Env
 stack:List Env
 ex:aH
 fn:Str→Bool
 calm:Bool
 pn:aZ
 xe:Value→Shared→Prop
noncomputable def Je(l:List Env):aH:=l.filterMap (·.frame)
noncomputable abbrev Cx.fs(X:Cx):aH:=Je X.outer
noncomputable def Vis(sc:Scope)(x:Str):Prop:=sc.names.lookup x=some .local∨sc.names.lookup x=some .cell∨sc.names.lookup x=some .free
noncomputable def Loc(sc:Scope)(x:Str):Prop:=sc.names.lookup x=some .local∨sc.names.lookup x=some .cell
noncomputable def jaA(env:Env)(h:Heap)(m:Str→aQ)(x:Str)(u:Value):Prop:=
 (env.kindOf x=some .local∧m x=some u)∨((env.kindOf x=some .cell∨env.kindOf x=some .free)∧∃c,env.cells.lookup x=some c∧h.IsCell c (some u))
structure Cx.Ok(X:Cx):Prop where
 mod:Mod X.K X.mg X.base
 kind:X.env.scope.kind= .function
 glob:X.env.globals=mainGlobals
 blt:X.env.builtins=builtinsNs
 above:X.ia.heap.objs.size≤X.env.locals
 inj:∀x y c,X.env.cells.lookup x=some c→X.env.cells.lookup y=some c→x=y
 has:∀x,(X.env.kindOf x=some .cell∨X.env.kindOf x=some .free)→∃c,X.env.cells.lookup x=some c
 cab:∀x c,X.fn x=true→X.env.cells.lookup x=some c→X.ia.heap.objs.size≤c
 hd:X.calm=true→X.A.handled=none
 frames:X.A.frames=some X.stack
 stk:X.stack=X.outer∨(X.stack=X.env::X.outer∧X.env.frame=some X.env.locals)
 exf:∀b∈X.ex,b≠X.env.locals∧∀x c,X.env.cells.lookup x=some c→c≠b
 bs:∀b o,X.base.get? b=some o→X.ia.heap.get? b=some o∧X.H₀ b=none
 KZ:X.base.objs.size≤X.ia.heap.objs.size
 J_:∀b o,X.base.get? b=some o→b∉X.ex
 OR:∀b∈X.ex,b∉X.fs
 uY:X.ia.heap.FunFrames X.base X.outer
 Pq:∀b∈X.fs,X.H₀ b=none
structure Inv(X:Cx)(pins:aZ)(σ:List (Option V))(H:Hp)(s:Shared):Prop where
 ok:X.Ok
 os:s.os=X.ia.os
 bare:AllBare s.gens
 base:Un X.fs X.ex X.H₀ H X.ia.heap s.heap
 loc:∃m,s.heap.Ns X.env.locals m∧∀(i:Nat) (x:Str) (v:V),X.N[i]? =some x→σ[i]? =some (some v)→Vis X.env.scope x→∃u,RelV v u∧jaA X.env s.heap m x u
 cell:∀x c,X.env.cells.lookup x=some c→∃v,s.heap.IsCell c v
 free:H X.env.locals=none
 nj:∀x c,X.env.cells.lookup x=some c→H c=none
 pin:∀p∈X.pn++pins,s.heap.get? p.1=some p.2∧H p.1=none∧p.1≠X.env.locals∧p.1∉X.fs∧∀v,p.2.data≠.cell v
 bE:qd X.prog X.w H s.heap
 len:σ.length=X.N.length
section
variable{X:Cx}{pins:aZ}{σ:List (Option V)}{H H' :Hp}{s:Shared}{h' :Heap}
theorem Cx.Ok.aeY(ok:X.Ok){b:Addr}{o:Obj}(e:X.base.get? b=some o):b∉X.fs:=fun hb=>by
 have:=(ok.uY.mem hb).1;rw[e] at this;cases this
theorem Inv.bs(I:Inv X pins σ H s):∀b o,X.base.get? b=some o→s.heap.get? b=some o∧H b=none:=fun b o e=>
 ⟨I.base.keep b o (I.ok.bs b o e).1 (I.ok.bs b o e).2 (I.ok.aeY e) (I.ok.J_ b o e),I.base.free b o (I.ok.bs b o e).1 (I.ok.bs b o e).2 (I.ok.J_ b o e)⟩
theorem Inv.bk(I:Inv X pins σ H s):∀b o,X.base.get? b=some o→s.heap.get? b=some o:=fun b o e=>(I.bs b o e).1
theorem Inv.mod(I:Inv X pins σ H s):Mod X.K X.mg X.base:=I.ok.mod
theorem Inv.uK(I:Inv X pins σ H s):X.K.In s.heap:=I.ok.mod.VS.keeps I.bk
theorem Inv.nolimit(I:Inv X pins σ H s):s.heap.NoLimit:=I.ok.mod.nolimit.keeps I.bk
theorem Inv.fr(I:Inv X pins σ H s):∃m,Fr X.base X.env.locals s.heap m:=
 let⟨m,hn,_⟩:=I.loc
 ⟨m,hn,I.bk,aY I.ok.KZ I.ok.above⟩
theorem Inv.lt(I:Inv X pins σ H s):X.env.locals<s.heap.objs.size:=let⟨_,hn,_⟩:=I.loc;hn.lt
theorem Inv.sz(I:Inv X pins σ H s):X.ia.heap.objs.size≤s.heap.objs.size:=aY I.ok.above (ck I.lt)
theorem Inv.agn(I:Inv X pins σ H s){a:Addr}(h:s.heap.objs.size≤a):a∉X.fs:=fun hb=>by
 obtain⟨_,o,ho,_⟩:=I.ok.uY.mem hb;exact absurd (eF (bh ho) (aY I.sz h)) (eA _)
theorem Inv.UT(I:Inv X pins σ H s):∀x c,X.env.cells.lookup x=some c→c≠X.env.locals:=fun x c e z=>by
 obtain⟨v,o,ho,hd⟩:=I.cell x c e;obtain⟨m,⟨o',es,ep,C5,Gg,_⟩,_⟩:=I.loc;rw[z,C5] at ho;cases ho;rw[Gg] at hd;cases hd
theorem Inv.uY(I:Inv X pins σ H s):s.heap.FunFrames X.base X.outer:=by
 have all:∀(l:List Env),(∀b∈Je l,b∈X.fs)→X.ia.heap.FunFrames X.base l→s.heap.FunFrames X.base l:=by
  intro l
  induction l with
  |nil=>intro _ _;trivial
  |cons env r ih=>
   intro hs hl;obtain⟨hk,⟨L,o,hf,hn,ho,hd⟩,hr⟩:=hl;have hL:L∈X.fs:=hs L (by unfold Je;rw[tj,hf];exact bJ);obtain⟨sl,e⟩:=I.base.slot L o ho (I.ok.Pq L hL) hL fun z=>I.ok.OR L z hL;exact⟨hk,⟨L,_,hf,hn,e,hd⟩,ih (fun b hb=>hs b (by unfold Je;rw[tj,hf];exact a_ _ hb)) hr⟩
 exact all X.outer (fun _ hb=>hb) I.ok.uY
theorem Inv.stack(I:Inv X pins σ H s):s.heap.FunFrames X.base X.stack:=by
 rcases I.ok.stk with e|⟨e,hf⟩
 ·rw[e];exact I.uY
 ·rw[e];obtain⟨m,hn,_⟩:=I.loc;refine .cons (by rw[I.ok.kind];decide) hf hn ?_ I.uY;exact Heap.get?_none_of_le (aY I.ok.KZ I.ok.above)
theorem Inv.Cb(I:Inv X pins σ H s):∀b∈Je X.stack,b∈X.env.locals::X.fs:=fun b hb=>by
 rcases I.ok.stk with e|⟨e,hf⟩
 ·rw[e] at hb;exact a_ _ hb
 ·rw[e] at hb;unfold Je at hb;rw[tj,hf] at hb;exact hb
theorem Inv.GK(I:Inv X pins σ H s):∀b∈Je X.stack,H b=none:=fun b hb=>by
 rcases bq.mp (I.Cb b hb) with e|hb
 ·rw[e];exact I.free
 ·obtain⟨_,o,ho,_⟩:=I.ok.uY.mem hb;exact I.base.free b o ho (I.ok.Pq b hb) fun z=>I.ok.OR b z hb
theorem Inv.step{g' :Array GenState}{t' :Nat}{d' :Drawn}{ch:aH}(I:Inv X pins σ H s)
 (C3:∀b∈ch,(b∈X.ex∨X.ia.heap.objs.size≤b)∧b≠X.env.locals∧(∀x c,X.env.cells.lookup x=some c→c≠b)∧∀p∈X.pn++pins,p.1≠b)
 (keep:∀b o,b≠X.env.locals→b∉X.fs→b∉ch→s.heap.get? b=some o→H b=none→h'.get? b=some o)
 (slot:∀b o,b≠X.env.locals→b∈X.fs→b∉ch→s.heap.get? b=some o→H b=none→∃sl,h'.get? b=some {o with slots:=sl}) (free:∀b o,b∉ch→s.heap.get? b=some o→H b=none→H' b=none)
 (there:∀b o,b∉ch→s.heap.get? b=some o→∃o',h'.get? b=some o')
 (uM:∀b xs,H b=some (.tup xs)→H' b=some (.tup xs)) (pZ:∀b o u,H b=some (.eX o u)→H' b=some (.eX o u)) (vh:∀b ps,H b=some (.Om ps)→∃more,H' b=some (.Om (ps++more)))
 (ns:∀m,s.heap.Ns X.env.locals m→h'.Ns X.env.locals m) (bE:qd X.prog X.w H' h') (hg:AllBare g'):
 Inv X pins σ H' {s with heap:=h',gens:=g',drawn:=d',toks:=t'}:=by
 have neL:∀b o,X.ia.heap.get? b=some o→b≠X.env.locals:=fun b o e=>bF (eF (bh e) I.ok.above)
 have neC:∀b o,X.ia.heap.get? b=some o→b∉X.ex→b∉ch:=fun b o e hx hb=>by
  rcases(C3 b hb).1 with z|z
  ·exact hx z
  ·exact absurd (eF (bh e) z) (eA _)
 have cellK:∀x c,X.env.cells.lookup x=some c→∀v,s.heap.IsCell c v→h'.IsCell c v:=fun x c e v ⟨o,ho,hd⟩=>by
  have nch:c∉ch:=fun z=>(C3 c z).2.2.1 x c e rfl;by_cases hc:c∈X.fs
  ·obtain⟨sl,q⟩:=slot c o (I.UT x c e) hc nch ho (I.nj x c e);exact⟨_,q,hd⟩
  ·exact⟨o,keep c o (I.UT x c e) hc nch ho (I.nj x c e),hd⟩
 refine⟨I.ok,I.os,hg,⟨fun b o e n hb hx=> ?_,fun b o e n hb hx=> ?_,fun b o e n hx=> ?_,fun b o e hx=> ?_,fun b xs e=>uM b xs (I.base.uM b xs e),fun b o xs e=>pZ b o xs (I.base.pZ b o xs e),fun b ps e=> ?_⟩,?_,fun x c e=> ?_,?_,fun x c e=> ?_,fun p hp=> ?_,bE,I.len⟩
 ·exact keep b o (neL b o e) hb (neC b o e hx) (I.base.keep b o e n hb hx) (I.base.free b o e n hx)
 ·obtain⟨sl,e1⟩:=I.base.slot b o e n hb hx;obtain⟨sl',e2⟩:=slot b _ (neL b o e) hb (neC b o e hx) e1 (I.base.free b o e n hx);exact⟨sl',e2⟩
 ·obtain⟨o',e1⟩:=I.base.there b o e hx;exact free b o' (neC b o e hx) e1 (I.base.free b o e n hx)
 ·obtain⟨o',e1⟩:=I.base.there b o e hx;exact there b o' (neC b o e hx) e1
 ·obtain⟨m1,e1⟩:=I.base.vh b ps e;obtain⟨m2,e2⟩:=vh b _ e1;exact⟨m1++m2,by rw[e2,Array.append_assoc]⟩
 ·obtain⟨m,hn,hl⟩:=I.loc;refine⟨m,ns m hn,fun i x v e1 e2 e3=> ?_⟩;obtain⟨u,r,l⟩:=hl i x v e1 e2 e3;refine⟨u,r,?_⟩;rcases l with l|⟨k,c,e,z⟩
  ·exact .inl l
  ·exact .inr ⟨k,c,e,cellK x c e _ z⟩
 ·obtain⟨v,z⟩:=I.cell x c e;exact⟨v,cellK x c e v z⟩
 ·obtain⟨m,⟨o,_,_,ho,_⟩,_⟩:=I.loc;exact free _ o (fun z=>(C3 _ z).2.1 rfl) ho I.free
 ·obtain⟨v,o,ho,hd⟩:=I.cell x c e;exact free c o (fun z=>(C3 c z).2.2.1 x c e rfl) ho (I.nj x c e)
 ·obtain⟨e,n,ne,nf,d⟩:=I.pin p hp;have nch:p.1∉ch:=fun z=>(C3 p.1 z).2.2.2 p hp rfl;exact⟨keep p.1 p.2 ne nf nch e n,free p.1 p.2 nch e n,ne,nf,d⟩
theorem Inv.un{t' :Nat}(I:Inv X pins σ H s)(u:Un X.fs [] H H' s.heap h')(bE:qd X.prog X.w H' h'):Inv X pins σ H' {s with heap:=h',toks:=t'}:=by
 obtain⟨m,⟨o,es,ep,ho,r⟩,_⟩:=id I.loc;obtain⟨sl,hL⟩:=u.any ho I.free (by simp)
 exact I.step (g' :=s.gens) (d' :=s.drawn) (ch:=[]) (fun _ z=>nomatch z) (fun b o _ hb _ e n=>u.keep b o e n hb (by simp)) (fun b o _ hb _ e n=>u.slot b o e n hb (by simp)) (fun b o _ e n=>u.free b o e n (by simp)) (fun b o _ e=>u.there b o e (by simp)) u.uM u.pZ u.vh (fun m' hm=>by
  obtain⟨o',LP,Kr,C5,r'⟩:=hm;rw[ho] at C5;cases C5
  exact⟨_,LP,Kr,hL,r'⟩) bE I.bare
theorem Inv.call{g' :Array GenState}{t' :Nat}{d' :Drawn}{ch:aH}(I:Inv X pins σ H s)(u:Un (Je X.stack) ch H H' s.heap h')(bE:qd X.prog X.w H' h')(hg:AllBare g')
 (C3:∀b∈ch,(b∈X.ex∨X.ia.heap.objs.size≤b)∧b≠X.env.locals∧(∀x c,X.env.cells.lookup x=some c→c≠b)∧∀p∈X.pn++pins,p.1≠b):
 Inv X pins σ H' {s with heap:=h',gens:=g',drawn:=d',toks:=t'}:=by
 obtain⟨m,⟨o,es,ep,ho,r⟩,_⟩:=id I.loc;obtain⟨sl,hL⟩:=u.any ho I.free fun z=>(C3 _ z).2.1 rfl
 exact I.step (ch:=ch) C3 (fun b o hL hb hc e n=>u.keep b o e n (fun z=>(bq.mp (I.Cb b z)).elim hL hb) hc) (fun b o _ _ hc e n=>u.any e n hc) (fun b o hc e n=>u.free b o e n hc) (fun b o hc e=>u.there b o e hc) u.uM u.pZ u.vh (fun m' hm=>by
  obtain⟨o',LP,Kr,C5,r'⟩:=hm;rw[ho] at C5;cases C5
  exact⟨_,LP,Kr,hL,r'⟩) bE hg
theorem Inv.turned{t' :Nat}{it:Addr}(I:Inv X pins σ H s)(k:∀b o,b≠it→s.heap.get? b=some o→h'.get? b=some o)(hn:H it=none)(hL:it≠X.env.locals)
 (h1:it∈X.ex∨X.ia.heap.objs.size≤it) (h2:∀x c,X.env.cells.lookup x=some c→c≠it) (h3:∀p∈X.pn++pins,p.1≠it):Inv X pins σ H {s with heap:=h',toks:=t'}:=by
 have Jc:∀b u,H b=some u→b≠it:=fun b u e z=>by rw[z,hn] at e;cases e
 refine I.step (g' :=s.gens) (d' :=s.drawn) (ch:=[it]) (fun b hb=> ?_) (fun b o _ _ hc e _=>k b o (fun z=>hc (by simp[z])) e) (fun b o _ _ hc e _=>⟨o.slots,k b o (fun z=>hc (by simp[z])) e⟩) (fun _ _ _ _ n=>n)
  (fun b o hc e=>⟨o,k b o (fun z=>hc (by simp[z])) e⟩) (fun _ _ e=>e) (fun _ _ _ e=>e) (fun b ps e=>⟨#[],by rw[e];simp⟩) (fun m hm=> ?_) (fun b u e=> ?_) I.bare
 ·have e:b=it:=by simpa using hb
  subst e;exact⟨h1,hL,h2,h3⟩
 ·obtain⟨o,es,ep,ho,r⟩:=hm;exact⟨o,es,ep,k _ o (dt hL) ho,r⟩
 ·refine(I.bE b u e).qQ (fun c v hc q=>k c v ?_ q) (fun _ q=>q) fun _ _ q=>q;rcases hc with z|z
  ·rw[z];exact Jc b u e
  ·exact Jc c _ z
theorem Inv.tok(I:Inv X pins σ H s)(t:Nat):Inv X pins σ H {s with toks:=t}:=I.un (h' :=s.heap) (t' :=t) Un.refl I.bE
theorem Inv.kept{t' :Nat}(I:Inv X pins σ H s)(k:∀b u,s.heap.get? b=some u→h'.get? b=some u):Inv X pins σ H {s with heap:=h',toks:=t'}:=I.un (Un.kept k) (I.bE.kept k)
theorem Inv.laid{a:Addr}{o:HO}{t' :Nat}(I:Inv X pins σ H s)(k:∀b u,s.heap.get? b=some u→h'.get? b=some u)(hp:s.heap.objs.size≤a)(new:bx X.prog X.w (upd H a o) h' a o):
 Inv X pins σ (upd H a o) {s with heap:=h',toks:=t'}:=I.un (Un.laid k hp (I.bE.fresh hp)) (I.bE.laid k hp new)
theorem Inv.write{x e:Addr}{o:HO}{t' :Nat}(I:Inv X pins σ H s)(mu:Zc (H x))(he:e=x∨H e=some (.own x))(k:∀b u,b≠e→s.heap.get? b=some u→h'.get? b=some u)(V8:∃u,h'.get? e=some u)
 (new:bx X.prog X.w (upd H x o) h' x o):Inv X pins σ (upd H x o) {s with heap:=h',toks:=t'}:=I.un (Un.write mu he k V8) (I.bE.write mu he k V8 new)
theorem Inv.weak{c9 :List (Option V)}(I:Inv X pins σ H s)(hl:c9.length=σ.length)(w:∀(i:Nat) v,c9[i]? =some (some v)→σ[i]? =some (some v)):Inv X pins c9 H s:=
 ⟨I.ok,I.os,I.bare,I.base,let⟨m,hn,zp⟩:=I.loc;⟨m,hn,fun i x v e1 e2 e3=>zp i x v e1 (w i v e2) e3⟩,I.cell,I.free,I.nj,I.pin,I.bE,hl.trans I.len⟩
theorem Inv.Gs{Pw :aZ}(I:Inv X pins σ H s)(h:∀p∈Pw,s.heap.get? p.1=some p.2∧H p.1=none∧p.1≠X.env.locals∧p.1∉X.fs∧∀v,p.2.data≠.cell v):Inv X Pw σ H s:=
 ⟨I.ok,I.os,I.bare,I.base,I.loc,I.cell,I.free,I.nj,fun p hp=>(cj.mp hp).elim (fun z=>I.pin p (Ct _ z)) (h p),I.bE,I.len⟩
theorem Ea{N:aJ}(hN:N.Nodup){i j:Nat}{x:Str}(a:N[i]? =some x)(b:N[j]? =some x):i=j:=by
 obtain⟨h1,e1⟩:=aS.mp a;obtain⟨h2,e2⟩:=aS.mp b;exact(Cf hN).mp (e1.trans e2.symm)
theorem A4{M:Model}{A:Around}{E:Value→Shared→Prop}{i:Nat}{x:Str}{v:V}{u:Value}{Q:Unit→Shared→Prop}(I:Inv X pins σ H s)(hN:X.N.Nodup)(hi:X.N[i]? =some x)(hx:Loc X.env.scope x)(r:RelV v u)
 (h:∀s',Inv X pins (σ.set i (some v)) H s'→(∃a,Heap.SameBut a s.heap s'.heap∧(a=X.env.locals∨X.env.cells.lookup x=some a))→Q () s') (hf:X.fn x=true∨X.env.scope.names.lookup x=some .local:=by first|exact .inl rfl|exact .inr rfl|assumption):wpAny M A (storeName X.env x u) Q E s:=by
 obtain⟨m,hn,hl⟩:=id I.loc;have afF:(X.env.scope.kind== .class||(X.env.scope.kind== .module&&X.env.locals !=X.env.globals))=false:=by rw[I.ok.kind];rfl
 have ac3:i<σ.length:=by rw[I.len];exact(aS.mp hi).1
 have UT:=I.UT
 have tracked:∀{a:Addr} {h' :Heap},(∃o,s.heap.get? a=some o∧H a=none)→Heap.SameBut a s.heap h'→qd X.prog X.w H h' :=fun{a h'} ha hs b ob e=>by
  obtain⟨_,_,RB⟩:=ha;refine(I.bE b ob e).qQ (fun c w' hc q=>(hs.2 c ?_).trans q) (fun _ q=>q) fun _ _ q=>q
  rintro rfl
  rcases hc with rfl|hc
  ·rw[RB] at e;cases e
  ·rw[RB] at hc;cases hc
 rcases hx with hk|hk
 ·refine wpAny_storeName_local hk hn (fun h' hn' hs=> ?_) afF;obtain⟨oL,_,_,hoL,_⟩:=id hn;refine h _ ⟨I.ok,I.os,I.bare,⟨fun b o e n hb hx=> ?_,fun b o e n hb hx=> ?_,I.base.free,fun b o e hx=> ?_,I.base.uM,I.base.pZ,I.base.vh⟩,⟨_,hn',fun j y v' e1 e2 e3=> ?_⟩,fun y c e=> ?_,I.free,I.nj,fun p hp=> ?_,tracked ⟨oL,hoL,I.free⟩ hs,by simpa using I.len⟩ ⟨_,hs,.inl rfl⟩
  ·exact(hs.2 b (bF (eF (bh e) I.ok.above))).trans (I.base.keep b o e n hb hx)
  ·obtain⟨sl,e1⟩:=I.base.slot b o e n hb hx;exact⟨sl,(hs.2 b (bF (eF (bh e) I.ok.above))).trans e1⟩
  ·obtain⟨o',e1⟩:=I.base.there b o e hx;exact⟨o',(hs.2 b (bF (eF (bh e) I.ok.above))).trans e1⟩
  ·by_cases hj:j=i
   ·subst hj;rw[hi] at e1;cases e1
    rw[tO ac3] at e2;cases e2;exact⟨u,r,.inl ⟨hk,by simp⟩⟩
   ·rw[mF (dt hj)] at e2;obtain⟨u',r',q⟩:=hl j y v' e1 e2 e3;refine⟨u',r',?_⟩;rcases q with⟨k,e⟩|⟨k,c,e,z⟩
    ·refine .inl ⟨k,?_⟩;have:y≠x:=fun e=>hj (Ea hN e1 (e▸hi));simp[this,e]
    ·exact .inr ⟨k,c,e,z.sameBut hs (UT y c e)⟩
  ·obtain⟨w',z⟩:=I.cell y c e;exact⟨w',z.sameBut hs (UT y c e)⟩
  ·obtain⟨e,n,ne,nf,d⟩:=I.pin p hp;exact⟨(hs.2 p.1 ne).trans e,n,ne,nf,d⟩
 ·have hfn:X.fn x=true:=by
   rcases hf with z|z
   ·exact z
   ·rw[z] at hk;cases hk
  obtain⟨c,hc⟩:=I.ok.has x (.inl hk);obtain⟨w',z⟩:=I.cell x c hc;refine wpAny_storeName_cell I.ok.kind hk hc z (fun h' QB hs=> ?_);obtain⟨oc,hoc,afz⟩:=id z;refine h {s with heap:=h'} ⟨I.ok,I.os,I.bare,⟨fun b o e n hb hx=> ?_,fun b o e n hb hx=> ?_,I.base.free,fun b o e hx=> ?_,I.base.uM,I.base.pZ,I.base.vh⟩,⟨m,hn.sameBut hs (dt (UT x c hc)),fun j y v' e1 e2 e3=> ?_⟩,fun y c' e=> ?_,I.free,I.nj,fun p hp=> ?_,tracked ⟨oc,hoc,I.nj x c hc⟩ hs,by simpa using I.len⟩ ⟨c,hs,.inr hc⟩
  ·exact(hs.2 b (bF (eF (bh e) (I.ok.cab x c hfn hc)))).trans (I.base.keep b o e n hb hx)
  ·obtain⟨sl,e1⟩:=I.base.slot b o e n hb hx;exact⟨sl,(hs.2 b (bF (eF (bh e) (I.ok.cab x c hfn hc)))).trans e1⟩
  ·obtain⟨o',e1⟩:=I.base.there b o e hx;exact⟨o',(hs.2 b (bF (eF (bh e) (I.ok.cab x c hfn hc)))).trans e1⟩
  ·by_cases hj:j=i
   ·subst hj;rw[hi] at e1;cases e1
    rw[tO ac3] at e2;cases e2;exact⟨u,r,.inr ⟨.inl hk,c,hc,QB⟩⟩
   ·rw[mF (dt hj)] at e2;obtain⟨u',r',q⟩:=hl j y v' e1 e2 e3;refine⟨u',r',?_⟩;rcases q with q|⟨k,c',e,z'⟩
    ·exact .inl q
    ·refine .inr ⟨k,c',e,z'.sameBut hs ?_⟩
     rintro rfl
     exact hj (Ea hN e1 (I.ok.inj _ _ _ e hc▸hi))
  ·by_cases hcc:c' =c
   ·subst hcc;exact⟨_,QB⟩
   ·obtain⟨w2,z2⟩:=I.cell y c' e;exact⟨w2,z2.sameBut hs hcc⟩
  ·obtain⟨e,n,ne,nf,d⟩:=I.pin p hp;refine⟨(hs.2 p.1 ?_).trans e,n,ne,nf,d⟩;intro q;rw[q,hoc] at e;have q' :oc=p.2:=fH e;exact d w' (by rw[←q'];exact afz)
theorem zW{M:Model}{A:Around}{E:Value→Shared→Prop}{i:Nat}{x:Str}{v:V}{u:Value}{Q:Unit→Shared→Prop}(I:Inv X pins σ H s)(hN:X.N.Nodup)(hi:X.N[i]? =some x)(hx:Loc X.env.scope x)(r:RelV v u)
 (h:∀s',Inv X pins (σ.set i (some v)) H s'→Q () s') (hf:X.fn x=true∨X.env.scope.names.lookup x=some .local:=by first|exact .inl rfl|exact .inr rfl|assumption):wpAny M A (storeName X.env x u) Q E s:=
 A4 I hN hi hx r (fun s' I' _=>h s' I') hf
theorem Inv.Y2{s' :Shared}{ch:aH}(I:Inv X pins σ H s)(ho:s'.os=s.os)(u:Un (Je X.stack) ch H H' s.heap s'.heap)(bE:qd X.prog X.w H' s'.heap)(hg:AllBare s'.gens)
 (C3:∀b∈ch,(b∈X.ex∨X.ia.heap.objs.size≤b)∧b≠X.env.locals∧(∀x c,X.env.cells.lookup x=some c→c≠b)∧∀p∈X.pn++pins,p.1≠b):Inv X pins σ H' s' :=by
 obtain⟨h',g',d',t',o'⟩:=s';have e:o' =s.os:=ho;subst e;exact I.call (g' :=g') (t' :=t') (d' :=d') u bE hg C3
end
noncomputable abbrev XK:=Value→Option Addr→Hp→Prop
noncomputable abbrev St:=List (Option V)
noncomputable abbrev VK:=V→Hp→Prop
noncomputable abbrev TE:=St→Hp→VK→Prop
noncomputable abbrev TT:=St→Hp→(Bool→Hp→Prop)→Prop
noncomputable abbrev TA:=St→Hp→(aA→Hp→Prop)→Prop
set_option genInjectivity false in
set_option genSizeOf false in
structure Ends where
 nx:St→Hp→Prop
 rt:VK
 bk:St→Hp→Prop:=fun _ _=>False
 ct:St→Hp→Prop:=fun _ _=>False
noncomputable abbrev TS:=Ends→St→Hp→Prop
noncomputable def EP(X:Cx)(pins:aZ)(σ:St)(Q:VK)(u:Value)(s' :Shared):Prop:=∃v H',Inv X pins σ H' s'∧RelV v u∧Q v H'
noncomputable def TP(X:Cx)(pins:aZ)(σ:St)(Q:Bool→Hp→Prop)(b:Bool)(s' :Shared):Prop:=∃H',Inv X pins σ H' s'∧Q b H'
noncomputable def AP(X:Cx)(pins:aZ)(σ:St)(Q:aA→Hp→Prop)(us:aP)(s' :Shared):Prop:=∃vs H',Inv X pins σ H' s'∧Vals vs us∧Q vs H'
noncomputable def SP(X:Cx)(pins:aZ)(D:Ends)(f:Flow)(s' :Shared):Prop:=
 match f with
 | .next=>∃c9 H',Inv X pins c9 H' s'∧D.nx c9 H'
 | .brk=>∃c9 H',Inv X pins c9 H' s'∧D.bk c9 H'
 | .cont=>∃c9 H',Inv X pins c9 H' s'∧D.ct c9 H'
 | .ret u=>∃v c9 H',Inv X pins c9 H' s'∧RelV v u∧D.rt v H'
noncomputable def PE(X:Cx)(e:Expr)(t:TE):Prop:=
 ∀(pins:aZ) (s:Shared) (σ:St) (H:Hp) (Q:VK),Inv X pins σ H s→t σ H Q→wpAny (model X.prog X.w) X.A (eval e X.env) (EP X pins σ Q) X.xe s
noncomputable def PT(X:Cx)(e:Expr)(t:TT):Prop:=
 ∀(pins:aZ) (s:Shared) (σ:St) (H:Hp) (Q:Bool→Hp→Prop),Inv X pins σ H s→t σ H Q→wpAny (model X.prog X.w) X.A (isTrue e X.env (eval e X.env)) (TP X pins σ Q) X.xe s
noncomputable def PW(X:Cx)(e:Expr)(t:TT):Prop:=
 ∀(whole:Sem Value) (pins:aZ) (s:Shared) (σ:St) (H:Hp) (Q:Bool→Hp→Prop),Inv X pins σ H s→t σ H Q→wpAny (model X.prog X.w) X.A (isTrue e X.env whole) (TP X pins σ Q) X.xe s
theorem PW.pt{X:Cx}{e:Expr}{t:TT}(h:PW X e t):PT X e t:=h _
noncomputable def PA(X:Cx)(es:cq)(t:TA):Prop:=
 ∀(pos:Pos) (pins:aZ) (s:Shared) (σ:St) (H:Hp) (Q:aA→Hp→Prop),Inv X pins σ H s→t σ H Q→wpAny (model X.prog X.w) X.A (spliced (backTo pos (starEach es X.env))) (AP X pins σ Q) X.xe s
noncomputable def PS(X:Cx)(st:Stmt)(t:TS):Prop:=
 ∀(pins:aZ) (s:Shared) (σ:St) (H:Hp) (D:Ends),Inv X pins σ H s→t D σ H→wpAny (model X.prog X.w) X.A (exec st X.env) (SP X pins D) X.xe s
noncomputable def C8(X:Cx)(st:List Stmt)(t:TS):Prop:=
 ∀(pins:aZ) (s:Shared) (σ:St) (H:Hp) (D:Ends),Inv X pins σ H s→t D σ H→wpAny (model X.prog X.w) X.A (execs st X.env) (SP X pins D) X.xe s
theorem cC{α:Type}{t:Sem α}{Q Q' :α→Shared→Prop}{M:Model}{A:Around}{E:Value→Shared→Prop}{s:Shared}(h:wpAny M A t Q E s)(hQ:∀a s,Q a s→Q' a s):wpAny M A t Q' E s:=fW h hQ fun _ _ x=>x
section
variable{X:Cx}
theorem bin{a b:Expr}{ta tb:TE}(ha:PE X a ta)(hb:PE X b tb){pins:aZ}{s:Shared}{σ:St}{H:Hp}{R:V→V→Hp→Prop}(I:Inv X pins σ H s)(h:ta σ H fun x H1=>tb σ H1 fun y H2=>R x y H2)
 {α:Type} {Q:α→Shared→Prop} {f:Value→Value→Sem α}
 (hf:∀v u s2 x y H2,Inv X pins σ H2 s2→RelV x v→RelV y u→R x y H2→wpAny (model X.prog X.w) X.A (f v u) Q X.xe s2):
 wpAny (model X.prog X.w) X.A (eval a X.env) (fun v cD=>wpAny (model X.prog X.w) X.A (eval b X.env) (fun u q_=>wpAny (model X.prog X.w) X.A (f v u) Q X.xe q_) X.xe cD) X.xe s:=by
 refine cC (ha pins s σ H _ I h) fun v s1 ⟨x,H1,I1,r1,q1⟩=> ?_;refine cC (hb pins s1 σ H1 _ I1 q1) fun u s2 ⟨y,H2,I2,r2,q2⟩=> ?_;exact hf v u s2 x y H2 I2 r1 r2 q2
noncomputable def aaj(i:Nat):TE:=fun σ H Q=>∃v,σ[i]? =some (some v)∧Q v H
noncomputable def tC(v:V):TE:=fun _ H Q=>Q v H
theorem Th{i:Nat}{x:Str}{pos:Pos}(hN:X.N[i]? =some x)(hv:Vis X.env.scope x)(hd:(x==("__debug__" :Str))=false:=by decide)(Lh:(x==("__classdict__" :Str))=false:=by decide):PE X (.Name x pos) (aaj i):=by
 intro pins s σ H Q I h;obtain⟨v,e,h⟩:=h;obtain⟨m,hn,hl⟩:=I.loc;obtain⟨u,r,l⟩:=hl i x v hN e hv;have fin:EP X pins σ Q u s:=⟨v,H,I,r,h⟩;rcases l with⟨hk,hm⟩|⟨hk,c,hc,FO⟩
 ·exact wpAny_Name (wpAny_loadName_local I.ok.kind hk hn hm fin) hd
 ·rcases hk with hk|hk
  ·exact wpAny_Name (wpAny_loadName_cell I.ok.kind hk hc FO fin) hd
  ·exact wpAny_Name (wpAny_loadName_free I.ok.kind hk hc FO fin Lh) hd
theorem aj{i j pos}:PE X (.Constant (.int i) j pos) (tC (.int i)):=fun _ _ _ H _ I h=>wpAny_Constant_int ⟨.int i,H,I.tok _,⟨_,rfl⟩,h⟩
theorem gR{b j pos}:PE X (.Constant (.bool b) j pos) (tC (.bl b)):=fun _ _ _ H _ I h=>Constant_bool ⟨.bl b,H,I,rfl,h⟩
theorem dh{j pos}:PE X (.Constant .none j pos) (tC .bK):=fun _ _ _ H _ I h=>Constant_none ⟨.bK,H,I,rfl,h⟩
theorem aR{x j pos}:PE X (.Constant (.str x) j pos) (tC (.str x)):=fun _ _ _ H _ I h=>Calls.Constant_str ⟨.str x,H,I.tok _,⟨_,rfl⟩,h⟩
noncomputable def Gl(X:Cx)(x:Str):Prop:=X.env.kindOf x=some .globalImplicit
theorem xG{E:Value→Shared→Prop}{pins:aZ}{s:Shared}{σ:St}{H:Hp}{x:Str}{u:Value}{pos:Pos}{Q:Value→Shared→Prop}(I:Inv X pins σ H s)(hg:Gl X x)(hm:X.mg x=some u)(h:Q u s)
 (hd:(x==("__debug__" :Str))=false:=by decide):wpAny (model X.prog X.w) X.A (eval (.Name x pos) X.env) Q E s:=
 Calls.Name_function_global I.ok.kind hg (Calls.loadGlobal_global (by rw[I.ok.glob];exact I.mod.glob.keeps I.bk) hm h) hd
theorem mE{E:Value→Shared→Prop}{pins:aZ}{s:Shared}{σ:St}{H:Hp}{x:Str}{u:Value}{pos:Pos}{Q:Value→Shared→Prop}(I:Inv X pins σ H s)(hg:Gl X x)(hm:X.mg x=none)(hv:bootBuiltins x=some u)(h:Q u s)
 (hn:x≠ "__name__":=by decide) (hd:(x==("__debug__" :Str))=false:=by decide):wpAny (model X.prog X.w) X.A (eval (.Name x pos) X.env) Q E s:=by
 obtain⟨mb,h1,h2⟩:=I.mod.blt;exact Calls.Name_function_global I.ok.kind hg (Calls.loadGlobal_builtin (by rw[I.ok.glob];exact I.mod.glob.keeps I.bk) hm (by rw[I.ok.blt];exact h1.keeps I.bk) ((h2 x hn).trans hv) h) hd
theorem mC{x:Str}{v:V}{u:Value}{pos:Pos}(hg:Gl X x)(hm:X.mg x=some u)(r:RelV v u)(hd:(x==("__debug__" :Str))=false:=by decide):PE X (.Name x pos) (tC v):=
 fun _ _ _ H _ I h=>xG I hg hm ⟨v,H,I,r,h⟩ hd
theorem iQ{x:Str}{v:V}{u:Value}{pos:Pos}(hg:Gl X x)(hm:X.mg x=none)(hv:bootBuiltins x=some u)(r:RelV v u)(hn:x≠ "__name__":=by decide)(hd:(x==("__debug__" :Str))=false:=by decide):PE X (.Name x pos) (tC v):=
 fun _ _ _ H _ I h=>mE I hg hm hv ⟨v,H,I,r,h⟩ hn hd
variable{a b:Expr}{ta tb:TE}{pos:Pos}
noncomputable def PC(X:Cx)(op:CmpOp)(a b:Expr)(t:TE):Prop:=
 ∀(pins:aZ) (s:Shared) (σ:St) (H:Hp) (Q:VK),Inv X pins σ H s→t σ H Q→
  wpAny (model X.prog X.w) X.A (eval a X.env) (fun v cD=>wpAny (model X.prog X.w) X.A (eval b X.env) (fun u q_=>wpAny (model X.prog X.w) X.A (compareOp op v u) (EP X pins σ Q) X.xe q_) X.xe cD) X.xe s
theorem Dg(b:Expr){op:CmpOp}(h:op≠.In)(h2:op≠.NotIn):behindInMarks op b=false:=by
 have e1:(op==CmpOp.In)=false:=by cases op<;>first|rfl|exact absurd rfl h
 have e2:(op==CmpOp.NotIn)=false:=by cases op<;>first|rfl|exact absurd rfl h2
 cases b<;>simp[behindInMarks,e1,e2]
noncomputable def tB(t:TE):TT:=fun σ H Q=>t σ H fun x H1=>∃c,x= .bl c∧Q c H1
theorem Vk{op:CmpOp}{t:TE}(h:PC X op a b t)(h1:behindInMarks op b=false:=by first|exact Dg _ (by decide) (by decide)|rfl):PE X (.Compare a [op] [b] pos) t:=fun pins s σ H Q I hw=>wpAny_Compare1 (h pins s σ H Q I hw) h1
theorem Lc{op:CmpOp}{t:TE}(h:PC X op a b t)(h1:behindInMarks op b=false:=by first|exact Dg _ (by decide) (by decide)|rfl):PT X (.Compare a [op] [b] pos) (tB t):=by
 intro pins s σ H Q I hw;refine wpAny_isTrue_Compare1 (cC (h pins s σ H _ I hw) fun v s1 h1=>cC h1 fun u s2 h2=>cC h2 fun c s3 ⟨x,H1,I1,r1,q1⟩=> ?_) h1;obtain⟨d,rfl,q⟩:=q1;cases r1;exact ph ⟨H1,I1,q⟩
theorem dQ{e:Expr}{t:TE}(h:PE X e t)(he:∀whole,isTrue e X.env whole=(do let v←whole;standAt e.pos;holding [v] (truthy v)):=by intro _;rfl):PT X e (tB t):=by
 intro pins s σ H Q I hw;refine isTrue_plain (cC (h pins s σ H _ I hw) fun v s1 ⟨x,H1,I1,r1,q1⟩=> ?_) (he _);obtain⟨d,rfl,q⟩:=q1;cases r1;exact ph ⟨H1,I1,q⟩
variable{tA tB' :TT}{wP:cq}
noncomputable def ags(t u:TT):TT:=fun σ H Q=>t σ H fun c H1=>if c=true then u σ H1 Q else Q false H1
noncomputable def tOr(t u:TT):TT:=fun σ H Q=>t σ H fun c H1=>if c=true then Q true H1 else u σ H1 Q
noncomputable def ag2(t:TT):TT:=fun σ H Q=>t σ H fun c H1=>Q (!c) H1
theorem ZB(ha:PT X a tA):PW X (.BoolOp .And [a] pos) tA:=by
 intro wh pins s σ H Q I h;refine isTrue_and (cC (ha pins s σ H Q I h) fun c s1 e=> ?_)
 cases c with
 |true=>exact isTrue_and_nil e
 |false=>exact e
theorem jab(ha:PT X a tA):PW X (.BoolOp .Or [a] pos) tA:=by
 intro wh pins s σ H Q I h;refine isTrue_or (cC (ha pins s σ H Q I h) fun c s1 e=> ?_)
 cases c with
 |false=>exact isTrue_or_nil e
 |true=>exact e
theorem jac(ha:PT X a tA)(hb:PW X (.BoolOp .And (b::wP) pos) tB'):PW X (.BoolOp .And (a::b::wP) pos) (ags tA tB'):=by
 intro wh pins s σ H Q I h;refine isTrue_and (cC (ha pins s σ H _ I h) fun c s1 ⟨H1,I1,q1⟩=> ?_)
 cases c with
 |true=>exact hb wh pins s1 σ H1 Q I1 q1
 |false=>exact⟨H1,I1,q1⟩
theorem jad(ha:PT X a tA)(hb:PW X (.BoolOp .Or (b::wP) pos) tB'):PW X (.BoolOp .Or (a::b::wP) pos) (tOr tA tB'):=by
 intro wh pins s σ H Q I h;refine isTrue_or (cC (ha pins s σ H _ I h) fun c s1 ⟨H1,I1,q1⟩=> ?_)
 cases c with
 |true=>exact⟨H1,I1,q1⟩
 |false=>exact hb wh pins s1 σ H1 Q I1 q1
theorem eB(ha:PT X a tA):PT X (.UnaryOp .Not a pos) (ag2 tA):=by
 intro pins s σ H Q I h;exact isTrue_not (ha pins s σ H (fun c H1=>Q (!c) H1) I h)
noncomputable def ZX(ta tb:TE):TE:=fun σ H Q=>ta σ H fun x H1=>∃c,x= .bl c∧if c=true then tb σ H1 Q else Q (.bl false) H1
noncomputable def agt(ta tb:TE):TE:=fun σ H Q=>ta σ H fun x H1=>∃c,x= .bl c∧if c=true then Q (.bl true) H1 else tb σ H1 Q
noncomputable def acD(ta:TE):TE:=fun σ H Q=>ta σ H fun x H1=>∃c,x= .bl c∧Q (.bl (!c)) H1
theorem iC{op}{t:TE}(h:PE X a t):PE X (.BoolOp op [a] pos) t:=fun pins s σ H Q I hw=>BoolOp_one (h pins s σ H Q I hw)
theorem iF(ha:PE X a ta)(hb:PE X (.BoolOp .And (b::wP) pos) tb):PE X (.BoolOp .And (a::b::wP) pos) (ZX ta tb):=by
 intro pins s σ H Q I h;refine BoolOp_and (cC (ha pins s σ H _ I h) fun v s1 ⟨x,H1,I1,r1,q1⟩=> ?_);obtain⟨c,rfl,q1⟩:=q1;cases r1;refine ph ?_
 cases c with
 |true=>exact hb pins s1 σ H1 Q I1 q1
 |false=>exact⟨.bl false,H1,I1,rfl,q1⟩
theorem RQ(ha:PE X a ta)(hb:PE X (.BoolOp .Or (b::wP) pos) tb):PE X (.BoolOp .Or (a::b::wP) pos) (agt ta tb):=by
 intro pins s σ H Q I h;refine BoolOp_or (cC (ha pins s σ H _ I h) fun v s1 ⟨x,H1,I1,r1,q1⟩=> ?_);obtain⟨c,rfl,q1⟩:=q1;cases r1;refine ph ?_
 cases c with
 |false=>exact hb pins s1 σ H1 Q I1 q1
 |true=>exact⟨.bl true,H1,I1,rfl,q1⟩
theorem JA(ha:PE X a ta):PE X (.UnaryOp .Not a pos) (acD ta):=by
 intro pins s σ H Q I h;refine UnaryOp_ (cC (ha pins s σ H _ I h) fun v s1 ⟨x,H1,I1,r1,q1⟩=> ?_);obtain⟨c,rfl,q1⟩:=q1;cases r1;exact not_of (ph ⟨.bl (!c),H1,I1,rfl,q1⟩)
end
noncomputable def bw(K:Frag)(H:Hp)(a:Addr)(xs:aA):Prop:=
 Rd H a (.lst xs)∨
  ∃(o:Obj) (its:Array Value) (n:Nat),K.lookup a=some o∧o.cls= .type "list" ∧o.dict=none∧o.data= .seq its n∧its.size≤sizeLine∧Vals xs its.toList
noncomputable def gg(K:Frag)(H:Hp)(a:Addr)(xs:aA):Prop:=
 Rd H a (.tup xs)∨
  ∃(o:Obj) (its:Array Value) (n:Nat),K.lookup a=some o∧o.cls= .type "tuple" ∧o.data= .seq its n∧its.size≤sizeLine∧Vals xs its.toList
noncomputable def aeH:Value→Option V
 | .none=>some .bK
 | .bool b=>some (.bl b)
 | .int i _=>some (.int i)
 | .str x _=>some (.str x)
 | .bytes b _=>some (.I0 b)
 | .float b _=>some (.Ux b)
 | .ref a=>some (.ref a)
 | .type n=>some (.ty n)
 |_=>none
theorem RelV.abs{x:V}{u:Value}(r:RelV x u):aeH u=some x:=by
 cases x with
 |bK=>cases r;rfl
 |bl _=>cases r;rfl
 |int _=>obtain⟨t,rfl⟩:=r;rfl
 |str _=>obtain⟨t,rfl⟩:=r;rfl
 |I0 _=>obtain⟨t,rfl⟩:=r;rfl
 |Ux _=>obtain⟨t,rfl⟩:=r;rfl
 |ref _=>cases r;rfl
 |ty _=>cases r;rfl
theorem RelV.inj{x y:V}{u:Value}(r:RelV x u)(q:RelV y u):x=y:=fH (r.abs.symm.trans q.abs)
theorem Vals.inj:∀{xs ys:aA} {us:aP},Vals xs us→Vals ys us→xs=ys
 |_,_,_,.nil,.nil=>rfl
 |_,_,_,.cons r t,.cons r' t' =>by rw[r.inj r',Vals.inj t t']
section
variable{X:Cx}{pins:aZ}{σ:St}{H:Hp}{s:Shared}{a:Addr}{xs ys:aA}
theorem bw.of{K:Frag}(h:H a=some (.lst xs)):bw K H a xs:= .inl (.inl h)
theorem gg.of{K:Frag}(h:H a=some (.tup xs)):gg K H a xs:= .inl (.inl h)
theorem Inv.list(I:Inv X pins σ H s)(h:bw X.K H a xs):∃its:aP,Vals xs its∧PlainL s.heap a its.toArray∧xs.length≤sizeLine:=by
 rcases h with h|⟨o,its,n,hk,hc,hd,hs,hz,r⟩
 ·obtain⟨z,its,n,r,e⟩:=h.ok I.bE;exact⟨its,r,⟨_,n,e,rfl,rfl,rfl⟩,z⟩
 ·refine⟨its.toList,r,⟨o,n,I.uK a o hk,hc,hd,by simpa using hs⟩,?_⟩;have e:=r.length;simp only[xB] at e
  lia
theorem Inv.tuple(I:Inv X pins σ H s)(h:gg X.K H a xs):∃its:aP,Vals xs its∧IsTup s.heap a its.toArray∧xs.length≤sizeLine:=by
 rcases h with h|⟨o,its,n,hk,hc,hs,hz,r⟩
 ·obtain⟨z,its,r,p⟩:=h.ok I.bE;exact⟨its,r,p,z⟩
 ·refine⟨its.toList,r,⟨o,I.uK a o hk,hc,n,by simpa using hs⟩,?_⟩;have e:=r.length;simp only[xB] at e
  lia
theorem Inv.nW(I:Inv X pins σ H s)(h:bw X.K H a xs)(h' :bw X.K H a ys):xs=ys:=by
 obtain⟨its,r,⟨o,n,e,_,_,d⟩,_⟩:=I.list h;obtain⟨its',r',⟨o',n',e',_,_,d'⟩,_⟩:=I.list h';rw[e] at e';cases e'
 rw[d] at d';injection d' with d1 _;have:its=its' :=by simpa using congrArg Array.toList d1
 subst this;exact r.inj r'
end
noncomputable abbrev Cx.wY(X:Cx)(E:Value→Shared→Prop):Cx:={X with xe:=E}
noncomputable abbrev Cx.KS(X:Cx):Cx:=X.wY fun _ _=>False
theorem Cx.Ok.wY{X:Cx}(ok:X.Ok)(E:Value→Shared→Prop):(X.wY E).Ok:=
 ⟨ok.mod,ok.kind,ok.glob,ok.blt,ok.above,ok.inj,ok.has,ok.cab,ok.hd,ok.frames,ok.stk,ok.exf,ok.bs,ok.KZ,ok.J_,ok.OR,ok.uY,ok.Pq⟩
theorem Cx.Ok.kq{X:Cx}{E:Value→Shared→Prop}(ok:(X.wY E).Ok):X.Ok:=
 ⟨ok.mod,ok.kind,ok.glob,ok.blt,ok.above,ok.inj,ok.has,ok.cab,ok.hd,ok.frames,ok.stk,ok.exf,ok.bs,ok.KZ,ok.J_,ok.OR,ok.uY,ok.Pq⟩
section
variable{X:Cx}{pins:aZ}{σ:St}{H:Hp}{s:Shared}{E:Value→Shared→Prop}
theorem Inv.wY(I:Inv X pins σ H s)(E:Value→Shared→Prop):Inv (X.wY E) pins σ H s:=⟨I.ok.wY E,I.os,I.bare,I.base,I.loc,I.cell,I.free,I.nj,I.pin,I.bE,I.len⟩
theorem Inv.kq(I:Inv (X.wY E) pins σ H s):Inv X pins σ H s:=⟨I.ok.kq,I.os,I.bare,I.base,I.loc,I.cell,I.free,I.nj,I.pin,I.bE,I.len⟩
theorem SP.kq{D:Ends}{f:Flow}{s' :Shared}(h:SP (X.wY E) pins D f s'):SP X pins D f s' :=by
 cases f with
 |next=>obtain⟨c9,H',I,q⟩:=h;exact⟨c9,H',I.kq,q⟩
 |brk=>obtain⟨c9,H',I,q⟩:=h;exact⟨c9,H',I.kq,q⟩
 |cont=>obtain⟨c9,H',I,q⟩:=h;exact⟨c9,H',I.kq,q⟩
 |ret u=>obtain⟨v,c9,H',I,r,q⟩:=h;exact⟨v,c9,H',I.kq,r,q⟩
theorem PE.KS{e:Expr}{t:TE}(h:PE X.KS e t):PE X e t:=fun pins s σ H Q I hw=>
 fW (h pins s σ H Q (I.wY _) hw) (fun _ _ ⟨v,H',I',r,q⟩=>⟨v,H',I'.kq,r,q⟩) fun _ _ z=>False.elim z
theorem PT.KS{e:Expr}{t:TT}(h:PT X.KS e t):PT X e t:=fun pins s σ H Q I hw=>
 fW (h pins s σ H Q (I.wY _) hw) (fun _ _ ⟨H',I',q⟩=>⟨H',I'.kq,q⟩) fun _ _ z=>False.elim z
theorem C8.KS{st:List Stmt}{t:TS}(h:C8 X.KS st t):C8 X st t:=fun pins s σ H D I hw=>
 fW (h pins s σ H D (I.wY _) hw) (fun _ _ q=>q.kq) fun _ _ z=>False.elim z
end
section
variable{X:Cx}{st:Stmt}{wP:List Stmt}{t u:TS}{e:Expr}{te:TE}{pos:Pos}
noncomputable def PX:TS:=fun D σ H=>D.nx σ H
noncomputable def abW(t u:TS):TS:=fun D σ H=>t {D with nx:=u D} σ H
theorem bc:C8 X [] PX:=fun _ _ σ H _ I h=>xm ⟨σ,H,I,h⟩
theorem ah(h1:PS X st t)(h2:C8 X wP u):C8 X (st::wP) (abW t u):=by
 intro pins s σ H D I h;refine wpAny_execs_cons (cC (h1 pins s σ H {D with nx:=u D} I h) fun f s1 q=> ?_)
 cases f with
 |next=>
  obtain⟨c9,H',I',q⟩:=q;exact h2 pins s1 c9 H' D I' q
 |ret v=>exact q
 |brk=>exact q
 |cont=>exact q
theorem ao(h1:PS X st t):C8 X [st] t:=by
 intro pins s σ H D I h;refine wpAny_execs_cons (cC (h1 pins s σ H D I h) fun f s1 q=> ?_)
 cases f with
 |next=>exact xm q
 |ret v=>exact q
 |brk=>exact q
 |cont=>exact q
theorem Inv.quiet{pins:aZ}{σ:St}{H:Hp}{s:Shared}(I:Inv X pins σ H s):interactive X.env=false:=by simp[interactive,I.ok.kind]
noncomputable def abO(te:TE):TS:=fun D σ H=>te σ H fun _ H1=>D.nx σ H1
theorem bB(he:PE X e te)(hs:swapsWith e none pos.line X.env=pure false:=by rfl):PS X (.Expr e pos) (abO te):=by
 intro pins s σ H D I h;exact wpAny_Expr_any (cC (he pins s σ H _ I h) fun v s1 ⟨x,H1,I1,r1,q1⟩=>⟨σ,H1,I1,q1⟩) I.quiet hs
noncomputable def Wx(te:TE):TS:=fun D σ H=>te σ H D.rt
theorem aK(he:PE X e te):PS X (.Return (some e) pos) (Wx te):=by
 intro pins s σ H D I h;exact wpAny_Return_some (cC (he pins s σ H _ I h) fun v s1 ⟨x,H1,I1,r1,q1⟩=>⟨x,σ,H1,I1,r1,q1⟩)
noncomputable def acb(c:TT)(t u:TS):TS:=fun D σ H=>c σ H fun b H1=>if b=true then t D σ H1 else u D σ H1
theorem bW{c:Expr}{a b:List Stmt}{tc:TT}(hc:PT X c tc)(ha:C8 X a t)(hb:C8 X b u):PS X (.If c a b pos) (acb tc t u):=by
 intro pins s σ H D I h;refine wpAny_If (cC (hc pins s σ H _ I h) fun d s1 ⟨H1,I1,q1⟩=> ?_)
 cases d with
 |true=>exact ha pins s1 σ H1 D I1 q1
 |false=>exact hb pins s1 σ H1 D I1 q1
noncomputable def U5:TS:=fun _ _ _=>False
theorem eP:PS X st U5:=fun _ _ _ _ _ _ h=>h.elim
end
noncomputable abbrev TG:=V→St→Hp→(St→Hp→Prop)→Prop
noncomputable abbrev QU:=aA→St→Hp→(St→Hp→Prop)→Prop
noncomputable def PG(X:Cx)(target:Expr)(t:TG):Prop:=
 ∀(pins:aZ) (s:Shared) (σ:St) (H:Hp) (v:V) (u:Value) (Q:St→Hp→Prop),Inv X pins σ H s→RelV v u→t v σ H Q→
  wpAny (model X.prog X.w) X.A (assign target X.env u) (fun _ s' =>∃c9 H',Inv X pins c9 H' s'∧Q c9 H') X.xe s
noncomputable def PGs(X:Cx)(ts:cq)(t:QU):Prop:=
 ∀(pins:aZ) (s:Shared) (σ:St) (H:Hp) (vs:aA) (us:aP) (Q:St→Hp→Prop),Inv X pins σ H s→Vals vs us→t vs σ H Q→
  wpAny (model X.prog X.w) X.A (assignInOrder ((assignEach ts X.env).map (·.2)) us) (fun _ s' =>∃c9 H',Inv X pins c9 H' s'∧Q c9 H') X.xe s
noncomputable abbrev S3:=V→V→V→Hp→(Hp→Prop)→Prop
noncomputable def YM(X:Cx)(t:S3):Prop:=
 ∀(pins:aZ) (s:Shared) (σ:St) (H:Hp) (o i v:V) (ov iv u:Value) (Q:Hp→Prop),Inv X pins σ H s→RelV o ov→RelV i iv→RelV v u→t o i v H Q→
  wpAny (model X.prog X.w) X.A (setItem ov iv u) (fun _ s' =>∃H',Inv X pins σ H' s'∧Q H') X.xe s
noncomputable abbrev TIp:=V→V→Hp→VK→Prop
noncomputable def PIp(X:Cx)(op:Operator)(t:TIp):Prop:=
 ∀(pins:aZ) (s:Shared) (σ:St) (H:Hp) (x y:V) (v u:Value) (Q:VK),Inv X pins σ H s→RelV x v→RelV y u→t x y H Q→
  wpAny (model X.prog X.w) X.A (inplaceOp op v u) (EP X pins σ Q) X.xe s
section
variable{X:Cx}{pos:Pos}
noncomputable def zi(i:Nat):TG:=fun v σ H Q=>Q (σ.set i (some v)) H
theorem NG{i:Nat}{x:Str}(hN:X.N.Nodup)(hi:X.N[i]? =some x)(hx:Loc X.env.scope x)(hf:X.fn x=true∨X.env.scope.names.lookup x=some .local:=by first|exact .inl rfl|exact .inr rfl|assumption):PG X (.Name x pos) (zi i):=by
 intro pins s σ H v u Q I r h;exact wpAny_assign_Name (zW I hN hi hx r (fun s' I' =>⟨_,H,I',h⟩) hf)
noncomputable def afb:QU:=fun vs σ H Q=>vs=[]∧Q σ H
noncomputable def XN(t:TG)(u:QU):QU:=fun vs σ H Q=>∃v r,vs=v::r∧t v σ H fun c9 H' =>u r c9 H' Q
theorem pD:PGs X [] afb:=by
 intro pins s σ H vs us Q I r h;obtain⟨e,h⟩:=h;subst e;cases r;exact assignInOrder_nil ⟨σ,H,I,h⟩
theorem eS{e:Expr}{es:cq}{t:TG}{u:QU}(h1:PG X e t)(h2:PGs X es u)
 (hs:(assignEach (e::es) X.env).map (·.2)=assign e X.env::(assignEach es X.env).map (·.2):=by rfl):PGs X (e::es) (XN t u):=by
 intro pins s σ H vs us Q I r h;obtain⟨v,vr,e1,h⟩:=h;subst e1
 cases r with
 |cons r rr=>
  rw[hs];refine assignInOrder_cons (cC (h1 pins s σ H _ _ _ I r h) fun _ s1 ⟨VL,H1,I1,q1⟩=> ?_);exact h2 pins s1 VL H1 _ _ Q I1 rr q1
noncomputable def ZK(K:Frag)(n:Nat)(t:QU):TG:=fun v σ H Q=>∃a xs,v= .ref a∧gg K H a xs∧xs.length=n∧t xs σ H Q
theorem EF{es:cq}{k:Nat}{t:QU}{n:Nat}(hc:X.calm=true)(h:PGs X es t)
 (hn:(assignEach es X.env).length=n:=by rfl) (fC:(assignEach es X.env).findIdx? (·.1)=none:=by rfl):PG X (.Tuple es k pos) (ZK X.K n t):=by
 intro pins s σ H v u Q I r hw;obtain⟨a,xs,e1,hq,hl,hw⟩:=hw;subst e1;cases r;obtain⟨its,rv,ht,hz⟩:=I.tuple hq;refine assign_Tuple_tuple (I.ok.hd hc) ht (by simp[hn,←hl,rv.length]) fC fun h' hx=> ?_;have I1:Inv X pins σ H {s with heap:=h'}:=I.kept (t' :=s.toks) fun b o e=>hx b o (bF (bh e)) e;exact h pins _ σ H xs _ Q I1 (by simpa using rv) hw
noncomputable def agV(to ti:TE)(t:S3):TG:=fun v σ H Q=>to σ H fun o H1=>ti σ H1 fun i H2=>t o i v H2 fun H3=>Q σ H3
theorem n0{o i:Expr}{to ti:TE}{t:S3}(ho:PE X o to)(hi:PE X i ti)(hs:YM X t)
 (ha:∀v,assign (.Subscript o i pos) X.env v=(do
  let ov←holding [v] (eval o X.env)
  let iv←holding [v,ov] (eval i X.env)
  standAt pos
  holding [v,ov,iv] (setItem ov iv v)
  release [v,ov,iv] []):=by intro _;rfl):PG X (.Subscript o i pos) (agV to ti t):=by
 intro pins s σ H v u Q I r h;rw[ha];refine ag (g7 (cC (ho pins s σ H _ I h) fun ov s1 ⟨x,H1,I1,r1,q1⟩=> ?_));refine ag (g7 (cC (hi pins s1 σ H1 _ I1 q1) fun iv s2 ⟨y,H2,I2,r2,q2⟩=> ?_));refine ag (wpAny_standAt (ag (g7 (cC (hs pins s2 σ H2 x y v ov iv u _ I2 r1 r2 r q2) fun _ s3 ⟨H3,I3,q3⟩=> ?_))));exact wpAny_release ⟨σ,H3,I3,q3⟩
noncomputable def He(te:TE)(g:TG):TS:=fun D σ H=>te σ H fun x H1=>g x σ H1 D.nx
theorem oT{tg e:Expr}{te:TE}{g:TG}(he:PE X e te)(hg:PG X tg g)(hs:swapsWithSole [tg] e pos.line X.env=pure false:=by rfl)(hw:swappedStores [tg] e X.env=pure none:=by rfl)
 (h1:(assignEach [tg] X.env).map (·.2)=[assign tg X.env]:=by rfl):PS X (.Assign [tg] e pos) (He te g):=by
 intro pins s σ H D I h;refine wpAny_Assign_stores (cC (he pins s σ H _ I h) fun v s1 ⟨x,H1,I1,r1,q1⟩=> ?_) hs hw;rw[h1];exact cC (hg pins s1 σ H1 x v _ I1 r1 q1) fun _ s2 q=>q
theorem Kz{i:Nat}{x:Str}{e:Expr}{te:TE}{pos' :Pos}(hN:X.N.Nodup)(hi:X.N[i]? =some x)(hx:Loc X.env.scope x)(he:PE X e te)(hs:swapsWith e (some (.Name x pos')) pos.line X.env=pure false:=by rfl)(hf:X.fn x=true∨X.env.scope.names.lookup x=some .local:=by first|exact .inl rfl|exact .inr rfl|assumption):
 PS X (.Assign [.Name x pos'] e pos) (He te (zi i)):=by
 intro pins s σ H D I h;refine wpAny_Assign_Name (cC (he pins s σ H _ I h) fun v s1 ⟨y,H1,I1,r1,q1⟩=> ?_) hs;exact zW I1 hN hi hx r1 (fun s2 I2=>⟨_,H1,I2,q1⟩) hf
noncomputable def aia(i:Nat)(te:TE)(ti:TIp):TS:=fun D σ H=>∃x,σ[i]? =some (some x)∧te σ H fun y H1=>ti x y H1 fun z H2=>D.nx (σ.set i (some z)) H2
theorem Uo{i:Nat}{x:Str}{e:Expr}{te:TE}{op:Operator}{ti:TIp}{pos' :Pos}(hN:X.N.Nodup)(hi:X.N[i]? =some x)(hx:Loc X.env.scope x)(he:PE X e te)(ho:PIp X op ti)(hf:X.fn x=true∨X.env.scope.names.lookup x=some .local:=by first|exact .inl rfl|exact .inr rfl|assumption):
 PS X (.AugAssign (.Name x pos') op e pos) (aia i te ti):=by
 intro pins s σ H D I h;obtain⟨v,e1,h⟩:=h;obtain⟨m,hn,hl⟩:=I.loc
 have vis:Vis X.env.scope x:=by rcases hx with k|k;exact .inl k;exact .inr (.inl k)
 obtain⟨u,r,l⟩:=hl i x v hi e1 vis;refine wpAny_AugAssign_Name ?_
 have go:wpAny (model X.prog X.w) X.A (eval e X.env) (fun w q_=>wpAny (model X.prog X.w) X.A (inplaceOp op u w) (fun r AL=>wpAny (model X.prog X.w) X.A (storeName X.env x r) (fun _=>SP X pins D .next) X.xe AL) X.xe q_) X.xe s:=by
  refine cC (he pins s σ H _ I h) fun w s1 ⟨y,H1,I1,r1,q1⟩=> ?_;refine cC (ho pins s1 σ H1 v y u w _ I1 r r1 q1) fun z s2 ⟨zv,H2,I2,r2,q2⟩=> ?_;exact zW I2 hN hi hx r2 (fun s3 I3=>⟨_,H2,I3,q2⟩) hf
 rcases l with⟨hk,hm⟩|⟨hk,c,hc,FO⟩
 ·exact wpAny_loadName_local I.ok.kind hk hn hm go
 ·rcases hk with hk|hk
  ·exact wpAny_loadName_cell I.ok.kind hk hc FO go
  ·rcases hx with k|k
   ·have:X.env.scope.names.lookup x=some .free:=hk;rw[k] at this;cases this
   ·have:X.env.scope.names.lookup x=some .free:=hk;rw[k] at this;cases this
noncomputable def ipI(f:Int→Int→Int):TIp:=fun x y H Q=>∃i j,x= .int i∧y= .int j∧Q (.int (f i j)) H
theorem Ud:PIp X .Add (ipI fun i j=>i+j):=by
 intro pins s σ H x y v u Q I r1 r2 h;obtain⟨i,j,e1,e2,q⟩:=h;subst e1;subst e2
 obtain⟨t,rfl⟩:=r1;obtain⟨t',rfl⟩:=r2;exact iadd_int ⟨.int _,H,I.tok _,⟨_,rfl⟩,q⟩
end
section
variable{X:Cx}{pos:Pos}
noncomputable def Va(c:TT)(tb:TS):TS:=fun D σ H=>∃W:Nat→St→Hp→Prop,(∃m,W m σ H)∧∀m σ H,W m σ H→
 c σ H fun b H1=>if b=true then ∃N:St→Hp→Prop,(∀c9 H',N c9 H'→∃m',m' <m∧W m' c9 H')∧tb {D with nx:=N,ct:=N,bk:=D.nx} σ H1 else D.nx σ H1
theorem sI{c:Expr}{body:List Stmt}{tc:TT}{tb:TS}(hp:PassesOwn (model X.prog X.w) X.A X.env X.xe)(hc:PT X c tc)(hb:C8 X body tb):PS X (.While c body [] pos) (Va tc tb):=by
 intro pins s σ H D I h;obtain⟨W,⟨m0,w0⟩,turn⟩:=h;refine wpAny_While (codeAny_whileLoop (fun n s' =>∃c9 H',Inv X pins c9 H' s'∧W n c9 H') ?_ m0 ⟨σ,H,I,w0⟩)
 rintro n s1 ⟨VL,H1,I1,w1⟩
 refine lV hp (cC (hc pins s1 VL H1 _ I1 (turn n VL H1 w1)) fun b s2 ⟨H2,I2,q2⟩=> ?_)
 cases b with
 |true=>
  obtain⟨N,hN,q2⟩:=q2;rw[aC rfl];refine lV hp (cC (hb pins s2 VL H2 _ I2 q2) fun f s3 q3=> ?_)
  cases f with
  |next=>
   obtain⟨JG,H3,I3,n3⟩:=q3;obtain⟨m',hm,w3⟩:=hN JG H3 n3;exact⟨m',hm,JG,H3,I3,w3⟩
  |cont=>
   obtain⟨JG,H3,I3,n3⟩:=q3;obtain⟨m',hm,w3⟩:=hN JG H3 n3;exact⟨m',hm,JG,H3,I3,w3⟩
  |brk=>exact q3
  |ret v=>exact q3
 |false=>
  rw[au b7];exact xm ⟨VL,H2,I2,q2⟩
end
set_option genInjectivity false in
set_option genSizeOf false in
structure It where
 go:Nat→Hp→Prop
 vC:Nat→Hp→V→Hp→Prop
 stop:Nat→Hp→Prop
noncomputable def p5(X:Cx)(pins:aZ)(H:Hp)(b:Addr):Prop:=
 H b=none∧b≠X.env.locals∧b∉X.fs∧(b∈X.ex∨X.ia.heap.objs.size≤b)∧(∀x c,X.env.cells.lookup x=some c→c≠b)∧∀p∈X.pn++pins,p.1≠b
theorem Inv.uZ{X:Cx}{pins:aZ}{σ:St}{H H' :Hp}{s:Shared}{b:Addr}(I:Inv X pins σ H s)(hb:s.heap.objs.size≤b)(hn:H' b=none):p5 X pins H' b:=by
 refine⟨hn,eh (eF I.lt hb),I.agn hb,.inr (aY I.sz hb),fun x c e z=> ?_,fun p hp z=> ?_⟩
 ·obtain⟨v,q⟩:=I.cell x c e;exact absurd (eF q.lt (by rw[z];exact hb)) (eA _)
 ·exact absurd (eF (bh (I.pin p hp).1) (by rw[z];exact hb)) (eA _)
structure Turn(P:Program)(w:World)(K:Frag)(tg:Expr)(J:It)(fp:aH)(it:Addr)(tn:Nat→Heap→Prop):Prop where
 mem:it∈fp
 obj:∀i h,tn i h→∀b∈fp,∃o,h.get? b=some o∧∀v,o.data≠.cell v
 keep:∀i h h',tn i h→(∀b∈fp,∀o,h.get? b=some o→h'.get? b=some o)→tn i h'
 item:∀(X:Cx),X.prog=P→X.w=w→X.K=K→X.calm=true→∀(i:Nat) (pins:aZ) (s:Shared) (σ:St) (H:Hp) (E:Value→Shared→Prop),Inv X pins σ H s→(∀b∈fp,p5 X pins H b)→tn i s.heap→J.go i H→
  wpAny (model P w) X.A (pyNext (.ref it)) (fun r s1=>∃u,r=some u∧
   wpAny (model P w) X.A (letOwnedTupleGo tg (.ref it) u) (fun _ s2=>∃x H',Inv X pins σ H' s2∧RelV x u∧J.vC i H x H'∧tn (i+1) s2.heap∧∀b∈fp,H' b=none) E s1) E s
 done:∀(X:Cx),X.prog=P→X.w=w→X.K=K→X.calm=true→∀(i:Nat) (pins:aZ) (s:Shared) (σ:St) (H:Hp) (E:Value→Shared→Prop),Inv X pins σ H s→(∀b∈fp,p5 X pins H b)→tn i s.heap→J.stop i H→
  wpAny (model P w) X.A (pyNext (.ref it)) (fun r s1=>r=none∧Inv X pins σ H s1) E s
 self:∀(A:Around) (i:Nat) (s:Shared) (Q:Value→Shared→Prop) (E:Value→Shared→Prop),tn i s.heap→Q (.ref it) s→wpAny (model P w) A (pyIter (.ref it)) Q E s
noncomputable abbrev TI:=St→Hp→(It→Hp→Prop)→Prop
noncomputable def PIE(X:Cx)(pins:aZ)(σ:St)(tg:Expr)(R:It→Hp→Prop)(itv:Value)(s2:Shared):Prop:=
 ∃(it:Addr) (fp:aH) (tn:Nat→Heap→Prop) (J:It) (H' :Hp),itv= .ref it∧Inv X pins σ H' s2∧Turn X.prog X.w X.K tg J fp it tn∧tn 0 s2.heap∧(∀b∈fp,p5 X pins H' b)∧R J H'
noncomputable def PI(X:Cx)(tg iter:Expr)(wi:TI):Prop:=
 ∀(pins:aZ) (s:Shared) (σ:St) (H:Hp) (R:It→Hp→Prop),Inv X pins σ H s→wi σ H R→
  wpAny (model X.prog X.w) X.A (eval iter X.env) (fun v s1=>wpAny (model X.prog X.w) X.A (pyIter v) (PIE X pins σ tg R) X.xe s1) X.xe s
theorem Bq{M:Model}{A:Around}{E:Value→Shared→Prop}{s:Shared}{tg:Expr}{it:Addr}{u:Value}{o:Obj}{n:String}{vs:Array Value}{Q:Unit→Shared→Prop}(ho:s.heap.get? it=some o)(hc:o.cls= .type n)(hd:o.data= .fields vs)
 (hn:["enumerate","zip","dict_itemiterator","dict_reverseitemiterator","odict_iterator","itertools.zip_longest","itertools.pairwise"].contains n=false) (hQ:Q () s):wpAny M A (letOwnedTupleGo tg (.ref it) u) Q E s:=by
 unfold letOwnedTupleGo
 cases tg<;>first
  |exact aB hQ
  |(cases u<;>first
   |exact aB hQ
   |(refine ag (wpAny_load ho ?_)
     rw[hc,hd];show wpAny M A (if(["enumerate","zip","dict_itemiterator","dict_reverseitemiterator","odict_iterator","itertools.zip_longest","itertools.pairwise"].contains n&&vs[0]? ==some (rawInt _))=true then _ else _) Q E s;rw[au (by intro h;rw[hn,Bool.false_and] at h;cases h)];exact aB hQ))
noncomputable def Qt(K:Frag)(a:Addr):It:=
 ⟨fun i H=>∃xs x,bw K H a xs∧xs[i]? =some x,fun i H x H' =>H' =H∧∀xs,bw K H a xs→xs[i]? =some x,fun i H=>∃xs,bw K H a xs∧xs.length≤i⟩
noncomputable def Pr(lo:Int)(n:Nat):It:=⟨fun i _=>i<n,fun i H x H' =>H' =H∧x= .int (lo+i),fun i _=>n≤i⟩
theorem HB{P:Program}{w:World}{K:Frag}{tg:Expr}(a it:Addr):Turn P w K tg (Qt K a) [it] it (fun i h=>h.IsListIter it a i) where
 mem:=by simp
 obj:=fun i h st b hb=>by
  have e:b=it:=by simpa using hb
  subst e;obtain⟨o,e,c,d⟩:=st;exact⟨o,e,fun v z=>by rw[d] at z;cases z⟩
 keep:=fun i h h' st k=>st.at fun o e=>k it (by simp) o e
 item:=by
  intro X hP hw hK hc i pins s σ H E I hf st hg;subst hP hw hK;obtain⟨xs,x,hq,hx⟩:=hg;obtain⟨its,rv,p,hz⟩:=I.list hq;obtain⟨u,hu,ru⟩:=rv.get hx;obtain⟨f0,f1,f2,f3,f4,f5⟩:=hf it (by simp);refine wpAny_pyNext_list_item st p.isList (x:=u) (by simpa using hu) fun h' J8 sb=> ?_;have I1:Inv X pins σ H {s with heap:=h'}:=I.turned (t' :=s.toks) (fun b o hb e=>(sb.2 b hb).trans e) f0 f1 f3 f4 f5;obtain⟨o,e,c,d⟩:=id J8;exact⟨u,rfl,Bq (s:={s with heap:=h'}) e c d (by decide) ⟨x,H,I1,ru,⟨rfl,fun ys hy=>by rw[I.nW hy hq];exact hx⟩,J8,fun b hb=>(hf b hb).1⟩⟩
 done:=by
  intro X hP hw hK hc i pins s σ H E I hf st hg;subst hP hw hK;obtain⟨xs,hq,hx⟩:=hg;obtain⟨its,rv,p,hz⟩:=I.list hq;obtain⟨f0,f1,f2,f3,f4,f5⟩:=hf it (by simp);have hl:=rv.length;exact wpAny_pyNext_list_end (I.ok.hd hc) st p.isList (by simp;lia) fun h' eb=>⟨rfl,I.turned (t' :=s.toks) (fun b o hb e=>eb b o hb e) f0 f1 f3 f4 f5⟩
 self:=fun _ _ _ _ _ st h=>wpAny_pyIter_listiter st h
theorem EH{P:Program}{w:World}{K:Frag}{tg:Expr}(it:Addr)(lo:Int)(n:Nat):Turn P w K tg (Pr lo n) [it] it (fun i h=>IsRangeIter h it (lo+(i:Nat)*1) ((n:Int) - (i:Nat)) 1) where
 mem:=by simp
 obj:=fun i h st b hb=>by
  have e:b=it:=by simpa using hb
  subst e
  exact⟨_,st,fun v z=>by
   have z' :Data.fields _=Data.cell v:=z;cases z'⟩
 keep:=fun i h h' st k=>k it (by simp) _ st
 item:=by
  intro X hP hw hK hc i pins s σ H E I hf st hg;subst hP hw hK;obtain⟨f0,f1,f2,f3,f4,f5⟩:=hf it (by simp);have W:=Walks.range (prog:=X.prog) (w:=X.w) (I.ok.hd hc) it lo 1 n;refine W.item i s _ _ hg st fun v h' tk hv J8 kk=> ?_;obtain⟨t,rfl⟩:=hv;have I1:Inv X pins σ H {s with heap:=h',toks:=tk}:=I.turned (fun b o hb e=>kk b o (by simpa using hb) e) f0 f1 f3 f4 f5;refine⟨_,rfl,Bq (s:={s with heap:=h',toks:=tk}) (n:="range_iterator") J8 rfl rfl (by decide) ⟨.int (lo+i),H,I1,⟨t,?_⟩,⟨rfl,rfl⟩,J8,fun b hb=>(hf b hb).1⟩⟩;rw[Int.mul_one]
 done:=by
  intro X hP hw hK hc i pins s σ H E I hf st hg;subst hP hw hK;obtain⟨f0,f1,f2,f3,f4,f5⟩:=hf it (by simp);exact wpAny_pyNext_range_end (I.ok.hd hc) st (by have:n≤i:=hg;lia) fun h' eb=>⟨rfl,I.turned (t' :=s.toks) (fun b o hb e=>eb b o hb e) f0 f1 f3 f4 f5⟩
 self:=fun _ _ _ _ _ st h=>wpAny_pyIter_rangeiter st h
section
variable{X:Cx}{tg:Expr}
noncomputable def aax(K:Frag)(tl:TE):TI:=fun σ H R=>tl σ H fun x H1=>∃a,x= .ref a∧(∃xs,bw K H1 a xs)∧R (Qt K a) H1
theorem cK{l:Expr}{tl:TE}(hl:PE X l tl):PI X tg l (aax X.K tl):=by
 intro pins s σ H R I h;refine cC (hl pins s σ H _ I h) fun v s1 ⟨x,H1,I1,r1,q1⟩=> ?_;obtain⟨a,e,⟨xs,hq⟩,q⟩:=q1;subst e;cases r1;obtain⟨its,rv,p,hz⟩:=I1.list hq;refine xT p.isList ?_;refine⟨s1.heap.objs.size,[s1.heap.objs.size],_,_,H1,rfl,I1.kept (t' :=s1.toks) fun b o e=>bT _ e,HB a _,⟨_,bI _ rfl,rfl,rfl⟩,fun b hb=> ?_,q⟩;have e:b=s1.heap.objs.size:=by simpa using hb
 subst e;exact I1.uZ (az _) (I1.bE.fresh (az _))
theorem KY{pins:aZ}{σ:St}{H:Hp}{s:Shared}{R:It→Hp→Prop}{E:Value→Shared→Prop}{lo hi:Int}{t u v:Tok}{tk:Nat}(I:Inv X pins σ H s)(h1: -(2 ^ 62)≤lo)(h2:lo<2 ^ 62)(h3: -(2 ^ 62)≤hi)(h4:hi<2 ^ 62)
 (q:R (Pr lo (hi - lo).toNat) H):wpAny (model X.prog X.w) X.A (pyIter (.ref s.heap.objs.size)) (PIE X pins σ tg R) E {s with heap:=s.heap.push {cls:= .type "range",data:= .fields #[.int lo t,.int hi u,.int 1 v]},toks:=tk}:=by
 refine wpAny_pyIter_range (IsRange.new ..) (small_one h1 h2 h3 h4) ?_;have I1:Inv X pins σ H {s with heap:=s.heap.push {cls:= .type "range",data:= .fields #[.int lo t,.int hi u,.int 1 v]},toks:=tk}:=I.kept fun b o e=>bT _ e
 refine⟨(s.heap.push {cls:= .type "range",data:= .fields #[.int lo t,.int hi u,.int 1 v]}).objs.size,[(s.heap.push {cls:= .type "range",data:= .fields #[.int lo t,.int hi u,.int 1 v]}).objs.size],_,_,H,rfl,
  I1.kept (t' :=tk) fun b o e=>bT _ e,EH _ lo (hi - lo).toNat,?_,fun b hb=> ?_,q⟩
 ·have e1:lo+((0:Nat):Int)*1=lo:=by simp
  have e2:(((hi - lo).toNat:Nat):Int) - ((0:Nat):Int)=Builtin.Range.rangeSize lo hi 1:=by rw[rangeSize_one];split<;>lia
  show IsRangeIter _ _ (lo+((0:Nat):Int)*1) ((((hi - lo).toNat:Nat):Int) - ((0:Nat):Int)) 1;rw[e1,e2];exact bI _ rfl
 ·have e:b=(s.heap.push {cls:= .type "range",data:= .fields #[.int lo t,.int hi u,.int 1 v]}).objs.size:=by simpa using hb
  subst e;exact I1.uZ (az _) (I1.bE.fresh (az _))
noncomputable def adm(ta:TA):TI:=fun σ H R=>ta σ H fun vs H1=>∃j:Int,vs=[.int j]∧ -(2 ^ 62)≤j∧j<2 ^ 62∧R (Pr 0 j.toNat) H1
theorem eT{a:Expr}{ta:TA}{p pos:Pos}(hg:Gl X "range")(hm:X.mg "range"=none)(ha:PA X [a] ta)(hs:starEach [a] X.env=[(false,eval a X.env)]:=by rfl):PI X tg (.Call (.Name "range" p) [a] [] pos) (adm ta):=by
 intro pins s σ H R I h;refine Call_ (mE I hg hm boot_range (qV (cC (ha pos pins s σ H _ I h) fun us s1 ⟨vs,H1,I1,r1,q1⟩=> ?_) hs rfl));obtain⟨j,e,q1,q2,q⟩:=q1;subst e
 cases r1 with
 |cons r rr=>
  cases rr;obtain⟨t,rfl⟩:=r;exact call_range_1 (KY I1 (by lia) (by lia) q1 q2 (by simpa using q))
noncomputable def acM(wi:TI)(g:TG)(tb:TS):TS:=fun D σ H=>wi σ H fun J H1=>∃W:Nat→Nat→St→Hp→Prop,(∃m,W 0 m σ H1)∧∀i m σ H,W i m σ H→
 (J.stop i H∧D.nx σ H)∨(J.go i H∧∃N:St→Hp→Prop,(∀c9 H',N c9 H'→∃m',m' <m∧W (i+1) m' c9 H')∧∀x H',J.vC i H x H'→g x σ H' fun iy H2=>tb {D with nx:=N,ct:=N,bk:=D.nx} iy H2)
noncomputable def zC(fp:aH)(h:Heap):aZ:=fp.filterMap fun b=>(h.get? b).map fun o=>(b,o)
theorem lR{fp:aH}{h:Heap}{b:Addr}{o:Obj}(hb:b∈fp)(e:h.get? b=some o):(b,o)∈zC fp h:=xf.mpr ⟨b,hb,by rw[e];rfl⟩
theorem Hl{fp:aH}{h:Heap}{p:Addr×Obj}(hp:p∈zC fp h):p.1∈fp∧h.get? p.1=some p.2:=by
 obtain⟨b,hb,e⟩:=xf.mp hp
 cases q:h.get? b with
 |none=>rw[q] at e;cases e
 |some o=>
  rw[q] at e;have e' :(b,o)=p:=fH e;subst e';exact⟨hb,q⟩
theorem Inv.pinned{pins:aZ}{σ:St}{H:Hp}{s:Shared}{fp:aH}(I:Inv X pins σ H s)(hf:∀b∈fp,p5 X pins H b)(ho:∀b∈fp,∃o,s.heap.get? b=some o∧∀v,o.data≠.cell v):Inv X (pins++zC fp s.heap) σ H s:=
 I.Gs fun p hp=>(cj.mp hp).elim (fun z=>I.pin p (hV _ z)) fun z=>by
  obtain⟨hb,e⟩:=Hl z;obtain⟨f0,f1,f2,_⟩:=hf p.1 hb;obtain⟨o,e',d⟩:=ho p.1 hb;rw[e] at e';cases e'
  exact⟨e,f0,f1,f2,d⟩
theorem Inv.rR{pins pl:aZ}{σ:St}{H:Hp}{s:Shared}(I:Inv X (pins++pl) σ H s):Inv X pins σ H s:=I.Gs fun p hp=>I.pin p (hV _ (Ct _ hp))
theorem U1{iter:Expr}{body:List Stmt}{wi:TI}{g:TG}{tb:TS}{pos:Pos}(hp:PassesOwn (model X.prog X.w) X.A X.env X.xe)(hc:X.calm=true)(hi:PI X tg iter wi)(hg:PG X tg g)(hb:C8 X body tb)
 (hs:∀x,foldedSetIterable iter X.env x=pure x:=by intro _;rfl):PS X (.For tg iter body [] pos) (acM wi g tb):=by
 intro pins s σ H D I h;refine wpAny_For (cC (hi pins s σ H _ I h) fun v s1 h1=>cC h1 fun itv s2 h2=> ?_) hs;obtain⟨it,fp,tn,J,H2,e,I2,T,NW,f2,W,⟨m0,w0⟩,turn⟩:=h2;subst e;have EI:∀{H' :Hp},(∀b∈fp,H' b=none)→∀b∈fp,p5 X pins H' b:=fun hn b hb=>⟨hn b hb,(f2 b hb).2⟩;refine codeAny_forLoop_any (fun n s' =>∃i c9 H',Inv X pins c9 H' s'∧tn i s'.heap∧(∀b∈fp,H' b=none)∧W i n c9 H') ?_ m0 ⟨0,σ,H2,I2,NW,fun b hb=>(f2 b hb).1,w0⟩
 rintro n s3 ⟨i,JG,H3,I3,st3,fr3,w3⟩
 rcases turn i n JG H3 w3 with⟨stop,qn⟩|⟨go,N,hN,step⟩
 ·refine lV hp (cC (T.done X rfl rfl rfl hc i pins s3 JG H3 X.xe I3 (EI fr3) st3 stop) fun r s4 ⟨hr,I4⟩=> ?_);subst hr;exact xm ⟨JG,H3,I4,qn⟩
 ·refine lV hp (cC (T.item X rfl rfl rfl hc i pins s3 JG H3 X.xe I3 (EI fr3) st3 go) fun r s4 ⟨u,hr,h4⟩=> ?_);subst hr;refine lV hp (cC h4 fun _ s5 ⟨x,H5,I5,r5,y5,Wf,T4⟩=> ?_);have I5' :=I5.pinned (EI T4) (T.obj _ _ Wf);refine lV hp (cC (hg _ s5 JG H5 x u _ I5' r5 (step x H5 y5)) fun _ s6 ⟨σ6,H6,I6,q6⟩=> ?_);refine lV hp (cC (hb _ s6 σ6 H6 _ I6 q6) fun f s7 q7=> ?_)
  have again:∀{Ko:St} {H7:Hp},Inv X (pins++zC fp s5.heap) Ko H7 s7→N Ko H7→∃m,m<n∧∃i c9 H',Inv X pins c9 H' s7∧tn i s7.heap∧(∀b∈fp,H' b=none)∧W i m c9 H' :=fun{Ko H7} I7 n7=>by
   obtain⟨m',hm,w7⟩:=hN Ko H7 n7;refine⟨m',hm,i+1,Ko,H7,I7.rR,T.keep _ _ _ Wf fun b hb o e=>(I7.pin (b,o) (hV _ (hV _ (lR hb e)))).1,fun b hb=> ?_,w7⟩;obtain⟨o,e,d⟩:=T.obj _ _ Wf b hb;exact(I7.pin (b,o) (hV _ (hV _ (lR hb e)))).2.1
  cases f with
  |next=>obtain⟨Ko,H7,I7,n7⟩:=q7;exact again I7 n7
  |cont=>obtain⟨Ko,H7,I7,n7⟩:=q7;exact again I7 n7
  |brk=>obtain⟨Ko,H7,I7,q7⟩:=q7;exact⟨Ko,H7,I7.rR,q7⟩
  |ret v=>obtain⟨x7,Ko,H7,I7,r7,q7⟩:=q7;exact⟨x7,Ko,H7,I7.rR,r7,q7⟩
end
theorem dG{K:Frag}{a:Addr}{xs:aA}{g:TG}{tb:TS}{D:Ends}{σ:St}{H:Hp}(Pv:Nat→St→Hp→Prop)(h0:Pv 0 σ H)(hl:∀i σ H,i≤xs.length→Pv i σ H→bw K H a xs)
 (hs:∀i x σ H,xs[i]? =some x→Pv i σ H→g x σ H fun iy H2=>tb {D with nx:=Pv (i+1),ct:=Pv (i+1),bk:=D.nx} iy H2) (hd:∀σ H,Pv xs.length σ H→D.nx σ H):
 ∃W:Nat→Nat→St→Hp→Prop,(∃m,W 0 m σ H)∧∀i m σ H,W i m σ H→
  ((Qt K a).stop i H∧D.nx σ H)∨((Qt K a).go i H∧∃N:St→Hp→Prop,(∀c9 H',N c9 H'→∃m',m' <m∧W (i+1) m' c9 H')∧∀x H',(Qt K a).vC i H x H'→g x σ H' fun iy H2=>tb {D with nx:=N,ct:=N,bk:=D.nx} iy H2):=by
 refine⟨fun i m σ H=>m=xs.length - i∧i≤xs.length∧Pv i σ H,⟨xs.length,by simp,cB _,h0⟩,?_⟩
 rintro i m σ H ⟨rfl,hi,p⟩
 have q:=hl i σ H hi p;by_cases dS:i<xs.length
 ·refine .inr ⟨⟨xs,xs[i],q,by simp[dS]⟩,Pv (i+1),fun c9 H' p' =>⟨xs.length - (i+1),by lia,rfl,dS,p'⟩,fun x H' y=> ?_⟩;obtain⟨e,y⟩:=y;subst e;exact hs i x σ _ (y xs q) p
 ·have e:i=xs.length:=by lia
  subst e;exact .inl ⟨⟨xs,q,az _⟩,hd σ H p⟩
theorem vp{lo:Int}{n:Nat}{g:TG}{tb:TS}{D:Ends}{σ:St}{H:Hp}(Pv:Nat→St→Hp→Prop)(h0:Pv 0 σ H)
 (hs:∀i σ H,i<n→Pv i σ H→g (.int (lo+i)) σ H fun iy H2=>tb {D with nx:=Pv (i+1),ct:=Pv (i+1),bk:=D.nx} iy H2) (hd:∀σ H,Pv n σ H→D.nx σ H):
 ∃W:Nat→Nat→St→Hp→Prop,(∃m,W 0 m σ H)∧∀i m σ H,W i m σ H→
  ((Pr lo n).stop i H∧D.nx σ H)∨((Pr lo n).go i H∧∃N:St→Hp→Prop,(∀c9 H',N c9 H'→∃m',m' <m∧W (i+1) m' c9 H')∧∀x H',(Pr lo n).vC i H x H'→g x σ H' fun iy H2=>tb {D with nx:=N,ct:=N,bk:=D.nx} iy H2):=by
 refine⟨fun i m σ H=>m=n - i∧i≤n∧Pv i σ H,⟨n,by simp,cB _,h0⟩,?_⟩
 rintro i m σ H ⟨rfl,hi,p⟩
 by_cases dS:i<n
 ·refine .inr ⟨dS,Pv (i+1),fun c9 H' p' =>⟨n - (i+1),by lia,rfl,dS,p'⟩,fun x H' y=> ?_⟩;obtain⟨e,y⟩:=y;subst e y;exact hs i σ _ dS p
 ·have e:i=n:=by lia
  subst e;exact .inl ⟨az _,hd σ H p⟩
noncomputable abbrev R2:=V→V→Hp→VK→Prop
noncomputable def kW(X:Cx)(f:Value→Value→Sem Value)(r:R2):Prop:=
 ∀(pins:aZ) (s:Shared) (σ:St) (H:Hp) (x y:V) (v u:Value) (Q:VK),Inv X pins σ H s→RelV x v→RelV y u→r x y H Q→
  wpAny (model X.prog X.w) X.A (f v u) (EP X pins σ Q) X.xe s
noncomputable def UnR(X:Cx)(f:Value→Sem Value)(r:V→Hp→VK→Prop):Prop:=
 ∀(pins:aZ) (s:Shared) (σ:St) (H:Hp) (x:V) (v:Value) (Q:VK),Inv X pins σ H s→RelV x v→r x H Q→
  wpAny (model X.prog X.w) X.A (f v) (EP X pins σ Q) X.xe s
noncomputable def ee(X:Cx)(f:Value)(r:aA→Hp→VK→Prop):Prop:=
 ∀(pins:aZ) (s:Shared) (σ:St) (H:Hp) (xs:aA) (us:aP) (Q:VK),Inv X pins σ H s→Vals xs us→r xs H Q→
  wpAny (model X.prog X.w) X.A (call f us) (EP X pins σ Q) X.xe s
noncomputable def U4(r:R2)(ta tb:TE):TE:=fun σ H Q=>ta σ H fun x H1=>tb σ H1 fun y H2=>r x y H2 Q
noncomputable def tUn(r:V→Hp→VK→Prop)(ta:TE):TE:=fun σ H Q=>ta σ H fun x H1=>r x H1 Q
noncomputable def rI(C:Int→Int→Prop)(g:Int→Int→V):R2:=fun x y H Q=>∃i j,x= .int i∧y= .int j∧C i j∧Q (g i j) H
noncomputable def SI(g:Int→Int→V):R2:=fun x y H Q=>∃i j,x= .int i∧y= .int j∧Q (g i j) H
noncomputable def rU(g:Int→V):V→Hp→VK→Prop:=fun x H Q=>∃i,x= .int i∧Q (g i) H
section
variable{X:Cx}{a b c:Expr}{ta tb tc:TE}{pos:Pos}
theorem Ut(ha:PE X a ta)(hb:PE X b tb){pins:aZ}{s:Shared}{σ:St}{H:Hp}{R:V→V→Hp→Prop}(I:Inv X pins σ H s)
 (h:ta σ H fun x H1=>tb σ H1 fun y H2=>R x y H2) {Q:Value→Shared→Prop} {f:Value→Value→Sem Value}
 (hf:∀v u s2 x y H2,Inv X pins σ H2 s2→RelV x v→RelV y u→R x y H2→wpAny (model X.prog X.w) X.A (f v u) Q X.xe s2):
 wpAny (model X.prog X.w) X.A (eval a X.env) (fun v cD=>wpAny (model X.prog X.w) X.A (eval b X.env) (fun u q_=>wpAny (model X.prog X.w) X.A (f v u) Q X.xe q_) X.xe cD) X.xe s:=by
 refine cC (ha pins s σ H _ I h) fun v s1 ⟨x,H1,I1,r1,q1⟩=> ?_;refine cC (hb pins s1 σ H1 _ I1 q1) fun u s2 ⟨y,H2,I2,r2,q2⟩=> ?_;exact hf v u s2 x y H2 I2 r1 r2 q2
theorem bG{op:Operator}{r:R2}(ho:kW X (binaryOp op) r)(ha:PE X a ta)(hb:PE X b tb):PE X (.BinOp a op b pos) (U4 r ta tb):=by
 intro pins s σ H Q I h;exact wpAny_BinOp (Ut ha hb I h fun v u s2 x y H2 I2 rx ry q=>ho pins s2 σ H2 x y v u Q I2 rx ry q)
theorem gC{op:UnaryOp}{r:V→Hp→VK→Prop}(ho:UnR X (unaryOp op) r)(ha:PE X a ta):PE X (.UnaryOp op a pos) (tUn r ta):=by
 intro pins s σ H Q I h;exact UnaryOp_ (cC (ha pins s σ H _ I h) fun v s1 ⟨x,H1,I1,r1,q1⟩=>ho pins s1 σ H1 x v Q I1 r1 q1)
theorem opI{f:Value→Value→Sem Value}{C:Int→Int→Prop}{g:Int→Int→Int}
 (rule:∀(i j:Int) (t u:Tok) (s:Shared) (Q:Value→Shared→Prop) (E:Value→Shared→Prop),C i j→Q (.int (g i j) s.toks) {s with toks:=s.toks+1}→wpAny (model X.prog X.w) X.A (f (.int i t) (.int j u)) Q E s):
 kW X f (rI C fun i j=> .int (g i j)):=by
 intro pins s σ H x y v u Q I rx ry h;obtain⟨i,j,rfl,rfl,hc,q⟩:=h;obtain⟨t,rfl⟩:=rx;obtain⟨t',rfl⟩:=ry;exact rule i j t t' s _ _ hc ⟨.int (g i j),H,I.tok _,⟨_,rfl⟩,q⟩
theorem abl{f:Value→Value→Sem Value}{g:Int→Int→Int}
 (rule:∀(i j:Int) (t u:Tok) (s:Shared) (Q:Value→Shared→Prop) (E:Value→Shared→Prop),Q (.int (g i j) s.toks) {s with toks:=s.toks+1}→wpAny (model X.prog X.w) X.A (f (.int i t) (.int j u)) Q E s):
 kW X f (SI fun i j=> .int (g i j)):=by
 intro pins s σ H x y v u Q I rx ry h;obtain⟨i,j,rfl,rfl,q⟩:=h;obtain⟨t,rfl⟩:=rx;obtain⟨t',rfl⟩:=ry;exact rule i j t t' s _ _ ⟨.int (g i j),H,I.tok _,⟨_,rfl⟩,q⟩
theorem O_{f:Value→Value→Sem Value}{g:Int→Int→Bool}
 (rule:∀(i j:Int) (t u:Tok) (s:Shared) (Q:Value→Shared→Prop) (E:Value→Shared→Prop),Q (.bool (g i j)) s→wpAny (model X.prog X.w) X.A (f (.int i t) (.int j u)) Q E s):
 kW X f (SI fun i j=> .bl (g i j)):=by
 intro pins s σ H x y v u Q I rx ry h;obtain⟨i,j,rfl,rfl,q⟩:=h;obtain⟨t,rfl⟩:=rx;obtain⟨t',rfl⟩:=ry;exact rule i j t t' s _ _ ⟨.bl (g i j),H,I,rfl,q⟩
noncomputable def ahy(i j:Int):Prop:=0≤j∧j≤1000000∧i.natAbs<2 ^ 64
noncomputable def VA(i j:Int):Prop:=(-(2 ^ 64)<i∧i<2 ^ 64)∨(-(2 ^ 64)<j∧j<2 ^ 64)
theorem VA.ok{i j:Int}(h:VA i j):IntMulOk i j:=by
 rcases h with⟨h1,h2⟩|⟨h1,h2⟩
 ·exact .of_left (intBits_le_64 h1 h2)
 ·exact .of_right (intBits_le_64 h1 h2)
theorem fF:kW X (binaryOp .Add) (SI fun i j=> .int (i+j)):=abl fun _ _ _ _ _ _ _ q=>add_int q
theorem lT:kW X (binaryOp .Sub) (SI fun i j=> .int (i - j)):=abl fun _ _ _ _ _ _ _ q=>sub_int q
theorem qK:kW X (binaryOp .Mult) (rI VA fun i j=> .int (i*j)):=opI fun _ _ _ _ _ _ _ hc q=>mul_int q hc.ok
theorem i9:kW X (binaryOp .Mod) (rI (fun _ j=>0<j) fun i j=> .int (i % j)):=opI fun i j _ _ _ _ _ hc q=>by
 have h1:(0:Int)<j:=hc;exact mod_int' (by lia) (by rw[Int.fmod_eq_emod_of_nonneg i (by lia)];exact q)
theorem zA:kW X (binaryOp .Pow) (rI ahy fun i j=> .int (i ^ j.toNat)):=opI fun _ _ _ _ _ _ _ hc q=>pow_int_small hc.1 hc.2.1 hc.2.2 q
theorem unI{f:Value→Sem Value}{g:Int→Int}
 (rule:∀(i:Int) (t:Tok) (s:Shared) (Q:Value→Shared→Prop) (E:Value→Shared→Prop),Q (.int (g i) s.toks) {s with toks:=s.toks+1}→wpAny (model X.prog X.w) X.A (f (.int i t)) Q E s):
 UnR X f (rU fun i=> .int (g i)):=by
 intro pins s σ H x v Q I rx h;obtain⟨i,rfl,q⟩:=h;obtain⟨t,rfl⟩:=rx;exact rule i t s _ _ ⟨.int (g i),H,I.tok _,⟨_,rfl⟩,q⟩
theorem eD:UnR X (unaryOp .USub) (rU fun i=> .int (-i)):=unI fun _ _ _ _ _ q=>neg_int q
end
noncomputable def YA:V→V→Bool
 | .bK,.bK=>true| .bK,.int _=>true| .int _,.bK=>true| .bK,.bl _=>true| .bl _,.bK=>true| .bK,.str _=>true| .str _,.bK=>true
 | .int _,.int _=>true| .bl _,.bl _=>true| .str _,.str _=>true| .I0 _,.I0 _=>true
 | .int _,.str _=>true| .str _,.int _=>true| .bl _,.str _=>true| .str _,.bl _=>true
 |_,_=>false
noncomputable def rEq:R2:=fun x y H Q=>YA x y=true∧Q (.bl (decide (x=y))) H
noncomputable def rNe:R2:=fun x y H Q=>YA x y=true∧Q (.bl (!decide (x=y))) H
theorem Gb{i j:Int}:decide (V.int i=V.int j)=(i==j):=by
 rw[lZ];simp
theorem Mh{i j:Bool}:decide (V.bl i=V.bl j)=(i==j):=by
 rw[lZ];simp
theorem GR{i j:Str}:decide (V.str i=V.str j)=(i==j):=by
 rw[lZ];simp
theorem FK{i j:Array UInt8}:decide (V.I0 i=V.I0 j)=(i.toList==j.toList):=by
 rw[lZ];cases i;cases j;simp
section
variable{X:Cx}{a b c:Expr}{ta tb tc:TE}{pos:Pos}
theorem b8{pins:aZ}{σ:St}{H:Hp}{s:Shared}{Q:VK}{k k' :Bool}(I:Inv X pins σ H s)(q:Q (.bl k) H)(e:k=k'):EP X pins σ Q (.bool k') s:=by
 subst e;exact⟨.bl k,H,I,rfl,q⟩
theorem jr:kW X (compareOp .Eq) rEq:=by
 intro pins s σ H x y v u Q I rx ry h;obtain⟨hs,q⟩:=h
 cases x with
 |bK=>
  cases rx
  cases y with
  |bK=>cases ry;exact PySem.EqNone.eq_none_none (b8 I q (by simp))
  |bl j=>cases ry;exact PySem.EqNone.eq_none_bool (b8 I q (by simp))
  |int j=>obtain⟨t',rfl⟩:=ry;exact PySem.EqNone.eq_none_int (b8 I q (by simp))
  |str j=>obtain⟨t',rfl⟩:=ry;exact PySem.EqNone.eq_none_str (b8 I q (by simp))
  |_=>exact absurd (show false=true from hs) b7
 |bl i=>
  cases rx
  cases y with
  |bK=>cases ry;exact PySem.EqNone.eq_bool_none (b8 I q (by simp))
  |bl j=>cases ry;exact eq_bool (b8 I q Mh)
  |str j=>obtain⟨t',rfl⟩:=ry;exact PySem.EqMixed.eq_bool_str (b8 I q (by simp))
  |_=>exact absurd (show false=true from hs) b7
 |int i=>
  obtain⟨t,rfl⟩:=rx
  cases y with
  |bK=>cases ry;exact PySem.EqNone.eq_int_none (b8 I q (by simp))
  |int j=>obtain⟨t',rfl⟩:=ry;exact eq_int (b8 I q Gb)
  |str j=>obtain⟨t',rfl⟩:=ry;exact PySem.EqMixed.eq_int_str (b8 I q (by simp))
  |_=>exact absurd (show false=true from hs) b7
 |str i=>
  obtain⟨t,rfl⟩:=rx
  cases y with
  |bK=>cases ry;exact PySem.EqNone.eq_str_none (b8 I q (by simp))
  |bl j=>cases ry;exact PySem.EqMixed.eq_str_bool (b8 I q (by simp))
  |int j=>obtain⟨t',rfl⟩:=ry;exact PySem.EqMixed.eq_str_int (b8 I q (by simp))
  |str j=>obtain⟨t',rfl⟩:=ry;exact eq_str (b8 I q GR)
  |_=>exact absurd (show false=true from hs) b7
 |I0 i=>
  obtain⟨t,rfl⟩:=rx
  cases y with
  |I0 j=>obtain⟨t',rfl⟩:=ry;exact PySem.W.eq_bytes (b8 I q FK)
  |_=>exact absurd (show false=true from hs) b7
 |_=>cases y<;>exact absurd (show false=true from hs) b7
theorem SO:kW X (compareOp .NotEq) rNe:=by
 intro pins s σ H x y v u Q I rx ry h;obtain⟨hs,q⟩:=h
 cases x with
 |bK=>
  cases rx
  cases y with
  |bK=>cases ry;exact PySem.EqNone.ne_none_none (b8 I q (by simp))
  |bl j=>cases ry;exact PySem.EqNone.ne_none_bool (b8 I q (by simp))
  |int j=>obtain⟨t',rfl⟩:=ry;exact PySem.EqNone.ne_none_int (b8 I q (by simp))
  |str j=>obtain⟨t',rfl⟩:=ry;exact PySem.EqNone.ne_none_str (b8 I q (by simp))
  |_=>exact absurd (show false=true from hs) b7
 |bl i=>
  cases rx
  cases y with
  |bK=>cases ry;exact PySem.EqNone.ne_bool_none (b8 I q (by simp))
  |bl j=>cases ry;exact ne_bool (b8 I q (congrArg not Mh))
  |str j=>obtain⟨t',rfl⟩:=ry;exact PySem.EqMixed.ne_bool_str (b8 I q (by simp))
  |_=>exact absurd (show false=true from hs) b7
 |int i=>
  obtain⟨t,rfl⟩:=rx
  cases y with
  |bK=>cases ry;exact PySem.EqNone.ne_int_none (b8 I q (by simp))
  |int j=>obtain⟨t',rfl⟩:=ry;exact ne_int (b8 I q (congrArg not Gb))
  |str j=>obtain⟨t',rfl⟩:=ry;exact PySem.EqMixed.ne_int_str (b8 I q (by simp))
  |_=>exact absurd (show false=true from hs) b7
 |str i=>
  obtain⟨t,rfl⟩:=rx
  cases y with
  |bK=>cases ry;exact PySem.EqNone.ne_str_none (b8 I q (by simp))
  |bl j=>cases ry;exact PySem.EqMixed.ne_str_bool (b8 I q (by simp))
  |int j=>obtain⟨t',rfl⟩:=ry;exact PySem.EqMixed.ne_str_int (b8 I q (by simp))
  |str j=>obtain⟨t',rfl⟩:=ry;exact ne_str (b8 I q (congrArg not GR))
  |_=>exact absurd (show false=true from hs) b7
 |I0 i=>
  obtain⟨t,rfl⟩:=rx
  cases y with
  |I0 j=>obtain⟨t',rfl⟩:=ry;exact PySem.W.ne_bytes (b8 I q (congrArg not FK))
  |_=>exact absurd (show false=true from hs) b7
 |_=>cases y<;>exact absurd (show false=true from hs) b7
theorem zD:kW X (compareOp .Lt) (SI fun i j=> .bl (decide (i<j))):=O_ fun _ _ _ _ _ _ _ q=>lt_int q
theorem GS:kW X (compareOp .LtE) (SI fun i j=> .bl (decide (i≤j))):=O_ fun _ _ _ _ _ _ _ q=>le_int q
theorem Ec:kW X (compareOp .Gt) (SI fun i j=> .bl (decide (j<i))):=O_ fun _ _ _ _ _ _ _ q=>gt_int q
theorem ZR:kW X (compareOp .GtE) (SI fun i j=> .bl (decide (j≤i))):=O_ fun _ _ _ _ _ _ _ q=>ge_int q
theorem HI:kW X (compareOp .In) (fun x y H Q=>∃i j,x= .str i∧y= .str j∧Q (.bl (!(Builtin.Str.occurrences j i 0 j.length 1).isEmpty)) H):=by
 intro pins s σ H x y v u Q I rx ry h;obtain⟨i,j,rfl,rfl,q⟩:=h;obtain⟨t,rfl⟩:=rx;obtain⟨t',rfl⟩:=ry;exact in_str (b8 I q rfl)
theorem uT:kW X (compareOp .Is) (fun x y H Q=>y= .bK∧Q (.bl (decide (x= .bK))) H):=by
 intro pins s σ H x y v u Q I rx ry h;obtain⟨rfl,q⟩:=h;cases ry;refine is_none_gen (b8 I q ?_)
 cases x<;>first
  |(cases rx;rfl)
  |(obtain⟨t,rfl⟩:=rx;rfl)
theorem tU:kW X (compareOp .IsNot) (fun x y H Q=>y= .bK∧Q (.bl (!decide (x= .bK))) H):=by
 intro pins s σ H x y v u Q I rx ry h;obtain⟨rfl,q⟩:=h;cases ry;refine isnot_none_gen (b8 I q ?_)
 cases x<;>first
  |(cases rx;rfl)
  |(obtain⟨t,rfl⟩:=rx;rfl)
theorem kW.or{f:Value→Value→Sem Value}{r r' :R2}(h:kW X f r)(h' :kW X f r'):kW X f (fun x y H Q=>r x y H Q∨r' x y H Q):=by
 intro pins s σ H x y v u Q I rx ry q;rcases q with q|q
 ·exact h pins s σ H x y v u Q I rx ry q
 ·exact h' pins s σ H x y v u Q I rx ry q
theorem LD(b:Expr){op:CmpOp}(h:op≠.In:=by decide)(h2:op≠.NotIn:=by decide):behindInMarks op b=false:=by
 have e1:(op==CmpOp.In)=false:=by cases op<;>first|rfl|exact absurd rfl h
 have e2:(op==CmpOp.NotIn)=false:=by cases op<;>first|rfl|exact absurd rfl h2
 cases b<;>simp[behindInMarks,e1,e2]
theorem NH{op:CmpOp}{r:R2}(ho:kW X (compareOp op) r)(ha:PE X a ta)(hb:PE X b tb)(hm:behindInMarks op b=false):PE X (.Compare a [op] [b] pos) (U4 r ta tb):=by
 intro pins s σ H Q I h;exact wpAny_Compare1 (Ut ha hb I h fun v u s2 x y H2 I2 rx ry q=>ho pins s2 σ H2 x y v u Q I2 rx ry q) hm
noncomputable def SM(t:TE):TT:=fun σ H Q=>t σ H fun x H' =>∃k,x= .bl k∧Q k H'
theorem NV{op:CmpOp}{r:R2}(ho:kW X (compareOp op) r)(ha:PE X a ta)(hb:PE X b tb)(hm:behindInMarks op b=false):PT X (.Compare a [op] [b] pos) (SM (U4 r ta tb)):=by
 intro pins s σ H Q I h
 refine wpAny_isTrue_Compare1 (cC (ha pins s σ H _ I h) fun v s1 ⟨x,H1,I1,r1,q1⟩=>cC (hb pins s1 σ H1 _ I1 q1) fun u s2 ⟨y,H2,I2,r2,q2⟩=>
  cC (ho pins s2 σ H2 x y v u _ I2 r1 r2 q2) fun c s3 ⟨z,H3,I3,r3,k,e,q3⟩=> ?_) hm
 subst e;cases r3;exact ph ⟨H3,I3,q3⟩
noncomputable def TH(r r' :R2)(ta tb tc:TE):TE:=fun σ H Q=>ta σ H fun x H1=>tb σ H1 fun y H2=>r x y H2 fun z H3=>∃k,z= .bl k∧
 (if k=true then tc σ H3 fun w' H4=>r' y w' H4 Q else Q (.bl false) H3)
theorem DI{op op' :CmpOp}{r r' :R2}(ho:kW X (compareOp op) r)(C5 :kW X (compareOp op') r')(ha:PE X a ta)(hb:PE X b tb)(hc:PE X c tc)
 (hm:lastMarks [op,op'] [b,c]=false:=by with_unfolding_all rfl):PE X (.Compare a [op,op'] [b,c] pos) (TH r r' ta tb tc):=by
 intro pins s σ H Q I h
 refine Compare_chain (cC (ha pins s σ H _ I h) fun v s1 ⟨x,H1,I1,r1,q1⟩=>chain_link (cC (hb pins s1 σ H1 _ I1 q1) fun u s2 ⟨y,H2,I2,r2,q2⟩=>
  cC (ho pins s2 σ H2 x y v u _ I2 r1 r2 q2) fun d s3 ⟨z,H3,I3,r3,k,e,q3⟩=> ?_)) hm
 subst e;cases r3;refine ph ?_
 cases k with
 |false=>exact ite_ff ⟨.bl false,H3,I3,rfl,q3⟩
 |true=>exact ite_tt (chain_last (cC (hc pins s3 σ H3 _ I3 q3) fun w' s4 ⟨z',H4,I4,r4,q4⟩=>C5 pins s4 σ H4 y z' u w' Q I4 r2 r4 q4))
theorem vA:(sizeLine:Nat)<2 ^ 63:=by rw[sizeLine_eq];decide
theorem lU:kW X (binaryOp .Add) (fun x y H Q=>∃i j,x= .str i∧y= .str j∧i.length+j.length≤sizeLine∧Q (.str (i++j)) H):=by
 intro pins s σ H x y v u Q I rx ry h;obtain⟨i,j,rfl,rfl,hz,q⟩:=h;obtain⟨t,rfl⟩:=rx;obtain⟨t',rfl⟩:=ry;exact add_str (fun t' tk=>⟨.str (i++j),H,I.tok _,⟨_,rfl⟩,q⟩) hz
theorem wS{x:V}{us:aP}(r:Vals [x] us):∃u,us=[u]∧RelV x u:=by
 cases r with
 |cons r1 r2=>cases r2;exact⟨_,rfl,r1⟩
theorem jah{x y:V}{us:aP}(r:Vals [x,y] us):∃u w',us=[u,w']∧RelV x u∧RelV y w' :=by
 cases r with
 |cons r1 r2=>
  cases r2 with
  |cons r3 r4=>cases r4;exact⟨_,_,rfl,r1,r3⟩
theorem pB(hc:X.calm=true):ee X (.builtin "max") (fun xs H Q=>∃i j,xs=[.int i,.int j]∧Q (.int (if j>i then j else i)) H):=by
 intro pins s σ H xs us Q I r h;obtain⟨i,j,rfl,q⟩:=h;obtain⟨u,w',rfl,⟨t,rfl⟩,⟨t',rfl⟩⟩:=jah r;refine max_two_ints (I.ok.hd hc) fun h' tk k=>⟨_,H,I.kept k,?_,q⟩;by_cases hj:j>i
 ·rw[aC hj,aC hj];exact⟨_,rfl⟩
 ·rw[au hj,au hj];exact⟨_,rfl⟩
theorem Hm(hc:X.calm=true):ee X (.builtin "min") (fun xs H Q=>∃i j,xs=[.int i,.int j]∧Q (.int (if j<i then j else i)) H):=by
 intro pins s σ H xs us Q I r h;obtain⟨i,j,rfl,q⟩:=h;obtain⟨u,w',rfl,⟨t,rfl⟩,⟨t',rfl⟩⟩:=jah r;refine min_two_ints (I.ok.hd hc) fun h' tk k=>⟨_,H,I.kept k,?_,q⟩;by_cases hj:j<i
 ·rw[aC hj,aC hj];exact⟨_,rfl⟩
 ·rw[au hj,au hj];exact⟨_,rfl⟩
theorem HM:ee X (.type "int") (fun xs H Q=>(∃i,xs=[.int i]∧Q (.int i) H)∨∃k,xs=[.bl k]∧Q (.int (if k then 1 else 0)) H):=by
 intro pins s σ H xs us Q I r h;rcases h with⟨i,rfl,q⟩|⟨k,rfl,q⟩
 ·obtain⟨u,rfl,t,rfl⟩:=wS r;exact call_int_int ⟨.int i,H,I,⟨_,rfl⟩,q⟩
 ·obtain⟨u,rfl,r1⟩:=wS r;cases r1;exact call_int_bool ⟨.int (if k then 1 else 0),H,I.tok _,⟨_,rfl⟩,q⟩
end
structure Fo(h:Heap)(x dx C:Addr)(mA:Str→aQ):Prop where
 obj:h.get? x=some (instObj C dx)
 ns:h.Ns1 dx mA
 ne:dx≠x
theorem IP{h:Heap}{dx:Addr}{mA:Str→aQ}(n:h.Ns1 dx mA):∃od,h.get? dx=some od∧∀name,lookIn name od=some (mA name):=by
 obtain⟨o,es,ep,ho,hd,hk,_,hm⟩:=n;refine⟨o,ho,fun name=> ?_⟩;have e:=hm name;unfold nsFind findBy at e;rw[←Array.find?_toList] at e;unfold lookIn;rw[hd];dsimp only
 split
 ·rename_i y q;rw[q] at e;exact congrArg some e
 ·rename_i q;rw[q] at e
  have a:es.toList.any (·.refKey)=false:=by
   rw[w_];intro y hy;obtain⟨z,t,sx⟩:=hk y (Array.mem_toList_iff.mp hy);simp[DictEntry.refKey,sx]
  have a' :¬es.toList.any (·.refKey)=true:=by rw[a];exact b7
  rw[au a'];exact congrArg some e
theorem Fo.look{h:Heap}{x dx C:Addr}{mA:Str→aQ}(I:Fo h x dx C mA):∃od,PySem.W.InstAt h x (instObj C dx) C (some od)∧∀name,lookIn name od=some (mA name):=
 let⟨od,ho,hl⟩:=IP I.ns
 ⟨od,⟨I.obj,rfl,rfl,ho⟩,hl⟩
section
variable{prog:Program}{w:World}{A:Around}{E:Value→Shared→Prop}{s:Shared}{K:Frag}{x dx C f:Addr}{mA:Str→aQ}{name:Str}{v:Value}
theorem jal{expr:Bool}{Q:Value→Shared→Prop}(X:K.In s.heap)(I:Fo s.heap x dx C mA)(hg:plainGet K C name=true)(hh:hasDictIn K C=true)
 (ha:PySem.W.findIn K (.ref C) name=some none) (hv:mA name=some v) (VO :handedIn v=true) (h:Q v {s with toks:=s.toks+1}):
 wpAny (model prog w) A (getAttr (.ref x) name expr) Q E s:=by
 obtain⟨od,J,hl⟩:=I.look;exact PySem.W.get_value X J (plainGet_of hg).1 (PySem.W.findObj_own hh ha rfl (by rw[hl,hv])) VO h
theorem KL{pl:Sem Bool}{Q:Value×aP→Shared→Prop}(X:K.In s.heap)(I:Fo s.heap x dx C mA)(hg:plainGet K C name=true)
 (hf:PySem.W.findIn K (.ref C) name=some (some (.ref f))) (ht:PySem.W.isFn K (.ref f)=true) (hv:mA name=none) (h:Q (.ref f,[.ref x]) s):
 wpAny (model prog w) A (getMethod (.ref x) name pl) Q E s:=by
 obtain⟨od,J,hl⟩:=I.look;exact PySem.W.method_fn X J (plainGet_of hg).1 (plainGet_of hg).2 hf (pQ.mp ht) (by show(lookIn name od).map (·.isSome)=some false;rw[hl,hv];rfl) h
theorem Oo{ns:aJ}{Q:Unit→Shared→Prop}(X:K.In s.heap)(I:Fo s.heap x dx C mA)
 (hs:PySem.W.findIn K (.ref C) "__setattr__"=some (some (.builtin "object.__setattr__"))) (hp:plainOver K C=true) (ht:takerIn K C name=some none) (hh:hasDictIn K C=true)
 (hw:PySem.Within mA ns) (hsz:ns.length≤sizeLine)
 (h:∀h',Fo h' x dx C (fun y=>if y=name then some v else mA y)→Heap.SameBut dx s.heap h'→Q () {s with heap:=h',toks:=s.toks+2}):
 wpAny (model prog w) A (setAttr (.ref x) name v) Q E s:=by
 obtain⟨od,J,hl⟩:=I.look;refine PySem.W.set_plain X J hs (PySem.W.osa_open (s:={s with toks:=s.toks+1}) (r:=none) X J hp ht fun b=> ?_);obtain⟨cd,hc,Gg⟩:=PySem.W.any_some hh;have hx:s.heap.get? x=some ⟨.ref C,some dx,.plain,#[]⟩:=I.obj;refine ag (aB (ag (ag (wpAny_loadPart hx (ag (PySem.W.Looks.here (s:={s with toks:=s.toks+1}) (PySem.W.looks_clsIn X hc) ?_))))));rw[Gg];refine aB (a:=some dx) (ag (aB (ag ?_)));refine wpAny_nsSet1 (s:={s with toks:=s.toks+1}) I.ns fun h' V4 FT=> ?_;obtain⟨oD,esD,epD,hoD,ML,hcD⟩:=V4.count (PySem.Within.cons name v hw);refine ag (wpAny_lookBehind hoD (by rw[ML];exact pastItsLine_dict (aY hcD (by rw[cf];lia))) ?_);exact aB (h _ ⟨(FT.2 _ (dt I.ne)).trans I.obj,V4,I.ne⟩ FT)
theorem J3{R:Result→Shared→Prop}{vs:aP}{kw:List (Str×Value)}(X:K.In s.heap)(hm:makesIn K C=true)
 (hi:PySem.W.findIn K (.ref C) "__init__"=some (some (.ref f))) (hf:PySem.W.typeIn K (.ref f)=some (.type "function"))
 (h:codeAny (model prog w) (A.under (.builtin "type.__call__" ⟨.ref C::vs,kw⟩)) (.call (.ref f) ⟨.ref (s.heap.objs.size+1)::vs,kw⟩) (PySem.W.InitBack (s.heap.objs.size+1) R)
  {s with heap:=(s.heap.push emptyDict).push (instObj C s.heap.objs.size)}):
 codeAny (model prog w) A (.call (.ref C) ⟨vs,kw⟩) R s:=by
 obtain⟨hh,g,d,t,os⟩:=s;exact PySem.W.make_core (PySem.W.makes_of X hm) (PySem.W.looks_findIn X hi) (fun self=>PySem.W.bind_fn X self hf) (.inl rfl) h
end
noncomputable def dB(f:Str)(v:V):jX→jX
 |[]=>[(f,v)]
 |(g,x)::r=>if g=f then(g,v)::r else(g,x)::dB f v r
theorem aU(f g:Str)(v:V):∀fs:jX,(dB f v fs).lookup g=if g=f then some v else fs.lookup g
 |[]=>by
  show List.lookup g [(f,v)]=_;by_cases h:g=f
  ·have hb:(g==f)=true:=pQ.mpr h;simp only[List.lookup,hb,aC h]
  ·have hb:(g==f)=false:=pI.mpr h;simp only[List.lookup,hb,au h]
 |(k,x)::r=>by
  have ih:=aU f g v r;rw[show dB f v ((k,x)::r)=(if k=f then(k,v)::r else(k,x)::dB f v r) from rfl];by_cases hk:k=f
  ·rw[aC hk];by_cases h:g=k
   ·have hb:(g==k)=true:=pQ.mpr h;simp only[List.lookup,hb,aC (h.trans hk)]
   ·have hb:(g==k)=false:=pI.mpr h;simp only[List.lookup,hb,au (fun e:g=f=>h (e.trans hk.symm))]
  ·rw[au hk];by_cases h:g=k
   ·have hb:(g==k)=true:=pQ.mpr h;simp only[List.lookup,hb,au (fun e:g=f=>hk (h.symm.trans e))]
   ·have hb:(g==k)=false:=pI.mpr h;simp only[List.lookup,hb];exact ih
theorem uN(f:Str)(v:V):∀fs:jX,f∈(dB f v fs).map (·.1)∧∀g,g∈fs.map (·.1)→g∈(dB f v fs).map (·.1)
 |[]=>⟨by simp[dB],fun g h=>by simp at h⟩
 |(k,x)::r=>by
  obtain⟨i1,i2⟩:=uN f v r;rw[show dB f v ((k,x)::r)=(if k=f then(k,v)::r else(k,x)::dB f v r) from rfl];by_cases hk:k=f
  ·rw[aC hk];subst hk;exact⟨by simp,fun g h=>by simpa using h⟩
  ·rw[au hk];refine⟨?_,fun g h=> ?_⟩
   ·rw[cy];exact a_ _ i1
   ·rw[cy] at h ⊢;rcases bq.mp h with e|e
    ·exact bq.mpr (.inl e)
    ·exact a_ _ (i2 g e)
theorem cS(f:Str)(v:V):∀fs:jX,(dB f v fs).length≤fs.length+1
 |[]=>by simp[dB]
 |(k,x)::r=>by
  have ih:=cS f v r;rw[show dB f v ((k,x)::r)=(if k=f then(k,v)::r else(k,x)::dB f v r) from rfl];by_cases hk:k=f
  ·rw[aC hk,cf,cf];lia
  ·rw[au hk,cf,cf];lia
theorem nq.some_of{v:V}{o:aQ}(r:nq (some v) o):∃u,o=some u∧RelV v u:=by
 cases o with
 |none=>exact(show False from r).elim
 |some u=>exact⟨u,rfl,r⟩
theorem nq.none_of{o:aQ}(r:nq none o):o=none:=by
 cases o with
 |none=>rfl
 |some u=>exact(show False from r).elim
theorem Hq{v:V}{u:Value}(r:RelV v u):handedIn u=true:=by
 cases v with
 |bK=>cases(show u=Value.none from r);rfl
 |bl b=>cases(show u=Value.bool b from r);rfl
 |int i=>obtain⟨t,e⟩:=(show ∃t,u=Value.int i t from r);cases e;rfl
 |str x=>obtain⟨t,e⟩:=(show ∃t,u=Value.str x t from r);cases e;rfl
 |I0 b=>obtain⟨t,e⟩:=(show ∃t,u=Value.bytes b t from r);cases e;rfl
 |Ux b=>obtain⟨t,e⟩:=(show ∃t,u=Value.float b t from r);cases e;rfl
 |ref a=>cases(show u=Value.ref a from r);rfl
 |ty n=>cases(show u=Value.type n from r);rfl
section
variable{P:Program}{w:World}{H H' :Hp}{h h' :Heap}{a C dx:Addr}{fs WY :jX}
theorem xD(bE:qd P w H h)(e:H a=some (.ins C dx fs)):∃mA,Fo h a dx C mA∧(∀f,nq (fs.lookup f) (mA f))∧PySem.Within mA (fs.map (·.1))∧fs.length≤1000∧H dx=some (.own a):=by
 obtain⟨d,z,ne,ob,mA,n,r,q⟩:=(show bx P w H h a (.ins C dx fs) from bE a _ e);exact⟨mA,⟨ob,n,ne⟩,r,q,z,d⟩
end
structure Em(K:Frag)(C:Addr):Prop where
 pg:plainGet K C Str.empty=true
 hd:hasDictIn K C=true
 po:plainOver K C=true
 sa:PySem.W.findIn K (.ref C) "__setattr__"=some (some (.builtin "object.__setattr__"))
theorem Em.get{K:Frag}{C:Addr}(c:Em K C)(f:Str):plainGet K C f=true:=c.pg
noncomputable def gX(K:Frag)(C:Addr)(f:Str):Prop:=PySem.W.findIn K (.ref C) f=some none
theorem gX.YB{K:Frag}{C:Addr}{f:Str}(n:gX K C f):takerIn K C f=some none:=by
 unfold takerIn;rw[show PySem.W.findIn K (.ref C) f=some none from n];rfl
structure Meth(K:Frag)(C:Addr)(m:Str)(f:Addr):Prop where
 at_:PySem.W.findIn K (.ref C) m=some (some (.ref f))
 fn:PySem.W.isFn K (.ref f)=true
 kp:PySem.W.keepIn K (.ref f)=true
section
variable{X:Cx}{pins:aZ}{σ:St}{H:Hp}{s:Shared}{a C dx:Addr}{fs:jX}{f:Str}{v:V}{A:Around}{E:Value→Shared→Prop}
theorem Fd{b:Bool}{Q:Value→Shared→Prop}(I:Inv X pins σ H s)(e:H a=some (.ins C dx fs))(c:Em X.K C)(n:gX X.K C f)(l:fs.lookup f=some v)
 (h:∀u s',Inv X pins σ H s'→RelV v u→Q u s'):wpAny (model X.prog X.w) A (getAttr (.ref a) f b) Q E s:=by
 obtain⟨mA,O,r,_,_,_⟩:=xD I.bE e;obtain⟨u,hu,ru⟩:=nq.some_of (v:=v) (o:=mA f) (by rw[←l];exact r f);exact jal I.uK O (c.get f) c.hd n hu (Hq ru) (h u _ (I.tok _) ru)
theorem qU{m:Str}{g:Addr}{pl:Sem Bool}{Q:Value×aP→Shared→Prop}(I:Inv X pins σ H s)(e:H a=some (.ins C dx fs))(c:Em X.K C)(k:Meth X.K C m g)(l:fs.lookup m=none)
 (h:Q (.ref g,[.ref a]) s):wpAny (model X.prog X.w) A (getMethod (.ref a) m pl) Q E s:=by
 obtain⟨mA,O,r,_,_,_⟩:=xD I.bE e;have hn:mA m=none:=nq.none_of (by rw[←l];exact r m);exact KL I.uK O (c.get m) k.at_ k.fn hn h
theorem Ff{y:V}{u:Value}{Q:Unit→Shared→Prop}(I:Inv X pins σ H s)(e:H a=some (.ins C dx fs))(c:Em X.K C)(n:gX X.K C f)(hl:fs.length<1000)(ry:RelV y u)
 (h:∀s',Inv X pins σ (upd H a (.ins C dx (dB f y fs))) s'→Q () s'):wpAny (model X.prog X.w) A (setAttr (.ref a) f u) Q E s:=by
 obtain⟨mA,O,r,wi,_,ho⟩:=xD I.bE e;have hz:(fs.map (·.1)).length≤sizeLine:=by rw[aN,sizeLine_eq];lia
 refine Oo I.uK O c.sa c.po n.YB c.hd wi hz fun h' O' sb=>h _ ?_;have hd:∃o,h'.get? dx=some o:=let⟨o,_,_,e',_⟩:=O'.ns;⟨o,e'⟩
 refine I.write (x:=a) (e:=dx) (by rw[e];exact True.intro) (.inr ho) (fun b q hb z=>(sb.2 b hb).trans z) hd ?_;refine⟨by rw[af O.ne];exact ho,?_,O.ne,O'.obj,_,O'.ns,fun g=> ?_,fun g hg=> ?_⟩
 ·have:=cS f y fs;lia
 ·show nq ((dB f y fs).lookup g) (if g=f then some u else mA g);rw[aU];by_cases q:g=f
  ·rw[aC q,aC q];exact ry
  ·rw[au q,au q];exact r g
 ·by_cases q:g=f
  ·rw[q];exact(uN f y fs).1
  ·refine(uN f y fs).2 g (wi g fun z=>hg ?_);show(if g=f then some u else mA g)=none;rw[au q];exact z
theorem Inv.made(I:Inv X pins σ H s):Inv X pins σ (upd (upd H s.heap.objs.size (.own (s.heap.objs.size+1))) (s.heap.objs.size+1) (.ins C s.heap.objs.size []))
 {s with heap:=(s.heap.push emptyDict).push (instObj C s.heap.objs.size)}:=by
 have e1:(s.heap.push emptyDict).get? s.heap.objs.size=some emptyDict:=bI s.heap rfl
 have e2:((s.heap.push emptyDict).push (instObj C s.heap.objs.size)).get? (s.heap.objs.size+1)=some (instObj C s.heap.objs.size):=by
  have:=bI (s.heap.push emptyDict) (o:=instObj C s.heap.objs.size) rfl;rwa[pC] at this
 have e3:(s.heap.push emptyDict).Ns s.heap.objs.size (fun _=>none):=⟨emptyDict,#[],_,e1,rfl,(fun e he=>absurd he (by simp)),fun _=>rfl⟩;have I1:=I.laid (a:=s.heap.objs.size) (o:= .own (s.heap.objs.size+1)) (h' :=s.heap.push emptyDict) (t' :=s.toks) (fun b u q=>bT _ q) (az _) ⟨_,e1⟩;refine I1.laid (a:=s.heap.objs.size+1) (o:= .ins C s.heap.objs.size []) (t' :=s.toks) (fun b u q=>bT _ q) (xg (pC _ _)) ?_;have ne:s.heap.objs.size≠s.heap.objs.size+1:=bF (xY _);refine⟨by rw[af ne,ae],cB _,ne,e2,fun _=>none,(Heap.Ns1.of_empty e3).at fun o q=>bT _ q,fun _=>True.intro,fun y hy=>absurd rfl hy⟩
theorem Nq{prog:Program}{w:World}{env:Env}{e:Expr}{f:Str}{pos:Pos}{s:Shared}{Q:Value→Shared→Prop}(hb:attributeBase e f env (eval e env)=eval e env)
 (h:wpAny (model prog w) A (eval e env) (fun o cD=>wpAny (model prog w) A (getAttr o f true) Q E cD) E s):wpAny (model prog w) A (eval (.Attribute e f pos) env) Q E s:=
 Attribute_any_ h (by rw[arm_eval_Attribute,hb])
end
noncomputable def OS(K:Frag)(ta:TE)(f:Str):TE:=fun σ H Q=>ta σ H fun x H1=>∃a C dx fs v,x= .ref a∧H1 a=some (.ins C dx fs)∧Em K C∧gX K C f∧fs.lookup f=some v∧Q v H1
noncomputable def ahH(K:Frag)(ta tv:TE)(f:Str):TS:=fun D σ H=>tv σ H fun y H1=>ta σ H1 fun x H2=>∃a C dx fs,x= .ref a∧H2 a=some (.ins C dx fs)∧Em K C∧gX K C f∧fs.length<1000∧
 D.nx σ (upd H2 a (.ins C dx (dB f y fs)))
section
variable{X:Cx}{o e value:Expr}{f:Str}{pos pos' afC:Pos}{ta tv:TE}
theorem LC(he:PE X e ta)(hb:attributeBase e f X.env (eval e X.env)=eval e X.env):PE X (.Attribute e f pos) (OS X.K ta f):=by
 intro pins s σ H Q I h;refine Nq hb (cC (he pins s σ H _ I h) fun u s1 ⟨x,H1,I1,rx,a,C,dx,fs,v,ex,ea,c,n,l,q⟩=> ?_);subst ex;obtain rfl:u=Value.ref a:=rx;exact Fd I1 ea c n l fun u' s2 I2 ru=>⟨v,H1,I2,ru,q⟩
theorem ra(ha:PE X o ta)(hv:PE X value tv)(hs:swapsWith value (some (.Attribute o f pos')) pos.line X.env=pure false):PS X (.Assign [.Attribute o f pos'] value pos) (ahH X.K ta tv f):=by
 intro pins s σ H D I h;refine plainObj_wpAny_Assign_Attribute (cC (hv pins s σ H _ I h) fun u s1 ⟨y,H1,I1,ry,q⟩=>cC (ha pins s1 σ H1 _ I1 q) fun ov s2 ⟨x,H2,I2,rx,a,C,dx,fs,ex,ea,c,n,l,q2⟩=> ?_) hs;subst ex;obtain rfl:ov=Value.ref a:=rx;exact Ff I2 ea c n l ry fun s3 I3=>⟨σ,_,I3,q2⟩
theorem QJ{pl:Sem Bool}{m:Str}{apos:Pos}{args:cq}{pins:aZ}{s:Shared}{σ:St}{H:Hp}{Q:Value→Shared→Prop}{te:TE}(he:PE X e te)(I:Inv X pins σ H s)
 (h:te σ H fun x H1=>∃a C dx fs g,x= .ref a∧H1 a=some (.ins C dx fs)∧Em X.K C∧Meth X.K C m g∧fs.lookup m=none∧
  ∀s1,Inv X pins σ H1 s1→wpAny (model X.prog X.w) X.A (callWith pos (.ref g) [.ref a] (backTo pos (starEach args X.env)) (backToKw pos (keywordEach [] X.env))) Q X.xe s1)
 (ht:eval (.Call (.Attribute e m apos) args [] pos) X.env=(do
  let ov←eval e X.env
  standAt apos.atName
  let(f,first)←holding [ov] (getMethod ov m pl)
  callWith pos f first (backTo pos (starEach args X.env)) (backToKw pos (keywordEach [] X.env)))):
 wpAny (model X.prog X.w) X.A (eval (.Call (.Attribute e m apos) args [] pos) X.env) Q X.xe s:=by
 refine methodCall_KW (pl:=pl) (cC (he pins s σ H _ I h) fun u s1 ⟨x,H1,I1,rx,a,C,dx,fs,g,ex,ea,c,k,l,q⟩=> ?_) ht;subst ex;obtain rfl:u=Value.ref a:=rx;exact qU I1 ea c k l (q s1 I1)
end
section
variable{X:Cx}{pins:aZ}{σ:St}{H:Hp}{s:Shared}{A:Around}{E:Value→Shared→Prop}{Q:Value→Shared→Prop}{c:Value}{b:Bool}
inductive sP (K:Frag) (H:Hp):V→Value→Prop where
 |bK:sP K H .bK (.type "NoneType")
 |bl (x:Bool):sP K H (.bl x) (.type "bool")
 |int (i:Int):sP K H (.int i) (.type "int")
 |str (x:Str):sP K H (.str x) (.type "str")
 |Ux (x:UInt64):sP K H (.Ux x) (.type "float")
 |lst {a:Addr} {xs:aA} (e:H a=some (.lst xs)):sP K H (.ref a) (.type "list")
 |eX {a:Addr} {o:Obj} {xs:aA} (e:H a=some (.eX o (.lst xs))):sP K H (.ref a) (.type "list")
 |tup {a:Addr} {xs:aA} (e:H a=some (.tup xs)):sP K H (.ref a) (.type "tuple")
 |dK {a:Addr} {kvs:bQ} (e:H a=some (.dK kvs)):sP K H (.ref a) (.type "dict")
 |dT {a:Addr} {kvs:dw} (e:H a=some (.dT kvs)):sP K H (.ref a) (.type "dict")
 |ins {a C dx:Addr} {fs:jX} (e:H a=some (.ins C dx fs)) (cl:Em K C) (ha:PySem.W.findIn K (.ref C) "__class__"=some (some (.builtin "object.__class__")))
  (hn:specialIn K (.builtin "object.__class__") "__get__"=some (some (.builtin "getset_descriptor.__get__"))) (htk:takesIn K (.builtin "object.__class__")=some true)
  (hm:mroIn K C (.type "object")=some true):sP K H (.ref a) (.ref C)
theorem Hg{x:V}{u t:Value}(I:Inv X pins σ H s)(rx:RelV x u)(ty:sP X.K H x t)(e:kitOne X.K t c=some b)(h:∀tk,Q (.bool b) {s with toks:=tk}):
 wpAny (model X.prog X.w) A (call (.builtin "isinstance") [u,c]) Q E s:=by
 cases ty with
 |bK=>cases(show u=Value.none from rx);exact jo PySem.W.kitx_none I.uK True.intro e (fun z=>nomatch z) h
 |bl y=>cases(show u=Value.bool y from rx);exact jo PySem.W.kitx_bool I.uK True.intro e (fun z=>nomatch z) h
 |int i=>obtain⟨t,q⟩:=(show ∃t,u=Value.int i t from rx);cases q;exact jo PySem.W.kitx_int I.uK True.intro e (fun z=>nomatch z) h
 |str y=>obtain⟨t,q⟩:=(show ∃t,u=Value.str y t from rx);cases q;exact jo PySem.W.kitx_str I.uK True.intro e (fun z=>nomatch z) h
 |Ux y=>obtain⟨t,q⟩:=(show ∃t,u=Value.float y t from rx);cases q;exact jo PySem.W.kitx_float I.uK True.intro e (fun z=>nomatch z) h
 | @lst a xs ea=>
  cases(show u=Value.ref a from rx);obtain⟨_,_,n,_,h1⟩:=(show bx X.prog X.w H s.heap a (.lst xs) from I.bE a _ ea);exact jo kitx_list I.uK ⟨_,h1,rfl⟩ e (fun z=>nomatch z) h
 | @eX a ob xs ea=>
  cases(show u=Value.ref a from rx);obtain⟨_,_,_,n,_,h1⟩:=(show bx X.prog X.w H s.heap a (.eX ob (.lst xs)) from I.bE a _ ea);exact jo kitx_list I.uK ⟨_,h1,rfl⟩ e (fun z=>nomatch z) h
 | @tup a xs ea=>
  cases(show u=Value.ref a from rx);obtain⟨_,_,_,p⟩:=(show bx X.prog X.w H s.heap a (.tup xs) from I.bE a _ ea);obtain⟨o,h1,h2,_⟩:=p;exact jo PySem.W.kitx_tuple I.uK ⟨o,h1,h2⟩ e (fun z=>nomatch z) h
 | @dK a kvs ea=>
  cases(show u=Value.ref a from rx);obtain⟨_,_,vs,_,p⟩:=(show bx X.prog X.w H s.heap a (.dK kvs) from I.bE a _ ea);obtain⟨o,es,ep,h1,h2,_⟩:=p;exact jo kitx_dict I.uK ⟨o,h1,h2.1⟩ e (fun z=>nomatch z) h
 | @dT a kvs ea=>
  cases(show u=Value.ref a from rx);obtain⟨_,_,xs,_,o,es,ep,h1,h2,_⟩:=(show bx X.prog X.w H s.heap a (.dT kvs) from I.bE a _ ea);exact jo kitx_dict I.uK ⟨o,h1,h2.1⟩ e (fun z=>nomatch z) h
 | @ins a C dx fs ea cl ha hn htk hm=>
  cases(show u=Value.ref a from rx);obtain⟨mA,O,_⟩:=xD I.bE ea;obtain⟨od,J,_⟩:=O.look;exact jo (PySem.W.kitx_own (cl.get _) cl.hd ha hn htk hm) I.uK J e (fun z=>nomatch z) h
end
structure eW(k:Nat)(A:Around):Prop where
 hd:A.handled=none
 dp:A.depth+3*k+5<recursionLimit
 un:A.units+16*k+200<cLine
 gd:A.guards=some []
theorem eW.mono{j k:Nat}{A:Around}(r:eW k A)(h:j≤k):eW j A:=⟨r.hd,by have:=r.dp;lia,by have:=r.un;lia,r.gd⟩
theorem eW.deeper{k:Nat}{A:Around}(r:eW (k+1) A)(env:Env):eW k (A.deeper env):=
 ⟨r.hd,by have:=r.dp;show A.depth+1+3*k+5<_;lia,by have:=r.un;show A.units+3+16*k+200<_;lia,r.gd⟩
theorem eW.in1{k:Nat}{A:Around}(r:eW (k+1) A):eW k A.in1:=
 ⟨r.hd,by have:=r.dp;show A.depth+3*k+5<_;lia,by have:=r.un;show A.units+1+16*k+200<_;lia,r.gd⟩
theorem EY{A:Around}{C:Addr}{us:aP}{kw:List (Str×Value)}:(A.under (.builtin "type.__call__" ⟨.ref C::us,kw⟩)).depth=A.depth+1:=by
 first|rfl|simp[Around.under,Code.weight,Code.isCreation,Code.isGuard,Code.isCaller,Code.frames,Code.isFrame,guardIds]
theorem E4{A:Around}{C:Addr}{us:aP}{kw:List (Str×Value)}:(A.under (.builtin "type.__call__" ⟨.ref C::us,kw⟩)).units=A.units+1:=by
 first|rfl|simp[Around.under,Code.cUnits,Code.frames,Code.isFrame]
theorem DB{A:Around}{C:Addr}{us:aP}{kw:List (Str×Value)}{g:List Code}(h:A.guards=some g):(A.under (.builtin "type.__call__" ⟨.ref C::us,kw⟩)).guards=some g:=by
 have e:(Code.builtin "type.__call__" ⟨.ref C::us,kw⟩).guards=[]:=by first|rfl|simp[Code.guards,Code.isGuard,guardIds]
 first
  |(simp only[Around.under,e,pushGuards];exact h)
  |simp[Around.under,e,pushGuards,h]
theorem eW.make{k:Nat}{A:Around}(r:eW (k+1) A)(C:Addr)(us:aP)(kw:List (Str×Value)):eW k (A.under (.builtin "type.__call__" ⟨.ref C::us,kw⟩)):=
 ⟨r.hd,by have:=r.dp;rw[EY];lia,by have:=r.un;rw[E4];lia,DB r.gd⟩
theorem eW.depth{k:Nat}{A:Around}(r:eW k A):A.depth<recursionLimit:=by have:=r.dp;lia
theorem eW.units{k:Nat}{A:Around}(r:eW k A):A.units+64<cLine:=by have:=r.un;lia
theorem eW.UY{k:Nat}{A:Around}(r:eW k A):A.units<cLine:=by have:=r.un;lia
noncomputable def JI:TA:=fun _ H Q=>Q [] H
noncomputable def JL(ta:TE)(tr:TA):TA:=fun σ H Q=>ta σ H fun x H1=>tr σ H1 fun xs H2=>Q (x::xs) H2
section
variable{X:Cx}{e:Expr}{es:cq}{te:TE}{t:TA}{pos:Pos}
theorem gA:PA X [] JI:=fun _ _ _ _ H Q I h=>sf ⟨[],H,I,.nil,h⟩
theorem ai(ha:PE X e te)(hr:PA X es t)(hs:starEach (e::es) X.env=(false,eval e X.env)::starEach es X.env:=by rfl):PA X (e::es) (JL te t):=by
 intro pos pins s σ H Q I h;rw[hs];show wpAny _ _ (spliced ((false,eval e X.env)::backTo pos (starEach es X.env))) _ _ s;refine oW (cC (ha pins s σ H _ I h) fun u s1 ⟨x,H1,I1,r1,q1⟩=> ?_);exact cC (hr pos pins s1 σ H1 _ I1 q1) fun us s2 ⟨xs,H2,I2,r2,q2⟩=>⟨x::xs,H2,I2,.cons r1 r2,q2⟩
noncomputable def ai8(t:TA):TE:=fun σ H Q=>t σ H fun xs H1=>xs.length≤sizeLine∧∀p,H1 p=none→Q (.ref p) (upd H1 p (.tup xs))
noncomputable def adB(t:TA):TE:=fun σ H Q=>t σ H fun xs H1=>xs.length≤sizeLine∧∀p,H1 p=none→Q (.ref p) (upd H1 p (.lst xs))
theorem gF{x1}(h:PA X es t):PE X (.Tuple es x1 pos) (ai8 t):=by
 intro pins s σ H Q I hq;refine wpAny_Tuple_spliced (cC (h pos pins s σ H _ I hq) fun us s1 ⟨xs,H1,I1,r,z,q⟩=>⟨by rw[←r.length];exact z,?_⟩);have hf:H1 s1.heap.objs.size=none:=I1.bE.fresh (az _);refine⟨.ref s1.heap.objs.size,upd H1 s1.heap.objs.size (.tup xs),I1.laid (t' :=s1.toks) (fun b u e=>bT _ e) (az _) ?_,rfl,q _ hf⟩;exact⟨z,us,r,⟨_,bI _ rfl,rfl,_,rfl⟩⟩
theorem bY(h:PA X es t):PE X (.List es pos) (adB t):=by
 intro pins s σ H Q I hq;refine wpAny_List_spliced (cC (h pos pins s σ H _ I hq) fun us s1 ⟨xs,H1,I1,r,z,q⟩=>⟨by rw[←r.length];exact z,?_⟩);have hf:H1 s1.heap.objs.size=none:=I1.bE.fresh (az _);refine⟨.ref s1.heap.objs.size,upd H1 s1.heap.objs.size (.lst xs),I1.laid (t' :=s1.toks) (fun b u e=>bT _ e) (az _) ?_,rfl,q _ hf⟩;exact⟨z,us,0,r,bI _ rfl⟩
end
noncomputable abbrev Sp:=aA→Hp→VK→XK→Prop
noncomputable abbrev DK:=List Env→Hp→Shared→XK→Value→Shared→Prop
structure zf(P:Program)(w:World)(K:Frag)(mg:Str→aQ)(base:Heap)(A:Around)(outer:List Env)(s:Shared)(H:Hp):Prop where
 frames:A.frames=some outer
 mod:Mod K mg base
 bs:∀b o,base.get? b=some o→s.heap.get? b=some o∧H b=none
 KZ:base.objs.size≤s.heap.objs.size
 uY:s.heap.FunFrames base outer
 Pq:∀b∈Je outer,H b=none
 bE:qd P w H s.heap
 bare:AllBare s.gens
noncomputable def CE(outer:List Env)(P:Program)(w:World)(H:Hp)(s:Shared)(Q:VK)(u:Value)(s' :Shared):Prop:=
 ∃v H',s'.os=s.os∧AllBare s'.gens∧Un (Je outer) [] H H' s.heap s'.heap∧qd P w H' s'.heap∧RelV v u∧Q v H'
noncomputable def CR(CX:DK)(outer:List Env)(P:Program)(w:World)(H:Hp)(s:Shared)(Q:VK)(E:XK)(r:Result)(s' :Shared):Prop:=
 match r with
 | .ok (.ret u)=>CE outer P w H s Q u s'
 | .ok _=>False
 | .error e=>CX outer H s E e s'
structure bC(P:Program)(w:World)(K:Frag)(mg:Str→aQ)(base:Heap)(CX:DK)(k:Nat)(f:Addr)(fd:FuncData)(ps:aJ)(sp:Sp):Prop where
 len:∀vs H Q E,sp vs H Q E→vs.length=ps.length
 run:∀(A:Around) (outer:List Env) (s:Shared) (H:Hp) (args:Args) (us:aP) (vs:aA) (Q:VK) (E:XK),eW k A→zf P w K mg base A outer s H→BindsTo s fd args (ps.zip us)→Vals vs us→sp vs H Q E→
  codeAny (model P w) A (.call (.ref f) args) (CR CX outer P w H s Q E) s
theorem bC.mono{P:Program}{w:World}{K:Frag}{mg:Str→aQ}{base:Heap}{CX:DK}{j k:Nat}{f:Addr}{fd:FuncData}{ps:aJ}{sp:Sp}(F:bC P w K mg base CX j f fd ps sp)(h:j≤k):
 bC P w K mg base CX k f fd ps sp:=⟨F.len,fun A outer s H args us vs Q E hr=>F.run A outer s H args us vs Q E (hr.mono h)⟩
theorem bC.imp{P:Program}{w:World}{K:Frag}{mg:Str→aQ}{base:Heap}{CX:DK}{k:Nat}{f:Addr}{fd:FuncData}{ps:aJ}{sp sp' :Sp}(F:bC P w K mg base CX k f fd ps sp)
 (h:∀vs H Q E,sp' vs H Q E→sp vs H Q E):bC P w K mg base CX k f fd ps sp' :=
 ⟨fun vs H Q E q=>F.len vs H Q E (h _ _ _ _ q),fun A outer s H args us vs Q E hr he hb hv hs=>F.run A outer s H args us vs Q E hr he hb hv (h _ _ _ _ hs)⟩
theorem zf.make{P:Program}{w:World}{K:Frag}{mg:Str→aQ}{base:Heap}{A:Around}{outer:List Env}{s:Shared}{H:Hp}(e:zf P w K mg base A outer s H)(C:Addr)(us:aP)(kw:List (Str×Value)):
 zf P w K mg base (A.under (.builtin "type.__call__" ⟨.ref C::us,kw⟩)) outer s H:=⟨by first|exact e.frames|(simpa[Around.under,Code.envs,Code.isFrame,pushEnvs] using e.frames),e.mod,e.bs,e.KZ,e.uY,e.Pq,e.bE,e.bare⟩
theorem zf.in1{P:Program}{w:World}{K:Frag}{mg:Str→aQ}{base:Heap}{A:Around}{outer:List Env}{s:Shared}{H:Hp}(e:zf P w K mg base A outer s H):
 zf P w K mg base A.in1 outer s H:=⟨e.frames,e.mod,e.bs,e.KZ,e.uY,e.Pq,e.bE,e.bare⟩
section
variable{X:Cx}{pins:aZ}{σ:St}{H:Hp}{s s' :Shared}
theorem Inv.acg(I:Inv X pins σ H s):zf X.prog X.w X.K X.mg X.base X.A X.stack s H:=
 ⟨I.ok.frames,I.ok.mod,I.bs,aY I.ok.KZ I.sz,I.stack,I.GK,I.bE,I.bare⟩
theorem Inv.after{Q:VK}{u:Value}(I:Inv X pins σ H s)(h:CE X.stack X.prog X.w H s Q u s'):EP X pins σ Q u s' :=by
 obtain⟨v,H',os,bare,un,bE,r,q⟩:=h;obtain⟨hh,g,d,t,os'⟩:=s';obtain rfl:os' =s.os:=os;exact⟨v,H',I.call (h' :=hh) (g' :=g) (d' :=d) (t' :=t) (ch:=[]) un bE bare (fun b z=>absurd z (by simp)),r,q⟩
end
noncomputable def Jl(sp:Sp)(wL:aA)(E:XK)(t:TA):TE:=fun σ H Q=>t σ H fun vs H1=>sp (vs++wL) H1 Q E
noncomputable def Gi(C:Addr)(m:Str)(sp:Sp)(wL:aA)(E:XK)(ta:TE)(t:TA):TE:=fun σ H Q=>ta σ H fun x H1=>∃a dx fs,x= .ref a∧H1 a=some (.ins C dx fs)∧fs.lookup m=none∧
 t σ H1 fun vs H2=>sp (x::(vs++wL)) H2 Q E
noncomputable def Z_(C:Addr)(sp:Sp)(wL:aA)(E:XK)(t:TA):TE:=fun σ H Q=>t σ H fun vs H1=>∀x dx,H1 x=none→H1 dx=none→dx≠x→
 sp (.ref x::(vs++wL)) (upd (upd H1 dx (.own x)) x (.ins C dx [])) (fun v H2=>v= .bK∧Q (.ref x) H2) E
noncomputable def Binds(K:Frag)(fd:FuncData)(ps:aJ)(ds:aP):Prop:=
 ∀(s:Shared) (us:aP),K.In s.heap→(us++ds).length=ps.length→BindsTo s fd ⟨us,[]⟩ (ps.zip (us++ds))
theorem Binds.all{K:Frag}{fd:FuncData}{ps:aJ}(h:∀us:aP,us.length=ps.length→bindArgs fd ⟨us,[]⟩=pure (ps.zip us)):Binds K fd ps []:=fun s us _ hl=>by
 rw[dA] at hl ⊢;exact .of_eq (h us hl)
noncomputable def zn(CX:DK)(X:Cx)(E:XK):Prop:=∀(pins:aZ) (σ:St) (H:Hp) (s:Shared) (e:Value) (s' :Shared),Inv X pins σ H s→CX X.stack H s E e s'→X.xe e s'
section
variable{X:Cx}{CX:DK}{k:Nat}{f C:Addr}{fd:FuncData}{ps:aJ}{sp:Sp}{wL:aA}{ds:aP}{E:XK}{x m:Str}{p pos apos:Pos}{e o:Expr}{es:cq}{ta:TE}{t:TA}
theorem CQ{pins:aZ}{σ:St}{H:Hp}{s:Shared}{Q:VK}{us:aP}{vs:aA}(F:bC X.prog X.w X.K X.mg X.base CX k f fd ps sp)(hr:eW k X.A)(hb:Binds X.K fd ps ds)(hd:Vals wL ds)(hx:zn CX X E)
 (I:Inv X pins σ H s) (r:Vals vs us) (h:sp (vs++wL) H Q E):wpAny (model X.prog X.w) X.A (call (.ref f) us) (EP X pins σ Q) X.xe s:=by
 have r2:Vals (vs++wL) (us++ds):=r.append hd;have hl:(us++ds).length=ps.length:=by rw[←r2.length];exact F.len _ _ _ _ h
 refine wpAny_call (codeAny_mono (F.run X.A X.stack s H ⟨us,[]⟩ (us++ds) (vs++wL) Q E hr I.acg (hb s us I.uK hl) r2 h) fun r s' hq=> ?_)
 cases r with
 |error e=>exact hx pins σ H s e s' I hq
 |ok fl=>
  cases fl with
  |ret u=>exact I.after hq
  |next=>exact False.elim hq
  |brk=>exact False.elim hq
  |cont=>exact False.elim hq
theorem MU(F:bC X.prog X.w X.K X.mg X.base CX k f fd ps sp)(hr:eW k X.A)(hg:Gl X x)(hm:X.mg x=some (.ref f))(hk:PySem.W.keepIn X.K (.ref f)=true)(hb:Binds X.K fd ps ds)(hd:Vals wL ds)(hx:zn CX X E)
 (ha:PA X (e::es) t) (Fv:(x==("__debug__" :Str))=false:=by decide) (he:starEach (e::es) X.env=(false,eval e X.env)::starEach es X.env:=by rfl) (ma:(backTo pos (starEach es X.env)).any (·.1)=false:=by rfl):
 PE X (.Call (.Name x p) (e::es) [] pos) (Jl sp wL E t):=by
 intro pins s σ H Q I h;refine sk (xG I hg hm ?_ Fv);refine callWith_K (h₀:=X.base) I.ok.mod.VS hk (cC (ha pos pins s σ H _ I h) fun us s1 ⟨vs,H1,I1,r,q⟩=>⟨I1.uK,?_⟩) he ma;exact CQ F hr hb hd hx I1 r q
theorem Nj{pl:Sem Bool}(he:PE X o ta)(c:Em X.K C)(hm:Meth X.K C m f)(F:bC X.prog X.w X.K X.mg X.base CX k f fd ps sp)(hr:eW k X.A)(hb:Binds X.K fd ps ds)(hd:Vals wL ds)(hx:zn CX X E)(ha:PA X (e::es) t)
 (fC:starEach (e::es) X.env=(false,eval e X.env)::starEach es X.env:=by rfl) (ma:(backTo pos (starEach es X.env)).any (·.1)=false:=by rfl)
 (ht:eval (.Call (.Attribute o m apos) (e::es) [] pos) X.env=(do
  let ov←eval o X.env
  standAt apos.atName
  let(f,first)←holding [ov] (getMethod ov m pl)
  callWith pos f first (backTo pos (starEach (e::es) X.env)) (backToKw pos (keywordEach [] X.env))):=by rfl):
 PE X (.Call (.Attribute o m apos) (e::es) [] pos) (Gi C m sp wL E ta t):=by
 intro pins s σ H Q I h;refine methodCall_KW (pl:=pl) (cC (he pins s σ H _ I h) fun u s1 ⟨x,H1,I1,rx,a,dx,fs,ex,ea,l,q⟩=> ?_) ht;subst ex;obtain rfl:u=Value.ref a:=rx;refine qU I1 ea c hm l ?_;refine callWith_K (first:=[.ref a]) (h₀:=X.base) I.ok.mod.VS hm.kp (cC (ha pos pins s1 σ H1 _ I1 q) fun us s2 ⟨vs,H2,I2,r,q2⟩=>⟨I2.uK,?_⟩) fC ma;exact CQ (us:= .ref a::us) (vs:= .ref a::vs) F hr hb hd hx I2 (.cons rfl r) q2
theorem LR{pl:Sem Bool}(he:PE X o ta)(c:Em X.K C)(hm:Meth X.K C m f)(F:bC X.prog X.w X.K X.mg X.base CX k f fd ps sp)(hr:eW k X.A)(hb:Binds X.K fd ps ds)(hd:Vals wL ds)(hx:zn CX X E)
 (ht:eval (.Call (.Attribute o m apos) [] [] pos) X.env=(do
  let ov←eval o X.env
  standAt apos.atName
  let(f,first)←holding [ov] (getMethod ov m pl)
  callWith pos f first (backTo pos (starEach [] X.env)) (backToKw pos (keywordEach [] X.env))):=by rfl):
 PE X (.Call (.Attribute o m apos) [] [] pos) (Gi C m sp wL E ta JI):=by
 intro pins s σ H Q I h;refine methodCall_KW (pl:=pl) (cC (he pins s σ H _ I h) fun u s1 ⟨x,H1,I1,rx,a,dx,fs,ex,ea,l,q⟩=> ?_) ht;subst ex;obtain rfl:u=Value.ref a:=rx;refine qU I1 ea c hm l ?_;exact PySem.W.callWith_K0 (first:=[.ref a]) I1.uK hm.kp (CQ (us:=[.ref a]) (vs:=[.ref a]) F hr hb hd hx I1 (.cons rfl .nil) q)
structure Mk(K:Frag)(C f:Addr):Prop where
 makes:makesIn K C=true
 init:PySem.W.findIn K (.ref C) "__init__"=some (some (.ref f))
 fn:PySem.W.isFn K (.ref f)=true
 kp:PySem.W.keepIn K (.ref C)=true
theorem Me{pins:aZ}{σ:St}{H:Hp}{s:Shared}{Q:VK}{us:aP}{vs:aA}(M:Mk X.K C f)(F:bC X.prog X.w X.K X.mg X.base CX k f fd ps sp)(hr:eW (k+1) X.A)(hb:Binds X.K fd ps ds)(hd:Vals wL ds)
 (hx:zn CX X E) (I:Inv X pins σ H s) (r:Vals vs us)
 (h:∀x dx,H x=none→H dx=none→dx≠x→sp (.ref x::(vs++wL)) (upd (upd H dx (.own x)) x (.ins C dx [])) (fun v H2=>v= .bK∧Q (.ref x) H2) E):
 wpAny (model X.prog X.w) X.A (call (.ref C) us) (EP X pins σ Q) X.xe s:=by
 have hq:=h (s.heap.objs.size+1) s.heap.objs.size (I.bE.fresh (gM _)) (I.bE.fresh (az _)) (bF (xY _));have I2:=Inv.made (C:=C) I;have r2:Vals (V.ref (s.heap.objs.size+1)::(vs++wL)) (Value.ref (s.heap.objs.size+1)::(us++ds)):= .cons rfl (r.append hd)
 have hl:(Value.ref (s.heap.objs.size+1)::us++ds).length=ps.length:=by
  have e:=r2.length;rw[F.len _ _ _ _ hq] at e;exact e.symm
 refine wpAny_call (J3 (f:=f) I.uK M.makes M.init (pQ.mp M.fn) (codeAny_mono (F.run _ X.stack _ _ ⟨Value.ref (s.heap.objs.size+1)::us,[]⟩ (Value.ref (s.heap.objs.size+1)::(us++ds)) _ _ E (hr.make C us [])
  (I2.acg.make C us []) (hb _ (Value.ref (s.heap.objs.size+1)::us) I2.uK hl) r2 hq) fun r s' hq' => ?_))
 cases r with
 |error e=>exact hx pins σ _ _ e s' I2 hq'
 |ok fl=>
  cases fl with
  |ret u=>
   obtain⟨v,H',I3,rv,ev,q3⟩:=I2.after hq';subst ev;exact⟨rv,⟨V.ref (s.heap.objs.size+1),H',I3,rfl,q3⟩⟩
  |next=>exact False.elim hq'
  |brk=>exact False.elim hq'
  |cont=>exact False.elim hq'
theorem Ob(M:Mk X.K C f)(F:bC X.prog X.w X.K X.mg X.base CX k f fd ps sp)(hr:eW (k+1) X.A)(hg:Gl X x)(hm:X.mg x=some (.ref C))(hb:Binds X.K fd ps ds)(hd:Vals wL ds)(hx:zn CX X E)
 (ha:PA X (e::es) t) (Fv:(x==("__debug__" :Str))=false:=by decide) (he:starEach (e::es) X.env=(false,eval e X.env)::starEach es X.env:=by rfl) (ma:(backTo pos (starEach es X.env)).any (·.1)=false:=by rfl):
 PE X (.Call (.Name x p) (e::es) [] pos) (Z_ C sp wL E t):=by
 intro pins s σ H Q I h;refine sk (xG I hg hm ?_ Fv);refine callWith_K (h₀:=X.base) I.ok.mod.VS M.kp (cC (ha pos pins s σ H _ I h) fun us s1 ⟨vs,H1,I1,r,q⟩=>⟨I1.uK,?_⟩) he ma;exact Me M F hr hb hd hx I1 r q
end
section
variable{X:Cx}{CX:DK}{k:Nat}{f C:Addr}{fd:FuncData}{ps ks:aJ}{sp:Sp}{E:XK}{x m:Str}{p pos apos alu:Pos}{e o:Expr}{es:cq}{kws:List Keyword}{te ta:TE}{t tk:TA}{nm:Option Str}
variable{g:aP→aP→aP}{gV:aA→aA→aA}
end
structure aI(N P:aJ)(sc:Scope):Prop where
 kind:sc.kind= .function
 co:sc.isCoroutine=false
 gen:sc.isGenerator=false
 nd:N.Nodup
 pre:N.take P.length=P
 par:∀x∈P,sc.names.lookup x=some .local∨sc.names.lookup x=some .cell
 S9:∀y∈sc.names,y.2≠.free
theorem Bs{kindOf:Str→Option NameKind}{x:Str}:∀{binds:List (Str×Value)} {m:Str→aQ},(∀v,(x,v)∉binds)→bindL kindOf binds m x=m x
 |[],_,_=>rfl
 |(n,v)::r,m,h=>by
  unfold bindL;rw[Bs fun w hw=>h w (a_ _ hw)]
  split
  ·have:x≠n:=by rintro rfl;exact h v bJ
   simp[this]
  ·rfl
theorem Bu{kindOf:Str→Option NameKind}{x:Str}:∀{binds:List (Str×Value)} {m:Str→aQ},(∀v,(x,v)∉binds)→bindC kindOf binds m x=m x
 |[],_,_=>rfl
 |(n,v)::r,m,h=>by
  unfold bindC;rw[Bu fun w hw=>h w (a_ _ hw)]
  split
  ·rfl
  ·have:x≠n:=by rintro rfl;exact h v bJ
   simp[this]
theorem AM{kindOf:Str→Option NameKind}{x:Str}{v:Value}:∀{P:aJ} {vs:aP} {i:Nat} {m:Str→aQ},P.Nodup→P[i]? =some x→vs[i]? =some v→kindOf x=some .local→
 bindL kindOf (P.zip vs) m x=some v
 |[],_,_,_,_,h,_,_=>by simp at h
 |_::_,[],_,_,_,_,h,_=>by simp at h
 |p::P,w::vs,0,m,nd,h1,h2,hk=>by
  simp at h1 h2;subst h1;subst h2
  show bindL kindOf ((p,w)::P.zip vs) m p=_;unfold bindL;rw[Bs fun v hv=>(fq.mp nd).1 (CO hv).1,aC hk];simp
 |p::P,w::vs,i+1,m,nd,h1,h2,hk=>by
  show bindL kindOf ((p,w)::P.zip vs) m x=_;unfold bindL;exact AM (i:=i) (fq.mp nd).2 (by simpa using h1) (by simpa using h2) hk
theorem A3{kindOf:Str→Option NameKind}{x:Str}{v:Value}:∀{P:aJ} {vs:aP} {i:Nat} {m:Str→aQ},P.Nodup→P[i]? =some x→vs[i]? =some v→kindOf x≠some .local→
 bindC kindOf (P.zip vs) m x=some v
 |[],_,_,_,_,h,_,_=>by simp at h
 |_::_,[],_,_,_,_,h,_=>by simp at h
 |p::P,w::vs,0,m,nd,h1,h2,hk=>by
  simp at h1 h2;subst h1;subst h2
  show bindC kindOf ((p,w)::P.zip vs) m p=_;unfold bindC;rw[Bu fun v hv=>(fq.mp nd).1 (CO hv).1,au hk];simp
 |p::P,w::vs,i+1,m,nd,h1,h2,hk=>by
  show bindC kindOf ((p,w)::P.zip vs) m x=_;unfold bindC;exact A3 (i:=i) (fq.mp nd).2 (by simpa using h1) (by simpa using h2) hk
noncomputable def XV(N:aJ)(vs:aA):St:=vs.map some++List.replicate (N.length - vs.length) none
noncomputable def Cv(CX:DK)(P:Program)(w:World)(K:Frag)(mg:Str→aQ)(base:Heap)(N:aJ)(qual:Str)(scope:Scope)(f:Addr)(cd:Value)(A:Around)(outer:List Env)(s:Shared)(H:Hp)(E:XK):Cx where
 prog:=P
 w:=w
 K:=K
 mg:=mg
 base:=base
 A:=A.deeper (envOfC qual scope s.heap.objs.size f cd)
 N:=N
 ia:=s
 H₀:=H
 env:=envOfC qual scope s.heap.objs.size f cd
 outer:=outer
 stack:=envOfC qual scope s.heap.objs.size f cd::outer
 ex:=[]
 calm:=true
 fn:=fun _=>true
 pn:=[]
 xe:=fun e s' =>wpAny (model P w) (A.deeper (envOfC qual scope s.heap.objs.size f cd)) (leaving (envOfC qual scope s.heap.objs.size f cd) e) (fun _ VE =>CX outer H s E e VE) (fun e' VE =>CX outer H s E e' VE) s'
theorem DR{sc:Scope}{n:Nat}{x:Str}(h:sc.names.lookup x=some .cell):∃c,(cellsFrom n sc.names []).lookup x=some c:=by
 have q:=cellsFrom_some sc.names n [] (.inl h);exact Option.isSome_iff_exists.mp q
theorem Ie{CX:DK}{P:Program}{w:World}{K:Frag}{mg:Str→aQ}{base:Heap}{N ps:aJ}{qual:Str}{scope:Scope}{f:Addr}{cd:Value}{A:Around}{outer:List Env}{s s1:Shared}{H:Hp}{E:XK}{us:aP}{vs:aA}
 (S:aI N ps scope) (hd:A.handled=none) (e0:zf P w K mg base A outer s H) (hl:vs.length=ps.length) (r:Vals vs us)
 (x:InCallC s s.heap.objs.size (bindL (envOfC qual scope s.heap.objs.size f cd).kindOf (ps.zip us) fun _=>none) (cellsFrom (s.heap.objs.size+1) scope.names []) (bindC (envOfC qual scope s.heap.objs.size f cd).kindOf (ps.zip us) fun _=>none) s1):
 Inv (Cv CX P w K mg base N qual scope f cd A outer s H E) [] (XV N vs) H s1:=by
 have ma:ps.length≤N.length:=by have:=congrArg List.length S.pre;rw[kD] at this;lia
 obtain⟨h1,tk,rfl,hk⟩:=x.done;have Y4:∀b:Addr,b∉(Cv CX P w K mg base N qual scope f cd A outer s H E).ex:=fun b z=>absurd (show b∈([]:aH) from z) (by simp)
 refine⟨⟨e0.mod,S.kind,rfl,rfl,az _,fun y z c h1 h2=> ?_,fun y hy=> ?_,fun y c _ h=> ?_,fun _=>hd,Around.frames_deeper e0.frames,.inr ⟨rfl,rfl⟩,fun b z=>absurd z (Y4 b),e0.bs,e0.KZ,fun b _ _=>Y4 b,fun b z=>absurd z (Y4 b),e0.uY,e0.Pq⟩,
  rfl,e0.bare,Un.kept hk,⟨_,x.toInCall.ns,fun i y v h1 h2 h3=> ?_⟩,fun y c h=>⟨_,x.cell y c h⟩,e0.bE.fresh (az _),fun y c h=> ?_,fun p hp=>absurd (show p∈([]:aZ) from hp) (by simp),e0.bE.kept hk,?_⟩
 ·exact name_of_addr x.apart (PySem.mem_of_lookup h1) (PySem.mem_of_lookup h2)
 ·have hy:scope.names.lookup y=some .cell∨scope.names.lookup y=some .free:=hy;rcases hy with hy|hy
  ·exact DR hy
  ·exact absurd rfl (S.S9 _ (PySem.mem_of_lookup hy))
 ·exact ck (x.above y c (PySem.mem_of_lookup h))
 ·have hi:i<vs.length:=by
   unfold XV at h2;by_cases hi:i<vs.length
   ·exact hi
   ·rw[cF (by simpa using hi)] at h2;rw[uA] at h2
    split at h2<;>cases h2
  have ha:vs[i]? =some v:=by
   unfold XV at h2;rw[bV (by simpa using hi),aW] at h2
   cases e:vs[i]? with
   |none=>rw[e] at h2;cases h2
   |some a=>rw[e] at h2;cases h2;rfl
  obtain⟨u,hu,rv⟩:=r.get ha
  have hp:ps[i]? =some y:=by
   rw[←S.pre,BI (by lia)];exact h1
  have ndP:ps.Nodup:=by rw[←S.pre];exact S.nd.sublist (List.take_sublist _ _)
  refine⟨u,rv,?_⟩;rcases S.par y (ba hp) with k|k
  ·exact .inl ⟨k,AM ndP hp hu k⟩
  ·obtain⟨c,e⟩:=DR (n:=s.heap.objs.size+1) k;refine .inr ⟨.inl k,c,e,?_⟩;have q:=x.cell y c e;rw[A3 ndP hp hu (by show scope.names.lookup y≠_;rw[k];decide)] at q;exact q
 ·exact e0.bE.fresh (ck (x.above y c (PySem.mem_of_lookup h)))
 ·unfold XV;show _=N.length;rw[bj,aN,jE]
  lia
theorem Xz{CX:DK}{P:Program}{w:World}{K:Frag}{mg:Str→aQ}{base:Heap}{k:Nat}{f:Addr}{name qual:Str}{params:Arguments}{body:List Stmt}{scope:Scope}{dV kV doc pm c_ ct oc:Value}{an od:Option Addr}
 {Sk:Array (aQ)} {N ps:aJ} {sp:Sp} (lk:K.lookup f=some ⟨oc,od,.func (PySem.W.fnOf name qual params body scope dV kV doc pm an c_ ct),Sk⟩) (Lh:PySem.W.codeIn K c_ qual=true) (S:aI N ps scope)
 (len:∀vs H Q E,sp vs H Q E→vs.length=ps.length)
 (gW:∀(A:Around) (outer:List Env) (s:Shared) (H:Hp) (vs:aA) (Q:VK) (E:XK),eW k (A.deeper (envOfC qual scope s.heap.objs.size f c_))→sp vs H Q E→
  ∃t,C8 (Cv CX P w K mg base N qual scope f c_ A outer s H E) body t∧t {nx:=fun _ H' =>Q .bK H',rt:=Q} (XV N vs) H):
 bC P w K mg base CX (k+1) f (PySem.W.fnOf name qual params body scope dV kV doc pm an c_ ct) ps sp:=by
 refine⟨len,fun A outer s H args us vs Q E hr e0 hb r MJ=> ?_⟩;have hl:=len _ _ _ _ MJ;have KX:K.In s.heap:=e0.mod.VS.keeps fun b o e=>(e0.bs b o e).1;have lim:s.heap.NoLimit:=e0.mod.nolimit.keeps fun b o e=>(e0.bs b o e).1
 have Zo:∀y∈ps.zip us,scope.names.lookup y.1=some .local∨(scope.names.lookup y.1=some .cell∧((cellsFrom (s.heap.objs.size+1) scope.names []).lookup y.1).isSome=true):=fun⟨n,v⟩ hy=>by
  rcases S.par n (CO hy).1 with q|q
  ·exact .inl q
  ·exact .inr ⟨q,cellsFrom_some _ _ _ (.inl q)⟩
 refine codeAny_call_function hr.depth (KX _ _ lk) rfl S.co S.gen rfl (PySem.W.codeRec_of KX Lh) (hb _ _ _ _ ?_);refine wpAny_newFunctionEnv_cells S.kind Zo fun env he s1 x=> ?_;subst he;refine⟨lim.keeps x.toInCall.keep,codeAny_func ?_⟩;obtain⟨t,ht,hq⟩:=gW A outer s H vs Q E (hr.deeper _) MJ;have I:Inv (Cv CX P w K mg base N qual scope f c_ A outer s H E) [] (XV N vs) H s1:=Ie S hr.hd e0 hl r x;refine fW (ht [] s1 (XV N vs) H _ I hq) (fun fl s' hs=> ?_) fun e s' hs=>hs
 have fin:∀{c9 :St} {H' :Hp} {v:V} {u:Value},Inv (Cv CX P w K mg base N qual scope f c_ A outer s H E) [] c9 H' s'→RelV v u→Q v H'→CE outer P w H s Q u s' :=
  fun{c9 H' v u} J rv q=>⟨v,H',J.os,J.bare,J.base,J.bE,rv,q⟩
 cases fl with
 |ret u=>
  obtain⟨v,c9,H',J,rv,q⟩:=hs;exact fin J rv q
 |next=>
  obtain⟨c9,H',J,q⟩:=hs;exact fin (v:=V.bK) (u:=Value.none) J rfl q
 |brk=>
  obtain⟨_,_,_,q⟩:=hs;exact False.elim q
 |cont=>
  obtain⟨_,_,_,q⟩:=hs;exact False.elim q
section
variable{X:Cx}{x:Str}{p pos:Pos}{e:Expr}{es:cq}{t:TA}{id T:String}{r:aA→Hp→VK→Prop}
noncomputable def tCB(r:aA→Hp→VK→Prop)(t:TA):TE:=fun σ H Q=>t σ H fun vs H1=>r vs H1 Q
theorem Ml(hc:ee X (.builtin id) r)(hg:Gl X x)(hm:X.mg x=none)(hv:bootBuiltins x=some (.builtin id))(ha:PA X (e::es) t)(hn:x≠ "__name__":=by decide)(Fv:(x==("__debug__" :Str))=false:=by decide)
 (he:starEach (e::es) X.env=(false,eval e X.env)::starEach es X.env:=by rfl) (ma:(backTo pos (starEach es X.env)).any (·.1)=false:=by rfl):PE X (.Call (.Name x p) (e::es) [] pos) (tCB r t):=by
 intro pins s σ H Q I h;refine sk (mE I hg hm hv ?_ hn Fv);exact PyProof.Rows.callWith_builtin1 (cC (ha pos pins s σ H _ I h) fun us s1 ⟨vs,H1,I1,r1,q1⟩=>hc pins s1 σ H1 vs us Q I1 r1 q1) he ma
theorem Il(hc:ee X (.type T) r)(hg:Gl X x)(hm:X.mg x=none)(hv:bootBuiltins x=some (.type T))(ha:PA X (e::es) t)(hn:x≠ "__name__":=by decide)(Fv:(x==("__debug__" :Str))=false:=by decide)
 (he:starEach (e::es) X.env=(false,eval e X.env)::starEach es X.env:=by rfl) (ma:(backTo pos (starEach es X.env)).any (·.1)=false:=by rfl):PE X (.Call (.Name x p) (e::es) [] pos) (tCB r t):=by
 intro pins s σ H Q I h;refine sk (mE I hg hm hv ?_ hn Fv);exact qV (cC (ha pos pins s σ H _ I h) fun us s1 ⟨vs,H1,I1,r1,q1⟩=>hc pins s1 σ H1 vs us Q I1 r1 q1) he ma
end
end L2
namespace HT
open PySem PyProof.Rows
section
open PySem.SeqAt
open PySem.AutoSeq1 (wpAny_loadPart')
open PySem.MeetsSeq PySem.MeetsSeq2 PySem.MeetsSeq3
end
section
variable{prog:Program}{w:World}{A:Around}{E:Value→Shared→Prop}{s:Shared}
noncomputable def Cm(n d:Nat):Option Int→Nat
 |none=>d
 |some v=>if v<0 then(v+(n:Int)).toNat else min v.toNat n
theorem Jk(n d:Nat):Cm n d none=d:=rfl
theorem Gk(n d k:Nat):Cm n d (some (k:Int))=min k n:=by
 show(if(k:Int)<0 then((k:Int)+(n:Int)).toNat else min (k:Int).toNat n)=min k n;rw[au (by lia),cT]
end
end HT
namespace L2
open PySem PySem.Spec PyProof.Rows
noncomputable abbrev TO:=St→Hp→(Option Int→Hp→Prop)→Prop
noncomputable def PO(X:Cx)(e:Option Expr)(t:TO):Prop:=
 ∀(pins:aZ) (s:Shared) (σ:St) (H:Hp) (Q:Option Int→Hp→Prop),Inv X pins σ H s→t σ H Q→
  wpAny (model X.prog X.w) X.A (evalPart e X.env) (fun u s' =>∃o H',Inv X pins σ H' s'∧IsPart u o∧Q o H') X.xe s
noncomputable def Nn:TO:=fun _ H Q=>Q none H
noncomputable def Ge(t:TE):TO:=fun σ H Q=>t σ H fun x H1=>∃i,x= .int i∧Q (some i) H1
section
variable{X:Cx}{e:Expr}{te:TE}{lo hi:Option Expr}{tl th:TO}{pos p2:Pos}
theorem pT:PO X none Nn:=by
 intro pins s σ H Q I h;rw[x_];exact aB ⟨none,H,I,.none,h⟩
theorem i5(h:PE X e te):PO X (some e) (Ge te):=by
 intro pins s σ H Q I hw;rw[evalPart_some];refine cC (h pins s σ H _ I hw) fun u s1 ⟨x,H1,I1,r1,q1⟩=> ?_;obtain⟨i,rfl,q⟩:=q1;obtain⟨t,rfl⟩:=r1;exact⟨some i,H1,I1,.int i t,q⟩
noncomputable def UD(X:Cx)(r:V→Option Int→Option Int→Hp→VK→Prop):Prop:=
 ∀(pins:aZ) (s:Shared) (σ:St) (H:Hp) (x:V) (v vl vu:Value) (lo hi:Option Int) (sl:Addr) (Q:VK),Inv X pins σ H s→RelV x v→s.heap.IsSliceOf sl vl vu .none→IsPart vl lo→IsPart vu hi→r x lo hi H Q→
  ∃T id,typeLookup (.type T) "__getitem__"=pure (some (.builtin id))∧s.TypeIs v T∧wpAny (model X.prog X.w) X.A (getItem v (.ref sl)) (EP X pins σ Q) X.xe s
theorem UD.or{r r' :V→Option Int→Option Int→Hp→VK→Prop}(h:UD X r)(h' :UD X r'):UD X (fun x lo hi H Q=>r x lo hi H Q∨r' x lo hi H Q):=by
 intro pins s σ H x v vl vu lo hi sl Q I rx hs pl pu q;rcases q with q|q
 ·exact h pins s σ H x v vl vu lo hi sl Q I rx hs pl pu q
 ·exact h' pins s σ H x v vl vu lo hi sl Q I rx hs pl pu q
noncomputable def tSl(r:V→Option Int→Option Int→Hp→VK→Prop)(te:TE)(tl th:TO):TE:=fun σ H Q=>te σ H fun x H1=>tl σ H1 fun l H2=>th σ H2 fun u H3=>r x l u H3 Q
theorem lq{r:V→Option Int→Option Int→Hp→VK→Prop}(hr:UD X r)(he:PE X e te)(hl:PO X lo tl)(hu:PO X hi th):PE X (.Subscript e (.Slice lo hi none p2) pos) (tSl r te tl th):=by
 intro pins s σ H Q I h;refine Subscript_ (cC (he pins s σ H _ I h) fun v s1 ⟨x,H1,I1,r1,q1⟩=> ?_);refine wpAny_Slice (cC (hl pins s1 σ H1 _ I1 q1) fun vl s2 ⟨l,H2,I2,pl,q2⟩=>cC (hu pins s2 σ H2 _ I2 q2) fun vu s3 ⟨u,H3,I3,pu,q3⟩=> ?_);rw[x_];refine aB ?_;have I4:Inv X pins σ H3 {s3 with heap:=s3.heap.push {cls:= .type "slice",data:= .fields #[vl,vu,.none]}}:=I3.kept (t' :=s3.toks) fun b ob q=>bT _ q;obtain⟨T,id,hT,ht,hg⟩:=hr pins {s3 with heap:=s3.heap.push {cls:= .type "slice",data:= .fields #[vl,vu,.none]}} σ H3 x v vl vu l u s3.heap.objs.size Q I4 r1 (CK ..) pl pu q3;show wpAny (model X.prog X.w) X.A (subscriptTail e (.Slice lo hi none p2) v (.ref s3.heap.objs.size)) (EP X pins σ Q) X.xe {s3 with heap:=s3.heap.push {cls:= .type "slice",data:= .fields #[vl,vu,.none]}};exact tail_any (ops:=[.ref s3.heap.objs.size,v]) ht hT hg (by with_unfolding_all rfl)
noncomputable def wJ(xs:aA)(lo hi:Option Int):aA:=(xs.drop (HT.Cm xs.length 0 lo)).take (HT.Cm xs.length xs.length hi - HT.Cm xs.length 0 lo)
theorem DP(xs:aA)(lo hi:Option Int):(wJ xs lo hi).length≤xs.length:=by
 unfold wJ;rw[kD,kh]
 lia
end
noncomputable def Jf(n:Nat)(i:Int):Option Nat:=if 0≤i then(if i<n then some i.toNat else none) else if -(n:Int)≤i then some (i+n).toNat else none
noncomputable def IL{α:Type}(xs:List α)(i:Int):Option α:=(Jf xs.length i).bind fun j=>xs[j]?
theorem FP{n:Nat}{i:Int}{j:Nat}(h:Jf n i=some j):seqIndex? i n=some j∧j<n∧ -(n:Int)≤i∧i<n:=by
 unfold Jf at h;by_cases h0:0≤i
 ·rw[aC h0] at h;by_cases h1:i<n
  ·rw[aC h1] at h;have e:i.toNat=j:=fH h;exact⟨by rw[seqIndex_of h0 h1,e],by lia,by lia,h1⟩
  ·rw[au h1] at h;cases h
 ·rw[au h0] at h;by_cases h1: -(n:Int)≤i
  ·rw[aC h1] at h;have e:(i+n).toNat=j:=fH h;exact⟨by rw[seqIndex_neg (by lia) h1,e],by lia,h1,by lia⟩
  ·rw[au h1] at h;cases h
theorem Cn{α:Type}{xs:List α}{i:Int}{v:α}(h:IL xs i=some v):∃j,seqIndex? i xs.length=some j∧xs[j]? =some v∧j<xs.length∧ -(xs.length:Int)≤i∧i<xs.length:=by
 unfold IL at h
 cases e:Jf xs.length i with
 |none=>rw[e] at h;cases h
 |some j=>
  rw[e] at h;obtain⟨h1,h2,h3,h4⟩:=FP e;exact⟨j,h1,h,h2,h3,h4⟩
theorem b9{α:Type}{xs:List α}{j:Nat}{v:α}(h:xs[j]? =some v):IL xs (j:Int)=some v:=by
 have hj:j<xs.length:=(aS.mp h).1
 have e:Jf xs.length (j:Int)=some j:=by
  unfold Jf;rw[aC (by lia),aC (by lia)];simp
 unfold IL;rw[e];exact h
theorem c7{α:Type}(xs:List α)(v:α):IL (xs++[v]) (-1)=some v:=by
 have hl:(xs++[v]).length=xs.length+1:=by simp
 have e:Jf (xs++[v]).length (-1)=some xs.length:=by
  unfold Jf;rw[hl,au (by decide),aC (by lia)]
  congr 1
  lia
 unfold IL;rw[e];show(xs++[v])[xs.length]? =some v;simp
noncomputable def Gd(b:Expr):Prop:=∀o i,subscripted b false o i=operate [o,i] (getItem o i)
noncomputable def Ld(X:Cx)(r:R2):Prop:=
 ∀(value slice:Expr) (pins:aZ) (s:Shared) (σ:St) (H:Hp) (x y:V) (v u:Value) (Q:VK),Inv X pins σ H s→RelV x v→RelV y u→r x y H Q→
  subscripted slice false v u=operate [v,u] (getItem v u)→wpAny (model X.prog X.w) X.A (subscriptTail value slice v u) (EP X pins σ Q) X.xe s
noncomputable def Mq(X:Cx)(id:String)(r:V→aA→Hp→VK→Prop):Prop:=
 ∀(pins:aZ) (s:Shared) (σ:St) (H:Hp) (x:V) (xs:aA) (v:Value) (us:aP) (Q:VK),Inv X pins σ H s→RelV x v→Vals xs us→r x xs H Q→
  wpAny (model X.prog X.w) X.A (call (.builtin id) (v::us)) (EP X pins σ Q) X.xe s
section
variable{X:Cx}{a b:Expr}{ta tb:TE}{pos:Pos}
theorem Ld.or{r r' :R2}(h:Ld X r)(h' :Ld X r'):Ld X (fun x y H Q=>r x y H Q∨r' x y H Q):=by
 intro value slice pins s σ H x y v u Q I rx ry q hs;rcases q with q|q
 ·exact h value slice pins s σ H x y v u Q I rx ry q hs
 ·exact h' value slice pins s σ H x y v u Q I rx ry q hs
theorem Mq.or{id:String}{r r' :V→aA→Hp→VK→Prop}(h:Mq X id r)(h' :Mq X id r'):Mq X id (fun x xs H Q=>r x xs H Q∨r' x xs H Q):=by
 intro pins s σ H x xs v us Q I rx rs q;rcases q with q|q
 ·exact h pins s σ H x xs v us Q I rx rs q
 ·exact h' pins s σ H x xs v us Q I rx rs q
theorem aa8{r:R2}(hr:Ld X r)(ha:PE X a ta)(hb:PE X b tb)(hs:Gd b):PE X (.Subscript a b pos) (U4 r ta tb):=by
 intro pins s σ H Q I h;exact Subscript_ (Ut ha hb I h fun v u s2 x y H2 I2 rx ry q=>hr a b pins s2 σ H2 x y v u Q I2 rx ry q (hs _ _))
noncomputable def S7(K:Frag):R2:=fun x y H Q=>∃p xs i v,x= .ref p∧y= .int i∧bw K H p xs∧IL xs i=some v∧Q v H
noncomputable def WK(K:Frag):R2:=fun x y H Q=>∃p xs i v,x= .ref p∧y= .int i∧gg K H p xs∧IL xs i=some v∧Q v H
noncomputable def S_:R2:=fun x y H Q=>∃z i c,x= .str z∧y= .int i∧z.length≤sizeLine∧IL z.cps.toList i=some c∧Q (.str ⟨#[c]⟩) H
theorem a7:Ld X (S7 X.K):=by
 intro value slice pins s σ H x y v u Q I rx ry h hs;obtain⟨p,xs,i,z,rfl,rfl,hq,he,q⟩:=h;cases rx;obtain⟨t,rfl⟩:=ry;obtain⟨its,r,pl,hz⟩:=I.list hq;obtain⟨j,h1,h2,h3,h4,h5⟩:=Cn he;obtain⟨w,ew,Fw⟩:=r.get h2;have hl:=r.length;have hn:=vA;have fin:EP X pins σ Q w s:=⟨z,H,I,Fw,q⟩;by_cases h0:0≤i
 ·have hj:i.toNat=j:=by
   rw[seqIndex_of h0 h5] at h1;exact fH h1
  exact item_listR pl.isList h0 (by lia) (by rw[hj];simpa using ew) fin hs
 ·have hj:(i+(its.toArray.size:Int)).toNat=j:=by
   rw[seqIndex_neg (by lia) h4] at h1;rw[bZ,←hl];exact fH h1
  exact subscriptTail_builtinR (x:=w) pl.isList.typeIs slot_list_getitem.lookup
   (wpAny_getItem_list_neg (Q:=fun r s' =>r=w∧EP X pins σ Q r s') pl.isList (by lia) (by rw[bZ]<;>lia) (by lia) (by rw[hj];simpa using ew) ⟨rfl,fin⟩) hs
theorem bH:Ld X (WK X.K):=by
 intro value slice pins s σ H x y v u Q I rx ry h hs;obtain⟨p,xs,i,z,rfl,rfl,hq,he,q⟩:=h;cases rx;obtain⟨t,rfl⟩:=ry;obtain⟨its,r,pl,hz⟩:=I.tuple hq;obtain⟨j,h1,h2,h3,h4,h5⟩:=Cn he;obtain⟨w,ew,Fw⟩:=r.get h2;have hl:=r.length;have hn:=vA;have fin:EP X pins σ Q w s:=⟨z,H,I,Fw,q⟩
 exact subscriptTail_builtinR (x:=w) pl.typeIs slot_tuple_getitem.lookup
  (getItem_tuple (j:=j) (Q:=fun r s' =>r=w∧EP X pins σ Q r s') pl (by lia) (by lia) (by rw[bZ,←hl];exact h1) (by simpa using ew) ⟨rfl,fin⟩) hs
theorem zc:Ld X S_:=by
 intro value slice pins s σ H x y v u Q I rx ry h hs;obtain⟨z,i,c,rfl,rfl,hz,he,q⟩:=h;obtain⟨t,rfl⟩:=rx;obtain⟨t',rfl⟩:=ry;obtain⟨j,h1,h2,h3,h4,h5⟩:=Cn he;have hl:z.cps.toList.length=z.length:=by simp[Str.length]
 rw[hl] at h1 h4 h5;have hn:=vA
 exact tail_any (typeIs_str s z t) slot_str_getitem.lookup (getItem_str (c:=c) (by
  have e1:decide (i< -(2 ^ 63:Int))=false:=eZ (by lia);have e2:decide (i≥2 ^ 63)=false:=eZ (by lia);rw[e1,e2,Bool.or_false]) (by rw[h1];simpa using h2) ⟨.str ⟨#[c]⟩,H,I.tok _,⟨_,rfl⟩,q⟩) hs
theorem EZ(its:aP)(n j:Nat)(u:Value):Obj.mapSeq (·.setIfInBounds j u) {cls:= .type "list",data:= .seq its.toArray n}={cls:= .type "list",data:= .seq (its.set j u).toArray n}:=by
 simp[Obj.mapSeq]
theorem Inv.lst{pins:aZ}{σ:St}{H:Hp}{s:Shared}{p:Addr}{xs:aA}(I:Inv X pins σ H s)(h:H p=some (.lst xs)):
 ∃(its:aP) (n:Nat),Vals xs its∧s.heap.get? p=some {cls:= .type "list",data:= .seq its.toArray n}∧xs.length≤sizeLine:=by
 obtain⟨z,its,n,r,e⟩:=I.bE p _ h;exact⟨its,n,r,e,z⟩
theorem Inv.SY{pins:aZ}{σ:St}{H:Hp}{s:Shared}{p:Addr}{xs ys:aA}{its its' :aP}{n n' :Nat}{f:Obj→Obj}(I:Inv X pins σ H s)(h:H p=some (.lst xs))
 (ho:s.heap.get? p=some {cls:= .type "list",data:= .seq its.toArray n}) (hf:f {cls:= .type "list",data:= .seq its.toArray n}={cls:= .type "list",data:= .seq its'.toArray n'}) (r:Vals ys its') (hz:ys.length≤sizeLine) (t:Nat):
 Inv X pins σ (upd H p (.lst ys)) {s with heap:=s.heap.update p f,toks:=t}:=by
 have e:(s.heap.update p f).get? p=some {cls:= .type "list",data:= .seq its'.toArray n'}:=by
  rw[jc f ho (by rw[hf]<;>rfl),hf]
 refine I.write (x:=p) (e:=p) (by rw[h];trivial) (.inl rfl) (fun b u hb q=>(qX _ _ (dt hb)).trans q) ⟨_,e⟩ ?_;exact⟨hz,its',n',r,e⟩
noncomputable def Y3:V→V→V→Hp→(Hp→Prop)→Prop:=fun o i v H Q=>∃p xs k j,o= .ref p∧i= .int k∧H p=some (.lst xs)∧Jf xs.length k=some j∧Q (upd H p (.lst (xs.set j v)))
theorem wT:YM X Y3:=by
 intro pins s σ H o i v ov iv u Q I ro ri rv h;obtain⟨p,xs,k,j,rfl,rfl,hp,hj,q⟩:=h;cases ro;obtain⟨t,rfl⟩:=ri;obtain⟨its,n,r,ho,hz⟩:=I.lst hp;obtain⟨h1,h2,h3,h4⟩:=FP hj;have hl:=r.length;have hn:=vA
 have I' :Inv X pins σ (upd H p (.lst (xs.set j v))) {s with heap:=s.heap.update p (Obj.mapSeq (·.setIfInBounds j u))}:=
  I.SY hp ho (EZ its n j u) (r.set rv j) (by rw[ij];exact hz) s.toks
 by_cases h0:0≤k
 ·have hk:k.toNat=j:=by
   rw[seqIndex_of h0 h4] at h1;exact fH h1
  exact PySem.W.ki_setAt ho h0 (by lia) (by rw[bZ,←hl];exact h4) (by rw[hk];exact⟨_,I',q⟩)
 ·have hk:(k+(its.toArray.size:Int)).toNat=j:=by
   rw[seqIndex_neg (by lia) h3] at h1;rw[bZ,←hl];exact fH h1
  exact PySem.W.ki_setBack ho (by lia) (by rw[bZ,←hl];exact h3) (by lia) (by rw[hk];exact⟨_,I',q⟩)
theorem Cg(lo hi:Option Int)(n:Nat):(sliceBounds lo hi none n).1=((HT.Cm n 0 lo:Nat):Int)∧(sliceBounds lo hi none n).2.1=((HT.Cm n n hi:Nat):Int)∧(sliceBounds lo hi none n).2.2=1:=by
 refine⟨?_,?_,rfl⟩
 ·cases lo with
  |none=>simp[sliceBounds,HT.Cm]
  |some i=>
   simp only[sliceBounds,HT.Cm,Option.getD_none,show(1:Int)>0 by decide,eL];by_cases h:i<0
   ·simp only[h,eL]<;>lia
   ·simp only[h,cI]<;>lia
 ·cases hi with
  |none=>simp[sliceBounds,HT.Cm]
  |some i=>
   simp only[sliceBounds,HT.Cm,Option.getD_none,show(1:Int)>0 by decide,eL];by_cases h:i<0
   ·simp only[h,eL]<;>lia
   ·simp only[h,cI]<;>lia
theorem AF(its:aP)(lo hi:Option Int):slicePick its.toArray lo hi none=((its.drop (HT.Cm its.length 0 lo)).take (HT.Cm its.length its.length hi - HT.Cm its.length 0 lo)).toArray:=by
 obtain⟨h1,h2,h3⟩:=Cg lo hi its.toArray.size;unfold slicePick;rw[h1,h2,h3];simp only[sliceRange_one,pick_run,bZ]<;>rfl
noncomputable def afq(K:Frag):V→Option Int→Option Int→Hp→VK→Prop:=fun x lo hi H Q=>∃a xs,x= .ref a∧bw K H a xs∧∀p,H p=none→Q (.ref p) (upd H p (.lst (wJ xs lo hi)))
theorem FR:UD X (afq X.K):=by
 intro pins s σ H x v vl vu lo hi sl Q I rx hs pl pu h;obtain⟨a,xs,rfl,hx,q⟩:=h;cases rx;obtain⟨its,r,ht,hz⟩:=I.list hx;have hlen:=r.length;refine⟨"list",_,slot_list_getitem.lookup,ht.isList.typeIs,?_⟩;refine CB ht.isList hs pl pu .none (by simp) ?_ (by rw[bZ]<;>lia);rw[AF,←hlen];refine⟨.ref s.heap.objs.size,_,I.laid (t' :=s.toks) (o:= .lst (wJ xs lo hi)) (fun b ob q=>bT _ q) (az _) ?_,rfl,q _ (I.bE.fresh (az _))⟩;exact⟨aY (DP xs lo hi) hz,_,0,(r.drop (HT.Cm xs.length 0 lo)).take (HT.Cm xs.length xs.length hi - HT.Cm xs.length 0 lo),bI _ rfl⟩
noncomputable def lE:V→Bool
 | .bK=>true
 | .bl _=>true
 | .int _=>true
 | .str _=>true
 |_=>false
noncomputable def ER:V→V→Bool
 | .bK,.bK=>true
 | .bl a,.bl b=>a==b
 | .bl a,.int b=>(if a then 1 else 0)==b
 | .int a,.bl b=>a==(if b then 1 else 0)
 | .int a,.int b=>a==b
 | .str a,.str b=>a==b
 |_,_=>false
theorem Jq{A:Around}{s:Shared}{y x:V}{u v:Value}(ry:RelV y u)(rx:RelV x v)(fy:lE y=true)(fx:lE x=true):SeqAt.EqAt A s u v (ER y x):=by
 cases y with
 |bK=>
  cases ry
  cases x with
  |bK=>cases rx;exact SeqAt.EqAt.same _
  |bl b=>cases rx;exact SeqAt.EqAt.none_bool b
  |int b=>obtain⟨t,rfl⟩:=rx;exact SeqAt.EqAt.none_int b t
  |str b=>obtain⟨t,rfl⟩:=rx;exact SeqAt.EqAt.none_str b t
  |_=>exact absurd (show false=true from fx) b7
 |bl a=>
  cases ry
  cases x with
  |bK=>cases rx;exact SeqAt.EqAt.bool_none a
  |bl b=>cases rx;exact SeqAt.EqAt.bool_bool a b
  |int b=>obtain⟨t,rfl⟩:=rx;exact SeqAt.EqAt.bool_int a b t
  |str b=>obtain⟨t,rfl⟩:=rx;exact SeqAt.EqAt.bool_str a b t
  |_=>exact absurd (show false=true from fx) b7
 |int a=>
  obtain⟨t',rfl⟩:=ry
  cases x with
  |bK=>cases rx;exact SeqAt.EqAt.int_none a t'
  |bl b=>cases rx;exact SeqAt.EqAt.int_bool a t' b
  |int b=>obtain⟨t,rfl⟩:=rx;exact SeqAt.EqAt.int_int a t' b t
  |str b=>obtain⟨t,rfl⟩:=rx;exact SeqAt.EqAt.int_str a t' b t
  |_=>exact absurd (show false=true from fx) b7
 |str a=>
  obtain⟨t',rfl⟩:=ry
  cases x with
  |bK=>cases rx;exact SeqAt.EqAt.str_none a t'
  |bl b=>cases rx;exact SeqAt.EqAt.str_bool a t' b
  |int b=>obtain⟨t,rfl⟩:=rx;exact SeqAt.EqAt.str_int a t' b t
  |str b=>obtain⟨t,rfl⟩:=rx;exact SeqAt.EqAt.str_str a t' b t
  |_=>exact absurd (show false=true from fx) b7
 |_=>exact absurd (show false=true from fy) b7
noncomputable def Fn(x:V)(u:Value):Bool:=match u with
 | .none=>ER .bK x
 | .bool b=>ER (.bl b) x
 | .int i _=>ER (.int i) x
 | .str z _=>ER (.str z) x
 |_=>false
theorem J5{x y:V}{u:Value}(r:RelV y u)(f:lE y=true):Fn x u=ER y x:=by
 cases y with
 |bK=>cases r;rfl
 |bl b=>cases r;rfl
 |int i=>obtain⟨t,rfl⟩:=r;rfl
 |str z=>obtain⟨t,rfl⟩:=r;rfl
 |_=>exact absurd (show false=true from f) b7
theorem tM{x:V}:∀{xs:aA} {us:aP},Vals xs us→xs.all lE=true→us.any (Fn x)=xs.any fun y=>ER y x
 |_,_,.nil,_=>rfl
 |y::xs,u::us,.cons r t,f=>by
  rw[List.all_cons,gc] at f;rw[uC,uC,J5 r f.1,tM t f.2]
theorem oe{A:Around}{s:Shared}{x:V}{v:Value}(rx:RelV x v)(fx:lE x=true):∀{xs:aA} {us:aP},Vals xs us→xs.all lE=true→∀u∈us,SeqAt.EqAt A s u v (Fn x u)
 |_,_,.nil,_=>fun u hu=>by cases hu
 |y::xs,u::us,.cons r t,f=>fun u' hu=>by
  rw[List.all_cons,gc] at f;rcases bq.mp hu with rfl|hu
  ·rw[J5 r f.1];exact Jq r rx f.1 fx
  ·exact oe rx fx t f.2 u' hu
noncomputable def HY(x:V)(xs:aA):Bool:=xs.any fun y=>ER y x
noncomputable def rIn(K:Frag)(neg:Bool):R2:=fun x y H Q=>∃p xs,y= .ref p∧(bw K H p xs∨gg K H p xs)∧lE x=true∧xs.all lE=true∧Q (.bl (if neg then !HY x xs else HY x xs)) H
theorem Bz:kW X (compareOp .In) (rIn X.K false):=by
 intro pins s σ H x y v u Q I rx ry h;obtain⟨p,xs,rfl,hq,fx,fs,q⟩:=h;cases ry;rcases hq with hq|hq
 ·obtain⟨its,r,pl,hz⟩:=I.list hq;refine SeqAt.in_listAt (Fn x) pl.isList (fun w hw=>oe rx fx r fs w (by simpa using hw)) ⟨.bl _,H,I,rfl,?_⟩;rw[show its.toArray.any (Fn x)=its.any (Fn x) by simp,tM r fs];exact q
 ·obtain⟨its,r,pl,hz⟩:=I.tuple hq;refine SeqAt.in_tupleAt (Fn x) pl (fun w hw=>oe rx fx r fs w (by simpa using hw)) ⟨.bl _,H,I,rfl,?_⟩;rw[show its.toArray.any (Fn x)=its.any (Fn x) by simp,tM r fs];exact q
theorem BV:kW X (compareOp .NotIn) (rIn X.K true):=by
 intro pins s σ H x y v u Q I rx ry h;obtain⟨p,xs,rfl,hq,fx,fs,q⟩:=h;cases ry;rcases hq with hq|hq
 ·obtain⟨its,r,pl,hz⟩:=I.list hq;refine SeqAt.notIn_listAt (Fn x) pl.isList (fun w hw=>oe rx fx r fs w (by simpa using hw)) ⟨.bl _,H,I,rfl,?_⟩;rw[show its.toArray.any (Fn x)=its.any (Fn x) by simp,tM r fs];exact q
 ·obtain⟨its,r,pl,hz⟩:=I.tuple hq;refine SeqAt.notIn_tupleAt (Fn x) pl (fun w hw=>oe rx fx r fs w (by simpa using hw)) ⟨.bl _,H,I,rfl,?_⟩;rw[show its.toArray.any (Fn x)=its.any (Fn x) by simp,tM r fs];exact q
theorem bA:ee X (.builtin "len") (fun xs H Q=>∃p ys,xs=[.ref p]∧(bw X.K H p ys∨gg X.K H p ys)∧Q (.int ys.length) H):=by
 intro pins s σ H xs us Q I r h;obtain⟨p,ys,rfl,hq,q⟩:=h;obtain⟨u,rfl,rx⟩:=wS r;cases rx;have hn:=vA;rcases hq with hq|hq
 ·obtain⟨its,r',pl,hz⟩:=I.list hq;have hlen:=r'.length;exact Calls.call_len_list pl.isList (by simp only[bZ]<;>lia) ⟨.int ys.length,H,I.tok _,⟨s.toks+1,by rw[bZ,hlen]⟩,q⟩
 ·obtain⟨its,r',pl,hz⟩:=I.tuple hq;have hlen:=r'.length;exact len_tuple pl (by simp only[bZ]<;>lia) ⟨.int ys.length,H,I.tok _,⟨s.toks+1,by rw[bZ,hlen]⟩,q⟩
theorem sD:ee X (.builtin "len") (fun xs H Q=>∃z,xs=[.str z]∧z.length≤sizeLine∧Q (.int z.length) H):=by
 intro pins s σ H xs us Q I r h;obtain⟨z,rfl,hz,q⟩:=h;obtain⟨u,rfl,t,rfl⟩:=wS r;have hn:=vA;exact len_str (by lia) ⟨.int z.length,H,I.tok _,⟨_,rfl⟩,q⟩
theorem ee.or{f:Value}{r r' :aA→Hp→VK→Prop}(h:ee X f r)(h' :ee X f r'):ee X f (fun xs H Q=>r xs H Q∨r' xs H Q):=by
 intro pins s σ H xs us Q I rs q;rcases q with q|q
 ·exact h pins s σ H xs us Q I rs q
 ·exact h' pins s σ H xs us Q I rs q
theorem BZ:ee X (.type "list") (fun xs H Q=>∃p ys,xs=[.ref p]∧(bw X.K H p ys∨gg X.K H p ys)∧∀l,H l=none→Q (.ref l) (upd H l (.lst ys))):=by
 intro pins s σ H xs us Q I r h;obtain⟨p,ys,rfl,hq,q⟩:=h;obtain⟨u,rfl,rx⟩:=wS r;cases rx
 have fin:∀(its:aP),Vals ys its→ys.length≤sizeLine→∀(h' :Heap) (c' :Nat),(∀b o',s.heap.get? b=some o'→h'.get? b=some o')→
  h'.get? s.heap.objs.size=some {cls:= .type "list",dict:=none,data:= .seq its.toArray c',slots:= #[]}→EP X pins σ Q (.ref s.heap.objs.size) {s with heap:=h'}:=fun its r' hz h' c' kp e=>
  ⟨.ref s.heap.objs.size,_,I.laid (t' :=s.toks) kp (az _) (show bx X.prog X.w _ h' _ (.lst ys) from⟨hz,its,c',r',e⟩),rfl,q _ (I.bE.fresh (az _))⟩
 rcases hq with hq|hq
 ·obtain⟨its,r',pl,hz⟩:=I.list hq;have hlen:=r'.length;obtain⟨o,ho,hc,n,hd⟩:=pl.isList;exact call_list_seq p (.inl rfl) ho hc hd (fun h' c' kp e=>fin its r' hz h' c' kp e) (by simp only[bZ]<;>lia)
 ·obtain⟨its,r',pl,hz⟩:=I.tuple hq;have hlen:=r'.length;obtain⟨o,ho,hc,n,hd⟩:=pl;exact call_list_seq p (.inr rfl) ho hc hd (fun h' c' kp e=>fin its r' hz h' c' kp e) (by simp only[bZ]<;>lia)
theorem fM:ee X (.type "tuple") (fun xs H Q=>∃p ys,xs=[.ref p]∧((bw X.K H p ys∧∀l,H l=none→Q (.ref l) (upd H l (.tup ys)))∨(gg X.K H p ys∧Q (.ref p) H))):=by
 intro pins s σ H xs us Q I r h;obtain⟨p,ys,rfl,h⟩:=h;obtain⟨u,rfl,rx⟩:=wS r;cases rx;rcases h with⟨hq,q⟩|⟨hq,q⟩
 ·obtain⟨its,r',pl,hz⟩:=I.list hq;have hlen:=r'.length;refine call_tuple_list pl.isList (fun h' kp=> ?_) (by simp only[bZ]<;>lia);have I1:Inv X pins σ H {s with heap:=h'}:=I.kept (t' :=s.toks) kp
  have I2:Inv X pins σ (upd H h'.objs.size (.tup ys)) {s with heap:=h'.push {cls:= .type "tuple",data:= .seq its.toArray}}:=
   I1.laid (t' :=s.toks) (fun b o e=>bT _ e) (az _) (show bx X.prog X.w _ _ _ (.tup ys) from⟨hz,its,r',IsTup.new _ _⟩)
  exact⟨.ref h'.objs.size,_,I2,rfl,q _ (I1.bE.fresh (az _))⟩
 ·obtain⟨its,r',pl,hz⟩:=I.tuple hq;exact call_tuple_same pl ⟨.ref p,H,I,rfl,q⟩
noncomputable def tyV(K:Frag)(T:String)(x:V)(H:Hp):Prop:=match x with
 | .str _=>T="str"
 | .int _=>T="int"
 | .ref p=>(T="list" ∧∃xs,bw K H p xs)∨(T="tuple" ∧∃o,K.lookup p=some o∧o.cls= .type "tuple" ∧o.dict=none)∨
  (T="dict" ∧((∃kvs,H p=some (.dK kvs))∨∃kvs,H p=some (.dT kvs)))∨(T="set" ∧∃S n,H p=some (.set S n))
 |_=>False
theorem Ki{pins:aZ}{σ:St}{H:Hp}{s:Shared}{T:String}{x:V}{v:Value}(I:Inv X pins σ H s)(r:RelV x v)(ty:tyV X.K T x H):
 s.TypeIs v T∧∀a,v= .ref a→∃ob,s.heap.get? a=some ob∧ob.dict=none:=by
 cases x with
 |str z=>
  obtain⟨t,rfl⟩:=r;cases(show T="str" from ty);exact⟨typeIs_str s z t,fun _ e=>nomatch e⟩
 |int i=>
  obtain⟨t,rfl⟩:=r;cases(show T="int" from ty);exact⟨typeIs_int s i t,fun _ e=>nomatch e⟩
 |ref p=>
  cases r;rcases ty with⟨rfl,xs,hq⟩|⟨rfl,o,hk,hc,hd⟩|⟨rfl,hk⟩|⟨rfl,S,n,hk⟩
  ·obtain⟨its,_,pl,_⟩:=I.list hq;refine⟨pl.isList.typeIs,fun a e=> ?_⟩;cases e;obtain⟨o,n,e,c,hd,_⟩:=pl;exact⟨o,e,hd⟩
  ·refine⟨⟨o,I.uK p o hk,hc⟩,fun a e=> ?_⟩;cases e;exact⟨o,I.uK _ o hk,hd⟩
  ·have z:∃o,s.heap.get? p=some o∧o.ExactDict:=by
    rcases hk with⟨kvs,hk⟩|⟨kvs,hk⟩
    ·obtain⟨_,_,_,_,o,_,_,e,ex,_⟩:=I.bE p _ hk;exact⟨o,e,ex⟩
    ·obtain⟨_,_,_,_,o,_,_,e,ex,_⟩:=I.bE p _ hk;exact⟨o,e,ex⟩
   obtain⟨o,e,ex⟩:=z;refine⟨⟨o,e,ex.1⟩,fun a e2=> ?_⟩;cases e2;exact⟨o,e,ex.2.1⟩
  ·obtain⟨o,_,_,_,e,ex,_⟩:=I.bE p _ hk;refine⟨⟨o,e,ex.1⟩,fun a e2=> ?_⟩;cases e2;exact⟨o,e,ex.2.1⟩
 |_=>exact False.elim ty
noncomputable def aiL(K:Frag)(T:String)(r:V→aA→Hp→VK→Prop)(to:TE):TE:=fun σ H Q=>to σ H fun x H1=>tyV K T x H1∧r x [] H1 Q
noncomputable def tBM(K:Frag)(T:String)(r:V→aA→Hp→VK→Prop)(to:TE)(t:TA):TE:=fun σ H Q=>to σ H fun x H1=>tyV K T x H1∧t σ H1 fun xs H2=>r x xs H2 Q
variable{o e:Expr}{es:cq}{to:TE}{t:TA}{name:Str}{apos f_:Pos}{T id:String}{r:V→aA→Hp→VK→Prop}
theorem l9(pa:PlainAttrs T)(slot:Slot T name id)(hty:typeOf (.builtin id)=pure (.type "method_descriptor"))(hm:Mq X id r)(ho:PE X o to)
 (Lu:attributeBase o name X.env (eval o X.env)=eval o X.env:=by rfl) (Ef:(apos.endLine==f_.line)=true:=by rfl):PE X (.Call (.Attribute o name apos) [] [] f_) (aiL X.K T r to):=by
 intro pins s σ H Q I h;refine wpAny_Call_method0_late Lu Ef (cC (ho pins s σ H _ I h) fun v s1 ⟨x,H1,I1,r1,ty,q1⟩=> ?_);obtain⟨h1,h2⟩:=Ki I1 r1 ty;exact⟨T,id,pa,slot,hty,h1,h2,uc rfl (PySem.evalArgs_none (hm pins s1 σ H1 x [] v [] Q I1 r1 .nil q1))⟩
theorem gu(pa:PlainAttrs T)(slot:Slot T name id)(hty:typeOf (.builtin id)=pure (.type "method_descriptor"))(hm:Mq X id r)(ho:PE X o to)(ha:PA X (e::es) t)
 (Lu:attributeBase o name X.env (eval o X.env)=eval o X.env:=by rfl)
 (afK:((backTo f_ (starEach (e::es) X.env)).all (fun x=> !x.1)&&(backToKw f_ (keywordEach [] X.env)).all (fun x=>x.1.isSome)
  &&decide ((e::es).length+([]:List Keyword).length+(if([]:List Keyword).isEmpty then 0 else 1)<30))=true:=by rfl)
 (Ef:(apos.endLine==f_.line)=true:=by rfl) (hs:starEach (e::es) X.env=(false,eval e X.env)::starEach es X.env:=by rfl) (U3:(backTo f_ (starEach es X.env)).any (·.1)=false:=by rfl):
 PE X (.Call (.Attribute o name apos) (e::es) [] f_) (tBM X.K T r to t):=by
 intro pins s σ H Q I h;refine wpAny_Call_method_late Lu afK Ef rfl (cC (ho pins s σ H _ I h) fun v s1 ⟨x,H1,I1,r1,ty,q1⟩=> ?_);obtain⟨h1,h2⟩:=Ki I1 r1 ty;refine⟨T,id,pa,slot,hty,h1,h2,?_⟩;have hA:=ha f_ pins s1 σ H1 _ I1 q1;rw[hs] at hA ⊢;refine uc (by show(false||(backTo f_ (starEach es X.env)).any (·.1))=false;rw[U3]<;>rfl) (xx ?_);exact cC hA fun us s2 ⟨vs,H2,I2,r2,q2⟩=>hm pins s2 σ H2 x vs v us Q I2 r1 r2 q2
end
noncomputable def MtM(X:Cx)(id:String)(r:V→aA→Hp→VK→Prop):Prop:=
 ∀(pins:aZ) (s:Shared) (σ:St) (H:Hp) (x:V) (xs:aA) (v:Value) (us:aP) (Q:VK),Inv X pins σ H s→RelV x v→Vals xs us→r x xs H Q→
  wpAny (model X.prog X.w) X.A (call (.builtin id) (v::us)) (EP X pins σ Q) X.xe s
theorem Vals.one:∀{x:V} {us:aP},Vals [x] us→∃u,us=[u]∧RelV x u
 |_,_,.cons r .nil=>⟨_,rfl,r⟩
theorem Vals.two:∀{x y:V} {us:aP},Vals [x,y] us→∃u v,us=[u,v]∧RelV x u∧RelV y v
 |_,_,_,.cons r (.cons q .nil)=>⟨_,_,rfl,r,q⟩
theorem Vals.zero:∀{us:aP},Vals [] us→us=[]
 |_,.nil=>rfl
theorem Vals.eraseIdx:∀{xs:aA} {us:aP} (i:Nat),Vals xs us→Vals (xs.eraseIdx i) (us.eraseIdx i)
 |_,_,_,.nil=> .nil
 |_,_,0,.cons _ t=>t
 |_,_,i+1,.cons r t=> .cons r (Vals.eraseIdx i t)
theorem Vals.reverse{xs:aA}{us:aP}(h:Vals xs us):Vals xs.reverse us.reverse:=by
 induction h with
 |nil=>exact .nil
 |cons r t ih=>rw[List.reverse_cons,List.reverse_cons];exact Vals.append ih (.cons r .nil)
theorem Vals.rep{xs:aA}{us:aP}(h:Vals xs us):∀k:Nat,Vals (List.replicate k xs).flatten (List.replicate k us).flatten
 |0=> .nil
 |k+1=>by
  rw[pO,pO,se,se];exact Vals.append h (Vals.rep h k)
theorem jae(its:aP):∀(k:Nat) (acc:aP),
 List.foldl (fun x1 x2=>x1++x2) acc.toArray (List.replicate k its.toArray)=(acc++(List.replicate k its).flatten).toArray
 |0,acc=>by simp
 |k+1,acc=>by
  have e:acc.toArray++its.toArray=(acc++its).toArray:=by simp
  have e2:(acc++its)++(List.replicate k its).flatten=acc++(List.replicate (k+1) its).flatten:=by
   rw[pO,se,fB]
  rw[←e2,←jae its k (acc++its),←e,pO,List.foldl_cons]
section
variable{X:Cx}{pins:aZ}{σ:St}{H:Hp}{s:Shared}{l b:Addr}{xs ys zs:aA}
theorem Inv.abF{its its' :aP}{n:Nat}{f:Array Value→Array Value}{t' :Nat}(I:Inv X pins σ H s)(hH:H l=some (.lst xs))
 (e:s.heap.get? l=some {cls:= .type "list",data:= .seq its.toArray n}) (hf:f its.toArray=its'.toArray) (hv:Vals ys its') (hz:ys.length≤sizeLine):
 Inv X pins σ (upd H l (.lst ys)) {s with heap:=s.heap.update l (Obj.mapSeq f),toks:=t'}:=by
 have q:=PySem.IsL.update e f;rw[hf] at q;refine I.write (x:=l) (e:=l) (by rw[hH];exact trivial) (.inl rfl) (fun b' u hb hu=>(qX s.heap (Obj.mapSeq f) (dt hb)).trans hu) ⟨_,q⟩ ?_;exact⟨hz,its',_,hv,q⟩
theorem Inv.Tb{its:aP}{t' :Nat}(I:Inv X pins σ H s)(hv:Vals ys its)(hz:ys.length≤sizeLine):
 Inv X pins σ (upd H s.heap.objs.size (.lst ys)) {s with heap:=s.heap.push {cls:= .type "list",data:= .seq its.toArray},toks:=t'}:=
 I.laid (fun _ _ q=>bT _ q) (az _) ⟨hz,its,0,hv,bI _ rfl⟩
theorem Inv.fresh(I:Inv X pins σ H s):H s.heap.objs.size=none:=I.bE.fresh (az _)
theorem Inv.E6(I:Inv X pins σ H s)(hH:H l=some (.lst xs)):xs.length≤sizeLine∧∃(its:aP) (n:Nat),Vals xs its∧xs.length=its.length∧s.heap.get? l=some {cls:= .type "list",data:= .seq its.toArray n}:=by
 obtain⟨z,its,n,r,e⟩:=I.bE l _ hH;exact⟨z,its,n,r,r.length,e⟩
theorem Ei{n:Nat}(h:n≤sizeLine):Builtin.List.listTooLong n=false:=by
 unfold Builtin.List.listTooLong;exact eZ (by lia)
end
section
variable{X:Cx}
noncomputable def N0:V→aA→Hp→VK→Prop:=fun x vs H Q=>∃l xs y,x= .ref l∧vs=[y]∧H l=some (.lst xs)∧xs.length<sizeLine∧Q .bK (upd H l (.lst (xs++[y])))
theorem cJ:MtM X "list.append" N0:=by
 intro pins s σ H x vs v us Q I rx rv h;obtain⟨l,xs,y,rfl,rfl,hH,hz,q⟩:=h;cases rx;obtain⟨u,rfl,ru⟩:=rv.one;obtain⟨z,its,n,r,hl,e⟩:=I.E6 hH;refine tH F.slot_list_append ⟨_,e,rfl⟩ F.entry_list_append (F.args_list_append_2 _ _) (PySem.list_append l its.toArray n u (by rw[bZ];lia)) ⟨e,?_⟩;refine⟨.bK,_,I.abF (its' :=its++[u]) hH e (by simp) (r.append (.cons ru .nil)) ?_,rfl,q⟩;rw[bj,BL]
 lia
noncomputable def Nx:V→aA→Hp→VK→Prop:=fun x vs H Q=>∃l b xs zs,x= .ref l∧vs=[.ref b]∧H l=some (.lst xs)∧H b=some (.lst zs)∧xs.length+zs.length≤sizeLine∧Q .bK (upd H l (.lst (xs++zs)))
theorem vz:MtM X "list.extend" Nx:=by
 intro pins s σ H x vs v us Q I rx rv h;obtain⟨l,b,xs,zs,rfl,rfl,hH,hB,hz,q⟩:=h;cases rx;obtain⟨u,rfl,ru⟩:=rv.one;cases ru;obtain⟨z,its,n,r,hl,e⟩:=I.E6 hH;obtain⟨z2,tq,n2,r2,u_,e2⟩:=I.E6 hB;have hsz:its.toArray.size+tq.toArray.size≤sizeLine:=by rw[bZ,bZ];lia
 have Jw:¬(!its.toArray.isEmpty&&Builtin.List.listTooLong (its.toArray.size+tq.toArray.size))=true:=by
  rw[Ei hsz,Bool.and_false];exact b7
 refine tH xi ⟨_,e,rfl⟩ F.entry_list_extend (F.args_list_extend_2 _ _)
  (AutoSeq1.list_extend_list_list_0 l its.toArray n b tq.toArray n2 Jw (by rw[bZ];lia) (by lia)) ⟨e,e2,?_⟩
 refine⟨.bK,_,I.abF (its' :=its++tq) hH e (by simp) (r.append r2) ?_,rfl,q⟩;rw[bj]
 lia
noncomputable def aif:R2:=fun x y H Q=>∃l b xs zs,x= .ref l∧y= .ref b∧H l=some (.lst xs)∧H b=some (.lst zs)∧xs.length+zs.length≤sizeLine∧∀p,H p=none→Q (.ref p) (upd H p (.lst (xs++zs)))
theorem Kg:kW X (binaryOp .Add) aif:=by
 intro pins s σ H x y v u Q I rx ry h;obtain⟨l,b,xs,zs,rfl,rfl,hH,hB,hz,q⟩:=h;cases rx;cases ry;obtain⟨z,its,n,r,hl,e⟩:=I.E6 hH;obtain⟨z2,tq,n2,r2,u_,e2⟩:=I.E6 hB;refine PySem.P.add_list e e2 ?_ (by rw[bZ,bZ];lia);have ea:its.toArray++tq.toArray=(its++tq).toArray:=by simp
 rw[ea];exact⟨.ref _,_,I.Tb (t' :=s.toks) (r.append r2) (by rw[bj];lia),rfl,q _ I.fresh⟩
noncomputable def ag1:R2:=fun x y H Q=>∃l k xs,x= .ref l∧y= .int k∧H l=some (.lst xs)∧ -(2 ^ 63)≤k∧k<2 ^ 63∧xs.length*k.toNat≤sizeLine∧
 ∀p,H p=none→Q (.ref p) (upd H p (.lst (List.replicate k.toNat xs).flatten))
theorem jam{α:Type}(xs:List α)(k:Nat):(List.replicate k xs).flatten.length=k*xs.length:=by
 induction k with
 |zero=>simp
 |succ k ih=>rw[pO,se,bj,ih,rj,Nat.add_comm]
theorem LF:kW X (binaryOp .Mult) ag1:=by
 intro pins s σ H x y v u Q I rx ry h;obtain⟨l,k,xs,rfl,rfl,hH,h1,h2,hz,q⟩:=h;cases rx;obtain⟨t,rfl⟩:=ry;obtain⟨z,its,n,r,hl,e⟩:=I.E6 hH;have hlen:its.toArray.size*k.toNat≤sizeLine:=by rw[bZ,←hl];exact hz
 have agx:¬its.toArray.size*k.toNat>(2 ^ 63 - 1) / 8:=by
  have:(sizeLine:Nat)≤(2 ^ 63 - 1) / 8:=by decide
  lia
 have aiu:¬(!Builtin.List.listFitsIndex k)=true:=by
  rw[fitsIndex_both h1 h2];exact b7
 have Jw:¬Builtin.List.listTooLong (its.toArray.size*k.toNat)=true:=by
  rw[Ei hlen];exact b7
 have JH:List.foldl (fun x1 x2=>x1++x2) #[] (List.replicate (if its.toArray.isEmpty=true then 0 else k.toNat) its.toArray)=(List.replicate k.toNat its).flatten.toArray:=by
  have f0:∀m:Nat,List.foldl (fun x1 x2=>x1++x2) #[] (List.replicate m its.toArray)=(List.replicate m its).flatten.toArray:=fun m=>by
   have:=jae its m [];rw[List.nil_append] at this;exact this
  rw[f0]
  cases its with
  |nil=>simp
  |cons a r' =>rw[au (by simp)]
 refine wpAny_binaryOp_repeat_ref (T:="list") (U:="int") (by decide) ⟨_,e,rfl⟩ (fun s' =>typeIs_int s' k t) noFill_list_mul F.fills_int_mul F.slot_int_rmul repeat_list F.slot_int_index.lookup
  (tH F.slot_int_rmul (typeIs_int s k t) F.entry_int_rmul (F.args_int_rmul_2 _ _) (int___rmul___int_list k t l its.toArray n)
   ⟨e,rfl,⟨_,e,rfl⟩,tH F.slot_list_mul ⟨_,e,rfl⟩ F.entry_list_mul (F.args_list_mul_2 _ _) (AutoListH.list___mul___list_int_3 l its.toArray n k t aiu agx Jw) ⟨e,?_⟩⟩)
 rw[JH];exact⟨.ref _,_,I.Tb (t' :=s.toks) (r.rep k.toNat) (by rw[jam,Nat.mul_comm];exact hz),rfl,q _ I.fresh⟩
end
section
variable{prog:Program}{w:World}{A:Around}{E:Value→Shared→Prop}{s:Shared}
set_option maxRecDepth 100000 in
end
section
variable{X:Cx}
end
section
variable{κ:Type}[DecidableEq κ]
noncomputable def bR(kvs:List (κ×V))(k:κ):Option V:=(kvs.find? fun kv=>decide (kv.1=k)).map (·.2)
noncomputable def wv(kvs:List (κ×V))(k:κ)(v:V):List (κ×V):=
 if(kvs.any fun kv=>decide (kv.1=k))=true then kvs.map (fun kv=>if kv.1=k then(kv.1,v) else kv) else kvs++[(k,v)]
noncomputable def RO(kvs:List (κ×V))(k:κ):List (κ×V):=kvs.filter fun kv=>decide (kv.1≠k)
theorem cZ{p:κ×V}{r:List (κ×V)}{k:κ}(e:p.1=k):bR (p::r) k=some p.2:=by simp[bR,pV,e]
theorem cL{p:κ×V}{r:List (κ×V)}{k:κ}(e:¬p.1=k):bR (p::r) k=bR r k:=by simp[bR,pV,e]
theorem kZ(k:κ):∀kvs:List (κ×V),(kvs.any fun kv=>decide (kv.1=k))=(bR kvs k).isSome
 |[]=>rfl
 |p::r=>by
  rw[uC];by_cases e:p.1=k
  ·simp only[cZ e,bu e,Bool.true_or,Option.isSome_some]
  ·rw[cL e,eZ e,Bool.false_or];exact kZ k r
theorem DV(k j:κ)(y:V):∀kvs:List (κ×V),bR (kvs.map fun kv=>if kv.1=k then(kv.1,y) else kv) j=(bR kvs j).map fun x=>if j=k then y else x
 |[]=>rfl
 |p::r=>by
  have ih:=DV k j y r;rw[cy];by_cases h:p.1=k
  ·rw[aC h];by_cases e:p.1=j
   ·rw[cZ (p:=(p.1,y)) e,cZ e,xc,aC (e.symm.trans h)]
   ·rw[cL (p:=(p.1,y)) e,cL e,ih]
  ·rw[au h];by_cases e:p.1=j
   ·rw[cZ (p:=p) e,cZ e,xc,au (fun z=>h (e.trans z))]
   ·rw[cL (p:=p) e,cL e,ih]
theorem AR(k j:κ)(y:V):∀kvs:List (κ×V),bR kvs k=none→bR (kvs++[(k,y)]) j=if j=k then some y else bR kvs j
 |[],_=>by
  by_cases e:k=j
  ·rw[aC e.symm];exact cZ (p:=(k,y)) e
  ·rw[au (fun z=>e z.symm)];exact cL (p:=(k,y)) e
 |p::r,hn=>by
  rw[List.cons_append];have hk:¬p.1=k:=fun z=>by rw[cZ z] at hn;cases hn
  rw[cL hk] at hn;have ih:=AR k j y r hn;by_cases e:p.1=j
  ·rw[cZ e,cZ e,au (fun z=>hk (e.trans z))]
  ·rw[cL e,cL e,ih]
theorem oA(kvs:List (κ×V))(k j:κ)(y:V):bR (wv kvs k y) j=if j=k then some y else bR kvs j:=by
 unfold wv;by_cases a:(kvs.any fun kv=>decide (kv.1=k))=true
 ·rw[aC a,DV];rw[kZ] at a;by_cases e:j=k
  ·obtain⟨x,hx⟩:=Option.isSome_iff_exists.mp a;rw[aC e,e,hx,xc,aC rfl]
  ·rw[au e]
   cases bR kvs j with
   |none=>rfl
   |some x=>rw[xc,au e]
 ·rw[au a];refine AR k j y kvs ?_;rw[kZ] at a
  cases q:bR kvs k with
  |none=>rfl
  |some x=>rw[q] at a;exact(a rfl).elim
theorem d_(kvs:List (κ×V))(k:κ)(v:V):(wv kvs k v).length≤kvs.length+1:=by
 unfold wv
 split
 ·rw[aN];lia
 ·rw[bj,cf,pj];lia
theorem ji{kvs:List (κ×V)}{k:κ}(v:V)(h:bR kvs k=none):wv kvs k v=kvs++[(k,v)]:=by
 unfold wv;rw[kZ,h];exact au (by decide)
theorem nq.lH{o:Option V}{u:aQ}(r:nq o u):o.isSome=u.isSome:=by
 cases o with
 |none=>cases u with
  |none=>rfl
  |some _=>exact(show False from r).elim
 |some _=>cases u with
  |none=>exact(show False from r).elim
  |some _=>rfl
theorem nq.getD{o:Option V}{u:aQ}{d:V}{d' :Value}(r:nq o u)(rd:RelV d d'):RelV (o.getD d) (u.getD d'):=by
 cases o with
 |none=>cases u with
  |none=>exact rd
  |some _=>exact(show False from r).elim
 |some _=>cases u with
  |none=>exact(show False from r).elim
  |some _=>exact r
theorem KV.val{kvs:List (κ×V)}{vs:List (κ×Value)}(r:KV kvs vs)(k:κ):nq (bR kvs k) (valueAt vs k):=by
 unfold KV at r
 induction r with
 |nil=>exact True.intro
 | @cons p q ps qs h t ih=>
  obtain⟨h1,h2⟩:=h;by_cases e:p.1=k
  ·have e' :q.1=k:=h1.symm.trans e;have b:valueAt (q::qs) k=some q.2:=by simp[valueAt,pV,e']
   rw[cZ e,b];exact h2
  ·have e' :¬q.1=k:=fun z=>e (h1.trans z);have b:valueAt (q::qs) k=valueAt qs k:=by simp[valueAt,pV,e']
   rw[cL e,b];exact ih
theorem KV.any{kvs:List (κ×V)}{vs:List (κ×Value)}(r:KV kvs vs)(k:κ):(kvs.any fun kv=>decide (kv.1=k))=vs.any fun kv=>decide (kv.1=k):=by
 unfold KV at r
 induction r with
 |nil=>rfl
 |cons h t ih=>rw[uC,uC,ih,h.1]
theorem KV.VJ{kvs:List (κ×V)}{vs:List (κ×Value)}(r:KV kvs vs)(k:κ){y:V}{u:Value}(ry:RelV y u):
 KV (kvs.map fun kv=>if kv.1=k then(kv.1,y) else kv) (vs.map fun kv=>if kv.1=k then(kv.1,u) else kv):=by
 unfold KV at r ⊢
 induction r with
 |nil=>exact .nil
 | @cons p q ps qs h t ih=>
  rw[cy,cy];refine .cons ?_ ih;obtain⟨h1,h2⟩:=h;by_cases e:p.1=k
  ·rw[aC e,aC (h1.symm.trans e)];exact⟨h1,ry⟩
  ·rw[au e,au (fun z=>e (h1.trans z))];exact⟨h1,h2⟩
theorem KV.put{kvs:List (κ×V)}{vs:List (κ×Value)}(r:KV kvs vs)(k:κ){y:V}{u:Value}(ry:RelV y u):KV (wv kvs k y) (stored vs k u):=by
 unfold wv stored;rw[r.any k];by_cases e:(vs.any fun kv=>decide (kv.1=k))=true
 ·rw[aC e,aC e];exact r.VJ k ry
 ·rw[au e,au e];exact Paired.snoc r ⟨rfl,ry⟩
theorem KV.drop{kvs:List (κ×V)}{vs:List (κ×Value)}(r:KV kvs vs)(k:κ):KV (RO kvs k) (without vs k):=by
 unfold KV at r ⊢;unfold RO without
 induction r with
 |nil=>exact .nil
 | @cons p q ps qs h t ih=>
  obtain⟨h1,h2⟩:=h;rw[fE,fE];by_cases e:p.1=k
  ·have a:¬decide (p.1≠k)=true:=by simp[e]
   have b:¬decide (q.1≠k)=true:=by simp[h1.symm.trans e]
   rw[au a,au b];exact ih
  ·have e' :¬q.1=k:=fun z=>e (h1.trans z);have a:decide (p.1≠k)=true:=by simp[e]
   have b:decide (q.1≠k)=true:=by simp[e']
   rw[aC a,aC b];exact .cons ⟨h1,h2⟩ ih
theorem KV.keys{kvs:List (κ×V)}{vs:List (κ×Value)}(r:KV kvs vs):kvs.map (·.1)=vs.map (·.1):=by
 unfold KV at r
 induction r with
 |nil=>rfl
 |cons h t ih=>rw[cy,cy,ih,h.1]
theorem KV.length{kvs:List (κ×V)}{vs:List (κ×Value)}(r:KV kvs vs):kvs.length=vs.length:=Paired.length r
end
theorem tW{P:Program}{w:World}{k:ww}{u:Value}(r:RelV (kV k) u):(bL P w).is k u=true:=by
 cases k with
 |inl i=>obtain⟨t,e⟩:=(show ∃t,u=Value.int i t from r);subst e;exact De P w i t
 |inr x=>obtain⟨t,e⟩:=(show ∃t,u=Value.str x t from r);subst e;exact D7 P w x t
theorem BC{P:Program}{w:World}:∀{ks:List ww} {us:aP},Vals (ks.map kV) us→ItemsAre (bL P w) ks us
 |[],_,r=>by rw[uH] at r;cases r;exact .nil
 |k::ks,_,r=>by
  rw[cy] at r
  cases r with
  |cons h t=>exact .cons (tW h) (BC t)
noncomputable abbrev KT(H:Hp):dw→List (List ww×Addr×Value)→Prop:=Paired fun p q=>p.1=q.1∧H q.2.1=some (.tup (p.1.map kV))∧RelV p.2 q.2.2
theorem KT.val{H:Hp}{kvs:dw}{xs:List (List ww×Addr×Value)}(r:KT H kvs xs)(k:List ww):nq (bR kvs k) ((atKey xs k).map (·.2)):=by
 induction r with
 |nil=>exact True.intro
 | @cons p q ps qs h t ih=>
  obtain⟨h1,_,h2⟩:=h;by_cases e:p.1=k
  ·have e' :q.1=k:=h1.symm.trans e;have b:atKey (q::qs) k=some q.2:=by simp[atKey,pV,e']
   rw[cZ e,b];exact h2
  ·have e' :¬q.1=k:=fun z=>e (h1.trans z);have b:atKey (q::qs) k=atKey qs k:=by simp[atKey,pV,e']
   rw[cL e,b];exact ih
theorem KT.VJ{H:Hp}{kvs:dw}{xs:List (List ww×Addr×Value)}(r:KT H kvs xs)(k:List ww){y:V}{u:Value}(ry:RelV y u):
 KT H (kvs.map fun kv=>if kv.1=k then(kv.1,y) else kv) (xs.map (putAt k u)):=by
 induction r with
 |nil=>exact .nil
 | @cons p q ps qs h t ih=>
  rw[cy,cy];refine .cons ?_ ih;obtain⟨h1,h2,h3⟩:=h;unfold putAt;by_cases e:p.1=k
  ·rw[aC e,aC (h1.symm.trans e)];exact⟨h1,h2,ry⟩
  ·rw[au e,au (fun z=>e (h1.trans z))];exact⟨h1,h2,h3⟩
theorem KT.put{H:Hp}{kvs:dw}{xs:List (List ww×Addr×Value)}(r:KT H kvs xs)(k:List ww){b:Addr}{y:V}{u:Value}(hb:H b=some (.tup (k.map kV)))(ry:RelV y u):
 KT H (wv kvs k y) (storedH xs k b u):=by
 have e:(kvs.any fun kv=>decide (kv.1=k))=(atKey xs k).isSome:=by
  rw[kZ,(r.val k).lH,Ck]
 unfold wv storedH;rw[e];by_cases q:(atKey xs k).isSome=true
 ·rw[aC q,aC q];exact r.VJ k ry
 ·rw[au q,au q];exact Paired.snoc r ⟨rfl,hb,ry⟩
theorem KT.keeps{H H' :Hp}{kvs:dw}{xs:List (List ww×Addr×Value)}(r:KT H kvs xs)(ht:∀b ys,H b=some (.tup ys)→H' b=some (.tup ys)):KT H' kvs xs:=
 Paired.UJ r fun _ _ z=>⟨z.1,ht _ _ z.2.1,z.2.2⟩
section
variable{P:Program}{w:World}{H:Hp}{h:Heap}{a:Addr}
theorem Rp{u:HO}(ok:qd P w H h)(e:Rd H a u):bx P w H h a u:=e.ok ok
theorem yD{kvs:bQ}(ok:qd P w H h)(e:Rd H a (.dK kvs)):kvs.length≤sizeLine∧(a==sysModules)=false∧∃vs,KV kvs vs∧h.DictOf (bL P w) a vs:=
 show bx P w H h a (.dK kvs) from Rp ok e
theorem wj{kvs:bQ}(ok:qd P w H h)(e:H a=some (.dK kvs)):kvs.length≤sizeLine∧(a==sysModules)=false∧∃vs,KV kvs vs∧h.DictOf (bL P w) a vs:=yD ok (.inl e)
theorem oz{ks:List ww}(ok:qd P w H h)(e:H a=some (.tup (ks.map kV))):(tupleKind (bL P w)).is h ks a:=by
 obtain⟨_,its,r,o,h1,h2,n,h3⟩:=(show bx P w H h a (.tup (ks.map kV)) from ok a _ e);exact⟨o,its.toArray,n,h1,h2,h3,by simpa using BC r⟩
theorem yW{kvs:dw}(ok:qd P w H h)(e:Rd H a (.dT kvs)):kvs.length≤sizeLine∧(a==sysModules)=false∧
 ∃xs,KT H kvs xs∧h.DictOfH (tupleKind (bL P w)) a xs:=by
 obtain⟨z,y,xs,r,o,es,ep,h1,h2,h3,h4,h5⟩:=(show bx P w H h a (.dT kvs) from Rp ok e);refine⟨z,y,xs,r,o,es,ep,h1,h2,h3,h4,fun x hx=> ?_,h5⟩
 have all:∀{l:dw} {m:List (List ww×Addr×Value)},KT H l m→∀x∈m,(tupleKind (bL P w)).is h x.1 x.2.1:=by
  intro l m q
  induction q with
  |nil=>intro x hx;exact nomatch hx
  | @cons p q ps qs hq t ih=>
   intro x hx;rcases bq.mp hx with e|hx
   ·subst e;exact oz ok (by rw[←hq.1];exact hq.2.1)
   ·exact ih x hx
 exact all r x hx
theorem Mn{kvs:dw}(ok:qd P w H h)(e:H a=some (.dT kvs)):kvs.length≤sizeLine∧(a==sysModules)=false∧
 ∃xs,KT H kvs xs∧h.DictOfH (tupleKind (bL P w)) a xs:=yW ok (.inl e)
end
noncomputable def dq(H:Hp)(a:Addr)(y:V)(r:Option V):Prop:=
 (∃kvs k,Rd H a (.dK kvs)∧y=kV k∧r=bR kvs k)∨∃kvs k b,Rd H a (.dT kvs)∧y= .ref b∧H b=some (.tup (k.map kV))∧r=bR kvs k
noncomputable def u6(H:Hp)(a:Addr)(y v:V)(H' :Hp):Prop:=
 (∃kvs k,H a=some (.dK kvs)∧y=kV k∧kvs.length<sizeLine∧H' =upd H a (.dK (wv kvs k v)))∨
 ∃kvs k b,H a=some (.dT kvs)∧y= .ref b∧H b=some (.tup (k.map kV))∧kvs.length<sizeLine∧H' =upd H a (.dT (wv kvs k v))
theorem dq.k{H:Hp}{a:Addr}{kvs:bQ}{k:ww}(e:H a=some (.dK kvs)):dq H a (kV k) (bR kvs k):= .inl ⟨kvs,k,.inl e,rfl,rfl⟩
theorem dq.t{H:Hp}{a b:Addr}{kvs:dw}{k:List ww}(e:H a=some (.dT kvs))(eb:H b=some (.tup (k.map kV))):dq H a (.ref b) (bR kvs k):= .inr ⟨kvs,k,b,.inl e,rfl,eb,rfl⟩
theorem u6.k{H:Hp}{a:Addr}{kvs:bQ}{k:ww}{v:V}(e:H a=some (.dK kvs))(hl:kvs.length<sizeLine):u6 H a (kV k) v (upd H a (.dK (wv kvs k v))):= .inl ⟨kvs,k,e,rfl,hl,rfl⟩
theorem u6.t{H:Hp}{a b:Addr}{kvs:dw}{k:List ww}{v:V}(e:H a=some (.dT kvs))(eb:H b=some (.tup (k.map kV)))(hl:kvs.length<sizeLine):
 u6 H a (.ref b) v (upd H a (.dT (wv kvs k v))):= .inr ⟨kvs,k,b,e,rfl,eb,hl,rfl⟩
section
variable{X:Cx}{pins:aZ}{σ:St}{H:Hp}{s:Shared}{a:Addr}{y v:V}{u r:Value}{o:Option V}{A:Around}{E:Value→Shared→Prop}
theorem Inv.big(I:Inv X pins σ H s):sysModules<s.heap.objs.size:=by
 have h:mainGlobals<s.heap.objs.size:=(I.mod.glob.keeps I.bk).lt;exact lS (by decide) h
theorem Hs{Q:Value→Shared→Prop}(hu:A.units+1<cLine)(I:Inv X pins σ H s)(g:dq H a y (some v))(ry:RelV y u)(h:∀w' s',Inv X pins σ H s'→RelV v w'→Q w' s'):
 wpAny (model X.prog X.w) A (getItem (.ref a) u) Q E s:=by
 rcases g with⟨kvs,k,e,ey,l⟩|⟨kvs,k,b,e,ey,eb,l⟩
 ·subst ey;obtain⟨z,hd,vs,rel,dd⟩:=yD I.bE e;obtain⟨w',hw,Fw⟩:=nq.some_of (v:=v) (o:=valueAt vs k) (by rw[l];exact rel.val k);exact wpAny_getItem_of (tW ry) dd.mapOf hw (h w' _ (I.tok _) Fw)
 ·subst ey;cases(show u=Value.ref b from ry);obtain⟨z,hd,xs,rel,dd⟩:=yW I.bE e;obtain⟨w',hw,Fw⟩:=nq.some_of (v:=v) (o:=(atKey xs k).map (·.2)) (by rw[l];exact rel.val k);obtain⟨p,hp,DE⟩:=Option.map_eq_some_iff.mp hw;refine wpAny_getItem_heap (qH hu) (oz I.bE eb) dd hp ?_;rw[DE];exact h w' _ (I.tok _) Fw
theorem afh{Q:Value→Shared→Prop}(hu:A.units+1<cLine)(I:Inv X pins σ H s)(g:dq H a y o)(ry:RelV y u)(h:∀s',Inv X pins σ H s'→Q (.bool o.isSome) s'):
 wpAny (model X.prog X.w) A (compareOp .In u (.ref a)) Q E s:=by
 rcases g with⟨kvs,k,e,ey,l⟩|⟨kvs,k,b,e,ey,eb,l⟩
 ·subst ey;obtain⟨z,hd,vs,rel,dd⟩:=yD I.bE e;refine wpAny_in_of (tW ry) hd dd.mapOf ?_;rw[←(rel.val k).lH,←l];exact h _ (I.tok _)
 ·subst ey;cases(show u=Value.ref b from ry);obtain⟨z,hd,xs,rel,dd⟩:=yW I.bE e;refine wpAny_in_heap (qH hu) (oz I.bE eb) hd dd ?_;have q:=(rel.val k).lH;rw[Ck] at q;rw[←q,←l];exact h _ (I.tok _)
theorem Pe{Q:Value→Shared→Prop}(hu:A.units+1<cLine)(I:Inv X pins σ H s)(g:dq H a y o)(ry:RelV y u)(h:∀s',Inv X pins σ H s'→Q (.bool (!o.isSome)) s'):
 wpAny (model X.prog X.w) A (compareOp .NotIn u (.ref a)) Q E s:=by
 rcases g with⟨kvs,k,e,ey,l⟩|⟨kvs,k,b,e,ey,eb,l⟩
 ·subst ey;obtain⟨z,hd,vs,rel,dd⟩:=yD I.bE e;refine wpAny_notIn_of (tW ry) hd dd.mapOf ?_;rw[←(rel.val k).lH,←l];exact h _ (I.tok _)
 ·subst ey;cases(show u=Value.ref b from ry);obtain⟨z,hd,xs,rel,dd⟩:=yW I.bE e;refine wpAny_notIn_heap (qH hu) (oz I.bE eb) hd dd ?_;have q:=(rel.val k).lH;rw[Ck] at q;rw[←q,←l];exact h _ (I.tok _)
theorem mJ{h' :Heap}{t' :Nat}{ob:HO}(I:Inv X pins σ H s)(mu:Zc (H a))(hs:Heap.SameBut a s.heap h')(he:∃q,h'.get? a=some q)(new:bx X.prog X.w (upd H a ob) h' a ob):
 Inv X pins σ (upd H a ob) {s with heap:=h',toks:=t'}:=
 I.write (x:=a) (e:=a) mu (.inl rfl) (fun b q hb z=>(hs.2 b hb).trans z) he new
theorem zM{P:Program}{w:World}{H' :Hp}{h' :Heap}{kvs:bQ}{vs:List (ww×Value)}(z:kvs.length≤sizeLine)(hd:(a==sysModules)=false)(rel:KV kvs vs)(dd:h'.DictOf (bL P w) a vs):
 bx P w H' h' a (.dK kvs):=⟨z,hd,vs,rel,dd⟩
theorem IB{H' :Hp}{Q:Unit→Shared→Prop}(hu:A.units+1<cLine)(I:Inv X pins σ H s)(g:u6 H a y v H')(ry:RelV y u)(rv:RelV v r)(h:∀s',Inv X pins σ H' s'→Q () s'):
 wpAny (model X.prog X.w) A (setItem (.ref a) u r) Q E s:=by
 rcases g with⟨kvs,k,e,ey,l,eH⟩|⟨kvs,k,b,e,ey,eb,l,eH⟩
 ·subst ey eH;obtain⟨z,hd,vs,rel,dd⟩:=wj I.bE e;have hz:vs.length≤sizeLine:=by rw[←rel.length];exact z
  have hl:(wv kvs k v).length≤sizeLine:=by have:=d_ kvs k v;lia
  refine wpAny_setItem_pairs (hsz:=hz) (tW ry) dd fun h' Gr hs=>h _ ?_;have he:∃q,h'.get? a=some q:=let⟨q,_,_,hq,_⟩:=Gr;⟨q,hq⟩
  exact mJ I (by rw[e];exact True.intro) hs he (zM hl hd (rel.put k rv) Gr)
 ·subst ey eH;cases(show u=Value.ref b from ry);obtain⟨z,hd,xs,rel,dd⟩:=Mn I.bE e;have hz:xs.length≤sizeLine:=by rw[←Paired.length rel];exact z
  have hl:(wv kvs k v).length≤sizeLine:=by have:=d_ kvs k v;lia
  refine wpAny_setItem_heap (hsz:=hz) (qH hu) (oz I.bE eb) dd fun h' Gr hs=>h _ ?_;obtain⟨q,es,ep,hq,h2,h3,h4,_,h5⟩:=Gr;refine mJ I (by rw[e];exact True.intro) hs ⟨q,hq⟩ ⟨hl,hd,_,(rel.put k eb rv).keeps fun c ys ec=> ?_,q,es,ep,hq,h2,h3,h4,h5⟩;rw[af (aD ec e (fun z=>nomatch z))];exact ec
end
section
variable{X:Cx}{pins:aZ}{σ:St}{H:Hp}{s:Shared}{a:Addr}{kvs:bQ}{k:ww}{u:Value}{A:Around}{E:Value→Shared→Prop}
end
noncomputable def Ti(i:Expr):Prop:=∀ov iv,subscripted i false ov iv=operate [ov,iv] (getItem ov iv)
theorem MQ{prog:Program}{w:World}{A:Around}{E:Value→Shared→Prop}{s:Shared}{env:Env}{value slice:Expr}{pos:Pos}{T id:String}{Q:Value→Shared→Prop}
 (hl:typeLookup (.type T) "__getitem__"=pure (some (.builtin id))) (hs:Ti slice)
 (h:wpAny (model prog w) A (eval value env) (fun o cD=>wpAny (model prog w) A (eval slice env) (fun i q_=>q_.TypeIs o T∧wpAny (model prog w) A (getItem o i) Q E q_) E cD) E s):
 wpAny (model prog w) A (eval (.Subscript value slice pos) env) Q E s:=by
 refine Subscript_ (fW h (fun o cD yV=>fW yV (fun i q_ Ku=> ?_) fun _ _ x=>x) fun _ _ x=>x);obtain⟨hT,Ku⟩:=Ku;unfold subscriptTail;refine ag ?_;rw[getitemInPython_of_ne hT.not_modules];refine ag (wpAny_specialOf hT hl ?_)
 have fin:wpAny (model prog w) A (subscripted slice false o i) (fun r AL=>wpAny (model prog w) A (letTemporaryGo value o r>>= fun _=>pure r) Q E AL) E q_:=by
  rw[hs o i];exact wpAny_operating (fW Ku (fun r AL OZ=>ag (wpAny_letTemporaryGo (aB OZ))) fun _ _ x=>x)
 first
  |exact aB (ag fin)
  |exact ag (aB (ag fin))
  |exact ag fin
theorem DH{X:Cx}{pins:aZ}{σ:St}{H:Hp}{s:Shared}{a:Addr}{y:V}{o:Option V}(I:Inv X pins σ H s)(g:dq H a y o):s.TypeIs (.ref a) "dict":=by
 rcases g with⟨kvs,k,e,_,_⟩|⟨kvs,k,b,e,_,_,_⟩
 ·obtain⟨_,_,vs,_,dd⟩:=yD I.bE e;exact dd.typeIs
 ·obtain⟨_,_,xs,_,dd⟩:=yW I.bE e;exact dd.typeIs
noncomputable def PN(td ty:TE):TE:=fun σ H Q=>td σ H fun x H1=>ty σ H1 fun y H2=>∃a v,x= .ref a∧dq H2 a y (some v)∧Q v H2
noncomputable def afa(ty td:TE):TE:=fun σ H Q=>ty σ H fun y H1=>td σ H1 fun x H2=>∃a o,x= .ref a∧dq H2 a y o∧Q (.bl o.isSome) H2
noncomputable def NT(ty td:TE):TE:=fun σ H Q=>ty σ H fun y H1=>td σ H1 fun x H2=>∃a o,x= .ref a∧dq H2 a y o∧Q (.bl (!o.isSome)) H2
noncomputable def Yj(td ty tv:TE):TS:=fun D σ H=>tv σ H fun v H1=>td σ H1 fun x H2=>ty σ H2 fun y H3=>∃a H4,x= .ref a∧u6 H3 a y v H4∧D.nx σ H4
section
variable{X:Cx}{o i e value:Expr}{pos pos' afC:Pos}{td ty tv:TE}
theorem OC(hu:X.A.units+1<cLine)(ho:PE X o td)(hi:PE X i ty)(hs:Ti i):PE X (.Subscript o i pos) (PN td ty):=by
 intro pins s σ H Q I h;refine MQ PySem.F.slot_dict_getitem.lookup hs (cC (ho pins s σ H _ I h) fun u s1 ⟨x,H1,I1,rx,q1⟩=>cC (hi pins s1 σ H1 _ I1 q1) fun iv s2 ⟨y,H2,I2,ry,a,v,ex,g,q2⟩=> ?_);subst ex;obtain rfl:u=Value.ref a:=rx;exact⟨DH I2 g,Hs hu I2 g ry fun w' s3 I3 Fw =>⟨v,H2,I3,Fw,q2⟩⟩
theorem U6(hu:X.A.units+1<cLine)(hi:PE X i ty)(ho:PE X o td):PC X .In i o (afa ty td):=by
 intro pins s σ H Q I h;refine cC (hi pins s σ H _ I h) fun iv s1 ⟨y,H1,I1,ry,q1⟩=>cC (ho pins s1 σ H1 _ I1 q1) fun u s2 ⟨x,H2,I2,rx,a,ov,ex,g,q2⟩=> ?_;subst ex;obtain rfl:u=Value.ref a:=rx;exact afh hu I2 g ry fun s3 I3=>⟨.bl ov.isSome,H2,I3,rfl,q2⟩
theorem Bj(hu:X.A.units+1<cLine)(hi:PE X i ty)(ho:PE X o td):PC X .NotIn i o (NT ty td):=by
 intro pins s σ H Q I h;refine cC (hi pins s σ H _ I h) fun iv s1 ⟨y,H1,I1,ry,q1⟩=>cC (ho pins s1 σ H1 _ I1 q1) fun u s2 ⟨x,H2,I2,rx,a,ov,ex,g,q2⟩=> ?_;subst ex;obtain rfl:u=Value.ref a:=rx;exact Pe hu I2 g ry fun s3 I3=>⟨.bl (!ov.isSome),H2,I3,rfl,q2⟩
theorem lW(hu:X.A.units+1<cLine)(ho:PE X o td)(hi:PE X i ty)(hv:PE X value tv)(hs:swapsWith value (some (.Subscript o i pos')) pos.line X.env=pure false):
 PS X (.Assign [.Subscript o i pos'] value pos) (Yj td ty tv):=by
 intro pins s σ H D I h;refine wpAny_Assign_Subscript (cC (hv pins s σ H _ I h) fun r s1 ⟨v,H1,I1,rv,q1⟩=>cC (ho pins s1 σ H1 _ I1 q1) fun u s2 ⟨x,H2,I2,rx,q2⟩=>cC (hi pins s2 σ H2 _ I2 q2) fun iv s3 ⟨y,H3,I3,ry,a,H4,ex,g,q3⟩=> ?_) hs;subst ex;obtain rfl:u=Value.ref a:=rx;exact IB hu I3 g ry rv fun s4 I4=>⟨σ,H4,I4,q3⟩
end
theorem sV{P:Program}{w:World}{H:Hp}(h:Heap)(hb:sysModules<h.objs.size):bx P w H (h.push {cls:= .type "dict",data:= .dict #[]}) h.objs.size (.dK []):=
 ⟨cB _,pI.mpr (dt (bF hb)),[],.nil,Heap.DictOf.new h⟩
theorem Lp{P:Program}{w:World}{H:Hp}(h:Heap)(hb:sysModules<h.objs.size):bx P w H (h.push {cls:= .type "dict",data:= .dict #[]}) h.objs.size (.dT []):=
 ⟨cB _,pI.mpr (dt (bF hb)),[],.nil,_,#[],0,bI _ rfl,⟨rfl,rfl,rfl⟩,rfl,rfl,ik⟩
noncomputable def Tx:TE:=fun _ H Q=>∀p,H p=none→Q (.ref p) (upd H p (.dK []))
noncomputable def Tg:TE:=fun _ H Q=>∀p,H p=none→Q (.ref p) (upd H p (.dT []))
section
variable{X:Cx}{pos:Pos}
theorem nN:PE X (.Dict [] [] pos) Tx:=fun pins s σ H Q I h=>
 wpAny_Dict_empty ⟨.ref s.heap.objs.size,_,I.laid (a:=s.heap.objs.size) (o:= .dK []) (t' :=s.toks) (fun _ _ q=>bT _ q) (az _) (sV s.heap I.big),rfl,h _ (I.bE.fresh (az _))⟩
theorem yl:PE X (.Dict [] [] pos) Tg:=fun pins s σ H Q I h=>
 wpAny_Dict_empty ⟨.ref s.heap.objs.size,_,I.laid (a:=s.heap.objs.size) (o:= .dT []) (t' :=s.toks) (fun _ _ q=>bT _ q) (az _) (Lp s.heap I.big),rfl,h _ (I.bE.fresh (az _))⟩
end
noncomputable def ES:List (TE×TE)→St→Hp→(List (V×V)→Hp→Prop)→Prop
 |[],_,H,Q=>Q [] H
 |(tk,tv)::r,σ,H,Q=>tk σ H fun x H1=>tv σ H1 fun y H2=>ES r σ H2 fun ps H3=>Q ((x,y)::ps) H3
noncomputable abbrev VV:List (V×V)→List (Value×Value)→Prop:=Paired fun p q=>RelV p.1 q.1∧RelV p.2 q.2
noncomputable def Xu(X:Cx)(pos:Pos)(keys:List (Option Expr))(values:cq)(Dj:List (TE×TE)):Prop:=
 ∀(pins:aZ) (s:Shared) (σ:St) (H:Hp) (Q:List (V×V)→Hp→Prop),Inv X pins σ H s→ES Dj σ H Q→
  wpAny (model X.prog X.w) X.A (evalPairs (pairTrees keys values X.env pos)) (fun vs s' =>∃ps H',Inv X pins σ H' s'∧VV ps vs∧Q ps H') X.xe s
theorem Pa{X:Cx}{pos:Pos}:Xu X pos [] [] []:=fun pins s σ H Q I h=>pairTrees_nil_walk ⟨[],H,I,.nil,h⟩
theorem L3{X:Cx}{pos:Pos}{k v:Expr}{ks:List (Option Expr)}{vs:cq}{tk tv:TE}{Dj:List (TE×TE)}(hk:PE X k tk)(hv:PE X v tv)(hr:Xu X pos ks vs Dj):
 Xu X pos (some k::ks) (v::vs) ((tk,tv)::Dj):=fun pins s σ H Q I h=>
 pairTrees_cons_walk (cC (hk pins s σ H _ I h) fun u s1 ⟨x,H1,I1,rx,q1⟩=>cC (hv pins s1 σ H1 _ I1 q1) fun w2 s2 ⟨y,H2,I2,ry,q2⟩=>
  cC (hr pins s2 σ H2 _ I2 q2) fun ws s3 ⟨ps,H3,I3,rel,q3⟩=>⟨(x,y)::ps,H3,I3,.cons ⟨rx,ry⟩ rel,q3⟩)
noncomputable def fX(kvs more:bQ):bQ:=more.foldl (fun acc kv=>wv acc kv.1 kv.2) kvs
theorem KV.merge:∀{more:bQ} {rs:List (ww×Value)} {kvs:bQ} {vs:List (ww×Value)},KV more rs→KV kvs vs→KV (fX kvs more) (merged vs rs):=by
 intro more rs kvs vs r;unfold KV at r
 induction r generalizing kvs vs with
 |nil=>intro q;exact q
 | @cons p q ps qs h t ih=>
  intro r0
  have e:KV (wv kvs p.1 p.2) (stored vs q.1 q.2):=by
   have:=r0.put p.1 h.2;rw[←h.1];exact this
  exact ih e
theorem fI:∀(more kvs:bQ),(fX kvs more).length≤kvs.length+more.length
 |[],kvs=>by show kvs.length≤kvs.length+0;lia
 |p::r,kvs=>by
  have h1:=fI r (wv kvs p.1 p.2);have h2:=d_ kvs p.1 p.2;show(fX (wv kvs p.1 p.2) r).length≤_;rw[cf];lia
theorem yy{P:Program}{w:World}:∀{kvs:bQ} {ws:List (Value×Value)},VV (kvs.map fun kv=>(kV kv.1,kv.2)) ws→∃rs,Carries (bL P w) ws rs∧KV kvs rs
 |[],_,r=>by rw[uH] at r;cases r;exact⟨[],True.intro,.nil⟩
 |p::kvs,_,r=>by
  rw[cy] at r
  cases r with
  | @cons a b as bs h t=>
   obtain⟨rs,c,q⟩:=yy (P:=P) (w:=w) t;obtain⟨b1,b2⟩:=b;exact⟨(p.1,b2)::rs,⟨tW h.1,rfl,c⟩,.cons ⟨rfl,h.2⟩ q⟩
noncomputable def Q0(Dj:List (TE×TE)):TE:=fun σ H Q=>∀p,H p=none→ES Dj σ (upd H p (.dK [])) fun ps H2=>H2 p=some (.dK [])∧∃kvs:bQ,ps=kvs.map (fun kv=>(kV kv.1,kv.2))∧kvs.length≤15∧Q (.ref p) (upd H2 p (.dK (fX [] kvs)))
theorem OD{X:Cx}{pos:Pos}{keys:List (Option Expr)}{values:cq}{Dj:List (TE×TE)}(h:Xu X pos keys values Dj)(CF:keys.all (·.isSome)=true)(hl:keys.length=values.length)(h0:keys≠[])
 (h15:keys.length≤15):PE X (.Dict keys values pos) (Q0 Dj):=by
 intro pins s σ H Q I q;have hn:=I.bE.fresh (az s.heap.objs.size);have I1:=I.laid (a:=s.heap.objs.size) (o:= .dK []) (h' :=s.heap.push {cls:= .type "dict",data:= .dict #[]}) (t' :=s.toks) (fun _ _ q=>bT _ q) (az _) (sV s.heap I.big);refine wpAny_Dict_walk (knd:=bL X.prog X.w) CF hl h0 h15 (cC (h pins _ σ _ _ I1 (q _ hn)) fun ws s2 ⟨ps,H2,I2,rel,e,kvs,ep,lk,q2⟩=> ?_);subst ep;obtain⟨rs,c,rk⟩:=yy (P:=X.prog) (w:=X.w) rel;obtain⟨z,hd,vs0,r0,dd⟩:=wj I2.bE e;cases r0;refine⟨rs,c,dd,fun h' Gr hs=>⟨.ref s.heap.objs.size,_,?_,rfl,q2⟩⟩
 have hz:(fX [] kvs).length≤sizeLine:=by
  have h1:=fI kvs [];rw[pj] at h1;rw[sizeLine_eq];lia
 have he:∃q,h'.get? s.heap.objs.size=some q:=let⟨q,_,_,hq,_⟩:=Gr;⟨q,hq⟩
 exact mJ I2 (by rw[e];exact True.intro) hs he (zM hz hd (rk.merge .nil) Gr)
structure M2(X:Cx)(o:Expr)(m:Str)(apos:Pos)(e f:Expr)(f_:Pos):Prop where
 base:attributeBase o m X.env (eval o X.env)=eval o X.env
 few:((backTo f_ (starEach [e,f] X.env)).all (fun x=> !x.1)&&(backToKw f_ (keywordEach [] X.env)).all (fun x=>x.1.isSome)
  &&decide (([e,f]:cq).length+([]:List Keyword).length+(if([]:List Keyword).isEmpty then 0 else 1)<30))=true
 line:(apos.endLine==f_.line)=true
 trees:backTo f_ (starEach [e,f] X.env)=[(false,eval e X.env),(false,eval f X.env)]
noncomputable def IsD(H:Hp)(a:Addr):Prop:=(∃kvs,Rd H a (.dK kvs))∨∃kvs,Rd H a (.dT kvs)
theorem Ez{X:Cx}{pins:aZ}{σ:St}{H:Hp}{s:Shared}{a:Addr}(I:Inv X pins σ H s)(d:IsD H a):
 s.TypeIs (.ref a) "dict" ∧(∀b,Value.ref a= .ref b→∃ob,s.heap.get? b=some ob∧ob.dict=none)∧(a==sysModules)=false:=by
 rcases d with⟨kvs,e⟩|⟨kvs,e⟩
 ·obtain⟨_,hd,vs,_,dd⟩:=yD I.bE e;refine⟨dd.typeIs,fun b q=> ?_,hd⟩;cases q;obtain⟨ob,_,_,h1,h2,_⟩:=dd;exact⟨ob,h1,h2.2.1⟩
 ·obtain⟨_,hd,xs,_,dd⟩:=yW I.bE e;refine⟨dd.typeIs,fun b q=> ?_,hd⟩;cases q;obtain⟨ob,_,_,h1,h2,_⟩:=dd;exact⟨ob,h1,h2.2.1⟩
section
variable{X:Cx}{pins:aZ}{σ:St}{H:Hp}{s:Shared}{a:Addr}{y d:V}{u r:Value}{o:Option V}{A:Around}{E:Value→Shared→Prop}
theorem Ug{Q:Value→Shared→Prop}(hu:A.units+1<cLine)(I:Inv X pins σ H s)(g:dq H a y o)(ry:RelV y u)(rd:RelV d r)(h:∀w' s',Inv X pins σ H s'→RelV (o.getD d) w'→Q w' s'):
 wpAny (model X.prog X.w) A (call (.builtin "dict.get") [.ref a,u,r]) Q E s:=by
 rcases g with⟨kvs,k,e,ey,l⟩|⟨kvs,k,b,e,ey,eb,l⟩
 ·subst ey;obtain⟨z,hd,vs,rel,dd⟩:=yD I.bE e;refine mf slot_dict_get dd.typeIs entry_dict_get (args_dict_get_3 _ _ _) (meets_dict_get_default (bL X.prog X.w) a (tW ry) hd r) ⟨_,dd.mapOf,h _ _ (I.tok _) ?_⟩;rw[l];exact(rel.val k).getD rd
 ·subst ey;cases(show u=Value.ref b from ry);obtain⟨z,hd,xs,rel,dd⟩:=yW I.bE e;refine mf slot_dict_get dd.typeIs entry_dict_get (args_dict_get_3 _ _ _) (meetsH_dict_get_default (tupleKind (bL X.prog X.w)) a b hd r) ⟨qH hu,k,xs,oz I.bE eb,dd,h _ _ (I.tok _) ?_⟩;rw[l];exact(rel.val k).getD rd
end
noncomputable def Vm(td ty tx:TE):TE:=fun σ H Q=>td σ H fun x H1=>∃a,x= .ref a∧IsD H1 a∧ty σ H1 fun y H2=>tx σ H2 fun z H3=>∃o,dq H3 a y o∧Q (o.getD z) H3
section
variable{X:Cx}{o e f:Expr}{apos f_:Pos}{td ty tx:TE}
theorem sL(hu:X.A.units+1<cLine)(ho:PE X o td)(he:PE X e ty)(hf:PE X f tx)(m:M2 X o "get" apos e f f_):PE X (.Call (.Attribute o "get" apos) [e,f] [] f_) (Vm td ty tx):=by
 intro pins s σ H Q I h;refine wpAny_Call_method m.base m.few m.line h9 slot_dict_get PySem.F.type_dict_get (cC (ho pins s σ H _ I h) fun u s1 ⟨x,H1,I1,rx,a,ex,d,q1⟩=> ?_);subst ex;obtain rfl:u=Value.ref a:=rx;obtain⟨t1,t2,_⟩:=Ez I1 d;refine⟨t1,t2,?_⟩;rw[m.trees]
 refine uc rfl (xx (oW (cC (he pins s1 σ H1 _ I1 q1) fun iv s2 ⟨y,H2,I2,ry,q2⟩=>
  oW (cC (hf pins s2 σ H2 _ I2 q2) fun fv s3 ⟨z,H3,I3,rz,ov,g,q3⟩=>sf ?_))))
 exact Ug hu I3 g ry rz fun w' s4 I4 Fw =>⟨_,H3,I4,Fw,q3⟩
end
section
variable{X:Cx}{pins:aZ}{σ:St}{H:Hp}{s:Shared}{a:Addr}{kvs:bQ}{A:Around}{E:Value→Shared→Prop}
end
section
variable{X:Cx}{pins:aZ}{σ:St}{H:Hp}{s:Shared}{a:Addr}{y:V}{u:Value}{A:Around}{E:Value→Shared→Prop}
end
end L2
namespace Att
open PySem PySem.W PySem.Calls PyProof.Rows
theorem wV{P:Params}{h:Heap}:∀(ns:List Int) (vs:aP),WellAll P h vs (ns.map WData.int)→IntsAre vs ns:=by
 intro ns
 induction ns with
 |nil=>
  intro vs w;rw[uH] at w;cases w;exact .nil
 |cons n ns ih=>
  intro vs w;rw[cy] at w
  cases w with
  |cons a b=>
   cases a;exact .cons _ _ (ih _ b)
theorem Ih{l:OpenLaw}{n:Nat}(hn:l.most=some n){P:Params}{h:Heap}{args:List WData}{vals:aP}
 (Ox:l.row.toRowW.claim.pre args=true) (QC:WellAll P h vals args):
 ∃a vs ns,vals=[Value.ref a]∧args=[WData.list (ns.map WData.int)]∧h.get? a=some {cls:= .type "list",data:= .seq vs.toArray}∧IntsAre vs ns∧ns.length≤n:=by
 have hsh:WShape.hasAll [] args [.list .int]=true:=(pre_splitW Ox).1;have hc:l.pre.holds [] {args:=args}=true:=(pre_splitW Ox).2;obtain⟨d,r,rfl,h1,h2⟩:=hasAllW_cons hsh;obtain rfl:=hasAllW_nil h2;obtain⟨xs,rfl,h3⟩:=hasW_list h1;obtain⟨ns,rfl⟩:=items_int h3
 have hlen:ns.length≤n:=by
  unfold OpenLaw.pre at hc
  have h4:(WTm.not (.lt (.lit (.int (n:Int))) (.len (.arg 0)))).holds [] {args:=[.list (ns.map .int)]}=true:=by
   have h4:=(holds_andW hc).1;rw[hn] at h4;exact h4
  have h5:=condW_of h4 (w_not (w_lt w_lit (w_len_list (w_arg rfl))));rw[aN] at h5;refine Nat.le_of_not_lt fun q=> ?_;have q' :(n:Int)<((ns.length:Nat):Int):=by lia
  first
   |(rw[bu q'] at h5;exact absurd h5 (by decide))
   |(simp at h5;lia)
 cases QC with
 |cons w1 w2=>
  cases w2
  cases w1 with
  |list ho CF=>exact⟨_,_,ns,rfl,rfl,ho,wV ns _ CF,hlen⟩
theorem IH(l:OpenLaw)(args:List WData):l.row.toRowW.claim.post args (.bool true) args=true:=
 postW_of (r:=l.row.toRowW) (X:=(true==true))
  (show WShape.has [] (.bool true) .bool=true by first|rfl|decide|simp[WShape.has,WShape.arms,WShape.armsAll])
  (show(WTm.eq .res (.lit (.bool true))).value [] {args:=args,res:=some (.bool true),after:=args}=some (.bool (true==true)) from w_eq_bool (w_res rfl) w_lit) rfl
theorem Df{l:OpenLaw}{n:Nat}{q:Program}{loose:aJ}{XP:(Str→aQ)→Heap→Prop}{YP:World→Heap→Prop}{d:DefRec}
 (hn:l.most=some n) (WW:d.params.defaults=[])
 (call:∀(w:World) (ia cD:Shared) (mg mb:Str→aQ) (fa:Addr) (o:Obj) (pm cd doc:Value) (a:Addr) (vs:aP) (ns:List Int),
  Ground q loose [] XP w ia mg mb cD.heap→YP w cD.heap→
  cD.heap.get? fa=some o→o.data= .func (docDef d.name d.params d.body d.scope pm cd doc)→cD.heap.CodeRec cd d.name→mg d.name=some (.ref fa)→
  cD.heap.get? a=some {cls:= .type "list",data:= .seq vs.toArray}→IntsAre vs ns→ns.length≤n→cD.gens= #[]→
  codeAny (model l.prog w) callerA (.call (.ref fa) ⟨[.ref a],[]⟩) (fun r s' =>r= .ok (.ret (.bool true))∧OldK cD.heap s'.heap∧s'.os=cD.os∧AllBare s'.gens) cD):
 WalkO q loose XP YP l.row.toRowW d [] (fun f vs=>PySem.call f vs):=by
 intro w ia cD mg mb G Y fa o pm cd doc dV kV ho hd Lh hD Xl hg args vals as Ox HD Qf QC hlo;obtain rfl:dV= .none:=Dflts.none hD WW;obtain rfl:kV= .none:=Dflts.noKw hD;obtain⟨a,vs,ns,rfl,rfl,Tp,hints,hlen⟩:=Ih hn Ox QC;refine enter_call (codeAny_mono (call w ia cD mg mb fa o pm cd doc a vs ns G Y ho (fd_plain hd) Lh Xl Tp hints hlen hg) fun r s' hq=> ?_);obtain⟨rfl,h2,h3,h4⟩:=hq;exact⟨.inl ⟨.bool true,.bool true,[],rfl,fun _=>rfl,.bool true,IH l _,fun _=>⟨List.Pairwise.nil,fun _ hm=>(nomatch hm)⟩⟩,h2,h3,h4⟩
section
variable{prog:Program}{w:World}{A:Around}{E:Value→Shared→Prop}{s:Shared}{K:Frag}
noncomputable def jaE(h:Heap)(L d:Addr):aZ:=(List.range h.objs.size).filterMap fun a=>if a=L∨a=d then none else(h.get? a).map fun o=>(a,o)
end
end Att
namespace L2
open PySem PySem.Spec PyProof.Rows
theorem Bl:∀{vs:aP} {ns:List Int},IntsAre vs ns→Vals (ns.map V.int) vs
 |_,_,.nil=> .nil
 |_,_,.cons n t h=> .cons ⟨t,rfl⟩ (Bl h)
noncomputable def zG(H:Hp):Prop:=∀b,H b=none∨∃o xs,H b=some (.eX o (.lst xs))
theorem LL{P:Program}{w:World}{K:Frag}{mg mb:Str→aQ}{CX:DK}{k:Nat}{fa a:Addr}{fd:FuncData}{x:Str}{sp:Sp}{cD:Shared}{vs:aP}{ns:List Int}
 (KX:K.In cD.heap) (C9:cD.heap.Ns mainGlobals mg) (hb:cD.heap.Ns builtinsNs mb) (hbb:∀x:Str,x≠ "__name__" →mb x=bootBuiltins x) (ah6:cD.heap.NoLimit) (hg:cD.gens= #[])
 (ha:cD.heap.get? a=some {cls:= .type "list",data:= .seq vs.toArray}) (hi:IntsAre vs ns) (hl:ns.length≤sizeLine) (hr:eW k callerA)
 (F:∀base:Heap,K.In base→base.Ns mainGlobals mg→bC P w K mg base CX k fa fd [x] sp) (Wm:∀(s:Shared) (u:Value),BindsTo s fd ⟨[u],[]⟩ [(x,u)])
 (MJ:∀H:Hp,zG H→bw K H a (ns.map V.int)→sp [.ref a] H (fun v _=>v= .bl true) fun _ _ _=>False)
 (hCX:∀H e s',CX [] H cD (fun _ _ _=>False) e s'→False):
 codeAny (model P w) callerA (.call (.ref fa) ⟨[.ref a],[]⟩) (fun r s' =>r= .ok (.ret (.bool true))∧OldK cD.heap s'.heap∧s'.os=cD.os∧AllBare s'.gens) cD:=by
 have rv:=Bl hi;have ago:=hi.length
 have core:∀H:Hp,zG H→bw K H a (ns.map V.int)→qd P w H cD.heap→(∀b,H b≠none→b=a)→(H a≠none→K.lookup a=none)→
  codeAny (model P w) callerA (.call (.ref fa) ⟨[.ref a],[]⟩) (fun r s' =>r= .ok (.ret (.bool true))∧OldK cD.heap s'.heap∧s'.os=cD.os∧AllBare s'.gens) cD:=by
  intro H hO hS bE hA hK;have GF:∀{b:Addr} {o:Obj},cD.heap.get? b=some o→H b=none→(CW cD.heap H).get? b=some o:=fun e n=>Lj e n
  have Y4:∀{b:Addr} {o:Obj} {es:Array DictEntry} {ep:Nat},cD.heap.get? b=some o→o.data= .dict es ep→H b=none:=fun{b o es ep} e d=>by
   cases q:H b with
   |none=>rfl
   |some u=>
    have e' :b=a:=hA b (by rw[q];simp);subst e';rw[ha] at e;cases e
    have d' :Data.seq vs.toArray _=Data.dict es ep:=d;cases d'
  have nsK:∀{b:Addr} {m:Str→aQ},cD.heap.Ns b m→(CW cD.heap H).Ns b m:=fun{b m} ⟨o,es,ep,e,d,r⟩=>⟨o,es,ep,GF e (Y4 e d),d,r⟩
  have hKb:K.In (CW cD.heap H):=fun b o e=>GF (KX b o e) (by
   cases q:H b with
   |none=>rfl
   |some u=>
    have e' :b=a:=hA b (by rw[q];simp);subst e';rw[hK (by rw[q];simp)] at e;cases e)
  have hM:Mod K mg (CW cD.heap H):=⟨hKb,nsK C9,⟨mb,nsK hb,hbb⟩,let⟨mc,h1,h2⟩:=ah6;⟨mc,nsK h1,h2⟩⟩;have e0:zf P w K mg (CW cD.heap H) callerA [] cD H:=⟨rfl,hM,fun b o e=>Nl e,xg (IC _ _),trivial,fun b hb=>absurd (show b∈([]:aH) from hb) (by simp),bE,.of_eq hg⟩;refine codeAny_mono ((F _ hKb (nsK C9)).run callerA [] cD H ⟨[.ref a],[]⟩ [.ref a] [.ref a] _ _ hr e0 (Wm cD (.ref a)) (.cons rfl .nil) (MJ H hO hS)) fun r s' h=> ?_
  cases r with
  |error e=>exact(hCX H e s' h).elim
  |ok fl=>
   cases fl with
   |next=>exact False.elim h
   |brk=>exact False.elim h
   |cont=>exact False.elim h
   |ret u=>
    obtain⟨v,H',os,bare,un,Cd,r',q⟩:=h;have q' :v= .bl true:=q;subst q';obtain rfl:u=Value.bool true:=r';refine⟨rfl,OldK.of_keep fun b o e=> ?_,os,bare⟩
    cases q:H b with
    |none=>exact un.keep b o e q (by intro z;exact absurd (show b∈([]:aH) from z) (by simp)) (by simp)
    |some u=>
     rcases hO b with z|⟨ob,xs,z⟩
     ·rw[q] at z;cases z
     ·have z2:=un.pZ b ob _ z;obtain⟨e1,_⟩:=bE b _ z;obtain⟨e2,_⟩:=Cd b _ z2;rw[e] at e1;cases e1
      exact e2
 cases hk:K.lookup a with
 |some o=>
  have e:=KX a o hk;rw[ha] at e;cases e;refine core (fun _=>none) (fun _=> .inl rfl) (.inr ⟨_,vs.toArray,_,hk,rfl,rfl,rfl,by rw[bZ,ago];exact hl,by simpa using rv⟩) (fun b u z=>by have z' :(none:Option HO)=some u:=z;cases z') (fun b z=>absurd rfl z) fun z=>absurd rfl z
 |none=>
  refine core (fun b=>if b=a then some (.eX {cls:= .type "list",data:= .seq vs.toArray} (.lst (ns.map V.int))) else none) (fun b=> ?_) (.inl (.inr ⟨{cls:= .type "list",data:= .seq vs.toArray},aC rfl⟩)) (fun b u z=> ?_) (fun b z=> ?_) fun _=>hk
  ·by_cases hb:b=a
   ·exact .inr ⟨_,_,aC hb⟩
   ·exact .inl (au hb)
  ·by_cases hb:b=a
   ·have z' :=(aC hb).symm.trans z;cases z';subst hb;exact⟨ha,by rw[aN];exact hl,vs,_,rv,ha⟩
   ·have z' :=(au hb).symm.trans z;cases z'
  ·by_cases hb:b=a
   ·exact hb
   ·exact absurd (au hb) z
theorem OV{l:PySem.W.OpenLaw}{n k:Nat}{q:Program}{loose:aJ}{XP:(Str→aQ)→Heap→Prop}{YP:World→Heap→Prop}{d:DefRec}{K:Params→Frag}{CX:World→DK}{sp:World→Sp}{x:Str}
 (hn:l.most=some n) (V4:n≤sizeLine) (WW:d.params.defaults=[]) (hr:eW k callerA)
 (hY:∀(w:World) (h:Heap),YP w h→(K w.params).In h)
 (F:∀(w:World) (mg:Str→aQ) (fa:Addr) (h:Heap),(K w.params).In h→h.Ns mainGlobals mg→mg d.name=some (.ref fa)→
  ∃fd:FuncData,(∀(s:Shared) (u:Value),BindsTo s fd ⟨[u],[]⟩ [(x,u)])∧
   ∀base:Heap,(K w.params).In base→base.Ns mainGlobals mg→bC l.prog w (K w.params) mg base (CX w) k fa fd [x] (sp w))
 (MJ:∀(w:World) (H:Hp) (a:Addr) (ns:List Int),ns.length≤n→zG H→bw (K w.params) H a (ns.map V.int)→sp w [.ref a] H (fun v _=>v= .bl true) fun _ _ _=>False)
 (hCX:∀(w:World) (H:Hp) (s:Shared) (e:Value) (s' :Shared),CX w [] H s (fun _ _ _=>False) e s'→False):
 PySem.W.WalkO q loose XP YP l.row.toRowW d [] (fun f vs=>PySem.call f vs):=by
 refine Att.Df hn WW fun w ia cD mg mb fa o pm cd doc a vs ns G Y ho hd Lh Xl Tp hints hlen hg=> ?_;have KX:=hY w _ Y;obtain⟨fd,hb,hF⟩:=F w mg fa _ KX G.T.g Xl;exact LL KX G.T.g G.T.b G.T.builtins G.T.nolimit hg Tp hints (aY hlen V4) hr hF hb (fun H hO hS=>MJ w H a ns hlen hO hS) fun H e s' =>hCX w H cD e s'
noncomputable abbrev eC:DK:=fun _ _ _ _ _ _=>False
noncomputable abbrev E0:XK:=fun _ _ _=>False
theorem aE{X:Cx}:zn eC X E0:=fun _ _ _ _ _ _ _ h=>h.elim
structure Hx(K:Frag)(x qual:Str)(st:Stmt)(f:Addr)(fd:FuncData):Prop where
 ex:∃(oc:Value) (od:Option Addr) (kV doc pm:Value) (an:Option Addr) (c_ ct:Value) (Sk:Array (aQ)),
  fd=PySem.W.fnOf x qual (l8 st) (gH st) (ay st) .none kV doc pm an c_ ct∧K.lookup f=some ⟨oc,od,.func fd,Sk⟩∧PySem.W.codeIn K c_ qual=true
 kp:PySem.W.keepIn K (.ref f)=true
section
variable{P:Program}{w:World}{K:Frag}{mg:Str→aQ}{base:Heap}
theorem Hx.ok{x qual:Str}{st:Stmt}{f:Addr}{fd:FuncData}{N ps:aJ}{k:Nat}{sp:Sp}(F:Hx K x qual st f fd)(S:aI N ps (ay st))(len:∀vs H Q E,sp vs H Q E→vs.length=ps.length)
 (gW:∀(c_:Value) (A:Around) (outer:List Env) (s:Shared) (H:Hp) (vs:aA) (Q:VK) (E:XK),eW k (A.deeper (envOfC qual (ay st) s.heap.objs.size f c_))→sp vs H Q E→
  ∃t,C8 (Cv eC P w K mg base N qual (ay st) f c_ A outer s H E).KS (gH st) t∧t {nx:=fun _ H' =>Q .bK H',rt:=Q} (XV N vs) H):bC P w K mg base eC (k+1) f fd ps sp:=by
 obtain⟨oc,od,kV,doc,pm,an,c_,ct,Sk,rfl,lk,Lh⟩:=F.ex;refine Xz lk Lh S len fun A outer s H vs Q E hr MJ=> ?_;obtain⟨t,h,q⟩:=gW c_ A outer s H vs Q E hr MJ;exact⟨t,h.KS,q⟩
theorem Hx.binds{x qual:Str}{st:Stmt}{f:Addr}{fd:FuncData}{ps:aJ}(F:Hx K x qual st f fd)
 (h:∀(kV doc pm:Value) (an:Option Addr) (c_ ct:Value) (us:aP),us.length=ps.length→bindArgs (PySem.W.fnOf x qual (l8 st) (gH st) (ay st) .none kV doc pm an c_ ct) ⟨us,[]⟩=pure (ps.zip us)):Binds K fd ps []:=by
 obtain⟨oc,od,kV,doc,pm,an,c_,ct,Sk,rfl,lk,Lh⟩:=F.ex;exact .all (h kV doc pm an c_ ct)
theorem CG{x qual:Str}{st:Stmt}{f:Addr}{oc:Value}{od an:Option Addr}{Sk:Array (aQ)}{kV doc pm c_ ct:Value}(l:K.lookup f=some ⟨oc,od,.func (PySem.W.fnOf x qual (l8 st) (gH st) (ay st) .none kV doc pm an c_ ct),Sk⟩)
 (c:PySem.W.codeIn K c_ qual=true) (k:PySem.W.keepIn K (.ref f)=true):Hx K x qual st f (PySem.W.fnOf x qual (l8 st) (gH st) (ay st) .none kV doc pm an c_ ct):=⟨⟨oc,od,kV,doc,pm,an,c_,ct,Sk,rfl,l,c⟩,k⟩
end
theorem dy{A:Around}{k:Nat}(hr:eW k A):A.units+1<cLine:=dR (kH (by decide:1≤64) _) hr.units
section
variable{X:Cx}
theorem pv(i:Nat){x:Str}{pos:Pos}(hN:X.N[i]? =some x:=by rfl)(hv:Vis X.env.scope x:=by first|exact Or.inl rfl|exact Or.inr (Or.inl rfl)|exact Or.inr (Or.inr rfl))(hd:(x==("__debug__" :Str))=false:=by decide)
 (Lh:(x==("__classdict__" :Str))=false:=by decide):PE X (.Name x pos) (aaj i):=Th hN hv hd Lh
end
theorem cQ{A B:Prop}(h:B):if false=true then A else B:=by
 rw[au b7];exact h
theorem eN{A B:Prop}(h:A):if true=true then A else B:=by
 rw[aC rfl];exact h
theorem ny{c A B:Prop}[Decidable c](h1:c→A)(h2:¬c→B):if c then A else B:=by
 by_cases h:c
 ·rw[aC h];exact h1 h
 ·rw[au h];exact h2 h
noncomputable def ax(H H' :Hp):Prop:=∀b o,H b=some o→H' b=some o
theorem ax.refl(H:Hp):ax H H:=fun _ _ h=>h
theorem ax.trans{H H1 H2:Hp}(a:ax H H1)(b:ax H1 H2):ax H H2:=fun c o h=>b c o (a c o h)
theorem ax.free{H H' :Hp}(e:ax H H'){l:Addr}(h:H' l=Option.none):H l=Option.none:=by
 cases q:H l with
 |none=>rfl
 |some o=>
  rw[e l o q] at h;cases h
theorem ax.seq{K:Frag}{H H' :Hp}{a:Addr}{xs:aA}(e:ax H H')(h:bw K H a xs):bw K H' a xs:=by
 rcases h with(h|⟨o,h⟩)|h
 ·exact .inl (.inl (e _ _ h))
 ·exact .inl (.inr ⟨o,e _ _ h⟩)
 ·exact .inr h
section
variable{κ:Type}[DecidableEq κ]
theorem KW{kvs:List (κ×V)}{k:κ}(h:bR kvs k=none):¬k∈kvs.map (·.1):=by
 intro m;obtain⟨p,hp,e⟩:=bM.mp m;have q:(kvs.any fun kv=>decide (kv.1=k))=true:=xN.mpr ⟨p,hp,bu e⟩;rw[kZ,h] at q;exact absurd q (by simp)
theorem Gn:∀{l:List κ} {k:κ},l.Nodup→¬k∈l→(l++[k]).Nodup
 |[],k,_,_=>by simp
 |a::r,k,h,hk=>by
  obtain⟨h1,h2⟩:=fq.mp h;show(a::(r++[k])).Nodup;refine fq.mpr ⟨fun m=> ?_,Gn h2 fun m=>hk (bq.mpr (Or.inr m))⟩;rcases cj.mp m with q|q
  ·exact h1 q
  ·exact hk (bq.mpr (Or.inl (cw.mp q).symm))
theorem Nt{kvs:List (κ×V)}{k:κ}(v:V)(hn:(kvs.map (·.1)).Nodup)(h:bR kvs k=none):((wv kvs k v).map (·.1)).Nodup:=by
 rw[ji v h,cg];exact Gn hn (KW h)
end
noncomputable def mx(env:Env):List (Str×NameKind)→List (Str×Addr)→List (Str×Addr)
 |[],acc=>acc
 |y::r,acc=>mx env r (if(y.2==NameKind.free)=true then(y.1,(env.cells.lookup y.1).getD 0)::acc else acc)
theorem zy{env:Env}:∀(ns:List (Str×NameKind)) (acc:List (Str×Addr)),(∀y∈ns,y.2= .free→∃c,env.cells.lookup y.1=some c)→
 (forIn ns acc fun(x:Str×NameKind) (cs:List (Str×Addr))=>if(x.2==NameKind.free)=true then(cellOf env x.1>>= fun a=>pure (ForInStep.yield ((x.1,a)::cs))) else(pure (ForInStep.yield cs):Sem (ForInStep (List (Str×Addr)))))=pure (mx env ns acc)
 |[],acc,_=>rfl
 |y::r,acc,h=>by
  rw[List.forIn_cons];have ih:=fun a=>zy r a fun z hz=>h z (a_ _ hz);by_cases hk:(y.2==NameKind.free)=true
  ·obtain⟨c,hc⟩:=h y bJ (eq_of_beq hk);have e:cellOf env y.1=pure c:=by unfold cellOf;rw[hc]
   rw[aC hk,e];show(forIn r ((y.1,c)::acc) _:Sem (List (Str×Addr)))=_;rw[ih];show pure (mx env r ((y.1,c)::acc))=pure (mx env r (if(y.2==NameKind.free)=true then(y.1,(env.cells.lookup y.1).getD 0)::acc else acc));rw[aC hk,hc];rfl
  ·rw[au hk];show(forIn r acc _:Sem (List (Str×Addr)))=_;rw[ih];show pure (mx env r acc)=pure (mx env r (if(y.2==NameKind.free)=true then(y.1,(env.cells.lookup y.1).getD 0)::acc else acc));rw[au hk]
theorem zr{scope:Scope}{env:Env}(h:∀y∈scope.names,y.2= .free→∃c,env.cells.lookup y.1=some c):closureFor scope env=pure (mx env scope.names []):=by
 have q:=zy (env:=env) scope.names [] h;have e:closureFor scope env=((forIn scope.names ([]:List (Str×Addr)) fun(x:Str×NameKind) (cs:List (Str×Addr))=>if(x.2==NameKind.free)=true then(cellOf env x.1>>= fun a=>pure (ForInStep.yield ((x.1,a)::cs))) else(pure (ForInStep.yield cs):Sem (ForInStep (List (Str×Addr)))))>>= fun cs=>pure cs):=rfl;rw[e,q];rfl
theorem uS{env:Env}:∀(ns:List (Str×NameKind)) (acc:List (Str×Addr)) {x:Str} {c:Addr},(∀y∈ns,y.2= .free→∃c,env.cells.lookup y.1=some c)→(mx env ns acc).lookup x=some c→env.cells.lookup x=some c∨acc.lookup x=some c
 |[],acc,x,c,_,h=> .inr h
 |y::r,acc,x,c,h,e=>by
  have e:(mx env r (if(y.2==NameKind.free)=true then(y.1,(env.cells.lookup y.1).getD 0)::acc else acc)).lookup x=some c:=e;rcases uS r _ (fun z hz=>h z (a_ _ hz)) e with q|q
  ·exact .inl q
  ·by_cases hk:(y.2==NameKind.free)=true
   ·rw[aC hk,je] at q;obtain⟨d,hd⟩:=h y bJ (eq_of_beq hk)
    cases hx:x==y.1 with
    |true=>
     rw[hx] at q;dsimp only at q;rw[hd] at q;have hxy:x=y.1:=eq_of_beq hx;subst hxy;exact .inl (hd.trans q)
    |false=>
     rw[hx] at q;exact .inr q
   ·rw[au hk] at q;exact .inr q
theorem u9{env:Env}:∀(ns:List (Str×NameKind)) (acc:List (Str×Addr)) {x:Str},((x,NameKind.free)∈ns∨∃c,acc.lookup x=some c)→∃c,(mx env ns acc).lookup x=some c
 |[],acc,x,h=>by
  rcases h with h|h
  ·cases h
  ·exact h
 |y::r,acc,x,h=>by
  show ∃c,(mx env r (if(y.2==NameKind.free)=true then(y.1,(env.cells.lookup y.1).getD 0)::acc else acc)).lookup x=some c;refine u9 r _ ?_;rcases h with h|⟨c,hc⟩
  ·rcases bq.mp h with e|h
   ·subst e;refine .inr ⟨(env.cells.lookup x).getD 0,?_⟩;rw[aC (by rfl),je,xO]
   ·exact .inl h
  ·by_cases hk:(y.2==NameKind.free)=true
   ·rw[aC hk]
    cases hx:x==y.1 with
    |true=>exact .inr ⟨_,by rw[je,hx]⟩
    |false=>exact .inr ⟨c,by rw[je,hx];exact hc⟩
   ·rw[au hk];exact .inr ⟨c,hc⟩
theorem mn{env:Env}{x:Str}{k:NameKind}:∀(ns:List (Str×NameKind)),(ns.map fun(n,k)=>if(k==NameKind.free&&env.scope.kind== .function&&env.kindOf n==some .cell) then(n,NameKind.cell) else(n,k)).lookup x=some k→
 ns.lookup x=some k∨(ns.lookup x=some .free∧k= .cell)
 |[],h=>by cases h
 |(n,j)::r,h=>by
  have ih:=mn (env:=env) (x:=x) (k:=k) r;rw[cy] at h;dsimp only at h;by_cases hc:(j==NameKind.free&&env.scope.kind== .function&&env.kindOf n==some .cell)=true
  ·rw[aC hc,je] at h;rw[je]
   cases hx:x==n with
   |true=>
    rw[hx] at h
    have hj:(j==NameKind.free)=true:=by
     rw[gc,gc] at hc;exact hc.1.1
    have hj:=eq_of_beq hj;subst hj;exact .inr ⟨rfl,(fH h).symm⟩
   |false=>
    rw[hx] at h;exact ih h
  ·rw[au hc,je] at h;rw[je]
   cases hx:x==n with
   |true=>
    rw[hx] at h;exact .inl h
   |false=>
    rw[hx] at h;exact ih h
theorem uI{env:Env}{x:Str}:∀(ns:List (Str×NameKind)),ns.lookup x=some .free→
 (ns.map fun(n,k)=>if(k==NameKind.free&&env.scope.kind== .function&&env.kindOf n==some .cell) then(n,NameKind.cell) else(n,k)).lookup x=some .cell∨
 (ns.map fun(n,k)=>if(k==NameKind.free&&env.scope.kind== .function&&env.kindOf n==some .cell) then(n,NameKind.cell) else(n,k)).lookup x=some .free
 |[],h=>by cases h
 |(n,j)::r,h=>by
  have ih:=uI (env:=env) (x:=x) r;rw[cy];dsimp only;rw[je] at h;by_cases hc:(j==NameKind.free&&env.scope.kind== .function&&env.kindOf n==some .cell)=true
  ·rw[aC hc,je]
   cases hx:x==n with
   |true=>exact .inl rfl
   |false=>
    rw[hx] at h;exact ih h
  ·rw[au hc,je]
   cases hx:x==n with
   |true=>
    rw[hx] at h;exact .inr h
   |false=>
    rw[hx] at h;exact ih h
noncomputable def fm(X:Cx)(N:aJ)(scope:Scope)(cl:List (Str×Addr))(C:Addr)(s:Shared)(H:Hp)(fp:aH):Cx where
 prog:=X.prog
 w:=X.w
 K:=X.K
 mg:=X.mg
 base:=X.base
 A:=X.A
 N:=N
 ia:=s
 H₀:=H
 env:=compEnvC scope cl C X.env
 outer:=X.stack
 stack:=X.stack
 ex:=fp
 fn:=fun _=>false
 calm:=X.calm
 pn:=[]
 xe:=fun _ _=>False
noncomputable def tm(k:Nat)(js:List Nat)(σ:St):St:=List.replicate k none++js.map fun j=>σ.getD j none
structure mG(X:Cx)(N:aJ)(scope:Scope)(k:Nat)(js:List Nat):Prop where
 kind:scope.kind= .function
 cell:∀y∈scope.names,y.2≠.cell
 loc:∀y∈scope.names,y.2= .local→scope.names.lookup y.1=some .local
 free:∀y∈scope.names,y.2= .free→X.env.kindOf y.1=some .cell∨X.env.kindOf y.1=some .free
 len:N.length=k+js.length
 names:∀(i j:Nat),js[i]? =some j→X.N[j]? =N[k+i]?
 js:∀(i:Nat) (x:Str),N[k+i]? =some x→scope.names.lookup x=some .free
section
variable{X:Cx}{pins:aZ}{σ:St}{H:Hp}{s:Shared}{N:aJ}{scope:Scope}{k:Nat}{js:List Nat}
theorem mG.cells(S:mG X N scope k js)(ok:X.Ok):∀y∈scope.names,y.2= .free→∃c,X.env.cells.lookup y.1=some c:=fun y hy hf=>ok.has _ (S.free y hy hf)
theorem Lo{fp:aH}{h1:Heap}{t1:Nat}(I:Inv X pins σ H s)(S:mG X N scope k js)(f:∀b∈fp,p5 X pins H b)(fo:∀b∈fp,∃o,s.heap.get? b=some o)
 (hn:h1.Ns s.heap.objs.size fun _=>none) (hk:∀b o,s.heap.get? b=some o→h1.get? b=some o):
 Inv (fm X N scope (mx X.env scope.names []) s.heap.objs.size s H fp) [] (tm k js σ) H {s with heap:=h1,toks:=t1}:=by
 have cs:=S.cells I.ok
 have RJ:∀{x:Str} {c:Addr},(mx X.env scope.names []).lookup x=some c→X.env.cells.lookup x=some c:=fun{x c} e=>by
  rcases uS scope.names [] cs e with q|q
  ·exact q
  ·cases q
 refine⟨⟨I.ok.mod,S.kind,I.ok.glob,I.ok.blt,az _,fun x y c e1 e2=>I.ok.inj x y c (RJ e1) (RJ e2),fun x hx=> ?_,fun x c hf _=>(nomatch hf),I.ok.hd,I.ok.frames,.inl rfl,fun b hb=>⟨?_,fun x c e=> ?_⟩,I.bs,
  aY I.ok.KZ I.sz,fun b o e hb=> ?_,fun b hb z=> ?_,I.stack,I.GK⟩,rfl,I.bare,Un.kept hk,⟨_,hn,fun i x v e1 e2 e3=> ?_⟩,fun x c e=> ?_,I.bE.fresh (az _),fun x c e=>I.nj x c (RJ e),fun p hp=> ?_,I.bE.kept hk,?_⟩
 ·have hx:(relabel scope X.env).names.lookup x=some .cell∨(relabel scope X.env).names.lookup x=some .free:=hx
  have fr:scope.names.lookup x=some .free:=by
   rcases hx with q|q
   ·rcases mn scope.names q with z|z
    ·exact absurd rfl (S.cell _ (PySem.mem_of_lookup z))
    ·exact z.1
   ·rcases mn scope.names q with z|z
    ·exact z
    ·exact z.1
  exact u9 scope.names [] (.inl (PySem.mem_of_lookup fr))
 ·obtain⟨o,ho⟩:=fo b hb;exact bF (bh ho)
 ·exact(f b hb).2.2.2.2.1 x c (RJ e)
 ·rcases(f b hb).2.2.2.1 with z|z
  ·exact I.ok.J_ b o e z
  ·exact absurd (eF (eF (bh e) I.ok.KZ) z) (eA _)
 ·rcases bq.mp (I.Cb b z) with q|q
  ·exact(f b hb).2.1 q
  ·exact(f b hb).2.2.1 q
 ·have e1:N[i]? =some x:=e1
  have hi:k≤i:=by
   by_cases hi:i<k
   ·unfold tm at e2;rw[bV (by rw[jE];exact hi),uA,aC hi] at e2;cases e2
   ·omega
  obtain⟨d,rfl⟩:∃d,i=k+d:=⟨i - k,by omega⟩;unfold tm at e2;rw[cF (by rw[jE];omega),jE,aW] at e2;have ed:k+d - k=d:=by omega
  rw[ed] at e2
  cases ej:js[d]? with
  |none=>rw[ej] at e2;cases e2
  |some j=>
   rw[ej] at e2;have e2:σ.getD j none=some v:=fH e2
   have e2' :σ[j]? =some (some v):=by
    rw[bD] at e2
    cases q:σ[j]? with
    |none=>rw[q] at e2;cases e2
    |some z=>rw[q] at e2;rw[show z=some v from e2]
   have en:X.N[j]? =some x:=(S.names d j ej).trans e1;have fr:=S.js d x e1;have kx:=S.free _ (PySem.mem_of_lookup fr) rfl;obtain⟨m,_,hl⟩:=I.loc;obtain⟨u,r,l⟩:=hl j x v en e2' (by rcases kx with q|q;exact .inr (.inl q);exact .inr (.inr q));refine⟨u,r,.inr ⟨?_,?_⟩⟩
   ·exact uI (env:=X.env) scope.names fr
   ·rcases l with⟨l,_⟩|⟨_,c,ec,ic⟩
    ·rcases kx with q|q
     ·dsimp only at q;rw[q] at l;cases l
     ·dsimp only at q;rw[q] at l;cases l
    ·obtain⟨c',e'⟩:=u9 (env:=X.env) scope.names [] (.inl (PySem.mem_of_lookup fr));have e'' :=RJ e';rw[ec] at e'';cases e'';exact⟨c,e',ic.keeps hk⟩
 ·obtain⟨v,q⟩:=I.cell x c (RJ e);exact⟨v,q.keeps hk⟩
 ·have hp:p∈([]:aZ):=hp;cases hp
 ·show(tm k js σ).length=N.length;unfold tm;rw[bj,jE,aN,S.len]
end
noncomputable def eM(σ c9 :St):Prop:=∀(i:Nat) v,σ[i]? =some (some v)→c9[i]? =some (some v)
theorem eM.refl(σ:St):eM σ σ:=fun _ _ h=>h
theorem eM.own{σ c9 :St}{k i:Nat}{js:List Nat}{v:Option V}(h:eM (tm k js σ) c9)(hi:i<k):eM (tm k js σ) (c9.set i v):=fun j u e=>by
 have hj:j≠i:=fun z=>by
  subst z;unfold tm at e;rw[bV (by rw[jE];exact hi),uA,aC hi] at e;cases e
 rw[mF (dt hj)];exact h j u e
noncomputable def iw(J:It)(k:Nat)(js:List Nat)(g:TG)(tt:TT)(te:TE)(σ:St)(H1:Hp)(Q:VK):Prop:=∀p,H1 p=none→∃W:Nat→Nat→aA→Hp→Prop,(∃m,W 0 m [] (upd H1 p (.lst [])))∧
 ∀i m ys H,W i m ys H→H p=some (.lst ys)∧((J.stop i H∧Q (.ref p) H)∨(J.go i H∧ys.length<sizeLine∧∀x H',J.vC i H x H'→g x (tm k js σ) H' fun iy H2=>eM (tm k js σ) iy∧tt iy H2 fun b H3=>
  if b=true then te iy H3 fun y H4=>H4 p=some (.lst ys)∧∃m',m' <m∧W (i+1) m' (ys++[y]) (upd H4 p (.lst (ys++[y]))) else ∃m',m' <m∧W (i+1) m' ys H3))
noncomputable def FW(wi:TI)(k:Nat)(js:List Nat)(g:TG)(tt:TT)(te:TE):TE:=fun σ H Q=>wi σ H fun J H1=>iw J k js g tt te σ H1 Q
noncomputable def LQ:TT:=fun _ H Q=>Q true H
noncomputable def Fp(Y:Cx)(ifs:cq)(t:TT):Prop:=
 ∀(pins:aZ) (s:Shared) (σ:St) (H:Hp) (Q:Bool→Hp→Prop),Inv Y pins σ H s→t σ H Q→
  wpAny (model Y.prog Y.w) Y.A (forIn ifs true fun c r=>if r=true then do let ok←isTrue c Y.env (eval c Y.env);pure (ForInStep.yield ok) else pure (ForInStep.yield r)) (TP Y pins σ Q) Y.xe s
theorem qM{Y:Cx}:Fp Y [] LQ:=fun _ _ _ H _ I h=>wpAny_tests_nil ⟨H,I,h⟩
theorem Ca{Y:Cx}{c:Expr}{t:TT}(h:PT Y c t):Fp Y [c] t:=fun pins s σ H Q I hq=>wpAny_tests_one (h pins s σ H Q I hq)
section
variable{prog:Program}{w:World}{A:Around}{R:Result→Shared→Prop}{s:Shared}
theorem Cc{elt target iter:Expr}{ifs:cq}{scope:Scope}{pos:Pos}{it acc:Value}{env:Env}(I:Nat→Shared→Prop)
 (turn:∀n s,I n s→wpAny (model prog w) A (pyNext it) (fun r cD=>match r with
  |none=>R (.ok .next) cD
  |some v=>wpAny (model prog w) A (letOwnedTupleGo target it v) (fun _ ia=>wpAny (model prog w) A (assign target env v) (fun _ q_=>
   wpAny (model prog w) A (forIn ifs true fun c r=>if r=true then do let ok←isTrue c env (eval c env);pure (ForInStep.yield ok) else pure (ForInStep.yield r)) (fun ok AL=>
    if ok=true then wpAny (model prog w) A (eval elt env) (fun x Nc=>
     wpAny (model prog w) A (call (.builtin "list.append") [acc,x]) (fun _ Ws=>∃m,m<n∧I m Ws) (fun _ _=>False) Nc) (fun _ _=>False) AL
    else ∃m,m<n∧I m AL) (fun _ _=>False) q_) (fun _ _=>False) ia) (fun _ _=>False) cD) (fun _ _=>False) s)
 (n:Nat) (h:I n s):
 codeAny (model prog w) A (.compLoop (.ListComp elt [⟨target,iter,ifs,0⟩] scope pos) 0 it acc env) R s:=by
 refine codeAny_loop rfl I (fun n s hI=> ?_) n h;show wpAny _ A ((compTurn (.ListComp elt [⟨target,iter,ifs,0⟩] scope pos) 0 it acc env).onRaise (fun x=>do noteFrame x env;theTreesLotGoes x)) _ _ s;refine wpAny_noted ?_;rw[compTurn_list];refine ag (wpAny_standAt (ag (fW (turn n s hI) (fun r cD yV=> ?_) fun _ _ h' =>h'.elim)))
 cases r with
 |none=>exact aB yV
 |some v=>
  refine ag (fW yV (fun _ ia h₀=> ?_) fun _ _ h' =>h'.elim);refine ag (fW h₀ (fun _ q_ Ku=>ag (fW Ku (fun ok AL OZ=> ?_) fun _ _ h' =>h'.elim)) fun _ _ h' =>h'.elim)
  cases ok with
  |false=>exact aB ⟨rfl,OZ⟩
  |true=>
   exact ag (ag (fW OZ (fun x Nc ah2=>ag (fW ah2 (fun _ Ws afZ=>aB (aB ⟨rfl,afZ⟩)) fun _ _ h' =>h'.elim)) fun _ _ h' =>h'.elim))
end
section
variable{X:Cx}{tg iter elt:Expr}{ifs:cq}{scope:Scope}{pos:Pos}{N:aJ}{k:Nat}{js:List Nat}{wi:TI}{g:TG}{tt:TT}{te:TE}
theorem A0{pins:aZ}{s2:Shared}{σ:St}{H2:Hp}{it:Addr}{fp:aH}{tn:Nat→Heap→Prop}{J:It}{Q:VK}{RR:Value→Addr→Result→Shared→Prop}{E:Value→Shared→Prop}(hc:X.calm=true)(S:mG X N scope k js)
 (hb:∀(cl:List (Str×Addr)) (C:Addr) (s:Shared) (H:Hp) (fp:aH),PG (fm X N scope cl C s H fp) tg g∧Fp (fm X N scope cl C s H fp) ifs tt∧PE (fm X N scope cl C s H fp) elt te)
 (I2:Inv X pins σ H2 s2) (T:Turn X.prog X.w X.K tg J fp it tn) (NW:tn 0 s2.heap) (f2:∀b∈fp,p5 X pins H2 b)
 (h:∀p,H2 p=none→∃W:Nat→Nat→aA→Hp→Prop,(∃m,W 0 m [] (upd H2 p (.lst [])))∧
  ∀i m ys H,W i m ys H→H p=some (.lst ys)∧((J.stop i H∧Q (.ref p) H)∨(J.go i H∧ys.length<sizeLine∧∀x H',J.vC i H x H'→g x (tm k js σ) H' fun iy H2=>eM (tm k js σ) iy∧tt iy H2 fun b H3=>
   if b=true then te iy H3 fun y H4=>H4 p=some (.lst ys)∧∃m',m' <m∧W (i+1) m' (ys++[y]) (upd H4 p (.lst (ys++[y]))) else ∃m',m' <m∧W (i+1) m' ys H3)))
 (hR:∀(p C:Addr) (s' :Shared) (H' :Hp) (m:Str→aQ),Inv X pins σ H' s'→Q (.ref p) H'→s'.heap.Ns C m→H' C=none→C≠X.env.locals→X.ia.heap.objs.size≤C→(∀x c,X.env.cells.lookup x=some c→c≠C)→(∀q∈X.pn++pins,q.1≠C)→RR (.ref p) C (.ok .next) s'):
 wpAny (model X.prog X.w) X.A (newList []) (fun acc AL=>wpAny (model X.prog X.w) X.A (newFunctionEnv scope X.env.globals (mx X.env scope.names []) [] X.env.qual none .none (some X.env)) (fun aaQ Nc=>
  codeAny (model X.prog X.w) X.A (.compStart (.ListComp elt [⟨tg,iter,ifs,0⟩] scope pos) 0 (.ref it) acc {aaQ with scope:=relabel scope X.env}) (RR acc aaQ.locals) Nc) E AL) E s2:=by
 have hf:H2 s2.heap.objs.size=none:=I2.bE.fresh (az _);obtain⟨W,⟨m0,w0⟩,turn⟩:=h s2.heap.objs.size hf;have I3:Inv X pins σ (upd H2 s2.heap.objs.size (.lst [])) {s2 with heap:=s2.heap.push {cls:= .type "list",dict:=none,data:= .seq ([]:aP).toArray},toks:=s2.toks}:=I2.Tb (ys:=[]) .nil (cB _);refine gN (wpAny_newFunctionEnv S.cell (by intro y hy;simp at hy) (fun yV Ft Fu=> ?_) S.kind);dsimp only at Ft Fu ⊢;generalize hp:s2.heap.objs.size=p at*
 generalize VY:s2.heap.push {cls:= .type "list",dict:=none,data:= .seq ([]:aP).toArray}=g3 at Ft Fu I3 ⊢;have k23:∀b o,s2.heap.get? b=some o→g3.get? b=some o:=fun b o e=>VY▸bT _ e;have k34:∀b o,g3.get? b=some o→yV.get? b=some o:=fun b o e=>Fu.extBut b o (bF (bh e)) (bT _ e)
 have npf:∀b∈fp,b≠p:=fun b hb z=>by
  obtain⟨o,ho,_⟩:=T.obj _ _ NW b hb;have:=bh ho;rw[hp,z] at this;exact eA _ this
 have f3:∀b∈fp,p5 X pins (upd H2 p (.lst [])) b:=fun b hb=>⟨by rw[af (npf b hb)];exact(f2 b hb).1,(f2 b hb).2⟩
 have fo3:∀b∈fp,∃o,g3.get? b=some o:=fun b hb=>by
  obtain⟨o,ho,_⟩:=T.obj _ _ NW b hb;exact⟨o,k23 b o ho⟩
 have J0:=Lo (s:={s2 with heap:=g3,toks:=s2.toks}) (h1:=yV) (t1:=s2.toks+([]:List (Str×Value)).length) I3 S f3 fo3 Ft k34;have st4:tn 0 yV:=T.keep _ _ _ NW fun b hb o e=>k34 b o (k23 b o e);obtain⟨hG,hT,hE⟩:=hb (mx X.env scope.names []) g3.objs.size {s2 with heap:=g3,toks:=s2.toks} (upd H2 p (.lst [])) fp
 generalize hY:fm X N scope (mx X.env scope.names []) g3.objs.size {s2 with heap:=g3,toks:=s2.toks} (upd H2 p (.lst [])) fp=Y at*
 have yp:Y.prog=X.prog:=by rw[←hY];rfl
 have yw:Y.w=X.w:=by rw[←hY];rfl
 have yK:Y.K=X.K:=by rw[←hY];rfl
 have yA:Y.A=X.A:=by rw[←hY];rfl
 have yc:Y.calm=true:=by rw[←hY];exact hc
 have yx:Y.xe=fun _ _=>False:=by rw[←hY];rfl
 have ye:Y.env=compEnvC scope (mx X.env scope.names []) g3.objs.size X.env:=by rw[←hY];rfl
 have ypn:Y.pn=[]:=by rw[←hY];rfl
 have yex:Y.ex=fp:=by rw[←hY];rfl
 have yfs:Y.fs=Je X.stack:=by rw[←hY];rfl
 have RJ:∀{x:Str} {c:Addr},(mx X.env scope.names []).lookup x=some c→X.env.cells.lookup x=some c:=fun{x c} e=>by
  rcases uS scope.names [] (S.cells I2.ok) e with q|q
  ·exact q
  ·cases q
 have EI:∀{H' :Hp},(∀b∈fp,H' b=none)→∀b∈fp,p5 Y [] H' b:=fun hn b hb=>by
  refine⟨hn b hb,?_,?_,?_,fun x c e=> ?_,fun q hq=> ?_⟩
  ·rw[ye];obtain⟨o,ho⟩:=fo3 b hb;exact bF (bh ho)
  ·rw[yfs];intro z;rcases bq.mp (I2.Cb b z) with q|q
   ·exact(f2 b hb).2.1 q
   ·exact(f2 b hb).2.2.1 q
  ·rw[yex];exact .inl hb
  ·rw[ye] at e;exact(f2 b hb).2.2.2.2.1 x c (RJ e)
  ·rw[ypn] at hq;cases hq
 have agL:∀{c9 :St} {H' :Hp} {s' :Shared},Inv Y [] c9 H' s'→Q (.ref p) H'→RR (.ref p) g3.objs.size (.ok .next) s' :=fun{c9 H' s'} I' q=>by
  have u:=I'.base;have ho:=I'.os;rw[yfs,yex] at u;subst hY;have IX:Inv X pins σ H' s' :=I3.Y2 (ch:=fp) ho u I'.bE I'.bare fun b hb=>⟨(f2 b hb).2.2.2.1,(f2 b hb).2.1,(f2 b hb).2.2.2.2.1,(f2 b hb).2.2.2.2.2⟩;obtain⟨m,hn,_⟩:=I'.loc;refine hR p g3.objs.size s' H' m IX q hn I'.free (fun z=> ?_) (aY I3.sz (az _)) (fun x c e z=> ?_) fun r hr z=> ?_
  ·exact absurd (z▸I3.lt) (eA _)
  ·obtain⟨v,o,ho,_⟩:=I3.cell x c e;exact absurd (z▸bh ho) (eA _)
  ·obtain⟨ho,_⟩:=I3.pin r hr;exact absurd (z▸bh ho) (eA _)
 have loop:codeAny (model X.prog X.w) X.A (.compLoop (.ListComp elt [⟨tg,iter,ifs,0⟩] scope pos) 0 (.ref it) (.ref p) (compEnvC scope (mx X.env scope.names []) g3.objs.size X.env)) (RR (.ref p) g3.objs.size) {s2 with heap:=yV,toks:=s2.toks+([]:List (Str×Value)).length}:=by
  refine Cc (fun n s' =>∃i ys H',Inv Y [] (tm k js σ) H' s'∧tn i s'.heap∧(∀b∈fp,H' b=none)∧W i n ys H') ?_ m0 ⟨0,[],_,J0,st4,fun b hb=>(f3 b hb).1,w0⟩
  rintro n s5 ⟨i,ys,H5,I5,Wf,T4,w5⟩
  obtain⟨hys,w5⟩:=turn i n ys H5 w5;rw[←yp,←yw,←yA,←ye];have T' :Turn Y.prog Y.w Y.K tg J fp it tn:=by rw[yp,yw,yK];exact T
  rcases w5 with⟨stop,q⟩|⟨go,hz,step⟩
  ·refine cC (T'.done Y rfl rfl rfl yc i [] s5 _ H5 _ I5 (EI T4) Wf stop) fun r s6 ⟨hr,I6⟩=> ?_;subst hr;exact agL I6 q
  ·refine cC (T'.item Y rfl rfl rfl yc i [] s5 _ H5 _ I5 (EI T4) Wf go) fun r s6 ⟨u,hr,h6⟩=> ?_;subst hr;refine cC h6 fun _ s7 ⟨x,H7,I7,r7,y7,st7,fr7⟩=> ?_;have I7' :=I7.pinned (EI fr7) (T.obj _ _ st7)
   have fin:∀{UG:St} {H8:Hp} {s8:Shared},eM (tm k js σ) UG→Inv Y ([]++zC fp s7.heap) UG H8 s8→Inv Y [] (tm k js σ) H8 s8∧tn (i+1) s8.heap∧∀b∈fp,H8 b=none:=fun{UG H8 s8} sb I8=>by
    refine⟨?_,T.keep _ _ _ st7 fun b hb o e=>(I8.pin (b,o) (hV _ (hV _ (lR hb e)))).1,fun b hb=> ?_⟩
    ·exact(I8.rR (pins:=[])).weak (by rw[I5.len,I8.len]) sb
    ·obtain⟨o,e,d⟩:=T.obj _ _ st7 b hb;exact(I8.pin (b,o) (hV _ (hV _ (lR hb e)))).2.1
   have wE:∀{α:Type} {t:Sem α} {P:α→Shared→Prop} {s' :Shared},wpAny (model Y.prog Y.w) Y.A t P Y.xe s'→wpAny (model Y.prog Y.w) Y.A t P (fun _ _=>False) s' :=fun{α t P s'} h=>by rw[yx] at h;exact h
   refine cC (wE (hG _ s7 _ H7 x u _ I7' r7 (step x H7 y7))) fun _ s8 ⟨UG,H8,I8,sb,q8⟩=> ?_;refine cC (wE (hT _ s8 UG H8 _ I8 q8)) fun b s9 ⟨H9,I9,q9⟩=> ?_
   cases b with
   |false=>
    have q9:∃m',m' <n∧W (i+1) m' ys H9:=q9;obtain⟨m',hm,w9⟩:=q9;obtain⟨a1,a2,a3⟩:=fin sb I9;exact⟨m',hm,i+1,ys,H9,a1,a2,a3,w9⟩
   |true=>
    refine cC (wE (hE _ s9 UG H9 _ I9 q9)) fun y C4 ⟨v,qP,I10,r10,e10,m',hm,w10⟩=> ?_;refine cC (wE (cJ _ C4 UG qP (.ref p) [v] (.ref p) [y] (fun _ qO=>∃m',m' <n∧W (i+1) m' (ys++[v]) qO) I10 rfl (.cons r10 .nil) ⟨p,ys,v,rfl,rfl,e10,hz,m',hm,w10⟩)) fun z V7 ⟨_,qO,I11,_,m2,hm2,w11⟩=> ?_;obtain⟨a1,a2,a3⟩:=fin sb I11;exact⟨m2,hm2,i+1,ys++[v],qO,a1,a2,a3,w11⟩
 refine codeAny_compStart_list loop ?_;exact T.self _ _ _ _ _ st4 loop
theorem OE(hc:X.calm=true)(S:mG X N scope k js)(hi:PI X tg iter wi)
 (hb:∀(cl:List (Str×Addr)) (C:Addr) (s:Shared) (H:Hp) (fp:aH),PG (fm X N scope cl C s H fp) tg g∧Fp (fm X N scope cl C s H fp) ifs tt∧PE (fm X N scope cl C s H fp) elt te)
 (hs:∀x,foldedSetIterable iter X.env x=pure x:=by intro _;rfl):PE X (.ListComp elt [⟨tg,iter,ifs,0⟩] scope pos) (FW wi k js g tt te):=by
 intro pins s σ H Q I h;rw[eval_ListComp];refine wpAny_comprehension_free (use:=none) rfl hs (zr (S.cells I.ok)) S.kind S.loc (cC (hi pins s σ H _ I h) fun v s1 h1=>cC h1 fun itv s2 h2=> ?_);obtain⟨it,fp,tn,J,H2,e,I2,T,NW,f2,q⟩:=h2;subst e;refine A0 (RR:=fun acc C=>compPost (model X.prog X.w) X.A X.xe none (EP X pins σ Q) acc C) hc S hb I2 T NW f2 q ?_;intro p C s' H' m IX q' hn hC hL h0 nC NK;refine⟨m,hn,fun h' sb=>⟨.ref p,H',?_,rfl,q'⟩⟩;exact IX.turned (t' :=s'.toks) (fun b o hb e=>(sb.2 b hb).trans e) hC (dt hL).symm (.inr h0) nC NK
theorem NY{i:Nat}{x:Str}{pos' f_:Pos}(hN:X.N.Nodup)(C6 :X.N[i]? =some x)(hx:Loc X.env.scope x)(hc:X.calm=true)(S:mG X N scope k js)(hi:PI X tg iter wi)
 (hb:∀(cl:List (Str×Addr)) (C:Addr) (s:Shared) (H:Hp) (fp:aH),PG (fm X N scope cl C s H fp) tg g∧Fp (fm X N scope cl C s H fp) ifs tt∧PE (fm X N scope cl C s H fp) elt te)
 (hsw:swapsWith (.ListComp elt [⟨tg,iter,ifs,0⟩] scope f_) (some (.Name x pos')) pos.line X.env=pure true:=by rfl)
 (hs:∀x,foldedSetIterable iter X.env x=pure x:=by intro _;rfl) (hf:X.fn x=true∨X.env.scope.names.lookup x=some .local:=by first|exact .inl rfl|exact .inr rfl|assumption):
 PS X (.Assign [.Name x pos'] (.ListComp elt [⟨tg,iter,ifs,0⟩] scope f_) pos) (He (FW wi k js g tt te) (zi i)):=by
 intro pins s σ H D I h;rw[exec_Assign_Name_used _ _ _ _ hsw];refine ag (wpAny_standAt (ag ?_));show wpAny _ X.A (do let _←comprehension (.ListComp elt [⟨tg,iter,ifs,0⟩] scope f_) scope X.env _ (newList []) false (eval iter X.env) (some (assign (.Name x pos') X.env))) _ _ s
 refine ag (fW (wpAny_comprehension_free (use:=some (assign (.Name x pos') X.env)) (Q:=fun _ s' =>SP X pins D .next s') rfl hs (zr (S.cells I.ok)) S.kind S.loc (cC (hi pins s σ H _ I h) fun v s1 h1=>cC h1 fun itv s2 h2=> ?_))
  (fun _ s' hq=>aB (aB hq)) fun _ _ e=>e)
 obtain⟨it,fp,tn,J,H2,e,I2,T,NW,f2,q⟩:=h2;subst e;refine A0 (Q:=fun v H' =>D.nx (σ.set i (some v)) H') (RR:=fun acc C=>compPost (model X.prog X.w) X.A X.xe (some (assign (.Name x pos') X.env)) (fun _ s' =>SP X pins D .next s') acc C) hc S hb I2 T NW f2 q ?_;intro p C s' H' m IX q' hn hC hL h0 nC NK;show wpAny _ X.A (assign (.Name x pos') X.env (.ref p)) _ _ s';refine wpAny_assign_Name (A4 (v:= .ref p) IX hN C6 hx rfl (fun VE I'' ⟨a,sb,ha⟩=> ?_) hf)
 have hCa:C≠a:=by
  rcases ha with z|z
  ·rw[z];exact hL
  ·exact fun e=>nC x a z e.symm
 refine⟨m,hn.sameBut sb hCa,fun h' sb' =>⟨σ.set i (some (.ref p)),H',?_,q'⟩⟩;exact I''.turned (t' :=VE.toks) (fun b o hb e=>(sb'.2 b hb).trans e) hC hL (.inr h0) nC NK
end
noncomputable def cOk(osc:Scope)(ON N:aJ)(scope:Scope)(k:Nat)(js:List Nat):Bool:=
 (scope.kind== .function)&&scope.names.all (fun y=> !(y.2== .cell))&&scope.names.all (fun y=> !(y.2== .local)||scope.names.lookup y.1==some .local)&&
 scope.names.all (fun y=> !(y.2== .free)||(osc.names.lookup y.1==some .cell||osc.names.lookup y.1==some .free))&&(N.length==k+js.length)&&
 (List.range js.length).all (fun i=>ON[js.getD i 0]? ==N[k+i]?)&&(N.drop k).all fun x=>scope.names.lookup x==some .free
theorem AZ{X:Cx}{N:aJ}{scope:Scope}{k:Nat}{js:List Nat}(h:cOk X.env.scope X.N N scope k js=true):mG X N scope k js:=by
 unfold cOk at h;simp only[gc] at h;obtain⟨⟨⟨⟨⟨⟨h1,h2⟩,h3⟩,h4⟩,h5⟩,h6⟩,h7⟩:=h;have h5:=eq_of_beq h5;rw[i7] at h2 h3 h4 h6 h7;refine⟨eq_of_beq h1,fun y hy e=> ?_,fun y hy e=> ?_,fun y hy e=> ?_,h5,fun i j e=> ?_,fun i x e=> ?_⟩
 ·have q:=h2 y hy;rw[e] at q;exact absurd q (by decide)
 ·have q:=h3 y hy;rw[e] at q;exact eq_of_beq (by simpa using q)
 ·have q:=h4 y hy;rw[e] at q;have q:(X.env.scope.names.lookup y.1==some .cell||X.env.scope.names.lookup y.1==some .free)=true:=by simpa using q
  rw[Bool.or_eq_true] at q;rcases q with q|q
  ·exact .inl (eq_of_beq q)
  ·exact .inr (eq_of_beq q)
 ·have hi:i<js.length:=(aS.mp e).1;have q:=eq_of_beq (h6 i (dg.mpr hi));rw[bD,e] at q;exact q
 ·refine eq_of_beq (h7 x ?_);rw[dz];exact⟨i,by rw[tX];exact e⟩
section
variable{X:Cx}
theorem dE:ee X (.builtin "isinstance") (fun xs H Q=>∃x T t b,xs=[x,.ty T]∧sP X.K H x t∧kitOne X.K t (.type T)=some b∧Q (.bl b) H):=by
 intro pins s σ H xs us Q I r h;obtain⟨x,T,t,b,rfl,ty,e,q⟩:=h;obtain⟨u,c,rfl,ru,rc⟩:=jah r;cases rc;exact Hg I ru ty e fun tk=>⟨.bl b,H,I.tok tk,rfl,q⟩
noncomputable def afD:V→Option Int→Option Int→Hp→VK→Prop:=fun x lo hi H Q=>∃z,x= .str z∧z.length≤sizeLine∧Q (.str (Txt.slice z lo hi)) H
theorem CA:UD X afD:=by
 intro pins s σ H x v vl vu lo hi sl Q I rx hs pl pu h;obtain⟨z,rfl,hz,q⟩:=h;obtain⟨t,rfl⟩:=rx;refine⟨"str",_,F.slot_str_getitem.lookup,typeIs_str _ _ _,?_⟩
 have fin:∀{l u:Option (Int×Tok)},l.map (·.1)=lo→u.map (·.1)=hi→s.heap.IsSlice sl l u none→wpAny (model X.prog X.w) X.A (getItem (.str z t) (.ref sl)) (EP X pins σ Q) X.xe s:=fun{l u} el eu nz=>by
  refine wpAny_getItem_str_slice (st:=none) nz rfl ?_;have e:sliceMade z t l u none=sliceMade z t l u none:=rfl;subst el eu;exact post_val_or_str ⟨aY (Txt.slice_le z _ _) hz,fun t' k=>⟨.str (Txt.slice z _ _),H,I.tok k,⟨t',rfl⟩,q⟩⟩
 obtain⟨o,ho,hc,hd⟩:=hs
 cases pl with
 |none=>
  cases pu with
  |none=>exact fin (l:=none) (u:=none) rfl rfl ⟨o,ho,hc,hd⟩
  |int j uj=>exact fin (l:=none) (u:=some (j,uj)) rfl rfl ⟨o,ho,hc,hd⟩
 |int i ui=>
  cases pu with
  |none=>exact fin (l:=some (i,ui)) (u:=none) rfl rfl ⟨o,ho,hc,hd⟩
  |int j uj=>exact fin (l:=some (i,ui)) (u:=some (j,uj)) rfl rfl ⟨o,ho,hc,hd⟩
end
noncomputable def Its(x:Str):It:=⟨fun i _=>i<x.length,fun i H v H' =>H' =H∧∃c,x.cps[i]? =some c∧v= .str ⟨#[c]⟩,fun i _=>x.length≤i⟩
theorem DA{P:Program}{w:World}{K:Frag}{tg:Expr}{x:Str}{I:Addr}{St:Nat→Heap→Prop}(W:∀A:Around,A.handled=none→Walks P w A I [I] [I] x.cps.size (SignAt x) St)
 (hob:∀i h,St i h→∃o,h.get? I=some o∧∀v,o.data≠.cell v) (ht:∀v,letOwnedTupleGo tg (.ref I) v=pure ())
 (acq:∀(A:Around) (i:Nat) (s:Shared) (Q:Value→Shared→Prop) (E:Value→Shared→Prop),St i s.heap→Q (.ref I) s→wpAny (model P w) A (pyIter (.ref I)) Q E s):Turn P w K tg (Its x) [I] I (fun i h=>i≤x.length∧St i h) where
 mem:=by simp
 obj:=fun i h st b hb=>by
  have e:b=I:=by simpa using hb
  subst e;exact hob i h st.2
 keep:=fun i h h' st k=>⟨st.1,(W {handled:=none} rfl).frame i h h' st.2 k⟩
 item:=by
  intro X hP hw hK hc i pins s σ H E J hf st hg;subst hP hw hK;obtain⟨f0,f1,f2,f3,f4,f5⟩:=hf I (by simp);refine(W X.A (J.ok.hd hc)).item i s _ _ hg st.2 fun v h' tk hv J8 k=> ?_;have J1:Inv X pins σ H {s with heap:=h',toks:=tk}:=J.turned (fun b o hb e=>k b o (by simpa using hb) e) f0 f1 f3 f4 f5;obtain⟨c,u,QB,rfl⟩:=hv;exact⟨_,rfl,rZ (ht _) ⟨.str ⟨#[c]⟩,H,J1,⟨u,rfl⟩,⟨rfl,c,QB,rfl⟩,⟨hg,J8⟩,fun b hb=>(hf b hb).1⟩⟩
 done:=by
  intro X hP hw hK hc i pins s σ H E J hf st hg;subst hP hw hK;obtain⟨f0,f1,f2,f3,f4,f5⟩:=hf I (by simp);have e:i=x.cps.size:=Nat.le_antisymm st.1 hg;subst e;exact(W X.A (J.ok.hd hc)).done s _ _ st.2 fun h' tk k=>⟨rfl,J.turned (fun b o hb e=>k b o (by simpa using hb) e) f0 f1 f3 f4 f5⟩
 self:=fun A _ s Q E st h=>acq A _ s Q E st.2 h
section
variable{X:Cx}{tg:Expr}
noncomputable def agk(tl:TE):TI:=fun σ H R=>tl σ H fun x H1=>∃z,x= .str z∧R (Its z) H1
theorem US{l:Expr}{tl:TE}(hl:PE X l tl)(hc:X.calm=true)(ht:∀it v,letOwnedTupleGo tg it v=pure ():=by intro _ _;rfl):PI X tg l (agk tl):=by
 intro pins s σ H R I h;refine cC (hl pins s σ H _ I h) fun v s1 ⟨x,H1,I1,r,z,e,q⟩=> ?_;subst e;obtain⟨t,rfl⟩:=r;cases ha:z.cps.all (· <128)
 ·refine wpAny_pyIter_wide ha ?_
  exact⟨_,[_],_,Its z,H1,rfl,I1.kept (t' :=s1.toks) fun b u e=>bT _ e,DA (fun A' hA=>Walks.strWide hA _ z t) (fun i h st=>by
   obtain⟨o,ho,_,hd⟩:=st;exact⟨o,ho,fun v z=>by rw[hd] at z;cases z⟩) (ht _) (fun A _ s Q E st h=>wpAny_pyIter_striter_wide st h),⟨cB _,_,bI _ rfl,rfl,rfl⟩,fun b hb=>by
   have e:b=s1.heap.objs.size:=by simpa using hb
   subst e;exact I1.uZ (az _) (I1.bE.fresh (az _)),q⟩
 ·refine wpAny_pyIter_ascii ha ?_
  exact⟨_,[_],_,Its z,H1,rfl,I1.kept (t' :=s1.toks) fun b u e=>bT _ e,DA (fun A' hA=>Walks.strAscii hA _ z t) (fun i h st=>by
   obtain⟨o,ho,_,hd⟩:=st;exact⟨o,ho,fun v z=>by rw[hd] at z;cases z⟩) (ht _) (fun A _ s Q E st h=>wpAny_pyIter_striter_ascii st h),⟨cB _,_,bI _ rfl,rfl,rfl⟩,fun b hb=>by
   have e:b=s1.heap.objs.size:=by simpa using hb
   subst e;exact I1.uZ (az _) (I1.bE.fresh (az _)),q⟩
end
section
variable{X:Cx}
theorem Ee:∀{bs:List Bool} {us:aP},Vals (bs.map V.bl) us→us=bs.map Value.bool
 |[],_,.nil=>rfl
 |b::bs,_,.cons r t=>by
  cases r;rw[Ee (bs:=bs) t];rfl
theorem jai{bs:List Bool}{f:Nat→Bool}(h:∀i b,bs[i]? =some b→f i=b):(List.range bs.length).all f=bs.all id:=by
 rw[lZ,i7,i7];constructor
 ·intro q b hb;obtain⟨i,hi⟩:=dz.mp hb;have hl:i<bs.length:=(aS.mp hi).1;rw[←h i b hi];exact q i (dg.mpr hl)
 ·intro q i hi;have hl:=dg.mp hi;rw[h i bs[i] (by simp[hl])];exact q _ (iZ hl)
theorem DU(hc:X.calm=true):ee X (.builtin "all") (fun xs H Q=>∃(a:Addr) (bs:List Bool),xs=[.ref a]∧H a=some (.lst (bs.map V.bl))∧Q (.bl (bs.all id)) H):=by
 intro pins s σ H xs us Q I r h;obtain⟨a,bs,rfl,ha,q⟩:=h;obtain⟨u,rfl,ru⟩:=wS r;cases ru;obtain⟨its,r,pl,hz⟩:=I.list (bw.of ha);have e:=Ee r;have dS:=I.bE.lt ha;have I1:Inv X pins σ H {s with heap:=s.heap.push {cls:= .type "list_iterator",data:= .fields #[.ref a,.int 0 0]}}:=I.kept (t' :=s.toks) fun b u e=>bT _ e;refine call_all_walk (xT pl.isList ⟨_,_,_,_,_,_,fun i=>bs.getD i true,rfl,Walks.list (A:=X.A.in1) (I.ok.hd hc) _ a (bF dS) its.toArray,⟨⟨_,bI _ rfl,rfl,rfl⟩,pl.isList.push _⟩,?_,fun h' tk k=> ?_⟩)
 ·intro i v s' Q' E' hv hQ;rw[e] at hv;have hv:(bs.map Value.bool)[i]? =some v:=by simpa using hv
  rw[aW] at hv
  cases eb:bs[i]? with
  |none=>rw[eb] at hv;cases hv
  |some b=>
   rw[eb] at hv;cases hv;refine ph ?_;have e2:bs.getD i true=b:=by rw[bD,eb];rfl
   rw[←e2];exact hQ
 ·refine⟨.bl (bs.all id),H,I1.turned (fun b o hb e=>k b o (by simpa using hb) e) (I.bE.fresh (az _)) (fun z=> ?_) (.inr I.sz) (fun x c e z=> ?_) (fun p hp z=> ?_),?_,q⟩
  ·exact absurd (z▸I.lt) (eA _)
  ·obtain⟨v,o,ho,_⟩:=I.cell x c e;exact absurd (z▸bh ho) (eA _)
  ·obtain⟨ho,_⟩:=I.pin p hp;exact absurd (z▸bh ho) (eA _)
  ·show Value.bool _=Value.bool _;have e3:its.toArray.size=bs.length:=by rw[e];simp
   rw[e3,jai fun i b hb=>by rw[bD,hb];rfl]
noncomputable def AB:aA→aA→Bool
 |[],[]=>true
 |x::xs,y::ys=>ER x y&&AB xs ys
 |_,_=>false
theorem yk:∀(xs ys:aA),xs.length=ys.length→(List.range xs.length).all (fun j=>ER (xs.getD j .bK) (ys.getD j .bK))=AB xs ys
 |[],[],_=>rfl
 |x::xs,y::ys,h=>by
  rw[cf,List.range_succ_eq_map,List.all_cons,List.all_map];have h' :xs.length=ys.length:=by simpa using h
  rw[←(show(ER x y&&AB xs ys)=AB (x::xs) (y::ys) from rfl),←yk xs ys h'];rfl
 |[],_::_,h=>by simp at h
 |_::_,[],h=>by simp at h
noncomputable def agz(neg:Bool):R2:=fun x y H Q=>∃a b xs ys,x= .ref a∧y= .ref b∧H a=some (.lst xs)∧H b=some (.lst ys)∧
 ((xs.length≠ys.length∧Q (.bl neg) H)∨(xs.length=ys.length∧xs.all lE=true∧ys.all lE=true∧Q (.bl (if neg then !AB xs ys else AB xs ys)) H))
theorem Dm{xs:aA}{us:aP}{j:Nat}(r:Vals xs us)(f:xs.all lE=true)(hj:j<us.length):∃x,xs[j]? =some x∧RelV x us[j]∧lE x=true:=by
 have hl:=r.length;have hx:xs[j]? =some xs[j]:=by simp[hl,hj]
 obtain⟨u,hu,ru⟩:=r.get hx;have e:us[j]? =some us[j]:=by simp[hj]
 rw[e] at hu;cases hu;exact⟨_,hx,ru,i7.mp f _ (iZ _)⟩
theorem qW(hu:X.A.units<cLine):kW X (compareOp .Eq) (agz false):=by
 intro pins s σ H x y v u Q I rx ry h;obtain⟨a,b,xs,ys,rfl,rfl,ha,hb,h⟩:=h;cases rx;cases ry;obtain⟨its,r,pl,hz⟩:=I.list (bw.of ha);obtain⟨tq,r2,XJ,hz2⟩:=I.list (bw.of hb);have hl:=r.length;have u_:=r2.length;rcases h with⟨iB,q⟩|⟨he,f1,f2,q⟩
 ·exact SeqAt.eq_list_lengthsAt pl.isList XJ.isList (by simp;lia) hu ⟨.bl false,H,I,rfl,q⟩
 ·refine SeqAt.eq_listAt (e:=fun j=>ER (xs.getD j .bK) (ys.getD j .bK)) pl.isList XJ.isList (by simp;lia) hu (fun j h1 h2=> ?_) ⟨.bl (AB xs ys),H,I,?_,q⟩
  ·have h1:j<its.length:=by simpa using h1
   have h2:j<tq.length:=by simpa using h2
   obtain⟨x,e1,rx,fx⟩:=Dm r f1 h1;obtain⟨y,e2,ry,fy⟩:=Dm r2 f2 h2;have g1:xs.getD j .bK=x:=by rw[bD,e1];rfl
   have g2:ys.getD j .bK=y:=by rw[bD,e2];rfl
   show SeqAt.EqAt _ _ its.toArray[j] tq.toArray[j] (ER (xs.getD j .bK) (ys.getD j .bK));rw[g1,g2];exact Jq rx ry fx fy
  ·show Value.bool _=Value.bool _;rw[←yk xs ys he,bZ,hl]
end
theorem ax.upd{H:Hp}{p:Addr}{o:HO}(h:H p=none):ax H (upd H p o):=fun b u e=>by
 rw[af (aq e h)];exact e
structure yd(J:It)(H:Hp)(xs:aA):Prop where
 go:∀i H',ax H H'→i<xs.length→J.go i H'
 vC:∀i H' x fN,ax H H'→J.vC i H' x fN→fN =H'∧(i<xs.length→xs[i]? =some x)
 stop:∀i H',ax H H'→xs.length≤i→J.stop i H'
theorem Iw(z:Str)(H:Hp):yd (Its z) H (z.cps.toList.map fun c=>V.str ⟨#[c]⟩) where
 go:=fun i H' _ h=>by
  show i<z.cps.size;simpa using h
 vC:=fun i H' x fN _ h=>by
  obtain⟨e,c,hc,rfl⟩:=h;refine⟨e,fun _=> ?_⟩;rw[aW,Cr,hc];rfl
 stop:=fun i H' _ h=>by
  show z.cps.size≤i;simpa using h
theorem hX{K:Frag}{a:Addr}{xs:aA}{H:Hp}(h:bw K H a xs):yd (Qt K a) H xs where
 go:=fun i H' s hi=>⟨xs,xs[i],s.seq h,by simp[hi]⟩
 vC:=fun i H' x fN s q=>⟨q.1,fun _=>q.2 xs (s.seq h)⟩
 stop:=fun i H' s hi=>⟨xs,s.seq h,hi⟩
theorem vH(lo:Int)(n:Nat)(H:Hp):yd (Pr lo n) H ((List.range n).map fun(i:Nat)=>V.int (lo+(i:Int))) where
 go:=fun i H' _ h=>by
  show i<n;simpa using h
 vC:=fun i H' x fN _ q=>by
  obtain⟨e,rfl⟩:=q;refine⟨e,fun h=> ?_⟩;have h:i<n:=by simpa using h
  simp[aW,jw h]
 stop:=fun i H' _ h=>by
  show n≤i;simpa using h
theorem Bt{J:It}{xs:aA}{k:Nat}{js:List Nat}{g:TG}{tt:TT}{te:TE}{σ:St}{H:Hp}{Q:VK}(pb:V→Bool)(fe:V→V)(F:yd J H xs)(hlen:xs.length≤sizeLine)
 (gW:∀(i:Nat) (x:V) (H' :Hp) (C1:V→Hp→Prop) (C0:Hp→Prop),xs[i]? =some x→ax H H'→(pb x=true→C1 (fe x) H')→(pb x=false→C0 H')→
  g x (tm k js σ) H' fun iy H2=>eM (tm k js σ) iy∧tt iy H2 fun b H3=>if b=true then te iy H3 C1 else C0 H3)
 (hq:∀p,H p=none→Q (.ref p) (upd H p (.lst ((xs.filter pb).map fe)))):
 iw J k js g tt te σ H Q:=by
 intro p hp;refine⟨fun i m ys H' =>m=xs.length - i∧i≤xs.length∧ys=((xs.take i).filter pb).map fe∧H' =upd H p (.lst ys),⟨xs.length,rfl,cB _,rfl,rfl⟩,?_⟩
 rintro i m ys H' ⟨rfl,hi,rfl,rfl⟩
 refine⟨ae,?_⟩;have hs:ax H (upd H p (.lst (((xs.take i).filter pb).map fe))):=ax.upd hp;by_cases dS:i<xs.length
 ·refine .inr ⟨F.go i _ hs dS,?_,fun x fN hy=> ?_⟩
  ·rw[aN];have h1:((xs.take i).filter pb).length≤(xs.take i).length:=jh _ _;rw[kD] at h1
   lia
  ·obtain⟨rfl,hx⟩:=F.vC i _ x fN hs hy;have hx:=hx dS;have et:(xs.take (i+1)).filter pb=(xs.take i).filter pb++(if pb x=true then[x] else[]):=PySem.take_succ_filter pb xs i x hx;refine gW i x _ _ _ hx hs (fun hb=>⟨ae,xs.length - (i+1),by lia,rfl,dS,?_,?_⟩) (fun hb=>⟨xs.length - (i+1),by lia,rfl,dS,?_,rfl⟩)
   ·rw[et,aC hb,cg];rfl
   ·rw[BJ]
   ·rw[et,hb];simp
 ·have e:i=xs.length:=by lia
  subst e;refine .inl ⟨F.stop _ _ hs (az _),?_⟩;rw[iK];exact hq p hp
theorem jW{X:Cx}{UP:List Stmt}{t:TS}(R:TS)(h:C8 X UP t)(hR:∀D σ H,R D σ H→t D σ H):C8 X UP R:=fun pins s σ H D I hq=>h pins s σ H D I (hR D σ H hq)
noncomputable def Itv(K:Frag)(a:Addr)(n:Nat):It:=
 ⟨fun i H=>i<n∧∃xs,bw K H a xs∧xs.length=n,fun i H x H' =>H' =H∧∀xs,bw K H a xs→xs[n - 1 - i]? =some x,fun i _=>n≤i⟩
theorem Lv{P:Program}{w:World}{K:Frag}{tg:Expr}(a it:Addr)(n:Nat):Turn P w K tg (Itv K a n) [it] it (fun i h=>i≤n∧h.IsRevIter it a ((n:Int) - 1 - (i:Int))) where
 mem:=by simp
 obj:=fun i h st b hb=>by
  have e:b=it:=by simpa using hb
  subst e;obtain⟨_,o,e,c,d⟩:=st;exact⟨o,e,fun v z=>by rw[d] at z;cases z⟩
 keep:=fun i h h' st k=>⟨st.1,st.2.at fun o e=>k it (by simp) o e⟩
 item:=by
  intro X hP hw hK hc i pins s σ H E I hf st hg;subst hP hw hK;obtain⟨hi,xs,hq,hlen⟩:=hg;obtain⟨its,rv,p,hz⟩:=I.list hq;have hl:=rv.length;have hx:xs[n - 1 - i]? =some xs[n - 1 - i]:=by simp[show n - 1 - i<xs.length by omega]
  obtain⟨u,hu,ru⟩:=rv.get hx;obtain⟨f0,f1,f2,f3,f4,f5⟩:=hf it (by simp);have e:(n:Int) - 1 - (i:Int)=((n - 1 - i:Nat):Int):=by omega
  have hit:=st.2;rw[e] at hit;refine wpAny_pyNext_rev_item hit p.isList (x:=u) (by simpa using hu) fun h' J8 sb=> ?_;have I1:Inv X pins σ H {s with heap:=h'}:=I.turned (t' :=s.toks) (fun b o hb e=>(sb.2 b hb).trans e) f0 f1 f3 f4 f5;have e2:((n - 1 - i:Nat):Int) - 1=(n:Int) - 1 - ((i+1:Nat):Int):=by omega
  rw[e2] at J8;obtain⟨o,eo,c,d⟩:=id J8;exact⟨u,rfl,Bq (s:={s with heap:=h'}) eo c d (by decide) ⟨_,H,I1,ru,⟨rfl,fun ys hy=>by rw[I.nW hy hq];exact hx⟩,⟨hi,J8⟩,fun b hb=>(hf b hb).1⟩⟩
 done:=by
  intro X hP hw hK hc i pins s σ H E I hf st hg;subst hP hw hK;obtain⟨f0,f1,f2,f3,f4,f5⟩:=hf it (by simp);have ei:i=n:=Nat.le_antisymm st.1 hg;subst ei;have hit:=st.2;have e:(i:Int) - 1 - (i:Int)= -1:=by omega
  rw[e] at hit;exact wpAny_pyNext_rev_end (I.ok.hd hc) hit fun h' eb=>⟨rfl,I.turned (t' :=s.toks) (fun b o hb e=>eb b o hb e) f0 f1 f3 f4 f5⟩
 self:=fun _ _ _ _ _ st h=>BK st.2 h
noncomputable def VQ(K:Frag)(a:Addr):It:=
 ⟨fun i H=>∃xs x,bw K H a xs∧xs[i]? =some x,fun i H v H' =>∃T x,v= .ref T∧H T=none∧H' =upd H T (.tup [.int i,x])∧∀xs,bw K H a xs→xs[i]? =some x,fun i H=>∃xs,bw K H a xs∧xs.length≤i⟩
theorem HR{P:Program}{w:World}{K:Frag}{elts:cq}{kt:Nat}{pt:Pos}(a e it:Addr)(hei:e≠it):Turn P w K (.Tuple elts kt pt) (VQ K a) [e,it] e (fun i h=>(∃old,IsEnum h e it i old)∧h.IsListIter it a i) where
 mem:=by simp
 obj:=fun i h st b hb=>by
  obtain⟨⟨old,he⟩,o,ho,c,d⟩:=st;have hb:b=e∨b=it:=by simpa using hb
  rcases hb with rfl|rfl
  ·exact⟨_,he,fun v z=>by cases z⟩
  ·exact⟨o,ho,fun v z=>by rw[d] at z;cases z⟩
 keep:=fun i h h' st k=>by
  obtain⟨⟨old,he⟩,hit⟩:=st;exact⟨⟨old,k e (by simp) _ he⟩,hit.at fun o x=>k it (by simp) o x⟩
 item:=by
  intro X hP hw hK hc i pins s σ H E I hf st hg;subst hP hw hK;obtain⟨xs,x,hq,hx⟩:=hg;obtain⟨its,rv,p,hz⟩:=I.list hq;obtain⟨u,hu,ru⟩:=rv.get hx;obtain⟨⟨old,he⟩,hit⟩:=st;obtain⟨f0,f1,f2,f3,f4,f5⟩:=hf e (by simp);obtain⟨g0,g1,g2,g3,g4,g5⟩:=hf it (by simp);have ahD:e<s.heap.objs.size:=bh he;have Vc:it<s.heap.objs.size:=by obtain⟨_,x,_⟩:=hit;exact bh x
  refine wpAny_pyNext_enum_item he hit p.isList (x:=u) (by simpa using hu) hei fun h' ho iE hT hsz hk=> ?_;refine⟨.ref s.heap.objs.size,rfl,?_⟩;refine wpAny_letOwnedTupleGo_enum ho fun Hz Vw vg => ?_;have AH:H s.heap.objs.size=none:=I.bE.fresh (az _);have hTe:s.heap.objs.size≠e:=eh ahD;have kk:∀b o,b≠e→b≠it→s.heap.get? b=some o→Hz.get? b=some o:=fun b o Mz hbi q=>(vg.2 b Mz).trans (hk b o Mz hbi q);have K_ :Hz.get? s.heap.objs.size=some {cls:= .type "tuple",data:= .seq #[.int i s.toks,u]}:=(vg.2 _ hTe).trans hT;have iB:∀b u,H b=some u→b≠e∧b≠it:=fun b u q=>⟨(fun z=>by rw[z,f0] at q;cases q),(fun z=>by rw[z,g0] at q;cases q)⟩
  have I2:Inv X pins σ (upd H s.heap.objs.size (.tup [.int i,x])) {s with heap:=Hz,toks:=s.toks+1}:=by
   have new:bx X.prog X.w (upd H s.heap.objs.size (.tup [.int i,x])) Hz s.heap.objs.size (.tup [.int i,x]):=⟨(show 2≤sizeLine by decide),[.int i s.toks,u],.cons ⟨_,rfl⟩ (.cons ru .nil),⟨_,K_,rfl,_,rfl⟩⟩
   refine I.step (g' :=s.gens) (d' :=s.drawn) (ch:=[e,it]) (fun b hb=> ?_) (fun b o _ _ hc q _=>kk b o (fun z=>hc (by simp[z])) (fun z=>hc (by simp[z])) q) (fun b o _ _ hc q _=>⟨o.slots,kk b o (fun z=>hc (by simp[z])) (fun z=>hc (by simp[z])) q⟩)
    (fun b o _ q n=> ?_) (fun b o hc q=>⟨o,kk b o (fun z=>hc (by simp[z])) (fun z=>hc (by simp[z])) q⟩) (fun b ys q=> ?_) (fun b o ys q=> ?_) (fun b ps q=>⟨#[],?_⟩) (fun m hm=> ?_) (fun b u q=> ?_) I.bare
   ·have hb:b=e∨b=it:=by simpa using hb
    rcases hb with rfl|rfl
    ·exact⟨f3,f1,f4,f5⟩
    ·exact⟨g3,g1,g4,g5⟩
   ·rw[af (bF (bh q))];exact n
   ·rw[af (aq q AH)];exact q
   ·rw[af (aq q AH)];exact q
   ·rw[af (aq q AH),q];simp
   ·obtain⟨o,es,ep,q,r⟩:=hm;exact⟨o,es,ep,kk _ o (dt f1) (dt g1) q,r⟩
   ·by_cases hb:b=s.heap.objs.size
    ·subst hb;rw[ae] at q;cases q;exact new
    ·rw[af hb] at q;refine(I.bE b u q).qQ (fun c v hc q' =>kk c v ?_ ?_ q') (fun c q' => ?_) fun c ys q' => ?_
     ·rcases hc with z|z
      ·rw[z];exact(iB b u q).1
      ·exact(iB c _ z).1
     ·rcases hc with z|z
      ·rw[z];exact(iB b u q).2
      ·exact(iB c _ z).2
     ·rw[af (aq q' AH)];exact q'
     ·rw[af (aq q' AH)];exact q'
  refine⟨.ref s.heap.objs.size,_,I2,rfl,⟨_,x,rfl,AH,rfl,fun ys hy=>by rw[I.nW hy hq];exact hx⟩,⟨⟨_,by simpa using Vw⟩,iE.at fun o q=>(vg.2 it hei.symm).trans q⟩,fun b hb=> ?_⟩;have hb:b=e∨b=it:=by simpa using hb
  rcases hb with rfl|rfl
  ·rw[af (dt hTe)];exact f0
  ·rw[af (bF Vc)];exact g0
 done:=by
  intro X hP hw hK hc i pins s σ H E I hf st hg;subst hP hw hK;obtain⟨xs,hq,hx⟩:=hg;obtain⟨its,rv,p,hz⟩:=I.list hq;obtain⟨⟨old,he⟩,hit⟩:=st;obtain⟨g0,g1,g2,g3,g4,g5⟩:=hf it (by simp);have hl:=rv.length;exact wpAny_pyNext_enum_end (I.ok.hd hc) he hit p.isList (by simp;omega) fun h' eb=>⟨rfl,I.turned (t' :=s.toks) (fun b o hb e=>eb b o hb e) g0 g1 g3 g4 g5⟩
 self:=fun _ _ _ _ _ st h=>by
  obtain⟨⟨old,he⟩,_⟩:=st;exact wpAny_pyIter_enum he h
section
variable{X:Cx}{tg:Expr}
noncomputable def aiO(K:Frag)(ta:TA):TI:=fun σ H R=>ta σ H fun vs H1=>∃a xs,vs=[.ref a]∧bw K H1 a xs∧R (Itv K a xs.length) H1
theorem Di{a:Expr}{ta:TA}{p pos:Pos}(hg:Gl X "reversed")(hm:X.mg "reversed"=none)(ha:PA X [a] ta)(hs:starEach [a] X.env=[(false,eval a X.env)]:=by rfl):PI X tg (.Call (.Name "reversed" p) [a] [] pos) (aiO X.K ta):=by
 intro pins s σ H R I h;refine Call_ (mE I hg hm Boot.«reversed» (qV (cC (ha pos pins s σ H _ I h) fun us s1 ⟨vs,H1,I1,r1,q1⟩=> ?_) hs rfl));obtain⟨l,xs,e,hq,q⟩:=q1;subst e;obtain⟨u,rfl,ru⟩:=wS r1;cases ru;obtain⟨its,rv,pl,hz⟩:=I1.list hq;have hl:=rv.length;refine call_reversed_list pl.isList ?_;have I2:Inv X pins σ H1 {s1 with heap:=s1.heap.push (revObj l ((its.toArray.size:Int) - 1))}:=I1.kept (t' :=s1.toks) fun b o e=>bT _ e
 have hit:(s1.heap.push (revObj l ((its.toArray.size:Int) - 1))).IsRevIter s1.heap.objs.size l ((xs.length:Int) - 1 - ((0:Nat):Int)):=by
  have e:((xs.length:Int) - 1 - ((0:Nat):Int))=((its.toArray.size:Int) - 1):=by rw[bZ,hl];simp
  rw[e];exact⟨_,bI _ rfl,rfl,rfl⟩
 refine BK (s:={s1 with heap:=s1.heap.push (revObj l ((its.toArray.size:Int) - 1))}) hit ?_;refine⟨s1.heap.objs.size,[s1.heap.objs.size],_,_,H1,rfl,I2,Lv l _ xs.length,⟨cB _,hit⟩,fun b hb=> ?_,q⟩;have e:b=s1.heap.objs.size:=by simpa using hb
 subst e;exact I1.uZ (az _) (I1.bE.fresh (az _))
noncomputable def XD(K:Frag)(ta:TA):TI:=fun σ H R=>ta σ H fun vs H1=>∃a xs,vs=[.ref a]∧H1 a=some (.lst xs)∧R (VQ K a) H1
theorem md{a:Expr}{ta:TA}{p pos:Pos}{elts:cq}{kt:Nat}{pt:Pos}(hg:Gl X "enumerate")(hm:X.mg "enumerate"=none)(ha:PA X [a] ta)(hs:starEach [a] X.env=[(false,eval a X.env)]:=by rfl):
 PI X (.Tuple elts kt pt) (.Call (.Name "enumerate" p) [a] [] pos) (XD X.K ta):=by
 intro pins s σ H R I h;refine Call_ (mE I hg hm Boot.«enumerate» (qV (cC (ha pos pins s σ H _ I h) fun us s1 ⟨vs,H1,I1,r1,q1⟩=> ?_) hs rfl));obtain⟨l,xs,e,hq,q⟩:=q1;subst e;obtain⟨u,rfl,ru⟩:=wS r1;cases ru;obtain⟨its,n,rv,ho,hz⟩:=I1.lst hq;refine call_enumerate_1 ho fun h' he hit hsz hk=> ?_;have I2:Inv X pins σ H1 {s1 with heap:=h'}:=I1.kept (t' :=s1.toks) hk;refine wpAny_pyIter_enum (s:={s1 with heap:=h'}) he ?_;refine⟨s1.heap.objs.size+1,[s1.heap.objs.size+1,s1.heap.objs.size],_,_,H1,rfl,I2,HR l _ _ (Nat.succ_ne_self _),⟨⟨_,he⟩,hit⟩,fun b hb=> ?_,q⟩;have hb:b=s1.heap.objs.size+1∨b=s1.heap.objs.size:=by simpa using hb
 rcases hb with rfl|rfl
 ·exact I1.uZ (gM _) (I1.bE.fresh (gM _))
 ·exact I1.uZ (az _) (I1.bE.fresh (az _))
end
structure nK(J:It)(H:Hp)(n:Nat)(Y:Nat→V→Hp→Prop):Prop where
 go:∀i H',ax H H'→i<n→J.go i H'
 vC:∀i H' x fN,ax H H'→i<n→J.vC i H' x fN→ax H' fN∧Y i x fN
 stop:∀i H',ax H H'→n≤i→J.stop i H'
theorem yd.g{J:It}{H:Hp}{xs:aA}(F:yd J H xs):nK J H xs.length (fun i x _=>xs[i]? =some x) where
 go:=F.go
 vC:=fun i H' x fN s hi h=>by
  obtain⟨e,q⟩:=F.vC i H' x fN s h;exact⟨e▸ax.refl H',q hi⟩
 stop:=F.stop
theorem G9{K:Frag}{a:Addr}{xs:aA}{H:Hp}(h:bw K H a xs):yd (Itv K a xs.length) H xs.reverse where
 go:=fun i H' s hi=>⟨by simpa using hi,xs,s.seq h,rfl⟩
 vC:=fun i H' x fN s q=>⟨q.1,fun hi=>by
  have hi:i<xs.length:=by simpa using hi
  rw[List.getElem?_reverse hi];exact q.2 xs (s.seq h)⟩
 stop:=fun i H' s hi=>by
  show xs.length≤i;simpa using hi
theorem zB{K:Frag}{a:Addr}{xs:aA}{H:Hp}(h:bw K H a xs):nK (VQ K a) H xs.length (fun i x H' =>∃T y,x= .ref T∧H' T=some (.tup [.int i,y])∧xs[i]? =some y) where
 go:=fun i H' s hi=>⟨xs,xs[i],s.seq h,by simp[hi]⟩
 vC:=fun i H' x fN s hi q=>by
  obtain⟨T,y,rfl,hT,rfl,hy⟩:=q;exact⟨ax.upd hT,T,y,rfl,ae,hy xs (s.seq h)⟩
 stop:=fun i H' s hi=>⟨xs,s.seq h,hi⟩
theorem hU{J:It}{n k:Nat}{js:List Nat}{Y:Nat→V→Hp→Prop}{g:TG}{tt:TT}{te:TE}{σ:St}{H:Hp}{Q:VK}(pb:Nat→Bool)(fe:Nat→V)(F:nK J H n Y)(hlen:n≤sizeLine)
 (gW:∀(i:Nat) (x:V) (H' :Hp) (C1:V→Hp→Prop) (C0:Hp→Prop),i<n→ax H H'→Y i x H'→(pb i=true→∀fN,ax H' fN→C1 (fe i) fN)→(pb i=false→∀fN,ax H' fN→C0 fN)→
  g x (tm k js σ) H' fun iy H2=>eM (tm k js σ) iy∧tt iy H2 fun b H3=>if b=true then te iy H3 C1 else C0 H3)
 (hq:∀p H',H p=none→ax H H'→H' p=some (.lst (((List.range n).filter pb).map fe))→Q (.ref p) H'):
 iw J k js g tt te σ H Q:=by
 intro p hp;refine⟨fun i m ys H' =>m=n - i∧i≤n∧ys=((List.range i).filter pb).map fe∧H' p=some (.lst ys)∧ax H H',⟨n,rfl,cB _,rfl,ae,ax.upd hp⟩,?_⟩
 rintro i m ys H' ⟨rfl,hi,rfl,hl,hs⟩
 refine⟨hl,?_⟩;by_cases dS:i<n
 ·refine .inr ⟨F.go i _ hs dS,?_,fun x fN hy=> ?_⟩
  ·rw[aN];have h1:((List.range i).filter pb).length≤(List.range i).length:=jh _ _;rw[fz] at h1;omega
  ·obtain⟨s1,y1⟩:=F.vC i _ x fN hs dS hy
   have et:(List.range (i+1)).filter pb=(List.range i).filter pb++(if pb i=true then[i] else[]):=by
    rw[pG,g9];cases hb:pb i<;>simp[hb]
   refine gW i x fN _ _ dS (hs.trans s1) y1 (fun hb H3 s3=>⟨s3 _ _ (s1 _ _ hl),n - (i+1),by omega,rfl,dS,?_,ae,?_⟩) (fun hb H3 s3=>⟨n - (i+1),by omega,rfl,dS,?_,s3 _ _ (s1 _ _ hl),(hs.trans s1).trans s3⟩)
   ·rw[et,aC hb,cg];rfl
   ·intro c o e;rw[af (aq e hp)];exact s3 _ _ (s1 _ _ (hs _ _ e))
   ·rw[et,hb];simp
 ·have e:i=n:=by omega
  subst e;exact .inl ⟨F.stop _ _ hs (az _),hq p H' hp hs hl⟩
mutual
inductive Dat (H:Hp):V→PyData→Prop
 |bK:Dat H .bK .none
 |bl (b:Bool):Dat H (.bl b) (.bool b)
 |int (i:Int):Dat H (.int i) (.int i)
 |str (x:Str):Dat H (.str x) (.str x)
 |lst {a:Addr} {xs:aA} {ds:List PyData} (e:H a=some (.lst xs)) (h:DatAll H xs ds):Dat H (.ref a) (.list ds)
 |tup {a:Addr} {xs:aA} {ds:List PyData} (e:H a=some (.tup xs)) (h:DatAll H xs ds):Dat H (.ref a) (.tuple ds)
inductive DatAll (H:Hp):aA→List PyData→Prop
 |nil:DatAll H [] []
 |cons {x:V} {xs:aA} {d:PyData} {ds:List PyData} (h:Dat H x d) (t:DatAll H xs ds):DatAll H (x::xs) (d::ds)
end
mutual
theorem Dat.reads{P:Program}{w:World}{H:Hp}{h:Heap}(ok:qd P w H h):∀{v:V} {d:PyData} {u:Value},Dat H v d→RelV v u→(∃as,Reads h u d as)∧d.hasDict=false
 |_,_,_,.bK,r=>by cases r;exact⟨⟨_,.none⟩,by simp only[PyData.hasDict]⟩
 |_,_,_,.bl b,r=>by cases r;exact⟨⟨_,.bool b⟩,by simp only[PyData.hasDict]⟩
 |_,_,_,.int i,r=>by obtain⟨t,rfl⟩:=r;exact⟨⟨_,.int i t⟩,by simp only[PyData.hasDict]⟩
 |_,_,_,.str x,r=>by obtain⟨t,rfl⟩:=r;exact⟨⟨_,.str x t⟩,by simp only[PyData.hasDict]⟩
 |_,_,_,.lst e hd,r=>by
  cases r;obtain⟨z,its,n,rv,ho⟩:=(show bx P w H h _ (.lst _) from ok _ _ e);obtain⟨⟨as,q⟩,hh⟩:=DatAll.reads ok hd rv;exact⟨⟨_,.list ho rfl rfl (by simpa using q)⟩,by simp only[PyData.hasDict];exact hh⟩
 |_,_,_,.tup e hd,r=>by
  cases r;obtain⟨z,its,rv,o,ho,hc,n,IS⟩:=(show bx P w H h _ (.tup _) from ok _ _ e);obtain⟨⟨as,q⟩,hh⟩:=DatAll.reads ok hd rv;exact⟨⟨_,.tuple ho hc IS (by simpa using q)⟩,by simp only[PyData.hasDict];exact hh⟩
theorem DatAll.reads{P:Program}{w:World}{H:Hp}{h:Heap}(ok:qd P w H h):∀{xs:aA} {ds:List PyData} {us:aP},DatAll H xs ds→Vals xs us→(∃as,ReadsAll h us ds as)∧PyData.hasDictAll ds=false
 |_,_,_,.nil,.nil=>⟨⟨_,.nil⟩,by simp only[PyData.hasDictAll]⟩
 |_,_,_,.cons hd t,.cons r rr=>by
  obtain⟨⟨as,q⟩,h1⟩:=Dat.reads ok hd r;obtain⟨⟨bs,q'⟩,h2⟩:=DatAll.reads ok t rr;exact⟨⟨_,.cons q q'⟩,by simp only[PyData.hasDictAll,h1,h2,Bool.or_self]⟩
end
mutual
theorem Dat.same{H H' :Hp}(s:ax H H'):∀{v:V} {d:PyData},Dat H v d→Dat H' v d
 |_,_,.bK=> .bK
 |_,_,.bl b=> .bl b
 |_,_,.int i=> .int i
 |_,_,.str x=> .str x
 |_,_,.lst e h=> .lst (s _ _ e) (DatAll.same s h)
 |_,_,.tup e h=> .tup (s _ _ e) (DatAll.same s h)
theorem DatAll.same{H H' :Hp}(s:ax H H'):∀{xs:aA} {ds:List PyData},DatAll H xs ds→DatAll H' xs ds
 |_,_,.nil=> .nil
 |_,_,.cons h t=> .cons (Dat.same s h) (DatAll.same s t)
end
section
variable{X:Cx}
theorem BE(hg:X.A.guards=some [])(hu:X.A.units+100<cLine):ee X (.builtin "repr") (fun xs H Q=>∃v d,xs=[v]∧Dat H v d∧d.showable=true∧d.depth≤90∧d.shown.length≤sizeLine∧Q (.str d.shown) H):=by
 intro pins s σ H xs us Q I r h;obtain⟨v,d,rfl,hd,hs,hdp,hz,q⟩:=h;obtain⟨u,rfl,ru⟩:=wS r;have flat:∀{h' :Heap} {tk:Nat} (t:Tok),(∀b o,s.heap.get? b=some o→h'.get? b=some o)→EP X pins σ Q (.str d.shown t) {s with heap:=h',toks:=tk}:=fun{h' tk} t k=>⟨.str d.shown,H,I.kept k,⟨t,rfl⟩,q⟩;obtain⟨⟨as,rd⟩,nd⟩:=hd.reads I.bE ru
 cases hd with
 |bK=>cases ru;exact PySem.P.repr_of_none (flat _ fun _ _ e=>e)
 |bl b=>cases ru;exact PySem.P.repr_of_bool (by have:=flat (h' :=s.heap) (tk:=s.toks+1) s.toks fun _ _ e=>e;simpa only[PyData.shown] using this)
 |int i=>
  obtain⟨t,rfl⟩:=ru;have En :i.natAbs.log2<1920:=by simpa[PyData.showable] using hs
  exact PySem.P.repr_of_int En (by have:=flat (h' :=s.heap) (tk:=s.toks+1) s.toks fun _ _ e=>e;simpa only[PyData.shown] using this)
 |str x=>
  obtain⟨t,rfl⟩:=ru;refine PySem.P.repr_of_str (by have:=flat (h' :=s.heap) (tk:=s.toks+1) s.toks fun _ _ e=>e;simpa only[PyData.shown] using this) (by simpa only[PyData.shown] using hz)
 |lst e hx=>
  cases ru;exact repr_of_reads' rd hs (PyData.noDict_hsm nd) hg (by lia) (fun _ _ e=>e) (fun h' t tk k=>flat t k) hz
 |tup e hx=>
  cases ru;exact repr_of_reads' rd hs (PyData.noDict_hsm nd) hg (by lia) (fun _ _ e=>e) (fun h' t tk k=>flat t k) hz
end
section
variable{X:Cx}{e Iq:Expr}{te ts:TE}{pos p2:Pos}
noncomputable def TB(K:Frag)(te ts:TE):TE:=fun σ H Q=>te σ H fun x H1=>Ge ts σ H1 fun o H2=>∃a xs,x= .ref a∧o=some (-1)∧bw K H2 a xs∧∀p,H2 p=none→Q (.ref p) (upd H2 p (.lst xs.reverse))
theorem D1(he:PE X e te)(fC:PE X Iq ts):PE X (.Subscript e (.Slice none none (some Iq) p2) pos) (TB X.K te ts):=by
 intro pins s σ H Q I h;refine Subscript_ (cC (he pins s σ H _ I h) fun v s1 ⟨x,H1,I1,r1,q1⟩=> ?_);refine wpAny_Slice ?_;rw[x_];refine aB ?_;refine aB ?_;refine cC (i5 fC pins s1 σ H1 _ I1 q1) fun vs s2 ⟨o,H2,I2,ps,a,xs,hx,ho,hq,q⟩=> ?_;subst ho hx;cases r1;have I4:Inv X pins σ H2 {s2 with heap:=s2.heap.push {cls:= .type "slice",data:= .fields #[.none,.none,vs]}}:=I2.kept (t' :=s2.toks) fun b ob q=>bT _ q;obtain⟨its,r,ht,hz⟩:=I4.list hq;have hlen:=r.length;show wpAny (model X.prog X.w) X.A (subscriptTail e (.Slice none none (some Iq) p2) (.ref a) (.ref s2.heap.objs.size)) (EP X pins σ Q) X.xe {s2 with heap:=s2.heap.push {cls:= .type "slice",data:= .fields #[.none,.none,vs]}};refine tail_any (ops:=[.ref a,.ref s2.heap.objs.size]) ht.isList.typeIs slot_list_getitem.lookup ?_ (by with_unfolding_all rfl);refine CB ht.isList (CK ..) .none .none ps (by simp) ?_ (by rw[bZ]<;>lia);rw[PySem.W.krv_pick];refine⟨.ref _,_,I4.laid (t' :=s2.toks) (o:= .lst xs.reverse) (fun b ob q=>bT _ q) (az _) ?_,rfl,q _ ?_⟩
 ·exact⟨by rw[xC];exact hz,_,0,(by simpa using r.reverse),bI _ rfl⟩
 ·exact I4.bE.fresh (az _)
end
theorem IK:typeLookup (.type "list_reverseiterator") "__len__"=pure none:=by rw[typeLookup_type,CY];kernel_rfl
theorem Ky:typeLookup (.type "list_reverseiterator") "__length_hint__"=pure (some (.builtin "list_reverseiterator.__length_hint__")):=by rw[typeLookup_type,CY];kernel_rfl
section
variable{prog:Program}{w:World}{A:Around}{E:Value→Shared→Prop}{s:Shared}
theorem EE{R:Result→Shared→Prop}(hh:A.handled=none){l J S:Addr}{items:Array Value}(hlJ:l≠J)(hSJ:S≠J)(N_:S≠l)(res:Value)(c₀:Nat)(hS:s.heap.get? S=some {cls:= .type "list",data:= .seq #[] c₀})
 (hit:s.heap.IsRevIter J l ((items.size:Int) - 1)) (hl:s.heap.IsList l items)
 (hR:∀h' tk yu c',(∀b o,b≠S→b≠J→s.heap.get? b=some o→h'.get? b=some o)→h'.get? S=some {cls:= .type "list",dict:=none,data:= .seq yu c',slots:= #[]}→
  ItemsOf (fun i v=>items[items.size - 1 - i]? =some v) yu items.size→R (.ok (.ret res)) {s with heap:=h',toks:=tk}) (hn:items.size≤sizeLine):
 wpAny (model prog w) A.in1 (Builtin.List.listExtendWith (.ref S) (.ref J) res)
  (fun fin s' =>match fin with| .done f=>R (.ok f) s' | .again c' =>c'.quiet=true∧codeAny (model prog w) A c' R s') (fun e s' =>R (.error e) s') s:=by
 have W:=(Walks.listRev (prog:=prog) (w:=w) (A:=A.in1) hh J l hlJ items).toS;have fC:(0:Nat)≤items.size∧s.heap.IsRevIter J l ((items.size:Int) - 1 - ((0:Nat):Int))∧s.heap.IsList l items:=⟨cB _,by simpa using hit,hl⟩
 have hSf:S∉[J,l]:=fun hm=>by
  have hm:S=J∨S=l:=by simpa using hm
  rcases hm with h|h
  ·exact hSJ h
  ·exact N_ h
 unfold Builtin.List.listExtendWith;refine ag (wpAny_typeOf (T:="list_reverseiterator") hit.typeIs ?_);have h1:Builtin.List.listSameRef (.ref S) (.ref J)=false:=by simp[Builtin.List.listSameRef,hSJ]
 rw[au (by rw[h1];decide)];refine ag (BK hit ?_);refine ag (g7 ?_);unfold Builtin.List.listLengthHint;refine ag (wpAny_specialOf hit.typeIs IK ?_);show wpAny _ A.in1 (specialOf (Value.ref J) (Str.ofString "__length_hint__")>>= _) _ _ _;refine ag (wpAny_specialOf hit.typeIs Ky ?_)
 (generalize hid:("list_reverseiterator.__length_hint__" :String)=id0;(fail_if_success (clear hid id0));wp_delta;rw[show splitId id0=some ("list_reverseiterator","__length_hint__") from by subst hid;decide+kernel];subst hid)
 refine ag (rG (b:=true) hit.typeIs (by rw[isSubtype_type];kernel_rfl) ?_);refine aB ?_;rw[au (by decide)];refine aB ⟨pU pR _,codeAny_extend_loopS W hn _ hSf _ items.size 0 _ _ _ rfl (cB _) fC hS (ItemsOf.nil _) fun s' yu c' hm FX fY=> ?_⟩;rw[Moved.eq_with hm];refine hR s'.heap s'.toks yu c' (fun b ob hb hbJ e=>hm.heap b ob (fun Uu=> ?_) e) FX fY;rcases bq.mp Uu with e' |Uu
 ·exact hb e'
 ·exact hbJ (cw.mp Uu)
theorem Ak{Q:Value→Shared→Prop}(hh:A.handled=none){l J:Addr}{items:Array Value}(hlJ:l≠J)(hit:s.heap.IsRevIter J l ((items.size:Int) - 1))(hl:s.heap.IsList l items)
 (hQ:∀h' tk yu c',(∀b o,b≠J→s.heap.get? b=some o→h'.get? b=some o)→h'.get? s.heap.objs.size=some {cls:= .type "list",dict:=none,data:= .seq yu c',slots:= #[]}→
  ItemsOf (fun i v=>items[items.size - 1 - i]? =some v) yu items.size→Q (.ref s.heap.objs.size) {s with heap:=h',toks:=tk}) (hn:items.size≤sizeLine):
 wpAny (model prog w) A (call (.type "list") [.ref J]) Q E s:=by
 have hJ:J<s.heap.objs.size:=by obtain⟨o,e,_⟩:=hit;exact bh e
 have hL:l<s.heap.objs.size:=by obtain⟨o,e,_⟩:=hl;exact bh e
 refine callType_codes (Q₁:=fun obj cD=>obj= .ref s.heap.objs.size∧cD={s with heap:=s.heap.push {cls:= .type "list",data:= .seq #[]}}) F.called_list (F.typeCall_list_1 _) F.entry_list_init
  (code_list_new _ ⟨rfl,rfl⟩) fun obj cD yV=> ?_
 obtain⟨rfl,rfl⟩:=yV;have hS:(s.heap.push {cls:= .type "list",data:= .seq #[]}).get? s.heap.objs.size=some {cls:= .type "list",data:= .seq #[]}:=bI _ rfl;refine⟨⟨_,hS,rfl⟩,F.args_list_init_2 _ _,?_⟩;show wpAny _ _ (do let old←Builtin.List.listItems (.ref s.heap.objs.size);Builtin.List.listUpdate (.ref s.heap.objs.size) (fun _=> #[]);letGo old.toList.reverse;Builtin.List.listExtendWith (.ref s.heap.objs.size) (.ref J) .none) _ _ _;refine ag ?_;unfold Builtin.List.listItems;refine ag (wpAny_seqItems hS rfl (aB ?_));show wpAny _ _ (updateSeq s.heap.objs.size (fun _=> #[])>>= fun _=>letGo (#[]:Array Value).toList.reverse>>= fun _=>Builtin.List.listExtendWith (.ref s.heap.objs.size) (.ref J) .none) _ _ _;refine ag (tT hS rfl ?_);have Xc:=jc (Obj.mapSeq (fun _=>(#[]:Array Value))) hS rfl
 have U7:∀b o,b≠s.heap.objs.size→s.heap.get? b=some o→((s.heap.push {cls:= .type "list",data:= .seq #[]}).update s.heap.objs.size (Obj.mapSeq (fun _=>(#[]:Array Value)))).get? b=some o:=
  fun b o hb e=>(qX _ _ (dt hb)).trans (bT _ e)
 refine ag (rM ?_);refine EE (A:=A.in1) hh hlJ (eh hJ) (eh hL) .none _ Xc (hit.at fun o e=>U7 _ o (bF hJ) e) (hl.at fun o e=>U7 _ o (bF hL) e) (fun h' tk yu c' hk FX fY=> ?_) hn;exact⟨rfl,hQ h' tk yu c' (fun b o hbJ e=>hk b o (bF (bh e)) hbJ (U7 b o (bF (bh e)) e)) FX fY⟩
end
section
variable{X:Cx}{e:Expr}{ta:TA}{p p' pos pos' :Pos}
noncomputable def L9(K:Frag)(ta:TA):TE:=fun σ H Q=>ta σ H fun vs H1=>∃a xs,vs=[.ref a]∧bw K H1 a xs∧∀l,H1 l=none→Q (.ref l) (upd H1 l (.lst xs.reverse))
theorem II{items:aP}{acc:Array Value}(h:ItemsOf (fun i v=>items.toArray[items.toArray.size - 1 - i]? =some v) acc items.toArray.size):acc.toList=items.reverse:=by
 obtain⟨h1,h2⟩:=h;have hs:items.toArray.size=items.length:=bZ;apply pS;intro i;by_cases hi:i<items.length
 ·rw[List.getElem?_reverse hi];have C6 :i<acc.size:=by lia
  have e:acc[i]? =some acc[i]:=by simp[C6]
  have q:=h2 i acc[i] e;rw[hs] at q;rw[Cr,e,←q];simp
 ·have e1:acc.toList[i]? =none:=gB (by rw[xB];lia);have e2:items.reverse[i]? =none:=gB (by rw[xC];lia);rw[e1,e2]
theorem Fi(hc:X.calm=true)(hg:Gl X "list")(hm:X.mg "list"=none)(hg' :Gl X "reversed")(V_ :X.mg "reversed"=none)(ha:PA X [e] ta)(hs:starEach [e] X.env=[(false,eval e X.env)]:=by rfl)
 (En :starEach [Expr.Call (.Name "reversed" p') [e] [] pos'] X.env=[(false,eval (.Call (.Name "reversed" p') [e] [] pos') X.env)]:=by rfl):
 PE X (.Call (.Name "list" p) [.Call (.Name "reversed" p') [e] [] pos'] [] pos) (L9 X.K ta):=by
 intro pins s σ H Q I h;refine sk (mE I hg hm Boot.«list» ?_);refine qV ?_ En rfl;rw[En];show wpAny _ _ (spliced ((false,eval (.Call (.Name "reversed" p') [e] [] pos') X.env)::backTo pos [])) _ _ s;refine oW (Call_ (mE I hg' V_ Boot.«reversed» (qV (cC (ha pos' pins s σ H _ I h) fun us s1 ⟨vs,H1,I1,r1,q1⟩=> ?_) hs rfl)));obtain⟨l,xs,ev,hq,q⟩:=q1;subst ev;obtain⟨u,rfl,ru⟩:=wS r1;cases ru;obtain⟨its,rv,pl,hz⟩:=I1.list hq;have hl:=rv.length;refine call_reversed_list pl.isList ?_;refine sf ?_;have Ac:l<s1.heap.objs.size:=by obtain⟨o,e,_⟩:=pl.isList;exact bh e
 have I2:Inv X pins σ H1 {s1 with heap:=s1.heap.push (revObj l ((its.toArray.size:Int) - 1))}:=I1.kept (t' :=s1.toks) fun b o e=>bT _ e;refine Ak (s:={s1 with heap:=s1.heap.push (revObj l ((its.toArray.size:Int) - 1))}) (I1.ok.hd hc) (l:=l) (J:=s1.heap.objs.size) (items:=its.toArray) (bF Ac) ⟨_,bI _ rfl,rfl,rfl⟩ (pl.isList.push _) (fun h' tk yu c' hk FX fY=> ?_) (by rw[bZ];lia);have f1:=I1.uZ (H' :=H1) (az s1.heap.objs.size) (I1.bE.fresh (az _));have er:=II fY;have hsz:(s1.heap.push (revObj l ((its.toArray.size:Int) - 1))).objs.size=s1.heap.objs.size+1:=pC ..;have Fc:H1 (s1.heap.objs.size+1)=none:=I1.bE.fresh (gM _);have Uk:h'.get? (s1.heap.objs.size+1)=some {cls:= .type "list",dict:=none,data:= .seq yu c',slots:= #[]}:=by rw[←hsz];exact FX
 have iB:∀b u,H1 b=some u→b≠s1.heap.objs.size:=fun b u q z=>by rw[z,f1.1] at q;cases q
 have I3:Inv X pins σ (upd H1 (s1.heap.objs.size+1) (.lst xs.reverse)) {s1 with heap:=h',toks:=tk}:=by
  refine Inv.step (s:={s1 with heap:=s1.heap.push (revObj l ((its.toArray.size:Int) - 1))}) I2 (g' :=s1.gens) (d' :=s1.drawn) (ch:=[s1.heap.objs.size]) (fun b hb=> ?_) (fun b o _ _ hc q _=>hk b o (fun z=>hc (by simp[z])) q) (fun b o _ _ hc q _=>⟨o.slots,hk b o (fun z=>hc (by simp[z])) q⟩)
   (fun b o _ q n=> ?_) (fun b o hc q=>⟨o,hk b o (fun z=>hc (by simp[z])) q⟩) (fun b ys q=> ?_) (fun b o ys q=> ?_) (fun b ps q=>⟨#[],?_⟩) (fun m hm=> ?_) (fun b u q=> ?_) I1.bare
  ·have hb:b=s1.heap.objs.size:=by simpa using hb
   subst hb;exact⟨f1.2.2.2.1,f1.2.1,f1.2.2.2.2.1,f1.2.2.2.2.2⟩
  ·have hb:=bh q;have hb:b<s1.heap.objs.size+1:=by rw[←hsz];exact hb
   rw[af (bF hb)];exact n
  ·rw[af (aq q Fc)];exact q
  ·rw[af (aq q Fc)];exact q
  ·rw[af (aq q Fc),q];simp
  ·obtain⟨o,es,ep,q,r⟩:=hm;exact⟨o,es,ep,hk _ o (dt f1.2.1) q,r⟩
  ·by_cases hb:b=s1.heap.objs.size+1
   ·subst hb;rw[ae] at q;cases q;refine⟨by rw[xC];exact hz,its.reverse,c',rv.reverse,?_⟩;rw[Uk,←er]
   ·rw[af hb] at q;refine(I2.bE b u q).qQ (fun c v hc q' =>hk c v ?_ q') (fun c q' => ?_) fun c ys q' => ?_
    ·rcases hc with z|z
     ·rw[z];exact iB b u q
     ·exact iB c _ z
    ·rw[af (aq q' Fc)];exact q'
    ·rw[af (aq q' Fc)];exact q'
 rw[hsz];exact⟨.ref (s1.heap.objs.size+1),_,I3,rfl,q _ Fc⟩
end
section
variable{X:Cx}{K:Frag}
theorem sY(hK:X.K=K):Ld X (S7 K):=hK▸a7
theorem OW(hK:X.K=K):Ld X (WK K):=hK▸bH
theorem qC(hK:X.K=K):kW X (compareOp .In) (rIn K false):=hK▸Bz
theorem Ap(hK:X.K=K):ee X (.builtin "len") (fun xs H Q=>∃p ys,xs=[.ref p]∧(bw K H p ys∨gg K H p ys)∧Q (.int ys.length) H):=hK▸bA
theorem Pg{e:Expr}{f:Str}{pos:Pos}{ta:TE}(hK:X.K=K)(he:PE X e ta)(hb:attributeBase e f X.env (eval e X.env)=eval e X.env):PE X (.Attribute e f pos) (OS K ta f):=hK▸LC he hb
theorem xM{es:cq}{k:Nat}{t:QU}{n:Nat}{pos:Pos}(hK:X.K=K)(hc:X.calm=true)(h:PGs X es t)(hn:(assignEach es X.env).length=n)(fC:(assignEach es X.env).findIdx? (·.1)=none):PG X (.Tuple es k pos) (ZK K n t):=hK▸EF hc h hn fC
end
section
variable{X:Cx}{tg:Expr}
end
section
variable{X:Cx}{tg:Expr}
end
section
variable{X:Cx}{pins:aZ}{σ:St}{H:Hp}{s:Shared}{h' :Heap}
theorem Inv.Pb{t' :Nat}{ch:aH}(I:Inv X pins σ H s)(hf:∀b∈ch,p5 X pins H b)(k:∀b o,b∉ch→s.heap.get? b=some o→h'.get? b=some o):Inv X pins σ H {s with heap:=h',toks:=t'}:=by
 have Jc:∀b u,H b=some u→b∉ch:=fun b u e z=>by rw[(hf b z).1] at e;cases e
 have hL:X.env.locals∉ch:=fun z=>(hf _ z).2.1 rfl
 refine I.step (g' :=s.gens) (d' :=s.drawn) (ch:=ch) (fun b hb=> ?_) (fun b o _ _ hc e _=>k b o hc e) (fun b o _ _ hc e _=>⟨o.slots,k b o hc e⟩) (fun _ _ _ _ n=>n)
  (fun b o hc e=>⟨o,k b o hc e⟩) (fun _ _ e=>e) (fun _ _ _ e=>e) (fun b ps e=>⟨#[],by rw[e];simp⟩) (fun m hm=> ?_) (fun b u e=> ?_) I.bare
 ·obtain⟨f0,f1,f2,f3,f4,f5⟩:=hf b hb;exact⟨f3,f1,f4,f5⟩
 ·obtain⟨o,es,ep,ho,r⟩:=hm;exact⟨o,es,ep,k _ o hL ho,r⟩
 ·refine(I.bE b u e).qQ (fun c v hc q=>k c v ?_ q) (fun _ q=>q) fun _ _ q=>q;rcases hc with z|z
  ·rw[z];exact Jc b u e
  ·exact Jc c _ z
theorem Inv.GW{t' :Nat}{ch:aH}{xs:aA}(I:Inv X pins σ H s)(hf:∀b∈ch,p5 X pins H b)(k:∀b o,b∉ch→s.heap.get? b=some o→h'.get? b=some o)
 (new:bx X.prog X.w (upd H s.heap.objs.size (.tup xs)) h' s.heap.objs.size (.tup xs)):Inv X pins σ (upd H s.heap.objs.size (.tup xs)) {s with heap:=h',toks:=t'}:=by
 have AH:H s.heap.objs.size=none:=I.bE.fresh (az _);have Jc:∀b u,H b=some u→b∉ch:=fun b u e z=>by rw[(hf b z).1] at e;cases e
 have hL:X.env.locals∉ch:=fun z=>(hf _ z).2.1 rfl
 refine I.step (g' :=s.gens) (d' :=s.drawn) (ch:=ch) (fun b hb=> ?_) (fun b o _ _ hc q _=>k b o hc q) (fun b o _ _ hc q _=>⟨o.slots,k b o hc q⟩)
  (fun b o _ q n=> ?_) (fun b o hc q=>⟨o,k b o hc q⟩) (fun b ys q=> ?_) (fun b o ys q=> ?_) (fun b ps q=>⟨#[],?_⟩) (fun m hm=> ?_) (fun b u q=> ?_) I.bare
 ·obtain⟨f0,f1,f2,f3,f4,f5⟩:=hf b hb;exact⟨f3,f1,f4,f5⟩
 ·rw[af (bF (bh q))];exact n
 ·rw[af (aq q AH)];exact q
 ·rw[af (aq q AH)];exact q
 ·rw[af (aq q AH),q];simp
 ·obtain⟨o,es,ep,q,r⟩:=hm;exact⟨o,es,ep,k _ o hL q,r⟩
 ·by_cases hb:b=s.heap.objs.size
  ·subst hb;rw[ae] at q;cases q;exact new
  ·rw[af hb] at q;refine(I.bE b u q).qQ (fun c v hc q' =>k c v ?_ q') (fun c q' => ?_) fun c ys q' => ?_
   ·rcases hc with z|z
    ·rw[z];exact Jc b u q
    ·exact Jc c _ z
   ·rw[af (aq q' AH)];exact q'
   ·rw[af (aq q' AH)];exact q'
end
noncomputable def Itz(K:Frag)(a b:Addr):It:=
 ⟨fun i H=>∃xs ys x y,bw K H a xs∧bw K H b ys∧xs[i]? =some x∧ys[i]? =some y,
  fun i H v H' =>∃T x y,v= .ref T∧H T=none∧H' =upd H T (.tup [x,y])∧(∀xs,bw K H a xs→xs[i]? =some x)∧∀ys,bw K H b ys→ys[i]? =some y,
  fun i H=>∃xs ys,bw K H a xs∧bw K H b ys∧(xs.length≤i∨ys.length≤i)⟩
theorem Kp{P:Program}{w:World}{K:Frag}{elts:cq}{kt:Nat}{pt:Pos}(l1 l2 z TI TO i1 i2:Addr)(D:ZipApart z TI TO i1 i2 l1 l2):
 Turn P w K (.Tuple elts kt pt) (Itz K l1 l2) [z,TI,TO,i1,i2] z (fun i h=>IsZip h z TI TO .none∧IsPair h TI (.ref i1) (.ref i2)∧(∃a b,IsPair h TO a b)∧h.IsListIter i1 l1 i∧h.IsListIter i2 l2 i) where
 mem:=by simp
 obj:=fun i h st b hb=>by
  obtain⟨hz,O0,⟨a,c,Rx⟩,⟨o1,h1,c1,d1⟩,⟨o2,h2,c2,d2⟩⟩:=st;have hb:b=z∨b=TI∨b=TO∨b=i1∨b=i2:=by simpa using hb
  rcases hb with rfl|rfl|rfl|rfl|rfl
  ·exact⟨_,hz,fun v z=>by cases z⟩
  ·exact⟨_,O0,fun v z=>by cases z⟩
  ·exact⟨_,Rx,fun v z=>by cases z⟩
  ·exact⟨o1,h1,fun v z=>by rw[d1] at z;cases z⟩
  ·exact⟨o2,h2,fun v z=>by rw[d2] at z;cases z⟩
 keep:=fun i h h' st k=>by
  obtain⟨hz,O0,⟨a,b,Rx⟩,h1,h2⟩:=st;exact⟨k z (by simp) _ hz,k TI (by simp) _ O0,⟨a,b,k TO (by simp) _ Rx⟩,h1.at fun o e=>k i1 (by simp) o e,h2.at fun o e=>k i2 (by simp) o e⟩
 item:=by
  intro X hP hw hK hc i pins s σ H E I hf st hg;subst hP hw hK;obtain⟨xs,ys,x,y,hq,Ta,hx,hy⟩:=hg;obtain⟨its,rv,p,hzz⟩:=I.list hq;obtain⟨tq,rv2,p2,afW⟩:=I.list Ta;obtain⟨u,hu,ru⟩:=rv.get hx;obtain⟨u2,hu2,ru2⟩:=rv2.get hy;obtain⟨hz,O0,⟨a,b,Rx⟩,h1,h2⟩:=st;refine wpAny_pyNext_zip_item D hz O0 Rx h1 h2 p.isList p2.isList (x:=u) (y:=u2) (by simpa using hu) (by simpa using hu2) fun h' a1 a2 a3 a4 a5 a6 hk=> ?_;refine⟨.ref s.heap.objs.size,rfl,?_⟩;refine wpAny_letOwnedTupleGo_zip a1 fun Hz agC vg => ?_;have lt:∀{c o},s.heap.get? c=some o→s.heap.objs.size≠c:=fun e=>eh (bh e);have z0:∀{c},(∃o,s.heap.get? c=some o)→c<s.heap.objs.size:=fun⟨o,e⟩=>bh e;have AH:H s.heap.objs.size=none:=I.bE.fresh (az _);have K_ :Hz.get? s.heap.objs.size=some {cls:= .type "tuple",data:= .seq #[u,u2]}:=(vg.2 _ (lt hz)).trans a5;have kk:∀c o,c∉[z,TI,TO,i1,i2]→s.heap.get? c=some o→Hz.get? c=some o:=fun c o hc q=>(vg.2 c (fun x=>hc (by simp[x]))).trans (hk c o (fun x=>hc (by simp[x])) (fun x=>hc (by simp[x])) (fun x=>hc (by simp[x])) (fun x=>hc (by simp[x])) q);have I2:=I.GW (t' :=s.toks) hf kk (show bx X.prog X.w (upd H s.heap.objs.size (.tup [x,y])) Hz s.heap.objs.size (.tup [x,y]) from⟨(show 2≤sizeLine by decide),[u,u2],.cons ru (.cons ru2 .nil),⟨_,K_,rfl,_,rfl⟩⟩);refine⟨.ref s.heap.objs.size,_,I2,rfl,⟨_,x,y,rfl,AH,rfl,(fun ys hy=>by rw[I.nW hy hq];exact hx),(fun ys' hy' =>by rw[I.nW hy' Ta];exact hy)⟩,⟨agC,?_,⟨_,_,(vg.2 _ D.TOz).trans a2⟩,a3.at fun o q=>(vg.2 _ D.i1z).trans q,a4.at fun o q=>(vg.2 _ D.i2z).trans q⟩,fun c hc=> ?_⟩
  ·exact(vg.2 _ D.TIz).trans (hk _ _ D.TIz D.TITO D.TIi1 D.TIi2 O0)
  ·have nC:c≠s.heap.objs.size:=fun q=>by
    subst q;have hb:s.heap.objs.size=z∨s.heap.objs.size=TI∨s.heap.objs.size=TO∨s.heap.objs.size=i1∨s.heap.objs.size=i2:=by simpa using hc
    rcases hb with q|q|q|q|q
    ·exact lt hz q
    ·exact lt O0 q
    ·exact lt Rx q
    ·obtain⟨_,e,_⟩:=h1;exact lt e q
    ·obtain⟨_,e,_⟩:=h2;exact lt e q
   rw[af nC];exact(hf c hc).1
 done:=by
  intro X hP hw hK hc i pins s σ H E I hf st hg;subst hP hw hK;obtain⟨xs,ys,hq,Ta,hx⟩:=hg;obtain⟨its,rv,p,hzz⟩:=I.list hq;obtain⟨tq,rv2,p2,afW⟩:=I.list Ta;obtain⟨hz,O0,⟨a,b,Rx⟩,h1,h2⟩:=st;have hl:=rv.length;have u_:=rv2.length;refine wpAny_pyNext_zip_end (I.ok.hd hc) D hz O0 Rx h1 h2 p.isList p2.isList ?_ fun h' hk=>⟨rfl,I.Pb (t' :=s.toks) hf fun c o hc q=>hk c o (fun x=>hc (by simp[x])) (fun x=>hc (by simp[x])) (fun x=>hc (by simp[x])) (fun x=>hc (by simp[x])) q⟩;rcases hx with hx|hx
  ·exact .inl (by simp;lia)
  ·exact .inr (by simp;lia)
 self:=fun _ _ _ _ _ st h=>wpAny_pyIter_zip st.1 h
section
variable{X:Cx}{tg:Expr}
theorem Iy(n l1 l2:Nat)(h1:l1<n)(h2:l2<n):ZipApart (n+4) (n+2) (n+3) n (n+1) l1 l2:=by
 constructor<;>(intro z;(have z' :(_:Nat)=_:=z);lia)
noncomputable def ahj(K:Frag)(ta:TA):TI:=fun σ H R=>ta σ H fun vs H1=>∃a b,vs=[.ref a,.ref b]∧(∃xs,H1 a=some (.lst xs))∧(∃ys,H1 b=some (.lst ys))∧R (Itz K a b) H1
theorem T6{a b:Expr}{ta:TA}{p pos:Pos}{elts:cq}{kt:Nat}{pt:Pos}(hg:Gl X "zip")(hm:X.mg "zip"=none)(ha:PA X [a,b] ta)(hs:starEach [a,b] X.env=[(false,eval a X.env),(false,eval b X.env)]:=by rfl)(FT:starEach [b] X.env=[(false,eval b X.env)]:=by rfl):
 PI X (.Tuple elts kt pt) (.Call (.Name "zip" p) [a,b] [] pos) (ahj X.K ta):=by
 intro pins s σ H R I h;refine Call_ (mE I hg hm Boot.«zip» (qV (cC (ha pos pins s σ H _ I h) fun us s1 ⟨vs,H1,I1,r1,q1⟩=> ?_) (by rw[hs,FT]) (by rw[FT];rfl)));obtain⟨l1,l2,e,⟨xs,hq⟩,⟨ys,Ta⟩,q⟩:=q1;subst e
 cases r1 with
 |cons r rr=>
  cases rr with
  |cons r' rr=>
   cases rr;cases r;cases r';obtain⟨its,rv,p1,hz⟩:=I1.list (bw.of hq);obtain⟨tq,rv2,p2,hz2⟩:=I1.list (bw.of Ta);refine call_zip_2 p1.isList p2.isList fun h' a1 a2 a3 a4 a5 a6 hk=> ?_;have I2:Inv X pins σ H1 {s1 with heap:=h'}:=I1.kept (t' :=s1.toks) hk;have Ab:=I1.bE.lt hq;have u_:=I1.bE.lt Ta;refine wpAny_pyIter_zip (s:={s1 with heap:=h'}) a1 ?_;refine⟨s1.heap.objs.size+4,[s1.heap.objs.size+4,s1.heap.objs.size+2,s1.heap.objs.size+3,s1.heap.objs.size,s1.heap.objs.size+1],_,_,H1,rfl,I2,Kp l1 l2 _ _ _ _ _ (Iy _ _ _ Ab u_),⟨a1,a2,⟨_,_,a3⟩,a4,a5⟩,fun b hb=> ?_,q⟩
   have hb:s1.heap.objs.size≤b:=by
    simp only[bq,cR,cV] at hb;rcases hb with rfl|rfl|rfl|rfl|rfl
    ·exact jO _ _
    ·exact jO _ _
    ·exact jO _ _
    ·exact az _
    ·exact jO _ _
   exact I1.uZ hb (I1.bE.fresh hb)
end
structure R0(K:Frag)(C:Addr)(m:Str)(f:Addr):Prop where
 sp:specialIn K (.ref C) "__getattribute__"=some (some (.builtin "type.__getattribute__"))
 rd:PySem.W.readsIn K C (.type "type")=true
 at_:PySem.W.findCls K (.ref C) (.type "type") m=some (.val (.ref f))
 kp:PySem.W.keepIn K (.ref f)=true
section
variable{X:Cx}{CX:DK}{k:Nat}{f C:Addr}{fd:FuncData}{ps:aJ}{sp:Sp}{wL:aA}{ds:aP}{E:XK}{x m:Str}{p pos apos:Pos}{e:Expr}{es:cq}{t:TA}
theorem LH{pl:Sem Bool}(c:R0 X.K C m f)(hg:Gl X x)(hm:X.mg x=some (.ref C))(F:bC X.prog X.w X.K X.mg X.base CX k f fd ps sp)(hr:eW k X.A)(hb:Binds X.K fd ps ds)(hd:Vals wL ds)(hx:zn CX X E)(ha:PA X (e::es) t)
 (Fv:(x==("__debug__" :Str))=false:=by decide) (fC:starEach (e::es) X.env=(false,eval e X.env)::starEach es X.env:=by rfl) (ma:(backTo pos (starEach es X.env)).any (·.1)=false:=by rfl)
 (ht:eval (.Call (.Attribute (.Name x p) m apos) (e::es) [] pos) X.env=(do
  let ov←eval (.Name x p) X.env
  standAt apos.atName
  let(f,first)←holding [ov] (getMethod ov m pl)
  callWith pos f first (backTo pos (starEach (e::es) X.env)) (backToKw pos (keywordEach [] X.env))):=by rfl):
 PE X (.Call (.Attribute (.Name x p) m apos) (e::es) [] pos) (Jl sp wL E t):=by
 intro pins s σ H Q I h;refine methodCall_KW (pl:=pl) (xG I hg hm ?_ Fv) ht;refine PySem.W.method_cls I.uK c.sp (PySem.W.cls_value I.uK c.rd c.at_ rfl ?_);refine callWith_K (first:=[]) (h₀:=X.base) I.ok.mod.VS c.kp (cC (ha pos pins _ σ H _ (I.tok _) h) fun us s2 ⟨vs,H2,I2,r,q2⟩=>⟨I2.uK,?_⟩) fC ma;exact CQ F hr hb hd hx I2 r q2
end
section
variable{X:Cx}{o e f:Expr}{apos f_:Pos}{td ty tx:TE}
noncomputable def Vx(td ty tx:TE):TE:=fun σ H Q=>td σ H fun x H1=>∃a,x= .ref a∧IsD H1 a∧ty σ H1 fun y H2=>tx σ H2 fun z H3=>∃kvs k,H3 a=some (.dK kvs)∧y=kV k∧kvs.length<sizeLine∧
 (∀v,bR kvs k=some v→Q v H3)∧(bR kvs k=none→Q z (upd H3 a (.dK (wv kvs k z))))
theorem Ci{pins:aZ}{σ:St}{H:Hp}{s:Shared}{a:Addr}{kvs:bQ}{k:ww}{z:V}{u r:Value}{A:Around}{E:Value→Shared→Prop}{Q:Value→Shared→Prop}(I:Inv X pins σ H s)(ea:H a=some (.dK kvs))(ry:RelV (kV k) u)(rz:RelV z r)(hl:kvs.length<sizeLine)
 (h1:∀v,bR kvs k=some v→∀w' s',Inv X pins σ H s'→RelV v w'→Q w' s') (h2:bR kvs k=none→∀s',Inv X pins σ (upd H a (.dK (wv kvs k z))) s'→Q r s'):
 wpAny (model X.prog X.w) A (call (.builtin "dict.setdefault") [.ref a,u,r]) Q E s:=by
 obtain⟨hz,hd,vs,rel,dd⟩:=wj I.bE ea
 refine mf xW dd.typeIs entry_dict_setdefault (args_dict_setdefault_3 _ _ _) (kt_meets_setdefault (bL X.prog X.w) a (tW ry) hd r)
  ⟨vs,dd,by rw[←rel.length];exact hz,fun v hv=> ?_,fun hn h' Gr hs=> ?_⟩
 ·have q:=rel.val k;rw[hv] at q
  cases e:bR kvs k with
  |none=>rw[e] at q;cases q
  |some v' =>
   rw[e] at q;exact h1 v' e v _ (I.tok _) q
 ·have q:=rel.val k;rw[hn] at q
  have e:bR kvs k=none:=by
   cases e:bR kvs k with
   |none=>rfl
   |some v' =>rw[e] at q;cases q
  have he:∃q,h'.get? a=some q:=let⟨q,_,_,hq,_⟩:=Gr;⟨q,hq⟩
  refine h2 e _ (mJ I (by rw[ea];exact True.intro) hs he (zM (by have:=d_ kvs k z;lia) hd (rel.put k rz) Gr))
theorem K1(ho:PE X o td)(he:PE X e ty)(hf:PE X f tx)(m:M2 X o "setdefault" apos e f f_):PE X (.Call (.Attribute o "setdefault" apos) [e,f] [] f_) (Vx td ty tx):=by
 intro pins s σ H Q I h;refine wpAny_Call_method m.base m.few m.line h9 xW type_dict_setdefault (cC (ho pins s σ H _ I h) fun u s1 ⟨x,H1,I1,rx,a,ex,d,q1⟩=> ?_);subst ex;obtain rfl:u=Value.ref a:=rx;obtain⟨t1,t2,_⟩:=Ez I1 d;refine⟨t1,t2,?_⟩;rw[m.trees]
 refine uc rfl (xx (oW (cC (he pins s1 σ H1 _ I1 q1) fun iv s2 ⟨y,H2,I2,ry,q2⟩=>
  oW (cC (hf pins s2 σ H2 _ I2 q2) fun fv s3 ⟨z,H3,I3,rz,kvs,k,ea,ey,hl,q3,q4⟩=>sf ?_))))
 subst ey;exact Ci I3 ea ry rz hl (fun v hv w' s4 I4 Fw =>⟨v,H3,I4,Fw,q3 v hv⟩) fun hn s4 I4=>⟨z,_,I4,rz,q4 hn⟩
end
section
variable{X:Cx}
theorem Gv:∀(ns:List Int) (i:Nat),PySem.preSum (fun j=>ns.getD j 0) i=(ns.take i).sum
 |ns,0=>by simp[PySem.preSum]
 |ns,i+1=>by
  show PySem.preSum (fun j=>ns.getD j 0) i+ns.getD i 0=_;rw[Gv ns i,ju,ya]
  cases e:ns[i]? with
  |none=>simp[bD,e]
  |some v=>simp[bD,e]
theorem D6(hc:X.calm=true):ee X (.builtin "sum") (fun xs H Q=>∃(a:Addr) (ns:List Int),xs=[.ref a]∧H a=some (.lst (ns.map V.int))∧ns.length≤2000∧(∀n∈ns,0≤n∧n≤1000000)∧Q (.int ns.sum) H):=by
 intro pins s σ H xs us Q I r h;obtain⟨a,ns,rfl,ha,hl,hb,q⟩:=h;obtain⟨u,rfl,ru⟩:=wS r;cases ru;obtain⟨its,r,pl,hz⟩:=I.list (bw.of ha);have hlen:=r.length;rw[aN] at hlen;have dS:=I.bE.lt ha;have I1:Inv X pins σ H {s with heap:=s.heap.push {cls:= .type "list_iterator",data:= .fields #[.ref a,.int 0 0]}}:=I.kept (t' :=s.toks) fun b u e=>bT _ e
 have X1:∀j,0≤ns.getD j 0∧ns.getD j 0≤1000000:=fun j=>by
  rw[bD]
  cases e:ns[j]? with
  |none=>simp
  |some v=>exact hb v (ba e)
 have ah9:∀j,0≤PySem.preSum (fun j=>ns.getD j 0) j∧PySem.preSum (fun j=>ns.getD j 0) j≤1000000*(j:Int):=by
  intro j
  induction j with
  |zero=>simp[PySem.preSum]
  |succ j ih=>
   have:=X1 j;show 0≤PySem.preSum (fun j=>ns.getD j 0) j+ns.getD j 0∧PySem.preSum (fun j=>ns.getD j 0) j+ns.getD j 0≤_
   push_cast
   lia
 refine call_sum_walk (xT pl.isList ⟨_,_,_,_,_,_,fun i=>ns.getD i 0,rfl,Walks.list (A:=X.A.in1) (I.ok.hd hc) _ a (bF dS) its.toArray,⟨⟨_,bI _ rfl,rfl,rfl⟩,pl.isList.push _⟩,?_,?_,?_,fun h' tk t' k=> ?_⟩)
 ·intro b MB;have MB :b=s.heap.objs.size∨b=a:=by simpa using MB
  show b<(s.heap.push _).objs.size;rw[pC];rcases MB with rfl|rfl
  ·exact xY _
  ·exact Nat.lt_succ_of_lt dS
 ·intro i v hv;have hv:its[i]? =some v:=by simpa using hv
  have hi:i<its.length:=(aS.mp hv).1;have hx:(ns.map V.int)[i]? =some (V.int ns[i]):=by simp[show i<ns.length by lia]
  obtain⟨u,hu,t,rfl⟩:=r.get hx;rw[hv] at hu;cases hu;refine⟨t,?_⟩;dsimp only;rw[bD,cN (by lia)];rfl
 ·intro j hj;have hj:j<its.length:=by simpa using hj
  have h1:=X1 j;have h2:=ah9 (j+1)
  push_cast at h2
  unfold PySem.InLong;dsimp only;refine⟨?_,?_⟩<;>(constructor<;>lia)
 ·refine⟨.int ns.sum,H,I1.turned (fun b o hb e=>k b o (by simpa using hb) e) (I.bE.fresh (az _)) (fun z=> ?_) (.inr I.sz) (fun x c e z=> ?_) (fun p hp z=> ?_),⟨t',?_⟩,q⟩
  ·exact absurd (z▸I.lt) (eA _)
  ·obtain⟨v,o,ho,_⟩:=I.cell x c e;exact absurd (z▸bh ho) (eA _)
  ·obtain⟨ho,_⟩:=I.pin p hp;exact absurd (z▸bh ho) (eA _)
  ·rw[Gv,bZ,←hlen,iK]
end
theorem ub{J:It}{n k:Nat}{js:List Nat}{Y:Nat→V→Hp→Prop}{g:TG}{te:TE}{σ:St}{H:Hp}{Q:VK}(E:Nat→V→Hp→Prop)(F:nK J H n Y)(hlen:n≤sizeLine)
 (fC:∀i v H1 H2,(∀c xs,H1 c=some (.tup xs)→H2 c=some (.tup xs))→E i v H1→E i v H2)
 (gW:∀(i:Nat) (x:V) (H' :Hp) (C1:V→Hp→Prop),i<n→ax H H'→Y i x H'→(∀v fN,ax H' fN→E i v fN→C1 v fN)→
  g x (tm k js σ) H' fun iy H2=>eM (tm k js σ) iy∧te iy H2 C1)
 (hq:∀p H' ys,H p=none→ax H H'→H' p=some (.lst ys)→ys.length=n→(∀i v,ys[i]? =some v→E i v H')→Q (.ref p) H'):
 iw J k js g LQ te σ H Q:=by
 intro p hp
 refine⟨fun i m ys H' =>m=n - i∧i≤n∧ys.length=i∧H' p=some (.lst ys)∧ax H H'∧∀j v,ys[j]? =some v→E j v H',
  ⟨n,rfl,cB _,rfl,ae,ax.upd hp,fun j v e=>by simp at e⟩,?_⟩
 rintro i m ys H' ⟨rfl,hi,jG,hl,hs,hE⟩
 refine⟨hl,?_⟩;by_cases dS:i<n
 ·refine .inr ⟨F.go i _ hs dS,by lia,fun x fN hy=> ?_⟩;obtain⟨s1,y1⟩:=F.vC i _ x fN hs dS hy;have hb:=gW i x fN (fun v H4=>H4 p=some (.lst ys)∧∃m',m' <n - i∧(m' =n - (i+1)∧i+1≤n∧(ys++[v]).length=i+1∧upd H4 p (.lst (ys++[v])) p=some (.lst (ys++[v]))∧ax H (upd H4 p (.lst (ys++[v])))∧∀j v',(ys++[v])[j]? =some v'→E j v' (upd H4 p (.lst (ys++[v]))))) dS (hs.trans s1) y1 ?_
  ·exact hb
  ·intro v H4 s4 e4;have GN:H4 p=some (.lst ys):=s4 _ _ (s1 _ _ hl)
   have tk:∀c xs,H4 c=some (.tup xs)→upd H4 p (.lst (ys++[v])) c=some (.tup xs):=fun c xs e=>by
    rw[af (aD e GN (by intro z;cases z))];exact e
   refine⟨GN,n - (i+1),by lia,rfl,dS,by simp[jG],ae,fun c o e=> ?_,fun j v' e=> ?_⟩
   ·rw[af (aq e hp)];exact s4 _ _ (s1 _ _ (hs _ _ e))
   ·by_cases hj:j<ys.length
    ·rw[bV hj] at e;exact fC _ _ _ _ tk (fC _ _ _ _ (fun c xs q=>s4 _ _ (s1 _ _ q)) (hE j v' e))
    ·rw[cF (by lia)] at e
     have hj2:j - ys.length=0:=by
      have:=(aS.mp e).1;simp at this
      lia
     rw[hj2] at e;cases e;have:j=i:=by lia
     subst this;exact fC _ _ _ _ tk e4
 ·have e:i=n:=by lia
  subst e;exact .inl ⟨F.stop _ _ hs (az _),hq p H' ys hp hs hl jG hE⟩
section
variable{X:Cx}{e:Expr}{ta:TA}{p pos p' pos' :Pos}
end
section
variable{X:Cx}{e lo Iq:Expr}{te tl ts:TE}{pos p2:Pos}
theorem vm{xs:aA}{us:aP}(r:Vals xs us):∀ns:List Nat,Vals (ns.filterMap (xs[·]?)) (ns.filterMap (us[·]?))
 |[]=> .nil
 |n::ns=>by
  rw[tj,tj]
  cases e:xs[n]? with
  |none=>
   have:us[n]? =none:=by
    rw[BS] at e ⊢;have:=r.length
    lia
   rw[this];exact vm r ns
  |some x=>
   obtain⟨u,hu,ru⟩:=r.get e;rw[hu];exact .cons ru (vm r ns)
end
noncomputable def Hy(X:Cx)(a:Addr):Prop:=∀o u,X.H₀ a≠some (.eX o u)
section
variable{X:Cx}{pins:aZ}{σ:St}{H:Hp}{s:Shared}{d:Addr}{kvs:bQ}
theorem Inv.nfz(I:Inv X pins σ H s)(e:H d=some (.dK kvs)):Hy X d:=fun o u q=>by
 have:=I.base.pZ d o u q;rw[e] at this;cases this
theorem Inv.swap{u:HO}{v:HO}(I:Inv X pins σ H s)(e:H d=some u)(nf:Hy X d)(h1:∀xs,u≠.tup xs)(h2:∀y,u≠.own y)(h3:∀ps,u≠.Om ps)(ok:bx X.prog X.w (upd H d v) s.heap d v):Inv X pins σ (upd H d v) s:=by
 have ne:∀b,H b=none→b≠d:=fun b q z=>by rw[z,e] at q;cases q
 refine⟨I.ok,I.os,I.bare,⟨I.base.keep,I.base.slot,fun b o q n hx=> ?_,I.base.there,fun b xs q=> ?_,fun b o w q=> ?_,fun b ps q=> ?_⟩,I.loc,I.cell,?_,fun x c q=> ?_,fun p hp=> ?_,fun b w q=> ?_,I.len⟩
 ·have:=I.base.free b o q n hx;rw[af (ne b this)];exact this
 ·have:=I.base.uM b xs q;rw[af (fun z=>by rw[z,e] at this;exact h1 xs (fH this))];exact this
 ·have:=I.base.pZ b o w q;rw[af (fun z=>nf o w (by rw[←z];exact q))];exact this
 ·obtain⟨more,this⟩:=I.base.vh b ps q;refine⟨more,?_⟩;rw[af (fun z=>by rw[z,e] at this;exact h3 _ (fH this))];exact this
 ·rw[af (ne _ I.free)];exact I.free
 ·have:=I.nj x c q;rw[af (ne _ this)];exact this
 ·obtain⟨a1,a2,a3⟩:=I.pin p hp;refine⟨a1,?_,a3⟩;rw[af (ne _ a2)];exact a2
 ·by_cases hb:b=d
  ·subst hb;rw[ae] at q;cases q;exact ok
  ·rw[af hb] at q;refine(I.bE b w q).qQ (fun c v hc q' =>q') (fun c q' => ?_) fun c ys q' => ?_
   ·rw[af (fun z=>by rw[z,e] at q';exact h2 _ (fH q'))];exact q'
   ·rw[af (fun z=>by rw[z,e] at q';exact h1 _ (fH q'))];exact q'
theorem Inv.freeze{o:Obj}(I:Inv X pins σ H s)(e:H d=some (.dK kvs))(ho:s.heap.get? d=some o):Inv X pins σ (upd H d (.eX o (.dK kvs))) s:=
 I.swap e (I.nfz e) (fun _ z=>nomatch z) (fun _ z=>nomatch z) (fun _ z=>nomatch z) ⟨ho,show bx X.prog X.w H s.heap d (.dK kvs) from I.bE d _ e⟩
theorem Inv.Wu{o:Obj}(I:Inv X pins σ H s)(e:H d=some (.eX o (.dK kvs)))(nf:Hy X d):Inv X pins σ (upd H d (.dK kvs)) s:=by
 have bE:=(show bx X.prog X.w H s.heap d (.eX o (.dK kvs)) from I.bE d _ e).2;exact I.swap e nf (fun _ z=>nomatch z) (fun _ z=>nomatch z) (fun _ z=>nomatch z) bE
end
theorem Mo{P:Program}{w:World}{k:ww}{u:Value}(h:(bL P w).is k u=true):RelV (kV k) u:=by
 have h:nI k u=true:=h
 cases k with
 |inl i=>
  cases u with
  |int j t=>
   have:j=i:=by simpa[nI,Value.isInt] using h
   subst this;exact⟨t,rfl⟩
  |_=>simp[nI,Value.isInt] at h
 |inr x=>
  cases u with
  |str y t=>
   have:y=x:=by simpa[nI,Value.isStrOf] using h
   subst this;exact⟨t,rfl⟩
  |_=>simp[nI,Value.isStrOf] at h
theorem Ew{kvs:bQ}{vs:List (ww×Value)}(r:KV kvs vs):∀{i:Nat} {p:ww×V} {k:ww} {x:Value},kvs[i]? =some p→vs[i]? =some (k,x)→p.1=k:=by
 unfold KV at r
 induction r with
 |nil=>intro i p k x h;simp at h
 | @cons a b as bs h t ih=>
  intro i p k x h1 h2
  cases i with
  |zero=>
   simp at h1 h2;subst h1 h2;exact h.1
  |succ i=>exact ih (by simpa using h1) (by simpa using h2)
noncomputable def Itk(d:Addr)(o:Obj)(kvs:bQ):It:=
 ⟨fun i H=>i<kvs.length∧H d=some (.eX o (.dK kvs)),fun i H x H' =>H' =H∧∃k v,kvs[i]? =some (k,v)∧x=kV k,fun i H=>kvs.length≤i∧H d=some (.eX o (.dK kvs))⟩
theorem IF{P:Program}{w:World}{K:Frag}{tg:Expr}(d it:Addr)(o:Obj)(kvs:bQ)(ep:Nat)(es:Array DictEntry)(hd:o.data= .dict es ep):
 Turn P w K tg (Itk d o kvs) [it] it (fun i h=>h.IsKeyIter it d i kvs.length ep) where
 mem:=by simp
 obj:=fun i h st b hb=>by
  have e:b=it:=by simpa using hb
  subst e;obtain⟨ob,e,c,dd⟩:=st;exact⟨ob,e,fun v z=>by rw[dd] at z;cases z⟩
 keep:=fun i h h' st k=>st.at fun ob e=>k it (by simp) ob e
 item:=by
  intro X hP hw hK hc i pins s σ H E I hf st hg;subst hP hw hK;obtain⟨hi,hq⟩:=hg;obtain⟨ho,z,hs,vs,rel,o',LP,Kr,g1,g2,g3,g4,g5,g6⟩:=(show bx X.prog X.w H s.heap d (.eX o (.dK kvs)) from I.bE d _ hq);rw[ho] at g1;cases g1;rw[hd] at g3;cases g3;have hl:=rel.length;obtain⟨⟨k,x⟩,hx⟩:∃p,vs[i]? =some p:=⟨vs[i],by simp[show i<vs.length by lia]⟩;obtain⟨f0,f1,f2,f3,f4,f5⟩:=hf it (by simp);rw[hl] at st;refine wpAny_pyNext_dict_item (knd:=bL X.prog X.w) st ⟨o,es,ho,g2,hd,g4,g5,g6⟩ hx fun key h' sx iE En => ?_;have I1:Inv X pins σ H {s with heap:=h'}:=I.turned (t' :=s.toks) (fun b ob hb e=>(En.2 b hb).trans e) f0 f1 f3 f4 f5;rw[←hl] at iE;obtain⟨ob,e,c,dd⟩:=id iE
  obtain⟨p,hp,Mt,DE⟩:∃p:ww×V,kvs[i]? =some p∧p.1=k∧True:=by
   have:kvs[i]? =some kvs[i]:=by simp[hi]
   exact⟨_,this,Ew rel this hx,trivial⟩
  exact⟨key,rfl,Bq (s:={s with heap:=h'}) e c dd (by decide) ⟨kV k,H,I1,Mo sx,⟨rfl,p.1,p.2,hp,by rw[Mt]⟩,iE,fun b hb=>(hf b hb).1⟩⟩
 done:=by
  intro X hP hw hK hc i pins s σ H E I hf st hg;subst hP hw hK;obtain⟨hi,hq⟩:=hg;obtain⟨ho,z,hs,vs,rel,o',LP,Kr,g1,g2,g3,g4,g5,g6⟩:=(show bx X.prog X.w H s.heap d (.eX o (.dK kvs)) from I.bE d _ hq);rw[ho] at g1;cases g1;rw[hd] at g3;cases g3;have hl:=rel.length;obtain⟨f0,f1,f2,f3,f4,f5⟩:=hf it (by simp);rw[hl] at st;exact wpAny_pyNext_dict_end (knd:=bL X.prog X.w) (I.ok.hd hc) st ⟨o,es,ho,g2,hd,g4,g5,g6⟩ (by simp;lia) fun h' eb=>⟨rfl,I.turned (t' :=s.toks) (fun b ob hb e=>eb b ob hb e) f0 f1 f3 f4 f5⟩
 self:=fun _ _ _ _ _ st h=>CD st h
section
variable{X:Cx}{tg e:Expr}{te:TE}
noncomputable def aai(X:Cx)(te:TE):TI:=fun σ H R=>te σ H fun x H1=>∃a kvs,x= .ref a∧H1 a=some (.dK kvs)∧∀o,Hy X a→R (Itk a o kvs) (upd H1 a (.eX o (.dK kvs)))
theorem Gp(he:PE X e te):PI X tg e (aai X te):=by
 intro pins s σ H R I h;refine cC (he pins s σ H _ I h) fun v s1 ⟨x,H1,I1,r1,a,kvs,ex,hq,q⟩=> ?_;subst ex;cases r1;obtain⟨z,hs,vs,rel,o,es,ep,g1,g2,g3,g4,g5,g6⟩:=wj I1.bE hq;have hl:=rel.length;refine wpAny_pyIter_dict (knd:=bL X.prog X.w) (kvs:=vs) (ep:=ep) hs ⟨o,es,g1,g2,g3,g4,g5,g6⟩ ?_;have I2:=I1.freeze hq g1;have hn:H1 s1.heap.objs.size=none:=I1.bE.fresh (az _);have hf:p5 X pins (upd H1 a (.eX o (.dK kvs))) s1.heap.objs.size:=I1.uZ (az _) (by rw[af (fun z=>by rw[z,hq] at hn;cases hn)];exact hn);refine⟨s1.heap.objs.size,[s1.heap.objs.size],_,_,_,rfl,I2.kept (t' :=s1.toks) fun b ob e=>bT _ e,IF a _ o kvs ep es g3,⟨_,bI _ rfl,rfl,by rw[hl];rfl⟩,fun b hb=> ?_,q o (I1.nfz hq)⟩;have e:b=s1.heap.objs.size:=by simpa using hb
 subst e;exact hf
noncomputable def ZP(X:Cx)(t:TE):TE:=fun σ H Q=>t σ H fun v H' =>∃d o kvs,H' d=some (.eX o (.dK kvs))∧Hy X d∧Q v (upd H' d (.dK kvs))
theorem FU{t:TE}(he:PE X e t):PE X e (ZP X t):=by
 intro pins s σ H Q I h;refine cC (he pins s σ H _ I h) fun u s1 ⟨v,H1,I1,r1,d,o,kvs,ed,nf,q⟩=> ?_;exact⟨v,_,I1.Wu ed nf,r1,q⟩
end
theorem zK{d:Addr}{o:Obj}{kvs:bQ}{H:Hp}(h:H d=some (.eX o (.dK kvs))):nK (Itk d o kvs) H kvs.length (fun i x _=>∃k v,kvs[i]? =some (k,v)∧x=kV k) where
 go:=fun i H' s hi=>⟨hi,s _ _ h⟩
 vC:=fun i H' x fN s hi q=>⟨q.1▸ax.refl H',q.2⟩
 stop:=fun i H' s hi=>⟨hi,s _ _ h⟩
section
variable{M:Model}{A:Around}{E:Value→Shared→Prop}{s:Shared}
end
section
variable{prog:Program}{w:World}{A:Around}{E:Value→Shared→Prop}{h:Heap}{g:Array GenState}{d:Drawn}{t:Nat}{os:OsState}
variable{nm q:Str}{C N:Addr}{bs bm:aP}{Zv:Bool}{sn:aJ}{sub:aP}{ab:Bool}{col:Option Bool}{dd:Option Addr}{k0 k1 k2 k3 k5:aQ}
end
section
variable{X:Cx}{CX:DK}{k:Nat}{f C:Addr}{fd:FuncData}{ps:aJ}{sp:Sp}{E:XK}{x m:Str}{p pos apos:Pos}{e o:Expr}{es:cq}{ta:TE}{t:TA}
end
section
variable{prog:Program}{w:World}{A:Around}{E:Value→Shared→Prop}{h:Heap}{g:Array GenState}{d:Drawn}{t:Nat}{os:OsState}
variable{nm q:Str}{C N:Addr}{bs bm:aP}{Zv:Bool}{sn:aJ}{sub:aP}{ab:Bool}{col:Option Bool}{dd:Option Addr}{k0 k1 k2 k3 k5:aQ}
end
section
variable{X:Cx}{p pos apos:Pos}{e1 e2:Expr}{t:TA}
end
end L2
namespace L2
open PySem PySem.Spec PyProof.Rows PySem.Builtin.ObjectAttr
section
variable{prog:Program}{w:World}{A:Around}{E:Value→Shared→Prop}{h:Heap}{g:Array GenState}{d:Drawn}{t:Nat}{os:OsState}
variable{nm q:Str}{C N x:Addr}{bs bm:aP}{sn:aJ}{sub:aP}{ab:Bool}{col:Option Bool}{dd:Option Addr}{k0 k1 k2 k3 k5:aQ}{newId:String}
 {mA:Str→aQ} {name:Str} {v:Value} {K:Frag}
end
section
variable{X:Cx}{pins:aZ}{σ:St}{H:Hp}{s:Shared}{a C:Addr}{n:Bool}{f:Str}{y:V}{u:Value}{A:Around}{E:Value→Shared→Prop}
theorem Inv.two{h' :Heap}{t' :Nat}{dx:Addr}{o1 o2:HO}{φ:Heap→Prop}(I:Inv X pins σ H s)(e:H a=some (.ext φ))(C_:(∀xs,H dx≠some (.tup xs))∧(∀y,H dx≠some (.own y))∧(∀o u,H dx≠some (.eX o u))∧∀ps,H dx≠some (.Om ps))(hd2:H dx=none→s.heap.objs.size≤dx)(iB:dx≠a)
 (k:∀b o,b≠a→b≠dx→s.heap.get? b=some o→h'.get? b=some o) (ha:∃o,h'.get? a=some o) (hx:∃o,h'.get? dx=some o)
 (n1:bx X.prog X.w (upd (upd H a o1) dx o2) h' a o1) (n2:bx X.prog X.w (upd (upd H a o1) dx o2) h' dx o2):Inv X pins σ (upd (upd H a o1) dx o2) {s with heap:=h',toks:=t'}:=by
 have na:∀b,H b=none→b≠a:=fun b q z=>by rw[z,e] at q;cases q
 have nd:∀b o,s.heap.get? b=some o→H b=none→b≠dx:=fun b o q q' z=>by
  subst z;exact absurd (eF (bh q) (hd2 q')) (eA _)
 have Wg:∀b,b≠a→b≠dx→upd (upd H a o1) dx o2 b=H b:=fun b h1 h2=>by rw[af h2,af h1]
 refine I.step (g' :=s.gens) (d' :=s.drawn) (ch:=[]) (fun _ z=>nomatch z) (fun b o _ _ _ q n=>k b o (na b n) (nd b o q n) q) (fun b o _ _ _ q n=>⟨o.slots,k b o (na b n) (nd b o q n) q⟩) (fun b o _ q n=>by rw[Wg b (na b n) (nd b o q n)];exact n)
  (fun b o _ q=> ?_) (fun b xs q=> ?_) (fun b o u q=> ?_) (fun b ps q=>⟨#[],?_⟩) (fun m hm=> ?_) (fun b u q=> ?_) I.bare
 ·by_cases h1:b=a
  ·rw[h1];exact ha
  ·by_cases h2:b=dx
   ·rw[h2];exact hx
   ·exact⟨o,k b o h1 h2 q⟩
 ·rw[Wg b (fun z=>by rw[z,e] at q;cases q) (fun z=>C_.1 xs (by rw[←z];exact q))];exact q
 ·rw[Wg b (fun z=>by rw[z,e] at q;cases q) (fun z=>C_.2.2.1 o u (by rw[←z];exact q))];exact q
 ·rw[Wg b (fun z=>by rw[z,e] at q;cases q) (fun z=>C_.2.2.2 ps (by rw[←z];exact q)),q];simp
 ·obtain⟨o,es,ep,q,r⟩:=hm;exact⟨o,es,ep,k _ o (na _ I.free) (nd _ o q I.free) q,r⟩
 ·by_cases h2:b=dx
  ·subst h2;rw[ae] at q;cases q;exact n2
  ·rw[af h2] at q;by_cases h1:b=a
   ·subst h1;rw[ae] at q;cases q;exact n1
   ·rw[af h1] at q;refine(I.bE b u q).qQ (fun c v hc q' =>k c v ?_ ?_ q') (fun c q' => ?_) fun c ys q' => ?_
    ·rcases hc with z|z
     ·rw[z];exact h1
     ·exact fun z' =>by rw[z',e] at z;cases z
    ·rcases hc with z|z
     ·rw[z];exact h2
     ·exact fun z' =>C_.2.1 b (by rw[←z'];exact z)
    ·rw[Wg c (fun z=>by rw[z,e] at q';cases q') (fun z=>C_.2.1 b (by rw[←z];exact q'))];exact q'
    ·rw[Wg c (fun z=>by rw[z,e] at q';cases q') (fun z=>C_.1 ys (by rw[←z];exact q'))];exact q'
end
section
variable{X:Cx}{o value:Expr}{f:Str}{pos pos' :Pos}{ta tv:TE}
end
end L2
namespace L2
open PySem PySem.Spec PyProof.Rows PySem.Builtin.ObjectAttr
section
variable{prog:Program}{w:World}{A:Around}{E:Value→Shared→Prop}{s:Shared}{K:Frag}{x C:Addr}{ox:Obj}{od:Option Obj}{name:Str}{expr:Bool}{Q:Value→Shared→Prop}{v:Value}
end
section
variable{X:Cx}{e:Expr}{f:Str}{pos:Pos}{ta:TE}
end
section
variable{X:Cx}{pins:aZ}{σ:St}{H:Hp}{s:Shared}{a C:Addr}{dd:Option Addr}{n:Bool}{E:XK}
end
section
variable{M:Model}{A:Around}{E:Value→Shared→Prop}{env:Env}
variable{nm q:Str}{C N:Addr}{bs bm:aP}{Zv:Bool}{sn:aJ}{sub:aP}{ab:Bool}{col:Option Bool}{dd:Option Addr}{k0 k1 k2 k3 k5:aQ}{newId:String}
end
section
variable{X:Cx}{e:Expr}{pos:Pos}{t:TE}{E:XK}
end
section
variable{M:Model}{A:Around}{E:Value→Shared→Prop}{s:Shared}
end
section
variable{X:Cx}{pins:aZ}{σ:St}{H:Hp}{s:Shared}{a C:Addr}{dd:Option Addr}{n:Bool}
end
section
variable{X:Cx}{pins:aZ}{σ:St}{H:Hp}{s:Shared}{a T:Addr}
noncomputable abbrev Cx.pinned(X:Cx)(pn:aZ)(E:Value→Shared→Prop):Cx:={X with pn:=X.pn++pn,xe:=E}
end
section
variable{M:Model}{A:Around}{E:Value→Shared→Prop}
end
section
variable{X:Cx}{body aaJ:List Stmt}{b0:Stmt}{wP:List ExceptHandler}{c nm:Str}{cp Aj pos:Pos}{tb:XK→TS}{th:TS}{i:Nat}{D:Addr}
end
section
variable{P:Program}{w:World}{K:Frag}{mg:Str→aQ}{base:Heap}
end
section
variable{X:Cx}
theorem AS:∀{xs:aJ} {us:aP},Vals (xs.map V.str) us→∃l:List (Str×Tok),us=strValues l∧l.map (·.1)=xs
 |[],_,.nil=>⟨[],rfl,rfl⟩
 |x::xs,_,.cons ⟨t,e⟩ r=>by
  obtain⟨l,rfl,rfl⟩:=AS r;subst e;exact⟨(x,t)::l,rfl,rfl⟩
theorem ND:MtM X "str.join" (fun x vs H Q=>∃a b xs,x= .str a∧vs=[.ref b]∧H b=some (.lst (xs.map V.str))∧JoinOk a xs=true∧Q (.str (Txt.join a xs)) H):=by
 intro pins s σ H x vs v us Q I rx rv h;obtain⟨a,b,xs,rfl,rfl,hb,hj,q⟩:=h;obtain⟨t,rfl⟩:=rx;obtain⟨u,rfl,ru⟩:=rv.one;cases ru;obtain⟨z,its,n,r,hl,e⟩:=I.E6 hb;obtain⟨l,rfl,rfl⟩:=AS r;exact SC.join (x:=a) (D:=b) (l:=l) ⟨_,e,rfl,_,rfl⟩ rfl hj fun t' k=>⟨.str _,H,I.tok k,⟨t',rfl⟩,q⟩
end
end L2
namespace My
open PySem PySem.NumText PyProof.Rows L2
end My
namespace L2
open PySem PySem.Spec PySem.SeqAt PyProof.Rows
section
variable{X:Cx}
theorem Fq:kW X (binaryOp .Mult) (fun x y H Q=>∃z n,x= .str z∧y= .int n∧MulOk z n∧Q (.str (Txt.mul z n)) H):=by
 intro pins s σ H x y v u Q I rx ry h;obtain⟨z,n,rfl,rfl,ok,q⟩:=h;obtain⟨t,rfl⟩:=rx;obtain⟨t',rfl⟩:=ry;exact SB.mul ok fun t' k=>⟨.str _,H,I.tok k,⟨t',rfl⟩,q⟩
theorem gk(hu:X.A.units+100<cLine):kW X (compareOp .NotEq) (fun x y H Q=>∃d e,Dat H x d∧Dat H y e∧shaped d=true∧shaped e=true∧noMix d e=true∧Q (.bl (!PySem.Spec.same d e)) H):=by
 intro pins s σ H x y v u Q I rx ry h;obtain⟨d,e,hd,he,s1,s2,m,q⟩:=h;obtain⟨⟨as,rd⟩,_⟩:=hd.reads I.bE rx;obtain⟨⟨bs,re⟩,_⟩:=he.reads I.bE ry;exact ne_dataH_same rd re s1 s2 (by lia) m ⟨.bl _,H,I,rfl,q⟩
end
section
variable{X:Cx}{e:Expr}{f:Str}{pos:Pos}{ta:TE}{K:Frag}
end
section
variable{X:Cx}{e:Expr}{es:cq}{st:Stmt}{UP:List Stmt}{te:TE}{ta:TA}{t u:TS}
structure PAm(X:Cx)(es:cq)(t:TA):Prop where
 h:PA X es t
structure Wc(X:Cx)(e:Expr)(t:TE):Prop where
 h:PE X e t
structure Xv(X:Cx)(st:Stmt)(t:TS):Prop where
 h:PS X st t
structure DZ(X:Cx)(UP:List Stmt)(t:TS):Prop where
 h:C8 X UP t
theorem Pj:PAm X [] JI:=⟨gA⟩
theorem fA(hs:∀(es:cq) (env:Env),starEach (e::es) env=(false,eval e env)::starEach es env)(ha:PE X e te)(hr:PAm X es ta):PAm X (e::es) (JL te ta):=⟨ai ha hr.h (hs _ _)⟩
theorem OU{pos:Pos}(h:PAm X es ta):Wc X (.List es pos) (adB ta):=⟨bY h.h⟩
theorem M9{i:Nat}{x:Str}{pos pos' :Pos}(hN:X.N.Nodup)(hi:X.N[i]? =some x)(hx:Loc X.env.scope x)(he:Wc X e te)(hs:swapsWith e (some (.Name x pos')) pos.line X.env=pure false)(hf:X.fn x=true∨X.env.scope.names.lookup x=some .local):
 Xv X (.Assign [.Name x pos'] e pos) (He te (zi i)):=⟨Kz hN hi hx he.h hs hf⟩
theorem eV(h1:Xv X st t)(h2:DZ X UP u):DZ X (st::UP) (abW t u):=⟨ah h1.h h2.h⟩
theorem rS(h1:Xv X st t):DZ X [st] t:=⟨ao h1.h⟩
end
section
variable{P:Program}{w:World}{K:Frag}{mg:Str→aQ}{base:Heap}
theorem Hx.okM{x qual:Str}{st:Stmt}{f:Addr}{fd:FuncData}{N ps:aJ}{k:Nat}{sp:Sp}(F:Hx K x qual st f fd)(S:aI N ps (ay st))(len:∀vs H Q E,sp vs H Q E→vs.length=ps.length)
 (gW:∀(c_:Value) (A:Around) (outer:List Env) (s:Shared) (H:Hp) (vs:aA) (Q:VK) (E:XK),eW k (A.deeper (envOfC qual (ay st) s.heap.objs.size f c_))→sp vs H Q E→
  ∃t,DZ (Cv eC P w K mg base N qual (ay st) f c_ A outer s H E).KS (gH st) t∧t {nx:=fun _ H' =>Q .bK H',rt:=Q} (XV N vs) H):bC P w K mg base eC (k+1) f fd ps sp:=
 F.ok S len fun c_ A outer s H vs Q E hr h=>by
  obtain⟨t,h,q⟩:=gW c_ A outer s H vs Q E hr h;exact⟨t,h.h,q⟩
end
end L2
namespace L2
open PySem PySem.Spec PyProof.Rows PySem.Builtin.ObjectAttr
section
variable{K:Frag}{C:Addr}
variable{prog:Program}{w:World}{A:Around}{E:Value→Shared→Prop}{s:Shared}{x:Addr}{ox:Obj}{od:Option Obj}
end
section
variable{X:Cx}{K:Frag}
end
structure acB(k:Nat)(A:Around):Prop where
 dp:A.depth+3*k+5<recursionLimit
 un:A.units+16*k+200<cLine
 gd:A.guards=some []
structure LO(P:Program)(w:World)(K:Frag)(mg:Str→aQ)(base:Heap)(k:Nat)(f:Addr)(fd:FuncData)(ps:aJ)(sp:Sp):Prop where
 len:∀vs H Q E,sp vs H Q E→vs.length=ps.length
 run:∀(A:Around) (outer:List Env) (s:Shared) (H:Hp) (args:Args) (us:aP) (vs:aA) (Q:VK) (E:XK),acB k A→zf P w K mg base A outer s H→BindsTo s fd args (ps.zip us)→Vals vs us→sp vs H Q E→
  codeAny (model P w) A (.call (.ref f) args) (CR eC outer P w H s Q E) s
theorem LO.mono{P:Program}{w:World}{K:Frag}{mg:Str→aQ}{base:Heap}{j k:Nat}{f:Addr}{fd:FuncData}{ps:aJ}{sp:Sp}(F:LO P w K mg base j f fd ps sp)(h:j≤k):LO P w K mg base k f fd ps sp:=
 ⟨F.len,fun A outer s H args us vs Q E hr=>F.run A outer s H args us vs Q E ⟨by have:=hr.dp;lia,by have:=hr.un;omega,hr.gd⟩⟩
section
variable{X:Cx}{k:Nat}{f:Addr}{fd:FuncData}{ps:aJ}{sp:Sp}{x:Str}{p pos:Pos}{e:Expr}{es:cq}{t:TA}{K:Frag}
end
section
variable{X:Cx}
end
section
variable{X:Cx}{CX:DK}{k:Nat}{f C:Addr}{fd:FuncData}{ps:aJ}{sp:Sp}{wL:aA}{ds:aP}{E:St→XK}{x m:Str}{p pos apos:Pos}{e o:Expr}{es:cq}{ta:TE}{t:TA}
end
section
variable{X:Cx}{body aaJ:List Stmt}{b0:Stmt}{wP:List ExceptHandler}{c nm:Str}{cp Aj pos:Pos}{tb:(St→XK)→TS}{th:TS}{i:Nat}{D:Addr}
end
theorem HU:typeLookup (.type "list") "keys"=pure none:=by rw[typeLookup_type,CY];kernel_rfl
section
variable{prog:Program}{w:World}{A:Around}{E:Value→Shared→Prop}{s:Shared}
theorem CV{a:Addr}{o:Obj}{xs:Array Value}{k:Nat}{Q:aQ→Shared→Prop}
 (hx:s.heap.get? a=some o) (hc:o.cls= .type "list") (aco:o.data= .seq xs k) (hd:o.dict=none) (hA:A.handled=none)
 (h:∀h' tk,(∀b q,s.heap.get? b=some q→h'.get? b=some q)→Q none {s with heap:=h',toks:=tk}):
 wpAny (model prog w) A (getAttr? (.ref a) "keys") Q E s:=by
 obtain⟨c,dct,dat,sl⟩:=o;simp only at hc aco hd;subst hc aco hd;obtain⟨hp,g,d,tk,os⟩:=s;have hT:∀V1,(⟨hp,g,d,V1,os⟩:Shared).TypeIs (.ref a) "list":=fun _=>⟨_,hx,rfl⟩;have f1:=sub_AttributeError;have f3:=CH.lookup;have f4:=CH.bind (.ref a);have f5:=am_list_getattr_none;unfold getAttr? getAttrBy? getAttrBy
 repeat (any_goals (first|assumption|exact hT _|((with_reducible show wpAny _ _ (call (Value.builtin "list.__getattribute__") _ _) _ _ _);refine tH CH (hT _) am_entry_list_getattribute (F.args_list_getattribute_2 _ _) (meets_getattribute_miss_list a xs k sl "keys" _ HU (by decide+kernel) (by size_fits)) ⟨hx,hA,fun h' V1 e hx' => ?_⟩)|wp_step))
 obtain⟨t',u',he⟩:=hx'.there;show wpAny _ _ (getattributeRaised _ _ _ _ _ _ _) _ _ _;unfold getattributeRaised
 repeat (any_goals (first|assumption|wp_step))
 exact h _ _ hx'.keeps
theorem nc:entryFor table "dict.update.loop"=some Builtin.«dict.update.loop» :=entryFor_of_tree (by kernel_rfl)
theorem fQ:plainId "dict.update.loop"=true:=by decide+kernel
theorem jag{a:Addr}{x y:Value}{h:Value→Sem (aP)}{Q:aP→Shared→Prop}(ht:s.heap.IsTuple a #[x,y])(hq:Q [x,y] s):wpAny (model prog w) A ((Builtin.Dict.pairItems (.ref a)).tryCatch h) Q E s:=by
 obtain⟨o,ho,hc,n,hd⟩:=ht;have hT:s.TypeIs (.ref a) "tuple":=⟨_,ho,hc⟩;refine wpAny_tryCatch ?_;unfold Builtin.Dict.pairItems;refine ag (wpAny_typeOf hT ?_);rw[aC (by decide)];refine ag (wpAny_seqItems ho hd ?_);exact aB hq
end
section
variable{prog:Program}{w:World}{A:Around}{R:Result→Shared→Prop}{I:Addr}{fp wr:aH}{G:Array GenState→Array GenState→Prop}{n:Nat}{P:Nat→Value→Prop}{St:Nat→Shared→Prop}{κ:Type}[DecidableEq κ]{knd:KeyKind prog w κ}
theorem Hv(vs:List (κ×Value))(k:κ)(v:Value):(stored vs k v).length≤vs.length+1:=by
 unfold stored
 split
 ·rw[aN];lia
 ·rw[bj];simp
theorem DO(vs ps:List (κ×Value))(p:κ×Value):merged vs (ps++[p])=stored (merged vs ps) p.1 p.2:=by
 unfold merged;rw[List.foldl_append];rfl
theorem G1(ps:List (κ×Value)):∀vs:List (κ×Value),(merged vs ps).length≤vs.length+ps.length:=by
 induction ps with
 |nil=>intro vs;exact az _
 |cons p r ih=>
  intro vs;have h:=ih (stored vs p.1 p.2);have h2:=Hv vs p.1 p.2;show(merged (stored vs p.1 p.2) r).length≤_;rw[cf]
  lia
theorem Ij(W:WalksS prog w A.in1 I fp wr G n P St)(D:Addr)(hDf:D∉fp)(ps:List (κ×Value))(hn:ps.length=n)(hb:n≤sizeLine):
 ∀(k i:Nat) (s:Shared),n - i=k→i≤n→St i s→s.heap.DictOf knd D (merged [] (ps.take i))→
  (∀i v,P i v→∃a key q x,v= .ref a∧ps[i]? =some (q,x)∧knd.is q key=true∧a∉D::wr∧s.heap.IsTuple a #[key,x])→
  (∀s',Moved (D::wr) G s s'→s'.heap.DictOf knd D (merged [] ps)→R (.ok (.ret .none)) s')→
  codeAny (model prog w) A (.builtin "dict.update.loop" ⟨[.ref D,.ref I,rawInt i,.none],[]⟩) R s:=by
 have hDw:D∉wr:=fun h=>hDf (W.sub _ h);have IG:∀b∈wr,b∈D::wr:=fun b hb=>a_ _ hb;intro k
 induction k with
 |zero=>
  intro i s hk hi fC hS hT hR;have z_:i=n:=by lia
  subst z_;refine xV nc ?_;rw[w8 fQ _];show wpAny _ A.in1 (pyNext (.ref I)>>= _) _ _ s;refine ag (W.done s _ _ fC fun s' hm=> ?_);show wpAny _ A.in1 (Builtin.Dict.addKeywords D []>>= fun _=>ret Value.none) _ _ s';refine ag (aB (aB (hR s' (hm.mono IG) ?_)));obtain⟨o,es,ep,ho,wP⟩:=hS;rw[xR (by lia)] at wP;exact⟨o,es,ep,hm.heap D _ hDw ho,wP⟩
 |succ k ih=>
  intro i s hk hi fC hS hT hR;have dS:i<n:=by lia
  refine xV nc ?_;rw[w8 fQ _];show wpAny _ A.in1 (pyNext (.ref I)>>= _) _ _ s;refine ag (W.item i s _ _ dS fC fun v s' hP UU hm=> ?_);obtain⟨a,key,q,x,rfl,hq,sx,ha,ht⟩:=hT i v hP;have keep:∀{b:Addr} {o:Obj},b∉D::wr→s.heap.get? b=some o→s'.heap.get? b=some o:=fun{b o} hb e=>hm.heap b o (fun z=>hb (IG b z)) e
  have ht' :s'.heap.IsTuple a #[key,x]:=by
   obtain⟨o,ho,wP⟩:=ht;exact⟨o,keep ha ho,wP⟩
  have FX :s'.heap.DictOf knd D (merged [] (ps.take i)):=by
   obtain⟨o,es,ep,ho,wP⟩:=hS;exact⟨o,es,ep,hm.heap D _ hDw ho,wP⟩
  have hle:=G1 (ps.take i) [];rw[kD] at hle;show wpAny _ A.in1 (holding [Value.ref a] _>>= _) _ _ s';refine ag (g7 ?_);refine ag (jag ht' ?_);show wpAny _ A.in1 (holding [key,x] (dictSet D key x)) _ _ s';refine g7 ?_;refine wpAny_dictSet_pairs sx FX (fun h' Gg En => ?_) (by simp at hle;lia)
  have e1:ps.take (i+1)=ps.take i++[(q,x)]:=by
   rw[ju,hq];rfl
  refine aB ⟨pU fQ _,?_⟩;have e2:rawInt ((i:Int)+1)=rawInt ((i+1:Nat):Int):=by rw[Int.natCast_add];rfl
  show codeAny _ _ (.builtin "dict.update.loop" ⟨[.ref D,.ref I,rawInt ((i:Int)+1),.none],[]⟩) _ _;rw[e2]
  have Sy:∀{b:Addr} {o:Obj},b∉D::wr→s'.heap.get? b=some o→h'.get? b=some o:=fun{b o} hb e=>by
   rw[En.2 b (fun z=>hb (by rw[z];exact bJ))];exact e
  refine ih (i+1) _ (by lia) dS (W.frame _ s' _ _ UU (gM _) fun b hb o e=> ?_) ?_ (fun j u hu=> ?_) fun VE ah8 afe => ?_
  ·rw[En.2 b (fun z=>hDf (by rw[←z];exact hb))];exact e
  ·show h'.DictOf knd D (merged [] (ps.take (i+1)));rw[e1,DO];exact Gg
  ·obtain⟨a',ahM,q',x',h1,h2,h3,h4,o,ho,wP⟩:=hT j u hu;exact⟨a',ahM,q',x',h1,h2,h3,h4,o,Sy h4 (keep h4 ho),wP⟩
  ·refine hR VE (Moved.trans W.gtrans ((hm.mono IG).then_heap (gM _) fun b o hb e=> ?_) ah8) afe;exact Sy hb e
end
section
variable{prog:Program}{w:World}{A:Around}{E:Value→Shared→Prop}{s:Shared}{κ:Type}[DecidableEq κ]{knd:KeyKind prog w κ}
theorem FD{l:Addr}{items:Array Value}{ps:List (κ×Value)}{Q:Value→Shared→Prop}(hh:A.handled=none)(hl:s.heap.IsList l items)(hld:∀o,s.heap.get? l=some o→o.dict=none)(hn:ps.length=items.size)(hb:items.size≤sizeLine)
 (hT:∀(i:Nat) v,items[i]? =some v→∃a key q x,v= .ref a∧ps[i]? =some (q,x)∧knd.is q key=true∧s.heap.IsTuple a #[key,x])
 (h:∀(h' :Heap) (tk:Nat),h'.DictOf knd s.heap.objs.size (merged [] ps)→(∀b o,s.heap.get? b=some o→h'.get? b=some o)→Q (.ref s.heap.objs.size) {s with heap:=h',toks:=tk}):
 wpAny (model prog w) A (call (.type "dict") [.ref l]) Q E s:=by
 refine callType_codes (Q₁:=fun obj cD=>obj= .ref s.heap.objs.size∧cD={s with heap:=s.heap.push {cls:= .type "dict",data:= .dict #[]}}) F.kt_called_dict (F.kt_typeCall_dict_1 _) F.entry_dict_init (kt_code_dict_new _ ⟨rfl,rfl⟩) ?_
 rintro obj cD ⟨rfl,rfl⟩
 have JH:(s.heap.push {cls:= .type "dict",data:= .dict #[]}).DictOf knd s.heap.objs.size []:=Heap.DictOf.new s.heap;obtain⟨ol,ZA,nC,nl,hdl⟩:=id hl;have Tf :(s.heap.push {cls:= .type "dict",data:= .dict #[]}).get? l=some ol:=bT _ ZA;have hlS:l<s.heap.objs.size:=bh ZA;refine⟨JH.typeIs,F.args_dict_init_2 _ _,?_⟩;unfold Builtin.«dict.__init__»;refine ag ?_;unfold Builtin.Dict.selfAndRest;refine ag (qR JH.typeIs ?_);show wpAny _ _ (pure (s.heap.objs.size,[Value.ref l])) _ _ _;refine aB ?_;show wpAny _ _ (Builtin.Dict.updateFrom "dict.__init__" s.heap.objs.size (.ref l) [] .none) _ _ _;unfold Builtin.Dict.updateFrom;have hTl:Shared.TypeIs {s with heap:=s.heap.push {cls:= .type "dict",data:= .dict #[]}} (.ref l) "list":=⟨_,Tf,nC⟩;refine ag (wpAny_typeOf hTl ?_);rw[aC (by decide)];refine ag (CV Tf nC hdl (hld _ ZA) (by simp[hh]) fun h2 tk2 k2=> ?_);rw[aC (show(none:aQ).isNone=true from rfl)];refine ag (wpAny_rule ?_);have u_:h2.IsList l items:=⟨ol,k2 _ _ Tf,nC,nl,hdl⟩;refine ag (xT (s:={s with heap:=h2,toks:=tk2}) u_ ?_);refine aB ⟨pU fQ _,?_⟩;have hold:∀b o,s.heap.get? b=some o→(h2.push {cls:= .type "list_iterator",data:= .fields #[.ref l,.int 0 0]}).get? b=some o:=fun b o e=>bT _ (k2 _ _ (bT _ e));have hD2:h2.get? s.heap.objs.size=some {cls:= .type "dict",data:= .dict #[]}:=k2 _ _ (bI _ rfl);have Ot:s.heap.objs.size<h2.objs.size:=bh hD2;have af0:l≠h2.objs.size:=bF (lS hlS Ot)
 have hDf:s.heap.objs.size∉[h2.objs.size,l]:=by
  simp only[bq,cR,cV,not_or];exact⟨bF Ot,eh hlS⟩
 refine Ij (knd:=knd) ((Walks.list (by simp[hh]) _ l af0 items).toS) s.heap.objs.size hDf ps hn hb (items.size - 0) 0 _ (by lia) (cB _) ⟨⟨_,bI _ rfl,rfl,rfl⟩,(u_.push _)⟩ ?_ (fun i v hv=> ?_) fun s' hm Gg => ?_
 ·obtain⟨o,es,ep,ho,wP⟩:=JH;exact⟨o,es,ep,bT _ (k2 _ _ ho),wP⟩
 ·obtain⟨a,key,q,x,h1,h2',h3,o,ho,wP⟩:=hT i v hv;have dS:a<s.heap.objs.size:=bh ho;refine⟨a,key,q,x,h1,h2',h3,?_,o,hold _ _ ho,wP⟩;simp only[bq,cR,cV,not_or];exact⟨bF dS,bF (lS dS Ot)⟩
 ·obtain⟨h',g',d',V1,os'⟩:=s';have eg:g' =s.gens:=hm.gens;have ed:d' =s.drawn:=hm.drawn;have eo:os' =s.os:=hm.os;subst eg;subst ed;subst eo
  refine⟨rfl,h h' V1 Gg fun b o e=> ?_⟩;have PV:b<s.heap.objs.size:=bh e;refine hm.heap b o ?_ (hold _ _ e);simp only[bq,cR,cV,not_or];exact⟨bF PV,bF (lS PV Ot)⟩
end
section
variable{X:Cx}
noncomputable def pz(H:Hp)(ys:aA)(kvs:bQ):Prop:=ys.length=kvs.length∧∀(i:Nat) k v,kvs[i]? =some (k,v)→∃a,ys[i]? =some (.ref a)∧H a=some (.tup [kV k,v])
theorem jaH{kvs:bQ}:∀(R:Nat→ww→V→Value→Prop),(∀(i:Nat) k v,kvs[i]? =some (k,v)→∃x,RelV v x∧R i k v x)→∃ps:List (ww×Value),KV kvs ps∧∀(i:Nat) k v,kvs[i]? =some (k,v)→∃x,ps[i]? =some (k,x)∧R i k v x:=by
 induction kvs with
 |nil=>exact fun R _=>⟨[],.nil,fun i k v e=>by simp at e⟩
 |cons p r ih=>
  intro R h;obtain⟨k0,v0⟩:=p;obtain⟨x0,r0,h0⟩:=h 0 k0 v0 rfl;obtain⟨ps,Wa,hi⟩:=ih (fun i=>R (i+1)) fun i k v e=>h (i+1) k v (by simpa using e);refine⟨(k0,x0)::ps,.cons ⟨rfl,r0⟩ Wa,fun i k v e=> ?_⟩
  cases i with
  |zero=>
   simp at e;obtain⟨rfl,rfl⟩:=e;exact⟨x0,rfl,h0⟩
  |succ i=>
   obtain⟨x,e1,e2⟩:=hi i k v (by simpa using e);exact⟨x,by simpa using e1,e2⟩
theorem ng(hc:X.calm=true):ee X (.type "dict") (fun xs H Q=>∃p ys kvs,xs=[.ref p]∧H p=some (.lst ys)∧pz H ys kvs∧∀d,H d=none→Q (.ref d) (upd H d (.dK (fX [] kvs)))):=by
 intro pins s σ H xs us Q I r h;obtain⟨p,ys,kvs,rfl,hq,⟨hlen,hP⟩,q⟩:=h;obtain⟨u,rfl,rx⟩:=wS r;cases rx;obtain⟨hz,its,n,r',e0⟩:=(show bx X.prog X.w H s.heap p (.lst ys) from I.bE p _ hq);have hl:=r'.length
 obtain⟨ps,Wa,hi⟩:=jaH (kvs:=kvs) (fun i k v x=>∃a key,its[i]? =some (.ref a)∧RelV (kV k) key∧s.heap.IsTuple a #[key,x]) fun i k v e=>by
  obtain⟨a,ea,eH⟩:=hP i k v e;obtain⟨u,hu,ru⟩:=r'.get ea;cases ru;obtain⟨_,us,rus,o,h1,h2,n,h3⟩:=(show bx X.prog X.w H s.heap a (.tup [kV k,v]) from I.bE a _ eH);obtain⟨key,x,rfl,r1,r2⟩:=jah rus;exact⟨x,r2,a,key,hu,r1,o,h1,h2,n,h3⟩
 have ma:=Wa.length;refine FD (knd:=bL X.prog X.w) (I.ok.hd hc) ⟨_,e0,rfl,n,rfl⟩ (fun o e=> ?_) (ps:=ps) (by simp;lia) (by simp;lia) (fun i v hv=> ?_) fun h' tk hd kp=> ?_
 ·rw[e0] at e;cases e;rfl
 ·have hv:its[i]? =some v:=by simpa using hv
  have xj:i<kvs.length:=by
   have:=(aS.mp hv).1
   lia
  obtain⟨x,e1,a,key,e2,r1,ht⟩:=hi i kvs[i].1 kvs[i].2 (by simp[xj]);rw[e2] at hv;cases hv;exact⟨a,key,kvs[i].1,x,rfl,e1,tW r1,ht⟩
 ·have hle:=fI kvs [];simp at hle;exact⟨.ref s.heap.objs.size,_,I.laid (t' :=tk) kp (az _) (zM (by lia) (sV (P:=X.prog) (w:=X.w) (H:=H) s.heap I.big).2.1 (Wa.merge .nil) hd),rfl,q _ (I.bE.fresh (az _))⟩
theorem zm:ee X (.type "dict") (fun xs H Q=>∃p kvs,xs=[.ref p]∧H p=some (.dK kvs)∧∀d,H d=none→Q (.ref d) (upd H d (.dK kvs))):=by
 intro pins s σ H xs us Q I r h;obtain⟨p,kvs,rfl,hq,q⟩:=h;obtain⟨u,rfl,rx⟩:=wS r;cases rx;obtain⟨hz,hs,vs,rel,dd⟩:=wj I.bE hq;have hl:=rel.length;refine kt_call_dict (knd:=bL X.prog X.w) hs dd (by lia) fun h' hd Vb=> ?_
 have kp:∀b o,s.heap.get? b=some o→h'.get? b=some o:=fun b o e=>by
  rw[Vb.2 b (bF (bh e))];exact bT _ e
 exact⟨.ref s.heap.objs.size,_,I.laid (t' :=s.toks) kp (az _) (zM hz (sV (P:=X.prog) (w:=X.w) (H:=H) s.heap I.big).2.1 rel hd),rfl,q _ (I.bE.fresh (az _))⟩
end
noncomputable def gO(v d:Addr):HO:= .ext fun h=>h.IsItemsView v d
noncomputable def Tu(x:V)(vs:aA)(H:Hp)(Q:VK):Prop:=∃d kvs,x= .ref d∧vs=[]∧H d=some (.dK kvs)∧∀v,H v=none→Q (.ref v) (upd H v (gO v d))
theorem oB{X:Cx}:Mq X "dict.items" Tu:=by
 intro pins s σ H x vs v us Q I rx rv h;obtain⟨d,kvs,rfl,rfl,hH,q⟩:=h;cases rx;have Vt:=rv.zero;subst Vt;obtain⟨hz,hs,vs,rel,dd⟩:=wj I.bE hH;refine mf lO dd.typeIs entry_dict_items (args_dict_items_1 _) (meets_dict_items (bL X.prog X.w) d hs) ⟨⟨vs,dd⟩,?_⟩;refine⟨.ref s.heap.objs.size,_,I.laid (a:=s.heap.objs.size) (o:=gO s.heap.objs.size d) (t' :=s.toks) (fun _ _ q=>bT _ q) (az _) ?_,rfl,q _ (I.bE.fresh (az _))⟩;refine⟨⟨_,bI _ rfl,rfl,rfl⟩,⟨_,bI _ rfl⟩,fun h1 h2 ⟨o,e,r⟩ k=>⟨o,k _ e,r⟩⟩
noncomputable def Iti(d:Addr)(o:Obj)(kvs:bQ):It:=
 ⟨fun i H=>i<kvs.length∧H d=some (.eX o (.dK kvs)),fun i H x H' =>∃T k v,x= .ref T∧H T=none∧H' =upd H T (.tup [kV k,v])∧kvs[i]? =some (k,v),fun i H=>kvs.length≤i∧H d=some (.eX o (.dK kvs))⟩
theorem LA{kvs:bQ}{vs:List (ww×Value)}(r:KV kvs vs):∀{i:Nat} {p:ww×V} {k:ww} {x:Value},kvs[i]? =some p→vs[i]? =some (k,x)→RelV p.2 x:=by
 unfold KV at r
 induction r with
 |nil=>intro i p k x h;simp at h
 | @cons a b as bs h t ih=>
  intro i p k x h1 h2
  cases i with
  |zero=>
   simp at h1 h2;subst h1 h2;exact h.2
  |succ i=>exact ih (by simpa using h1) (by simpa using h2)
theorem E8{P:Program}{w:World}{K:Frag}{elts:cq}{kt:Nat}{pt:Pos}(d it:Addr)(o:Obj)(kvs:bQ)(ep:Nat)(es:Array DictEntry)(hd:o.data= .dict es ep):
 Turn P w K (.Tuple elts kt pt) (Iti d o kvs) [it] it (fun i h=>∃ok ov,IsItemIter h it d i kvs.length ep ok ov) where
 mem:=by simp
 obj:=fun i h st b hb=>by
  have e:b=it:=by simpa using hb
  subst e;obtain⟨ok,ov,e⟩:=st;exact⟨_,e,fun v z=>by cases z⟩
 keep:=fun i h h' st k=>by
  obtain⟨ok,ov,e⟩:=st;exact⟨ok,ov,k it (by simp) _ e⟩
 item:=by
  intro X hP hw hK hc i pins s σ H E I hf st hg;subst hP hw hK;obtain⟨hi,hq⟩:=hg;obtain⟨ho,z,hs,vs,rel,o',LP,Kr,g1,g2,g3,g4,g5,g6⟩:=(show bx X.prog X.w H s.heap d (.eX o (.dK kvs)) from I.bE d _ hq);rw[ho] at g1;cases g1;rw[hd] at g3;cases g3;have hl:=rel.length;obtain⟨⟨k,x⟩,hx⟩:∃p,vs[i]? =some p:=⟨vs[i],by simp[show i<vs.length by omega]⟩;obtain⟨f0,f1,f2,f3,f4,f5⟩:=hf it (by simp);obtain⟨ok,ov,st⟩:=st;rw[hl] at st;have Vc:it<s.heap.objs.size:=bh st
  obtain⟨p,hp,Mt,DE⟩:∃p:ww×V,kvs[i]? =some p∧p.1=k∧RelV p.2 x:=by
   have:kvs[i]? =some kvs[i]:=by simp[hi]
   exact⟨_,this,Ew rel this hx,LA rel this hx⟩
  obtain⟨pk,pv⟩:=p;have Mt:pk=k:=Mt;subst Mt;refine wpAny_pyNext_items_item (knd:=bL X.prog X.w) st ⟨o,es,ho,g2,hd,g4,g5,g6⟩ hx fun key h' sx aio hT hsz hk=> ?_;refine⟨.ref s.heap.objs.size,rfl,?_⟩;refine wpAny_letOwnedTupleGo_items aio fun Hz Vw vg => ?_;have AH:H s.heap.objs.size=none:=I.bE.fresh (az _);have hTe:s.heap.objs.size≠it:=eh Vc;have kk:∀b o,b≠it→s.heap.get? b=some o→Hz.get? b=some o:=fun b o hb q=>(vg.2 b hb).trans (hk b o hb q);have K_ :Hz.get? s.heap.objs.size=some {cls:= .type "tuple",data:= .seq #[key,x]}:=(vg.2 _ hTe).trans hT;have iB:∀b u,H b=some u→b≠it:=fun b u q z=>by rw[z,f0] at q;cases q
  have I2:Inv X pins σ (upd H s.heap.objs.size (.tup [kV pk,pv])) {s with heap:=Hz}:=by
   have new:bx X.prog X.w (upd H s.heap.objs.size (.tup [kV pk,pv])) Hz s.heap.objs.size (.tup [kV pk,pv]):=⟨(show 2≤sizeLine by decide),[key,x],.cons (Mo sx) (.cons DE .nil),⟨_,K_,rfl,_,rfl⟩⟩
   refine I.step (g' :=s.gens) (d' :=s.drawn) (ch:=[it]) (fun b hb=> ?_) (fun b o _ _ hc q _=>kk b o (fun z=>hc (by simp[z])) q) (fun b o _ _ hc q _=>⟨o.slots,kk b o (fun z=>hc (by simp[z])) q⟩)
    (fun b o _ q n=> ?_) (fun b o hc q=>⟨o,kk b o (fun z=>hc (by simp[z])) q⟩) (fun b ys q=> ?_) (fun b o ys q=> ?_) (fun b ps q=>⟨#[],?_⟩) (fun m hm=> ?_) (fun b u q=> ?_) I.bare
   ·have hb:b=it:=by simpa using hb
    subst hb;exact⟨f3,f1,f4,f5⟩
   ·rw[af (bF (bh q))];exact n
   ·rw[af (aq q AH)];exact q
   ·rw[af (aq q AH)];exact q
   ·rw[af (aq q AH),q];simp
   ·obtain⟨o,es,ep,q,r⟩:=hm;exact⟨o,es,ep,kk _ o (dt f1) q,r⟩
   ·by_cases hb:b=s.heap.objs.size
    ·subst hb;rw[ae] at q;cases q;exact new
    ·rw[af hb] at q;refine(I.bE b u q).qQ (fun c v hc q' =>kk c v ?_ q') (fun c q' => ?_) fun c ys q' => ?_
     ·rcases hc with z|z
      ·rw[z];exact iB b u q
      ·exact iB c _ z
     ·rw[af (aq q' AH)];exact q'
     ·rw[af (aq q' AH)];exact q'
  refine⟨.ref s.heap.objs.size,_,I2,rfl,⟨_,pk,pv,rfl,AH,rfl,hp⟩,⟨_,_,by rw[hl];exact Vw⟩,fun b hb=> ?_⟩;have hb:b=it:=by simpa using hb
  subst hb;rw[af (dt hTe)];exact f0
 done:=by
  intro X hP hw hK hc i pins s σ H E I hf st hg;subst hP hw hK;obtain⟨hi,hq⟩:=hg;obtain⟨ho,z,hs,vs,rel,o',LP,Kr,g1,g2,g3,g4,g5,g6⟩:=(show bx X.prog X.w H s.heap d (.eX o (.dK kvs)) from I.bE d _ hq);rw[ho] at g1;cases g1;rw[hd] at g3;cases g3;have hl:=rel.length;obtain⟨f0,f1,f2,f3,f4,f5⟩:=hf it (by simp);obtain⟨ok,ov,st⟩:=st;rw[hl] at st;exact wpAny_pyNext_items_end (knd:=bL X.prog X.w) (I.ok.hd hc) st ⟨o,es,ho,g2,hd,g4,g5,g6⟩ (by simp;omega) fun h' eb=>⟨rfl,I.turned (t' :=s.toks) (fun b ob hb e=>eb b ob hb e) f0 f1 f3 f4 f5⟩
 self:=fun _ _ _ _ _ st h=>by
  obtain⟨ok,ov,st⟩:=st;exact PySem.W.kcp_self st h
section
variable{X:Cx}{e:Expr}{te:TE}{elts:cq}{kt:Nat}{pt:Pos}
noncomputable def UQ(X:Cx)(te:TE):TI:=fun σ H R=>te σ H fun x H1=>∃v d kvs,x= .ref v∧H1 v=some (gO v d)∧H1 d=some (.dK kvs)∧∀o,Hy X d→R (Iti d o kvs) (upd H1 d (.eX o (.dK kvs)))
theorem Dk(he:PE X e te):PI X (.Tuple elts kt pt) e (UQ X te):=by
 intro pins s σ H R I h;refine cC (he pins s σ H _ I h) fun v s1 ⟨x,H1,I1,r1,v',a,kvs,ex,hv,hq,q⟩=> ?_;subst ex;cases r1;obtain⟨z,hs,vs,rel,o,es,ep,g1,g2,g3,g4,g5,g6⟩:=wj I1.bE hq;obtain⟨ym,_⟩:=(show bx X.prog X.w H1 s1.heap v' (gO v' a) from I1.bE v' _ hv);have hl:=rel.length;refine wpAny_pyIter_items (knd:=bL X.prog X.w) (kvs:=vs) (ep:=ep) ym ⟨o,es,g1,g2,g3,g4,g5,g6⟩ ?_;have I2:=I1.freeze hq g1;have hn:H1 s1.heap.objs.size=none:=I1.bE.fresh (az _);have hf:p5 X pins (upd H1 a (.eX o (.dK kvs))) s1.heap.objs.size:=I1.uZ (az _) (by rw[af (fun z=>by rw[z,hq] at hn;cases hn)];exact hn);refine⟨s1.heap.objs.size,[s1.heap.objs.size],_,_,_,rfl,I2.kept (t' :=s1.toks) fun b ob e=>bT _ e,E8 a _ o kvs ep es g3,⟨_,_,by rw[hl];exact bI _ rfl⟩,fun b hb=> ?_,q o (I1.nfz hq)⟩;have e:b=s1.heap.objs.size:=by simpa using hb
 subst e;exact hf
noncomputable def TV(X:Cx)(t:TS):TS:=fun D σ H=>t {D with nx:=fun c9 H' =>∃d o kvs,H' d=some (.eX o (.dK kvs))∧Hy X d∧D.nx c9 (upd H' d (.dK kvs))} σ H
theorem Gj{st:Stmt}{t:TS}(h:PS X st t):PS X st (TV X t):=by
 intro pins s σ H D I q;refine cC (h pins s σ H _ I q) fun f s1 q1=> ?_
 cases f with
 |next=>
  obtain⟨c9,H',I',d,o,kvs,ed,nf,q'⟩:=q1;exact⟨c9,_,I'.Wu ed nf,q'⟩
 |brk=>exact q1
 |cont=>exact q1
 |ret u=>exact q1
end
theorem vX{d:Addr}{o:Obj}{kvs:bQ}{H:Hp}(h:H d=some (.eX o (.dK kvs))):nK (Iti d o kvs) H kvs.length (fun i x H' =>∃T k v,x= .ref T∧H' T=some (.tup [kV k,v])∧kvs[i]? =some (k,v)) where
 go:=fun i H' s hi=>⟨hi,s _ _ h⟩
 vC:=fun i H' x fN s hi q=>by
  obtain⟨T,k,v,rfl,hT,rfl,hy⟩:=q;exact⟨ax.upd hT,T,k,v,rfl,ae,hy⟩
 stop:=fun i H' s hi=>⟨hi,s _ _ h⟩
section
variable{prog:Program}{w:World}{A:Around}{E:Value→Shared→Prop}{s:Shared}
end
section
variable{X:Cx}{pos:Pos}
theorem yM{H:Hp}:∀{ys:aA},(∀(i:Nat) v,ys[i]? =some v→∃t k w,v= .ref t∧H t=some (.tup [kV k,w]))→∃kvs,pz H ys kvs
 |[],_=>⟨[],rfl,fun i k v e=>by simp at e⟩
 |y::r,h=>by
  obtain⟨t,k,w,rfl,e⟩:=h 0 y rfl;obtain⟨kvs,hl,hk⟩:=yM (ys:=r) fun i v e=>h (i+1) v (by simpa using e);refine⟨(k,w)::kvs,by rw[cf,cf,hl],fun i k' v' e' => ?_⟩
  cases i with
  |zero=>
   simp at e';obtain⟨rfl,rfl⟩:=e';exact⟨t,rfl,e⟩
  |succ i=>
   obtain⟨a,e1,e2⟩:=hk i k' v' (by simpa using e');exact⟨a,by simpa using e1,e2⟩
end
theorem EX{n:Nat}:∀i∈sliceRange ((n:Int) - 1) (max (-1) (min 0 ((n:Int) - 1))) (-1),1≤i:=by
 intro i hi;unfold sliceRange at hi;obtain⟨k,hk,rfl⟩:=bM.mp hi;have hk:=dg.mp hk;rw[au (by decide)] at hk;by_cases hn:(n:Int) - 1>max (-1) (min 0 ((n:Int) - 1))
 ·rw[aC hn] at hk
  have e:((n:Int) - 1 - max (-1) (min 0 ((n:Int) - 1)) - -1 - 1) / (- -1)=(n:Int) - 1:=by
   have h1: - -1=(1:Int):=by decide
   rw[h1,Int.ediv_one];omega
  rw[e] at hk;omega
 ·rw[au hn] at hk;simp at hk
section
variable{X:Cx}{e hi Iq:Expr}{te th ts:TE}{pos p2:Pos}
noncomputable def abM(K:Frag)(te th ts:TE):TE:=fun σ H Q=>te σ H fun x H1=>Ge th σ H1 fun o1 H2=>Ge ts σ H2 fun o H3=>∃a xs,x= .ref a∧o1=some 0∧o=some (-1)∧bw K H3 a xs∧
 ∀p zs,H3 p=none→zs.length≤xs.length→(∀z∈zs,∃i:Nat,1≤i∧xs[i]? =some z)→Q (.ref p) (upd H3 p (.lst zs))
theorem M3(he:PE X e te)(hhi:PE X hi th)(fC:PE X Iq ts):PE X (.Subscript e (.Slice none (some hi) (some Iq) p2) pos) (abM X.K te th ts):=by
 intro pins s σ H Q I h;refine Subscript_ (cC (he pins s σ H _ I h) fun v s1 ⟨x,H1,I1,r1,q1⟩=> ?_);refine wpAny_Slice ?_;rw[x_];refine aB ?_;refine cC (i5 hhi pins s1 σ H1 _ I1 q1) fun vl s2 ⟨o1,H2,I2,pl,q2⟩=> ?_;refine cC (i5 fC pins s2 σ H2 _ I2 q2) fun vs s3 ⟨o,H3,I3,ps,a,xs,hx,Fj,ho,hq,q⟩=> ?_;subst ho Fj hx;cases r1;have I4:Inv X pins σ H3 {s3 with heap:=s3.heap.push {cls:= .type "slice",data:= .fields #[.none,vl,vs]}}:=I3.kept (t' :=s3.toks) fun b ob q=>bT _ q;obtain⟨its,r,ht,hz⟩:=I4.list hq;have hlen:=r.length;show wpAny (model X.prog X.w) X.A (subscriptTail e (.Slice none (some hi) (some Iq) p2) (.ref a) (.ref s3.heap.objs.size)) (EP X pins σ Q) X.xe {s3 with heap:=s3.heap.push {cls:= .type "slice",data:= .fields #[.none,vl,vs]}};refine tail_any (ops:=[.ref a,.ref s3.heap.objs.size]) ht.isList.typeIs slot_list_getitem.lookup ?_ (by with_unfolding_all rfl);refine CB ht.isList (CK ..) .none pl ps (by simp) ?_ (by rw[bZ]<;>omega);have Tw:(sliceRange ((its.length:Int) - 1) (max (-1) (min 0 ((its.length:Int) - 1))) (-1)).length≤its.length:=sliceRange_length_le _ _ _ _ (fun z=>absurd z (by decide)) fun _=>by omega
 have abb:slicePick its.toArray none (some 0) (some (-1))=((sliceRange ((its.length:Int) - 1) (max (-1) (min 0 ((its.length:Int) - 1))) (-1)).filterMap (its[·]?)).toArray:=by
  unfold slicePick;rw[bZ]
  congr 2
  funext k
  simp
 rw[abb];have hzs:((sliceRange ((its.length:Int) - 1) (max (-1) (min 0 ((its.length:Int) - 1))) (-1)).filterMap (xs[·]?)).length≤xs.length:=aY (List.length_filterMap_le _ _) (by omega);refine⟨.ref _,_,I4.laid (t' :=s3.toks) (o:= .lst ((sliceRange ((its.length:Int) - 1) (max (-1) (min 0 ((its.length:Int) - 1))) (-1)).filterMap (xs[·]?))) (fun b ob q=>bT _ q) (az _) ⟨by omega,_,0,vm r _,bI _ rfl⟩,rfl,q _ _ ?_ hzs ?_⟩
 ·exact I4.bE.fresh (az _)
 ·intro z hz;obtain⟨n,hn,e⟩:=xf.mp hz;exact⟨n,EX n hn,e⟩
end
section
variable{X:Cx}
theorem oC{K:Frag}(hK:X.K=K):ee X (.type "tuple") (fun xs H Q=>∃p ys,xs=[.ref p]∧((bw K H p ys∧∀l,H l=none→Q (.ref l) (upd H l (.tup ys)))∨(gg K H p ys∧Q (.ref p) H))):=by
 subst hK;exact fM
variable{o e:Expr}{es:cq}{to:TE}{t:TA}{name:Str}{apos f_:Pos}{T id:String}{r:V→aA→Hp→VK→Prop}
end
end L2
namespace L2
open PySem PySem.Spec PySem.SeqAt PyProof.Rows
section
variable{X:Cx}
end
section
variable{prog:Program}{w:World}{A:Around}{E:Value→Shared→Prop}{s:Shared}
structure i_(h:Heap)(d:Addr)(o:Obj)(es:Array DictEntry)(ep:Nat):Prop where
 at_:h.get? d=some o
 ex:o.ExactDict
 da:o.data= .dict es ep
theorem H_(d:Addr)(hd:(d==sysModules)=false):MeetsIn prog w (Builtin.«dict.items» ⟨[.ref d],[]⟩) (fun _ R s=>s.TypeIs (.ref d) "dict" ∧R (.ok (.ret (.ref s.heap.objs.size))) {s with heap:=s.heap.push {cls:= .type "dict_items",data:= .fields #[.ref d]}}):= .of_wp fun A R s ⟨ht,h⟩=>by
 have hn:¬((d==sysModules)=true):=by rw[hd];decide
 unfold Builtin.«dict.items»;refine ag ?_
 unfold Builtin.Dict.noArgs;refine ag (qR ht ?_)
 refine aB ?_;show wpAny _ _ (Builtin.Dict.showsAll d>>= _) _ _ s
 unfold Builtin.Dict.showsAll;rw[au hn]
 refine ag (aB (ag (gN (aB ⟨_,rfl,h⟩))))
theorem Js{v d:Addr}{o:Obj}{es:Array DictEntry}{ep:Nat}{Q:Value→Shared→Prop}(hv:s.heap.IsItemsView v d)(hm:i_ s.heap d o es ep)
 (hQ:Q (.ref s.heap.objs.size) {s with heap:=s.heap.push {cls:= .type "dict_itemiterator",data:= .fields #[.none,.bool false,.ref d,.int 0 0,.int es.size 0,.int ep 0,.none,.none]}}):
 wpAny (model prog w) A (pyIter (.ref v)) Q E s:=by
 obtain⟨ov,v1,v2,v3⟩:=id hv;refine wpAny_pyIter_slot hv.typeIs F.slot_dict_items_iter (jn F.slot_dict_items_iter hv.typeIs F.entry_dict_items_iter ?_ (F.args_dict_items_iter_1 _));unfold Builtin.«dict_items.__iter__»;refine ag (aB (ag ?_))
 unfold Builtin.Dict_items.dictOf;refine ag (mz v1 v3 (x:= .ref d) rfl (aB (ag ?_)))
 unfold Builtin.Dict_items.newIterator;refine ag (fZ hm.at_ hm.da (ag (jg hm.at_ hm.da ?_)))
 simp only[show Builtin.Dict_items.ownsTuple "dict_itemiterator"=true by decide,eL];refine gN (aB ⟨_,rfl,"dict_itemiterator",_,⟨_,bI _ rfl,rfl⟩,mI.lookup,by simpa[rawInt,Builtin.Dict_items.ownedTupleFields] using hQ⟩) ?_;simp only[sizeOk,Builtin.Dict_items.ownedTupleFields,bZ,bj,cf,pj,sizeLine_eq];lia
theorem Jr{it d:Addr}{i ep:Nat}{o:Obj}{es:Array DictEntry}{en:DictEntry}{ok ov:Value}{Q:aQ→Shared→Prop}(hit:IsItemIter s.heap it d i es.size ep ok ov)(hm:i_ s.heap d o es ep)(hx:es[i]? =some en)
 (hQ:∀h',IsItemIterOut h' it d (i+1) es.size ep en.key en.val s.heap.objs.size→h'.get? s.heap.objs.size=some {cls:= .type "tuple",data:= .seq #[en.key,en.val]}→h'.objs.size=s.heap.objs.size+1→(∀b o,b≠it→s.heap.get? b=some o→h'.get? b=some o)→Q (some (.ref s.heap.objs.size)) {s with heap:=h'}):
 wpAny (model prog w) A (pyNext (.ref it)) Q E s:=by
 obtain⟨hp,g,dr,tk,os⟩:=s;have hT:Shared.TypeIs ⟨hp,g,dr,tk,os⟩ (.ref it) "dict_itemiterator":=⟨_,hit,rfl⟩;have dS:i<es.size:=(Array.getElem?_eq_some_iff.mp hx).1;have oK:Builtin.Dict_items.ownsTuple "dict_itemiterator"=true:=by decide
 have iB:¬((Value.ref d==Value.none)=true):=b7;have z_:¬((i:Int)<0):=by lia
 unfold pyNext;refine ag (jM (nD (name:=Str.ofString "__next__") hT mI (jn mI hT xt ?_ (xE _))))
 refine ag (aB (ag (ag ?_)))
 first|refine ag (nO hT (aB (ag (fD hit rfl ?_))))|refine ag (oN hT (aB (ag (fD hit rfl ?_))))
 simp only[oK,eL];show wpAny _ _ (if(Value.ref d==Value.none)=true then _ else _) _ _ _;rw[au iB]
 refine ag (aB (ag (fZ hm.at_ hm.da ?_)));rw[au (by simp)]
 refine ag (aB (ag (jg hm.at_ hm.da ?_)));rw[au (by simp)]
 refine aB ?_;simp only[z_,cI,cT,hx]
 refine ag ?_
 first|refine ag (nO hT (aB (ag (pe hT ?_))))|refine ag (oN hT (aB (ag (pe hT ?_))))
 show wpAny _ _ (setField (.ref it) 3 (rawInt ((i:Int)+1))>>= _) _ _ ⟨hp,g,dr,tk,os⟩;refine ag (qY hit (by simp) fun h1 e1 s1=> ?_);replace s1:Heap.SameBut it hp h1:=s1
 replace e1:IsItemIter h1 it d (i+1) es.size ep ok ov:=by
  have e:((i+1:Nat):Int)=(i:Int)+1:=by lia
  unfold IsItemIter;rw[e];simpa[rawInt] using e1
 have T1:Shared.TypeIs ⟨h1,g,dr,tk,os⟩ (.ref it) "dict_itemiterator":=⟨_,e1,rfl⟩;refine ag (g7 (ag (pe T1 (ag (pe T1 ?_)))));show wpAny _ _ (Builtin.Dict_items.pairFromOwner (.ref it) 6 en.key en.val) _ _ ⟨h1,g,dr,tk,os⟩;unfold Builtin.Dict_items.pairFromOwner;refine ag (wpAny_newTuple ?_)
 have z1:h1.objs.size=hp.objs.size:=s1.1;have e2:IsItemIter (h1.push {cls:= .type "tuple",data:= .seq #[en.key,en.val]}) it d (i+1) es.size ep ok ov:=bT _ e1;have t2:(h1.push {cls:= .type "tuple",data:= .seq #[en.key,en.val]}).get? hp.objs.size=some {cls:= .type "tuple",data:= .seq #[en.key,en.val]}:=by rw[←z1];exact bI _ rfl
 have z2:(h1.push {cls:= .type "tuple",data:= .seq #[en.key,en.val]}).objs.size=hp.objs.size+1:=by rw[pC,z1]
 have k2:∀b o,b≠it→hp.get? b=some o→(h1.push {cls:= .type "tuple",data:= .seq #[en.key,en.val]}).get? b=some o:=fun b o hb e=>bT _ (s1.extBut b o hb e);show wpAny _ _ (Builtin.Dict_items.ownedTupleIsFree (.ref it)>>= _) _ _ ⟨h1.push {cls:= .type "tuple",data:= .seq #[en.key,en.val]},g,dr,tk,os⟩;rw[z1];generalize h1.push {cls:= .type "tuple",data:= .seq #[en.key,en.val]}=h2 at e2 t2 z2 k2 ⊢;have Jc:hp.objs.size≠it:=eh (bh hit);refine ag ?_;unfold Builtin.Dict_items.ownedTupleIsFree;refine ag (mz e2 rfl (x:= .none) rfl (aB ?_))
 simp only[eL];refine ag (mz e2 rfl (x:=ok) rfl (ag (mz e2 rfl (x:=ov) rfl ?_)));refine ag (qY e2 (by simp) fun h3 e3 s3=> ?_);replace s3:Heap.SameBut it h2 h3:=s3;replace e3:IsItemIter h3 it d (i+1) es.size ep en.key ov:=e3;refine ag (qY e3 (by simp) fun h4 e4 s4=> ?_);replace s4:Heap.SameBut it h3 h4:=s4;replace e4:IsItemIter h4 it d (i+1) es.size ep en.key en.val:=e4;refine ag (qY e4 (by simp) fun h5 e5 s5=> ?_);replace s5:Heap.SameBut it h4 h5:=s5;replace e5:IsItemIterOut h5 it d (i+1) es.size ep en.key en.val hp.objs.size:=e5;refine ag (qY e5 (by simp) fun h6 e6 s6=> ?_);replace s6:Heap.SameBut it h5 h6:=s6;replace e6:IsItemIterOut h6 it d (i+1) es.size ep en.key en.val hp.objs.size:=e6;have al:∀b o,b≠it→h2.get? b=some o→h6.get? b=some o:=fun b o hb e=>s6.extBut b o hb (s5.extBut b o hb (s4.extBut b o hb (s3.extBut b o hb e)));refine ag (rM (aB (aB ⟨_,rfl,aB (hQ h6 e6 (al _ _ Jc t2) ?_ fun b o hb e=>al b o hb (k2 b o hb e))⟩)));show h6.objs.size=hp.objs.size+1;rw[s6.1,s5.1,s4.1,s3.1,z2]
theorem N4{it d:Addr}{i ep:Nat}{o:Obj}{es:Array DictEntry}{ok ov:Value}{Q:aQ→Shared→Prop}(hh:A.handled=none)(hit:IsItemIter s.heap it d i es.size ep ok ov)(hm:i_ s.heap d o es ep)(hx:es.size≤i)
 (hQ:∀h',Heap.ExtBut it s.heap h'→Q none {s with heap:=h'}):wpAny (model prog w) A (pyNext (.ref it)) Q E s:=by
 have hT:s.TypeIs (.ref it) "dict_itemiterator":=⟨_,hit,rfl⟩;have oK:Builtin.Dict_items.ownsTuple "dict_itemiterator"=true:=by decide
 have iB:¬((Value.ref d==Value.none)=true):=b7;have z_:¬((i:Int)<0):=by lia
 unfold pyNext;refine ag (jM (nD (name:=Str.ofString "__next__") hT mI (jn mI hT xt ?_ (xE _))))
 refine ag (aB (ag (ag ?_)))
 first|refine ag (nO hT (aB (ag (fD hit rfl ?_))))|refine ag (oN hT (aB (ag (fD hit rfl ?_))))
 simp only[oK,eL];show wpAny _ _ (if(Value.ref d==Value.none)=true then _ else _) _ _ s;rw[au iB]
 refine ag (aB (ag (fZ hm.at_ hm.da ?_)));rw[au (by simp)]
 refine ag (aB (ag (jg hm.at_ hm.da ?_)));rw[au (by simp)]
 refine aB ?_;simp only[z_,cI,cT,rp hx]
 refine ag ?_
 first|refine ag (nO hT (aB ?_))|refine ag (oN hT (aB ?_))
 show wpAny _ _ (setField (.ref it) 2 .none>>= _) _ _ s;refine ag (pH hit rfl (by simp) ?_)
 show wpAny _ _ (newExc (.type "StopIteration") []>>= _) _ _ _;refine ag ?_
 simp only[newExc,newTuple];refine ag (gN ?_ (by size_fits))
 refine ag (m:=firstArgMember _ _) (rZ (a:=Value.none) (by first|rfl|(simp only[firstArgMember];rfl)) (gN ?_ (by size_fits)));simp only[raiseNew];refine ag (xw ?_);rw[show A.in1.handled=none from hh]
 refine ag (aB (wpAny_throw ?_));refine ag (rG (T:="StopIteration") (b:=true) ⟨_,bI _ rfl,rfl⟩ xX ?_)
 exact aB (hQ _ (((iD ..).extBut.push _).push _))
end
section
variable{X:Cx}{pins:aZ}{σ:St}{H:Hp}{s:Shared}{d:Addr}{kvs:dw}
theorem Inv.Vz(I:Inv X pins σ H s)(e:H d=some (.dT kvs)):Hy X d:=fun o u q=>by
 have:=I.base.pZ d o u q;rw[e] at this;cases this
theorem Inv.FF{o:Obj}(I:Inv X pins σ H s)(e:H d=some (.dT kvs))(ho:s.heap.get? d=some o):Inv X pins σ (upd H d (.eX o (.dT kvs))) s:=
 I.swap e (I.Vz e) (fun _ z=>nomatch z) (fun _ z=>nomatch z) (fun _ z=>nomatch z) ⟨ho,(show bx X.prog X.w H s.heap d (.dT kvs) from I.bE d _ e).qQ (fun _ _ _ q=>q) (fun b q=>by rw[af (aD q e (fun z=>nomatch z))];exact q) fun b ys q=>by rw[af (aD q e (fun z=>nomatch z))];exact q⟩
theorem Inv.SV{o:Obj}(I:Inv X pins σ H s)(e:H d=some (.eX o (.dT kvs)))(nf:Hy X d):Inv X pins σ (upd H d (.dT kvs)) s:=by
 have bE:=(show bx X.prog X.w H s.heap d (.eX o (.dT kvs)) from I.bE d _ e).2;exact I.swap e nf (fun _ z=>nomatch z) (fun _ z=>nomatch z) (fun _ z=>nomatch z) (bE.qQ (fun _ _ _ q=>q) (fun b q=>by rw[af (aD q e (fun z=>nomatch z))];exact q) fun b ys q=>by rw[af (aD q e (fun z=>nomatch z))];exact q)
end
noncomputable def OB(x:V)(vs:aA)(H:Hp)(Q:VK):Prop:=∃d kvs,x= .ref d∧vs=[]∧H d=some (.dT kvs)∧∀v,H v=none→Q (.ref v) (upd H v (gO v d))
theorem A_{X:Cx}:Mq X "dict.items" OB:=by
 intro pins s σ H x vs v us Q I rx rv h;obtain⟨d,kvs,rfl,rfl,hH,q⟩:=h;cases rx;have Vt:=rv.zero;subst Vt;obtain⟨hz,hs,xs,rel,o,es,ep,g1,g2,g3,g4,g5⟩:=(show bx X.prog X.w H s.heap d (.dT kvs) from I.bE d _ hH);have ht:s.TypeIs (.ref d) "dict":=⟨o,g1,g2.1⟩;refine mf lO ht entry_dict_items (args_dict_items_1 _) (H_ d hs) ⟨ht,?_⟩;refine⟨.ref s.heap.objs.size,_,I.laid (a:=s.heap.objs.size) (o:=gO s.heap.objs.size d) (t' :=s.toks) (fun _ _ q=>bT _ q) (az _) ?_,rfl,q _ (I.bE.fresh (az _))⟩;refine⟨⟨_,bI _ rfl,rfl,rfl⟩,⟨_,bI _ rfl⟩,fun h1 h2 ⟨o,e,r⟩ k=>⟨o,k _ e,r⟩⟩
theorem dP{α β:Type}{F:α→β→Prop}{l₁:List α}{zE:List β}(r:Paired F l₁ zE):l₁.length=zE.length:=by
 induction r with
 |nil=>rfl
 |cons _ _ ih=>rw[cf,cf,ih]
theorem jt{α β:Type}{F:α→β→Prop}{l₁:List α}{zE:List β}(r:Paired F l₁ zE):∀{i:Nat} {p:α} {q:β},l₁[i]? =some p→zE[i]? =some q→F p q:=by
 induction r with
 |nil=>intro i p q h;simp at h
 | @cons a b as bs h t ih=>
  intro i p q h1 h2
  cases i with
  |zero=>
   simp at h1 h2;subst h1 h2;exact h
  |succ i=>exact ih (by simpa using h1) (by simpa using h2)
section
variable{X:Cx}{e:Expr}{te:TE}{elts:cq}{kt:Nat}{pt:Pos}
noncomputable def TZ(X:Cx)(t:TE):TE:=fun σ H Q=>t σ H fun v H' =>∃d o kvs,H' d=some (.eX o (.dT kvs))∧Hy X d∧Q v (upd H' d (.dT kvs))
theorem L1{t:TE}(he:PE X e t):PE X e (TZ X t):=by
 intro pins s σ H Q I h;refine cC (he pins s σ H _ I h) fun u s1 ⟨v,H1,I1,r1,d,o,kvs,ed,nf,q⟩=> ?_;exact⟨v,_,I1.SV ed nf,r1,q⟩
end
section
variable{prog:Program}{w:World}{A:Around}{R:Result→Shared→Prop}{I:Addr}{fp wr:aH}{G:Array GenState→Array GenState→Prop}{n:Nat}{P:Nat→Value→Prop}{St:Nat→Shared→Prop}{κ:Type}[DecidableEq κ]{knd:HeapKind prog w κ}
noncomputable def Oq(xs ps:List (κ×Addr×Value)):List (κ×Addr×Value):=ps.foldl (fun m p=>storedH m p.1 p.2.1 p.2.2) xs
end
section
variable{prog:Program}{w:World}{A:Around}{E:Value→Shared→Prop}{s:Shared}{κ:Type}[DecidableEq κ]{knd:HeapKind prog w κ}
end
section
variable{X:Cx}
noncomputable def DF(H:Hp)(ys:aA)(kvs:dw):Prop:=ys.length=kvs.length∧∀(i:Nat) k v,kvs[i]? =some (k,v)→∃a b,ys[i]? =some (.ref a)∧H a=some (.tup [.ref b,v])∧H b=some (.tup (k.map kV))
noncomputable def Vd(kvs more:dw):dw:=more.foldl (fun acc kv=>wv acc kv.1 kv.2) kvs
theorem KT.merge{H:Hp}{more:dw}{rs:List (List ww×Addr×Value)}(r:KT H more rs):∀{kvs:dw} {xs:List (List ww×Addr×Value)},KT H kvs xs→KT H (Vd kvs more) (Oq xs rs):=by
 unfold KT at r
 induction r with
 |nil=>intro kvs xs q;exact q
 | @cons p q ps qs h t ih=>
  intro kvs xs z;obtain⟨h1,h2,h3⟩:=h;have:=KT.put z p.1 h2 h3;rw[show storedH xs p.1 q.2.1 q.2.2=storedH xs q.1 q.2.1 q.2.2 by rw[h1]] at this;exact ih this
end
structure YL(K:Frag)(C:Addr):Prop where
 ha:PySem.W.findIn K (.ref C) "__class__"=some (some (.builtin "object.__class__"))
 hn:specialIn K (.builtin "object.__class__") "__get__"=some (some (.builtin "getset_descriptor.__get__"))
 tk:takesIn K (.builtin "object.__class__")=some true
 hm:mroIn K C (.type "object")=some true
theorem YL.ty{K:Frag}{H:Hp}{a C dx:Addr}{fs:jX}(c:YL K C)(k:Em K C)(e:H a=some (.ins C dx fs)):sP K H (.ref a) (.ref C):= .ins e k c.ha c.hn c.tk c.hm
section
variable{X:Cx}
noncomputable def ZI(i j:Int):Prop:=0<j∧j.natAbs.log2<9000
theorem D_:kW X (binaryOp .FloorDiv) (rI ZI fun i j=> .int (i / j)):=opI fun i j _ _ _ _ _ hc q=>by
 have h1:(0:Int)<j:=hc.1;exact floordiv_int (by lia) (by rw[Int.fdiv_eq_ediv_of_nonneg i (by lia)];exact q) (.inl (PyProof.noPylong_of_log2 hc.2))
end
section
variable{X:Cx}{pos:Pos}
structure PPm(X:Cx)(pos:Pos)(keys:List (Option Expr))(values:cq)(Dj:List (TE×TE)):Prop where
 h:Xu X pos keys values Dj
theorem Oh:PPm X pos [] [] []:=⟨Pa⟩
theorem iA{k v:Expr}{ks:List (Option Expr)}{vs:cq}{tk tv:TE}{Dj:List (TE×TE)}(hk:Wc X k tk)(hv:Wc X v tv)(hr:PPm X pos ks vs Dj):PPm X pos (some k::ks) (v::vs) ((tk,tv)::Dj):=⟨L3 hk.h hv.h hr.h⟩
theorem LG{keys:List (Option Expr)}{values:cq}{Dj:List (TE×TE)}(h:PPm X pos keys values Dj)(CF:keys.all (·.isSome)=true)(hl:keys.length=values.length)(h0:keys≠[])(h15:keys.length≤15):Wc X (.Dict keys values pos) (Q0 Dj):=⟨OD h.h CF hl h0 h15⟩
theorem NB{e:Expr}{t:TE}(h:Wc X e t):Xv X (.Return (some e) pos) (Wx t):=⟨aK h.h⟩
end
section
variable{prog:Program}{w:World}{A:Around}{E:Value→Shared→Prop}{s:Shared}
theorem EK(d:Addr)(hd:(d==sysModules)=false):MeetsIn prog w (Builtin.«dict.values» ⟨[.ref d],[]⟩) (fun _ R s=>s.TypeIs (.ref d) "dict" ∧R (.ok (.ret (.ref s.heap.objs.size))) {s with heap:=s.heap.push {cls:= .type "dict_values",data:= .fields #[.ref d]}}):= .of_wp fun A R s ⟨ht,h⟩=>by
 have hn:¬((d==sysModules)=true):=by rw[hd];decide
 refine ag ?_;unfold Builtin.Dict.noArgs;refine ag (qR ht ?_)
 refine aB ?_;show wpAny _ _ (Builtin.Dict.showsAll d>>= _) _ _ s
 unfold Builtin.Dict.showsAll;rw[au hn]
 refine ag (aB (ag (gN (aB ⟨_,rfl,h⟩))))
theorem IT{v d:Addr}{o:Obj}{es:Array DictEntry}{ep:Nat}{Q:Value→Shared→Prop}(hv:s.heap.IsValuesView v d)(hm:i_ s.heap d o es ep)
 (hQ:Q (.ref s.heap.objs.size) {s with heap:=s.heap.push {cls:= .type "dict_valueiterator",data:= .fields #[.ref d,.int 0 0,.int es.size 0,.int ep 0]}}):
 wpAny (model prog w) A (pyIter (.ref v)) Q E s:=by
 obtain⟨ov,v1,v2,v3⟩:=id hv;have oK:Builtin.Dict_items.ownsTuple "dict_valueiterator"=false:=by decide
 refine wpAny_pyIter_slot hv.typeIs F.slot_dict_values_iter (jn F.slot_dict_values_iter hv.typeIs F.entry_dict_values_iter ?_ (F.args_dict_values_iter_1 _));unfold Builtin.«dict_values.__iter__»;refine ag (aB (ag ?_))
 unfold Builtin.Dict_items.dictOf;refine ag (mz v1 v3 (x:= .ref d) rfl (aB (ag ?_)))
 unfold Builtin.Dict_items.newIterator;refine ag (fZ hm.at_ hm.da (ag (jg hm.at_ hm.da ?_)))
 simp only[oK,eJ,cI];refine gN (aB ⟨_,rfl,"dict_valueiterator",_,⟨_,bI _ rfl,rfl⟩,yG.lookup,by simpa[rawInt] using hQ⟩)
theorem IE{it d:Addr}{i ep:Nat}{o:Obj}{es:Array DictEntry}{en:DictEntry}{Q:aQ→Shared→Prop}(hit:s.heap.IsValIter it d i es.size ep)(hm:i_ s.heap d o es ep)(hx:es[i]? =some en)
 (hQ:∀h',h'.IsValIter it d (i+1) es.size ep→Heap.SameBut it s.heap h'→Q (some en.val) {s with heap:=h'}):wpAny (model prog w) A (pyNext (.ref it)) Q E s:=by
 obtain⟨oi,h1,h2,h3⟩:=id hit;have oK:Builtin.Dict_items.ownsTuple "dict_valueiterator"=false:=by decide
 have iB:¬((Value.ref d==Value.none)=true):=b7;have z_:¬((i:Int)<0):=by lia
 unfold pyNext;refine ag (jM (nD (name:=Str.ofString "__next__") hit.typeIs yG (jn yG hit.typeIs F.entry_dict_valueiterator_next ?_ (F.args_dict_valueiterator_next_1 _))))
 refine ag (aB (ag (ag ?_)))
 first|refine ag (w4 hit.typeIs (aB (ag (fD h1 h3 ?_))))|refine ag (xl hit.typeIs (aB (ag (fD h1 h3 ?_))))
 simp only[oK,eJ,cI];show wpAny _ _ (if(Value.ref d==Value.none)=true then _ else _) _ _ s;rw[au iB]
 refine ag (aB (ag (fZ hm.at_ hm.da ?_)));rw[au (by simp)]
 refine ag (aB (ag (jg hm.at_ hm.da ?_)));rw[au (by simp)]
 refine aB ?_;simp only[z_,cI,cT,hx]
 refine ag ?_
 first|refine ag (w4 hit.typeIs (aB (ag (xu hit.typeIs ?_))))|refine ag (xl hit.typeIs (aB (ag (xu hit.typeIs ?_))))
 show wpAny _ _ (setField (.ref it) 1 (rawInt ((i:Int)+1))>>= _) _ _ s;refine ag (pH h1 h3 (by simp) ?_)
 have iE :(s.heap.update it (Obj.mapFields (·.setIfInBounds 1 (rawInt ((i:Int)+1))))).IsValIter it d (i+1) es.size ep:=⟨_,jc _ h1 (Obj.isFreed_of_fields (xU h3 _)),(Obj.cls_mapFields ..).trans h2,by rw[xU h3];simp[rawInt]⟩;have hT' :Shared.TypeIs {s with heap:=s.heap.update it (Obj.mapFields (·.setIfInBounds 1 (rawInt ((i:Int)+1))))} (.ref it) "dict_valueiterator":=iE.typeIs;refine ag (g7 (ag (xu hT' (ag (xu hT' ?_)))));show wpAny _ _ (pure en.val) _ _ _;exact aB (aB ⟨_,rfl,aB (hQ _ iE (iD ..))⟩)
theorem KJ{it d:Addr}{i ep:Nat}{o:Obj}{es:Array DictEntry}{Q:aQ→Shared→Prop}(hh:A.handled=none)(hit:s.heap.IsValIter it d i es.size ep)(hm:i_ s.heap d o es ep)(hx:es.size≤i)
 (hQ:∀h',Heap.ExtBut it s.heap h'→Q none {s with heap:=h'}):wpAny (model prog w) A (pyNext (.ref it)) Q E s:=by
 obtain⟨oi,h1,h2,h3⟩:=id hit;have oK:Builtin.Dict_items.ownsTuple "dict_valueiterator"=false:=by decide
 have iB:¬((Value.ref d==Value.none)=true):=b7;have z_:¬((i:Int)<0):=by lia
 unfold pyNext;refine ag (jM (nD (name:=Str.ofString "__next__") hit.typeIs yG (jn yG hit.typeIs F.entry_dict_valueiterator_next ?_ (F.args_dict_valueiterator_next_1 _))))
 refine ag (aB (ag (ag ?_)))
 first|refine ag (w4 hit.typeIs (aB (ag (fD h1 h3 ?_))))|refine ag (xl hit.typeIs (aB (ag (fD h1 h3 ?_))))
 simp only[oK,eJ,cI];show wpAny _ _ (if(Value.ref d==Value.none)=true then _ else _) _ _ s;rw[au iB]
 refine ag (aB (ag (fZ hm.at_ hm.da ?_)));rw[au (by simp)]
 refine ag (aB (ag (jg hm.at_ hm.da ?_)));rw[au (by simp)]
 refine aB ?_;simp only[z_,cI,cT,rp hx]
 refine ag ?_
 first|refine ag (w4 hit.typeIs (aB ?_))|refine ag (xl hit.typeIs (aB ?_))
 show wpAny _ _ (setField (.ref it) 0 .none>>= _) _ _ s;refine ag (pH h1 h3 (by simp) ?_)
 show wpAny _ _ (newExc (.type "StopIteration") []>>= _) _ _ _;refine ag ?_
 simp only[newExc,newTuple];refine ag (gN ?_ (by size_fits))
 refine ag (m:=firstArgMember _ _) (rZ (a:=Value.none) (by first|rfl|(simp only[firstArgMember];rfl)) (gN ?_ (by size_fits)));simp only[raiseNew];refine ag (xw ?_);rw[show A.in1.handled=none from hh]
 refine ag (aB (wpAny_throw ?_));refine ag (rG (T:="StopIteration") (b:=true) ⟨_,bI _ rfl,rfl⟩ xX ?_)
 exact aB (hQ _ (((iD ..).extBut.push _).push _))
theorem Bd{α β:Type}(f:α→β):∀(l:List α) (i:Nat),(l.map f).eraseIdx i=(l.eraseIdx i).map f
 |[],_=>rfl
 |_::_,0=>rfl
 |a::l,i+1=>by
  show f a::(l.map f).eraseIdx i=f a::(l.eraseIdx i).map f;rw[Bd f l i]
theorem OK{κ:Type}[DecidableEq κ](knd:HeapKind prog w κ)(d a:Addr):MeetsIn prog w (Builtin.«dict.pop» ⟨[.ref d,.ref a],[]⟩) (fun A R s=>knd.room A.in1∧∃k xs j p,knd.is s.heap k a∧s.heap.DictOfH knd d xs∧xs.length≤sizeLine∧xs[j]? =some (k,p)∧
 ∀h' tk,h'.DictOfH knd d (xs.eraseIdx j)→Heap.SameBut d s.heap h'→R (.ok (.ret p.2)) {s with heap:=h',toks:=tk}):= .of_wp fun A R s ⟨hu,k,xs,j,p,sx,hm,hsz,hj,h⟩=>by
 have ht:=hm.typeIs;obtain⟨o,es,ep,ho,hc,hd,he,ZV,hn⟩:=hm;have Dc:=jm he;have kU:j<xs.length:=(aS.mp hj).1
 have hee:es.isEmpty=false:=by
  rw[Array.isEmpty,decide_eq_false_iff_not]
  lia
 have JM:(keyPart (.ref a)).isSome=false:=rfl;unfold Builtin.«dict.pop»;refine ag ?_
 unfold Builtin.Dict.keyAndDefault;refine ag (qR ht ?_)
 show wpAny _ _ (pure (d,Value.ref a,none)) _ _ s;refine aB ?_
 simp only[JM,eJ,cI];refine ag (fZ ho hd (ag (aB ?_)));simp only[hee,eJ,cI];refine ag ?_;unfold Builtin.Dict.takeOut
 try with_reducible refine g7 ?_
 refine ag (knd.pyHash hu sx (ag (wpAny_dictFind_heap (s:={s with toks:=s.toks+knd.draws k}) hu sx ho hd he ZV hn (fun Tz=>absurd hj (Tz j p)) fun j' p' hj' => ?_)));have ej:=idxH_unique hn hj hj';subst ej;rw[hj] at hj';cases hj';refine ag (fZ (s:={s with toks:=s.toks+knd.draws k}) ho hd ?_);rw[entry_at he j,hj];refine ag (Cu (hz:=by lia) (s:={s with toks:=s.toks+knd.draws k}) ho hd (aB ?_));simp only[Option.isNone_some,eJ,cI];refine ag (rM (aB ⟨_,rfl,h _ _ ⟨_,_,ep+1,jc _ ho (CZ (uU hd _)),hc.mapDictKeys _,uU hd _,?_,?_,?_⟩ (iD ..)⟩))
 ·obtain⟨l⟩:=es;have he:l=xs.map (entryOfKey knd):=he;subst he;simp;exact Bd _ _ _
 ·exact fun x hx=>knd.keeps (ZV x (List.mem_of_mem_eraseIdx hx)) ho hd (iD ..)
 ·exact List.Nodup.sublist (List.Sublist.map _ (List.eraseIdx_sublist xs j)) hn
end
theorem B9{α β:Type}{F:α→β→Prop}{l₁:List α}{zE:List β}(r:Paired F l₁ zE):∀i,Paired F (l₁.eraseIdx i) (zE.eraseIdx i):=by
 induction r with
 |nil=>intro i;exact .nil
 |cons h t ih=>
  intro i
  cases i with
  |zero=>exact t
  |succ i=>exact .cons h (ih i)
section
variable{X:Cx}
theorem Pk(hu:X.A.units+100<cLine):MtM X "dict.pop" (fun x vs H Q=>∃d kvs j k b v,x= .ref d∧vs=[.ref b]∧H d=some (.dT kvs)∧H b=some (.tup (k.map kV))∧kvs[j]? =some (k,v)∧Q v (upd H d (.dT (kvs.eraseIdx j)))):=by
 intro pins s σ H x vs v us Q I rx rv h;obtain⟨d,kvs,j,k,b,v',rfl,rfl,hH,hb,hj,q⟩:=h;cases rx;obtain⟨u,rfl,ru⟩:=rv.one;cases ru;obtain⟨hz,hs,xs,rel,dd⟩:=Mn I.bE hH;have hl:=dP rel;obtain⟨p,hp⟩:∃p,xs[j]? =some p:=⟨xs[j]'(by have:=(aS.mp hj).1;lia),by simp⟩;have hF:=jt rel hj hp;obtain⟨k',p1,p2⟩:=p;obtain⟨e1,e2,e3⟩:=hF;have e1:k=k' :=e1;subst e1;refine mf slot_dict_pop dd.typeIs PySem.F.entry_dict_pop (PySem.F.args_dict_pop_2 _ _) (OK (tupleKind (bL X.prog X.w)) d b) ⟨qH (by have e:X.A.in1.units=X.A.units+1:=rfl;lia),k,xs,j,(p1,p2),oz I.bE hb,dd,by lia,hp,fun h' tk Gr Vb=> ?_⟩;obtain⟨o,es,ep,g1,g2,g3,g4,g5,g6⟩:=Gr;have hle:(kvs.eraseIdx j).length≤sizeLine:=aY (List.length_eraseIdx_le kvs j) hz;have new:bx X.prog X.w (upd H d (.dT (kvs.eraseIdx j))) h' d (.dT (kvs.eraseIdx j)):=⟨hle,hs,_,(show KT H _ _ from B9 rel j).keeps fun c ys ec=>by rw[af (aD ec hH (fun z=>nomatch z))];exact ec,o,es,ep,g1,g2,g3,g4,g6⟩;have I2:=mJ (t' :=tk) I (by rw[hH];exact True.intro) Vb ⟨o,g1⟩ new;exact⟨v',_,I2,e3,q⟩
noncomputable def Iz(v d:Addr):HO:= .ext fun h=>h.IsValuesView v d
noncomputable def L_(x:V)(vs:aA)(H:Hp)(Q:VK):Prop:=∃d kvs,x= .ref d∧vs=[]∧H d=some (.dT kvs)∧∀v,H v=none→Q (.ref v) (upd H v (Iz v d))
theorem EV:Mq X "dict.values" L_:=by
 intro pins s σ H x vs v us Q I rx rv h;obtain⟨d,kvs,rfl,rfl,hH,q⟩:=h;cases rx;have Vt:=rv.zero;subst Vt;obtain⟨hz,hs,xs,rel,o,es,ep,g1,g2,g3,g4,g5⟩:=(show bx X.prog X.w H s.heap d (.dT kvs) from I.bE d _ hH);have ht:s.TypeIs (.ref d) "dict":=⟨o,g1,g2.1⟩;refine mf slot_dict_values ht PySem.F.entry_dict_values (PySem.F.args_dict_values_1 _) (EK d hs) ⟨ht,?_⟩;refine⟨.ref s.heap.objs.size,_,I.laid (a:=s.heap.objs.size) (o:=Iz s.heap.objs.size d) (t' :=s.toks) (fun _ _ q=>bT _ q) (az _) ?_,rfl,q _ (I.bE.fresh (az _))⟩;refine⟨⟨_,bI _ rfl,rfl,rfl⟩,⟨_,bI _ rfl⟩,fun h1 h2 ⟨o,e,r⟩ k=>⟨o,k _ e,r⟩⟩
end
noncomputable def Ul(d:Addr)(o:Obj)(kvs:dw):It:=
 ⟨fun i H=>i<kvs.length∧H d=some (.eX o (.dT kvs)),fun i H x H' =>H' =H∧∃k,kvs[i]? =some (k,x),fun i H=>kvs.length≤i∧H d=some (.eX o (.dT kvs))⟩
theorem BP{P:Program}{w:World}{K:Frag}{tg:Expr}(d it:Addr)(o:Obj)(kvs:dw)(ep:Nat)(es:Array DictEntry)(hd:o.data= .dict es ep):
 Turn P w K tg (Ul d o kvs) [it] it (fun i h=>h.IsValIter it d i kvs.length ep) where
 mem:=by simp
 obj:=fun i h st b hb=>by
  have e:b=it:=by simpa using hb
  subst e;obtain⟨ob,e,c,dd⟩:=st;exact⟨ob,e,fun v z=>by rw[dd] at z;cases z⟩
 keep:=fun i h h' st k=>by
  obtain⟨ob,e,c⟩:=st;exact⟨ob,k it (by simp) ob e,c⟩
 item:=by
  intro X hP hw hK hc i pins s σ H E I hf st hg;subst hP hw hK;obtain⟨hi,hq⟩:=hg;obtain⟨ho,z,hs,xs,rel,o',LP,Kr,g1,g2,g3,g4,g5⟩:=(show bx X.prog X.w H s.heap d (.eX o (.dT kvs)) from I.bE d _ hq);rw[ho] at g1;cases g1;rw[hd] at g3;cases g3;have hl:=dP rel;have Dc:es.size=xs.length:=jm g4;obtain⟨⟨k,b,x⟩,hx⟩:∃p,xs[i]? =some p:=⟨xs[i],by simp[show i<xs.length by lia]⟩;obtain⟨f0,f1,f2,f3,f4,f5⟩:=hf it (by simp);have hp:kvs[i]? =some kvs[i]:=by simp[hi]
  have hF:=jt rel hp hx
  have hen:es[i]? =some ⟨(tupleKind (bL X.prog X.w)).hash k,.ref b,x⟩:=by
   rw[entry_at g4 i,hx];rfl
  generalize kvs[i]=p at hp hF;obtain⟨pk,pv⟩:=p;obtain⟨Mt,hb,DE⟩:=hF;rw[hl,←Dc] at st;refine IE st ⟨ho,g2,hd⟩ hen fun h' iE En => ?_;have I1:Inv X pins σ H {s with heap:=h'}:=I.turned (t' :=s.toks) (fun b ob hb e=>(En.2 b hb).trans e) f0 f1 f3 f4 f5;rw[Dc,←hl] at iE;obtain⟨ob,e,c,dd⟩:=id iE;exact⟨x,rfl,Bq (s:={s with heap:=h'}) e c dd (by decide) ⟨pv,H,I1,DE,⟨rfl,pk,hp⟩,iE,fun b hb=>(hf b hb).1⟩⟩
 done:=by
  intro X hP hw hK hc i pins s σ H E I hf st hg;subst hP hw hK;obtain⟨hi,hq⟩:=hg;obtain⟨ho,z,hs,xs,rel,o',LP,Kr,g1,g2,g3,g4,g5⟩:=(show bx X.prog X.w H s.heap d (.eX o (.dT kvs)) from I.bE d _ hq);rw[ho] at g1;cases g1;rw[hd] at g3;cases g3;have hl:=dP rel;have Dc:es.size=xs.length:=jm g4;obtain⟨f0,f1,f2,f3,f4,f5⟩:=hf it (by simp);rw[hl,←Dc] at st;exact KJ (I.ok.hd hc) st ⟨ho,g2,hd⟩ (by lia) fun h' eb=>⟨rfl,I.turned (t' :=s.toks) (fun b ob hb e=>eb b ob hb e) f0 f1 f3 f4 f5⟩
 self:=fun _ _ _ _ _ st h=>wpAny_pyIter_valiter st h
section
variable{X:Cx}{tg e:Expr}{te:TE}
noncomputable def L6(X:Cx)(te:TE):TI:=fun σ H R=>te σ H fun x H1=>∃v d kvs,x= .ref v∧H1 v=some (Iz v d)∧H1 d=some (.dT kvs)∧∀o,Hy X d→R (Ul d o kvs) (upd H1 d (.eX o (.dT kvs)))
theorem E7(he:PE X e te):PI X tg e (L6 X te):=by
 intro pins s σ H R I h;refine cC (he pins s σ H _ I h) fun v s1 ⟨x,H1,I1,r1,v',a,kvs,ex,hv,hq,q⟩=> ?_;subst ex;cases r1;obtain⟨hz,hs,xs,rel,o,es,ep,g1,g2,g3,g4,g5⟩:=(show bx X.prog X.w H1 s1.heap a (.dT kvs) from I1.bE a _ hq);obtain⟨ym,_⟩:=(show bx X.prog X.w H1 s1.heap v' (Iz v' a) from I1.bE v' _ hv);have hl:=dP rel;have Dc:es.size=xs.length:=jm g4;refine IT ym ⟨g1,g2,g3⟩ ?_;have I2:=I1.FF hq g1;have hn:H1 s1.heap.objs.size=none:=I1.bE.fresh (az _);have hf:p5 X pins (upd H1 a (.eX o (.dT kvs))) s1.heap.objs.size:=I1.uZ (az _) (by rw[af (fun z=>by rw[z,hq] at hn;cases hn)];exact hn);refine⟨s1.heap.objs.size,[s1.heap.objs.size],_,_,_,rfl,I2.kept (t' :=s1.toks) fun b ob e=>bT _ e,BP a _ o kvs ep es g3,⟨_,bI _ rfl,rfl,by rw[hl,←Dc];rfl⟩,fun b hb=> ?_,q o (I1.Vz hq)⟩;have e:b=s1.heap.objs.size:=by simpa using hb
 subst e;exact hf
end
theorem AA{d:Addr}{o:Obj}{kvs:dw}{H:Hp}(h:H d=some (.eX o (.dT kvs))):nK (Ul d o kvs) H kvs.length (fun i x _=>∃k,kvs[i]? =some (k,x)) where
 go:=fun i H' s hi=>⟨hi,s _ _ h⟩
 vC:=fun i H' x fN s hi q=>⟨q.1▸ax.refl H',q.2⟩
 stop:=fun i H' s hi=>⟨hi,s _ _ h⟩
section
variable{X:Cx}{pins:aZ}{σ:List (Option V)}{H H' :Hp}{s:Shared}{h' :Heap}
theorem Inv.more{t' :Nat}(I:Inv X pins σ H s)(k:∀b u,s.heap.get? b=some u→h'.get? b=some u)(sm:∀a o,H a=some o→H' a=some o)(new:∀a o,H' a=some o→H a=some o∨(s.heap.objs.size≤a∧bx X.prog X.w H' h' a o)):Inv X pins σ H' {s with heap:=h',toks:=t'}:=
 I.un ⟨fun b u q _ _ _=>k b u q,fun b u q _ _ _=>⟨u.slots,k b u q⟩,fun b u q n _=>by
  cases e:H' b with
  |none=>rfl
  |some o=>
   rcases new b o e with h|⟨h,_⟩
   ·rw[n] at h;cases h
   ·exact absurd (bh q) (Nat.not_lt.mpr h),fun b u q _=>⟨u,k b u q⟩,fun b xs q=>sm _ _ q,fun b u xs q=>sm _ _ q,fun b ps q=>⟨#[],by rw[sm _ _ q];simp⟩⟩ fun a o e=>by
  rcases new a o e with h|⟨_,h⟩
  ·exact(I.bE a o h).qQ (fun c v _ q=>k c v q) (fun c q=>sm _ _ q) (fun c xs q=>sm _ _ q)
  ·exact h
noncomputable def Uj(kvs:bQ)(j:Nat):aA:=match kvs[j]? with
 |some p=>[kV p.1,p.2]
 |none=>[]
theorem LW{as:aH}(h:as.Pairwise (· < ·)){j:Nat}{a:Addr}(e:as[j]? =some a):as.idxOf a=j:=by
 have hj:=(aS.mp e).1;have ha:=(aS.mp e).2;have hm:as.idxOf a<as.length:=List.idxOf_lt_length_of_mem (ba e);have hg:as[as.idxOf a]=a:=List.getElem_idxOf hm;rcases Nat.lt_trichotomy (as.idxOf a) j with z|z|z
 ·have:=CU.mp h _ _ hm hj z;rw[hg,ha] at this;exact absurd this (eA _)
 ·exact z
 ·have:=CU.mp h _ _ hj hm z;rw[hg,ha] at this;exact absurd this (eA _)
end
section
variable{X:Cx}
theorem iH(hc:X.calm=true):ee X (.type "list") (fun xs H Q=>∃v d kvs,xs=[.ref v]∧H v=some (gO v d)∧H d=some (.dK kvs)∧∀l ys H',H l=none→(∀a o,H a=some o→H' a=some o)→H' l=some (.lst ys)→pz H' ys kvs→Q (.ref l) H'):=by
 intro pins s σ H xs us Q I r h;obtain⟨v,d,kvs,rfl,hv,hq,q⟩:=h;obtain⟨u,rfl,rx⟩:=wS r;cases rx;obtain⟨z,hs,vs,rel,o,es,ep,g1,g2,g3,g4,g5,g6⟩:=wj I.bE hq;obtain⟨ym,_⟩:=(show bx X.prog X.w H s.heap v (gO v d) from I.bE v _ hv);have hl:=rel.length;refine PySem.W.kdx_call (knd:=bL X.prog X.w) (kvs:=vs) (ep:=ep) (I.ok.hd hc) ym ⟨o,es,g1,g2,g3,g4,g5,g6⟩ (by lia) fun h' tk acc c as hk hS DT hG fY=> ?_;have AU:H s.heap.objs.size=none:=I.bE.fresh (az _);have X8:∀a∈as,H a=none:=fun a ha=>I.bE.fresh (ck (hG.above a ha))
 let H' :Hp:=fun a=>if a=s.heap.objs.size then some (.lst (as.map V.ref)) else if a∈as then some (.tup (Uj kvs (as.idxOf a))) else H a
 have sm:∀a o,H a=some o→H' a=some o:=fun a o e=>by
  show(if a=s.heap.objs.size then some (.lst (as.map V.ref)) else if a∈as then some (.tup (Uj kvs (as.idxOf a))) else H a)=some o;rw[au (aq e AU),au fun z=>by rw[X8 a z] at e;cases e];exact e
 have zp :H' s.heap.objs.size=some (.lst (as.map V.ref)):=aC rfl
 have hi:∀(j:Nat) a,as[j]? =some a→H' a=some (.tup (Uj kvs j)):=fun j a e=>by
  have hm:=ba e;show(if a=s.heap.objs.size then some (.lst (as.map V.ref)) else if a∈as then some (.tup (Uj kvs (as.idxOf a))) else H a)=_;rw[au (eh (hG.above a hm)),aC hm,LW hG.rise e]
 have I2:Inv X pins σ H' {s with heap:=h',toks:=tk}:=by
  refine I.more hk sm fun a ob e=> ?_;by_cases z1:a=s.heap.objs.size
  ·subst z1;rw[zp] at e;cases e;refine .inr ⟨az _,by rw[aN];lia,acc.toList,c,?_,hS⟩;rw[fY];clear fY hS hG DT hi zp sm X8
   induction as with
   |nil=>exact .nil
   |cons a r ih=>exact .cons rfl ih
  ·by_cases z2:a∈as
   ·obtain⟨j,hj⟩:=dz.mp z2;rw[hi j a hj] at e;cases e;obtain⟨key,k,x,e1,e2,e3⟩:=hG.pairs j a hj
    have kU:j<kvs.length:=by
     have:=(aS.mp hj).1
     lia
    have hp:kvs[j]? =some kvs[j]:=by simp[kU]
    have hk1:=Ew rel hp e1;have hk2:=LA rel hp e1;refine .inr ⟨ck (hG.above a z2),?_⟩;unfold Uj;rw[hp];exact⟨(show 2≤sizeLine by decide),[key,x],.cons (by rw[hk1];exact Mo e2) (.cons hk2 .nil),⟨_,e3,rfl,_,rfl⟩⟩
   ·left
    have:H' a=H a:=by
     show(if a=s.heap.objs.size then some (.lst (as.map V.ref)) else if a∈as then some (.tup (Uj kvs (as.idxOf a))) else H a)=H a;rw[au z1,au z2]
    rw[←this];exact e
 refine⟨.ref s.heap.objs.size,H',I2,rfl,q _ _ H' AU sm zp ⟨by rw[aN];lia,fun j k x e=> ?_⟩⟩
 have kU:j<as.length:=by
  have:=(aS.mp e).1
  lia
 have ha:as[j]? =some as[j]:=by simp[kU]
 refine⟨as[j],by rw[aW,ha];rfl,?_⟩;rw[hi j _ ha];unfold Uj;rw[e]
end
section
variable{prog:Program}{w:World}{A:Around}{E:Value→Shared→Prop}{s:Shared}
theorem BB{d:Addr}{o:Obj}{es:Array DictEntry}{ep:Nat}{Q:Value→Shared→Prop}(hd:(d==sysModules)=false)(hm:i_ s.heap d o es ep)
 (hQ:Q (.ref s.heap.objs.size) {s with heap:=s.heap.push {cls:= .type "dict_keyiterator",data:= .fields #[.ref d,.int 0 0,.int es.size 0,.int ep 0]}}):
 wpAny (model prog w) A (pyIter (.ref d)) Q E s:=by
 have hT:s.TypeIs (.ref d) "dict":=⟨o,hm.at_,hm.ex.1⟩;have hn:¬((d==sysModules)=true):=by rw[hd];decide
 refine wpAny_pyIter_slot hT F.slot_dict_iter (jn F.slot_dict_iter hT F.entry_dict_iter ?_ (F.args_dict_iter_1 _));unfold Builtin.«dict.__iter__»;refine ag ?_
 unfold Builtin.Dict.dictSlotNone;refine ag (qR hT ?_)
 show wpAny _ _ (pure (Value.ref d)) _ _ s;refine aB ?_
 show wpAny _ _ (Builtin.Dict.showsAll d>>= _) _ _ s;unfold Builtin.Dict.showsAll;rw[au hn]
 refine ag (aB (ag (fZ hm.at_ hm.da (ag (jg hm.at_ hm.da ?_)))));refine ag (gN (aB ⟨_,rfl,"dict_keyiterator",_,⟨_,bI _ rfl,rfl⟩,zU.lookup,?_⟩));simpa[rawInt] using hQ
theorem A5{it d:Addr}{i ep:Nat}{o:Obj}{es:Array DictEntry}{en:DictEntry}{Q:aQ→Shared→Prop}(hit:s.heap.IsKeyIter it d i es.size ep)(hm:i_ s.heap d o es ep)(hx:es[i]? =some en)
 (hQ:∀h',h'.IsKeyIter it d (i+1) es.size ep→Heap.SameBut it s.heap h'→Q (some en.key) {s with heap:=h'}):wpAny (model prog w) A (pyNext (.ref it)) Q E s:=by
 obtain⟨oi,h1,h2,h3⟩:=id hit;have oK:Builtin.Dict_items.ownsTuple "dict_keyiterator"=false:=by decide
 have iB:¬((Value.ref d==Value.none)=true):=b7;have z_:¬((i:Int)<0):=by lia
 unfold pyNext;refine ag (jM (nD (name:=Str.ofString "__next__") hit.typeIs zU (jn zU hit.typeIs F.entry_dict_keyiterator_next ?_ (F.args_dict_keyiterator_next_1 _))))
 refine ag (aB (ag (ag ?_)))
 first|refine ag (xb hit.typeIs (aB (ag (fD h1 h3 ?_))))|refine ag (xa hit.typeIs (aB (ag (fD h1 h3 ?_))))
 simp only[oK,eJ,cI];show wpAny _ _ (if(Value.ref d==Value.none)=true then _ else _) _ _ s;rw[au iB]
 refine ag (aB (ag (fZ hm.at_ hm.da ?_)));rw[au (by simp)]
 refine ag (aB (ag (jg hm.at_ hm.da ?_)));rw[au (by simp)]
 refine aB ?_;simp only[z_,cI,cT,hx]
 refine ag ?_
 first|refine ag (xb hit.typeIs (aB (ag (BW hit.typeIs ?_))))|refine ag (xa hit.typeIs (aB (ag (BW hit.typeIs ?_))))
 show wpAny _ _ (setField (.ref it) 1 (rawInt ((i:Int)+1))>>= _) _ _ s;refine ag (pH h1 h3 (by simp) ?_)
 have iE :(s.heap.update it (Obj.mapFields (·.setIfInBounds 1 (rawInt ((i:Int)+1))))).IsKeyIter it d (i+1) es.size ep:=⟨_,jc _ h1 (Obj.isFreed_of_fields (xU h3 _)),(Obj.cls_mapFields ..).trans h2,by rw[xU h3];simp[rawInt]⟩;have hT' :Shared.TypeIs {s with heap:=s.heap.update it (Obj.mapFields (·.setIfInBounds 1 (rawInt ((i:Int)+1))))} (.ref it) "dict_keyiterator":=iE.typeIs;refine ag (g7 (ag (BW hT' ?_)));show wpAny _ _ (pure en.key) _ _ _;exact aB (aB ⟨_,rfl,aB (hQ _ iE (iD ..))⟩)
theorem Dz{it d:Addr}{i ep:Nat}{o:Obj}{es:Array DictEntry}{Q:aQ→Shared→Prop}(hh:A.handled=none)(hit:s.heap.IsKeyIter it d i es.size ep)(hm:i_ s.heap d o es ep)(hx:es.size≤i)
 (hQ:∀h',Heap.ExtBut it s.heap h'→Q none {s with heap:=h'}):wpAny (model prog w) A (pyNext (.ref it)) Q E s:=by
 obtain⟨oi,h1,h2,h3⟩:=id hit;have oK:Builtin.Dict_items.ownsTuple "dict_keyiterator"=false:=by decide
 have iB:¬((Value.ref d==Value.none)=true):=b7;have z_:¬((i:Int)<0):=by lia
 unfold pyNext;refine ag (jM (nD (name:=Str.ofString "__next__") hit.typeIs zU (jn zU hit.typeIs F.entry_dict_keyiterator_next ?_ (F.args_dict_keyiterator_next_1 _))))
 refine ag (aB (ag (ag ?_)))
 first|refine ag (xb hit.typeIs (aB (ag (fD h1 h3 ?_))))|refine ag (xa hit.typeIs (aB (ag (fD h1 h3 ?_))))
 simp only[oK,eJ,cI];show wpAny _ _ (if(Value.ref d==Value.none)=true then _ else _) _ _ s;rw[au iB]
 refine ag (aB (ag (fZ hm.at_ hm.da ?_)));rw[au (by simp)]
 refine ag (aB (ag (jg hm.at_ hm.da ?_)));rw[au (by simp)]
 refine aB ?_;simp only[z_,cI,cT,rp hx]
 refine ag ?_
 first|refine ag (xb hit.typeIs (aB ?_))|refine ag (xa hit.typeIs (aB ?_))
 show wpAny _ _ (setField (.ref it) 0 .none>>= _) _ _ s;refine ag (pH h1 h3 (by simp) ?_)
 show wpAny _ _ (newExc (.type "StopIteration") []>>= _) _ _ _;refine ag ?_
 simp only[newExc,newTuple];refine ag (gN ?_ (by size_fits))
 refine ag (m:=firstArgMember _ _) (rZ (a:=Value.none) (by first|rfl|(simp only[firstArgMember];rfl)) (gN ?_ (by size_fits)));simp only[raiseNew];refine ag (xw ?_);rw[show A.in1.handled=none from hh]
 refine ag (aB (wpAny_throw ?_));refine ag (rG (T:="StopIteration") (b:=true) ⟨_,bI _ rfl,rfl⟩ xX ?_)
 exact aB (hQ _ (((iD ..).extBut.push _).push _))
end
noncomputable def J7(d:Addr)(o:Obj)(kvs:dw):It:=
 ⟨fun i H=>i<kvs.length∧H d=some (.eX o (.dT kvs)),fun i H x H' =>H' =H∧∃b k v,x= .ref b∧H b=some (.tup (k.map kV))∧kvs[i]? =some (k,v),fun i H=>kvs.length≤i∧H d=some (.eX o (.dT kvs))⟩
theorem EU{P:Program}{w:World}{K:Frag}{tg:Expr}(d it:Addr)(o:Obj)(kvs:dw)(ep:Nat)(es:Array DictEntry)(hd:o.data= .dict es ep):
 Turn P w K tg (J7 d o kvs) [it] it (fun i h=>h.IsKeyIter it d i kvs.length ep) where
 mem:=by simp
 obj:=fun i h st b hb=>by
  have e:b=it:=by simpa using hb
  subst e;obtain⟨ob,e,c,dd⟩:=st;exact⟨ob,e,fun v z=>by rw[dd] at z;cases z⟩
 keep:=fun i h h' st k=>by
  obtain⟨ob,e,c⟩:=st;exact⟨ob,k it (by simp) ob e,c⟩
 item:=by
  intro X hP hw hK hc i pins s σ H E I hf st hg;subst hP hw hK;obtain⟨hi,hq⟩:=hg;obtain⟨ho,z,hs,xs,rel,o',LP,Kr,g1,g2,g3,g4,g5⟩:=(show bx X.prog X.w H s.heap d (.eX o (.dT kvs)) from I.bE d _ hq);rw[ho] at g1;cases g1;rw[hd] at g3;cases g3;have hl:=dP rel;have Dc:es.size=xs.length:=jm g4;obtain⟨⟨k,b,x⟩,hx⟩:∃p,xs[i]? =some p:=⟨xs[i],by simp[show i<xs.length by lia]⟩;obtain⟨f0,f1,f2,f3,f4,f5⟩:=hf it (by simp);have hp:kvs[i]? =some kvs[i]:=by simp[hi]
  have hF:=jt rel hp hx
  have hen:es[i]? =some ⟨(tupleKind (bL X.prog X.w)).hash k,.ref b,x⟩:=by
   rw[entry_at g4 i,hx];rfl
  generalize kvs[i]=p at hp hF;obtain⟨pk,pv⟩:=p;obtain⟨Mt,hb,DE⟩:=hF;rw[hl,←Dc] at st;refine A5 st ⟨ho,g2,hd⟩ hen fun h' iE En => ?_;have I1:Inv X pins σ H {s with heap:=h'}:=I.turned (t' :=s.toks) (fun b ob hb e=>(En.2 b hb).trans e) f0 f1 f3 f4 f5;rw[Dc,←hl] at iE;obtain⟨ob,e,c,dd⟩:=id iE;exact⟨.ref b,rfl,Bq (s:={s with heap:=h'}) e c dd (by decide) ⟨.ref b,H,I1,rfl,⟨rfl,b,pk,pv,rfl,hb,hp⟩,iE,fun b hb=>(hf b hb).1⟩⟩
 done:=by
  intro X hP hw hK hc i pins s σ H E I hf st hg;subst hP hw hK;obtain⟨hi,hq⟩:=hg;obtain⟨ho,z,hs,xs,rel,o',LP,Kr,g1,g2,g3,g4,g5⟩:=(show bx X.prog X.w H s.heap d (.eX o (.dT kvs)) from I.bE d _ hq);rw[ho] at g1;cases g1;rw[hd] at g3;cases g3;have hl:=dP rel;have Dc:es.size=xs.length:=jm g4;obtain⟨f0,f1,f2,f3,f4,f5⟩:=hf it (by simp);rw[hl,←Dc] at st;exact Dz (I.ok.hd hc) st ⟨ho,g2,hd⟩ (by lia) fun h' eb=>⟨rfl,I.turned (t' :=s.toks) (fun b ob hb e=>eb b ob hb e) f0 f1 f3 f4 f5⟩
 self:=fun _ _ _ _ _ st h=>CD st h
section
variable{X:Cx}{tg e:Expr}{te:TE}
noncomputable def UE(X:Cx)(te:TE):TI:=fun σ H R=>te σ H fun x H1=>∃d kvs,x= .ref d∧H1 d=some (.dT kvs)∧∀o,Hy X d→R (J7 d o kvs) (upd H1 d (.eX o (.dT kvs)))
theorem Mf(he:PE X e te):PI X tg e (UE X te):=by
 intro pins s σ H R I h;refine cC (he pins s σ H _ I h) fun v s1 ⟨x,H1,I1,r1,a,kvs,ex,hq,q⟩=> ?_;subst ex;cases r1;obtain⟨hz,hs,xs,rel,o,es,ep,g1,g2,g3,g4,g5⟩:=(show bx X.prog X.w H1 s1.heap a (.dT kvs) from I1.bE a _ hq);have hl:=dP rel;have Dc:es.size=xs.length:=jm g4;refine BB hs ⟨g1,g2,g3⟩ ?_;have I2:=I1.FF hq g1;have hn:H1 s1.heap.objs.size=none:=I1.bE.fresh (az _);have hf:p5 X pins (upd H1 a (.eX o (.dT kvs))) s1.heap.objs.size:=I1.uZ (az _) (by rw[af (fun z=>by rw[z,hq] at hn;cases hn)];exact hn);refine⟨s1.heap.objs.size,[s1.heap.objs.size],_,_,_,rfl,I2.kept (t' :=s1.toks) fun b ob e=>bT _ e,EU a _ o kvs ep es g3,⟨_,bI _ rfl,rfl,by rw[hl,←Dc];rfl⟩,fun b hb=> ?_,q o (I1.Vz hq)⟩;have e:b=s1.heap.objs.size:=by simpa using hb
 subst e;exact hf
end
section
variable{prog:Program}{w:World}{A:Around}{E:Value→Shared→Prop}{s:Shared}
theorem i_.keep{h h' :Heap}{d:Addr}{o:Obj}{es:Array DictEntry}{ep:Nat}(x:i_ h d o es ep)(e:∀o,h.get? d=some o→h'.get? d=some o):i_ h' d o es ep:=⟨e _ x.at_,x.ex,x.da⟩
theorem Fy{d:Addr}{o:Obj}{es:Array DictEntry}{ep:Nat}(hh:A.handled=none)(I:Addr)(iB:d≠I):
 Walks prog w A I [I,d] [I] es.size (fun i v=>∃en,es[i]? =some en∧v=en.key) (fun i h=>h.IsKeyIter I d i es.size ep∧i_ h d o es ep) where
 sub:=fun b hb=>by simp at hb;simp[hb]
 frame:=fun _ _ _ st hk=>⟨st.1.at fun o e=>hk I (by simp) o e,st.2.keep fun o e=>hk d (by simp) o e⟩
 item:=fun i s Q E hi st hQ=>by
  have hx:es[i]? =some es[i]:=by simp[hi]
  refine A5 st.1 st.2 hx fun h' iE En => ?_;exact hQ _ h' s.toks ⟨_,hx,rfl⟩ ⟨iE,st.2.keep fun o e=>(En.2 d iB).trans e⟩ fun b o hb e=>En.extBut b o (fun h=>hb (by simp[h])) e
 done:=fun s Q E st hQ=>Dz hh st.1 st.2 (az _) fun h' he' =>hQ h' s.toks fun b o hb e=>he' b o (fun h=>hb (by simp[h])) e
 self:=fun _ _ _ _ st hQ=>CD st.1 hQ
theorem L5{d:Addr}{o:Obj}{es:Array DictEntry}{ep:Nat}(hs:(d==sysModules)=false):PySem.W.KdlSrc prog w "dict" d d es.size (fun i v=>∃en,es[i]? =some en∧v=en.key) (fun h=>i_ h d o es ep) where
 type:=fun _ hm=>⟨o,hm.at_,hm.ex.1⟩
 there:=fun _ hm=>⟨bh hm.at_,bh hm.at_⟩
 keep:=fun _ _ hm hk=>hm.keep fun o e=>hk d (.inl rfl) o e
 notList:=by decide
 notTuple:=by decide
 hint:=fun _ _ _ _ hm hq=>PySem.W.kdl_hint_dict ⟨o,hm.at_,hm.ex.1⟩ hq
 iter:=fun _ _ hh hm=>⟨_,_,(fun _ _ hq=>BB hs hm hq),Fy hh _ (bF (bh hm.at_)),⟨⟨_,bI _ rfl,rfl,rfl⟩,hm.keep fun _ e=>bT _ e⟩⟩
theorem zJ{κ:Type}[DecidableEq κ](knd:HeapKind prog w κ)(d a:Addr)(hd:(d==sysModules)=false)(dflt:Value):MeetsIn prog w (Builtin.«dict.setdefault» ⟨[.ref d,.ref a,dflt],[]⟩) (fun A R s=>knd.room A.in1∧∃k xs,knd.is s.heap k a∧s.heap.DictOfH knd d xs∧xs.length≤sizeLine∧
 (∀p,atKey xs k=some p→R (.ok (.ret p.2)) {s with toks:=s.toks+knd.draws k})∧
 (atKey xs k=none→∀h',h'.DictOfH knd d (storedH xs k a dflt)→Heap.SameBut d s.heap h'→R (.ok (.ret dflt)) {s with heap:=h',toks:=s.toks+knd.draws k})):= .of_wp fun A R s ⟨hu,k,xs,sx,hm,hsz,h1,h2⟩=>by
 have ht:=hm.typeIs;obtain⟨o,es,ep,ho,hc,IS,he,ZV,hn⟩:=hm;have C9:¬((d==sysModules)=true):=by rw[hd];decide
 unfold Builtin.«dict.setdefault»;refine ag ?_
 unfold Builtin.Dict.keyAndDefault;refine ag (qR ht ?_)
 show wpAny _ _ (pure (d,Value.ref a,some dflt)) _ _ s;refine aB ?_
 show wpAny _ _ (if(d==sysModules)=true then _ else(dictSetDefault d (Value.ref a) dflt>>= _)) _ _ s;rw[au C9]
 refine ag ?_;unfold dictSetDefault
 try with_reducible refine g7 ?_
 refine ag (knd.pyHash hu sx (ag (wpAny_dictFind_heap (s:={s with toks:=s.toks+knd.draws k}) hu sx ho IS he ZV hn ?_ ?_)))
 ·intro Tz;have afy:k∉xs.map (·.1):=not_mem_keys_of_get Tz;refine ag (wpAny_rule (ag (Cu (hz:=by have e:=jm he;lia) (s:={s with toks:=s.toks+knd.draws k}) ho IS (aB (aB ⟨_,rfl,h2 (xI Tz) _ ⟨_,_,ep+1,jc _ ho (CZ (uU IS _)),hc.mapDictKeys _,uU IS _,?_,?_,?_⟩ (iD ..)⟩)))))
  ·rw[storedH_new (xI Tz)];simp[he,entryOfKey]
  ·rw[storedH_new (xI Tz)];intro x hx
   rcases cj.mp hx with hx|hx
   ·exact knd.keeps (ZV x hx) ho IS (iD ..)
   ·rw[cw.mp hx];exact knd.keeps sx ho IS (iD ..)
  ·rw[storedH_new (xI Tz),cg,me];refine⟨hn,by simp,fun x hx y hy z=>afy ?_⟩;have hy:y=k:=cw.mp hy;rw[←hy,←z];exact hx
 ·intro j p hj;refine ag (fZ (s:={s with toks:=s.toks+knd.draws k}) ho IS ?_);rw[entry_at he j,hj];exact ag (wpAny_rule (aB (aB ⟨_,rfl,h1 p (atKey_of_get hn hj)⟩)))
end
section
variable{X:Cx}{o e f:Expr}{apos f_:Pos}{td ty tx:TE}
theorem wU(hc:X.calm=true):ee X (.type "list") (fun xs H Q=>∃d kvs,xs=[.ref d]∧H d=some (.dT kvs)∧∀(l:Addr) (bs:aH),H l=none→bs.length=kvs.length→(∀(j:Nat) b k v,bs[j]? =some b→kvs[j]? =some (k,v)→H b=some (.tup (k.map kV)))→Q (.ref l) (upd H l (.lst (bs.map V.ref)))):=by
 intro pins s σ H xs us Q I r h;obtain⟨d,kvs,rfl,hH,q⟩:=h;obtain⟨u,rfl,rx⟩:=wS r;cases rx;obtain⟨hz,hs,xs,rel,o,es,ep,g1,g2,g3,g4,g5⟩:=(show bx X.prog X.w H s.heap d (.dT kvs) from I.bE d _ hH);have hl:=dP rel;have Dc:es.size=xs.length:=jm g4;refine PySem.W.kdl_call (L5 (o:=o) (es:=es) (ep:=ep) hs) (I.ok.hd hc) ⟨g1,g2,g3⟩ (by lia) fun h' tk acc c hk hS fY=> ?_;have Bm:(xs.map fun x=>x.2.1).length=kvs.length:=by rw[aN,hl]
 have ea:acc.toList=(xs.map fun x=>x.2.1).map Value.ref:=by
  refine pS fun j=> ?_;rw[gE,aW,Cr];by_cases hj:j<xs.length
  ·have hv:acc[j]? =some acc[j]! :=by
    have:j<acc.size:=by rw[fY.1];lia
    simp[this]
   obtain⟨en,e1,e2⟩:=fY.2 j _ hv;rw[hv,e2];rw[entry_at g4 j] at e1;have hx:xs[j]? =some xs[j]:=by simp[hj]
   rw[hx] at e1 ⊢;cases e1;rfl
  ·rw[gB (by lia),rp (by rw[fY.1];lia)];rfl
 refine⟨.ref s.heap.objs.size,_,I.laid (t' :=tk) (o:= .lst ((xs.map fun x=>x.2.1).map V.ref)) hk (az _) (show bx X.prog X.w _ h' _ (.lst _) from⟨by rw[aN];lia,acc.toList,c,?_,hS⟩),rfl,q _ _ (I.bE.fresh (az _)) Bm fun j b k v e1 e2=> ?_⟩
 ·rw[ea];generalize (xs.map fun x=>x.2.1)=bs
  induction bs with
  |nil=>exact .nil
  |cons a r ih=>exact .cons rfl ih
 ·rw[aW] at e1
  cases hx:xs[j]? with
  |none=>
   rw[hx] at e1;cases e1
  |some x=>
   rw[hx] at e1;cases e1;exact(jt rel e2 hx).2.1
noncomputable def Up(td ty tx:TE):TE:=fun σ H Q=>td σ H fun x H1=>∃a,x= .ref a∧IsD H1 a∧ty σ H1 fun y H2=>tx σ H2 fun z H3=>∃kvs k b,H3 a=some (.dT kvs)∧y= .ref b∧H3 b=some (.tup (k.map kV))∧kvs.length<sizeLine∧
 (∀v,bR kvs k=some v→Q v H3)∧(bR kvs k=none→Q z (upd H3 a (.dT (wv kvs k z))))
theorem Ay{pins:aZ}{σ:St}{H:Hp}{s:Shared}{a b:Addr}{kvs:dw}{k:List ww}{z:V}{r:Value}{A:Around}{E:Value→Shared→Prop}{Q:Value→Shared→Prop}(hu:A.units+1<cLine)(I:Inv X pins σ H s)(ea:H a=some (.dT kvs))(eb:H b=some (.tup (k.map kV)))(rz:RelV z r)(hl:kvs.length<sizeLine)
 (h1:∀v,bR kvs k=some v→∀w' s',Inv X pins σ H s'→RelV v w'→Q w' s') (h2:bR kvs k=none→∀s',Inv X pins σ (upd H a (.dT (wv kvs k z))) s'→Q r s'):
 wpAny (model X.prog X.w) A (call (.builtin "dict.setdefault") [.ref a,.ref b,r]) Q E s:=by
 obtain⟨hz,hd,xs,rel,dd⟩:=Mn I.bE ea;have Ib:xs.length≤sizeLine:=by rw[←Paired.length rel];exact hz
 refine mf xW dd.typeIs entry_dict_setdefault (args_dict_setdefault_3 _ _ _) (zJ (tupleKind (bL X.prog X.w)) a b hd r)
  ⟨qH hu,k,xs,oz I.bE eb,dd,Ib,fun p hp=> ?_,fun hn h' Gr hs=> ?_⟩
 ·have q:=rel.val k;rw[hp] at q
  cases e:bR kvs k with
  |none=>rw[e] at q;cases q
  |some v' =>
   rw[e] at q;exact h1 v' e _ _ (I.tok _) q
 ·have q:=rel.val k;rw[hn] at q
  have e:bR kvs k=none:=by
   cases e:bR kvs k with
   |none=>rfl
   |some v' =>rw[e] at q;cases q
  have hle:(wv kvs k z).length≤sizeLine:=by have:=d_ kvs k z;lia
  obtain⟨o',es,ep,hq,j2,j3,j4,_,j5⟩:=Gr;refine h2 e _ (mJ I (by rw[ea];exact True.intro) hs ⟨o',hq⟩ ⟨hle,hd,_,(rel.put k eb rz).keeps fun c ys ec=> ?_,o',es,ep,hq,j2,j3,j4,j5⟩);rw[af (aD ec ea (fun z=>nomatch z))];exact ec
theorem KG(hu:X.A.units+1<cLine)(ho:PE X o td)(he:PE X e ty)(hf:PE X f tx)(m:M2 X o "setdefault" apos e f f_):PE X (.Call (.Attribute o "setdefault" apos) [e,f] [] f_) (Up td ty tx):=by
 intro pins s σ H Q I h;refine wpAny_Call_method m.base m.few m.line h9 xW type_dict_setdefault (cC (ho pins s σ H _ I h) fun u s1 ⟨x,H1,I1,rx,a,ex,d,q1⟩=> ?_);subst ex;obtain rfl:u=Value.ref a:=rx;obtain⟨t1,t2,_⟩:=Ez I1 d;refine⟨t1,t2,?_⟩;rw[m.trees]
 refine uc rfl (xx (oW (cC (he pins s1 σ H1 _ I1 q1) fun iv s2 ⟨y,H2,I2,ry,q2⟩=>
  oW (cC (hf pins s2 σ H2 _ I2 q2) fun fv s3 ⟨z,H3,I3,rz,kvs,k,b,ea,ey,eb,hl,q3,q4⟩=>sf ?_))))
 subst ey;cases ry;exact Ay hu I3 ea eb rz hl (fun v hv w' s4 I4 Fw =>⟨v,H3,I4,Fw,q3 v hv⟩) fun hn s4 I4=>⟨z,_,I4,rz,q4 hn⟩
end
section
variable{prog:Program}{w:World}{A:Around}{E:Value→Shared→Prop}{s:Shared}
theorem G3(d:Addr):MeetsIn prog w (Builtin.«dict.clear» ⟨[.ref d],[]⟩) (fun _ R s=>∃o es ep,i_ s.heap d o es ep∧es.size≤sizeLine∧∀h' o',i_ h' d o' #[] (ep+1)→Heap.SameBut d s.heap h'→R (.ok (.ret .none)) {s with heap:=h'}):= .of_wp fun A R s ⟨o,es,ep,hm,hsz,h⟩=>by
 have ht:s.TypeIs (.ref d) "dict":=⟨o,hm.at_,hm.ex.1⟩;unfold Builtin.«dict.clear»;refine ag ?_
 unfold Builtin.Dict.noArgs;refine ag (qR ht ?_)
 show wpAny _ _ (pure d) _ _ s;refine aB (ag (fZ hm.at_ hm.da (ag ?_)))
 unfold bearsInstanceDictMark;refine ag (wpAny_load hm.at_ (aB ?_))
 refine ag (Cu (hz:=hsz) hm.at_ hm.da ?_);have fin:R (.ok (.ret .none)) {s with heap:=s.heap.update d (Obj.mapDictKeys fun _=> #[])}:=h _ _ ⟨jc _ hm.at_ (CZ (uU hm.da _)),hm.ex.mapDictKeys _,uU hm.da _⟩ (iD ..);refine wpAny_ite_split (fun _=>ag (rM (aB ⟨_,rfl,fin⟩))) (fun _=>aB ⟨_,rfl,fin⟩)
end
section
variable{X:Cx}
theorem IW:Mq X "dict.clear" (fun x vs H Q=>∃d kvs,x= .ref d∧vs=[]∧H d=some (.dT kvs)∧Q .bK (upd H d (.dT []))):=by
 intro pins s σ H x vs v us Q I rx rv h;obtain⟨d,kvs,rfl,rfl,hH,q⟩:=h;cases rx;have Vt:=rv.zero;subst Vt;obtain⟨hz,hs,xs,rel,o,es,ep,g1,g2,g3,g4,g5⟩:=(show bx X.prog X.w H s.heap d (.dT kvs) from I.bE d _ hH);have hl:=dP rel;have Dc:es.size=xs.length:=jm g4;refine mf slot_dict_clear ⟨o,g1,g2.1⟩ PySem.F.entry_dict_clear (PySem.F.args_dict_clear_1 _) (G3 d) ⟨o,es,ep,⟨g1,g2,g3⟩,by lia,fun h' o' V_ Vb=> ?_⟩;exact⟨.bK,_,mJ (ob:= .dT []) (t' :=s.toks) I (by rw[hH];exact True.intro) Vb ⟨o',V_.at_⟩ ⟨cB _,hs,[],.nil,o',#[],ep+1,V_.at_,V_.ex,V_.da,rfl,ik⟩,rfl,q⟩
end
section
variable{X:Cx}
noncomputable def MO(X:Cx)(t:TS):TS:=fun D σ H=>t {D with nx:=fun c9 H' =>∃d o kvs,H' d=some (.eX o (.dT kvs))∧Hy X d∧D.nx c9 (upd H' d (.dT kvs))} σ H
theorem Jj{st:Stmt}{t:TS}(h:PS X st t):PS X st (MO X t):=by
 intro pins s σ H D I q;refine cC (h pins s σ H _ I q) fun f s1 q1=> ?_
 cases f with
 |next=>
  obtain⟨c9,H',I',d,o,kvs,ed,nf,q'⟩:=q1;exact⟨c9,_,I'.SV ed nf,q'⟩
 |brk=>exact q1
 |cont=>exact q1
 |ret u=>exact q1
end
theorem Ic{d:Addr}{o:Obj}{kvs:dw}{g:TG}{tb:TS}{D:Ends}{σ:St}{H:Hp}(Pv:Nat→St→Hp→Prop)(h0:Pv 0 σ H)(hl:∀i σ H,Pv i σ H→H d=some (.eX o (.dT kvs)))
 (hs:∀i k v b σ H,kvs[i]? =some (k,v)→H b=some (.tup (k.map kV))→Pv i σ H→g (.ref b) σ H fun iy H2=>tb {D with nx:=Pv (i+1),ct:=Pv (i+1),bk:=D.nx} iy H2) (hd:∀σ H,Pv kvs.length σ H→D.nx σ H):
 ∃W:Nat→Nat→St→Hp→Prop,(∃m,W 0 m σ H)∧∀i m σ H,W i m σ H→
  ((J7 d o kvs).stop i H∧D.nx σ H)∨((J7 d o kvs).go i H∧∃N:St→Hp→Prop,(∀c9 H',N c9 H'→∃m',m' <m∧W (i+1) m' c9 H')∧∀x H',(J7 d o kvs).vC i H x H'→g x σ H' fun iy H2=>tb {D with nx:=N,ct:=N,bk:=D.nx} iy H2):=by
 refine⟨fun i m σ H=>m=kvs.length - i∧i≤kvs.length∧Pv i σ H,⟨kvs.length,by simp,cB _,h0⟩,?_⟩
 rintro i m σ H ⟨rfl,hi,p⟩
 by_cases dS:i<kvs.length
 ·refine .inr ⟨⟨dS,hl i σ H p⟩,Pv (i+1),fun c9 H' q=>⟨kvs.length - (i+1),by lia,rfl,dS,q⟩,fun x H' y=> ?_⟩;obtain⟨rfl,b,k,v,rfl,hb,hk⟩:=y;exact hs i k v b σ _ hk hb p
 ·have e:i=kvs.length:=by lia
  subst e;exact .inl ⟨⟨az _,hl _ σ H p⟩,hd σ H p⟩
section
variable{X:Cx}
theorem Ht(hu:X.A.units<cLine):kW X (compareOp .NotEq) (fun x y H Q=>∃a b xs,x= .ref a∧y= .ref b∧H a=some (.lst xs)∧H b=some (.lst [])∧Q (.bl (!xs.isEmpty)) H):=by
 intro pins s σ H x y v u Q I rx ry h;obtain⟨a,b,xs,rfl,rfl,ha,hb,q⟩:=h;cases rx;cases ry;obtain⟨its,r,pl,hz⟩:=I.list (bw.of ha);obtain⟨tq,r2,XJ,hz2⟩:=I.list (bw.of hb);have hl:=r.length;cases r2
 cases xs with
 |nil=>
  cases r;exact SeqAt.RcNeAt.lists (e:=fun _=>true) pl.isList XJ.isList rfl hu (fun j h1 _=>absurd h1 (rh _)) _ _ _ _ ⟨.bl false,H,I,rfl,q⟩
 |cons x r' =>
  exact SeqAt.RcNeAt.lists_lengths pl.isList XJ.isList (by cases r;rfl) hu _ _ _ _ ⟨.bl true,H,I,rfl,q⟩
end
theorem JE{K:Frag}{a:Addr}{xs:aA}{g:TG}{tb:TS}{D:Ends}{σ:St}{H:Hp}(Pv:Nat→St→Hp→Prop)(h0:Pv 0 σ H)(hl:∀i σ H,Pv i σ H→bw K H a xs)
 (hs:∀i y T σ H,xs[i]? =some y→H T=none→Pv i σ H→g (.ref T) σ (upd H T (.tup [.int i,y])) fun iy H2=>tb {D with nx:=Pv (i+1),ct:=Pv (i+1),bk:=D.nx} iy H2) (hd:∀σ H,Pv xs.length σ H→D.nx σ H):
 ∃W:Nat→Nat→St→Hp→Prop,(∃m,W 0 m σ H)∧∀i m σ H,W i m σ H→
  ((VQ K a).stop i H∧D.nx σ H)∨((VQ K a).go i H∧∃N:St→Hp→Prop,(∀c9 H',N c9 H'→∃m',m' <m∧W (i+1) m' c9 H')∧∀x H',(VQ K a).vC i H x H'→g x σ H' fun iy H2=>tb {D with nx:=N,ct:=N,bk:=D.nx} iy H2):=by
 refine⟨fun i m σ H=>m=xs.length - i∧i≤xs.length∧Pv i σ H,⟨xs.length,by simp,cB _,h0⟩,?_⟩
 rintro i m σ H ⟨rfl,hi,p⟩
 have q:=hl i σ H p;by_cases dS:i<xs.length
 ·refine .inr ⟨⟨xs,xs[i],q,by simp[dS]⟩,Pv (i+1),fun c9 H' p' =>⟨xs.length - (i+1),by lia,rfl,dS,p'⟩,fun x H' y=> ?_⟩;obtain⟨T,y,rfl,hT,rfl,hy⟩:=y;exact hs i y T σ H (hy xs q) hT p
 ·have e:i=xs.length:=by lia
  subst e;exact .inl ⟨⟨xs,q,az _⟩,hd σ H p⟩
section
variable{prog:Program}{w:World}{A:Around}{E:Value→Shared→Prop}{s:Shared}
theorem HS{it d:Addr}{i ep:Nat}{o:Obj}{es:Array DictEntry}{en:DictEntry}{ok ov:Value}{a:Addr}{f:Bool}{oa:Obj}{Q:aQ→Shared→Prop}(hit:KdxIt s.heap it d i es.size ep ok ov a f)(ha:s.heap.get? a=some oa)(WA:a≠it)(hm:i_ s.heap d o es ep)(hx:es[i]? =some en)
 (hQ:∀h',KdxIt h' it d (i+1) es.size ep ok ov a true→h'.get? s.heap.objs.size=some {cls:= .type "tuple",data:= .seq #[en.key,en.val]}→h'.objs.size=s.heap.objs.size+1→(∀b o,b≠it→s.heap.get? b=some o→h'.get? b=some o)→Q (some (.ref s.heap.objs.size)) {s with heap:=h'}):
 wpAny (model prog w) A (pyNext (.ref it)) Q E s:=by
 obtain⟨hp,g,dr,tk,os⟩:=s;have hT:Shared.TypeIs ⟨hp,g,dr,tk,os⟩ (.ref it) "dict_itemiterator":=⟨_,hit,rfl⟩;have dS:i<es.size:=(Array.getElem?_eq_some_iff.mp hx).1;have oK:Builtin.Dict_items.ownsTuple "dict_itemiterator"=true:=by decide
 have iB:¬((Value.ref d==Value.none)=true):=b7;have z_:¬((i:Int)<0):=by lia
 unfold pyNext;refine ag (jM (nD (name:=Str.ofString "__next__") hT mI (jn mI hT xt ?_ (xE _))))
 refine ag (aB (ag (ag ?_)))
 first|refine ag (nO hT (aB (ag (fD hit rfl ?_))))|refine ag (oN hT (aB (ag (fD hit rfl ?_))))
 simp only[oK,eL];show wpAny _ _ (if(Value.ref d==Value.none)=true then _ else _) _ _ _;rw[au iB]
 refine ag (aB (ag (fZ hm.at_ hm.da ?_)));rw[au (by simp)]
 refine ag (aB (ag (jg hm.at_ hm.da ?_)));rw[au (by simp)]
 refine aB ?_;simp only[z_,cI,cT,hx]
 refine ag ?_
 first|refine ag (nO hT (aB (ag (pe hT ?_))))|refine ag (oN hT (aB (ag (pe hT ?_))))
 show wpAny _ _ (setField (.ref it) 3 (rawInt ((i:Int)+1))>>= _) _ _ ⟨hp,g,dr,tk,os⟩;refine ag (qY hit (by simp) fun h1 e1 s1=> ?_);replace s1:Heap.SameBut it hp h1:=s1
 replace e1:KdxIt h1 it d (i+1) es.size ep ok ov a f:=by
  have e:((i+1:Nat):Int)=(i:Int)+1:=by lia
  unfold KdxIt;rw[e];simpa[rawInt] using e1
 have T1:Shared.TypeIs ⟨h1,g,dr,tk,os⟩ (.ref it) "dict_itemiterator":=⟨_,e1,rfl⟩;refine ag (g7 (ag (pe T1 (ag (pe T1 ?_)))));show wpAny _ _ (Builtin.Dict_items.pairFromOwner (.ref it) 6 en.key en.val) _ _ ⟨h1,g,dr,tk,os⟩;unfold Builtin.Dict_items.pairFromOwner;refine ag (wpAny_newTuple ?_)
 have z1:h1.objs.size=hp.objs.size:=s1.1;have e2:KdxIt (h1.push {cls:= .type "tuple",data:= .seq #[en.key,en.val]}) it d (i+1) es.size ep ok ov a f:=bT _ e1;have t2:(h1.push {cls:= .type "tuple",data:= .seq #[en.key,en.val]}).get? hp.objs.size=some {cls:= .type "tuple",data:= .seq #[en.key,en.val]}:=by rw[←z1];exact bI _ rfl
 have z2:(h1.push {cls:= .type "tuple",data:= .seq #[en.key,en.val]}).objs.size=hp.objs.size+1:=by rw[pC,z1]
 have k2:∀b o,b≠it→hp.get? b=some o→(h1.push {cls:= .type "tuple",data:= .seq #[en.key,en.val]}).get? b=some o:=fun b o hb e=>bT _ (s1.extBut b o hb e);show wpAny _ _ (Builtin.Dict_items.ownedTupleIsFree (.ref it)>>= _) _ _ ⟨h1.push {cls:= .type "tuple",data:= .seq #[en.key,en.val]},g,dr,tk,os⟩;rw[z1];generalize h1.push {cls:= .type "tuple",data:= .seq #[en.key,en.val]}=h2 at e2 t2 z2 k2 ⊢;have Jc:hp.objs.size≠it:=eh (bh hit);have ha2:h2.get? a=some oa:=k2 a oa WA ha
 have fin:∀h3:Heap,KdxIt h3 it d (i+1) es.size ep ok ov a true→Heap.SameBut it h2 h3→Q (some (.ref hp.objs.size)) ⟨h3,g,dr,tk,os⟩:=fun h3 e3 s3=>
  hQ h3 e3 (s3.extBut _ _ Jc t2) (by show h3.objs.size=hp.objs.size+1;rw[s3.1,z2]) fun b o hb e=>s3.extBut b o hb (k2 b o hb e)
 refine ag ?_;unfold Builtin.Dict_items.ownedTupleIsFree;refine ag (mz e2 rfl (x:=rawInt a) rfl ?_)
 show wpAny _ _ (loadIfAlive ((a:Int).toNat)>>= _) _ _ _;rw[cT]
 refine ag (PySem.W.kdx_alive ha2 ?_);simp only[Option.isNone_some,eJ,cI]
 refine ag (mz e2 rfl (x:= .bool f) rfl ?_)
 cases f with
 |true=>
  rw[au (show ¬((Value.bool true !=Value.bool true)=true) from b7)];refine aB ?_
  simp only[eJ,cI];exact aB (aB ⟨_,rfl,aB (fin h2 e2 (Heap.SameBut.refl _ _))⟩)
 |false=>
  rw[aC (show(Value.bool false !=Value.bool true)=true from rfl)];refine ag (qY e2 (by simp) fun h3 e3 s3=> ?_)
  replace s3:Heap.SameBut it h2 h3:=s3;replace e3:KdxIt h3 it d (i+1) es.size ep ok ov a true:=e3;refine aB ?_;simp only[eJ,cI];exact aB (aB ⟨_,rfl,aB (fin h3 e3 s3)⟩)
theorem L4{it d:Addr}{i ep:Nat}{o:Obj}{es:Array DictEntry}{ok ov:Value}{a:Addr}{f:Bool}{Q:aQ→Shared→Prop}(hh:A.handled=none)(hit:KdxIt s.heap it d i es.size ep ok ov a f)(hm:i_ s.heap d o es ep)(hx:es.size≤i)
 (hQ:∀h',Heap.ExtBut it s.heap h'→Q none {s with heap:=h'}):wpAny (model prog w) A (pyNext (.ref it)) Q E s:=by
 have hT:s.TypeIs (.ref it) "dict_itemiterator":=⟨_,hit,rfl⟩;have oK:Builtin.Dict_items.ownsTuple "dict_itemiterator"=true:=by decide
 have iB:¬((Value.ref d==Value.none)=true):=b7;have z_:¬((i:Int)<0):=by lia
 unfold pyNext;refine ag (jM (nD (name:=Str.ofString "__next__") hT mI (jn mI hT xt ?_ (xE _))))
 refine ag (aB (ag (ag ?_)))
 first|refine ag (nO hT (aB (ag (fD hit rfl ?_))))|refine ag (oN hT (aB (ag (fD hit rfl ?_))))
 simp only[oK,eL];show wpAny _ _ (if(Value.ref d==Value.none)=true then _ else _) _ _ s;rw[au iB]
 refine ag (aB (ag (fZ hm.at_ hm.da ?_)));rw[au (by simp)]
 refine ag (aB (ag (jg hm.at_ hm.da ?_)));rw[au (by simp)]
 refine aB ?_;simp only[z_,cI,cT,rp hx]
 refine ag ?_
 first|refine ag (nO hT (aB ?_))|refine ag (oN hT (aB ?_))
 show wpAny _ _ (setField (.ref it) 2 .none>>= _) _ _ s;refine ag (pH hit rfl (by simp) ?_)
 show wpAny _ _ (newExc (.type "StopIteration") []>>= _) _ _ _;refine ag ?_
 simp only[newExc,newTuple];refine ag (gN ?_ (by size_fits))
 refine ag (m:=firstArgMember _ _) (rZ (a:=Value.none) (by first|rfl|(simp only[firstArgMember];rfl)) (gN ?_ (by size_fits)));simp only[raiseNew];refine ag (xw ?_);rw[show A.in1.handled=none from hh]
 refine ag (aB (wpAny_throw ?_));refine ag (rG (T:="StopIteration") (b:=true) ⟨_,bI _ rfl,rfl⟩ xX ?_)
 exact aB (hQ _ (((iD ..).extBut.push _).push _))
end
structure Uy(es:Array DictEntry)(lo:Addr)(h:Heap)(as:aH):Prop where
 rise:as.Pairwise (· < ·)
 above:∀a∈as,lo<a
 pairs:∀(j:Nat) (a:Addr),as[j]? =some a→∃en,es[j]? =some en∧h.get? a=some {cls:= .type "tuple",data:= .seq #[en.key,en.val]}
section
variable{prog:Program}{w:World}{A:Around}{E:Value→Shared→Prop}{s:Shared}{es:Array DictEntry}{ep:Nat}{od:Obj}
theorem Oy{it d S:Addr}{i:Nat}{en:DictEntry}{Q:aQ→Shared→Prop}(fC:KdxSt s.heap it d S i es.size ep)(hS:S<s.heap.objs.size)(hm:i_ s.heap d od es ep)(hx:es[i]? =some en)
 (hQ:∀h',KdxSt h' it d S (i+1) es.size ep→h'.get? s.heap.objs.size=some {cls:= .type "tuple",data:= .seq #[en.key,en.val]}→h'.objs.size=s.heap.objs.size+1→(∀b o,b≠it→s.heap.get? b=some o→h'.get? b=some o)→Q (some (.ref s.heap.objs.size)) {s with heap:=h'}):
 wpAny (model prog w) A (pyNext (.ref it)) Q E s:=by
 rcases fC with⟨rfl,ok,ov,hit⟩|⟨ok,ov,a,f,oa,hit,ha,WA,haS⟩
 ·exact Jr hit hm hx fun h' iE ht hz GL=>hQ h' (.inr ⟨en.key,en.val,_,false,_,iE,ht,eh (bh hit),eh hS⟩) ht hz GL
 ·exact HS hit ha WA hm hx fun h' iE ht hz GL=>hQ h' (.inr ⟨ok,ov,a,true,oa,iE,GL a oa WA ha,WA,haS⟩) ht hz GL
theorem NI{it d S:Addr}{i:Nat}{Q:aQ→Shared→Prop}(hh:A.handled=none)(fC:KdxSt s.heap it d S i es.size ep)(hm:i_ s.heap d od es ep)(hx:es.size≤i)(hQ:∀h',Heap.ExtBut it s.heap h'→Q none {s with heap:=h'}):wpAny (model prog w) A (pyNext (.ref it)) Q E s:=by
 rcases fC with⟨rfl,ok,ov,hit⟩|⟨ok,ov,a,f,oa,hit,_,_,_⟩
 ·exact N4 hh hit hm hx hQ
 ·exact L4 hh hit hm hx hQ
theorem NM{S I d:Addr}{R:Result→Shared→Prop}(hh:A.handled=none)(ZE:S<I)(hSd:d≠S)(hId:d≠I)(hn:es.size≤sizeLine)(res:Value){h1:Heap}
 (hR:∀h' tk acc c as,(∀b o,b≠S→b≠I→h1.get? b=some o→h'.get? b=some o)→h'.get? S=some {cls:= .type "list",dict:=none,data:= .seq acc c,slots:= #[]}→as.length=es.size→Uy es I h' as→acc.toList=as.map Value.ref→R (.ok (.ret res)) {s with heap:=h',toks:=tk}):
 ∀(k i:Nat) (h:Heap) (tk c:Nat) (acc:Array Value) (as:aH),es.size - i=k→i≤es.size→KdxSt h I d S i es.size ep→i_ h d od es ep→(∀b o,b≠S→b≠I→h1.get? b=some o→h.get? b=some o)→
  h.get? S=some {cls:= .type "list",dict:=none,data:= .seq acc c,slots:= #[]}→acc.toList=as.map Value.ref→as.length=i→Uy es I h as→I<h.objs.size→
  codeAny (model prog w) A (.builtin "list.extend.loop" ⟨[.ref S,.ref I,res],[]⟩) R {s with heap:=h,toks:=tk}:=by
 have iB:S≠I:=bF ZE;intro k
 induction k with
 |zero=>
  intro i h tk c acc as hk hi fC hD keep hS fY DT hG hIs;refine xV entry_extend_loop ?_;rw[w8 pR _]
  show wpAny _ A.in1 (pyNext (.ref I)>>= _) _ _ _;refine ag (NI (s:={s with heap:=h,toks:=tk}) (A:=A.in1) hh fC hD (by lia) fun h' he=> ?_);refine aB (hR h' tk acc c as (fun b o x1 x2 e=>he b o x2 (keep b o x1 x2 e)) (he S _ iB hS) (by lia) ⟨hG.rise,hG.above,fun j a hj=> ?_⟩ fY);obtain⟨en,e1,e3⟩:=hG.pairs j a hj;exact⟨en,e1,he a _ (eh (hG.above a (ba hj))) e3⟩
 |succ k ih=>
  intro i h tk c acc as hk hi fC hD keep hS fY DT hG hIs;have dS:i<es.size:=by lia
  have hx:es[i]? =some es[i]:=Array.getElem?_eq_getElem dS;have hsz:acc.size=i:=by rw[←xB,fY,aN,DT]
  refine xV entry_extend_loop ?_;rw[w8 pR _]
  show wpAny _ A.in1 (pyNext (.ref I)>>= _) _ _ _;refine ag (Oy (s:={s with heap:=h,toks:=tk}) (S:=S) fC (bh hS) hD hx fun h' UU ht hz JM=> ?_);dsimp only at ht hz JM ⊢;have FX :=JM S _ iB hS;have N_:S<h.objs.size:=bh hS;have up:∀b o,b≠S→h'.get? b=some o→(h'.update S (Obj.mapSeq (·.push (Value.ref h.objs.size)))).get? b=some o:=fun b o hb e=>(qX _ _ (dt hb)).trans e;have abm :=up _ _ (eh N_) ht;show wpAny _ A.in1 (updateSeq S (·.push (Value.ref h.objs.size))>>= _) _ _ _
  refine ag (tT FX rfl (aB ⟨pU pR _,ih (i+1) _ tk _ (acc.push (Value.ref h.objs.size)) (as++[h.objs.size]) (by lia) dS (UU.keep up (dt iB)) (hD.keep fun o e=>up d o hSd (JM d o hId e))
   (fun b o x1 x2 e=>up b o x1 (JM b o x2 (keep b o x1 x2 e))) (jc _ FX rfl) (by rw[Array.toList_push,fY,cg];rfl) (by rw[bj,DT];rfl) ⟨?_,?_,?_⟩ (lS hIs (bh abm))⟩) (by rw[hsz];lia) (by show(acc.push (Value.ref h.objs.size)).size≤sizeLine+1;rw[Array.size_push,hsz];lia))
  ·refine List.pairwise_append.mpr ⟨hG.rise,List.pairwise_singleton _ _,fun a ha b hb=> ?_⟩;rw[cw.mp hb];obtain⟨j,hj⟩:=dz.mp ha;obtain⟨_,_,e⟩:=hG.pairs j a hj;exact bh e
  ·intro a ha;rcases cj.mp ha with ha|ha
   ·exact hG.above a ha
   ·rw[cw.mp ha];exact hIs
  ·intro j b hj;by_cases kU:j<as.length
   ·rw[bV kU] at hj;obtain⟨en,e1,e3⟩:=hG.pairs j b hj;have hb:=hG.above b (ba hj);exact⟨en,e1,up b _ (eh (lS ZE hb)) (JM b _ (eh hb) e3)⟩
   ·rw[cF (by lia)] at hj
    have h0:j - as.length=0:=by
     have:=(aS.mp hj).1;simp at this
     lia
    rw[h0] at hj;cases hj;rw[show j=i by lia];exact⟨_,hx,abm⟩
theorem Uy.low{lo lo' :Addr}{h:Heap}{as:aH}(g:Uy es lo h as)(hl:lo'≤lo):Uy es lo' h as:=⟨g.rise,fun a ha=>dR hl (g.above a ha),g.pairs⟩
theorem HV{r d:Addr}{R:Result→Shared→Prop}(hh:A.handled=none)(hv:s.heap.IsItemsView r d)(hm:i_ s.heap d od es ep)(S:Addr)(hSr:S≠r)(hSd:d≠S)(res:Value)(c0:Nat)(hS:s.heap.get? S=some {cls:= .type "list",data:= .seq #[] c0})
 (hR:∀h' tk acc c as,(∀b o,b≠S→s.heap.get? b=some o→h'.get? b=some o)→h'.get? S=some {cls:= .type "list",dict:=none,data:= .seq acc c,slots:= #[]}→as.length=es.size→Uy es s.heap.objs.size h' as→acc.toList=as.map Value.ref→R (.ok (.ret res)) {s with heap:=h',toks:=tk}) (hn:es.size≤sizeLine):
 wpAny (model prog w) A.in1 (Builtin.List.listExtendWith (.ref S) (.ref r) res) (fun fin s' =>match fin with| .done f=>R (.ok f) s' | .again c' =>c'.quiet=true∧codeAny (model prog w) A c' R s') (fun e s' =>R (.error e) s') s:=by
 have ZE:S<s.heap.objs.size:=bh hS;have hdI:d<s.heap.objs.size:=bh hm.at_
 have key:∀(h:Heap) (c1 tk:Nat),(∀b o,b≠S→(s.heap.push {cls:= .type "dict_itemiterator",data:= .fields #[.none,.bool false,.ref d,.int 0 0,.int es.size 0,.int ep 0,.none,.none]}).get? b=some o→h.get? b=some o)→
  h.get? S=some {cls:= .type "list",data:= .seq #[] c1}→codeAny (model prog w) A (.builtin "list.extend.loop" ⟨[.ref S,.ref s.heap.objs.size,res],[]⟩) R {s with heap:=h,toks:=tk}:=fun h c1 tk hk hS1=>by
  have hI:=hk s.heap.objs.size _ (eh ZE) (bI _ rfl)
  exact NM (od:=od) (ep:=ep) (s:=s) (h1:=s.heap) hh ZE hSd (bF hdI) hn res (fun h' V1 acc c as PD FX hl hG fY=>hR h' V1 acc c as (fun b o hb e=>PD b o hb (bF (bh e)) e) FX hl hG fY)
   es.size 0 h tk c1 #[] [] (Nat.sub_zero _) (cB _) (.inl ⟨rfl,.none,.none,hI⟩) (hm.keep fun o e=>hk d o hSd (bT _ e)) (fun b o hb _ e=>hk b o hb (bT _ e)) hS1 rfl rfl
   ⟨List.Pairwise.nil,(fun _ ha=>nomatch ha),(fun j a hj=>by simp at hj)⟩ (bh hI)
 unfold Builtin.List.listExtendWith;refine ag (wpAny_typeOf (T:="dict_items") hv.typeIs ?_)
 have x1:Builtin.List.listSameRef (.ref S) (.ref r)=false:=by simp[Builtin.List.listSameRef,hSr]
 have x2:(Value.type "dict_items" ==Value.type "list")=false:=by decide
 have x3:(Value.type "dict_items" ==Value.type "tuple")=false:=by decide
 simp only[x1,x2,x3,Bool.or_false,eJ,cI];refine ag (Js hv hm ?_)
 have hS1:=bT {cls:= .type "dict_itemiterator",data:= .fields #[.none,.bool false,.ref d,.int 0 0,.int es.size 0,.int ep 0,.none,.none]} hS;refine ag (g7 (PySem.W.kdx_hint (let⟨o,ho,hc,_⟩:=hv;⟨o,bT _ ho,hc⟩) ?_));refine wpAny_ite_split (fun _=> ?_) (fun _=>aB ⟨pU pR _,key _ c0 _ (fun b o _ e=>e) hS1⟩);refine ag (wpAny_rule (ag ?_));show wpAny _ _ (updateSeq S (·.push .none)>>= fun _=>updateSeq S (·.pop)) _ _ _;refine ag (tT hS1 rfl ?_)
 have Uk:=jc (Obj.mapSeq (·.push Value.none)) hS1 rfl;refine tT (hz:=by seq_fits) Uk rfl (aB ⟨pU pR _,key _ _ _ (fun b o hb e=> ?_) (jc (Obj.mapSeq (·.pop)) Uk rfl)⟩);exact(qX _ _ (dt hb)).trans ((qX _ _ (dt hb)).trans e)
theorem Pc{r d:Addr}{Q:Value→Shared→Prop}(hh:A.handled=none)(hv:s.heap.IsItemsView r d)(hm:i_ s.heap d od es ep)(hn:es.size≤sizeLine)
 (hQ:∀h' tk acc c as,(∀b o,s.heap.get? b=some o→h'.get? b=some o)→h'.get? s.heap.objs.size=some {cls:= .type "list",dict:=none,data:= .seq acc c,slots:= #[]}→as.length=es.size→Uy es s.heap.objs.size h' as→acc.toList=as.map Value.ref→Q (.ref s.heap.objs.size) {s with heap:=h',toks:=tk}):
 wpAny (model prog w) A (call (.type "list") [.ref r]) Q E s:=by
 refine callType_codes (Q₁:=fun obj s1=>obj= .ref s.heap.objs.size∧s1={s with heap:=s.heap.push {cls:= .type "list",data:= .seq #[]}}) PySem.F.called_list (PySem.F.typeCall_list_1 _) PySem.F.entry_list_init (code_list_new _ ⟨rfl,rfl⟩) fun obj s1 x=> ?_;obtain⟨rfl,rfl⟩:=x;have hS:(s.heap.push {cls:= .type "list",data:= .seq #[]}).get? s.heap.objs.size=some {cls:= .type "list",data:= .seq #[]}:=bI _ rfl;have hr:r<s.heap.objs.size:=let⟨_,ho,_⟩:=hv;bh ho
 have hd:d<s.heap.objs.size:=bh hm.at_;refine⟨⟨_,hS,rfl⟩,PySem.F.args_list_init_2 _ _,?_⟩;have Uk:=jc (Obj.mapSeq (fun _=>(#[]:Array Value))) hS rfl;have U7:∀b o,b≠s.heap.objs.size→s.heap.get? b=some o→((s.heap.push {cls:= .type "list",data:= .seq #[]}).update s.heap.objs.size (Obj.mapSeq (fun _=>(#[]:Array Value)))).get? b=some o:=fun b o hb e=>(qX _ _ (dt hb)).trans (bT _ e);show wpAny _ _ (do let old←Builtin.List.listItems (.ref s.heap.objs.size);Builtin.List.listUpdate (.ref s.heap.objs.size) (fun _=> #[]);letGo old.toList.reverse;Builtin.List.listExtendWith (.ref s.heap.objs.size) (.ref r) .none) _ _ _;refine ag ?_;unfold Builtin.List.listItems;refine ag (wpAny_seqItems hS rfl (aB ?_))
 show wpAny _ _ (updateSeq s.heap.objs.size (fun _=> #[])>>= fun _=>letGo (#[]:Array Value).toList.reverse>>= fun _=>Builtin.List.listExtendWith (.ref s.heap.objs.size) (.ref r) .none) _ _ _;refine ag (tT hS rfl (ag (rM ?_)));refine HV (od:=od) (ep:=ep) (A:=A.in1) hh (let⟨o,ho,x⟩:=hv;⟨o,U7 r o (bF hr) ho,x⟩) (hm.keep fun o e=>U7 d o (bF hd) e) _ (eh hr) (bF hd) .none _ Uk (fun h' tk acc c as hk FX hl hG fY=> ?_) hn;exact⟨rfl,hQ h' tk acc c as (fun b o e=>hk b o (bF (bh e)) (U7 b o (bF (bh e)) e)) FX hl (hG.low (ck (bh Uk))) fY⟩
end
section
variable{X:Cx}
noncomputable def Vu(kvs:dw)(bs:aH)(j:Nat):aA:=match kvs[j]?,bs[j]? with
 |some p,some b=>[.ref b,p.2]
 |_,_=>[]
theorem lF(hc:X.calm=true):ee X (.type "list") (fun xs H Q=>∃v d kvs,xs=[.ref v]∧H v=some (gO v d)∧H d=some (.dT kvs)∧∀l ys H',H l=none→(∀a o,H a=some o→H' a=some o)→H' l=some (.lst ys)→DF H' ys kvs→Q (.ref l) H'):=by
 intro pins s σ H xs us Q I r h;obtain⟨v,d,kvs,rfl,hv,hq,q⟩:=h;obtain⟨u,rfl,rx⟩:=wS r;cases rx;obtain⟨hz,hs,xs,rel,o,es,ep,g1,g2,g3,g4,g5⟩:=(show bx X.prog X.w H s.heap d (.dT kvs) from I.bE d _ hq);obtain⟨ym,_⟩:=(show bx X.prog X.w H s.heap v (gO v d) from I.bE v _ hv);have hl:=dP rel;have Dc:es.size=xs.length:=jm g4;refine Pc (od:=o) (ep:=ep) (I.ok.hd hc) ym ⟨g1,g2,g3⟩ (by lia) fun h' tk acc c as hk hS DT hG fY=> ?_;have AU:H s.heap.objs.size=none:=I.bE.fresh (az _);have X8:∀a∈as,H a=none:=fun a ha=>I.bE.fresh (ck (hG.above a ha))
 let bs:=xs.map fun x=>x.2.1
 let H' :Hp:=fun a=>if a=s.heap.objs.size then some (.lst (as.map V.ref)) else if a∈as then some (.tup (Vu kvs bs (as.idxOf a))) else H a
 have sm:∀a o,H a=some o→H' a=some o:=fun a o e=>by
  show(if a=s.heap.objs.size then some (.lst (as.map V.ref)) else if a∈as then some (.tup (Vu kvs bs (as.idxOf a))) else H a)=some o;rw[au (aq e AU),au fun z=>by rw[X8 a z] at e;cases e];exact e
 have zp :H' s.heap.objs.size=some (.lst (as.map V.ref)):=aC rfl
 have hi:∀(j:Nat) a,as[j]? =some a→H' a=some (.tup (Vu kvs bs j)):=fun j a e=>by
  have hm:=ba e;show(if a=s.heap.objs.size then some (.lst (as.map V.ref)) else if a∈as then some (.tup (Vu kvs bs (as.idxOf a))) else H a)=_;rw[au (eh (hG.above a hm)),aC hm,LW hG.rise e]
 have at_:∀j,j<kvs.length→∃k b x v,xs[j]? =some (k,b,x)∧kvs[j]? =some (k,v)∧bs[j]? =some b∧H b=some (.tup (k.map kV))∧RelV v x:=fun j hj=>by
  obtain⟨⟨k,b,x⟩,hx⟩:∃p,xs[j]? =some p:=⟨xs[j],by simp[show j<xs.length by lia]⟩;have hp:kvs[j]? =some kvs[j]:=by simp[hj]
  obtain⟨f1,f2,f3⟩:=jt rel hp hx;have f1:kvs[j].1=k:=f1;refine⟨k,b,x,kvs[j].2,hx,by rw[hp,←f1],by show(xs.map fun x=>x.2.1)[j]? =_;rw[aW,hx];rfl,by rw[←f1];exact f2,f3⟩
 have I2:Inv X pins σ H' {s with heap:=h',toks:=tk}:=by
  refine I.more hk sm fun a ob e=> ?_;by_cases z1:a=s.heap.objs.size
  ·subst z1;rw[zp] at e;cases e;refine .inr ⟨az _,by rw[aN];lia,acc.toList,c,?_,hS⟩;rw[fY];clear fY hS hG DT hi zp sm X8
   induction as with
   |nil=>exact .nil
   |cons a r ih=>exact .cons rfl ih
  ·by_cases z2:a∈as
   ·obtain⟨j,hj⟩:=dz.mp z2;rw[hi j a hj] at e;cases e;obtain⟨en,e1,e3⟩:=hG.pairs j a hj
    have kU:j<kvs.length:=by
     have:=(aS.mp hj).1
     lia
    obtain⟨k,b,x,v,y1,y2,y3,y4,y5⟩:=at_ j kU;rw[entry_at g4 j,y1] at e1;cases e1;refine .inr ⟨ck (hG.above a z2),?_⟩;unfold Vu;rw[y2,y3];exact⟨(show 2≤sizeLine by decide),[.ref b,x],.cons rfl (.cons y5 .nil),⟨_,e3,rfl,_,rfl⟩⟩
   ·left
    have:H' a=H a:=by
     show(if a=s.heap.objs.size then some (.lst (as.map V.ref)) else if a∈as then some (.tup (Vu kvs bs (as.idxOf a))) else H a)=H a;rw[au z1,au z2]
    rw[←this];exact e
 refine⟨.ref s.heap.objs.size,H',I2,rfl,q _ _ H' AU sm zp ⟨by rw[aN];lia,fun j k x e=> ?_⟩⟩;have TR:=(aS.mp e).1;have kU:j<as.length:=by lia
 have ha:as[j]? =some as[j]:=by simp[kU]
 obtain⟨k',b,x',v',y1,y2,y3,y4,y5⟩:=at_ j TR;rw[e] at y2;cases y2;refine⟨as[j],b,by rw[aW,ha];rfl,?_,sm _ _ y4⟩;rw[hi j _ ha];unfold Vu;rw[e,y3]
end
structure FI(K:Frag)(mg:Str→aQ)(x:Str)(st:Stmt)(ps:aJ)(f:Addr)(fd:FuncData):Prop where
 m:mg x=some (.ref f)
 F:Hx K x x st f fd
 b:Binds K fd ps []
structure MI(K:Frag)(C:Addr)(x q:Str)(st:Stmt)(ps:aJ)(f:Addr)(fd:FuncData):Prop where
 t:Meth K C x f
 F:Hx K x q st f fd
 b:Binds K fd ps []
theorem aI.of{N P:aJ}{sc:Scope}(h1:sc.kind= .function:=by rfl)(h2:sc.isCoroutine=false:=by rfl)(h3:sc.isGenerator=false:=by rfl)(h4:N.Nodup:=by decide+kernel)(h5:N.take P.length=P:=by rfl)
 (h6:∀x∈P,sc.names.lookup x=some .local∨sc.names.lookup x=some .cell:=by decide+kernel) (h7:∀y∈sc.names,y.2≠.free:=by decide+kernel):aI N P sc:=⟨h1,h2,h3,h4,h5,h6,h7⟩
section
variable{P:Program}{w:World}{K:Frag}{mg:Str→aQ}{base:Heap}{x qual:Str}{st:Stmt}{f:Addr}{fd:FuncData}{N ps:aJ}{k:Nat}{sp:Sp}
theorem Hx.fV(F:Hx K x qual st f fd)(S:aI N ps (ay st))
 (hb:∀(c_:Value) (A:Around) (outer:List Env) (s:Shared) (H:Hp) (vs:aA) (Q:VK) (E:XK),eW k (A.deeper (envOfC qual (ay st) s.heap.objs.size f c_))→sp vs H Q E→
  ∃t,C8 (Cv eC P w K mg base N qual (ay st) f c_ A outer s H E).KS (gH st) t∧t {nx:=fun _ H' =>Q .bK H',rt:=Q} (XV N vs) H)
 (len:∀vs H Q E,sp vs H Q E→vs.length=ps.length:=by intro _ _ _ _ h;repeat (first|(obtain⟨rfl,_⟩:=h;rfl)|obtain⟨_,h⟩:=h)):bC P w K mg base eC (k+1) f fd ps sp:=F.ok S len hb
theorem Hx.okN(F:Hx K x qual st f fd)(S:aI N ps (ay st))
 (hb:∀(c_:Value) (A:Around) (outer:List Env) (s:Shared) (H:Hp) (vs:aA) (Q:VK) (E:XK),eW k (A.deeper (envOfC qual (ay st) s.heap.objs.size f c_))→sp vs H Q E→
  ∃t,DZ (Cv eC P w K mg base N qual (ay st) f c_ A outer s H E).KS (gH st) t∧t {nx:=fun _ H' =>Q .bK H',rt:=Q} (XV N vs) H)
 (len:∀vs H Q E,sp vs H Q E→vs.length=ps.length:=by intro _ _ _ _ h;repeat (first|(obtain⟨rfl,_⟩:=h;rfl)|obtain⟨_,h⟩:=h)):bC P w K mg base eC (k+1) f fd ps sp:=F.okM S len hb
end
section
variable{X:Cx}{CX:DK}{j k:Nat}{f C:Addr}{fd:FuncData}{ps:aJ}{sp:Sp}{E:XK}{x m q:Str}{st:Stmt}{p pos apos:Pos}{e o:Expr}{es:cq}{ta:TE}{t:TA}
theorem dO(F:bC X.prog X.w X.K X.mg X.base CX j f fd ps sp)(hr:eW k X.A)(I:FI X.K X.mg x st ps f fd)(hx:zn CX X E)(ha:PA X (e::es) t)(hj:j≤k:=by decide)(hg:Gl X x:=by rfl)
 (Fv:(x==("__debug__" :Str))=false:=by decide) (he:starEach (e::es) X.env=(false,eval e X.env)::starEach es X.env:=by rfl) (ma:(backTo pos (starEach es X.env)).any (·.1)=false:=by rfl):
 PE X (.Call (.Name x p) (e::es) [] pos) (Jl sp [] E t):=MU (F.mono hj) hr hg I.m I.F.kp I.b .nil hx ha Fv he ma
theorem nu{pl:Sem Bool}(he:PE X o ta)(c:Em X.K C)(I:MI X.K C m q st ps f fd)(F:bC X.prog X.w X.K X.mg X.base CX j f fd ps sp)(hr:eW k X.A)(hx:zn CX X E)(ha:PA X (e::es) t)(hj:j≤k:=by decide)
 (fC:starEach (e::es) X.env=(false,eval e X.env)::starEach es X.env:=by rfl) (ma:(backTo pos (starEach es X.env)).any (·.1)=false:=by rfl)
 (ht:eval (.Call (.Attribute o m apos) (e::es) [] pos) X.env=(do
  let ov←eval o X.env
  standAt apos.atName
  let(f,first)←holding [ov] (getMethod ov m pl)
  callWith pos f first (backTo pos (starEach (e::es) X.env)) (backToKw pos (keywordEach [] X.env))):=by rfl):
 PE X (.Call (.Attribute o m apos) (e::es) [] pos) (Gi C m sp [] E ta t):=Nj he c I.t (F.mono hj) hr I.b .nil hx ha fC ma ht
theorem wI{pl:Sem Bool}(he:PE X o ta)(c:Em X.K C)(I:MI X.K C m q st ps f fd)(F:bC X.prog X.w X.K X.mg X.base CX j f fd ps sp)(hr:eW k X.A)(hx:zn CX X E)(hj:j≤k:=by decide)
 (ht:eval (.Call (.Attribute o m apos) [] [] pos) X.env=(do
  let ov←eval o X.env
  standAt apos.atName
  let(f,first)←holding [ov] (getMethod ov m pl)
  callWith pos f first (backTo pos (starEach [] X.env)) (backToKw pos (keywordEach [] X.env))):=by rfl):
 PE X (.Call (.Attribute o m apos) [] [] pos) (Gi C m sp [] E ta JI):=LR he c I.t (F.mono hj) hr I.b .nil hx ht
end
section
variable{X:Cx}{pos:Pos}{e a b:Expr}{te ta tb:TE}
theorem iO(i:Nat){x:Str}(hN:X.N.Nodup)(hi:X.N[i]? =some x:=by rfl)(hx:Loc X.env.scope x:=by first|exact .inl rfl|exact .inr rfl)(hf:X.fn x=true∨X.env.scope.names.lookup x=some .local:=by first|exact .inl rfl|exact .inr rfl|assumption):PG X (.Name x pos) (zi i):=NG hN hi hx hf
theorem fG(i:Nat){x:Str}{pos' :Pos}(hN:X.N.Nodup)(he:PE X e te)(hi:X.N[i]? =some x:=by rfl)(hx:Loc X.env.scope x:=by first|exact .inl rfl|exact .inr rfl)(hs:swapsWith e (some (.Name x pos')) pos.line X.env=pure false:=by rfl)
 (hf:X.fn x=true∨X.env.scope.names.lookup x=some .local:=by first|exact .inl rfl|exact .inr rfl|assumption):PS X (.Assign [.Name x pos'] e pos) (He te (zi i)):=Kz hN hi hx he hs hf
theorem de{r:R2}(hr:Ld X r)(ha:PE X a ta)(hb:PE X b tb)(hs:Gd b:=by exact fun _ _=>rfl):PE X (.Subscript a b pos) (U4 r ta tb):=aa8 hr ha hb hs
theorem gY(hu:X.A.units+1<cLine)(ha:PE X a ta)(hb:PE X b tb)(hs:Ti b:=by exact fun _ _=>rfl):PE X (.Subscript a b pos) (PN ta tb):=OC hu ha hb hs
theorem Io{op:CmpOp}{r:R2}(ho:kW X (compareOp op) r)(ha:PE X a ta)(hb:PE X b tb)(hm:behindInMarks op b=false:=by first|exact LD _|with_unfolding_all rfl):PE X (.Compare a [op] [b] pos) (U4 r ta tb):=NH ho ha hb hm
theorem xL{op:CmpOp}{r:R2}(ho:kW X (compareOp op) r)(ha:PE X a ta)(hb:PE X b tb)(hm:behindInMarks op b=false:=by first|exact LD _|with_unfolding_all rfl):PT X (.Compare a [op] [b] pos) (SM (U4 r ta tb)):=NV ho ha hb hm
theorem Cp{f:Str}(he:PE X e te)(hb:attributeBase e f X.env (eval e X.env)=eval e X.env:=by rfl):PE X (.Attribute e f pos) (OS X.K te f):=LC he hb
theorem pfk(K:Frag){f:Str}(he:PE X e te)(hK:X.K=K:=by rfl)(hb:attributeBase e f X.env (eval e X.env)=eval e X.env:=by rfl):PE X (.Attribute e f pos) (OS K te f):=Pg hK he hb
theorem aX(ha:PE X e te)(hs:starEach [e] X.env=(false,eval e X.env)::starEach [] X.env:=by rfl):PA X [e] (JL te JI):=ai ha gA hs
end
section
variable{X:Cx}{tg iter elt:Expr}{ifs:cq}{scope:Scope}{pos:Pos}{wi:TI}{g:TG}{tt:TT}{te:TE}
theorem Bk(N:aJ)(k:Nat)(js:List Nat)(hi:PI X tg iter wi)
 (hb:∀(cl:List (Str×Addr)) (C:Addr) (s:Shared) (H:Hp) (fp:aH),PG (fm X N scope cl C s H fp) tg g∧Fp (fm X N scope cl C s H fp) ifs tt∧PE (fm X N scope cl C s H fp) elt te)
 (hc:X.calm=true:=by rfl) (S:mG X N scope k js:=by exact AZ (by kernel_rfl)) (hs:∀x,foldedSetIterable iter X.env x=pure x:=by intro _;rfl):PE X (.ListComp elt [⟨tg,iter,ifs,0⟩] scope pos) (FW wi k js g tt te):=OE hc S hi hb hs
theorem Na(i:Nat){x:Str}{pos' f_:Pos}(hN:X.N.Nodup)(N:aJ)(k:Nat)(js:List Nat)(hi:PI X tg iter wi)
 (hb:∀(cl:List (Str×Addr)) (C:Addr) (s:Shared) (H:Hp) (fp:aH),PG (fm X N scope cl C s H fp) tg g∧Fp (fm X N scope cl C s H fp) ifs tt∧PE (fm X N scope cl C s H fp) elt te)
 (C6 :X.N[i]? =some x:=by rfl) (hx:Loc X.env.scope x:=by first|exact .inl rfl|exact .inr rfl) (hc:X.calm=true:=by rfl) (S:mG X N scope k js:=by exact AZ (by kernel_rfl))
 (hsw:swapsWith (.ListComp elt [⟨tg,iter,ifs,0⟩] scope f_) (some (.Name x pos')) pos.line X.env=pure true:=by rfl)
 (hs:∀x,foldedSetIterable iter X.env x=pure x:=by intro _;rfl) (hf:X.fn x=true∨X.env.scope.names.lookup x=some .local:=by first|exact .inl rfl|exact .inr rfl|assumption):
 PS X (.Assign [.Name x pos'] (.ListComp elt [⟨tg,iter,ifs,0⟩] scope f_) pos) (He (FW wi k js g tt te) (zi i)):=NY hN C6 hx hc S hi hb hsw hs hf
theorem A2{body:List Stmt}{tb:TS}(hi:PI X tg iter wi)(hg:PG X tg g)(hb:C8 X body tb)(hp:PassesOwn (model X.prog X.w) X.A X.env X.xe:=by exact ue)(hc:X.calm=true:=by rfl)
 (hs:∀x,foldedSetIterable iter X.env x=pure x:=by intro _;rfl):PS X (.For tg iter body [] pos) (acM wi g tb):=U1 hp hc hi hg hb hs
theorem lN{id:String}{x:Str}{r:aA→Hp→VK→Prop}{e:Expr}{es:cq}{t:TA}{p:Pos}(hc:ee X (.builtin id) r)(hm:X.mg x=none)(hv:bootBuiltins x=some (.builtin id))(ha:PA X (e::es) t)(hg:Gl X x:=by rfl)(hn:x≠ "__name__":=by decide)(Fv:(x==("__debug__" :Str))=false:=by decide)
 (he:starEach (e::es) X.env=(false,eval e X.env)::starEach es X.env:=by rfl) (ma:(backTo pos (starEach es X.env)).any (·.1)=false:=by rfl):PE X (.Call (.Name x p) (e::es) [] pos) (tCB r t):=Ml hc hg hm hv ha hn Fv he ma
theorem Dv{T:String}{x:Str}{r:aA→Hp→VK→Prop}{e:Expr}{es:cq}{t:TA}{p:Pos}(hc:ee X (.type T) r)(hm:X.mg x=none)(hv:bootBuiltins x=some (.type T))(ha:PA X (e::es) t)(hg:Gl X x:=by rfl)(hn:x≠ "__name__":=by decide)(Fv:(x==("__debug__" :Str))=false:=by decide)
 (he:starEach (e::es) X.env=(false,eval e X.env)::starEach es X.env:=by rfl) (ma:(backTo pos (starEach es X.env)).any (·.1)=false:=by rfl):PE X (.Call (.Name x p) (e::es) [] pos) (tCB r t):=Il hc hg hm hv ha hn Fv he ma
end
end L2
namespace My
open PySem L2 PyProof.Rows
theorem rX:aI ["thing"] ["thing"] (ay vN):= .of
theorem DD:aI ["thing","low","high"] ["thing","low","high"] (ay yg):= .of
theorem Fx:aI ["thing"] ["thing"] (ay A7):= .of
theorem Dp:aI ["thing"] ["thing"] (ay yo):= .of
theorem Er:aI ["thing"] ["thing"] (ay AO):= .of
theorem i8:aI ["house","frame","hands","part","links","number","way"] ["house","frame","hands"] (ay BG):= .of
theorem iV:aI ["house","frame","hands","rows","link","part","found","turn","row"] ["house","frame","hands"] (ay Jy):= .of
theorem Ao:aI ["house","frame","hands"] ["house","frame","hands"] (ay su):= .of
theorem BH:aI ["house","thing"] ["house","thing"] (ay vU):= .of
theorem Dy:aI ["value","part"] ["value","part"] (ay yt):= .of
theorem DG:aI ["house","holder","part"] ["house","holder","part"] (ay zQ):= .of
theorem qT:aI ["self"] ["self"] (ay jZ):= .of
theorem wQ:aI ["self","frame"] ["self","frame"] (ay oQ):= .of
theorem h_:aI ["self","frame","ended","number"] ["self","frame"] (ay mL):= .of
theorem zx:aI ["self","frame"] ["self","frame"] (ay qi):= .of
theorem u7:aI ["self","frame"] ["self","frame"] (ay mM):= .of
theorem ip:aI ["self","frame","outward","step"] ["self","frame"] (ay tf):= .of
theorem qN:aI ["self","frame"] ["self","frame"] (ay jJ):= .of
theorem vo:aI ["self","thing"] ["self","thing"] (ay mQ):= .of
theorem qI:aI ["self"] ["self"] (ay jL):= .of
theorem wM:aI ["self"] ["self"] (ay oH):= .of
theorem qb:aI ["self","thing"] ["self","thing"] (ay jf):= .of
theorem nF:aI ["self","thing"] ["self","thing"] (ay iL):= .of
theorem k6:aI ["self","thing"] ["self","thing"] (ay gz):= .of
theorem kJ:aI ["self","thing"] ["self","thing"] (ay gw):= .of
theorem kI:aI ["self","thing"] ["self","thing"] (ay gy):= .of
theorem sC:aI ["self","limit"] ["self","limit"] (ay k_):= .of
theorem il:aI ["self","frame","size","spare","place","floor"] ["self","frame","size"] (ay uD):= .of
theorem rP:aI ["self","way","k","value","room"] ["self","way","k","value"] (ay v_):= .of
theorem yi:aI ["self","way"] ["self","way"] (ay qq):= .of
theorem AK:aI ["self"] ["self"] (ay ux):= .of
theorem Au:aI ["self"] ["self"] (ay ur):= .of
theorem sy:aI ["self"] ["self"] (ay lB):= .of
theorem yP:aI ["self","frame"] ["self","frame"] (ay qe):= .of
theorem uO:aI ["self"] ["self"] (ay mS):= .of
theorem p6:aI ["self","frame"] ["self","frame"] (ay jz):= .of
theorem wR:aI ["self","thing"] ["self","thing"] (ay og):= .of
theorem sq:aI ["self","thing"] ["self","thing"] (ay lr):= .of
theorem jC:aI ["self","thing","taker"] ["self","thing"] (ay ki):= .of
theorem Cy:aI ["room","thing"] ["room","thing"] (ay wF):= .of
theorem B_:aI ["_law_script","_law_k"] ["_law_script","_law_k"] (ay wA):= .of
theorem D8:aI ["_law_cell_here"] ["_law_cell_here"] (ay yE):= .of
theorem iR:aI ["_law_box_here","_law_many","_law_digit","_law_number"] ["_law_box_here","_law_many"] (ay vG):= .of
theorem cP:aI ["_law_box_here","_law_many","_law_letters","_law_way","_law_first","_law_step","_law_words","_law_stem","_law_at","_law_whole"] ["_law_box_here","_law_many"] (ay rC):= .of
theorem AD:aI ["_law_limit"] ["_law_limit"] (ay rB):= .of
theorem wy:aI ["_law_world_here","_law_frame","_law_found"] ["_law_world_here","_law_frame"] (ay yh):= .of
theorem vj:aI ["_law_world_here"] ["_law_world_here"] (ay mV):= .of
theorem BU:aI ["_law_world_here"] ["_law_world_here"] (ay vJ):= .of
theorem AJ:aI ["_law_world_here","_law_frame"] ["_law_world_here","_law_frame"] (ay ug):= .of
theorem qz:aI ["_law_world_here","_law_frame","_law_size","_law_way"] ["_law_world_here","_law_frame","_law_size"] (ay rW):= .of
theorem ie:aI ["_law_world_here","_law_frame","_law_found","_law_one","_law_way"] ["_law_world_here","_law_frame"] (ay tP):= .of
theorem fP:aI ["_law_world_here","_law_rows","_law_frame","_law_rooms"] ["_law_world_here"] (ay nH):= .of
theorem gT:aI ["_law_world_here","_law_found","_law_frame"] ["_law_world_here"] (ay lI):= .of
theorem kM:aI ["_law_box_here","_law_world_here","_law_kind","_law_some"] ["_law_box_here","_law_world_here"] (ay sU):= .of
theorem dj:aI ["_law_box_here","_law_house","_law_world_here","_law_kind","_law_standing_here","_law_frame","_law_some","_law_size","_law_way","_law_k","_law_value_here"] ["_law_box_here","_law_house","_law_world_here"] (ay wg):= .of
theorem ky:aI ["_law_box_here","_law_world_here","_law_names_here"] ["_law_box_here","_law_world_here"] (ay uE):= .of
theorem Ax:aI ["_law_world_here","_law_frame"] ["_law_world_here","_law_frame"] (ay rq):= .of
theorem fO:aI ["_law_world_here","_law_frame","_law_hands_here","_law_inner_here","_law_found","_law_holder","_law_cells"] ["_law_world_here","_law_frame","_law_hands_here"] (ay si):= .of
theorem cG:aI ["_law_world_here","_law_frame","_law_hands_here","_law_inner_here","_law_found","_law_fresh","_law_late","_law_row_here","_law_way","_law_k","_law_value_here"] ["_law_world_here","_law_frame","_law_hands_here"] (ay vM):= .of
theorem fK:aI ["_law_box_here","_law_limit","_law_house","_law_world_here","_law_turn"] ["_law_box_here"] (ay uz):= .of
theorem cc:aI ["_law_box_here","_law_house","_law_world_here","_law_hands_here","_law_standing_here","_law_last","_law_many","_law_turn","_law_frame","_law_way","_law_k"] ["_law_box_here","_law_house","_law_world_here","_law_hands_here"] (ay o9):= .of
theorem kE:aI ["_law_world_here","_law_hands_here","_law_row_here","_law_one","_law_other"] ["_law_world_here","_law_hands_here","_law_row_here"] (ay rV):= .of
theorem dk:aI ["_law_house","_law_world_here","_law_hands_here","_law_other","_law_frame","_law_some","_law_due","_law_handed","_law_found","_law_way"] ["_law_house","_law_world_here","_law_hands_here"] (ay sd):= .of
theorem vq:aI ["_law_script","_law_beside","_law_k","_law_box_here","_law_scene_here"] ["_law_script"] (ay QM):= .of
set_option genInjectivity false in
set_option genSizeOf false in
structure qa where
 (jY yS AX yB AY AQ JQ sO wq zo zz fh nM mN qf ni t8 j6 m_ kc ou jd iN gK gf gq hZ tQ wk qA uk rJ lu qw m9 jB oO lC jK wC vK zl vR uF sr yQ mR vS r9 uy tw oI kX uh wB t_ uB ua vZ rE o7 rO tE Qi ja ak:Addr)
 (kg zP Br yR BA BD KI sH vO zX y_ jN o_ mW qm mX sQ jU nk j_ oG jb iM gP gh gi lx tp wo qB rA tG k4 qk mZ jx nR lA jV wG vW yL vT tY sT zH mY wc uo tI uf n9 lG rF vF uJ sF sZ wm sS oM r_ sG GJ:FuncData)
structure Txt(K:Frag)(mg:Str→aQ)(A:qa):Prop where
 Kt:mg "Frames"=some (.ref A.ja)
 Oa:mg "House"=some (.ref A.ak)
 iz:FI K mg "is_number" vN ["thing"] A.jY A.kg
 jk:FI K mg "is_whole" yg ["thing","low","high"] A.yS A.zP
 Bi:FI K mg "is_name" A7 ["thing"] A.AX A.Br
 qD:FI K mg "is_count" yo ["thing"] A.yB A.yR
 BF:FI K mg "is_pair" AO ["thing"] A.AY A.BA
 Bo:FI K mg "ways_in" BG ["house","frame","hands"] A.AQ A.BD
 JD:FI K mg "kept" Jy ["house","frame","hands"] A.JQ A.KI
 sE:FI K mg "want_hands" su ["house","frame","hands"] A.sO A.sH
 wH:FI K mg "are_hands" vU ["house","thing"] A.wq A.vO
 q0:FI K mg "leads_in" yt ["value","part"] A.zo A.zX
 qG:FI K mg "links_of" zQ ["house","holder","part"] A.zz A.y_
 ke:MI K A.ja "__init__" "Frames.__init__" jZ ["self"] A.fh A.jN
 nZ:MI K A.ak "begin" "Frames.begin" oQ ["self","frame"] A.nM A.o_
 m3:MI K A.ak "finish" "Frames.finish" mL ["self","frame"] A.mN A.mW
 ig:MI K A.ak "part" "Frames.part" qi ["self","frame"] A.qf A.qm
 mT:MI K A.ak "inside" "Frames.inside" mM ["self","frame"] A.ni A.mX
 sJ:MI K A.ak "row" "Frames.row" tf ["self","frame"] A.t8 A.sQ
 jR:MI K A.ak "ended_by" "Frames.ended_by" jJ ["self","frame"] A.j6 A.jU
 mU:MI K A.ak "stands" "Frames.stands" mQ ["self","thing"] A.m_ A.nk
 dD:MI K A.ak "standing" "Frames.standing" jL ["self"] A.kc A.j_
 gL:MI K A.ak "begun" "Frames.begun" oH ["self"] A.ou A.oG
 fU:MI K A.ak "was_begun" "Frames.was_begun" jf ["self","thing"] A.jd A.jb
 cY:MI K A.ak "want_begun" "Frames.want_begun" iL ["self","thing"] A.iN A.iM
 cH:MI K A.ak "want_standing" "Frames.want_standing" gz ["self","thing"] A.gK A.gP
 gs:MI K A.ak "want_beginning" "Frames.want_beginning" gw ["self","thing"] A.gf A.gh
 dY:MI K A.ak "want_finishing" "Frames.want_finishing" gy ["self","thing"] A.gq A.gi
 lj:MI K A.ak "__init__" "House.__init__" k_ ["self","limit"] A.hZ A.lx
 mK:MI K A.ak "make" "House.make" uD ["self","frame","size"] A.tQ A.tp
 nL:MI K A.ak "put" "House.put" v_ ["self","way","k","value"] A.wk A.wo
 kO:MI K A.ak "cells" "House.cells" qq ["self","way"] A.qA A.qB
 mB:MI K A.ak "used" "House.used" ux ["self"] A.uk A.rA
 um:MI K A.ak "left" "House.left" ur ["self"] A.rJ A.tG
 lJ:MI K A.ak "greatest" "House.greatest" lB ["self"] A.lu A.k4
 ku:MI K A.ak "rooms" "House.rooms" qe ["self","frame"] A.qw A.qk
 m6:MI K A.ak "picture" "House.picture" mS ["self"] A.m9 A.mZ
 jl:MI K A.ak "picture_of" "House.picture_of" jz ["self","frame"] A.jB A.jx
 jD:MI K A.ak "is_way" "House.is_way" og ["self","thing"] A.oO A.nR
 h8:MI K A.ak "is_value" "House.is_value" lr ["self","thing"] A.lC A.lA
 gJ:MI K A.ak "want_room" "House.want_room" ki ["self","thing"] A.jK A.jV
 wu:FI K mg "want_cell" wF ["room","thing"] A.wC A.wG
 vV:FI K mg "_law_cell" wA ["_law_script","_law_k"] A.vK A.vW
 yF:FI K mg "_law_box" yE ["_law_cell_here"] A.zl A.yL
 aT:FI K mg "_law_take" vG ["_law_box_here","_law_many"] A.vR A.vT
 rT:FI K mg "_law_names" rC ["_law_box_here","_law_many"] A.uF A.tY
 tJ:FI K mg "_law_world" rB ["_law_limit"] A.sr A.sT
 qE:FI K mg "_law_row" yh ["_law_world_here","_law_frame"] A.yQ A.zH
 cX:FI K mg "_law_standing" mV ["_law_world_here"] A.mR A.mY
 jT:FI K mg "_law_used" vJ ["_law_world_here"] A.vS A.wc
 sR:FI K mg "_law_begun" ug ["_law_world_here","_law_frame"] A.r9 A.uo
 my:FI K mg "_law_given" rW ["_law_world_here","_law_frame","_law_size"] A.uy A.tI
 rK:FI K mg "_law_ended" tP ["_law_world_here","_law_frame"] A.tw A.uf
 oP:FI K mg "_law_picture" nH ["_law_world_here"] A.oI A.n9
 dU:FI K mg "_law_all_rooms" lI ["_law_world_here"] A.kX A.lG
 mD:FI K mg "_law_value" sU ["_law_box_here","_law_world_here"] A.uh A.rF
 n_:FI K mg "_law_deed" wg ["_law_box_here","_law_house","_law_world_here"] A.wB A.vF
 tN:FI K mg "_law_hands" uE ["_law_box_here","_law_world_here"] A.t_ A.uJ
 l6:FI K mg "_law_inner" rq ["_law_world_here","_law_frame"] A.uB A.sF
 tR:FI K mg "_law_steps" si ["_law_world_here","_law_frame","_law_hands_here"] A.ua A.sZ
 wx:FI K mg "_law_kept" vM ["_law_world_here","_law_frame","_law_hands_here"] A.vZ A.wm
 tZ:FI K mg "_law_scene" uz ["_law_box_here"] A.rE A.sS
 nT:FI K mg "_law_chained" o9 ["_law_box_here","_law_house","_law_world_here","_law_hands_here"] A.o7 A.oM
 rN:FI K mg "_law_walks" rV ["_law_world_here","_law_hands_here","_law_row_here"] A.rO A.r_
 iW:FI K mg "_law_right" sd ["_law_house","_law_world_here","_law_hands_here"] A.tE A.sG
 QO:FI K mg "law" QM ["_law_script"] A.Qi A.GJ
 ac0:Em K A.ja
 XX:Mk K A.ja A.fh
 uG:R0 K A.ja "__init__" A.fh
 IU:gX K A.ja "parents"
 Ji:gX K A.ja "takers"
 aG:Em K A.ak
 Oj:Mk K A.ak A.hZ
 kK:gX K A.ak "bound"
 fj:gX K A.ak "floors"
 fR:gX K A.ak "lengths"
 eQ:gX K A.ak "parents"
 iY:gX K A.ak "peak"
 dW:gX K A.ak "takers"
 acz:∀(s:Shared) (u:Value),BindsTo s A.GJ ⟨[u],[]⟩ [("_law_script",u)]
 Rg:mg "all"=none
 JV:mg "bool"=none
 yH:mg "dict"=none
 oY:mg "enumerate"=none
 Mb:mg "int"=none
 df:mg "isinstance"=none
 gx:mg "len"=none
 nP:mg "list"=none
 GV:mg "max"=none
 Xf:mg "min"=none
 ib:mg "range"=none
 Jv:mg "repr"=none
 yn:mg "reversed"=none
 aa2:mg "str"=none
 P8:mg "sum"=none
 j9:mg "tuple"=none
 WT:mg "zip"=none
 Dw:∃u,RelV (V.int 0) u∧mg "GROUND"=some u
 Ip:∃u,RelV (V.str "abcdefghijklmnopqrstuvwxyz") u∧mg "LETTERS"=some u
 BY:∃u,RelV (V.int 1000) u∧mg "MOST_CELLS"=some u
 oj:∃u,RelV (V.int 6) u∧mg "MOST_CELLS_OF_ROOM"=some u
 Ah:∃u,RelV (V.int 100) u∧mg "MOST_FRAMES"=some u
 yj:∃u,RelV (V.int 6) u∧mg "MOST_LETTERS"=some u
noncomputable def oV:Option Nat→V
 |none=> .bK
 |some n=> .int n
theorem acZ:¬(("parents" :Str)="takers"):=by decide+kernel
set_option genInjectivity false in
set_option genSizeOf false in
structure HX where
 bd:V
 fa:V
 la:V
 pk:V
noncomputable def jP(pa ta:Addr):jX:=dB "takers" (.ref ta) (dB "parents" (.ref pa) [])
noncomputable def jA(pa ta:Addr)(z:HX):jX:=dB "peak" z.pk (dB "lengths" z.la (dB "floors" z.fa (dB "bound" z.bd (jP pa ta))))
theorem CC(pa ta:Addr)(z:HX):(jA pa ta z).lookup ("parents" :Str)=some (.ref pa):=by
 unfold jA jP;rw[aU,au (by decide+kernel),aU,au (by decide+kernel),aU,au (by decide+kernel),aU,au (by decide+kernel),aU,au acZ,aU,aC rfl]
theorem zL(pa ta:Addr)(z:HX):(jA pa ta z).lookup ("takers" :Str)=some (.ref ta):=by
 unfold jA jP;rw[aU,au (by decide+kernel),aU,au (by decide+kernel),aU,au (by decide+kernel),aU,au (by decide+kernel),aU,aC rfl]
theorem JR(pa ta:Addr)(z:HX):(jA pa ta z).lookup ("bound" :Str)=some z.bd:=by
 unfold jA;rw[aU,au (by decide+kernel),aU,au (by decide+kernel),aU,au (by decide+kernel),aU,aC rfl]
theorem Ce(pa ta:Addr)(z:HX):(jA pa ta z).lookup ("floors" :Str)=some z.fa:=by
 unfold jA;rw[aU,au (by decide+kernel),aU,au (by decide+kernel),aU,aC rfl]
theorem Ep(pa ta:Addr)(z:HX):(jA pa ta z).lookup ("lengths" :Str)=some z.la:=by
 unfold jA;rw[aU,au (by decide+kernel),aU,aC rfl]
theorem JN(pa ta:Addr)(z:HX):(jA pa ta z).lookup ("peak" :Str)=some z.pk:=by
 unfold jA;rw[aU,aC rfl]
theorem a8{pa ta:Addr}{z:HX}{m:Str}(h:¬m="peak" ∧¬m="lengths" ∧¬m="floors" ∧¬m="bound" ∧¬m="takers" ∧¬m="parents"):(jA pa ta z).lookup m=none:=by
 obtain⟨h1,h2,h3,h4,h5,h6⟩:=h;unfold jA jP;rw[aU,au h1,aU,au h2,aU,au h3,aU,au h4,aU,au h5,aU,au h6]
 all_goals rfl
structure iX(C:Addr)(H:Hp)(f pa ta:Addr)(ps ts:av):Prop where
 ob:∃dx z,H f=some (.ins C dx (jA pa ta z))
 pl:H pa=some (.lst (ps.map oV))
 tl:H ta=some (.lst (ts.map oV))
 ne:pa≠ta
theorem iX.same{C:Addr}{H H' :Hp}{f pa ta:Addr}{ps ts:av}(F:iX C H f pa ta ps ts)(s:ax H H'):iX C H' f pa ta ps ts:=by
 obtain⟨⟨dx,z,h⟩,h1,h2,h3⟩:=F;exact⟨⟨dx,z,s _ _ h⟩,s _ _ h1,s _ _ h2,h3⟩
structure WF(ps ts:av):Prop where
 len:ps.length=ts.length
 pos:0<ps.length
 le:ps.length≤101
 root:ps[0]? =some none
 par:∀i,0<i→i<ps.length→∃j,ps[i]? =some (some j)∧j<i
 tk:∀(i j:Nat),ts[i]? =some (some j)→j<ps.length
noncomputable def g_(ps:av)(t:Int):Bool:=decide (0≤t)&&decide (t≤(ps.length:Int) - 1)
noncomputable def di(ts:av)(t:Int):Bool:=decide (0≤t)&&(ts[t.toNat]? ==some none)
theorem nQ{xs:av}{i:Nat}{o:Option Nat}(h:xs[i]? =some o):IL (xs.map oV) (i:Int)=some (oV o):=b9 (by rw[aW,h];rfl)
section
variable{P:Program}{w:World}{K:Frag}{mg:Str→aQ}{base:Heap}{A:qa}
noncomputable def Jx:Sp:=fun vs H Q _=>∃i:Int,vs=[.int i]∧Q (.bl true) H
theorem iU(T:Txt K mg A):bC P w K mg base eC 1 A.jY A.kg ["thing"] Jx:=by
 refine T.iz.F.fV rX ?_
 rintro c_ Ar outer s H vs Q E hr ⟨i,rfl,k⟩
 refine⟨_,(ao (aK (iF (lN dE T.df Boot.«isinstance» (ai (pv 0) (aX (iQ (v:= .ty "int") rfl T.Mb Boot.«int» rfl)))) (iC (JA (lN dE T.df Boot.«isinstance» (ai (pv 0) (aX (iQ (v:= .ty "bool") rfl T.JV Boot.«bool» rfl))))))))),?_⟩;exact⟨_,rfl,_,_,_,_,rfl,.int i,rfl,_,rfl,eN ⟨_,rfl,_,_,_,_,rfl,.int i,rfl,_,rfl,k⟩⟩
noncomputable def Km:Sp:=fun vs H Q _=>∃i lo hi:Int,vs=[.int i,.int lo,.int hi]∧Q (.bl (decide (lo≤i)&&decide (i≤hi))) H
theorem LZ{lo hi i:Int}{Q:Bool→Prop}(k:Q (decide (lo≤i)&&decide (i≤hi)))(A1:Prop)(h:Q (decide (i≤hi))→A1):if decide (lo≤i)=true then A1 else Q false:=by
 by_cases q:lo≤i
 ·rw[bu q] at k ⊢;exact eN (h (by simpa using k))
 ·rw[eZ q] at k ⊢;exact cQ (by simpa using k)
theorem jI(T:Txt K mg A):bC P w K mg base eC 2 A.yS A.zP ["thing","low","high"] Km:=by
 refine T.jk.F.fV DD ?_
 rintro c_ Ar outer s H vs Q E hr ⟨i,lo,hi,rfl,k⟩
 refine⟨_,(ao (aK (iF (dO (iU T) hr T.iz aE (aX (pv 0))) (iC (DI GS GS (pv 1) (pv 0) (pv 2)))))),?_⟩;refine⟨_,rfl,i,rfl,_,rfl,?_⟩;exact eN ⟨_,rfl,_,rfl,lo,i,rfl,rfl,_,rfl,LZ (Q:=fun b=>Q (.bl b) H) k _ fun q=>⟨_,rfl,i,hi,rfl,rfl,q⟩⟩
noncomputable def Ow(C:Addr):Sp:=fun vs H Q _=>∃f pa ta ps ts,vs=[.ref f]∧iX C H f pa ta ps ts∧Q (.int ((ps.length:Int) - 1)) H
theorem iG(T:Txt K mg A):bC P w K mg base eC 1 A.ou A.oG ["self"] (Ow A.ak):=by
 refine T.gL.F.fV wM ?_
 rintro c_ Ar outer s H vs Q E hr ⟨f,pa,ta,ps,ts,rfl,F,k⟩
 obtain⟨⟨dx,z,ho⟩,hp,ht,ne⟩:=id F;refine⟨_,(ao (aK (bG lT (lN bA T.gx Boot.«len» (aX (Cp (pv 0)))) aj))),?_⟩;refine⟨_,rfl,f,A.ak,dx,_,_,rfl,ho,T.aG,T.eQ,CC _ _ _,pa,_,rfl,.inl (bw.of hp),_,1,rfl,rfl,?_⟩;rw[aN];exact k
noncomputable def abX(C:Addr):Sp:=fun vs H Q _=>∃f pa ta ps ts,∃t:Int,vs=[.ref f,.int t]∧iX C H f pa ta ps ts∧Q (.bl (g_ ps t)) H
theorem iP(T:Txt K mg A):bC P w K mg base eC 3 A.jd A.jb ["self","thing"] (abX A.ak):=by
 refine T.fU.F.fV qb ?_
 rintro c_ Ar outer s H vs Q E hr ⟨f,pa,ta,ps,ts,t,rfl,F,k⟩
 obtain⟨⟨dx,z,ho⟩,hp,ht,ne⟩:=id F;obtain⟨u1,oJ⟩:=T.Dw;refine⟨_,(ao (aK (dO (jI T) hr T.jk aE (ai (pv 1) (ai (mC rfl oJ.2 oJ.1) (aX (wI (pv 0) T.aG T.gL (iG T) hr aE))))))),?_⟩;exact⟨_,rfl,_,rfl,f,dx,_,rfl,ho,a8 (by decide+kernel),f,pa,ta,ps,ts,rfl,F,t,0,_,rfl,k⟩
noncomputable def MT(C:Addr):Sp:=fun vs H Q _=>∃f pa ta ps ts,∃t:Int,vs=[.ref f,.int t]∧iX C H f pa ta ps ts∧g_ ps t=true∧Q .bK H
theorem dH(T:Txt K mg A):bC P w K mg base eC 4 A.iN A.iM ["self","thing"] (MT A.ak):=by
 refine T.cY.F.fV nF ?_
 rintro c_ Ar outer s H vs Q E hr ⟨f,pa,ta,ps,ts,t,rfl,F,hb,k⟩
 obtain⟨⟨dx,z,ho⟩,hp,ht,ne⟩:=id F;refine⟨_,(ao (bW (eB (dQ (nu (pv 0) T.aG T.fU (iP T) hr aE (aX (pv 1))))) (ao eP) bc)),?_⟩;refine⟨_,rfl,f,dx,_,rfl,ho,a8 (by decide+kernel),_,rfl,f,pa,ta,ps,ts,t,rfl,F,_,rfl,?_⟩;rw[hb];exact k
noncomputable def Jp(C:Addr):Sp:=fun vs H Q _=>∃f pa ta ps ts,∃t:Int,vs=[.ref f,.int t]∧iX C H f pa ta ps ts∧ps.length=ts.length∧Q (.bl (di ts t)) H
theorem uQ(T:Txt K mg A):bC P w K mg base eC 4 A.m_ A.nk ["self","thing"] (Jp A.ak):=by
 refine T.mU.F.fV vo ?_
 rintro c_ Ar outer s H vs Q E hr ⟨f,pa,ta,ps,ts,t,rfl,F,hl,k⟩
 obtain⟨⟨dx,z,ho⟩,hp,ht,ne⟩:=id F;refine⟨_,(ao (aK (iF (nu (pv 0) T.aG T.fU (iP T) hr aE (aX (pv 1))) (iC (Io uT (de a7 (Cp (pv 0)) (pv 1)) dh))))),?_⟩;refine⟨_,rfl,f,dx,_,rfl,ho,a8 (by decide+kernel),_,rfl,f,pa,ta,ps,ts,t,rfl,F,_,rfl,?_⟩
 cases hb:g_ ps t with
 |true=>
  unfold g_ at hb;rw[gc,kS,kS] at hb;obtain⟨j,rfl⟩:∃j:Nat,t=j:=⟨t.toNat,by omega⟩;have hj:j<ts.length:=by omega
  have hx:ts[j]? =some ts[j]:=by simp[hj]
  refine eN ⟨_,rfl,f,A.ak,dx,_,_,rfl,ho,T.aG,T.dW,zL _ _ _,_,rfl,ta,_,_,_,rfl,rfl,bw.of ht,nQ hx,rfl,?_⟩
  have e:di ts (j:Int)=decide (oV ts[j]= .bK):=by
   unfold di;rw[bu hb.1,cT,hx,xA]
   cases ts[j] with
   |none=>rfl
   |some n=>rfl
  rw[←e];exact k
 |false=>
  have e:di ts t=false:=by
   unfold di;unfold g_ at hb;by_cases h0:0≤t
   ·rw[bu h0,xA] at hb ⊢;have h1:=of_decide_eq_false hb;have:ts[t.toNat]? =none:=gB (by omega);rw[this];rfl
   ·rw[eZ h0];rfl
  rw[e] at k;exact cQ k
theorem Dh{ps ts:av}{t:Int}(hl:ps.length=ts.length)(h:di ts t=true):g_ ps t=true:=by
 unfold di at h;rw[gc,kS] at h;have h1:=eq_of_beq h.2;have h2:=(aS.mp h1).1;unfold g_;rw[bu h.1,bu (show t≤(ps.length:Int) - 1 by omega)];rfl
noncomputable def Nz(C:Addr):Sp:=fun vs H Q _=>∃f pa ta ps ts,∃t:Int,vs=[.ref f,.int t]∧iX C H f pa ta ps ts∧ps.length=ts.length∧di ts t=true∧Q .bK H
theorem cW(T:Txt K mg A):bC P w K mg base eC 5 A.gK A.gP ["self","thing"] (Nz A.ak):=by
 refine T.cH.F.fV k6 ?_
 rintro c_ Ar outer s H vs Q E hr ⟨f,pa,ta,ps,ts,t,rfl,F,hl,hb,k⟩
 obtain⟨⟨dx,z,ho⟩,hp,ht,ne⟩:=id F;refine⟨_,(ah (bB (nu (pv 0) T.aG T.cY (dH T) hr aE (aX (pv 1)))) (ao (bW (eB (dQ (nu (pv 0) T.aG T.mU (uQ T) hr aE (aX (pv 1))))) (ao eP) bc))),?_⟩;refine⟨_,rfl,f,dx,_,rfl,ho,a8 (by decide+kernel),_,rfl,f,pa,ta,ps,ts,t,rfl,F,Dh hl hb,?_⟩;refine⟨_,rfl,f,dx,_,rfl,ho,a8 (by decide+kernel),_,rfl,f,pa,ta,ps,ts,t,rfl,F,hl,_,rfl,?_⟩;rw[hb];exact k
noncomputable def agy(C:Addr):Sp:=fun vs H Q _=>∃f pa ta ps ts,∃(t:Nat) (o:Option Nat),vs=[.ref f,.int t]∧iX C H f pa ta ps ts∧ps.length=ts.length∧ts[t]? =some o∧Q (oV o) H
theorem qS(T:Txt K mg A):bC P w K mg base eC 5 A.j6 A.jU ["self","frame"] (agy A.ak):=by
 refine T.jR.F.fV qN ?_
 rintro c_ Ar outer s H vs Q E hr ⟨f,pa,ta,ps,ts,t,o,rfl,F,hl,hx,k⟩
 obtain⟨⟨dx,z,ho⟩,hp,ht,ne⟩:=id F;have hj:t<ts.length:=(aS.mp hx).1
 have hb:g_ ps (t:Int)=true:=by
  unfold g_;rw[bu (show(0:Int)≤t by omega),bu (show(t:Int)≤(ps.length:Int) - 1 by omega)];rfl
 refine⟨_,(ah (bB (nu (pv 0) T.aG T.cY (dH T) hr aE (aX (pv 1)))) (ao (aK (de a7 (Cp (pv 0)) (pv 1))))),?_⟩;refine⟨_,rfl,f,dx,_,rfl,ho,a8 (by decide+kernel),_,rfl,f,pa,ta,ps,ts,t,rfl,F,hb,?_⟩;exact⟨_,rfl,f,A.ak,dx,_,_,rfl,ho,T.aG,T.dW,zL _ _ _,_,rfl,ta,_,_,_,rfl,rfl,bw.of ht,nQ hx,k⟩
end
noncomputable def aw(ts:av):List Nat:=(List.range ts.length).filter fun i=>ts[i]? ==some none
noncomputable def nV(n:Nat):V:= .int n
noncomputable def C2(ps:av):Nat→Nat→List Nat
 |0,f=>[f]
 |n+1,f=>f::(match ps[f]? with|some (some j)=>C2 ps n j|_=>[])
noncomputable def DS(ps:av)(f:Nat):List Nat:=C2 ps f f
theorem FY{ps ts:av}(W:WF ps ts)(n:Nat):C2 ps n 0=[0]:=by
 cases n with
 |zero=>rfl
 |succ n=>
  show 0::(match ps[0]? with|some (some j)=>C2 ps n j|_=>[])=[0];rw[W.root]
theorem Ou{ps ts:av}(W:WF ps ts)(f:Nat):f<ps.length→∀n m,f≤n→f≤m→C2 ps n f=C2 ps m f:=by
 induction f using Nat.strongRecOn with
 |_ f ih=>
  intro hf n m hn hm
  cases f with
  |zero=>rw[FY W,FY W]
  |succ g=>
   obtain⟨j,e,hj⟩:=W.par (g+1) (by lia) hf;obtain⟨n',rfl⟩:∃n',n=n' +1:=⟨n - 1,by lia⟩;obtain⟨m',rfl⟩:∃m',m=m' +1:=⟨m - 1,by lia⟩;show(g+1)::(match ps[g+1]? with|some (some j)=>C2 ps n' j|_=>[])=(g+1)::(match ps[g+1]? with|some (some j)=>C2 ps m' j|_=>[]);rw[e];show(g+1)::C2 ps n' j=(g+1)::C2 ps m' j;rw[ih j hj (by lia) n' m' (by lia) (by lia)]
noncomputable def S8(ps:av):Option Nat→List Nat
 |none=>[]
 |some j=>DS ps j
theorem BM{ps ts:av}(W:WF ps ts){f:Nat}{o:Option Nat}(h:ps[f]? =some o):DS ps f=f::S8 ps o:=by
 have hf:f<ps.length:=(aS.mp h).1
 cases f with
 |zero=>
  rw[W.root] at h;cases h;rfl
 |succ g=>
  obtain⟨j,e,hj⟩:=W.par (g+1) (by lia) hf;rw[e] at h;cases h;show(g+1)::(match ps[g+1]? with|some (some j)=>C2 ps g j|_=>[])=(g+1)::DS ps j;rw[e];show(g+1)::C2 ps g j=(g+1)::C2 ps j j;rw[Ou W j (by lia) g j (by lia) (az _)]
theorem EA(ps:av):∀(n f:Nat),(C2 ps n f).length≤n+1
 |0,f=>az _
 |n+1,f=>by
  show(match ps[f]? with|some (some j)=>C2 ps n j|_=>[]).length+1≤n+1+1
  split
  ·have:=EA ps n ‹_›
   lia
  ·simp
noncomputable def ix(ps:av)(f:Nat):List Nat:=(DS ps f).reverse
section
variable{P:Program}{w:World}{K:Frag}{mg:Str→aQ}{base:Heap}{A:qa}
noncomputable def E1(C:Addr):Sp:=fun vs H Q _=>∃f pa ta ps ts,vs=[.ref f]∧iX C H f pa ta ps ts∧ts.length≤1000∧∀l H',H l=none→ax H H'→H' l=some (.lst ((aw ts).map nV))→Q (.ref l) H'
theorem eK(T:Txt K mg A):bC P w K mg base eC 1 A.kc A.j_ ["self"] (E1 A.ak):=by
 refine T.dD.F.fV qI ?_
 rintro c_ Ar outer s H vs Q E hr ⟨f,pa,ta,ps,ts,rfl,F,hle,k⟩
 obtain⟨⟨dx,z,ho⟩,hp,ht,ne⟩:=id F;refine⟨_,(ao (aK (Bk ["number","taker"] 2 [] (md rfl T.oY (aX (Cp (pv 0)))) (fun _ _ _ _ _=>⟨(xM (K:=K) (n:=2) rfl rfl (eS (iO 0 (show(["number","taker"]:aJ).Nodup by decide+kernel)) (eS (iO 1 (show(["number","taker"]:aJ).Nodup by decide+kernel)) pD)) rfl rfl),(Ca (xL uT (pv 1) dh)),(pv 0)⟩)))),?_⟩;refine⟨_,rfl,f,A.ak,dx,_,_,rfl,ho,T.aG,T.dW,zL _ _ _,ta,_,rfl,ht,?_⟩;refine hU (fun i=>ts[i]? ==some none) nV (zB (bw.of ht)) ?_ ?_ fun p H' hp sm hl=>k p H' hp sm ?_
 ·rw[aN];exact aY hle (by decide)
 ·rintro i x H' C1 C0 hi sm ⟨t,y,rfl,hT,hy⟩ c1 c0
  rw[aW] at hy
  cases eo:ts[i]? with
  |none=>rw[eo] at hy;cases hy
  |some o=>
   rw[eo] at hy c1 c0;cases hy;refine⟨t,_,rfl,gg.of hT,rfl,_,_,rfl,_,_,rfl,rfl,((eM.refl _).own (by decide)).own (by decide),_,rfl,rfl,_,rfl,?_⟩
   cases o with
   |none=>exact⟨_,rfl,c1 rfl H' (ax.refl H')⟩
   |some n=>exact c0 rfl H' (ax.refl H')
 ·rw[aN] at hl;exact hl
noncomputable def abU(C:Addr):Sp:=fun vs H Q _=>∃f pa ta ps ts,∃t:Nat,vs=[.ref f,.int t]∧iX C H f pa ta ps ts∧WF ps ts∧t<ps.length∧∀l H',H l=none→ax H H'→H' l=some (.lst ((ix ps t).map nV))→Q (.ref l) H'
theorem HQ{ps:av}{t:Nat}(h:t<ps.length):g_ ps (t:Int)=true:=by
 unfold g_;rw[bu (show(0:Int)≤t by lia),bu (show(t:Int)≤(ps.length:Int) - 1 by lia)];rfl
theorem Aw(T:Txt K mg A):bC P w K mg base eC 5 A.t8 A.sQ ["self","frame"] (abU A.ak):=by
 refine T.sJ.F.fV ip ?_
 rintro c_ Ar outer s H vs Q E hr ⟨f,pa,ta,ps,ts,t,rfl,F,W,dS,k⟩
 obtain⟨⟨dx,z,ho⟩,hp,ht,ne⟩:=id F;refine⟨_,(ah (bB (nu (pv 0) T.aG T.cY (dH T) hr aE (aX (pv 1)))) (ah (fG 2 ip.nd (bY gA)) (ah (fG 3 ip.nd (pv 1)) (ah (sI ue (xL tU (pv 3) dh) (ah (bB (gu fc PySem.F.slot_list_append PySem.F.type_list_append cJ (pv 2) (aX (pv 3)))) (ao (fG 3 ip.nd (de a7 (Cp (pv 0)) (pv 3)))))) (ao (aK (Fi rfl rfl T.nP rfl T.yn (aX (pv 2))))))))),?_⟩;refine⟨_,rfl,f,dx,_,rfl,ho,a8 (by decide+kernel),_,rfl,f,pa,ta,ps,ts,t,rfl,F,HQ dS,?_⟩;refine⟨cB _,fun l hl=> ?_⟩;refine⟨_,rfl,?_⟩
 have P2:(DS ps t).length≤101:=by
  have:=EA ps t t;have:=W.le;show(C2 ps t t).length≤101
  lia
 refine⟨fun m σ H' =>∃(acc:List Nat) (o:Option Nat),σ=[some (.ref f),some (.int t),some (.ref l),some (oV o)]∧H' =upd H l (.lst (acc.map nV))∧acc++S8 ps o=DS ps t∧(∀j,o=some j→j<ps.length)∧m=(match o with|none=>0|some j=>j+1),⟨t+1,[],some t,rfl,rfl,rfl,?_,rfl⟩,?_⟩
 ·intro j e;cases e;exact dS
 ·rintro m σ H' ⟨acc,o,rfl,rfl,fY,hj,rfl⟩
  have sm:=ax.upd (o:= .lst (acc.map nV)) hl;refine⟨_,rfl,rfl,_,rfl,?_⟩
  cases o with
  |none=>
   refine⟨_,rfl,l,_,rfl,bw.of ae,fun l2 u_=> ?_⟩;have s2:=ax.upd (o:= .lst (acc.map nV).reverse) u_;refine k l2 _ (sm.free u_) (sm.trans s2) ?_;have e:acc=DS ps t:=by simpa[S8] using fY
   rw[ae,e,←xZ];rfl
  |some j=>
   have kU:=hj j rfl;have hx:ps[j]? =some ps[j]:=by simp[kU]
   have est:=BM W hx;have QW:acc++DS ps j=DS ps t:=fY
   have DT:acc.length<101:=by
    have e1:(acc++DS ps j).length≤101:=by rw[QW];exact P2
    rw[est,bj,cf] at e1
    lia
   refine⟨fun c9 H' =>∃m',m' <j+1∧∃(acc:List Nat) (o:Option Nat),c9 =[some (.ref f),some (.int t),some (.ref l),some (oV o)]∧H' =upd H l (.lst (acc.map nV))∧acc++S8 ps o=DS ps t∧(∀j,o=some j→j<ps.length)∧m' =(match o with|none=>0|some j=>j+1),fun c9 H' h=>h,?_⟩;refine⟨_,rfl,.inl ⟨rfl,_,bw.of ae⟩,_,rfl,l,_,_,rfl,rfl,ae,?_,?_⟩
   ·rw[aN];exact eF DT (by decide)
   rw[BJ];have s3:=ax.upd (o:= .lst (acc.map nV++[oV (some j)])) hl;refine⟨_,rfl,f,A.ak,dx,_,_,rfl,s3 _ _ ho,T.aG,T.eQ,CC _ _ _,_,rfl,pa,_,_,_,rfl,rfl,bw.of (s3 _ _ hp),nQ hx,?_⟩
   have abd:∀i,ps[j]=some i→i<j:=fun i e=>by
    rw[e] at hx
    cases j with
    |zero=>rw[W.root] at hx;cases hx
    |succ g=>
     obtain⟨i',e',C6⟩:=W.par (g+1) (by lia) kU;rw[e'] at hx;cases hx;exact C6
   refine⟨(match ps[j] with|none=>0|some i=>i+1),?_,acc++[j],ps[j],rfl,?_,?_,fun i e=> ?_,rfl⟩
   ·cases e:ps[j] with
    |none=>show 0<j+1;lia
    |some i=>have:=abd i e;show i+1<j+1;lia
   ·rw[cg];rfl
   ·rw[fB,←QW,est];rfl
   ·have:=abd i e
    lia
end
noncomputable def mO(pa ta:Addr)(H H' :Hp):Prop:=∀c o,c≠pa→c≠ta→H c=some o→H' c=some o
theorem mO.refl(pa ta:Addr)(H:Hp):mO pa ta H H:=fun _ _ _ _ e=>e
theorem mO.trans{pa ta:Addr}{H H1 H2:Hp}(h:mO pa ta H H1)(h' :mO pa ta H1 H2):mO pa ta H H2:=fun c o h1 h2 e=>h' c o h1 h2 (h c o h1 h2 e)
noncomputable def bt(ps ts:av)(t:Nat):List Nat:=(aw ts).reverse.filter fun n=>decide (t∈ix ps n)
noncomputable def xz(t:Nat):List Nat→av→av
 |[],ts=>ts
 |n::r,ts=>xz t r (ts.set n (some t))
theorem oU(t:Nat):∀(E:List Nat) (ts:av),(xz t E ts).length=ts.length
 |[],ts=>rfl
 |n::r,ts=>by
  show(xz t r (ts.set n (some t))).length=ts.length;rw[oU t r,ij]
theorem u4(t n:Nat):∀(E:List Nat) (ts:av),xz t (E++[n]) ts=(xz t E ts).set n (some t)
 |[],ts=>rfl
 |m::r,ts=>u4 t n r (ts.set m (some t))
theorem zq{ts:av}{n:Nat}(h:n∈aw ts):n<ts.length:=dg.mp (cA.mp h).1
theorem HC{ts:av}{n:Nat}:n∈aw ts↔di ts (n:Int)=true:=by
 unfold aw di;rw[cA,dg,bu (show(0:Int)≤n by lia),xA,cT];constructor
 ·exact fun h=>h.2
 ·intro h;exact⟨(aS.mp (eq_of_beq h)).1,h⟩
theorem La{ps ts:av}{t n:Nat}(h:n∈bt ps ts t):n<ts.length:=zq (xp.mp (cA.mp h).1)
theorem E5(S:List Nat):S=(List.range S.length).map fun i=>S.getD i 0:=by
 apply pS;intro i;rw[aW];by_cases h:i<S.length
 ·rw[jw h];simp[bD,h]
 ·rw[gB (by lia),gB (by rw[fz];lia)];rfl
theorem lQ(S:List Nat)(p:Nat→Bool)(g:Nat→V):((List.range S.length).filter fun i=>p (S.getD i 0)).map (fun i=>g (S.getD i 0))=(S.filter p).map g:=by
 conv=>rhs;rw[E5 S]
 rw[List.filter_map,gE];rfl
theorem za(t:Nat)(R:List Nat):HY (nV t) (R.map nV)=decide (t∈R):=by
 unfold HY;rw[List.any_map,lZ,xN,kS];constructor
 ·rintro ⟨n,hn,e⟩
  have e:((n:Int)==(t:Int))=true:=e;have e:=eq_of_beq e;have:n=t:=by lia
  rw[←this];exact hn
 ·intro h;exact⟨t,h,by show((t:Int)==(t:Int))=true;simp⟩
theorem l5(R:List Nat):(R.map nV).all lE=true:=by
 rw[List.all_map,i7];intro n _;rfl
section
variable{P:Program}{w:World}{K:Frag}{mg:Str→aQ}{base:Heap}{A:qa}
noncomputable def T_(C:Addr):Sp:=fun vs H Q _=>∃(p dx:Addr),vs=[.ref p]∧H p=some (.ins C dx [])∧∀pa ta H',H pa=none→H ta=none→H' p=some (.ins C dx (jP pa ta))→H' pa=some (.lst [.bK])→H' ta=some (.lst [.bK])→pa≠ta→(∀b o,H b=some o→b≠p→H' b=some o)→Q .bK H'
theorem qL(T:Txt K mg A):bC P w K mg base eC 1 A.fh A.jN ["self"] (T_ A.ak):=by
 refine T.ke.F.fV qT ?_
 rintro c_ Ar outer s H vs Q E hr ⟨p,dx,rfl,hp,k⟩
 refine⟨_,(ah (ra (pv 0) (bY (aX dh)) rfl) (ao (ra (pv 0) (bY (aX dh)) rfl))),?_⟩;refine⟨(show 1≤sizeLine by decide),fun pa hpa=> ?_⟩;have np:p≠pa:=aq hp hpa;refine⟨_,rfl,p,A.ak,dx,[],rfl,(by rw[af np];exact hp),T.aG,T.eQ,(by show 0<1000;decide),(show 1≤sizeLine by decide),fun ta Zm=> ?_⟩;have nt:p≠ta:=aq ae Zm
 have TF:upd H pa (.lst [.bK]) ta=none:=by
  rw[af nt.symm] at Zm;exact Zm
 have npt:pa≠ta:=aq ae TF
 have abD:H ta=none:=by
  rw[af npt.symm] at TF;exact TF
 refine⟨_,rfl,p,A.ak,dx,_,rfl,(by rw[af nt,ae]),T.aG,T.dW,(by show 1<1000;decide),?_⟩;refine k pa ta _ hpa abD ae ?_ ?_ npt fun b o e hb=> ?_
 ·rw[af np.symm,af npt,af np.symm,ae]
 ·rw[af nt.symm,ae]
 ·rw[af hb,af (aq e abD),af hb,af (aq e hpa)];exact e
noncomputable def Ig(C:Addr):Sp:=fun vs H Q _=>∃f pa ta ps ts,∃t:Nat,vs=[.ref f,.int t]∧iX C H f pa ta ps ts∧ps.length=ts.length∧di ts (t:Int)=true∧ps.length≤100∧Q .bK H
noncomputable def NO(C:Addr):Sp:=fun vs H Q _=>∃f pa ta ps ts,∃t:Nat,vs=[.ref f,.int t]∧iX C H f pa ta ps ts∧ps.length=ts.length∧di ts (t:Int)=true∧ps.length≤100∧
 ∀H',iX C H' f pa ta (ps++[some t]) (ts++[none])→mO pa ta H H'→Q (.int ps.length) H'
theorem km(T:Txt K mg A):bC P w K mg base eC 6 A.gf A.gh ["self","thing"] (Ig A.ak):=by
 refine T.gs.F.fV kJ ?_
 rintro c_ Ar outer s H vs Q E hr ⟨f,pa,ta,ps,ts,t,rfl,F,hl,hb,hle,k⟩
 obtain⟨⟨dx,z,ho⟩,hp,ht,ne⟩:=id F;obtain⟨u1,qv⟩:=T.Ah;refine⟨_,(ah (bB (nu (pv 0) T.aG T.cH (cW T) hr aE (aX (pv 1)))) (ao (bW (xL jr (wI (pv 0) T.aG T.gL (iG T) hr aE) (mC rfl qv.2 qv.1)) (ao eP) bc))),?_⟩;refine⟨_,rfl,f,dx,_,rfl,ho,a8 (by decide+kernel),_,rfl,f,pa,ta,ps,ts,t,rfl,F,hl,hb,?_⟩;refine⟨_,rfl,f,dx,_,rfl,ho,a8 (by decide+kernel),f,pa,ta,ps,ts,rfl,F,?_⟩;refine⟨rfl,_,rfl,?_⟩;rw[eZ (show ¬V.int ((ps.length:Int) - 1)=V.int 100 by intro z;injection z with z;lia)];exact cQ k
theorem wN(T:Txt K mg A):bC P w K mg base eC 7 A.nM A.o_ ["self","frame"] (NO A.ak):=by
 refine T.nZ.F.fV wQ ?_
 rintro c_ Ar outer s H vs Q E hr ⟨f,pa,ta,ps,ts,t,rfl,F,hl,hb,hle,k⟩
 obtain⟨⟨dx,z,ho⟩,hp,ht,ne⟩:=id F;have fp:f≠pa:=aD ho hp (by intro z;cases z);have ft:f≠ta:=aD ho ht (by intro z;cases z);refine⟨_,(ah (bB (nu (pv 0) T.aG T.gs (km T) hr aE (aX (pv 1)))) (ah (bB (gu fc PySem.F.slot_list_append PySem.F.type_list_append cJ (Cp (pv 0)) (aX (pv 1)))) (ah (bB (gu fc PySem.F.slot_list_append PySem.F.type_list_append cJ (Cp (pv 0)) (aX dh))) (ao (aK (wI (pv 0) T.aG T.gL (iG T) hr aE)))))),?_⟩;refine⟨_,rfl,f,dx,_,rfl,ho,a8 (by decide+kernel),_,rfl,f,pa,ta,ps,ts,t,rfl,F,hl,hb,hle,?_⟩;refine⟨_,rfl,f,A.ak,dx,_,_,rfl,ho,T.aG,T.eQ,CC _ _ _,.inl ⟨rfl,_,bw.of hp⟩,_,rfl,pa,_,_,rfl,rfl,hp,?_,?_⟩
 ·rw[aN];exact dR hle (by decide)
 have VB:∀o,upd H pa o f=some (.ins A.ak dx (jA pa ta z)):=fun o=>by rw[af fp];exact ho
 have Jd:∀o,upd H pa o ta=some (.lst (ts.map oV)):=fun o=>by rw[af ne.symm];exact ht
 refine⟨_,rfl,f,A.ak,dx,_,_,rfl,VB _,T.aG,T.dW,zL _ _ _,.inl ⟨rfl,_,bw.of (Jd _)⟩,ta,_,_,rfl,rfl,Jd _,?_,?_⟩
 ·rw[aN];exact dR (show ts.length≤100 by lia) (by decide)
 have ho3:∀o o',upd (upd H pa o) ta o' f=some (.ins A.ak dx (jA pa ta z)):=fun o o' =>by rw[af ft];exact VB _
 have F3:iX A.ak (upd (upd H pa (.lst (ps.map oV++[V.int t]))) ta (.lst (ts.map oV++[V.bK]))) f pa ta (ps++[some t]) (ts++[none]):=by
  refine⟨⟨dx,z,ho3 _ _⟩,?_,?_,ne⟩
  ·rw[af ne,ae,cg];rfl
  ·rw[ae,cg];rfl
 refine⟨_,rfl,f,dx,_,rfl,ho3 _ _,a8 (by decide+kernel),f,pa,ta,_,_,rfl,F3,?_⟩;rw[show(((ps++[some t]).length:Nat):Int) - 1=(ps.length:Int) by rw[bj,BL];lia];refine k _ F3 fun c o h1 h2 e=> ?_;rw[af h2,af h1];exact e
end
theorem yq(ts:av)(n t:Nat):(ts.map oV).set n (.int t)=(ts.set n (some t)).map oV:=by
 rw[List.map_set];rfl
theorem pN{n i:Nat}(h:i<n):Jf n (i:Int)=some i:=by
 unfold Jf;rw[aC (show(0:Int)≤(i:Int) by lia),aC (show(i:Int)<(n:Int) by lia),cT]
section
variable{P:Program}{w:World}{K:Frag}{mg:Str→aQ}{base:Heap}{A:qa}
noncomputable def Ia(C:Addr):Sp:=fun vs H Q _=>∃f pa ta ps ts,∃t:Nat,vs=[.ref f,.int t]∧iX C H f pa ta ps ts∧ps.length=ts.length∧di ts (t:Int)=true∧t≠0∧Q .bK H
theorem fL(T:Txt K mg A):bC P w K mg base eC 6 A.gq A.gi ["self","thing"] (Ia A.ak):=by
 refine T.dY.F.fV kI ?_
 rintro c_ Ar outer s H vs Q E hr ⟨f,pa,ta,ps,ts,t,rfl,F,hl,hb,h0,k⟩
 obtain⟨⟨dx,z,ho⟩,hp,ht,ne⟩:=id F;obtain⟨u1,oJ⟩:=T.Dw;refine⟨_,(ah (bB (nu (pv 0) T.aG T.cH (cW T) hr aE (aX (pv 1)))) (ao (bW (xL jr (pv 1) (mC rfl oJ.2 oJ.1)) (ao eP) bc))),?_⟩;refine⟨_,rfl,f,dx,_,rfl,ho,a8 (by decide+kernel),_,rfl,f,pa,ta,ps,ts,t,rfl,F,hl,hb,?_⟩;refine⟨_,rfl,rfl,_,rfl,?_⟩;rw[eZ (show ¬V.int (t:Int)=V.int 0 by intro z;injection z with z;lia)];exact cQ k
noncomputable def Td(C:Addr):Sp:=fun vs H Q _=>∃f pa ta ps ts,∃t:Nat,vs=[.ref f,.int t]∧iX C H f pa ta ps ts∧WF ps ts∧
 ∀l H',H l=none→ax H H'→H' l=some (.lst ((bt ps ts t).map nV))→Q (.ref l) H'
theorem jq(T:Txt K mg A):bC P w K mg base eC 6 A.qf A.qm ["self","frame"] (Td A.ak):=by
 refine T.ig.F.fV zx ?_
 rintro c_ Ar outer s H vs Q E hr ⟨f,pa,ta,ps,ts,t,rfl,F,W,k⟩
 obtain⟨⟨dx,z,ho⟩,hp,ht,ne⟩:=id F;have hl:=W.len;refine⟨_,(ao (aK (Bk ["number","frame","self"] 1 [1,0] (Di rfl T.yn (aX (wI (pv 0) T.aG T.dD (eK T) hr aE))) (fun _ _ _ _ _=>⟨(iO 0 (show(["number","frame","self"]:aJ).Nodup by decide+kernel)),(Ca (xL (qC (K:=K) rfl) (pv 1) (nu (pv 2) T.aG T.sJ (Aw T) hr aE (aX (pv 0))))),(pv 0)⟩)))),?_⟩;refine⟨_,rfl,f,dx,_,rfl,ho,a8 (by decide+kernel),f,pa,ta,ps,ts,rfl,F,by have:=W.le;lia,fun sl H1 nz s1 Cz=> ?_⟩;have F1:=F.same s1;obtain⟨⟨JU,z1,Fj⟩,Mt,ht1,_⟩:=id F1;refine⟨sl,_,rfl,bw.of Cz,?_⟩;have hS:((aw ts).map nV).reverse=(aw ts).reverse.map nV:=by rw[xZ]
 have N_:((aw ts).map nV).reverse.length=(aw ts).reverse.length:=by rw[hS,aN]
 refine hU (fun i=>decide (t∈ix ps ((aw ts).reverse.getD i 0))) (fun i=>nV ((aw ts).reverse.getD i 0)) (G9 (bw.of Cz)).g ?_ ?_ fun l H2 u_ s2 hL=> ?_
 ·rw[N_,xC];refine aY (jh _ _) ?_;rw[fz];have:=W.le;exact aY (show ts.length≤101 by lia) (by decide)
 ·intro i x H' C1 C0 hi sm hx c1 c0;rw[hS,aW] at hx
  cases en:(aw ts).reverse[i]? with
  |none=>rw[en] at hx;cases hx
  |some n=>
   rw[en] at hx;cases hx;have ed:(aw ts).reverse.getD i 0=n:=by rw[bD,en];rfl
   have hn:n<ps.length:=by
    have:=zq (xp.mp (ba en))
    lia
   rw[ed] at c1 c0;have F' :=F1.same sm;obtain⟨⟨R8,z',C5⟩,_,_,_⟩:=id F';refine⟨(eM.refl _).own (by decide),_,rfl,_,rfl,f,R8,_,rfl,C5,a8 (by decide+kernel),_,rfl,f,pa,ta,ps,ts,n,rfl,F',W,hn,fun rl H3 yU s3 Wi=> ?_⟩;refine⟨rl,_,rfl,.inl (bw.of Wi),rfl,l5 _,_,rfl,?_⟩;have e:HY (V.int (t:Int)) ((ix ps n).map nV)=decide (t∈ix ps n):=za t _;show if HY (V.int (t:Int)) ((ix ps n).map nV)=true then _ else _
   rw[e]
   cases hd:decide (t∈ix ps n) with
   |true=>exact eN ⟨_,rfl,c1 hd H3 s3⟩
   |false=>exact cQ (c0 hd H3 s3)
 ·rw[N_] at hL
  have hL:H2 l=some (.lst ((bt ps ts t).map nV)):=by
   rw[hL];exact congrArg (fun z=>some (HO.lst z)) (lQ (aw ts).reverse (fun n=>decide (t∈ix ps n)) nV)
  exact k l H2 (s1.free u_) (s1.trans s2) hL
noncomputable def LS(C:Addr):Sp:=fun vs H Q _=>∃f pa ta ps ts,∃t:Nat,vs=[.ref f,.int t]∧iX C H f pa ta ps ts∧WF ps ts∧di ts (t:Int)=true∧t≠0∧
 ∀l H',H l=none→H' l=some (.lst ((bt ps ts t).map nV))→iX C H' f pa ta ps (xz t (bt ps ts t) ts)→mO pa ta H H'→Q (.ref l) H'
theorem vf(T:Txt K mg A):bC P w K mg base eC 7 A.mN A.mW ["self","frame"] (LS A.ak):=by
 refine T.m3.F.fV h_ ?_
 rintro c_ Ar outer s H vs Q E hr ⟨f,pa,ta,ps,ts,t,rfl,F,W,hb,h0,k⟩
 obtain⟨⟨dx,z,ho⟩,hp,ht,ne⟩:=id F;have hl:=W.len;have fp:f≠pa:=aD ho hp (by intro z;cases z);have ft:f≠ta:=aD ho ht (by intro z;cases z);refine⟨_,(ah (bB (nu (pv 0) T.aG T.dY (fL T) hr aE (aX (pv 1)))) (ah (fG 2 h_.nd (nu (pv 0) T.aG T.ig (jq T) hr aE (aX (pv 1)))) (ah (A2 (cK (pv 2)) (iO 3 h_.nd) (ao (oT (pv 1) (n0 (Cp (pv 0)) (pv 3) wT)))) (ao (aK (pv 2)))))),?_⟩;refine⟨_,rfl,f,dx,_,rfl,ho,a8 (by decide+kernel),_,rfl,f,pa,ta,ps,ts,t,rfl,F,hl,hb,h0,?_⟩;refine⟨_,rfl,f,dx,_,rfl,ho,a8 (by decide+kernel),_,rfl,f,pa,ta,ps,ts,t,rfl,F,W,fun l H2 FN wZ hL=> ?_⟩
 ·have F2:=F.same wZ;obtain⟨⟨dx2,z2,VB⟩,DE,Jd,_⟩:=id F2
  have dS:l≠ta:=fun z=>by
   rw[z,ht] at FN;cases FN
  refine⟨_,rfl,l,rfl,⟨_,bw.of hL⟩,?_⟩;refine dG (K:=K) (a:=l) (xs:=(bt ps ts t).map nV) (fun i σ H3=>∃(x:Option V),σ=[some (.ref f),some (.int t),some (.ref l),x]∧H3=upd H2 ta (.lst ((xz t ((bt ps ts t).take i) ts).map oV))) ⟨none,rfl,?_⟩ ?_ ?_ ?_
  ·show H2=upd H2 ta (.lst (ts.map oV))
   funext c
   by_cases hc:c=ta
   ·subst hc;rw[ae];exact Jd
   ·rw[af hc]
  ·rintro i σ H3 _ ⟨x,rfl,rfl⟩
   exact bw.of (by rw[af dS];exact hL)
  ·rintro i x σ H3 hi ⟨x',rfl,rfl⟩
   rw[aW] at hi
   cases en:(bt ps ts t)[i]? with
   |none=>rw[en] at hi;cases hi
   |some n=>
    rw[en] at hi;cases hi;have hn:=La (ba en);refine⟨_,rfl,_,rfl,f,A.ak,dx2,_,_,rfl,(by rw[af ft];exact VB),T.aG,T.dW,zL _ _ _,_,rfl,ta,_,_,n,rfl,rfl,ae,pN (by rw[aN,oU];exact hn),?_⟩;refine⟨_,rfl,?_⟩;rw[BJ]
    have e1:(bt ps ts t).take (i+1)=(bt ps ts t).take i++[n]:=by
     rw[ju,en];rfl
    rw[e1,u4,←yq]
  ·rintro σ H3 ⟨x,rfl,rfl⟩
   rw[aN,iK];refine⟨_,rfl,k l _ FN (by rw[af dS];exact hL) ⟨⟨dx2,z2,by rw[af ft];exact VB⟩,by rw[af ne];exact DE,ae,ne⟩ fun c o h1 h2 e=> ?_⟩;rw[af h2];exact wZ c o e
end
noncomputable def Kept(b:Addr)(H H' :Hp):Prop:=∀c o,c≠b→H c=some o→H' c=some o
section
variable{P:Program}{w:World}{K:Frag}{mg:Str→aQ}{base:Heap}{A:qa}
noncomputable def TY(K:Frag):Sp:=fun vs H Q _=>∃(a:Addr) (ns:List Int) (k:Int),vs=[.ref a,.int k]∧bw K H a (ns.map V.int)∧0≤k∧k<1000∧∀c,Q (.int c) H
theorem CS(T:Txt K mg A):bC P w K mg base eC 1 A.vK A.vW ["_law_script","_law_k"] (TY K):=by
 refine T.vV.F.fV B_ ?_
 rintro c_ Ar outer s H vs Q E hr ⟨a,ns,k,rfl,hS,h0,h1,q⟩
 refine⟨_,(ah (bW (xL zD (pv 1) (lN bA T.gx Boot.«len» (aX (pv 0)))) (ao (aK (de a7 (pv 0) (pv 1)))) bc) (ao (aK (bG fF (bG qK aj (pv 1)) aj)))),?_⟩;refine⟨_,rfl,_,rfl,a,_,rfl,.inl hS,k,_,rfl,rfl,_,rfl,?_⟩;refine ny (fun hk=> ?_) (fun hk=> ?_)
 ·have hk:=gQ hk;rw[aN] at hk;obtain⟨j,rfl⟩:∃j:Nat,k=j:=⟨k.toNat,by lia⟩;have hj:j<ns.length:=by lia
  exact⟨_,rfl,_,rfl,a,_,_,_,rfl,rfl,hS,b9 (v:= .int ns[j]) (by simp[hj]),q _⟩
 ·exact⟨_,rfl,104729,k,rfl,rfl,.inl ⟨by decide,by decide⟩,_,_,rfl,rfl,q _⟩
noncomputable def bO(H:Hp)(b:Addr)(k:Nat):Prop:=∃(x y z:Int),H b=some (.lst [.int x,.int y,.int z])∧0≤x∧0≤y∧y<2147483629∧0≤z∧z≤(k:Int)
noncomputable def zG(b:Addr)(H H' :Hp):Prop:=∀c,c≠b→H' c=H c
theorem zG.upd{b:Addr}{H:Hp}{o:HO}:zG b H (upd H b o):=fun c hc=>af hc
theorem zG.kept{b:Addr}{H H' :Hp}(h:zG b H H'):Kept b H H' :=fun c o hc e=>(h c hc).trans e
theorem Kept.refl(b:Addr)(H:Hp):Kept b H H:=fun _ _ _ e=>e
theorem Kept.trans{b:Addr}{H H1 H2:Hp}(h:Kept b H H1)(h' :Kept b H1 H2):Kept b H H2:=fun c o hc e=>h' c o hc (h c o hc e)
theorem _root_.L2.ax.kept{b:Addr}{H H' :Hp}(h:ax H H'):Kept b H H' :=fun c o _ e=>h c o e
theorem bO.same{b:Addr}{k:Nat}{H H' :Hp}(B:bO H b k)(h:ax H H'):bO H' b k:=by
 obtain⟨x,y,z,hb,r⟩:=B;exact⟨x,y,z,h _ _ hb,r⟩
theorem bO.mono{b:Addr}{k j:Nat}{H:Hp}(B:bO H b k)(h:k≤j):bO H b j:=by
 obtain⟨x,y,z,hb,h1,h2,h3,h4,h5⟩:=B;exact⟨x,y,z,hb,h1,h2,h3,h4,by lia⟩
theorem bO.ne{b p:Addr}{k:Nat}{H:Hp}(B:bO H b k)(h:H p=none):p≠b:=by
 obtain⟨x,y,z,hb,_⟩:=B;exact(aq hb h).symm
theorem mv{K:Frag}{H:Hp}{p:Addr}{xs:aA}{i:Int}{Q:VK}(Pv:V→Prop)(h:H p=some (.lst xs))(h0:0≤i)(h1:i<xs.length)(hP:∀x∈xs,Pv x)(q:∀v,Pv v→Q v H):S7 K (.ref p) (.int i) H Q:=by
 obtain⟨j,rfl⟩:∃j:Nat,i=j:=⟨i.toNat,by lia⟩;have hj:j<xs.length:=by lia
 exact⟨p,xs,j,xs[j],rfl,rfl,bw.of h,b9 (by simp[hj]),q _ (hP _ (iZ hj))⟩
noncomputable def adD:Sp:=fun vs H Q _=>∃c,vs=[.int c]∧∀b H',H b=none→bO H' b 0→ax H H'→Q (.ref b) H'
theorem Dn(T:Txt K mg A):bC P w K mg base eC 1 A.zl A.yL ["_law_cell_here"] adD:=by
 refine T.yF.F.fV D8 ?_
 rintro c_ Ar outer s H vs Q E hr ⟨c,rfl,q⟩
 refine⟨_,(ao (aK (bY (ai (lN (pB rfl) T.GV Boot.«max» (ai aj (aX (bG lT (pv 0) (bG zA aj aj))))) (ai (bG i9 (pv 0) aj) (aX aj)))))),?_⟩;refine⟨_,rfl,10,18,rfl,rfl,⟨by decide,by decide,by decide⟩,c,_,rfl,rfl,0,_,rfl,?_⟩;refine⟨_,rfl,c,2147483629,rfl,rfl,(show(0:Int)<2147483629 by decide),(show 3≤sizeLine by decide),fun p hp=> ?_⟩;refine q p _ hp ⟨_,_,0,ae,?_,?_,?_,by decide,by decide⟩ (ax.upd hp)
 ·split<;>lia
 ·lia
 ·lia
theorem TX{n:Int}(h0:0<n)(h:n<1606938044258990275541962092341162602522202993782792835301376):n.natAbs.log2<9000:=by
 have h1:n.natAbs≠0:=by lia
 have h2:n.natAbs<2 ^ 200:=by
  have e:(2:Nat) ^ 200=1606938044258990275541962092341162602522202993782792835301376:=by decide+kernel
  lia
 exact lS ((Nat.log2_lt h1).mpr h2) (by decide)
noncomputable def UA:Sp:=fun vs H Q _=>∃(b:Addr) (n:Int) (k:Nat),vs=[.ref b,.int n]∧bO H b k∧k≤100000∧0<n∧n<1606938044258990275541962092341162602522202993782792835301376∧
 ∀(r:Int) (H' :Hp),0≤r→r<n→bO H' b (k+1)→zG b H H'→Q (.int r) H'
theorem aO(T:Txt K mg A):bC P w K mg base eC 1 A.vR A.vT ["_law_box_here","_law_many"] UA:=by
 refine T.aT.F.fV iR ?_
 rintro c_ Ar outer s H vs Q E hr ⟨b,n,k,rfl,⟨x,y,z,hb,hx,hy,VW,hz,hz2⟩,hk,hn,V4,q⟩
 refine⟨_,(ah (bW (xL Ec (de a7 (pv 0) aj) aj) (ah (fG 2 iR.nd (bG i9 (de a7 (pv 0) aj) (pv 1))) (ah (oT (bG D_ (de a7 (pv 0) aj) (pv 1)) (n0 (pv 0) aj wT)) (ao (aK (pv 2))))) bc) (ah (oT (bG fF (de a7 (pv 0) aj) aj) (n0 (pv 0) aj wT)) (ah (fG 3 iR.nd (bG i9 (bG zA (bG fF (bG fF (de a7 (pv 0) aj) (bG qK aj (de a7 (pv 0) aj))) aj) aj) aj)) (ah (fG 3 iR.nd (bG i9 (bG zA (bG fF (pv 3) (bG qK aj (de a7 (pv 0) aj))) aj) aj)) (ao (aK (bG i9 (bG D_ (pv 3) aj) (pv 1)))))))),?_⟩;refine⟨_,rfl,b,_,_,_,rfl,rfl,bw.of hb,rfl,_,_,rfl,rfl,_,rfl,?_⟩;refine ny (fun h0=> ?_) (fun h0=> ?_)
 ·refine⟨_,rfl,b,_,_,_,rfl,rfl,bw.of hb,rfl,_,rfl,x,n,rfl,rfl,hn,?_⟩;refine⟨_,rfl,b,_,_,_,rfl,rfl,bw.of hb,rfl,_,rfl,x,n,rfl,rfl,⟨hn,TX hn V4⟩,?_⟩;refine⟨_,rfl,b,_,0,0,rfl,rfl,hb,rfl,?_⟩;refine⟨_,rfl,q _ _ (jS _ (by lia)) (l7 _ hn) ⟨_,y,z,ae,Int.ediv_nonneg hx (by lia),hy,VW,hz,by lia⟩ zG.upd⟩
 ·refine⟨_,rfl,b,_,_,_,rfl,rfl,bw.of hb,rfl,z,1,rfl,rfl,?_⟩;refine⟨_,rfl,b,_,2,2,rfl,rfl,hb,rfl,?_⟩;have MB :upd H b (.lst [.int x,.int y,.int (z+1)]) b=some (.lst [.int x,.int y,.int (z+1)]):=ae;refine⟨_,rfl,b,_,_,_,rfl,rfl,bw.of MB,rfl,_,rfl,b,_,_,_,rfl,rfl,bw.of MB,rfl,15485863,z+1,rfl,rfl,.inl ⟨by decide,by decide⟩,y,_,rfl,rfl,_,17,rfl,rfl,_,5,rfl,rfl,⟨by decide,by decide,?_⟩,_,2147483647,rfl,rfl,(show(0:Int)<2147483647 by decide),?_⟩
  ·lia
  dsimp only;generalize e1:(y+15485863*(z+1)+17) ^ (5:Int).toNat % 2147483647=one;have b1:0≤one:=by rw[←e1];exact jS _ (by decide)
  have b2:one<2147483647:=by rw[←e1];exact l7 _ (by decide)
  refine⟨_,rfl,_,rfl,b,_,_,_,rfl,rfl,bw.of MB,rfl,7919,z+1,rfl,rfl,.inl ⟨by decide,by decide⟩,one,_,rfl,rfl,_,3,rfl,rfl,⟨by decide,by decide,?_⟩,_,2147483629,rfl,rfl,(show(0:Int)<2147483629 by decide),?_⟩
  ·lia
  dsimp only;generalize e2:(one+7919*(z+1)) ^ (3:Int).toNat % 2147483629=other;have b3:0≤other:=by rw[←e2];exact jS _ (by decide)
  refine⟨_,rfl,other,8,rfl,rfl,⟨by decide,by decide⟩,_,rfl,_,n,rfl,rfl,hn,?_⟩;exact q _ _ (jS _ (by lia)) (l7 _ hn) ⟨x,y,z+1,ae,hx,hy,VW,by lia,by lia⟩ zG.upd
end
noncomputable def oD:Option Nat→PyData
 |none=> .none
 |some n=> .int n
theorem vw(H:Hp):∀xs:av,DatAll H (xs.map oV) (xs.map oD)
 |[]=> .nil
 |none::r=> .cons .bK (vw H r)
 |some n::r=> .cons (.int n) (vw H r)
theorem G_{n:Nat}(h:n≤1000):(n:Int).natAbs.log2<1920:=by
 have h1:(n:Int).natAbs=n:=Int.natAbs_natCast n;rw[h1];have:=Nat.log2_le_self n
 lia
noncomputable abbrev Rm:=List (Nat×Nat)
noncomputable def bU(R:Rm)(n:Nat):Nat:=((R.filter fun r=>r.1==n).map (·.2)).sum
noncomputable def Lf(ts:av)(R:Rm):Nat:=((aw ts).map (bU R)).sum
noncomputable def cu(ts:av)(R:Rm):Nat:=((R.filter fun r=>ts[r.1]? ==some none).map (·.2)).sum
theorem jan(S:List Nat)(f g:Nat→Nat):(S.map fun n=>f n+g n).sum=(S.map f).sum+(S.map g).sum:=by
 induction S with
 |nil=>rfl
 |cons a S ih=>
  simp only[cy,jQ,ih]
  lia
theorem FL(a b:Nat):∀S:List Nat,S.Nodup→(S.map fun n=>if a==n then b else 0).sum=if a∈S then b else 0
 |[],_=>by simp
 |c::S,h=>by
  obtain⟨h1,h2⟩:=fq.mp h;rw[cy,jQ,FL a b S h2];by_cases e:a=c
  ·subst e;rw[au h1];simp
  ·have:(a==c)=false:=by simpa using e
   rw[this];simp[e]
theorem JB(n:Nat):bU [] n=0:=rfl
theorem ve(r:Nat×Nat)(R:Rm)(n:Nat):bU (r::R) n=(if r.1==n then r.2 else 0)+bU R n:=by
 unfold bU;rw[fE];cases r.1==n<;>simp
theorem nG(ts:av):(aw ts).Nodup:=pK _ Cs
theorem cm{ts:av}{n:Nat}:n∈aw ts↔(ts[n]? ==some none)=true:=by
 rw[HC];unfold di;rw[bu (show(0:Int)≤n by lia),xA,cT]
theorem GA(ts:av):∀R:Rm,Lf ts R=cu ts R
 |[]=>by
  unfold Lf cu;simp only[JB,rD,uH,List.sum_nil]
  induction aw ts with
  |nil=>rfl
  |cons a S ih=>
   rw[cy,jQ,ih];rfl
 |r::R=>by
  have ih:=GA ts R
  have e:(aw ts).map (bU (r::R))=(aw ts).map fun n=>(if r.1==n then r.2 else 0)+bU R n:=by
   congr 1
   funext n
   exact ve r R n
  unfold Lf at ih ⊢;rw[e,jan,FL _ _ _ (nG ts),ih];unfold cu;rw[fE];by_cases q:(ts[r.1]? ==some none)=true
  ·rw[aC (cm.mpr q),q];simp
  ·rw[au (fun z=>q (cm.mp z))];simp only[Bool.not_eq_true] at q;rw[q];simp
theorem u0(R:Rm)(t k n:Nat):bU (R++[(t,k)]) n=bU R n+(if t==n then k else 0):=by
 unfold bU;rw[g9,cg,ya]
 congr 1
 cases e:t==n<;>simp[e]
theorem mq{ts:av}(R:Rm){t:Nat}(k:Nat)(h:ts[t]? =some none):cu ts (R++[(t,k)])=cu ts R+k:=by
 unfold cu;rw[g9,cg,ya]
 congr 1
 simp[h]
theorem Gw{R:Rm}(h:∀r∈R,r.2≤6)(n:Nat):bU R n≤6*R.length:=by
 induction R with
 |nil=>simp[bU]
 |cons r R ih=>
  have h1:=ih fun r hr=>h r (a_ _ hr);have h2:=h r bJ;rw[ve,cf]
  split<;>lia
theorem DW(ts:av){R:Rm}(h:∀r∈R,r.1<ts.length):cu (ts++[none]) R=cu ts R:=by
 unfold cu
 congr 2
 refine lP fun r hr=> ?_;rw[bV (h r hr)]
theorem qo{α:Type}(p q:α→Bool)(f:α→Nat):∀R:List α,(∀r∈R,p r=true→q r=true)→((R.filter p).map f).sum≤((R.filter q).map f).sum
 |[],_=>by simp
 |r::R,h=>by
  have ih:=qo p q f R fun x hx=>h x (a_ _ hx);have h1:=h r bJ;rw[fE,fE]
  cases hp:p r with
  |true=>rw[h1 hp];simpa using ih
  |false=>
   cases q r with
   |true=>simp only[eJ,cI,eL,cy,jQ];lia
   |false=>simpa using ih
theorem pF{t:Nat}:∀(E:List Nat) (ts:av) (i:Nat),(xz t E ts)[i]? =some none→ts[i]? =some none
 |[],ts,i,h=>h
 |n::r,ts,i,h=>by
  have h1:=pF r (ts.set n (some t)) i h;rw[BR] at h1
  split at h1
  ·split at h1<;>cases h1
  ·exact h1
theorem Co(t:Nat)(E:List Nat)(ts:av)(R:Rm):cu (xz t E ts) R≤cu ts R:=by
 refine qo _ _ _ R fun r _ h=> ?_;rw[pF E ts r.1 (eq_of_beq h)];rfl
theorem Ka(S:List Nat)(f:Nat→Nat):(S.map fun n=>((f n:Nat):Int)).sum=(((S.map f).sum:Nat):Int):=by
 induction S with
 |nil=>rfl
 |cons a S ih=>
  simp only[cy,jQ,ih]
  lia
theorem lL{H:Hp}{a c:Addr}{o:HO}(z:c=a):upd H a o c=some o:=by
 rw[z];exact ae
theorem wd{α:Type}(S:List α)(z:α):S=(List.range S.length).map fun i=>S.getD i z:=by
 apply pS;intro i;rw[aW];by_cases h:i<S.length
 ·rw[jw h];simp[bD,h]
 ·rw[gB (by lia),gB (by rw[fz];lia)];rfl
theorem qt{α β:Type}(S:List α)(z:α)(p:α→Bool)(g:α→β):((List.range S.length).filter fun i=>p (S.getD i z)).map (fun i=>g (S.getD i z))=(S.filter p).map g:=by
 conv=>rhs;rw[wd S z]
 rw[List.filter_map,gE];rfl
noncomputable def bg(R:Rm)(t:Nat):List Nat:=(List.range R.length).filter fun i=>(R.getD i (0,0)).1==t
theorem Og(R:Rm)(t:Nat):((bg R t).map fun i=>(R.getD i (0,0)).2).sum=bU R t:=by
 unfold bg bU;rw[qt R (0,0) (fun r=>r.1==t) (fun r=>r.2)]
theorem eO{R:Rm}{t i:Nat}(h:i∈bg R t):i<R.length:=dg.mp (cA.mp h).1
theorem i4(R:Rm)(t:Nat):(bg R t).length≤R.length:=by
 unfold bg;refine aY (jh _ _) ?_;rw[fz];exact az _
noncomputable def br(R:Rm)(i:Nat):Nat:=bU (R.take i) (R.getD i (0,0)).1
noncomputable def dC(R:Rm)(rs:aH)(n:Nat):bQ:=(bg R n).map fun i=>(Sum.inl (br R i:Int),V.ref (rs.getD i 0))
set_option genInjectivity false in
set_option genSizeOf false in
structure HA where
 f:Addr
 pa:Addr
 ta:Addr
 fa:Addr
 la:Addr
 own:aH
noncomputable def Ue(kv:bQ):Prop:=∀p∈kv,∃(n:Nat) (b:Addr),p=(.inl (n:Int),.ref b)∧bR kv (.inl (n:Int))=some (.ref b)
theorem JO{kv:bQ}(h:Ue kv){t:Nat}{b:Addr}(hv:bR kv (.inl (t:Int))=none):Ue (wv kv (.inl (t:Int)) (.ref b)):=by
 intro p hp;rw[ji _ hv] at hp;rcases cj.mp hp with hp|hp
 ·obtain⟨n,c,e1,e2⟩:=h p hp;refine⟨n,c,e1,?_⟩;rw[oA,au (fun q=> ?_)]
  ·exact e2
  ·rw[q,hv] at e2;cases e2
 ·have hp:p=(.inl (t:Int),.ref b):=by simpa using hp
  exact⟨t,b,hp,by rw[oA,aC rfl]⟩
structure aV(C:Addr)(H:Hp)(a:HA)(ps ts:av)(L pk:Nat)(R:Rm)(N:Nat)(rs:aH)(cs:cO):Prop where
 ob:∃dx,H a.f=some (.ins C dx (jA a.pa a.ta ⟨.int L,.ref a.fa,.ref a.la,.int pk⟩))
 pl:H a.pa=some (.lst (ps.map oV))
 tl:H a.ta=some (.lst (ts.map oV))
 ne:a.pa≠a.ta
 fl:∃kv,H a.fa=some (.dK kv)∧(kv.length≤N∧Ue kv)∧(∀n:Nat,(bR kv (.inl (n:Int))=none∧bg R n=[])∨∃b,bR kv (.inl (n:Int))=some (.ref b)∧b∈a.own∧b≠a.fa∧b≠a.la∧H b=some (.dK (dC R rs n)))∧∀(n n' :Nat) (b:Addr),bR kv (.inl (n:Int))=some (.ref b)→bR kv (.inl (n' :Int))=some (.ref b)→n=n'
 ln:∃kv,H a.la=some (.dK kv)∧kv.length≤N∧∀n:Nat,(bR kv (.inl (n:Int))).getD (.int 0)= .int (bU R n)
 Jh:a.fa≠a.la
 rl:rs.length=R.length
 rm:∀(i:Nat) (b:Addr),rs[i]? =some b→b∈a.own∧b≠a.pa∧b≠a.ta∧∃vs,cs[i]? =some vs∧H b=some (.lst vs)
 rn:rs.Nodup
 zu:a.f∈a.own∧a.pa∈a.own∧a.ta∈a.own∧a.fa∈a.own∧a.la∈a.own
 al:∀c∈a.own,∃o,H c=some o
section
variable{C:Addr}{H H' :Hp}{a:HA}{ps ts Ja ts' :av}{L pk:Nat}{R:Rm}{N:Nat}{rs:aH}{cs:cO}
theorem aV.fr(h:aV C H a ps ts L pk R N rs cs):iX C H a.f a.pa a.ta ps ts:=⟨h.ob.imp fun _ e=>⟨_,e⟩,h.pl,h.tl,h.ne⟩
theorem aV.kept(h:aV C H a ps ts L pk R N rs cs)(k:∀c o,c∈a.own→H c=some o→H' c=some o):aV C H' a ps ts L pk R N rs cs:=by
 obtain⟨⟨dx,ob⟩,pl,tl,ne,⟨kv,f1,f2,f3,f4⟩,⟨kw,l1,l2,l3⟩,Jh,rl,rm,rn,⟨o1,o2,o3,o4,o5⟩,al⟩:=h;refine⟨⟨dx,k _ _ o1 ob⟩,k _ _ o2 pl,k _ _ o3 tl,ne,⟨kv,k _ _ o4 f1,f2,fun n=> ?_,f4⟩,⟨kw,k _ _ o5 l1,l2,l3⟩,Jh,rl,fun i b e=> ?_,rn,⟨o1,o2,o3,o4,o5⟩,fun c hc=>(al c hc).imp fun o e=>k c o hc e⟩
 ·rcases f3 n with h|⟨b,e1,e2,e3,e4,e5⟩
  ·exact .inl h
  ·exact .inr ⟨b,e1,e2,e3,e4,k _ _ e2 e5⟩
 ·obtain⟨e1,e2,e3,vs,e4,e5⟩:=rm i b e;exact⟨e1,e2,e3,vs,e4,k _ _ e1 e5⟩
theorem aV.same(h:aV C H a ps ts L pk R N rs cs)(s:ax H H'):aV C H' a ps ts L pk R N rs cs:=h.kept fun c o _ e=>s c o e
theorem aV.frames(h:aV C H a ps ts L pk R N rs cs)(F:iX C H' a.f a.pa a.ta Ja ts')(k:mO a.pa a.ta H H'):aV C H' a Ja ts' L pk R N rs cs:=by
 obtain⟨⟨dx,ob⟩,pl,tl,ne,⟨kv,f1,f2,f3,f4⟩,⟨kw,l1,l2,l3⟩,Jh,rl,rm,rn,o,al⟩:=h;have dif:∀{c:Addr} {kv:bQ},H c=some (.dK kv)→H' c=some (.dK kv):=fun e=>k _ _ (aD e pl (by intro z;cases z)) (aD e tl (by intro z;cases z)) e;refine⟨⟨dx,k _ _ (aD ob pl (by intro z;cases z)) (aD ob tl (by intro z;cases z)) ob⟩,F.pl,F.tl,ne,⟨kv,dif f1,f2,fun n=> ?_,f4⟩,⟨kw,dif l1,l2,l3⟩,Jh,rl,fun i b e=> ?_,rn,o,fun c hc=> ?_⟩
 ·rcases f3 n with h|⟨b,e1,e2,e3,e4,e5⟩
  ·exact .inl h
  ·exact .inr ⟨b,e1,e2,e3,e4,dif e5⟩
 ·obtain⟨e1,e2,e3,vs,e4,e5⟩:=rm i b e;exact⟨e1,e2,e3,vs,e4,k _ _ e2 e3 e5⟩
 ·by_cases z1:c=a.pa
  ·exact⟨_,z1▸F.pl⟩
  ·by_cases z2:c=a.ta
   ·exact⟨_,z2▸F.tl⟩
   ·exact(al c hc).imp fun o e=>k c o z1 z2 e
end
structure Good(ps ts:av)(L pk:Nat)(R:Rm):Prop where
 W:WF ps ts
 g:ts[0]? =some none
 rw:∀r∈R,1≤r.2∧r.2≤6∧r.1<ps.length
 lo:1≤L
 hi:L≤1000
 use:cu ts R≤L
 pk:pk≤1000
theorem Good.ts{ps ts:av}{L pk:Nat}{R:Rm}(G:Good ps ts L pk R):ts.length≤101:=by
 have:=G.W.le;have:=G.W.len
 lia
theorem fJ(ts:av):(aw ts).length≤ts.length:=by
 unfold aw;refine aY (jh _ _) ?_;rw[fz];exact az _
section
variable{P:Program}{w:World}{K:Frag}{mg:Str→aQ}{base:Heap}{A:qa}
noncomputable def UB(C:Addr):Sp:=fun vs H Q _=>∃a ps ts L pk R N rs cs,vs=[.ref a.f]∧aV C H a ps ts L pk R N rs cs∧(∀r∈R,r.2≤6)∧R.length≤2000∧ts.length≤101∧∀H',ax H H'→Q (.int (cu ts R)) H'
theorem qg(T:Txt K mg A):bC P w K mg base eC 2 A.uk A.rA ["self"] (UB A.ak):=by
 refine T.mB.F.fV AK ?_
 rintro c_ Ar outer s H vs Q E hr ⟨a,ps,ts,L,pk,R,N,rs,cs,rfl,F,h6,hR,hT,k⟩
 obtain⟨dx,ho⟩:=F.ob;have hu:=dy hr;refine⟨_,(ao (aK (lN (D6 rfl) T.P8 Boot.«sum» (aX (Bk ["number","self"] 1 [0] (cK (wI (pv 0) T.aG T.dD (eK T) hr aE)) (fun _ _ _ _ _=>⟨(iO 0 (show(["number","self"]:aJ).Nodup by decide+kernel)),qM,(sL hu (pfk K (pv 1)) (pv 0) aj ⟨rfl,rfl,rfl,rfl⟩)⟩)))))),?_⟩;refine⟨_,rfl,a.f,dx,_,rfl,ho,a8 (by decide+kernel),a.f,a.pa,a.ta,ps,ts,rfl,F.fr,by lia,fun sl H1 nz s1 Cz=> ?_⟩;refine⟨sl,rfl,⟨_,bw.of Cz⟩,?_⟩;have F1:=F.same s1
 have hle:((aw ts).map nV).length≤101:=by
  rw[aN];exact aY (fJ ts) hT
 refine Bt (fun _=>true) (fun v=>match v with| .int i=> .int (bU R i.toNat)|_=> .bK) (hX (bw.of Cz)) (aY hle (by decide)) ?_ fun p hp=> ?_
 ·intro i x H' C1 C0 hx sm c1 c0;rw[aW] at hx
  cases en:(aw ts)[i]? with
  |none=>rw[en] at hx;cases hx
  |some n=>
   rw[en] at hx;cases hx;have F' :=F1.same sm;obtain⟨R8,C5⟩:=F'.ob;obtain⟨kv,l1,l2,l3⟩:=F'.ln;refine⟨(eM.refl _).own (by decide),eN (B:=C0 H') ⟨_,rfl,a.f,A.ak,R8,_,_,rfl,C5,T.aG,T.fR,Ep _ _ _,a.la,rfl,.inl ⟨_,.inl l1⟩,_,rfl,_,dq.k (k:= .inl (n:Int)) l1,?_⟩⟩;have e:=l3 n;have c:=c1 rfl;show C1 ((bR kv (.inl (n:Int))).getD (V.int 0)) H';rw[e];exact c
 ·have el:(((aw ts).map nV).filter fun _=>true).map (fun v=>match v with| .int i=>V.int (bU R i.toNat)|_=> .bK)=((aw ts).map fun n=>((bU R n:Nat):Int)).map V.int:=by
   rw[jH.mpr (fun _ _=>rfl),gE,gE];rfl
  rw[el];refine⟨p,_,rfl,ae,?_,?_,?_⟩
  ·rw[aN];exact aY (fJ ts) (by lia)
  ·intro n hn;obtain⟨m,_,rfl⟩:=bM.mp hn;have:=Gw h6 m
   lia
  ·rw[Ka];have:=k _ (s1.trans (ax.upd (o:= .lst (((aw ts).map fun n=>((bU R n:Nat):Int)).map V.int)) hp));rw[←GA] at this;exact this
noncomputable def TQ(C:Addr):Sp:=fun vs H Q _=>∃a ps ts L pk R N rs cs,vs=[.ref a.f]∧aV C H a ps ts L pk R N rs cs∧(∀r∈R,r.2≤6)∧R.length≤2000∧ts.length≤101∧∀H',ax H H'→Q (.int ((L:Int) - (cu ts R:Nat))) H'
theorem Af(T:Txt K mg A):bC P w K mg base eC 3 A.rJ A.tG ["self"] (TQ A.ak):=by
 refine T.um.F.fV Au ?_
 rintro c_ Ar outer s H vs Q E hr ⟨a,ps,ts,L,pk,R,N,rs,cs,rfl,F,h6,hR,hT,k⟩
 obtain⟨dx,ho⟩:=F.ob;refine⟨_,(ao (aK (bG lT (Cp (pv 0)) (wI (pv 0) T.aG T.mB (qg T) hr aE)))),?_⟩;exact⟨_,rfl,a.f,A.ak,dx,_,_,rfl,ho,T.aG,T.kK,JR _ _ _,_,rfl,a.f,dx,_,rfl,ho,a8 (by decide+kernel),a,ps,ts,L,pk,R,N,rs,cs,rfl,F,h6,hR,hT,fun H' s1=>⟨_,_,rfl,rfl,k H' s1⟩⟩
end
theorem zV(f:Str)(v w:V):∀fs:jX,dB f v (dB f w fs)=dB f v fs
 |[]=>by
  show(if f=f then(f,v)::[] else _)=_;rw[aC rfl];rfl
 |(g,x)::r=>by
  show dB f v (if g=f then(g,w)::r else(g,x)::dB f w r)=if g=f then(g,v)::r else(g,x)::dB f v r
  by_cases h:g=f
  ·rw[aC h,aC h];show(if g=f then(g,v)::r else _)=_;rw[aC h]
  ·rw[au h,au h];show(if g=f then _ else(g,x)::dB f v (dB f w r))=_;rw[au h,zV f v w r]
theorem Hd(pa ta:Addr)(z:HX)(v:V):dB "peak" v (jA pa ta z)=jA pa ta {z with pk:=v}:=zV _ _ _ _
theorem Bg(pa ta:Addr):(jP pa ta).length≤2:=aY (cS _ _ _) (rL (cS _ _ _))
theorem K0(pa ta:Addr)(z:HX):(jA pa ta z).length≤6:=aY (cS _ _ _) (rL (aY (cS _ _ _) (rL (aY (cS _ _ _) (rL (aY (cS _ _ _) (rL (Bg pa ta))))))))
section
variable{P:Program}{w:World}{K:Frag}{mg:Str→aQ}{base:Heap}{A:qa}
noncomputable def NC(C:Addr):Sp:=fun vs H Q _=>∃(p dx:Addr) (L:Nat),vs=[.ref p,.int L]∧H p=some (.ins C dx [])∧1≤L∧L≤1000∧
 ∀a H',a.f=p→(∀c∈a.own,c=p∨H c=none)→aV C H' a [none] [none] L 0 [] 0 [] []→(∀b o,H b=some o→b≠p→H' b=some o)→Q .bK H'
theorem rH(T:Txt K mg A):bC P w K mg base eC 3 A.hZ A.lx ["self","limit"] (NC A.ak):=by
 refine T.lj.F.fV sC ?_
 rintro c_ Ar outer s H vs Q E hr ⟨p,dx,L,rfl,hp,h1,h2,k⟩
 obtain⟨u1,so⟩:=T.BY;refine⟨_,(ah (bW (eB (dQ (dO (jI T) hr T.jk aE (ai (pv 1) (ai aj (aX (mC rfl so.2 so.1))))))) (ao eP) bc) (ah (bB (LH T.uG rfl T.Kt ((qL T).mono (by decide)) hr T.ke.b .nil aE (aX (pv 0)))) (ah (ra (pv 0) (pv 1) rfl) (ah (ra (pv 0) nN rfl) (ah (ra (pv 0) nN rfl) (ao (ra (pv 0) aj rfl))))))),?_⟩;refine⟨_,rfl,(L:Int),1,1000,rfl,_,rfl,?_⟩;rw[bu (show(1:Int)≤(L:Int) by lia),bu (show(L:Int)≤1000 by lia)];refine cQ ⟨_,rfl,p,dx,rfl,hp,fun pa ta H1 hpa Zm e1 e2 e3 npt kp=> ?_⟩;have np1:pa≠p:=aD e2 e1 (by intro z;cases z);have nt1:ta≠p:=aD e3 e1 (by intro z;cases z);have alp:=Bg pa ta;refine⟨_,rfl,_,rfl,p,A.ak,dx,_,rfl,e1,T.aG,T.kK,by lia,fun fa hfa=> ?_⟩;have nf:fa≠p:=(aq ae hfa).symm;have Nu:H1 fa=none:=by rw[af nf] at hfa;exact hfa
 have npf:pa≠fa:=aq e2 Nu;have ntf:ta≠fa:=aq e3 Nu;have anI:=cS "bound" (.int L) (jP pa ta);refine⟨_,rfl,p,A.ak,dx,_,rfl,(by rw[af nf.symm,ae]),T.aG,T.fj,by lia,fun la hla=> ?_⟩;have nl:la≠p:=(aq ae hla).symm;have T5:upd (upd H1 p (.ins A.ak dx (dB "bound" (.int L) (jP pa ta)))) fa (.dK []) la=none:=by rw[af nl] at hla;exact hla
 have Mg:la≠fa:=(aq ae T5).symm;have Nb:H1 la=none:=by rw[af Mg,af nl] at T5;exact T5
 have npl:pa≠la:=aq e2 Nb;have ntl:ta≠la:=aq e3 Nb;have anB:=cS "floors" (.ref fa) (dB "bound" (.int L) (jP pa ta));refine⟨_,rfl,p,A.ak,dx,_,rfl,(by rw[af nl.symm,ae]),T.aG,T.fR,by lia,?_⟩;have ap1:=cS "lengths" (.ref la) (dB "floors" (.ref fa) (dB "bound" (.int L) (jP pa ta)));refine⟨_,rfl,p,A.ak,dx,_,rfl,ae,T.aG,T.iY,by lia,?_⟩
 have old:∀c,H1 c=none→c=p∨H c=none:=fun c e=>by
  by_cases z:c=p
  ·exact .inl z
  ·refine .inr ?_
   cases q:H c with
   |none=>rfl
   |some o=>rw[kp c o q z] at e;cases e
 generalize Mr:upd (upd (upd (upd (upd (upd H1 p (.ins A.ak dx (dB "bound" (.int L) (jP pa ta)))) fa (.dK [])) p (.ins A.ak dx (dB "floors" (.ref fa) (dB "bound" (.int L) (jP pa ta))))) la (.dK [])) p (.ins A.ak dx (dB "lengths" (.ref la) (dB "floors" (.ref fa) (dB "bound" (.int L) (jP pa ta)))))) p (.ins A.ak dx (dB "peak" (.int 0) (dB "lengths" (.ref la) (dB "floors" (.ref fa) (dB "bound" (.int L) (jP pa ta))))))=H6
 have q1:H6 p=some (.ins A.ak dx (jA pa ta ⟨.int L,.ref fa,.ref la,.int (0:Nat)⟩)):=by
  rw[←Mr];exact ae
 have q2:H6 pa=some (.lst [.bK]):=by
  rw[←Mr,af np1,af np1,af npl,af np1,af npf,af np1];exact e2
 have q3:H6 ta=some (.lst [.bK]):=by
  rw[←Mr,af nt1,af nt1,af ntl,af nt1,af ntf,af nt1];exact e3
 have q4:H6 fa=some (.dK []):=by
  rw[←Mr,af nf,af nf,af Mg.symm,af nf,ae]
 have q5:H6 la=some (.dK []):=by
  rw[←Mr,af nl,af nl,ae]
 refine k ⟨p,pa,ta,fa,la,[p,pa,ta,fa,la]⟩ _ rfl ?_ ⟨⟨dx,q1⟩,q2,q3,npt,⟨[],q4,⟨az _,fun _ z=>nomatch z⟩,fun n=> .inl ⟨rfl,rfl⟩,(fun n n' b e=>by cases e)⟩,⟨[],q5,az _,fun n=>rfl⟩,Mg.symm,rfl,(fun i b e=>by cases e),.nil,(by simp),fun c hc=> ?_⟩ fun b o e hb=> ?_
 ·intro c hc;simp only[bq,cR,cV] at hc;rcases hc with rfl|rfl|rfl|rfl|rfl
  ·exact .inl rfl
  ·exact .inr hpa
  ·exact .inr Zm
  ·exact old _ Nu
  ·exact old _ Nb
 ·simp only[bq,cR,cV] at hc;rcases hc with rfl|rfl|rfl|rfl|rfl
  ·exact⟨_,q1⟩
  ·exact⟨_,q2⟩
  ·exact⟨_,q3⟩
  ·exact⟨_,q4⟩
  ·exact⟨_,q5⟩
 ·have b1:=kp b o e hb;rw[←Mr,af hb,af hb,af (aq b1 Nb),af hb,af (aq b1 Nu),af hb];exact b1
end
theorem FE(n:Nat):(List.replicate n [V.bK]).flatten=List.replicate n .bK:=by
 induction n with
 |zero=>rfl
 |succ n ih=>
  rw[pO,se,ih];rfl
theorem jaj{R:Rm}{x:Nat×Nat}{i:Nat}(h:i<R.length):(R++[x]).take i=R.take i:=by
 rw[List.take_append_of_le_length (by lia)]
theorem Bv{R:Rm}{i:Nat}{r:Nat×Nat}(h:R[i]? =some r)(h1:1≤r.2):bU (R.take i) r.1<bU R r.1:=by
 have hi:=(aS.mp h).1
 have e:R=R.take i++(r::R.drop (i+1)):=by
  have:=(aS.mp h).2;rw[←this,List.getElem_cons_drop,t9]
 have:bU R r.1=bU (R.take i) r.1+bU (r::R.drop (i+1)) r.1:=by
  conv=>lhs;rw[e]
  unfold bU;rw[g9,cg,ya]
 rw[this,ve];simp
 lia
theorem dv{α:Type}{R:List α}{x d:α}{i:Nat}(h:i<R.length):(R++[x]).getD i d=R.getD i d:=by
 rw[bD,bD,bV h]
theorem wp{α:Type}(R:List α)(x d:α):(R++[x]).getD R.length d=x:=by
 rw[bD,cF (az _),pP];rfl
theorem cU{α:Type}{R:List α}{i:Nat}(d:α)(h:i<R.length):R[i]? =some (R.getD i d):=by simp[bD,h]
theorem oX(R:Rm)(t k n:Nat):bg (R++[(t,k)]) n=if t=n then bg R n++[R.length] else bg R n:=by
 unfold bg;rw[bj,BL,pG,g9]
 have e1:((List.range R.length).filter fun i=>((R++[(t,k)]).getD i (0,0)).1==n)=(List.range R.length).filter fun i=>(R.getD i (0,0)).1==n:=
  lP fun i hi=>by rw[dv (dg.mp hi)]
 rw[e1];by_cases h:t=n
 ·rw[aC h,CT (by rw[wp];simpa using h)];rfl
 ·rw[au h,Cw (by rw[wp];simpa using h)];exact dA _
theorem gU{R:Rm}{t i:Nat}(h:i∈bg R t):(R.getD i (0,0)).1=t:=by simpa using(cA.mp h).2
theorem eU{R:Rm}{x:Nat×Nat}{i:Nat}(h:i<R.length):br (R++[x]) i=br R i:=by
 unfold br;rw[jaj h,dv h]
theorem iq(R:Rm)(t k:Nat):br (R++[(t,k)]) R.length=bU R t:=by
 unfold br;rw[List.take_left,wp]
theorem Kf{R:Rm}{rs:aH}(hl:rs.length=R.length){t k n:Nat}{b:Addr}(h:t≠n):dC (R++[(t,k)]) (rs++[b]) n=dC R rs n:=by
 unfold dC;rw[oX,au h];refine xo fun i hi=> ?_;have:=eO hi;rw[eU this,dv (by lia)]
theorem LY{R:Rm}{rs:aH}(hl:rs.length=R.length)(t k:Nat)(b:Addr):dC (R++[(t,k)]) (rs++[b]) t=dC R rs t++[(.inl (bU R t:Int),.ref b)]:=by
 unfold dC;rw[oX,aC rfl,cg,List.map_singleton,iq,←hl,wp]
 congr 1
 refine xo fun i hi=> ?_;have:=eO hi;rw[eU this,dv (by lia)]
theorem jaf{R:Rm}(hr:∀r∈R,1≤r.2){t i:Nat}(h:i∈bg R t):br R i<bU R t:=by
 have hi:=eO h;have e:=cU (0,0) hi;have:=Bv e (hr _ (ba e));rw[gU h] at this;unfold br;rw[gU h];exact this
theorem pW{R:Rm}(hr:∀r∈R,1≤r.2){t i j:Nat}(h:i∈bg R t)(h' :j∈bg R t)(e:br R i=br R j):i=j:=by
 have key:∀{i j:Nat},i∈bg R t→j∈bg R t→i<j→br R i<br R j:=fun{i j} h h' dS=>by
  have hi:=eO h;have hj:=eO h';have e1:=cU (0,0) hi
  have e2:(R.take j)[i]? =some (R.getD i (0,0)):=by
   rw[BI dS];exact e1
  have:=Bv e2 (hr _ (ba e1));rw[List.take_take,Nat.min_eq_left (ck dS),gU h] at this;unfold br;rw[gU h,gU h'];exact this
 rcases Nat.lt_trichotomy i j with z|z|z
 ·have:=key h h' z
  lia
 ·exact z
 ·have:=key h' h z
  lia
theorem G0{l:bQ}{k:ww}(h:∀p∈l,¬p.1=k):bR l k=none:=by
 induction l with
 |nil=>rfl
 |cons p l ih=>
  rw[cL (h p bJ)];exact ih fun q hq=>h q (a_ _ hq)
theorem AV(k:Nat→ww)(v:Nat→V){j:Nat}:∀{l:List Nat},j∈l→(∀i∈l,k i=k j→i=j)→bR (l.map fun i=>(k i,v i)) (k j)=some (v j)
 |i::l,h,inj=>by
  rw[cy];by_cases z:k i=k j
  ·rw[cZ z,inj i bJ z]
  ·rw[cL z];rcases bq.mp h with h|h
   ·exact absurd (by rw[h]) z
   ·exact AV k v h fun i hi=>inj i (a_ _ hi)
theorem IQ{R:Rm}(hr:∀r∈R,1≤r.2)(rs:aH)(t:Nat):bR (dC R rs t) (.inl (bU R t:Int))=none:=by
 refine G0 fun p hp z=> ?_;obtain⟨i,hi,rfl⟩:=bM.mp hp;injection z with z;have:=jaf hr hi
 lia
theorem Hk{R:Rm}(hr:∀r∈R,1≤r.2)(rs:aH){t i:Nat}(h:i∈bg R t):bR (dC R rs t) (.inl (br R i:Int))=some (.ref (rs.getD i 0)):=
 AV (fun i=>Sum.inl (br R i:Int)) (fun i=>V.ref (rs.getD i 0)) h fun j hj z=>by
  injection z with z;exact pW hr hj h (by lia)
theorem HJ(R:Rm)(rs:aH)(t:Nat):(dC R rs t).length≤R.length:=by
 unfold dC;rw[aN];exact i4 R t
theorem bz{n:Nat}(h:n≤100000):n<sizeLine:=dR h (by decide)
noncomputable def mh(t p:Nat):aA:=[nV t,nV p]
noncomputable def abi(C:Addr):TS:=fun D σ H=>∃(a:HA) (ps ts:av) (L pk:Nat) (R:Rm) (N:Nat) (rs:aH) (cs:cO) (t n:Nat) (x3:Option V) (b:Addr) (kv:bQ),σ=[some (.ref a.f),some (.int t),some (.int n),x3,some (.int (bU R t)),some (.ref b)]∧aV C H a ps ts L pk R N rs cs∧cs.length=R.length∧Good ps ts L pk R∧ts[t]? =some none∧1≤n∧n≤6∧R.length≤1000∧N≤10000∧cu ts R+n≤L∧
 H a.fa=some (.dK kv)∧bR kv (.inl (t:Int))=some (.ref b)∧
 ∀r H' l,H r=none→aV C H' {a with own:=r::a.own} ps ts L (max pk (cu ts R+n)) (R++[(t,n)]) (N+1) (rs++[r]) (cs++[List.replicate n .bK])→(∀c o,¬c∈a.own→H c=some o→H' c=some o)→(∀c xs,H c=some (.tup xs)→H' c=some (.tup xs))→H l=none→H' l=some (.tup (mh t (bU R t)))→D.rt (.ref l) H'
section
variable{P:Program}{w:World}{K:Frag}{mg:Str→aQ}{base:Heap}{A:qa}
noncomputable def T9(C:Addr):Sp:=fun vs H Q _=>∃(a:HA) (ps ts:av) (L pk:Nat) (R:Rm) (N:Nat) (rs:aH) (cs:cO) (t n:Nat),vs=[.ref a.f,.int t,.int n]∧aV C H a ps ts L pk R N rs cs∧cs.length=R.length∧Good ps ts L pk R∧ts[t]? =some none∧1≤n∧n≤6∧R.length≤1000∧N≤9000∧cu ts R+n≤L∧
 ∀VH r H' l,aV C H' {a with own:=VH} ps ts L (max pk (cu ts R+n)) (R++[(t,n)]) (N+2) (rs++[r]) (cs++[List.replicate n .bK])→(∀c∈a.own,c∈VH)→(∀c∈VH,c∈a.own∨H c=none)→(∀c o,¬c∈a.own→H c=some o→H' c=some o)→(∀c xs,H c=some (.tup xs)→H' c=some (.tup xs))→H l=none→H' l=some (.tup (mh t (bU R t)))→Q (.ref l) H'
theorem ql(T:Txt K mg A):bC P w K mg base eC 6 A.tQ A.tp ["self","frame","size"] (T9 A.ak):=by
 refine T.mK.F.fV il ?_
 rintro c_ Ar outer s H vs Q E hr ⟨a,ps,ts,L,pk,R,N,rs,cs,t,n,rfl,F,nC,G,mP,n1,n6,hR,hN,hle,k1⟩
 have hu:=dy hr;obtain⟨dx,ho⟩:=F.ob;obtain⟨u1,ir⟩:=T.oj
 have fC:di ts (t:Int)=true:=by
  unfold di;rw[bu (show(0:Int)≤t by lia),cT,mP];rfl
 refine⟨_,(ah (bB (nu (pv 0) T.aG T.cH (cW T) hr aE (aX (pv 1)))) (ah (bW (eB (dQ (dO (jI T) hr T.jk aE (ai (pv 2) (ai aj (aX (mC rfl ir.2 ir.1))))))) (ao eP) bc) (ah (fG 3 il.nd (wI (pv 0) T.aG T.um (Af T) hr aE)) (ah (bW (xL Ec (pv 2) (pv 3)) (ao eP) bc) (ah (fG 4 il.nd (sL hu (Cp (pv 0)) (pv 1) aj ⟨rfl,rfl,rfl,rfl⟩)) (ah (fG 5 il.nd (K1 (Cp (pv 0)) (pv 1) nN ⟨rfl,rfl,rfl,rfl⟩)) (jW (abi A.ak) (ah (lW hu (pv 5) (pv 4) (bG LF (bY (aX dh)) (pv 2)) rfl) (ah (lW hu (Cp (pv 0)) (pv 1) (bG fF (pv 4) (pv 2)) rfl) (ah (ra (pv 0) (lN (pB rfl) T.GV Boot.«max» (ai (Cp (pv 0)) (aX (wI (pv 0) T.aG T.mB (qg T) hr aE)))) rfl) (ao (aK (gF (ai (pv 1) (aX (pv 4))))))))) ?Te))))))),?_⟩
 case Te=>
  rintro D σ H ⟨a,ps,ts,L,pk,R,N,rs,cs,t,n,x3,b,kv,rfl,F,nC,G,mP,n1,n6,hR,hN,hle,Ag,MG,k⟩
  have kz:∀r∈R,1≤r.2:=fun r hr=>(G.rw r hr).1;obtain⟨dx,ho⟩:=F.ob;obtain⟨of,op,ot,ofa,ola⟩:=F.zu;obtain⟨kv0,f1,f2,f3,f4⟩:=F.fl
  have ekv:kv0=kv:=by
   rw[Ag] at f1;injection f1 with f1;injection f1 with f1;exact f1.symm
  subst ekv;obtain⟨kl,VP,l2',l3'⟩:=F.ln
  have hbx:b∈a.own∧b≠a.fa∧b≠a.la∧H b=some (.dK (dC R rs t)):=by
   rcases f3 t with h|⟨b',e1,e2,e3,e4,e5⟩
   ·rw[h.1] at MG;cases MG
   ·rw[e1] at MG;injection MG with MG;injection MG with MG;subst MG;exact⟨e2,e3,e4,e5⟩
  obtain⟨bo,bf,bl,hb⟩:=hbx;have xQ:=HJ R rs t;refine⟨(show 1≤sizeLine by decide),fun l1 Ab=>⟨_,rfl,l1,(n:Int),_,rfl,rfl,ae,by lia,by lia,?_,fun l2 u_=> ?_⟩⟩
  ·show 1*(n:Int).toNat≤sizeLine;exact ck (bz (by lia))
  rw[cT,FE];have s1:=(ax.upd (o:= .lst [V.bK]) Ab).trans (ax.upd (o:= .lst (List.replicate n .bK)) u_);have hr2:upd (upd H l1 (.lst [V.bK])) l2 (.lst (List.replicate n .bK)) l2=some (.lst (List.replicate n .bK)):=ae;have NZ:H l2=none:=(ax.upd (o:= .lst [V.bK]) Ab).free u_;generalize hH2:upd (upd H l1 (.lst [V.bK])) l2 (.lst (List.replicate n .bK))=H2 at s1 hr2;refine⟨_,rfl,_,rfl,b,_,rfl,u6.k (k:= .inl (bU R t:Int)) (s1 _ _ hb) (bz (by lia)),?_⟩;have fb:a.f≠b:=aD ho hb (by intro z;cases z);have lb:a.la≠b:=bl.symm;have gb:a.fa≠b:=bf.symm;refine⟨_,rfl,_,rfl,_,_,rfl,rfl,_,rfl,a.f,A.ak,dx,_,_,rfl,(by rw[af fb];exact s1 _ _ ho),T.aG,T.fR,Ep _ _ _,_,rfl,a.la,_,rfl,u6.k (k:= .inl (t:Int)) (by rw[af lb];exact s1 _ _ VP) (bz (by lia)),?_⟩;have fl:a.f≠a.la:=aD ho VP (by intro z;cases z);have pal:a.pa≠a.la:=aD F.pl VP (by intro z;cases z);have tal:a.ta≠a.la:=aD F.tl VP (by intro z;cases z);have pab:a.pa≠b:=aD F.pl hb (by intro z;cases z);have tab:a.ta≠b:=aD F.tl hb (by intro z;cases z);dsimp only;rw[ji (.ref l2) (IQ kz rs t),←LY F.rl t n l2];generalize hv:V.int ((bU R t:Int)+(n:Int))=nv;generalize hH4:upd (upd H2 b (.dK (dC (R++[(t,n)]) (rs++[l2]) t))) a.la (.dK (wv kl (.inl (t:Int)) nv))=H4
  have Mx:∀c o,c≠b→c≠a.la→H2 c=some o→H4 c=some o:=fun c o h1 h2 e=>by
   rw[←hH4,af h2,af h1];exact e
  have Xa:∀c xs,H2 c=some (.lst xs)→H4 c=some (.lst xs):=fun c xs e=>Mx _ _ (aD e (s1 _ _ hb) (by intro z;cases z)) (aD e (s1 _ _ VP) (by intro z;cases z)) e
  have F4:aV A.ak H4 {a with own:=l2::a.own} ps ts L pk (R++[(t,n)]) (N+1) (rs++[l2]) (cs++[List.replicate n .bK]):=by
   refine⟨⟨dx,Mx _ _ fb fl (s1 _ _ ho)⟩,Xa _ _ (s1 _ _ F.pl),Xa _ _ (s1 _ _ F.tl),F.ne,⟨kv0,Mx _ _ gb F.Jh (s1 _ _ Ag),⟨by lia,f2.2⟩,fun m=> ?_,f4⟩,⟨_,(by rw[←hH4];exact ae),?_,fun m=> ?_⟩,F.Jh,by rw[bj,bj,F.rl];rfl,fun i c e=> ?_,?_,⟨.tail _ of,.tail _ op,.tail _ ot,.tail _ ofa,.tail _ ola⟩,fun c hc=> ?_⟩
   ·by_cases z:t=m
    ·subst z;exact .inr ⟨b,MG,.tail _ bo,bf,bl,by rw[←hH4,af bl];exact ae⟩
    ·rw[oX,au z,Kf F.rl z];rcases f3 m with h|⟨c,e1,e2,e3,e4,e5⟩
     ·exact .inl h
     ·refine .inr ⟨c,e1,.tail _ e2,e3,e4,Mx _ _ (fun q=> ?_) e4 (s1 _ _ e5)⟩;subst q;exact z (f4 t m c MG e1)
   ·have:=d_ kl (.inl (t:Int)) nv
    lia
   ·rw[oA,u0];by_cases z:m=t
    ·subst z;rw[aC rfl];show nv=_;rw[←hv];simp
    ·rw[au (fun q=>z (by injection q with q;lia)),l3' m];have:(t==m)=false:=by simp;lia
     rw[this];rfl
   ·by_cases hi:i<rs.length
    ·rw[bV hi] at e;obtain⟨e1,e2,e3,vs,e4,e5⟩:=F.rm i c e;refine⟨.tail _ e1,e2,e3,vs,?_,Xa _ _ (s1 _ _ e5)⟩;rw[bV (by rw[nC,←F.rl];exact hi)];exact e4
    ·have MB :=(aS.mp e).1;rw[bj] at MB;have hi:i=rs.length:=by simp at MB;lia
     subst hi;rw[cF (az _),pP] at e;cases e;refine⟨.head _,(aq F.pl NZ).symm,(aq F.tl NZ).symm,List.replicate n .bK,?_,Xa _ _ hr2⟩;rw[cF (by rw[nC,F.rl];exact az _),nC,F.rl,pP];rfl
   ·refine me.mpr ⟨F.rn,fq.mpr ⟨by simp,.nil⟩,fun x hx y hy=> ?_⟩;simp only[cw] at hy;subst hy;obtain⟨i,hi,rfl⟩:=xk.mp hx;obtain⟨e1,e2,e3,vs,e4,e5⟩:=F.rm i _ (cN hi);exact aq e5 NZ
   ·rcases bq.mp hc with rfl|hc
    ·exact⟨_,Xa _ _ hr2⟩
    ·by_cases z1:c=a.la
     ·exact⟨_,by rw[←hH4];exact lL z1⟩
     ·by_cases z2:c=b
      ·exact⟨_,by rw[←hH4,af z1];exact lL z2⟩
      ·exact(F.al c hc).imp fun o e=>Mx c o z2 z1 (s1 _ _ e)
  have ho4:=Mx _ _ fb fl (s1 _ _ ho);refine⟨_,rfl,a.f,A.ak,dx,_,_,rfl,ho4,T.aG,T.iY,JN _ _ _,_,rfl,a.f,dx,_,rfl,ho4,a8 (by decide+kernel),{a with own:=l2::a.own},ps,ts,L,pk,R++[(t,n)],N+1,_,_,rfl,F4,?_,?_,G.ts,fun H5 s5=> ?_⟩
  ·intro r hr;rcases cj.mp hr with hr|hr
   ·exact(G.rw r hr).2.1
   ·simp only[cw] at hr;subst hr;exact n6
  ·rw[bj];simp
   lia
  have F5:=F4.same s5;obtain⟨WM,Mm⟩:=F5.ob;have Mm:H5 a.f=_:=Mm;refine⟨_,_,rfl,_,rfl,a.f,A.ak,WM,_,rfl,Mm,T.aG,T.iY,dR (K0 _ _ _) (by decide),?_⟩;rw[Hd,mq R n mP]
  have em:V.int (if((cu ts R+n:Nat):Int)>(pk:Int) then((cu ts R+n:Nat):Int) else(pk:Int))=V.int ((max pk (cu ts R+n):Nat):Int):=by
   congr 1
   split<;>lia
  dsimp only;rw[em];generalize Mr:upd H5 a.f (.ins A.ak WM (jA a.pa a.ta ⟨.int L,.ref a.fa,.ref a.la,.int (max pk (cu ts R+n):Nat)⟩))=H6
  have Ga:∀c o,c≠a.f→H5 c=some o→H6 c=some o:=fun c o h1 e=>by
   rw[←Mr,af h1];exact e
  have F6:aV A.ak H6 {a with own:=l2::a.own} ps ts L (max pk (cu ts R+n)) (R++[(t,n)]) (N+1) (rs++[l2]) (cs++[List.replicate n .bK]):=by
   obtain⟨kf5,f15,f25,f35,f45⟩:=F5.fl;obtain⟨kl5,l15,l25,l35⟩:=F5.ln;refine⟨⟨WM,by rw[←Mr];exact ae⟩,Ga _ _ (aD F5.pl Mm (by intro z;cases z)) F5.pl,Ga _ _ (aD F5.tl Mm (by intro z;cases z)) F5.tl,F.ne,⟨kf5,Ga _ _ (aD f15 Mm (by intro z;cases z)) f15,f25,fun m=> ?_,f45⟩,⟨kl5,Ga _ _ (aD l15 Mm (by intro z;cases z)) l15,l25,l35⟩,F.Jh,F5.rl,fun i c e=> ?_,F5.rn,F5.zu,fun c hc=>(if z:c=a.f then⟨_,by rw[←Mr];exact lL z⟩ else(F5.al c hc).imp fun o e=>Ga c o z e)⟩
   ·rcases f35 m with h|⟨c,e1,e2,e3,e4,e5⟩
    ·exact .inl h
    ·exact .inr ⟨c,e1,e2,e3,e4,Ga _ _ (aD e5 Mm (by intro z;cases z)) e5⟩
   ·obtain⟨e1,e2,e3,vs,e4,e5⟩:=F5.rm i c e;exact⟨e1,e2,e3,vs,e4,Ga _ _ (aD e5 Mm (by intro z;cases z)) e5⟩
  refine⟨_,rfl,_,rfl,(show 2≤sizeLine by decide),fun l hl=> ?_⟩;have s7:=ax.upd (o:= .tup [V.int t,V.int (bU R t)]) hl;have kp:∀c o,¬c∈a.own→H c=some o→H6 c=some o:=fun c o hc e=>Ga c o (fun z=>hc (z▸of)) (s5 _ _ (Mx c o (fun z=>hc (z▸bo)) (fun z=>hc (z▸ola)) (s1 _ _ e)));refine k l2 _ l NZ (F6.same s7) (fun c o hc e=>s7 _ _ (kp c o hc e)) (fun c xs e=>s7 _ _ (Ga _ _ (aD e ho (by intro z;cases z)) (s5 _ _ (Mx c _ (aD e hb (by intro z;cases z)) (aD e VP (by intro z;cases z)) (s1 _ _ e))))) ?_ ae
  cases q:H l with
  |none=>rfl
  |some o=>
   by_cases hc:l∈a.own
   ·obtain⟨o',e⟩:=F6.al l (.tail _ hc);rw[hl] at e;cases e
   ·have:=kp l o hc q;rw[hl] at this;cases this
 refine⟨_,rfl,a.f,dx,_,rfl,ho,a8 (by decide+kernel),_,rfl,a.f,a.pa,a.ta,ps,ts,t,rfl,F.fr,G.W.len,fC,?_⟩;refine⟨_,rfl,(n:Int),1,6,rfl,_,rfl,?_⟩;rw[bu (show(1:Int)≤(n:Int) by lia),bu (show(n:Int)≤6 by lia)];refine cQ ?_;refine⟨_,rfl,a.f,dx,_,rfl,ho,a8 (by decide+kernel),a,ps,ts,L,pk,R,N,rs,cs,rfl,F,fun r hr=>(G.rw r hr).2.1,by lia,G.ts,fun H1 s1=> ?_⟩;have F1:=F.same s1;obtain⟨JU,Fj⟩:=F1.ob;refine⟨_,rfl,_,rfl,_,_,rfl,rfl,_,rfl,?_⟩;rw[eZ (show ¬((L:Int) - ((cu ts R:Nat):Int)<(n:Int)) by lia)];refine cQ ?_;obtain⟨kf,f1,f2,f3,f4⟩:=F1.fl;obtain⟨kl,l1,l2,l3⟩:=F1.ln;obtain⟨of,op,ot,ofa,ola⟩:=F1.zu;refine⟨_,rfl,a.f,A.ak,JU,_,_,rfl,Fj,T.aG,T.fR,Ep _ _ _,a.la,rfl,.inl ⟨_,.inl l1⟩,_,rfl,_,dq.k (k:= .inl (t:Int)) l1,?_⟩;show _;rw[l3 t];refine⟨_,rfl,a.f,A.ak,JU,_,_,rfl,Fj,T.aG,T.fj,Ce _ _ _,a.fa,rfl,.inl ⟨_,.inl f1⟩,_,rfl,fun b hb=> ?_⟩;have s2:=ax.upd (o:= .dK []) hb;have F2:=F1.same s2;have bfa:b≠a.fa:=(aq f1 hb).symm;have bla:b≠a.la:=(aq l1 hb).symm;refine⟨kf,.inl (t:Int),s2 _ _ f1,rfl,bz (by lia),fun v hv=> ?_,fun hv=> ?_⟩
 ·have VO :=hv;rcases f3 t with h|⟨c,e1,e2,e3,e4,e5⟩
  ·rw[h.1] at VO;cases VO
  rw[e1] at VO;cases VO;refine⟨a,ps,ts,L,pk,R,N+1,rs,cs,t,n,_,c,kf,rfl,?_,nC,G,mP,n1,n6,hR,by lia,hle,s2 _ _ f1,e1,fun r H' l hr F' kp kt hl e=> ?_⟩
  ·obtain⟨kf2,f12,f22,f32,f42⟩:=F2.fl;obtain⟨kl2,l12,l22,l32⟩:=F2.ln;exact⟨F2.ob,F2.pl,F2.tl,F2.ne,⟨kf2,f12,⟨by lia,f22.2⟩,f32,f42⟩,⟨kl2,l12,by lia,l32⟩,F2.Jh,F2.rl,F2.rm,F2.rn,F2.zu,F2.al⟩
  ·refine k1 (r::a.own) r H' l F' (fun c hc=> .tail _ hc) (fun c hc=> ?_) (fun c o hc e=>kp c o hc (s2 _ _ (s1 _ _ e))) (fun c xs e=>kt c xs (s2 _ _ (s1 _ _ e))) (s1.free (s2.free hl)) e;rcases bq.mp hc with rfl|hc
   ·exact .inr (s1.free (s2.free hr))
   ·exact .inl hc
 ·have h0:bg R t=[]:=by
   rcases f3 t with h|⟨c,e1,_⟩
   ·exact h.2
   ·rw[e1] at hv;cases hv
  have fb:a.f≠b:=aq Fj hb;have ffa:a.f≠a.fa:=aD Fj f1 (by intro z;cases z);have pfa:a.pa≠a.fa:=aD F1.pl f1 (by intro z;cases z);have tfa:a.ta≠a.fa:=aD F1.tl f1 (by intro z;cases z);generalize VY:upd (upd H1 b (.dK [])) a.fa (.dK (wv kf (.inl (t:Int)) (.ref b)))=H3
  have MH:∀c o,c≠a.fa→H1 c=some o→H3 c=some o:=fun c o h1 e=>by
   rw[←VY,af h1];exact s2 _ _ e
  have N8:H3 b=some (.dK []):=by
   rw[←VY,af bfa];exact ae
  have Ov:H3 a.fa=some (.dK (wv kf (.inl (t:Int)) (.ref b))):=by
   rw[←VY];exact ae
  have vb:bR (wv kf (.inl (t:Int)) (.ref b)) (.inl (t:Int))=some (.ref b):=by
   rw[oA,aC rfl]
  have vn:∀m:Nat,m≠t→bR (wv kf (.inl (t:Int)) (.ref b)) (.inl (m:Int))=bR kf (.inl (m:Int)):=fun m hm=>by
   rw[oA,au (fun q=>hm (by injection q with q;lia))]
  have nob:∀m:Nat,bR kf (.inl (m:Int))≠some (.ref b):=fun m z=>by
   rcases f3 m with h|⟨c,e1,e2,e3,e4,e5⟩
   ·rw[h.1] at z;cases z
   ·rw[e1] at z;cases z;rw[e5] at hb;cases hb
  have F3:aV A.ak H3 {a with own:=b::a.own} ps ts L pk R (N+1) rs cs:=by
   refine⟨⟨JU,MH _ _ ffa Fj⟩,MH _ _ pfa F1.pl,MH _ _ tfa F1.tl,F.ne,⟨_,Ov,?_,fun m=> ?_,fun m m' c e e' => ?_⟩,⟨kl,MH _ _ F.Jh.symm l1,by lia,l3⟩,F.Jh,F.rl,fun i c e=> ?_,F.rn,⟨.tail _ of,.tail _ op,.tail _ ot,.tail _ ofa,.tail _ ola⟩,fun c hc=> ?_⟩
   ·have:=d_ kf (.inl (t:Int)) (.ref b);exact⟨by lia,JO f2.2 hv⟩
   ·by_cases z:m=t
    ·subst z;refine .inr ⟨b,vb,.head _,bfa,bla,?_⟩;unfold dC;rw[h0];exact N8
    ·rw[vn m z];rcases f3 m with h|⟨c,e1,e2,e3,e4,e5⟩
     ·exact .inl h
     ·exact .inr ⟨c,e1,.tail _ e2,e3,e4,MH _ _ e3 e5⟩
   ·by_cases z:m=t<;>by_cases z' :m' =t
    ·lia
    ·subst z;rw[vb] at e;cases e;rw[vn m' z'] at e';exact absurd e' (nob m')
    ·subst z';rw[vb] at e';cases e';rw[vn m z] at e;exact absurd e (nob m)
    ·rw[vn m z] at e;rw[vn m' z'] at e';exact f4 m m' c e e'
   ·obtain⟨e1,e2,e3,vs,e4,e5⟩:=F1.rm i c e;exact⟨.tail _ e1,e2,e3,vs,e4,MH _ _ (aD e5 f1 (by intro z;cases z)) e5⟩
   ·rcases bq.mp hc with rfl|hc
    ·exact⟨_,N8⟩
    ·by_cases z:c=a.fa
     ·exact⟨_,by rw[←VY];exact lL z⟩
     ·exact(F1.al c hc).imp fun o e=>MH c o z e
  have QY:∀c,H3 c=none→H1 c=none:=fun c e=>by
   cases q:H1 c with
   |none=>rfl
   |some o=>
    by_cases z:c=a.fa
    ·rw[z,Ov] at e;cases e
    ·rw[MH c o z q] at e;cases e
  refine⟨{a with own:=b::a.own},ps,ts,L,pk,R,N+1,rs,cs,t,n,_,b,_,rfl,F3,nC,G,mP,n1,n6,hR,by lia,hle,Ov,vb,fun r H' l hr F' kp kt hl e=> ?_⟩;refine k1 (r::b::a.own) r H' l F' (fun c hc=> .tail _ (.tail _ hc)) (fun c hc=> ?_) (fun c o hc e=>kp c o (fun z=> ?_) (MH c o (fun z=>hc (z▸ofa)) (s1 _ _ e))) (fun c xs e=>kt c xs (MH c _ (aD (s1 _ _ e) f1 (by intro z;cases z)) (s1 _ _ e))) (s1.free (QY l hl)) e
  ·rcases bq.mp hc with rfl|hc
   ·exact .inr (s1.free (QY _ hr))
   ·rcases bq.mp hc with rfl|hc
    ·exact .inr (s1.free hb)
    ·exact .inl hc
  ·rcases bq.mp z with rfl|z
   ·have:=s1 _ _ e;rw[hb] at this;cases this
   ·exact hc z
end
section
variable{C:Addr}{H:Hp}{a:HA}{ps ts:av}{L pk:Nat}{R:Rm}{N:Nat}{rs:aH}{cs:cO}
theorem IY{l:aH}(h:l.Nodup){i j:Nat}{b:Addr}(e:l[i]? =some b)(e' :l[j]? =some b):i=j:=by
 have h1:=(aS.mp e).1;exact(xq h1 h).mp (e.trans e'.symm)
theorem tF{cs:cO}{i j:Nat}{vs vs' :aA}(e:cs[i]? =some vs):(cs.set i vs')[j]? =if i=j then some vs' else cs[j]? :=by
 have h1:=(aS.mp e).1;rw[BR];by_cases z:i=j
 ·rw[aC z,aC z,aC h1]
 ·rw[au z,au z]
theorem aV.put(h:aV C H a ps ts L pk R N rs cs){i:Nat}{b:Addr}{vs vs' :aA}(hb:rs[i]? =some b)(hc:cs[i]? =some vs):aV C (upd H b (.lst vs')) a ps ts L pk R N rs (cs.set i vs'):=by
 obtain⟨o1,o2,o3,vs0,o4,o5⟩:=h.rm i b hb
 have kp:∀{c:Addr} {o:HO},(∀xs,o≠.lst xs)→H c=some o→upd H b (.lst vs') c=some o:=fun ho e=>by
  rw[af (fun z=>by rw[z,o5] at e;injection e with e;exact ho _ e.symm)];exact e
 obtain⟨⟨dx,ob⟩,pl,tl,ne,⟨kv,f1,f2,f3,f4⟩,⟨kw,l1,l2,l3⟩,Jh,rl,rm,rn,ow,al⟩:=h;refine⟨⟨dx,kp (by intro _ z;cases z) ob⟩,by rw[af o2.symm];exact pl,by rw[af o3.symm];exact tl,ne,⟨kv,kp (by intro _ z;cases z) f1,f2,fun n=> ?_,f4⟩,⟨kw,kp (by intro _ z;cases z) l1,l2,l3⟩,Jh,rl,fun j c e=> ?_,rn,ow,fun c hc=> ?_⟩
 ·rcases f3 n with h|⟨c,e1,e2,e3,e4,e5⟩
  ·exact .inl h
  ·exact .inr ⟨c,e1,e2,e3,e4,kp (by intro _ z;cases z) e5⟩
 ·rw[tF hc];by_cases z:i=j
  ·subst z;rw[hb] at e;cases e;exact⟨o1,o2,o3,vs',aC rfl,ae⟩
  ·obtain⟨e1,e2,e3,us,e4,e5⟩:=rm j c e;refine⟨e1,e2,e3,us,by rw[au z];exact e4,?_⟩;rw[af (fun q=>z (IY rn hb (by rw[←q];exact e)))];exact e5
 ·by_cases z:c=b
  ·exact⟨_,lL z⟩
  ·rw[af z];exact al c hc
theorem gD{R:Rm}{i:Nat}(hi:i<R.length):i∈bg R (R.getD i (0,0)).1:=cA.mpr ⟨dg.mpr hi,xO _⟩
theorem aV.floor(h:aV C H a ps ts L pk R N rs cs)(hr:∀r∈R,1≤r.2){i:Nat}(hi:i<R.length):∃kv b,H a.fa=some (.dK kv)∧bR kv (.inl ((R.getD i (0,0)).1:Int))=some (.ref b)∧H b=some (.dK (dC R rs (R.getD i (0,0)).1))∧bR (dC R rs (R.getD i (0,0)).1) (.inl (br R i:Int))=some (.ref (rs.getD i 0)):=by
 obtain⟨kv,f1,f2,f3,f4⟩:=h.fl;rcases f3 (R.getD i (0,0)).1 with z|⟨b,e1,e2,e3,e4,e5⟩
 ·have:=gD hi;rw[z.2] at this;cases this
 ·exact⟨kv,b,f1,e1,e5,Hk hr rs (gD hi)⟩
theorem aV.room(h:aV C H a ps ts L pk R N rs cs){i:Nat}(hi:i<R.length):rs[i]? =some (rs.getD i 0)∧rs.getD i 0∈a.own∧∃vs,cs[i]? =some vs∧H (rs.getD i 0)=some (.lst vs):=by
 have e:=cU 0 (show i<rs.length by rw[h.rl];exact hi);obtain⟨e1,e2,e3,vs,e4,e5⟩:=h.rm i _ e;exact⟨e,e1,vs,e4,e5⟩
end
section
variable{P:Program}{w:World}{K:Frag}{mg:Str→aQ}{base:Heap}{A:qa}
noncomputable def JX:Sp:=fun vs H Q _=>∃t xs,vs=[.ref t]∧H t=some (.tup xs)∧Q (.bl false) H
theorem qr(T:Txt K mg A):bC P w K mg base eC 1 A.jY A.kg ["thing"] JX:=by
 refine T.iz.F.fV rX ?_
 rintro c_ Ar outer s H vs Q E hr ⟨t,xs,rfl,e,k⟩
 refine⟨_,(ao (aK (iF (lN dE T.df Boot.«isinstance» (ai (pv 0) (aX (iQ (v:= .ty "int") rfl T.Mb Boot.«int» rfl)))) (iC (JA (lN dE T.df Boot.«isinstance» (ai (pv 0) (aX (iQ (v:= .ty "bool") rfl T.JV Boot.«bool» rfl))))))))),?_⟩;exact⟨_,rfl,_,_,_,_,rfl,.tup e,rfl,_,rfl,cQ k⟩
noncomputable def Ma:Sp:=fun vs H Q _=>∃n:Nat,vs=[nV n]∧Q (.bl true) H
theorem vQ(T:Txt K mg A):bC P w K mg base eC 2 A.yB A.yR ["thing"] Ma:=by
 refine T.qD.F.fV Dp ?_
 rintro c_ Ar outer s H vs Q E hr ⟨n,rfl,k⟩
 refine⟨_,(ao (aK (iF (dO (iU T) hr T.iz aE (aX (pv 0))) (iC (Io ZR (pv 0) aj))))),?_⟩;refine⟨_,rfl,(n:Int),rfl,_,rfl,eN ⟨_,rfl,(n:Int),0,rfl,rfl,?_⟩⟩;have e:decide ((0:Int)≤(n:Int))=true:=bu (by lia);show Q (V.bl (decide ((0:Int)≤(n:Int)))) H;rw[e];exact k
noncomputable def Nf:Sp:=fun vs H Q _=>∃t f p,vs=[.ref t]∧H t=some (.tup (mh f p))∧Q (.bl true) H
theorem Fs(T:Txt K mg A):bC P w K mg base eC 3 A.AY A.BA ["thing"] Nf:=by
 refine T.BF.F.fV Er ?_
 rintro c_ Ar outer s H vs Q E hr ⟨t,f,p,rfl,e,k⟩
 refine⟨_,(ah (bW (eB (dQ (lN dE T.df Boot.«isinstance» (ai (pv 0) (aX (iQ (v:= .ty "tuple") rfl T.j9 Boot.«tuple» rfl)))))) (ao (aK gR)) bc) (ao (aK (iF (Io jr (lN bA T.gx Boot.«len» (aX (pv 0))) aj) (iF (dO (vQ T) hr T.qD aE (aX (de bH (pv 0) aj))) (iC (dO (vQ T) hr T.qD aE (aX (de bH (pv 0) aj))))))))),?_⟩;refine⟨_,rfl,_,_,_,_,rfl,.tup e,rfl,_,rfl,?_⟩;refine⟨_,rfl,t,_,rfl,.inr (gg.of e),rfl,_,rfl,?_⟩;refine eN ⟨_,rfl,t,_,_,nV f,rfl,rfl,gg.of e,rfl,f,rfl,_,rfl,?_⟩;exact eN ⟨_,rfl,t,_,_,nV p,rfl,rfl,gg.of e,rfl,p,rfl,k⟩
noncomputable def N6(C:Addr):Sp:=fun vs H Q _=>∃a ps ts L pk R N rs cs i t,vs=[.ref a.f,.ref t]∧aV C H a ps ts L pk R N rs cs∧(∀r∈R,1≤r.2)∧i<R.length∧H t=some (.tup (mh (R.getD i (0,0)).1 (br R i)))∧∀H',ax H H'→Q (.bl true) H'
theorem nh(T:Txt K mg A):bC P w K mg base eC 4 A.oO A.nR ["self","thing"] (N6 A.ak):=by
 refine T.jD.F.fV wR ?_
 rintro c_ Ar outer s H vs Q E hr ⟨a,ps,ts,L,pk,R,N,rs,cs,i,t,rfl,F,kz,hi,e,k⟩
 have hu:=dy hr;obtain⟨dx,ho⟩:=F.ob;obtain⟨kv,b,f1,f2,f3,f4⟩:=F.floor kz hi;refine⟨_,(ao (aK (iF (dO (Fs T) hr T.BF aE (aX (pv 1))) (iC (Vk (U6 hu (de bH (pv 1) aj) (sL hu (Cp (pv 0)) (de bH (pv 1) aj) nN ⟨rfl,rfl,rfl,rfl⟩))))))),?_⟩;refine⟨_,rfl,t,_,_,rfl,e,_,rfl,eN ⟨_,rfl,t,_,1,_,rfl,rfl,gg.of e,rfl,_,rfl,a.f,A.ak,dx,_,_,rfl,ho,T.aG,T.fj,Ce _ _ _,a.fa,rfl,.inl ⟨_,.inl f1⟩,_,rfl,t,_,0,_,rfl,rfl,gg.of e,rfl,fun e0 LM=> ?_⟩⟩;have s1:=ax.upd (o:= .dK []) LM;refine⟨_,dq.k (k:= .inl ((R.getD i (0,0)).1:Int)) (s1 _ _ f1),?_⟩;rw[f2];refine⟨b,_,rfl,dq.k (k:= .inl (br R i:Int)) (s1 _ _ f3),?_⟩;rw[f4];exact k _ s1
noncomputable def N9(C:Addr):Sp:=fun vs H Q _=>∃a ps ts L pk R N rs cs v,vs=[.ref a.f,v]∧aV C H a ps ts L pk R N rs cs∧(∀r∈R,1≤r.2)∧(v= .bK∨(∃i:Int,v= .int i)∨∃i t,v= .ref t∧i<R.length∧H t=some (.tup (mh (R.getD i (0,0)).1 (br R i))))∧∀H',ax H H'→Q (.bl true) H'
noncomputable def S2:Sp:=fun vs H Q E=>Jx vs H Q E∨JX vs H Q E
theorem Ae(T:Txt K mg A):bC P w K mg base eC 1 A.jY A.kg ["thing"] S2:=
 ⟨fun vs H Q E h=>h.elim ((iU (P:=P) (w:=w) (base:=base) T).len vs H Q E) ((qr (P:=P) (w:=w) (base:=base) T).len vs H Q E),fun A outer s H args us vs Q E hr he hb hv hs=>hs.elim ((iU T).run A outer s H args us vs Q E hr he hb hv) ((qr T).run A outer s H args us vs Q E hr he hb hv)⟩
theorem j7(T:Txt K mg A):bC P w K mg base eC 5 A.lC A.lA ["self","thing"] (N9 A.ak):=by
 refine T.h8.F.fV sq ?_
 rintro c_ Ar outer s H vs Q E hr ⟨a,ps,ts,L,pk,R,N,rs,cs,v,rfl,F,kz,hv,k⟩
 obtain⟨dx,ho⟩:=F.ob;refine⟨_,(ao (aK (RQ (Io uT (pv 1) dh) (RQ (dO (Ae T) hr T.iz aE (aX (pv 1))) (iC (nu (pv 0) T.aG T.jD (nh T) hr aE (aX (pv 1)))))))),?_⟩;rcases hv with rfl|⟨i,rfl⟩|⟨i,t,rfl,hi,e⟩
 ·exact⟨_,rfl,rfl,_,rfl,eN (k _ (ax.refl H))⟩
 ·exact⟨_,rfl,rfl,_,rfl,cQ ⟨_,rfl,.inl ⟨i,rfl,_,rfl,eN (k _ (ax.refl H))⟩⟩⟩
 ·exact⟨_,rfl,rfl,_,rfl,cQ ⟨_,rfl,.inr ⟨t,_,rfl,e,_,rfl,cQ ⟨_,rfl,a.f,dx,_,rfl,ho,a8 (by decide+kernel),_,rfl,a,ps,ts,L,pk,R,N,rs,cs,i,t,rfl,F,kz,hi,e,k⟩⟩⟩⟩
noncomputable def Fl(C:Addr):Sp:=fun vs H Q _=>∃a ps ts L pk R N rs cs i t,vs=[.ref a.f,.ref t]∧aV C H a ps ts L pk R N rs cs∧(∀r∈R,1≤r.2)∧ps.length=ts.length∧i<R.length∧ts[(R.getD i (0,0)).1]? =some none∧H t=some (.tup (mh (R.getD i (0,0)).1 (br R i)))∧∀H',ax H H'→Q (.ref (rs.getD i 0)) H'
theorem jy(T:Txt K mg A):bC P w K mg base eC 6 A.jK A.jV ["self","thing"] (Fl A.ak):=by
 refine T.gJ.F.fV jC ?_
 rintro c_ Ar outer s H vs Q E hr ⟨a,ps,ts,L,pk,R,N,rs,cs,i,t,rfl,F,kz,hl,hi,fC,e,k⟩
 have hu:=dy hr;obtain⟨dx,ho⟩:=F.ob;refine⟨_,(ah (bW (eB (dQ (nu (pv 0) T.aG T.jD (nh T) hr aE (aX (pv 1))))) (ao eP) bc) (ah (fG 2 jC.nd (nu (pv 0) T.aG T.jR (qS T) hr aE (aX (de bH (pv 1) aj)))) (ah (bW (xL tU (pv 2) dh) (ao eP) bc) (ao (aK (gY hu (gY hu (Cp (pv 0)) (de bH (pv 1) aj)) (de bH (pv 1) aj))))))),?_⟩;refine⟨_,rfl,a.f,dx,_,rfl,ho,a8 (by decide+kernel),_,rfl,a,ps,ts,L,pk,R,N,rs,cs,i,t,rfl,F,kz,hi,e,fun H1 s1=>⟨_,rfl,?_⟩⟩;have F1:=F.same s1;have e1:=s1 _ _ e;obtain⟨JU,Fj⟩:=F1.ob;obtain⟨kv,b,f1,f2,f3,f4⟩:=F1.floor kz hi;refine⟨_,rfl,a.f,JU,_,rfl,Fj,a8 (by decide+kernel),_,rfl,t,_,0,_,rfl,rfl,gg.of e1,rfl,a.f,a.pa,a.ta,ps,ts,(R.getD i (0,0)).1,none,rfl,F1.fr,hl,fC,?_⟩;refine⟨_,rfl,rfl,_,rfl,?_⟩;refine⟨_,rfl,a.f,A.ak,JU,_,_,rfl,Fj,T.aG,T.fj,Ce _ _ _,_,rfl,t,_,0,_,rfl,rfl,gg.of e1,rfl,a.fa,.ref b,rfl,?_,_,rfl,t,_,1,_,rfl,rfl,gg.of e1,rfl,b,.ref (rs.getD i 0),rfl,?_,k H1 s1⟩
 ·have:=dq.k (k:= .inl ((R.getD i (0,0)).1:Int)) f1;rw[f2] at this;exact this
 ·have:=dq.k (k:= .inl (br R i:Int)) f3;rw[f4] at this;exact this
noncomputable def E_:Sp:=fun vs H Q _=>∃(b:Addr) (xs:aA) (k:Nat),vs=[.ref b,.int k]∧H b=some (.lst xs)∧k<xs.length∧Q .bK H
theorem CP(T:Txt K mg A):bC P w K mg base eC 3 A.wC A.wG ["room","thing"] E_:=by
 refine T.wu.F.fV Cy ?_
 rintro c_ Ar outer s H vs Q E hr ⟨b,xs,k,rfl,hb,hk,q⟩
 refine⟨_,(ao (bW (eB (dQ (dO (jI T) hr T.jk aE (ai (pv 1) (ai aj (aX (bG lT (lN bA T.gx Boot.«len» (aX (pv 0))) aj))))))) (ao eP) bc)),?_⟩;refine⟨_,rfl,_,rfl,b,_,rfl,.inl (bw.of hb),_,1,rfl,rfl,(k:Int),0,_,rfl,_,rfl,?_⟩;rw[bu (show(0:Int)≤(k:Int) by lia),bu (show(k:Int)≤(xs.length:Int) - 1 by lia)];exact q
structure zj(H:Hp)(ts:av)(R:Rm)(i:Nat)(t:Addr):Prop where
 hi:i<R.length
 st:ts[(R.getD i (0,0)).1]? =some none
 e:H t=some (.tup (mh (R.getD i (0,0)).1 (br R i)))
theorem zj.same{H H' :Hp}{ts:av}{R:Rm}{i:Nat}{t:Addr}(w:zj H ts R i t)(s:ax H H'):zj H' ts R i t:=⟨w.hi,w.st,s _ _ w.e⟩
noncomputable def OH(C:Addr):Sp:=fun vs H Q _=>∃a ps ts L pk R N rs cs i t xs,vs=[.ref a.f,.ref t]∧aV C H a ps ts L pk R N rs cs∧(∀r∈R,1≤r.2)∧ps.length=ts.length∧zj H ts R i t∧cs[i]? =some xs∧∀l H',H l=none→ax H H'→H' l=some (.lst xs)→Q (.ref l) H'
theorem oy(T:Txt K mg A):bC P w K mg base eC 7 A.qA A.qB ["self","way"] (OH A.ak):=by
 refine T.kO.F.fV yi ?_
 rintro c_ Ar outer s H vs Q E hr ⟨a,ps,ts,L,pk,R,N,rs,cs,i,t,xs,rfl,F,kz,hl,wa,hc,q⟩
 obtain⟨dx,ho⟩:=F.ob;refine⟨_,(ao (aK (Dv BZ T.nP Boot.«list» (aX (nu (pv 0) T.aG T.gJ (jy T) hr aE (aX (pv 1))))))),?_⟩;refine⟨_,rfl,a.f,dx,_,rfl,ho,a8 (by decide+kernel),_,rfl,a,ps,ts,L,pk,R,N,rs,cs,i,t,rfl,F,kz,hl,wa.hi,wa.st,wa.e,fun H1 s1=> ?_⟩;obtain⟨r1,r2,ys,r3,r4⟩:=(F.same s1).room wa.hi;rw[hc] at r3;cases r3;exact⟨rs.getD i 0,_,rfl,.inl (bw.of r4),fun l hl=>q l _ (s1.free hl) (s1.trans (ax.upd hl)) ae⟩
noncomputable def Bw(H:Hp)(R:Rm)(v:V):Prop:=v= .bK∨(∃i:Int,v= .int i)∨∃i t,v= .ref t∧i<R.length∧H t=some (.tup (mh (R.getD i (0,0)).1 (br R i)))
theorem Bw.same{H H' :Hp}{R:Rm}{v:V}(h:Bw H R v)(s:ax H H'):Bw H' R v:=by
 rcases h with h|h|⟨i,t,h1,h2,h3⟩
 ·exact .inl h
 ·exact .inr (.inl h)
 ·exact .inr (.inr ⟨i,t,h1,h2,s _ _ h3⟩)
noncomputable def aay(C:Addr):Sp:=fun vs H Q _=>∃a ps ts L pk R N rs cs i t xs k v,vs=[.ref a.f,.ref t,.int (k:Nat),v]∧aV C H a ps ts L pk R N rs cs∧(∀r∈R,1≤r.2)∧ps.length=ts.length∧zj H ts R i t∧cs[i]? =some xs∧k<xs.length∧Bw H R v∧∀H2,ax H H2→Q .bK (upd H2 (rs.getD i 0) (.lst (xs.set k v)))
theorem uv(T:Txt K mg A):bC P w K mg base eC 7 A.wk A.wo ["self","way","k","value"] (aay A.ak):=by
 refine T.nL.F.fV rP ?_
 rintro c_ Ar outer s H vs Q E hr ⟨a,ps,ts,L,pk,R,N,rs,cs,i,t,xs,k,v,rfl,F,kz,hl,wa,hc,hk,hv,q⟩
 obtain⟨dx,ho⟩:=F.ob;refine⟨_,(ah (fG 4 rP.nd (nu (pv 0) T.aG T.gJ (jy T) hr aE (aX (pv 1)))) (ah (bB (dO (CP T) hr T.wu aE (ai (pv 4) (aX (pv 2))))) (ah (bW (eB (dQ (nu (pv 0) T.aG T.h8 (j7 T) hr aE (aX (pv 3))))) (ao eP) bc) (ao (oT (pv 3) (n0 (pv 4) (pv 2) wT)))))),?_⟩;refine⟨_,rfl,a.f,dx,_,rfl,ho,a8 (by decide+kernel),_,rfl,a,ps,ts,L,pk,R,N,rs,cs,i,t,rfl,F,kz,hl,wa.hi,wa.st,wa.e,fun H1 s1=> ?_⟩;have F1:=F.same s1;obtain⟨r1,r2,ys,r3,r4⟩:=F1.room wa.hi;rw[hc] at r3;cases r3;refine⟨_,rfl,_,rfl,rs.getD i 0,xs,k,rfl,r4,hk,?_⟩;obtain⟨JU,Fj⟩:=F1.ob;refine⟨_,rfl,a.f,JU,_,rfl,Fj,a8 (by decide+kernel),_,rfl,a,ps,ts,L,pk,R,N,rs,cs,v,rfl,F1,kz,hv.same s1,fun H2 s2=>⟨_,rfl,?_⟩⟩;have F2:=F1.same s2;refine⟨_,rfl,_,rfl,_,rfl,rs.getD i 0,xs,_,k,rfl,rfl,s2 _ _ r4,pN hk,?_⟩;exact q H2 (s1.trans s2)
end
noncomputable def eR(f p:Nat):PyData:= .tuple [.int f,.int p]
theorem WF.begun{ps ts:av}(W:WF ps ts){t:Nat}(ht:t<ps.length)(hle:ps.length≤100):WF (ps++[some t]) (ts++[none]):=by
 have hl:=W.len;refine⟨by simp[hl],by simp,by simp;lia,?_,fun i h0 hi=> ?_,fun i j e=> ?_⟩
 ·rw[bV W.pos];exact W.root
 ·by_cases Qd:i<ps.length
  ·rw[bV Qd];exact W.par i h0 Qd
  ·have e:i=ps.length:=by simp at hi;lia
   subst e;exact⟨t,by simp,ht⟩
 ·rw[bj];by_cases Qd:i<ts.length
  ·rw[bV Qd] at e;have:=W.tk i j e
   lia
  ·rw[cF (by lia)] at e
   cases q:i - ts.length with
   |zero=>rw[q] at e;cases e
   |succ m=>rw[q] at e;simp at e
theorem sN(t:Nat):∀(E:List Nat) (ts:av) (i:Nat),(xz t E ts)[i]? =ts[i]?∨(i∈E∧(xz t E ts)[i]? =some (some t))
 |[],ts,i=> .inl rfl
 |n::r,ts,i=>by
  rcases sN t r (ts.set n (some t)) i with h|⟨h1,h2⟩
  ·by_cases e:n=i
   ·subst e;by_cases hn:n<ts.length
    ·exact .inr ⟨bJ,by show(xz t r (ts.set n (some t)))[n]? =_;rw[h,tO hn]⟩
    ·refine .inl ?_;show(xz t r (ts.set n (some t)))[n]? =_;rw[h,gB (by rw[ij];lia),gB (by lia)]
   ·refine .inl ?_;show(xz t r (ts.set n (some t)))[i]? =_;rw[h,mF e]
  ·exact .inr ⟨a_ _ h1,h2⟩
theorem WF.ended{ps ts:av}(W:WF ps ts){t:Nat}(ht:t<ps.length)(E:List Nat):WF ps (xz t E ts):=by
 refine⟨by rw[oU];exact W.len,W.pos,W.le,W.root,W.par,fun i j e=> ?_⟩;rcases sN t E ts i with h|⟨_,h⟩
 ·rw[h] at e;exact W.tk i j e
 ·rw[h] at e;cases e;exact ht
theorem JS{ps ts:av}(W:WF ps ts){t:Nat}(h:t≠0):¬0∈bt ps ts t:=fun hm=>by
 have h1:=(cA.mp hm).2;have h1:=gQ h1
 have e:ix ps 0=[0]:=by
  show(C2 ps 0 0).reverse=[0];rfl
 rw[e] at h1;simp at h1;exact h h1
structure Fits(B k:Nat)(d:PyData):Prop where
 sh:d.showable=true
 dp:d.depth≤k
 ln:d.shown.length≤B
theorem Fits.mono{B B' k k' :Nat}{d:PyData}(g:Fits B k d)(h:B≤B')(h' :k≤k'):Fits B' k' d:=⟨g.sh,aY g.dp h',aY g.ln h⟩
theorem yb{B k:Nat}:∀{ds:List PyData},(∀d∈ds,Fits B k d)→PyData.showableAll ds=true∧PyData.depthAll ds≤k∧((PyData.shownAll ds).map (·.length)).sum≤B*ds.length∧(PyData.shownAll ds).length=ds.length
 |[],_=>by simp[PyData.showableAll,PyData.depthAll,PyData.shownAll]
 |d::r,h=>by
  obtain⟨h1,h2,h3,h4⟩:=yb (ds:=r) fun x hx=>h x (a_ _ hx);have g:=h d bJ;have gl:=g.ln;refine⟨?_,?_,?_,?_⟩
  ·simp only[PyData.showableAll,g.sh,h1,xF]
  ·simp only[PyData.depthAll];exact Nat.max_le.mpr ⟨g.dp,h2⟩
  ·simp only[PyData.shownAll,cy,jQ,cf,Nat.mul_add,Nat.mul_one]
   lia
  ·simp only[PyData.shownAll,cf,h4]
theorem Fits.list{B k:Nat}{ds:List PyData}(h:∀d∈ds,Fits B k d):Fits (B*ds.length+2*ds.length+3) (k+1) (.list ds):=by
 obtain⟨h1,h2,h3,h4⟩:=yb h;refine⟨?_,?_,?_⟩
 ·simp only[PyData.showable,h1]
 ·simp only[PyData.depth]
  lia
 ·simp only[PyData.shown];have:=listText_len_le (PyData.shownAll ds);rw[h4] at this
  lia
theorem zI{n:Nat}(h:n≤1000):Fits 5 1 (.int n):=by
 refine⟨?_,?_,?_⟩
 ·simp only[PyData.showable];exact bu (G_ h)
 ·simp[PyData.depth]
 ·simp only[PyData.shown];rw[PySem.ofString_length];exact PySem.int_text_length_le10 (k:=4) (by decide) (by rw[Int.natAbs_natCast];lia)
theorem Fits.tup{B k:Nat}{ds:List PyData}(h:∀d∈ds,Fits B k d):Fits (B*ds.length+2*ds.length+3) (k+1) (.tuple ds):=by
 obtain⟨h1,h2,h3,h4⟩:=yb h;refine⟨?_,?_,?_⟩
 ·simp only[PyData.showable,h1]
 ·simp only[PyData.depth]
  lia
 ·simp only[PyData.shown];have:=tupleText_len_le (PyData.shownAll ds);rw[h4] at this
  lia
theorem Fits.rep{B k:Nat}{d:PyData}(g:Fits B k d)(hB:B≤100000)(hk:k≤90):d.showable=true∧d.depth≤90∧d.shown.length≤sizeLine:=⟨g.sh,aY g.dp hk,aY g.ln (ck (bz hB))⟩
theorem AW{x:Str}(h:(PyData.str x).shown.length≤10):Fits 100 3 (.str x):=by
 refine⟨?_,?_,aY h (by decide)⟩
 ·simp only[PyData.showable]
 ·simp[PyData.depth]
theorem Wp{R:Rm}{i:Nat}(hi:i<R.length):R.getD i (0,0)∈R:=ba (cU (0,0) hi)
theorem LJ(R:Rm)(h:∀r∈R,r.2≤6)(i:Nat):br R i≤6*R.length:=by
 unfold br;refine aY (Gw (R:=R.take i) (fun r hr=>h r (mw hr)) _) ?_;rw[kD]
 lia
noncomputable def CJ(R:Rm)(cs:cO)(H:Hp)(n:Nat)(o:Option Nat)(v:V):Prop:=∃t tt xs,v= .ref t∧H t=some (.tup [.int n,oV o,.ref tt])∧H tt=some (.tup xs)∧xs.length=(bg R n).length∧∀(j:Nat) x,xs[j]? =some x→∃u m vs,x= .ref u∧(bg R n)[j]? =some m∧cs[m]? =some vs∧H u=some (.tup vs)
theorem CJ.kept{R:Rm}{cs:cO}{H H' :Hp}{n:Nat}{o:Option Nat}{v:V}(h:CJ R cs H n o v)(k:∀c xs,H c=some (.tup xs)→H' c=some (.tup xs)):CJ R cs H' n o v:=by
 obtain⟨t,tt,xs,h1,h2,h3,h4,h5⟩:=h;refine⟨t,tt,xs,h1,k _ _ h2,k _ _ h3,h4,fun j x e=> ?_⟩;obtain⟨u,m,vs,e1,e2,e3,e4⟩:=h5 j x e;exact⟨u,m,vs,e1,e2,e3,k _ _ e4⟩
noncomputable def yY(ps ts:av)(L:Nat)(R:Rm)(cs:cO)(H:Hp)(v:V):Prop:=∃t tt xs,v= .ref t∧H t=some (.tup [.int L,.ref tt])∧H tt=some (.tup xs)∧xs.length=(aw ts).length∧∀(j:Nat) x,xs[j]? =some x→∃n o,(aw ts)[j]? =some n∧ps[n]? =some o∧CJ R cs H n o x
theorem yY.kept{ps ts:av}{L:Nat}{R:Rm}{cs:cO}{H H' :Hp}{v:V}(h:yY ps ts L R cs H v)(k:∀c xs,H c=some (.tup xs)→H' c=some (.tup xs)):yY ps ts L R cs H' v:=by
 obtain⟨t,tt,xs,h1,h2,h3,h4,h5⟩:=h;refine⟨t,tt,xs,h1,k _ _ h2,k _ _ h3,h4,fun j x e=> ?_⟩;obtain⟨n,o,e1,e2,e3⟩:=h5 j x e;exact⟨n,o,e1,e2,e3.kept k⟩
section
variable{P:Program}{w:World}{K:Frag}{mg:Str→aQ}{base:Heap}{A:qa}
noncomputable def Mc(C:Addr):Sp:=fun vs H Q _=>∃f pa ta ps ts,∃(t:Nat) (o:Option Nat),vs=[.ref f,.int t]∧iX C H f pa ta ps ts∧ps[t]? =some o∧Q (oV o) H
theorem vd(T:Txt K mg A):bC P w K mg base eC 5 A.ni A.mX ["self","frame"] (Mc A.ak):=by
 refine T.mT.F.fV u7 ?_
 rintro c_ Ar outer s H vs Q E hr ⟨f,pa,ta,ps,ts,t,o,rfl,F,hx,k⟩
 obtain⟨⟨dx,z,ho⟩,hp,ht,ne⟩:=id F;have hj:t<ps.length:=(aS.mp hx).1
 have hb:g_ ps (t:Int)=true:=by
  unfold g_;rw[bu (show(0:Int)≤t by lia),bu (show(t:Int)≤(ps.length:Int) - 1 by lia)];rfl
 refine⟨_,(ah (bB (nu (pv 0) T.aG T.cY (dH T) hr aE (aX (pv 1)))) (ao (aK (de a7 (Cp (pv 0)) (pv 1))))),?_⟩;refine⟨_,rfl,f,dx,_,rfl,ho,a8 (by decide+kernel),_,rfl,f,pa,ta,ps,ts,t,rfl,F,hb,?_⟩;exact⟨_,rfl,f,A.ak,dx,_,_,rfl,ho,T.aG,T.eQ,CC _ _ _,_,rfl,pa,_,_,_,rfl,rfl,bw.of hp,nQ hx,k⟩
noncomputable def Ol(C:Addr):Sp:=fun vs H Q _=>∃a ps ts L pk R N rs cs,∃t:Nat,vs=[.ref a.f,.int t]∧aV C H a ps ts L pk R N rs cs∧ps.length=ts.length∧ts[t]? =some none∧R.length≤1000∧
 ∀l ys H',H l=none→ax H H'→H' l=some (.lst ys)→ys.length=(bg R t).length→(∀j v,ys[j]? =some v→∃wt,v= .ref wt∧H' wt=some (.tup (mh t (br R ((bg R t).getD j 0)))))→Q (.ref l) H'
theorem o8(T:Txt K mg A):bC P w K mg base eC 6 A.qw A.qk ["self","frame"] (Ol A.ak):=by
 refine T.ku.F.fV yP ?_
 rintro c_ Ar outer s H vs Q E hr ⟨a,ps,ts,L,pk,R,N,rs,cs,t,rfl,F,hl,fC,hR,q⟩
 have hu:=dy hr;obtain⟨dx,ho⟩:=F.ob
 have Vb:di ts (t:Int)=true:=by
  unfold di;rw[bu (show(0:Int)≤t by lia),cT,fC];rfl
 obtain⟨kv,f1,f2,f3,f4⟩:=F.fl;have xj:=i4 R t;refine⟨_,(ah (bB (nu (pv 0) T.aG T.cH (cW T) hr aE (aX (pv 1)))) (ao (aK (FU (Bk ["place","frame"] 1 [1] (Gp (sL hu (Cp (pv 0)) (pv 1) nN ⟨rfl,rfl,rfl,rfl⟩)) (fun _ _ _ _ _=>⟨(iO 0 (show(["place","frame"]:aJ).Nodup by decide+kernel)),qM,(gF (ai (pv 1) (aX (pv 0))))⟩)))))),?_⟩;refine⟨_,rfl,a.f,dx,_,rfl,ho,a8 (by decide+kernel),_,rfl,a.f,a.pa,a.ta,ps,ts,t,rfl,F.fr,hl,Vb,?_⟩;refine⟨_,rfl,a.f,A.ak,dx,_,_,rfl,ho,T.aG,T.fj,Ce _ _ _,a.fa,rfl,.inl ⟨_,.inl f1⟩,_,rfl,fun e0 LM=> ?_⟩;have s1:=ax.upd (o:= .dK []) LM
 have hd:∃d,((bR kv (.inl (t:Int))).getD (V.ref e0))= .ref d∧upd H e0 (.dK []) d=some (.dK (dC R rs t)):=by
  rcases f3 t with⟨h1,h2⟩|⟨b,e1,e2,e3,e4,e5⟩
  ·rw[h1];refine⟨e0,rfl,?_⟩;unfold dC;rw[h2];exact ae
  ·rw[e1];exact⟨b,rfl,s1 _ _ e5⟩
 obtain⟨d,C_,hd2⟩:=hd;generalize upd H e0 (.dK [])=H1 at s1 hd2;refine⟨_,dq.k (k:= .inl (t:Int)) (s1 _ _ f1),?_⟩;show ∃a kvs,(bR kv (.inl (t:Int))).getD (V.ref e0)= .ref a∧_;rw[C_];refine⟨d,_,rfl,hd2,fun o nf=> ?_⟩;have wX:upd H1 d (.eX o (.dK (dC R rs t))) d=some (.eX o (.dK (dC R rs t))):=ae;have xQ:(dC R rs t).length=(bg R t).length:=aN ..;refine ub (fun j v H' =>∃wt,v= .ref wt∧H' wt=some (.tup (mh t (br R ((bg R t).getD j 0))))) (zK wX) (by rw[xQ];exact ck (bz (by lia))) ?_ ?_ ?_
 ·rintro j v Ha Hb k ⟨wt,h1,h2⟩
  exact⟨wt,h1,k _ _ h2⟩
 ·intro j x H' C1 hj sm hx c1;rw[xQ] at hj;obtain⟨kk,vv,h1,rfl⟩:=hx;unfold dC at h1;rw[aW,cU 0 hj] at h1;cases h1;exact⟨(eM.refl _).own (by decide),_,rfl,_,rfl,(show 2≤sizeLine by decide),fun wt IZ=>c1 _ _ (ax.upd IZ) ⟨wt,rfl,ae⟩⟩
 ·intro p H' ys hp sm zp jG hys;refine⟨d,o,_,sm _ _ wX,nf,?_⟩;have pd:p≠d:=fun z=>by rw[z,wX] at hp;cases hp
  have Mt:H1 p=none:=by rw[af pd] at hp;exact hp
  refine q p ys _ (s1.free Mt) (fun c oo e=> ?_) (by rw[af pd];exact zp) (by rw[jG,xQ]) fun j v e=> ?_
  ·by_cases z:c=d
   ·subst z;have:=s1 _ _ e;rw[hd2] at this;cases this;exact ae
   ·rw[af z];exact sm _ _ (by rw[af z];exact s1 _ _ e)
  ·obtain⟨wt,h1,h2⟩:=hys j v e;refine⟨wt,h1,?_⟩;rw[af (fun z=>by rw[z,sm _ _ wX] at h2;cases h2)];exact h2
noncomputable def OI(C:Addr):Sp:=fun vs H Q _=>∃a ps ts L pk R N rs cs,∃(n:Nat) (o:Option Nat),vs=[.ref a.f,.int n]∧aV C H a ps ts L pk R N rs cs∧(∀r∈R,1≤r.2)∧cs.length=R.length∧ps.length=ts.length∧ts[n]? =some none∧ps[n]? =some o∧R.length≤1000∧
 ∀v H',ax H H'→CJ R cs H' n o v→Q v H'
theorem pY(T:Txt K mg A):bC P w K mg base eC 8 A.jB A.jx ["self","frame"] (OI A.ak):=by
 refine T.jl.F.fV p6 ?_
 rintro c_ Ar outer s H vs Q E hr ⟨a,ps,ts,L,pk,R,N,rs,cs,n,o,rfl,F,kz,nC,hl,fC,Wa,hR,q⟩
 have hu:=dy hr;obtain⟨dx,ho⟩:=F.ob;have xj:=i4 R n;refine⟨_,(ao (aK (gF (ai (pv 1) (ai (nu (pv 0) T.aG T.mT (vd T) hr aE (aX (pv 1))) (aX (Dv fM T.j9 Boot.«tuple» (aX (Bk ["way","self"] 1 [0] (cK (nu (pv 0) T.aG T.ku (o8 T) hr aE (aX (pv 1)))) (fun _ _ _ _ _=>⟨(iO 0 (show(["way","self"]:aJ).Nodup by decide+kernel)),qM,(Dv (oC (K:=K) rfl) T.j9 Boot.«tuple» (aX (nu (pv 1) T.aG T.kO (oy T) hr aE (aX (pv 0)))))⟩)))))))))),?_⟩;refine⟨_,rfl,_,rfl,a.f,dx,_,rfl,ho,a8 (by decide+kernel),_,rfl,a.f,a.pa,a.ta,ps,ts,n,o,rfl,F.fr,Wa,?_⟩;refine⟨_,rfl,a.f,dx,_,rfl,ho,a8 (by decide+kernel),_,rfl,a,ps,ts,L,pk,R,N,rs,cs,n,rfl,F,hl,fC,hR,fun l ys H1 FN s1 Ab jG hys=> ?_⟩;refine⟨l,rfl,⟨_,bw.of Ab⟩,?_⟩;refine ub (fun j v H' =>∃u m vs,v= .ref u∧(bg R n)[j]? =some m∧cs[m]? =some vs∧H' u=some (.tup vs)) (hX (bw.of Ab)).g (by rw[jG];exact ck (bz (by lia))) ?_ ?_ ?_
 ·rintro j v Ha Hb kt ⟨u,m,vs,h1,h2,h3,h4⟩
  exact⟨u,m,vs,h1,h2,h3,kt _ _ h4⟩
 ·intro j x H' C1 hj sm hx c1;obtain⟨wt,rfl,hw⟩:=hys j x hx;rw[jG] at hj;have ei:=cU 0 hj;generalize (bg R n).getD j 0=m at ei hw;have hm:=eO (ba ei);have Lb:=gU (ba ei);have F' :=(F.same s1).same sm;obtain⟨R8,C5⟩:=F'.ob;have hcm:cs[m]? =some cs[m]:=by simp
  refine⟨(eM.refl _).own (by decide),?_⟩;refine⟨_,rfl,a.f,R8,_,rfl,C5,a8 (by decide+kernel),_,rfl,a,ps,ts,L,pk,R,N,rs,cs,m,wt,cs[m],rfl,F',kz,hl,⟨hm,(by rw[Lb];exact fC),(by rw[Lb];exact sm _ _ hw)⟩,hcm,fun l2 H2 u_ s2 e2=> ?_⟩;exact⟨l2,_,rfl,.inl ⟨bw.of e2,fun u hu=>c1 _ _ (s2.trans (ax.upd hu)) ⟨u,m,_,rfl,ei,hcm,ae⟩⟩⟩
 ·intro p H2 K9 hp sm DE EM hE;refine⟨p,_,rfl,.inl ⟨bw.of DE,fun tt N7=>⟨(show 3≤sizeLine by decide),fun t ht=> ?_⟩⟩⟩;have s3:=ax.upd (o:= .tup K9) N7;have s4:=ax.upd (o:= .tup [V.int n,oV o,.ref tt]) ht;refine q _ _ (s1.trans (sm.trans (s3.trans s4))) ⟨t,tt,K9,rfl,ae,s4 _ _ ae,by rw[EM,jG],fun j x e=> ?_⟩;obtain⟨u,m,vs,e1,e2,e3,e4⟩:=hE j x e;exact⟨u,m,vs,e1,e2,e3,s4 _ _ (s3 _ _ e4)⟩
noncomputable def HF(C:Addr):Sp:=fun vs H Q _=>∃a ps ts L pk R N rs cs,vs=[.ref a.f]∧aV C H a ps ts L pk R N rs cs∧(∀r∈R,1≤r.2)∧cs.length=R.length∧ps.length=ts.length∧ts.length≤101∧R.length≤1000∧
 ∀v H',ax H H'→yY ps ts L R cs H' v→Q v H'
theorem vB(T:Txt K mg A):bC P w K mg base eC 9 A.m9 A.mZ ["self"] (HF A.ak):=by
 refine T.m6.F.fV uO ?_
 rintro c_ Ar outer s H vs Q E hr ⟨a,ps,ts,L,pk,R,N,rs,cs,rfl,F,kz,nC,hl,ht1,hR,q⟩
 have hu:=dy hr;obtain⟨dx,ho⟩:=F.ob;have nz:=fJ ts;refine⟨_,(ao (aK (gF (ai (Cp (pv 0)) (aX (Dv fM T.j9 Boot.«tuple» (aX (Bk ["number","self"] 1 [0] (cK (wI (pv 0) T.aG T.dD (eK T) hr aE)) (fun _ _ _ _ _=>⟨(iO 0 (show(["number","self"]:aJ).Nodup by decide+kernel)),qM,(nu (pv 1) T.aG T.jl (pY T) hr aE (aX (pv 0)))⟩))))))))),?_⟩;refine⟨_,rfl,a.f,A.ak,dx,_,_,rfl,ho,T.aG,T.kK,JR _ _ _,?_⟩;refine⟨_,rfl,a.f,dx,_,rfl,ho,a8 (by decide+kernel),a.f,a.pa,a.ta,ps,ts,rfl,F.fr,by lia,fun sl H1 adh s1 Cz=> ?_⟩;refine⟨sl,rfl,⟨_,bw.of Cz⟩,?_⟩;refine ub (fun j v H' =>∃n o,(aw ts)[j]? =some n∧ps[n]? =some o∧CJ R cs H' n o v) (hX (bw.of Cz)).g (by rw[aN];exact ck (bz (by lia))) ?_ ?_ ?_
 ·rintro j v Ha Hb kt ⟨n,o,h1,h2,h3⟩
  exact⟨n,o,h1,h2,h3.kept kt⟩
 ·intro j x H' C1 hj sm hx c1;rw[aW] at hx
  cases en:(aw ts)[j]? with
  |none=>rw[en] at hx;cases hx
  |some n=>
   rw[en] at hx;cases hx;have F' :=(F.same s1).same sm;obtain⟨R8,C5⟩:=F'.ob;have fC:ts[n]? =some none:=eq_of_beq (cm.mp (ba en))
   have AU:n<ps.length:=by
    have:=(aS.mp fC).1
    lia
   have NK:ps[n]? =some ps[n]:=by simp[AU]
   exact⟨(eM.refl _).own (by decide),_,rfl,a.f,R8,_,rfl,C5,a8 (by decide+kernel),_,rfl,a,ps,ts,L,pk,R,N,rs,cs,n,_,rfl,F',kz,nC,hl,fC,NK,hR,fun v H2 s2 pf=>c1 _ _ s2 ⟨n,_,en,NK,pf⟩⟩
 ·intro p H2 K9 hp sm DE EM hE;rw[aN] at EM;refine⟨p,_,rfl,.inl ⟨bw.of DE,fun tt N7=>⟨(show 2≤sizeLine by decide),fun t ht=> ?_⟩⟩⟩;have s3:=ax.upd (o:= .tup K9) N7;have s4:=ax.upd (o:= .tup [V.int L,.ref tt]) ht;refine q _ _ (s1.trans (sm.trans (s3.trans s4))) ⟨t,tt,K9,rfl,ae,s4 _ _ ae,EM,fun j x e=> ?_⟩;obtain⟨n,o,e1,e2,e3⟩:=hE j x e;exact⟨n,o,e1,e2,e3.kept fun c xs e=>s4 _ _ (s3 _ _ e)⟩
noncomputable def Ex(C:Addr):Sp:=fun vs H Q _=>∃a ps ts L pk R N rs cs,vs=[.ref a.f]∧aV C H a ps ts L pk R N rs cs∧Q (.int pk) H
theorem sj(T:Txt K mg A):bC P w K mg base eC 1 A.lu A.k4 ["self"] (Ex A.ak):=by
 refine T.lJ.F.fV sy ?_
 rintro c_ Ar outer s H vs Q E hr ⟨a,ps,ts,L,pk,R,N,rs,cs,rfl,F,q⟩
 obtain⟨dx,ho⟩:=F.ob;refine⟨_,(ao (aK (Cp (pv 0)))),?_⟩;exact⟨_,rfl,a.f,A.ak,dx,_,_,rfl,ho,T.aG,T.iY,JN _ _ _,q⟩
end
mutual
inductive dZ (H:Hp):V→PyData→Prop
 |bK:dZ H .bK .none
 |int (i:Int):dZ H (.int i) (.int i)
 |str (x:Str):dZ H (.str x) (.str x)
 |tup {a:Addr} {xs:aA} {ds:List PyData} (e:H a=some (.tup xs)) (h:bp H xs ds):dZ H (.ref a) (.tuple ds)
inductive bp (H:Hp):aA→List PyData→Prop
 |nil:bp H [] []
 |cons {x:V} {xs:aA} {d:PyData} {ds:List PyData} (h:dZ H x d) (t:bp H xs ds):bp H (x::xs) (d::ds)
end
mutual
theorem dZ.dat{H:Hp}:∀{v:V} {d:PyData},dZ H v d→Dat H v d
 |_,_,.bK=> .bK
 |_,_,.int i=> .int i
 |_,_,.str x=> .str x
 |_,_,.tup e h=> .tup e (bp.dat h)
theorem bp.dat{H:Hp}:∀{xs:aA} {ds:List PyData},bp H xs ds→DatAll H xs ds
 |_,_,.nil=> .nil
 |_,_,.cons h t=> .cons (dZ.dat h) (bp.dat t)
end
mutual
theorem dZ.kt{H H' :Hp}(k:∀c xs,H c=some (.tup xs)→H' c=some (.tup xs)):∀{v:V} {d:PyData},dZ H v d→dZ H' v d
 |_,_,.bK=> .bK
 |_,_,.int i=> .int i
 |_,_,.str x=> .str x
 |_,_,.tup e h=> .tup (k _ _ e) (bp.kt k h)
theorem bp.kt{H H' :Hp}(k:∀c xs,H c=some (.tup xs)→H' c=some (.tup xs)):∀{xs:aA} {ds:List PyData},bp H xs ds→bp H' xs ds
 |_,_,.nil=> .nil
 |_,_,.cons h t=> .cons (dZ.kt k h) (bp.kt k t)
end
theorem bp.append{H:Hp}:∀{xs ys:aA} {ds es:List PyData},bp H xs ds→bp H ys es→bp H (xs++ys) (ds++es)
 |_,_,_,_,.nil,h=>h
 |_,_,_,_,.cons a t,h=> .cons a (t.append h)
theorem a9{H H' :Hp}(s:ax H H'):∀c xs,H c=some (.tup xs)→H' c=some (.tup xs):=fun c xs e=>s c _ e
theorem xP{J:It}{n k:Nat}{js:List Nat}{Y:Nat→V→Hp→Prop}{g:TG}{tt:TT}{te:TE}{σ:L2.St}{H:Hp}{Q:VK}(pb:Nat→Bool)(d:Nat→PyData)(F:nK J H n Y)(hlen:n≤sizeLine)
 (gW:∀(i:Nat) (x:V) (H' :Hp) (C1:V→Hp→Prop) (C0:Hp→Prop),i<n→ax H H'→Y i x H'→(pb i=true→∀v fN,ax H' fN→dZ fN v (d i)→C1 v fN)→(pb i=false→∀fN,ax H' fN→C0 fN)→
  g x (tm k js σ) H' fun iy H2=>eM (tm k js σ) iy∧tt iy H2 fun b H3=>if b=true then te iy H3 C1 else C0 H3)
 (hq:∀p H' ys,H p=none→ax H H'→H' p=some (.lst ys)→bp H' ys (((List.range n).filter pb).map d)→ys.length≤n→Q (.ref p) H'):
 iw J k js g tt te σ H Q:=by
 intro p hp;refine⟨fun i m ys H' =>m=n - i∧i≤n∧ys.length≤i∧bp H' ys (((List.range i).filter pb).map d)∧H' p=some (.lst ys)∧ax H H',⟨n,rfl,cB _,az _,.nil,ae,ax.upd hp⟩,?_⟩
 rintro i m ys H' ⟨rfl,hi,hy,hd,hl,hs⟩
 refine⟨hl,?_⟩;by_cases dS:i<n
 ·refine .inr ⟨F.go i _ hs dS,by lia,fun x fN jG=> ?_⟩;obtain⟨s1,y1⟩:=F.vC i _ x fN hs dS jG
  have et:(List.range (i+1)).filter pb=(List.range i).filter pb++(if pb i=true then[i] else[]):=by
   rw[pG,g9];cases hb:pb i<;>simp[hb]
  refine gW i x fN _ _ dS (hs.trans s1) y1 (fun hb v H3 s3 e3=> ?_) (fun hb H3 s3=>⟨n - (i+1),by lia,rfl,dS,by lia,?_,s3 _ _ (s1 _ _ hl),(hs.trans s1).trans s3⟩)
  ·have VD:H3 p=some (.lst ys):=s3 _ _ (s1 _ _ hl)
   have kt:∀c xs,H3 c=some (.tup xs)→upd H3 p (.lst (ys++[v])) c=some (.tup xs):=fun c xs e=>by
    rw[af (aD e VD (by intro z;cases z))];exact e
   refine⟨VD,n - (i+1),by lia,rfl,dS,by rw[bj];show ys.length+1≤i+1;lia,?_,ae,fun c o e=> ?_⟩
   ·rw[et,aC hb,cg];exact((hd.kt (a9 (s1.trans s3))).kt kt).append (.cons (e3.kt kt) .nil)
   ·rw[af (aq e hp)];exact s3 _ _ (s1 _ _ (hs _ _ e))
  ·rw[et,hb];simp only[eJ,cI,dA];exact hd.kt (a9 (s1.trans s3))
 ·have e:i=n:=by lia
  subst e;exact .inl ⟨F.stop _ _ hs (az _),hq p H' ys hp hs hl hd hy⟩
noncomputable def fi(c:Nat):Bool:=decide (97≤c)&&decide (c≤122)
noncomputable def dJ(x:Str):Bool:=decide (1≤x.length)&&decide (x.length≤6)&&x.cps.toList.all fi
theorem HL(c:Nat):(!(Builtin.Str.occurrences ("abcdefghijklmnopqrstuvwxyz" :Str) ⟨#[c]⟩ 0 ("abcdefghijklmnopqrstuvwxyz" :Str).length 1).isEmpty)=fi c:=by
 rw[PySem.StrLaws.found_one];have e:("abcdefghijklmnopqrstuvwxyz" :Str).cps.toList=(List.range 26).map (· +97):=by decide+kernel
 rw[e,lZ,kS,bM];unfold fi;rw[gc,kS,kS];constructor
 ·rintro ⟨i,hi,rfl⟩
  have:=dg.mp hi
  lia
 ·rintro ⟨h1,h2⟩
  exact⟨c - 97,dg.mpr (by lia),by lia⟩
noncomputable def dI(H:Hp)(R:Rm)(v:V)(o:Option Nat):Prop:=(o=none∧(v= .bK∨∃i:Int,v= .int i))∨∃i t,o=some i∧v= .ref t∧i<R.length∧H t=some (.tup (mh (R.getD i (0,0)).1 (br R i)))
noncomputable def gp(R:Rm)(S:List Nat):Option Nat→Bool
 |none=>false
 |some i=>decide ((R.getD i (0,0)).1∈S)
noncomputable def wD(R:Rm):Option Nat→PyData
 |none=> .none
 |some i=>eR (R.getD i (0,0)).1 (br R i)
theorem dI.kt{H H' :Hp}{R:Rm}{v:V}{o:Option Nat}(h:dI H R v o)(k:∀c xs,H c=some (.tup xs)→H' c=some (.tup xs)):dI H' R v o:=by
 rcases h with h|⟨i,t,h1,h2,h3,h4⟩
 ·exact .inl h
 ·exact .inr ⟨i,t,h1,h2,h3,k _ _ h4⟩
theorem dI.at{H:Hp}{R:Rm}{v:V}{o:Option Nat}(h:dI H R v o):Bw H R v:=by
 rcases h with⟨_,h|h⟩|⟨i,t,h1,h2,h3,h4⟩
 ·exact .inl h
 ·exact .inr (.inl h)
 ·exact .inr (.inr ⟨i,t,h2,h3,h4⟩)
theorem iI{H:Hp}{t:Addr}{f p:Nat}(h:H t=some (.tup (mh f p))):dZ H (.ref t) (eR f p):= .tup h (.cons (.int _) (.cons (.int _) .nil))
theorem dI.td{H:Hp}{R:Rm}{v:V}{i:Nat}(h:dI H R v (some i)):dZ H v (wD R (some i)):=by
 rcases h with⟨h,_⟩|⟨j,t,h1,h2,h3,h4⟩
 ·cases h
 ·cases h1;subst h2;exact iI h4
section
variable{P:Program}{w:World}{K:Frag}{mg:Str→aQ}{base:Heap}{A:qa}
noncomputable def Uw:Sp:=fun vs H Q _=>∃x:Str,vs=[.str x]∧dJ x=true∧∀H',ax H H'→Q (.bl true) H'
theorem FC(T:Txt K mg A):bC P w K mg base eC 1 A.AX A.Br ["thing"] Uw:=by
 refine T.Bi.F.fV Fx ?_
 rintro c_ Ar outer s H vs Q E hr ⟨x,rfl,p,k⟩
 obtain⟨u1,Ba⟩:=T.Ip;obtain⟨u2,nY⟩:=T.yj;unfold dJ at p;rw[gc,gc,kS,kS] at p;obtain⟨⟨h1,h6⟩,DT⟩:=p;refine⟨_,(ah (bW (eB (dQ (lN dE T.df Boot.«isinstance» (ai (pv 0) (aX (iQ (v:= .ty "str") rfl T.aa2 Boot.«str» rfl)))))) (ao (aK gR)) bc) (ao (aK (iF (DI GS GS aj (lN sD T.gx Boot.«len» (aX (pv 0))) (mC rfl nY.2 nY.1)) (iC (lN (DU rfl) T.Rg Boot.«all» (aX (Bk ["sign"] 1 [] (US (pv 0) rfl) (fun _ _ _ _ _=>⟨(iO 0 (show(["sign"]:aJ).Nodup by decide+kernel)),qM,(Io HI (pv 0) (mC rfl Ba.2 Ba.1))⟩))))))))),?_⟩;refine⟨_,rfl,_,_,_,_,rfl,.str x,rfl,_,rfl,cQ ?_⟩;refine⟨_,rfl,x,rfl,aY h6 (by decide),1,x.length,rfl,rfl,_,rfl,?_⟩;rw[bu (show(1:Int)≤(x.length:Int) by lia)];refine eN ⟨x.length,6,rfl,rfl,_,rfl,?_⟩;rw[bu (show(x.length:Int)≤6 by lia)];refine eN ⟨_,rfl,x,rfl,?_⟩;refine Bt (fun _=>true) (fun v=>match v with| .str z=> .bl (fi (z.cps.getD 0 0))|_=> .bK) (Iw x H) ?_ ?_ fun p hp=> ?_
 ·simp;exact aY h6 (by decide)
 ·intro i y H' C1 C0 hy sm c1 c0;rw[aW] at hy
  cases ec:x.cps.toList[i]? with
  |none=>rw[ec] at hy;cases hy
  |some c=>
   rw[ec] at hy;cases hy;refine⟨(eM.refl _).own (by decide),⟨_,rfl,_,_,rfl,rfl,?_⟩⟩;rw[HL];exact c1 rfl
 ·refine⟨p,x.cps.toList.map fi,rfl,?_,?_⟩
  ·rw[ae,jH.mpr (fun _ _=>rfl),gE,gE];rfl
  ·rw[List.all_map];rw[show(x.cps.toList.all (id ∘ fi))=true from DT];exact k _ (ax.upd hp)
noncomputable def MY:Sp:=fun vs H Q _=>∃v l R S,∃o:Option Nat,vs=[v,.ref l]∧dI H R v o∧H l=some (.lst (S.map nV))∧Q (.bl (gp R S o)) H
theorem vP(T:Txt K mg A):bC P w K mg base eC 1 A.zo A.zX ["value","part"] MY:=by
 refine T.q0.F.fV Dy ?_
 rintro c_ Ar outer s H vs Q E hr ⟨v,l,R,S,o,rfl,hv,hl,q⟩
 refine⟨_,(ao (aK (iF (lN dE T.df Boot.«isinstance» (ai (pv 0) (aX (iQ (v:= .ty "tuple") rfl T.j9 Boot.«tuple» rfl)))) (iC (Io Bz (de bH (pv 0) aj) (pv 1)))))),?_⟩;rcases hv with⟨rfl,rfl|⟨i,rfl⟩⟩|⟨i,t,rfl,rfl,hi,ht⟩
 ·exact⟨_,rfl,_,_,_,_,rfl,.bK,rfl,_,rfl,cQ q⟩
 ·exact⟨_,rfl,_,_,_,_,rfl,.int i,rfl,_,rfl,cQ q⟩
 ·refine⟨_,rfl,_,_,_,_,rfl,.tup ht,rfl,_,rfl,eN ⟨_,rfl,t,_,0,_,rfl,rfl,gg.of ht,rfl,_,rfl,l,_,rfl,.inl (bw.of hl),rfl,l5 _,?_⟩⟩;have e:HY (nV (R.getD i (0,0)).1) (S.map nV)=decide ((R.getD i (0,0)).1∈S):=za _ _;show Q (V.bl (HY (nV (R.getD i (0,0)).1) (S.map nV))) H;rw[e];exact q
noncomputable def F0(R:Rm)(S:List Nat)(h:PyData)(os:av):List PyData:=((List.range os.length).filter fun k=>gp R S (os.getD k none)).map fun k:Nat=> .tuple [.str "room",h,.int (k:Int),wD R (os.getD k none)]
noncomputable def O8(C:Addr):Sp:=fun vs H Q _=>∃a ps ts L pk R N rs cs i t xs l S,∃os:av,vs=[.ref a.f,.ref t,.ref l]∧aV C H a ps ts L pk R N rs cs∧(∀r∈R,1≤r.2)∧ps.length=ts.length∧zj H ts R i t∧cs[i]? =some xs∧xs.length≤6∧os.length=xs.length∧(∀(k:Nat) v,xs[k]? =some v→dI H R v (os.getD k none))∧H l=some (.lst (S.map nV))∧
 ∀l2 ys H',H l2=none→ax H H'→H' l2=some (.lst ys)→bp H' ys (F0 R S (wD R (some i)) os)→ys.length≤6→Q (.ref l2) H'
theorem vD(T:Txt K mg A):bC P w K mg base eC 8 A.zz A.y_ ["house","holder","part"] (O8 A.ak):=by
 refine T.qG.F.fV DG ?_
 rintro c_ Ar outer s H vs Q E hr ⟨a,ps,ts,L,pk,R,N,rs,cs,i,t,xs,l,S,os,rfl,F,kz,hl,wa,hc,hx6,ZA,hv,hS,q⟩
 obtain⟨dx,ho⟩:=F.ob;have WD:(4:Nat)≤sizeLine:=by decide
 refine⟨_,(ao (aK (Bk ["k","value","holder","part"] 2 [1,2] (md rfl T.oY (aX (nu (pv 0) T.aG T.kO (oy T) hr aE (aX (pv 1))))) (fun _ _ _ _ _=>⟨(xM (K:=K) (n:=2) rfl rfl (eS (iO 0 (show(["k","value","holder","part"]:aJ).Nodup by decide+kernel)) (eS (iO 1 (show(["k","value","holder","part"]:aJ).Nodup by decide+kernel)) pD)) rfl rfl),(Ca (dQ (dO (vP T) hr T.q0 aE (ai (pv 1) (aX (pv 3)))))),(gF (ai aR (ai (pv 2) (ai (pv 0) (aX (pv 1))))))⟩)))),?_⟩;refine⟨_,rfl,a.f,dx,_,rfl,ho,a8 (by decide+kernel),_,rfl,a,ps,ts,L,pk,R,N,rs,cs,i,t,xs,rfl,F,kz,hl,wa,hc,fun cl H1 nC s1 aat=> ?_⟩;refine⟨cl,_,rfl,aat,?_⟩;refine xP (fun k=>gp R S (os.getD k none)) (fun k=> .tuple [.str "room",wD R (some i),.int k,wD R (os.getD k none)]) (zB (bw.of aat)) (aY hx6 (by decide)) ?_ fun p H2 ys hp s2 hy hd jG=> ?_
 ·rintro k x H' C1 C0 hk sm ⟨tt,y,rfl,hT,hy⟩ c1 c0
  have s1' :=s1.trans sm;have GX:=(hv k y hy).kt (a9 s1');refine⟨tt,_,rfl,gg.of hT,rfl,_,_,rfl,_,_,rfl,rfl,((eM.refl _).own (by decide)).own (by decide),_,rfl,_,rfl,y,l,R,S,_,rfl,GX,s1' _ _ hS,_,rfl,?_⟩
  cases eo:os.getD k none with
  |none=>
   rw[eo] at c0;exact cQ (c0 rfl H' (ax.refl H'))
  |some j=>
   rw[eo] at c1 c0 GX
   cases hb:gp R S (some j) with
   |false=>exact cQ (c0 hb H' (ax.refl H'))
   |true=>
    refine eN ⟨_,rfl,_,rfl,_,rfl,WD,fun t2 Jd=> ?_⟩;have s3:=ax.upd (o:= .tup [V.str "room",.ref t,.int (k:Int),y]) Jd;exact c1 hb _ _ s3 (.tup ae (.cons (.str _) (.cons ((iI (s1' _ _ wa.e)).kt (a9 s3)) (.cons (.int _) (.cons (GX.td.kt (a9 s3)) .nil)))))
 ·refine q p ys H2 (s1.free hp) (s1.trans s2) hy ?_ (aY jG hx6);rw[←ZA] at hd;exact hd
end
structure bS(H:Hp)(R:Rm)(d:Addr)(kv:bQ)(ns:aJ)(oh:av):Prop where
 ob:H d=some (.dK kv)
 ln:kv.length=ns.length
 lo:oh.length=ns.length
 at_:∀(j:Nat) k v,kv[j]? =some (k,v)→k= .inr (ns.getD j "")∧dJ (ns.getD j "")=true∧dI H R v (oh.getD j none)
theorem bS.kept{H H' :Hp}{R:Rm}{d:Addr}{kv:bQ}{ns:aJ}{oh:av}(h:bS H R d kv ns oh)(hd:H' d=some (.dK kv))(kt:∀c xs,H c=some (.tup xs)→H' c=some (.tup xs)):bS H' R d kv ns oh:=
 ⟨hd,h.ln,h.lo,fun j k v e=>⟨(h.at_ j k v e).1,(h.at_ j k v e).2.1,(h.at_ j k v e).2.2.kt kt⟩⟩
theorem bS.same{H H' :Hp}{R:Rm}{d:Addr}{kv:bQ}{ns:aJ}{oh:av}(h:bS H R d kv ns oh)(s:ax H H'):bS H' R d kv ns oh:=h.kept (s _ _ h.ob) (a9 s)
noncomputable def zR(R:Rm)(S:List Nat)(ns:aJ)(oh:av):List PyData:=((List.range ns.length).filter fun j=>gp R S (oh.getD j none)).map fun j:Nat=> .tuple [.str "hand",.str (ns.getD j ""),wD R (oh.getD j none)]
noncomputable def qF(R:Rm)(S:List Nat)(oS:Nat→av)(I:List Nat):List PyData:=I.flatMap fun i=>F0 R S (wD R (some i)) (oS i)
noncomputable def FZ(ts:av)(R:Rm)(S:List Nat)(ns:aJ)(oh:av)(oS:Nat→av):List PyData:=zR R S ns oh++qF R S oS (((aw ts).filter fun n=> !decide (n∈S)).flatMap (bg R))
noncomputable def e_(H:Hp)(R:Rm)(cs:cO)(oS:Nat→av):Prop:=∀(i:Nat) xs,cs[i]? =some xs→xs.length≤6∧(oS i).length=xs.length∧∀(k:Nat) v,xs[k]? =some v→dI H R v ((oS i).getD k none)
theorem e_.kt{H H' :Hp}{R:Rm}{cs:cO}{oS:Nat→av}(h:e_ H R cs oS)(kt:∀c xs,H c=some (.tup xs)→H' c=some (.tup xs)):e_ H' R cs oS:=
 fun i xs e=>⟨(h i xs e).1,(h i xs e).2.1,fun k v e' =>((h i xs e).2.2 k v e').kt kt⟩
section
variable{P:Program}{w:World}{K:Frag}{mg:Str→aQ}{base:Heap}{A:qa}
noncomputable def EJ(C:Addr):Sp:=fun vs H Q _=>∃a ps ts L pk R N rs cs d kv ns oh,vs=[.ref a.f,.ref d]∧aV C H a ps ts L pk R N rs cs∧(∀r∈R,1≤r.2)∧¬d∈a.own∧bS H R d kv ns oh∧ns.length≤1000∧∀H',ax H H'→Q (.bl true) H'
theorem Cj(T:Txt K mg A):bC P w K mg base eC 6 A.wq A.vO ["house","thing"] (EJ A.ak):=by
 refine T.wH.F.fV BH ?_
 rintro c_ Ar outer s H vs Q E hr ⟨a,ps,ts,L,pk,R,N,rs,cs,d,kv,ns,oh,rfl,F,kz,nd,hd,hn,q⟩
 have hu:=dy hr;refine⟨_,(ah (bW (eB (dQ (lN dE T.df Boot.«isinstance» (ai (pv 1) (aX (iQ (v:= .ty "dict") rfl T.yH Boot.«dict» rfl)))))) (ao (aK gR)) bc) (ao (aK (lN (DU rfl) T.Rg Boot.«all» (aX (FU (Bk ["name","value","house"] 2 [0] (Dk (l9 h9 lO qJ oB (pv 1))) (fun _ _ _ _ _=>⟨(xM (K:=K) (n:=2) rfl rfl (eS (iO 0 (show(["name","value","house"]:aJ).Nodup by decide+kernel)) (eS (iO 1 (show(["name","value","house"]:aJ).Nodup by decide+kernel)) pD)) rfl rfl),qM,(iF (dO (FC T) hr T.Bi aE (aX (pv 0))) (iC (nu (pv 2) T.aG T.h8 (j7 T) hr aE (aX (pv 1)))))⟩)))))))),?_⟩;refine⟨_,rfl,_,_,_,_,rfl,.dK hd.ob,rfl,_,rfl,?_⟩;refine⟨_,rfl,.inr (.inr (.inl ⟨rfl,.inl ⟨_,hd.ob⟩⟩)),d,kv,rfl,rfl,hd.ob,fun v hv=> ?_⟩;have s1:=ax.upd (o:=gO v d) hv;refine⟨v,d,kv,rfl,ae,s1 _ _ hd.ob,fun o nf=> ?_⟩;have F1:=F.same s1;have C_:=hd.same s1;generalize upd H v (gO v d)=H1 at s1 F1 C_;have wX:upd H1 d (.eX o (.dK kv)) d=some (.eX o (.dK kv)):=ae
 have F2:aV A.ak (upd H1 d (.eX o (.dK kv))) a ps ts L pk R N rs cs:=F1.kept fun c oo hc e=>by
  rw[af (show c≠d from fun z=>nd (z▸hc))];exact e
 have VG:∀c xs,H1 c=some (.tup xs)→upd H1 d (.eX o (.dK kv)) c=some (.tup xs):=fun c xs e=>by
  rw[af (aD e C_.ob (by intro z;cases z))];exact e
 refine hU (fun _=>true) (fun _=>V.bl true) (vX wX) (ck (bz (by rw[hd.ln];lia))) ?_ fun p H2 hp s2 hl=> ?_
 ·rintro i x H' C1 C0 hi sm ⟨tt,k,y,rfl,hT,hy⟩ c1 c0
  obtain⟨rfl,Y9,Vr⟩:=C_.at_ i k y hy;have F' :=F2.same sm;obtain⟨R8,C5⟩:=F'.ob;refine⟨tt,_,rfl,gg.of hT,rfl,_,_,rfl,_,_,rfl,rfl,((eM.refl _).own (by decide)).own (by decide),@eN _ (C0 H') ?_⟩;refine⟨_,rfl,ns.getD i "",rfl,Y9,fun H3 s3=>⟨_,rfl,eN ?_⟩⟩;obtain⟨dx3,ho3⟩:=(F'.same s3).ob;exact⟨_,rfl,a.f,dx3,_,rfl,ho3,a8 (by decide+kernel),_,rfl,a,ps,ts,L,pk,R,N,rs,cs,y,rfl,F'.same s3,kz,((Vr.kt VG).kt (a9 (sm.trans s3))).at,fun H4 s4=>c1 rfl H4 (s3.trans s4)⟩
 ·refine⟨d,o,kv,s2 _ _ wX,nf,?_⟩;have pd:p≠d:=fun z=>by rw[z,wX] at hp;cases hp
  refine⟨p,List.replicate kv.length true,rfl,?_,?_⟩
  ·rw[af pd,hl,jH.mpr (fun _ _=>rfl)]
   congr 2
   rw[List.map_replicate];apply pS;intro i;rw[aW,uA];by_cases hi:i<kv.length
   ·rw[jw hi,aC hi];rfl
   ·rw[gB (by rw[fz];lia),au hi];rfl
  ·rw[show(List.replicate kv.length true).all id=true by rw[i7];intro b hb;rw[List.eq_of_mem_replicate hb];rfl];refine q _ fun c oo e=> ?_;by_cases z:c=d
   ·subst z;rw[ae,←hd.ob];exact e
   ·rw[af z];refine s2 _ _ ?_;rw[af z];exact s1 _ _ e
noncomputable def Du(C:Addr):Sp:=fun vs H Q _=>∃a ps ts L pk R N rs cs d kv ns oh,∃t:Nat,vs=[.ref a.f,.int t,.ref d]∧aV C H a ps ts L pk R N rs cs∧(∀r∈R,1≤r.2)∧¬d∈a.own∧bS H R d kv ns oh∧ns.length≤1000∧ps.length=ts.length∧di ts (t:Int)=true∧t≠0∧∀H',ax H H'→Q .bK H'
theorem AE(T:Txt K mg A):bC P w K mg base eC 7 A.sO A.sH ["house","frame","hands"] (Du A.ak):=by
 refine T.sE.F.fV Ao ?_
 rintro c_ Ar outer s H vs Q E hr ⟨a,ps,ts,L,pk,R,N,rs,cs,d,kv,ns,oh,t,rfl,F,kz,nd,hd,hn,hl,fC,h0,q⟩
 obtain⟨dx,ho⟩:=F.ob;refine⟨_,(ah (bB (nu (pv 0) T.aG T.dY (fL T) hr aE (aX (pv 1)))) (ao (bW (eB (dQ (dO (Cj T) hr T.wH aE (ai (pv 0) (aX (pv 2)))))) (ao eP) bc))),?_⟩;refine⟨_,rfl,a.f,dx,_,rfl,ho,a8 (by decide+kernel),_,rfl,a.f,a.pa,a.ta,ps,ts,t,rfl,F.fr,hl,fC,h0,?_⟩;exact⟨_,rfl,_,rfl,a,ps,ts,L,pk,R,N,rs,cs,d,kv,ns,oh,rfl,F,kz,nd,hd,hn,fun H1 s1=>⟨_,rfl,q H1 s1⟩⟩
noncomputable def LB(C:Addr):Sp:=fun vs H Q _=>∃a ps ts L pk R N rs cs d kv ns oh oS,∃t:Nat,vs=[.ref a.f,.int t,.ref d]∧aV C H a ps ts L pk R N rs cs∧(∀r∈R,1≤r.2)∧cs.length=R.length∧¬d∈a.own∧bS H R d kv ns oh∧ns.length≤1000∧WF ps ts∧di ts (t:Int)=true∧t≠0∧R.length≤1000∧e_ H R cs oS∧
 ∀l ys H',H l=none→ax H H'→H' l=some (.lst ys)→bp H' ys (FZ ts R (bt ps ts t) ns oh oS)→ys.length≤700000→Q (.ref l) H'
theorem Fm(T:Txt K mg A):bC P w K mg base eC 9 A.AQ A.BD ["house","frame","hands"] (LB A.ak):=by
 refine T.Bo.F.fV i8 ?_
 rintro c_ Ar outer s H vs Q E hr ⟨a,ps,ts,L,pk,R,N,rs,cs,d,kv,ns,oh,oS,t,rfl,F,kz,nC,nd,hd,hn,W,fC,h0,hR,hC,q⟩
 have hl:=W.len;have aa0:=W.le;have YF:(3:Nat)≤sizeLine:=by decide
 refine⟨_,(ah (bB (dO (AE T) hr T.sE aE (ai (pv 0) (ai (pv 1) (aX (pv 2)))))) (ah (fG 3 i8.nd (nu (pv 0) T.aG T.ig (jq T) hr aE (aX (pv 1)))) (ah (Gj (Na 4 i8.nd ["name","value","part"] 2 [3] (Dk (l9 h9 lO qJ oB (pv 2))) (fun _ _ _ _ _=>⟨(xM (K:=K) (n:=2) rfl rfl (eS (iO 0 (show(["name","value","part"]:aJ).Nodup by decide+kernel)) (eS (iO 1 (show(["name","value","part"]:aJ).Nodup by decide+kernel)) pD)) rfl rfl),(Ca (dQ (dO (vP T) hr T.q0 aE (ai (pv 1) (aX (pv 2)))))),(gF (ai aR (ai (pv 0) (aX (pv 1)))))⟩))) (ah (A2 (cK (wI (pv 0) T.aG T.dD (eK T) hr aE)) (iO 5 i8.nd) (ao (bW (xL BV (pv 5) (pv 3)) (ao (A2 (cK (nu (pv 0) T.aG T.ku (o8 T) hr aE (aX (pv 5)))) (iO 6 i8.nd) (ao (bB (gu fc xi type_list_extend vz (pv 4) (aX (dO (vD T) hr T.qG aE (ai (pv 0) (ai (pv 6) (aX (pv 3))))))))))) bc))) (ao (aK (pv 4))))))),?_⟩;refine⟨_,rfl,_,rfl,_,rfl,a,ps,ts,L,pk,R,N,rs,cs,d,kv,ns,oh,t,rfl,F,kz,nd,hd,hn,hl,fC,h0,fun H1 s1=> ?_⟩;have F1:=F.same s1;obtain⟨JU,Fj⟩:=F1.ob;refine⟨_,rfl,a.f,JU,_,rfl,Fj,a8 (by decide+kernel),_,rfl,a.f,a.pa,a.ta,ps,ts,t,rfl,F1.fr,W,fun pl H2 ma s2 DE=> ?_⟩;have Kq:=s1.trans s2;have F2:=F.same Kq;have hd2:=hd.same Kq;refine⟨_,rfl,.inr (.inr (.inl ⟨rfl,.inl ⟨_,hd2.ob⟩⟩)),d,kv,rfl,rfl,hd2.ob,fun v hv=> ?_⟩;have s3:=ax.upd (o:=gO v d) hv;refine⟨v,d,kv,rfl,ae,s3 _ _ hd2.ob,fun o nf=> ?_⟩;have Mv:=hd2.same s3;have VD:=s3 _ _ DE;have GD:=Kq.trans s3;generalize upd H2 v (gO v d)=H3 at s3 Mv VD GD;have wX:upd H3 d (.eX o (.dK kv)) d=some (.eX o (.dK kv)):=ae
 have kt3:∀c xs,H3 c=some (.tup xs)→upd H3 d (.eX o (.dK kv)) c=some (.tup xs):=fun c xs e=>by
  rw[af (aD e Mv.ob (by intro z;cases z))];exact e
 have TM :upd H3 d (.eX o (.dK kv)) pl=some (.lst ((bt ps ts t).map nV)):=by
  rw[af (aD VD Mv.ob (by intro z;cases z))];exact VD
 refine xP (fun j=>gp R (bt ps ts t) (oh.getD j none)) (fun j=> .tuple [.str "hand",.str (ns.getD j ""),wD R (oh.getD j none)]) (vX wX) (ck (bz (by rw[hd.ln];lia))) ?_ fun ll H4 ys Ac s4 hy IS jG=> ?_
 ·rintro j x H' C1 C0 hj sm ⟨tt,k,y,rfl,hT,hy⟩ c1 c0
  obtain⟨rfl,Y9,Vr⟩:=Mv.at_ j k y hy;have GX:=(Vr.kt kt3).kt (a9 sm);refine⟨tt,_,rfl,gg.of hT,rfl,_,_,rfl,_,_,rfl,rfl,((eM.refl _).own (by decide)).own (by decide),_,rfl,_,rfl,y,pl,R,bt ps ts t,_,rfl,GX,sm _ _ TM,_,rfl,?_⟩
  cases eo:oh.getD j none with
  |none=>
   rw[eo] at c0;exact cQ (c0 rfl H' (ax.refl H'))
  |some i=>
   rw[eo] at c1 c0 GX
   cases hb:gp R (bt ps ts t) (some i) with
   |false=>exact cQ (c0 hb H' (ax.refl H'))
   |true=>
    refine eN ⟨_,rfl,_,rfl,YF,fun t2 Jd=> ?_⟩;have s5:=ax.upd (o:= .tup [V.str "hand",.str (ns.getD j ""),y]) Jd;exact c1 hb _ _ s5 (.tup ae (.cons (.str _) (.cons (.str _) (.cons (GX.td.kt (a9 s5)) .nil))))
 ·refine⟨d,o,kv,s4 _ _ wX,nf,?_⟩
  have CI:H ll=none:=by
   cases z:H ll with
   |none=>rfl
   |some oo=>
    by_cases zd:ll=d
    ·rw[zd,wX] at Ac;cases Ac
    ·rw[af zd,GD _ _ z] at Ac;cases Ac
  have lld:ll≠d:=fun z=>by rw[z,wX] at Ac;cases Ac
  have sX:ax H (upd H4 d (.dK kv)):=fun c oo e=>by
   by_cases z:c=d
   ·subst z;rw[ae,←hd.ob];exact e
   ·rw[af z];refine s4 _ _ ?_;rw[af z];exact GD _ _ e
  have UZ:upd H4 d (.dK kv) ll=some (.lst ys):=by rw[af lld];exact hy
  have pX:upd H4 d (.dK kv) pl=some (.lst ((bt ps ts t).map nV)):=by
   rw[af (aD VD Mv.ob (by intro z;cases z))];exact s4 _ _ TM
  have dX:=IS.kt (H' :=upd H4 d (.dK kv)) fun c xs e=>by
   rw[af (aD e (s4 _ _ wX) (by intro z;cases z))];exact e
  rw[hd.ln] at dX jG;generalize upd H4 d (.dK kv)=H5 at sX UZ pX dX;have F5:=F.same sX;obtain⟨WM,Mm⟩:=F5.ob
  have AI:∀c∈a.own,c≠ll:=fun c hc z=>by
   obtain⟨oo,e⟩:=F.al c hc;rw[z,CI] at e;cases e
  refine⟨_,rfl,a.f,WM,_,rfl,Mm,a8 (by decide+kernel),a.f,a.pa,a.ta,ps,ts,rfl,F5.fr,by lia,fun sl H6 nz s6 MD=> ?_⟩;refine⟨sl,rfl,⟨_,bw.of MD⟩,?_⟩;have MX:=sX.trans s6;have back:∀{H' :Hp},(∀c o,c≠ll→H6 c=some o→H' c=some o)→aV A.ak H' a ps ts L pk R N rs cs:=fun k=>F.kept fun c o hc e=>k c o (AI c hc) (MX _ _ e);have T3:∀{H' :Hp},(∀c o,c≠ll→H6 c=some o→H' c=some o)→∀c xs,H c=some (.tup xs)→H' c=some (.tup xs):=fun k c xs e=>k c _ (aq e CI) (MX _ _ e);have TC:sl≠ll:=(aq UZ nz).symm
  have Wq:pl≠ll:=fun z=>by
   subst z;rw[TM] at Ac;cases Ac
  have stl:=fJ ts;refine dG (K:=K) (a:=sl) (xs:=(aw ts).map nV) (fun i σ H' =>∃(x5 x6:Option V) (ys:aA),σ=[some (.ref a.f),some (.int t),some (.ref d),some (.ref pl),some (.ref ll),x5,x6]∧H' ll=some (.lst ys)∧bp H' ys (zR R (bt ps ts t) ns oh++qF R (bt ps ts t) oS ((((aw ts).take i).filter fun n=> !decide (n∈bt ps ts t)).flatMap (bg R)))∧ys.length≤1000+6000*i∧∀c o,c≠ll→H6 c=some o→H' c=some o) ⟨_,_,ys,rfl,s6 _ _ UZ,?_,by lia,fun _ _ _ e=>e⟩ ?_ ?_ ?_
  ·rw[pL];show bp H6 ys (zR R (bt ps ts t) ns oh++[]);rw[dA];exact dX.kt (a9 s6)
  ·rintro i σ H' _ ⟨x5,x6,ys,_,_,_,_,k⟩
   exact bw.of (k _ _ TC MD)
  ·rintro i v σ H7 hv ⟨x5,x6,ys,rfl,HH,ID,hl7,k7⟩
   rw[aW] at hv
   cases en:(aw ts)[i]? with
   |none=>rw[en] at hv;cases hv
   |some n=>
    rw[en] at hv;cases hv;have xj:i<(aw ts).length:=(aS.mp en).1;have C9:ts[n]? =some none:=eq_of_beq (cm.mp (ba en));have Q4:(aw ts).take (i+1)=(aw ts).take i++[n]:=by rw[ju,en];rfl
    refine⟨_,rfl,_,rfl,pl,_,rfl,.inl (bw.of (k7 _ _ Wq (s6 _ _ pX))),rfl,l5 _,_,rfl,?_⟩;show if(!HY (nV n) ((bt ps ts t).map nV))=true then _ else _
    rw[za]
    cases Xx:decide (n∈bt ps ts t) with
    |true=>
     refine cQ ⟨_,_,ys,rfl,HH,?_,by lia,k7⟩;rw[Q4,g9,fE,Xx];simp only[Bool.not_true,eJ,cI,rD,dA];exact ID
    |false=>
     refine eN ?_;have F7:=back k7;obtain⟨dx7,ho7⟩:=F7.ob;refine⟨_,rfl,a.f,dx7,_,rfl,ho7,a8 (by decide+kernel),_,rfl,a,ps,ts,L,pk,R,N,rs,cs,n,rfl,F7,hl,C9,hR,fun rl zs H8 yU s8 Wy Tw agT=> ?_⟩;refine⟨rl,rfl,⟨_,bw.of Wy⟩,?_⟩;have ahf:rl≠ll:=(aq HH yU).symm;have idl:=i4 R n;refine dG (K:=K) (a:=rl) (xs:=zs) (fun j σ H' =>∃(x6:Option V) (ys:aA),σ=[some (.ref a.f),some (.int t),some (.ref d),some (.ref pl),some (.ref ll),some (nV n),x6]∧H' ll=some (.lst ys)∧bp H' ys (zR R (bt ps ts t) ns oh++qF R (bt ps ts t) oS (((((aw ts).take i).filter fun n=> !decide (n∈bt ps ts t)).flatMap (bg R))++(bg R n).take j))∧ys.length≤1000+6000*i+6*j∧∀c o,c≠ll→H8 c=some o→H' c=some o) ⟨_,ys,rfl,s8 _ _ HH,?_,by lia,fun _ _ _ e=>e⟩ ?_ ?_ ?_
     ·rw[pL,dA];exact ID.kt (a9 s8)
     ·rintro j σ H' _ ⟨x6,ys,_,_,_,_,k⟩
      exact bw.of (k _ _ ahf Wy)
     ·rintro j v σ H9 hv ⟨x6,ys,rfl,Y8,hd9,QA,k9⟩
      obtain⟨wt,rfl,IZ⟩:=agT j v hv
      have kU:j<(bg R n).length:=by
       rw[←Tw];exact(aS.mp hv).1
      have ei:=cU 0 kU;generalize hii:(bg R n).getD j 0=ii at ei IZ;have Yy:=ba ei;have hif:=gU Yy;have k69:∀c o,c≠ll→H6 c=some o→H9 c=some o:=fun c o h e=>k9 c o h (s8 _ _ (k7 c o h e));have F9:=back k69;obtain⟨r1,r2,xs,hcs,r4⟩:=F9.room (eO Yy);obtain⟨c6,U9,Nr⟩:=(hC.kt (T3 k69)) ii xs hcs
      have hw9:H9 wt=some (.tup (mh (R.getD ii (0,0)).1 (br R ii))):=by
       rw[hif];exact k9 _ _ (aD IZ (s8 _ _ HH) (by intro z;cases z)) IZ
      have etj:(bg R n).take (j+1)=(bg R n).take j++[ii]:=by rw[ju,ei];rfl
      refine⟨_,rfl,.inl ⟨rfl,_,bw.of Y8⟩,_,rfl,_,rfl,_,rfl,a,ps,ts,L,pk,R,N,rs,cs,ii,wt,xs,pl,bt ps ts t,oS ii,rfl,F9,kz,hl,⟨eO Yy,by rw[hif];exact C9,hw9⟩,hcs,c6,U9,Nr,k69 _ _ Wq (s6 _ _ pX),fun l2 us qP u_ C4 aiW hud hul=>⟨ll,l2,_,_,rfl,rfl,C4 _ _ Y8,aiW,?_,?_⟩⟩
      ·have hL:sizeLine=16777216:=by decide
       lia
      ·refine⟨_,_,rfl,ae,?_,by rw[bj];lia,fun c o h e=>by rw[af h];exact C4 _ _ (k9 c o h e)⟩;rw[etj,←fB];unfold qF;rw[lY,←fB]
       have D2:∀c xs,qP c=some (.tup xs)→upd qP ll (.lst (ys++us)) c=some (.tup xs):=fun c xs e=>by
        rw[af (aD e (C4 _ _ Y8) (by intro z;cases z))];exact e
       refine((hd9.kt (a9 C4)).kt D2).append ?_;rw[tK];exact hud.kt D2
     ·rintro σ H9 ⟨x6,ys,rfl,Y8,hd9,QA,k9⟩
      refine⟨_,_,ys,rfl,Y8,?_,by lia,fun c o h e=>k9 c o h (s8 _ _ (k7 c o h e))⟩;rw[Q4,g9,fE,Xx];simp only[Bool.not_false,eL,rD];rw[lY,tK];rw[Tw,iK] at hd9;exact hd9
  ·rintro σ H7 ⟨x5,x6,ys,rfl,HH,ID,hl7,k7⟩
   rw[aN] at ID hl7;rw[iK] at ID;exact⟨_,rfl,q ll ys H7 CI (fun c o e=>k7 c o (aq e CI) (MX _ _ e)) HH ID (by lia)⟩
end
noncomputable abbrev kL:ww:=Sum.inr "limit"
noncomputable abbrev kA:ww:=Sum.inr "around"
noncomputable abbrev kB:ww:=Sum.inr "by"
noncomputable abbrev kR:ww:=Sum.inr "rooms"
noncomputable abbrev kG:ww:=Sum.inr "given"
noncomputable abbrev kC:ww:=Sum.inr "cells"
noncomputable abbrev kN:ww:=Sum.inr "gone"
noncomputable abbrev kP:ww:=Sum.inr "top"
set_option genInjectivity false in
set_option genSizeOf false in
structure MW where
 d:Addr
 ar:Addr
 bl:Addr
 rl:Addr
 gv:Addr
 ca:Addr
 gn:Addr
 nA:aH
 own:aH
noncomputable def Gh(m:MW)(L top:Nat):bQ:=[(kL,.int L),(kA,.ref m.ar),(kB,.ref m.bl),(kR,.ref m.rl),(kG,.ref m.gv),(kC,.ref m.ca),(kN,.ref m.gn),(kP,.int top)]
noncomputable abbrev qZ(t p:Nat):List ww:=[.inl (t:Int),.inl (p:Int)]
noncomputable def jp(ws:aH)(I:List Nat):aA:=I.map fun i=>V.ref (ws.getD i 0)
noncomputable def b_(ts:av)(R:Rm):List Nat:=(List.range R.length).filter fun i=>ts[(R.getD i (0,0)).1]? ==some none
noncomputable def ze(ts:av)(R:Rm)(ms:aH):dw:=(b_ ts R).map fun i=>(qZ (R.getD i (0,0)).1 (br R i),V.ref (ms.getD i 0))
noncomputable def MW.ls(m:MW)(ms:aH):aH:=m.ar::m.bl::m.rl::m.gv::m.gn::(m.nA++ms)
structure aF(H:Hp)(m:MW)(ps ts:av)(L top:Nat)(R:Rm)(ws ms:aH)(cs:cO)(G:List Nat):Prop where
 ob:H m.d=some (.dK (Gh m L top))
 hl:H m.ar=some (.lst (ps.map oV))
 tl:H m.bl=some (.lst (ts.map oV))
 rl:H m.rl=some (.lst (m.nA.map V.ref))
 Nm:m.nA.length=ps.length
 rm:∀(n:Nat) b,m.nA[n]? =some b→H b=some (.lst (jp ws (bg R n)))
 gv:H m.gv=some (.lst ((List.range ps.length).map fun n=>V.int (bU R n:Nat)))
 ca:H m.ca=some (.dT (ze ts R ms))
 gn:H m.gn=some (.lst (jp ws G))
 gI:∀i∈G,i<R.length
 gl:(b_ ts R).length+G.length≤R.length
 wW:ws.length=R.length
 way:∀i,i<R.length→ws.getD i 0∈m.own∧H (ws.getD i 0)=some (.tup (mh (R.getD i (0,0)).1 (br R i)))
 ml:ms.length=R.length
 mm:∀i,i∈b_ ts R→∃vs,cs[i]? =some vs∧H (ms.getD i 0)=some (.lst vs)
 nd:(m.ls ms).Nodup
 sub:∀c∈m.d::m.ca::m.ls ms,c∈m.own
 al:∀c∈m.own,∃o,H c=some o
section
variable{H H' :Hp}{m:MW}{ps ts:av}{L top:Nat}{R:Rm}{ws ms:aH}{cs:cO}{G:List Nat}
theorem cE{i:Nat}(h:i∈b_ ts R):i<R.length:=dg.mp (cA.mp h).1
theorem lX{i:Nat}(h:i∈b_ ts R):ts[(R.getD i (0,0)).1]? =some none:=eq_of_beq (cA.mp h).2
theorem Ed(ts:av)(R:Rm):(b_ ts R).length≤R.length:=by
 unfold b_;refine aY (jh _ _) ?_;rw[fz];exact az _
theorem fk{i:Nat}(hi:i<R.length)(h:ts[(R.getD i (0,0)).1]? =some none):i∈b_ ts R:=cA.mpr ⟨dg.mpr hi,by rw[h];rfl⟩
theorem Eu(ts:av)(R:Rm):(b_ ts R).Nodup:=pK _ Cs
theorem MW.Ju(m:MW):m.ar∈m.ls ms:=bJ
theorem MW.Dd(m:MW):m.bl∈m.ls ms:=a_ _ bJ
theorem MW.KP(m:MW):m.rl∈m.ls ms:=a_ _ (a_ _ bJ)
theorem MW.F8(m:MW):m.gv∈m.ls ms:=a_ _ (a_ _ (a_ _ bJ))
theorem MW.Dq(m:MW):m.gn∈m.ls ms:=a_ _ (a_ _ (a_ _ (a_ _ bJ)))
theorem MW.E3(m:MW){b:Addr}(h:b∈m.nA):b∈m.ls ms:=a_ _ (a_ _ (a_ _ (a_ _ (a_ _ (Ct _ h)))))
theorem MW.FV(m:MW){b:Addr}(h:b∈ms):b∈m.ls ms:=a_ _ (a_ _ (a_ _ (a_ _ (a_ _ (hV _ h)))))
theorem aF.ne(W:aF H m ps ts L top R ws ms cs G){i j:Nat}{b c:Addr}(hb:(m.ls ms)[i]? =some b)(hc:(m.ls ms)[j]? =some c)(h:i≠j):b≠c:=fun e=>by
 subst e;exact h ((xq (aS.mp hb).1 W.nd).mp (hb.trans hc.symm))
theorem MW.g0(m:MW):(m.ls ms)[0]? =some m.ar:=rfl
theorem MW.g1(m:MW):(m.ls ms)[1]? =some m.bl:=rfl
theorem MW.g2(m:MW):(m.ls ms)[2]? =some m.rl:=rfl
theorem MW.g3(m:MW):(m.ls ms)[3]? =some m.gv:=rfl
theorem MW.g4(m:MW):(m.ls ms)[4]? =some m.gn:=rfl
theorem MW.gr(m:MW){n:Nat}{b:Addr}(h:m.nA[n]? =some b):(m.ls ms)[5+n]? =some b:=by
 have e:(m.ls ms)[5+n]? =(m.nA++ms)[n]? :=by rw[Nat.add_comm];rfl
 rw[e,bV (aS.mp h).1];exact h
theorem MW.gm(m:MW){i:Nat}{b:Addr}(h:ms[i]? =some b):(m.ls ms)[5+m.nA.length+i]? =some b:=by
 have e:(m.ls ms)[5+m.nA.length+i]? =(m.nA++ms)[m.nA.length+i]? :=by rw[show 5+m.nA.length+i=(m.nA.length+i)+5 by lia];rfl
 rw[e,cF (by lia),show m.nA.length+i - m.nA.length=i by lia];exact h
theorem aF.kept(W:aF H m ps ts L top R ws ms cs G)(k:∀c o,c∈m.own→H c=some o→H' c=some o):aF H' m ps ts L top R ws ms cs G:=by
 have ok:∀{c:Addr} {o:HO},c∈m.ls ms→H c=some o→H' c=some o:=fun h e=>k _ _ (W.sub _ (a_ _ (a_ _ h))) e;refine⟨k _ _ (W.sub _ bJ) W.ob,ok m.Ju W.hl,ok m.Dd W.tl,ok m.KP W.rl,W.Nm,fun n b e=>ok (m.E3 (ba e)) (W.rm n b e),ok m.F8 W.gv,k _ _ (W.sub _ (a_ _ bJ)) W.ca,ok m.Dq W.gn,W.gI,W.gl,W.wW,fun i hi=>⟨(W.way i hi).1,k _ _ (W.way i hi).1 (W.way i hi).2⟩,W.ml,fun i hi=> ?_,W.nd,W.sub,fun c hc=>(W.al c hc).imp fun o e=>k c o hc e⟩;obtain⟨vs,h1,h2⟩:=W.mm i hi;refine⟨vs,h1,ok (m.FV ?_) h2⟩;exact ba (cU 0 (by rw[W.ml];exact cE hi))
theorem aF.same(W:aF H m ps ts L top R ws ms cs G)(s:ax H H'):aF H' m ps ts L top R ws ms cs G:=W.kept fun c o _ e=>s c o e
theorem aF.get(W:aF H m ps ts L top R ws ms cs G){k:ww}{v:V}(h:bR (Gh m L top) k=some v):dq H m.d (kV k) (some v):=by
 have:=dq.k (k:=k) W.ob;rw[h] at this;exact this
theorem aF.Of(W:aF H m ps ts L top R ws ms cs G):dq H m.d (.str "around") (some (.ref m.ar)):=W.get (k:=kA) (by kernel_rfl)
theorem aF.NA(W:aF H m ps ts L top R ws ms cs G):dq H m.d (.str "by") (some (.ref m.bl)):=W.get (k:=kB) (by kernel_rfl)
theorem aF.WZ(W:aF H m ps ts L top R ws ms cs G):dq H m.d (.str "rooms") (some (.ref m.rl)):=W.get (k:=kR) (by kernel_rfl)
theorem aF.Vh(W:aF H m ps ts L top R ws ms cs G):dq H m.d (.str "given") (some (.ref m.gv)):=W.get (k:=kG) (by kernel_rfl)
theorem aF.BQ(W:aF H m ps ts L top R ws ms cs G):dq H m.d (.str "cells") (some (.ref m.ca)):=W.get (k:=kC) (by kernel_rfl)
theorem aF.U8(W:aF H m ps ts L top R ws ms cs G):dq H m.d (.str "gone") (some (.ref m.gn)):=W.get (k:=kN) (by kernel_rfl)
theorem aF.Xe(W:aF H m ps ts L top R ws ms cs G):dq H m.d (.str "top") (some (.int top)):=W.get (k:=kP) (by kernel_rfl)
theorem aF.getL(W:aF H m ps ts L top R ws ms cs G):dq H m.d (.str "limit") (some (.int L)):=W.get (k:=kL) (by kernel_rfl)
theorem aF.room(W:aF H m ps ts L top R ws ms cs G){n:Nat}(hn:n<ps.length):∃b,m.nA[n]? =some b∧H b=some (.lst (jp ws (bg R n))):=by
 have hl:n<m.nA.length:=by rw[W.Nm];exact hn
 have e:m.nA[n]? =some m.nA[n]:=by simp[hl]
 exact⟨_,e,W.rm n _ e⟩
end
section
variable{P:Program}{w:World}{K:Frag}{mg:Str→aQ}{base:Heap}{A:qa}
noncomputable def DN:Sp:=fun vs H Q _=>∃m ps ts L top R ws ms cs G,vs=[.ref m.d]∧aF H m ps ts L top R ws ms cs G∧ts.length≤1000∧∀l H',H l=none→ax H H'→H' l=some (.lst ((aw ts).map nV))→Q (.ref l) H'
theorem dm(T:Txt K mg A):bC P w K mg base eC 1 A.mR A.mY ["_law_world_here"] DN:=by
 refine T.cX.F.fV vj ?_
 rintro c_ Ar outer s H vs Q E hr ⟨m,ps,ts,L,top,R,ws,ms,cs,G,rfl,W,hle,k⟩
 have hu:=dy hr;refine⟨_,(ao (aK (Bk ["_law_frame","_law_world_here"] 1 [0] (eT rfl T.ib (aX (lN bA T.gx Boot.«len» (aX (gY hu (pv 0) aR))))) (fun _ _ _ _ _=>⟨(iO 0 (show(["_law_frame","_law_world_here"]:aJ).Nodup by decide+kernel)),(Ca (xL uT (de (sY (K:=K) rfl) (gY hu (pv 1) aR) (pv 0)) dh)),(pv 0)⟩)))),?_⟩;refine⟨_,rfl,m.d,_,rfl,W.NA,m.bl,_,rfl,.inl (bw.of W.tl),?_⟩;rw[aN];refine⟨_,rfl,by lia,by lia,?_⟩;rw[cT];have Lx:((List.range ts.length).map fun k:Nat=>V.int (0+(k:Int))).length=ts.length:=by rw[aN,fz]
 refine hU (fun i=>ts[i]? ==some none) nV (vH 0 ts.length H).g ?_ ?_ fun p H' hp sm hl=>k p H' hp sm ?_
 ·rw[Lx];exact ck (bz (by lia))
 ·intro i x H' C1 C0 hi sm hx c1 c0;rw[Lx] at hi;rw[aW,jw hi] at hx
  obtain rfl:x= .int (i:Int):=by
   have hx:some (V.int (0+(i:Int)))=some x:=hx;rw[Int.zero_add] at hx;cases hx;rfl
  have W' :=W.same sm;have Ve:ts[i]? =some ts[i]:=by simp[hi]
  rw[Ve] at c1 c0;refine⟨(eM.refl _).own (by decide),_,rfl,m.d,_,rfl,W'.NA,_,rfl,m.bl,_,_,_,rfl,rfl,bw.of W'.tl,nQ Ve,rfl,_,rfl,?_⟩
  cases eo:ts[i] with
  |none=>
   rw[eo] at c1;exact eN ⟨_,rfl,c1 rfl H' (ax.refl H')⟩
  |some n=>
   rw[eo] at c0;exact cQ (c0 rfl H' (ax.refl H'))
 ·rw[Lx] at hl;exact hl
noncomputable def Et:Sp:=fun vs H Q _=>∃m ps ts L top R ws ms cs G,vs=[.ref m.d]∧aF H m ps ts L top R ws ms cs G∧ps.length=ts.length∧ts.length≤1000∧R.length≤1000∧∀l H',H l=none→ax H H'→H' l=some (.lst (jp ws ((aw ts).flatMap (bg R))))→Q (.ref l) H'
theorem fg(T:Txt K mg A):bC P w K mg base eC 2 A.kX A.lG ["_law_world_here"] Et:=by
 refine T.dU.F.fV gT ?_
 rintro c_ Ar outer s H vs Q E hr ⟨m,ps,ts,L,top,R,ws,ms,cs,G,rfl,W,PJ,hle,hR,q⟩
 have hu:=dy hr;refine⟨_,(ah (fG 1 gT.nd (bY gA)) (ah (A2 (cK (dO (dm T) hr T.cX aE (aX (pv 0)))) (iO 2 gT.nd) (ao (bB (gu fc xi type_list_extend vz (pv 1) (aX (de a7 (gY hu (pv 0) aR) (pv 2))))))) (ao (aK (pv 1))))),?_⟩;refine⟨(show 0≤sizeLine by decide),fun fl xQ=> ?_⟩;have s1:=ax.upd (o:= .lst []) xQ;have e1:upd H fl (.lst []) fl=some (.lst []):=ae;generalize upd H fl (.lst [])=H1 at s1 e1
 have AI:∀c∈m.own,c≠fl:=fun c hc z=>by
  obtain⟨oo,e⟩:=W.al c hc;rw[z,xQ] at e;cases e
 refine⟨_,rfl,m,ps,ts,L,top,R,ws,ms,cs,G,rfl,W.same s1,hle,fun sl H2 nz s2 FT=> ?_⟩;refine⟨sl,rfl,⟨_,bw.of FT⟩,?_⟩;have stl:=fJ ts;have slf:sl≠fl:=(aq e1 nz).symm;refine dG (K:=K) (a:=sl) (xs:=(aw ts).map nV) (fun i σ H' =>∃(x2:Option V),σ=[some (.ref m.d),some (.ref fl),x2]∧H' fl=some (.lst (jp ws (((aw ts).take i).flatMap (bg R))))∧(((aw ts).take i).flatMap (bg R)).length≤1000*i∧∀c o,c≠fl→H2 c=some o→H' c=some o) ⟨_,rfl,s2 _ _ e1,cB _,fun _ _ _ e=>e⟩ ?_ ?_ ?_
 ·rintro i σ H' _ ⟨x2,_,_,_,k⟩
  exact bw.of (k _ _ slf FT)
 ·rintro i v σ H3 hv ⟨x2,rfl,Ov,hl3,k3⟩
  rw[aW] at hv
  cases en:(aw ts)[i]? with
  |none=>rw[en] at hv;cases hv
  |some n=>
   rw[en] at hv;cases hv;have xj:i<(aw ts).length:=(aS.mp en).1;have C9:ts[n]? =some none:=eq_of_beq (cm.mp (ba en));have AU:=(aS.mp C9).1;have Q4:(aw ts).take (i+1)=(aw ts).take i++[n]:=by rw[ju,en];rfl
   have W3:aF H3 m ps ts L top R ws ms cs G:=W.kept fun c o hc e=>k3 c o (AI c hc) (s2 _ _ (s1 _ _ e));obtain⟨b,hb,Bm⟩:=W3.room (n:=n) (by lia);have idl:=i4 R n;refine⟨_,rfl,.inl ⟨rfl,_,bw.of Ov⟩,_,rfl,m.d,_,rfl,W3.WZ,_,rfl,m.rl,_,n,.ref b,rfl,rfl,bw.of W3.rl,b9 (by rw[aW,hb];rfl),fl,b,_,_,rfl,rfl,Ov,Bm,?_,?_⟩
   ·have hL:sizeLine=16777216:=by decide
    unfold jp;rw[aN,aN]
    lia
   ·have ea:jp ws (((aw ts).take i).flatMap (bg R))++jp ws (bg R n)=jp ws (((aw ts).take (i+1)).flatMap (bg R)):=by
     unfold jp;rw[Q4,lY,tK,cg]
    rw[ea];refine⟨_,rfl,ae,?_,fun c o h e=>by rw[af h];exact k3 c o h e⟩;rw[Q4,lY,tK,bj]
    lia
 ·rintro σ H3 ⟨x2,rfl,Ov,hl3,k3⟩
  rw[aN,iK] at Ov;exact⟨_,rfl,q fl H3 xQ (fun c o e=>k3 c o (aq e xQ) (s2 _ _ (s1 _ _ e))) Ov⟩
end
theorem Hr(S:List Nat):(S.map fun n=>((n:Nat):Int)).sum=((S.sum:Nat):Int):=by
 induction S with
 |nil=>rfl
 |cons a S ih=>
  simp only[cy,jQ,ih]
  lia
theorem LK(ts:av)(R:Rm):(b_ ts R).map (fun i=>(R.getD i (0,0)).2)=(R.filter fun r=>ts[r.1]? ==some none).map (·.2):=qt R (0,0) (fun r=>ts[r.1]? ==some none) (fun r=>r.2)
theorem Dx{R:Rm}{n:Nat}(h:∀r∈R,r.1<n):bg R n=[]:=by
 unfold bg;refine xn.mpr fun i hi z=> ?_;have:=h _ (Wp (dg.mp hi));have:(R.getD i (0,0)).1=n:=by simpa using z
 lia
theorem L8{R:Rm}{n:Nat}(h:∀r∈R,r.1<n):bU R n=0:=by
 rw[←Og,Dx h];rfl
theorem rb{ts:av}{R:Rm}(h:∀r∈R,r.1<ts.length):b_ (ts++[none]) R=b_ ts R:=by
 unfold b_;refine lP fun i hi=> ?_;rw[bV (h _ (Wp (dg.mp hi)))]
theorem GY{H:Hp}{m:MW}{L top:Nat}{k:ww}{v:V}(ob:H m.d=some (.dK (Gh m L top)))(h:bR (Gh m L top) k=some v):dq H m.d (kV k) (some v):=by
 have:=dq.k (k:=k) ob;rw[h] at this;exact this
section
variable{P:Program}{w:World}{K:Frag}{mg:Str→aQ}{base:Heap}{A:qa}
noncomputable def UO:Sp:=fun vs H Q _=>∃m ps ts L top R ws ms cs G,∃t:Nat,vs=[.ref m.d,.int t]∧aF H m ps ts L top R ws ms cs G∧WF ps ts∧t<ps.length∧∀l H',H l=none→ax H H'→H' l=some (.lst ((ix ps t).map nV))→Q (.ref l) H'
theorem vY(T:Txt K mg A):bC P w K mg base eC 1 A.yQ A.zH ["_law_world_here","_law_frame"] UO:=by
 refine T.qE.F.fV wy ?_
 rintro c_ Ar outer s H vs Q E hr ⟨m,ps,ts,L,top,R,ws,ms,cs,G,t,rfl,M,W,dS,k⟩
 have hu:=dy hr;refine⟨_,(ah (fG 2 wy.nd (bY (aX (pv 1)))) (ah (sI ue (xL tU (de a7 (gY hu (pv 0) aR) (de a7 (pv 2) (gC eD aj))) dh) (ao (bB (gu fc PySem.F.slot_list_append PySem.F.type_list_append cJ (pv 2) (aX (de a7 (gY hu (pv 0) aR) (de a7 (pv 2) (gC eD aj)))))))) (ao (aK (D1 (pv 2) (gC eD aj)))))),?_⟩;refine⟨_,rfl,(show 1≤sizeLine by decide),fun l FN=> ?_⟩
 have P2:(DS ps t).length≤101:=by
  have:=EA ps t t;have:=W.le;show(C2 ps t t).length≤101
  lia
 have AI:∀c∈m.own,c≠l:=fun c hc z=>by
  obtain⟨oo,e⟩:=M.al c hc;rw[z,FN] at e;cases e
 refine⟨fun mm σ H' =>∃(c:Nat) (acc:List Nat) (o:Option Nat),σ=[some (.ref m.d),some (.int t),some (.ref l)]∧H' l=some (.lst (acc.map nV++[nV c]))∧(∀d o,d≠l→H d=some o→H' d=some o)∧ps[c]? =some o∧(acc++[c])++S8 ps o=DS ps t∧mm=c,⟨t,t,[],ps[t],rfl,ae,fun d o h e=>by rw[af h];exact e,by simp[dS],?_,rfl⟩,?_⟩
 ·exact(BM W (by simp[dS])).symm
 ·rintro mm σ H' ⟨c,acc,o,rfl,hl,k1,hc,hup,rfl⟩
  have M' :aF H' m ps ts L top R ws ms cs G:=M.kept fun d o hd e=>k1 d o (AI d hd) e;refine⟨_,rfl,m.d,_,rfl,M'.Of,_,rfl,1,rfl,l,_, -1,_,rfl,rfl,bw.of hl,c7 _ _,m.ar,_,_,_,rfl,rfl,bw.of M'.hl,nQ hc,rfl,_,rfl,?_⟩
  cases o with
  |none=>
   refine⟨_,rfl,1,rfl,_,rfl,l,_,rfl,rfl,bw.of hl,fun l2 u_=> ?_⟩;have sm:ax H H' :=fun d o e=>k1 d o (aq e FN) e;have s2:=ax.upd (o:= .lst (acc.map nV++[nV mm]).reverse) u_;refine k l2 _ (sm.free u_) (sm.trans s2) ?_;have e:acc++[mm]=DS ps t:=by simpa[S8] using hup
   rw[ae,show acc.map nV++[nV mm]=(acc++[mm]).map nV by rw[cg];rfl,e,←xZ];rfl
  |some j=>
   have hjm:j<mm∧j<ps.length:=by
    have V5:mm<ps.length:=(aS.mp hc).1
    cases mm with
    |zero=>rw[W.root] at hc;cases hc
    |succ g=>
     obtain⟨i',e',C6⟩:=W.par (g+1) (by lia) V5;rw[e'] at hc;cases hc;exact⟨C6,by lia⟩
   have hxj:ps[j]? =some ps[j]:=by simp[hjm.2]
   have YC:(acc++[mm])++DS ps j=DS ps t:=hup
   have DT:(acc++[mm]).length≤101:=by
    have:=congrArg List.length YC;rw[bj] at this
    lia
   rw[bj] at DT;have DT:acc.length+1≤101:=DT;refine⟨fun c9 H' =>∃m',m' <mm∧∃(c:Nat) (acc:List Nat) (o:Option Nat),c9 =[some (.ref m.d),some (.int t),some (.ref l)]∧H' l=some (.lst (acc.map nV++[nV c]))∧(∀d o,d≠l→H d=some o→H' d=some o)∧ps[c]? =some o∧(acc++[c])++S8 ps o=DS ps t∧m' =c,fun c9 H' h=>h,?_⟩;refine⟨_,rfl,.inl ⟨rfl,_,bw.of hl⟩,_,rfl,m.d,_,rfl,M'.Of,_,rfl,1,rfl,l,_, -1,_,rfl,rfl,bw.of hl,c7 _ _,m.ar,_,_,_,rfl,rfl,bw.of M'.hl,nQ hc,l,_,_,rfl,rfl,hl,?_,?_⟩
   ·rw[bj,aN];show acc.length+1<sizeLine;have hL:sizeLine=16777216:=by decide
    lia
   ·refine⟨j,hjm.1,j,acc++[mm],ps[j],rfl,?_,fun d o h e=>by rw[af h];exact k1 d o h e,hxj,?_,rfl⟩
    ·rw[ae,cg];rfl
    ·rw[←YC,BM W hxj];simp
noncomputable def Pl:Sp:=fun vs H Q _=>∃m ps ts L top R ws ms cs G,vs=[.ref m.d]∧aF H m ps ts L top R ws ms cs G∧(∀(i:Nat) (vs:aA),cs[i]? =some vs→vs.length=(R.getD i (0,0)).2)∧R.length≤1100∧(∀r∈R,r.2≤6)∧∀H',ax H H'→Q (.int (cu ts R:Nat)) H'
theorem l_(T:Txt K mg A):bC P w K mg base eC 1 A.vS A.wc ["_law_world_here"] Pl:=by
 refine T.jT.F.fV BU ?_
 rintro c_ Ar outer s H vs Q E hr ⟨m,ps,ts,L,top,R,ws,ms,cs,G,rfl,W,cz,hR,hr6,q⟩
 have hu:=dy hr;refine⟨_,(ao (aK (lN (D6 rfl) T.P8 Boot.«sum» (aX (L1 (Bk ["_law_cells"] 1 [] (E7 (l9 h9 slot_dict_values PySem.F.type_dict_values EV (gY hu (pv 0) aR))) (fun _ _ _ _ _=>⟨(iO 0 (show(["_law_cells"]:aJ).Nodup by decide+kernel)),qM,(lN (Ap (K:=K) rfl) T.gx Boot.«len» (aX (pv 0)))⟩))))))),?_⟩;refine⟨_,rfl,m.d,_,rfl,W.BQ,.inr (.inr (.inl ⟨rfl,.inr ⟨_,W.ca⟩⟩)),m.ca,_,rfl,rfl,W.ca,fun v hv=> ?_⟩;have s1:=ax.upd (o:=Iz v m.ca) hv;refine⟨v,m.ca,_,rfl,ae,s1 _ _ W.ca,fun o nf=> ?_⟩;have W1:=W.same s1;generalize upd H v (Iz v m.ca)=H1 at s1 W1;have wX:upd H1 m.ca (.eX o (.dT (ze ts R ms))) m.ca=some (.eX o (.dT (ze ts R ms))):=ae;have nC:(ze ts R ms).length=(b_ ts R).length:=aN ..;have hhl:=Ed ts R;refine hU (fun _=>true) (fun j=>V.int ((R.getD ((b_ ts R).getD j 0) (0,0)).2:Nat)) (AA wX) (ck (bz (by lia))) ?_ fun p H2 hp s2 hl=> ?_
 ·rintro j x H' C1 C0 hj sm ⟨k,hk⟩ c1 c0
  unfold ze at hk;rw[aW] at hk
  cases ei:(b_ ts R)[j]? with
  |none=>rw[ei] at hk;cases hk
  |some i=>
   rw[ei] at hk;cases hk;have ed:(b_ ts R).getD j 0=i:=by rw[bD,ei];rfl
   obtain⟨vs,h1,h2⟩:=W1.mm i (ba ei);have h3:=sm _ _ (show upd H1 m.ca (.eX o (.dT (ze ts R ms))) (ms.getD i 0)=some (.lst vs) by rw[af (aD h2 W1.ca (by intro z;cases z))];exact h2);rw[ed] at c1;refine⟨(eM.refl _).own (by decide),@eN _ (C0 H') ⟨_,rfl,_,_,rfl,.inl (bw.of h3),?_⟩⟩;rw[cz i vs h1];exact c1 rfl H' (ax.refl H')
 ·refine⟨m.ca,o,_,s2 _ _ wX,nf,?_⟩;have pd:p≠m.ca:=fun z=>by rw[z,wX] at hp;cases hp
  have el:((List.range (ze ts R ms).length).filter fun _=>true).map (fun j=>V.int ((R.getD ((b_ ts R).getD j 0) (0,0)).2:Nat))=(((R.filter fun r=>ts[r.1]? ==some none).map (·.2)).map fun n=>((n:Nat):Int)).map V.int:=by
   rw[jH.mpr (fun _ _=>rfl),nC,←LK,gE,gE]
   conv=>rhs;rw[wd (b_ ts R) 0]
   rw[gE];rfl
  rw[el] at hl;refine⟨p,_,rfl,(by rw[af pd];exact hl),?_,?_,?_⟩
  ·rw[aN,aN];exact aY (jh _ _) (by lia)
  ·intro n hn;obtain⟨x,hx,rfl⟩:=bM.mp hn;obtain⟨r,hr,rfl⟩:=bM.mp hx;have:=hr6 r (cA.mp hr).1
   lia
  ·rw[Hr];refine q _ fun c oo e=> ?_;by_cases z:c=m.ca
   ·subst z;rw[ae,←W.ca];exact e
   ·rw[af z];refine s2 _ _ ?_;rw[af z];exact s1 _ _ e
noncomputable def GU(H:Hp)(m:MW)(m' :MW)(H' :Hp):Prop:=m'.d=m.d∧(∀c∈m'.own,c∈m.own∨H c=none)∧(∀c o,¬c∈m.own→H c=some o→H' c=some o)∧(∀c xs,H c=some (.tup xs)→H' c=some (.tup xs))
theorem Im{b:Addr}{l l2 l3:aH}(h:(l++(l2++l3)).Nodup)(hb:¬b∈l++(l2++l3)):(l++((l2++[b])++l3)).Nodup:=by
 have p:(l++((l2++[b])++l3)).Perm (b::(l++(l2++l3))):=by
  rw[fB,List.singleton_append,←fB,←fB];exact List.perm_middle
 exact p.nodup_iff.mpr (fq.mpr ⟨hb,h⟩)
noncomputable def Jz:Sp:=fun vs H Q _=>∃m ps ts L top R ws ms cs G,∃t:Nat,vs=[.ref m.d,.int t]∧aF H m ps ts L top R ws ms cs G∧ps.length=ts.length∧ps.length≤100∧(∀r∈R,r.1<ps.length)∧
 ∀m' H',aF H' m' (ps++[some t]) (ts++[none]) L top R ws ms cs G→GU H m m' H'→Q (.int (ps.length:Nat)) H'
theorem Am(T:Txt K mg A):bC P w K mg base eC 1 A.r9 A.uo ["_law_world_here","_law_frame"] Jz:=by
 refine T.sR.F.fV AJ ?_
 rintro c_ Ar outer s H vs Q E hr ⟨m,ps,ts,L,top,R,ws,ms,cs,G,t,rfl,W,PJ,aaA,hRf,q⟩
 have hu:=dy hr;have hL:sizeLine=16777216:=by decide
 refine⟨_,(ah (bB (gu fc PySem.F.slot_list_append PySem.F.type_list_append cJ (gY hu (pv 0) aR) (aX (pv 1)))) (ah (bB (gu fc PySem.F.slot_list_append PySem.F.type_list_append cJ (gY hu (pv 0) aR) (aX dh))) (ah (bB (gu fc PySem.F.slot_list_append PySem.F.type_list_append cJ (gY hu (pv 0) aR) (aX (bY gA)))) (ah (bB (gu fc PySem.F.slot_list_append PySem.F.type_list_append cJ (gY hu (pv 0) aR) (aX aj))) (ao (aK (bG lT (lN bA T.gx Boot.«len» (aX (gY hu (pv 0) aR))) aj))))))),?_⟩;refine⟨_,rfl,m.d,_,rfl,W.Of,.inl ⟨rfl,_,bw.of W.hl⟩,_,rfl,m.ar,_,_,rfl,rfl,W.hl,by rw[aN];lia,?_⟩;have n01:=W.ne m.g0 m.g1 (by decide);have n02:=W.ne m.g0 m.g2 (by decide);have n03:=W.ne m.g0 m.g3 (by decide);have n12:=W.ne m.g1 m.g2 (by decide);have n13:=W.ne m.g1 m.g3 (by decide);have n23:=W.ne m.g2 m.g3 (by decide);have dn:∀{c:Addr} {xs:aA},H c=some (.lst xs)→m.d≠c:=fun e=>aD W.ob e (by intro z;cases z);have ob1:upd H m.ar (.lst (ps.map oV++[V.int t])) m.d=some (.dK (Gh m L top)):=by rw[af (dn W.hl)];exact W.ob
 have tl1:upd H m.ar (.lst (ps.map oV++[V.int t])) m.bl=some (.lst (ts.map oV)):=by rw[af n01.symm];exact W.tl
 refine⟨_,rfl,m.d,_,rfl,GY (k:=kB) (v:= .ref m.bl) ob1 (by kernel_rfl),.inl ⟨rfl,_,bw.of tl1⟩,m.bl,_,_,rfl,rfl,tl1,by rw[aN];lia,?_⟩
 have at2:∀c o,c≠m.ar→c≠m.bl→H c=some o→upd (upd H m.ar (.lst (ps.map oV++[V.int t]))) m.bl (.lst (ts.map oV++[V.bK])) c=some o:=fun c o h1 h2 e=>by
  rw[af h2,af h1];exact e
 have a2:upd (upd H m.ar (.lst (ps.map oV++[V.int t]))) m.bl (.lst (ts.map oV++[V.bK])) m.ar=some (.lst (ps.map oV++[V.int t])):=by rw[af n01,ae]
 have b2:upd (upd H m.ar (.lst (ps.map oV++[V.int t]))) m.bl (.lst (ts.map oV++[V.bK])) m.bl=some (.lst (ts.map oV++[V.bK])):=ae
 have rg:∀c,upd (upd H m.ar (.lst (ps.map oV++[V.int t]))) m.bl (.lst (ts.map oV++[V.bK])) c=none→H c=none:=fun c e=>by
  cases z:H c with
  |none=>rfl
  |some o=>
   by_cases z1:c=m.ar
   ·rw[z1,a2] at e;cases e
   ·by_cases z2:c=m.bl
    ·rw[z2,b2] at e;cases e
    ·rw[at2 c o z1 z2 z] at e;cases e
 generalize upd (upd H m.ar (.lst (ps.map oV++[V.int t]))) m.bl (.lst (ts.map oV++[V.bK]))=H2 at at2 a2 b2 rg;have WB:=at2 _ _ (dn W.hl) (dn W.tl) W.ob;have rl2:=at2 _ _ n02.symm n12.symm W.rl;refine⟨_,rfl,m.d,_,rfl,GY (k:=kR) (v:= .ref m.rl) WB (by kernel_rfl),.inl ⟨rfl,_,bw.of rl2⟩,(show 0≤sizeLine by decide),fun b hb=> ?_⟩;have s3:=ax.upd (o:= .lst []) hb;have b3:upd H2 b (.lst []) b=some (.lst []):=ae;have hbH:=rg b hb;generalize upd H2 b (.lst [])=H3 at s3 b3;refine⟨m.rl,_,_,rfl,rfl,s3 _ _ rl2,by rw[aN,W.Nm];lia,?_⟩;have ail:b≠m.rl:=(aq W.rl hbH).symm;have SW:∀c o,c≠m.rl→H3 c=some o→upd H3 m.rl (.lst (m.nA.map V.ref++[V.ref b])) c=some o:=fun c o h e=>by rw[af h];exact e
 have r4:upd H3 m.rl (.lst (m.nA.map V.ref++[V.ref b])) m.rl=some (.lst (m.nA.map V.ref++[V.ref b])):=ae;generalize upd H3 m.rl (.lst (m.nA.map V.ref++[V.ref b]))=H4 at SW r4;have gv4:=SW _ _ n23.symm (s3 _ _ (at2 _ _ n03.symm n13.symm W.gv));have ob4:=SW _ _ (dn W.rl) (s3 _ _ WB);refine⟨_,rfl,m.d,_,rfl,GY (k:=kG) (v:= .ref m.gv) ob4 (by kernel_rfl),.inl ⟨rfl,_,bw.of gv4⟩,m.gv,_,_,rfl,rfl,gv4,by rw[aN,fz];lia,?_⟩;have NN:∀c o,c≠m.gv→H4 c=some o→upd H4 m.gv (.lst (((List.range ps.length).map fun n=>V.int (bU R n:Nat))++[V.int 0])) c=some o:=fun c o h e=>by rw[af h];exact e
 have g5:upd H4 m.gv (.lst (((List.range ps.length).map fun n=>V.int (bU R n:Nat))++[V.int 0])) m.gv=some (.lst (((List.range ps.length).map fun n=>V.int (bU R n:Nat))++[V.int 0])):=ae;generalize upd H4 m.gv (.lst (((List.range ps.length).map fun n=>V.int (bU R n:Nat))++[V.int 0]))=H5 at NN g5;have all:∀c o,c≠m.ar→c≠m.bl→c≠m.rl→c≠m.gv→H c=some o→H5 c=some o:=fun c o h1 h2 h3 h4 e=>NN _ _ h4 (SW _ _ h3 (s3 _ _ (at2 c o h1 h2 e)));have bl5:=NN _ _ n13 (SW _ _ n12 (s3 _ _ b2));have ob5:=NN _ _ (dn W.gv) ob4;refine⟨_,rfl,m.d,_,rfl,GY (k:=kB) (v:= .ref m.bl) ob5 (by kernel_rfl),m.bl,_,rfl,.inl (bw.of bl5),_,1,rfl,rfl,?_⟩
 have er:V.int (((ts.map oV++[V.bK]).length:Int) - 1)=V.int ((ps.length:Nat):Int):=by
  rw[bj,aN]
  congr 1
  show((ts.length+1:Nat):Int) - 1=_
  lia
 show Q (V.int (((ts.map oV++[V.bK]).length:Int) - 1)) H5;rw[er]
 have nbl:¬b∈m.ls ms:=fun z=>by
  obtain⟨o,e⟩:=W.al b (W.sub _ (a_ _ (a_ _ z)));rw[hbH] at e;cases e
 have inl:∀{c:Addr},c∈m.ls ms→c∈m.own:=fun h=>W.sub _ (a_ _ (a_ _ h));have kp:∀c o,¬c∈m.own→H c=some o→H5 c=some o:=fun c o h e=>all c o (fun z=>h (z▸inl m.Ju)) (fun z=>h (z▸inl m.Dd)) (fun z=>h (z▸inl m.KP)) (fun z=>h (z▸inl m.F8)) e;have kt:∀c xs,H c=some (.tup xs)→H5 c=some (.tup xs):=fun c xs e=>all c _ (aD e W.hl (by intro z;cases z)) (aD e W.tl (by intro z;cases z)) (aD e W.rl (by intro z;cases z)) (aD e W.gv (by intro z;cases z)) e;have aha:b≠m.gv:=(aq W.gv hbH).symm;have b5:=NN _ _ aha (SW _ _ ail b3);have V2:∀r∈R,r.1<ts.length:=fun r hr=>by have:=hRf r hr;lia
 refine q {m with nA:=m.nA++[b],own:=b::m.own} H5 ⟨ob5,?_,?_,?_,?_,fun n c e=> ?_,?_,?_,?_,W.gI,?_,W.wW,fun i hi=>⟨a_ _ (W.way i hi).1,kt _ _ (W.way i hi).2⟩,W.ml,fun i hi=> ?_,?_,fun c hc=> ?_,fun c hc=> ?_⟩ ⟨rfl,fun c hc=> ?_,kp,kt⟩
 ·rw[cg];exact NN _ _ n03 (SW _ _ n02 (s3 _ _ a2))
 ·rw[cg];exact bl5
 ·show H5 m.rl=some (.lst ((m.nA++[b]).map V.ref));rw[cg];exact NN _ _ n23 r4
 ·rw[bj,bj,W.Nm];rfl
 ·have e:(m.nA++[b])[n]? =some c:=e;by_cases hn:n<m.nA.length
  ·rw[bV hn] at e;have w:∀{j:Nat} {c' :Addr},(m.ls ms)[j]? =some c'→5+n≠j→c≠c' :=fun h h' =>W.ne (m.gr e) h h';exact all c _ (w m.g0 (by lia)) (w m.g1 (by lia)) (w m.g2 (by lia)) (w m.g3 (by lia)) (W.rm n c e)
  ·rw[cF (by lia)] at e
   have hn0:n - m.nA.length=0:=by
    have:=(aS.mp e).1;simp at this
    lia
   rw[hn0] at e;cases e;have:n=ps.length:=by rw[←W.Nm];lia
   subst this;rw[Dx hRf];exact b5
 ·rw[g5,bj];show some (HO.lst _)=some (HO.lst ((List.range (ps.length+1)).map _));rw[pG,cg];show _=some (HO.lst (_++[V.int (bU R ps.length:Nat)]));rw[L8 hRf];rfl
 ·show H5 m.ca=some (.dT (ze (ts++[none]) R ms));unfold ze;rw[rb V2];exact all _ _ (aD W.ca W.hl (by intro z;cases z)) (aD W.ca W.tl (by intro z;cases z)) (aD W.ca W.rl (by intro z;cases z)) (aD W.ca W.gv (by intro z;cases z)) W.ca
 ·exact all _ _ (W.ne m.g4 m.g0 (by decide)) (W.ne m.g4 m.g1 (by decide)) (W.ne m.g4 m.g2 (by decide)) (W.ne m.g4 m.g3 (by decide)) W.gn
 ·rw[rb V2];exact W.gl
 ·rw[rb V2] at hi;obtain⟨vs,h1,h2⟩:=W.mm i hi;have w:∀{j:Nat} {c' :Addr},(m.ls ms)[j]? =some c'→5+m.nA.length+i≠j→ms.getD i 0≠c' :=fun h h' =>W.ne (m.gm (cU 0 (show i<ms.length by rw[W.ml];exact cE hi))) h h';exact⟨vs,h1,all _ _ (w m.g0 (by lia)) (w m.g1 (by lia)) (w m.g2 (by lia)) (w m.g3 (by lia)) h2⟩
 ·exact Im (l:=[m.ar,m.bl,m.rl,m.gv,m.gn]) W.nd nbl
 ·have hc:c∈m.d::m.ca::m.ar::m.bl::m.rl::m.gv::m.gn::((m.nA++[b])++ms):=hc;have e:∀{x:Addr},x∈m.d::m.ca::m.ls ms→x∈b::m.own:=fun h=>a_ _ (W.sub _ h);simp only[bq,cj,cR,cV] at hc;rcases hc with rfl|rfl|rfl|rfl|rfl|rfl|rfl|(h|rfl)|h
  ·exact e bJ
  ·exact e (a_ _ bJ)
  ·exact a_ _ (inl m.Ju)
  ·exact a_ _ (inl m.Dd)
  ·exact a_ _ (inl m.KP)
  ·exact a_ _ (inl m.F8)
  ·exact a_ _ (inl m.Dq)
  ·exact a_ _ (inl (m.E3 h))
  ·exact bJ
  ·exact a_ _ (inl (m.FV h))
 ·have hc:c∈b::m.own:=hc;rcases bq.mp hc with rfl|hc
  ·exact⟨_,b5⟩
  ·obtain⟨o,e⟩:=W.al c hc;by_cases z1:c=m.ar
   ·exact⟨_,z1▸NN _ _ n03 (SW _ _ n02 (s3 _ _ a2))⟩
   ·by_cases z2:c=m.bl
    ·exact⟨_,z2▸bl5⟩
    ·by_cases z3:c=m.rl
     ·exact⟨_,z3▸NN _ _ n23 r4⟩
     ·by_cases z4:c=m.gv
      ·exact⟨_,z4▸g5⟩
      ·exact⟨_,all c o z1 z2 z3 z4 e⟩
 ·have hc:c∈b::m.own:=hc;rcases bq.mp hc with rfl|hc
  ·exact .inr hbH
  ·exact .inl hc
end
theorem vk{ws:aH}{wt:Addr}{I:List Nat}(h:∀i∈I,i<ws.length):jp (ws++[wt]) I=jp ws I:=by
 unfold jp;refine xo fun i hi=> ?_;rw[dv (h i hi)]
theorem uV{ts:av}(R:Rm){t n:Nat}(h:ts[t]? =some none):b_ ts (R++[(t,n)])=b_ ts R++[R.length]:=by
 unfold b_;rw[bj];show(List.range (R.length+1)).filter _=_;rw[pG,g9]
 congr 1
 ·refine lP fun i hi=> ?_;rw[dv (dg.mp hi)]
 ·rw[fE,wp,h];rfl
theorem MZ{ts:av}{R:Rm}{ms:aH}(hm:ms.length=R.length){t n:Nat}{r:Addr}(h:ts[t]? =some none):ze ts (R++[(t,n)]) (ms++[r])=ze ts R ms++[(qZ t (bU R t),V.ref r)]:=by
 unfold ze;rw[uV R h,cg]
 congr 1
 ·refine xo fun i hi=> ?_;have hi:=cE hi;rw[dv hi,eU hi,dv (by rw[hm];exact hi)]
 ·show[(qZ ((R++[(t,n)]).getD R.length (0,0)).1 (br (R++[(t,n)]) R.length),V.ref ((ms++[r]).getD R.length 0))]=_;rw[wp,iq,←hm,wp]
theorem uu{t p t' p' :Nat}(h:qZ t p=qZ t' p'):t=t'∧p=p' :=by
 have h1:=List.cons.inj h;have h2:(t:Int)=t' :=Sum.inl.inj h1.1;have h3:(p:Int)=p' :=Sum.inl.inj (List.cons.inj h1.2).1
 lia
theorem Kk{kv:dw}{k:List ww}{v:V}(h:bR kv k=some v):(k,v)∈kv:=by
 unfold bR at h
 cases e:kv.find? fun kv=>decide (kv.1=k) with
 |none=>rw[e] at h;cases h
 |some p=>
  rw[e] at h;cases h;have h1:=List.mem_of_find?_eq_some e;have h2:=List.find?_some e;have h2:p.1=k:=by simpa using h2
  rw[←h2];exact h1
theorem Tr{ts:av}{R:Rm}(hr:∀r∈R,1≤r.2)(ms:aH)(t:Nat):bR (ze ts R ms) (qZ t (bU R t))=none:=by
 cases e:bR (ze ts R ms) (qZ t (bU R t)) with
 |none=>rfl
 |some v=>
  obtain⟨i,hi,e1⟩:=bM.mp (Kk e);obtain⟨h1,h2⟩:=uu (congrArg Prod.fst e1);have hx:i∈bg R t:=by rw[←h1];exact gD (cE hi)
  have:=jaf hr hx
  lia
theorem Yh(m:MW)(L top x:Nat):wv (Gh m L top) kP (.int x)=Gh m L x:=by kernel_rfl
theorem aF.top{H:Hp}{m:MW}{ps ts:av}{L top:Nat}{R:Rm}{ws ms:aH}{cs:cO}{G:List Nat}(W:aF H m ps ts L top R ws ms cs G)(x:Nat):aF (upd H m.d (.dK (Gh m L x))) m ps ts L x R ws ms cs G:=by
 have nl:∀{c:Addr} {xs:aA},H c=some (.lst xs)→upd H m.d (.dK (Gh m L x)) c=some (.lst xs):=fun e=>by
  rw[af (aD e W.ob (by intro z;cases z))];exact e
 refine⟨ae,nl W.hl,nl W.tl,nl W.rl,W.Nm,fun n b e=>nl (W.rm n b e),nl W.gv,?_,nl W.gn,W.gI,W.gl,W.wW,fun i hi=>⟨(W.way i hi).1,?_⟩,W.ml,fun i hi=> ?_,W.nd,W.sub,fun c hc=> ?_⟩
 ·rw[af (aD W.ca W.ob (by intro z;cases z))];exact W.ca
 ·rw[af (aD (W.way i hi).2 W.ob (by intro z;cases z))];exact(W.way i hi).2
 ·obtain⟨vs,h1,h2⟩:=W.mm i hi;exact⟨vs,h1,nl h2⟩
 ·by_cases z:c=m.d
  ·exact⟨_,lL z⟩
  ·rw[af z];exact W.al c hc
theorem Vj{R:Rm}{k t n:Nat}(h:t<k):((List.range k).map fun x=>V.int (bU R x:Nat)).set t (V.int ((bU R t+n:Nat):Int))=(List.range k).map fun x=>V.int (bU (R++[(t,n)]) x:Nat):=by
 apply pS;intro i;rw[BR,aW,aN,fz];by_cases hi:i<k
 ·rw[jw hi,aW,jw hi];by_cases z:t=i
  ·subst z;rw[aC rfl,aC h];show some (V.int ((bU R t+n:Nat):Int))=some (V.int ((bU (R++[(t,n)]) t:Nat):Int));rw[u0];simp
  ·rw[au z];show some (V.int ((bU R i:Nat):Int))=some (V.int ((bU (R++[(t,n)]) i:Nat):Int));rw[u0];simp[z]
 ·rw[aW,gB (by rw[fz];lia)]
  split
  ·lia
  ·rfl
section
variable{P:Program}{w:World}{K:Frag}{mg:Str→aQ}{base:Heap}{A:qa}
noncomputable def Kb:Sp:=fun vs H Q _=>∃m ps ts L top R ws ms cs G,∃t n:Nat,vs=[.ref m.d,.int t,.int n]∧aF H m ps ts L top R ws ms cs G∧ps.length=ts.length∧ps.length≤101∧R.length≤1000∧cs.length=R.length∧(∀(i:Nat) (vs:aA),cs[i]? =some vs→vs.length=(R.getD i (0,0)).2)∧(∀r∈R,1≤r.2∧r.2≤6)∧ts[t]? =some none∧1≤n∧n≤6∧
 ∀m' wt r H',aF H' m' ps ts L (max top (cu ts R+n)) (R++[(t,n)]) (ws++[wt]) (ms++[r]) (cs++[List.replicate n .bK]) G→GU H m m' H'→(∀c∈m.own,c∈m'.own)→H' wt=some (.tup (mh t (bU R t)))→Q (.ref wt) H'
theorem qj(T:Txt K mg A):bC P w K mg base eC 2 A.uy A.tI ["_law_world_here","_law_frame","_law_size"] Kb:=by
 refine T.my.F.fV qz ?_
 rintro c_ Ar outer s H vs Q E hr ⟨m,ps,ts,L,top,R,ws,ms,cs,G,t,n,rfl,W,PJ,aa0,hR,nC,cz,hr6,mP,n1,n6,q⟩
 have hu:=dy hr;have hL:sizeLine=16777216:=by decide
 have Mu:t<ps.length:=by
  have:=(aS.mp mP).1
  lia
 refine⟨_,(ah (fG 3 qz.nd (gF (ai (pv 1) (aX (de a7 (gY hu (pv 0) aR) (pv 1)))))) (ah (oT (bG fF (de a7 (gY hu (pv 0) aR) (pv 1)) (pv 2)) (n0 (gY hu (pv 0) aR) (pv 1) wT)) (ah (bB (gu fc PySem.F.slot_list_append PySem.F.type_list_append cJ (de a7 (gY hu (pv 0) aR) (pv 1)) (aX (pv 3)))) (ah (lW hu (gY hu (pv 0) aR) (pv 3) (bG LF (bY (aX dh)) (pv 2)) rfl) (ah (lW hu (pv 0) aR (lN (pB rfl) T.GV Boot.«max» (ai (gY hu (pv 0) aR) (aX (dO (l_ T) hr T.jT aE (aX (pv 0)))))) rfl) (ao (aK (pv 3)))))))),?_⟩;have Sf:IL ((List.range ps.length).map fun x=>V.int (bU R x:Nat)) (t:Int)=some (.int (bU R t:Nat)):=b9 (by rw[aW,jw Mu];rfl);refine⟨_,rfl,_,rfl,m.d,_,rfl,W.Vh,_,rfl,m.gv,_,_,_,rfl,rfl,bw.of W.gv,Sf,(show 2≤sizeLine by decide),fun wt IZ=> ?_⟩;have s1:=ax.upd (o:= .tup [V.int t,V.int (bU R t:Nat)]) IZ;have w1:upd H wt (.tup [V.int t,V.int (bU R t:Nat)]) wt=some (.tup (mh t (bU R t))):=ae;have W1:=W.same s1;generalize upd H wt (.tup [V.int t,V.int (bU R t:Nat)])=H1 at s1 w1 W1;refine⟨_,rfl,m.d,_,rfl,W1.Vh,_,rfl,m.gv,_,_,_,rfl,rfl,bw.of W1.gv,Sf,_,rfl,_,_,rfl,rfl,?_⟩;refine⟨_,rfl,m.d,_,rfl,W1.Vh,_,rfl,m.gv,_,_,t,rfl,rfl,W1.gv,pN (by rw[aN,fz];exact Mu),?_⟩;have afH:(bU R t:Int)+(n:Int)=((bU R t+n:Nat):Int):=by lia
 show _;have dn:∀{c:Addr} {xs:aA},H1 c=some (.lst xs)→m.d≠c:=fun e=>aD W1.ob e (by intro z;cases z);have cn:∀{c:Addr} {xs:aA},H1 c=some (.lst xs)→m.ca≠c:=fun e=>aD W1.ca e (by intro z;cases z);have at2:∀c o,c≠m.gv→H1 c=some o→upd H1 m.gv (.lst (((List.range ps.length).map fun x=>V.int (bU R x:Nat)).set t (V.int ((bU R t:Int)+(n:Int))))) c=some o:=fun c o h e=>by rw[af h];exact e
 have g2:upd H1 m.gv (.lst (((List.range ps.length).map fun x=>V.int (bU R x:Nat)).set t (V.int ((bU R t:Int)+(n:Int))))) m.gv=some (.lst ((List.range ps.length).map fun x=>V.int (bU (R++[(t,n)]) x:Nat))):=by
  rw[ae,afH,Vj Mu]
 generalize upd H1 m.gv (.lst (((List.range ps.length).map fun x=>V.int (bU R x:Nat)).set t (V.int ((bU R t:Int)+(n:Int)))))=H2 at at2 g2;obtain⟨b,hb,Bm⟩:=W1.room Mu;have wb:∀{j:Nat} {c' :Addr},(m.ls ms)[j]? =some c'→5+t≠j→b≠c' :=fun h h' =>W1.ne (m.gr hb) h h';have WB:=at2 _ _ (dn W1.gv) W1.ob;have rl2:=at2 _ _ (W1.ne m.g2 m.g3 (by decide)) W1.rl;have b2:=at2 _ _ (wb m.g3 (by lia)) Bm;have idl:=i4 R t;refine⟨_,rfl,m.d,_,rfl,GY (k:=kR) (v:= .ref m.rl) WB (by kernel_rfl),_,rfl,m.rl,_,t,.ref b,rfl,rfl,bw.of rl2,b9 (by rw[aW,hb];rfl),.inl ⟨rfl,_,bw.of b2⟩,_,rfl,b,_,_,rfl,rfl,b2,?_,?_⟩
 ·unfold jp;rw[aN]
  lia
 have at3:∀c o,c≠b→H2 c=some o→upd H2 b (.lst (jp ws (bg R t)++[V.ref wt])) c=some o:=fun c o h e=>by rw[af h];exact e
 have b3:upd H2 b (.lst (jp ws (bg R t)++[V.ref wt])) b=some (.lst (jp ws (bg R t)++[V.ref wt])):=ae;generalize upd H2 b (.lst (jp ws (bg R t)++[V.ref wt]))=H3 at at3 b3;have Ny:∀c o,c≠m.gv→c≠b→H1 c=some o→H3 c=some o:=fun c o h1 h2 e=>at3 _ _ h2 (at2 _ _ h1 e);have Y7:∀c xs,H1 c=some (.tup xs)→H3 c=some (.tup xs):=fun c xs e=>Ny _ _ (aD e W1.gv (by intro z;cases z)) (aD e Bm (by intro z;cases z)) e
 have fr3:∀c,H3 c=none→H1 c=none:=fun c e=>by
  cases z:H1 c with
  |none=>rfl
  |some o=>
   by_cases z1:c=m.gv
   ·rw[z1,at3 _ _ (wb m.g3 (by lia)).symm g2] at e;cases e
   ·by_cases z2:c=b
    ·rw[z2,b3] at e;cases e
    ·rw[Ny c o z1 z2 z] at e;cases e
 have ob3:=at3 _ _ (dn Bm) WB;have ca3:=Ny _ _ (cn W1.gv) (cn Bm) W1.ca;refine⟨(show 1≤sizeLine by decide),fun l1 Ab=>⟨_,rfl,l1,(n:Int),_,rfl,rfl,ae,by lia,by lia,?_,fun r hrr=> ?_⟩⟩
 ·show 1*(n:Int).toNat≤sizeLine;exact ck (bz (by lia))
 rw[cT,FE];have s5:=(ax.upd (o:= .lst [V.bK]) Ab).trans (ax.upd (o:= .lst (List.replicate n .bK)) hrr);have r5:upd (upd H3 l1 (.lst [V.bK])) r (.lst (List.replicate n .bK)) r=some (.lst (List.replicate n .bK)):=ae;have r3:H3 r=none:=(ax.upd (o:= .lst [V.bK]) Ab).free hrr;generalize upd (upd H3 l1 (.lst [V.bK])) r (.lst (List.replicate n .bK))=H5 at s5 r5;have r1:=fr3 r r3;have r0:H r=none:=s1.free r1;have hhl:=Ed ts R;refine⟨_,rfl,m.d,_,rfl,GY (k:=kC) (v:= .ref m.ca) (s5 _ _ ob3) (by kernel_rfl),_,rfl,m.ca,_,rfl,u6.t (k:=qZ t (bU R t)) (s5 _ _ ca3) (s5 _ _ (Y7 _ _ w1)) (by unfold ze;rw[aN];lia),?_⟩;rw[ji _ (Tr (fun x hx=>(hr6 x hx).1) ms t),←MZ W.ml mP (n:=n)];have To:∀c o,c≠m.ca→H5 c=some o→upd H5 m.ca (.dT (ze ts (R++[(t,n)]) (ms++[r]))) c=some o:=fun c o h e=>by rw[af h];exact e
 have ca6:upd H5 m.ca (.dT (ze ts (R++[(t,n)]) (ms++[r]))) m.ca=some (.dT (ze ts (R++[(t,n)]) (ms++[r]))):=ae;generalize upd H5 m.ca (.dT (ze ts (R++[(t,n)]) (ms++[r])))=H6 at To ca6;have Tv:∀c o,c≠m.gv→c≠b→c≠m.ca→H1 c=some o→H6 c=some o:=fun c o h1 h2 h3 e=>To _ _ h3 (s5 _ _ (Ny c o h1 h2 e));have HG:∀{c:Addr} {xs:aA} {j:Nat},(m.ls ms)[j]? =some c→j≠3→j≠5+t→H1 c=some (.lst xs)→H6 c=some (.lst xs):=fun hc h3 h5 e=>Tv _ _ (W1.ne hc m.g3 h3) (W1.ne hc (m.gr hb) h5) (cn e).symm e;have Ln:∀c xs,H1 c=some (.tup xs)→H6 c=some (.tup xs):=fun c xs e=>To _ _ (aD e W1.ca (by intro z;cases z)) (s5 _ _ (Y7 c xs e));have dca:m.d≠m.ca:=aD W1.ob W1.ca (by intro z;cases z);have ob6:=To _ _ dca (s5 _ _ ob3);have gv6:H6 m.gv=some (.lst ((List.range ps.length).map fun x=>V.int (bU (R++[(t,n)]) x:Nat))):=To _ _ (cn W1.gv).symm (s5 _ _ (at3 _ _ (wb m.g3 (by lia)).symm g2));have b6:=To _ _ (cn Bm).symm (s5 _ _ b3);have r6:=To _ _ (aD r5 (s5 _ _ ca3) (by intro z;cases z)) r5;have inl:∀{c:Addr},c∈m.ls ms→c∈m.own:=fun h=>W.sub _ (a_ _ (a_ _ h));have wt0:H wt=none:=IZ
 have nrl:¬r∈m.ls ms:=fun z=>by
  obtain⟨o,e⟩:=W.al r (inl z);rw[r0] at e;cases e
 have kp:∀c o,¬c∈m.own→H c=some o→H6 c=some o:=fun c o h e=>Tv c o (fun z=>h (z▸inl m.F8)) (fun z=>h (z▸inl (m.E3 (ba hb)))) (fun z=>h (z▸W.sub _ (a_ _ bJ))) (s1 _ _ e);have V5:m.nA.length=ps.length:=W.Nm
 have W6:aF H6 {m with own:=r::wt::m.own} ps ts L top (R++[(t,n)]) (ws++[wt]) (ms++[r]) (cs++[List.replicate n .bK]) G:=by
  refine⟨ob6,HG m.g0 (by decide) (by lia) W1.hl,HG m.g1 (by decide) (by lia) W1.tl,HG m.g2 (by decide) (by lia) W1.rl,V5,fun x c e=> ?_,gv6,ca6,?_,fun i hi=> ?_,?_,?_,fun i hi=> ?_,?_,fun i hi=> ?_,?_,fun c hc=> ?_,fun c hc=> ?_⟩
  ·have e:m.nA[x]? =some c:=e;by_cases z:x=t
   ·subst z;rw[hb] at e;cases e;rw[b6,oX,aC rfl,←vk (wt:=wt) (I:=bg R x) (fun i hi=>by rw[W.wW];exact eO hi)]
    have e1:jp (ws++[wt]) (bg R x++[R.length])=jp (ws++[wt]) (bg R x)++[V.ref ((ws++[wt]).getD R.length 0)]:=by
     unfold jp;rw[cg];rfl
    rw[e1,←W.wW,wp]
   ·rw[oX,au (fun q=>z q.symm),vk (fun i hi=>by rw[W.wW];exact eO hi)];exact HG (m.gr e) (by lia) (by lia) (W1.rm x c e)
  ·rw[vk (fun i hi=>by rw[W.wW];exact W.gI i hi)];exact HG m.g4 (by decide) (by lia) W1.gn
  ·rw[bj];have:=W.gI i hi
   lia
  ·rw[uV R mP,bj,bj];have:=W.gl;show(b_ ts R).length+1+G.length≤R.length+1
   lia
  ·rw[bj,bj,W.wW];rfl
  ·by_cases z:i<R.length
   ·rw[dv z,eU z,dv (by rw[W.wW];exact z)];exact⟨.tail _ (.tail _ (W1.way i z).1),Ln _ _ (W1.way i z).2⟩
   ·have e:i=R.length:=by
     rw[bj] at hi;have hi:i<R.length+1:=hi
     lia
    subst e;rw[wp,iq,←W.wW,wp];exact⟨.tail _ (.head _),Ln _ _ w1⟩
  ·rw[bj,bj,W.ml];rfl
  ·rw[uV R mP] at hi;rcases cj.mp hi with hi|hi
   ·obtain⟨vs,h1,h2⟩:=W1.mm i hi;have xj:=cE hi;refine⟨vs,?_,?_⟩
    ·rw[bV (by rw[nC];exact xj)];exact h1
    ·rw[dv (by rw[W.ml];exact xj)];exact HG (m.gm (cU 0 (show i<ms.length by rw[W.ml];exact xj))) (by lia) (by lia) h2
   ·have e:i=R.length:=by simpa using hi
    subst e;refine⟨List.replicate n .bK,?_,?_⟩
    ·rw[cF (by lia),nC];simp
    ·rw[←W.ml,wp];exact r6
  ·have e:(m.ls ms)++[r]=({m with own:=r::wt::m.own}:MW).ls (ms++[r]):=by
    show m.ar::m.bl::m.rl::m.gv::m.gn::((m.nA++ms)++[r])=m.ar::m.bl::m.rl::m.gv::m.gn::(m.nA++(ms++[r]));rw[fB]
   rw[←e];exact me.mpr ⟨W.nd,by simp,fun x hx y hy q=>nrl (by rw[←show y=r by simpa using hy,←q];exact hx)⟩
  ·have hc:c∈m.d::m.ca::m.ar::m.bl::m.rl::m.gv::m.gn::(m.nA++(ms++[r])):=hc;rw[←fB] at hc;have hc:c∈(m.d::m.ca::m.ls ms)++[r]:=hc;rcases cj.mp hc with h|h
   ·exact .tail _ (.tail _ (W.sub c h))
   ·have:c=r:=by simpa using h
    subst this;exact .head _
  ·have hc:c∈r::wt::m.own:=hc;rcases bq.mp hc with rfl|hc
   ·exact⟨_,r6⟩
   ·rcases bq.mp hc with rfl|hc
    ·exact⟨_,Ln _ _ w1⟩
    ·obtain⟨o,e⟩:=W1.al c hc;by_cases z1:c=m.gv
     ·exact⟨_,z1▸gv6⟩
     ·by_cases z2:c=b
      ·exact⟨_,z2▸b6⟩
      ·by_cases z3:c=m.ca
       ·exact⟨_,z3▸ca6⟩
       ·exact⟨_,Tv c o z1 z2 z3 e⟩
 have cz6:∀(i:Nat) (vs:aA),(cs++[List.replicate n .bK])[i]? =some vs→vs.length=((R++[(t,n)]).getD i (0,0)).2:=fun i vs e=>by
  by_cases z:i<cs.length
  ·rw[bV z] at e;rw[dv (by lia)];exact cz i vs e
  ·rw[cF (by lia)] at e
   have Hi:i - cs.length=0:=by
    have:=(aS.mp e).1;simp at this
    lia
   rw[Hi] at e;cases e;have:i=R.length:=by lia
   subst this;rw[wp,jE]
 refine⟨_,rfl,m.d,_,rfl,W6.Xe,_,rfl,{m with own:=r::wt::m.own},ps,ts,L,top,_,_,_,_,G,rfl,W6,cz6,by rw[bj];show R.length+1≤1100;lia,fun x hx=> ?_,fun H7 s7=>⟨_,_,rfl,?_⟩⟩
 ·rcases cj.mp hx with h|h
  ·exact(hr6 x h).2
  ·have:x=(t,n):=by simpa using h
   subst this;exact n6
 have W7:=W6.same s7;refine⟨_,rfl,m.d,_,rfl,u6.k (k:=kP) W7.ob (by show 8<sizeLine;decide),?_⟩;rw[mq R n mP]
 have emax:(if((cu ts R+n:Nat):Int)>(top:Int) then((cu ts R+n:Nat):Int) else(top:Int))=((max top (cu ts R+n):Nat):Int):=by
  split<;>lia
 rw[emax,Yh];refine⟨_,rfl,q {m with own:=r::wt::m.own} wt r _ ?_ ⟨rfl,fun c hc=> ?_,fun c o h e=> ?_,fun c xs e=> ?_⟩ (fun c hc=>a_ _ (a_ _ hc)) ?_⟩
 ·exact W7.top _
 ·have hc:c∈r::wt::m.own:=hc;rcases bq.mp hc with rfl|hc
  ·exact .inr r0
  ·rcases bq.mp hc with rfl|hc
   ·exact .inr wt0
   ·exact .inl hc
 ·rw[af (show c≠m.d from fun z=>h (z▸W.sub _ bJ))];exact s7 _ _ (kp c o h e)
 ·rw[af (aD (s7 _ _ (Ln c xs (s1 _ _ e))) W7.ob (by intro z;cases z))];exact s7 _ _ (Ln c xs (s1 _ _ e))
 ·rw[af (aD (s7 _ _ (Ln _ _ w1)) W7.ob (by intro z;cases z))];exact s7 _ _ (Ln _ _ w1)
noncomputable def OJ:Sp:=fun vs H Q _=>∃L:Nat,vs=[.int L]∧∀m H',aF H' m [none] [none] L 0 [] [] [] [] []→ax H H'→(∀c∈m.own,H c=none)→Q (.ref m.d) H'
theorem Al(T:Txt K mg A):bC P w K mg base eC 1 A.sr A.sT ["_law_limit"] OJ:=by
 refine T.tJ.F.okN AD ?_
 rintro c_ Ar outer s H vs Q E hr ⟨L,rfl,q⟩
 have hu:=dy hr;refine⟨_,(rS (NB (LG (iA ⟨aR⟩ ⟨(pv 0)⟩ (iA ⟨aR⟩ ⟨(bY (aX dh))⟩ (iA ⟨aR⟩ ⟨(bY (aX dh))⟩ (iA ⟨aR⟩ ⟨(bY (aX (bY gA)))⟩ (iA ⟨aR⟩ ⟨(bY (aX aj))⟩ (iA ⟨aR⟩ ⟨yl⟩ (iA ⟨aR⟩ ⟨(bY gA)⟩ (iA ⟨aR⟩ ⟨aj⟩ Oh)))))))) rfl rfl (by simp) (by decide)))),?_⟩;refine fun d hd=> ?_;have s1:=ax.upd (o:= .dK []) hd;have e1:upd H d (.dK []) d=some (.dK []):=ae;generalize upd H d (.dK [])=H1 at s1 e1;refine⟨_,rfl,(show 1≤sizeLine by decide),fun ar har=> ?_⟩;have s2:=ax.upd (o:= .lst [V.bK]) har;have e2:upd H1 ar (.lst [V.bK]) ar=some (.lst [V.bK]):=ae;generalize upd H1 ar (.lst [V.bK])=H2 at s2 e2;refine⟨(show 1≤sizeLine by decide),fun bl Bm=> ?_⟩;have s3:=ax.upd (o:= .lst [V.bK]) Bm;have e3:upd H2 bl (.lst [V.bK]) bl=some (.lst [V.bK]):=ae;generalize upd H2 bl (.lst [V.bK])=H3 at s3 e3;refine⟨(show 0≤sizeLine by decide),fun r0 Wl=> ?_⟩;have s4:=ax.upd (o:= .lst []) Wl;have e4:upd H3 r0 (.lst []) r0=some (.lst []):=ae;generalize upd H3 r0 (.lst [])=H4 at s4 e4;refine⟨(show 1≤sizeLine by decide),fun rl yU=> ?_⟩;have s5:=ax.upd (o:= .lst [V.ref r0]) yU;have e5:upd H4 rl (.lst [V.ref r0]) rl=some (.lst [V.ref r0]):=ae;generalize upd H4 rl (.lst [V.ref r0])=H5 at s5 e5;refine⟨(show 1≤sizeLine by decide),fun gv VC=> ?_⟩;have s6:=ax.upd (o:= .lst [V.int 0]) VC;have e6:upd H5 gv (.lst [V.int 0]) gv=some (.lst [V.int 0]):=ae;generalize upd H5 gv (.lst [V.int 0])=H6 at s6 e6;refine fun ca hca=> ?_;have s7:=ax.upd (o:= .dT []) hca;have e7:upd H6 ca (.dT []) ca=some (.dT []):=ae;generalize upd H6 ca (.dT [])=H7 at s7 e7;refine⟨(show 0≤sizeLine by decide),fun gn Jg=> ?_⟩;have s8:=ax.upd (o:= .lst []) Jg;have e8:upd H7 gn (.lst []) gn=some (.lst []):=ae;generalize upd H7 gn (.lst [])=H8 at s8 e8;have t7:=s8;have t6:=s7.trans t7;have t5:=s6.trans t6;have t4:=s5.trans t5;have t3:=s4.trans t4;have t2:=s3.trans t3;have t1:=s2.trans t2;have d8:=t1 _ _ e1;refine⟨d8,Gh ⟨d,ar,bl,rl,gv,ca,gn,[r0],[d,ar,bl,r0,rl,gv,ca,gn]⟩ L 0,rfl,(show 8≤15 by decide),?_⟩;rw[show fX [] (Gh ⟨d,ar,bl,rl,gv,ca,gn,[r0],[d,ar,bl,r0,rl,gv,ca,gn]⟩ L 0)=Gh ⟨d,ar,bl,rl,gv,ca,gn,[r0],[d,ar,bl,r0,rl,gv,ca,gn]⟩ L 0 by kernel_rfl];have f2:=t2 _ _ e2;have f3:=t3 _ _ e3;have f4:=t4 _ _ e4;have f5:=t5 _ _ e5;have f6:=t6 _ _ e6;have f7:=t7 _ _ e7;have nf:∀{G:Hp} {x y:Addr} {o:HO},G x=some o→G y=none→y≠x:=fun hx hy z=>by rw[z,hx] at hy;cases hy
 have n2:ar≠d:=nf e1 har;have n3:bl≠d:=nf (s2 _ _ e1) Bm;have n32:bl≠ar:=nf e2 Bm;have u3:ax H1 H3:=s2.trans s3;have n4:r0≠d:=nf (u3 _ _ e1) Wl;have n42:r0≠ar:=nf (s3 _ _ e2) Wl;have n43:r0≠bl:=nf e3 Wl;have n5:rl≠d:=nf (s4 _ _ (u3 _ _ e1)) yU;have n52:rl≠ar:=nf (s4 _ _ (s3 _ _ e2)) yU;have n53:rl≠bl:=nf (s4 _ _ e3) yU;have n54:rl≠r0:=nf e4 yU;have n6:gv≠d:=nf (s5 _ _ (s4 _ _ (u3 _ _ e1))) VC;have n62:gv≠ar:=nf (s5 _ _ (s4 _ _ (s3 _ _ e2))) VC;have n63:gv≠bl:=nf (s5 _ _ (s4 _ _ e3)) VC;have n64:gv≠r0:=nf (s5 _ _ e4) VC;have n65:gv≠rl:=nf e5 VC;have n7:ca≠d:=nf (s6 _ _ (s5 _ _ (s4 _ _ (u3 _ _ e1)))) hca;have n8:gn≠d:=nf (s7 _ _ (s6 _ _ (s5 _ _ (s4 _ _ (u3 _ _ e1))))) Jg;have n82:gn≠ar:=nf (s7 _ _ (s6 _ _ (s5 _ _ (s4 _ _ (s3 _ _ e2))))) Jg;have n83:gn≠bl:=nf (s7 _ _ (s6 _ _ (s5 _ _ (s4 _ _ e3)))) Jg;have n84:gn≠r0:=nf (s7 _ _ (s6 _ _ (s5 _ _ e4))) Jg;have n85:gn≠rl:=nf (s7 _ _ (s6 _ _ e5)) Jg;have n86:gn≠gv:=nf (s7 _ _ e6) Jg;have v1:=s1;have v2:=v1.trans s2;have v3:=v2.trans s3;have v4:=v3.trans s4;have v5:=v4.trans s5;have v6:=v5.trans s6;have v7:=v6.trans s7;have v8:=v7.trans s8
 have nn:∀{G:Hp} {c:Addr},ax H G→G c=none→H c=none:=fun{G} {c} sg hc=>by
  cases ec:H c with
  |none=>rfl
  |some o=>rw[sg _ _ ec] at hc;cases hc
 refine q ⟨d,ar,bl,rl,gv,ca,gn,[r0],[d,ar,bl,r0,rl,gv,ca,gn]⟩ _ ⟨ae,?_,?_,?_,rfl,fun n b e=> ?_,?_,?_,?_,(fun i hi=>nomatch hi),(by decide:0+0≤0),rfl,fun i hi=>absurd hi (rh _),rfl,(fun i hi=>nomatch hi),?_,fun c hc=> ?_,fun c hc=> ?_⟩ (fun c o e=> ?_) (fun c hc=> ?_)
 ·rw[af n2];exact f2
 ·rw[af n3];exact f3
 ·rw[af n5];exact f5
 ·cases n with
  |zero=>
   cases e;rw[af n4];exact f4
  |succ n=>cases e
 ·rw[af n6];exact f6
 ·rw[af n7];exact f7
 ·rw[af n8];exact e8
 ·show[ar,bl,rl,gv,gn,r0].Nodup;simp[n32.symm,n52.symm,n62.symm,n82.symm,n42.symm,n53.symm,n63.symm,n83.symm,n43.symm,n65.symm,n85.symm,n54,n86.symm,n64,n84]
 ·have hc:c∈[d,ca,ar,bl,rl,gv,gn,r0]:=hc;show c∈[d,ar,bl,r0,rl,gv,ca,gn];simp only[bq,cR,cV] at hc ⊢
  rcases hc with h|h|h|h|h|h|h|h<;>simp[h]
 ·have hc:c∈[d,ar,bl,r0,rl,gv,ca,gn]:=hc;by_cases z:c=d
  ·subst z;exact⟨_,ae⟩
  ·rw[af z];simp only[bq,cR,cV] at hc;rcases hc with h|h|h|h|h|h|h|h
   ·exact absurd h z
   ·exact⟨_,h▸f2⟩
   ·exact⟨_,h▸f3⟩
   ·exact⟨_,h▸f4⟩
   ·exact⟨_,h▸f5⟩
   ·exact⟨_,h▸f6⟩
   ·exact⟨_,h▸f7⟩
   ·exact⟨_,h▸e8⟩
 ·rw[af (nf e hd).symm];exact v8 _ _ e
 ·have hc:c∈[d,ar,bl,r0,rl,gv,ca,gn]:=hc;simp only[bq,cR,cV] at hc;rcases hc with h|h|h|h|h|h|h|h
  ·rw[h];exact hd
  ·rw[h];exact nn v1 har
  ·rw[h];exact nn v2 Bm
  ·rw[h];exact nn v3 Wl
  ·rw[h];exact nn v4 yU
  ·rw[h];exact nn v5 VC
  ·rw[h];exact nn v6 hca
  ·rw[h];exact nn v7 Jg
end
theorem iJ{x:Nat}:∀{l:List Nat} {k:Nat},l.Nodup→l[k]? =some x→l.eraseIdx k=l.filter fun y=> !(y==x)
 |[],k,_,e=>by simp at e
 |a::r,0,h,e=>by
  have:a=x:=by simpa using e
  subst this;have h1:=(fq.mp h).1;rw[List.eraseIdx_zero,List.tail_cons,Cw (by simp)]
  exact(jH.mpr fun y hy=>by
   have:y≠a:=fun z=>h1 (z▸hy);simp[this]).symm
 |a::r,k+1,h,e=>by
  have e:r[k]? =some x:=by simpa using e
  have hx:x∈r:=ba e;have:a≠x:=fun z=>(fq.mp h).1 (z▸hx);rw[List.eraseIdx_cons_succ,CT (by simp[this]),iJ (fq.mp h).2 e]
theorem qp{α β:Type}(f:α→β):∀(l:List α) (k:Nat),(l.map f).eraseIdx k=(l.eraseIdx k).map f
 |[],k=>rfl
 |a::r,0=>rfl
 |a::r,k+1=>by
  show f a::(r.map f).eraseIdx k=f a::(r.eraseIdx k).map f;rw[qp f r k]
noncomputable def Q2(R:Rm)(ms:aH)(I:List Nat):dw:=I.map fun i=>(qZ (R.getD i (0,0)).1 (br R i),V.ref (ms.getD i 0))
noncomputable def ZW(H:Hp)(m:MW)(ts:av)(R:Rm)(ws ms:aH)(I G:List Nat):Hp:=fun c=>if c=m.bl then some (.lst (ts.map oV)) else if c=m.ca then some (.dT (Q2 R ms I)) else if c=m.gn then some (.lst (jp ws G)) else H c
section
variable{H:Hp}{m:MW}{ts ts' :av}{R:Rm}{ws ms:aH}{I I' G G' :List Nat}
theorem Mi:ZW H m ts R ws ms I G m.bl=some (.lst (ts.map oV)):=aC rfl
theorem Dl(n1:m.ca≠m.bl):ZW H m ts R ws ms I G m.ca=some (.dT (Q2 R ms I)):=by unfold ZW;rw[au n1,aC rfl]
theorem Dt(n2:m.gn≠m.bl)(n3:m.gn≠m.ca):ZW H m ts R ws ms I G m.gn=some (.lst (jp ws G)):=by unfold ZW;rw[au n2,au n3,aC rfl]
theorem oR{c:Addr}(n1:c≠m.bl)(n2:c≠m.ca)(n3:c≠m.gn):ZW H m ts R ws ms I G c=H c:=by unfold ZW;rw[au n1,au n2,au n3]
theorem Od:upd (ZW H m ts R ws ms I G) m.bl (.lst (ts'.map oV))=ZW H m ts' R ws ms I G:=by
 funext c
 unfold upd ZW;by_cases h:c=m.bl
 ·rw[aC h,aC h]
 ·rw[au h,au h,au h]
theorem NU(n1:m.ca≠m.bl):upd (ZW H m ts R ws ms I G) m.ca (.dT (Q2 R ms I'))=ZW H m ts R ws ms I' G:=by
 funext c
 unfold upd ZW;by_cases h:c=m.ca
 ·rw[aC h,au (h▸n1),aC h]
 ·rw[au h,au h,au h]
theorem Pf(n2:m.gn≠m.bl)(n3:m.gn≠m.ca):upd (ZW H m ts R ws ms I G) m.gn (.lst (jp ws G'))=ZW H m ts R ws ms I G' :=by
 funext c
 unfold upd ZW;by_cases h:c=m.gn
 ·rw[aC h,au (h▸n2),au (h▸n3),aC h]
 ·rw[au h,au h,au h]
end
theorem aF.apart{H:Hp}{m:MW}{ps ts:av}{L top:Nat}{R:Rm}{ws ms:aH}{cs:cO}{G:List Nat}(W:aF H m ps ts L top R ws ms cs G):m.ca≠m.bl∧m.gn≠m.bl∧m.gn≠m.ca:=
 ⟨aD W.ca W.tl (by intro z;cases z),W.ne m.g4 m.g1 (by decide),aD W.gn W.ca (by intro z;cases z)⟩
theorem aF.zw{H:Hp}{m:MW}{ps ts:av}{L top:Nat}{R:Rm}{ws ms:aH}{cs:cO}{G:List Nat}(W:aF H m ps ts L top R ws ms cs G):ZW H m ts R ws ms (b_ ts R) G=H:=by
 funext c
 obtain⟨n1,n2,n3⟩:=W.apart;by_cases h1:c=m.bl
 ·rw[h1,Mi];exact W.tl.symm
 ·by_cases h2:c=m.ca
  ·rw[h2,Dl n1];exact W.ca.symm
  ·by_cases h3:c=m.gn
   ·rw[h3,Dt n2 n3];exact W.gn.symm
   ·exact oR h1 h2 h3
theorem aF.ended{H:Hp}{m:MW}{ps ts ts' :av}{L top:Nat}{R:Rm}{ws ms:aH}{cs:cO}{G G' :List Nat}(W:aF H m ps ts L top R ws ms cs G)(hn:∀i:Nat,ts'[i]? =some none→ts[i]? =some none)(hG:∀i∈G',i<R.length)(hL:(b_ ts' R).length+G'.length≤R.length):aF (ZW H m ts' R ws ms (b_ ts' R) G') m ps ts' L top R ws ms cs G' :=by
 obtain⟨n1,n2,n3⟩:=W.apart
 have ls:∀{i:Nat} {b:Addr} {xs:aA},(m.ls ms)[i]? =some b→i≠1→i≠4→H b=some (.lst xs)→ZW H m ts' R ws ms (b_ ts' R) G' b=some (.lst xs):=fun hb h1 h4 e=>by
  rw[oR (W.ne hb m.g1 h1) (aD e W.ca (by intro z;cases z)) (W.ne hb m.g4 h4)];exact e
 have hs:∀i,i∈b_ ts' R→i∈b_ ts R:=fun i h=>fk (cE h) (hn _ (lX h));refine⟨?_,ls m.g0 (by decide) (by decide) W.hl,Mi,ls m.g2 (by decide) (by decide) W.rl,W.Nm,fun n b e=>ls (m.gr e) (by lia) (by lia) (W.rm n b e),ls m.g3 (by decide) (by decide) W.gv,Dl n1,Dt n2 n3,hG,hL,W.wW,fun i hi=> ?_,W.ml,fun i hi=> ?_,W.nd,W.sub,fun c hc=> ?_⟩
 ·rw[oR (aD W.ob W.tl (by intro z;cases z)) (aD W.ob W.ca (by intro z;cases z)) (aD W.ob W.gn (by intro z;cases z))];exact W.ob
 ·obtain⟨h1,h2⟩:=W.way i hi;refine⟨h1,?_⟩;rw[oR (aD h2 W.tl (by intro z;cases z)) (aD h2 W.ca (by intro z;cases z)) (aD h2 W.gn (by intro z;cases z))];exact h2
 ·obtain⟨vs,e1,e2⟩:=W.mm i (hs i hi);have hm:ms[i]? =some (ms.getD i 0):=cU 0 (by rw[W.ml];exact cE hi);exact⟨vs,e1,ls (m.gm hm) (by lia) (by lia) e2⟩
 ·by_cases h1:c=m.bl
  ·exact⟨_,h1▸Mi⟩
  ·by_cases h2:c=m.ca
   ·exact⟨_,h2▸Dl n1⟩
   ·by_cases h3:c=m.gn
    ·exact⟨_,h3▸Dt n2 n3⟩
    ·obtain⟨o,e⟩:=W.al c hc;exact⟨o,by rw[oR h1 h2 h3];exact e⟩
theorem Hn(ps ts:av)(t:Nat):(bt ps ts t).Nodup:=pK _ (List.pairwise_reverse.mpr ((nG ts).imp fun h=>h.symm))
theorem Iv(R:Rm)(n:Nat):(bg R n).Nodup:=pK _ Cs
noncomputable def iu(ts:av)(R:Rm)(n j:Nat):List Nat:=(b_ ts R).filter fun i=> !(((bg R n).take j).contains i)
theorem Bb(ts:av)(R:Rm)(n:Nat):iu ts R n 0=b_ ts R:=by
 unfold iu;exact jH.mpr fun i _=>by simp
theorem DQ(ts:av)(R:Rm){n t:Nat}(hn:n<ts.length):iu ts R n (bg R n).length=b_ (ts.set n (some t)) R:=by
 unfold iu b_;rw[iK,List.filter_filter];refine lP fun i hi=> ?_;have hi:=dg.mp hi;by_cases z:(R.getD i (0,0)).1=n
 ·have h1:i∈bg R n:=z▸gD hi;have h2:(ts.set n (some t))[(R.getD i (0,0)).1]? =some (some t):=by rw[z];simp[hn]
  rw[h2];simp[h1]
 ·have h1:¬i∈bg R n:=fun h=>z (gU h);have h2:(ts.set n (some t))[(R.getD i (0,0)).1]? =ts[(R.getD i (0,0)).1]? :=mF (fun q=>z q.symm);rw[h2];simp[h1]
theorem A9{ts:av}{R:Rm}{n j i:Nat}(e:(bg R n)[j]? =some i):iu ts R n (j+1)=(iu ts R n j).filter fun y=> !(y==i):=by
 unfold iu;rw[List.filter_filter];refine lP fun y _=> ?_;rw[ju,e];by_cases z:y=i<;>simp[z]
theorem L7{ts:av}{R:Rm}{n j i:Nat}(hs:ts[n]? =some none)(e:(bg R n)[j]? =some i):i∈iu ts R n j:=by
 have hm:i∈bg R n:=ba e;refine cA.mpr ⟨fk (eO hm) (by rw[gU hm];exact hs),?_⟩
 have:¬i∈(bg R n).take j:=fun h=>by
  obtain⟨k,hk,ek⟩:=xk.mp h;rw[List.getElem_take] at ek;have PD :k<j∧k<(bg R n).length:=by rw[kD] at hk;exact Nat.lt_min.mp hk
  have:=(xq PD.2 (Iv R n)).mp ((cN PD.2).trans (by rw[ek];exact e.symm))
  lia
 simp[this]
theorem zg(ts:av)(R:Rm)(n j:Nat):(iu ts R n j).Nodup:=pK _ (Eu ts R)
section
variable{P:Program}{w:World}{K:Frag}{mg:Str→aQ}{base:Heap}{A:qa}
noncomputable def M4:Sp:=fun vs H Q _=>∃m ps ts L top R ws ms cs G,∃t:Nat,vs=[.ref m.d,.int t]∧aF H m ps ts L top R ws ms cs G∧WF ps ts∧R.length≤1000∧
 ∀l H' G',H l=none→H' l=some (.lst ((bt ps ts t).map nV))→aF H' m ps (xz t (bt ps ts t) ts) L top R ws ms cs G'→(∀c o,¬c∈m.own→H c=some o→H' c=some o)→(∀c xs,H c=some (.tup xs)→H' c=some (.tup xs))→Q (.ref l) H'
theorem Aq(T:Txt K mg A):bC P w K mg base eC 2 A.tw A.uf ["_law_world_here","_law_frame"] M4:=by
 refine T.rK.F.fV ie ?_
 rintro c_ Ar outer s H vs Q E hr ⟨m,ps,ts,L,top,R,ws,ms,cs,G,t,rfl,Wd,W,hR,q⟩
 have hu:=dy hr;have vt:_+100<cLine:=dR (kH (by decide:100≤16*1+200) _) (by have:=hr.un;omega);have hl:=W.len;have hle:=W.le;refine⟨_,(ah (fG 2 ie.nd (D1 (Bk ["_law_one","_law_frame","_law_world_here"] 1 [1,0] (cK (dO (dm T) hr T.cX aE (aX (pv 0)))) (fun _ _ _ _ _=>⟨(iO 0 (show(["_law_one","_law_frame","_law_world_here"]:aJ).Nodup by decide+kernel)),(Ca (xL (qC (K:=K) rfl) (pv 1) (dO (vY T) hr T.qE aE (ai (pv 2) (aX (pv 0)))))),(pv 0)⟩)) (gC eD aj))) (ah (A2 (cK (pv 2)) (iO 3 ie.nd) (ah (oT (pv 1) (n0 (gY hu (pv 0) aR) (pv 3) wT)) (ao (A2 (cK (de a7 (gY hu (pv 0) aR) (pv 3))) (iO 4 ie.nd) (ah (bB (gu h9 slot_dict_pop PySem.F.type_dict_pop (Pk vt) (gY hu (pv 0) aR) (aX (pv 4)))) (ao (bB (gu fc PySem.F.slot_list_append PySem.F.type_list_append cJ (gY hu (pv 0) aR) (aX (pv 4)))))))))) (ao (aK (pv 2))))),?_⟩;refine⟨_,rfl,m,ps,ts,L,top,R,ws,ms,cs,G,rfl,Wd,by lia,fun sl H1 nz s1 Cz=> ?_⟩;refine⟨sl,rfl,⟨_,bw.of Cz⟩,?_⟩;have N_:((aw ts).map nV).length=(aw ts).length:=by rw[aN]
 have W1:=Wd.same s1;refine hU (fun i=>decide (t∈ix ps ((aw ts).getD i 0))) (fun i=>nV ((aw ts).getD i 0)) (hX (bw.of Cz)).g ?_ ?_ fun l0 H2 u_ s2 hL=> ?_
 ·rw[N_];refine aY (jh _ _) ?_;rw[fz];exact aY (show ts.length≤101 by lia) (by decide)
 ·intro i x H' C1 C0 hi sm hx c1 c0;rw[aW] at hx
  cases en:(aw ts)[i]? with
  |none=>rw[en] at hx;cases hx
  |some n=>
   rw[en] at hx;cases hx;have ed:(aw ts).getD i 0=n:=by rw[bD,en];rfl
   have hn:n<ps.length:=by
    have:=zq (ba en)
    lia
   rw[ed] at c1 c0;have M' :=W1.same sm;refine⟨(eM.refl _).own (by decide),_,rfl,_,rfl,_,rfl,m,ps,ts,L,top,R,ws,ms,cs,G,n,rfl,M',W,hn,fun rl H3 yU s3 Wi=> ?_⟩;refine⟨rl,_,rfl,.inl (bw.of Wi),rfl,l5 _,_,rfl,?_⟩;have e:HY (V.int (t:Int)) ((ix ps n).map nV)=decide (t∈ix ps n):=za t _;show if HY (V.int (t:Int)) ((ix ps n).map nV)=true then _ else _
   rw[e]
   cases hd:decide (t∈ix ps n) with
   |true=>exact eN ⟨_,rfl,c1 hd H3 s3⟩
   |false=>exact cQ (c0 hd H3 s3)
 ·rw[N_] at hL
  have hL:H2 l0=some (.lst (((aw ts).filter fun n=>decide (t∈ix ps n)).map nV)):=by
   rw[hL];exact congrArg (fun z=>some (HO.lst z)) (lQ (aw ts) (fun n=>decide (t∈ix ps n)) nV)
  refine⟨1,rfl,_,rfl,l0,_,rfl,rfl,bw.of hL,fun l FN=> ?_⟩
  have hv:(((aw ts).filter fun n=>decide (t∈ix ps n)).map nV).reverse=(bt ps ts t).map nV:=by
   unfold bt;rw[←xZ,List.filter_reverse]
  rw[hv];have s3:=(s1.trans s2).trans (ax.upd (o:= .lst ((bt ps ts t).map nV)) FN);have Ab:H l=none:=(s1.trans s2).free FN;have l3:upd H2 l (.lst ((bt ps ts t).map nV)) l=some (.lst ((bt ps ts t).map nV)):=ae;generalize upd H2 l (.lst ((bt ps ts t).map nV))=H3 at s3 l3;have W3:=Wd.same s3;obtain⟨n1,n2,n3⟩:=W3.apart
  have nl:∀c∈m.own,l≠c:=fun c hc z=>by
   obtain⟨o,e⟩:=Wd.al c hc;rw[←z,Ab] at e;cases e
  have inl:∀{c:Addr},c∈m.ls ms→c∈m.own:=fun h=>Wd.sub _ (a_ _ (a_ _ h));have adz:m.ca∈m.own:=Wd.sub _ (a_ _ bJ)
  have lz:∀{ts' :av} {I G' :List Nat},ZW H3 m ts' R ws ms I G' l=some (.lst ((bt ps ts t).map nV)):=fun{ts' I G'}=>by
   rw[oR (nl _ (inl m.Dd)) (nl _ adz) (nl _ (inl m.Dq))];exact l3
  refine⟨_,rfl,l,rfl,⟨_,bw.of l3⟩,?_⟩;refine dG (K:=K) (a:=l) (xs:=(bt ps ts t).map nV) (fun i σ H4=>∃(x y:Option V) (G' :List Nat),σ=[some (.ref m.d),some (.int t),some (.ref l),x,y]∧H4=ZW H3 m (xz t ((bt ps ts t).take i) ts) R ws ms (b_ (xz t ((bt ps ts t).take i) ts) R) G'∧(∀i∈G',i<R.length)∧(b_ (xz t ((bt ps ts t).take i) ts) R).length+G'.length≤R.length) ⟨none,none,G,rfl,W3.zw.symm,W3.gI,W3.gl⟩ ?_ ?_ ?_
  ·rintro i σ H4 _ ⟨x,y,G',rfl,rfl,_⟩
   exact bw.of lz
  ·rintro i x σ H4 hi ⟨x',y',G',rfl,rfl,hG,V6⟩
   rw[aW] at hi
   cases en:(bt ps ts t)[i]? with
   |none=>rw[en] at hi;cases hi
   |some n=>
    rw[en] at hi;cases hi;have hn:=La (ba en)
    have fC:(xz t ((bt ps ts t).take i) ts)[n]? =some none:=by
     rcases sN t ((bt ps ts t).take i) ts n with h|⟨h,_⟩
     ·rw[h];exact eq_of_beq (cm.mp (xp.mp (cA.mp (ba en)).1))
     ·exfalso;obtain⟨k,hk,ek⟩:=xk.mp h;rw[List.getElem_take] at ek;have PD :k<i∧k<(bt ps ts t).length:=by rw[kD] at hk;exact Nat.lt_min.mp hk
      have:=(xq PD.2 (Hn ps ts t)).mp ((cN PD.2).trans (by rw[ek];exact en.symm))
      lia
    have e1:(bt ps ts t).take (i+1)=(bt ps ts t).take i++[n]:=by
     rw[ju,en];rfl
    have nz:=oU t ((bt ps ts t).take i) ts;have IG:∀k:Nat,(xz t ((bt ps ts t).take i) ts)[k]? =some none→ts[k]? =some none:=pF _ _;rw[e1,u4];generalize xz t ((bt ps ts t).take i) ts=tz at fC nz IG V6 ⊢;have hnz:n<tz.length:=by lia
    have W4:=W3.ended IG hG V6;refine⟨_,rfl,_,rfl,m.d,_,rfl,W4.NA,_,rfl,m.bl,_,_,n,rfl,rfl,W4.tl,pN (by rw[aN];exact hnz),?_⟩;rw[yq,Od]
    have obz:∀{ts' :av} {I G' :List Nat},ZW H3 m ts' R ws ms I G' m.d=some (.dK (Gh m L top)):=fun{ts' I G'}=>by
     rw[oR (aD W3.ob W3.tl (by intro z;cases z)) (aD W3.ob W3.ca (by intro z;cases z)) (aD W3.ob W3.gn (by intro z;cases z))];exact W3.ob
    have Vg:∀{ts' :av} {I G' :List Nat} {k:ww} {v:V},bR (Gh m L top) k=some v→dq (ZW H3 m ts' R ws ms I G') m.d (kV k) (some v):=fun{ts' I G' k v} h=>by
     have:=dq.k (k:=k) (obz (ts' :=ts') (I:=I) (G' :=G'));rw[h] at this;exact this
    have lsz:∀{ts' :av} {I G' :List Nat} {i:Nat} {b:Addr} {xs:aA},(m.ls ms)[i]? =some b→i≠1→i≠4→H3 b=some (.lst xs)→ZW H3 m ts' R ws ms I G' b=some (.lst xs):=fun hb h1 h4 e=>by
     rw[oR (W3.ne hb m.g1 h1) (aD e W3.ca (by intro z;cases z)) (W3.ne hb m.g4 h4)];exact e
    obtain⟨b,hb,N8⟩:=W3.room (show n<ps.length by lia);refine⟨_,rfl,m.d,_,rfl,Vg (k:=kR) (v:= .ref m.rl) (by kernel_rfl),_,rfl,m.rl,_,_,_,rfl,rfl,bw.of (lsz m.g2 (by decide) (by decide) W3.rl),b9 (by rw[aW,hb];rfl),b,rfl,⟨_,bw.of (lsz (m.gr hb) (by lia) (by lia) N8)⟩,?_⟩;refine dG (K:=K) (a:=b) (xs:=jp ws (bg R n)) (fun j σ H5=>∃y:Option V,σ=[some (.ref m.d),some (.int t),some (.ref l),some (nV n),y]∧H5=ZW H3 m (tz.set n (some t)) R ws ms (iu tz R n j) (G' ++(bg R n).take j)∧(iu tz R n j).length+(G' ++(bg R n).take j).length≤R.length) ⟨y',rfl,by rw[Bb,pL,dA],by rw[Bb,pL,dA];exact V6⟩ ?_ ?_ ?_
    ·rintro j σ H5 _ ⟨y,rfl,rfl,_⟩
     exact bw.of (lsz (m.gr hb) (by lia) (by lia) N8)
    ·rintro j x σ H5 hj ⟨y,rfl,rfl,hJ⟩
     unfold jp at hj;rw[aW] at hj
     cases ej:(bg R n)[j]? with
     |none=>rw[ej] at hj;cases hj
     |some i0=>
      rw[ej] at hj;cases hj;have hm:i0∈bg R n:=ba ej;have Hi:=eO hm;obtain⟨k,hk,ek⟩:=xk.mp (L7 fC ej);have ek:(iu tz R n j)[k]? =some i0:=by rw[cN hk,ek]
      have wz:∀{ts' :av} {I G' :List Nat},ZW H3 m ts' R ws ms I G' (ws.getD i0 0)=some (.tup (mh (R.getD i0 (0,0)).1 (br R i0))):=fun{ts' I G'}=>by
       have e:=(W3.way i0 Hi).2;rw[oR (aD e W3.tl (by intro z;cases z)) (aD e W3.ca (by intro z;cases z)) (aD e W3.gn (by intro z;cases z))];exact e
      have ekv:(Q2 R ms (iu tz R n j))[k]? =some (qZ (R.getD i0 (0,0)).1 (br R i0),V.ref (ms.getD i0 0)):=by
       unfold Q2;rw[aW,ek];rfl
      have hJ' :=hJ;rw[bj] at hJ'
      have hlg:(jp ws (G' ++(bg R n).take j)).length<sizeLine:=by
       unfold jp;rw[aN,bj];exact dR (show _≤1000 by lia) (by decide)
      refine⟨_,rfl,m.d,_,rfl,Vg (k:=kC) (v:= .ref m.ca) (by kernel_rfl),.inr (.inr (.inl ⟨rfl,.inr ⟨_,Dl n1⟩⟩)),_,rfl,m.ca,_,k,_,ws.getD i0 0,_,rfl,rfl,Dl n1,wz,ekv,?_⟩
      have eI:(Q2 R ms (iu tz R n j)).eraseIdx k=Q2 R ms (iu tz R n (j+1)):=by
       unfold Q2;rw[qp,iJ (zg tz R n j) ek,A9 ej]
      rw[eI,NU n1];refine⟨_,rfl,m.d,_,rfl,Vg (k:=kN) (v:= .ref m.gn) (by kernel_rfl),.inl ⟨rfl,_,bw.of (Dt n2 n3)⟩,_,rfl,m.gn,_,_,rfl,rfl,Dt n2 n3,hlg,?_⟩
      have eG:jp ws (G' ++(bg R n).take j)++[V.ref (ws.getD i0 0)]=jp ws (G' ++(bg R n).take (j+1)):=by
       unfold jp;rw[ju,ej,←fB,cg (l₁:=G' ++(bg R n).take j)];rfl
      rw[eG,Pf n2 n3];refine⟨_,rfl,rfl,?_⟩
      have Ab:(iu tz R n (j+1)).length+1=(iu tz R n j).length:=by
       rw[A9 ej,←iJ (zg tz R n j) ek,List.length_eraseIdx,aC hk]
       lia
      rw[ju,ej,←fB,bj,bj];show _+(_+1)≤_
      lia
    ·rintro σ H5 ⟨y,rfl,rfl,hJ⟩
     have hlen:(jp ws (bg R n)).length=(bg R n).length:=by unfold jp;rw[aN]
     rw[hlen,DQ tz R hnz] at hJ;rw[hlen,DQ tz R hnz];refine⟨_,_,_,rfl,rfl,fun i hi=> ?_,hJ⟩;rcases cj.mp hi with h|h
     ·exact hG i h
     ·exact eO (mw h)
  ·rintro σ H4 ⟨x,y,G',rfl,rfl,hG,V6⟩
   rw[aN,iK] at V6 ⊢;have W4:=W3.ended (pF _ _) hG V6;refine⟨_,rfl,q l _ _ Ab lz W4 (fun c o h e=> ?_) (fun c xs e=> ?_)⟩
   ·rw[oR (show c≠m.bl from fun z=>h (z▸inl m.Dd)) (show c≠m.ca from fun z=>h (z▸adz)) (show c≠m.gn from fun z=>h (z▸inl m.Dq))];exact s3 _ _ e
   ·rw[oR (aD e Wd.tl (by intro z;cases z)) (aD e Wd.ca (by intro z;cases z)) (aD e Wd.gn (by intro z;cases z))];exact s3 _ _ e
end
theorem zt{f:Nat→List ww}{g:Nat→V}{i:Nat}:∀{I:List Nat},i∈I→(∀j∈I,f j=f i→j=i)→bR (I.map fun j=>(f j,g j)) (f i)=some (g i)
 |[],h,_=>by cases h
 |a::r,h,u=>by
  by_cases z:f a=f i
  ·have:a=i:=u a bJ z;subst this;exact cZ rfl
  ·rw[cy,cL z];rcases bq.mp h with rfl|h
   ·exact absurd rfl z
   ·exact zt h fun j hj=>u j (a_ _ hj)
theorem aF.at_{H:Hp}{m:MW}{ps ts:av}{L top:Nat}{R:Rm}{ws ms:aH}{cs:cO}{G:List Nat}(W:aF H m ps ts L top R ws ms cs G)(hr:∀r∈R,1≤r.2){i:Nat}(hi:i∈b_ ts R):∃vs,cs[i]? =some vs∧dq H m.ca (.ref (ws.getD i 0)) (some (.ref (ms.getD i 0)))∧H (ms.getD i 0)=some (.lst vs):=by
 obtain⟨vs,e1,e2⟩:=W.mm i hi;have hl:=cE hi;have g:=dq.t (k:=qZ (R.getD i (0,0)).1 (br R i)) W.ca (W.way i hl).2
 have hv:bR (ze ts R ms) (qZ (R.getD i (0,0)).1 (br R i))=some (.ref (ms.getD i 0)):=by
  unfold ze;refine zt (f:=fun i=>qZ (R.getD i (0,0)).1 (br R i)) (g:=fun i=>V.ref (ms.getD i 0)) hi fun j hj e=> ?_;obtain⟨h1,h2⟩:=uu e;exact pW hr (h1▸gD (cE hj)) (gD hl) h2
 rw[hv] at g;exact⟨vs,e1,g,e2⟩
section
variable{P:Program}{w:World}{K:Frag}{mg:Str→aQ}{base:Heap}{A:qa}
noncomputable def U2:Sp:=fun vs H Q _=>∃m ps ts L top R ws ms cs G,vs=[.ref m.d]∧aF H m ps ts L top R ws ms cs G∧(∀r∈R,1≤r.2)∧ps.length=ts.length∧ts.length≤101∧R.length≤1000∧
 ∀v H',ax H H'→yY ps ts L R cs H' v→Q v H'
theorem wK(T:Txt K mg A):bC P w K mg base eC 3 A.oI A.n9 ["_law_world_here"] U2:=by
 refine T.oP.F.fV fP ?_
 rintro c_ Ar outer s H vs Q E hr ⟨m,ps,ts,L,top,R,ws,ms,cs,G,rfl,M,hrr,hl,ht1,hR,q⟩
 have hu:=dy hr;have nz:=fJ ts;refine⟨_,(ah (fG 1 fP.nd (bY gA)) (ah (A2 (cK (dO (dm T) hr T.cX aE (aX (pv 0)))) (iO 2 fP.nd) (ah (fG 3 fP.nd (Dv fM T.j9 Boot.«tuple» (aX (Bk ["_law_way","_law_world_here"] 1 [0] (cK (de a7 (gY hu (pv 0) aR) (pv 2))) (fun _ _ _ _ _=>⟨(iO 0 (show(["_law_way","_law_world_here"]:aJ).Nodup by decide+kernel)),qM,(Dv (oC (K:=K) rfl) T.j9 Boot.«tuple» (aX (gY hu (gY hu (pv 1) aR) (pv 0))))⟩))))) (ao (bB (gu fc PySem.F.slot_list_append PySem.F.type_list_append cJ (pv 1) (aX (gF (ai (pv 2) (ai (de a7 (gY hu (pv 0) aR) (pv 2)) (aX (pv 3))))))))))) (ao (aK (gF (ai (gY hu (pv 0) aR) (aX (Dv fM T.j9 Boot.«tuple» (aX (pv 1)))))))))),?_⟩;refine⟨(show 0≤sizeLine by decide),fun fl xQ=> ?_⟩;have s0:=ax.upd (o:= .lst []) xQ;have e0:upd H fl (.lst []) fl=some (.lst []):=ae;generalize upd H fl (.lst [])=H0 at s0 e0;refine⟨_,rfl,m,ps,ts,L,top,R,ws,ms,cs,G,rfl,M.same s0,by lia,fun sl H1 adh s1 Cz=> ?_⟩;have Eo:sl≠fl:=(aq e0 adh).symm;refine⟨sl,rfl,⟨_,bw.of Cz⟩,?_⟩;refine dG (K:=K) (a:=sl) (xs:=(aw ts).map nV) (fun j σ H' =>∃(x2 x3:Option V) (ys:aA),σ=[some (.ref m.d),some (.ref fl),x2,x3]∧H' fl=some (.lst ys)∧ys.length=j∧(∀i x,ys[i]? =some x→∃n o,(aw ts)[i]? =some n∧ps[n]? =some o∧CJ R cs H' n o x)∧∀c q,c≠fl→H1 c=some q→H' c=some q) ⟨_,_,[],rfl,s1 _ _ e0,rfl,(fun i x e=>by rw[List.getElem?_nil] at e;cases e),fun c q _ e=>e⟩ ?_ ?_ ?_
 ·rintro j σ H' _ ⟨x2,x3,ys,rfl,_,_,_,kk⟩
  exact bw.of (kk _ _ Eo Cz)
 ·rintro j x σ H2 hx ⟨x2,x3,ys,rfl,hf2,jG,hE,kk⟩
  rw[aW] at hx
  cases en:(aw ts)[j]? with
  |none=>rw[en] at hx;cases hx
  |some n=>
   rw[en] at hx;cases hx;have fC:ts[n]? =some none:=eq_of_beq (cm.mp (ba en));have kU:=(aS.mp en).1
   have AU:n<ps.length:=by
    have:=(aS.mp fC).1
    lia
   have NK:ps[n]? =some ps[n]:=by simp[AU]
   have sH2:ax H H2:=fun c q e=>kk c q (aq e xQ) (s1 _ _ (s0 _ _ e));have M2:=M.same sH2;have xj:=i4 R n;obtain⟨gl,hgr,hg⟩:=M2.room AU;have s3:ax H2 H2:=ax.refl H2;refine⟨_,rfl,m.d,_,rfl,M2.WZ,_,rfl,m.rl,_,n,.ref gl,rfl,rfl,bw.of M2.rl,b9 (by rw[aW,hgr];rfl),gl,rfl,⟨_,bw.of hg⟩,?_⟩;have Jg:(jp ws (bg R n)).length=(bg R n).length:=aN ..;refine ub (fun j v H' =>∃u m vs,v= .ref u∧(bg R n)[j]? =some m∧cs[m]? =some vs∧H' u=some (.tup vs)) (hX (bw.of hg)).g (by rw[Jg];exact ck (bz (by lia))) ?_ ?_ ?_
   ·rintro j v Ha Hb kt ⟨u,m,vs,h1,h2,h3,h4⟩
    exact⟨u,m,vs,h1,h2,h3,kt _ _ h4⟩
   ·intro i x H' C1 hi sm hx c1;rw[Jg] at hi;have M' :=(M2.same s3).same sm;have ei:=cU 0 hi;have Yy:=eO (ba ei);have Lb:=gU (ba ei);obtain⟨vs,e2,e4,e5⟩:=M'.at_ hrr (fk Yy (by rw[Lb];exact fC));unfold jp at hx;rw[aW,ei] at hx;cases hx;refine⟨(eM.refl _).own (by decide),?_⟩;refine⟨_,rfl,m.d,_,rfl,M'.BQ,_,rfl,m.ca,_,rfl,e4,_,_,rfl,.inl ⟨bw.of e5,fun u hu=>c1 _ _ (ax.upd hu) ⟨u,_,vs,rfl,ei,e2,ae⟩⟩⟩
   ·intro p H4 K9 hp sm DE EM hE2;rw[Jg] at EM;refine⟨p,_,rfl,.inl ⟨bw.of DE,fun tt N7=> ?_⟩⟩;have s5:=ax.upd (o:= .tup K9) N7;have e5:upd H4 tt (.tup K9) tt=some (.tup K9):=ae;generalize upd H4 tt (.tup K9)=H5 at s5 e5;have s25:=s3.trans (sm.trans s5);have M5:=M2.same s25;refine⟨_,rfl,.inl ⟨rfl,_,bw.of (s25 _ _ hf2)⟩,?_⟩;refine⟨_,rfl,_,rfl,m.d,_,rfl,M5.Of,_,rfl,m.ar,_,_,_,rfl,rfl,bw.of M5.hl,nQ NK,_,rfl,(show 3≤sizeLine by decide),fun t ht=> ?_⟩;have s6:=ax.upd (o:= .tup [nV n,oV ps[n],.ref tt]) ht;have e6:upd H5 t (.tup [nV n,oV ps[n],.ref tt]) t=some (.tup [nV n,oV ps[n],.ref tt]):=ae;generalize upd H5 t (.tup [nV n,oV ps[n],.ref tt])=H6 at s6 e6;have s26:=s25.trans s6;refine⟨fl,_,_,rfl,rfl,s26 _ _ hf2,by rw[jG];exact bz (by lia),?_⟩
    have El:∀c xs,H6 c=some (.tup xs)→upd H6 fl (.lst (ys++[.ref t])) c=some (.tup xs):=fun c xs e=>by
     rw[af (aD e (s26 _ _ hf2) (by intro z;cases z))];exact e
    refine⟨_,_,ys++[.ref t],rfl,ae,by rw[bj,jG];rfl,fun i x e=> ?_,fun c q h e=> ?_⟩
    ·by_cases hi:i<ys.length
     ·rw[bV hi] at e;obtain⟨n',o',e1,e2,e3⟩:=hE i x e;exact⟨n',o',e1,e2,e3.kept fun c xs e=>El c xs (s26 _ _ e)⟩
     ·rw[cF (by lia)] at e
      have Hi:i - ys.length=0:=by
       have:=(aS.mp e).1;simp at this
       lia
      rw[Hi] at e;cases e;have hij:i=j:=by lia
      subst hij;refine⟨n,_,en,NK,t,tt,K9,rfl,El _ _ e6,El _ _ (s6 _ _ e5),EM,fun i2 x2 e2=> ?_⟩;obtain⟨u,m',vs,f1,f2,f3,f4⟩:=hE2 i2 x2 e2;exact⟨u,m',vs,f1,f2,f3,El _ _ (s6 _ _ (s5 _ _ f4))⟩
    ·rw[af h];exact s26 _ _ (kk c q h e)
 ·rintro σ H2 ⟨x2,x3,ys,rfl,hf2,jG,hE,kk⟩
  have sH2:ax H H2:=fun c q e=>kk c q (aq e xQ) (s1 _ _ (s0 _ _ e));rw[aN] at jG;refine⟨_,rfl,m.d,_,rfl,(M.same sH2).getL,_,rfl,fl,_,rfl,.inl ⟨bw.of hf2,fun tt N7=>⟨(show 2≤sizeLine by decide),fun t ht=> ?_⟩⟩⟩;have s3:=ax.upd (o:= .tup ys) N7;have s4:=ax.upd (o:= .tup [V.int L,.ref tt]) ht;refine q _ _ (sH2.trans (s3.trans s4)) ⟨t,tt,ys,rfl,ae,s4 _ _ ae,jG,fun j x e=> ?_⟩;obtain⟨n,o,e1,e2,e3⟩:=hE j x e;exact⟨n,o,e1,e2,e3.kept fun c xs e=>s4 _ _ (s3 _ _ e)⟩
end
open PySem.SeqAt
theorem rY:∀xs:List (Nat×Nat),PyData.canLayAll0 (xs.map fun x=>eR x.1 x.2)=true
 |[]=>by simp[PyData.canLayAll0]
 |x::r=>by
  have ih:=rY r;simp only[cy,PyData.canLayAll0,eR,PyData.canLay0] at ih ⊢;rw[ih];rfl
theorem Eg:∀xs:List (Nat×Nat),PyData.depthAll (xs.map fun x=>eR x.1 x.2)≤2
 |[]=>by simp[PyData.depthAll]
 |x::r=>by
  have ih:=Eg r;simp only[cy,PyData.depthAll,eR,PyData.depth] at ih ⊢
  lia
theorem DY(xs:List (Nat×Nat)):shaped (.list (xs.map fun x=>eR x.1 x.2))=true:=by
 show(PyData.canLay0 (.list (xs.map fun x=>eR x.1 x.2))&&decide (PyData.depth (.list (xs.map fun x=>eR x.1 x.2))≤64))=true;rw[gc];refine⟨?_,bu ?_⟩
 ·simp only[PyData.canLay0];exact rY xs
 ·have:=Eg xs;simp only[PyData.depth]
  lia
theorem Kh(ds:List PyData):noMix (.list ds) (.list [])=true:=by
 simp only[noMix];cases ds<;>simp only[noMixAll]
theorem Ik(ds:List PyData):PySem.Spec.same (.list ds) (.list [])=ds.isEmpty:=by
 simp only[PySem.Spec.same];cases ds<;>simp[PySem.Spec.sameAll]
theorem ET:shaped (.list [])=true:=by decide+kernel
noncomputable def D4(R:Rm)(I:List Nat):List (Nat×Nat):=I.map fun i=>((R.getD i (0,0)).1,br R i)
theorem r8{H:Hp}{R:Rm}{ws:aH}(hw:∀i,i<R.length→H (ws.getD i 0)=some (.tup (mh (R.getD i (0,0)).1 (br R i)))):∀{I:List Nat},(∀i∈I,i<R.length)→DatAll H (jp ws I) ((D4 R I).map fun x=>eR x.1 x.2)
 |[],_=> .nil
 |i::I,h=> .cons (.tup (hw i (h i bJ)) (.cons (.int _) (.cons (.int _) .nil))) (r8 hw fun j hj=>h j (a_ _ hj))
theorem Kv(R:Rm)(I:List Nat):((D4 R I).map fun x=>eR x.1 x.2).isEmpty=I.isEmpty:=by
 unfold D4;cases I<;>rfl
theorem dI.refs{H:Hp}{R:Rm}{ws:aH}(hw:∀i,i<R.length→H (ws.getD i 0)=some (.tup (mh (R.getD i (0,0)).1 (br R i)))){I:List Nat}(hI:∀i∈I,i<R.length){v:V}(h:v∈jp ws I):∃i,dI H R v (some i):=by
 obtain⟨i,hi,rfl⟩:=bM.mp h;exact⟨i,.inr ⟨i,_,rfl,rfl,hI i hi,hw i (hI i hi)⟩⟩
theorem k8(ws:aH)(I:List Nat):(jp ws I).length=I.length:=aN ..
theorem Mp{ts:av}{R:Rm}:∀i∈(aw ts).flatMap (bg R),i<R.length:=fun i hi=>by
 obtain⟨n,_,h⟩:=j8.mp hi;exact eO h
theorem yX{α β:Type}(f:α→List β){c:Nat}(h:∀x,(f x).length≤c):∀l:List α,(l.flatMap f).length≤l.length*c
 |[]=>by simp
 |a::r=>by
  rw[uq,bj,cf,rj];have:=yX f h r;have:=h a
  lia
noncomputable def PR(b:Addr):TS:=fun D σ H=>∃(x1 x2:Option V) (sl:Addr) (S:aA) (k:Nat),σ=[some (.ref b),x1,x2,some (.ref sl)]∧H sl=some (.lst S)∧sl≠b∧S.length≤1000000∧bO H b k∧k≤99999∧∀v H',(v= .int 7∨v∈S)→bO H' b (k+1)→Kept b H H'→D.rt v H'
section
variable{P:Program}{w:World}{K:Frag}{mg:Str→aQ}{base:Heap}{A:qa}
noncomputable def OX:Sp:=fun vs H Q _=>∃b m ps ts L top R ws ms cs G,∃k:Nat,vs=[.ref b,.ref m.d]∧bO H b k∧k+3≤100000∧aF H m ps ts L top R ws ms cs G∧¬b∈m.own∧ps.length=ts.length∧ts.length≤1000∧R.length≤1000∧
 ∀v o H',dI H' R v o→bO H' b (k+3)→Kept b H H'→Q v H'
theorem qh(T:Txt K mg A):bC P w K mg base eC 3 A.uh A.rF ["_law_box_here","_law_world_here"] OX:=by
 refine T.mD.F.fV kM ?_
 rintro c_ Ar outer s H vs Q E hr ⟨b,m,ps,ts,L,top,R,ws,ms,cs,G,k,rfl,B,hk,W,hb,PJ,HE,hR,q⟩
 have hu:=dy hr;have We:=hr.UY;have vt:_+100<cLine:=dR (kH (by decide:100≤16*2+200) _) (by have:=hr.un;omega);refine⟨_,(ah (fG 2 kM.nd (dO (aO T) hr T.aT aE (ai (pv 0) (aX aj)))) (ah (fG 3 kM.nd (dO (fg T) hr T.dU aE (aX (pv 1)))) (ah (bW (xL jr (pv 2) aj) (ao (aK dh)) bc) (ah (bW (xL jr (pv 2) aj) (ao (aK (de a7 (bY (ai aj (ai aj (ai (gC eD aj) (aX (bG lT (dO (aO T) hr T.aT aE (ai (pv 0) (aX (bG zA aj aj)))) (bG qK aj (bG zA aj aj)))))))) (dO (aO T) hr T.aT aE (ai (pv 0) (aX aj)))))) bc) (ah (bW (PW.pt (jac (xL jr (pv 2) aj) (ZB (xL (gk vt) (gY hu (pv 1) aR) (bY gA))))) (ao (aK (de a7 (gY hu (pv 1) aR) (dO (aO T) hr T.aT aE (ai (pv 0) (aX (lN bA T.gx Boot.«len» (aX (gY hu (pv 1) aR))))))))) bc) (jW (PR b) (ah (bW (xL (qW We) (pv 3) (bY gA)) (ao (aK aj)) bc) (ao (aK (de a7 (pv 3) (dO (aO T) hr T.aT aE (ai (pv 0) (aX (lN bA T.gx Boot.«len» (aX (pv 3)))))))))) ?T8)))))),?_⟩
 case T8=>
  rintro D σ H3 ⟨x1,x2,sl,S,k,rfl,hS,Eo,hlen,B,hk,q⟩
  refine⟨_,rfl,(show 0≤sizeLine by decide),fun e0 LM=> ?_⟩;have s4:=ax.upd (o:= .lst []) LM;have e4:upd H3 e0 (.lst []) e0=some (.lst []):=ae;generalize upd H3 e0 (.lst [])=H4 at s4 e4;by_cases hz:S=[]
  ·subst hz;refine⟨sl,e0,_,_,rfl,rfl,s4 _ _ hS,e4,.inr ⟨rfl,rfl,rfl,_,rfl,eN (q _ _ (.inl rfl) ((B.same s4).mono (by lia)) s4.kept)⟩⟩
  ·have Aj:0<S.length:=mr.mpr hz;refine⟨sl,e0,_,_,rfl,rfl,s4 _ _ hS,e4,.inl ⟨by show S.length≠0;lia,_,rfl,cQ ?_⟩⟩;refine⟨_,rfl,_,rfl,_,rfl,sl,_,rfl,.inl (bw.of (s4 _ _ hS)),b,_,k,rfl,B.same s4,by lia,by lia,by lia,fun r H5 r0 r1 B5 O5=> ?_⟩;refine mv (fun v=>v∈S) (O5.kept _ _ Eo (s4 _ _ hS)) r0 r1 (fun x hx=>hx) fun v hv=>q v _ (.inr hv) B5 (s4.kept.trans O5.kept)
 refine⟨_,rfl,b,8,k,rfl,B,by lia,by decide,by decide,fun kind H1 w0 w1 B1 O1=> ?_⟩;have W1:aF H1 m ps ts L top R ws ms cs G:=W.kept fun c o hc e=>O1.kept c o (fun z=>hb (z▸hc)) e;refine⟨_,rfl,m,ps,ts,L,top,R,ws,ms,cs,G,rfl,W1,PJ,HE,hR,fun sl H2 nz s2 FT=> ?_⟩;have W2:=W1.same s2;have B2:=B1.same s2;have K2:Kept b H H2:=O1.kept.trans s2.kept
 have Eo:sl≠b:=fun z=>by
  obtain⟨x,y,u,e,_⟩:=B1;rw[z,e] at nz;cases nz
 refine⟨_,rfl,rfl,_,rfl,?_⟩;refine ny (fun _=>q _ none _ (.inl ⟨rfl,.inl rfl⟩) (B2.mono (by lia)) K2) (fun _=> ?_);refine⟨_,rfl,rfl,_,rfl,?_⟩;refine ny (fun _=> ?_) (fun _=> ?_)
 ·refine⟨1,rfl,_,rfl,10,30,rfl,rfl,⟨by decide,by decide,by decide⟩,b,_,k+1,rfl,B2,by lia,by decide+kernel,by decide+kernel,fun r H3 r0 r1 B3 O3=> ?_⟩;refine⟨10,29,rfl,rfl,⟨by decide,by decide,by decide⟩,5,_,rfl,rfl,.inl ⟨by decide,by decide⟩,_,_,rfl,rfl,(show 4≤sizeLine by decide),fun p hp=> ?_⟩;have s4:=ax.upd (o:= .lst [V.int 0,V.int 1,V.int (-1),V.int (r - 5*10 ^ (29:Int).toNat)]) hp;have e4:upd H3 p (.lst [V.int 0,V.int 1,V.int (-1),V.int (r - 5*10 ^ (29:Int).toNat)]) p=some (.lst [V.int 0,V.int 1,V.int (-1),V.int (r - 5*10 ^ (29:Int).toNat)]):=ae
  have Tc:p≠b:=fun z=>by
   obtain⟨x,y,u,e,_⟩:=B3;rw[z,e] at hp;cases hp
  refine⟨_,rfl,b,4,k+2,rfl,B3.same s4,by lia,by decide,by decide,fun j H5 j0 j1 B5 O5=> ?_⟩;refine mv (fun v=>∃i:Int,v= .int i) (O5.kept _ _ Tc e4) j0 j1 ?_ fun v hv=>q v none _ (.inl ⟨rfl,.inr hv⟩) B5 (((K2.trans O3.kept).trans s4.kept).trans O5.kept);intro x hx;simp only[bq,cR,cV] at hx
  rcases hx with rfl|rfl|rfl|rfl<;>exact⟨_,rfl⟩
 ·have wP:∀H3,ax H2 H3→PR b {nx:=fun _ H' =>Q .bK H',rt:=Q} [some (.ref b),some (.ref m.d),some (.int kind),some (.ref sl)] H3:=fun H3 s3=>by
   refine⟨_,_,sl,_,k+1,rfl,s3 _ _ FT,Eo,?_,B2.same s3,by lia,fun v H' hv B' K' => ?_⟩
   ·rw[k8];exact aY (yX (bg R) (fun n=>aY (i4 R n) hR) (aw ts)) (Nat.mul_le_mul_right 1000 (aY (fJ ts) HE))
   ·rcases hv with rfl|hv
    ·exact q _ none _ (.inl ⟨rfl,.inr ⟨7,rfl⟩⟩) (B'.mono (by lia)) ((K2.trans s3.kept).trans K')
    ·obtain⟨i,hi⟩:=dI.refs (H:=H3) (fun i hi=>((W2.same s3).way i hi).2) Mp hv
     exact q _ _ _ (hi.kt fun c xs e=>K' _ _ (by
      obtain⟨x,y,u,eb,_⟩:=B2.same s3;exact aD e eb (by intro z;cases z)) e) (B'.mono (by lia)) ((K2.trans s3.kept).trans K')
  refine⟨_,rfl,rfl,_,rfl,?_⟩;refine ny (fun _=> ?_) (fun _=>wP H2 (ax.refl H2));refine⟨_,rfl,m.d,_,rfl,W2.U8,(show 0≤sizeLine by decide),fun e0 LM=> ?_⟩;have s3:=ax.upd (o:= .lst []) LM;have W3:=W2.same s3;have D3:=r8 (fun i hi=>(W3.way i hi).2) W3.gI;refine⟨_,_,.lst W3.gn D3,.lst ae .nil,DY _,ET,Kh _,_,rfl,?_⟩;rw[Ik,Kv]
  cases hG:G.isEmpty with
  |true=>exact wP _ s3
  |false=>
   have hg0:0<G.length:=mr.mpr (List.isEmpty_eq_false_iff.mp hG);have hgl:=W.gl;have eln:=k8 ws G;refine eN ?_;refine⟨_,rfl,m.d,_,rfl,W3.U8,_,rfl,_,rfl,m.d,_,rfl,W3.U8,m.gn,_,rfl,.inl (bw.of W3.gn),b,_,k+1,rfl,B2.same s3,by lia,by lia,by lia,fun r H5 r0 r1 B5 O5=> ?_⟩;have ngb:m.gn≠b:=fun z=>hb (z▸W.sub _ (a_ _ (a_ _ m.Dq)));refine mv (fun v=>v∈jp ws G) (O5.kept _ _ ngb W3.gn) r0 r1 (fun x hx=>hx) fun v hv=> ?_;obtain⟨i,hi⟩:=dI.refs (fun i hi=>(W3.way i hi).2) W3.gI hv
   exact q _ _ _ (hi.kt fun c xs e=>O5.kept _ _ (by
    obtain⟨x,y,u,eb,_⟩:=B2.same s3;exact aD e eb (by intro z;cases z)) e) (B5.mono (by lia)) ((K2.trans s3.kept).trans O5.kept)
end
theorem dI.snoc{H:Hp}{R:Rm}{x:Nat×Nat}{v:V}{o:Option Nat}(h:dI H R v o):dI H (R++[x]) v o:=by
 rcases h with h|⟨i,t,h1,h2,h3,h4⟩
 ·exact .inl h
 ·exact .inr ⟨i,t,h1,h2,by rw[bj];exact eF h3 (jO _ _),by rw[dv h3,eU h3];exact h4⟩
theorem e_.snoc{H:Hp}{R:Rm}{cs:cO}{oS:Nat→av}(c:e_ H R cs oS){t n:Nat}(hn:n≤6):e_ H (R++[(t,n)]) (cs++[List.replicate n .bK]) (fun i=>if i=cs.length then List.replicate n none else oS i):=fun i xs e=>by
 by_cases hi:i<cs.length
 ·rw[bV hi] at e;obtain⟨h1,h2,h3⟩:=c i xs e;show xs.length≤6∧(if i=cs.length then _ else _:av).length=xs.length∧∀(k:Nat) v,xs[k]? =some v→dI H _ v ((if i=cs.length then _ else _:av).getD k none);rw[au (by lia)];exact⟨h1,h2,fun k v e=>(h3 k v e).snoc⟩
 ·rw[cF (by lia)] at e
  have Hi:i - cs.length=0:=by
   have:=(aS.mp e).1;simp at this
   lia
  rw[Hi] at e;cases e;have hic:i=cs.length:=by lia
  show(List.replicate n V.bK).length≤6∧(if i=cs.length then _ else _:av).length=(List.replicate n V.bK).length∧∀(k:Nat) v,(List.replicate n V.bK)[k]? =some v→dI H _ v ((if i=cs.length then _ else _:av).getD k none);rw[aC hic,jE,jE];refine⟨hn,rfl,fun k v e=> .inl ⟨?_,.inl (List.eq_of_mem_replicate (ba e))⟩⟩;rw[bD,uA]
  split<;>rfl
theorem e_.put{H:Hp}{R:Rm}{cs:cO}{oS:Nat→av}(c:e_ H R cs oS){i k:Nat}{xs:aA}{v:V}{o:Option Nat}(hc:cs[i]? =some xs)(hv:dI H R v o):e_ H R (cs.set i (xs.set k v)) (fun j=>if j=i then(oS i).set k o else oS j):=fun j ys e=>by
 obtain⟨h1,h2,h3⟩:=c i xs hc;show ys.length≤6∧(if j=i then _ else _:av).length=ys.length∧∀(k' :Nat) v',ys[k']? =some v'→dI H R v' ((if j=i then _ else _:av).getD k' none);rw[tF hc] at e;by_cases z:j=i
 ·subst z;rw[aC rfl] at e;cases e;rw[aC rfl,ij,ij];refine⟨h1,h2,fun k' v' e=> ?_⟩;by_cases y:k=k'
  ·subst y
   have hk:k<xs.length:=by
    have:=(aS.mp e).1;rw[ij] at this;exact this
   rw[tO hk] at e;cases e;rw[bD,tO (by lia)];exact hv
  ·rw[mF y] at e;have:=h3 k' v' e;rw[bD,mF y,←bD];exact this
 ·rw[au (fun q=>z q.symm)] at e;rw[au z];exact c j ys e
theorem aF.put{H:Hp}{m:MW}{ps ts:av}{L top:Nat}{R:Rm}{ws ms:aH}{cs:cO}{G:List Nat}(W:aF H m ps ts L top R ws ms cs G){i:Nat}(hi:i∈b_ ts R){vs vs' :aA}(hc:cs[i]? =some vs):aF (upd H (ms.getD i 0) (.lst vs')) m ps ts L top R ws ms (cs.set i vs') G:=by
 obtain⟨vs0,e0,hl⟩:=W.mm i hi;rw[hc] at e0;cases e0;have hm:ms[i]? =some (ms.getD i 0):=cU 0 (by rw[W.ml];exact cE hi)
 have kp:∀{c:Addr} {o:HO},(∀xs,o≠.lst xs)→H c=some o→upd H (ms.getD i 0) (.lst vs') c=some o:=fun ho e=>by
  rw[af (aD e hl (fun z=>ho _ z))];exact e
 have ls:∀{j:Nat} {b:Addr} {xs:aA},(m.ls ms)[j]? =some b→j≠5+m.nA.length+i→H b=some (.lst xs)→upd H (ms.getD i 0) (.lst vs') b=some (.lst xs):=fun hb h e=>by
  rw[af (W.ne hb (m.gm hm) h)];exact e
 refine⟨kp (by intro _ z;cases z) W.ob,ls m.g0 (by lia) W.hl,ls m.g1 (by lia) W.tl,ls m.g2 (by lia) W.rl,W.Nm,fun n b e=>ls (m.gr e) (by have:=(aS.mp e).1;lia) (W.rm n b e),ls m.g3 (by lia) W.gv,kp (by intro _ z;cases z) W.ca,ls m.g4 (by lia) W.gn,W.gI,W.gl,W.wW,fun j hj=>⟨(W.way j hj).1,kp (by intro _ z;cases z) (W.way j hj).2⟩,W.ml,fun j hj=> ?_,W.nd,W.sub,fun c QB => ?_⟩
 ·rw[tF hc];by_cases z:i=j
  ·subst z;rw[aC rfl];exact⟨vs',rfl,ae⟩
  ·rw[au z];obtain⟨xh,f1,f2⟩:=W.mm j hj;have hmj:ms[j]? =some (ms.getD j 0):=cU 0 (by rw[W.ml];exact cE hj);exact⟨xh,f1,ls (m.gm hmj) (by lia) f2⟩
 ·by_cases z:c=ms.getD i 0
  ·exact⟨_,by rw[z];exact ae⟩
  ·rw[af z];exact W.al c QB
structure eE(C:Addr)(H:Hp)(a:HA)(m:MW)(ps ts:av)(L pk:Nat)(R:Rm)(N:Nat)(rs ws ms:aH)(cs:cO)(G:List Nat):Prop where
 h:aV C H a ps ts L pk R N rs cs
 mo:aF H m ps ts L pk R ws ms cs G
 G:Good ps ts L pk R
 cl:cs.length=R.length
 cz:∀(i:Nat) (vs:aA),cs[i]? =some vs→vs.length=(R.getD i (0,0)).2
 ok:∃oS,e_ H R cs oS
 ap:∀c∈a.own,¬c∈m.own
section
variable{C:Addr}{H H' H4 H5 H6:Hp}{a:HA}{m m' :MW}{ps ts:av}{L pk:Nat}{R:Rm}{N:Nat}{rs ws ms:aH}{cs:cO}{G G' :List Nat}{t:Nat}
theorem eE.kept(t:eE C H a m ps ts L pk R N rs ws ms cs G)(k:∀c o,c∈a.own∨c∈m.own→H c=some o→H' c=some o)(kt:∀c xs,H c=some (.tup xs)→H' c=some (.tup xs)):eE C H' a m ps ts L pk R N rs ws ms cs G:=
 ⟨t.h.kept fun c o hc e=>k c o (.inl hc) e,t.mo.kept fun c o hc e=>k c o (.inr hc) e,t.G,t.cl,t.cz,t.ok.imp fun _ c=>c.kt kt,t.ap⟩
theorem eE.same(t:eE C H a m ps ts L pk R N rs ws ms cs G)(s:ax H H'):eE C H' a m ps ts L pk R N rs ws ms cs G:=t.kept (fun c o _ e=>s c o e) (fun c xs e=>s c _ e)
theorem eE.r1(t:eE C H a m ps ts L pk R N rs ws ms cs G):∀r∈R,1≤r.2:=fun r hr=>(t.G.rw r hr).1
theorem eE.Yp(t:eE C H a m ps ts L pk R N rs ws ms cs G){i:Nat}(hi:i∈b_ ts R):zj H ts R i (ws.getD i 0):=⟨cE hi,lX hi,(t.mo.way i (cE hi)).2⟩
theorem dI.valAt{v:V}{o:Option Nat}(h:dI H R v o):Bw H R v:=by
 rcases h with⟨_,h|h⟩|⟨i,t,h1,h2,h3,h4⟩
 ·exact .inl h
 ·exact .inr (.inl h)
 ·exact .inr (.inr ⟨i,t,h2,h3,h4⟩)
theorem VG{p q:Addr}{x y:aA}{H H' :Hp}(k:mO p q H H')(hp:H p=some (.lst x))(hq:H q=some (.lst y))(c:Addr)(xs:aA)(e:H c=some (.tup xs)):H' c=some (.tup xs):=k c _ (aD e hp (by intro z;cases z)) (aD e hq (by intro z;cases z)) e
theorem C7{b:Addr}{k:Nat}{H H' :Hp}(K:Kept b H H')(B:bO H b k)(c:Addr)(xs:aA)(e:H c=some (.tup xs)):H' c=some (.tup xs):=by
 obtain⟨x,y,z,hb,_⟩:=B;exact K c _ (aD e hb (by intro z;cases z)) e
theorem eE.begin(Z:eE C H4 a m ps ts L pk R N rs ws ms cs G)(ht:t<ps.length)(aaA:ps.length≤100)(F5:iX C H5 a.f a.pa a.ta (ps++[some t]) (ts++[none]))(K5:mO a.pa a.ta H4 H5)
 (M6:aF H6 m' (ps++[some t]) (ts++[none]) L pk R ws ms cs G) (K6:GU H5 m m' H6):eE C H6 a m' (ps++[some t]) (ts++[none]) L pk R N rs ws ms cs G∧m'.d=m.d∧(∀c∈m'.own,c∈m.own∨H4 c=none)∧(∀c o,¬c∈a.own→¬c∈m.own→H4 c=some o→H6 c=some o)∧∀c xs,H4 c=some (.tup xs)→H6 c=some (.tup xs):=by
 obtain⟨o1,o2,o3,o4,o5⟩:=Z.h.zu;obtain⟨p1,p2,p3,p4⟩:=K6;have h5:=Z.h.frames F5 K5;have h6:aV C H6 a (ps++[some t]) (ts++[none]) L pk R N rs cs:=h5.kept fun c o hc e=>p3 c o (Z.ap c hc) e;have hW:=Z.G.W.len;have Aj:=Z.G.W.pos;have kt:∀c xs,H4 c=some (.tup xs)→H6 c=some (.tup xs):=fun c xs e=>p4 c xs (VG K5 Z.h.pl Z.h.tl c xs e);refine⟨⟨h6,M6,⟨Z.G.W.begun ht aaA,?_,fun r hr=> ?_,Z.G.lo,Z.G.hi,?_,Z.G.pk⟩,Z.cl,Z.cz,Z.ok.imp fun _ c=>c.kt kt,fun c hc hm=> ?_⟩,p1,fun c hc=> ?_,fun c o h1 h2 e=>p3 c o h2 (K5 c o (fun z=>h1 (z▸o2)) (fun z=>h1 (z▸o3)) e),kt⟩
 ·rw[bV (by lia)];exact Z.G.g
 ·obtain⟨r1,r2,r3⟩:=Z.G.rw r hr;refine⟨r1,r2,?_⟩;rw[bj]
  lia
 ·rw[DW ts fun r hr=>by have:=(Z.G.rw r hr).2.2;lia];exact Z.G.use
 ·rcases p2 c hm with h|h
  ·exact Z.ap c hc h
  ·obtain⟨o,e⟩:=h5.al c hc;rw[h] at e;cases e
 ·rcases p2 c hc with h|h
  ·exact .inl h
  ·refine .inr ?_
   cases e:H4 c with
   |none=>rfl
   |some o=>
    by_cases z:c∈a.own
    ·obtain⟨o',e'⟩:=h5.al c z;rw[h] at e';cases e'
    ·have:=K5 c o (fun y=>z (y▸o2)) (fun y=>z (y▸o3)) e;rw[h] at this;cases this
theorem eE.finish(Z:eE C H4 a m ps ts L pk R N rs ws ms cs G)(h0:t≠0)(ht:t<ps.length)(F5:iX C H5 a.f a.pa a.ta ps (xz t (bt ps ts t) ts))(K5:mO a.pa a.ta H4 H5)
 (M6:aF H6 m ps (xz t (bt ps ts t) ts) L pk R ws ms cs G') (p3:∀c o,¬c∈m.own→H5 c=some o→H6 c=some o) (p4:∀c xs,H5 c=some (.tup xs)→H6 c=some (.tup xs)):eE C H6 a m ps (xz t (bt ps ts t) ts) L pk R N rs ws ms cs G'∧(∀c o,¬c∈a.own→¬c∈m.own→H4 c=some o→H6 c=some o)∧∀c xs,H4 c=some (.tup xs)→H6 c=some (.tup xs):=by
 obtain⟨o1,o2,o3,o4,o5⟩:=Z.h.zu;have h5:=Z.h.frames F5 K5;have h6:aV C H6 a ps (xz t (bt ps ts t) ts) L pk R N rs cs:=h5.kept fun c o hc e=>p3 c o (Z.ap c hc) e;have kt:∀c xs,H4 c=some (.tup xs)→H6 c=some (.tup xs):=fun c xs e=>p4 c xs (VG K5 Z.h.pl Z.h.tl c xs e);refine⟨⟨h6,M6,⟨Z.G.W.ended ht (bt ps ts t),?_,Z.G.rw,Z.G.lo,Z.G.hi,aY (Co _ _ _ _) Z.G.use,Z.G.pk⟩,Z.cl,Z.cz,Z.ok.imp fun _ c=>c.kt kt,Z.ap⟩,fun c o h1 h2 e=>p3 c o h2 (K5 c o (fun z=>h1 (z▸o2)) (fun z=>h1 (z▸o3)) e),kt⟩;rcases sN t (bt ps ts t) ts 0 with h|⟨h,_⟩
 ·rw[h];exact Z.G.g
 ·exact absurd h (JS Z.G.W h0)
end
end My
namespace L2
open PySem PySem.Spec PySem.SeqAt PyProof.Rows
section
variable{X:Cx}
theorem A6(hu:X.A.units+100<cLine):kW X (compareOp .Eq) (fun x y H Q=>∃d e,Dat H x d∧Dat H y e∧shaped d=true∧shaped e=true∧noMix d e=true∧Q (.bl (PySem.Spec.same d e)) H):=by
 intro pins s σ H x y v u Q I rx ry h;obtain⟨d,e,hd,he,s1,s2,m,q⟩:=h;obtain⟨⟨as,rd⟩,_⟩:=hd.reads I.bE rx;obtain⟨⟨bs,re⟩,_⟩:=he.reads I.bE ry;exact eq_dataH_same rd re s1 s2 (by lia) m ⟨.bl _,H,I,rfl,q⟩
end
end L2
namespace My
open PySem L2 PyProof.Rows
noncomputable def yv(C b:Addr)(L kp:Nat)(H:Hp)(a:HA)(m:MW)(R:Rm)(r N:Nat)(Z:Hp→Prop):Prop:=∀a' m' Ja ts' xJ R' N' zY xh zZ xv G' H',eE C H' a' m' Ja ts' L xJ R' N' zY xh zZ xv G'→a'.f=a.f→m'.d=m.d→(∀c∈a'.own,c∈a.own∨H c=none)→(∀c∈m'.own,c∈m.own∨H c=none)→(∀c o,c≠b→¬c∈a.own→¬c∈m.own→H c=some o→H' c=some o)→(∀c xs,H c=some (.tup xs)→H' c=some (.tup xs))→bO H' b kp→R'.length+ts'.length≤r+1→N'≤N+2→(∃e,R' =R++e)→Z H'
theorem yv.step{C b:Addr}{L kp j j' :Nat}{H H1:Hp}{a:HA}{m:MW}{R:Rm}{r N:Nat}{Z:Hp→Prop}(q:yv C b L kp H a m R r N Z)(K:Kept b H H1)(B:bO H b j)(B1:bO H1 b j'):yv C b L kp H1 a m R r N Z:=fun a' m' Ja ts' xJ R' N' zY xh zZ xv G' H' Z' ef ed ga gm kp' kt=>by
 have fr:∀c,H1 c=none→H c=none:=fun c h=>by
  cases e:H c with
  |none=>rfl
  |some o=>
   by_cases z:c=b
   ·obtain⟨x,y,u,eb,_⟩:=B1;rw[z,eb] at h;cases h
   ·rw[K c o z e] at h;cases h
 exact q a' m' Ja ts' xJ R' N' zY xh zZ xv G' H' Z' ef ed (fun c hc=>(ga c hc).imp id (fr c)) (fun c hc=>(gm c hc).imp id (fr c)) (fun c o hc h1 h2 e=>kp' c o hc h1 h2 (K c o hc e)) (fun c xs e=>kt c xs (C7 K B c xs e))
noncomputable def yN(C:Addr)(n:Nat):TS:=fun D σ H=>∃(b:Addr) (k kp:Nat) (a:HA) (m:MW) (ps ts:av) (L pk:Nat) (R:Rm) (N:Nat) (rs ws ms:aH) (cs:cO) (G:List Nat) (t:Nat) (kd:Int) (sl:Addr) (x4 x7 x8 x9 uL:Option V),σ=[some (.ref b),some (.ref a.f),some (.ref m.d),some (.int kd),x4,some (.int t),some (.ref sl),x7,x8,x9,uL]∧bO H b k∧k≤90900+n∧k+7≤kp+n∧¬b∈a.own∧¬b∈m.own∧eE C H a m ps ts L pk R N rs ws ms cs G∧ts[t]? =some none∧H sl=some (.lst (jp ws ((aw ts).flatMap (bg R))))∧sl≠b∧(1≤n→(aw ts).flatMap (bg R)≠[])∧R.length≤998∧N≤8000∧yv C b L kp H a m R (R.length+ts.length) N fun H' =>D.rt (.bl true) H'
theorem bO.kept{b:Addr}{k:Nat}{H H' :Hp}(B:bO H b k)(h:∀o,H b=some o→H' b=some o):bO H' b k:=by
 obtain⟨x,y,z,hb,r⟩:=B;exact⟨x,y,z,h _ hb,r⟩
theorem vi{ts:av}{t:Nat}(h:ts[t]? =some none):di ts (t:Int)=true:=by
 unfold di;rw[bu (show(0:Int)≤t by lia),cT,h];rfl
open PySem.SeqAt in
theorem mH(f p:Nat):shaped (eR f p)=true:=by
 show(PyData.canLay0 (eR f p)&&decide (PyData.depth (eR f p)≤64))=true;simp[eR,PyData.canLay0,PyData.canLayAll0,PyData.depth,PyData.depthAll]
open PySem.SeqAt in
theorem GH(f p:Nat):noMix (eR f p) (eR f p)=true:=by
 simp[eR,noMix,noMixAll]
theorem Gf:∀l:List Nat,AB (l.map nV) (l.map nV)=true
 |[]=>rfl
 |a::r=>by
  show(ER (nV a) (nV a)&&AB (r.map nV) (r.map nV))=true;rw[Gf r];simp[nV,ER]
section
variable{P:Program}{w:World}{K:Frag}{mg:Str→aQ}{base:Heap}{A:qa}
noncomputable def UI(C:Addr):Sp:=fun vs H Q _=>∃b k a m ps ts L pk R N rs ws ms cs G,vs=[.ref b,.ref a.f,.ref m.d]∧bO H b k∧k≤90000∧eE C H a m ps ts L pk R N rs ws ms cs G∧¬b∈a.own∧¬b∈m.own∧R.length≤998∧N≤8000∧yv C b L (k+12) H a m R (R.length+ts.length) N fun H' =>Q (.bl true) H'
theorem ud(T:Txt K mg A):bC P w K mg base eC 9 A.wB A.vF ["_law_box_here","_law_house","_law_world_here"] (UI A.ak):=by
 refine T.n_.F.fV dj ?_
 rintro c_ Ar outer s H vs Q E hr ⟨b,k,a,m,ps,ts,L,pk,R,N,rs,ws,ms,cs,G,rfl,B,hk,Z,Aa,zN,hR,hN,q⟩
 have hu:=dy hr;have vt:_+100<cLine:=dR (kH (by decide:100≤16*8+200) _) (by have:=hr.un;omega);have We:_<cLine:=dR (jO _ _) vt;refine⟨_,(ah (fG 3 dj.nd (dO (aO T) hr T.aT aE (ai (pv 0) (aX aj)))) (ah (fG 4 dj.nd (dO (dm T) hr T.cX aE (aX (pv 2)))) (ah (fG 5 dj.nd (de a7 (pv 4) (de a7 (bY (ai (bG lT (lN bA T.gx Boot.«len» (aX (pv 4))) aj) (aX (dO (aO T) hr T.aT aE (ai (pv 0) (aX (lN bA T.gx Boot.«len» (aX (pv 4))))))))) (dO (aO T) hr T.aT aE (ai (pv 0) (aX aj)))))) (ah (fG 6 dj.nd (dO (fg T) hr T.dU aE (aX (pv 2)))) (ah (bW (PW.pt (jac (xL zD (pv 3) aj) (ZB (xL zD (lN bA T.gx Boot.«len» (aX (gY hu (pv 2) aR))) aj)))) (ao (aK (Io jr (nu (pv 1) T.aG T.nZ (wN T) hr aE (aX (pv 5))) (dO (Am T) hr T.sR aE (ai (pv 2) (aX (pv 5))))))) bc) (jW (yN A.ak 0) (ah (bW (PW.pt (jad (xL zD (pv 3) aj) (jab (xL (qW We) (pv 6) (bY gA))))) (jW (yN A.ak 0) (ah (fG 7 dj.nd (bG fF aj (dO (aO T) hr T.aT aE (ai (pv 0) (aX (de a7 (bY (ai aj (aX aj))) (dO (aO T) hr T.aT aE (ai (pv 0) (aX aj))))))))) (ah (bW (xL Ec (pv 7) (bG lT (gY hu (pv 2) aR) (dO (l_ T) hr T.jT aE (aX (pv 2))))) (ao (aK gR)) bc) (ao (aK (Io (A6 vt) (nu (pv 1) T.aG T.mK (ql T) hr aE (ai (pv 5) (aX (pv 7)))) (dO (qj T) hr T.my aE (ai (pv 2) (ai (pv 5) (aX (pv 7)))))))))) ?agf) bc) (jW (yN A.ak 1) (ah (bW (PW.pt (jac (xL jr (pv 3) aj) (jac (xL Ec (pv 5) aj) (ZB (xL jr (dO (aO T) hr T.aT aE (ai (pv 0) (aX aj))) aj))))) (ao (aK (Io (qW We) (nu (pv 1) T.aG T.m3 (vf T) hr aE (aX (pv 5))) (dO (Aq T) hr T.rK aE (ai (pv 2) (aX (pv 5))))))) bc) (jW (yN A.ak 2) (ah (fG 8 dj.nd (de a7 (pv 6) (dO (aO T) hr T.aT aE (ai (pv 0) (aX (lN bA T.gx Boot.«len» (aX (pv 6)))))))) (ah (fG 9 dj.nd (dO (aO T) hr T.aT aE (ai (pv 0) (aX (lN bA T.gx Boot.«len» (aX (gY hu (gY hu (pv 2) aR) (pv 8)))))))) (ah (fG 10 dj.nd (dO (qh T) hr T.mD aE (ai (pv 0) (aX (pv 2))))) (ah (oT (pv 10) (n0 (gY hu (gY hu (pv 2) aR) (pv 8)) (pv 9) wT)) (ao (aK (Io uT (nu (pv 1) T.aG T.nL (uv T) hr aE (ai (pv 8) (ai (pv 9) (aX (pv 10))))) dh))))))) ?ai9)) ?Te)) ?T8)))))),?_⟩
 case ai9=>
  rintro D σ H1 ⟨b,k,kp,a,m,ps,ts,L,pk,R,N,rs,ws,ms,cs,G,t,kd,sl,x4,x7,x8,x9,uL,rfl,B,hk,JM,Aa,zN,Z,mP,nz,Eo,iB,hR,hN,q⟩
  have kb:∀{H' :Hp},Kept b H1 H'→eE A.ak H' a m ps ts L pk R N rs ws ms cs G:=fun K' =>Z.kept (fun c o hc e=>K' c o (fun z=>by rcases hc with h|h;exact Aa (z▸h);exact zN (z▸h)) e) (C7 K' B);have hlen:=k8 ws ((aw ts).flatMap (bg R));have Aj:0<((aw ts).flatMap (bg R)).length:=mr.mpr (iB (by decide));have HE:=Z.G.ts;have an_:((aw ts).flatMap (bg R)).length≤1000*1000:=aY (yX (bg R) (fun n=>aY (i4 R n) (by lia)) (aw ts)) (Nat.mul_le_mul_right 1000 (aY (fJ ts) (by lia)));refine⟨_,rfl,_,rfl,_,rfl,sl,_,rfl,.inl (bw.of nz),b,_,k,rfl,B,by lia,by lia,by lia,fun r H2 r0 r1 B2 O2=> ?_⟩;obtain⟨j,rfl⟩:∃j:Nat,r=j:=⟨r.toNat,by lia⟩;have hj:j<((aw ts).flatMap (bg R)).length:=by lia
  obtain⟨i,hij⟩:∃i,((aw ts).flatMap (bg R))[j]? =some i:=⟨_,cN hj⟩
  have hi:i∈b_ ts R:=by
   obtain⟨n,hn,hx⟩:=j8.mp (ba hij);exact fk (eO hx) (by rw[gU hx];exact eq_of_beq (cm.mp hn))
  refine⟨sl,_,j,.ref (ws.getD i 0),rfl,rfl,bw.of (O2.kept _ _ Eo nz),b9 (by unfold jp;rw[aW,hij];rfl),?_⟩;have Z2:=kb O2.kept;obtain⟨xs,e2,e4,e5⟩:=Z2.mo.at_ Z.r1 hi;have Ib:=Z.cz i xs e2;have hx1:=(Z.G.rw _ (Wp (cE hi))).1;have hx6:=(Z.G.rw _ (Wp (cE hi))).2.1;refine⟨_,rfl,_,rfl,m.d,_,rfl,Z2.mo.BQ,_,rfl,m.ca,_,rfl,e4,ms.getD i 0,_,rfl,.inl (bw.of e5),b,_,k+1,rfl,B2,by lia,by lia,by lia,fun r H3 r0 r1 B3 O3=> ?_⟩;obtain⟨kk,rfl⟩:∃kk:Nat,r=kk:=⟨r.toNat,by lia⟩;have Vf:kk<xs.length:=by lia
  have K13:Kept b H1 H3:=O2.kept.trans O3.kept;have Z3:=kb K13;have hW:=Z.G.W.len;refine⟨_,rfl,_,rfl,b,m,ps,ts,L,pk,R,ws,ms,cs,G,k+1+1,rfl,B3,by lia,Z3.mo,zN,hW,by lia,by lia,fun v o H4 hv B4 K4=> ?_⟩;have K14:Kept b H1 H4:=K13.trans K4;have Z4:=kb K14;obtain⟨xs',f2,f4,f5⟩:=Z4.mo.at_ Z.r1 hi;rw[e2] at f2;cases f2;refine⟨_,rfl,_,rfl,m.d,_,rfl,Z4.mo.BQ,_,rfl,m.ca,_,rfl,f4,_,rfl,ms.getD i 0,_,_,kk,rfl,rfl,f5,pN Vf,?_⟩;have M5:=Z4.mo.put (vs' :=xs.set kk v) hi e2;have im:ms.getD i 0∈m.own:=Z.mo.sub _ (a_ _ (a_ _ (m.FV (ba (cU 0 (by rw[Z.mo.ml];exact cE hi))))))
  have V0:∀c o,¬c∈m.own→H4 c=some o→upd H4 (ms.getD i 0) (.lst (xs.set kk v)) c=some o:=fun c o hc e=>by
   rw[af (fun z=>hc (by rw[z];exact im))];exact e
  have LV:∀c ys,H4 c=some (.tup ys)→upd H4 (ms.getD i 0) (.lst (xs.set kk v)) c=some (.tup ys):=fun c ys e=>by
   rw[af (aD e f5 (by intro z;cases z))];exact e
  generalize upd H4 (ms.getD i 0) (.lst (xs.set kk v))=H5 at M5 V0 LV;have F5:aV A.ak H5 a ps ts L pk R N rs cs:=Z4.h.kept fun c o hc e=>V0 c o (Z.ap c hc) e;obtain⟨dx,ho⟩:=F5.ob;have wa:=Z4.Yp hi;refine⟨_,rfl,a.f,dx,_,rfl,ho,a8 (by decide+kernel),_,rfl,_,rfl,_,rfl,a,ps,ts,L,pk,R,N,rs,cs,i,_,xs,kk,v,rfl,F5,Z.r1,hW,⟨wa.hi,wa.st,LV _ _ wa.e⟩,e2,Vf,(hv.kt LV).valAt,fun H6 s6=>⟨rfl,?_⟩⟩;have F6:=F5.same s6;obtain⟨r1',r2',ys,r3',r4'⟩:=F6.room (cE hi);rw[e2] at r3';cases r3';have F7:=F6.put (vs' :=xs.set kk v) r1' e2
  have M7:aF (upd H6 (rs.getD i 0) (.lst (xs.set kk v))) m ps ts L pk R ws ms (cs.set i (xs.set kk v)) G:=(M5.same s6).kept fun c o hc e=>by
   rw[af (fun z=>Z.ap _ r2' (by rw[←z];exact hc))];exact e
  have El:∀c ys,H4 c=some (.tup ys)→upd H6 (rs.getD i 0) (.lst (xs.set kk v)) c=some (.tup ys):=fun c ys e=>by
   rw[af (aD (s6 _ _ (LV c ys e)) r4' (by intro z;cases z))];exact s6 _ _ (LV c ys e)
  have kp7:∀c o,¬c∈a.own→¬c∈m.own→H4 c=some o→upd H6 (rs.getD i 0) (.lst (xs.set kk v)) c=some o:=fun c o h1 h2 e=>by
   rw[af (fun z=>h1 (by rw[z];exact r2'))];exact s6 _ _ (V0 c o h2 e)
  obtain⟨oS,c4⟩:=Z4.ok;refine q a m ps ts pk R N rs ws ms _ G _ ⟨F7,M7,Z.G,by rw[ij];exact Z.cl,fun j vs e=> ?_,⟨_,(c4.put (k:=kk) e2 hv).kt El⟩,Z.ap⟩ rfl rfl (fun c hc=> .inl hc) (fun c hc=> .inl hc) (fun c o hc h1 h2 e=>kp7 c o h1 h2 (K14 c o hc e)) (fun c xs e=>El c xs (C7 K14 B c xs e)) ((B4.kept fun o e=>kp7 b o Aa zN e).mono (by lia)) (gM _) (by lia) ⟨[],(dA R).symm⟩;rw[tF e2] at e;by_cases z:i=j
  ·subst z;rw[aC rfl] at e;cases e;rw[ij];exact Ib
  ·rw[au z] at e;exact Z.cz j vs e
 case Te=>
  rintro D σ H1 ⟨b,k,kp,a,m,ps,ts,L,pk,R,N,rs,ws,ms,cs,G,t,kd,sl,x4,x7,x8,x9,uL,rfl,B,hk,JM,Aa,zN,Z,mP,nz,Eo,iB,hR,hN,q⟩
  have kb:∀{H' :Hp},Kept b H1 H'→eE A.ak H' a m ps ts L pk R N rs ws ms cs G:=fun K' =>Z.kept (fun c o hc e=>K' c o (fun z=>by rcases hc with h|h;exact Aa (z▸h);exact zN (z▸h)) e) (C7 K' B)
  have next:∀(H2:Hp) (k2:Nat),k2≤k+1→bO H2 b k2→Kept b H1 H2→k2≤90902→yN A.ak 2 D [some (.ref b),some (.ref a.f),some (.ref m.d),some (.int kd),x4,some (.int t),some (.ref sl),x7,x8,x9,uL] H2:=fun H2 k2 h2 B2 K2 hk2=>
   ⟨b,k2,kp,a,m,ps,ts,L,pk,R,N,rs,ws,ms,cs,G,t,kd,sl,x4,x7,x8,x9,uL,rfl,B2,hk2,by lia,Aa,zN,kb K2,mP,K2 _ _ Eo nz,Eo,fun _=>iB (by decide),hR,hN,q.step K2 B B2⟩
  have hW:=Z.G.W.len
  have Mu:t<ps.length:=by
   have:=(aS.mp mP).1
   lia
  refine⟨_,rfl,rfl,_,rfl,?_⟩;refine ny (fun _=> ?_) (fun _=>next H1 k (by lia) B (Kept.refl b H1) (by lia));refine⟨_,rfl,_,0,rfl,rfl,_,rfl,?_⟩;refine ny (fun h0=> ?_) (fun _=>next H1 k (by lia) B (Kept.refl b H1) (by lia));have h0:=gQ h0;refine⟨_,rfl,b,2,k,rfl,B,by lia,by decide,by decide,fun r H2 r0 r1 B2 O2=>⟨rfl,_,rfl,?_⟩⟩;refine ny (fun _=> ?_) (fun _=>next H2 (k+1) (by lia) B2 O2.kept (by lia));have Z2:=kb O2.kept;obtain⟨dx,ho⟩:=Z2.h.ob;refine⟨_,rfl,a.f,dx,_,rfl,ho,a8 (by decide+kernel),_,rfl,a.f,a.pa,a.ta,ps,ts,t,rfl,Z2.h.fr,Z.G.W,vi mP,by lia,fun l H5 FN hl5 F5 K5=> ?_⟩;obtain⟨o1,o2,o3,o4,o5⟩:=Z2.h.zu;have m5:aF H5 m ps ts L pk R ws ms cs G:=Z2.mo.kept fun c o hc e=>K5 c o (fun z=>Z.ap _ o2 (z▸hc)) (fun z=>Z.ap _ o3 (z▸hc)) e
  have nlm:¬l∈m.own:=fun z=>by
   obtain⟨o,e⟩:=Z2.mo.al l z;rw[FN] at e;cases e
  refine⟨_,rfl,_,rfl,m,ps,ts,L,pk,R,ws,ms,cs,G,t,rfl,m5,Z.G.W,by lia,fun l' H6 G' ala ai3 W6 p3 p4=> ?_⟩;refine⟨l,l',_,_,rfl,rfl,p3 _ _ nlm hl5,ai3,.inr ⟨rfl,l5 _,l5 _,?_⟩⟩;show D.rt (.bl (AB ((bt ps ts t).map nV) ((bt ps ts t).map nV))) H6;rw[Gf];obtain⟨Z6,v6,Ln⟩:=Z2.finish (by lia) Mu F5 K5 W6 p3 p4;exact(q.step O2.kept B B2) a m ps _ pk R N rs ws ms cs G' H6 Z6 rfl rfl (fun c hc=> .inl hc) (fun c hc=> .inl hc) (fun c o _ h1 h2 e=>v6 c o h1 h2 e) Ln ((B2.kept fun o e=>v6 b o Aa zN e).mono (by lia)) (by rw[oU];exact gM _) (by lia) ⟨[],(dA R).symm⟩
 case T8=>
  rintro D σ H1 ⟨b,k,kp,a,m,ps,ts,L,pk,R,N,rs,ws,ms,cs,G,t,kd,sl,x4,x7,x8,x9,uL,rfl,B,hk,JM,Aa,zN,Z,mP,nz,Eo,iB,hR,hN,q⟩
  refine⟨_,rfl,_,6,rfl,rfl,_,rfl,?_⟩
  have mk:∀(D' :Ends) (H2:Hp),(∀H',D.rt (.bl true) H'→D'.rt (.bl true) H')→ax H1 H2→yN A.ak 0 D' [some (.ref b),some (.ref a.f),some (.ref m.d),some (.int kd),x4,some (.int t),some (.ref sl),x7,x8,x9,uL] H2:=fun D' H2 hD s2=>
   ⟨b,k,kp,a,m,ps,ts,L,pk,R,N,rs,ws,ms,cs,G,t,kd,sl,x4,x7,x8,x9,uL,rfl,B.same s2,hk,by lia,Aa,zN,Z.same s2,mP,s2 _ _ nz,Eo,(fun h=>absurd h (by decide)),hR,hN,fun a' m' Ja ts' xJ R' N' zY xh zZ xv G' H' z1 z2 z3 z4 z5 z6 z7 z8 z9 z10 z11=>hD _ ((q.step s2.kept B (B.same s2)) a' m' Ja ts' xJ R' N' zY xh zZ xv G' H' z1 z2 z3 z4 z5 z6 z7 z8 z9 z10 z11)⟩
  refine ny (fun _=>mk _ H1 (fun _ h=>h) (ax.refl H1)) (fun _=> ?_);refine⟨_,rfl,(show 0≤sizeLine by decide),fun e0 LM=> ?_⟩;have s2:=ax.upd (o:= .lst []) LM;have e2:upd H1 e0 (.lst []) e0=some (.lst []):=ae;generalize upd H1 e0 (.lst [])=H2 at s2 e2;have hlen:=k8 ws ((aw ts).flatMap (bg R));by_cases hz:(aw ts).flatMap (bg R)=[]
  ·rw[hz] at nz;refine⟨sl,e0,[],[],rfl,rfl,s2 _ _ nz,e2,.inr ⟨rfl,rfl,rfl,_,rfl,eN (mk _ H2 (fun _ h=>h) s2)⟩⟩
  ·have Aj:0<((aw ts).flatMap (bg R)).length:=mr.mpr hz;refine⟨sl,e0,_,[],rfl,rfl,s2 _ _ nz,e2,.inl ⟨by show(jp ws ((aw ts).flatMap (bg R))).length≠0;lia,_,rfl,cQ ?_⟩⟩;exact⟨b,k,kp,a,m,ps,ts,L,pk,R,N,rs,ws,ms,cs,G,t,kd,sl,x4,x7,x8,x9,uL,rfl,B.same s2,by lia,by lia,Aa,zN,Z.same s2,mP,s2 _ _ nz,Eo,fun _=>hz,hR,hN,q.step s2.kept B (B.same s2)⟩
 case agf=>
  rintro D σ H1 ⟨b,k,kp,a,m,ps,ts,L,pk,R,N,rs,ws,ms,cs,G,t,kd,sl,x4,x7,x8,x9,uL,rfl,B,hk,JM,Aa,zN,Z,mP,nz,Eo,iB,hR,hN,q⟩
  have kb:∀{H' :Hp},Kept b H1 H'→eE A.ak H' a m ps ts L pk R N rs ws ms cs G:=fun K' =>Z.kept (fun c o hc e=>K' c o (fun z=>by rcases hc with h|h;exact Aa (z▸h);exact zN (z▸h)) e) (C7 K' B);refine⟨_,rfl,(show 2≤sizeLine by decide),fun p hp=> ?_⟩;have s2:=ax.upd (o:= .lst [V.int 3,V.int 6]) hp;have e2:upd H1 p (.lst [V.int 3,V.int 6]) p=some (.lst [V.int 3,V.int 6]):=ae;generalize upd H1 p (.lst [V.int 3,V.int 6])=H2 at s2 e2
  have Tc:p≠b:=fun z=>by
   obtain⟨x,y,u,e,_⟩:=B;rw[z,e] at hp;cases hp
  refine⟨_,rfl,b,2,k,rfl,B.same s2,by lia,by decide,by decide,fun r H3 r0 r1 B3 O3=> ?_⟩;refine mv (fun v=>∃i:Int,v= .int i∧0<i∧i≤6) (O3.kept _ _ Tc e2) r0 r1 ?_ fun v hv=> ?_
  ·intro x hx;simp only[bq,cR,cV] at hx;rcases hx with rfl|rfl
   ·exact⟨3,rfl,by decide,by decide⟩
   ·exact⟨6,rfl,by decide,by decide⟩
  obtain⟨i,rfl,i0,i6⟩:=hv;refine⟨b,i,k+1,rfl,B3,by lia,i0,by lia,fun r H4 r0 r1 B4 O4=>⟨1,r,rfl,rfl,?_⟩⟩;dsimp only;obtain⟨n,hn⟩:∃n:Nat,1+r=n:=⟨(1+r).toNat,by lia⟩;rw[hn];have n1:1≤n:=by lia
  have n6:n≤6:=by lia
  have K4:Kept b H1 H4:=(s2.kept.trans O3.kept).trans O4.kept;have Z4:=kb K4;have hW:=Z.G.W.len;have HE:=Z.G.ts;have Mu:t<ts.length:=(aS.mp mP).1;refine⟨_,rfl,_,rfl,m.d,_,rfl,Z4.mo.getL,_,rfl,m,ps,ts,L,pk,R,ws,ms,cs,G,rfl,Z4.mo,Z.cz,by lia,fun r hr=>(Z.G.rw r hr).2.1,fun H5 s5=>⟨(L:Int),_,rfl,rfl,_,_,rfl,rfl,_,rfl,?_⟩⟩;have Z5:=Z4.same s5;have K5:Kept b H1 H5:=K4.trans s5.kept;have B5:=B4.same s5;have q5:=q.step K5 B B5;refine ny (fun _=> ?_) (fun Sf=> ?_)
  ·exact q5 a m ps ts pk R N rs ws ms cs G H5 Z5 rfl rfl (fun c hc=> .inl hc) (fun c hc=> .inl hc) (fun c o _ _ _ e=>e) (fun c xs e=>e) (B5.mono (by lia)) (gM _) (by lia) ⟨[],(dA R).symm⟩
  ·have Sf:¬((L:Int) - (cu ts R:Nat)<(n:Int)):=fun z=>Sf (bu z);have hle:cu ts R+n≤L:=by lia
   obtain⟨dx,ho⟩:=Z5.h.ob;refine⟨_,rfl,a.f,dx,_,rfl,ho,a8 (by decide+kernel),_,rfl,_,rfl,a,ps,ts,L,pk,R,N,rs,cs,t,n,rfl,Z5.h,Z.cl,Z.G,mP,n1,n6,by lia,by lia,hle,fun oa r H6 l F6 sa ga Ga Ln FN hl6=> ?_⟩;have M6:aF H6 m ps ts L pk R ws ms cs G:=Z5.mo.kept fun c o hc e=>Ga c o (fun z=>Z.ap c z hc) e;refine⟨_,rfl,_,rfl,_,rfl,m,ps,ts,L,pk,R,ws,ms,cs,G,t,n,rfl,M6,hW,by lia,by lia,Z.cl,Z.cz,fun r hr=>⟨(Z.G.rw r hr).1,(Z.G.rw r hr).2.1⟩,mP,n1,n6,fun m' wt r' H7 W7 p7 _ IZ=> ?_⟩;obtain⟨p1,p2,p3,p4⟩:=p7;refine⟨eR t (bU R t),eR t (bU R t),.tup (p4 _ _ hl6) (.cons (.int _) (.cons (.int _) .nil)),.tup IZ (.cons (.int _) (.cons (.int _) .nil)),mH _ _,mH _ _,GH _ _,?_⟩;rw[PySem.Spec.same_self]
   have nm:∀c∈oa,¬c∈m.own:=fun c hc z=>by
    rcases ga c hc with h|h
    ·exact Z.ap c h z
    ·obtain⟨o,e⟩:=Z5.mo.al c z;rw[h] at e;cases e
   have F7:aV A.ak H7 {a with own:=oa} ps ts L (max pk (cu ts R+n)) (R++[(t,n)]) (N+2) (rs++[r]) (cs++[List.replicate n .bK]):=F6.kept fun c o hc e=>p3 c o (nm c hc) e
   have G7:Good ps ts L (max pk (cu ts R+n)) (R++[(t,n)]):=by
    refine⟨Z.G.W,Z.G.g,fun r hr=> ?_,Z.G.lo,Z.G.hi,by rw[mq R n mP];exact hle,by have:=Z.G.pk;have:=Z.G.hi;lia⟩;rcases cj.mp hr with hr|hr
    ·exact Z.G.rw r hr
    ·simp only[cw] at hr;subst hr;exact⟨n1,n6,by show t<ps.length;lia⟩
   have ap7:∀c∈oa,¬c∈m'.own:=fun c hc z=>by
    rcases p2 c z with h|h
    ·exact nm c hc h
    ·obtain⟨o,e⟩:=F6.al c hc;rw[h] at e;cases e
   have El:∀c xs,H5 c=some (.tup xs)→H7 c=some (.tup xs):=fun c xs e=>p4 c xs (Ln c xs e);obtain⟨oS,c5⟩:=Z5.ok;refine q5 {a with own:=oa} m' ps ts _ (R++[(t,n)]) (N+2) _ (ws++[wt]) _ _ G H7 ⟨F7,W7,G7,by rw[bj,bj,Z.cl];rfl,fun i vs e=> ?_,⟨_,(c5.snoc n6).kt El⟩,ap7⟩ rfl p1 (fun c hc=> ?_) (fun c hc=> ?_) (fun c o _ h1 h2 e=>p3 c o h2 (Ga c o h1 e)) El ?_ (by rw[bj];show R.length+1+_≤_;lia) (az _) ⟨_,rfl⟩
   ·by_cases hi:i<cs.length
    ·rw[bV hi] at e;rw[dv (by rw[←Z.cl];exact hi)];exact Z.cz i vs e
    ·rw[cF (by lia)] at e
     have Hi:i - cs.length=0:=by
      have:=(aS.mp e).1;simp at this
      lia
     rw[Hi] at e;cases e;have:i=R.length:=by rw[←Z.cl];lia
     subst this;rw[wp,jE]
   ·exact ga c hc
   ·rcases p2 c hc with h|h
    ·exact .inl h
    ·refine .inr ?_
     cases e:H5 c with
     |none=>rfl
     |some o=>
      by_cases z:c∈a.own
      ·obtain⟨o',e'⟩:=F6.al c (sa c z);rw[h] at e';cases e'
      ·have:=Ga c o z e;rw[h] at this;cases this
   ·exact(B5.kept fun o e=>p3 b o zN (Ga b o Aa e)).mono (by lia)
 have kb:∀{H' :Hp},Kept b H H'→eE A.ak H' a m ps ts L pk R N rs ws ms cs G:=fun K' =>Z.kept (fun c o hc e=>K' c o (fun z=>by rcases hc with h|h;exact Aa (z▸h);exact zN (z▸h)) e) (C7 K' B);have HE:=Z.G.ts;have hW:=Z.G.W.len;refine⟨_,rfl,b,12,k,rfl,B,by lia,by decide,by decide,fun kd H1 _ _ B1 O1=> ?_⟩;have Z1:=kb O1.kept;refine⟨_,rfl,m,ps,ts,L,pk,R,ws,ms,cs,G,rfl,Z1.mo,by lia,fun st H2 fC s2 FT=> ?_⟩
 have iB:aw ts≠[]:=fun z=>by
  have:0∈aw ts:=cm.mpr (by rw[Z.G.g];rfl);rw[z] at this;cases this
 have Aj:0<(aw ts).length:=mr.mpr iB;have XE:(aw ts).length≤1000:=aY (fJ ts) (by lia)
 have nst:st≠b:=fun z=>by
  obtain⟨x,y,u,e,_⟩:=B1;rw[z,e] at fC;cases fC
 have B2:=B1.same s2;have V5:((aw ts).map nV).length=(aw ts).length:=aN ..;refine⟨_,rfl,_,rfl,st,_,rfl,.inl (bw.of FT),_,1,rfl,rfl,_,rfl,_,rfl,st,_,rfl,.inl (bw.of FT),b,_,k+1,rfl,B2,by lia,by lia,by lia,fun r H3 r0 r1 B3 O3=> ?_⟩;have hs3:=O3.kept _ _ nst FT;refine⟨(show 2≤sizeLine by decide),fun p hp=> ?_⟩;have s4:=ax.upd (o:= .lst [V.int ((((aw ts).map nV).length:Int) - 1),V.int r]) hp;have e4:upd H3 p (.lst [V.int ((((aw ts).map nV).length:Int) - 1),V.int r]) p=some (.lst [V.int ((((aw ts).map nV).length:Int) - 1),V.int r]):=ae;generalize upd H3 p (.lst [V.int ((((aw ts).map nV).length:Int) - 1),V.int r])=H4 at s4 e4
 have Tc:p≠b:=fun z=>by
  obtain⟨x,y,u,e,_⟩:=B3;rw[z,e] at hp;cases hp
 refine⟨_,rfl,b,2,k+2,rfl,B3.same s4,by lia,by decide,by decide,fun r' H5 r0' r1' B5 O5=> ?_⟩;refine mv (fun v=>∃i:Nat,v= .int i∧i<(aw ts).length) (O5.kept _ _ Tc e4) r0' r1' ?_ fun v hv=> ?_
 ·intro x hx;simp only[bq,cR,cV] at hx;rcases hx with rfl|rfl
  ·exact⟨(aw ts).length - 1,by congr 1;lia,by lia⟩
  ·exact⟨r.toNat,by congr 1;lia,by lia⟩
 obtain⟨i,rfl,hi⟩:=hv;have hit:(aw ts)[i]? =some (aw ts)[i]:=by simp[hi]
 have hs5:=O5.kept _ _ nst (s4 _ _ hs3);generalize (aw ts)[i]=t at hit;have mP:ts[t]? =some none:=eq_of_beq (cm.mp (ba hit))
 have Mu:t<ps.length:=by
  have:=(aS.mp mP).1
  lia
 refine⟨st,_,i,.int t,rfl,rfl,bw.of hs5,b9 (by rw[aW,hit];rfl),?_⟩;have K5:Kept b H H5:=(((O1.kept.trans s2.kept).trans O3.kept).trans s4.kept).trans O5.kept;have Z5:=kb K5;refine⟨_,rfl,m,ps,ts,L,pk,R,ws,ms,cs,G,rfl,Z5.mo,hW,by lia,by lia,fun sl H6 nz s6 MD=> ?_⟩;have K6:Kept b H H6:=K5.trans s6.kept;have Z6:=kb K6;have B6:=B5.same s6
 have Eo:sl≠b:=fun z=>by
  obtain⟨x,y,u,e,_⟩:=B5;rw[z,e] at nz;cases nz
 have q6:=q.step K6 B B6
 have next:yN A.ak 0 {nx:=fun _ H' =>Q .bK H',rt:=Q} [some (.ref b),some (.ref a.f),some (.ref m.d),some (.int kd),some (.ref st),some (.int t),some (.ref sl),none,none,none,none] H6:=
  ⟨b,k+3,k+12,a,m,ps,ts,L,pk,R,N,rs,ws,ms,cs,G,t,kd,sl,_,_,_,_,_,rfl,B6,by lia,by lia,Aa,zN,Z6,mP,MD,Eo,(fun h=>absurd h (by decide)),hR,hN,q6⟩
 refine⟨_,rfl,_,2,rfl,rfl,_,rfl,?_⟩;refine ny (fun _=> ?_) (fun _=>next);refine⟨_,rfl,m.d,_,rfl,Z6.mo.NA,m.bl,_,rfl,.inl (bw.of Z6.mo.tl),_,12,rfl,rfl,_,rfl,?_⟩;rw[aN];refine ny (fun h12=> ?_) (fun _=>next);have h12:=gQ h12;obtain⟨dx,ho⟩:=Z6.h.ob;refine⟨_,rfl,a.f,dx,_,rfl,ho,a8 (by decide+kernel),_,rfl,a.f,a.pa,a.ta,ps,ts,t,rfl,Z6.h.fr,hW,vi mP,by lia,fun H7 F7 K7=> ?_⟩;obtain⟨o1,o2,o3,o4,o5⟩:=Z6.h.zu;have m7:aF H7 m ps ts L pk R ws ms cs G:=Z6.mo.kept fun c o hc e=>K7 c o (fun z=>Z.ap _ o2 (z▸hc)) (fun z=>Z.ap _ o3 (z▸hc)) e;refine⟨_,rfl,_,rfl,m,ps,ts,L,pk,R,ws,ms,cs,G,t,rfl,m7,hW,by lia,fun r hr=>(Z.G.rw r hr).2.2,fun m' H8 W8 p8=> ?_⟩;obtain⟨Z8,ed,g8,v8,MF⟩:=Z6.begin Mu (by lia) F7 K7 W8 p8;refine⟨rfl,?_⟩;rw[bu (rfl:V.int (ps.length:Nat)=V.int (ps.length:Nat))];exact q6 a m' _ _ pk R N rs ws ms cs G H8 Z8 rfl ed (fun c hc=> .inl hc) g8 (fun c o _ h1 h2 e=>v8 c o h1 h2 e) MF ((B6.kept fun o e=>v8 b o Aa zN e).mono (by lia)) (by rw[bj];exact az _) (by lia) ⟨[],(dA R).symm⟩
end
noncomputable def gG(ps ts:av)(R:Rm)(t:Nat):List Nat:=((aw ts).flatMap (bg R)).filter fun i=>decide (t∈ix ps (R.getD i (0,0)).1)
section
variable{P:Program}{w:World}{K:Frag}{mg:Str→aQ}{base:Heap}{A:qa}
noncomputable def N1:Sp:=fun vs H Q _=>∃m ps ts L top R ws ms cs G,∃t:Nat,vs=[.ref m.d,.int t]∧aF H m ps ts L top R ws ms cs G∧WF ps ts∧R.length≤1000∧(∀r∈R,r.1<ps.length)∧((aw ts).flatMap (bg R)).length≤1000∧
 ∀l H',H l=none→ax H H'→H' l=some (.lst (jp ws (gG ps ts R t)))→Q (.ref l) H'
theorem qx(T:Txt K mg A):bC P w K mg base eC 3 A.uB A.sF ["_law_world_here","_law_frame"] N1:=by
 refine T.l6.F.fV Ax ?_
 rintro c_ Ar outer s H vs Q E hr ⟨m,ps,ts,L,top,R,ws,ms,cs,G,t,rfl,W,S0,hR,hRp,VN,q⟩
 have hu:=dy hr;have hl:=S0.len;have hle:=S0.le;refine⟨_,(ao (aK (Bk ["_law_way","_law_frame","_law_world_here"] 1 [1,0] (cK (dO (fg T) hr T.dU aE (aX (pv 0)))) (fun _ _ _ _ _=>⟨(iO 0 (show(["_law_way","_law_frame","_law_world_here"]:aJ).Nodup by decide+kernel)),(Ca (xL (qC (K:=K) rfl) (pv 1) (dO (vY T) hr T.qE aE (ai (pv 2) (aX (de (OW (K:=K) rfl) (pv 0) aj)))))),(pv 0)⟩)))),?_⟩;refine⟨_,rfl,m,ps,ts,L,top,R,ws,ms,cs,G,rfl,W,hl,by lia,hR,fun sl H1 nz s1 Cz=> ?_⟩;have Lx:=k8 ws ((aw ts).flatMap (bg R));refine⟨sl,rfl,⟨_,bw.of Cz⟩,?_⟩;have W1:=W.same s1;refine hU (fun j=>decide (t∈ix ps (R.getD (((aw ts).flatMap (bg R)).getD j 0) (0,0)).1)) (fun j=>V.ref (ws.getD (((aw ts).flatMap (bg R)).getD j 0) 0)) (hX (bw.of Cz)).g ?_ ?_ fun l H2 u_ s2 hL=> ?_
 ·rw[Lx];exact ck (bz (by lia))
 ·intro j x H' C1 C0 hj sm hx c1 c0;rw[Lx] at hj;have ei:=cU 0 hj;generalize ((aw ts).flatMap (bg R)).getD j 0=i at ei c1 c0;unfold jp at hx;rw[aW,ei] at hx;cases hx;have hi:i<R.length:=Mp i (ba ei);have M' :=W1.same sm;have ew:=(M'.way i hi).2;have hn:(R.getD i (0,0)).1<ps.length:=hRp _ (Wp hi);refine⟨(eM.refl _).own (by decide),_,rfl,_,rfl,_,rfl,_,_,0,_,rfl,rfl,gg.of ew,rfl,m,ps,ts,L,top,R,ws,ms,cs,G,(R.getD i (0,0)).1,rfl,M',S0,hn,fun rl H3 yU s3 Wi=> ?_⟩;refine⟨rl,_,rfl,.inl (bw.of Wi),rfl,l5 _,_,rfl,?_⟩;have e:HY (V.int (t:Int)) ((ix ps (R.getD i (0,0)).1).map nV)=decide (t∈ix ps (R.getD i (0,0)).1):=za t _;show if HY (V.int (t:Int)) ((ix ps (R.getD i (0,0)).1).map nV)=true then _ else _
  rw[e]
  cases hd:decide (t∈ix ps (R.getD i (0,0)).1) with
  |true=>exact eN ⟨_,rfl,c1 hd H3 s3⟩
  |false=>exact cQ (c0 hd H3 s3)
 ·rw[Lx] at hL;refine q l H2 (s1.free u_) (s1.trans s2) ?_;rw[hL];exact congrArg (fun z=>some (HO.lst z)) (lQ ((aw ts).flatMap (bg R)) (fun i=>decide (t∈ix ps (R.getD i (0,0)).1)) (fun i=>V.ref (ws.getD i 0)))
end
end My
namespace L2
open PySem PySem.Spec PySem.SeqAt PyProof.Rows
section
variable{X:Cx}
theorem vx(hu:X.A.units+100<cLine):kW X (compareOp .In) (fun x y H Q=>∃d xs,Dat H x d∧Dat H y (.list xs)∧PyData.canLayAll0 xs=true∧d.canLay0=true∧d.depth≤64∧Q (.bl (xs.any fun y=>PyData.eqv y d)) H):=by
 intro pins s σ H x y v u Q I rx ry h;obtain⟨d,xs,hd,he,c1,c2,c3,q⟩:=h;obtain⟨⟨as,rd⟩,_⟩:=hd.reads I.bE rx;obtain⟨⟨bs,re⟩,_⟩:=he.reads I.bE ry;exact in_list_reads re rd c1 c2 (by have:=Nat.min_le_right (PyData.depthAll xs) d.depth;lia) ⟨.bl _,H,I,rfl,q⟩
theorem Cq(hu:X.A.units+100<cLine):kW X (compareOp .NotIn) (fun x y H Q=>∃d xs,Dat H x d∧Dat H y (.list xs)∧PyData.canLayAll0 xs=true∧d.canLay0=true∧d.depth≤64∧Q (.bl (!xs.any fun y=>PyData.eqv y d)) H):=by
 intro pins s σ H x y v u Q I rx ry h;obtain⟨d,xs,hd,he,c1,c2,c3,q⟩:=h;obtain⟨⟨as,rd⟩,_⟩:=hd.reads I.bE rx;obtain⟨⟨bs,re⟩,_⟩:=he.reads I.bE ry;exact notIn_list_reads re rd c1 c2 (by have:=Nat.min_le_right (PyData.depthAll xs) d.depth;lia) ⟨.bl _,H,I,rfl,q⟩
end
end L2
namespace My
open PySem L2 PyProof.Rows
theorem zS{v:V}{k:ww}:∀{kv:bQ} {j:Nat},(kv.map (·.1)).Nodup→kv[j]? =some (k,v)→bR kv k=some v
 |[],j,_,e=>by simp at e
 |p::r,0,_,e=>by
  have:p=(k,v):=by simpa using e
  subst this;exact cZ rfl
 |p::r,j+1,h,e=>by
  have e:r[j]? =some (k,v):=by simpa using e
  rw[cy,fq] at h;have hn:¬p.1=k:=fun z=>h.1 (z▸bM.mpr ⟨(k,v),ba e,rfl⟩);rw[cL hn];exact zS h.2 e
theorem GO{ps ts:av}{t n:Nat}:n∈bt ps ts t↔n∈aw ts∧t∈ix ps n:=by
 unfold bt;rw[cA,xp];simp
theorem Gu{ts:av}{R:Rm}{i:Nat}:i∈(aw ts).flatMap (bg R)↔i<R.length∧(R.getD i (0,0)).1∈aw ts:=by
 rw[j8];constructor
 ·rintro ⟨n,hn,hi⟩
  rw[gU hi];exact⟨eO hi,hn⟩
 ·rintro ⟨hi,hn⟩
  exact⟨_,hn,gD hi⟩
theorem pM{ps ts:av}{R:Rm}{t i:Nat}:i∈gG ps ts R t↔i<R.length∧(R.getD i (0,0)).1∈bt ps ts t:=by
 unfold gG;rw[cA,Gu,GO,kS];constructor
 ·rintro ⟨⟨h1,h2⟩,h3⟩
  exact⟨h1,h2,h3⟩
 ·rintro ⟨h1,h2,h3⟩
  exact⟨⟨h1,h2⟩,h3⟩
theorem vL{α β:Type}(f:α→List β)(p:β→Bool)(q:α→Bool):∀l:List α,(∀n∈l,∀i∈f n,p i=q n)→(l.flatMap f).filter p=(l.filter q).flatMap f
 |[],_=>rfl
 |a::r,h=>by
  have ih:=vL f p q r fun n hn=>h n (a_ _ hn);rw[uq,g9,ih]
  cases e:q a with
  |true=>
   rw[CT e,uq,jH.mpr fun i hi=>by rw[h a bJ i hi];exact e]
  |false=>
   rw[Cw (by rw[e];decide),xn.mpr (fun i hi=>by rw[h a bJ i hi,e];decide),List.nil_append]
theorem KU(a b:Nat):((a:Int)==(b:Int))=decide (a=b):=by
 by_cases h:a=b
 ·subst h;simp
 ·have:(a:Int)≠b:=by lia
  simp[h,this]
theorem GG(f p f' p' :Nat):PyData.eqv (eR f p) (eR f' p')=decide (f=f'∧p=p'):=by
 simp[eR,PyData.eqv,PyData.eqvAll,KU]
theorem s_{H:Hp}{ps ts:av}{R:Rm}{t:Nat}{v:V}{o:Option Nat}(h:dI H R v o):∃d,dZ H v d∧Dat H v d∧d.canLay0=true∧d.depth≤64∧(((D4 R (gG ps ts R t)).map fun x=>eR x.1 x.2).any fun y=>PyData.eqv y d)=gp R (bt ps ts t) o∧(gp R (bt ps ts t) o=true→d=wD R o):=by
 rcases h with⟨rfl,rfl|⟨i,rfl⟩⟩|⟨i,a,rfl,rfl,hi,ha⟩
 ·refine⟨.none,.bK,.bK,rfl,by decide,?_,fun z=>by cases z⟩;refine w_.mpr fun y hy=> ?_;obtain⟨x,_,rfl⟩:=bM.mp hy;simp[eR,PyData.eqv]
 ·refine⟨.int i,.int i,.int i,rfl,by simp[PyData.depth],?_,fun z=>by cases z⟩;refine w_.mpr fun y hy=> ?_;obtain⟨x,_,rfl⟩:=bM.mp hy;simp[eR,PyData.eqv]
 ·refine⟨eR (R.getD i (0,0)).1 (br R i),iI ha,(iI ha).dat,by simp[eR,PyData.canLay0,PyData.canLayAll0],by simp[eR,PyData.depth,PyData.depthAll],?_,fun _=>rfl⟩;show _=decide ((R.getD i (0,0)).1∈bt ps ts t);by_cases z:(R.getD i (0,0)).1∈bt ps ts t
  ·rw[bu z];refine xN.mpr ⟨eR (R.getD i (0,0)).1 (br R i),bM.mpr ⟨((R.getD i (0,0)).1,br R i),bM.mpr ⟨i,pM.mpr ⟨hi,z⟩,rfl⟩,rfl⟩,?_⟩;rw[GG];simp
  ·rw[eZ z];refine w_.mpr fun y hy=> ?_;obtain⟨x,hx,rfl⟩:=bM.mp hy;obtain⟨j,hj,rfl⟩:=bM.mp hx;rw[GG];intro e;have e:=(gQ e).1;exact z (e▸(pM.mp hj).2)
section
variable{P:Program}{w:World}{K:Frag}{mg:Str→aQ}{base:Heap}{A:qa}
noncomputable def OP:Sp:=fun vs H Q _=>∃m ps ts L top R ws ms cs G oS d kv ns oh,∃t:Nat,vs=[.ref m.d,.int t,.ref d]∧aF H m ps ts L top R ws ms cs G∧WF ps ts∧R.length≤1000∧(∀r∈R,1≤r.2∧r.1<ps.length)∧((aw ts).flatMap (bg R)).length≤1000∧e_ H R cs oS∧bS H R d kv ns oh∧ns.length≤1000∧(kv.map (·.1)).Nodup∧¬d∈m.own∧
 ∀l ys H',H l=none→ax H H'→H' l=some (.lst ys)→bp H' ys (FZ ts R (bt ps ts t) ns oh oS)→ys.length≤10000→Q (.ref l) H'
theorem Ai(T:Txt K mg A):bC P w K mg base eC 4 A.ua A.sZ ["_law_world_here","_law_frame","_law_hands_here"] OP:=by
 refine T.tR.F.fV fO ?_
 rintro c_ Ar outer s H vs Q E hr ⟨m,ps,ts,L,top,R,ws,ms,cs,G,oS,d,kv,ns,oh,t,rfl,W,S0,hR,hRp,VN,hC,hd,C9,FH,hdm,q⟩
 have hu:=dy hr;have vt:_+100<cLine:=dR (kH (by decide:100≤16*3+200) _) (by have:=hr.un;omega);have hl:=S0.len;have hle:=S0.le;have YF:(3:Nat)≤sizeLine:=by decide
 have WD:(4:Nat)≤sizeLine:=by decide
 have xj:(gG ps ts R t).length≤1000:=aY (jh _ _) VN;have HD:PyData.canLayAll0 ((D4 R (gG ps ts R t)).map fun x=>eR x.1 x.2)=true:=rY _;refine⟨_,(ah (fG 3 fO.nd (dO (qx T) hr T.l6 aE (ai (pv 0) (aX (pv 1))))) (ah (Gj (Na 4 fO.nd ["_law_name","_law_hands_here","_law_inner_here"] 1 [2,3] (Gp (pv 2)) (fun _ _ _ _ _=>⟨(iO 0 (show(["_law_name","_law_hands_here","_law_inner_here"]:aJ).Nodup by decide+kernel)),(Ca (xL (vx vt) (gY hu (pv 1) (pv 0)) (pv 2))),(gF (ai aR (ai (pv 0) (aX (gY hu (pv 1) (pv 0))))))⟩))) (ah (A2 (cK (dO (fg T) hr T.dU aE (aX (pv 0)))) (iO 5 fO.nd) (ao (bW (xL (Cq vt) (pv 5) (pv 3)) (ah (fG 6 fO.nd (gY hu (gY hu (pv 0) aR) (pv 5))) (ao (bB (gu fc xi type_list_extend vz (pv 4) (aX (Bk ["_law_k","_law_holder","_law_cells","_law_inner_here"] 1 [5,6,3] (eT rfl T.ib (aX (lN bA T.gx Boot.«len» (aX (pv 6))))) (fun _ _ _ _ _=>⟨(iO 0 (show(["_law_k","_law_holder","_law_cells","_law_inner_here"]:aJ).Nodup by decide+kernel)),(Ca (xL (vx vt) (de (sY (K:=K) rfl) (pv 2) (pv 0)) (pv 3))),(gF (ai aR (ai (pv 1) (ai (pv 0) (aX (de (sY (K:=K) rfl) (pv 2) (pv 0)))))))⟩))))))) bc))) (ao (aK (pv 4)))))),?_⟩;refine⟨_,rfl,_,rfl,m,ps,ts,L,top,R,ws,ms,cs,G,t,rfl,W,S0,hR,fun r hr=>(hRp r hr).2,VN,fun nl H1 AU s1 Fc=> ?_⟩;have W1:=W.same s1;have inD:∀{H' :Hp},(∀c xs,H1 c=some (.tup xs)→H' c=some (.tup xs))→H' nl=some (.lst (jp ws (gG ps ts R t)))→Dat H' (.ref nl) (.list ((D4 R (gG ps ts R t)).map fun x=>eR x.1 x.2)):=fun{H'} sm h=> .lst h (r8 (fun i hi=>sm _ _ (W1.way i hi).2) fun i hi=>(pM.mp hi).1);have C_:=hd.same s1;refine⟨_,rfl,d,kv,rfl,C_.ob,fun o nf=> ?_⟩;have wX:upd H1 d (.eX o (.dK kv)) d=some (.eX o (.dK kv)):=ae
 have kt1:∀c xs,H1 c=some (.tup xs)→upd H1 d (.eX o (.dK kv)) c=some (.tup xs):=fun c xs e=>by
  rw[af (aD e C_.ob (by intro z;cases z))];exact e
 have ahB :upd H1 d (.eX o (.dK kv)) nl=some (.lst (jp ws (gG ps ts R t))):=by
  rw[af (aD Fc C_.ob (by intro z;cases z))];exact Fc
 refine xP (fun j=>gp R (bt ps ts t) (oh.getD j none)) (fun j=> .tuple [.str "hand",.str (ns.getD j ""),wD R (oh.getD j none)]) (zK wX) (ck (bz (by rw[hd.ln];lia))) ?_ fun ll H4 ys Ac s4 hy IS jG=> ?_
 ·rintro j x H' C1 C0 hj sm ⟨k,y,hy,rfl⟩ c1 c0
  obtain⟨hke,Y9,Vr⟩:=C_.at_ j k y hy;have hg:dq H' d (kV k) (some y):= .inl ⟨kv,k,.inr ⟨o,sm _ _ wX⟩,rfl,(zS FH hy).symm⟩;subst hke;have GX:=(Vr.kt kt1).kt (a9 sm);obtain⟨dd,td,da,y1,y2,ea,ew⟩:=s_ (ps:=ps) (ts:=ts) (t:=t) GX;refine⟨(eM.refl _).own (by decide),_,rfl,_,rfl,d,_,rfl,hg,_,rfl,dd,_,da,inD (fun c xs e=>sm _ _ (kt1 c xs e)) (sm _ _ ahB),HD,y1,y2,_,rfl,?_⟩;rw[ea]
  cases hb:gp R (bt ps ts t) (oh.getD j none) with
  |false=>exact cQ (c0 hb H' (ax.refl H'))
  |true=>
   refine eN ⟨_,rfl,_,rfl,_,rfl,d,_,rfl,hg,YF,fun t2 Jd=> ?_⟩;have s5:=ax.upd (o:= .tup [V.str "hand",.str (ns.getD j ""),y]) Jd;refine c1 hb _ _ s5 (.tup ae (.cons (.str _) (.cons (.str _) (.cons ?_ .nil))));rw[←ew hb];exact td.kt (a9 s5)
 ·refine⟨d,o,kv,s4 _ _ wX,nf,?_⟩
  have CI:H ll=none:=by
   cases z:H ll with
   |none=>rfl
   |some oo=>
    by_cases zd:ll=d
    ·rw[zd,wX] at Ac;cases Ac
    ·rw[af zd,s1 _ _ z] at Ac;cases Ac
  have lld:ll≠d:=fun z=>by rw[z,wX] at Ac;cases Ac
  have sX1:ax H1 (upd H4 d (.dK kv)):=fun c oo e=>by
   by_cases z:c=d
   ·subst z;rw[ae,←C_.ob];exact e
   ·rw[af z];refine s4 _ _ ?_;rw[af z];exact e
  have sX:=s1.trans sX1;have UZ:upd H4 d (.dK kv) ll=some (.lst ys):=by rw[af lld];exact hy
  have dX:=IS.kt (H' :=upd H4 d (.dK kv)) fun c xs e=>by
   rw[af (aD e (s4 _ _ wX) (by intro z;cases z))];exact e
  rw[hd.ln] at dX jG;have nX:=sX1 _ _ Fc;generalize upd H4 d (.dK kv)=H5 at sX1 sX UZ nX dX;have W5:=W.same sX
  have AI:∀c∈m.own,c≠ll:=fun c hc z=>by
   obtain⟨oo,e⟩:=W.al c hc;rw[z,CI] at e;cases e
  refine⟨_,rfl,m,ps,ts,L,top,R,ws,ms,cs,G,rfl,W5,hl,by lia,hR,fun sl H6 nz s6 MD=> ?_⟩;refine⟨sl,rfl,⟨_,bw.of MD⟩,?_⟩;have MX:=sX.trans s6;have Ur:=sX1.trans s6;have back:∀{H' :Hp},(∀c o,c≠ll→H6 c=some o→H' c=some o)→aF H' m ps ts L top R ws ms cs G:=fun k=>W.kept fun c o hc e=>k c o (AI c hc) (MX _ _ e)
  have ll1:H1 ll=none:=by
   cases z:H1 ll with
   |none=>rfl
   |some oo=>
    rw[af lld,z] at Ac;cases Ac
  have T3:∀{H' :Hp},(∀c o,c≠ll→H6 c=some o→H' c=some o)→∀c xs,H c=some (.tup xs)→H' c=some (.tup xs):=fun k c xs e=>k c _ (aq e CI) (MX _ _ e);have Rb:∀{H' :Hp},(∀c o,c≠ll→H6 c=some o→H' c=some o)→∀c xs,H1 c=some (.tup xs)→H' c=some (.tup xs):=fun k c xs e=>k c _ (aq e ll1) (Ur _ _ e);have TC:sl≠ll:=(aq UZ nz).symm;have Y0:nl≠ll:=aq Fc ll1;have ab0:=k8 ws ((aw ts).flatMap (bg R));refine dG (K:=K) (a:=sl) (xs:=jp ws ((aw ts).flatMap (bg R))) (fun j σ H' =>∃(x5 x6:Option V) (ys:aA),σ=[some (.ref m.d),some (.int t),some (.ref d),some (.ref nl),some (.ref ll),x5,x6]∧H' ll=some (.lst ys)∧bp H' ys (zR R (bt ps ts t) ns oh++qF R (bt ps ts t) oS ((((aw ts).flatMap (bg R)).take j).filter fun i=> !decide ((R.getD i (0,0)).1∈bt ps ts t)))∧ys.length≤1000+6*j∧∀c o,c≠ll→H6 c=some o→H' c=some o) ⟨_,_,ys,rfl,s6 _ _ UZ,?_,by lia,fun _ _ _ e=>e⟩ ?_ ?_ ?_
  ·rw[pL];show bp H6 ys (zR R (bt ps ts t) ns oh++[]);rw[dA];exact dX.kt (a9 s6)
  ·rintro i σ H' _ ⟨x5,x6,ys,_,_,_,_,k⟩
   exact bw.of (k _ _ TC MD)
  ·rintro j v σ H7 hv ⟨x5,x6,ys,rfl,HH,ID,hl7,k7⟩
   unfold jp at hv;rw[aW] at hv
   cases en:((aw ts).flatMap (bg R))[j]? with
   |none=>rw[en] at hv;cases hv
   |some i=>
    rw[en] at hv;cases hv;have kU:j<((aw ts).flatMap (bg R)).length:=(aS.mp en).1;obtain⟨hi,fC⟩:=Gu.mp (ba en);have Q4:((aw ts).flatMap (bg R)).take (j+1)=((aw ts).flatMap (bg R)).take j++[i]:=by rw[ju,en];rfl
    have W7:=back k7;have hvI:dI H7 R (.ref (ws.getD i 0)) (some i):= .inr ⟨i,_,rfl,rfl,hi,(W7.way i hi).2⟩;obtain⟨dd,td,da,y1,y2,ea,ew⟩:=s_ (ps:=ps) (ts:=ts) (t:=t) hvI;refine⟨_,rfl,_,rfl,dd,_,da,inD (Rb k7) (k7 _ _ Y0 (Ur _ _ Fc)),HD,y1,y2,_,rfl,?_⟩;rw[ea];have Yq:gp R (bt ps ts t) (some i)=decide ((R.getD i (0,0)).1∈bt ps ts t):=rfl;rw[Yq]
    cases Xx:decide ((R.getD i (0,0)).1∈bt ps ts t) with
    |true=>
     refine cQ ⟨_,_,ys,rfl,HH,?_,by lia,k7⟩;rw[Q4,g9,fE,Xx];simp only[Bool.not_true,eJ,cI,rD,dA];exact ID
    |false=>
     refine eN ?_;obtain⟨xs,e2,e4,e5⟩:=W7.at_ (fun r hr=>(hRp r hr).1) (fk hi (eq_of_beq (cm.mp fC)));obtain⟨c6,U9,Nr⟩:=(hC.kt (T3 k7)) i xs e2;refine⟨_,rfl,m.d,_,rfl,W7.BQ,_,rfl,m.ca,_,rfl,e4,?_⟩;refine⟨_,rfl,.inl ⟨rfl,_,bw.of HH⟩,_,rfl,ms.getD i 0,_,rfl,.inl (bw.of e5),?_⟩;refine⟨_,rfl,by lia,by lia,?_⟩;rw[cT];have Lx:((List.range xs.length).map fun k:Nat=>V.int (0+(k:Int))).length=xs.length:=by rw[aN,fz]
     refine xP (fun k=>gp R (bt ps ts t) ((oS i).getD k none)) (fun k=> .tuple [.str "room",wD R (some i),.int k,wD R ((oS i).getD k none)]) (vH 0 xs.length H7).g (by rw[Lx];exact aY c6 (by decide)) ?_ fun p H8 zs hp s8 hz hdz Tw=> ?_
     ·intro k x H' C1 C0 hk sm hx c1 c0;rw[Lx] at hk;rw[aW,jw hk] at hx
      obtain rfl:x= .int (k:Int):=by
       have hx:some (V.int (0+(k:Int)))=some x:=hx;rw[Int.zero_add] at hx;cases hx;rfl
      have I_:xs[k]? =some xs[k]:=by simp[hk]
      have GX:=(Nr k _ I_).kt (a9 sm);obtain⟨dd,td,da,y1,y2,ea,ew⟩:=s_ (ps:=ps) (ts:=ts) (t:=t) GX;refine⟨(eM.refl _).own (by decide),_,rfl,_,rfl,ms.getD i 0,_,k,xs[k],rfl,rfl,bw.of (sm _ _ e5),b9 I_,_,rfl,dd,_,da,inD (fun c xs e=>sm _ _ (Rb k7 c xs e)) (sm _ _ (k7 _ _ Y0 (Ur _ _ Fc))),HD,y1,y2,_,rfl,?_⟩;rw[ea]
      cases hb:gp R (bt ps ts t) ((oS i).getD k none) with
      |false=>exact cQ (c0 hb H' (ax.refl H'))
      |true=>
       refine eN ⟨_,rfl,_,rfl,_,rfl,_,rfl,ms.getD i 0,_,k,xs[k],rfl,rfl,bw.of (sm _ _ e5),b9 I_,WD,fun t2 Jd=> ?_⟩;have s5:=ax.upd (o:= .tup [V.str "room",.ref (ws.getD i 0),.int (k:Int),xs[k]]) Jd;refine c1 hb _ _ s5 (.tup ae (.cons (.str _) (.cons ((iI (sm _ _ (W7.way i hi).2)).kt (a9 s5)) (.cons (.int _) (.cons ?_ .nil)))));rw[←ew hb];exact td.kt (a9 s5)
     ·rw[Lx] at Tw hdz;refine⟨ll,p,_,_,rfl,rfl,s8 _ _ HH,hz,?_,?_⟩
      ·have hL:sizeLine=16777216:=by decide
       lia
      ·refine⟨_,_,_,rfl,ae,?_,by rw[bj];lia,fun c o h e=>by rw[af h];exact s8 _ _ (k7 c o h e)⟩;rw[Q4,g9,fE,Xx];simp only[Bool.not_false,eL,rD];unfold qF;rw[lY,←fB]
       have MF:∀c xs,H8 c=some (.tup xs)→upd H8 ll (.lst (ys++zs)) c=some (.tup xs):=fun c xs e=>by
        rw[af (aD e (s8 _ _ HH) (by intro z;cases z))];exact e
       refine((ID.kt (a9 s8)).kt MF).append ?_;rw[tK];rw[←U9] at hdz;exact hdz.kt MF
  ·rintro σ H7 ⟨x5,x6,ys,rfl,HH,ID,hl7,k7⟩
   rw[ab0] at ID hl7;rw[iK,vL (bg R) _ (fun n=> !decide (n∈bt ps ts t)) (aw ts) (fun n _ i hi=>by rw[gU hi])] at ID;exact⟨_,rfl,q ll ys H7 CI (fun c o e=>k7 c o (aq e CI) (MX _ _ e)) HH ID (by lia)⟩
end
theorem kj{α:Type}(p q:α→Bool):∀l:List α,(∀x∈l,¬(p x=true∧q x=true))→(l.filter p).length+(l.filter q).length=(l.filter fun x=>p x||q x).length
 |[],_=>rfl
 |a::r,h=>by
  have ih:=kj p q r fun x hx=>h x (a_ _ hx);have ha:=h a bJ;rw[fE,fE,fE];cases hp:p a<;>cases hq:q a
  ·simp only[eJ,cI,Bool.or_self];exact ih
  ·simp only[eJ,cI,eL,Bool.or_true,cf]
   lia
  ·simp only[eJ,cI,eL,Bool.or_false,cf]
   lia
  ·exact absurd ⟨hp,hq⟩ ha
theorem DC(R:Rm):∀S:List Nat,S.Nodup→(S.flatMap (bg R)).length=((List.range R.length).filter fun i=>decide ((R.getD i (0,0)).1∈S)).length
 |[],_=>by
  rw[xn.mpr fun i _=>by simp];rfl
 |n::S,h=>by
  rw[fq] at h;rw[uq,bj,DC R S h.2];unfold bg;rw[kj _ _ _ fun i _ z=> ?_]
  ·congr 1
   refine lP fun i _=> ?_;generalize (R.getD i (0,0)).1=f;by_cases z:f=n<;>simp[z]
  ·have z1:(R.getD i (0,0)).1=n:=by simpa using z.1
   have z2:(R.getD i (0,0)).1∈S:=by simpa using z.2
   exact h.1 (z1▸z2)
theorem N3(ts:av)(R:Rm):((aw ts).flatMap (bg R)).length≤R.length:=by
 rw[DC R _ (nG ts)];refine aY (jh _ _) ?_;rw[fz];exact az _
noncomputable def Lt(x:Str):Prop:=∀c∈x.cps.toList,fi c=true
theorem Lt.app{x y:Str}(h:Lt x)(h' :Lt y):Lt (x++y):=by
 intro c hc;rcases mem_cps_append.mp hc with hc|hc
 ·exact h c hc
 ·exact h' c hc
theorem Lt.slice{x:Str}(h:Lt x)(l u:Option Int):Lt (Txt.slice x l u):=by
 intro c hc;unfold Txt.slice at hc
 split at hc
 ·exact h c hc
 ·rw[List.toList_toArray] at hc;obtain⟨i,_,hi⟩:=xf.mp hc;exact h c (Array.mem_toList_iff.mpr (Array.mem_of_getElem? hi))
theorem Lt.one{c:Nat}(h:fi c=true):Lt ⟨#[c]⟩:=by
 intro d hd;have hd:d∈[c]:=hd;rw[cw.mp hd];exact h
theorem Lt.name{x:Str}(h:Lt x)(h1:1≤x.length)(h6:x.length≤6):dJ x=true:=by
 unfold dJ;rw[bu h1,bu h6,i7.mpr h];rfl
theorem iS{x:Str}{j:Nat}(h:j≤x.length):(Txt.slice x none (some (j:Int))).length=j:=by
 have hl:x.cps.toList.length=x.length:=rfl;rw[pQ.mp (slice_closes_toL (x:=x) (j:=(j:Int)) (by lia) (by lia))];show(((x.cps.toList.drop (0:Int).toNat).take ((j:Int) - 0).toNat).toArray).size=j;rw[bZ,kD,kh];have e1:((j:Int) - 0).toNat=j:=by lia
 have e2:(0:Int).toNat=0:=rfl;rw[e1,e2]
 lia
theorem yI{x:Str}{j:Nat}(h:j≤x.length):(Txt.slice x (some (j:Int)) none).length=x.length - j:=by
 have hl:x.cps.toList.length=x.length:=rfl;rw[slice_from_eq (x:=x) (i:=(j:Int)) (b:=x.length) (by lia) (by lia) rfl];show(((x.cps.toList.drop (j:Int).toNat).take ((x.length:Int) - (j:Int)).toNat).toArray).size=x.length - j;rw[bZ,kD,kh];have e1:((x.length:Int) - (j:Int)).toNat=x.length - j:=by lia
 have e2:(j:Int).toNat=j:=by lia
 rw[e1,e2]
 lia
theorem pw{p:Str→Prop}:∀{ys:aA},(∀v∈ys,∃x,v= .str x∧p x)→∃xs:aJ,ys=xs.map V.str∧∀x∈xs,p x
 |[],_=>⟨[],rfl,fun x hx=>by cases hx⟩
 |v::r,h=>by
  obtain⟨x,rfl,hx⟩:=h v bJ;obtain⟨xs,rfl,EW⟩:=pw (ys:=r) fun u hu=>h u (a_ _ hu)
  exact⟨x::xs,rfl,fun y hy=>by
   rcases bq.mp hy with rfl|hy
   ·exact hx
   ·exact EW y hy⟩
theorem pJ{H:Hp}{Q:VK}{i:Int}(h0:0≤i)(h1:i<26)(q:∀c,fi c=true→Q (.str ⟨#[c]⟩) H):S_ (.str "abcdefghijklmnopqrstuvwxyz") (.int i) H Q:=by
 obtain⟨j,rfl⟩:∃j:Nat,i=j:=⟨i.toNat,by lia⟩;have e:("abcdefghijklmnopqrstuvwxyz" :Str).cps.toList=(List.range 26).map (· +97):=by decide+kernel
 have hj:j<26:=by lia
 refine⟨_,_,j+97,rfl,rfl,by decide+kernel,?_,q _ ?_⟩
 ·refine b9 ?_;rw[e,aW,jw hj];rfl
 ·unfold fi;rw[bu (by lia),bu (by lia)];rfl
section
variable{X:Cx}{c:Expr}{a b:List Stmt}{tc:TT}{t u:TS}{pos:Pos}
theorem _root_.L2.Ds:DZ X [] PX:=⟨bc⟩
theorem _root_.L2.JC(hc:PT X c tc)(ha:DZ X a t)(hb:DZ X b u):Xv X (.If c a b pos) (acb tc t u):=⟨bW hc ha.h hb.h⟩
end
theorem oE{lo:Int}{n k m k0:Nat}{b:Addr}{js:List Nat}{g:TG}{te:TE}{σ:L2.St}{H:Hp}{Q:VK}(R:V→Prop)(hlen:n≤sizeLine)(B:bO H b k0)
 (gW:∀(i:Nat) (H' :Hp) (C1:V→Hp→Prop),i<n→Kept b H H'→bO H' b (k0+i*m)→(∀v fN,R v→bO fN b (k0+i*m+m)→Kept b H' fN→C1 v fN)→
  g (.int (lo+i)) (tm k js σ) H' fun iy H2=>eM (tm k js σ) iy∧te iy H2 C1)
 (hq:∀p H' ys,H p=none→Kept b H H'→bO H' b (k0+n*m)→H' p=some (.lst ys)→ys.length=n→(∀v∈ys,R v)→Q (.ref p) H'):
 iw (Pr lo n) k js g LQ te σ H Q:=by
 intro p hp;have XS:p≠b:=B.ne hp
 refine⟨fun i m' ys H' =>m' =n - i∧i≤n∧ys.length=i∧H' p=some (.lst ys)∧Kept b H H'∧bO H' b (k0+i*m)∧∀v∈ys,R v,
  ⟨n,rfl,cB _,rfl,ae,(ax.upd hp).kept,by rw[Nat.zero_mul];exact B.same (ax.upd hp),fun v e=>by cases e⟩,?_⟩
 rintro i m' ys H' ⟨rfl,hi,jG,hl,hs,hB,hE⟩
 refine⟨hl,?_⟩;by_cases dS:i<n
 ·refine .inr ⟨dS,by lia,fun x fN hy=> ?_⟩;obtain⟨rfl,rfl⟩:=hy;refine gW i _ _ dS hs hB fun v H4 r4 B4 s4=> ?_;have GN:H4 p=some (.lst ys):=s4 _ _ XS hl;refine⟨GN,n - (i+1),by lia,rfl,dS,by simp[jG],ae,fun c o hc e=> ?_,?_,fun v' e=> ?_⟩
  ·rw[af (aq e hp)];exact s4 _ _ hc (hs _ _ hc e)
  ·obtain⟨x,y,z,hb,r⟩:=B4;refine⟨x,y,z,?_,?_⟩
   ·rw[af (fun z=>XS z.symm)];exact hb
   ·rw[show k0+(i+1)*m=k0+i*m+m by rw[rj];lia];exact r
  ·rcases cj.mp e with e|e
   ·exact hE _ e
   ·rw[cw.mp e];exact r4
 ·have e:i=n:=by lia
  subst e;exact .inl ⟨az _,hq p H' ys hp hs hB hl jG hE⟩
theorem sM(x y:Str):(x++y).length=x.length+y.length:=by
 show(x.cps++y.cps).size=x.cps.size+y.cps.size;exact Array.size_append
theorem agA(c:Nat):Txt.mul ⟨#[c]⟩ 6=⟨#[c,c,c,c,c,c]⟩:=rfl
theorem Lt.six{c:Nat}(h:fi c=true):Lt ⟨#[c,c,c,c,c,c]⟩:=by
 intro d hd;have hd:d∈[c,c,c,c,c,c]:=hd;simp only[bq,cR,cV,or_self] at hd;rw[hd];exact h
theorem Lt.join{ts:aJ}(h' :∀t∈ts,Lt t):Lt (Str.join "" ts):=by
 intro c hc;rcases(mem_join "" c ts).mp hc with⟨t,ht,hc⟩|⟨_,hc⟩
 ·exact h' t ht c hc
 ·have:c∈([]:List Nat):=hc;cases this
noncomputable def yf:aA:=[.str "in",.str "or",.str "end",.str "make",.str "frame",.str "ground",.str "none",.str "turns",.str "put",.str "hand",.str "room"]
theorem KC:∀x∈yf,∃s,x= .str s∧dJ s=true:=by
 intro x hx;simp only[yf,bq,cR,cV] at hx
 rcases hx with rfl|rfl|rfl|rfl|rfl|rfl|rfl|rfl|rfl|rfl|rfl<;>exact⟨_,rfl,by decide+kernel⟩
section
variable{P:Program}{w:World}{K:Frag}{mg:Str→aQ}{base:Heap}{A:qa}
noncomputable def N5:Sp:=fun vs H Q _=>∃(b:Addr) (n k:Nat),vs=[.ref b,.int n]∧bO H b k∧k+12≤100000∧n≤6∧∀l (xs:aJ) H',H l=none→xs.length=n→(∀x∈xs,dJ x=true)→H' l=some (.lst (xs.map V.str))→bO H' b (k+12)→Kept b H H'→Q (.ref l) H'
theorem AG(T:Txt K mg A):bC P w K mg base eC 2 A.uF A.tY ["_law_box_here","_law_many"] N5:=by
 refine T.rT.F.okN cP ?_
 rintro c_ Ar outer s H vs Q E hr ⟨b,n,k,rfl,B,hk,hn,q⟩
 have hu:=dy hr;refine⟨_,(eV ⟨(fG 2 cP.nd aR)⟩ (eV ⟨(fG 3 cP.nd (dO (aO T) hr T.aT aE (ai (pv 0) (aX aj))))⟩ (eV ⟨(fG 4 cP.nd (dO (aO T) hr T.aT aE (ai (pv 0) (aX aj))))⟩ (eV ⟨(fG 5 cP.nd (de a7 (bY (ai aj (ai aj (ai aj (ai aj (ai aj (aX aj))))))) (dO (aO T) hr T.aT aE (ai (pv 0) (aX aj)))))⟩ (eV (JC (xL jr (pv 3) aj) (eV (M9 (i:=6) cP.nd rfl (Or.inr rfl) (OU (fA (fun _ _=>rfl) aR (fA (fun _ _=>rfl) aR (fA (fun _ _=>rfl) aR (fA (fun _ _=>rfl) aR (fA (fun _ _=>rfl) aR (fA (fun _ _=>rfl) aR (fA (fun _ _=>rfl) aR (fA (fun _ _=>rfl) aR (fA (fun _ _=>rfl) aR (fA (fun _ _=>rfl) aR (fA (fun _ _=>rfl) aR Pj)))))))))))) (by kernel_rfl) (Or.inl rfl)) (rS ⟨(aK (Bk ["_law_k","_law_words","_law_first","_law_step"] 1 [6,4,5] (eT rfl T.ib (aX (pv 1))) (fun _ _ _ _ _=>⟨(iO 0 (show(["_law_k","_law_words","_law_first","_law_step"]:aJ).Nodup by decide+kernel)),qM,(de (sY (K:=K) rfl) (pv 1) (bG i9 (bG fF (pv 2) (bG qK (bG i9 (pv 3) aj) (pv 0))) aj))⟩)))⟩)) Ds) (eV ⟨(fG 7 cP.nd (gu PySem.F.plainAttrs_str PySem.F.slot_str_join PySem.F.type_str_join ND aR (aX (Bk ["_law_k","_law_letters","_law_box_here"] 1 [2,0] (eT rfl T.ib (aX (dO (aO T) hr T.aT aE (ai (pv 0) (aX aj))))) (fun _ _ _ _ _=>⟨(iO 0 (show(["_law_k","_law_letters","_law_box_here"]:aJ).Nodup by decide+kernel)),qM,(de zc (pv 1) (dO (aO T) hr T.aT aE (ai (pv 2) (aX aj))))⟩)))))⟩ (eV ⟨(fG 8 cP.nd (dO (aO T) hr T.aT aE (ai (pv 0) (aX (bG fF (lN sD T.gx Boot.«len» (aX (pv 7))) aj)))))⟩ (eV (JC (PW.pt (jac (xL jr (pv 3) aj) (ZB (xL zD (pv 1) aj)))) (eV ⟨(fG 9 cP.nd (lq CA (bG lU (pv 7) (bG Fq (de zc (pv 2) (pv 4)) aj)) pT (i5 aj)))⟩ (rS ⟨(aK (Bk ["_law_k","_law_whole","_law_first"] 1 [9,4] (eT rfl T.ib (aX (pv 1))) (fun _ _ _ _ _=>⟨(iO 0 (show(["_law_k","_law_whole","_law_first"]:aJ).Nodup by decide+kernel)),qM,(lq CA (pv 1) pT (i5 (bG fF aj (bG i9 (bG fF (pv 2) (pv 0)) aj))))⟩)))⟩)) Ds) (rS ⟨(aK (Bk ["_law_k","_law_stem","_law_letters","_law_at","_law_first","_law_step"] 1 [7,2,8,4,5] (eT rfl T.ib (aX (pv 1))) (fun _ _ _ _ _=>⟨(iO 0 (show(["_law_k","_law_stem","_law_letters","_law_at","_law_first","_law_step"]:aJ).Nodup by decide+kernel)),qM,(bG lU (bG lU (lq CA (pv 1) pT (i5 (pv 3))) (de zc (pv 2) (bG i9 (bG fF (pv 4) (bG qK (pv 5) (pv 0))) aj))) (lq CA (pv 1) (i5 (pv 3)) pT))⟩)))⟩))))))))),?_⟩;refine⟨_,rfl,b,3,k,rfl,B,by lia,by decide,by decide,fun way H1 w0 w1 B1 O1=> ?_⟩;refine⟨_,rfl,b,26,k+1,rfl,B1,by lia,by decide,by decide,fun first H2 f0 f1 B2 O2=> ?_⟩;refine⟨(show 6≤sizeLine by decide),fun p hp=> ?_⟩;have s3:=ax.upd (o:= .lst [V.int 1,V.int 3,V.int 5,V.int 7,V.int 9,V.int 11]) hp;have e3:upd H2 p (.lst [V.int 1,V.int 3,V.int 5,V.int 7,V.int 9,V.int 11]) p=some (.lst [V.int 1,V.int 3,V.int 5,V.int 7,V.int 9,V.int 11]):=ae;generalize upd H2 p (.lst [V.int 1,V.int 3,V.int 5,V.int 7,V.int 9,V.int 11])=H3 at s3 e3;have Tc:p≠b:=B2.ne hp;refine⟨_,rfl,b,6,k+2,rfl,B2.same s3,by lia,by decide,by decide,fun r H4 r0 r1 B4 O4=> ?_⟩;refine mv (fun v=>∃i:Int,v= .int i∧0≤i∧i≤11) (O4.kept _ _ Tc e3) r0 r1 ?_ fun v hv=> ?_
 ·intro x hx;simp only[bq,cR,cV] at hx
  rcases hx with rfl|rfl|rfl|rfl|rfl|rfl<;>exact⟨_,rfl,by decide,by decide⟩
 obtain⟨step,rfl,st0,st1⟩:=hv;have K4:Kept b H H4:=((O1.kept.trans O2.kept).trans s3.kept).trans O4.kept
 have fr:∀{H' :Hp} {c:Addr} {k' :Nat},Kept b H H'→bO H' b k'→H' c=none→H c=none:=fun{H' c k'} K' B' hc=>by
  cases e:H c with
  |none=>rfl
  |some o=>rw[K' _ o (B'.ne hc) e] at hc;cases hc
 refine⟨_,rfl,rfl,_,rfl,?_⟩;refine ny (fun _=> ?_) (fun _=> ?_)
 ·refine⟨(show 11≤sizeLine by decide),fun wl QC=> ?_⟩;have s5:=ax.upd (o:= .lst yf) QC;have e5:upd H4 wl (.lst yf) wl=some (.lst yf):=ae;have nwb:wl≠b:=B4.ne QC;refine⟨_,rfl,_,rfl,by lia,by lia,?_⟩;rw[cT];refine oE (m:=0) (k0:=k+3) (fun v=>∃x,v= .str x∧dJ x=true) (ck (bz (by lia))) (B4.same s5) ?_ ?_
  ·intro i H' C1 hi K' B' c1;refine⟨(eM.refl _).own (by decide),_,rfl,_,rfl,_,rfl,step,10,rfl,rfl,(show(0:Int)<10 by decide),_,rfl,_,_,rfl,rfl,?_,first,_,rfl,rfl,_,11,rfl,rfl,(show(0:Int)<11 by decide),?_⟩
   ·exact .inl ⟨by lia,by lia⟩
   ·refine mv (fun v=>∃x,v= .str x∧dJ x=true) (K' _ _ nwb e5) (jS _ (by decide)) (l7 _ (by decide)) KC fun v hv=>c1 v H' hv (B'.mono (by lia)) (Kept.refl b H')
  ·intro pl H' ys ma K' B' Lz jG hR;obtain⟨xs,rfl,EW⟩:=pw hR;rw[aN] at jG;exact q pl xs H' (fr K4 B4 (s5.free ma)) jG EW Lz (B'.mono (by lia)) (K4.trans (s5.kept.trans K'))
 ·refine⟨rfl,_,rfl,b,6,k+3,rfl,B4,by lia,by decide,by decide,fun cnt H5 c0 c1 B5 O5=> ?_⟩;obtain⟨c,rfl⟩:∃c:Nat,cnt=c:=⟨cnt.toNat,by lia⟩;refine⟨_,rfl,by lia,by lia,?_⟩;rw[cT];have K5:Kept b H H5:=K4.trans O5.kept;refine oE (m:=1) (k0:=k+4) (fun v=>∃x:Str,v= .str x∧x.length=1∧Lt x) (ck (bz (by lia))) B5 ?_ ?_
  ·intro i H' C1 hi K' B' q1;refine⟨(eM.refl _).own (by decide),_,rfl,_,rfl,b,26,_,rfl,B',by lia,by decide,by decide,fun r H6 r0 r1 B6 O6=> ?_⟩;exact pJ r0 r1 fun ch C3=>q1 _ _ ⟨_,rfl,rfl,Lt.one C3⟩ B6 O6.kept
  ·intro pl H6 ys ma K6 B6 hp6 jG hR;obtain⟨xs,rfl,hx⟩:=pw hR;rw[aN] at jG;have he:(Str.ofString "").length=0:=by decide+kernel
   have hj:Builtin.Str.tooLong (xs.toArray.foldl (fun a p=>a+p.length+(Str.ofString "").length) 0)=false:=PySem.StrLaws.joinFits (B:=1) (fun y hy=>xg (hx y hy).1) (by
    rw[he]
    lia)
   have hlen:(Txt.join (Str.ofString "") xs).length≤5:=by
    have h1:=PySem.StrLaws.join_length_le (Str.ofString "") xs;have h2:=PySem.StrLaws.sumLen_le xs (B:=1) (fun y hy=>xg (hx y hy).1);rw[he] at h1;show(Builtin.Str.glued _ xs).length≤5;rw[PySem.StrLaws.glued_eq_join]
    lia
   have hlo:Lt (Txt.join (Str.ofString "") xs):=by
    show Lt (Builtin.Str.glued _ xs);rw[PySem.StrLaws.glued_eq_join];exact Lt.join fun t ht=>(hx t ht).2
   have K56:Kept b H H6:=K5.trans K6;refine⟨_,pl,xs,rfl,rfl,hp6,by unfold JoinOk;rw[hj];rfl,?_⟩;generalize Txt.join (Str.ofString "") xs=uP at hlen hlo;have hL:sizeLine=16777216:=by decide
   refine⟨_,rfl,_,rfl,uP,rfl,by lia,(uP.length:Int),1,rfl,rfl,b,_,k+4+c*1,rfl,B6,by lia,by lia,by lia,fun at_ H7 a0 a1 B7 O7=> ?_⟩;obtain⟨at_,rfl⟩:∃j:Nat,at_=j:=⟨at_.toNat,by lia⟩;have ha:at_≤uP.length:=by lia
   have K7:Kept b H H7:=K56.trans O7.kept;refine⟨_,rfl,rfl,_,rfl,?_⟩;refine ny (fun _=> ?_) (fun _=> ?_)
   ·refine⟨_,rfl,_,7,rfl,rfl,_,rfl,?_⟩;rw[bu (show(n:Int)<7 by lia)];refine eN ?_;refine⟨_,rfl,_,rfl,_,rfl,pJ f0 f1 fun ch C3=> ?_⟩;have hmul:MulOk ⟨#[ch]⟩ 6:=⟨by decide,fun _ _=>by show ¬((1:Int)>(2 ^ 63 - 1) / 6);decide,fun _ _=>by show Builtin.Str.tooLong (1*6)=false;decide+kernel⟩;refine⟨⟨#[ch]⟩,6,rfl,rfl,hmul,?_⟩;rw[agA];have h6l:(⟨#[ch,ch,ch,ch,ch,ch]⟩:Str).length=6:=rfl;have QC:(uP++⟨#[ch,ch,ch,ch,ch,ch]⟩).length=uP.length+6:=sM _ _;refine⟨uP,_,rfl,rfl,by lia,?_⟩;have hwo:Lt (uP++⟨#[ch,ch,ch,ch,ch,ch]⟩):=hlo.app (Lt.six C3);generalize uP++⟨#[ch,ch,ch,ch,ch,ch]⟩=whole at QC hwo;refine⟨6,rfl,whole,rfl,by lia,?_⟩;have nz:=iS (x:=whole) (j:=6) (by lia);have hso:=hwo.slice none (some ((6:Nat):Int));have e6:((6:Nat):Int)=6:=rfl;rw[e6] at nz hso;generalize Txt.slice whole none (some 6)=wh at nz hso;refine⟨_,rfl,_,rfl,by lia,by lia,?_⟩;rw[cT];refine oE (m:=0) (k0:=k+4+c*1+1) (fun v=>∃x,v= .str x∧dJ x=true) (ck (bz (by lia))) B7 ?_ ?_
    ·intro i H' C1 hi K' B' q1;refine⟨(eM.refl _).own (by decide),_,rfl,_,rfl,_,rfl,first,_,rfl,rfl,_,6,rfl,rfl,(show(0:Int)<6 by decide),1,_,rfl,rfl,_,rfl,wh,rfl,by lia,?_⟩;obtain⟨j,hj⟩:∃j:Nat,1+(first+(0+(i:Int))) % 6=j:=⟨(1+(first+(0+(i:Int))) % 6).toNat,by lia⟩;rw[hj];exact q1 _ _ ⟨_,rfl,(hso.slice none (some (j:Int))).name (by rw[iS (by lia)];lia) (by rw[iS (by lia)];lia)⟩ (B'.mono (by lia)) (Kept.refl b H')
    ·intro pl H' ys ma K' B' Lz jG hR;obtain⟨xs,rfl,EW⟩:=pw hR;rw[aN] at jG;exact q pl xs H' (fr K7 B7 ma) jG EW Lz (B'.mono (by lia)) (K7.trans K')
   ·refine cQ ?_;refine⟨_,rfl,_,rfl,by lia,by lia,?_⟩;rw[cT];refine oE (m:=0) (k0:=k+4+c*1+1) (fun v=>∃x,v= .str x∧dJ x=true) (ck (bz (by lia))) B7 ?_ ?_
    ·intro i H' C1 hi K' B' q1;have l1:=iS ha;have l2:=yI ha;have o1:=hlo.slice none (some (at_:Int));have o2:=hlo.slice (some (at_:Int)) none;refine⟨(eM.refl _).own (by decide),_,rfl,_,rfl,_,rfl,uP,rfl,by lia,?_⟩;refine⟨_,rfl,_,rfl,_,rfl,_,rfl,step,_,rfl,rfl,.inl ⟨by lia,by lia⟩,first,_,rfl,rfl,_,26,rfl,rfl,(show(0:Int)<26 by decide),pJ (jS _ (by decide)) (l7 _ (by decide)) fun ch C3=> ?_⟩;have h1l:(⟨#[ch]⟩:Str).length=1:=rfl;have la:=sM (Txt.slice uP none (some (at_:Int))) ⟨#[ch]⟩;refine⟨_,_,rfl,rfl,by lia,_,rfl,_,rfl,_,rfl,uP,rfl,by lia,?_⟩;have lb:=sM (Txt.slice uP none (some (at_:Int))++⟨#[ch]⟩) (Txt.slice uP (some (at_:Int)) none);refine⟨_,_,rfl,rfl,by lia,?_⟩;exact q1 _ _ ⟨_,rfl,((o1.app (Lt.one C3)).app o2).name (by lia) (by lia)⟩ (B'.mono (by lia)) (Kept.refl b H')
    ·intro pl H' ys ma K' B' Lz jG hR;obtain⟨xs,rfl,EW⟩:=pw hR;rw[aN] at jG;exact q pl xs H' (fr K7 B7 ma) jG EW Lz (B'.mono (by lia)) (K7.trans K')
end
theorem G2{K:Frag}{a:Addr}{xs:aA}{k m k0:Nat}{b:Addr}{js:List Nat}{g:TG}{te:TE}{σ:L2.St}{H:Hp}{Q:VK}(E:Nat→V→Hp→Prop)(hlen:xs.length≤sizeLine)(ha:H a=some (.lst xs))(hab:a≠b)(B:bO H b k0)
 (mono:∀i v H' fN,E i v H'→(∀c ys,H' c=some (.tup ys)→fN c=some (.tup ys))→E i v fN)
 (gW:∀(i:Nat) (x:V) (H' :Hp) (C1:V→Hp→Prop),xs[i]? =some x→Kept b H H'→bO H' b (k0+i*m)→(∀v fN,E i v fN→bO fN b (k0+i*m+m)→Kept b H' fN→C1 v fN)→
  g x (tm k js σ) H' fun iy H2=>eM (tm k js σ) iy∧te iy H2 C1)
 (hq:∀p H' ys,H p=none→Kept b H H'→bO H' b (k0+xs.length*m)→H' p=some (.lst ys)→ys.length=xs.length→(∀(i:Nat) v,ys[i]? =some v→E i v H')→Q (.ref p) H'):
 iw (Qt K a) k js g LQ te σ H Q:=by
 intro p hp;have XS:p≠b:=B.ne hp
 refine⟨fun i m' ys H' =>m' =xs.length - i∧i≤xs.length∧ys.length=i∧H' p=some (.lst ys)∧Kept b H H'∧bO H' b (k0+i*m)∧∀(i:Nat) v,ys[i]? =some v→E i v H',
  ⟨xs.length,rfl,cB _,rfl,ae,(ax.upd hp).kept,by rw[Nat.zero_mul];exact B.same (ax.upd hp),fun i v e=>by simp at e⟩,?_⟩
 rintro i m' ys H' ⟨rfl,hi,jG,hl,hs,hB,hE⟩
 refine⟨hl,?_⟩;have TJ :=hs _ _ hab ha;by_cases dS:i<xs.length
 ·have hx:xs[i]? =some xs[i]:=by simp[dS]
  refine .inr ⟨⟨xs,_,bw.of TJ,hx⟩,by lia,fun x fN hy=> ?_⟩;obtain⟨rfl,hy⟩:=hy;have hx:=hy xs (bw.of TJ);refine gW i x _ _ hx hs hB fun v H4 r4 B4 s4=> ?_;have GN:H4 p=some (.lst ys):=s4 _ _ XS hl;have kt4:=C7 s4 hB
  have ktp:∀c zs,H4 c=some (.tup zs)→upd H4 p (.lst (ys++[v])) c=some (.tup zs):=fun c zs e=>by
   rw[af (aD e GN (by intro z;cases z))];exact e
  refine⟨GN,xs.length - (i+1),by lia,rfl,dS,by simp[jG],ae,fun c o hc e=> ?_,?_,fun j v' e=> ?_⟩
  ·rw[af (aq e hp)];exact s4 _ _ hc (hs _ _ hc e)
  ·obtain⟨x,y,z,hb,r⟩:=B4;refine⟨x,y,z,?_,?_⟩
   ·rw[af (fun z=>XS z.symm)];exact hb
   ·rw[show k0+(i+1)*m=k0+i*m+m by rw[rj];lia];exact r
  ·rcases Nat.lt_or_ge j ys.length with hj|hj
   ·rw[bV hj] at e;exact mono j v' _ _ (mono j v' _ _ (hE j v' e) kt4) ktp
   ·rw[cF hj] at e
    have:j - ys.length=0:=by
     have:=(aS.mp e).1;simp at this
     lia
    rw[this] at e;cases e;rw[show j=i by lia];exact mono i v _ _ r4 ktp
 ·have e:i=xs.length:=by lia
  subst e;exact .inl ⟨⟨xs,bw.of TJ,az _⟩,hq p H' ys hp hs hB hl jG hE⟩
theorem JT{kv:bQ}{k:ww}{v:V}(h:(kv.map (·.1)).Nodup):((wv kv k v).map (·.1)).Nodup:=by
 by_cases e:(kv.any fun p=>decide (p.1=k))=true
 ·unfold wv;rw[aC e,gE]
  have:((·.1) ∘ fun p:ww×V=>if p.1=k then(p.1,v) else p)=(·.1):=by
   funext p
   show(if p.1=k then(p.1,v) else p).1=p.1
   split<;>rfl
  rw[this];exact h
 ·have e' :bR kv k=none:=by
   unfold bR;rw[List.find?_eq_none.mpr]
   ·rfl
   ·intro p hp z;exact e (xN.mpr ⟨p,hp,z⟩)
  exact Nt v h e'
theorem Gm{q:ww×V→Prop}{kv:bQ}{k:ww}{v:V}(h:∀p∈kv,q p)(hk:q (k,v)):∀p∈wv kv k v,q p:=by
 intro p hp;unfold wv at hp
 split at hp
 ·obtain⟨p',Lz,rfl⟩:=bM.mp hp;by_cases z:p'.1=k
  ·rw[aC z,z];exact hk
  ·rw[au z];exact h p' Lz
 ·rcases cj.mp hp with hp|hp
  ·exact h p hp
  ·rw[cw.mp hp];exact hk
theorem zk{q:ww×V→Prop}:∀(more kv:bQ),(kv.map (·.1)).Nodup→(∀p∈kv,q p)→(∀p∈more,q p)→((fX kv more).map (·.1)).Nodup∧∀p∈fX kv more,q p
 |[],_,h,h',_=>⟨h,h'⟩
 |x::r,kv,h,h',hm=>zk r (wv kv x.1 x.2) (JT h) (Gm h' (hm x bJ)) fun p hp=>hm p (a_ _ hp)
theorem MR{H:Hp}{Q:VK}{i:Int}(h0:0≤i)(h1:i<4)(q:∀c,fi c=true→Q (.str ⟨#[c]⟩) H):S_ (.str "pqrs") (.int i) H Q:=by
 obtain⟨j,rfl⟩:∃j:Nat,i=j:=⟨i.toNat,by lia⟩;have e:("pqrs" :Str).cps.toList=(List.range 4).map (· +112):=by decide+kernel
 have hj:j<4:=by lia
 refine⟨_,_,j+112,rfl,rfl,by decide+kernel,?_,q _ ?_⟩
 ·refine b9 ?_;rw[e,aW,jw hj];rfl
 ·unfold fi;rw[bu (by lia),bu (by lia)];rfl
theorem Eb{H:Hp}{R:Rm}:∀{kv:bQ},(∀p∈kv,∃x o,p.1= .inr x∧dJ x=true∧dI H R p.2 o)→∃(ns:aJ) (oh:av),kv.length=ns.length∧oh.length=ns.length∧∀(j:Nat) k v,kv[j]? =some (k,v)→k= .inr (ns.getD j "")∧dJ (ns.getD j "")=true∧dI H R v (oh.getD j none)
 |[],_=>⟨[],[],rfl,rfl,fun j k v e=>by simp at e⟩
 |(k0,v0)::r,h=>by
  obtain⟨x,o,e,hn,hv⟩:=h (k0,v0) bJ;obtain⟨ns,oh,l1,l2,hr⟩:=Eb (kv:=r) fun p hp=>h p (a_ _ hp);refine⟨x::ns,o::oh,by rw[cf,cf,l1],by rw[cf,cf,l2],fun j k v ej=> ?_⟩
  cases j with
  |zero=>
   cases ej;exact⟨e,hn,hv⟩
  |succ j=>exact hr j k v ej
theorem bS.of{H:Hp}{R:Rm}{d:Addr}{kv:bQ}(hd:H d=some (.dK kv))(h:∀p∈kv,∃x o,p.1= .inr x∧dJ x=true∧dI H R p.2 o):∃ns oh,bS H R d kv ns oh:=by
 obtain⟨ns,oh,l1,l2,hr⟩:=Eb h;exact⟨ns,oh,hd,l1,l2,hr⟩
theorem CL{xs:aJ}{i:Nat}(h:i<xs.length):xs[i]? =some (xs.getD i ""):=by
 rw[bD,cN h];rfl
theorem L0{k:ww}{x:Str}(h:kV k= .str x):k= .inr x:=by
 cases k with
 |inl i=>cases h
 |inr y=>cases h;rfl
noncomputable def P1:TS:=fun D σ H=>∃(b:Addr) (m:MW) (ps ts:av) (L top:Nat) (R:Rm) (ws ms:aH) (cs:cO) (G:List Nat) (nl:Addr) (xs:aJ) (k:Nat),σ=[some (.ref b),some (.ref m.d),some (.ref nl)]∧bO H b k∧k+120≤100000∧aF H m ps ts L top R ws ms cs G∧(¬b∈m.own)∧ps.length=ts.length∧ts.length≤1000∧R.length≤1000∧H nl=some (.lst (xs.map V.str))∧nl≠b∧xs.length≤40∧(∀x∈xs,dJ x=true)∧
 ∀d kv ns oh H',H d=none→bS H' R d kv ns oh→ns.length≤40→(kv.map (·.1)).Nodup→bO H' b (k+120)→Kept b H H'→D.rt (.ref d) H'
section
variable{P:Program}{w:World}{K:Frag}{mg:Str→aQ}{base:Heap}{A:qa}
noncomputable def Ni:Sp:=fun vs H Q _=>∃b m ps ts L top R ws ms cs G,∃k:Nat,vs=[.ref b,.ref m.d]∧bO H b k∧k+200≤100000∧aF H m ps ts L top R ws ms cs G∧¬b∈m.own∧ps.length=ts.length∧ts.length≤1000∧R.length≤1000∧
 ∀d kv ns oh H',H d=none→bS H' R d kv ns oh→ns.length≤40→(kv.map (·.1)).Nodup→bO H' b (k+200)→Kept b H H'→Q (.ref d) H'
theorem As(T:Txt K mg A):bC P w K mg base eC 4 A.t_ A.uJ ["_law_box_here","_law_world_here"] Ni:=by
 refine T.tN.F.fV ky ?_
 rintro c_ Ar outer s H vs Q E hr ⟨b,m,ps,ts,L,top,R,ws,ms,cs,G,k,rfl,B,hk,W,hb,PJ,HE,hR,q⟩
 have hu:=dy hr;have vt:_+100<cLine:=dR (kH (by decide:100≤16*3+200) _) (by have:=hr.un;omega);refine⟨_,(ah (fG 2 ky.nd (dO (AG T) hr T.rT aE (ai (pv 0) (aX (dO (aO T) hr T.aT aE (ai (pv 0) (aX aj))))))) (ah (bW (xL jr (dO (aO T) hr T.aT aE (ai (pv 0) (aX aj))) aj) (ao (Na 2 ky.nd ["_law_k"] 1 [] (eT rfl T.ib (aX aj)) (fun _ _ _ _ _=>⟨(iO 0 (show(["_law_k"]:aJ).Nodup by decide+kernel)),qM,(bG lU (de zc aR (bG i9 (bG fF (bG qK aj (pv 0)) aj) aj)) (de zc aR (bG i9 (pv 0) aj)))⟩))) bc) (jW (P1) (ao (aK (Dv (ng rfl) T.yH Boot.«dict» (aX (Bk ["_law_name","_law_box_here","_law_world_here"] 1 [0,1] (cK (pv 2)) (fun _ _ _ _ _=>⟨(iO 0 (show(["_law_name","_law_box_here","_law_world_here"]:aJ).Nodup by decide+kernel)),qM,(gF (ai (pv 0) (aX (dO (qh T) hr T.mD aE (ai (pv 1) (aX (pv 2)))))))⟩)))))) ?ae6))),?_⟩
 case ae6=>
  rintro D σ H1 ⟨b,m,ps,ts,L,top,R,ws,ms,cs,G,nl,xs,k,rfl,B,hk,W,hb,PJ,HE,hR,AU,V9,Ib,EW,q⟩
  have V5:(xs.map V.str).length=xs.length:=aN ..;refine⟨_,rfl,nl,rfl,⟨_,bw.of AU⟩,?_⟩;refine G2 (m:=3) (fun i v H' =>∃t y o,v= .ref t∧H' t=some (.tup [.str (xs.getD i ""),y])∧dI H' R y o) (ck (bz (by lia))) AU V9 B ?_ ?_ ?_
  ·rintro i v H' fN ⟨t,y,o,rfl,et,hv⟩ kt
   exact⟨t,y,o,rfl,kt _ _ et,hv.kt kt⟩
  ·intro i x H' C1 hx K' B' c1
   have xj:i<xs.length:=by
    have:=(aS.mp hx).1
    lia
   rw[aW,CL xj] at hx;cases hx;refine⟨(eM.refl _).own (by decide),_,rfl,_,rfl,_,rfl,b,m,ps,ts,L,top,R,ws,ms,cs,G,k+i*3,rfl,B',by lia,W.kept fun c o hc e=>K' c o (fun z=>hb (z▸hc)) e,hb,PJ,HE,hR,fun v o H2 hv B2 K2=>⟨(show 2≤sizeLine by decide),fun t ht=> ?_⟩⟩;have s3:=ax.upd (o:= .tup [V.str (xs.getD i ""),v]) ht;exact c1 _ _ ⟨t,v,o,rfl,ae,hv.kt (a9 s3)⟩ (B2.same s3) (K2.trans s3.kept)
  ·intro pl H' ys ma K' B' Lz jG hE
   obtain⟨kvs,Fb,Ag⟩:∃kvs,pz H' ys kvs:=yM fun i v e=>by
    obtain⟨t,y,o,rfl,et,_⟩:=hE i v e;exact⟨t,.inr (xs.getD i ""),y,rfl,et⟩
   have CF:∀p∈kvs,∃x o,p.1= .inr x∧dJ x=true∧dI H' R p.2 o:=fun p hp=>by
    obtain⟨i,hi⟩:=dz.mp hp;obtain⟨a,ea,ha⟩:=Ag i p.1 p.2 hi;obtain⟨t,y,o,ev,et,hv⟩:=hE i _ ea;cases ev;rw[ha] at et
    have xj:i<xs.length:=by
     have:=(aS.mp hi).1
     lia
    simp only[Option.some.injEq,HO.tup.injEq,List.cons.injEq,and_true] at et;exact⟨_,o,L0 et.1,EW _ (ba (CL xj)),et.2▸hv⟩
   refine⟨pl,ys,kvs,rfl,Lz,⟨Fb,Ag⟩,fun d hd=> ?_⟩;obtain⟨nd,al⟩:=zk kvs [] ik (fun p hp=>nomatch hp) CF;have s4:=ax.upd (o:= .dK (fX [] kvs)) hd
   obtain⟨ns,oh,hh⟩:=bS.of (H:=upd H' d (.dK (fX [] kvs))) (R:=R) (d:=d) ae fun p hp=>by
    obtain⟨x,o,e1,e2,e3⟩:=al p hp;exact⟨x,o,e1,e2,e3.kt (a9 s4)⟩
   have Ab:=fI kvs [];have u_:=hh.ln;rw[pj] at Ab;refine q d _ ns oh _ ?_ hh (by lia) nd ((B'.same s4).mono (by lia)) (K'.trans s4.kept)
   cases e:H1 d with
   |none=>rfl
   |some o=>rw[K' _ o (B'.ne hd) e] at hd;cases hd
 refine⟨_,rfl,_,rfl,b,6,k,rfl,B,by lia,by decide,by decide,fun r H1 r0 r1 B1 O1=> ?_⟩;obtain⟨n,rfl⟩:∃n:Nat,r=n:=⟨r.toNat,by lia⟩;refine⟨b,n,k+1,rfl,B1,by lia,by lia,fun nl xs H2 AU Ib EW afg B2 K2=> ?_⟩;have K2:Kept b H H2:=O1.kept.trans K2;have V9:nl≠b:=B1.ne AU
 have fr:∀{H' :Hp} {c:Addr} {k' :Nat},Kept b H H'→bO H' b k'→H' c=none→H c=none:=fun{H' c k'} K' B' hc=>by
  cases e:H c with
  |none=>rfl
  |some o=>rw[K' _ o (B'.ne hc) e] at hc;cases hc
 have fin:∀(nl:Addr) (xs:aJ) (H3:Hp) (k3:Nat),Kept b H H3→bO H3 b k3→k3≤k+20→H3 nl=some (.lst (xs.map V.str))→nl≠b→xs.length≤40→(∀x∈xs,dJ x=true)→P1 {nx:=fun _ H' =>Q .bK H',rt:=Q} [some (.ref b),some (.ref m.d),some (.ref nl)] H3:=fun nl xs H3 k3 K3 B3 hk3 AU V9 Ib EW=>
  ⟨b,m,ps,ts,L,top,R,ws,ms,cs,G,nl,xs,k3,rfl,B3,by lia,W.kept fun c o hc e=>K3 c o (fun z=>hb (z▸hc)) e,hb,PJ,HE,hR,AU,V9,Ib,EW,fun d kv ns oh H' hd h1 h2 h3 B' K' =>q d kv ns oh H' (fr K3 B3 hd) h1 h2 h3 (B'.mono (by lia)) (K3.trans K')⟩
 refine⟨_,rfl,b,8,k+1+12,rfl,B2,by lia,by decide,by decide,fun r2 H3 _ _ B3 O3=>⟨rfl,_,rfl,?_⟩⟩;have K3:Kept b H H3:=K2.trans O3.kept;refine ny (fun _=> ?_) (fun _=>fin nl xs H3 _ K3 B3 (by lia) (O3.kept _ _ V9 afg) V9 (by lia) EW);refine⟨40,rfl,by decide,by decide,?_⟩;refine oE (n:=40) (m:=0) (k0:=k+1+12+1) (fun v=>∃x,v= .str x∧dJ x=true) (ck (bz (by lia))) B3 ?_ ?_
 ·intro i H' C1 hi K' B' q1;refine⟨(eM.refl _).own (by decide),_,rfl,7,_,rfl,rfl,.inl ⟨by lia,by lia⟩,_,3,rfl,rfl,_,26,rfl,rfl,(show(0:Int)<26 by decide),pJ (jS _ (by decide)) (l7 _ (by decide)) fun ch C3=> ?_⟩;refine⟨_,rfl,_,4,rfl,rfl,(show(0:Int)<4 by decide),MR (jS _ (by decide)) (l7 _ (by decide)) fun ch2 ai1=> ?_⟩;have la:=sM ⟨#[ch]⟩ ⟨#[ch2]⟩;have l1:(⟨#[ch]⟩:Str).length=1:=rfl;have l2:(⟨#[ch2]⟩:Str).length=1:=rfl;have hL:sizeLine=16777216:=by decide
  exact⟨_,_,rfl,rfl,by lia,q1 _ _ ⟨_,rfl,((Lt.one C3).app (Lt.one ai1)).name (by lia) (by lia)⟩ (B'.mono (by lia)) (Kept.refl b H')⟩
 ·intro pl H' ys ma K' B' Lz jG hR;obtain⟨xs,rfl,EW⟩:=pw hR;rw[aN] at jG;exact fin pl xs H' _ (K3.trans K') B' (by lia) Lz (B3.ne ma) (by lia) EW
end
noncomputable def sA(C:Addr)(H:Hp)(a:HA)(m:MW)(d:Addr)(n:Nat):Prop:=∃ps ts L pk R N rs ws ms cs G kv ns oh,eE C H a m ps ts L pk R N rs ws ms cs G∧bS H R d kv ns oh∧ns.length≤40∧(kv.map (·.1)).Nodup∧R.length+ts.length≤n∧N≤2*n∧(¬d∈a.own)∧¬d∈m.own
theorem sA.kept{C:Addr}{H H' :Hp}{a:HA}{m:MW}{d:Addr}{n:Nat}(h:sA C H a m d n)(k:∀c o,c∈a.own∨c∈m.own∨c=d→H c=some o→H' c=some o)(kt:∀c xs,H c=some (.tup xs)→H' c=some (.tup xs)):sA C H' a m d n:=by
 obtain⟨ps,ts,L,pk,R,N,rs,ws,ms,cs,G,kv,ns,oh,Z,hd,r⟩:=h;exact⟨ps,ts,L,pk,R,N,rs,ws,ms,cs,G,kv,ns,oh,Z.kept (fun c o hc e=>k c o (hc.imp id .inl) e) kt,hd.kept (k _ _ (.inr (.inr rfl)) hd.ob) kt,r⟩
theorem sA.same{C:Addr}{H H' :Hp}{a:HA}{m:MW}{d:Addr}{n:Nat}(h:sA C H a m d n)(s:ax H H'):sA C H' a m d n:=h.kept (fun c o _ e=>s c o e) (a9 s)
theorem dI.app{H:Hp}{R:Rm}{v:V}{o:Option Nat}(h:dI H R v o):∀e:Rm,dI H (R++e) v o:=by
 intro e
 induction e generalizing R with
 |nil=>
  rw[dA];exact h
 |cons x e ih=>
  have:=ih h.snoc (R:=R++[x]);rw[fB] at this;exact this
theorem bS.app{H:Hp}{R:Rm}{d:Addr}{kv:bQ}{ns:aJ}{oh:av}(h:bS H R d kv ns oh)(e:Rm):bS H (R++e) d kv ns oh:=
 ⟨h.ob,h.ln,h.lo,fun j k v ej=>⟨(h.at_ j k v ej).1,(h.at_ j k v ej).2.1,(h.at_ j k v ej).2.2.app e⟩⟩
theorem jar{L:Nat}(h1:1≤L)(h2:L≤1000):Good [none] [none] L 0 []:=⟨⟨rfl,(by decide),(by decide),rfl,(fun i h0 hi=>absurd hi (by simp;lia)),(fun i j e=>by
 cases i with
 |zero=>cases e
 |succ i=>simp at e)⟩,rfl,(fun r hr=>nomatch hr),h1,h2,cB _,cB _⟩
section
variable{P:Program}{w:World}{K:Frag}{mg:Str→aQ}{base:Heap}{A:qa}
noncomputable def Oz(C:Addr):Sp:=fun vs H Q _=>∃b,vs=[.ref b]∧bO H b 0∧∀t a m d H',H t=none→H' t=some (.tup [.ref a.f,.ref m.d,.ref d])→sA C H' a m d 40→(∀c,c∈a.own∨c∈m.own∨c=d→H c=none)→Kept b H H'→bO H' b 1000→Q (.ref t) H'
theorem An(T:Txt K mg A):bC P w K mg base eC 10 A.rE A.sS ["_law_box_here"] (Oz A.ak):=by
 refine T.tZ.F.fV fK ?_
 rintro c_ Ar outer s H vs Q E hr ⟨b,rfl,B,q⟩
 have hu:=dy hr;have hgd:=hr.gd;refine⟨_,(ah (fG 1 fK.nd (de a7 (bY (ai aj (ai aj (ai aj (aX aj))))) (dO (aO T) hr T.aT aE (ai (pv 0) (aX aj))))) (ah (fG 2 fK.nd (Ob T.Oj ((rH T).mono (by decide)) hr rfl T.Oa T.lj.b .nil aE (aX (pv 1)))) (ah (fG 3 fK.nd (dO (Al T) hr T.tJ aE (aX (pv 1)))) (ah (A2 (eT rfl T.ib (aX (bG fF aj (dO (aO T) hr T.aT aE (ai (pv 0) (aX aj)))))) (iO 4 fK.nd) (ao (bW (eB (dQ (dO (ud T) hr T.n_ aE (ai (pv 0) (ai (pv 2) (aX (pv 3))))))) (ao (aK dh)) bc))) (ao (aK (gF (ai (pv 2) (ai (pv 3) (aX (dO (As T) hr T.tN aE (ai (pv 0) (aX (pv 3)))))))))))))),?_⟩
 have made:∀{H0 H1:Hp} {x dx:Addr} {a:HA},H0 x=none→H0 dx=none→a.f=x→(∀c∈a.own,c=x∨upd (upd H0 dx (.own x)) x (.ins A.ak dx []) c=none)→(∀b o,upd (upd H0 dx (.own x)) x (.ins A.ak dx []) b=some o→b≠x→H1 b=some o)→ax H0 H1∧∀c∈a.own,H0 c=none:=fun{H0 H1 x dx a} hx hdx ef go kp=>by
  have s0:ax H0 (upd (upd H0 dx (.own x)) x (.ins A.ak dx [])):=fun c o e=>by
   rw[af (aq e hx),af (aq e hdx)];exact e
  refine⟨fun c o e=>kp c o (s0 c o e) (aq e hx),fun c hc=> ?_⟩;rcases go c hc with h|h
  ·rw[h];exact hx
  ·exact s0.free h
 have WD:(4:Nat)≤sizeLine:=by decide
 have YF:(3:Nat)≤sizeLine:=by decide
 refine⟨WD,fun lp zh=> ?_⟩;have sl:=ax.upd (o:= .lst [V.int 60,V.int 200,V.int 1000,V.int 24]) zh;have el:upd H lp (.lst [V.int 60,V.int 200,V.int 1000,V.int 24]) lp=some (.lst [V.int 60,V.int 200,V.int 1000,V.int 24]):=ae;generalize upd H lp (.lst [V.int 60,V.int 200,V.int 1000,V.int 24])=Ha at sl el;have nlb:lp≠b:=B.ne zh;refine⟨_,rfl,b,4,0,rfl,B.same sl,by lia,by decide,by decide,fun r Hc r0 r1 Bc Oc=> ?_⟩;have Kc:Kept b H Hc:=sl.kept.trans Oc.kept;refine mv (fun v=>∃L:Nat,v= .int L∧1≤L∧L≤1000) (Oc.kept _ _ nlb el) r0 r1 ?_ fun v hv=> ?_
 ·intro x hx;simp only[bq,cR,cV] at hx;rcases hx with rfl|rfl|rfl|rfl
  ·exact⟨60,rfl,by decide,by decide⟩
  ·exact⟨200,rfl,by decide,by decide⟩
  ·exact⟨1000,rfl,by decide,by decide⟩
  ·exact⟨24,rfl,by decide,by decide⟩
 obtain⟨L,rfl,hL1,hL2⟩:=hv;refine⟨_,rfl,?_⟩;intro x0 dx0 JF aiv ne0;refine⟨x0,dx0,L,rfl,ae,hL1,hL2,fun a0 H1 ef0 go0 h0 kp0=>⟨rfl,_,rfl,L,rfl,fun m0 H2 M0 s2 gm0=> ?_⟩⟩;obtain⟨s1,fa0⟩:=made JF aiv ef0 go0 kp0;subst ef0;have B2:=(Bc.same s1).same s2;have K2:Kept b H H2:=Kc.trans (s1.trans s2).kept
 have fr:∀{H' :Hp} {c:Addr} {k' :Nat},Kept b H H'→bO H' b k'→H' c=none→H c=none:=fun{H' c k'} K' B' hc=>by
  cases e:H c with
  |none=>rfl
  |some o=>rw[K' _ o (B'.ne hc) e] at hc;cases hc
 have fr0:∀c,c∈a0.own∨c∈m0.own→H c=none:=fun c hc=>by
  rcases hc with h|h
  ·exact fr Kc Bc (fa0 c h)
  ·exact fr (Kc.trans s1.kept) (Bc.same s1) (gm0 c h)
 have Z0:eE A.ak H2 a0 m0 [none] [none] L 0 [] 0 [] [] [] [] []:=⟨h0.same s2,M0,jar hL1 hL2,rfl,fun i vs e=>by simp at e,⟨fun _=>[],fun i xs e=>by simp at e⟩,fun c hc QB =>by
  obtain⟨o,e⟩:=h0.al c hc;rw[gm0 c QB] at e;cases e⟩
 refine⟨_,rfl,b,26,1,rfl,B2,by lia,by decide,by decide,fun r H3 r0 r1 B3 O3=>⟨10,r,rfl,rfl,10+r,rfl,by lia,by lia,?_⟩⟩;have Z3:eE A.ak H3 a0 m0 [none] [none] L 0 [] 0 [] [] [] [] []:=Z0.kept (fun c o hc e=>O3.kept c o (B.ne (fr0 c hc)) e) (C7 O3.kept B2);refine vp (lo:=0) (n:=(10+r).toNat) (fun i σ H' =>∃(x4:Option V) (a:HA) (m:MW) (ps ts:av) (pk:Nat) (R:Rm) (N:Nat) (rs ws ms:aH) (cs:cO) (G:List Nat),σ=[some (.ref b),some (.int L),some (.ref a.f),some (.ref m.d),x4]∧eE A.ak H' a m ps ts L pk R N rs ws ms cs G∧(∀c,c∈a.own∨c∈m.own→H c=none)∧Kept b H H'∧bO H' b (2+12*i)∧R.length+ts.length≤1+i∧N≤2*i) ⟨_,a0,m0,_,_,_,_,_,_,_,_,_,_,rfl,Z3,fr0,K2.trans O3.kept,B3,az _,az _⟩ ?_ ?_
 ·rintro i σ H4 hi ⟨x4,a,m,ps,ts,pk,R,N,rs,ws,ms,cs,G,rfl,Z,Lq,K4,B4,hRl,hN⟩
  have C6 :i<36:=by lia
  refine⟨_,rfl,_,rfl,_,rfl,b,2+12*i,a,m,ps,ts,L,pk,R,N,rs,ws,ms,cs,G,rfl,B4,by lia,Z,fun z=>B.ne (Lq b (.inl z)) rfl,fun z=>B.ne (Lq b (.inr z)) rfl,by lia,by lia,fun a' m' Ja ts' xJ R' N' zY xh zZ xv G' H5 Z' ef ed ga gm kp kt B' hR' hN' _=> ?_⟩;refine⟨_,rfl,cQ ⟨_,a',m',Ja,ts',xJ,R',N',zY,xh,zZ,xv,G',by rw[ef,ed];rfl,Z',fun c hc=> ?_,fun c o hc e=> ?_,B'.mono (by lia),by lia,by lia⟩⟩
  ·rcases hc with h|h
   ·exact(ga c h).elim (fun h=>Lq c (.inl h)) (fun h=>fr K4 B4 h)
   ·exact(gm c h).elim (fun h=>Lq c (.inr h)) (fun h=>fr K4 B4 h)
  ·refine kp c o hc (fun z=> ?_) (fun z=> ?_) (K4 c o hc e)
   ·rw[Lq c (.inl z)] at e;cases e
   ·rw[Lq c (.inr z)] at e;cases e
 ·rintro σ H4 ⟨x4,a,m,ps,ts,pk,R,N,rs,ws,ms,cs,G,rfl,Z,Lq,K4,B4,hRl,hN⟩
  have hW:=Z.G.W.len;refine⟨_,rfl,_,rfl,_,rfl,_,rfl,b,m,ps,ts,L,pk,R,ws,ms,cs,G,2+12*(10+r).toNat,rfl,B4,by lia,Z.mo,fun z=>B.ne (Lq b (.inr z)) rfl,hW,by lia,by lia,fun d kv ns oh H5 hd hh C9 nd B5 K5=>⟨YF,fun t ht=> ?_⟩⟩;have s6:=ax.upd (o:= .tup [V.ref a.f,.ref m.d,.ref d]) ht;have fd:=fr K4 B4 hd;have Z5:eE A.ak H5 a m ps ts L pk R N rs ws ms cs G:=Z.kept (fun c o hc e=>K5 c o (B.ne (Lq c hc)) e) (C7 K5 B4);refine q t a m d _ (fr (K4.trans K5) B5 ht) ae ⟨ps,ts,L,pk,R,N,rs,ws,ms,cs,G,kv,ns,oh,Z5.same s6,hh.same s6,C9,nd,by lia,by lia,fun z=> ?_,fun z=> ?_⟩ (fun c hc=> ?_) ((K4.trans K5).trans s6.kept) ((B5.same s6).mono (by lia))
  ·obtain⟨o,e⟩:=Z.h.al d z;rw[hd] at e;cases e
  ·obtain⟨o,e⟩:=Z.mo.al d z;rw[hd] at e;cases e
  ·rcases hc with h|h|h
   ·exact Lq c (.inl h)
   ·exact Lq c (.inr h)
   ·rw[h];exact fd
end
open PySem.SeqAt
structure Ly(k:Nat)(d:PyData):Prop where
 lay:d.canLay0=true
 mix:noMix d d=true
 dp:d.depth≤k
theorem Ly.mono{k k' :Nat}{d:PyData}(h:Ly k d)(hk:k≤k'):Ly k' d:=⟨h.lay,h.mix,aY h.dp hk⟩
theorem Ly.shaped{k:Nat}{d:PyData}(h:Ly k d)(hk:k≤64):shaped d=true:=by
 show(PyData.canLay0 d&&decide (PyData.depth d≤64))=true;rw[h.lay,bu (aY h.dp hk)];rfl
theorem EO{k:Nat}:∀{ds:List PyData},(∀d∈ds,Ly k d)→PyData.canLayAll0 ds=true∧noMixAll ds ds=true∧PyData.depthAll ds≤k
 |[],_=>by simp[PyData.canLayAll0,noMixAll,PyData.depthAll]
 |d::r,h=>by
  obtain⟨h1,h2,h3⟩:=EO (ds:=r) fun x hx=>h x (a_ _ hx);have g:=h d bJ;refine⟨?_,?_,?_⟩
  ·simp only[PyData.canLayAll0,g.lay,h1,xF]
  ·simp only[noMixAll,g.mix,h2,xF]
  ·simp only[PyData.depthAll];exact Nat.max_le.mpr ⟨g.dp,h3⟩
theorem Ly.tup{k:Nat}{ds:List PyData}(h:∀d∈ds,Ly k d):Ly (k+1) (.tuple ds):=by
 obtain⟨h1,h2,h3⟩:=EO h;refine⟨?_,?_,?_⟩
 ·simp only[PyData.canLay0,h1]
 ·simp only[noMix,h2]
 ·simp only[PyData.depth]
  lia
theorem Ly.list{k:Nat}{ds:List PyData}(h:∀d∈ds,Ly k d):Ly (k+1) (.list ds):=by
 obtain⟨h1,h2,h3⟩:=EO h;refine⟨?_,?_,?_⟩
 ·simp only[PyData.canLay0,h1]
 ·simp only[noMix,h2]
 ·simp only[PyData.depth]
  lia
theorem vy(i:Int):Ly 1 (.int i):=⟨by simp only[PyData.canLay0],by simp only[noMix],by simp[PyData.depth]⟩
theorem GB:Ly 1 .none:=⟨by simp only[PyData.canLay0],by simp only[noMix],by simp[PyData.depth]⟩
theorem abH(o:Option Nat):Ly 1 (oD o):=by
 cases o with
 |none=>exact GB
 |some n=>exact vy _
theorem Oi{x:Str}(h:dJ x=true):PyData.strOk x=true:=by
 unfold dJ at h;rw[gc] at h;show x.cps.all (· <1114112)=true;rw[←Array.all_toList];rw[i7];intro c hc;have:=i7.mp h.2 c hc;unfold fi at this;rw[gc] at this;have h2:=gQ this.2;exact bu (by lia)
theorem Li{x:Str}(h:dJ x=true):x.length≤6:=by
 unfold dJ at h;rw[gc,gc] at h;exact gQ h.1.2
theorem Gz{x:Str}(h:dJ x=true):Ly 1 (.str x):=⟨by simp only[PyData.canLay0];exact Oi h,by simp only[noMix],by simp[PyData.depth]⟩
theorem Hj{x:Str}(h:dJ x=true):Fits 150 3 (.str x):=by
 refine⟨?_,?_,?_⟩
 ·simp only[PyData.showable]
 ·simp[PyData.depth]
 ·have h1:=PyData.shown_le 8 (by decide) (.str x) (PyData.leavesShort_of_canLay0 8 _ (Gz h).lay (by simp only[PyData.intsShort]));have h2:PyData.weight (.str x)=x.length:=by simp only[PyData.weight];rfl
  have h3:=Li h
  lia
theorem zF(f p:Nat):Ly 2 (eR f p):=Ly.tup fun d hd=>by
 simp only[bq,cR,cV] at hd;rcases hd with rfl|rfl
 ·exact vy _
 ·exact vy _
theorem lD{H:Hp}:∀{xs:aA} {ds:List PyData},xs.length=ds.length→(∀(j:Nat) x d,xs[j]? =some x→ds[j]? =some d→Dat H x d)→DatAll H xs ds
 |[],[],_,_=> .nil
 |[],_::_,h,_=>by simp at h
 |_::_,[],h,_=>by simp at h
 |x::xs,d::ds,h,k=> .cons (k 0 x d rfl rfl) (lD (by simpa using h) fun j y e h1 h2=>k (j+1) y e (by simpa using h1) (by simpa using h2))
theorem dI.ly{H:Hp}{R:Rm}{v:V}{o:Option Nat}(h:dI H R v o):∃e,dZ H v e∧Ly 2 e:=by
 rcases h with⟨_,h|⟨i,h⟩⟩|⟨i,t,h1,h2,h3,h4⟩
 ·exact⟨.none,by rw[h];exact .bK,GB.mono (by decide)⟩
 ·exact⟨.int i,by rw[h];exact .int i,(vy i).mono (by decide)⟩
 ·exact⟨_,by rw[h2];exact iI h4,zF _ _⟩
theorem By{H:Hp}{R:Rm}:∀{kv:bQ},(∀p∈kv,∃x o,p.1= .inr x∧dJ x=true∧dI H R p.2 o)→∃ds:List PyData,ds.length=kv.length∧(∀d∈ds,Ly 3 d)∧∀(j:Nat) p d,kv[j]? =some p→ds[j]? =some d→∃x e,p.1= .inr x∧dZ H p.2 e∧d= .tuple [.str x,e]
 |[],_=>⟨[],rfl,(fun d hd=>by cases hd),(fun j p d e=>by simp at e)⟩
 |p0::r,h=>by
  obtain⟨x,o,e,hn,hv⟩:=h p0 bJ;obtain⟨d,hd,hl⟩:=hv.ly;obtain⟨ds,l1,l2,hr⟩:=By (kv:=r) fun p hp=>h p (a_ _ hp);refine⟨.tuple [.str x,d]::ds,by rw[cf,cf,l1],fun f hf=> ?_,fun j p f e1 e2=> ?_⟩
  ·rcases bq.mp hf with rfl|hf
   ·refine Ly.tup fun g hg=> ?_;simp only[bq,cR,cV] at hg;rcases hg with rfl|rfl
    ·exact(Gz hn).mono (by decide)
    ·exact hl
   ·exact l2 f hf
  ·cases j with
   |zero=>
    cases e1;cases e2;exact⟨x,d,e,hd,rfl⟩
   |succ j=>exact hr j p f e1 e2
theorem bS.data{H:Hp}{R:Rm}{d:Addr}{kv:bQ}{ns:aJ}{oh:av}(h:bS H R d kv ns oh):∃ds:List PyData,Ly 4 (.list ds)∧∀H' ys,ax H H'→pz H' ys kv→DatAll H' ys ds:=by
 obtain⟨ds,h1,h2,h3⟩:=By (H:=H) (R:=R) (kv:=kv) fun p hp=>by
  obtain⟨j,hj⟩:=dz.mp hp;obtain⟨e1,e2,e3⟩:=h.at_ j p.1 p.2 hj;exact⟨_,_,e1,e2,e3⟩
 refine⟨ds,Ly.list h2,fun H' ys s hp=>lD (by rw[hp.1,h1]) fun j y d e1 e2=> ?_⟩
 have hj:j<kv.length:=by
  have:=(aS.mp e2).1
  lia
 have hk:kv[j]? =some kv[j]:=by simp[hj]
 obtain⟨x,e,f1,f2,rfl⟩:=h3 j _ d hk e2;obtain⟨a,g1,g2⟩:=hp.2 j kv[j].1 kv[j].2 hk;rw[e1] at g1;cases g1;refine .tup g2 (.cons ?_ (.cons (f2.kt (a9 s)).dat .nil));rw[f1];exact .str x
theorem UX(H:Hp)(o:Option Nat):Dat H (oV o) (oD o):=by
 cases vw H [o] with
 |cons h _=>exact h
noncomputable def frD(ps:av)(R:Rm)(Ek:Nat→List PyData)(n:Nat):PyData:= .tuple [.int n,oD (ps.getD n none),.tuple ((bg R n).map fun m=> .tuple (Ek m))]
noncomputable def acw(ps ts:av)(L:Nat)(R:Rm)(Ek:Nat→List PyData):PyData:= .tuple [.int L,.tuple ((aw ts).map fun n=>frD ps R Ek n)]
theorem CJ.dat{ps:av}{R:Rm}{cs:cO}{H:Hp}{n:Nat}{o:Option Nat}{v:V}{Ek:Nat→List PyData}(hp:ps[n]? =some o)(hd:∀(m:Nat) vs,cs[m]? =some vs→DatAll H vs (Ek m))(h:CJ R cs H n o v):Dat H v (frD ps R Ek n):=by
 obtain⟨t,tt,xs,rfl,h2,h3,h4,h5⟩:=h;have e:ps.getD n none=o:=by rw[bD,hp];rfl
 unfold frD;rw[e];refine .tup h2 (.cons (.int _) (.cons (UX _ _) (.cons (.tup h3 (lD (by rw[aN];exact h4) fun j x d e1 e2=> ?_)) .nil)));obtain⟨u,m,vs,rfl,f2,f3,f4⟩:=h5 j x e1;rw[aW,f2] at e2;cases e2;exact .tup f4 (hd m vs f3)
theorem yY.dat{ps ts:av}{L:Nat}{R:Rm}{cs:cO}{H:Hp}{v:V}{Ek:Nat→List PyData}(hd:∀(m:Nat) vs,cs[m]? =some vs→DatAll H vs (Ek m))(h:yY ps ts L R cs H v):Dat H v (acw ps ts L R Ek):=by
 obtain⟨t,tt,xs,rfl,h2,h3,h4,h5⟩:=h;refine .tup h2 (.cons (.int _) (.cons (.tup h3 (lD (by rw[aN];exact h4) fun j x d e1 e2=> ?_)) .nil));obtain⟨n,o,f1,f2,f3⟩:=h5 j x e1;rw[aW,f1] at e2;cases e2;exact f3.dat f2 hd
theorem Us{ps ts:av}{L:Nat}{R:Rm}{Ek:Nat→List PyData}(h:∀m,∀d∈Ek m,Ly 2 d):Ly 7 (acw ps ts L R Ek):=by
 refine Ly.tup fun d hd=> ?_;simp only[bq,cR,cV] at hd;rcases hd with rfl|rfl
 ·exact(vy _).mono (by decide)
 ·refine Ly.tup fun d hd=> ?_;obtain⟨n,_,rfl⟩:=bM.mp hd;refine Ly.tup fun d hd=> ?_;simp only[bq,cR,cV] at hd;rcases hd with rfl|rfl|rfl
  ·exact(vy _).mono (by decide)
  ·exact(abH _).mono (by decide)
  ·refine Ly.tup fun d hd=> ?_;obtain⟨m,_,rfl⟩:=bM.mp hd;exact Ly.tup (h m)
theorem Bx{H:Hp}{R:Rm}:∀{xs:aA},(∀v∈xs,∃o,dI H R v o)→∃ds,DatAll H xs ds∧∀d∈ds,Ly 2 d
 |[],_=>⟨[],.nil,fun d hd=>by cases hd⟩
 |v::r,h=>by
  obtain⟨ds,h1,h2⟩:=Bx (xs:=r) fun u hu=>h u (a_ _ hu);obtain⟨o,hv⟩:=h v bJ;obtain⟨e,he,hl⟩:=hv.ly;exact⟨e::ds,.cons he.dat h1,fun d hd=>(bq.mp hd).elim (fun z=>z▸hl) (h2 d)⟩
theorem e_.data{H:Hp}{R:Rm}{cs:cO}{oS:Nat→av}(c:e_ H R cs oS):∃Ek:Nat→List PyData,(∀(m:Nat) vs,cs[m]? =some vs→DatAll H vs (Ek m))∧∀m,∀d∈Ek m,Ly 2 d:=by
 have ex:∀m:Nat,∃ds:List PyData,(∀vs,cs[m]? =some vs→DatAll H vs ds)∧∀d∈ds,Ly 2 d:=fun m=>by
  cases e:cs[m]? with
  |none=>exact⟨[],(fun vs h=>by cases h),(fun d hd=>by cases hd)⟩
  |some vs=>
   obtain⟨ds,h1,h2⟩:=Bx (H:=H) (R:=R) (xs:=vs) fun v hv=>by
    obtain⟨k,hk⟩:=dz.mp hv;exact⟨_,(c m vs e).2.2 k v hk⟩
   exact⟨ds,(fun vs' h=>by cases h;exact h1),h2⟩
 obtain⟨f,hf⟩:=Classical.axiomOfChoice ex;exact⟨f,fun m vs h=>(hf m).1 vs h,fun m=>(hf m).2⟩
theorem vE{α β:Type}(f:α→List β){c:Nat}:∀l:List α,(∀x∈l,(f x).length≤c)→(l.flatMap f).length≤l.length*c
 |[],_=>by simp
 |a::r,h=>by
  rw[uq,bj,cf,rj];have:=vE f r fun x hx=>h x (a_ _ hx);have:=h a bJ
  lia
noncomputable abbrev Rw:=Nat×List PyData
noncomputable def nS(acc:List Rw)(x:Rw):List Rw:=if x.1∈acc.map (·.1) then acc else acc++[x]
noncomputable def aM(acc xs:List Rw):List Rw:=xs.foldl nS acc
noncomputable def qu(sc:Nat→List (Nat×PyData))(x:Rw):List Rw:=(sc x.1).map fun y=>(y.1,x.2++[y.2])
noncomputable def EC(sc:Nat→List (Nat×PyData))(acc:List Rw)(k:Nat):List Rw:=match acc[k]? with
 |some x=>aM acc (qu sc x)
 |none=>acc
noncomputable def c8(sc:Nat→List (Nat×PyData))(a0:List Rw):Nat→List Rw
 |0=>a0
 |k+1=>EC sc (c8 sc a0 k) k
theorem Dr(acc:List Rw)(x:Rw):∃t,nS acc x=acc++t:=by
 unfold nS
 split
 ·exact⟨[],(dA acc).symm⟩
 ·exact⟨[x],rfl⟩
theorem lg:∀(xs acc:List Rw),∃t,aM acc xs=acc++t
 |[],acc=>⟨[],(dA acc).symm⟩
 |x::r,acc=>by
  obtain⟨t,e⟩:=Dr acc x;obtain⟨t',e'⟩:=lg r (nS acc x);refine⟨t++t',?_⟩;show aM (nS acc x) r=_;rw[e',e,fB]
theorem Bn(acc xs ys:List Rw):aM acc (xs++ys)=aM (aM acc xs) ys:=List.foldl_append ..
theorem Ey(acc xs:List Rw)(y:Rw):aM acc (xs++[y])=nS (aM acc xs) y:=Bn acc xs [y]
theorem Ej(sc:Nat→List (Nat×PyData))(a0:List Rw)(k:Nat):∀m,∃t,c8 sc a0 (k+m)=c8 sc a0 k++t
 |0=>⟨[],(dA _).symm⟩
 |m+1=>by
  obtain⟨t,e⟩:=Ej sc a0 k m;show ∃t,EC sc (c8 sc a0 (k+m)) (k+m)=_;unfold EC
  split
  ·obtain⟨t',e'⟩:=lg (qu sc _) (c8 sc a0 (k+m));exact⟨t++t',by rw[e',e,fB]⟩
  ·exact⟨t,e⟩
theorem uR{sc:Nat→List (Nat×PyData)}{a0:List Rw}{k:Nat}(h:(c8 sc a0 k).length≤k):∀m,c8 sc a0 (k+m)=c8 sc a0 k
 |0=>rfl
 |m+1=>by
  show EC sc (c8 sc a0 (k+m)) (k+m)=_;rw[uR h m];unfold EC;rw[gB (by lia)]
theorem zO{sc:Nat→List (Nat×PyData)}{a0:List Rw}{k:Nat}:∀m,k+m≤(c8 sc a0 k).length→c8 sc a0 (k+m)=aM (c8 sc a0 k) ((((c8 sc a0 k).drop k).take m).flatMap (qu sc))
 |0,_=>by simp[aM]
 |m+1,h=>by
  have ih:=zO (sc:=sc) (a0:=a0) (k:=k) m (by lia);obtain⟨t,e⟩:=Ej sc a0 k m;have hx:(c8 sc a0 k)[k+m]? =some (c8 sc a0 k)[k+m]:=by simp[show k+m<(c8 sc a0 k).length by lia]
  have hx2:(c8 sc a0 (k+m))[k+m]? =some (c8 sc a0 k)[k+m]:=by
   rw[e,bV (by lia)];exact hx
  have hd:((c8 sc a0 k).drop k)[m]? =some (c8 sc a0 k)[k+m]:=by
   rw[tX];exact hx
  show EC sc (c8 sc a0 (k+m)) (k+m)=_;unfold EC;rw[hx2];show aM (c8 sc a0 (k+m)) (qu sc (c8 sc a0 k)[k+m])=_;rw[xK,hd,lY,Bn,←ih];simp
noncomputable def D0(sc:Nat→List (Nat×PyData))(a0 f:List Rw):Prop:=∃k,f=c8 sc a0 k∧f.length=k
theorem D0.uniq{sc:Nat→List (Nat×PyData)}{a0 f g:List Rw}(h:D0 sc a0 f)(h' :D0 sc a0 g):f=g:=by
 obtain⟨k,rfl,hk⟩:=h;obtain⟨k',rfl,PD⟩:=h';rcases Nat.le_total k k' with hl|hl
 ·have:=uR (sc:=sc) (a0:=a0) (k:=k) (by lia) (k' - k);rw[show k+(k' - k)=k' by lia] at this;exact this.symm
 ·have:=uR (sc:=sc) (a0:=a0) (k:=k') (by lia) (k - k');rw[show k' +(k - k')=k by lia] at this;exact this
theorem Ii{sc:Nat→List (Nat×PyData)}{a0 found fresh:List Rw}(h:aM found fresh=c8 sc a0 found.length):aM (aM found fresh) (((aM found fresh).drop found.length).flatMap (qu sc))=c8 sc a0 (aM found fresh).length:=by
 obtain⟨t,e⟩:=lg fresh found
 have hle:found.length≤(aM found fresh).length:=by
  rw[e,bj]
  lia
 have:=zO (sc:=sc) (a0:=a0) (k:=found.length) ((aM found fresh).length - found.length) (by rw[←h];lia);rw[show found.length+((aM found fresh).length - found.length)=(aM found fresh).length by lia] at this;rw[this,←h]
 congr 2
 rw[xR (by rw[kh];exact az _)]
theorem IV{sc:Nat→List (Nat×PyData)}{a0 found:List Rw}(h:aM found []=c8 sc a0 found.length):D0 sc a0 found:=⟨found.length,h,rfl⟩
theorem Md{q:Rw→Prop}{acc:List Rw}{x:Rw}(h:∀y∈acc,q y)(hx:q x):∀y∈nS acc x,q y:=by
 intro y hy;unfold nS at hy
 split at hy
 ·exact h y hy
 ·rcases cj.mp hy with hy|hy
  ·exact h y hy
  ·rw[cw.mp hy];exact hx
theorem yO{q:Rw→Prop}:∀(xs acc:List Rw),(∀y∈acc,q y)→(∀y∈xs,q y)→∀y∈aM acc xs,q y
 |[],_,h,_=>h
 |x::r,acc,h,hx=>yO r (nS acc x) (Md h (hx x bJ)) fun y hy=>hx y (a_ _ hy)
theorem gj{q:Rw→Prop}{xs acc:List Rw}(h:∀y∈acc,q y)(hx:∀y∈xs,q y):∀y∈aM acc xs,q y:=yO xs acc h hx
theorem yC{q:Rw→Prop}{sc:Nat→List (Nat×PyData)}{a0:List Rw}(h0:∀y∈a0,q y)(hs:∀x,q x→∀y∈qu sc x,q y):∀k,∀y∈c8 sc a0 k,q y
 |0=>h0
 |k+1=>by
  show ∀y∈EC sc (c8 sc a0 k) k,q y;unfold EC;have ih:=yC h0 hs k
  split
  ·rename_i x hx;exact gj ih (hs x (ih x (ba hx)))
  ·exact ih
theorem NL{acc:List Rw}{x:Rw}(h:(acc.map (·.1)).Nodup):((nS acc x).map (·.1)).Nodup:=by
 unfold nS
 split
 ·exact h
 ·rename_i hn;rw[cg,me];refine⟨h,by simp,fun a ha b hb z=>hn ?_⟩;have hb:b=x.1:=cw.mp hb;rw[←hb,←z];exact ha
theorem Bp :∀(xs acc:List Rw),(acc.map (·.1)).Nodup→((aM acc xs).map (·.1)).Nodup
 |[],_,h=>h
 |x::r,acc,h=>Bp r (nS acc x) (NL h)
theorem lM{xs acc:List Rw}(h:(acc.map (·.1)).Nodup):((aM acc xs).map (·.1)).Nodup:=Bp xs acc h
theorem sW{sc:Nat→List (Nat×PyData)}{a0:List Rw}(h0:(a0.map (·.1)).Nodup):∀k,((c8 sc a0 k).map (·.1)).Nodup
 |0=>h0
 |k+1=>by
  show((EC sc (c8 sc a0 k) k).map (·.1)).Nodup;unfold EC
  split
  ·exact lM (sW h0 k)
  ·exact sW h0 k
noncomputable def p_(acc:List Rw):Prop:=∀(j:Nat) x,acc[j]? =some x→x.2.length≤j+1
theorem p_.add{acc:List Rw}{x:Rw}(h:p_ acc)(hx:x.2.length≤acc.length+1):p_ (nS acc x):=by
 unfold nS
 split
 ·exact h
 ·intro j y e;by_cases hj:j<acc.length
  ·rw[bV hj] at e;exact h j y e
  ·rw[cF (by lia)] at e
   have h0:j - acc.length=0:=by
    have:=(aS.mp e).1;simp at this
    lia
   rw[h0] at e;cases e
   lia
theorem p_.adds:∀{xs acc:List Rw},p_ acc→(∀x∈xs,x.2.length≤acc.length+1)→p_ (aM acc xs)
 |[],_,h,_=>h
 |x::r,acc,h,hx=>by
  refine p_.adds (xs:=r) (h.add (hx x bJ)) fun y hy=> ?_;obtain⟨t,e⟩:=Dr acc x;rw[e,bj];have:=hx y (a_ _ hy)
  lia
theorem tD{sc:Nat→List (Nat×PyData)}{a0:List Rw}(h0:p_ a0):∀k,p_ (c8 sc a0 k)
 |0=>h0
 |k+1=>by
  show p_ (EC sc (c8 sc a0 k) k);unfold EC
  split
  ·rename_i x hx;refine(tD h0 k).adds fun y hy=> ?_;obtain⟨z,_,rfl⟩:=bM.mp hy;have h1:=tD h0 k k x hx;have h2:=(aS.mp hx).1;show(x.2++[z.2]).length≤_;rw[bj];show x.2.length+1≤_
   lia
  ·exact tD h0 k
theorem Bh{n:Nat}:∀{l:List Nat},l.Nodup→(l.filter fun x=>decide (x=n)).length≤1
 |[],_=>by simp
 |a::r,h=>by
  rw[fq] at h;rw[fE]
  split
  ·rename_i e;have e:a=n:=gQ e;rw[xn.mpr fun x hx z=>h.1 (by rw[e,←gQ z];exact hx)];exact az _
  ·exact Bh h.2
theorem o6:∀(n:Nat) {l:List Nat},l.Nodup→(∀x∈l,x<n)→l.length≤n
 |0,[],_,_=>az _
 |0,a::_,_,h=>absurd (h a bJ) (rh _)
 |n+1,l,hn,h=>by
  have h1:=Bh (n:=n) hn
  have h2:=o6 n (l:=l.filter fun x=>decide (x≠n)) (hn.filter _) fun x hx=>by
   have:=h x (cA.mp hx).1;have:=gQ (cA.mp hx).2
   lia
  have h3:=kj (fun x=>decide (x=n)) (fun x=>decide (x≠n)) l fun x _ z=>(gQ z.2) (gQ z.1)
  have e:l.filter (fun x=>decide (x=n)||decide (x≠n))=l:=jH.mpr fun x _=>by
   by_cases z:x=n
   ·rw[bu z];rfl
   ·rw[bu (show x≠n from z),Bool.or_true]
  rw[e] at h3
  lia
noncomputable def tg(o:Option Nat):Nat:=o.getD 0
noncomputable def Gq(R:Rm)(S:List Nat)(ns:aJ)(oh:av):List (Nat×PyData):=((List.range ns.length).filter fun j=>gp R S (oh.getD j none)).map fun j:Nat=>(tg (oh.getD j none),.tuple [.str "hand",.str (ns.getD j ""),wD R (oh.getD j none)])
noncomputable def A8(R:Rm)(S:List Nat)(h:PyData)(os:av):List (Nat×PyData):=((List.range os.length).filter fun k=>gp R S (os.getD k none)).map fun k:Nat=>(tg (os.getD k none),.tuple [.str "room",h,.int (k:Int),wD R (os.getD k none)])
noncomputable def gZ(R:Rm)(S:List Nat)(oS:Nat→av)(i:Nat):List (Nat×PyData):=A8 R S (wD R (some i)) (oS i)
noncomputable def om(ts:av)(R:Rm)(S:List Nat)(ns:aJ)(oh:av)(oS:Nat→av):List (Nat×PyData):=Gq R S ns oh++(((aw ts).filter fun n=> !decide (n∈S)).flatMap (bg R)).flatMap (gZ R S oS)
noncomputable def wn(ts:av)(R:Rm)(S:List Nat)(ns:aJ)(oh:av)(oS:Nat→av):List Rw:=(om ts R S ns oh oS).map fun y=>(y.1,[y.2])
theorem yz(R:Rm)(S:List Nat)(h:PyData)(os:av):F0 R S h os=(A8 R S h os).map (·.2):=by
 unfold F0 A8;rw[gE];rfl
theorem tS(ts:av)(R:Rm)(S:List Nat)(ns:aJ)(oh:av)(oS:Nat→av):FZ ts R S ns oh oS=(om ts R S ns oh oS).map (·.2):=by
 unfold FZ om zR Gq qF gZ;rw[cg,gE,List.map_flatMap]
 congr 1
 congr 1
 funext i
 exact yz R S _ _
structure Lk(R:Rm)(S:List Nat)(y:Nat×PyData):Prop where
 lt:y.1<R.length
 fr:(R.getD y.1 (0,0)).1∈S
 la:∃pre,y.2= .tuple (pre++[wD R (some y.1)])
theorem pq{R:Rm}{S:List Nat}{o:Option Nat}(h:gp R S o=true):∃i,o=some i∧(R.getD i (0,0)).1∈S:=by
 cases o with
 |none=>cases h
 |some i=>exact⟨i,rfl,gQ h⟩
theorem M_{R:Rm}{S:List Nat}{h:PyData}{os:av}(ho:∀i,some i∈os→i<R.length):∀y∈A8 R S h os,Lk R S y:=by
 intro y hy;obtain⟨k,hk,rfl⟩:=bM.mp hy;obtain⟨i,e,hi⟩:=pq (cA.mp hk).2;have Fb:=dg.mp (cA.mp hk).1
 have hm:some i∈os:=by
  rw[←e,bD,cN Fb];exact iZ Fb
 refine⟨?_,?_,[.str "room",h,.int (k:Int)],?_⟩
 ·show tg (os.getD k none)<_;rw[e];exact ho i hm
 ·show(R.getD (tg (os.getD k none)) (0,0)).1∈S;rw[e];exact hi
 ·show PyData.tuple _=PyData.tuple ([PyData.str "room",h,.int (k:Int)]++[wD R (some (tg (os.getD k none)))]);rw[e];rfl
theorem Nh{R:Rm}{S:List Nat}{ns:aJ}{oh:av}(ho:∀i,some i∈oh→i<R.length)(hl:oh.length=ns.length):∀y∈Gq R S ns oh,Lk R S y:=by
 intro y hy;obtain⟨k,hk,rfl⟩:=bM.mp hy;obtain⟨i,e,hi⟩:=pq (cA.mp hk).2;have Fb:=dg.mp (cA.mp hk).1
 have hm:some i∈oh:=by
  rw[←e,bD,cN (by lia)];exact iZ _
 refine⟨?_,?_,[.str "hand",.str (ns.getD k "")],?_⟩
 ·show tg (oh.getD k none)<_;rw[e];exact ho i hm
 ·show(R.getD (tg (oh.getD k none)) (0,0)).1∈S;rw[e];exact hi
 ·show PyData.tuple _=PyData.tuple ([PyData.str "hand",.str (ns.getD k "")]++[wD R (some (tg (oh.getD k none)))]);rw[e];rfl
structure Kn(R:Rm)(ns:aJ)(oh:av)(oS:Nat→av):Prop where
 h:∀i,some i∈oh→i<R.length
 l:oh.length=ns.length
 s:∀k,k<R.length→∀i,some i∈oS k→i<R.length
theorem Kn.sc{R:Rm}{S:List Nat}{ns:aJ}{oh:av}{oS:Nat→av}(kn:Kn R ns oh oS){i:Nat}(hi:i<R.length):∀y∈gZ R S oS i,Lk R S y:=M_ (kn.s i hi)
theorem Kn.UR{ts:av}{R:Rm}{S:List Nat}{ns:aJ}{oh:av}{oS:Nat→av}(kn:Kn R ns oh oS):∀y∈om ts R S ns oh oS,Lk R S y:=by
 intro y hy;rcases cj.mp hy with hy|hy
 ·exact Nh kn.h kn.l y hy
 ·obtain⟨i,hi,hy⟩:=j8.mp hy;obtain⟨n,_,z_⟩:=j8.mp hi;exact kn.sc (eO z_) y hy
structure oZ(R:Rm)(S:List Nat)(x:Rw):Prop where
 lt:x.1<R.length
 fr:(R.getD x.1 (0,0)).1∈S
 la:∃r0 pre,x.2=r0++[.tuple (pre++[wD R (some x.1)])]
theorem Kn.rows{ts:av}{R:Rm}{S:List Nat}{ns:aJ}{oh:av}{oS:Nat→av}(kn:Kn R ns oh oS):∀x∈wn ts R S ns oh oS,oZ R S x:=by
 intro x hx;obtain⟨y,hy,rfl⟩:=bM.mp hx;have k:=kn.UR y hy;obtain⟨pre,e⟩:=k.la;exact⟨k.lt,k.fr,[],pre,by rw[e];rfl⟩
theorem Kn.ex{R:Rm}{S:List Nat}{ns:aJ}{oh:av}{oS:Nat→av}(kn:Kn R ns oh oS){x:Rw}(h:oZ R S x):∀y∈qu (gZ R S oS) x,oZ R S y:=by
 intro y hy;obtain⟨z,hz,rfl⟩:=bM.mp hy;have k:=kn.sc h.lt z hz;obtain⟨pre,e⟩:=k.la;exact⟨k.lt,k.fr,x.2,pre,by rw[e]⟩
theorem iT(xs:List Rw):((aM [] xs).map (·.1)).Nodup:=lM ik
theorem Kn.run{ts:av}{R:Rm}{S:List Nat}{ns:aJ}{oh:av}{oS:Nat→av}(kn:Kn R ns oh oS)(k:Nat):∀x∈c8 (gZ R S oS) (aM [] (wn ts R S ns oh oS)) k,oZ R S x:=
 yC (gj (fun y hy=>nomatch hy) kn.rows) (fun _ h=>kn.ex h) k
theorem Kn.len{ts:av}{R:Rm}{S:List Nat}{ns:aJ}{oh:av}{oS:Nat→av}(kn:Kn R ns oh oS)(k:Nat):(c8 (gZ R S oS) (aM [] (wn ts R S ns oh oS)) k).length≤R.length:=by
 have:=o6 R.length (sW (sc:=gZ R S oS) (iT (wn ts R S ns oh oS)) k) fun i hi=>by
  obtain⟨x,hx,rfl⟩:=bM.mp hi;exact(kn.run k x hx).lt
 rw[aN] at this;exact this
theorem Kn.Zl{ts:av}{R:Rm}{S:List Nat}{ns:aJ}{oh:av}{oS:Nat→av}(k:Nat):p_ (c8 (gZ R S oS) (aM [] (wn ts R S ns oh oS)) k):=
 tD (p_.adds (fun j x e=>by simp at e) fun x hx=>by
  obtain⟨y,_,rfl⟩:=bM.mp hx;exact Nat.le_add_left _ _) k
noncomputable def fu(R:Rm)(i:Nat):List ww:=qZ (R.getD i (0,0)).1 (br R i)
theorem DM{R:Rm}(hr:∀r∈R,1≤r.2){i j:Nat}(hi:i<R.length)(hj:j<R.length)(e:fu R i=fu R j):i=j:=by
 obtain⟨e1,e2⟩:=uu e;have mi:i∈bg R (R.getD i (0,0)).1:=cA.mpr ⟨dg.mpr hi,xO _⟩;have mj:j∈bg R (R.getD i (0,0)).1:=cA.mpr ⟨dg.mpr hj,by rw[e1];exact xO _⟩;exact pW hr mi mj e2
noncomputable def nB(R:Rm)(acc:List Rw)(ls:aH):dw:=List.zipWith (fun x l=>(fu R x.1,V.ref l)) acc ls
theorem xS{R:Rm}(hr:∀r∈R,1≤r.2):∀{acc:List Rw} {ls:aH},ls.length=acc.length→(∀x∈acc,x.1<R.length)→(acc.map (·.1)).Nodup→∀{j:Nat} {x:Rw},acc[j]? =some x→bR (nB R acc ls) (fu R x.1)=some (.ref (ls.getD j 0))
 |[],_,_,_,_,j,x,e=>by simp at e
 |y::r,[],hl,_,_,_,_,_=>by simp at hl
 |y::r,l::ls,hl,hb,hn,j,x,e=>by
  rw[cy,fq] at hn
  cases j with
  |zero=>
   cases e;exact cZ rfl
  |succ j=>
   have e:r[j]? =some x:=e;have hx:=ba e;have:=xS hr (acc:=r) (ls:=ls) (by simpa using hl) (fun z hz=>hb z (a_ _ hz)) hn.2 e;rw[List.getD_cons_succ,←this];refine cL fun z=>hn.1 ?_;rw[DM hr (hb y bJ) (hb x (a_ _ hx)) z];exact List.mem_map_of_mem hx
theorem nU{R:Rm}(hr:∀r∈R,1≤r.2){i:Nat}(hi:i<R.length):∀{acc:List Rw} {ls:aH},(∀x∈acc,x.1<R.length)→¬i∈acc.map (·.1)→bR (nB R acc ls) (fu R i)=none
 |[],ls,_,_=>by
  show bR (List.zipWith _ [] ls) _=none;rw[List.zipWith_nil_left];rfl
 |y::r,[],_,_=>rfl
 |y::r,l::ls,hb,hn=>by
  rw[cy,bq] at hn;have:=nU hr hi (acc:=r) (ls:=ls) (fun z hz=>hb z (a_ _ hz)) fun z=>hn (.inr z);rw[←this];exact cL fun z=>hn (.inl (DM hr hi (hb y bJ) z.symm))
theorem Ll(R:Rm){acc:List Rw}{ls:aH}(h:ls.length=acc.length)(x:Rw)(l:Addr):nB R (acc++[x]) (ls++[l])=nB R acc ls++[(fu R x.1,.ref l)]:=by
 unfold nB;rw[List.zipWith_append h.symm];rfl
theorem OL(R:Rm){acc:List Rw}{ls:aH}(h:ls.length=acc.length):(nB R acc ls).length=acc.length:=by
 unfold nB;rw[List.length_zipWith,h,Nat.min_self]
structure bX(H:Hp)(R:Rm)(d:Addr)(acc:List Rw)(ls:aH):Prop where
 ob:H d=some (.dT (nB R acc ls))
 ln:ls.length=acc.length
 nd:ls.Nodup
 at_:∀(j:Nat) x,acc[j]? =some x→∃xs,H (ls.getD j 0)=some (.lst xs)∧bp H xs x.2
theorem bX.al{H:Hp}{R:Rm}{d:Addr}{acc:List Rw}{ls:aH}(h:bX H R d acc ls){l:Addr}(hl:l∈ls):∃xs,H l=some (.lst xs):=by
 obtain⟨j,hj⟩:=dz.mp hl;have kU:=(aS.mp hj).1;have hx:acc[j]? =some (acc[j]'(by rw[←h.ln];exact kU)):=by simp
 obtain⟨xs,e,_⟩:=h.at_ j _ hx;rw[bD,hj] at e;exact⟨xs,e⟩
theorem bX.kept{H H' :Hp}{R:Rm}{d:Addr}{acc:List Rw}{ls:aH}(h:bX H R d acc ls)(hd:H' d=some (.dT (nB R acc ls)))(kp:∀c o,c≠d→H c=some o→H' c=some o):bX H' R d acc ls:=
 ⟨hd,h.ln,h.nd,fun j x e=>by
  obtain⟨xs,e1,e2⟩:=h.at_ j x e;exact⟨xs,kp _ _ (aD e1 h.ob (by intro z;cases z)) e1,e2.kt fun c ys ec=>kp c _ (aD ec h.ob (by intro z;cases z)) ec⟩⟩
theorem bX.same{H H' :Hp}{R:Rm}{d:Addr}{acc:List Rw}{ls:aH}(h:bX H R d acc ls)(s:ax H H'):bX H' R d acc ls:=h.kept (s _ _ h.ob) fun c o _ e=>s c o e
theorem bX.add{H H' :Hp}{R:Rm}{d:Addr}{acc:List Rw}{ls:aH}(h:bX H R d acc ls){x:Rw}{lp:Addr}{xs:aA}(hd:H' d=some (.dT (nB R acc ls++[(fu R x.1,.ref lp)])))(kp:∀c o,c≠d→H c=some o→H' c=some o)(zh:H' lp=some (.lst xs))(td:bp H' xs x.2)(hn:H lp=none∨¬lp∈ls):bX H' R d (acc++[x]) (ls++[lp]):=by
 refine⟨by rw[Ll R h.ln];exact hd,by rw[bj,bj,h.ln];rfl,?_,fun j y e=> ?_⟩
 ·rw[me];refine⟨h.nd,by simp,fun a ha b hb z=> ?_⟩;rw[cw.mp hb] at z;subst z;rcases hn with hn|hn
  ·obtain⟨ys,e⟩:=h.al ha;rw[hn] at e;cases e
  ·exact hn ha
 ·by_cases hj:j<acc.length
  ·rw[bV hj] at e;obtain⟨ys,e1,e2⟩:=h.at_ j y e;rw[bD,bV (by rw[h.ln];exact hj),←bD];exact⟨ys,kp _ _ (aD e1 h.ob (by intro z;cases z)) e1,e2.kt fun c zs ec=>kp c _ (aD ec h.ob (by intro z;cases z)) ec⟩
  ·rw[cF (by lia)] at e
   have h0:j - acc.length=0:=by
    have:=(aS.mp e).1;simp at this
    lia
   rw[h0] at e;cases e;rw[bD,cF (by rw[h.ln];lia),h.ln,h0];exact⟨xs,zh,td⟩
theorem bX.len{H:Hp}{R:Rm}{d:Addr}{acc:List Rw}{ls:aH}(h:bX H R d acc ls):(nB R acc ls).length=acc.length:=OL R h.ln
theorem c7{α:Type}(xs:List α)(y:α):IL (xs++[y]) (-1)=some y:=by
 unfold IL Jf;rw[au (by decide),bj]
 have h: -(((xs.length+[y].length:Nat)):Int)≤ -1:=by
  show -((xs.length+1:Nat):Int)≤ -1
  lia
 rw[aC h]
 have e:((-1:Int)+((xs.length+[y].length:Nat):Int)).toNat=xs.length:=by
  show((-1:Int)+((xs.length+1:Nat):Int)).toNat=xs.length
  lia
 show((xs++[y])[((-1:Int)+((xs.length+[y].length:Nat):Int)).toNat]?)=some y;rw[e,cF (az _),pP];rfl
theorem bp.len{H:Hp}:∀{xs:aA} {ds:List PyData},bp H xs ds→xs.length=ds.length
 |_,_,.nil=>rfl
 |_,_,.cons _ t=>by rw[cf,cf,bp.len t]
theorem bp.get{H:Hp}:∀{xs:aA} {ds:List PyData},bp H xs ds→∀{j:Nat} {x:V} {d:PyData},xs[j]? =some x→ds[j]? =some d→dZ H x d
 |_,_,.nil,j,_,_,e,_=>by simp at e
 |_,_,.cons h t,0,_,_,e,e' =>by cases e;cases e';exact h
 |_,_,.cons h t,j+1,_,_,e,e' =>bp.get t (j:=j) e e'
theorem bp.last{H:Hp}:∀{xs:aA} {ds:List PyData} {d:PyData},bp H xs (ds++[d])→∃ys y,xs=ys++[y]∧bp H ys ds∧dZ H y d
 |_,[],_,.cons h .nil=>⟨[],_,rfl,.nil,h⟩
 |_,_::_,_,.cons h t=>by
  obtain⟨ys,y,rfl,h1,h2⟩:=bp.last t;exact⟨_::ys,y,rfl,.cons h h1,h2⟩
theorem pA{H:Hp}{R:Rm}{i:Nat}{v:V}{pre:List PyData}(h:dZ H v (.tuple (pre++[wD R (some i)]))):∃a xs wa,v= .ref a∧H a=some (.tup (xs++[.ref wa]))∧H wa=some (.tup ((fu R i).map kV)):=by
 cases h with
 |tup e t=>
  obtain⟨ys,y,rfl,_,h2⟩:=t.last;have h2:dZ H y (.tuple [.int (R.getD i (0,0)).1,.int (br R i)]):=h2
  cases h2 with
  |tup e2 t2=>
   cases t2 with
   |cons a1 t3=>
    cases t3 with
    |cons a2 t4=>
     cases t4;cases a1;cases a2;exact⟨_,ys,_,rfl,e,e2⟩
theorem JW{H:Hp}{R:Rm}{d:Addr}{kv:bQ}{ns:aJ}{oh:av}{cs:cO}{oS:Nat→av}(hd:bS H R d kv ns oh)(hC:e_ H R cs oS)(nC:cs.length=R.length):Kn R ns oh oS:=by
 have vl:∀{v:V} {i:Nat},dI H R v (some i)→i<R.length:=fun{v i} h=>by
  rcases h with⟨h,_⟩|⟨j,t,h1,h2,h3,h4⟩
  ·cases h
  ·cases h1;exact h3
 refine⟨fun i hi=> ?_,hd.lo,fun k hk i hi=> ?_⟩
 ·obtain⟨j,hj⟩:=dz.mp hi;have kU:=(aS.mp hj).1
  have TR:j<kv.length:=by
   have:=hd.ln;have:=hd.lo
   lia
  have Ag:kv[j]? =some kv[j]:=by simp[TR]
  have:=(hd.at_ j kv[j].1 kv[j].2 Ag).2.2;rw[bD,hj] at this;exact vl this
 ·have hkc:k<cs.length:=by rw[nC];exact hk
  have hc:cs[k]? =some cs[k]:=by simp[hkc]
  obtain⟨_,h2,h3⟩:=hC k _ hc;obtain⟨j,hj⟩:=dz.mp hi;have kU:=(aS.mp hj).1;have hv:cs[k][j]? =some (cs[k][j]'(by lia)):=by simp
  have:=h3 j _ hv;rw[bD,hj] at this;exact vl this
theorem xy{acc:List Rw}{x:Rw}(h:x.1∈acc.map (·.1)):nS acc x=acc:=aC h
theorem uw{acc:List Rw}{x:Rw}(h:¬x.1∈acc.map (·.1)):nS acc x=acc++[x]:=au h
theorem jaa{xs:List Rw}{j:Nat}{x:Rw}(e:xs[j]? =some x)(acc:List Rw):aM acc (xs.take (j+1))=nS (aM acc (xs.take j)) x:=by
 rw[xK,e];exact Ey acc _ x
theorem Kn.pre{ts:av}{R:Rm}{S:List Nat}{ns:aJ}{oh:av}{oS:Nat→av}(kn:Kn R ns oh oS)(j:Nat):∀x∈aM [] ((wn ts R S ns oh oS).take j),oZ R S x:=
 gj (fun y hy=>nomatch hy) fun y hy=>kn.rows y (mw hy)
theorem E9{R:Rm}(hr:∀r∈R,1≤r.2){acc:List Rw}{ls:aH}(hl:ls.length=acc.length)(hb:∀x∈acc,x.1<R.length)(hn:(acc.map (·.1)).Nodup){i:Nat}(h:bR (nB R acc ls) (fu R i)=none):¬i∈acc.map (·.1):=fun z=>by
 obtain⟨x,hx,rfl⟩:=bM.mp z;obtain⟨j,hj⟩:=dz.mp hx;rw[xS hr hl hb hn hj] at h;cases h
theorem uW{ps ts:av}{t n:Nat}(h:n∈bt ps ts t):ts[n]? =some none:=eq_of_beq (cm.mp (GO.mp h).1)
theorem bX.but{H H' :Hp}{R:Rm}{d f:Addr}{acc:List Rw}{ls:aH}(h:bX H R d acc ls){zs:aA}(hf:¬f∈ls)(hH:H f=some (.lst zs))(kp:∀c o,c≠f→H c=some o→H' c=some o):bX H' R d acc ls:=
 ⟨kp _ _ (aD h.ob hH (by intro z;cases z)) h.ob,h.ln,h.nd,fun j x e=>by
  obtain⟨xs,e1,e2⟩:=h.at_ j x e;have kU:=(aS.mp e).1;refine⟨xs,kp _ _ (fun z=>hf ?_) e1,e2.kt fun c ys ec=>kp c _ (aD ec hH (by intro z;cases z)) ec⟩;rw[←z,bD,cN (by rw[h.ln];exact kU)];exact iZ _⟩
structure fT(H:Hp)(R:Rm)(fl:Addr)(acc:List Rw)(bs:aH):Prop where
 ob:H fl=some (.lst (bs.map V.ref))
 ln:bs.length=acc.length
 at_:∀(j:Nat) x,acc[j]? =some x→H (bs.getD j 0)=some (.tup ((fu R x.1).map kV))
theorem fT.kept{H H' :Hp}{R:Rm}{fl:Addr}{acc:List Rw}{bs:aH}(h:fT H R fl acc bs)(ho:H' fl=some (.lst (bs.map V.ref)))(kt:∀c xs,H c=some (.tup xs)→H' c=some (.tup xs)):fT H' R fl acc bs:=⟨ho,h.ln,fun j x e=>kt _ _ (h.at_ j x e)⟩
theorem fT.add{H H' :Hp}{R:Rm}{fl b:Addr}{acc:List Rw}{bs:aH}{x:Rw}(h:fT H R fl acc bs)(ho:H' fl=some (.lst (bs.map V.ref++[.ref b])))(kt:∀c xs,H c=some (.tup xs)→H' c=some (.tup xs))(hb:H b=some (.tup ((fu R x.1).map kV))):fT H' R fl (acc++[x]) (bs++[b]):=by
 refine⟨by rw[cg];exact ho,by rw[bj,bj,h.ln];rfl,fun j y e=> ?_⟩;by_cases hj:j<acc.length
 ·rw[bV hj] at e;rw[bD,bV (by rw[h.ln];exact hj),←bD];exact kt _ _ (h.at_ j y e)
 ·rw[cF (by lia)] at e
  have h0:j - acc.length=0:=by
   have:=(aS.mp e).1;simp at this
   lia
  rw[h0] at e;cases e;rw[bD,cF (by rw[h.ln];lia),h.ln,h0];exact kt _ _ hb
theorem fT.get{H:Hp}{R:Rm}{fl:Addr}{acc:List Rw}{bs:aH}(h:fT H R fl acc bs){k:Nat}(hk:k<acc.length):(bs.map V.ref)[k]? =some (.ref (bs.getD k 0)):=by
 rw[aW,bD,cN (by rw[h.ln];exact hk)];rfl
section
variable{P:Program}{w:World}{K:Frag}{mg:Str→aQ}{base:Heap}{A:qa}
noncomputable def VI(C:Addr):Sp:=fun vs H Q _=>∃a ps ts L pk R N rs cs d kv ns oh oS,∃t:Nat,vs=[.ref a.f,.int t,.ref d]∧aV C H a ps ts L pk R N rs cs∧(∀r∈R,1≤r.2)∧cs.length=R.length∧(¬d∈a.own)∧bS H R d kv ns oh∧ns.length≤1000∧WF ps ts∧di ts (t:Int)=true∧t≠0∧R.length≤1000∧e_ H R cs oS∧
 ∀rd ls acc H',H rd=none→ax H H'→bX H' R rd acc ls→(∀l∈ls,H l=none)→D0 (gZ R (bt ps ts t) oS) (aM [] (wn ts R (bt ps ts t) ns oh oS)) acc→Q (.ref rd) H'
theorem Nw(T:Txt K mg A):bC P w K mg base eC 10 A.JQ A.KI ["house","frame","hands"] (VI A.ak):=by
 refine T.JD.F.fV iV ?_
 rintro c_ Ar outer s H vs Q E hr ⟨a,ps,ts,L,pk,R,N,rs,cs,d,kv,ns,oh,oS,t,rfl,F,kz,nC,nd,hd,hn,W,fC,h0,hR,hC,q⟩
 have hu:=dy hr;refine⟨_,(ah (fG 3 iV.nd yl) (ah (A2 (cK (dO (Fm T) hr T.Bo aE (ai (pv 0) (ai (pv 1) (aX (pv 2)))))) (iO 4 iV.nd) (ao (bB (KG hu (pv 3) (de bH (pv 4) (gC eD aj)) (bY (aX (pv 4))) ⟨rfl,rfl,rfl,rfl⟩)))) (ah (fG 5 iV.nd (nu (pv 0) T.aG T.ig (jq T) hr aE (aX (pv 1)))) (ah (fG 6 iV.nd (Dv (wU rfl) T.nP Boot.«list» (aX (pv 3)))) (ah (fG 7 iV.nd aj) (ah (sI ue (xL zD (pv 7) (lN bA T.gx Boot.«len» (aX (pv 6)))) (ah (fG 8 iV.nd (gY hu (pv 3) (de a7 (pv 6) (pv 7)))) (ah (A2 (cK (dO (vD T) hr T.qG aE (ai (pv 0) (ai (de a7 (pv 6) (pv 7)) (aX (pv 5)))))) (iO 4 iV.nd) (ao (bW (Lc (Bj hu (de bH (pv 4) (gC eD aj)) (pv 3))) (ah (lW hu (pv 3) (de bH (pv 4) (gC eD aj)) (bG Kg (pv 8) (bY (aX (pv 4)))) rfl) (ao (bB (gu fc PySem.F.slot_list_append PySem.F.type_list_append cJ (pv 6) (aX (de bH (pv 4) (gC eD aj))))))) bc))) (ao (Uo (i:=7) iV.nd rfl (Or.inl rfl) aj Ud))))) (ao (aK (pv 3))))))))),?_⟩;have kn:=JW hd hC nC;have XO:(1:Nat)≤sizeLine:=by decide
 have aa0:=W.le;have aix:=W.len;generalize hS:bt ps ts t=S at q;have Fe:∀n∈S,ts[n]? =some none:=fun n hn=>uW (hS▸hn);intro rd Qf;have s1:=ax.upd (o:= .dT []) Qf;have e1:upd H rd (.dT []) rd=some (.dT []):=ae;generalize upd H rd (.dT [])=H1 at s1 e1;refine⟨_,rfl,_,rfl,_,rfl,a,ps,ts,L,pk,R,N,rs,cs,d,kv,ns,oh,oS,t,rfl,F.same s1,kz,nC,nd,hd.same s1,hn,W,fC,h0,hR,hC.kt (a9 s1),fun l ys H2 hl s2 VW td2 jG=>⟨l,rfl,⟨_,bw.of VW⟩,?_⟩⟩;rw[hS] at td2;have Kq:ax H H2:=s1.trans s2;have e2:=s2 _ _ e1;have hyw:ys.length=(om ts R S ns oh oS).length:=by rw[td2.len,tS,aN]
 have ktd:∀{H' :Hp},Kept rd H2 H'→∀c xs,H2 c=some (.tup xs)→H' c=some (.tup xs):=fun K' c xs e=>K' c _ (aD e e2 (by intro z;cases z)) e;refine dG (K:=K) (a:=l) (xs:=ys) (fun j σ H' =>∃(x4:Option V) (ls:aH),σ=[some (.ref a.f),some (.int t),some (.ref d),some (.ref rd),x4,none,none,none,none]∧Kept rd H2 H'∧bX H' R rd (aM [] ((wn ts R S ns oh oS).take j)) ls∧∀l∈ls,H l=none) ⟨_,[],rfl,Kept.refl rd H2,⟨e2,rfl,ik,fun j x e=>by simp[aM] at e⟩,fun l hl=>nomatch hl⟩ ?_ ?_ ?_
 ·rintro j σ H' _ ⟨x4,ls,rfl,K',_⟩
  exact bw.of (K' _ _ (aD VW e2 (by intro z;cases z)) VW)
 ·rintro j y σ H' hx ⟨x4,ls,rfl,K',RA,U_⟩
  have hjw:j<(om ts R S ns oh oS).length:=by
   rw[←hyw];exact(aS.mp hx).1
  have NF:(om ts R S ns oh oS)[j]? =some (om ts R S ns oh oS)[j]:=by simp[hjw]
  generalize (om ts R S ns oh oS)[j]=z at NF;obtain⟨i,dd⟩:=z
  have Fz:(wn ts R S ns oh oS)[j]? =some (i,[dd]):=by
   unfold wn;rw[aW,NF];rfl
  have lk:=kn.UR _ (ba NF);have hi:i<R.length:=lk.lt;obtain⟨pr,ed⟩:=lk.la;have td:dZ H' y dd:=(td2.get hx (by rw[tS,aW,NF];rfl)).kt (ktd K');have ed:dd= .tuple (pr++[wD R (some i)]):=ed;obtain⟨aa,xs,wa,rfl,ea,ew⟩:=pA (ed▸td);have hb:=fun x hx=>(kn.pre (ts:=ts) (S:=S) j x hx).lt;have FH:=iT ((wn ts R S ns oh oS).take j)
  have hlen:(nB R (aM [] ((wn ts R S ns oh oS).take j)) ls).length≤R.length:=by
   rw[RA.len]
   have:=o6 R.length FH fun x hx=>by
    obtain⟨z,hz,rfl⟩:=bM.mp hx;exact hb z hz
   rw[aN] at this;exact this
  refine⟨_,rfl,rd,rfl,.inr ⟨_,.inl RA.ob⟩,_,rfl,1,rfl,aa,_,_,_,rfl,rfl,gg.of ea,c7 xs _,_,rfl,XO,fun lp zh=> ?_⟩;have s3:=ax.upd (o:= .lst [V.ref aa]) zh;have e3:upd H' lp (.lst [V.ref aa]) lp=some (.lst [V.ref aa]):=ae;generalize upd H' lp (.lst [V.ref aa])=H3 at s3 e3;refine⟨_,fu R i,wa,s3 _ _ RA.ob,rfl,s3 _ _ ew,dR hlen (bz (by lia)),fun v hv=> ?_,fun hv=> ?_⟩
  ·refine⟨_,ls,rfl,K'.trans s3.kept,?_,U_⟩;rw[jaa Fz,xy (xH fun z=>by rw[nU kz hi hb z] at hv;cases hv)];exact RA.same s3
  ·have nlr:lp≠rd:=fun z=>by rw[z,RA.ob] at zh;cases zh
   refine⟨_,ls++[lp],rfl,fun c o hc e=> ?_,?_,fun l' zp => ?_⟩
   ·rw[af hc];exact s3 _ _ (K' c o hc e)
   ·rw[jaa Fz,uw (E9 kz RA.ln hb FH hv)];refine RA.add (xs:=[.ref aa]) (by rw[ae,ji _ hv]) (fun c o hc e=>by rw[af hc];exact s3 _ _ e) (by rw[af nlr];exact e3) (.cons (td.kt fun c zs e=> ?_) .nil) (.inl zh);rw[af (aD e RA.ob (by intro z;cases z))];exact s3 _ _ e
   ·rcases cj.mp zp with zp |zp
    ·exact U_ l' zp
    ·rw[cw.mp zp]
     cases e:H lp with
     |none=>rfl
     |some o=>
      rw[K' lp o nlr (Kq _ _ e)] at zh;cases zh
 ·rintro σ H3 ⟨x4,ls,rfl,K3,RA,U_⟩
  rw[xR (by unfold wn;rw[aN,hyw];exact az _)] at RA;have nrd:∀{c:Addr} {o:HO},H c=some o→c≠rd:=fun e=>aq e Qf;have GD:ax H H3:=fun c o e=>K3 c o (nrd e) (Kq _ _ e);have F3:=F.same GD;obtain⟨dx,ho⟩:=F3.ob;refine⟨_,rfl,a.f,dx,_,rfl,ho,a8 (by decide+kernel),_,rfl,a.f,a.pa,a.ta,ps,ts,t,rfl,F3.fr,W,fun pl H4 ma s4 GN=> ?_⟩;rw[hS] at GN;have Q8:=RA.same s4;refine⟨_,rfl,rd,_,rfl,Q8.ob,fun fl bs xQ Bm hbs=> ?_⟩;have s5:=ax.upd (o:= .lst (bs.map V.ref)) xQ;have e5:upd H4 fl (.lst (bs.map V.ref)) fl=some (.lst (bs.map V.ref)):=ae
  have FA:fT (upd H4 fl (.lst (bs.map V.ref))) R fl (aM [] (wn ts R S ns oh oS)) bs:=⟨e5,by rw[Bm,Q8.len],fun j x e=>by
   have kU:=(aS.mp e).1;have hjb:j<bs.length:=by rw[Bm,Q8.len];exact kU
   have af3:j<ls.length:=by rw[Q8.ln];exact kU
   rw[bD,cN hjb];refine s5 _ _ (hbs j _ (fu R x.1) (.ref ls[j]) (cN hjb) ?_);unfold nB;rw[B0,e,cN af3]⟩
  have MC:=Q8.same s5;generalize upd H4 fl (.lst (bs.map V.ref))=H5 at s5 e5 FA MC;have s05:ax H H5:=(GD.trans s4).trans s5;have hp5:=s5 _ _ GN;have afY:H fl=none:=(GD.trans s4).free xQ;have alR:pl≠rd:=aD hp5 MC.ob (by intro z;cases z);have af1:pl≠fl:=fun z=>by rw[z,xQ] at GN;cases GN
  have nfr:fl≠rd:=aD e5 MC.ob (by intro z;cases z);refine⟨fun mm σ H' =>∃(k:Nat) (x4 x8:Option V) (ls bs:aH),mm+k=R.length∧k≤(c8 (gZ R S oS) (aM [] (wn ts R S ns oh oS)) k).length∧σ=[some (.ref a.f),some (.int t),some (.ref d),some (.ref rd),x4,some (.ref pl),some (.ref fl),some (.int k),x8]∧ax H H'∧H' pl=some (.lst (S.map nV))∧bX H' R rd (c8 (gZ R S oS) (aM [] (wn ts R S ns oh oS)) k) ls∧fT H' R fl (c8 (gZ R S oS) (aM [] (wn ts R S ns oh oS)) k) bs∧(∀l∈ls,H l=none)∧¬fl∈ls,⟨R.length,0,_,_,ls,bs,Nat.add_zero _,cB _,rfl,s05,hp5,MC,FA,U_,fun z=>by obtain⟨_,e⟩:=Q8.al z;rw[xQ] at e;cases e⟩,?_⟩
  rintro mm σ H6 ⟨k,x4,x8,ls,bs,hmm,Fb,rfl,s6,hp6,Vi,Mw,U_,Wj⟩
  refine⟨_,rfl,_,rfl,fl,_,rfl,.inl (bw.of Mw.ob),k,_,rfl,rfl,_,rfl,?_⟩;rw[aN,Mw.ln];refine ny (fun dS=> ?_) (fun hge=> ?_)
  ·have dS:(k:Int)<((c8 (gZ R S oS) (aM [] (wn ts R S ns oh oS)) k).length:Nat):=gQ dS;have hk:k<(c8 (gZ R S oS) (aM [] (wn ts R S ns oh oS)) k).length:=by lia
   have hkR:=kn.len (ts:=ts) (S:=S) k;have I_:(c8 (gZ R S oS) (aM [] (wn ts R S ns oh oS)) k)[k]? =some (c8 (gZ R S oS) (aM [] (wn ts R S ns oh oS)) k)[k]:=by simp[hk]
   have IM:c8 (gZ R S oS) (aM [] (wn ts R S ns oh oS)) (k+1)=aM (c8 (gZ R S oS) (aM [] (wn ts R S ns oh oS)) k) (qu (gZ R S oS) (c8 (gZ R S oS) (aM [] (wn ts R S ns oh oS)) k)[k]):=by
    show EC _ _ _=_;unfold EC;rw[I_]
   have fY:=kn.run (ts:=ts) (S:=S) k;have Vy:=sW (sc:=gZ R S oS) (iT (wn ts R S ns oh oS)) k;have aiY:=kn.len (ts:=ts) (S:=S) (k+1);generalize (c8 (gZ R S oS) (aM [] (wn ts R S ns oh oS)) k)[k]=x at I_ IM;generalize hA:c8 (gZ R S oS) (aM [] (wn ts R S ns oh oS)) k=acc at Fb hkR hk dS I_ IM fY Vy Vi Mw;have Bm:∀y∈acc,y.1<R.length:=fun y hy=>(fY y hy).lt;have Ho:=fY x (ba I_);have hi:x.1<R.length:=Ho.lt;have efl:=Mw.get hk;have Y5:=Mw.at_ k x I_;have eval:=xS kz Vi.ln Bm Vy I_;obtain⟨P_,afQ,ab7⟩:=Vi.at_ k x I_;refine⟨fun c9 H' =>∃(x4 x8:Option V) (ls bs:aH),c9 =[some (.ref a.f),some (.int t),some (.ref d),some (.ref rd),x4,some (.ref pl),some (.ref fl),some (.int (k+1:Nat)),x8]∧ax H H'∧H' pl=some (.lst (S.map nV))∧bX H' R rd (aM acc (qu (gZ R S oS) x)) ls∧fT H' R fl (aM acc (qu (gZ R S oS) x)) bs∧(∀l∈ls,H l=none)∧¬fl∈ls,fun c9 H' => ?_,?_⟩
   ·rintro ⟨x4,x8,ls,bs,rfl,h1,h2,h3,h4,h5,h6⟩
    rw[IM] at aiY;refine⟨mm - 1,by lia,k+1,x4,x8,ls,bs,by lia,?_,rfl,h1,h2,by rw[IM];exact h3,by rw[IM];exact h4,h5,h6⟩;rw[IM];obtain⟨tt,et⟩:=lg (qu (gZ R S oS) x) acc;rw[et,bj]
    lia
   refine⟨_,rfl,_,rfl,_,rfl,fl,_,k,_,rfl,rfl,bw.of Mw.ob,b9 efl,rd,.ref (ls.getD k 0),rfl,eval▸dq.t Vi.ob Y5,?_⟩;have hcs:cs[x.1]? =some (cs[x.1]'(by rw[nC];exact hi)):=by simp
   obtain⟨c1,c2,c3⟩:=(hC.kt (a9 s6)) x.1 _ hcs;refine⟨_,rfl,_,rfl,_,rfl,fl,_,k,_,rfl,rfl,bw.of Mw.ob,b9 efl,_,rfl,a,ps,ts,L,pk,R,N,rs,cs,x.1,bs.getD k 0,_,pl,S,oS x.1,rfl,F.same s6,kz,aix,⟨hi,Fe _ Ho.fr,Y5⟩,hcs,c1,c2,c3,hp6,fun ll zs H7 Ac s7 hz7 tz7 Tw=>⟨ll,rfl,⟨_,bw.of hz7⟩,?_⟩⟩;have hzw:zs.length=(gZ R S oS x.1).length:=by rw[tz7.len,yz,aN];rfl
   have Hf:=Vi.same s7;have FA7:=Mw.kept (s7 _ _ Mw.ob) (a9 s7);have P5:=s7 _ _ afQ;have hp7:=s7 _ _ hp6;have nrl:ls.getD k 0≠rd:=aD P5 Hf.ob (by intro z;cases z);have apA:fl≠rd:=aD FA7.ob Hf.ob (by intro z;cases z)
   have afS:ls.getD k 0∈ls:=by
    rw[bD,cN (by rw[Vi.ln];exact hk)];exact iZ _
   have Np:ax H H7:=s6.trans s7;have adj :∀{H' :Hp},(∀c o,c≠rd→c≠fl→H7 c=some o→H' c=some o)→∀c xs,H7 c=some (.tup xs)→H' c=some (.tup xs):=fun K' c xs e=>K' c _ (aD e Hf.ob (by intro z;cases z)) (aD e FA7.ob (by intro z;cases z)) e;have aiV:ll≠rd:=aD hz7 Hf.ob (by intro z;cases z);have agR:ll≠fl:=fun z=>by rw[z,Mw.ob] at Ac;cases Ac
   have ahK:ls.getD k 0≠fl:=fun z=>Wj (z▸afS);have exl:(qu (gZ R S oS) x).length=zs.length:=by rw[hzw];exact aN ..
   refine dG (K:=K) (a:=ll) (xs:=zs) (fun j σ H' =>∃(x4:Option V) (D9 KD :aH),σ=[some (.ref a.f),some (.int t),some (.ref d),some (.ref rd),x4,some (.ref pl),some (.ref fl),some (.int k),some (.ref (ls.getD k 0))]∧(∀c o,c≠rd→c≠fl→H7 c=some o→H' c=some o)∧bX H' R rd (aM acc ((qu (gZ R S oS) x).take j)) D9∧fT H' R fl (aM acc ((qu (gZ R S oS) x).take j)) KD∧(∀l∈D9,H l=none)∧¬fl∈D9) ⟨_,ls,bs,rfl,fun c o _ _ e=>e,Hf,FA7,U_,Wj⟩ ?_ ?_ ?_
   ·rintro j σ H' _ ⟨x4,D9,KD,rfl,K',_⟩
    exact bw.of (K' _ _ aiV agR hz7)
   ·rintro j y σ H8 hx ⟨x4,D9,KD,rfl,K8,v9,Ms,Ph,KR⟩
    have hjw:j<(gZ R S oS x.1).length:=by
     rw[←hzw];exact(aS.mp hx).1
    have NF:(gZ R S oS x.1)[j]? =some (gZ R S oS x.1)[j]:=by simp[hjw]
    generalize (gZ R S oS x.1)[j]=z at NF;obtain⟨i',dd⟩:=z
    have Fz:(qu (gZ R S oS) x)[j]? =some (i',x.2++[dd]):=by
     unfold qu;rw[aW,NF];rfl
    have lk:=kn.sc hi _ (ba NF);have C6 :i' <R.length:=lk.lt;obtain⟨pr,ed⟩:=lk.la;have td:dZ H8 y dd:=(tz7.get hx (by rw[yz,aW,show(A8 R S (wD R (some x.1)) (oS x.1))[j]? =some (i',dd) from NF];rfl)).kt (adj K8);have ed:dd= .tuple (pr++[wD R (some i')]):=ed;obtain⟨aa,xs,wa,rfl,ea,ew⟩:=pA (ed▸td);have P4:∀y∈aM acc ((qu (gZ R S oS) x).take j),y.1<R.length:=gj Bm fun y hy=>(kn.ex Ho y (mw hy)).lt;have Lm:=lM (xs:=(qu (gZ R S oS) x).take j) Vy
    have aab:(aM acc ((qu (gZ R S oS) x).take j)).length≤R.length:=by
     have:=o6 R.length Lm fun y hy=>by
      obtain⟨z,hz,rfl⟩:=bM.mp hy;exact P4 z hz
     rw[aN] at this;exact this
    have Ef:R.length<sizeLine:=bz (by lia);rw[jaa Fz];refine⟨_,rfl,1,rfl,aa,_,_,_,rfl,rfl,gg.of ea,c7 xs _,_,rfl,rd,_,rfl,dq.t v9.ob ew,_,rfl,?_⟩
    cases hv:bR (nB R (aM acc ((qu (gZ R S oS) x).take j)) D9) (fu R i') with
    |some v=>
     refine cQ ⟨_,D9,KD,rfl,K8,?_,?_,Ph,KR⟩
     ·rw[xy (xH fun z=>by rw[nU kz C6 P4 z] at hv;cases hv)];exact v9
     ·rw[xy (xH fun z=>by rw[nU kz C6 P4 z] at hv;cases hv)];exact Ms
    |none=>
     have acj:=K8 _ _ nrl ahK P5;refine eN ⟨_,rfl,_,rfl,XO,fun l1 Ab=> ?_⟩;have s9:=ax.upd (o:= .lst [V.ref aa]) Ab;have e9:upd H8 l1 (.lst [V.ref aa]) l1=some (.lst [V.ref aa]):=ae;generalize upd H8 l1 (.lst [V.ref aa])=H9 at s9 e9
     have rxl:P_.length≤1000:=by
      have:=(ab7).len;have:=Kn.Zl (ts:=ts) (R:=R) (S:=S) (ns:=ns) (oh:=oh) (oS:=oS) k k x (by rw[hA];exact I_)
      lia
     refine⟨ls.getD k 0,l1,P_,[.ref aa],rfl,rfl,s9 _ _ acj,e9,?_,fun lp zh=> ?_⟩
     ·show P_.length+1≤sizeLine;exact ck (bz (by lia))
     have C4:=ax.upd (o:= .lst (P_++[V.ref aa])) zh;have e10:upd H9 lp (.lst (P_++[V.ref aa])) lp=some (.lst (P_++[V.ref aa])):=ae;generalize upd H9 lp (.lst (P_++[V.ref aa]))=qP at C4 e10;have OM:ax H8 qP:=s9.trans C4;have EL:H8 lp=none:=s9.free zh;have nlr:lp≠rd:=fun z=>by rw[z,v9.ob] at EL;cases EL
     have Mg:lp≠fl:=fun z=>by rw[z,Ms.ob] at EL;cases EL
     refine⟨_,rfl,_,rfl,1,rfl,aa,_,_,_,rfl,rfl,gg.of (OM _ _ ea),c7 xs _,rd,_,rfl,u6.t (OM _ _ v9.ob) (OM _ _ ew) (by rw[v9.len];lia),?_⟩;have ahq:fl≠rd:=aD Ms.ob v9.ob (by intro z;cases z);have e11:upd qP rd (.dT (wv (nB R (aM acc ((qu (gZ R S oS) x).take j)) D9) (fu R i') (.ref lp))) rd=some (.dT (nB R (aM acc ((qu (gZ R S oS) x).take j)) D9 ++[(fu R i',.ref lp)])):=by rw[ae,ji _ hv]
     have k11:∀c o,c≠rd→qP c=some o→upd qP rd (.dT (wv (nB R (aM acc ((qu (gZ R S oS) x).take j)) D9) (fu R i') (.ref lp))) c=some o:=fun c o hc e=>by
      rw[af hc];exact e
     generalize upd qP rd (.dT (wv (nB R (aM acc ((qu (gZ R S oS) x).take j)) D9) (fu R i') (.ref lp)))=qO at e11 k11;have OG:∀c o,c≠rd→H8 c=some o→qO c=some o:=fun c o hc e=>k11 c o hc (OM _ _ e);have kF:∀c xs,H8 c=some (.tup xs)→qO c=some (.tup xs):=fun c xs e=>OG c _ (aD e v9.ob (by intro z;cases z)) e;have TK:=OG _ _ ahq Ms.ob;refine⟨_,rfl,.inl ⟨rfl,_,bw.of TK⟩,_,rfl,1,rfl,aa,_,_,_,rfl,rfl,gg.of (kF _ _ ea),c7 xs _,fl,_,_,rfl,rfl,TK,by rw[aN,Ms.ln];lia,?_⟩;have Zs:upd qO fl (.lst (KD.map V.ref++[.ref wa])) fl=some (.lst (KD.map V.ref++[.ref wa])):=ae
     have k12:∀c o,c≠fl→qO c=some o→upd qO fl (.lst (KD.map V.ref++[.ref wa])) c=some o:=fun c o hc e=>by
      rw[af hc];exact e
     generalize upd qO fl (.lst (KD.map V.ref++[.ref wa]))=Um at Zs k12;have rQ:∀c xs,H8 c=some (.tup xs)→Um c=some (.tup xs):=fun c xs e=>k12 c _ (aD e Ms.ob (by intro z;cases z)) (kF c xs e);have aaS:=E9 kz v9.ln P4 Lm hv;refine⟨_,D9 ++[lp],KD ++[wa],rfl,fun c o h1 h2 e=>k12 c o h2 (OG c o h1 (K8 c o h1 h2 e)),?_,?_,fun l' zp => ?_,fun z=>(cj.mp z).elim KR fun z=>Mg (cw.mp z).symm⟩
     ·rw[uw aaS];have R11:bX qO R rd (aM acc ((qu (gZ R S oS) x).take j)++[(i',x.2++[dd])]) (D9 ++[lp]):=v9.add (xs:=P_++[.ref aa]) e11 OG (k11 _ _ nlr e10) (((ab7.kt (a9 s7)).kt fun c zs e=>kF c zs (adj K8 c zs e)).append (.cons (td.kt kF) .nil)) (.inl EL);exact R11.but (fun z=>(cj.mp z).elim KR fun z=>Mg (cw.mp z).symm) TK k12
     ·rw[uw aaS];exact Ms.add Zs rQ ew
     ·rcases cj.mp zp with zp |zp
      ·exact Ph l' zp
      ·rw[cw.mp zp]
       cases e:H lp with
       |none=>rfl
       |some o=>
        rw[K8 lp o nlr Mg (Np _ _ e)] at EL;cases EL
   ·rintro σ H8 ⟨x4,D9,KD,rfl,K8,v9,Ms,Ph,KR⟩
    rw[←exl,iK] at v9 Ms;refine⟨_,rfl,k,1,rfl,rfl,_,_,D9,KD,rfl,fun c o e=>K8 c o (nrd e) (aq e afY) (Np _ _ e),K8 _ _ (aD hp7 Hf.ob (by intro z;cases z)) af1 hp7,v9,Ms,Ph,KR⟩
  ·have hge:¬((k:Int)<((c8 (gZ R S oS) (aM [] (wn ts R S ns oh oS)) k).length:Nat)):=fun z=>hge (bu z);exact⟨_,rfl,q rd ls _ H6 Qf s6 Vi U_ ⟨k,rfl,by lia⟩⟩
end
structure du(H:Hp)(l:Addr)(fs:aH)(xs:List Rw):Prop where
 ob:H l=some (.lst (fs.map V.ref))
 ln:fs.length=xs.length
 nd:fs.Nodup
 nl:¬l∈fs
 at_:∀(j:Nat) x,xs[j]? =some x→∃ys,H (fs.getD j 0)=some (.lst ys)∧bp H ys x.2
theorem WP{ls:aH}{j:Nat}(h:j<ls.length):ls.getD j 0∈ls:=by
 rw[bD,cN h];exact iZ _
theorem du.al{H:Hp}{l:Addr}{fs:aH}{xs:List Rw}(h:du H l fs xs){f:Addr}(hf:f∈fs):∃ys,H f=some (.lst ys):=by
 obtain⟨j,hj⟩:=dz.mp hf;have kU:=(aS.mp hj).1;have hx:xs[j]? =some (xs[j]'(by rw[←h.ln];exact kU)):=by simp
 obtain⟨ys,e,_⟩:=h.at_ j _ hx;rw[bD,hj] at e;exact⟨ys,e⟩
theorem du.kept{H H' :Hp}{l:Addr}{fs:aH}{xs:List Rw}(h:du H l fs xs)(ho:H' l=some (.lst (fs.map V.ref)))(kf:∀f∈fs,∀o,H f=some o→H' f=some o)(kt:∀c ys,H c=some (.tup ys)→H' c=some (.tup ys)):du H' l fs xs:=
 ⟨ho,h.ln,h.nd,h.nl,fun j x e=>by
  obtain⟨ys,e1,e2⟩:=h.at_ j x e;have kU:=(aS.mp e).1;exact⟨ys,kf _ (WP (by rw[h.ln];exact kU)) _ e1,e2.kt kt⟩⟩
theorem du.same{H H' :Hp}{l:Addr}{fs:aH}{xs:List Rw}(h:du H l fs xs)(s:ax H H'):du H' l fs xs:=h.kept (s _ _ h.ob) (fun _ _ _ e=>s _ _ e) (a9 s)
theorem du.add{H H' :Hp}{l p:Addr}{fs:aH}{xs:List Rw}{x:Rw}{ys:aA}(h:du H l fs xs)(ho:H' l=some (.lst (fs.map V.ref++[.ref p])))(kp:∀c o,c≠l→H c=some o→H' c=some o)(hp:H' p=some (.lst ys))(td:bp H' ys x.2)(hn:H p=none):du H' l (fs++[p]) (xs++[x]):=by
 have npl:p≠l:=fun z=>by rw[z,h.ob] at hn;cases hn
 have npf:¬p∈fs:=fun z=>by
  obtain⟨zs,e⟩:=h.al z;rw[hn] at e;cases e
 refine⟨by rw[cg];exact ho,by rw[bj,bj,h.ln];rfl,?_,fun z=> ?_,fun j y e=> ?_⟩
 ·rw[me];refine⟨h.nd,by simp,fun a ha b hb z=>npf ?_⟩;rw[←cw.mp hb,←z];exact ha
 ·rcases cj.mp z with z|z
  ·exact h.nl z
  ·exact npl (cw.mp z).symm
 ·by_cases hj:j<xs.length
  ·rw[bV hj] at e;obtain⟨zs,e1,e2⟩:=h.at_ j y e;rw[bD,bV (by rw[h.ln];exact hj),←bD];exact⟨zs,kp _ _ (fun z=>h.nl (z▸WP (by rw[h.ln];exact hj))) e1,e2.kt fun c ws ec=>kp c _ (aD ec h.ob (by intro z;cases z)) ec⟩
  ·rw[cF (by lia)] at e
   have h0:j - xs.length=0:=by
    have:=(aS.mp e).1;simp at this
    lia
   rw[h0] at e;cases e;rw[bD,cF (by rw[h.ln];lia),h.ln,h0];exact⟨ys,hp,td⟩
theorem zT{H:Hp}{R:Rm}{S:List Nat}{x:Rw}{ys:aA}(ok:oZ R S x)(td:bp H ys x.2):∃y0 a xs wa,ys=y0++[.ref a]∧H a=some (.tup (xs++[.ref wa]))∧H wa=some (.tup ((fu R x.1).map kV)):=by
 obtain⟨r0,pr,e⟩:=ok.la;rw[e] at td;obtain⟨y0,y,rfl,_,h2⟩:=td.last;obtain⟨a,xs,wa,rfl,h3,h4⟩:=pA h2;exact⟨y0,a,xs,wa,rfl,h3,h4⟩
theorem aF.atW{H:Hp}{m:MW}{ps ts:av}{L top:Nat}{R:Rm}{ws ms:aH}{cs:cO}{G:List Nat}(W:aF H m ps ts L top R ws ms cs G)(hr:∀r∈R,1≤r.2){i:Nat}(hi:i∈b_ ts R){wa:Addr}(hw:H wa=some (.tup ((fu R i).map kV))):∃vs,cs[i]? =some vs∧dq H m.ca (.ref wa) (some (.ref (ms.getD i 0)))∧H (ms.getD i 0)=some (.lst vs):=by
 obtain⟨vs,e1,e2⟩:=W.mm i hi;have hl:=cE hi;have g:=dq.t (k:=fu R i) W.ca hw
 have hv:bR (ze ts R ms) (fu R i)=some (.ref (ms.getD i 0)):=by
  unfold ze;refine zt (f:=fun i=>qZ (R.getD i (0,0)).1 (br R i)) (g:=fun i=>V.ref (ms.getD i 0)) hi fun j hj e=> ?_;obtain⟨h1,h2⟩:=uu e;exact pW hr (h1▸gD (cE hj)) (gD hl) h2
 rw[hv] at g;exact⟨vs,e1,g,e2⟩
noncomputable def Sq(R:Rm)(S:List Nat)(oS:Nat→av)(x:Rw)(k:Nat):List Rw:=((List.range k).filter fun k=>gp R S ((oS x.1).getD k none)).map fun k:Nat=>(tg ((oS x.1).getD k none),x.2++[.tuple [.str "room",wD R (some x.1),.int (k:Int),wD R ((oS x.1).getD k none)]])
theorem Gx(R:Rm)(S:List Nat)(oS:Nat→av)(x:Rw):Sq R S oS x (oS x.1).length=qu (gZ R S oS) x:=by
 unfold Sq qu gZ A8;rw[gE];rfl
theorem J2(R:Rm)(S:List Nat)(oS:Nat→av)(x:Rw)(k:Nat):Sq R S oS x (k+1)=Sq R S oS x k++(if gp R S ((oS x.1).getD k none)=true then[(tg ((oS x.1).getD k none),x.2++[.tuple [.str "room",wD R (some x.1),.int (k:Int),wD R ((oS x.1).getD k none)]])] else[]):=by
 unfold Sq;rw[pG,g9,cg]
 congr 1
 rw[fE]
 split<;>rfl
theorem MV(R:Rm)(S:List Nat)(oS:Nat→av)(x:Rw)(k:Nat):(Sq R S oS x k).length≤k:=by
 unfold Sq;rw[aN];refine aY (jh _ _) ?_;rw[fz];exact az _
theorem G5{K:Frag}{a:Addr}{ys:aA}{k:Nat}{js:List Nat}{g:TG}{te:TE}{σ:L2.St}{H:Hp}{Q:VK}(hlen:ys.length≤sizeLine)(ha:H a=some (.lst ys))
 (gW:∀(i:Nat) (x:V) (H' :Hp) (C1:V→Hp→Prop),ys[i]? =some x→ax H H'→(∀p fN,H' p=none→ax H' fN→fN p=some (.lst [x])→C1 (.ref p) fN)→g x (tm k js σ) H' fun iy H2=>eM (tm k js σ) iy∧te iy H2 C1)
 (hq:∀(p:Addr) (H' :Hp) (fs:aH),H p=none→ax H H'→H' p=some (.lst (fs.map V.ref))→fs.length=ys.length→fs.Nodup→¬p∈fs→(∀(j:Nat) y,ys[j]? =some y→H' (fs.getD j 0)=some (.lst [y]))→Q (.ref p) H'):
 iw (Qt K a) k js g LQ te σ H Q:=by
 intro p hp
 refine⟨fun i m' zs H' =>m' =ys.length - i∧i≤ys.length∧H' p=some (.lst zs)∧ax H H'∧∃fs:aH,zs=fs.map V.ref∧fs.length=i∧fs.Nodup∧(¬p∈fs)∧∀(j:Nat) y,j<i→ys[j]? =some y→H' (fs.getD j 0)=some (.lst [y]),
  ⟨ys.length,rfl,cB _,ae,ax.upd hp,[],rfl,rfl,ik,(fun z=>nomatch z),(fun j y h=>absurd h (rh _))⟩,?_⟩
 rintro i m' zs H' ⟨rfl,hi,hl,hs,fs,rfl,xQ,FH,hpf,hat⟩
 refine⟨hl,?_⟩;have TJ :=hs _ _ ha;by_cases dS:i<ys.length
 ·have hx:ys[i]? =some ys[i]:=by simp[dS]
  refine .inr ⟨⟨ys,_,bw.of TJ,hx⟩,by rw[aN];lia,fun x fN hy=> ?_⟩;obtain⟨rfl,hy⟩:=hy;have hx:=hy ys (bw.of TJ);refine gW i x _ _ hx hs fun q H4 hq4 s4 e4=> ?_;have nqp:q≠p:=fun z=>by rw[z,hl] at hq4;cases hq4
  have GN:=s4 _ _ hl
  have al:∀f∈fs,∃o,fN f=some o:=fun f hf=>by
   obtain⟨j,hj⟩:=dz.mp hf;have kU:=(aS.mp hj).1;have:=hat j (ys[j]'(by lia)) (by lia) (by simp);rw[bD,hj] at this;exact⟨_,this⟩
  have nqf:¬q∈fs:=fun z=>by
   obtain⟨o,e⟩:=al q z;rw[hq4] at e;cases e
  refine⟨GN,ys.length - (i+1),by lia,rfl,dS,ae,fun c o e=> ?_,fs++[q],by rw[cg];rfl,by rw[bj,xQ];rfl,?_,?_,fun j y hj e=> ?_⟩
  ·rw[af (aq e hp)];exact s4 _ _ (hs _ _ e)
  ·rw[me];refine⟨FH,by simp,fun a ha b hb z=>nqf ?_⟩;rw[←cw.mp hb,←z];exact ha
  ·intro z;rcases cj.mp z with z|z
   ·exact hpf z
   ·exact nqp (cw.mp z).symm
  ·by_cases hji:j<i
   ·rw[bD,bV (by lia),←bD];have:=hat j y hji e;have iB:fs.getD j 0≠p:=fun z=>hpf (by rw[←z];exact WP (by lia));rw[af iB];exact s4 _ _ this
   ·have hji:j=i:=by lia
    subst hji;rw[hx] at e;cases e;rw[bD,cF (by lia),xQ,pP];show upd H4 p _ q=_;rw[af nqp];exact e4
 ·have e:i=ys.length:=by lia
  subst e;exact .inl ⟨⟨ys,bw.of TJ,az _⟩,hq p H' fs hp hs hl xQ FH hpf fun j y e=>hat j y (aS.mp e).1 e⟩
theorem LX{fs:aH}(h:fs.Nodup){j:Nat}(hj:j<fs.length):¬fs.getD j 0∈fs.take j:=fun z=>by
 obtain⟨i,hi⟩:=dz.mp z;have xj:=(aS.mp hi).1;rw[kD] at xj;rw[BI (by lia)] at hi;obtain⟨h1,h2⟩:=aS.mp hi;rw[bD,cN hj] at h2;have:=(Cf h).mp (show fs[i]=fs[j] from h2)
 lia
section
variable{P:Program}{w:World}{K:Frag}{mg:Str→aQ}{base:Heap}{A:qa}
noncomputable def Nv:Sp:=fun vs H Q _=>∃m ps ts L top R ws ms cs G oS d kv ns oh,∃t:Nat,vs=[.ref m.d,.int t,.ref d]∧aF H m ps ts L top R ws ms cs G∧WF ps ts∧R.length≤1000∧(∀r∈R,1≤r.2∧r.1<ps.length)∧cs.length=R.length∧e_ H R cs oS∧bS H R d kv ns oh∧ns.length≤1000∧(kv.map (·.1)).Nodup∧(¬d∈m.own)∧
 ∀rd ls acc H',H rd=none→ax H H'→bX H' R rd acc ls→D0 (gZ R (bt ps ts t) oS) (aM [] (wn ts R (bt ps ts t) ns oh oS)) acc→Q (.ref rd) H'
theorem BX(T:Txt K mg A):bC P w K mg base eC 5 A.vZ A.wm ["_law_world_here","_law_frame","_law_hands_here"] Nv:=by
 refine T.wx.F.fV cG ?_
 rintro c_ Ar outer s H vs Q E hr ⟨m,ps,ts,L,top,R,ws,ms,cs,G,oS,d,kv,ns,oh,t,rfl,Wd,W,hR,kz,nC,hC,hd,hn,FH,MA,q⟩
 have hu:=dy hr;have vt:_+100<cLine:=dR (kH (by decide:100≤16*4+200) _) (by have:=hr.un;omega);have We:_<cLine:=dR (jO _ _) vt;refine⟨_,(ah (fG 3 cG.nd (dO (qx T) hr T.l6 aE (ai (pv 0) (aX (pv 1))))) (ah (fG 4 cG.nd yl) (ah (Na 5 cG.nd ["_law_step"] 1 [] (cK (dO (Ai T) hr T.tR aE (ai (pv 0) (ai (pv 1) (aX (pv 2)))))) (fun _ _ _ _ _=>⟨(iO 0 (show(["_law_step"]:aJ).Nodup by decide+kernel)),qM,(bY (aX (pv 0)))⟩)) (ah (sI ue (xL (Ht We) (pv 5) (bY gA)) (ah (fG 6 cG.nd (bY gA)) (ah (A2 (cK (pv 5)) (iO 7 cG.nd) (ao (bW (Lc (Bj hu (de bH (de a7 (pv 7) (gC eD aj)) (gC eD aj)) (pv 4))) (ah (lW hu (pv 4) (de bH (de a7 (pv 7) (gC eD aj)) (gC eD aj)) (pv 7) rfl) (ao (bB (gu fc PySem.F.slot_list_append PySem.F.type_list_append cJ (pv 6) (aX (pv 7)))))) bc))) (ah (fG 5 cG.nd (bY gA)) (ao (A2 (cK (pv 6)) (iO 7 cG.nd) (ah (fG 8 cG.nd (de bH (de a7 (pv 7) (gC eD aj)) (gC eD aj))) (ao (A2 (md rfl T.oY (aX (gY hu (gY hu (pv 0) aR) (pv 8)))) (EF rfl (eS (iO 9 cG.nd) (eS (iO 10 cG.nd) pD))) (ao (bW (xL (vx vt) (pv 10) (pv 3)) (ao (bB (gu fc PySem.F.slot_list_append PySem.F.type_list_append cJ (pv 5) (aX (bG Kg (pv 7) (bY (aX (gF (ai aR (ai (pv 8) (ai (pv 9) (aX (pv 10))))))))))))) bc))))))))))) (ao (aK (pv 4))))))),?_⟩;have kn:=JW hd hC nC;have XO:(1:Nat)≤sizeLine:=by decide
 have h0L:(0:Nat)≤sizeLine:=by decide
 have VN:=aY (N3 ts R) hR;have HD:PyData.canLayAll0 ((D4 R (gG ps ts R t)).map fun x=>eR x.1 x.2)=true:=rY _;have hrp:∀r∈R,1≤r.2:=fun r hr=>(kz r hr).1;refine⟨_,rfl,_,rfl,m,ps,ts,L,top,R,ws,ms,cs,G,t,rfl,Wd,W,hR,fun r hr=>(kz r hr).2,VN,fun nl H1 AU s1 Fc=> ?_⟩;have W1:=Wd.same s1;have inD:∀{H' :Hp},(∀c xs,H1 c=some (.tup xs)→H' c=some (.tup xs))→H' nl=some (.lst (jp ws (gG ps ts R t)))→Dat H' (.ref nl) (.list ((D4 R (gG ps ts R t)).map fun x=>eR x.1 x.2)):=fun{H'} sm h=> .lst h (r8 (fun i hi=>sm _ _ (W1.way i hi).2) fun i hi=>(pM.mp hi).1);intro rd Qf;have s2:=ax.upd (o:= .dT []) Qf;have e2:upd H1 rd (.dT []) rd=some (.dT []):=ae;generalize upd H1 rd (.dT [])=H2 at s2 e2;have Kq:=s1.trans s2;refine⟨_,rfl,_,rfl,_,rfl,m,ps,ts,L,top,R,ws,ms,cs,G,oS,d,kv,ns,oh,t,rfl,Wd.same Kq,W,hR,kz,VN,hC.kt (a9 Kq),hd.same Kq,hn,FH,MA,fun sl ys H3 nz s3 hy3 td3 jG=>⟨sl,rfl,⟨_,bw.of hy3⟩,?_⟩⟩;have GD:=Kq.trans s3;have hyw:ys.length=(om ts R (bt ps ts t) ns oh oS).length:=by rw[td3.len,tS,aN]
 refine G5 (ck (bz (by lia))) hy3 ?_ ?_
 ·intro i x H' C1 hx sm c1;exact⟨(eM.refl _).own (by decide),_,rfl,XO,fun p hp=>c1 p _ hp (ax.upd hp) ae⟩
 intro EN H4 fs air s4 hf4 xQ Hw agG ae1;have T2:=GD.trans s4
 have ac6:∀(j:Nat) (x:Rw),(wn ts R (bt ps ts t) ns oh oS)[j]? =some x→∃y,ys[j]? =some y∧bp H4 [y] x.2:=fun j x e=>by
  unfold wn at e;rw[aW] at e
  cases ew:(om ts R (bt ps ts t) ns oh oS)[j]? with
  |none=>
   rw[ew] at e;cases e
  |some z=>
   rw[ew] at e;cases e
   have hj:j<ys.length:=by
    rw[hyw];exact(aS.mp ew).1
   have hy:ys[j]? =some ys[j]:=by simp[hj]
   exact⟨_,hy,.cons ((td3.get hy (by rw[tS,aW,ew];rfl)).kt (a9 s4)) .nil⟩
 have r0l:(wn ts R (bt ps ts t) ns oh oS).length=ys.length:=by
  unfold wn;rw[aN,hyw]
 have LR4:du H4 EN fs (wn ts R (bt ps ts t) ns oh oS):=⟨hf4,by rw[xQ,r0l],Hw,agG,fun j x e=>by
  obtain⟨y,hy,td⟩:=ac6 j x e;exact⟨[y],ae1 j y hy,td⟩⟩
 have Q8:bX H4 R rd [] []:=⟨s4 _ _ (s3 _ _ e2),rfl,ik,fun j x e=>by simp at e⟩;have hn4:=s4 _ _ (s3 _ _ (s2 _ _ Fc))
 refine⟨fun mm σ H' =>∃(x6 x7 x8 x9 uL:Option V) (EN:Addr) (ls fs:aH) (found fresh:List Rw),mm=2*(R.length - found.length)+(if fresh=[] then 0 else 1)∧σ=[some (.ref m.d),some (.int t),some (.ref d),some (.ref nl),some (.ref rd),some (.ref EN),x6,x7,x8,x9,uL]∧ax H H'∧(∀c xs,H1 c=some (.tup xs)→H' c=some (.tup xs))∧H' nl=some (.lst (jp ws (gG ps ts R t)))∧bX H' R rd found ls∧du H' EN fs fresh∧(∀f∈fs,¬f∈ls)∧aM found fresh=c8 (gZ R (bt ps ts t) oS) (aM [] (wn ts R (bt ps ts t) ns oh oS)) found.length∧p_ found∧(∀x∈fresh,oZ R (bt ps ts t) x∧x.2.length≤found.length+1)∧(∀x∈found,oZ R (bt ps ts t) x)∧(found.map (·.1)).Nodup∧fresh.length≤10000,
  ⟨_,_,_,_,_,_,EN,[],fs,[],_,rfl,rfl,T2,a9 (s2.trans (s3.trans s4)),hn4,Q8,LR4,(fun f _ z=>nomatch z),rfl,(fun j x e=>by simp at e),fun x hx=>⟨kn.rows x hx,?_⟩,(fun x hx=>nomatch hx),ik,by rw[r0l];exact jG⟩,?_⟩
 ·obtain⟨y,_,rfl⟩:=bM.mp hx;exact az _
 rintro mm σ H5 ⟨x6,x7,x8,x9,uL,EN,ls,fs,found,fresh,rfl,rfl,s5,LV,hn5,MC,OY,agv,Rv,hRL,Lb,hfo,Hw,air⟩
 have amh:found.length≤R.length:=by
  have:=o6 R.length Hw fun i hi=>by
   obtain⟨x,hx,rfl⟩:=bM.mp hi;exact(hfo x hx).lt
  rw[aN] at this;exact this
 refine⟨_,rfl,h0L,fun e0 LM=> ?_⟩;have s6:=ax.upd (o:= .lst []) LM;have e6:upd H5 e0 (.lst []) e0=some (.lst []):=ae;generalize upd H5 e0 (.lst [])=H6 at s6 e6;refine⟨EN,e0,_,rfl,rfl,s6 _ _ OY.ob,e6,_,rfl,?_⟩;by_cases Tq:fresh=[]
 ·subst Tq;have hf0:fs=[]:=List.length_eq_zero_iff.mp OY.ln;subst hf0;refine cQ ⟨_,rfl,q rd ls found H6 (s1.free Qf) (s5.trans s6) (MC.same s6) (IV Rv)⟩
 ·have ahY:fs≠[]:=fun z=>Tq (List.length_eq_zero_iff.mp (by rw[←OY.ln,z];rfl));rw[show(fs.map V.ref).isEmpty=false by cases fs with|nil=>exact absurd rfl ahY|cons _ _=>rfl];rw[au Tq];refine eN ?_;have MX:=s5.trans s6;have Fe:∀n∈bt ps ts t,ts[n]? =some none:=fun n hn=>uW hn;refine⟨fun c9 H' =>∃(x6 x7 x8 x9 uL:Option V) (EN:Addr) (ls fs:aH),c9 =[some (.ref m.d),some (.int t),some (.ref d),some (.ref nl),some (.ref rd),some (.ref EN),x6,x7,x8,x9,uL]∧ax H H'∧(∀c xs,H1 c=some (.tup xs)→H' c=some (.tup xs))∧H' nl=some (.lst (jp ws (gG ps ts R t)))∧bX H' R rd (aM found fresh) ls∧du H' EN fs (((aM found fresh).drop found.length).flatMap (qu (gZ R (bt ps ts t) oS)))∧∀f∈fs,¬f∈ls,fun c9 H' => ?_,?_⟩
  ·rintro ⟨x6,x7,x8,x9,uL,ahU,D9,WY,rfl,h1,h2,h3,h4,h5,h6⟩
   obtain⟨tt,ett⟩:=lg fresh found;have Iu :=lM (xs:=fresh) Hw;have Cd :∀x∈aM found fresh,oZ R (bt ps ts t) x:=gj hfo fun x hx=>(Lb x hx).1
   have acI :(aM found fresh).length≤R.length:=by
    have:=o6 R.length Iu fun i hi=>by
     obtain⟨x,hx,rfl⟩:=bM.mp hi;exact(Cd x hx).lt
    rw[aN] at this;exact this
   have NQ :p_ (aM found fresh):=hRL.adds fun x hx=>(Lb x hx).2;have hdl:((aM found fresh).drop found.length).length=(aM found fresh).length - found.length:=kh;refine⟨_,?_,x6,x7,x8,x9,uL,ahU,D9,WY,aM found fresh,_,rfl,rfl,h1,h2,h3,h4,h5,h6,Ii Rv,NQ,fun y hy=> ?_,Cd,Iu,?_⟩
   ·by_cases hz:(aM found fresh).length=found.length
    ·have e0:(aM found fresh).drop found.length=[]:=List.drop_eq_nil_iff.mpr (by lia);rw[e0,List.flatMap_nil,aC rfl,hz]
     lia
    ·have hle:found.length≤(aM found fresh).length:=by
      rw[ett,bj]
      lia
     split<;>lia
   ·obtain⟨x,hx,hy⟩:=j8.mp hy;refine⟨kn.ex (Cd x (BO hx)) y hy,?_⟩;obtain⟨z,_,rfl⟩:=bM.mp hy;obtain⟨j,hj⟩:=dz.mp (BO hx);have:=NQ j x hj;have:=(aS.mp hj).1;show(x.2++[z.2]).length≤_;rw[bj];show x.2.length+1≤_
    lia
   ·refine aY (vE _ (c:=6) _ fun x hx=> ?_) (by rw[hdl];lia);have Ve:=(Cd x (BO hx)).lt;rw[←Gx];refine aY (MV ..) ?_;have hc:cs[x.1]? =some (cs[x.1]'(by rw[nC];exact Ve)):=by simp
    have:=(hC x.1 _ hc).1;have:=(hC x.1 _ hc).2.1
    lia
  refine⟨h0L,fun z0 CN=> ?_⟩;have s7:=ax.upd (o:= .lst []) CN;have e7:upd H6 z0 (.lst []) z0=some (.lst []):=ae;generalize upd H6 z0 (.lst [])=H7 at s7 e7;have VM:=s6.trans s7;have Hf:=MC.same VM;have LR7:=OY.same VM;have afA:z0≠rd:=aD e7 Hf.ob (by intro z;cases z)
  have aa7:¬z0∈fs:=fun z=>by
   obtain⟨_,e⟩:=(OY.same s6).al z;rw[CN] at e;cases e
  have ai2:¬z0∈ls:=fun z=>by
   obtain⟨_,e⟩:=(MC.same s6).al z;rw[CN] at e;cases e
  have agU:EN≠z0:=fun z=>by rw[←z,s6 _ _ OY.ob] at CN;cases CN
  have afm:EN≠rd:=aD LR7.ob Hf.ob (by intro z;cases z);have afX:nl≠rd:=aD (VM _ _ hn5) Hf.ob (by intro z;cases z);have ahO:nl≠z0:=fun z=>by rw[←z,s6 _ _ hn5] at CN;cases CN
  have afx:H z0=none:=MX.free CN;have ag6:H rd=none:=s1.free Qf;have El:∀{H' :Hp},(∀c o,c≠rd→c≠z0→H7 c=some o→H' c=some o)→∀c xs,H7 c=some (.tup xs)→H' c=some (.tup xs):=fun K' c xs e=>K' c _ (aD e Hf.ob (by intro z;cases z)) (aD e e7 (by intro z;cases z)) e;refine⟨_,rfl,EN,rfl,⟨_,bw.of LR7.ob⟩,?_⟩;refine dG (K:=K) (a:=EN) (xs:=fs.map V.ref) (fun j σ H' =>∃(x7:Option V) (lt:aH),σ=[some (.ref m.d),some (.int t),some (.ref d),some (.ref nl),some (.ref rd),some (.ref EN),some (.ref z0),x7,x8,x9,uL]∧(∀c o,c≠rd→c≠z0→H7 c=some o→H' c=some o)∧bX H' R rd (aM found (fresh.take j)) (ls++lt)∧H' z0=some (.lst (lt.map V.ref))∧∀l∈lt,l∈fs.take j) ⟨_,[],rfl,fun c o _ _ e=>e,by rw[dA,pL];exact Hf,e7,fun l hl=>nomatch hl⟩ ?_ ?_ ?_
  ·rintro j σ H' _ ⟨x7,lt,rfl,K',_⟩
   exact bw.of (K' _ _ afm agU LR7.ob)
  ·rintro j v σ H8 hv ⟨x7,lt,rfl,K8,v9,VU,dS⟩
   have ME:j<fs.length:=by
    have:=(aS.mp hv).1;rw[aN] at this;exact this
   have hvf:v= .ref (fs.getD j 0):=by
    rw[aW,cN ME] at hv;cases hv;rw[bD,cN ME];rfl
   subst hvf;have hjx:j<fresh.length:=by rw[←OY.ln];exact ME
   have hx:fresh[j]? =some fresh[j]:=by simp[hjx]
   generalize fresh[j]=x at hx;obtain⟨Ho,Ib⟩:=Lb x (ba hx);obtain⟨yr,er7,tr7⟩:=LR7.at_ j x hx;have hfm:=WP ME;have nfr:fs.getD j 0≠rd:=aD er7 Hf.ob (by intro z;cases z);have nfl:fs.getD j 0≠z0:=fun z=>aa7 (z▸hfm);have er8:=K8 _ _ nfr nfl er7;have tr8:=tr7.kt (El K8);obtain⟨y0,aa,xs,wa,rfl,ea,ew⟩:=zT Ho tr8;have P4:∀y∈aM found (fresh.take j),y.1<R.length:=gj (fun y hy=>(hfo y hy).lt) fun y hy=>(Lb y (mw hy)).1.lt;have Lm:=lM (xs:=fresh.take j) Hw
   have aab:(aM found (fresh.take j)).length≤R.length:=by
    have:=o6 R.length Lm fun y hy=>by
     obtain⟨z,hz,rfl⟩:=bM.mp hy;exact P4 z hz
    rw[aN] at this;exact this
   have Ef:R.length<sizeLine:=bz (by lia);rw[jaa hx];refine⟨_,rfl,1,rfl,fs.getD j 0,_,_,_,rfl,rfl,bw.of er8,c7 y0 _,1,rfl,aa,_,_,_,rfl,rfl,gg.of ea,c7 xs _,_,rfl,rd,_,rfl,dq.t v9.ob ew,_,rfl,?_⟩
   cases Oe:bR (nB R (aM found (fresh.take j)) (ls++lt)) (fu R x.1) with
   |some v=>
    refine cQ ⟨_,lt,rfl,K8,?_,VU,fun l hl=> ?_⟩
    ·rw[xy (xH fun z=>by rw[nU hrp Ho.lt P4 z] at Oe;cases Oe)];exact v9
    ·exact List.take_subset_take_left fs (gM j) (dS l hl)
   |none=>
    refine eN ⟨_,rfl,_,rfl,_,rfl,1,rfl,fs.getD j 0,_,_,_,rfl,rfl,bw.of er8,c7 y0 _,1,rfl,aa,_,_,_,rfl,rfl,gg.of ea,c7 xs _,rd,_,rfl,u6.t v9.ob ew (by rw[v9.len];lia),?_⟩;have e9:upd H8 rd (.dT (wv (nB R (aM found (fresh.take j)) (ls++lt)) (fu R x.1) (.ref (fs.getD j 0)))) rd=some (.dT (nB R (aM found (fresh.take j)) (ls++lt)++[(fu R x.1,.ref (fs.getD j 0))])):=by rw[ae,ji _ Oe]
    have k9:∀c o,c≠rd→H8 c=some o→upd H8 rd (.dT (wv (nB R (aM found (fresh.take j)) (ls++lt)) (fu R x.1) (.ref (fs.getD j 0)))) c=some o:=fun c o hc e=>by
     rw[af hc];exact e
    generalize upd H8 rd (.dT (wv (nB R (aM found (fresh.take j)) (ls++lt)) (fu R x.1) (.ref (fs.getD j 0))))=H9 at e9 k9;have QA:=k9 _ _ afA VU
    have CN:lt.length≤R.length:=by
     have:=v9.ln;rw[bj] at this
     lia
    refine⟨_,rfl,.inl ⟨rfl,_,bw.of QA⟩,_,rfl,z0,_,_,rfl,rfl,QA,by rw[aN];lia,?_⟩;have Zn:∀c xs,H8 c=some (.tup xs)→H9 c=some (.tup xs):=fun c xs e=>k9 c _ (aD e v9.ob (by intro z;cases z)) e
    have Uv:¬fs.getD j 0∈ls++lt:=fun z=>by
     rcases cj.mp z with z|z
     ·exact agv _ hfm z
     ·exact LX OY.nd ME (dS _ z)
    have R9:bX H9 R rd (aM found (fresh.take j)++[x]) ((ls++lt)++[fs.getD j 0]):=v9.add e9 k9 (k9 _ _ nfr er8) (tr8.kt Zn) (.inr Uv);refine⟨_,lt++[fs.getD j 0],rfl,fun c o h1 h2 e=> ?_,?_,by rw[ae,cg];rfl,fun l hl=> ?_⟩
    ·rw[af h2];exact k9 c o h1 (K8 c o h1 h2 e)
    ·rw[uw (E9 hrp v9.ln P4 Lm Oe),←fB]
     refine R9.but (f:=z0) (fun z=> ?_) QA fun c o hc e=>by
      rw[af hc];exact e
     rcases cj.mp z with z|z
     ·rcases cj.mp z with z|z
      ·exact ai2 z
      ·exact aa7 (mw (dS _ z))
     ·exact nfl (cw.mp z).symm
    ·rcases cj.mp hl with hl|hl
     ·exact List.take_subset_take_left fs (gM j) (dS l hl)
     ·rw[cw.mp hl,xK,cN ME,bD,cN ME];exact hV _ (cw.mpr rfl)
  ·rintro σ H8 ⟨x7,lt,rfl,K8,v9,VU,dS⟩
   rw[aN,OY.ln,iK] at v9;have s08:ax H H8:=fun c o e=>K8 c o (aq e ag6) (aq e afx) ((s5.trans VM) _ _ e);have hn8:=K8 _ _ afX ahO (VM _ _ hn5);have MF:∀c xs,H1 c=some (.tup xs)→H8 c=some (.tup xs):=fun c xs e=>El K8 c xs (a9 VM c xs (LV c xs e));have Cd :∀x∈aM found fresh,oZ R (bt ps ts t) x:=gj hfo fun x hx=>(Lb x hx).1;have NQ :p_ (aM found fresh):=hRL.adds fun x hx=>(Lb x hx).2;have Iu :=lM (xs:=fresh) Hw
   have acI :(aM found fresh).length≤R.length:=by
    have:=o6 R.length Iu fun i hi=>by
     obtain⟨x,hx,rfl⟩:=bM.mp hi;exact(Cd x hx).lt
    rw[aN] at this;exact this
   have Ui:lt.length=(aM found fresh).length - found.length:=by
    have h1:=v9.ln;have h2:=MC.ln;rw[bj] at h1
    lia
   refine⟨h0L,fun rg J4=> ?_⟩;have s9:=ax.upd (o:= .lst []) J4;have e9:upd H8 rg (.lst []) rg=some (.lst []):=ae;generalize upd H8 rg (.lst [])=H9 at s9 e9;have VT:=s08.trans s9;have RA9:=v9.same s9;have QA:=s9 _ _ VU;have hn9:=s9 _ _ hn8;have aaD:z0≠rg:=fun z=>by rw[z,J4] at VU;cases VU
   have JJ:nl≠rg:=fun z=>by rw[z,J4] at hn8;cases hn8
   have Kx:H rg=none:=s08.free J4;have Zn:∀{H' :Hp},(∀c o,c≠rg→H9 c=some o→H' c=some o)→∀c xs,H9 c=some (.tup xs)→H' c=some (.tup xs):=fun K' c xs e=>K' c _ (aD e e9 (by intro z;cases z)) e
   have J9:¬rg∈ls++lt:=fun z=>by
    obtain⟨_,e⟩:=v9.al z;rw[J4] at e;cases e
   refine⟨_,rfl,z0,rfl,⟨_,bw.of QA⟩,?_⟩;refine dG (K:=K) (a:=z0) (xs:=lt.map V.ref) (fun j σ H' =>∃(x7 x8 x9 uL:Option V) (N2:aH),σ=[some (.ref m.d),some (.int t),some (.ref d),some (.ref nl),some (.ref rd),some (.ref rg),some (.ref z0),x7,x8,x9,uL]∧(∀c o,c≠rg→H9 c=some o→H' c=some o)∧du H' rg N2 ((((aM found fresh).drop found.length).take j).flatMap (qu (gZ R (bt ps ts t) oS)))∧(∀f∈N2,H9 f=none)∧N2.length≤6*j) ⟨_,_,_,_,[],rfl,fun c o _ e=>e,⟨e9,rfl,ik,(fun z=>nomatch z),fun j x e=>by simp at e⟩,(fun f hf=>nomatch hf),az _⟩ ?_ ?_ ?_
   ·rintro j σ H' _ ⟨x7,x8,x9,uL,N2,rfl,K',_⟩
    exact bw.of (K' _ _ aaD QA)
   ·rintro j v σ qP hv ⟨y7,y8,y9,y10,N2,rfl,Jb,Jo,Vp,PM⟩
    have kU:j<lt.length:=by
     have:=(aS.mp hv).1;rw[aN] at this;exact this
    have hvf:v= .ref (lt.getD j 0):=by
     rw[aW,cN kU] at hv;cases hv;rw[bD,cN kU];rfl
    subst hvf;have hjx:found.length+j<(aM found fresh).length:=by lia
    have hx:(aM found fresh)[found.length+j]? =some (aM found fresh)[found.length+j]:=by simp[hjx]
    have hxd:((aM found fresh).drop found.length)[j]? =some (aM found fresh)[found.length+j]:=by
     rw[tX];exact hx
    generalize (aM found fresh)[found.length+j]=x at hx hxd;have Ho:=Cd x (ba hx);have Ve:x.1<R.length:=Ho.lt;obtain⟨yr,er9,tr9⟩:=RA9.at_ _ x hx
    have elt:(ls++lt).getD (found.length+j) 0=lt.getD j 0:=by
     rw[←MC.ln,bD,cF (jO _ _),Nat.add_sub_cancel_left,←bD]
    rw[elt] at er9;have nf2:lt.getD j 0≠rg:=fun z=>J9 (hV _ (z▸WP kU));have acn:=Jb _ _ nf2 er9;have Xj:=tr9.kt (Zn Jb)
    have apg:yr.length≤1000:=by
     have:=tr9.len;have:=NQ _ x hx
     lia
    obtain⟨y0,aa,xs,wa,ey,ea,ew⟩:=zT Ho Xj;have HK:ax H qP:=fun c o e=>Jb c o (aq e Kx) (VT _ _ e);have W10:=Wd.same HK;obtain⟨vs,ec,e4,e5⟩:=W10.atW hrp (fk Ve (Fe _ Ho.fr)) ew;obtain⟨c6,U9,Nr⟩:=(hC.kt (a9 HK)) x.1 vs ec;refine⟨_,rfl,1,rfl,lt.getD j 0,_,_,_,rfl,rfl,bw.of acn,by rw[ey];exact c7 y0 _,1,rfl,aa,_,_,_,rfl,rfl,gg.of ea,c7 xs _,?_⟩;refine⟨_,rfl,m.d,_,rfl,W10.BQ,_,rfl,m.ca,_,rfl,e4,ms.getD x.1 0,vs,rfl,e5,?_⟩
    have nms:ms.getD x.1 0≠rg:=fun z=>by
     obtain⟨vs',_,e'⟩:=Wd.mm x.1 (fk Ve (Fe _ Ho.fr));rw[z,Kx] at e';cases e'
    have D2:∀{H' :Hp},(∀c o,c≠rg→qP c=some o→H' c=some o)→∀c xs,qP c=some (.tup xs)→H' c=some (.tup xs):=fun K' c xs e=>K' c _ (aD e Jo.ob (by intro z;cases z)) e;refine JE (K:=K) (a:=ms.getD x.1 0) (xs:=vs) (fun k σ H' =>∃(x9 uL:Option V) (Fg:aH),σ=[some (.ref m.d),some (.int t),some (.ref d),some (.ref nl),some (.ref rd),some (.ref rg),some (.ref z0),some (.ref (lt.getD j 0)),some (.ref wa),x9,uL]∧(∀c o,c≠rg→qP c=some o→H' c=some o)∧du H' rg Fg ((((aM found fresh).drop found.length).take j).flatMap (qu (gZ R (bt ps ts t) oS))++Sq R (bt ps ts t) oS x k)∧(∀f∈Fg,H9 f=none)∧Fg.length≤6*j+k) ⟨_,_,N2,rfl,fun c o _ e=>e,?_,Vp,PM⟩ ?_ ?_ ?_
    ·show du qP rg N2 (_++[]);rw[dA];exact Jo
    ·rintro k σ H' ⟨x9,uL,Fg,rfl,K',_⟩
     exact bw.of (K' _ _ nms e5)
    ·rintro k y T' σ qO hy hT ⟨z9,z10,Fg,rfl,CM,Fh,MP,SA⟩
     have wZ:=ax.upd (o:= .tup [V.int k,y]) hT;have Zs:upd qO T' (.tup [V.int k,y]) T' =some (.tup [V.int k,y]):=ae;generalize upd qO T' (.tup [V.int k,y])=Um at wZ Zs;have rQ:∀c xs,qP c=some (.tup xs)→Um c=some (.tup xs):=fun c xs e=>wZ _ _ (D2 CM c xs e);refine⟨T',_,rfl,gg.of Zs,rfl,_,_,rfl,_,_,rfl,rfl,?_⟩;have GX:=(Nr k y hy).kt rQ;obtain⟨dd,td,da,y1,y2,ean,edw⟩:=s_ (ps:=ps) (ts:=ts) (t:=t) GX;refine⟨_,rfl,_,rfl,dd,_,da,inD (fun c xs e=>rQ c xs (Zn Jb c xs (a9 s9 c xs (MF c xs e)))) (wZ _ _ (CM _ _ JJ (Jb _ _ JJ hn9))),HD,y1,y2,_,rfl,?_⟩;rw[ean,J2]
     cases hb:gp R (bt ps ts t) ((oS x.1).getD k none) with
     |false=>
      refine cQ ⟨_,_,Fg,rfl,fun c o hc e=>wZ _ _ (CM c o hc e),?_,MP,by lia⟩;rw[au b7,dA];exact Fh.same wZ
     |true=>
      refine eN ?_;have adi:=Fh.same wZ;refine⟨_,rfl,.inl ⟨rfl,_,bw.of adi.ob⟩,_,rfl,_,rfl,_,rfl,_,rfl,(show 4≤sizeLine by decide),fun tt N7=>⟨XO,fun l1 Ab=> ?_⟩⟩;have Kd:=ax.upd (o:= .tup [V.str "room",.ref wa,.int k,y]) N7;have e13:upd Um tt (.tup [V.str "room",.ref wa,.int k,y]) tt=some (.tup [V.str "room",.ref wa,.int k,y]):=ae;generalize upd Um tt (.tup [V.str "room",.ref wa,.int k,y])=MM at Kd e13 Ab;have VX:=ax.upd (o:= .lst [V.ref tt]) Ab;have e14:upd MM l1 (.lst [V.ref tt]) l1=some (.lst [V.ref tt]):=ae;generalize upd MM l1 (.lst [V.ref tt])=H14 at VX e14;have JP:=Kd.trans VX;refine⟨lt.getD j 0,l1,yr,[.ref tt],rfl,rfl,JP _ _ (wZ _ _ (CM _ _ nf2 acn)),e14,?_,fun lp zh=> ?_⟩
      ·show yr.length+1≤sizeLine;exact ck (bz (by lia))
      have s15:=ax.upd (o:= .lst (yr++[V.ref tt])) zh;have e15:upd H14 lp (.lst (yr++[V.ref tt])) lp=some (.lst (yr++[V.ref tt])):=ae;generalize upd H14 lp (.lst (yr++[V.ref tt]))=Qs at s15 e15;have DX:=JP.trans s15;have ab8:=adi.same DX;have D5:qO lp=none:=(wZ.trans JP).free zh;have Vl:lp≠rg:=fun z=>by rw[z,Fh.ob] at D5;cases D5
      refine⟨rg,_,_,rfl,rfl,ab8.ob,by rw[aN];exact dR SA (bz (by
       have:=(aS.mp hy).1
       lia)),?_⟩
      have k16:∀c o,c≠rg→Qs c=some o→upd Qs rg (.lst (Fg.map V.ref++[.ref lp])) c=some o:=fun c o hc e=>by
       rw[af hc];exact e
      have Tn:∀c xs,Qs c=some (.tup xs)→upd Qs rg (.lst (Fg.map V.ref++[.ref lp])) c=some (.tup xs):=fun c xs e=>k16 c _ (aD e ab8.ob (by intro z;cases z)) e;have ktx:∀c xs,qP c=some (.tup xs)→upd Qs rg (.lst (Fg.map V.ref++[.ref lp])) c=some (.tup xs):=fun c xs e=>Tn c xs (a9 DX c xs (rQ c xs e))
      have ahJ:dZ (upd Qs rg (.lst (Fg.map V.ref++[.ref lp]))) (.ref tt) (.tuple [.str "room",wD R (some x.1),.int (k:Int),wD R ((oS x.1).getD k none)]):=by
       refine .tup (Tn _ _ (s15 _ _ (VX _ _ e13))) (.cons (.str _) (.cons (iI (ktx _ _ ew)) (.cons (.int _) (.cons ?_ .nil))));rw[←edw hb];exact(td.kt (a9 DX)).kt Tn
      refine⟨_,_,Fg++[lp],rfl,fun c o hc e=>k16 c o hc ((wZ.trans DX) _ _ (CM c o hc e)),?_,fun f hf=> ?_,by rw[bj];show Fg.length+1≤_;lia⟩
      ·rw[aC rfl,←fB];exact Fh.add (x:=(tg ((oS x.1).getD k none),x.2++[.tuple [.str "room",wD R (some x.1),.int (k:Int),wD R ((oS x.1).getD k none)]])) ae (fun c o hc e=>k16 c o hc ((wZ.trans DX) _ _ e)) (k16 _ _ Vl e15) ((Xj.kt ktx).append (.cons ahJ .nil)) D5
      ·rcases cj.mp hf with hf|hf
       ·exact MP f hf
       ·rw[cw.mp hf]
        cases e:H9 lp with
        |none=>rfl
        |some o=>
         rw[CM lp o Vl (Jb lp o Vl e)] at D5;cases D5
    ·rintro σ qO ⟨z9,z10,Fg,rfl,CM,Fh,MP,SA⟩
     rw[←U9,Gx] at Fh;refine⟨_,_,_,_,Fg,rfl,fun c o hc e=>CM c o hc (Jb c o hc e),?_,MP,by lia⟩;rw[xK,hxd,lY];show du qO rg Fg (_++(qu (gZ R (bt ps ts t) oS) x++[]));rw[dA];exact Fh
   ·rintro σ qP ⟨y7,y8,y9,y10,N2,rfl,Jb,Jo,Vp,PM⟩
    rw[aN,Ui,←kh,iK] at Jo;have ahT:bX qP R rd (aM found fresh) (ls++lt):=RA9.but J9 e9 Jb
    exact⟨_,_,_,_,_,rg,ls++lt,N2,rfl,fun c o e=>Jb c o (aq e Kx) (VT _ _ e),fun c xs e=>Zn Jb c xs (a9 s9 c xs (MF c xs e)),Jb _ _ JJ hn9,ahT,Jo,fun f hf z=>by
     obtain⟨_,e⟩:=RA9.al z;rw[Vp f hf] at e;cases e⟩
end
noncomputable def vc(C:Addr)(H:Hp)(a:HA)(m:MW)(d:Addr)(n q:Nat):Prop:=∃ps ts L pk R N rs ws ms cs G kv ns oh,eE C H a m ps ts L pk R N rs ws ms cs G∧bS H R d kv ns oh∧ns.length≤q∧(kv.map (·.1)).Nodup∧R.length+ts.length≤n∧N≤2*n∧(¬d∈a.own)∧¬d∈m.own
section
variable{C:Addr}{H H1 H2:Hp}{a:HA}{m m' :MW}{ps ts:av}{L pk:Nat}{R:Rm}{N:Nat}{rs ws ms oa:aH}{cs:cO}{G:List Nat}{t n:Nat}{r r' wt:Addr}
theorem eE.made(Z:eE C H a m ps ts L pk R N rs ws ms cs G)(mP:ts[t]? =some none)(n1:1≤n)(n6:n≤6)(hle:cu ts R+n≤L)
 (W:aF H1 m' ps ts L (max pk (cu ts R+n)) (R++[(t,n)]) (ws++[wt]) (ms++[r']) (cs++[List.replicate n .bK]) G) (p:GU H m m' H1) (po:∀c∈m.own,c∈m'.own)
 (F:aV C H2 {a with own:=oa} ps ts L (max pk (cu ts R+n)) (R++[(t,n)]) (N+2) (rs++[r]) (cs++[List.replicate n .bK])) (ga:∀c∈oa,c∈a.own∨H1 c=none) (kp:∀c o,¬c∈a.own→H1 c=some o→H2 c=some o) (kt:∀c xs,H1 c=some (.tup xs)→H2 c=some (.tup xs)):
 eE C H2 {a with own:=oa} m' ps ts L (max pk (cu ts R+n)) (R++[(t,n)]) (N+2) (rs++[r]) (ws++[wt]) (ms++[r']) (cs++[List.replicate n .bK]) G∧(∀c∈oa,c∈a.own∨H c=none)∧(∀c∈m'.own,c∈m.own∨H c=none)∧(∀c o,¬c∈a.own→¬c∈m.own→H c=some o→H2 c=some o)∧∀c xs,H c=some (.tup xs)→H2 c=some (.tup xs):=by
 obtain⟨p1,p2,p3,p4⟩:=p;have hW:=Z.G.W.len;have Mu:t<ts.length:=(aS.mp mP).1
 have na:∀c∈m'.own,¬c∈a.own:=fun c hc ha=>by
  rcases p2 c hc with h|h
  ·exact Z.ap c ha h
  ·obtain⟨o,e⟩:=Z.h.al c ha;rw[h] at e;cases e
 have W2:aF H2 m' ps ts L (max pk (cu ts R+n)) (R++[(t,n)]) (ws++[wt]) (ms++[r']) (cs++[List.replicate n .bK]) G:=W.kept fun c o hc e=>kp c o (na c hc) e
 have G7:Good ps ts L (max pk (cu ts R+n)) (R++[(t,n)]):=by
  refine⟨Z.G.W,Z.G.g,fun r hr=> ?_,Z.G.lo,Z.G.hi,by rw[mq R n mP];exact hle,by have:=Z.G.pk;have:=Z.G.hi;lia⟩;rcases cj.mp hr with hr|hr
  ·exact Z.G.rw r hr
  ·simp only[cw] at hr;subst hr;exact⟨n1,n6,by show t<ps.length;lia⟩
 have VG:∀c xs,H c=some (.tup xs)→H2 c=some (.tup xs):=fun c xs e=>kt c xs (p4 c xs e)
 have fr1:∀c,H1 c=none→H c=none∨c∈m.own:=fun c h=>by
  by_cases z:c∈m.own
  ·exact .inr z
  ·cases e:H c with
   |none=>exact .inl rfl
   |some o=>
    rw[p3 c o z e] at h;cases h
 obtain⟨oS,c5⟩:=Z.ok;refine⟨⟨F,W2,G7,by rw[bj,bj,Z.cl];rfl,fun i vs e=> ?_,⟨_,(c5.snoc n6).kt VG⟩,fun c hc z=> ?_⟩,fun c hc=> ?_,p2,fun c o h1 h2 e=>kp c o h1 (p3 c o h2 e),VG⟩
 ·by_cases hi:i<cs.length
  ·rw[bV hi] at e;rw[dv (by rw[←Z.cl];exact hi)];exact Z.cz i vs e
  ·rw[cF (by lia)] at e
   have Hi:i - cs.length=0:=by
    have:=(aS.mp e).1;simp at this
    lia
   rw[Hi] at e;cases e;have:i=R.length:=by rw[←Z.cl];lia
   subst this;rw[wp,jE]
 ·have hc:c∈oa:=hc;rcases ga c hc with h|h
  ·exact na c z h
  ·obtain⟨o,e⟩:=W.al c z;rw[h] at e;cases e
 ·rcases ga c hc with h|h
  ·exact .inl h
  ·rcases fr1 c h with h' |h'
   ·exact .inr h'
   ·obtain⟨o,e⟩:=W.al c (po c h');rw[h] at e;cases e
theorem eE.ae0(Z:eE C H a m ps ts L pk R N rs ws ms cs G){i kk:Nat}(hi:i∈b_ ts R){xs:aA}{v:V}{o:Option Nat}(e2:cs[i]? =some xs)(hv:dI H R v o){H5 H6:Hp}(h5:H5=upd H (ms.getD i 0) (.lst (xs.set kk v)))(s6:ax H5 H6):
 aV C H5 a ps ts L pk R N rs cs∧(∀c ys,H c=some (.tup ys)→H5 c=some (.tup ys))∧eE C (upd H6 (rs.getD i 0) (.lst (xs.set kk v))) a m ps ts L pk R N rs ws ms (cs.set i (xs.set kk v)) G∧(∀c o,¬c∈a.own→¬c∈m.own→H c=some o→upd H6 (rs.getD i 0) (.lst (xs.set kk v)) c=some o)∧∀c ys,H c=some (.tup ys)→upd H6 (rs.getD i 0) (.lst (xs.set kk v)) c=some (.tup ys):=by
 obtain⟨xs',f2,f4,f5⟩:=Z.mo.at_ Z.r1 hi;rw[e2] at f2;cases f2;have Ib:=Z.cz i xs e2;have M5:=Z.mo.put (vs' :=xs.set kk v) hi e2;have im:ms.getD i 0∈m.own:=Z.mo.sub _ (a_ _ (a_ _ (m.FV (ba (cU 0 (by rw[Z.mo.ml];exact cE hi))))))
 have V0:∀c o,¬c∈m.own→H c=some o→H5 c=some o:=fun c o hc e=>by
  rw[h5,af (fun z=>hc (by rw[z];exact im))];exact e
 have LV:∀c ys,H c=some (.tup ys)→H5 c=some (.tup ys):=fun c ys e=>by
  rw[h5,af (aD e f5 (by intro z;cases z))];exact e
 rw[←h5] at M5;have F5:aV C H5 a ps ts L pk R N rs cs:=Z.h.kept fun c o hc e=>V0 c o (Z.ap c hc) e;have F6:=F5.same s6;obtain⟨r1',r2',ys,r3',r4'⟩:=F6.room (cE hi);rw[e2] at r3';cases r3';have F7:=F6.put (vs' :=xs.set kk v) r1' e2
 have M7:aF (upd H6 (rs.getD i 0) (.lst (xs.set kk v))) m ps ts L pk R ws ms (cs.set i (xs.set kk v)) G:=(M5.same s6).kept fun c o hc e=>by
  rw[af (fun z=>Z.ap _ r2' (by rw[←z];exact hc))];exact e
 have El:∀c ys,H c=some (.tup ys)→upd H6 (rs.getD i 0) (.lst (xs.set kk v)) c=some (.tup ys):=fun c ys e=>by
  rw[af (aD (s6 _ _ (LV c ys e)) r4' (by intro z;cases z))];exact s6 _ _ (LV c ys e)
 obtain⟨oS,c4⟩:=Z.ok;refine⟨F5,LV,⟨F7,M7,Z.G,by rw[ij];exact Z.cl,fun j vs e=> ?_,⟨_,(c4.put (k:=kk) e2 hv).kt El⟩,Z.ap⟩,fun c o h1 h2 e=> ?_,El⟩
 ·rw[tF e2] at e;by_cases z:i=j
  ·subst z;rw[aC rfl] at e;cases e;rw[ij];exact Ib
  ·rw[au z] at e;exact Z.cz j vs e
 ·rw[af (fun z=>h1 (by rw[z];exact r2'))];exact s6 _ _ (V0 c o h2 e)
end
section
variable{P:Program}{w:World}{K:Frag}{mg:Str→aQ}{base:Heap}{A:qa}
noncomputable def HN(C:Addr):Sp:=fun vs H Q _=>∃b k a m d n,vs=[.ref b,.ref a.f,.ref m.d,.ref d]∧bO H b k∧k≤90000∧vc C H a m d n 40∧n≤100∧b≠d∧(¬b∈a.own)∧(¬b∈m.own)∧
 ∀a' m' H',vc C H' a' m' d (n+97) 41→a'.f=a.f→m'.d=m.d→(∀c∈a'.own,c∈a.own∨H c=none)→(∀c∈m'.own,c∈m.own∨H c=none)→(∀c o,c≠b→c≠d→¬c∈a.own→¬c∈m.own→H c=some o→H' c=some o)→(∀c xs,H c=some (.tup xs)→H' c=some (.tup xs))→bO H' b (k+400)→Q (.bl true) H'
theorem wO(T:Txt K mg A):bC P w K mg base eC 9 A.o7 A.oM ["_law_box_here","_law_house","_law_world_here","_law_hands_here"] (HN A.ak):=by
 refine T.nT.F.fV cc ?_
 rintro c_ Ar outer s H vs Q E hr ⟨b,k,a,m,d,n,rfl,B,hk,Sc,hn,X9,Aa,zN,q⟩
 have hu:=dy hr;have vt:_+100<cLine:=dR (kH (by decide:100≤16*8+200) _) (by have:=hr.un;omega);refine⟨_,(ah (fG 4 cc.nd (dO (dm T) hr T.cX aE (aX (pv 2)))) (ah (fG 5 cc.nd dh) (ah (fG 6 cc.nd (de a7 (bY (ai (dO (aO T) hr T.aT aE (ai (pv 0) (aX aj))) (aX (bG fF aj (dO (aO T) hr T.aT aE (ai (pv 0) (aX aj))))))) (Dv HM T.Mb Boot.«int» (aX (Io jr (dO (aO T) hr T.aT aE (ai (pv 0) (aX aj))) aj))))) (ah (A2 (eT rfl T.ib (aX (pv 6))) (iO 7 cc.nd) (ah (fG 8 cc.nd (de a7 (pv 4) (dO (aO T) hr T.aT aE (ai (pv 0) (aX (lN bA T.gx Boot.«len» (aX (pv 4)))))))) (ah (bW (xL zD (bG lT (gY hu (pv 2) aR) (dO (l_ T) hr T.jT aE (aX (pv 2)))) aj) (ao (aK gR)) bc) (ah (fG 9 cc.nd (dO (qj T) hr T.my aE (ai (pv 2) (ai (pv 8) (aX aj))))) (ah (bW (xL (gk vt) (nu (pv 1) T.aG T.mK (ql T) hr aE (ai (pv 8) (aX aj))) (pv 9)) (ao (aK gR)) bc) (ah (bW (xL tU (pv 5) dh) (ah (fG 10 cc.nd (dO (aO T) hr T.aT aE (ai (pv 0) (aX aj)))) (ah (oT (pv 9) (n0 (gY hu (gY hu (pv 2) aR) (pv 5)) (pv 10) wT)) (ao (bB (nu (pv 1) T.aG T.nL (uv T) hr aE (ai (pv 5) (ai (pv 10) (aX (pv 9))))))))) (ao (bW (xL Ec (dO (aO T) hr T.aT aE (ai (pv 0) (aX aj))) aj) (ao (lW hu (pv 3) aR (pv 9) rfl)) bc))) (ao (fG 5 cc.nd (pv 9))))))))) (ao (aK gR)))))),?_⟩;obtain⟨ps,ts,L,pk,R,N,rs,ws,ms,cs,G,kv,ns,oh,Z,hd,C9,FH,V2,hN,QN,MA⟩:=Sc;have HE:=Z.G.ts;have hW:=Z.G.W.len;refine⟨_,rfl,m,ps,ts,L,pk,R,ws,ms,cs,G,rfl,Z.mo,by lia,fun st H1 fC s1 Cz=> ?_⟩;have B1:=B.same s1;refine⟨_,rfl,b,7,k,rfl,B1,by lia,by decide,by decide,fun r1 H2 a1 a2 B2 O2=>⟨_,rfl,b,90,k+1,rfl,B2,by lia,by decide,by decide,fun r2 H3 b1 b2 B3 O3=>⟨7,r2,rfl,rfl,(show 2≤sizeLine by decide),fun lp zh=> ?_⟩⟩⟩;have s4:=ax.upd (o:= .lst [V.int r1,V.int (7+r2)]) zh;have e4:upd H3 lp (.lst [V.int r1,V.int (7+r2)]) lp=some (.lst [V.int r1,V.int (7+r2)]):=ae;generalize upd H3 lp (.lst [V.int r1,V.int (7+r2)])=H4 at s4 e4;have nlb:lp≠b:=B3.ne zh;refine⟨_,rfl,b,8,k+2,rfl,B3.same s4,by lia,by decide,by decide,fun r3 H5 c1 c2 B5 O5=>⟨rfl,.inr ⟨_,rfl,?_⟩⟩⟩;refine mv (fun v=>∃many:Nat,v= .int many∧many≤97) (O5.kept _ _ nlb e4) (by split<;>decide) (by show _<(2:Int);split<;>decide) ?_ fun v hv=> ?_
 ·intro x hx;simp only[bq,cR,cV] at hx;rcases hx with rfl|rfl
  ·exact⟨r1.toNat,by congr 1;lia,by lia⟩
  ·exact⟨(7+r2).toNat,by congr 1;lia,by lia⟩
 obtain⟨many,rfl,aaK⟩:=hv;have K5:Kept b H H5:=(((s1.kept.trans O2.kept).trans O3.kept).trans s4.kept).trans O5.kept
 have T4:∀{c:Addr},H5 c=none→H c=none:=fun{c} hc=>by
  cases e:H c with
  |none=>rfl
  |some o=>rw[K5 _ o (B5.ne hc) e] at hc;cases hc
 have nsb:st≠b:=B.ne fC;have hs5:H5 st=some (.lst ((aw ts).map nV)):=(((O2.kept.trans O3.kept).trans s4.kept).trans O5.kept) _ _ nsb Cz;have nsd:st≠d:=fun z=>by rw[z,hd.ob] at fC;cases fC
 have nsa:¬st∈a.own:=fun z=>by
  obtain⟨o,e⟩:=Z.h.al st z;rw[fC] at e;cases e
 have nsm:¬st∈m.own:=fun z=>by
  obtain⟨o,e⟩:=Z.mo.al st z;rw[fC] at e;cases e
 have Z5:eE A.ak H5 a m ps ts L pk R N rs ws ms cs G:=Z.kept (fun c o hc e=>K5 c o (fun z=>by rcases hc with h|h;exact Aa (z▸h);exact zN (z▸h)) e) (C7 K5 B);have Vo:bS H5 R d kv ns oh:=hd.kept (K5 _ _ X9.symm hd.ob) (C7 K5 B)
 have iB:aw ts≠[]:=fun z=>by
  have:0∈aw ts:=cm.mpr (by rw[Z.G.g];rfl);rw[z] at this;cases this
 have Aj:0<(aw ts).length:=mr.mpr iB;have XE:(aw ts).length≤1000:=aY (fJ ts) (by lia);have V5:((aw ts).map nV).length=(aw ts).length:=aN ..;have ae7:∀c xs,H c=some (.tup xs)→H5 c=some (.tup xs):=C7 K5 B
 have fin:∀(H' :Hp) (a' :HA) (m' :MW) (xJ :Nat) (R' :Rm) (N' :Nat) (zY xh zZ :aH) (xv :cO) (ka :bQ) (rf :aJ) (xr :av) (j kk:Nat),eE A.ak H' a' m' ps ts L xJ R' N' zY xh zZ xv G→a'.f=a.f→m'.d=m.d→(∀c∈a'.own,c∈a.own∨H5 c=none)→(∀c∈m'.own,c∈m.own∨H5 c=none)→(∀c o,c≠b→c≠d→¬c∈a.own→¬c∈m.own→H5 c=some o→H' c=some o)→(∀c xs,H5 c=some (.tup xs)→H' c=some (.tup xs))→bO H' b kk→kk≤k+400→bS H' R' d ka rf xr→(ka.map (·.1)).Nodup→rf.length≤41→R'.length≤R.length+j→N'≤N+2*j→j≤97→Q (.bl true) H' :=fun H' a' m' xJ R' N' zY xh zZ xv ka rf xr j kk Z' ef ed ga gm kp kt B' Vf Gg Iu YK hR' hN' hj=>
  q a' m' H' ⟨ps,ts,L,xJ,R',N',zY,xh,zZ,xv,G,ka,rf,xr,Z',Gg,YK,Iu,by lia,by lia,(fun z=>(ga d z).elim QN fun z=>by rw[Vo.ob] at z;cases z),(fun z=>(gm d z).elim MA fun z=>by rw[Vo.ob] at z;cases z)⟩ ef ed (fun c hc=>(ga c hc).imp id T4) (fun c hc=>(gm c hc).imp id T4) (fun c o h1 h2 h3 h4 e=>kp c o h1 h2 h3 h4 (K5 c o h1 e)) (fun c xs e=>kt c xs (ae7 c xs e)) (B'.mono Vf)
 refine⟨_,rfl,(many:Int),rfl,by lia,by lia,?_⟩;rw[cT];refine vp (lo:=0) (n:=many) (fun j σ H' =>∃(x7 x8 x9 uL:Option V) (lv:V) (a' :HA) (m' :MW) (xJ :Nat) (R' :Rm) (N' :Nat) (zY xh zZ :aH) (xv :cO) (ka :bQ) (rf :aJ) (xr :av),σ=[some (.ref b),some (.ref a'.f),some (.ref m'.d),some (.ref d),some (.ref st),some lv,some (.int many),x7,x8,x9,uL]∧eE A.ak H' a' m' ps ts L xJ R' N' zY xh zZ xv G∧a'.f=a.f∧m'.d=m.d∧(∀c∈a'.own,c∈a.own∨H5 c=none)∧(∀c∈m'.own,c∈m.own∨H5 c=none)∧(∀c∈a.own,c∈a'.own)∧(∀c∈m.own,c∈m'.own)∧(∀c o,c≠b→c≠d→¬c∈a.own→¬c∈m.own→H5 c=some o→H' c=some o)∧(∀c xs,H5 c=some (.tup xs)→H' c=some (.tup xs))∧bO H' b (k+3+3*j)∧bS H' R' d ka rf xr∧(ka.map (·.1)).Nodup∧rf.length≤41∧R'.length≤R.length+j∧N'≤N+2*j∧((lv= .bK∧rf.length≤40)∨∃lw i,lv= .ref lw∧i∈b_ ts R'∧(R'.getD i (0,0)).2=2∧H' lw=some (.tup ((fu R' i).map kV)))) ⟨_,_,_,_,.bK,a,m,pk,R,N,rs,ws,ms,cs,kv,ns,oh,rfl,Z5,rfl,rfl,fun c hc=> .inl hc,fun c hc=> .inl hc,fun c hc=>hc,fun c hc=>hc,fun c o _ _ _ _ e=>e,fun c xs e=>e,B5,Vo,FH,by lia,az _,az _,.inl ⟨rfl,C9⟩⟩ ?_ ?_
 ·rintro j σ H6 hj ⟨x7,x8,x9,uL,lv,a',m',xJ,R',N',zY,xh,zZ,xv,ka,rf,xr,rfl,Z6,ef,ed,ga,gm,YY,JY,kp,kt,B6,hd6,G6,Ub,hR6,hN6,hlv⟩
  have MD:=kp _ _ nsb nsd nsa nsm hs5;refine⟨_,rfl,_,rfl,_,rfl,st,_,rfl,.inl (bw.of MD),b,_,k+3+3*j,rfl,B6,by lia,by lia,by lia,fun r H7 r0 rr B7 O7=> ?_⟩;have WO :¬b∈a'.own:=fun z=>(ga b z).elim Aa fun z=>B5.ne z rfl;have acH :¬b∈m'.own:=fun z=>(gm b z).elim zN fun z=>B5.ne z rfl;have Zh :¬d∈a'.own:=fun z=>(ga d z).elim QN fun z=>by rw[Vo.ob] at z;cases z
  have Ts :¬d∈m'.own:=fun z=>(gm d z).elim MA fun z=>by rw[Vo.ob] at z;cases z
  obtain⟨i0,rfl⟩:∃i0:Nat,r=i0:=⟨r.toNat,by lia⟩;have Hi:i0<(aw ts).length:=by lia
  have hit:(aw ts)[i0]? =some (aw ts)[i0]:=by simp[Hi]
  generalize (aw ts)[i0]=t at hit;have mP:ts[t]? =some none:=eq_of_beq (cm.mp (ba hit));refine⟨st,_,i0,.int t,rfl,rfl,bw.of (O7.kept _ _ nsb MD),b9 (by rw[aW,hit];rfl),?_⟩;have kb:∀{H' :Hp},Kept b H6 H'→eE A.ak H' a' m' ps ts L xJ R' N' zY xh zZ xv G:=fun K' =>Z6.kept (fun c o hc e=>K' c o (fun z=>by rcases hc with h|h;exact WO (z▸h);exact acH (z▸h)) e) (C7 K' B6);have Z7:=kb O7.kept;refine⟨_,rfl,m'.d,_,rfl,Z7.mo.getL,_,rfl,m',ps,ts,L,xJ,R',xh,zZ,xv,G,rfl,Z7.mo,Z6.cz,by lia,fun r hr=>(Z6.G.rw r hr).2.1,fun H8 s8=>⟨(L:Int),_,rfl,rfl,_,2,rfl,rfl,_,rfl,?_⟩⟩;have K8:Kept b H6 H8:=O7.kept.trans s8.kept;have Z8:=kb K8;have B8:=B7.same s8;have hd8:bS H8 R' d ka rf xr :=hd6.kept (K8 _ _ X9.symm hd6.ob) (C7 K8 B6);have kp8:∀c o,c≠b→c≠d→¬c∈a.own→¬c∈m.own→H5 c=some o→H8 c=some o:=fun c o h1 h2 h3 h4 e=>K8 c o h1 (kp c o h1 h2 h3 h4 e);have MF:∀c xs,H5 c=some (.tup xs)→H8 c=some (.tup xs):=fun c xs e=>C7 K8 B6 c xs (kt c xs e);refine ny (fun _=>fin H8 a' m' xJ R' N' zY xh zZ xv ka rf xr j _ Z8 ef ed ga gm kp8 MF B8 (by lia) hd8 G6 Ub hR6 hN6 (by lia)) (fun Sf=> ?_);have Sf:¬((L:Int) - (cu ts R' :Nat)<2):=fun z=>Sf (bu z);have hle:cu ts R' +2≤L:=by lia
  refine⟨_,rfl,_,rfl,m',ps,ts,L,xJ,R',xh,zZ,xv,G,t,2,rfl,Z8.mo,hW,by lia,by lia,Z6.cl,Z6.cz,fun r hr=>⟨(Z6.G.rw r hr).1,(Z6.G.rw r hr).2.1⟩,mP,by decide,by decide,fun NP wt r' H9 W9 p9 po IZ=> ?_⟩;have F9:aV A.ak H9 a' ps ts L xJ R' N' zY xv :=Z8.h.kept fun c o hc e=>p9.2.2.1 c o (Z6.ap c hc) e;obtain⟨dx,ho⟩:=F9.ob;refine⟨_,rfl,a'.f,dx,_,rfl,ho,a8 (by decide+kernel),_,rfl,a',ps,ts,L,xJ,R',N',zY,xv,t,2,rfl,F9,Z6.cl,Z6.G,mP,by decide,by decide,by lia,by lia,hle,fun oa r1 qP l F10 sa ai6 aik D2 FN aiG=>⟨_,rfl,eR t (bU R' t),eR t (bU R' t),.tup aiG (.cons (.int _) (.cons (.int _) .nil)),.tup (D2 _ _ IZ) (.cons (.int _) (.cons (.int _) .nil)),mH _ _,mH _ _,GH _ _,_,rfl,?_⟩⟩;rw[PySem.Spec.same_self];refine cQ ?_;obtain⟨Z10,go,gmo,kpo,kto⟩:=Z8.made mP (by decide) (by decide) hle W9 p9 po F10 ai6 aik D2;have Vq :NP.d=m'.d:=p9.1
  have F_:qP wt=some (.tup ((fu (R' ++[(t,2)]) R'.length).map kV)):=by
   have e1:((R' ++[(t,2)]).getD R'.length (0,0)).1=t:=by rw[wp]
   unfold fu;rw[e1,iq];exact D2 _ _ IZ
  have Eh:bS qP (R' ++[(t,2)]) d ka rf xr :=(hd8.kept (kpo d _ Zh Ts hd8.ob) kto).app _;have B10:bO qP b (k+3+3*j+1):=B8.kept fun o e=>kpo b o WO acH e
  have zu:∀{c:Addr},H8 c=none→H5 c=none:=fun{c} h=>by
   cases e:H5 c with
   |none=>rfl
   |some o=>
    exfalso;by_cases z1:c=b
    ·exact B8.ne (z1▸h) rfl
    ·by_cases z2:c=d
     ·rw[z2,hd8.ob] at h;cases h
     ·by_cases z3:c∈a.own
      ·obtain⟨o',e'⟩:=Z8.h.al c (YY c z3);rw[h] at e';cases e'
      ·by_cases z4:c∈m.own
       ·obtain⟨o',e'⟩:=Z8.mo.al c (JY c z4);rw[h] at e';cases e'
       ·rw[kp8 c o z1 z2 z3 z4 e] at h;cases h
  have V3 :∀c∈oa,c∈a.own∨H5 c=none:=fun c hc=>(go c hc).elim (ga c) fun h=> .inr (zu h);have Wb :∀c∈NP.own,c∈m.own∨H5 c=none:=fun c hc=>(gmo c hc).elim (gm c) fun h=> .inr (zu h)
  have Ks :∀c o,c≠b→c≠d→¬c∈a.own→¬c∈m.own→H5 c=some o→qP c=some o:=fun c o h1 h2 h3 h4 e=>by
   refine kpo c o (fun z=> ?_) (fun z=> ?_) (kp8 c o h1 h2 h3 h4 e)
   ·rcases ga c z with z|z
    ·exact h3 z
    ·rw[e] at z;cases z
   ·rcases gm c z with z|z
    ·exact h4 z
    ·rw[e] at z;cases z
  have KN :∀c xs,H5 c=some (.tup xs)→qP c=some (.tup xs):=fun c xs e=>kto c xs (MF c xs e);have Tt:¬b∈oa:=fun z=>(V3 b z).elim Aa fun z=>B5.ne z rfl;have TU:¬b∈NP.own:=fun z=>(Wb b z).elim zN fun z=>B5.ne z rfl;have aaf:¬d∈oa:=fun z=>(V3 d z).elim QN fun z=>by rw[Vo.ob] at z;cases z
  have abr:¬d∈NP.own:=fun z=>(Wb d z).elim MA fun z=>by rw[Vo.ob] at z;cases z
  have Qd:R'.length∈b_ ts (R' ++[(t,2)]):=fk (by rw[bj];exact xY _) (by rw[wp];exact mP);have ajM:(R' ++[(t,2)]).length=R'.length+1:=by rw[bj];rfl
  have vI:dI qP (R' ++[(t,2)]) (.ref wt) (some R'.length):= .inr ⟨_,wt,rfl,rfl,by lia,F_⟩;refine⟨_,rfl,rfl,_,rfl,?_⟩;rcases hlv with⟨rfl,YX⟩|⟨lw,i,rfl,hi,aiT,hlw⟩
  ·rw[bu (rfl:V.bK=V.bK)];refine cQ ?_;refine⟨_,rfl,b,3,k+3+3*j+1,rfl,B10,by lia,by decide,by decide,fun r3 qO _ _ B11 O11=>⟨_,0,rfl,rfl,_,rfl,?_⟩⟩;have CM:=O11.kept;have kF:=C7 CM B10;have NX:=Z10.kept (H' :=qO) (fun c o hc e=>CM c o (fun z=>by rcases hc with h|h;exact Tt (z▸h);exact TU (z▸h)) e) kF;have aL:bS qO (R' ++[(t,2)]) d ka rf xr :=Eh.kept (CM _ _ X9.symm Eh.ob) kF;refine ny (fun _=> ?_) (fun _=> ?_)
   ·have Fb:ka.length≤40:=by rw[aL.ln];exact YX
    refine⟨_,rfl,_,rfl,d,_,rfl,u6.k (k:= .inr "chain") aL.ob (dR Fb (by decide)),_,rfl,?_⟩;have zh:=d_ ka (.inr "chain") (.ref wt)
    have rQ:∀c xs,qO c=some (.tup xs)→upd qO d (.dK (wv ka (.inr "chain") (.ref wt))) c=some (.tup xs):=fun c xs e=>by
     rw[af (aD e aL.ob (by intro z;cases z))];exact e
    obtain⟨ns2,oh2,VZ⟩:=bS.of (H:=upd qO d (.dK (wv ka (.inr "chain") (.ref wt)))) (R:=R' ++[(t,2)]) (d:=d) ae (Gm (fun p hp=>by
     obtain⟨jj,hjj⟩:=dz.mp hp;obtain⟨e1,e2,e3⟩:=aL.at_ jj p.1 p.2 hjj;exact⟨_,_,e1,e2,e3.kt rQ⟩) ⟨"chain",some R'.length,rfl,by decide+kernel,(vI.kt kF).kt rQ⟩)
    have u_:=VZ.ln;refine⟨_,_,_,_,_,{a' with own:=oa},NP,_,_,_,_,_,_,_,_,ns2,oh2,by rw[Vq];rfl,NX.kept (fun c o hc e=>by rw[af (fun z=>by rcases hc with h|h;exact aaf (z▸h);exact abr (z▸h))];exact e) rQ,ef,Vq.trans ed,V3,Wb,fun c hc=>sa c (YY c hc),fun c hc=>po c (JY c hc),fun c o h1 h2 h3 h4 e=>by rw[af h2];exact CM c o h1 (Ks c o h1 h2 h3 h4 e),fun c xs e=>rQ c xs (kF c xs (KN c xs e)),?_,VZ,JT G6,by lia,by lia,by lia,.inr ⟨wt,R'.length,rfl,Qd,by rw[wp],rQ _ _ (kF _ _ F_)⟩⟩;refine bO.mono (B11.kept fun o e=> ?_) (by lia:k+3+3*j+1+1≤k+3+3*(j+1));rw[af X9];exact e
   ·refine⟨_,rfl,_,_,_,_,_,{a' with own:=oa},NP,_,_,_,_,_,_,_,_,rf,xr,by rw[Vq];rfl,NX,ef,Vq.trans ed,V3,Wb,fun c hc=>sa c (YY c hc),fun c hc=>po c (JY c hc),fun c o h1 h2 h3 h4 e=>CM c o h1 (Ks c o h1 h2 h3 h4 e),fun c xs e=>kF c xs (KN c xs e),B11.mono (by lia),aL,G6,by lia,by lia,by lia,.inr ⟨wt,R'.length,rfl,Qd,by rw[wp],kF _ _ F_⟩⟩
  ·rw[eZ (by intro z;cases z)];refine eN ?_;have xj:i<R'.length:=cE hi;have C6 :i∈b_ ts (R' ++[(t,2)]):=fk (by lia) (by rw[dv xj];exact lX hi)
   have Q1:qP lw=some (.tup ((fu (R' ++[(t,2)]) i).map kV)):=by
    unfold fu;rw[dv xj,eU xj];exact kto _ _ (C7 K8 B6 _ _ hlw)
   refine⟨_,rfl,b,2,k+3+3*j+1,rfl,B10,by lia,by decide,by decide,fun r3 qO c1 c2 B11 O11=> ?_⟩;obtain⟨kk,rfl⟩:∃kk:Nat,r3=kk:=⟨r3.toNat,by lia⟩;have CM:=O11.kept;have kF:=C7 CM B10;have NX:=Z10.kept (H' :=qO) (fun c o hc e=>CM c o (fun z=>by rcases hc with h|h;exact Tt (z▸h);exact TU (z▸h)) e) kF;obtain⟨xs,ec,e4,e5⟩:=NX.mo.atW NX.r1 C6 (kF _ _ Q1);have Ib:xs.length=2:=by rw[NX.cz i xs ec,dv xj];exact aiT
   have Vf:kk<xs.length:=by lia
   refine⟨_,rfl,_,rfl,NP.d,_,?_,NX.mo.BQ,_,rfl,NP.ca,_,rfl,e4,_,rfl,_,xs,_,kk,rfl,rfl,e5,pN Vf,?_⟩
   ·rw[Vq]
   have pv:=fun(MM:Hp) (Kd:ax _ MM)=>NX.ae0 (kk:=kk) C6 ec (vI.kt kF) rfl Kd;have F12:=(pv _ (ax.refl _)).1;have rQ:=(pv _ (ax.refl _)).2.1;obtain⟨dx2,VB⟩:=F12.ob;refine⟨_,rfl,a'.f,dx2,_,rfl,VB,a8 (by decide+kernel),_,rfl,_,rfl,_,rfl,{a' with own:=oa},ps,ts,L,_,_,_,_,_,i,lw,xs,kk,.ref wt,rfl,F12,NX.r1,hW,⟨cE C6,lX C6,rQ _ _ (kF _ _ Q1)⟩,ec,Vf,((vI.kt kF).kt rQ).valAt,fun MM Kd=> ?_⟩;obtain⟨_,_,Z14,Vv,SX⟩:=pv MM Kd;have aL:bS qO (R' ++[(t,2)]) d ka rf xr :=Eh.kept (CM _ _ X9.symm Eh.ob) kF;refine⟨_,rfl,_,_,_,_,_,{a' with own:=oa},NP,_,_,_,_,_,_,_,ka,rf,xr,by rw[Vq];rfl,Z14,ef,Vq.trans ed,V3,Wb,fun c hc=>sa c (YY c hc),fun c hc=>po c (JY c hc),fun c o h1 h2 h3 h4 e=> ?_,fun c xs e=>SX c xs (kF c xs (KN c xs e)),(B11.kept fun o e=>Vv b o Tt TU e).mono (by lia),aL.kept (Vv d _ aaf abr aL.ob) SX,G6,by lia,by lia,by lia,.inr ⟨wt,R'.length,rfl,Qd,by rw[wp],SX _ _ (kF _ _ F_)⟩⟩;refine Vv c o (fun z=> ?_) (fun z=> ?_) (CM c o h1 (Ks c o h1 h2 h3 h4 e))
   ·rcases V3 c z with z|z
    ·exact h3 z
    ·rw[e] at z;cases z
   ·rcases Wb c z with z|z
    ·exact h4 z
    ·rw[e] at z;cases z
 ·rintro σ H6 ⟨x7,x8,x9,uL,lv,a',m',xJ,R',N',zY,xh,zZ,xv,ka,rf,xr,rfl,Z6,ef,ed,ga,gm,YY,JY,kp,kt,B6,hd6,G6,Ub,hR6,hN6,hlv⟩
  exact fin H6 a' m' xJ R' N' zY xh zZ xv ka rf xr many _ Z6 ef ed ga gm kp kt B6 (by lia) hd6 G6 Ub hR6 hN6 aaK
end
noncomputable def DL(R:Rm)(ns:aJ)(oh:av)(y:Nat×PyData):Prop:=∃j,j<ns.length∧oh.getD j none=some y.1∧y.2= .tuple [.str "hand",.str (ns.getD j ""),wD R (some y.1)]
noncomputable def oF(R:Rm)(oS:Nat→av)(h:Nat)(y:Nat×PyData):Prop:=∃k:Nat,k<(oS h).length∧(oS h).getD k none=some y.1∧y.2= .tuple [.str "room",wD R (some h),.int (k:Int),wD R (some y.1)]
noncomputable def IA(ts:av)(R:Rm)(ns:aJ)(oh:av)(oS:Nat→av)(y:Nat×PyData):Prop:=DL R ns oh y∨∃h,h<R.length∧ts[(R.getD h (0,0)).1]? =some none∧oF R oS h y
structure ko(ts:av)(R:Rm)(S:List Nat)(ns:aJ)(oh:av)(oS:Nat→av)(x:Rw)(p:List (Nat×PyData)):Prop where
 eq:x.2=p.map (·.2)
 fst:∃y,p[0]? =some y∧IA ts R ns oh oS y
 Iq:∀(j:Nat) y z,p[j]? =some y→p[j+1]? =some z→oF R oS y.1 z
 lst:∃y,p[p.length - 1]? =some y∧y.1=x.1
 all:∀y∈p,y.1<R.length∧(R.getD y.1 (0,0)).1∈S
theorem Bf{R:Rm}{S:List Nat}{oS:Nat→av}{h:Nat}:∀y∈gZ R S oS h,oF R oS h y:=by
 intro y hy;obtain⟨k,hk,rfl⟩:=bM.mp hy;obtain⟨i,e,hi⟩:=pq (cA.mp hk).2;refine⟨k,dg.mp (cA.mp hk).1,?_,?_⟩
 ·show(oS h).getD k none=some (tg ((oS h).getD k none));rw[e];rfl
 ·show PyData.tuple [_,_,_,wD R ((oS h).getD k none)]=PyData.tuple [_,_,_,wD R (some (tg ((oS h).getD k none)))];rw[e];rfl
theorem Hh{R:Rm}{S:List Nat}{ns:aJ}{oh:av}:∀y∈Gq R S ns oh,DL R ns oh y:=by
 intro y hy;obtain⟨k,hk,rfl⟩:=bM.mp hy;obtain⟨i,e,hi⟩:=pq (cA.mp hk).2;refine⟨k,dg.mp (cA.mp hk).1,?_,?_⟩
 ·show oh.getD k none=some (tg (oh.getD k none));rw[e];rfl
 ·show PyData.tuple [_,_,wD R (oh.getD k none)]=PyData.tuple [_,_,wD R (some (tg (oh.getD k none)))];rw[e];rfl
theorem Kn.Yt{ts:av}{R:Rm}{S:List Nat}{ns:aJ}{oh:av}{oS:Nat→av}(kn:Kn R ns oh oS):∀x∈wn ts R S ns oh oS,∃p,ko ts R S ns oh oS x p:=by
 intro x hx;obtain⟨y,hy,rfl⟩:=bM.mp hx;have lk:=kn.UR y hy;refine⟨[y],rfl,⟨y,rfl,?_⟩,fun j a b _ e=>by simp at e,⟨y,rfl,rfl⟩,fun z hz=>by rw[cw.mp hz];exact⟨lk.lt,lk.fr⟩⟩;rcases cj.mp hy with hy|hy
 ·exact .inl (Hh y hy)
 ·obtain⟨i,hi,hy⟩:=j8.mp hy;obtain⟨n,hn,z_⟩:=j8.mp hi;refine .inr ⟨i,eO z_,?_,Bf y hy⟩;rw[gU z_];exact eq_of_beq (cm.mp (cA.mp hn).1)
theorem ko.ex{ts:av}{R:Rm}{S:List Nat}{ns:aJ}{oh:av}{oS:Nat→av}(kn:Kn R ns oh oS){x:Rw}{p:List (Nat×PyData)}(h:ko ts R S ns oh oS x p):∀y∈qu (gZ R S oS) x,∃p,ko ts R S ns oh oS y p:=by
 intro y hy;obtain⟨z,hz,rfl⟩:=bM.mp hy;obtain⟨f,f1,f2⟩:=h.fst;obtain⟨l,l1,l2⟩:=h.lst;have ma:0<p.length:=(aS.mp f1).1
 have hx1:x.1<R.length:=by
  rw[←l2];exact(h.all l (ba l1)).1
 have lk:=kn.sc hx1 z hz;refine⟨p++[z],?_,⟨f,by rw[bV ma];exact f1,f2⟩,fun j a b e1 e2=> ?_,⟨z,?_,rfl⟩,fun a ha=> ?_⟩
 ·show x.2++[z.2]=(p++[z]).map (·.2);rw[cg,←h.eq];rfl
 ·by_cases hj:j+1<p.length
  ·rw[bV hj] at e2;rw[bV (by lia)] at e1;exact h.Iq j a b e1 e2
  ·have hj2:=(aS.mp e2).1;rw[bj] at hj2;have hj2:j+1<p.length+1:=hj2;have hj3:j=p.length - 1:=by lia
   rw[cF (by lia),show j+1 - p.length=0 by lia] at e2;cases e2;rw[bV (by lia),hj3,l1] at e1;cases e1;rw[l2];exact Bf _ hz
 ·rw[bj,show p.length+[z].length - 1=p.length from rfl,cF (az _),pP];rfl
 ·rcases cj.mp ha with ha|ha
  ·exact h.all a ha
  ·rw[cw.mp ha];exact⟨lk.lt,lk.fr⟩
theorem D0.path{ts:av}{R:Rm}{S:List Nat}{ns:aJ}{oh:av}{oS:Nat→av}(kn:Kn R ns oh oS){acc:List Rw}(h:D0 (gZ R S oS) (aM [] (wn ts R S ns oh oS)) acc):∀x∈acc,∃p,ko ts R S ns oh oS x p:=by
 obtain⟨k,rfl,_⟩:=h;exact yC (q:=fun x=>∃p,ko ts R S ns oh oS x p) (gj (fun y hy=>by cases hy) kn.Yt) (fun x ⟨p,hp⟩=>hp.ex kn) k
theorem td3{H:Hp}{v:V}{a b c:PyData}(h:dZ H v (.tuple [a,b,c])):∃p x y z,v= .ref p∧H p=some (.tup [x,y,z])∧dZ H x a∧dZ H y b∧dZ H z c:=by
 cases h with
 |tup e t=>
  cases t with
  |cons h1 t=>
   cases t with
   |cons h2 t=>
    cases t with
    |cons h3 t=>
     cases t;exact⟨_,_,_,_,rfl,e,h1,h2,h3⟩
theorem td4{H:Hp}{v:V}{a b c d:PyData}(h:dZ H v (.tuple [a,b,c,d])):∃p x y z u,v= .ref p∧H p=some (.tup [x,y,z,u])∧dZ H x a∧dZ H y b∧dZ H z c∧dZ H u d:=by
 cases h with
 |tup e t=>
  cases t with
  |cons h1 t=>
   cases t with
   |cons h2 t=>
    cases t with
    |cons h3 t=>
     cases t with
     |cons h4 t=>
      cases t;exact⟨_,_,_,_,_,rfl,e,h1,h2,h3,h4⟩
theorem BN{H:Hp}{v:V}{x:Str}(h:dZ H v (.str x)):v= .str x:=by
 cases h;rfl
theorem JK{H:Hp}{v:V}{i:Int}(h:dZ H v (.int i)):v= .int i:=by
 cases h;rfl
theorem KQ{H:Hp}{R:Rm}{i:Nat}{v:V}(h:dZ H v (wD R (some i))):∃wa,v= .ref wa∧H wa=some (.tup ((fu R i).map kV)):=by
 have h:dZ H v (.tuple [.int (R.getD i (0,0)).1,.int (br R i)]):=h
 cases h with
 |tup e2 t2=>
  cases t2 with
  |cons a1 t3=>
   cases t3 with
   |cons a2 t4=>
    cases t4;cases a1;cases a2;exact⟨_,rfl,e2⟩
theorem NR{kv:bQ}(hn:(kv.map (·.1)).Nodup){j:Nat}{k:ww}{v:V}(e:kv[j]? =some (k,v)):bR kv k=some v:=by
 induction kv generalizing j with
 |nil=>simp at e
 |cons p r ih=>
  rw[cy,fq] at hn
  cases j with
  |zero=>
   cases e;exact cZ rfl
  |succ j=>
   have e:r[j]? =some (k,v):=e;rw[cL fun z=>hn.1 (by rw[z];exact List.mem_map_of_mem (ba e))];exact ih hn.2 e
theorem LI{K:Frag}{a b:Addr}{xs ys:aA}{g:TG}{tb:TS}{D:Ends}{σ:L2.St}{H:Hp}(Pv:Nat→L2.St→Hp→Prop)(he:ys.length≤xs.length)(h0:Pv 0 σ H)(hl:∀i σ H,Pv i σ H→bw K H a xs∧bw K H b ys)
 (hs:∀i x y T σ H,xs[i]? =some x→ys[i]? =some y→Pv i σ H→H T=none→g (.ref T) σ (upd H T (.tup [x,y])) fun iy H2=>tb {D with nx:=Pv (i+1),ct:=Pv (i+1),bk:=D.nx} iy H2) (hd:∀σ H,Pv ys.length σ H→D.nx σ H):
 ∃W:Nat→Nat→L2.St→Hp→Prop,(∃m,W 0 m σ H)∧∀i m σ H,W i m σ H→
  ((Itz K a b).stop i H∧D.nx σ H)∨((Itz K a b).go i H∧∃N:L2.St→Hp→Prop,(∀c9 H',N c9 H'→∃m',m' <m∧W (i+1) m' c9 H')∧∀x H',(Itz K a b).vC i H x H'→g x σ H' fun iy H2=>tb {D with nx:=N,ct:=N,bk:=D.nx} iy H2):=by
 refine⟨fun i m σ H=>m=ys.length - i∧i≤ys.length∧Pv i σ H,⟨ys.length,by simp,cB _,h0⟩,?_⟩
 rintro i m σ H ⟨rfl,hi,p⟩
 obtain⟨q1,q2⟩:=hl i σ H p;by_cases dS:i<ys.length
 ·refine .inr ⟨⟨xs,ys,xs[i]'(by lia),ys[i],q1,q2,by simp,by simp⟩,Pv (i+1),fun c9 H' p' =>⟨ys.length - (i+1),by lia,rfl,dS,p'⟩,fun x H' y=> ?_⟩;obtain⟨T,x,y,rfl,hT,rfl,h1,h2⟩:=y;exact hs i x y T σ H (h1 xs q1) (h2 ys q2) p hT
 ·have e:i=ys.length:=by lia
  subst e;exact .inl ⟨⟨xs,ys,q1,q2,.inr (az _)⟩,hd σ H p⟩
theorem Q5(x:Str):(!decide (V.str x=V.str x))=false:=by rw[bu rfl];rfl
theorem ko.la{ts:av}{R:Rm}{S:List Nat}{ns:aJ}{oh:av}{oS:Nat→av}{x:Rw}{p:List (Nat×PyData)}(h:ko ts R S ns oh oS x p){j:Nat}{y:Nat×PyData}(e:p[j]? =some y):∃pre,y.2= .tuple (pre++[wD R (some y.1)]):=by
 have lk:∀{h' :Nat} {y:Nat×PyData},oF R oS h' y→∃pre,y.2= .tuple (pre++[wD R (some y.1)]):=fun{h' y} ⟨k,_,_,e⟩=>⟨[.str "room",wD R (some h'),.int (k:Int)],e⟩
 cases j with
 |zero=>
  obtain⟨f,f1,f2⟩:=h.fst;rw[f1] at e;cases e;rcases f2 with⟨j,_,_,e⟩|⟨h',_,_,f3⟩
  ·exact⟨[.str "hand",.str (ns.getD j "")],e⟩
  ·exact lk f3
 |succ j=>
  have hj:=(aS.mp e).1;exact lk (h.Iq j (p[j]'(by lia)) y (by simp) e)
theorem Jm{xs:aA}(h:xs≠[]):wJ xs (some 1) none=xs.drop 1:=by
 have Aj:0<xs.length:=mr.mpr h
 have e:HT.Cm xs.length 0 (some 1)=1:=by
  rw[show(1:Int)=((1:Nat):Int) from rfl,HT.Gk]
  lia
 unfold wJ;rw[e,HT.Jk,xR (by rw[kh];exact az _)]
noncomputable def FG(H:Hp)(m:MW)(d rl:Addr):Prop:=∃(ps ts:av) (L top:Nat) (R:Rm) (ws ms:aH) (cs:cO) (G:List Nat) (oS:Nat→av) (kv:bQ) (ns:aJ) (oh:av) (S:List Nat) (x:Rw) (p:List (Nat×PyData)) (xs:aA),aF H m ps ts L top R ws ms cs G∧(∀r∈R,1≤r.2)∧e_ H R cs oS∧bS H R d kv ns oh∧(kv.map (·.1)).Nodup∧(∀n∈S,ts[n]? =some none)∧H rl=some (.lst xs)∧bp H xs x.2∧ko ts R S ns oh oS x p
noncomputable def Rc:TS:=fun D σ H=>∃(m:MW) (d rl:Addr) (x3 x4:Option V),σ=[some (.ref m.d),some (.ref d),some (.ref rl),x3,x4]∧FG H m d rl∧∀H',ax H H'→D.rt (.bl true) H'
section
variable{P:Program}{w:World}{K:Frag}{mg:Str→aQ}{base:Heap}{A:qa}
noncomputable def Ng:Sp:=fun vs H Q _=>∃m d rl,vs=[.ref m.d,.ref d,.ref rl]∧FG H m d rl∧∀H',ax H H'→Q (.bl true) H'
theorem Az(T:Txt K mg A):bC P w K mg base eC 1 A.rO A.r_ ["_law_world_here","_law_hands_here","_law_row_here"] Ng:=by
 refine T.rN.F.fV kE ?_
 rintro c_ Ar outer s H vs Q E hr ⟨m,d,rl,rfl,cx,q⟩
 have hu:=dy hr;have vt:_+100<cLine:=dR (kH (by decide:100≤16*0+200) _) (by have:=hr.un;omega);refine⟨_,(ah (bW (xL jr (de bH (de a7 (pv 2) aj) aj) aR) (ao (bW (xL (gk vt) (gY hu (pv 1) (de bH (de a7 (pv 2) aj) aj)) (de bH (de a7 (pv 2) aj) aj)) (ao (aK gR)) bc)) (ao (bW (xL (gk vt) (de a7 (gY hu (gY hu (pv 0) aR) (de bH (de a7 (pv 2) aj) aj)) (de bH (de a7 (pv 2) aj) aj)) (de bH (de a7 (pv 2) aj) aj)) (ao (aK gR)) bc))) (jW (Rc) (ah (A2 (T6 rfl T.WT (ai (pv 2) (aX (lq FR (pv 2) (i5 aj) pT)))) (EF rfl (eS (iO 3 kE.nd) (eS (iO 4 kE.nd) pD))) (ao (bW (PW.pt (jad (xL SO (de bH (pv 4) aj) aR) (jad (xL (gk vt) (de bH (pv 4) aj) (de bH (pv 3) (gC eD aj))) (jab (xL (gk vt) (de a7 (gY hu (gY hu (pv 0) aR) (de bH (pv 4) aj)) (de bH (pv 4) aj)) (de bH (pv 4) aj)))))) (ao (aK gR)) bc))) (ao (aK gR))) ?agj)),?_⟩
 case agj=>
  rintro D σ H ⟨m,d,rl,x3,x4,rfl,cx,q⟩
  obtain⟨ps,ts,L,top,R,ws,ms,cs,G,oS,kv,ns,oh,S,x,p,xs,Wd,kz,hC,hd,FH,Fe,yU,td,px⟩:=cx;have ma:xs.length=p.length:=by rw[td.len,px.eq,aN]
  obtain⟨y0,hy0,_⟩:=px.fst;have ZO:=(aS.mp hy0).1;have iB:xs≠[]:=fun z=>by rw[z] at ma;simp at ma;lia
  refine⟨_,rfl,_,rfl,1,rfl,rl,_,rfl,bw.of yU,fun sp MJ=> ?_⟩;rw[Jm iB];have s1:=ax.upd (o:= .lst (xs.drop 1)) MJ;have e1:upd H sp (.lst (xs.drop 1)) sp=some (.lst (xs.drop 1)):=ae;generalize upd H sp (.lst (xs.drop 1))=H1 at s1 e1;refine⟨rl,sp,rfl,⟨_,s1 _ _ yU⟩,⟨_,e1⟩,?_⟩;refine LI (K:=K) (a:=rl) (b:=sp) (xs:=xs) (ys:=xs.drop 1) (fun i σ H' =>∃(x3 x4:Option V),σ=[some (.ref m.d),some (.ref d),some (.ref rl),x3,x4]∧ax H1 H') (by rw[kh];lia) ⟨_,_,rfl,ax.refl H1⟩ ?_ ?_ ?_
  ·rintro i σ H' ⟨x3,x4,rfl,s'⟩
   exact⟨bw.of (s' _ _ (s1 _ _ yU)),bw.of (s' _ _ e1)⟩
  ·rintro i v u T' σ H2 hv hu' ⟨x3,x4,rfl,s2⟩ hT
   have s3:=ax.upd (o:= .tup [v,u]) hT;have e3:upd H2 T' (.tup [v,u]) T' =some (.tup [v,u]):=ae;generalize upd H2 T' (.tup [v,u])=H3 at s3 e3;have GD:ax H H3:=(s1.trans s2).trans s3;refine⟨T',_,rfl,gg.of e3,rfl,_,_,rfl,_,_,rfl,rfl,?_⟩;rw[tX,Nat.add_comm] at hu'
   have hi1:i+1<p.length:=by
    rw[←ma];exact(aS.mp hu').1
   have XB:p[i]? =some (p[i]'(by lia)):=by simp
   have hpj:p[i+1]? =some p[i+1]:=by simp[hi1]
   have ls:=px.Iq i _ _ XB hpj;obtain⟨pre,ep⟩:=px.la XB;have ha1:=(px.all _ (ba XB));generalize p[i]'(by lia)=y at XB ls ep ha1;generalize p[i+1]=z at hpj ls;have tv:dZ H3 v y.2:=(td.get hv (by rw[px.eq,aW,XB];rfl)).kt (a9 GD);have tu:dZ H3 u z.2:=(td.get hu' (by rw[px.eq,aW,hpj];rfl)).kt (a9 GD);obtain⟨k,hk,bE,ez⟩:=ls;obtain⟨aa,zs,wa,rfl,ea,ew⟩:=pA (ep▸tv);obtain⟨bb,b1,b2,b3,b4,rfl,eb,t1,t2,t3,t4⟩:=td4 (ez▸tu);have PV:=BN t1;have N8:=JK t3;subst PV N8;obtain⟨wb,rfl,ewb⟩:=KQ t2;have ly:=zF (R.getD y.1 (0,0)).1 (br R y.1);have lz:=zF (R.getD z.1 (0,0)).1 (br R z.1);refine⟨_,rfl,bb,_,0,_,rfl,rfl,gg.of eb,rfl,rfl,_,rfl,?_⟩;rw[Q5];refine cQ ⟨_,rfl,bb,_,1,_,rfl,rfl,gg.of eb,rfl,_,rfl,1,rfl,aa,_,_,_,rfl,rfl,gg.of ea,c7 zs _,wD R (some y.1),wD R (some y.1),(iI ewb).dat,(iI ew).dat,ly.shaped (by decide),ly.shaped (by decide),ly.mix,_,rfl,?_⟩;rw[PySem.Spec.same_self];have W3:=Wd.same GD;obtain⟨vs,ec,e4,e5⟩:=W3.atW kz (fk ha1.1 (Fe _ ha1.2)) ewb;obtain⟨c6,U9,Nr⟩:=(hC.kt (a9 GD)) y.1 vs ec;have Ag:vs[k]? =some (vs[k]'(by lia)):=by simp
   have hvi:=Nr k _ Ag;rw[bE] at hvi;refine cQ ⟨_,rfl,m.d,_,rfl,W3.BQ,_,rfl,bb,_,1,_,rfl,rfl,gg.of eb,rfl,m.ca,_,rfl,e4,_,rfl,bb,_,2,_,rfl,rfl,gg.of eb,rfl,ms.getD y.1 0,_,k,_,rfl,rfl,bw.of e5,b9 Ag,_,rfl,bb,_,3,_,rfl,rfl,gg.of eb,rfl,wD R (some z.1),wD R (some z.1),hvi.td.dat,t4.dat,lz.shaped (by decide),lz.shaped (by decide),lz.mix,_,rfl,?_⟩;rw[PySem.Spec.same_self];exact cQ ⟨_,_,rfl,s2.trans s3⟩
  ·rintro σ H2 ⟨x3,x4,rfl,s2⟩
   exact q H2 (s1.trans s2)
 have cx' :=cx;obtain⟨ps,ts,L,top,R,ws,ms,cs,G,oS,kv,ns,oh,S,x,p,xs,Wd,kz,hC,hd,FH,Fe,yU,td,px⟩:=cx';have go:Rc {nx:=fun _ H' =>Q .bK H',rt:=Q} [some (.ref m.d),some (.ref d),some (.ref rl),none,none] H:=⟨m,d,rl,_,_,rfl,cx,q⟩;obtain⟨y0,hy0,hf⟩:=px.fst;have ZO:=(aS.mp hy0).1;have JF:xs[0]? =some (xs[0]'(by rw[td.len,px.eq,aN];exact ZO)):=by simp
 have t0:dZ H _ y0.2:=td.get JF (by rw[px.eq,aW,hy0];rfl);generalize xs[0]'(by rw[td.len,px.eq,aN];exact ZO)=v0 at JF t0;have ly:=zF (R.getD y0.1 (0,0)).1 (br R y0.1);rcases hf with⟨j,hj,hoj,ey⟩|⟨h,hh,fC,k,hk,bE,ey⟩
 ·obtain⟨aa,b1,b2,b3,rfl,ea,t1,t2,t3⟩:=td3 (ey▸t0);have PV:=BN t1;have hb2:=BN t2;subst PV hb2;refine⟨_,rfl,rl,_,0,_,rfl,rfl,bw.of yU,b9 JF,aa,_,0,_,rfl,rfl,gg.of ea,rfl,rfl,_,rfl,?_⟩;rw[bu (rfl:V.str "hand"=V.str "hand")];refine eN ?_;have TR:j<kv.length:=by rw[hd.ln];exact hj
  have Ag:kv[j]? =some (kv[j].1,kv[j].2):=by simp[TR]
  obtain⟨f1,f2,f3⟩:=hd.at_ j _ _ Ag;rw[hoj] at f3;have g:=dq.k (k:= .inr (ns.getD j "")) hd.ob;rw[NR FH (f1▸Ag)] at g;refine⟨_,rfl,_,rfl,rl,_,0,_,rfl,rfl,bw.of yU,b9 JF,aa,_,1,_,rfl,rfl,gg.of ea,rfl,d,_,rfl,g,_,rfl,rl,_,0,_,rfl,rfl,bw.of yU,b9 JF,aa,_,2,_,rfl,rfl,gg.of ea,rfl,wD R (some y0.1),wD R (some y0.1),f3.td.dat,t3.dat,ly.shaped (by decide),ly.shaped (by decide),ly.mix,_,rfl,?_⟩;rw[PySem.Spec.same_self];exact cQ go
 ·obtain⟨aa,b1,b2,b3,b4,rfl,ea,t1,t2,t3,t4⟩:=td4 (ey▸t0);have PV:=BN t1;have N8:=JK t3;subst PV N8;obtain⟨wb,rfl,ewb⟩:=KQ t2;refine⟨_,rfl,rl,_,0,_,rfl,rfl,bw.of yU,b9 JF,aa,_,0,_,rfl,rfl,gg.of ea,rfl,rfl,_,rfl,?_⟩;rw[show decide (V.str "room"=V.str "hand")=false by decide+kernel];refine cQ ?_;obtain⟨vs,ec,e4,e5⟩:=Wd.atW kz (fk hh fC) ewb;obtain⟨c6,U9,Nr⟩:=hC h vs ec;have Ag:vs[k]? =some (vs[k]'(by lia)):=by simp
  have hvi:=Nr k _ Ag;rw[bE] at hvi;refine⟨_,rfl,m.d,_,rfl,Wd.BQ,_,rfl,rl,_,0,_,rfl,rfl,bw.of yU,b9 JF,aa,_,1,_,rfl,rfl,gg.of ea,rfl,m.ca,_,rfl,e4,_,rfl,rl,_,0,_,rfl,rfl,bw.of yU,b9 JF,aa,_,2,_,rfl,rfl,gg.of ea,rfl,ms.getD h 0,_,k,_,rfl,rfl,bw.of e5,b9 Ag,_,rfl,rl,_,0,_,rfl,rfl,bw.of yU,b9 JF,aa,_,3,_,rfl,rfl,gg.of ea,rfl,wD R (some y0.1),wD R (some y0.1),hvi.td.dat,t4.dat,ly.shaped (by decide),ly.shaped (by decide),ly.mix,_,rfl,?_⟩;rw[PySem.Spec.same_self];exact cQ go
end
theorem MS{ts:av}(h0:ts[0]? =some none){v:V}(hv:v∈wJ ((aw ts).map nV) (some 1) none):∃t,v=nV t∧t≠0∧ts[t]? =some none:=by
 have hv:=mw hv;have hm:0∈aw ts:=cm.mpr (by rw[h0];rfl);have Aj:0<(aw ts).length:=List.length_pos_of_mem hm
 have e:HT.Cm ((aw ts).map nV).length 0 (some 1)=1:=by
  rw[show(1:Int)=((1:Nat):Int) from rfl,HT.Gk,aN]
  lia
 rw[e] at hv;obtain⟨i,hi⟩:=dz.mp hv;rw[tX,aW] at hi
 cases hg:(aw ts)[1+i]? with
 |none=>
  rw[hg] at hi;cases hi
 |some t=>
  rw[hg] at hi;cases hi;refine⟨t,rfl,fun z=> ?_,eq_of_beq (cm.mp (ba hg))⟩;subst z;have hs:(aw ts).Pairwise (· < ·):=pK _ List.pairwise_lt_range;have h1:=(aS.mp hg);obtain⟨h1,h2⟩:=h1;have:=CU.mp hs 0 (1+i) Aj h1 (by lia);rw[h2] at this;exact absurd this (rh _)
theorem HZ{f p:Nat}(h1:f≤1000)(h2:p≤1000):Fits 50 2 (eR f p):=by
 refine(Fits.tup (B:=5) (k:=1) fun d hd=> ?_).mono (by show 5*2+2*2+3≤50;decide) (by decide);simp only[bq,cR,cV] at hd;rcases hd with rfl|rfl
 ·exact zI h1
 ·exact zI h2
theorem EB{B1 B2 k1 k2:Nat}{d1 d2:PyData}(h1:Fits B1 k1 d1)(h2:Fits B2 k2 d2):Fits (B1+B2+7) (max k1 k2+1) (.tuple [d1,d2]):=by
 obtain⟨a1,a2,a3⟩:=h1;obtain⟨b1,b2,b3⟩:=h2;refine⟨?_,?_,?_⟩
 ·simp only[PyData.showable,PyData.showableAll,a1,b1,xF]
 ·simp only[PyData.depth,PyData.depthAll]
  lia
 ·simp only[PyData.shown];have:=tupleText_len_le (PyData.shownAll [d1,d2]);simp only[PyData.shownAll,cy,uH,jQ,List.sum_nil,cf,pj] at this ⊢
  lia
noncomputable def sv(R:Rm)(acc:List Rw):List PyData:=acc.map fun x=> .tuple [wD R (some x.1),.list x.2]
theorem bX.dat{H H' :Hp}{R:Rm}{d:Addr}{acc:List Rw}{ls:aH}(h:bX H R d acc ls)(s:ax H H'){ys:aA}(hp:DF H' ys (nB R acc ls)):DatAll H' ys (sv R acc):=by
 have Fb:=h.len;refine lD (by rw[hp.1,Fb];exact(aN ..).symm) fun j y dd e1 e2=> ?_;unfold sv at e2;rw[aW] at e2
 cases ex:acc[j]? with
 |none=>
  rw[ex] at e2;cases e2
 |some x=>
  rw[ex] at e2;cases e2;have hj:=(aS.mp ex).1;have kU:j<ls.length:=by rw[h.ln];exact hj
  have Ag:(nB R acc ls)[j]? =some (fu R x.1,.ref (ls.getD j 0)):=by
   unfold nB;rw[B0,ex,cN kU,bD,cN kU];rfl
  obtain⟨a,b,g1,g2,g3⟩:=hp.2 j _ _ Ag;rw[e1] at g1;cases g1;obtain⟨xs,f1,f2⟩:=h.at_ j x ex;exact .tup g2 (.cons (iI g3).dat (.cons (.lst (s _ _ f1) (f2.kt (a9 s)).dat) .nil))
theorem bX.gen{H H' :Hp}{R:Rm}{d:Addr}{acc:List Rw}{ls:aH}(h:bX H R d acc ls)(hd:H' d=some (.dT (nB R acc ls)))(kl:∀l∈ls,∀o,H l=some o→H' l=some o)(kt:∀c xs,H c=some (.tup xs)→H' c=some (.tup xs)):bX H' R d acc ls:=
 ⟨hd,h.ln,h.nd,fun j x e=>by
  obtain⟨xs,e1,e2⟩:=h.at_ j x e;exact⟨xs,kl _ (WP (by rw[h.ln];exact(aS.mp e).1)) _ e1,e2.kt kt⟩⟩
theorem GZ{ts:av}{R:Rm}{S:List Nat}{ns:aJ}{oh:av}{oS:Nat→av}{acc:List Rw}(hR:R.length≤150)(h6:∀r∈R,r.2≤6)(hf:∀r∈R,r.1≤1000)(hn:∀x∈ns,dJ x=true)(hoS:∀i,i<R.length→(oS i).length≤1000)(hp:∀x∈acc,∃p,ko ts R S ns oh oS x p)(hl:∀x∈acc,x.2.length≤150)(DT:acc.length≤150):(PyData.list (sv R acc)).showable=true∧(PyData.list (sv R acc)).depth≤90∧(PyData.list (sv R acc)).shown.length≤sizeLine:=by
 have fw:∀i,Fits 50 2 (wD R (some i)):=fun i=>by
  refine HZ ?_ ?_
  ·by_cases hi:i<R.length
   ·have:=hf _ (Wp hi)
    lia
   ·rw[bD,gB (by lia)];exact cB _
  ·have:=LJ R h6 i
   lia
 have fl:∀{h:Nat} {y:Nat×PyData},h<R.length→oF R oS h y→Fits 620 5 y.2:=fun{h y} hh ⟨k,hk,_,e⟩=>by
  rw[e];refine(Fits.tup (B:=150) (k:=4) fun d hd=> ?_).mono (by show 150*4+2*4+3≤620;decide) (az _);simp only[bq,cR,cV] at hd;rcases hd with rfl|rfl|rfl|rfl
  ·exact(AW (by decide+kernel)).mono (by decide) (by decide)
  ·exact(fw _).mono (by decide) (by decide)
  ·exact(zI (by have:=hoS h hh;lia)).mono (by decide) (by decide)
  ·exact(fw _).mono (by decide) (by decide)
 have fr:∀x∈acc,Fits 93400 6 (.list x.2):=fun x hx=>by
  obtain⟨p,px⟩:=hp x hx;refine(Fits.list (B:=620) (k:=5) fun d hd=> ?_).mono (by have:=hl x hx;lia) (az _);rw[px.eq] at hd;obtain⟨y,hy,rfl⟩:=bM.mp hd;obtain⟨j,hj⟩:=dz.mp hy
  cases j with
  |zero=>
   obtain⟨f,f1,f2⟩:=px.fst;rw[f1] at hj;cases hj;rcases f2 with⟨j,hj,_,e⟩|⟨h',hh',_,f3⟩
   ·rw[e];refine(Fits.tup (B:=150) (k:=4) fun d hd=> ?_).mono (by show 150*3+2*3+3≤620;decide) (az _);simp only[bq,cR,cV] at hd;rcases hd with rfl|rfl|rfl
    ·exact(AW (by decide+kernel)).mono (by decide) (by decide)
    ·exact(Hj (hn _ (ba (CL hj)))).mono (by decide) (by decide)
    ·exact(fw _).mono (by decide) (by decide)
   ·exact fl hh' f3
  |succ j=>
   have kU:=(aS.mp hj).1;exact fl (px.all _ (iZ (show j<p.length by lia))).1 (px.Iq j (p[j]'(by lia)) y (by simp) hj)
 have f:Fits _ 8 (.list (sv R acc)):=Fits.list (B:=93460) (k:=7) fun d hd=>by
  obtain⟨x,hx,rfl⟩:=bM.mp hd;exact(EB (fw x.1) (fr x hx)).mono (by decide) (by decide)
 have Fb:(sv R acc).length=acc.length:=aN ..;have hs:sizeLine=16777216:=by decide
 exact⟨f.sh,aY f.dp (by decide),aY f.ln (by rw[hs,Fb];lia)⟩
section
variable{P:Program}{w:World}{K:Frag}{mg:Str→aQ}{base:Heap}{A:qa}
noncomputable def O9(C:Addr):Sp:=fun vs H Q _=>∃a m d n,vs=[.ref a.f,.ref m.d,.ref d]∧vc C H a m d n 41∧n≤150∧∀H',ax H H'→Q (.bl true) H'
theorem kQ(T:Txt K mg A):bC P w K mg base eC 11 A.tE A.sG ["_law_house","_law_world_here","_law_hands_here"] (O9 A.ak):=by
 refine T.iW.F.fV dk ?_
 rintro c_ Ar outer s H vs Q E hr ⟨a,m,d,n,rfl,Sc,hn,q⟩
 have hu:=dy hr;have hgd:=hr.gd;have vt:_+100<cLine:=dR (kH (by decide:100≤16*10+200) _) (by have:=hr.un;omega);refine⟨_,(ah (fG 3 dk.nd (Dv (ng rfl) T.yH Boot.«dict» (aX (M3 (Dv (iH rfl) T.nP Boot.«list» (aX (l9 h9 lO qJ oB (pv 2)))) aj (gC eD aj))))) (ah (A2 (cK (lq FR (dO (dm T) hr T.cX aE (aX (pv 1))) (i5 aj) pT)) (iO 4 dk.nd) (ao (A2 (cK (bY (ai (pv 2) (ai (pv 3) (aX (pv 2)))))) (iO 5 dk.nd) (ah (fG 6 dk.nd (dO (BX T) hr T.wx aE (ai (pv 1) (ai (pv 4) (aX (pv 5)))))) (ah (fG 7 dk.nd (Dv zm T.yH Boot.«dict» (aX (pv 5)))) (ah (fG 8 dk.nd (dO (Nw T) hr T.JD aE (ai (pv 0) (ai (pv 4) (aX (pv 7)))))) (ah (bW (PW.pt (jad (eB (dQ (lN dE T.df Boot.«isinstance» (ai (pv 8) (aX (iQ (v:= .ty "dict") rfl T.yH Boot.«dict» rfl)))))) (jab (xL SO (lN (BE hgd vt) T.Jv Boot.«repr» (aX (Dv (lF rfl) T.nP Boot.«list» (aX (l9 h9 lO qJ A_ (pv 8)))))) (lN (BE hgd vt) T.Jv Boot.«repr» (aX (Dv (lF rfl) T.nP Boot.«list» (aX (l9 h9 lO qJ A_ (pv 6)))))))))) (ao (aK gR)) bc) (ah (bW (xL (gk vt) (Dv (iH rfl) T.nP Boot.«list» (aX (l9 h9 lO qJ oB (pv 7)))) (Dv (iH rfl) T.nP Boot.«list» (aX (l9 h9 lO qJ oB (pv 5))))) (ao (aK gR)) bc) (ah (Jj (A2 (Mf (pv 6)) (iO 9 dk.nd) (ah (bW (PW.pt (jad (eB (dQ (dO (Az T) hr T.rN aE (ai (pv 1) (ai (pv 5) (aX (gY hu (pv 8) (pv 9)))))))) (jab (xL (gk vt) (de bH (de a7 (gY hu (pv 8) (pv 9)) (gC eD aj)) (gC eD aj)) (pv 9))))) (ao (aK gR)) bc) (ao (bB (gu fc PySem.F.slot_list_append PySem.F.type_list_append cJ (gY hu (pv 8) (pv 9)) (aX dh))))))) (ao (bB (l9 h9 slot_dict_clear PySem.F.type_dict_clear IW (pv 8))))))))))))) (ao (aK (iF (Io (A6 vt) (wI (pv 0) T.aG T.m6 (vB T) hr aE) (dO (wK T) hr T.oP aE (aX (pv 1)))) (iC (Io jr (wI (pv 0) T.aG T.lJ (sj T) hr aE) (gY hu (pv 1) aR)))))))),?_⟩;obtain⟨ps,ts,L,pk,R,N,rs,ws,ms,cs,G,kv,ns,oh,Z,hd,C9,nd,V2,hN,QN,MA⟩:=Sc;have hW:=Z.G.W.len;have HE:=Z.G.ts;have hR:R.length≤150:=by lia
 refine⟨_,rfl,.inr (.inr (.inl ⟨rfl,.inl ⟨_,hd.ob⟩⟩)),d,kv,rfl,rfl,hd.ob,fun v hv=> ?_⟩;have s1:=ax.upd (o:=gO v d) hv;refine⟨v,d,kv,rfl,ae,s1 _ _ hd.ob,fun l ys H2 hl sm hy hp=> ?_⟩;have s2:ax H H2:=s1.trans sm;refine⟨0,rfl,1,rfl, -1,rfl,l,ys,rfl,rfl,rfl,bw.of hy,fun p zs ZO Tw hz=> ?_⟩;have s3:=ax.upd (o:= .lst zs) ZO;have e3:upd H2 p (.lst zs) p=some (.lst zs):=ae;generalize upd H2 p (.lst zs)=H3 at s3 e3
 have hz1:∀z∈zs,∃a x u o,z= .ref a∧H2 a=some (.tup [.str x,u])∧dJ x=true∧dI H R u o:=fun z hzm=>by
  obtain⟨i,_,hi⟩:=hz z hzm
  have hik:i<kv.length:=by
   have:=(aS.mp hi).1;have:=hp.1
   lia
  have hk:kv[i]? =some kv[i]:=by simp[hik]
  obtain⟨a',g1,g2⟩:=hp.2 i kv[i].1 kv[i].2 hk;obtain⟨f1,f2,f3⟩:=hd.at_ i kv[i].1 kv[i].2 hk;rw[hi] at g1;cases g1;rw[f1] at g2;exact⟨a',_,_,_,rfl,g2,f2,f3⟩
 obtain⟨kvs,Fb,Ag⟩:∃kvs,pz H3 zs kvs:=yM fun i v e=>by
  obtain⟨a',x,u,o,rfl,g,_,_⟩:=hz1 v (ba e);exact⟨a',.inr x,u,rfl,s3 _ _ g⟩
 have CF:∀p∈kvs,∃x o,p.1= .inr x∧dJ x=true∧dI H R p.2 o:=fun p hpm=>by
  obtain⟨i,hi⟩:=dz.mp hpm;obtain⟨a',ea,ha⟩:=Ag i p.1 p.2 hi;obtain⟨a2,x,u,o,ez,g,g2,g3⟩:=hz1 _ (ba ea);cases ez;rw[s3 _ _ g] at ha;simp only[Option.some.injEq,HO.tup.injEq,List.cons.injEq,and_true] at ha;exact⟨x,o,L0 ha.1.symm,g2,ha.2▸g3⟩
 refine⟨p,zs,kvs,rfl,e3,⟨Fb,Ag⟩,fun d2 hd2=> ?_⟩;obtain⟨nd2,al⟩:=zk kvs [] ik (fun p hp=>nomatch hp) CF;have s4:=ax.upd (o:= .dK (fX [] kvs)) hd2;have T2:ax H (upd H3 d2 (.dK (fX [] kvs))):=(s2.trans s3).trans s4
 obtain⟨ns2,oh2,VZ⟩:=bS.of (H:=upd H3 d2 (.dK (fX [] kvs))) (R:=R) (d:=d2) ae fun p hp=>by
  obtain⟨x,o,e1,e2,e3⟩:=al p hp;exact⟨x,o,e1,e2,e3.kt (a9 T2)⟩
 generalize upd H3 d2 (.dK (fX [] kvs))=H4 at s4 T2 VZ
 have ahF:ns2.length≤41:=by
  have h1:=fI kvs [];rw[pj] at h1;have:=VZ.ln;have:=hp.1;have:=hd.ln
  lia
 have Z4:=Z.same T2
 have fo:∀{c:Addr} {H' :Hp},ax H H'→H' c=none→(¬c∈a.own)∧¬c∈m.own:=fun{c H'} s' hc=>by
  refine⟨fun z=> ?_,fun z=> ?_⟩
  ·obtain⟨o,e⟩:=Z.h.al c z;rw[s' _ _ e] at hc;cases hc
  ·obtain⟨o,e⟩:=Z.mo.al c z;rw[s' _ _ e] at hc;cases hc
 have Y1:=fo (s2.trans s3) hd2;refine⟨_,rfl,m,ps,ts,L,pk,R,ws,ms,cs,G,rfl,Z4.mo,by lia,fun st H5 fC s5 hs5=>⟨1,rfl,st,_,rfl,bw.of hs5,fun fp hfp=> ?_⟩⟩;have s6:=ax.upd (o:= .lst (wJ ((aw ts).map nV) (some 1) none)) hfp;have e6:upd H5 fp (.lst (wJ ((aw ts).map nV) (some 1) none)) fp=some (.lst (wJ ((aw ts).map nV) (some 1) none)):=ae;generalize upd H5 fp (.lst (wJ ((aw ts).map nV) (some 1) none))=H6 at s6 e6;have s46:ax H4 H6:=s5.trans s6;refine⟨fp,rfl,⟨_,bw.of e6⟩,?_⟩;refine dG (K:=K) (a:=fp) (xs:=wJ ((aw ts).map nV) (some 1) none) (fun i σ H' =>∃(x4 x5 x6 x7 x8 x9:Option V),σ=[some (.ref a.f),some (.ref m.d),some (.ref d),some (.ref d2),x4,x5,x6,x7,x8,x9]∧ax H6 H') ⟨_,_,_,_,_,_,rfl,ax.refl H6⟩ ?_ ?_ ?_
 ·rintro i σ H' _ ⟨x4,x5,x6,x7,x8,x9,rfl,s'⟩
  exact bw.of (s' _ _ e6)
 ·rintro i x σ H7 hx ⟨x4,x5,x6,x7,x8,x9,rfl,s7⟩
  obtain⟨t,rfl,ht0,mP⟩:=MS Z.G.g (ba hx);have Np:ax H H7:=(T2.trans s46).trans s7;refine⟨_,rfl,_,rfl,_,rfl,(show 3≤sizeLine by decide),fun lp zh=> ?_⟩;have s9:=ax.upd (o:= .lst [V.ref d,.ref d2,.ref d]) zh;have e9:upd H7 lp (.lst [V.ref d,.ref d2,.ref d]) lp=some (.lst [V.ref d,.ref d2,.ref d]):=ae;generalize upd H7 lp (.lst [V.ref d,.ref d2,.ref d])=H9 at s9 e9;have VT:ax H H9:=Np.trans s9
  have hv9:∀v∈[V.ref d,.ref d2,.ref d],∃d' ka rf xr,v= .ref d'∧bS H9 R d' ka rf xr∧rf.length≤41∧(ka.map (·.1)).Nodup∧(¬d'∈a.own)∧¬d'∈m.own:=fun v hv=>by
   simp only[bq,cR,cV] at hv;have h1:∃d' ka rf xr,V.ref d= .ref d'∧bS H9 R d' ka rf xr∧rf.length≤41∧(ka.map (·.1)).Nodup∧(¬d'∈a.own)∧¬d'∈m.own:=⟨d,kv,ns,oh,rfl,hd.same VT,C9,nd,QN,MA⟩;rcases hv with rfl|rfl|rfl
   ·exact h1
   ·exact⟨d2,_,ns2,oh2,rfl,VZ.same ((s46.trans s7).trans s9),ahF,nd2,Y1.1,Y1.2⟩
   ·exact h1
  refine⟨lp,rfl,⟨_,bw.of e9⟩,?_⟩;refine dG (K:=K) (a:=lp) (xs:=[V.ref d,.ref d2,.ref d]) (fun i σ H' =>∃(x5 x6 x7 x8 x9:Option V),σ=[some (.ref a.f),some (.ref m.d),some (.ref d),some (.ref d2),some (.int t),x5,x6,x7,x8,x9]∧ax H9 H') ⟨_,_,_,_,_,rfl,ax.refl H9⟩ ?_ ?_ ?_
  ·rintro i σ H' _ ⟨x5,x6,x7,x8,x9,rfl,s'⟩
   exact bw.of (s' _ _ e9)
  ·rintro i x σ qP hx ⟨x5,x6,x7,x8,x9,rfl,C4⟩
   obtain⟨d',ka,rf,xr,rfl,Gg,YK,nd',Zh,Ts⟩:=hv9 x (ba hx);have HK:ax H qP:=VT.trans C4;have Z10:=Z.same HK;obtain⟨oS,c0⟩:=Z.ok;have c10:=c0.kt (a9 HK);have Eh:=Gg.same C4;have kn:=JW Eh c10 Z.cl;refine⟨_,rfl,_,rfl,_,rfl,m,ps,ts,L,pk,R,ws,ms,cs,G,oS,d',ka,rf,xr,t,rfl,Z10.mo,Z.G.W,by lia,fun r hr=>⟨(Z.G.rw r hr).1,(Z.G.rw r hr).2.2⟩,Z.cl,c10,Eh,by lia,nd',Ts,fun dd Tj anZ qO hdd V7 RD hfd=> ?_⟩;have X6:ax H qO:=HK.trans V7;have E2:=Eh.same V7;refine⟨_,rfl,d',ka,rfl,E2.ob,fun d3 Mv=> ?_⟩;have wZ:=ax.upd (o:= .dK ka) Mv;have UC:bS (upd qO d3 (.dK ka)) R d3 ka rf xr :=⟨ae,E2.ln,E2.lo,fun j k v e=>⟨(E2.at_ j k v e).1,(E2.at_ j k v e).2.1,(E2.at_ j k v e).2.2.kt (a9 wZ)⟩⟩;have n3:=fo X6 Mv;generalize upd qO d3 (.dK ka)=Um at wZ UC;have acv:ax H Um:=X6.trans wZ;have Z12:=Z.same acv;refine⟨_,rfl,_,rfl,_,rfl,a,ps,ts,L,pk,R,N,rs,cs,d3,ka,rf,xr,oS,t,rfl,Z12.h,Z.r1,Z.cl,n3.1,UC,by lia,Z.G.W,vi mP,ht0,by lia,c0.kt (a9 acv),fun fd Ad nr MM UN Kd RF ab9 hff=> ?_⟩;have agM:=hff.uniq hfd;subst agM
   have Y9:∀x∈rf,dJ x=true:=fun x hx=>by
    obtain⟨j,hj⟩:=dz.mp hx;have kU:=(aS.mp hj).1
    have TR:j<ka.length:=by
     have:=Gg.ln
     lia
    have hk:ka[j]? =some ka[j]:=by simp[TR]
    have:=(Gg.at_ j ka[j].1 ka[j].2 hk).2.1;rw[bD,hj] at this;exact this
   have Xq:=hff.path kn;obtain⟨kf,ekf,hkf⟩:=id hff
   have DT:nr.length≤R.length:=by
    rw[ekf];exact kn.len kf
   have ac_:∀x∈nr,oZ R (bt ps ts t) x:=by
    rw[ekf];exact kn.run kf
   have aip:(nr.map (·.1)).Nodup:=by
    rw[ekf];exact sW (iT _) kf
   have Xk:∀x∈nr,x.2.length≤150:=fun x hx=>by
    obtain⟨j,hj⟩:=dz.mp hx
    have h1:p_ nr:=by
     rw[ekf];exact Kn.Zl kf
    have:=h1 j x hj;have:=(aS.mp hj).1
    lia
   obtain⟨w1,w2,w3⟩:=GZ (oS:=oS) hR (fun r hr=>(Z.G.rw r hr).2.1) (fun r hr=>by have:=(Z.G.rw r hr).2.2;lia) Y9 (fun i hi=>by
    have xj:i<cs.length:=by rw[Z.cl];exact hi
    have hc:cs[i]? =some cs[i]:=by simp[xj]
    have:=(c0 i _ hc).1;have:=(c0 i _ hc).2.1
    lia) Xq Xk (by lia)
   refine⟨_,rfl,_,_,_,_,rfl,.dT RF.ob,rfl,_,rfl,cQ ?_⟩;refine⟨_,rfl,.inr (.inr (.inl ⟨rfl,.inr ⟨_,RF.ob⟩⟩)),fd,_,rfl,rfl,RF.ob,fun v1 hv1=> ?_⟩;have VX:=ax.upd (o:=gO v1 fd) hv1;refine⟨v1,fd,_,rfl,ae,VX _ _ RF.ob,fun l1 zs1 Qs Ab ahs ag7 agH=> ?_⟩;have JZ:ax MM Qs:=VX.trans ahs;have OT:=RD.same ((wZ.trans Kd).trans JZ);refine⟨_,.list (sv R nr),rfl,.lst ag7 (RF.dat JZ agH),w1,w2,w3,_,rfl,.inr (.inr (.inl ⟨rfl,.inr ⟨_,OT.ob⟩⟩)),dd,_,rfl,rfl,OT.ob,fun v2 Vr=> ?_⟩;have Ur:=ax.upd (o:=gO v2 dd) Vr;refine⟨v2,dd,_,rfl,ae,Ur _ _ OT.ob,fun l2 zs2 H17 u_ aaP agS afM=>⟨_,.list (sv R nr),rfl,.lst agS (OT.dat (Ur.trans aaP) afM),w1,w2,w3,rfl,_,rfl,?_⟩⟩;rw[Q5];refine cQ ?_;have Kw:ax MM H17:=JZ.trans (Ur.trans aaP);have Nd:=UC.same (Kd.trans Kw);refine⟨_,rfl,.inr (.inr (.inl ⟨rfl,.inl ⟨_,Nd.ob⟩⟩)),d3,ka,rfl,rfl,Nd.ob,fun v3 hv3=> ?_⟩;have s18:=ax.upd (o:=gO v3 d3) hv3;refine⟨v3,d3,ka,rfl,ae,s18 _ _ Nd.ob,fun l3 zs3 H19 hl3 afJ ahR aeX=> ?_⟩;have GP:ax H17 H19:=s18.trans afJ;have VF:=E2.same (((wZ.trans Kd).trans Kw).trans GP);refine⟨_,rfl,.inr (.inr (.inl ⟨rfl,.inl ⟨_,VF.ob⟩⟩)),d',ka,rfl,rfl,VF.ob,fun v4 hv4=> ?_⟩;have s20:=ax.upd (o:=gO v4 d') hv4;refine⟨v4,d',ka,rfl,ae,s20 _ _ VF.ob,fun l4 zs4 MK hl4 afO afd afc=> ?_⟩;have Gy:ax H19 MK:=s20.trans afO;obtain⟨ds,lds,dds⟩:=Nd.data;refine⟨.list ds,.list ds,.lst (Gy _ _ ahR) (DatAll.same Gy (dds H19 zs3 GP aeX)),.lst afd (dds MK zs4 (GP.trans Gy) afc),lds.shaped (by decide),lds.shaped (by decide),lds.mix,_,rfl,?_⟩;rw[PySem.Spec.same_self];refine cQ ?_;have Ql:ax MM MK:=(Kw.trans GP).trans Gy;have SR:ax qO MK:=(wZ.trans Kd).trans Ql;have Ys:=RD.same SR;have X7:=RF.same Ql;have nfd:fd≠dd:=fun z=>by rw[z,wZ _ _ RD.ob] at UN;cases UN
   have Mg:∀l∈Ad,l≠dd:=fun l hl z=>by
    have:=ab9 l hl;rw[z,wZ _ _ RD.ob] at this;cases this
   have ab_:¬fd∈Ad:=fun z=>by
    obtain⟨_,e⟩:=RF.al z;rw[RF.ob] at e;cases e
   refine⟨_,rfl,dd,_,rfl,Ys.ob,fun o nf=> ?_⟩;have e22:upd MK dd (.eX o (.dT (nB R nr Tj))) dd=some (.eX o (.dT (nB R nr Tj))):=ae
   have k22:∀c o',c≠dd→MK c=some o'→upd MK dd (.eX o (.dT (nB R nr Tj))) c=some o' :=fun c o' hc e=>by
    rw[af hc];exact e
   generalize upd MK dd (.eX o (.dT (nB R nr Tj)))=VR at e22 k22;have agD:∀c xs,MK c=some (.tup xs)→VR c=some (.tup xs):=fun c xs e=>k22 c _ (aD e Ys.ob (by intro z;cases z)) e;have OO:bX VR R fd nr Ad:=X7.gen (k22 _ _ nfd X7.ob) (fun l hl o' e=>k22 l o' (Mg l hl) e) agD;have Yg:H9 dd=none:=C4.free hdd;have ah4:∀l∈Ad,H9 l=none:=fun l hl=>(C4.trans (V7.trans wZ)).free (ab9 l hl);have afn:H9 fd=none:=(C4.trans (V7.trans wZ)).free UN;have ahE:ax H9 MK:=C4.trans (V7.trans SR);have s9' :∀{H' :Hp},(∀c o,¬c∈Ad→VR c=some o→H' c=some o)→ax H9 H' :=fun K' c o' e=>K' c o' (fun z=>by rw[ah4 c z] at e;cases e) (k22 c o' (aq e Yg) (ahE _ _ e))
   have ktp:∀{H' :Hp},(∀c o,¬c∈Ad→VR c=some o→H' c=some o)→∀c xs,VR c=some (.tup xs)→H' c=some (.tup xs):=fun K' c xs e=>K' c _ (fun z=>by
    obtain⟨_,e'⟩:=OO.al z;rw[e] at e';cases e') e
   refine Ic (d:=dd) (o:=o) (kvs:=nB R nr Tj) (fun j σ H' =>∃(x9:Option V),σ=[some (.ref a.f),some (.ref m.d),some (.ref d),some (.ref d2),some (.int t),some (.ref d'),some (.ref dd),some (.ref d3),some (.ref fd),x9]∧(∀c o,¬c∈Ad→VR c=some o→H' c=some o)∧∀j',j≤j'→∀x,nr[j']? =some x→∃xs,H' (Ad.getD j' 0)=some (.lst xs)∧bp H' xs x.2) ⟨_,rfl,fun c o _ e=>e,fun j' _ x e=>OO.at_ j' x e⟩ ?_ ?_ ?_
   ·rintro j σ H' ⟨x9,rfl,K',_⟩
    exact K' _ _ (fun z=>Mg dd z rfl) e22
   ·rintro j k v b σ H23 e hb ⟨x9,rfl,Vs,Fz⟩
    obtain⟨x,hx,rfl⟩:∃x,nr[j]? =some x∧k=fu R x.1:=by
     unfold nB at e;rw[B0] at e
     cases e1:nr[j]? with
     |none=>
      rw[e1] at e;cases e
     |some x=>
      cases e2:Tj[j]? with
      |none=>
       rw[e1,e2] at e;cases e
      |some l=>
       rw[e1,e2] at e;cases e;exact⟨x,rfl,rfl⟩
    have kU:=(aS.mp hx).1;have ME:j<Ad.length:=by rw[RF.ln];exact kU
    have hjm:=WP ME;obtain⟨xs,er,tr⟩:=Fz j (az _) x hx;obtain⟨p,px⟩:=Xq x (ba hx);have Ho:=ac_ x (ba hx);have eob:=Vs _ _ ab_ OO.ob;have eval:=xS Z.r1 RF.ln (fun y hy=>(ac_ y hy).lt) aip hx;have g23:dq H23 fd (.ref b) (some (.ref (Ad.getD j 0))):=eval▸dq.t eob hb;have abZ:=s9' Vs;have aaq:ax H H23:=VT.trans abZ;refine⟨_,rfl,_,rfl,_,rfl,_,rfl,fd,_,rfl,g23,m,d',Ad.getD j 0,rfl,⟨ps,ts,L,pk,R,ws,ms,cs,G,oS,ka,rf,xr,bt ps ts t,x,p,xs,(Z.same aaq).mo,Z.r1,c0.kt (a9 aaq),Gg.same abZ,nd',fun n hn=>uW hn,er,tr,px⟩,fun H24 Vn=>⟨_,rfl,cQ ?_⟩⟩;have M1:=Vn _ _ er;have aga:=tr.kt (a9 Vn);have abE:=Vn _ _ hb;have g24:dq H24 fd (.ref b) (some (.ref (Ad.getD j 0))):=eval▸dq.t (Vn _ _ eob) abE;obtain⟨y0,aa,zs,wa,exs,ea,ew⟩:=zT Ho aga;have ly:=zF (R.getD x.1 (0,0)).1 (br R x.1);refine⟨_,rfl,_,rfl,fd,_,rfl,g24,1,rfl,Ad.getD j 0,_,_,_,rfl,rfl,bw.of M1,by rw[exs];exact c7 y0 _,1,rfl,aa,_,_,_,rfl,rfl,gg.of ea,c7 zs _,_,rfl,wD R (some x.1),wD R (some x.1),(iI ew).dat,(iI abE).dat,ly.shaped (by decide),ly.shaped (by decide),ly.mix,_,rfl,?_⟩;rw[PySem.Spec.same_self];refine cQ ?_
    have Ib:xs.length<sizeLine:=by
     rw[tr.len];exact bz (aY (Xk x (ba hx)) (by decide))
    refine⟨_,rfl,_,rfl,fd,_,rfl,g24,.inl ⟨rfl,_,bw.of M1⟩,Ad.getD j 0,_,.bK,rfl,rfl,M1,Ib,?_⟩
    have agO:∀c zs',H24 c=some (.tup zs')→upd H24 (Ad.getD j 0) (.lst (xs++[.bK])) c=some (.tup zs'):=fun c zs' e=>by
     rw[af (aD e M1 (by intro z;cases z))];exact e
    refine⟨_,rfl,fun c o' hc e=> ?_,fun j' hj' y hy=> ?_⟩
    ·have iB:c≠Ad.getD j 0:=fun z=>hc (by rw[z];exact hjm);rw[af iB];exact Vn _ _ (Vs c o' hc e)
    ·obtain⟨ys',f1,f2⟩:=Fz j' (by lia) y hy
     have aii:j' <Ad.length:=by
      rw[RF.ln];exact(aS.mp hy).1
     refine⟨ys',?_,(f2.kt (a9 Vn)).kt agO⟩
     have iB:Ad.getD j' 0≠Ad.getD j 0:=fun z=>by
      rw[bD,cN aii,bD,cN ME] at z;have:=(Cf RF.nd).mp (show Ad[j']=Ad[j] from z)
      lia
     rw[af iB];exact Vn _ _ f1
   ·rintro σ H23 ⟨x9,rfl,Vs,_⟩
    refine⟨dd,o,_,Vs _ _ (fun z=>Mg dd z rfl) e22,nf,?_⟩;have eob:=Vs _ _ ab_ OO.ob
    have e24:upd H23 dd (.dT (nB R nr Tj)) fd=some (.dT (nB R nr Ad)):=by
     rw[af nfd];exact eob
    refine⟨_,rfl,.inr (.inr (.inl ⟨rfl,.inr ⟨_,e24⟩⟩)),fd,_,rfl,rfl,e24,?_⟩;refine⟨_,_,_,_,_,rfl,fun c o' e=> ?_⟩;rw[af (aq e afn),af (aq e Yg)];exact s9' Vs _ _ e
  ·rintro σ qP ⟨x5,x6,x7,x8,x9,rfl,C4⟩
   exact⟨_,_,_,_,_,_,rfl,s7.trans (s9.trans C4)⟩
 ·rintro σ H7 ⟨x4,x5,x6,x7,x8,x9,rfl,s7⟩
  have Np:ax H H7:=(T2.trans s46).trans s7;have Z7:=Z.same Np;obtain⟨oS,c0⟩:=Z.ok;obtain⟨Ek,d1,d2'⟩:=c0.data;have lp:=Us (ps:=ps) (ts:=ts) (L:=L) (R:=R) d2';obtain⟨dx,ho⟩:=Z7.h.ob;refine⟨_,rfl,a.f,dx,_,rfl,ho,a8 (by decide+kernel),a,ps,ts,L,pk,R,N,rs,cs,rfl,Z7.h,Z.r1,Z.cl,hW,HE,by lia,fun v1 H8 s8 p1=> ?_⟩;have Z8:=Z7.same s8;refine⟨_,rfl,m,ps,ts,L,pk,R,ws,ms,cs,G,rfl,Z8.mo,Z.r1,hW,HE,by lia,fun v2 H9 s9 p2=> ?_⟩;refine⟨_,_,Dat.same s9 (p1.dat fun m vs e=>DatAll.same (Np.trans s8) (d1 m vs e)),p2.dat fun m vs e=>DatAll.same ((Np.trans s8).trans s9) (d1 m vs e),lp.shaped (by decide),lp.shaped (by decide),lp.mix,?_⟩;rw[PySem.Spec.same_self];have Z9:=Z8.same s9;obtain⟨dx9,ho9⟩:=Z9.h.ob;refine⟨_,rfl,eN ?_⟩;refine⟨_,rfl,a.f,dx9,_,rfl,ho9,a8 (by decide+kernel),a,ps,ts,L,pk,R,N,rs,cs,rfl,Z9.h,_,rfl,m.d,_,rfl,Z9.mo.Xe,rfl,?_⟩;rw[bu (rfl:V.int (pk:Nat)=V.int (pk:Nat))];exact q H9 ((Np.trans s8).trans s9)
end
theorem sA.toK{C:Addr}{H:Hp}{a:HA}{m:MW}{d:Addr}{n:Nat}(h:sA C H a m d n):vc C H a m d n 40:=h
theorem vc.kept{C:Addr}{H H' :Hp}{a:HA}{m:MW}{d:Addr}{n q:Nat}(h:vc C H a m d n q)(k:∀c o,c∈a.own∨c∈m.own∨c=d→H c=some o→H' c=some o)(kt:∀c xs,H c=some (.tup xs)→H' c=some (.tup xs)):vc C H' a m d n q:=by
 obtain⟨ps,ts,L,pk,R,N,rs,ws,ms,cs,G,kv,ns,oh,Z,hd,r⟩:=h;exact⟨ps,ts,L,pk,R,N,rs,ws,ms,cs,G,kv,ns,oh,Z.kept (fun c o hc e=>k c o (hc.imp id .inl) e) kt,hd.kept (k _ _ (.inr (.inr rfl)) hd.ob) kt,r⟩
theorem vc.same{C:Addr}{H H' :Hp}{a:HA}{m:MW}{d:Addr}{n q:Nat}(h:vc C H a m d n q)(s:ax H H'):vc C H' a m d n q:=h.kept (fun c o _ e=>s c o e) (a9 s)
section
variable{P:Program}{w:World}{K:Frag}{mg:Str→aQ}{base:Heap}{A:qa}
noncomputable def GC(K:Frag):Sp:=fun vs H Q _=>∃(a:Addr) (ns:List Int),vs=[.ref a]∧bw K H a (ns.map V.int)∧ns.length≤63∧∀H',Q (.bl true) H'
theorem Uz(T:Txt K mg A):bC P w K mg base eC 12 A.Qi A.GJ ["_law_script"] (GC K):=by
 refine T.QO.F.fV vq ?_
 rintro c_ Ar outer s H vs Q E hr ⟨a,ns,rfl,hS,hlen,q⟩
 have hu:=dy hr;refine⟨_,(ah (fG 1 vq.nd dh) (ah (A2 (eT rfl T.ib (aX (lN (pB rfl) T.GV Boot.«max» (ai aj (aX (lN (Hm rfl) T.Xf Boot.«min» (ai aj (aX (lN bA T.gx Boot.«len» (aX (pv 0))))))))))) (iO 2 vq.nd) (ah (fG 3 vq.nd (dO (Dn T) hr T.yF aE (aX (dO (CS T) hr T.vV aE (ai (pv 0) (aX (pv 2))))))) (ah (fG 4 vq.nd (dO (An T) hr T.tZ aE (aX (pv 3)))) (ah (bW (PW.pt (jad (xL uT (pv 4) dh) (jab (eB (dQ (dO (wO T) hr T.nT aE (ai (pv 3) (ai (de bH (pv 4) aj) (ai (de bH (pv 4) aj) (aX (de bH (pv 4) aj))))))))))) (ao (aK gR)) bc) (ah (bW (eB (dQ (dO (kQ T) hr T.iW aE (ai (de bH (pv 4) aj) (ai (de bH (pv 4) aj) (aX (de bH (pv 4) aj))))))) (ao (aK gR)) bc) (ah (bW (PW.pt (jad (eB (dQ (dO (ud T) hr T.n_ aE (ai (pv 3) (ai (de bH (pv 4) aj) (aX (de bH (pv 4) aj))))))) (jab (eB (dQ (dO (kQ T) hr T.iW aE (ai (de bH (pv 4) aj) (ai (de bH (pv 4) aj) (aX (de bH (pv 4) aj)))))))))) (ao (aK gR)) bc) (ah (bW (PW.pt (jac (xL tU (pv 1) dh) (ZB (eB (dQ (dO (kQ T) hr T.iW aE (ai (de bH (pv 1) aj) (ai (de bH (pv 1) aj) (aX (de bH (pv 1) aj)))))))))) (ao (aK gR)) bc) (ao (fG 1 vq.nd (pv 4)))))))))) (ao (aK gR)))),?_⟩;refine⟨_,rfl,a,_,rfl,.inl hS,4,_,rfl,2,_,rfl,?_⟩;generalize hn:(if(if((List.map V.int ns).length:Int)<4 then((List.map V.int ns).length:Int) else 4)>2 then(if((List.map V.int ns).length:Int)<4 then((List.map V.int ns).length:Int) else 4) else 2)=n
 have nn:0≤n∧n≤4:=by
  rw[←hn]
  split<;>split<;>lia
 refine⟨n,rfl,by lia,by lia,?_⟩;refine vp (lo:=0) (n:=n.toNat) (fun i σ H' =>∃(v1:V) (x2 x3 x4:Option V),σ=[some (.ref a),some v1,x2,x3,x4]∧ax H H'∧(v1= .bK∨∃t a' m' d',v1= .ref t∧H' t=some (.tup [.ref a'.f,.ref m'.d,.ref d'])∧vc A.ak H' a' m' d' 138 41)) ⟨_,_,_,_,rfl,ax.refl H,.inl rfl⟩ ?_ ?_
 ·rintro i σ H1 hi ⟨v1,x2,x3,x4,rfl,s1,hv1⟩
  refine⟨_,rfl,_,rfl,a,ns,_,rfl,s1.seq hS,by lia,by lia,fun c=>⟨c,rfl,fun b H2 hb B2 s2=> ?_⟩⟩;refine⟨_,rfl,b,rfl,B2,fun t a2 m2 d2 H3 ht0 ht3 Sc fr K3 B3=> ?_⟩;refine⟨_,rfl,rfl,_,rfl,?_⟩;rw[eZ (by intro z;cases z)];refine cQ ?_;have nb:∀{c:Addr},H2 c=none→c≠b:=fun hc=>B2.ne hc;refine⟨_,rfl,_,rfl,t,_,0,_,rfl,rfl,gg.of ht3,rfl,_,rfl,t,_,1,_,rfl,rfl,gg.of ht3,rfl,_,rfl,t,_,2,_,rfl,rfl,gg.of ht3,rfl,b,1000,a2,m2,d2,40,rfl,B3,by decide,Sc.toK,by decide,(nb (fr d2 (.inr (.inr rfl)))).symm,fun z=>nb (fr b (.inl z)) rfl,fun z=>nb (fr b (.inr (.inl z))) rfl,fun a4 m4 H4 S4 ef4 ed4 ga4 gm4 Mx kt4 B4=>⟨_,rfl,cQ ?_⟩⟩
  have ht4:H4 t=some (.tup [.ref a4.f,.ref m4.d,.ref d2]):=by
   rw[ef4,ed4];exact kt4 _ _ ht3
  refine⟨_,rfl,t,_,0,_,rfl,rfl,gg.of ht4,rfl,_,rfl,t,_,1,_,rfl,rfl,gg.of ht4,rfl,_,rfl,t,_,2,_,rfl,rfl,gg.of ht4,rfl,a4,m4,d2,137,rfl,S4,by decide,fun H5 s5=>⟨_,rfl,cQ ?_⟩⟩;have ht5:=s5 _ _ ht4;have S5:=S4.same s5;have B5:=B4.same s5;obtain⟨ps,ts,L,pk,R,N,rs,ws,ms,cs,G,kv,nms,oh,Z,hd,C9,nd,V2,hN,QN,MA⟩:=S5;have b3:∀{c:Addr},H3 c=none→c≠b:=fun hc=>B3.ne hc;have Aa:¬b∈a4.own:=fun z=>(ga4 b z).elim (fun z=>nb (fr b (.inl z)) rfl) fun z=>b3 z rfl;have zN:¬b∈m4.own:=fun z=>(gm4 b z).elim (fun z=>nb (fr b (.inr (.inl z))) rfl) fun z=>b3 z rfl;have ndb:d2≠b:=nb (fr d2 (.inr (.inr rfl)));refine⟨_,rfl,_,rfl,t,_,0,_,rfl,rfl,gg.of ht5,rfl,_,rfl,t,_,1,_,rfl,rfl,gg.of ht5,rfl,b,1400,a4,m4,ps,ts,L,pk,R,N,rs,ws,ms,cs,G,rfl,B5,by decide,Z,Aa,zN,by lia,by lia,fun a' m' Ja ts' xJ R' N' zY xh zZ xv G' H6 Z' ef ed ga gm kp kt B' hR' hN' hRe=>⟨_,rfl,cQ ?_⟩⟩;obtain⟨ex,rfl⟩:=hRe
  have ht6:H6 t=some (.tup [.ref a'.f,.ref m'.d,.ref d2]):=by
   rw[ef,ed];exact kt _ _ ht5
  have S6:vc A.ak H6 a' m' d2 138 41:=by
   refine⟨Ja,ts',L,xJ,R++ex,N',zY,xh,zZ,xv,G',kv,nms,oh,Z',(hd.kept (kp d2 _ ndb QN MA hd.ob) kt).app ex,C9,nd,by lia,by lia,fun z=> ?_,fun z=> ?_⟩
   ·rcases ga d2 z with h|h
    ·exact QN h
    ·rw[hd.ob] at h;cases h
   ·rcases gm d2 z with h|h
    ·exact MA h
    ·rw[hd.ob] at h;cases h
  refine⟨_,rfl,t,_,0,_,rfl,rfl,gg.of ht6,rfl,_,rfl,t,_,1,_,rfl,rfl,gg.of ht6,rfl,_,rfl,t,_,2,_,rfl,rfl,gg.of ht6,rfl,a',m',d2,138,rfl,S6,by decide,fun H7 s7=>⟨_,rfl,cQ ?_⟩⟩
  have s17:ax H1 H7:=fun c o e=>by
   have cb:c≠b:=aq e hb;have e2:=s2 _ _ e;have e3:=K3 c o cb e2
   have Uv:¬(c∈a2.own∨c∈m2.own∨c=d2):=fun z=>by
    rw[fr c z] at e2;cases e2
   have e5:=s5 _ _ (Mx c o cb (fun z=>Uv (.inr (.inr z))) (fun z=>Uv (.inl z)) (fun z=>Uv (.inr (.inl z))) e3);refine s7 _ _ (kp c o cb (fun z=> ?_) (fun z=> ?_) e5)
   ·rcases ga4 c z with z|z
    ·exact Uv (.inl z)
    ·rw[e3] at z;cases z
   ·rcases gm4 c z with z|z
    ·exact Uv (.inr (.inl z))
    ·rw[e3] at z;cases z
  have fin:∀H8,ax H7 H8→∃(v1:V) (x2 x3 x4:Option V),[some (.ref a),some (.ref t),some (.int (0+(i:Int))),some (.ref b),some (.ref t)]=[some (.ref a),some v1,x2,x3,x4]∧ax H H8∧(v1= .bK∨∃t a' m' d',v1= .ref t∧H8 t=some (.tup [.ref a'.f,.ref m'.d,.ref d'])∧vc A.ak H8 a' m' d' 138 41):=fun H8 s8=>
   ⟨_,_,_,_,rfl,(s1.trans s17).trans s8,.inr ⟨t,a',m',d2,rfl,s8 _ _ (s7 _ _ ht6),(S6.same s7).same s8⟩⟩
  refine⟨_,rfl,rfl,_,rfl,?_⟩;rcases hv1 with rfl|⟨t1,a1,m1,d1,rfl,ht1,S1⟩
  ·rw[bu (rfl:V.bK=V.bK)];exact cQ ⟨_,rfl,fin H7 (ax.refl H7)⟩
  ·rw[eZ (by intro z;cases z)];refine eN ?_;have ht7:=s17 _ _ ht1;refine⟨_,rfl,t1,_,0,_,rfl,rfl,gg.of ht7,rfl,_,rfl,t1,_,1,_,rfl,rfl,gg.of ht7,rfl,_,rfl,t1,_,2,_,rfl,rfl,gg.of ht7,rfl,a1,m1,d1,138,rfl,S1.same s17,by decide,fun H8 s8=>⟨_,rfl,cQ ⟨_,rfl,fin H8 s8⟩⟩⟩
 ·rintro σ H1 ⟨v1,x2,x3,x4,rfl,s1,_⟩
  exact q H1
end
theorem walk{l:PySem.W.OpenLaw}{q:Program}{loose:aJ}{XP:(Str→aQ)→Heap→Prop}{YP:World→Heap→Prop}{d:DefRec}{K:Params→Frag}(hn:l.most=some 63)(WW:d.params.defaults=[])
 (hY:∀(w:World) (h:Heap),YP w h→(K w.params).In h)
 (F:∀(w:World) (mg:Str→aQ) (fa:Addr) (h:Heap),(K w.params).In h→h.Ns mainGlobals mg→mg d.name=some (.ref fa)→
  ∃fd:FuncData,(∀(s:Shared) (u:Value),BindsTo s fd ⟨[u],[]⟩ [("_law_script",u)])∧∀base:Heap,(K w.params).In base→base.Ns mainGlobals mg→bC l.prog w (K w.params) mg base eC 12 fa fd ["_law_script"] (GC (K w.params))):
 PySem.W.WalkO q loose XP YP l.row.toRowW d [] (fun f vs=>PySem.call f vs):=
 L2.OV (n:=63) (k:=12) (x:="_law_script") (CX:=fun _=>eC) (sp:=fun w=>GC (K w.params)) hn (by decide) WW ⟨rfl,by decide,by decide,rfl⟩ hY F (fun _ _ a ns hl _ hS=>⟨a,ns,rfl,hS,hl,fun _=>rfl⟩) fun _ _ _ _ _ z=>z
theorem TL{l:PySem.W.OpenLaw}{w:World}{K:Frag}{h:Heap}{mg:Str→aQ}{fa:Addr}(X:K.In h)(G:h.Ns mainGlobals mg)(hfa:mg "law"=some (.ref fa))(hT:∃A:qa,Txt K mg A):
 ∃fd:FuncData,(∀(s:Shared) (u:Value),BindsTo s fd ⟨[u],[]⟩ [("_law_script",u)])∧∀base:Heap,K.In base→base.Ns mainGlobals mg→bC l.prog w K mg base eC 12 fa fd ["_law_script"] (GC K):=by
 obtain⟨A,T⟩:=hT;have e:=hfa.symm.trans T.QO.m;cases e;exact⟨A.GJ,T.acz,fun base _ _=>Uz T⟩
section
open PySem.W
variable{K:Frag}{h:Heap}{mg:Str→aQ}{x q:Str}{st:Stmt}{ps:aJ}{f C:Addr}{oc kV dc pm cd ct:Value}{od an:Option Addr}{sl:Array (aQ)}
theorem bn1{P:aP→Prop}(h:∀a,P [a]):∀us:aP,us.length=1→P us:=fun us hl=>match us,hl with|[_],_=>h _
theorem bn2{P:aP→Prop}(h:∀a b,P [a,b]):∀us:aP,us.length=2→P us:=fun us hl=>match us,hl with|[_,_],_=>h _ _
theorem bn3{P:aP→Prop}(h:∀a b c,P [a,b,c]):∀us:aP,us.length=3→P us:=fun us hl=>match us,hl with|[_,_,_],_=>h _ _ _
theorem bn4{P:aP→Prop}(h:∀a b c d,P [a,b,c,d]):∀us:aP,us.length=4→P us:=fun us hl=>match us,hl with|[_,_,_,_],_=>h _ _ _ _
noncomputable abbrev fS(n q:Str)(s:Stmt)(kV dc pm:Value)(an:Option Addr)(cd ct:Value):FuncData:=fnOf n q (l8 s) (gH s) (ay s) .none kV dc pm an cd ct
theorem aaZ(X:K.In h)(G:h.Ns mainGlobals mg)(a:nsIn K mainGlobals x=some (some (.ref f)))(l:K.lookup f=some ⟨oc,od,.func (fS x x st kV dc pm an cd ct),sl⟩)(c:codeIn K cd x=true)(k:keepIn K (.ref f)=true)
 (b:∀kV dc pm an cd ct (us:aP),us.length=ps.length→bindArgs (fS x x st kV dc pm an cd ct) ⟨us,[]⟩=pure (ps.zip us)):FI K mg x st ps f (fS x x st kV dc pm an cd ct):=⟨mg_of X G a,CG (st:=st) l c k,(CG (st:=st) l c k).binds b⟩
theorem WE(a:findIn K (.ref C) x=some (some (.ref f)))(i:isFn K (.ref f)=true)(l:K.lookup f=some ⟨oc,od,.func (fS x q st kV dc pm an cd ct),sl⟩)(c:codeIn K cd q=true)(k:keepIn K (.ref f)=true)
 (b:∀kV dc pm an cd ct (us:aP),us.length=ps.length→bindArgs (fS x q st kV dc pm an cd ct) ⟨us,[]⟩=pure (ps.zip us)):MI K C x q st ps f (fS x q st kV dc pm an cd ct):=⟨⟨a,i,k⟩,CG (st:=st) l c k,(CG (st:=st) l c k).binds b⟩
theorem Za{n:Int}{t:Tok}(X:K.In h)(G:h.Ns mainGlobals mg)(a:nsIn K mainGlobals x=some (some (.int n t))):∃u,RelV (.int n) u∧mg x=some u:=⟨_,⟨_,rfl⟩,mg_of X G a⟩
theorem ade{n:Str}{t:Tok}(X:K.In h)(G:h.Ns mainGlobals mg)(a:nsIn K mainGlobals x=some (some (.str n t))):∃u,RelV (.str n) u∧mg x=some u:=⟨_,⟨_,rfl⟩,mg_of X G a⟩
end
theorem UH{K:Frag}{mg:Str→aQ}{f0 f1 f2 f3 f4 f5 f6 f7 f8 f9 f10 f11 f12 f13 f14 f15 f16 f17 f18 f19 f20 f21 f22 f23 f24 f25 f26 f27 f28 f29 f30 f31 f32 f33 f34 f35 f36 f37 f38 f39 f40 f41 f42 f43 f44 f45 f46 f47 f48 f49 f50 f51 f52 f53 f54 f55 f56 f57 f58 f59 f60 f61 f62 f63 f64 f65:Addr}{d0 d1 d2 d3 d4 d5 d6 d7 d8 d9 d10 d11 d12 d13 d14 d15 d16 d17 d18 d19 d20 d21 d22 d23 d24 d25 d26 d27 d28 d29 d30 d31 d32 d33 d34 d35 d36 d37 d38 d39 d40 d41 d42 d43 d44 d45 d46 d47 d48 d49 d50 d51 d52 d53 d54 d55 d56 d57 d58 d59 d60 d61 d62 d63:FuncData}(T:Txt K mg ⟨f0,f1,f2,f3,f4,f5,f6,f7,f8,f9,f10,f11,f12,f13,f14,f15,f16,f17,f18,f19,f20,f21,f22,f23,f24,f25,f26,f27,f28,f29,f30,f31,f32,f33,f34,f35,f36,f37,f38,f39,f40,f41,f42,f43,f44,f45,f46,f47,f48,f49,f50,f51,f52,f53,f54,f55,f56,f57,f58,f59,f60,f61,f62,f63,f64,f65,d0,d1,d2,d3,d4,d5,d6,d7,d8,d9,d10,d11,d12,d13,d14,d15,d16,d17,d18,d19,d20,d21,d22,d23,d24,d25,d26,d27,d28,d29,d30,d31,d32,d33,d34,d35,d36,d37,d38,d39,d40,d41,d42,d43,d44,d45,d46,d47,d48,d49,d50,d51,d52,d53,d54,d55,d56,d57,d58,d59,d60,d61,d62,d63⟩):∃A:qa,Txt K mg A:=⟨_,T⟩
end My
open PySem PySem.W PyProof.Rows
set_option maxRecDepth 100000 in
set_option maxHeartbeats 0 in
theorem PySem.Challenge.cw_framerooms_k27_kept_and_why_holds : PySem.Challenge.rw_framerooms_k27_kept_and_why.Holds := by
 w_on
 refine holds_law My.Uh fun agi=> ?_;refine holds_open (q:=My.oq) (loose:=[]) (Xt:=fun s=>xlAt My.oq [] s&&recOk (RowW.records PySem.Challenge.rw_framerooms_k27_kept_and_why.row.toRowW) s) (XP:=XL My.oq []) (Yf:=My.nJ.obs) (Ya:=My.nJ.val) (YP:=Hook.says (kHook My.EG My.UM My.GQ)) My.U0 My.nJ.of My.nJ.keeps (fun s e=>xl_of s (Bool.and_eq_true_iff.mp e).1) XL.keeps (by rfl) (by rfl) (by rfl) (fun s e=>recFacts_of (Bool.and_eq_true_iff.mp e).2) (by rfl) agi (by decide+kernel) ⟨rfl,rfl,rfl,rfl,rfl,by decide+kernel⟩ ?hw ?hc
 case hw=>w_witness2
 k_fill
 refine My.walk (l:=PySem.Challenge.rw_framerooms_k27_kept_and_why) rfl rfl (fun w h Y=>PySem.W.kIn_of Y) ?F
 case F=>
  intro w mg fa h KX G Xl;refine' My.TL KX G Xl (My.UH ?T)
  case T=>
   constructor
   all_goals try dsimp only
   all_goals first|(apply My.aaZ KX G;(iterate 4 k_is);(intro _ _ _ _ _ _;first|exact My.bn1 fun _=>rfl|exact My.bn2 fun _ _=>rfl|exact My.bn3 fun _ _ _=>rfl|exact My.bn4 fun _ _ _ _=>rfl))|(apply My.WE;(iterate 5 k_is);(intro _ _ _ _ _ _;first|exact My.bn1 fun _=>rfl|exact My.bn2 fun _ _=>rfl|exact My.bn3 fun _ _ _=>rfl|exact My.bn4 fun _ _ _ _=>rfl))|(refine' mg_of KX G ?_;k_is)|(refine' mg_none_of KX G ?_;k_is)|(apply My.Za KX G;k_is)|(apply My.ade KX G;k_is)|k_is|(show _=_;k_is)|(constructor<;>k_is)|(intro _ _;exact BindsTo.of_eq rfl)
