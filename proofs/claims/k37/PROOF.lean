import PyProof.Rows.All
import Wide.All
import OpenK.AllK
import Wide.FinOn
import Lean
import PyProof.EqAt
import PyProof.EqKinds
import PyProof.TupleCall
import PySem.Challenge.RW_framerooms_k37_programs_refused
set_option Elab.async false
set_option linter.all false
set_option maxRecDepth 100000
set_option maxHeartbeats 4000000
theorem Z{α:Sort _}{a:α}:a=a:=rfl
abbrev i':=@PySem.mem_of_lookup
abbrev D':=@PySem.F.slot_list_append
abbrev F':=@PySem.F.type_list_append
abbrev J':=PySem.Value->PySem.Shared->Prop
abbrev M':=PySem.Value
abbrev R':=PySem.Shared
abbrev S':=PySem.Addr
abbrev U':=PySem.PyData
abbrev V':=PySem.Expr
abbrev W':=PySem.World
abbrev X':=PySem.Around
abbrev Y':=PySem.Heap
abbrev Z':=PySem.Program
abbrev aad:=PySem.FuncData
abbrev aw:=@PySem.wpAny_bind
abbrev bq:=@PySem.Heap.get?_push_of_some
abbrev a_:=@PySem.Heap.lt_size
abbrev aY:=@PySem.wpAny_pure
abbrev a6:=@List.length_map
abbrev aK:=@Nat.le_refl
abbrev bu:=@List.length_append
abbrev ax:=@if_neg
abbrev bB:=@List.length_cons
abbrev a7:=@List.all_eq_true
abbrev aS:=@decide_eq_true
abbrev aP:=@List.mem_cons
abbrev bD:=@List.mem_of_getElem?
abbrev ba:=@decide_eq_false
abbrev aU:=@Nat.le_trans
abbrev bE:=@of_decide_eq_true
abbrev cV:=@PySem.Heap.get?_push_size
abbrev aB:=@if_pos
abbrev bJ:=@List.size_toArray
abbrev c9:=@List.getElem?_eq_some_iff
abbrev cw:=@List.mem_cons_of_mem
abbrev bX:=@List.getElem?_map
abbrev eh:=@List.getD_eq_getElem?_getD
abbrev cQ:=@Nat.lt_of_lt_of_le
abbrev cU:=@Bool.false_ne_true
abbrev c5:=@List.mem_cons_self
abbrev cH:=@Bool.and_eq_true
abbrev gp:=@PySem.Heap.get?_update_other
abbrev cO:=@List.not_mem_nil
abbrev cZ:=@PySem.wpAny_field
abbrev cA:=@Nat.lt_irrefl
abbrev cP:=@List.map_cons
abbrev ip:=@List.getElem?_append_left
abbrev gP:=@PySem.F.plainAttrs_list
abbrev cJ:=@Nat.ne_of_lt
abbrev cT:=@Nat.le_of_lt
abbrev gS:=@List.length_replicate
abbrev eA:=@List.mem_append
abbrev cG:=@Nat.zero_le
abbrev km:=@List.getElem?_append_right
abbrev iE:=@List.zipWith_cons_cons
abbrev gv:=@List.mem_singleton
abbrev jo:=@PySem.wpAny_loadPart_at
abbrev ma:=@PySem.Heap.get?_update_self
abbrev fW:=@PySem.wpAny_mono
abbrev fG:=@List.append_nil
abbrev jE:=@List.take_append_drop
abbrev gi:=@List.take_length
abbrev fV:=@Option.some.inj
abbrev iq:=@decide_eq_true_iff
abbrev lU:=@PySem.wpAny_Call_Name_kw
abbrev fk:=@List.all_cons
abbrev l6:=@PySem.wpAny_truthy_bool
abbrev jc:=@Nat.lt_of_le_of_lt
abbrev lS:=@List.zipWith_nil_right
abbrev kr:=@PySem.Heap.size_push
abbrev cN:=@or_false
abbrev qp:=@List.eq_nil_of_length_eq_zero
abbrev l8:=@List.mem_append_right
abbrev lQ:=@List.zipWith_nil_left
abbrev kh:=@PySem.wpAny_holding
abbrev ck:=@Ne.symm
abbrev iR:=@List.lookup_cons
abbrev iQ:=@List.map_append
abbrev nz:=@List.getElem?_eq_none
abbrev iP:=@Nat.not_lt_zero
abbrev mZ:=@List.findSome?_append
abbrev ig:=@Option.none_or
abbrev lr:=@List.filter_eq_self
abbrev oP:=@PySem.wpAny_newObj_type
abbrev pT:=@PySem.wpAny_isSubtype_exc
abbrev oq:=@List.take_of_length_le
abbrev m_:=@List.findSome?_cons
abbrev oB:=@Nat.le_of_ble_eq_true
abbrev xn:=@PyProof.Rows.slot_tuple_getitem
abbrev uL:=@Array.getElem?_eq_some_iff
abbrev oR:=@PySem.wpAny_seqItems
abbrev lW:=@List.length_take
abbrev xw:=@PySem.wpAny_callSpecial?_slot
abbrev nB:=@Int.toNat_natCast
abbrev nA:=@Option.some.injEq
abbrev uz:=@PySem.Calls.spliced_cons
abbrev uA:=@PySem.Obj.data_mapFields
abbrev l9:=@PySem.W.kia_one
abbrev Bw:=@List.exists_of_findSome?_eq_some
abbrev jr:=@Nat.ne_of_gt
abbrev jC:=@List.mem_map
abbrev uk:=@PySem.wpAny_call_entry
abbrev o7:=@List.length_range
abbrev qZ:=@PySem.wpAny_standAt
abbrev qH:=@List.replicate_succ
abbrev qu:=@List.getElem?_range
abbrev m5:=@List.length_nil
abbrev pK:=@List.contains_cons
abbrev w6:=@PySem.wpAny_setField_rec
abbrev o6:=@Nat.le_add_right
abbrev lL:=@Bool.and_true
abbrev ni:=@Bool.false_and
abbrev uw:=@PySem.wpAny_setField
abbrev oo:=@List.filterMap_cons
abbrev iH:=@List.all_nil
abbrev vZ:=@PySem.F.excBase_ValueError
abbrev zJ:=@PySem.F.slot_tuple_iterator_next
abbrev uR:=@Array.getElem?_eq_getElem
abbrev rO:=@List.mem_append_left
abbrev mU:=@Bool.eq_iff_iff
abbrev v7:=@List.getElem?_eq_getElem
abbrev kP:=@List.sum_cons
abbrev kH:=@Bool.true_and
abbrev vd:=@PySem.wpAny_pyIter_list
abbrev wG:=@PySem.Calls.spliced_nil
abbrev vN:=@List.getElem?_replicate
abbrev sr:=@beq_eq_false_iff_ne
abbrev mY:=@List.mem_range
abbrev og:=@PySem.wpAny_call
abbrev ow:=@List.length_drop
abbrev zg:=@PyProof.Rows.callWith_type1
abbrev r_:=@PySem.codeAny_mono
abbrev rP:=@PySem.W.callWith_K
abbrev zj:=@PySem.Obj.isFreed_of_fields
abbrev sd:=@Int.emod_lt_of_pos
abbrev kM:=@List.map_map
abbrev vg:=@PySem.wpAny_passesOwn
abbrev oY:=@List.nil_append
abbrev wJ:=@PySem.F.slot_zip_next
abbrev oH:=@Int.emod_nonneg
abbrev rK:=@PySem.W.piece_app
abbrev rT:=@PySem.sizeLine_eq
abbrev so:=@List.flatten_cons
abbrev rG:=@List.take_add_one
abbrev zE:=@PySem.F.plain_extend_loop
abbrev zC:=@List.drop_eq_getElem_cons
abbrev sk:=@PySem.wpAny_rule
abbrev zH:=@PySem.wpAny_pyIter_tuple
abbrev zh:=@PySem.F.slot_list_extend
abbrev mM:=@List.map_nil
abbrev zk:=@PySem.PassesOwn.leaving
abbrev rR:=@List.mem_filter
abbrev wo:=@List.mem_filterMap
abbrev rY:=@List.find?_cons
abbrev wm:=@List.filter_append
abbrev wH:=@Bool.false_eq_true
abbrev sg:=@Int.natCast_add
abbrev sv:=@List.drop_drop
abbrev zr:=@PySem.wpAny_execs_nil
abbrev oJ:=@Nat.le_of_eq
abbrev zB:=@List.mem_iff_getElem?
abbrev y_:=@List.length_filter_le
abbrev zV:=@PySem.wpAny_updateSeq
abbrev oG:=@Nat.succ.inj
abbrev zA:=@List.getElem?_set_ne
abbrev Fe:=@PySem.codeAny_call_builtin
abbrev zc:=@Array.length_toList
abbrev zM:=@PySem.wpAny_onRaise
abbrev za:=@Int.toNat_of_nonneg
abbrev vy:=@List.nodup_cons
abbrev vh:=@List.forIn_cons
abbrev rX:=@Bool.or_true
abbrev E5:=@List.lookup_eq_some_iff
abbrev DQ:=@Int.eq_ofNat_of_zero_le
abbrev zF:=@List.ext_getElem?
abbrev EC:=@List.getElem?_set_self
abbrev Ed:=@Option.map_eq_some_iff
abbrev EA:=@List.filter_eq_nil_iff
abbrev zd:=@Nat.lt_succ_self
abbrev mJ:=@if_false
abbrev zm:=@Nat.le_max_right
abbrev zT:=@List.cons_append
abbrev Fg:=@List.length_singleton
abbrev rJ:=@beq_iff_eq
abbrev zR:=@List.of_mem_zip
abbrev Kl:=@PyProof.Rows.callWith_builtin1
abbrev zP:=@Nat.le_max_left
abbrev ze:=@Int.natCast_mul
abbrev ET:=@List.toList_toArray
abbrev EE:=@List.length_pos_iff
abbrev zD:=@List.forIn_nil
abbrev vp:=@Sum.inr.inj
abbrev uX:=@Nat.le_succ
abbrev zy:=@List.any_cons
abbrev zt:=@List.take_nil
abbrev zW:=@Prod.mk.injEq
abbrev Eb:=@List.append_assoc
abbrev oK:=@if_true
abbrev zx:=@Nat.lt_trans
abbrev Ek:=@List.getElem_mem
abbrev zq:=@Nat.sub_zero
abbrev Eh:=@List.length_set
abbrev D0:=@Bool.or_eq_true
abbrev ED:=@Nat.min_eq_left
abbrev Fh:=@List.filter_map
open PySem.W (CodeHd Frag bind_fn binds_K callWith_K callWith_K0 cellsFrom_some clsIn emptyDict envX findCls findObj_own handedIn instObj kia_one kia_tup kitOne kitx_bool kitx_dict kitx_int kitx_list kitx_none kitx_str kitx_tuple kla_eval kla_fn lookIn looks_findIn makesIn methodCall_KW methodObj notCls plainGet plainGet_of plainOver set_plain tabObj takerIn)
open PySem.F (args_dict_get_3 args_tuple_add_2 entry_dict_get entry_extend_loop entry_tuple_add excBase_ValueError plainAttrs_list plain_extend_loop slot_dict_get slot_list_extend slot_tuple_add type_list_extend)
open PySem in
noncomputable abbrev aQ:=List (S'×Obj)
open PySem in
noncomputable abbrev aF:=List M'
open PySem in
noncomputable abbrev aO:=Option M'
open PySem in
noncomputable abbrev au:=List Str
open PySem in
noncomputable abbrev b_:=List S'
open PySem in
noncomputable abbrev b8:=List V'
namespace L2
open PySem PySem.Spec PyProof.Rows
def ww(s:Stmt)(j:Nat):Stmt:=match s with
 | .ClassDef _ _ _ body _ _ _ _ _ _ _=>body.getD j (.Pass ⟨0,0,0,0⟩)
 |_=> .Pass ⟨0,0,0,0⟩
noncomputable def ib(s:Stmt):Arguments:=match s with
 | .FunctionDef _ a _ _ _ _ _ _ _ _=>a
 |_=>{posonlyargs:=[],args:=[],vararg:=none,kwonlyargs:=[],kw_defaults:=[],kwarg:=none,defaults:=[]}
noncomputable def dN(s:Stmt):List Stmt:=match s with
 | .FunctionDef _ _ b _ _ _ _ _ _ _=>b
 |_=>[]
noncomputable def av(s:Stmt):Scope:=match s with
 | .FunctionDef _ _ _ _ _ _ sc _ _ _=>sc
 |_=>{kind:= .function,names:=[],isGenerator:=false,isCoroutine:=false}
end L2
namespace My
open PySem L2 PyProof.Rows
def jp(i:Nat):Stmt:=PySem.Challenge.pw_framerooms_k37_programs_refused.main.body.getD i (.Pass ⟨0,0,0,0⟩)
abbrev jR:Stmt:=(ww (jp 2) 0)
abbrev lH:Stmt:=(ww (jp 3) 0)
abbrev mS:Stmt:=(ww (jp 4) 0)
abbrev lD:Stmt:=(ww (jp 5) 0)
abbrev lM:Stmt:=(ww (jp 6) 0)
abbrev lG:Stmt:=(ww (jp 7) 0)
abbrev nK:Stmt:=(ww (jp 8) 0)
abbrev lT:Stmt:=(ww (jp 9) 0)
abbrev vR:Stmt:=(ww (jp 11) 0)
abbrev xJ:Stmt:=(jp 15)
abbrev Bt:Stmt:=(jp 16)
abbrev CO:Stmt:=(jp 17)
abbrev Dx:Stmt:=(jp 22)
abbrev Og:Stmt:=(jp 23)
abbrev Bo:Stmt:=(jp 24)
abbrev xV:Stmt:=(jp 25)
abbrev BK:Stmt:=(jp 26)
abbrev yg:Stmt:=(jp 27)
abbrev CQ:Stmt:=(jp 28)
abbrev z8:Stmt:=(jp 29)
abbrev yf:Stmt:=(jp 30)
abbrev uc:Stmt:=(jp 31)
abbrev Dv:Stmt:=(jp 32)
abbrev xQ:Stmt:=(jp 33)
abbrev vU:Stmt:=(jp 34)
abbrev wk:Stmt:=(jp 35)
abbrev yn:Stmt:=(jp 36)
abbrev fF:Stmt:=(ww (jp 42) 0)
abbrev pY:Stmt:=(ww (jp 42) 1)
abbrev yD:Stmt:=(jp 43)
abbrev tq:Stmt:=(jp 44)
abbrev xR:Stmt:=(jp 45)
abbrev yz:Stmt:=(jp 47)
abbrev Bi:Stmt:=(jp 48)
abbrev xC:Stmt:=(jp 49)
abbrev vb:Stmt:=(jp 50)
abbrev tW:Stmt:=(jp 51)
abbrev pS:Stmt:=(jp 52)
abbrev uT:Stmt:=(jp 53)
abbrev jQ:Stmt:=(jp 54)
abbrev vT:Stmt:=(jp 55)
abbrev sW:Stmt:=(jp 56)
abbrev xS:Stmt:=(jp 57)
abbrev l7:Stmt:=(jp 58)
abbrev vn:Stmt:=(jp 59)
abbrev rB:Stmt:=(jp 60)
abbrev ub:Stmt:=(jp 61)
abbrev qN:Stmt:=(jp 62)
abbrev pj:Stmt:=(jp 63)
abbrev iN:Stmt:=(jp 64)
abbrev yI:Stmt:=(jp 65)
abbrev jn:Stmt:=(jp 66)
abbrev tG:Stmt:=(jp 67)
abbrev xX:Stmt:=(jp 68)
abbrev uN:Stmt:=(jp 69)
abbrev kS:Stmt:=(jp 70)
abbrev t9:Stmt:=(jp 71)
abbrev gN:Stmt:=(jp 72)
abbrev Ou:Stmt:=(jp 73)
section hd
open PySem PySem.W PySem.Calls PyProof.Rows
noncomputable section
noncomputable abbrev bP(x:String)(n:Nat):M':=Value.str (Str.ofString x) n
noncomputable abbrev mH(l:Array M'):Obj:={cls:=Value.type "tuple",data:=Data.seq l}
noncomputable abbrev Ue(l:Array M'):Obj:={cls:=Value.none,data:=Data.fields l}
noncomputable abbrev hdO(l:Array M'):Obj:={cls:=Value.type "code",data:=Data.fields l}
noncomputable abbrev hdK(a b:String)(n l r u:Nat):Obj:=hdO #[bP a n,bP b (n+1),bP "/claim/cut.py" (n+2),.int l 0,.int 0 0,.int 0 0,.int 0 0,.int 0 0,.ref r,.bool false,.int 181 0,.ref (r+1),.none,.none,.none,.none,.int u 0,.int l 0,bP "/claim/cut.py" (u+1)]
noncomputable abbrev Fs(a b:String)(n l p r u:Nat):Obj:=hdO #[bP a n,bP b (n+1),bP "/claim/cut.py" (n+2),.int l 0,.int p 0,.int 0 0,.int 0 0,.int 3 0,.ref r,.bool true,.int 181 0,.ref (r+1),.none,.ref (r+2),.ref (r+3),.ref (r+4),.int u 0,.int l 0,bP "/claim/cut.py" (u+1)]
noncomputable abbrev hdF(n q:String)(s:Stmt)(m:String)(k:Nat)(c:S'):Obj:={cls:=Value.type "function",data:=Data.func {name:=Str.ofString n,qualname:=Str.ofString q,params:=L2.ib s,body:= .stmts (L2.dN s),scope:=L2.av s,globals:=3,closure:=[],defaults:=Value.none,kwdefaults:=Value.none,pyModule:=bP m k,code:=Value.ref c}}
noncomputable abbrev hdG(n q:String)(s:Stmt):Obj:={cls:=Value.none,data:=Data.func {name:=Str.ofString n,qualname:=Str.ofString q,params:=L2.ib s,body:= .stmts (L2.dN s),scope:=L2.av s,globals:=0,closure:=[],defaults:=Value.none,kwdefaults:=Value.none}}
variable(P:Params)
noncomputable abbrev mE(P:Params)(x:String)(n:Nat)(v:M'):DictEntry:={hash:=PyData.keyHash P (Str.ofString x),key:=Value.str (Str.ofString x) n,val:=v}
noncomputable def WL(c:Nat):List (Nat×Nat)->aF|[]=>[]|(a,r)::l=> .int a 0:: .int c 0:: .ref r::WL c l
noncomputable abbrev Nf:List (Nat×Nat):=[(1,20),(5,27),(9,47),(14,66),(19,85),(24,104)]
noncomputable abbrev Ks:List (Nat×Nat):=Nf++[(29,123),(34,142),(39,161),(44,180),(49,199)]
noncomputable abbrev FQ:List (Nat×Nat):=Ks++[(57,218),(59,225),(61,230)]
noncomputable abbrev CP:List (Nat×Nat):=FQ++[(69,252),(75,259),(89,266),(91,271),(93,278),(95,285),(103,292),(109,299),(115,307),(122,314),(132,321),(140,326),(142,331),(149,336),(151,341)]
noncomputable abbrev ID:List (Nat×Nat):=CP++[(165,348),(197,416),(204,423),(210,430),(218,437),(222,444),(224,451),(233,456),(247,463),(258,468),(277,473),(284,480),(286,485),(292,492),(300,497),(316,504),(335,511),(337,516),(341,523),(343,530),(345,537),(347,544),(373,551),(396,558),(405,563),(414,570),(436,577),(441,584),(455,591),(459,596),(476,601)]
noncomputable abbrev dI(P:Params)(x:String)(n:Nat)(a:S'):DictEntry:=mE P x n (.ref a)
noncomputable abbrev Jh(l:List DictEntry)(n:Nat):Obj:={cls:= .type "dict",data:=Data.dict ⟨l⟩ n}
noncomputable def Lj(t:List DictEntry):List DictEntry:=mE P "__doc__" 166 (.none)::mE P "__package__" 167 (.none)::mE P "__loader__" 168 (.builtin ("__main__.__loader__#opa" ++ "que"))::mE P "__spec__" 169 (.none)::dI P "__annotations__" 170 6::dI P "__builtins__" 171 4::mE P "__file__" 173 (bP "/claim/cut.py" 172)::mE P "__cached__" 174 (.none)::dI P "_wall" 193 21::dI P "RoomError" 221 38::dI P "TooMany" 246 58::dI P "NoDeed" 271 77::dI P "TooDeep" 296 96::dI P "TooWide" 321 115::t
noncomputable def Fx(t:List DictEntry):List DictEntry:=dI P "TooLong" 346 134::dI P "Twice" 371 153::dI P "NoLabel" 396 172::dI P "NoMaking" 421 191::dI P "NoText" 446 210::t
noncomputable def Jt(t:List DictEntry):List DictEntry:=mE P "LETTERS" 450 (bP "abcdefghijklmnopqrstuvwxyz" 449)::mE P "MOST_LETTERS" 452 (.int 6 451)::dI P "is_number" 459 219::dI P "is_whole" 468 226::dI P "is_name" 474 231::mE P "OUTERMOST" 478 (bP "ground" 477)::t
noncomputable def R3(t:List DictEntry):List DictEntry:=dI P "is_deed" 551 253::dI P "fits" 559 260::dI P "parts_of" 566 267::dI P "bodies_of" 572 272::dI P "is_block" 579 279::dI P "want_body" 588 286::dI P "many_in" 598 293::dI P "depth_of" 608 300::dI P "rewritten" 621 308::dI P "with_bodies" 634 315::dI P "listing" 646 322::dI P "widest_of" 652 327::dI P "choices_of" 658 332::dI P "longest_of" 664 337::dI P "length_of" 670 342::mE P "MOST_DEEDS" 674 (.int 40 673)::mE P "MOST_DEPTH" 676 (.int 6 675)::mE P "MOST_CHOICES" 678 (.int 4 677)::mE P "MOST_STEPS" 680 (.int 100 679)::t
noncomputable abbrev yX(x0:String)(x1:Nat)(x2:Nat)(x3:Nat):Obj:=hdK x0 x0 x1 x2 x3 (x1+3)
noncomputable abbrev yM(x0:Nat)(x1:Nat)(x2:String)(x3:Nat):Obj:={cls:= .type "frame",slots:= #[some (.ref x0),some (.ref 3),some (.ref x1),none,some (bP x2 x3),none,some (.ref 0)]}
noncomputable abbrev kj(x0:String)(x1:Nat):Obj:=mH #[bP x0 x1]
noncomputable abbrev dJ(x0:String)(x1:Nat):Obj:=hdG x0 x0 (jp x1)
noncomputable abbrev gR(x0:String)(x1:Nat)(x2:Nat)(x3:Nat)(x4:Nat)(x5:Nat):Obj:=Fs x0 x0 x1 x2 x3 x4 x5
noncomputable abbrev dU(x0:String)(x1:Nat)(x2:String)(x3:Nat)(x4:Nat):Obj:=hdF x0 x0 (jp x1) x2 x3 x4
noncomputable abbrev B0(x0:Nat)(x1:String)(x2:Nat)(x3:Nat)(x4:Nat):Obj:={cls:= .type "dict",data:=Data.dict #[mE P "__module__" x0 (bP "framerooms.errors" 194),mE P "__qualname__" (x0+2) (bP x1 (x0+1)),mE P "__firstlineno__" (x0+4) (.int x2 (x0+3)),mE P "__init__" (x0+12) (.ref x3),mE P "__static_attributes__" x4 (.ref (x3+1))] 5}
noncomputable abbrev BU(x0:Nat)(x1:Nat):Obj:=Ue #[.int x0 0,.int 4 0,.ref x1]
noncomputable abbrev pE(x0:String)(x1:Nat)(x2:String):Obj:=mH #[bP x0 x1,bP x2 (x1+1)]
noncomputable abbrev pC(x0:String)(x1:String)(x2:Nat)(x3:Nat):Obj:=hdG x0 x1 (ww (jp x2) x3)
noncomputable abbrev jj(x0:String)(x1:String)(x2:Nat)(x3:Nat)(x4:String)(x5:Nat)(x6:Nat):Obj:=hdF x0 x1 (ww (jp x2) x3) x4 x5 x6
noncomputable abbrev qA(x0:Nat):Obj:={cls:= .type "super",data:=Data.fields #[.ref x0,.ref x0,.ref x0]}
noncomputable abbrev qa(x0:Nat):Obj:={cls:= .type "builtin_function_or_method",data:=Data.fields #[.builtin "object.__init_subclass__",.ref x0]}
noncomputable abbrev vk(x0:Nat)(x1:Nat)(x2:Nat):Obj:={cls:= .type "dict",data:=Data.dict #[mE P "__module__" x0 (bP "framerooms.errors" 194),mE P "__firstlineno__" (x0+4) (.int x1 (x0+3)),mE P "__init__" (x0+12) (.ref x2),mE P "__static_attributes__" (x0+14) (.ref (x2+1)),mE P "__doc__" (x0+15) (.none)] 2}
noncomputable abbrev wj(x0:String)(x1:Nat)(x2:Nat):Obj:={cls:= .type "type",data:=Data.cls {name:=Str.ofString x0,bases:=[.ref 38],mro:=[.ref (x1+16),.ref 38,.type "ValueError",.type "Exception",.type "BaseException",.type "object"],ns:=(x1+15),qualname:=Str.ofString x0},slots:= #[some (.ref x1),none,some (bP x0 x2),some (bP x0 (x2+8)),some (.builtin "ValueError.__new__"),some (.bool true)]}
noncomputable abbrev vB(x0:String)(x1:Nat)(x2:String)(x3:String):Obj:=mH #[bP x0 x1,bP x2 (x1+1),bP x3 (x1+2)]
noncomputable abbrev ku(x0:String)(x1:Nat)(x2:Nat)(x3:Nat)(x4:Nat):Obj:=hdO #[bP x0 x1,bP x0 (x1+1),bP "/claim/cut.py" (x1+2),.int x2 0,.int x3 0,.int 0 0,.int 0 0,.int 3 0,.ref x4,.bool true,.int 181 0,.ref (x4+1),.none,.none,.none,.ref (x4+2),.int (x1+3) 0,.int x2 0,bP "/claim/cut.py" (x1+4)]
noncomputable abbrev aV:=mH #[]
noncomputable abbrev bV:=Ue #[]
noncomputable abbrev HR:=yX "<module>" 182 1 11
noncomputable abbrev Ip:=yM 13 3 "__main__" 164
noncomputable abbrev AY:Obj:={cls:= .type "builtin_function_or_method",data:=Data.fields #[.builtin "type.__prepare__",.type "type"]}
noncomputable abbrev aau:=Fs "__init__" "RoomError.__init__" 208 7 2 29 213
noncomputable abbrev abh:=jj "__init__" "RoomError.__init__" 2 0 "framerooms.errors" 194 34
noncomputable abbrev aaq:Obj:={cls:= .type "dict",data:=Data.dict #[mE P "__module__" 203 (bP "framerooms.errors" 194),mE P "__firstlineno__" 207 (.int 5 206),mE P "__init__" 215 (.ref 35),mE P "__static_attributes__" 216 (.ref 36),mE P "__weakref__" 218 (.ref 39),mE P "__doc__" 219 (.none)] 3}
noncomputable abbrev EW:=mH #[.ref 38]
noncomputable abbrev abb:=Fs "__init__" "TooMany.__init__" 234 11 2 49 239
noncomputable abbrev abx:=jj "__init__" "TooMany.__init__" 3 0 "framerooms.errors" 194 54
noncomputable abbrev YJ:=vk P 229 9 55
noncomputable abbrev aaY:=wj "TooMany" 42 222
noncomputable abbrev ZA:=Fs "__init__" "NoDeed.__init__" 259 16 2 68 264
noncomputable abbrev YN:=jj "__init__" "NoDeed.__init__" 4 0 "framerooms.errors" 194 73
noncomputable abbrev aab:=vk P 254 14 74
noncomputable abbrev YR:=wj "NoDeed" 61 247
noncomputable abbrev aaz:=Fs "__init__" "TooDeep.__init__" 284 21 2 87 289
noncomputable abbrev aaG:=jj "__init__" "TooDeep.__init__" 5 0 "framerooms.errors" 194 92
noncomputable abbrev YU:=vk P 279 19 93
noncomputable abbrev Zh:=wj "TooDeep" 80 272
noncomputable abbrev SM:=Fs "__init__" "TooWide.__init__" 309 26 2 106 314
noncomputable abbrev T7:=jj "__init__" "TooWide.__init__" 6 0 "framerooms.errors" 194 111
noncomputable abbrev T6:=vk P 304 24 112
noncomputable abbrev Ry:=wj "TooWide" 99 297
noncomputable abbrev CN:Obj:={cls:= .type "type",data:=Data.cls {name:=Str.ofString "RoomError",bases:=[.type "ValueError"],mro:=[.ref 38,.type "ValueError",.type "Exception",.type "BaseException",.type "object"],ns:=37,qualname:=Str.ofString "RoomError",subclasses:=[.ref 58,.ref 77,.ref 96,.ref 115,.ref 134,.ref 153,.ref 172,.ref 191,.ref 210]},slots:= #[some (.ref 22),none,some (bP "RoomError" 196),some (bP "RoomError" 204),some (.builtin "ValueError.__new__"),some (.bool true)]}
noncomputable abbrev To:=Fs "__init__" "TooLong.__init__" 334 31 2 125 339
noncomputable abbrev RH:=jj "__init__" "TooLong.__init__" 7 0 "framerooms.errors" 194 130
noncomputable abbrev Ve:=vk P 329 29 131
noncomputable abbrev U0:=wj "TooLong" 118 322
noncomputable abbrev TF:=Fs "__init__" "Twice.__init__" 359 36 2 144 364
noncomputable abbrev TV:=jj "__init__" "Twice.__init__" 8 0 "framerooms.errors" 194 149
noncomputable abbrev R7:=vk P 354 34 150
noncomputable abbrev Tc:=wj "Twice" 137 347
noncomputable abbrev Uj:=Fs "__init__" "NoLabel.__init__" 384 41 2 163 389
noncomputable abbrev Vi:=jj "__init__" "NoLabel.__init__" 9 0 "framerooms.errors" 194 168
noncomputable abbrev Vk:=vk P 379 39 169
noncomputable abbrev RC:=wj "NoLabel" 156 372
noncomputable abbrev TY:=Fs "__init__" "NoText.__init__" 434 51 2 201 439
noncomputable abbrev UE:=jj "__init__" "NoText.__init__" 11 0 "framerooms.errors" 194 206
noncomputable abbrev UU:=vk P 429 49 207
noncomputable abbrev Uq:=wj "NoText" 194 422
noncomputable abbrev Ju:=Ue ⟨WL 0 FQ⟩
noncomputable abbrev SX:=gR "is_number" 453 57 1 213 457
noncomputable abbrev U2:=dU "is_number" 15 "framerooms.words" 447 218
noncomputable abbrev Uo:=gR "is_whole" 460 59 3 220 466
noncomputable abbrev T5:=dU "is_whole" 16 "framerooms.words" 447 225
noncomputable abbrev RW:=ku "is_name" 469 61 1 227
noncomputable abbrev R1:=dU "is_name" 17 "framerooms.words" 447 230
noncomputable abbrev RF:=Jh [dI P "make" 479 233,dI P "put" 483 234,dI P "get" 487 235,dI P "set" 491 236,dI P "copy" 494 237,dI P "more" 497 238,dI P "tell" 501 239,dI P "same" 503 240,dI P "frame" 506 241,dI P "turns" 509 242,dI P "either" 514 243] 11
noncomputable abbrev TJ:=vB "name" 480 "size" "mark"
noncomputable abbrev Sg:=mH #[bP "name" 484,bP "cell" 485,bP "name" 486]
noncomputable abbrev Uk:=mH #[bP "name" 488,bP "name" 489,bP "cell" 490]
noncomputable abbrev Rt:=pE "name" 492 "value"
noncomputable abbrev Vd:=mH #[bP "name" 495,bP "name" 496]
noncomputable abbrev RJ:=mH #[bP "name" 498,bP "name" 499,bP "number" 500]
noncomputable abbrev Tz:=kj "name" 502
noncomputable abbrev Ua:=mH #[bP "name" 504,bP "name" 505]
noncomputable abbrev Rr:=pE "label" 507 "body"
noncomputable abbrev T_:=mH #[bP "label" 510,bP "many" 511,bP "times" 512,bP "body" 513]
noncomputable abbrev UL:=mH #[bP "body" 515,bP "body" 516]
noncomputable abbrev Vh:Obj:={cls:= .type "dict",data:=Data.dict #[mE P "size" 529 (.ref 245),mE P "cell" 532 (.ref 246),mE P "many" 535 (.ref 247),mE P "times" 538 (.ref 248)] 4}
noncomputable abbrev RE:=mH #[.int 1 530,.int 6 531]
noncomputable abbrev RX:=mH #[.int 0 533,.int 5 534]
noncomputable abbrev RK:=mH #[.int 1 536,.int 3 537]
noncomputable abbrev SK:=mH #[.int 0 539,.int 4 540]
noncomputable abbrev Tt:=ku "is_deed" 546 69 1 249
noncomputable abbrev Vf:=dU "is_deed" 22 "framerooms.deeds" 475 252
noncomputable abbrev T8:=gR "fits" 552 75 2 254 557
noncomputable abbrev Tf:=dU "fits" 23 "framerooms.deeds" 475 259
noncomputable abbrev RD:=gR "parts_of" 560 89 1 261 564
noncomputable abbrev Sn:=dU "parts_of" 24 "framerooms.deeds" 475 266
noncomputable abbrev U7:=ku "bodies_of" 567 91 1 268
noncomputable abbrev Us:=dU "bodies_of" 25 "framerooms.deeds" 475 271
noncomputable abbrev TZ:=gR "is_block" 573 93 1 273 577
noncomputable abbrev TU:=dU "is_block" 26 "framerooms.deeds" 475 278
noncomputable abbrev Sb:=gR "want_body" 580 95 1 280 586
noncomputable abbrev U8:=dU "want_body" 27 "framerooms.deeds" 475 285
noncomputable abbrev U5:=gR "many_in" 589 103 1 287 596
noncomputable abbrev Ut:=dU "many_in" 28 "framerooms.deeds" 475 292
noncomputable abbrev Rv:=gR "depth_of" 599 109 1 294 606
noncomputable abbrev SA:=dU "depth_of" 29 "framerooms.deeds" 475 299
noncomputable abbrev OX:=mH #[.int 0 609]
noncomputable abbrev SU:=gR "rewritten" 610 115 3 302 619
noncomputable abbrev G_:Obj:={cls:= .type "function",data:=Data.func {name:=Str.ofString "rewritten",qualname:=Str.ofString "rewritten",params:=L2.ib (jp 30),body:= .stmts (L2.dN (jp 30)),scope:=L2.av (jp 30),globals:=3,closure:=[],defaults:= .ref 301,kwdefaults:= .none,pyModule:=bP "framerooms.deeds" 475,code:= .ref 307}}
noncomputable abbrev Tj:=gR "with_bodies" 622 122 3 309 632
noncomputable abbrev RA:=dU "with_bodies" 31 "framerooms.deeds" 475 314
noncomputable abbrev TN:=gR "listing" 635 132 2 316 644
noncomputable abbrev S_:=dU "listing" 32 "framerooms.deeds" 475 321
noncomputable abbrev TR:=ku "widest_of" 647 140 1 323
noncomputable abbrev Uw:=dU "widest_of" 33 "framerooms.deeds" 475 326
noncomputable abbrev U4:=ku "choices_of" 653 142 1 328
noncomputable abbrev R9:=dU "choices_of" 34 "framerooms.deeds" 475 331
noncomputable abbrev UW:=ku "longest_of" 659 149 1 333
noncomputable abbrev RM:=dU "longest_of" 35 "framerooms.deeds" 475 336
noncomputable abbrev TK:=ku "length_of" 665 151 1 338
noncomputable abbrev Um:=dU "length_of" 36 "framerooms.deeds" 475 341
noncomputable abbrev FA:=Jh (mE P "__name__" 165 (bP "law_framerooms_k37_programs_refused" 787)::Lj P (Fx P (Jt P (dI P "FORMS" 528 232::dI P "BOUNDS" 545 244::R3 P (dI P "Program" 759 406::dI P "want_size" 768 417::dI P "want_labels" 777 424::dI P "want_runs" 786 431::dI P "_law_cell" 796 438::dI P "_law_box" 803 445::dI P "_law_take" 813 452::dI P "_law_names" 819 457::dI P "_law_simple" 835 464::dI P "_law_body" 841 469::dI P "_law_deeds" 847 474::dI P "_law_bodies" 854 481::dI P "_law_plain" 860 486::dI P "_law_listed" 873 493::dI P "_law_cost" 879 498::dI P "_law_refusal" 893 505::dI P "_law_whole" 902 512::dI P "_law_name" 908 517::dI P "_law_number" 915 524::dI P "_law_is_body" 922 531::dI P "_law_is_block" 929 538::dI P "_law_is_deed" 939 545::dI P "_law_made" 948 552::dI P "_law_first_bad" 958 559::dI P "_law_put_at" 964 564::dI P "_law_bent" 980 571::dI P "_law_due" 988 578::dI P "_law_right" 1000 585::dI P "_law_within" 1009 592::dI P "_law_bounds_right" 1015 597::dI P "law" 1021 602::[]))))) 78
noncomputable abbrev M3:=Fs "__init__" "Program.__init__" 693 167 2 350 698
noncomputable abbrev Ul:=jj "__init__" "Program.__init__" 42 0 "framerooms.programs" 671 355
noncomputable abbrev UP:=Fs "told" "Program.told" 701 175 1 357 705
noncomputable abbrev UC:=jj "told" "Program.told" 42 1 "framerooms.programs" 671 362
noncomputable abbrev Ru:=Jh [mE P "__module__" 688 (bP "framerooms.programs" 671),mE P "__firstlineno__" 692 (.int 165 691),dI P "__init__" 700 356,dI P "told" 707 363,dI P "deeds" 714 370,dI P "names" 721 377,dI P "makings" 727 382,dI P "around" 735 389,dI P "widest" 742 396,dI P "longest" 749 403,dI P "__static_attributes__" 752 404,dI P "__dict__" 754 407,dI P "__weakref__" 756 408,mE P "__doc__" 757 (.none)] 4
noncomputable abbrev Su:Obj:={cls:= .type "type",data:=Data.cls {name:=Str.ofString "Program",bases:=[.type "object"],mro:=[.ref 406,.type "object"],ns:=405,qualname:=Str.ofString "Program"},slots:= #[none,none,some (bP "Program" 681),some (bP "Program" 689),some (.builtin "object.__new__"),some (.bool true)]}
noncomputable abbrev Up:=gR "want_size" 760 197 1 411 766
noncomputable abbrev SN:=dU "want_size" 43 "framerooms.programs" 671 416
noncomputable abbrev Vb:=gR "want_labels" 769 204 1 418 775
noncomputable abbrev SI:=dU "want_labels" 44 "framerooms.programs" 671 423
noncomputable abbrev SO:=gR "want_runs" 778 210 1 425 784
noncomputable abbrev TH:=dU "want_runs" 45 "framerooms.programs" 671 430
noncomputable abbrev RL:=gR "_law_cell" 789 218 2 432 794
noncomputable abbrev U9:=dU "_law_cell" 47 "law_framerooms_k37_programs_refused" 787 437
noncomputable abbrev Sf:=gR "_law_box" 797 222 1 439 801
noncomputable abbrev Td:=dU "_law_box" 48 "law_framerooms_k37_programs_refused" 787 444
noncomputable abbrev UD:=gR "_law_take" 804 224 2 446 811
noncomputable abbrev Sj:=dU "_law_take" 49 "law_framerooms_k37_programs_refused" 787 451
noncomputable abbrev Se:=ku "_law_names" 814 233 2 453
noncomputable abbrev Tu:=dU "_law_names" 50 "law_framerooms_k37_programs_refused" 787 456
noncomputable abbrev Uz:=gR "_law_simple" 820 247 3 458 833
noncomputable abbrev Uh:=dU "_law_simple" 51 "law_framerooms_k37_programs_refused" 787 463
noncomputable abbrev TX:=ku "_law_body" 836 258 6 465
noncomputable abbrev Vg:=dU "_law_body" 52 "law_framerooms_k37_programs_refused" 787 468
noncomputable abbrev T1:=ku "_law_deeds" 842 277 1 470
noncomputable abbrev UY:=dU "_law_deeds" 53 "law_framerooms_k37_programs_refused" 787 473
noncomputable abbrev SR:=gR "_law_bodies" 848 284 1 475 852
noncomputable abbrev Sq:=dU "_law_bodies" 54 "law_framerooms_k37_programs_refused" 787 480
noncomputable abbrev U1:=ku "_law_plain" 855 286 1 482
noncomputable abbrev RU:=dU "_law_plain" 55 "law_framerooms_k37_programs_refused" 787 485
noncomputable abbrev Rw:=gR "_law_listed" 861 292 3 487 871
noncomputable abbrev Uv:=dU "_law_listed" 56 "law_framerooms_k37_programs_refused" 787 492
noncomputable abbrev Tp:=ku "_law_cost" 874 300 1 494
noncomputable abbrev RP:=dU "_law_cost" 57 "law_framerooms_k37_programs_refused" 787 497
noncomputable abbrev Sr:=gR "_law_refusal" 880 316 1 499 891
noncomputable abbrev Sk:=dU "_law_refusal" 58 "law_framerooms_k37_programs_refused" 787 504
noncomputable abbrev Rz:=gR "_law_whole" 894 335 3 506 900
noncomputable abbrev RI:=dU "_law_whole" 59 "law_framerooms_k37_programs_refused" 787 511
noncomputable abbrev Sv:=ku "_law_name" 903 337 1 513
noncomputable abbrev SJ:=dU "_law_name" 60 "law_framerooms_k37_programs_refused" 787 516
noncomputable abbrev Tq:=gR "_law_number" 909 341 1 518 913
noncomputable abbrev UQ:=dU "_law_number" 61 "law_framerooms_k37_programs_refused" 787 523
noncomputable abbrev UI:=gR "_law_is_body" 916 343 1 525 920
noncomputable abbrev Ss:=dU "_law_is_body" 62 "law_framerooms_k37_programs_refused" 787 530
noncomputable abbrev TL:=gR "_law_is_block" 923 345 1 532 927
noncomputable abbrev UG:=dU "_law_is_block" 63 "law_framerooms_k37_programs_refused" 787 537
noncomputable abbrev Sl:=gR "_law_is_deed" 930 347 1 539 937
noncomputable abbrev Sz:=dU "_law_is_deed" 64 "law_framerooms_k37_programs_refused" 787 544
noncomputable abbrev Uu:=gR "_law_made" 940 373 1 546 946
noncomputable abbrev Ux:=dU "_law_made" 65 "law_framerooms_k37_programs_refused" 787 551
noncomputable abbrev SG:=gR "_law_first_bad" 949 396 1 553 956
noncomputable abbrev T9:=dU "_law_first_bad" 66 "law_framerooms_k37_programs_refused" 787 558
noncomputable abbrev R0:=ku "_law_put_at" 959 405 4 560
noncomputable abbrev U_:=dU "_law_put_at" 67 "law_framerooms_k37_programs_refused" 787 563
noncomputable abbrev Uy:=gR "_law_bent" 965 414 2 565 978
noncomputable abbrev Si:=dU "_law_bent" 68 "law_framerooms_k37_programs_refused" 787 570
noncomputable abbrev U3:=gR "_law_due" 981 436 1 572 986
noncomputable abbrev TC:=dU "_law_due" 69 "law_framerooms_k37_programs_refused" 787 577
noncomputable abbrev Ms:=gR "_law_right" 989 441 1 579 998
noncomputable abbrev Ti:=dU "_law_right" 70 "law_framerooms_k37_programs_refused" 787 584
noncomputable abbrev UH:=gR "_law_within" 1001 455 2 586 1007
noncomputable abbrev R_:=dU "_law_within" 71 "law_framerooms_k37_programs_refused" 787 591
noncomputable abbrev Va:=ku "_law_bounds_right" 1010 459 0 593
noncomputable abbrev RZ:=dU "_law_bounds_right" 72 "law_framerooms_k37_programs_refused" 787 596
noncomputable abbrev UM:=ku "law" 1016 476 1 598
noncomputable abbrev Tw:=dU "law" 73 "law_framerooms_k37_programs_refused" 787 601
noncomputable def Jo(t:List Obj):List Obj:=boot_o_4 P::boot_o_5 P::boot_o_6 P::boot_o_7 P::boot_o_8 P::boot_o_9 P::boot_o_10 P::aV::t
noncomputable def C_(t:List Obj):List Obj:=aV::bV::(kj "k" 190)::aV::(dJ "_wall" 0)::(gR "_wall" 187 1 1 15 191)::(dU "_wall" 0 "__main__" 164 20)::(mH #[.type "ValueError"])::AY::(B0 P 203 "RoomError" 5 35 216)::aV::(BU 7 34)::(yX "RoomError" 198 5 25)::(yM 27 24 "framerooms.errors" 194)::aV::bV::(pE "self" 211 "text")::aV::(pC "__init__" "RoomError.__init__" 2 0)::aau::abh::aV::aaq P::t
noncomputable def C4(t:List Obj):List Obj:={cls:= .type "getset_descriptor",data:=Data.fields #[bP "__weakref__" 217,.ref 38,.builtin "ExceptionGroup.__weakref__",.none]}::(qA 38)::(qa 38)::EW::AY::(B0 P 229 "TooMany" 9 55 243)::aV::(BU 11 54)::(yX "TooMany" 224 9 45)::(yM 47 44 "framerooms.errors" 194)::aV::bV::(pE "self" 237 "many")::aV::(pC "__init__" "TooMany.__init__" 3 0)::abb::abx::(kj "many" 242)::YJ P::aaY::(qA 58)::(qa 58)::EW::AY::(B0 P 254 "NoDeed" 14 74 268)::aV::(BU 16 73)::(yX "NoDeed" 249 14 64)::(yM 66 63 "framerooms.errors" 194)::aV::bV::(pE "self" 262 "found")::aV::(pC "__init__" "NoDeed.__init__" 4 0)::ZA::YN::(kj "found" 267)::aab P::YR::(qA 77)::(qa 77)::EW::AY::(B0 P 279 "TooDeep" 19 93 293)::aV::(BU 21 92)::(yX "TooDeep" 274 19 83)::(yM 85 82 "framerooms.errors" 194)::aV::bV::(pE "self" 287 "depth")::aV::(pC "__init__" "TooDeep.__init__" 5 0)::aaz::aaG::(kj "depth" 292)::YU P::Zh::(qA 96)::(qa 96)::EW::AY::(B0 P 304 "TooWide" 24 112 318)::aV::(BU 26 111)::(yX "TooWide" 299 24 102)::(yM 104 101 "framerooms.errors" 194)::aV::bV::(pE "self" 312 "many")::aV::(pC "__init__" "TooWide.__init__" 6 0)::SM::T7::(kj "many" 317)::T6 P::Ry::(qA 115)::(qa 115)::t
noncomputable def A7(t:List Obj):List Obj:=EW::AY::(B0 P 329 "TooLong" 29 131 343)::aV::(BU 31 130)::(yX "TooLong" 324 29 121)::(yM 123 120 "framerooms.errors" 194)::aV::bV::(pE "self" 337 "many")::aV::(pC "__init__" "TooLong.__init__" 7 0)::To::RH::(kj "many" 342)::Ve P::U0::(qA 134)::(qa 134)::EW::AY::(B0 P 354 "Twice" 34 150 368)::aV::(BU 36 149)::(yX "Twice" 349 34 140)::(yM 142 139 "framerooms.errors" 194)::aV::bV::(pE "self" 362 "label")::aV::(pC "__init__" "Twice.__init__" 8 0)::TF::TV::(kj "label" 367)::R7 P::Tc::(qA 153)::(qa 153)::EW::AY::(B0 P 379 "NoLabel" 39 169 393)::aV::(BU 41 168)::(yX "NoLabel" 374 39 159)::(yM 161 158 "framerooms.errors" 194)::aV::bV::(pE "self" 387 "label")::aV::(pC "__init__" "NoLabel.__init__" 9 0)::Uj::Vi::(kj "label" 392)::Vk P::RC::(qA 172)::(qa 172)::EW::AY::(B0 P 404 "NoMaking" 44 188 418)::aV::(BU 46 187)::(yX "NoMaking" 399 44 178)::(yM 180 177 "framerooms.errors" 194)::aV::bV::(pE "self" 412 "found")::aV::(pC "__init__" "NoMaking.__init__" 10 0)::(Fs "__init__" "NoMaking.__init__" 409 46 2 182 414)::(jj "__init__" "NoMaking.__init__" 10 0 "framerooms.errors" 194 187)::(kj "found" 417)::(vk P 404 44 188)::(wj "NoMaking" 175 397)::(qA 191)::(qa 191)::EW::AY::(B0 P 429 "NoText" 49 207 443)::aV::(BU 51 206)::(yX "NoText" 424 49 197)::(yM 199 196 "framerooms.errors" 194)::aV::bV::(pE "self" 437 "line")::aV::(pC "__init__" "NoText.__init__" 11 0)::TY::UE::(kj "line" 442)::UU P::Uq::(qA 210)::(qa 210)::t
noncomputable def E7(t:List Obj):List Obj:=aV::bV::(kj "thing" 456)::aV::(dJ "is_number" 15)::SX::U2::aV::bV::(vB "thing" 463 "low" "high")::aV::(dJ "is_whole" 16)::Uo::T5::aV::bV::(dJ "is_name" 17)::RW::R1::t
noncomputable def Hn(t:List Obj):List Obj:=RF P::TJ::Sg::Uk::Rt::Vd::RJ::Tz::Ua::Rr::T_::UL::Vh P::RE::RX::RK::SK::t
noncomputable def Nx(t:List Obj):List Obj:=aV::bV::(dJ "is_deed" 22)::Tt::Vf::aV::bV::(pE "kind" 555 "thing")::aV::(dJ "fits" 23)::T8::Tf::aV::bV::(kj "deed" 563)::aV::(dJ "parts_of" 24)::RD::Sn::aV::bV::(dJ "bodies_of" 25)::U7::Us::aV::bV::(kj "deed" 576)::aV::(dJ "is_block" 26)::TZ::TU::aV::bV::(vB "thing" 583 "deed" "body")::aV::(dJ "want_body" 27)::Sb::U8::aV::bV::(mH #[bP "body" 592,bP "many" 593,bP "deed" 594,bP "inner" 595])::aV::(dJ "many_in" 28)::U5::Ut::aV::bV::(mH #[bP "body" 602,bP "depth" 603,bP "deed" 604,bP "inner" 605])::aV::(dJ "depth_of" 29)::Rv::SA::OX::aV::bV::(mH #[bP "body" 613,bP "change" 614,bP "first" 615,bP "told" 616,bP "number" 617,bP "deed" 618])::aV::(dJ "rewritten" 30)::SU::G_::aV::bV::(mH #[bP "deed" 625,bP "change" 626,bP "first" 627,bP "parts" 628,bP "number" 629,bP "kind" 630,bP "part" 631])::aV::(dJ "with_bodies" 31)::Tj::RA::aV::bV::(mH #[bP "body" 638,bP "around" 639,bP "listed" 640,bP "deed" 641,bP "inner" 642,bP "within" 643])::aV::(dJ "listing" 32)::TN::S_::aV::bV::(dJ "widest_of" 33)::TR::Uw::aV::bV::(dJ "choices_of" 34)::U4::R9::aV::bV::(dJ "longest_of" 35)::UW::RM::aV::bV::(dJ "length_of" 36)::TK::Um::t
noncomputable def rZ:Y':=⟨⟨boot_o_0 P::boot_o_1 P::boot_o_2 P::boot_o_3 P::Jo P (bV::HR::Ip::[])⟩,{}⟩
noncomputable def A8:Y':=⟨⟨boot_o_0 P::boot_o_1 P::boot_o_2 P::(Jh (mE P "__name__" 165 (bP "framerooms.errors" 194)::Lj P ([])) 15)::Jo P ((Ue ⟨WL 0 Nf⟩)::HR::Ip::C_ P ({cls:= .type "type",data:=Data.cls {name:=Str.ofString "RoomError",bases:=[.type "ValueError"],mro:=[.ref 38,.type "ValueError",.type "Exception",.type "BaseException",.type "object"],ns:=37,qualname:=Str.ofString "RoomError",subclasses:=[.ref 58,.ref 77,.ref 96,.ref 115]},slots:= #[some (.ref 22),none,some (bP "RoomError" 196),some (bP "RoomError" 204),some (.builtin "ValueError.__new__"),some (.bool true)]}::C4 P ([])))⟩,{}⟩
noncomputable def xq:Y':=⟨⟨boot_o_0 P::boot_o_1 P::boot_o_2 P::(Jh (mE P "__name__" 165 (bP "framerooms.errors" 194)::Lj P (Fx P ([]))) 20)::Jo P ((Ue ⟨WL 0 Ks⟩)::HR::Ip::C_ P (CN::C4 P (A7 P ([]))))⟩,{}⟩
noncomputable def rN:Y':=⟨⟨boot_o_0 P::boot_o_1 P::boot_o_2 P::(Jh (mE P "__name__" 165 (bP "framerooms.deeds" 475)::Lj P (Fx P (Jt P ([])))) 26)::Jo P (Ju::HR::Ip::C_ P (CN::C4 P (A7 P (E7 ([])))))⟩,{}⟩
noncomputable def si:Y':=⟨⟨boot_o_0 P::boot_o_1 P::boot_o_2 P::(Jh (mE P "__name__" 165 (bP "framerooms.deeds" 475)::Lj P (Fx P (Jt P (dI P "FORMS" 528 232::dI P "BOUNDS" 545 244::[])))) 28)::Jo P (Ju::HR::Ip::C_ P (CN::C4 P (A7 P (E7 (Hn P ([]))))))⟩,{}⟩
noncomputable def xt:Y':=⟨⟨boot_o_0 P::boot_o_1 P::boot_o_2 P::(Jh (mE P "__name__" 165 (bP "framerooms.programs" 671)::Lj P (Fx P (Jt P (dI P "FORMS" 528 232::dI P "BOUNDS" 545 244::R3 P ([]))))) 47)::Jo P ((Ue ⟨WL 0 CP⟩)::HR::Ip::C_ P (CN::C4 P (A7 P (E7 (Hn P (Nx ([])))))))⟩,{}⟩
noncomputable def cD:Y':=⟨⟨boot_o_0 P::boot_o_1 P::boot_o_2 P::FA P::Jo P ((Ue ⟨WL 0 ID⟩)::HR::Ip::C_ P (CN::C4 P (A7 P (E7 (Hn P (Nx (aV::AY::(Jh [mE P "__module__" 688 (bP "framerooms.programs" 671),mE P "__qualname__" 690 (bP "Program" 689),mE P "__firstlineno__" 692 (.int 165 691),dI P "__init__" 700 356,dI P "told" 707 363,dI P "deeds" 714 370,dI P "names" 721 377,dI P "makings" 727 382,dI P "around" 735 389,dI P "widest" 742 396,dI P "longest" 749 403,dI P "__static_attributes__" 752 404] 12)::aV::(Ue ⟨WL 4 [(167,355),(175,362),(178,369),(181,376),(184,381),(187,388),(192,395),(195,402)]⟩)::(yX "Program" 683 165 346)::(yM 348 345 "framerooms.programs" 671)::aV::bV::(pE "self" 696 "deeds")::aV::(pC "__init__" "Program.__init__" 42 0)::M3::Ul::aV::bV::(kj "self" 704)::aV::(pC "told" "Program.told" 42 1)::UP::UC::aV::bV::(kj "self" 711)::aV::(pC "deeds" "Program.deeds" 42 2)::(Fs "deeds" "Program.deeds" 708 178 1 364 712)::(jj "deeds" "Program.deeds" 42 2 "framerooms.programs" 671 369)::aV::bV::(kj "self" 718)::aV::(pC "names" "Program.names" 42 3)::(Fs "names" "Program.names" 715 181 1 371 719)::(jj "names" "Program.names" 42 3 "framerooms.programs" 671 376)::aV::bV::(pC "makings" "Program.makings" 42 4)::(hdO #[bP "makings" 722,bP "Program.makings" 723,bP "/claim/cut.py" 724,.int 184 0,.int 1 0,.int 0 0,.int 0 0,.int 3 0,.ref 378,.bool true,.int 181 0,.ref 379,.none,.none,.none,.ref 380,.int 725 0,.int 184 0,bP "/claim/cut.py" 726])::(jj "makings" "Program.makings" 42 4 "framerooms.programs" 671 381)::aV::bV::(pE "self" 731 "number")::aV::(pC "around" "Program.around" 42 5)::(Fs "around" "Program.around" 728 187 2 383 733)::(jj "around" "Program.around" 42 5 "framerooms.programs" 671 388)::aV::bV::(kj "self" 739)::aV::(pC "widest" "Program.widest" 42 6)::(Fs "widest" "Program.widest" 736 192 1 390 740)::(jj "widest" "Program.widest" 42 6 "framerooms.programs" 671 395)::aV::bV::(kj "self" 746)::aV::(pC "longest" "Program.longest" 42 7)::(Fs "longest" "Program.longest" 743 195 1 397 747)::(jj "longest" "Program.longest" 42 7 "framerooms.programs" 671 402)::(pE "body" 750 "listed")::Ru P::Su::{cls:= .type "getset_descriptor",data:=Data.fields #[bP "__dict__" 753,.ref 406,.builtin "function.__dict__",.builtin "function.__dict__#set"]}::{cls:= .type "getset_descriptor",data:=Data.fields #[bP "__weakref__" 755,.ref 406,.builtin "ExceptionGroup.__weakref__",.none]}::(qA 406)::(qa 406)::aV::bV::(vB "body" 763 "many" "depth")::aV::(dJ "want_size" 43)::Up::SN::aV::bV::(vB "listed" 772 "deed" "around")::aV::(dJ "want_labels" 44)::Vb::SI::aV::bV::(vB "body" 781 "many" "steps")::aV::(dJ "want_runs" 45)::SO::TH::aV::bV::(pE "_law_script" 792 "_law_k")::aV::(dJ "_law_cell" 47)::RL::U9::aV::bV::(kj "_law_cell_here" 800)::aV::(dJ "_law_box" 48)::Sf::Td::aV::bV::(mH #[bP "_law_box_here" 807,bP "_law_many" 808,bP "_law_digit" 809,bP "_law_number_here" 810])::aV::(dJ "_law_take" 49)::UD::Sj::aV::bV::(dJ "_law_names" 50)::Se::Tu::aV::bV::(mH #[bP "_law_box_here" 823,bP "_law_names_here" 824,bP "_law_around" 825,bP "_law_kind" 826,bP "_law_x" 827,bP "_law_y" 828,bP "_law_k" 829,bP "_law_labels" 830,bP "_law_number_here" 831,bP "_law_some" 832])::aV::(dJ "_law_simple" 51)::Uz::Uh::aV::bV::(dJ "_law_body" 52)::TX::Vg::aV::bV::(dJ "_law_deeds" 53)::T1::UY::aV::bV::(kj "_law_deed" 851)::aV::(dJ "_law_bodies" 54)::SR::Sq::aV::bV::(dJ "_law_plain" 55)::U1::RU::aV::bV::(mH #[bP "_law_body_here" 864,bP "_law_around" 865,bP "_law_down" 866,bP "_law_found" 867,bP "_law_deed" 868,bP "_law_inside" 869,bP "_law_one" 870])::aV::(dJ "_law_listed" 56)::Rw::Uv::aV::bV::(dJ "_law_cost" 57)::Tp::RP::aV::bV::(mH #[bP "_law_body_here" 883,bP "_law_rows" 884,bP "_law_down" 885,bP "_law_deed" 886,bP "_law_around" 887,bP "_law_one" 888,bP "_law_asked" 889,bP "_law_done" 890])::aV::(dJ "_law_refusal" 58)::Sr::Sk::aV::bV::(vB "_law_thing" 897 "_law_low" "_law_high")::aV::(dJ "_law_whole" 59)::Rz::RI::aV::bV::(dJ "_law_name" 60)::Sv::SJ::aV::bV::(kj "_law_thing" 912)::aV::(dJ "_law_number" 61)::Tq::UQ::aV::bV::(kj "_law_thing" 919)::aV::(dJ "_law_is_body" 62)::UI::Ss::aV::bV::(kj "_law_parts" 926)::aV::(dJ "_law_is_block" 63)::TL::UG::aV::bV::(mH #[bP "_law_thing" 933,bP "_law_sizes" 934,bP "_law_word" 935,bP "_law_parts" 936])::aV::(dJ "_law_is_deed" 64)::Sl::Sz::aV::bV::(vB "_law_call" 943 "_law_told" "e")::aV::(dJ "_law_made" 65)::Uu::Ux::aV::bV::(mH #[bP "_law_body_here" 952,bP "_law_deed" 953,bP "_law_one" 954,bP "_law_found" 955])::aV::(dJ "_law_first_bad" 66)::SG::T9::aV::bV::(dJ "_law_put_at" 67)::R0::U_::aV::bV::(mH #[bP "_law_box_here" 968,bP "_law_deed" 969,bP "_law_mode" 970,bP "_law_place" 971,bP "_law_part" 972,bP "_law_near" 973,bP "_law_odd" 974,bP "_law_other" 975,bP "_law_word" 976,bP "_law_some" 977])::aV::(dJ "_law_bent" 68)::Uy::Si::aV::bV::(pE "_law_body_here" 984 "_law_bad")::aV::(dJ "_law_due" 69)::U3::TC::aV::bV::(mH #[bP "_law_body_here" 992,bP "_law_held" 993,bP "_law_due_here" 994,bP "_law_turn" 995,bP "_law_told" 996])::(kj "_law_body_here" 997)::(dJ "_law_right" 70)::Ms::Ti::aV::bV::(vB "_law_many" 1004 "_law_body_here" "_law_k")::aV::(dJ "_law_within" 71)::UH::R_::aV::bV::(dJ "_law_bounds_right" 72)::Va::RZ::aV::bV::(dJ "law" 73)::UM::Tw::[])))))))⟩,{}⟩
end
noncomputable abbrev jS:Z':=PySem.Challenge.rw_framerooms_k37_programs_refused.row.prog
noncomputable def kA:Env:={scope:=jS.main.scope,locals:=mainNs,globals:=mainNs,cells:=[],code:=Value.ref 13,frame:=some 14}
noncomputable def n_:List Stmt:=behindTheImports jS
noncomputable def wL:Code:=Code.body n_ kA
noncomputable def iz:aO:=some (Value.ref 6)
noncomputable abbrev Ft:Pos:={line:=0,col:=0,endLine:=0,endCol:=0}
theorem Ng(w:W')(os:OsState):topGo treeTable jS w 11 iz 12 ⟨boot_heap w.params,⟨[]⟩,boot_drawn,boot_toks,os⟩ (topStub jS)=some (⟨rZ w.params,⟨[]⟩,{},187,os⟩,⟨denote treeTable wL,wL,{line:=0,col:=0,endLine:=0,endCol:=0},[topFrame Ft]⟩):=by kernel_rfl
theorem Ij(w:W')(os:OsState):segRun treeTable jS w 11 iz 1 1 ⟨rZ w.params,⟨[]⟩,{},187,os⟩ (blockOf n_ kA wL {line:=0,col:=0,endLine:=0,endCol:=0} [topFrame Ft])=some (.next,⟨rZ w.params,⟨[]⟩,{},187,os⟩,wL,{line:=0,col:=0,endLine:=0,endCol:=0}):=by kernel_rfl
theorem WA(w:W')(os:OsState):segRun treeTable jS w 11 iz 1 1236 ⟨rZ w.params,⟨[]⟩,{},187,os⟩ (piecesOf ((n_.drop 0).take 7) kA wL {line:=0,col:=0,endLine:=0,endCol:=0} [topFrame Ft])=some (.next,⟨A8 w.params,⟨[]⟩,{},322,os⟩,wL,{line:=24,col:=0,endLine:=28,endCol:=24}):=by kernel_rfl
theorem P2(w:W')(os:OsState):segRun treeTable jS w 11 iz 1 1226 ⟨A8 w.params,⟨[]⟩,{},322,os⟩ (piecesOf ((n_.drop 7).take 5) kA wL {line:=24,col:=0,endLine:=28,endCol:=24} [topFrame Ft])=some (.next,⟨xq w.params,⟨[]⟩,{},447,os⟩,wL,{line:=49,col:=0,endLine:=53,endCol:=24}):=by kernel_rfl
theorem QK(w:W')(os:OsState):segRun treeTable jS w 11 iz 1 132 ⟨xq w.params,⟨[]⟩,{},447,os⟩ (piecesOf ((n_.drop 12).take 8) kA wL {line:=49,col:=0,endLine:=53,endCol:=24} [topFrame Ft])=some (.next,⟨rN w.params,⟨[]⟩,{},479,os⟩,wL,{line:=66,col:=0,endLine:=66,endCol:=9}):=by kernel_rfl
def Bl(os:OsState)(w:W'):Prop:=segRun treeTable jS w 11 iz 1 296 ⟨rN w.params,⟨[]⟩,{},479,os⟩ (piecesOf ((n_.drop 20).take 2) kA wL {line:=66,col:=0,endLine:=66,endCol:=9} [topFrame Ft])=some (.next,⟨si w.params,⟨[]⟩,{},546,os⟩,wL,{line:=68,col:=0,endLine:=68,endCol:=6})
theorem P4(w:W')(os:OsState):segRun treeTable jS w 11 iz 1 296 ⟨rN w.params,⟨[]⟩,{},479,os⟩ (piecesOf ((n_.drop 20).take 2) kA wL {line:=66,col:=0,endLine:=66,endCol:=9} [topFrame Ft])=some (.next,⟨si w.params,⟨[]⟩,{},546,os⟩,wL,{line:=68,col:=0,endLine:=68,endCol:=6}):=by have h:Bl os (w.withFollow "special-get-raises" (w.params.followText "special-get-raises")):=(λ(b:Bool) (w:W')=>show Bl os (w.withFollow "special-get-raises" b) by cases b<;>(unfold Bl;kernel_rfl)) _ w;rw[World.withFollow_self] at h;exact h
theorem Qe(w:W')(os:OsState):segRun treeTable jS w 11 iz 1 490 ⟨si w.params,⟨[]⟩,{},546,os⟩ (piecesOf ((n_.drop 22).take 20) kA wL {line:=68,col:=0,endLine:=68,endCol:=6} [topFrame Ft])=some (.next,⟨xt w.params,⟨[]⟩,{},681,os⟩,wL,{line:=164,col:=0,endLine:=164,endCol:=10}):=by kernel_rfl
theorem Pr(w:W')(os:OsState):segRun treeTable jS w 11 iz 1 1350 ⟨xt w.params,⟨[]⟩,{},681,os⟩ (piecesOf ((n_.drop 42).take 32) kA wL {line:=164,col:=0,endLine:=164,endCol:=10} [topFrame Ft])=some (.next,⟨cD w.params,⟨[]⟩,{},1022,os⟩,wL,{line:=476,col:=0,endLine:=489,endCol:=30}):=by kernel_rfl
theorem Ol(w:W')(os:OsState):topRun treeTable jS w 11 iz 2 ⟨cD w.params,⟨[]⟩,{},1022,os⟩ ⟨doneF .next,wL,{line:=476,col:=0,endLine:=489,endCol:=30},[topFrame Ft]⟩=some ⟨cD w.params,⟨[]⟩,{},1022,os⟩:=by kernel_rfl
theorem aai(w:W')(os:OsState):topRun treeTable jS w 11 iz 2 ⟨cD w.params,⟨[]⟩,{},1022,os⟩ (restOf [] kA wL {line:=476,col:=0,endLine:=489,endCol:=30} [topFrame Ft])=some ⟨cD w.params,⟨[]⟩,{},1022,os⟩:=piece_nil (Ol w os)
theorem aaO:n_.drop 74=[]:=by kernel_rfl
theorem Lm:((n_.drop 42).take 32)++([])=n_.drop 42:=by rw[<-aaO];have:=jE 32 (n_.drop 42);rwa[sv] at this
theorem Nc(w:W')(os:OsState):topRun treeTable jS w 11 iz (1350+2) ⟨xt w.params,⟨[]⟩,{},681,os⟩ (restOf (n_.drop 42) kA wL {line:=164,col:=0,endLine:=164,endCol:=10} [topFrame Ft])=some ⟨cD w.params,⟨[]⟩,{},1022,os⟩:=by rw[<-Lm];exact rK (Pr w os) (aai w os)
theorem KI:((n_.drop 22).take 20)++(n_.drop 42)=n_.drop 22:=by have:=jE 20 (n_.drop 22);rwa[sv] at this
theorem ML(w:W')(os:OsState):topRun treeTable jS w 11 iz (490+(1350+2)) ⟨si w.params,⟨[]⟩,{},546,os⟩ (restOf (n_.drop 22) kA wL {line:=68,col:=0,endLine:=68,endCol:=6} [topFrame Ft])=some ⟨cD w.params,⟨[]⟩,{},1022,os⟩:=by rw[<-KI];exact rK (Qe w os) (Nc w os)
theorem Ls:((n_.drop 20).take 2)++(n_.drop 22)=n_.drop 20:=by have:=jE 2 (n_.drop 20);rwa[sv] at this
theorem M0(w:W')(os:OsState):topRun treeTable jS w 11 iz (296+(490+(1350+2))) ⟨rN w.params,⟨[]⟩,{},479,os⟩ (restOf (n_.drop 20) kA wL {line:=66,col:=0,endLine:=66,endCol:=9} [topFrame Ft])=some ⟨cD w.params,⟨[]⟩,{},1022,os⟩:=by rw[<-Ls];exact rK (P4 w os) (ML w os)
theorem Ll:((n_.drop 12).take 8)++(n_.drop 20)=n_.drop 12:=by have:=jE 8 (n_.drop 12);rwa[sv] at this
theorem N_(w:W')(os:OsState):topRun treeTable jS w 11 iz (132+(296+(490+(1350+2)))) ⟨xq w.params,⟨[]⟩,{},447,os⟩ (restOf (n_.drop 12) kA wL {line:=49,col:=0,endLine:=53,endCol:=24} [topFrame Ft])=some ⟨cD w.params,⟨[]⟩,{},1022,os⟩:=by rw[<-Ll];exact rK (QK w os) (M0 w os)
theorem LQ:((n_.drop 7).take 5)++(n_.drop 12)=n_.drop 7:=by have:=jE 5 (n_.drop 7);rwa[sv] at this
theorem OE(w:W')(os:OsState):topRun treeTable jS w 11 iz (1226+(132+(296+(490+(1350+2))))) ⟨A8 w.params,⟨[]⟩,{},322,os⟩ (restOf (n_.drop 7) kA wL {line:=24,col:=0,endLine:=28,endCol:=24} [topFrame Ft])=some ⟨cD w.params,⟨[]⟩,{},1022,os⟩:=by rw[<-LQ];exact rK (P2 w os) (N_ w os)
theorem Ml:((n_.drop 0).take 7)++(n_.drop 7)=n_.drop 0:=by have:=jE 7 (n_.drop 0);rwa[sv] at this
theorem Qi(w:W')(os:OsState):topRun treeTable jS w 11 iz (1236+(1226+(132+(296+(490+(1350+2)))))) ⟨rZ w.params,⟨[]⟩,{},187,os⟩ (restOf (n_.drop 0) kA wL {line:=0,col:=0,endLine:=0,endCol:=0} [topFrame Ft])=some ⟨cD w.params,⟨[]⟩,{},1022,os⟩:=by rw[<-Ml];exact rK (WA w os) (OE w os)
theorem VO(w:W')(os:OsState):topRun treeTable jS w 11 iz (1+(1236+(1226+(132+(296+(490+(1350+2))))))) ⟨rZ w.params,⟨[]⟩,{},187,os⟩ ⟨denote treeTable wL,wL,{line:=0,col:=0,endLine:=0,endCol:=0},[topFrame Ft]⟩=some ⟨cD w.params,⟨[]⟩,{},1022,os⟩:=piece_block (Ij w os) (Qi w os)
theorem abv(w:W')(os:OsState):topRun treeTable jS w 11 iz (12+(1+(1236+(1226+(132+(296+(490+(1350+2)))))))) ⟨boot_heap w.params,⟨[]⟩,boot_drawn,boot_toks,os⟩ (topStub jS)=some ⟨cD w.params,⟨[]⟩,{},1022,os⟩:=go_top (Ng w os) (VO w os)
theorem XE:PySem.Challenge.rw_framerooms_k37_programs_refused.wellSaid=true:=by decide+kernel
end hd
noncomputable def uh:PySem.Params->Frag:=λP=>(nat_lit 1,PySem.W.boot_o_1 P)::(nat_lit 2,PySem.W.boot_o_2 P)::(nat_lit 3,FA P)::(nat_lit 4,PySem.W.boot_o_4 P)::(nat_lit 34,aau)::(nat_lit 35,abh)::(nat_lit 37,aaq P)::(nat_lit 38,CN)::(nat_lit 54,abb)::(nat_lit 55,abx)::(nat_lit 57,YJ P)::(nat_lit 58,aaY)::(nat_lit 73,ZA)::(nat_lit 74,YN)::(nat_lit 76,aab P)::(nat_lit 77,YR)::(nat_lit 92,aaz)::(nat_lit 93,aaG)::(nat_lit 95,YU P)::(nat_lit 96,Zh)::(nat_lit 111,SM)::(nat_lit 112,T7)::(nat_lit 114,T6 P)::(nat_lit 115,Ry)::(nat_lit 130,To)::(nat_lit 131,RH)::(nat_lit 133,Ve P)::(nat_lit 134,U0)::(nat_lit 149,TF)::(nat_lit 150,TV)::(nat_lit 152,R7 P)::(nat_lit 153,Tc)::(nat_lit 168,Uj)::(nat_lit 169,Vi)::(nat_lit 171,Vk P)::(nat_lit 172,RC)::(nat_lit 206,TY)::(nat_lit 207,UE)::(nat_lit 209,UU P)::(nat_lit 210,Uq)::(nat_lit 218,SX)::(nat_lit 219,U2)::(nat_lit 225,Uo)::(nat_lit 226,T5)::(nat_lit 230,RW)::(nat_lit 231,R1)::(nat_lit 232,RF P)::(nat_lit 233,TJ)::(nat_lit 234,Sg)::(nat_lit 235,Uk)::(nat_lit 236,Rt)::(nat_lit 237,Vd)::(nat_lit 238,RJ)::(nat_lit 239,Tz)::(nat_lit 240,Ua)::(nat_lit 241,Rr)::(nat_lit 242,T_)::(nat_lit 243,UL)::(nat_lit 244,Vh P)::(nat_lit 245,RE)::(nat_lit 246,RX)::(nat_lit 247,RK)::(nat_lit 248,SK)::(nat_lit 252,Tt)::(nat_lit 253,Vf)::(nat_lit 259,T8)::(nat_lit 260,Tf)::(nat_lit 266,RD)::(nat_lit 267,Sn)::(nat_lit 271,U7)::(nat_lit 272,Us)::(nat_lit 278,TZ)::(nat_lit 279,TU)::(nat_lit 285,Sb)::(nat_lit 286,U8)::(nat_lit 292,U5)::(nat_lit 293,Ut)::(nat_lit 299,Rv)::(nat_lit 300,SA)::(nat_lit 301,OX)::(nat_lit 307,SU)::(nat_lit 308,G_)::(nat_lit 314,Tj)::(nat_lit 315,RA)::(nat_lit 321,TN)::(nat_lit 322,S_)::(nat_lit 326,TR)::(nat_lit 327,Uw)::(nat_lit 331,U4)::(nat_lit 332,R9)::(nat_lit 336,UW)::(nat_lit 337,RM)::(nat_lit 341,TK)::(nat_lit 342,Um)::(nat_lit 355,M3)::(nat_lit 356,Ul)::(nat_lit 362,UP)::(nat_lit 363,UC)::(nat_lit 405,Ru P)::(nat_lit 406,Su)::(nat_lit 416,Up)::(nat_lit 417,SN)::(nat_lit 423,Vb)::(nat_lit 424,SI)::(nat_lit 430,SO)::(nat_lit 431,TH)::(nat_lit 437,RL)::(nat_lit 438,U9)::(nat_lit 444,Sf)::(nat_lit 445,Td)::(nat_lit 451,UD)::(nat_lit 452,Sj)::(nat_lit 456,Se)::(nat_lit 457,Tu)::(nat_lit 463,Uz)::(nat_lit 464,Uh)::(nat_lit 468,TX)::(nat_lit 469,Vg)::(nat_lit 473,T1)::(nat_lit 474,UY)::(nat_lit 480,SR)::(nat_lit 481,Sq)::(nat_lit 485,U1)::(nat_lit 486,RU)::(nat_lit 492,Rw)::(nat_lit 493,Uv)::(nat_lit 497,Tp)::(nat_lit 498,RP)::(nat_lit 504,Sr)::(nat_lit 505,Sk)::(nat_lit 511,Rz)::(nat_lit 512,RI)::(nat_lit 516,Sv)::(nat_lit 517,SJ)::(nat_lit 523,Tq)::(nat_lit 524,UQ)::(nat_lit 530,UI)::(nat_lit 531,Ss)::(nat_lit 537,TL)::(nat_lit 538,UG)::(nat_lit 544,Sl)::(nat_lit 545,Sz)::(nat_lit 551,Uu)::(nat_lit 552,Ux)::(nat_lit 558,SG)::(nat_lit 559,T9)::(nat_lit 563,R0)::(nat_lit 564,U_)::(nat_lit 570,Uy)::(nat_lit 571,Si)::(nat_lit 577,U3)::(nat_lit 578,TC)::(nat_lit 584,Ms)::(nat_lit 585,Ti)::(nat_lit 591,UH)::(nat_lit 592,R_)::(nat_lit 596,Va)::(nat_lit 597,RZ)::(nat_lit 601,UM)::(nat_lit 602,Tw)::[]
noncomputable def EG:PySem.Params->Frag:=λP=>(nat_lit 351,bV)::(nat_lit 580,bV)::uh P
noncomputable def WG:b_:=[351,580,1,2,3,4,34,35,37,38,54,55,57,58,73,74,76,77,92,93,95,96,111,112,114,115,130,131,133,134,149,150,152,153,168,169,171,172,206,207,209,210,218,219,225,226,230,231,232,233,234,235,236,237,238,239,240,241,242,243,244,245,246,247,248,252,253,259,260,266,267,271,272,278,279,285,286,292,293,299,300,301,307,308,314,315,321,322,326,327,331,332,336,337,341,342,355,356,362,363,405,406,416,417,423,424,430,431,437,438,444,445,451,452,456,457,463,464,468,469,473,474,480,481,485,486,492,493,497,498,504,505,511,512,516,517,523,524,530,531,537,538,544,545,551,552,558,559,563,564,570,571,577,578,584,585,591,592,596,597,601,602]
theorem JI:∀P,WG=(EG P).map (·.1):=λ_=>by kernel_rfl
noncomputable def rn:PySem.Program:={PySem.Challenge.pw_framerooms_k37_programs_refused with main:={PySem.Challenge.pw_framerooms_k37_programs_refused.main with body:=[jp 0,jp 2,jp 3,jp 4,jp 5,jp 6,jp 7,jp 8,jp 9,jp 10,jp 11,jp 13,jp 14,jp 15,jp 16,jp 17,jp 19,jp 20,jp 21,jp 22,jp 23,jp 24,jp 25,jp 26,jp 27,jp 28,jp 29,jp 31,jp 32,jp 33,jp 34,jp 35,jp 36,jp 38,jp 39,jp 40,jp 41,jp 42,jp 43,jp 44,jp 45,jp 47,jp 48,jp 49,jp 50,jp 51,jp 52,jp 53,jp 54,jp 55,jp 56,jp 57,jp 58,jp 59,jp 60,jp 61,jp 62,jp 63,jp 64,jp 65,jp 66,jp 67,jp 68,jp 69,jp 70,jp 71,jp 72,jp 73]}}
noncomputable abbrev zw:List PySem.Str:=["FORMS","BOUNDS","rewritten"]
noncomputable abbrev pJ:PySem.W.Hook:=PySem.W.kHook EG WG JI
theorem Q1(w:PySem.World):(λos:PySem.OsState=>((PySem.W.staticsOk (importedModules jS.main.body) (PySem.W.boot_heap w.params) (cD w.params)&&PySem.W.namesBound jS (cD w.params)&&PySem.W.gensDone ⟨cD w.params,⟨[]⟩,{},1022,os⟩&&PySem.W.laidKept (PySem.W.boot_heap w.params) (cD w.params)),PySem.W.openSeen rn zw (importedModules jS.main.body) (λs=>PySem.W.xlAt rn [] s&&PySem.W.recOk (PySem.W.RowW.records PySem.Challenge.rw_framerooms_k37_programs_refused.row.toRowW) s) true ⟨cD w.params,⟨[]⟩,{},1022,os⟩,pJ.obs ⟨cD w.params,⟨[]⟩,{},1022,os⟩))=λ_=>(true,PySem.W.openGood rn zw,pJ.val w):=by kernel_rfl
theorem WK:PySem.W.LeftO PySem.Challenge.rw_framerooms_k37_programs_refused.row.prog rn zw (λs=>PySem.W.xlAt rn [] s&&PySem.W.recOk (PySem.W.RowW.records PySem.Challenge.rw_framerooms_k37_programs_refused.row.toRowW) s) pJ.obs pJ.val 9574:=PySem.W.LeftO.of_pieces (H₀:=PySem.W.boot_heap) (H₁:=cD) (gs₁:=⟨[]⟩) (d₁:={}) (k₁:=1022) (m₀:=11) (ann:=iz) (PySem.W.boot_open Z (by decide) (λ_=>rfl)) (λ_=>by kernel_rfl) abv (by decide) Q1
end My
namespace L2
open PySem PySem.Spec PyProof.Rows
abbrev wS:=Sum Int Str
noncomputable def yG:wS->M'->Bool
 | .inl k,v=>Value.isInt k v
 | .inr x,v=>Value.isStrOf x v
noncomputable def aed(w:W'):wS->Int
 | .inl k=>hashInt k
 | .inr x=>hashStr w x
theorem dP:∀{k:wS} {v:M'},yG k v=true->(∃i t,k=Sum.inl i/\v=Value.int i t)\/(∃x t,k=Sum.inr x/\v=Value.str x t)
 | .inl i,v,h=>by
  obtain⟨t,e⟩:=Value.isInt_shape (k:=i) (v:=v) h;exact .inl ⟨i,t,Z,e⟩
 | .inr x,v,h=>by
  obtain⟨t,e⟩:=Value.isStrOf_shape (x:=x) (v:=v) h;exact .inr ⟨x,t,Z,e⟩
theorem LJ(i:Int)(t:Tok):yG (.inl i) (.int i t)=true:=by simp[yG,Value.isInt]
theorem K1(x:Str)(t:Tok):yG (.inr x) (.str x t)=true:=by simp[yG,Value.isStrOf]
theorem Wf(a b:Int):decide ((Sum.inl a:wS)=Sum.inl b)=(a==b):=by
 by_cases e:a=b
 .subst e;simp
 .have h:¬(Sum.inl a:wS)=Sum.inl b:=λq=>e (Sum.inl.inj q);rw[ba h];exact(sr.mpr e).symm
theorem Wc(a b:Str):decide ((Sum.inr a:wS)=Sum.inr b)=decide (a=b):=by
 by_cases e:a=b
 .subst e;simp
 .have h:¬(Sum.inr a:wS)=Sum.inr b:=λq=>e (vp q);rw[ba h,ba e]
theorem WN(a:Int)(b:Str):decide ((Sum.inl a:wS)=Sum.inr b)=false:=ba (λq=>nomatch q)
theorem XO(a:Str)(b:Int):decide ((Sum.inr a:wS)=Sum.inl b)=false:=ba (λq=>nomatch q)
noncomputable def cW(prog:Z')(w:W'):PySem.KeyKind prog w wS where
 is:=yG
 hash:=aed w
 inj:=λv a b ha hb=>by
  rcases dP ha with⟨i,t,rfl,rfl⟩|⟨x,t,rfl,rfl⟩
  .rcases dP hb with⟨j,u,rfl,e⟩|⟨y,u,rfl,e⟩
   .injection e with e1 _;rw[e1]
   .exact nomatch e
  .rcases dP hb with⟨j,u,rfl,e⟩|⟨y,u,rfl,e⟩
   .exact nomatch e
   .injection e with e1 _;rw[e1]
 byValue:=λk v h=>by
  rcases dP h with⟨i,t,rfl,rfl⟩|⟨x,t,rfl,rfl⟩<;>rfl
 pyHash:=λhv h=>by
  rcases dP hv with⟨i,t,rfl,rfl⟩|⟨x,t,rfl,rfl⟩
  .exact wpAny_pyHash_int h
  .exact wpAny_pyHash_str h
 eqBool:=λhu hv h=>by
  rcases dP hu with⟨i,t,rfl,rfl⟩|⟨x,t,rfl,rfl⟩
  .rcases dP hv with⟨j,u,rfl,rfl⟩|⟨y,u,rfl,rfl⟩
   .rw[Wf] at h;exact wpAny_eqBool_int h
   .rw[WN] at h;exact SeqAt.EqAt.int_str i t y u _ _ _ _ h
  .rcases dP hv with⟨j,u,rfl,rfl⟩|⟨y,u,rfl,rfl⟩
   .rw[XO] at h;exact SeqAt.EqAt.str_int x t j u _ _ _ _ h
   .rw[Wc] at h;exact wpAny_eqBool_str h
 «strs» :=λk x t v h=>by
  rcases dP h with⟨i,u,rfl,e⟩|⟨y,u,rfl,e⟩
  .exact nomatch e
  .injection e with e1 _;subst e1;cases v<;>rfl
theorem Fu(prog:Z')(w:W')(i:Int)(t:Tok):(cW prog w).is (.inl i) (.int i t)=true:=LJ i t
theorem GO(prog:Z')(w:W')(x:Str)(t:Tok):(cW prog w).is (.inr x) (.str x t)=true:=K1 x t
inductive V where
 |bp|bl (b:Bool)|int (i:Int)|str (x:Str)|JC (b:Array UInt8)|WW (b:UInt64)|ref (a:S')|ty (n:String)
 deriving DecidableEq
noncomputable abbrev eJ:=List (wS×V)
noncomputable abbrev ak:=List V
noncomputable abbrev ji:=List (Str×V)
def RelV:V->M'->Prop
 | .bp,u=>u=Value.none
 | .bl b,u=>u=Value.bool b
 | .int i,u=>∃t,u=Value.int i t
 | .str x,u=>∃t,u=Value.str x t
 | .JC b,u=>∃t,u=Value.bytes b t
 | .WW b,u=>∃t,u=Value.float b t
 | .ref a,u=>u=Value.ref a
 | .ty n,u=>u=Value.type n
abbrev Vals:ak->aF->Prop:=Paired RelV
theorem Vals.length{xs:ak}{us:aF}(r:Vals xs us):xs.length=us.length:=Paired.length r
theorem Vals.get:∀{xs:ak} {us:aF} {i:Nat} {x:V},Vals xs us->xs[i]? =some x->∃u,us[i]? =some u/\RelV x u
 |_,_,_,_,.nil,e=>by simp at e
 |_,_,0,_,.cons r _,e=>by simp at e;subst e;exact⟨_,Z,r⟩
 |_,_,i+1,x,.cons _ t,e=>by
  obtain⟨u,h1,h2⟩:=Vals.get (i:=i) (x:=x) t (by simpa using e);exact⟨u,by simpa using h1,h2⟩
theorem Vals.set{x:V}{u:M'}(r:RelV x u):∀{xs:ak} {us:aF} (i:Nat),Vals xs us->Vals (xs.set i x) (us.set i u)
 |_,_,_,.nil=> .nil
 |_,_,0,.cons _ t=> .cons r t
 |_,_,i+1,.cons q t=> .cons q (Vals.set r i t)
theorem Vals.append:∀{xs ys:ak} {us ws:aF},Vals xs us->Vals ys ws->Vals (xs++ys) (us++ws)
 |_,_,_,_,.nil,s=>s
 |_,_,_,_,.cons r t,s=> .cons r (Vals.append t s)
theorem Vals.take:∀{xs:ak} {us:aF} (n:Nat),Vals xs us->Vals (xs.take n) (us.take n)
 |_,_,0,_=> .nil
 |_,_,_+1,.nil=> .nil
 |_,_,n+1,.cons r t=> .cons r (Vals.take n t)
theorem Vals.drop:∀{xs:ak} {us:aF} (n:Nat),Vals xs us->Vals (xs.drop n) (us.drop n)
 |_,_,0,r=>r
 |_,_,_+1,.nil=> .nil
 |_,_,n+1,.cons _ t=>Vals.drop n t
def m4:Option V->aO->Prop
 |some v,some u=>RelV v u
 |none,none=>True
 |_,_=>False
def KV{κ:Type}:List (κ×V)->List (κ×M')->Prop:=Paired λ(p:κ×V) (q:κ×M')=>p.1=q.1/\RelV p.2 q.2
noncomputable def kV:wS->V
 | .inl i=> .int i
 | .inr x=> .str x
inductive HO where
 |lst (xs:ak)
 |tup (xs:ak)
 |dK (kvs:eJ)|dT (kvs:List (List wS×V))
 |set (S:Int->Bool) (n:Nat)
 |ins (C dx:S') (fs:ji)
 |own (x:S')
 |xd (fs:ji)
 |met (f x:S')
 |rng (lo hi:Int)
 |FW (o:Obj) (u:HO)
 |wg (ps:Array M')
 |ext (φ:Y'->Prop)
abbrev Hp:=S'->Option HO
noncomputable def upd(H:Hp)(a:S')(o:HO):Hp:=λb=>if b=a then some o else H b
theorem af{H:Hp}{a:S'}{o:HO}:upd H a o a=some o:=by unfold upd;rw[aB Z]
theorem az{H:Hp}{a b:S'}{o:HO}(h:b≠a):upd H a o b=H b:=by unfold upd;rw[ax h]
theorem Qk{H:Hp}{a:S'}{o u:HO}:upd (upd H a o) a u=upd H a u:=by
 funext b;unfold upd;split<;>rfl
theorem dw{H:Hp}{a b:S'}{o u:HO}(h:H a=some o)(h' :H b=some u)(d:o≠u):a≠b:=by
 intro e;subst e;rw[h] at h';exact d (fV h')
theorem aA{H:Hp}{a b:S'}{o:HO}(h:H a=some o)(h' :H b=none):a≠b:=by
 intro e;subst e;rw[h] at h';cases h'
section
variable(P:Z')(w:W')
def cu(H:Hp)(h:Y')(a:S'):HO->Prop
 | .lst xs=>xs.length<=sizeLine/\∃(its:aF) (n:Nat),Vals xs its/\h.get? a=some {cls:= .type "list",data:= .seq its.toArray n}
 | .tup xs=>xs.length<=sizeLine/\∃its:aF,Vals xs its/\IsTup h a its.toArray
 | .dK kvs=>kvs.length<=sizeLine/\(a==sysModules)=false/\∃vs,KV kvs vs/\h.DictOf (cW P w) a vs
 | .dT kvs=>kvs.length<=sizeLine/\(a==sysModules)=false/\∃xs:List (List wS×S'×M'),
  Paired (λ(p:List wS×V) (q:List wS×S'×M')=>p.1=q.1/\H q.2.1=some (.tup (p.1.map kV))/\RelV p.2 q.2.2) kvs xs/\
  ∃o es ep,h.get? a=some o/\o.ExactDict/\o.data= .dict es ep/\es.toList=xs.map (entryOfKey (tupleKind (cW P w)))/\(xs.map (·.1)).Nodup
 | .set S n=>h.SetOf (intKind P w) a S n
 | .ins C dx fs=>H dx=some (.own a)/\fs.length<=1000/\dx≠a/\h.get? a=some (instObj C dx)/\
  ∃mA,h.Ns1 dx mA/\(∀f,m4 (fs.lookup f) (mA f))/\PySem.Within mA (fs.map (·.1))
 | .own _=>∃o,h.get? a=some o
 | .xd fs=>∃mA,h.Ns1 a mA/\∀f,m4 (fs.lookup f) (mA f)
 | .rng lo hi=>∃t u v,h.get? a=some {cls:= .type "range",data:= .fields #[.int lo t,.int hi u,.int 1 v]}
 | .FW o u=>h.get? a=some o/\cu H h a u
 | .wg ps=>h.get? a=some {cls:= .none,data:= .fields ps}
 | .met f x=>h.get? a=some (methodObj (.ref f) (.ref x))
 | .ext φ=>φ h/\(∃o,h.get? a=some o)/\∀h1 h2:Y',φ h1->(∀o,h1.get? a=some o->h2.get? a=some o)->φ h2
def pG(H:Hp)(h:Y'):Prop:=∀a o,H a=some o->cu P w H h a o
end
section
variable{P:Z'}{w:W'}{H H' :Hp}{h h' :Y'}{a:S'}{o:HO}
theorem cu.lt(x:cu P w H h a o):a<h.objs.size:=by
 cases o with
 |lst xs=>obtain⟨_,_,_,_,e⟩:=x;exact a_ e
 |tup xs=>obtain⟨_,_,_,p⟩:=x;exact p.lt
 |dK kvs=>obtain⟨_,_,_,_,o,_,_,e,_⟩:=x;exact a_ e
 |dT kvs=>obtain⟨_,_,_,_,o,_,_,e,_⟩:=x;exact a_ e
 |set S n=>obtain⟨o,_,_,_,e,_⟩:=x;exact a_ e
 |ins C dx fs=>obtain⟨_,_,_,e,_⟩:=x;exact a_ e
 |own y=>obtain⟨_,e⟩:=x;exact a_ e
 |xd fs=>obtain⟨_,⟨_,_,_,e,_⟩,_⟩:=x;exact a_ e
 |rng lo hi=>obtain⟨_,_,_,e⟩:=x;exact a_ e
 |FW ob u=>obtain⟨e,_⟩:=x;exact a_ e
 |wg ps=>exact a_ (show h.get? a=some _ from x)
 |met f y=>exact a_ (show h.get? a=some _ from x)
 |ext φ=>obtain⟨_,⟨_,e⟩,_⟩:=x;exact a_ e
theorem Paired.aap{α β:Type}{F G:α->β->Prop}:∀{ZT:List α} {Y4:List β},Paired F ZT Y4->(∀a b,F a b->G a b)->Paired G ZT Y4
 |_,_,.nil,_=> .nil
 |_,_,.cons r t,f=> .cons (f _ _ r) (Paired.aap t f)
theorem cu.Bj(x:cu P w H h a o)(k:∀b u,(b=a\/H b=some (.own a))->h.get? b=some u->h'.get? b=some u)
 (ho:∀b,H b=some (.own a)->H' b=some (.own a)) (ht:∀b xs,H b=some (.tup xs)->H' b=some (.tup xs)):cu P w H' h' a o:=by
 induction o with
 |lst xs=>obtain⟨z,its,n,r,e⟩:=x;exact⟨z,its,n,r,k _ _ (.inl Z) e⟩
 |tup xs=>obtain⟨z,its,r,ob,e,c⟩:=x;exact⟨z,its,r,ob,k _ _ (.inl Z) e,c⟩
 |dK kvs=>obtain⟨z,y,vs,r,ob,es,ep,e,c⟩:=x;exact⟨z,y,vs,r,ob,es,ep,k _ _ (.inl Z) e,c⟩
 |dT kvs=>
  obtain⟨z,y,xs,r,ob,es,ep,e,c⟩:=x;exact⟨z,y,xs,Paired.aap r λp q z=>⟨z.1,ht _ _ z.2.1,z.2.2⟩,ob,es,ep,k _ _ (.inl Z) e,c⟩
 |set S n=>obtain⟨ob,es,ep,t,e,c⟩:=x;exact⟨ob,es,ep,t,k _ _ (.inl Z) e,c⟩
 |ins C dx fs=>
  obtain⟨d,z,ne,e,mA,⟨od,es,ep,e2,c⟩,r⟩:=x;exact⟨ho _ d,z,ne,k _ _ (.inl Z) e,mA,⟨od,es,ep,k _ _ (.inr d) e2,c⟩,r⟩
 |own y=>obtain⟨ob,e⟩:=x;exact⟨ob,k _ _ (.inl Z) e⟩
 |xd fs=>obtain⟨mA,⟨od,es,ep,e,c⟩,r⟩:=x;exact⟨mA,⟨od,es,ep,k _ _ (.inl Z) e,c⟩,r⟩
 |rng lo hi=>obtain⟨t,u,v,e⟩:=x;exact⟨t,u,v,k _ _ (.inl Z) e⟩
 |FW ob u ih=>obtain⟨e,q⟩:=x;exact⟨k _ _ (.inl Z) e,ih q⟩
 |wg ps=>
  have e:h.get? a=some {cls:= .none,data:= .fields ps}:=x;show h'.get? a=some {cls:= .none,data:= .fields ps};exact k a _ (.inl Z) e
 |met f y=>
  have e:h.get? a=some (methodObj (.ref f) (.ref y)):=x;show h'.get? a=some (methodObj (.ref f) (.ref y));exact k a _ (.inl Z) e
 |ext φ=>obtain⟨p,⟨o,e⟩,st⟩:=x;exact⟨st _ _ p λo q=>k _ _ (.inl Z) q,⟨o,k _ _ (.inl Z) e⟩,st⟩
theorem pG.lt(x:pG P w H h)(e:H a=some o):a<h.objs.size:=(x a o e).lt
theorem pG.fresh(x:pG P w H h)(e:h.objs.size<=a):H a=none:=by
 cases q:H a with
 |none=>rfl
 |some u=>exact absurd (cQ (x.lt q) e) (cA _)
theorem pG.kept(x:pG P w H h)(k:∀b u,h.get? b=some u->h'.get? b=some u):pG P w H h' :=λa o e=>
 (x a o e).Bj (λb u _ q=>k b u q) (λ_ q=>q) λ_ _ q=>q
theorem pG.laid(x:pG P w H h)(k:∀b u,h.get? b=some u->h'.get? b=some u)(hp:h.objs.size<=a)(new:cu P w (upd H a o) h' a o):pG P w (upd H a o) h' :=λb u e=>by
 have hn:=x.fresh hp;by_cases hb:b=a
 .subst hb;rw[af] at e;cases e;exact new
 .rw[az hb] at e;exact(x b u e).Bj (λc v _ q=>k c v q) (λc q=>by rw[az (aA q hn)];exact q) λc xs q=>by rw[az (aA q hn)];exact q
end
def Rd(H:Hp)(a:S')(u:HO):Prop:=H a=some u\/∃o,H a=some (.FW o u)
theorem Rd.ok{P:Z'}{w:W'}{H:Hp}{h:Y'}{a:S'}{u:HO}(r:Rd H a u)(x:pG P w H h):cu P w H h a u:=by
 rcases r with r|⟨o,r⟩
 .exact x a u r
 .obtain⟨_,q⟩:=x a _ r;exact q
def Mut:Option HO->Prop
 |some (.lst _)=>True
 |some (.dK _)=>True
 |some (.dT _)=>True
 |some (.set _ _)=>True
 |some (.ins _ _ _)=>True
 |some (.ext _)=>True
 |_=>False
section
variable{P:Z'}{w:W'}{H:Hp}{h h' :Y'}{x e:S'}{o' :HO}
theorem pG.write(ok:pG P w H h)(mu:Mut (H x))(he:e=x\/H e=some (.own x))(k:∀b u,b≠e->h.get? b=some u->h'.get? b=some u)(Ym:∃u,h'.get? e=some u)
 (new:cu P w (upd H x o') h' x o'):pG P w (upd H x o') h' :=λb u q=>by
 have Y3:∀c y,H c=some (.own y)->c≠x:=λc y r z=>by subst z;rw[r] at mu;exact mu
 have aev:∀c xs,H c=some (.tup xs)->c≠x:=λc xs r z=>by subst z;rw[r] at mu;exact mu
 by_cases hb:b=x
 .subst hb;rw[af] at q;cases q;exact new
 .rw[az hb] at q;by_cases E6:b=e
  .have q' :H b=some (.own x):=by
    rcases he with z|z
    .exact absurd (E6.trans z) hb
    .rw[E6];exact z
   rw[q] at q';cases q'
   obtain⟨v,hv⟩:=Ym;exact⟨v,by rw[E6];exact hv⟩
  .refine(ok b u q).Bj (λc v hc r=>k c v ?_ r) (λc r=>by rw[az (Y3 c b r)];exact r) λc xs r=>by rw[az (aev c xs r)];exact r
   rcases hc with rfl|hc
   .exact E6
   .rintro rfl
    rcases he with z|z
    .exact Y3 c b hc z
    .rw[hc] at z;cases z;exact hb rfl
end
structure Un(fs ex:b_)(H H' :Hp)(h h' :Y'):Prop where
 keep:∀b o,h.get? b=some o->H b=none->b∉fs->b∉ex->h'.get? b=some o
 slot:∀b o,h.get? b=some o->H b=none->b∈fs->b∉ex->∃sl,h'.get? b=some {o with slots:=sl}
 free:∀b o,h.get? b=some o->H b=none->b∉ex->H' b=none
 there:∀b o,h.get? b=some o->b∉ex->∃o',h'.get? b=some o'
 Cn:∀b xs,H b=some (.tup xs)->H' b=some (.tup xs)
 Ax:∀b o u,H b=some (.FW o u)->H' b=some (.FW o u)
 A9:∀b ps,H b=some (.wg ps)->∃more,H' b=some (.wg (ps++more))
section
variable{fs fs' ex ex' :b_}{H H1 H2:Hp}{h h1 h2 h' :Y'}{a x e:S'}{o:HO}
theorem Un.any(u:Un fs ex H H1 h h1){b:S'}{ob:Obj}(q:h.get? b=some ob)(n:H b=none)(hx:b∉ex):∃sl,h1.get? b=some {ob with slots:=sl}:=by
 by_cases hb:b∈fs
 .exact u.slot b ob q n hb hx
 .exact⟨ob.slots,u.keep b ob q n hb hx⟩
theorem Un.kept(k:∀b u,h.get? b=some u->h'.get? b=some u):Un fs ex H H h h' :=
 ⟨λb ob q _ _ _=>k b ob q,λb ob q _ _ _=>⟨ob.slots,k b ob q⟩,λ_ _ _ n _=>n,λb ob q _=>⟨ob,k b ob q⟩,λ_ _ q=>q,λ_ _ _ q=>q,λ_ ps q=>⟨#[],by rw[q];simp⟩⟩
theorem Un.refl:Un fs ex H H h h:=Un.kept λ_ _ q=>q
theorem Un.laid(k:∀b u,h.get? b=some u->h'.get? b=some u)(hp:h.objs.size<=a)(hn:H a=none):Un fs ex H (upd H a o) h h' where
 keep:=λb u q _ _ _=>k b u q
 slot:=λb u q _ _ _=>⟨u.slots,k b u q⟩
 free:=λb u q n _=>by rw[az (cJ (cQ (a_ q) hp))];exact n
 there:=λb u q _=>⟨u,k b u q⟩
 Cn:=λb xs q=>by rw[az (aA q hn)];exact q
 Ax:=λb u xs q=>by rw[az (aA q hn)];exact q
 A9:=λb ps q=>⟨#[],by rw[az (aA q hn),q];simp⟩
theorem Un.write(mu:Mut (H x))(he:e=x\/H e=some (.own x))(k:∀b u,b≠e->h.get? b=some u->h'.get? b=some u)(Ym:∃u,h'.get? e=some u):Un fs ex H (upd H x o) h h' :=by
 have hx:∀b,H b=none->b≠x:=λb n z=>by subst z;rw[n] at mu;exact mu
 have hb:∀b,H b=none->b≠e:=λb n z=>by
  subst z;rcases he with r|r
  .exact hx b n r
  .rw[n] at r;cases r
 have hm:∀b u,H b=some u->¬Mut (some u)->b≠x:=λb u q nm z=>by subst z;rw[q] at mu;exact nm mu
 refine⟨λb u q n _ _=>k b u (hb b n) q,λb u q n _ _=>⟨u.slots,k b u (hb b n) q⟩,λb u q n _=>by rw[az (hx b n)];exact n,λb u q _=> ?_,
  λb xs q=>by rw[az (hm b _ q λz=>z)];exact q,λb u xs q=>by rw[az (hm b _ q λz=>z)];exact q,λb ps q=>⟨#[],by rw[az (hm b _ q λz=>z),q];simp⟩⟩
 by_cases E6:b=e
 .subst E6;exact Ym
 .exact⟨u,k b u E6 q⟩
end
noncomputable def trk(h:Y')(H:Hp):b_:=(List.range h.objs.size).filter λa=>(H a).isSome
noncomputable def BX(h:Y')(H:Hp):Y':=PySem.W.hideAll h (trk h H)
theorem DE(h:Y')(H:Hp):(BX h H).objs.size=h.objs.size:=PySem.W.hideAll_size _ _
theorem Al{h:Y'}{H:Hp}{b:S'}{o:Obj}(e:h.get? b=some o)(n:H b=none):(BX h H).get? b=some o:=
 PySem.W.hideAll_get _ e λhm=>by
  have q:(H b).isSome=true:=(rR.mp hm).2;rw[n] at q;simp at q
theorem E9{h:Y'}{H:Hp}{b:S'}{o:Obj}(e:(BX h H).get? b=some o):h.get? b=some o/\H b=none:=by
 have e' :h.get? b=some o:=PySem.W.of_hideAll (trk h H) e;refine⟨e',?_⟩
 cases q:H b with
 |none=>rfl
 |some x=>
  have hm:b∈trk h H:=rR.mpr ⟨mY.mpr (a_ e'),by simp[q]⟩;have z:(BX h H).get? b=none:=PySem.W.hideAll_none (trk h H) hm;rw[z] at e;cases e
noncomputable def PN(g h:Y')(L:S'):aQ:=(List.range h.objs.size).filterMap λa=>if a=L\/(g.get? a).isSome=true then none else(h.get? a).map λo=>(a,o)
noncomputable def rest(g h:Y')(L d:S'):aQ:=(PN g h L).filter λp=>decide (p.1≠d)
structure Mod(K:Frag)(mg:Str->aO)(base:Y'):Prop where
 xr:K.In base
 glob:base.Ns mainGlobals mg
 blt:∃mb,base.Ns builtinsNs mb/\∀x:Str,x≠ "__name__" ->mb x=bootBuiltins x
 nolimit:base.NoLimit
structure Cx where
 prog:Z'
 w:W'
 K:Frag
 mg:Str->aO
 base:Y'
 A:X'
 N:au
 fO:R'
 H₀:Hp
 env:Env
 outer:List Env
 stack:List Env
 ex:b_
 fn:Str->Bool
 calm:Bool
 pn:aQ
 xe:J'
noncomputable def Ct(l:List Env):b_:=l.filterMap (·.frame)
noncomputable abbrev Cx.fs(X:Cx):b_:=Ct X.outer
def Vis(sc:Scope)(x:Str):Prop:=sc.names.lookup x=some .local\/sc.names.lookup x=some .cell\/sc.names.lookup x=some .free
def Loc(sc:Scope)(x:Str):Prop:=sc.names.lookup x=some .local\/sc.names.lookup x=some .cell
def jaG(env:Env)(h:Y')(m:Str->aO)(x:Str)(u:M'):Prop:=
 (env.kindOf x=some .local/\m x=some u)\/((env.kindOf x=some .cell\/env.kindOf x=some .free)/\∃c,env.cells.lookup x=some c/\h.IsCell c (some u))
structure Cx.Ok(X:Cx):Prop where
 mod:Mod X.K X.mg X.base
 kind:X.env.scope.kind= .function
 glob:X.env.globals=mainGlobals
 blt:X.env.builtins=builtinsNs
 above:X.fO.heap.objs.size<=X.env.locals
 inj:∀x y c,X.env.cells.lookup x=some c->X.env.cells.lookup y=some c->x=y
 has:∀x,(X.env.kindOf x=some .cell\/X.env.kindOf x=some .free)->∃c,X.env.cells.lookup x=some c
 Ui:∀x c,X.fn x=true->X.env.cells.lookup x=some c->X.fO.heap.objs.size<=c
 hd:X.calm=true->X.A.handled=none
 frames:X.A.frames=some X.stack
 QS:X.stack=X.outer\/(X.stack=X.env::X.outer/\X.env.frame=some X.env.locals)
 exf:∀b∈X.ex,b≠X.env.locals/\∀x c,X.env.cells.lookup x=some c->c≠b
 bs:∀b o,X.base.get? b=some o->X.fO.heap.get? b=some o/\X.H₀ b=none
 LN:X.base.objs.size<=X.fO.heap.objs.size
 Ho:∀b o,X.base.get? b=some o->b∉X.ex
 Ln:∀b∈X.ex,b∉X.fs
 sS:X.fO.heap.FunFrames X.base X.outer
 Ph:∀b∈X.fs,X.H₀ b=none
structure Inv(X:Cx)(ad:aQ)(σ:List (Option V))(H:Hp)(s:R'):Prop where
 ok:X.Ok
 os:s.os=X.fO.os
 bare:AllBare s.gens
 base:Un X.fs X.ex X.H₀ H X.fO.heap s.heap
 loc:∃m,s.heap.Ns X.env.locals m/\∀(i:Nat) (x:Str) (v:V),X.N[i]? =some x->σ[i]? =some (some v)->Vis X.env.scope x->∃u,RelV v u/\jaG X.env s.heap m x u
 cell:∀x c,X.env.cells.lookup x=some c->∃v,s.heap.IsCell c v
 free:H X.env.locals=none
 jZ:∀x c,X.env.cells.lookup x=some c->H c=none
 pin:∀p∈X.pn++ad,s.heap.get? p.1=some p.2/\H p.1=none/\p.1≠X.env.locals/\p.1∉X.fs/\∀v,p.2.data≠.cell v
 bT:pG X.prog X.w H s.heap
 len:σ.length=X.N.length
section
variable{X:Cx}{ad:aQ}{σ:List (Option V)}{H H' :Hp}{s:R'}{h' :Y'}
theorem Cx.Ok.aeZ(ok:X.Ok){b:S'}{o:Obj}(e:X.base.get? b=some o):b∉X.fs:=λhb=>by
 have:=(ok.sS.mem hb).1;rw[e] at this;cases this
theorem Inv.bs(I:Inv X ad σ H s):∀b o,X.base.get? b=some o->s.heap.get? b=some o/\H b=none:=λb o e=>
 ⟨I.base.keep b o (I.ok.bs b o e).1 (I.ok.bs b o e).2 (I.ok.aeZ e) (I.ok.Ho b o e),I.base.free b o (I.ok.bs b o e).1 (I.ok.bs b o e).2 (I.ok.Ho b o e)⟩
theorem Inv.bk(I:Inv X ad σ H s):∀b o,X.base.get? b=some o->s.heap.get? b=some o:=λb o e=>(I.bs b o e).1
theorem Inv.mod(I:Inv X ad σ H s):Mod X.K X.mg X.base:=I.ok.mod
theorem Inv.jN(I:Inv X ad σ H s):X.K.In s.heap:=I.ok.mod.xr.keeps I.bk
theorem Inv.fr(I:Inv X ad σ H s):∃m,Fr X.base X.env.locals s.heap m:=
 let⟨m,hn,_⟩:=I.loc
 ⟨m,hn,I.bk,aU I.ok.LN I.ok.above⟩
theorem Inv.lt(I:Inv X ad σ H s):X.env.locals<s.heap.objs.size:=let⟨_,hn,_⟩:=I.loc;hn.lt
theorem Inv.sz(I:Inv X ad σ H s):X.fO.heap.objs.size<=s.heap.objs.size:=aU I.ok.above (cT I.lt)
theorem Inv.aej(I:Inv X ad σ H s){a:S'}(h:s.heap.objs.size<=a):a∉X.fs:=λhb=>by
 obtain⟨_,o,ho,_⟩:=I.ok.sS.mem hb;exact absurd (cQ (a_ ho) (aU I.sz h)) (cA _)
theorem Inv.O8(I:Inv X ad σ H s):∀x c,X.env.cells.lookup x=some c->c≠X.env.locals:=λx c e z=>by
 obtain⟨v,o,ho,hd⟩:=I.cell x c e;obtain⟨m,⟨o',es,ep,Na,QM,_⟩,_⟩:=I.loc;rw[z,Na] at ho;cases ho;rw[QM] at hd;cases hd
theorem Inv.sS(I:Inv X ad σ H s):s.heap.FunFrames X.base X.outer:=by
 have all:∀(l:List Env),(∀b∈Ct l,b∈X.fs)->X.fO.heap.FunFrames X.base l->s.heap.FunFrames X.base l:=by
  intro l
  induction l with
  |nil=>intro _ _;trivial
  |cons env r ih=>
   intro hs hl;obtain⟨hk,⟨L,o,hf,hn,ho,hd⟩,hr⟩:=hl;have hL:L∈X.fs:=hs L (by unfold Ct;rw[oo,hf];exact c5);obtain⟨sl,e⟩:=I.base.slot L o ho (I.ok.Ph L hL) hL λz=>I.ok.Ln L z hL;exact⟨hk,⟨L,_,hf,hn,e,hd⟩,ih (λb hb=>hs b (by unfold Ct;rw[oo,hf];exact cw _ hb)) hr⟩
 exact all X.outer (λ_ hb=>hb) I.ok.sS
theorem Inv.stack(I:Inv X ad σ H s):s.heap.FunFrames X.base X.stack:=by
 rcases I.ok.QS with e|⟨e,hf⟩
 .rw[e];exact I.sS
 .rw[e];obtain⟨m,hn,_⟩:=I.loc;refine .cons (by rw[I.ok.kind];decide) hf hn ?_ I.sS;exact Heap.get?_none_of_le (aU I.ok.LN I.ok.above)
theorem Inv.AO(I:Inv X ad σ H s):∀b∈Ct X.stack,b∈X.env.locals::X.fs:=λb hb=>by
 rcases I.ok.QS with e|⟨e,hf⟩
 .rw[e] at hb;exact cw _ hb
 .rw[e] at hb;unfold Ct at hb;rw[oo,hf] at hb;exact hb
theorem Inv.vz(I:Inv X ad σ H s):∀b∈Ct X.stack,H b=none:=λb hb=>by
 rcases aP.mp (I.AO b hb) with e|hb
 .rw[e];exact I.free
 .obtain⟨_,o,ho,_⟩:=I.ok.sS.mem hb;exact I.base.free b o ho (I.ok.Ph b hb) λz=>I.ok.Ln b z hb
theorem Inv.step{g' :Array GenState}{t' :Nat}{d' :Drawn}{ch:b_}(I:Inv X ad σ H s)
 (Fo:∀b∈ch,(b∈X.ex\/X.fO.heap.objs.size<=b)/\b≠X.env.locals/\(∀x c,X.env.cells.lookup x=some c->c≠b)/\∀p∈X.pn++ad,p.1≠b)
 (keep:∀b o,b≠X.env.locals->b∉X.fs->b∉ch->s.heap.get? b=some o->H b=none->h'.get? b=some o)
 (slot:∀b o,b≠X.env.locals->b∈X.fs->b∉ch->s.heap.get? b=some o->H b=none->∃sl,h'.get? b=some {o with slots:=sl}) (free:∀b o,b∉ch->s.heap.get? b=some o->H b=none->H' b=none)
 (there:∀b o,b∉ch->s.heap.get? b=some o->∃o',h'.get? b=some o')
 (Cn:∀b xs,H b=some (.tup xs)->H' b=some (.tup xs)) (Ax:∀b o u,H b=some (.FW o u)->H' b=some (.FW o u)) (A9:∀b ps,H b=some (.wg ps)->∃more,H' b=some (.wg (ps++more)))
 (ns:∀m,s.heap.Ns X.env.locals m->h'.Ns X.env.locals m) (bT:pG X.prog X.w H' h') (hg:AllBare g'):
 Inv X ad σ H' {s with heap:=h',gens:=g',drawn:=d',toks:=t'}:=by
 have neL:∀b o,X.fO.heap.get? b=some o->b≠X.env.locals:=λb o e=>cJ (cQ (a_ e) I.ok.above)
 have neC:∀b o,X.fO.heap.get? b=some o->b∉X.ex->b∉ch:=λb o e hx hb=>by
  rcases(Fo b hb).1 with z|z
  .exact hx z
  .exact absurd (cQ (a_ e) z) (cA _)
 have cellK:∀x c,X.env.cells.lookup x=some c->∀v,s.heap.IsCell c v->h'.IsCell c v:=λx c e v ⟨o,ho,hd⟩=>by
  have nch:c∉ch:=λz=>(Fo c z).2.2.1 x c e rfl;by_cases hc:c∈X.fs
  .obtain⟨sl,q⟩:=slot c o (I.O8 x c e) hc nch ho (I.jZ x c e);exact⟨_,q,hd⟩
  .exact⟨o,keep c o (I.O8 x c e) hc nch ho (I.jZ x c e),hd⟩
 refine⟨I.ok,I.os,hg,⟨λb o e n hb hx=> ?_,λb o e n hb hx=> ?_,λb o e n hx=> ?_,λb o e hx=> ?_,λb xs e=>Cn b xs (I.base.Cn b xs e),λb o xs e=>Ax b o xs (I.base.Ax b o xs e),λb ps e=> ?_⟩,?_,λx c e=> ?_,?_,λx c e=> ?_,λp hp=> ?_,bT,I.len⟩
 .exact keep b o (neL b o e) hb (neC b o e hx) (I.base.keep b o e n hb hx) (I.base.free b o e n hx)
 .obtain⟨sl,e1⟩:=I.base.slot b o e n hb hx;obtain⟨sl',e2⟩:=slot b _ (neL b o e) hb (neC b o e hx) e1 (I.base.free b o e n hx);exact⟨sl',e2⟩
 .obtain⟨o',e1⟩:=I.base.there b o e hx;exact free b o' (neC b o e hx) e1 (I.base.free b o e n hx)
 .obtain⟨o',e1⟩:=I.base.there b o e hx;exact there b o' (neC b o e hx) e1
 .obtain⟨m1,e1⟩:=I.base.A9 b ps e;obtain⟨m2,e2⟩:=A9 b _ e1;exact⟨m1++m2,by rw[e2,Array.append_assoc]⟩
 .obtain⟨m,hn,hl⟩:=I.loc;refine⟨m,ns m hn,λi x v e1 e2 e3=> ?_⟩;obtain⟨u,r,l⟩:=hl i x v e1 e2 e3;refine⟨u,r,?_⟩;rcases l with l|⟨k,c,e,z⟩
  .exact .inl l
  .exact .inr ⟨k,c,e,cellK x c e _ z⟩
 .obtain⟨v,z⟩:=I.cell x c e;exact⟨v,cellK x c e v z⟩
 .obtain⟨m,⟨o,_,_,ho,_⟩,_⟩:=I.loc;exact free _ o (λz=>(Fo _ z).2.1 Z) ho I.free
 .obtain⟨v,o,ho,hd⟩:=I.cell x c e;exact free c o (λz=>(Fo c z).2.2.1 x c e Z) ho (I.jZ x c e)
 .obtain⟨e,n,ne,nf,d⟩:=I.pin p hp;have nch:p.1∉ch:=λz=>(Fo p.1 z).2.2.2 p hp rfl;exact⟨keep p.1 p.2 ne nf nch e n,free p.1 p.2 nch e n,ne,nf,d⟩
theorem Inv.un{t' :Nat}(I:Inv X ad σ H s)(u:Un X.fs [] H H' s.heap h')(bT:pG X.prog X.w H' h'):Inv X ad σ H' {s with heap:=h',toks:=t'}:=by
 obtain⟨m,⟨o,es,ep,ho,r⟩,_⟩:=id I.loc;obtain⟨sl,hL⟩:=u.any ho I.free (by simp)
 exact I.step (g' :=s.gens) (d' :=s.drawn) (ch:=[]) (λ_ z=>nomatch z) (λb o _ hb _ e n=>u.keep b o e n hb (by simp)) (λb o _ hb _ e n=>u.slot b o e n hb (by simp)) (λb o _ e n=>u.free b o e n (by simp)) (λb o _ e=>u.there b o e (by simp)) u.Cn u.Ax u.A9 (λm' hm=>by
  obtain⟨o',es',ep',Na,r'⟩:=hm;rw[ho] at Na;cases Na
  exact⟨_,es',ep',hL,r'⟩) bT I.bare
theorem Inv.call{g' :Array GenState}{t' :Nat}{d' :Drawn}{ch:b_}(I:Inv X ad σ H s)(u:Un (Ct X.stack) ch H H' s.heap h')(bT:pG X.prog X.w H' h')(hg:AllBare g')
 (Fo:∀b∈ch,(b∈X.ex\/X.fO.heap.objs.size<=b)/\b≠X.env.locals/\(∀x c,X.env.cells.lookup x=some c->c≠b)/\∀p∈X.pn++ad,p.1≠b):
 Inv X ad σ H' {s with heap:=h',gens:=g',drawn:=d',toks:=t'}:=by
 obtain⟨m,⟨o,es,ep,ho,r⟩,_⟩:=id I.loc;obtain⟨sl,hL⟩:=u.any ho I.free λz=>(Fo _ z).2.1 rfl
 exact I.step (ch:=ch) Fo (λb o hL hb hc e n=>u.keep b o e n (λz=>(aP.mp (I.AO b z)).elim hL hb) hc) (λb o _ _ hc e n=>u.any e n hc) (λb o hc e n=>u.free b o e n hc) (λb o hc e=>u.there b o e hc) u.Cn u.Ax u.A9 (λm' hm=>by
  obtain⟨o',es',ep',Na,r'⟩:=hm;rw[ho] at Na;cases Na
  exact⟨_,es',ep',hL,r'⟩) bT hg
theorem Inv.turned{t' :Nat}{it:S'}(I:Inv X ad σ H s)(k:∀b o,b≠it->s.heap.get? b=some o->h'.get? b=some o)(hn:H it=none)(hL:it≠X.env.locals)
 (h1:it∈X.ex\/X.fO.heap.objs.size<=it) (h2:∀x c,X.env.cells.lookup x=some c->c≠it) (h3:∀p∈X.pn++ad,p.1≠it):Inv X ad σ H {s with heap:=h',toks:=t'}:=by
 have nit:∀b u,H b=some u->b≠it:=λb u e z=>by rw[z,hn] at e;cases e
 refine I.step (g' :=s.gens) (d' :=s.drawn) (ch:=[it]) (λb hb=> ?_) (λb o _ _ hc e _=>k b o (λz=>hc (by simp[z])) e) (λb o _ _ hc e _=>⟨o.slots,k b o (λz=>hc (by simp[z])) e⟩) (λ_ _ _ _ n=>n)
  (λb o hc e=>⟨o,k b o (λz=>hc (by simp[z])) e⟩) (λ_ _ e=>e) (λ_ _ _ e=>e) (λb ps e=>⟨#[],by rw[e];simp⟩) (λm hm=> ?_) (λb u e=> ?_) I.bare
 .have e:b=it:=by simpa using hb
  subst e;exact⟨h1,hL,h2,h3⟩
 .obtain⟨o,es,ep,ho,r⟩:=hm;exact⟨o,es,ep,k _ o (ck hL) ho,r⟩
 .refine(I.bT b u e).Bj (λc v hc q=>k c v ?_ q) (λ_ q=>q) λ_ _ q=>q;rcases hc with z|z
  .rw[z];exact nit b u e
  .exact nit c _ z
theorem Inv.tok(I:Inv X ad σ H s)(t:Nat):Inv X ad σ H {s with toks:=t}:=I.un (h' :=s.heap) (t' :=t) Un.refl I.bT
theorem Inv.kept{t' :Nat}(I:Inv X ad σ H s)(k:∀b u,s.heap.get? b=some u->h'.get? b=some u):Inv X ad σ H {s with heap:=h',toks:=t'}:=I.un (Un.kept k) (I.bT.kept k)
theorem Inv.laid{a:S'}{o:HO}{t' :Nat}(I:Inv X ad σ H s)(k:∀b u,s.heap.get? b=some u->h'.get? b=some u)(hp:s.heap.objs.size<=a)(new:cu X.prog X.w (upd H a o) h' a o):
 Inv X ad σ (upd H a o) {s with heap:=h',toks:=t'}:=I.un (Un.laid k hp (I.bT.fresh hp)) (I.bT.laid k hp new)
theorem Inv.write{x e:S'}{o:HO}{t' :Nat}(I:Inv X ad σ H s)(mu:Mut (H x))(he:e=x\/H e=some (.own x))(k:∀b u,b≠e->s.heap.get? b=some u->h'.get? b=some u)(Ym:∃u,h'.get? e=some u)
 (new:cu X.prog X.w (upd H x o) h' x o):Inv X ad σ (upd H x o) {s with heap:=h',toks:=t'}:=I.un (Un.write mu he k Ym) (I.bT.write mu he k Ym new)
theorem Inv.weak{fC :List (Option V)}(I:Inv X ad σ H s)(hl:fC.length=σ.length)(w:∀(i:Nat) v,fC[i]? =some (some v)->σ[i]? =some (some v)):Inv X ad fC H s:=
 ⟨I.ok,I.os,I.bare,I.base,let⟨m,hn,WE⟩:=I.loc;⟨m,hn,λi x v e1 e2 e3=>WE i x v e1 (w i v e2) e3⟩,I.cell,I.free,I.jZ,I.pin,I.bT,hl.trans I.len⟩
theorem Inv.Ke{Gm :aQ}(I:Inv X ad σ H s)(h:∀p∈Gm,s.heap.get? p.1=some p.2/\H p.1=none/\p.1≠X.env.locals/\p.1∉X.fs/\∀v,p.2.data≠.cell v):Inv X Gm σ H s:=
 ⟨I.ok,I.os,I.bare,I.base,I.loc,I.cell,I.free,I.jZ,λp hp=>(eA.mp hp).elim (λz=>I.pin p (rO _ z)) (h p),I.bT,I.len⟩
theorem Fv{N:au}(hN:N.Nodup){i j:Nat}{x:Str}(a:N[i]? =some x)(b:N[j]? =some x):i=j:=by
 obtain⟨h1,e1⟩:=c9.mp a;obtain⟨h2,e2⟩:=c9.mp b;exact(List.getElem_inj hN).mp (e1.trans e2.symm)
theorem Cz{M:Model}{A:X'}{E:J'}{i:Nat}{x:Str}{v:V}{u:M'}{Q:Unit->R'->Prop}(I:Inv X ad σ H s)(hN:X.N.Nodup)(hi:X.N[i]? =some x)(hx:Loc X.env.scope x)(r:RelV v u)
 (h:∀s',Inv X ad (σ.set i (some v)) H s'->(∃a,Heap.SameBut a s.heap s'.heap/\(a=X.env.locals\/X.env.cells.lookup x=some a))->Q () s') (hf:X.fn x=true\/X.env.scope.names.lookup x=some .local:=by first|exact .inl rfl|exact .inr rfl|assumption):wpAny M A (storeName X.env x u) Q E s:=by
 obtain⟨m,hn,hl⟩:=id I.loc;have HY:(X.env.scope.kind== .class||(X.env.scope.kind== .module&&X.env.locals !=X.env.globals))=false:=by rw[I.ok.kind];rfl
 have YE:i<σ.length:=by rw[I.len];exact(c9.mp hi).1
 have O8:=I.O8
 have tracked:∀{a:S'} {h' :Y'},(∃o,s.heap.get? a=some o/\H a=none)->Heap.SameBut a s.heap h'->pG X.prog X.w H h' :=λ{a h'} ha hs b ob e=>by
  obtain⟨_,_,Vj⟩:=ha;refine(I.bT b ob e).Bj (λc w' hc q=>(hs.2 c ?_).trans q) (λ_ q=>q) λ_ _ q=>q
  rintro rfl
  rcases hc with rfl|hc
  .rw[Vj] at e;cases e
  .rw[Vj] at hc;cases hc
 rcases hx with hk|hk
 .refine wpAny_storeName_local hk hn (λh' KH hs=> ?_) HY;obtain⟨oL,_,_,hoL,_⟩:=id hn;refine h _ ⟨I.ok,I.os,I.bare,⟨λb o e n hb hx=> ?_,λb o e n hb hx=> ?_,I.base.free,λb o e hx=> ?_,I.base.Cn,I.base.Ax,I.base.A9⟩,⟨_,KH,λj y v' e1 e2 e3=> ?_⟩,λy c e=> ?_,I.free,I.jZ,λp hp=> ?_,tracked ⟨oL,hoL,I.free⟩ hs,by simpa using I.len⟩ ⟨_,hs,.inl Z⟩
  .exact(hs.2 b (cJ (cQ (a_ e) I.ok.above))).trans (I.base.keep b o e n hb hx)
  .obtain⟨sl,e1⟩:=I.base.slot b o e n hb hx;exact⟨sl,(hs.2 b (cJ (cQ (a_ e) I.ok.above))).trans e1⟩
  .obtain⟨o',e1⟩:=I.base.there b o e hx;exact⟨o',(hs.2 b (cJ (cQ (a_ e) I.ok.above))).trans e1⟩
  .by_cases hj:j=i
   .subst hj;rw[hi] at e1;cases e1
    rw[EC YE] at e2;cases e2;exact⟨u,r,.inl ⟨hk,by simp⟩⟩
   .rw[zA (ck hj)] at e2;obtain⟨u',r',q⟩:=hl j y v' e1 e2 e3;refine⟨u',r',?_⟩;rcases q with⟨k,e⟩|⟨k,c,e,z⟩
    .refine .inl ⟨k,?_⟩;have:y≠x:=λe=>hj (Fv hN e1 (e▸hi));simp[this,e]
    .exact .inr ⟨k,c,e,z.sameBut hs (O8 y c e)⟩
  .obtain⟨w',z⟩:=I.cell y c e;exact⟨w',z.sameBut hs (O8 y c e)⟩
  .obtain⟨e,n,ne,nf,d⟩:=I.pin p hp;exact⟨(hs.2 p.1 ne).trans e,n,ne,nf,d⟩
 .have X8:X.fn x=true:=by
   rcases hf with z|z
   .exact z
   .rw[z] at hk;cases hk
  obtain⟨c,hc⟩:=I.ok.has x (.inl hk);obtain⟨w',z⟩:=I.cell x c hc;refine wpAny_storeName_cell I.ok.kind hk hc z (λh' hc' hs=> ?_);obtain⟨oc,hoc,afP⟩:=id z;refine h {s with heap:=h'} ⟨I.ok,I.os,I.bare,⟨λb o e n hb hx=> ?_,λb o e n hb hx=> ?_,I.base.free,λb o e hx=> ?_,I.base.Cn,I.base.Ax,I.base.A9⟩,⟨m,hn.sameBut hs (ck (O8 x c hc)),λj y v' e1 e2 e3=> ?_⟩,λy c' e=> ?_,I.free,I.jZ,λp hp=> ?_,tracked ⟨oc,hoc,I.jZ x c hc⟩ hs,by simpa using I.len⟩ ⟨c,hs,.inr hc⟩
  .exact(hs.2 b (cJ (cQ (a_ e) (I.ok.Ui x c X8 hc)))).trans (I.base.keep b o e n hb hx)
  .obtain⟨sl,e1⟩:=I.base.slot b o e n hb hx;exact⟨sl,(hs.2 b (cJ (cQ (a_ e) (I.ok.Ui x c X8 hc)))).trans e1⟩
  .obtain⟨o',e1⟩:=I.base.there b o e hx;exact⟨o',(hs.2 b (cJ (cQ (a_ e) (I.ok.Ui x c X8 hc)))).trans e1⟩
  .by_cases hj:j=i
   .subst hj;rw[hi] at e1;cases e1
    rw[EC YE] at e2;cases e2;exact⟨u,r,.inr ⟨.inl hk,c,hc,hc'⟩⟩
   .rw[zA (ck hj)] at e2;obtain⟨u',r',q⟩:=hl j y v' e1 e2 e3;refine⟨u',r',?_⟩;rcases q with q|⟨k,c',e,z'⟩
    .exact .inl q
    .refine .inr ⟨k,c',e,z'.sameBut hs ?_⟩
     rintro rfl
     exact hj (Fv hN e1 (I.ok.inj _ _ _ e hc▸hi))
  .by_cases hcc:c' =c
   .subst hcc;exact⟨_,hc'⟩
   .obtain⟨w2,z2⟩:=I.cell y c' e;exact⟨w2,z2.sameBut hs hcc⟩
  .obtain⟨e,n,ne,nf,d⟩:=I.pin p hp;refine⟨(hs.2 p.1 ?_).trans e,n,ne,nf,d⟩;intro q;rw[q,hoc] at e;have q' :oc=p.2:=fV e;exact d w' (by rw[<-q'];exact afP)
theorem nL{M:Model}{A:X'}{E:J'}{i:Nat}{x:Str}{v:V}{u:M'}{Q:Unit->R'->Prop}(I:Inv X ad σ H s)(hN:X.N.Nodup)(hi:X.N[i]? =some x)(hx:Loc X.env.scope x)(r:RelV v u)
 (h:∀s',Inv X ad (σ.set i (some v)) H s'->Q () s') (hf:X.fn x=true\/X.env.scope.names.lookup x=some .local:=by first|exact .inl rfl|exact .inr rfl|assumption):wpAny M A (storeName X.env x u) Q E s:=
 Cz I hN hi hx r (λs' I' _=>h s' I') hf
theorem Inv.RY{s' :R'}{ch:b_}(I:Inv X ad σ H s)(ho:s'.os=s.os)(u:Un (Ct X.stack) ch H H' s.heap s'.heap)(bT:pG X.prog X.w H' s'.heap)(hg:AllBare s'.gens)
 (Fo:∀b∈ch,(b∈X.ex\/X.fO.heap.objs.size<=b)/\b≠X.env.locals/\(∀x c,X.env.cells.lookup x=some c->c≠b)/\∀p∈X.pn++ad,p.1≠b):Inv X ad σ H' s' :=by
 obtain⟨h',g',d',t',o'⟩:=s';have e:o' =s.os:=ho;subst e;exact I.call (g' :=g') (t' :=t') (d' :=d') u bT hg Fo
end
abbrev XK:=M'->Option S'->Hp->Prop
abbrev St:=List (Option V)
abbrev VK:=V->Hp->Prop
abbrev TE:=St->Hp->VK->Prop
abbrev TT:=St->Hp->(Bool->Hp->Prop)->Prop
abbrev TA:=St->Hp->(ak->Hp->Prop)->Prop
structure Ends where
 nx:St->Hp->Prop
 rt:VK
 bk:St->Hp->Prop:=λ_ _=>False
 ct:St->Hp->Prop:=λ_ _=>False
abbrev TS:=Ends->St->Hp->Prop
def EP(X:Cx)(ad:aQ)(σ:St)(Q:VK)(u:M')(s' :R'):Prop:=∃v H',Inv X ad σ H' s'/\RelV v u/\Q v H'
def TP(X:Cx)(ad:aQ)(σ:St)(Q:Bool->Hp->Prop)(b:Bool)(s' :R'):Prop:=∃H',Inv X ad σ H' s'/\Q b H'
def AP(X:Cx)(ad:aQ)(σ:St)(Q:ak->Hp->Prop)(us:aF)(s' :R'):Prop:=∃vs H',Inv X ad σ H' s'/\Vals vs us/\Q vs H'
def SP(X:Cx)(ad:aQ)(D:Ends)(f:Flow)(s' :R'):Prop:=
 match f with
 | .next=>∃fC H',Inv X ad fC H' s'/\D.nx fC H'
 | .brk=>∃fC H',Inv X ad fC H' s'/\D.bk fC H'
 | .cont=>∃fC H',Inv X ad fC H' s'/\D.ct fC H'
 | .ret u=>∃v fC H',Inv X ad fC H' s'/\RelV v u/\D.rt v H'
def PE(X:Cx)(e:V')(t:TE):Prop:=
 ∀(ad:aQ) (s:R') (σ:St) (H:Hp) (Q:VK),Inv X ad σ H s->t σ H Q->wpAny (model X.prog X.w) X.A (eval e X.env) (EP X ad σ Q) X.xe s
def PT(X:Cx)(e:V')(t:TT):Prop:=
 ∀(ad:aQ) (s:R') (σ:St) (H:Hp) (Q:Bool->Hp->Prop),Inv X ad σ H s->t σ H Q->wpAny (model X.prog X.w) X.A (isTrue e X.env (eval e X.env)) (TP X ad σ Q) X.xe s
def PW(X:Cx)(e:V')(t:TT):Prop:=
 ∀(whole:Sem M') (ad:aQ) (s:R') (σ:St) (H:Hp) (Q:Bool->Hp->Prop),Inv X ad σ H s->t σ H Q->wpAny (model X.prog X.w) X.A (isTrue e X.env whole) (TP X ad σ Q) X.xe s
theorem PW.pt{X:Cx}{e:V'}{t:TT}(h:PW X e t):PT X e t:=h _
def PA(X:Cx)(es:b8)(t:TA):Prop:=
 ∀(pos:Pos) (ad:aQ) (s:R') (σ:St) (H:Hp) (Q:ak->Hp->Prop),Inv X ad σ H s->t σ H Q->wpAny (model X.prog X.w) X.A (spliced (backTo pos (starEach es X.env))) (AP X ad σ Q) X.xe s
def PS(X:Cx)(st:Stmt)(t:TS):Prop:=
 ∀(ad:aQ) (s:R') (σ:St) (H:Hp) (D:Ends),Inv X ad σ H s->t D σ H->wpAny (model X.prog X.w) X.A (exec st X.env) (SP X ad D) X.xe s
def CG(X:Cx)(st:List Stmt)(t:TS):Prop:=
 ∀(ad:aQ) (s:R') (σ:St) (H:Hp) (D:Ends),Inv X ad σ H s->t D σ H->wpAny (model X.prog X.w) X.A (execs st X.env) (SP X ad D) X.xe s
theorem di{α:Type}{t:Sem α}{Q Q' :α->R'->Prop}{M:Model}{A:X'}{E:J'}{s:R'}(h:wpAny M A t Q E s)(hQ:∀a s,Q a s->Q' a s):wpAny M A t Q' E s:=fW h hQ λ_ _ x=>x
variable{X:Cx}
def zY(i:Nat):TE:=λσ H Q=>∃v,σ[i]? =some (some v)/\Q v H
def tC(v:V):TE:=λ_ H Q=>Q v H
theorem Xk{i:Nat}{x:Str}{pos:Pos}(hN:X.N[i]? =some x)(hv:Vis X.env.scope x)(hd:(x==("__debug__" :Str))=false:=by decide)(Av:(x==("__classdict__" :Str))=false:=by decide):PE X (.Name x pos) (zY i):=by
 intro ad s σ H Q I h;obtain⟨v,e,h⟩:=h;obtain⟨m,hn,hl⟩:=I.loc;obtain⟨u,r,l⟩:=hl i x v hN e hv;have fin:EP X ad σ Q u s:=⟨v,H,I,r,h⟩;rcases l with⟨hk,hm⟩|⟨hk,c,hc,JD⟩
 .exact wpAny_Name (wpAny_loadName_local I.ok.kind hk hn hm fin) hd
 .rcases hk with hk|hk
  .exact wpAny_Name (wpAny_loadName_cell I.ok.kind hk hc JD fin) hd
  .exact wpAny_Name (wpAny_loadName_free I.ok.kind hk hc JD fin Av) hd
theorem ae{i j pos}:PE X (.Constant (.int i) j pos) (tC (.int i)):=λ_ _ _ H _ I h=>wpAny_Constant_int ⟨.int i,H,I.tok _,⟨_,Z⟩,h⟩
theorem kz{b j pos}:PE X (.Constant (.bool b) j pos) (tC (.bl b)):=λ_ _ _ H _ I h=>Constant_bool ⟨.bl b,H,I,Z,h⟩
theorem d_{j pos}:PE X (.Constant .none j pos) (tC .bp):=λ_ _ _ H _ I h=>Constant_none ⟨.bp,H,I,Z,h⟩
theorem ai{x j pos}:PE X (.Constant (.str x) j pos) (tC (.str x)):=λ_ _ _ H _ I h=>Calls.Constant_str ⟨.str x,H,I.tok _,⟨_,Z⟩,h⟩
def Gl(X:Cx)(x:Str):Prop:=X.env.kindOf x=some .globalImplicit
theorem kN{E:J'}{ad:aQ}{s:R'}{σ:St}{H:Hp}{x:Str}{u:M'}{pos:Pos}{Q:J'}(I:Inv X ad σ H s)(hg:Gl X x)(hm:X.mg x=some u)(h:Q u s)
 (hd:(x==("__debug__" :Str))=false:=by decide):wpAny (model X.prog X.w) X.A (eval (.Name x pos) X.env) Q E s:=
 Calls.Name_function_global I.ok.kind hg (Calls.loadGlobal_global (by rw[I.ok.glob];exact I.mod.glob.keeps I.bk) hm h) hd
theorem ue{E:J'}{ad:aQ}{s:R'}{σ:St}{H:Hp}{x:Str}{u:M'}{pos:Pos}{Q:J'}(I:Inv X ad σ H s)(hg:Gl X x)(hm:X.mg x=none)(hv:bootBuiltins x=some u)(h:Q u s)
 (hn:x≠ "__name__":=by decide) (hd:(x==("__debug__" :Str))=false:=by decide):wpAny (model X.prog X.w) X.A (eval (.Name x pos) X.env) Q E s:=by
 obtain⟨mb,h1,h2⟩:=I.mod.blt;exact Calls.Name_function_global I.ok.kind hg (Calls.loadGlobal_builtin (by rw[I.ok.glob];exact I.mod.glob.keeps I.bk) hm (by rw[I.ok.blt];exact h1.keeps I.bk) ((h2 x hn).trans hv) h) hd
theorem fY{x:Str}{v:V}{u:M'}{pos:Pos}(hg:Gl X x)(hm:X.mg x=some u)(r:RelV v u)(hd:(x==("__debug__" :Str))=false:=by decide):PE X (.Name x pos) (tC v):=
 λ_ _ _ H _ I h=>kN I hg hm ⟨v,H,I,r,h⟩ hd
theorem eE{x:Str}{v:V}{u:M'}{pos:Pos}(hg:Gl X x)(hm:X.mg x=none)(hv:bootBuiltins x=some u)(r:RelV v u)(hn:x≠ "__name__":=by decide)(hd:(x==("__debug__" :Str))=false:=by decide):PE X (.Name x pos) (tC v):=
 λ_ _ _ H _ I h=>ue I hg hm hv ⟨v,H,I,r,h⟩ hn hd
variable{a b:V'}{ta tb:TE}{pos:Pos}
def PC(X:Cx)(op:CmpOp)(a b:V')(t:TE):Prop:=
 ∀(ad:aQ) (s:R') (σ:St) (H:Hp) (Q:VK),Inv X ad σ H s->t σ H Q->
  wpAny (model X.prog X.w) X.A (eval a X.env) (λv bR=>wpAny (model X.prog X.w) X.A (eval b X.env) (λu uK=>wpAny (model X.prog X.w) X.A (compareOp op v u) (EP X ad σ Q) X.xe uK) X.xe bR) X.xe s
def tB(t:TE):TT:=λσ H Q=>t σ H λx H1=>∃c,x= .bl c/\Q c H1
theorem V9{op:CmpOp}{t:TE}(h:PC X op a b t)(h1:behindInMarks op b=false:=by first|exact abo _ (by decide) (by decide)|rfl):PT X (.Compare a [op] [b] pos) (tB t):=by
 intro ad s σ H Q I hw;refine wpAny_isTrue_Compare1 (di (h ad s σ H _ I hw) λv s1 h1=>di h1 λu s2 h2=>di h2 λc s3 ⟨x,H1,I1,r1,q1⟩=> ?_) h1;obtain⟨d,rfl,q⟩:=q1;cases r1;exact l6 ⟨H1,I1,q⟩
theorem gm{e:V'}{t:TE}(h:PE X e t)(he:∀whole,isTrue e X.env whole=(do let v<-whole;standAt e.pos;holding [v] (truthy v)):=by intro _;rfl):PT X e (tB t):=by
 intro ad s σ H Q I hw;refine isTrue_plain (di (h ad s σ H _ I hw) λv s1 ⟨x,H1,I1,r1,q1⟩=> ?_) (he _);obtain⟨d,rfl,q⟩:=q1;cases r1;exact l6 ⟨H1,I1,q⟩
variable{tA tB' :TT}{rest:b8}
def afB(t u:TT):TT:=λσ H Q=>t σ H λc H1=>if c=true then u σ H1 Q else Q false H1
def tOr(t u:TT):TT:=λσ H Q=>t σ H λc H1=>if c=true then Q true H1 else u σ H1 Q
def aeD(t:TT):TT:=λσ H Q=>t σ H λc H1=>Q (!c) H1
theorem xz(ha:PT X a tA):PW X (.BoolOp .And [a] pos) tA:=by
 intro wh ad s σ H Q I h;refine isTrue_and (di (ha ad s σ H Q I h) λc s1 e=> ?_)
 cases c with
 |true=>exact isTrue_and_nil e
 |false=>exact e
theorem WP(ha:PT X a tA):PW X (.BoolOp .Or [a] pos) tA:=by
 intro wh ad s σ H Q I h;refine isTrue_or (di (ha ad s σ H Q I h) λc s1 e=> ?_)
 cases c with
 |false=>exact isTrue_or_nil e
 |true=>exact e
theorem wT(ha:PT X a tA)(hb:PW X (.BoolOp .And (b::rest) pos) tB'):PW X (.BoolOp .And (a::b::rest) pos) (afB tA tB'):=by
 intro wh ad s σ H Q I h;refine isTrue_and (di (ha ad s σ H _ I h) ?_)
 rintro c s1 ⟨H1,I1,q1⟩
 cases c with
 |true=>exact hb wh ad s1 σ H1 Q I1 q1
 |false=>exact⟨H1,I1,q1⟩
theorem WF(ha:PT X a tA)(hb:PW X (.BoolOp .Or (b::rest) pos) tB'):PW X (.BoolOp .Or (a::b::rest) pos) (tOr tA tB'):=by
 intro wh ad s σ H Q I h;refine isTrue_or (di (ha ad s σ H _ I h) ?_)
 rintro c s1 ⟨H1,I1,q1⟩
 cases c with
 |true=>exact⟨H1,I1,q1⟩
 |false=>exact hb wh ad s1 σ H1 Q I1 q1
theorem iy(ha:PT X a tA):PT X (.UnaryOp .Not a pos) (aeD tA):=by
 intro ad s σ H Q I h;exact isTrue_not (ha ad s σ H (λc H1=>Q (!c) H1) I h)
def ZL(ta tb:TE):TE:=λσ H Q=>ta σ H λx H1=>∃c,x= .bl c/\if c=true then tb σ H1 Q else Q (.bl false) H1
def ac6(ta tb:TE):TE:=λσ H Q=>ta σ H λx H1=>∃c,x= .bl c/\if c=true then Q (.bl true) H1 else tb σ H1 Q
def ZC(ta:TE):TE:=λσ H Q=>ta σ H λx H1=>∃c,x= .bl c/\Q (.bl (!c)) H1
theorem fU{op}{t:TE}(h:PE X a t):PE X (.BoolOp op [a] pos) t:=λad s σ H Q I hw=>BoolOp_one (h ad s σ H Q I hw)
theorem gT(ha:PE X a ta)(hb:PE X (.BoolOp .And (b::rest) pos) tb):PE X (.BoolOp .And (a::b::rest) pos) (ZL ta tb):=by
 intro ad s σ H Q I h;refine BoolOp_and (di (ha ad s σ H _ I h) ?_)
 rintro v s1 ⟨x,H1,I1,r1,q1⟩
 obtain⟨c,rfl,q1⟩:=q1;cases r1;refine l6 ?_
 cases c with
 |true=>exact hb ad s1 σ H1 Q I1 q1
 |false=>exact⟨.bl false,H1,I1,Z,q1⟩
theorem F7(ha:PE X a ta)(hb:PE X (.BoolOp .Or (b::rest) pos) tb):PE X (.BoolOp .Or (a::b::rest) pos) (ac6 ta tb):=by
 intro ad s σ H Q I h;refine BoolOp_or (di (ha ad s σ H _ I h) ?_)
 rintro v s1 ⟨x,H1,I1,r1,q1⟩
 obtain⟨c,rfl,q1⟩:=q1;cases r1;refine l6 ?_
 cases c with
 |false=>exact hb ad s1 σ H1 Q I1 q1
 |true=>exact⟨.bl true,H1,I1,Z,q1⟩
theorem IC(ha:PE X a ta):PE X (.UnaryOp .Not a pos) (ZC ta):=by
 intro ad s σ H Q I h;refine UnaryOp_ (di (ha ad s σ H _ I h) ?_)
 rintro v s1 ⟨x,H1,I1,r1,q1⟩
 obtain⟨c,rfl,q1⟩:=q1;cases r1;exact not_of (l6 ⟨.bl (!c),H1,I1,Z,q1⟩)
def tIf(t:TT)(ta tb:TE):TE:=λσ H Q=>t σ H λc H1=>if c=true then ta σ H1 Q else tb σ H1 Q
theorem q_{c:V'}(hc:PT X c tA)(ha:PE X a ta)(hb:PE X b tb):PE X (.IfExp c a b pos) (tIf tA ta tb):=by
 intro ad s σ H Q I h;refine wpAny_IfExp (di (hc ad s σ H _ I h) ?_)
 rintro d s1 ⟨H1,I1,q1⟩
 cases d with
 |true=>exact ha ad s1 σ H1 Q I1 q1
 |false=>exact hb ad s1 σ H1 Q I1 q1
def cF(K:Frag)(H:Hp)(a:S')(xs:ak):Prop:=
 Rd H a (.lst xs)\/
  ∃(o:Obj) (its:Array M') (n:Nat),K.lookup a=some o/\o.cls= .type "list" /\o.dict=none/\o.data= .seq its n/\its.size<=sizeLine/\Vals xs its.toList
def bc(K:Frag)(H:Hp)(a:S')(xs:ak):Prop:=
 Rd H a (.tup xs)\/
  ∃(o:Obj) (its:Array M') (n:Nat),K.lookup a=some o/\o.cls= .type "tuple" /\o.data= .seq its n/\its.size<=sizeLine/\Vals xs its.toList
noncomputable def aeJ:M'->Option V
 | .none=>some .bp
 | .bool b=>some (.bl b)
 | .int i _=>some (.int i)
 | .str x _=>some (.str x)
 | .bytes b _=>some (.JC b)
 | .float b _=>some (.WW b)
 | .ref a=>some (.ref a)
 | .type n=>some (.ty n)
 |_=>none
theorem RelV.abs{x:V}{u:M'}(r:RelV x u):aeJ u=some x:=by
 cases x with
 |bp=>cases r;rfl
 |bl _=>cases r;rfl
 |int _=>obtain⟨t,rfl⟩:=r;rfl
 |str _=>obtain⟨t,rfl⟩:=r;rfl
 |JC _=>obtain⟨t,rfl⟩:=r;rfl
 |WW _=>obtain⟨t,rfl⟩:=r;rfl
 |ref _=>cases r;rfl
 |ty _=>cases r;rfl
theorem RelV.inj{x y:V}{u:M'}(r:RelV x u)(q:RelV y u):x=y:=fV (r.abs.symm.trans q.abs)
theorem Vals.inj:∀{xs ys:ak} {us:aF},Vals xs us->Vals ys us->xs=ys
 |_,_,_,.nil,.nil=>rfl
 |_,_,_,.cons r t,.cons r' t' =>by rw[r.inj r',Vals.inj t t']
section
variable{X:Cx}{ad:aQ}{σ:St}{H:Hp}{s:R'}{a:S'}{xs ys:ak}
theorem cF.of{K:Frag}(h:H a=some (.lst xs)):cF K H a xs:= .inl (.inl h)
theorem bc.of{K:Frag}(h:H a=some (.tup xs)):bc K H a xs:= .inl (.inl h)
theorem Inv.list(I:Inv X ad σ H s)(h:cF X.K H a xs):∃its:aF,Vals xs its/\PlainL s.heap a its.toArray/\xs.length<=sizeLine:=by
 rcases h with h|⟨o,its,n,hk,hc,hd,hs,hz,r⟩
 .obtain⟨z,its,n,r,e⟩:=h.ok I.bT;exact⟨its,r,⟨_,n,e,Z,Z,Z⟩,z⟩
 .refine⟨its.toList,r,⟨o,n,I.jN a o hk,hc,hd,by simpa using hs⟩,?_⟩;have e:=r.length;simp only[zc] at e;omega
theorem Inv.tuple(I:Inv X ad σ H s)(h:bc X.K H a xs):∃its:aF,Vals xs its/\IsTup s.heap a its.toArray/\xs.length<=sizeLine:=by
 rcases h with h|⟨o,its,n,hk,hc,hs,hz,r⟩
 .obtain⟨z,its,r,p⟩:=h.ok I.bT;exact⟨its,r,p,z⟩
 .refine⟨its.toList,r,⟨o,I.jN a o hk,hc,n,by simpa using hs⟩,?_⟩;have e:=r.length;simp only[zc] at e;omega
theorem Inv.L8(I:Inv X ad σ H s)(h:cF X.K H a xs)(h' :cF X.K H a ys):xs=ys:=by
 obtain⟨its,r,⟨o,n,e,_,_,d⟩,_⟩:=I.list h;obtain⟨its',r',⟨o',n',e',_,_,d'⟩,_⟩:=I.list h';rw[e] at e';cases e'
 rw[d] at d';injection d' with d1 _;have:its=its' :=by simpa using congrArg Array.toList d1
 subst this;exact r.inj r'
theorem Inv.Lr(I:Inv X ad σ H s)(h:bc X.K H a xs)(h' :bc X.K H a ys):xs=ys:=by
 obtain⟨its,r,⟨o,e,_,n,d⟩,_⟩:=I.tuple h;obtain⟨its',r',⟨o',e',_,n',d'⟩,_⟩:=I.tuple h';rw[e] at e';cases e'
 rw[d] at d';injection d' with d1 _;have:its=its' :=by simpa using congrArg Array.toList d1
 subst this;exact r.inj r'
end
noncomputable abbrev Cx.Co(X:Cx)(E:J'):Cx:={X with xe:=E}
noncomputable abbrev Cx.K0(X:Cx):Cx:=X.Co λ_ _=>False
theorem Cx.Ok.Co{X:Cx}(ok:X.Ok)(E:J'):(X.Co E).Ok:=
 ⟨ok.mod,ok.kind,ok.glob,ok.blt,ok.above,ok.inj,ok.has,ok.Ui,ok.hd,ok.frames,ok.QS,ok.exf,ok.bs,ok.LN,ok.Ho,ok.Ln,ok.sS,ok.Ph⟩
theorem Cx.Ok.qv{X:Cx}{E:J'}(ok:(X.Co E).Ok):X.Ok:=
 ⟨ok.mod,ok.kind,ok.glob,ok.blt,ok.above,ok.inj,ok.has,ok.Ui,ok.hd,ok.frames,ok.QS,ok.exf,ok.bs,ok.LN,ok.Ho,ok.Ln,ok.sS,ok.Ph⟩
section
variable{X:Cx}{ad:aQ}{σ:St}{H:Hp}{s:R'}{E:J'}
theorem Inv.Co(I:Inv X ad σ H s)(E:J'):Inv (X.Co E) ad σ H s:=⟨I.ok.Co E,I.os,I.bare,I.base,I.loc,I.cell,I.free,I.jZ,I.pin,I.bT,I.len⟩
theorem Inv.qv(I:Inv (X.Co E) ad σ H s):Inv X ad σ H s:=⟨I.ok.qv,I.os,I.bare,I.base,I.loc,I.cell,I.free,I.jZ,I.pin,I.bT,I.len⟩
theorem SP.qv{D:Ends}{f:Flow}{s' :R'}(h:SP (X.Co E) ad D f s'):SP X ad D f s' :=by
 cases f with
 |next=>obtain⟨fC,H',I,q⟩:=h;exact⟨fC,H',I.qv,q⟩
 |brk=>obtain⟨fC,H',I,q⟩:=h;exact⟨fC,H',I.qv,q⟩
 |cont=>obtain⟨fC,H',I,q⟩:=h;exact⟨fC,H',I.qv,q⟩
 |ret u=>obtain⟨v,fC,H',I,r,q⟩:=h;exact⟨v,fC,H',I.qv,r,q⟩
theorem CG.K0{st:List Stmt}{t:TS}(h:CG X.K0 st t):CG X st t:=λad s σ H D I hw=>
 fW (h ad s σ H D (I.Co _) hw) (λ_ _ q=>q.qv) λ_ _ z=>False.elim z
end
section
variable{X:Cx}{st:Stmt}{rest:List Stmt}{t u:TS}{e:V'}{te:TE}{pos:Pos}
def MK:TS:=λD σ H=>D.nx σ H
def FU(t u:TS):TS:=λD σ H=>t {D with nx:=u D} σ H
theorem bf:CG X [] MK:=λ_ _ σ H _ I h=>zr ⟨σ,H,I,h⟩
theorem aj(h1:PS X st t)(h2:CG X rest u):CG X (st::rest) (FU t u):=by
 intro ad s σ H D I h;refine wpAny_execs_cons (di (h1 ad s σ H {D with nx:=u D} I h) λf s1 q=> ?_)
 cases f with
 |next=>
  obtain⟨fC,H',I',q⟩:=q;exact h2 ad s1 fC H' D I' q
 |ret v=>exact q
 |brk=>exact q
 |cont=>exact q
theorem aq(h1:PS X st t):CG X [st] t:=by
 intro ad s σ H D I h;refine wpAny_execs_cons (di (h1 ad s σ H D I h) λf s1 q=> ?_)
 cases f with
 |next=>exact zr q
 |ret v=>exact q
 |brk=>exact q
 |cont=>exact q
theorem Inv.quiet{ad:aQ}{σ:St}{H:Hp}{s:R'}(I:Inv X ad σ H s):interactive X.env=false:=by simp[interactive,I.ok.kind]
def Mt(te:TE):TS:=λD σ H=>te σ H λ_ H1=>D.nx σ H1
theorem bW(he:PE X e te)(hs:swapsWith e none pos.line X.env=pure false:=by rfl):PS X (.Expr e pos) (Mt te):=by
 intro ad s σ H D I h;exact wpAny_Expr_any (di (he ad s σ H _ I h) λv s1 ⟨x,H1,I1,r1,q1⟩=>⟨σ,H1,I1,q1⟩) I.quiet hs
def Xm(te:TE):TS:=λD σ H=>te σ H D.rt
theorem aH(he:PE X e te):PS X (.Return (some e) pos) (Xm te):=by
 intro ad s σ H D I h;exact wpAny_Return_some (di (he ad s σ H _ I h) λv s1 ⟨x,H1,I1,r1,q1⟩=>⟨x,σ,H1,I1,r1,q1⟩)
def Xa(c:TT)(t u:TS):TS:=λD σ H=>c σ H λb H1=>if b=true then t D σ H1 else u D σ H1
theorem bU{c:V'}{a b:List Stmt}{tc:TT}(hc:PT X c tc)(ha:CG X a t)(hb:CG X b u):PS X (.If c a b pos) (Xa tc t u):=by
 intro ad s σ H D I h;refine wpAny_If (di (hc ad s σ H _ I h) ?_)
 rintro d s1 ⟨H1,I1,q1⟩
 cases d with
 |true=>exact ha ad s1 σ H1 D I1 q1
 |false=>exact hb ad s1 σ H1 D I1 q1
end
abbrev TG:=V->St->Hp->(St->Hp->Prop)->Prop
abbrev SD:=ak->St->Hp->(St->Hp->Prop)->Prop
def PG(X:Cx)(target:V')(t:TG):Prop:=
 ∀(ad:aQ) (s:R') (σ:St) (H:Hp) (v:V) (u:M') (Q:St->Hp->Prop),Inv X ad σ H s->RelV v u->t v σ H Q->
  wpAny (model X.prog X.w) X.A (assign target X.env u) (λ_ s' =>∃fC H',Inv X ad fC H' s'/\Q fC H') X.xe s
def PGs(X:Cx)(ts:b8)(t:SD):Prop:=
 ∀(ad:aQ) (s:R') (σ:St) (H:Hp) (vs:ak) (us:aF) (Q:St->Hp->Prop),Inv X ad σ H s->Vals vs us->t vs σ H Q->
  wpAny (model X.prog X.w) X.A (assignInOrder ((assignEach ts X.env).map (·.2)) us) (λ_ s' =>∃fC H',Inv X ad fC H' s'/\Q fC H') X.xe s
abbrev XC:=V->V->V->Hp->(Hp->Prop)->Prop
def Y2(X:Cx)(t:XC):Prop:=
 ∀(ad:aQ) (s:R') (σ:St) (H:Hp) (o i v:V) (ov iv u:M') (Q:Hp->Prop),Inv X ad σ H s->RelV o ov->RelV i iv->RelV v u->t o i v H Q->
  wpAny (model X.prog X.w) X.A (setItem ov iv u) (λ_ s' =>∃H',Inv X ad σ H' s'/\Q H') X.xe s
abbrev TIp:=V->V->Hp->VK->Prop
def PIp(X:Cx)(op:Operator)(t:TIp):Prop:=
 ∀(ad:aQ) (s:R') (σ:St) (H:Hp) (x y:V) (v u:M') (Q:VK),Inv X ad σ H s->RelV x v->RelV y u->t x y H Q->
  wpAny (model X.prog X.w) X.A (inplaceOp op v u) (EP X ad σ Q) X.xe s
section
variable{X:Cx}{pos:Pos}
def uY(i:Nat):TG:=λv σ H Q=>Q (σ.set i (some v)) H
theorem Q0{i:Nat}{x:Str}(hN:X.N.Nodup)(hi:X.N[i]? =some x)(hx:Loc X.env.scope x)(hf:X.fn x=true\/X.env.scope.names.lookup x=some .local:=by first|exact .inl rfl|exact .inr rfl|assumption):PG X (.Name x pos) (uY i):=by
 intro ad s σ H v u Q I r h;exact wpAny_assign_Name (nL I hN hi hx r (λs' I' =>⟨_,H,I',h⟩) hf)
def afH:SD:=λvs σ H Q=>vs=[]/\Q σ H
def aan(t:TG)(u:SD):SD:=λvs σ H Q=>∃v r,vs=v::r/\t v σ H λfC H' =>u r fC H' Q
theorem mT:PGs X [] afH:=by
 intro ad s σ H vs us Q I r h;obtain⟨e,h⟩:=h;subst e;cases r;exact assignInOrder_nil ⟨σ,H,I,h⟩
theorem cY{e:V'}{es:b8}{t:TG}{u:SD}(h1:PG X e t)(h2:PGs X es u)
 (hs:(assignEach (e::es) X.env).map (·.2)=assign e X.env::(assignEach es X.env).map (·.2):=by rfl):PGs X (e::es) (aan t u):=by
 intro ad s σ H vs us Q I r h;obtain⟨v,vr,e1,h⟩:=h;subst e1
 cases r with
 |cons r rr=>
  rw[hs];refine assignInOrder_cons (di (h1 ad s σ H _ _ _ I r h) ?_)
  rintro _ s1 ⟨σ1,H1,I1,q1⟩
  exact h2 ad s1 σ1 H1 _ _ Q I1 rr q1
def abd(K:Frag)(n:Nat)(t:SD):TG:=λv σ H Q=>∃a xs,v= .ref a/\bc K H a xs/\xs.length=n/\t xs σ H Q
theorem w4{es:b8}{k:Nat}{t:SD}{n:Nat}(hc:X.calm=true)(h:PGs X es t)
 (hn:(assignEach es X.env).length=n:=by rfl) (tQ:(assignEach es X.env).findIdx? (·.1)=none:=by rfl):PG X (.Tuple es k pos) (abd X.K n t):=by
 intro ad s σ H v u Q I r hw;obtain⟨a,xs,e1,hq,hl,hw⟩:=hw;subst e1;cases r;obtain⟨its,rv,ht,hz⟩:=I.tuple hq;refine assign_Tuple_tuple (I.ok.hd hc) ht (by simp[hn,<-hl,rv.length]) tQ λh' hx=> ?_;have I1:Inv X ad σ H {s with heap:=h'}:=I.kept (t' :=s.toks) λb o e=>hx b o (cJ (a_ e)) e;exact h ad _ σ H xs _ Q I1 (by simpa using rv) hw
def ac3(to ti:TE)(t:XC):TG:=λv σ H Q=>to σ H λo H1=>ti σ H1 λi H2=>t o i v H2 λH3=>Q σ H3
theorem DM{o i:V'}{to ti:TE}{t:XC}(ho:PE X o to)(hi:PE X i ti)(hs:Y2 X t)
 (ha:∀v,assign (.Subscript o i pos) X.env v=(do
  let ov<-holding [v] (eval o X.env)
  let iv<-holding [v,ov] (eval i X.env)
  standAt pos
  holding [v,ov,iv] (setItem ov iv v)
  release [v,ov,iv] []):=by intro _;rfl):PG X (.Subscript o i pos) (ac3 to ti t):=by
 intro ad s σ H v u Q I r h;rw[ha];refine aw (kh (di (ho ad s σ H _ I h) ?_))
 rintro ov s1 ⟨x,H1,I1,r1,q1⟩
 refine aw (kh (di (hi ad s1 σ H1 _ I1 q1) ?_))
 rintro iv s2 ⟨y,H2,I2,r2,q2⟩
 refine aw (qZ (aw (kh (di (hs ad s2 σ H2 x y v ov iv u _ I2 r1 r2 r q2) ?_))))
 rintro _ s3 ⟨H3,I3,q3⟩
 exact wpAny_release ⟨σ,H3,I3,q3⟩
def FO(te:TE)(g:TG):TS:=λD σ H=>te σ H λx H1=>g x σ H1 D.nx
theorem BL{tg e:V'}{te:TE}{g:TG}(he:PE X e te)(hg:PG X tg g)(hs:swapsWithSole [tg] e pos.line X.env=pure false:=by rfl)(hw:swappedStores [tg] e X.env=pure none:=by rfl)
 (h1:(assignEach [tg] X.env).map (·.2)=[assign tg X.env]:=by rfl):PS X (.Assign [tg] e pos) (FO te g):=by
 intro ad s σ H D I h;refine wpAny_Assign_stores (di (he ad s σ H _ I h) λv s1 ⟨x,H1,I1,r1,q1⟩=> ?_) hs hw;rw[h1];exact di (hg ad s1 σ H1 x v _ I1 r1 q1) λ_ s2 q=>q
theorem OS{i:Nat}{x:Str}{e:V'}{te:TE}{pos' :Pos}(hN:X.N.Nodup)(hi:X.N[i]? =some x)(hx:Loc X.env.scope x)(he:PE X e te)(hs:swapsWith e (some (.Name x pos')) pos.line X.env=pure false:=by rfl)(hf:X.fn x=true\/X.env.scope.names.lookup x=some .local:=by first|exact .inl rfl|exact .inr rfl|assumption):
 PS X (.Assign [.Name x pos'] e pos) (FO te (uY i)):=by
 intro ad s σ H D I h;refine wpAny_Assign_Name (di (he ad s σ H _ I h) λv s1 ⟨y,H1,I1,r1,q1⟩=> ?_) hs;exact nL I1 hN hi hx r1 (λs2 I2=>⟨_,H1,I2,q1⟩) hf
def ad7(i j:Nat)(ta:TA):TS:=λD σ H=>ta σ H λvs H1=>∃v w,vs=[v,w]/\D.nx ((σ.set i (some v)).set j (some w)) H1
theorem IQ{i j:Nat}{x y:Str}{a b:V'}{ta:TA}{px py pt:Pos}{kt k2 pt2}(hc:X.calm=true)(hN:X.N.Nodup)(hi:X.N[i]? =some x)(hj:X.N[j]? =some y)(hij:i≠j)
 (hx:X.env.scope.names.lookup x=some .local) (hy:X.env.scope.names.lookup y=some .local) (ha:PA X [a,b] ta)
 (hw:swappedStores [.Tuple [.Name x px,.Name y py] kt pt] (.Tuple [a,b] k2 pt2) X.env=pure (some [x,y]))
 (hs:swapsWithSole [.Tuple [.Name x px,.Name y py] kt pt] (.Tuple [a,b] k2 pt2) pos.line X.env=pure false:=by rfl):
 PS X (.Assign [.Tuple [.Name x px,.Name y py] kt pt] (.Tuple [a,b] k2 pt2) pos) (ad7 i j ta):=by
 intro ad s σ H D I h;rw[exec_Assign_arm];refine aw (qZ ?_);rw[hs];refine aw (aY ?_);rw[ax (by decide)];refine aw (Tuple_ (di (ha _ ad s σ H _ I h) ?_))
 rintro us s1 ⟨vs,H1,I1,r1,q1⟩
 obtain⟨v,w,e1,q1⟩:=q1;subst e1
 obtain⟨u1,u2,rfl,rv,MA⟩:∃u1 u2,us=[u1,u2]/\RelV v u1/\RelV w u2:=by
  cases r1 with
  |cons p q=>
   cases q with
   |cons p' q' =>
    cases q';exact⟨_,_,Z,p,p'⟩
 refine oP ?_ (by show 2<=sizeLine;decide);have I2:Inv X ad σ H1 {s1 with heap:=s1.heap.push {cls:= .type "tuple",data:= .seq [u1,u2].toArray}}:=I1.kept (t' :=s1.toks) λb o e=>bq _ e;rw[hw];refine aw (aY ?_);show wpAny (model X.prog X.w) X.A (do rule "assign.swapped-stores";let items<-unpackItems (.ref s1.heap.objs.size) 2 none;assignInOrder [λv=>bindName X.env y v,λv=>bindName X.env x v] items.reverse;pure Flow.next) _ _ _;refine aw (sk (aw (unpackItems_tuple (items:= #[u1,u2]) (I.ok.hd hc) (IsTup.new s1.heap _) λh' Ma => ?_)));have I3:=I2.kept (h' :=h') (t' :=s1.toks) λb o e=>Ma b o (cJ (a_ e)) e;show wpAny _ _ (assignInOrder [λv=>bindName X.env y v,λv=>bindName X.env x v] [u2,u1]>>= λ_=>pure Flow.next) _ _ _;refine aw (assignInOrder_cons (wpAny_bindName (nL I3 hN hj (.inl hy) MA (λs2 I4=> ?_) (.inr hy))));refine assignInOrder_cons (wpAny_bindName (nL I4 hN hi (.inl hx) rv (λs3 I5=>assignInOrder_nil (aY ?_)) (.inr hx)));rw[List.set_comm _ _ (ck hij)] at I5;exact⟨_,H1,I5,q1⟩
def acN(i:Nat)(te:TE)(ti:TIp):TS:=λD σ H=>∃x,σ[i]? =some (some x)/\te σ H λy H1=>ti x y H1 λz H2=>D.nx (σ.set i (some z)) H2
theorem Jd{i:Nat}{x:Str}{e:V'}{te:TE}{op:Operator}{ti:TIp}{pos' :Pos}(hN:X.N.Nodup)(hi:X.N[i]? =some x)(hx:Loc X.env.scope x)(he:PE X e te)(ho:PIp X op ti)(hf:X.fn x=true\/X.env.scope.names.lookup x=some .local:=by first|exact .inl rfl|exact .inr rfl|assumption):
 PS X (.AugAssign (.Name x pos') op e pos) (acN i te ti):=by
 intro ad s σ H D I h;obtain⟨v,e1,h⟩:=h;obtain⟨m,hn,hl⟩:=I.loc
 have vis:Vis X.env.scope x:=by rcases hx with k|k;exact .inl k;exact .inr (.inl k)
 obtain⟨u,r,l⟩:=hl i x v hi e1 vis;refine wpAny_AugAssign_Name ?_
 have go:wpAny (model X.prog X.w) X.A (eval e X.env) (λw uK=>wpAny (model X.prog X.w) X.A (inplaceOp op u w) (λr y6=>wpAny (model X.prog X.w) X.A (storeName X.env x r) (λ_=>SP X ad D .next) X.xe y6) X.xe uK) X.xe s:=by
  refine di (he ad s σ H _ I h) ?_
  rintro w s1 ⟨y,H1,I1,r1,q1⟩
  refine di (ho ad s1 σ H1 v y u w _ I1 r r1 q1) ?_
  rintro z s2 ⟨zv,H2,I2,r2,q2⟩
  exact nL I2 hN hi hx r2 (λs3 I3=>⟨_,H2,I3,q2⟩) hf
 rcases l with⟨hk,hm⟩|⟨hk,c,hc,JD⟩
 .exact wpAny_loadName_local I.ok.kind hk hn hm go
 .rcases hk with hk|hk
  .exact wpAny_loadName_cell I.ok.kind hk hc JD go
  .rcases hx with k|k
   .have:X.env.scope.names.lookup x=some .free:=hk;rw[k] at this;cases this
   .have:X.env.scope.names.lookup x=some .free:=hk;rw[k] at this;cases this
def ipI(f:Int->Int->Int):TIp:=λx y H Q=>∃i j,x= .int i/\y= .int j/\Q (.int (f i j)) H
theorem HG:PIp X .Add (ipI λi j=>i+j):=by
 intro ad s σ H x y v u Q I r1 r2 h;obtain⟨i,j,e1,e2,q⟩:=h;subst e1;subst e2
 obtain⟨t,rfl⟩:=r1;obtain⟨t',rfl⟩:=r2;exact iadd_int ⟨.int _,H,I.tok _,⟨_,Z⟩,q⟩
end
section
variable{X:Cx}{pos:Pos}
end
structure It where
 go:Nat->Hp->Prop
 BO:Nat->Hp->V->Hp->Prop
 stop:Nat->Hp->Prop
def BZ(X:Cx)(ad:aQ)(H:Hp)(b:S'):Prop:=
 H b=none/\b≠X.env.locals/\b∉X.fs/\(b∈X.ex\/X.fO.heap.objs.size<=b)/\(∀x c,X.env.cells.lookup x=some c->c≠b)/\∀p∈X.pn++ad,p.1≠b
theorem Inv.IZ{X:Cx}{ad:aQ}{σ:St}{H H' :Hp}{s:R'}{b:S'}(I:Inv X ad σ H s)(hb:s.heap.objs.size<=b)(hn:H' b=none):BZ X ad H' b:=by
 refine⟨hn,jr (cQ I.lt hb),I.aej hb,.inr (aU I.sz hb),λx c e z=> ?_,λp hp z=> ?_⟩
 .obtain⟨v,q⟩:=I.cell x c e;exact absurd (cQ q.lt (by rw[z];exact hb)) (cA _)
 .exact absurd (cQ (a_ (I.pin p hp).1) (by rw[z];exact hb)) (cA _)
structure Turn(P:Z')(w:W')(K:Frag)(tg:V')(J:It)(fp:b_)(it:S')(tn:Nat->Y'->Prop):Prop where
 mem:it∈fp
 obj:∀i h,tn i h->∀b∈fp,∃o,h.get? b=some o/\∀v,o.data≠.cell v
 keep:∀i h h',tn i h->(∀b∈fp,∀o,h.get? b=some o->h'.get? b=some o)->tn i h'
 item:∀(X:Cx),X.prog=P->X.w=w->X.K=K->X.calm=true->∀(i:Nat) (ad:aQ) (s:R') (σ:St) (H:Hp) (E:J'),Inv X ad σ H s->(∀b∈fp,BZ X ad H b)->tn i s.heap->J.go i H->
  wpAny (model P w) X.A (pyNext (.ref it)) (λr s1=>∃u,r=some u/\
   wpAny (model P w) X.A (letOwnedTupleGo tg (.ref it) u) (λ_ s2=>∃x H',Inv X ad σ H' s2/\RelV x u/\J.BO i H x H'/\tn (i+1) s2.heap/\∀b∈fp,H' b=none) E s1) E s
 done:∀(X:Cx),X.prog=P->X.w=w->X.K=K->X.calm=true->∀(i:Nat) (ad:aQ) (s:R') (σ:St) (H:Hp) (E:J'),Inv X ad σ H s->(∀b∈fp,BZ X ad H b)->tn i s.heap->J.stop i H->
  wpAny (model P w) X.A (pyNext (.ref it)) (λr s1=>r=none/\Inv X ad σ H s1) E s
 self:∀(A:X') (i:Nat) (s:R') (Q:J') (E:J'),tn i s.heap->Q (.ref it) s->wpAny (model P w) A (pyIter (.ref it)) Q E s
abbrev TI:=St->Hp->(It->Hp->Prop)->Prop
def PIE(X:Cx)(ad:aQ)(σ:St)(tg:V')(R:It->Hp->Prop)(itv:M')(s2:R'):Prop:=
 ∃(it:S') (fp:b_) (tn:Nat->Y'->Prop) (J:It) (H' :Hp),itv= .ref it/\Inv X ad σ H' s2/\Turn X.prog X.w X.K tg J fp it tn/\tn 0 s2.heap/\(∀b∈fp,BZ X ad H' b)/\R J H'
def PI(X:Cx)(tg iter:V')(wi:TI):Prop:=
 ∀(ad:aQ) (s:R') (σ:St) (H:Hp) (R:It->Hp->Prop),Inv X ad σ H s->wi σ H R->
  wpAny (model X.prog X.w) X.A (eval iter X.env) (λv s1=>wpAny (model X.prog X.w) X.A (pyIter v) (PIE X ad σ tg R) X.xe s1) X.xe s
theorem Mh{M:Model}{A:X'}{E:J'}{s:R'}{tg:V'}{it:S'}{u:M'}{o:Obj}{n:String}{vs:Array M'}{Q:Unit->R'->Prop}(ho:s.heap.get? it=some o)(hc:o.cls= .type n)(hd:o.data= .fields vs)
 (hn:["enumerate","zip","dict_itemiterator","dict_reverseitemiterator","odict_iterator","itertools.zip_longest","itertools.pairwise"].contains n=false) (hQ:Q () s):wpAny M A (letOwnedTupleGo tg (.ref it) u) Q E s:=by
 unfold letOwnedTupleGo
 cases tg<;>first
  |exact aY hQ
  |(cases u<;>first
   |exact aY hQ
   |(refine aw (wpAny_load ho ?_)
     rw[hc,hd];show wpAny M A (if(["enumerate","zip","dict_itemiterator","dict_reverseitemiterator","odict_iterator","itertools.zip_longest","itertools.pairwise"].contains n&&vs[0]? ==some (rawInt _))=true then _ else _) Q E s;rw[ax (by intro h;rw[hn,ni] at h;cases h)];exact aY hQ))
noncomputable def Vp(K:Frag)(a:S'):It:=
 ⟨λi H=>∃xs x,cF K H a xs/\xs[i]? =some x,λi H x H' =>H' =H/\∀xs,cF K H a xs->xs[i]? =some x,λi H=>∃xs,cF K H a xs/\xs.length<=i⟩
noncomputable def XH(K:Frag)(a:S'):It:=
 ⟨λi H=>∃xs x,bc K H a xs/\xs[i]? =some x,λi H x H' =>H' =H/\∀xs,bc K H a xs->xs[i]? =some x,λi H=>∃xs,bc K H a xs/\xs.length<=i⟩
noncomputable def Tx(lo:Int)(n:Nat):It:=⟨λi _=>i<n,λi H x H' =>H' =H/\x= .int (lo+i),λi _=>n<=i⟩
theorem Cy{P:Z'}{w:W'}{K:Frag}{tg:V'}(a it:S'):Turn P w K tg (Vp K a) [it] it (λi h=>h.IsListIter it a i) where
 mem:=by simp
 obj:=λi h st b hb=>by
  have e:b=it:=by simpa using hb
  subst e;obtain⟨o,e,c,d⟩:=st;exact⟨o,e,λv z=>by rw[d] at z;cases z⟩
 keep:=λi h h' st k=>st.at λo e=>k it (by simp) o e
 item:=by
  intro X hP hw hK hc i ad s σ H E I hf st hg;subst hP hw hK;obtain⟨xs,x,hq,hx⟩:=hg;obtain⟨its,rv,p,hz⟩:=I.list hq;obtain⟨u,hu,ru⟩:=rv.get hx;obtain⟨f0,f1,f2,f3,f4,f5⟩:=hf it (by simp);refine wpAny_pyNext_list_item st p.isList (x:=u) (by simpa using hu) λh' Pm sb=> ?_;have I1:Inv X ad σ H {s with heap:=h'}:=I.turned (t' :=s.toks) (λb o hb e=>(sb.2 b hb).trans e) f0 f1 f3 f4 f5;obtain⟨o,e,c,d⟩:=id Pm;exact⟨u,Z,Mh (s:={s with heap:=h'}) e c d (by decide) ⟨x,H,I1,ru,⟨Z,λys hy=>by rw[I.L8 hy hq];exact hx⟩,Pm,λb hb=>(hf b hb).1⟩⟩
 done:=by
  intro X hP hw hK hc i ad s σ H E I hf st hg;subst hP hw hK;obtain⟨xs,hq,hx⟩:=hg;obtain⟨its,rv,p,hz⟩:=I.list hq;obtain⟨f0,f1,f2,f3,f4,f5⟩:=hf it (by simp);have hl:=rv.length;exact wpAny_pyNext_list_end (I.ok.hd hc) st p.isList (by simp;omega) λh' eb=>⟨Z,I.turned (t' :=s.toks) (λb o hb e=>eb b o hb e) f0 f1 f3 f4 f5⟩
 self:=λ_ _ _ _ _ st h=>wpAny_pyIter_listiter st h
theorem Bx{P:Z'}{w:W'}{K:Frag}{tg:V'}(a it:S'):Turn P w K tg (XH K a) [it] it (λi h=>h.IsTupleIter it a i) where
 mem:=by simp
 obj:=λi h st b hb=>by
  have e:b=it:=by simpa using hb
  subst e;obtain⟨o,e,c,d⟩:=st;exact⟨o,e,λv z=>by rw[d] at z;cases z⟩
 keep:=λi h h' st k=>st.at λo e=>k it (by simp) o e
 item:=by
  intro X hP hw hK hc i ad s σ H E I hf st hg;subst hP hw hK;obtain⟨xs,x,hq,hx⟩:=hg;obtain⟨its,rv,p,hz⟩:=I.tuple hq;obtain⟨u,hu,ru⟩:=rv.get hx;obtain⟨f0,f1,f2,f3,f4,f5⟩:=hf it (by simp);refine wpAny_pyNext_tuple_item st (show s.heap.IsTuple a its.toArray from p) (x:=u) (by simpa using hu) λh' Pm sb=> ?_;have I1:Inv X ad σ H {s with heap:=h'}:=I.turned (t' :=s.toks) (λb o hb e=>(sb.2 b hb).trans e) f0 f1 f3 f4 f5;obtain⟨o,e,c,d⟩:=id Pm;exact⟨u,Z,Mh (s:={s with heap:=h'}) e c d (by decide) ⟨x,H,I1,ru,⟨Z,λys hy=>by rw[I.Lr hy hq];exact hx⟩,Pm,λb hb=>(hf b hb).1⟩⟩
 done:=by
  intro X hP hw hK hc i ad s σ H E I hf st hg;subst hP hw hK;obtain⟨xs,hq,hx⟩:=hg;obtain⟨its,rv,p,hz⟩:=I.tuple hq;obtain⟨f0,f1,f2,f3,f4,f5⟩:=hf it (by simp);have hl:=rv.length;exact wpAny_pyNext_tuple_end (I.ok.hd hc) st (show s.heap.IsTuple a its.toArray from p) (by simp;omega) λh' eb=>⟨Z,I.turned (t' :=s.toks) (λb o hb e=>eb b o hb e) f0 f1 f3 f4 f5⟩
 self:=λ_ _ _ _ _ st h=>wpAny_pyIter_tupleiter st h
theorem Hm{P:Z'}{w:W'}{K:Frag}{tg:V'}(it:S')(lo:Int)(n:Nat):Turn P w K tg (Tx lo n) [it] it (λi h=>IsRangeIter h it (lo+(i:Nat)*1) ((n:Int) - (i:Nat)) 1) where
 mem:=by simp
 obj:=λi h st b hb=>by
  have e:b=it:=by simpa using hb
  subst e
  exact⟨_,st,λv z=>by
   have z' :Data.fields _=Data.cell v:=z;cases z'⟩
 keep:=λi h h' st k=>k it (by simp) _ st
 item:=by
  intro X hP hw hK hc i ad s σ H E I hf st hg;subst hP hw hK;obtain⟨f0,f1,f2,f3,f4,f5⟩:=hf it (by simp);have W:=Walks.range (prog:=X.prog) (w:=X.w) (I.ok.hd hc) it lo 1 n;refine W.item i s _ _ hg st λv h' tk hv Pm kk=> ?_;obtain⟨t,rfl⟩:=hv;have I1:Inv X ad σ H {s with heap:=h',toks:=tk}:=I.turned (λb o hb e=>kk b o (by simpa using hb) e) f0 f1 f3 f4 f5;refine⟨_,Z,Mh (s:={s with heap:=h',toks:=tk}) (n:="range_iterator") Pm Z Z (by decide) ⟨.int (lo+i),H,I1,⟨t,?_⟩,⟨Z,Z⟩,Pm,λb hb=>(hf b hb).1⟩⟩;rw[Int.mul_one]
 done:=by
  intro X hP hw hK hc i ad s σ H E I hf st hg;subst hP hw hK;obtain⟨f0,f1,f2,f3,f4,f5⟩:=hf it (by simp);exact wpAny_pyNext_range_end (I.ok.hd hc) st (by have:n<=i:=hg;omega) λh' eb=>⟨Z,I.turned (t' :=s.toks) (λb o hb e=>eb b o hb e) f0 f1 f3 f4 f5⟩
 self:=λ_ _ _ _ _ st h=>wpAny_pyIter_rangeiter st h
section
variable{X:Cx}{tg:V'}
def Y1(K:Frag)(tl:TE):TI:=λσ H R=>tl σ H λx H1=>∃a,x= .ref a/\(∃xs,cF K H1 a xs)/\R (Vp K a) H1
def adC(K:Frag)(tl:TE):TI:=λσ H R=>tl σ H λx H1=>∃a,x= .ref a/\(∃xs,bc K H1 a xs)/\R (XH K a) H1
theorem ff{l:V'}{tl:TE}(hl:PE X l tl):PI X tg l (Y1 X.K tl):=by
 intro ad s σ H R I h;refine di (hl ad s σ H _ I h) ?_
 rintro v s1 ⟨x,H1,I1,r1,q1⟩
 obtain⟨a,e,⟨xs,hq⟩,q⟩:=q1;subst e;cases r1;obtain⟨its,rv,p,hz⟩:=I1.list hq;refine vd p.isList ?_;refine⟨s1.heap.objs.size,[s1.heap.objs.size],_,_,H1,Z,I1.kept (t' :=s1.toks) λb o e=>bq _ e,Cy a _,⟨_,cV _ Z,Z,Z⟩,λb hb=> ?_,q⟩;have e:b=s1.heap.objs.size:=by simpa using hb
 subst e;exact I1.IZ (aK _) (I1.bT.fresh (aK _))
theorem Ab{l:V'}{tl:TE}(hl:PE X l tl):PI X tg l (adC X.K tl):=by
 intro ad s σ H R I h;refine di (hl ad s σ H _ I h) ?_
 rintro v s1 ⟨x,H1,I1,r1,q1⟩
 obtain⟨a,e,⟨xs,hq⟩,q⟩:=q1;subst e;cases r1;obtain⟨its,rv,p,hz⟩:=I1.tuple hq;refine zH (show s1.heap.IsTuple a its.toArray from p) ?_;refine⟨s1.heap.objs.size,[s1.heap.objs.size],_,_,H1,Z,I1.kept (t' :=s1.toks) λb o e=>bq _ e,Bx a _,⟨_,cV _ Z,Z,Z⟩,λb hb=> ?_,q⟩;have e:b=s1.heap.objs.size:=by simpa using hb
 subst e;exact I1.IZ (aK _) (I1.bT.fresh (aK _))
theorem Oz{ad:aQ}{σ:St}{H:Hp}{s:R'}{R:It->Hp->Prop}{E:J'}{lo hi:Int}{t u v:Tok}{tk:Nat}(I:Inv X ad σ H s)(h1: -(2 ^ 62)<=lo)(h2:lo<2 ^ 62)(h3: -(2 ^ 62)<=hi)(h4:hi<2 ^ 62)
 (q:R (Tx lo (hi - lo).toNat) H):wpAny (model X.prog X.w) X.A (pyIter (.ref s.heap.objs.size)) (PIE X ad σ tg R) E {s with heap:=s.heap.push {cls:= .type "range",data:= .fields #[.int lo t,.int hi u,.int 1 v]},toks:=tk}:=by
 refine wpAny_pyIter_range (IsRange.new ..) (small_one h1 h2 h3 h4) ?_;have I1:Inv X ad σ H {s with heap:=s.heap.push {cls:= .type "range",data:= .fields #[.int lo t,.int hi u,.int 1 v]},toks:=tk}:=I.kept λb o e=>bq _ e
 refine⟨(s.heap.push {cls:= .type "range",data:= .fields #[.int lo t,.int hi u,.int 1 v]}).objs.size,[(s.heap.push {cls:= .type "range",data:= .fields #[.int lo t,.int hi u,.int 1 v]}).objs.size],_,_,H,Z,
  I1.kept (t' :=tk) λb o e=>bq _ e,Hm _ lo (hi - lo).toNat,?_,λb hb=> ?_,q⟩
 .have e1:lo+((0:Nat):Int)*1=lo:=by simp
  have e2:(((hi - lo).toNat:Nat):Int) - ((0:Nat):Int)=Builtin.Range.rangeSize lo hi 1:=by rw[rangeSize_one];split<;>omega
  show IsRangeIter _ _ (lo+((0:Nat):Int)*1) ((((hi - lo).toNat:Nat):Int) - ((0:Nat):Int)) 1;rw[e1,e2];exact cV _ rfl
 .have e:b=(s.heap.push {cls:= .type "range",data:= .fields #[.int lo t,.int hi u,.int 1 v]}).objs.size:=by simpa using hb
  subst e;exact I1.IZ (aK _) (I1.bT.fresh (aK _))
def YS(ta:TA):TI:=λσ H R=>ta σ H λvs H1=>∃j:Int,vs=[.int j]/\ -(2 ^ 62)<=j/\j<2 ^ 62/\R (Tx 0 j.toNat) H1
theorem gB{a:V'}{ta:TA}{p pos:Pos}(hg:Gl X "range")(hm:X.mg "range"=none)(ha:PA X [a] ta)(hs:starEach [a] X.env=[(false,eval a X.env)]:=by rfl):PI X tg (.Call (.Name "range" p) [a] [] pos) (YS ta):=by
 intro ad s σ H R I h;refine Call_ (ue I hg hm boot_range (zg (di (ha pos ad s σ H _ I h) λus s1 ⟨vs,H1,I1,r1,q1⟩=> ?_) hs Z));obtain⟨j,e,q1,q2,q⟩:=q1;subst e
 cases r1 with
 |cons r rr=>
  cases rr;obtain⟨t,rfl⟩:=r;exact call_range_1 (Oz I1 (by omega) (by omega) q1 q2 (by simpa using q))
def VT(wi:TI)(g:TG)(tb:TS):TS:=λD σ H=>wi σ H λJ H1=>∃W:Nat->Nat->St->Hp->Prop,(∃m,W 0 m σ H1)/\∀i m σ H,W i m σ H->
 (J.stop i H/\D.nx σ H)\/(J.go i H/\∃N:St->Hp->Prop,(∀fC H',N fC H'->∃m',m' <m/\W (i+1) m' fC H')/\∀x H',J.BO i H x H'->g x σ H' λmV H2=>tb {D with nx:=N,ct:=N,bk:=D.nx} mV H2)
noncomputable def Aj(fp:b_)(h:Y'):aQ:=fp.filterMap λb=>(h.get? b).map λo=>(b,o)
theorem oV{fp:b_}{h:Y'}{b:S'}{o:Obj}(hb:b∈fp)(e:h.get? b=some o):(b,o)∈Aj fp h:=wo.mpr ⟨b,hb,by rw[e];rfl⟩
theorem KQ{fp:b_}{h:Y'}{p:S'×Obj}(hp:p∈Aj fp h):p.1∈fp/\h.get? p.1=some p.2:=by
 obtain⟨b,hb,e⟩:=wo.mp hp
 cases q:h.get? b with
 |none=>rw[q] at e;cases e
 |some o=>
  rw[q] at e;have e' :(b,o)=p:=fV e;subst e';exact⟨hb,q⟩
theorem Inv.pinned{ad:aQ}{σ:St}{H:Hp}{s:R'}{fp:b_}(I:Inv X ad σ H s)(hf:∀b∈fp,BZ X ad H b)(ho:∀b∈fp,∃o,s.heap.get? b=some o/\∀v,o.data≠.cell v):Inv X (ad++Aj fp s.heap) σ H s:=
 I.Ke λp hp=>(eA.mp hp).elim (λz=>I.pin p (l8 _ z)) λz=>by
  obtain⟨hb,e⟩:=KQ z;obtain⟨f0,f1,f2,_⟩:=hf p.1 hb;obtain⟨o,e',d⟩:=ho p.1 hb;rw[e] at e';cases e'
  exact⟨e,f0,f1,f2,d⟩
theorem Inv.uW{ad pl:aQ}{σ:St}{H:Hp}{s:R'}(I:Inv X (ad++pl) σ H s):Inv X ad σ H s:=I.Ke λp hp=>I.pin p (l8 _ (rO _ hp))
theorem Mm{iter:V'}{body:List Stmt}{wi:TI}{g:TG}{tb:TS}{pos:Pos}(hp:PassesOwn (model X.prog X.w) X.A X.env X.xe)(hc:X.calm=true)(hi:PI X tg iter wi)(hg:PG X tg g)(hb:CG X body tb)
 (hs:∀x,foldedSetIterable iter X.env x=pure x:=by intro _;rfl):PS X (.For tg iter body [] pos) (VT wi g tb):=by
 intro ad s σ H D I h;refine wpAny_For (di (hi ad s σ H _ I h) λv s1 h1=>di h1 λitv s2 h2=> ?_) hs;obtain⟨it,fp,tn,J,H2,e,I2,T,Rn,f2,W,⟨m0,w0⟩,turn⟩:=h2;subst e;have Iz:∀{H' :Hp},(∀b∈fp,H' b=none)->∀b∈fp,BZ X ad H' b:=λhn b hb=>⟨hn b hb,(f2 b hb).2⟩;refine codeAny_forLoop_any (λn s' =>∃i fC H',Inv X ad fC H' s'/\tn i s'.heap/\(∀b∈fp,H' b=none)/\W i n fC H') ?_ m0 ⟨0,σ,H2,I2,Rn,λb hb=>(f2 b hb).1,w0⟩
 rintro n s3 ⟨i,σ3,H3,I3,st3,fr3,w3⟩
 rcases turn i n σ3 H3 w3 with⟨stop,qn⟩|⟨go,N,hN,step⟩
 .refine vg hp (di (T.done X Z Z Z hc i ad s3 σ3 H3 X.xe I3 (Iz fr3) st3 stop) ?_)
  rintro r s4 ⟨hr,I4⟩
  subst hr;exact zr ⟨σ3,H3,I4,qn⟩
 .refine vg hp (di (T.item X Z Z Z hc i ad s3 σ3 H3 X.xe I3 (Iz fr3) st3 go) ?_)
  rintro r s4 ⟨u,hr,h4⟩
  subst hr;refine vg hp (di h4 ?_)
  rintro _ s5 ⟨x,H5,I5,r5,y5,Yq,fr5⟩
  have I5' :=I5.pinned (Iz fr5) (T.obj _ _ Yq);refine vg hp (di (hg _ s5 σ3 H5 x u _ I5' r5 (step x H5 y5)) ?_)
  rintro _ s6 ⟨σ6,H6,I6,q6⟩
  refine vg hp (di (hb _ s6 σ6 H6 _ I6 q6) λf s7 q7=> ?_)
  have again:∀{Oe:St} {H7:Hp},Inv X (ad++Aj fp s5.heap) Oe H7 s7->N Oe H7->∃m,m<n/\∃i fC H',Inv X ad fC H' s7/\tn i s7.heap/\(∀b∈fp,H' b=none)/\W i m fC H' :=λ{Oe H7} I7 n7=>by
   obtain⟨m',hm,w7⟩:=hN Oe H7 n7;refine⟨m',hm,i+1,Oe,H7,I7.uW,T.keep _ _ _ Yq λb hb o e=>(I7.pin (b,o) (l8 _ (l8 _ (oV hb e)))).1,λb hb=> ?_,w7⟩;obtain⟨o,e,d⟩:=T.obj _ _ Yq b hb;exact(I7.pin (b,o) (l8 _ (l8 _ (oV hb e)))).2.1
  cases f with
  |next=>obtain⟨Oe,H7,I7,n7⟩:=q7;exact again I7 n7
  |cont=>obtain⟨Oe,H7,I7,n7⟩:=q7;exact again I7 n7
  |brk=>obtain⟨Oe,H7,I7,q7⟩:=q7;exact⟨Oe,H7,I7.uW,q7⟩
  |ret v=>obtain⟨x7,Oe,H7,I7,r7,q7⟩:=q7;exact⟨x7,Oe,H7,I7.uW,r7,q7⟩
end
theorem i0{K:Frag}{a:S'}{xs:ak}{g:TG}{tb:TS}{D:Ends}{σ:St}{H:Hp}(Pv:Nat->St->Hp->Prop)(h0:Pv 0 σ H)(hl:∀i σ H,i<=xs.length->Pv i σ H->cF K H a xs)
 (hs:∀i x σ H,xs[i]? =some x->Pv i σ H->g x σ H λmV H2=>tb {D with nx:=Pv (i+1),ct:=Pv (i+1),bk:=D.nx} mV H2) (hd:∀σ H,Pv xs.length σ H->D.nx σ H):
 ∃W:Nat->Nat->St->Hp->Prop,(∃m,W 0 m σ H)/\∀i m σ H,W i m σ H->
  ((Vp K a).stop i H/\D.nx σ H)\/((Vp K a).go i H/\∃N:St->Hp->Prop,(∀fC H',N fC H'->∃m',m' <m/\W (i+1) m' fC H')/\∀x H',(Vp K a).BO i H x H'->g x σ H' λmV H2=>tb {D with nx:=N,ct:=N,bk:=D.nx} mV H2):=by
 refine⟨λi m σ H=>m=xs.length - i/\i<=xs.length/\Pv i σ H,⟨xs.length,by simp,cG _,h0⟩,?_⟩
 rintro i m σ H ⟨rfl,hi,p⟩
 have q:=hl i σ H hi p;by_cases ky:i<xs.length
 .refine .inr ⟨⟨xs,xs[i],q,by simp[ky]⟩,Pv (i+1),λfC H' p' =>⟨xs.length - (i+1),by omega,Z,ky,p'⟩,λx H' y=> ?_⟩;obtain⟨e,y⟩:=y;subst e;exact hs i x σ _ (y xs q) p
 .have e:i=xs.length:=by omega
  subst e;exact .inl ⟨⟨xs,q,aK _⟩,hd σ H p⟩
theorem D_{K:Frag}{a:S'}{xs:ak}{g:TG}{tb:TS}{D:Ends}{σ:St}{H:Hp}(Pv:Nat->St->Hp->Prop)(h0:Pv 0 σ H)(hl:∀i σ H,i<=xs.length->Pv i σ H->bc K H a xs)
 (hs:∀i x σ H,xs[i]? =some x->Pv i σ H->g x σ H λmV H2=>tb {D with nx:=Pv (i+1),ct:=Pv (i+1),bk:=D.nx} mV H2) (hd:∀σ H,Pv xs.length σ H->D.nx σ H):
 ∃W:Nat->Nat->St->Hp->Prop,(∃m,W 0 m σ H)/\∀i m σ H,W i m σ H->
  ((XH K a).stop i H/\D.nx σ H)\/((XH K a).go i H/\∃N:St->Hp->Prop,(∀fC H',N fC H'->∃m',m' <m/\W (i+1) m' fC H')/\∀x H',(XH K a).BO i H x H'->g x σ H' λmV H2=>tb {D with nx:=N,ct:=N,bk:=D.nx} mV H2):=by
 refine⟨λi m σ H=>m=xs.length - i/\i<=xs.length/\Pv i σ H,⟨xs.length,by simp,cG _,h0⟩,?_⟩
 rintro i m σ H ⟨rfl,hi,p⟩
 have q:=hl i σ H hi p;by_cases ky:i<xs.length
 .refine .inr ⟨⟨xs,xs[i],q,by simp[ky]⟩,Pv (i+1),λfC H' p' =>⟨xs.length - (i+1),by omega,Z,ky,p'⟩,λx H' y=> ?_⟩;obtain⟨e,y⟩:=y;subst e;exact hs i x σ _ (y xs q) p
 .have e:i=xs.length:=by omega
  subst e;exact .inl ⟨⟨xs,q,aK _⟩,hd σ H p⟩
theorem nS{lo:Int}{n:Nat}{g:TG}{tb:TS}{D:Ends}{σ:St}{H:Hp}(Pv:Nat->St->Hp->Prop)(h0:Pv 0 σ H)
 (hs:∀i σ H,i<n->Pv i σ H->g (.int (lo+i)) σ H λmV H2=>tb {D with nx:=Pv (i+1),ct:=Pv (i+1),bk:=D.nx} mV H2) (hd:∀σ H,Pv n σ H->D.nx σ H):
 ∃W:Nat->Nat->St->Hp->Prop,(∃m,W 0 m σ H)/\∀i m σ H,W i m σ H->
  ((Tx lo n).stop i H/\D.nx σ H)\/((Tx lo n).go i H/\∃N:St->Hp->Prop,(∀fC H',N fC H'->∃m',m' <m/\W (i+1) m' fC H')/\∀x H',(Tx lo n).BO i H x H'->g x σ H' λmV H2=>tb {D with nx:=N,ct:=N,bk:=D.nx} mV H2):=by
 refine⟨λi m σ H=>m=n - i/\i<=n/\Pv i σ H,⟨n,by simp,cG _,h0⟩,?_⟩
 rintro i m σ H ⟨rfl,hi,p⟩
 by_cases ky:i<n
 .refine .inr ⟨ky,Pv (i+1),λfC H' p' =>⟨n - (i+1),by omega,Z,ky,p'⟩,λx H' y=> ?_⟩;obtain⟨e,y⟩:=y;subst e y;exact hs i σ _ ky p
 .have e:i=n:=by omega
  subst e;exact .inl ⟨aK _,hd σ H p⟩
abbrev R2:=V->V->Hp->VK->Prop
def n5(X:Cx)(f:M'->M'->Sem M')(r:R2):Prop:=
 ∀(ad:aQ) (s:R') (σ:St) (H:Hp) (x y:V) (v u:M') (Q:VK),Inv X ad σ H s->RelV x v->RelV y u->r x y H Q->
  wpAny (model X.prog X.w) X.A (f v u) (EP X ad σ Q) X.xe s
def UnR(X:Cx)(f:M'->Sem M')(r:V->Hp->VK->Prop):Prop:=
 ∀(ad:aQ) (s:R') (σ:St) (H:Hp) (x:V) (v:M') (Q:VK),Inv X ad σ H s->RelV x v->r x H Q->
  wpAny (model X.prog X.w) X.A (f v) (EP X ad σ Q) X.xe s
def i7(X:Cx)(f:M')(r:ak->Hp->VK->Prop):Prop:=
 ∀(ad:aQ) (s:R') (σ:St) (H:Hp) (xs:ak) (us:aF) (Q:VK),Inv X ad σ H s->Vals xs us->r xs H Q->
  wpAny (model X.prog X.w) X.A (call f us) (EP X ad σ Q) X.xe s
def aeC(X:Cx)(r:V->Hp->(Bool->Hp->Prop)->Prop):Prop:=
 ∀(ad:aQ) (s:R') (σ:St) (H:Hp) (x:V) (v:M') (Q:Bool->Hp->Prop),Inv X ad σ H s->RelV x v->r x H Q->
  wpAny (model X.prog X.w) X.A (truthy v) (TP X ad σ Q) X.xe s
def wM(r:R2)(ta tb:TE):TE:=λσ H Q=>ta σ H λx H1=>tb σ H1 λy H2=>r x y H2 Q
def tUn(r:V->Hp->VK->Prop)(ta:TE):TE:=λσ H Q=>ta σ H λx H1=>r x H1 Q
def rI(C:Int->Int->Prop)(g:Int->Int->V):R2:=λx y H Q=>∃i j,x= .int i/\y= .int j/\C i j/\Q (g i j) H
def Pd(g:Int->Int->V):R2:=λx y H Q=>∃i j,x= .int i/\y= .int j/\Q (g i j) H
def rU(g:Int->V):V->Hp->VK->Prop:=λx H Q=>∃i,x= .int i/\Q (g i) H
section
variable{X:Cx}{a b c:V'}{ta tb tc:TE}{pos:Pos}
theorem Xx(ha:PE X a ta)(hb:PE X b tb){ad:aQ}{s:R'}{σ:St}{H:Hp}{R:V->V->Hp->Prop}(I:Inv X ad σ H s)
 (h:ta σ H λx H1=>tb σ H1 λy H2=>R x y H2) {Q:J'} {f:M'->M'->Sem M'}
 (hf:∀v u s2 x y H2,Inv X ad σ H2 s2->RelV x v->RelV y u->R x y H2->wpAny (model X.prog X.w) X.A (f v u) Q X.xe s2):
 wpAny (model X.prog X.w) X.A (eval a X.env) (λv bR=>wpAny (model X.prog X.w) X.A (eval b X.env) (λu uK=>wpAny (model X.prog X.w) X.A (f v u) Q X.xe uK) X.xe bR) X.xe s:=by
 refine di (ha ad s σ H _ I h) ?_
 rintro v s1 ⟨x,H1,I1,r1,q1⟩
 refine di (hb ad s1 σ H1 _ I1 q1) ?_
 rintro u s2 ⟨y,H2,I2,r2,q2⟩
 exact hf v u s2 x y H2 I2 r1 r2 q2
theorem aL{op:Operator}{r:R2}(ho:n5 X (binaryOp op) r)(ha:PE X a ta)(hb:PE X b tb):PE X (.BinOp a op b pos) (wM r ta tb):=by
 intro ad s σ H Q I h;exact wpAny_BinOp (Xx ha hb I h λv u s2 x y H2 I2 rx ry q=>ho ad s2 σ H2 x y v u Q I2 rx ry q)
theorem NG{op:UnaryOp}{r:V->Hp->VK->Prop}(ho:UnR X (unaryOp op) r)(ha:PE X a ta):PE X (.UnaryOp op a pos) (tUn r ta):=by
 intro ad s σ H Q I h;exact UnaryOp_ (di (ha ad s σ H _ I h) λv s1 ⟨x,H1,I1,r1,q1⟩=>ho ad s1 σ H1 x v Q I1 r1 q1)
theorem opI{f:M'->M'->Sem M'}{C:Int->Int->Prop}{g:Int->Int->Int}
 (rule:∀(i j:Int) (t u:Tok) (s:R') (Q:J') (E:J'),C i j->Q (.int (g i j) s.toks) {s with toks:=s.toks+1}->wpAny (model X.prog X.w) X.A (f (.int i t) (.int j u)) Q E s):
 n5 X f (rI C λi j=> .int (g i j)):=by
 intro ad s σ H x y v u Q I rx ry h;obtain⟨i,j,rfl,rfl,hc,q⟩:=h;obtain⟨t,rfl⟩:=rx;obtain⟨t',rfl⟩:=ry;exact rule i j t t' s _ _ hc ⟨.int (g i j),H,I.tok _,⟨_,Z⟩,q⟩
theorem aat{f:M'->M'->Sem M'}{g:Int->Int->Int}
 (rule:∀(i j:Int) (t u:Tok) (s:R') (Q:J') (E:J'),Q (.int (g i j) s.toks) {s with toks:=s.toks+1}->wpAny (model X.prog X.w) X.A (f (.int i t) (.int j u)) Q E s):
 n5 X f (Pd λi j=> .int (g i j)):=by
 intro ad s σ H x y v u Q I rx ry h;obtain⟨i,j,rfl,rfl,q⟩:=h;obtain⟨t,rfl⟩:=rx;obtain⟨t',rfl⟩:=ry;exact rule i j t t' s _ _ ⟨.int (g i j),H,I.tok _,⟨_,Z⟩,q⟩
theorem Xr{f:M'->M'->Sem M'}{g:Int->Int->Bool}
 (rule:∀(i j:Int) (t u:Tok) (s:R') (Q:J') (E:J'),Q (.bool (g i j)) s->wpAny (model X.prog X.w) X.A (f (.int i t) (.int j u)) Q E s):
 n5 X f (Pd λi j=> .bl (g i j)):=by
 intro ad s σ H x y v u Q I rx ry h;obtain⟨i,j,rfl,rfl,q⟩:=h;obtain⟨t,rfl⟩:=rx;obtain⟨t',rfl⟩:=ry;exact rule i j t t' s _ _ ⟨.bl (g i j),H,I,Z,q⟩
def NA(i j:Int):Prop:=0<=j/\j<=1000000/\i.natAbs<2 ^ 64
def WZ(i j:Int):Prop:=(-(2 ^ 64)<i/\i<2 ^ 64)\/(-(2 ^ 64)<j/\j<2 ^ 64)
theorem WZ.ok{i j:Int}(h:WZ i j):IntMulOk i j:=by
 rcases h with⟨h1,h2⟩|⟨h1,h2⟩
 .exact .of_left (intBits_le_64 h1 h2)
 .exact .of_right (intBits_le_64 h1 h2)
theorem bA:n5 X (binaryOp .Add) (Pd λi j=> .int (i+j)):=aat λ_ _ _ _ _ _ _ q=>add_int q
theorem i9:n5 X (binaryOp .Sub) (Pd λi j=> .int (i - j)):=aat λ_ _ _ _ _ _ _ q=>sub_int q
theorem md:n5 X (binaryOp .Mult) (rI WZ λi j=> .int (i*j)):=opI λ_ _ _ _ _ _ _ hc q=>mul_int q hc.ok
theorem jw:n5 X (binaryOp .Mod) (rI (λ_ j=>0<j) λi j=> .int (i % j)):=opI λi j _ _ _ _ _ hc q=>by
 have h1:(0:Int)<j:=hc;exact mod_int' (by omega) (by rw[Int.fmod_eq_emod_of_nonneg i (by omega)];exact q)
theorem qt:n5 X (binaryOp .Pow) (rI NA λi j=> .int (i ^ j.toNat)):=opI λ_ _ _ _ _ _ _ hc q=>pow_int_small hc.1 hc.2.1 hc.2.2 q
theorem unI{f:M'->Sem M'}{g:Int->Int}
 (rule:∀(i:Int) (t:Tok) (s:R') (Q:J') (E:J'),Q (.int (g i) s.toks) {s with toks:=s.toks+1}->wpAny (model X.prog X.w) X.A (f (.int i t)) Q E s):
 UnR X f (rU λi=> .int (g i)):=by
 intro ad s σ H x v Q I rx h;obtain⟨i,rfl,q⟩:=h;obtain⟨t,rfl⟩:=rx;exact rule i t s _ _ ⟨.int (g i),H,I.tok _,⟨_,Z⟩,q⟩
theorem Jf:UnR X (unaryOp .USub) (rU λi=> .int (-i)):=unI λ_ _ _ _ _ q=>neg_int q
end
noncomputable def abe:V->V->Bool
 | .bp,.bp=>true| .bp,.int _=>true| .int _,.bp=>true| .bp,.bl _=>true| .bl _,.bp=>true| .bp,.str _=>true| .str _,.bp=>true
 | .int _,.int _=>true| .bl _,.bl _=>true| .str _,.str _=>true| .JC _,.JC _=>true
 | .int _,.str _=>true| .str _,.int _=>true| .bl _,.str _=>true| .str _,.bl _=>true
 |_,_=>false
def rEq:R2:=λx y H Q=>abe x y=true/\Q (.bl (decide (x=y))) H
def rNe:R2:=λx y H Q=>abe x y=true/\Q (.bl (!decide (x=y))) H
theorem Jw{i j:Int}:decide (V.int i=V.int j)=(i==j):=by
 rw[mU];simp
theorem Nt{i j:Bool}:decide (V.bl i=V.bl j)=(i==j):=by
 rw[mU];simp
theorem J6{i j:Str}:decide (V.str i=V.str j)=(i==j):=by
 rw[mU];simp
theorem JR{i j:Array UInt8}:decide (V.JC i=V.JC j)=(i.toList==j.toList):=by
 rw[mU];cases i;cases j;simp
section
variable{X:Cx}{a b c:V'}{ta tb tc:TE}{pos:Pos}
theorem b9{ad:aQ}{σ:St}{H:Hp}{s:R'}{Q:VK}{k k' :Bool}(I:Inv X ad σ H s)(q:Q (.bl k) H)(e:k=k'):EP X ad σ Q (.bool k') s:=by
 subst e;exact⟨.bl k,H,I,Z,q⟩
theorem cK:n5 X (compareOp .Eq) rEq:=by
 intro ad s σ H x y v u Q I rx ry h;obtain⟨hs,q⟩:=h
 cases x with
 |bp=>
  cases rx
  cases y with
  |bp=>cases ry;exact PySem.EqNone.eq_none_none (b9 I q (by simp))
  |bl j=>cases ry;exact PySem.EqNone.eq_none_bool (b9 I q (by simp))
  |int j=>obtain⟨t',rfl⟩:=ry;exact PySem.EqNone.eq_none_int (b9 I q (by simp))
  |str j=>obtain⟨t',rfl⟩:=ry;exact PySem.EqNone.eq_none_str (b9 I q (by simp))
  |_=>exact absurd (show false=true from hs) cU
 |bl i=>
  cases rx
  cases y with
  |bp=>cases ry;exact PySem.EqNone.eq_bool_none (b9 I q (by simp))
  |bl j=>cases ry;exact eq_bool (b9 I q Nt)
  |str j=>obtain⟨t',rfl⟩:=ry;exact PySem.EqMixed.eq_bool_str (b9 I q (by simp))
  |_=>exact absurd (show false=true from hs) cU
 |int i=>
  obtain⟨t,rfl⟩:=rx
  cases y with
  |bp=>cases ry;exact PySem.EqNone.eq_int_none (b9 I q (by simp))
  |int j=>obtain⟨t',rfl⟩:=ry;exact eq_int (b9 I q Jw)
  |str j=>obtain⟨t',rfl⟩:=ry;exact PySem.EqMixed.eq_int_str (b9 I q (by simp))
  |_=>exact absurd (show false=true from hs) cU
 |str i=>
  obtain⟨t,rfl⟩:=rx
  cases y with
  |bp=>cases ry;exact PySem.EqNone.eq_str_none (b9 I q (by simp))
  |bl j=>cases ry;exact PySem.EqMixed.eq_str_bool (b9 I q (by simp))
  |int j=>obtain⟨t',rfl⟩:=ry;exact PySem.EqMixed.eq_str_int (b9 I q (by simp))
  |str j=>obtain⟨t',rfl⟩:=ry;exact eq_str (b9 I q J6)
  |_=>exact absurd (show false=true from hs) cU
 |JC i=>
  obtain⟨t,rfl⟩:=rx
  cases y with
  |JC j=>obtain⟨t',rfl⟩:=ry;exact PySem.W.eq_bytes (b9 I q JR)
  |_=>exact absurd (show false=true from hs) cU
 |_=>cases y<;>exact absurd (show false=true from hs) cU
theorem pR:n5 X (compareOp .NotEq) rNe:=by
 intro ad s σ H x y v u Q I rx ry h;obtain⟨hs,q⟩:=h
 cases x with
 |bp=>
  cases rx
  cases y with
  |bp=>cases ry;exact PySem.EqNone.ne_none_none (b9 I q (by simp))
  |bl j=>cases ry;exact PySem.EqNone.ne_none_bool (b9 I q (by simp))
  |int j=>obtain⟨t',rfl⟩:=ry;exact PySem.EqNone.ne_none_int (b9 I q (by simp))
  |str j=>obtain⟨t',rfl⟩:=ry;exact PySem.EqNone.ne_none_str (b9 I q (by simp))
  |_=>exact absurd (show false=true from hs) cU
 |bl i=>
  cases rx
  cases y with
  |bp=>cases ry;exact PySem.EqNone.ne_bool_none (b9 I q (by simp))
  |bl j=>cases ry;exact ne_bool (b9 I q (congrArg not Nt))
  |str j=>obtain⟨t',rfl⟩:=ry;exact PySem.EqMixed.ne_bool_str (b9 I q (by simp))
  |_=>exact absurd (show false=true from hs) cU
 |int i=>
  obtain⟨t,rfl⟩:=rx
  cases y with
  |bp=>cases ry;exact PySem.EqNone.ne_int_none (b9 I q (by simp))
  |int j=>obtain⟨t',rfl⟩:=ry;exact ne_int (b9 I q (congrArg not Jw))
  |str j=>obtain⟨t',rfl⟩:=ry;exact PySem.EqMixed.ne_int_str (b9 I q (by simp))
  |_=>exact absurd (show false=true from hs) cU
 |str i=>
  obtain⟨t,rfl⟩:=rx
  cases y with
  |bp=>cases ry;exact PySem.EqNone.ne_str_none (b9 I q (by simp))
  |bl j=>cases ry;exact PySem.EqMixed.ne_str_bool (b9 I q (by simp))
  |int j=>obtain⟨t',rfl⟩:=ry;exact PySem.EqMixed.ne_str_int (b9 I q (by simp))
  |str j=>obtain⟨t',rfl⟩:=ry;exact ne_str (b9 I q (congrArg not J6))
  |_=>exact absurd (show false=true from hs) cU
 |JC i=>
  obtain⟨t,rfl⟩:=rx
  cases y with
  |JC j=>obtain⟨t',rfl⟩:=ry;exact PySem.W.ne_bytes (b9 I q (congrArg not JR))
  |_=>exact absurd (show false=true from hs) cU
 |_=>cases y<;>exact absurd (show false=true from hs) cU
theorem Ao:n5 X (compareOp .Lt) (Pd λi j=> .bl (decide (i<j))):=Xr λ_ _ _ _ _ _ _ q=>lt_int q
theorem yy:n5 X (compareOp .LtE) (Pd λi j=> .bl (decide (i<=j))):=Xr λ_ _ _ _ _ _ _ q=>le_int q
theorem tE:n5 X (compareOp .Gt) (Pd λi j=> .bl (decide (j<i))):=Xr λ_ _ _ _ _ _ _ q=>gt_int q
theorem KP:n5 X (compareOp .In) (λx y H Q=>∃i j,x= .str i/\y= .str j/\Q (.bl (!(Builtin.Str.occurrences j i 0 j.length 1).isEmpty)) H):=by
 intro ad s σ H x y v u Q I rx ry h;obtain⟨i,j,rfl,rfl,q⟩:=h;obtain⟨t,rfl⟩:=rx;obtain⟨t',rfl⟩:=ry;exact in_str (b9 I q Z)
theorem A0:n5 X (compareOp .Is) (λx y H Q=>y= .bp/\Q (.bl (decide (x= .bp))) H):=by
 intro ad s σ H x y v u Q I rx ry h;obtain⟨rfl,q⟩:=h;cases ry;refine is_none_gen (b9 I q ?_)
 cases x<;>first
  |(cases rx;rfl)
  |(obtain⟨t,rfl⟩:=rx;rfl)
theorem zi:n5 X (compareOp .IsNot) (λx y H Q=>y= .bp/\Q (.bl (!decide (x= .bp))) H):=by
 intro ad s σ H x y v u Q I rx ry h;obtain⟨rfl,q⟩:=h;cases ry;refine isnot_none_gen (b9 I q ?_)
 cases x<;>first
  |(cases rx;rfl)
  |(obtain⟨t,rfl⟩:=rx;rfl)
theorem Md(b:V'){op:CmpOp}(h:op≠.In:=by decide)(h2:op≠.NotIn:=by decide):behindInMarks op b=false:=by
 have e1:(op==CmpOp.In)=false:=by cases op<;>first|rfl|exact absurd rfl h
 have e2:(op==CmpOp.NotIn)=false:=by cases op<;>first|rfl|exact absurd rfl h2
 cases b<;>simp[behindInMarks,e1,e2]
theorem QL{op:CmpOp}{r:R2}(ho:n5 X (compareOp op) r)(ha:PE X a ta)(hb:PE X b tb)(hm:behindInMarks op b=false):PE X (.Compare a [op] [b] pos) (wM r ta tb):=by
 intro ad s σ H Q I h;exact wpAny_Compare1 (Xx ha hb I h λv u s2 x y H2 I2 rx ry q=>ho ad s2 σ H2 x y v u Q I2 rx ry q) hm
def NC(t:TE):TT:=λσ H Q=>t σ H λx H' =>∃k,x= .bl k/\Q k H'
theorem Qx{op:CmpOp}{r:R2}(ho:n5 X (compareOp op) r)(ha:PE X a ta)(hb:PE X b tb)(hm:behindInMarks op b=false):PT X (.Compare a [op] [b] pos) (NC (wM r ta tb)):=by
 intro ad s σ H Q I h
 refine wpAny_isTrue_Compare1 (di (ha ad s σ H _ I h) λv s1 ⟨x,H1,I1,r1,q1⟩=>di (hb ad s1 σ H1 _ I1 q1) λu s2 ⟨y,H2,I2,r2,q2⟩=>
  di (ho ad s2 σ H2 x y v u _ I2 r1 r2 q2) λc s3 ⟨z,H3,I3,r3,k,e,q3⟩=> ?_) hm
 subst e;cases r3;exact l6 ⟨H3,I3,q3⟩
def OT(r r' :R2)(ta tb tc:TE):TE:=λσ H Q=>ta σ H λx H1=>tb σ H1 λy H2=>r x y H2 λz H3=>∃k,z= .bl k/\
 (if k=true then tc σ H3 λw' H4=>r' y w' H4 Q else Q (.bl false) H3)
theorem By{op Xi :CmpOp}{r r' :R2}(ho:n5 X (compareOp op) r)(Na :n5 X (compareOp Xi) r')(ha:PE X a ta)(hb:PE X b tb)(hc:PE X c tc)
 (hm:lastMarks [op,Xi] [b,c]=false:=by with_unfolding_all rfl):PE X (.Compare a [op,Xi] [b,c] pos) (OT r r' ta tb tc):=by
 intro ad s σ H Q I h
 refine Compare_chain (di (ha ad s σ H _ I h) λv s1 ⟨x,H1,I1,r1,q1⟩=>chain_link (di (hb ad s1 σ H1 _ I1 q1) λu s2 ⟨y,H2,I2,r2,q2⟩=>
  di (ho ad s2 σ H2 x y v u _ I2 r1 r2 q2) λd s3 ⟨z,H3,I3,r3,k,e,q3⟩=> ?_)) hm
 subst e;cases r3;refine l6 ?_
 cases k with
 |false=>exact ite_ff ⟨.bl false,H3,I3,Z,q3⟩
 |true=>exact ite_tt (chain_last (di (hc ad s3 σ H3 _ I3 q3) λw' s4 ⟨z',H4,I4,r4,q4⟩=>Na ad s4 σ H4 y z' u w' Q I4 r2 r4 q4))
theorem Nb{op Xi :CmpOp}{r r' :R2}(ho:n5 X (compareOp op) r)(Na :n5 X (compareOp Xi) r')(ha:PE X a ta)(hb:PE X b tb)(hc:PE X c tc)
 (hm:lastMarks [op,Xi] [b,c]=false:=by with_unfolding_all rfl):PT X (.Compare a [op,Xi] [b,c] pos) (NC (OT r r' ta tb tc)):=by
 intro ad s σ H Q I h
 refine isTrue_chain (di (ha ad s σ H _ I h) λv s1 ⟨x,H1,I1,r1,q1⟩=>test_link (di (hb ad s1 σ H1 _ I1 q1) λu s2 ⟨y,H2,I2,r2,q2⟩=>
  di (ho ad s2 σ H2 x y v u _ I2 r1 r2 q2) λd s3 ⟨z,H3,I3,r3,k,e,q3⟩=> ?_)) hm
 subst e;cases r3;refine l6 ?_
 cases k with
 |false=>
  obtain⟨k',e',q'⟩:=q3;cases e';exact ite_ff ⟨H3,I3,q'⟩
 |true=>
  refine ite_tt (test_last (di (hc ad s3 σ H3 _ I3 q3) λw' s4 ⟨z',H4,I4,r4,q4⟩=>di (Na ad s4 σ H4 y z' u w' _ I4 r2 r4 q4) ?_))
  rintro d' s5 ⟨z2,H5,I5,r5,k2,e2,q5⟩
  subst e2;cases r5;exact l6 ⟨H5,I5,q5⟩
def aaU(K:Frag)(x:V)(H:Hp)(k:Bool):Prop:=
 match x with
 | .bp=>k=false
 | .bl b=>k=b
 | .int i=>k=(i !=0)
 | .str y=>y.length<=sizeLine/\k=((y.length:Int) !=0)
 | .JC y=>y.size<=sizeLine/\k=((y.size:Int) !=0)
 | .ref p=>(∃xs,cF K H p xs/\k= !xs.isEmpty)\/(∃xs,bc K H p xs/\k= !xs.isEmpty)\/∃kvs,H p=some (.dK kvs)/\k= !kvs.isEmpty
 |_=>False
theorem IB{κ:Type}{kvs:List (κ×V)}{vs:List (κ×M')}(r:KV kvs vs):(!vs.isEmpty)= !kvs.isEmpty:=by
 cases r<;>rfl
theorem Ad{xs:ak}{its:aF}(r:Vals xs its):(!its.toArray.isEmpty)= !xs.isEmpty:=by
 cases r<;>simp
theorem uy:(sizeLine:Nat)<2 ^ 63:=by rw[rT];decide
theorem XW:aeC X (λx H Q=>∃k,aaU X.K x H k/\Q k H):=by
 intro ad s σ H x v Q I rx h;obtain⟨k,e,q⟩:=h;have hl:=uy;have hs:sizeLine=16777216:=rT
 cases x with
 |bp=>
  cases rx;have e' :k=false:=e;subst e';exact truthy_none ⟨H,I,q⟩
 |bl b=>
  cases rx;have e' :k=b:=e;subst e';exact l6 ⟨H,I,q⟩
 |int i=>
  obtain⟨t,rfl⟩:=rx;have e' :k=(i !=0):=e;subst e';exact PySem.P.truthy_int ⟨H,I,q⟩
 |str y=>
  obtain⟨t,rfl⟩:=rx;obtain⟨hy,e'⟩:y.length<=sizeLine/\k=((y.length:Int) !=0):=e;subst e';exact PySem.P.truthy_str (by omega) ⟨H,I.tok _,q⟩
 |JC y=>
  obtain⟨t,rfl⟩:=rx;obtain⟨hy,e'⟩:y.size<=sizeLine/\k=((y.size:Int) !=0):=e;subst e';exact PySem.W.truthy_bytes (by omega) ⟨H,I.tok _,q⟩
 |ref p=>
  cases rx;have e' :(∃xs,cF X.K H p xs/\k= !xs.isEmpty)\/(∃xs,bc X.K H p xs/\k= !xs.isEmpty)\/∃kvs,H p=some (.dK kvs)/\k= !kvs.isEmpty:=e;rcases e' with⟨xs,hx,e'⟩|⟨xs,hx,e'⟩|⟨kvs,hx,e'⟩
  .subst e';obtain⟨its,r,pl,hz⟩:=I.list hx;have hlen:=r.length;exact wpAny_truthy_list pl.isList (by simp only[bJ];omega) ⟨H,I.tok _,by rw[Ad r];exact q⟩
  .subst e';obtain⟨its,r,pl,hz⟩:=I.tuple hx;have hlen:=r.length;exact truthy_tuple pl (by simp only[bJ];omega) ⟨H,I.tok _,by rw[Ad r];exact q⟩
  .subst e';obtain⟨hz,hS,vs,r,m⟩:kvs.length<=sizeLine/\(p==sysModules)=false/\∃vs,KV kvs vs/\s.heap.DictOf (cW X.prog X.w) p vs:=I.bT p _ hx;have hlen:kvs.length=vs.length:=Paired.length r;exact wpAny_truthy_dict hS m (by omega) ⟨H,I.tok _,by rw[IB r];exact q⟩
 |_=>exact(show False from e).elim
theorem MZ(ha:PE X a ta)(he:∀whole,isTrue a X.env whole=(do let v<-whole;standAt a.pos;holding [v] (truthy v))):
 PT X a (λσ H Q=>ta σ H λx H' =>∃k,aaU X.K x H' k/\Q k H'):=by
 intro ad s σ H Q I h;exact isTrue_plain (di (ha ad s σ H _ I h) λv s1 ⟨x,H1,I1,r1,q1⟩=>XW ad s1 σ H1 x v Q I1 r1 q1) (he _)
theorem uE:n5 X (binaryOp .Add) (λx y H Q=>∃i j,x= .str i/\y= .str j/\i.length+j.length<=sizeLine/\Q (.str (i++j)) H):=by
 intro ad s σ H x y v u Q I rx ry h;obtain⟨i,j,rfl,rfl,hz,q⟩:=h;obtain⟨t,rfl⟩:=rx;obtain⟨t',rfl⟩:=ry;exact add_str (λt' tk=>⟨.str (i++j),H,I.tok _,⟨_,Z⟩,q⟩) hz
theorem Wp{x:V}{us:aF}(r:Vals [x] us):∃u,us=[u]/\RelV x u:=by
 cases r with
 |cons r1 r2=>cases r2;exact⟨_,Z,r1⟩
theorem jad{x y:V}{us:aF}(r:Vals [x,y] us):∃u w',us=[u,w']/\RelV x u/\RelV y w' :=by
 cases r with
 |cons r1 r2=>
  cases r2 with
  |cons r3 r4=>cases r4;exact⟨_,_,Z,r1,r3⟩
theorem kX(hc:X.calm=true):i7 X (.builtin "max") (λxs H Q=>∃i j,xs=[.int i,.int j]/\Q (.int (if j>i then j else i)) H):=by
 intro ad s σ H xs us Q I r h;obtain⟨i,j,rfl,q⟩:=h;obtain⟨u,w',rfl,⟨t,rfl⟩,⟨t',rfl⟩⟩:=jad r;refine max_two_ints (I.ok.hd hc) λh' tk k=>⟨_,H,I.kept k,?_,q⟩;by_cases hj:j>i
 .rw[aB hj,aB hj];exact⟨_,Z⟩
 .rw[ax hj,ax hj];exact⟨_,Z⟩
theorem Ky(hc:X.calm=true):i7 X (.builtin "min") (λxs H Q=>∃i j,xs=[.int i,.int j]/\Q (.int (if j<i then j else i)) H):=by
 intro ad s σ H xs us Q I r h;obtain⟨i,j,rfl,q⟩:=h;obtain⟨u,w',rfl,⟨t,rfl⟩,⟨t',rfl⟩⟩:=jad r;refine min_two_ints (I.ok.hd hc) λh' tk k=>⟨_,H,I.kept k,?_,q⟩;by_cases hj:j<i
 .rw[aB hj,aB hj];exact⟨_,Z⟩
 .rw[ax hj,ax hj];exact⟨_,Z⟩
theorem xv:i7 X (.type "int") (λxs H Q=>(∃i,xs=[.int i]/\Q (.int i) H)\/∃k,xs=[.bl k]/\Q (.int (if k then 1 else 0)) H):=by
 intro ad s σ H xs us Q I r h;rcases h with⟨i,rfl,q⟩|⟨k,rfl,q⟩
 .obtain⟨u,rfl,t,rfl⟩:=Wp r;exact call_int_int ⟨.int i,H,I,⟨_,Z⟩,q⟩
 .obtain⟨u,rfl,r1⟩:=Wp r;cases r1;exact call_int_bool ⟨.int (if k then 1 else 0),H,I.tok _,⟨_,Z⟩,q⟩
end
structure IU(h:Y')(x dx C:S')(mA:Str->aO):Prop where
 obj:h.get? x=some (instObj C dx)
 ns:h.Ns1 dx mA
 ne:dx≠x
theorem Cu{h:Y'}{dx:S'}{mA:Str->aO}(n:h.Ns1 dx mA):∃od,h.get? dx=some od/\∀name,lookIn name od=some (mA name):=by
 obtain⟨o,es,ep,ho,hd,hk,_,hm⟩:=n;refine⟨o,ho,λname=> ?_⟩;have e:=hm name;unfold nsFind findBy at e;rw[<-Array.find?_toList] at e;unfold lookIn;rw[hd];dsimp only
 split
 .rename_i y q;rw[q] at e;exact congrArg some e
 .rename_i q;rw[q] at e
  have a:es.toList.any (·.refKey)=false:=by
   rw[List.any_eq_false];intro y hy;obtain⟨z,t,aek⟩:=hk y (Array.mem_toList_iff.mp hy);simp[DictEntry.refKey,aek]
  have a' :¬es.toList.any (·.refKey)=true:=by rw[a];exact cU
  rw[ax a'];exact congrArg some e
theorem IU.look{h:Y'}{x dx C:S'}{mA:Str->aO}(I:IU h x dx C mA):∃od,PySem.W.InstAt h x (instObj C dx) C (some od)/\∀name,lookIn name od=some (mA name):=
 let⟨od,ho,hl⟩:=Cu I.ns
 ⟨od,⟨I.obj,Z,Z,ho⟩,hl⟩
section
variable{prog:Z'}{w:W'}{A:X'}{E:J'}{s:R'}{K:Frag}{x dx C f:S'}{mA:Str->aO}{name:Str}{v:M'}
theorem jal{expr:Bool}{Q:J'}(X:K.In s.heap)(I:IU s.heap x dx C mA)(hg:plainGet K C name=true)(hh:PySem.W.hasDictIn K C=true)
 (ha:PySem.W.findIn K (.ref C) name=some none) (hv:mA name=some v) (X7 :handedIn v=true) (h:Q v {s with toks:=s.toks+1}):
 wpAny (model prog w) A (getAttr (.ref x) name expr) Q E s:=by
 obtain⟨od,J,hl⟩:=I.look;exact PySem.W.get_value X J (plainGet_of hg).1 (findObj_own hh ha Z (by rw[hl,hv])) X7 h
theorem NT{pl:Sem Bool}{Q:M'×aF->R'->Prop}(X:K.In s.heap)(I:IU s.heap x dx C mA)(hg:plainGet K C name=true)
 (hf:PySem.W.findIn K (.ref C) name=some (some (.ref f))) (ht:PySem.W.isFn K (.ref f)=true) (hv:mA name=none) (h:Q (.ref f,[.ref x]) s):
 wpAny (model prog w) A (getMethod (.ref x) name pl) Q E s:=by
 obtain⟨od,J,hl⟩:=I.look;exact PySem.W.method_fn X J (plainGet_of hg).1 (plainGet_of hg).2 hf (rJ.mp ht) (by show(lookIn name od).map (·.isSome)=some false;rw[hl,hv];rfl) h
theorem P9{ns:au}{Q:Unit->R'->Prop}(X:K.In s.heap)(I:IU s.heap x dx C mA)
 (hs:PySem.W.findIn K (.ref C) "__setattr__"=some (some (.builtin "object.__setattr__"))) (hp:plainOver K C=true) (ht:takerIn K C name=some none) (hh:PySem.W.hasDictIn K C=true)
 (hw:PySem.Within mA ns) (qe:ns.length<=sizeLine)
 (h:∀h',IU h' x dx C (λy=>if y=name then some v else mA y)->Heap.SameBut dx s.heap h'->Q () {s with heap:=h',toks:=s.toks+2}):
 wpAny (model prog w) A (setAttr (.ref x) name v) Q E s:=by
 obtain⟨od,J,hl⟩:=I.look;refine set_plain X J hs (PySem.W.osa_open (s:={s with toks:=s.toks+1}) (r:=none) X J hp ht λb=> ?_);obtain⟨cd,hc,QM⟩:=PySem.W.any_some hh;have hx:s.heap.get? x=some ⟨.ref C,some dx,.plain,#[]⟩:=I.obj;refine aw (aY (aw (aw (wpAny_loadPart hx (aw (PySem.W.Looks.here (s:={s with toks:=s.toks+1}) (PySem.W.looks_clsIn X hc) ?_))))));rw[QM];refine aY (a:=some dx) (aw (aY (aw ?_)));refine wpAny_nsSet1 (s:={s with toks:=s.toks+1}) I.ns λh' Yz VL=> ?_;obtain⟨oD,esD,epD,YW,Jh,ZV⟩:=Yz.count (PySem.Within.cons name v hw);refine aw (wpAny_lookBehind YW (by rw[Jh];exact pastItsLine_dict (aU ZV (by rw[bB];omega))) ?_);exact aY (h _ ⟨(VL.2 _ (ck I.ne)).trans I.obj,Yz,I.ne⟩ VL)
theorem Mf{R:Result->R'->Prop}{vs:aF}{kw:List (Str×M')}(X:K.In s.heap)(hm:makesIn K C=true)
 (hi:PySem.W.findIn K (.ref C) "__init__"=some (some (.ref f))) (hf:PySem.W.typeIn K (.ref f)=some (.type "function"))
 (h:codeAny (model prog w) (A.under (.builtin "type.__call__" ⟨.ref C::vs,kw⟩)) (.call (.ref f) ⟨.ref (s.heap.objs.size+1)::vs,kw⟩) (PySem.W.InitBack (s.heap.objs.size+1) R)
  {s with heap:=(s.heap.push emptyDict).push (instObj C s.heap.objs.size)}):
 codeAny (model prog w) A (.call (.ref C) ⟨vs,kw⟩) R s:=by
 obtain⟨hh,g,d,t,os⟩:=s;exact PySem.W.make_core (PySem.W.makes_of X hm) (looks_findIn X hi) (λself=>bind_fn X self hf) (.inl Z) h
end
noncomputable def je(f:Str)(v:V):ji->ji
 |[]=>[(f,v)]
 |(g,x)::r=>if g=f then(g,v)::r else(g,x)::je f v r
theorem rq(f g:Str)(v:V):∀fs:ji,(je f v fs).lookup g=if g=f then some v else fs.lookup g
 |[]=>by
  show List.lookup g [(f,v)]=_;by_cases h:g=f
  .have hb:(g==f)=true:=rJ.mpr h;simp only[List.lookup,hb,aB h]
  .have hb:(g==f)=false:=sr.mpr h;simp only[List.lookup,hb,ax h]
 |(k,x)::r=>by
  have ih:=rq f g v r;rw[show je f v ((k,x)::r)=(if k=f then(k,v)::r else(k,x)::je f v r) from Z];by_cases hk:k=f
  .rw[aB hk];by_cases h:g=k
   .have hb:(g==k)=true:=rJ.mpr h;simp only[List.lookup,hb,aB (h.trans hk)]
   .have hb:(g==k)=false:=sr.mpr h;simp only[List.lookup,hb,ax (λe:g=f=>h (e.trans hk.symm))]
  .rw[ax hk];by_cases h:g=k
   .have hb:(g==k)=true:=rJ.mpr h;simp only[List.lookup,hb,ax (λe:g=f=>hk (h.symm.trans e))]
   .have hb:(g==k)=false:=sr.mpr h;simp only[List.lookup,hb];exact ih
theorem xg(f:Str)(v:V):∀fs:ji,f∈(je f v fs).map (·.1)/\∀g,g∈fs.map (·.1)->g∈(je f v fs).map (·.1)
 |[]=>⟨by simp[je],λg h=>by simp at h⟩
 |(k,x)::r=>by
  obtain⟨i1,i2⟩:=xg f v r;rw[show je f v ((k,x)::r)=(if k=f then(k,v)::r else(k,x)::je f v r) from Z];by_cases hk:k=f
  .rw[aB hk];subst hk;exact⟨by simp,λg h=>by simpa using h⟩
  .rw[ax hk];refine⟨?_,λg h=> ?_⟩
   .rw[cP];exact cw _ i1
   .rw[cP] at h ⊢;rcases aP.mp h with e|e
    .exact aP.mpr (.inl e)
    .exact cw _ (i2 g e)
theorem yb(f:Str)(v:V):∀fs:ji,(je f v fs).length<=fs.length+1
 |[]=>by simp[je]
 |(k,x)::r=>by
  have ih:=yb f v r;rw[show je f v ((k,x)::r)=(if k=f then(k,v)::r else(k,x)::je f v r) from Z];by_cases hk:k=f
  .rw[aB hk,bB,bB];omega
  .rw[ax hk,bB,bB];omega
theorem m4.some_of{v:V}{o:aO}(r:m4 (some v) o):∃u,o=some u/\RelV v u:=by
 cases o with
 |none=>exact(show False from r).elim
 |some u=>exact⟨u,Z,r⟩
theorem m4.none_of{o:aO}(r:m4 none o):o=none:=by
 cases o with
 |none=>rfl
 |some u=>exact(show False from r).elim
theorem Dh{v:V}{u:M'}(r:RelV v u):handedIn u=true:=by
 cases v with
 |bp=>cases(show u=Value.none from r);rfl
 |bl b=>cases(show u=Value.bool b from r);rfl
 |int i=>obtain⟨t,e⟩:=(show ∃t,u=Value.int i t from r);cases e;rfl
 |str x=>obtain⟨t,e⟩:=(show ∃t,u=Value.str x t from r);cases e;rfl
 |JC b=>obtain⟨t,e⟩:=(show ∃t,u=Value.bytes b t from r);cases e;rfl
 |WW b=>obtain⟨t,e⟩:=(show ∃t,u=Value.float b t from r);cases e;rfl
 |ref a=>cases(show u=Value.ref a from r);rfl
 |ty n=>cases(show u=Value.type n from r);rfl
section
variable{P:Z'}{w:W'}{H H' :Hp}{h h' :Y'}{a C dx:S'}{fs fs' :ji}
theorem zL(bT:pG P w H h)(e:H a=some (.ins C dx fs)):∃mA,IU h a dx C mA/\(∀f,m4 (fs.lookup f) (mA f))/\PySem.Within mA (fs.map (·.1))/\fs.length<=1000/\H dx=some (.own a):=by
 obtain⟨d,z,ne,ob,mA,n,r,q⟩:=(show cu P w H h a (.ins C dx fs) from bT a _ e);exact⟨mA,⟨ob,n,ne⟩,r,q,z,d⟩
end
structure Om(K:Frag)(C:S'):Prop where
 pg:plainGet K C Str.empty=true
 hd:PySem.W.hasDictIn K C=true
 po:plainOver K C=true
 sa:PySem.W.findIn K (.ref C) "__setattr__"=some (some (.builtin "object.__setattr__"))
theorem Om.get{K:Frag}{C:S'}(c:Om K C)(f:Str):plainGet K C f=true:=c.pg
def eM(K:Frag)(C:S')(f:Str):Prop:=PySem.W.findIn K (.ref C) f=some none
theorem eM.abr{K:Frag}{C:S'}{f:Str}(n:eM K C f):takerIn K C f=some none:=by
 unfold takerIn;rw[show PySem.W.findIn K (.ref C) f=some none from n];rfl
structure Meth(K:Frag)(C:S')(m:Str)(f:S'):Prop where
 at_:PySem.W.findIn K (.ref C) m=some (some (.ref f))
 fn:PySem.W.isFn K (.ref f)=true
 kp:PySem.W.keepIn K (.ref f)=true
section
variable{X:Cx}{ad:aQ}{σ:St}{H:Hp}{s:R'}{a C dx:S'}{fs:ji}{f:Str}{v:V}{A:X'}{E:J'}
theorem IY{b:Bool}{Q:J'}(I:Inv X ad σ H s)(e:H a=some (.ins C dx fs))(c:Om X.K C)(n:eM X.K C f)(l:fs.lookup f=some v)
 (h:∀u s',Inv X ad σ H s'->RelV v u->Q u s'):wpAny (model X.prog X.w) A (getAttr (.ref a) f b) Q E s:=by
 obtain⟨mA,O,r,_,_,_⟩:=zL I.bT e;obtain⟨u,hu,ru⟩:=m4.some_of (v:=v) (o:=mA f) (by rw[<-l];exact r f);exact jal I.jN O (c.get f) c.hd n hu (Dh ru) (h u _ (I.tok _) ru)
theorem IV{m:Str}{g:S'}{pl:Sem Bool}{Q:M'×aF->R'->Prop}(I:Inv X ad σ H s)(e:H a=some (.ins C dx fs))(c:Om X.K C)(k:Meth X.K C m g)(l:fs.lookup m=none)
 (h:Q (.ref g,[.ref a]) s):wpAny (model X.prog X.w) A (getMethod (.ref a) m pl) Q E s:=by
 obtain⟨mA,O,r,_,_,_⟩:=zL I.bT e;have hn:mA m=none:=m4.none_of (by rw[<-l];exact r m);exact NT I.jN O (c.get m) k.at_ k.fn hn h
theorem IP{y:V}{u:M'}{Q:Unit->R'->Prop}(I:Inv X ad σ H s)(e:H a=some (.ins C dx fs))(c:Om X.K C)(n:eM X.K C f)(hl:fs.length<1000)(ry:RelV y u)
 (h:∀s',Inv X ad σ (upd H a (.ins C dx (je f y fs))) s'->Q () s'):wpAny (model X.prog X.w) A (setAttr (.ref a) f u) Q E s:=by
 obtain⟨mA,O,r,wi,_,ho⟩:=zL I.bT e;have hz:(fs.map (·.1)).length<=sizeLine:=by rw[a6,rT];omega
 refine P9 I.jN O c.sa c.po n.abr c.hd wi hz λh' O' sb=>h _ ?_;have hd:∃o,h'.get? dx=some o:=let⟨o,_,_,e',_⟩:=O'.ns;⟨o,e'⟩
 refine I.write (x:=a) (e:=dx) (by rw[e];exact True.intro) (.inr ho) (λb q hb z=>(sb.2 b hb).trans z) hd ?_;refine⟨by rw[az O.ne];exact ho,?_,O.ne,O'.obj,_,O'.ns,λg=> ?_,λg hg=> ?_⟩
 .have:=yb f y fs;omega
 .show m4 ((je f y fs).lookup g) (if g=f then some u else mA g);rw[rq];by_cases q:g=f
  .rw[aB q,aB q];exact ry
  .rw[ax q,ax q];exact r g
 .by_cases q:g=f
  .rw[q];exact(xg f y fs).1
  .refine(xg f y fs).2 g (wi g λz=>hg ?_);show(if g=f then some u else mA g)=none;rw[ax q];exact z
theorem Inv.made(I:Inv X ad σ H s):Inv X ad σ (upd (upd H s.heap.objs.size (.own (s.heap.objs.size+1))) (s.heap.objs.size+1) (.ins C s.heap.objs.size []))
 {s with heap:=(s.heap.push emptyDict).push (instObj C s.heap.objs.size)}:=by
 have e1:(s.heap.push emptyDict).get? s.heap.objs.size=some emptyDict:=cV s.heap rfl
 have e2:((s.heap.push emptyDict).push (instObj C s.heap.objs.size)).get? (s.heap.objs.size+1)=some (instObj C s.heap.objs.size):=by
  have:=cV (s.heap.push emptyDict) (o:=instObj C s.heap.objs.size) rfl;rwa[kr] at this
 have e3:(s.heap.push emptyDict).Ns s.heap.objs.size (λ_=>none):=⟨emptyDict,#[],_,e1,Z,(λe he=>absurd he (by simp)),λ_=>rfl⟩;have I1:=I.laid (a:=s.heap.objs.size) (o:= .own (s.heap.objs.size+1)) (h' :=s.heap.push emptyDict) (t' :=s.toks) (λb u q=>bq _ q) (aK _) ⟨_,e1⟩;refine I1.laid (a:=s.heap.objs.size+1) (o:= .ins C s.heap.objs.size []) (t' :=s.toks) (λb u q=>bq _ q) (oJ (kr _ _)) ?_;have ne:s.heap.objs.size≠s.heap.objs.size+1:=cJ (zd _);refine⟨by rw[az ne,af],cG _,ne,e2,λ_=>none,(Heap.Ns1.of_empty e3).at λo q=>bq _ q,λ_=>True.intro,λy hy=>absurd rfl hy⟩
theorem Kk{prog:Z'}{w:W'}{env:Env}{e:V'}{f:Str}{pos:Pos}{s:R'}{Q:J'}(hb:attributeBase e f env (eval e env)=eval e env)
 (h:wpAny (model prog w) A (eval e env) (λo bR=>wpAny (model prog w) A (getAttr o f true) Q E bR) E s):wpAny (model prog w) A (eval (.Attribute e f pos) env) Q E s:=
 Attribute_any_ h (by rw[arm_eval_Attribute,hb])
end
def ZS(K:Frag)(ta:TE)(f:Str):TE:=λσ H Q=>ta σ H λx H1=>∃a C dx fs v,x= .ref a/\H1 a=some (.ins C dx fs)/\Om K C/\eM K C f/\fs.lookup f=some v/\Q v H1
def adp(K:Frag)(ta tv:TE)(f:Str):TS:=λD σ H=>tv σ H λy H1=>ta σ H1 λx H2=>∃a C dx fs,x= .ref a/\H2 a=some (.ins C dx fs)/\Om K C/\eM K C f/\fs.length<1000/\
 D.nx σ (upd H2 a (.ins C dx (je f y fs)))
section
variable{X:Cx}{o e value:V'}{f:Str}{pos pos' adS:Pos}{ta tv:TE}
theorem VR(he:PE X e ta)(hb:attributeBase e f X.env (eval e X.env)=eval e X.env):PE X (.Attribute e f pos) (ZS X.K ta f):=by
 intro ad s σ H Q I h;refine Kk hb (di (he ad s σ H _ I h) ?_)
 rintro u s1 ⟨x,H1,I1,rx,a,C,dx,fs,v,ex,ea,c,n,l,q⟩
 subst ex;obtain rfl:u=Value.ref a:=rx;exact IY I1 ea c n l λu' s2 I2 ru=>⟨v,H1,I2,ru,q⟩
theorem MN(ha:PE X o ta)(hv:PE X value tv)(hs:swapsWith value (some (.Attribute o f pos')) pos.line X.env=pure false):PS X (.Assign [.Attribute o f pos'] value pos) (adp X.K ta tv f):=by
 intro ad s σ H D I h;refine plainObj_wpAny_Assign_Attribute (di (hv ad s σ H _ I h) λu s1 ⟨y,H1,I1,ry,q⟩=>di (ha ad s1 σ H1 _ I1 q) λov s2 ⟨x,H2,I2,rx,a,C,dx,fs,ex,ea,c,n,l,q2⟩=> ?_) hs;subst ex;obtain rfl:ov=Value.ref a:=rx;exact IP I2 ea c n l ry λs3 I3=>⟨σ,_,I3,q2⟩
end
section
variable{X:Cx}{ad:aQ}{σ:St}{H:Hp}{s:R'}{A:X'}{E:J'}{Q:J'}{c:M'}{b:Bool}
inductive uV (K:Frag) (H:Hp):V->M'->Prop where
 |bp:uV K H .bp (.type "NoneType")
 |bl (x:Bool):uV K H (.bl x) (.type "bool")
 |int (i:Int):uV K H (.int i) (.type "int")
 |str (x:Str):uV K H (.str x) (.type "str")
 |WW (x:UInt64):uV K H (.WW x) (.type "float")
 |lst {a:S'} {xs:ak} (e:H a=some (.lst xs)):uV K H (.ref a) (.type "list")
 |FW {a:S'} {o:Obj} {xs:ak} (e:H a=some (.FW o (.lst xs))):uV K H (.ref a) (.type "list")
 |tup {a:S'} {xs:ak} (e:H a=some (.tup xs)):uV K H (.ref a) (.type "tuple")
 |dK {a:S'} {kvs:eJ} (e:H a=some (.dK kvs)):uV K H (.ref a) (.type "dict")
 |dT {a:S'} {kvs:List (List wS×V)} (e:H a=some (.dT kvs)):uV K H (.ref a) (.type "dict")
 |ins {a C dx:S'} {fs:ji} (e:H a=some (.ins C dx fs)) (cl:Om K C) (ha:PySem.W.findIn K (.ref C) "__class__"=some (some (.builtin "object.__class__")))
  (hn:PySem.W.specialIn K (.builtin "object.__class__") "__get__"=some (some (.builtin "getset_descriptor.__get__"))) (htk:PySem.W.takesIn K (.builtin "object.__class__")=some true)
  (hm:PySem.W.mroIn K C (.type "object")=some true):uV K H (.ref a) (.ref C)
theorem Lc{x:V}{u t:M'}(I:Inv X ad σ H s)(rx:RelV x u)(ty:uV X.K H x t)(e:kitOne X.K t c=some b)(h:∀tk,Q (.bool b) {s with toks:=tk}):
 wpAny (model X.prog X.w) A (call (.builtin "isinstance") [u,c]) Q E s:=by
 cases ty with
 |bp=>cases(show u=Value.none from rx);exact l9 kitx_none I.jN True.intro e (λz=>nomatch z) h
 |bl y=>cases(show u=Value.bool y from rx);exact l9 kitx_bool I.jN True.intro e (λz=>nomatch z) h
 |int i=>obtain⟨t,q⟩:=(show ∃t,u=Value.int i t from rx);cases q;exact l9 kitx_int I.jN True.intro e (λz=>nomatch z) h
 |str y=>obtain⟨t,q⟩:=(show ∃t,u=Value.str y t from rx);cases q;exact l9 kitx_str I.jN True.intro e (λz=>nomatch z) h
 |WW y=>obtain⟨t,q⟩:=(show ∃t,u=Value.float y t from rx);cases q;exact l9 PySem.W.kitx_float I.jN True.intro e (λz=>nomatch z) h
 | @lst a xs ea=>
  cases(show u=Value.ref a from rx);obtain⟨_,_,n,_,h1⟩:=(show cu X.prog X.w H s.heap a (.lst xs) from I.bT a _ ea);exact l9 kitx_list I.jN ⟨_,h1,Z⟩ e (λz=>nomatch z) h
 | @FW a ob xs ea=>
  cases(show u=Value.ref a from rx);obtain⟨_,_,_,n,_,h1⟩:=(show cu X.prog X.w H s.heap a (.FW ob (.lst xs)) from I.bT a _ ea);exact l9 kitx_list I.jN ⟨_,h1,Z⟩ e (λz=>nomatch z) h
 | @tup a xs ea=>
  cases(show u=Value.ref a from rx);obtain⟨_,_,_,p⟩:=(show cu X.prog X.w H s.heap a (.tup xs) from I.bT a _ ea);obtain⟨o,h1,h2,_⟩:=p;exact l9 kitx_tuple I.jN ⟨o,h1,h2⟩ e (λz=>nomatch z) h
 | @dK a kvs ea=>
  cases(show u=Value.ref a from rx);obtain⟨_,_,vs,_,p⟩:=(show cu X.prog X.w H s.heap a (.dK kvs) from I.bT a _ ea);obtain⟨o,es,ep,h1,h2,_⟩:=p;exact l9 kitx_dict I.jN ⟨o,h1,h2.1⟩ e (λz=>nomatch z) h
 | @dT a kvs ea=>
  cases(show u=Value.ref a from rx);obtain⟨_,_,xs,_,o,es,ep,h1,h2,_⟩:=(show cu X.prog X.w H s.heap a (.dT kvs) from I.bT a _ ea);exact l9 kitx_dict I.jN ⟨o,h1,h2.1⟩ e (λz=>nomatch z) h
 | @ins a C dx fs ea cl ha hn htk hm=>
  cases(show u=Value.ref a from rx);obtain⟨mA,O,_⟩:=zL I.bT ea;obtain⟨od,J,_⟩:=O.look;exact l9 (PySem.W.kitx_own (cl.get _) cl.hd ha hn htk hm) I.jN J e (λz=>nomatch z) h
end
structure dW(k:Nat)(A:X'):Prop where
 hd:A.handled=none
 dp:A.depth+3*k+5<recursionLimit
 un:A.units+16*k+200<cLine
 gd:A.guards=some []
theorem dW.mono{j k:Nat}{A:X'}(r:dW k A)(h:j<=k):dW j A:=⟨r.hd,by have:=r.dp;omega,by have:=r.un;omega,r.gd⟩
theorem dW.deeper{k:Nat}{A:X'}(r:dW (k+1) A)(env:Env):dW k (A.deeper env):=
 ⟨r.hd,by have:=r.dp;show A.depth+1+3*k+5<_;omega,by have:=r.un;show A.units+3+16*k+200<_;omega,r.gd⟩
theorem HU{A:X'}{C:S'}{us:aF}{kw:List (Str×M')}:(A.under (.builtin "type.__call__" ⟨.ref C::us,kw⟩)).depth=A.depth+1:=by
 first|rfl|simp[Around.under,Code.weight,Code.isCreation,Code.isGuard,Code.isCaller,Code.frames,Code.isFrame,guardIds]
theorem II{A:X'}{C:S'}{us:aF}{kw:List (Str×M')}:(A.under (.builtin "type.__call__" ⟨.ref C::us,kw⟩)).units=A.units+1:=by
 first|rfl|simp[Around.under,Code.cUnits,Code.frames,Code.isFrame]
theorem FL{A:X'}{C:S'}{us:aF}{kw:List (Str×M')}{g:List Code}(h:A.guards=some g):(A.under (.builtin "type.__call__" ⟨.ref C::us,kw⟩)).guards=some g:=by
 have e:(Code.builtin "type.__call__" ⟨.ref C::us,kw⟩).guards=[]:=by first|rfl|simp[Code.guards,Code.isGuard,guardIds]
 first
  |(simp only[Around.under,e,pushGuards];exact h)
  |simp[Around.under,e,pushGuards,h]
theorem dW.make{k:Nat}{A:X'}(r:dW (k+1) A)(C:S')(us:aF)(kw:List (Str×M')):dW k (A.under (.builtin "type.__call__" ⟨.ref C::us,kw⟩)):=
 ⟨r.hd,by have:=r.dp;rw[HU];omega,by have:=r.un;rw[II];omega,FL r.gd⟩
theorem dW.depth{k:Nat}{A:X'}(r:dW k A):A.depth<recursionLimit:=by have:=r.dp;omega
theorem dW.units{k:Nat}{A:X'}(r:dW k A):A.units+64<cLine:=by have:=r.un;omega
def sQ:TA:=λ_ H Q=>Q [] H
def tL(ta:TE)(tr:TA):TA:=λσ H Q=>ta σ H λx H1=>tr σ H1 λxs H2=>Q (x::xs) H2
section
variable{X:Cx}{e:V'}{es:b8}{te:TE}{t:TA}{pos:Pos}
theorem dY:PA X [] sQ:=λ_ _ _ _ H Q I h=>wG ⟨[],H,I,.nil,h⟩
theorem ag(ha:PE X e te)(hr:PA X es t)(hs:starEach (e::es) X.env=(false,eval e X.env)::starEach es X.env:=by rfl):PA X (e::es) (tL te t):=by
 intro pos ad s σ H Q I h;rw[hs];show wpAny _ _ (spliced ((false,eval e X.env)::backTo pos (starEach es X.env))) _ _ s;refine uz (di (ha ad s σ H _ I h) ?_)
 rintro u s1 ⟨x,H1,I1,r1,q1⟩
 exact di (hr pos ad s1 σ H1 _ I1 q1) λus s2 ⟨xs,H2,I2,r2,q2⟩=>⟨x::xs,H2,I2,.cons r1 r2,q2⟩
def LB(t:TA):TE:=λσ H Q=>t σ H λxs H1=>xs.length<=sizeLine/\∀p,H1 p=none->Q (.ref p) (upd H1 p (.tup xs))
def Gx(t:TA):TE:=λσ H Q=>t σ H λxs H1=>xs.length<=sizeLine/\∀p,H1 p=none->Q (.ref p) (upd H1 p (.lst xs))
theorem bt{x1}(h:PA X es t):PE X (.Tuple es x1 pos) (LB t):=by
 intro ad s σ H Q I hq;refine wpAny_Tuple_spliced (di (h pos ad s σ H _ I hq) λus s1 ⟨xs,H1,I1,r,z,q⟩=>⟨by rw[<-r.length];exact z,?_⟩);have hf:H1 s1.heap.objs.size=none:=I1.bT.fresh (aK _);refine⟨.ref s1.heap.objs.size,upd H1 s1.heap.objs.size (.tup xs),I1.laid (t' :=s1.toks) (λb u e=>bq _ e) (aK _) ?_,Z,q _ hf⟩;exact⟨z,us,r,⟨_,cV _ Z,Z,_,Z⟩⟩
theorem bH(h:PA X es t):PE X (.List es pos) (Gx t):=by
 intro ad s σ H Q I hq;refine wpAny_List_spliced (di (h pos ad s σ H _ I hq) λus s1 ⟨xs,H1,I1,r,z,q⟩=>⟨by rw[<-r.length];exact z,?_⟩);have hf:H1 s1.heap.objs.size=none:=I1.bT.fresh (aK _);refine⟨.ref s1.heap.objs.size,upd H1 s1.heap.objs.size (.lst xs),I1.laid (t' :=s1.toks) (λb u e=>bq _ e) (aK _) ?_,Z,q _ hf⟩;exact⟨z,us,0,r,cV _ Z⟩
end
abbrev Sp:=ak->Hp->VK->XK->Prop
abbrev uo:=List Env->Hp->R'->XK->J'
structure Cq(P:Z')(w:W')(K:Frag)(mg:Str->aO)(base:Y')(A:X')(outer:List Env)(s:R')(H:Hp):Prop where
 frames:A.frames=some outer
 mod:Mod K mg base
 bs:∀b o,base.get? b=some o->s.heap.get? b=some o/\H b=none
 LN:base.objs.size<=s.heap.objs.size
 sS:s.heap.FunFrames base outer
 Ph:∀b∈Ct outer,H b=none
 bT:pG P w H s.heap
 bare:AllBare s.gens
def CE(outer:List Env)(P:Z')(w:W')(H:Hp)(s:R')(Q:VK)(u:M')(s' :R'):Prop:=
 ∃v H',s'.os=s.os/\AllBare s'.gens/\Un (Ct outer) [] H H' s.heap s'.heap/\pG P w H' s'.heap/\RelV v u/\Q v H'
def CR(CX:uo)(outer:List Env)(P:Z')(w:W')(H:Hp)(s:R')(Q:VK)(E:XK)(r:Result)(s' :R'):Prop:=
 match r with
 | .ok (.ret u)=>CE outer P w H s Q u s'
 | .ok _=>False
 | .error e=>CX outer H s E e s'
structure aT(P:Z')(w:W')(K:Frag)(mg:Str->aO)(base:Y')(CX:uo)(k:Nat)(f:S')(fd:aad)(ps:au)(sp:Sp):Prop where
 len:∀vs H Q E,sp vs H Q E->vs.length=ps.length
 run:∀(A:X') (outer:List Env) (s:R') (H:Hp) (args:Args) (us:aF) (vs:ak) (Q:VK) (E:XK),dW k A->Cq P w K mg base A outer s H->BindsTo s fd args (ps.zip us)->Vals vs us->sp vs H Q E->
  codeAny (model P w) A (.call (.ref f) args) (CR CX outer P w H s Q E) s
theorem aT.mono{P:Z'}{w:W'}{K:Frag}{mg:Str->aO}{base:Y'}{CX:uo}{j k:Nat}{f:S'}{fd:aad}{ps:au}{sp:Sp}(F:aT P w K mg base CX j f fd ps sp)(h:j<=k):
 aT P w K mg base CX k f fd ps sp:=⟨F.len,λA outer s H args us vs Q E hr=>F.run A outer s H args us vs Q E (hr.mono h)⟩
theorem aT.imp{P:Z'}{w:W'}{K:Frag}{mg:Str->aO}{base:Y'}{CX:uo}{k:Nat}{f:S'}{fd:aad}{ps:au}{sp sp' :Sp}(F:aT P w K mg base CX k f fd ps sp)
 (h:∀vs H Q E,sp' vs H Q E->sp vs H Q E):aT P w K mg base CX k f fd ps sp' :=
 ⟨λvs H Q E q=>F.len vs H Q E (h _ _ _ _ q),λA outer s H args us vs Q E hr he hb hv hs=>F.run A outer s H args us vs Q E hr he hb hv (h _ _ _ _ hs)⟩
theorem Cq.make{P:Z'}{w:W'}{K:Frag}{mg:Str->aO}{base:Y'}{A:X'}{outer:List Env}{s:R'}{H:Hp}(e:Cq P w K mg base A outer s H)(C:S')(us:aF)(kw:List (Str×M')):
 Cq P w K mg base (A.under (.builtin "type.__call__" ⟨.ref C::us,kw⟩)) outer s H:=⟨by first|exact e.frames|(simpa[Around.under,Code.envs,Code.isFrame,pushEnvs] using e.frames),e.mod,e.bs,e.LN,e.sS,e.Ph,e.bT,e.bare⟩
section
variable{X:Cx}{ad:aQ}{σ:St}{H:Hp}{s s' :R'}
theorem Inv.V0(I:Inv X ad σ H s):Cq X.prog X.w X.K X.mg X.base X.A X.stack s H:=
 ⟨I.ok.frames,I.ok.mod,I.bs,aU I.ok.LN I.sz,I.stack,I.vz,I.bT,I.bare⟩
theorem Inv.after{Q:VK}{u:M'}(I:Inv X ad σ H s)(h:CE X.stack X.prog X.w H s Q u s'):EP X ad σ Q u s' :=by
 obtain⟨v,H',os,bare,un,bT,r,q⟩:=h;obtain⟨hh,g,d,t,os'⟩:=s';obtain rfl:os' =s.os:=os;exact⟨v,H',I.call (h' :=hh) (g' :=g) (d' :=d) (t' :=t) (ch:=[]) un bT bare (λb z=>absurd z (by simp)),r,q⟩
end
def xE(sp:Sp)(dvs:ak)(E:XK)(t:TA):TE:=λσ H Q=>t σ H λvs H1=>sp (vs++dvs) H1 Q E
def Ta(C:S')(m:Str)(sp:Sp)(dvs:ak)(E:XK)(ta:TE)(t:TA):TE:=λσ H Q=>ta σ H λx H1=>∃a dx fs,x= .ref a/\H1 a=some (.ins C dx fs)/\fs.lookup m=none/\
 t σ H1 λvs H2=>sp (x::(vs++dvs)) H2 Q E
def aaj(C:S')(sp:Sp)(dvs:ak)(E:XK)(t:TA):TE:=λσ H Q=>t σ H λvs H1=>∀x dx,H1 x=none->H1 dx=none->dx≠x->
 sp (.ref x::(vs++dvs)) (upd (upd H1 dx (.own x)) x (.ins C dx [])) (λv H2=>v= .bp/\Q (.ref x) H2) E
def Binds(K:Frag)(fd:aad)(ps:au)(ds:aF):Prop:=
 ∀(s:R') (us:aF),K.In s.heap->(us++ds).length=ps.length->BindsTo s fd ⟨us,[]⟩ (ps.zip (us++ds))
theorem Binds.all{K:Frag}{fd:aad}{ps:au}(h:∀us:aF,us.length=ps.length->bindArgs fd ⟨us,[]⟩=pure (ps.zip us)):Binds K fd ps []:=λs us _ hl=>by
 rw[fG] at hl ⊢;exact .of_eq (h us hl)
def wf(CX:uo)(X:Cx)(E:XK):Prop:=∀(ad:aQ) (σ:St) (H:Hp) (s:R') (e:M') (s' :R'),Inv X ad σ H s->CX X.stack H s E e s'->X.xe e s'
section
variable{X:Cx}{CX:uo}{k:Nat}{f C:S'}{fd:aad}{ps:au}{sp:Sp}{dvs:ak}{ds:aF}{E:XK}{x m:Str}{p pos apos:Pos}{e o:V'}{es:b8}{ta:TE}{t:TA}
theorem xh{ad:aQ}{σ:St}{H:Hp}{s:R'}{Q:VK}{us:aF}{vs:ak}(F:aT X.prog X.w X.K X.mg X.base CX k f fd ps sp)(hr:dW k X.A)(hb:Binds X.K fd ps ds)(hd:Vals dvs ds)(hx:wf CX X E)
 (I:Inv X ad σ H s) (r:Vals vs us) (h:sp (vs++dvs) H Q E):wpAny (model X.prog X.w) X.A (call (.ref f) us) (EP X ad σ Q) X.xe s:=by
 have r2:Vals (vs++dvs) (us++ds):=r.append hd;have hl:(us++ds).length=ps.length:=by rw[<-r2.length];exact F.len _ _ _ _ h
 refine og (r_ (F.run X.A X.stack s H ⟨us,[]⟩ (us++ds) (vs++dvs) Q E hr I.V0 (hb s us I.jN hl) r2 h) λr s' hq=> ?_)
 cases r with
 |error e=>exact hx ad σ H s e s' I hq
 |ok fl=>
  cases fl with
  |ret u=>exact I.after hq
  |next=>exact False.elim hq
  |brk=>exact False.elim hq
  |cont=>exact False.elim hq
theorem JO(F:aT X.prog X.w X.K X.mg X.base CX k f fd ps sp)(hr:dW k X.A)(hg:Gl X x)(hm:X.mg x=some (.ref f))(hk:PySem.W.keepIn X.K (.ref f)=true)(hb:Binds X.K fd ps ds)(hd:Vals dvs ds)(hx:wf CX X E)
 (ha:PA X (e::es) t) (rD:(x==("__debug__" :Str))=false:=by decide) (he:starEach (e::es) X.env=(false,eval e X.env)::starEach es X.env:=by rfl) (ng:(backTo pos (starEach es X.env)).any (·.1)=false:=by rfl):
 PE X (.Call (.Name x p) (e::es) [] pos) (xE sp dvs E t):=by
 intro ad s σ H Q I h;refine lU (kN I hg hm ?_ rD);refine rP (h₀:=X.base) I.ok.mod.xr hk (di (ha pos ad s σ H _ I h) λus s1 ⟨vs,H1,I1,r,q⟩=>⟨I1.jN,?_⟩) he ng;exact xh F hr hb hd hx I1 r q
theorem NI(F:aT X.prog X.w X.K X.mg X.base CX k f fd ps sp)(hr:dW k X.A)(hg:Gl X x)(hm:X.mg x=some (.ref f))(hk:PySem.W.keepIn X.K (.ref f)=true)(hb:Binds X.K fd ps ds)(hd:Vals dvs ds)(hx:wf CX X E)
 (rD:(x==("__debug__" :Str))=false:=by decide):PE X (.Call (.Name x p) [] [] pos) (xE sp dvs E sQ):=by
 intro ad s σ H Q I h;refine lU (kN I hg hm ?_ rD);exact callWith_K0 I.jN hk (xh (us:=[]) F hr hb hd hx I .nil h)
theorem Mr{pl:Sem Bool}(he:PE X o ta)(c:Om X.K C)(hm:Meth X.K C m f)(F:aT X.prog X.w X.K X.mg X.base CX k f fd ps sp)(hr:dW k X.A)(hb:Binds X.K fd ps ds)(hd:Vals dvs ds)(hx:wf CX X E)
 (ht:eval (.Call (.Attribute o m apos) [] [] pos) X.env=(do
  let ov<-eval o X.env
  standAt apos.atName
  let(f,first)<-holding [ov] (getMethod ov m pl)
  callWith pos f first (backTo pos (starEach [] X.env)) (backToKw pos (keywordEach [] X.env))):=by rfl):
 PE X (.Call (.Attribute o m apos) [] [] pos) (Ta C m sp dvs E ta sQ):=by
 intro ad s σ H Q I h;refine methodCall_KW (pl:=pl) (di (he ad s σ H _ I h) λu s1 ⟨x,H1,I1,rx,a,dx,fs,ex,ea,l,q⟩=> ?_) ht;subst ex;obtain rfl:u=Value.ref a:=rx;refine IV I1 ea c hm l ?_;exact callWith_K0 (first:=[.ref a]) I1.jN hm.kp (xh (us:=[.ref a]) (vs:=[.ref a]) F hr hb hd hx I1 (.cons Z .nil) q)
structure Mk(K:Frag)(C f:S'):Prop where
 makes:makesIn K C=true
 init:PySem.W.findIn K (.ref C) "__init__"=some (some (.ref f))
 fn:PySem.W.isFn K (.ref f)=true
 kp:PySem.W.keepIn K (.ref C)=true
theorem M9{ad:aQ}{σ:St}{H:Hp}{s:R'}{Q:VK}{us:aF}{vs:ak}(M:Mk X.K C f)(F:aT X.prog X.w X.K X.mg X.base CX k f fd ps sp)(hr:dW (k+1) X.A)(hb:Binds X.K fd ps ds)(hd:Vals dvs ds)
 (hx:wf CX X E) (I:Inv X ad σ H s) (r:Vals vs us)
 (h:∀x dx,H x=none->H dx=none->dx≠x->sp (.ref x::(vs++dvs)) (upd (upd H dx (.own x)) x (.ins C dx [])) (λv H2=>v= .bp/\Q (.ref x) H2) E):
 wpAny (model X.prog X.w) X.A (call (.ref C) us) (EP X ad σ Q) X.xe s:=by
 have hq:=h (s.heap.objs.size+1) s.heap.objs.size (I.bT.fresh (uX _)) (I.bT.fresh (aK _)) (cJ (zd _));have I2:=Inv.made (C:=C) I;have r2:Vals (V.ref (s.heap.objs.size+1)::(vs++dvs)) (Value.ref (s.heap.objs.size+1)::(us++ds)):= .cons Z (r.append hd)
 have hl:(Value.ref (s.heap.objs.size+1)::us++ds).length=ps.length:=by
  have e:=r2.length;rw[F.len _ _ _ _ hq] at e;exact e.symm
 refine og (Mf (f:=f) I.jN M.makes M.init (rJ.mp M.fn) (r_ (F.run _ X.stack _ _ ⟨Value.ref (s.heap.objs.size+1)::us,[]⟩ (Value.ref (s.heap.objs.size+1)::(us++ds)) _ _ E (hr.make C us [])
  (I2.V0.make C us []) (hb _ (Value.ref (s.heap.objs.size+1)::us) I2.jN hl) r2 hq) λr s' Mu => ?_))
 cases r with
 |error e=>exact hx ad σ _ _ e s' I2 Mu
 |ok fl=>
  cases fl with
  |ret u=>
   obtain⟨v,H',I3,rv,ev,q3⟩:=I2.after Mu;subst ev;exact⟨rv,⟨V.ref (s.heap.objs.size+1),H',I3,Z,q3⟩⟩
  |next=>exact False.elim Mu
  |brk=>exact False.elim Mu
  |cont=>exact False.elim Mu
theorem QE(M:Mk X.K C f)(F:aT X.prog X.w X.K X.mg X.base CX k f fd ps sp)(hr:dW (k+1) X.A)(hg:Gl X x)(hm:X.mg x=some (.ref C))(hb:Binds X.K fd ps ds)(hd:Vals dvs ds)(hx:wf CX X E)
 (ha:PA X (e::es) t) (rD:(x==("__debug__" :Str))=false:=by decide) (he:starEach (e::es) X.env=(false,eval e X.env)::starEach es X.env:=by rfl) (ng:(backTo pos (starEach es X.env)).any (·.1)=false:=by rfl):
 PE X (.Call (.Name x p) (e::es) [] pos) (aaj C sp dvs E t):=by
 intro ad s σ H Q I h;refine lU (kN I hg hm ?_ rD);refine rP (h₀:=X.base) I.ok.mod.xr M.kp (di (ha pos ad s σ H _ I h) λus s1 ⟨vs,H1,I1,r,q⟩=>⟨I1.jN,?_⟩) he ng;exact M9 M F hr hb hd hx I1 r q
end
section
variable{X:Cx}{CX:uo}{k:Nat}{f C:S'}{fd:aad}{ps ks:au}{sp:Sp}{E:XK}{x m:Str}{p pos apos al4:Pos}{e o:V'}{es:b8}{kws:List Keyword}{te ta:TE}{t tk:TA}{nm:Option Str}
variable{g:aF->aF->aF}{gV:ak->ak->ak}
end
structure aJ(N P:au)(sc:Scope):Prop where
 kind:sc.kind= .function
 co:sc.isCoroutine=false
 gen:sc.isGenerator=false
 nd:N.Nodup
 pre:N.take P.length=P
 par:∀x∈P,sc.names.lookup x=some .local\/sc.names.lookup x=some .cell
 Wq:∀y∈sc.names,y.2≠.free
theorem CF{kindOf:Str->Option NameKind}{x:Str}:∀{binds:List (Str×M')} {m:Str->aO},(∀v,(x,v)∉binds)->bindL kindOf binds m x=m x
 |[],_,_=>rfl
 |(n,v)::r,m,h=>by
  unfold bindL;rw[CF λw hw=>h w (cw _ hw)]
  split
  .have:x≠n:=by rintro rfl;exact h v c5
   simp[this]
  .rfl
theorem CV{kindOf:Str->Option NameKind}{x:Str}:∀{binds:List (Str×M')} {m:Str->aO},(∀v,(x,v)∉binds)->bindC kindOf binds m x=m x
 |[],_,_=>rfl
 |(n,v)::r,m,h=>by
  unfold bindC;rw[CV λw hw=>h w (cw _ hw)]
  split
  .rfl
  .have:x≠n:=by rintro rfl;exact h v c5
   simp[this]
theorem Dq{kindOf:Str->Option NameKind}{x:Str}{v:M'}:∀{P:au} {vs:aF} {i:Nat} {m:Str->aO},P.Nodup->P[i]? =some x->vs[i]? =some v->kindOf x=some .local->
 bindL kindOf (P.zip vs) m x=some v
 |[],_,_,_,_,h,_,_=>by simp at h
 |_::_,[],_,_,_,_,h,_=>by simp at h
 |p::P,w::vs,0,m,nd,h1,h2,hk=>by
  simp at h1 h2;subst h1;subst h2
  show bindL kindOf ((p,w)::P.zip vs) m p=_;unfold bindL;rw[CF λv hv=>(vy.mp nd).1 (zR hv).1,aB hk];simp
 |p::P,w::vs,i+1,m,nd,h1,h2,hk=>by
  show bindL kindOf ((p,w)::P.zip vs) m x=_;unfold bindL;exact Dq (i:=i) (vy.mp nd).2 (by simpa using h1) (by simpa using h2) hk
theorem Dr{kindOf:Str->Option NameKind}{x:Str}{v:M'}:∀{P:au} {vs:aF} {i:Nat} {m:Str->aO},P.Nodup->P[i]? =some x->vs[i]? =some v->kindOf x≠some .local->
 bindC kindOf (P.zip vs) m x=some v
 |[],_,_,_,_,h,_,_=>by simp at h
 |_::_,[],_,_,_,_,h,_=>by simp at h
 |p::P,w::vs,0,m,nd,h1,h2,hk=>by
  simp at h1 h2;subst h1;subst h2
  show bindC kindOf ((p,w)::P.zip vs) m p=_;unfold bindC;rw[CV λv hv=>(vy.mp nd).1 (zR hv).1,ax hk];simp
 |p::P,w::vs,i+1,m,nd,h1,h2,hk=>by
  show bindC kindOf ((p,w)::P.zip vs) m x=_;unfold bindC;exact Dr (i:=i) (vy.mp nd).2 (by simpa using h1) (by simpa using h2) hk
noncomputable def start(N:au)(vs:ak):St:=vs.map some++List.replicate (N.length - vs.length) none
noncomputable def ny(CX:uo)(P:Z')(w:W')(K:Frag)(mg:Str->aO)(base:Y')(N:au)(qual:Str)(scope:Scope)(f:S')(cd:M')(A:X')(outer:List Env)(s:R')(H:Hp)(E:XK):Cx where
 prog:=P
 w:=w
 K:=K
 mg:=mg
 base:=base
 A:=A.deeper (envOfC qual scope s.heap.objs.size f cd)
 N:=N
 fO:=s
 H₀:=H
 env:=envOfC qual scope s.heap.objs.size f cd
 outer:=outer
 stack:=envOfC qual scope s.heap.objs.size f cd::outer
 ex:=[]
 calm:=true
 fn:=λ_=>true
 pn:=[]
 xe:=λe s' =>wpAny (model P w) (A.deeper (envOfC qual scope s.heap.objs.size f cd)) (leaving (envOfC qual scope s.heap.objs.size f cd) e) (λ_ Oc =>CX outer H s E e Oc) (λe' Oc =>CX outer H s E e' Oc) s'
theorem F4{sc:Scope}{n:Nat}{x:Str}(h:sc.names.lookup x=some .cell):∃c,(cellsFrom n sc.names []).lookup x=some c:=by
 have q:=cellsFrom_some sc.names n [] (.inl h);exact Option.isSome_iff_exists.mp q
theorem LF{CX:uo}{P:Z'}{w:W'}{K:Frag}{mg:Str->aO}{base:Y'}{N ps:au}{qual:Str}{scope:Scope}{f:S'}{cd:M'}{A:X'}{outer:List Env}{s s1:R'}{H:Hp}{E:XK}{us:aF}{vs:ak}
 (S:aJ N ps scope) (hd:A.handled=none) (e0:Cq P w K mg base A outer s H) (hl:vs.length=ps.length) (r:Vals vs us)
 (x:InCallC s s.heap.objs.size (bindL (envOfC qual scope s.heap.objs.size f cd).kindOf (ps.zip us) λ_=>none) (cellsFrom (s.heap.objs.size+1) scope.names []) (bindC (envOfC qual scope s.heap.objs.size f cd).kindOf (ps.zip us) λ_=>none) s1):
 Inv (ny CX P w K mg base N qual scope f cd A outer s H E) [] (start N vs) H s1:=by
 have ng:ps.length<=N.length:=by have:=congrArg List.length S.pre;rw[lW] at this;omega
 obtain⟨h1,tk,rfl,hk⟩:=x.done;have PB:∀b:S',b∉(ny CX P w K mg base N qual scope f cd A outer s H E).ex:=λb z=>absurd (show b∈([]:b_) from z) (by simp)
 refine⟨⟨e0.mod,S.kind,Z,Z,aK _,λy z c h1 h2=> ?_,λy hy=> ?_,λy c _ h=> ?_,λ_=>hd,Around.frames_deeper e0.frames,.inr ⟨Z,Z⟩,λb z=>absurd z (PB b),e0.bs,e0.LN,λb _ _=>PB b,λb z=>absurd z (PB b),e0.sS,e0.Ph⟩,
  rfl,e0.bare,Un.kept hk,⟨_,x.toInCall.ns,λi y v h1 h2 h3=> ?_⟩,λy c h=>⟨_,x.cell y c h⟩,e0.bT.fresh (aK _),λy c h=> ?_,λp hp=>absurd (show p∈([]:aQ) from hp) (by simp),e0.bT.kept hk,?_⟩
 .exact name_of_addr x.apart (i' h1) (i' h2)
 .have hy:scope.names.lookup y=some .cell\/scope.names.lookup y=some .free:=hy;rcases hy with hy|hy
  .exact F4 hy
  .exact absurd Z (S.Wq _ (i' hy))
 .exact cT (x.above y c (i' h))
 .have hi:i<vs.length:=by
   unfold start at h2;by_cases hi:i<vs.length
   .exact hi
   .rw[km (by simpa using hi)] at h2;rw[vN] at h2
    split at h2<;>cases h2
  have ha:vs[i]? =some v:=by
   unfold start at h2;rw[ip (by simpa using hi),bX] at h2
   cases e:vs[i]? with
   |none=>rw[e] at h2;cases h2
   |some a=>rw[e] at h2;cases h2;rfl
  obtain⟨u,hu,rv⟩:=r.get ha
  have hp:ps[i]? =some y:=by
   rw[<-S.pre,List.getElem?_take_of_lt (by omega)];exact h1
  have ndP:ps.Nodup:=by rw[<-S.pre];exact S.nd.sublist (List.take_sublist _ _)
  refine⟨u,rv,?_⟩;rcases S.par y (bD hp) with k|k
  .exact .inl ⟨k,Dq ndP hp hu k⟩
  .obtain⟨c,e⟩:=F4 (n:=s.heap.objs.size+1) k;refine .inr ⟨.inl k,c,e,?_⟩;have q:=x.cell y c e;rw[Dr ndP hp hu (by show scope.names.lookup y≠_;rw[k];decide)] at q;exact q
 .exact e0.bT.fresh (cT (x.above y c (i' h)))
 .unfold start;show _=N.length;rw[bu,a6,gS];omega
theorem J8{CX:uo}{P:Z'}{w:W'}{K:Frag}{mg:Str->aO}{base:Y'}{k:Nat}{f:S'}{name qual:Str}{params:Arguments}{body:List Stmt}{scope:Scope}{dV kV doc pm cB ct oc:M'}{an od:Option S'}
 {xM:Array (aO)} {N ps:au} {sp:Sp} (lk:K.lookup f=some ⟨oc,od,.func (PySem.W.fnOf name qual params body scope dV kV doc pm an cB ct),xM⟩) (Av:PySem.W.codeIn K cB qual=true) (S:aJ N ps scope)
 (len:∀vs H Q E,sp vs H Q E->vs.length=ps.length)
 (ja:∀(A:X') (outer:List Env) (s:R') (H:Hp) (vs:ak) (Q:VK) (E:XK),dW k (A.deeper (envOfC qual scope s.heap.objs.size f cB))->sp vs H Q E->
  ∃t,CG (ny CX P w K mg base N qual scope f cB A outer s H E) body t/\t {nx:=λ_ H' =>Q .bp H',rt:=Q} (start N vs) H):
 aT P w K mg base CX (k+1) f (PySem.W.fnOf name qual params body scope dV kV doc pm an cB ct) ps sp:=by
 refine⟨len,λA outer s H args us vs Q E hr e0 hb r DG=> ?_⟩;have hl:=len _ _ _ _ DG;have KX:K.In s.heap:=e0.mod.xr.keeps λb o e=>(e0.bs b o e).1;have lim:s.heap.NoLimit:=e0.mod.nolimit.keeps λb o e=>(e0.bs b o e).1
 have aa_:∀y∈ps.zip us,scope.names.lookup y.1=some .local\/(scope.names.lookup y.1=some .cell/\((cellsFrom (s.heap.objs.size+1) scope.names []).lookup y.1).isSome=true):=λ⟨n,v⟩ hy=>by
  rcases S.par n (zR hy).1 with q|q
  .exact .inl q
  .exact .inr ⟨q,cellsFrom_some _ _ _ (.inl q)⟩
 refine codeAny_call_function hr.depth (KX _ _ lk) Z S.co S.gen Z (PySem.W.codeRec_of KX Av) (hb _ _ _ _ ?_);refine wpAny_newFunctionEnv_cells S.kind aa_ λenv he s1 x=> ?_;subst he;refine⟨lim.keeps x.toInCall.keep,codeAny_func ?_⟩;obtain⟨t,ht,hq⟩:=ja A outer s H vs Q E (hr.deeper _) DG;have I:Inv (ny CX P w K mg base N qual scope f cB A outer s H E) [] (start N vs) H s1:=LF S hr.hd e0 hl r x;refine fW (ht [] s1 (start N vs) H _ I hq) (λfl s' hs=> ?_) λe s' hs=>hs
 have fin:∀{fC :St} {H' :Hp} {v:V} {u:M'},Inv (ny CX P w K mg base N qual scope f cB A outer s H E) [] fC H' s'->RelV v u->Q v H'->CE outer P w H s Q u s' :=
  λ{fC H' v u} J rv q=>⟨v,H',J.os,J.bare,J.base,J.bT,rv,q⟩
 cases fl with
 |ret u=>
  obtain⟨v,fC,H',J,rv,q⟩:=hs;exact fin J rv q
 |next=>
  obtain⟨fC,H',J,q⟩:=hs;exact fin (v:=V.bp) (u:=Value.none) J Z q
 |brk=>
  obtain⟨_,_,_,q⟩:=hs;exact False.elim q
 |cont=>
  obtain⟨_,_,_,q⟩:=hs;exact False.elim q
section
variable{X:Cx}{x:Str}{p pos:Pos}{e:V'}{es:b8}{t:TA}{id T:String}{r:ak->Hp->VK->Prop}
def tCB(r:ak->Hp->VK->Prop)(t:TA):TE:=λσ H Q=>t σ H λvs H1=>r vs H1 Q
theorem Nu(hc:i7 X (.builtin id) r)(hg:Gl X x)(hm:X.mg x=none)(hv:bootBuiltins x=some (.builtin id))(ha:PA X (e::es) t)(hn:x≠ "__name__":=by decide)(rD:(x==("__debug__" :Str))=false:=by decide)
 (he:starEach (e::es) X.env=(false,eval e X.env)::starEach es X.env:=by rfl) (ng:(backTo pos (starEach es X.env)).any (·.1)=false:=by rfl):PE X (.Call (.Name x p) (e::es) [] pos) (tCB r t):=by
 intro ad s σ H Q I h;refine lU (ue I hg hm hv ?_ hn rD);exact Kl (di (ha pos ad s σ H _ I h) λus s1 ⟨vs,H1,I1,r1,q1⟩=>hc ad s1 σ H1 vs us Q I1 r1 q1) he ng
theorem KZ(hc:i7 X (.type T) r)(hg:Gl X x)(hm:X.mg x=none)(hv:bootBuiltins x=some (.type T))(ha:PA X (e::es) t)(hn:x≠ "__name__":=by decide)(rD:(x==("__debug__" :Str))=false:=by decide)
 (he:starEach (e::es) X.env=(false,eval e X.env)::starEach es X.env:=by rfl) (ng:(backTo pos (starEach es X.env)).any (·.1)=false:=by rfl):PE X (.Call (.Name x p) (e::es) [] pos) (tCB r t):=by
 intro ad s σ H Q I h;refine lU (ue I hg hm hv ?_ hn rD);exact zg (di (ha pos ad s σ H _ I h) λus s1 ⟨vs,H1,I1,r1,q1⟩=>hc ad s1 σ H1 vs us Q I1 r1 q1) he ng
end
end L2
namespace HT
open PySem PyProof.Rows
section
open PySem.SeqAt
open PySem.AutoSeq1 (wpAny_loadPart')
open PySem.MeetsSeq PySem.MeetsSeq2 PySem.MeetsSeq3
end
section
variable{prog:Z'}{w:W'}{A:X'}{E:J'}{s:R'}
theorem Pp{t b:S'}{vs ws:aF}{Q:J'}(ht:IsTup s.heap t vs.toArray)(hb:IsTup s.heap b ws.toArray)(hv:vs≠[])
 (h1:ws=[]->Q (.ref t) s) (h2:ws≠[]->Q (.ref s.heap.objs.size) {s with heap:=s.heap.push {cls:= .type "tuple",data:= .seq (vs++ws).toArray}})
 (qe:vs.length+ws.length<=sizeLine):wpAny (model prog w) A (binaryOp .Add (.ref t) (.ref b)) Q E s:=by
 obtain⟨⟨cls,dd,data,sl⟩,ho,hc,n,hd⟩:=id ht;obtain⟨⟨amt,V_,data2,sl2⟩,ho2,hc2,n2,hd2⟩:=id hb;simp only at hc hd hc2 hd2;subst hc hd hc2 hd2;have e:vs.toArray++ws.toArray=(vs++ws).toArray:=by simp
 by_cases hw:ws=[]
 .exact concat_meets ⟨_,ho,Z⟩ ⟨_,ho2,Z⟩ noFill_tuple_add seq_tuple_add slot_tuple_add entry_tuple_add (args_tuple_add_2 _ _)
   (tuple_addW1 t b vs.toArray ws.toArray n n2 dd V_ sl sl2 (by simpa using hv) (by simp[hw])) ⟨ho,ho2,h1 hw⟩
 .refine concat_meets ⟨_,ho,Z⟩ ⟨_,ho2,Z⟩ noFill_tuple_add seq_tuple_add slot_tuple_add entry_tuple_add (args_tuple_add_2 _ _)
   (tuple_addW2 t b vs.toArray ws.toArray n n2 dd V_ sl sl2 (by simpa using hv) (by simpa using hw) (by rw[bJ,bJ];exact qe)) ⟨ho,ho2,?_⟩
  rw[e];exact h2 hw
noncomputable def gz(n d:Nat):Option Int->Nat
 |none=>d
 |some v=>if v<0 then(v+(n:Int)).toNat else min v.toNat n
theorem qo(n d:Nat):gz n d none=d:=rfl
theorem h9(n d k:Nat):gz n d (some (k:Int))=min k n:=by
 show(if(k:Int)<0 then((k:Int)+(n:Int)).toNat else min (k:Int).toNat n)=min k n;rw[ax (by omega),nB]
theorem WT(n d:Nat)(hd:d<=n)(o:Option Int):gz n d o<=n:=by
 cases o with
 |none=>exact hd
 |some v=>
  show(if v<0 then(v+(n:Int)).toNat else min v.toNat n)<=n;by_cases hv:v<0
  .rw[aB hv];omega
  .rw[ax hv];exact Nat.min_le_right _ _
theorem J_(v:Int)(n d:Nat):(if v<0 then max (v+(n:Int)) 0 else min v (n:Int))=((gz n d (some v):Nat):Int):=by
 show(if v<0 then max (v+(n:Int)) 0 else min v (n:Int))=(((if v<0 then(v+(n:Int)).toNat else min v.toNat n):Nat):Int);by_cases hv:v<0
 .simp only[aB hv];omega
 .simp only[ax hv];omega
theorem HK(lo hi:Option Int)(n:Nat):Builtin.Slice.sliceAdjust lo hi 1 (n:Int)=(((gz n 0 lo:Nat):Int),((gz n n hi:Nat):Int)):=by
 have h1:¬((1:Int)<0):=by omega
 unfold Builtin.Slice.sliceAdjust;simp only[h1,mJ];refine Prod.ext ?_ ?_
 .cases lo with
  |none=>rfl
  |some v=>exact J_ v n 0
 .cases hi with
  |none=>rfl
  |some v=>exact J_ v n n
theorem HL(i j:Nat):Builtin.Slice.slicePlaces (i:Int) (j:Int) 1=j - i:=by
 unfold Builtin.Slice.slicePlaces;have h1:(1:Int)>0:=by omega
 simp only[h1,oK,Int.ediv_one]
 split<;>omega
theorem AD{v:M'}{o:Option Int}{Q:Option Int->R'->Prop}(p:IsPart v o)(h:Q o s):wpAny (model prog w) A (Builtin.Slice.slicePartIndex v) Q E s:=by
 cases p with
 |none=>exact slicePart_none h
 |int i t=>exact slicePart_int h
theorem nJ{sl:S'}{vl vu:M'}{lo hi:Option Int}{n:Nat}{Q:Int×Int×Nat->R'->Prop}(hs:s.heap.IsSliceOf sl vl vu .none)(pl:IsPart vl lo)(pu:IsPart vu hi)
 (h:Q (((gz n 0 lo:Nat):Int),1,gz n n hi - gz n 0 lo) s):wpAny (model prog w) A (Builtin.Slice.sliceApplied (.ref sl) (pure (n:Int))) Q E s:=by
 obtain⟨os,Xy,hcs,Hj⟩:=id hs;unfold Builtin.Slice.sliceApplied Builtin.Slice.sliceFields;refine aw (aw (cZ Xy Hj (x:=vl) Z (aw (cZ Xy Hj (x:=vu) Z (aw (cZ Xy Hj (x:= .none) Z (aY ?_)))))));refine aw (slicePart_none ?_);show wpAny _ _ (if((1:Int)==0)=true then _ else _) _ _ s;rw[ax (by decide)];refine aw (AD pl (aw (AD pu (aw (aY ?_)))));show wpAny _ _ (match Builtin.Slice.sliceAdjust lo hi 1 (n:Int) with|(lo,hi)=>pure (lo,(1:Int),Builtin.Slice.slicePlaces lo hi 1)) _ _ s;rw[HK lo hi n];show wpAny _ _ (pure (((gz n 0 lo:Nat):Int),(1:Int),Builtin.Slice.slicePlaces ((gz n 0 lo:Nat):Int) ((gz n n hi:Nat):Int) 1)) _ _ s;rw[HL];exact aY h
theorem Ot(xs:Array M')(i k:Nat):((List.range k).filterMap λ(m:Nat)=>xs[((i:Int)+(m:Int)*1).toNat]?).toArray=((xs.toList.drop i).take k).toArray:=by
 have e:(λ(m:Nat)=>xs[((i:Int)+(m:Int)*1).toNat]?)=λm=>xs[i+m]? :=by
  funext m
  have:((i:Int)+(m:Int)*1).toNat=i+m:=by omega
  rw[this]
 rw[e];have:=pick_run xs i k;rw[List.filterMap_map] at this;have e2:((λx=>xs[x]?) ∘ λx=>i+x)=λm=>xs[i+m]? :=rfl;rw[e2] at this;rw[this]
theorem u_{t sl:S'}{items:Array M'}{vl vu:M'}{lo hi:Option Int}{Q:J'}(ht:IsTup s.heap t items)(hs:s.heap.IsSliceOf sl vl vu .none)(pl:IsPart vl lo)(pu:IsPart vu hi)
 (hw:¬(gz items.size 0 lo=0/\gz items.size items.size hi=items.size))
 (h:Q (.ref s.heap.objs.size) {s with heap:=s.heap.push {cls:= .type "tuple",data:= .seq ((items.toList.drop (gz items.size 0 lo)).take (gz items.size items.size hi - gz items.size 0 lo)).toArray}})
 (qe:items.size<=sizeLine):wpAny (model prog w) A (getItem (.ref t) (.ref sl)) Q E s:=by
 have JJ:sizeOk (.seq ((items.toList.drop (gz items.size 0 lo)).take (gz items.size items.size hi - gz items.size 0 lo)).toArray):=by
  show((items.toList.drop (gz items.size 0 lo)).take (gz items.size items.size hi - gz items.size 0 lo)).toArray.size<=sizeLine;rw[bJ,lW,ow,zc];omega
 have hj:gz items.size items.size hi<=items.size:=WT _ _ (aK _) hi;obtain⟨os,Xy,hcs,Hj⟩:=id hs;have Yi:s.TypeIs (.ref sl) "slice":=⟨os,Xy,hcs⟩;unfold getItem
 try with_reducible refine kh ?_
 first|refine aw (aY ?_)|skip
 refine aw (wpAny_sequenceKey ht.typeIs (by decide) ?_)
 refine aw (xw (name:=Str.ofString "__getitem__") ht.typeIs xn
  (uk xn ht.typeIs entry_tuple_getitem ?_ (args_tuple_getitem _ _)))
 show wpAny _ _ (Builtin.Tuple.tupleItemsOf (.ref t)>>= _) _ _ s;refine aw (tupleItemsOf_ ht ?_);refine aw (wpAny_typeOf Yi ?_);rw[aB (by decide)];refine aw (nJ hs pl pu ?_)
 have hno:¬((((gz items.size 0 lo:Nat):Int)==0&&(1:Int)==1&&(gz items.size items.size hi - gz items.size 0 lo)==items.size)=true):=by
  intro q;rw[cH,cH] at q;have q1:((gz items.size 0 lo:Nat):Int)=0:=eq_of_beq q.1.1;have q2:gz items.size items.size hi - gz items.size 0 lo=items.size:=eq_of_beq q.2;exact hw ⟨by omega,by omega⟩
 show wpAny _ _ (if(((gz items.size 0 lo:Nat):Int)==0&&(1:Int)==1&&(gz items.size items.size hi - gz items.size 0 lo)==items.size)=true then _ else _) _ _ s;rw[ax hno,Ot]
 first
  |exact aw (m:=Builtin.Tuple.tupleExact _) (oP (aY ⟨_,rfl,aY h⟩) JJ)
  |exact aw (m:=Builtin.Tuple.tupleExact _) (oP (aw (aY (aY ⟨_,rfl,aY h⟩))) JJ)
  |exact aw (aw (m:=Builtin.Tuple.tupleExact _) (oP (aY (aY ⟨_,rfl,aY h⟩)) JJ))
  |exact aw (aw (m:=Builtin.Tuple.tupleExact _) (oP (aY ⟨_,rfl,aY h⟩) JJ))
end
end HT
namespace L2
open PySem PySem.Spec PyProof.Rows
abbrev TO:=St->Hp->(Option Int->Hp->Prop)->Prop
def PO(X:Cx)(e:Option V')(t:TO):Prop:=
 ∀(ad:aQ) (s:R') (σ:St) (H:Hp) (Q:Option Int->Hp->Prop),Inv X ad σ H s->t σ H Q->
  wpAny (model X.prog X.w) X.A (evalPart e X.env) (λu s' =>∃o H',Inv X ad σ H' s'/\IsPart u o/\Q o H') X.xe s
def se:TO:=λ_ H Q=>Q none H
def CS(t:TE):TO:=λσ H Q=>t σ H λx H1=>∃i,x= .int i/\Q (some i) H1
section
variable{X:Cx}{e:V'}{te:TE}{lo hi:Option V'}{tl th:TO}{pos p2:Pos}
theorem bZ:PO X none se:=by
 intro ad s σ H Q I h;rw[evalPart_none];exact aY ⟨none,H,I,.none,h⟩
theorem bQ(h:PE X e te):PO X (some e) (CS te):=by
 intro ad s σ H Q I hw;rw[evalPart_some];refine di (h ad s σ H _ I hw) ?_
 rintro u s1 ⟨x,H1,I1,r1,q1⟩
 obtain⟨i,rfl,q⟩:=q1;obtain⟨t,rfl⟩:=r1;exact⟨some i,H1,I1,.int i t,q⟩
def Yd(X:Cx)(r:V->Option Int->Option Int->Hp->VK->Prop):Prop:=
 ∀(ad:aQ) (s:R') (σ:St) (H:Hp) (x:V) (v vl vu:M') (lo hi:Option Int) (sl:S') (Q:VK),Inv X ad σ H s->RelV x v->s.heap.IsSliceOf sl vl vu .none->IsPart vl lo->IsPart vu hi->r x lo hi H Q->
  ∃T id,typeLookup (.type T) "__getitem__"=pure (some (.builtin id))/\s.TypeIs v T/\wpAny (model X.prog X.w) X.A (getItem v (.ref sl)) (EP X ad σ Q) X.xe s
def U6(r:V->Option Int->Option Int->Hp->VK->Prop)(te:TE)(tl th:TO):TE:=λσ H Q=>te σ H λx H1=>tl σ H1 λl H2=>th σ H2 λu H3=>r x l u H3 Q
theorem dH{r:V->Option Int->Option Int->Hp->VK->Prop}(hr:Yd X r)(he:PE X e te)(hl:PO X lo tl)(hu:PO X hi th):PE X (.Subscript e (.Slice lo hi none p2) pos) (U6 r te tl th):=by
 intro ad s σ H Q I h;refine Subscript_ (di (he ad s σ H _ I h) ?_)
 rintro v s1 ⟨x,H1,I1,r1,q1⟩
 refine wpAny_Slice (di (hl ad s1 σ H1 _ I1 q1) λvl s2 ⟨l,H2,I2,pl,q2⟩=>di (hu ad s2 σ H2 _ I2 q2) ?_)
 rintro vu s3 ⟨u,H3,I3,pu,q3⟩
 rw[evalPart_none];refine aY ?_;have I4:Inv X ad σ H3 {s3 with heap:=s3.heap.push {cls:= .type "slice",data:= .fields #[vl,vu,.none]}}:=I3.kept (t' :=s3.toks) λb ob q=>bq _ q;obtain⟨T,id,hT,ht,hg⟩:=hr ad {s3 with heap:=s3.heap.push {cls:= .type "slice",data:= .fields #[vl,vu,.none]}} σ H3 x v vl vu l u s3.heap.objs.size Q I4 r1 (Heap.IsSliceOf.new ..) pl pu q3;show wpAny (model X.prog X.w) X.A (subscriptTail e (.Slice lo hi none p2) v (.ref s3.heap.objs.size)) (EP X ad σ Q) X.xe {s3 with heap:=s3.heap.push {cls:= .type "slice",data:= .fields #[vl,vu,.none]}};exact tail_any (ops:=[.ref s3.heap.objs.size,v]) ht hT hg (by with_unfolding_all rfl)
noncomputable def c6(xs:ak)(lo hi:Option Int):ak:=(xs.drop (HT.gz xs.length 0 lo)).take (HT.gz xs.length xs.length hi - HT.gz xs.length 0 lo)
theorem yo(xs:ak)(lo hi:Option Int):(c6 xs lo hi).length<=xs.length:=by
 unfold c6;rw[lW,ow];omega
def Q7(K:Frag):V->Option Int->Option Int->Hp->VK->Prop:=λx lo hi H Q=>∃a xs,x= .ref a/\bc K H a xs/\
 ¬(HT.gz xs.length 0 lo=0/\HT.gz xs.length xs.length hi=xs.length)/\∀p,H p=none->Q (.ref p) (upd H p (.tup (c6 xs lo hi)))
theorem iu:Yd X (Q7 X.K):=by
 intro ad s σ H x v vl vu lo hi sl Q I rx hs pl pu h;obtain⟨a,xs,rfl,hx,hw,q⟩:=h;cases rx;obtain⟨its,r,ht,hz⟩:=I.tuple hx;have hlen:its.toArray.size=xs.length:=by rw[bJ];exact r.length.symm
 refine⟨"tuple",_,xn.lookup,ht.typeIs,?_⟩;refine HT.u_ ht hs pl pu (by rw[hlen];exact hw) ?_ (by rw[hlen];exact hz);rw[hlen];refine⟨.ref s.heap.objs.size,_,I.laid (t' :=s.toks) (o:= .tup (c6 xs lo hi)) (λb ob q=>bq _ q) (aK _) ?_,Z,q _ (I.bT.fresh (aK _))⟩;exact⟨aU (yo xs lo hi) hz,_,(r.drop (HT.gz xs.length 0 lo)).take (HT.gz xs.length xs.length hi - HT.gz xs.length 0 lo),IsTup.new _ _⟩
def T4(K:Frag):R2:=λx y H Q=>∃a b xs ys,x= .ref a/\y= .ref b/\bc K H a xs/\bc K H b ys/\xs≠[]/\xs.length+ys.length<=sizeLine/\
 (ys=[]->Q (.ref a) H)/\(ys≠[]->∀p,H p=none->Q (.ref p) (upd H p (.tup (xs++ys))))
theorem Vals.EB{xs:ak}{us:aF}(r:Vals xs us):us=[]↔xs=[]:=by
 cases r with
 |nil=>simp
 |cons _ _=>simp
theorem jF:n5 X (binaryOp .Add) (T4 X.K):=by
 intro ad s σ H x y v u Q I rx ry h;obtain⟨a,b,xs,ys,rfl,rfl,ha,hb,hx,hz,q1,q2⟩:=h;cases rx;cases ry;obtain⟨its,r1,p1,_⟩:=I.tuple ha;obtain⟨pB,r2,p2,_⟩:=I.tuple hb;refine HT.Pp p1 p2 (λz=>hx (r1.EB.mp z)) (λz=>⟨.ref a,H,I,Z,q1 (r2.EB.mp z)⟩) (λz=> ?_) (by rw[<-r1.length,<-r2.length];exact hz);refine⟨.ref s.heap.objs.size,_,I.laid (t' :=s.toks) (o:= .tup (xs++ys)) (λb ob q=>bq _ q) (aK _) ?_,Z,q2 (λw=>z (r2.EB.mpr w)) _ (I.bT.fresh (aK _))⟩;exact⟨by rw[bu];exact hz,_,r1.append r2,IsTup.new _ _⟩
end
noncomputable def PQ(n:Nat)(i:Int):Option Nat:=if 0<=i then(if i<n then some i.toNat else none) else if -(n:Int)<=i then some (i+n).toNat else none
noncomputable def M_{α:Type}(xs:List α)(i:Int):Option α:=(PQ xs.length i).bind λj=>xs[j]?
theorem JQ{n:Nat}{i:Int}{j:Nat}(h:PQ n i=some j):seqIndex? i n=some j/\j<n/\ -(n:Int)<=i/\i<n:=by
 unfold PQ at h;by_cases h0:0<=i
 .rw[aB h0] at h;by_cases h1:i<n
  .rw[aB h1] at h;have e:i.toNat=j:=fV h;exact⟨by rw[seqIndex_of h0 h1,e],by omega,by omega,h1⟩
  .rw[ax h1] at h;cases h
 .rw[ax h0] at h;by_cases h1: -(n:Int)<=i
  .rw[aB h1] at h;have e:(i+n).toNat=j:=fV h;exact⟨by rw[seqIndex_neg (by omega) h1,e],by omega,h1,by omega⟩
  .rw[ax h1] at h;cases h
theorem D2{α:Type}{xs:List α}{i:Int}{v:α}(h:M_ xs i=some v):∃j,seqIndex? i xs.length=some j/\xs[j]? =some v/\j<xs.length/\ -(xs.length:Int)<=i/\i<xs.length:=by
 unfold M_ at h
 cases e:PQ xs.length i with
 |none=>rw[e] at h;cases h
 |some j=>
  rw[e] at h;obtain⟨h1,h2,h3,h4⟩:=JQ e;exact⟨j,h1,h,h2,h3,h4⟩
theorem bb{α:Type}{xs:List α}{j:Nat}{v:α}(h:xs[j]? =some v):M_ xs (j:Int)=some v:=by
 have hj:j<xs.length:=(c9.mp h).1
 have e:PQ xs.length (j:Int)=some j:=by
  unfold PQ;rw[aB (by omega),aB (by omega)];simp
 unfold M_;rw[e];exact h
theorem MC{α:Type}(xs:List α)(v:α):M_ (xs++[v]) (-1)=some v:=by
 have hl:(xs++[v]).length=xs.length+1:=by simp
 have e:PQ (xs++[v]).length (-1)=some xs.length:=by
  unfold PQ;rw[hl,ax (by decide),aB (by omega)]
  congr 1
  omega
 unfold M_;rw[e];show(xs++[v])[xs.length]? =some v;simp
def Ew(b:V'):Prop:=∀o i,subscripted b false o i=operate [o,i] (getItem o i)
def VX(X:Cx)(r:R2):Prop:=
 ∀(value slice:V') (ad:aQ) (s:R') (σ:St) (H:Hp) (x y:V) (v u:M') (Q:VK),Inv X ad σ H s->RelV x v->RelV y u->r x y H Q->
  subscripted slice false v u=operate [v,u] (getItem v u)->wpAny (model X.prog X.w) X.A (subscriptTail value slice v u) (EP X ad σ Q) X.xe s
def MtR(X:Cx)(id:String)(r:V->ak->Hp->VK->Prop):Prop:=
 ∀(ad:aQ) (s:R') (σ:St) (H:Hp) (x:V) (xs:ak) (v:M') (us:aF) (Q:VK),Inv X ad σ H s->RelV x v->Vals xs us->r x xs H Q->
  wpAny (model X.prog X.w) X.A (call (.builtin id) (v::us)) (EP X ad σ Q) X.xe s
section
variable{X:Cx}{a b:V'}{ta tb:TE}{pos:Pos}
theorem UT{r:R2}(hr:VX X r)(ha:PE X a ta)(hb:PE X b tb)(hs:Ew b):PE X (.Subscript a b pos) (wM r ta tb):=by
 intro ad s σ H Q I h;exact Subscript_ (Xx ha hb I h λv u s2 x y H2 I2 rx ry q=>hr a b ad s2 σ H2 x y v u Q I2 rx ry q (hs _ _))
def P5(K:Frag):R2:=λx y H Q=>∃p xs i v,x= .ref p/\y= .int i/\cF K H p xs/\M_ xs i=some v/\Q v H
def acM(K:Frag):R2:=λx y H Q=>∃p xs i v,x= .ref p/\y= .int i/\bc K H p xs/\M_ xs i=some v/\Q v H
def Qq:R2:=λx y H Q=>∃z i c,x= .str z/\y= .int i/\z.length<=sizeLine/\M_ z.cps.toList i=some c/\Q (.str ⟨#[c]⟩) H
theorem a8:VX X (P5 X.K):=by
 intro value slice ad s σ H x y v u Q I rx ry h hs;obtain⟨p,xs,i,z,rfl,rfl,hq,he,q⟩:=h;cases rx;obtain⟨t,rfl⟩:=ry;obtain⟨its,r,pl,hz⟩:=I.list hq;obtain⟨j,h1,h2,h3,h4,h5⟩:=D2 he;obtain⟨w,ew,MA⟩:=r.get h2;have hl:=r.length;have hn:=uy;have fin:EP X ad σ Q w s:=⟨z,H,I,MA,q⟩;by_cases h0:0<=i
 .have hj:i.toNat=j:=by
   rw[seqIndex_of h0 h5] at h1;exact fV h1
  exact item_listR pl.isList h0 (by omega) (by rw[hj];simpa using ew) fin hs
 .have hj:(i+(its.toArray.size:Int)).toNat=j:=by
   rw[seqIndex_neg (by omega) h4] at h1;rw[bJ,<-hl];exact fV h1
  exact subscriptTail_builtinR (x:=w) pl.isList.typeIs slot_list_getitem.lookup
   (wpAny_getItem_list_neg (Q:=λr s' =>r=w/\EP X ad σ Q r s') pl.isList (by omega) (by rw[bJ]<;>omega) (by omega) (by rw[hj];simpa using ew) ⟨Z,fin⟩) hs
theorem aN:VX X (acM X.K):=by
 intro value slice ad s σ H x y v u Q I rx ry h hs;obtain⟨p,xs,i,z,rfl,rfl,hq,he,q⟩:=h;cases rx;obtain⟨t,rfl⟩:=ry;obtain⟨its,r,pl,hz⟩:=I.tuple hq;obtain⟨j,h1,h2,h3,h4,h5⟩:=D2 he;obtain⟨w,ew,MA⟩:=r.get h2;have hl:=r.length;have hn:=uy;have fin:EP X ad σ Q w s:=⟨z,H,I,MA,q⟩
 exact subscriptTail_builtinR (x:=w) pl.typeIs slot_tuple_getitem.lookup
  (getItem_tuple (j:=j) (Q:=λr s' =>r=w/\EP X ad σ Q r s') pl (by omega) (by omega) (by rw[bJ,<-hl];exact h1) (by simpa using ew) ⟨Z,fin⟩) hs
theorem As:VX X Qq:=by
 intro value slice ad s σ H x y v u Q I rx ry h hs;obtain⟨z,i,c,rfl,rfl,hz,he,q⟩:=h;obtain⟨t,rfl⟩:=rx;obtain⟨t',rfl⟩:=ry;obtain⟨j,h1,h2,h3,h4,h5⟩:=D2 he;have hl:z.cps.toList.length=z.length:=by simp[Str.length]
 rw[hl] at h1 h4 h5;have hn:=uy
 exact tail_any (typeIs_str s z t) slot_str_getitem.lookup (getItem_str (c:=c) (by
  have e1:decide (i< -(2 ^ 63:Int))=false:=ba (by omega);have e2:decide (i≥2 ^ 63)=false:=ba (by omega);rw[e1,e2,Bool.or_false]) (by rw[h1];simpa using h2) ⟨.str ⟨#[c]⟩,H,I.tok _,⟨_,Z⟩,q⟩) hs
theorem Hr(its:aF)(n j:Nat)(u:M'):Obj.mapSeq (·.setIfInBounds j u) {cls:= .type "list",data:= .seq its.toArray n}={cls:= .type "list",data:= .seq (its.set j u).toArray n}:=by
 simp[Obj.mapSeq]
theorem Inv.lst{ad:aQ}{σ:St}{H:Hp}{s:R'}{p:S'}{xs:ak}(I:Inv X ad σ H s)(h:H p=some (.lst xs)):
 ∃(its:aF) (n:Nat),Vals xs its/\s.heap.get? p=some {cls:= .type "list",data:= .seq its.toArray n}/\xs.length<=sizeLine:=by
 obtain⟨z,its,n,r,e⟩:=I.bT p _ h;exact⟨its,n,r,e,z⟩
theorem Inv.Wd{ad:aQ}{σ:St}{H:Hp}{s:R'}{p:S'}{xs ys:ak}{its its' :aF}{n n' :Nat}{f:Obj->Obj}(I:Inv X ad σ H s)(h:H p=some (.lst xs))
 (ho:s.heap.get? p=some {cls:= .type "list",data:= .seq its.toArray n}) (hf:f {cls:= .type "list",data:= .seq its.toArray n}={cls:= .type "list",data:= .seq its'.toArray n'}) (r:Vals ys its') (hz:ys.length<=sizeLine) (t:Nat):
 Inv X ad σ (upd H p (.lst ys)) {s with heap:=s.heap.update p f,toks:=t}:=by
 have e:(s.heap.update p f).get? p=some {cls:= .type "list",data:= .seq its'.toArray n'}:=by
  rw[ma f ho (by rw[hf]<;>rfl),hf]
 refine I.write (x:=p) (e:=p) (by rw[h];trivial) (.inl Z) (λb u hb q=>(gp _ _ (ck hb)).trans q) ⟨_,e⟩ ?_;exact⟨hz,its',n',r,e⟩
def abf:V->V->V->Hp->(Hp->Prop)->Prop:=λo i v H Q=>∃p xs k j,o= .ref p/\i= .int k/\H p=some (.lst xs)/\PQ xs.length k=some j/\Q (upd H p (.lst (xs.set j v)))
theorem ZB:Y2 X abf:=by
 intro ad s σ H o i v ov iv u Q I ro ri rv h;obtain⟨p,xs,k,j,rfl,rfl,hp,hj,q⟩:=h;cases ro;obtain⟨t,rfl⟩:=ri;obtain⟨its,n,r,ho,hz⟩:=I.lst hp;obtain⟨h1,h2,h3,h4⟩:=JQ hj;have hl:=r.length;have hn:=uy
 have I' :Inv X ad σ (upd H p (.lst (xs.set j v))) {s with heap:=s.heap.update p (Obj.mapSeq (·.setIfInBounds j u))}:=
  I.Wd hp ho (Hr its n j u) (r.set rv j) (by rw[Eh];exact hz) s.toks
 by_cases h0:0<=k
 .have hk:k.toNat=j:=by
   rw[seqIndex_of h0 h4] at h1;exact fV h1
  exact PySem.W.ki_setAt ho h0 (by omega) (by rw[bJ,<-hl];exact h4) (by rw[hk];exact⟨_,I',q⟩)
 .have hk:(k+(its.toArray.size:Int)).toNat=j:=by
   rw[seqIndex_neg (by omega) h3] at h1;rw[bJ,<-hl];exact fV h1
  exact PySem.W.ki_setBack ho (by omega) (by rw[bJ,<-hl];exact h3) (by omega) (by rw[hk];exact⟨_,I',q⟩)
theorem Fc(lo hi:Option Int)(n:Nat):(sliceBounds lo hi none n).1=((HT.gz n 0 lo:Nat):Int)/\(sliceBounds lo hi none n).2.1=((HT.gz n n hi:Nat):Int)/\(sliceBounds lo hi none n).2.2=1:=by
 refine⟨?_,?_,Z⟩
 .cases lo with
  |none=>simp[sliceBounds,HT.gz]
  |some i=>
   simp only[sliceBounds,HT.gz,Option.getD_none,show(1:Int)>0 by decide,oK];by_cases h:i<0
   .simp only[h,oK]<;>omega
   .simp only[h,mJ]<;>omega
 .cases hi with
  |none=>simp[sliceBounds,HT.gz]
  |some i=>
   simp only[sliceBounds,HT.gz,Option.getD_none,show(1:Int)>0 by decide,oK];by_cases h:i<0
   .simp only[h,oK]<;>omega
   .simp only[h,mJ]<;>omega
theorem Ci(its:aF)(lo hi:Option Int):slicePick its.toArray lo hi none=((its.drop (HT.gz its.length 0 lo)).take (HT.gz its.length its.length hi - HT.gz its.length 0 lo)).toArray:=by
 obtain⟨h1,h2,h3⟩:=Fc lo hi its.toArray.size;unfold slicePick;rw[h1,h2,h3];simp only[sliceRange_one,pick_run,bJ]<;>rfl
def Vz(K:Frag):V->Option Int->Option Int->Hp->VK->Prop:=λx lo hi H Q=>∃a xs,x= .ref a/\cF K H a xs/\∀p,H p=none->Q (.ref p) (upd H p (.lst (c6 xs lo hi)))
theorem mO:Yd X (Vz X.K):=by
 intro ad s σ H x v vl vu lo hi sl Q I rx hs pl pu h;obtain⟨a,xs,rfl,hx,q⟩:=h;cases rx;obtain⟨its,r,ht,hz⟩:=I.list hx;have hlen:=r.length;refine⟨"list",_,slot_list_getitem.lookup,ht.isList.typeIs,?_⟩;refine wpAny_getItem_list_slice ht.isList hs pl pu .none (by simp) ?_ (by rw[bJ]<;>omega);rw[Ci,<-hlen];refine⟨.ref s.heap.objs.size,_,I.laid (t' :=s.toks) (o:= .lst (c6 xs lo hi)) (λb ob q=>bq _ q) (aK _) ?_,Z,q _ (I.bT.fresh (aK _))⟩;exact⟨aU (yo xs lo hi) hz,_,0,(r.drop (HT.gz xs.length 0 lo)).take (HT.gz xs.length xs.length hi - HT.gz xs.length 0 lo),cV _ Z⟩
noncomputable def nY:V->Bool
 | .bp=>true
 | .bl _=>true
 | .int _=>true
 | .str _=>true
 |_=>false
noncomputable def Hi:V->V->Bool
 | .bp,.bp=>true
 | .bl a,.bl b=>a==b
 | .bl a,.int b=>(if a then 1 else 0)==b
 | .int a,.bl b=>a==(if b then 1 else 0)
 | .int a,.int b=>a==b
 | .str a,.str b=>a==b
 |_,_=>false
theorem N3{A:X'}{s:R'}{y x:V}{u v:M'}(ry:RelV y u)(rx:RelV x v)(fy:nY y=true)(fx:nY x=true):SeqAt.EqAt A s u v (Hi y x):=by
 cases y with
 |bp=>
  cases ry
  cases x with
  |bp=>cases rx;exact SeqAt.EqAt.same _
  |bl b=>cases rx;exact SeqAt.EqAt.none_bool b
  |int b=>obtain⟨t,rfl⟩:=rx;exact SeqAt.EqAt.none_int b t
  |str b=>obtain⟨t,rfl⟩:=rx;exact SeqAt.EqAt.none_str b t
  |_=>exact absurd (show false=true from fx) cU
 |bl a=>
  cases ry
  cases x with
  |bp=>cases rx;exact SeqAt.EqAt.bool_none a
  |bl b=>cases rx;exact SeqAt.EqAt.bool_bool a b
  |int b=>obtain⟨t,rfl⟩:=rx;exact SeqAt.EqAt.bool_int a b t
  |str b=>obtain⟨t,rfl⟩:=rx;exact SeqAt.EqAt.bool_str a b t
  |_=>exact absurd (show false=true from fx) cU
 |int a=>
  obtain⟨t',rfl⟩:=ry
  cases x with
  |bp=>cases rx;exact SeqAt.EqAt.int_none a t'
  |bl b=>cases rx;exact SeqAt.EqAt.int_bool a t' b
  |int b=>obtain⟨t,rfl⟩:=rx;exact SeqAt.EqAt.int_int a t' b t
  |str b=>obtain⟨t,rfl⟩:=rx;exact SeqAt.EqAt.int_str a t' b t
  |_=>exact absurd (show false=true from fx) cU
 |str a=>
  obtain⟨t',rfl⟩:=ry
  cases x with
  |bp=>cases rx;exact SeqAt.EqAt.str_none a t'
  |bl b=>cases rx;exact SeqAt.EqAt.str_bool a t' b
  |int b=>obtain⟨t,rfl⟩:=rx;exact SeqAt.EqAt.str_int a t' b t
  |str b=>obtain⟨t,rfl⟩:=rx;exact SeqAt.EqAt.str_str a t' b t
  |_=>exact absurd (show false=true from fx) cU
 |_=>exact absurd (show false=true from fy) cU
noncomputable def Iu(x:V)(u:M'):Bool:=match u with
 | .none=>Hi .bp x
 | .bool b=>Hi (.bl b) x
 | .int i _=>Hi (.int i) x
 | .str z _=>Hi (.str z) x
 |_=>false
theorem OQ{x y:V}{u:M'}(r:RelV y u)(f:nY y=true):Iu x u=Hi y x:=by
 cases y with
 |bp=>cases r;rfl
 |bl b=>cases r;rfl
 |int i=>obtain⟨t,rfl⟩:=r;rfl
 |str z=>obtain⟨t,rfl⟩:=r;rfl
 |_=>exact absurd (show false=true from f) cU
theorem wu{x:V}:∀{xs:ak} {us:aF},Vals xs us->xs.all nY=true->us.any (Iu x)=xs.any λy=>Hi y x
 |_,_,.nil,_=>rfl
 |y::xs,u::us,.cons r t,f=>by
  rw[fk,cH] at f;rw[zy,zy,OQ r f.1,wu t f.2]
theorem qj{A:X'}{s:R'}{x:V}{v:M'}(rx:RelV x v)(fx:nY x=true):∀{xs:ak} {us:aF},Vals xs us->xs.all nY=true->∀u∈us,SeqAt.EqAt A s u v (Iu x u)
 |_,_,.nil,_=>λu hu=>by cases hu
 |y::xs,u::us,.cons r t,f=>λu' hu=>by
  rw[fk,cH] at f;rcases aP.mp hu with rfl|hu
  .rw[OQ r f.1];exact N3 r rx f.1 fx
  .exact qj rx fx t f.2 u' hu
noncomputable def HQ(x:V)(xs:ak):Bool:=xs.any λy=>Hi y x
def rIn(K:Frag)(neg:Bool):R2:=λx y H Q=>∃p xs,y= .ref p/\(cF K H p xs\/bc K H p xs)/\nY x=true/\xs.all nY=true/\Q (.bl (if neg then !HQ x xs else HQ x xs)) H
theorem kW:n5 X (compareOp .In) (rIn X.K false):=by
 intro ad s σ H x y v u Q I rx ry h;obtain⟨p,xs,rfl,hq,fx,fs,q⟩:=h;cases ry;rcases hq with hq|hq
 .obtain⟨its,r,pl,hz⟩:=I.list hq;refine SeqAt.in_listAt (Iu x) pl.isList (λw hw=>qj rx fx r fs w (by simpa using hw)) ⟨.bl _,H,I,Z,?_⟩;rw[show its.toArray.any (Iu x)=its.any (Iu x) by simp,wu r fs];exact q
 .obtain⟨its,r,pl,hz⟩:=I.tuple hq;refine SeqAt.in_tupleAt (Iu x) pl (λw hw=>qj rx fx r fs w (by simpa using hw)) ⟨.bl _,H,I,Z,?_⟩;rw[show its.toArray.any (Iu x)=its.any (Iu x) by simp,wu r fs];exact q
theorem o9:n5 X (compareOp .NotIn) (rIn X.K true):=by
 intro ad s σ H x y v u Q I rx ry h;obtain⟨p,xs,rfl,hq,fx,fs,q⟩:=h;cases ry;rcases hq with hq|hq
 .obtain⟨its,r,pl,hz⟩:=I.list hq;refine SeqAt.notIn_listAt (Iu x) pl.isList (λw hw=>qj rx fx r fs w (by simpa using hw)) ⟨.bl _,H,I,Z,?_⟩;rw[show its.toArray.any (Iu x)=its.any (Iu x) by simp,wu r fs];exact q
 .obtain⟨its,r,pl,hz⟩:=I.tuple hq;refine SeqAt.notIn_tupleAt (Iu x) pl (λw hw=>qj rx fx r fs w (by simpa using hw)) ⟨.bl _,H,I,Z,?_⟩;rw[show its.toArray.any (Iu x)=its.any (Iu x) by simp,wu r fs];exact q
theorem E4:n5 X (compareOp .NotIn) (λx y H Q=>∃i j,x= .str i/\y= .str j/\Q (.bl (!(!(Builtin.Str.occurrences j i 0 j.length 1).isEmpty))) H):=by
 intro ad s σ H x y v u Q I rx ry h;obtain⟨i,j,rfl,rfl,q⟩:=h;obtain⟨t,rfl⟩:=rx;obtain⟨t',rfl⟩:=ry;exact notIn_str ⟨.bl _,H,I,Z,q⟩
theorem br:i7 X (.builtin "len") (λxs H Q=>∃p ys,xs=[.ref p]/\(cF X.K H p ys\/bc X.K H p ys)/\Q (.int ys.length) H):=by
 intro ad s σ H xs us Q I r h;obtain⟨p,ys,rfl,hq,q⟩:=h;obtain⟨u,rfl,rx⟩:=Wp r;cases rx;have hn:=uy;rcases hq with hq|hq
 .obtain⟨its,r',pl,hz⟩:=I.list hq;have hlen:=r'.length;exact Calls.call_len_list pl.isList (by simp only[bJ]<;>omega) ⟨.int ys.length,H,I.tok _,⟨s.toks+1,by rw[bJ,hlen]⟩,q⟩
 .obtain⟨its,r',pl,hz⟩:=I.tuple hq;have hlen:=r'.length;exact len_tuple pl (by simp only[bJ]<;>omega) ⟨.int ys.length,H,I.tok _,⟨s.toks+1,by rw[bJ,hlen]⟩,q⟩
theorem oS:i7 X (.builtin "len") (λxs H Q=>∃z,xs=[.str z]/\z.length<=sizeLine/\Q (.int z.length) H):=by
 intro ad s σ H xs us Q I r h;obtain⟨z,rfl,hz,q⟩:=h;obtain⟨u,rfl,t,rfl⟩:=Wp r;have hn:=uy;exact len_str (by omega) ⟨.int z.length,H,I.tok _,⟨_,Z⟩,q⟩
theorem Es:i7 X (.type "list") (λxs H Q=>∃p ys,xs=[.ref p]/\(cF X.K H p ys\/bc X.K H p ys)/\∀l,H l=none->Q (.ref l) (upd H l (.lst ys))):=by
 intro ad s σ H xs us Q I r h;obtain⟨p,ys,rfl,hq,q⟩:=h;obtain⟨u,rfl,rx⟩:=Wp r;cases rx
 have fin:∀(its:aF),Vals ys its->ys.length<=sizeLine->∀(h' :Y') (c' :Nat),(∀b o',s.heap.get? b=some o'->h'.get? b=some o')->
  h'.get? s.heap.objs.size=some {cls:= .type "list",dict:=none,data:= .seq its.toArray c',slots:= #[]}->EP X ad σ Q (.ref s.heap.objs.size) {s with heap:=h'}:=λits r' hz h' c' kp e=>
  ⟨.ref s.heap.objs.size,_,I.laid (t' :=s.toks) kp (aK _) (show cu X.prog X.w _ h' _ (.lst ys) from⟨hz,its,c',r',e⟩),Z,q _ (I.bT.fresh (aK _))⟩
 rcases hq with hq|hq
 .obtain⟨its,r',pl,hz⟩:=I.list hq;have hlen:=r'.length;obtain⟨o,ho,hc,n,hd⟩:=pl.isList;exact call_list_seq p (.inl Z) ho hc hd (λh' c' kp e=>fin its r' hz h' c' kp e) (by simp only[bJ]<;>omega)
 .obtain⟨its,r',pl,hz⟩:=I.tuple hq;have hlen:=r'.length;obtain⟨o,ho,hc,n,hd⟩:=pl;exact call_list_seq p (.inr Z) ho hc hd (λh' c' kp e=>fin its r' hz h' c' kp e) (by simp only[bJ]<;>omega)
theorem eL:i7 X (.type "tuple") (λxs H Q=>∃p ys,xs=[.ref p]/\((cF X.K H p ys/\∀l,H l=none->Q (.ref l) (upd H l (.tup ys)))\/(bc X.K H p ys/\Q (.ref p) H))):=by
 intro ad s σ H xs us Q I r h;obtain⟨p,ys,rfl,h⟩:=h;obtain⟨u,rfl,rx⟩:=Wp r;cases rx;rcases h with⟨hq,q⟩|⟨hq,q⟩
 .obtain⟨its,r',pl,hz⟩:=I.list hq;have hlen:=r'.length;refine call_tuple_list pl.isList (λh' kp=> ?_) (by simp only[bJ]<;>omega);have I1:Inv X ad σ H {s with heap:=h'}:=I.kept (t' :=s.toks) kp
  have I2:Inv X ad σ (upd H h'.objs.size (.tup ys)) {s with heap:=h'.push {cls:= .type "tuple",data:= .seq its.toArray}}:=
   I1.laid (t' :=s.toks) (λb o e=>bq _ e) (aK _) (show cu X.prog X.w _ _ _ (.tup ys) from⟨hz,its,r',IsTup.new _ _⟩)
  exact⟨.ref h'.objs.size,_,I2,Z,q _ (I1.bT.fresh (aK _))⟩
 .obtain⟨its,r',pl,hz⟩:=I.tuple hq;exact call_tuple_same pl ⟨.ref p,H,I,Z,q⟩
def tyV(K:Frag)(T:String)(x:V)(H:Hp):Prop:=match x with
 | .str _=>T="str"
 | .int _=>T="int"
 | .ref p=>(T="list" /\∃xs,cF K H p xs)\/(T="tuple" /\∃o,K.lookup p=some o/\o.cls= .type "tuple" /\o.dict=none)\/
  (T="dict" /\((∃kvs,H p=some (.dK kvs))\/∃kvs,H p=some (.dT kvs)))\/(T="set" /\∃S n,H p=some (.set S n))
 |_=>False
theorem Wo{ad:aQ}{σ:St}{H:Hp}{s:R'}{T:String}{x:V}{v:M'}(I:Inv X ad σ H s)(r:RelV x v)(ty:tyV X.K T x H):
 s.TypeIs v T/\∀a,v= .ref a->∃ob,s.heap.get? a=some ob/\ob.dict=none:=by
 cases x with
 |str z=>
  obtain⟨t,rfl⟩:=r;cases(show T="str" from ty);exact⟨typeIs_str s z t,λ_ e=>nomatch e⟩
 |int i=>
  obtain⟨t,rfl⟩:=r;cases(show T="int" from ty);exact⟨typeIs_int s i t,λ_ e=>nomatch e⟩
 |ref p=>
  cases r;rcases ty with⟨rfl,xs,hq⟩|⟨rfl,o,hk,hc,hd⟩|⟨rfl,hk⟩|⟨rfl,S,n,hk⟩
  .obtain⟨its,_,pl,_⟩:=I.list hq;refine⟨pl.isList.typeIs,λa e=> ?_⟩;cases e;obtain⟨o,n,e,c,hd,_⟩:=pl;exact⟨o,e,hd⟩
  .refine⟨⟨o,I.jN p o hk,hc⟩,λa e=> ?_⟩;cases e;exact⟨o,I.jN _ o hk,hd⟩
  .have z:∃o,s.heap.get? p=some o/\o.ExactDict:=by
    rcases hk with⟨kvs,hk⟩|⟨kvs,hk⟩
    .obtain⟨_,_,_,_,o,_,_,e,ex,_⟩:=I.bT p _ hk;exact⟨o,e,ex⟩
    .obtain⟨_,_,_,_,o,_,_,e,ex,_⟩:=I.bT p _ hk;exact⟨o,e,ex⟩
   obtain⟨o,e,ex⟩:=z;refine⟨⟨o,e,ex.1⟩,λa e2=> ?_⟩;cases e2;exact⟨o,e,ex.2.1⟩
  .obtain⟨o,_,_,_,e,ex,_⟩:=I.bT p _ hk;refine⟨⟨o,e,ex.1⟩,λa e2=> ?_⟩;cases e2;exact⟨o,e,ex.2.1⟩
 |_=>exact False.elim ty
def tBM(K:Frag)(T:String)(r:V->ak->Hp->VK->Prop)(to:TE)(t:TA):TE:=λσ H Q=>to σ H λx H1=>tyV K T x H1/\t σ H1 λxs H2=>r x xs H2 Q
variable{o e:V'}{es:b8}{to:TE}{t:TA}{name:Str}{apos jd:Pos}{T id:String}{r:V->ak->Hp->VK->Prop}
theorem mz(pa:PlainAttrs T)(slot:Slot T name id)(hty:typeOf (.builtin id)=pure (.type "method_descriptor"))(hm:MtR X id r)(ho:PE X o to)(ha:PA X (e::es) t)
 (Bg:attributeBase o name X.env (eval o X.env)=eval o X.env:=by rfl)
 (aef:((backTo jd (starEach (e::es) X.env)).all (λx=> !x.1)&&(backToKw jd (keywordEach [] X.env)).all (λx=>x.1.isSome)
  &&decide ((e::es).length+([]:List Keyword).length+(if([]:List Keyword).isEmpty then 0 else 1)<30))=true:=by rfl)
 (N8:(apos.endLine==jd.line)=true:=by rfl) (hs:starEach (e::es) X.env=(false,eval e X.env)::starEach es X.env:=by rfl) (VZ:(backTo jd (starEach es X.env)).any (·.1)=false:=by rfl):
 PE X (.Call (.Attribute o name apos) (e::es) [] jd) (tBM X.K T r to t):=by
 intro ad s σ H Q I h;refine wpAny_Call_method_late Bg aef N8 Z (di (ho ad s σ H _ I h) ?_)
 rintro v s1 ⟨x,H1,I1,r1,ty,q1⟩
 obtain⟨h1,h2⟩:=Wo I1 r1 ty;refine⟨T,id,pa,slot,hty,h1,h2,?_⟩;have hA:=ha jd ad s1 σ H1 _ I1 q1;rw[hs] at hA ⊢;refine Calls.callWith_builtin (by show(false||(backTo jd (starEach es X.env)).any (·.1))=false;rw[VZ]<;>rfl) (Calls.evalArgs_plain ?_);exact di hA λus s2 ⟨vs,H2,I2,r2,q2⟩=>hm ad s2 σ H2 x vs v us Q I2 r1 r2 q2
end
def MtM(X:Cx)(id:String)(r:V->ak->Hp->VK->Prop):Prop:=
 ∀(ad:aQ) (s:R') (σ:St) (H:Hp) (x:V) (xs:ak) (v:M') (us:aF) (Q:VK),Inv X ad σ H s->RelV x v->Vals xs us->r x xs H Q->
  wpAny (model X.prog X.w) X.A (call (.builtin id) (v::us)) (EP X ad σ Q) X.xe s
theorem Vals.one:∀{x:V} {us:aF},Vals [x] us->∃u,us=[u]/\RelV x u
 |_,_,.cons r .nil=>⟨_,Z,r⟩
theorem Vals.rep{xs:ak}{us:aF}(h:Vals xs us):∀k:Nat,Vals (List.replicate k xs).flatten (List.replicate k us).flatten
 |0=> .nil
 |k+1=>by
  rw[qH,qH,so,so];exact Vals.append h (Vals.rep h k)
theorem jah(its:aF):∀(k:Nat) (acc:aF),
 List.foldl (λx1 x2=>x1++x2) acc.toArray (List.replicate k its.toArray)=(acc++(List.replicate k its).flatten).toArray
 |0,acc=>by simp
 |k+1,acc=>by
  have e:acc.toArray++its.toArray=(acc++its).toArray:=by simp
  have e2:(acc++its)++(List.replicate k its).flatten=acc++(List.replicate (k+1) its).flatten:=by
   rw[qH,so,Eb]
  rw[<-e2,<-jah its k (acc++its),<-e,qH,List.foldl_cons]
section
variable{X:Cx}{ad:aQ}{σ:St}{H:Hp}{s:R'}{l b:S'}{xs ys zs:ak}
theorem Inv.abm{its its' :aF}{n:Nat}{f:Array M'->Array M'}{t' :Nat}(I:Inv X ad σ H s)(hH:H l=some (.lst xs))
 (e:s.heap.get? l=some {cls:= .type "list",data:= .seq its.toArray n}) (hf:f its.toArray=its'.toArray) (hv:Vals ys its') (hz:ys.length<=sizeLine):
 Inv X ad σ (upd H l (.lst ys)) {s with heap:=s.heap.update l (Obj.mapSeq f),toks:=t'}:=by
 have q:=PySem.IsL.update e f;rw[hf] at q;refine I.write (x:=l) (e:=l) (by rw[hH];exact trivial) (.inl Z) (λb' u hb hu=>(gp s.heap (Obj.mapSeq f) (ck hb)).trans hu) ⟨_,q⟩ ?_;exact⟨hz,its',_,hv,q⟩
theorem Inv.Vr{its:aF}{t' :Nat}(I:Inv X ad σ H s)(hv:Vals ys its)(hz:ys.length<=sizeLine):
 Inv X ad σ (upd H s.heap.objs.size (.lst ys)) {s with heap:=s.heap.push {cls:= .type "list",data:= .seq its.toArray},toks:=t'}:=
 I.laid (λ_ _ q=>bq _ q) (aK _) ⟨hz,its,0,hv,cV _ Z⟩
theorem Inv.fresh(I:Inv X ad σ H s):H s.heap.objs.size=none:=I.bT.fresh (aK _)
theorem Inv.HV(I:Inv X ad σ H s)(hH:H l=some (.lst xs)):xs.length<=sizeLine/\∃(its:aF) (n:Nat),Vals xs its/\xs.length=its.length/\s.heap.get? l=some {cls:= .type "list",data:= .seq its.toArray n}:=by
 obtain⟨z,its,n,r,e⟩:=I.bT l _ hH;exact⟨z,its,n,r,r.length,e⟩
theorem Gg{n:Nat}(h:n<=sizeLine):Builtin.List.listTooLong n=false:=by
 unfold Builtin.List.listTooLong;exact ba (by omega)
end
variable{X:Cx}
def Kb:V->ak->Hp->VK->Prop:=λx vs H Q=>∃l xs y,x= .ref l/\vs=[y]/\H l=some (.lst xs)/\xs.length<sizeLine/\Q .bp (upd H l (.lst (xs++[y])))
theorem dB:MtM X "list.append" Kb:=by
 intro ad s σ H x vs v us Q I rx rv h;obtain⟨l,xs,y,rfl,rfl,hH,hz,q⟩:=h;cases rx;obtain⟨u,rfl,ru⟩:=rv.one;obtain⟨z,its,n,r,hl,e⟩:=I.HV hH;refine call_meets F.slot_list_append ⟨_,e,Z⟩ F.entry_list_append (F.args_list_append_2 _ _) (PySem.list_append l its.toArray n u (by rw[bJ];omega)) ⟨e,?_⟩;refine⟨.bp,_,I.abm (its' :=its++[u]) hH e (by simp) (r.append (.cons ru .nil)) ?_,Z,q⟩;rw[bu,Fg];omega
def Po:V->ak->Hp->VK->Prop:=λx vs H Q=>∃l b xs zs,x= .ref l/\vs=[.ref b]/\H l=some (.lst xs)/\H b=some (.lst zs)/\xs.length+zs.length<=sizeLine/\Q .bp (upd H l (.lst (xs++zs)))
theorem wW:MtM X "list.extend" Po:=by
 intro ad s σ H x vs v us Q I rx rv h;obtain⟨l,b,xs,zs,rfl,rfl,hH,hB,hz,q⟩:=h;cases rx;obtain⟨u,rfl,ru⟩:=rv.one;cases ru;obtain⟨z,its,n,r,hl,e⟩:=I.HV hH;obtain⟨z2,pB,n2,r2,n6,e2⟩:=I.HV hB;have qe:its.toArray.size+pB.toArray.size<=sizeLine:=by rw[bJ,bJ];omega
 have Od:¬(!its.toArray.isEmpty&&Builtin.List.listTooLong (its.toArray.size+pB.toArray.size))=true:=by
  rw[Gg qe,Bool.and_false];exact cU
 refine call_meets zh ⟨_,e,Z⟩ F.entry_list_extend (F.args_list_extend_2 _ _)
  (AutoSeq1.list_extend_list_list_0 l its.toArray n b pB.toArray n2 Od (by rw[bJ];omega) (by omega)) ⟨e,e2,?_⟩
 refine⟨.bp,_,I.abm (its' :=its++pB) hH e (by simp) (r.append r2) ?_,Z,q⟩;rw[bu];omega
def Rc:R2:=λx y H Q=>∃l b xs zs,x= .ref l/\y= .ref b/\H l=some (.lst xs)/\H b=some (.lst zs)/\xs.length+zs.length<=sizeLine/\∀p,H p=none->Q (.ref p) (upd H p (.lst (xs++zs)))
theorem fM:n5 X (binaryOp .Add) Rc:=by
 intro ad s σ H x y v u Q I rx ry h;obtain⟨l,b,xs,zs,rfl,rfl,hH,hB,hz,q⟩:=h;cases rx;cases ry;obtain⟨z,its,n,r,hl,e⟩:=I.HV hH;obtain⟨z2,pB,n2,r2,n6,e2⟩:=I.HV hB;refine PySem.P.add_list e e2 ?_ (by rw[bJ,bJ];omega);have ea:its.toArray++pB.toArray=(its++pB).toArray:=by simp
 rw[ea];exact⟨.ref _,_,I.Vr (t' :=s.toks) (r.append r2) (by rw[bu];omega),Z,q _ I.fresh⟩
def XF:R2:=λx y H Q=>∃l k xs,x= .ref l/\y= .int k/\H l=some (.lst xs)/\ -(2 ^ 63)<=k/\k<2 ^ 63/\xs.length*k.toNat<=sizeLine/\
 ∀p,H p=none->Q (.ref p) (upd H p (.lst (List.replicate k.toNat xs).flatten))
theorem jam{α:Type}(xs:List α)(k:Nat):(List.replicate k xs).flatten.length=k*xs.length:=by
 induction k with
 |zero=>simp
 |succ k ih=>rw[qH,so,bu,ih,Nat.succ_mul,Nat.add_comm]
theorem xi:n5 X (binaryOp .Mult) XF:=by
 intro ad s σ H x y v u Q I rx ry h;obtain⟨l,k,xs,rfl,rfl,hH,h1,h2,hz,q⟩:=h;cases rx;obtain⟨t,rfl⟩:=ry;obtain⟨z,its,n,r,hl,e⟩:=I.HV hH;have hlen:its.toArray.size*k.toNat<=sizeLine:=by rw[bJ,<-hl];exact hz
 have afL:¬its.toArray.size*k.toNat>(2 ^ 63 - 1) / 8:=by
  have:(sizeLine:Nat)<=(2 ^ 63 - 1) / 8:=by decide
  omega
 have ac_:¬(!Builtin.List.listFitsIndex k)=true:=by
  rw[fitsIndex_both h1 h2];exact cU
 have Od:¬Builtin.List.listTooLong (its.toArray.size*k.toNat)=true:=by
  rw[Gg hlen];exact cU
 have adI:List.foldl (λx1 x2=>x1++x2) #[] (List.replicate (if its.toArray.isEmpty=true then 0 else k.toNat) its.toArray)=(List.replicate k.toNat its).flatten.toArray:=by
  have f0:∀m:Nat,List.foldl (λx1 x2=>x1++x2) #[] (List.replicate m its.toArray)=(List.replicate m its).flatten.toArray:=λm=>by
   have:=jah its m [];rw[oY] at this;exact this
  rw[f0]
  cases its with
  |nil=>simp
  |cons a r' =>rw[ax (by simp)]
 refine wpAny_binaryOp_repeat_ref (T:="list") (U:="int") (by decide) ⟨_,e,Z⟩ (λs' =>typeIs_int s' k t) noFill_list_mul F.fills_int_mul F.slot_int_rmul repeat_list F.slot_int_index.lookup
  (call_meets F.slot_int_rmul (typeIs_int s k t) F.entry_int_rmul (F.args_int_rmul_2 _ _) (int___rmul___int_list k t l its.toArray n)
   ⟨e,Z,⟨_,e,Z⟩,call_meets F.slot_list_mul ⟨_,e,Z⟩ F.entry_list_mul (F.args_list_mul_2 _ _) (AutoListH.list___mul___list_int_3 l its.toArray n k t ac_ afL Od) ⟨e,?_⟩⟩)
 rw[adI];exact⟨.ref _,_,I.Vr (t' :=s.toks) (r.rep k.toNat) (by rw[jam,Nat.mul_comm];exact hz),Z,q _ I.fresh⟩
section
variable{prog:Z'}{w:W'}{A:X'}{E:J'}{s:R'}
set_option maxRecDepth 100000 in
end
section
variable{κ:Type}[DecidableEq κ]
noncomputable def eV(kvs:List (κ×V))(k:κ):Option V:=(kvs.find? λkv=>decide (kv.1=k)).map (·.2)
noncomputable def jae(kvs:List (κ×V))(k:κ)(v:V):List (κ×V):=
 if(kvs.any λkv=>decide (kv.1=k))=true then kvs.map (λkv=>if kv.1=k then(kv.1,v) else kv) else kvs++[(k,v)]
noncomputable def aiO(kvs:List (κ×V))(k:κ):List (κ×V):=kvs.filter λkv=>decide (kv.1≠k)
theorem GF{p:κ×V}{r:List (κ×V)}{k:κ}(e:p.1=k):eV (p::r) k=some p.2:=by simp[eV,rY,e]
theorem Fw{p:κ×V}{r:List (κ×V)}{k:κ}(e:¬p.1=k):eV (p::r) k=eV r k:=by simp[eV,rY,e]
theorem Gi(kvs:List (κ×V))(k:κ)(v:V):(jae kvs k v).length<=kvs.length+1:=by
 unfold jae
 split
 .rw[a6];omega
 .rw[bu,bB,m5];omega
theorem m4.Lw{o:Option V}{u:aO}(r:m4 o u):o.isSome=u.isSome:=by
 cases o with
 |none=>cases u with
  |none=>rfl
  |some _=>exact(show False from r).elim
 |some _=>cases u with
  |none=>exact(show False from r).elim
  |some _=>rfl
theorem m4.getD{o:Option V}{u:aO}{d:V}{d' :M'}(r:m4 o u)(rd:RelV d d'):RelV (o.getD d) (u.getD d'):=by
 cases o with
 |none=>cases u with
  |none=>exact rd
  |some _=>exact(show False from r).elim
 |some _=>cases u with
  |none=>exact(show False from r).elim
  |some _=>exact r
theorem KV.val{kvs:List (κ×V)}{vs:List (κ×M')}(r:KV kvs vs)(k:κ):m4 (eV kvs k) (valueAt vs k):=by
 unfold KV at r
 induction r with
 |nil=>exact True.intro
 | @cons p q ps qs h t ih=>
  obtain⟨h1,h2⟩:=h;by_cases e:p.1=k
  .have e' :q.1=k:=h1.symm.trans e;have b:valueAt (q::qs) k=some q.2:=by simp[valueAt,rY,e']
   rw[GF e,b];exact h2
  .have e' :¬q.1=k:=λz=>e (h1.trans z);have b:valueAt (q::qs) k=valueAt qs k:=by simp[valueAt,rY,e']
   rw[Fw e,b];exact ih
theorem KV.any{kvs:List (κ×V)}{vs:List (κ×M')}(r:KV kvs vs)(k:κ):(kvs.any λkv=>decide (kv.1=k))=vs.any λkv=>decide (kv.1=k):=by
 unfold KV at r
 induction r with
 |nil=>rfl
 |cons h t ih=>rw[zy,zy,ih,h.1]
theorem KV.adA{kvs:List (κ×V)}{vs:List (κ×M')}(r:KV kvs vs)(k:κ){y:V}{u:M'}(ry:RelV y u):
 KV (kvs.map λkv=>if kv.1=k then(kv.1,y) else kv) (vs.map λkv=>if kv.1=k then(kv.1,u) else kv):=by
 unfold KV at r ⊢
 induction r with
 |nil=>exact .nil
 | @cons p q ps qs h t ih=>
  rw[cP,cP];refine .cons ?_ ih;obtain⟨h1,h2⟩:=h;by_cases e:p.1=k
  .rw[aB e,aB (h1.symm.trans e)];exact⟨h1,ry⟩
  .rw[ax e,ax (λz=>e (h1.trans z))];exact⟨h1,h2⟩
theorem KV.put{kvs:List (κ×V)}{vs:List (κ×M')}(r:KV kvs vs)(k:κ){y:V}{u:M'}(ry:RelV y u):KV (jae kvs k y) (stored vs k u):=by
 unfold jae stored;rw[r.any k];by_cases e:(vs.any λkv=>decide (kv.1=k))=true
 .rw[aB e,aB e];exact r.adA k ry
 .rw[ax e,ax e];exact Paired.snoc r ⟨Z,ry⟩
end
theorem F6{P:Z'}{w:W'}{k:wS}{u:M'}(r:RelV (kV k) u):(cW P w).is k u=true:=by
 cases k with
 |inl i=>obtain⟨t,e⟩:=(show ∃t,u=Value.int i t from r);subst e;exact Fu P w i t
 |inr x=>obtain⟨t,e⟩:=(show ∃t,u=Value.str x t from r);subst e;exact GO P w x t
theorem CM{P:Z'}{w:W'}:∀{ks:List wS} {us:aF},Vals (ks.map kV) us->ItemsAre (cW P w) ks us
 |[],_,r=>by rw[mM] at r;cases r;exact .nil
 |k::ks,_,r=>by
  rw[cP] at r
  cases r with
  |cons h t=>exact .cons (F6 h) (CM t)
abbrev KT(H:Hp):List (List wS×V)->List (List wS×S'×M')->Prop:=Paired λp q=>p.1=q.1/\H q.2.1=some (.tup (p.1.map kV))/\RelV p.2 q.2.2
theorem KT.val{H:Hp}{kvs:List (List wS×V)}{xs:List (List wS×S'×M')}(r:KT H kvs xs)(k:List wS):m4 (eV kvs k) ((atKey xs k).map (·.2)):=by
 induction r with
 |nil=>exact True.intro
 | @cons p q ps qs h t ih=>
  obtain⟨h1,_,h2⟩:=h;by_cases e:p.1=k
  .have e' :q.1=k:=h1.symm.trans e;have b:atKey (q::qs) k=some q.2:=by simp[atKey,rY,e']
   rw[GF e,b];exact h2
  .have e' :¬q.1=k:=λz=>e (h1.trans z);have b:atKey (q::qs) k=atKey qs k:=by simp[atKey,rY,e']
   rw[Fw e,b];exact ih
section
variable{P:Z'}{w:W'}{H:Hp}{h:Y'}{a:S'}
theorem TM{u:HO}(ok:pG P w H h)(e:Rd H a u):cu P w H h a u:=e.ok ok
theorem Mb{kvs:eJ}(ok:pG P w H h)(e:Rd H a (.dK kvs)):kvs.length<=sizeLine/\(a==sysModules)=false/\∃vs,KV kvs vs/\h.DictOf (cW P w) a vs:=
 show cu P w H h a (.dK kvs) from TM ok e
theorem RS{kvs:eJ}(ok:pG P w H h)(e:H a=some (.dK kvs)):kvs.length<=sizeLine/\(a==sysModules)=false/\∃vs,KV kvs vs/\h.DictOf (cW P w) a vs:=Mb ok (.inl e)
theorem Nj{ks:List wS}(ok:pG P w H h)(e:H a=some (.tup (ks.map kV))):(tupleKind (cW P w)).is h ks a:=by
 obtain⟨_,its,r,o,h1,h2,n,h3⟩:=(show cu P w H h a (.tup (ks.map kV)) from ok a _ e);exact⟨o,its.toArray,n,h1,h2,h3,by simpa using CM r⟩
theorem UJ{kvs:List (List wS×V)}(ok:pG P w H h)(e:Rd H a (.dT kvs)):kvs.length<=sizeLine/\(a==sysModules)=false/\
 ∃xs,KT H kvs xs/\h.DictOfH (tupleKind (cW P w)) a xs:=by
 obtain⟨z,y,xs,r,o,es,ep,h1,h2,h3,h4,h5⟩:=(show cu P w H h a (.dT kvs) from TM ok e);refine⟨z,y,xs,r,o,es,ep,h1,h2,h3,h4,λx hx=> ?_,h5⟩
 have all:∀{l:List (List wS×V)} {m:List (List wS×S'×M')},KT H l m->∀x∈m,(tupleKind (cW P w)).is h x.1 x.2.1:=by
  intro l m q
  induction q with
  |nil=>intro x hx;exact nomatch hx
  | @cons p q ps qs hq t ih=>
   intro x hx;rcases aP.mp hx with e|hx
   .subst e;exact Nj ok (by rw[<-hq.1];exact hq.2.1)
   .exact ih x hx
 exact all r x hx
end
def GV(H:Hp)(a:S')(y:V)(r:Option V):Prop:=
 (∃kvs k,Rd H a (.dK kvs)/\y=kV k/\r=eV kvs k)\/∃kvs k b,Rd H a (.dT kvs)/\y= .ref b/\H b=some (.tup (k.map kV))/\r=eV kvs k
def alq(H:Hp)(a:S')(y v:V)(H' :Hp):Prop:=
 (∃kvs k,H a=some (.dK kvs)/\y=kV k/\kvs.length<sizeLine/\H' =upd H a (.dK (jae kvs k v)))\/
 ∃kvs k b,H a=some (.dT kvs)/\y= .ref b/\H b=some (.tup (k.map kV))/\kvs.length<sizeLine/\H' =upd H a (.dT (jae kvs k v))
theorem GV.k{H:Hp}{a:S'}{kvs:eJ}{k:wS}(e:H a=some (.dK kvs)):GV H a (kV k) (eV kvs k):= .inl ⟨kvs,k,.inl e,Z,Z⟩
section
variable{X:Cx}{ad:aQ}{σ:St}{H:Hp}{s:R'}{a:S'}{y v:V}{u r:M'}{o:Option V}{A:X'}{E:J'}
theorem Inv.big(I:Inv X ad σ H s):sysModules<s.heap.objs.size:=by
 have h:mainGlobals<s.heap.objs.size:=(I.mod.glob.keeps I.bk).lt;exact zx (by decide) h
theorem QV{h' :Y'}{t' :Nat}{ob:HO}(I:Inv X ad σ H s)(mu:Mut (H a))(hs:Heap.SameBut a s.heap h')(he:∃q,h'.get? a=some q)(new:cu X.prog X.w (upd H a ob) h' a ob):
 Inv X ad σ (upd H a ob) {s with heap:=h',toks:=t'}:=
 I.write (x:=a) (e:=a) mu (.inl Z) (λb q hb z=>(hs.2 b hb).trans z) he new
theorem VP{P:Z'}{w:W'}{H' :Hp}{h' :Y'}{kvs:eJ}{vs:List (wS×M')}(z:kvs.length<=sizeLine)(hd:(a==sysModules)=false)(rel:KV kvs vs)(dd:h'.DictOf (cW P w) a vs):
 cu P w H' h' a (.dK kvs):=⟨z,hd,vs,rel,dd⟩
end
section
variable{X:Cx}{ad:aQ}{σ:St}{H:Hp}{s:R'}{a:S'}{kvs:eJ}{k:wS}{u:M'}{A:X'}{E:J'}
end
def aaf(i:V'):Prop:=∀ov iv,subscripted i false ov iv=operate [ov,iv] (getItem ov iv)
theorem Rp{prog:Z'}{w:W'}{A:X'}{E:J'}{s:R'}{env:Env}{value slice:V'}{pos:Pos}{T id:String}{Q:J'}
 (hl:typeLookup (.type T) "__getitem__"=pure (some (.builtin id))) (hs:aaf slice)
 (h:wpAny (model prog w) A (eval value env) (λo bR=>wpAny (model prog w) A (eval slice env) (λi uK=>uK.TypeIs o T/\wpAny (model prog w) A (getItem o i) Q E uK) E bR) E s):
 wpAny (model prog w) A (eval (.Subscript value slice pos) env) Q E s:=by
 refine Subscript_ (fW h (λo bR h₁=>fW h₁ (λi uK lz=> ?_) λ_ _ x=>x) λ_ _ x=>x);obtain⟨hT,lz⟩:=lz;unfold subscriptTail;refine aw ?_;rw[getitemInPython_of_ne hT.not_modules];refine aw (wpAny_specialOf hT hl ?_)
 have fin:wpAny (model prog w) A (subscripted slice false o i) (λr y6=>wpAny (model prog w) A (letTemporaryGo value o r>>= λ_=>pure r) Q E y6) E uK:=by
  rw[hs o i];exact wpAny_operating (fW lz (λr y6 qR=>aw (wpAny_letTemporaryGo (aY qR))) λ_ _ x=>x)
 first
  |exact aY (aw fin)
  |exact aw (aY (aw fin))
  |exact aw fin
section
variable{X:Cx}{o i e value:V'}{pos pos' adS:Pos}{td ty tv:TE}
end
theorem F_{P:Z'}{w:W'}{H:Hp}(h:Y')(hb:sysModules<h.objs.size):cu P w H (h.push {cls:= .type "dict",data:= .dict #[]}) h.objs.size (.dK []):=
 ⟨cG _,sr.mpr (ck (cJ hb)),[],.nil,Heap.DictOf.new h⟩
def M8:TE:=λ_ H Q=>∀p,H p=none->Q (.ref p) (upd H p (.dK []))
section
variable{X:Cx}{pos:Pos}
theorem qh:PE X (.Dict [] [] pos) M8:=λad s σ H Q I h=>
 wpAny_Dict_empty ⟨.ref s.heap.objs.size,_,I.laid (a:=s.heap.objs.size) (o:= .dK []) (t' :=s.toks) (λ_ _ q=>bq _ q) (aK _) (F_ s.heap I.big),Z,h _ (I.bT.fresh (aK _))⟩
end
def Ih:List (TE×TE)->St->Hp->(List (V×V)->Hp->Prop)->Prop
 |[],_,H,Q=>Q [] H
 |(tk,tv)::r,σ,H,Q=>tk σ H λx H1=>tv σ H1 λy H2=>Ih r σ H2 λps H3=>Q ((x,y)::ps) H3
abbrev VV:List (V×V)->List (M'×M')->Prop:=Paired λp q=>RelV p.1 q.1/\RelV p.2 q.2
def PPs(X:Cx)(pos:Pos)(keys:List (Option V'))(values:b8)(FX:List (TE×TE)):Prop:=
 ∀(ad:aQ) (s:R') (σ:St) (H:Hp) (Q:List (V×V)->Hp->Prop),Inv X ad σ H s->Ih FX σ H Q->
  wpAny (model X.prog X.w) X.A (evalPairs (pairTrees keys values X.env pos)) (λvs s' =>∃ps H',Inv X ad σ H' s'/\VV ps vs/\Q ps H') X.xe s
theorem vJ{X:Cx}{pos:Pos}:PPs X pos [] [] []:=λad s σ H Q I h=>pairTrees_nil_walk ⟨[],H,I,.nil,h⟩
theorem g9{X:Cx}{pos:Pos}{k v:V'}{ks:List (Option V')}{vs:b8}{tk tv:TE}{FX:List (TE×TE)}(hk:PE X k tk)(hv:PE X v tv)(hr:PPs X pos ks vs FX):
 PPs X pos (some k::ks) (v::vs) ((tk,tv)::FX):=λad s σ H Q I h=>
 pairTrees_cons_walk (di (hk ad s σ H _ I h) λu s1 ⟨x,H1,I1,rx,q1⟩=>di (hv ad s1 σ H1 _ I1 q1) λw2 s2 ⟨y,H2,I2,ry,q2⟩=>
  di (hr ad s2 σ H2 _ I2 q2) λws s3 ⟨ps,H3,I3,rel,q3⟩=>⟨(x,y)::ps,H3,I3,.cons ⟨rx,ry⟩ rel,q3⟩)
noncomputable def oZ(kvs more:eJ):eJ:=more.foldl (λacc kv=>jae acc kv.1 kv.2) kvs
theorem KV.merge:∀{more:eJ} {rs:List (wS×M')} {kvs:eJ} {vs:List (wS×M')},KV more rs->KV kvs vs->KV (oZ kvs more) (merged vs rs):=by
 intro more rs kvs vs r;unfold KV at r
 induction r generalizing kvs vs with
 |nil=>intro q;exact q
 | @cons p q ps qs h t ih=>
  intro r0
  have e:KV (jae kvs p.1 p.2) (stored vs q.1 q.2):=by
   have:=r0.put p.1 h.2;rw[<-h.1];exact this
  exact ih e
theorem t8:∀(more kvs:eJ),(oZ kvs more).length<=kvs.length+more.length
 |[],kvs=>by show kvs.length<=kvs.length+0;omega
 |p::r,kvs=>by
  have h1:=t8 r (jae kvs p.1 p.2);have h2:=Gi kvs p.1 p.2;show(oZ (jae kvs p.1 p.2) r).length<=_;rw[bB];omega
theorem A5{P:Z'}{w:W'}:∀{kvs:eJ} {ws:List (M'×M')},VV (kvs.map λkv=>(kV kv.1,kv.2)) ws->∃rs,Carries (cW P w) ws rs/\KV kvs rs
 |[],_,r=>by rw[mM] at r;cases r;exact⟨[],True.intro,.nil⟩
 |p::kvs,_,r=>by
  rw[cP] at r
  cases r with
  | @cons a b as bs h t=>
   obtain⟨rs,c,q⟩:=A5 (P:=P) (w:=w) t;obtain⟨b1,b2⟩:=b;exact⟨(p.1,b2)::rs,⟨F6 h.1,Z,c⟩,.cons ⟨Z,h.2⟩ q⟩
def L6(FX:List (TE×TE)):TE:=λσ H Q=>∀p,H p=none->Ih FX σ (upd H p (.dK [])) λps H2=>H2 p=some (.dK [])/\∃kvs:eJ,ps=kvs.map (λkv=>(kV kv.1,kv.2))/\kvs.length<=15/\Q (.ref p) (upd H2 p (.dK (oZ [] kvs)))
theorem vQ{X:Cx}{pos:Pos}{keys:List (Option V')}{values:b8}{FX:List (TE×TE)}(h:PPs X pos keys values FX)(Im:keys.all (·.isSome)=true)(hl:keys.length=values.length)(h0:keys≠[])
 (h15:keys.length<=15):PE X (.Dict keys values pos) (L6 FX):=by
 intro ad s σ H Q I q;have hn:=I.bT.fresh (aK s.heap.objs.size);have I1:=I.laid (a:=s.heap.objs.size) (o:= .dK []) (h' :=s.heap.push {cls:= .type "dict",data:= .dict #[]}) (t' :=s.toks) (λ_ _ q=>bq _ q) (aK _) (F_ s.heap I.big);refine wpAny_Dict_walk (knd:=cW X.prog X.w) Im hl h0 h15 (di (h ad _ σ _ _ I1 (q _ hn)) ?_)
 rintro ws s2 ⟨ps,H2,I2,rel,e,kvs,ep,lk,q2⟩
 subst ep;obtain⟨rs,c,rk⟩:=A5 (P:=X.prog) (w:=X.w) rel;obtain⟨z,hd,vs0,r0,dd⟩:=RS I2.bT e;cases r0;refine⟨rs,c,dd,λh' XT hs=>⟨.ref s.heap.objs.size,_,?_,Z,q2⟩⟩
 have hz:(oZ [] kvs).length<=sizeLine:=by
  have h1:=t8 kvs [];rw[m5] at h1;rw[rT];omega
 have he:∃q,h'.get? s.heap.objs.size=some q:=let⟨q,_,_,hq,_⟩:=XT;⟨q,hq⟩
 exact QV I2 (by rw[e];exact True.intro) hs he (VP hz hd (rk.merge .nil) XT)
structure M2(X:Cx)(o:V')(m:Str)(apos:Pos)(e f:V')(jd:Pos):Prop where
 base:attributeBase o m X.env (eval o X.env)=eval o X.env
 few:((backTo jd (starEach [e,f] X.env)).all (λx=> !x.1)&&(backToKw jd (keywordEach [] X.env)).all (λx=>x.1.isSome)
  &&decide (([e,f]:b8).length+([]:List Keyword).length+(if([]:List Keyword).isEmpty then 0 else 1)<30))=true
 line:(apos.endLine==jd.line)=true
 trees:backTo jd (starEach [e,f] X.env)=[(false,eval e X.env),(false,eval f X.env)]
def IsD(H:Hp)(a:S'):Prop:=(∃kvs,Rd H a (.dK kvs))\/∃kvs,Rd H a (.dT kvs)
theorem VH{X:Cx}{ad:aQ}{σ:St}{H:Hp}{s:R'}{a:S'}(I:Inv X ad σ H s)(d:IsD H a):
 s.TypeIs (.ref a) "dict" /\(∀b,Value.ref a= .ref b->∃ob,s.heap.get? b=some ob/\ob.dict=none)/\(a==sysModules)=false:=by
 rcases d with⟨kvs,e⟩|⟨kvs,e⟩
 .obtain⟨_,hd,vs,_,dd⟩:=Mb I.bT e;refine⟨dd.typeIs,λb q=> ?_,hd⟩;cases q;obtain⟨ob,_,_,h1,h2,_⟩:=dd;exact⟨ob,h1,h2.2.1⟩
 .obtain⟨_,hd,xs,_,dd⟩:=UJ I.bT e;refine⟨dd.typeIs,λb q=> ?_,hd⟩;cases q;obtain⟨ob,_,_,h1,h2,_⟩:=dd;exact⟨ob,h1,h2.2.1⟩
section
variable{X:Cx}{ad:aQ}{σ:St}{H:Hp}{s:R'}{a:S'}{y d:V}{u r:M'}{o:Option V}{A:X'}{E:J'}
theorem Wr{Q:J'}(hu:A.units+1<cLine)(I:Inv X ad σ H s)(g:GV H a y o)(ry:RelV y u)(rd:RelV d r)(h:∀w' s',Inv X ad σ H s'->RelV (o.getD d) w'->Q w' s'):
 wpAny (model X.prog X.w) A (call (.builtin "dict.get") [.ref a,u,r]) Q E s:=by
 rcases g with⟨kvs,k,e,ey,l⟩|⟨kvs,k,b,e,ey,eb,l⟩
 .subst ey;obtain⟨z,hd,vs,rel,dd⟩:=Mb I.bT e;refine call_meetsIn slot_dict_get dd.typeIs entry_dict_get (args_dict_get_3 _ _ _) (meets_dict_get_default (cW X.prog X.w) a (F6 ry) hd r) ⟨_,dd.mapOf,h _ _ (I.tok _) ?_⟩;rw[l];exact(rel.val k).getD rd
 .subst ey;cases(show u=Value.ref b from ry);obtain⟨z,hd,xs,rel,dd⟩:=UJ I.bT e;refine call_meetsIn slot_dict_get dd.typeIs entry_dict_get (args_dict_get_3 _ _ _) (meetsH_dict_get_default (tupleKind (cW X.prog X.w)) a b hd r) ⟨tupleKind_room_in1 hu,k,xs,Nj I.bT eb,dd,h _ _ (I.tok _) ?_⟩;rw[l];exact(rel.val k).getD rd
end
def VG(td ty tx:TE):TE:=λσ H Q=>td σ H λx H1=>∃a,x= .ref a/\IsD H1 a/\ty σ H1 λy H2=>tx σ H2 λz H3=>∃o,GV H3 a y o/\Q (o.getD z) H3
section
variable{X:Cx}{o e f:V'}{apos jd:Pos}{td ty tx:TE}
theorem vS(hu:X.A.units+1<cLine)(ho:PE X o td)(he:PE X e ty)(hf:PE X f tx)(m:M2 X o "get" apos e f jd):PE X (.Call (.Attribute o "get" apos) [e,f] [] jd) (VG td ty tx):=by
 intro ad s σ H Q I h;refine wpAny_Call_method m.base m.few m.line PySem.F.plainAttrs_dict slot_dict_get PySem.F.type_dict_get (di (ho ad s σ H _ I h) ?_)
 rintro u s1 ⟨x,H1,I1,rx,a,ex,d,q1⟩
 subst ex;obtain rfl:u=Value.ref a:=rx;obtain⟨t1,t2,_⟩:=VH I1 d;refine⟨t1,t2,?_⟩;rw[m.trees]
 refine Calls.callWith_builtin Z (Calls.evalArgs_plain (uz (di (he ad s1 σ H1 _ I1 q1) λiv s2 ⟨y,H2,I2,ry,q2⟩=>
  uz (di (hf ad s2 σ H2 _ I2 q2) λfv s3 ⟨z,H3,I3,rz,ov,g,q3⟩=>wG ?_))))
 exact Wr hu I3 g ry rz λw' s4 I4 MA =>⟨_,H3,I4,MA,q3⟩
end
section
variable{X:Cx}{ad:aQ}{σ:St}{H:Hp}{s:R'}{a:S'}{kvs:eJ}{A:X'}{E:J'}
end
section
variable{X:Cx}{ad:aQ}{σ:St}{H:Hp}{s:R'}{a:S'}{y:V}{u:M'}{A:X'}{E:J'}
end
end L2
namespace Att
open PySem PySem.W PySem.Calls PyProof.Rows
theorem yN{P:Params}{h:Y'}:∀(ns:List Int) (vs:aF),WellAll P h vs (ns.map WData.int)->IntsAre vs ns:=by
 intro ns
 induction ns with
 |nil=>
  intro vs w;rw[mM] at w;cases w;exact .nil
 |cons n ns ih=>
  intro vs w;rw[cP] at w
  cases w with
  |cons a b=>
   cases a;exact .cons _ _ (ih _ b)
theorem Lb{l:OpenLaw}{n:Nat}(hn:l.most=some n){P:Params}{h:Y'}{args:List WData}{vals:aF}
 (Qc:l.row.toRowW.claim.pre args=true) (O0:WellAll P h vals args):
 ∃a vs ns,vals=[Value.ref a]/\args=[WData.list (ns.map WData.int)]/\h.get? a=some {cls:= .type "list",data:= .seq vs.toArray}/\IntsAre vs ns/\ns.length<=n:=by
 have hsh:WShape.hasAll [] args [.list .int]=true:=(pre_splitW Qc).1;have hc:l.pre.holds [] {args:=args}=true:=(pre_splitW Qc).2;obtain⟨d,r,rfl,h1,h2⟩:=hasAllW_cons hsh;obtain rfl:=hasAllW_nil h2;obtain⟨xs,rfl,h3⟩:=hasW_list h1;obtain⟨ns,rfl⟩:=items_int h3
 have hlen:ns.length<=n:=by
  unfold OpenLaw.pre at hc
  have h4:(WTm.not (.lt (.lit (.int (n:Int))) (.len (.arg 0)))).holds [] {args:=[.list (ns.map .int)]}=true:=by
   have h4:=(holds_andW hc).1;rw[hn] at h4;exact h4
  have h5:=condW_of h4 (w_not (w_lt w_lit (w_len_list (w_arg Z))));rw[a6] at h5;refine Nat.le_of_not_lt λq=> ?_;have q' :(n:Int)<((ns.length:Nat):Int):=by omega
  first
   |(rw[aS q'] at h5;exact absurd h5 (by decide))
   |(simp at h5;omega)
 cases O0 with
 |cons w1 w2=>
  cases w2
  cases w1 with
  |list ho Im=>exact⟨_,_,ns,Z,Z,ho,yN ns _ Im,hlen⟩
theorem Lf(l:OpenLaw)(args:List WData):l.row.toRowW.claim.post args (.bool true) args=true:=
 postW_of (r:=l.row.toRowW) (X:=(true==true))
  (show WShape.has [] (.bool true) .bool=true by first|rfl|decide|simp[WShape.has,WShape.arms,WShape.armsAll])
  (show(WTm.eq .res (.lit (.bool true))).value [] {args:=args,res:=some (.bool true),after:=args}=some (.bool (true==true)) from w_eq_bool (w_res Z) w_lit) rfl
theorem GK{l:OpenLaw}{n:Nat}{q:Z'}{loose:au}{XP:(Str->aO)->Y'->Prop}{YP:W'->Y'->Prop}{d:DefRec}
 (hn:l.most=some n) (ZM:d.params.defaults=[])
 (call:∀(w:W') (fO bR:R') (mg mb:Str->aO) (fa:S') (o:Obj) (pm cd doc:M') (a:S') (vs:aF) (ns:List Int),
  Ground q loose [] XP w fO mg mb bR.heap->YP w bR.heap->
  bR.heap.get? fa=some o->o.data= .func (docDef d.name d.params d.body d.scope pm cd doc)->bR.heap.CodeRec cd d.name->mg d.name=some (.ref fa)->
  bR.heap.get? a=some {cls:= .type "list",data:= .seq vs.toArray}->IntsAre vs ns->ns.length<=n->bR.gens= #[]->
  codeAny (model l.prog w) callerA (.call (.ref fa) ⟨[.ref a],[]⟩) (λr s' =>r= .ok (.ret (.bool true))/\OldK bR.heap s'.heap/\s'.os=bR.os/\AllBare s'.gens) bR):
 WalkO q loose XP YP l.row.toRowW d [] (λf vs=>PySem.call f vs):=by
 intro w fO bR mg mb G Y fa o pm cd doc dV kV ho hd Av hD Rm hg args vals as Qc akh hrd O0 OL;obtain rfl:dV= .none:=Dflts.none hD ZM;obtain rfl:kV= .none:=Dflts.noKw hD;obtain⟨a,vs,ns,rfl,rfl,Wv,hints,hlen⟩:=Lb hn Qc O0;refine enter_call (r_ (call w fO bR mg mb fa o pm cd doc a vs ns G Y ho (fd_plain hd) Av Rm Wv hints hlen hg) λr s' hq=> ?_);obtain⟨rfl,h2,h3,h4⟩:=hq;exact⟨.inl ⟨.bool true,.bool true,[],Z,λ_=>rfl,.bool true,Lf l _,λ_=>⟨List.Pairwise.nil,λ_ hm=>(nomatch hm)⟩⟩,h2,h3,h4⟩
section
variable{prog:Z'}{w:W'}{A:X'}{E:J'}{s:R'}{K:Frag}
end
end Att
namespace L2
open PySem PySem.Spec PyProof.Rows
theorem DD:∀{vs:aF} {ns:List Int},IntsAre vs ns->Vals (ns.map V.int) vs
 |_,_,.nil=> .nil
 |_,_,.cons n t h=> .cons ⟨t,Z⟩ (DD h)
def Cf(H:Hp):Prop:=∀b,H b=none\/∃o xs,H b=some (.FW o (.lst xs))
abbrev dQ:uo:=λ_ _ _ _ _ _=>False
abbrev E0:XK:=λ_ _ _=>False
theorem aC{X:Cx}:wf dQ X E0:=λ_ _ _ _ _ _ _ h=>h.elim
structure Ga(K:Frag)(x qual:Str)(st:Stmt)(f:S')(fd:aad):Prop where
 ex:∃(oc:M') (od:Option S') (kV doc pm:M') (an:Option S') (cB ct:M') (xM:Array (aO)),
  fd=PySem.W.fnOf x qual (ib st) (dN st) (av st) .none kV doc pm an cB ct/\K.lookup f=some ⟨oc,od,.func fd,xM⟩/\PySem.W.codeIn K cB qual=true
 kp:PySem.W.keepIn K (.ref f)=true
section
variable{P:Z'}{w:W'}{K:Frag}{mg:Str->aO}{base:Y'}
theorem Ga.ok{x qual:Str}{st:Stmt}{f:S'}{fd:aad}{N ps:au}{k:Nat}{sp:Sp}(F:Ga K x qual st f fd)(S:aJ N ps (av st))(len:∀vs H Q E,sp vs H Q E->vs.length=ps.length)
 (ja:∀(cB:M') (A:X') (outer:List Env) (s:R') (H:Hp) (vs:ak) (Q:VK) (E:XK),dW k (A.deeper (envOfC qual (av st) s.heap.objs.size f cB))->sp vs H Q E->
  ∃t,CG (ny dQ P w K mg base N qual (av st) f cB A outer s H E).K0 (dN st) t/\t {nx:=λ_ H' =>Q .bp H',rt:=Q} (start N vs) H):aT P w K mg base dQ (k+1) f fd ps sp:=by
 obtain⟨oc,od,kV,doc,pm,an,cB,ct,xM,rfl,lk,Av⟩:=F.ex;refine J8 lk Av S len λA outer s H vs Q E hr DG=> ?_;obtain⟨t,h,q⟩:=ja cB A outer s H vs Q E hr DG;exact⟨t,h.K0,q⟩
theorem Ga.binds{x qual:Str}{st:Stmt}{f:S'}{fd:aad}{ps:au}(F:Ga K x qual st f fd)
 (h:∀(kV doc pm:M') (an:Option S') (cB ct:M') (us:aF),us.length=ps.length->bindArgs (PySem.W.fnOf x qual (ib st) (dN st) (av st) .none kV doc pm an cB ct) ⟨us,[]⟩=pure (ps.zip us)):Binds K fd ps []:=by
 obtain⟨oc,od,kV,doc,pm,an,cB,ct,xM,rfl,lk,Av⟩:=F.ex;exact .all (h kV doc pm an cB ct)
theorem EU{x qual:Str}{st:Stmt}{f:S'}{oc:M'}{od an:Option S'}{xM:Array (aO)}{kV doc pm cB ct:M'}(l:K.lookup f=some ⟨oc,od,.func (PySem.W.fnOf x qual (ib st) (dN st) (av st) .none kV doc pm an cB ct),xM⟩)
 (c:PySem.W.codeIn K cB qual=true) (k:PySem.W.keepIn K (.ref f)=true):Ga K x qual st f (PySem.W.fnOf x qual (ib st) (dN st) (av st) .none kV doc pm an cB ct):=⟨⟨oc,od,kV,doc,pm,an,cB,ct,xM,Z,l,c⟩,k⟩
end
theorem aaE{A:X'}{k:Nat}(hr:dW k A):A.units+1<cLine:=jc (Nat.add_le_add_left (by decide:1<=64) _) hr.units
variable{X:Cx}
theorem pv(i:Nat){x:Str}{pos:Pos}(hN:X.N[i]? =some x:=by rfl)(hv:Vis X.env.scope x:=by first|exact Or.inl rfl|exact Or.inr (Or.inl rfl)|exact Or.inr (Or.inr rfl))(hd:(x==("__debug__" :Str))=false:=by decide)
 (Av:(x==("__classdict__" :Str))=false:=by decide):PE X (.Name x pos) (zY i):=Xk hN hv hd Av
theorem bo{A B:Prop}(h:B):if false=true then A else B:=by
 rw[ax cU];exact h
theorem a9{A B:Prop}(h:A):if true=true then A else B:=by
 rw[aB Z];exact h
theorem mF{c A B:Prop}[Decidable c](h1:c->A)(h2:¬c->B):if c then A else B:=by
 by_cases h:c
 .rw[aB h];exact h1 h
 .rw[ax h];exact h2 h
def ah(H H' :Hp):Prop:=∀b o,H b=some o->H' b=some o
theorem ah.refl(H:Hp):ah H H:=λ_ _ h=>h
theorem ah.trans{H H1 H2:Hp}(a:ah H H1)(b:ah H1 H2):ah H H2:=λc o h=>b c o (a c o h)
theorem ah.free{H H' :Hp}(e:ah H H'){l:S'}(h:H' l=Option.none):H l=Option.none:=by
 cases q:H l with
 |none=>rfl
 |some o=>
  rw[e l o q] at h;cases h
theorem ah.seq{K:Frag}{H H' :Hp}{a:S'}{xs:ak}(e:ah H H')(h:cF K H a xs):cF K H' a xs:=by
 rcases h with(h|⟨o,h⟩)|h
 .exact .inl (.inl (e _ _ h))
 .exact .inl (.inr ⟨o,e _ _ h⟩)
 .exact .inr h
section
variable{κ:Type}[DecidableEq κ]
end
noncomputable def n8(env:Env):List (Str×NameKind)->List (Str×S')->List (Str×S')
 |[],acc=>acc
 |y::r,acc=>n8 env r (if(y.2==NameKind.free)=true then(y.1,(env.cells.lookup y.1).getD 0)::acc else acc)
theorem AW{env:Env}:∀(ns:List (Str×NameKind)) (acc:List (Str×S')),(∀y∈ns,y.2= .free->∃c,env.cells.lookup y.1=some c)->
 (forIn ns acc λ(x:Str×NameKind) (cs:List (Str×S'))=>if(x.2==NameKind.free)=true then(cellOf env x.1>>= λa=>pure (ForInStep.yield ((x.1,a)::cs))) else(pure (ForInStep.yield cs):Sem (ForInStep (List (Str×S')))))=pure (n8 env ns acc)
 |[],acc,_=>rfl
 |y::r,acc,h=>by
  rw[vh];have ih:=λa=>AW r a λz hz=>h z (cw _ hz);by_cases hk:(y.2==NameKind.free)=true
  .obtain⟨c,hc⟩:=h y c5 (eq_of_beq hk);have e:cellOf env y.1=pure c:=by unfold cellOf;rw[hc]
   rw[aB hk,e];show(forIn r ((y.1,c)::acc) _:Sem (List (Str×S')))=_;rw[ih];show pure (n8 env r ((y.1,c)::acc))=pure (n8 env r (if(y.2==NameKind.free)=true then(y.1,(env.cells.lookup y.1).getD 0)::acc else acc));rw[aB hk,hc];rfl
  .rw[ax hk];show(forIn r acc _:Sem (List (Str×S')))=_;rw[ih];show pure (n8 env r acc)=pure (n8 env r (if(y.2==NameKind.free)=true then(y.1,(env.cells.lookup y.1).getD 0)::acc else acc));rw[ax hk]
theorem BC{scope:Scope}{env:Env}(h:∀y∈scope.names,y.2= .free->∃c,env.cells.lookup y.1=some c):closureFor scope env=pure (n8 env scope.names []):=by
 have q:=AW (env:=env) scope.names [] h;have e:closureFor scope env=((forIn scope.names ([]:List (Str×S')) λ(x:Str×NameKind) (cs:List (Str×S'))=>if(x.2==NameKind.free)=true then(cellOf env x.1>>= λa=>pure (ForInStep.yield ((x.1,a)::cs))) else(pure (ForInStep.yield cs):Sem (ForInStep (List (Str×S')))))>>= λcs=>pure cs):=rfl;rw[e,q];rfl
theorem xu{env:Env}:∀(ns:List (Str×NameKind)) (acc:List (Str×S')) {x:Str} {c:S'},(∀y∈ns,y.2= .free->∃c,env.cells.lookup y.1=some c)->(n8 env ns acc).lookup x=some c->env.cells.lookup x=some c\/acc.lookup x=some c
 |[],acc,x,c,_,h=> .inr h
 |y::r,acc,x,c,h,e=>by
  have e:(n8 env r (if(y.2==NameKind.free)=true then(y.1,(env.cells.lookup y.1).getD 0)::acc else acc)).lookup x=some c:=e;rcases xu r _ (λz hz=>h z (cw _ hz)) e with q|q
  .exact .inl q
  .by_cases hk:(y.2==NameKind.free)=true
   .rw[aB hk,iR] at q;obtain⟨d,hd⟩:=h y c5 (eq_of_beq hk)
    cases hx:x==y.1 with
    |true=>
     rw[hx] at q;dsimp only at q;rw[hd] at q;have hxy:x=y.1:=eq_of_beq hx;subst hxy;exact .inl (hd.trans q)
    |false=>
     rw[hx] at q;exact .inr q
   .rw[ax hk] at q;exact .inr q
theorem wZ{env:Env}:∀(ns:List (Str×NameKind)) (acc:List (Str×S')) {x:Str},((x,NameKind.free)∈ns\/∃c,acc.lookup x=some c)->∃c,(n8 env ns acc).lookup x=some c
 |[],acc,x,h=>by
  rcases h with h|h
  .cases h
  .exact h
 |y::r,acc,x,h=>by
  show ∃c,(n8 env r (if(y.2==NameKind.free)=true then(y.1,(env.cells.lookup y.1).getD 0)::acc else acc)).lookup x=some c;refine wZ r _ ?_;rcases h with h|⟨c,hc⟩
  .rcases aP.mp h with e|h
   .subst e;refine .inr ⟨(env.cells.lookup x).getD 0,?_⟩;rw[aB (by rfl),iR,beq_self_eq_true]
   .exact .inl h
  .by_cases hk:(y.2==NameKind.free)=true
   .rw[aB hk]
    cases hx:x==y.1 with
    |true=>exact .inr ⟨_,by rw[iR,hx]⟩
    |false=>exact .inr ⟨c,by rw[iR,hx];exact hc⟩
   .rw[ax hk];exact .inr ⟨c,hc⟩
theorem oX{env:Env}{x:Str}{k:NameKind}:∀(ns:List (Str×NameKind)),(ns.map λ(n,k)=>if(k==NameKind.free&&env.scope.kind== .function&&env.kindOf n==some .cell) then(n,NameKind.cell) else(n,k)).lookup x=some k->
 ns.lookup x=some k\/(ns.lookup x=some .free/\k= .cell)
 |[],h=>by cases h
 |(n,j)::r,h=>by
  have ih:=oX (env:=env) (x:=x) (k:=k) r;rw[cP] at h;dsimp only at h;by_cases hc:(j==NameKind.free&&env.scope.kind== .function&&env.kindOf n==some .cell)=true
  .rw[aB hc,iR] at h;rw[iR]
   cases hx:x==n with
   |true=>
    rw[hx] at h
    have hj:(j==NameKind.free)=true:=by
     rw[cH,cH] at hc;exact hc.1.1
    have hj:=eq_of_beq hj;subst hj;exact .inr ⟨Z,(fV h).symm⟩
   |false=>
    rw[hx] at h;exact ih h
  .rw[ax hc,iR] at h;rw[iR]
   cases hx:x==n with
   |true=>
    rw[hx] at h;exact .inl h
   |false=>
    rw[hx] at h;exact ih h
theorem vW{env:Env}{x:Str}:∀(ns:List (Str×NameKind)),ns.lookup x=some .free->
 (ns.map λ(n,k)=>if(k==NameKind.free&&env.scope.kind== .function&&env.kindOf n==some .cell) then(n,NameKind.cell) else(n,k)).lookup x=some .cell\/
 (ns.map λ(n,k)=>if(k==NameKind.free&&env.scope.kind== .function&&env.kindOf n==some .cell) then(n,NameKind.cell) else(n,k)).lookup x=some .free
 |[],h=>by cases h
 |(n,j)::r,h=>by
  have ih:=vW (env:=env) (x:=x) r;rw[cP];dsimp only;rw[iR] at h;by_cases hc:(j==NameKind.free&&env.scope.kind== .function&&env.kindOf n==some .cell)=true
  .rw[aB hc,iR]
   cases hx:x==n with
   |true=>exact .inl rfl
   |false=>
    rw[hx] at h;exact ih h
  .rw[ax hc,iR]
   cases hx:x==n with
   |true=>
    rw[hx] at h;exact .inr h
   |false=>
    rw[hx] at h;exact ih h
noncomputable def gh(X:Cx)(N:au)(scope:Scope)(cl:List (Str×S'))(C:S')(s:R')(H:Hp)(fp:b_):Cx where
 prog:=X.prog
 w:=X.w
 K:=X.K
 mg:=X.mg
 base:=X.base
 A:=X.A
 N:=N
 fO:=s
 H₀:=H
 env:=compEnvC scope cl C X.env
 outer:=X.stack
 stack:=X.stack
 ex:=fp
 fn:=λ_=>false
 calm:=X.calm
 pn:=[]
 xe:=λ_ _=>False
noncomputable def yS(k:Nat)(js:List Nat)(σ:St):St:=List.replicate k none++js.map λj=>σ.getD j none
structure oy(X:Cx)(N:au)(scope:Scope)(k:Nat)(js:List Nat):Prop where
 kind:scope.kind= .function
 cell:∀y∈scope.names,y.2≠.cell
 loc:∀y∈scope.names,y.2= .local->scope.names.lookup y.1=some .local
 free:∀y∈scope.names,y.2= .free->X.env.kindOf y.1=some .cell\/X.env.kindOf y.1=some .free
 len:N.length=k+js.length
 names:∀(i j:Nat),js[i]? =some j->X.N[j]? =N[k+i]?
 js:∀(i:Nat) (x:Str),N[k+i]? =some x->scope.names.lookup x=some .free
section
variable{X:Cx}{ad:aQ}{σ:St}{H:Hp}{s:R'}{N:au}{scope:Scope}{k:Nat}{js:List Nat}
theorem oy.cells(S:oy X N scope k js)(ok:X.Ok):∀y∈scope.names,y.2= .free->∃c,X.env.cells.lookup y.1=some c:=λy hy hf=>ok.has _ (S.free y hy hf)
theorem Ov{fp:b_}{h1:Y'}{t1:Nat}(I:Inv X ad σ H s)(S:oy X N scope k js)(f:∀b∈fp,BZ X ad H b)(fo:∀b∈fp,∃o,s.heap.get? b=some o)
 (hn:h1.Ns s.heap.objs.size λ_=>none) (hk:∀b o,s.heap.get? b=some o->h1.get? b=some o):
 Inv (gh X N scope (n8 X.env scope.names []) s.heap.objs.size s H fp) [] (yS k js σ) H {s with heap:=h1,toks:=t1}:=by
 have cs:=S.cells I.ok
 have SS:∀{x:Str} {c:S'},(n8 X.env scope.names []).lookup x=some c->X.env.cells.lookup x=some c:=λ{x c} e=>by
  rcases xu scope.names [] cs e with q|q
  .exact q
  .cases q
 refine⟨⟨I.ok.mod,S.kind,I.ok.glob,I.ok.blt,aK _,λx y c e1 e2=>I.ok.inj x y c (SS e1) (SS e2),λx hx=> ?_,λx c hf _=>(nomatch hf),I.ok.hd,I.ok.frames,.inl Z,λb hb=>⟨?_,λx c e=> ?_⟩,I.bs,
  aU I.ok.LN I.sz,λb o e hb=> ?_,λb hb z=> ?_,I.stack,I.vz⟩,Z,I.bare,Un.kept hk,⟨_,hn,λi x v e1 e2 e3=> ?_⟩,λx c e=> ?_,I.bT.fresh (aK _),λx c e=>I.jZ x c (SS e),λp hp=> ?_,I.bT.kept hk,?_⟩
 .have hx:(relabel scope X.env).names.lookup x=some .cell\/(relabel scope X.env).names.lookup x=some .free:=hx
  have fr:scope.names.lookup x=some .free:=by
   rcases hx with q|q
   .rcases oX scope.names q with z|z
    .exact absurd Z (S.cell _ (i' z))
    .exact z.1
   .rcases oX scope.names q with z|z
    .exact z
    .exact z.1
  exact wZ scope.names [] (.inl (i' fr))
 .obtain⟨o,ho⟩:=fo b hb;exact cJ (a_ ho)
 .exact(f b hb).2.2.2.2.1 x c (SS e)
 .rcases(f b hb).2.2.2.1 with z|z
  .exact I.ok.Ho b o e z
  .exact absurd (cQ (cQ (a_ e) I.ok.LN) z) (cA _)
 .rcases aP.mp (I.AO b z) with q|q
  .exact(f b hb).2.1 q
  .exact(f b hb).2.2.1 q
 .have e1:N[i]? =some x:=e1
  have hi:k<=i:=by
   by_cases hi:i<k
   .unfold yS at e2;rw[ip (by rw[gS];exact hi),vN,aB hi] at e2;cases e2
   .omega
  obtain⟨d,rfl⟩:∃d,i=k+d:=⟨i - k,by omega⟩;unfold yS at e2;rw[km (by rw[gS];omega),gS,bX] at e2;have ed:k+d - k=d:=by omega
  rw[ed] at e2
  cases ej:js[d]? with
  |none=>rw[ej] at e2;cases e2
  |some j=>
   rw[ej] at e2;have e2:σ.getD j none=some v:=fV e2
   have Pc :σ[j]? =some (some v):=by
    rw[eh] at e2
    cases q:σ[j]? with
    |none=>rw[q] at e2;cases e2
    |some z=>rw[q] at e2;rw[show z=some v from e2]
   have en:X.N[j]? =some x:=(S.names d j ej).trans e1;have fr:=S.js d x e1;have kx:=S.free _ (i' fr) rfl;obtain⟨m,_,hl⟩:=I.loc;obtain⟨u,r,l⟩:=hl j x v en Pc (by rcases kx with q|q;exact .inr (.inl q);exact .inr (.inr q));refine⟨u,r,.inr ⟨?_,?_⟩⟩
   .exact vW (env:=X.env) scope.names fr
   .rcases l with⟨l,_⟩|⟨_,c,ec,ic⟩
    .rcases kx with q|q
     .dsimp only at q;rw[q] at l;cases l
     .dsimp only at q;rw[q] at l;cases l
    .obtain⟨c',e'⟩:=wZ (env:=X.env) scope.names [] (.inl (i' fr));have e'' :=SS e';rw[ec] at e'';cases e'';exact⟨c,e',ic.keeps hk⟩
 .obtain⟨v,q⟩:=I.cell x c (SS e);exact⟨v,q.keeps hk⟩
 .have hp:p∈([]:aQ):=hp;cases hp
 .show(yS k js σ).length=N.length;unfold yS;rw[bu,gS,a6,S.len]
end
def gJ(σ fC :St):Prop:=∀(i:Nat) v,σ[i]? =some (some v)->fC[i]? =some (some v)
theorem gJ.refl(σ:St):gJ σ σ:=λ_ _ h=>h
theorem gJ.own{σ fC :St}{k i:Nat}{js:List Nat}{v:Option V}(h:gJ (yS k js σ) fC)(hi:i<k):gJ (yS k js σ) (fC.set i v):=λj u e=>by
 have hj:j≠i:=λz=>by
  subst z;unfold yS at e;rw[ip (by rw[gS];exact hi),vN,aB hi] at e;cases e
 rw[zA (ck hj)];exact h j u e
def nO(J:It)(k:Nat)(js:List Nat)(g:TG)(tt:TT)(te:TE)(σ:St)(H1:Hp)(Q:VK):Prop:=∀p,H1 p=none->∃W:Nat->Nat->ak->Hp->Prop,(∃m,W 0 m [] (upd H1 p (.lst [])))/\
 ∀i m ys H,W i m ys H->H p=some (.lst ys)/\((J.stop i H/\Q (.ref p) H)\/(J.go i H/\ys.length<sizeLine/\∀x H',J.BO i H x H'->g x (yS k js σ) H' λmV H2=>gJ (yS k js σ) mV/\tt mV H2 λb H3=>
  if b=true then te mV H3 λy H4=>H4 p=some (.lst ys)/\∃m',m' <m/\W (i+1) m' (ys++[y]) (upd H4 p (.lst (ys++[y]))) else ∃m',m' <m/\W (i+1) m' ys H3))
def J2(wi:TI)(k:Nat)(js:List Nat)(g:TG)(tt:TT)(te:TE):TE:=λσ H Q=>wi σ H λJ H1=>nO J k js g tt te σ H1 Q
def Zx:TT:=λ_ H Q=>Q true H
def IL(Y:Cx)(ifs:b8)(t:TT):Prop:=
 ∀(ad:aQ) (s:R') (σ:St) (H:Hp) (Q:Bool->Hp->Prop),Inv Y ad σ H s->t σ H Q->
  wpAny (model Y.prog Y.w) Y.A (forIn ifs true λc r=>if r=true then do let ok<-isTrue c Y.env (eval c Y.env);pure (ForInStep.yield ok) else pure (ForInStep.yield r)) (TP Y ad σ Q) Y.xe s
theorem uU{Y:Cx}:IL Y [] Zx:=λ_ _ _ H _ I h=>wpAny_tests_nil ⟨H,I,h⟩
theorem Lq{Y:Cx}{c:V'}{t:TT}(h:PT Y c t):IL Y [c] t:=λad s σ H Q I hq=>wpAny_tests_one (h ad s σ H Q I hq)
section
variable{prog:Z'}{w:W'}{A:X'}{R:Result->R'->Prop}{s:R'}
theorem DK{elt target iter:V'}{ifs:b8}{scope:Scope}{pos:Pos}{it acc:M'}{env:Env}(I:Nat->R'->Prop)
 (turn:∀n s,I n s->wpAny (model prog w) A (pyNext it) (λr bR=>match r with
  |none=>R (.ok .next) bR
  |some v=>wpAny (model prog w) A (letOwnedTupleGo target it v) (λ_ fO=>wpAny (model prog w) A (assign target env v) (λ_ uK=>
   wpAny (model prog w) A (forIn ifs true λc r=>if r=true then do let ok<-isTrue c env (eval c env);pure (ForInStep.yield ok) else pure (ForInStep.yield r)) (λok y6=>
    if ok=true then wpAny (model prog w) A (eval elt env) (λx Qg=>
     wpAny (model prog w) A (call (.builtin "list.append") [acc,x]) (λ_ Zj=>∃m,m<n/\I m Zj) (λ_ _=>False) Qg) (λ_ _=>False) y6
    else ∃m,m<n/\I m y6) (λ_ _=>False) uK) (λ_ _=>False) fO) (λ_ _=>False) bR) (λ_ _=>False) s)
 (n:Nat) (h:I n s):
 codeAny (model prog w) A (.compLoop (.ListComp elt [⟨target,iter,ifs,0⟩] scope pos) 0 it acc env) R s:=by
 refine codeAny_loop Z I (λn s hI=> ?_) n h;show wpAny _ A ((compTurn (.ListComp elt [⟨target,iter,ifs,0⟩] scope pos) 0 it acc env).onRaise (λx=>do noteFrame x env;theTreesLotGoes x)) _ _ s;refine wpAny_noted ?_;rw[compTurn_list];refine aw (qZ (aw (fW (turn n s hI) (λr bR h₁=> ?_) λ_ _ h' =>h'.elim)))
 cases r with
 |none=>exact aY h₁
 |some v=>
  refine aw (fW h₁ (λ_ fO h₀=> ?_) λ_ _ h' =>h'.elim);refine aw (fW h₀ (λ_ uK lz=>aw (fW lz (λok y6 qR=> ?_) λ_ _ h' =>h'.elim)) λ_ _ h' =>h'.elim)
  cases ok with
  |false=>exact aY ⟨Z,qR⟩
  |true=>
   exact aw (aw (fW qR (λx Qg VF=>aw (fW VF (λ_ Zj pA=>aY (aY ⟨Z,pA⟩)) λ_ _ h' =>h'.elim)) λ_ _ h' =>h'.elim))
end
section
variable{X:Cx}{tg iter elt:V'}{ifs:b8}{scope:Scope}{pos:Pos}{N:au}{k:Nat}{js:List Nat}{wi:TI}{g:TG}{tt:TT}{te:TE}
theorem CH{ad:aQ}{s2:R'}{σ:St}{H2:Hp}{it:S'}{fp:b_}{tn:Nat->Y'->Prop}{J:It}{Q:VK}{RR:M'->S'->Result->R'->Prop}{E:J'}(hc:X.calm=true)(S:oy X N scope k js)
 (hb:∀(cl:List (Str×S')) (C:S') (s:R') (H:Hp) (fp:b_),PG (gh X N scope cl C s H fp) tg g/\IL (gh X N scope cl C s H fp) ifs tt/\PE (gh X N scope cl C s H fp) elt te)
 (I2:Inv X ad σ H2 s2) (T:Turn X.prog X.w X.K tg J fp it tn) (Rn:tn 0 s2.heap) (f2:∀b∈fp,BZ X ad H2 b)
 (h:∀p,H2 p=none->∃W:Nat->Nat->ak->Hp->Prop,(∃m,W 0 m [] (upd H2 p (.lst [])))/\
  ∀i m ys H,W i m ys H->H p=some (.lst ys)/\((J.stop i H/\Q (.ref p) H)\/(J.go i H/\ys.length<sizeLine/\∀x H',J.BO i H x H'->g x (yS k js σ) H' λmV H2=>gJ (yS k js σ) mV/\tt mV H2 λb H3=>
   if b=true then te mV H3 λy H4=>H4 p=some (.lst ys)/\∃m',m' <m/\W (i+1) m' (ys++[y]) (upd H4 p (.lst (ys++[y]))) else ∃m',m' <m/\W (i+1) m' ys H3)))
 (hR:∀(p C:S') (s' :R') (H' :Hp) (m:Str->aO),Inv X ad σ H' s'->Q (.ref p) H'->s'.heap.Ns C m->H' C=none->C≠X.env.locals->X.fO.heap.objs.size<=C->(∀x c,X.env.cells.lookup x=some c->c≠C)->(∀q∈X.pn++ad,q.1≠C)->RR (.ref p) C (.ok .next) s'):
 wpAny (model X.prog X.w) X.A (newList []) (λacc y6=>wpAny (model X.prog X.w) X.A (newFunctionEnv scope X.env.globals (n8 X.env scope.names []) [] X.env.qual none .none (some X.env)) (λZm Qg=>
  codeAny (model X.prog X.w) X.A (.compStart (.ListComp elt [⟨tg,iter,ifs,0⟩] scope pos) 0 (.ref it) acc {Zm with scope:=relabel scope X.env}) (RR acc Zm.locals) Qg) E y6) E s2:=by
 have hf:H2 s2.heap.objs.size=none:=I2.bT.fresh (aK _);obtain⟨W,⟨m0,w0⟩,turn⟩:=h s2.heap.objs.size hf;have I3:Inv X ad σ (upd H2 s2.heap.objs.size (.lst [])) {s2 with heap:=s2.heap.push {cls:= .type "list",dict:=none,data:= .seq ([]:aF).toArray},toks:=s2.toks}:=I2.Vr (ys:=[]) .nil (cG _);refine oP (wpAny_newFunctionEnv S.cell (by intro y hy;simp at hy) (λh₁ Jp Io=> ?_) S.kind);dsimp only at Jp Io ⊢;generalize hp:s2.heap.objs.size=p at*
 generalize hH3:s2.heap.push {cls:= .type "list",dict:=none,data:= .seq ([]:aF).toArray}=g3 at Jp Io I3 ⊢;have k23:∀b o,s2.heap.get? b=some o->g3.get? b=some o:=λb o e=>hH3▸bq _ e;have k34:∀b o,g3.get? b=some o->h₁.get? b=some o:=λb o e=>Io.extBut b o (cJ (a_ e)) (bq _ e)
 have npf:∀b∈fp,b≠p:=λb hb z=>by
  obtain⟨o,ho,_⟩:=T.obj _ _ Rn b hb;have:=a_ ho;rw[hp,z] at this;exact cA _ this
 have f3:∀b∈fp,BZ X ad (upd H2 p (.lst [])) b:=λb hb=>⟨by rw[az (npf b hb)];exact(f2 b hb).1,(f2 b hb).2⟩
 have fo3:∀b∈fp,∃o,g3.get? b=some o:=λb hb=>by
  obtain⟨o,ho,_⟩:=T.obj _ _ Rn b hb;exact⟨o,k23 b o ho⟩
 have J0:=Ov (s:={s2 with heap:=g3,toks:=s2.toks}) (h1:=h₁) (t1:=s2.toks+([]:List (Str×M')).length) I3 S f3 fo3 Jp k34;have st4:tn 0 h₁:=T.keep _ _ _ Rn λb hb o e=>k34 b o (k23 b o e);obtain⟨hG,hT,hE⟩:=hb (n8 X.env scope.names []) g3.objs.size {s2 with heap:=g3,toks:=s2.toks} (upd H2 p (.lst [])) fp
 generalize hY:gh X N scope (n8 X.env scope.names []) g3.objs.size {s2 with heap:=g3,toks:=s2.toks} (upd H2 p (.lst [])) fp=Y at*
 have yp:Y.prog=X.prog:=by rw[<-hY];rfl
 have yw:Y.w=X.w:=by rw[<-hY];rfl
 have yK:Y.K=X.K:=by rw[<-hY];rfl
 have yA:Y.A=X.A:=by rw[<-hY];rfl
 have yc:Y.calm=true:=by rw[<-hY];exact hc
 have yx:Y.xe=λ_ _=>False:=by rw[<-hY];rfl
 have ye:Y.env=compEnvC scope (n8 X.env scope.names []) g3.objs.size X.env:=by rw[<-hY];rfl
 have ypn:Y.pn=[]:=by rw[<-hY];rfl
 have yex:Y.ex=fp:=by rw[<-hY];rfl
 have yfs:Y.fs=Ct X.stack:=by rw[<-hY];rfl
 have SS:∀{x:Str} {c:S'},(n8 X.env scope.names []).lookup x=some c->X.env.cells.lookup x=some c:=λ{x c} e=>by
  rcases xu scope.names [] (S.cells I2.ok) e with q|q
  .exact q
  .cases q
 have Iz:∀{H' :Hp},(∀b∈fp,H' b=none)->∀b∈fp,BZ Y [] H' b:=λhn b hb=>by
  refine⟨hn b hb,?_,?_,?_,λx c e=> ?_,λq hq=> ?_⟩
  .rw[ye];obtain⟨o,ho⟩:=fo3 b hb;exact cJ (a_ ho)
  .rw[yfs];intro z;rcases aP.mp (I2.AO b z) with q|q
   .exact(f2 b hb).2.1 q
   .exact(f2 b hb).2.2.1 q
  .rw[yex];exact .inl hb
  .rw[ye] at e;exact(f2 b hb).2.2.2.2.1 x c (SS e)
  .rw[ypn] at hq;cases hq
 have afm:∀{fC :St} {H' :Hp} {s' :R'},Inv Y [] fC H' s'->Q (.ref p) H'->RR (.ref p) g3.objs.size (.ok .next) s' :=λ{fC H' s'} I' q=>by
  have u:=I'.base;have ho:=I'.os;rw[yfs,yex] at u;subst hY;have IX:Inv X ad σ H' s' :=I3.RY (ch:=fp) ho u I'.bT I'.bare λb hb=>⟨(f2 b hb).2.2.2.1,(f2 b hb).2.1,(f2 b hb).2.2.2.2.1,(f2 b hb).2.2.2.2.2⟩;obtain⟨m,hn,_⟩:=I'.loc;refine hR p g3.objs.size s' H' m IX q hn I'.free (λz=> ?_) (aU I3.sz (aK _)) (λx c e z=> ?_) λr hr z=> ?_
  .exact absurd (z▸I3.lt) (cA _)
  .obtain⟨v,o,ho,_⟩:=I3.cell x c e;exact absurd (z▸a_ ho) (cA _)
  .obtain⟨ho,_⟩:=I3.pin r hr;exact absurd (z▸a_ ho) (cA _)
 have loop:codeAny (model X.prog X.w) X.A (.compLoop (.ListComp elt [⟨tg,iter,ifs,0⟩] scope pos) 0 (.ref it) (.ref p) (compEnvC scope (n8 X.env scope.names []) g3.objs.size X.env)) (RR (.ref p) g3.objs.size) {s2 with heap:=h₁,toks:=s2.toks+([]:List (Str×M')).length}:=by
  refine DK (λn s' =>∃i ys H',Inv Y [] (yS k js σ) H' s'/\tn i s'.heap/\(∀b∈fp,H' b=none)/\W i n ys H') ?_ m0 ⟨0,[],_,J0,st4,λb hb=>(f3 b hb).1,w0⟩
  rintro n s5 ⟨i,ys,H5,I5,Yq,fr5,w5⟩
  obtain⟨hys,w5⟩:=turn i n ys H5 w5;rw[<-yp,<-yw,<-yA,<-ye];have T' :Turn Y.prog Y.w Y.K tg J fp it tn:=by rw[yp,yw,yK];exact T
  rcases w5 with⟨stop,q⟩|⟨go,hz,step⟩
  .refine di (T'.done Y Z Z Z yc i [] s5 _ H5 _ I5 (Iz fr5) Yq stop) ?_
   rintro r s6 ⟨hr,I6⟩
   subst hr;exact afm I6 q
  .refine di (T'.item Y Z Z Z yc i [] s5 _ H5 _ I5 (Iz fr5) Yq go) ?_
   rintro r s6 ⟨u,hr,h6⟩
   subst hr;refine di h6 ?_
   rintro _ s7 ⟨x,H7,I7,r7,y7,st7,fr7⟩
   have I7' :=I7.pinned (Iz fr7) (T.obj _ _ st7)
   have fin:∀{Vs:St} {H8:Hp} {s8:R'},gJ (yS k js σ) Vs->Inv Y ([]++Aj fp s7.heap) Vs H8 s8->Inv Y [] (yS k js σ) H8 s8/\tn (i+1) s8.heap/\∀b∈fp,H8 b=none:=λ{Vs H8 s8} sb I8=>by
    refine⟨?_,T.keep _ _ _ st7 λb hb o e=>(I8.pin (b,o) (l8 _ (l8 _ (oV hb e)))).1,λb hb=> ?_⟩
    .exact(I8.uW (ad:=[])).weak (by rw[I5.len,I8.len]) sb
    .obtain⟨o,e,d⟩:=T.obj _ _ st7 b hb;exact(I8.pin (b,o) (l8 _ (l8 _ (oV hb e)))).2.1
   have wE:∀{α:Type} {t:Sem α} {P:α->R'->Prop} {s' :R'},wpAny (model Y.prog Y.w) Y.A t P Y.xe s'->wpAny (model Y.prog Y.w) Y.A t P (λ_ _=>False) s' :=λ{α t P s'} h=>by rw[yx] at h;exact h
   refine di (wE (hG _ s7 _ H7 x u _ I7' r7 (step x H7 y7))) ?_
   rintro _ s8 ⟨Vs,H8,I8,sb,q8⟩
   refine di (wE (hT _ s8 Vs H8 _ I8 q8)) ?_
   rintro b s9 ⟨H9,I9,q9⟩
   cases b with
   |false=>
    have q9:∃m',m' <n/\W (i+1) m' ys H9:=q9;obtain⟨m',hm,w9⟩:=q9;obtain⟨a1,a2,a3⟩:=fin sb I9;exact⟨m',hm,i+1,ys,H9,a1,a2,a3,w9⟩
   |true=>
    refine di (wE (hE _ s9 Vs H9 _ I9 q9)) ?_
    rintro y X9 ⟨v,VS,I10,r10,e10,m',hm,w10⟩
    refine di (wE (dB _ X9 Vs VS (.ref p) [v] (.ref p) [y] (λ_ Kw=>∃m',m' <n/\W (i+1) m' (ys++[v]) Kw) I10 Z (.cons r10 .nil) ⟨p,ys,v,Z,Z,e10,hz,m',hm,w10⟩)) ?_
    rintro z X1 ⟨_,Kw,I11,_,m2,hm2,w11⟩
    obtain⟨a1,a2,a3⟩:=fin sb I11;exact⟨m2,hm2,i+1,ys++[v],Kw,a1,a2,a3,w11⟩
 refine codeAny_compStart_list loop ?_;exact T.self _ _ _ _ _ st4 loop
theorem Rh(hc:X.calm=true)(S:oy X N scope k js)(hi:PI X tg iter wi)
 (hb:∀(cl:List (Str×S')) (C:S') (s:R') (H:Hp) (fp:b_),PG (gh X N scope cl C s H fp) tg g/\IL (gh X N scope cl C s H fp) ifs tt/\PE (gh X N scope cl C s H fp) elt te)
 (hs:∀x,foldedSetIterable iter X.env x=pure x:=by intro _;rfl):PE X (.ListComp elt [⟨tg,iter,ifs,0⟩] scope pos) (J2 wi k js g tt te):=by
 intro ad s σ H Q I h;rw[eval_ListComp];refine wpAny_comprehension_free (use:=none) Z hs (BC (S.cells I.ok)) S.kind S.loc (di (hi ad s σ H _ I h) λv s1 h1=>di h1 λitv s2 h2=> ?_);obtain⟨it,fp,tn,J,H2,e,I2,T,Rn,f2,q⟩:=h2;subst e;refine CH (RR:=λacc C=>compPost (model X.prog X.w) X.A X.xe none (EP X ad σ Q) acc C) hc S hb I2 T Rn f2 q ?_;intro p C s' H' m IX q' hn hC hL h0 Sd hpn;refine⟨m,hn,λh' sb=>⟨.ref p,H',?_,Z,q'⟩⟩;exact IX.turned (t' :=s'.toks) (λb o hb e=>(sb.2 b hb).trans e) hC (ck hL).symm (.inr h0) Sd hpn
theorem Qs{i:Nat}{x:Str}{pos' jd:Pos}(hN:X.N.Nodup)(hi' :X.N[i]? =some x)(hx:Loc X.env.scope x)(hc:X.calm=true)(S:oy X N scope k js)(hi:PI X tg iter wi)
 (hb:∀(cl:List (Str×S')) (C:S') (s:R') (H:Hp) (fp:b_),PG (gh X N scope cl C s H fp) tg g/\IL (gh X N scope cl C s H fp) ifs tt/\PE (gh X N scope cl C s H fp) elt te)
 (hsw:swapsWith (.ListComp elt [⟨tg,iter,ifs,0⟩] scope jd) (some (.Name x pos')) pos.line X.env=pure true:=by rfl)
 (hs:∀x,foldedSetIterable iter X.env x=pure x:=by intro _;rfl) (hf:X.fn x=true\/X.env.scope.names.lookup x=some .local:=by first|exact .inl rfl|exact .inr rfl|assumption):
 PS X (.Assign [.Name x pos'] (.ListComp elt [⟨tg,iter,ifs,0⟩] scope jd) pos) (FO (J2 wi k js g tt te) (uY i)):=by
 intro ad s σ H D I h;rw[exec_Assign_Name_used _ _ _ _ hsw];refine aw (qZ (aw ?_));show wpAny _ X.A (do let _<-comprehension (.ListComp elt [⟨tg,iter,ifs,0⟩] scope jd) scope X.env _ (newList []) false (eval iter X.env) (some (assign (.Name x pos') X.env))) _ _ s
 refine aw (fW (wpAny_comprehension_free (use:=some (assign (.Name x pos') X.env)) (Q:=λ_ s' =>SP X ad D .next s') Z hs (BC (S.cells I.ok)) S.kind S.loc (di (hi ad s σ H _ I h) λv s1 h1=>di h1 λitv s2 h2=> ?_))
  (λ_ s' hq=>aY (aY hq)) λ_ _ e=>e)
 obtain⟨it,fp,tn,J,H2,e,I2,T,Rn,f2,q⟩:=h2;subst e;refine CH (Q:=λv H' =>D.nx (σ.set i (some v)) H') (RR:=λacc C=>compPost (model X.prog X.w) X.A X.xe (some (assign (.Name x pos') X.env)) (λ_ s' =>SP X ad D .next s') acc C) hc S hb I2 T Rn f2 q ?_;intro p C s' H' m IX q' hn hC hL h0 Sd hpn;show wpAny _ X.A (assign (.Name x pos') X.env (.ref p)) _ _ s';refine wpAny_assign_Name (Cz (v:= .ref p) IX hN hi' hx Z (λOc I'' ⟨a,sb,ha⟩=> ?_) hf)
 have hCa:C≠a:=by
  rcases ha with z|z
  .rw[z];exact hL
  .exact λe=>Sd x a z e.symm
 refine⟨m,hn.sameBut sb hCa,λh' sb' =>⟨σ.set i (some (.ref p)),H',?_,q'⟩⟩;exact I''.turned (t' :=Oc.toks) (λb o hb e=>(sb'.2 b hb).trans e) hC hL (.inr h0) Sd hpn
end
noncomputable def cOk(osc:Scope)(ON N:au)(scope:Scope)(k:Nat)(js:List Nat):Bool:=
 (scope.kind== .function)&&scope.names.all (λy=> !(y.2== .cell))&&scope.names.all (λy=> !(y.2== .local)||scope.names.lookup y.1==some .local)&&
 scope.names.all (λy=> !(y.2== .free)||(osc.names.lookup y.1==some .cell||osc.names.lookup y.1==some .free))&&(N.length==k+js.length)&&
 (List.range js.length).all (λi=>ON[js.getD i 0]? ==N[k+i]?)&&(N.drop k).all λx=>scope.names.lookup x==some .free
theorem Df{X:Cx}{N:au}{scope:Scope}{k:Nat}{js:List Nat}(h:cOk X.env.scope X.N N scope k js=true):oy X N scope k js:=by
 unfold cOk at h;simp only[cH] at h;obtain⟨⟨⟨⟨⟨⟨h1,h2⟩,h3⟩,h4⟩,h5⟩,h6⟩,h7⟩:=h;have h5:=eq_of_beq h5;rw[a7] at h2 h3 h4 h6 h7;refine⟨eq_of_beq h1,λy hy e=> ?_,λy hy e=> ?_,λy hy e=> ?_,h5,λi j e=> ?_,λi x e=> ?_⟩
 .have q:=h2 y hy;rw[e] at q;exact absurd q (by decide)
 .have q:=h3 y hy;rw[e] at q;exact eq_of_beq (by simpa using q)
 .have q:=h4 y hy;rw[e] at q;have q:(X.env.scope.names.lookup y.1==some .cell||X.env.scope.names.lookup y.1==some .free)=true:=by simpa using q
  rw[D0] at q;rcases q with q|q
  .exact .inl (eq_of_beq q)
  .exact .inr (eq_of_beq q)
 .have hi:i<js.length:=(c9.mp e).1;have q:=eq_of_beq (h6 i (mY.mpr hi));rw[eh,e] at q;exact q
 .refine eq_of_beq (h7 x ?_);rw[zB];exact⟨i,by rw[List.getElem?_drop];exact e⟩
theorem cC:i7 X (.builtin "isinstance") (λxs H Q=>∃x T t b,xs=[x,.ty T]/\uV X.K H x t/\kitOne X.K t (.type T)=some b/\Q (.bl b) H):=by
 intro ad s σ H xs us Q I r h;obtain⟨x,T,t,b,rfl,ty,e,q⟩:=h;obtain⟨u,c,rfl,ru,rc⟩:=jad r;cases rc;exact Lc I ru ty e λtk=>⟨.bl b,H,I.tok tk,Z,q⟩
def afn:V->Option Int->Option Int->Hp->VK->Prop:=λx lo hi H Q=>∃z,x= .str z/\z.length<=sizeLine/\Q (.str (Txt.slice z lo hi)) H
theorem DO:Yd X afn:=by
 intro ad s σ H x v vl vu lo hi sl Q I rx hs pl pu h;obtain⟨z,rfl,hz,q⟩:=h;obtain⟨t,rfl⟩:=rx;refine⟨"str",_,F.slot_str_getitem.lookup,typeIs_str _ _ _,?_⟩
 have fin:∀{l u:Option (Int×Tok)},l.map (·.1)=lo->u.map (·.1)=hi->s.heap.IsSlice sl l u none->wpAny (model X.prog X.w) X.A (getItem (.str z t) (.ref sl)) (EP X ad σ Q) X.xe s:=λ{l u} el eu X0=>by
  refine wpAny_getItem_str_slice (st:=none) X0 Z ?_;have e:sliceMade z t l u none=sliceMade z t l u none:=rfl;subst el eu;exact post_val_or_str ⟨aU (Txt.slice_le z _ _) hz,λt' k=>⟨.str (Txt.slice z _ _),H,I.tok k,⟨t',Z⟩,q⟩⟩
 obtain⟨o,ho,hc,hd⟩:=hs
 cases pl with
 |none=>
  cases pu with
  |none=>exact fin (l:=none) (u:=none) Z Z ⟨o,ho,hc,hd⟩
  |int j uj=>exact fin (l:=none) (u:=some (j,uj)) Z Z ⟨o,ho,hc,hd⟩
 |int i ui=>
  cases pu with
  |none=>exact fin (l:=some (i,ui)) (u:=none) Z Z ⟨o,ho,hc,hd⟩
  |int j uj=>exact fin (l:=some (i,ui)) (u:=some (j,uj)) Z Z ⟨o,ho,hc,hd⟩
noncomputable def Its(x:Str):It:=⟨λi _=>i<x.length,λi H v H' =>H' =H/\∃c,x.cps[i]? =some c/\v= .str ⟨#[c]⟩,λi _=>x.length<=i⟩
theorem Hc{P:Z'}{w:W'}{K:Frag}{tg:V'}{x:Str}{I:S'}{St:Nat->Y'->Prop}(W:∀A:X',A.handled=none->Walks P w A I [I] [I] x.cps.size (SignAt x) St)
 (hob:∀i h,St i h->∃o,h.get? I=some o/\∀v,o.data≠.cell v) (ht:∀v,letOwnedTupleGo tg (.ref I) v=pure ())
 (YK:∀(A:X') (i:Nat) (s:R') (Q:J') (E:J'),St i s.heap->Q (.ref I) s->wpAny (model P w) A (pyIter (.ref I)) Q E s):Turn P w K tg (Its x) [I] I (λi h=>i<=x.length/\St i h) where
 mem:=by simp
 obj:=λi h st b hb=>by
  have e:b=I:=by simpa using hb
  subst e;exact hob i h st.2
 keep:=λi h h' st k=>⟨st.1,(W {handled:=none} rfl).frame i h h' st.2 k⟩
 item:=by
  intro X hP hw hK hc i ad s σ H E J hf st hg;subst hP hw hK;obtain⟨f0,f1,f2,f3,f4,f5⟩:=hf I (by simp);refine(W X.A (J.ok.hd hc)).item i s _ _ hg st.2 λv h' tk hv Pm k=> ?_;have J1:Inv X ad σ H {s with heap:=h',toks:=tk}:=J.turned (λb o hb e=>k b o (by simpa using hb) e) f0 f1 f3 f4 f5;obtain⟨c,u,hc',rfl⟩:=hv;exact⟨_,Z,wpAny_of_eq (ht _) ⟨.str ⟨#[c]⟩,H,J1,⟨u,Z⟩,⟨Z,c,hc',Z⟩,⟨hg,Pm⟩,λb hb=>(hf b hb).1⟩⟩
 done:=by
  intro X hP hw hK hc i ad s σ H E J hf st hg;subst hP hw hK;obtain⟨f0,f1,f2,f3,f4,f5⟩:=hf I (by simp);have e:i=x.cps.size:=Nat.le_antisymm st.1 hg;subst e;exact(W X.A (J.ok.hd hc)).done s _ _ st.2 λh' tk k=>⟨Z,J.turned (λb o hb e=>k b o (by simpa using hb) e) f0 f1 f3 f4 f5⟩
 self:=λA _ s Q E st h=>YK A _ s Q E st.2 h
section
variable{X:Cx}{tg:V'}
def afu(tl:TE):TI:=λσ H R=>tl σ H λx H1=>∃z,x= .str z/\R (Its z) H1
theorem Nh{l:V'}{tl:TE}(hl:PE X l tl)(hc:X.calm=true)(ht:∀it v,letOwnedTupleGo tg it v=pure ():=by intro _ _;rfl):PI X tg l (afu tl):=by
 intro ad s σ H R I h;refine di (hl ad s σ H _ I h) ?_
 rintro v s1 ⟨x,H1,I1,r,z,e,q⟩
 subst e;obtain⟨t,rfl⟩:=r;cases ha:z.cps.all (· <128)
 .refine wpAny_pyIter_wide ha ?_
  exact⟨_,[_],_,Its z,H1,Z,I1.kept (t' :=s1.toks) λb u e=>bq _ e,Hc (λA' hA=>Walks.strWide hA _ z t) (λi h st=>by
   obtain⟨o,ho,_,hd⟩:=st;exact⟨o,ho,λv z=>by rw[hd] at z;cases z⟩) (ht _) (λA _ s Q E st h=>wpAny_pyIter_striter_wide st h),⟨cG _,_,cV _ Z,Z,Z⟩,λb hb=>by
   have e:b=s1.heap.objs.size:=by simpa using hb
   subst e;exact I1.IZ (aK _) (I1.bT.fresh (aK _)),q⟩
 .refine wpAny_pyIter_ascii ha ?_
  exact⟨_,[_],_,Its z,H1,Z,I1.kept (t' :=s1.toks) λb u e=>bq _ e,Hc (λA' hA=>Walks.strAscii hA _ z t) (λi h st=>by
   obtain⟨o,ho,_,hd⟩:=st;exact⟨o,ho,λv z=>by rw[hd] at z;cases z⟩) (ht _) (λA _ s Q E st h=>wpAny_pyIter_striter_ascii st h),⟨cG _,_,cV _ Z,Z,Z⟩,λb hb=>by
   have e:b=s1.heap.objs.size:=by simpa using hb
   subst e;exact I1.IZ (aK _) (I1.bT.fresh (aK _)),q⟩
end
theorem Gu:∀{bs:List Bool} {us:aF},Vals (bs.map V.bl) us->us=bs.map Value.bool
 |[],_,.nil=>rfl
 |b::bs,_,.cons r t=>by
  cases r;rw[Gu (bs:=bs) t];rfl
theorem jaj{bs:List Bool}{f:Nat->Bool}(h:∀i b,bs[i]? =some b->f i=b):(List.range bs.length).all f=bs.all id:=by
 rw[mU,a7,a7];constructor
 .intro q b hb;obtain⟨i,hi⟩:=zB.mp hb;have hl:i<bs.length:=(c9.mp hi).1;rw[<-h i b hi];exact q i (mY.mpr hl)
 .intro q i hi;have hl:=mY.mp hi;rw[h i bs[i] (by simp[hl])];exact q _ (Ek hl)
theorem GD(hc:X.calm=true):i7 X (.builtin "all") (λxs H Q=>∃(a:S') (bs:List Bool),xs=[.ref a]/\H a=some (.lst (bs.map V.bl))/\Q (.bl (bs.all id)) H):=by
 intro ad s σ H xs us Q I r h;obtain⟨a,bs,rfl,ha,q⟩:=h;obtain⟨u,rfl,ru⟩:=Wp r;cases ru;obtain⟨its,r,pl,hz⟩:=I.list (cF.of ha);have e:=Gu r;have ky:=I.bT.lt ha;have I1:Inv X ad σ H {s with heap:=s.heap.push {cls:= .type "list_iterator",data:= .fields #[.ref a,.int 0 0]}}:=I.kept (t' :=s.toks) λb u e=>bq _ e;refine call_all_walk (vd pl.isList ⟨_,_,_,_,_,_,λi=>bs.getD i true,Z,Walks.list (A:=X.A.in1) (I.ok.hd hc) _ a (cJ ky) its.toArray,⟨⟨_,cV _ Z,Z,Z⟩,pl.isList.push _⟩,?_,λh' tk k=> ?_⟩)
 .intro i v s' Q' E' hv hQ;rw[e] at hv;have hv:(bs.map Value.bool)[i]? =some v:=by simpa using hv
  rw[bX] at hv
  cases eb:bs[i]? with
  |none=>rw[eb] at hv;cases hv
  |some b=>
   rw[eb] at hv;cases hv;refine l6 ?_;have e2:bs.getD i true=b:=by rw[eh,eb];rfl
   rw[<-e2];exact hQ
 .refine⟨.bl (bs.all id),H,I1.turned (λb o hb e=>k b o (by simpa using hb) e) (I.bT.fresh (aK _)) (λz=> ?_) (.inr I.sz) (λx c e z=> ?_) (λp hp z=> ?_),?_,q⟩
  .exact absurd (z▸I.lt) (cA _)
  .obtain⟨v,o,ho,_⟩:=I.cell x c e;exact absurd (z▸a_ ho) (cA _)
  .obtain⟨ho,_⟩:=I.pin p hp;exact absurd (z▸a_ ho) (cA _)
  .show Value.bool _=Value.bool _;have e3:its.toArray.size=bs.length:=by rw[e];simp
   rw[e3,jaj λi b hb=>by rw[eh,hb];rfl]
noncomputable def HJ:ak->ak->Bool
 |[],[]=>true
 |x::xs,y::ys=>Hi x y&&HJ xs ys
 |_,_=>false
theorem Ai:∀(xs ys:ak),xs.length=ys.length->(List.range xs.length).all (λj=>Hi (xs.getD j .bp) (ys.getD j .bp))=HJ xs ys
 |[],[],_=>rfl
 |x::xs,y::ys,h=>by
  rw[bB,List.range_succ_eq_map,fk,List.all_map];have h' :xs.length=ys.length:=by simpa using h
  rw[<-(show(Hi x y&&HJ xs ys)=HJ (x::xs) (y::ys) from Z),<-Ai xs ys h'];rfl
 |[],_::_,h=>by simp at h
 |_::_,[],h=>by simp at h
def Zo(neg:Bool):R2:=λx y H Q=>∃a b xs ys,x= .ref a/\y= .ref b/\H a=some (.lst xs)/\H b=some (.lst ys)/\
 ((xs.length≠ys.length/\Q (.bl neg) H)\/(xs.length=ys.length/\xs.all nY=true/\ys.all nY=true/\Q (.bl (if neg then !HJ xs ys else HJ xs ys)) H))
theorem GA{xs:ak}{us:aF}{j:Nat}(r:Vals xs us)(f:xs.all nY=true)(hj:j<us.length):∃x,xs[j]? =some x/\RelV x us[j]/\nY x=true:=by
 have hl:=r.length;have hx:xs[j]? =some xs[j]:=by simp[hl,hj]
 obtain⟨u,hu,ru⟩:=r.get hx;have e:us[j]? =some us[j]:=by simp[hj]
 rw[e] at hu;cases hu;exact⟨_,hx,ru,a7.mp f _ (Ek _)⟩
theorem oN(hu:X.A.units<cLine):n5 X (compareOp .Eq) (Zo false):=by
 intro ad s σ H x y v u Q I rx ry h;obtain⟨a,b,xs,ys,rfl,rfl,ha,hb,h⟩:=h;cases rx;cases ry;obtain⟨its,r,pl,hz⟩:=I.list (cF.of ha);obtain⟨pB,r2,QF,JF⟩:=I.list (cF.of hb);have hl:=r.length;have n6:=r2.length;rcases h with⟨wN,q⟩|⟨he,f1,f2,q⟩
 .exact SeqAt.eq_list_lengthsAt pl.isList QF.isList (by simp;lia) hu ⟨.bl false,H,I,Z,q⟩
 .refine SeqAt.eq_listAt (e:=λj=>Hi (xs.getD j .bp) (ys.getD j .bp)) pl.isList QF.isList (by simp;lia) hu (λj h1 h2=> ?_) ⟨.bl (HJ xs ys),H,I,?_,q⟩
  .have h1:j<its.length:=by simpa using h1
   have h2:j<pB.length:=by simpa using h2
   obtain⟨x,e1,rx,fx⟩:=GA r f1 h1;obtain⟨y,e2,ry,fy⟩:=GA r2 f2 h2;have g1:xs.getD j .bp=x:=by rw[eh,e1];rfl
   have g2:ys.getD j .bp=y:=by rw[eh,e2];rfl
   show SeqAt.EqAt _ _ its.toArray[j] pB.toArray[j] (Hi (xs.getD j .bp) (ys.getD j .bp));rw[g1,g2];exact N3 rx ry fx fy
  .show Value.bool _=Value.bool _;rw[<-Ai xs ys he,bJ,hl]
theorem ah.upd{H:Hp}{p:S'}{o:HO}(h:H p=none):ah H (upd H p o):=λb u e=>by
 rw[az (aA e h)];exact e
theorem ah.WR{K:Frag}{H H' :Hp}{a:S'}{xs:ak}(e:ah H H')(h:bc K H a xs):bc K H' a xs:=by
 rcases h with(h|⟨o,h⟩)|h
 .exact .inl (.inl (e _ _ h))
 .exact .inl (.inr ⟨o,e _ _ h⟩)
 .exact .inr h
structure wb(J:It)(H:Hp)(xs:ak):Prop where
 go:∀i H',ah H H'->i<xs.length->J.go i H'
 BO:∀i H' x g6,ah H H'->J.BO i H' x g6->g6 =H'/\(i<xs.length->xs[i]? =some x)
 stop:∀i H',ah H H'->xs.length<=i->J.stop i H'
theorem Dz(z:Str)(H:Hp):wb (Its z) H (z.cps.toList.map λc=>V.str ⟨#[c]⟩) where
 go:=λi H' _ h=>by
  show i<z.cps.size;simpa using h
 BO:=λi H' x g6 _ h=>by
  obtain⟨e,c,hc,rfl⟩:=h;refine⟨e,λ_=> ?_⟩;rw[bX,Array.getElem?_toList,hc];rfl
 stop:=λi H' _ h=>by
  show z.cps.size<=i;simpa using h
theorem fL{K:Frag}{a:S'}{xs:ak}{H:Hp}(h:cF K H a xs):wb (Vp K a) H xs where
 go:=λi H' s hi=>⟨xs,xs[i],s.seq h,by simp[hi]⟩
 BO:=λi H' x g6 s q=>⟨q.1,λ_=>q.2 xs (s.seq h)⟩
 stop:=λi H' s hi=>⟨xs,s.seq h,hi⟩
theorem rE{K:Frag}{a:S'}{xs:ak}{H:Hp}(h:bc K H a xs):wb (XH K a) H xs where
 go:=λi H' s hi=>⟨xs,xs[i],s.WR h,by simp[hi]⟩
 BO:=λi H' x g6 s q=>⟨q.1,λ_=>q.2 xs (s.WR h)⟩
 stop:=λi H' s hi=>⟨xs,s.WR h,hi⟩
theorem GY(lo:Int)(n:Nat)(H:Hp):wb (Tx lo n) H ((List.range n).map λ(i:Nat)=>V.int (lo+(i:Int))) where
 go:=λi H' _ h=>by
  show i<n;simpa using h
 BO:=λi H' x g6 _ q=>by
  obtain⟨e,rfl⟩:=q;refine⟨e,λh=> ?_⟩;have h:i<n:=by simpa using h
  simp[bX,qu h]
 stop:=λi H' _ h=>by
  show n<=i;simpa using h
theorem rW{J:It}{xs:ak}{k:Nat}{js:List Nat}{g:TG}{tt:TT}{te:TE}{σ:St}{H:Hp}{Q:VK}(pb:V->Bool)(fe:V->V)(F:wb J H xs)(hlen:xs.length<=sizeLine)
 (ja:∀(i:Nat) (x:V) (H' :Hp) (C1:V->Hp->Prop) (C0:Hp->Prop),xs[i]? =some x->ah H H'->(pb x=true->C1 (fe x) H')->(pb x=false->C0 H')->
  g x (yS k js σ) H' λmV H2=>gJ (yS k js σ) mV/\tt mV H2 λb H3=>if b=true then te mV H3 C1 else C0 H3)
 (hq:∀p,H p=none->Q (.ref p) (upd H p (.lst ((xs.filter pb).map fe)))):
 nO J k js g tt te σ H Q:=by
 intro p hp;refine⟨λi m ys H' =>m=xs.length - i/\i<=xs.length/\ys=((xs.take i).filter pb).map fe/\H' =upd H p (.lst ys),⟨xs.length,Z,cG _,Z,Z⟩,?_⟩
 rintro i m ys H' ⟨rfl,hi,rfl,rfl⟩
 refine⟨af,?_⟩;have hs:ah H (upd H p (.lst (((xs.take i).filter pb).map fe))):=ah.upd hp;by_cases ky:i<xs.length
 .refine .inr ⟨F.go i _ hs ky,?_,λx g6 hy=> ?_⟩
  .rw[a6];have h1:((xs.take i).filter pb).length<=(xs.take i).length:=y_ _ _;rw[lW] at h1
   lia
  .obtain⟨rfl,hx⟩:=F.BO i _ x g6 hs hy;have hx:=hx ky;have et:(xs.take (i+1)).filter pb=(xs.take i).filter pb++(if pb x=true then[x] else[]):=PySem.take_succ_filter pb xs i x hx;refine ja i x _ _ _ hx hs (λhb=>⟨af,xs.length - (i+1),by lia,Z,ky,?_,?_⟩) (λhb=>⟨xs.length - (i+1),by lia,Z,ky,?_,Z⟩)
   .rw[et,aB hb,iQ];rfl
   .rw[Qk]
   .rw[et,hb];simp
 .have e:i=xs.length:=by lia
  subst e;refine .inl ⟨F.stop _ _ hs (aK _),?_⟩;rw[gi];exact hq p hp
section
variable{X:Cx}{tg:V'}
end
structure HF(J:It)(H:Hp)(n:Nat)(Y:Nat->V->Hp->Prop):Prop where
 go:∀i H',ah H H'->i<n->J.go i H'
 BO:∀i H' x g6,ah H H'->i<n->J.BO i H' x g6->ah H' g6/\Y i x g6
 stop:∀i H',ah H H'->n<=i->J.stop i H'
theorem wb.g{J:It}{H:Hp}{xs:ak}(F:wb J H xs):HF J H xs.length (λi x _=>xs[i]? =some x) where
 go:=F.go
 BO:=λi H' x g6 s hi h=>by
  obtain⟨e,q⟩:=F.BO i H' x g6 s h;exact⟨e▸ah.refl H',q hi⟩
 stop:=F.stop
theorem jx{J:It}{n k:Nat}{js:List Nat}{Y:Nat->V->Hp->Prop}{g:TG}{tt:TT}{te:TE}{σ:St}{H:Hp}{Q:VK}(pb:Nat->Bool)(fe:Nat->V)(F:HF J H n Y)(hlen:n<=sizeLine)
 (ja:∀(i:Nat) (x:V) (H' :Hp) (C1:V->Hp->Prop) (C0:Hp->Prop),i<n->ah H H'->Y i x H'->(pb i=true->∀g6,ah H' g6->C1 (fe i) g6)->(pb i=false->∀g6,ah H' g6->C0 g6)->
  g x (yS k js σ) H' λmV H2=>gJ (yS k js σ) mV/\tt mV H2 λb H3=>if b=true then te mV H3 C1 else C0 H3)
 (hq:∀p H',H p=none->ah H H'->H' p=some (.lst (((List.range n).filter pb).map fe))->Q (.ref p) H'):
 nO J k js g tt te σ H Q:=by
 intro p hp;refine⟨λi m ys H' =>m=n - i/\i<=n/\ys=((List.range i).filter pb).map fe/\H' p=some (.lst ys)/\ah H H',⟨n,Z,cG _,Z,af,ah.upd hp⟩,?_⟩
 rintro i m ys H' ⟨rfl,hi,rfl,hl,hs⟩
 refine⟨hl,?_⟩;by_cases ky:i<n
 .refine .inr ⟨F.go i _ hs ky,?_,λx g6 hy=> ?_⟩
  .rw[a6];have h1:((List.range i).filter pb).length<=(List.range i).length:=y_ _ _;rw[o7] at h1;omega
  .obtain⟨s1,y1⟩:=F.BO i _ x g6 hs ky hy
   have et:(List.range (i+1)).filter pb=(List.range i).filter pb++(if pb i=true then[i] else[]):=by
    rw[List.range_succ,wm];cases hb:pb i<;>simp[hb]
   refine ja i x g6 _ _ ky (hs.trans s1) y1 (λhb H3 s3=>⟨s3 _ _ (s1 _ _ hl),n - (i+1),by omega,Z,ky,?_,af,?_⟩) (λhb H3 s3=>⟨n - (i+1),by omega,Z,ky,?_,s3 _ _ (s1 _ _ hl),(hs.trans s1).trans s3⟩)
   .rw[et,aB hb,iQ];rfl
   .intro c o e;rw[az (aA e hp)];exact s3 _ _ (s1 _ _ (hs _ _ e))
   .rw[et,hb];simp
 .have e:i=n:=by omega
  subst e;exact .inl ⟨F.stop _ _ hs (aK _),hq p H' hp hs hl⟩
mutual
inductive Dat (H:Hp):V->U'->Prop
 |bp:Dat H .bp .none
 |bl (b:Bool):Dat H (.bl b) (.bool b)
 |int (i:Int):Dat H (.int i) (.int i)
 |str (x:Str):Dat H (.str x) (.str x)
 |lst {a:S'} {xs:ak} {ds:List U'} (e:H a=some (.lst xs)) (h:DatAll H xs ds):Dat H (.ref a) (.list ds)
 |tup {a:S'} {xs:ak} {ds:List U'} (e:H a=some (.tup xs)) (h:DatAll H xs ds):Dat H (.ref a) (.tuple ds)
inductive DatAll (H:Hp):ak->List U'->Prop
 |nil:DatAll H [] []
 |cons {x:V} {xs:ak} {d:U'} {ds:List U'} (h:Dat H x d) (t:DatAll H xs ds):DatAll H (x::xs) (d::ds)
end
mutual
theorem Dat.same{H H' :Hp}(s:ah H H'):∀{v:V} {d:U'},Dat H v d->Dat H' v d
 |_,_,.bp=> .bp
 |_,_,.bl b=> .bl b
 |_,_,.int i=> .int i
 |_,_,.str x=> .str x
 |_,_,.lst e h=> .lst (s _ _ e) (DatAll.same s h)
 |_,_,.tup e h=> .tup (s _ _ e) (DatAll.same s h)
theorem DatAll.same{H H' :Hp}(s:ah H H'):∀{xs:ak} {ds:List U'},DatAll H xs ds->DatAll H' xs ds
 |_,_,.nil=> .nil
 |_,_,.cons h t=> .cons (Dat.same s h) (DatAll.same s t)
end
section
variable{X:Cx}{e stp:V'}{te ts:TE}{pos p2:Pos}
end
section
variable{prog:Z'}{w:W'}{A:X'}{E:J'}{s:R'}
end
section
variable{X:Cx}{e:V'}{ta:TA}{p p' pos pos' :Pos}
end
section
variable{X:Cx}{K:Frag}
theorem Oj(hK:X.K=K):VX X (P5 K):=hK▸a8
theorem Cp(hK:X.K=K):n5 X (compareOp .NotIn) (rIn K true):=hK▸o9
theorem BQ(hK:X.K=K):i7 X (.builtin "len") (λxs H Q=>∃p ys,xs=[.ref p]/\(cF K H p ys\/bc K H p ys)/\Q (.int ys.length) H):=hK▸br
theorem Er{es:b8}{k:Nat}{t:SD}{n:Nat}{pos:Pos}(hK:X.K=K)(hc:X.calm=true)(h:PGs X es t)(hn:(assignEach es X.env).length=n)(tQ:(assignEach es X.env).findIdx? (·.1)=none):PG X (.Tuple es k pos) (abd K n t):=hK▸w4 hc h hn tQ
end
section
variable{X:Cx}{tg:V'}
end
section
variable{X:Cx}{tg:V'}
end
section
variable{X:Cx}{ad:aQ}{σ:St}{H:Hp}{s:R'}{h' :Y'}
end
section
variable{X:Cx}{tg:V'}
theorem Lp(n l1 l2:Nat)(h1:l1<n)(h2:l2<n):ZipApart (n+4) (n+2) (n+3) n (n+1) l1 l2:=by
 constructor<;>(intro z;(have z' :(_:Nat)=_:=z);lia)
end
structure Ug(K:Frag)(C:S')(m:Str)(f:S'):Prop where
 sp:PySem.W.specialIn K (.ref C) "__getattribute__"=some (some (.builtin "type.__getattribute__"))
 rd:PySem.W.readsIn K C (.type "type")=true
 at_:findCls K (.ref C) (.type "type") m=some (.val (.ref f))
 kp:PySem.W.keepIn K (.ref f)=true
section
variable{X:Cx}{CX:uo}{k:Nat}{f C:S'}{fd:aad}{ps:au}{sp:Sp}{dvs:ak}{ds:aF}{E:XK}{x m:Str}{p pos apos:Pos}{e:V'}{es:b8}{t:TA}
theorem lK{pl:Sem Bool}(c:Ug X.K C m f)(hg:Gl X x)(hm:X.mg x=some (.ref C))(F:aT X.prog X.w X.K X.mg X.base CX k f fd ps sp)(hr:dW k X.A)(hb:Binds X.K fd ps ds)(hd:Vals dvs ds)(hx:wf CX X E)(ha:PA X (e::es) t)
 (rD:(x==("__debug__" :Str))=false:=by decide) (tQ:starEach (e::es) X.env=(false,eval e X.env)::starEach es X.env:=by rfl) (ng:(backTo pos (starEach es X.env)).any (·.1)=false:=by rfl)
 (ht:eval (.Call (.Attribute (.Name x p) m apos) (e::es) [] pos) X.env=(do
  let ov<-eval (.Name x p) X.env
  standAt apos.atName
  let(f,first)<-holding [ov] (getMethod ov m pl)
  callWith pos f first (backTo pos (starEach (e::es) X.env)) (backToKw pos (keywordEach [] X.env))):=by rfl):
 PE X (.Call (.Attribute (.Name x p) m apos) (e::es) [] pos) (xE sp dvs E t):=by
 intro ad s σ H Q I h;refine methodCall_KW (pl:=pl) (kN I hg hm ?_ rD) ht;refine PySem.W.method_cls I.jN c.sp (PySem.W.cls_value I.jN c.rd c.at_ Z ?_);refine rP (first:=[]) (h₀:=X.base) I.ok.mod.xr c.kp (di (ha pos ad _ σ H _ (I.tok _) h) λus s2 ⟨vs,H2,I2,r,q2⟩=>⟨I2.jN,?_⟩) tQ ng;exact xh F hr hb hd hx I2 r q2
end
section
variable{X:Cx}{o e f:V'}{apos jd:Pos}{td ty tx:TE}
end
theorem J7:∀(ns:List Int) (i:Nat),PySem.preSum (λj=>ns.getD j 0) i=(ns.take i).sum
 |ns,0=>by simp[PySem.preSum]
 |ns,i+1=>by
  show PySem.preSum (λj=>ns.getD j 0) i+ns.getD i 0=_;rw[J7 ns i,rG,List.sum_append]
  cases e:ns[i]? with
  |none=>simp[eh,e]
  |some v=>simp[eh,e]
theorem Bf(hc:X.calm=true):i7 X (.builtin "sum") (λxs H Q=>∃(a:S') (ns:List Int),xs=[.ref a]/\H a=some (.lst (ns.map V.int))/\ns.length<=2000/\(∀n∈ns,0<=n/\n<=1000000)/\Q (.int ns.sum) H):=by
 intro ad s σ H xs us Q I r h;obtain⟨a,ns,rfl,ha,hl,hb,q⟩:=h;obtain⟨u,rfl,ru⟩:=Wp r;cases ru;obtain⟨its,r,pl,hz⟩:=I.list (cF.of ha);have hlen:=r.length;rw[a6] at hlen;have ky:=I.bT.lt ha;have I1:Inv X ad σ H {s with heap:=s.heap.push {cls:= .type "list_iterator",data:= .fields #[.ref a,.int 0 0]}}:=I.kept (t' :=s.toks) λb u e=>bq _ e
 have YC:∀j,0<=ns.getD j 0/\ns.getD j 0<=1000000:=λj=>by
  rw[eh]
  cases e:ns[j]? with
  |none=>simp
  |some v=>exact hb v (bD e)
 have ae0:∀j,0<=PySem.preSum (λj=>ns.getD j 0) j/\PySem.preSum (λj=>ns.getD j 0) j<=1000000*(j:Int):=by
  intro j
  induction j with
  |zero=>simp[PySem.preSum]
  |succ j ih=>
   have:=YC j;show 0<=PySem.preSum (λj=>ns.getD j 0) j+ns.getD j 0/\PySem.preSum (λj=>ns.getD j 0) j+ns.getD j 0<=_
   push_cast
   lia
 refine call_sum_walk (vd pl.isList ⟨_,_,_,_,_,_,λi=>ns.getD i 0,Z,Walks.list (A:=X.A.in1) (I.ok.hd hc) _ a (cJ ky) its.toArray,⟨⟨_,cV _ Z,Z,Z⟩,pl.isList.push _⟩,?_,?_,?_,λh' tk t' k=> ?_⟩)
 .intro b wO;have wO :b=s.heap.objs.size\/b=a:=by simpa using wO
  show b<(s.heap.push _).objs.size;rw[kr];rcases wO with rfl|rfl
  .exact zd _
  .exact Nat.lt_succ_of_lt ky
 .intro i v hv;have hv:its[i]? =some v:=by simpa using hv
  have hi:i<its.length:=(c9.mp hv).1;have hx:(ns.map V.int)[i]? =some (V.int ns[i]):=by simp[show i<ns.length by lia]
  obtain⟨u,hu,t,rfl⟩:=r.get hx;rw[hv] at hu;cases hu;refine⟨t,?_⟩;dsimp only;rw[eh,v7 (by lia)];rfl
 .intro j hj;have hj:j<its.length:=by simpa using hj
  have h1:=YC j;have h2:=ae0 (j+1)
  push_cast at h2
  unfold PySem.InLong;dsimp only;refine⟨?_,?_⟩<;>(constructor<;>lia)
 .refine⟨.int ns.sum,H,I1.turned (λb o hb e=>k b o (by simpa using hb) e) (I.bT.fresh (aK _)) (λz=> ?_) (.inr I.sz) (λx c e z=> ?_) (λp hp z=> ?_),⟨t',?_⟩,q⟩
  .exact absurd (z▸I.lt) (cA _)
  .obtain⟨v,o,ho,_⟩:=I.cell x c e;exact absurd (z▸a_ ho) (cA _)
  .obtain⟨ho,_⟩:=I.pin p hp;exact absurd (z▸a_ ho) (cA _)
  .rw[J7,bJ,<-hlen,gi]
section
variable{X:Cx}{e:V'}{ta:TA}{p pos p' pos' :Pos}
end
section
variable{X:Cx}{e lo stp:V'}{te tl ts:TE}{pos p2:Pos}
end
section
variable{X:Cx}{ad:aQ}{σ:St}{H:Hp}{s:R'}{d:S'}{kvs:eJ}
end
section
variable{X:Cx}{tg e:V'}{te:TE}
end
structure LZ(h:Y')(e T:S')(oe:Obj):Prop where
 at_:h.get? e=some oe
 fs:∃vs,oe.data= .fields vs/\vs[1]? =some (.ref T)
 ne:T≠e
 tr:∃oT ts,h.get? T=some oT/\oT.data= .fields ts/\ts[3]? =some .none
section
variable{M:Model}{A:X'}{E:J'}{s:R'}
theorem sf{base:Y'}{env:Env}{outer:List Env}{L e:S'}{oe:Obj}{vs:Array M'}{head:M'}{Rg:Bool}{Q:Unit->R'->Prop}
 (vj:A.frames=some (env::outer)) (hl:s.heap.FunFrames base (env::outer)) (hf:env.frame=some L)
 (he:s.heap.get? e=some oe) (hd:oe.data= .fields vs) (qe:1<vs.size)
 (h:∀h' T,s.heap.objs.size<=T->LZ h' e T (oe.mapFields (·.setIfInBounds 1 (.ref T)))->(∀b o,b≠e->b∉(env::outer).filterMap (·.frame)->s.heap.get? b=some o->h'.get? b=some o)->
  (∀b o,b≠e->s.heap.get? b=some o->∃sl,h'.get? b=some {o with slots:=sl})->Q () {s with heap:=h'}):
 wpAny M A (do let a<-frameOf env;let pl<-entryPlaceOf L Rg;let b<-EntryCells.newEntry head a .none (rawInt L) .none pl;setField (.ref e) 1 b) (λ_ s' =>wpAny M A (setFlight (.ref e) none) Q E s') E s:=by
 have adj:e∉(env::outer).filterMap (·.frame):=λhm=>by
  obtain⟨_,o,ho,Ro⟩:=hl.mem hm
  rw[he] at ho;injection ho with ho;subst ho;exact Ro vs hd
 refine aw (wpAny_frameOf_fun vj hl hf λh₁ fi=> ?_);refine aw (wpAny_entryPlaceOf λpl ng=> ?_);unfold EntryCells.newEntry newFields;refine aw (oP ?_ (ng.sizeOk5 _ _ _ _ _));have T3:h₁.get? e=some oe:=(fi.2.1 e adj).trans he;have RV:=bq (h:=h₁) {cls:= .type "traceback",dict:=none,data:= .fields ([head,.ref L,.none,rawInt L,.none]++(if pl.isEmpty then List.replicate 6 Value.none else pl)).toArray} T3;refine uw RV hd qe ?_;have Xs:h₁.objs.size≠e:=jr (a_ T3);have MD:=uA hd (·.setIfInBounds 1 (Value.ref h₁.objs.size));have JE:=ma (Obj.mapFields (·.setIfInBounds 1 (Value.ref h₁.objs.size))) RV (zj MD)
 have RN:=(gp (h₁.push {cls:= .type "traceback",dict:=none,data:= .fields ([head,.ref L,.none,rawInt L,.none]++(if pl.isEmpty then List.replicate 6 Value.none else pl)).toArray})
  (Obj.mapFields (·.setIfInBounds 1 (Value.ref h₁.objs.size))) (ck Xs)).trans (cV h₁ Z)
 unfold setFlight;refine aw (cZ JE MD (x:= .ref h₁.objs.size) (by simp[qe]) ?_);rw[aB (show(Value.ref h₁.objs.size !=Value.none)=true from by simp)];refine uw RN Z (by simp only[bJ,bu,bB,m5]<;>lia) (h _ h₁.objs.size ?_ ?_ ?_ ?_)
 .rw[fi.1];exact aK _
 .refine⟨?_,⟨_,MD,by simp[qe]⟩,Xs,_,_,ma _ RN (zj (uA Z _)),uA Z _,by first|(simp;done)|(rcases ng with rfl|⟨_,_,_,_,_,_,_,rfl⟩<;>simp)⟩;rw[gp _ _ Xs];exact JE
 .intro b o E6 WO hb;have Gs:=(fi.2.1 b WO).trans hb;have Je:h₁.objs.size≠b:=jr (a_ Gs);rw[gp _ _ Je,gp _ _ (ck E6)];exact bq _ Gs
 .intro b o E6 hb;obtain⟨sl,Gs⟩:=fi.2.2 b o hb;have Je:h₁.objs.size≠b:=jr (a_ Gs);refine⟨sl,?_⟩;rw[gp _ _ Je,gp _ _ (ck E6)];exact bq _ Gs
theorem GR{base:Y'}{env:Env}{outer:List Env}{L e:S'}{oe:Obj}{vs:Array M'}{Q:Unit->R'->Prop}
 (vj:A.frames=some (env::outer)) (hl:s.heap.FunFrames base (env::outer)) (hf:env.frame=some L)
 (he:s.heap.get? e=some oe) (hd:oe.data= .fields vs) (h1:vs[1]? =some .none)
 (h:∀h' T,s.heap.objs.size<=T->LZ h' e T (oe.mapFields (·.setIfInBounds 1 (.ref T)))->(∀b o,b≠e->b∉(env::outer).filterMap (·.frame)->s.heap.get? b=some o->h'.get? b=some o)->
  (∀b o,b≠e->s.heap.get? b=some o->∃sl,h'.get? b=some {o with slots:=sl})->Q () {s with heap:=h'}):wpAny M A (leaving env (.ref e)) Q E s:=by
 unfold leaving noteFrame;simp only[hf];refine aw (aw (cZ he hd h1 ?_));rw[ax (by decide)];exact sf vj hl hf he hd (uL.mp h1).1 h
theorem Jc{base:Y'}{env:Env}{outer:List Env}{L e T:S'}{oe:Obj}{Q:Unit->R'->Prop}
 (vj:A.frames=some (env::outer)) (hl:s.heap.FunFrames base (env::outer)) (hf:env.frame=some L) (ht:LZ s.heap e T oe)
 (h:∀h' T',s.heap.objs.size<=T'->LZ h' e T' (oe.mapFields (·.setIfInBounds 1 (.ref T')))->(∀b o,b≠e->b≠T->b∉(env::outer).filterMap (·.frame)->s.heap.get? b=some o->h'.get? b=some o)->
  (∀b o,b≠e->b≠T->s.heap.get? b=some o->∃sl,h'.get? b=some {o with slots:=sl})->Q () {s with heap:=h'}):wpAny M A (leaving env (.ref e)) Q E s:=by
 obtain⟨he,⟨vs,hd,h1⟩,Xs,oT,ts,hT,mH,h3⟩:=ht;unfold leaving noteFrame;simp only[hf];refine aw (aw (cZ he hd h1 ?_));rw[aB (show(Value.ref T !=Value.none)=true from by simp)];refine aw (cZ hT mH h3 ?_);rw[ax (show ¬((Value.none==rawInt L)=true) from by simp[rawInt])];refine aw (uw hT mH (uL.mp h3).1 ?_);have other:∀b,b≠T->(s.heap.update T (Obj.mapFields (·.setIfInBounds 3 Value.none))).get? b=s.heap.get? b:=λb hb=>gp _ _ (ck hb)
 have AZ:∀b o,s.heap.get? b=some o->(∀vs,o.data≠.fields vs)->b≠T:=λb o hb Ro q=>by
  rw[q,hT] at hb;injection hb with hb;subst hb;exact Ro ts mH
 refine sf vj (hl.of_keeps λb o hb Ro=>⟨o,(other b (AZ b o hb Ro)).trans hb,Z⟩) hf ((other e (ck Xs)).trans he) hd (uL.mp h1).1
  λh' T' hn fl k1 k2=>h h' T' ?_ fl (λb o E6 Je WO hb=>k1 b o E6 WO ((other b Je).trans hb)) λb o E6 Je hb=>k2 b o E6 ((other b Je).trans hb)
 have KH :(s.heap.update T (Obj.mapFields (·.setIfInBounds 3 Value.none))).objs.size<=T' :=hn;rw[Heap.size_after_update] at KH;exact KH
end
structure oO(bm:aF):Prop where
 hasB:bm.contains (.type "ValueError")=true
 hasBase:bm.contains (.type "BaseException")=true
 noAttr:bm.contains (.type "AttributeError")=false
 noName:bm.contains (.type "NameError")=false
noncomputable abbrev lR(C t:S'):Obj:={cls:= .ref C,data:= .fields #[.ref t,.none,.none,.none,.bool false,.none]}
section
variable{prog:Z'}{w:W'}{A:X'}{E:J'}{h:Y'}{g:Array GenState}{d:Drawn}{t:Nat}{os:OsState}
variable{nm q:Str}{C N:S'}{bs bm:aF}{jf:Bool}{sn:au}{sub:aF}{ab:Bool}{col:Option Bool}{dd:Option S'}{k0 k1 k2 k3 k5:aO}
theorem Cs{M:Model}(T:oO bm){rest:aF}{Q:Unit->R'->Prop}(hC:h.get? C=some (excClassObj nm q C N bs bm jf sn sub ab col dd k0 k1 k2 k3 k5 "ValueError.__new__"))
 (hq:Q () ⟨h,g,d,t,os⟩):wpAny M A (checkBuiltinCall "ValueError.__new__" ⟨.ref C::rest,[]⟩) Q E ⟨h,g,d,t,os⟩:=by
 have F:=vZ;have YO:(Value.ref C::bm).contains (.type "ValueError")=true:=by rw[pK,T.hasB,rX]
 have ahK:=F.noStar;simp only[checkBuiltinCall,F.newKind,F.newSplit,F.newRow]
 repeat (first|refine jo hC ?_|(refine pT hC ?_;rw[YO])|refine wpAny_staticBase_exc hC ?_|refine wpAny_madeBy_exc hC ?_|simp only[bne_self_eq_false,wH,mJ]|wp_step)
 exact hq
theorem DJ(T:oO bm){R:Result->R'->Prop}{rest:aF}(hC:h.get? C=some (excClassObj nm q C N bs bm jf sn sub ab col dd k0 k1 k2 k3 k5 "ValueError.__new__"))
 (hq:R (.ok (.ret (.ref (h.objs.size+1)))) ⟨(h.push {cls:= .type "tuple",data:= .seq rest.toArray}).push (lR C h.objs.size),g,d,t,os⟩) (hrest:rest.length<=sizeLine:=by size_fits):
 codeAny (model prog w) A (.builtin "ValueError.__new__" ⟨.ref C::rest,[]⟩) R ⟨h,g,d,t,os⟩:=by
 have F:=vZ;have agr:=F.ends;have Q4:(Value.ref C::bm).contains (.type "ValueError")=true:=by rw[pK,T.hasB,rX]
 have hcA:(Value.ref C::bm).contains (.type "AttributeError")=false:=by rw[pK,T.noAttr];rfl
 have hcN:(Value.ref C::bm).contains (.type "NameError")=false:=by rw[pK,T.noName];rfl
 refine codeAny_builtinAt F.entry ?_;unfold Builtin.«BaseException.__new__»;refine PySem.wpAt_bind ?_;show PySem.wpAt _ _ _ (stack>>= _) _ _ _;refine PySem.wpAt_bind (PySem.wpAt_stack λp below=>PySem.wpAt_of_wpAny ?_)
 wp_walk
 refine PySem.wpAt_of_wpAny ?_;rw[F.owner]
 repeat (first|with_reducible refine wpAny_madeHere_exc F.canon hC ?_|with_reducible refine jo hC ?_|(with_reducible refine pT hC ?_;first|rw[Q4]|rw[hcA]|rw[hcN])|wp_step)
 show R _ _;rw[kr];exact hq
theorem BW(T:oO bm){K:Frag}{rest:aF}{fI:S'}{Q:Fin->R'->Prop}
 (hC:h.get? C=some (excClassObj nm q C N bs bm jf sn sub ab col dd k0 k1 k2 k3 k5 "ValueError.__new__")) (X:K.In h) (hi:PySem.W.findIn K (.ref C) "__init__"=some (some (.ref fI))) (hf:PySem.W.typeIn K (.ref fI)=some (.type "function"))
 (hq:wpAny (model prog w) A (call (.ref fI) (.ref (h.objs.size+1)::rest)) (λr s' =>r= .none/\Q (.done (.ret (.ref (h.objs.size+1)))) s') E ⟨(h.push {cls:= .type "tuple",data:= .seq rest.toArray}).push (lR C h.objs.size),g,d,t,os⟩) (hrest:rest.length<=sizeLine:=by size_fits):
 wpAny (model prog w) A (Builtin.«type.__call__» ⟨.ref C::rest,[]⟩) Q E ⟨h,g,d,t,os⟩:=by
 have F:=vZ
 repeat (first|with_reducible refine jo hC ?_|with_reducible refine wpAny_madeBy_exc hC ?_|wp_step)
 refine codeAny_call_builtin_code (Code.quiet_builtin _ F.quiet) (Cs T hC ?_);refine DJ T hC ?_ hrest;show wpAny _ _ _ _ _ _;have hk:∀b o,h.get? b=some o->((h.push {cls:= .type "tuple",data:= .seq rest.toArray}).push (lR C h.objs.size)).get? b=some o:=λb o e=>bq _ (bq _ e);have Z8:=hk _ _ hC;have abc:K.In ((h.push {cls:= .type "tuple",data:= .seq rest.toArray}).push (lR C h.objs.size)):=X.keeps hk;have XN:((h.push {cls:= .type "tuple",data:= .seq rest.toArray}).push (lR C h.objs.size)).get? (h.objs.size+1)=some (lR C h.objs.size):=by heap_get
 have hcC:(Value.ref C::bm).contains (.ref C)=true:=by simp
 unfold isInstance
 repeat (first|with_reducible refine jo XN ?_|(with_reducible refine pT Z8 ?_;rw[hcC])|wp_step)
 show wpAny _ _ (typeLookup (.ref C) _) _ _ _;refine(looks_findIn abc hi).here ?_;refine kh (aw ?_);refine(bind_fn abc (.ref (h.objs.size+1)) hf).here ?_;refine aw (fW hq (λr s' hr=> ?_) λ_ _ x=>x);obtain⟨rfl,hQ⟩:=hr
 wp_walk
 exact hQ
theorem Mg(T:oO bm){K:Frag}{rest:aF}{fI:S'}{Q:J'}
 (hC:h.get? C=some (excClassObj nm q C N bs bm jf sn sub ab col dd k0 k1 k2 k3 k5 "ValueError.__new__")) (X:K.In h) (hi:PySem.W.findIn K (.ref C) "__init__"=some (some (.ref fI))) (hf:PySem.W.typeIn K (.ref fI)=some (.type "function"))
 (hq:wpAny (model prog w) (A.under (.builtin "type.__call__" ⟨.ref C::rest,[]⟩)) (call (.ref fI) (.ref (h.objs.size+1)::rest)) (λr s' =>r= .none/\Q (.ref (h.objs.size+1)) s') E ⟨(h.push {cls:= .type "tuple",data:= .seq rest.toArray}).push (lR C h.objs.size),g,d,t,os⟩) (hrest:rest.length<=sizeLine:=by size_fits):
 wpAny (model prog w) A (call (.ref C) rest) Q E ⟨h,g,d,t,os⟩:=by
 have f1:=tc_lookup;have f2:=tc_bind (.ref C);have hT:(⟨h,g,d,t,os⟩:R').TypeIs (.ref C) "type":=⟨_,hC,Z⟩;refine og (codeAny_of_tree ?_);show wpAny _ _ (callAny (.ref C) _) _ _ _
 repeat (any_goals (first|assumption|with_reducible refine jo hC ?_|wp_step))
 refine⟨Z,?_⟩;exact codeAny_call_builtin_at (Code.quiet_builtin _ (by decide+kernel)) entry_typeCall (wpAny_check_type_call_sub hC (BW (hrest:=hrest) T hC X hi hf hq))
end
def eW(a C:S')(dd:Option S')(n:Bool)(h:Y'):Prop:=∃vs:Array M',h.get? a=some {cls:= .ref C,dict:=dd,data:= .fields vs}/\vs.size=6/\(n=true->vs[1]? =some .none)
theorem xk{P:Z'}{w:W'}{H:Hp}{h:Y'}{a C:S'}{dd:Option S'}{n:Bool}(p:eW a C dd n h):cu P w H h a (.ext (eW a C dd n)):=by
 obtain⟨vs,e,r⟩:=p;exact⟨⟨vs,e,r⟩,⟨_,e⟩,λh1 h2 ⟨ws,e1,r1⟩ k=>⟨ws,k _ e1,r1⟩⟩
theorem pW{P:Z'}{w:W'}{H:Hp}{h:Y'}{a C:S'}{dd:Option S'}{n:Bool}(ok:pG P w H h)(e:H a=some (.ext (eW a C dd n))):eW a C dd n h:=
 (show cu P w H h a (.ext (eW a C dd n)) from ok a _ e).1
theorem AR{H:Hp}{a:S'}{o:HO}(h:H a=some o):upd H a o=H:=by
 funext b
 by_cases hb:b=a
 .subst hb;rw[af,h]
 .rw[az hb]
structure ExcC(K:Frag)(C:S'):Prop where
 obj:∃nm q N bs bm jf sn sub ab col dd k0 k1 k2 k3 k5,K.lookup C=some (excClassObj nm q C N bs bm jf sn sub ab col dd k0 k1 k2 k3 k5 "ValueError.__new__")/\oO bm
structure MJ(K:Frag)(C f:S'):Prop extends ExcC K C where
 init:PySem.W.findIn K (.ref C) "__init__"=some (some (.ref f))
 fn:PySem.W.typeIn K (.ref f)=some (.type "function")
 kp:PySem.W.keepIn K (.ref C)=true
section
variable{X:Cx}{CX:uo}{k:Nat}{f C:S'}{fd:aad}{ps:au}{sp:Sp}{E:XK}{x m:Str}{p pos apos:Pos}{e o:V'}{es:b8}{ta:TE}{t:TA}
def Jb(C:S')(sp:Sp)(E:XK)(t:TA):TE:=λσ H Q=>t σ H λvs H1=>∀x,H1 x=none->sp (.ref x::vs) (upd H1 x (.ext (eW x C none true))) (λv H2=>v= .bp/\Q (.ref x) H2) E
theorem Ld{ad:aQ}{σ:St}{H:Hp}{s:R'}{Q:VK}{us:aF}{vs:ak}(M:MJ X.K C f)(F:aT X.prog X.w X.K X.mg X.base CX k f fd ps sp)(hr:dW (k+1) X.A)(hb:Binds X.K fd ps [])
 (hx:wf CX X E) (I:Inv X ad σ H s) (r:Vals vs us) (hus:us.length<=100)
 (h:∀x,H x=none->sp (.ref x::vs) (upd H x (.ext (eW x C none true))) (λv H2=>v= .bp/\Q (.ref x) H2) E):
 wpAny (model X.prog X.w) X.A (call (.ref C) us) (EP X ad σ Q) X.xe s:=by
 have hq:=h (s.heap.objs.size+1) (I.bT.fresh (uX _));obtain⟨nm,q,N,bs,bm,jf,sn,sub,ab,col,dd,k0,k1,k2,k3,k5,lk,T⟩:=M.obj;have hC:=I.jN _ _ lk;have hk:∀b u,s.heap.get? b=some u->((s.heap.push {cls:= .type "tuple",data:= .seq us.toArray}).push (lR C s.heap.objs.size)).get? b=some u:=λb u e=>bq _ (bq _ e);have XN:((s.heap.push {cls:= .type "tuple",data:= .seq us.toArray}).push (lR C s.heap.objs.size)).get? (s.heap.objs.size+1)=some (lR C s.heap.objs.size):=by heap_get
 have I2:Inv X ad σ (upd H (s.heap.objs.size+1) (.ext (eW (s.heap.objs.size+1) C none true))) {s with heap:=(s.heap.push {cls:= .type "tuple",data:= .seq us.toArray}).push (lR C s.heap.objs.size)}:=
  I.laid (t' :=s.toks) hk (uX _) (xk ⟨_,XN,Z,λ_=>rfl⟩)
 have r2:Vals (V.ref (s.heap.objs.size+1)::vs) (Value.ref (s.heap.objs.size+1)::us):= .cons Z r
 have hl:(Value.ref (s.heap.objs.size+1)::us++([]:aF)).length=ps.length:=by
  have e:=r2.length;rw[F.len _ _ _ _ hq] at e;rw[fG];exact e.symm
 obtain⟨hp,g,d,tk,os⟩:=s;refine Mg (hrest:=aU hus (by decide)) T hC I.jN M.init M.fn (og (r_ (F.run _ X.stack _ _ ⟨Value.ref (hp.objs.size+1)::us,[]⟩ (Value.ref (hp.objs.size+1)::us) _ _ E (hr.make C us []) (I2.V0.make C us []) ?_ r2 hq) λr s' Mu => ?_))
 .have:=hb _ (Value.ref (hp.objs.size+1)::us) I2.jN hl;rw[fG] at this;exact this
 .cases r with
  |error e=>exact hx ad σ _ _ e s' I2 Mu
  |ok fl=>
   cases fl with
   |ret u=>
    obtain⟨v,H',I3,rv,ev,q3⟩:=I2.after Mu;subst ev;exact⟨rv,⟨V.ref (hp.objs.size+1),H',I3,Z,q3⟩⟩
   |next=>exact False.elim Mu
   |brk=>exact False.elim Mu
   |cont=>exact False.elim Mu
theorem M5(M:MJ X.K C f)(F:aT X.prog X.w X.K X.mg X.base CX k f fd ps sp)(hr:dW (k+1) X.A)(hg:Gl X x)(hm:X.mg x=some (.ref C))(hb:Binds X.K fd ps [])(hx:wf CX X E)
 (ha:PA X (e::es) t) (hlen:∀vs H Q E,sp vs H Q E->vs.length<=100) (rD:(x==("__debug__" :Str))=false:=by decide) (he:starEach (e::es) X.env=(false,eval e X.env)::starEach es X.env:=by rfl) (ng:(backTo pos (starEach es X.env)).any (·.1)=false:=by rfl):
 PE X (.Call (.Name x p) (e::es) [] pos) (Jb C sp E t):=by
 intro ad s σ H Q I h;refine lU (kN I hg hm ?_ rD);refine rP (h₀:=X.base) I.ok.mod.xr M.kp (di (ha pos ad s σ H _ I h) λus s1 ⟨vs,H1,I1,r,q⟩=>⟨I1.jN,?_⟩) he ng;refine Ld M F hr hb hx I1 r ?_ q;have h1:=hlen _ _ _ _ (q _ (I1.bT.fresh (aK _)));have h2:=r.length;rw[bB] at h1;rw[oY]
 lia
end
theorem HI(K:Frag):findCls K (.type "ValueError") (.type "type") "__init__"=some (.val (.builtin "ValueError.__init__")):=by kernel_rfl
section
variable{prog:Z'}{w:W'}{A:X'}{E:J'}{h:Y'}{g:Array GenState}{d:Drawn}{t:Nat}{os:OsState}
variable{nm q:Str}{C N:S'}{bs bm:aF}{jf:Bool}{sn:au}{sub:aF}{ab:Bool}{col:Option Bool}{dd:Option S'}{k0 k1 k2 k3 k5:aO}
theorem BJ{M:Model}(T:oO bm){e:S'}{oe:Obj}{rest:aF}{Q:Unit->R'->Prop}
 (hC:h.get? C=some (excClassObj nm q C N bs bm jf sn sub ab col dd k0 k1 k2 k3 k5 "ValueError.__new__")) (he:h.get? e=some oe) (HY:oe.cls= .ref C) (hq:Q () ⟨h,g,d,t,os⟩):
 wpAny M A (checkBuiltinCall "ValueError.__init__" ⟨.ref e::rest,[]⟩) Q E ⟨h,g,d,t,os⟩:=by
 have F:=vZ;have Q4:(Value.ref C::bm).contains (.type "ValueError")=true:=by rw[pK,T.hasB,rX]
 have afv:=F.noStar;simp only[checkBuiltinCall,F.initKind,F.initSplit,F.initRow]
 repeat (first|(with_reducible refine jo he ?_;rw[HY])|with_reducible refine jo hC ?_|(with_reducible refine pT hC ?_;rw[Q4])|wp_step)
 refine zM ?_
 rw[show ∀(a b:String) (n:Nat),Bind.check ⟨.positional,"*","ValueError",.self,[⟨"args",.varPos,false⟩]⟩ a b n (List.map (λx=>x.fst) ({pos:=Value.ref e::rest}:Args).kw)=pure () from
  λa b n=>check_star_args _ _ _ _ _ _]
 exact aY hq
theorem LV(T:oO bm){e:S'}{vs:Array M'}{de:Option S'}{x:M'}{Q:J'}
 (hC:h.get? C=some (excClassObj nm q C N bs bm jf sn sub ab col dd k0 k1 k2 k3 k5 "ValueError.__new__")) (he:h.get? e=some {cls:= .ref C,dict:=de,data:= .fields vs}) (hv:vs.size=6)
 (hq:∀h' T',h.get? T' =none->(∀b o,b≠e->h.get? b=some o->h'.get? b=some o)->h'.get? e=some {cls:= .ref C,dict:=de,data:= .fields (vs.setIfInBounds 0 (.ref T'))}->Q .none ⟨h',g,d,t,os⟩):
 wpAny (model prog w) A (call (.builtin "ValueError.__init__") [.ref e,x]) Q E ⟨h,g,d,t,os⟩:=by
 have F:=vZ;have qe:0<vs.size:=by lia
 refine og (Fe F.init.plain F.initEntry (BJ T hC he Z ?_));unfold Builtin.«BaseException.__init__»
 wp_walk
 have h0:vs[0]? =some vs[0]:=uR qe;rw[h0];have he2:=bq {cls:= .type "tuple",data:= .seq #[x]} he
 have fin:Q .none ⟨(h.push {cls:= .type "tuple",data:= .seq #[x]}).update e (Obj.mapFields (·.setIfInBounds 0 (.ref h.objs.size))),g,d,t,os⟩:=by
  refine hq _ h.objs.size (Heap.get?_none_of_le (aK _)) (λb o hb e' => ?_) ?_
  .rw[gp _ _ (ck hb)];exact bq _ e'
  .exact ma _ he2 rfl
 generalize vs[0]=v0;refine aY ?_;refine aw (uw he2 Z qe ?_)
 cases v0 with
 |ref a=>exact wpAny_letGo (aY fin)
 |_=>exact aY (aY fin)
end
section
variable{X:Cx}{p pos apos:Pos}{e1 e2:V'}{t:TA}
def Xc(K:Frag)(t:TA):TE:=λσ H Q=>t σ H λvs H1=>∃a C dd n x,vs=[.ref a,x]/\H1 a=some (.ext (eW a C dd n))/\ExcC K C/\Q .bp H1
theorem Nm{pl:Sem Bool}(hg:Gl X "ValueError")(hm:X.mg "ValueError"=none)(ha:PA X [e1,e2] t)
 (tQ:starEach [e1,e2] X.env=(false,eval e1 X.env)::starEach [e2] X.env:=by rfl) (ng:(backTo pos (starEach [e2] X.env)).any (·.1)=false:=by rfl)
 (ht:eval (.Call (.Attribute (.Name "ValueError" p) "__init__" apos) [e1,e2] [] pos) X.env=(do
  let ov<-eval (.Name "ValueError" p) X.env
  standAt apos.atName
  let(f,first)<-holding [ov] (getMethod ov "__init__" pl)
  callWith pos f first (backTo pos (starEach [e1,e2] X.env)) (backToKw pos (keywordEach [] X.env))):=by rfl):
 PE X (.Call (.Attribute (.Name "ValueError" p) "__init__" apos) [e1,e2] [] pos) (Xc X.K t):=by
 intro ad s σ H Q I h;refine methodCall_KW (pl:=pl) (ue I hg hm Boot.«ValueError» ?_) ht;obtain⟨m,F⟩:=I.fr;refine PySem.W.method_type F I.mod.xr (by kernel_rfl) (by decide+kernel) (HI X.K) (by decide+kernel) ?_;refine Kl (di (ha pos ad _ σ H _ (I.tok _) h) λus s1 ⟨vs,H1,I1,r1,q1⟩=> ?_) tQ ng;obtain⟨a,C,dd,n,x,rfl,hx,hc,q⟩:=q1
 cases r1 with
 |cons r rr=>
  cases rr with
  |cons r' rr=>
   cases rr;cases r;obtain⟨nm,q',N,bs,bm,jf,sn,sub,ab,col,XT,k0,k1,k2,k3,k5,lk,T⟩:=hc.obj;obtain⟨ws,he,hw,hn⟩:=pW I1.bT hx;obtain⟨hp,g,d,tk,os⟩:=s1;refine LV T (I1.jN _ _ lk) he hw λh' T' hT k he' =>⟨.bp,H1,?_,Z,q⟩;have I2:=I1.write (h' :=h') (t' :=tk) (x:=a) (e:=a) (o:= .ext (eW a C dd n)) (by rw[hx];exact True.intro) (.inl Z) k ⟨_,he'⟩ (xk ⟨_,he',by simp[hw],λz=>by rw[Array.getElem?_setIfInBounds_ne (by decide)];exact hn z⟩);rw[AR hx] at I2;exact I2
end
end L2
namespace L2
open PySem PySem.Spec PyProof.Rows PySem.Builtin.ObjectAttr
theorem wD(self:M'):refuseLoop self "__setattr__" [.type "ValueError",.type "Exception",.type "BaseException",.type "object"]=pure ():=by kernel_rfl
section
variable{prog:Z'}{w:W'}{A:X'}{E:J'}{h:Y'}{g:Array GenState}{d:Drawn}{t:Nat}{os:OsState}
variable{nm q:Str}{C N x:S'}{bs bm:aF}{sn:au}{sub:aF}{ab:Bool}{col:Option Bool}{dd:Option S'}{k0 k1 k2 k3 k5:aO}{newId:String}
 {mA:Str->aO} {name:Str} {v:M'} {K:Frag}
theorem EX{M:Model}{o:Obj}{Ud:M'}{Q:Unit->R'->Prop}(hob:bm.contains (.type "object")=true)
 (hC:h.get? C=some (excClassObj nm q C N bs bm true sn sub ab col dd k0 k1 k2 k3 k5 newId)) (hx:h.get? x=some o) (hc:o.cls= .ref C) (hq:Q () ⟨h,g,d,t,os⟩):
 wpAny M A (checkBuiltinCall "object.__setattr__" ⟨[.ref x,Ud,v],[]⟩) Q E ⟨h,g,d,t,os⟩:=by
 have SF:=PySem.F.store_object;have Q4:(Value.ref C::bm).contains (.type "object")=true:=by rw[pK,hob,rX]
 have ha:=SF.args (.ref x) Ud v;simp only[checkBuiltinCall,SF.kind,SF.split];refine aw ?_
 .unfold isInstance
  repeat (first|(with_reducible refine jo hx ?_;rw[hc])|(with_reducible refine pT hC ?_;rw[Q4])|wp_step)
  exact hq
theorem yR{tk:Tok}{Q:Fin->R'->Prop}{ns:au}(Gz:∀self,refuseLoop self "__setattr__" bm=pure ())(X:K.In h)(Yc:PySem.W.findIn K (.ref C) name=some none)
 (hC:h.get? C=some (excClassObj nm q C N bs bm true sn sub ab col dd k0 k1 k2 k3 k5 newId)) (I:h.Inst x C mA)
 (hq:∀h' QB,h'.Inst x C (λy=>if y=name then some v else mA y)->
  (∀b o,b≠x->(∀kT dx,h.get? x=some kT->kT.dict=some dx->b≠dx)->h.get? b=some o->h'.get? b=some o)->
  (∀kT,h.get? x=some kT->∃xp,h'.get? x=some xp/\xp.cls=kT.cls/\xp.data=kT.data/\xp.slots=kT.slots/\(∀dx,kT.dict=some dx->xp.dict=some dx)/\(kT.dict=none->∃dx,xp.dict=some dx/\h.objs.size<=dx))->Q (.done (.ret .none)) ⟨h',g,d,QB,os⟩) (hw:Within mA ns) (qe:ns.length<=1000):
 wpAny (model prog w) A (Builtin.«object.__setattr__» ⟨[.ref x,.str name tk,v],[]⟩) Q E ⟨h,g,d,t,os⟩:=by
 obtain⟨o,hx,hc,hnc,hd⟩:=I;have Gz:=Gz (.ref x);unfold Builtin.«object.__setattr__»
 repeat (first|rw[refuse_eq]|(rw[refuseLoop_ref,Gz])|(with_reducible refine jo hx ?_;rw[hc])|with_reducible refine wpAny_mroOf_exc hC ?_|(with_reducible refine(looks_findIn X Yc).here ?_)|wp_step)
 rcases hd with⟨WH,hmA⟩|⟨dx,JP,wN,Py⟩
 .
  rw[WH,ax (by simp[typeHasDict])]
  split
  .rename_i Av;cases Av
  split
  .rename_i c Av;exact absurd Av (hnc c)
  .have Uc:(h.push {cls:= .type "dict",data:= .dict #[]}).get? x=some o:=bq _ hx;have CU:x≠h.objs.size:=cJ (a_ hx);refine aw (wpAny_alloc' ?_);refine aw (wpAny_update' Uc ?_);refine aY ?_
   have Pf:((h.push {cls:= .type "dict",data:= .dict #[]}).update x λo=>{cls:=o.cls,dict:=some h.objs.size,data:=o.data,slots:=o.slots}).get? h.objs.size
    =some {cls:= .type "dict",data:= .dict #[]}:=
    (Heap.get?_update_ne _ _ _ _ CU.symm).trans (Heap.get?_push_at Z Z)
   have hnd:((h.push {cls:= .type "dict",data:= .dict #[]}).update x λo=>{cls:=o.cls,dict:=some h.objs.size,data:=o.data,slots:=o.slots}).Ns h.objs.size (λ_=>none):=
    ⟨_,#[],_,Pf,Z,λe he=>absurd he (by simp),λ_=>rfl⟩
   show wpAny _ _ (storeInDict h.objs.size (.str name tk) name v) _ _ _;unfold storeInDict newKeyGuard;refine aw (aY (aw (wpAny_nsSet1 (Heap.Ns1.of_empty hnd) λh' KH hs=> ?_)));obtain⟨oD,esD,epD,YW,Jh,ZV⟩:=KH.count (Within.cons name v Within.nil);refine aw (wpAny_lookBehind YW (by rw[Jh];exact pastItsLine_dict (aU ZV (by rw[bB,m5,rT];lia))) ?_)
   wp_walk
   have Ma :h'.get? x=some {cls:=o.cls,dict:=some h.objs.size,data:=o.data,slots:=o.slots}:= ?_
   refine hq h' _ ⟨{cls:=o.cls,dict:=some h.objs.size,data:=o.data,slots:=o.slots},Ma,hc,hnc,.inr ⟨h.objs.size,Z,CU.symm,?_⟩⟩ (λb ob hbx _ hb=> ?_)
    (λkT h₀=>by obtain rfl:o=kT:=fV (hx.symm.trans h₀);exact⟨_,Ma,Z,Z,Z,(λdx e=>by rw[WH] at e;cases e),λ_=>⟨_,Z,aK _⟩⟩)
   .obtain⟨o',es,ep,e1,e2,e3,eu,e4⟩:=KH;exact⟨o',es,ep,e1,e2,e3,eu,λy=>by rw[e4 y];by_cases hy:y=name<;>simp[hy,hmA]⟩
   .exact(hs.2 b (cJ (a_ hb))).trans ((Heap.get?_update_ne _ _ _ _ hbx).trans (bq _ hb))
   .refine(hs.2 x CU).trans (ma _ Uc ?_);have vj:=(Heap.get?_some_iff.mp hx).2;obtain⟨oc,od,odt,xM⟩:=o;cases odt<;>first|rfl|exact vj
 .
  rw[JP];refine aY ?_;show wpAny _ _ (storeInDict dx (.str name tk) name v) _ _ _;unfold storeInDict newKeyGuard;refine aw (aY (aw (wpAny_nsSet1 Py λh' KH hs=> ?_)));obtain⟨oD,esD,epD,YW,Jh,ZV⟩:=KH.count (Within.cons name v hw);refine aw (wpAny_lookBehind YW (by rw[Jh];exact pastItsLine_dict (aU ZV (by rw[bB,rT];lia))) ?_)
  wp_walk
  refine hq h' _ ⟨o,(hs.2 x wN.symm).trans hx,hc,hnc,.inr ⟨dx,JP,wN,KH⟩⟩ (λb ob _ hbd hb=> ?_)
   (λkT h₀=>⟨kT,(hs.2 x wN.symm).trans h₀,Z,Z,Z,(λ_ e=>e),λe=>by obtain rfl:o=kT:=fV (hx.symm.trans h₀);rw[JP] at e;cases e⟩)
  exact(hs.2 b (hbd o dx hx JP)).trans hb
theorem CB{Q:Unit->R'->Prop}{ns:au}(Gz:∀self,refuseLoop self "__setattr__" bm=pure ())(hob:bm.contains (.type "object")=true)(X:K.In h)
 (hs:PySem.W.findIn K (.ref C) "__setattr__"=some (some (.builtin "object.__setattr__"))) (Yc:PySem.W.findIn K (.ref C) name=some none)
 (hC:h.get? C=some (excClassObj nm q C N bs bm true sn sub ab col dd k0 k1 k2 k3 k5 newId)) (I:h.Inst x C mA)
 (hq:∀h' QB,h'.Inst x C (λy=>if y=name then some v else mA y)->
  (∀b o,b≠x->(∀kT dx,h.get? x=some kT->kT.dict=some dx->b≠dx)->h.get? b=some o->h'.get? b=some o)->
  (∀kT,h.get? x=some kT->∃xp,h'.get? x=some xp/\xp.cls=kT.cls/\xp.data=kT.data/\xp.slots=kT.slots/\(∀dx,kT.dict=some dx->xp.dict=some dx)/\(kT.dict=none->∃dx,xp.dict=some dx/\h.objs.size<=dx))->Q () ⟨h',g,d,QB,os⟩) (hw:Within mA ns) (qe:ns.length<=1000):
 wpAny (model prog w) A (setAttr (.ref x) name v) Q E ⟨h,g,d,t,os⟩:=by
 obtain⟨o,hx,hc,hnc,hd⟩:=id I
 have J:∃od,PySem.W.InstAt h x o C od:=by
  rcases hd with⟨WH,_⟩|⟨dx,JP,_,oD,es,ep,h1,_⟩
  .exact⟨none,hx,hc,by cases e:o.data<;>simp_all[notCls],by rw[WH];trivial⟩
  .exact⟨some oD,hx,hc,by cases e:o.data<;>simp_all[notCls],by rw[JP];exact h1⟩
 obtain⟨od,J⟩:=J;refine set_plain (s:=⟨h,g,d,t,os⟩) X J hs ?_;exact Fe PySem.F.store_object.slot.plain PySem.F.store_object.entry (EX hob hC hx hc (yR Gz X Yc hC I (λh' QB a b c=>hq h' QB a b c) hw qe))
end
structure Qu(K:Frag)(C:S'):Prop where
 obj:∃nm q N bs bm sn sub ab col dd k0 k1 k2 k3 k5,K.lookup C=some (excClassObj nm q C N bs bm true sn sub ab col dd k0 k1 k2 k3 k5 "ValueError.__new__")/\(∀self,refuseLoop self "__setattr__" bm=pure ())/\bm.contains (.type "object")=true
 sa:PySem.W.findIn K (.ref C) "__setattr__"=some (some (.builtin "object.__setattr__"))
section
variable{X:Cx}{ad:aQ}{σ:St}{H:Hp}{s:R'}{a C:S'}{n:Bool}{f:Str}{y:V}{u:M'}{A:X'}{E:J'}
theorem Jn{fs:ji}{mA:Str->aO}(r:∀f,m4 (fs.lookup f) (mA f)):PySem.Within mA (fs.map (·.1)):=by
 intro g hg;have:=r g
 cases e:fs.lookup g with
 |none=>rw[e] at this;cases q:mA g with
  |none=>rw[q] at hg;simp at hg
  |some v=>rw[q] at this;cases this
 |some v=>
  obtain⟨l1,l2,h1,_⟩:=E5.mp e;rw[h1];simp
theorem Inv.two{h' :Y'}{t' :Nat}{dx:S'}{o1 o2:HO}{φ:Y'->Prop}(I:Inv X ad σ H s)(e:H a=some (.ext φ))(SQ:(∀xs,H dx≠some (.tup xs))/\(∀y,H dx≠some (.own y))/\(∀o u,H dx≠some (.FW o u))/\∀ps,H dx≠some (.wg ps))(hd2:H dx=none->s.heap.objs.size<=dx)(wN:dx≠a)
 (k:∀b o,b≠a->b≠dx->s.heap.get? b=some o->h'.get? b=some o) (ha:∃o,h'.get? a=some o) (hx:∃o,h'.get? dx=some o)
 (n1:cu X.prog X.w (upd (upd H a o1) dx o2) h' a o1) (n2:cu X.prog X.w (upd (upd H a o1) dx o2) h' dx o2):Inv X ad σ (upd (upd H a o1) dx o2) {s with heap:=h',toks:=t'}:=by
 have na:∀b,H b=none->b≠a:=λb q z=>by rw[z,e] at q;cases q
 have nd:∀b o,s.heap.get? b=some o->H b=none->b≠dx:=λb o q q' z=>by
  subst z;exact absurd (cQ (a_ q) (hd2 q')) (cA _)
 have Yb:∀b,b≠a->b≠dx->upd (upd H a o1) dx o2 b=H b:=λb h1 h2=>by rw[az h2,az h1]
 refine I.step (g' :=s.gens) (d' :=s.drawn) (ch:=[]) (λ_ z=>nomatch z) (λb o _ _ _ q n=>k b o (na b n) (nd b o q n) q) (λb o _ _ _ q n=>⟨o.slots,k b o (na b n) (nd b o q n) q⟩) (λb o _ q n=>by rw[Yb b (na b n) (nd b o q n)];exact n)
  (λb o _ q=> ?_) (λb xs q=> ?_) (λb o u q=> ?_) (λb ps q=>⟨#[],?_⟩) (λm hm=> ?_) (λb u q=> ?_) I.bare
 .by_cases h1:b=a
  .rw[h1];exact ha
  .by_cases h2:b=dx
   .rw[h2];exact hx
   .exact⟨o,k b o h1 h2 q⟩
 .rw[Yb b (λz=>by rw[z,e] at q;cases q) (λz=>SQ.1 xs (by rw[<-z];exact q))];exact q
 .rw[Yb b (λz=>by rw[z,e] at q;cases q) (λz=>SQ.2.2.1 o u (by rw[<-z];exact q))];exact q
 .rw[Yb b (λz=>by rw[z,e] at q;cases q) (λz=>SQ.2.2.2 ps (by rw[<-z];exact q)),q];simp
 .obtain⟨o,es,ep,q,r⟩:=hm;exact⟨o,es,ep,k _ o (na _ I.free) (nd _ o q I.free) q,r⟩
 .by_cases h2:b=dx
  .subst h2;rw[af] at q;cases q;exact n2
  .rw[az h2] at q;by_cases h1:b=a
   .subst h1;rw[af] at q;cases q;exact n1
   .rw[az h1] at q;refine(I.bT b u q).Bj (λc v hc q' =>k c v ?_ ?_ q') (λc q' => ?_) λc ys q' => ?_
    .rcases hc with z|z
     .rw[z];exact h1
     .exact λz' =>by rw[z',e] at z;cases z
    .rcases hc with z|z
     .rw[z];exact h2
     .exact λz' =>SQ.2.1 b (by rw[<-z'];exact z)
    .rw[Yb c (λz=>by rw[z,e] at q';cases q') (λz=>SQ.2.1 b (by rw[<-z];exact q'))];exact q'
    .rw[Yb c (λz=>by rw[z,e] at q';cases q') (λz=>SQ.1 ys (by rw[<-z];exact q'))];exact q'
theorem Ko{fs:ji}{mA:Str->aO}(r:∀f,m4 (fs.lookup f) (mA f))(ry:RelV y u):∀g,m4 ((je f y fs).lookup g) (if g=f then some u else mA g):=λg=>by
 rw[rq];by_cases h:g=f
 .rw[aB h,aB h];exact ry
 .rw[ax h,ax h];exact r g
theorem Ie{Q:Unit->R'->Prop}(I:Inv X ad σ H s)(e:H a=some (.ext (eW a C none n)))(c:Qu X.K C)(na:eM X.K C f)(ry:RelV y u)
 (h:∀dx s',H dx=none->dx≠a->Inv X ad σ (upd (upd H a (.ext (eW a C (some dx) n))) dx (.xd [(f,y)])) s'->Q () s'):wpAny (model X.prog X.w) A (setAttr (.ref a) f u) Q E s:=by
 obtain⟨nm,q,N,bs,bm,sn,sub,ab,col,dd,k0,k1,k2,k3,k5,lk,hp,ho⟩:=c.obj;obtain⟨vs,he,hv,hn⟩:=pW I.bT e;have hC:=I.jN _ _ lk;have I0:=I;obtain⟨hh,g,d,tk,os⟩:=s;refine CB (mA:=λ_=>none) (ns:=[]) hp ho I.jN c.sa na hC ⟨_,he,Z,(λc z=>by cases z),.inl ⟨Z,λ_=>rfl⟩⟩ (λh' QB inst kk same=> ?_) (λg hg=>by simp at hg) (by simp);obtain⟨o1,e1,ec,ed,es,_,adO⟩:=same _ he;obtain⟨dx,ex,JP⟩:=adO rfl;obtain⟨o2,e2,_,_,hd2⟩:=inst;rw[e1] at e2;cases e2;rcases hd2 with⟨z,_⟩|⟨d',QM,ne',ns'⟩
 .rw[ex] at z;cases z
 rw[ex] at QM;cases QM;have Mv:H dx=none:=I0.bT.fresh JP
 have eo:o1={cls:= .ref C,dict:=some dx,data:= .fields vs}:=by
  obtain⟨oc,od,odt,xM⟩:=o1;simp only at ec ed es ex;subst ec ed es ex;rfl
 rw[eo] at e1;refine h dx _ Mv ne' (I0.two (t' :=QB) e ⟨(λxs z=>by rw[Mv] at z;cases z),(λy z=>by rw[Mv] at z;cases z),(λo u z=>by rw[Mv] at z;cases z),(λps z=>by rw[Mv] at z;cases z)⟩ (λ_=>JP) ne' (λb o hb _ q=>kk b o hb (λo0 dx0 h0 h1=>by rw[he] at h0;cases h0;cases h1) q) ⟨_,e1⟩ (let⟨o,_,_,h1,_⟩:=ns';⟨o,h1⟩) (xk ⟨vs,e1,hv,hn⟩) ⟨_,ns',?_⟩);exact Ko (fs:=[]) (λ_=>trivial) ry
theorem Jm{dx:S'}{fs:ji}{Q:Unit->R'->Prop}(I:Inv X ad σ H s)(e:H a=some (.ext (eW a C (some dx) n)))(ed:H dx=some (.xd fs))(wN:dx≠a)(hl:fs.length<=900)(c:Qu X.K C)(na:eM X.K C f)(ry:RelV y u)
 (h:∀s',Inv X ad σ (upd H dx (.xd (je f y fs))) s'->Q () s'):wpAny (model X.prog X.w) A (setAttr (.ref a) f u) Q E s:=by
 obtain⟨nm,q,N,bs,bm,sn,sub,ab,col,dd,k0,k1,k2,k3,k5,lk,hp,ho⟩:=c.obj;obtain⟨vs,he,hv,hn⟩:=pW I.bT e;obtain⟨mA,ns,r⟩:=(show cu X.prog X.w H s.heap dx (.xd fs) from I.bT dx _ ed);have hC:=I.jN _ _ lk;have I0:=I;obtain⟨hh,g,d,tk,os⟩:=s;refine CB (mA:=mA) (ns:=fs.map (·.1)) hp ho I.jN c.sa na hC ⟨_,he,Z,(λc z=>by cases z),.inr ⟨dx,Z,wN,ns⟩⟩ (λh' QB inst kk same=> ?_) (Jn r) (by rw[a6];lia);obtain⟨o1,e1,ec,edt,es,adK,_⟩:=same _ he;have ex:=adK dx rfl;obtain⟨o2,e2,_,_,hd2⟩:=inst;rw[e1] at e2;cases e2;rcases hd2 with⟨z,_⟩|⟨d',QM,ne',ns'⟩
 .rw[ex] at z;cases z
 rw[ex] at QM;cases QM
 have eo:o1={cls:= .ref C,dict:=some dx,data:= .fields vs}:=by
  obtain⟨oc,od,odt,xM⟩:=o1;simp only at ec edt es ex;subst ec edt es ex;rfl
 rw[eo] at e1;have I2:=I0.two (t' :=QB) (o1:= .ext (eW a C (some dx) n)) (o2:= .xd (je f y fs)) e ⟨(λxs z=>by rw[ed] at z;cases z),(λy z=>by rw[ed] at z;cases z),(λo u z=>by rw[ed] at z;cases z),(λps z=>by rw[ed] at z;cases z)⟩ (λz=>by rw[ed] at z;cases z) wN (λb o hb uP q=>kk b o hb (λo0 dx0 h0 h1=>by rw[he] at h0;cases h0;cases h1;exact uP) q) ⟨_,e1⟩ (let⟨o,_,_,h1,_⟩:=ns';⟨o,h1⟩) (xk ⟨vs,e1,hv,hn⟩) ⟨_,ns',Ko r ry⟩;rw[AR e] at I2;exact h _ I2
end
section
variable{X:Cx}{o value:V'}{f:Str}{pos pos' :Pos}{ta tv:TE}
def YI(K:Frag)(ta tv:TE)(f:Str):TS:=λD σ H=>tv σ H λy H1=>ta σ H1 λx H2=>∃a C n,x= .ref a/\Qu K C/\eM K C f/\
 ((H2 a=some (.ext (eW a C none n))/\∀dx,H2 dx=none->dx≠a->D.nx σ (upd (upd H2 a (.ext (eW a C (some dx) n))) dx (.xd [(f,y)])))\/
  ∃dx fs,H2 a=some (.ext (eW a C (some dx) n))/\H2 dx=some (.xd fs)/\dx≠a/\fs.length<=900/\D.nx σ (upd H2 dx (.xd (je f y fs))))
theorem oM(ha:PE X o ta)(hv:PE X value tv)(hs:swapsWith value (some (.Attribute o f pos')) pos.line X.env=pure false):PS X (.Assign [.Attribute o f pos'] value pos) (YI X.K ta tv f):=by
 intro ad s σ H D I h;refine plainObj_wpAny_Assign_Attribute (di (hv ad s σ H _ I h) λu s1 ⟨y,H1,I1,ry,q⟩=>di (ha ad s1 σ H1 _ I1 q) λov s2 ⟨x,H2,I2,rx,a,C,n,ex,c,na,q2⟩=> ?_) hs;subst ex;obtain rfl:ov=Value.ref a:=rx;rcases q2 with⟨e,q3⟩|⟨dx,fs,e,ed,ne,hl,q3⟩
 .exact Ie I2 e c na ry λdx s3 hn ne I3=>⟨σ,_,I3,q3 dx hn ne⟩
 .exact Jm I2 e ed ne hl c na ry λs3 I3=>⟨σ,_,I3,q3⟩
end
end L2
namespace L2
open PySem PySem.Spec PyProof.Rows PySem.Builtin.ObjectAttr
section
variable{prog:Z'}{w:W'}{A:X'}{E:J'}{s:R'}{K:Frag}{x C:S'}{ox:Obj}{od:Option Obj}{name:Str}{expr:Bool}{Q:J'}{v:M'}
theorem GS(X:K.In s.heap)(I:PySem.W.InstAt s.heap x ox C od)(hga:PySem.W.findIn K (.ref C) "__getattribute__"=some (some (.builtin "BaseException.__getattribute__")))(hhk:PySem.W.findIn K (.ref C) "__getattr__"=some none)
 (hm:PySem.W.mroIn K C (.type "BaseException")=some true) (hf:PySem.W.findObj K C od name=some (.value v)) (hh:handedIn v=true) (h:Q v {s with toks:=s.toks+1}):
 wpAny (model prog w) A (getAttr (.ref x) name expr) Q E s:=by
 have ht:=I.type (M:=model prog w);refine aw (wpAny_mkText (kh (aw (ht _ _ _ _ (λ_ _ e=>e) (aw (looks_findIn X hga _ _ _ _ (λ_ _ e=>e) ?_))))));dsimp only;rw[show(onTheHeap (Value.ref C)&&Value.builtin "BaseException.__getattribute__" ==Value.builtin "object.__getattribute__")=false from by rw[show(Value.builtin "BaseException.__getattribute__" ==Value.builtin "object.__getattribute__")=false from by decide+kernel,Bool.and_false],ax (by decide)];have hb:PySem.W.Looks (model prog w) s.heap (hookBefore (.ref C)) none:=PySem.W.looks_hook X (by show(if onTheHeap (Value.ref C)=true then _ else _)=_;exact hhk);refine aw (hb _ _ _ _ (λ_ _ e=>e) (aw (wpAny_attempt (kh ?_))));unfold callGetattribute;rw[show(expr&&onTheHeap (Value.builtin "BaseException.__getattribute__"))=false from Bool.and_false _,ax (by decide)];unfold boundAndCalled;rw[PySem.F.attr_ValueError.ga.bind];refine aw (aY ?_);show wpAny _ _ (call (.builtin "BaseException.__getattribute__") [.ref x,.str name s.toks]) _ _ _;refine og ?_;refine Fe PySem.F.attr_ValueError.ga.plain PySem.F.entry_bexc_ga ?_;refine @PySem.W.check_slot (model prog w) _ _ {s with toks:=s.toks+1} "BaseException.__getattribute__" "BaseException" "__getattribute__" (.ref x) [.str name s.toks] [] _ (by decide+kernel) (by decide+kernel) (ht.andThen (PySem.W.looks_mroIn X hm)) (PySem.F.args_bexc_ga (.ref x) (.str name s.toks)) ?_;unfold Builtin.«object.__getattribute__»;refine aw (aY ?_);refine aw (aY ?_);refine aw (ht _ _ _ _ (λ_ _ e=>e) ?_);refine aw (PySem.W.looks_find X I hf _ _ _ _ (λ_ _ e=>e) ?_);refine aY ?_;show wpAny _ _ (handedOut v) _ _ _;rw[PySem.W.handedOut_of hh];exact aY h
end
structure ExcG(K:Frag)(C:S'):Prop where
 ga:PySem.W.findIn K (.ref C) "__getattribute__"=some (some (.builtin "BaseException.__getattribute__"))
 hk:PySem.W.findIn K (.ref C) "__getattr__"=some none
 mro:PySem.W.mroIn K C (.type "BaseException")=some true
 hd:PySem.W.hasDictIn K C=true
section
variable{X:Cx}{e:V'}{f:Str}{pos:Pos}{ta:TE}
theorem KY{ad:aQ}{σ:St}{H:Hp}{s:R'}{a C dx:S'}{n b:Bool}{fs:ji}{v:V}{A:X'}{E:J'}{Q:J'}(I:Inv X ad σ H s)(e:H a=some (.ext (eW a C (some dx) n)))(ed:H dx=some (.xd fs))
 (c:ExcG X.K C) (na:eM X.K C f) (l:fs.lookup f=some v) (h:∀u s',Inv X ad σ H s'->RelV v u->Q u s'):wpAny (model X.prog X.w) A (getAttr (.ref a) f b) Q E s:=by
 obtain⟨vs,he,_,_⟩:=pW I.bT e;obtain⟨mA,ns,r⟩:=(show cu X.prog X.w H s.heap dx (.xd fs) from I.bT dx _ ed);obtain⟨od,ho,hl⟩:=Cu ns;obtain⟨u,hu,ru⟩:=m4.some_of (v:=v) (o:=mA f) (by rw[<-l];exact r f);exact GS I.jN ⟨he,Z,Z,ho⟩ c.ga c.hk c.mro (findObj_own c.hd na Z (by rw[hl,hu])) (Dh ru) (h u _ (I.tok _) ru)
def Tv(K:Frag)(ta:TE)(f:Str):TE:=λσ H Q=>ta σ H λx H1=>∃a C dx n fs v,x= .ref a/\H1 a=some (.ext (eW a C (some dx) n))/\H1 dx=some (.xd fs)/\ExcG K C/\eM K C f/\fs.lookup f=some v/\Q v H1
theorem QD(he:PE X e ta)(hb:attributeBase e f X.env (eval e X.env)=eval e X.env):PE X (.Attribute e f pos) (Tv X.K ta f):=by
 intro ad s σ H Q I h;refine Kk hb (di (he ad s σ H _ I h) ?_)
 rintro u s1 ⟨x,H1,I1,rx,a,C,dx,n,fs,v,ex,ea,ed,c,na,l,q⟩
 subst ex;obtain rfl:u=Value.ref a:=rx;exact KY I1 ea ed c na l λu' s2 I2 ru=>⟨v,H1,I2,ru,q⟩
end
def Dg(P:Z')(w:W'):uo:=λouter H s E e s' =>∃(a C:S') (dd:Option S') (T:S') (oe:Obj) (H' :Hp),e= .ref a/\s'.os=s.os/\AllBare s'.gens/\Un (Ct outer) [] H H' s.heap s'.heap/\pG P w H' s'.heap/\
 H' a=some (.ext (eW a C dd false))/\LZ s'.heap a T oe/\H' T=none/\s.heap.objs.size<=T/\E (.ref C) dd H'
def GB(X:Cx)(ad:aQ)(H:Hp)(h:Y')(a:S'):Prop:=(∃oe vs,h.get? a=some oe/\oe.data= .fields vs/\vs[1]? =some .none)\/∃T oe,LZ h a T oe/\H T=none/\X.fO.heap.objs.size<=T/\∀p∈X.pn++ad,p.1≠T
section
variable{X:Cx}{ad:aQ}{σ:St}{H:Hp}{s:R'}{a C:S'}{dd:Option S'}{n:Bool}{E:XK}
theorem CD(I:Inv X ad σ H s)(tQ:X.stack=X.env::X.outer)(vj:X.env.frame=some X.env.locals)(hex:X.ex=[])(e:H a=some (.ext (eW a C dd n)))(fl:GB X ad H s.heap a)(q:E (.ref C) dd (upd H a (.ext (eW a C dd false)))){Ex:J'}:
 wpAny (model X.prog X.w) X.A (leaving X.env (.ref a)) (λ_ Oc =>Dg X.prog X.w X.outer X.H₀ X.fO E (.ref a) Oc) Ex s:=by
 obtain⟨vs,he,hv,hn⟩:=pW I.bT e;have J4:X.A.frames=some (X.env::X.outer):=by rw[<-tQ];exact I.ok.frames
 have hl:s.heap.FunFrames X.base (X.env::X.outer):=by rw[<-tQ];exact I.stack
 have Ec:∀b∈(X.env::X.outer).filterMap (·.frame),H b=none:=λb hb=>I.vz b (by rw[tQ];exact hb)
 have mem:∀b,b∈(X.env::X.outer).filterMap (·.frame)->b=X.env.locals\/b∈X.fs:=λb hb=>by
  rw[oo,vj] at hb;rcases aP.mp hb with z|z
  .exact .inl z
  .exact .inr z
 have fin:∀(h' :Y') (T T' :S'),(X.fO.heap.objs.size<=T\/T=a)->(H T=none\/T=a)->s.heap.objs.size<=T'->LZ h' a T' (({cls:= .ref C,dict:=dd,data:= .fields vs}:Obj).mapFields (·.setIfInBounds 1 (.ref T')))->
  (∀b o,b≠a->b≠T->b∉(X.env::X.outer).filterMap (·.frame)->s.heap.get? b=some o->h'.get? b=some o)->(∀b o,b≠a->b≠T->s.heap.get? b=some o->∃sl,h'.get? b=some {o with slots:=sl})->
  Dg X.prog X.w X.outer X.H₀ X.fO E (.ref a) {s with heap:=h'}:=by
  intro h' T T' hT1 hT2 L1 f k1 k2;have abq:H T' =none:=I.bT.fresh L1;have Hk :∀b,H b=none->b≠a:=λb z z' =>by rw[z',e] at z;cases z
  have old:∀b o,X.fO.heap.get? b=some o->b≠T\/T=a:=λb o z=>by
   rcases hT1 with y|y
   .exact .inl λz' =>absurd (cQ (a_ z) (by rw[z'];exact y)) (cA _)
   .exact .inr y
  refine⟨a,C,dd,T',_,upd H a (.ext (eW a C dd false)),Z,I.os,I.bare,⟨λb o z z0 hb _=> ?_,λb o z z0 hb _=> ?_,λb o z z0 _=> ?_,λb o z _=> ?_,λb xs z=> ?_,λb o u z=> ?_,λb ps z=> ?_⟩,λb u z=> ?_,af,f,?_,aU I.sz L1,q⟩
  .have hx:b∉X.ex:=by rw[hex];simp
   have g:=I.base.keep b o z z0 hb hx;have g0:=I.base.free b o z z0 hx;refine k1 b o (Hk b g0) ?_ (λhm=> ?_) g
   .rcases old b o z with y|y
    .exact y
    .rw[y];exact Hk b g0
   .rcases mem b hm with y|y
    .exact absurd (cQ (a_ z) (by rw[y];exact I.ok.above)) (cA _)
    .exact hb y
  .have hx:b∉X.ex:=by rw[hex];simp
   obtain⟨sl,g⟩:=I.base.slot b o z z0 hb hx;have g0:=I.base.free b o z z0 hx
   obtain⟨sl',g'⟩:=k2 b _ (Hk b g0) (by
    rcases old b o z with y|y
    .exact y
    .rw[y];exact Hk b g0) g
   exact⟨sl',g'⟩
  .have hx:b∉X.ex:=by rw[hex];simp
   have g0:=I.base.free b o z z0 hx;rw[az (Hk b g0)];exact g0
  .have hx:b∉X.ex:=by rw[hex];simp
   obtain⟨o',g⟩:=I.base.there b o z hx;by_cases QT:b=a
   .rw[QT];exact⟨_,f.at_⟩
   .by_cases Je:b=T
    .rcases old b o z with y|y
     .exact absurd Je y
     .exact absurd (Je.trans y) QT
    .obtain⟨sl,g'⟩:=k2 b o' QT Je g;exact⟨_,g'⟩
  .have g:=I.base.Cn b xs z;rw[az (λy=>by rw[y,e] at g;cases g)];exact g
  .have g:=I.base.Ax b o u z;rw[az (λy=>by rw[y,e] at g;cases g)];exact g
  .obtain⟨more,g⟩:=I.base.A9 b ps z;refine⟨more,?_⟩;rw[az (λy=>by rw[y,e] at g;cases g)];exact g
  .by_cases hb:b=a
   .subst hb;rw[af] at z;cases z;exact xk ⟨_,f.at_,by simp[hv],λy=>nomatch y⟩
   .rw[az hb] at z;have Mo:∀c u',H c=some u'->c∉(X.env::X.outer).filterMap (·.frame):=λc u' y hm=>by rw[Ec c hm] at y;cases y
    have Nw:∀c u',c≠a->H c=some u'->c≠T:=λc u' ya y y' =>by
     rcases hT2 with t|t
     .rw[y',t] at y;cases y
     .exact ya (y'.trans t)
    refine(I.bT b u z).Bj (λc v hc y=> ?_) (λc y=> ?_) λc ys y=> ?_
    .rcases hc with y' |y'
     .subst y';exact k1 c v hb (Nw c u hb z) (Mo c u z) y
     .have Za:c≠a:=λw' =>by rw[w',e] at y';cases y'
      exact k1 c v Za (Nw c _ Za y') (Mo c _ y') y
    .rw[az (λw' =>by rw[w',e] at y;cases y)];exact y
    .rw[az (λw' =>by rw[w',e] at y;cases y)];exact y
  .rw[az (Hk _ abq)];exact abq
 rcases fl with⟨oe,vs',h1,h2,h3⟩|⟨T,oe,f,hT0,hT,_⟩
 .rw[he] at h1;cases h1;cases h2;refine GR (base:=X.base) J4 hl vj he Z h3 λh' T' L1 f k1 k2=>fin h' a T' (.inr Z) (.inr Z) L1 f (λb o hb _ hf g=>k1 b o hb hf g) (λb o hb _ g=>k2 b o hb g)
 .have XX:oe={cls:= .ref C,dict:=dd,data:= .fields vs}:=by
   have:=f.at_;rw[he] at this;cases this;rfl
  subst XX;refine Jc (base:=X.base) J4 hl vj f λh' T' L1 f' k1 k2=>fin h' T T' (.inl hT) (.inl hT0) L1 f' k1 k2
theorem KC{e:M'}{s' :R'}(I:Inv X ad σ H s)(h:Dg X.prog X.w X.stack H s E e s'):∃(a C:S') (dd:Option S') (H' :Hp),e= .ref a/\Inv X ad σ H' s'/\H' a=some (.ext (eW a C dd false))/\GB X ad H' s'.heap a/\E (.ref C) dd H' :=by
 obtain⟨a,C,dd,T,oe,H',rfl,os,bare,un,bT,ea,f,hT,Yi,q⟩:=h;exact⟨a,C,dd,H',Z,I.RY os un bT bare (λb z=>absurd z (by simp)),ea,.inr ⟨T,oe,f,hT,aU I.sz Yi,λp hp z=>absurd (cQ (a_ (I.pin p hp).1) (by rw[z];exact Yi)) (cA _)⟩,q⟩
end
section
variable{M:Model}{A:X'}{E:J'}{env:Env}
variable{nm q:Str}{C N:S'}{bs bm:aF}{jf:Bool}{sn:au}{sub:aF}{ab:Bool}{col:Option Bool}{dd:Option S'}{k0 k1 k2 k3 k5:aO}{newId:String}
theorem nr{s:R'}{x:Sem M'}{Q:Flow->R'->Prop}(hh:A.handled=none)
 (h:wpAny M A x (λv bR=>∃(e C N:S') (de:Option S') (vs:Array M') (nm q:Str) (bs bm:aF) (jf:Bool) (sn:au) (sub:aF) (ab:Bool) (col:Option Bool) (dd:Option S') (k0 k1 k2 k3 k5:aO),v= .ref e/\bR.heap.get? C=some (excClassObj nm q C N bs bm jf sn sub ab col dd k0 k1 k2 k3 k5 "ValueError.__new__")/\bm.contains (.type "BaseException")=true/\
  bR.heap.get? e=some {cls:= .ref C,dict:=de,data:= .fields vs}/\vs[1]? =some .none/\E (.ref e) bR) E s):
 wpAny M A (raiseStmt env (some x) none) Q E s:=by
 unfold raiseStmt;refine aw (fW h (λv bR h₁=> ?_) λ_ _ x=>x);obtain⟨e,C,N,de,vs,nm,q,bs,bm,jf,sn,sub,ab,col,dd,k0,k1,k2,k3,k5,rfl,hC,Bg,he,h1,hE⟩:=h₁;have Q4:(Value.ref C::bm).contains (.type "BaseException")=true:=by rw[pK,Bg,rX]
 obtain⟨hp,g,d,tk,os⟩:=bR
 repeat (first|with_reducible refine jo he ?_|with_reducible refine cZ he rfl h1 ?_|with_reducible refine jo hC ?_|(with_reducible refine pT hC ?_;rw[Q4])|wp_step)
 exact wpAny_raiseNew_none hh hE
end
section
variable{X:Cx}{e:V'}{pos:Pos}{t:TE}{E:XK}
def Of(K:Frag)(E:XK)(t:TE):TS:=λ_ σ H=>t σ H λv H1=>∃a C dd,v= .ref a/\H1 a=some (.ext (eW a C dd true))/\ExcC K C/\E (.ref C) dd (upd H1 a (.ext (eW a C dd false)))
def CT(X:Cx)(E:XK):Prop:=∀(ad:aQ) (σ:St) (H:Hp) (s:R') (a C:S') (dd:Option S') (n:Bool),Inv X ad σ H s->H a=some (.ext (eW a C dd n))->GB X ad H s.heap a->E (.ref C) dd (upd H a (.ext (eW a C dd false)))->X.xe (.ref a) s
theorem jT(hc:X.calm=true)(hw:CT X E)(he:PE X e t):PS X (.Raise (some e) none pos) (Of X.K E t):=by
 intro ad s σ H D I h;rw[arm_exec_Raise]
 have key:wpAny (model X.prog X.w) X.A (do let v<-eval e X.env;standAt pos;pure v) (λv bR=>∃(e C N:S') (de:Option S') (vs:Array M') (nm q:Str) (bs bm:aF) (jf:Bool) (sn:au) (sub:aF) (ab:Bool) (col:Option Bool) (dd:Option S') (k0 k1 k2 k3 k5:aO),v= .ref e/\bR.heap.get? C=some (excClassObj nm q C N bs bm jf sn sub ab col dd k0 k1 k2 k3 k5 "ValueError.__new__")/\bm.contains (.type "BaseException")=true/\
  bR.heap.get? e=some {cls:= .ref C,dict:=de,data:= .fields vs}/\vs[1]? =some .none/\X.xe (.ref e) bR) X.xe s:=by
  refine aw (di (he ad s σ H _ I h) ?_)
  rintro u s1 ⟨v,H1,I1,r1,a,C,dd,ev,ea,c,q⟩
  subst ev;obtain rfl:u=Value.ref a:=r1;refine aw (qZ (aY ?_));obtain⟨nm,q',N,bs,bm,jf,sn,sub,ab,col,XT,k0,k1,k2,k3,k5,lk,T⟩:=c.obj;obtain⟨vs,hea,hv,hn⟩:=pW I1.bT ea;exact⟨a,C,N,dd,vs,nm,q',bs,bm,jf,sn,sub,ab,col,XT,k0,k1,k2,k3,k5,Z,I1.jN _ _ lk,T.hasBase,hea,hn Z,hw ad σ H1 s1 a C dd true I1 ea (.inl ⟨_,vs,hea,Z,hn Z⟩) q⟩
 first
  |exact aw (qZ (nr (I.ok.hd hc) key))
  |(simp only[evalOpt,Option.map];exact aw (qZ (nr (I.ok.hd hc) key)))
  |(show wpAny _ _ (do standAt pos;raiseStmt X.env (some (do let v<-eval e X.env;standAt pos;pure v)) none) _ _ s;exact aw (qZ (nr (I.ok.hd hc) key)))
theorem jy(hw:CT X E)(tQ:True):wf (Dg X.prog X.w) X E:=by
 intro ad σ H s e s' I h;obtain⟨a,C,dd,H',rfl,I',ea,fl,q⟩:=KC I h;refine hw ad σ H' s' a C dd false I' ea fl ?_;rw[AR ea];exact q
end
theorem dR{P:Z'}{w:W'}{K:Frag}{mg:Str->aO}{base:Y'}{N:au}{qual:Str}{scope:Scope}{f:S'}{cd:M'}{A:X'}{outer:List Env}{s:R'}{H:Hp}{E:XK}
 (vj:(envOfC qual scope s.heap.objs.size f cd).frame=some s.heap.objs.size:=by rfl):CT (ny (Dg P w) P w K mg base N qual scope f cd A outer s H E) E:=by
 intro ad σ H1 s1 a C dd n I ea fl q;exact CD I Z vj Z ea fl q
section
variable{M:Model}{A:X'}{E:J'}{s:R'}
theorem HX{base:Y'}{env:Env}{outer:List Env}{L e:S'}{oe:Obj}{vs:Array M'}{Q:Unit->R'->Prop}
 (vj:A.frames=some (env::outer)) (hl:s.heap.FunFrames base (env::outer)) (hf:env.frame=some L)
 (he:s.heap.get? e=some oe) (hd:oe.data= .fields vs) (h1:vs[1]? =some .none)
 (h:∀h' T,s.heap.objs.size<=T->LZ h' e T (oe.mapFields (·.setIfInBounds 1 (.ref T)))->(∀b o,b≠e->b∉(env::outer).filterMap (·.frame)->s.heap.get? b=some o->h'.get? b=some o)->
  (∀b o,b≠e->s.heap.get? b=some o->∃sl,h'.get? b=some {o with slots:=sl})->Q () {s with heap:=h'}):wpAny M A (noteFrame (.ref e) env) (λ_ s' =>wpAny M A (setFlight (.ref e) none) Q E s') E s:=by
 unfold noteFrame;simp only[hf];refine aw (cZ he hd h1 ?_);rw[ax (by decide)];exact sf vj hl hf he hd (uL.mp h1).1 h
theorem Lu{base:Y'}{env:Env}{outer:List Env}{L e T:S'}{oe:Obj}{Q:Unit->R'->Prop}
 (vj:A.frames=some (env::outer)) (hl:s.heap.FunFrames base (env::outer)) (hf:env.frame=some L) (ht:LZ s.heap e T oe)
 (h:∀h' T',s.heap.objs.size<=T'->LZ h' e T' (oe.mapFields (·.setIfInBounds 1 (.ref T')))->(∀b o,b≠e->b≠T->b∉(env::outer).filterMap (·.frame)->s.heap.get? b=some o->h'.get? b=some o)->
  (∀b o,b≠e->b≠T->s.heap.get? b=some o->∃sl,h'.get? b=some {o with slots:=sl})->Q () {s with heap:=h'}):wpAny M A (noteFrame (.ref e) env) (λ_ s' =>wpAny M A (setFlight (.ref e) none) Q E s') E s:=by
 obtain⟨he,⟨vs,hd,h1⟩,Xs,oT,ts,hT,mH,h3⟩:=ht;unfold noteFrame;simp only[hf];refine aw (cZ he hd h1 ?_);rw[aB (show(Value.ref T !=Value.none)=true from by simp)];refine aw (cZ hT mH h3 ?_);rw[ax (show ¬((Value.none==rawInt L)=true) from by simp[rawInt])];refine aw (uw hT mH (uL.mp h3).1 ?_);have other:∀b,b≠T->(s.heap.update T (Obj.mapFields (·.setIfInBounds 3 Value.none))).get? b=s.heap.get? b:=λb hb=>gp _ _ (ck hb)
 have AZ:∀b o,s.heap.get? b=some o->(∀vs,o.data≠.fields vs)->b≠T:=λb o hb Ro q=>by
  rw[q,hT] at hb;injection hb with hb;subst hb;exact Ro ts mH
 refine sf vj (hl.of_keeps λb o hb Ro=>⟨o,(other b (AZ b o hb Ro)).trans hb,Z⟩) hf ((other e (ck Xs)).trans he) hd (uL.mp h1).1
  λh' T' hn fl k1 k2=>h h' T' ?_ fl (λb o E6 Je WO hb=>k1 b o E6 WO ((other b Je).trans hb)) λb o E6 Je hb=>k2 b o E6 ((other b Je).trans hb)
 have KH :(s.heap.update T (Obj.mapFields (·.setIfInBounds 3 Value.none))).objs.size<=T' :=hn;rw[Heap.size_after_update] at KH;exact KH
end
structure MX(X:Cx)(ad:aQ)(H:Hp)(h:Y')(a T:S'):Prop where
 fly:∃oe,LZ h a T oe
 no:H T=none
 young:X.fO.heap.objs.size<=T
 pin:∀p∈X.pn++ad,p.1≠T
section
variable{X:Cx}{ad:aQ}{σ:St}{H:Hp}{s:R'}{a C:S'}{dd:Option S'}{n:Bool}
theorem Inv.US{h' :Y'}{T T' :S'}{vs:Array M'}(I:Inv X ad σ H s)(tQ:X.stack=X.env::X.outer)(vj:X.env.frame=some X.env.locals)(e:H a=some (.ext (eW a C dd n)))(hv:vs.size=6)
 (hT:T=a\/(H T=none/\X.fO.heap.objs.size<=T/\(∀p∈X.pn++ad,p.1≠T)/\∃oT ts,s.heap.get? T=some oT/\oT.data= .fields ts)) (he:h'.get? a=some {cls:= .ref C,dict:=dd,data:= .fields vs})
 (k1:∀b o,b≠a->b≠T->b∉(X.env::X.outer).filterMap (·.frame)->s.heap.get? b=some o->h'.get? b=some o) (k2:∀b o,b≠a->b≠T->s.heap.get? b=some o->∃sl,h'.get? b=some {o with slots:=sl}):
 Inv X ad σ (upd H a (.ext (eW a C dd false))) {s with heap:=h'}:=by
 have Ec:∀b∈(X.env::X.outer).filterMap (·.frame),H b=none:=λb hb=>I.vz b (by rw[tQ];exact hb)
 have mem:∀b,b∈(X.env::X.outer).filterMap (·.frame)->b=X.env.locals\/b∈X.fs:=λb hb=>by
  rw[oo,vj] at hb;rcases aP.mp hb with z|z
  .exact .inl z
  .exact .inr z
 have Hk :∀b,H b=none->b≠a:=λb z z' =>by rw[z',e] at z;cases z
 obtain⟨m0,⟨oL,esL,epL,hL,hdL,rL⟩,_⟩:=id I.loc
 have LT:X.env.locals≠T:=λz=>by
  rcases hT with y|⟨_,_,_,oT,ts,g1,g2⟩
  .exact Hk _ I.free (z.trans y)
  .rw[z,g1] at hL;cases hL;rw[g2] at hdL;cases hdL
 have chT:∀b,b∉(if T=a then[] else[T]:b_)->b≠a->b≠T:=λb hb QT z=>by
  by_cases Yt:T=a
  .exact QT (z.trans Yt)
  .rw[ax Yt] at hb;exact hb (by rw[z];simp)
 refine I.step (g' :=s.gens) (t' :=s.toks) (d' :=s.drawn) (ch:=if T=a then[] else[T]) (λb hb=> ?_) (λb o hbL WO hc q z=>k1 b o (Hk b z) (chT b hc (Hk b z)) (λhm=>(mem b hm).elim hbL WO) q) (λb o _ _ hc q z=>k2 b o (Hk b z) (chT b hc (Hk b z)) q)
  (λb o _ q z=>by rw[az (Hk b z)];exact z) (λb o hc q=> ?_) (λb xs z=> ?_) (λb o u z=> ?_) (λb ps z=>⟨#[],?_⟩) (λm hm=> ?_) (λb u z=> ?_) I.bare
 .by_cases Yt:T=a
  .rw[aB Yt] at hb;cases hb
  .rw[ax Yt] at hb;have hb:b=T:=by simpa using hb
   subst hb;rcases hT with y|⟨g0,g1,g2,oT,ts,g3,g4⟩
   .exact absurd y Yt
   .refine⟨.inr g1,ck LT,λx c q z=> ?_,g2⟩;obtain⟨v,o,ho,hd⟩:=I.cell x c q;rw[z,g3] at ho;cases ho;rw[g4] at hd;cases hd
 .by_cases QT:b=a
  .rw[QT];exact⟨_,he⟩
  .obtain⟨sl,g⟩:=k2 b o QT (chT b hc QT) q;exact⟨_,g⟩
 .rw[az (λy=>by rw[y,e] at z;cases z)];exact z
 .rw[az (λy=>by rw[y,e] at z;cases z)];exact z
 .rw[az (λy=>by rw[y,e] at z;cases z),z];simp
 .obtain⟨o,es,ep,q,hd,r⟩:=hm;obtain⟨sl,g⟩:=k2 _ o (Hk _ I.free) LT q;exact⟨_,es,ep,g,hd,r⟩
 .by_cases hb:b=a
  .subst hb;rw[af] at z;cases z;exact xk ⟨vs,he,hv,λy=>nomatch y⟩
  .rw[az hb] at z;have Mo:∀c u',H c=some u'->c∉(X.env::X.outer).filterMap (·.frame):=λc u' y hm=>by rw[Ec c hm] at y;cases y
   have Nw:∀c u',c≠a->H c=some u'->c≠T:=λc u' ya y y' =>by
    rcases hT with t|⟨t,_⟩
    .exact ya (y'.trans t)
    .rw[y',t] at y;cases y
   refine(I.bT b u z).Bj (λc v hc y=> ?_) (λc y=> ?_) λc ys y=> ?_
   .rcases hc with y' |y'
    .subst y';exact k1 c v hb (Nw c u hb z) (Mo c u z) y
    .have Za:c≠a:=λw' =>by rw[w',e] at y';cases y'
     exact k1 c v Za (Nw c _ Za y') (Mo c _ y') y
   .rw[az (λw' =>by rw[w',e] at y;cases y)];exact y
   .rw[az (λw' =>by rw[w',e] at y;cases y)];exact y
theorem KS{M:Model}{E:J'}{Q:Unit->R'->Prop}(I:Inv X ad σ H s)(tQ:X.stack=X.env::X.outer)(vj:X.env.frame=some X.env.locals)(e:H a=some (.ext (eW a C dd n)))(fl:GB X ad H s.heap a)
 (h:∀s' T,Inv X ad σ (upd H a (.ext (eW a C dd false))) s'->MX X ad (upd H a (.ext (eW a C dd false))) s'.heap a T->Q () s'):
 wpAny M X.A (noteFrame (.ref a) X.env) (λ_ s' =>wpAny M X.A (setFlight (.ref a) none) Q E s') E s:=by
 obtain⟨vs,he,hv,hn⟩:=pW I.bT e;have J4:X.A.frames=some (X.env::X.outer):=by rw[<-tQ];exact I.ok.frames
 have hl:s.heap.FunFrames X.base (X.env::X.outer):=by rw[<-tQ];exact I.stack
 have Hk :∀b,H b=none->b≠a:=λb z z' =>by rw[z',e] at z;cases z
 have hold:∀{h' :Y'} {T' :S'} {oe:Obj},s.heap.objs.size<=T'->LZ h' a T' oe->MX X ad (upd H a (.ext (eW a C dd false))) h' a T' :=λ{h' T' oe} hT f=>
  ⟨⟨oe,f⟩,by rw[az (Hk _ (I.bT.fresh hT))];exact I.bT.fresh hT,aU I.sz hT,λp hp z=>absurd (cQ (a_ (I.pin p hp).1) (by rw[z];exact hT)) (cA _)⟩
 rcases fl with⟨oe,vs',h1,h2,h3⟩|⟨T,oe,f,hT0,hT,hTp⟩
 .rw[he] at h1;cases h1;cases h2;exact HX (base:=X.base) J4 hl vj he Z h3 λh' T' L1 f k1 k2=>h _ T' (I.US (vs:=vs.setIfInBounds 1 (.ref T')) (T:=a) (T' :=T') tQ vj e (by simp[hv]) (.inl Z) f.at_ (λb o hb _ hf g=>k1 b o hb hf g) λb o hb _ g=>k2 b o hb g) (hold L1 f)
 .have XX:oe={cls:= .ref C,dict:=dd,data:= .fields vs}:=by
   have:=f.at_;rw[he] at this;cases this;rfl
  subst XX;obtain⟨oT,ts,g1,g2,_⟩:=f.tr;exact Lu (base:=X.base) J4 hl vj f λh' T' L1 f' k1 k2=>h _ T' (I.US (vs:=vs.setIfInBounds 1 (.ref T')) (T:=T) (T' :=T') tQ vj e (by simp[hv]) (.inr ⟨hT0,hT,hTp,oT,ts,g1,g2⟩) f'.at_ k1 k2) (hold L1 f')
end
section
variable{X:Cx}{ad:aQ}{σ:St}{H:Hp}{s:R'}{a T:S'}
noncomputable abbrev Cx.Bp(X:Cx)(a:S')(E:J'):Cx:={X with A:=X.A.mark (some (.ref a)),calm:=false,xe:=E}
theorem Inv.Bp(I:Inv X ad σ H s)(a:S')(E:J'):Inv (X.Bp a E) ad σ H s:=
 ⟨⟨I.ok.mod,I.ok.kind,I.ok.glob,I.ok.blt,I.ok.above,I.ok.inj,I.ok.has,I.ok.Ui,(λz=>nomatch z),I.ok.frames,I.ok.QS,I.ok.exf,I.ok.bs,I.ok.LN,I.ok.Ho,I.ok.Ln,I.ok.sS,I.ok.Ph⟩,I.os,I.bare,I.base,I.loc,I.cell,I.free,I.jZ,I.pin,I.bT,I.len⟩
theorem Inv.DZ{E:J'}(ok:X.Ok)(I:Inv (X.Bp a E) ad σ H s):Inv X ad σ H s:=⟨ok,I.os,I.bare,I.base,I.loc,I.cell,I.free,I.jZ,I.pin,I.bT,I.len⟩
noncomputable abbrev Cx.pinned(X:Cx)(pn:aQ)(E:J'):Cx:={X with pn:=X.pn++pn,xe:=E}
theorem Inv.Oq(I:Inv X ad σ H s)(E:J'):Inv (X.pinned ad E) [] σ H s:=
 ⟨⟨I.ok.mod,I.ok.kind,I.ok.glob,I.ok.blt,I.ok.above,I.ok.inj,I.ok.has,I.ok.Ui,I.ok.hd,I.ok.frames,I.ok.QS,I.ok.exf,I.ok.bs,I.ok.LN,I.ok.Ho,I.ok.Ln,I.ok.sS,I.ok.Ph⟩,I.os,I.bare,I.base,I.loc,I.cell,I.free,I.jZ,λp hp=>I.pin p (by simpa using hp),I.bT,I.len⟩
theorem Inv.ofPinned{E:J'}{Gm :aQ}(ok:X.Ok)(I:Inv (X.pinned ad E) Gm σ H s):Inv X ad σ H s:=
 ⟨ok,I.os,I.bare,I.base,I.loc,I.cell,I.free,I.jZ,λp hp=>I.pin p (rO _ hp),I.bT,I.len⟩
theorem Inv.PJ{h' :Y'}{t' i:Nat}{x:Str}{u:aO}{m:Str->aO}(I:Inv X ad σ H s)(hN:X.N.Nodup)(hi:X.N[i]? =some x)(hm:s.heap.Ns X.env.locals m)(hn:h'.Ns X.env.locals (λy=>if y=x then u else m y))(sb:Heap.SameBut X.env.locals s.heap h'):
 Inv X ad (σ.set i none) H {s with heap:=h',toks:=t'}:=by
 have old:∀b o,X.fO.heap.get? b=some o->b≠X.env.locals:=λb o q z=>absurd (cQ (a_ q) (by rw[z];exact I.ok.above)) (cA _);have YX:=I.free;refine⟨I.ok,I.os,I.bare,⟨λb o q z hb hx=> ?_,λb o q z hb hx=> ?_,I.base.free,λb o q hx=> ?_,I.base.Cn,I.base.Ax,I.base.A9⟩,⟨_,hn,λj y v e1 e2 e3=> ?_⟩,λy c q=> ?_,I.free,I.jZ,λp hp=> ?_,λb o q=> ?_,?_⟩
 .exact(sb.2 b (old b o q)).trans (I.base.keep b o q z hb hx)
 .obtain⟨sl,g⟩:=I.base.slot b o q z hb hx;exact⟨sl,(sb.2 b (old b o q)).trans g⟩
 .obtain⟨o',g⟩:=I.base.there b o q hx;exact⟨o',(sb.2 b (old b o q)).trans g⟩
 .have hj:j≠i:=λz=>by
   subst z;by_cases hl:j<σ.length
   .rw[EC hl] at e2;cases e2
   .rw[nz (by rw[Eh];lia)] at e2;cases e2
  rw[zA (ck hj)] at e2;obtain⟨m0,hm0,hl⟩:=I.loc;obtain⟨w',MA,lk⟩:=hl j y v e1 e2 e3
  have hyx:y≠x:=λz=>by
   subst z;have h1:=(c9.mp e1).1;exact hj ((List.getElem?_inj h1 hN).mp (e1.trans hi.symm))
  refine⟨w',MA,?_⟩;rcases lk with⟨k1,k2⟩|⟨k1,c,k2,k3⟩
  .refine .inl ⟨k1,?_⟩;dsimp only;rw[ax hyx,show m=m0 from(Heap.Ns.eq_nsMap hm).trans (Heap.Ns.eq_nsMap hm0).symm];exact k2
  .refine .inr ⟨k1,c,k2,?_⟩;obtain⟨o,g1,g2⟩:=k3;exact⟨o,(sb.2 c (I.O8 y c k2)).trans g1,g2⟩
 .obtain⟨v,o,g1,g2⟩:=I.cell y c q;exact⟨v,o,(sb.2 c (I.O8 y c q)).trans g1,g2⟩
 .obtain⟨g1,g2,g3,g4⟩:=I.pin p hp;exact⟨(sb.2 p.1 g3).trans g1,g2,g3,g4⟩
 .refine(I.bT b o q).Bj (λc v hc g=>(sb.2 c ?_).trans g) (λ_ g=>g) λ_ _ g=>g;rcases hc with z|z
  .rw[z];exact λz' =>by rw[z',YX] at q;cases q
  .exact λz' =>by rw[z',YX] at z;cases z
 .rw[Eh];exact I.len
theorem Lo{M:Model}{A:X'}{E:J'}{Q:Unit->R'->Prop}(I:Inv X ad σ H s)(hd:MX X ad H s.heap a T)(h:∀s',Inv X ad σ H s'->MX X ad H s'.heap a T->Q () s'):
 wpAny M A (setFlight (.ref a) none) Q E s:=by
 obtain⟨⟨oe,he,⟨vs,hdv,h1⟩,ne,oT,ts,hT,mH,h3⟩,h0,hy,hp⟩:=hd;have qe:3<ts.size:=(uL.mp h3).1;refine wpAny_setFlight_none he hdv h1 hT mH qe ?_;obtain⟨m0,⟨oL,esL,epL,hL,hdL,rL⟩,_⟩:=id I.loc;have LT:T≠X.env.locals:=λz=>by rw[<-z,hT] at hL;cases hL;rw[mH] at hdL;cases hdL
 have I1:Inv X ad σ H {s with heap:=s.heap.update T (Obj.mapFields (·.setIfInBounds 3 .none))}:=I.turned (t' :=s.toks) (λb o hb q=>by rw[gp _ _ (ck hb)];exact q) h0 LT (.inr hy)
  (λx c q z=>by obtain⟨v,o,ho,hd⟩:=I.cell x c q;rw[z,hT] at ho;cases ho;rw[mH] at hd;cases hd) hp
 refine h _ I1 ⟨⟨oe,by show(s.heap.update T _).get? a=_;rw[gp _ _ ne];exact he,⟨vs,hdv,h1⟩,ne,_,_,ma _ hT (zj (uA mH _)),uA mH _,by simp[qe]⟩,h0,hy,hp⟩
end
section
variable{M:Model}{A:X'}{E:J'}
end
structure Under(K:Frag)(C D:S'):Prop where
 ex:∃nm q N bs bm jf sn sub ab col dd k0 k1 k2 k3 k5 i,K.lookup C=some (excClassObj nm q C N bs bm jf sn sub ab col dd k0 k1 k2 k3 k5 i)/\(Value.ref C::bm).contains (.ref D)=true
section
variable{X:Cx}{body FD:List Stmt}{b0:Stmt}{rest:List ExceptHandler}{c nm:Str}{cp Ff pos:Pos}{tb:XK->TS}{th:TS}{i:Nat}{D:S'}
noncomputable def HN(i:Nat)(D:Ends):Ends where
 nx:=λσ H=>D.nx (σ.set i none) H
 rt:=D.rt
 bk:=λσ H=>D.bk (σ.set i none) H
 ct:=λσ H=>D.ct (σ.set i none) H
end
section
variable{P:Z'}{w:W'}{K:Frag}{mg:Str->aO}{base:Y'}
theorem Ga.okX{x qual:Str}{st:Stmt}{f:S'}{fd:aad}{N ps:au}{k:Nat}{sp:Sp}(F:Ga K x qual st f fd)(S:aJ N ps (av st))(len:∀vs H Q E,sp vs H Q E->vs.length=ps.length)
 (ja:∀(cB:M') (A:X') (outer:List Env) (s:R') (H:Hp) (vs:ak) (Q:VK) (E:XK),dW k (A.deeper (envOfC qual (av st) s.heap.objs.size f cB))->sp vs H Q E->
  ∃t,CG (ny (Dg P w) P w K mg base N qual (av st) f cB A outer s H E) (dN st) t/\t {nx:=λ_ H' =>Q .bp H',rt:=Q} (start N vs) H):aT P w K mg base (Dg P w) (k+1) f fd ps sp:=by
 obtain⟨oc,od,kV,doc,pm,an,cB,ct,xM,rfl,lk,Av⟩:=F.ex;exact J8 lk Av S len λA outer s H vs Q E hr DG=>ja cB A outer s H vs Q E hr DG
end
variable{X:Cx}
theorem CI:∀{xs:au} {us:aF},Vals (xs.map V.str) us->∃l:List (Str×Tok),us=strValues l/\l.map (·.1)=xs
 |[],_,.nil=>⟨[],Z,Z⟩
 |x::xs,_,.cons ⟨t,e⟩ r=>by
  obtain⟨l,rfl,rfl⟩:=CI r;subst e;exact⟨(x,t)::l,Z,Z⟩
theorem Ql:MtM X "str.join" (λx vs H Q=>∃a b xs,x= .str a/\vs=[.ref b]/\H b=some (.lst (xs.map V.str))/\JoinOk a xs=true/\Q (.str (Txt.join a xs)) H):=by
 intro ad s σ H x vs v us Q I rx rv h;obtain⟨a,b,xs,rfl,rfl,hb,hj,q⟩:=h;obtain⟨t,rfl⟩:=rx;obtain⟨u,rfl,ru⟩:=rv.one;cases ru;obtain⟨z,its,n,r,hl,e⟩:=I.HV hb;obtain⟨l,rfl,rfl⟩:=CI r;exact SC.join (x:=a) (D:=b) (l:=l) ⟨_,e,Z,_,Z⟩ Z hj λt' k=>⟨.str _,H,I.tok k,⟨t',Z⟩,q⟩
end L2
namespace My
open PySem PySem.NumText PyProof.Rows L2
end My
namespace L2
open PySem PySem.Spec PySem.SeqAt PyProof.Rows
variable{X:Cx}
theorem Hq:n5 X (binaryOp .Mult) (λx y H Q=>∃z n,x= .str z/\y= .int n/\MulOk z n/\Q (.str (Txt.mul z n)) H):=by
 intro ad s σ H x y v u Q I rx ry h;obtain⟨z,n,rfl,rfl,ok,q⟩:=h;obtain⟨t,rfl⟩:=rx;obtain⟨t',rfl⟩:=ry;exact SB.mul ok λt' k=>⟨.str _,H,I.tok k,⟨t',Z⟩,q⟩
section
variable{X:Cx}{e:V'}{f:Str}{pos:Pos}{ta:TE}{K:Frag}
theorem jU(hK:X.K=K)(he:PE X e ta)(hb:attributeBase e f X.env (eval e X.env)=eval e X.env):PE X (.Attribute e f pos) (Tv K ta f):=by
 subst hK;exact QD he hb
end
section
variable{X:Cx}{e:V'}{es:b8}{st:Stmt}{sts:List Stmt}{te:TE}{ta:TA}{t u:TS}
structure O_(X:Cx)(es:b8)(t:TA):Prop where
 h:PA X es t
structure CW(X:Cx)(e:V')(t:TE):Prop where
 h:PE X e t
structure VY(X:Cx)(st:Stmt)(t:TS):Prop where
 h:PS X st t
structure DY(X:Cx)(sts:List Stmt)(t:TS):Prop where
 h:CG X sts t
theorem ao:O_ X [] sQ:=⟨dY⟩
theorem gq(hs:∀(es:b8) (env:Env),starEach (e::es) env=(false,eval e env)::starEach es env)(ha:PE X e te)(hr:O_ X es ta):O_ X (e::es) (tL te ta):=⟨ag ha hr.h (hs _ _)⟩
theorem aI{pos:Pos}(h:O_ X es ta):CW X (.List es pos) (Gx ta):=⟨bH h.h⟩
theorem bN{i:Nat}{x:Str}{pos pos' :Pos}(hN:X.N.Nodup)(hi:X.N[i]? =some x)(hx:Loc X.env.scope x)(he:CW X e te)(hs:swapsWith e (some (.Name x pos')) pos.line X.env=pure false)(hf:X.fn x=true\/X.env.scope.names.lookup x=some .local):
 VY X (.Assign [.Name x pos'] e pos) (FO te (uY i)):=⟨OS hN hi hx he.h hs hf⟩
theorem aD(h1:VY X st t)(h2:DY X sts u):DY X (st::sts) (FU t u):=⟨aj h1.h h2.h⟩
theorem bC(h1:VY X st t):DY X [st] t:=⟨aq h1.h⟩
end
section
variable{P:Z'}{w:W'}{K:Frag}{mg:Str->aO}{base:Y'}
theorem Ga.okM{x qual:Str}{st:Stmt}{f:S'}{fd:aad}{N ps:au}{k:Nat}{sp:Sp}(F:Ga K x qual st f fd)(S:aJ N ps (av st))(len:∀vs H Q E,sp vs H Q E->vs.length=ps.length)
 (ja:∀(cB:M') (A:X') (outer:List Env) (s:R') (H:Hp) (vs:ak) (Q:VK) (E:XK),dW k (A.deeper (envOfC qual (av st) s.heap.objs.size f cB))->sp vs H Q E->
  ∃t,DY (ny dQ P w K mg base N qual (av st) f cB A outer s H E).K0 (dN st) t/\t {nx:=λ_ H' =>Q .bp H',rt:=Q} (start N vs) H):aT P w K mg base dQ (k+1) f fd ps sp:=
 F.ok S len λcB A outer s H vs Q E hr h=>by
  obtain⟨t,h,q⟩:=ja cB A outer s H vs Q E hr h;exact⟨t,h.h,q⟩
end
end L2
namespace L2
open PySem PySem.Spec PyProof.Rows PySem.Builtin.ObjectAttr
structure adu(K:Frag)(C:S'):Prop extends ExcG K C where
 ca:PySem.W.findIn K (.ref C) "__class__"=some (some (.builtin "object.__class__"))
 gt:PySem.W.specialIn K (.builtin "object.__class__") "__get__"=some (some (.builtin "getset_descriptor.__get__"))
 tk:PySem.W.takesIn K (.builtin "object.__class__")=some true
 mo:PySem.W.mroIn K C (.type "object")=some true
section
variable{K:Frag}{C:S'}
variable{prog:Z'}{w:W'}{A:X'}{E:J'}{s:R'}{x:S'}{ox:Obj}{od:Option Obj}
end
section
variable{X:Cx}{K:Frag}
end
structure ZX(k:Nat)(A:X'):Prop where
 dp:A.depth+3*k+5<recursionLimit
 un:A.units+16*k+200<cLine
 gd:A.guards=some []
structure ajt(P:Z')(w:W')(K:Frag)(mg:Str->aO)(base:Y')(k:Nat)(f:S')(fd:aad)(ps:au)(sp:Sp):Prop where
 len:∀vs H Q E,sp vs H Q E->vs.length=ps.length
 run:∀(A:X') (outer:List Env) (s:R') (H:Hp) (args:Args) (us:aF) (vs:ak) (Q:VK) (E:XK),ZX k A->Cq P w K mg base A outer s H->BindsTo s fd args (ps.zip us)->Vals vs us->sp vs H Q E->
  codeAny (model P w) A (.call (.ref f) args) (CR dQ outer P w H s Q E) s
section
variable{X:Cx}{k:Nat}{f:S'}{fd:aad}{ps:au}{sp:Sp}{x:Str}{p pos:Pos}{e:V'}{es:b8}{t:TA}{K:Frag}
end
variable{X:Cx}
section
variable{X:Cx}{CX:uo}{k:Nat}{f C:S'}{fd:aad}{ps:au}{sp:Sp}{dvs:ak}{ds:aF}{E:St->XK}{x m:Str}{p pos apos:Pos}{e o:V'}{es:b8}{ta:TE}{t:TA}
end
section
variable{X:Cx}{body FD:List Stmt}{b0:Stmt}{rest:List ExceptHandler}{c nm:Str}{cp Ff pos:Pos}{tb:(St->XK)->TS}{th:TS}{i:Nat}{D:S'}
end
section
variable{prog:Z'}{w:W'}{A:X'}{E:J'}{s:R'}
end
section
variable{prog:Z'}{w:W'}{A:X'}{R:Result->R'->Prop}{I:S'}{fp wr:b_}{G:Array GenState->Array GenState->Prop}{n:Nat}{P:Nat->M'->Prop}{St:Nat->R'->Prop}{κ:Type}[DecidableEq κ]{knd:KeyKind prog w κ}
end
section
variable{prog:Z'}{w:W'}{A:X'}{E:J'}{s:R'}{κ:Type}[DecidableEq κ]{knd:KeyKind prog w κ}
end
section
variable{X:Cx}{e:V'}{te:TE}{elts:b8}{kt:Nat}{pt:Pos}
end
section
variable{prog:Z'}{w:W'}{A:X'}{E:J'}{s:R'}
end
section
variable{X:Cx}{pos:Pos}
end
section
variable{X:Cx}{e hi stp:V'}{te th ts:TE}{pos p2:Pos}
end
variable{o e:V'}{es:b8}{to:TE}{t:TA}{name:Str}{apos jd:Pos}{T id:String}{r:V->ak->Hp->VK->Prop}
end L2
namespace L2
open PySem PySem.Spec PySem.SeqAt PyProof.Rows
variable{X:Cx}
section
variable{prog:Z'}{w:W'}{A:X'}{E:J'}{s:R'}
structure akC(h:Y')(d:S')(o:Obj)(es:Array DictEntry)(ep:Nat):Prop where
 at_:h.get? d=some o
 ex:o.ExactDict
 da:o.data= .dict es ep
end
section
variable{X:Cx}{ad:aQ}{σ:St}{H:Hp}{s:R'}{d:S'}{kvs:List (List wS×V)}
end
section
variable{X:Cx}{e:V'}{te:TE}{elts:b8}{kt:Nat}{pt:Pos}
end
section
variable{prog:Z'}{w:W'}{A:X'}{R:Result->R'->Prop}{I:S'}{fp wr:b_}{G:Array GenState->Array GenState->Prop}{n:Nat}{P:Nat->M'->Prop}{St:Nat->R'->Prop}{κ:Type}[DecidableEq κ]{knd:HeapKind prog w κ}
noncomputable def abJ(xs ps:List (κ×S'×M')):List (κ×S'×M'):=ps.foldl (λm p=>storedH m p.1 p.2.1 p.2.2) xs
end
section
variable{prog:Z'}{w:W'}{A:X'}{E:J'}{s:R'}{κ:Type}[DecidableEq κ]{knd:HeapKind prog w κ}
end
noncomputable def ae6(kvs more:List (List wS×V)):List (List wS×V):=more.foldl (λacc kv=>jae acc kv.1 kv.2) kvs
structure alM(K:Frag)(C:S'):Prop where
 ha:PySem.W.findIn K (.ref C) "__class__"=some (some (.builtin "object.__class__"))
 hn:PySem.W.specialIn K (.builtin "object.__class__") "__get__"=some (some (.builtin "getset_descriptor.__get__"))
 tk:PySem.W.takesIn K (.builtin "object.__class__")=some true
 hm:PySem.W.mroIn K C (.type "object")=some true
def Zi(i j:Int):Prop:=0<j/\j.natAbs.log2<9000
theorem FP:n5 X (binaryOp .FloorDiv) (rI Zi λi j=> .int (i / j)):=opI λi j _ _ _ _ _ hc q=>by
 have h1:(0:Int)<j:=hc.1;exact floordiv_int (by lia) (by rw[Int.fdiv_eq_ediv_of_nonneg i (by lia)];exact q) (.inl (PyProof.noPylong_of_log2 hc.2))
section
variable{X:Cx}{pos:Pos}
structure PPm(X:Cx)(pos:Pos)(keys:List (Option V'))(values:b8)(FX:List (TE×TE)):Prop where
 h:PPs X pos keys values FX
theorem PR:PPm X pos [] [] []:=⟨vJ⟩
theorem iL{k v:V'}{ks:List (Option V')}{vs:b8}{tk tv:TE}{FX:List (TE×TE)}(hk:CW X k tk)(hv:CW X v tv)(hr:PPm X pos ks vs FX):PPm X pos (some k::ks) (v::vs) ((tk,tv)::FX):=⟨g9 hk.h hv.h hr.h⟩
theorem MF{keys:List (Option V')}{values:b8}{FX:List (TE×TE)}(h:PPm X pos keys values FX)(Im:keys.all (·.isSome)=true)(hl:keys.length=values.length)(h0:keys≠[])(h15:keys.length<=15):CW X (.Dict keys values pos) (L6 FX):=⟨vQ h.h Im hl h0 h15⟩
theorem jH{e:V'}{t:TE}(h:CW X e t):VY X (.Return (some e) pos) (Xm t):=⟨aH h.h⟩
end
section
variable{prog:Z'}{w:W'}{A:X'}{E:J'}{s:R'}
end
section
variable{X:Cx}{tg e:V'}{te:TE}
end
section
variable{X:Cx}{ad:aQ}{σ:List (Option V)}{H H' :Hp}{s:R'}{h' :Y'}
theorem Inv.more{t' :Nat}(I:Inv X ad σ H s)(k:∀b u,s.heap.get? b=some u->h'.get? b=some u)(sm:∀a o,H a=some o->H' a=some o)(new:∀a o,H' a=some o->H a=some o\/(s.heap.objs.size<=a/\cu X.prog X.w H' h' a o)):Inv X ad σ H' {s with heap:=h',toks:=t'}:=
 I.un ⟨λb u q _ _ _=>k b u q,λb u q _ _ _=>⟨u.slots,k b u q⟩,λb u q n _=>by
  cases e:H' b with
  |none=>rfl
  |some o=>
   rcases new b o e with h|⟨h,_⟩
   .rw[n] at h;cases h
   .exact absurd (a_ q) (Nat.not_lt.mpr h),λb u q _=>⟨u,k b u q⟩,λb xs q=>sm _ _ q,λb u xs q=>sm _ _ q,λb ps q=>⟨#[],by rw[sm _ _ q];simp⟩⟩ λa o e=>by
  rcases new a o e with h|⟨_,h⟩
  .exact(I.bT a o h).Bj (λc v _ q=>k c v q) (λc q=>sm _ _ q) (λc xs q=>sm _ _ q)
  .exact h
theorem Wt{as:b_}(h:as.Pairwise (· < ·)){j:Nat}{a:S'}(e:as[j]? =some a):as.idxOf a=j:=by
 have hj:=(c9.mp e).1;have ha:=(c9.mp e).2;have hm:as.idxOf a<as.length:=List.idxOf_lt_length_of_mem (bD e);have hg:as[as.idxOf a]=a:=List.getElem_idxOf hm;rcases Nat.lt_trichotomy (as.idxOf a) j with z|z|z
 .have:=List.pairwise_iff_getElem.mp h _ _ hm hj z;rw[hg,ha] at this;exact absurd this (cA _)
 .exact z
 .have:=List.pairwise_iff_getElem.mp h _ _ hj hm z;rw[hg,ha] at this;exact absurd this (cA _)
end
section
variable{prog:Z'}{w:W'}{A:X'}{E:J'}{s:R'}
end
section
variable{X:Cx}{tg e:V'}{te:TE}
end
section
variable{prog:Z'}{w:W'}{A:X'}{E:J'}{s:R'}
end
section
variable{X:Cx}{o e f:V'}{apos jd:Pos}{td ty tx:TE}
end
section
variable{prog:Z'}{w:W'}{A:X'}{E:J'}{s:R'}
end
theorem xm(hu:X.A.units<cLine):n5 X (compareOp .NotEq) (λx y H Q=>∃a b xs,x= .ref a/\y= .ref b/\H a=some (.lst xs)/\H b=some (.lst [])/\Q (.bl (!xs.isEmpty)) H):=by
 intro ad s σ H x y v u Q I rx ry h;obtain⟨a,b,xs,rfl,rfl,ha,hb,q⟩:=h;cases rx;cases ry;obtain⟨its,r,pl,hz⟩:=I.list (cF.of ha);obtain⟨pB,r2,QF,JF⟩:=I.list (cF.of hb);have hl:=r.length;cases r2
 cases xs with
 |nil=>
  cases r;exact SeqAt.RcNeAt.lists (e:=λ_=>true) pl.isList QF.isList Z hu (λj h1 _=>absurd h1 (iP _)) _ _ _ _ ⟨.bl false,H,I,Z,q⟩
 |cons x r' =>
  exact SeqAt.RcNeAt.lists_lengths pl.isList QF.isList (by cases r;rfl) hu _ _ _ _ ⟨.bl true,H,I,Z,q⟩
section
variable{prog:Z'}{w:W'}{A:X'}{E:J'}{s:R'}
end
structure RxG(es:Array DictEntry)(lo:S')(h:Y')(as:b_):Prop where
 rise:as.Pairwise (· < ·)
 above:∀a∈as,lo<a
 pairs:∀(j:Nat) (a:S'),as[j]? =some a->∃en,es[j]? =some en/\h.get? a=some {cls:= .type "tuple",data:= .seq #[en.key,en.val]}
section
variable{prog:Z'}{w:W'}{A:X'}{E:J'}{s:R'}{es:Array DictEntry}{ep:Nat}{od:Obj}
end
structure FI(K:Frag)(mg:Str->aO)(x:Str)(st:Stmt)(ps:au)(f:S')(fd:aad):Prop where
 m:mg x=some (.ref f)
 F:Ga K x x st f fd
 b:Binds K fd ps []
structure MI(K:Frag)(C:S')(x q:Str)(st:Stmt)(ps:au)(f:S')(fd:aad):Prop where
 t:Meth K C x f
 F:Ga K x q st f fd
 b:Binds K fd ps []
theorem aJ.of{N P:au}{sc:Scope}(h1:sc.kind= .function:=by rfl)(h2:sc.isCoroutine=false:=by rfl)(h3:sc.isGenerator=false:=by rfl)(h4:N.Nodup:=by decide+kernel)(h5:N.take P.length=P:=by rfl)
 (h6:∀x∈P,sc.names.lookup x=some .local\/sc.names.lookup x=some .cell:=by decide+kernel) (h7:∀y∈sc.names,y.2≠.free:=by decide+kernel):aJ N P sc:=⟨h1,h2,h3,h4,h5,h6,h7⟩
section
variable{P:Z'}{w:W'}{K:Frag}{mg:Str->aO}{base:Y'}{x qual:Str}{st:Stmt}{f:S'}{fd:aad}{N ps:au}{k:Nat}{sp:Sp}
theorem Ga.vc(F:Ga K x qual st f fd)(S:aJ N ps (av st))
 (hb:∀(cB:M') (A:X') (outer:List Env) (s:R') (H:Hp) (vs:ak) (Q:VK) (E:XK),dW k (A.deeper (envOfC qual (av st) s.heap.objs.size f cB))->sp vs H Q E->
  ∃t,CG (ny dQ P w K mg base N qual (av st) f cB A outer s H E).K0 (dN st) t/\t {nx:=λ_ H' =>Q .bp H',rt:=Q} (start N vs) H)
 (len:∀vs H Q E,sp vs H Q E->vs.length=ps.length:=by intro _ _ _ _ h;repeat (first|(obtain⟨rfl,_⟩:=h;rfl)|obtain⟨_,h⟩:=h)):aT P w K mg base dQ (k+1) f fd ps sp:=F.ok S len hb
theorem Ga.okN(F:Ga K x qual st f fd)(S:aJ N ps (av st))
 (hb:∀(cB:M') (A:X') (outer:List Env) (s:R') (H:Hp) (vs:ak) (Q:VK) (E:XK),dW k (A.deeper (envOfC qual (av st) s.heap.objs.size f cB))->sp vs H Q E->
  ∃t,DY (ny dQ P w K mg base N qual (av st) f cB A outer s H E).K0 (dN st) t/\t {nx:=λ_ H' =>Q .bp H',rt:=Q} (start N vs) H)
 (len:∀vs H Q E,sp vs H Q E->vs.length=ps.length:=by intro _ _ _ _ h;repeat (first|(obtain⟨rfl,_⟩:=h;rfl)|obtain⟨_,h⟩:=h)):aT P w K mg base dQ (k+1) f fd ps sp:=F.okM S len hb
end
section
variable{X:Cx}{CX:uo}{j k:Nat}{f C:S'}{fd:aad}{ps:au}{sp:Sp}{E:XK}{x m q:Str}{st:Stmt}{p pos apos:Pos}{e o:V'}{es:b8}{ta:TE}{t:TA}
theorem cI(F:aT X.prog X.w X.K X.mg X.base CX j f fd ps sp)(hr:dW k X.A)(I:FI X.K X.mg x st ps f fd)(hx:wf CX X E)(ha:PA X (e::es) t)(hj:j<=k:=by decide)(hg:Gl X x:=by rfl)
 (rD:(x==("__debug__" :Str))=false:=by decide) (he:starEach (e::es) X.env=(false,eval e X.env)::starEach es X.env:=by rfl) (ng:(backTo pos (starEach es X.env)).any (·.1)=false:=by rfl):
 PE X (.Call (.Name x p) (e::es) [] pos) (xE sp [] E t):=JO (F.mono hj) hr hg I.m I.F.kp I.b .nil hx ha rD he ng
theorem afa{pl:Sem Bool}(he:PE X o ta)(c:Om X.K C)(I:MI X.K C m q st ps f fd)(F:aT X.prog X.w X.K X.mg X.base CX j f fd ps sp)(hr:dW k X.A)(hx:wf CX X E)(hj:j<=k:=by decide)
 (ht:eval (.Call (.Attribute o m apos) [] [] pos) X.env=(do
  let ov<-eval o X.env
  standAt apos.atName
  let(f,first)<-holding [ov] (getMethod ov m pl)
  callWith pos f first (backTo pos (starEach [] X.env)) (backToKw pos (keywordEach [] X.env))):=by rfl):
 PE X (.Call (.Attribute o m apos) [] [] pos) (Ta C m sp [] E ta sQ):=Mr he c I.t (F.mono hj) hr I.b .nil hx ht
end
section
variable{X:Cx}{pos:Pos}{e a b:V'}{te ta tb:TE}
theorem jk(i:Nat){x:Str}(hN:X.N.Nodup)(hi:X.N[i]? =some x:=by rfl)(hx:Loc X.env.scope x:=by first|exact .inl rfl|exact .inr rfl)(hf:X.fn x=true\/X.env.scope.names.lookup x=some .local:=by first|exact .inl rfl|exact .inr rfl|assumption):PG X (.Name x pos) (uY i):=Q0 hN hi hx hf
theorem gf(i:Nat){x:Str}{pos' :Pos}(hN:X.N.Nodup)(he:PE X e te)(hi:X.N[i]? =some x:=by rfl)(hx:Loc X.env.scope x:=by first|exact .inl rfl|exact .inr rfl)(hs:swapsWith e (some (.Name x pos')) pos.line X.env=pure false:=by rfl)
 (hf:X.fn x=true\/X.env.scope.names.lookup x=some .local:=by first|exact .inl rfl|exact .inr rfl|assumption):PS X (.Assign [.Name x pos'] e pos) (FO te (uY i)):=OS hN hi hx he hs hf
theorem cS{r:R2}(hr:VX X r)(ha:PE X a ta)(hb:PE X b tb)(hs:Ew b:=by exact λ_ _=>rfl):PE X (.Subscript a b pos) (wM r ta tb):=UT hr ha hb hs
theorem H_{op:CmpOp}{r:R2}(ho:n5 X (compareOp op) r)(ha:PE X a ta)(hb:PE X b tb)(hm:behindInMarks op b=false:=by first|exact Md _|with_unfolding_all rfl):PE X (.Compare a [op] [b] pos) (wM r ta tb):=QL ho ha hb hm
theorem wn{op:CmpOp}{r:R2}(ho:n5 X (compareOp op) r)(ha:PE X a ta)(hb:PE X b tb)(hm:behindInMarks op b=false:=by first|exact Md _|with_unfolding_all rfl):PT X (.Compare a [op] [b] pos) (NC (wM r ta tb)):=Qx ho ha hb hm
theorem pfd{f:Str}(he:PE X e te)(hb:attributeBase e f X.env (eval e X.env)=eval e X.env:=by rfl):PE X (.Attribute e f pos) (ZS X.K te f):=VR he hb
theorem aM(ha:PE X e te)(hs:starEach [e] X.env=(false,eval e X.env)::starEach [] X.env:=by rfl):PA X [e] (tL te sQ):=ag ha dY hs
end
section
variable{X:Cx}{tg iter elt:V'}{ifs:b8}{scope:Scope}{pos:Pos}{wi:TI}{g:TG}{tt:TT}{te:TE}
theorem KR(N:au)(k:Nat)(js:List Nat)(hi:PI X tg iter wi)
 (hb:∀(cl:List (Str×S')) (C:S') (s:R') (H:Hp) (fp:b_),PG (gh X N scope cl C s H fp) tg g/\IL (gh X N scope cl C s H fp) ifs tt/\PE (gh X N scope cl C s H fp) elt te)
 (hc:X.calm=true:=by rfl) (S:oy X N scope k js:=by exact Df (by kernel_rfl)) (hs:∀x,foldedSetIterable iter X.env x=pure x:=by intro _;rfl):PE X (.ListComp elt [⟨tg,iter,ifs,0⟩] scope pos) (J2 wi k js g tt te):=Rh hc S hi hb hs
theorem Hv(i:Nat){x:Str}{pos' jd:Pos}(hN:X.N.Nodup)(N:au)(k:Nat)(js:List Nat)(hi:PI X tg iter wi)
 (hb:∀(cl:List (Str×S')) (C:S') (s:R') (H:Hp) (fp:b_),PG (gh X N scope cl C s H fp) tg g/\IL (gh X N scope cl C s H fp) ifs tt/\PE (gh X N scope cl C s H fp) elt te)
 (hi' :X.N[i]? =some x:=by rfl) (hx:Loc X.env.scope x:=by first|exact .inl rfl|exact .inr rfl) (hc:X.calm=true:=by rfl) (S:oy X N scope k js:=by exact Df (by kernel_rfl))
 (hsw:swapsWith (.ListComp elt [⟨tg,iter,ifs,0⟩] scope jd) (some (.Name x pos')) pos.line X.env=pure true:=by rfl)
 (hs:∀x,foldedSetIterable iter X.env x=pure x:=by intro _;rfl) (hf:X.fn x=true\/X.env.scope.names.lookup x=some .local:=by first|exact .inl rfl|exact .inr rfl|assumption):
 PS X (.Assign [.Name x pos'] (.ListComp elt [⟨tg,iter,ifs,0⟩] scope jd) pos) (FO (J2 wi k js g tt te) (uY i)):=Qs hN hi' hx hc S hi hb hsw hs hf
theorem AV{body:List Stmt}{tb:TS}(hi:PI X tg iter wi)(hg:PG X tg g)(hb:CG X body tb)(hp:PassesOwn (model X.prog X.w) X.A X.env X.xe:=by exact PassesOwn.never)(hc:X.calm=true:=by rfl)
 (hs:∀x,foldedSetIterable iter X.env x=pure x:=by intro _;rfl):PS X (.For tg iter body [] pos) (VT wi g tb):=Mm hp hc hi hg hb hs
theorem iW{id:String}{x:Str}{r:ak->Hp->VK->Prop}{e:V'}{es:b8}{t:TA}{p:Pos}(hc:i7 X (.builtin id) r)(hm:X.mg x=none)(hv:bootBuiltins x=some (.builtin id))(ha:PA X (e::es) t)(hg:Gl X x:=by rfl)(hn:x≠ "__name__":=by decide)(rD:(x==("__debug__" :Str))=false:=by decide)
 (he:starEach (e::es) X.env=(false,eval e X.env)::starEach es X.env:=by rfl) (ng:(backTo pos (starEach es X.env)).any (·.1)=false:=by rfl):PE X (.Call (.Name x p) (e::es) [] pos) (tCB r t):=Nu hc hg hm hv ha hn rD he ng
theorem Ox{T:String}{x:Str}{r:ak->Hp->VK->Prop}{e:V'}{es:b8}{t:TA}{p:Pos}(hc:i7 X (.type T) r)(hm:X.mg x=none)(hv:bootBuiltins x=some (.type T))(ha:PA X (e::es) t)(hg:Gl X x:=by rfl)(hn:x≠ "__name__":=by decide)(rD:(x==("__debug__" :Str))=false:=by decide)
 (he:starEach (e::es) X.env=(false,eval e X.env)::starEach es X.env:=by rfl) (ng:(backTo pos (starEach es X.env)).any (·.1)=false:=by rfl):PE X (.Call (.Name x p) (e::es) [] pos) (tCB r t):=KZ hc hg hm hv ha hn rD he ng
end
structure XI(K:Frag)(mg:Str->aO)(x:Str)(C f R:S'):Prop where
 m:mg x=some (.ref C)
 X:MJ K C f
 e:Qu K C
 g:adu K C
 tt:PySem.W.typeIn K (.ref C)=some (.type "type")
 mi:∀D:S',PySem.W.mroIn K C (.ref D)=some (decide (D=C)||decide (D=R))
 ve:PySem.W.mroIn K C (.type "ValueError")=some true
def Exc(H:Hp)(a C:S'):Prop:=∃φ dd n,H a=some (.ext φ)/\(∀h,φ h->eW a C dd n h)/\∀dx,dd=some dx->∃fs,H dx=some (.xd fs)
section
variable{X:Cx}{K:Frag}
theorem PM{P:Z'}{w:W'}{H:Hp}{h:Y'}{a:S'}{φ:Y'->Prop}(ok:pG P w H h)(e:H a=some (.ext φ)):φ h:=
 (show cu P w H h a (.ext φ) from ok a _ e).1
end
section
variable{X:Cx}{CX:uo}{j k:Nat}{f C R:S'}{fd:aad}{ps:au}{sp:Sp}{E:XK}{x q:Str}{st:Stmt}{p pos:Pos}{e:V'}{es:b8}{t:TA}
theorem Rx(M:XI X.K X.mg x C f R)(I:MI X.K C "__init__" q st ps f fd)(F:aT X.prog X.w X.K X.mg X.base dQ j f fd ps sp)(hr:dW (k+1) X.A)(ha:PA X (e::es) t)(hj:j<=k:=by decide)(hl:ps.length<=100:=by decide)(hg:Gl X x:=by rfl)
 (rD:(x==("__debug__" :Str))=false:=by decide) (he:starEach (e::es) X.env=(false,eval e X.env)::starEach es X.env:=by rfl) (ng:(backTo pos (starEach es X.env)).any (·.1)=false:=by rfl):
 PE X (.Call (.Name x p) (e::es) [] pos) (Jb C sp E0 t):=M5 M.X (F.mono hj) hr hg M.m I.b aC ha (λ_ _ _ _ h=>by rw[F.len _ _ _ _ h];exact hl) rD he ng
end
section
variable{K:Frag}{nm q:Str}{C N R:S'}{bs:aF}{h:Bool}{sn:au}{sub:aF}{ab:Bool}{col:Option Bool}{dd:Option S'}{k0 k1 k2 k3 k5:aO}{id:String}
theorem Zn(l:K.lookup C=some (excClassObj nm q C N bs [.ref R,.type "ValueError",.type "Exception",.type "BaseException",.type "object"] h sn sub ab col dd k0 k1 k2 k3 k5 id))(D:S'):PySem.W.mroIn K C (.ref D)=some (decide (D=C)||decide (D=R)):=by
 unfold PySem.W.mroIn clsIn;rw[l];show some (List.contains [Value.ref C,Value.ref R,.type "ValueError",.type "Exception",.type "BaseException",.type "object"] (.ref D))=_
 congr 1
 by_cases h1:D=C
 .subst h1;simp
 .by_cases h2:D=R
  .subst h2;simp
  .simp[h1,h2]
theorem Wx(l:K.lookup C=some (excClassObj nm q C N bs [.type "ValueError",.type "Exception",.type "BaseException",.type "object"] h sn sub ab col dd k0 k1 k2 k3 k5 id))(D:S'):PySem.W.mroIn K C (.ref D)=some (decide (D=C)||decide (D=C)):=by
 unfold PySem.W.mroIn clsIn;rw[l];show some (List.contains [Value.ref C,.type "ValueError",.type "Exception",.type "BaseException",.type "object"] (.ref D))=_
 congr 1
 by_cases h1:D=C
 .subst h1;simp
 .simp[h1]
end
section
variable{prog:Z'}{w:W'}{A:X'}{E:J'}{h:Y'}{g:Array GenState}{d:Drawn}{t:Nat}{os:OsState}
variable{nm q:Str}{C N:S'}{bs bm:aF}{jf:Bool}{sn:au}{sub:aF}{ab:Bool}{col:Option Bool}{dd:Option S'}{k0 k1 k2 k3 k5:aO}
end
section
variable{X:Cx}{p pos apos:Pos}{e1 e2:V'}{t:TA}
end
section
open Builtin Builtin.Str Builtin.BaseException
variable{prog:Z'}{w:W'}{A:X'}{E:J'}{s:R'}{K:Frag}{x C t0:S'}{ox ot:Obj}{od:Option Obj}{vs:Array M'}{m:Str}{tk:Tok}{n:Nat}
end
section
variable{X:Cx}{K:Frag}
end
noncomputable def kD:wS->U'
 | .inl i=> .int i
 | .inr x=> .str x
mutual
inductive b7 (H:Hp):V->U'->Prop
 |bp:b7 H .bp .none
 |bl (b:Bool):b7 H (.bl b) (.bool b)
 |int (i:Int):b7 H (.int i) (.int i)
 |str (x:Str):b7 H (.str x) (.str x)
 |lst {a:S'} {xs:ak} {ds:List U'} (e:H a=some (.lst xs)) (h:bj H xs ds):b7 H (.ref a) (.list ds)
 |tup {a:S'} {xs:ak} {ds:List U'} (e:H a=some (.tup xs)) (h:bj H xs ds):b7 H (.ref a) (.tuple ds)
 |Ca {a:S'} {kvs:eJ} {D:List (U'×U')} (e:H a=some (.dK kvs)) (hk:D.map (·.1)=kvs.map λp=>kD p.1) (h:bj H (kvs.map (·.2)) (D.map (·.2))):b7 H (.ref a) (.dict D)
inductive bj (H:Hp):ak->List U'->Prop
 |nil:bj H [] []
 |cons {x:V} {xs:ak} {d:U'} {ds:List U'} (h:b7 H x d) (t:bj H xs ds):bj H (x::xs) (d::ds)
end
mutual
theorem b7.same{H H' :Hp}(s:ah H H'):∀{v:V} {d:U'},b7 H v d->b7 H' v d
 |_,_,.bp=> .bp
 |_,_,.bl b=> .bl b
 |_,_,.int i=> .int i
 |_,_,.str x=> .str x
 |_,_,.lst e h=> .lst (s _ _ e) (bj.same s h)
 |_,_,.tup e h=> .tup (s _ _ e) (bj.same s h)
 |_,_,.Ca e hk h=> .Ca (s _ _ e) hk (bj.same s h)
theorem bj.same{H H' :Hp}(s:ah H H'):∀{xs:ak} {ds:List U'},bj H xs ds->bj H' xs ds
 |_,_,.nil=> .nil
 |_,_,.cons h t=> .cons (b7.same s h) (bj.same s t)
end
theorem Lz{P:Z'}{w:W'}(h:Y'){es:List DictEntry}{vs:List (wS×M')}(a:Pairs (cW P w) es vs):∀{kvs:eJ},KV kvs vs->ReadsAll h (es.map (·.key)) (kvs.map λp=>kD p.1) []:=by
 induction a with
 |nil=>
  intro kvs u;cases u;exact .nil
 | @cons e q es vs hi hv t ih=>
  intro kvs u
  cases u with
  | @cons p _ _ _ r u=>
   have hi:yG q.1 e.key=true:=hi;rw[<-r.1] at hi;show ReadsAll h (e.key::_) (kD p.1::_) ([]++[]);refine .cons ?_ (ih u);rcases dP hi with⟨i,t,e1,e2⟩|⟨x,t,e1,e2⟩
   .rw[e1,e2];exact .int i t
   .rw[e1,e2];exact .str x t
theorem CK{P:Z'}{w:W'}:∀{es:List DictEntry} {vs:List (wS×M')} {kvs:eJ},Pairs (cW P w) es vs->KV kvs vs->Vals (kvs.map (·.2)) (es.map (·.val))
 |_,_,_,.nil,.nil=> .nil
 |_,_,_,.cons _ hv t,.cons r u=> .cons (by show RelV _ (DictEntry.val _);rw[hv];exact r.2) (CK t u)
mutual
theorem b7.reads{P:Z'}{w:W'}{H:Hp}{h:Y'}(ok:pG P w H h)(sm:∀a o,h.get? a=some o->o.cls= .type "list" ->sysModules≠a):∀{v:V} {d:U'} {u:M'},b7 H v d->RelV v u->∃as,Reads h u d as/\sysModules∉as
 |_,_,_,.bp,r=>by cases r;exact⟨_,.none,by simp⟩
 |_,_,_,.bl b,r=>by cases r;exact⟨_,.bool b,by simp⟩
 |_,_,_,.int i,r=>by obtain⟨t,rfl⟩:=r;exact⟨_,.int i t,by simp⟩
 |_,_,_,.str x,r=>by obtain⟨t,rfl⟩:=r;exact⟨_,.str x t,by simp⟩
 |_,_,_,.lst e hd,r=>by
  cases r;obtain⟨z,its,n,rv,ho⟩:=(show cu P w H h _ (.lst _) from ok _ _ e);obtain⟨as,q,na⟩:=bj.reads ok sm hd rv
  exact⟨_,.list ho Z Z (by simpa using q),λhm=>by
   rcases aP.mp hm with hm|hm
   .exact sm _ _ ho Z hm
   .exact na hm⟩
 |_,_,_,.tup e hd,r=>by
  cases r;obtain⟨z,its,rv,o,ho,hc,n,hdt⟩:=(show cu P w H h _ (.tup _) from ok _ _ e);obtain⟨as,q,na⟩:=bj.reads ok sm hd rv;exact⟨_,.tuple ho hc hdt (by simpa using q),na⟩
 |_,_,_,.Ca (a:=a) e hk hd,r=>by
  cases r;obtain⟨z',ym,vs,kv,od,es,ep,hod,ex,hde,ko,pr,nd⟩:=RS ok e;obtain⟨as,q,na⟩:=bj.reads ok sm hd (CK pr kv);refine⟨_,.dict hod ex.1 hde (by rw[hk];exact Lz h pr kv) q,λhm=> ?_⟩;have hm:sysModules=a\/sysModules∈as:=by simpa using hm
  rcases hm with hm|hm
  .rw[<-hm] at ym;simp at ym
  .exact na hm
theorem bj.reads{P:Z'}{w:W'}{H:Hp}{h:Y'}(ok:pG P w H h)(sm:∀a o,h.get? a=some o->o.cls= .type "list" ->sysModules≠a):∀{xs:ak} {ds:List U'} {us:aF},bj H xs ds->Vals xs us->∃as,ReadsAll h us ds as/\sysModules∉as
 |_,_,_,.nil,.nil=>⟨_,.nil,by simp⟩
 |_,_,_,.cons hd t,.cons r rr=>by
  obtain⟨as,q,n1⟩:=b7.reads ok sm hd r;obtain⟨bs,q',n2⟩:=bj.reads ok sm t rr
  exact⟨_,.cons q q',λhm=>by
   rcases eA.mp hm with hm|hm
   .exact n1 hm
   .exact n2 hm⟩
end
theorem gk(hg:X.A.guards=some [])(hu:X.A.units+100<cLine)(sm:∃o,X.K.lookup sysModules=some o/\o.cls= .type "dict"):i7 X (.builtin "repr") (λxs H Q=>∃v d,xs=[v]/\b7 H v d/\d.showable=true/\d.depth<=90/\d.shown.length<=sizeLine/\Q (.str d.shown) H):=by
 intro ad s σ H xs us Q I r h;obtain⟨v,d,rfl,hd,hs,hdp,hz,q⟩:=h;obtain⟨u,rfl,ru⟩:=Wp r;obtain⟨om,lm,cm⟩:=sm
 have sm:∀a o,s.heap.get? a=some o->o.cls= .type "list" ->sysModules≠a:=λa o e c z=>by
  rw[<-z,I.jN _ _ lm] at e;cases e;rw[cm] at c;exact absurd c (by decide)
 have flat:∀{h' :Y'} {tk:Nat} (t:Tok),(∀b o,s.heap.get? b=some o->h'.get? b=some o)->EP X ad σ Q (.str d.shown t) {s with heap:=h',toks:=tk}:=λ{h' tk} t k=>⟨.str d.shown,H,I.kept k,⟨t,Z⟩,q⟩;obtain⟨as,rd,na⟩:=hd.reads I.bT sm ru
 cases hd with
 |bp=>cases ru;exact PySem.P.repr_of_none (flat _ λ_ _ e=>e)
 |bl b=>cases ru;exact PySem.P.repr_of_bool (by have:=flat (h' :=s.heap) (tk:=s.toks+1) s.toks λ_ _ e=>e;simpa only[PyData.shown] using this)
 |int i=>
  obtain⟨t,rfl⟩:=ru;have hs' :i.natAbs.log2<1920:=by simpa[PyData.showable] using hs
  exact PySem.P.repr_of_int hs' (by have:=flat (h' :=s.heap) (tk:=s.toks+1) s.toks λ_ _ e=>e;simpa only[PyData.shown] using this)
 |str x=>
  obtain⟨t,rfl⟩:=ru;refine PySem.P.repr_of_str (by have:=flat (h' :=s.heap) (tk:=s.toks+1) s.toks λ_ _ e=>e;simpa only[PyData.shown] using this) (by simpa only[PyData.shown] using hz)
 |lst e hx=>cases ru;exact repr_of_reads' rd hs (λ_=>na) hg (by lia) (λ_ _ e=>e) (λh' t tk k=>flat t k) hz
 |tup e hx=>cases ru;exact repr_of_reads' rd hs (λ_=>na) hg (by lia) (λ_ _ e=>e) (λh' t tk k=>flat t k) hz
 |Ca e hk hx=>cases ru;exact repr_of_reads' rd hs (λ_=>na) hg (by lia) (λ_ _ e=>e) (λh' t tk k=>flat t k) hz
noncomputable def Kg(CX:uo)(P:Z')(w:W')(K:Frag)(mg:Str->aO)(base:Y')(N:au)(qual:Str)(scope:Scope)(f:S')(cd:M')(cl:List (Str×S'))(A:X')(outer:List Env)(s:R')(H:Hp)(E:XK):Cx where
 prog:=P
 w:=w
 K:=K
 mg:=mg
 base:=base
 A:=A.deeper (envX qual scope s.heap.objs.size f cd cl)
 N:=N
 fO:=s
 H₀:=H
 env:=envX qual scope s.heap.objs.size f cd cl
 outer:=outer
 stack:=envX qual scope s.heap.objs.size f cd cl::outer
 ex:=[]
 calm:=true
 fn:=λ_=>false
 pn:=[]
 xe:=λe s' =>wpAny (model P w) (A.deeper (envX qual scope s.heap.objs.size f cd cl)) (leaving (envX qual scope s.heap.objs.size f cd cl) e) (λ_ Oc =>CX outer H s E e Oc) (λe' Oc =>CX outer H s E e' Oc) s'
structure rS(ps fr:au)(sc:Scope):Prop where
 kind:sc.kind= .function
 co:sc.isCoroutine=false
 gen:sc.isGenerator=false
 nd:(ps++fr).Nodup
 par:∀x∈ps,sc.names.lookup x=some .local
 fre:∀x∈fr,sc.names.lookup x=some .free
 M6:∀y∈sc.names,y.2≠.cell
 all:∀x,sc.names.lookup x=some .free->x∈fr
structure z_(base:Y')(cl:List (Str×S'))(fr:au)(kl:ak):Prop where
 len:kl.length=fr.length
 at_:∀(i:Nat) x v,fr[i]? =some x->kl[i]? =some v->∃c u,cl.lookup x=some c/\base.IsCell c (some u)/\RelV v u
 inj:∀x y c,cl.lookup x=some c->cl.lookup y=some c->x=y
 sub:∀x c,cl.lookup x=some c->x∈fr
theorem Bk{ps:au}(nd:ps.Nodup){us:aF}(hl:ps.length=us.length){i:Nat}{x:Str}{u:M'}(h1:ps[i]? =some x)(h2:us[i]? =some u):(ps.zip us).reverse.lookup x=some u:=by
 have hm:(x,u)∈ps.zip us:=bD (i:=i) (by rw[List.getElem?_zip_eq_some];exact⟨h1,h2⟩)
 have key:∀{l:List (Str×M')},(l.map (·.1)).Nodup->(x,u)∈l->l.lookup x=some u:=by
  intro l
  induction l with
  |nil=>intro _ h;cases h
  |cons p r ih=>
   intro n h;rw[cP,vy] at n;obtain⟨a,b⟩:=p;rcases aP.mp h with h|h
   .cases h;simp
   .have:x≠a:=λz=>n.1 (by rw[<-z];exact List.mem_map_of_mem (f:=(·.1)) h);rw[iR];rw[show(x==a)=false from sr.mpr this];exact ih n.2 h
 refine key ?_ (List.mem_reverse.mpr hm);rw[List.map_reverse,List.map_fst_zip (by lia)];exact List.pairwise_reverse.mpr (nd.imp λh=>h.symm)
theorem Rj{CX:uo}{P:Z'}{w:W'}{K:Frag}{mg:Str->aO}{base:Y'}{ps fr:au}{qual:Str}{scope:Scope}{f:S'}{cd:M'}{cl:List (Str×S')}{A:X'}{outer:List Env}{s:R'}{h1:Y'}{H:Hp}{E:XK}{us:aF}{vs kl:ak}{tk:Nat}
 (S:rS ps fr scope) (C:z_ base cl fr kl) (hd:A.handled=none) (e0:Cq P w K mg base A outer s H) (hl:vs.length=ps.length) (r:Vals vs us)
 (ns:h1.Ns s.heap.objs.size (λx=>(ps.zip us).reverse.lookup x)) (sb:Heap.SameBut s.heap.objs.size (s.heap.push {cls:= .type "frame",data:= .dict #[]}) h1):
 Inv (Kg CX P w K mg base (ps++fr) qual scope f cd cl A outer s H E) [] (vs.map some++kl.map some) H {s with heap:=h1,toks:=tk}:=by
 have hul:=r.length;have hk:∀b o,s.heap.get? b=some o->h1.get? b=some o:=λb o e=>sb.extBut b o (cJ (a_ e)) (bq _ e);have PB:∀b:S',b∉(Kg CX P w K mg base (ps++fr) qual scope f cd cl A outer s H E).ex:=λb z=>absurd (show b∈([]:b_) from z) (by simp)
 have aay:∀x c,cl.lookup x=some c->∃v,base.IsCell c v:=λx c e=>by
  have hx:=C.sub x c e;obtain⟨i,hi,rfl⟩:=List.mem_iff_getElem.mp hx;obtain⟨c',u,e',ic,_⟩:=C.at_ i fr[i] (kl[i]'(by rw[C.len];exact hi)) (by simp) (by simp);rw[e] at e';cases e';exact⟨_,ic⟩
 have kc:∀{c:S'} {v:aO},base.IsCell c v->h1.IsCell c v/\H c=none:=λ{c v} ⟨o,ho,hdt⟩=>⟨⟨o,hk _ _ (e0.bs _ _ ho).1,hdt⟩,(e0.bs _ _ ho).2⟩
 refine⟨⟨e0.mod,S.kind,Z,Z,aK _,λy z c h1 h2=>C.inj y z c h1 h2,λy hy=> ?_,λy c h=>(nomatch h),λ_=>hd,Around.frames_deeper e0.frames,.inr ⟨Z,Z⟩,λb z=>absurd z (PB b),e0.bs,e0.LN,λb _ _=>PB b,λb z=>absurd z (PB b),e0.sS,e0.Ph⟩,
  rfl,e0.bare,Un.kept hk,⟨_,ns,λi y v e1 e2 e3=> ?_⟩,λy c h=> ?_,e0.bT.fresh (aK _),λy c h=> ?_,λp hp=>absurd (show p∈([]:aQ) from hp) (by simp),e0.bT.kept hk,?_⟩
 .have hy:scope.names.lookup y=some .cell\/scope.names.lookup y=some .free:=hy;rcases hy with hy|hy
  .exact absurd Z (S.M6 _ (i' hy))
  .have hx:=S.all y hy;obtain⟨i,hi,rfl⟩:=List.mem_iff_getElem.mp hx;obtain⟨c',u,e',_⟩:=C.at_ i fr[i] (kl[i]'(by rw[C.len];exact hi)) (by simp) (by simp);exact⟨c',e'⟩
 .have e1:(ps++fr)[i]? =some y:=e1;by_cases hi:i<ps.length
  .rw[ip hi] at e1;rw[ip (by rw[a6];lia),bX] at e2;obtain⟨v',ev,z⟩:=Ed.mp e2;cases z;obtain⟨u,hu,rv⟩:=r.get ev;exact⟨u,rv,.inl ⟨S.par y (bD e1),Bk (S.nd.sublist (List.sublist_append_left _ _)) (by lia) e1 hu⟩⟩
  .rw[km (by lia)] at e1;rw[km (by rw[a6];lia),a6,hl,bX] at e2;obtain⟨v',ev,z⟩:=Ed.mp e2;cases z;obtain⟨c,u,ec,ic,rv⟩:=C.at_ _ y _ e1 ev;exact⟨u,rv,.inr ⟨.inr (S.fre y (bD e1)),c,ec,(kc ic).1⟩⟩
 .obtain⟨v,ic⟩:=aay y c h;exact⟨v,(kc ic).1⟩
 .obtain⟨v,ic⟩:=aay y c h;exact(kc ic).2
 .show _=(ps++fr).length;rw[bu,bu,a6,a6,hl,C.len]
theorem L_{CX:uo}{P:Z'}{w:W'}{K:Frag}{mg:Str->aO}{base:Y'}{k:Nat}{f:S'}{name qual:Str}{params:Arguments}{body:V'}{scope:Scope}{pm cB ct oc:M'}{od:Option S'}
 {xM:Array (aO)} {cl:List (Str×S')} {ps fr:au} {kl:ak} {sp:Sp} (lk:base.get? f=some ⟨oc,od,.func (kla_fn name qual params body scope cl pm cB ct),xM⟩) (S:rS ps fr scope) (C:z_ base cl fr kl)
 (len:∀vs H Q E,sp vs H Q E->vs.length=ps.length) (Av:∀vs H Q E h,sp vs H Q E->pG P w H h->(∀b o,base.get? b=some o->h.get? b=some o)->h.CodeRec cB qual)
 (ja:∀(A:X') (outer:List Env) (s:R') (H:Hp) (vs:ak) (Q:VK) (E:XK),dW k (A.deeper (envX qual scope s.heap.objs.size f cB cl))->sp vs H Q E->
  ∃t,PE (Kg CX P w K mg base (ps++fr) qual scope f cB cl A outer s H E) body t/\t (vs.map some++kl.map some) H Q):
 aT P w K mg base CX (k+1) f (kla_fn name qual params body scope cl pm cB ct) ps sp:=by
 refine⟨len,λA outer s H args us vs Q E hr e0 hb r DG=> ?_⟩;have hl:=len _ _ _ _ DG;have lim:s.heap.NoLimit:=e0.mod.nolimit.keeps λb o e=>(e0.bs b o e).1;have Ig:∀y∈ps.zip us,scope.names.lookup y.1=some .local:=λ⟨n,v⟩ hy=>S.par n (zR hy).1;refine PySem.W.kla_callFunE hr.depth (e0.bs _ _ lk).1 Z S.co S.gen Z (Av vs H Q E s.heap DG e0.bT λb o e=>(e0.bs b o e).1) (hb _ _ _ _ ?_);refine wpAny_newFunctionEnv S.M6 Ig (λh1 Py hsb=>⟨lim.fresh _ hsb,?_⟩) S.kind;show codeAny _ _ (.expr body (envX qual scope s.heap.objs.size f cB cl)) _ _;obtain⟨t,ht,hq⟩:=ja A outer s H vs Q E (hr.deeper _) DG;have I:=Rj (CX:=CX) (qual:=qual) (f:=f) (cd:=cB) (E:=E) (tk:=s.toks+(ps.zip us).length) S C hr.hd e0 hl r Py hsb;refine PySem.W.kla_codeExpr (fW (ht [] _ _ H _ I hq) (λu s' hs=> ?_) λe s' hs=>hs);obtain⟨v,H',J,rv,q⟩:=hs;exact⟨v,H',J.os,J.bare,J.base,J.bT,rv,q⟩
def iG(c:S')(q:Str)(h:Y'):Prop:=∃o vs t,h.get? c=some o/\o.data= .fields vs/\vs[1]? =some (.str q t)
theorem NM{P:Z'}{w:W'}{H:Hp}{h:Y'}{c:S'}{q:Str}(p:iG c q h):cu P w H h c (.ext (iG c q)):=by
 obtain⟨o,vs,t,e,r⟩:=p;exact⟨⟨o,vs,t,e,r⟩,⟨o,e⟩,λh1 h2 ⟨o,vs,t,e1,r1⟩ k=>⟨o,vs,t,k _ e1,r1⟩⟩
theorem iG.rec{P:Z'}{w:W'}{H:Hp}{h:Y'}{c:S'}{q:Str}(ok:pG P w H h)(e:H c=some (.ext (iG c q))):h.CodeRec (.ref c) q:=by
 obtain⟨o,vs,t,e1,r⟩:=(PM ok e:iG c q h);exact⟨c,o,vs,t,Z,e1,r⟩
section
variable{X:Cx}{ad:aQ}{σ:St}{H:Hp}{s:R'}{E:J'}{c P:S'}{ps:Array M'}
theorem Inv.lam{h' :Y'}{t' :Nat}{more:Array M'}{c' :S'}{q:Str}{o:Obj}(I:Inv X ad σ H s)(eP:H P=some (.wg ps))(hx:∀b o,b≠P->s.heap.get? b=some o->h'.get? b=some o)
 (hP:h'.get? P=some {cls:= .none,data:= .fields (ps++more)}) (hc:s.heap.objs.size<=c') (hcp:iG c' q h'):
 Inv X ad σ (upd (upd H P (.wg (ps++more))) c' (.ext (iG c' q))) {s with heap:=h'.push o,toks:=t'}:=by
 have nP:∀b,H b=none->b≠P:=λb n z=>by rw[z,eP] at n;cases n
 have nc:∀b o,s.heap.get? b=some o->b≠c' :=λb o e z=>absurd (cQ (a_ e) (z▸hc)) (cA _);have hc0:H c' =none:=I.bT.fresh hc;have nH:∀b u,H b=some u->b≠c' :=λb u e z=>by rw[z,hc0] at e;cases e
 have kp:∀b o',b≠P->s.heap.get? b=some o'->(h'.push o).get? b=some o' :=λb o' n e=>bq _ (hx b o' n e);have hPp:(h'.push o).get? P=some {cls:= .none,data:= .fields (ps++more)}:=bq _ hP
 refine I.step (g' :=s.gens) (d' :=s.drawn) (ch:=[]) (λ_ z=>nomatch z) (λb o' _ _ _ e n=>kp b o' (nP b n) e) (λb o' _ _ _ e n=>⟨o'.slots,kp b o' (nP b n) e⟩) (λb o' _ e n=>by rw[az (nc b o' e),az (nP b n)];exact n)
  (λb o' _ e=> ?_) (λb xs e=> ?_) (λb o' u e=> ?_) (λb Lk e=> ?_) (λm hm=> ?_) (λb u e=> ?_) I.bare
 .by_cases hb:b=P
  .rw[hb];exact⟨_,hPp⟩
  .exact⟨o',kp b o' hb e⟩
 .rw[az (nH b _ e),az (λz=>by rw[z,eP] at e;cases e)];exact e
 .rw[az (nH b _ e),az (λz=>by rw[z,eP] at e;cases e)];exact e
 .by_cases hb:b=P
  .subst hb;rw[eP] at e;cases e;exact⟨more,by rw[az (nH b _ eP),af]⟩
  .exact⟨#[],by rw[az (nH b _ e),az hb,e];simp⟩
 .obtain⟨o',es,ep,e,r⟩:=hm;exact⟨o',es,ep,kp _ o' (nP _ I.free) e,r⟩
 .by_cases hb:b=c'
  .subst hb;rw[af] at e;cases e;obtain⟨o',vs,t,e1,r⟩:=hcp;exact NM ⟨o',vs,t,bq _ e1,r⟩
  .rw[az hb] at e;by_cases uP:b=P
   .subst uP;rw[af] at e;cases e;exact hPp
   .rw[az uP] at e;refine(I.bT b u e).Bj (λb' v wO e' =>kp b' v ?_ e') (λb' q' => ?_) λb' ys q' => ?_
    .rcases wO with z|z
     .rw[z];exact uP
     .exact λz' =>by rw[z',eP] at z;cases z
    .rw[az (nH b' _ q'),az (λz=>by rw[z,eP] at q';cases q')];exact q'
    .rw[az (nH b' _ q'),az (λz=>by rw[z,eP] at q';cases q')];exact q'
structure rQ(X:Cx)(c P:S'):Prop where
 code:X.env.code= .ref c
 hd:CodeHd X.base c P
structure xx(X:Cx):Prop where
 at_:∃bm o,X.mg "__builtins__"=some (.ref bm)/\bm≠builtinsNs/\bm≠mainGlobals/\X.base.get? bm=some o/\o.cls= .type "module" /\o.dict=some builtinsNs/\o.data= .plain
variable{params:Arguments}{body:V'}{scope:Scope}{pos:Pos}{lP:List (Str×S')}{Q:J'}
noncomputable abbrev uH(X:Cx)(params:Arguments)(body:V')(scope:Scope)(lP:List (Str×S'))(c' :S')(wQ:M'):Obj:=PySem.W.kla_obj "<lambda>" (X.env.qual++ "<lambda>") params body scope lP ((X.mg "__name__").getD .none) c' wQ
theorem Xl(I:Inv X ad σ H s)(T:rQ X c P)(B:xx X)(B_:defaultsOf params X.env=([],[]))(Sd:closureFor scope X.env=pure lP)(eP:H P=some (.wg ps))(ht:TriplesOk ps.toList)(hn:codeAmong pos ps.toList=none)
 (h:∀f c' wQ s',H f=none->H c' =none->f≠c'->s.heap.objs.size<=f->Inv X ad σ (upd (upd H P (.wg (ps++ #[rawInt pos.line,rawInt pos.col,.ref c']))) c' (.ext (iG c' (X.env.qual++ "<lambda>")))) s'->s'.heap.get? f=some (uH X params body scope lP c' wQ)->
  (∀b o,b≠P->s.heap.get? b=some o->s'.heap.get? b=some o)->Q (.ref f) s'):wpAny (model X.prog X.w) X.A (eval (.Lambda params body scope pos) X.env) Q E s:=by
 have hP:s.heap.get? P=some (tabObj ps):=I.bT P _ eP;obtain⟨bm,ob,b1,b2,b3,b4,b5⟩:=B.at_
 have hgP:mainGlobals≠P:=λz=>by
  obtain⟨o,es,ep,e,r⟩:=I.mod.glob;have:=(I.bs _ _ e).2;rw[z,eP] at this;cases this
 have hbP:bm≠P:=λz=>by
  have:=(I.bs _ _ b4).2;rw[z,eP] at this;cases this
 refine kla_eval B_ (PySem.W.kla_makeFunction (mg:=X.mg) Sd I.ok.glob (I.mod.glob.keeps I.bk) T.code (T.hd.keeps I.bk) hP ht hn hgP ⟨bm,ob,b1,b2,b3,hbP,(I.bs _ _ b4).1,b5⟩ λc' wQ h' tk hx hge ky afc Kx=> ?_);obtain⟨c2,oc,vs,t,e2,hoc,hd,hv⟩:=afc;cases e2;have qe:s.heap.objs.size<=h'.objs.size:=aU hge (cT ky);refine h h'.objs.size c' wQ _ (I.bT.fresh qe) (I.bT.fresh hge) (jr ky) qe (I.lam eP (λb o n e=>hx b o n e) Kx hge ⟨oc,vs,t,hoc,hd,hv⟩) (cV _ Z) λb o n e=>bq _ (hx b o n e)
theorem KG{c' :S'}(I:Inv X ad σ H s)(T:rQ X c P)(B:xx X)(B_:defaultsOf params X.env=([],[]))(Sd:closureFor scope X.env=pure lP)(eP:H P=some (.wg ps))(ht:TriplesOk ps.toList)(hf:codeAmong pos ps.toList=some (.ref c'))
 (h:∀f wQ s',H f=none->s.heap.objs.size<=f->Inv X ad σ H s'->s'.heap.get? f=some (uH X params body scope lP c' wQ)->
  (∀b o,s.heap.get? b=some o->s'.heap.get? b=some o)->Q (.ref f) s'):wpAny (model X.prog X.w) X.A (eval (.Lambda params body scope pos) X.env) Q E s:=by
 have hP:s.heap.get? P=some (tabObj ps):=I.bT P _ eP;obtain⟨bm,ob,b1,b2,b3,b4,b5⟩:=B.at_
 have hbP:bm≠P:=λz=>by
  have:=(I.bs _ _ b4).2;rw[z,eP] at this;cases this
 refine kla_eval B_ (PySem.W.kla_makeFunctionHit (mg:=X.mg) Sd I.ok.glob (I.mod.glob.keeps I.bk) T.code (T.hd.keeps I.bk) hP ht hf ⟨bm,ob,b1,b2,b3,hbP,(I.bs _ _ b4).1,b5⟩ λwQ h' tk hk qe=> ?_);have Xj :∀b o,s.heap.get? b=some o->(h'.push (uH X params body scope lP c' wQ)).get? b=some o:=λb o e=>bq _ (hk b o e);exact h h'.objs.size wQ _ (I.bT.fresh qe) qe (I.kept Xj) (cV _ Z) Xj
end
noncomputable def AU(base:Y')(xs:b_):Hp:=λb=>if(base.get? b).isSome=true\/b∈xs then none else some (.wg #[])
theorem Iw{base:Y'}{xs:b_}{b:S'}{o:Obj}(e:base.get? b=some o):AU base xs b=none:=by
 unfold AU;rw[aB (.inl (by rw[e];rfl))]
theorem Lv{base:Y'}{xs:b_}{b:S'}(e:b∈xs):AU base xs b=none:=by
 unfold AU;rw[aB (.inr e)]
theorem Bz{base:Y'}{xs:b_}{b:S'}(e:AU base xs b=none):(∃o,base.get? b=some o)\/b∈xs:=by
 unfold AU at e
 split at e
 .rename_i h;rcases h with h|h
  .exact .inl (Option.isSome_iff_exists.mp h)
  .exact .inr h
 .cases e
section
variable{X:Cx}{ad:aQ}{σ:St}{H:Hp}{s:R'}{xs:b_}
noncomputable abbrev yd(X:Cx)(s:R')(xs:b_):Y':=BX s.heap (AU X.base xs)
theorem KA(I:Inv X ad σ H s){b:S'}{o:Obj}(e:X.base.get? b=some o):(yd X s xs).get? b=some o:=Al (I.bs b o e).1 (Iw e)
theorem Cw{b:S'}{o:Obj}(hb:b∈xs)(e:s.heap.get? b=some o):(yd X s xs).get? b=some o:=Al e (Lv hb)
theorem Inv.abz(I:Inv X ad σ H s)(hH:∀b∈xs,H b=none)(hF:∀b∈xs,b∉Ct X.stack):Cq X.prog X.w X.K X.mg (yd X s xs) X.A X.stack s H:=by
 have up:∀b o,X.base.get? b=some o->(yd X s xs).get? b=some o:=λb o e=>KA I e;obtain⟨mb,h1,h2⟩:=I.mod.blt;refine⟨I.ok.frames,⟨I.mod.xr.keeps up,I.mod.glob.keeps up,⟨mb,h1.keeps up,h2⟩,I.mod.nolimit.keeps up⟩,λb o e=> ?_,oJ (DE _ _),?_,I.vz,I.bT,I.bare⟩
 .obtain⟨e1,e2⟩:=E9 e;refine⟨e1,?_⟩;rcases Bz e2 with⟨o',e3⟩|e3
  .exact(I.bs b o' e3).2
  .exact hH b e3
 .have all:∀(l:List Env),(∀b∈Ct l,b∈Ct X.stack)->s.heap.FunFrames X.base l->s.heap.FunFrames (yd X s xs) l:=by
   intro l
   induction l with
   |nil=>intro _ _;trivial
   |cons env r ih=>
    intro hs hl;obtain⟨hk,⟨L,o,hf,hn,ho,hd⟩,hr⟩:=hl;refine⟨hk,⟨L,o,hf,?_,ho,hd⟩,ih (λb hb=>hs b (by unfold Ct;rw[oo,hf];exact cw _ hb)) hr⟩
    cases q:(yd X s xs).get? L with
    |none=>rfl
    |some o' =>
     obtain⟨_,e2⟩:=E9 q;rcases Bz e2 with⟨o',e3⟩|e3
     .rw[hn] at e3;cases e3
     .exact absurd (hs L (by unfold Ct;rw[oo,hf];exact c5)) (hF L e3)
  exact all X.stack (λ_ h=>h) I.stack
end
theorem PH{X:Cx}{ad:aQ}{σ:St}{H:Hp}{s:R'}{xs:b_}{CX:uo}{k:Nat}{f:S'}{fd:aad}{ps:au}{sp:Sp}{E:XK}{Q:VK}{us ds:aF}{vs dvs:ak}(F:aT X.prog X.w X.K X.mg (yd X s xs) CX k f fd ps sp)(hr:dW k X.A)(hb:Binds X.K fd ps ds)(hd:Vals dvs ds)
 (hx:wf CX X E) (I:Inv X ad σ H s) (hH:∀b∈xs,H b=none) (hF:∀b∈xs,b∉Ct X.stack) (r:Vals vs us) (h:sp (vs++dvs) H Q E):wpAny (model X.prog X.w) X.A (call (.ref f) us) (EP X ad σ Q) X.xe s:=by
 have hl:(us++ds).length=ps.length:=by rw[<-(r.append hd).length];exact F.len _ _ _ _ h
 have hbb:=hb s us I.jN hl;refine og (r_ (F.run X.A X.stack s H ⟨us,[]⟩ (us++ds) (vs++dvs) Q E hr (I.abz hH hF) hbb (r.append hd) h) λr s' hq=> ?_)
 cases r with
 |error e=>exact hx ad σ H s e s' I hq
 |ok fl=>
  cases fl with
  |ret u=>exact I.after hq
  |next=>exact False.elim hq
  |brk=>exact False.elim hq
  |cont=>exact False.elim hq
section
variable{X:Cx}{CX:uo}{j k:Nat}{f:S'}{fd QG :aad}{ps:au}{sp:Sp}{E:XK}{x:Str}{p pos:Pos}{e:V'}{es:b8}{te:TE}{t:TA}
def M4(f:S')(sp:Sp)(E:XK)(te:TE)(t:TA):TE:=λσ H Q=>te σ H λv H1=>v= .ref f/\t σ H1 λvs H2=>sp vs H2 Q E
theorem Nn(F:aT X.prog X.w X.K X.mg X.base CX j f fd ps sp)(hf:∃oc od sl,X.base.get? f=some ⟨oc,od,.func QG,sl⟩)(hr:dW k X.A)(hb:Binds X.K fd ps [])(hx:wf CX X E)(hn:PE X (.Name x p) te)(ha:PA X (e::es) t)(hj:j<=k:=by decide)
 (he:starEach (e::es) X.env=(false,eval e X.env)::starEach es X.env:=by rfl) (ng:(backTo pos (starEach es X.env)).any (·.1)=false:=by rfl):
 PE X (.Call (.Name x p) (e::es) [] pos) (M4 f sp E te t):=by
 intro ad s σ H Q I h;obtain⟨oc,od,sl,lk⟩:=hf;refine lU (di (hn ad s σ H _ I h) ?_)
 rintro u s1 ⟨v,H1,I1,rv,ev,q⟩
 subst ev;cases rv;refine PySem.W.callWith_F ⟨oc,od,QG,sl,I1.bk _ _ lk⟩ (di (ha pos ad s1 σ H1 _ I1 q) λus s2 ⟨vs,H2,I2,r,q2⟩=>⟨⟨oc,od,QG,sl,I2.bk _ _ lk⟩,?_⟩) he ng;have:=xh (dvs:=[]) (ds:=[]) (F.mono hj) hr hb .nil hx I2 r (by rw[fG];exact q2);exact this
theorem KW(F:aT X.prog X.w X.K X.mg X.base CX j f fd ps sp)(hf:∃oc od sl,X.base.get? f=some ⟨oc,od,.func QG,sl⟩)(hr:dW k X.A)(hb:Binds X.K fd ps [])(hx:wf CX X E)(hn:PE X (.Name x p) te)(hj:j<=k:=by decide):
 PE X (.Call (.Name x p) [] [] pos) (M4 f sp E te sQ):=by
 intro ad s σ H Q I h;obtain⟨oc,od,sl,lk⟩:=hf;refine lU (di (hn ad s σ H _ I h) ?_)
 rintro u s1 ⟨v,H1,I1,rv,ev,q⟩
 subst ev;cases rv;exact PySem.W.callWith_F0 ⟨oc,od,QG,sl,I1.bk _ _ lk⟩ (xh (us:=[]) (dvs:=[]) (ds:=[]) (F.mono hj) hr hb .nil hx I1 .nil q)
end
structure uM(X:Cx)(scope:Scope)(lP:List (Str×S'))(fr:au)(js:List Nat):Prop where
 cl:closureFor scope X.env=pure lP
 len:js.length=fr.length
 slot:∀(i j:Nat) x,js[i]? =some j->fr[i]? =some x->X.N[j]? =some x
 kind:∀x∈fr,X.env.kindOf x=some .cell
 fn:∀x∈fr,X.fn x=true
 yO:∀x∈fr,lP.lookup x=X.env.cells.lookup x
 sub:∀x c,lP.lookup x=some c->x∈fr
theorem uM.none{X:Cx}{scope:Scope}(h:closureFor scope X.env=pure []):uM X scope [] [] []:=
 ⟨h,Z,λi j x e=>by simp at e,λx h=>(nomatch h),λx h=>(nomatch h),λx h=>(nomatch h),λx c e=>by simp at e⟩
def Gj(P:S')(oA:Pos)(q:Str)(sp:S'->S'->ak->Sp)(E:XK)(js:List Nat)(dvs:ak)(t:TA):TE:=λσ H Q=>t σ H λvs H1=>∃(ps:Array M') (kl:ak),H1 P=some (.wg ps)/\TriplesOk ps.toList/\kl.length=js.length/\(∀(i j:Nat) v,js[i]? =some j->kl[i]? =some v->σ[j]? =some (some v))/\
 ((codeAmong oA ps.toList=none/\∀f c',H1 f=none->H1 c' =none->f≠c'->sp f c' kl (vs++[.ref f]++dvs) (upd (upd H1 P (.wg (ps++ #[rawInt oA.line,rawInt oA.col,.ref c']))) c' (.ext (iG c' q))) Q E)\/
  ∃c',codeAmong oA ps.toList=some (.ref c')/\H1 c' =some (.ext (iG c' q))/\∀f,H1 f=none->sp f c' kl (vs++[.ref f]++dvs) H1 Q E)
section
variable{X:Cx}{CX:uo}{j k:Nat}{g c P:S'}{Yv:aad}{Yj fr:au}{js:List Nat}{sp:S'->S'->ak->Sp}{E:XK}{x:Str}{p pos oA:Pos}{e:V'}{t:TA}{ds:aF}{dvs:ak}{params:Arguments}{body:V'}{scope:Scope}{lP:List (Str×S')}
theorem JK{ad:aQ}{σ:St}{H:Hp}{s:R'}{Q:VK}{us0:aF}{vs:ak}(T:rQ X c P)(B:xx X)(C:uM X scope lP fr js)(B_:defaultsOf params X.env=([],[]))
 (F:∀(g_ :Y') (f c' :S') (wQ:M') (kl:ak),g_.get? f=some (uH X params body scope lP c' wQ)->z_ g_ lP fr kl->aT X.prog X.w X.K X.mg g_ CX k g Yv Yj (sp f c' kl)) (hr:dW k X.A) (hb:Binds X.K Yv Yj ds) (hd:Vals dvs ds) (hx:wf CX X E)
 (I:Inv X ad σ H s) (r:Vals vs us0) (h:Gj P oA (X.env.qual++ "<lambda>") sp E js dvs (λσ H Q' =>Q' vs H) σ H Q):
 wpAny (model X.prog X.w) X.A (eval (.Lambda params body scope oA) X.env) (λu s1=>X.K.In s1.heap/\wpAny (model X.prog X.w) X.A (call (.ref g) (us0++[u])) (EP X ad σ Q) X.xe s1) X.xe s:=by
 obtain⟨ps,kl,eP,ht,pz,hfv,aas⟩:=h
 have cells:∀y∈fr,∃c,X.env.cells.lookup y=some c/\X.fO.heap.objs.size<=c:=λy hy=>by
  obtain⟨c,e⟩:=I.ok.has y (.inl (C.kind y hy));exact⟨c,e,I.ok.Ui y c (C.fn y hy) e⟩
 have fin:∀{H' :Hp} {s' :R'} {f c' :S'} {wQ:M'},Inv X ad σ H' s'->H' f=none->s.heap.objs.size<=f->s'.heap.get? f=some (uH X params body scope lP c' wQ)->sp f c' kl (vs++[.ref f]++dvs) H' Q E->
  X.K.In s'.heap/\wpAny (model X.prog X.w) X.A (call (.ref g) (us0++[.ref f])) (EP X ad σ Q) X.xe s' :=by
  intro H' s' f c' wQ I' hf J4 lk hq;refine⟨I'.jN,?_⟩;have QS:∀b∈Ct X.stack,b=X.env.locals\/b∈X.fs:=λb hb=>aP.mp (I'.AO b hb)
  have fsz:∀b∈X.fs,b<X.fO.heap.objs.size:=λb hb=>by
   obtain⟨_,o,ho,_⟩:=I.ok.sS.mem hb;exact a_ ho
  have CU:∀b∈f::fr.filterMap (λy=>X.env.cells.lookup y),H' b=none/\b∉Ct X.stack:=λb hb=>by
   rcases aP.mp hb with rfl|hb
   .refine⟨hf,λz=> ?_⟩;rcases QS _ z with z|z
    .exact absurd (cQ I.lt (z▸J4)) (cA _)
    .exact absurd (cQ (fsz _ z) (aU I.sz J4)) (cA _)
   .obtain⟨y,hy,e⟩:=wo.mp hb;refine⟨I'.jZ y b e,λz=> ?_⟩;rcases QS _ z with z|z
    .exact I'.O8 y b e z
    .obtain⟨c1,e1,hc1⟩:=cells y hy;rw[e] at e1;cases e1;exact absurd (cQ (fsz _ z) hc1) (cA _)
  have aeS:z_ (yd X s' (f::fr.filterMap (λy=>X.env.cells.lookup y))) lP fr kl:=by
   refine⟨by rw[pz,C.len],λi y v e1 e2=> ?_,λy z c0 e1 e2=> ?_,C.sub⟩
   .have hi:i<js.length:=by rw[C.len];exact(c9.mp e1).1
    have ej:js[i]? =some js[i]:=by simp
    have hy:=bD e1;obtain⟨m,_,hl⟩:=I'.loc;obtain⟨u,rv,l⟩:=hl js[i] y v (C.slot i _ y ej e1) (hfv i _ v ej e2) (.inr (.inl (C.kind y hy)));rcases l with⟨l1,_⟩|⟨_,c0,l1,o,ho,hd⟩
    .rw[C.kind y hy] at l1;cases l1
    .exact⟨c0,u,(C.yO y hy).trans l1,⟨o,Cw (cw _ (wo.mpr ⟨y,hy,l1⟩)) ho,hd⟩,rv⟩
   .exact I.ok.inj y z c0 ((C.yO y (C.sub y c0 e1)).symm.trans e1) ((C.yO z (C.sub z c0 e2)).symm.trans e2)
  have r2:Vals (vs++[.ref f]) (us0++[.ref f]):=r.append (.cons Z .nil);exact PH (F _ f c' wQ kl (Cw c5 lk) aeS) hr hb hd hx I' (λb hb=>(CU b hb).1) (λb hb=>(CU b hb).2) r2 hq
 rcases aas with⟨hn,hq⟩|⟨c',hh,hc,hq⟩
 .refine Xl I T B B_ C.cl eP ht hn λf c' wQ s' hf hc0 wN J4 I' lk _=>fin I' ?_ J4 lk (hq f c' hf hc0 wN);rw[az wN,az (λz=>by rw[z,eP] at hf;cases hf)];exact hf
 .exact KG I T B B_ C.cl eP ht hh λf wQ s' hf J4 I' lk _=>fin I' hf J4 lk (hq f hf)
theorem QX(T:rQ X c P)(B:xx X)(C:uM X scope lP fr js)
 (F:∀(g_ :Y') (f c' :S') (wQ:M') (kl:ak),g_.get? f=some (uH X params body scope lP c' wQ)->z_ g_ lP fr kl->aT X.prog X.w X.K X.mg g_ CX j g Yv Yj (sp f c' kl)) (hr:dW k X.A) (hg:Gl X x) (hm:X.mg x=some (.ref g)) (hk:PySem.W.keepIn X.K (.ref g)=true) (hb:Binds X.K Yv Yj ds) (hd:Vals dvs ds) (hx:wf CX X E)
 (hj:j<=k:=by decide) (B_:defaultsOf params X.env=([],[]):=by rfl) (rD:(x==("__debug__" :Str))=false:=by decide) (he:starEach [.Lambda params body scope oA] X.env=[(false,eval (.Lambda params body scope oA) X.env)]:=by rfl):
 PE X (.Call (.Name x p) [.Lambda params body scope oA] [] pos) (Gj P oA (X.env.qual++ "<lambda>") sp E js dvs sQ):=by
 intro ad s σ H Q I h;refine lU (kN I hg hm ?_ rD);refine rP (h₀:=X.base) I.ok.mod.xr hk ?_ he rfl;rw[he];show wpAny _ _ (spliced ((false,eval (.Lambda params body scope oA) X.env)::[])) _ _ s;refine uz (di (JK (us0:=[]) (vs:=[]) T B C B_ (λb f c' wQ kl h1 h2=>(F b f c' wQ kl h1 h2).mono hj) hr hb hd hx I .nil h) λu s1 hu=>wG hu)
theorem Q8{te:TE}(T:rQ X c P)(B:xx X)(C:uM X scope lP fr js)
 (F:∀(g_ :Y') (f c' :S') (wQ:M') (kl:ak),g_.get? f=some (uH X params body scope lP c' wQ)->z_ g_ lP fr kl->aT X.prog X.w X.K X.mg g_ CX j g Yv Yj (sp f c' kl)) (hr:dW k X.A) (hg:Gl X x) (hm:X.mg x=some (.ref g)) (hk:PySem.W.keepIn X.K (.ref g)=true) (hb:Binds X.K Yv Yj ds) (hd:Vals dvs ds) (hx:wf CX X E) (ha:PE X e te)
 (hj:j<=k:=by decide) (B_:defaultsOf params X.env=([],[]):=by rfl) (rD:(x==("__debug__" :Str))=false:=by decide) (he:starEach [e,.Lambda params body scope oA] X.env=[(false,eval e X.env),(false,eval (.Lambda params body scope oA) X.env)]:=by rfl) (he2:starEach [.Lambda params body scope oA] X.env=[(false,eval (.Lambda params body scope oA) X.env)]:=by rfl):
 PE X (.Call (.Name x p) [e,.Lambda params body scope oA] [] pos) (Gj P oA (X.env.qual++ "<lambda>") sp E js dvs (tL te sQ)):=by
 intro ad s σ H Q I h;refine lU (kN I hg hm ?_ rD);refine rP (h₀:=X.base) I.ok.mod.xr hk ?_ (by rw[he,he2]) (by rw[he2];rfl);rw[he];show wpAny _ _ (spliced ((false,eval e X.env)::(false,eval (.Lambda params body scope oA) X.env)::[])) _ _ s;refine uz (di (ha ad s σ H _ I h) ?_)
 rintro u s1 ⟨v,H1,I1,r1,q1⟩
 exact uz (di (JK (us0:=[u]) (vs:=[v]) T B C B_ (λb f c' wQ kl h1 h2=>(F b f c' wQ kl h1 h2).mono hj) hr hb hd hx I1 (.cons r1 .nil) q1) λu2 s2 hu=>wG hu)
end
structure Kn(tabs:List (S'×Array M'))(H:Hp):Prop where
 only:∀b,H b=none\/(∃o xs,H b=some (.FW o (.lst xs)))\/∃ps,(b,ps)∈tabs/\H b=some (.wg ps)
 at_:∀P ps,(P,ps)∈tabs->H P=some (.wg ps)
theorem DC{β:Type}{l:List (S'×β)}{k:S'}{v:β}(h:l.lookup k=some v):(k,v)∈l:=by
 obtain⟨l1,l2,e,_⟩:=E5.mp h;rw[e];simp
theorem LD{P:Z'}{w:W'}{K:Frag}{mg mb:Str->aO}{CX:uo}{k:Nat}{fa a:S'}{fd:aad}{x:Str}{sp:Sp}{bR:R'}{vs:aF}{ns:List Int}{tabs:List (S'×Array M')}
 (KX:K.In bR.heap) (Py:bR.heap.Ns mainGlobals mg) (hb:bR.heap.Ns builtinsNs mb) (hbb:∀x:Str,x≠ "__name__" ->mb x=bootBuiltins x) (aff:bR.heap.NoLimit) (hg:bR.gens= #[])
 (ha:bR.heap.get? a=some {cls:= .type "list",data:= .seq vs.toArray}) (hi:IntsAre vs ns) (hl:ns.length<=sizeLine) (hr:dW k callerA)
 (Kx:∀Pt ps,(Pt,ps)∈tabs->bR.heap.get? Pt=some (tabObj ps)/\K.lookup Pt=none/\∃c,CodeHd bR.heap c Pt) (htn:∀Pt ps Lk,(Pt,ps)∈tabs->(Pt,Lk)∈tabs->ps=Lk)
 (F:∀base:Y',K.In base->base.Ns mainGlobals mg->aT P w K mg base CX k fa fd [x] sp) (aa1:∀(s:R') (u:M'),BindsTo s fd ⟨[u],[]⟩ [(x,u)])
 (DG:∀H:Hp,Kn tabs H->cF K H a (ns.map V.int)->sp [.ref a] H (λv _=>v= .bl true) λ_ _ _=>False)
 (hCX:∀H e s',CX [] H bR (λ_ _ _=>False) e s'->False):
 codeAny (model P w) callerA (.call (.ref fa) ⟨[.ref a],[]⟩) (λr s' =>r= .ok (.ret (.bool true))/\OldK bR.heap s'.heap/\s'.os=bR.os/\AllBare s'.gens) bR:=by
 have rv:=DD hi;have aeU:=hi.length
 have core:∀H:Hp,Kn tabs H->cF K H a (ns.map V.int)->pG P w H bR.heap->(∀b,H b≠none->K.lookup b=none/\∀o es ep,bR.heap.get? b=some o->o.data≠.dict es ep)->
  codeAny (model P w) callerA (.call (.ref fa) ⟨[.ref a],[]⟩) (λr s' =>r= .ok (.ret (.bool true))/\OldK bR.heap s'.heap/\s'.os=bR.os/\AllBare s'.gens) bR:=by
  intro H hO hS bT hK;have JH:∀{b:S'} {o:Obj},bR.heap.get? b=some o->H b=none->(BX bR.heap H).get? b=some o:=λe n=>Al e n
  have PB:∀{b:S'} {o:Obj} {es:Array DictEntry} {ep:Nat},bR.heap.get? b=some o->o.data= .dict es ep->H b=none:=λ{b o es ep} e d=>by
   cases q:H b with
   |none=>rfl
   |some u=>exact absurd d ((hK b (by rw[q];simp)).2 o es ep e)
  have nsK:∀{b:S'} {m:Str->aO},bR.heap.Ns b m->(BX bR.heap H).Ns b m:=λ{b m} ⟨o,es,ep,e,d,r⟩=>⟨o,es,ep,JH e (PB e d),d,r⟩
  have hKb:K.In (BX bR.heap H):=λb o e=>JH (KX b o e) (by
   cases q:H b with
   |none=>rfl
   |some u=>
    rw[(hK b (by rw[q];simp)).1] at e;cases e)
  have hM:Mod K mg (BX bR.heap H):=⟨hKb,nsK Py,⟨mb,nsK hb,hbb⟩,let⟨mc,h1,h2⟩:=aff;⟨mc,nsK h1,h2⟩⟩;have e0:Cq P w K mg (BX bR.heap H) callerA [] bR H:=⟨Z,hM,λb o e=>E9 e,oJ (DE _ _),trivial,λb hb=>absurd (show b∈([]:b_) from hb) (by simp),bT,.of_eq hg⟩;refine r_ ((F _ hKb (nsK Py)).run callerA [] bR H ⟨[.ref a],[]⟩ [.ref a] [.ref a] _ _ hr e0 (aa1 bR (.ref a)) (.cons Z .nil) (DG H hO hS)) λr s' h=> ?_
  cases r with
  |error e=>exact(hCX H e s' h).elim
  |ok fl=>
   cases fl with
   |next=>exact False.elim h
   |brk=>exact False.elim h
   |cont=>exact False.elim h
   |ret u=>
    obtain⟨v,H',os,bare,un,aag,r',q⟩:=h;have q' :v= .bl true:=q;subst q';obtain rfl:u=Value.bool true:=r';refine⟨Z,⟨λb o e=> ?_,λb o e=>un.there b o e (by simp)⟩,os,bare⟩
    cases q:H b with
    |none=>exact .inl (un.keep b o e q (by intro z;exact absurd (show b∈([]:b_) from z) (by simp)) (by simp))
    |some u=>
     rcases hO.only b with z|⟨ob,xs,z⟩|⟨ps,hm,z⟩
     .rw[q] at z;cases z
     .have z2:=un.Ax b ob _ z;obtain⟨e1,_⟩:=bT b _ z;obtain⟨e2,_⟩:=aag b _ z2;rw[e] at e1;cases e1
      exact .inl e2
     .obtain⟨more,z2⟩:=un.A9 b ps z;have e2:s'.heap.get? b=some {cls:= .none,data:= .fields (ps++more)}:=aag b _ z2;obtain⟨e1,_,c,hc⟩:=Kx b ps hm;rw[e] at e1;cases e1;exact .inr (.inl ⟨(hc.tab e).isCodeTable,Z,ps,more,Z,e2⟩)
 have nPa:∀Pt ps,(Pt,ps)∈tabs->Pt≠a:=λPt ps hm z=>by
  have:=(Kx Pt ps hm).1;rw[z,ha] at this;cases this
 have mk:∀u:Option HO,(∀x,u=some x->x= .FW {cls:= .type "list",data:= .seq vs.toArray} (.lst (ns.map V.int))/\K.lookup a=none)->
  ∃H:Hp,H a=u/\Kn tabs H/\pG P w H bR.heap/\∀b,H b≠none->K.lookup b=none/\∀o es ep,bR.heap.get? b=some o->o.data≠.dict es ep:=by
  intro u hu
  have lk:∀Pt ps,(Pt,ps)∈tabs->tabs.lookup Pt=some ps:=λPt ps hm=>by
   cases q:tabs.lookup Pt with
   |none=>
    have:=List.lookup_eq_none_iff.mp q (Pt,ps) hm;simp at this
   |some Lk =>rw[htn Pt ps Lk hm (DC q)]
  have at' :∀Pt ps,(Pt,ps)∈tabs->(if Pt=a then u else(tabs.lookup Pt).map HO.wg)=some (.wg ps):=λPt ps hm=>by rw[ax (nPa Pt ps hm),lk Pt ps hm];rfl
  have HP :∀b x,(if b=a then u else(tabs.lookup b).map HO.wg)=some x->(b=a/\u=some x)\/∃ps,(b,ps)∈tabs/\x= .wg ps:=λb x e=>by
   by_cases hb:b=a
   .rw[aB hb] at e;exact .inl ⟨hb,e⟩
   .rw[ax hb] at e;obtain⟨ps,e1,rfl⟩:=Ed.mp e;exact .inr ⟨ps,DC e1,Z⟩
  refine⟨λb=>if b=a then u else(tabs.lookup b).map HO.wg,aB Z,⟨λb=> ?_,at'⟩,λb x e=> ?_,λb hb=> ?_⟩
  .cases q:(if b=a then u else(tabs.lookup b).map HO.wg) with
   |none=>exact .inl rfl
   |some x=>
    rcases HP b x q with⟨_,e⟩|⟨ps,hm,rfl⟩
    .obtain⟨rfl,_⟩:=hu x e;exact .inr (.inl ⟨_,_,Z⟩)
    .exact .inr (.inr ⟨ps,hm,Z⟩)
  .rcases HP b x e with⟨wO,e'⟩|⟨ps,hm,rfl⟩
   .obtain⟨rfl,_⟩:=hu x e';subst wO;exact⟨ha,by rw[a6];exact hl,vs,_,rv,ha⟩
   .exact(Kx b ps hm).1
  .obtain⟨x,q⟩:=Option.ne_none_iff_exists'.mp hb;rcases HP b x q with⟨wO,e'⟩|⟨ps,hm,rfl⟩
   .subst wO;refine⟨(hu x e').2,λo es ep eo d=> ?_⟩;rw[ha] at eo;cases eo;cases d
   .obtain⟨e1,e2,_⟩:=Kx b ps hm;refine⟨e2,λo es ep eo d=> ?_⟩;rw[e1] at eo;cases eo;cases d
 cases hk:K.lookup a with
 |some o=>
  have e:=KX a o hk;rw[ha] at e;cases e;obtain⟨H,_,hO,bT,hK⟩:=mk none (λx e=>(nomatch e));exact core H hO (.inr ⟨_,vs.toArray,_,hk,Z,Z,Z,by rw[bJ,aeU];exact hl,by simpa using rv⟩) bT hK
 |none=>
  obtain⟨H,eH,hO,bT,hK⟩:=mk (some (.FW {cls:= .type "list",data:= .seq vs.toArray} (.lst (ns.map V.int)))) (λx e=>by cases e;exact⟨Z,hk⟩);exact core H hO (.inl (.inr ⟨_,eH⟩)) bT hK
theorem Mi{l:PySem.W.OpenLaw}{n k:Nat}{q:Z'}{loose:au}{XP:(Str->aO)->Y'->Prop}{YP:W'->Y'->Prop}{d:DefRec}{K:Params->Frag}{CX:W'->uo}{sp:W'->Sp}{x:Str}{tabs:List (S'×Array M')}
 (hn:l.most=some n) (Yz:n<=sizeLine) (ZM:d.params.defaults=[]) (hr:dW k callerA)
 (hY:∀(w:W') (h:Y'),YP w h->(K w.params).In h/\∀Pt ps,(Pt,ps)∈tabs->h.get? Pt=some (tabObj ps)/\(K w.params).lookup Pt=none/\∃c,CodeHd h c Pt) (htn:∀Pt ps Lk,(Pt,ps)∈tabs->(Pt,Lk)∈tabs->ps=Lk)
 (F:∀(w:W') (mg:Str->aO) (fa:S') (h:Y'),(K w.params).In h->h.Ns mainGlobals mg->mg d.name=some (.ref fa)->
  ∃fd:aad,(∀(s:R') (u:M'),BindsTo s fd ⟨[u],[]⟩ [(x,u)])/\
   ∀base:Y',(K w.params).In base->base.Ns mainGlobals mg->aT l.prog w (K w.params) mg base (CX w) k fa fd [x] (sp w))
 (DG:∀(w:W') (H:Hp) (a:S') (ns:List Int),ns.length<=n->Kn tabs H->cF (K w.params) H a (ns.map V.int)->sp w [.ref a] H (λv _=>v= .bl true) λ_ _ _=>False)
 (hCX:∀(w:W') (H:Hp) (s:R') (e:M') (s' :R'),CX w [] H s (λ_ _ _=>False) e s'->False):
 PySem.W.WalkO q loose XP YP l.row.toRowW d [] (λf vs=>PySem.call f vs):=by
 refine Att.GK hn ZM λw fO bR mg mb fa o pm cd doc a vs ns G Y ho hd Av Rm Wv hints hlen hg=> ?_;obtain⟨KX,Kx⟩:=hY w _ Y;obtain⟨fd,hb,hF⟩:=F w mg fa _ KX G.T.g Rm;exact LD KX G.T.g G.T.b G.T.builtins G.T.nolimit hg Wv hints (aU hlen Yz) hr Kx htn hF hb (λH hO hS=>DG w H a ns hlen hO hS) λH e s' =>hCX w H bR e s'
structure Bq(P:Z')(w:W')(K:Frag)(d:S')(kvs:eJ):Prop where
 ex:∃o vs,K.lookup d=some o/\(d==sysModules)=false/\KV kvs vs/\∀h:Y',h.get? d=some o->h.DictOf (cW P w) d vs
def Vm(d:S')(kvs:eJ)(ta tb:TE):TE:=λσ H Q=>ta σ H λx H1=>tb σ H1 λy H2=>∃k v,x= .ref d/\y=kV k/\eV kvs k=some v/\Q v H2
def Ny(d:S')(kvs:eJ)(ty td:TE):TE:=λσ H Q=>ty σ H λy H1=>td σ H1 λx H2=>∃k,x= .ref d/\y=kV k/\Q (.bl (!(eV kvs k).isSome)) H2
section
variable{X:Cx}{d:S'}{kvs:eJ}{o i:V'}{pos:Pos}{td ty:TE}
theorem Bq.at_{P:Z'}{w:W'}{K:Frag}{h:Y'}(kd:Bq P w K d kvs)(X:K.In h):(d==sysModules)=false/\∃vs,KV kvs vs/\h.DictOf (cW P w) d vs:=by
 obtain⟨o,vs,lk,ns,rel,f⟩:=kd.ex;exact⟨ns,vs,rel,f h (X _ _ lk)⟩
theorem qO(kd:Bq X.prog X.w X.K d kvs)(ho:PE X o td)(hi:PE X i ty)(hs:aaf i:=by exact λ_ _=>rfl):PE X (.Subscript o i pos) (Vm d kvs td ty):=by
 intro ad s σ H Q I h;refine Rp PySem.F.slot_dict_getitem.lookup hs (di (ho ad s σ H _ I h) λu s1 ⟨x,H1,I1,rx,q1⟩=>di (hi ad s1 σ H1 _ I1 q1) ?_)
 rintro iv s2 ⟨y,H2,I2,ry,k,v,ex,ey,l,q2⟩
 subst ex ey;obtain rfl:u=Value.ref d:=rx;obtain⟨hd,vs,rel,dd⟩:=kd.at_ I2.jN;obtain⟨w',hw,MA⟩:=m4.some_of (v:=v) (o:=valueAt vs k) (by rw[<-l];exact rel.val k);obtain⟨ob,es,ep,e1,e2,_⟩:=id dd;exact⟨⟨ob,e1,e2.1⟩,wpAny_getItem_of (F6 ry) dd.mapOf hw ⟨v,H2,I2.tok _,MA,q2⟩⟩
theorem HS(kd:Bq X.prog X.w X.K d kvs)(hi:PE X i ty)(ho:PE X o td):PC X .NotIn i o (Ny d kvs ty td):=by
 intro ad s σ H Q I h;refine di (hi ad s σ H _ I h) λiv s1 ⟨y,H1,I1,ry,q1⟩=>di (ho ad s1 σ H1 _ I1 q1) ?_
 rintro u s2 ⟨x,H2,I2,rx,k,ex,ey,q2⟩
 subst ex ey;obtain rfl:u=Value.ref d:=rx;obtain⟨hd,vs,rel,dd⟩:=kd.at_ I2.jN;refine wpAny_notIn_of (F6 ry) hd dd.mapOf ?_;rw[<-(rel.val k).Lw];exact⟨.bl _,H2,I2.tok _,Z,q2⟩
end
structure zX(K:Frag)(cd:M')(P:S'):Prop where
 ex:∃c o vs file tf flags tg inF text tt,cd= .ref c/\K.lookup c=some o/\o.cls= .type "code" /\o.data= .fields vs/\vs[11]? =some (.ref P)/\vs.getD 11 .none= .ref P/\vs.getD 18 .none= .str file tf/\
  vs.getD 7 .none= .int flags tg/\vs.getD 9 .none= .bool inF/\vs.getD 10 .none= .int text tt/\c≠P
theorem zX.tab{X:Cx}{cd:M'}{P:S'}(h:zX X.K cd P)(m:X.K.In X.base)(e:X.env.code=cd):∃c,rQ X c P:=by
 obtain⟨c,o,vs,file,tf,flags,tg,inF,text,tt,e1,e2,r⟩:=h.ex;exact⟨c,e.trans e1,o,vs,file,tf,flags,tg,inF,text,tt,m _ _ e2,r⟩
theorem zX.hd{K:Frag}{cd:M'}{P:S'}{h:Y'}(k:zX K cd P)(m:K.In h):∃c,CodeHd h c P:=by
 obtain⟨c,o,vs,file,tf,flags,tg,inF,text,tt,e1,e2,r⟩:=k.ex;exact⟨c,o,vs,file,tf,flags,tg,inF,text,tt,m _ _ e2,r⟩
structure PL(K:Frag)(mg:Str->aO):Prop where
 ex:∃bm o,mg "__builtins__"=some (.ref bm)/\bm≠builtinsNs/\bm≠mainGlobals/\K.lookup bm=some o/\o.cls= .type "module" /\o.dict=some builtinsNs/\o.data= .plain
theorem PL.mod{X:Cx}(h:PL X.K X.mg)(m:X.K.In X.base):xx X:=by
 obtain⟨bm,o,e1,e2,e3,e4,r⟩:=h.ex;exact⟨bm,o,e1,e2,e3,m _ _ e4,r⟩
section
variable{P:Z'}{w:W'}{K:Frag}{mg:Str->aO}{base:Y'}{x qual:Str}{st:Stmt}{f:S'}{fd:aad}{N ps:au}{k:Nat}{sp:Sp}
theorem Ga.okC{CX:uo}(F:Ga K x qual st f fd)(S:aJ N ps (av st))
 (hb:∀(A:X') (outer:List Env) (s:R') (H:Hp) (vs:ak) (Q:VK) (E:XK),dW k (A.deeper (envOfC qual (av st) s.heap.objs.size f fd.code))->sp vs H Q E->
  ∃t,CG (ny CX P w K mg base N qual (av st) f fd.code A outer s H E) (dN st) t/\t {nx:=λ_ H' =>Q .bp H',rt:=Q} (start N vs) H)
 (len:∀vs H Q E,sp vs H Q E->vs.length=ps.length:=by intro _ _ _ _ h;repeat (first|(obtain⟨rfl,_⟩:=h;rfl)|obtain⟨_,h⟩:=h)):aT P w K mg base CX (k+1) f fd ps sp:=by
 obtain⟨oc,od,kV,doc,pm,an,cB,ct,xM,rfl,lk,Av⟩:=F.ex;exact J8 lk Av S len λA outer s H vs Q E hr DG=>hb A outer s H vs Q E hr DG
end
section
variable{prog:Z'}{w:W'}{A:X'}{E:J'}{s:R'}
theorem hZ{it t:S'}{i:Nat}{items}{x:M'}{Q:J'}(hit:s.heap.IsTupleIter it t i)(ht:s.heap.IsTuple t items)(hx:items[i]? =some x)
 (hQ:∀h',h'.IsTupleIter it t (i+1)->Heap.SameBut it s.heap h'->Q x {s with heap:=h'}):wpAny (model prog w) A (Builtin.SmallTypes.nextOf (.ref it)) Q E s:=by
 obtain⟨o,ho,hc,hd⟩:=id hit;obtain⟨ol,hol,_,nl,hdl⟩:=ht;unfold Builtin.SmallTypes.nextOf
 refine aw (xw (name:=Str.ofString "__next__") hit.typeIs zJ
  (uk zJ hit.typeIs F.entry_tuple_iterator_next ?_ (F.args_tuple_iterator_next_1 _)))
 show wpAny _ _ (field (.ref it) 0>>= _) _ _ s;refine aw (cZ ho hd (x:= .ref t) Z ?_);show wpAny _ _ (if(Value.ref t==Value.none)=true then _ else _) _ _ s;rw[ax (show ¬((Value.ref t==Value.none)=true) from cU)];show wpAny _ _ (field (.ref it) 1>>= _) _ _ s;refine aw (cZ ho hd (x:= .int i 0) Z ?_);show wpAny _ _ (seqItems? (.ref t)>>= _) _ _ s;refine aw (oR hol hdl ?_);simp only[nB,hx];refine aw (uw ho hd (by simp) (aY ⟨x,Z,aY (hQ _ ?_ (Heap.SameBut.update ..))⟩))
 exact⟨_,ma _ ho (zj (uA hd _)),(Obj.cls_mapFields ..).trans hc,by
  rw[uA hd];simp[rawInt]⟩
theorem qf{it t:S'}{i:Nat}{items}{Q:J'}(hh:A.handled=none)(hit:s.heap.IsTupleIter it t i)(ht:s.heap.IsTuple t items)(hx:items[i]? =none)
 (hE:∀h' e,Heap.ExtBut it s.heap h'->(∃o,h'.get? e=some o/\o.cls= .type "StopIteration")->E (.ref e) {s with heap:=h'}):wpAny (model prog w) A (Builtin.SmallTypes.nextOf (.ref it)) Q E s:=by
 obtain⟨o,ho,hc,hd⟩:=id hit;obtain⟨ol,hol,_,nl,hdl⟩:=ht;unfold Builtin.SmallTypes.nextOf
 refine aw (xw (name:=Str.ofString "__next__") hit.typeIs zJ
  (uk zJ hit.typeIs F.entry_tuple_iterator_next ?_ (F.args_tuple_iterator_next_1 _)))
 show wpAny _ _ (field (.ref it) 0>>= _) _ _ s;refine aw (cZ ho hd (x:= .ref t) Z ?_);show wpAny _ _ (if(Value.ref t==Value.none)=true then _ else _) _ _ s;rw[ax (show ¬((Value.ref t==Value.none)=true) from cU)];show wpAny _ _ (field (.ref it) 1>>= _) _ _ s;refine aw (cZ ho hd (x:= .int i 0) Z ?_);show wpAny _ _ (seqItems? (.ref t)>>= _) _ _ s;refine aw (oR hol hdl ?_);simp only[nB,hx];refine aw (sk (aw (uw ho hd (by simp) ?_)));show wpAny _ _ (newExc (.type "StopIteration") []>>= _) _ _ _;refine aw ?_;simp only[newExc,newTuple];refine aw (oP ?_ (by size_fits));refine aw (m:=firstArgMember _ _) (wpAny_of_eq (a:=Value.none) (by first|rfl|(simp only[firstArgMember];rfl)) ?_);refine oP ?_ (by size_fits);simp only[raiseNew];refine aw (wpAny_handled ?_)
 first|rw[show A.in1.handled=none from hh]|rw[hh]
 refine aw (aY (wpAny_throw ?_));exact hE _ _ (((Heap.SameBut.update ..).extBut.push _).push _) ⟨_,cV _ Z,Z⟩
abbrev OP(h:Y')(z TI TO:S')(f0:M')(f:Bool):Prop:=
 h.get? z=some {cls:= .type "zip",dict:=none,data:= .fields #[f0,.bool f,.bool false,.ref TI,.ref TO],slots:= #[]}
abbrev adb(h:Y')(z TO i1 i2 S:S')(f0:M')(f:Bool):Prop:=(f0= .none/\f=false)\/∃(a:S') (oa:Obj),f0=rawInt a/\h.get? a=some oa/\a≠z/\a≠TO/\a≠i1/\a≠i2/\a≠S
structure Mp(h:Y')(z TI TO i1 i2 t1 t2 S:S')(xs ys:Array M')(k:Nat):Prop where
 z:∃f0 f,OP h z TI TO f0 f/\adb h z TO i1 i2 S f0 f
 ti:IsPair h TI (.ref i1) (.ref i2)
 to:∃a b,IsPair h TO a b
 h1:h.IsTupleIter i1 t1 k
 h2:h.IsTupleIter i2 t2 k
 l1:h.IsTuple t1 xs
 l2:h.IsTuple t2 ys
end
section
variable{prog:Z'}{w:W'}{A:X'}{E:J'}{s:R'}
theorem MB{z TI TO i1 i2 l1 l2:S'}{k1 k2:Nat}{xs ys:Array M'}{x y a b:M'}{Q:J'}(D:ZipApart z TI TO i1 i2 l1 l2)
 (hz:IsZip s.heap z TI TO .none) (Kc:IsPair s.heap TI (.ref i1) (.ref i2)) (Pe:IsPair s.heap TO a b)
 (h1:s.heap.IsTupleIter i1 l1 k1) (h2:s.heap.IsTupleIter i2 l2 k2) (Et:s.heap.IsTuple l1 xs) (n6:s.heap.IsTuple l2 ys) (hx:xs[k1]? =some x) (hy:ys[k2]? =some y)
 (hQ:∀h',IsZip h' z TI TO (rawInt s.heap.objs.size)->IsPair h' TO x y->h'.IsTupleIter i1 l1 (k1+1)->h'.IsTupleIter i2 l2 (k2+1)->IsPair h' s.heap.objs.size x y->h'.objs.size=s.heap.objs.size+1->
  (∀c o,c≠z->c≠TO->c≠i1->c≠i2->s.heap.get? c=some o->h'.get? c=some o)->Q (.ref s.heap.objs.size) {s with heap:=h'}):
 wpAny (model prog w) A (Builtin.«zip.__next__» ⟨[.ref z],[]⟩) (λfin s' =>∃v,fin= .done (.ret v)/\Q v s') E s:=by
 show wpAny _ _ (field (.ref z) 2>>= _) _ _ _;refine aw (cZ hz Z (x:= .bool false) Z ?_);show wpAny _ _ (field (.ref z) 3>>= _) _ _ _;refine aw (cZ hz Z (x:= .ref TI) Z ?_);refine aw (oR Kc Z ?_);show wpAny _ _ (Builtin.SmallTypes.ownedTupleIsFree (.ref z)>>= _) _ _ _;refine aw ?_;unfold Builtin.SmallTypes.ownedTupleIsFree;refine aw (cZ hz Z (x:= .none) Z (aY ?_));simp only[oK];refine aw (sk ?_);refine aw (cZ hz Z (x:= .ref TO) Z ?_);refine aw (w6 hz (by simp) λh₁ tF fi=> ?_);replace tF:IsZip h₁ z TI TO .ellipsis:=tF;refine aw ?_;simp only[List.zipIdx_cons,List.zipIdx_nil,vh,zD];refine aw (aw (zM ?_));show wpAny _ _ (Builtin.SmallTypes.nextOf (.ref i1)>>= _) _ _ _;refine aw (hZ (h1.extBut fi.extBut D.i1z) (Et.extBut fi.extBut D.l1z) hx λlz NW j_=>aY ?_);have Oa:IsPair lz TO a b:=j_.extBut _ _ D.TOi1 (fi.extBut _ _ D.TOz Pe);refine aw (oR Oa Z ?_);refine aw (wpAny_updateSeq_pair Oa λqR HM kE=> ?_);replace HM:IsPair qR TO x b:=HM;refine aw (wpAny_letGo (aY ?_));refine aw (aw (zM ?_));show wpAny _ _ (Builtin.SmallTypes.nextOf (.ref i2)>>= _) _ _ _
 refine aw (hZ (((h2.extBut fi.extBut D.i2z).extBut j_.extBut D.i12.symm).extBut kE.extBut D.TOi2.symm)
  (((n6.extBut fi.extBut D.l2z).extBut j_.extBut D.l2i1).extBut kE.extBut D.l2TO) hy λVF YA G0=>aY ?_)
 have N5:IsPair VF TO x b:=G0.extBut _ _ D.TOi2 HM;refine aw (oR N5 Z ?_);refine aw (wpAny_updateSeq_pair N5 λpA DN Gn=> ?_);replace DN:IsPair pA TO x y:=DN;refine aw (wpAny_letGo (aY (aY ?_)));refine aw (oR DN Z ?_);refine aw (wpAny_newTuple ?_);have qe:pA.objs.size=s.heap.objs.size:=by rw[Gn.1,G0.1,kE.1,j_.1,fi.1]
 have SE:IsZip pA z TI TO .ellipsis:=Gn.extBut _ _ D.TOz.symm (G0.extBut _ _ D.i2z.symm (kE.extBut _ _ D.TOz.symm (j_.extBut _ _ D.i1z.symm tF)))
 have Y8:∀c o,c≠z->c≠TO->c≠i1->c≠i2->s.heap.get? c=some o->pA.get? c=some o:=λc o c1 c2 c3 c4 e=>
  Gn.extBut _ _ c2 (G0.extBut _ _ c4 (kE.extBut _ _ c2 (j_.extBut _ _ c3 (fi.extBut _ _ c1 e))))
 have aa0:pA.IsTupleIter i1 l1 (k1+1):=((NW.extBut kE.extBut D.TOi1.symm).extBut G0.extBut D.i12).extBut Gn.extBut D.TOi1.symm;have Zy:pA.IsTupleIter i2 l2 (k2+1):=YA.extBut Gn.extBut D.TOi2.symm;have aaa:z<pA.objs.size:=a_ SE;show wpAny _ _ (Builtin.SmallTypes.ownedTupleHandOut (.ref z) (.ref pA.objs.size)>>= _) _ _ _;refine aw ?_;unfold Builtin.SmallTypes.ownedTupleHandOut;have Zb:IsZip (pA.push {cls:= .type "tuple",data:= .seq #[x,y]}) z TI TO .ellipsis:=bq _ SE;refine aw (w6 Zb (by simp) λafF OI MW=> ?_);replace OI:IsZip afF z TI TO (rawInt pA.objs.size):=OI;refine w6 OI (by simp) λLP JV OC=> ?_;replace JV:IsZip LP z TI TO (rawInt pA.objs.size):=JV;have up:∀c o,c≠z->pA.get? c=some o->LP.get? c=some o:=λc o c1 e=>OC.extBut _ _ c1 (MW.extBut _ _ c1 (bq _ e));have RB:IsPair LP pA.objs.size x y:=OC.extBut _ _ (jr aaa) (MW.extBut _ _ (jr aaa) (cV _ Z));have Z1:LP.objs.size=pA.objs.size+1:=by rw[OC.1,MW.1,kr]
 rw[qe] at JV RB Z1;refine aY ⟨_,Z,?_⟩;show Q (.ref pA.objs.size) _;rw[qe];have ZZ:∀{q r n},q≠z->pA.IsTupleIter q r n->LP.IsTupleIter q r n:=λhq ⟨o,ho,r⟩=>⟨o,up _ _ hq ho,r⟩;exact hQ LP JV (up _ _ D.TOz DN) (ZZ D.i1z aa0) (ZZ D.i2z Zy) RB Z1 λc o c1 c2 c3 c4 e=>up c o c1 (Y8 c o c1 c2 c3 c4 e)
theorem Js{z TI TO a:S'}{f:Bool}{oa:Obj}{Q:Bool->R'->Prop}(hz:OP s.heap z TI TO (rawInt a) f)(ha:s.heap.get? a=some oa)
 (hQ:∀h',OP h' z TI TO (rawInt a) true->Heap.SameBut z s.heap h'->Q false {s with heap:=h'}):wpAny (model prog w) A (Builtin.SmallTypes.ownedTupleIsFree (.ref z)) Q E s:=by
 unfold Builtin.SmallTypes.ownedTupleIsFree;refine aw (cZ hz Z (x:=rawInt a) Z ?_);show wpAny _ _ (loadIfAlive ((a:Int).toNat)>>= _) _ _ _;rw[nB];refine aw (PySem.W.kdx_alive ha ?_);simp only[Option.isNone_some,wH,mJ];refine aw (cZ hz Z (x:= .bool f) Z ?_)
 cases f with
 |true=>
  rw[ax (show ¬((Value.bool true !=Value.bool true)=true) from cU)];exact aY (hQ s.heap hz (Heap.SameBut.refl _ _))
 |false=>
  rw[aB (show(Value.bool false !=Value.bool true)=true from Z)];refine aw (w6 hz (by simp) λqR JE kE=> ?_);exact aY (hQ qR JE kE)
theorem PV{z TI TO i1 i2 l1 l2 a:S'}{f:Bool}{oa:Obj}{k1 k2:Nat}{xs ys:Array M'}{x y:M'}{Q:J'}(D:ZipApart z TI TO i1 i2 l1 l2)
 (hz:OP s.heap z TI TO (rawInt a) f) (ha:s.heap.get? a=some oa) (Kc:IsPair s.heap TI (.ref i1) (.ref i2))
 (h1:s.heap.IsTupleIter i1 l1 k1) (h2:s.heap.IsTupleIter i2 l2 k2) (Et:s.heap.IsTuple l1 xs) (n6:s.heap.IsTuple l2 ys) (hx:xs[k1]? =some x) (hy:ys[k2]? =some y)
 (hQ:∀h',OP h' z TI TO (rawInt a) true->h'.IsTupleIter i1 l1 (k1+1)->h'.IsTupleIter i2 l2 (k2+1)->IsPair h' s.heap.objs.size x y->h'.objs.size=s.heap.objs.size+1->
  (∀c o,c≠z->c≠i1->c≠i2->s.heap.get? c=some o->h'.get? c=some o)->Q (.ref s.heap.objs.size) {s with heap:=h'}):
 wpAny (model prog w) A (Builtin.«zip.__next__» ⟨[.ref z],[]⟩) (λfin s' =>∃v,fin= .done (.ret v)/\Q v s') E s:=by
 show wpAny _ _ (field (.ref z) 2>>= _) _ _ _;refine aw (cZ hz Z (x:= .bool false) Z ?_);show wpAny _ _ (field (.ref z) 3>>= _) _ _ _;refine aw (cZ hz Z (x:= .ref TI) Z ?_);refine aw (oR Kc Z ?_);show wpAny _ _ (Builtin.SmallTypes.ownedTupleIsFree (.ref z)>>= _) _ _ _;refine aw (Js hz ha λh₁ tF fi=> ?_);simp only[wH,mJ];refine aw ?_;refine wpAny_arrayLoop ?_;simp only[vh,zD];refine aw (aw (kh ?_));show wpAny _ _ (Builtin.SmallTypes.nextOf (.ref i1)>>= _) _ _ _;refine aw (hZ (h1.extBut fi.extBut D.i1z) (Et.extBut fi.extBut D.l1z) hx λlz NW j_=>aY (aY ?_));refine aw (aw (kh ?_));show wpAny _ _ (Builtin.SmallTypes.nextOf (.ref i2)>>= _) _ _ _;refine aw (hZ ((h2.extBut fi.extBut D.i2z).extBut j_.extBut D.i12.symm) ((n6.extBut fi.extBut D.l2z).extBut j_.extBut D.l2i1) hy λqR Zl kE=>aY (aY (aY ?_)));show wpAny _ _ (newTuple [x,y]>>= _) _ _ _;refine aw (wpAny_newTuple (aY ⟨_,Z,?_⟩));have qe:qR.objs.size=s.heap.objs.size:=by rw[kE.1,j_.1,fi.1]
 show Q (.ref qR.objs.size) _;rw[qe];have up:∀c o,qR.get? c=some o->(qR.push {cls:= .type "tuple",data:= .seq #[x,y]}).get? c=some o:=λc o e=>bq _ e;have ZZ:∀{q r n},qR.IsTupleIter q r n->(qR.push {cls:= .type "tuple",data:= .seq #[x,y]}).IsTupleIter q r n:=λ⟨o,ho,r⟩=>⟨o,up _ _ ho,r⟩;refine hQ _ (up _ _ (kE.extBut _ _ D.i2z.symm (j_.extBut _ _ D.i1z.symm tF))) (ZZ (NW.extBut kE.extBut D.i12)) (ZZ Zl) ?_ ?_ λc o c1 c3 c4 e=>up _ _ (kE.extBut _ _ c4 (j_.extBut _ _ c3 (fi.extBut _ _ c1 e)))
 .rw[<-qe];exact cV _ rfl
 .rw[kr,qe]
theorem WS{z TI TO i1 i2 l1 l2 S:S'}{k:Nat}{xs ys:Array M'}{Q:Fin->R'->Prop}(hh:A.handled=none)(D:ZipApart z TI TO i1 i2 l1 l2)(ac:Mp s.heap z TI TO i1 i2 l1 l2 S xs ys k)(hx:xs[k]? =none)
 (hE:∀h' e,(∀c o,c≠z->c≠i1->s.heap.get? c=some o->h'.get? c=some o)->(∃o,h'.get? e=some o/\o.cls= .type "StopIteration")->E (.ref e) {s with heap:=h'}):
 wpAny (model prog w) A (Builtin.«zip.__next__» ⟨[.ref z],[]⟩) Q E s:=by
 obtain⟨⟨f0,f,hz,hw⟩,Kc,⟨a,b,Pe⟩,h1,h2,Et,n6⟩:=ac;show wpAny _ _ (field (.ref z) 2>>= _) _ _ _;refine aw (cZ hz Z (x:= .bool false) Z ?_);show wpAny _ _ (field (.ref z) 3>>= _) _ _ _;refine aw (cZ hz Z (x:= .ref TI) Z ?_);refine aw (oR Kc Z ?_);show wpAny _ _ (Builtin.SmallTypes.ownedTupleIsFree (.ref z)>>= _) _ _ _;rcases hw with⟨rfl,rfl⟩|⟨a',oa,rfl,ha,_⟩
 .refine aw ?_;unfold Builtin.SmallTypes.ownedTupleIsFree;refine aw (cZ hz Z (x:= .none) Z (aY ?_));simp only[oK];refine aw (sk ?_);refine aw (cZ hz Z (x:= .ref TO) Z ?_);refine aw (w6 hz (by simp) λh₁ tF fi=> ?_);replace tF:IsZip h₁ z TI TO .ellipsis:=tF;refine aw ?_;simp only[List.zipIdx_cons,List.zipIdx_nil,vh,zD];refine aw (aw (zM ?_));show wpAny _ _ (Builtin.SmallTypes.nextOf (.ref i1)>>= _) _ _ _;refine aw (qf hh (h1.extBut fi.extBut D.i1z) (Et.extBut fi.extBut D.l1z) hx λlz e j_ he=> ?_);obtain⟨oe,XX,hce⟩:=he;have UZ:IsZip lz z TI TO .ellipsis:=j_ _ _ D.i1z.symm tF;have hez:e≠z:=λx=>by subst x;rw[UZ] at XX;cases XX;simp at hce
  refine w6 UZ (by simp) λqR _ kE=>hE qR e (λc o c1 c3 x=>kE.extBut _ _ c1 (j_ _ _ c3 (fi.extBut _ _ c1 x))) ⟨oe,kE.extBut _ _ hez XX,hce⟩
 .refine aw (Js hz ha λh₁ tF fi=> ?_);simp only[wH,mJ];refine aw ?_;refine wpAny_arrayLoop ?_;simp only[vh,zD];refine aw (aw (kh ?_));show wpAny _ _ (Builtin.SmallTypes.nextOf (.ref i1)>>= _) _ _ _;exact aw (qf hh (h1.extBut fi.extBut D.i1z) (Et.extBut fi.extBut D.l1z) hx λlz e j_ he=>hE lz e (λc o c1 c3 x=>j_ _ _ c3 (fi.extBut _ _ c1 x)) he)
theorem Q6{z TI TO i1 i2 l1 l2 S:S'}{k:Nat}{xs ys:Array M'}{x y:M'}{Q:aO->R'->Prop}(D:ZipApart z TI TO i1 i2 l1 l2)(ac:Mp s.heap z TI TO i1 i2 l1 l2 S xs ys k)(hS:S<s.heap.objs.size)(hx:xs[k]? =some x)(hy:ys[k]? =some y)
 (hQ:∀h',Mp h' z TI TO i1 i2 l1 l2 S xs ys (k+1)->IsPair h' s.heap.objs.size x y->h'.objs.size=s.heap.objs.size+1->(∀c o,c≠z->c≠TO->c≠i1->c≠i2->s.heap.get? c=some o->h'.get? c=some o)->Q (some (.ref s.heap.objs.size)) {s with heap:=h'}):
 wpAny (model prog w) A (pyNext (.ref z)) Q E s:=by
 obtain⟨⟨f0,f,hz,hw⟩,Kc,⟨a,b,Pe⟩,h1,h2,Et,n6⟩:=ac;have hT:s.TypeIs (.ref z) "zip":=⟨_,hz,Z⟩;have lt:∀{c o},s.heap.get? c=some o->s.heap.objs.size≠c:=λe=>jr (a_ e);have q1:s.heap.objs.size≠i1:=by obtain⟨o,e,_⟩:=h1;exact lt e
 have q2:s.heap.objs.size≠i2:=by obtain⟨o,e,_⟩:=h2;exact lt e
 unfold pyNext;refine aw (wpAny_attempt (xw (name:=Str.ofString "__next__") hT wJ (uk wJ hT F.entry_zip_next ?_ (F.args_zip_next_1 _))));rcases hw with⟨rfl,rfl⟩|⟨a',oa,rfl,ha,a1,a2,a3,a4,a5⟩
 .refine MB D hz Kc Pe h1 h2 Et n6 hx hy λh' b1 b2 b3 b4 b5 b6 hk=>aY (hQ h' ⟨⟨_,_,b1,.inr ⟨_,_,Z,b5,lt hz,lt Pe,q1,q2,jr hS⟩⟩,hk _ _ D.TIz D.TITO D.TIi1 D.TIi2 Kc,⟨_,_,b2⟩,b3,b4,?_,?_⟩ b5 b6 hk)
  .obtain⟨o,e,r⟩:=Et;exact⟨o,hk _ _ D.l1z D.l1TO D.l1i1 D.l1i2 e,r⟩
  .obtain⟨o,e,r⟩:=n6;exact⟨o,hk _ _ D.l2z D.l2TO D.l2i1 D.l2i2 e,r⟩
 .refine PV D hz ha Kc h1 h2 Et n6 hx hy λh' b1 b3 b4 b5 b6 hk=>aY (hQ h' ⟨⟨_,_,b1,.inr ⟨_,_,Z,hk _ _ a1 a3 a4 ha,a1,a2,a3,a4,a5⟩⟩,hk _ _ D.TIz D.TIi1 D.TIi2 Kc,⟨_,_,hk _ _ D.TOz D.TOi1 D.TOi2 Pe⟩,b3,b4,?_,?_⟩ b5 b6 λc o c1 _ c3 c4 e=>hk c o c1 c3 c4 e)
  .obtain⟨o,e,r⟩:=Et;exact⟨o,hk _ _ D.l1z D.l1i1 D.l1i2 e,r⟩
  .obtain⟨o,e,r⟩:=n6;exact⟨o,hk _ _ D.l2z D.l2i1 D.l2i2 e,r⟩
theorem PU{z TI TO i1 i2 l1 l2 S:S'}{k:Nat}{xs ys:Array M'}{Q:aO->R'->Prop}(hh:A.handled=none)(D:ZipApart z TI TO i1 i2 l1 l2)(ac:Mp s.heap z TI TO i1 i2 l1 l2 S xs ys k)(hx:xs[k]? =none)
 (hQ:∀h',(∀c o,c≠z->c≠i1->s.heap.get? c=some o->h'.get? c=some o)->Q none {s with heap:=h'}):wpAny (model prog w) A (pyNext (.ref z)) Q E s:=by
 obtain⟨⟨f0,f,hz,hw⟩,r⟩:=id ac;have hT:s.TypeIs (.ref z) "zip":=⟨_,hz,Z⟩;unfold pyNext
 refine aw (wpAny_attempt (xw (name:=Str.ofString "__next__") hT wJ
  (uk wJ hT F.entry_zip_next (WS hh D ac hx λh' e hk he=> ?_) (F.args_zip_next_1 _))))
 obtain⟨o,ho,hc⟩:=he;refine aw (wpAny_isInstance (T:="StopIteration") (b:=true) ⟨o,ho,hc⟩ isSubtype_stop ?_);exact aY (hQ _ hk)
theorem Mp.keep{h h' :Y'}{z TI TO i1 i2 t1 t2 S:S'}{xs ys:Array M'}{k:Nat}(ac:Mp h z TI TO i1 i2 t1 t2 S xs ys k)(hk:∀b o,b≠S->h.get? b=some o->h'.get? b=some o)(n:∀b∈[z,TI,TO,i1,i2,t1,t2],b≠S):Mp h' z TI TO i1 i2 t1 t2 S xs ys k:=by
 obtain⟨⟨f0,f,hz,hw⟩,Kc,⟨a,b,Pe⟩,⟨o1,e1,h1⟩,⟨o2,e2,h2⟩,⟨o3,e3,Et⟩,⟨o4,e4,n6⟩⟩:=ac;refine⟨⟨f0,f,hk _ _ (n z (by simp)) hz,?_⟩,hk _ _ (n TI (by simp)) Kc,⟨a,b,hk _ _ (n TO (by simp)) Pe⟩,⟨o1,hk _ _ (n i1 (by simp)) e1,h1⟩,⟨o2,hk _ _ (n i2 (by simp)) e2,h2⟩,⟨o3,hk _ _ (n t1 (by simp)) e3,Et⟩,⟨o4,hk _ _ (n t2 (by simp)) e4,n6⟩⟩;rcases hw with q|⟨a',oa,q1,ha,q2,q3,q4,q5,q6⟩
 .exact .inl q
 .exact .inr ⟨a',oa,q1,hk _ _ q6 ha,q2,q3,q4,q5,q6⟩
end
structure ZG(xs ys:Array M')(lo:S')(h:Y')(as:b_):Prop where
 rise:as.Pairwise (· < ·)
 above:∀a∈as,lo<a
 pairs:∀(j:Nat) (a:S'),as[j]? =some a->∃x y,xs[j]? =some x/\ys[j]? =some y/\IsPair h a x y
section
variable{prog:Z'}{w:W'}{A:X'}{E:J'}{s:R'}{R:Result->R'->Prop}{xs ys:Array M'}{z TI TO i1 i2 l1 l2 S:S'}
theorem Qa(hh:A.handled=none)(D:ZipApart z TI TO i1 i2 l1 l2)(hSz:S≠z)(n:∀b∈[z,TI,TO,i1,i2,l1,l2],b≠S)(lo:S')(OL:∀b∈[z,TO,i1,i2,S],b<=lo)(he:xs.size=ys.size)(hn:xs.size<=sizeLine)(res:M'){h₁:Y'}
 (hR:∀h' tk acc c as,(∀b o,b≠S->b≠z->b≠TO->b≠i1->b≠i2->h₁.get? b=some o->h'.get? b=some o)->h'.get? S=some {cls:= .type "list",dict:=none,data:= .seq acc c,slots:= #[]}->as.length=xs.size->ZG xs ys lo h' as->
  acc.toList=as.map Value.ref->R (.ok (.ret res)) {s with heap:=h',toks:=tk}):
 ∀(k i:Nat) (h:Y') (tk c:Nat) (acc:Array M') (as:b_),xs.size - i=k->i<=xs.size->Mp h z TI TO i1 i2 l1 l2 S xs ys i->(∀b o,b≠S->b≠z->b≠TO->b≠i1->b≠i2->h₁.get? b=some o->h.get? b=some o)->
  h.get? S=some {cls:= .type "list",dict:=none,data:= .seq acc c,slots:= #[]}->acc.toList=as.map Value.ref->as.length=i->ZG xs ys lo h as->lo<h.objs.size->
  codeAny (model prog w) A (.builtin "list.extend.loop" ⟨[.ref S,.ref z,res],[]⟩) R {s with heap:=h,toks:=tk}:=by
 have Xh:∀a b,lo<a->b∈[z,TO,i1,i2,S]->a≠b:=λa b h hb q=>absurd (OL b hb) (by rw[<-q];exact Nat.not_le.mpr h);have above:∀a,lo<a->a≠S/\a≠z/\a≠TO/\a≠i1/\a≠i2:=λa h=>⟨Xh a S h (by simp),Xh a z h (by simp),Xh a TO h (by simp),Xh a i1 h (by simp),Xh a i2 h (by simp)⟩;intro k
 induction k with
 |zero=>
  intro i h tk c acc as hk hi tQ OO hS DL Li hG hIs;have Ye:i=xs.size:=by lia
  refine codeAny_builtin entry_extend_loop ?_;rw[Around.under_plainId zE _];show wpAny _ A.in1 (pyNext (.ref z)>>= _) _ _ _;refine aw (PU (s:={s with heap:=h,toks:=tk}) (A:=A.in1) hh D tQ (Array.getElem?_eq_none (by lia)) λh' he=> ?_);refine aY (hR h' tk acc c as (λb o h1 h2 h3 h4 h5 e=>he b o h2 h4 (OO b o h1 h2 h3 h4 h5 e)) (he S _ hSz (ck (n i1 (by simp))) hS) (by lia) ⟨hG.rise,hG.above,λj a hj=> ?_⟩ DL);obtain⟨x,y,e1,e2,e3⟩:=hG.pairs j a hj;have q:=above a (hG.above a (bD hj));exact⟨x,y,e1,e2,he a _ q.2.1 q.2.2.2.1 e3⟩
 |succ k ih=>
  intro i h tk c acc as hk hi tQ OO hS DL Li hG hIs;have ky:i<xs.size:=by lia
  have QJ:i<ys.size:=by lia
  have qe:acc.size=i:=by rw[<-zc,DL,a6,Li]
  refine codeAny_builtin entry_extend_loop ?_;rw[Around.under_plainId zE _];show wpAny _ A.in1 (pyNext (.ref z)>>= _) _ _ _;refine aw (Q6 (s:={s with heap:=h,toks:=tk}) (S:=S) D tQ (a_ hS) (uR ky) (uR QJ) λh' ac7 ht hz hkp=> ?_);dsimp only at ht hz hkp ⊢;have hS' :=hkp S _ hSz (ck (n TO (by simp))) (ck (n i1 (by simp))) (ck (n i2 (by simp))) hS;have up:∀b o,b≠S->h'.get? b=some o->(h'.update S (Obj.mapSeq (·.push (Value.ref h.objs.size)))).get? b=some o:=λb o hb e=>(gp _ _ (ck hb)).trans e;have hSl:S<h.objs.size:=a_ hS;show wpAny _ A.in1 (updateSeq S (·.push (Value.ref h.objs.size))>>= _) _ _ _;refine aw ?_
  refine zV hS' Z (aY ⟨plainId_quiet zE _,ih (i+1) _ tk _ (acc.push (Value.ref h.objs.size)) (as++[h.objs.size]) (by lia) ky (ac7.keep up n)
   (λb o h1 h2 h3 h4 h5 e=>up b o h1 (hkp b o h2 h3 h4 h5 (OO b o h1 h2 h3 h4 h5 e))) (ma _ hS' Z) (by rw[Array.toList_push,DL,iQ];rfl) (by rw[bu,Li];rfl) ⟨?_,?_,?_⟩ ?_⟩) (by rw[qe];lia) (by show(acc.push (Value.ref h.objs.size)).size<=sizeLine+1;rw[Array.size_push,qe];lia)
  .refine List.pairwise_append.mpr ⟨hG.rise,List.pairwise_singleton _ _,λa ha b hb=> ?_⟩;rw[gv.mp hb];obtain⟨j,hj⟩:=zB.mp ha;obtain⟨_,_,_,_,e⟩:=hG.pairs j a hj;exact a_ e
  .intro a ha;rcases eA.mp ha with ha|ha
   .exact hG.above a ha
   .rw[gv.mp ha];exact hIs
  .intro j b hj;rcases Nat.lt_trichotomy j as.length with h1|h1|h1
   .rw[ip h1] at hj;obtain⟨x',y',e1,e2,e3⟩:=hG.pairs j b hj;have q:=above b (hG.above b (bD hj));exact⟨x',y',e1,e2,up b _ q.1 (hkp b _ q.2.1 q.2.2.1 q.2.2.2.1 q.2.2.2.2 e3)⟩
   .subst h1;have hb:h.objs.size=b:=by simpa using hj
    subst hb;exact⟨_,_,by rw[Li];exact uR ky,by rw[Li];exact uR QJ,up _ _ (jr hSl) ht⟩
   .have YB:(as++[h.objs.size])[j]? =none:=nz (by rw[bu,Fg];lia);rw[YB] at hj;cases hj
  .have e:(h'.update S (Obj.mapSeq (·.push (Value.ref h.objs.size)))).get? h.objs.size=_:=up _ _ (jr hSl) ht;exact zx hIs (a_ e)
end
theorem K_:typeLookup (.type "zip") "__len__"=pure none:=by rw[typeLookup_type,builtinLookup_eq_fast];kernel_rfl
theorem I_:typeLookup (.type "zip") "__length_hint__"=pure none:=by rw[typeLookup_type,builtinLookup_eq_fast];kernel_rfl
section
variable{prog:Z'}{w:W'}{A:X'}{E:J'}{s:R'}{R:Result->R'->Prop}{xs ys:Array M'}{z TI TO i1 i2 l1 l2 S:S'}
theorem Kz(hh:A.handled=none)(D:ZipApart z TI TO i1 i2 l1 l2)(hSz:S≠z)(n:∀b∈[z,TI,TO,i1,i2,l1,l2],b<S)(he:xs.size=ys.size)(hn:xs.size<=sizeLine)(res:M')(c₀:Nat)(hS:s.heap.get? S=some {cls:= .type "list",data:= .seq #[] c₀})(tQ:Mp s.heap z TI TO i1 i2 l1 l2 S xs ys 0)
 (hR:∀h' tk acc c as,(∀b o,b≠S->b≠z->b≠TO->b≠i1->b≠i2->s.heap.get? b=some o->h'.get? b=some o)->h'.get? S=some {cls:= .type "list",dict:=none,data:= .seq acc c,slots:= #[]}->as.length=xs.size->ZG xs ys S h' as->
  acc.toList=as.map Value.ref->R (.ok (.ret res)) {s with heap:=h',toks:=tk}):
 wpAny (model prog w) A.in1 (Builtin.List.listExtendWith (.ref S) (.ref z) res)
  (λfin s' =>match fin with| .done f=>R (.ok f) s' | .again c' =>c'.quiet=true/\codeAny (model prog w) A c' R s') (λe s' =>R (.error e) s') s:=by
 have n' :∀b∈[z,TI,TO,i1,i2,l1,l2],b≠S:=λb hb=>cJ (n b hb)
 have OL:∀b∈[z,TO,i1,i2,S],b<=S:=λb hb=>by
  simp only[aP,cO,cN] at hb;rcases hb with rfl|rfl|rfl|rfl|rfl
  .exact cT (n _ (by simp))
  .exact cT (n _ (by simp))
  .exact cT (n _ (by simp))
  .exact cT (n _ (by simp))
  .exact aK _
 have key:∀(h:Y') (c₁ tk:Nat),(∀b o,b≠S->s.heap.get? b=some o->h.get? b=some o)->h.get? S=some {cls:= .type "list",data:= .seq #[] c₁}->codeAny (model prog w) A (.builtin "list.extend.loop" ⟨[.ref S,.ref z,res],[]⟩) R {s with heap:=h,toks:=tk}:=by
  intro h c₁ tk hk Vc;exact Qa (s:=s) (h₁:=s.heap) hh D hSz n' S OL he hn res hR xs.size 0 h tk c₁ #[] [] (zq _) (cG _) (tQ.keep hk n') (λb o hb _ _ _ _ e=>hk b o hb e) Vc Z Z ⟨List.Pairwise.nil,(λ_ ha=>nomatch ha),(λj a hj=>by simp at hj)⟩ (a_ Vc)
 obtain⟨f0,f,hz,_⟩:=tQ.z;have hT:s.TypeIs (.ref z) "zip":=⟨_,hz,Z⟩;unfold Builtin.List.listExtendWith;refine aw (wpAny_typeOf (T:="zip") hT ?_);have h1:Builtin.List.listSameRef (.ref S) (.ref z)=false:=by simp[Builtin.List.listSameRef,hSz]
 rw[ax (by rw[h1];decide)];refine aw (wpAny_pyIter_slot hT F.slot_zip_iter (uk F.slot_zip_iter hT F.entry_zip_iter (show wpAny _ _ (ret (.ref z)) _ _ s from aY ⟨_,Z,"zip",_,hT,wJ.lookup,?_⟩) (F.args_zip_iter_1 _)));refine aw (kh ?_);unfold Builtin.List.listLengthHint;refine aw (wpAny_specialOf hT K_ ?_);show wpAny _ A.in1 (specialOf (Value.ref z) (Str.ofString "__length_hint__")>>= _) _ _ _;refine aw (wpAny_specialOf hT I_ ?_);refine aY ?_;refine wpAny_ite_split (λ_=> ?_) (λhab=>absurd Z hab);refine aw (sk ?_);refine aw ?_;show wpAny _ _ (updateSeq S (·.push .none)>>= λ_=>updateSeq S (·.pop)) _ _ _;refine aw (zV hS Z ?_);have JG:=ma (Obj.mapSeq (·.push Value.none)) hS rfl;refine zV (hz:=by seq_fits) JG Z ?_;have Ze:=ma (Obj.mapSeq (·.pop)) JG rfl;refine aY ⟨plainId_quiet zE _,key _ _ _ (λb o hb e=> ?_) Ze⟩;exact(gp _ _ (ck hb)).trans ((gp _ _ (ck hb)).trans e)
theorem QN{Q:J'}(hh:A.handled=none)(D:ZipApart z TI TO i1 i2 l1 l2)(he:xs.size=ys.size)(hn:xs.size<=sizeLine)(tQ:∀S,s.heap.objs.size<=S->Mp s.heap z TI TO i1 i2 l1 l2 S xs ys 0)
 (hQ:∀h' tk acc c as,(∀b o,b≠z->b≠TO->b≠i1->b≠i2->s.heap.get? b=some o->h'.get? b=some o)->h'.get? s.heap.objs.size=some {cls:= .type "list",dict:=none,data:= .seq acc c,slots:= #[]}->as.length=xs.size->ZG xs ys s.heap.objs.size h' as->
  acc.toList=as.map Value.ref->Q (.ref s.heap.objs.size) {s with heap:=h',toks:=tk}):
 wpAny (model prog w) A (call (.type "list") [.ref z]) Q E s:=by
 have ac:=tQ s.heap.objs.size (aK _)
 have n:∀b∈[z,TI,TO,i1,i2,l1,l2],b<s.heap.objs.size:=λb hb=>by
  obtain⟨⟨f0,f,hz,hw⟩,Kc,⟨a,b',Pe⟩,⟨o1,e1,h1⟩,⟨o2,e2,h2⟩,⟨o3,e3,Et⟩,⟨o4,e4,n6⟩⟩:=ac;simp only[aP,cO,cN] at hb;rcases hb with rfl|rfl|rfl|rfl|rfl|rfl|rfl
  .exact a_ hz
  .exact a_ Kc
  .exact a_ Pe
  .exact a_ e1
  .exact a_ e2
  .exact a_ e3
  .exact a_ e4
 refine callType_codes (Q₁:=λobj bR=>obj= .ref s.heap.objs.size/\bR={s with heap:=s.heap.push {cls:= .type "list",data:= .seq #[]}}) F.called_list (F.typeCall_list_1 _) F.entry_list_init
  (code_list_new _ ⟨Z,Z⟩) λobj bR h₁=> ?_
 obtain⟨rfl,rfl⟩:=h₁;have hS:(s.heap.push {cls:= .type "list",data:= .seq #[]}).get? s.heap.objs.size=some {cls:= .type "list",data:= .seq #[]}:=cV _ rfl;refine⟨⟨_,hS,Z⟩,F.args_list_init_2 _ _,?_⟩;show wpAny _ _ (do let old<-Builtin.List.listItems (.ref s.heap.objs.size);Builtin.List.listUpdate (.ref s.heap.objs.size) (λ_=> #[]);letGo old.toList.reverse;Builtin.List.listExtendWith (.ref s.heap.objs.size) (.ref z) .none) _ _ _;refine aw ?_;unfold Builtin.List.listItems;refine aw (oR hS Z (aY ?_));show wpAny _ _ (updateSeq s.heap.objs.size (λ_=> #[])>>= λ_=>letGo (#[]:Array M').toList.reverse>>= λ_=>Builtin.List.listExtendWith (.ref s.heap.objs.size) (.ref z) .none) _ _ _;refine aw (zV hS Z ?_);have JG:=ma (Obj.mapSeq (λ_=>(#[]:Array M'))) hS rfl
 have oth:∀b o,b≠s.heap.objs.size->s.heap.get? b=some o->((s.heap.push {cls:= .type "list",data:= .seq #[]}).update s.heap.objs.size (Obj.mapSeq (λ_=>(#[]:Array M')))).get? b=some o:=
  λb o hb e=>(gp _ _ (ck hb)).trans (bq _ e)
 refine aw (wpAny_letGo ?_);refine Kz (A:=A.in1) hh D (jr (n z (by simp))) n he hn .none _ JG (ac.keep oth λb hb=>cJ (n b hb)) (λh' tk acc c as hk hS' hl hG DL=> ?_);exact⟨Z,hQ h' tk acc c as (λb o h2 h3 h4 h5 e=>hk b o (cJ (a_ e)) h2 h3 h4 h5 (oth b o (cJ (a_ e)) e)) hS' hl hG DL⟩
end
noncomputable abbrev Qf(h:Y')(l1:S'):Y':=h.push {cls:= .type "tuple_iterator",data:= .fields #[.ref l1,.int 0 0]}
noncomputable abbrev P8(h:Y')(l1 l2:S'):Y':=(Qf h l1).push {cls:= .type "tuple_iterator",data:= .fields #[.ref l2,.int 0 0]}
noncomputable abbrev Ri(h:Y')(l1 l2:S'):Y':=(P8 h l1 l2).push {cls:= .type "tuple",data:= .seq #[.ref h.objs.size,.ref (Qf h l1).objs.size]}
noncomputable abbrev Qy(h:Y')(l1 l2:S'):Y':=(Ri h l1 l2).push {cls:= .type "tuple",data:= .seq #[.none,.none]}
noncomputable abbrev Gf(h:Y')(l1 l2:S'):Y':=(Qy h l1 l2).push {cls:= .type "zip",data:= .fields #[.none,.bool false,.bool false,.ref (P8 h l1 l2).objs.size,.ref (Ri h l1 l2).objs.size]}
theorem Xp(l1 l2:S')(xs ys:Array M'):
 Meets (Builtin.«zip.__new__» ⟨[.type "zip",.ref l1,.ref l2],[]⟩) (λ_ R s=>s.heap.IsTuple l1 xs/\s.heap.IsTuple l2 ys/\
  R (.ok (.ret (.ref (Qy s.heap l1 l2).objs.size))) {s with heap:=Gf s.heap l1 l2}):=
 .of_wp λprog w A R s h=>by
  obtain⟨hp,g,d,tk,os⟩:=s;obtain⟨Et,n6,h⟩:=h
  have ajY:=sub_zip;have hL1:Heap.IsTuple (Shared.heap ⟨hp,g,d,tk,os⟩) l1 xs:=Et;have hL2:Heap.IsTuple (Shared.heap ⟨hp.push {cls:= .type "tuple_iterator",data:= .fields #[.ref l1,.int 0 0]},g,d,tk,os⟩) l2 ys:=Heap.IsTuple.push n6 _
  wp_walk using zH hL1,zH hL2
  exact⟨_,Z,h⟩
section
variable{prog:Z'}{w:W'}{A:X'}{E:J'}{s:R'}
theorem Qw{l1 l2:S'}{xs ys:Array M'}{Q:J'}(Et:s.heap.IsTuple l1 xs)(n6:s.heap.IsTuple l2 ys)
 (h:∀h',(∀S,h'.objs.size<=S->Mp h' (s.heap.objs.size+4) (s.heap.objs.size+2) (s.heap.objs.size+3) s.heap.objs.size (s.heap.objs.size+1) l1 l2 S xs ys 0)->h'.objs.size=s.heap.objs.size+5->
  (∀c o,s.heap.get? c=some o->h'.get? c=some o)->Q (.ref (s.heap.objs.size+4)) {s with heap:=h'}):
 wpAny (model prog w) A (call (.type "zip") [.ref l1,.ref l2]) Q E s:=by
 refine callType_new F.called_zip (by decide) (F.typeCall_zip_2 _ _) (F.newCall_zip_2 _ _) (λobj=>F.args_object_init_3 obj _ _) F.entry_zip_new
  (Xp l1 l2 xs ys) ⟨Et,n6,?_⟩
 have z1:(Qf s.heap l1).objs.size=s.heap.objs.size+1:=kr ..;have z2:(P8 s.heap l1 l2).objs.size=s.heap.objs.size+2:=by rw[kr,z1]
 have z3:(Ri s.heap l1 l2).objs.size=s.heap.objs.size+3:=by rw[kr,z2]
 have z4:(Qy s.heap l1 l2).objs.size=s.heap.objs.size+4:=by rw[kr,z3]
 have z5:(Gf s.heap l1 l2).objs.size=s.heap.objs.size+5:=by rw[kr,z4]
 have g5:(Gf s.heap l1 l2).get? (Qy s.heap l1 l2).objs.size=some _:=cV _ rfl;have g4:(Gf s.heap l1 l2).get? (Ri s.heap l1 l2).objs.size=some _:=bq _ (cV _ Z);have g3:(Gf s.heap l1 l2).get? (P8 s.heap l1 l2).objs.size=some _:=bq _ (bq _ (cV _ Z));have g2:(Gf s.heap l1 l2).get? (Qf s.heap l1).objs.size=some _:=bq _ (bq _ (bq _ (cV _ Z)));have g1:(Gf s.heap l1 l2).get? s.heap.objs.size=some _:=bq _ (bq _ (bq _ (bq _ (cV _ Z))));show _/\_;rw[z2,z3,z4] at g5;rw[z1,z2] at g3;rw[z3] at g4;rw[z1] at g2;rw[z4];have kp:∀c o,s.heap.get? c=some o->(Gf s.heap l1 l2).get? c=some o:=λc o x=>bq _ (bq _ (bq _ (bq _ (bq _ x))));refine⟨⟨_,g5,Z⟩,h _ (λS hS=>⟨⟨_,_,g5,.inl ⟨Z,Z⟩⟩,g3,⟨_,_,g4⟩,⟨_,g1,Z,Z⟩,⟨_,g2,Z,Z⟩,?_,?_⟩) z5 kp⟩
 .obtain⟨o,e,r⟩:=Et;exact⟨o,kp _ _ e,r⟩
 .obtain⟨o,e,r⟩:=n6;exact⟨o,kp _ _ e,r⟩
end
structure Du(H:Hp)(zs xs ys:ak):Prop where
 len:zs.length=xs.length
 at_:∀(j:Nat) x y,xs[j]? =some x->ys[j]? =some y->∃t,zs[j]? =some (.ref t)/\H t=some (.tup [x,y])
noncomputable def Vt(xs ys:ak)(j:Nat):ak:=match xs[j]?,ys[j]? with
 |some x,some y=>[x,y]
 |_,_=>[]
section
variable{X:Cx}{a b:V'}{ta:TA}{p p' pos pos' :Pos}
def MS(K:Frag)(ta:TA):TE:=λσ H Q=>ta σ H λvs H1=>∃t1 t2 xs ys,vs=[.ref t1,.ref t2]/\bc K H1 t1 xs/\bc K H1 t2 ys/\xs.length=ys.length/\
 ∀l zs H',H1 l=none->ah H1 H'->H' l=some (.lst zs)->Du H' zs xs ys->Q (.ref l) H'
theorem IE(hc:X.calm=true)(hg:Gl X "list")(hm:X.mg "list"=none)(hg' :Gl X "zip")(Pk :X.mg "zip"=none)(ha:PA X [a,b] ta)(hs:starEach [a,b] X.env=[(false,eval a X.env),(false,eval b X.env)]:=by rfl)(VL:starEach [b] X.env=[(false,eval b X.env)]:=by rfl)
 (hs' :starEach [Expr.Call (.Name "zip" p') [a,b] [] pos'] X.env=[(false,eval (.Call (.Name "zip" p') [a,b] [] pos') X.env)]:=by rfl):
 PE X (.Call (.Name "list" p) [.Call (.Name "zip" p') [a,b] [] pos'] [] pos) (MS X.K ta):=by
 intro ad s σ H Q I h;refine lU (ue I hg hm Boot.«list» ?_);refine zg ?_ hs' rfl;rw[hs'];show wpAny _ _ (spliced ((false,eval (.Call (.Name "zip" p') [a,b] [] pos') X.env)::backTo pos [])) _ _ s;refine uz (Call_ (ue I hg' Pk Boot.«zip» (zg (di (ha pos' ad s σ H _ I h) λus s1 ⟨vs,H1,I1,r1,q1⟩=> ?_) (by rw[hs,VL]) (by rw[VL];rfl))));obtain⟨l1,l2,xs,ys,e,hq,hq2,hl,q⟩:=q1;subst e;obtain⟨u,v,rfl,ru,rv⟩:=jad r1;cases ru;cases rv;obtain⟨its,rx,p1,hz⟩:=I1.tuple hq;obtain⟨pB,ry,p2,JF⟩:=I1.tuple hq2;have uG:s1.heap.IsTuple l1 its.toArray:=p1;have wU:s1.heap.IsTuple l2 pB.toArray:=p2;have hlx:=rx.length;have hly:=ry.length;have aei:l1<s1.heap.objs.size:=by obtain⟨o,e,_⟩:=uG;exact a_ e
 have QJ:l2<s1.heap.objs.size:=by obtain⟨o,e,_⟩:=wU;exact a_ e
 refine Qw uG wU λlz tQ qe QW=> ?_;refine wG ?_;have hsa:its.toArray.size=pB.toArray.size:=by rw[bJ,bJ];lia
 refine QN (s:={s1 with heap:=lz}) (I1.ok.hd hc) (Lp _ _ _ aei QJ) hsa (by rw[bJ];lia) tQ λh' tk acc c as hk hS Li hG DL=> ?_
 have kp:∀b o,s1.heap.get? b=some o->h'.get? b=some o:=λb o e=>by
  have q:b<s1.heap.objs.size:=a_ e;exact hk b o (cJ (cQ q (o6 _ _))) (cJ (cQ q (o6 _ _))) (cJ q) (cJ (cQ q (o6 _ _))) (QW b o e)
 dsimp only at hS hG ⊢;have hLo:s1.heap.objs.size<=lz.objs.size:=by lia
 have XA:H1 lz.objs.size=none:=I1.bT.fresh hLo;have Yc:∀a∈as,H1 a=none:=λa ha=>I1.bT.fresh (aU hLo (cT (hG.above a ha)))
 let H' :Hp:=λa=>if a=lz.objs.size then some (.lst (as.map V.ref)) else if a∈as then some (.tup (Vt xs ys (as.idxOf a))) else H1 a
 have sm:∀a o,H1 a=some o->H' a=some o:=λa o e=>by
  show(if a=lz.objs.size then some (.lst (as.map V.ref)) else if a∈as then some (.tup (Vt xs ys (as.idxOf a))) else H1 a)=some o;rw[ax (aA e XA),ax λz=>by rw[Yc a z] at e;cases e];exact e
 have WE :H' lz.objs.size=some (.lst (as.map V.ref)):=aB rfl
 have hi:∀(j:Nat) a,as[j]? =some a->H' a=some (.tup (Vt xs ys j)):=λj a e=>by
  have hm:=bD e;show(if a=lz.objs.size then some (.lst (as.map V.ref)) else if a∈as then some (.tup (Vt xs ys (as.idxOf a))) else H1 a)=_;rw[ax (jr (hG.above a hm)),aB hm,Wt hG.rise e]
 have Mw :as.length=xs.length:=by rw[Li,bJ];lia
 have I2:Inv X ad σ H' {s1 with heap:=h',toks:=tk}:=by
  refine I1.more kp sm λa ob e=> ?_;by_cases z1:a=lz.objs.size
  .subst z1;rw[WE] at e;cases e;refine .inr ⟨hLo,by rw[a6];lia,acc.toList,c,?_,hS⟩;rw[DL];clear DL hS hG Li hi WE sm Yc Mw
   induction as with
   |nil=>exact .nil
   |cons a r ih=>exact .cons Z ih
  .by_cases z2:a∈as
   .obtain⟨j,hj⟩:=zB.mp z2;rw[hi j a hj] at e;cases e;obtain⟨x,y,e1,e2,e3⟩:=hG.pairs j a hj
    have hjl:j<xs.length:=by
     have:=(c9.mp hj).1
     lia
    have afl:j<ys.length:=by lia
    have hp:xs[j]? =some xs[j]:=by simp[hjl]
    have Di:ys[j]? =some ys[j]:=by simp[afl]
    obtain⟨x',ex,rx'⟩:=rx.get hp;obtain⟨y',ey,ry'⟩:=ry.get Di;have e1' :its[j]? =some x:=by simpa using e1
    have Pc :pB[j]? =some y:=by simpa using e2
    rw[ex] at e1';rw[ey] at Pc;cases e1';cases Pc;refine .inr ⟨aU hLo (cT (hG.above a z2)),?_⟩;unfold Vt;rw[hp,Di];exact⟨(show 2<=sizeLine by decide),[_,_],.cons rx' (.cons ry' .nil),⟨_,e3,Z,_,Z⟩⟩
   .left
    have:H' a=H1 a:=by
     show(if a=lz.objs.size then some (.lst (as.map V.ref)) else if a∈as then some (.tup (Vt xs ys (as.idxOf a))) else H1 a)=H1 a;rw[ax z1,ax z2]
    rw[<-this];exact e
 refine⟨.ref lz.objs.size,H',I2,Z,q _ _ H' XA sm WE ⟨by rw[a6];exact Mw,λj x y ex ey=> ?_⟩⟩
 have hjl:j<as.length:=by
  have:=(c9.mp ex).1
  lia
 have ha:as[j]? =some as[j]:=by simp[hjl]
 refine⟨as[j],by rw[bX,ha];rfl,?_⟩;rw[hi j _ ha];unfold Vt;rw[ex,ey]
end
section
variable{M:Model}{A:X'}{E:J'}
theorem v_{h:Y'}{g:Array GenState}{d:Drawn}{t:Nat}{os:OsState}{e C D N N' :S'}{oe:Obj}{nm q nm' q' :Str}{bs bm bs' bm' :aF}{jf Zc :Bool}{sn sn' :au}{sub ae2 :aF}{ab ab' :Bool}{col adm :Option Bool}{dd XT :Option S'}{k0 k1 k2 k3 k5 j0 j1 j2 j3 j5:aO}{i j:String}{b:Bool}{Q:Bool->R'->Prop}
 (hC:h.get? C=some (excClassObj nm q C N bs bm jf sn sub ab col dd k0 k1 k2 k3 k5 i)) (hD:h.get? D=some (excClassObj nm' q' D N' bs' bm' Zc sn' ae2 ab' adm XT j0 j1 j2 j3 j5 j)) (he:h.get? e=some oe) (HY:oe.cls= .ref C) (Bg:bm'.contains (.type "BaseException")=true)
 (Ye:(Value.ref C::bm).contains (.ref D)=b) (hq:Q b ⟨h,g,d,t,os⟩):wpAny M A (excMatches (.ref e) (.ref D)) Q E ⟨h,g,d,t,os⟩:=by
 have Q4:(Value.ref D::bm').contains (.type "BaseException")=true:=by rw[pK,Bg,rX]
 have f:=tc_notTuple;unfold excMatches
 repeat (first|(with_reducible refine jo he ?_;rw[HY])|with_reducible refine jo hD ?_|(with_reducible refine pT hD ?_;rw[Q4])|(with_reducible refine pT hC ?_;rw[Ye])|wp_step)
 cases b with
 |true=>
  rw[aB Z]
  repeat wp_step
  exact hq
 |false=>
  rw[ax (by decide)]
  repeat wp_step
  exact hq
end
structure FV(K:Frag)(C D:S'):Prop where
 ex:∃nm q N bs bm jf sn sub ab col dd k0 k1 k2 k3 k5 i,K.lookup C=some (excClassObj nm q C N bs bm jf sn sub ab col dd k0 k1 k2 k3 k5 i)/\(Value.ref C::bm).contains (.ref D)=false
def ES(K:Frag)(C:S'):List (S'×TS)->TS->Prop
 |[],_=>False
 |p::r,t=>(Under K C p.1/\t=p.2)\/(FV K C p.1/\ES K C r t)
inductive GX (X:Cx) (nm:Str):List ExceptHandler->List (S'×TS)->Prop
 |nil {r:List ExceptHandler}:GX X nm r []
 |cons {c:Str} {cp Ff:Pos} {b0:Stmt} {FD:List Stmt} {rest:List ExceptHandler} {D:S'} {th:TS} {L:List (S'×TS)} (hg:Gl X c) (hm:X.mg c=some (.ref D)) (hD:ExcC X.K D) (rD:(c==("__debug__" :Str))=false)
  (hs:∀a,CG (X.Bp a λ_ _=>False) (b0::FD) th) (r:GX X nm rest L):GX X nm (.ExceptHandler (some (.Name c cp)) (some nm) (b0::FD) Ff::rest) ((D,th)::L)
section
variable{X:Cx}{body:List Stmt}{Gy:List ExceptHandler}{nm:Str}{pos:Pos}{tb:XK->TS}{i:Nat}{L:List (S'×TS)}
def TB(K:Frag)(len:Nat)(L:List (S'×TS))(i:Nat)(Ds:Ends):XK:=λCv dd H=>∃C th,Cv= .ref C/\ES K C L th/\∀(a:S') (σ:St),H a=some (.ext (eW a C dd false))->σ.length=len->th (HN i Ds) (σ.set i (some (.ref a))) H
def Y_(K:Frag)(len:Nat)(L:List (S'×TS))(i:Nat)(tb:XK->TS):TS:=λDs σ H=>tb (TB K len L i Ds) Ds σ H
theorem NV{ad:aQ}{σ:St}{H:Hp}{a C T:S'}{dd:Option S'}{th:TS}{Ds:Ends}(hN:X.N.Nodup)(hi:X.N[i]? =some nm)(Ig:X.env.kindOf nm=some .local)(Hs:GX X nm Gy L)(ct:ES X.K C L th):
 ∀s:R',Inv X ad σ H s->MX X ad H s.heap a T->H a=some (.ext (eW a C dd false))->th (HN i Ds) (σ.set i (some (.ref a))) H->wpAny (model X.prog X.w) X.A (handleBy (.ref a) X.env Gy) (SP X ad Ds) X.xe s:=by
 induction Hs with
 |nil=>exact ct.elim
 | @cons c cp Ff b0 FD rest D th' L' hg hm hD rD hs r ih=>
  intro s I held ea q;obtain⟨vs,he,hv,_⟩:=pW I.bT ea;refine wpAny_handleBy_cons (codeAny_handlers_test ?_) (by intro q;cases q);refine kN (I.Bp a λ_ _=>False) hg hm ?_ rD;obtain⟨nm2,q2,N2,bs2,bm2,hd2,sn2,al0,ab2,alc,V_,j0,j1,j2,j3,j5,lk2,T2⟩:=hD.obj;have hDD:=I.jN _ _ lk2;rcases ct with⟨un,rfl⟩|⟨un,ct⟩
  .obtain⟨nm1,q1,N1,bs1,bm1,SQ,sn1,aea,Xh,aec,dd1,k0,k1,k2,k3,k5,i1,lk,Ye⟩:=un.ex;have hC:=I.jN _ _ lk;obtain⟨Di,g2,d2,t2,os2⟩:=s;refine v_ hC hDD he Z T2.hasBase Ye ?_;refine codeAny_handlers_suite_as ?_;refine Lo I held λs3 I3 ahR=> ?_;refine nL (X:=X.Bp a λ_ _=>False) (I3.Bp a λ_ _=>False) hN hi (.inl Ig) (show RelV (.ref a) (.ref a) from Z) (λs4 I4=> ?_) (.inr Ig);refine fW (hs a ad s4 _ _ (HN i Ds) I4 q) (λf s5 z=> ?_) λ_ _ z=>z.elim;have HY:(X.env.scope.kind== .class||(X.env.scope.kind== .module&&X.env.locals !=X.env.globals))=false:=by rw[I.ok.kind];rfl
   have goes:∀{Xg:St} {H5:Hp} {Q:Unit->R'->Prop},Inv X ad Xg H5 s5->(∀s6,Inv X ad (Xg.set i none) H5 s6->Q () s6)->wpAny (model X.prog X.w) X.A (do bindName X.env nm .none;unbindBehindTheSuite X.env nm Ff) Q X.xe s5:=λ{Xg H5 Q} J5 hQ=>by
    obtain⟨m,hm5,_⟩:=id J5.loc;exact wpAny_nameGoes_keeps Ig hm5 HY λh' v hn sb=>hQ _ (J5.PJ (t' :=s5.toks+1) hN hi hm5 hn sb)
   cases f with
   |next=>obtain⟨Xg,H5,I5,q5⟩:=z;exact goes (I5.DZ I.ok) λs6 I6=>⟨_,_,I6,q5⟩
   |brk=>obtain⟨Xg,H5,I5,q5⟩:=z;exact goes (I5.DZ I.ok) λs6 I6=>⟨_,_,I6,q5⟩
   |cont=>obtain⟨Xg,H5,I5,q5⟩:=z;exact goes (I5.DZ I.ok) λs6 I6=>⟨_,_,I6,q5⟩
   |ret u=>obtain⟨v,Xg,H5,I5,r5,q5⟩:=z;exact goes (I5.DZ I.ok) λs6 I6=>⟨v,_,_,I6,r5,q5⟩
  .obtain⟨nm1,q1,N1,bs1,bm1,SQ,sn1,aea,Xh,aec,dd1,k0,k1,k2,k3,k5,i1,lk,Ye⟩:=un.ex;have hC:=I.jN _ _ lk;obtain⟨Di,g2,d2,t2,os2⟩:=s;refine v_ hC hDD he Z T2.hasBase Ye ?_;exact ih ct _ I held ea q
theorem Pu(tQ:X.stack=X.env::X.outer)(vj:X.env.frame=some X.env.locals)(hN:X.N.Nodup)(hi:X.N[i]? =some nm)(Ig:X.env.kindOf nm=some .local)(Hs:GX X nm Gy L)
 (hb:∀(E:XK) (pn:aQ) (W:J'),CT (X.pinned pn W) E->CG (X.pinned pn W) body (tb E)) (wN:∃h0 r,Gy=h0::r:=by exact⟨_,_,Z⟩):
 PS X (.Try body Gy [] [] pos) (Y_ X.K X.N.length L i tb):=by
 obtain⟨h0,r0,rfl⟩:=wN;intro ad s σ H Ds I h;refine wpAny_Try_except ?_
 have hw:CT (X.pinned ad λe bR=>wpAny (model X.prog X.w) X.A (noteFrame e X.env) (λ_ uK=>wpAny (model X.prog X.w) X.A (setFlight e none) (λ_ y6=>wpAny (model X.prog X.w) X.A (handleBy e X.env (h0::r0)) (SP X ad Ds) X.xe y6) X.xe uK) X.xe bR)
  (TB X.K X.N.length L i Ds):=by
  intro Gm fC H' s' a C dd n I' ea fl q;have J:Inv X ad fC H' s' :=I'.ofPinned I.ok
  have fl' :GB X ad H' s'.heap a:=by
   rcases fl with z|⟨T,oe,f,z1,z2,z3⟩
   .exact .inl z
   .exact .inr ⟨T,oe,f,z1,z2,λp hp=>z3 p (rO _ hp)⟩
  obtain⟨C',th,eC,ct,q⟩:=q;cases eC;refine KS J tQ vj ea fl' λs2 T I2 held=> ?_;have ea2:upd H' a (.ext (eW a C dd false)) a=some (.ext (eW a C dd false)):=af;exact NV hN hi Ig Hs ct s2 I2 held ea2 (q a fC ea2 I2.len)
 refine fW (hb _ ad _ hw [] s σ H Ds (I.Oq _) h) (λf s1 z=> ?_) λ_ _ z=>z
 cases f with
 |next=>obtain⟨fC,H',I',q⟩:=z;exact zr ⟨fC,H',I'.ofPinned I.ok,q⟩
 |brk=>obtain⟨fC,H',I',q⟩:=z;exact⟨fC,H',I'.ofPinned I.ok,q⟩
 |cont=>obtain⟨fC,H',I',q⟩:=z;exact⟨fC,H',I'.ofPinned I.ok,q⟩
 |ret u=>obtain⟨v,fC,H',I',r,q⟩:=z;exact⟨v,fC,H',I'.ofPinned I.ok,r,q⟩
end
section
variable{X:Cx}{tg:V'}
noncomputable def NF(K:Frag)(t:Bool)(a:S'):It:=if t then XH K a else Vp K a
def iSq(K:Frag)(tl:TE):TI:=λσ H R=>tl σ H λx H1=>∃a,∃t:Bool,x= .ref a/\(if t then(∃xs,bc K H1 a xs) else ∃xs,cF K H1 a xs)/\R (NF K t a) H1
theorem o_{l:V'}{tl:TE}(hl:PE X l tl):PI X tg l (iSq X.K tl):=by
 intro ad s σ H R I h;have key:=hl ad s σ H _ I h;refine di key ?_
 rintro v s1 ⟨x,H1,I1,r1,q1⟩
 obtain⟨a,t,e,hq,q⟩:=q1;subst e;cases r1
 cases t with
 |false=>
  obtain⟨xs,hq⟩:=hq;obtain⟨its,rv,p,hz⟩:=I1.list hq;refine vd p.isList ?_;refine⟨s1.heap.objs.size,[s1.heap.objs.size],_,_,H1,Z,I1.kept (t' :=s1.toks) λb o e=>bq _ e,Cy a _,⟨_,cV _ Z,Z,Z⟩,λb hb=> ?_,q⟩;have e:b=s1.heap.objs.size:=by simpa using hb
  subst e;exact I1.IZ (aK _) (I1.bT.fresh (aK _))
 |true=>
  obtain⟨xs,hq⟩:=hq;obtain⟨its,rv,p,hz⟩:=I1.tuple hq;refine zH (show s1.heap.IsTuple a its.toArray from p) ?_;refine⟨s1.heap.objs.size,[s1.heap.objs.size],_,_,H1,Z,I1.kept (t' :=s1.toks) λb o e=>bq _ e,Bx a _,⟨_,cV _ Z,Z,Z⟩,λb hb=> ?_,q⟩;have e:b=s1.heap.objs.size:=by simpa using hb
  subst e;exact I1.IZ (aK _) (I1.bT.fresh (aK _))
end
noncomputable def EI(t:Bool)(xs:ak):HO:=if t then .tup xs else .lst xs
theorem nt{K:Frag}{t:Bool}{a:S'}{xs:ak}{g:TG}{tb:TS}{D:Ends}{σ:St}{H:Hp}(Pv:Nat->St->Hp->Prop)(h0:Pv 0 σ H)(hl:∀i σ H,i<=xs.length->Pv i σ H->H a=some (EI t xs))
 (hs:∀i x σ H,xs[i]? =some x->Pv i σ H->g x σ H λmV H2=>tb {D with nx:=Pv (i+1),ct:=Pv (i+1),bk:=D.nx} mV H2) (hd:∀σ H,Pv xs.length σ H->D.nx σ H):
 ∃W:Nat->Nat->St->Hp->Prop,(∃m,W 0 m σ H)/\∀i m σ H,W i m σ H->
  ((NF K t a).stop i H/\D.nx σ H)\/((NF K t a).go i H/\∃N:St->Hp->Prop,(∀fC H',N fC H'->∃m',m' <m/\W (i+1) m' fC H')/\∀x H',(NF K t a).BO i H x H'->g x σ H' λmV H2=>tb {D with nx:=N,ct:=N,bk:=D.nx} mV H2):=by
 cases t with
 |false=>exact i0 Pv h0 (λi σ H hi p=>cF.of (hl i σ H hi p)) hs hd
 |true=>exact D_ Pv h0 (λi σ H hi p=>bc.of (hl i σ H hi p)) hs hd
theorem FR{K:Frag}{t:Bool}{a:S'}{xs:ak}{H:Hp}(h:H a=some (EI t xs)):wb (NF K t a) H xs:=by
 cases t with
 |false=>exact fL (cF.of h)
 |true=>exact rE (bc.of h)
theorem LW{K:Frag}{t:Bool}{a:S'}{xs:ak}{H:Hp}(h:H a=some (EI t xs)):if t then(∃xs,bc K H a xs) else ∃xs,cF K H a xs:=by
 cases t with
 |false=>exact⟨xs,cF.of h⟩
 |true=>exact⟨xs,bc.of h⟩
theorem YD{K:Frag}{t:Bool}{a:S'}{xs:ak}{H:Hp}(h:H a=some (EI t xs)):cF K H a xs\/bc K H a xs:=by
 cases t with
 |false=>exact .inl (cF.of h)
 |true=>exact .inr (bc.of h)
section
variable{prog:Z'}{w:W'}{A:X'}{E:J'}{s:R'}
theorem sI{t sl:S'}{items:Array M'}{vl vu:M'}{lo hi:Option Int}{Q:J'}(ht:IsTup s.heap t items)(hs:s.heap.IsSliceOf sl vl vu .none)(pl:IsPart vl lo)(pu:IsPart vu hi)
 (h0:HT.gz items.size 0 lo=0) (h1:HT.gz items.size items.size hi=items.size) (h:Q (.ref t) s):wpAny (model prog w) A (getItem (.ref t) (.ref sl)) Q E s:=by
 obtain⟨os,Xy,hcs,Hj⟩:=id hs;have Yi:s.TypeIs (.ref sl) "slice":=⟨os,Xy,hcs⟩;unfold getItem
 try with_reducible refine kh ?_
 first|refine aw (aY ?_)|skip
 refine aw (wpAny_sequenceKey ht.typeIs (by decide) ?_)
 refine aw (xw (name:=Str.ofString "__getitem__") ht.typeIs xn
  (uk xn ht.typeIs entry_tuple_getitem ?_ (args_tuple_getitem _ _)))
 show wpAny _ _ (Builtin.Tuple.tupleItemsOf (.ref t)>>= _) _ _ s;refine aw (tupleItemsOf_ ht ?_);refine aw (wpAny_typeOf Yi ?_);rw[aB (by decide)];refine aw (HT.nJ hs pl pu ?_);show wpAny _ _ (if(((HT.gz items.size 0 lo:Nat):Int)==0&&(1:Int)==1&&(HT.gz items.size items.size hi - HT.gz items.size 0 lo)==items.size)=true then _ else _) _ _ s;rw[aB (by rw[h0,h1];simp)];refine aw ?_;unfold Builtin.Tuple.tupleIsExact;refine aw (wpAny_typeOf ht.typeIs (aY ?_));rw[aB (by decide)];exact aw (sk (aY ⟨_,Z,aY h⟩))
end
section
variable{X:Cx}{e lo hi stp:V'}{te tl th ts:TE}{pos p2:Pos}
def aam(K:Frag):V->Option Int->Option Int->Hp->VK->Prop:=λx lo hi H Q=>∃a xs,x= .ref a/\bc K H a xs/\
 ((HT.gz xs.length 0 lo=0/\HT.gz xs.length xs.length hi=xs.length)->Q (.ref a) H)/\(¬(HT.gz xs.length 0 lo=0/\HT.gz xs.length xs.length hi=xs.length)->∀p,H p=none->Q (.ref p) (upd H p (.tup (c6 xs lo hi))))
theorem JX:Yd X (aam X.K):=by
 intro ad s σ H x v vl vu lo hi sl Q I rx hs pl pu h;obtain⟨a,xs,rfl,hx,q0,q1⟩:=h;by_cases hw:HT.gz xs.length 0 lo=0/\HT.gz xs.length xs.length hi=xs.length
 .cases rx;obtain⟨its,r,ht,hz⟩:=I.tuple hx;have hlen:its.toArray.size=xs.length:=by rw[bJ];exact r.length.symm
  refine⟨"tuple",_,xn.lookup,ht.typeIs,?_⟩;exact sI ht hs pl pu (by rw[hlen];exact hw.1) (by rw[hlen];exact hw.2) ⟨.ref a,H,I,Z,q0 hw⟩
 .exact iu ad s σ H _ v vl vu lo hi sl Q I rx hs pl pu ⟨a,xs,Z,hx,hw,q1 hw⟩
end
theorem DH(hc:X.calm=true):i7 X (.builtin "max") (λxs H Q=>∃(a:S') (i j:Int),xs=[.ref a]/\H a=some (.lst [.int i,.int j])/\Q (.int (if j>i then j else i)) H):=by
 intro ad s σ H xs us Q I r h;obtain⟨a,i,j,rfl,ha,q⟩:=h;obtain⟨u,rfl,ru⟩:=Wp r;cases ru;obtain⟨its,r,pl,hz⟩:=I.list (cF.of ha);obtain⟨u1,u2,rfl,⟨t1,rfl⟩,⟨t2,rfl⟩⟩:=jad r;have ky:=I.bT.lt ha;have I1:Inv X ad σ H {s with heap:=s.heap.push {cls:= .type "list_iterator",data:= .fields #[.ref a,.int 0 0]}}:=I.kept (t' :=s.toks) λb u e=>bq _ e
 have Zq:∀(k:Nat) v,([Value.int i t1,Value.int j t2]:aF).toArray[k]? =some v->∃t,v= .int (if k=0 then i else j) t:=λk v e=>by
  match k with
  |0=>cases e;exact⟨t1,Z⟩
  |1=>cases e;exact⟨t2,Z⟩
  |k+2=>cases e
 refine call_max_walk (vd pl.isList ⟨_,_,_,_,_,_,_,Z,Walks.list (A:=X.A.in1) (I.ok.hd hc) _ a (cJ ky) _,⟨⟨_,cV _ Z,Z,Z⟩,pl.isList.push _⟩,?_,by simp,CmpOf.ints_gt (λk=>if k=0 then i else j) Zq,λv h' tk hP k=> ?_⟩)
 .intro b wO;have wO :b=s.heap.objs.size\/b=a:=by simpa using wO
  show b<(s.heap.push _).objs.size;rw[kr];rcases wO with rfl|rfl
  .exact zd _
  .exact Nat.lt_succ_of_lt ky
 .refine⟨.int (if j>i then j else i),H,I1.turned (λb o hb e=>k b o (by simpa using hb) e) (I.bT.fresh (aK _)) (λz=> ?_) (.inr I.sz) (λx c e z=> ?_) (λp hp z=> ?_),?_,q⟩
  .exact absurd (z▸I.lt) (cA _)
  .obtain⟨v,o,ho,_⟩:=I.cell x c e;exact absurd (z▸a_ ho) (cA _)
  .obtain⟨ho,_⟩:=I.pin p hp;exact absurd (z▸a_ ho) (cA _)
  .obtain⟨t,rfl⟩:=Zq _ v hP;refine⟨t,?_⟩
   congr 1
   show(if(if decide ((if(0+1:Nat)=0 then i else j)>(if(0:Nat)=0 then i else j))=true then 1 else 0)=0 then i else j)=_;by_cases hj:j>i
   .simp[hj]
   .simp[hj]
structure VU(K:Frag)(x qual:Str)(st:Stmt)(f:S')(fd:aad):Prop where
 ex:∃(oc:M') (od:Option S') (dV kV doc pm:M') (an:Option S') (cB ct:M') (xM:Array (aO)),
  fd=PySem.W.fnOf x qual (ib st) (dN st) (av st) dV kV doc pm an cB ct/\K.lookup f=some ⟨oc,od,.func fd,xM⟩/\PySem.W.codeIn K cB qual=true
 kp:PySem.W.keepIn K (.ref f)=true
structure FID(K:Frag)(mg:Str->aO)(x:Str)(st:Stmt)(ps:au)(f:S')(fd:aad):Prop where
 m:mg x=some (.ref f)
 F:VU K x x st f fd
 b:Binds K fd ps []
section
variable{P:Z'}{w:W'}{K:Frag}{mg:Str->aO}{base:Y'}
theorem VU.ok{x qual:Str}{st:Stmt}{f:S'}{fd:aad}{N ps:au}{k:Nat}{sp:Sp}(F:VU K x qual st f fd)(S:aJ N ps (av st))(len:∀vs H Q E,sp vs H Q E->vs.length=ps.length)
 (ja:∀(cB:M') (A:X') (outer:List Env) (s:R') (H:Hp) (vs:ak) (Q:VK) (E:XK),dW k (A.deeper (envOfC qual (av st) s.heap.objs.size f cB))->sp vs H Q E->
  ∃t,CG (ny dQ P w K mg base N qual (av st) f cB A outer s H E).K0 (dN st) t/\t {nx:=λ_ H' =>Q .bp H',rt:=Q} (start N vs) H):aT P w K mg base dQ (k+1) f fd ps sp:=by
 obtain⟨oc,od,dV,kV,doc,pm,an,cB,ct,xM,rfl,lk,Av⟩:=F.ex;refine J8 lk Av S len λA outer s H vs Q E hr DG=> ?_;obtain⟨t,h,q⟩:=ja cB A outer s H vs Q E hr DG;exact⟨t,h.K0,q⟩
end
section
variable{X:Cx}{CX:uo}{j k:Nat}{f:S'}{fd:aad}{ps:au}{sp:Sp}{E:XK}{x:Str}{st:Stmt}{p pos:Pos}{e:V'}{es:b8}{t:TA}
theorem afq(F:aT X.prog X.w X.K X.mg X.base CX j f fd ps sp)(hr:dW k X.A)(I:FID X.K X.mg x st ps f fd)(hx:wf CX X E)(ha:PA X (e::es) t)(hj:j<=k:=by decide)(hg:Gl X x:=by rfl)
 (rD:(x==("__debug__" :Str))=false:=by decide) (he:starEach (e::es) X.env=(false,eval e X.env)::starEach es X.env:=by rfl) (ng:(backTo pos (starEach es X.env)).any (·.1)=false:=by rfl):
 PE X (.Call (.Name x p) (e::es) [] pos) (xE sp [] E t):=JO (F.mono hj) hr hg I.m I.F.kp I.b .nil hx ha rD he ng
end
theorem Vq{K:Frag}{h:Y'}{mg:Str->aO}{x:Str}{st:Stmt}{ps:au}{f:S'}{oc dV kV dc pm cd ct:M'}{od an:Option S'}{sl:Array (aO)}(X:K.In h)(G:h.Ns mainGlobals mg)(a:PySem.W.nsIn K mainGlobals x=some (some (.ref f)))
 (l:K.lookup f=some ⟨oc,od,.func (PySem.W.fnOf x x (ib st) (dN st) (av st) dV kV dc pm an cd ct),sl⟩) (c:PySem.W.codeIn K cd x=true) (k:PySem.W.keepIn K (.ref f)=true) (b:Binds K (PySem.W.fnOf x x (ib st) (dN st) (av st) dV kV dc pm an cd ct) ps []):
 FID K mg x st ps f (PySem.W.fnOf x x (ib st) (dN st) (av st) dV kV dc pm an cd ct):=⟨PySem.W.mg_of X G a,⟨⟨oc,od,dV,kV,dc,pm,an,cd,ct,sl,Z,l,c⟩,k⟩,b⟩
theorem MM{α:Type}{n:Nat}{us:List α}(h:us.length=n+1):∃a r,us=a::r/\r.length=n:=by
 cases us with
 |nil=>cases h
 |cons a r=>exact⟨a,r,Z,oG h⟩
theorem bn0{α:Type}{P:List α->Prop}(h:P [])(us:List α)(hl:us.length=0):P us:=by rw[qp hl];exact h
theorem Yo{α:Type}{n:Nat}{P:List α->Prop}(h:∀a us,us.length=n->P (a::us))(us:List α)(hl:us.length=n+1):P us:=by
 obtain⟨a,r,rfl,e⟩:=MM hl;exact h a r e
theorem bn1{α:Type}{P:List α->Prop}(h:∀a,P [a]):∀us:List α,us.length=1->P us:=Yo λa=>bn0 (P:=λus=>P (a::us)) (h a)
theorem Yg{α:Type}{P:List α->Prop}(h:∀a b,P [a,b]):∀us:List α,us.length=2->P us:=Yo λa=>bn1 (P:=λus=>P (a::us)) (h a)
theorem Yn{α:Type}{P:List α->Prop}(h:∀a b c,P [a,b,c]):∀us:List α,us.length=3->P us:=Yo λa=>Yg (P:=λus=>P (a::us)) (h a)
theorem bn4{α:Type}{P:List α->Prop}(h:∀a b c d,P [a,b,c,d]):∀us:List α,us.length=4->P us:=Yo λa=>Yn (P:=λus=>P (a::us)) (h a)
theorem bn5{α:Type}{P:List α->Prop}(h:∀a b c d e,P [a,b,c,d,e]):∀us:List α,us.length=5->P us:=Yo λa=>bn4 (P:=λus=>P (a::us)) (h a)
theorem bn6{α:Type}{P:List α->Prop}(h:∀a b c d e f,P [a,b,c,d,e,f]):∀us:List α,us.length=6->P us:=Yo λa=>bn5 (P:=λus=>P (a::us)) (h a)
theorem LL(hu:X.A.units<cLine):n5 X (compareOp .NotEq) (λx y H Q=>∃a b xs,x= .ref a/\y= .ref b/\H a=some (.tup xs)/\H b=some (.tup [])/\Q (.bl (!xs.isEmpty)) H):=by
 intro ad s σ H x y v u Q I rx ry h;obtain⟨a,b,xs,rfl,rfl,ha,hb,q⟩:=h;cases rx;cases ry;obtain⟨its,r,pl,hz⟩:=I.tuple (bc.of ha);obtain⟨pB,r2,QF,JF⟩:=I.tuple (bc.of hb);cases r2
 have e:(!((List.range (min its.toArray.size ([]:aF).toArray.size)).all (λ_=>true)&&its.toArray.size==([]:aF).toArray.size))= !xs.isEmpty:=by
  cases r with
  |nil=>rfl
  |cons _ _=>rfl
 have key:=SeqAt.RcNeAt.tuples (A:=X.A) (s:=s) (e:=λ_=>true) (show s.heap.IsTuple a its.toArray from pl) (show s.heap.IsTuple b ([]:aF).toArray from QF) hu (λj _ h2=>absurd h2 (iP _));rw[e] at key;exact key _ _ _ _ ⟨.bl _,H,I,Z,q⟩
end L2
namespace PySem
open Sem (wp)
open Builtin
section
variable(l:S')(n:Nat)(dd:Option S')(sl:Array (aO))(v:M')(u:Tok)
end
end PySem
namespace L2
open PySem PySem.Spec PyProof.Rows
variable{X:Cx}
end L2
namespace L2
open PySem PySem.Spec PySem.SeqAt PyProof.Rows
variable{X:Cx}
theorem aa{X:Cx}{e:V'}{es:b8}{te:TE}{ta:TA}(hs:∀(es:b8) (env:Env),starEach (e::es) env=(false,eval e env)::starEach es env)(ha:CW X e te)(hr:O_ X es ta):O_ X (e::es) (tL te ta):=⟨ag ha.h hr.h (hs _ _)⟩
theorem aR{X:Cx}{es:b8}{ta:TA}{x1:Nat}{pos:Pos}(h:O_ X es ta):CW X (.Tuple es x1 pos) (LB ta):=⟨bt h.h⟩
theorem Zp{X:Cx}{CX:uo}{j k:Nat}{f:S'}{fd:aad}{ps:au}{sp:Sp}{E:XK}{x:Str}{st:Stmt}{p pos:Pos}{e:V'}{t:TA}(F:aT X.prog X.w X.K X.mg X.base CX j f fd ps sp)(hr:dW k X.A)(I:FI X.K X.mg x st ps f fd)(hx:wf CX X E)(hs:∀(es:b8) (env:Env),starEach (e::es) env=(false,eval e env)::starEach es env)(ha:O_ X [e] t)(hj:j<=k:=by decide)(hg:Gl X x:=by rfl)(rD:(x==("__debug__" :Str))=false:=by decide):CW X (.Call (.Name x p) [e] [] pos) (xE sp [] E t):=⟨cI F hr I hx ha.h hj hg rD (hs _ _)⟩
inductive Th (H:Hp):V->Prop
 |bp:Th H .bp
 |bl (b:Bool):Th H (.bl b)
 |int (i:Int):Th H (.int i)
 |str (x:Str):Th H (.str x)
 |lst {a:S'} {xs:ak} (e:H a=some (.lst xs)):Th H (.ref a)
 |tup {a:S'} {xs:ak} (e:H a=some (.tup xs)):Th H (.ref a)
 |dK {a:S'} {kvs:eJ} (e:H a=some (.dK kvs)):Th H (.ref a)
noncomputable def uJ(H:Hp):V->Bool
 | .ref a=>match H a with
  |some (.lst _)=>true
  |some (.tup _)=>true
  |_=>false
 |_=>false
theorem Th.same{H H' :Hp}{v:V}(h:Th H v)(s:ah H H'):Th H' v:=by
 cases h with
 |bp=>exact .bp
 |bl b=>exact .bl b
 |int i=>exact .int i
 |str x=>exact .str x
 |lst e=>exact .lst (s _ _ e)
 |tup e=>exact .tup (s _ _ e)
 |dK e=>exact .dK (s _ _ e)
theorem wa:i7 X (.builtin "isinstance") (λxs H Q=>∃v p,xs=[v,.ref p]/\Th H v/\H p=some (.tup [.ty "list",.ty "tuple"])/\Q (.bl (uJ H v)) H):=by
 intro ad s σ H xs us Q I r h;obtain⟨v,p,rfl,hv,hp,q⟩:=h;obtain⟨u,c,rfl,ru,rc⟩:=jad r;cases rc;obtain⟨z,its,rv,o,h1,h2,n,h3⟩:=(show cu X.prog X.w H s.heap p (.tup _) from I.bT p _ hp);obtain⟨u1,u2,rfl,r1,r2⟩:=jad rv;cases r1;cases r2
 have Rb:s.heap.get? p=some ⟨.type "tuple",o.dict,.seq ([Value.type "list",Value.type "tuple"]:aF).toArray n,o.slots⟩:=by
  obtain⟨c,d,dt,sl⟩:=o;dsimp only at h2 h3;subst h2 h3;exact h1
 cases hv with
 |bp=>cases(show u=Value.none from ru);exact kia_tup kitx_none I.jN True.intro Rb (by rfl) (λz=>nomatch z) λtk=>⟨.bl false,H,I.tok tk,rfl,q⟩
 |bl y=>cases(show u=Value.bool y from ru);exact kia_tup kitx_bool I.jN True.intro Rb (by rfl) (λz=>nomatch z) λtk=>⟨.bl false,H,I.tok tk,rfl,q⟩
 |int i=>obtain⟨t,z⟩:=(show ∃t,u=Value.int i t from ru);cases z;exact kia_tup kitx_int I.jN True.intro Rb (by rfl) (λz=>nomatch z) λtk=>⟨.bl false,H,I.tok tk,rfl,q⟩
 |str y=>obtain⟨t,z⟩:=(show ∃t,u=Value.str y t from ru);cases z;exact kia_tup kitx_str I.jN True.intro Rb (by rfl) (λz=>nomatch z) λtk=>⟨.bl false,H,I.tok tk,rfl,q⟩
 | @lst a xs ea=>
  cases(show u=Value.ref a from ru);obtain⟨_,_,n,_,h1⟩:=(show cu X.prog X.w H s.heap a (.lst xs) from I.bT a _ ea);exact kia_tup kitx_list I.jN ⟨_,h1,Z⟩ Rb (by rfl) (λz=>nomatch z) λtk=>⟨.bl true,H,I.tok tk,Z,by simpa[uJ,ea] using q⟩
 | @tup a xs ea=>
  cases(show u=Value.ref a from ru);obtain⟨_,_,_,p⟩:=(show cu X.prog X.w H s.heap a (.tup xs) from I.bT a _ ea);obtain⟨o,h1,h2,_⟩:=p;exact kia_tup kitx_tuple I.jN ⟨o,h1,h2⟩ Rb (by rfl) (λz=>nomatch z) λtk=>⟨.bl true,H,I.tok tk,Z,by simpa[uJ,ea] using q⟩
 | @dK a kvs ea=>
  cases(show u=Value.ref a from ru);obtain⟨_,_,vs,_,p⟩:=(show cu X.prog X.w H s.heap a (.dK kvs) from I.bT a _ ea);obtain⟨o,es,ep,h1,h2,_⟩:=p;exact kia_tup kitx_dict I.jN ⟨o,h1,h2.1⟩ Rb (by rfl) (λz=>nomatch z) λtk=>⟨.bl false,H,I.tok tk,Z,by simpa[uJ,ea] using q⟩
theorem LS(hu:X.A.units<cLine):n5 X (compareOp .Eq) (λx y H Q=>∃a b xs,x= .ref a/\y= .ref b/\H a=some (.tup xs)/\H b=some (.tup [])/\Q (.bl xs.isEmpty) H):=by
 intro ad s σ H x y v u Q I rx ry h;obtain⟨a,b,xs,rfl,rfl,ha,hb,q⟩:=h;cases rx;cases ry;obtain⟨its,r,pl,hz⟩:=I.tuple (bc.of ha);obtain⟨pB,r2,QF,JF⟩:=I.tuple (bc.of hb);cases r2
 have e:((List.range (min its.toArray.size ([]:aF).toArray.size)).all (λ_=>true)&&its.toArray.size==([]:aF).toArray.size)=xs.isEmpty:=by
  cases r with
  |nil=>rfl
  |cons _ _=>rfl
 have key:=SeqAt.RcAt.tuples (A:=X.A) (s:=s) (e:=λ_=>true) (show s.heap.IsTuple a its.toArray from pl) (show s.heap.IsTuple b ([]:aF).toArray from QF) hu (λj _ h2=>absurd h2 (iP _));rw[e] at key;exact key _ _ _ _ ⟨.bl _,H,I,Z,q⟩
theorem Lg:i7 X (.builtin "abs") (λxs H Q=>∃i,xs=[.int i]/\Q (.int (if i<0 then -i else i)) H):=by
 intro ad s σ H xs us Q I r h;obtain⟨i,rfl,q⟩:=h;obtain⟨u,rfl,t,rfl⟩:=Wp r;exact call_abs_int λu tk=>⟨.int _,H,I.tok tk,⟨u,Z⟩,q⟩
section
variable{X:Cx}{a b e:V'}{ta tb te:TE}{pos:Pos}
theorem bF{op:Operator}{r:R2}(ho:n5 X (binaryOp op) r)(ha:CW X a ta)(hb:CW X b tb):CW X (.BinOp a op b pos) (wM r ta tb):=⟨aL ho ha.h hb.h⟩
theorem uC{r:R2}(hr:VX X r)(ha:CW X a ta)(hb:CW X b tb)(hs:Ew b):CW X (.Subscript a b pos) (wM r ta tb):=⟨UT hr ha.h hb.h hs⟩
theorem jA{r:V->Option Int->Option Int->Hp->VK->Prop}{lo hi:Option V'}{tl th:TO}{p2:Pos}(hr:Yd X r)(he:CW X e te)(hl:PO X lo tl)(hu:PO X hi th):CW X (.Subscript e (.Slice lo hi none p2) pos) (U6 r te tl th):=⟨dH hr he.h hl hu⟩
theorem Ay(he:CW X e te)(hs:swapsWith e none pos.line X.env=pure false):VY X (.Expr e pos) (Mt te):=⟨bW he.h hs⟩
theorem my{CX:uo}{j k:Nat}{f:S'}{fd:aad}{ps:au}{sp:Sp}{E:XK}{x:Str}{st:Stmt}{p:Pos}{e e2:V'}{t:TA}(F:aT X.prog X.w X.K X.mg X.base CX j f fd ps sp)(hr:dW k X.A)(I:FI X.K X.mg x st ps f fd)(hx:wf CX X E)(hs:∀(es:b8) (env:Env),starEach (e::es) env=(false,eval e env)::starEach es env)(VL:∀(es:b8) (env:Env),starEach (e2::es) env=(false,eval e2 env)::starEach es env)(ha:O_ X [e,e2] t)(hj:j<=k:=by decide)(hg:Gl X x:=by rfl)(rD:(x==("__debug__" :Str))=false:=by decide):CW X (.Call (.Name x p) [e,e2] [] pos) (xE sp [] E t):=⟨cI F hr I hx ha.h hj hg rD (hs _ _) (by rw[VL];rfl)⟩
theorem Vy{o e:V'}{to:TE}{t:TA}{name:Str}{apos jd:Pos}{T id:String}{r:V->ak->Hp->VK->Prop}(pa:PlainAttrs T)(slot:Slot T name id)(hty:typeOf (.builtin id)=pure (.type "method_descriptor"))(hm:MtR X id r)(ho:PE X o to)(hs:∀(es:b8) (env:Env),starEach (e::es) env=(false,eval e env)::starEach es env)(ha:O_ X [e] t)
 (Bg:attributeBase o name X.env (eval o X.env)=eval o X.env) (N8:(apos.endLine==jd.line)=true):CW X (.Call (.Attribute o name apos) [e] [] jd) (tBM X.K T r to t):=⟨mz pa slot hty hm ho ha.h Bg (by rw[hs];rfl) N8 (hs _ _) Z⟩
theorem P0{tg iter:V'}{wi:TI}{g:TG}{body:List Stmt}{tb:TS}(hi:PI X tg iter wi)(hg:PG X tg g)(hb:DY X body tb)(hc:X.calm=true)(hs:∀x,foldedSetIterable iter X.env x=pure x)(hp:PassesOwn (model X.prog X.w) X.A X.env X.xe:=by exact PassesOwn.never):VY X (.For tg iter body [] pos) (VT wi g tb):=⟨Mm hp hc hi hg hb.h hs⟩
end
end L2
namespace My
open PySem L2 PyProof.Rows
theorem m7:0<=sizeLine:=by decide
theorem y8:1<=sizeLine:=by decide
theorem gY:2<=sizeLine:=by decide
theorem F9:3<=sizeLine:=by decide
theorem Jq:4<=sizeLine:=by decide
theorem afp:5<=sizeLine:=by decide
theorem afx:6<=sizeLine:=by decide
theorem ade:7<=sizeLine:=by decide
theorem ZJ:11<=sizeLine:=by decide
theorem pH:aJ ["self","text"] ["self","text"] (av jR):= .of
theorem sy:aJ ["self","many"] ["self","many"] (av lH):= .of
theorem uB:aJ ["self","found"] ["self","found"] (av mS):= .of
theorem sH:aJ ["self","depth"] ["self","depth"] (av lD):= .of
theorem sU:aJ ["self","many"] ["self","many"] (av lM):= .of
theorem sG:aJ ["self","many"] ["self","many"] (av lG):= .of
theorem wy:aJ ["self","label"] ["self","label"] (av nK):= .of
theorem sC:aJ ["self","label"] ["self","label"] (av lT):= .of
theorem En:aJ ["thing"] ["thing"] (av xJ):= .of
theorem FT:aJ ["thing","low","high"] ["thing","low","high"] (av Bt):= .of
theorem HZ:aJ ["thing"] ["thing"] (av CO):= .of
theorem Hw:aJ ["thing"] ["thing"] (av Dx):= .of
theorem Q9:aJ ["kind","thing"] ["kind","thing"] (av Og):= .of
theorem GP:aJ ["deed"] ["deed"] (av Bo):= .of
theorem uZ:aJ ["deed"] ["deed"] (av xV):= .of
theorem Gh:aJ ["deed"] ["deed"] (av BK):= .of
theorem n9:aJ ["thing","deed","body"] ["thing"] (av yg):= .of
theorem l4:aJ ["body","many","deed","inner"] ["body"] (av CQ):= .of
theorem jV:aJ ["body","depth","deed","inner"] ["body"] (av z8):= .of
theorem iT:aJ ["body","change","first","told","number","deed"] ["body","change","first"] (av yf):= .of
theorem fq:aJ ["deed","change","first","parts","number","kind","part"] ["deed","change","first"] (av uc):= .of
theorem mj:aJ ["body","around","listed","deed","inner","within"] ["body","around"] (av Dv):= .of
theorem E3:aJ ["body"] ["body"] (av xQ):= .of
theorem tO:aJ ["deed","asked"] ["deed"] (av vU):= .of
theorem Cr:aJ ["body"] ["body"] (av wk):= .of
theorem wB:aJ ["deed","steps"] ["deed"] (av yn):= .of
theorem sP:aJ ["self","deeds"] ["self","deeds"] (av fF):= .of
theorem yW:aJ ["self"] ["self"] (av pY):= .of
theorem oF:aJ ["body","many","depth"] ["body"] (av yD):= .of
theorem mw:aJ ["listed","deed","around"] ["listed"] (av tq):= .of
theorem oQ:aJ ["body","many","steps"] ["body"] (av xR):= .of
theorem DR:aJ ["_law_script","_law_k"] ["_law_script","_law_k"] (av yz):= .of
theorem FY:aJ ["_law_cell_here"] ["_law_cell_here"] (av Bi):= .of
theorem kQ:aJ ["_law_box_here","_law_many","_law_digit","_law_number_here"] ["_law_box_here","_law_many"] (av xC):= .of
theorem dq:aJ ["_law_box_here","_law_many","_law_letters","_law_way","_law_first","_law_step","_law_words","_law_stem","_law_at","_law_whole_here"] ["_law_box_here","_law_many"] (av vb):= .of
theorem dr:aJ ["_law_box_here","_law_names_here","_law_around","_law_kind","_law_x","_law_y","_law_k","_law_labels","_law_number_here","_law_some"] ["_law_box_here","_law_names_here","_law_around"] (av tW):= .of
theorem dM:aJ ["_law_box_here","_law_left","_law_names_here","_law_labels","_law_around","_law_room","_law_found","_law_turn","_law_kind","_law_free","_law_one","_law_label","_law_many","_law_times","_law_inner"] ["_law_box_here","_law_left","_law_names_here","_law_labels","_law_around","_law_room"] (av pS):= .of
theorem fT:aJ ["_law_box_here","_law_upto","_law_room","_law_names_here","_law_labels"] ["_law_box_here"] (av uT):= .of
theorem qK:aJ ["_law_deed"] ["_law_deed"] (av jQ):= .of
theorem jG:aJ ["_law_body_here","_law_found","_law_deed","_law_inner"] ["_law_body_here"] (av vT):= .of
theorem gn:aJ ["_law_body_here","_law_around","_law_down","_law_found","_law_deed","_law_inside","_law_one"] ["_law_body_here","_law_around","_law_down"] (av sW):= .of
theorem cR:aJ ["_law_body_here","_law_asked","_law_done","_law_deed","_law_inner"] ["_law_body_here"] (av xS):= .of
theorem bG:aJ ["_law_body_here","_law_rows","_law_down","_law_deed","_law_around","_law_one","_law_asked","_law_done"] ["_law_body_here"] (av l7):= .of
theorem Cb:aJ ["_law_thing","_law_low","_law_high"] ["_law_thing","_law_low","_law_high"] (av vn):= .of
theorem ER:aJ ["_law_thing"] ["_law_thing"] (av rB):= .of
theorem AA:aJ ["_law_thing"] ["_law_thing"] (av ub):= .of
theorem y9:aJ ["_law_thing"] ["_law_thing"] (av qN):= .of
theorem wY:aJ ["_law_parts"] ["_law_parts"] (av pj):= .of
theorem kf:aJ ["_law_thing","_law_sizes","_law_word","_law_parts"] ["_law_thing"] (av iN):= .of
theorem cq:aJ ["_law_call","_law_told","e"] ["_law_call"] (av yI):= .of
theorem f_:aJ ["_law_body_here","_law_deed","_law_one","_law_found"] ["_law_body_here"] (av jn):= .of
theorem fA:aJ ["_law_box_here","_law_body_here","_law_count","_law_numbers","_law_found","_law_deed","_law_here","_law_inner","_law_whole_here"] ["_law_box_here","_law_body_here","_law_count","_law_numbers"] (av tG):= .of
theorem dj:aJ ["_law_box_here","_law_deed","_law_mode","_law_place","_law_part","_law_near","_law_odd","_law_other","_law_word","_law_some"] ["_law_box_here","_law_deed"] (av xX):= .of
theorem yB:aJ ["_law_body_here","_law_bad"] ["_law_body_here"] (av uN):= .of
theorem gX:aJ ["_law_body_here","_law_held","_law_due_here","_law_turn","_law_told"] ["_law_body_here"] (av kS):= .of
theorem lC:aJ ["_law_many","_law_body_here","_law_k"] ["_law_many","_law_body_here"] (av t9):= .of
theorem aX:aJ ["_law_tells","_law_either","_law_rows"] [] (av gN):= .of
theorem m8:aJ ["_law_script","_law_k","_law_box_here","_law_whole_here","_law_twice","_law_body_here","_law_rows","_law_numbers"] ["_law_script"] (av Ou):= .of
set_option genInjectivity false in
set_option genSizeOf false in
structure nT where
 (eI ir i_ ij ix ik jB ie mQ yt AL C7 DB N9 AX qL A_ pX wX BE mL tS Dn rA wz oU xT c7 qk xY tX yq yv Aa xO vf tM pU vm fP vA tJ x_ k_ va pZ s_ qV pq i6 qY jt sV yi uu gE tT eZ Mj cc gD iO gK gx gw kJ gy pL aZ:S')
 (iF gC ay cM:S')
 (j8 lq mP lh lY lE nF lV wq xI A4 CA CJ NX AI pO AE qw xa AJ eG tZ C9 qD vL oi xK c8 pQ xG sZ yl yr Bd xP uQ sX yh vG jK wt tU xD qx vv yF tI qr pd qq qd nQ tH yC BG fJ tV gM Kj:aad)
structure Txt(K:Frag)(mg:Str->aO)(A:nT):Prop where
 gg:XI K mg "RoomError" A.cc A.eI A.cc
 gH:XI K mg "TooMany" A.gD A.ir A.cc
 hV:XI K mg "NoDeed" A.iO A.i_ A.cc
 fQ:XI K mg "TooDeep" A.gK A.ij A.cc
 dS:XI K mg "TooWide" A.gx A.ix A.cc
 dF:XI K mg "TooLong" A.gw A.ik A.cc
 iV:XI K mg "Twice" A.kJ A.jB A.cc
 eD:XI K mg "NoLabel" A.gy A.ie A.cc
 GH:XI K mg "NoText" A.pL A.mQ A.cc
 LM:mg "Program"=some (.ref A.aZ)
 bS:Ug K A.cc "__init__" A.eI
 qE:eM K A.gD "many"
 qX:eM K A.iO "found"
 ph:eM K A.gK "depth"
 pP:eM K A.gx "many"
 pV:eM K A.gw "many"
 tY:eM K A.kJ "label"
 pk:eM K A.gy "label"
 Pb:eM K A.pL "line"
 bK:MI K A.cc "__init__" "RoomError.__init__" jR ["self","text"] A.eI A.j8
 mq:MI K A.gD "__init__" "TooMany.__init__" lH ["self","many"] A.ir A.lq
 iY:MI K A.iO "__init__" "NoDeed.__init__" mS ["self","found"] A.i_ A.mP
 lZ:MI K A.gK "__init__" "TooDeep.__init__" lD ["self","depth"] A.ij A.lh
 lj:MI K A.gx "__init__" "TooWide.__init__" lM ["self","many"] A.ix A.lY
 lN:MI K A.gw "__init__" "TooLong.__init__" lG ["self","many"] A.ik A.lE
 nM:MI K A.kJ "__init__" "Twice.__init__" nK ["self","label"] A.jB A.nF
 l0:MI K A.gy "__init__" "NoLabel.__init__" lT ["self","label"] A.ie A.lV
 J3:MI K A.pL "__init__" "NoText.__init__" vR ["self","line"] A.mQ A.wq
 mK:FI K mg "is_number" xJ ["thing"] A.yt A.xI
 Be:FI K mg "is_whole" Bt ["thing","low","high"] A.AL A.A4
 rC:FI K mg "is_name" CO ["thing"] A.C7 A.CA
 Dw:FI K mg "is_deed" Dx ["thing"] A.DB A.CJ
 Jk:FI K mg "fits" Og ["kind","thing"] A.N9 A.NX
 lO:FI K mg "parts_of" Bo ["deed"] A.AX A.AI
 fE:FI K mg "bodies_of" xV ["deed"] A.qL A.pO
 uF:FI K mg "is_block" BK ["deed"] A.A_ A.AE
 qM:FI K mg "want_body" yg ["thing"] A.pX A.qw
 nN:FI K mg "many_in" CQ ["body"] A.wX A.xa
 uI:FI K mg "depth_of" z8 ["body"] A.BE A.AJ
 mW:FID K mg "rewritten" yf ["body","change","first"] A.mL A.eG
 tD:FI K mg "with_bodies" uc ["deed","change","first"] A.tS A.tZ
 xy:FI K mg "listing" Dv ["body","around"] A.Dn A.C9
 qB:FI K mg "widest_of" xQ ["body"] A.rA A.qD
 vY:FI K mg "choices_of" vU ["deed"] A.wz A.vL
 oh:FI K mg "longest_of" wk ["body"] A.oU A.oi
 yu:FI K mg "length_of" yn ["deed"] A.xT A.xK
 lX:MI K A.aZ "__init__" "Program.__init__" fF ["self","deeds"] A.c7 A.c8
 ra:MI K A.aZ "told" "Program.told" pY ["self"] A.qk A.pQ
 xH:FI K mg "want_size" yD ["body"] A.xY A.xG
 tR:FI K mg "want_labels" tq ["listed"] A.tX A.sZ
 yE:FI K mg "want_runs" xR ["body"] A.yq A.yl
 yk:FI K mg "_law_cell" yz ["_law_script","_law_k"] A.yv A.yr
 AH:FI K mg "_law_box" Bi ["_law_cell_here"] A.Aa A.Bd
 aG:FI K mg "_law_take" xC ["_law_box_here","_law_many"] A.xO A.xP
 o8:FI K mg "_law_names" vb ["_law_box_here","_law_many"] A.vf A.uQ
 ua:FI K mg "_law_simple" tW ["_law_box_here","_law_names_here","_law_around"] A.tM A.sX
 jX:FI K mg "_law_body" pS ["_law_box_here","_law_left","_law_names_here","_law_labels","_law_around","_law_room"] A.pU A.yh
 vC:FI K mg "_law_deeds" uT ["_law_box_here"] A.vm A.vG
 dO:FI K mg "_law_bodies" jQ ["_law_deed"] A.fP A.jK
 oE:FI K mg "_law_plain" vT ["_law_body_here"] A.vA A.wt
 jJ:FI K mg "_law_listed" sW ["_law_body_here","_law_around","_law_down"] A.tJ A.tU
 ql:FI K mg "_law_cost" xS ["_law_body_here"] A.x_ A.xD
 pN:FI K mg "_law_refusal" l7 ["_law_body_here"] A.k_ A.qx
 gG:FI K mg "_law_whole" vn ["_law_thing","_law_low","_law_high"] A.va A.vv
 fD:FI K mg "_law_name" rB ["_law_thing"] A.pZ A.yF
 jL:FI K mg "_law_number" ub ["_law_thing"] A.s_ A.tI
 gu:FI K mg "_law_is_body" qN ["_law_thing"] A.qV A.qr
 kg:FI K mg "_law_is_block" pj ["_law_parts"] A.pq A.pd
 p5:FI K mg "_law_is_deed" iN ["_law_thing"] A.i6 A.qq
 mR:FI K mg "_law_made" yI ["_law_call"] A.qY A.qd
 ju:FI K mg "_law_first_bad" jn ["_law_body_here"] A.jt A.nQ
 nh:FI K mg "_law_put_at" tG ["_law_box_here","_law_body_here","_law_count","_law_numbers"] A.sV A.tH
 xN:FI K mg "_law_bent" xX ["_law_box_here","_law_deed"] A.yi A.yC
 Aw:FI K mg "_law_due" uN ["_law_body_here"] A.uu A.BG
 oC:FI K mg "_law_right" kS ["_law_body_here"] A.gE A.fJ
 g8:FI K mg "_law_within" t9 ["_law_many","_law_body_here"] A.tT A.tV
 eY:FI K mg "_law_bounds_right" gN [] A.eZ A.gM
 Tr:FI K mg "law" Ou ["_law_script"] A.Mj A.Kj
 jz:Om K A.aZ
 LH:Mk K A.aZ A.c7
 iM:eM K A.aZ "body"
 nU:eM K A.aZ "listed"
 sm:∃o,K.lookup sysModules=some o/\o.cls= .type "dict"
 iF:mg "BOUNDS"=some (.ref A.iF)
 gC:mg "FORMS"=some (.ref A.gC)
 sx:zX K A.c8.code A.ay
 BS:zX K A.fJ.code A.cM
 bm:PL K mg
 aaD:∀(s:R') (u:M'),BindsTo s A.Kj ⟨[u],[]⟩ [("_law_script",u)]
 Fj:mg "ValueError"=none
 aby:mg "abs"=none
 Tb:mg "all"=none
 HW:mg "bool"=none
 CC:mg "int"=none
 bM:mg "isinstance"=none
 g7:mg "len"=none
 AG:mg "list"=none
 xU:mg "max"=none
 ZW:mg "min"=none
 kL:mg "range"=none
 qG:mg "repr"=none
 Ku:mg "str"=none
 MQ:mg "sum"=none
 iX:mg "tuple"=none
 Zt:mg "zip"=none
 LG:∃u,RelV (V.str "abcdefghijklmnopqrstuvwxyz") u/\mg "LETTERS"=some u
 Am:∃u,RelV (V.int 4) u/\mg "MOST_CHOICES"=some u
 E1:∃u,RelV (V.int 40) u/\mg "MOST_DEEDS"=some u
 EZ:∃u,RelV (V.int 6) u/\mg "MOST_DEPTH"=some u
 Ah:∃u,RelV (V.int 6) u/\mg "MOST_LETTERS"=some u
 DS:∃u,RelV (V.int 100) u/\mg "MOST_STEPS"=some u
 yH:∃u,RelV (V.str "ground") u/\mg "OUTERMOST"=some u
def Kept(b:S')(H H' :Hp):Prop:=∀c o,c≠b->H c=some o->H' c=some o
variable{P:Z'}{w:W'}{K:Frag}{mg:Str->aO}{base:Y'}{A:nT}
def Xu(K:Frag):Sp:=λvs H Q _=>∃(a:S') (ns:List Int) (k:Int),vs=[.ref a,.int k]/\cF K H a (ns.map V.int)/\0<=k/\k<1000/\∀c,Q (.int c) H
theorem EL(T:Txt K mg A):aT P w K mg base dQ 1 A.yv A.yr ["_law_script","_law_k"] (Xu K):=by
 refine T.yk.F.vc DR ?_
 rintro cB Ar outer s H vs Q E hr ⟨a,ns,k,rfl,hS,h0,h1,q⟩
 refine⟨_,(aj (bU (wn Ao (pv 1) (iW br T.g7 Boot.«len» (aM (pv 0)))) (aq (aH (cS a8 (pv 0) (pv 1)))) bf) (aq (aH (aL bA (aL md ae (pv 1)) ae)))),?_⟩;refine⟨_,Z,_,Z,a,_,Z,.inl hS,k,_,Z,Z,_,Z,?_⟩;refine mF (λhk=> ?_) (λhk=> ?_)
 .have hk:=bE hk;rw[a6] at hk;obtain⟨j,rfl⟩:∃j:Nat,k=j:=⟨k.toNat,by omega⟩;have hj:j<ns.length:=by omega
  exact⟨_,Z,_,Z,a,_,_,_,Z,Z,hS,bb (v:= .int ns[j]) (by simp[hj]),q _⟩
 .exact⟨_,Z,7919,k,Z,Z,.inl ⟨by decide,by decide⟩,_,_,Z,Z,q _⟩
def dg(H:Hp)(b:S')(k:Nat):Prop:=∃(x y z:Int),H b=some (.lst [.int x,.int y,.int z])/\0<=x/\0<=y/\y<2147483629/\0<=z/\z<=(k:Int)
def Cf(b:S')(H H' :Hp):Prop:=∀c,c≠b->H' c=H c
theorem Cf.upd{b:S'}{H:Hp}{o:HO}:Cf b H (upd H b o):=λc hc=>az hc
theorem Cf.kept{b:S'}{H H' :Hp}(h:Cf b H H'):Kept b H H' :=λc o hc e=>(h c hc).trans e
theorem Kept.refl(b:S')(H:Hp):Kept b H H:=λ_ _ _ e=>e
theorem Kept.trans{b:S'}{H H1 H2:Hp}(h:Kept b H H1)(h' :Kept b H1 H2):Kept b H H2:=λc o hc e=>h' c o hc (h c o hc e)
theorem _root_.L2.ah.kept{b:S'}{H H' :Hp}(h:ah H H'):Kept b H H' :=λc o _ e=>h c o e
theorem dg.same{b:S'}{k:Nat}{H H' :Hp}(B:dg H b k)(h:ah H H'):dg H' b k:=by
 obtain⟨x,y,z,hb,r⟩:=B;exact⟨x,y,z,h _ _ hb,r⟩
theorem dg.mono{b:S'}{k j:Nat}{H:Hp}(B:dg H b k)(h:k<=j):dg H b j:=by
 obtain⟨x,y,z,hb,h1,h2,h3,h4,h5⟩:=B;exact⟨x,y,z,hb,h1,h2,h3,h4,by omega⟩
theorem dg.ne{b p:S'}{k:Nat}{H:Hp}(B:dg H b k)(h:H p=none):p≠b:=by
 obtain⟨x,y,z,hb,_⟩:=B;exact(aA hb h).symm
theorem gO{K:Frag}{H:Hp}{p:S'}{xs:ak}{i:Int}{Q:VK}(Pv:V->Prop)(h:H p=some (.lst xs))(h0:0<=i)(h1:i<xs.length)(hP:∀x∈xs,Pv x)(q:∀v,Pv v->Q v H):P5 K (.ref p) (.int i) H Q:=by
 obtain⟨j,rfl⟩:∃j:Nat,i=j:=⟨i.toNat,by omega⟩;have hj:j<xs.length:=by omega
 exact⟨p,xs,j,xs[j],Z,Z,cF.of h,bb (by simp[hj]),q _ (hP _ (Ek hj))⟩
def Z2:Sp:=λvs H Q _=>∃c,vs=[.int c]/\∀b H',H b=none->dg H' b 0->ah H H'->Q (.ref b) H'
theorem FJ(T:Txt K mg A):aT P w K mg base dQ 1 A.Aa A.Bd ["_law_cell_here"] Z2:=by
 refine T.AH.F.vc FY ?_
 rintro cB Ar outer s H vs Q E hr ⟨c,rfl,q⟩
 refine⟨_,(aq (aH (bH (ag (iW (kX Z) T.xU Boot.«max» (ag ae (aM (aL i9 (pv 0) (aL qt ae ae))))) (ag (aL jw (pv 0) ae) (aM ae)))))),?_⟩;refine⟨_,Z,10,18,Z,Z,⟨by decide,by decide,by decide⟩,c,_,Z,Z,0,_,Z,?_⟩;refine⟨_,Z,c,2147483629,Z,Z,(show(0:Int)<2147483629 by decide),F9,λp hp=> ?_⟩;refine q p _ hp ⟨_,_,0,af,?_,?_,?_,by decide,by decide⟩ (ah.upd hp)
 .split<;>omega
 .omega
 .omega
theorem WU{n:Int}(h0:0<n)(h:n<1606938044258990275541962092341162602522202993782792835301376):n.natAbs.log2<9000:=by
 have h1:n.natAbs≠0:=by omega
 have h2:n.natAbs<2 ^ 200:=by
  have e:(2:Nat) ^ 200=1606938044258990275541962092341162602522202993782792835301376:=by decide+kernel
  omega
 exact zx ((Nat.log2_lt h1).mpr h2) (by decide)
def Ws:Sp:=λvs H Q _=>∃(b:S') (n:Int) (k:Nat),vs=[.ref b,.int n]/\dg H b k/\k<=100000/\0<n/\n<1606938044258990275541962092341162602522202993782792835301376/\
 ∀(r:Int) (H' :Hp),0<=r->r<n->dg H' b (k+1)->Cf b H H'->Q (.int r) H'
theorem aE(T:Txt K mg A):aT P w K mg base dQ 1 A.xO A.xP ["_law_box_here","_law_many"] Ws:=by
 refine T.aG.F.vc kQ ?_
 rintro cB Ar outer s H vs Q E hr ⟨b,n,k,rfl,⟨x,y,z,hb,hx,hy,hy2,hz,JF⟩,hk,hn,Yz,q⟩
 refine⟨_,(aj (bU (wn tE (cS a8 (pv 0) ae) ae) (aj (gf 2 kQ.nd (aL jw (cS a8 (pv 0) ae) (pv 1))) (aj (BL (aL FP (cS a8 (pv 0) ae) (pv 1)) (DM (pv 0) ae ZB)) (aq (aH (pv 2))))) bf) (aj (BL (aL bA (cS a8 (pv 0) ae) ae) (DM (pv 0) ae ZB)) (aj (gf 3 kQ.nd (aL jw (aL qt (aL bA (aL bA (cS a8 (pv 0) ae) (aL md ae (cS a8 (pv 0) ae))) ae) ae) ae)) (aj (gf 3 kQ.nd (aL jw (aL qt (aL bA (pv 3) (aL md ae (cS a8 (pv 0) ae))) ae) ae)) (aq (aH (aL jw (aL FP (pv 3) ae) (pv 1)))))))),?_⟩;refine⟨_,Z,b,_,_,_,Z,Z,cF.of hb,Z,_,_,Z,Z,_,Z,?_⟩;refine mF (λh0=> ?_) (λh0=> ?_)
 .refine⟨_,Z,b,_,_,_,Z,Z,cF.of hb,Z,_,Z,x,n,Z,Z,hn,?_⟩;refine⟨_,Z,b,_,_,_,Z,Z,cF.of hb,Z,_,Z,x,n,Z,Z,⟨hn,WU hn Yz⟩,?_⟩;refine⟨_,Z,b,_,0,0,Z,Z,hb,Z,?_⟩;refine⟨_,Z,q _ _ (oH _ (by omega)) (sd _ hn) ⟨_,y,z,af,Int.ediv_nonneg hx (by omega),hy,hy2,hz,by omega⟩ Cf.upd⟩
 .refine⟨_,Z,b,_,_,_,Z,Z,cF.of hb,Z,z,1,Z,Z,?_⟩;refine⟨_,Z,b,_,2,2,Z,Z,hb,Z,?_⟩;have wO :upd H b (.lst [.int x,.int y,.int (z+1)]) b=some (.lst [.int x,.int y,.int (z+1)]):=af;refine⟨_,Z,b,_,_,_,Z,Z,cF.of wO,Z,_,Z,b,_,_,_,Z,Z,cF.of wO,Z,15485863,z+1,Z,Z,.inl ⟨by decide,by decide⟩,y,_,Z,Z,_,43,Z,Z,_,5,Z,Z,⟨by decide,by decide,?_⟩,_,2147483647,Z,Z,(show(0:Int)<2147483647 by decide),?_⟩
  .omega
  dsimp only;generalize e1:(y+15485863*(z+1)+43) ^ (5:Int).toNat % 2147483647=one;have b1:0<=one:=by rw[<-e1];exact oH _ (by decide)
  have b2:one<2147483647:=by rw[<-e1];exact sd _ (by decide)
  refine⟨_,Z,_,Z,b,_,_,_,Z,Z,cF.of wO,Z,104729,z+1,Z,Z,.inl ⟨by decide,by decide⟩,one,_,Z,Z,_,3,Z,Z,⟨by decide,by decide,?_⟩,_,2147483629,Z,Z,(show(0:Int)<2147483629 by decide),?_⟩
  .omega
  dsimp only;generalize e2:(one+104729*(z+1)) ^ (3:Int).toNat % 2147483629=other;have b3:0<=other:=by rw[<-e2];exact oH _ (by decide)
  refine⟨_,Z,other,8,Z,Z,⟨by decide,by decide⟩,_,Z,_,n,Z,Z,hn,?_⟩;exact q _ _ (oH _ (by omega)) (sd _ hn) ⟨x,y,z+1,af,hx,hy,hy2,by omega,by omega⟩ Cf.upd
noncomputable def dC(c:Nat):Bool:=decide (97<=c)&&decide (c<=122)
noncomputable def cv(x:Str):Bool:=decide (1<=x.length)&&decide (x.length<=6)&&x.cps.toList.all dC
theorem Dk(c:Nat):(!(Builtin.Str.occurrences ("abcdefghijklmnopqrstuvwxyz" :Str) ⟨#[c]⟩ 0 ("abcdefghijklmnopqrstuvwxyz" :Str).length 1).isEmpty)=dC c:=by
 rw[PySem.StrLaws.found_one];have e:("abcdefghijklmnopqrstuvwxyz" :Str).cps.toList=(List.range 26).map (· +97):=by decide+kernel
 rw[e,mU,iq,jC];unfold dC;rw[cH,iq,iq];constructor
 .rintro ⟨i,hi,rfl⟩
  have:=mY.mp hi;omega
 .rintro ⟨h1,h2⟩
  exact⟨c - 97,mY.mpr (by omega),by omega⟩
def ae_:Sp:=λvs H Q _=>∃x:Str,vs=[.str x]/\cv x=true/\∀H',ah H H'->Q (.bl true) H'
mutual
inductive Dd where
 |mk (w:Str) (ps:List U') (bs:Bs)
inductive Ds where
 |nil
 |cons (d:Dd) (r:Ds)
inductive Bs where
 |nil
 |cons (t:Bool) (b:Ds) (r:Bs)
end
noncomputable def iS(t:Bool)(xs:List U'):U':=if t then .tuple xs else .list xs
mutual
noncomputable def dD:Dd->U'
 | .mk w ps bs=> .tuple (.str w::(ps++bL bs))
noncomputable def sL:Ds->List U'
 | .nil=>[]
 | .cons d r=>dD d::sL r
noncomputable def bL:Bs->List U'
 | .nil=>[]
 | .cons t b r=>iS t (sL b)::bL r
end
mutual
noncomputable def mG:Dd->Nat
 | .mk _ _ bs=>nR bs
noncomputable def eQ:Ds->Nat
 | .nil=>0
 | .cons d r=>max (mG d) (eQ r)
noncomputable def nR:Bs->Nat
 | .nil=>0
 | .cons _ b r=>max (eQ b+1) (nR r)
end
noncomputable def Ds.l:Ds->List Dd
 | .nil=>[]
 | .cons d r=>d::r.l
noncomputable def Bs.l:Bs->List (Bool×Ds)
 | .nil=>[]
 | .cons t b r=>(t,b)::r.l
noncomputable def Dd.wd:Dd->Str| .mk w _ _=>w
noncomputable def Dd.ps:Dd->List U'| .mk _ ps _=>ps
noncomputable def Dd.bs:Dd->Bs| .mk _ _ bs=>bs
noncomputable def bg:List (Str×au):=[("make",["name","size","mark"]),("put",["name","cell","name"]),("get",["name","name","cell"]),("set",["name","value"]),("copy",["name","name"]),("more",["name","name","number"]),("tell",["name"]),("same",["name","name"]),("frame",["label","body"]),("turns",["label","many","times","body"]),("either",["body","body"])]
noncomputable def xc:List (Str×Int×Int):=[("size",1,6),("cell",0,5),("many",1,3),("times",0,4)]
inductive zO:Str->U'->Prop
 |name (x:Str) (h:cv x=true):zO "name" (.str x)
 |label (x:Str) (h:cv x=true) (n:x≠ "ground"):zO "label" (.str x)
 |GZ:zO "mark" .none
 |mark (x:Str) (h:cv x=true):zO "mark" (.str x)
 |DT:zO "value" .none
 |value (i:Int) (h:i.natAbs<10 ^ 40):zO "value" (.int i)
 |number (i:Int) (h:i.natAbs<10 ^ 40):zO "number" (.int i)
 |num (k:Str) (lo hi i:Int) (h:(k,lo,hi)∈xc) (h1:lo<=i) (h2:i<=hi):zO k (.int i)
inductive iw:au->List U'->Prop
 |nil:iw [] []
 |cons {k:Str} {d:U'} {ks:au} {ds:List U'} (h:zO k d) (t:iw ks ds):iw (k::ks) (d::ds)
mutual
def mv:Dd->Prop
 | .mk w ps bs=>(∃ks:au,(w,ks++List.replicate bs.l.length ("body" :Str))∈bg/\iw ks ps)/\pF bs
def mD:Ds->Prop
 | .nil=>True
 | .cons d r=>mv d/\mD r
def pF:Bs->Prop
 | .nil=>True
 | .cons _ b r=>mD b/\pF r
end
theorem Gr:∀s:Ds,sL s=s.l.map dD
 | .nil=>by rw[sL];rfl
 | .cons d r=>by rw[sL,Gr r];rfl
theorem Ge:∀b:Bs,bL b=b.l.map λp=>iS p.1 (sL p.2)
 | .nil=>by rw[bL];rfl
 | .cons t b r=>by rw[bL,Ge r];rfl
theorem gF:∀{s:Ds},mD s->∀d∈s.l,mv d
 | .nil,_,d,h=>by cases h
 | .cons e r,h,d,hd=>by
  rw[mD] at h;rcases aP.mp hd with rfl|hd
  .exact h.1
  .exact gF h.2 d hd
theorem hX:∀{b:Bs},pF b->∀p∈b.l,mD p.2
 | .nil,_,p,h=>by cases h
 | .cons t b r,h,p,hp=>by
  rw[pF] at h;rcases aP.mp hp with rfl|hp
  .exact h.1
  .exact hX h.2 p hp
theorem gI:∀{s:Ds},∀d∈s.l,mG d<=eQ s
 | .nil,d,h=>by cases h
 | .cons e r,d,hd=>by
  rw[eQ];rcases aP.mp hd with rfl|hd
  .exact zP _ _
  .exact aU (gI d hd) (zm _ _)
theorem h8:∀{b:Bs},∀p∈b.l,eQ p.2+1<=nR b
 | .nil,p,h=>by cases h
 | .cons t b r,p,hp=>by
  rw[nR];rcases aP.mp hp with rfl|hp
  .exact zP _ _
  .exact aU (h8 p hp) (zm _ _)
theorem fN{H:Hp}:∀{xs:ak} {ds:List U'},DatAll H xs ds->xs.length=ds.length
 |_,_,.nil=>rfl
 |_,_,.cons _ t=>by rw[bB,bB,fN t]
theorem oW{H:Hp}:∀{ds es:List U'} {zs:ak},DatAll H zs (ds++es)->∃xs ys,zs=xs++ys/\DatAll H xs ds/\DatAll H ys es
 |[],es,zs,h=>⟨[],zs,Z,.nil,h⟩
 |d::ds,es,_,.cons h t=>by
  obtain⟨xs,ys,rfl,h1,h2⟩:=oW t;exact⟨_::xs,ys,Z,.cons h h1,h2⟩
theorem Bv{H:Hp}:∀{xs ys:ak} {ds es:List U'},DatAll H xs ds->DatAll H ys es->DatAll H (xs++ys) (ds++es)
 |_,_,_,_,.nil,h=>h
 |_,_,_,_,.cons a t,h=> .cons a (Bv t h)
theorem lJ{H:Hp}:∀{xs:ak} {ds:List U'},DatAll H xs ds->∀(i:Nat) v,xs[i]? =some v->∃d,ds[i]? =some d/\Dat H v d
 |_,_,.nil,i,v,e=>by cases e
 |_,_,.cons h t,0,v,e=>by cases e;exact⟨_,Z,h⟩
 |_,_,.cons h t,i+1,v,e=>by
  obtain⟨d,e',hd⟩:=lJ t i v (by simpa using e);exact⟨d,by simpa using e',hd⟩
theorem iI{H:Hp}{v:V}{t:Bool}{ds:List U'}(h:Dat H v (iS t ds)):∃a vs,v= .ref a/\H a=some (EI t vs)/\DatAll H vs ds:=by
 cases t with
 |false=>cases h with|lst e h=>exact⟨_,_,Z,e,h⟩
 |true=>cases h with|tup e h=>exact⟨_,_,Z,e,h⟩
theorem Nz{H:Hp}{v:V}{d:Dd}(h:Dat H v (dD d)):∃a xs ys,v= .ref a/\H a=some (.tup (.str d.wd::(xs++ys)))/\DatAll H xs d.ps/\DatAll H ys (bL d.bs):=by
 cases d with
 |mk w ps bs=>
  rw[dD] at h
  cases h with
  |tup e h=>
   cases h with
   |cons h t=>
    cases h;obtain⟨xs,ys,rfl,h1,h2⟩:=oW t;exact⟨_,xs,ys,Z,e,h1,h2⟩
structure Frm where
 kF:eJ
 kB:eJ
structure wR(P:Z')(w:W')(K:Frag)(A:nT)(fm:Frm):Prop where
 Ki:Bq P w K A.gC fm.kF
 L9:Bq P w K A.iF fm.kB
 f:∀p∈bg,∃t,eV fm.kF (.inr p.1)=some (.ref t)/\∀H,bc K H t (p.2.map V.str)
 df:∃u,RelV (.int 0) u/\Binds K A.eG ["body","change","first"] [u]
 b:∀p∈xc,∃t,eV fm.kB (.inr p.1)=some (.ref t)/\∀H,bc K H t [.int p.2.1,.int p.2.2]
variable{fm:Frm}
def aax:Sp:=λvs H Q _=>∃i:Int,vs=[.int i]/\Q (.bl true) H
def abR:Sp:=λvs H Q _=>∃i lo hi:Int,vs=[.int i,.int lo,.int hi]/\Q (.bl (decide (lo<=i)&&decide (i<=hi))) H
def PF:Sp:=λvs H Q _=>∃a w ks xs,vs=[.ref a]/\H a=some (.tup (.str w::xs))/\(w,ks)∈bg/\ks.length=xs.length/\
 ∀l zs H',H l=none->ah H H'->H' l=some (.lst zs)->Du H' zs (ks.map V.str) xs->Q (.ref l) H'
theorem aah(x:V)(xs:ak):c6 (x::xs) (some 1) none=xs:=by
 unfold c6;rw[show HT.gz (x::xs).length 0 (some 1)=min 1 (xs.length+1) from HT.h9 _ _ 1,HT.qo,show min 1 (xs.length+1)=1 by lia];show xs.take (xs.length+1 - 1)=xs;exact oq (by lia)
theorem gU(x:V)(xs:ak):M_ (x::xs) 0=some x:=bb (xs:=x::xs) (j:=0) rfl
theorem mI(T:Txt K mg A)(Fm:wR P w K A fm):aT P w K mg base dQ 1 A.AX A.AI ["deed"] PF:=by
 refine T.lO.F.vc GP ?_
 rintro cB Ar outer s H vs Q E hr ⟨a,w,ks,xs,rfl,ha,hf,hl,q⟩
 obtain⟨t,hv,ht⟩:=Fm.f _ hf;refine⟨_,(aq (aH (IE Z Z T.AG Z T.Zt (ag (qO Fm.Ki (fY (v:= .ref A.gC) Z T.gC Z) (cS aN (pv 0) ae)) (aM (dH iu (pv 0) (bQ ae) bZ)))))),?_⟩;refine⟨_,Z,a,_,0,_,Z,Z,bc.of ha,gU _ _,.inr w,_,Z,Z,hv,_,Z,_,Z,a,_,Z,bc.of ha,?_,λp hp=> ?_⟩
 .rintro ⟨z,_⟩
  rw[show HT.gz _ 0 (some 1)=min 1 _ from HT.h9 _ _ 1] at z;simp only[bB] at z
  lia
 .rw[aah];refine⟨t,p,_,_,Z,ht _,bc.of af,by rw[a6];exact hl,λl zs H' h1 h2 h3 h4=> ?_⟩;exact q l zs H' ((ah.upd hp).free h1) ((ah.upd hp).trans h2) h3 h4
theorem XV{A B:Prop}{x:V}(h:A):if decide (x=x)=true then A else B:=by
 rw[aB (aS Z)];exact h
theorem dG{A B:Prop}{x y:V}(n:x≠y)(h:B):if decide (x=y)=true then A else B:=by
 rw[ax (λz=>n (bE z))];exact h
theorem dZ{x y:Str}(h:x≠y):V.str x≠V.str y:=λz=>h (V.str.inj z)
theorem nj{k y:Str}{lo hi:Int}(h:(k,lo,hi)∈xc)(n:(xc.all λp=>decide (p.1≠y))=true):V.str k≠V.str y:=dZ (bE (a7.mp n _ h))
def ada(H:Hp)(k:Str)(v:V):Prop:=(∃d,zO k d/\Dat H v d)\/(k="body" /\∃a t xs,v= .ref a/\H a=some (EI t xs))
def aft:Sp:=λvs H Q _=>∃k v,vs=[.str k,v]/\ada H k v/\∀H',ah H H'->Q (.bl true) H'
def ur(ok:Hp->Dd->V->Hp->VK->Prop):Sp:=λvs H Q _=>∃H0 v d,vs=[v]/\ah H0 H/\Dat H0 v (dD d)/\mv d/\ok H0 d v H Q
theorem Hu{k:Str}{d:U'}(h:zO k d):k≠ "body":=by
 cases h with
 |num k lo hi i h=>
  intro z;subst z;exact nj h (by decide+kernel) rfl
 |_=>decide+kernel
theorem Ag{ks:au}{ds:List U'}(h:iw ks ds):ks.length=ds.length:=by
 induction h with
 |nil=>rfl
 |cons _ _ ih=>rw[bB,bB,ih]
theorem A3{ks:au}{ds:List U'}(h:iw ks ds):∀(i:Nat) k d,ks[i]? =some k->ds[i]? =some d->zO k d:=by
 induction h with
 |nil=>intro i k d e;cases e
 |cons h t ih=>
  intro i k d e1 e2
  cases i with
  |zero=>cases e1;cases e2;exact h
  |succ i=>exact ih i k d (by simpa using e1) (by simpa using e2)
structure jb(H:Hp)(d:Dd)(a:S')(ks:au)(xs ys:ak):Prop where
 e:H a=some (.tup (.str d.wd::(xs++ys)))
 hx:DatAll H xs d.ps
 hy:DatAll H ys (bL d.bs)
 f:(d.wd,ks++List.replicate ys.length ("body" :Str))∈bg
 fit:iw ks d.ps
theorem fu{H:Hp}{v:V}{d:Dd}(h:Dat H v (dD d))(ok:mv d):∃a ks xs ys,v= .ref a/\jb H d a ks xs ys:=by
 obtain⟨a,xs,ys,rfl,e,h1,h2⟩:=Nz h
 cases d with
 |mk w ps bs=>
  rw[mv] at ok;obtain⟨⟨ks,f,fit⟩,_⟩:=ok
  have hl:ys.length=bs.l.length:=by
   rw[fN h2,show Dd.bs (.mk w ps bs)=bs from Z,Ge,a6]
  exact⟨a,ks,xs,ys,Z,e,h1,h2,by rw[hl];exact f,fit⟩
theorem jb.same{H H' :Hp}{d:Dd}{a:S'}{ks:au}{xs ys:ak}(p:jb H d a ks xs ys)(s:ah H H'):jb H' d a ks xs ys:=⟨s _ _ p.e,DatAll.same s p.hx,DatAll.same s p.hy,p.f,p.fit⟩
theorem jb.lx{H:Hp}{d:Dd}{a:S'}{ks:au}{xs ys:ak}(p:jb H d a ks xs ys):ks.length=xs.length:=by rw[Ag p.fit,fN p.hx]
theorem jb.len{H:Hp}{d:Dd}{a:S'}{ks:au}{xs ys:ak}(p:jb H d a ks xs ys):(ks++List.replicate ys.length ("body" :Str)).length=(xs++ys).length:=by
 rw[bu,bu,gS,p.lx]
theorem _root_.L2.Du.same{H H' :Hp}{zs xs ys:ak}(z:Du H zs xs ys)(s:ah H H'):Du H' zs xs ys:=⟨z.len,λj x y e1 e2=>by
 obtain⟨t,e3,e4⟩:=z.at_ j x y e1 e2;exact⟨t,e3,s _ _ e4⟩⟩
theorem jac{H:Hp}{zs xs ys:ak}(z:Du H zs xs ys)(hl:xs.length=ys.length){i:Nat}{v:V}(e:zs[i]? =some v):∃t x y,v= .ref t/\H t=some (.tup [x,y])/\xs[i]? =some x/\ys[i]? =some y:=by
 have hi:=(c9.mp e).1;have hz:=z.len;have e1:xs[i]? =some xs[i]:=by simp
 have e2:ys[i]? =some ys[i]:=by simp
 obtain⟨t,e3,e4⟩:=z.at_ i _ _ e1 e2;rw[e] at e3;cases e3;exact⟨t,_,_,Z,e4,e1,e2⟩
theorem fR{w:Str}{ks:au}(h:(w,ks)∈bg):ks.length<=4:=bE (a7.mp (show(bg.all λp=>decide (p.2.length<=4))=true by decide+kernel) _ h)
def ZU:Sp:=ur λ_ d v H Q=>∀H',ah H H'->Q (.bl true) H'
def ND:Sp:=ur λH0 d v H Q=>∀l ys H',H l=none->ah H H'->H' l=some (.lst ys)->DatAll H0 ys (bL d.bs)->Q (.ref l) H'
theorem Ia{n m:Nat}{pb:Nat->Bool}(h1:∀i,i<n->pb i=false)(h2:∀i,n<=i->i<n+m->pb i=true):(List.range (n+m)).filter pb=(List.range m).map (n+ ·):=by
 rw[List.range_add,wm,EA.mpr (λi hi=>by rw[h1 i (mY.mp hi)];decide),oY];refine lr.mpr λi hi=> ?_;obtain⟨j,hj,rfl⟩:=jC.mp hi;exact h2 _ (o6 _ _) (Nat.add_lt_add_left (mY.mp hj) _)
theorem Cm(xs ys:ak):((List.range ys.length).map (xs.length+ ·)).map (λi=>(xs++ys).getD i .bp)=ys:=by
 apply zF;intro i;rw[kM,bX];by_cases hi:i<ys.length
 .rw[qu hi];simp[eh,hi]
 .rw[nz (by rw[o7];lia),nz (by lia)];rfl
theorem fH(T:Txt K mg A)(Fm:wR P w K A fm):aT P w K mg base dQ 2 A.qL A.pO ["deed"] ND:=by
 refine T.fE.F.vc uZ ?_
 rintro cB Ar outer s H vs Q E hr ⟨H0,v,d,rfl,gW,hd,ok,q⟩
 obtain⟨a,ks,xs,ys,rfl,p0⟩:=fu hd ok;have p:=p0.same gW;have hl:=p.len;have hlx:=p.lx;have hs:(ks++List.replicate ys.length ("body" :Str)).length<=sizeLine:=aU (fR p.f) (by decide);refine⟨_,(aq (aH (KR ["kind","part"] 2 [] (ff (cI (mI T Fm) hr T.lO aC (aM (pv 0)))) (λ_ _ _ _ _=>⟨(Er (K:=K) (n:=2) Z Z (cY (jk 0 (show(["kind","part"]:au).Nodup by decide+kernel)) (cY (jk 1 (show(["kind","part"]:au).Nodup by decide+kernel)) mT)) Z Z),(Lq (wn cK (pv 0) ai)),(pv 1)⟩)))),?_⟩;refine⟨_,Z,a,d.wd,_,_,Z,p.e,p.f,p.len,λl zs H1 OH s1 hz zp=> ?_⟩;refine⟨l,Z,⟨_,cF.of hz⟩,?_⟩;have VM:zs.length=(ks++List.replicate ys.length ("body" :Str)).length:=by rw[zp.len,a6]
 have JF:zs.length=xs.length+ys.length:=by rw[VM,hl,bu]
 refine jx (λi=>decide (xs.length<=i)) (λi=>(xs++ys).getD i .bp) (fL (cF.of hz)).g (by lia) ?_ λp2 H2 h0 s2 h2=> ?_
 .intro i x H' C1 C0 hi sm hy c1 c0;obtain⟨tt,k,v,rfl,hT,e1,e2⟩:=jac (zp.same sm) (by rw[a6];exact p.len) hy;rw[bX] at e1
  cases ek:(ks++List.replicate ys.length ("body" :Str))[i]? with
  |none=>rw[ek] at e1;cases e1
  |some k' =>
   rw[ek] at e1;cases e1;refine⟨tt,_,Z,bc.of hT,Z,_,_,Z,_,_,Z,Z,((gJ.refl _).own (by decide)).own (by decide),_,Z,Z,_,Z,?_⟩;by_cases hb:xs.length<=i
   .rw[km (by lia),vN] at ek
    split at ek
    .cases ek;refine XV ?_;have:=c1 (aS hb) H' (ah.refl H');rw[eh,e2] at this;exact⟨v,Z,this⟩
    .cases ek
   .rw[ip (by lia)] at ek;rw[ip (by lia)] at e2;obtain⟨d',f1,f2⟩:=lJ p.hx i v e2;exact dG (dZ (Hu (A3 p.fit i k' d' ek f1))) (c0 (ba hb) H' (ah.refl H'))
 .rw[JF,Ia (λi hi=>ba (by lia)) (λi h _=>aS h),Cm] at h2;exact q p2 ys H2 (s1.free h0) (s1.trans s2) h2 p0.hy
noncomputable def dX(w:Str):Bool:=decide (w="frame")||decide (w="turns")
def Qb:Sp:=ur λ_ d v H Q=>Q (.bl (dX d.wd)) H
theorem Gb{w:Str}{ks:au}(h:(w,ks)∈bg):HQ (.str "label") (ks.map V.str)=dX w:=bE (a7.mp (show(bg.all λp=>decide (HQ (.str "label") (p.2.map V.str)=dX p.1))=true by decide+kernel) _ h)
theorem kU(ks:au):(ks.map V.str).all nY=true:=by
 rw[List.all_map];exact a7.mpr λ_ _=>rfl
theorem xF(T:Txt K mg A)(Fm:wR P w K A fm):aT P w K mg base dQ 1 A.A_ A.AE ["deed"] Qb:=by
 refine T.uF.F.vc Gh ?_
 rintro cB Ar outer s H vs Q E hr ⟨H0,v,d,rfl,gW,hd,ok,q⟩
 obtain⟨a,ks,xs,ys,rfl,p0⟩:=fu hd ok;have p:=p0.same gW;obtain⟨t,hv,ht⟩:=Fm.f _ p.f;refine⟨_,(aq (aH (H_ kW ai (qO Fm.Ki (fY (v:= .ref A.gC) Z T.gC Z) (cS aN (pv 0) ae))))),?_⟩;refine⟨_,Z,a,_,0,_,Z,Z,bc.of p.e,gU _ _,.inr d.wd,_,Z,Z,hv,t,_,Z,.inr (ht _),Z,kU _,?_⟩;have e:=Gb p.f;show Q (V.bl (HQ (.str "label") _)) H;rw[e];exact q
mutual
noncomputable def jM:Dd->Nat
 | .mk _ _ bs=>mX bs
noncomputable def eB:Ds->Nat
 | .nil=>0
 | .cons d r=>1+jM d+eB r
noncomputable def mX:Bs->Nat
 | .nil=>0
 | .cons _ b r=>eB b+mX r
end
theorem BF:∀s:Ds,eB s=s.l.length+(s.l.map jM).sum
 | .nil=>by rw[eB];rfl
 | .cons d r=>by
  rw[eB,BF r];show _=(d::r.l).length+((d::r.l).map jM).sum;rw[bB,cP,kP]
  lia
theorem NU:∀b:Bs,mX b=(b.l.map λp=>eB p.2).sum
 | .nil=>by rw[mX];rfl
 | .cons t b r=>by
  rw[mX,NU r];rfl
theorem Xz(d:Dd):jM d=(d.bs.l.map λp=>eB p.2).sum:=by
 cases d with
 |mk w ps bs=>rw[jM,NU];rfl
theorem nV{α:Type}(f:α->Nat){l:List α}{i:Nat}{x:α}(e:l[i]? =some x):((l.take (i+1)).map f).sum=((l.take i).map f).sum+f x:=by
 rw[rG,e];simp
theorem kq{d:Dd}(h:mv d):pF d.bs:=by
 cases d with
 |mk w ps bs=>
  rw[mv] at h;exact h.2
theorem l_(d:Dd):mG d=nR d.bs:=by
 cases d with
 |mk w ps bs=>rw[mG];rfl
theorem jI{H:Hp}{s:Ds}{vs:ak}(h:DatAll H vs (sL s)){i:Nat}{x:V}(e:vs[i]? =some x):∃d,s.l[i]? =some d/\Dat H x (dD d):=by
 obtain⟨dd,e',hd⟩:=lJ h i x e;rw[Gr,bX] at e'
 cases el:s.l[i]? with
 |none=>rw[el] at e';cases e'
 |some d=>rw[el] at e';cases e';exact⟨d,Z,hd⟩
theorem jO{H:Hp}{b:Bs}{vs:ak}(h:DatAll H vs (bL b)){i:Nat}{x:V}(e:vs[i]? =some x):∃p,b.l[i]? =some p/\Dat H x (iS p.1 (sL p.2)):=by
 obtain⟨dd,e',hd⟩:=lJ h i x e;rw[Ge,bX] at e'
 cases el:b.l[i]? with
 |none=>rw[el] at e';cases e'
 |some d=>rw[el] at e';cases e';exact⟨d,Z,hd⟩
theorem tm{H:Hp}{s:Ds}{vs:ak}(h:DatAll H vs (sL s)):vs.length=s.l.length:=by rw[fN h,Gr,a6]
theorem jh{H:Hp}{b:Bs}{vs:ak}(h:DatAll H vs (bL b)):vs.length=b.l.length:=by rw[fN h,Ge,a6]
theorem fg{P:Z'}{w:W'}{K:Frag}{mg:Str->aO}{base:Y'}{CX:uo}{k:Nat}{f:S'}{fd:aad}{ps:au}{sp:Sp}(n:∀vs H Q E,¬sp vs H Q E):aT P w K mg base CX k f fd ps sp:=by
 constructor
 .intro vs H Q E h;exact(n _ _ _ _ h).elim
 .intros;exact(n _ _ _ _ (by assumption)).elim
def spS(n:Nat)(ok:Bool->Ds->V->Hp->VK->Prop):Sp:=λvs H Q _=>∃v t s,vs=[v]/\Dat H v (iS t (sL s))/\mD s/\eQ s<n/\ok t s v H Q
def OJ(n:Nat):Sp:=spS n λt s v H Q=>∀H',ah H H'->Q (.int (eB s:Nat)) H'
theorem uf(T:Txt K mg A)(Fm:wR P w K A fm)(n:Nat):aT P w K mg base dQ (2+n) A.wX A.xa ["body"] (OJ n):=by
 induction n with
 |zero=>exact fg (by rintro vs H Q E ⟨v,t,s,_,_,_,h,_⟩;exact iP _ h)
 |succ n ih=>
 show aT P w K mg base dQ ((2+n)+1) _ _ _ _;refine T.nN.F.ok l4 (λvs H Q E h=> ?_) (λcB Ar outer s0 H vs Q E hr h=> ?_)
 .obtain⟨v,t,s,rfl,_⟩:=h;rfl
 .obtain⟨v,t,s,rfl,hd,ok,dp,q⟩:=h;obtain⟨a,vs,rfl,ha,hA⟩:=iI hd;refine⟨_,(aj (gf 1 l4.nd (iW br T.g7 Boot.«len» (aM (pv 0)))) (aj (AV (o_ (pv 0)) (jk 2 l4.nd) (aq (AV (ff (cI (fH T Fm) hr T.fE aC (aM (pv 2)) (hj:=by lia))) (jk 3 l4.nd) (aq (Jd (i:=1) l4.nd Z (Or.inl Z) (cI ih hr T.nN aC (aM (pv 3)) (hj:=by lia)) HG))))) (aq (aH (pv 1))))),?_⟩;refine⟨_,Z,a,_,Z,YD ha,⟨_,Z,a,t,Z,LW ha,?_⟩⟩;refine nt (K:=K) (t:=t) (a:=a) (xs:=vs) (λi σ H' =>∃x2 x3:Option V,σ=[some (.ref a),some (.int ((vs.length+((s.l.take i).map jM).sum:Nat):Int)),x2,x3]/\ah H H') ⟨_,_,Z,ah.refl H⟩ (by rintro i σ H' _ ⟨_,_,_,sm⟩;exact sm _ _ ha) ?_ ?_
  .rintro i x σ H' hx ⟨x2,x3,rfl,sm⟩
   obtain⟨d,ed,tN⟩:=jI hA hx;have dm:=bD ed;have lu:=gF ok d dm;have LA:=gI d dm;refine⟨_,Z,H,x,d,Z,sm,tN,lu,λl ys H1 OH s1 hz hB=>⟨l,Z,⟨_,cF.of hz⟩,?_⟩⟩;refine i0 (K:=K) (a:=l) (xs:=ys) (λj σ H2=>∃x3:Option V,σ=[some (.ref a),some (.int ((vs.length+((s.l.take i).map jM).sum+((d.bs.l.take j).map λp=>eB p.2).sum:Nat):Int)),some x,x3]/\ah H1 H2) ⟨_,Z,ah.refl H1⟩ (by rintro i σ H' _ ⟨_,_,sm⟩;exact cF.of (sm _ _ hz)) ?_ ?_
   .rintro j y σ H2 hy ⟨x3,rfl,s2⟩
    obtain⟨p,ep,hp⟩:=jO hB hy;have pm:=bD ep;have zo:=hX (kq lu) p pm;have Gv:=h8 p pm;rw[<-l_] at Gv;refine⟨_,Z,_,Z,y,p.1,p.2,Z,hp.same (sm.trans (s1.trans s2)),zo,by lia,λH3 s3=>⟨_,_,Z,Z,some y,?_,s2.trans s3⟩⟩;rw[nV (λp:Bool×Ds=>eB p.2) ep,<-Nat.add_assoc,sg (_+_) (eB p.2)];rfl
   .rintro σ H2 ⟨x3,rfl,s2⟩
    refine⟨some x,x3,?_,sm.trans (s1.trans s2)⟩;rw[jh hB,gi,<-Xz,nV jM ed,Nat.add_assoc]
  .rintro σ H' ⟨x2,x3,rfl,sm⟩
   refine⟨_,Z,?_⟩;rw[tm hA,gi,<-BF];exact q H' sm
noncomputable def qy:List Nat->Nat
 |[]=>0
 |x::r=>max x (qy r)
theorem F8:∀(l:List Nat) (x:Nat),qy (l++[x])=max (qy l) x
 |[],x=>by
  show max x 0=max 0 x
  lia
 |y::r,x=>by
  show max y (qy (r++[x]))=max (max y (qy r)) x;rw[F8 r x]
  lia
theorem Nr:∀s:Ds,eQ s=qy (s.l.map mG)
 | .nil=>by rw[eQ];rfl
 | .cons d r=>by rw[eQ,Nr r];rfl
theorem MH:∀b:Bs,nR b=qy (b.l.map λp=>eQ p.2+1)
 | .nil=>by rw[nR];rfl
 | .cons t b r=>by rw[nR,MH r];rfl
theorem Fi{α:Type}(f:α->Nat){l:List α}{i:Nat}{x:α}(e:l[i]? =some x):qy ((l.take (i+1)).map f)=max (qy ((l.take i).map f)) (f x):=by
 rw[rG,e];simp[F8]
def Qt(n:Nat):Sp:=spS n λt s v H Q=>∀H',ah H H'->Q (.int (eQ s:Nat)) H'
theorem FE(T:Txt K mg A)(Fm:wR P w K A fm)(n:Nat):aT P w K mg base dQ (2+n) A.BE A.AJ ["body"] (Qt n):=by
 induction n with
 |zero=>exact fg (by rintro vs H Q E ⟨v,t,s,_,_,_,h,_⟩;exact iP _ h)
 |succ n ih=>
 show aT P w K mg base dQ ((2+n)+1) _ _ _ _;refine T.uI.F.ok jV (λvs H Q E h=> ?_) (λcB Ar outer s0 H vs Q E hr h=> ?_)
 .obtain⟨v,t,s,rfl,_⟩:=h;rfl
 .obtain⟨v,t,s,rfl,hd,ok,dp,q⟩:=h;obtain⟨a,vs,rfl,ha,hA⟩:=iI hd;refine⟨_,(aj (gf 1 jV.nd ae) (aj (AV (o_ (pv 0)) (jk 2 jV.nd) (aq (AV (ff (cI (fH T Fm) hr T.fE aC (aM (pv 2)) (hj:=by lia))) (jk 3 jV.nd) (aq (gf 1 jV.nd (iW (kX Z) T.xU Boot.«max» (ag (pv 1) (aM (aL bA ae (cI ih hr T.uI aC (aM (pv 3)) (hj:=by lia))))))))))) (aq (aH (pv 1))))),?_⟩;refine⟨_,Z,a,t,Z,LW ha,?_⟩;refine nt (K:=K) (t:=t) (a:=a) (xs:=vs) (λi σ H' =>∃x2 x3:Option V,σ=[some (.ref a),some (.int (qy ((s.l.take i).map mG):Nat)),x2,x3]/\ah H H') ⟨_,_,Z,ah.refl H⟩ (by rintro i σ H' _ ⟨_,_,_,sm⟩;exact sm _ _ ha) ?_ ?_
  .rintro i x σ H' hx ⟨x2,x3,rfl,sm⟩
   obtain⟨d,ed,tN⟩:=jI hA hx;have dm:=bD ed;have lu:=gF ok d dm;have LA:=gI d dm;refine⟨_,Z,H,x,d,Z,sm,tN,lu,λl ys H1 OH s1 hz hB=>⟨l,Z,⟨_,cF.of hz⟩,?_⟩⟩;refine i0 (K:=K) (a:=l) (xs:=ys) (λj σ H2=>∃x3:Option V,σ=[some (.ref a),some (.int ((max (qy ((s.l.take i).map mG)) (qy ((d.bs.l.take j).map λp=>eQ p.2+1)):Nat):Int)),some x,x3]/\ah H1 H2) ⟨x3,?_,ah.refl H1⟩ (by rintro i σ H' _ ⟨_,_,sm⟩;exact cF.of (sm _ _ hz)) ?_ ?_
   .rw[show max (qy ((s.l.take i).map mG)) (qy ((d.bs.l.take 0).map λp=>eQ p.2+1))=qy ((s.l.take i).map mG) from Nat.max_eq_left (cG _)];rfl
   .rintro j y σ H2 hy ⟨x3,rfl,s2⟩
    obtain⟨p,ep,hp⟩:=jO hB hy;have pm:=bD ep;have zo:=hX (kq lu) p pm;have Gv:=h8 p pm;rw[<-l_] at Gv;refine⟨_,Z,_,Z,y,p.1,p.2,Z,hp.same (sm.trans (s1.trans s2)),zo,by lia,λH3 s3=>⟨1,_,Z,Z,_,_,Z,some y,?_,s2.trans s3⟩⟩;rw[Fi (λp:Bool×Ds=>eQ p.2+1) ep,<-Nat.max_assoc]
    have e:∀m k:Nat,((max m (k+1):Nat):Int)=if(1+(k:Int))>(m:Int) then(1+(k:Int)) else(m:Int):=λm k=>by
     split<;>lia
    rw[e];rfl
   .rintro σ H2 ⟨x3,rfl,s2⟩
    refine⟨some x,x3,?_,sm.trans (s1.trans s2)⟩;rw[jh hB,gi,<-MH,<-l_,Fi mG ed]
  .rintro σ H' ⟨x2,x3,rfl,sm⟩
   refine⟨_,Z,?_⟩;rw[tm hA,gi,<-Nr];exact q H' sm
noncomputable def jg(d:Dd):Str:=match d.ps with
 | .str x::_=>x
 |_=>""
noncomputable def oI(d:Dd)(ar:au):au:=if dX d.wd=true then jg d::ar else ar
mutual
noncomputable def Dc:Dd->au->List (Dd×au)
 | .mk w ps bs,ar=>(.mk w ps bs,ar)::E_ bs (oI (.mk w ps bs) ar)
noncomputable def pI:Ds->au->List (Dd×au)
 | .nil,_=>[]
 | .cons d r,ar=>Dc d ar++pI r ar
noncomputable def E_:Bs->au->List (Dd×au)
 | .nil,_=>[]
 | .cons _ b r,ar=>pI b ar++E_ r ar
end
theorem IK(ar:au):∀s:Ds,pI s ar=s.l.flatMap λd=>Dc d ar
 | .nil=>by rw[pI];rfl
 | .cons d r=>by rw[pI,IK ar r];rfl
theorem N0(ar:au):∀b:Bs,E_ b ar=b.l.flatMap λp=>pI p.2 ar
 | .nil=>by rw[E_];rfl
 | .cons t b r=>by rw[E_,N0 ar r];rfl
theorem NP(d:Dd)(ar:au):Dc d ar=(d,ar)::d.bs.l.flatMap λp=>pI p.2 (oI d ar):=by
 cases d with
 |mk w ps bs=>rw[Dc,N0];rfl
mutual
theorem DV:∀(d:Dd) (ar:au),(Dc d ar).length=1+jM d
 | .mk w ps bs,ar=>by rw[Dc,bB,JW bs,jM];lia
theorem vV:∀(s:Ds) (ar:au),(pI s ar).length=eB s
 | .nil,ar=>by rw[pI,eB];rfl
 | .cons d r,ar=>by rw[pI,bu,DV d,vV r,eB]
theorem JW:∀(b:Bs) (ar:au),(E_ b ar).length=mX b
 | .nil,ar=>by rw[E_,mX];rfl
 | .cons t b r,ar=>by rw[E_,bu,vV b,JW r,mX]
end
theorem iB{α β:Type}(f:α->List β){l:List α}{i:Nat}{x:α}(e:l[i]? =some x):(l.take (i+1)).flatMap f=(l.take i).flatMap f++f x:=by
 rw[rG,e];simp
theorem kR{α β:Type}(f:α->List β)(l:List α)(i:Nat):((l.take i).flatMap f).length<=(l.flatMap f).length:=by
 have e:l.flatMap f=(l.take i).flatMap f++(l.drop i).flatMap f:=by rw[<-List.flatMap_append,jE]
 rw[e,bu]
 lia
theorem jP:∀{s:Ds},∀d∈s.l,1+jM d<=eB s
 | .nil,d,h=>by cases h
 | .cons e r,d,hd=>by
  rw[eB];rcases aP.mp hd with rfl|hd
  .lia
  .have:=jP (s:=r) d hd
   lia
theorem kI:∀{b:Bs},∀p∈b.l,eB p.2<=mX b
 | .nil,p,h=>by cases h
 | .cons t b r,p,hp=>by
  rw[mX];rcases aP.mp hp with rfl|hp
  .exact o6 _ _
  .have:=kI (b:=r) p hp
   lia
theorem qJ(d:Dd):jM d=mX d.bs:=by
 cases d with
 |mk w ps bs=>rw[jM];rfl
theorem GI{w:Str}{ks:au}(h:(w,ks)∈bg)(b:dX w=true):ks.head? =some "label":=by
 have:=bE (a7.mp (show(bg.all λp=>decide (dX p.1=true->p.2.head? =some "label"))=true by decide+kernel) _ h);exact this b
theorem jb.jg{H:Hp}{d:Dd}{a:S'}{ks:au}{xs ys:ak}(p:jb H d a ks xs ys)(b:dX d.wd=true):∃Qz,xs= .str (jg d)::Qz :=by
 have h:=GI p.f b;have hf:=p.fit;have hx:=p.hx;unfold My.jg
 cases ks with
 |nil=>
  rw[oY] at h
  cases hn:ys.length with
  |zero=>rw[hn] at h;cases h
  |succ m=>rw[hn,qH] at h;exact absurd (fV h) (by decide+kernel)
 |cons k ks=>
  have hk:k="label":=fV h;subst hk;generalize d.ps=ps at hf hx
  cases hf with
  |cons h1 h2=>
   cases hx with
   |cons g1 g2=>
    cases h1 with
    |label x _ _=>cases g1;exact⟨_,Z⟩
    |num _ _ _ _ hb=>exact absurd Z (nj hb (by decide+kernel))
def GJ(H0 H:Hp)(v:V)(r:Dd×au):Prop:=∃t x u,v= .ref t/\H t=some (.tup [x,.ref u])/\Dat H0 x (dD r.1)/\H u=some (.tup (r.2.map V.str))
structure gQ(H0 H:Hp)(zs:ak)(rs:List (Dd×au)):Prop where
 len:zs.length=rs.length
 at_:∀(i:Nat) v,zs[i]? =some v->∃r,rs[i]? =some r/\GJ H0 H v r
def KT(H H' :Hp):Prop:=∀c xs,H c=some (.tup xs)->H' c=some (.tup xs)
theorem GJ.kt{H0 H H' :Hp}{v:V}{r:Dd×au}(h:GJ H0 H v r)(k:KT H H'):GJ H0 H' v r:=by
 obtain⟨t,x,u,e1,e2,e3,e4⟩:=h;exact⟨t,x,u,e1,k _ _ e2,e3,k _ _ e4⟩
theorem gQ.kt{H0 H H' :Hp}{zs:ak}{rs:List (Dd×au)}(h:gQ H0 H zs rs)(k:KT H H'):gQ H0 H' zs rs:=⟨h.len,λi v e=>by
 obtain⟨r,e1,e2⟩:=h.at_ i v e;exact⟨r,e1,e2.kt k⟩⟩
theorem gQ.nil{H0 H:Hp}:gQ H0 H [] []:=⟨Z,λi v e=>by cases e⟩
theorem gQ.app{H0 H:Hp}{zs ws:ak}{rs qs:List (Dd×au)}(h:gQ H0 H zs rs)(g:gQ H0 H ws qs):gQ H0 H (zs++ws) (rs++qs):=⟨by rw[bu,bu,h.len,g.len],λi v e=>by
 have hl:=h.len;by_cases hi:i<zs.length
 .rw[ip hi] at e;rw[ip (by lia)];exact h.at_ i v e
 .rw[km (by lia)] at e;rw[km (by lia),<-hl];exact g.at_ _ v e⟩
theorem gQ.one{H0 H:Hp}{v:V}{r:Dd×au}(h:GJ H0 H v r):gQ H0 H [v] [r]:=⟨Z,λi w e=>by
 cases i with
 |zero=>cases e;exact⟨r,Z,h⟩
 |succ i=>cases e⟩
theorem KT.same{H H' :Hp}(s:ah H H'):KT H H' :=λc xs e=>s c _ e
theorem KT.upd{H:Hp}{a:S'}{xs:ak}{o:HO}(h:H a=some (.lst xs)):KT H (upd H a o):=λc ys e=>by
 rw[az (dw e h (by intro z;cases z))];exact e
theorem KT.trans{H1 H2 H3:Hp}(a:KT H1 H2)(b:KT H2 H3):KT H1 H3:=λc xs e=>b c xs (a c xs e)
theorem fh{H H' :Hp}{a:S'}{o:HO}(h:H a=none)(s:ah H H'):ah H (upd H' a o):=λc q e=>by
 rw[az (aA e h)];exact s c q e
theorem JT{K:Frag}{H:Hp}{a:S'}{xs:ak}(h:H a=some (.lst xs)):tyV K "list" (.ref a) H:= .inl ⟨Z,_,cF.of h⟩
theorem jat{c:Bool}{X Y:Prop}{M G:S'->Hp->Prop}(ha:c=true->(∀u h,G u h->M u h)->X)(hb:c=false->(∀u h,G u h->M u h)->Y)(k:∀u h,G u h->M u h):if c=true then X else Y:=by
 cases c with
 |true=>exact a9 (ha Z k)
 |false=>exact bo (hb Z k)
def KN(n:Nat):Sp:=λvs H Q _=>∃H0 v t s u ar,vs=[v,.ref u]/\ah H0 H/\Dat H0 v (iS t (sL s))/\mD s/\eQ s<n/\H u=some (.tup (ar.map V.str))/\ar≠[]/\eB s<=1000/\ar.length+eQ s<1000/\
 ∀l zs H',H l=none->ah H H'->H' l=some (.lst zs)->gQ H0 H' zs (pI s ar)->Q (.ref l) H'
theorem Ji(T:Txt K mg A)(Fm:wR P w K A fm)(n:Nat):aT P w K mg base dQ (2+n) A.Dn A.C9 ["body","around"] (KN n):=by
 induction n with
 |zero=>exact fg (by rintro vs H Q E ⟨H0,v,t,s,u,ar,_,_,_,_,h,_⟩;exact iP _ h)
 |succ n ih=>
 show aT P w K mg base dQ ((2+n)+1) _ _ _ _;refine T.xy.F.ok mj (λvs H Q E h=> ?_) (λcB Ar outer s0 H vs Q E hr h=> ?_)
 .obtain⟨H0,v,t,s,u,ar,rfl,_⟩:=h;rfl
 .obtain⟨H0,v,t,s,u,ar,rfl,LO,hd,ok,dp,hu,wN,hmn,Qj,q⟩:=h;obtain⟨a,vs,rfl,ha,hA⟩:=iI hd;have LX:(1000:Nat)<=sizeLine:=by decide
  refine⟨_,(aj (gf 2 mj.nd (bH dY)) (aj (AV (o_ (pv 0)) (jk 3 mj.nd) (aj (bW (mz gP D' F' dB (pv 2) (aM (bt (ag (pv 3) (aM (pv 1))))))) (aj (gf 4 mj.nd (q_ (gm (cI (xF T Fm) hr T.uF aC (aM (pv 3)) (hj:=by lia))) (aL jF (bt (aM (cS aN (pv 3) ae))) (pv 1)) (pv 1))) (aq (AV (ff (cI (fH T Fm) hr T.fE aC (aM (pv 3)) (hj:=by lia))) (jk 5 mj.nd) (aq (bW (mz gP zh type_list_extend wW (pv 2) (aM (cI ih hr T.xy aC (ag (pv 5) (aM (pv 4))) (hj:=by lia))))))))))) (aq (aH (pv 2))))),?_⟩;refine⟨m7,λfl pz=>⟨_,Z,a,t,Z,LW (fh pz (ah.refl H) _ _ (LO _ _ ha)),?_⟩⟩;refine nt (K:=K) (t:=t) (a:=a) (xs:=vs) (λi σ H' =>∃(x3 x4 x5:Option V) (zs:ak),σ=[some (.ref a),some (.ref u),some (.ref fl),x3,x4,x5]/\ah H H'/\H' fl=some (.lst zs)/\gQ H0 H' zs ((s.l.take i).flatMap λd=>Dc d ar)) ⟨_,_,_,[],Z,fh pz (ah.refl H),af,.nil⟩ (by rintro i σ H' _ ⟨_,_,_,_,_,sm,_⟩;exact sm _ _ (LO _ _ ha)) ?_ ?_
  .rintro i x σ H' hx ⟨x3,x4,x5,zs,rfl,sm,nC,R⟩
   obtain⟨d,ed,tN⟩:=jI hA hx;have dm:=bD ed;have lu:=gF ok d dm;have LA:=gI d dm;have PX:=jP d dm;have tl:=kR (λd=>Dc d ar) s.l (i+1);rw[<-IK,vV,iB (λd=>Dc d ar) ed,bu,DV,<-R.len] at tl;obtain⟨b,ks,xs,CL,rfl,p0⟩:=fu tN lu;refine⟨_,Z,JT nC,_,Z,_,Z,gY,λt1 uG=>⟨fl,zs,.ref t1,Z,Z,(ah.upd uG) _ _ nC,by lia,?_⟩⟩;have akA:H' fl≠none:=by rw[nC];exact λz=>nomatch z
   have s1:ah H (upd (upd H' t1 (.tup [.ref b,.ref u])) fl (.lst (zs++[.ref t1]))):=fh pz (sm.trans (ah.upd uG));have k1:KT H' (upd (upd H' t1 (.tup [.ref b,.ref u])) fl (.lst (zs++[.ref t1]))):=(KT.same (ah.upd uG)).trans (KT.upd ((ah.upd uG) _ _ nC));have vH:upd (upd H' t1 (.tup [.ref b,.ref u])) fl (.lst (zs++[.ref t1])) fl=some (.lst (zs++[.ref t1])):=af;have aaJ :upd (upd H' t1 (.tup [.ref b,.ref u])) fl (.lst (zs++[.ref t1])) t1=some (.tup [.ref b,.ref u]):=(KT.upd ((ah.upd uG) _ _ nC)) _ _ af;generalize upd (upd H' t1 (.tup [.ref b,.ref u])) fl (.lst (zs++[.ref t1]))=H2 at s1 k1 vH aaJ ⊢;have R2:gQ H0 H2 (zs++[.ref t1]) (((s.l.take i).flatMap λd=>Dc d ar)++[(d,ar)]):=(R.kt k1).app (.one ⟨t1,_,u,Z,aaJ,tN,s1 _ _ hu⟩);have p:=p0.same (LO.trans s1);refine⟨_,Z,H0,_,d,Z,LO.trans s1,tN,lu,_,Z,?_⟩
   have afo:oI d ar≠[]:=by
    unfold oI
    split
    .exact λz=>nomatch z
    .exact wN
   have hil:(oI d ar).length<=ar.length+1:=by
    unfold oI
    split
    .exact aK _
    .exact uX _
   apply jat (c:=dX d.wd) (G:=λu' H3=>ah H2 H3/\H3 u' =some (.tup ((oI d ar).map V.str)))
   .intro hb k;obtain⟨Qz,CU⟩:=p0.jg hb;have pe:=p.e;rw[CU] at pe;refine⟨_,Z,b,_,1,_,Z,Z,bc.of pe,bb (j:=1) Z,y8,λt2 wU=>⟨_,Z,t2,u,_,_,Z,Z,bc.of af,bc.of ((ah.upd wU) _ _ (s1 _ _ hu)),(λz=>nomatch z),?_,(λz=>absurd (List.map_eq_nil_iff.mp z) wN),λ_ u' qi=> ?_⟩⟩
    .rw[a6];show 1+ar.length<=_
     lia
    have s3:ah H2 (upd (upd H2 t2 (.tup [.str (jg d)])) u' (.tup ([.str (jg d)]++ar.map V.str))):=(ah.upd wU).trans (ah.upd qi)
    have Pj:upd (upd H2 t2 (.tup [.str (jg d)])) u' (.tup ([.str (jg d)]++ar.map V.str)) u' =some (.tup ((oI d ar).map V.str)):=by
     rw[af];unfold oI;rw[hb];rfl
    generalize upd (upd H2 t2 (.tup [.str (jg d)])) u' (.tup ([.str (jg d)]++ar.map V.str))=H3 at s3 Pj ⊢;exact k u' H3 ⟨s3,Pj⟩
   .intro hb k;refine⟨_,Z,k u H2 ⟨ah.refl H2,?_⟩⟩;unfold oI;rw[hb];exact s1 _ _ hu
   .rintro u' H3 ⟨s3,Pj⟩
    refine⟨_,Z,H0,_,d,Z,(LO.trans s1).trans s3,tN,lu,λl ys H4 hl4 s4 hz hB=>⟨l,Z,⟨_,cF.of hz⟩,?_⟩⟩;have IT:=s4 _ _ (s3 _ _ vH);have XD:l≠fl:=(aA (s3 _ _ vH) hl4).symm;refine i0 (K:=K) (a:=l) (xs:=ys) (λj σ H5=>∃(x5:Option V) (Hg :ak),σ=[some (.ref a),some (.ref u),some (.ref fl),some (.ref b),some (.ref u'),x5]/\Kept fl H4 H5/\H5 fl=some (.lst Hg)/\gQ H0 H5 Hg (((s.l.take i).flatMap λd=>Dc d ar)++(d,ar)::(d.bs.l.take j).flatMap λp=>pI p.2 (oI d ar))) ⟨x5,_,Z,Kept.refl _ _,IT,R2.kt (KT.same (s3.trans s4))⟩ (by rintro i σ H' _ ⟨_,_,_,k,_⟩;exact cF.of (k _ _ XD hz)) ?_ ?_
    .rintro j y σ H5 hy ⟨x5,Hg,rfl,k5,rj,R5⟩
     obtain⟨pp,ep,hp⟩:=jO hB hy;have pm:=bD ep;have zo:=hX (kq lu) pp pm;have Gv:=h8 pp pm;have Oh:=kI pp pm;rw[<-l_] at Gv;rw[<-qJ] at Oh;have tl2:=kR (λp:Bool×Ds=>pI p.2 (oI d ar)) d.bs.l (j+1);have ll:=DV d ar;rw[NP,bB] at ll;rw[iB (λp:Bool×Ds=>pI p.2 (oI d ar)) ep,bu,vV] at tl2;have r5l:=R5.len;rw[bu,bB,<-R.len] at r5l;have S05:ah H0 H5:=λc o e=>k5 c o (aA (LO _ _ e) pz) (s4 _ _ (s3 _ _ (s1 _ _ (LO _ _ e))));have hu5:H5 u' =some (.tup ((oI d ar).map V.str)):=k5 _ _ (dw (s3 _ _ vH) Pj (λz=>nomatch z)).symm (s4 _ _ Pj);refine⟨_,Z,JT rj,_,Z,_,Z,H0,y,pp.1,pp.2,u',oI d ar,Z,S05,hp,zo,by lia,hu5,afo,by lia,by lia,λl2 X4 H6 n6 s6 hz6 R6=>⟨fl,l2,Hg,X4,Z,Z,s6 _ _ rj,hz6,?_,some y,Hg ++X4,Z,?_,af,?_⟩⟩
     .have:=R6.len;rw[vV] at this
      lia
     .exact λc o hc e=>by
       rw[az hc];exact s6 _ _ (k5 c o hc e)
     .have kk:=KT.upd (o:= .lst (Hg ++X4)) (s6 _ _ rj);rw[iB (λp:Bool×Ds=>pI p.2 (oI d ar)) ep,<-zT,<-Eb];exact((R5.kt (KT.same s6)).app R6).kt kk
    .rintro σ H5 ⟨x5,Hg,rfl,k5,rj,R5⟩
     refine⟨_,_,_,Hg,Z,λc o e=>k5 c o (aA e pz) (s4 _ _ (s3 _ _ (s1 _ _ e))),rj,?_⟩;rw[jh hB,gi,<-NP,<-iB (λd=>Dc d ar) ed] at R5;exact R5
  .rintro σ H' ⟨x3,x4,x5,zs,rfl,sm,nC,R⟩
   refine⟨_,Z,q fl zs H' pz sm nC ?_⟩;rw[tm hA,gi,<-IK] at R;exact R
theorem C8{ks:au}{ps:List U'}(h:iw ks ps):∀k∈ks,k≠ "body":=by
 induction h with
 |nil=>intro k hk;cases hk
 |cons h t ih=>
  intro k hk;rcases aP.mp hk with rfl|hk
  .exact Hu h
  .exact ih k hk
theorem Ur{ks:au}{m:Nat}{L:au}(h:∀k∈ks,k≠ "body")(e:ks++List.replicate m ("body" :Str)=L):ks=L.filter (λk:Str=>decide (k≠ "body"))/\m=(L.filter λk:Str=>decide (k="body")).length:=by
 subst e;constructor
 .rw[wm,lr.mpr (λk hk=>aS (h k hk)),EA.mpr (λk hk=>by rw[List.eq_of_mem_replicate hk];decide),fG]
 .rw[wm,EA.mpr (λk hk=>by simpa using h k hk),oY,lr.mpr (λk hk=>by rw[List.eq_of_mem_replicate hk];decide),gS]
inductive Shape:Dd->Prop
 |ei (t:Bool) (b:Ds) (u:Bool) (c:Ds):Shape (.mk "either" [] (.cons t b (.cons u c .nil)))
 |tu (l:Str) (m n:Int) (t:Bool) (b:Ds) (hl:cv l=true) (hg:l≠ "ground") (m1:1<=m) (m3:m<=3) (n0:0<=n) (n4:n<=4):Shape (.mk "turns" [.str l,.int m,.int n] (.cons t b .nil))
 |fr (l:Str) (t:Bool) (b:Ds) (hl:cv l=true) (hg:l≠ "ground"):Shape (.mk "frame" [.str l] (.cons t b .nil))
 |sm (w:Str) (ks:au) (ps:List U') (f:(w,ks)∈bg) (h:iw ks ps) (n1:w≠ "either") (n2:w≠ "turns") (n3:w≠ "frame"):Shape (.mk w ps .nil)
theorem JA{b:Bs}(h:b.l.length=0):b= .nil:=by
 cases b with
 |nil=>rfl
 |cons t b r=>cases h
theorem Fd{b:Bs}(h:b.l.length=1):∃t c,b= .cons t c .nil:=by
 cases b with
 |nil=>cases h
 |cons t b r=>exact⟨t,b,by rw[JA (b:=r) (oG h)]⟩
theorem PD{b:Bs}(h:b.l.length=2):∃t c u e,b= .cons t c (.cons u e .nil):=by
 cases b with
 |nil=>cases h
 |cons t b r=>
  obtain⟨u,e,rfl⟩:=Fd (b:=r) (oG h);exact⟨t,b,u,e,Z⟩
theorem C6{d:U'}(h:zO "label" d):∃x,d= .str x/\cv x=true/\x≠ "ground":=by
 cases h with
 |label x h n=>exact⟨x,Z,h,n⟩
 |num _ _ _ _ hb=>exact absurd Z (nj hb (by decide+kernel))
theorem JU{k:Str}{lo hi:Int}{d:U'}(h:zO k d)(hk:k="many" /\lo=1/\hi=3\/k="times" /\lo=0/\hi=4):∃i,d= .int i/\lo<=i/\i<=hi:=by
 cases h with
 |num _ lo' hi' i hb h1 h2=>
  refine⟨i,Z,?_⟩;have:=a7.mp (show(xc.all λp=>decide ((p.1="many" ->p.2=(1,3))/\(p.1="times" ->p.2=(0,4))))=true by decide+kernel) _ hb;have:=bE this;rcases hk with⟨rfl,rfl,rfl⟩|⟨rfl,rfl,rfl⟩
  .have e:=this.1 rfl;cases e;exact⟨h1,h2⟩
  .have e:=this.2 rfl;cases e;exact⟨h1,h2⟩
 |_=>
  rcases hk with⟨z,_⟩|⟨z,_⟩<;>exact absurd z (by decide+kernel)
theorem jaf{d:Dd}(ok:mv d):Shape d:=by
 cases d with
 |mk w ps bs=>
  rw[mv] at ok;obtain⟨⟨ks,f,fit⟩,_⟩:=ok;have nb:=C8 fit;generalize hL:ks++List.replicate bs.l.length ("body" :Str)=L at f;obtain⟨e1,e2⟩:=Ur nb hL;have f0:=f;by_cases h1:w="either"
  .subst h1;have:=bE (a7.mp (show(bg.all λp=>decide (p.1="either" ->p.2=(["body","body"]:au)))=true by decide+kernel) _ f) rfl;dsimp only at this;subst this;obtain⟨t,c,u,e,rfl⟩:=PD (e2.trans (by decide+kernel));rw[show ks=([]:au) from e1.trans (by decide+kernel)] at fit;cases fit;exact .ei t c u e
  .by_cases h2:w="turns"
   .subst h2;have:=bE (a7.mp (show(bg.all λp=>decide (p.1="turns" ->p.2=(["label","many","times","body"]:au)))=true by decide+kernel) _ f) rfl;dsimp only at this;subst this;obtain⟨t,c,rfl⟩:=Fd (e2.trans (by decide+kernel));rw[show ks=(["label","many","times"]:au) from e1.trans (by decide+kernel)] at fit
    cases fit with
    |cons a r=>
     cases r with
     |cons b r=>
      cases r with
      |cons c' r=>
       cases r;obtain⟨l,rfl,hl,hg⟩:=C6 a;obtain⟨m,rfl,m1,m3⟩:=JU b (.inl ⟨Z,Z,Z⟩);obtain⟨n,rfl,n0,n4⟩:=JU c' (.inr ⟨Z,Z,Z⟩);exact .tu l m n t c hl hg m1 m3 n0 n4
   .by_cases h3:w="frame"
    .subst h3;have:=bE (a7.mp (show(bg.all λp=>decide (p.1="frame" ->p.2=(["label","body"]:au)))=true by decide+kernel) _ f) rfl;dsimp only at this;subst this;obtain⟨t,c,rfl⟩:=Fd (e2.trans (by decide+kernel));rw[show ks=(["label"]:au) from e1.trans (by decide+kernel)] at fit
     cases fit with
     |cons a r=>
      cases r;obtain⟨l,rfl,hl,hg⟩:=C6 a;exact .fr l t c hl hg
    .have:=bE (a7.mp (show(bg.all λp=>decide (p.1≠ "either" ->p.1≠ "turns" ->p.1≠ "frame" ->(p.2.filter λk:Str=>decide (k="body")).length=0))=true by decide+kernel) _ f) h1 h2 h3;have hb:=JA (e2.trans this);subst hb;have:ks=L:=by rw[<-hL];exact(fG ks).symm
     subst this;exact .sm w ks ps f fit h1 h2 h3
noncomputable def X5(ps:List U'):Nat:=match ps with
 |[_,_,.int n]=>n.toNat
 |_=>0
mutual
noncomputable def BD:Dd->Nat
 | .mk w ps bs=>if w="either" then 1+qy (tP bs) else if w="turns" then X5 ps*(tP bs).headD 0 else(tP bs).sum
noncomputable def jY:Ds->Nat
 | .nil=>0
 | .cons d r=>BD d+jY r
noncomputable def tP:Bs->List Nat
 | .nil=>[]
 | .cons _ b r=>jY b::tP r
end
mutual
noncomputable def Ba:Dd->Nat
 | .mk w ps bs=>if w="either" then 1+qy (ug bs) else if w="turns" then X5 ps*(1+(ug bs).headD 0)+1 else if w="frame" then 1+(ug bs).headD 0+1 else 1
noncomputable def j9:Ds->Nat
 | .nil=>0
 | .cons d r=>Ba d+j9 r
noncomputable def ug:Bs->List Nat
 | .nil=>[]
 | .cons _ b r=>j9 b::ug r
end
theorem Iy:∀s:Ds,jY s=(s.l.map BD).sum
 | .nil=>by rw[jY];rfl
 | .cons d r=>by rw[jY,Iy r];rfl
theorem Ik:∀s:Ds,j9 s=(s.l.map Ba).sum
 | .nil=>by rw[j9];rfl
 | .cons d r=>by rw[j9,Ik r];rfl
theorem w8:∀b:Bs,tP b=b.l.map λp=>jY p.2
 | .nil=>by rw[tP];rfl
 | .cons t b r=>by rw[tP,w8 r];rfl
theorem Ep:∀b:Bs,ug b=b.l.map λp=>j9 p.2
 | .nil=>by rw[ug];rfl
 | .cons t b r=>by rw[ug,Ep r];rfl
noncomputable def yO(dp mn:Nat):Nat:=5*4 ^ dp*mn
theorem qz{d d' m m' :Nat}(h:d<=d')(k:m<=m'):yO d m<=yO d' m' :=Nat.mul_le_mul (Nat.mul_le_mul_left _ (Nat.pow_le_pow_right (by decide) h)) k
theorem QI(d m k:Nat):yO d m+yO d k=yO d (m+k):=(Nat.mul_add _ _ _).symm
theorem Jl(d m:Nat):5+4*yO d m<=yO (d+1) (1+m):=by
 unfold yO;have h:1<=4 ^ d:=Nat.pow_pos (by decide)
 rw[Nat.pow_succ,show 5*(4 ^ d*4)*(1+m)=20*4 ^ d+4*(5*4 ^ d*m) by
  rw[Nat.mul_add,Nat.mul_one]
  congr 1
  .lia
  .rw[<-Nat.mul_assoc,<-Nat.mul_assoc]
   congr 1
   lia]
 lia
mutual
theorem Ob:∀d:Dd,mv d->BD d<=yO (mG d) (1+jM d)/\Ba d<=yO (mG d) (1+jM d)
 | .mk w ps bs,ok=>by
  have hb:pF bs:=kq ok;have sh:=jaf ok;have hB:=Zd bs hb;rw[mG,jM,BD,Ba]
  cases sh with
  |ei t b u c=>
   rw[aB Z,aB Z];rw[pF,pF,pF] at hb;have h1:=Ac b hb.1;have h2:=Ac c hb.2.1;rw[tP,tP,tP,ug,ug,ug,nR,nR,nR,mX,mX,mX];have e1:=Jl (max (eQ b) (eQ c)) (eB b+eB c);have c1:yO (eQ b) (eB b)<=yO (max (eQ b) (eQ c)) (eB b+eB c):=qz (zP _ _) (o6 _ _);have c2:yO (eQ c) (eB c)<=yO (max (eQ b) (eQ c)) (eB b+eB c):=qz (zm _ _) (Nat.le_add_left _ _);have ed:max (eQ b+1) (max (eQ c+1) 0)=max (eQ b) (eQ c)+1:=by lia
   have em:1+(eB b+(eB c+0))=1+(eB b+eB c):=by lia
   rw[ed,em];show 1+max (jY b) (max (jY c) 0)<=_/\1+max (j9 b) (max (j9 c) 0)<=_
   lia
  |tu l m n t b hl hg m1 m3 n0 n4=>
   rw[ax (by decide+kernel),aB Z,ax (by decide+kernel),aB Z];rw[pF,pF] at hb;have h1:=Ac b hb.1;rw[tP,tP,ug,ug,nR,nR,mX,mX];have e1:=Jl (eQ b) (eB b);have ed:max (eQ b+1) 0=eQ b+1:=by lia
   rw[ed,Nat.add_zero (eB b)];show n.toNat*jY b<=_/\n.toNat*(1+j9 b)+1<=_;have hn:n.toNat<=4:=by lia
   have k1:=Nat.mul_le_mul hn (aK (jY b));have k2:=Nat.mul_le_mul hn (aK (1+j9 b))
   lia
  |fr l t b hl hg=>
   rw[ax (by decide+kernel),ax (by decide+kernel),ax (by decide+kernel),ax (by decide+kernel),aB Z];rw[pF,pF] at hb;have h1:=Ac b hb.1;rw[tP,tP,ug,ug,nR,nR,mX,mX];have e1:=Jl (eQ b) (eB b);have ed:max (eQ b+1) 0=eQ b+1:=by lia
   rw[ed,Nat.add_zero (eB b)];show jY b+0<=_/\1+j9 b+1<=_
   lia
  |sm w ks ps f h n1 n2 n3=>
   rw[ax n1,ax n2,ax n1,ax n2,ax n3,tP,nR,mX];exact⟨cG _,by decide⟩
theorem Ac:∀s:Ds,mD s->jY s<=yO (eQ s) (eB s)/\j9 s<=yO (eQ s) (eB s)
 | .nil,_=>by rw[jY,j9];exact⟨cG _,cG _⟩
 | .cons d r,ok=>by
  rw[mD] at ok;have h1:=Ob d ok.1;have h2:=Ac r ok.2;rw[jY,j9,eQ,eB,<-QI];have c1:yO (mG d) (1+jM d)<=yO (max (mG d) (eQ r)) (1+jM d):=qz (zP _ _) (aK _);have c2:yO (eQ r) (eB r)<=yO (max (mG d) (eQ r)) (eB r):=qz (zm _ _) (aK _)
  lia
theorem Zd:∀b:Bs,pF b->True
 | .nil,_=>True.intro
 | .cons t b r,_=>True.intro
end
theorem zN{d m:Nat}(h1:d<=6)(h2:m<=41):yO d m<=1000000:=aU (qz h1 h2) (by decide)
theorem xL{α:Type}(f:Nat->α)(l:List Nat):(List.range l.length).map (λi=>f (l.getD i 0))=l.map f:=by
 apply zF;intro i;rw[bX,bX];by_cases h:i<l.length
 .rw[qu h,v7 h];simp[eh,h]
 .rw[nz (by rw[o7];lia),nz (by lia)];rfl
theorem wx(l:List Nat):(l.map λk:Nat=>(k:Int)).sum=((l.sum:Nat):Int):=by
 induction l with
 |nil=>rfl
 |cons x r ih=>rw[cP,kP,kP,ih];lia
theorem jaa{α:Type}(f:α->Nat){l:List α}{i:Nat}{x:α}(e:l[i]? =some x):(l.map f).getD i 0=f x:=by
 rw[eh,bX,e];rfl
theorem QC:∀s:Ds,s.l.length<=eB s
 |s=>by rw[BF];lia
theorem Mx{b:Bs}(ok:pF b)(h6:nR b<=6)(hm:mX b<=40):(∀k∈tP b,k<=1000000)/\∀k∈ug b,k<=1000000:=by
 rw[w8,Ep];constructor
 all_goals
  intro k hk;obtain⟨p,hp,rfl⟩:=jC.mp hk;have c:=Ac p.2 (hX ok p hp);have Gv:=h8 p hp;have Oh:=kI p hp;have:=zN (d:=eQ p.2) (m:=eB p.2) (by lia) (by lia)
  lia
noncomputable def nI(k:Nat):V:= .int (k:Int)
theorem Ee(l:List Nat):(l.map λk:Nat=>(k:Int)).map V.int=l.map nI:=by rw[kM];rfl
theorem zU{l:List Nat}(h:∀k∈l,k<=1000000):∀n∈l.map (λk:Nat=>(k:Int)),0<=n/\n<=1000000:=λn hn=>by
 obtain⟨k,hk,rfl⟩:=jC.mp hn;have:=h k hk;constructor<;>lia
theorem P6{H:Hp}{xs:ak}{l:Str}{m n:Int}(h:DatAll H xs [.str l,.int m,.int n]):∃x1 x2,xs=[x1,x2,.int n]:=by
 cases h with
 |cons a r=>
  cases r with
  |cons b r=>
   cases r with
   |cons c r=>
    cases r;cases c;exact⟨_,_,Z⟩
def Mz(n:Nat):Sp:=spS n λt s v H Q=>eB s<=40/\eQ s<=6/\∀H',ah H H'->Q (.int (jY s:Nat)) H'
def adt(n:Nat):Sp:=ur λH0 d v H Q=>mG d<n/\1+jM d<=40/\mG d<=6/\∀H',ah H H'->Q (.int (BD d:Nat)) H'
theorem Ce(T:Txt K mg A)(Fm:wR P w K A fm)(n:Nat)(ih:aT P w K mg base dQ (2+2*n) A.rA A.qD ["body"] (Mz n)):aT P w K mg base dQ (3+2*n) A.wz A.vL ["deed"] (adt (n+1)):=by
 have el:3+2*n=(2+2*n)+1:=by lia
 rw[el];have qC:=fH (P:=P) (w:=w) (base:=base) T Fm;have GL:=ih;refine T.vY.F.ok tO (λvs H Q E h=> ?_) (λcB Ar outer s0 H vs Q E hr h=> ?_)
 .obtain⟨H0,v,d,rfl,_⟩:=h;rfl
 .obtain⟨H0,v,d,rfl,gW,hd,ok,dp,hm,h6,q⟩:=h;obtain⟨a,ks,xs,CL,rfl,p0⟩:=fu hd ok;refine⟨_,(aj (Hv 1 tO.nd ["body"] 1 [] (ff (cI (fH T Fm) hr T.fE aC (aM (pv 0)) (hj:=by lia))) (λ_ _ _ _ _=>⟨(jk 0 (show(["body"]:au).Nodup by decide+kernel)),uU,(cI ih hr T.qB aC (aM (pv 0)) (hj:=by lia))⟩)) (aj (bU (wn cK (cS aN (pv 0) ae) ai) (aq (aH (aL bA ae (iW (DH Z) T.xU Boot.«max» (aM (pv 1)))))) bf) (aj (bU (wn cK (cS aN (pv 0) ae) ai) (aq (aH (aL md (cS aN (pv 0) ae) (cS a8 (pv 1) ae)))) bf) (aq (aH (iW (Bf Z) T.MQ Boot.«sum» (aM (pv 1)))))))),?_⟩;refine⟨_,Z,H0,_,d,Z,gW,hd,ok,λl ys H1 OH s1 hz hB=>⟨l,Z,⟨_,cF.of hz⟩,?_⟩⟩;have bl:=jh hB;have WI:=kq ok;have hdp:=l_ d;have hmn:=qJ d
  have hys:ys.length<=4:=by
   have:=jh p0.hy;have f4:=fR p0.f;rw[bu,gS] at f4
   lia
  refine jx (λ_=>true) (λi=>nI ((tP d.bs).getD i 0)) (fL (cF.of hz)).g (aU hys (by decide)) ?_ λp2 H2 h0 s2 h2=> ?_
  .intro i x H' C1 C0 hi sm hy c1 c0;obtain⟨p,ep,hp⟩:=jO hB hy;have pm:=bD ep;have zo:=hX WI p pm;have Gv:=h8 p pm;have Oh:=kI p pm;have:=c1 rfl;rw[w8,jaa (λp:Bool×Ds=>jY p.2) ep] at this;exact⟨(gJ.refl _).own (by decide),_,Z,x,p.1,p.2,Z,hp.same (gW.trans (s1.trans sm)),zo,by lia,by lia,by lia,this⟩
  .rw[lr.mpr (λ_ _=>rfl),bl,show d.bs.l.length=(tP d.bs).length by rw[w8,a6],xL nI] at h2;have s3:=s1.trans s2;have p:=p0.same (gW.trans s3);have q' :=q H2 s3;have cost:=Mx WI (aU (oJ hdp.symm) h6) (by lia);have hx:=p.hx;have n6:=jh p0.hy;clear hB ih GL qC
   cases jaf ok with
   |ei t b u c=>
    rw[BD,aB Z] at q';simp only[Dd.bs,tP] at h2 q'
    rw[show((1+qy [jY b,jY c]:Nat):Int)=(1:Int)+(if((jY c:Nat):Int)>((jY b:Nat):Int) then((jY c:Nat):Int) else((jY b:Nat):Int)) by
     show((1+max (jY b) (max (jY c) 0):Nat):Int)=_
     split<;>lia] at q'
    exact⟨_,Z,a,_,0,_,Z,Z,bc.of p.e,gU _ _,Z,_,Z,XV ⟨_,Z,p2,_,_,Z,h2,1,_,Z,Z,q'⟩⟩
   |tu l m n t b hl hg m1 m3 n0 n4=>
    rw[BD,ax (by decide+kernel),aB Z] at q';simp only[Dd.bs,tP] at h2 q';obtain⟨x1,x2,rfl⟩:=P6 hx;refine⟨_,Z,a,_,0,_,Z,Z,bc.of p.e,gU _ _,Z,_,Z,dG (dZ (show("turns" :Str)≠ "either" by decide+kernel)) ⟨_,Z,a,_,0,_,Z,Z,bc.of p.e,gU _ _,Z,_,Z,XV ?_⟩⟩;refine⟨_,Z,a,_,3,_,Z,Z,bc.of p.e,bb (j:=3) Z,_,Z,p2,_,0,_,Z,Z,cF.of h2,Z,n,_,Z,Z,.inl ⟨by lia,by lia⟩,?_⟩
    rw[show((X5 [.str l,.int m,.int n]*[jY b].headD 0:Nat):Int)=n*((jY b:Nat):Int) by
     show((n.toNat*jY b:Nat):Int)=_;rw[ze,za n0]] at q'
    exact q'
   |fr l t b hl hg=>
    rw[BD,ax (by decide+kernel),ax (by decide+kernel)] at q';refine⟨_,Z,a,_,0,_,Z,Z,bc.of p.e,gU _ _,Z,_,Z,dG (dZ (show("frame" :Str)≠ "either" by decide+kernel)) ⟨_,Z,a,_,0,_,Z,Z,bc.of p.e,gU _ _,Z,_,Z,dG (dZ (show("frame" :Str)≠ "turns" by decide+kernel)) ?_⟩⟩;rw[<-Ee] at h2;rw[<-wx] at q';exact⟨_,Z,p2,_,Z,h2,by rw[a6,w8,a6];lia,zU cost.1,q'⟩
   |sm w ks ps f h n1 n2 n3=>
    rw[BD,ax n1,ax n2] at q';refine⟨_,Z,a,_,0,_,Z,Z,bc.of p.e,gU _ _,Z,_,Z,dG (dZ n1) ⟨_,Z,a,_,0,_,Z,Z,bc.of p.e,gU _ _,Z,_,Z,dG (dZ n2) ?_⟩⟩;rw[<-Ee] at h2;rw[<-wx] at q';exact⟨_,Z,p2,_,Z,h2,by rw[a6,w8,a6];lia,zU cost.1,q'⟩
theorem Ez(T:Txt K mg A)(Fm:wR P w K A fm)(n:Nat):aT P w K mg base dQ (2+2*n) A.rA A.qD ["body"] (Mz n):=by
 induction n with
 |zero=>exact fg (by rintro vs H Q E ⟨v,t,s,_,_,_,h,_⟩;exact iP _ h)
 |succ n ih=>
 have el:2+2*(n+1)=(3+2*n)+1:=by lia
 rw[el];refine T.qB.F.ok E3 (λvs H Q E h=> ?_) (λcB Ar outer s0 H vs Q E hr h=> ?_)
 .obtain⟨v,t,s,rfl,_⟩:=h;rfl
 .obtain⟨v,t,s,rfl,hd,ok,dp,hm,h6,q⟩:=h;obtain⟨a,vs,rfl,ha,hA⟩:=iI hd;have sl:=QC s;have vl:=tm hA;refine⟨_,(aq (aH (iW (Bf Z) T.MQ Boot.«sum» (aM (KR ["deed"] 1 [] (o_ (pv 0)) (λ_ _ _ _ _=>⟨(jk 0 (show(["deed"]:au).Nodup by decide+kernel)),uU,(cI (Ce T Fm n ih) hr T.vY aC (aM (pv 0)) (hj:=by lia))⟩)))))),?_⟩;refine⟨_,Z,a,t,Z,LW ha,?_⟩;refine jx (λ_=>true) (λi=>nI ((s.l.map BD).getD i 0)) (FR ha).g (aU (show vs.length<=40 by lia) (by decide)) ?_ λp2 H2 h0 s2 h2=> ?_
  .intro i x H' C1 C0 hi sm hy c1 c0;obtain⟨d,ed,tN⟩:=jI hA hy;have dm:=bD ed;have LA:=gI d dm;have PX:=jP d dm;have:=c1 rfl;rw[jaa BD ed] at this;exact⟨(gJ.refl _).own (by decide),_,Z,H,x,d,Z,sm,tN,gF ok d dm,by lia,by lia,by lia,this⟩
  .rw[lr.mpr (λ_ _=>rfl),vl,show s.l.length=(s.l.map BD).length by rw[a6],xL nI] at h2;rw[<-Ee] at h2;have q' :=q H2 s2;rw[Iy,<-wx] at q';refine⟨p2,_,Z,h2,by rw[a6,a6];lia,zU λk hk=> ?_,?_⟩
   .obtain⟨d,dm,rfl⟩:=jC.mp hk;have c:=Ob d (gF ok d dm);have LA:=gI d dm;have PX:=jP d dm;have:=zN (d:=mG d) (m:=1+jM d) (by lia) (by lia)
    lia
   .exact q'
def NY(n:Nat):Sp:=spS n λt s v H Q=>eB s<=40/\eQ s<=6/\∀H',ah H H'->Q (.int (j9 s:Nat)) H'
def abE(n:Nat):Sp:=ur λH0 d v H Q=>mG d<n/\1+jM d<=40/\mG d<=6/\∀H',ah H H'->Q (.int (Ba d:Nat)) H'
theorem EV(T:Txt K mg A)(Fm:wR P w K A fm)(n:Nat)(ih:aT P w K mg base dQ (2+2*n) A.oU A.oi ["body"] (NY n)):aT P w K mg base dQ (3+2*n) A.xT A.xK ["deed"] (abE (n+1)):=by
 have el:3+2*n=(2+2*n)+1:=by lia
 rw[el];have qC:=fH (P:=P) (w:=w) (base:=base) T Fm;have EH:=ih;refine T.yu.F.ok wB (λvs H Q E h=> ?_) (λcB Ar outer s0 H vs Q E hr h=> ?_)
 .obtain⟨H0,v,d,rfl,_⟩:=h;rfl
 .obtain⟨H0,v,d,rfl,gW,hd,ok,dp,hm,h6,q⟩:=h;obtain⟨a,ks,xs,CL,rfl,p0⟩:=fu hd ok;refine⟨_,(aj (Hv 1 wB.nd ["body"] 1 [] (ff (cI (fH T Fm) hr T.fE aC (aM (pv 0)) (hj:=by lia))) (λ_ _ _ _ _=>⟨(jk 0 (show(["body"]:au).Nodup by decide+kernel)),uU,(cI ih hr T.oh aC (aM (pv 0)) (hj:=by lia))⟩)) (aj (bU (wn cK (cS aN (pv 0) ae) ai) (aq (aH (aL bA ae (iW (DH Z) T.xU Boot.«max» (aM (pv 1)))))) bf) (aj (bU (wn cK (cS aN (pv 0) ae) ai) (aq (aH (aL bA (aL md (cS aN (pv 0) ae) (aL bA ae (cS a8 (pv 1) ae))) ae))) bf) (aj (bU (wn cK (cS aN (pv 0) ae) ai) (aq (aH (aL bA (aL bA ae (cS a8 (pv 1) ae)) ae))) bf) (aq (aH ae)))))),?_⟩;refine⟨_,Z,H0,_,d,Z,gW,hd,ok,λl ys H1 OH s1 hz hB=>⟨l,Z,⟨_,cF.of hz⟩,?_⟩⟩;have bl:=jh hB;have WI:=kq ok;have hdp:=l_ d;have hmn:=qJ d
  have hys:ys.length<=4:=by
   have:=jh p0.hy;have f4:=fR p0.f;rw[bu,gS] at f4
   lia
  refine jx (λ_=>true) (λi=>nI ((ug d.bs).getD i 0)) (fL (cF.of hz)).g (aU hys (by decide)) ?_ λp2 H2 h0 s2 h2=> ?_
  .intro i x H' C1 C0 hi sm hy c1 c0;obtain⟨p,ep,hp⟩:=jO hB hy;have pm:=bD ep;have zo:=hX WI p pm;have Gv:=h8 p pm;have Oh:=kI p pm;have:=c1 rfl;rw[Ep,jaa (λp:Bool×Ds=>j9 p.2) ep] at this;exact⟨(gJ.refl _).own (by decide),_,Z,x,p.1,p.2,Z,hp.same (gW.trans (s1.trans sm)),zo,by lia,by lia,by lia,this⟩
  .rw[lr.mpr (λ_ _=>rfl),bl,show d.bs.l.length=(ug d.bs).length by rw[Ep,a6],xL nI] at h2;have s3:=s1.trans s2;have p:=p0.same (gW.trans s3);have q' :=q H2 s3;have cost:=Mx WI (aU (oJ hdp.symm) h6) (by lia);have hx:=p.hx;have n6:=jh p0.hy;clear hB ih EH qC
   cases jaf ok with
   |ei t b u c=>
    rw[Ba,aB Z] at q';simp only[Dd.bs,ug] at h2 q'
    rw[show((1+qy [j9 b,j9 c]:Nat):Int)=(1:Int)+(if((j9 c:Nat):Int)>((j9 b:Nat):Int) then((j9 c:Nat):Int) else((j9 b:Nat):Int)) by
     show((1+max (j9 b) (max (j9 c) 0):Nat):Int)=_
     split<;>lia] at q'
    exact⟨_,Z,a,_,0,_,Z,Z,bc.of p.e,gU _ _,Z,_,Z,XV ⟨_,Z,p2,_,_,Z,h2,1,_,Z,Z,q'⟩⟩
   |tu l m n t b hl hg m1 m3 n0 n4=>
    rw[Ba,ax (by decide+kernel),aB Z] at q';simp only[Dd.bs,ug] at h2 q';obtain⟨x1,x2,rfl⟩:=P6 hx;refine⟨_,Z,a,_,0,_,Z,Z,bc.of p.e,gU _ _,Z,_,Z,dG (dZ (show("turns" :Str)≠ "either" by decide+kernel)) ⟨_,Z,a,_,0,_,Z,Z,bc.of p.e,gU _ _,Z,_,Z,XV ?_⟩⟩;refine⟨_,Z,a,_,3,_,Z,Z,bc.of p.e,bb (j:=3) Z,_,Z,p2,_,0,_,Z,Z,cF.of h2,Z,1,_,Z,Z,n,_,Z,Z,.inl ⟨by lia,by lia⟩,_,1,Z,Z,?_⟩
    rw[show((X5 [.str l,.int m,.int n]*(1+[j9 b].headD 0)+1:Nat):Int)=n*(1+((j9 b:Nat):Int))+1 by
     show((n.toNat*(1+j9 b)+1:Nat):Int)=_;rw[sg,ze,za n0];rfl] at q'
    exact q'
   |fr l t b hl hg=>
    rw[Ba,ax (by decide+kernel),ax (by decide+kernel),aB Z] at q';simp only[Dd.bs,ug] at h2 q';refine⟨_,Z,a,_,0,_,Z,Z,bc.of p.e,gU _ _,Z,_,Z,dG (dZ (show("frame" :Str)≠ "either" by decide+kernel)) ⟨_,Z,a,_,0,_,Z,Z,bc.of p.e,gU _ _,Z,_,Z,dG (dZ (show("frame" :Str)≠ "turns" by decide+kernel)) ⟨_,Z,a,_,0,_,Z,Z,bc.of p.e,gU _ _,Z,_,Z,XV ?_⟩⟩⟩;refine⟨_,Z,p2,_,0,_,Z,Z,cF.of h2,Z,1,_,Z,Z,_,1,Z,Z,?_⟩;exact q'
   |sm w ks ps f h n1 n2 n3=>
    rw[Ba,ax n1,ax n2,ax n3] at q';exact⟨_,Z,a,_,0,_,Z,Z,bc.of p.e,gU _ _,Z,_,Z,dG (dZ n1) ⟨_,Z,a,_,0,_,Z,Z,bc.of p.e,gU _ _,Z,_,Z,dG (dZ n2) ⟨_,Z,a,_,0,_,Z,Z,bc.of p.e,gU _ _,Z,_,Z,dG (dZ n3) q'⟩⟩⟩
theorem Cj(T:Txt K mg A)(Fm:wR P w K A fm)(n:Nat):aT P w K mg base dQ (2+2*n) A.oU A.oi ["body"] (NY n):=by
 induction n with
 |zero=>exact fg (by rintro vs H Q E ⟨v,t,s,_,_,_,h,_⟩;exact iP _ h)
 |succ n ih=>
 have el:2+2*(n+1)=(3+2*n)+1:=by lia
 rw[el];refine T.oh.F.ok Cr (λvs H Q E h=> ?_) (λcB Ar outer s0 H vs Q E hr h=> ?_)
 .obtain⟨v,t,s,rfl,_⟩:=h;rfl
 .obtain⟨v,t,s,rfl,hd,ok,dp,hm,h6,q⟩:=h;obtain⟨a,vs,rfl,ha,hA⟩:=iI hd;have sl:=QC s;have vl:=tm hA;refine⟨_,(aq (aH (iW (Bf Z) T.MQ Boot.«sum» (aM (KR ["deed"] 1 [] (o_ (pv 0)) (λ_ _ _ _ _=>⟨(jk 0 (show(["deed"]:au).Nodup by decide+kernel)),uU,(cI (EV T Fm n ih) hr T.yu aC (aM (pv 0)) (hj:=by lia))⟩)))))),?_⟩;refine⟨_,Z,a,t,Z,LW ha,?_⟩;refine jx (λ_=>true) (λi=>nI ((s.l.map Ba).getD i 0)) (FR ha).g (aU (show vs.length<=40 by lia) (by decide)) ?_ λp2 H2 h0 s2 h2=> ?_
  .intro i x H' C1 C0 hi sm hy c1 c0;obtain⟨d,ed,tN⟩:=jI hA hy;have dm:=bD ed;have LA:=gI d dm;have PX:=jP d dm;have:=c1 rfl;rw[jaa Ba ed] at this;exact⟨(gJ.refl _).own (by decide),_,Z,H,x,d,Z,sm,tN,gF ok d dm,by lia,by lia,by lia,this⟩
  .rw[lr.mpr (λ_ _=>rfl),vl,show s.l.length=(s.l.map Ba).length by rw[a6],xL nI] at h2;rw[<-Ee] at h2;have q' :=q H2 s2;rw[Ik,<-wx] at q';refine⟨p2,_,Z,h2,by rw[a6,a6];lia,zU λk hk=> ?_,?_⟩
   .obtain⟨d,dm,rfl⟩:=jC.mp hk;have c:=Ob d (gF ok d dm);have LA:=gI d dm;have PX:=jP d dm;have:=zN (d:=mG d) (m:=1+jM d) (by lia) (by lia)
    lia
   .exact q'
mutual
inductive i3 (H:Hp):V->U'->Prop
 |bp:i3 H .bp .none
 |int (i:Int):i3 H (.int i) (.int i)
 |str (x:Str):i3 H (.str x) (.str x)
 |tup {a:S'} {xs:ak} {ds:List U'} (e:H a=some (.tup xs)) (h:bI H xs ds):i3 H (.ref a) (.tuple ds)
inductive bI (H:Hp):ak->List U'->Prop
 |nil:bI H [] []
 |cons {x:V} {xs:ak} {d:U'} {ds:List U'} (h:i3 H x d) (t:bI H xs ds):bI H (x::xs) (d::ds)
end
mutual
theorem i3.dat{H:Hp}:∀{v:V} {d:U'},i3 H v d->Dat H v d
 |_,_,.bp=> .bp
 |_,_,.int i=> .int i
 |_,_,.str x=> .str x
 |_,_,.tup e h=> .tup e (bI.dat h)
theorem bI.dat{H:Hp}:∀{xs:ak} {ds:List U'},bI H xs ds->DatAll H xs ds
 |_,_,.nil=> .nil
 |_,_,.cons h t=> .cons (i3.dat h) (bI.dat t)
end
mutual
theorem i3.kt{H H' :Hp}(k:∀c xs,H c=some (.tup xs)->H' c=some (.tup xs)):∀{v:V} {d:U'},i3 H v d->i3 H' v d
 |_,_,.bp=> .bp
 |_,_,.int i=> .int i
 |_,_,.str x=> .str x
 |_,_,.tup e h=> .tup (k _ _ e) (bI.kt k h)
theorem bI.kt{H H' :Hp}(k:∀c xs,H c=some (.tup xs)->H' c=some (.tup xs)):∀{xs:ak} {ds:List U'},bI H xs ds->bI H' xs ds
 |_,_,.nil=> .nil
 |_,_,.cons h t=> .cons (i3.kt k h) (bI.kt k t)
end
theorem bI.append{H:Hp}:∀{xs ys:ak} {ds es:List U'},bI H xs ds->bI H ys es->bI H (xs++ys) (ds++es)
 |_,_,_,_,.nil,h=>h
 |_,_,_,_,.cons a t,h=> .cons a (t.append h)
mutual
noncomputable def vX:Dd->Dd
 | .mk w ps bs=> .mk w ps (BM bs)
noncomputable def nE:Ds->Ds
 | .nil=> .nil
 | .cons d r=> .cons (vX d) (nE r)
noncomputable def BM:Bs->Bs
 | .nil=> .nil
 | .cons _ b r=> .cons true (nE b) (BM r)
end
theorem SV:∀s:Ds,(nE s).l=s.l.map vX
 | .nil=>by rw[nE];rfl
 | .cons d r=>by rw[nE];show vX d::(nE r).l=_;rw[SV r];rfl
theorem OD:∀b:Bs,(BM b).l=b.l.map λp=>(true,nE p.2)
 | .nil=>by rw[BM];rfl
 | .cons t b r=>by rw[BM];show(true,nE b)::(BM r).l=_;rw[OD r];rfl
theorem IS(d:Dd):dD (vX d)= .tuple (.str d.wd::(d.ps++d.bs.l.map λp=> .tuple (sL (nE p.2)))):=by
 cases d with
 |mk w ps bs=>
  rw[vX,dD,Ge,OD,kM];rfl
theorem NQ{H:Hp}{k:Str}{v:V}{d:U'}(h:zO k d){H' :Hp}(hd:Dat H v d):i3 H' v d:=by
 cases h<;>cases hd<;>constructor
noncomputable def Te(d:Dd):List U':=d.ps++d.bs.l.map λp=> .tuple (sL (nE p.2))
theorem bI.snoc{H:Hp}{xs:ak}{ds:List U'}{v:V}{d:U'}(h:bI H xs ds)(g:i3 H v d):bI H (xs++[v]) (ds++[d]):=h.append (.cons g .nil)
theorem wP{α:Type}{l:List α}{i:Nat}{x:α}(e:l[i]? =some x):l.take (i+1)=l.take i++[x]:=by
 rw[rG,e];rfl
theorem Bu{H:Hp}:∀{xs:ak} {ds:List U'},bI H xs ds->xs.length=ds.length
 |_,_,.nil=>rfl
 |_,_,.cons _ t=>by rw[bB,bB,Bu t]
def NB(c:S')(qn:Str):Sp:=λvs H Q _=>∃i v,vs=[.int i,v]/\H c=some (.ext (iG c qn))/\∀l,H l=none->Q (.ref l) (upd H l (.lst [v]))
def JS(f c:S')(qn:Str)(n:Nat):Sp:=λvs H Q _=>∃H0 v t s,∃i:Int,vs=[v,.ref f,.int i]/\ah H0 H/\Dat H0 v (iS t (sL s))/\mD s/\eQ s<n/\eB s<=1000/\H c=some (.ext (iG c qn))/\
 ∀tt H',H tt=none->ah H H'->i3 H' (.ref tt) (.tuple (sL (nE s)))->Q (.ref tt) H'
def XR(f c:S')(qn:Str)(n:Nat):Sp:=λvs H Q _=>∃H0 v d,∃i:Int,vs=[v,.ref f,.int i]/\ah H0 H/\Dat H0 v (dD d)/\mv d/\mG d<n/\jM d<=1000/\H c=some (.ext (iG c qn))/\
 ∀tt H',H tt=none->ah H H'->i3 H' (.ref tt) (dD (vX d))->Q (.ref tt) H'
theorem Ae(T:Txt K mg A)(Fm:wR P w K A fm){f c:S'}{qn:Str}(n:Nat)(ih:aT P w K mg base dQ (3+2*n) A.mL A.eG ["body","change","first"] (JS f c qn n)):
 aT P w K mg base dQ (4+2*n) A.tS A.tZ ["deed","change","first"] (XR f c qn (n+1)):=by
 have el:4+2*n=(3+2*n)+1:=by lia
 rw[el];refine T.tD.F.ok fq (λvs H Q E h=> ?_) (λcB Ar outer s0 H vs Q E hr h=> ?_)
 .obtain⟨H0,v,d,i,rfl,_⟩:=h;rfl
 .obtain⟨H0,v,d,i,rfl,gW,hd,ok,dp,hm,hc,q⟩:=h;obtain⟨a,ks,xs,ys,rfl,p0⟩:=fu hd ok;have p:=p0.same gW;have bl:=jh p0.hy;have WI:=kq ok;have hdp:=l_ d;have hmn:=qJ d;have hlx:=p.lx;have hlp:=fN p.hx;have h4:=fR p.f;have hl:=p.len;refine⟨_,(aj (gf 3 fq.nd (bH (aM (cS aN (pv 0) ae)))) (aj (gf 4 fq.nd (pv 2)) (aj (AV (ff (cI (mI T Fm) hr T.lO aC (aM (pv 0)) (hj:=by lia))) (w4 Z (cY (jk 5 fq.nd) (cY (jk 6 fq.nd) mT))) (aq (bU (wn cK (pv 5) ai) (aj (bW (mz gP D' F' dB (pv 3) (aM (afq ih hr T.mW aC (ag (pv 6) (ag (pv 1) (aM (pv 4)))) (hj:=by lia))))) (aq (Jd (i:=4) fq.nd Z (Or.inl Z) (cI (uf T Fm n) hr T.nN aC (aM (pv 6)) (hj:=by lia)) HG))) (aq (bW (mz gP D' F' dB (pv 3) (aM (pv 6)))))))) (aq (aH (Ox eL T.iX Boot.«tuple» (aM (pv 3)))))))),?_⟩;refine⟨_,Z,a,_,0,_,Z,Z,bc.of p.e,gU _ _,y8,λpl ng=>⟨_,Z,?_⟩⟩;have s1:=ah.upd (o:= .lst [V.str d.wd]) ng;have Wk:upd H pl (.lst [V.str d.wd]) pl=some (.lst [V.str d.wd]):=af;generalize upd H pl (.lst [V.str d.wd])=H1 at s1 Wk ⊢;refine⟨_,Z,a,d.wd,_,_,Z,s1 _ _ p.e,p.f,p.len,λl zs H2 n6 s2 hz zp=>⟨l,Z,⟨_,cF.of hz⟩,?_⟩⟩;have VM:zs.length=(ks++List.replicate ys.length ("body" :Str)).length:=by rw[zp.len,a6]
  have aeI:l≠pl:=(aA Wk n6).symm;have w_:=s1.trans s2;have YQ:=s2 _ _ Wk;rw[bu,gS] at h4 VM;refine i0 (K:=K) (a:=l) (xs:=zs) (λj σ H' =>∃(x5 x6:Option V) (k:Int) (ws:ak),σ=[some (.ref a),some (.ref f),some (.int i),some (.ref pl),some (.int k),x5,x6]/\Kept pl H2 H'/\H' pl=some (.lst ws)/\bI H' ws (.str d.wd::(Te d).take j)) ⟨_,_,i,_,Z,Kept.refl _ _,YQ,.cons (.str _) .nil⟩ (by rintro i σ H' _ ⟨_,_,_,_,_,k,_⟩;exact cF.of (k _ _ aeI hz)) ?_ ?_
  .rintro j z σ H' hj ⟨x5,x6,k,ws,rfl,kp,FZ,tw⟩
   have hjl:=(c9.mp hj).1;obtain⟨tt,x,y,rfl,hT,e1,e2⟩:=jac zp (by rw[a6];exact p.len) hj;rw[bX] at e1;have L1 :=kp _ _ (dw YQ hT (λz=>nomatch z)).symm hT;have SH:ah H H' :=λc o e=>kp c o (aA e ng) (w_ _ _ e);have wl:=Bu tw
   have wl4:ws.length<=5:=by
    rw[wl,bB,lW]
    lia
   cases ek:(ks++List.replicate ys.length ("body" :Str))[j]? with
   |none=>rw[ek] at e1;cases e1
   |some k' =>
    rw[ek] at e1;cases e1;refine⟨tt,_,Z,bc.of L1,Z,_,_,Z,_,_,Z,Z,_,Z,Z,_,Z,?_⟩;by_cases hb:xs.length<=j
    .rw[km (by lia),vN] at ek;rw[km hb] at e2
     split at ek
     .cases ek;obtain⟨pp,ep,hp⟩:=jO p0.hy e2;have pm:=bD ep;have zo:=hX WI pp pm;have Gv:=h8 pp pm;have Oh:=kI pp pm
      have ej:(Te d)[j]? =some (.tuple (sL (nE pp.2))):=by
       unfold Te;rw[km (by lia),bX,<-hlp,ep];rfl
      refine XV ⟨_,Z,JT FZ,_,Z,_,Z,_,Z,H0,y,pp.1,pp.2,k,Z,gW.trans SH,hp,zo,by lia,by lia,SH _ _ hc,λt1 H3 uG s3 td=>⟨pl,ws,_,Z,Z,s3 _ _ FZ,jc wl4 (by decide),?_⟩⟩;have aeb:=s3 _ _ FZ;have kt:=KT.upd (o:= .lst (ws++[.ref t1])) aeb;refine⟨_,Z,_,Z,y,pp.1,pp.2,Z,hp.same (λc o e=> ?_),zo,by lia,λH4 s4=>⟨_,_,Z,Z,_,_,_,ws++[.ref t1],Z,?_,s4 _ _ af,?_⟩⟩
      .rw[az (aA (gW _ _ e) ng)];exact s3 _ _ (SH _ _ (gW _ _ e))
      .exact λc o hc e=>s4 _ _ (by rw[az hc];exact s3 _ _ (kp c o hc e))
      .rw[wP ej];exact(((tw.kt (KT.same s3)).snoc td).kt kt).kt (KT.same s4)
     .cases ek
    .rw[ip (by lia)] at ek;rw[ip (by lia)] at e2;obtain⟨d',f1,f2⟩:=lJ p0.hx j y e2;have ft:=A3 p0.fit j k' d' ek f1
     have ej:(Te d)[j]? =some d' :=by
      unfold Te;rw[ip (by lia)];exact f1
     refine dG (dZ (Hu ft)) ⟨_,Z,JT FZ,_,Z,pl,ws,_,Z,Z,FZ,jc wl4 (by decide),_,_,_,ws++[y],Z,?_,af,?_⟩
     .exact λc o hc e=>by
       rw[az hc];exact kp c o hc e
     .rw[wP ej];exact(tw.snoc (NQ ft f2)).kt (KT.upd FZ)
  .rintro σ H' ⟨x5,x6,k,ws,rfl,kp,FZ,tw⟩
   refine⟨_,Z,pl,ws,Z,.inl ⟨cF.of FZ,λtt EM=> ?_⟩⟩;have SH:ah H H' :=λc o e=>kp c o (aA e ng) (w_ _ _ e);refine q tt _ (SH.free EM) (SH.trans (ah.upd EM)) ?_;rw[IS]
   have el2:(Te d).take zs.length=Te d:=oq (by
    unfold Te;rw[bu,a6]
    lia)
   rw[el2] at tw;exact .tup af (tw.kt (KT.same (ah.upd EM)))
theorem JY(s:Ds):sL (nE s)=s.l.map λd=>dD (vX d):=by rw[Gr,SV,kM];rfl
theorem Fb(T:Txt K mg A)(Fm:wR P w K A fm){f c:S'}{qn:Str}{YY QG :aad}(VC:aT P w K mg base dQ 1 f YY ["number","deed"] (NB c qn))(WD:∃oc od sl,base.get? f=some ⟨oc,od,.func QG,sl⟩)(Vn:Binds K YY ["number","deed"] [])(n:Nat):
 aT P w K mg base dQ (3+2*n) A.mL A.eG ["body","change","first"] (JS f c qn n):=by
 induction n with
 |zero=>exact fg (by rintro vs H Q E ⟨H0,v,t,s,i,_,_,_,_,h,_⟩;exact iP _ h)
 |succ n ih=>
 have K2:aT P w K mg base dQ (2+(n+1)) A.wX A.xa ["body"] (OJ (n+1)):=uf T Fm (n+1);have el:3+2*(n+1)=(4+2*n)+1:=by lia
 rw[el];refine T.mW.F.ok iT (λvs H Q E h=> ?_) (λcB Ar outer s0 H vs Q E hr h=> ?_)
 .obtain⟨H0,v,t,s,i,rfl,_⟩:=h;rfl
 .obtain⟨H0,v,t,s,i,rfl,gW,hd,ok,dp,hm,hc,q⟩:=h;obtain⟨a,vs,rfl,ha,hA⟩:=iI hd;have sl:=QC s;have vl:=tm hA;have LX:(1000:Nat)<=sizeLine:=by decide
  refine⟨_,(aj (gf 3 iT.nd (bH dY)) (aj (gf 4 iT.nd (pv 2)) (aj (AV (o_ (pv 0)) (jk 5 iT.nd) (aj (bW (mz gP zh type_list_extend wW (pv 3) (aM (Nn VC WD hr Vn aC (pv 1) (ag (pv 4) (aM (cI (Ae T Fm n ih) hr T.tD aC (ag (pv 5) (ag (pv 1) (aM (aL bA (pv 4) ae)))) (hj:=by lia)))) (hj:=by lia))))) (aq (Jd (i:=4) iT.nd Z (Or.inl Z) (cI K2 hr T.nN aC (aM (bt (aM (pv 5)))) (hj:=by lia)) HG)))) (aq (aH (Ox eL T.iX Boot.«tuple» (aM (pv 3)))))))),?_⟩;refine⟨m7,λtl htl=>⟨_,Z,_,Z,a,t,Z,LW (ah.upd htl _ _ (gW _ _ ha)),?_⟩⟩;refine nt (K:=K) (t:=t) (a:=a) (xs:=vs) (λj σ H' =>∃(x5:Option V) (k:Int) (ws:ak),σ=[some (.ref a),some (.ref f),some (.int i),some (.ref tl),some (.int k),x5]/\ah H H'/\H' tl=some (.lst ws)/\bI H' ws ((sL (nE s)).take j)) ⟨_,i,[],Z,ah.upd htl,af,.nil⟩ (by rintro j σ H' _ ⟨_,_,_,_,sm,_⟩;exact sm _ _ (gW _ _ ha)) ?_ ?_
  .rintro j x σ H' hx ⟨x5,k,ws,rfl,sm,Ib,tw⟩
   obtain⟨d,ed,tN⟩:=jI hA hx;have dm:=bD ed;have lu:=gF ok d dm;have LA:=gI d dm;have PX:=jP d dm;have wl:=Bu tw;rw[lW] at wl;have hj:=(c9.mp hx).1
   have ej:(sL (nE s))[j]? =some (dD (vX d)):=by
    rw[JY,bX,ed];rfl
   refine⟨_,Z,JT Ib,_,Z,Z,_,Z,_,Z,_,Z,_,Z,k,1,Z,Z,H0,x,d,k+1,Z,gW.trans sm,tN,lu,by lia,by lia,sm _ _ hc,λt1 H1 uG s1 td=> ?_⟩;refine⟨k,_,Z,s1 _ _ (sm _ _ hc),λl hl=>⟨tl,l,ws,[.ref t1],Z,Z,ah.upd hl _ _ (s1 _ _ Ib),af,by simp only[Fg];lia,?_⟩⟩;have afK:=ah.upd (o:= .lst [V.ref t1]) hl _ _ (s1 _ _ Ib);have kt:KT H1 (upd (upd H1 l (.lst [V.ref t1])) tl (.lst (ws++[.ref t1]))):=(KT.same (ah.upd hl)).trans (KT.upd afK);have S2:ah H (upd (upd H1 l (.lst [V.ref t1])) tl (.lst (ws++[.ref t1]))):=fh htl ((sm.trans s1).trans (ah.upd hl));have Z4:upd (upd H1 l (.lst [V.ref t1])) tl (.lst (ws++[.ref t1])) tl=some (.lst (ws++[.ref t1])):=af;generalize upd (upd H1 l (.lst [V.ref t1])) tl (.lst (ws++[.ref t1]))=H2 at kt S2 Z4 ⊢;refine⟨_,Z,_,Z,y8,λt2 wU=> ?_⟩;have s3:=ah.upd (o:= .tup [x]) wU;refine⟨_,true,.cons d .nil,Z,?_,?_,?_,λH4 s4=>⟨_,_,Z,Z,_,_,ws++[.ref t1],Z,S2.trans (s3.trans s4),s4 _ _ (s3 _ _ Z4),?_⟩⟩
   .rw[sL,sL];exact .tup af (.cons (tN.same ((gW.trans S2).trans s3)) .nil)
   .rw[mD,mD];exact⟨lu,True.intro⟩
   .rw[eQ,eQ]
    lia
   .rw[wP ej];exact(((tw.kt (KT.same s1)).snoc td).kt kt).kt (KT.same (s3.trans s4))
  .rintro σ H' ⟨x5,k,ws,rfl,sm,Ib,tw⟩
   refine⟨_,Z,tl,ws,Z,.inl ⟨cF.of Ib,λtt EM=> ?_⟩⟩;refine q tt _ (sm.free EM) (sm.trans (ah.upd EM)) ?_;rw[vl,oq (by rw[JY,a6];exact aK _)] at tw;exact .tup af (tw.kt (KT.same (ah.upd EM)))
def acS(K:Frag):Sp:=λvs H Q _=>∃a C dd n x,vs=[.ref a,x]/\H a=some (.ext (eW a C dd n))/\ExcC K C/\Q .bp H
theorem bO(T:Txt K mg A):aT P w K mg base dQ 1 A.eI A.j8 ["self","text"] (acS K):=by
 refine T.bK.F.vc pH ?_
 rintro cB Ar outer s H vs Q E hr ⟨a,C,dd,n,x,rfl,ea,hc,k⟩
 refine⟨_,(aq (bW (Nm Z T.Fj (ag (pv 0) (aM (pv 1)))))),?_⟩;exact⟨_,Z,_,Z,a,C,dd,n,x,Z,ea,hc,k⟩
def GQ(C:S')(fd:Str):Sp:=λvs H Q _=>∃a x,vs=[.ref a,x]/\H a=some (.ext (eW a C none true))/\∀dx,H dx=none->dx≠a->Q .bp (upd (upd H a (.ext (eW a C (some dx) true))) dx (.xd [(fd,x)]))
theorem sE(T:Txt K mg A):aT P w K mg base dQ 2 A.ir A.lq ["self","many"] (GQ A.gD "many"):=by
 refine T.mq.F.vc sy ?_
 rintro cB Ar outer s H vs Q E hr ⟨a,x,rfl,ea,k⟩
 refine⟨_,(aj (bW (lK T.bS Z T.gg.m ((bO T).mono (by decide)) hr T.bK.b .nil aC (ag (pv 0) (aM ai)))) (aq (oM (pv 0) (pv 1) Z))),?_⟩;refine⟨_,Z,a,A.gD,none,true,_,Z,ea,T.gH.X.toExcC,?_⟩;exact⟨_,Z,_,Z,a,A.gD,true,Z,T.gH.e,T.qE,.inl ⟨ea,λdx hn ne=>k dx hn ne⟩⟩
theorem sM(T:Txt K mg A):aT P w K mg base dQ 2 A.ij A.lh ["self","depth"] (GQ A.gK "depth"):=by
 refine T.lZ.F.vc sH ?_
 rintro cB Ar outer s H vs Q E hr ⟨a,x,rfl,ea,k⟩
 refine⟨_,(aj (bW (lK T.bS Z T.gg.m ((bO T).mono (by decide)) hr T.bK.b .nil aC (ag (pv 0) (aM ai)))) (aq (oM (pv 0) (pv 1) Z))),?_⟩;refine⟨_,Z,a,A.gK,none,true,_,Z,ea,T.fQ.X.toExcC,?_⟩;exact⟨_,Z,_,Z,a,A.gK,true,Z,T.fQ.e,T.ph,.inl ⟨ea,λdx hn ne=>k dx hn ne⟩⟩
theorem sN(T:Txt K mg A):aT P w K mg base dQ 2 A.ix A.lY ["self","many"] (GQ A.gx "many"):=by
 refine T.lj.F.vc sU ?_
 rintro cB Ar outer s H vs Q E hr ⟨a,x,rfl,ea,k⟩
 refine⟨_,(aj (bW (lK T.bS Z T.gg.m ((bO T).mono (by decide)) hr T.bK.b .nil aC (ag (pv 0) (aM ai)))) (aq (oM (pv 0) (pv 1) Z))),?_⟩;refine⟨_,Z,a,A.gx,none,true,_,Z,ea,T.dS.X.toExcC,?_⟩;exact⟨_,Z,_,Z,a,A.gx,true,Z,T.dS.e,T.pP,.inl ⟨ea,λdx hn ne=>k dx hn ne⟩⟩
theorem sJ(T:Txt K mg A):aT P w K mg base dQ 2 A.ik A.lE ["self","many"] (GQ A.gw "many"):=by
 refine T.lN.F.vc sG ?_
 rintro cB Ar outer s H vs Q E hr ⟨a,x,rfl,ea,k⟩
 refine⟨_,(aj (bW (lK T.bS Z T.gg.m ((bO T).mono (by decide)) hr T.bK.b .nil aC (ag (pv 0) (aM ai)))) (aq (oM (pv 0) (pv 1) Z))),?_⟩;refine⟨_,Z,a,A.gw,none,true,_,Z,ea,T.dF.X.toExcC,?_⟩;exact⟨_,Z,_,Z,a,A.gw,true,Z,T.dF.e,T.pV,.inl ⟨ea,λdx hn ne=>k dx hn ne⟩⟩
theorem vo(T:Txt K mg A):aT P w K mg base dQ 2 A.jB A.nF ["self","label"] (GQ A.kJ "label"):=by
 refine T.nM.F.vc wy ?_
 rintro cB Ar outer s H vs Q E hr ⟨a,x,rfl,ea,k⟩
 refine⟨_,(aj (bW (lK T.bS Z T.gg.m ((bO T).mono (by decide)) hr T.bK.b .nil aC (ag (pv 0) (aM ai)))) (aq (oM (pv 0) (pv 1) Z))),?_⟩;refine⟨_,Z,a,A.kJ,none,true,_,Z,ea,T.iV.X.toExcC,?_⟩;exact⟨_,Z,_,Z,a,A.kJ,true,Z,T.iV.e,T.tY,.inl ⟨ea,λdx hn ne=>k dx hn ne⟩⟩
theorem sD(T:Txt K mg A):aT P w K mg base dQ 2 A.ie A.lV ["self","label"] (GQ A.gy "label"):=by
 refine T.l0.F.vc sC ?_
 rintro cB Ar outer s H vs Q E hr ⟨a,x,rfl,ea,k⟩
 refine⟨_,(aj (bW (lK T.bS Z T.gg.m ((bO T).mono (by decide)) hr T.bK.b .nil aC (ag (pv 0) (aM ai)))) (aq (oM (pv 0) (pv 1) Z))),?_⟩;refine⟨_,Z,a,A.gy,none,true,_,Z,ea,T.eD.X.toExcC,?_⟩;exact⟨_,Z,_,Z,a,A.gy,true,Z,T.eD.e,T.pk,.inl ⟨ea,λdx hn ne=>k dx hn ne⟩⟩
theorem lI(T:Txt K mg A):aT P w K mg base dQ 2 A.i_ A.mP ["self","found"] (GQ A.iO "found"):=by
 refine T.iY.F.vc uB ?_
 rintro cB Ar outer s H vs Q E hr ⟨a,x,rfl,ea,k⟩
 refine⟨_,(aj (bW (lK T.bS Z T.gg.m ((bO T).mono (by decide)) hr T.bK.b .nil aC (ag (pv 0) (aM ai)))) (aq (oM (pv 0) (pv 1) Z))),?_⟩;refine⟨_,Z,a,A.iO,none,true,_,Z,ea,T.hV.X.toExcC,?_⟩;exact⟨_,Z,_,Z,a,A.iO,true,Z,T.hV.e,T.qX,.inl ⟨ea,λdx hn ne=>k dx hn ne⟩⟩
theorem p_{K:Frag}{C:S'}{fd:Str}{k:Ends}{σ:L2.St}{v:V}{H:Hp}{E:XK}{t:TA}(hc:ExcC K C)(ht:∀Q:ak->Hp->Prop,Q [v] H->t σ H Q)
 (r:∀dx H2,ah H H2->H2 dx=some (.xd [(fd,v)])->E (.ref C) (some dx) H2):Of K E (Jb C (GQ C fd) E0 t) k σ H:=by
 refine ht _ λx hx=>⟨x,v,Z,af,λdx JP ne=>⟨Z,x,C,some dx,Z,(by rw[az (λz=>ne z.symm),af]),hc,r dx _ (λc o e=> ?_) ?_⟩⟩
 .have hd:H dx=none:=by rw[az ne] at JP;exact JP
  rw[az (aA e hx),az (aA e hd),az (aA e hx),az (aA e hx)];exact e
 .rw[az ne,af]
inductive Rf
 |many (n:Nat)
 |deep (n:Nat)
 |twice (l:Str)
 |qc (l:Str)
 |wide (n:Nat)
 |long (n:Nat)
 |sO (v:V)
noncomputable def Rf.cls(A:nT):Rf->S'
 | .many _=>A.gD
 | .deep _=>A.gK
 | .twice _=>A.kJ
 | .qc _=>A.gy
 | .wide _=>A.gx
 | .long _=>A.gw
 | .sO _=>A.iO
noncomputable def Rf.fd:Rf->Str
 | .many _=>"many"
 | .deep _=>"depth"
 | .twice _=>"label"
 | .qc _=>"label"
 | .wide _=>"many"
 | .long _=>"many"
 | .sO _=>"found"
noncomputable def Rf.v:Rf->V
 | .many n=>nI n
 | .deep n=>nI n
 | .twice l=> .str l
 | .qc l=> .str l
 | .wide n=>nI n
 | .long n=>nI n
 | .sO v=>v
def Raises(A:nT)(H:Hp)(E:XK)(r:Rf):Prop:=∀dx H2,ah H H2->H2 dx=some (.xd [(r.fd,r.v)])->E (.ref (r.cls A)) (some dx) H2
theorem Raises.on{A:nT}{H H1:Hp}{E:XK}{r:Rf}(h:Raises A H E r)(s:ah H H1):Raises A H1 E r:=λdx H2 s2 e=>h dx H2 (s.trans s2) e
def Oy(A:nT)(H:Hp)(Q:VK)(E:XK):Option Rf->Prop
 |none=>∀H',ah H H'->Q .bp H'
 |some r=>Raises A H E r
noncomputable def nW(s:Ds):Option Rf:=if 40<eB s then some (.many (eB s)) else if 6<eQ s then some (.deep (eQ s)) else none
noncomputable def yY(s:Ds):Option Rf:=if 4<jY s then some (.wide (jY s)) else if 100<j9 s then some (.long (j9 s)) else none
noncomputable def um(d:Dd):Option Str:=match d.ps with
 |[_,_,.str x]=>some x
 |_=>none
noncomputable def jW(r:Dd×au):Option Rf:=if dX r.1.wd=true/\jg r.1∈r.2 then some (.twice (jg r.1)) else if r.1.wd="make" then match um r.1 with
 |some x=>if x∈r.2 then none else some (.qc x)
 |none=>none
 else none
def Xw(A:nT):Sp:=λvs H Q E=>∃v t s,vs=[v]/\Dat H v (iS t (sL s))/\mD s/\eQ s<40/\Oy A H Q E (nW s)
theorem Ey(T:Txt K mg A)(Fm:wR P w K A fm):aT P w K mg base (Dg P w) 43 A.xY A.xG ["body"] (Xw A):=by
 refine T.xH.F.okX oF (λvs H Q E h=> ?_) (λcB Ar outer s0 H vs Q E hr h=> ?_)
 .obtain⟨v,t,s,rfl,_⟩:=h;rfl
 .obtain⟨v,t,s,rfl,hd,ok,dp,q⟩:=h;obtain⟨u1,vi⟩:=T.E1;obtain⟨u2,vD⟩:=T.EZ;refine⟨_,(aj (gf 1 oF.nd (cI (uf T Fm 40) hr T.nN aC (aM (pv 0)))) (aj (bU (wn tE (pv 1) (fY Z vi.2 vi.1)) (aq (jT Z dR (Rx T.gH T.mq (sE T) hr (aM (pv 1))))) bf) (aj (gf 2 oF.nd (cI (FE T Fm 40) hr T.uI aC (aM (pv 0)))) (aq (bU (wn tE (pv 2) (fY Z vD.2 vD.1)) (aq (jT Z dR (Rx T.fQ T.lZ (sM T) hr (aM (pv 2))))) bf))))),?_⟩;refine⟨_,Z,v,t,s,Z,hd,ok,dp,λH1 s1=>⟨_,Z,_,_,Z,Z,_,Z,?_⟩⟩;unfold nW at q;refine mF (λhk=> ?_) (λhk=> ?_)
  .have hk:=bE hk;rw[aB (by lia)] at q;exact p_ T.gH.X.toExcC (λQ' h=>⟨_,Z,h⟩) (Raises.on q s1)
  .have hk:¬((eB s:Nat):Int)>40:=λz=>hk (aS z);rw[ax (by lia)] at q;refine⟨_,Z,v,t,s,Z,hd.same s1,ok,dp,λH2 s2=>⟨_,Z,_,_,Z,Z,_,Z,?_⟩⟩;refine mF (λhk=> ?_) (λhk=> ?_)
   .have hk:=bE hk;rw[aB (by lia)] at q;exact p_ T.fQ.X.toExcC (λQ' h=>⟨_,Z,h⟩) (Raises.on q (s1.trans s2))
   .have hk:¬((eQ s:Nat):Int)>6:=λz=>hk (aS z);rw[ax (by lia)] at q;exact q _ (s1.trans s2)
def WB(A:nT):Sp:=λvs H Q E=>∃v t s,vs=[v]/\Dat H v (iS t (sL s))/\mD s/\eB s<=40/\eQ s<=6/\Oy A H Q E (yY s)
theorem DX(T:Txt K mg A)(Fm:wR P w K A fm):aT P w K mg base (Dg P w) 17 A.yq A.yl ["body"] (WB A):=by
 refine T.yE.F.okX oQ (λvs H Q E h=> ?_) (λcB Ar outer s0 H vs Q E hr h=> ?_)
 .obtain⟨v,t,s,rfl,_⟩:=h;rfl
 .obtain⟨v,t,s,rfl,hd,ok,hm,dp,q⟩:=h;obtain⟨u1,qW⟩:=T.Am;obtain⟨u2,wI⟩:=T.DS;refine⟨_,(aj (gf 1 oQ.nd (cI (Ez T Fm 7) hr T.qB aC (aM (pv 0)))) (aj (bU (wn tE (pv 1) (fY Z qW.2 qW.1)) (aq (jT Z dR (Rx T.dS T.lj (sN T) hr (aM (pv 1))))) bf) (aj (gf 2 oQ.nd (cI (Cj T Fm 7) hr T.oh aC (aM (pv 0)))) (aq (bU (wn tE (pv 2) (fY Z wI.2 wI.1)) (aq (jT Z dR (Rx T.dF T.lN (sJ T) hr (aM (pv 2))))) bf))))),?_⟩;refine⟨_,Z,v,t,s,Z,hd,ok,by lia,hm,dp,λH1 s1=>⟨_,Z,_,_,Z,Z,_,Z,?_⟩⟩;unfold yY at q;refine mF (λhk=> ?_) (λhk=> ?_)
  .have hk:=bE hk;rw[aB (by lia)] at q;exact p_ T.dS.X.toExcC (λQ' h=>⟨_,Z,h⟩) (Raises.on q s1)
  .have hk:¬((jY s:Nat):Int)>4:=λz=>hk (aS z);rw[ax (by lia)] at q;refine⟨_,Z,v,t,s,Z,hd.same s1,ok,by lia,hm,dp,λH2 s2=>⟨_,Z,_,_,Z,Z,_,Z,?_⟩⟩;refine mF (λhk=> ?_) (λhk=> ?_)
   .have hk:=bE hk;rw[aB (by lia)] at q;exact p_ T.dF.X.toExcC (λQ' h=>⟨_,Z,h⟩) (Raises.on q (s1.trans s2))
   .have hk:¬((j9 s:Nat):Int)>100:=λz=>hk (aS z);rw[ax (by lia)] at q;exact q _ (s1.trans s2)
theorem AM{H:Hp}{d:Dd}{a:S'}{ks:au}{xs ys:ak}(p:jb H d a ks xs ys)(hw:d.wd="make"):∃x1 x2 m,xs=[x1,x2,m]/\ys=[]/\((m= .bp/\um d=none)\/∃y,m= .str y/\um d=some y):=by
 have f:=p.f;rw[hw] at f;have e:=bE (a7.mp (show(bg.all λp=>decide (p.1="make" ->p.2=(["name","size","mark"]:au)))=true by decide+kernel) _ f) rfl;obtain⟨e1,e2⟩:=Ur (C8 p.fit) (show ks++List.replicate ys.length ("body" :Str)=_ from e);have e1:ks=(["name","size","mark"]:au):=e1.trans (by decide+kernel);have e2:ys.length=0:=e2.trans (by decide+kernel);have hy:=qp e2;have hf:=p.fit;have hx:=p.hx;unfold um;rw[e1] at hf;generalize d.ps=ps at hf hx
 cases hf with
 |cons a1 r=>
  cases r with
  |cons a2 r=>
   cases r with
   |cons a3 r=>
    cases r
    cases hx with
    |cons b1 r=>
     cases r with
     |cons b2 r=>
      cases r with
      |cons b3 r=>
       cases r;refine⟨_,_,_,Z,hy,?_⟩
       cases a3 with
       |GZ=>cases b3;exact .inl ⟨Z,Z⟩
       |mark y _=>cases b3;exact .inr ⟨y,Z,Z⟩
       |num _ _ _ _ hb=>exact absurd Z (nj hb (by decide+kernel))
theorem nG(x:Str)(l:au):HQ (.str x) (l.map V.str)=decide (x∈l):=by
 unfold HQ;rw[List.any_map,mU,List.any_eq_true,iq];constructor
 .rintro ⟨y,hy,e⟩
  have e:Hi (.str y) (.str x)=true:=e;have:y=x:=by simpa[Hi] using e
  exact this▸hy
 .intro h;exact⟨x,h,by simp[Hi]⟩
def MP(A:nT):Sp:=λvs H Q E=>∃H0 l zs rs,vs=[.ref l]/\ah H0 H/\H l=some (.lst zs)/\gQ H0 H zs rs/\(∀r∈rs,mv r.1)/\Oy A H Q E (rs.findSome? jW)
theorem xj{α β:Type}(f:α->Option β){l:List α}{i:Nat}{x:α}(e:l[i]? =some x):(l.take (i+1)).findSome? f=((l.take i).findSome? f).or (f x):=by
 rw[rG,e,mZ];simp
theorem Bh{α β:Type}(f:α->Option β){l:List α}{i:Nat}{x:α}{r:β}(e:l[i]? =some x)(h0:(l.take i).findSome? f=none)(h1:f x=some r):l.findSome? f=some r:=by
 have:l=l.take (i+1)++l.drop (i+1):=(jE _ _).symm;rw[this,mZ,xj f e,h0,h1];rfl
theorem AB(T:Txt K mg A)(Fm:wR P w K A fm):aT P w K mg base (Dg P w) 4 A.tX A.sZ ["listed"] (MP A):=by
 refine T.tR.F.okX mw (λvs H Q E h=> ?_) (λcB Ar outer s0 H vs Q E hr h=> ?_)
 .obtain⟨H0,l,zs,rs,rfl,_⟩:=h;rfl
 .obtain⟨H0,l,zs,rs,rfl,gW,hl,R,ok,q⟩:=h;refine⟨_,(aq (AV (ff (pv 0)) (w4 Z (cY (jk 1 mw.nd) (cY (jk 2 mw.nd) mT))) (aj (bU (PW.pt (wT (gm (cI (xF T Fm) hr T.uF aC (aM (pv 1)))) (xz (wn kW (cS aN (pv 1) ae) (pv 2))))) (aq (jT Z dR (Rx T.iV T.nM (vo T) hr (aM (cS aN (pv 1) ae))))) bf) (aq (bU (PW.pt (wT (wn cK (cS aN (pv 1) ae) ai) (wT (wn zi (cS aN (pv 1) ae) d_) (xz (wn o9 (cS aN (pv 1) ae) (pv 2)))))) (aq (jT Z dR (Rx T.eD T.l0 (sD T) hr (aM (cS aN (pv 1) ae))))) bf))) (hp:=zk))),?_⟩;refine⟨_,Z,l,Z,⟨_,cF.of hl⟩,?_⟩;refine i0 (K:=K) (a:=l) (xs:=zs) (λi σ H' =>∃x1 x2:Option V,σ=[some (.ref l),x1,x2]/\H' =H/\(rs.take i).findSome? jW=none) ⟨_,_,Z,Z,Z⟩ (by rintro i σ H' _ ⟨_,_,_,e,_⟩;exact cF.of (by rw[e];exact hl)) ?_ ?_
  .rintro i x σ H' hx ⟨x1,x2,rfl,rfl,hn⟩
   obtain⟨⟨d,ar⟩,er,t,v,u,rfl,ht,tN,hu⟩:=R.at_ i x hx;have lu:=ok _ (bD er);obtain⟨b,ks,xs,ys,rfl,p0⟩:=fu tN lu;have p:=p0.same gW;dsimp only at tN hu lu p0 p
   have next:jW (d,ar)=none->(rs.take (i+1)).findSome? jW=none:=λh=>by
    rw[xj jW er,hn,h];rfl
   have bad:∀r,jW (d,ar)=some r->Raises A H' E r:=λr h=>by
    rw[Bh jW er hn h] at q;exact q
   refine⟨t,_,Z,bc.of ht,Z,_,_,Z,_,_,Z,Z,_,Z,H0,_,d,Z,gW,tN,lu,_,Z,?_⟩
   have two:¬(dX d.wd=true/\jg d∈ar)->jW (d,ar)=(if d.wd="make" then match um d with
    |some x=>if x∈ar then none else some (.qc x)
    |none=>none
    else none):=λh=>ax h
   have nb:∀{y:Str},decide (V.str d.wd=V.str y)=decide (d.wd=y):=λ{y}=>by
    by_cases h:d.wd=y
    .rw[aS h,h];exact aS rfl
    .rw[ba h];exact ba (dZ h)
   cases hb:dX d.wd with
   |true=>
    obtain⟨Qz,rfl⟩:=p0.jg hb;refine a9 ⟨_,Z,b,_,1,_,Z,Z,bc.of p.e,bb (j:=1) Z,_,Z,u,_,Z,.inr (bc.of hu),Z,kU _,_,Z,?_⟩;show if HQ (V.str (jg d)) (ar.map V.str)=true then _ else _
    rw[nG];by_cases n6:jg d∈ar
    .rw[aS n6];exact a9 (p_ T.iV.X.toExcC (λQ' h=>⟨_,Z,b,_,1,_,Z,Z,bc.of p.e,bb (j:=1) Z,h⟩) (bad (.twice (jg d)) (aB ⟨hb,n6⟩)))
    .rw[ba n6];have nm:d.wd≠ "make":=λz=>by rw[z] at hb;exact absurd hb (by decide+kernel)
     refine bo ⟨_,Z,b,_,0,_,Z,Z,bc.of p.e,gU _ _,Z,_,Z,?_⟩;exact dG (dZ nm) ⟨_,_,Z,Z,next ((two λz=>n6 z.2).trans (ax nm))⟩
   |false=>
    have tw:=two λz=>by rw[hb] at z;exact cU z.1
    refine bo ⟨_,Z,b,_,0,_,Z,Z,bc.of p.e,gU _ _,Z,_,Z,?_⟩;by_cases nm:d.wd="make"
    .obtain⟨y1,y2,m,rfl,rfl,hm⟩:=AM p nm;rw[aB nm] at tw;rw[nb,aS nm];rcases hm with⟨rfl,hk⟩|⟨y,rfl,hk⟩
     .rw[hk] at tw;exact a9 ⟨_,Z,b,_,3,_,Z,Z,bc.of p.e,bb (j:=3) Z,Z,_,Z,bo ⟨_,_,Z,Z,next tw⟩⟩
     .rw[hk] at tw;dsimp only at tw;refine a9 ⟨_,Z,b,_,3,_,Z,Z,bc.of p.e,bb (j:=3) Z,Z,_,Z,a9 ⟨_,Z,b,_,3,_,Z,Z,bc.of p.e,bb (j:=3) Z,_,Z,u,_,Z,.inr (bc.of hu),Z,kU _,_,Z,?_⟩⟩;show if(!HQ (V.str y) (ar.map V.str))=true then _ else _
      rw[nG];by_cases hy:y∈ar
      .rw[aB hy] at tw;rw[aS hy];exact bo ⟨_,_,Z,Z,next tw⟩
      .rw[ax hy] at tw;rw[ba hy];exact a9 (p_ T.eD.X.toExcC (λQ' h=>⟨_,Z,b,_,3,_,Z,Z,bc.of p.e,bb (j:=3) Z,h⟩) (bad (.qc y) tw))
    .exact dG (dZ nm) ⟨_,_,Z,Z,next (tw.trans (ax nm))⟩
  .rintro σ H' ⟨x1,x2,rfl,rfl,hn⟩
   have:rs.take zs.length=rs:=oq (by rw[R.len];exact aK _);rw[this] at hn;rw[hn] at q;exact q _ (ah.refl _)
mutual
theorem DU{H H' :Hp}(k:KT H H')(l:∀c xs,H c=some (.lst xs)->H' c=some (.lst xs)):∀{v:V} {d:U'},Dat H v d->Dat H' v d
 |_,_,.bp=> .bp
 |_,_,.bl b=> .bl b
 |_,_,.int i=> .int i
 |_,_,.str x=> .str x
 |_,_,.lst e h=> .lst (l _ _ e) (rF k l h)
 |_,_,.tup e h=> .tup (k _ _ e) (rF k l h)
theorem rF{H H' :Hp}(k:KT H H')(l:∀c xs,H c=some (.lst xs)->H' c=some (.lst xs)):∀{xs:ak} {ds:List U'},DatAll H xs ds->DatAll H' xs ds
 |_,_,.nil=> .nil
 |_,_,.cons h t=> .cons (DU k l h) (rF k l t)
end
noncomputable def jai(P:S')(H:Hp):Hp:=λc=>if c=P then none else H c
theorem jab{P c:S'}{H:Hp}(h:c≠P):jai P H c=H c:=ax h
theorem Nl{P:S'}{H:Hp}{ps:Array M'}(h:H P=some (.wg ps)){v:V}{d:U'}(hd:Dat H v d):Dat (jai P H) v d:=
 DU (λc xs e=>(jab (dw e h (λz=>nomatch z))).trans e) (λc xs e=>(jab (dw e h (λz=>nomatch z))).trans e) hd
theorem xA{P:S'}{H H' :Hp}(k:Kept P H H'):ah (jai P H) H' :=λc o e=>by
 by_cases h:c=P
 .rw[h,show jai P H P=none from aB Z] at e;cases e
 .rw[jab h] at e;exact k c o h e
def Tab(H:Hp)(P:S')(lp:Pos)(q:Str):Prop:=∃ps,H P=some (.wg ps)/\TriplesOk ps.toList/\(codeAmong lp ps.toList=none\/∃c',codeAmong lp ps.toList=some (.ref c')/\H c' =some (.ext (iG c' q)))
theorem Tab.same{H H' :Hp}{P:S'}{lp:Pos}{q:Str}(t:Tab H P lp q)(s:ah H H'):Tab H' P lp q:=by
 obtain⟨ps,e,h,r⟩:=t;refine⟨ps,s _ _ e,h,?_⟩;rcases r with r|⟨c,r1,r2⟩
 .exact .inl r
 .exact .inr ⟨c,r1,s _ _ r2⟩
theorem Tab.lam{P:S'}{lp:Pos}{q:Str}{sp:S'->S'->ak->Sp}{E:XK}{dvs vs:ak}{H:Hp}{Q:VK}{σ:L2.St}{t:TA}(T:Tab H P lp q)(ht:∀Q' :ak->Hp->Prop,Q' vs H->t σ H Q')
 (h:∀f c' H1,H f=none->H1 f=none->Kept P H H1->Tab H1 P lp q->H1 c' =some (.ext (iG c' q))->sp f c' [] (vs++[.ref f]++dvs) H1 Q E):Gj P lp q sp E [] dvs t σ H Q:=by
 obtain⟨ps,e,tr,r⟩:=T;refine ht _ ⟨ps,[],e,tr,Z,(λi j v z=>by simp at z),?_⟩;rcases r with r|⟨c,r1,r2⟩
 .refine .inl ⟨r,λf c' hf hc hfc=> ?_⟩;have ncP:c'≠P:=(aA e hc).symm;have nfP:f≠P:=(aA e hf).symm;refine h f c' _ hf ?_ (λb o hb eb=> ?_) ⟨_,(by rw[az ncP.symm];exact af),?_,.inr ⟨c',?_,af⟩⟩ af
  .rw[az hfc,az nfP];exact hf
  .rw[az (aA eb hc),az hb];exact eb
  .have:(ps++ #[rawInt lp.line,rawInt lp.col,.ref c']).toList=ps.toList++[rawInt lp.line,rawInt lp.col,.ref c']:=by simp
   rw[this];exact TriplesOk_snoc _ _ _ _ tr
  .have:(ps++ #[rawInt lp.line,rawInt lp.col,.ref c']).toList=ps.toList++[rawInt lp.line,rawInt lp.col,.ref c']:=by simp
   rw[this];exact codeAmong_snoc _ tr r
 .exact .inr ⟨c,r1,r2,λf hf=>h f c H hf hf (Kept.refl _ _) ⟨ps,e,tr,.inr ⟨c,r1,r2⟩⟩ r2⟩
theorem _root_.L2.aT.MT{P:Z'}{w:W'}{K:Frag}{mg:Str->aO}{base:Y'}{CX:uo}{k:Nat}{f:S'}{fd:aad}{ps:au}{sp:Sp}(len:∀vs H Q E,sp vs H Q E->vs.length=ps.length)(h:K.In base->aT P w K mg base CX k f fd ps sp):aT P w K mg base CX k f fd ps sp:=
 ⟨len,λA outer s H args us vs Q E hr e0 hb r DG=>(h e0.mod.xr).run A outer s H args us vs Q E hr e0 hb r DG⟩
theorem Rq{P:Z'}{w:W'}{K:Frag}{mg:Str->aO}{base:Y'}{f c' :S'}{name qual:Str}{params:Arguments}{scope:Scope}{pm ct oc:M'}{od:Option S'}{xM:Array (aO)}{p1 p2:Pos}{kl:ak}
 (lk:base.get? f=some ⟨oc,od,.func (kla_fn name qual params (.List [.Name "deed" p1] p2) scope [] pm (.ref c') ct),xM⟩) (S:rS ["number","deed"] [] scope) (C:z_ base [] [] kl):aT P w K mg base dQ 1 f (kla_fn name qual params (.List [.Name "deed" p1] p2) scope [] pm (.ref c') ct) ["number","deed"] (NB c' qual):=by
 refine L_ lk S C (λvs H Q E ⟨i,v,e,_⟩=>by rw[e];rfl) (λvs H Q E h ⟨i,v,e,hc,_⟩ ok _=>iG.rec ok hc) λA outer s H vs Q E hr ⟨i,v,e,hc,q⟩=> ?_;subst e;exact⟨_,bH (aM (pv 1 (hv:= .inl (S.par "deed" (by simp))))),⟨_,Z,y8,q⟩⟩
mutual
theorem Wg:∀d:Dd,mv d->mv (vX d)
 | .mk w ps bs,h=>by
  rw[mv] at h;rw[vX,mv];obtain⟨⟨ks,f,fit⟩,hb⟩:=h;exact⟨⟨ks,by rw[OD,a6];exact f,fit⟩,Me bs hb⟩
theorem Fl:∀s:Ds,mD s->mD (nE s)
 | .nil,h=>by rw[nE,mD];exact True.intro
 | .cons d r,h=>by
  rw[mD] at h;rw[nE,mD];exact⟨Wg d h.1,Fl r h.2⟩
theorem Me:∀b:Bs,pF b->pF (BM b)
 | .nil,h=>by rw[BM,pF];exact True.intro
 | .cons t b r,h=>by
  rw[pF] at h;rw[BM,pF];exact⟨Fl b h.1,Me r h.2⟩
end
mutual
theorem afy:∀d:Dd,mG (vX d)=mG d/\jM (vX d)=jM d/\BD (vX d)=BD d/\Ba (vX d)=Ba d
 | .mk w ps bs=>by
  obtain⟨h1,h2,h3,h4⟩:=aaZ bs;rw[vX,mG,mG,jM,jM,BD,BD,Ba,Ba,h1,h2,h3,h4];exact⟨Z,Z,Z,Z⟩
theorem OZ:∀s:Ds,eQ (nE s)=eQ s/\eB (nE s)=eB s/\jY (nE s)=jY s/\j9 (nE s)=j9 s
 | .nil=>by rw[nE];exact⟨Z,Z,Z,Z⟩
 | .cons d r=>by
  obtain⟨h1,h2,h3,h4⟩:=afy d;obtain⟨g1,g2,g3,g4⟩:=OZ r;rw[nE,eQ,eQ,eB,eB,jY,jY,j9,j9,h1,h2,h3,h4,g1,g2,g3,g4];exact⟨Z,Z,Z,Z⟩
theorem aaZ:∀b:Bs,nR (BM b)=nR b/\mX (BM b)=mX b/\tP (BM b)=tP b/\ug (BM b)=ug b
 | .nil=>by rw[BM];exact⟨Z,Z,Z,Z⟩
 | .cons t b r=>by
  obtain⟨h1,h2,h3,h4⟩:=OZ b;obtain⟨g1,g2,g3,g4⟩:=aaZ r;rw[BM,nR,nR,mX,mX,tP,tP,ug,ug,h1,h2,h3,h4,g1,g2,g3,g4];exact⟨Z,Z,Z,Z⟩
end
noncomputable def YG(r:Dd×au):Dd×au:=(vX r.1,r.2)
theorem VQ(d:Dd)(ar:au):oI (vX d) ar=oI d ar:=by
 cases d with
 |mk w ps bs=>rw[vX];rfl
mutual
theorem Xv:∀(d:Dd) (ar:au),Dc (vX d) ar=(Dc d ar).map YG
 | .mk w ps bs,ar=>by
  have e:=VQ (.mk w ps bs) ar;rw[vX] at e ⊢;rw[Dc,Dc,cP,e,ME bs];show _::_=(vX (.mk w ps bs),ar)::_;rw[vX]
theorem An:∀(s:Ds) (ar:au),pI (nE s) ar=(pI s ar).map YG
 | .nil,ar=>by rw[nE,pI];rfl
 | .cons d r,ar=>by rw[nE,pI,pI,Xv d,An r,iQ]
theorem ME:∀(b:Bs) (ar:au),E_ (BM b) ar=(E_ b ar).map YG
 | .nil,ar=>by rw[BM,E_];rfl
 | .cons t b r,ar=>by rw[BM,E_,E_,An b,ME r,iQ]
end
theorem PY(r:Dd×au):jW (YG r)=jW r:=by
 obtain⟨d,ar⟩:=r
 cases d with
 |mk w ps bs=>
  unfold YG;dsimp only;rw[vX];rfl
theorem Q3(s:Ds)(ar:au):(pI (nE s) ar).findSome? jW=(pI s ar).findSome? jW:=by
 rw[An,List.findSome?_map]
 congr 1
 funext r
 exact PY r
mutual
theorem VB:∀(d:Dd) (ar:au),mv d->∀r∈Dc d ar,mv r.1
 | .mk w ps bs,ar,h,r,hr=>by
  rw[Dc] at hr;rcases aP.mp hr with rfl|hr
  .exact h
  .exact Ow bs _ (kq h) r hr
theorem xo:∀(s:Ds) (ar:au),mD s->∀r∈pI s ar,mv r.1
 | .nil,ar,h,r,hr=>by rw[pI] at hr;cases hr
 | .cons d q,ar,h,r,hr=>by
  rw[mD] at h;rw[pI] at hr;rcases eA.mp hr with hr|hr
  .exact VB d ar h.1 r hr
  .exact xo q ar h.2 r hr
theorem Ow:∀(b:Bs) (ar:au),pF b->∀r∈E_ b ar,mv r.1
 | .nil,ar,h,r,hr=>by rw[E_] at hr;cases hr
 | .cons t b q,ar,h,r,hr=>by
  rw[pF] at h;rw[E_] at hr;rcases eA.mp hr with hr|hr
  .exact xo b ar h.1 r hr
  .exact Ow q ar h.2 r hr
end
theorem zQ{H H' :Hp}{ks:au}{ps:List U'}(h:iw ks ps):∀{xs:ak},DatAll H xs ps->bI H' xs ps:=by
 induction h with
 |nil=>intro xs hx;cases hx;exact .nil
 |cons h t ih=>
  intro xs hx
  cases hx with
  |cons a r=>exact .cons (NQ h a) (ih r)
mutual
theorem abi{H:Hp}:∀(d:Dd) {v:V},mv d->Dat H v (dD (vX d))->i3 H v (dD (vX d))
 | .mk w ps bs,v,ok,h=>by
  rw[mv] at ok;obtain⟨⟨ks,f,fit⟩,hb⟩:=ok;rw[vX,dD] at h ⊢
  cases h with
  |tup e h=>
   cases h with
   |cons a r=>
    cases a;obtain⟨xs,ys,rfl,h1,h2⟩:=oW r;exact .tup e (.cons (.str _) ((zQ fit h1).append (aa6 bs hb h2)))
theorem aaL{H:Hp}:∀(s:Ds) {xs:ak},mD s->DatAll H xs (sL (nE s))->bI H xs (sL (nE s))
 | .nil,xs,ok,h=>by
  rw[nE,sL] at h ⊢;cases h;exact .nil
 | .cons d r,xs,ok,h=>by
  rw[mD] at ok;rw[nE,sL] at h ⊢
  cases h with
  |cons a t=>exact .cons (abi d ok.1 a) (aaL r ok.2 t)
theorem aa6{H:Hp}:∀(b:Bs) {xs:ak},pF b->DatAll H xs (bL (BM b))->bI H xs (bL (BM b))
 | .nil,xs,ok,h=>by
  rw[BM,bL] at h ⊢;cases h;exact .nil
 | .cons t b r,xs,ok,h=>by
  rw[pF] at ok;rw[BM,bL] at h ⊢
  cases h with
  |cons a q=>
   refine .cons ?_ (aa6 r ok.2 q);obtain⟨a',vs,rfl,ea,hA⟩:=iI a;exact .tup ea (aaL b ok.1 hA)
end
def Rl(H:Hp)(v:V)(r:Dd×au):Prop:=∃t x u,v= .ref t/\H t=some (.tup [x,.ref u])/\i3 H x (dD (vX r.1))/\H u=some (.tup (r.2.map V.str))
noncomputable def UO(tb ls:S'):ji:=je "listed" (.ref ls) (je "body" (.ref tb) [])
structure Ii(C:S')(H:Hp)(p tb ls:S')(s:Ds):Prop where
 ob:∃dx,H p=some (.ins C dx (UO tb ls))
 body:i3 H (.ref tb) (.tuple (sL (nE s)))
 rows:∃zs,H ls=some (.lst zs)/\zs.length=(pI s ["ground"]).length/\∀(i:Nat) v,zs[i]? =some v->∃r,(pI s ["ground"])[i]? =some r/\Rl H v r
theorem Rl.kt{H H' :Hp}{v:V}{r:Dd×au}(h:Rl H v r)(k:KT H H'):Rl H' v r:=by
 obtain⟨t,x,u,e1,e2,e3,e4⟩:=h;exact⟨t,x,u,e1,k _ _ e2,e3.kt k,k _ _ e4⟩
theorem Ii.kt{C:S'}{H H' :Hp}{p tb ls:S'}{s:Ds}(h:Ii C H p tb ls s)(k:KT H H')(hp:H' p=H p)(hl:H' ls=H ls):Ii C H' p tb ls s:=by
 obtain⟨⟨dx,e⟩,b,zs,e1,e2,e3⟩:=h;refine⟨⟨dx,hp.trans e⟩,b.kt k,zs,hl.trans e1,e2,λi v ev=> ?_⟩;obtain⟨r,er,hr⟩:=e3 i v ev;exact⟨r,er,hr.kt k⟩
noncomputable def gL(s:Ds):Option Rf:=(nW s).or (((pI s ["ground"]).findSome? jW).or (yY s))
noncomputable def LY:Pos:=⟨170,37,170,64⟩
noncomputable def qI:Str:="Program.__init__" ++ ".<locals>." ++ "<lambda>"
def hU(p P:S')(H H' :Hp):Prop:=∀b o,b≠p->b≠P->H b=some o->H' b=some o
theorem NN{H:Hp}{p C dx:S'}{fs:ji}{o:HO}(h:H p=some (.ins C dx fs)):KT H (upd H p o):=λc ys e=>by
 rw[az (dw e h (by intro z;cases z))];exact e
theorem gA{β:Type}{l:List (Str×β)}{k:Str}{v:β}(h:l.lookup k=some v):(k,v)∈l:=by
 obtain⟨l1,l2,e,_⟩:=E5.mp h;rw[e];simp
theorem Lx{p C dx:S'}{fs:ji}{H:Hp}(h:H p=some (.ins C dx fs)){v:V}{d:U'}(hd:Dat H v d):Dat (jai p H) v d:=
 DU (λc xs e=>(jab (dw e h (λz=>nomatch z))).trans e) (λc xs e=>(jab (dw e h (λz=>nomatch z))).trans e) hd
theorem Tab.Zs{H:Hp}{P p C dx:S'}{fs:ji}{lp:Pos}{q:Str}{o:HO}(t:Tab H P lp q)(h:H p=some (.ins C dx fs)):Tab (upd H p o) P lp q:=by
 obtain⟨ps,e,tr,r⟩:=t;refine⟨ps,(by rw[az (dw e h (λz=>nomatch z))];exact e),tr,?_⟩;rcases r with r|⟨c,r1,r2⟩
 .exact .inl r
 .exact .inr ⟨c,r1,by rw[az (dw r2 h (λz=>nomatch z))];exact r2⟩
theorem adw{sc:Scope}(h1:sc.kind= .function)(h2:sc.isCoroutine=false)(h3:sc.isGenerator=false)(h:sc.names=[(("number" :Str),NameKind.local),(("deed" :Str),NameKind.local)]):rS ["number","deed"] [] sc:=by
 refine⟨h1,h2,h3,by decide+kernel,?_,(λ_ h=>nomatch h),?_,?_⟩
 .rw[h];decide+kernel
 .rw[h];decide+kernel
 .rw[h];intro x hx;have hm:=gA hx;rcases aP.mp hm with z|hm
  .cases z
  .rcases aP.mp hm with z|hm
   .cases z
   .cases hm
theorem Z5(T:Txt K mg A)(Fm:wR P w K A fm){g_ :Y'}{f c' :S'}{name qual:Str}{scope:Scope}{pm ct oc:M'}{od:Option S'}{xM:Array (aO)}{p1 p2 p3 p4:Pos}{kl:ak}
 (lk:g_.get? f=some ⟨oc,od,.func (kla_fn name qual {posonlyargs:=[],args:=[{arg:="number",annotation:=none,pos:=p3},{arg:="deed",annotation:=none,pos:=p4}],vararg:=none,kwonlyargs:=[],kw_defaults:=[],kwarg:=none,defaults:=[]} (.List [.Name "deed" p1] p2) scope [] pm (.ref c') ct),xM⟩)
 (C:z_ g_ [] [] kl) (h1:scope.kind= .function:=by rfl) (h2:scope.isCoroutine=false:=by rfl) (h3:scope.isGenerator=false:=by rfl) (h:scope.names=[(("number" :Str),NameKind.local),(("deed" :Str),NameKind.local)]:=by rfl):aT P w K mg g_ dQ 17 A.mL A.eG ["body","change","first"] (JS f c' qual 7):=
 Fb T Fm (Rq lk (adw h1 h2 h3 h) C) ⟨_,_,_,lk⟩ (Binds.all (Yg λ_ _=>rfl)) 7
def Vl(C:S'):Sp:=λvs H Q _=>∃p tb ls s,vs=[.ref p]/\Ii C H p tb ls s/\Q (.ref tb) H
theorem yL(T:Txt K mg A):aT P w K mg base dQ 1 A.qk A.pQ ["self"] (Vl A.aZ):=by
 refine T.ra.F.ok yW (λvs H Q E h=> ?_) (λcB Ar outer s0 H vs Q E hr h=> ?_)
 .obtain⟨p,tb,ls,s,rfl,_⟩:=h;rfl
 .obtain⟨p,tb,ls,s,rfl,pr,q⟩:=h;obtain⟨dx,ho⟩:=pr.ob;refine⟨_,(aq (aH (pfd (pv 0)))),?_⟩;exact⟨_,Z,p,A.aZ,dx,_,_,Z,ho,T.jz,T.iM,Z,q⟩
theorem jm{x:V}{xs:ak}{k:Nat}(hk:1<=k)(hi:Option Int):¬(HT.gz (x::xs).length 0 (some (k:Int))=0/\HT.gz (x::xs).length (x::xs).length hi=(x::xs).length):=by
 rintro ⟨z,_⟩
 rw[HT.h9] at z;simp only[bB] at z
 lia
theorem mf(xs:ak)(k:Nat):c6 xs (some (k:Int)) none=xs.drop k:=by
 unfold c6;rw[HT.h9,HT.qo];by_cases h:k<=xs.length
 .rw[ED h];exact oq (by rw[ow];exact aK _)
 .rw[Nat.min_eq_right (by lia),List.drop_of_length_le (by lia),List.drop_of_length_le (by lia),zt]
def KO:Sp:=ur λH0 d v H Q=>∀t ys H',H t=none->ah H H'->H' t=some (.tup ys)->DatAll H0 ys (bL d.bs)->Q (.ref t) H'
def Ja:Sp:=ur λH0 d v H Q=>∀t ys H',H t=none->ah H H'->H' t=some (.tup ys)->DatAll H0 ys (bL d.bs)->(∃a xs,v= .ref a/\H a=some (.tup (.str d.wd::(xs++ys)))/\xs.length=d.ps.length)->Q (.ref t) H'
theorem yZ(T:Txt K mg A):aT P w K mg base dQ 1 A.fP A.jK ["_law_deed"] Ja:=by
 refine T.dO.F.ok qK (λvs H Q E h=> ?_) (λcB Ar outer s0 H vs Q E hr h=> ?_)
 .obtain⟨H0,v,d,rfl,_⟩:=h;rfl
 .obtain⟨H0,v,d,rfl,gW,hd,ok,q⟩:=h;obtain⟨a,ks,xs,ys,rfl,p0⟩:=fu hd ok;have pp:=p0.same gW
  have hu:(ny dQ P w K mg base ["_law_deed"] "_law_bodies" (av jQ) A.fP cB Ar outer s0 H E).K0.A.units+1<cLine:=by
   have:=hr.un;show(Ar.deeper _).units+1<cLine;omega
  refine⟨_,(aq (aH (vS hu (vQ (g9 ai (dH iu (pv 0) (bQ ae) bZ) (g9 ai (dH iu (pv 0) (bQ ae) bZ) (g9 ai (dH iu (pv 0) (bQ ae) bZ) vJ))) Z Z (by simp) (by decide)) (cS aN (pv 0) ae) (bt dY) ⟨Z,Z,Z,Z⟩))),?_⟩;refine λp hp=>⟨_,Z,2,Z,a,_,Z,bc.of (ah.upd hp _ _ pp.e),jm (k:=2) (by decide) _,λt1 uG=> ?_⟩;have s1:=(ah.upd (o:= .dK []) hp).trans (ah.upd (o:= .tup (c6 (.str d.wd::(xs++ys)) (some 2) none)) uG);have JZ:=ah.upd (o:= .tup (c6 (.str d.wd::(xs++ys)) (some 2) none)) uG p _ af;have e1:upd (upd H p (.dK [])) t1 (.tup (c6 (.str d.wd::(xs++ys)) (some 2) none)) t1=some (.tup (c6 (.str d.wd::(xs++ys)) (some 2) none)):=af;have f1:H t1=none:=(ah.upd (o:= .dK []) hp).free uG;generalize upd (upd H p (.dK [])) t1 (.tup (c6 (.str d.wd::(xs++ys)) (some 2) none))=H1 at s1 JZ e1 ⊢;refine⟨_,Z,4,Z,a,_,Z,bc.of (s1 _ _ pp.e),jm (k:=4) (by decide) _,λt2 wU=> ?_⟩;have s2:=s1.trans (ah.upd (o:= .tup (c6 (.str d.wd::(xs++ys)) (some 4) none)) wU);have Di:=ah.upd (o:= .tup (c6 (.str d.wd::(xs++ys)) (some 4) none)) wU _ _ JZ;have e2:=ah.upd (o:= .tup (c6 (.str d.wd::(xs++ys)) (some 4) none)) wU _ _ e1;have Pc :upd H1 t2 (.tup (c6 (.str d.wd::(xs++ys)) (some 4) none)) t2=some (.tup (c6 (.str d.wd::(xs++ys)) (some 4) none)):=af;have f2:H t2=none:=s1.free wU;generalize upd H1 t2 (.tup (c6 (.str d.wd::(xs++ys)) (some 4) none))=H2 at s2 Di e2 Pc ⊢;refine⟨_,Z,1,Z,a,_,Z,bc.of (s2 _ _ pp.e),jm (k:=1) (by decide) _,λt3 qi=> ?_⟩;have u3:=ah.upd (o:= .tup (c6 (.str d.wd::(xs++ys)) (some 1) none)) qi;have Pa :upd H2 t3 (.tup (c6 (.str d.wd::(xs++ys)) (some 1) none)) t3=some (.tup (c6 (.str d.wd::(xs++ys)) (some 1) none)):=af;have f3:H t3=none:=s2.free qi;generalize upd H2 t3 (.tup (c6 (.str d.wd::(xs++ys)) (some 1) none))=H3 at u3 Pa ⊢;have s3:=s2.trans u3;have BN:=u3 _ _ Di
  have Rm:oZ [] [((.inr "frame" :wS),V.ref t1),(.inr "turns",.ref t2),(.inr "either",.ref t3)]=[(.inr "frame",.ref t1),(.inr "turns",.ref t2),(.inr "either",.ref t3)]:=by with_unfolding_all rfl
  refine⟨BN,[(.inr "frame",.ref t1),(.inr "turns",.ref t2),(.inr "either",.ref t3)],Z,(show 3<=15 by decide),p,Z,.inl ⟨_,.inl af⟩,?_⟩;rw[Rm];have s4:ah H (upd H3 p (.dK [(.inr "frame",.ref t1),(.inr "turns",.ref t2),(.inr "either",.ref t3)])):=fh hp s3
  have k4:KT H3 (upd H3 p (.dK [(.inr "frame",.ref t1),(.inr "turns",.ref t2),(.inr "either",.ref t3)])):=λc ys e=>by
   rw[az (dw e BN (λz=>nomatch z))];exact e
  have e4:upd H3 p (.dK [(.inr "frame",.ref t1),(.inr "turns",.ref t2),(.inr "either",.ref t3)]) p=some (.dK [(.inr "frame",.ref t1),(.inr "turns",.ref t2),(.inr "either",.ref t3)]):=af;generalize upd H3 p (.dK [(.inr "frame",.ref t1),(.inr "turns",.ref t2),(.inr "either",.ref t3)])=H4 at s4 k4 e4 ⊢;refine⟨_,Z,a,_,0,_,Z,Z,bc.of (s4 _ _ pp.e),gU _ _,m7,λt4 JN=> ?_⟩;have u5:=ah.upd (o:= .tup []) JN;refine⟨_,GV.k (k:= .inr d.wd) (u5 _ _ e4),?_⟩;have s5:=s4.trans u5;have hx:=p0.hx;have hy:=p0.hy;have q1:∀t H',H t=none->ah H H'->H' t=some (.tup ys)->Q (.ref t) H' :=λt H' h1 h2 h3=>q t ys H' h1 h2 h3 hy ⟨a,xs,Z,pp.e,fN hx⟩
  cases jaf ok with
  |ei t b u c=>
   rw[show eV [((.inr "frame" :wS),V.ref t1),(.inr "turns",.ref t2),(.inr "either",.ref t3)] (.inr (Dd.wd (.mk "either" [] (.cons t b (.cons u c .nil)))))=some (.ref t3) by with_unfolding_all rfl];refine q1 t3 _ f3 s5 ((u5 _ _ (k4 _ _ Pa)).trans ?_);rw[show c6 (V.str (Dd.wd (.mk "either" [] (.cons t b (.cons u c .nil))))::(xs++ys)) (some 1) none=xs++ys from mf _ 1];cases hx;rfl
  |tu l m n t b hl hg m1 m3 n0 n4=>
   rw[show eV [((.inr "frame" :wS),V.ref t1),(.inr "turns",.ref t2),(.inr "either",.ref t3)] (.inr (Dd.wd (.mk "turns" [.str l,.int m,.int n] (.cons t b .nil))))=some (.ref t2) by with_unfolding_all rfl];refine q1 t2 _ f2 s5 ((u5 _ _ (k4 _ _ (u3 _ _ Pc))).trans ?_);obtain⟨x1,x2,rfl⟩:=P6 hx;rw[show c6 (V.str (Dd.wd (.mk "turns" [.str l,.int m,.int n] (.cons t b .nil)))::([x1,x2,V.int n]++ys)) (some 4) none=ys from mf _ 4]
  |fr l t b hl hg=>
   rw[show eV [((.inr "frame" :wS),V.ref t1),(.inr "turns",.ref t2),(.inr "either",.ref t3)] (.inr (Dd.wd (.mk "frame" [.str l] (.cons t b .nil))))=some (.ref t1) by with_unfolding_all rfl];refine q1 t1 _ f1 s5 ((u5 _ _ (k4 _ _ (u3 _ _ e2))).trans ?_)
   cases hx with
   |cons h1 r=>
    cases r;rw[show c6 (V.str (Dd.wd (.mk "frame" [.str l] (.cons t b .nil)))::([_]++ys)) (some 2) none=ys from mf _ 2]
  |sm w ks ps f h n1 n2 n3=>
   have hv:eV [((.inr "frame" :wS),V.ref t1),(.inr "turns",.ref t2),(.inr "either",.ref t3)] (.inr w)=none:=by
    unfold eV;rw[List.find?_eq_none.mpr]
    .rfl
    .intro x hx;simp only[aP,cO,cN] at hx;rcases hx with rfl|rfl|rfl
     .simpa using λz=>n3 z.symm
     .simpa using λz=>n2 z.symm
     .simpa using λz=>n1 z.symm
   have X7 :eV [((.inr "frame" :wS),V.ref t1),(.inr "turns",.ref t2),(.inr "either",.ref t3)] (.inr (Dd.wd (.mk w ps .nil)))=none:=hv;rw[X7];refine q1 t4 _ (s4.free JN) s5 (af.trans ?_);have hy:DatAll H0 ys (bL .nil):=hy;rw[bL] at hy;cases hy;rfl
theorem gs(T:Txt K mg A):aT P w K mg base dQ 1 A.fP A.jK ["_law_deed"] KO:=
 (yZ T).imp λvs H Q E ⟨H0,v,d,e,sm,hd,ok,q⟩=>⟨H0,v,d,e,sm,hd,ok,λt ys H' h1 h2 h3 h4 _=>q t ys H' h1 h2 h3 h4⟩
theorem Km{J:It}{n k:Nat}{js:List Nat}{Y:Nat->V->Hp->Prop}{g:TG}{tt:TT}{te:TE}{σ:L2.St}{H:Hp}{Q:VK}(pb:Nat->Bool)(d:Nat->U')(F:HF J H n Y)(hlen:n<=sizeLine)
 (ja:∀(i:Nat) (x:V) (H' :Hp) (C1:V->Hp->Prop) (C0:Hp->Prop),i<n->ah H H'->Y i x H'->(pb i=true->∀v g6,ah H' g6->i3 g6 v (d i)->C1 v g6)->(pb i=false->∀g6,ah H' g6->C0 g6)->
  g x (yS k js σ) H' λmV H2=>gJ (yS k js σ) mV/\tt mV H2 λb H3=>if b=true then te mV H3 C1 else C0 H3)
 (hq:∀p H' ys,H p=none->ah H H'->H' p=some (.lst ys)->bI H' ys (((List.range n).filter pb).map d)->ys.length<=n->Q (.ref p) H'):
 nO J k js g tt te σ H Q:=by
 intro p hp;refine⟨λi m ys H' =>m=n - i/\i<=n/\ys.length<=i/\bI H' ys (((List.range i).filter pb).map d)/\H' p=some (.lst ys)/\ah H H',⟨n,Z,cG _,aK _,.nil,af,ah.upd hp⟩,?_⟩
 rintro i m ys H' ⟨rfl,hi,hy,hd,hl,hs⟩
 refine⟨hl,?_⟩;by_cases ky:i<n
 .refine .inr ⟨F.go i _ hs ky,by lia,λx g6 BR=> ?_⟩;obtain⟨s1,y1⟩:=F.BO i _ x g6 hs ky BR
  have et:(List.range (i+1)).filter pb=(List.range i).filter pb++(if pb i=true then[i] else[]):=by
   rw[List.range_succ,wm];cases hb:pb i<;>simp[hb]
  refine ja i x g6 _ _ ky (hs.trans s1) y1 (λhb v H3 s3 e3=> ?_) (λhb H3 s3=>⟨n - (i+1),by lia,Z,ky,by lia,?_,s3 _ _ (s1 _ _ hl),(hs.trans s1).trans s3⟩)
  .have BN:H3 p=some (.lst ys):=s3 _ _ (s1 _ _ hl)
   have kt:∀c xs,H3 c=some (.tup xs)->upd H3 p (.lst (ys++[v])) c=some (.tup xs):=λc xs e=>by
    rw[az (dw e BN (by intro z;cases z))];exact e
   refine⟨BN,n - (i+1),by lia,Z,ky,by rw[bu];show ys.length+1<=i+1;lia,?_,af,λc o e=> ?_⟩
   .rw[et,aB hb,iQ];exact((hd.kt (KT.same (s1.trans s3))).kt kt).append (.cons (e3.kt kt) .nil)
   .rw[az (aA e hp)];exact s3 _ _ (s1 _ _ (hs _ _ e))
  .rw[et,hb];simp only[wH,mJ,fG];exact hd.kt (KT.same (s1.trans s3))
 .have e:i=n:=by lia
  subst e;exact .inl ⟨F.stop _ _ hs (aK _),hq p H' ys hp hs hl hd hy⟩
theorem vI(l:List U'):(List.range l.length).map (λi=>l.getD i .none)=l:=by
 apply zF;intro i;rw[bX];by_cases h:i<l.length
 .rw[qu h,v7 h];simp[eh,h]
 .rw[nz (by rw[o7];lia),nz (by lia)];rfl
noncomputable def N7(d:Dd):List U':=d.bs.l.map λp=> .tuple (sL (nE p.2))
def Qr(n:Nat):Sp:=λvs H Q _=>∃H0 v t s,vs=[v]/\ah H0 H/\Dat H0 v (iS t (sL s))/\mD s/\eQ s<n/\eB s<=1000/\∀tt H',H tt=none->ah H H'->i3 H' (.ref tt) (.tuple (sL (nE s)))->Q (.ref tt) H'
theorem Mq(xs ys:ak):c6 (xs++ys) none (some (xs.length:Int))=xs:=by
 unfold c6;rw[HT.qo,HT.h9,List.drop_zero,zq,bu,ED (o6 _ _),List.take_left' Z]
theorem Cc(T:Txt K mg A)(n:Nat):aT P w K mg base dQ (1+n) A.vA A.wt ["_law_body_here"] (Qr n):=by
 induction n with
 |zero=>exact fg (by rintro vs H Q E ⟨H0,v,t,s,_,_,_,_,h,_⟩;exact iP _ h)
 |succ n ih=>
 show aT P w K mg base dQ ((1+n)+1) _ _ _ _;refine T.oE.F.ok jG (λvs H Q E h=> ?_) (λcB Ar outer s0 H vs Q E hr h=> ?_)
 .obtain⟨H0,v,t,s,rfl,_⟩:=h;rfl
 .obtain⟨H0,v,t,s,rfl,gW,hd,ok,dp,hm,q⟩:=h;obtain⟨a,vs,rfl,ha,hA⟩:=iI hd;have sl:=QC s;have vl:=tm hA;have LX:(1000:Nat)<sizeLine:=by decide
  refine⟨_,(aj (gf 1 jG.nd (bH dY)) (aj (AV (o_ (pv 0)) (jk 2 jG.nd) (aj (Hv 3 jG.nd ["_law_one"] 1 [] (Ab (cI (gs T) hr T.dO aC (aM (pv 2)) (hj:=by lia))) (λ_ _ _ _ _=>⟨(jk 0 (show(["_law_one"]:au).Nodup by decide+kernel)),uU,(cI ih hr T.oE aC (aM (pv 0)) (hj:=by lia))⟩)) (aq (bW (mz gP D' F' dB (pv 1) (aM (aL jF (dH JX (pv 2) bZ (bQ (aL i9 (iW br T.g7 Boot.«len» (aM (pv 2))) (iW br T.g7 Boot.«len» (aM (pv 3)))))) (Ox eL T.iX Boot.«tuple» (aM (pv 3)))))))))) (aq (aH (Ox eL T.iX Boot.«tuple» (aM (pv 1))))))),?_⟩;refine⟨m7,λfl pz=>⟨_,Z,a,t,Z,LW (ah.upd pz _ _ (gW _ _ ha)),?_⟩⟩;refine nt (K:=K) (t:=t) (a:=a) (xs:=vs) (λj σ H' =>∃(x2 x3:Option V) (ws:ak),σ=[some (.ref a),some (.ref fl),x2,x3]/\ah H H'/\H' fl=some (.lst ws)/\bI H' ws ((sL (nE s)).take j)) ⟨_,_,[],Z,ah.upd pz,af,.nil⟩ (by rintro j σ H' _ ⟨_,_,_,_,sm,_⟩;exact sm _ _ (gW _ _ ha)) ?_ ?_
  .rintro j x σ H' hx ⟨x2,x3,ws,rfl,sm,nC,tw⟩
   obtain⟨d,ed,tN⟩:=jI hA hx;have dm:=bD ed;have lu:=gF ok d dm;have LA:=gI d dm;have PX:=jP d dm;have wl:=Bu tw;rw[lW] at wl;have hj:=(c9.mp hx).1
   have ej:(sL (nE s))[j]? =some (dD (vX d)):=by
    rw[JY,bX,ed];rfl
   obtain⟨b,ks,xs,CL,rfl,p0⟩:=fu tN lu;have hlx:=p0.lx;have h4:=fR p0.f;rw[bu,gS] at h4;have X2:=jh p0.hy;refine⟨_,Z,H0,_,d,Z,gW.trans sm,tN,lu,λt1 ys H1 uG s1 hz hB=>⟨t1,Z,⟨_,bc.of hz⟩,?_⟩⟩;have bl:=jh hB
   have pl:(N7 d).length=ys.length:=by
    unfold N7;rw[a6,bl]
   refine Km (λ_=>true) (λi=>(N7 d).getD i .none) (rE (bc.of hz)).g (aU (show ys.length<=1000 by lia) (cT LX)) ?_ λil H2 wi hil s2 yT MV O0=> ?_
   .intro i y H3 C1 C0 hi s3 hy c1 c0;obtain⟨pp,ep,hp⟩:=jO hB hy;have pm:=bD ep;have zo:=hX (kq lu) pp pm;have Gv:=h8 pp pm;have Oh:=kI pp pm;rw[<-l_] at Gv;rw[<-qJ] at Oh
    have ec:(N7 d).getD i .none= .tuple (sL (nE pp.2)):=by
     unfold N7;rw[eh,bX,ep];rfl
    refine⟨(gJ.refl _).own (by decide),_,Z,H0,y,pp.1,pp.2,Z,((gW.trans sm).trans s1).trans s3,hp,zo,by lia,by lia,λt2 H4 _ s4 td=>c1 Z _ H4 s4 ?_⟩;rw[ec];exact td
   .rw[lr.mpr (λ_ _=>rfl),<-pl,vI] at MV;have wil:=Bu MV;have KL:=(sm.trans s1).trans s2;have uP:H2 b=some (.tup (.str d.wd::(xs++CL))):=KL _ _ (gW _ _ p0.e);have vH:=s2 _ _ (s1 _ _ nC)
    have eix:(((V.str d.wd::(xs++CL)).length:Nat):Int) - ((wi.length:Nat):Int)=(((V.str d.wd::xs).length:Nat):Int):=by
     simp only[bB,bu]
     lia
    have fin:∀(e:S') (H5:Hp),ah H2 H5->i3 H5 (.ref e) (dD (vX d))->∃(x2 x3:Option V) (Yh :ak),([some (V.ref a),some (.ref fl),some (.ref b),some (.ref il)]:L2.St)=[some (.ref a),some (.ref fl),x2,x3]/\ah H (upd H5 fl (.lst (ws++[.ref e])))/\upd H5 fl (.lst (ws++[.ref e])) fl=some (.lst Yh)/\bI (upd H5 fl (.lst (ws++[.ref e]))) Yh ((sL (nE s)).take (j+1)):=λe H5 s5 td=>by
     refine⟨_,_,ws++[.ref e],Z,fh pz (KL.trans s5),af,?_⟩;rw[wP ej];exact((tw.kt (KT.same ((s1.trans s2).trans s5))).snoc td).kt (KT.upd (s5 _ _ vH))
    have QQ:ws.length<sizeLine:=jc (show ws.length<=1000 by lia) LX;refine⟨_,Z,JT vH,_,Z,_,Z,b,_,Z,.inr (bc.of uP),_,Z,il,_,Z,.inl (cF.of yT),_,_,Z,Z,_,Z,b,_,Z,bc.of uP,?_,?_⟩
    .rw[eix]
     rintro ⟨_,hw⟩
     rw[HT.h9] at hw;simp only[bB,bu] at hw;have Yr:CL=[]:=qp (by lia);have hw0:wi=[]:=qp (by rw[Yr] at X2;simp only[m5] at X2;lia);subst Yr hw0;refine⟨_,Z,il,_,Z,.inl ⟨cF.of yT,λt5 Pn=> ?_⟩⟩;have u5:=ah.upd (o:= .tup []) Pn;refine⟨b,t5,_,_,Z,Z,bc.of (u5 _ _ uP),bc.of af,(λz=>nomatch z),?_,(λ_=>⟨fl,ws,_,Z,Z,u5 _ _ vH,QQ,fin b _ u5 ?_⟩),(λz=>absurd Z z)⟩
     .simp only[bB,bu,m5];exact aU (show _<=1000 by lia) (cT LX)
     .have hbs:d.bs.l=[]:=qp (by rw[<-X2];rfl);rw[IS,hbs];exact .tup (u5 _ _ uP) (.cons (.str _) (by rw[fG,mM,fG];exact zQ p0.fit p0.hx))
    .rw[eix];intro hw t4 JN;have XZ:c6 (V.str d.wd::(xs++CL)) none (some (((V.str d.wd::xs).length:Nat):Int))=V.str d.wd::xs:=Mq (V.str d.wd::xs) CL;rw[XZ];have u4:=ah.upd (o:= .tup (V.str d.wd::xs)) JN;refine⟨_,Z,il,_,Z,.inl ⟨cF.of (u4 _ _ yT),λt5 Pn=> ?_⟩⟩;have u5:=ah.upd (o:= .tup wi) Pn
     have wN:wi≠[]:=λz=>hw (by
      rw[z] at wil
      have Yr:CL.length=0:=by
       rw[X2,<-bl,<-pl,<-wil];rfl
      refine⟨Z,?_⟩;rw[HT.h9];simp only[bB,bu]
      lia)
     refine⟨t4,t5,_,_,Z,Z,bc.of (u5 _ _ af),bc.of af,(λz=>nomatch z),?_,(λz=>absurd z wN),λ_ t6 YL=> ?_⟩
     .simp only[bB];exact aU (show _<=1000 by lia) (cT LX)
     .have u6:=ah.upd (o:= .tup (V.str d.wd::xs++wi)) YL;have su:=(u4.trans u5).trans u6;refine⟨fl,ws,_,Z,Z,su _ _ vH,QQ,fin t6 _ su ?_⟩;rw[IS];exact .tup af (.cons (.str _) ((zQ p0.fit p0.hx).append (MV.kt (KT.same su))))
  .rintro σ H' ⟨x2,x3,ws,rfl,sm,Ib,tw⟩
   refine⟨_,Z,fl,ws,Z,.inl ⟨cF.of Ib,λtt EM=> ?_⟩⟩;refine q tt _ (sm.free EM) (sm.trans (ah.upd EM)) ?_;rw[vl,oq (by rw[JY,a6];exact aK _)] at tw;exact .tup af (tw.kt (KT.same (ah.upd EM)))
noncomputable def ZK(b:Ds):U':= .tuple [.int (jY b:Nat),.int (j9 b:Nat)]
theorem Kh{H:Hp}{v:V}{b:Ds}(h:i3 H v (ZK b)):∃t,v= .ref t/\H t=some (.tup [nI (jY b),nI (j9 b)]):=by
 cases h with
 |tup e h=>
  cases h with
  |cons a r=>
   cases r with
   |cons c r=>
    cases r;cases a;cases c;exact⟨_,Z,e⟩
def Vu(n:Nat):Sp:=λvs H Q _=>∃H0 v t s,vs=[v]/\ah H0 H/\Dat H0 v (iS t (sL s))/\mD s/\eQ s<n/\∀tt H',H tt=none->ah H H'->H' tt=some (.tup [nI (jY s),nI (j9 s)])->Q (.ref tt) H'
theorem Eu(T:Txt K mg A)(n:Nat):aT P w K mg base dQ (1+n) A.x_ A.xD ["_law_body_here"] (Vu n):=by
 induction n with
 |zero=>exact fg (by rintro vs H Q E ⟨H0,v,t,s,_,_,_,_,h,_⟩;exact iP _ h)
 |succ n ih=>
 show aT P w K mg base dQ ((1+n)+1) _ _ _ _;refine T.ql.F.ok cR (λvs H Q E h=> ?_) (λcB Ar outer s0 H vs Q E hr h=> ?_)
 .obtain⟨H0,v,t,s,rfl,_⟩:=h;rfl
 .obtain⟨H0,v,t,s,rfl,gW,hd,ok,dp,q⟩:=h;obtain⟨a,vs,rfl,ha,hA⟩:=iI hd;have vl:=tm hA;refine⟨_,(aj (gf 1 cR.nd ae) (aj (gf 2 cR.nd ae) (aj (AV (o_ (pv 0)) (jk 3 cR.nd) (aj (Hv 4 cR.nd ["_law_one"] 1 [] (Ab (cI (gs T) hr T.dO aC (aM (pv 3)) (hj:=by lia))) (λ_ _ _ _ _=>⟨(jk 0 (show(["_law_one"]:au).Nodup by decide+kernel)),uU,(cI ih hr T.ql aC (aM (pv 0)) (hj:=by lia))⟩)) (aq (bU (wn cK (cS aN (pv 3) ae) ai) (aq (IQ (i:=1) (j:=2) Z cR.nd Z Z (by decide) Z Z (ag (aL bA (pv 1) (cS aN (cS a8 (pv 4) ae) ae)) (aM (aL bA (aL bA (pv 2) (cS aN (cS a8 (pv 4) ae) ae)) ae))) (by rfl))) (aq (bU (wn cK (cS aN (pv 3) ae) ai) (aj (gf 1 cR.nd (aL bA (pv 1) (aL md (cS aN (pv 3) ae) (cS aN (cS a8 (pv 4) ae) ae)))) (aq (gf 2 cR.nd (aL bA (aL bA (pv 2) (aL md (cS aN (pv 3) ae) (aL bA (cS aN (cS a8 (pv 4) ae) ae) ae))) ae)))) (aq (bU (wn cK (cS aN (pv 3) ae) ai) (aj (gf 1 cR.nd (aL bA (aL bA (pv 1) (iW (kX Z) T.xU Boot.«max» (ag (cS aN (cS a8 (pv 4) ae) ae) (aM (cS aN (cS a8 (pv 4) ae) ae))))) ae)) (aq (gf 2 cR.nd (aL bA (aL bA (pv 2) (iW (kX Z) T.xU Boot.«max» (ag (cS aN (cS a8 (pv 4) ae) ae) (aM (cS aN (cS a8 (pv 4) ae) ae))))) ae)))) (aq (gf 2 cR.nd (aL bA (pv 2) ae))))))))))) (aq (aH (bt (ag (pv 1) (aM (pv 2))))))))),?_⟩;refine⟨_,Z,a,t,Z,LW (gW _ _ ha),?_⟩;refine nt (K:=K) (t:=t) (a:=a) (xs:=vs) (λj σ H' =>∃(x3 x4:Option V),σ=[some (.ref a),some (nI ((s.l.take j).map BD).sum),some (nI ((s.l.take j).map Ba).sum),x3,x4]/\ah H H') ⟨_,_,Z,ah.refl H⟩ (by rintro j σ H' _ ⟨_,_,_,sm⟩;exact sm _ _ (gW _ _ ha)) ?_ ?_
  .rintro j x σ H' hx ⟨x3,x4,rfl,sm⟩
   obtain⟨d,ed,tN⟩:=jI hA hx;have dm:=bD ed;have lu:=gF ok d dm;have LA:=gI d dm;obtain⟨b,ks,xs,CL,rfl,p0⟩:=fu tN lu;have h4:=fR p0.f;rw[bu,gS] at h4;have X2:=jh p0.hy;refine⟨_,Z,H0,_,d,Z,gW.trans sm,tN,lu,λt1 ys H1 uG s1 hz hB=>⟨t1,Z,⟨_,bc.of hz⟩,?_⟩⟩;have bl:=jh hB;refine Km (λ_=>true) (λi=>(d.bs.l.map λp=>ZK p.2).getD i .none) (rE (bc.of hz)).g (aU (show ys.length<=4 by lia) (by decide)) ?_ λil H2 wi hil s2 yT MV O0=> ?_
   .intro i y H3 C1 C0 hi s3 hy c1 c0;obtain⟨pp,ep,hp⟩:=jO hB hy;have pm:=bD ep;have zo:=hX (kq lu) pp pm;have Gv:=h8 pp pm;rw[<-l_] at Gv
    have ec:(d.bs.l.map λp=>ZK p.2).getD i .none=ZK pp.2:=by
     rw[eh,bX,ep];rfl
    refine⟨(gJ.refl _).own (by decide),_,Z,H0,y,pp.1,pp.2,Z,((gW.trans sm).trans s1).trans s3,hp,zo,by lia,λt2 H4 _ s4 td=>c1 Z _ H4 s4 ?_⟩;rw[ec];exact .tup td (.cons (.int _) (.cons (.int _) .nil))
   .rw[lr.mpr (λ_ _=>rfl),bl,show d.bs.l.length=(d.bs.l.map λp=>ZK p.2).length by rw[a6],vI] at MV;have KL:=(sm.trans s1).trans s2;have uP:H2 b=some (.tup (.str d.wd::(xs++CL))):=KL _ _ (gW _ _ p0.e);have hx0:=p0.hx;have tw:=nV BD ed;have tl:=nV Ba ed;generalize ((s.l.take j).map BD).sum=wA at tw ⊢;generalize ((s.l.take j).map Ba).sum=lA at tl ⊢;rw[tw,tl]
    cases jaf lu with
    |ei t' b' u c=>
     simp only[Dd.bs,Bs.l,cP,mM] at MV
     cases MV with
     |cons i1 r=>
      cases r with
      |cons i2 r=>
       cases r;obtain⟨q1,rfl,g1⟩:=Kh i1;obtain⟨q2,rfl,g2⟩:=Kh i2;refine⟨_,Z,b,_,0,_,Z,Z,bc.of uP,gU _ _,Z,_,Z,dG (dZ (show("either" :Str)≠ "frame" by decide+kernel)) ⟨_,Z,b,_,0,_,Z,Z,bc.of uP,gU _ _,Z,_,Z,dG (dZ (show("either" :Str)≠ "turns" by decide+kernel)) ⟨_,Z,b,_,0,_,Z,Z,bc.of uP,gU _ _,Z,_,Z,XV ?_⟩⟩⟩;have mx:∀x y:Nat,((max x (max y 0):Nat):Int)=if(y:Int)>(x:Int) then(y:Int) else(x:Int):=λx y=>by split<;>lia
       refine⟨_,Z,_,Z,il,_,0,_,Z,Z,cF.of yT,Z,q1,_,0,_,Z,Z,bc.of g1,Z,_,Z,il,_,1,_,Z,Z,cF.of yT,Z,q2,_,0,_,Z,Z,bc.of g2,Z,_,_,Z,_,_,Z,Z,_,1,Z,Z,?_⟩;refine⟨_,Z,_,Z,il,_,0,_,Z,Z,cF.of yT,Z,q1,_,1,_,Z,Z,bc.of g1,Z,_,Z,il,_,1,_,Z,Z,cF.of yT,Z,q2,_,1,_,Z,Z,bc.of g2,Z,_,_,Z,_,_,Z,Z,_,1,Z,Z,some (.ref b),some (.ref il),?_,KL⟩;rw[BD,Ba,aB Z,aB Z,tP,tP,tP,ug,ug,ug]
       have z1:nI (wA+(1+qy [jY b',jY c]))= .int ((wA:Int)+(if((jY c:Nat):Int)>((jY b' :Nat):Int) then((jY c:Nat):Int) else((jY b' :Nat):Int))+1):=by
        rw[<-mx];show V.int ((wA+(1+max (jY b') (max (jY c) 0)):Nat):Int)=_
        congr 1
        lia
       have z2:nI (lA+(1+qy [j9 b',j9 c]))= .int ((lA:Int)+(if((j9 c:Nat):Int)>((j9 b' :Nat):Int) then((j9 c:Nat):Int) else((j9 b' :Nat):Int))+1):=by
        rw[<-mx];show V.int ((lA+(1+max (j9 b') (max (j9 c) 0)):Nat):Int)=_
        congr 1
        lia
       rw[z1,z2];rfl
    |tu l m n' t' b' hl hg m1 m3 n0 n4=>
     simp only[Dd.bs,Bs.l,cP,mM] at MV;obtain⟨x1,x2,rfl⟩:=P6 hx0
     cases MV with
     |cons i1 r=>
      cases r;obtain⟨q1,rfl,g1⟩:=Kh i1;refine⟨_,Z,b,_,0,_,Z,Z,bc.of uP,gU _ _,Z,_,Z,dG (dZ (show("turns" :Str)≠ "frame" by decide+kernel)) ⟨_,Z,b,_,0,_,Z,Z,bc.of uP,gU _ _,Z,_,Z,XV ?_⟩⟩;refine⟨_,Z,_,Z,b,_,3,_,Z,Z,bc.of uP,bb (j:=3) Z,_,Z,il,_,0,_,Z,Z,cF.of yT,Z,q1,_,0,_,Z,Z,bc.of g1,Z,n',_,Z,Z,.inl ⟨by lia,by lia⟩,_,_,Z,Z,?_⟩;refine⟨_,Z,_,Z,b,_,3,_,Z,Z,bc.of uP,bb (j:=3) Z,_,Z,il,_,0,_,Z,Z,cF.of yT,Z,q1,_,1,_,Z,Z,bc.of g1,Z,_,1,Z,Z,n',_,Z,Z,.inl ⟨by lia,by lia⟩,_,_,Z,Z,_,1,Z,Z,some (.ref b),some (.ref il),?_,KL⟩;rw[BD,Ba,ax (by decide+kernel),aB Z,ax (by decide+kernel),aB Z,tP,tP,ug,ug]
      have z1:nI (wA+X5 [.str l,.int m,.int n']*[jY b'].headD 0)= .int ((wA:Int)+n' *((jY b' :Nat):Int)):=by
       show V.int ((wA+n'.toNat*jY b' :Nat):Int)=_;rw[sg,ze,za n0]
      have z2:nI (lA+(X5 [.str l,.int m,.int n']*(1+[j9 b'].headD 0)+1))= .int ((lA:Int)+n' *(((j9 b' :Nat):Int)+1)+1):=by
       show V.int ((lA+(n'.toNat*(1+j9 b')+1):Nat):Int)=_;rw[sg,sg,ze,za n0,sg,Int.add_comm ((1:Nat):Int),<-Int.add_assoc];rfl
      rw[z1,z2];rfl
    |fr l t' b' hl hg=>
     simp only[Dd.bs,Bs.l,cP,mM] at MV
     cases MV with
     |cons i1 r=>
      cases r;obtain⟨q1,rfl,g1⟩:=Kh i1;refine⟨_,Z,b,_,0,_,Z,Z,bc.of uP,gU _ _,Z,_,Z,XV ?_⟩;refine⟨_,Z,_,Z,il,_,0,_,Z,Z,cF.of yT,Z,q1,_,0,_,Z,Z,bc.of g1,Z,_,_,Z,Z,_,Z,_,Z,il,_,0,_,Z,Z,cF.of yT,Z,q1,_,1,_,Z,Z,bc.of g1,Z,_,_,Z,Z,_,2,Z,Z,_,_,Z,some (.ref b),some (.ref il),?_,KL⟩;rw[BD,Ba,ax (by decide+kernel),ax (by decide+kernel),ax (by decide+kernel),ax (by decide+kernel),aB Z,tP,tP,ug,ug]
      have z2:nI (lA+(1+[j9 b'].headD 0+1))= .int ((lA:Int)+((j9 b' :Nat):Int)+2):=by
       show V.int ((lA+(1+j9 b' +1):Nat):Int)=_
       congr 1
       lia
      have z1:nI (wA+[jY b'].sum)= .int ((wA:Int)+((jY b' :Nat):Int)):=by
       show V.int ((wA+(jY b' +0):Nat):Int)=_
       congr 1
      rw[z1,z2];rfl
    |sm w ks ps f h n1 n2 n3=>
     refine⟨_,Z,b,_,0,_,Z,Z,bc.of uP,gU _ _,Z,_,Z,dG (dZ n3) ⟨_,Z,b,_,0,_,Z,Z,bc.of uP,gU _ _,Z,_,Z,dG (dZ n2) ⟨_,Z,b,_,0,_,Z,Z,bc.of uP,gU _ _,Z,_,Z,dG (dZ n1) ?_⟩⟩⟩;refine⟨_,Z,_,1,Z,Z,some (.ref b),some (.ref il),?_,KL⟩;rw[BD,Ba,ax n1,ax n2,ax n1,ax n2,ax n3,tP];rfl
  .rintro σ H' ⟨x3,x4,rfl,sm⟩
   refine⟨_,Z,_,Z,gY,λtt EM=>q tt _ (sm.free EM) (sm.trans (ah.upd EM)) ?_⟩;rw[af,vl,gi,<-Iy,<-Ik]
abbrev LR:=(Dd×au)×Nat
mutual
noncomputable def Hh:Dd->au->Nat->List LR
 | .mk w ps bs,ar,k=>((.mk w ps bs,ar),k)::Jg bs (oI (.mk w ps bs) ar) (k+1)
noncomputable def vM:Ds->au->Nat->List LR
 | .nil,_,_=>[]
 | .cons d r,ar,k=>Hh d ar k++vM r ar k
noncomputable def Jg:Bs->au->Nat->List LR
 | .nil,_,_=>[]
 | .cons _ b r,ar,k=>vM b ar k++Jg r ar k
end
theorem IG(ar:au)(k:Nat):∀s:Ds,vM s ar k=s.l.flatMap λd=>Hh d ar k
 | .nil=>by rw[vM];rfl
 | .cons d r=>by rw[vM,IG ar k r];rfl
theorem MY(ar:au)(k:Nat):∀b:Bs,Jg b ar k=b.l.flatMap λp=>vM p.2 ar k
 | .nil=>by rw[Jg];rfl
 | .cons t b r=>by rw[Jg,MY ar k r];rfl
theorem NJ(d:Dd)(ar:au)(k:Nat):Hh d ar k=((d,ar),k)::d.bs.l.flatMap λp=>vM p.2 (oI d ar) (k+1):=by
 cases d with
 |mk w ps bs=>rw[Hh,MY];rfl
mutual
theorem EK:∀(d:Dd) (ar:au) (k:Nat),(Hh d ar k).length=1+jM d
 | .mk w ps bs,ar,k=>by rw[Hh,bB,Ka bs,jM];lia
theorem mN:∀(s:Ds) (ar:au) (k:Nat),(vM s ar k).length=eB s
 | .nil,ar,k=>by rw[vM,eB];rfl
 | .cons d r,ar,k=>by rw[vM,bu,EK d,mN r,eB]
theorem Ka:∀(b:Bs) (ar:au) (k:Nat),(Jg b ar k).length=mX b
 | .nil,ar,k=>by rw[Jg,mX];rfl
 | .cons t b r,ar,k=>by rw[Jg,bu,mN b,Ka r,mX]
end
def Vo(N:S'->Prop)(H0 H:Hp)(v:V)(r:LR):Prop:=∃t x u,v= .ref t/\H t=some (.tup [x,.ref u,nI r.2])/\Dat H0 x (dD r.1.1)/\N u/\H u=some (.lst (r.1.2.map V.str))
structure hJ(N:S'->Prop)(H0 H:Hp)(zs:ak)(rs:List LR):Prop where
 len:zs.length=rs.length
 at_:∀(i:Nat) v,zs[i]? =some v->∃r,rs[i]? =some r/\Vo N H0 H v r
theorem hJ.same{N:S'->Prop}{H0 H H' :Hp}{zs:ak}{rs:List LR}(h:hJ N H0 H zs rs)(s:ah H H'):hJ N H0 H' zs rs:=⟨h.len,λi v e=>by
 obtain⟨r,e1,t,x,u,f1,f2,f3,f4,f5⟩:=h.at_ i v e;exact⟨r,e1,t,x,u,f1,s _ _ f2,f3,f4,s _ _ f5⟩⟩
theorem hJ.upd{N:S'->Prop}{H0 H:Hp}{zs ws:ak}{rs:List LR}{fl:S'}{o:HO}(h:hJ N H0 H zs rs)(hn:¬N fl)(hf:H fl=some (.lst ws)):hJ N H0 (upd H fl o) zs rs:=⟨h.len,λi v e=>by
 obtain⟨r,e1,t,x,u,f1,f2,f3,f4,f5⟩:=h.at_ i v e;refine⟨r,e1,t,x,u,f1,?_,f3,f4,?_⟩
 .rw[az (dw f2 hf (λz=>nomatch z))];exact f2
 .rw[az (λz:u=fl=>hn (z▸f4))];exact f5⟩
theorem hJ.imp{N N' :S'->Prop}{H0 H:Hp}{zs:ak}{rs:List LR}(h:hJ N H0 H zs rs)(i:∀c,N c->N' c):hJ N' H0 H zs rs:=⟨h.len,λj v e=>by
 obtain⟨r,e1,t,x,u,f1,f2,f3,f4,f5⟩:=h.at_ j v e;exact⟨r,e1,t,x,u,f1,f2,f3,i u f4,f5⟩⟩
theorem hJ.nil{N:S'->Prop}{H0 H:Hp}:hJ N H0 H [] []:=⟨Z,λi v e=>by cases e⟩
theorem hJ.app{N:S'->Prop}{H0 H:Hp}{zs ws:ak}{rs qs:List LR}(h:hJ N H0 H zs rs)(g:hJ N H0 H ws qs):hJ N H0 H (zs++ws) (rs++qs):=⟨by rw[bu,bu,h.len,g.len],λi v e=>by
 have hl:=h.len;by_cases hi:i<zs.length
 .rw[ip hi] at e;rw[ip (by lia)];exact h.at_ i v e
 .rw[km (by lia)] at e;rw[km (by lia),<-hl];exact g.at_ _ v e⟩
theorem hJ.one{N:S'->Prop}{H0 H:Hp}{v:V}{r:LR}(h:Vo N H0 H v r):hJ N H0 H [v] [r]:=⟨Z,λi w e=>by
 cases i with
 |zero=>cases e;exact⟨r,Z,h⟩
 |succ i=>cases e⟩
theorem Dt(w:Str):HQ (.str w) [.str "frame",.str "turns"]=dX w:=by
 have:=nG w ["frame","turns"];rw[show(["frame","turns"]:au).map V.str=[V.str "frame",.str "turns"] from Z] at this;rw[this];unfold dX;rw[mU];simp
def LK(n:Nat):Sp:=λvs H Q _=>∃H0 v t s u ar k,vs=[v,.ref u,nI k]/\ah H0 H/\Dat H0 v (iS t (sL s))/\mD s/\eQ s<n/\H u=some (.lst (ar.map V.str))/\eB s<=1000/\ar.length+eQ s<1000/\
 ∀l zs H',H l=none->ah H H'->H' l=some (.lst zs)->hJ (λc=>c=u\/(H c=none/\c≠l)) H0 H' zs (vM s ar k)->Q (.ref l) H'
theorem qQ(T:Txt K mg A)(n:Nat):aT P w K mg base dQ (1+n) A.tJ A.tU ["_law_body_here","_law_around","_law_down"] (LK n):=by
 induction n with
 |zero=>exact fg (by rintro vs H Q E ⟨H0,v,t,s,u,ar,k,_,_,_,_,h,_⟩;exact iP _ h)
 |succ n ih=>
 show aT P w K mg base dQ ((1+n)+1) _ _ _ _;refine T.jJ.F.ok gn (λvs H Q E h=> ?_) (λcB Ar outer s0 H vs Q E hr h=> ?_)
 .obtain⟨H0,v,t,s,u,ar,k,rfl,_⟩:=h;rfl
 .obtain⟨H0,v,t,s,u,ar,k,rfl,LO,hd,ok,dp,hu,hmn,Qj,q⟩:=h;obtain⟨a,vs,rfl,ha,hA⟩:=iI hd;have LX:(1000:Nat)<=sizeLine:=by decide
  refine⟨_,(aj (gf 3 gn.nd (bH dY)) (aj (AV (o_ (pv 0)) (jk 4 gn.nd) (aj (bW (mz gP D' F' dB (pv 3) (aM (bt (ag (pv 4) (ag (pv 1) (aM (pv 2)))))))) (aj (gf 5 gn.nd (q_ (wn kW (cS aN (pv 4) ae) (bt (ag ai (aM ai)))) (aL fM (bH (aM (cS aN (pv 4) ae))) (pv 1)) (pv 1))) (aq (AV (Ab (cI (gs T) hr T.dO aC (aM (pv 4)) (hj:=by lia))) (jk 6 gn.nd) (aq (bW (mz gP zh type_list_extend wW (pv 3) (aM (cI ih hr T.jJ aC (ag (pv 6) (ag (pv 5) (aM (aL bA (pv 2) ae)))) (hj:=by lia))))))))))) (aq (aH (pv 3))))),?_⟩;refine⟨m7,λfl pz=>⟨_,Z,a,t,Z,LW (fh pz (ah.refl H) _ _ (LO _ _ ha)),?_⟩⟩
  have nfl:¬(fl=u\/(H fl=none/\fl≠fl)):=by
   rintro (z|⟨_,z⟩)
   .rw[z,hu] at pz;cases pz
   .exact z rfl
  refine nt (K:=K) (t:=t) (a:=a) (xs:=vs) (λi σ H' =>∃(x4 x5 x6:Option V) (zs:ak),σ=[some (.ref a),some (.ref u),some (nI k),some (.ref fl),x4,x5,x6]/\ah H H'/\H' fl=some (.lst zs)/\hJ (λc=>c=u\/(H c=none/\c≠fl)) H0 H' zs ((s.l.take i).flatMap λd=>Hh d ar k)) ⟨_,_,_,[],Z,fh pz (ah.refl H),af,.nil⟩ (by rintro i σ H' _ ⟨_,_,_,_,_,sm,_⟩;exact sm _ _ (LO _ _ ha)) ?_ ?_
  .rintro i x σ H' hx ⟨x4,x5,x6,zs,rfl,sm,nC,R⟩
   obtain⟨d,ed,tN⟩:=jI hA hx;have dm:=bD ed;have lu:=gF ok d dm;have LA:=gI d dm;have PX:=jP d dm;have tl:=kR (λd=>Hh d ar k) s.l (i+1);rw[<-IG,mN,iB (λd=>Hh d ar k) ed,bu,EK,<-R.len] at tl;obtain⟨b,ks,xs,CL,rfl,p0⟩:=fu tN lu;refine⟨_,Z,JT nC,_,Z,_,Z,_,Z,F9,λt1 uG=>⟨fl,zs,.ref t1,Z,Z,(ah.upd uG) _ _ nC,by lia,?_⟩⟩;have abp :=(ah.upd (o:= .tup [V.ref b,.ref u,nI k]) uG) _ _ nC;have s1:ah H (upd (upd H' t1 (.tup [.ref b,.ref u,nI k])) fl (.lst (zs++[.ref t1]))):=fh pz (sm.trans (ah.upd uG));have vH:upd (upd H' t1 (.tup [.ref b,.ref u,nI k])) fl (.lst (zs++[.ref t1])) fl=some (.lst (zs++[.ref t1])):=af;have row:Vo (λc=>c=u\/(H c=none/\c≠fl)) H0 (upd H' t1 (.tup [.ref b,.ref u,nI k])) (.ref t1) ((d,ar),k):=⟨t1,.ref b,u,Z,af,tN,.inl Z,ah.upd uG _ _ (sm _ _ hu)⟩
   have R2:hJ (λc=>c=u\/(H c=none/\c≠fl)) H0 (upd (upd H' t1 (.tup [.ref b,.ref u,nI k])) fl (.lst (zs++[.ref t1]))) (zs++[.ref t1]) (((s.l.take i).flatMap λd=>Hh d ar k)++[((d,ar),k)]):=
    ((R.same (ah.upd uG)).app (.one row)).upd nfl abp
   generalize upd (upd H' t1 (.tup [.ref b,.ref u,nI k])) fl (.lst (zs++[.ref t1]))=H2 at s1 vH R2 ⊢;have p:=p0.same (LO.trans s1)
   have hil:(oI d ar).length<=ar.length+1:=by
    unfold oI
    split
    .exact aK _
    .exact uX _
   refine⟨_,Z,b,_,0,_,Z,Z,bc.of p.e,gU _ _,gY,λt2 wU=> ?_⟩;have u2:=ah.upd (o:= .tup [V.str "frame",.str "turns"]) wU;refine⟨t2,_,Z,.inr (bc.of af),Z,Z,_,Z,?_⟩;show if HQ (V.str d.wd) [.str "frame",.str "turns"]=true then _ else _
   rw[Dt];generalize upd H2 t2 (.tup [V.str "frame",.str "turns"])=Hb at u2 ⊢;apply jat (c:=dX d.wd) (G:=λu' H3=>ah H2 H3/\H3 u' =some (.lst ((oI d ar).map V.str))/\(u' =u\/(H u' =none/\u'≠fl)))
   .intro hb k;obtain⟨Qz,CU⟩:=p0.jg hb;have pe:=p.e;rw[CU] at pe;refine⟨_,Z,b,_,1,_,Z,Z,bc.of (u2 _ _ pe),bb (j:=1) Z,y8,λt3 qi=>⟨_,Z,t3,u,_,_,Z,Z,af,ah.upd qi _ _ (u2 _ _ (s1 _ _ hu)),?_,λu' JN=> ?_⟩⟩
    .rw[a6];show 1+ar.length<=_
     lia
    have s3:=(u2.trans (ah.upd (o:= .lst [V.str (jg d)]) qi)).trans (ah.upd (o:= .lst ([V.str (jg d)]++ar.map V.str)) JN)
    have hN:u' =u\/(H u' =none/\u'≠fl):=by
     have z:=(u2.trans (ah.upd (o:= .lst [V.str (jg d)]) qi)).free JN;exact .inr ⟨s1.free z,λz' =>by rw[z',vH] at z;cases z⟩
    have Pj:upd (upd Hb t3 (.lst [V.str (jg d)])) u' (.lst ([V.str (jg d)]++ar.map V.str)) u' =some (.lst ((oI d ar).map V.str)):=by
     rw[af];unfold oI;rw[hb];rfl
    generalize upd (upd Hb t3 (.lst [V.str (jg d)])) u' (.lst ([V.str (jg d)]++ar.map V.str))=H3 at s3 Pj ⊢;exact k u' H3 ⟨s3,Pj,hN⟩
   .intro hb k;refine⟨_,Z,k u Hb ⟨u2,?_,.inl Z⟩⟩;unfold oI;rw[hb];exact u2 _ _ (s1 _ _ hu)
   .rintro u' H3 ⟨s3,Pj,hN⟩
    refine⟨_,Z,H0,_,d,Z,(LO.trans s1).trans s3,tN,lu,λl ys H4 hl4 s4 hz hB=>⟨l,Z,⟨_,bc.of hz⟩,?_⟩⟩;have IT:=s4 _ _ (s3 _ _ vH);have XD:l≠fl:=(aA (s3 _ _ vH) hl4).symm;refine D_ (K:=K) (a:=l) (xs:=ys) (λj σ H5=>∃(x6:Option V) (Hg :ak),σ=[some (.ref a),some (.ref u),some (nI k),some (.ref fl),some (.ref b),some (.ref u'),x6]/\Kept fl H4 H5/\H5 fl=some (.lst Hg)/\hJ (λc=>c=u\/(H c=none/\c≠fl)) H0 H5 Hg (((s.l.take i).flatMap λd=>Hh d ar k)++((d,ar),k)::(d.bs.l.take j).flatMap λp=>vM p.2 (oI d ar) (k+1))) ⟨x6,_,Z,Kept.refl _ _,IT,R2.same (s3.trans s4)⟩ (by rintro i σ H' _ ⟨_,_,_,k,_⟩;exact bc.of (k _ _ XD hz)) ?_ ?_
    .rintro j y σ H5 hy ⟨x6,Hg,rfl,k5,rj,R5⟩
     obtain⟨pp,ep,hp⟩:=jO hB hy;have pm:=bD ep;have zo:=hX (kq lu) pp pm;have Gv:=h8 pp pm;have Oh:=kI pp pm;rw[<-l_] at Gv;rw[<-qJ] at Oh;have tl2:=kR (λp:Bool×Ds=>vM p.2 (oI d ar) (k+1)) d.bs.l (j+1);have ll:=EK d ar k;rw[NJ,bB] at ll;rw[iB (λp:Bool×Ds=>vM p.2 (oI d ar) (k+1)) ep,bu,mN] at tl2;have r5l:=R5.len;rw[bu,bB,<-R.len] at r5l;have SH5:ah H H5:=λc o e=>k5 c o (aA e pz) (s4 _ _ (s3 _ _ (s1 _ _ e)));have hu5:H5 u' =some (.lst ((oI d ar).map V.str)):=k5 _ _ (λz=>nfl (z▸hN)) (s4 _ _ Pj);refine⟨_,Z,JT rj,_,Z,_,Z,_,Z,_,1,Z,Z,H0,y,pp.1,pp.2,u',oI d ar,k+1,Z,LO.trans SH5,hp,zo,by lia,hu5,by lia,by lia,λl2 X4 H6 n6 s6 hz6 R6=>⟨fl,l2,Hg,X4,Z,Z,s6 _ _ rj,hz6,?_,some y,Hg ++X4,Z,?_,af,?_⟩⟩
     .have:=R6.len;rw[mN] at this
      lia
     .exact λc o hc e=>by
       rw[az hc];exact s6 _ _ (k5 c o hc e)
     .rw[iB (λp:Bool×Ds=>vM p.2 (oI d ar) (k+1)) ep,<-zT,<-Eb];refine((R5.same s6).app (R6.imp λc hc=> ?_)).upd nfl (s6 _ _ rj);rcases hc with rfl|⟨z1,z2⟩
      .exact hN
      .exact .inr ⟨SH5.free z1,λz=>by rw[z,rj] at z1;cases z1⟩
    .rintro σ H5 ⟨x6,Hg,rfl,k5,rj,R5⟩
     refine⟨_,_,_,Hg,Z,λc o e=>k5 c o (aA e pz) (s4 _ _ (s3 _ _ (s1 _ _ e))),rj,?_⟩;rw[jh hB,gi,<-NJ,<-iB (λd=>Hh d ar k) ed] at R5;exact R5
  .rintro σ H' ⟨x4,x5,x6,zs,rfl,sm,nC,R⟩
   refine⟨_,Z,q fl zs H' pz sm nC ?_⟩;rw[tm hA,gi,<-IG] at R;exact R
theorem fj{n:Nat}(h:n<=100000):n<sizeLine:=jc h (by decide)
def Lt(x:Str):Prop:=∀c∈x.cps.toList,dC c=true
theorem Lt.app{x y:Str}(h:Lt x)(h' :Lt y):Lt (x++y):=by
 intro c hc;rcases mem_cps_append.mp hc with hc|hc
 .exact h c hc
 .exact h' c hc
theorem Lt.slice{x:Str}(h:Lt x)(l u:Option Int):Lt (Txt.slice x l u):=by
 intro c hc;unfold Txt.slice at hc
 split at hc
 .exact h c hc
 .rw[ET] at hc;obtain⟨i,_,hi⟩:=wo.mp hc;exact h c (Array.mem_toList_iff.mpr (Array.mem_of_getElem? hi))
theorem Lt.one{c:Nat}(h:dC c=true):Lt ⟨#[c]⟩:=by
 intro d hd;have hd:d∈[c]:=hd;rw[gv.mp hd];exact h
theorem Lt.name{x:Str}(h:Lt x)(h1:1<=x.length)(h6:x.length<=6):cv x=true:=by
 unfold cv;rw[aS h1,aS h6,a7.mpr h];rfl
theorem iU{x:Str}{j:Nat}(h:j<=x.length):(Txt.slice x none (some (j:Int))).length=j:=by
 have hl:x.cps.toList.length=x.length:=rfl;rw[rJ.mp (slice_closes_toL (x:=x) (j:=(j:Int)) (by lia) (by lia))];show(((x.cps.toList.drop (0:Int).toNat).take ((j:Int) - 0).toNat).toArray).size=j;rw[bJ,lW,ow];have e1:((j:Int) - 0).toNat=j:=by lia
 have e2:(0:Int).toNat=0:=rfl;rw[e1,e2]
 lia
theorem qS{x:Str}{j:Nat}(h:j<=x.length):(Txt.slice x (some (j:Int)) none).length=x.length - j:=by
 have hl:x.cps.toList.length=x.length:=rfl;rw[slice_from_eq (x:=x) (i:=(j:Int)) (b:=x.length) (by lia) (by lia) Z];show(((x.cps.toList.drop (j:Int).toNat).take ((x.length:Int) - (j:Int)).toNat).toArray).size=x.length - j;rw[bJ,lW,ow];have e1:((x.length:Int) - (j:Int)).toNat=x.length - j:=by lia
 have e2:(j:Int).toNat=j:=by lia
 rw[e1,e2]
 lia
theorem sj{p:Str->Prop}:∀{ys:ak},(∀v∈ys,∃x,v= .str x/\p x)->∃xs:au,ys=xs.map V.str/\∀x∈xs,p x
 |[],_=>⟨[],Z,λx hx=>by cases hx⟩
 |v::r,h=>by
  obtain⟨x,rfl,hx⟩:=h v c5;obtain⟨xs,rfl,CU⟩:=sj (ys:=r) λu hu=>h u (cw _ hu)
  exact⟨x::xs,Z,λy hy=>by
   rcases aP.mp hy with rfl|hy
   .exact hx
   .exact CU y hy⟩
theorem rV{H:Hp}{Q:VK}{i:Int}(h0:0<=i)(h1:i<26)(q:∀c,dC c=true->Q (.str ⟨#[c]⟩) H):Qq (.str "abcdefghijklmnopqrstuvwxyz") (.int i) H Q:=by
 obtain⟨j,rfl⟩:∃j:Nat,i=j:=⟨i.toNat,by lia⟩;have e:("abcdefghijklmnopqrstuvwxyz" :Str).cps.toList=(List.range 26).map (· +97):=by decide+kernel
 have hj:j<26:=by lia
 refine⟨_,_,j+97,Z,Z,by decide+kernel,?_,q _ ?_⟩
 .refine bb ?_;rw[e,bX,qu hj];rfl
 .unfold dC;rw[aS (by lia),aS (by lia)];rfl
section
variable{X:Cx}{c:V'}{a b:List Stmt}{tc:TT}{t u:TS}{pos:Pos}
theorem _root_.L2.cg:DY X [] MK:=⟨bf⟩
theorem _root_.L2.eO(hc:PT X c tc)(ha:DY X a t)(hb:DY X b u):VY X (.If c a b pos) (Xa tc t u):=⟨bU hc ha.h hb.h⟩
end
theorem rg{lo:Int}{n k m k0:Nat}{b:S'}{js:List Nat}{g:TG}{te:TE}{σ:L2.St}{H:Hp}{Q:VK}(R:V->Prop)(hlen:n<=sizeLine)(B:dg H b k0)
 (ja:∀(i:Nat) (H' :Hp) (C1:V->Hp->Prop),i<n->Kept b H H'->dg H' b (k0+i*m)->(∀v g6,R v->dg g6 b (k0+i*m+m)->Kept b H' g6->C1 v g6)->
  g (.int (lo+i)) (yS k js σ) H' λmV H2=>gJ (yS k js σ) mV/\te mV H2 C1)
 (hq:∀p H' ys,H p=none->Kept b H H'->dg H' b (k0+n*m)->H' p=some (.lst ys)->ys.length=n->(∀v∈ys,R v)->Q (.ref p) H'):
 nO (Tx lo n) k js g Zx te σ H Q:=by
 intro p hp;have hpb:p≠b:=B.ne hp
 refine⟨λi m' ys H' =>m' =n - i/\i<=n/\ys.length=i/\H' p=some (.lst ys)/\Kept b H H'/\dg H' b (k0+i*m)/\∀v∈ys,R v,
  ⟨n,Z,cG _,Z,af,(ah.upd hp).kept,by rw[Nat.zero_mul];exact B.same (ah.upd hp),λv e=>by cases e⟩,?_⟩
 rintro i m' ys H' ⟨rfl,hi,BR,hl,hs,hB,hE⟩
 refine⟨hl,?_⟩;by_cases ky:i<n
 .refine .inr ⟨ky,by lia,λx g6 hy=> ?_⟩;obtain⟨rfl,rfl⟩:=hy;refine ja i _ _ ky hs hB λv H4 r4 B4 s4=> ?_;have Hd:H4 p=some (.lst ys):=s4 _ _ hpb hl;refine⟨Hd,n - (i+1),by lia,Z,ky,by simp[BR],af,λc o hc e=> ?_,?_,λv' e=> ?_⟩
  .rw[az (aA e hp)];exact s4 _ _ hc (hs _ _ hc e)
  .obtain⟨x,y,z,hb,r⟩:=B4;refine⟨x,y,z,?_,?_⟩
   .rw[az (λz=>hpb z.symm)];exact hb
   .rw[show k0+(i+1)*m=k0+i*m+m by rw[Nat.succ_mul];lia];exact r
  .rcases eA.mp e with e|e
   .exact hE _ e
   .rw[gv.mp e];exact r4
 .have e:i=n:=by lia
  subst e;exact .inl ⟨aK _,hq p H' ys hp hs hB hl BR hE⟩
theorem qm(x y:Str):(x++y).length=x.length+y.length:=by
 show(x.cps++y.cps).size=x.cps.size+y.cps.size;exact Array.size_append
theorem aeN(c:Nat):Txt.mul ⟨#[c]⟩ 6=⟨#[c,c,c,c,c,c]⟩:=rfl
theorem Lt.six{c:Nat}(h:dC c=true):Lt ⟨#[c,c,c,c,c,c]⟩:=by
 intro d hd;have hd:d∈[c,c,c,c,c,c]:=hd;simp only[aP,cO,cN,or_self] at hd;rw[hd];exact h
theorem Lt.join{ts:au}(h' :∀t∈ts,Lt t):Lt (Str.join "" ts):=by
 intro c hc;rcases(mem_join "" c ts).mp hc with⟨t,ht,hc⟩|⟨_,hc⟩
 .exact h' t ht c hc
 .have:c∈([]:List Nat):=hc;cases this
noncomputable def AQ:ak:=[.str "in",.str "or",.str "end",.str "make",.str "frame",.str "ground",.str "none",.str "turns",.str "put",.str "hand",.str "room"]
theorem NO:∀x∈AQ,∃s,x= .str s/\cv s=true:=by
 intro x hx;simp only[AQ,aP,cO,cN] at hx
 rcases hx with rfl|rfl|rfl|rfl|rfl|rfl|rfl|rfl|rfl|rfl|rfl<;>exact⟨_,rfl,by decide+kernel⟩
def Nq:Sp:=λvs H Q _=>∃(b:S') (n k:Nat),vs=[.ref b,.int n]/\dg H b k/\k+12<=100000/\n<=12/\∀l (xs:au) H',H l=none->xs.length=n->(∀x∈xs,cv x=true)->H' l=some (.lst (xs.map V.str))->dg H' b (k+12)->Kept b H H'->Q (.ref l) H'
theorem sY(T:Txt K mg A):aT P w K mg base dQ 2 A.vf A.uQ ["_law_box_here","_law_many"] Nq:=by
 refine T.o8.F.okN dq ?_
 rintro cB Ar outer s H vs Q E hr ⟨b,n,k,rfl,B,hk,hn,q⟩
 have hu:=aaE hr;refine⟨_,(aD ⟨(gf 2 dq.nd ai)⟩ (aD ⟨(gf 3 dq.nd (cI (aE T) hr T.aG aC (ag (pv 0) (aM ae))))⟩ (aD ⟨(gf 4 dq.nd (cI (aE T) hr T.aG aC (ag (pv 0) (aM ae))))⟩ (aD ⟨(gf 5 dq.nd (cS a8 (bH (ag ae (ag ae (ag ae (ag ae (ag ae (aM ae))))))) (cI (aE T) hr T.aG aC (ag (pv 0) (aM ae)))))⟩ (aD (eO (wn cK (pv 3) ae) (aD (bN (i:=6) dq.nd Z (Or.inr Z) (aI (gq (λ_ _=>rfl) ai (gq (λ_ _=>rfl) ai (gq (λ_ _=>rfl) ai (gq (λ_ _=>rfl) ai (gq (λ_ _=>rfl) ai (gq (λ_ _=>rfl) ai (gq (λ_ _=>rfl) ai (gq (λ_ _=>rfl) ai (gq (λ_ _=>rfl) ai (gq (λ_ _=>rfl) ai (gq (λ_ _=>rfl) ai ao)))))))))))) (by kernel_rfl) (Or.inl Z)) (bC ⟨(aH (KR ["_law_k","_law_words","_law_first","_law_step"] 1 [6,4,5] (gB Z T.kL (aM (pv 1))) (λ_ _ _ _ _=>⟨(jk 0 (show(["_law_k","_law_words","_law_first","_law_step"]:au).Nodup by decide+kernel)),uU,(cS (Oj (K:=K) Z) (pv 1) (aL jw (aL bA (pv 2) (aL md (aL jw (pv 3) ae) (pv 0))) ae))⟩)))⟩)) cg) (aD ⟨(gf 7 dq.nd (mz PySem.F.plainAttrs_str PySem.F.slot_str_join PySem.F.type_str_join Ql ai (aM (KR ["_law_k","_law_letters","_law_box_here"] 1 [2,0] (gB Z T.kL (aM (cI (aE T) hr T.aG aC (ag (pv 0) (aM ae))))) (λ_ _ _ _ _=>⟨(jk 0 (show(["_law_k","_law_letters","_law_box_here"]:au).Nodup by decide+kernel)),uU,(cS As (pv 1) (cI (aE T) hr T.aG aC (ag (pv 2) (aM ae))))⟩)))))⟩ (aD ⟨(gf 8 dq.nd (cI (aE T) hr T.aG aC (ag (pv 0) (aM (aL bA (iW oS T.g7 Boot.«len» (aM (pv 7))) ae)))))⟩ (aD (eO (PW.pt (wT (wn cK (pv 3) ae) (xz (wn Ao (pv 1) ae)))) (aD ⟨(gf 9 dq.nd (dH DO (aL uE (pv 7) (aL Hq (cS As (pv 2) (pv 4)) ae)) bZ (bQ ae)))⟩ (bC ⟨(aH (KR ["_law_k","_law_whole_here","_law_first"] 1 [9,4] (gB Z T.kL (aM (pv 1))) (λ_ _ _ _ _=>⟨(jk 0 (show(["_law_k","_law_whole_here","_law_first"]:au).Nodup by decide+kernel)),uU,(dH DO (pv 1) bZ (bQ (aL bA ae (aL jw (aL bA (pv 2) (pv 0)) ae))))⟩)))⟩)) cg) (bC ⟨(aH (KR ["_law_k","_law_stem","_law_letters","_law_at","_law_first","_law_step"] 1 [7,2,8,4,5] (gB Z T.kL (aM (pv 1))) (λ_ _ _ _ _=>⟨(jk 0 (show(["_law_k","_law_stem","_law_letters","_law_at","_law_first","_law_step"]:au).Nodup by decide+kernel)),uU,(aL uE (aL uE (dH DO (pv 1) bZ (bQ (pv 3))) (cS As (pv 2) (aL jw (aL bA (pv 4) (aL md (pv 5) (pv 0))) ae))) (dH DO (pv 1) (bQ (pv 3)) bZ))⟩)))⟩))))))))),?_⟩;refine⟨_,Z,b,3,k,Z,B,by lia,by decide,by decide,λway H1 w0 w1 B1 O1=> ?_⟩;refine⟨_,Z,b,26,k+1,Z,B1,by lia,by decide,by decide,λfirst H2 f0 f1 B2 O2=> ?_⟩;refine⟨afx,λp hp=> ?_⟩;have s3:=ah.upd (o:= .lst [V.int 1,V.int 3,V.int 5,V.int 7,V.int 9,V.int 11]) hp;have e3:upd H2 p (.lst [V.int 1,V.int 3,V.int 5,V.int 7,V.int 9,V.int 11]) p=some (.lst [V.int 1,V.int 3,V.int 5,V.int 7,V.int 9,V.int 11]):=af;generalize upd H2 p (.lst [V.int 1,V.int 3,V.int 5,V.int 7,V.int 9,V.int 11])=H3 at s3 e3;have MO:p≠b:=B2.ne hp;refine⟨_,Z,b,6,k+2,Z,B2.same s3,by lia,by decide,by decide,λr H4 r0 r1 B4 O4=> ?_⟩;refine gO (λv=>∃i:Int,v= .int i/\0<=i/\i<=11) (O4.kept _ _ MO e3) r0 r1 ?_ λv hv=> ?_
 .intro x hx;simp only[aP,cO,cN] at hx
  rcases hx with rfl|rfl|rfl|rfl|rfl|rfl<;>exact⟨_,rfl,by decide,by decide⟩
 obtain⟨step,rfl,st0,st1⟩:=hv;have K4:Kept b H H4:=((O1.kept.trans O2.kept).trans s3.kept).trans O4.kept
 have fr:∀{H' :Hp} {c:S'} {k' :Nat},Kept b H H'->dg H' b k'->H' c=none->H c=none:=λ{H' c k'} K' B' hc=>by
  cases e:H c with
  |none=>rfl
  |some o=>rw[K' _ o (B'.ne hc) e] at hc;cases hc
 refine⟨_,Z,Z,_,Z,?_⟩;refine mF (λ_=> ?_) (λ_=> ?_)
 .refine⟨ZJ,λwl O0=> ?_⟩;have s5:=ah.upd (o:= .lst AQ) O0;have e5:upd H4 wl (.lst AQ) wl=some (.lst AQ):=af;have nwb:wl≠b:=B4.ne O0;refine⟨_,Z,_,Z,by lia,by lia,?_⟩;rw[nB];refine rg (m:=0) (k0:=k+3) (λv=>∃x,v= .str x/\cv x=true) (cT (fj (by lia))) (B4.same s5) ?_ ?_
  .intro i H' C1 hi K' B' c1;refine⟨(gJ.refl _).own (by decide),_,Z,_,Z,_,Z,step,10,Z,Z,(show(0:Int)<10 by decide),_,Z,_,_,Z,Z,?_,first,_,Z,Z,_,11,Z,Z,(show(0:Int)<11 by decide),?_⟩
   .exact .inl ⟨by lia,by lia⟩
   .refine gO (λv=>∃x,v= .str x/\cv x=true) (K' _ _ nwb e5) (oH _ (by decide)) (sd _ (by decide)) NO λv hv=>c1 v H' hv (B'.mono (by lia)) (Kept.refl b H')
  .intro pl H' ys ng K' B' KU BR hR;obtain⟨xs,rfl,CU⟩:=sj hR;rw[a6] at BR;exact q pl xs H' (fr K4 B4 (s5.free ng)) BR CU KU (B'.mono (by lia)) (K4.trans (s5.kept.trans K'))
 .refine⟨Z,_,Z,b,6,k+3,Z,B4,by lia,by decide,by decide,λcnt H5 c0 c1 B5 O5=> ?_⟩;obtain⟨c,rfl⟩:∃c:Nat,cnt=c:=⟨cnt.toNat,by lia⟩;refine⟨_,Z,by lia,by lia,?_⟩;rw[nB];have K5:Kept b H H5:=K4.trans O5.kept;refine rg (m:=1) (k0:=k+4) (λv=>∃x:Str,v= .str x/\x.length=1/\Lt x) (cT (fj (by lia))) B5 ?_ ?_
  .intro i H' C1 hi K' B' q1;refine⟨(gJ.refl _).own (by decide),_,Z,_,Z,b,26,_,Z,B',by lia,by decide,by decide,λr H6 r0 r1 B6 O6=> ?_⟩;exact rV r0 r1 λch Fo=>q1 _ _ ⟨_,Z,Z,Lt.one Fo⟩ B6 O6.kept
  .intro pl H6 ys ng K6 B6 hp6 BR hR;obtain⟨xs,rfl,hx⟩:=sj hR;rw[a6] at BR;have he:(Str.ofString "").length=0:=by decide+kernel
   have hj:Builtin.Str.tooLong (xs.toArray.foldl (λa p=>a+p.length+(Str.ofString "").length) 0)=false:=PySem.StrLaws.joinFits (B:=1) (λy hy=>oJ (hx y hy).1) (by
    rw[he]
    lia)
   have hlen:(Txt.join (Str.ofString "") xs).length<=5:=by
    have h1:=PySem.StrLaws.join_length_le (Str.ofString "") xs;have h2:=PySem.StrLaws.sumLen_le xs (B:=1) (λy hy=>oJ (hx y hy).1);rw[he] at h1;show(Builtin.Str.glued _ xs).length<=5;rw[PySem.StrLaws.glued_eq_join]
    lia
   have OL:Lt (Txt.join (Str.ofString "") xs):=by
    show Lt (Builtin.Str.glued _ xs);rw[PySem.StrLaws.glued_eq_join];exact Lt.join λt ht=>(hx t ht).2
   have K56:Kept b H H6:=K5.trans K6;refine⟨_,pl,xs,Z,Z,hp6,by unfold JoinOk;rw[hj];rfl,?_⟩;generalize Txt.join (Str.ofString "") xs=pD at hlen OL;have hL:sizeLine=16777216:=by decide
   refine⟨_,Z,_,Z,pD,Z,by lia,(pD.length:Int),1,Z,Z,b,_,k+4+c*1,Z,B6,by lia,by lia,by lia,λat_ H7 a0 a1 B7 O7=> ?_⟩;obtain⟨at_,rfl⟩:∃j:Nat,at_=j:=⟨at_.toNat,by lia⟩;have ha:at_<=pD.length:=by lia
   have K7:Kept b H H7:=K56.trans O7.kept;refine⟨_,Z,Z,_,Z,?_⟩;refine mF (λ_=> ?_) (λ_=> ?_)
   .refine⟨_,Z,_,7,Z,Z,_,Z,?_⟩;by_cases h7:n<7
    .rw[aS (show(n:Int)<7 by lia)];refine a9 ?_;refine⟨_,Z,_,Z,_,Z,rV f0 f1 λch Fo=> ?_⟩;have hmul:MulOk ⟨#[ch]⟩ 6:=⟨by decide,λ_ _=>by show ¬((1:Int)>(2 ^ 63 - 1) / 6);decide,λ_ _=>by show Builtin.Str.tooLong (1*6)=false;decide+kernel⟩;refine⟨⟨#[ch]⟩,6,Z,Z,hmul,?_⟩;rw[aeN];have h6l:(⟨#[ch,ch,ch,ch,ch,ch]⟩:Str).length=6:=rfl;have O0:(pD++⟨#[ch,ch,ch,ch,ch,ch]⟩).length=pD.length+6:=qm _ _;refine⟨pD,_,Z,Z,by lia,?_⟩;have hwo:Lt (pD++⟨#[ch,ch,ch,ch,ch,ch]⟩):=OL.app (Lt.six Fo);generalize pD++⟨#[ch,ch,ch,ch,ch,ch]⟩=whole at O0 hwo;refine⟨6,Z,whole,Z,by lia,?_⟩;have X0:=iU (x:=whole) (j:=6) (by lia);have hso:=hwo.slice none (some ((6:Nat):Int));have e6:((6:Nat):Int)=6:=rfl;rw[e6] at X0 hso;generalize Txt.slice whole none (some 6)=wh at X0 hso;refine⟨_,Z,_,Z,by lia,by lia,?_⟩;rw[nB];refine rg (m:=0) (k0:=k+4+c*1+1) (λv=>∃x,v= .str x/\cv x=true) (cT (fj (by lia))) B7 ?_ ?_
     .intro i H' C1 hi K' B' q1;refine⟨(gJ.refl _).own (by decide),_,Z,_,Z,_,Z,first,_,Z,Z,_,6,Z,Z,(show(0:Int)<6 by decide),1,_,Z,Z,_,Z,wh,Z,by lia,?_⟩;obtain⟨j,hj⟩:∃j:Nat,1+(first+(0+(i:Int))) % 6=j:=⟨(1+(first+(0+(i:Int))) % 6).toNat,by lia⟩;rw[hj];exact q1 _ _ ⟨_,Z,(hso.slice none (some (j:Int))).name (by rw[iU (by lia)];lia) (by rw[iU (by lia)];lia)⟩ (B'.mono (by lia)) (Kept.refl b H')
     .intro pl H' ys ng K' B' KU BR hR;obtain⟨xs,rfl,CU⟩:=sj hR;rw[a6] at BR;exact q pl xs H' (fr K7 B7 ng) BR CU KU (B'.mono (by lia)) (K7.trans K')
    .rw[ba (show ¬(n:Int)<7 by lia)];refine bo ?_;refine⟨_,Z,_,Z,by lia,by lia,?_⟩;rw[nB];refine rg (m:=0) (k0:=k+4+c*1+1) (λv=>∃x,v= .str x/\cv x=true) (cT (fj (by lia))) B7 ?_ ?_
     .intro i H' C1 hi K' B' q1;have l1:=iU ha;have l2:=qS ha;have o1:=OL.slice none (some (at_:Int));have o2:=OL.slice (some (at_:Int)) none;refine⟨(gJ.refl _).own (by decide),_,Z,_,Z,_,Z,pD,Z,by lia,?_⟩;refine⟨_,Z,_,Z,_,Z,_,Z,step,_,Z,Z,.inl ⟨by lia,by lia⟩,first,_,Z,Z,_,26,Z,Z,(show(0:Int)<26 by decide),rV (oH _ (by decide)) (sd _ (by decide)) λch Fo=> ?_⟩;have h1l:(⟨#[ch]⟩:Str).length=1:=rfl;have la:=qm (Txt.slice pD none (some (at_:Int))) ⟨#[ch]⟩;refine⟨_,_,Z,Z,by lia,_,Z,_,Z,_,Z,pD,Z,by lia,?_⟩;have lb:=qm (Txt.slice pD none (some (at_:Int))++⟨#[ch]⟩) (Txt.slice pD (some (at_:Int)) none);refine⟨_,_,Z,Z,by lia,?_⟩;exact q1 _ _ ⟨_,Z,((o1.app (Lt.one Fo)).app o2).name (by lia) (by lia)⟩ (B'.mono (by lia)) (Kept.refl b H')
     .intro pl H' ys ng K' B' KU BR hR;obtain⟨xs,rfl,CU⟩:=sj hR;rw[a6] at BR;exact q pl xs H' (fr K7 B7 ng) BR CU KU (B'.mono (by lia)) (K7.trans K')
   .refine bo ?_;refine⟨_,Z,_,Z,by lia,by lia,?_⟩;rw[nB];refine rg (m:=0) (k0:=k+4+c*1+1) (λv=>∃x,v= .str x/\cv x=true) (cT (fj (by lia))) B7 ?_ ?_
    .intro i H' C1 hi K' B' q1;have l1:=iU ha;have l2:=qS ha;have o1:=OL.slice none (some (at_:Int));have o2:=OL.slice (some (at_:Int)) none;refine⟨(gJ.refl _).own (by decide),_,Z,_,Z,_,Z,pD,Z,by lia,?_⟩;refine⟨_,Z,_,Z,_,Z,_,Z,step,_,Z,Z,.inl ⟨by lia,by lia⟩,first,_,Z,Z,_,26,Z,Z,(show(0:Int)<26 by decide),rV (oH _ (by decide)) (sd _ (by decide)) λch Fo=> ?_⟩;have h1l:(⟨#[ch]⟩:Str).length=1:=rfl;have la:=qm (Txt.slice pD none (some (at_:Int))) ⟨#[ch]⟩;refine⟨_,_,Z,Z,by lia,_,Z,_,Z,_,Z,pD,Z,by lia,?_⟩;have lb:=qm (Txt.slice pD none (some (at_:Int))++⟨#[ch]⟩) (Txt.slice pD (some (at_:Int)) none);refine⟨_,_,Z,Z,by lia,?_⟩;exact q1 _ _ ⟨_,Z,((o1.app (Lt.one Fo)).app o2).name (by lia) (by lia)⟩ (B'.mono (by lia)) (Kept.refl b H')
    .intro pl H' ys ng K' B' KU BR hR;obtain⟨xs,rfl,CU⟩:=sj hR;rw[a6] at BR;exact q pl xs H' (fr K7 B7 ng) BR CU KU (B'.mono (by lia)) (K7.trans K')
theorem Ef:∀a b:List Nat,qy (a++b)=max (qy a) (qy b)
 |[],b=>by
  show qy b=max 0 (qy b)
  lia
 |x::r,b=>by
  show max x (qy (r++b))=max (max x (qy r)) (qy b);rw[Ef r b]
  lia
noncomputable def dn(r:LR):Nat:=if r.1.1.bs.l.isEmpty=true then 0 else r.2+1
mutual
theorem aez:∀(d:Dd) (ar:au) (k:Nat),qy ((Hh d ar k).map dn)=if mG d=0 then 0 else k+mG d
 | .mk w ps bs,ar,k=>by
  have h:=Zv bs (oI (.mk w ps bs) ar) (k+1);rw[Hh,cP,mG];show max (dn ((.mk w ps bs,ar),k)) (qy _)=_
  cases bs with
  |nil=>
   rw[Jg,nR];rfl
  |cons t b r=>
   have e:dn ((Dd.mk w ps (.cons t b r),ar),k)=k+1:=rfl;have p:1<=nR (.cons t b r):=by rw[nR];lia
   rw[e,h,ax (by lia)]
   lia
theorem XM:∀(s:Ds) (ar:au) (k:Nat),qy ((vM s ar k).map dn)=if eQ s=0 then 0 else k+eQ s
 | .nil,ar,k=>by rw[vM,eQ];rfl
 | .cons d r,ar,k=>by
  rw[vM,iQ,Ef,aez d,XM r,eQ]
  split<;>split<;>split<;>lia
theorem Zv:∀(b:Bs) (ar:au) (k:Nat),max k (qy ((Jg b ar k).map dn))=k+(nR b - 1)
 | .nil,ar,k=>by
  rw[Jg,nR];show max k 0=k+(0 - 1)
  lia
 | .cons t b r,ar,k=>by
  have h:=Zv r ar k;rw[Jg,iQ,Ef,XM b,nR]
  split<;>lia
end
noncomputable def gr(r:LR):Dd×au:=(r.1.1,r.1.2++[("ground" :Str)])
theorem Xe(d:Dd)(ar:au):oI d (ar++[("ground" :Str)])=oI d ar++[("ground" :Str)]:=by
 unfold oI
 split<;>rfl
mutual
theorem adU:∀(d:Dd) (ar:au) (k:Nat),Dc d (ar++[("ground" :Str)])=(Hh d ar k).map gr
 | .mk w ps bs,ar,k=>by
  rw[Dc,Hh,cP,Xe,ZO bs _ (k+1)];rfl
theorem P7:∀(s:Ds) (ar:au) (k:Nat),pI s (ar++[("ground" :Str)])=(vM s ar k).map gr
 | .nil,ar,k=>by rw[pI,vM];rfl
 | .cons d r,ar,k=>by rw[pI,vM,iQ,adU d ar k,P7 r ar k]
theorem ZO:∀(b:Bs) (ar:au) (k:Nat),E_ b (ar++[("ground" :Str)])=(Jg b ar k).map gr
 | .nil,ar,k=>by rw[E_,Jg];rfl
 | .cons t b r,ar,k=>by rw[E_,Jg,iQ,P7 b ar k,ZO r ar k]
end
theorem YM{s:Ds}(ok:mD s)(k:Nat):∀r∈vM s [] k,mv r.1.1:=λr hr=>by
 have:=xo s ([]++[("ground" :Str)]) ok (gr r) (by rw[P7 s [] k];exact List.mem_map_of_mem hr);exact this
noncomputable def Rf.tag:Rf->Str
 | .many _=>"many"
 | .deep _=>"down"
 | .twice _=>"twice"
 | .qc _=>"label"
 | .wide _=>"wide"
 | .long _=>"long"
 | .sO _=>"deed"
theorem We{d:Dd}(ok:mv d)(h:dX d.wd=true):jg d≠ "ground":=by
 cases jaf ok with
 |ei t b u c=>exact absurd h (by show ¬dX "either"=true;decide+kernel)
 |tu l m n t b hl hg _ _ _ _=>exact hg
 |fr l t b hl hg=>exact hg
 |sm w ks ps f hf n1 n2 n3=>
  have h:dX w=true:=h;unfold dX at h;rw[ba n3,ba n2] at h;cases h
def Kv:Sp:=λvs H Q _=>∃v t s,vs=[v]/\Dat H v (iS t (sL s))/\mD s/\eQ s<40/\eB s<=1000/\
 match gL s with
 |none=>∀H',ah H H'->Q .bp H'
 |some r=>∀t H',H t=none->ah H H'->H' t=some (.tup [.str r.tag,r.v])->Q (.ref t) H'
theorem yQ(T:Txt K mg A):aT P w K mg base dQ 43 A.k_ A.qx ["_law_body_here"] Kv:=by
 refine T.pN.F.ok bG (λvs H Q E h=> ?_) (λcB Ar outer s0 H vs Q E hr h=> ?_)
 .obtain⟨v,t,s,rfl,_⟩:=h;rfl
 .obtain⟨v,t,s,rfl,hd,ok,dp,hm,q⟩:=h
  have Hf:(ny dQ P w K mg base ["_law_body_here","_law_rows","_law_down","_law_deed","_law_around","_law_one","_law_asked","_law_done"] "_law_refusal" (av l7) A.k_ cB Ar outer s0 H E).K0.A.units<cLine:=by
   have:=hr.un;show(Ar.deeper _).units<cLine;omega
  refine⟨_,(aj (gf 1 bG.nd (cI (qQ T 40) hr T.jJ aC (ag (pv 0) (ag (bH dY) (aM ae))))) (aj (gf 2 bG.nd ae) (aj (AV (ff (pv 1)) (w4 Z (cY (jk 3 bG.nd) (cY (jk 4 bG.nd) (cY (jk 5 bG.nd) mT)))) (aq (bU (wn (LL Hf) (cI (gs T) hr T.dO aC (aM (pv 3))) (bt dY)) (aq (gf 2 bG.nd (iW (kX Z) T.xU Boot.«max» (ag (pv 2) (aM (aL bA (pv 5) ae)))))) bf))) (aj (bU (wn tE (iW br T.g7 Boot.«len» (aM (pv 1))) ae) (aq (aH (bt (ag ai (aM (iW br T.g7 Boot.«len» (aM (pv 1)))))))) bf) (aj (bU (wn tE (pv 2) ae) (aq (aH (bt (ag ai (aM (pv 2)))))) bf) (aj (AV (ff (pv 1)) (w4 Z (cY (jk 3 bG.nd) (cY (jk 4 bG.nd) (cY (jk 5 bG.nd) mT)))) (aj (bU (PW.pt (wT (wn kW (cS aN (pv 3) ae) (bt (ag ai (aM ai)))) (xz (wn kW (cS aN (pv 3) ae) (pv 4))))) (aq (aH (bt (ag ai (aM (cS aN (pv 3) ae)))))) bf) (aq (bU (PW.pt (wT (wn cK (cS aN (pv 3) ae) ai) (wT (wn zi (cS aN (pv 3) ae) d_) (wT (wn o9 (cS aN (pv 3) ae) (pv 4)) (xz (wn pR (cS aN (pv 3) ae) ai)))))) (aq (aH (bt (ag ai (aM (cS aN (pv 3) ae)))))) bf)))) (aj (BL (cI (Eu T 40) hr T.ql aC (aM (pv 0))) (w4 Z (cY (jk 6 bG.nd) (cY (jk 7 bG.nd) mT)))) (aj (bU (wn tE (pv 6) ae) (aq (aH (bt (ag ai (aM (pv 6)))))) bf) (aq (aH (q_ (wn tE (pv 7) ae) (bt (ag ai (aM (pv 7)))) d_))))))))))),?_⟩;refine⟨_,Z,m7,λu hu=> ?_⟩;have su:=ah.upd (o:= .lst []) hu;refine⟨upd H u (.lst []),v,t,s,u,[],0,Z,ah.refl _,hd.same su,ok,dp,af,hm,by show 0+_<_;lia,λl zs H1 hl s1 hz R=> ?_⟩;have sH1:=su.trans s1;have okr:=YM ok 0;have rl:=R.len;rw[mN] at rl;refine⟨_,Z,l,Z,⟨_,cF.of hz⟩,?_⟩;refine i0 (K:=K) (a:=l) (xs:=zs) (λi σ H' =>∃(x3 x4 x5:Option V),σ=[some v,some (.ref l),some (nI (qy (((vM s [] 0).take i).map dn))),x3,x4,x5,none,none]/\ah H1 H') ⟨_,_,_,Z,ah.refl H1⟩ (by rintro i σ H' _ ⟨_,_,_,_,sm⟩;exact cF.of (sm _ _ hz)) ?_ ?_
  .rintro i x σ H' hx ⟨x3,x4,x5,rfl,sm⟩
   obtain⟨⟨⟨d,ar⟩,k⟩,er,t1,y,u1,rfl,f1,f2,f3,f4⟩:=R.at_ i x hx;have lu:=okr _ (bD er);dsimp only at f2 f4 lu;refine⟨t1,_,Z,bc.of (sm _ _ f1),Z,_,_,Z,_,_,Z,_,_,Z,Z,?_⟩;refine⟨_,Z,upd H u (.lst []),y,d,Z,s1.trans sm,f2,lu,λt2 ys H2 wU s2 JF hB=> ?_⟩;refine⟨m7,λt3 qi=>⟨t2,t3,ys,Z,Z,ah.upd qi _ _ JF,af,_,Z,?_⟩⟩;have s4:=s2.trans (ah.upd (o:= .tup []) qi);have tk:=Fi dn er
   have ye:ys.isEmpty=d.bs.l.isEmpty:=by
    have:=jh hB
    cases ys with
    |nil=>cases hh:d.bs.l with
     |nil=>rfl
     |cons _ _=>rw[hh] at this;cases this
    |cons _ _=>cases hh:d.bs.l with
     |nil=>rw[hh] at this;cases this
     |cons _ _=>rfl
   cases he:d.bs.l.isEmpty with
   |true=>
    rw[ye,he];have e0:dn ((d,ar),k)=0:=aB he;rw[e0,Nat.max_eq_left (cG _)] at tk;exact bo ⟨_,_,_,by rw[tk];rfl,sm.trans s4⟩
   |false=>
    rw[ye,he];have e0:dn ((d,ar),k)=k+1:=ax (by rw[he];decide);rw[e0] at tk;refine a9 ⟨_,Z,_,Z,_,1,Z,Z,_,_,Z,some y,some (.ref u1),some (nI k),?_,sm.trans s4⟩
    have mx:∀x y:Nat,nI (max x (y+1))= .int (if((y:Int)+1)>(x:Int) then((y:Int)+1) else(x:Int)):=λx y=>by
     show V.int ((max x (y+1):Nat):Int)=_
     congr 1
     split<;>lia
    rw[tk,mx];rfl
  .rintro σ H2 ⟨x3,x4,x5,rfl,sm⟩
   have etk:(vM s [] 0).take zs.length=vM s [] 0:=oq (by rw[mN];lia)
   have dnE:qy ((vM s [] 0).map dn)=eQ s:=by
    rw[XM]
    split<;>lia
   rw[etk,dnE];have JF:=sm _ _ hz;have KL:=sH1.trans sm
   have out:∀(r:Rf) (H3:Hp) (t3:S'),gL s=some r->ah H2 H3->H3 t3=none->Q (.ref t3) (upd H3 t3 (.tup [.str r.tag,r.v])):=λr H3 t3 e s3 qi=>by
    rw[e] at q;exact q t3 _ ((KL.trans s3).free qi) ((KL.trans s3).trans (ah.upd qi)) af
   refine⟨_,Z,l,zs,Z,.inl (cF.of JF),_,40,Z,Z,_,Z,?_⟩;refine mF (λhk=> ?_) (λhk=> ?_)
   .have hk:=bE hk;refine⟨_,Z,l,zs,Z,.inl (cF.of JF),gY,λt3 qi=> ?_⟩;have:=out (.many (eB s)) H2 t3 (by unfold gL nW;rw[aB (by lia)];rfl) (ah.refl _) qi;rw[show Rf.v (.many (eB s))=V.int (zs.length:Int) by rw[rl];rfl] at this;exact this
   .have hk1:¬(zs.length:Int)>40:=λz=>hk (aS z);refine⟨_,Z,_,6,Z,Z,_,Z,?_⟩;refine mF (λhk=> ?_) (λhk=> ?_)
    .have hk:=bE hk;exact⟨_,Z,gY,λt3 qi=>out (.deep (eQ s)) H2 t3 (by unfold gL nW;rw[ax (by lia),aB (by lia)];rfl) (ah.refl _) qi⟩
    .have QW:¬((eQ s:Nat):Int)>6:=λz=>hk (aS z);have eS:nW s=none:=by unfold nW;rw[ax (by lia),ax (by lia)]
     have eF:(pI s ["ground"]).findSome? jW=(vM s [] 0).findSome? λr=>jW (gr r):=by
      rw[show pI s ["ground"]=_ from P7 s [] 0,List.findSome?_map];rfl
     refine⟨_,Z,l,Z,⟨_,cF.of JF⟩,?_⟩;refine i0 (K:=K) (a:=l) (xs:=zs) (λi σ H' =>∃(x3 x4 x5:Option V),σ=[some v,some (.ref l),some (nI (eQ s)),x3,x4,x5,none,none]/\ah H2 H'/\((vM s [] 0).take i).findSome? (λr=>jW (gr r))=none) ⟨_,_,_,Z,ah.refl H2,Z⟩ (by rintro i σ H' _ ⟨_,_,_,_,sm,_⟩;exact cF.of (sm _ _ JF)) ?_ ?_
     .rintro i x σ H' hx ⟨x3,x4,x5,rfl,sm',hn⟩
      obtain⟨⟨⟨d,ar⟩,k⟩,er,t1,y,u1,rfl,f1,f2,f3,f4⟩:=R.at_ i x hx;have lu:=okr _ (bD er);dsimp only at f2 f4 lu;have sR:=sm.trans sm';obtain⟨b,ks,xs,ys,rfl,p0⟩:=fu f2 lu;have p:=p0.same (s1.trans sR)
      have bad:∀r,jW (d,ar++[("ground" :Str)])=some r->gL s=some r:=λr h=>by
       unfold gL;rw[eS,ig,eF,Bh (λr=>jW (gr r)) er hn h];rfl
      have next:jW (d,ar++[("ground" :Str)])=none->((vM s [] 0).take (i+1)).findSome? (λr=>jW (gr r))=none:=λh=>by
       rw[xj (λr=>jW (gr r)) er,hn];exact h
      refine⟨t1,_,Z,bc.of (sR _ _ f1),Z,_,_,Z,_,_,Z,_,_,Z,Z,?_⟩;refine⟨_,Z,b,_,0,_,Z,Z,bc.of p.e,gU _ _,gY,λt2 wU=>⟨t2,_,Z,.inr (bc.of af),Z,Z,_,Z,?_⟩⟩;have u2:=ah.upd (o:= .tup [V.str "frame",.str "turns"]) wU;generalize upd H' t2 (.tup [V.str "frame",.str "turns"])=H3 at u2 ⊢;have pe:=u2 _ _ p.e;have OW:=u2 _ _ (sR _ _ f4);have s3:=sm'.trans u2;show if HQ (V.str d.wd) [.str "frame",.str "turns"]=true then _ else _
      rw[Dt]
      have two:¬(dX d.wd=true/\jg d∈ar++[("ground" :Str)])->jW (d,ar++[("ground" :Str)])=(if d.wd="make" then match um d with
       |some x=>if x∈ar++[("ground" :Str)] then none else some (.qc x)
       |none=>none
       else none):=λh=>ax h
      rcases hb:dX d.wd with _|_
      .have tw:=two λz=>by rw[hb] at z;exact cU z.1
       refine bo ⟨_,Z,b,_,0,_,Z,Z,bc.of pe,gU _ _,Z,_,Z,?_⟩;by_cases nm:d.wd="make"
       .obtain⟨y1,y2,m,rfl,rfl,Pk⟩:=AM p nm;rw[aB nm] at tw;rw[show decide (V.str d.wd=V.str "make")=true from aS (by rw[nm])];rcases Pk with⟨rfl,hk⟩|⟨z,rfl,hk⟩
        .rw[hk] at tw;exact a9 ⟨_,Z,b,_,3,_,Z,Z,bc.of pe,bb (j:=3) Z,Z,_,Z,bo ⟨_,_,_,Z,s3,next tw⟩⟩
        .rw[hk] at tw;dsimp only at tw;refine a9 ⟨_,Z,b,_,3,_,Z,Z,bc.of pe,bb (j:=3) Z,Z,_,Z,a9 ⟨_,Z,b,_,3,_,Z,Z,bc.of pe,bb (j:=3) Z,_,Z,u1,_,Z,.inl (cF.of OW),Z,kU _,_,Z,?_⟩⟩;show if(!HQ (V.str z) (ar.map V.str))=true then _ else _
         rw[nG];by_cases hy:z∈ar
         .rw[aB (rO _ hy)] at tw;rw[aS hy];exact bo ⟨_,_,_,Z,s3,next tw⟩
         .rw[ba hy];refine a9 ⟨_,Z,b,_,3,_,Z,Z,bc.of pe,bb (j:=3) Z,Z,_,Z,?_⟩;by_cases hg:z="ground"
          .rw[aB (l8 _ (by rw[hg];exact gv.mpr Z))] at tw;rw[show decide (V.str z=V.str "ground")=true from aS (by rw[hg])];exact bo ⟨_,_,_,Z,s3,next tw⟩
          .rw[ax (λh=>by
            rcases eA.mp h with h|h
            .exact hy h
            .exact hg (gv.mp h))] at tw
           rw[show decide (V.str z=V.str "ground")=false from ba (dZ hg)];exact a9 ⟨_,Z,b,_,3,_,Z,Z,bc.of pe,bb (j:=3) Z,gY,λt3 qi=>out (.qc z) _ t3 (bad _ tw) s3 qi⟩
       .exact dG (dZ nm) ⟨_,_,_,Z,s3,next (tw.trans (ax nm))⟩
      .obtain⟨Qz,rfl⟩:=p0.jg hb;have lg:=We lu hb;refine a9 ⟨_,Z,b,_,1,_,Z,Z,bc.of pe,bb (j:=1) Z,_,Z,u1,_,Z,.inl (cF.of OW),Z,kU _,_,Z,?_⟩;show if HQ (V.str (jg d)) (ar.map V.str)=true then _ else _
       rw[nG];by_cases n6:jg d∈ar
       .rw[aS n6];exact a9 ⟨_,Z,b,_,1,_,Z,Z,bc.of pe,bb (j:=1) Z,gY,λt3 qi=>out (.twice (jg d)) _ t3 (bad _ (aB ⟨hb,rO _ n6⟩)) s3 qi⟩
       .rw[ba n6];have nm:d.wd≠ "make":=λz=>by rw[z] at hb;exact absurd hb (by decide+kernel)
        refine bo ⟨_,Z,b,_,0,_,Z,Z,bc.of pe,gU _ _,Z,_,Z,?_⟩;refine dG (dZ nm) ⟨_,_,_,Z,s3,next ((two λz=> ?_).trans (ax nm))⟩;rcases eA.mp z.2 with h|h
        .exact n6 h
        .exact lg (gv.mp h)
     .rintro σ H3 ⟨x3,x4,x5,rfl,s3,hn⟩
      rw[etk] at hn
      have eR:gL s=yY s:=by
       unfold gL;rw[eS,ig,eF,hn,ig]
      refine⟨_,Z,H,v,t,s,Z,KL.trans s3,hd,ok,dp,λtt H4 EM s4 hz4=> ?_⟩;have Ts:=s3.trans s4;refine⟨tt,_,Z,bc.of hz4,Z,_,_,Z,_,_,Z,Z,?_⟩;refine⟨_,Z,_,4,Z,Z,_,Z,?_⟩;refine mF (λhk=> ?_) (λhk=> ?_)
      .have hk:=bE hk;exact⟨_,Z,gY,λt3 qi=>out (.wide (jY s)) _ t3 (by rw[eR];unfold yY;rw[aB (by lia)]) Ts qi⟩
      .have hk3:¬((jY s:Nat):Int)>4:=λz=>hk (aS z);refine⟨_,Z,_,100,Z,Z,_,Z,?_⟩;refine mF (λhk=> ?_) (λhk=> ?_)
       .have hk:=bE hk;exact⟨_,Z,gY,λt3 qi=>out (.long (j9 s)) _ t3 (by rw[eR];unfold yY;rw[ax (by lia),aB (by lia)]) Ts qi⟩
       .have hk4:¬((j9 s:Nat):Int)>100:=λz=>hk (aS z);have eN:gL s=none:=by rw[eR];unfold yY;rw[ax (by lia),ax (by lia)]
        rw[eN] at q;exact q _ (KL.trans Ts)
theorem aaS{K:Frag}{mg:Str->aO}{x:Str}{C f R:S'}(E:XI K mg x C f R)(D:S'):∃nm q N bs bm jf sn sub ab col dd k0 k1 k2 k3 k5 i,K.lookup C=some (excClassObj nm q C N bs bm jf sn sub ab col dd k0 k1 k2 k3 k5 i)/\(Value.ref C::bm).contains (.ref D)=(decide (D=C)||decide (D=R)):=by
 obtain⟨nm,q,N,bs,bm,hd,sn,sub,ab,col,dd,j0,j1,j2,j3,j5,lk,T2⟩:=E.X.toExcC.obj;refine⟨nm,q,N,bs,bm,hd,sn,sub,ab,col,dd,j0,j1,j2,j3,j5,_,lk,?_⟩;have h:=E.mi D;unfold PySem.W.mroIn clsIn at h;rw[lk] at h;exact fV h
theorem mB{K:Frag}{mg:Str->aO}{x:Str}{C f R:S'}(E:XI K mg x C f R):Under K C C:=by
 obtain⟨nm,q,N,bs,bm,hd,sn,sub,ab,col,dd,j0,j1,j2,j3,j5,i,lk,h⟩:=aaS E C;exact⟨nm,q,N,bs,bm,hd,sn,sub,ab,col,dd,j0,j1,j2,j3,j5,i,lk,by rw[h,aS Z];rfl⟩
theorem dk{K:Frag}{mg:Str->aO}{x:Str}{C f R D:S'}(E:XI K mg x C f R)(h1:D≠C)(h2:D≠R):FV K C D:=by
 obtain⟨nm,q,N,bs,bm,hd,sn,sub,ab,col,dd,j0,j1,j2,j3,j5,i,lk,h⟩:=aaS E D;exact⟨nm,q,N,bs,bm,hd,sn,sub,ab,col,dd,j0,j1,j2,j3,j5,i,lk,by rw[h,ba h1,ba h2];rfl⟩
def QU(A:nT):Prop:=([A.cc,A.iO,A.gD,A.gK,A.kJ,A.gy,A.gx,A.gw,A.pL]:b_).Nodup
noncomputable def Xn(A:nT):b_:=[A.cc,A.iO,A.gD,A.gK,A.kJ,A.gy,A.gx,A.gw,A.pL]
theorem eX{A:nT}(df:QU A){x y:S'}(i j:Nat)(h1:(Xn A)[i]? =some x)(h2:(Xn A)[j]? =some y)(hij:i≠j):x≠y:=λz=>by
 subst z;have hi:=(c9.mp h1).1;exact hij ((List.getElem?_inj hi (show(Xn A).Nodup from df)).mp (h1.trans h2.symm))
def DP(A:nT)(f:S')(spL:Sp):Sp:=λvs H Q _=>vs=[.ref f]/\∀t0,H t0=none->∀(Q' :VK) (E' :XK),(∀v H1,(∀t,H1 t=none->Q (.ref t) (upd H1 t (.tup [.str "program",v])))->Q' v H1)->
 (∀(r:Rf) dx H2,H2 dx=some (.xd [(r.fd,r.v)])->(∀t,H2 t=none->Q (.ref t) (upd H2 t (.tup [.str r.tag,r.v])))->E' (.ref (r.cls A)) (some dx) H2)->spL [] (upd H t0 (.tup [.str "other"])) Q' E'
theorem Eo(T:Txt K mg A)(df:QU A){f:S'}{YY QG :aad}{spL:Sp}(VC:aT P w K mg base (Dg P w) 52 f YY [] spL)(WD:∃oc od sl,base.get? f=some ⟨oc,od,.func QG,sl⟩)(Vn:Binds K YY [] []):
 aT P w K mg base dQ 53 A.qY A.qd ["_law_call"] (DP A f spL):=by
 refine T.mR.F.ok cq (λvs H Q E h=> ?_) (λcB Ar outer s0 H vs Q E hr h=> ?_)
 .obtain⟨rfl,_⟩:=h;rfl
 .obtain⟨rfl,q⟩:=h;refine⟨_,(aj (gf 1 cq.nd (bt (aM ai))) (aj (Pu (i:=2) Z Z cq.nd Z Z (.cons Z T.hV.m T.hV.X.toExcC (by decide) (λa=>(aq (gf 1 cq.nd (bt (ag ai (aM (jU (K:=K) Z (pv 2) Z))))))) (.cons Z T.gH.m T.gH.X.toExcC (by decide) (λa=>(aq (gf 1 cq.nd (bt (ag ai (aM (jU (K:=K) Z (pv 2) Z))))))) (.cons Z T.fQ.m T.fQ.X.toExcC (by decide) (λa=>(aq (gf 1 cq.nd (bt (ag ai (aM (jU (K:=K) Z (pv 2) Z))))))) (.cons Z T.iV.m T.iV.X.toExcC (by decide) (λa=>(aq (gf 1 cq.nd (bt (ag ai (aM (jU (K:=K) Z (pv 2) Z))))))) (.cons Z T.eD.m T.eD.X.toExcC (by decide) (λa=>(aq (gf 1 cq.nd (bt (ag ai (aM (jU (K:=K) Z (pv 2) Z))))))) (.cons Z T.dS.m T.dS.X.toExcC (by decide) (λa=>(aq (gf 1 cq.nd (bt (ag ai (aM (jU (K:=K) Z (pv 2) Z))))))) (.cons Z T.dF.m T.dF.X.toExcC (by decide) (λa=>(aq (gf 1 cq.nd (bt (ag ai (aM (jU (K:=K) Z (pv 2) Z))))))) (.cons Z T.GH.m T.GH.X.toExcC (by decide) (λa=>(aq (gf 1 cq.nd (bt (ag ai (aM (jU (K:=K) Z (pv 2) Z))))))) .nil)))))))) (λE pn W hw=>(aq (gf 1 cq.nd (bt (ag ai (aM (KW VC WD hr Vn (jy hw trivial) (pv 0))))))))) (aq (aH (pv 1))))),?_⟩;refine⟨y8,λt0 Zg=>⟨_,Z,Z,q t0 Zg _ _ (λv H1 h=>⟨gY,λt ht=>⟨_,Z,h t ht⟩⟩) λr dx H2 hx h=> ?_⟩⟩;have Ht:∀σ:L2.St,σ.length=3->∃x0 x1 x2,σ=[x0,x1,x2]:=Yn λa b c=>⟨a,b,c,Z⟩
  cases r with
  |many z=>
   refine⟨_,_,Z,(.inr ⟨dk T.gH (eX df 1 2 Z Z (by decide)) (eX df 1 0 Z Z (by decide)),.inl ⟨mB T.gH,Z⟩⟩),λa σ ea hl=> ?_⟩;obtain⟨x0,x1,x2,rfl⟩:=Ht σ hl;exact⟨_,Z,a,_,dx,false,_,_,Z,ea,hx,T.gH.g.toExcG,T.qE,Z,gY,λt ht=>⟨_,Z,h t ht⟩⟩
  |deep z=>
   refine⟨_,_,Z,(.inr ⟨dk T.fQ (eX df 1 3 Z Z (by decide)) (eX df 1 0 Z Z (by decide)),.inr ⟨dk T.fQ (eX df 2 3 Z Z (by decide)) (eX df 2 0 Z Z (by decide)),.inl ⟨mB T.fQ,Z⟩⟩⟩),λa σ ea hl=> ?_⟩;obtain⟨x0,x1,x2,rfl⟩:=Ht σ hl;exact⟨_,Z,a,_,dx,false,_,_,Z,ea,hx,T.fQ.g.toExcG,T.ph,Z,gY,λt ht=>⟨_,Z,h t ht⟩⟩
  |twice z=>
   refine⟨_,_,Z,(.inr ⟨dk T.iV (eX df 1 4 Z Z (by decide)) (eX df 1 0 Z Z (by decide)),.inr ⟨dk T.iV (eX df 2 4 Z Z (by decide)) (eX df 2 0 Z Z (by decide)),.inr ⟨dk T.iV (eX df 3 4 Z Z (by decide)) (eX df 3 0 Z Z (by decide)),.inl ⟨mB T.iV,Z⟩⟩⟩⟩),λa σ ea hl=> ?_⟩;obtain⟨x0,x1,x2,rfl⟩:=Ht σ hl;exact⟨_,Z,a,_,dx,false,_,_,Z,ea,hx,T.iV.g.toExcG,T.tY,Z,gY,λt ht=>⟨_,Z,h t ht⟩⟩
  |qc z=>
   refine⟨_,_,Z,(.inr ⟨dk T.eD (eX df 1 5 Z Z (by decide)) (eX df 1 0 Z Z (by decide)),.inr ⟨dk T.eD (eX df 2 5 Z Z (by decide)) (eX df 2 0 Z Z (by decide)),.inr ⟨dk T.eD (eX df 3 5 Z Z (by decide)) (eX df 3 0 Z Z (by decide)),.inr ⟨dk T.eD (eX df 4 5 Z Z (by decide)) (eX df 4 0 Z Z (by decide)),.inl ⟨mB T.eD,Z⟩⟩⟩⟩⟩),λa σ ea hl=> ?_⟩;obtain⟨x0,x1,x2,rfl⟩:=Ht σ hl;exact⟨_,Z,a,_,dx,false,_,_,Z,ea,hx,T.eD.g.toExcG,T.pk,Z,gY,λt ht=>⟨_,Z,h t ht⟩⟩
  |wide z=>
   refine⟨_,_,Z,(.inr ⟨dk T.dS (eX df 1 6 Z Z (by decide)) (eX df 1 0 Z Z (by decide)),.inr ⟨dk T.dS (eX df 2 6 Z Z (by decide)) (eX df 2 0 Z Z (by decide)),.inr ⟨dk T.dS (eX df 3 6 Z Z (by decide)) (eX df 3 0 Z Z (by decide)),.inr ⟨dk T.dS (eX df 4 6 Z Z (by decide)) (eX df 4 0 Z Z (by decide)),.inr ⟨dk T.dS (eX df 5 6 Z Z (by decide)) (eX df 5 0 Z Z (by decide)),.inl ⟨mB T.dS,Z⟩⟩⟩⟩⟩⟩),λa σ ea hl=> ?_⟩;obtain⟨x0,x1,x2,rfl⟩:=Ht σ hl;exact⟨_,Z,a,_,dx,false,_,_,Z,ea,hx,T.dS.g.toExcG,T.pP,Z,gY,λt ht=>⟨_,Z,h t ht⟩⟩
  |long z=>
   refine⟨_,_,Z,(.inr ⟨dk T.dF (eX df 1 7 Z Z (by decide)) (eX df 1 0 Z Z (by decide)),.inr ⟨dk T.dF (eX df 2 7 Z Z (by decide)) (eX df 2 0 Z Z (by decide)),.inr ⟨dk T.dF (eX df 3 7 Z Z (by decide)) (eX df 3 0 Z Z (by decide)),.inr ⟨dk T.dF (eX df 4 7 Z Z (by decide)) (eX df 4 0 Z Z (by decide)),.inr ⟨dk T.dF (eX df 5 7 Z Z (by decide)) (eX df 5 0 Z Z (by decide)),.inr ⟨dk T.dF (eX df 6 7 Z Z (by decide)) (eX df 6 0 Z Z (by decide)),.inl ⟨mB T.dF,Z⟩⟩⟩⟩⟩⟩⟩),λa σ ea hl=> ?_⟩;obtain⟨x0,x1,x2,rfl⟩:=Ht σ hl;exact⟨_,Z,a,_,dx,false,_,_,Z,ea,hx,T.dF.g.toExcG,T.pV,Z,gY,λt ht=>⟨_,Z,h t ht⟩⟩
  |sO z=>
   refine⟨_,_,Z,(.inl ⟨mB T.hV,Z⟩),λa σ ea hl=> ?_⟩;obtain⟨x0,x1,x2,rfl⟩:=Ht σ hl;exact⟨_,Z,a,_,dx,false,_,_,Z,ea,hx,T.hV.g.toExcG,T.qX,Z,gY,λt ht=>⟨_,Z,h t ht⟩⟩
structure Fits(B k:Nat)(d:U'):Prop where
 sh:d.showable=true
 dp:d.depth<=k
 ln:d.shown.length<=B
theorem Fits.mono{B B' k k' :Nat}{d:U'}(g:Fits B k d)(h:B<=B')(h' :k<=k'):Fits B' k' d:=⟨g.sh,aU g.dp h',aU g.ln h⟩
structure c_(B k:Nat)(ds:List U'):Prop where
 sh:PyData.showableAll ds=true
 dp:PyData.depthAll ds<=k
 ln:((PyData.shownAll ds).map (·.length)).sum+2*(PyData.shownAll ds).length<=B
theorem c_.nil{k:Nat}:c_ 0 k []:=⟨by simp[PyData.showableAll],by simp[PyData.depthAll],by simp[PyData.shownAll]⟩
theorem c_.cons{B C k:Nat}{d:U'}{ds:List U'}(g:Fits B k d)(h:c_ C k ds):c_ (B+2+C) k (d::ds):=by
 have g1:=g.ln;have h1:=h.ln;refine⟨?_,?_,?_⟩
 .simp only[PyData.showableAll,g.sh,h.sh,Bool.and_self]
 .simp only[PyData.depthAll];exact Nat.max_le.mpr ⟨g.dp,h.dp⟩
 .simp only[PyData.shownAll,cP,kP,bB]
  lia
theorem c_.mono{B B' k k' :Nat}{d:List U'}(g:c_ B k d)(h:B<=B')(h' :k<=k'):c_ B' k' d:=⟨g.sh,aU g.dp h',aU g.ln h⟩
theorem c_.app{B C k:Nat}:∀{ds es:List U'},c_ B k ds->c_ C k es->c_ (B+C) k (ds++es)
 |[],es,_,h=>h.mono (by lia) (aK _)
 |d::ds,es,g,h=>by
  have sh:=g.sh;have dp:=g.dp;have ln:=g.ln;simp only[PyData.showableAll,cH] at sh;simp only[PyData.depthAll] at dp;simp only[PyData.shownAll,cP,kP,bB] at ln;have r:=c_.app (B:=B - d.shown.length - 2) (ds:=ds) ⟨sh.2,by lia,by lia⟩ h;refine(c_.cons (B:=d.shown.length) (k:=k) ⟨sh.1,by lia,aK _⟩ r).mono (by lia) (aK _)
theorem c_.list{B k:Nat}{ds:List U'}(h:c_ B k ds):Fits (B+3) (k+1) (.list ds):=by
 have h1:=h.ln;have h2:=h.dp;refine⟨?_,?_,?_⟩
 .simp only[PyData.showable,h.sh]
 .simp only[PyData.depth]
  lia
 .simp only[PyData.shown];have:=listText_len_le (PyData.shownAll ds)
  lia
theorem c_.tup{B k:Nat}{ds:List U'}(h:c_ B k ds):Fits (B+3) (k+1) (.tuple ds):=by
 have h1:=h.ln;have h2:=h.dp;refine⟨?_,?_,?_⟩
 .simp only[PyData.showable,h.sh]
 .simp only[PyData.depth]
  lia
 .simp only[PyData.shown];have:=tupleText_len_le (PyData.shownAll ds)
  lia
theorem Fits.rep{B k:Nat}{d:U'}(g:Fits B k d)(hB:B<=100000)(hk:k<=90):d.showable=true/\d.depth<=90/\d.shown.length<=sizeLine:=⟨g.sh,aU g.dp hk,aU g.ln (cT (fj hB))⟩
theorem rf{i:Int}(h:i.natAbs<10 ^ 40):Fits 100 3 (.int i):=by
 refine⟨?_,?_,?_⟩
 .simp only[PyData.showable];refine aS ?_;by_cases h0:i.natAbs=0
  .rw[h0];decide
  .refine(Nat.log2_lt h0).mpr (zx h ?_);decide+kernel
 .simp[PyData.depth]
 .simp only[PyData.shown];rw[PySem.ofString_length];exact aU (PySem.int_text_length_le10 (k:=40) (by decide) h) (by decide)
theorem vq{n:Nat}(h:n<=1000000):Fits 100 3 (.int (n:Int)):=rf (jc (show(n:Int).natAbs<=1000000 by rw[Int.natAbs_natCast];exact h) (by decide+kernel))
theorem rM:Fits 100 3 .none:=by
 refine⟨?_,?_,?_⟩
 .simp only[PyData.showable]
 .simp[PyData.depth]
 .simp only[PyData.shown];decide+kernel
theorem Ei{x:Str}(h:cv x=true):PyData.strOk x=true:=by
 unfold cv at h;rw[cH] at h;show x.cps.all (· <1114112)=true;rw[<-Array.all_toList];rw[a7];intro c hc;have:=a7.mp h.2 c hc;unfold dC at this;rw[cH] at this;have h2:=bE this.2;exact aS (by lia)
theorem A6{x:Str}(h:cv x=true):x.length<=6:=by
 unfold cv at h;rw[cH,cH] at h;exact bE h.1.2
theorem kY{x:Str}(h:cv x=true):Fits 100 3 (.str x):=by
 refine⟨?_,?_,?_⟩
 .simp only[PyData.showable]
 .simp[PyData.depth]
 .have h1:=PyData.shown_le 8 (by decide) (.str x) (PyData.leavesShort_of_canLay0 8 _ (by simp only[PyData.canLay0];exact Ei h) (by simp only[PyData.intsShort]));have h2:PyData.weight (.str x)=x.length:=by simp only[PyData.weight];rfl
  have h3:=A6 h
  lia
theorem Nd{k:Str}{d:U'}(h:zO k d):Fits 100 3 d:=by
 cases h with
 |name x h=>exact kY h
 |label x h n=>exact kY h
 |GZ=>exact rM
 |mark x h=>exact kY h
 |DT=>exact rM
 |value i h=>exact rf h
 |number i h=>exact rf h
 |num k lo hi i h h1 h2=>
  have:=bE (a7.mp (show(xc.all λp=>decide (0<=p.2.1/\p.2.2<=6))=true by decide+kernel) _ h);exact rf (jc (show i.natAbs<=6 by have h3:(0:Int)<=lo:=this.1;have h4:hi<=(6:Int):=this.2;lia) (by decide+kernel))
theorem FF{ks:au}{ps:List U'}(h:iw ks ps):c_ (102*ps.length) 3 ps:=by
 induction h with
 |nil=>exact c_.nil
 |cons h t ih=>exact(c_.cons (Nd h) ih).mono (by rw[bB];lia) (aK _)
theorem Dj{w:Str}{ks:au}(h:(w,ks)∈bg):cv w=true:=bE (a7.mp (show(bg.all λp=>decide (cv p.1=true))=true by decide+kernel) _ h)
theorem Qh{t:Bool}{B k:Nat}{ds:List U'}(h:c_ B k ds):Fits (B+3) (k+1) (iS t ds):=by
 cases t with
 |false=>exact h.list
 |true=>exact h.tup
mutual
theorem shD:∀d:Dd,mv d->Fits (998+1000*jM d) (4+2*mG d) (dD d)
 | .mk w ps bs,ok=>by
  rw[mv] at ok;obtain⟨⟨ks,f,fit⟩,hb⟩:=ok;have h4:=fR f;rw[bu,gS] at h4;have hl:=Ag fit;rw[dD,jM,mG];refine(c_.tup (c_.cons (B:=100) (k:=3+2*nR bs) ((kY (Dj f)).mono (aK _) (by lia)) (((FF fit).mono (aK _) (by lia)).app (shB bs hb)))).mono ?_ (by lia)
  lia
theorem shS:∀s:Ds,mD s->c_ (1000*eB s) (4+2*eQ s) (sL s)
 | .nil,_=>by rw[sL];exact c_.nil.mono (cG _) (aK _)
 | .cons d r,ok=>by
  rw[mD] at ok;rw[sL,eB,eQ];exact(c_.cons ((shD d ok.1).mono (aK _) (by lia)) ((shS r ok.2).mono (aK _) (by lia))).mono (by lia) (aK _)
theorem shB:∀b:Bs,pF b->c_ (1000*mX b+5*b.l.length) (3+2*nR b) (bL b)
 | .nil,_=>by rw[bL];exact c_.nil.mono (cG _) (aK _)
 | .cons t b r,ok=>by
  rw[pF] at ok;rw[bL,mX,nR];refine(c_.cons ((Qh (shS b ok.1)).mono (aK _) (by lia)) ((shB r ok.2).mono (aK _) (by lia))).mono ?_ (aK _);show _<=1000*(eB b+mX r)+5*(r.l.length+1)
  lia
end
def BV(H:Hp)(l:S')(ns:au):Prop:=H l=some (.lst (ns.map V.str))/\ns.length<=100/\∀x∈ns,cv x=true
def yJ(H:Hp)(v:V):Prop:=∃wd ps,i3 H v (dD (.mk wd ps .nil))/\mv (.mk wd ps .nil)
theorem yJ.same{H H' :Hp}{v:V}(h:yJ H v)(s:ah H H'):yJ H' v:=by
 obtain⟨wd,ps,td,ok⟩:=h;exact⟨wd,ps,td.kt (KT.same s),ok⟩
theorem yJ.box{H H' :Hp}{v:V}{b:S'}{k:Nat}(h:yJ H v)(B:dg H b k)(o:Cf b H H'):yJ H' v:=by
 obtain⟨wd,ps,td,ok⟩:=h;obtain⟨x,y,z,hb,_⟩:=B;exact⟨wd,ps,td.kt λc ys e=>(o c (dw e hb (λz=>nomatch z))).trans e,ok⟩
theorem yJ.mk{H:Hp}{t:S'}{wd:Str}{xs:ak}{ks:au}{ps:List U'}(e:H t=some (.tup (.str wd::xs)))(f:(wd,ks)∈bg)(h:iw ks ps)(hx:bI H xs ps):yJ H (.ref t):=by
 refine⟨wd,ps,?_,?_⟩
 .rw[dD,bL,fG];exact .tup e (.cons (.str _) hx)
 .rw[mv,pF];exact⟨⟨ks,by show(wd,ks++[])∈bg;rw[fG];exact f,h⟩,True.intro⟩
structure Sw(b:S')(H:Hp)(k:Nat)(H' :Hp):Prop where
 box:dg H' b k
 kp:Kept b H H'
theorem Sw.same{b:S'}{H H' g6 :Hp}{k:Nat}(W:Sw b H k H')(s:ah H' g6):Sw b H k g6 :=⟨W.box.same s,W.kp.trans s.kept⟩
theorem Sw.take{b:S'}{H H' g6 :Hp}{k:Nat}(W:Sw b H k H')(B:dg g6 b (k+1))(O:Cf b H' g6):Sw b H (k+1) g6 :=⟨B,W.kp.trans O.kept⟩
theorem RQ:(10:Int) ^ (30:Int).toNat=1000000000000000000000000000000:=by decide+kernel
def MR:Sp:=λvs H Q _=>∃b nl al k ns ar,vs=[.ref b,.ref nl,.ref al]/\dg H b k/\k+20<=100000/\BV H nl ns/\ns≠[]/\BV H al ar/\nl≠b/\al≠b/\
 ∀v H',yJ H' v->dg H' b (k+20)->Kept b H H'->Q v H'
theorem Br(T:Txt K mg A):aT P w K mg base dQ 2 A.tM A.sX ["_law_box_here","_law_names_here","_law_around"] MR:=by
 refine T.ua.F.vc dr ?_
 rintro cB Ar outer s H vs Q E hr ⟨b,nl,al,k,ns,ar,rfl,B,hk,hn,wN,ha,nb,ab,q⟩
 have Ff:0<((ns.map V.str).length:Int):=by
  rw[a6];have:=EE.mpr wN
  lia
 have hle:((ns.map V.str).length:Int)<1606938044258990275541962092341162602522202993782792835301376:=by
  rw[a6];have:=hn.2.1
  lia
 have nmo:∀x∈ns.map V.str,∃z,x= .str z/\cv z=true:=λx hx=>by
  obtain⟨z,hz,rfl⟩:=jC.mp hx;exact⟨z,Z,hn.2.2 z hz⟩
 refine⟨_,(aj (gf 3 dr.nd (cI (aE T) hr T.aG aC (ag (pv 0) (aM ae)))) (aj (gf 4 dr.nd (cS a8 (pv 1) (cI (aE T) hr T.aG aC (ag (pv 0) (aM (iW br T.g7 Boot.«len» (aM (pv 1)))))))) (aj (gf 5 dr.nd (cS a8 (pv 1) (cI (aE T) hr T.aG aC (ag (pv 0) (aM (iW br T.g7 Boot.«len» (aM (pv 1)))))))) (aj (gf 6 dr.nd (cS a8 (bH (ag ae (aM (cI (aE T) hr T.aG aC (ag (pv 0) (aM ae)))))) (cI (aE T) hr T.aG aC (ag (pv 0) (aM ae))))) (aj (bU (wn Ao (pv 3) ae) (aj (gf 7 dr.nd (aL fM (aL fM (bH (ag d_ (aM d_))) (pv 2)) (bH (aM ai)))) (aq (aH (bt (ag ai (ag (pv 4) (ag (aL bA ae (cI (aE T) hr T.aG aC (ag (pv 0) (aM (cS a8 (bH (ag ae (aM ae))) (cI (aE T) hr T.aG aC (ag (pv 0) (aM ae)))))))) (aM (cS a8 (pv 7) (cI (aE T) hr T.aG aC (ag (pv 0) (aM (iW br T.g7 Boot.«len» (aM (pv 7))))))))))))))) bf) (aj (gf 8 dr.nd (cS a8 (bH (ag (aL i9 (cI (aE T) hr T.aG aC (ag (pv 0) (aM ae))) ae) (aM (aL bA (aL i9 (cI (aE T) hr T.aG aC (ag (pv 0) (aM (aL i9 (aL md ae (aL qt ae ae)) ae)))) (aL qt ae ae)) ae)))) (Ox xv T.CC Boot.«int» (aM (H_ cK (cI (aE T) hr T.aG aC (ag (pv 0) (aM ae))) ae))))) (aj (gf 9 dr.nd (bH (ag (bt (ag ai (ag (pv 4) (ag (pv 6) (aM (pv 5)))))) (ag (bt (ag ai (ag (pv 4) (ag (pv 5) (aM (pv 6)))))) (ag (bt (ag ai (ag (pv 4) (aM (cS a8 (bH (ag d_ (aM (pv 8)))) (cI (aE T) hr T.aG aC (ag (pv 0) (aM ae)))))))) (aM (bt (ag ai (ag (pv 4) (aM (pv 5))))))))))) (aq (aH (cS a8 (aL fM (pv 9) (bH (ag (bt (ag ai (ag (pv 4) (ag (pv 5) (aM (pv 8)))))) (ag (bt (ag ai (aM (pv 4)))) (aM (bt (ag ai (ag (pv 4) (aM (pv 5)))))))))) (aL i9 (pv 3) ae))))))))))),?_⟩;refine⟨_,Z,b,9,k,Z,B,by lia,by decide,by decide,λkind H1 k0 k1 B1 O1=> ?_⟩;have W1:Sw b H (k+1) H1:=Sw.take ⟨B,Kept.refl _ _⟩ B1 O1;refine⟨_,Z,_,Z,_,Z,nl,_,Z,.inl (cF.of (W1.kp _ _ nb hn.1)),b,_,k+1,Z,B1,by lia,Ff,hle,λi1 H2 r0 r1 B2 O2=> ?_⟩;have W2:=W1.take B2 O2;refine gO (λv=>∃z,v= .str z/\cv z=true) (W2.kp _ _ nb hn.1) r0 r1 nmo λv hv=> ?_;obtain⟨x,rfl,hx⟩:=hv;refine⟨_,Z,_,Z,_,Z,nl,_,Z,.inl (cF.of (W2.kp _ _ nb hn.1)),b,_,k+2,Z,B2,by lia,Ff,hle,λi2 H3 s0 s1 B3 O3=> ?_⟩;have W3:=W2.take B3 O3;refine gO (λv=>∃z,v= .str z/\cv z=true) (W3.kp _ _ nb hn.1) s0 s1 nmo λv hv=> ?_;obtain⟨y,rfl,hy⟩:=hv;refine⟨_,Z,b,6,k+3,Z,B3,by lia,by decide,by decide,λr6 H4 a0 a1 B4 O4=> ?_⟩;have W4:=W3.take B4 O4;refine⟨gY,λp4 Hd=> ?_⟩;have W4' :=W4.same (ah.upd (o:= .lst [V.int 0,V.int r6]) Hd);have np4:p4≠b:=W4.box.ne Hd;refine⟨_,Z,b,2,k+4,Z,W4'.box,by lia,by decide,by decide,λr2 H5 c0 c1 B5 O5=> ?_⟩;have W5:=W4'.take B5 O5;refine gO (λv=>∃i:Int,v= .int i/\0<=i/\i<=5) (O5.kept _ _ np4 af) c0 c1 ?_ λv hv=> ?_
 .intro z hz;simp only[aP,cO,cN] at hz;rcases hz with rfl|rfl
  .exact⟨_,Z,by decide,by decide⟩
  .exact⟨_,Z,a0,by lia⟩
 obtain⟨cl,rfl,cl0,cl5⟩:=hv;clear W1 W2 W3 W4 W4' O1 O2 O3 O4 O5 B1 B2 B3 B4;refine⟨_,Z,kind,2,Z,Z,_,Z,?_⟩;have fc:zO "cell" (.int cl):= .num "cell" 0 5 cl (by decide+kernel) cl0 cl5;have al5:=W5.kp _ _ ab ha.1;have arl:=ha.2.1;refine mF (λQW=> ?_) (λQW=> ?_)
 .refine⟨gY,λp1 JZ=>⟨_,Z,p1,al,_,_,Z,Z,af,ah.upd JZ _ _ al5,?_,λp2 Di=>⟨y8,λp3 BN=>⟨p2,p3,_,_,Z,Z,ah.upd BN _ _ af,af,?_,λp6 hp6=> ?_⟩⟩⟩⟩
  .rw[a6];exact cT (fj (show 2+ar.length<=100000 by lia))
  .rw[bu,a6];exact cT (fj (show 2+ar.length+1<=100000 by lia))
  have W6:=(((W5.same (ah.upd JZ)).same (ah.upd Di)).same (ah.upd (o:= .lst [V.str "ground"]) BN));have np6:p6≠b:=W6.box.ne hp6;have W7:=W6.same (ah.upd (o:= .lst (([V.bp,V.bp]++ar.map V.str)++[.str "ground"])) hp6);have e7:upd _ p6 (.lst (([V.bp,V.bp]++ar.map V.str)++[.str "ground"])) p6=some (.lst (([V.bp,V.bp]++ar.map V.str)++[.str "ground"])):=af (H:=upd (upd (upd H5 p1 (.lst [V.bp,V.bp])) p2 (.lst ([V.bp,V.bp]++ar.map V.str))) p3 (.lst [V.str "ground"]));generalize upd (upd (upd (upd H5 p1 (.lst [V.bp,V.bp])) p2 (.lst ([V.bp,V.bp]++ar.map V.str))) p3 (.lst [V.str "ground"])) p6 (.lst (([V.bp,V.bp]++ar.map V.str)++[.str "ground"]))=H7 at W7 e7 ⊢
  have mko:∀v∈([V.bp,V.bp]++ar.map V.str)++[.str "ground"],∃d,zO "mark" d/\∀H,i3 H v d:=λv hv=>by
   rcases eA.mp hv with hv|hv
   .rcases eA.mp hv with hv|hv
    .simp only[aP,cO,cN,or_self] at hv;exact⟨.none,.GZ,λ_=>by rw[hv];exact .bp⟩
    .obtain⟨z,hz,rfl⟩:=jC.mp hv;exact⟨.str z,.mark z (ha.2.2 z hz),λ_=> .str _⟩
   .rw[gv.mp hv];exact⟨.str "ground",.mark _ (by decide+kernel),λ_=> .str _⟩
  have hll:(([V.bp,V.bp]++ar.map V.str)++[V.str "ground"]).length=ar.length+3:=by
   simp only[bu,a6,bB,m5]
   lia
  generalize ([V.bp,V.bp]++ar.map V.str)++[V.str "ground"]=Au at e7 mko hll;refine⟨_,Z,_,Z,gY,λp8 Lh=> ?_⟩;have W8:=W7.same (ah.upd (o:= .lst [V.int 2,V.int 6]) Lh);have np8:p8≠b:=W7.box.ne Lh;refine⟨_,Z,b,2,k+5,Z,W8.box,by lia,by decide,by decide,λr8 H9 d0 d1 B9 O9=> ?_⟩;have W9:=W8.take B9 O9;refine gO (λv=>∃i:Int,v= .int i/\0<i/\i<=6) (O9.kept _ _ np8 af) d0 d1 ?_ λv hv=> ?_
  .intro z hz;simp only[aP,cO,cN] at hz
   rcases hz with rfl|rfl<;>exact⟨_,rfl,by decide,by decide⟩
  obtain⟨up,rfl,u0,u6⟩:=hv;refine⟨b,up,k+6,Z,B9,by lia,u0,by lia,λsz VS z0 z1 B10 O10=> ?_⟩;have W10:=W9.take B10 O10;have e10:=O10.kept _ _ np6 (O9.kept _ _ np6 (ah.upd Lh _ _ e7));refine⟨1,sz,Z,Z,_,Z,_,Z,_,Z,p6,_,Z,.inl (cF.of e10),b,_,k+7,Z,B10,by lia,by rw[hll];lia,by rw[hll];lia,λr11 Kw f0 f1 B11 ZY=> ?_⟩;have YV:=W10.take B11 ZY;refine gO (λv=>∃d,zO "mark" d/\∀H,i3 H v d) (ZY.kept _ _ np6 e10) f0 f1 mko λv hv=> ?_;obtain⟨d,fd,td⟩:=hv;refine⟨Jq,λt ht=> ?_⟩;have W12:=YV.same (ah.upd (o:= .tup [V.str "make",.str x,.int (1+sz),v]) ht);exact q _ _ (yJ.mk (ks:=["name","size","mark"]) (ps:=[.str x,.int (1+sz),d]) af (by decide+kernel) (.cons (.name x hx) (.cons (.num "size" 1 6 _ (by decide+kernel) (by lia) (by lia)) (.cons fd .nil))) (.cons (.str _) (.cons (.int _) (.cons (td _) .nil)))) (W12.box.mono (by lia)) W12.kp
 .have QW:¬kind<2:=λz=>QW (aS z);refine⟨_,Z,b,7,k+5,Z,W5.box,by lia,by decide,by decide,λn7 H6 d0 d1 B6 O6=> ?_⟩;have W6:=W5.take B6 O6;refine⟨n7,3,Z,Z,_,Z,10,30,Z,Z,⟨by decide,by decide,by decide⟩,2,_,Z,Z,.inl ⟨by decide,by decide⟩,_,1,Z,Z,?_⟩;rw[RQ];refine⟨b,_,k+6,Z,B6,by lia,by decide,by decide,λnb7 H7 f0 f1 B7 O7=> ?_⟩;have W7:=W6.take B7 O7;refine⟨10,30,Z,Z,⟨by decide,by decide,by decide⟩,_,_,Z,Z,_,1,Z,Z,?_⟩;rw[RQ];refine⟨gY,λp8 Lh=> ?_⟩;have W8:=W7.same (ah.upd (o:= .lst [V.int (n7 - 3),.int (nb7 - 1000000000000000000000000000000+1)]) Lh);have np8:p8≠b:=W7.box.ne Lh;refine⟨_,Z,b,5,k+7,Z,W8.box,by lia,by decide,by decide,λr8 H9 g0 g1 B9 O9=> ?_⟩;have W9:=W8.take B9 O9;refine⟨Z,.inr ⟨_,Z,?_⟩⟩;refine gO (λv=>∃i:Int,v= .int i/\i.natAbs<10 ^ 40) (O9.kept _ _ np8 af) (by split<;>decide) (by split;exact(show(1:Int)<2 by decide);exact(show(0:Int)<2 by decide)) ?_ λv hv=> ?_
  .have e40:(10:Nat) ^ 40=10000000000000000000000000000000000000000:=by decide+kernel
   intro z hz;simp only[aP,cO,cN] at hz;rcases hz with rfl|rfl
   .exact⟨_,Z,by rw[e40];lia⟩
   .exact⟨_,Z,by rw[e40];lia⟩
  obtain⟨num,rfl,Zk⟩:=hv;clear W6 W7 W8 O6 O7 O9 B6 B7;have fx:=zO.name x hx;have fy:=zO.name y hy;refine⟨_,Z,_,Z,_,Z,Jq,λt1 uG=> ?_⟩;have u1:=ah.upd (o:= .tup [V.str "put",.str x,.int cl,.str y]) uG;have S1:yJ (upd H9 t1 (.tup [V.str "put",.str x,.int cl,.str y])) (.ref t1):=yJ.mk (ks:=["name","cell","name"]) (ps:=[.str x,.int cl,.str y]) af (by decide+kernel) (.cons fx (.cons fc (.cons fy .nil))) (.cons (.str _) (.cons (.int _) (.cons (.str _) .nil)));have V1:=W9.same u1;generalize upd H9 t1 (.tup [V.str "put",.str x,.int cl,.str y])=G1 at u1 S1 V1 ⊢;refine⟨_,Z,_,Z,_,Z,Jq,λt2 wU=> ?_⟩;have u2:=ah.upd (o:= .tup [V.str "get",.str x,.str y,.int cl]) wU;have S2:yJ (upd G1 t2 (.tup [V.str "get",.str x,.str y,.int cl])) (.ref t2):=yJ.mk (ks:=["name","name","cell"]) (ps:=[.str x,.str y,.int cl]) af (by decide+kernel) (.cons fx (.cons fy (.cons fc .nil))) (.cons (.str _) (.cons (.str _) (.cons (.int _) .nil)));have V2:=V1.same u2;replace S1:=S1.same u2;generalize upd G1 t2 (.tup [V.str "get",.str x,.str y,.int cl])=G2 at u2 S1 S2 V2 ⊢;refine⟨_,Z,_,Z,gY,λp3 BN=> ?_⟩;have u3:=ah.upd (o:= .lst [V.bp,V.int num]) BN;have V3:=V2.same u3;have np3:p3≠b:=V2.box.ne BN;refine⟨_,Z,b,2,k+8,Z,V3.box,by lia,by decide,by decide,λr3 G3 h0 h1 B3 O3=> ?_⟩;have V4:=V3.take B3 O3;replace S1:=(S1.same u3).box V3.box O3;replace S2:=(S2.same u3).box V3.box O3;refine gO (λv=>∃d,zO "value" d/\∀H,i3 H v d) (O3.kept _ _ np3 af) h0 h1 ?_ λv hv=> ?_
  .intro z hz;simp only[aP,cO,cN] at hz;rcases hz with rfl|rfl
   .exact⟨_,.DT,λ_=> .bp⟩
   .exact⟨_,.value num Zk,λ_=> .int _⟩
  obtain⟨d,fd,td⟩:=hv;refine⟨F9,λt3 qi=> ?_⟩;have u5:=ah.upd (o:= .tup [V.str "set",.str x,v]) qi;have S3:yJ (upd G3 t3 (.tup [V.str "set",.str x,v])) (.ref t3):=yJ.mk (ks:=["name","value"]) (ps:=[.str x,d]) af (by decide+kernel) (.cons fx (.cons fd .nil)) (.cons (.str _) (.cons (td _) .nil));have V5:=V4.same u5;replace S1:=S1.same u5;replace S2:=S2.same u5;generalize upd G3 t3 (.tup [V.str "set",.str x,v])=G5 at u5 S1 S2 S3 V5 ⊢;refine⟨_,Z,_,Z,F9,λt4 JN=> ?_⟩;have u6:=ah.upd (o:= .tup [V.str "copy",.str x,.str y]) JN;have S4:yJ (upd G5 t4 (.tup [V.str "copy",.str x,.str y])) (.ref t4):=yJ.mk (ks:=["name","name"]) (ps:=[.str x,.str y]) af (by decide+kernel) (.cons fx (.cons fy .nil)) (.cons (.str _) (.cons (.str _) .nil));have V6:=V5.same u6;replace S1:=S1.same u6;replace S2:=S2.same u6;replace S3:=S3.same u6;generalize upd G5 t4 (.tup [V.str "copy",.str x,.str y])=G6 at u6 S1 S2 S3 S4 V6 ⊢;refine⟨Jq,λsl X0=> ?_⟩;have u7:=ah.upd (o:= .lst [V.ref t1,.ref t2,.ref t3,.ref t4]) X0;have e7:upd G6 sl (.lst [V.ref t1,.ref t2,.ref t3,.ref t4]) sl=some (.lst [V.ref t1,.ref t2,.ref t3,.ref t4]):=af;have V7:=V6.same u7;replace S1:=S1.same u7;replace S2:=S2.same u7;replace S3:=S3.same u7;replace S4:=S4.same u7;generalize upd G6 sl (.lst [V.ref t1,.ref t2,.ref t3,.ref t4])=G7 at u7 e7 S1 S2 S3 S4 V7 ⊢;refine⟨_,Z,_,Z,_,Z,_,Z,Jq,λt5 Pn=> ?_⟩;have u8:=ah.upd (o:= .tup [V.str "more",.str x,.str y,.int num]) Pn;have S5:yJ (upd G7 t5 (.tup [V.str "more",.str x,.str y,.int num])) (.ref t5):=yJ.mk (ks:=["name","name","number"]) (ps:=[.str x,.str y,.int num]) af (by decide+kernel) (.cons fx (.cons fy (.cons (.number num Zk) .nil))) (.cons (.str _) (.cons (.str _) (.cons (.int _) .nil)));generalize upd G7 t5 (.tup [V.str "more",.str x,.str y,.int num])=G8 at u8 S5 ⊢;refine⟨_,Z,gY,λt6 YL=> ?_⟩;have u9:=ah.upd (o:= .tup [V.str "tell",.str x]) YL;have S6:yJ (upd G8 t6 (.tup [V.str "tell",.str x])) (.ref t6):=yJ.mk (ks:=["name"]) (ps:=[.str x]) af (by decide+kernel) (.cons fx .nil) (.cons (.str _) .nil);generalize upd G8 t6 (.tup [V.str "tell",.str x])=G9 at u9 S6 ⊢;refine⟨_,Z,_,Z,F9,λt7 ht7=> ?_⟩;have u10:=ah.upd (o:= .tup [V.str "same",.str x,.str y]) ht7;have S7:yJ (upd G9 t7 (.tup [V.str "same",.str x,.str y])) (.ref t7):=yJ.mk (ks:=["name","name"]) (ps:=[.str x,.str y]) af (by decide+kernel) (.cons fx (.cons fy .nil)) (.cons (.str _) (.cons (.str _) .nil));generalize upd G9 t7 (.tup [V.str "same",.str x,.str y])=G10 at u10 S7 ⊢;refine⟨F9,λl2 n6=> ?_⟩;have u11:=ah.upd (o:= .lst [V.ref t5,.ref t6,.ref t7]) n6;have aa4:=(u8.trans u9).trans u10;refine⟨sl,l2,_,_,Z,Z,u11 _ _ (aa4 _ _ e7),af,ade,λl3 hl3=> ?_⟩;have u12:=ah.upd (o:= .lst ([V.ref t1,.ref t2,.ref t3,.ref t4]++[V.ref t5,.ref t6,.ref t7])) hl3;have ZP:upd (upd G10 l2 (.lst [V.ref t5,.ref t6,.ref t7])) l3 (.lst ([V.ref t1,.ref t2,.ref t3,.ref t4]++[V.ref t5,.ref t6,.ref t7])) l3=some (.lst ([V.ref t1,.ref t2,.ref t3,.ref t4]++[V.ref t5,.ref t6,.ref t7])):=af;have w_:=u11.trans u12;refine⟨_,Z,kind,2,Z,Z,?_⟩;generalize upd (upd G10 l2 (.lst [V.ref t5,.ref t6,.ref t7])) l3 (.lst ([V.ref t1,.ref t2,.ref t3,.ref t4]++[V.ref t5,.ref t6,.ref t7]))=G12 at w_ ZP ⊢;have s7:=aa4.trans w_;have V12:=V7.same s7;refine gO (yJ G12) ZP (by lia) (by show kind - 2<7;lia) ?_ λv hv=>q v G12 hv (V12.box.mono (by lia)) V12.kp;intro z hz;simp only[zT,oY,aP,cO,cN] at hz;rcases hz with rfl|rfl|rfl|rfl|rfl|rfl|rfl
  .exact S1.same s7
  .exact S2.same s7
  .exact S3.same s7
  .exact S4.same s7
  .exact S5.same ((u9.trans u10).trans w_)
  .exact S6.same (u10.trans w_)
  .exact S7.same w_
noncomputable def bw(H H' :Hp):Hp:=λc=>match H' c with
 |some (.lst xs)=>(match H c with
  |none=>some (.lst xs)
  |some _=>none)
 |o=>o
theorem wF{H H' :Hp}{c:S'}{xs:ak}(h:H c=none)(e:H' c=some (.lst xs)):bw H H' c=some (.lst xs):=by
 unfold bw;rw[e,h]
theorem j4{H H' :Hp}{c:S'}{xs:ak}(e:H' c=some (.tup xs)):bw H H' c=some (.tup xs):=by
 unfold bw;rw[e]
theorem k7{H H' :Hp}{c:S'}{xs:ak}(e:bw H H' c=some (.lst xs)):H c=none/\H' c=some (.lst xs):=by
 unfold bw at e
 cases e1:H' c with
 |none=>rw[e1] at e;cases e
 |some o=>
  rw[e1] at e
  cases o with
  |lst ys=>
   cases e2:H c with
   |none=>rw[e2] at e;exact⟨Z,e⟩
   |some _=>rw[e2] at e;cases e
  |_=>cases e
theorem AS{H H' :Hp}{c:S'}{xs:ak}(e:bw H H' c=some (.tup xs)):H' c=some (.tup xs):=by
 unfold bw at e
 cases e1:H' c with
 |none=>rw[e1] at e;cases e
 |some o=>
  rw[e1] at e
  cases o with
  |lst ys=>
   cases e2:H c with
   |none=>rw[e2] at e;cases e
   |some _=>rw[e2] at e;cases e
  |_=>exact e
theorem Oo{H H1 H' g6 :Hp}(f:∀c,H1 c=none->H c=none)(k:KT H' g6)(l:∀c xs,H1 c=none->H' c=some (.lst xs)->g6 c=some (.lst xs)){v:V}{d:U'}(h:Dat (bw H1 H') v d):Dat (bw H g6) v d:=
 DU (λc xs e=>j4 (k _ _ (AS e))) (λc xs e=>wF (f c (k7 e).1) (l c xs (k7 e).1 (k7 e).2)) h
theorem kZ{H H1 H' g6 :Hp}(f:∀c,H1 c=none->H c=none)(k:KT H' g6)(l:∀c xs,H1 c=none->H' c=some (.lst xs)->g6 c=some (.lst xs)){v:ak}{d:List U'}(h:DatAll (bw H1 H') v d):DatAll (bw H g6) v d:=
 rF (λc xs e=>j4 (k _ _ (AS e))) (λc xs e=>wF (f c (k7 e).1) (l c xs (k7 e).1 (k7 e).2)) h
theorem PZ{H H' :Hp}{v:V}{d:U'}(h:i3 H' v d):Dat (bw H H') v d:=(h.kt λ_ _ e=>j4 e).dat
noncomputable def Ds.of:List Dd->Ds
 |[]=> .nil
 |d::r=> .cons d (Ds.of r)
theorem Wn:∀l:List Dd,(Ds.of l).l=l
 |[]=>rfl
 |d::r=>by show d::(Ds.of r).l=_;rw[Wn r]
theorem jag:∀{l:List Dd},(∀d∈l,mv d)->mD (Ds.of l)
 |[],_=>by rw[Ds.of,mD];exact True.intro
 |d::r,h=>by rw[Ds.of,mD];exact⟨h d c5,jag λx hx=>h x (cw _ hx)⟩
theorem CY{n:Nat}:∀{l:List Dd},(∀d∈l,mG d<=n)->eQ (Ds.of l)<=n
 |[],_=>by rw[Ds.of,eQ];exact cG _
 |d::r,h=>by rw[Ds.of,eQ];exact Nat.max_le.mpr ⟨h d c5,CY λx hx=>h x (cw _ hx)⟩
theorem Jy(l:List Dd):eB (Ds.of l)=l.length+(l.map jM).sum:=by rw[BF,Wn]
theorem VI(l:List Dd):sL (Ds.of l)=l.map dD:=by rw[Gr,Wn]
theorem hU.trans{b f:S'}{H H1 H2:Hp}(a:hU b f H H1)(c:hU b f H1 H2):hU b f H H2:=λx o h1 h2 e=>c x o h1 h2 (a x o h1 h2 e)
theorem _root_.L2.ah.iC{b f:S'}{H H' :Hp}(s:ah H H'):hU b f H H' :=λc o _ _ e=>s _ _ e
theorem Kept.iC{b f:S'}{H H' :Hp}(s:Kept b H H'):hU b f H H' :=λc o h _ e=>s _ _ h e
theorem hU.kt{b f:S'}{H H' :Hp}{k:Nat}{xs:ak}(a:hU b f H H')(B:dg H b k)(hl:H f=some (.lst xs)):KT H H' :=λc ys e=>by
 obtain⟨x,y,z,hb,_⟩:=B;exact a _ _ (dw e hb (λz=>nomatch z)) (dw e hl (λz=>nomatch z)) e
theorem zS{H:Hp}{a p:S'}{xs:ak}{Q:VK}(ha:H a=some (.lst xs))(hp:H p=some (.lst []))(q:Q (.bl xs.isEmpty) H):Zo false (.ref a) (.ref p) H Q:=by
 refine⟨a,p,xs,[],Z,Z,ha,hp,?_⟩
 cases xs with
 |nil=>exact .inr ⟨Z,Z,Z,q⟩
 |cons x r=>exact .inl ⟨(λz=>by cases z),q⟩
structure Nv(H H1:Hp)(b lf fl:S')(H' :Hp)(kc:Nat)(m:Int)(ds:List Dd)(ws:ak):Prop where
 kp:hU b lf H H'
 fl:H' fl=some (.lst ws)
 dat:DatAll (bw H1 H') ws (ds.map dD)
 box:dg H' b kc
 left:H' lf=some (.lst [.int m])
theorem Nv.move{H H1 H' g6 :Hp}{b lf fl:S'}{kc Ub :Nat}{m m' :Int}{ds:List Dd}{ws:ak}(h:Nv H H1 b lf fl H' kc m ds ws)(n1:H1 b≠none)(n2:H1 lf≠none)(nb:fl≠b)(nf:fl≠lf)(k:hU b lf H' g6)(B:dg g6 b Ub)(L:g6 lf=some (.lst [.int m'])):Nv H H1 b lf fl g6 Ub m' ds ws:=
 ⟨h.kp.trans k,k _ _ nb nf h.fl,kZ (λ_ e=>e) (k.kt h.box h.left) (λc xs e1 e2=>k _ _ (λz=>n1 (z▸e1)) (λz=>n2 (z▸e1)) e2) h.dat,B,L⟩
theorem Nv.push{H H1 H' :Hp}{b lf fl:S'}{kc:Nat}{m:Int}{ds:List Dd}{ws:ak}{v:V}{d:Dd}(h:Nv H H1 b lf fl H' kc m ds ws)(n0:H fl=none)(n1:H1 fl≠none)(nb:fl≠b)(nf:fl≠lf)(g:Dat (bw H1 H') v (dD d)):Nv H H1 b lf fl (upd H' fl (.lst (ws++[v]))) kc m (ds++[d]) (ws++[v]):=by
 have k:KT H' (upd H' fl (.lst (ws++[v]))):=KT.upd h.fl
 have l:∀c xs,H1 c=none->H' c=some (.lst xs)->upd H' fl (.lst (ws++[v])) c=some (.lst xs):=λc xs e1 e2=>by
  rw[az (λz:c=fl=>n1 (z▸e1))];exact e2
 refine⟨λc o h1 h2 e=> ?_,af,?_,?_,?_⟩
 .rw[az (aA e n0)];exact h.kp _ _ h1 h2 e
 .rw[iQ];exact Bv (kZ (λ_ e=>e) k l h.dat) (.cons (Oo (λ_ e=>e) k l g) .nil)
 .obtain⟨x,y,z,hb,r⟩:=h.box;exact⟨x,y,z,by rw[az nb.symm];exact hb,r⟩
 .rw[az nf.symm];exact h.left
structure BdN(rm k:Nat)(lv:Int)(kc:Nat)(m:Int)(ds:List Dd):Prop where
 ok:∀d∈ds,mv d
 dp:∀d∈ds,mG d<=rm
 mn:ds.length+(ds.map jM).sum+m.toNat<=lv.toNat
 kb:(kc:Int)+30*m<=k+30*lv+1
 lo:0<=lv-> -(2*(rm:Int))<=m
 ZQ:lv<0->m=lv
 le:m<=lv
theorem BdN.push{rm k:Nat}{lv:Int}{kc Ub :Nat}{m m' :Int}{ds:List Dd}{d:Dd}(h:BdN rm k lv kc m ds)(hm:1<=m)(ok:mv d)(dp:mG d<=rm)(mn:1+jM d+m'.toNat<=m.toNat)(kb:(Ub :Int)+30*m'<=kc+30*m)(lo: -(2*(rm:Int))<=m')(le:m'<=m):BdN rm k lv Ub m' (ds++[d]):=by
 have h1:=h.mn;have h2:=h.kb;have h3:=h.le;have h4:=h.ZQ;refine⟨λx hx=> ?_,λx hx=> ?_,?_,by lia,λ_=>lo,λz=>by have:=h4 z;lia,by lia⟩
 .rcases eA.mp hx with hx|hx
  .exact h.ok x hx
  .rw[gv.mp hx];exact ok
 .rcases eA.mp hx with hx|hx
  .exact h.dp x hx
  .rw[gv.mp hx];exact dp
 .rw[bu,iQ,List.sum_append];show ds.length+1+((ds.map jM).sum+(jM d+0))+m'.toNat<=_
  lia
structure Ak(n:Nat)(H:Hp)(b lf nl ll al:S')(rm k:Nat)(lv:Int)(ns Au ar:au):Prop where
 room:rm<n
 r8:rm<=8
 box:dg H b k
 left:H lf=some (.lst [.int lv])
 low: -40+2*(rm:Int)<=lv
 up:lv<=44
 kb:(k:Int)+30*lv+2000<=90000
 nm:BV H nl ns
 ne:ns≠[]
 lb:BV H ll Au
 lg:∀x∈Au,x≠ "ground"
 arA:BV H al ar
 arn:ar.length+rm<=20
 d1:lf≠b
 d2:nl≠b/\nl≠lf
 d3:ll≠b/\ll≠lf
 d4:al≠b/\al≠lf
structure A1(H:Hp)(b lf l:S')(rm k:Nat)(lv:Int)(ds:List Dd)(H' :Hp)(k' :Nat)(EN :Int):Prop where
 new:H l=none
 ls:∃ws,H' l=some (.lst ws)/\DatAll (bw H H') ws (ds.map dD)
 ok:∀d∈ds,mv d
 dp:∀d∈ds,mG d<=rm
 mn:ds.length+(ds.map jM).sum+EN.toNat<=lv.toNat
 box:dg H' b k'
 left:H' lf=some (.lst [.int EN])
 kb:(k' :Int)+30*EN<=k+30*lv+1
 lo:0<=lv-> -(1+2*(rm:Int))<=EN
 ZQ:lv<0->lv - 1<=EN
 le:EN<=lv
 kp:hU b lf H H'
theorem BV.k2{H H' :Hp}{l b f:S'}{ns:au}(h:BV H l ns)(k:hU b f H H')(n:l≠b/\l≠f):BV H' l ns:=⟨k _ _ n.1 n.2 h.1,h.2⟩
theorem Ak.again{n n' :Nat}{H H' :Hp}{b lf nl ll al JM :S'}{rm rm' k k' :Nat}{lv EN :Int}{ns Au ar ar' :au}(h:Ak n H b lf nl ll al rm k lv ns Au ar)(hr:rm' <n')(hr1:rm' +1=rm)(kp:hU b lf H H')(B:dg H' b k')(L:H' lf=some (.lst [.int EN]))(lo: -(2*(rm' :Int)+1)<=EN)(up:EN<=lv)(kb:(k' :Int)+30*EN<=k+30*lv)(a:BV H' JM ar')(d:JM≠b/\JM≠lf)(hl:ar'.length<=ar.length+1):Ak n' H' b lf nl ll JM rm' k' EN ns Au ar' :=by
 have h1:=h.r8;have h2:=h.up;have h3:=h.kb;have h4:=h.arn;exact⟨hr,by lia,B,L,by lia,by lia,by lia,h.nm.k2 kp h.d2,h.ne,h.lb.k2 kp h.d3,h.lg,a,by lia,h.d1,h.d2,h.d3,d⟩
theorem WV{s1 s2:Ds}{t u:Bool}(h1:mD s1)(h2:mD s2):mv (.mk "either" [] (.cons t s1 (.cons u s2 .nil))):=by
 rw[mv,pF,pF,pF];exact⟨⟨[],by show(("either" :Str),(["body","body"]:au))∈bg;decide+kernel,.nil⟩,h1,h2,True.intro⟩
theorem VN{s1:Ds}{t:Bool}{l:Str}(h1:mD s1)(hl:cv l=true)(hg:l≠ "ground"):mv (.mk "frame" [.str l] (.cons t s1 .nil)):=by
 rw[mv,pF,pF];exact⟨⟨["label"],by show(("frame" :Str),(["label","body"]:au))∈bg;decide+kernel,.cons (.label l hl hg) .nil⟩,h1,True.intro⟩
theorem VA{s1:Ds}{t:Bool}{l:Str}{m n:Int}(h1:mD s1)(hl:cv l=true)(hg:l≠ "ground")(m1:1<=m)(m3:m<=3)(n0:0<=n)(n4:n<=4):mv (.mk "turns" [.str l,.int m,.int n] (.cons t s1 .nil)):=by
 rw[mv,pF,pF];exact⟨⟨["label","many","times"],by show(("turns" :Str),(["label","many","times","body"]:au))∈bg;decide+kernel,.cons (.label l hl hg) (.cons (.num "many" 1 3 m (by decide+kernel) m1 m3) (.cons (.num "times" 0 4 n (by decide+kernel) n0 n4) .nil))⟩,h1,True.intro⟩
theorem XJ{tt:TT}{a b:TS}{D:Ends}{σ:L2.St}{H:Hp}(C:Prop)(ht:∀Q' :Bool->Hp->Prop,(∀H8,ah H H8->C->Q' true H8)->(∀H8,ah H H8->¬C->Q' false H8)->tt σ H Q')(ha:∀H8,ah H H8->C->a D σ H8)(hb:∀H8,ah H H8->¬C->b D σ H8):Xa tt a b D σ H:=
 ht _ (λH8 s c=>a9 (ha H8 s c)) (λH8 s c=>bo (hb H8 s c))
theorem A1.Vx{H8 H1 Ha Hz:Hp}{b lf l:S'}{rm k k' :Nat}{lv EN :Int}{ds:List Dd}{ws:ak}(po:A1 H8 b lf l rm k lv ds Ha k' EN)(o:∀c,H8 c=none->H1 c=none)(x1:H8 b≠none)(x2:H8 lf≠none)(kk:hU b lf Ha Hz)(h:DatAll (bw H8 Ha) ws (ds.map dD)):DatAll (bw H1 Hz) ws (sL (Ds.of ds)):=by
 rw[VI];exact kZ o (kk.kt po.box po.left) (λc xs e1 e2=>kk c _ (λz=>x1 (z▸e1)) (λz=>x2 (z▸e1)) e2) h
theorem A1.lst{H8 H1 Ha Hz:Hp}{b lf l:S'}{rm k k' :Nat}{lv EN :Int}{ds:List Dd}{ws:ak}(po:A1 H8 b lf l rm k lv ds Ha k' EN)(o:∀c,H8 c=none->H1 c=none)(x1:H8 b≠none)(x2:H8 lf≠none)(kk:hU b lf Ha Hz)(e:Ha l=some (.lst ws))(h:DatAll (bw H8 Ha) ws (ds.map dD)):Dat (bw H1 Hz) (.ref l) (iS false (sL (Ds.of ds))):=
 .lst (wF (o _ po.new) (kk _ _ (λz=>x1 (z▸po.new)) (λz=>x2 (z▸po.new)) e)) (po.Vx o x1 x2 kk h)
def Xo(n:Nat):Sp:=λvs H Q _=>∃(b lf nl ll al:S') (rm k:Nat) (lv:Int) (ns Au ar:au),vs=[.ref b,.ref lf,.ref nl,.ref ll,.ref al,.int rm]/\Ak n H b lf nl ll al rm k lv ns Au ar/\
 ∀l ds H' k' EN,A1 H b lf l rm k lv ds H' k' EN->Q (.ref l) H'
theorem El(T:Txt K mg A)(n:Nat):aT P w K mg base dQ (2+n) A.pU A.yh ["_law_box_here","_law_left","_law_names_here","_law_labels","_law_around","_law_room"] (Xo n):=by
 induction n with
 |zero=>exact fg (by rintro vs H Q E ⟨b,lf,nl,ll,al,rm,k,lv,ns,Au,ar,_,h,_⟩;exact iP _ h.room)
 |succ n ih=>
 show aT P w K mg base dQ ((2+n)+1) _ _ _ _;refine T.jX.F.ok dM (λvs H Q E h=> ?_) (λcB Ar outer s0 H vs Q E hr h=> ?_)
 .obtain⟨b,lf,nl,ll,al,rm,k,lv,ns,Au,ar,rfl,_⟩:=h;rfl
 .obtain⟨b,lf,nl,ll,al,rm,k,lv,ns,Au,ar,rfl,pre,q⟩:=h
  have Hf:(ny dQ P w K mg base ["_law_box_here","_law_left","_law_names_here","_law_labels","_law_around","_law_room","_law_found","_law_turn","_law_kind","_law_free","_law_one","_law_label","_law_many","_law_times","_law_inner"] "_law_body" (av pS) A.pU cB Ar outer s0 H E).K0.A.units<cLine:=by
   have:=hr.un;show(Ar.deeper _).units<cLine;omega
  obtain⟨aiH,r8,B,Pq,low,up,kb,hnm,wN,hlb,hlg,Qj,arn,d1,d2,d3,d4⟩:=id pre;refine⟨_,(aj (gf 6 dM.nd (bH dY)) (aj (AV (gB Z T.kL (aM (cI (aE T) hr T.aG aC (ag (pv 0) (aM (cS a8 (bH (ag ae (aM ae))) (Ox xv T.CC Boot.«int» (aM (H_ (oN Hf) (pv 4) (bH dY))))))) (hj:=by lia)))) (jk 7 dM.nd) (aj (gf 8 dM.nd (cI (aE T) hr T.aG aC (ag (pv 0) (aM ae)) (hj:=by lia))) (aj (BL (aL i9 (cS a8 (pv 1) ae) ae) (DM (pv 1) ae ZB)) (aj (Hv 9 dM.nd ["_law_label","_law_around"] 1 [4] (ff (pv 3)) (λ_ _ _ _ _=>⟨(jk 0 (show(["_law_label","_law_around"]:au).Nodup by decide+kernel)),(Lq (wn (Cp (K:=K) Z) (pv 0) (pv 1))),(pv 0)⟩)) (aj (bU (wn Ao (cS a8 (pv 1) ae) ae) (aq (aH (pv 6))) bf) (aq (bU (PW.pt (WF (wn tE (pv 8) ae) (WF (wn cK (pv 5) ae) (WP (PW.pt (wT (wn (oN Hf) (pv 9) (bH dY)) (xz (wn Ao (pv 8) ae)))))))) (aq (bW (mz gP D' F' dB (pv 6) (aM (cI (Br T) hr T.ua aC (ag (pv 0) (ag (pv 2) (aM (pv 4)))) (hj:=by lia)))))) (aq (bU (wn cK (pv 8) ae) (aj (gf 10 dM.nd (cI ih hr T.jX aC (ag (pv 0) (ag (pv 1) (ag (pv 2) (ag (pv 3) (ag (pv 4) (aM (aL i9 (pv 5) ae))))))) (hj:=by lia))) (aq (bW (mz gP D' F' dB (pv 6) (aM (bt (ag ai (ag (pv 10) (aM (Ox eL T.iX Boot.«tuple» (aM (cI ih hr T.jX aC (ag (pv 0) (ag (pv 1) (ag (pv 2) (ag (pv 3) (ag (pv 4) (aM (aL i9 (pv 5) ae))))))) (hj:=by lia))))))))))))) (aj (gf 11 dM.nd (cS a8 (pv 9) (cI (aE T) hr T.aG aC (ag (pv 0) (aM (iW br T.g7 Boot.«len» (aM (pv 9))))) (hj:=by lia)))) (aj (IQ (i:=12) (j:=13) Z dM.nd Z Z (by decide) Z Z (ag (aL bA ae (cI (aE T) hr T.aG aC (ag (pv 0) (aM ae)) (hj:=by lia))) (aM (cI (aE T) hr T.aG aC (ag (pv 0) (aM ae)) (hj:=by lia)))) (by rfl)) (aj (gf 14 dM.nd (cI ih hr T.jX aC (ag (pv 0) (ag (pv 1) (ag (pv 2) (ag (pv 3) (ag (aL fM (bH (aM (pv 11))) (pv 4)) (aM (aL i9 (pv 5) ae))))))) (hj:=by lia))) (aq (bW (mz gP D' F' dB (pv 6) (aM (cS a8 (bH (ag (bt (ag ai (ag (pv 11) (aM (Ox eL T.iX Boot.«tuple» (aM (pv 14))))))) (aM (bt (ag ai (ag (pv 11) (ag (pv 12) (ag (pv 13) (aM (pv 14)))))))))) (pv 8)))))))))))))))))) (aq (aH (pv 6))))),?_⟩;refine⟨m7,λfl pz=> ?_⟩;have s1:=ah.upd (o:= .lst []) pz;have e1:upd H fl (.lst []) fl=some (.lst []):=af;have f1:∀c,upd H fl (.lst []) c=none->H c=none:=λc h=>s1.free h
  have g1:∀c o,upd H fl (.lst []) c=some o->c=fl\/∃o,H c=some o:=λc o h=>by
   by_cases z:c=fl
   .exact .inl z
   .rw[az z] at h;exact .inr ⟨o,h⟩
  generalize upd H fl (.lst [])=H1 at s1 e1 f1 g1 ⊢;have nb:fl≠b:=B.ne pz;have nf:fl≠lf:=(aA Pq pz).symm
  have x1:H1 b≠none:=by
   obtain⟨x,y,z,hb,_⟩:=B;rw[s1 _ _ hb];exact λz=>nomatch z
  have x2:H1 lf≠none:=by rw[s1 _ _ Pq];exact λz=>nomatch z
  have x3:H1 fl≠none:=by rw[e1];exact λz=>nomatch z
  have old:∀{H' :Hp} {kc:Nat} {m:Int} {ds:List Dd} {ws:ak},Nv H H1 b lf fl H' kc m ds ws->∀c,H' c=none->H1 c=none:=λ{H' kc m ds ws} D c h=>by
   cases e:H1 c with
   |none=>rfl
   |some o=>
    rcases g1 c o e with z|⟨o',z⟩
    .rw[z,D.fl] at h;cases h
    .by_cases zb:c=b
     .obtain⟨x,y,z',hb,_⟩:=D.box;rw[zb,hb] at h;cases h
     .by_cases zf:c=lf
      .rw[zf,D.left] at h;cases h
      .rw[D.kp _ _ zb zf z] at h;cases h
  have xb:∀{H' :Hp} {kc:Nat} {m:Int} {ds:List Dd} {ws:ak},Nv H H1 b lf fl H' kc m ds ws->H' b≠none/\H' lf≠none:=λ{H' kc m ds ws} D=>by
   obtain⟨x,y,z',hb,_⟩:=D.box;rw[hb,D.left];exact⟨λz=>(nomatch z),λz=>(nomatch z)⟩
  have D1:Nv H H1 b lf fl H1 k lv [] []:=⟨s1.iC,e1,.nil,B.same s1,s1 _ _ Pq⟩;refine⟨_,Z,gY,λp2 Di=>⟨_,Z,m7,λp3 BN=> ?_⟩⟩;have u2:=ah.upd (o:= .lst [V.int 5,V.int 14]) Di;have u3:=ah.upd (o:= .lst []) BN;have s3:=u2.trans u3;have e3:=u3 _ _ (af (H:=H1) (a:=p2) (o:= .lst [V.int 5,V.int 14]));refine zS (s3 _ _ (s1 _ _ Qj.1)) af ?_;generalize upd (upd H1 p2 (.lst [V.int 5,V.int 14])) p3 (.lst [])=H3 at s3 e3 ⊢;refine .inr ⟨_,Z,?_⟩;refine gO (λv=>∃i:Int,v= .int i/\0<i/\i<=14) e3 (by split<;>decide) (by split;exact(show(1:Int)<2 by decide);exact(show(0:Int)<2 by decide)) ?_ λv hv=> ?_
  .intro z hz;simp only[aP,cO,cN] at hz
   rcases hz with rfl|rfl<;>exact⟨_,rfl,by decide,by decide⟩
  obtain⟨up2,rfl,u0,u14⟩:=hv;have D3:=D1.move x1 x2 nb nf s3.iC (D1.box.same s3) (s3 _ _ D1.left);refine⟨b,up2,k,Z,D3.box,by lia,u0,by lia,λcnt H4 c0 c1 B4 O4=> ?_⟩;have D4:=D3.move x1 x2 nb nf O4.kept.iC B4 (O4.kept _ _ d1 D3.left);refine⟨cnt,Z,by lia,by lia,?_⟩;refine nS (λi σ H' =>∃(x7 x8 x9 x10 x11 x12 x13 x14:Option V) (kc:Nat) (m:Int) (ds:List Dd) (ws:ak),σ=[some (.ref b),some (.ref lf),some (.ref nl),some (.ref ll),some (.ref al),some (.int rm),some (.ref fl),x7,x8,x9,x10,x11,x12,x13,x14]/\Nv H H1 b lf fl H' kc m ds ws/\BdN rm k lv kc m ds) ⟨_,_,_,_,_,_,_,_,k+1,lv,[],[],Z,D4,⟨(λ_ h=>nomatch h),(λ_ h=>nomatch h),by simp,by lia,λh=>by lia,λ_=>rfl,Int.le_refl _⟩⟩ ?_ ?_
  .rintro i σ H' hi ⟨x7,x8,x9,x10,x11,x12,x13,x14,kc,m,ds,ws,rfl,D,N⟩
   obtain⟨Nok,Ndp,Nmn,Nkb,Nlo,Ra,Nle⟩:=id N
   have mlo: -40<=m:=by
    by_cases h0:0<=lv
    .have:=Nlo h0
     lia
    .have:=Ra (by lia)
     lia
   have wl:ws.length<=44:=by
    have:=fN D.dat;rw[a6] at this
    lia
   have QQ:ws.length<sizeLine:=fj (by lia);refine⟨_,Z,b,7,kc,Z,D.box,by lia,by decide,by decide,λkind H5 k0 k1 B5 O5=> ?_⟩;have D5:=D.move x1 x2 nb nf O5.kept.iC B5 (O5.kept _ _ d1 D.left);refine⟨_,Z,lf,_,0,_,Z,Z,cF.of D5.left,Z,_,_,Z,Z,_,Z,lf,_,0,0,Z,Z,D5.left,Z,?_⟩
   have D6:Nv H H1 b lf fl (upd H5 lf (.lst [.int (m - 1)])) (kc+1) (m - 1) ds ws:=D5.move x1 x2 nb nf (λc o h1 h2 e=>by rw[az h2];exact e) (by
    obtain⟨x,y,z,hb,r⟩:=D5.box;exact⟨x,y,z,by rw[az d1.symm];exact hb,r⟩) af
   show FU _ _ _ _ (upd H5 lf (.lst [.int (m - 1)]));generalize upd H5 lf (.lst [.int (m - 1)])=H6 at D6 ⊢;have nm6:=hnm.k2 D6.kp d2;have lb6:=hlb.k2 D6.kp d3;have ar6:=Qj.k2 D6.kp d4;have lbl:=lb6.2.1;refine⟨_,Z,ll,Z,⟨_,cF.of lb6.1⟩,?_⟩;refine rW (λv=>match v with| .str z=>decide (z∉ar)|_=>false) (λv=>v) (fL (cF.of lb6.1)) (by rw[a6];exact cT (fj (by lia))) ?_ λp7 NS=> ?_
   .intro j y H7 C1 C0 hy sm c1 c0;rw[bX] at hy
    cases ex:Au[j]? with
    |none=>rw[ex] at hy;cases hy
    |some z=>
     rw[ex] at hy;cases hy;refine⟨(gJ.refl _).own (by decide),_,Z,_,Z,al,_,Z,.inl (cF.of (sm _ _ ar6.1)),Z,kU _,_,Z,?_⟩;show if(!HQ (V.str z) (ar.map V.str))=true then _ else _
     rw[nG];by_cases hz:z∈ar
     .rw[aS hz];exact bo (c0 (ba (λh=>h hz)))
     .rw[ba hz];exact a9 ⟨_,Z,c1 (aS hz)⟩
   obtain⟨fr,vj,afz⟩:∃fr:au,((Au.map V.str).filter λv=>match v with| .str z=>decide (z∉ar)|_=>false).map (λv=>v)=fr.map V.str/\∀x∈fr,x∈Au:=by
    refine⟨Au.filter λz=>decide (z∉ar),?_,λx hx=>(rR.mp hx).1⟩;rw[List.map_id',Fh];rfl
   rw[vj];have u7:=ah.upd (o:= .lst (fr.map V.str)) NS;have e7:upd H6 p7 (.lst (fr.map V.str)) p7=some (.lst (fr.map V.str)):=af;have ad5:p7≠b:=D6.box.ne NS;have ajU:p7≠lf:=(aA D6.left NS).symm;have D7:=D6.move x1 x2 nb nf u7.iC (D6.box.same u7) (u7 _ _ D6.left);show FU _ _ _ _ (upd H6 p7 (.lst (fr.map V.str)));generalize upd H6 p7 (.lst (fr.map V.str))=H7 at u7 e7 D7 ⊢;refine⟨_,Z,lf,_,0,_,Z,Z,cF.of D7.left,Z,_,0,Z,Z,_,Z,?_⟩;refine mF (λhm=> ?_) (λhm=> ?_)
   .have hm:m - 1<0:=bE hm;refine⟨_,Z,q fl ds H7 (kc+1) (m - 1) ⟨pz,⟨ws,D7.fl,kZ f1 (λ_ _ e=>e) (λ_ _ _ e=>e) D7.dat⟩,Nok,Ndp,by lia,D7.box,D7.left,by lia,λh=>by have:=Nlo h;lia,λh=>by have:=Ra h;lia,by lia,D7.kp⟩⟩
   .have hm:¬m - 1<0:=λz=>hm (aS z);have nm7:=hnm.k2 D7.kp d2;have lb7:=hlb.k2 D7.kp d3;have ar7:=Qj.k2 D7.kp d4;unfold MK;dsimp only;refine XJ (2<kind\/rm=0\/(fr=[]/\kind<2)) (λQ' qT qF=> ?_) (λH8 s8 hC=> ?_) (λH8 s8 hC=> ?_)
    .refine⟨_,Z,_,_,Z,Z,_,Z,?_⟩;refine mF (λh1=>qT _ (ah.refl _) (.inl (bE h1))) (λh1=> ?_);have h1:¬2<kind:=λz=>h1 (aS z);refine⟨_,Z,Z,_,Z,?_⟩;by_cases h2:rm=0
     .rw[h2];exact XV (qT _ (ah.refl _) (.inr (.inl h2)))
     .refine dG (λz=>h2 (by have:=V.int.inj z;lia)) ⟨_,Z,m7,λp8 Lh=> ?_⟩;have u8:=ah.upd (o:= .lst []) Lh;refine zS (u8 _ _ e7) af ⟨_,Z,?_⟩
      cases hf:fr with
      |nil=>
       refine a9 ⟨_,Z,_,_,Z,Z,_,Z,?_⟩;by_cases h3:kind<2
       .rw[aS h3];exact qT _ u8 (.inr (.inr ⟨hf,h3⟩))
       .rw[ba h3];exact qF _ u8 (λz=>z.elim h1 λz=>z.elim h2 λz=>h3 z.2)
      |cons z zs=>exact bo (qF _ u8 (λz=>z.elim h1 λz=>z.elim h2 λz=>by rw[hf] at z;cases z.1))
    .have D8:=D7.move x1 x2 nb nf s8.iC (D7.box.same s8) (s8 _ _ D7.left);refine⟨_,Z,JT D8.fl,_,Z,_,Z,_,Z,b,nl,al,kc+1,ns,ar,Z,D8.box,by lia,⟨s8 _ _ nm7.1,nm7.2⟩,wN,⟨s8 _ _ ar7.1,ar7.2⟩,d2.1,d4.1,λv H9 sm9 B9 K9=> ?_⟩;have D9:=D8.move x1 x2 nb nf K9.iC B9 (K9 _ _ d1 D8.left);obtain⟨wd,ps,td,lu⟩:=sm9;refine⟨fl,ws,v,Z,Z,D9.fl,QQ,_,_,_,_,_,_,_,_,kc+1+20,m - 1,ds++[.mk wd ps .nil],ws++[v],Z,D9.push pz x3 nb nf (PZ td),N.push (by lia) lu (by rw[mG,nR];exact cG _) (by rw[jM,mX];lia) (by lia) (by lia) (by lia)⟩
    .have D8:=D7.move x1 x2 nb nf s8.iC (D7.box.same s8) (s8 _ _ D7.left);have h1:¬2<kind:=λz=>hC (.inl z);obtain⟨r,rfl⟩:∃r,rm=r+1:=⟨rm - 1,by have:rm≠0:=λz=>hC (.inr (.inl z));lia⟩;have er:(((r+1:Nat):Int) - 1)=(r:Int):=by lia
     refine⟨_,Z,Z,_,Z,?_⟩;by_cases h2:kind=2
     .rw[h2];refine XV ?_;have VJ:Ak n H8 b lf nl ll al r (kc+1) (m - 1) ns Au ar:=pre.again (by lia) Z D8.kp D8.box D8.left (by lia) (by lia) (by lia) (Qj.k2 D8.kp d4) d4 (by lia);refine⟨_,Z,_,Z,_,Z,_,Z,_,Z,_,Z,_,1,Z,Z,b,lf,nl,ll,al,r,kc+1,m - 1,ns,Au,ar,by simp only[er,fG],VJ,λl1 Pg Ha k1' m1 yP=> ?_⟩;obtain⟨X3,ea,da⟩:=yP.ls;have D9:=D8.move x1 x2 nb nf yP.kp yP.box yP.left;have lo1:=yP.lo (by lia);have le1:=yP.le;have kb1:=yP.kb;have mn1:=yP.mn;have ac5:Ak n Ha b lf nl ll al r k1' m1 ns Au ar:=pre.again (by lia) Z D9.kp D9.box D9.left (by lia) (by lia) (by lia) (Qj.k2 D9.kp d4) d4 (by lia);refine⟨_,Z,JT D9.fl,_,Z,_,Z,_,Z,_,Z,_,Z,_,Z,_,Z,_,1,Z,Z,b,lf,nl,ll,al,r,k1',m1,ns,Au,ar,by simp only[er,fG],ac5,λl2 ds2 Hb k2' m2 KJ=> ?_⟩;obtain⟨ws2,eb,db⟩:=KJ.ls;have Wi:=D9.move x1 x2 nb nf KJ.kp KJ.box KJ.left;refine⟨l2,ws2,Z,.inl ⟨cF.of eb,λt2 wU=>⟨F9,λt3 qi=> ?_⟩⟩⟩;have v2:=ah.upd (o:= .tup ws2) wU;have v3:=ah.upd (o:= .tup [V.str "either",.ref l1,.ref t2]) qi;have w_:=v2.trans v3;have TQ:=v3 _ _ (af (H:=Hb) (a:=t2) (o:= .tup ws2));have Sy:upd (upd Hb t2 (.tup ws2)) t3 (.tup [V.str "either",.ref l1,.ref t2]) t3=some (.tup [V.str "either",.ref l1,.ref t2]):=af;generalize upd (upd Hb t2 (.tup ws2)) t3 (.tup [V.str "either",.ref l1,.ref t2])=Hz at w_ TQ Sy ⊢;have La:=Wi.move x1 x2 nb nf w_.iC (Wi.box.same w_) (w_ _ _ Wi.left);have ZQ:=KJ.lo;have lo3:=KJ.ZQ;have le2:=KJ.le;have kb2:=KJ.kb;have mn2:=KJ.mn;have dd1:Dat (bw H1 Hz) (.ref l1) (iS false (sL (Ds.of Pg))):=yP.lst (old D8) (xb D8).1 (xb D8).2 (KJ.kp.trans w_.iC) ea da;have V_:Dat (bw H1 Hz) (.ref t2) (iS true (sL (Ds.of ds2))):= .tup (j4 TQ) (KJ.Vx (old D9) (xb D9).1 (xb D9).2 w_.iC db);have dp1:=CY yP.dp;have dp2:=CY KJ.dp;have mm1:=Jy Pg;have mm2:=Jy ds2;refine⟨fl,ws,_,Z,Z,La.fl,QQ,_,_,_,_,_,_,_,_,k2',m2,ds++[.mk "either" [] (.cons false (Ds.of Pg) (.cons true (Ds.of ds2) .nil))],_,Z,La.push pz x3 nb nf ?_,N.push (by lia) (WV (jag yP.ok) (jag KJ.ok)) (by rw[mG,nR,nR,nR];lia) (by rw[jM,mX,mX,mX];lia) (by lia) ?_ (by lia)⟩
      .rw[dD,bL,bL,bL];exact .tup (j4 Sy) (.cons (.str _) (.cons dd1 (.cons V_ .nil)))
      .by_cases h0:0<=m1
       .have:=ZQ h0
        lia
       .have:=lo3 (by lia)
        lia
     .refine dG (λz=>h2 (V.int.inj z)) ?_;have QW:kind<2:=by lia
      have ads:fr≠[]:=λz=>hC (.inr (.inr ⟨z,QW⟩));have frp:=EE.mpr ads
      have frl:fr.length<=100:=by
       have h1:=congrArg List.length vj;rw[a6,a6] at h1;have h2:=y_ (λv:V=>match v with| .str z=>decide (z∉ar)|_=>false) (Au.map V.str);rw[a6] at h2
       lia
      have e8:=s8 _ _ e7;refine⟨_,Z,_,Z,_,Z,p7,_,Z,.inl (cF.of e8),b,_,kc+1,Z,D8.box,by lia,by rw[a6];lia,by rw[a6];lia,λr9 H9 a0 a1 B9 O9=> ?_⟩;have D9:=D8.move x1 x2 nb nf O9.kept.iC B9 (O9.kept _ _ d1 D8.left);refine gO (λv=>∃z,v= .str z/\z∈Au) (O9.kept _ _ ad5 e8) a0 a1 (λv hv=> ?_) λv hv=> ?_
      .obtain⟨z,hz,rfl⟩:=jC.mp hv;exact⟨z,Z,afz z hz⟩
      obtain⟨jg,rfl,aaP⟩:=hv;have lbn:=hlb.2.2 jg aaP;have lbg:=hlg jg aaP;refine⟨_,Z,b,3,kc+1+1,Z,D9.box,by lia,by decide,by decide,λm3 VS b0 b1 B10 O10=> ?_⟩;have Wi:=D9.move x1 x2 nb nf O10.kept.iC B10 (O10.kept _ _ d1 D9.left);refine⟨1,m3,Z,Z,_,Z,b,5,kc+1+1+1,Z,Wi.box,by lia,by decide,by decide,λt5 Kw c0' c1' B11 ZY=>⟨_,_,Z,?_⟩⟩;have Yp:=Wi.move x1 x2 nb nf ZY.kept.iC B11 (ZY.kept _ _ d1 Wi.left);have afj:=Qj.k2 Yp.kp d4;refine⟨_,Z,_,Z,_,Z,_,Z,_,Z,y8,λp12 Wh=>⟨_,Z,p12,al,_,_,Z,Z,af,ah.upd Wh _ _ afj.1,?_,λJM Mw => ?_⟩⟩
      .rw[a6];exact cT (fj (show 1+ar.length<=100000 by lia))
      have QR:=(ah.upd (o:= .lst [V.str jg]) Wh).trans (ah.upd (o:= .lst ([V.str jg]++ar.map V.str)) Mw);have ZP:upd (upd Kw p12 (.lst [V.str jg])) JM (.lst ([V.str jg]++ar.map V.str)) JM =some (.lst ([V.str jg]++ar.map V.str)):=af;have f12:Kw JM =none:=(ah.upd (o:= .lst [V.str jg]) Wh).free Mw;generalize upd (upd Kw p12 (.lst [V.str jg])) JM (.lst ([V.str jg]++ar.map V.str))=H12 at QR ZP ⊢;have La:=Yp.move x1 x2 nb nf QR.iC (Yp.box.same QR) (QR _ _ Yp.left);have d12:JM≠b/\JM≠lf:=⟨Yp.box.ne f12,(aA Yp.left f12).symm⟩
      have acW:BV H12 JM (jg::ar):=⟨ZP,by rw[bB];lia,λx hx=>by
       rcases aP.mp hx with rfl|hx
       .exact lbn
       .exact Qj.2.2 x hx⟩
      have VJ:Ak n H12 b lf nl ll JM r (kc+1+1+1+1) (m - 1) ns Au (jg::ar):=pre.again (by lia) Z La.kp La.box La.left (by lia) (by lia) (by lia) acW d12 (by rw[bB];lia);refine⟨_,Z,_,1,Z,Z,b,lf,nl,ll,JM,r,kc+1+1+1+1,m - 1,ns,Au,jg::ar,by simp only[er,fG],VJ,λl1 Pg Ha k1' m1' yP=> ?_⟩;obtain⟨X3,ea,da⟩:=yP.ls;have D13:=La.move x1 x2 nb nf yP.kp yP.box yP.left;have lo1:=yP.lo (by lia);have le1:=yP.le;have kb1:=yP.kb;have mn1:=yP.mn;refine⟨_,Z,JT D13.fl,_,Z,_,Z,l1,X3,Z,.inl ⟨cF.of ea,λt1 uG=>⟨F9,λt2 wU=> ?_⟩⟩⟩;have v1:=ah.upd (o:= .tup X3) uG;have v2:=ah.upd (o:= .tup [V.str "frame",.str jg,.ref t1]) wU;have w_:=v1.trans v2;have et1:=v2 _ _ (af (H:=Ha) (a:=t1) (o:= .tup X3));have TQ:upd (upd Ha t1 (.tup X3)) t2 (.tup [V.str "frame",.str jg,.ref t1]) t2=some (.tup [V.str "frame",.str jg,.ref t1]):=af;generalize upd (upd Ha t1 (.tup X3)) t2 (.tup [V.str "frame",.str jg,.ref t1])=Hb at w_ et1 TQ ⊢;refine⟨_,Z,_,Z,_,Z,_,Z,afp,λt3 qi=>⟨gY,λp4 Hd=> ?_⟩⟩;have v3:=ah.upd (o:= .tup [V.str "turns",.str jg,.int (1+m3),.int t5,.ref l1]) qi;have v4:=ah.upd (o:= .lst [V.ref t2,.ref t3]) Hd;have Ts:=v3.trans v4;have Sy:=v4 _ _ (af (H:=Hb) (a:=t3) (o:= .tup [V.str "turns",.str jg,.int (1+m3),.int t5,.ref l1]));have ep4:upd (upd Hb t3 (.tup [V.str "turns",.str jg,.int (1+m3),.int t5,.ref l1])) p4 (.lst [V.ref t2,.ref t3]) p4=some (.lst [V.ref t2,.ref t3]):=af;refine⟨_,Z,?_⟩;generalize upd (upd Hb t3 (.tup [V.str "turns",.str jg,.int (1+m3),.int t5,.ref l1])) p4 (.lst [V.ref t2,.ref t3])=Hz at Ts Sy ep4 ⊢;have s14:=w_.trans Ts;have D14:=D13.move x1 x2 nb nf s14.iC (D13.box.same s14) (s14 _ _ D13.left);have dd1:Dat (bw H1 Hz) (.ref l1) (iS false (sL (Ds.of Pg))):=yP.lst (old La) (xb La).1 (xb La).2 s14.iC ea da;have V_:Dat (bw H1 Hz) (.ref t1) (iS true (sL (Ds.of Pg))):= .tup (j4 (Ts _ _ et1)) (yP.Vx (old La) (xb La).1 (xb La).2 s14.iC da);have dp1:=CY yP.dp;have mm1:=Jy Pg;refine gO (λv=>∃d,Dat (bw H1 Hz) v (dD d)/\mv d/\mG d<=r+1/\jM d=eB (Ds.of Pg)) ep4 k0 QW (λv hv=> ?_) λv hv=> ?_
      .simp only[aP,cO,cN] at hv;rcases hv with rfl|rfl
       .refine⟨.mk "frame" [.str jg] (.cons true (Ds.of Pg) .nil),?_,VN (jag yP.ok) lbn lbg,by rw[mG,nR,nR];lia,by rw[jM,mX,mX];lia⟩;rw[dD,bL,bL];exact .tup (j4 (Ts _ _ TQ)) (.cons (.str _) (.cons (.str _) (.cons V_ .nil)))
       .refine⟨.mk "turns" [.str jg,.int (1+m3),.int t5] (.cons false (Ds.of Pg) .nil),?_,VA (jag yP.ok) lbn lbg (by lia) (by lia) (by lia) (by lia),by rw[mG,nR,nR];lia,by rw[jM,mX,mX];lia⟩;rw[dD,bL,bL];exact .tup (j4 Sy) (.cons (.str _) (.cons (.str _) (.cons (.int _) (.cons (.int _) (.cons dd1 .nil)))))
      obtain⟨d,dd,lu,LA,PX⟩:=hv;exact⟨fl,ws,v,Z,Z,D14.fl,QQ,_,_,_,_,_,_,_,_,k1',m1',ds++[d],_,Z,D14.push pz x3 nb nf dd,N.push (by lia) lu LA (by lia) (by lia) (by lia) (by lia)⟩
  .rintro σ H' ⟨x7,x8,x9,x10,x11,x12,x13,x14,kc,m,ds,ws,rfl,D,N⟩
   obtain⟨Nok,Ndp,Nmn,Nkb,Nlo,Ra,Nle⟩:=id N;exact⟨_,Z,q fl ds H' kc m ⟨pz,⟨ws,D.fl,kZ f1 (λ_ _ e=>e) (λ_ _ _ e=>e) D.dat⟩,Nok,Ndp,Nmn,D.box,D.left,Nkb,λh=>by have:=Nlo h;lia,λh=>by have:=Ra h;lia,Nle,D.kp⟩⟩
def OV:Sp:=λvs H Q _=>∃b,vs=[.ref b]/\dg H b 2/\∀l s H',H l=none->Dat (bw H H') (.ref l) (iS false (sL s))->mD s->eQ s<=7->eB s<=44->(∃k',dg H' b k'/\k'<=50000)->Kept b H H'->Q (.ref l) H'
theorem Cg(T:Txt K mg A):aT P w K mg base dQ 11 A.vm A.vG ["_law_box_here"] OV:=by
 refine T.vC.F.ok fT (λvs H Q E h=> ?_) (λcB Ar outer s0 H vs Q E hr h=> ?_)
 .obtain⟨b,rfl,_⟩:=h;rfl
 .obtain⟨b,rfl,B,q⟩:=h;refine⟨_,(aj (gf 1 fT.nd (cS a8 (bH (ag ae (ag ae (ag ae (aM ae))))) (cI (aE T) hr T.aG aC (ag (pv 0) (aM ae))))) (aj (gf 2 fT.nd (cS a8 (bH (ag ae (ag ae (ag ae (aM ae))))) (cI (aE T) hr T.aG aC (ag (pv 0) (aM ae))))) (aj (gf 3 fT.nd (cI (sY T) hr T.o8 aC (ag (pv 0) (aM (aL bA ae (cI (aE T) hr T.aG aC (ag (pv 0) (aM ae)))))))) (aj (gf 4 fT.nd (cI (sY T) hr T.o8 aC (ag (pv 0) (aM (aL bA ae (cI (aE T) hr T.aG aC (ag (pv 0) (aM ae)))))))) (aj (gf 4 fT.nd (aL fM (KR ["_law_label"] 1 [] (ff (pv 4)) (λ_ _ _ _ _=>⟨(jk 0 (show(["_law_label"]:au).Nodup by decide+kernel)),(Lq (wn pR (pv 0) ai)),(pv 0)⟩)) (bH (ag ai (aM ai))))) (aq (aH (cI (El T 8) hr T.jX aC (ag (pv 0) (ag (bH (aM (pv 1))) (ag (pv 3) (ag (pv 4) (ag (bH dY) (aM (pv 2))))))))))))))),?_⟩
  have fr:∀{H' :Hp} {c:S'} {k' :Nat},Sw b H k' H'->H' c=none->H c=none:=λ{H' c k'} W hc=>by
   cases e:H c with
   |none=>rfl
   |some o=>rw[W.kp _ o (W.box.ne hc) e] at hc;cases hc
  refine⟨Jq,λp1 JZ=> ?_⟩;have W1:Sw b H 2 _:=Sw.same ⟨B,Kept.refl _ _⟩ (ah.upd (o:= .lst [V.int 12,V.int 25,V.int 40,V.int 44]) JZ);have n1:p1≠b:=B.ne JZ;refine⟨_,Z,b,4,2,Z,W1.box,by lia,by decide,by decide,λr1 H2 a0 a1 B2 O2=> ?_⟩;have W2:=W1.take B2 O2;refine gO (λv=>∃i:Int,v= .int i/\0<=i/\i<=44) (O2.kept _ _ n1 af) a0 a1 ?_ λv hv=> ?_
  .intro x hx;simp only[aP,cO,cN] at hx
   rcases hx with rfl|rfl|rfl|rfl<;>exact⟨_,rfl,by decide,by decide⟩
  obtain⟨up,rfl,u0,u1⟩:=hv;refine⟨Jq,λp3 BN=> ?_⟩;have W3:=W2.same (ah.upd (o:= .lst [V.int 2,V.int 3,V.int 6,V.int 7]) BN);have n3:p3≠b:=B2.ne BN;refine⟨_,Z,b,4,2+1,Z,W3.box,by lia,by decide,by decide,λr3 H4 b0 b1 B4 O4=> ?_⟩;have W4:=W3.take B4 O4;refine gO (λv=>∃i:Nat,v= .int (i:Int)/\i<=7) (O4.kept _ _ n3 af) b0 b1 ?_ λv hv=> ?_
  .intro x hx;simp only[aP,cO,cN] at hx;rcases hx with rfl|rfl|rfl|rfl
   .exact⟨2,Z,by decide⟩
   .exact⟨3,Z,by decide⟩
   .exact⟨6,Z,by decide⟩
   .exact⟨7,Z,by decide⟩
  obtain⟨rm,rfl,hrm⟩:=hv;refine⟨_,Z,_,Z,b,5,2+1+1,Z,B4,by lia,by decide,by decide,λr5 H5 c0 c1 B5 O5=> ?_⟩;have W5:=W4.take B5 O5;obtain⟨j5,rfl⟩:∃j:Nat,r5=j:=⟨r5.toNat,by lia⟩;have e5:(1:Int)+(j5:Int)=((1+j5:Nat):Int):=by lia
  refine⟨1,_,Z,Z,b,1+j5,2+1+1+1,by simp only[e5,fG],B5,by lia,by lia,λnl ns H6 XA Py nms enl B6 K6=> ?_⟩;have W6:Sw b H (2+1+1+1+12) H6:=⟨B6,W5.kp.trans K6⟩;have nnl:nl≠b:=B5.ne XA;refine⟨_,Z,_,Z,b,6,2+1+1+1+12,Z,B6,by lia,by decide,by decide,λr7 H7 d0 d1 B7 O7=> ?_⟩;have W7:=W6.take B7 O7;obtain⟨j7,rfl⟩:∃j:Nat,r7=j:=⟨r7.toNat,by lia⟩;have e7:(1:Int)+(j7:Int)=((1+j7:Nat):Int):=by lia
  refine⟨1,_,Z,Z,b,1+j7,2+1+1+1+12+1,by simp only[e7,fG],B7,by lia,by lia,λll ls H8 hll hls lms ell B8 K8=> ?_⟩;have W8:Sw b H (2+1+1+1+12+1+12) H8:=⟨B8,W7.kp.trans K8⟩;have Y6:=K8 _ _ nnl (O7.kept _ _ nnl enl);refine⟨_,Z,ll,Z,⟨_,cF.of ell⟩,?_⟩;refine rW (λv=>match v with| .str z=>decide (z≠ "ground")|_=>false) (λv=>v) (fL (cF.of ell)) (by rw[a6];exact cT (fj (by lia))) ?_ λp9 hp9=> ?_
  .intro j y H9 C1 C0 hy sm q1 q0;rw[bX] at hy
   cases ex:ls[j]? with
   |none=>rw[ex] at hy;cases hy
   |some z=>
    rw[ex] at hy;cases hy;refine⟨(gJ.refl _).own (by decide),_,Z,Z,_,Z,?_⟩;by_cases hz:z="ground"
    .rw[show decide (V.str z=V.str "ground")=true from aS (by rw[hz])];exact bo (q0 (ba (λh=>h hz)))
    .rw[show decide (V.str z=V.str "ground")=false from ba (dZ hz)];exact a9 ⟨_,Z,q1 (aS hz)⟩
  obtain⟨fs,J4,pz,X8⟩:∃fs:au,((ls.map V.str).filter λv=>match v with| .str z=>decide (z≠ "ground")|_=>false).map (λv=>v)=fs.map V.str/\fs.length<=ls.length/\∀x∈fs,x∈ls/\x≠ "ground":=by
   refine⟨ls.filter λz=>decide (z≠ "ground"),?_,y_ _ _,λx hx=>⟨(rR.mp hx).1,bE (rR.mp hx).2⟩⟩;rw[List.map_id',Fh];rfl
  rw[J4];refine⟨gY,λp10 aac=>⟨p9,p10,_,_,Z,Z,ah.upd aac _ _ af,af,?_,λXG aa5=> ?_⟩⟩
  .rw[a6];exact cT (fj (show fs.length+2<=100000 by lia))
  have v9:=ah.upd (o:= .lst (fs.map V.str)) hp9;have v10:=ah.upd (o:= .lst [V.str "f",.str "ff"]) aac;have v11:=ah.upd (o:= .lst (fs.map V.str++[V.str "f",.str "ff"])) aa5;have X1:=(v9.trans v10).trans v11;have e11:upd (upd (upd H8 p9 (.lst (fs.map V.str))) p10 (.lst [V.str "f",.str "ff"])) XG (.lst (fs.map V.str++[V.str "f",.str "ff"])) XG=some (.lst (fs.map V.str++[V.str "f",.str "ff"])):=af;have f11:H8 XG=none:=(v9.trans v10).free aa5;generalize upd (upd (upd H8 p9 (.lst (fs.map V.str))) p10 (.lst [V.str "f",.str "ff"])) XG (.lst (fs.map V.str++[V.str "f",.str "ff"]))=Kw at X1 e11 ⊢;have YV:=W8.same X1;have n11:XG≠b:=B8.ne f11;refine⟨_,Z,_,Z,y8,λlf Pq=>⟨_,Z,_,Z,m7,λal Li=>⟨_,Z,?_⟩⟩⟩;have QR:=ah.upd (o:= .lst [V.int up]) Pq;have v13:=ah.upd (o:= .lst []) Li;have LI:=QR.trans v13;have elf:=v13 _ _ (af (H:=Kw) (a:=lf) (o:= .lst [V.int up]));have eal:upd (upd Kw lf (.lst [V.int up])) al (.lst []) al=some (.lst []):=af;have fal:Kw al=none:=QR.free Li
  have nlf:al≠lf:=λz=>by
   rw[z,af] at Li;cases Li
  generalize upd (upd Kw lf (.lst [V.int up])) al (.lst [])=H13 at LI elf eal ⊢;have Zu:=YV.same LI;have adN:nl≠lf:=aA (X1 _ _ Y6) Pq;have lnl:XG≠lf:=aA e11 Pq;have ae1:=fr YV Pq;refine⟨b,lf,nl,XG,al,rm,_,up,ns,fs++[("f" :Str),"ff"],[],Z,⟨by lia,by lia,Zu.box,elf,by lia,u1,by lia,⟨LI _ _ (X1 _ _ Y6),by lia,nms⟩,(λz=>by rw[z] at Py;simp only[m5] at Py;lia),⟨by rw[iQ];exact LI _ _ e11,by rw[bu];show fs.length+2<=100;lia,?_⟩,?_,⟨eal,by decide,λx hx=>nomatch hx⟩,by show 0+rm<=20;lia,(B8.ne (X1.free Pq)).symm.symm,⟨nnl,adN⟩,⟨n11,lnl⟩,⟨YV.box.ne fal,nlf⟩⟩,λl ds H' k' EN po=> ?_⟩
  .intro x hx;rcases eA.mp hx with hx|hx
   .exact lms x (X8 x hx).1
   .simp only[aP,cO,cN] at hx
    rcases hx with rfl|rfl<;>decide+kernel
  .intro x hx;rcases eA.mp hx with hx|hx
   .exact(X8 x hx).2
   .simp only[aP,cO,cN] at hx
    rcases hx with rfl|rfl<;>decide+kernel
  .obtain⟨ws,el,da⟩:=po.ls;have mn:=po.mn;have dp:=CY po.dp;have mm:=Jy ds;refine q l (Ds.of ds) H' (fr Zu po.new) (.lst (wF (fr Zu po.new) el) (by rw[VI];exact kZ (λc h=>fr Zu h) (λ_ _ e=>e) (λ_ _ _ e=>e) da)) (jag po.ok) (by lia) (by lia) ⟨k',po.box,by have h1:=po.kb;have h2:=po.lo u0;lia⟩ λc o hc e=>po.kp _ _ hc (aA e ae1) (Zu.kp _ _ hc e)
structure Ly(k:Nat)(d:U'):Prop where
 lay:d.canLay0=true
 mix:PySem.SeqAt.noMix d d=true
 dp:d.depth<=k
noncomputable def we:V->Bool
 | .str x=>cv x
 |_=>false
noncomputable def BH:V->Bool
 | .int _=>true
 |_=>false
noncomputable def LU(lo hi:Int):V->Bool
 | .int i=>decide (lo<=i)&&decide (i<=hi)
 |_=>false
theorem i4{H H' :Hp}{v:V}(h:Th H v)(s:ah H H'):uJ H' v=uJ H v:=by
 cases h with
 |lst e=>simp[uJ,e,s _ _ e]
 |tup e=>simp[uJ,e,s _ _ e]
 |dK e=>simp[uJ,e,s _ _ e]
 |_=>rfl
def Sh:V->Prop
 | .str x=>x.length<=100000
 | .int i=>i.natAbs<10 ^ 40
 |_=>True
noncomputable def L4:V->Bool
 | .str x=>decide (x="ground")
 |_=>false
noncomputable def cX(H:Hp)(k:Str)(v:V):Bool:=
 if k="name" then we v
 else if k="label" then we v&& !L4 v
 else if k="mark" then decide (v= .bp)||we v
 else if k="value" then decide (v= .bp)||BH v
 else if k="number" then BH v
 else if k="body" then uJ H v
 else match xc.lookup k with
  |some (lo,hi)=>LU lo hi v
  |none=>false
theorem Dy{H H' :Hp}{v:V}(h:Th H v)(s:ah H H')(k:Str):cX H' k v=cX H k v:=by
 unfold cX;rw[i4 h s]
noncomputable def oj:au:=["name","label","mark","value","number","body","size","cell","many","times"]
def Jr:Sp:=λvs H Q _=>∃v,vs=[v]/\Th H v/\Sh v/\∀H',ah H H'->Q (.bl (we v)) H'
theorem qU(T:Txt K mg A):aT P w K mg base dQ 1 A.C7 A.CA ["thing"] Jr:=by
 refine T.rC.F.vc HZ ?_
 rintro cB Ar outer s H vs Q E hr ⟨v,rfl,th,sh,k⟩
 obtain⟨u1,Dm⟩:=T.LG;obtain⟨u2,rh⟩:=T.Ah;refine⟨_,(aj (bU (iy (gm (iW cC T.bM Boot.«isinstance» (ag (pv 0) (aM (eE (v:= .ty "str") Z T.Ku Boot.«str» rfl)))))) (aq (aH kz)) bf) (aq (aH (gT (By yy yy ae (iW oS T.g7 Boot.«len» (aM (pv 0))) (fY Z rh.2 rh.1)) (fU (iW (GD Z) T.Tb Boot.«all» (aM (KR ["sign"] 1 [] (Nh (pv 0) Z) (λ_ _ _ _ _=>⟨(jk 0 (show(["sign"]:au).Nodup by decide+kernel)),uU,(H_ KP (pv 0) (fY Z Dm.2 Dm.1))⟩))))))))),?_⟩;have k0:=k H (ah.refl H)
 cases th with
 |bp=>exact⟨_,Z,_,_,_,_,Z,.bp,Z,_,Z,a9 k0⟩
 |bl b=>exact⟨_,Z,_,_,_,_,Z,.bl b,Z,_,Z,a9 k0⟩
 |int i=>exact⟨_,Z,_,_,_,_,Z,.int i,Z,_,Z,a9 k0⟩
 |lst e=>exact⟨_,Z,_,_,_,_,Z,.lst e,Z,_,Z,a9 k0⟩
 |tup e=>exact⟨_,Z,_,_,_,_,Z,.tup e,Z,_,Z,a9 k0⟩
 |dK e=>exact⟨_,Z,_,_,_,_,Z,.dK e,Z,_,Z,a9 k0⟩
 |str x=>
  have hl:x.length<=100000:=sh;have hL:sizeLine=16777216:=rfl;have kn:∀H',ah H H'->Q (.bl (cv x)) H' :=k;unfold cv at kn;refine⟨_,Z,_,_,_,_,Z,.str x,Z,_,Z,bo ?_⟩;refine⟨_,Z,x,Z,by lia,1,x.length,Z,Z,_,Z,?_⟩;by_cases h1:1<=x.length
  .rw[aS h1,kH] at kn;rw[aS (show(1:Int)<=(x.length:Int) by lia)];refine a9 ⟨x.length,6,Z,Z,_,Z,?_⟩;by_cases h6:x.length<=6
   .rw[aS h6,kH] at kn;rw[aS (show(x.length:Int)<=6 by lia)];refine a9 ⟨_,Z,x,Z,?_⟩;refine rW (λ_=>true) (λv=>match v with| .str z=> .bl (dC (z.cps.getD 0 0))|_=> .bp) (Dz x H) ?_ ?_ λp hp=> ?_
    .simp;exact aU h6 (by decide)
    .intro i y H' C1 C0 hy sm c1 c0;rw[bX] at hy
     cases ec:x.cps.toList[i]? with
     |none=>rw[ec] at hy;cases hy
     |some c=>
      rw[ec] at hy;cases hy;refine⟨(gJ.refl _).own (by decide),⟨_,Z,_,_,Z,Z,?_⟩⟩;rw[Dk];exact c1 rfl
    .refine⟨p,x.cps.toList.map dC,Z,?_,?_⟩
     .rw[af,lr.mpr (λ_ _=>rfl),kM,kM];rfl
     .rw[List.all_map];exact kn _ (ah.upd hp)
   .rw[ba h6,ni] at kn;rw[ba (show ¬(x.length:Int)<=6 by lia)];exact bo (kn H (ah.refl H))
  .rw[ba h1,ni,ni] at kn;rw[ba (show ¬(1:Int)<=(x.length:Int) by lia)];exact bo ⟨_,Z,bo (kn H (ah.refl H))⟩
def Ni:Sp:=λvs H Q _=>∃v,vs=[v]/\Th H v/\Q (.bl (BH v)) H
theorem nq(T:Txt K mg A):aT P w K mg base dQ 1 A.yt A.xI ["thing"] Ni:=by
 refine T.mK.F.vc En ?_
 rintro cB Ar outer s H vs Q E hr ⟨v,rfl,p,k⟩
 refine⟨_,(aq (aH (gT (iW cC T.bM Boot.«isinstance» (ag (pv 0) (aM (eE (v:= .ty "int") Z T.CC Boot.«int» rfl)))) (fU (IC (iW cC T.bM Boot.«isinstance» (ag (pv 0) (aM (eE (v:= .ty "bool") Z T.HW Boot.«bool» rfl))))))))),?_⟩
 cases p with
 |bp=>exact⟨_,Z,_,_,_,_,Z,.bp,Z,_,Z,bo k⟩
 |bl b=>exact⟨_,Z,_,_,_,_,Z,.bl b,Z,_,Z,a9 ⟨_,Z,_,_,_,_,Z,.bl b,Z,_,Z,k⟩⟩
 |int i=>exact⟨_,Z,_,_,_,_,Z,.int i,Z,_,Z,a9 ⟨_,Z,_,_,_,_,Z,.int i,Z,_,Z,k⟩⟩
 |str x=>exact⟨_,Z,_,_,_,_,Z,.str x,Z,_,Z,bo k⟩
 |lst e=>exact⟨_,Z,_,_,_,_,Z,.lst e,Z,_,Z,bo k⟩
 |tup e=>exact⟨_,Z,_,_,_,_,Z,.tup e,Z,_,Z,bo k⟩
 |dK e=>exact⟨_,Z,_,_,_,_,Z,.dK e,Z,_,Z,bo k⟩
def GN:Sp:=λvs H Q _=>∃(v:V) (lo hi:Int),vs=[v,.int lo,.int hi]/\Th H v/\Q (.bl (LU lo hi v)) H
theorem Ea(T:Txt K mg A):aT P w K mg base dQ 2 A.AL A.A4 ["thing","low","high"] GN:=by
 refine T.Be.F.vc FT ?_
 rintro cB Ar outer s H vs Q E hr ⟨v,lo,hi,rfl,p,q⟩
 refine⟨_,(aq (aH (gT (cI (nq T) hr T.mK aC (aM (pv 0))) (fU (By yy yy (pv 1) (pv 0) (pv 2)))))),?_⟩;by_cases hn:∃i,v= .int i
 .obtain⟨i,rfl⟩:=hn;have q:Q (.bl (decide (lo<=i)&&decide (i<=hi))) H:=q;refine⟨_,Z,_,Z,p,_,Z,a9 ⟨_,Z,_,Z,lo,i,Z,Z,_,Z,?_⟩⟩;by_cases h1:lo<=i
  .rw[aS h1] at q ⊢;exact a9 ⟨_,Z,i,hi,Z,Z,by simpa using q⟩
  .rw[ba h1] at q ⊢;exact bo (by simpa using q)
 .have e1:BH v=false:=by cases v<;>first|rfl|exact absurd ⟨_,rfl⟩ hn
  have e2:LU lo hi v=false:=by cases v<;>first|rfl|exact absurd ⟨_,rfl⟩ hn
  rw[e2] at q;refine⟨_,Z,v,Z,p,_,Z,?_⟩;rw[e1];exact bo q
def Rk:Sp:=λvs H Q _=>∃k v,vs=[.str k,v]/\Th H v/\Sh v/\(∃p∈bg,k∈p.2)/\∀H',ah H H'->Q (.bl (cX H k v)) H'
theorem Fy(T:Txt K mg A)(Fm:wR P w K A fm):aT P w K mg base dQ 3 A.N9 A.NX ["kind","thing"] Rk:=by
 refine T.Jk.F.vc Q9 ?_
 rintro cB Ar outer s H vs Q E hr ⟨k,v,rfl,th,sh,⟨pf,pm,hk⟩,q⟩
 obtain⟨u1,j6⟩:=T.yH;have hk:=bE (a7.mp (a7.mp (show(bg.all λp=>p.2.all λk=>decide (k∈oj))=true by decide+kernel) _ pm) _ hk);refine⟨_,(aj (bU (wn cK (pv 0) ai) (aq (aH (cI (qU T) hr T.rC aC (aM (pv 1))))) bf) (aj (bU (wn cK (pv 0) ai) (aq (aH (gT (cI (qU T) hr T.rC aC (aM (pv 1))) (fU (H_ pR (pv 1) (fY Z j6.2 j6.1)))))) bf) (aj (bU (wn cK (pv 0) ai) (aq (aH (F7 (H_ A0 (pv 1) d_) (fU (cI (qU T) hr T.rC aC (aM (pv 1))))))) bf) (aj (bU (wn cK (pv 0) ai) (aq (aH (F7 (H_ A0 (pv 1) d_) (fU (cI (nq T) hr T.mK aC (aM (pv 1))))))) bf) (aj (bU (wn cK (pv 0) ai) (aq (aH (cI (nq T) hr T.mK aC (aM (pv 1))))) bf) (aj (bU (wn cK (pv 0) ai) (aq (aH (iW wa T.bM Boot.«isinstance» (ag (pv 1) (aM (bt (ag (eE (v:= .ty "list") Z T.AG Boot.«list» rfl) (aM (eE (v:= .ty "tuple") Z T.iX Boot.«tuple» rfl))))))))) bf) (aq (aH (cI (Ea T) hr T.Be aC (ag (pv 1) (ag (cS aN (qO Fm.L9 (fY (v:= .ref A.iF) Z T.iF Z) (pv 0)) ae) (aM (cS aN (qO Fm.L9 (fY (v:= .ref A.iF) Z T.iF Z) (pv 0)) ae))))))))))))),?_⟩;unfold oj at hk;simp only[aP,cO,cN] at hk;rcases hk with rfl|rfl|rfl|rfl|rfl|rfl|hk
 .rw[show cX H "name" v=we v from aB Z] at q;exact⟨_,Z,Z,_,Z,XV ⟨_,Z,v,Z,th,sh,q⟩⟩
 .rw[show cX H "label" v=(we v&& !L4 v) by unfold cX;rw[ax (by decide+kernel),aB Z]] at q;refine⟨_,Z,Z,_,Z,dG (by decide+kernel) ⟨_,Z,Z,_,Z,XV ⟨_,Z,v,Z,th,sh,λH' s=>⟨_,Z,?_⟩⟩⟩⟩
  cases hn:we v with
  |false=>
   rw[hn] at q;exact bo (q H' s)
  |true=>
   obtain⟨x,rfl⟩:∃x,v= .str x:=by cases v<;>first|exact⟨_,rfl⟩|cases hn
   rw[hn,kH] at q;refine a9 ⟨_,Z,Z,?_⟩;by_cases hg:x="ground"
   .subst hg;rw[aS Z];exact q H' s
   .rw[ba (dZ hg)];have:=q H' s;rw[show L4 (.str x)=false from ba hg] at this;exact this
 .rw[show cX H "mark" v=(decide (v= .bp)||we v) by unfold cX;rw[ax (by decide+kernel),ax (by decide+kernel),aB Z]] at q;refine⟨_,Z,Z,_,Z,dG (by decide+kernel) ⟨_,Z,Z,_,Z,dG (by decide+kernel) ⟨_,Z,Z,_,Z,XV ⟨_,Z,Z,_,Z,?_⟩⟩⟩⟩;by_cases hn:v= .bp
  .rw[aS hn] at q ⊢;exact a9 (q H (ah.refl H))
  .rw[ba hn] at q ⊢;exact bo ⟨_,Z,v,Z,th,sh,q⟩
 .rw[show cX H "value" v=(decide (v= .bp)||BH v) by unfold cX;rw[ax (by decide+kernel),ax (by decide+kernel),ax (by decide+kernel),aB Z]] at q;refine⟨_,Z,Z,_,Z,dG (by decide+kernel) ⟨_,Z,Z,_,Z,dG (by decide+kernel) ⟨_,Z,Z,_,Z,dG (by decide+kernel) ⟨_,Z,Z,_,Z,XV ⟨_,Z,Z,_,Z,?_⟩⟩⟩⟩⟩;by_cases hn:v= .bp
  .rw[aS hn] at q ⊢;exact a9 (q H (ah.refl H))
  .rw[ba hn] at q ⊢;exact bo ⟨_,Z,v,Z,th,q H (ah.refl H)⟩
 .rw[show cX H "number" v=BH v by unfold cX;rw[ax (by decide+kernel),ax (by decide+kernel),ax (by decide+kernel),ax (by decide+kernel),aB Z]] at q;exact⟨_,Z,Z,_,Z,dG (by decide+kernel) ⟨_,Z,Z,_,Z,dG (by decide+kernel) ⟨_,Z,Z,_,Z,dG (by decide+kernel) ⟨_,Z,Z,_,Z,dG (by decide+kernel) ⟨_,Z,Z,_,Z,XV ⟨_,Z,v,Z,th,q H (ah.refl H)⟩⟩⟩⟩⟩⟩
 .rw[show cX H "body" v=uJ H v by unfold cX;rw[ax (by decide+kernel),ax (by decide+kernel),ax (by decide+kernel),ax (by decide+kernel),ax (by decide+kernel),aB Z]] at q;refine⟨_,Z,Z,_,Z,dG (by decide+kernel) ⟨_,Z,Z,_,Z,dG (by decide+kernel) ⟨_,Z,Z,_,Z,dG (by decide+kernel) ⟨_,Z,Z,_,Z,dG (by decide+kernel) ⟨_,Z,Z,_,Z,dG (by decide+kernel) ⟨_,Z,Z,_,Z,XV ?_⟩⟩⟩⟩⟩⟩;refine⟨_,Z,gY,λp hp=> ?_⟩;have s1:=ah.upd (o:= .tup [V.ty "list",V.ty "tuple"]) hp;refine⟨v,p,Z,th.same s1,af,?_⟩;rw[i4 th s1];exact q _ s1
 .obtain⟨lo,hi,hb,eb⟩:∃lo hi,(k,lo,hi)∈xc/\xc.lookup k=some (lo,hi):=by
   rcases hk with rfl|rfl|rfl|rfl
   .exact⟨1,6,by decide+kernel,by decide+kernel⟩
   .exact⟨0,5,by decide+kernel,by decide+kernel⟩
   .exact⟨1,3,by decide+kernel,by decide+kernel⟩
   .exact⟨0,4,by decide+kernel,by decide+kernel⟩
  obtain⟨t,e1,e2⟩:=Fm.b _ hb;have n:∀y:Str,(xc.all λp=>decide (p.1≠y))=true->k≠y:=λy h=>bE (a7.mp h _ hb);rw[show cX H k v=LU lo hi v by unfold cX;rw[ax (n _ (by decide+kernel)),ax (n _ (by decide+kernel)),ax (n _ (by decide+kernel)),ax (n _ (by decide+kernel)),ax (n _ (by decide+kernel)),ax (n _ (by decide+kernel)),eb]] at q;refine⟨_,Z,Z,_,Z,dG (nj hb (by decide+kernel)) ⟨_,Z,Z,_,Z,dG (nj hb (by decide+kernel)) ⟨_,Z,Z,_,Z,dG (nj hb (by decide+kernel)) ⟨_,Z,Z,_,Z,dG (nj hb (by decide+kernel)) ⟨_,Z,Z,_,Z,dG (nj hb (by decide+kernel)) ⟨_,Z,Z,_,Z,dG (nj hb (by decide+kernel)) ?_⟩⟩⟩⟩⟩⟩;exact⟨_,Z,_,Z,.inr k,_,Z,Z,e1,t,_,0,_,Z,Z,e2 _,Z,_,Z,.inr k,_,Z,Z,e1,t,_,1,_,Z,Z,e2 _,Z,v,_,_,Z,th,q H (ah.refl H)⟩
noncomputable def HH(H:Hp):ak->Bool
 | .str w::xs=>match bg.lookup w with
  |some ks=>decide (xs.length=ks.length)&&(List.zipWith (cX H) ks xs).all id
  |none=>false
 |_=>false
noncomputable def cf(H:Hp):V->Bool
 | .ref a=>match H a with
  |some (.tup xs)=>HH H xs
  |_=>false
 |_=>false
structure Tg(H:Hp)(v:V):Prop where
 th:Th H v
 sh:Sh v
 at_:∀a xs,v= .ref a->H a=some (.tup xs)->xs.length<=1000/\∀x∈xs,Th H x/\Sh x
def Kt:Sp:=λvs H Q _=>∃v,vs=[v]/\Tg H v/\∀H',ah H H'->Q (.bl (cf H v)) H'
theorem Gw(T:Txt K mg A)(Fm:wR P w K A fm)(Fp:∀x:Str,bg.lookup x=none->eV fm.kF (.inr x)=none):aT P w K mg base dQ 4 A.DB A.CJ ["thing"] Kt:=by
 refine T.Dw.F.vc Hw ?_
 rintro cB Ar outer s H vs Q E hr ⟨v,rfl,tg,q⟩
 refine⟨_,(aj (bU (PW.pt (WF (iy (gm (iW cC T.bM Boot.«isinstance» (ag (pv 0) (aM (eE (v:= .ty "tuple") Z T.iX Boot.«tuple» rfl)))))) (WF (iy (MZ (pv 0) (λ_=>rfl))) (WP (iy (gm (iW cC T.bM Boot.«isinstance» (ag (cS aN (pv 0) ae) (aM (eE (v:= .ty "str") Z T.Ku Boot.«str» rfl)))))))))) (aq (aH kz)) bf) (aj (bU (PW.pt (WF (V9 (HS Fm.Ki (cS aN (pv 0) ae) (fY (v:= .ref A.gC) Z T.gC Z))) (WP (wn pR (iW br T.g7 Boot.«len» (aM (pv 0))) (aL bA ae (iW br T.g7 Boot.«len» (aM (qO Fm.Ki (fY (v:= .ref A.gC) Z T.gC Z) (cS aN (pv 0) ae))))))))) (aq (aH kz)) bf) (aq (aH (iW (GD Z) T.Tb Boot.«all» (aM (KR ["kind","part"] 2 [] (ff (cI (mI T Fm) hr T.lO aC (aM (pv 0)))) (λ_ _ _ _ _=>⟨(Er (K:=K) (n:=2) Z Z (cY (jk 0 (show(["kind","part"]:au).Nodup by decide+kernel)) (cY (jk 1 (show(["kind","part"]:au).Nodup by decide+kernel)) mT)) Z Z),uU,(cI (Fy T Fm) hr T.Jk aC (ag (pv 0) (aM (pv 1))))⟩)))))))),?_⟩;have q0:=q H (ah.refl H);obtain⟨th,sh,tat⟩:=tg
 cases th with
 |bp=>exact⟨_,Z,_,_,_,_,Z,.bp,Z,_,Z,a9 q0⟩
 |bl b=>exact⟨_,Z,_,_,_,_,Z,.bl b,Z,_,Z,a9 q0⟩
 |int i=>exact⟨_,Z,_,_,_,_,Z,.int i,Z,_,Z,a9 q0⟩
 |str x=>exact⟨_,Z,_,_,_,_,Z,.str x,Z,_,Z,a9 q0⟩
 |lst e=>
  rw[show cf H _=false by simp[cf,e]] at q0;exact⟨_,Z,_,_,_,_,Z,.lst e,Z,_,Z,a9 q0⟩
 |dK e=>
  rw[show cf H _=false by simp[cf,e]] at q0;exact⟨_,Z,_,_,_,_,Z,.dK e,Z,_,Z,a9 q0⟩
 | @tup a xs e=>
  obtain⟨hl,hx⟩:=tat a xs Z e;have dv:cf H (.ref a)=HH H xs:=by simp[cf,e]
  rw[dv] at q;refine⟨_,Z,_,_,_,_,Z,.tup e,Z,_,Z,bo ⟨_,Z,_,.inr (.inl ⟨_,bc.of e,Z⟩),?_⟩⟩
  cases xs with
  |nil=>exact a9 (q H (ah.refl H))
  |cons x ys=>
  obtain⟨thx,shx⟩:=hx x c5;by_cases hs:∃w,x= .str w
  rotate_left
  .have q0:Q (.bl false) H:=by
    have:=q H (ah.refl H);cases x<;>first|exact this|exact absurd ⟨_,rfl⟩ hs
   cases thx with
   |bp=>exact bo ⟨_,Z,a,_,0,_,Z,Z,bc.of e,gU _ _,_,_,_,_,Z,.bp,Z,_,Z,a9 q0⟩
   |bl b=>exact bo ⟨_,Z,a,_,0,_,Z,Z,bc.of e,gU _ _,_,_,_,_,Z,.bl b,Z,_,Z,a9 q0⟩
   |int i=>exact bo ⟨_,Z,a,_,0,_,Z,Z,bc.of e,gU _ _,_,_,_,_,Z,.int i,Z,_,Z,a9 q0⟩
   |str z=>exact absurd ⟨_,Z⟩ hs
   |lst e1=>exact bo ⟨_,Z,a,_,0,_,Z,Z,bc.of e,gU _ _,_,_,_,_,Z,.lst e1,Z,_,Z,a9 q0⟩
   |tup e1=>exact bo ⟨_,Z,a,_,0,_,Z,Z,bc.of e,gU _ _,_,_,_,_,Z,.tup e1,Z,_,Z,a9 q0⟩
   |dK e1=>exact bo ⟨_,Z,a,_,0,_,Z,Z,bc.of e,gU _ _,_,_,_,_,Z,.dK e1,Z,_,Z,a9 q0⟩
  obtain⟨w,rfl⟩:=hs;refine bo ⟨_,Z,a,_,0,_,Z,Z,bc.of e,gU _ _,_,_,_,_,Z,.str w,Z,_,Z,bo ?_⟩;refine⟨_,Z,a,_,0,_,Z,Z,bc.of e,gU _ _,.inr w,Z,Z,?_⟩
  have q:∀H',ah H H'->Q (.bl (match bg.lookup w with
   |some ks=>decide (ys.length=ks.length)&&(List.zipWith (cX H) ks ys).all id
   |none=>false)) H' :=q
  cases hf:bg.lookup w with
  |none=>
   rw[hf] at q;rw[Fp w hf];exact⟨_,Z,a9 (q H (ah.refl H))⟩
  |some ks=>
   rw[hf] at q;have q:∀H',ah H H'->Q (.bl (decide (ys.length=ks.length)&&(List.zipWith (cX H) ks ys).all id)) H' :=q;have mem:(w,ks)∈bg:=gA hf;obtain⟨t,hv,ht⟩:=Fm.f _ mem;have X7 :eV fm.kF (.inr w)=some (.ref t):=hv;have k4:=fR mem;rw[X7];refine⟨_,Z,bo ⟨_,Z,a,_,Z,.inr (bc.of e),_,Z,a,_,0,_,Z,Z,bc.of e,gU _ _,.inr w,_,Z,Z,X7,t,_,Z,.inr (ht _),1,_,Z,Z,Z,_,Z,?_⟩⟩;show if(!decide (V.int ((V.str w::ys).length:Int)=V.int (1+(ks.map V.str).length)))=true then _ else _
   by_cases hn:ys.length=ks.length
   rotate_left
   .rw[ba hn,ni] at q;rw[ba (λz=>hn (by have:=V.int.inj z;rw[bB,a6] at this;lia))];exact a9 (q H (ah.refl H))
   .rw[aS hn,kH] at q;rw[aS (show V.int ((V.str w::ys).length:Int)=V.int (1+(ks.map V.str).length) by rw[bB,a6,hn];congr 1;lia)];refine bo ⟨_,Z,a,w,ks,ys,Z,e,mem,hn.symm,λl zs H1 OH s1 hz zp=> ?_⟩;refine⟨l,Z,⟨_,cF.of hz⟩,?_⟩;have VM:zs.length=ks.length:=by rw[zp.len,a6]
    refine jx (λ_=>true) (λi=> .bl (cX H (ks.getD i "") (ys.getD i .bp))) (fL (cF.of hz)).g (aU (show zs.length<=4 by lia) (by decide)) ?_ λp2 H2 h0 s2 h2=> ?_
    .intro i y H' C1 C0 hi sm hy c1 c0;obtain⟨tt,k,v,rfl,hT,e1,e2⟩:=jac (zp.same sm) (by rw[a6];exact hn.symm) hy;rw[bX] at e1
     cases ek:ks[i]? with
     |none=>rw[ek] at e1;cases e1
     |some k' =>
      rw[ek] at e1;cases e1;obtain⟨wV,He⟩:=hx v (cw _ (bD e2));refine⟨tt,_,Z,bc.of hT,Z,_,_,Z,_,_,Z,Z,((gJ.refl _).own (by decide)).own (by decide),⟨_,Z,_,Z,k',v,Z,wV.same (s1.trans sm),He,⟨_,mem,bD ek⟩,λH3 s3=> ?_⟩⟩;have:=c1 Z H3 s3;rw[eh,ek,eh,e2] at this;rw[Dy wV (s1.trans sm)];exact this
    .refine⟨p2,List.zipWith (cX H) ks ys,Z,?_,q _ (s1.trans s2)⟩;rw[h2,lr.mpr (λ_ _=>rfl),VM]
     congr 2
     apply zF;intro i;rw[bX,bX,List.getElem?_zipWith];by_cases h:i<ks.length
     .have h' :i<ys.length:=by lia
      rw[qu h,v7 h,v7 h'];simp[eh,h,h']
     .rw[nz (by rw[o7];lia),nz (by lia)];rfl
noncomputable def nk(H:Hp):V->Option (ak)
 | .ref a=>match H a with
  |some (.lst xs)=>some xs
  |some (.tup xs)=>some xs
  |_=>none
 |_=>none
noncomputable def yj:au->ak->ak
 |k::ks,x::xs=>if k="body" then x::yj ks xs else yj ks xs
 |_,_=>[]
noncomputable def tbV:ak->ak
 | .str w::xs=>match bg.lookup w with
  |some ks=>yj ks xs
  |none=>[]
 |_=>[]
noncomputable def fB(H:Hp):V->ak
 | .ref a=>match H a with
  |some (.tup xs)=>tbV xs
  |_=>[]
 |_=>[]
noncomputable def ke(H:Hp):Nat->V->Option V
 |0,_=>none
 |n+1,v=>match nk H v with
  |some xs=>xs.findSome? λx=>if cf H x=true then(fB H x).findSome? (ke H n) else some x
  |none=>some v
def Dp(H:Hp):Nat->V->Prop
 |0,_=>False
 |n+1,v=>Th H v/\Sh v/\∀xs,nk H v=some xs->xs.length<=1000/\∀x∈xs,Tg H x/\∀b∈fB H x,Dp H n b
theorem Tg.same{H H' :Hp}{v:V}(h:Tg H v)(s:ah H H'):Tg H' v:=by
 refine⟨h.th.same s,h.sh,λa xs e1 e2=> ?_⟩
 have:H a=some (.tup xs):=by
  have th:=h.th;subst e1
  cases th with
  |lst e=>rw[s _ _ e] at e2;cases e2
  |tup e=>rw[s _ _ e] at e2;cases e2;exact e
  |dK e=>rw[s _ _ e] at e2;cases e2
 obtain⟨h1,h2⟩:=h.at_ a xs e1 this;exact⟨h1,λx hx=>⟨(h2 x hx).1.same s,(h2 x hx).2⟩⟩
theorem Gp{H H' :Hp}(s:ah H H'):∀(ks:au) (xs:ak),(∀x∈xs,Th H x/\Sh x)->List.zipWith (cX H') ks xs=List.zipWith (cX H) ks xs
 |[],_,_=>rfl
 |_::_,[],_=>rfl
 |k::ks,x::xs,h=>by
  rw[iE,iE,Dy (h x c5).1 s,Gp s ks xs λy hy=>h y (cw _ hy)]
theorem uq{H H' :Hp}{v:V}(h:Tg H v)(s:ah H H'):cf H' v=cf H v:=by
 obtain⟨th,sh,at_⟩:=h
 cases th with
 |lst e=>simp[cf,e,s _ _ e]
 |dK e=>simp[cf,e,s _ _ e]
 | @tup a xs e=>
  obtain⟨h1,h2⟩:=at_ a xs Z e;simp only[cf,e,s _ _ e];unfold HH
  split
  .rename_i w ys
   cases bg.lookup w with
   |none=>rfl
   |some ks=>
    show(_&&(List.zipWith (cX H') ks ys).all id)=_;rw[Gp s _ ys λy hy=>h2 y (cw _ hy)]
  .rfl
 |_=>rfl
theorem ou{H:Hp}{v:V}(h:cf H v=true):∃a w ks xs,v= .ref a/\H a=some (.tup (.str w::xs))/\(w,ks)∈bg/\ks.length=xs.length/\fB H v=yj ks xs:=by
 unfold cf at h
 split at h
 .rename_i a
  split at h
  .rename_i ys e;unfold HH at h
   split at h
   .rename_i w xs
    split at h
    .rename_i ks hf;rw[cH,iq] at h;exact⟨a,w,ks,xs,Z,e,gA hf,h.1.symm,by simp[fB,e,tbV,hf]⟩
    .cases h
   .cases h
  .cases h
 .cases h
theorem Mc:∀(ks:au) (xs:ak),ks.length=xs.length->((List.range ks.length).filter λi=>decide (ks.getD i ""="body")).map (λi=>xs.getD i .bp)=yj ks xs
 |[],[],_=>rfl
 |k::ks,x::xs,h=>by
  have ih:=Mc ks xs (oG h);rw[bB,List.range_succ_eq_map,List.filter_cons,Fh,yj];by_cases hk:k="body"
  .rw[aB (by simpa using hk),aB hk,cP,kM,<-ih];rfl
  .rw[ax (by simpa using hk),ax hk,kM,<-ih];rfl
def Vw:Sp:=λvs H Q _=>∃H0 v,vs=[v]/\ah H0 H/\cf H0 v=true/\∀l H',H l=none->ah H H'->H' l=some (.lst (fB H0 v))->Q (.ref l) H'
theorem BY(T:Txt K mg A)(Fm:wR P w K A fm):aT P w K mg base dQ 2 A.qL A.pO ["deed"] Vw:=by
 refine T.fE.F.vc uZ ?_
 rintro cB Ar outer s H vs Q E hr ⟨H0,v,rfl,gW,hd,q⟩
 obtain⟨a,w',ks,xs,rfl,e,mem,hl,eb⟩:=ou hd;rw[eb] at q;have k4:=fR mem;refine⟨_,(aq (aH (KR ["kind","part"] 2 [] (ff (cI (mI T Fm) hr T.lO aC (aM (pv 0)))) (λ_ _ _ _ _=>⟨(Er (K:=K) (n:=2) Z Z (cY (jk 0 (show(["kind","part"]:au).Nodup by decide+kernel)) (cY (jk 1 (show(["kind","part"]:au).Nodup by decide+kernel)) mT)) Z Z),(Lq (wn cK (pv 0) ai)),(pv 1)⟩)))),?_⟩;refine⟨_,Z,a,w',ks,xs,Z,gW _ _ e,mem,hl,λl zs H1 OH s1 hz zp=> ?_⟩;refine⟨l,Z,⟨_,cF.of hz⟩,?_⟩;have VM:zs.length=ks.length:=by rw[zp.len,a6]
 refine jx (λi=>decide (ks.getD i ""="body")) (λi=>xs.getD i .bp) (fL (cF.of hz)).g (aU (show zs.length<=4 by lia) (by decide)) ?_ λp2 H2 h0 s2 h2=> ?_
 .intro i x H' C1 C0 hi sm hy c1 c0;obtain⟨tt,k,v,rfl,hT,e1,e2⟩:=jac (zp.same sm) (by rw[a6];exact hl) hy;rw[bX] at e1
  cases ek:ks[i]? with
  |none=>rw[ek] at e1;cases e1
  |some k' =>
   rw[ek] at e1;cases e1;have eg:ks.getD i ""=k' :=by rw[eh,ek];rfl
   refine⟨tt,_,Z,bc.of hT,Z,_,_,Z,_,_,Z,Z,((gJ.refl _).own (by decide)).own (by decide),_,Z,Z,_,Z,?_⟩;by_cases hb:k' ="body"
   .subst hb;refine XV ?_;have:=c1 (aS eg) H' (ah.refl H');rw[eh,e2] at this;exact⟨v,Z,this⟩
   .exact dG (dZ hb) (c0 (ba (by rw[eg];exact hb)) H' (ah.refl H'))
 .rw[VM,Mc ks xs hl] at h2;exact q p2 H2 (s1.free h0) (s1.trans s2) h2
def Kd(A:nT)(n:Nat):Sp:=λvs H Q E=>∃H0 v,vs=[v]/\ah H0 H/\Dp H0 n v/\match ke H0 n v with
 |none=>∀H',ah H H'->Q .bp H'
 |some b=>Raises A H E (.sO b)
theorem Ck(T:Txt K mg A)(Fm:wR P w K A fm)(Fp:∀x:Str,bg.lookup x=none->eV fm.kF (.inr x)=none)(n:Nat):aT P w K mg base (Dg P w) (n+4) A.pX A.qw ["thing"] (Kd A n):=by
 induction n with
 |zero=>exact fg (by rintro vs H Q E ⟨H0,v,_,_,h,_⟩;exact h)
 |succ n ih=>
 show aT P w K mg base (Dg P w) ((n+4)+1) _ _ _ _;refine T.qM.F.okX n9 (λvs H Q E h=> ?_) (λcB Ar outer s0 H vs Q E hr h=> ?_)
 .obtain⟨H0,v,rfl,_⟩:=h;rfl
 .obtain⟨H0,v,rfl,gW,⟨th,sh,dp⟩,q⟩:=h;refine⟨_,(aj (bU (iy (gm (cI (Fy T Fm) hr T.Jk aC (ag ai (aM (pv 0))) (hj:=by lia)))) (aq (jT Z dR (Rx T.hV T.iY (lI T) hr (aM (pv 0)) (hj:=by lia)))) bf) (aq (AV (o_ (pv 0)) (jk 1 n9.nd) (aj (bU (iy (gm (cI (Gw T Fm Fp) hr T.Dw aC (aM (pv 1)) (hj:=by lia)))) (aq (jT Z dR (Rx T.hV T.iY (lI T) hr (aM (pv 1)) (hj:=by lia)))) bf) (aq (AV (ff (cI (BY T Fm) hr T.fE aC (aM (pv 1)) (hj:=by lia))) (jk 2 n9.nd) (aq (bW (cI ih hr T.qM (jy dR trivial) (aM (pv 2)) (hj:=by lia)))) (hp:=zk)))) (hp:=zk)))),?_⟩;have thH:=th.same gW
  have eS:uJ H v=(nk H0 v).isSome:=by
   rw[i4 th gW]
   cases th with
   |lst e=>simp[uJ,nk,e]
   |tup e=>simp[uJ,nk,e]
   |dK e=>simp[uJ,nk,e]
   |_=>rfl
  refine⟨_,Z,"body",v,Z,thH,sh,⟨("frame",["label","body"]),by decide+kernel,by decide+kernel⟩,λH1 s1=>⟨_,Z,?_⟩⟩;rw[show cX H "body" v=uJ H v by unfold cX;rw[ax (by decide+kernel),ax (by decide+kernel),ax (by decide+kernel),ax (by decide+kernel),ax (by decide+kernel),aB Z],eS];unfold ke at q
  cases ev:nk H0 v with
  |none=>
   rw[ev] at q;have q:Raises A H E (.sO v):=q;exact a9 (p_ T.hV.X.toExcC (λQ h=>⟨_,Z,h⟩) (q.on s1))
  |some xs=>
   rw[ev] at q;obtain⟨xl,hx⟩:=dp xs ev
   obtain⟨a,t,rfl,ha⟩:∃a t,v= .ref a/\H0 a=some (EI t xs):=by
    cases th with
    | @lst a ys e=>simp only[nk,e,nA] at ev;subst ev;exact⟨a,false,Z,e⟩
    | @tup a ys e=>simp only[nk,e,nA] at ev;subst ev;exact⟨a,true,Z,e⟩
    |dK e=>simp[nk,e] at ev
    |_=>cases ev
   have s01:=gW.trans s1;refine bo ⟨_,Z,a,t,Z,LW (s01 _ _ ha),?_⟩
   have q:match xs.findSome? (λx=>if cf H0 x=true then(fB H0 x).findSome? (ke H0 n) else some x) with
    |none=>∀H',ah H H'->Q .bp H'
    |some b=>Raises A H E (.sO b):=q
   have bad:∀(i:Nat) (x:V) (b:V),xs[i]? =some x->(xs.take i).findSome? (λx=>if cf H0 x=true then(fB H0 x).findSome? (ke H0 n) else some x)=none->(if cf H0 x=true then(fB H0 x).findSome? (ke H0 n) else some x)=some b->Raises A H E (.sO b):=λi x b hi h0 hb=>by
    have:xs.findSome? (λx=>if cf H0 x=true then(fB H0 x).findSome? (ke H0 n) else some x)=some b:=by
     rw[<-jE i xs,mZ,h0,ig,zC (c9.mp hi).1,(c9.mp hi).2,m_,hb]
    rw[this] at q;exact q
   refine nt (K:=K) (t:=t) (a:=a) (xs:=xs) (λi σ H' =>∃x2 x3:Option V,σ=[some (.ref a),x2,x3]/\ah H H'/\(xs.take i).findSome? (λx=>if cf H0 x=true then(fB H0 x).findSome? (ke H0 n) else some x)=none) ⟨_,_,Z,s1,Z⟩ (by rintro i σ H' _ ⟨_,_,_,sm,_⟩;exact sm _ _ (gW _ _ ha)) ?_ ?_
   .rintro i x σ H' hi ⟨x2,x3,rfl,sm,h0⟩
    obtain⟨tg,db⟩:=hx x (bD hi);have S0:=gW.trans sm;refine⟨_,Z,x,Z,tg.same S0,λH2 s2=>⟨_,Z,?_⟩⟩;rw[uq tg S0]
    cases hd:cf H0 x with
    |false=>
     exact a9 (p_ T.hV.X.toExcC (λQ h=>⟨_,Z,h⟩) ((bad i x x hi h0 (by rw[hd];rfl)).on (sm.trans s2)))
    |true=>
     refine bo ⟨_,Z,H0,x,Z,S0.trans s2,hd,λl H3 OH s3 hz=>⟨l,Z,⟨_,cF.of hz⟩,?_⟩⟩;have LI:=(sm.trans s2).trans s3
     have Ww:∀(j:Nat) (y b:V),(fB H0 x)[j]? =some y->((fB H0 x).take j).findSome? (ke H0 n)=none->ke H0 n y=some b->Raises A H E (.sO b):=λj y b hj h1 hb=>bad i x b hi h0 (by
      rw[aB hd,<-jE j (fB H0 x),mZ,h1,ig,zC (c9.mp hj).1,(c9.mp hj).2,m_,hb])
     refine i0 (K:=K) (a:=l) (xs:=fB H0 x) (λj σ H4=>∃x3:Option V,σ=[some (.ref a),some x,x3]/\ah H3 H4/\((fB H0 x).take j).findSome? (ke H0 n)=none) ⟨x3,Z,ah.refl H3,Z⟩ (by rintro i σ H' _ ⟨_,_,sm,_⟩;exact cF.of (sm _ _ hz)) ?_ ?_
     .rintro j y σ H4 hj ⟨x3,rfl,s4,h1⟩
      refine⟨_,Z,H0,y,Z,(gW.trans LI).trans s4,db y (bD hj),?_⟩
      cases hb:ke H0 n y with
      |some b=>exact(Ww j y b hj h1 hb).on (LI.trans s4)
      |none=>
       exact λH5 s5=>⟨some y,Z,s4.trans s5,by rw[wP hj,mZ,h1,ig,m_,hb];rfl⟩
     .rintro σ H4 ⟨x3,rfl,s4,h1⟩
      rw[gi] at h1;exact⟨some x,x3,Z,LI.trans s4,by rw[wP hi,mZ,h0,ig,m_,aB hd,h1];rfl⟩
   .rintro σ H' ⟨x2,x3,rfl,sm,h0⟩
    rw[gi] at h0;rw[h0] at q;exact q H' sm
def Jx(A:nT)(q:Str):Sp:=λvs H Q E=>∃p dx v,vs=[.ref p,v]/\H p=some (.ins A.aZ dx [])/\Dp H 40 v/\Tab H A.ay LY q/\((∃b,ke H 40 v=some b/\Raises A H E (.sO b))\/(ke H 40 v=none/\∃t s,Dat H v (iS t (sL s))/\mD s/\eQ s<40/\eB s<=1000/\
 match gL s with
 |none=>∀tb ls H',H tb=none->H ls=none->hU p A.ay H H'->Tab H' A.ay LY q->Ii A.aZ H' p tb ls s->Q .bp H'
 |some r=>∀dx H2,hU p A.ay H H2->Tab H2 A.ay LY q->H2 dx=some (.xd [(r.fd,r.v)])->E (.ref (r.cls A)) (some dx) H2))
theorem sT(T:Txt K mg A)(Fm:wR P w K A fm)(Fp:∀x:Str,bg.lookup x=none->eV fm.kF (.inr x)=none)(xr:K.In base):aT P w K mg base (Dg P w) 50 A.c7 A.c8 ["self","deeds"] (Jx A qI):=by
 have G4:aT P w K mg base (Dg P w) (40+4) A.pX A.qw ["thing"] (Kd A 40):=Ck T Fm Fp 40;refine T.lX.F.okC sP (λAr outer s0 H vs Q E hr h=> ?_) (λvs H Q E h=> ?_)
 .obtain⟨p,dx,v,rfl,hp,VD,tab,hc⟩:=h;obtain⟨u1,j6⟩:=T.yH;obtain⟨u0,aeg,bnd⟩:=Fm.df;have bnv:Vals [V.int 0] [u0]:= .cons aeg .nil;obtain⟨c0,ct⟩:=T.sx.tab (X:=ny (Dg P w) P w K mg base ["self","deeds"] "Program.__init__" (av fF) A.c7 A.c8.code Ar outer s0 H E) xr rfl;have bm:=T.bm.mod (X:=ny (Dg P w) P w K mg base ["self","deeds"] "Program.__init__" (av fF) A.c7 A.c8.code Ar outer s0 H E) xr;refine⟨_,(aj (bW (cI G4 hr T.qM (jy dR trivial) (aM (pv 1)))) (aj (bW (cI (Ey T Fm) hr T.xH (jy dR trivial) (aM (pv 1)))) (aj (MN (pv 0) (Q8 ct bm (uM.none Z) (λg_ f c' wQ kl lk cp=>Z5 T Fm lk cp) hr Z T.mW.m T.mW.F.kp bnd bnv aC (pv 1)) Z) (aj (MN (pv 0) (cI (Ji T Fm 7) hr T.xy aC (ag (pfd (pv 0)) (aM (bt (aM (fY Z j6.2 j6.1)))))) Z) (aj (bW (cI (AB T Fm) hr T.tR (jy dR trivial) (aM (pfd (pv 0))))) (aq (bW (cI (DX T Fm) hr T.yE (jy dR trivial) (aM (pfd (pv 0))))))))))),?_⟩;rcases hc with⟨b,hb,r⟩|⟨hb,t,s,hd,ok,dp,hm,q⟩
  .exact⟨_,Z,H,v,Z,ah.refl _,VD,by rw[hb];exact r⟩
  refine⟨_,Z,H,v,Z,ah.refl _,VD,?_⟩;rw[hb];intro H1 s1;unfold gL at q
  have npP:p≠A.ay:=by
   obtain⟨ps,e,_⟩:=tab;exact dw hp e (λz=>nomatch z)
  refine⟨_,Z,v,t,s,Z,hd.same s1,ok,dp,?_⟩
  cases es:nW s with
  |some r=>
   rw[es] at q;exact λMG H2 s2 e=>q MG H2 (λb o _ _ eb=>s2 _ _ (s1 _ _ eb)) (tab.same (s1.trans s2)) e
  |none=>
   rw[es,ig] at q
   have hs:eB s<=40/\eQ s<=6:=by
    unfold nW at es
    split at es
    .cases es
    .split at es
     .cases es
     .lia
   intro H2 s2;have w_:=s1.trans s2;have abg:=tab.same w_;show Gj A.ay LY qI (λf c' _=>JS f c' qI 7) E0 [] [V.int 0] (tL (zY 1) sQ) (L2.start ["self","deeds"] [V.ref p,v]) H2 _;refine Tab.lam (q:=qI) (lp:=LY) abg (λQ' h=>⟨_,Z,h⟩) λf c' H3 hf hf3 k3 KD hc3=> ?_;obtain⟨ps,eP,_⟩:=id abg;refine⟨jai A.ay H2,v,t,s,0,Z,xA k3,Nl eP (hd.same w_),ok,by lia,hm,hc3,λtb H4 Kx s4 td=> ?_⟩;have Hd:H4 p=some (.ins A.aZ dx []):=s4 _ _ (k3 _ _ npP (w_ _ _ hp));refine⟨_,Z,p,A.aZ,dx,[],Z,Hd,T.jz,T.iM,(by show 0<1000;decide),?_⟩;have V8:upd H4 p (.ins A.aZ dx (je "body" (.ref tb) [])) p=some (.ins A.aZ dx (je "body" (.ref tb) [])):=af;have k45:KT H4 (upd H4 p (.ins A.aZ dx (je "body" (.ref tb) []))):=NN Hd;have e45:∀c,c≠p->upd H4 p (.ins A.aZ dx (je "body" (.ref tb) [])) c=H4 c:=λc h=>az h;have Wa:=Tab.Zs (o:= .ins A.aZ dx (je "body" (.ref tb) [])) (KD.same s4) Hd;generalize upd H4 p (.ins A.aZ dx (je "body" (.ref tb) []))=H5 at V8 k45 e45 Wa ⊢;obtain⟨e1,e2,e3,e4⟩:=OZ s;have zo:=Fl s ok;have td5:=td.kt k45
   have hk5:hU p A.ay H H5:=λb o h1 h2 eb=>by
    rw[e45 b h1];exact s4 _ _ (k3 _ _ h2 (w_ _ _ eb))
   refine⟨_,Z,p,A.aZ,dx,_,_,Z,V8,T.jz,T.iM,Z,y8,λu hu=> ?_⟩;have s6:=ah.upd (o:= .tup [V.str "ground"]) hu;refine⟨jai p H5,.ref tb,true,nE s,u,["ground"],Z,xA s6.kept,Lx V8 (td5.dat),zo,by lia,af,(λz=>nomatch z),by lia,by rw[e1];show 1+_<_;lia,λls zs H7 hls s7 hz R=> ?_⟩;have ZH:=s6.trans s7;have NS:=ZH _ _ V8;have nlp:ls≠p:=dw hz NS (λz=>nomatch z);refine⟨_,Z,p,A.aZ,dx,_,Z,NS,T.jz,T.nU,(by show 1<1000;decide),?_⟩;have Lh:upd H7 p (.ins A.aZ dx (UO tb ls)) p=some (.ins A.aZ dx (UO tb ls)):=af;have k78:KT H7 (upd H7 p (.ins A.aZ dx (UO tb ls))):=NN NS;have e78:∀c,c≠p->upd H7 p (.ins A.aZ dx (UO tb ls)) c=H7 c:=λc h=>az h;have Qv:=Tab.Zs (o:= .ins A.aZ dx (UO tb ls)) (Wa.same ZH) NS;show{nx:=_,rt:=_:Ends}.nx _ (upd H7 p (.ins A.aZ dx (UO tb ls)));generalize upd H7 p (.ins A.aZ dx (UO tb ls))=H8 at Lh k78 e78 Qv ⊢;have R8:=R.kt k78;have Z1:H8 ls=some (.lst zs):=(e78 _ nlp).trans hz
   have s58:ah (jai p H5) H8:=xA λc o h e=>by
    rw[e78 c h];exact ZH _ _ e
   have hk8:hU p A.ay H H8:=λb o h1 h2 eb=>by
    rw[e78 b h1];exact ZH _ _ (hk5 b o h1 h2 eb)
   have td8:i3 H8 (.ref tb) (.tuple (sL (nE s))):=(td5.kt (KT.same ZH)).kt k78;refine⟨_,Z,p,A.aZ,dx,_,_,Z,Lh,T.jz,T.nU,Z,jai p H5,ls,zs,_,Z,s58,Z1,R8,xo _ _ zo,?_⟩;rw[Q3]
   cases ef:(pI s ["ground"]).findSome? jW with
   |some r=>
    rw[ef] at q;exact λMG H9 s9 e=>q MG H9 (λb o h1 h2 eb=>s9 _ _ (hk8 b o h1 h2 eb)) (Qv.same s9) e
   |none=>
    rw[ef,ig] at q;intro H9 s9;refine⟨_,Z,p,A.aZ,dx,_,_,Z,s9 _ _ Lh,T.jz,T.iM,Z,.ref tb,true,nE s,Z,(td8.kt (KT.same s9)).dat,zo,by lia,by lia,?_⟩
    have er:yY (nE s)=yY s:=by
     unfold yY;rw[e3,e4]
    rw[er]
    cases eu:yY s with
    |some r=>
     rw[eu] at q;exact λMG VS X9 e=>q MG VS (λb o h1 h2 eb=>X9 _ _ (s9 _ _ (hk8 b o h1 h2 eb))) (Qv.same (s9.trans X9)) e
    |none=>
     rw[eu] at q;intro VS X9;have Fz:=s9.trans X9
     have adT:H tb=none:=by
      cases eb:H tb with
      |none=>rfl
      |some o=>
       by_cases h2:tb=A.ay
       .obtain⟨ps3,Pa,_⟩:=KD;rw[<-h2,Kx] at Pa;cases Pa
       .rw[k3 _ _ h2 (w_ _ _ eb)] at Kx;cases Kx
     have adY:H ls=none:=by
      cases eb:H ls with
      |none=>rfl
      |some o=>
       by_cases h2:ls=A.ay
       .obtain⟨ps3,Pa,_⟩:=Wa;have:=s6 _ _ Pa;rw[<-h2,hls] at this;cases this
       .have:=s6 _ _ (hk5 _ _ nlp h2 eb);rw[hls] at this;cases this
     refine q tb ls VS adT adY (λb o h1 h2 eb=>Fz _ _ (hk8 b o h1 h2 eb)) (Qv.same Fz) ⟨⟨dx,Fz _ _ Lh⟩,td8.kt (KT.same Fz),zs,Fz _ _ Z1,?_,λi v ev=> ?_⟩
     .rw[R8.len,An,a6]
     .obtain⟨r,Zf,t',x,u',rfl,f1,f2,f3⟩:=R8.at_ i v ev;rw[An,bX] at Zf
      cases eg:(pI s ["ground"])[i]? with
      |none=>rw[eg] at Zf;cases Zf
      |some r' =>
       rw[eg] at Zf;cases Zf;exact⟨r',Z,t',x,u',Z,Fz _ _ f1,((abi r'.1 (xo s _ ok r' (bD eg)) f2).kt (KT.same s58)).kt (KT.same Fz),Fz _ _ f3⟩
 .obtain⟨p,dx,v,rfl,_⟩:=h;rfl
theorem PK{A B:Prop}{x:V}(h:B):if(!decide (x=x))=true then A else B:=by
 rw[aS Z];exact bo h
theorem mh(T:Txt K mg A):aT P w K mg base dQ 1 A.s_ A.tI ["_law_thing"] Ni:=by
 refine T.jL.F.vc AA ?_
 rintro cB Ar outer s H vs Q E hr ⟨v,rfl,p,k⟩
 refine⟨_,(aq (aH (gT (iW cC T.bM Boot.«isinstance» (ag (pv 0) (aM (eE (v:= .ty "int") Z T.CC Boot.«int» rfl)))) (fU (IC (iW cC T.bM Boot.«isinstance» (ag (pv 0) (aM (eE (v:= .ty "bool") Z T.HW Boot.«bool» rfl))))))))),?_⟩
 cases p with
 |bp=>exact⟨_,Z,_,_,_,_,Z,.bp,Z,_,Z,bo k⟩
 |bl b=>exact⟨_,Z,_,_,_,_,Z,.bl b,Z,_,Z,a9 ⟨_,Z,_,_,_,_,Z,.bl b,Z,_,Z,k⟩⟩
 |int i=>exact⟨_,Z,_,_,_,_,Z,.int i,Z,_,Z,a9 ⟨_,Z,_,_,_,_,Z,.int i,Z,_,Z,k⟩⟩
 |str x=>exact⟨_,Z,_,_,_,_,Z,.str x,Z,_,Z,bo k⟩
 |lst e=>exact⟨_,Z,_,_,_,_,Z,.lst e,Z,_,Z,bo k⟩
 |tup e=>exact⟨_,Z,_,_,_,_,Z,.tup e,Z,_,Z,bo k⟩
 |dK e=>exact⟨_,Z,_,_,_,_,Z,.dK e,Z,_,Z,bo k⟩
theorem gZ(T:Txt K mg A):aT P w K mg base dQ 1 A.va A.vv ["_law_thing","_law_low","_law_high"] GN:=by
 refine T.gG.F.vc Cb ?_
 rintro cB Ar outer s H vs Q E hr ⟨v,lo,hi,rfl,p,k⟩
 refine⟨_,(aq (aH (gT (iW cC T.bM Boot.«isinstance» (ag (pv 0) (aM (eE (v:= .ty "int") Z T.CC Boot.«int» rfl)))) (gT (IC (iW cC T.bM Boot.«isinstance» (ag (pv 0) (aM (eE (v:= .ty "bool") Z T.HW Boot.«bool» rfl))))) (fU (By yy yy (pv 1) (pv 0) (pv 2))))))),?_⟩
 cases p with
 |bp=>exact⟨_,Z,_,_,_,_,Z,.bp,Z,_,Z,bo k⟩
 |bl b=>exact⟨_,Z,_,_,_,_,Z,.bl b,Z,_,Z,a9 ⟨_,Z,_,_,_,_,Z,.bl b,Z,_,Z,_,Z,bo k⟩⟩
 |int i=>
  have k:Q (.bl (decide (lo<=i)&&decide (i<=hi))) H:=k;refine⟨_,Z,_,_,_,_,Z,.int i,Z,_,Z,a9 ⟨_,Z,_,_,_,_,Z,.int i,Z,_,Z,_,Z,a9 ⟨_,Z,_,Z,lo,i,Z,Z,_,Z,?_⟩⟩⟩;by_cases h1:lo<=i
  .rw[aS h1] at k ⊢;exact a9 ⟨_,Z,i,hi,Z,Z,by simpa using k⟩
  .rw[ba h1] at k ⊢;exact bo (by simpa using k)
 |str x=>exact⟨_,Z,_,_,_,_,Z,.str x,Z,_,Z,bo k⟩
 |lst e=>exact⟨_,Z,_,_,_,_,Z,.lst e,Z,_,Z,bo k⟩
 |tup e=>exact⟨_,Z,_,_,_,_,Z,.tup e,Z,_,Z,bo k⟩
 |dK e=>exact⟨_,Z,_,_,_,_,Z,.dK e,Z,_,Z,bo k⟩
def Qo:Sp:=λvs H Q _=>∃v,vs=[v]/\Th H v/\∀H',ah H H'->Q (.bl (uJ H v)) H'
theorem ia(T:Txt K mg A):aT P w K mg base dQ 1 A.qV A.qr ["_law_thing"] Qo:=by
 refine T.gu.F.vc y9 ?_
 rintro cB Ar outer s H vs Q E hr ⟨v,rfl,th,k⟩
 refine⟨_,(aq (aH (iW wa T.bM Boot.«isinstance» (ag (pv 0) (aM (bt (ag (eE (v:= .ty "list") Z T.AG Boot.«list» rfl) (aM (eE (v:= .ty "tuple") Z T.iX Boot.«tuple» rfl))))))))),?_⟩;refine⟨_,Z,gY,λp hp=> ?_⟩;have s1:=ah.upd (o:= .tup [V.ty "list",V.ty "tuple"]) hp;refine⟨v,p,Z,th.same s1,af,?_⟩;rw[i4 th s1];exact k _ s1
theorem fK(T:Txt K mg A):aT P w K mg base dQ 1 A.pZ A.yF ["_law_thing"] Jr:=by
 refine T.fD.F.vc ER ?_
 rintro cB Ar outer s H vs Q E hr ⟨v,rfl,th,sh,k⟩
 have Hf:(Ar.deeper (envOfC "_law_name" (av rB) s.heap.objs.size A.pZ cB)).units<cLine:=by
  have:=hr.un
  lia
 refine⟨_,(aj (bU (PW.pt (WF (iy (gm (iW cC T.bM Boot.«isinstance» (ag (pv 0) (aM (eE (v:= .ty "str") Z T.Ku Boot.«str» rfl)))))) (WP (iy (Nb yy yy ae (iW oS T.g7 Boot.«len» (aM (pv 0))) ae))))) (aq (aH kz)) bf) (aq (aH (H_ (oN Hf) (KR ["_law_sign"] 1 [] (Nh (pv 0) Z) (λ_ _ _ _ _=>⟨(jk 0 (show(["_law_sign"]:au).Nodup by decide+kernel)),(Lq (wn E4 (pv 0) ai)),(pv 0)⟩)) (bH dY))))),?_⟩;have k0:=k H (ah.refl H)
 cases th with
 |bp=>exact⟨_,Z,_,_,_,_,Z,.bp,Z,_,Z,a9 k0⟩
 |bl b=>exact⟨_,Z,_,_,_,_,Z,.bl b,Z,_,Z,a9 k0⟩
 |int i=>exact⟨_,Z,_,_,_,_,Z,.int i,Z,_,Z,a9 k0⟩
 |lst e=>exact⟨_,Z,_,_,_,_,Z,.lst e,Z,_,Z,a9 k0⟩
 |tup e=>exact⟨_,Z,_,_,_,_,Z,.tup e,Z,_,Z,a9 k0⟩
 |dK e=>exact⟨_,Z,_,_,_,_,Z,.dK e,Z,_,Z,a9 k0⟩
 |str x=>
  have hl:x.length<=100000:=sh;have hL:sizeLine=16777216:=rfl;have kn:∀H',ah H H'->Q (.bl (cv x)) H' :=k;unfold cv at kn;refine⟨_,Z,_,_,_,_,Z,.str x,Z,_,Z,bo ?_⟩;refine⟨_,Z,x,Z,by lia,1,x.length,Z,Z,_,Z,?_⟩;by_cases h1:1<=x.length
  .rw[aS h1,kH] at kn;rw[aS (show(1:Int)<=(x.length:Int) by lia)];refine a9 ⟨x.length,6,Z,Z,_,Z,?_⟩;by_cases h6:x.length<=6
   .rw[aS h6,kH] at kn;rw[aS (show(x.length:Int)<=6 by lia)];refine bo ⟨_,Z,x,Z,?_⟩;refine rW (λv=>match v with| .str z=> !dC (z.cps.getD 0 0)|_=>true) (λv=>v) (Dz x H) ?_ ?_ λp hp=> ?_
    .simp;exact aU h6 (by decide)
    .intro i y H' C1 C0 hy sm c1 c0;rw[bX] at hy
     cases ec:x.cps.toList[i]? with
     |none=>rw[ec] at hy;cases hy
     |some c=>
      rw[ec] at hy;cases hy;refine⟨(gJ.refl _).own (by decide),⟨_,Z,_,_,Z,Z,_,Z,?_⟩⟩;rw[Dk]
      cases hb:dC c with
      |true=>exact bo (c0 (by show(!dC c)=false;rw[hb];rfl))
      |false=>exact a9 ⟨_,Z,c1 (by show(!dC c)=true;rw[hb];rfl)⟩
    .refine⟨m7,λe he=>zS (ah.upd he _ _ af) af ?_⟩
     have:(((x.cps.toList.map λc=>V.str ⟨#[c]⟩).filter λv=>match v with| .str z=> !dC (z.cps.getD 0 0)|_=>true).map λv=>v).isEmpty=x.cps.toList.all dC:=by
      rw[List.map_id'];generalize x.cps.toList=l
      induction l with
      |nil=>rfl
      |cons c r ih=>
       rw[cP,List.filter_cons,fk]
       cases hb:dC c with
       |true=>rw[kH,<-ih,ax (by show ¬(!dC c)=true;rw[hb];decide)]
       |false=>rw[ni,aB (by show(!dC c)=true;rw[hb];rfl)];rfl
     rw[this];exact kn _ ((ah.upd hp).trans (ah.upd he))
   .rw[ba h6,ni] at kn;rw[ba (show ¬(x.length:Int)<=6 by lia)];exact a9 (kn H (ah.refl H))
  .rw[ba h1,ni,ni] at kn;rw[ba (show ¬(1:Int)<=(x.length:Int) by lia)];exact bo ⟨_,Z,a9 (kn H (ah.refl H))⟩
noncomputable def Pz(H:Hp)(xs:ak):Bool:=we (xs.getD 0 .bp)&& !L4 (xs.getD 0 .bp)&&uJ H (xs.getLastD .bp)
def Wl:Sp:=λvs H Q _=>∃a x xs,vs=[.ref a]/\H a=some (.tup (x::xs))/\(∀y∈x::xs,Th H y/\Sh y)/\∀H',ah H H'->Q (.bl (Pz H (x::xs))) H'
theorem nZ(T:Txt K mg A):aT P w K mg base dQ 2 A.pq A.pd ["_law_parts"] Wl:=by
 refine T.kg.F.vc wY ?_
 rintro cB Ar outer s H vs Q E hr ⟨a,x,xs,rfl,ha,hx,k⟩
 refine⟨_,(aq (aH (gT (cI (fK T) hr T.fD aC (aM (cS aN (pv 0) ae))) (gT (H_ pR (cS aN (pv 0) ae) ai) (fU (cI (ia T) hr T.gu aC (aM (cS aN (pv 0) (NG Jf ae))))))))),?_⟩;obtain⟨th,sh⟩:=hx x c5;refine⟨_,Z,a,_,0,_,Z,Z,bc.of ha,gU _ _,x,Z,th,sh,λH1 s1=>⟨_,Z,?_⟩⟩;unfold Pz at k;rw[show(x::xs).getD 0 .bp=x from Z] at k
 cases hn:we x with
 |false=>
  rw[hn] at k;exact bo (k H1 s1)
 |true=>
  obtain⟨z,rfl⟩:∃z,x= .str z:=by cases x<;>first|exact⟨_,rfl⟩|cases hn
  rw[hn,kH] at k;refine a9 ⟨_,Z,a,_,0,_,Z,Z,bc.of (s1 _ _ ha),gU _ _,Z,_,Z,?_⟩;by_cases hg:z="ground"
  .subst hg;rw[show L4 (.str "ground")=true by decide+kernel] at k;exact PK (k H1 s1)
  .rw[show L4 (.str z)=false from ba hg] at k;rw[ba (dZ hg)];obtain⟨ys,y,ey⟩:∃ys y,V.str z::xs=ys++[y]:=⟨_,_,(List.dropLast_concat_getLast (List.cons_ne_nil _ _)).symm⟩;have hm:y∈V.str z::xs:=by rw[ey];simp
   obtain⟨wV,He⟩:=hx y hm;have el:(V.str z::xs).getLastD .bp=y:=by rw[ey];simp
   rw[el] at k;have ha1:=s1 _ _ ha;rw[ey] at ha1;refine a9 ⟨_,Z,_,Z,a,_, -1,_,Z,Z,bc.of ha1,MC _ _,y,Z,wV.same s1,λH2 s2=> ?_⟩;rw[i4 wV s1];exact k H2 (s1.trans s2)
noncomputable def OR:eJ:=[(.inr "make",.int 4),(.inr "put",.int 4),(.inr "get",.int 4),(.inr "set",.int 3),(.inr "copy",.int 3),(.inr "more",.int 4),(.inr "tell",.int 2),(.inr "same",.int 3),(.inr "frame",.int 3)]
noncomputable def L7:eJ:=[(.inr "either",.int 3),(.inr "turns",.int 5)]
theorem vx{l:eJ}{w:Str}(h:∀p∈l,p.1≠.inr w):eV l (.inr w)=none:=by
 unfold eV;rw[List.find?_eq_none.mpr]
 .rfl
 .intro x hx;simpa using h x hx
theorem YH(w:Str):((eV L7 (.inr w)).getD ((eV OR (.inr w)).getD (.int 0)))= .int (match bg.lookup w with|some ks=>((1+ks.length:Nat):Int)|none=>0):=by
 cases hf:bg.lookup w with
 |some ks=>
  have mem:(w,ks)∈bg:=gA hf;exact bE (a7.mp (show(bg.all λp=>decide (((eV L7 (.inr p.1)).getD ((eV OR (.inr p.1)).getD (.int 0)))= .int ((1+p.2.length:Nat):Int)))=true by decide+kernel) _ mem)
 |none=>
  have no:∀x:Str,(bg.map (·.1)).contains x=true->x≠w:=λx hx z=>by
   subst z;obtain⟨p,hp,rfl⟩:=jC.mp (List.contains_iff_mem.mp hx);have:=List.lookup_eq_none_iff.mp hf p hp;simp at this
  rw[vx (l:=L7),vx (l:=OR)]
  .rfl
  .intro p hp z;have:=a7.mp (show(OR.all λp=>match p.1 with| .inr x=>(bg.map (·.1)).contains x|_=>false)=true by decide+kernel) p hp;rw[z] at this;exact no w this rfl
  .intro p hp z;have:=a7.mp (show(L7.all λp=>match p.1 with| .inr x=>(bg.map (·.1)).contains x|_=>false)=true by decide+kernel) p hp;rw[z] at this;exact no w this rfl
theorem Z7{l:ak}(h:l.length=1):∃a,l=[a]:=bn1 (P:=λl=>∃a,l=[a]) (λa=>⟨a,Z⟩) l h
theorem Cd{l:ak}(h:l.length=2):∃a b,l=[a,b]:=Yg (P:=λl=>∃a b,l=[a,b]) (λa b=>⟨a,b,Z⟩) l h
theorem GC{l:ak}(h:l.length=3):∃a b c,l=[a,b,c]:=Yn (P:=λl=>∃a b c,l=[a,b,c]) (λa b c=>⟨a,b,c,Z⟩) l h
theorem aaK{l:ak}(h:l.length=4):∃a b c d,l=[a,b,c,d]:=bn4 (P:=λl=>∃a b c d,l=[a,b,c,d]) (λa b c d=>⟨a,b,c,d,Z⟩) l h
theorem kO(H:Hp)(v:V):cX H "name" v=we v:=aB rfl
theorem Af(H:Hp)(v:V):cX H "label" v=(we v&& !L4 v):=by unfold cX;rw[ax (by decide+kernel),aB Z]
theorem Jv(H:Hp)(v:V):cX H "mark" v=(decide (v= .bp)||we v):=by unfold cX;rw[ax (by decide+kernel),ax (by decide+kernel),aB Z]
theorem GW(H:Hp)(v:V):cX H "value" v=(decide (v= .bp)||BH v):=by unfold cX;rw[ax (by decide+kernel),ax (by decide+kernel),ax (by decide+kernel),aB Z]
theorem DA(H:Hp)(v:V):cX H "number" v=BH v:=by unfold cX;rw[ax (by decide+kernel),ax (by decide+kernel),ax (by decide+kernel),ax (by decide+kernel),aB Z]
theorem zK(H:Hp)(v:V):cX H "body" v=uJ H v:=by unfold cX;rw[ax (by decide+kernel),ax (by decide+kernel),ax (by decide+kernel),ax (by decide+kernel),ax (by decide+kernel),aB Z]
theorem EF{k:Str}{lo hi:Int}(h:(oj.take 6).contains k=false)(e:xc.lookup k=some (lo,hi))(H:Hp)(v:V):cX H k v=LU lo hi v:=by
 have n:∀y∈oj.take 6,k≠y:=λy hy z=>by
  rw[<-z] at hy;rw[List.contains_iff_mem.mpr hy] at h;cases h
 unfold cX;rw[ax (n _ (by decide+kernel)),ax (n _ (by decide+kernel)),ax (n _ (by decide+kernel)),ax (n _ (by decide+kernel)),ax (n _ (by decide+kernel)),ax (n _ (by decide+kernel)),e]
theorem JL(H:Hp)(v:V):cX H "size" v=LU 1 6 v:=EF (by decide+kernel) (by decide+kernel) H v
theorem E2(H:Hp)(v:V):cX H "cell" v=LU 0 5 v:=EF (by decide+kernel) (by decide+kernel) H v
theorem JB(H:Hp)(v:V):cX H "many" v=LU 1 3 v:=EF (by decide+kernel) (by decide+kernel) H v
theorem Gq(H:Hp)(v:V):cX H "times" v=LU 0 4 v:=EF (by decide+kernel) (by decide+kernel) H v
theorem yU(T:Txt K mg A):aT P w K mg base dQ 3 A.i6 A.qq ["_law_thing"] Kt:=by
 refine T.p5.F.okN kf ?_
 rintro cB Ar outer s H vs Q E hr ⟨v,rfl,tg,q⟩
 have hu:(Ar.deeper (envOfC "_law_is_deed" (av iN) s.heap.objs.size A.i6 cB)).units+1<cLine:=by
  have:=hr.un
  lia
 have Hf:(Ar.deeper (envOfC "_law_is_deed" (av iN) s.heap.objs.size A.i6 cB)).units<cLine:=by
  have:=hr.un
  lia
 refine⟨_,(aD (bN (i:=1) kf.nd Z (Or.inl Z) (MF (iL ⟨ai⟩ ⟨ae⟩ (iL ⟨ai⟩ ⟨ae⟩ (iL ⟨ai⟩ ⟨ae⟩ (iL ⟨ai⟩ ⟨ae⟩ (iL ⟨ai⟩ ⟨ae⟩ (iL ⟨ai⟩ ⟨ae⟩ (iL ⟨ai⟩ ⟨ae⟩ (iL ⟨ai⟩ ⟨ae⟩ (iL ⟨ai⟩ ⟨ae⟩ PR))))))))) Z Z (by simp) (by decide)) (by kernel_rfl) (Or.inl Z)) (aD (eO (PW.pt (WF (iy (gm (iW cC T.bM Boot.«isinstance» (ag (pv 0) (aM (eE (v:= .ty "tuple") Z T.iX Boot.«tuple» rfl)))))) (WF (wn (LS Hf) (pv 0) (bt dY)) (WP (iy (gm (iW cC T.bM Boot.«isinstance» (ag (cS aN (pv 0) ae) (aM (eE (v:= .ty "str") Z T.Ku Boot.«str» rfl)))))))))) (bC ⟨(aH kz)⟩) cg) (aD ⟨(IQ (i:=2) (j:=3) Z kf.nd Z Z (by decide) Z Z (ag (cS aN (pv 0) ae) (aM (dH iu (pv 0) (bQ ae) bZ))) (by rfl))⟩ (aD (eO (wn pR (vS hu (vQ (g9 ai ae (g9 ai ae vJ)) Z Z (by simp) (by decide)) (pv 2) (vS hu (pv 1) (pv 2) ae ⟨Z,Z,Z,Z⟩) ⟨Z,Z,Z,Z⟩) (iW br T.g7 Boot.«len» (aM (pv 0)))) (bC ⟨(aH kz)⟩) cg) (aD (eO (wn cK (pv 2) ai) (bC ⟨(aH (gT (cI (ia T) hr T.gu aC (aM (cS aN (pv 3) ae))) (fU (cI (ia T) hr T.gu aC (aM (cS aN (pv 3) ae))))))⟩) cg) (aD (eO (wn cK (pv 2) ai) (bC ⟨(aH (cI (nZ T) hr T.kg aC (aM (pv 3))))⟩) cg) (aD (eO (wn cK (pv 2) ai) (bC ⟨(aH (gT (cI (nZ T) hr T.kg aC (aM (pv 3))) (gT (cI (gZ T) hr T.gG aC (ag (cS aN (pv 3) ae) (ag ae (aM ae)))) (fU (cI (gZ T) hr T.gG aC (ag (cS aN (pv 3) ae) (ag ae (aM ae))))))))⟩) cg) (aD (eO (iy (gm (cI (fK T) hr T.fD aC (aM (cS aN (pv 3) ae))))) (bC ⟨(aH kz)⟩) cg) (aD (eO (wn cK (pv 2) ai) (bC ⟨(aH (gT (cI (gZ T) hr T.gG aC (ag (cS aN (pv 3) ae) (ag ae (aM ae)))) (fU (F7 (H_ A0 (cS aN (pv 3) ae) d_) (fU (cI (fK T) hr T.fD aC (aM (cS aN (pv 3) ae))))))))⟩) cg) (aD (eO (wn cK (pv 2) ai) (bC ⟨(aH (gT (cI (gZ T) hr T.gG aC (ag (cS aN (pv 3) ae) (ag ae (aM ae)))) (fU (cI (fK T) hr T.fD aC (aM (cS aN (pv 3) ae))))))⟩) cg) (aD (eO (wn cK (pv 2) ai) (bC ⟨(aH (gT (cI (fK T) hr T.fD aC (aM (cS aN (pv 3) ae))) (fU (cI (gZ T) hr T.gG aC (ag (cS aN (pv 3) ae) (ag ae (aM ae)))))))⟩) cg) (aD (eO (wn cK (pv 2) ai) (bC ⟨(aH (F7 (H_ A0 (cS aN (pv 3) ae) d_) (fU (cI (mh T) hr T.jL aC (aM (cS aN (pv 3) ae))))))⟩) cg) (aD (eO (wn cK (pv 2) ai) (bC ⟨(aH (gT (cI (fK T) hr T.fD aC (aM (cS aN (pv 3) ae))) (fU (cI (mh T) hr T.jL aC (aM (cS aN (pv 3) ae))))))⟩) cg) (bC ⟨(aH (F7 (H_ cK (pv 2) ai) (fU (cI (fK T) hr T.fD aC (aM (cS aN (pv 3) ae))))))⟩)))))))))))))),?_⟩;refine λp hp=>⟨af,OR,Z,(by decide),?_⟩;rw[show oZ [] OR=OR by with_unfolding_all rfl];have s1:ah H (upd (upd H p (.dK [])) p (.dK OR)):=fh hp (ah.upd hp);have JZ:upd (upd H p (.dK [])) p (.dK OR) p=some (.dK OR):=af;generalize upd (upd H p (.dK [])) p (.dK OR)=H1 at s1 JZ ⊢;have q1:=q H1 s1;obtain⟨th,sh,tat⟩:=tg
 cases th with
 |bp=>exact⟨_,Z,_,_,_,_,Z,.bp,Z,_,Z,a9 q1⟩
 |bl b=>exact⟨_,Z,_,_,_,_,Z,.bl b,Z,_,Z,a9 q1⟩
 |int i=>exact⟨_,Z,_,_,_,_,Z,.int i,Z,_,Z,a9 q1⟩
 |str x=>exact⟨_,Z,_,_,_,_,Z,.str x,Z,_,Z,a9 q1⟩
 |lst e=>
  rw[show cf H _=false by simp[cf,e]] at q1;exact⟨_,Z,_,_,_,_,Z,.lst (s1 _ _ e),Z,_,Z,a9 q1⟩
 |dK e=>
  rw[show cf H _=false by simp[cf,e]] at q1;exact⟨_,Z,_,_,_,_,Z,.dK (s1 _ _ e),Z,_,Z,a9 q1⟩
 | @tup a xs e=>
  obtain⟨hl,hx⟩:=tat a xs Z e;have dv:cf H (.ref a)=HH H xs:=by simp[cf,e]
  rw[dv] at q;refine⟨_,Z,_,_,_,_,Z,.tup (s1 _ _ e),Z,_,Z,bo ⟨_,Z,m7,λe0 he0=> ?_⟩⟩;have u2:=ah.upd (o:= .tup []) he0;have s2:=s1.trans u2;have Di:=u2 _ _ JZ;refine⟨a,e0,xs,Z,Z,s2 _ _ e,af,_,Z,?_⟩;generalize upd H1 e0 (.tup [])=H2 at u2 s2 Di ⊢
  cases xs with
  |nil=>exact a9 (q H2 s2)
  |cons x ys=>
  have e2:=s2 _ _ e;obtain⟨thx,shx⟩:=hx x c5;by_cases hs:∃w,x= .str w
  rotate_left
  .have q0:Q (.bl false) H2:=by
    have:=q H2 s2;cases x<;>first|exact this|exact absurd ⟨_,rfl⟩ hs
   cases thx with
   |bp=>exact bo ⟨_,Z,a,_,0,_,Z,Z,bc.of e2,gU _ _,_,_,_,_,Z,.bp,Z,_,Z,a9 q0⟩
   |bl b=>exact bo ⟨_,Z,a,_,0,_,Z,Z,bc.of e2,gU _ _,_,_,_,_,Z,.bl b,Z,_,Z,a9 q0⟩
   |int i=>exact bo ⟨_,Z,a,_,0,_,Z,Z,bc.of e2,gU _ _,_,_,_,_,Z,.int i,Z,_,Z,a9 q0⟩
   |str z=>exact absurd ⟨_,Z⟩ hs
   |lst e1=>exact bo ⟨_,Z,a,_,0,_,Z,Z,bc.of e2,gU _ _,_,_,_,_,Z,.lst (s2 _ _ e1),Z,_,Z,a9 q0⟩
   |tup e1=>exact bo ⟨_,Z,a,_,0,_,Z,Z,bc.of e2,gU _ _,_,_,_,_,Z,.tup (s2 _ _ e1),Z,_,Z,a9 q0⟩
   |dK e1=>exact bo ⟨_,Z,a,_,0,_,Z,Z,bc.of e2,gU _ _,_,_,_,_,Z,.dK (s2 _ _ e1),Z,_,Z,a9 q0⟩
  obtain⟨w,rfl⟩:=hs;refine bo ⟨_,Z,a,_,0,_,Z,Z,bc.of e2,gU _ _,_,_,_,_,Z,.str w,Z,_,Z,bo ?_⟩;refine⟨_,Z,a,_,0,_,Z,Z,bc.of e2,gU _ _,_,Z,1,Z,a,_,Z,bc.of e2,?_⟩;refine⟨jm (k:=1) (by decide) _,λtp Rb=>⟨_,_,Z,?_⟩⟩;rw[aah];have u3:=ah.upd (o:= .tup ys) Rb;have s3:=s2.trans u3;have BN:=u3 _ _ Di;have Sy:upd H2 tp (.tup ys) tp=some (.tup ys):=af;generalize upd H2 tp (.tup ys)=H3 at u3 s3 BN Sy ⊢;intro p4 Hd;have u4:ah H3 (upd (upd H3 p4 (.dK [])) p4 (.dK L7)):=fh Hd (ah.upd Hd);refine⟨af,L7,Z,(by decide),?_⟩;rw[show oZ [] L7=L7 by with_unfolding_all rfl];have s4:=s3.trans u4;have WY :=u4 _ _ BN;have BP:=u4 _ _ Sy;have e4:upd (upd H3 p4 (.dK [])) p4 (.dK L7) p4=some (.dK L7):=af;generalize upd (upd H3 p4 (.dK [])) p4 (.dK L7)=H4 at u4 s4 WY BP e4 ⊢;refine⟨p4,Z,.inl ⟨_,.inl e4⟩,_,Z,_,Z,p,Z,.inl ⟨_,.inl WY⟩,_,Z,_,GV.k (k:= .inr w) WY,_,GV.k (k:= .inr w) e4,_,Z,a,_,Z,.inr (bc.of (s4 _ _ e)),?_⟩;rw[YH w];refine⟨Z,_,Z,?_⟩
  have q:∀H',ah H H'->Q (.bl (match bg.lookup w with
   |some ks=>decide (ys.length=ks.length)&&(List.zipWith (cX H) ks ys).all id
   |none=>false)) H' :=q
  cases hf:bg.lookup w with
  |none=>
   rw[hf] at q;rw[ba (λz=>by have:(0:Int)=((V.str w::ys).length:Int):=V.int.inj z;rw[bB] at this;lia)];exact a9 (q H4 s4)
  |some ks=>
  rw[hf] at q;have q:∀H',ah H H'->Q (.bl (decide (ys.length=ks.length)&&(List.zipWith (cX H) ks ys).all id)) H' :=q;show if(!decide (V.int ((1+ks.length:Nat):Int)=V.int ((V.str w::ys).length:Int)))=true then _ else _
  by_cases hn:ys.length=ks.length
  rotate_left
  .rw[ba hn,ni] at q;rw[ba (λz=>hn (by have:=V.int.inj z;rw[bB] at this;lia))];exact a9 (q H4 s4)
  rw[aS hn,kH] at q;rw[aS (show V.int ((1+ks.length:Nat):Int)=V.int ((V.str w::ys).length:Int) by rw[bB,hn];congr 1;lia)];refine bo ?_;have mem:(w,ks)∈bg:=gA hf;have hy:∀y∈ys,Th H y/\Sh y:=λy hy=>hx y (cw _ hy);clear hf hx hl dv;simp only[bg,aP,cO,cN,zW] at mem;rcases mem with⟨rfl,rfl⟩|⟨rfl,rfl⟩|⟨rfl,rfl⟩|⟨rfl,rfl⟩|⟨rfl,rfl⟩|⟨rfl,rfl⟩|⟨rfl,rfl⟩|⟨rfl,rfl⟩|⟨rfl,rfl⟩|⟨rfl,rfl⟩|⟨rfl,rfl⟩
  .-- make
   obtain⟨y1,y2,y3,rfl⟩:∃y1 y2 y3,ys=[y1,y2,y3]:=GC hn;simp only[iE,lS,lQ,fk,iH,lL,id,Jv,kO,JL] at q;obtain⟨CZ,Fq⟩:=hy y1 (by simp);obtain⟨wV,He⟩:=hy y2 (by simp);obtain⟨QP,Yx⟩:=hy y3 (by simp);refine⟨_,Z,Z,_,Z,dG (by decide+kernel) ⟨_,Z,Z,_,Z,dG (by decide+kernel) ⟨_,Z,Z,_,Z,dG (by decide+kernel) ⟨_,Z,tp,_,0,_,Z,Z,bc.of BP,gU _ _,y1,Z,CZ.same s4,Fq,λH5 s5=>⟨_,Z,?_⟩⟩⟩⟩⟩;have S5:=s4.trans s5;have A2:=s5 _ _ BP
   cases h1:we y1 with
   |false=>exact a9 (show Q (.bl false) H5 by simpa[h1] using q H5 S5)
   |true=>
    refine bo ?_;refine⟨_,Z,Z,_,Z,XV ⟨_,Z,tp,_,1,_,Z,Z,bc.of A2,bb (j:=1) Z,y2,1,6,Z,wV.same S5,_,Z,?_⟩⟩
    cases h2:LU 1 6 y2 with
    |false=>exact bo (by simpa[h1,h2] using q H5 S5)
    |true=>
     refine a9 ⟨_,Z,tp,_,2,_,Z,Z,bc.of A2,bb (j:=2) Z,Z,_,Z,?_⟩;by_cases h3:y3= .bp
     .subst h3;exact XV (by simpa[h1,h2] using q H5 S5)
     .exact dG h3 ⟨_,Z,tp,_,2,_,Z,Z,bc.of A2,bb (j:=2) Z,y3,Z,QP.same S5,Yx,λH6 s6=>by simpa[h1,h2,h3] using q H6 (S5.trans s6)⟩
  .-- put
   obtain⟨y1,y2,y3,rfl⟩:∃y1 y2 y3,ys=[y1,y2,y3]:=GC hn;simp only[iE,lS,lQ,fk,iH,lL,id,E2,kO] at q;obtain⟨CZ,Fq⟩:=hy y1 (by simp);obtain⟨wV,He⟩:=hy y2 (by simp);obtain⟨QP,Yx⟩:=hy y3 (by simp);refine⟨_,Z,Z,_,Z,dG (by decide+kernel) ⟨_,Z,Z,_,Z,dG (by decide+kernel) ⟨_,Z,Z,_,Z,dG (by decide+kernel) ⟨_,Z,tp,_,0,_,Z,Z,bc.of BP,gU _ _,y1,Z,CZ.same s4,Fq,λH5 s5=>⟨_,Z,?_⟩⟩⟩⟩⟩;have S5:=s4.trans s5;have A2:=s5 _ _ BP
   cases h1:we y1 with
   |false=>exact a9 (show Q (.bl false) H5 by simpa[h1] using q H5 S5)
   |true=>
    refine bo ?_;refine⟨_,Z,Z,_,Z,dG (by decide+kernel) ⟨_,Z,Z,_,Z,XV ⟨_,Z,tp,_,1,_,Z,Z,bc.of A2,bb (j:=1) Z,y2,0,5,Z,wV.same S5,_,Z,?_⟩⟩⟩
    cases h2:LU 0 5 y2 with
    |false=>exact bo (by simpa[h1,h2] using q H5 S5)
    |true=>exact a9 ⟨_,Z,tp,_,2,_,Z,Z,bc.of A2,bb (j:=2) Z,y3,Z,QP.same S5,Yx,λH6 s6=>by simpa[h1,h2] using q H6 (S5.trans s6)⟩
  .-- get
   obtain⟨y1,y2,y3,rfl⟩:∃y1 y2 y3,ys=[y1,y2,y3]:=GC hn;simp only[iE,lS,lQ,fk,iH,lL,id,E2,kO] at q;obtain⟨CZ,Fq⟩:=hy y1 (by simp);obtain⟨wV,He⟩:=hy y2 (by simp);obtain⟨QP,Yx⟩:=hy y3 (by simp);refine⟨_,Z,Z,_,Z,dG (by decide+kernel) ⟨_,Z,Z,_,Z,dG (by decide+kernel) ⟨_,Z,Z,_,Z,dG (by decide+kernel) ⟨_,Z,tp,_,0,_,Z,Z,bc.of BP,gU _ _,y1,Z,CZ.same s4,Fq,λH5 s5=>⟨_,Z,?_⟩⟩⟩⟩⟩;have S5:=s4.trans s5;have A2:=s5 _ _ BP
   cases h1:we y1 with
   |false=>exact a9 (show Q (.bl false) H5 by simpa[h1] using q H5 S5)
   |true=>
    refine bo ?_;refine⟨_,Z,Z,_,Z,dG (by decide+kernel) ⟨_,Z,Z,_,Z,dG (by decide+kernel) ⟨_,Z,Z,_,Z,XV ⟨_,Z,tp,_,1,_,Z,Z,bc.of A2,bb (j:=1) Z,y2,Z,wV.same S5,He,λH6 s6=>⟨_,Z,?_⟩⟩⟩⟩⟩;have S6:=S5.trans s6
    cases h2:we y2 with
    |false=>exact bo (by simpa[h1,h2] using q H6 S6)
    |true=>exact a9 ⟨_,Z,tp,_,2,_,Z,Z,bc.of (s6 _ _ A2),bb (j:=2) Z,y3,0,5,Z,QP.same S6,by simpa[h1,h2] using q H6 S6⟩
  .-- set
   obtain⟨y1,y2,rfl⟩:∃y1 y2,ys=[y1,y2]:=Cd hn;simp only[iE,lS,lQ,fk,iH,lL,id,kO,GW] at q;obtain⟨CZ,Fq⟩:=hy y1 (by simp);obtain⟨wV,He⟩:=hy y2 (by simp);refine⟨_,Z,Z,_,Z,dG (by decide+kernel) ⟨_,Z,Z,_,Z,dG (by decide+kernel) ⟨_,Z,Z,_,Z,dG (by decide+kernel) ⟨_,Z,tp,_,0,_,Z,Z,bc.of BP,gU _ _,y1,Z,CZ.same s4,Fq,λH5 s5=>⟨_,Z,?_⟩⟩⟩⟩⟩;have S5:=s4.trans s5;have A2:=s5 _ _ BP
   cases h1:we y1 with
   |false=>exact a9 (show Q (.bl false) H5 by simpa[h1] using q H5 S5)
   |true=>
    refine bo ?_;refine⟨_,Z,Z,_,Z,dG (by decide+kernel) ⟨_,Z,Z,_,Z,dG (by decide+kernel) ⟨_,Z,Z,_,Z,dG (by decide+kernel) ⟨_,Z,Z,_,Z,XV ⟨_,Z,tp,_,1,_,Z,Z,bc.of A2,bb (j:=1) Z,Z,_,Z,?_⟩⟩⟩⟩⟩;by_cases h2:y2= .bp
    .subst h2;exact XV (by simpa[h1] using q H5 S5)
    .exact dG h2 ⟨_,Z,tp,_,1,_,Z,Z,bc.of A2,bb (j:=1) Z,y2,Z,wV.same S5,by simpa[h1,h2] using q H5 S5⟩
  .-- copy
   obtain⟨y1,y2,rfl⟩:∃y1 y2,ys=[y1,y2]:=Cd hn;simp only[iE,lS,lQ,fk,iH,lL,id,kO] at q;obtain⟨CZ,Fq⟩:=hy y1 (by simp);obtain⟨wV,He⟩:=hy y2 (by simp);refine⟨_,Z,Z,_,Z,dG (by decide+kernel) ⟨_,Z,Z,_,Z,dG (by decide+kernel) ⟨_,Z,Z,_,Z,dG (by decide+kernel) ⟨_,Z,tp,_,0,_,Z,Z,bc.of BP,gU _ _,y1,Z,CZ.same s4,Fq,λH5 s5=>⟨_,Z,?_⟩⟩⟩⟩⟩;have S5:=s4.trans s5;have A2:=s5 _ _ BP
   cases h1:we y1 with
   |false=>exact a9 (show Q (.bl false) H5 by simpa[h1] using q H5 S5)
   |true=>
    refine bo ?_;exact⟨_,Z,Z,_,Z,dG (by decide+kernel) ⟨_,Z,Z,_,Z,dG (by decide+kernel) ⟨_,Z,Z,_,Z,dG (by decide+kernel) ⟨_,Z,Z,_,Z,dG (by decide+kernel) ⟨_,Z,Z,_,Z,dG (by decide+kernel) ⟨_,Z,Z,_,Z,dG (by decide+kernel) ⟨_,Z,tp,_,1,_,Z,Z,bc.of A2,bb (j:=1) Z,y2,Z,wV.same S5,He,λH6 s6=>by simpa[h1] using q H6 (S5.trans s6)⟩⟩⟩⟩⟩⟩⟩
  .-- more
   obtain⟨y1,y2,y3,rfl⟩:∃y1 y2 y3,ys=[y1,y2,y3]:=GC hn;simp only[iE,lS,lQ,fk,iH,lL,id,kO,DA] at q;obtain⟨CZ,Fq⟩:=hy y1 (by simp);obtain⟨wV,He⟩:=hy y2 (by simp);obtain⟨QP,Yx⟩:=hy y3 (by simp);refine⟨_,Z,Z,_,Z,dG (by decide+kernel) ⟨_,Z,Z,_,Z,dG (by decide+kernel) ⟨_,Z,Z,_,Z,dG (by decide+kernel) ⟨_,Z,tp,_,0,_,Z,Z,bc.of BP,gU _ _,y1,Z,CZ.same s4,Fq,λH5 s5=>⟨_,Z,?_⟩⟩⟩⟩⟩;have S5:=s4.trans s5;have A2:=s5 _ _ BP
   cases h1:we y1 with
   |false=>exact a9 (show Q (.bl false) H5 by simpa[h1] using q H5 S5)
   |true=>
    refine bo ?_;refine⟨_,Z,Z,_,Z,dG (by decide+kernel) ⟨_,Z,Z,_,Z,dG (by decide+kernel) ⟨_,Z,Z,_,Z,dG (by decide+kernel) ⟨_,Z,Z,_,Z,dG (by decide+kernel) ⟨_,Z,Z,_,Z,XV ⟨_,Z,tp,_,1,_,Z,Z,bc.of A2,bb (j:=1) Z,y2,Z,wV.same S5,He,λH6 s6=>⟨_,Z,?_⟩⟩⟩⟩⟩⟩⟩;have S6:=S5.trans s6
    cases h2:we y2 with
    |false=>exact bo (by simpa[h1,h2] using q H6 S6)
    |true=>exact a9 ⟨_,Z,tp,_,2,_,Z,Z,bc.of (s6 _ _ A2),bb (j:=2) Z,y3,Z,QP.same S6,by simpa[h1,h2] using q H6 S6⟩
  .-- tell
   obtain⟨y1,rfl⟩:∃y1,ys=[y1]:=Z7 hn;simp only[iE,lS,lQ,fk,iH,lL,id,kO] at q;obtain⟨CZ,Fq⟩:=hy y1 (by simp);refine⟨_,Z,Z,_,Z,dG (by decide+kernel) ⟨_,Z,Z,_,Z,dG (by decide+kernel) ⟨_,Z,Z,_,Z,dG (by decide+kernel) ⟨_,Z,tp,_,0,_,Z,Z,bc.of BP,gU _ _,y1,Z,CZ.same s4,Fq,λH5 s5=>⟨_,Z,?_⟩⟩⟩⟩⟩;have S5:=s4.trans s5;have A2:=s5 _ _ BP
   cases h1:we y1 with
   |false=>exact a9 (show Q (.bl false) H5 by simpa[h1] using q H5 S5)
   |true=>
    refine bo ?_;exact⟨_,Z,Z,_,Z,dG (by decide+kernel) ⟨_,Z,Z,_,Z,dG (by decide+kernel) ⟨_,Z,Z,_,Z,dG (by decide+kernel) ⟨_,Z,Z,_,Z,dG (by decide+kernel) ⟨_,Z,Z,_,Z,dG (by decide+kernel) ⟨_,Z,Z,_,Z,XV (by simpa[h1] using q H5 S5)⟩⟩⟩⟩⟩⟩
  .-- same
   obtain⟨y1,y2,rfl⟩:∃y1 y2,ys=[y1,y2]:=Cd hn;simp only[iE,lS,lQ,fk,iH,lL,id,kO] at q;obtain⟨CZ,Fq⟩:=hy y1 (by simp);obtain⟨wV,He⟩:=hy y2 (by simp);refine⟨_,Z,Z,_,Z,dG (by decide+kernel) ⟨_,Z,Z,_,Z,dG (by decide+kernel) ⟨_,Z,Z,_,Z,dG (by decide+kernel) ⟨_,Z,tp,_,0,_,Z,Z,bc.of BP,gU _ _,y1,Z,CZ.same s4,Fq,λH5 s5=>⟨_,Z,?_⟩⟩⟩⟩⟩;have S5:=s4.trans s5;have A2:=s5 _ _ BP
   cases h1:we y1 with
   |false=>exact a9 (show Q (.bl false) H5 by simpa[h1] using q H5 S5)
   |true=>
    refine bo ?_;exact⟨_,Z,Z,_,Z,dG (by decide+kernel) ⟨_,Z,Z,_,Z,dG (by decide+kernel) ⟨_,Z,Z,_,Z,dG (by decide+kernel) ⟨_,Z,Z,_,Z,dG (by decide+kernel) ⟨_,Z,Z,_,Z,dG (by decide+kernel) ⟨_,Z,Z,_,Z,dG (by decide+kernel) ⟨_,Z,tp,_,1,_,Z,Z,bc.of A2,bb (j:=1) Z,y2,Z,wV.same S5,He,λH6 s6=>by simpa[h1] using q H6 (S5.trans s6)⟩⟩⟩⟩⟩⟩⟩
  .-- frame
   obtain⟨y1,y2,rfl⟩:∃y1 y2,ys=[y1,y2]:=Cd hn;simp only[iE,lS,lQ,fk,iH,lL,id,zK,Af] at q;obtain⟨CZ,Fq⟩:=hy y1 (by simp);obtain⟨wV,He⟩:=hy y2 (by simp);refine⟨_,Z,Z,_,Z,dG (by decide+kernel) ⟨_,Z,Z,_,Z,XV ⟨_,Z,tp,y1,[y2],Z,BP,λy XQ =>⟨(hy y XQ).1.same s4,(hy y XQ).2⟩,λH5 s5=> ?_⟩⟩⟩;rw[show Pz H4 [y1,y2]=(we y1&& !L4 y1&&uJ H4 y2) from Z,i4 wV s4];exact q H5 (s4.trans s5)
  .-- turns
   obtain⟨y1,y2,y3,y4,rfl⟩:∃y1 y2 y3 y4,ys=[y1,y2,y3,y4]:=aaK hn;simp only[iE,lS,lQ,fk,iH,lL,id,zK,Af,JB,Gq] at q;obtain⟨CZ,Fq⟩:=hy y1 (by simp);obtain⟨wV,He⟩:=hy y2 (by simp);obtain⟨QP,Yx⟩:=hy y3 (by simp);obtain⟨th4,sh4⟩:=hy y4 (by simp);refine⟨_,Z,Z,_,Z,dG (by decide+kernel) ⟨_,Z,Z,_,Z,dG (by decide+kernel) ⟨_,Z,Z,_,Z,XV ⟨_,Z,tp,y1,[y2,y3,y4],Z,BP,λy XQ =>⟨(hy y XQ).1.same s4,(hy y XQ).2⟩,λH5 s5=>⟨_,Z,?_⟩⟩⟩⟩⟩;have S5:=s4.trans s5;have A2:=s5 _ _ BP;rw[show Pz H4 [y1,y2,y3,y4]=(we y1&& !L4 y1&&uJ H4 y4) from Z,i4 th4 s4]
   cases h1:(we y1&& !L4 y1&&uJ H y4) with
   |false=>exact bo (by have:=q H5 S5;revert h1 this;cases we y1<;>cases L4 y1<;>cases uJ H y4<;>simp)
   |true=>
    refine a9 ⟨_,Z,tp,_,1,_,Z,Z,bc.of A2,bb (j:=1) Z,y2,1,3,Z,wV.same S5,_,Z,?_⟩
    cases h2:LU 1 3 y2 with
    |false=>exact bo (by simpa[h2] using q H5 S5)
    |true=>exact a9 ⟨_,Z,tp,_,2,_,Z,Z,bc.of A2,bb (j:=2) Z,y3,0,4,Z,QP.same S5,by have:=q H5 S5;rw[h2] at this;revert h1 this;cases we y1<;>cases L4 y1<;>cases uJ H y4<;>simp⟩
  .-- either
   obtain⟨y1,y2,rfl⟩:∃y1 y2,ys=[y1,y2]:=Cd hn;simp only[iE,lS,lQ,fk,iH,lL,id,zK] at q;obtain⟨CZ,Fq⟩:=hy y1 (by simp);obtain⟨wV,He⟩:=hy y2 (by simp);refine⟨_,Z,Z,_,Z,XV ⟨_,Z,tp,_,0,_,Z,Z,bc.of BP,gU _ _,y1,Z,CZ.same s4,λH5 s5=>⟨_,Z,?_⟩⟩⟩;have S5:=s4.trans s5;rw[i4 CZ s4]
   cases h1:uJ H y1 with
   |false=>exact bo (by simpa[h1] using q H5 S5)
   |true=>exact a9 ⟨_,Z,tp,_,1,_,Z,Z,bc.of (s5 _ _ BP),bb (j:=1) Z,y2,Z,wV.same S5,λH6 s6=>by rw[i4 wV S5];simpa[h1] using q H6 (S5.trans s6)⟩
theorem Ic{H:Hp}:∀(ks:au) (xs:ak),(List.zipWith (cX H) ks xs).all id=true->∀b∈yj ks xs,uJ H b=true
 |[],_,_,b,hb=>by simp[yj] at hb
 |_::_,[],_,b,hb=>by simp[yj] at hb
 |k::ks,x::xs,h,b,hb=>by
  rw[iE,fk,cH] at h;rw[yj] at hb
  split at hb
  .rename_i hk;rcases aP.mp hb with rfl|hb
   .have h1:cX H k b=true:=h.1;rw[hk,zK] at h1;exact h1
   .exact Ic ks xs h.2 b hb
  .exact Ic ks xs h.2 b hb
theorem Wu{H:Hp}{v:V}(h:cf H v=true):∀b∈fB H v,∃xs,nk H b=some xs:=λb hb=>by
 obtain⟨a,w,ks,xs,rfl,e,mem,hl,eb⟩:=ou h
 have hz:(List.zipWith (cX H) ks xs).all id=true:=by
  simp only[cf,e,HH] at h
  split at h
  .rename_i L3 hf;rw[cH] at h;have:fB H (.ref a)=yj L3 xs:=by simp[fB,e,tbV,hf]
   have m2:(w,L3)∈bg:=gA hf;have u:L3 =ks:=bE (a7.mp (a7.mp (show(bg.all λp=>bg.all λr=>decide (p.1=r.1->p.2=r.2))=true by decide+kernel) _ m2) _ mem) rfl;rw[<-u];exact h.2
  .cases h
 rw[eb] at hb;have:=Ic ks xs hz b hb
 cases b with
 |ref c=>
  simp only[uJ] at this;simp only[nk]
  split at this
  .rename_i ys hc;exact⟨ys,by first|rfl|rw[hc]⟩
  .rename_i ys hc;exact⟨ys,by first|rfl|rw[hc]⟩
  .cases this
 |_=>cases this
def QA:Sp:=λvs H Q _=>∃H0 v,vs=[v]/\ah H0 H/\cf H0 v=true/\∀t H',H t=none->ah H H'->H' t=some (.tup (fB H0 v))->Q (.ref t) H'
theorem yV(T:Txt K mg A):aT P w K mg base dQ 1 A.fP A.jK ["_law_deed"] QA:=by
 refine T.dO.F.ok qK (λvs H Q E h=> ?_) (λcB Ar outer s0 H vs Q E hr h=> ?_)
 .obtain⟨H0,v,rfl,_⟩:=h;rfl
 .obtain⟨H0,v,rfl,gW,hd,q⟩:=h;obtain⟨a,w',ks,xs,rfl,e,mem,hl,eb⟩:=ou hd;rw[eb] at q;have pe:=gW _ _ e
  have hu:(ny dQ P w K mg base ["_law_deed"] "_law_bodies" (av jQ) A.fP cB Ar outer s0 H E).K0.A.units+1<cLine:=by
   have:=hr.un;show(Ar.deeper _).units+1<cLine;omega
  refine⟨_,(aq (aH (vS hu (vQ (g9 ai (dH iu (pv 0) (bQ ae) bZ) (g9 ai (dH iu (pv 0) (bQ ae) bZ) (g9 ai (dH iu (pv 0) (bQ ae) bZ) vJ))) Z Z (by simp) (by decide)) (cS aN (pv 0) ae) (bt dY) ⟨Z,Z,Z,Z⟩))),?_⟩;refine λp hp=>⟨_,Z,2,Z,a,_,Z,bc.of (ah.upd hp _ _ pe),jm (k:=2) (by decide) _,λt1 uG=> ?_⟩;have s1:=(ah.upd (o:= .dK []) hp).trans (ah.upd (o:= .tup (c6 (.str w' ::xs) (some 2) none)) uG);have JZ:=ah.upd (o:= .tup (c6 (.str w' ::xs) (some 2) none)) uG p _ af;have e1:upd (upd H p (.dK [])) t1 (.tup (c6 (.str w' ::xs) (some 2) none)) t1=some (.tup (c6 (.str w' ::xs) (some 2) none)):=af;have f1:H t1=none:=(ah.upd (o:= .dK []) hp).free uG;generalize upd (upd H p (.dK [])) t1 (.tup (c6 (.str w' ::xs) (some 2) none))=H1 at s1 JZ e1 ⊢;refine⟨_,Z,4,Z,a,_,Z,bc.of (s1 _ _ pe),jm (k:=4) (by decide) _,λt2 wU=> ?_⟩;have s2:=s1.trans (ah.upd (o:= .tup (c6 (.str w' ::xs) (some 4) none)) wU);have Di:=ah.upd (o:= .tup (c6 (.str w' ::xs) (some 4) none)) wU _ _ JZ;have e2:=ah.upd (o:= .tup (c6 (.str w' ::xs) (some 4) none)) wU _ _ e1;have Pc :upd H1 t2 (.tup (c6 (.str w' ::xs) (some 4) none)) t2=some (.tup (c6 (.str w' ::xs) (some 4) none)):=af;have f2:H t2=none:=s1.free wU;generalize upd H1 t2 (.tup (c6 (.str w' ::xs) (some 4) none))=H2 at s2 Di e2 Pc ⊢;refine⟨_,Z,1,Z,a,_,Z,bc.of (s2 _ _ pe),jm (k:=1) (by decide) _,λt3 qi=> ?_⟩;have u3:=ah.upd (o:= .tup (c6 (.str w' ::xs) (some 1) none)) qi;have Pa :upd H2 t3 (.tup (c6 (.str w' ::xs) (some 1) none)) t3=some (.tup (c6 (.str w' ::xs) (some 1) none)):=af;have f3:H t3=none:=s2.free qi;generalize upd H2 t3 (.tup (c6 (.str w' ::xs) (some 1) none))=H3 at u3 Pa ⊢;have s3:=s2.trans u3;have BN:=u3 _ _ Di
  have Rm:oZ [] [((.inr "frame" :wS),V.ref t1),(.inr "turns",.ref t2),(.inr "either",.ref t3)]=[(.inr "frame",.ref t1),(.inr "turns",.ref t2),(.inr "either",.ref t3)]:=by with_unfolding_all rfl
  refine⟨BN,[(.inr "frame",.ref t1),(.inr "turns",.ref t2),(.inr "either",.ref t3)],Z,(show 3<=15 by decide),p,Z,.inl ⟨_,.inl af⟩,?_⟩;rw[Rm];have s4:ah H (upd H3 p (.dK [(.inr "frame",.ref t1),(.inr "turns",.ref t2),(.inr "either",.ref t3)])):=fh hp s3
  have k4:KT H3 (upd H3 p (.dK [(.inr "frame",.ref t1),(.inr "turns",.ref t2),(.inr "either",.ref t3)])):=λc ys e=>by
   rw[az (dw e BN (λz=>nomatch z))];exact e
  have e4:upd H3 p (.dK [(.inr "frame",.ref t1),(.inr "turns",.ref t2),(.inr "either",.ref t3)]) p=some (.dK [(.inr "frame",.ref t1),(.inr "turns",.ref t2),(.inr "either",.ref t3)]):=af;generalize upd H3 p (.dK [(.inr "frame",.ref t1),(.inr "turns",.ref t2),(.inr "either",.ref t3)])=H4 at s4 k4 e4 ⊢;refine⟨_,Z,a,_,0,_,Z,Z,bc.of (s4 _ _ pe),gU _ _,m7,λt4 JN=> ?_⟩;have u5:=ah.upd (o:= .tup []) JN;refine⟨_,GV.k (k:= .inr w') (u5 _ _ e4),?_⟩;have s5:=s4.trans u5
  have bp:(w'≠ "frame" /\w'≠ "turns" /\w'≠ "either")->yj ks xs=[]->Q ((eV [((.inr "frame" :wS),V.ref t1),(.inr "turns",.ref t2),(.inr "either",.ref t3)] (.inr w')).getD (.ref t4)) (upd H4 t4 (.tup [])):=λhn hb=>by
   rw[vx (l:=[((.inr "frame" :wS),V.ref t1),(.inr "turns",.ref t2),(.inr "either",.ref t3)]) λx hx=>by
    simp only[aP,cO,cN] at hx;rcases hx with rfl|rfl|rfl
    .exact λz=>hn.1 (vp z).symm
    .exact λz=>hn.2.1 (vp z).symm
    .exact λz=>hn.2.2 (vp z).symm]
   exact q t4 _ (s4.free JN) s5 (by rw[hb];exact af)
  simp only[bg,aP,cO,cN,zW] at mem;rcases mem with⟨rfl,rfl⟩|⟨rfl,rfl⟩|⟨rfl,rfl⟩|⟨rfl,rfl⟩|⟨rfl,rfl⟩|⟨rfl,rfl⟩|⟨rfl,rfl⟩|⟨rfl,rfl⟩|⟨rfl,rfl⟩|⟨rfl,rfl⟩|⟨rfl,rfl⟩
  .obtain⟨y1,y2,y3,rfl⟩:=GC hl.symm;exact bp (by decide+kernel) rfl
  .obtain⟨y1,y2,y3,rfl⟩:=GC hl.symm;exact bp (by decide+kernel) rfl
  .obtain⟨y1,y2,y3,rfl⟩:=GC hl.symm;exact bp (by decide+kernel) rfl
  .obtain⟨y1,y2,rfl⟩:=Cd hl.symm;exact bp (by decide+kernel) rfl
  .obtain⟨y1,y2,rfl⟩:=Cd hl.symm;exact bp (by decide+kernel) rfl
  .obtain⟨y1,y2,y3,rfl⟩:=GC hl.symm;exact bp (by decide+kernel) rfl
  .obtain⟨y1,rfl⟩:=Z7 hl.symm;exact bp (by decide+kernel) rfl
  .obtain⟨y1,y2,rfl⟩:=Cd hl.symm;exact bp (by decide+kernel) rfl
  .obtain⟨y1,y2,rfl⟩:=Cd hl.symm;rw[show eV [((.inr "frame" :wS),V.ref t1),(.inr "turns",.ref t2),(.inr "either",.ref t3)] (.inr "frame")=some (.ref t1) by with_unfolding_all rfl];refine q t1 _ f1 s5 ((u5 _ _ (k4 _ _ (u3 _ _ e2))).trans ?_);rw[show c6 (V.str "frame" ::[y1,y2]) (some 2) none=[y2] from mf _ 2];rfl
  .obtain⟨y1,y2,y3,y4,rfl⟩:=aaK hl.symm;rw[show eV [((.inr "frame" :wS),V.ref t1),(.inr "turns",.ref t2),(.inr "either",.ref t3)] (.inr "turns")=some (.ref t2) by with_unfolding_all rfl];refine q t2 _ f2 s5 ((u5 _ _ (k4 _ _ (u3 _ _ Pc))).trans ?_);rw[show c6 (V.str "turns" ::[y1,y2,y3,y4]) (some 4) none=[y4] from mf _ 4];rfl
  .obtain⟨y1,y2,rfl⟩:=Cd hl.symm;rw[show eV [((.inr "frame" :wS),V.ref t1),(.inr "turns",.ref t2),(.inr "either",.ref t3)] (.inr "either")=some (.ref t3) by with_unfolding_all rfl];refine q t3 _ f3 s5 ((u5 _ _ (k4 _ _ Pa)).trans ?_);rw[show c6 (V.str "either" ::[y1,y2]) (some 1) none=[y1,y2] from mf _ 1];rfl
def VW(n:Nat):Sp:=λvs H Q _=>∃H0 v xs,vs=[v]/\ah H0 H/\Dp H0 n v/\nk H0 v=some xs/\∀l H',H l=none->ah H H'->H' l=some (.lst (ke H0 n v).toList)->Q (.ref l) H'
theorem vF(T:Txt K mg A)(n:Nat):aT P w K mg base dQ (n+4) A.jt A.nQ ["_law_body_here"] (VW n):=by
 induction n with
 |zero=>exact fg (by rintro vs H Q E ⟨H0,v,xs,_,_,h,_⟩;exact h)
 |succ n ih=>
 show aT P w K mg base dQ ((n+4)+1) _ _ _ _;refine T.ju.F.ok f_ (λvs H Q E h=> ?_) (λcB Ar outer s0 H vs Q E hr h=> ?_)
 .obtain⟨H0,v,xs,rfl,_⟩:=h;rfl
 .obtain⟨H0,v,xs,rfl,gW,⟨th,sh,dp⟩,ev,q⟩:=h
  have Hf:(Ar.deeper (envOfC "_law_first_bad" (av jn) s0.heap.objs.size A.jt cB)).units<cLine:=by
   have:=hr.un
   lia
  refine⟨_,(aj (AV (o_ (pv 0)) (jk 1 f_.nd) (aj (bU (iy (gm (cI (yU T) hr T.p5 aC (aM (pv 1)) (hj:=by lia)))) (aq (aH (bH (aM (pv 1))))) bf) (aq (AV (Ab (cI (yV T) hr T.dO aC (aM (pv 1)) (hj:=by lia))) (jk 2 f_.nd) (aj (gf 3 f_.nd (cI ih hr T.ju aC (aM (pv 2)) (hj:=by lia))) (aq (bU (wn (xm Hf) (pv 3) (bH dY)) (aq (aH (pv 3))) bf))))))) (aq (aH (bH dY)))),?_⟩;obtain⟨xl,hx⟩:=dp xs ev
  obtain⟨a,t,rfl,ha⟩:∃a t,v= .ref a/\H0 a=some (EI t xs):=by
   cases th with
   | @lst a ys e=>simp only[nk,e,nA] at ev;subst ev;exact⟨a,false,Z,e⟩
   | @tup a ys e=>simp only[nk,e,nA] at ev;subst ev;exact⟨a,true,Z,e⟩
   |dK e=>simp[nk,e] at ev
   |_=>cases ev
  have q:∀l H',H l=none->ah H H'->H' l=some (.lst (xs.findSome? (λx=>if cf H0 x=true then(fB H0 x).findSome? (ke H0 n) else some x)).toList)->Q (.ref l) H' :=by
   unfold ke at q;rw[ev] at q;exact q
  refine⟨_,Z,a,t,Z,LW (gW _ _ ha),?_⟩
  have bad:∀(i:Nat) (x:V) (b:V),xs[i]? =some x->(xs.take i).findSome? (λx=>if cf H0 x=true then(fB H0 x).findSome? (ke H0 n) else some x)=none->(if cf H0 x=true then(fB H0 x).findSome? (ke H0 n) else some x)=some b->∀l H',H l=none->ah H H'->H' l=some (.lst [b])->Q (.ref l) H' :=λi x b hi h0 hb l H' h1 h2 h3=>by
   refine q l H' h1 h2 ?_;rw[<-jE i xs,mZ,h0,ig,zC (c9.mp hi).1,(c9.mp hi).2,m_,hb];exact h3
  refine nt (K:=K) (t:=t) (a:=a) (xs:=xs) (λi σ H' =>∃x2 x3 x4:Option V,σ=[some (.ref a),x2,x3,x4]/\ah H H'/\(xs.take i).findSome? (λx=>if cf H0 x=true then(fB H0 x).findSome? (ke H0 n) else some x)=none) ⟨_,_,_,Z,ah.refl H,Z⟩ (by rintro i σ H' _ ⟨_,_,_,_,sm,_⟩;exact sm _ _ (gW _ _ ha)) ?_ ?_
  .rintro i x σ H' hi ⟨x2,x3,x4,rfl,sm,h0⟩
   obtain⟨tg,db⟩:=hx x (bD hi);have S0:=gW.trans sm;refine⟨_,Z,x,Z,tg.same S0,λH2 s2=>⟨_,Z,?_⟩⟩;rw[uq tg S0]
   cases hd:cf H0 x with
   |false=>
    exact a9 ⟨_,Z,y8,λl hl=>bad i x x hi h0 (by rw[hd];rfl) l _ ((sm.trans s2).free hl) ((sm.trans s2).trans (ah.upd hl)) af⟩
   |true=>
    refine bo ⟨_,Z,H0,x,Z,S0.trans s2,hd,λl H3 OH s3 hz=>⟨l,Z,⟨_,bc.of hz⟩,?_⟩⟩;have LI:=(sm.trans s2).trans s3
    have Ww:∀(j:Nat) (y b:V),(fB H0 x)[j]? =some y->((fB H0 x).take j).findSome? (ke H0 n)=none->ke H0 n y=some b->∀l H',H l=none->ah H H'->H' l=some (.lst [b])->Q (.ref l) H' :=λj y b hj h1 hb=>bad i x b hi h0 (by
     rw[aB hd,<-jE j (fB H0 x),mZ,h1,ig,zC (c9.mp hj).1,(c9.mp hj).2,m_,hb])
    refine D_ (K:=K) (a:=l) (xs:=fB H0 x) (λj σ H4=>∃x3 x4:Option V,σ=[some (.ref a),some x,x3,x4]/\ah H3 H4/\((fB H0 x).take j).findSome? (ke H0 n)=none) ⟨x3,x4,Z,ah.refl H3,Z⟩ (by rintro i σ H' _ ⟨_,_,_,sm,_⟩;exact bc.of (sm _ _ hz)) ?_ ?_
    .rintro j y σ H4 hj ⟨x3,x4,rfl,s4,h1⟩
     have hm:=bD hj;obtain⟨zs,ez⟩:=Wu hd y hm;refine⟨_,Z,H0,y,zs,Z,(gW.trans LI).trans s4,db y hm,ez,λl5 H5 hl5 s5 e5=> ?_⟩;have S5:=(LI.trans s4).trans s5;refine⟨_,Z,m7,λe6 Sa=>⟨l5,e6,_,Z,Z,ah.upd Sa _ _ e5,af,_,Z,?_⟩⟩
     cases hb:ke H0 n y with
     |some b=>
      rw[hb] at e5;exact a9 ⟨_,Z,Ww j y b hj h1 hb l5 _ ((LI.trans s4).free hl5) (S5.trans (ah.upd Sa)) (ah.upd Sa _ _ e5)⟩
     |none=>exact bo ⟨some y,some (.ref l5),Z,(s4.trans s5).trans (ah.upd Sa),by rw[wP hj,mZ,h1,ig,m_,hb];rfl⟩
    .rintro σ H4 ⟨x3,x4,rfl,s4,h1⟩
     rw[gi] at h1;exact⟨some x,x3,x4,Z,LI.trans s4,by rw[wP hi,mZ,h0,ig,m_,aB hd,h1];rfl⟩
  .rintro σ H' ⟨x2,x3,x4,rfl,sm,h0⟩
   rw[gi] at h0;rw[h0] at q;exact⟨m7,λl hl=>q l _ (sm.free hl) (sm.trans (ah.upd hl)) af⟩
theorem XB{H:Hp}{k:Str}{v:V}(hk:k∈oj)(nb:k≠ "body")(h:cX H k v=true)(sh:Sh v):∃d,Dat H v d/\zO k d:=by
 have nm:we v=true->∃x,v= .str x/\cv x=true:=λh=>by cases v<;>first|exact⟨_,rfl,h⟩|cases h
 have nu:BH v=true->∃i,v= .int i/\i.natAbs<10 ^ 40:=λh=>by cases v<;>first|exact⟨_,rfl,sh⟩|cases h
 have wh:∀lo hi,LU lo hi v=true->∃i,v= .int i/\lo<=i/\i<=hi:=λlo hi h=>by
  cases v with
  |int i=>
   have h:(decide (lo<=i)&&decide (i<=hi))=true:=h;rw[cH,iq,iq] at h;exact⟨i,Z,h⟩
  |_=>cases h
 unfold oj at hk;simp only[aP,cO,cN] at hk;rcases hk with rfl|rfl|rfl|rfl|rfl|rfl|rfl|rfl|rfl|rfl
 .rw[kO] at h;obtain⟨x,rfl,hx⟩:=nm h;exact⟨_,.str x,.name x hx⟩
 .rw[Af,cH] at h;obtain⟨x,rfl,hx⟩:=nm h.1;refine⟨_,.str x,.label x hx λz=> ?_⟩;have:=h.2;rw[z] at this;exact absurd this (by decide+kernel)
 .rw[Jv,D0] at h;rcases h with h|h
  .rw[bE h];exact⟨_,.bp,.GZ⟩
  .obtain⟨x,rfl,hx⟩:=nm h;exact⟨_,.str x,.mark x hx⟩
 .rw[GW,D0] at h;rcases h with h|h
  .rw[bE h];exact⟨_,.bp,.DT⟩
  .obtain⟨i,rfl,hi⟩:=nu h;exact⟨_,.int i,.value i hi⟩
 .rw[DA] at h;obtain⟨i,rfl,hi⟩:=nu h;exact⟨_,.int i,.number i hi⟩
 .exact absurd Z nb
 .rw[JL] at h;obtain⟨i,rfl,h1,h2⟩:=wh _ _ h;exact⟨_,.int i,.num "size" 1 6 i (by decide+kernel) h1 h2⟩
 .rw[E2] at h;obtain⟨i,rfl,h1,h2⟩:=wh _ _ h;exact⟨_,.int i,.num "cell" 0 5 i (by decide+kernel) h1 h2⟩
 .rw[JB] at h;obtain⟨i,rfl,h1,h2⟩:=wh _ _ h;exact⟨_,.int i,.num "many" 1 3 i (by decide+kernel) h1 h2⟩
 .rw[Gq] at h;obtain⟨i,rfl,h1,h2⟩:=wh _ _ h;exact⟨_,.int i,.num "times" 0 4 i (by decide+kernel) h1 h2⟩
theorem uD{H:Hp}(R:V->Bool->Ds->Prop)(hR:∀b t s,R b t s->Dat H b (iS t (sL s))/\mD s):∀(ks:au) (m:Nat) (xs:ak),(∀k∈ks,k∈oj/\k≠ "body")->(ks++List.replicate m ("body" :Str)).length=xs.length->(List.zipWith (cX H) (ks++List.replicate m ("body" :Str)) xs).all id=true->(∀x∈xs,Sh x)->
 (∀b∈yj (ks++List.replicate m ("body" :Str)) xs,∃t s,R b t s)->∃ps,∃bs:Bs,DatAll H xs (ps++bL bs)/\iw ks ps/\pF bs/\bs.l.length=m/\∀p∈bs.l,∃b∈yj (ks++List.replicate m ("body" :Str)) xs,R b p.1 p.2
 |[],0,[],_,_,_,_,_=>⟨[],.nil,by rw[bL];exact .nil,.nil,by rw[pF];exact True.intro,rfl,λp hp=>nomatch hp⟩
 |[],0,_::_,_,h,_,_,_=>by cases h
 |[],m+1,[],_,h,_,_,_=>by cases h
 |[],m+1,x::xs,hk,hl,hz,hs,hb=>by
  have eb:yj ([]++List.replicate (m+1) ("body" :Str)) (x::xs)=x::yj ([]++List.replicate m ("body" :Str)) xs:=by
   show yj ("body" ::List.replicate m ("body" :Str)) (x::xs)=_;rw[yj,aB Z];rfl
  have hz:(cX H "body" x&&(List.zipWith (cX H) ([]++List.replicate m ("body" :Str)) xs).all id)=true:=hz;rw[cH] at hz;rw[eb] at hb;obtain⟨t,s,r⟩:=hb x c5;obtain⟨ps,bs,h1,h2,h3,h4,h5⟩:=uD R hR [] m xs hk (oG hl) hz.2 (λy hy=>hs y (cw _ hy)) λb wO =>hb b (cw _ wO);cases h2;obtain⟨r1,r2⟩:=hR x t s r;refine⟨[],.cons t s bs,by rw[bL];exact .cons r1 h1,.nil,by rw[pF];exact⟨r2,h3⟩,by show bs.l.length+1=_;rw[h4],λp hp=> ?_⟩;rw[eb];rcases aP.mp (show p∈(t,s)::bs.l from hp) with rfl|hp
  .exact⟨x,c5,r⟩
  .obtain⟨b,hb1,uP⟩:=h5 p hp;exact⟨b,cw _ hb1,uP⟩
 |k::ks,m,[],_,h,_,_,_=>by cases h
 |k::ks,m,x::xs,hk,hl,hz,hs,hb=>by
  obtain⟨k1,k2⟩:=hk k c5
  have eb:yj (k::ks++List.replicate m ("body" :Str)) (x::xs)=yj (ks++List.replicate m ("body" :Str)) xs:=by
   show yj (k::(ks++_)) (x::xs)=_;rw[yj,ax k2]
  have hz:(cX H k x&&(List.zipWith (cX H) (ks++List.replicate m ("body" :Str)) xs).all id)=true:=hz;rw[cH] at hz;rw[eb] at hb;obtain⟨ps,bs,h1,h2,h3,h4,h5⟩:=uD R hR ks m xs (λy hy=>hk y (cw _ hy)) (oG hl) hz.2 (λy hy=>hs y (cw _ hy)) hb;obtain⟨d,d1,d2⟩:=XB k1 k2 hz.1 (hs x c5);exact⟨d::ps,bs,.cons d1 h1,.cons d2 h2,h3,h4,by rw[eb];exact h5⟩
theorem IF{w:Str}{ks:au}(h:(w,ks)∈bg):∃L3 m,ks=L3 ++List.replicate m ("body" :Str)/\∀k∈L3,k∈oj/\k≠ "body":=by
 have h1:=bE (a7.mp (show(bg.all λp=>decide (p.2=(p.2.filter λk=>decide (k≠("body" :Str)))++List.replicate (p.2.length - (p.2.filter λk=>decide (k≠("body" :Str))).length) ("body" :Str)))=true by decide+kernel) _ h);have h2:=a7.mp (show(bg.all λp=>p.2.all λk=>decide (k∈oj))=true by decide+kernel) _ h;refine⟨_,_,h1,λk hk=> ?_⟩;obtain⟨m1,m2⟩:=rR.mp hk;exact⟨bE (a7.mp h2 k m1),bE m2⟩
theorem Mn{n:Nat}:∀bs:Bs,(∀p∈bs.l,eQ p.2<n)->nR bs<=n
 | .nil,_=>by rw[nR];exact cG _
 | .cons t b r,h=>by
  rw[nR];have h1:eQ b<n:=h (t,b) c5;have h2:=Mn r λp hp=>h p (cw _ hp)
  lia
theorem Oi{H:Hp}{a:S'}{w:Str}{ks:au}{xs:ak}(h:cf H (.ref a)=true)(e:H a=some (.tup (.str w::xs)))(mem:(w,ks)∈bg):(List.zipWith (cX H) ks xs).all id=true:=by
 simp only[cf,e,HH] at h
 split at h
 .rename_i L3 hf;rw[cH] at h;have m2:(w,L3)∈bg:=gA hf;have u:L3 =ks:=bE (a7.mp (a7.mp (show(bg.all λp=>bg.all λr=>decide (p.1=r.1->p.2=r.2))=true by decide+kernel) _ m2) _ mem) rfl;rw[<-u];exact h.2
 .cases h
def Gd(H:Hp)(n:Nat)(b:V)(t:Bool)(s:Ds):Prop:=Dat H b (iS t (sL s))/\mD s/\eQ s<n
theorem K3{H:Hp}{n:Nat}(ih:∀b,Dp H n b->ke H n b=none->∃t s,Gd H n b t s){x:V}(tg:Tg H x)(hd:cf H x=true)(db:∀b∈fB H x,Dp H n b)(hb:(fB H x).findSome? (ke H n)=none):∃d:Dd,Dat H x (dD d)/\mv d/\mG d<=n:=by
 obtain⟨a,w,ks,xs,rfl,e,mem,hl,eb⟩:=ou hd;have hz:=Oi hd e mem;obtain⟨L3,m,rfl,hk⟩:=IF mem;obtain⟨_,hx⟩:=tg.at_ a _ Z e;rw[eb] at db hb;obtain⟨ps,bs,h1,h2,h3,h4,h5⟩:=uD (Gd H n) (λb t s r=>⟨r.1,r.2.1⟩) L3 m xs hk hl hz (λy hy=>(hx y (cw _ hy)).2) λb wO =>ih b (db b wO) (List.findSome?_eq_none_iff.mp hb b wO);refine⟨.mk w ps bs,?_,?_,?_⟩
 .rw[dD];exact .tup e (.cons (.str w) h1)
 .rw[mv];exact⟨⟨L3,by rw[h4];exact mem,h2⟩,h3⟩
 .rw[mG];refine Mn bs λp hp=> ?_;obtain⟨b,_,r⟩:=h5 p hp;exact r.2.2
theorem C3{H:Hp}{n:Nat}:∀xs:ak,(∀x∈xs,∃d:Dd,Dat H x (dD d)/\mv d/\mG d<=n)->∃ds:List Dd,DatAll H xs (ds.map dD)/\∀d∈ds,mv d/\mG d<=n
 |[],_=>⟨[],.nil,λd hd=>nomatch hd⟩
 |x::xs,h=>by
  obtain⟨d,d1,d2⟩:=h x c5;obtain⟨ds,h1,h2⟩:=C3 xs λy hy=>h y (cw _ hy);refine⟨d::ds,.cons d1 h1,λe he=> ?_⟩;rcases aP.mp he with rfl|he
  .exact d2
  .exact h2 e he
theorem De{H:Hp}:∀(n:Nat) (v:V),Dp H n v->ke H n v=none->∃t s,Gd H n v t s
 |0,_,h,_=>h.elim
 |n+1,v,⟨th,sh,dp⟩,hb=>by
  unfold ke at hb
  cases ev:nk H v with
  |none=>rw[ev] at hb;cases hb
  |some xs=>
   rw[ev] at hb;have hb:xs.findSome? (λx=>if cf H x=true then(fB H x).findSome? (ke H n) else some x)=none:=hb;obtain⟨_,hx⟩:=dp xs ev
   obtain⟨a,t,rfl,ha⟩:∃a t,v= .ref a/\H a=some (EI t xs):=by
    cases th with
    | @lst a ys e=>simp only[nk,e,nA] at ev;subst ev;exact⟨a,false,Z,e⟩
    | @tup a ys e=>simp only[nk,e,nA] at ev;subst ev;exact⟨a,true,Z,e⟩
    |dK e=>simp[nk,e] at ev
    |_=>cases ev
   obtain⟨ds,h1,h2⟩:=C3 (n:=n) xs λx hm=>by
    have:=List.findSome?_eq_none_iff.mp hb x hm;obtain⟨tg,db⟩:=hx x hm
    cases hd:cf H x with
    |false=>rw[hd] at this;cases this
    |true=>
     rw[hd,aB Z] at this;exact K3 (λb h1 h2=>De n b h1 h2) tg hd db this
   refine⟨t,Ds.of ds,?_,jag λd hd=>(h2 d hd).1,Nat.lt_succ_of_le (CY λd hd=>(h2 d hd).2)⟩;rw[VI]
   cases t with
   |false=>exact .lst ha h1
   |true=>exact .tup ha h1
def M7(H:Hp)(v:V):Option Rf->Prop
 |none=>v= .bp
 |some r=>∃t,v= .ref t/\H t=some (.tup [.str r.tag,r.v])
def OU:Sp:=λvs H Q _=>∃v,vs=[v]/\Dp H 40 v/\(∀b,ke H 40 v=some b->∀L0 H',ah H H'->M7 H' L0 (some (.sO b))->Q L0 H')/\
 (ke H 40 v=none->∃t s,Dat H v (iS t (sL s))/\mD s/\eQ s<40/\eB s<=1000/\∀L0 H',ah H H'->M7 H' L0 (gL s)->Q L0 H')
theorem Gk(T:Txt K mg A):aT P w K mg base dQ 45 A.uu A.BG ["_law_body_here"] OU:=by
 refine T.Aw.F.ok yB (λvs H Q E h=> ?_) (λcB Ar outer s0 H vs Q E hr h=> ?_)
 .obtain⟨v,rfl,_⟩:=h;rfl
 .obtain⟨v,rfl,VD,qb,qg⟩:=h
  have Hf:(Ar.deeper (envOfC "_law_due" (av uN) s0.heap.objs.size A.uu cB)).units<cLine:=by
   have:=hr.un
   lia
  refine⟨_,(aj (bU (iy (gm (cI (ia T) hr T.gu aC (aM (pv 0))))) (aq (aH (bt (ag ai (aM (pv 0)))))) bf) (aj (gf 1 yB.nd (cI (vF T 40) hr T.ju aC (aM (pv 0)))) (aq (aH (q_ (wn (xm Hf) (pv 1) (bH dY)) (bt (ag ai (aM (cS a8 (pv 1) ae)))) (cI (yQ T) hr T.pN aC (aM (pv 0)))))))),?_⟩;obtain⟨th,sh,dp⟩:=id (show Dp H (39+1) v from VD);refine⟨_,Z,v,Z,th,λH1 s1=>⟨_,Z,?_⟩⟩
  have eS:uJ H v=(nk H v).isSome:=by
   cases th with
   |lst e=>simp[uJ,nk,e]
   |tup e=>simp[uJ,nk,e]
   |dK e=>simp[uJ,nk,e]
   |_=>rfl
  rw[eS]
  cases ev:nk H v with
  |none=>
   have hb:ke H 40 v=some v:=by
    show ke H (39+1) v=_;unfold ke;rw[ev]
   exact a9 ⟨_,Z,gY,λt ht=>qb v hb _ _ (s1.trans (ah.upd ht)) ⟨t,Z,af⟩⟩
  |some xs=>
   refine bo ⟨_,Z,H,v,xs,Z,s1,VD,ev,λl H2 hl s2 e2=> ?_⟩;have w_:=s1.trans s2;refine⟨_,Z,m7,λe3 he3=> ?_⟩;have u3:=ah.upd (o:= .lst []) he3;refine⟨l,e3,_,Z,Z,u3 _ _ e2,af,_,Z,?_⟩
   cases hb:ke H 40 v with
   |some b=>
    rw[hb] at e2;exact a9 ⟨_,Z,l,_,0,_,Z,Z,cF.of (u3 _ _ e2),gU _ _,gY,λt ht=>qb b hb _ _ ((w_.trans u3).trans (ah.upd ht)) ⟨t,Z,af⟩⟩
   |none=>
    obtain⟨t,s,hd,ok,dps,hm,q⟩:=qg hb;have S:=w_.trans u3;refine bo ⟨_,Z,v,t,s,Z,hd.same S,ok,dps,hm,?_⟩
    cases er:gL s with
    |none=>
     rw[er] at q;exact λH' s' =>q _ H' (S.trans s') rfl
    |some r=>
     rw[er] at q;exact λt' H' _ s' e' =>q _ H' (S.trans s') ⟨t',Z,e'⟩
theorem Le{P:Z'}{w:W'}{K:Frag}{mg:Str->aO}{base:Y'}{N:au}{qual:Str}{scope:Scope}{f:S'}{cd:M'}{cl:List (Str×S')}{A:X'}{outer:List Env}{s:R'}{H:Hp}{E:XK}:CT (Kg (Dg P w) P w K mg base N qual scope f cd cl A outer s H E) E:=by
 intro ad σ H1 s1 a C dd n I ea fl q;exact CD I Z Z Z ea fl q
noncomputable def lpP:Pos:=⟨445,30,445,61⟩
noncomputable def qP:Str:="_law_right" ++ ".<locals>." ++ "<lambda>"
def E8(A:nT)(s:Ds)(H:Hp)(Q:S'->Hp->Prop)(E:Rf->S'->Hp->Prop):Prop:=match gL s with
 |none=>∀p tb ls H',H p=none->H tb=none->H ls=none->Kept A.ay H H'->Tab H' A.ay LY qI->Ii A.aZ H' p tb ls s->Q p H'
 |some r=>∀dx H2,Kept A.ay H H2->Tab H2 A.ay LY qI->H2 dx=some (.xd [(r.fd,r.v)])->E r dx H2
def RO(A:nT)(v:V)(H:Hp)(Q:S'->Hp->Prop)(E:Rf->S'->Hp->Prop):Prop:=(∃b,ke H 40 v=some b/\∀dx H2,ah H H2->H2 dx=some (.xd [("found",b)])->E (.sO b) dx H2)\/
 (ke H 40 v=none/\∃t s,Dat H v (iS t (sL s))/\mD s/\eQ s<40/\eB s<=1000/\E8 A s H Q E)
def EO(A:nT)(c:S')(qn:Str)(v:V):Sp:=λvs H Q E=>∃H0,vs=[]/\H c=some (.ext (iG c qn))/\ah H0 H/\Dp H 40 v/\Tab H A.ay LY qI/\RO A v H (λp H' =>Q (.ref p) H') (λr dx H2=>E (.ref (r.cls A)) (some dx) H2)
theorem Dp.same{H H' :Hp}(s:ah H H'):∀(n:Nat) (v:V),Dp H n v->Dp H' n v/\ke H' n v=ke H n v
 |0,_,h=>h.elim
 |n+1,v,⟨th,sh,dp⟩=>by
  have es:nk H' v=nk H v:=by
   cases th with
   |lst e=>simp[nk,e,s _ _ e]
   |tup e=>simp[nk,e,s _ _ e]
   |dK e=>simp[nk,e,s _ _ e]
   |_=>rfl
  have eb:∀x,Tg H x->fB H' x=fB H x:=λx tg=>by
   have th:=tg.th
   cases th with
   |lst e=>simp[fB,e,s _ _ e]
   |tup e=>simp[fB,e,s _ _ e]
   |dK e=>simp[fB,e,s _ _ e]
   |_=>rfl
  refine⟨⟨th.same s,sh,λxs e=> ?_⟩,?_⟩
  .rw[es] at e;obtain⟨h1,h2⟩:=dp xs e;refine⟨h1,λx hx=>⟨(h2 x hx).1.same s,λb hb=> ?_⟩⟩;rw[eb x (h2 x hx).1] at hb;exact(Dp.same s n b ((h2 x hx).2 b hb)).1
  .show ke H' (n+1) v=ke H (n+1) v;unfold ke;rw[es]
   cases ev:nk H v with
   |none=>rfl
   |some xs=>
    obtain⟨_,h2⟩:=dp xs ev
    have find:∀{f g:V->Option V} (l:ak),(∀x∈l,f x=g x)->l.findSome? f=l.findSome? g:=λ{f g} l=>by
     induction l with
     |nil=>intro _;rfl
     |cons x r ih=>intro h;rw[m_,m_,h x c5,ih λy hy=>h y (cw _ hy)]
    refine find xs λx hx=> ?_;rw[uq (h2 x hx).1 s,eb x (h2 x hx).1]
    split
    .exact find _ λb hb=>(Dp.same s n b ((h2 x hx).2 b hb)).2
    .rfl
theorem Qn(T:Txt K mg A)(Fm:wR P w K A fm)(Fp:∀x:Str,bg.lookup x=none->eV fm.kF (.inr x)=none){f c' :S'}{name qual:Str}{params:Arguments}{scope:Scope}{pm ct oc:M'}{od:Option S'}{xM:Array (aO)}{p1 p2 p3:Pos}{cl:List (Str×S')}{v:V}
 (lk:base.get? f=some ⟨oc,od,.func (kla_fn name qual params (.Call (.Name "Program" p1) [.Name "_law_body_here" p2] [] p3) scope cl pm (.ref c') ct),xM⟩) (S:rS [] ["_law_body_here"] scope) (C:z_ base cl ["_law_body_here"] [v]) (hg:scope.names.lookup ("Program" :Str)=some NameKind.globalImplicit):aT P w K mg base (Dg P w) 52 f (kla_fn name qual params (.Call (.Name "Program" p1) [.Name "_law_body_here" p2] [] p3) scope cl pm (.ref c') ct) [] (EO A c' qual v):=by
 have F:aT P w K mg base (Dg P w) 50 A.c7 A.c8 ["self","deeds"] (Jx A qI):=aT.MT (by rintro vs H Q E ⟨p,dx,v,e,_⟩;rw[e];rfl) λxr=>sT T Fm Fp xr;refine L_ lk S C (by rintro vs H Q E ⟨_,e,_⟩;rw[e];rfl) (by rintro vs H Q E h ⟨_,e,hc,_⟩ ok _;exact iG.rec ok hc) ?_
 rintro Ar outer s0 H vs Q E hr ⟨H0,e,hc,gW,VD,tab,q⟩
 subst e;refine⟨_,QE T.LH F hr ?_ T.LM T.lX.b .nil (jy Le trivial) (aM (pv 0 (hv:= .inr (.inr (S.fre "_law_body_here" (by simp)))))),?_⟩
 .exact hg
 .refine⟨_,Z,λx dx hx JP wN=> ?_⟩;have s1:=ah.upd (o:= .own x) JP;have hx1:upd H dx (.own x) x=none:=by rw[az wN.symm];exact hx
  have s2:=s1.trans (ah.upd (o:= .ins A.aZ dx []) hx1);obtain⟨d1,d2⟩:=Dp.same s2 40 v VD;refine⟨x,dx,v,Z,af,d1,tab.same s2,?_⟩;rw[d2];rcases q with⟨b,hb,r⟩|⟨hb,t,s,hd,ok,dp,hm,q⟩
  .exact .inl ⟨b,hb,λMG H2 s' e=>r MG H2 (s2.trans s') e⟩
  .refine .inr ⟨hb,t,s,hd.same s2,ok,dp,hm,?_⟩;have kk:∀{H'},hU x A.ay (upd (upd H dx (.own x)) x (.ins A.aZ dx [])) H'->Kept A.ay H H' :=λk b o hb e=>k b o (aA e hx) hb (s2 _ _ e);unfold E8 at q
   cases er:gL s with
   |none=>
    rw[er] at q;exact λtb ls H' h1 h2 k tb' pr=>⟨Z,q x tb ls H' hx (s2.free h1) (s2.free h2) (kk k) tb' pr⟩
   |some r=>
    rw[er] at q;exact λMG H2 k tb' e=>q MG H2 (kk k) tb' e
theorem Tab.Z3{P:S'}{lp:Pos}{q:Str}{sp:S'->S'->ak->Sp}{E:XK}{H:Hp}{Q:VK}{σ:L2.St}{j:Nat}{v:V}(T:Tab H P lp q)(hj:σ[j]? =some (some v))
 (h:∀f c' H1,H f=none->H1 f=none->Kept P H H1->Tab H1 P lp q->H1 c' =some (.ext (iG c' q))->sp f c' [v] [.ref f] H1 Q E):Gj P lp q sp E [j] [] sQ σ H Q:=by
 obtain⟨ps,e,tr,r⟩:=T;refine⟨ps,[v],e,tr,Z,(λi j' v' e1 e2=> ?_),?_⟩
 .cases i with
  |zero=>
   cases e1;cases e2;exact hj
  |succ i=>cases e1
 rcases r with r|⟨c,r1,r2⟩
 .refine .inl ⟨r,λf c' hf hc hfc=> ?_⟩;have ncP:c'≠P:=(aA e hc).symm;have nfP:f≠P:=(aA e hf).symm;refine h f c' _ hf ?_ (λb o hb eb=> ?_) ⟨_,(by rw[az ncP.symm];exact af),?_,.inr ⟨c',?_,af⟩⟩ af
  .rw[az hfc,az nfP];exact hf
  .rw[az (aA eb hc),az hb];exact eb
  .have:(ps++ #[rawInt lp.line,rawInt lp.col,.ref c']).toList=ps.toList++[rawInt lp.line,rawInt lp.col,.ref c']:=by simp
   rw[this];exact TriplesOk_snoc _ _ _ _ tr
  .have:(ps++ #[rawInt lp.line,rawInt lp.col,.ref c']).toList=ps.toList++[rawInt lp.line,rawInt lp.col,.ref c']:=by simp
   rw[this];exact codeAmong_snoc _ tr r
 .exact .inr ⟨c,r1,r2,λf hf=>h f c H hf hf (Kept.refl _ _) ⟨ps,e,tr,.inr ⟨c,r1,r2⟩⟩ r2⟩
theorem afi{sc:Scope}(h1:sc.kind= .function)(h2:sc.isCoroutine=false)(h3:sc.isGenerator=false)(h:sc.names=[(("_law_body_here" :Str),NameKind.free),(("Program" :Str),NameKind.globalImplicit)]):rS [] ["_law_body_here"] sc:=by
 refine⟨h1,h2,h3,by decide+kernel,(λ_ h=>nomatch h),?_,?_,?_⟩
 .rw[h];decide+kernel
 .rw[h];decide+kernel
 .rw[h];intro x hx;have hm:=gA hx;rcases aP.mp hm with z|hm
  .cases z;exact c5
  .rcases aP.mp hm with z|hm
   .cases z
   .cases hm
theorem abD{base:Y'}{cl:List (Str×S')}{x:Str}{kl:ak}(C:z_ base cl [x] kl):∃v,kl=[v]:=by
 exact bn1 (P:=λkl=>∃v,kl=[v]) (λv=>⟨v,Z⟩) kl C.len
theorem abF(T:Txt K mg A)(Fm:wR P w K A fm)(Fp:∀x:Str,bg.lookup x=none->eV fm.kF (.inr x)=none)(df:QU A){g_ :Y'}{f c' :S'}{name qual:Str}{scope:Scope}{pm ct oc:M'}{od:Option S'}{xM:Array (aO)}{p1 p2 p3:Pos}{cl:List (Str×S')}{kl:ak}
 (lk:g_.get? f=some ⟨oc,od,.func (kla_fn name qual {posonlyargs:=[],args:=[],vararg:=none,kwonlyargs:=[],kw_defaults:=[],kwarg:=none,defaults:=[]} (.Call (.Name "Program" p1) [.Name "_law_body_here" p2] [] p3) scope cl pm (.ref c') ct),xM⟩)
 (C:z_ g_ cl ["_law_body_here"] kl) (h1:scope.kind= .function:=by rfl) (h2:scope.isCoroutine=false:=by rfl) (h3:scope.isGenerator=false:=by rfl) (h:scope.names=[(("_law_body_here" :Str),NameKind.free),(("Program" :Str),NameKind.globalImplicit)]:=by rfl):
 aT P w K mg g_ dQ 53 A.qY A.qd ["_law_call"] (DP A f (EO A c' qual (kl.getD 0 .bp))):=by
 obtain⟨v,rfl⟩:=abD C;refine Eo T df (Qn T Fm Fp lk (afi h1 h2 h3 h) C (by rw[h];decide+kernel)) ⟨_,_,_,lk⟩ (Binds.all (bn0 Z))
theorem Tab.kept{H H' :Hp}{P P' :S'}{lp:Pos}{q:Str}{ps:Array M'}(t:Tab H P lp q)(k:Kept P' H H')(hP:P≠P')(e:H P' =some (.wg ps)):Tab H' P lp q:=by
 obtain⟨Lk,e1,tr,r⟩:=t;refine⟨Lk,k _ _ hP e1,tr,?_⟩;rcases r with r|⟨c,r1,r2⟩
 .exact .inl r
 .exact .inr ⟨c,r1,k _ _ (dw r2 e (λz=>nomatch z)) r2⟩
def fX(A:nT)(H H' :Hp):Prop:=∀b o,b≠A.cM->b≠A.ay->H b=some o->H' b=some o
structure o5(A:nT)(H:Hp):Prop where
 ne:A.cM≠A.ay
 p:Tab H A.cM lpP qP
 i:Tab H A.ay LY qI
theorem o5.same{A:nT}{H H' :Hp}(t:o5 A H)(s:ah H H'):o5 A H' :=⟨t.ne,t.p.same s,t.i.same s⟩
theorem fX.lst{A:nT}{H H' :Hp}(k:fX A H H')(t:o5 A H){c:S'}{xs:ak}(e:H c=some (.lst xs)):H' c=some (.lst xs):=by
 obtain⟨_,⟨ps1,e1,_⟩,⟨ps2,e2,_⟩⟩:=t;exact k _ _ (dw e e1 (λz=>nomatch z)) (dw e e2 (λz=>nomatch z)) e
theorem fX.trans{A:nT}{H H1 H2:Hp}(a:fX A H H1)(b:fX A H1 H2):fX A H H2:=λc o h1 h2 e=>b c o h1 h2 (a c o h1 h2 e)
theorem _root_.L2.ah.xZ{A:nT}{H H' :Hp}(s:ah H H'):fX A H H' :=λc o _ _ e=>s _ _ e
mutual
noncomputable def eK:U'->Nat
 | .list xs=>1+eU xs
 | .tuple xs=>1+eU xs
 | .dict kvs=>1+Wy kvs
 | .none=>1
 | .bool _=>1
 | .int _=>1
 | .str _=>1
noncomputable def eU:List U'->Nat
 |[]=>0
 |x::xs=>eK x+eU xs
noncomputable def Wy:List (U'×U')->Nat
 |[]=>0
 |(_,b)::r=>eK b+Wy r
end
noncomputable def dkP:List (U'×U')->Bool
 |[]=>true
 |[(.str x,.str y)]=>decide (x="tell")&&decide (y="a")
 |_=>false
noncomputable def mC:Nat->U'->Bool
 |0,_=>false
 |_+1,.none=>true
 |_+1,.bool _=>true
 |_+1,.int i=>decide (i.natAbs<10 ^ 40)
 |_+1,.str x=>decide (x.length<=10)&&PyData.strOk x
 |k+1,.list ds=>ds.all (mC k)
 |k+1,.tuple ds=>ds.all (mC k)
 |_+1,.dict D=>dkP D
theorem wc(d:U'):1<=eK d:=by cases d<;>(rw[eK];lia)
theorem h_:∀a b:List U',eU (a++b)=eU a+eU b
 |[],b=>by rw[oY,eU,Nat.zero_add]
 |x::r,b=>by rw[zT,eU,eU,h_ r b];lia
theorem EJ:∀{l:List U'} {x:U'},x∈l->eK x<=eU l
 |y::r,x,h=>by
  rw[eU];rcases aP.mp h with rfl|h
  .lia
  .have:=EJ h
   lia
theorem vP:∀l:List U',l.length<=eU l
 |[]=>cG _
 |x::r=>by
  rw[eU,bB];have:=vP r;have:=wc x
  lia
theorem Kq:∀D:List (U'×U'),eU (D.map (·.2))=Wy D
 |[]=>by rw[mM,eU,Wy]
 |(a,b)::r=>by rw[cP,eU,Wy,Kq r]
theorem zZ:∀(k:Nat) (d:U'),mC k d=true->mC (k+1) d=true
 |0,_,h=>by cases h
 |k+1,d,h=>by
  cases d with
  |list ds=>exact a7.mpr λx hx=>zZ k x (a7.mp h x hx)
  |tuple ds=>exact a7.mpr λx hx=>zZ k x (a7.mp h x hx)
  |_=>exact h
theorem nD{k j:Nat}{d:U'}(h:mC k d=true)(hj:k<=j):mC j d=true:=by
 induction hj with
 |refl=>exact h
 |step _ ih=>exact zZ _ _ ih
theorem GG{x:Str}(h:x.length<=10)(h' :PyData.strOk x=true)(k:Nat):Fits 200 k (.str x):=by
 refine⟨?_,?_,?_⟩
 .simp only[PyData.showable]
 .simp[PyData.depth]
 .have h1:=PyData.shown_le 8 (by decide) (.str x) (PyData.leavesShort_of_canLay0 8 _ (by simp only[PyData.canLay0];exact h') (by simp only[PyData.intsShort]));have h2:PyData.weight (.str x)=x.length:=by simp only[PyData.weight];rfl
  lia
theorem SW:∀(k:Nat) (d:U'),mC k d=true->Fits (202*eK d - 2) k d
 |0,_,h=>by cases h
 |k+1,d,h=>by
  have all:∀ds:List U',(∀x∈ds,mC k x=true)->c_ (202*eU ds) k ds:=λds=>by
   induction ds with
   |nil=>intro _;rw[eU];exact c_.nil
   |cons x r ih=>
    intro hx;have:=wc x;exact(c_.cons (SW k x (hx x c5)) (ih λy hy=>hx y (cw _ hy))).mono (by rw[eU];lia) (aK _)
  cases d with
  |none=>exact⟨rM.sh,by simp[PyData.depth],aU rM.ln (by rw[eK];decide)⟩
  |bool b=>exact⟨by simp only[PyData.showable],by simp[PyData.depth],aU (show(PyData.shown (.bool b)).length<=5 by cases b<;>decide+kernel) (by rw[eK];decide)⟩
  |int i=>
   have f:=rf (bE h);exact⟨f.sh,by simp[PyData.depth],aU f.ln (by rw[eK];decide)⟩
  |str x=>
   have h:(decide (x.length<=10)&&PyData.strOk x)=true:=h;rw[cH,iq] at h;exact(GG h.1 h.2 _).mono (by rw[eK];decide) (aK _)
  |list ds=>exact(all ds (a7.mp h)).list.mono (by rw[eK];lia) (aK _)
  |tuple ds=>exact(all ds (a7.mp h)).tup.mono (by rw[eK];lia) (aK _)
  |dict D=>
   have h:dkP D=true:=h;unfold dkP at h
   split at h
   .exact⟨by decide+kernel,by simp[PyData.depth,PyData.depthKv],aU (show(PyData.shown (.dict [])).length<=200 by decide+kernel) (by rw[eK,Wy];decide)⟩
   .rename_i x y;rw[cH,iq,iq] at h;obtain⟨rfl,rfl⟩:=h;exact⟨by decide+kernel,by simp[PyData.depth,PyData.depthKv],aU (show(PyData.shown (.dict [(.str "tell",.str "a")])).length<=200 by decide+kernel) (by rw[eK,Wy];lia)⟩
   .cases h
theorem IA{d:U'}{k m:Nat}(h:mC k d=true)(hs:eK d<=m)(hm:m<=50000)(hk:k<=90):d.showable=true/\d.depth<=90/\d.shown.length<=sizeLine:=by
 have f:=SW k d h;have hL:sizeLine=16777216:=rfl;have h1:=f.ln;have h2:=f.dp;exact⟨f.sh,by lia,by lia⟩
mutual
theorem b7.fn{H:Hp}:∀{v:V} {d d' :U'},b7 H v d->b7 H v d'->d' =d
 |_,_,_,.bp,h=>by cases h;rfl
 |_,_,_,.bl b,h=>by cases h;rfl
 |_,_,_,.int i,h=>by cases h;rfl
 |_,_,_,.str x,h=>by cases h;rfl
 |_,_,_,.lst e hd,h=>by
  cases h with
  |lst e' h' =>rw[e] at e';cases e';rw[bj.fn hd h']
  |tup e' h' =>rw[e] at e';cases e'
  |Ca e' hk h' =>rw[e] at e';cases e'
 |_,_,_,.tup e hd,h=>by
  cases h with
  |lst e' h' =>rw[e] at e';cases e'
  |tup e' h' =>rw[e] at e';cases e';rw[bj.fn hd h']
  |Ca e' hk h' =>rw[e] at e';cases e'
 |_,_,_,.Ca e hk hd,h=>by
  cases h with
  |lst e' h' =>rw[e] at e';cases e'
  |tup e' h' =>rw[e] at e';cases e'
  |Ca e' Xj h' =>
   rw[e] at e';cases e';have h2:=bj.fn hd h';have h1:=Xj.trans hk.symm
   congr 1
   have:∀(a b:List (U'×U')),a.map (·.1)=b.map (·.1)->a.map (·.2)=b.map (·.2)->a=b:=λa=>by
    induction a with
    |nil=>intro b h1 _;cases b with|nil=>rfl|cons _ _=>cases h1
    |cons p r ih=>
     intro b h1 h2
     cases b with
     |nil=>cases h1
     |cons q s=>
      rw[cP,cP,List.cons.injEq] at h1 h2;rw[ih s h1.2 h2.2,Prod.ext h1.1 h2.1]
   exact this _ _ h1 h2
theorem bj.fn{H:Hp}:∀{v:ak} {d d' :List U'},bj H v d->bj H v d'->d' =d
 |_,_,_,.nil,h=>by cases h;rfl
 |_,_,_,.cons a b,h=>by
  cases h with
  |cons a' b' =>rw[b7.fn a a',bj.fn b b']
end
mutual
theorem zG{H:Hp}:∀{v:V} {d:U'},Dat H v d->b7 H v d
 |_,_,.bp=> .bp
 |_,_,.bl b=> .bl b
 |_,_,.int i=> .int i
 |_,_,.str x=> .str x
 |_,_,.lst e h=> .lst e (uS h)
 |_,_,.tup e h=> .tup e (uS h)
theorem uS{H:Hp}:∀{v:ak} {d:List U'},DatAll H v d->bj H v d
 |_,_,.nil=> .nil
 |_,_,.cons h t=> .cons (zG h) (uS t)
end
mutual
theorem b7.apart{H H' :Hp}{a:S'}{xs:ak}{ds:List U'}(ha:H a=some (.lst xs))(hd:bj H xs ds)(k:∀c o,c≠a->H c=some o->H' c=some o):∀{v:V} {d:U'},b7 H v d->eK d<1+eU ds->b7 H' v d
 |_,_,.bp,_=> .bp
 |_,_,.bl b,_=> .bl b
 |_,_,.int i,_=> .int i
 |_,_,.str x,_=> .str x
 |_,_,.lst (a:=c) e h,hs=>by
  rw[eK] at hs;by_cases z:c=a
  .subst z;rw[ha] at e;cases e;rw[bj.fn hd h] at hs
   lia
  .exact .lst (k _ _ z e) (bj.apart ha hd k h (by lia))
 |_,_,.tup e h,hs=> .tup (k _ _ (dw e ha (λz=>nomatch z)) e) (bj.apart ha hd k h (by rw[eK] at hs;lia))
 |_,_,.Ca (D:=D) e hk h,hs=> .Ca (k _ _ (dw e ha (λz=>nomatch z)) e) hk (bj.apart ha hd k h (by rw[eK] at hs;rw[Kq];lia))
theorem bj.apart{H H' :Hp}{a:S'}{xs:ak}{ds:List U'}(ha:H a=some (.lst xs))(hd:bj H xs ds)(k:∀c o,c≠a->H c=some o->H' c=some o):∀{v:ak} {d:List U'},bj H v d->eU d<1+eU ds->bj H' v d
 |_,_,.nil,_=> .nil
 |_,_,.cons (d:=d) (ds:=r) h t,hs=> .cons (b7.apart ha hd k h (by rw[eU] at hs;lia)) (bj.apart ha hd k t (by rw[eU] at hs;lia))
end
theorem k8{H:Hp}{xs:ak}{ds:List U'}(h:bj H xs ds):∀x∈xs,∃d∈ds,b7 H x d:=by
 induction xs generalizing ds with
 |nil=>intro x hx;cases hx
 |cons y r ih=>
  cases h with
  |cons a b=>
   intro x hx;rcases aP.mp hx with rfl|hx
   .exact⟨_,c5,a⟩
   .obtain⟨d,hd,e⟩:=ih b x hx;exact⟨d,cw _ hd,e⟩
theorem bY{H:Hp}{xs:ak}{ds:List U'}(h:bj H xs ds):xs.length=ds.length:=by
 induction xs generalizing ds with
 |nil=>cases h;rfl
 |cons y r ih=>
  cases h with
  |cons a b=>rw[bB,bB,ih b]
theorem iA{H:Hp}{xs ys:ak}{ds es:List U'}(h:bj H xs ds)(g:bj H ys es):bj H (xs++ys) (ds++es):=by
 induction xs generalizing ds with
 |nil=>cases h;exact g
 |cons y r ih=>
  cases h with
  |cons a b=>exact .cons a (ih b)
def Sm(H:Hp)(k m:Nat)(v:V):Prop:=∃d,b7 H v d/\mC k d=true/\eK d<=m
theorem Sm.same{H H' :Hp}{k m:Nat}{v:V}(h:Sm H k m v)(s:ah H H'):Sm H' k m v:=by
 obtain⟨d,h1,h2⟩:=h;exact⟨d,h1.same s,h2⟩
theorem Sm.th{H:Hp}{k m:Nat}{v:V}(h:Sm H k m v):Th H v/\Sh v:=by
 obtain⟨d,h1,h2,_⟩:=h
 cases k with
 |zero=>cases h2
 |succ k=>
  cases h1 with
  |bp=>exact⟨.bp,trivial⟩
  |bl b=>exact⟨.bl b,trivial⟩
  |int i=>exact⟨.int i,bE (p:=i.natAbs<10 ^ 40) h2⟩
  |str x=>
   have h2:(decide (x.length<=10)&&PyData.strOk x)=true:=h2;rw[cH,iq] at h2;exact⟨.str x,aU h2.1 (by decide)⟩
  |lst e h=>exact⟨.lst e,trivial⟩
  |tup e h=>exact⟨.tup e,trivial⟩
  |Ca e hk h=>exact⟨.dK e,trivial⟩
theorem Sm.sq{H:Hp}{k m:Nat}{v:V}{xs:ak}(h:Sm H k m v)(e:nk H v=some xs):∃k',k=k' +1/\xs.length<m/\∀x∈xs,Sm H k' m x:=by
 obtain⟨d,h1,h2,h3⟩:=h
 cases k with
 |zero=>cases h2
 |succ k=>
  refine⟨k,Z,?_⟩
  cases h1 with
  | @lst a ys ds e' h=>
   simp only[nk,e',nA] at e;subst e;rw[eK] at h3;have hl:=vP ds;have h4:=bY h;refine⟨by lia,λx hx=> ?_⟩;obtain⟨d,hd,e⟩:=k8 h x hx;have:=EJ hd;exact⟨d,e,a7.mp h2 d hd,by lia⟩
  | @tup a ys ds e' h=>
   simp only[nk,e',nA] at e;subst e;rw[eK] at h3;have hl:=vP ds;have h4:=bY h;refine⟨by lia,λx hx=> ?_⟩;obtain⟨d,hd,e⟩:=k8 h x hx;have:=EJ hd;exact⟨d,e,a7.mp h2 d hd,by lia⟩
  |Ca e' hk h=>simp[nk,e'] at e
  |_=>cases e
theorem DI:∀(ks:au) (xs:ak) (b:V),b∈yj ks xs->b∈xs
 |[],_,b,h=>by simp[yj] at h
 |_::_,[],b,h=>by simp[yj] at h
 |k::ks,x::xs,b,h=>by
  rw[yj] at h
  split at h
  .rcases aP.mp h with rfl|h
   .exact c5
   .exact cw _ (DI ks xs b h)
  .exact cw _ (DI ks xs b h)
theorem Fn{H:Hp}{x b:V}(h:b∈fB H x):∃a ys,x= .ref a/\H a=some (.tup ys)/\b∈ys:=by
 unfold fB at h
 split at h
 .rename_i a
  split at h
  .rename_i ys e;unfold tbV at h
   split at h
   .rename_i w xs
    split at h
    .exact⟨a,_,Z,e,cw _ (DI _ _ _ h)⟩
    .cases h
   .cases h
  .cases h
 .cases h
theorem HE{H:Hp}{a:S'}{ys:ak}(e:H a=some (.tup ys)):nk H (.ref a)=some ys:=by simp[nk,e]
theorem Sm.dp{H:Hp}{m:Nat}(hm:m<=1000):∀(n k:Nat) (v:V),k<=2*n->Sm H k m v->Dp H n v
 |0,k,v,hk,h=>by
  obtain⟨d,_,h2,_⟩:=h;rw[show k=0 by lia] at h2;cases h2
 |n+1,k,v,hk,h=>by
  refine⟨h.th.1,h.th.2,λxs e=> ?_⟩;obtain⟨k',rfl,hl,hx⟩:=h.sq e;refine⟨by lia,λx Pk =>⟨⟨(hx x Pk).th.1,(hx x Pk).th.2,λa ys ea e2=> ?_⟩,λb hb=> ?_⟩⟩
  .subst ea;obtain⟨k2,rfl,n6,hy⟩:=(hx _ Pk).sq (HE e2);exact⟨by lia,λy XQ =>(hy y XQ).th⟩
  .obtain⟨a,ys,rfl,e2,hb⟩:=Fn hb;obtain⟨k2,rfl,n6,hy⟩:=(hx _ Pk).sq (HE e2);exact Sm.dp hm n k2 b (by lia) (hy b hb)
theorem Sm.mono{H:Hp}{k k' m:Nat}{v:V}(h:Sm H k m v)(hk:k<=k'):Sm H k' m v:=by
 obtain⟨d,h1,h2,h3⟩:=h;exact⟨d,h1,nD h2 hk,h3⟩
theorem Sm.fb{H:Hp}{m:Nat}:∀(n k:Nat) (v b:V),Sm H k m v->ke H n v=some b->Sm H k m b
 |0,k,v,b,h,e=>by cases e
 |n+1,k,v,b,h,e=>by
  unfold ke at e
  cases ev:nk H v with
  |none=>rw[ev] at e;cases e;exact h
  |some xs=>
   rw[ev] at e;obtain⟨x,hx,e⟩:=Bw (show xs.findSome? (λx=>if cf H x=true then(fB H x).findSome? (ke H n) else some x)=some b from e);obtain⟨k',rfl,_,hs⟩:=h.sq ev
   split at e
   .obtain⟨y,hy,e'⟩:=Bw e;obtain⟨a,ys,rfl,e2,hb⟩:=Fn hy;obtain⟨k2,rfl,_,hz⟩:=(hs _ hx).sq (HE e2);exact(Sm.fb n k2 y b (hz y hb) e').mono (by lia)
   .cases e;exact(hs _ hx).mono (by lia)
noncomputable def Yl:Nat->U'->Bool
 |0,_=>true
 |k+1,.list ds=>ds.all λx=>match x with
  | .list _=>false
  | .tuple ps=>ps.all (Yl k)
  |_=>true
 |k+1,.tuple ds=>ds.all λx=>match x with
  | .list _=>false
  | .tuple ps=>ps.all (Yl k)
  |_=>true
 |_+1,_=>true
theorem UA{H:Hp}:∀(n:Nat) (v b:V) (d:U'),b7 H v d->Yl n d=true->ke H n v=some b->∀a xs,b= .ref a->H a≠some (.lst xs)
 |0,v,b,d,h,hn,e=>by cases e
 |n+1,v,b,d,h,hn,e=>by
  unfold ke at e
  cases ev:nk H v with
  |none=>
   rw[ev] at e;cases e
   rintro a xs rfl e
   simp[nk,e] at ev
  |some xs=>
   rw[ev] at e;obtain⟨x,hx,e⟩:=Bw (show xs.findSome? (λx=>if cf H x=true then(fB H x).findSome? (ke H n) else some x)=some b from e)
   obtain⟨ds,Hj,Im⟩:∃ds,bj H xs ds/\∀y∈ds,(match y with
    | .list _=>false
    | .tuple ps=>ps.all (Yl n)
    |_=>true)=true:=by
    cases h with
    |lst e' h=>simp only[nk,e',nA] at ev;subst ev;exact⟨_,h,a7.mp hn⟩
    |tup e' h=>simp only[nk,e',nA] at ev;subst ev;exact⟨_,h,a7.mp hn⟩
    |Ca e' hk h=>simp[nk,e'] at ev
    |_=>cases ev
   obtain⟨y,hy,hxy⟩:=k8 Hj x hx;have hc:=Im y hy
   split at e
   .obtain⟨z,hz,e'⟩:=Bw e;obtain⟨a,ys,rfl,e2,hb⟩:=Fn hz
    cases hxy with
    |lst e3 _=>rw[e2] at e3;cases e3
    |Ca e3 _ _=>rw[e2] at e3;cases e3
    |tup e3 h3=>
     rw[e2] at e3;cases e3;obtain⟨dz,hdz,hz3⟩:=k8 h3 z hb;exact UA n z b dz hz3 (a7.mp hc dz hdz) e'
   .cases e
    rintro a xs rfl e
    cases hxy with
    |lst e3 _=>cases hc
    |tup e3 _=>rw[e] at e3;cases e3
    |Ca e3 _ _=>rw[e] at e3;cases e3
theorem OK(t:Bool)(ds:List U'):eK (iS t ds)=1+eU ds:=by
 cases t with
 |false=>show eK (.list ds)=_;rw[eK]
 |true=>show eK (.tuple ds)=_;rw[eK]
mutual
theorem alk:∀d:Dd,jM d<=eK (dD d)
 | .mk w ps bs=>by
  have:=WX bs;rw[jM,dD,eK,eU,h_]
  lia
theorem XS:∀s:Ds,eB s<=eU (sL s)
 | .nil=>by rw[eB];exact cG _
 | .cons d r=>by
  have h1:=ZI d;have h2:=XS r;rw[eB,sL,eU]
  lia
theorem ZI:∀d:Dd,jM d+1<=eK (dD d)
 | .mk w ps bs=>by
  have:=WX bs;rw[jM,dD,eK,eU,h_]
  lia
theorem WX:∀b:Bs,mX b<=eU (bL b)
 | .nil=>by rw[mX];exact cG _
 | .cons t b r=>by
  have h1:=XS b;have h2:=WX r;rw[mX,bL,eU,OK]
  lia
end
theorem Sm.mn{H:Hp}{k m:Nat}{v:V}{t:Bool}{s:Ds}(h:Sm H k m v)(hd:Dat H v (iS t (sL s))):eB s<=m:=by
 obtain⟨d,h1,_,h3⟩:=h;rw[<-b7.fn h1 (zG hd)] at h3;have:=XS s;rw[OK] at h3
 lia
theorem NZ{d:Dd}{ar:au}(ok:mv d)(h:∀x∈ar,cv x=true):∀x∈oI d ar,cv x=true:=λx hx=>by
 unfold oI at hx
 split at hx
 .rename_i hb;rcases aP.mp hx with rfl|hx
  .cases jaf ok with
   |ei t b u c=>exact absurd hb (by show ¬dX "either"=true;decide+kernel)
   |tu l m n t b hl hg _ _ _ _=>exact hl
   |fr l t b hl hg=>exact hl
   |sm w ks ps f hf n1 n2 n3=>
    have hb:dX w=true:=hb;unfold dX at hb;rw[ba n3,ba n2] at hb;cases hb
  .exact h x hx
 .exact h x hx
theorem Iv{ks:au}{ps:List U'}(h:iw ks ps):∀x:Str,PyData.str x∈ps->cv x=true:=by
 induction h with
 |nil=>intro x hx;cases hx
 |cons h t ih=>
  intro x hx;rcases aP.mp hx with rfl|hx
  .cases h with
   |name x h=>exact h
   |label x h n=>exact h
   |mark x h=>exact h
  .exact ih x hx
theorem M1{d:Dd}(ok:mv d):∀x:Str,PyData.str x∈d.ps->cv x=true:=by
 cases d with
 |mk w ps bs=>
  rw[mv] at ok;obtain⟨⟨ks,f,fit⟩,_⟩:=ok;exact Iv fit
theorem LC{r:Dd×au}(ok:mv r.1){x:Rf}(h:jW r=some x):∃l,(x= .twice l\/x= .qc l)/\cv l=true:=by
 unfold jW at h
 split at h
 .rename_i hb;cases h;refine⟨_,.inl Z,?_⟩;have:=NZ (ar:=[]) ok (λ_ h=>nomatch h) (jg r.1) (by unfold oI;rw[aB hb.1];exact c5);exact this
 .split at h
  .split at h
   .rename_i y hy
    split at h
    .cases h
    .cases h;refine⟨y,.inr Z,M1 ok y ?_⟩;unfold um at hy
     split at hy
     .rename_i e;cases hy;rw[e];simp
     .cases hy
   .cases h
  .cases h
theorem IW{s:Ds}(h:gL s=none):eB s<=40/\eQ s<=6:=by
 unfold gL at h;rw[Option.or_eq_none_iff] at h;have h:=h.1;unfold nW at h
 split at h
 .cases h
 .split at h
  .cases h
  .lia
def QO(H:Hp)(r:Rf):Prop:=∃dv,b7 H r.v dv/\(PyData.tuple [.str r.tag,dv]).showable=true/\(PyData.tuple [.str r.tag,dv]).depth<=90/\(PyData.tuple [.str r.tag,dv]).shown.length<=sizeLine
theorem Az(r:Rf):cv r.tag=true:=by cases r<;>(simp only[Rf.tag];decide+kernel)
theorem vw{H:Hp}{r:Rf}{dv:U'}(h:b7 H r.v dv)(f:Fits 100 3 dv):QO H r:=
 ⟨dv,h,((c_.cons (kY (Az r)) (c_.cons f c_.nil)).tup).rep (by decide) (by decide)⟩
theorem OG{H:Hp}{s:Ds}(ok:mD s)(dp:eQ s<40)(mn:eB s<=1000){r:Rf}(h:gL s=some r):QO H r/\∀a,r.v≠.ref a:=by
 unfold gL at h
 cases es:nW s with
 |some r' =>
  rw[es] at h;cases h;unfold nW at es
  split at es
  .cases es;exact⟨vw (.int _) (vq (by lia)),λ_ z=>nomatch z⟩
  .split at es
   .cases es;exact⟨vw (.int _) (vq (by lia)),λ_ z=>nomatch z⟩
   .cases es
 |none=>
  rw[es,ig] at h
  cases ef:(pI s ["ground"]).findSome? jW with
  |some r' =>
   rw[ef] at h;cases h;obtain⟨row,hr,e⟩:=Bw ef;obtain⟨l,h,hn⟩:=LC (xo s _ ok row hr) e
   rcases h with rfl|rfl<;>exact⟨vw (.str _) (kY hn),λ_ z=>nomatch z⟩
  |none=>
   rw[ef,ig] at h
   have sz:eB s<=40/\eQ s<=6:=by
    unfold nW at es
    split at es
    .cases es
    .split at es
     .cases es
     .lia
   have c:=Ac s ok;have t:=zN (d:=eQ s) (m:=eB s) sz.2 (by lia);unfold yY at h
   split at h
   .cases h;exact⟨vw (.int _) (vq (by lia)),λ_ z=>nomatch z⟩
   .split at h
    .cases h;exact⟨vw (.int _) (vq (by lia)),λ_ z=>nomatch z⟩
    .cases h
theorem Qp{H:Hp}{b:V}(h:Sm H 80 1000 b):QO H (.sO b):=by
 obtain⟨d,h1,h2,h3⟩:=h;refine⟨d,h1,IA (k:=81) (m:=1002) ?_ ?_ (by decide) (by decide)⟩
 .show([PyData.str (Rf.tag (.sO b)),d].all (mC 80))=true;rw[fk,fk,h2];show(mC 80 (.str "deed")&&(true&&true))=true;rw[show mC 80 (.str "deed")=true by decide+kernel];rfl
 .rw[eK,eU,eU,eU,eK]
  lia
mutual
theorem Eg{H H' :Hp}(k:∀c o,((∃xs,o= .lst xs)\/(∃xs,o= .tup xs)\/∃kvs,o= .dK kvs)->H c=some o->H' c=some o):∀{v:V} {d:U'},b7 H v d->b7 H' v d
 |_,_,.bp=> .bp
 |_,_,.bl b=> .bl b
 |_,_,.int i=> .int i
 |_,_,.str x=> .str x
 |_,_,.lst e h=> .lst (k _ _ (.inl ⟨_,Z⟩) e) (wK k h)
 |_,_,.tup e h=> .tup (k _ _ (.inr (.inl ⟨_,Z⟩)) e) (wK k h)
 |_,_,.Ca e hk h=> .Ca (k _ _ (.inr (.inr ⟨_,Z⟩)) e) hk (wK k h)
theorem wK{H H' :Hp}(k:∀c o,((∃xs,o= .lst xs)\/(∃xs,o= .tup xs)\/∃kvs,o= .dK kvs)->H c=some o->H' c=some o):∀{xs:ak} {ds:List U'},bj H xs ds->bj H' xs ds
 |_,_,.nil=> .nil
 |_,_,.cons h t=> .cons (Eg k h) (wK k t)
end
noncomputable def i8(A:nT)(H:Hp):Hp:=λc=>if c=A.cM\/c=A.ay then none else H c
theorem vE{A:nT}{H:Hp}{c:S'}{o:HO}(h:i8 A H c=some o):c≠A.cM/\c≠A.ay/\H c=some o:=by
 unfold i8 at h
 split at h
 .cases h
 .rename_i hn;exact⟨λz=>hn (.inl z),λz=>hn (.inr z),h⟩
theorem fX.h{A:nT}{H H' :Hp}(k:fX A H H'):ah (i8 A H) H' :=λc o e=>k c o (vE e).1 (vE e).2.1 (vE e).2.2
theorem Sm.h{A:nT}{H:Hp}{k m:Nat}{v:V}(t:o5 A H)(h:Sm H k m v):Sm (i8 A H) k m v:=by
 obtain⟨d,h1,h2⟩:=h;obtain⟨_,⟨ps1,e1,_⟩,⟨ps2,e2,_⟩⟩:=t;refine⟨d,Eg (λc o hc e=> ?_) h1,h2⟩
 have n:∀ps,o≠.wg ps:=λps z=>by
  rcases hc with⟨_,y⟩|⟨_,y⟩|⟨_,y⟩<;>(rw[z] at y;cases y)
 unfold i8;rw[ax]
 .exact e
 .rintro (rfl|rfl)
  .rw[e] at e1;cases e1;exact n _ rfl
  .rw[e] at e2;cases e2;exact n _ rfl
theorem Il{A:nT}{H:Hp}{v:V}(sm:Sm H 80 1000 v)(tabs:o5 A H):∃R:Option Rf,(∀Q2:VK,(∀L0 H',ah H H'->M7 H' L0 R->Q2 L0 H')->OU [v] H Q2 E0)/\match R with
 |some r=>QO (i8 A H) r/\(∀H',ah (i8 A H) H'->Tab H' A.ay LY qI->∀(Qm:S'->Hp->Prop) (Em:Rf->S'->Hp->Prop),(∀dx H2,Kept A.ay H' H2->Tab H2 A.ay LY qI->H2 dx=some (.xd [(r.fd,r.v)])->Em r dx H2)->RO A v H' Qm Em)/\(∀a xs,r.v= .ref a->i8 A H a=some (.lst xs)->ke H 40 v=some (.ref a))
 |none=>∃t s,Dat (i8 A H) v (iS t (sL s))/\mD s/\eQ s<40/\eB s<=1000/\gL s=none/\ke (i8 A H) 40 v=none:=by
 have s0:ah (i8 A H) H:=fX.h (ah.refl H).xZ;have gW:=sm.h tabs;have Q_:=gW.dp (aK _) 40 80 v (by lia);obtain⟨hD,ef⟩:=Dp.same s0 40 v Q_
 cases hb:ke (i8 A H) 40 v with
 |some b=>
  rw[hb] at ef;refine⟨some (.sO b),λQ2 h=>⟨v,Z,hD,λb' wO L0 H' s du=> ?_,λhn=> ?_⟩,Qp (gW.fb 40 80 v b hb),λH' s' tb Qm Em hE=> .inl ⟨b,?_,λdx H2 s2 e=>hE dx H2 s2.kept (tb.same s2) e⟩,λa xs e _=> ?_⟩
  .rw[ef] at wO;cases wO;exact h L0 H' s du
  .rw[ef] at hn;cases hn
  .rw[(Dp.same s' 40 v Q_).2,hb]
  .rw[ef,show b= .ref a from e]
 |none=>
  rw[hb] at ef;obtain⟨t,s,g1,g2,g3⟩:=De 40 v Q_ hb;have mn:=gW.mn g1;refine⟨gL s,λQ2 h=>⟨v,Z,hD,λb' wO => ?_,λ_=>⟨t,s,g1.same s0,g2,g3,mn,h⟩⟩,?_⟩
  .rw[ef] at wO;cases wO
  cases er:gL s with
  |none=>exact⟨t,s,g1,g2,g3,mn,er,Z⟩
  |some r=>
   obtain⟨r1,r2⟩:=OG (H:=i8 A H) g2 g3 mn er;refine⟨r1,λH' s' tb Qm Em hE=> .inr ⟨by rw[(Dp.same s' 40 v Q_).2,hb],t,s,g1.same s',g2,g3,mn,?_⟩,λa xs e _=>absurd e (r2 a)⟩;unfold E8;rw[er];exact λdx H2 k t' e=>hE dx H2 k t' e
theorem jan{K:Frag}{H:Hp}{v:V}{d:U'}(h:b7 H v d):∃t b,uV K H v t/\kitOne K t (.type "list")=some b/\(b=true->∃a xs ds,v= .ref a/\H a=some (.lst xs)/\d= .list ds/\bj H xs ds):=by
 cases h with
 |bp=>exact⟨_,false,.bp,Z,λz=>nomatch z⟩
 |bl b=>exact⟨_,false,.bl b,Z,λz=>nomatch z⟩
 |int i=>exact⟨_,false,.int i,Z,λz=>nomatch z⟩
 |str x=>exact⟨_,false,.str x,Z,λz=>nomatch z⟩
 |lst e h=>exact⟨_,true,.lst e,Z,λ_=>⟨_,_,_,Z,e,Z,h⟩⟩
 |tup e h=>exact⟨_,false,.tup e,Z,λz=>nomatch z⟩
 |Ca e hk h=>exact⟨_,false,.dK e,Z,λz=>nomatch z⟩
theorem Tab.Tn{H H' :Hp}{P a:S'}{lp:Pos}{q:Str}{xs:ak}(t:Tab H P lp q)(k:∀c o,c≠a->H c=some o->H' c=some o)(e:H a=some (.lst xs)):Tab H' P lp q:=by
 obtain⟨Lk,e1,tr,r⟩:=t;refine⟨Lk,k _ _ (dw e1 e (λz=>nomatch z)) e1,tr,?_⟩;rcases r with r|⟨c,r1,r2⟩
 .exact .inl r
 .exact .inr ⟨c,r1,k _ _ (dw r2 e (λz=>nomatch z)) r2⟩
def RtK(A:nT)(v:V)(H H' :Hp):Prop:=∀c o,c≠A.cM->c≠A.ay->H c=some o->H' c=some o\/(ke H 40 v=some (.ref c)/\∃xs,o= .lst xs)
def Ap(A:nT):Sp:=λvs H Q _=>∃v,vs=[v]/\Sm H 80 1000 v/\o5 A H/\∀H',RtK A v H H'->o5 A H'->Q (.bl true) H'
theorem tK(T:Txt K mg A)(Fm:wR P w K A fm)(Fp:∀x:Str,bg.lookup x=none->eV fm.kF (.inr x)=none)(df:QU A)(xr:K.In base):aT P w K mg base dQ 54 A.gE A.fJ ["_law_body_here"] (Ap A):=by
 refine T.oC.F.okC gX (λAr outer s0 H vs Q E hr h=> ?_) (λvs H Q E h=> ?_)
 .obtain⟨v,rfl,sm,tabs,q⟩:=h;have bnv:Vals ([]:ak) []:= .nil;have bnd:=T.mR.b;have Pf:=hr.gd;have OW:_+100<cLine:=jc (Nat.add_le_add_left (by decide:100<=16*53+200) _) (by have:=hr.un;omega);obtain⟨c0,ct⟩:=T.BS.tab (X:=ny dQ P w K mg base ["_law_body_here","_law_held","_law_due_here","_law_turn","_law_told"] "_law_right" (av kS) A.gE A.fJ.code Ar outer s0 H E) xr rfl;have bm:=T.bm.mod (X:=ny dQ P w K mg base ["_law_body_here","_law_held","_law_due_here","_law_turn","_law_told"] "_law_right" (av kS) A.gE A.fJ.code Ar outer s0 H E) xr;refine⟨_,(aj (gf 1 gX.nd (iW (gk Pf OW T.sm) T.qG Boot.«repr» (aM (pv 0)))) (aj (gf 2 gX.nd (cI (Gk T) hr T.Aw aC (aM (pv 0)))) (aj (AV (gB Z T.kL (aM ae)) (jk 3 gX.nd) (aj (gf 4 gX.nd (QX ct bm (show uM _ _ _ ["_law_body_here"] [0] from⟨Z,Z,(λi j x e1 e2=>by rcases i with _|i<;>cases e1<;>cases e2<;>rfl),(λx hx=>by rw[gv.mp hx];rfl),(λ_ _=>rfl),(λx hx=>by rw[gv.mp hx];rfl),(λx c h=>by rcases aP.mp (gA h) with z|z<;>cases z;exact c5)⟩) (λg_ f c' wQ kl lk cp=>abF T Fm Fp df lk cp) hr Z T.mR.m T.mR.F.kp bnd bnv aC)) (aj (bU (PW.pt (wT (wn A0 (pv 2) d_) (xz (PW.pt (WF (wn pR (cS aN (pv 4) ae) ai) (WP (wn pR (iW (gk Pf OW T.sm) T.qG Boot.«repr» (aM (afa (cS aN (pv 4) ae) T.jz T.ra (yL T) hr aC))) (iW (gk Pf OW T.sm) T.qG Boot.«repr» (aM (cI (Cc T 40) hr T.oE aC (aM (pv 0)))))))))))) (aq (aH kz)) bf) (aj (bU (PW.pt (WF (PW.pt (wT (wn zi (pv 2) d_) (xz (wn pR (iW (gk Pf OW T.sm) T.qG Boot.«repr» (aM (pv 4))) (iW (gk Pf OW T.sm) T.qG Boot.«repr» (aM (pv 2))))))) (WP (wn pR (iW (gk Pf OW T.sm) T.qG Boot.«repr» (aM (pv 0))) (pv 1))))) (aq (aH kz)) bf) (aq (bU (PW.pt (wT (wn zi (pv 2) d_) (wT (wn cK (pv 3) ae) (xz (gm (iW cC T.bM Boot.«isinstance» (ag (cS aN (pv 2) ae) (aM (eE (v:= .ty "list") Z T.AG Boot.«list» rfl))))))))) (aj (bW (mz gP D' F' dB (cS aN (pv 2) ae) (aM ai))) (aq (bU (wn pR (iW (gk Pf OW T.sm) T.qG Boot.«repr» (aM (pv 4))) (iW (gk Pf OW T.sm) T.qG Boot.«repr» (aM (pv 2)))) (aq (aH kz)) bf))) bf))))) (hp:=zk)) (aq (aH kz))))),?_⟩;obtain⟨R,adq,hR⟩:=Il sm tabs;have s0' :ah (i8 A H) H:=fX.h (ah.refl H).xZ;have gW:=sm.h tabs;have Q_:=gW.dp (aK _) 40 80 v (by lia);obtain⟨d,hd0,lu,szd⟩:=id gW;have F0:=IA lu szd (by decide) (by decide);refine⟨_,Z,v,d,Z,hd0.same s0',F0.1,F0.2.1,F0.2.2,?_⟩;refine⟨_,Z,adq _ λL0 H1 s1 du=> ?_⟩;have aak:=tabs.same s1;have k1:fX A H H1:=s1.xZ;refine⟨2,Z,by decide,by decide,?_⟩;have neN:∀c:S',decide (V.ref c=V.bp)=false:=λc=>ba λz=>nomatch z
  cases R with
  |none=>
   have du:L0= .bp:=du;subst du;obtain⟨t,s,g1,g2,g3,mn,er,hb⟩:=hR;obtain⟨m40,d6⟩:=IW er;have Yu:=((shS _ (Fl s g2)).tup).rep (by obtain⟨_,h,_⟩:=OZ s;lia) (by obtain⟨h,_⟩:=OZ s;lia);refine nS (λi σ H' =>∃x3 x4:Option V,σ=[some v,some (.str d.shown),some .bp,x3,x4]/\fX A H H'/\o5 A H') ⟨_,_,Z,k1,aak⟩ ?_ ?_
   .rintro i σ H' hi ⟨x3,x4,rfl,kp,tab⟩
    obtain⟨psP,eP,_⟩:=id tab.p;show Gj A.cM lpP qP (λf c' kl=>DP A f (EO A c' qP (kl.getD 0 .bp))) E0 [0] [] sQ _ H' _;refine Tab.Z3 tab.p Z λf c' H3 hf hf3 k3 t3 hc3=>⟨Z,λt0 Zg Q' E' hq he=> ?_⟩;have u0:=ah.upd (o:= .tup [V.str "other"]) Zg;have tabI:=(tab.i.kept k3 tab.ne.symm eP).same u0;have N6:=t3.same u0;have ZD:=u0 _ _ hc3;have Pl:fX A H (upd H3 t0 (.tup [V.str "other"])):=λb o h1 h2 e=>u0 _ _ (k3 _ _ h1 (kp _ _ h1 h2 e));generalize upd H3 t0 (.tup [V.str "other"])=H4 at tabI N6 ZD Pl ⊢;obtain⟨ps3,e3,_⟩:=id tabI;refine⟨_,Z,ZD,ah.refl _,(Dp.same Pl.h 40 v Q_).1,tabI,.inr ⟨(Dp.same Pl.h 40 v Q_).2.trans hb,t,s,g1.same Pl.h,g2,g3,mn,?_⟩⟩;unfold E8;rw[er];intro p tb ls H5 hp Kx hls k5 tb5 pr5;refine hq _ _ λtt EM=> ?_;have u6:=ah.upd (o:= .tup [V.str "program",.ref p]) EM;have e6:upd H5 tt (.tup [V.str "program",.ref p]) tt=some (.tup [V.str "program",.ref p]):=af;have J9:fX A H (upd H5 tt (.tup [V.str "program",.ref p])):=λb o h1 h2 e=>u6 _ _ (k5 _ _ h2 (Pl _ _ h1 h2 e));have Ej:o5 A (upd H5 tt (.tup [V.str "program",.ref p])):=⟨tab.ne,(N6.kept k5 tab.ne e3).same u6,tb5.same u6⟩
    have pr6:Ii A.aZ (upd H5 tt (.tup [V.str "program",.ref p])) p tb ls s:=by
     obtain⟨⟨dx,ho⟩,_,zs,hz,_⟩:=id pr5;exact pr5.kt (KT.same u6) ((u6 _ _ ho).trans ho.symm) ((u6 _ _ hz).trans hz.symm)
    generalize upd H5 tt (.tup [V.str "program",.ref p])=H6 at u6 e6 J9 Ej pr6 ⊢;obtain⟨MG,ho⟩:=id pr6.ob;refine⟨_,Z,Z,_,Z,?_⟩;rw[aS Z];refine a9 ⟨_,Z,tt,_,0,_,Z,Z,bc.of e6,gU _ _,Z,_,Z,PK ?_⟩;refine⟨_,Z,tt,_,1,_,Z,Z,bc.of e6,Z,p,MG,_,Z,ho,Z,p,tb,ls,s,Z,pr6,_,_,Z,zG pr6.body.dat,Yu.1,Yu.2.1,Yu.2.2,?_⟩;refine⟨_,Z,H6,v,t,s,Z,ah.refl _,g1.same J9.h,g2,g3,mn,λt7 H7 ht7 s7 td=>⟨_,_,Z,zG td.dat,Yu.1,Yu.2.1,Yu.2.2,Z,_,Z,PK ?_⟩⟩;have k07:=J9.trans s7.xZ;exact⟨_,Z,Z,_,Z,PK ⟨_,Z,v,d,Z,hd0.same k07.h,F0.1,F0.2.1,F0.2.2,_,Z,Z,_,Z,PK ⟨_,Z,Z,_,Z,PK ⟨_,_,Z,k07,Ej.same s7⟩⟩⟩⟩
   .rintro σ H' ⟨x3,x4,rfl,kp,tab⟩
    exact q H' (λc o h1 h2 e=> .inl (kp c o h1 h2 e)) tab
  |some r=>
   obtain⟨rv,mk,rl⟩:=hR;obtain⟨td,rfl,ed⟩:=du;obtain⟨dv,Yy,F1,F2,F3⟩:=rv;have dT:∀(Hx:Hp) (c:S'),ah (i8 A H) Hx->Hx c=some (.tup [.str r.tag,r.v])->b7 Hx (.ref c) (.tuple [.str r.tag,dv]):=λHx c s e=> .tup e (.cons (.str _) (.cons (Yy.same s) .nil));refine nS (λi σ H' =>∃x3 x4:Option V,σ=[some v,some (.str d.shown),some (.ref td),x3,x4]/\o5 A H'/\RtK A v H H'/\(i<2->fX A H H'/\H' td=some (.tup [.str r.tag,r.v]))) ⟨_,_,Z,aak,(λc o h1 h2 e=> .inl (k1 c o h1 h2 e)),λ_=>⟨k1,ed⟩⟩ ?_ ?_
   .rintro i σ H' hi ⟨x3,x4,rfl,tab,_,hh⟩
    obtain⟨kp,ed'⟩:=hh (by lia);obtain⟨psP,eP,_⟩:=id tab.p;show Gj A.cM lpP qP (λf c' kl=>DP A f (EO A c' qP (kl.getD 0 .bp))) E0 [0] [] sQ _ H' _;refine Tab.Z3 tab.p Z λf c' H3 hf hf3 k3 t3 hc3=>⟨Z,λt0 Zg Q' E' hq he=> ?_⟩;have u0:=ah.upd (o:= .tup [V.str "other"]) Zg;have tabI:=(tab.i.kept k3 tab.ne.symm eP).same u0;have N6:=t3.same u0;have ZD:=u0 _ _ hc3;have ed4:=u0 _ _ (k3 _ _ (dw ed' eP (λz=>nomatch z)) ed');have Pl:fX A H (upd H3 t0 (.tup [V.str "other"])):=λb o h1 h2 e=>u0 _ _ (k3 _ _ h1 (kp _ _ h1 h2 e));generalize upd H3 t0 (.tup [V.str "other"])=H4 at tabI N6 ZD Pl ed4 ⊢;obtain⟨ps3,e3,_⟩:=id tabI;refine⟨_,Z,ZD,ah.refl _,(Dp.same Pl.h 40 v Q_).1,tabI,mk H4 Pl.h tabI _ _ λdx H5 k5 tb5 e5=>he r dx H5 e5 λtt EM=> ?_⟩;have u6:=ah.upd (o:= .tup [V.str r.tag,r.v]) EM;have e6:upd H5 tt (.tup [V.str r.tag,r.v]) tt=some (.tup [V.str r.tag,r.v]):=af;have J9:fX A H (upd H5 tt (.tup [V.str r.tag,r.v])):=λb o h1 h2 e=>u6 _ _ (k5 _ _ h2 (Pl _ _ h1 h2 e));have Ej:o5 A (upd H5 tt (.tup [V.str r.tag,r.v])):=⟨tab.ne,(N6.kept k5 tab.ne e3).same u6,tb5.same u6⟩;have RT:=u6 _ _ (k5 _ _ (dw ed4 e3 (λz=>nomatch z)) ed4);generalize upd H5 tt (.tup [V.str r.tag,r.v])=H6 at u6 e6 J9 Ej RT ⊢;refine⟨_,Z,Z,_,Z,?_⟩;rw[neN];refine bo ⟨_,Z,Z,_,Z,?_⟩;rw[neN];refine a9 ⟨_,Z,_,_,Z,dT _ _ J9.h e6,F1,F2,F3,_,Z,_,_,Z,dT _ _ J9.h RT,F1,F2,F3,Z,_,Z,PK ⟨_,Z,v,d,Z,hd0.same J9.h,F0.1,F0.2.1,F0.2.2,_,Z,Z,_,Z,PK ⟨_,Z,Z,_,Z,?_⟩⟩⟩;rw[neN];refine a9 ⟨_,Z,Z,_,Z,?_⟩;by_cases h1:i=1
    rotate_left
    .rw[ba (λz=>h1 (by have:=V.int.inj z;lia))];exact bo ⟨_,_,Z,Ej,(λc o h1 h2 e=> .inl (J9 c o h1 h2 e)),λ_=>⟨J9,RT⟩⟩
    subst h1;rw[aS (show V.int (0+((1:Nat):Int))=V.int 1 from Z)];obtain⟨ty,b,hty,hk,hb⟩:=jan (K:=K) (Yy.same J9.h);refine a9 ⟨_,Z,td,_,1,_,Z,Z,bc.of RT,Z,_,_,ty,b,Z,hty,hk,_,Z,?_⟩
    cases b with
    |false=>exact bo ⟨_,_,Z,Ej,(λc o h1 h2 e=> .inl (J9 c o h1 h2 e)),λz=>absurd z (by decide)⟩
    |true=>
    refine a9 ?_;obtain⟨a,xs,ds,er,R4,rfl,Hj⟩:=hb rfl
    obtain⟨ea0,aj_⟩:i8 A H a=some (.lst xs)/\bj (i8 A H) xs ds:=by
     rw[er] at Yy
     cases Yy with
     |lst e h=>
      have:=J9.h _ _ e;rw[R4] at this;cases this;exact⟨e,h⟩
    have hfb:=rl a xs er ea0;obtain⟨d2,h2,ok2,sz2⟩:=gW.fb 40 80 v (.ref a) (by rw[<-(Dp.same s0' 40 v Q_).2];exact hfb);rw[er] at Yy;obtain rfl:d2= .list ds:=b7.fn Yy h2;rw[er] at RT e6
    have xl:xs.length<=1000:=by
     have h1:=bY Hj;have h3:=vP ds;rw[eK] at sz2
     lia
    refine⟨_,Z,td,_,1,_,Z,Z,bc.of RT,Z,JT R4,a,xs,_,Z,Z,R4,jc xl (by decide),?_⟩;have ka:∀c o,c≠a->H6 c=some o->upd H6 a (.lst (xs++[V.str "more"])) c=some o:=λc o hc e=>by rw[az hc];exact e
    have e7:upd H6 a (.lst (xs++[V.str "more"])) a=some (.lst (xs++[V.str "more"])):=af;have da7:=bj.apart R4 Hj ka Hj (by lia);have et7:=ka _ _ (dw e6 R4 (λz=>nomatch z)) e6;have ed7:=ka _ _ (dw RT R4 (λz=>nomatch z)) RT;have Zw:o5 A (upd H6 a (.lst (xs++[V.str "more"]))):=⟨Ej.ne,Ej.p.Tn ka R4,Ej.i.Tn ka R4⟩;generalize upd H6 a (.lst (xs++[V.str "more"]))=H7 at ka e7 da7 et7 ed7 Zw ⊢
    have F:(PyData.tuple [.str r.tag,.list (ds++[.str "more"])]).showable=true/\(PyData.tuple [.str r.tag,.list (ds++[.str "more"])]).depth<=90/\(PyData.tuple [.str r.tag,.list (ds++[.str "more"])]).shown.length<=sizeLine:=by
     refine IA (k:=81) (m:=1010) ?_ ?_ (by decide) (by decide)
     .have n1:=A6 (Az r);have n2:=Ei (Az r)
      have h1:mC 80 (.str r.tag)=true:=by
       show(decide (r.tag.length<=10)&&PyData.strOk r.tag)=true;rw[n2,aS (show r.tag.length<=10 by lia)];rfl
      have h3:mC 80 (.list (ds++[.str "more"]))=true:=by
       show(ds++[PyData.str "more"]).all (mC 79)=true;rw[List.all_append,show ds.all (mC 79)=true from ok2];decide+kernel
      show([PyData.str r.tag,.list (ds++[.str "more"])].all (mC 80))=true;rw[fk,fk,h1,h3];rfl
     .rw[eK] at sz2;rw[eK,eU,eU,eU,eK,eK,h_,eU,eU,eK]
      lia
    have dT7:∀c,H7 c=some (.tup [.str r.tag,.ref a])->b7 H7 (.ref c) (.tuple [.str r.tag,.list (ds++[.str "more"])]):=λc e=> .tup e (.cons (.str _) (.cons (.lst e7 (iA da7 (.cons (.str _) .nil))) .nil));refine⟨_,Z,_,_,Z,dT7 _ et7,F.1,F.2.1,F.2.2,_,Z,_,_,Z,dT7 _ ed7,F.1,F.2.1,F.2.2,Z,_,Z,PK ⟨_,_,Z,Zw,(λc o h1 h2 e=> ?_),λz=>absurd z (by decide)⟩⟩;by_cases z:c=a
    .subst z;refine .inr ⟨hfb,xs,?_⟩;have:=(vE ea0).2.2;rw[e] at this;exact fV this
    .exact .inl (ka _ _ z (J9 _ _ h1 h2 e))
   .rintro σ H' ⟨x3,x4,rfl,tab,rt,_⟩
    exact q H' rt tab
 .obtain⟨v,rfl,_⟩:=h;rfl
theorem e_{G H:Hp}{c:S'}{o:HO}(h:bw G H c=some o):H c=some o/\∀xs,o= .lst xs->G c=none:=by
 unfold bw at h
 cases e1:H c with
 |none=>rw[e1] at h;cases h
 |some o' =>
  rw[e1] at h
  cases o' with
  |lst ys=>
   cases e2:G c with
   |none=>rw[e2] at h;exact⟨h,λ_ _=>rfl⟩
   |some _=>rw[e2] at h;cases h
  |_=>
   refine⟨h,λxs z=> ?_⟩;cases h;cases z
theorem cL{G H:Hp}{c:S'}{o:HO}(e:H c=some o)(h:∀xs,o= .lst xs->G c=none):bw G H c=some o:=by
 unfold bw;rw[e]
 cases o with
 |lst ys=>rw[h ys Z]
 |_=>rfl
theorem vK{G H:Hp}:ah (bw G H) H:=λc o e=>(e_ e).1
theorem rH{G H H' :Hp}(k:∀c o,H c=some o->(∀xs,o= .lst xs->G c=none)->H' c=some o):ah (bw G H) (bw G H'):=λc o e=>cL (k _ _ (e_ e).1 (e_ e).2) (e_ e).2
theorem bh{G H H' :Hp}(s:ah H H'):ah (bw G H) (bw G H'):=rH λc o e _=>s _ _ e
theorem DF{G G' H:Hp}(s:∀c,G' c=none->G c=none):ah (bw G' H) (bw G H):=λc o e=>cL (e_ e).1 λxs z=>s c ((e_ e).2 xs z)
theorem gj{G H H' :Hp}{b:S'}{k:Nat}(B:dg H b k)(g:G b≠none)(kp:Kept b H H'):ah (bw G H) (bw G H'):=rH λc o e h=>kp _ _ (λz=>by
 obtain⟨x,y,zz,hb,_⟩:=B;rw[z,hb] at e;cases e;exact g (z▸h _ Z)) e
def Fr(G H:Hp):Prop:=∀c,H c=none->G c=none
theorem Fr.same{G H H' :Hp}(f:Fr G H)(s:ah H H'):Fr G H' :=λc h=>f c (s.free h)
structure kG(G:Hp)(t:TE)(σ:L2.St)(H:Hp)(d:U'):Prop where
 h:∀H1,ah H H1->∀Q:VK,(∀v H2,ah H1 H2->b7 (bw G H2) v d->Q v H2)->t σ H1 Q
structure Ir(G:Hp)(t:TA)(σ:L2.St)(H:Hp)(ds:List U'):Prop where
 h:∀H1,ah H H1->∀Q:ak->Hp->Prop,(∀vs H2,ah H1 H2->bj (bw G H2) vs ds->Q vs H2)->t σ H1 Q
section
variable{G H:Hp}{σ:L2.St}{te ta tb:TE}{tr:TA}{d:U'}{ds es:List U'}{K:Frag}
theorem iK:kG G (tC .bp) σ H .none:=⟨λH1 s Q h=>h _ _ (ah.refl _) .bp⟩
theorem P1{b:Bool}:kG G (tC (.bl b)) σ H (.bool b):=⟨λH1 s Q h=>h _ _ (ah.refl _) (.bl b)⟩
theorem fZ{i:Int}:kG G (tC (.int i)) σ H (.int i):=⟨λH1 s Q h=>h _ _ (ah.refl _) (.int i)⟩
theorem eT{x:Str}:kG G (tC (.str x)) σ H (.str x):=⟨λH1 s Q h=>h _ _ (ah.refl _) (.str x)⟩
theorem OM{i:Int}:kG G (tUn (rU λi=> .int (-i)) (tC (.int i))) σ H (.int (-i)):=⟨λH1 s Q h=>⟨i,Z,h _ _ (ah.refl _) (.int _)⟩⟩
theorem cE{i:Nat}{v:V}(hi:σ[i]? =some (some v))(hd:b7 (bw G H) v d):kG G (zY i) σ H d:=⟨λH1 s Q h=>⟨v,hi,h _ _ (ah.refl _) (hd.same (bh s))⟩⟩
theorem rp:kG G M8 σ H (.dict []):=⟨λH1 s Q h p hp=>h _ _ (ah.upd hp) (.Ca (cL af (λ_ z=>nomatch z)) Z .nil)⟩
theorem dh:Ir G sQ σ H []:=⟨λH1 s Q h=>h _ _ (ah.refl _) .nil⟩
theorem aW(h:kG G te σ H d)(t:Ir G tr σ H ds):Ir G (tL te tr) σ H (d::ds):=⟨λH1 s Q q=>h.h H1 s _ λv H2 s2 e=>t.h H2 (s.trans s2) _ λvs H3 s3 es=>q _ _ (s2.trans s3) (.cons (e.same (bh s3)) es)⟩
theorem kC(h:Ir G tr σ H ds)(hl:Nat.ble ds.length 1000=true:=by rfl):kG G (LB tr) σ H (.tuple ds):=⟨λH1 s Q q=>h.h H1 s _ λvs H2 s2 es=>⟨by rw[bY es];exact aU (oB hl) (by decide),λp hp=>q _ _ (s2.trans (ah.upd hp)) (.tup (cL af (λ_ z=>nomatch z)) (es.same (bh (ah.upd hp))))⟩⟩
theorem me(f:Fr G H)(h:Ir G tr σ H ds)(hl:Nat.ble ds.length 1000=true:=by rfl):kG G (Gx tr) σ H (.list ds):=⟨λH1 s Q q=>h.h H1 s _ λvs H2 s2 es=>⟨by rw[bY es];exact aU (oB hl) (by decide),λp hp=>q _ _ (s2.trans (ah.upd hp)) (.lst (cL af (λ_ _=>f p ((s.trans s2).free hp))) (es.same (bh (ah.upd hp))))⟩⟩
theorem kK{v:V}(h:b7 (bw G H) v (.list ds)):∃a xs,v= .ref a/\H a=some (.lst xs)/\bj (bw G H) xs ds:=by
 cases h with
 |lst e h=>exact⟨_,_,Z,(e_ e).1,h⟩
theorem So(f:Fr G H)(ha:kG G ta σ H (.list ds))(hb:kG G tb σ H (.list es))(hl:ds.length+es.length<=1000):kG G (wM Rc ta tb) σ H (.list (ds++es)):=⟨λH1 s Q q=>ha.h H1 s _ λv H2 s2 e=>hb.h H2 (s.trans s2) _ λu H3 s3 e' =>by
 obtain⟨a,xs,rfl,ea,hx⟩:=kK (e.same (bh s3));obtain⟨b,ys,rfl,eb,hy⟩:=kK e';exact⟨a,b,xs,ys,Z,Z,ea,eb,by rw[bY hx,bY hy];exact aU hl (by decide),λp hp=>q _ _ ((s2.trans s3).trans (ah.upd hp)) (.lst (cL af (λ_ _=>f p (((s.trans s2).trans s3).free hp))) ((iA hx hy).same (bh (ah.upd hp))))⟩⟩
theorem Dl{H:Hp}{xs:ak}{ds:List U'}(h:bj H xs ds):∀n:Nat,bj H (List.replicate n xs).flatten (List.replicate n ds).flatten
 |0=> .nil
 |n+1=>by
  rw[qH,qH,so,so];exact iA h (Dl h n)
theorem abj{n:Nat}(f:Fr G H)(ha:kG G ta σ H (.list ds))(hl:n*ds.length<=1000)(hn:n<=1000):kG G (wM XF ta (tC (.int (n:Int)))) σ H (.list (List.replicate n ds).flatten):=⟨λH1 s Q q=>ha.h H1 s _ λv H2 s2 e=>by
 obtain⟨a,xs,rfl,ea,hx⟩:=kK e;exact⟨a,n,xs,Z,Z,ea,by lia,by lia,by rw[bY hx,nB,Nat.mul_comm];exact aU hl (by decide),λp hp=>q _ _ (s2.trans (ah.upd hp)) (.lst (cL af (λ_ _=>f p ((s.trans s2).free hp))) ((Dl hx n).same (bh (ah.upd hp))))⟩⟩
theorem uO{H:Hp}{xs:ak}{ds:List U'}(h:bj H xs ds):∀n:Nat,bj H (xs.take n) (ds.take n):=by
 induction xs generalizing ds with
 |nil=>cases h;intro n;rw[zt,zt];exact .nil
 |cons y r ih=>
  cases h with
  |cons a b=>
   intro n
   cases n with
   |zero=>exact .nil
   |succ n=>exact .cons a (ih b n)
theorem Hl{H:Hp}{xs:ak}{ds:List U'}(h:bj H xs ds):∀n:Nat,bj H (xs.drop n) (ds.drop n):=by
 induction xs generalizing ds with
 |nil=>cases h;intro n;rw[List.drop_nil,List.drop_nil];exact .nil
 |cons y r ih=>
  cases h with
  |cons a b=>
   intro n
   cases n with
   |zero=>exact .cons a b
   |succ n=>exact ih b n
theorem FH(xs:ak)(n:Nat):c6 xs none (some (n:Int))=xs.take n:=by
 unfold c6;rw[HT.qo,HT.h9,List.drop_zero,zq];by_cases h:n<=xs.length
 .rw[ED h]
 .rw[Nat.min_eq_right (by lia),oq (aK _),oq (by lia)]
theorem acV{n:Nat}(f:Fr G H)(ha:kG G ta σ H (.list ds)):kG G (U6 (Vz K) ta se (CS (tC (.int (n:Int))))) σ H (.list (ds.take n)):=⟨λH1 s Q q=>ha.h H1 s _ λv H2 s2 e=>by
 obtain⟨a,xs,rfl,ea,hx⟩:=kK e;refine⟨_,Z,a,xs,Z,cF.of ea,λp hp=> ?_⟩;rw[FH];exact q _ _ (s2.trans (ah.upd hp)) (.lst (cL af (λ_ _=>f p ((s.trans s2).free hp))) ((uO hx n).same (bh (ah.upd hp))))⟩
end
theorem xf{K:Frag}{G H:Hp}{v:V}{ds:List U'}{i:Int}{Q:VK}(h:b7 (bw G H) v (.list ds))(h0:0<=i)(h1:i<ds.length)(q:∀u d,d∈ds->b7 (bw G H) u d->Q u H):P5 K v (.int i) H Q:=by
 obtain⟨a,xs,rfl,ea,hx⟩:=kK h;refine gO (λu=>∃d∈ds,b7 (bw G H) u d) ea h0 (by rw[bY hx];exact h1) (k8 hx) (by rintro u ⟨d,hd,e⟩;exact q u d hd e)
section
variable{G H:Hp}{σ:L2.St}{te ta tb th tl:TE}{tr:TA}{d:U'}{ds es:List U'}{K:Frag}
theorem AK{v:V}(h:b7 (bw G H) v (.tuple ds)):∃a xs,v= .ref a/\H a=some (.tup xs)/\bj (bw G H) xs ds:=by
 cases h with
 |tup e h=>exact⟨_,_,Z,(e_ e).1,h⟩
theorem ux(ha:kG G ta σ H (.tuple ds))(hb:kG G tb σ H (.tuple es))(hn:ds≠[])(hl:ds.length+es.length<=1000):kG G (wM (T4 K) ta tb) σ H (.tuple (ds++es)):=⟨λH1 s Q q=>ha.h H1 s _ λv H2 s2 e=>hb.h H2 (s.trans s2) _ λu H3 s3 e' =>by
 obtain⟨a,xs,rfl,ea,hx⟩:=AK (e.same (bh s3));obtain⟨b,ys,rfl,eb,hy⟩:=AK e';have lx:=bY hx;have ly:=bY hy;refine⟨a,b,xs,ys,Z,Z,bc.of ea,bc.of eb,(λz=>hn ?_),by rw[lx,ly];exact aU hl (by decide),(λz=> ?_),λ_ p hp=>q _ _ ((s2.trans s3).trans (ah.upd hp)) (.tup (cL af (λ_ z=>nomatch z)) ((iA hx hy).same (bh (ah.upd hp))))⟩
 .rw[z] at lx;exact qp lx.symm
 .subst z;cases hy;rw[fG] at q;exact q _ _ (s2.trans s3) (.tup (cL ea (λ_ z=>nomatch z)) hx)⟩
theorem MU{n:Nat}(ha:kG G ta σ H (.tuple ds))(hn:n<ds.length)(ht:∀(H:Hp) (Q:VK),Q (.int (n:Int)) H->th σ H Q):kG G (U6 (Q7 K) ta se (CS th)) σ H (.tuple (ds.take n)):=⟨λH1 s Q q=>ha.h H1 s _ λv H2 s2 e=>by
 obtain⟨a,xs,rfl,ea,hx⟩:=AK e;have lx:=bY hx;refine ht _ _ ⟨_,Z,a,xs,Z,bc.of ea,?_,λp hp=> ?_⟩
 .rintro ⟨_,z⟩
  rw[HT.h9] at z
  lia
 .rw[FH];exact q _ _ (s2.trans (ah.upd hp)) (.tup (cL af (λ_ z=>nomatch z)) ((uO hx n).same (bh (ah.upd hp))))⟩
theorem BI{n:Nat}(ha:kG G ta σ H (.tuple ds))(hn:1<=n)(hd:1<=ds.length)(ht:∀(H:Hp) (Q:VK),Q (.int (n:Int)) H->tl σ H Q):kG G (U6 (Q7 K) ta (CS tl) se) σ H (.tuple (ds.drop n)):=⟨λH1 s Q q=>ha.h H1 s _ λv H2 s2 e=>by
 obtain⟨a,xs,rfl,ea,hx⟩:=AK e;have lx:=bY hx;refine ht _ _ ⟨_,Z,a,xs,Z,bc.of ea,?_,λp hp=> ?_⟩
 .rintro ⟨z,_⟩
  rw[HT.h9] at z
  lia
 .rw[mf];exact q _ _ (s2.trans (ah.upd hp)) (.tup (cL af (λ_ z=>nomatch z)) ((Hl hx n).same (bh (ah.upd hp))))⟩
end
theorem NL:∀(ds:List U') (n:Nat),eU (ds.take n)+eU (ds.drop n)=eU ds:=λds n=>by rw[<-h_,jE]
theorem Wj{n:Nat}(h:0<n):HT.gz n n (some (-1))=n - 1:=by
 show(if(-1:Int)<0 then((-1:Int)+(n:Int)).toNat else min (-1:Int).toNat n)=_;rw[aB (by decide)]
 lia
theorem C5{H:Hp}:∀{xs:ak} {ds:List U'} {i:Nat} {u:V},bj H xs ds->xs[i]? =some u->∃d,ds[i]? =some d/\b7 H u d
 |_,_,0,_,.cons a b,e=>by cases e;exact⟨_,Z,a⟩
 |_,_,i+1,_,.cons a b,e=>C5 (i:=i) b e
theorem UR:∀{ds:List U'} {i:Nat} {d:U'},ds[i]? =some d->eU (ds.take i)+eK d+eU (ds.drop (i+1))=eU ds
 |e::r,0,d,h=>by
  cases h;show eU []+eK e+eU r=eU (e::r);rw[eU,eU]
  lia
 |e::r,i+1,d,h=>by
  have:=UR (ds:=r) (i:=i) h;show eU (e::r.take i)+eK d+eU (r.drop (i+1))=eU (e::r);rw[eU,eU]
  lia
section
variable{G H:Hp}{σ:L2.St}{ta:TE}{ds:List U'}{K:Frag}
theorem NR(ha:kG G ta σ H (.tuple ds))(hd:1<=ds.length):kG G (U6 (Q7 K) ta se (CS (tUn (rU λi=> .int (-i)) (tC (.int 1))))) σ H (.tuple (ds.take (ds.length - 1))):=⟨λH1 s Q q=>ha.h H1 s _ λv H2 s2 e=>by
 obtain⟨a,xs,rfl,ea,hx⟩:=AK e;have lx:=bY hx;have e1:=Wj (n:=xs.length) (by lia);refine⟨1,Z,_,Z,a,xs,Z,bc.of ea,?_,λp hp=> ?_⟩
 .rintro ⟨_,z⟩
  rw[e1] at z
  lia
 .have:c6 xs none (some (-1))=xs.take (ds.length - 1):=by
   unfold c6;rw[HT.qo,e1,List.drop_zero,zq,lx]
  rw[this];exact q _ _ (s2.trans (ah.upd hp)) (.tup (cL af (λ_ z=>nomatch z)) ((uO hx _).same (bh (ah.upd hp))))⟩
theorem Xb{n:Nat}{i j:Int}(h:σ[n]? =some (some (.int i))):kG G (wM (Pd λi j=> .int (i+j)) (zY n) (tC (.int j))) σ H (.int (i+j)):=⟨λH1 s Q q=>⟨_,h,i,j,Z,Z,q _ _ (ah.refl _) (.int _)⟩⟩
theorem Wz{n:Nat}{i j:Int}(h:σ[n]? =some (some (.int i))):kG G (wM (Pd λi j=> .int (i - j)) (zY n) (tC (.int j))) σ H (.int (i - j)):=⟨λH1 s Q q=>⟨_,h,i,j,Z,Z,q _ _ (ah.refl _) (.int _)⟩⟩
theorem ZR{n:Nat}{i j:Int}(h:σ[n]? =some (some (.int i))):kG G (wM rEq (zY n) (tC (.int j))) σ H (.bool (decide (V.int i=V.int j))):=⟨λH1 s Q q=>⟨_,h,Z,q _ _ (ah.refl _) (.bl _)⟩⟩
theorem L5{i j:Int}(h:NA i j):kG G (wM (rI NA λi j=> .int (i ^ j.toNat)) (tC (.int i)) (tC (.int j))) σ H (.int (i ^ j.toNat)):=⟨λH1 s Q q=>⟨i,j,Z,Z,h,q _ _ (ah.refl _) (.int _)⟩⟩
end
theorem t_{te:TE}{g:TG}{D:Ends}{σ:L2.St}{H:Hp}(h:te σ H λx H1=>g x σ H1 D.nx):FO te g D σ H:=h
theorem Iq{r:R2}{ta tb:TE}{σ:L2.St}{H:Hp}{Q:VK}(h:ta σ H λx H1=>tb σ H1 λy H2=>r x y H2 Q):wM r ta tb σ H Q:=h
theorem C2{te:TE}{D:Ends}{σ:L2.St}{H:Hp}(h:te σ H D.rt):Xm te D σ H:=h
theorem AF{i:Nat}{v:V}{σ:L2.St}{H:Hp}{Q:L2.St->Hp->Prop}(h:Q (σ.set i (some v)) H):uY i v σ H Q:=h
theorem xW{a b:TS}{D:Ends}{σ:L2.St}{H:Hp}(h:a {D with nx:=b D} σ H):FU a b D σ H:=h
theorem xB{G H:Hp}{tr:TA}{σ:L2.St}{d:U'}{Q:VK}(h:kG G (Gx tr) σ H d)(q:∀v H2,ah H H2->b7 (bw G H2) v d->Q v H2):Gx tr σ H Q:=h.h H (ah.refl H) Q q
theorem F5{G H:Hp}{r:R2}{ta tb:TE}{σ:L2.St}{d:U'}{Q:VK}(h:kG G (wM r ta tb) σ H d)(q:∀v H2,ah H H2->b7 (bw G H2) v d->Q v H2):wM r ta tb σ H Q:=h.h H (ah.refl H) Q q
theorem jao{X:Prop}{M F:V->Hp->Prop}(h:(∀v h,F v h->M v h)->X)(k:∀v h,F v h->M v h):X:=h k
noncomputable def Z6:List U':=[.none,.bool true,.bool false,.int (-1),.int 7,.int ((10:Int) ^ (29:Int).toNat),.str "",.str "A",.str "abcdefg",.str "ground",.str "a b",.tuple [.str "a"],.list [],.tuple [],.str "f",.dict []]
noncomputable def UX:List U':=[.str "make",.str "put",.str "get",.str "set",.str "copy",.str "more",.str "tell",.str "same",.str "frame",.str "turns",.str "Make"]
noncomputable def SY:List U':=[.none,.int 7,.str "tell",.list [],.tuple [],.dict [],.bool true,.tuple [.str "nothing",.str "a"],.tuple [.int 7,.str "a"],.tuple [.none],.tuple [.list [],.str "a"],.tuple [.dict []]]
def VE:Sp:=λvs H Q _=>∃(G:Hp) (b t:S') (x:V) (xs:ak) (ds:List U') (k k0:Nat),vs=[.ref b,.ref t]/\dg H b k/\k+20<=100000/\G b≠none/\Fr G H/\H t=some (.tup (x::xs))/\xs≠[]/\xs.length<=4/\bj (bw G H) (x::xs) ds/\3<=k0/\(∀d∈ds,mC k0 d=true)/\
 ∀v d H',b7 (bw G H') v d->mC (k0+1) d=true->eK d<=eU ds+8->dg H' b (k+20)->Kept b H H'->Q v H'
theorem EY(T:Txt K mg A):aT P w K mg base dQ 2 A.yi A.yC ["_law_box_here","_law_deed"] VE:=by
 refine T.xN.F.okN dj ?_
 rintro cB Ar outer s H vs Q E hr ⟨G,b,t,x,xs,ds,k,k0,rfl,B,hk,gb,fr,ht,wN,hl,Hj,h3,bT,q⟩
 refine⟨_,(aD (bN (i:=2) dj.nd Z (Or.inl Z) (my (aE T) hr T.aG aC (λ_ _=>rfl) (λ_ _=>rfl) (aa (λ_ _=>rfl) ⟨(pv 0)⟩ (aa (λ_ _=>rfl) ⟨ae⟩ ao))) (by kernel_rfl) (Or.inl Z)) (aD (bN (i:=3) dj.nd Z (Or.inl Z) (bF bA ⟨ae⟩ (my (aE T) hr T.aG aC (λ_ _=>rfl) (λ_ _=>rfl) (aa (λ_ _=>rfl) ⟨(pv 0)⟩ (aa (λ_ _=>rfl) (bF i9 ⟨(iW br T.g7 Boot.«len» (aM (pv 1)))⟩ ⟨ae⟩) ao)))) (by kernel_rfl) (Or.inl Z)) (aD (bN (i:=4) dj.nd Z (Or.inl Z) (uC aN ⟨(pv 1)⟩ ⟨(pv 3)⟩ (λ_ _=>rfl)) (by kernel_rfl) (Or.inl Z)) (aD (bN (i:=5) dj.nd Z (Or.inl Z) ⟨(pv 4)⟩ (by kernel_rfl) (Or.inl Z)) (aD (eO (PW.pt (wT (gm (cI (mh T) hr T.jL aC (aM (pv 4)))) (xz (wn Ao (iW Lg T.aby Boot.«abs» (aM (pv 4))) (aL qt ae ae))))) (bC (bN (i:=5) dj.nd Z (Or.inl Z) (uC a8 (aI (aa (λ_ _=>rfl) (bF bA ⟨(pv 4)⟩ ⟨ae⟩) (aa (λ_ _=>rfl) (bF i9 ⟨(pv 4)⟩ ⟨ae⟩) (aa (λ_ _=>rfl) ⟨(H_ cK (pv 4) ae)⟩ (aa (λ_ _=>rfl) ⟨ae⟩ (aa (λ_ _=>rfl) ⟨ae⟩ (aa (λ_ _=>rfl) ⟨ae⟩ (aa (λ_ _=>rfl) ⟨ae⟩ (aa (λ_ _=>rfl) ⟨ae⟩ ao))))))))) (my (aE T) hr T.aG aC (λ_ _=>rfl) (λ_ _=>rfl) (aa (λ_ _=>rfl) ⟨(pv 0)⟩ (aa (λ_ _=>rfl) ⟨ae⟩ ao))) (λ_ _=>rfl)) (by kernel_rfl) (Or.inl Z))) cg) (aD (bN (i:=6) dj.nd Z (Or.inl Z) (aI (aa (λ_ _=>rfl) ⟨d_⟩ (aa (λ_ _=>rfl) ⟨kz⟩ (aa (λ_ _=>rfl) ⟨kz⟩ (aa (λ_ _=>rfl) ⟨(NG Jf ae)⟩ (aa (λ_ _=>rfl) ⟨ae⟩ (aa (λ_ _=>rfl) (bF qt ⟨ae⟩ ⟨ae⟩) (aa (λ_ _=>rfl) ⟨ai⟩ (aa (λ_ _=>rfl) ⟨ai⟩ (aa (λ_ _=>rfl) ⟨ai⟩ (aa (λ_ _=>rfl) ⟨ai⟩ (aa (λ_ _=>rfl) ⟨ai⟩ (aa (λ_ _=>rfl) (aR (aa (λ_ _=>rfl) ⟨ai⟩ ao)) (aa (λ_ _=>rfl) (aI ao) (aa (λ_ _=>rfl) (aR ao) (aa (λ_ _=>rfl) ⟨ai⟩ (aa (λ_ _=>rfl) ⟨qh⟩ ao))))))))))))))))) (by kernel_rfl) (Or.inl Z)) (aD (bN (i:=7) dj.nd Z (Or.inl Z) (uC a8 ⟨(pv 6)⟩ (my (aE T) hr T.aG aC (λ_ _=>rfl) (λ_ _=>rfl) (aa (λ_ _=>rfl) ⟨(pv 0)⟩ (aa (λ_ _=>rfl) ⟨ae⟩ ao))) (λ_ _=>rfl)) (by kernel_rfl) (Or.inl Z)) (aD (bN (i:=8) dj.nd Z (Or.inl Z) (uC a8 (aI (aa (λ_ _=>rfl) ⟨ai⟩ (aa (λ_ _=>rfl) ⟨ai⟩ (aa (λ_ _=>rfl) ⟨ai⟩ (aa (λ_ _=>rfl) ⟨ai⟩ (aa (λ_ _=>rfl) ⟨ai⟩ (aa (λ_ _=>rfl) ⟨ai⟩ (aa (λ_ _=>rfl) ⟨ai⟩ (aa (λ_ _=>rfl) ⟨ai⟩ (aa (λ_ _=>rfl) ⟨ai⟩ (aa (λ_ _=>rfl) ⟨ai⟩ (aa (λ_ _=>rfl) ⟨ai⟩ ao)))))))))))) (my (aE T) hr T.aG aC (λ_ _=>rfl) (λ_ _=>rfl) (aa (λ_ _=>rfl) ⟨(pv 0)⟩ (aa (λ_ _=>rfl) ⟨ae⟩ ao))) (λ_ _=>rfl)) (by kernel_rfl) (Or.inl Z)) (aD (eO (wn cK (pv 2) ae) (aD (bN (i:=9) dj.nd Z (Or.inl Z) (aI (aa (λ_ _=>rfl) ⟨d_⟩ (aa (λ_ _=>rfl) ⟨ae⟩ (aa (λ_ _=>rfl) ⟨ai⟩ (aa (λ_ _=>rfl) (aI ao) (aa (λ_ _=>rfl) (aR ao) (aa (λ_ _=>rfl) ⟨qh⟩ (aa (λ_ _=>rfl) ⟨kz⟩ (aa (λ_ _=>rfl) (aR (aa (λ_ _=>rfl) ⟨ai⟩ (aa (λ_ _=>rfl) ⟨ai⟩ ao))) (aa (λ_ _=>rfl) (aR (aa (λ_ _=>rfl) ⟨ae⟩ (aa (λ_ _=>rfl) ⟨ai⟩ ao))) (aa (λ_ _=>rfl) (aR (aa (λ_ _=>rfl) ⟨d_⟩ ao)) (aa (λ_ _=>rfl) (aR (aa (λ_ _=>rfl) (aI ao) (aa (λ_ _=>rfl) ⟨ai⟩ ao))) (aa (λ_ _=>rfl) (aR (aa (λ_ _=>rfl) ⟨qh⟩ ao)) ao))))))))))))) (by kernel_rfl) (Or.inl Z)) (bC (jH (uC a8 (bF fM ⟨(pv 9)⟩ (aI (aa (λ_ _=>rfl) (aR (aa (λ_ _=>rfl) (aR (aa (λ_ _=>rfl) ⟨ai⟩ (aa (λ_ _=>rfl) ⟨ai⟩ ao))) ao)) ao))) (my (aE T) hr T.aG aC (λ_ _=>rfl) (λ_ _=>rfl) (aa (λ_ _=>rfl) ⟨(pv 0)⟩ (aa (λ_ _=>rfl) ⟨ae⟩ ao))) (λ_ _=>rfl))))) cg) (aD (eO (wn cK (pv 2) ae) (bC (jH ⟨(Ox Es T.AG Boot.«list» (aM (pv 1)))⟩)) cg) (aD (eO (wn cK (pv 2) ae) (bC (jH (uC a8 (aI (aa (λ_ _=>rfl) (jA iu ⟨(pv 1)⟩ bZ (bQ (NG Jf ae))) (aa (λ_ _=>rfl) (bF jF ⟨(pv 1)⟩ (aR (aa (λ_ _=>rfl) ⟨d_⟩ ao))) (aa (λ_ _=>rfl) (bF jF ⟨(pv 1)⟩ (aR (aa (λ_ _=>rfl) ⟨ai⟩ ao))) ao)))) (my (aE T) hr T.aG aC (λ_ _=>rfl) (λ_ _=>rfl) (aa (λ_ _=>rfl) ⟨(pv 0)⟩ (aa (λ_ _=>rfl) ⟨ae⟩ ao))) (λ_ _=>rfl)))) cg) (aD (eO (wn cK (pv 2) ae) (bC (jH (bF jF (aR (aa (λ_ _=>rfl) ⟨(pv 8)⟩ ao)) (jA iu ⟨(pv 1)⟩ (bQ ae) bZ)))) cg) (aD (eO (wn Ao (pv 2) ae) (bC (jH (bF jF (bF jF (jA iu ⟨(pv 1)⟩ bZ (bQ (pv 3))) (aR (aa (λ_ _=>rfl) ⟨(pv 5)⟩ ao))) (jA iu ⟨(pv 1)⟩ (bQ (aL bA (pv 3) ae)) bZ)))) cg) (bC (jH (bF jF (bF jF (jA iu ⟨(pv 1)⟩ bZ (bQ (pv 3))) (aR (aa (λ_ _=>rfl) ⟨(pv 7)⟩ ao))) (jA iu ⟨(pv 1)⟩ (bQ (aL bA (pv 3) ae)) bZ))))))))))))))))),?_⟩;have hdt:b7 (bw G H) (.ref t) (.tuple ds):= .tup (cL ht (λ_ z=>nomatch z)) Hj;have dl:=bY Hj;have Ff:=EE.mpr wN;rw[bB] at dl;have W0:Sw b H k H:=⟨B,Kept.refl _ _⟩;have dat:∀{H' :Hp} {k' :Nat} {v:V} {d:U'},Sw b H k' H'->b7 (bw G H) v d->b7 (bw G H') v d:=λW h=>h.same (gj B gb W.kp)
 have NK :∀{H' :Hp} {k' :Nat},Sw b H k' H'->Fr G H' :=λ{H' k'} W c hc=>fr c (by
  cases e:H c with
  |none=>rfl
  |some o=>rw[W.kp _ o (W.box.ne hc) e] at hc;cases hc)
 refine⟨_,Z,b,9,k,Z,B,by lia,by decide,by decide,λmode H1 m0 m1 B1 O1=> ?_⟩;have W1:=W0.take B1 O1;have tup:∀{H' :Hp} {k' :Nat},Sw b H k' H'->H' t=some (.tup (x::xs)):=λW=>W.kp _ _ (λz=>by obtain⟨_,_,_,hb,_⟩:=B;rw[<-z,ht] at hb;cases hb) ht;refine⟨_,Z,_,Z,t,_,Z,.inr (bc.of (tup W1)),_,_,Z,Z,b,_,k+1,Z,B1,by lia,?_,?_,λr2 H2 p0 p1 B2 O2=> ?_⟩
 .rw[bB];lia
 .rw[bB];lia
 have W2:=W1.take B2 O2;obtain⟨j,rfl⟩:∃j:Nat,r2=j:=⟨r2.toNat,by lia⟩;have hj:j<xs.length:=by rw[bB] at p1;lia
 refine⟨1,(j:Int),Z,Z,?_⟩;obtain⟨u,eu⟩:∃u,(x::xs)[1+j]? =some u:=⟨xs[j],by rw[Nat.add_comm];simp[hj]⟩;obtain⟨du,edu,hu⟩:=C5 Hj eu;have zu:=UR edu;have oku:=bT du (bD edu);have hu2:=dat W2 hu;obtain⟨thu,shu⟩:=(show Sm (bw G H2) k0 (eK du) u from⟨du,hu2,oku,aK _⟩).th;have wV:Th H2 u:=thu.same vK;refine⟨_,Z,_,Z,t,_,_,u,Z,Z,bc.of (tup W2),(show M_ (x::xs) (1+(j:Int))=some u by rw[show(1:Int)+(j:Int)=((1+j:Nat):Int) by lia];exact bb eu),_,Z,?_⟩;have fin:∀(v:V) (d:U') (H' :Hp) (k' :Nat),Sw b H k' H'->k'<=k+20->b7 (bw G H') v d->mC (k0+1) d=true->eK d<=eU ds+8->Q v H' :=λv d H' k' W Xj e1 e2 e3=>q v d H' e1 e2 e3 (W.box.mono Xj) W.kp;apply jao (F:=λv h=>∃dn k',Sw b H k' h/\k'<=k+3/\b7 (bw G h) v dn/\mC k0 dn=true/\eK dn<=eK du)
 .intro hM;refine⟨_,Z,u,Z,wV,_,Z,?_⟩;by_cases hn:∃i,u= .int i
  .obtain⟨i,hi⟩:=hn;have hv:some (some u)=some (some (V.int i)):=by rw[hi]
   rw[show BH u=true by rw[hi];rfl];refine a9 ⟨_,Z,i,(by rw[hi]),10,29,Z,Z,⟨by decide,by decide,by decide⟩,_,_,Z,Z,_,Z,?_⟩;by_cases hb:(if i<0 then -i else i)<(10:Int) ^ (29:Int).toNat
   .rw[aS hb];have e29:(10:Int) ^ (29:Int).toNat=100000000000000000000000000000:=by decide+kernel
    rw[e29] at hb;have uP:i.natAbs<100000000000000000000000000000:=by split at hb<;>lia
    refine a9 (t_ (Iq (xB (me (G:=G) (NK W2) (aW (Xb (i:=i) hv) (aW (Wz (i:=i) hv) (aW (ZR (i:=i) hv) (aW fZ (aW fZ (aW fZ (aW fZ (aW fZ dh))))))))) λv3 H3 s3 d3=> ?_)));have W3:=W2.same s3;refine⟨_,Z,b,8,_,Z,W3.box,by lia,by decide,by decide,λr4 H4 a0 a1 B4 O4=>xf (d3.same (gj W3.box gb O4.kept)) a0 a1 λnv dn WH en=> ?_⟩;refine hM nv H4 ⟨dn,_,W3.take B4 O4,aK _,en,?_⟩;have h40:(100000000000000000000000000010:Nat)<=10 ^ 40:=by decide+kernel
    have ki:∀z:Int,z.natAbs<100000000000000000000000000010->mC k0 (.int z)=true/\eK (.int z)<=eK du:=λz hz=>⟨nD (k:=1) (aS (show z.natAbs<10 ^ 40 by lia)) (by lia),by rw[eK];exact wc du⟩;simp only[aP,cO,cN] at WH;rcases WH with rfl|rfl|rfl|rfl|rfl|rfl|rfl|rfl
    .exact ki _ (by lia)
    .exact ki _ (by lia)
    .exact⟨nD (k:=1) Z (by lia),by rw[eK];exact wc du⟩
    all_goals exact ki _ (by decide)
   .rw[ba hb];exact bo (hM _ H2 ⟨du,_,W2,by lia,hu2,oku,aK _⟩)
  .have:BH u=false:=by cases u<;>first|rfl|exact absurd ⟨_,rfl⟩ hn
   rw[this];exact bo (hM _ H2 ⟨du,_,W2,by lia,hu2,oku,aK _⟩)
 .rintro nv H3 ⟨dn,k3,W3,hk3,en,okn,zn⟩
  have zf:eU (ds.take (1+j))+eU (ds.drop (1+j+1))+eK du=eU ds:=by lia
  refine AF ?_;dsimp only;refine xW (t_ (xB (G:=G) (d:= .list Z6) ?_ λv6 H4 s4 d4=>AF ?_))
  .refine me (NK W3) ?_
   repeat (first|exact dh|refine aW ?_ ?_|exact iK|exact P1|exact fZ|exact eT|exact OM|exact rp|refine kC ?_|exact L5 ⟨by decide,by decide,by decide⟩|refine me (NK W3) ?_)
  dsimp only;have W4:=W3.same s4;refine xW (t_ (Iq ⟨_,Z,_,Z,b,16,_,Z,W4.box,by lia,by decide,by decide,λr5 H5 a0 a1 B5 O5=>xf (d4.same (gj W4.box gb O5.kept)) a0 a1 λov od hod eo=>AF ?_⟩));have W5:=W4.take B5 O5;dsimp only;refine xW (t_ (Iq (xB (G:=G) (d:= .list UX) ?_ λv8 H6 s6 d6=> ?_)))
  .refine me (NK W5) ?_
   repeat (first|exact dh|refine aW ?_ ?_|exact iK|exact P1|exact fZ|exact eT|exact OM|exact rp|refine kC ?_|exact L5 ⟨by decide,by decide,by decide⟩|refine me (NK W5) ?_)
  have W6:=W5.same s6;refine⟨_,Z,b,11,_,Z,W6.box,by lia,by decide,by decide,λr7 H7 c0 c1 B7 O7=>xf (d6.same (gj W6.box gb O7.kept)) c0 c1 λwv wd hwd ew=>AF ?_⟩;have W7:=W6.take B7 O7;have UK:=dat W7 hdt;have en7:=((en.same (bh s4)).same (gj W4.box gb O5.kept)).same ((bh s6).trans (gj W6.box gb O7.kept));have eo7:=eo.same ((bh s6).trans (gj W6.box gb O7.kept))
  obtain⟨ok1,z1⟩:mC 3 od=true/\eK od<=2:=by
   have:=a7.mp (show Z6.all (λd=>mC 3 d&&decide (eK d<=2))=true by decide+kernel) od hod;rw[cH,iq] at this;exact this
  obtain⟨ok2,z2⟩:mC 3 wd=true/\eK wd<=2:=by
   have:=a7.mp (show UX.all (λd=>mC 3 d&&decide (eK d<=2))=true by decide+kernel) wd hwd;rw[cH,iq] at this;exact this
  dsimp only;refine xW ⟨_,Z,Z,_,Z,?_⟩;have adL:=Hj.same (gj B gb W7.kp);have dne:ds≠[]:=λz=>by rw[z] at dl;cases dl
  have okL:∀es:List U',(∀d∈es,mC k0 d=true)->mC (k0+1) (.tuple es)=true:=λes h=>a7.mpr h;have aeA :=nD ok1 h3;have aeR :=nD ok2 h3;refine mF (λ_=> ?_) (λ_=> ?_)
  .refine xW (t_ (xB (G:=G) (d:= .list SY) ?_ λv9 H8 s8 d8=>AF ?_))
   .refine me (NK W7) ?_
    repeat (first|exact dh|refine aW ?_ ?_|exact iK|exact P1|exact fZ|exact eT|exact OM|exact rp|refine kC ?_|exact L5 ⟨by decide,by decide,by decide⟩|refine me (NK W7) ?_)
   dsimp only;have W8:=W7.same s8;refine C2 (Iq (F5 (G:=G) (So (NK W8) (cE Z d8) (me (NK W8) (aW (kC (aW (kC (aW eT (aW eT dh))) dh)) dh)) (by decide)) λv10 H9 s9 d9=> ?_));have W9:=W8.same s9;refine⟨_,Z,b,13,_,Z,W9.box,by lia,by decide,by decide,λr HA a0 a1 BA OA=>xf (d9.same (gj W9.box gb OA.kept)) a0 a1 λuv ud X6 euv=> ?_⟩;have:=a7.mp (show(SY++[PyData.tuple [.tuple [.str "tell",.str "a"]]]).all (λd=>mC 4 d&&decide (eK d<=8))=true by decide+kernel) ud X6;rw[cH,iq] at this;exact fin uv ud HA _ (W9.take BA OA) (by lia) euv (nD this.1 (by lia)) (by lia)
  refine⟨_,Z,Z,_,Z,mF (λ_=> ?_) (λ_=> ?_)⟩
  .exact⟨_,Z,t,_,Z,.inr (bc.of (tup W7)),λl hl=>fin _ (.list ds) _ _ (W7.same (ah.upd hl)) (by lia) (.lst (cL af (λ_ _=>NK W7 l hl)) (adL.same (bh (ah.upd hl)))) (a7.mpr bT) (by rw[eK];lia)⟩
  refine⟨_,Z,Z,_,Z,mF (λ_=> ?_) (λ_=> ?_)⟩
  .refine C2 (Iq (xB (G:=G) (me (NK W7) (aW (NR (cE Z UK) (by lia)) (aW (ux (cE Z UK) (kC (aW iK dh)) dne (by show ds.length+1<=1000;lia)) (aW (ux (cE Z UK) (kC (aW eT dh)) dne (by show ds.length+1<=1000;lia)) dh)))) λv9 H8 s8 d8=> ?_));have W8:=W7.same s8;refine⟨_,Z,b,3,_,Z,W8.box,by lia,by decide,by decide,λr HA a0 a1 BA OA=>xf (d8.same (gj W8.box gb OA.kept)) a0 a1 λuv ud X6 euv=> ?_⟩
   have one:∀z,mC 3 z=true->eK z=1->mC (k0+1) (.tuple (ds++[z]))=true/\eK (.tuple (ds++[z]))<=eU ds+8:=λz hz h1=>⟨okL _ λd hd=>by
    rcases eA.mp hd with hd|hd
    .exact bT d hd
    .rw[gv.mp hd];exact nD hz h3,by rw[eK,h_,eU,eU,h1];lia⟩
   have key:mC (k0+1) ud=true/\eK ud<=eU ds+8:=by
    simp only[aP,cO,cN] at X6;rcases X6 with rfl|rfl|rfl
    .exact⟨okL _ λd hd=>bT d (List.mem_of_mem_take hd),by rw[eK];have:=NL ds (ds.length - 1);lia⟩
    .exact one _ Z (by rw[eK])
    .exact one _ (by decide+kernel) (by rw[eK])
   exact fin uv ud HA _ (W8.take BA OA) (by lia) euv key.1 key.2
  refine⟨_,Z,Z,_,Z,mF (λ_=> ?_) (λ_=> ?_)⟩
  .refine C2 (F5 (G:=G) (ux (kC (aW (cE Z ew) dh)) (BI (n:=1) (cE Z UK) (aK 1) (by lia) (λ_ _ h=>h)) (λz=>nomatch z) (by rw[ow];show 1+(ds.length - 1)<=1000;lia)) λv9 H8 s8 d8=> ?_);refine fin _ _ _ _ (W7.same s8) (by lia) d8 (okL _ λd hd=> ?_) ?_
   .rcases eA.mp hd with hd|hd
    .rw[gv.mp hd];exact aeR
    .exact bT d (List.mem_of_mem_drop hd)
   .have:=NL ds 1;rw[eK,h_,eU,eU]
    lia
  have ep:((1+j:Nat):Int)=1+(j:Int):=by lia
  have ep2:((1+j+1:Nat):Int)=1+(j:Int)+1:=by lia
  have tne:ds.take (1+j)≠[]:=λz=>by
   have:=congrArg List.length z;rw[lW] at this;simp only[m5] at this
   lia
  have tl1:(ds.take (1+j)).length<=5:=by rw[lW];lia
  have tl2:(ds.drop (1+j+1)).length<=5:=by rw[ow];lia
  have last:∀(z:U') (v:V) (H' :Hp),mC k0 z=true->eK z<=eK du+2->ah H7 H'->b7 (bw G H') v (.tuple (ds.take (1+j)++[z]++ds.drop (1+j+1)))->Q v H' :=λz v H' hz h1 s' e=>by
   refine fin v _ H' _ (W7.same s') (by lia) e (okL _ λd hd=> ?_) ?_
   .rcases eA.mp hd with hd|hd
    .rcases eA.mp hd with hd|hd
     .exact bT d (List.mem_of_mem_take hd)
     .rw[gv.mp hd];exact hz
    .exact bT d (List.mem_of_mem_drop hd)
   .rw[eK,h_,h_,eU,eU]
    lia
  have zdu:=wc du;refine⟨_,Z,mode,6,Z,Z,_,Z,mF (λ_=> ?_) (λ_=> ?_)⟩
  .refine C2 (F5 (G:=G) (ux (ux (MU (n:=1+j) (cE Z UK) (by lia) (λ_ _ h=>⟨_,Z,ep▸h⟩)) (kC (aW (cE Z en7) dh)) tne (by show _+1<=1000;lia)) (BI (n:=1+j+1) (cE Z UK) (by lia) (by lia) (λH' Q' h=>⟨_,Z,_,_,Z,Z,show Q' (V.int (1+(j:Int)+1)) H' from ep2▸h⟩)) (by simp) (by rw[bu];show _+1+_<=1000;lia)) λv9 H8 s8 d8=>last dn v9 H8 okn (by lia) s8 d8)
  .refine C2 (F5 (G:=G) (ux (ux (MU (n:=1+j) (cE Z UK) (by lia) (λ_ _ h=>⟨_,Z,ep▸h⟩)) (kC (aW (cE Z eo7) dh)) tne (by show _+1<=1000;lia)) (BI (n:=1+j+1) (cE Z UK) (by lia) (by lia) (λH' Q' h=>⟨_,Z,_,_,Z,Z,show Q' (V.int (1+(j:Int)+1)) H' from ep2▸h⟩)) (by simp) (by rw[bu];show _+1+_<=1000;lia)) λv9 H8 s8 d8=>last od v9 H8 aeA (by lia) s8 d8)
theorem z7{J:It}{k:Nat}{js:List Nat}{g:TG}{tt:TT}{te:TE}{σ:L2.St}{H:Hp}{Q:VK}{xs:ak}(W:S'->Nat->ak->Hp->Prop)(hlen:xs.length<=sizeLine)(hF:∀p i ys H',W p i ys H'->wb J H' xs)(h0:∀p,H p=none->W p 0 [] (upd H p (.lst [])))
 (hs:∀(p:S') (i:Nat) (x:V) (ys:ak) (H' :Hp) (C1:V->Hp->Prop) (C0:Hp->Prop),H p=none->xs[i]? =some x->W p i ys H'->H' p=some (.lst ys)->(∀y H4,H4 p=some (.lst ys)->W p (i+1) (ys++[y]) (upd H4 p (.lst (ys++[y])))->C1 y H4)->(∀H3,H3 p=some (.lst ys)->W p (i+1) ys H3->C0 H3)->
  g x (yS k js σ) H' λmV H2=>gJ (yS k js σ) mV/\tt mV H2 λb H3=>if b=true then te mV H3 C1 else C0 H3)
 (hq:∀p ys H',H p=none->W p xs.length ys H'->H' p=some (.lst ys)->ys.length<=xs.length->Q (.ref p) H'):nO J k js g tt te σ H Q:=by
 intro p hp;refine⟨λi m ys H' =>m=xs.length - i/\i<=xs.length/\ys.length<=i/\H' p=some (.lst ys)/\W p i ys H',⟨_,Z,cG _,aK _,af,h0 p hp⟩,?_⟩
 rintro i m ys H' ⟨rfl,hi,BR,hl,hW⟩
 refine⟨hl,?_⟩;have F:=hF p i ys H' hW;by_cases ky:i<xs.length
 .refine .inr ⟨F.go i _ (ah.refl _) ky,by lia,λx g6 hy=> ?_⟩;obtain⟨rfl,e⟩:=F.BO i _ x g6 (ah.refl _) hy;exact hs p i x ys _ _ _ hp (e ky) hW hl (λy H4 e4 w=>⟨e4,xs.length - (i+1),by lia,Z,ky,by rw[bu];exact Nat.succ_le_succ BR,af,w⟩) λH3 e3 w=>⟨xs.length - (i+1),by lia,Z,ky,by lia,e3,w⟩
 .have e:i=xs.length:=by lia
  subst e;exact .inl ⟨F.stop _ _ (ah.refl _) (aK _),hq p ys H' hp hW hl BR⟩
theorem Y7{X:Prop}{M F:S'->Hp->Prop}(h:(∀a h,F a h->M a h)->X)(k:∀a h,F a h->M a h):X:=h k
theorem wC{x:Str}(h:cv x=true):mC 1 (.str x)=true:=by
 have h1:=A6 h;show(decide (x.length<=10)&&PyData.strOk x)=true;rw[Ei h,aS (show x.length<=10 by lia)];rfl
theorem Jz{k:Str}{d:U'}(h:zO k d):mC 1 d=true/\eK d=1:=by
 cases h with
 |name x h=>exact⟨wC h,by rw[eK]⟩
 |label x h n=>exact⟨wC h,by rw[eK]⟩
 |GZ=>exact⟨Z,by rw[eK]⟩
 |mark x h=>exact⟨wC h,by rw[eK]⟩
 |DT=>exact⟨Z,by rw[eK]⟩
 |value i h=>exact⟨aS h,by rw[eK]⟩
 |number i h=>exact⟨aS h,by rw[eK]⟩
 |num k lo hi i h h1 h2=>
  have:=bE (a7.mp (show(xc.all λp=>decide (0<=p.2.1/\p.2.2<=6))=true by decide+kernel) _ h);exact⟨aS (jc (show i.natAbs<=6 by have h3:(0:Int)<=lo:=this.1;have h4:hi<=(6:Int):=this.2;lia) (by decide+kernel)),by rw[eK]⟩
theorem IJ{ks:au}{ps:List U'}(h:iw ks ps):(∀d∈ps,mC 1 d=true)/\eU ps=ps.length:=by
 induction h with
 |nil=>exact⟨(λd hd=>nomatch hd),by rw[eU];rfl⟩
 |cons h t ih=>
  refine⟨λd hd=> ?_,?_⟩
  .rcases aP.mp hd with rfl|hd
   .exact(Jz h).1
   .exact ih.1 d hd
  .rw[eU,(Jz h).2,ih.2,bB,Nat.add_comm]
theorem WJ(s:Ds):(s.l.map λd=>1+jM d).sum=eB s:=by
 rw[BF]
 induction s.l with
 |nil=>rfl
 |cons d r ih=>
  rw[cP,kP,ih,cP,kP,bB]
  lia
theorem Kf:∀b:Bs,(b.l.map λp=>eB p.2).sum=mX b
 | .nil=>by rw[mX];rfl
 | .cons t b r=>by
  show eB b+(r.l.map λp=>eB p.2).sum=_;rw[mX,Kf r]
theorem DW{α:Type}(f:α->Nat):∀(l:List α) (i:Nat),((l.take i).map f).sum<=(l.map f).sum
 |[],i=>by rw[zt];exact aK _
 |x::r,0=>cG _
 |x::r,i+1=>by
  rw[List.take_succ_cons,cP,cP,kP,kP];have:=DW f r i
  lia
structure Pw(b ct:S')(H H' :Hp)(k:Nat):Prop where
 box:dg H' b k
 cn:∃m,H' ct=some (.lst [.int m])
 kp:hU b ct H H'
theorem Pw.same{b ct:S'}{H H' H2:Hp}{k:Nat}(h:Pw b ct H H' k)(s:ah H' H2):Pw b ct H H2 k:=by
 obtain⟨m,e⟩:=h.cn;exact⟨h.box.same s,⟨m,s _ _ e⟩,h.kp.trans s.iC⟩
theorem Pw.trans{b ct:S'}{H H' H2:Hp}{k k2:Nat}(h:Pw b ct H H' k)(p:Pw b ct H' H2 k2):Pw b ct H H2 k2:=⟨p.box,p.cn,h.kp.trans p.kp⟩
theorem Pw.RG{b ct:S'}{H H' :Hp}{k:Nat}(h:Pw b ct H H' k):Pw b ct H' H' k:=⟨h.box,h.cn,λ_ _ _ _ e=>e⟩
theorem Pw.upd{b ct p:S'}{H H' :Hp}{k:Nat}{o:HO}(h:Pw b ct H H' k)(hp:H p=none)(nb:p≠b)(nc:p≠ct):Pw b ct H (upd H' p o) k:=by
 obtain⟨x,y,z,hb,r⟩:=h.box;obtain⟨m,hm⟩:=h.cn;refine⟨⟨x,y,z,by rw[az nb.symm];exact hb,r⟩,⟨m,by rw[az nc.symm];exact hm⟩,λc o' h1 h2 e=> ?_⟩;rw[az (aA e hp)];exact h.kp _ _ h1 h2 e
theorem FN{G H:Hp}{p:S'}{xs:ak}{o:HO}(g:G p≠none)(e:H p=some (.lst xs)):ah (bw G H) (bw G (upd H p o)):=rH λc o' e' hl=>by
 by_cases z:c=p
 .rw[z,e] at e';cases e';exact absurd (z▸hl _ Z) g
 .rw[az z];exact e'
theorem N4{G:Hp}{a c:S'}{o:HO}(h:upd G a o c=none):c≠a/\G c=none:=by
 by_cases z:c=a
 .rw[z,af] at h;cases h
 .rw[az z] at h;exact⟨z,h⟩
theorem Pw.free{b ct c:S'}{H H' :Hp}{k:Nat}(h:Pw b ct H H' k)(hc:H' c=none):H c=none:=by
 cases e:H c with
 |none=>rfl
 |some o=>
  obtain⟨m,em⟩:=h.cn;rw[h.kp _ o (h.box.ne hc) (aA em hc).symm e] at hc;cases hc
theorem Pw.new{b ct:S'}{G H H' H2:Hp}{k k2:Nat}(h:Pw b ct H H' k)(gb:G b≠none)(gc:G ct≠none)(p:Pw b ct H' H2 k2):ah (bw G H') (bw G H2):=rH λc o e hl=>by
 obtain⟨x,y,z,hb,_⟩:=h.box;obtain⟨m,hm⟩:=h.cn;refine p.kp _ _ (λw=> ?_) (λw=> ?_) e
 .rw[w,hb] at e;cases e;exact gb (w▸hl _ Z)
 .rw[w,hm] at e;cases e;exact gc (w▸hl _ Z)
def aa7(n:Nat):Sp:=λvs H Q _=>∃(G H0:Hp) (b ct nl:S') (v:V) (t:Bool) (s:Ds) (k:Nat) (ns:List Int),vs=[.ref b,v,.ref ct,.ref nl]/\ah H0 H/\H0 b=none/\H0 ct=none/\Dat H0 v (iS t (sL s))/\mD s/\eQ s<n/\eB s<=44/\Pw b ct H H k/\k+20*eB s<=90000/\H nl=some (.lst (ns.map V.int))/\ns.length<=10/\ct≠b/\nl≠b/\nl≠ct/\G b≠none/\G ct≠none/\Fr G H/\
 ∀l ws ds H' k',H l=none->H' l=some (.lst ws)->bj (bw G H') ws ds->(∀d∈ds,mC (2*n+3) d=true)->eU ds<=20*eB s->Pw b ct H H' k'->k'<=k+20*eB s->Q (.ref l) H'
theorem Aq(T:Txt K mg A)(n:Nat):aT P w K mg base dQ (3+n) A.sV A.tH ["_law_box_here","_law_body_here","_law_count","_law_numbers"] (aa7 n):=by
 induction n with
 |zero=>exact fg (by rintro vs H Q E ⟨G,H0,b,ct,nl,v,t,s,k,ns,_,_,_,_,_,_,h,_⟩;exact iP _ h)
 |succ n ih=>
 show aT P w K mg base dQ ((3+n)+1) _ _ _ _;refine T.nh.F.ok fA (λvs H Q E h=> ?_) (λcB Ar outer s0 H vs Q E hr h=> ?_)
 .obtain⟨G,H0,b,ct,nl,v,t,s,k,ns,rfl,_⟩:=h;rfl
 .obtain⟨G,H0,b,ct,nl,v,t,s,k,ns,rfl,gW,Z0,h0c,hd,ok,dp,mn,pw0,hk,XA,nsl,cb,nb,nc,gb,gc,fr,q⟩:=h;obtain⟨a,vs,rfl,ha,hA⟩:=iI hd;have vl:=tm hA;have Z9:=WJ s;have LX:(1000:Nat)<sizeLine:=by decide
  refine⟨_,(aj (gf 4 fA.nd (bH dY)) (aj (AV (o_ (pv 1)) (jk 5 fA.nd) (aj (gf 6 fA.nd (cS a8 (pv 2) ae)) (aj (BL (aL bA (pv 6) ae) (DM (pv 2) ae ZB)) (aj (Hv 7 fA.nd ["_law_one","_law_box_here","_law_count","_law_numbers"] 1 [0,2,3] (Ab (cI (gs T) hr T.dO aC (aM (pv 5)) (hj:=by lia))) (λ_ _ _ _ _=>⟨(jk 0 (show(["_law_one","_law_box_here","_law_count","_law_numbers"]:au).Nodup by decide+kernel)),uU,(cI ih hr T.nh aC (ag (pv 1) (ag (pv 0) (ag (pv 2) (aM (pv 3))))) (hj:=by lia))⟩)) (aj (gf 8 fA.nd (aL jF (dH JX (pv 5) bZ (bQ (aL i9 (iW br T.g7 Boot.«len» (aM (pv 5))) (iW br T.g7 Boot.«len» (aM (pv 7)))))) (Ox eL T.iX Boot.«tuple» (aM (pv 7))))) (aq (bW (mz gP D' F' dB (pv 4) (aM (q_ (wn kW (pv 6) (pv 3)) (cI (EY T) hr T.xN aC (ag (pv 0) (aM (pv 8))) (hj:=by lia)) (pv 8))))))))))) (aq (aH (pv 4))))),?_⟩;refine⟨m7,λfl pz=>⟨_,Z,a,t,Z,LW (ah.upd pz _ _ (gW _ _ ha)),?_⟩⟩;have s1:=ah.upd (o:= .lst []) pz;have Yk:fl≠b:=pw0.box.ne pz
  have Y5:fl≠ct:=by
   obtain⟨m,e⟩:=pw0.cn;exact(aA e pz).symm
  have Kr:∀{H' :Hp} {k' :Nat},Pw b ct H H' k'->ah H0 H' :=λp c o e=>p.kp _ _ (aA e Z0) (aA e h0c) (gW _ _ e)
  let cnt:Nat->Nat:=λj=>((s.l.take j).map λd=>1+jM d).sum
  have cle:∀j,cnt j<=eB s:=λj=>by rw[<-Z9];exact DW _ _ _
  have g1b:upd G fl (.lst []) b≠none:=by rw[az (ck Yk)];exact gb
  have g1c:upd G fl (.lst []) ct≠none:=by rw[az (ck Y5)];exact gc
  have g1f:upd G fl (.lst []) fl≠none:=by rw[af];exact λz=>nomatch z
  have g1l:∀c,upd G fl (.lst []) c=none->G c=none:=λc h=>by
   by_cases z:c=fl
   .rw[z] at h;exact absurd h g1f
   .rw[az z] at h;exact h
  have fr1:∀{H' :Hp} {k' :Nat} {o:HO},Pw b ct H H' k'->H' fl=some o->Fr (upd G fl (.lst [])) H' :=λ{H' k' o} p e c hc=>by
   rw[az (aA e hc).symm];exact fr c (p.free hc)
  generalize upd G fl (.lst [])=G1 at g1b g1c g1f g1l fr1;refine nt (K:=K) (t:=t) (a:=a) (xs:=vs) (λj σ H' =>∃(x5 x6 x7 x8:Option V) (ws:ak) (ds:List U') (kc:Nat),σ=[some (.ref b),some (.ref a),some (.ref ct),some (.ref nl),some (.ref fl),x5,x6,x7,x8]/\Pw b ct H H' kc/\kc<=k+20*cnt j/\H' fl=some (.lst ws)/\bj (bw G1 H') ws ds/\(∀d∈ds,mC (2*(n+1)+3) d=true)/\eU ds<=20*cnt j) ⟨_,_,_,_,[],[],k,Z,pw0.same s1,o6 _ _,af,.nil,(λd hd=>nomatch hd),by rw[eU];exact cG _⟩ (by rintro j σ H' _ ⟨_,_,_,_,_,_,_,_,pw,_⟩;exact Kr pw _ _ ha) ?_ ?_
  .rintro j x σ H' hx ⟨x5,x6,x7,x8,ws,ds,kc,rfl,pw,hkc,nC,hws,WQ,zds⟩
   obtain⟨d,ed,tN⟩:=jI hA hx;have dm:=bD ed;have lu:=gF ok d dm;have LA:=gI d dm;have PX:=jP d dm;have cj:cnt (j+1)=cnt j+(1+jM d):=nV _ ed;have cl1:=cle (j+1);obtain⟨a',ks,xs,CL,rfl,p0⟩:=fu tN lu;have hlx:=p0.lx;have h4:=fR p0.f;rw[bu,gS] at h4;have X2:=jh p0.hy;obtain⟨m,hm⟩:=pw.cn;have acZ:=bE (a7.mp (show(bg.all λp=>decide (1<=p.2.length))=true by decide+kernel) _ p0.f);rw[bu,gS] at acZ;refine⟨_,Z,ct,_,0,_,Z,Z,cF.of hm,Z,_,Z,_,_,Z,Z,_,Z,ct,_,0,0,Z,Z,hm,Z,?_⟩
   have pw2:Pw b ct H' (upd H' ct (.lst [.int (m+1)])) kc:=by
    obtain⟨x,y,z,hb,r⟩:=pw.box;exact⟨⟨x,y,z,by rw[az cb.symm];exact hb,r⟩,⟨_,af⟩,λc o h1 h2 e=>by rw[az h2];exact e⟩
   generalize hG2:upd H' ct (.lst [.int (m+1)])=H2 at pw2;rw[show(.lst [V.int (m+1)]:HO)= .lst (List.set [V.int m] 0 ((λi j=>V.int (i+j)) m 1)) from Z] at hG2;rw[hG2];have aaI:=pw.trans pw2;refine⟨_,Z,H0,_,d,Z,Kr aaI,tN,lu,λt1 ys H3 uG s3 hz hB=>⟨t1,Z,⟨_,bc.of hz⟩,?_⟩⟩;have Px:Pw b ct H H3 kc:=aaI.same s3;have aa2 :Pw b ct H' H3 kc:=pw2.same s3;have bl:=jh hB;have msb:=Kf d.bs;rw[<-qJ] at msb
   let X_ :Nat->Nat:=λi=>((d.bs.l.take i).map λp=>eB p.2).sum
   have cbl:∀i,X_ i<=jM d:=λi=>by rw[<-msb];exact DW _ _ _
   have hb3:∀{H4:Hp} {k4:Nat},Pw b ct H3 H4 k4->H4 t1=some (.tup ys):=λ{H4 k4} p4=>by
    obtain⟨x,y,z,hb,_⟩:=Px.box;obtain⟨m',Pk⟩:=Px.cn;exact p4.kp _ _ (dw hz hb (λz=>nomatch z)) (dw hz Pk (λz=>nomatch z)) hz
   refine z7 (xs:=ys) (λp i zs H4=>∃(es:List U') (k4:Nat),Pw b ct H3 H4 k4/\k4<=kc+20*X_ i/\bj (bw (upd G1 p (.lst [])) H4) zs es/\(∀e∈es,mC (2*n+4) e=true)/\eU es<=i+20*X_ i/\es.length=i) (aU (show ys.length<=1000 by lia) (cT LX)) ?_ ?_ ?_ ?_
   .rintro p i zs H4 ⟨es,k4,P_,_⟩
    exact rE (bc.of (hb3 P_))
   .intro p hp;refine⟨[],kc,(Px.RG).upd hp (Px.box.ne hp) (by obtain⟨m',e⟩:=Px.cn;exact(aA e hp).symm),o6 _ _,.nil,(λe he=>nomatch he),by rw[eU];exact cG _,Z⟩
   .rintro p i y zs H4 C1 C0 hp hy ⟨es,k4,P_,hk4,hes,XY,zes,les⟩ Hd c1 c0
    obtain⟨pp,ep,hpp⟩:=jO hB hy;have pm:=bD ep;have zo:=hX (kq lu) pp pm;have Gv:=h8 pp pm;have Oh:=kI pp pm;rw[<-l_] at Gv;rw[<-qJ] at Oh;have ci:X_ (i+1)=X_ i+eB pp.2:=nV _ ep;have cil:=cbl (i+1);have IH:=Px.trans P_;have MO:p≠b:=Px.box.ne hp;have Ys:p≠ct:=by obtain⟨m',e⟩:=Px.cn;exact(aA e hp).symm
    have IT:H4 fl=some (.lst ws):=(aa2.trans P_).kp _ _ Yk Y5 nC
    have frp:Fr (upd G1 p (.lst [])) H4:=λc hc=>by
     rw[az (aA Hd hc).symm];exact fr1 IH IT c hc
    refine⟨(gJ.refl _).own (by decide),_,Z,_,Z,_,Z,_,Z,upd G1 p (.lst []),H0,b,ct,nl,y,pp.1,pp.2,k4,ns,Z,Kr IH,Z0,h0c,hpp,zo,by lia,by lia,IH.RG,by lia,IH.kp _ _ nb nc XA,nsl,cb,nb,nc,by rw[az MO.symm];exact g1b,by rw[az Ys.symm];exact g1c,frp,λl Yh Zr H5 k5 hl e5 d5 ok5 z5 UN hk5=> ?_⟩;have V8:H5 p=some (.lst zs):=UN.kp _ _ MO Ys Hd;have gpp:upd G1 p (.lst []) p≠none:=by rw[af];exact λz=>nomatch z
    have N:=FN (o:= .lst (zs++[V.ref l])) gpp V8;have gpb:upd G1 p (.lst []) b≠none:=by rw[az MO.symm];exact g1b
    have gpc:upd G1 p (.lst []) ct≠none:=by rw[az Ys.symm];exact g1c
    refine c1 (.ref l) H5 V8 ⟨es++[.list Zr],k5,(P_.trans UN).upd hp MO Ys,by lia,?_,λe he=> ?_,?_,by rw[bu,les];rfl⟩
    .exact(iA (hes.same (P_.new gpb gpc UN)) (.cons (.lst (cL e5 (λ_ _=>frp l hl)) d5) .nil)).same N
    .rcases eA.mp he with he|he
     .exact XY e he
     .rw[gv.mp he];exact a7.mpr ok5
    .rw[h_,eU,eU,eK]
     lia
   rintro il zs H4 hil ⟨es,k4,P_,hk4,hes,XY,zes,les⟩ W_ _
   have IH:=Px.trans P_;have Y9 :=aa2.trans P_
   have ce:X_ ys.length=jM d:=by
    show((d.bs.l.take ys.length).map _).sum=_;rw[bl,gi,msb]
   rw[ce] at hk4 zes;have abu:bj (bw G1 H4) zs es:=hes.same (DF λc h=>(N4 h).2);have zl:=bY abu;have uP:H4 a' =some (.tup (.str d.wd::(xs++CL))):=Kr IH _ _ p0.e;have IT:H4 fl=some (.lst ws):=Y9.kp _ _ Yk Y5 nC
   have eix:(((V.str d.wd::(xs++CL)).length:Nat):Int) - ((zs.length:Nat):Int)=(((V.str d.wd::xs).length:Nat):Int):=by
    simp only[bB,bu]
    lia
   refine AF ?_;dsimp only;apply Y7 (F:=λe h=>ah H4 h/\h e=some (.tup (.str d.wd::(xs++zs))))
   .intro hM;refine⟨_,Z,_,Z,a',_,Z,.inr (bc.of uP),_,Z,il,_,Z,.inl (cF.of W_),_,_,Z,Z,_,Z,a',_,Z,bc.of uP,?_,?_⟩
    rotate_left
    .rw[eix];intro hw t4 JN;have XZ:c6 (V.str d.wd::(xs++CL)) none (some (((V.str d.wd::xs).length:Nat):Int))=V.str d.wd::xs:=Mq (V.str d.wd::xs) CL;rw[XZ];have u4:=ah.upd (o:= .tup (V.str d.wd::xs)) JN;refine⟨_,Z,il,_,Z,.inl ⟨cF.of (u4 _ _ W_),λt5 Pn=> ?_⟩⟩;have u5:=ah.upd (o:= .tup zs) Pn
     have wN:zs≠[]:=λz=>hw (by
      have z1:zs.length=0:=by rw[z];rfl
      refine⟨Z,?_⟩;rw[HT.h9];simp only[bB,bu]
      lia)
     refine⟨t4,t5,_,_,Z,Z,bc.of (u5 _ _ af),bc.of af,(λz=>nomatch z),?_,(λz=>absurd z wN),λ_ t6 YL=> ?_⟩
     .simp only[bB];exact aU (show _<=1000 by lia) (cT LX)
     .have u6:=ah.upd (o:= .tup (V.str d.wd::xs++zs)) YL;have su:=(u4.trans u5).trans u6;have e6:upd (upd (upd H4 t4 (.tup (V.str d.wd::xs))) t5 (.tup zs)) t6 (.tup (V.str d.wd::xs++zs)) t6=some (.tup (V.str d.wd::(xs++zs))):=af;obtain⟨H6,hH6⟩:∃H6,H6=upd (upd (upd H4 t4 (.tup (V.str d.wd::xs))) t5 (.tup zs)) t6 (.tup (V.str d.wd::xs++zs)):=⟨_,Z⟩;rw[<-hH6];exact hM t6 H6 ⟨hH6▸su,hH6▸e6⟩
    .rw[eix]
     rintro ⟨_,hw⟩
     rw[HT.h9] at hw;simp only[bB,bu] at hw;have Yr:CL=[]:=qp (by lia);have hw0:zs=[]:=qp (by have z1:CL.length=0:=congrArg List.length Yr;lia);have exz:xs++CL=xs++zs:=by rw[Yr,hw0]
     refine⟨_,Z,il,_,Z,.inl ⟨cF.of W_,λt5 Pn=> ?_⟩⟩;have u5:=ah.upd (o:= .tup zs) Pn;refine⟨a',t5,_,_,Z,Z,bc.of (u5 _ _ uP),bc.of af,(λz=>nomatch z),?_,(λ_=>hM a' _ ⟨u5,by rw[<-exz];exact u5 _ _ uP⟩),(λz=>absurd hw0 z)⟩;simp only[bB,bu];exact aU (show _<=1000 by lia) (cT LX)
   .rintro e H5 ⟨s5,e5⟩
    have UN:=Y9.same s5;have ZN:=IH.same s5;have rj:H5 fl=some (.lst ws):=s5 _ _ IT;have aee:=ZN.kp _ _ nb nc XA
    have wl:ws.length<=880:=by
     have h1:=bY hws;have h2:=vP ds
     lia
    have QQ:ws.length<sizeLine:=jc (show ws.length<=1000 by lia) LX;obtain⟨fo,fz⟩:=IJ p0.fit;have pl:d.ps.length=xs.length:=(fN p0.hx).symm;have dE:bj (bw G1 H5) (.str d.wd::(xs++zs)) (.str d.wd::(d.ps++es)):= .cons (.str _) (iA (uS (zQ p0.fit p0.hx:bI (bw G1 H5) xs d.ps).dat) (abu.same (bh s5)))
    have vc:∀z∈PyData.str d.wd::(d.ps++es),mC (2*n+4) z=true:=λz hz=>by
     rcases aP.mp hz with rfl|hz
     .exact nD (wC (Dj p0.f)) (by lia)
     .rcases eA.mp hz with hz|hz
      .exact nD (fo z hz) (by lia)
      .exact XY z hz
    have zI:eU (PyData.str d.wd::(d.ps++es))<=5+20*jM d:=by
     rw[eU,eK,h_,fz]
     lia
    have fin:∀(v:V) (dv:U') (H6:Hp) (k6:Nat),Pw b ct H' H6 k6->k6<=kc+20*jM d+20->b7 (bw G1 H6) v dv->mC (2*(n+1)+3) dv=true->eK dv<=13+20*jM d->∃(x5 x6 x7 x8:Option V) (Yh :ak) (Zr :List U') (Ub :Nat),([some (V.ref b),some (.ref a),some (.ref ct),some (.ref nl),some (.ref fl),some (.ref a'),some (.int m),some (.ref il),some (.ref e)]:L2.St)=[some (.ref b),some (.ref a),some (.ref ct),some (.ref nl),some (.ref fl),x5,x6,x7,x8]/\Pw b ct H (upd H6 fl (.lst (ws++[v]))) Ub/\Ub<=k+20*cnt (j+1)/\upd H6 fl (.lst (ws++[v])) fl=some (.lst Yh)/\bj (bw G1 (upd H6 fl (.lst (ws++[v])))) Yh Zr/\(∀z∈Zr,mC (2*(n+1)+3) z=true)/\eU Zr<=20*cnt (j+1):=λv dv H6 k6 p6 hk6 ev okv zv=>by
     have adV:H6 fl=some (.lst ws):=p6.kp _ _ Yk Y5 nC;refine⟨_,_,_,_,ws++[v],ds++[dv],k6,Z,(pw.trans p6).upd pz Yk Y5,by lia,af,?_,λz hz=> ?_,?_⟩
     .exact(iA (hws.same (pw.new g1b g1c p6)) (.cons ev .nil)).same (FN g1f adV)
     .rcases eA.mp hz with hz|hz
      .exact WQ z hz
      .rw[gv.mp hz];exact okv
     .rw[h_,eU,eU]
      lia
    refine AF ?_;dsimp only;refine⟨_,Z,JT rj,_,Z,_,Z,nl,_,Z,.inl (cF.of aee),Z,?_,_,Z,mF (λ_=> ?_) (λ_=> ?_)⟩
    .rw[a7];intro z hz;obtain⟨i,_,rfl⟩:=jC.mp hz;rfl
    .refine⟨_,Z,_,Z,G1,b,e,.str d.wd,xs++zs,_,k4,2*n+4,Z,UN.box,by lia,g1b,fr1 ZN rj,e5,(λz=> ?_),?_,dE,by lia,vc,λv dv H6 e6 ok6 z6 B6 kp6=> ?_⟩
     .have:=congrArg List.length z;simp only[bu,m5] at this
      lia
     .rw[bu]
      lia
     .obtain⟨m6,hm6⟩:=UN.cn;have p6:Pw b ct H' H6 (k4+20):=⟨B6,⟨m6,kp6 _ _ cb hm6⟩,λc o h1 h2 e=>kp6 _ _ h1 (UN.kp _ _ h1 h2 e)⟩;exact⟨fl,ws,_,Z,Z,kp6 _ _ Yk rj,QQ,fin v dv H6 _ p6 (by lia) e6 ok6 (by lia)⟩
    .exact⟨_,Z,fl,ws,_,Z,Z,rj,QQ,fin _ (.tuple (.str d.wd::(d.ps++es))) H5 _ UN (by lia) (.tup (cL e5 (λ_ z=>nomatch z)) dE) (a7.mpr vc) (by rw[eK];lia)⟩
  .rintro σ H' ⟨x5,x6,x7,x8,ws,ds,kc,rfl,pw,hkc,nC,hws,WQ,zds⟩
   have e:cnt vs.length=eB s:=by
    show((s.l.take vs.length).map _).sum=_;rw[vl,gi,Z9]
   rw[e] at hkc zds;exact⟨_,Z,q fl ws ds H' kc pz nC (hws.same (DF g1l)) WQ zds pw hkc⟩
noncomputable def ltF(k:Nat):Str:=⟨#[97+k % 8]⟩
noncomputable def ltT(k:Nat):Str:=⟨#[105+k % 8]⟩
noncomputable def UB(d:U'):Nat->U'
 |0=>d
 |k+1=> .list [if k % 2=0 then .tuple [.str "frame",.str (ltF k),UB d k] else .tuple [.str "turns",.str (ltT k),.int 1,.int 1,UB d k]]
theorem ad6{r:V->Option Int->Option Int->Hp->VK->Prop}{te:TE}{tl th:TO}{σ:L2.St}{H:Hp}{Q:VK}(h:te σ H λx H1=>tl σ H1 λl H2=>th σ H2 λu H3=>r x l u H3 Q):U6 r te tl th σ H Q:=h
theorem ZE{G H:Hp}{σ:L2.St}{n i:Nat}(h:σ[n]? =some (some (.int (0+(i:Int))))):kG G (wM Qq (tC (.str "abcdefgh")) (wM (rI (λ_ j=>0<j) λi j=> .int (i % j)) (zY n) (tC (.int 8)))) σ H (.str (ltF i)):=⟨λH1 s Q q=>by
 have e:("abcdefgh" :Str).cps.toList=(List.range 8).map (97+ ·):=by decide+kernel
 refine⟨_,h,_,8,Z,Z,(show(0:Int)<8 by decide),_,_,_,Z,Z,by decide+kernel,?_,q _ _ (ah.refl _) (.str (ltF i))⟩;rw[show(0+(i:Int)) % 8=((i % 8:Nat):Int) by lia];refine bb ?_;rw[e,bX,qu (by lia)];rfl⟩
theorem abC{G H:Hp}{σ:L2.St}{n i:Nat}(h:σ[n]? =some (some (.int (0+(i:Int))))):kG G (wM Qq (tC (.str "ijklmnop")) (wM (rI (λ_ j=>0<j) λi j=> .int (i % j)) (zY n) (tC (.int 8)))) σ H (.str (ltT i)):=⟨λH1 s Q q=>by
 have e:("ijklmnop" :Str).cps.toList=(List.range 8).map (105+ ·):=by decide+kernel
 refine⟨_,h,_,8,Z,Z,(show(0:Int)<8 by decide),_,_,_,Z,Z,by decide+kernel,?_,q _ _ (ah.refl _) (.str (ltT i))⟩;rw[show(0+(i:Int)) % 8=((i % 8:Nat):Int) by lia];refine bb ?_;rw[e,bX,qu (by lia)];rfl⟩
def GU:Sp:=λvs H Q _=>∃(n:Nat) (v:V) (G:Hp) (d:U'),vs=[.int (n:Int),v]/\n<=30/\Fr G H/\b7 (bw G H) v d/\∀u H',ah H H'->b7 (bw G H') u (UB d n)->Q u H'
theorem iJ(T:Txt K mg A):aT P w K mg base dQ 1 A.tT A.tV ["_law_many","_law_body_here"] GU:=by
 refine T.g8.F.okN lC ?_
 rintro cB Ar outer s H vs Q E hr ⟨n,v,G,d,rfl,hn,fr,hd,q⟩
 refine⟨_,(aD ⟨(AV (gB Z T.kL (aM (pv 0))) (jk 2 lC.nd) (aq (gf 1 lC.nd (dH mO (bH (ag (bt (ag ai (ag (cS As ai (aL jw (pv 2) ae)) (aM (pv 1))))) (aM (bt (ag ai (ag (cS As ai (aL jw (pv 2) ae)) (ag ae (ag ae (aM (pv 1)))))))))) (bQ (aL jw (pv 2) ae)) (bQ (aL bA (aL jw (pv 2) ae) ae))))))⟩ (bC (jH ⟨(pv 1)⟩))),?_⟩;refine⟨_,Z,_,Z,by lia,by lia,?_⟩;refine nS (λi σ H' =>∃(u:V) (x2:Option V),σ=[some (.int (n:Int)),some u,x2]/\ah H H'/\b7 (bw G H') u (UB d i)) ⟨_,_,Z,ah.refl _,hd⟩ ?_ ?_
 .rintro i σ H' hi ⟨u,x2,rfl,sm,e⟩
  refine AF (t_ (ad6 (xB (G:=G) (d:= .list [.tuple [.str "frame",.str (ltF i),UB d i],.tuple [.str "turns",.str (ltT i),.int 1,.int 1,UB d i]]) ?_ λv3 H3 s3 d3=> ?_)))
  .exact me (fr.same sm) (aW (kC (aW eT (aW (ZE Z) (aW (cE Z e) dh)))) (aW (kC (aW eT (aW (abC Z) (aW fZ (aW fZ (aW (cE Z e) dh)))))) dh))
  obtain⟨a,xs,rfl,ea,hx⟩:=kK d3
  cases hx with
  | @cons y0 _ _ _ h0 t0=>
  cases t0 with
  | @cons y1 _ _ _ h1 t1=>
  cases t1;refine⟨_,Z,_,2,Z,Z,(show(0:Int)<2 by decide),_,Z,_,Z,_,2,Z,Z,(show(0:Int)<2 by decide),_,1,Z,Z,_,Z,a,_,Z,cF.of ea,λp hp=>⟨_,_,Z,(sm.trans s3).trans (ah.upd hp),?_⟩⟩;have fp:=(fr.same (sm.trans s3)) p hp;rw[UB];by_cases Di:i % 2=0
  .rw[aB Di,show(0+(i:Int)) % 2=0 by lia];exact .lst (cL af (λ_ _=>fp)) (.cons (h0.same (bh (ah.upd hp))) .nil)
  .rw[ax Di,show(0+(i:Int)) % 2=1 by lia];exact .lst (cL af (λ_ _=>fp)) (.cons (h1.same (bh (ah.upd hp))) .nil)
 .rintro σ H' ⟨u,x2,rfl,sm,e⟩
  exact⟨_,Z,q u H' sm e⟩
section
variable{G H:Hp}{σ:L2.St}{te ta tb:TE}{d:U'}{ds es:List U'}{K:Frag}
theorem nX{i:Int}(h0:0<=i)(f:Fr G H)(ha:kG G ta σ H (.list ds)):kG G (U6 (Vz K) ta se (CS (tC (.int i)))) σ H (.list (ds.take i.toNat)):=by
 obtain⟨n,rfl⟩:=DQ h0;exact acV f ha
theorem iZ{i:Int}(h0:0<=i)(f:Fr G H)(ha:kG G ta σ H (.list ds))(hl:Nat.ble (i.toNat*ds.length) 1000=true)(hn:i.toNat<=1000):kG G (wM XF ta (tC (.int i))) σ H (.list (List.replicate i.toNat ds).flatten):=by
 obtain⟨n,rfl⟩:=DQ h0;exact abj f ha (oB hl) hn
theorem fw{i:Int}(h0:0<=i)(h30:i<=30)(f:Fr G H)(h:kG G te σ H d):kG G (xE GU [] E0 (tL (tC (.int i)) (tL te sQ))) σ H (UB d i.toNat):=⟨λH1 s Q q=>h.h H1 s _ λv H2 s2 e=>by
 obtain⟨n,rfl⟩:=DQ h0;exact⟨n,v,G,d,Z,by lia,f.same (s.trans s2),e,λu H3 s3 e3=>q u H3 (s2.trans s3) e3⟩⟩
end
section
variable{G H:Hp}{σ:L2.St}{te ta tb:TE}{tr:TA}{d:U'}{ds es:List U'}{K:Frag}
theorem jq(h:Ir G tr σ H ds)(hl:Nat.ble ds.length 1000=true):kG G (LB tr) σ H (.tuple ds):=kC h hl
theorem jv(f:Fr G H)(h:Ir G tr σ H ds)(hl:Nat.ble ds.length 1000=true):kG G (Gx tr) σ H (.list ds):=me f h hl
theorem i5(f:Fr G H)(ha:kG G ta σ H (.list ds))(hb:kG G tb σ H (.list es))(hl:Nat.ble (ds.length+es.length) 1000=true):kG G (wM Rc ta tb) σ H (.list (ds++es)):=So f ha hb (oB hl)
theorem jD{i j k:Int}(h:NA i j):kG G (wM (Pd λi j=> .int (i - j)) (wM (rI NA λi j=> .int (i ^ j.toNat)) (tC (.int i)) (tC (.int j))) (tC (.int k))) σ H (.int (i ^ j.toNat - k)):=⟨λH1 s Q q=>⟨i,j,Z,Z,h,_,_,Z,Z,q _ _ (ah.refl _) (.int _)⟩⟩
end
theorem aaF{G H:Hp}{tr:TA}{σ:L2.St}{d:U'}{Q:VK}(h:kG G (LB tr) σ H d)(q:∀v H2,ah H H2->b7 (bw G H2) v d->Q v H2):LB tr σ H Q:=h.h H (ah.refl H) Q q
noncomputable def tlD:U':= .tuple [.str "tell",.str "a"]
noncomputable def eiD:U':= .tuple [.str "either",.list [.tuple [.str "set",.str "a",.none]],.list []]
structure Bn(H0 H:Hp)(t e r:V)(rd:List U'):Prop where
 sm:ah H0 H
 tl:b7 (bw H0 H) t (.list (List.replicate 41 [tlD]).flatten)
 ei:b7 (bw H0 H) e eiD
 ro:b7 (bw H0 H) r (.list rd)
theorem Bn.fr{H0 H:Hp}{t e r:V}{rd:List U'}(B:Bn H0 H t e r rd):Fr H0 H:=λc h=>B.sm.free h
theorem Q5{A:nT}{H:Hp}{v:V}{d:U'}(t:o5 A H)(h:b7 H v d):b7 (i8 A H) v d:=by
 obtain⟨_,⟨ps1,e1,_⟩,⟨ps2,e2,_⟩⟩:=t;refine Eg (λc o hc e=> ?_) h
 have n:∀ps,o≠.wg ps:=λps z=>by
  rcases hc with⟨_,y⟩|⟨_,y⟩|⟨_,y⟩<;>(rw[z] at y;cases y)
 unfold i8;rw[ax]
 .exact e
 .rintro (rfl|rfl)
  .rw[e] at e1;cases e1;exact n _ rfl
  .rw[e] at e2;cases e2;exact n _ rfl
theorem Bn.items{H0 H:Hp}{t e r:V}{rd:List U'}(B:Bn H0 H t e r rd)(h:(rd.all λd=>mC 80 d&&Nat.ble (eK d) 1000&&Yl 40 d)=true)(hl:Nat.ble rd.length 1000=true):∃l xs,r= .ref l/\H l=some (.lst xs)/\xs.length<=1000/\∀x∈xs,∃d,b7 H x d/\mC 80 d=true/\eK d<=1000/\Yl 40 d=true:=by
 obtain⟨l,xs,el,ea,hx⟩:=kK B.ro;refine⟨l,xs,el,ea,by rw[bY hx];exact oB hl,λx hm=> ?_⟩;obtain⟨d,hd,e⟩:=k8 hx x hm;have:=a7.mp h d hd;rw[cH,cH] at this;exact⟨d,e.same vK,this.1.1,oB this.1.2,this.2⟩
theorem iD{H0 H:Hp}{t e r:V}{rd es:List U'}{tr:TA}{rest:TS}{D:Ends}(B:Bn H0 H t e r rd)(h:kG H0 (Gx tr) [some t,some e,some r] H (.list es))(hl:Nat.ble (rd.length+es.length) 1000=true)(q:∀r' H2,Bn H0 H2 t e r' (rd++es)->rest D [some t,some e,some r'] H2):FU (FO (wM Rc (zY 2) (Gx tr)) (uY 2)) rest D [some t,some e,some r] H:=
 (i5 B.fr (cE Z B.ro) h hl).h H (ah.refl H) _ λv H2 s2 e2=>q v H2 ⟨B.sm.trans s2,B.tl.same (bh s2),B.ei.same (bh s2),e2⟩
theorem Bc{K:Frag}{H0 H:Hp}{t e r:V}{rd:List U'}{te:TE}{d:U'}{rest:TS}{D:Ends}(B:Bn H0 H t e r rd)(h:kG H0 te [some t,some e,some r] H d)(hl:Nat.ble rd.length 1000=true)(hz:Nat.ble (eK d) (eU rd)=true)(h1:Nat.ble 200 (eU rd)=true)(q:∀r' H2,Bn H0 H2 t e r' (rd++[d])->rest D [some t,some e,some r'] H2):FU (Mt (tBM K "list" Kb (zY 2) (tL te sQ))) rest D [some t,some e,some r] H:=by
 obtain⟨l,xs,el,ea,hx⟩:=kK B.ro;refine⟨r,Z,by rw[el];exact JT ea,h.h H (ah.refl H) _ λv H2 s2 e2=> ?_⟩;have ro2:=B.ro.same (bh s2);obtain⟨l',Qz,el',ea',Ma⟩:=kK ro2
 have hn:bw H0 H2 l' =some (.lst Qz):=by
  rw[el'] at ro2
  cases ro2 with
  |lst e' h' =>
   have:=(e_ e').1;rw[ea'] at this;cases this;exact e'
 have OH:=(e_ hn).2 _ rfl;refine⟨l',Qz,v,el',Z,ea',by rw[bY Ma];exact jc (oB hl) (by decide),q r _ ⟨λc o ec=> ?_,?_,?_,?_⟩⟩
 .rw[az (aA ec OH)];exact s2 _ _ (B.sm _ _ ec)
 all_goals
  have kk:∀c o,c≠l'->bw H0 H2 c=some o->bw H0 (upd H2 l' (.lst (Qz ++[v]))) c=some o:=λc o hc e=>cL (by rw[az hc];exact(e_ e).1) (e_ e).2;have z1:=oB h1;have z2:=oB hz
 .exact b7.apart hn Ma kk (B.tl.same (bh s2)) (jc (show _<=199 by decide+kernel) (by lia))
 .exact b7.apart hn Ma kk (B.ei.same (bh s2)) (jc (show _<=199 by decide+kernel) (by lia))
 .rw[el'];exact .lst (cL af (λ_ _=>OH)) (iA (bj.apart hn Ma kk Ma (by lia)) (.cons (b7.apart hn Ma kk e2 (by lia)) .nil))
def FK(A:nT):Sp:=λvs H Q _=>vs=[]/\o5 A H/\∀H',fX A H H'->o5 A H'->Q (.bl true) H'
theorem pM(T:Txt K mg A)(Fm:wR P w K A fm)(Fp:∀x:Str,bg.lookup x=none->eV fm.kF (.inr x)=none)(df:QU A):aT P w K mg base dQ 55 A.eZ A.gM [] (FK A):=by
 have oz:aT P w K mg base dQ 54 A.gE A.fJ ["_law_body_here"] (Ap A):=aT.MT (by rintro vs H Q E ⟨v,e,_⟩;rw[e];rfl) λxr=>tK T Fm Fp df xr;refine T.eY.F.okN aX ?_
 rintro cB Ar outer s H vs Q E hr ⟨rfl,tabs,q⟩
 have Hf:(Ar.deeper (envOfC "_law_bounds_right" (av gN) s.heap.objs.size A.eZ cB)).units<cLine:=by
  have:=hr.un
  lia
 refine⟨_,(aD (bN (i:=0) aX.nd Z (Or.inl Z) (bF xi (aI (aa (λ_ _=>rfl) (aR (aa (λ_ _=>rfl) ⟨ai⟩ (aa (λ_ _=>rfl) ⟨ai⟩ ao))) ao)) ⟨ae⟩) (by kernel_rfl) (Or.inl Z)) (aD (bN (i:=1) aX.nd Z (Or.inl Z) (aR (aa (λ_ _=>rfl) ⟨ai⟩ (aa (λ_ _=>rfl) (aI (aa (λ_ _=>rfl) (aR (aa (λ_ _=>rfl) ⟨ai⟩ (aa (λ_ _=>rfl) ⟨ai⟩ (aa (λ_ _=>rfl) ⟨d_⟩ ao)))) ao)) (aa (λ_ _=>rfl) (aI ao) ao)))) (by kernel_rfl) (Or.inl Z)) (aD (bN (i:=2) aX.nd Z (Or.inl Z) (aI (aa (λ_ _=>rfl) (jA mO ⟨(pv 0)⟩ bZ (bQ ae)) (aa (λ_ _=>rfl) ⟨(pv 0)⟩ (aa (λ_ _=>rfl) (my (iJ T) hr T.g8 aC (λ_ _=>rfl) (λ_ _=>rfl) (aa (λ_ _=>rfl) ⟨ae⟩ (aa (λ_ _=>rfl) (jA mO ⟨(pv 0)⟩ bZ (bQ ae)) ao))) (aa (λ_ _=>rfl) (my (iJ T) hr T.g8 aC (λ_ _=>rfl) (λ_ _=>rfl) (aa (λ_ _=>rfl) ⟨ae⟩ (aa (λ_ _=>rfl) (aI ao) ao))) (aa (λ_ _=>rfl) (my (iJ T) hr T.g8 aC (λ_ _=>rfl) (λ_ _=>rfl) (aa (λ_ _=>rfl) ⟨ae⟩ (aa (λ_ _=>rfl) (jA mO ⟨(pv 0)⟩ bZ (bQ ae)) ao))) (aa (λ_ _=>rfl) (bF xi (aI (aa (λ_ _=>rfl) ⟨(pv 1)⟩ ao)) ⟨ae⟩) ao))))))) (by kernel_rfl) (Or.inl Z)) (aD (bN (i:=2) aX.nd Z (Or.inl Z) (bF fM ⟨(pv 2)⟩ (aI (aa (λ_ _=>rfl) (bF xi (aI (aa (λ_ _=>rfl) ⟨(pv 1)⟩ ao)) ⟨ae⟩) (aa (λ_ _=>rfl) (aI (aa (λ_ _=>rfl) (aR (aa (λ_ _=>rfl) ⟨ai⟩ (aa (λ_ _=>rfl) ⟨ai⟩ (aa (λ_ _=>rfl) ⟨ae⟩ (aa (λ_ _=>rfl) ⟨ae⟩ (aa (λ_ _=>rfl) (aI (aa (λ_ _=>rfl) ⟨(pv 1)⟩ ao)) ao)))))) ao)) (aa (λ_ _=>rfl) (aI (aa (λ_ _=>rfl) (aR (aa (λ_ _=>rfl) ⟨ai⟩ (aa (λ_ _=>rfl) ⟨ai⟩ (aa (λ_ _=>rfl) ⟨ae⟩ (aa (λ_ _=>rfl) ⟨ae⟩ (aa (λ_ _=>rfl) (aR (aa (λ_ _=>rfl) ⟨(pv 1)⟩ ao)) ao)))))) (aa (λ_ _=>rfl) ⟨(pv 1)⟩ ao))) ao))))) (by kernel_rfl) (Or.inl Z)) (aD (bN (i:=2) aX.nd Z (Or.inl Z) (bF fM ⟨(pv 2)⟩ (aI (aa (λ_ _=>rfl) (bF fM (aI (aa (λ_ _=>rfl) (aR (aa (λ_ _=>rfl) ⟨ai⟩ (aa (λ_ _=>rfl) ⟨ai⟩ (aa (λ_ _=>rfl) ⟨ae⟩ (aa (λ_ _=>rfl) ⟨ae⟩ (aa (λ_ _=>rfl) (jA mO ⟨(pv 0)⟩ bZ (bQ ae)) ao)))))) ao)) (jA mO ⟨(pv 0)⟩ bZ (bQ ae))) (aa (λ_ _=>rfl) (aI (aa (λ_ _=>rfl) (aR (aa (λ_ _=>rfl) ⟨ai⟩ (aa (λ_ _=>rfl) ⟨ai⟩ (aa (λ_ _=>rfl) ⟨ae⟩ (aa (λ_ _=>rfl) ⟨ae⟩ (aa (λ_ _=>rfl) (jA mO ⟨(pv 0)⟩ bZ (bQ ae)) ao)))))) ao)) ao)))) (by kernel_rfl) (Or.inl Z)) (aD (bN (i:=2) aX.nd Z (Or.inl Z) (bF fM ⟨(pv 2)⟩ (aI (aa (λ_ _=>rfl) (bF fM (aI (aa (λ_ _=>rfl) (aR (aa (λ_ _=>rfl) ⟨ai⟩ (aa (λ_ _=>rfl) ⟨ai⟩ (aa (λ_ _=>rfl) ⟨ae⟩ (aa (λ_ _=>rfl) ⟨ai⟩ ao))))) ao)) (bF xi (aI (aa (λ_ _=>rfl) ⟨(pv 1)⟩ ao)) ⟨ae⟩)) (aa (λ_ _=>rfl) (aI (aa (λ_ _=>rfl) (aR (aa (λ_ _=>rfl) ⟨ai⟩ (aa (λ_ _=>rfl) ⟨ai⟩ (aa (λ_ _=>rfl) ⟨ae⟩ (aa (λ_ _=>rfl) ⟨ae⟩ (aa (λ_ _=>rfl) (bF fM (aI (aa (λ_ _=>rfl) ⟨(pv 1)⟩ (aa (λ_ _=>rfl) ⟨(pv 1)⟩ ao))) (jA mO ⟨(pv 0)⟩ bZ (bQ ae))) ao)))))) ao)) ao)))) (by kernel_rfl) (Or.inl Z)) (aD (bN (i:=2) aX.nd Z (Or.inl Z) (bF fM ⟨(pv 2)⟩ (aI (aa (λ_ _=>rfl) (aI (aa (λ_ _=>rfl) (aR (aa (λ_ _=>rfl) ⟨ai⟩ (aa (λ_ _=>rfl) ⟨ai⟩ (aa (λ_ _=>rfl) (aI (aa (λ_ _=>rfl) (aR (aa (λ_ _=>rfl) ⟨ai⟩ (aa (λ_ _=>rfl) ⟨ai⟩ (aa (λ_ _=>rfl) ⟨ae⟩ (aa (λ_ _=>rfl) ⟨ae⟩ (aa (λ_ _=>rfl) (aI ao) ao)))))) (aa (λ_ _=>rfl) (aR (aa (λ_ _=>rfl) ⟨ai⟩ (aa (λ_ _=>rfl) ⟨ai⟩ (aa (λ_ _=>rfl) ⟨ae⟩ (aa (λ_ _=>rfl) ⟨d_⟩ ao))))) ao))) ao)))) ao)) (aa (λ_ _=>rfl) (my (iJ T) hr T.g8 aC (λ_ _=>rfl) (λ_ _=>rfl) (aa (λ_ _=>rfl) ⟨ae⟩ (aa (λ_ _=>rfl) (aI ao) ao))) ao)))) (by kernel_rfl) (Or.inl Z)) (aD (bN (i:=2) aX.nd Z (Or.inl Z) (bF fM ⟨(pv 2)⟩ (aI (aa (λ_ _=>rfl) (aI (aa (λ_ _=>rfl) (aR (aa (λ_ _=>rfl) ⟨ai⟩ (aa (λ_ _=>rfl) ⟨ai⟩ (aa (λ_ _=>rfl) (aI (aa (λ_ _=>rfl) (aR (aa (λ_ _=>rfl) ⟨ai⟩ (aa (λ_ _=>rfl) ⟨ai⟩ (aa (λ_ _=>rfl) ⟨ae⟩ (aa (λ_ _=>rfl) ⟨ai⟩ ao))))) (aa (λ_ _=>rfl) (aR (aa (λ_ _=>rfl) ⟨ai⟩ (aa (λ_ _=>rfl) ⟨ai⟩ (aa (λ_ _=>rfl) (aI ao) ao)))) ao))) ao)))) ao)) (aa (λ_ _=>rfl) (bF xi (aI (aa (λ_ _=>rfl) (aR (aa (λ_ _=>rfl) ⟨ai⟩ (aa (λ_ _=>rfl) ⟨ai⟩ (aa (λ_ _=>rfl) (aR ao) ao)))) ao)) ⟨ae⟩) ao)))) (by kernel_rfl) (Or.inl Z)) (aD (bN (i:=2) aX.nd Z (Or.inl Z) (bF fM ⟨(pv 2)⟩ (aI (aa (λ_ _=>rfl) (aI (aa (λ_ _=>rfl) (aR (aa (λ_ _=>rfl) ⟨ai⟩ (aa (λ_ _=>rfl) ⟨ai⟩ (aa (λ_ _=>rfl) (aI (aa (λ_ _=>rfl) (aR (aa (λ_ _=>rfl) ⟨ai⟩ (aa (λ_ _=>rfl) ⟨ai⟩ (aa (λ_ _=>rfl) ⟨ae⟩ (aa (λ_ _=>rfl) ⟨ae⟩ (aa (λ_ _=>rfl) (aI ao) ao)))))) ao)) ao)))) ao)) (aa (λ_ _=>rfl) (aI (aa (λ_ _=>rfl) (aR (aa (λ_ _=>rfl) ⟨ai⟩ (aa (λ_ _=>rfl) ⟨ai⟩ (aa (λ_ _=>rfl) (aI ao) ao)))) (aa (λ_ _=>rfl) (aR (aa (λ_ _=>rfl) ⟨ai⟩ (aa (λ_ _=>rfl) ⟨ai⟩ (aa (λ_ _=>rfl) ⟨ae⟩ (aa (λ_ _=>rfl) ⟨ai⟩ ao))))) ao))) ao)))) (by kernel_rfl) (Or.inl Z)) (aD (Ay (Vy gP D' F' dB (pv 2) (λ_ _=>rfl) (aa (λ_ _=>rfl) (aI (aa (λ_ _=>rfl) (aR (aa (λ_ _=>rfl) ⟨ai⟩ (aa (λ_ _=>rfl) ⟨ai⟩ (aa (λ_ _=>rfl) (aI (aa (λ_ _=>rfl) (aR (aa (λ_ _=>rfl) ⟨ai⟩ (aa (λ_ _=>rfl) ⟨ai⟩ (aa (λ_ _=>rfl) (aI (aa (λ_ _=>rfl) (aR (aa (λ_ _=>rfl) ⟨ai⟩ (aa (λ_ _=>rfl) ⟨ai⟩ (aa (λ_ _=>rfl) ⟨ae⟩ (aa (λ_ _=>rfl) ⟨ai⟩ ao))))) ao)) ao)))) ao)) ao)))) ao)) ao) (by kernel_rfl) Z) (by kernel_rfl)) (aD (Ay (Vy gP D' F' dB (pv 2) (λ_ _=>rfl) (aa (λ_ _=>rfl) (aI (aa (λ_ _=>rfl) (aR (aa (λ_ _=>rfl) ⟨ai⟩ (aa (λ_ _=>rfl) ⟨ai⟩ (aa (λ_ _=>rfl) ⟨ae⟩ (aa (λ_ _=>rfl) ⟨ai⟩ ao))))) (aa (λ_ _=>rfl) (aR (aa (λ_ _=>rfl) ⟨ai⟩ (aa (λ_ _=>rfl) ⟨ai⟩ (aa (λ_ _=>rfl) (aI ao) ao)))) ao))) ao) (by kernel_rfl) Z) (by kernel_rfl)) (aD (bN (i:=2) aX.nd Z (Or.inl Z) (bF fM ⟨(pv 2)⟩ (aI (aa (λ_ _=>rfl) (aI (aa (λ_ _=>rfl) (aR (aa (λ_ _=>rfl) ⟨ai⟩ (aa (λ_ _=>rfl) (aI (aa (λ_ _=>rfl) (aR (aa (λ_ _=>rfl) ⟨ai⟩ (aa (λ_ _=>rfl) ⟨ai⟩ (aa (λ_ _=>rfl) (aI ao) ao)))) ao)) (aa (λ_ _=>rfl) (aI (aa (λ_ _=>rfl) (aR (aa (λ_ _=>rfl) ⟨ai⟩ (aa (λ_ _=>rfl) ⟨ai⟩ (aa (λ_ _=>rfl) ⟨ae⟩ (aa (λ_ _=>rfl) ⟨ai⟩ ao))))) ao)) ao)))) ao)) ao))) (by kernel_rfl) (Or.inl Z)) (aD (Ay (Vy gP D' F' dB (pv 2) (λ_ _=>rfl) (aa (λ_ _=>rfl) (bF xi (aI (aa (λ_ _=>rfl) (aR (aa (λ_ _=>rfl) ⟨ai⟩ (aa (λ_ _=>rfl) ⟨ai⟩ (aa (λ_ _=>rfl) (bF i9 (bF qt ⟨ae⟩ ⟨ae⟩) ⟨ae⟩) ao)))) ao)) ⟨ae⟩) ao) (by kernel_rfl) Z) (by kernel_rfl)) (aD (bN (i:=2) aX.nd Z (Or.inl Z) (bF fM ⟨(pv 2)⟩ (aI (aa (λ_ _=>rfl) (aI (aa (λ_ _=>rfl) (aR (aa (λ_ _=>rfl) ⟨ai⟩ (aa (λ_ _=>rfl) (aI (aa (λ_ _=>rfl) (aR (aa (λ_ _=>rfl) ⟨ai⟩ (aa (λ_ _=>rfl) ⟨ae⟩ ao))) ao)) (aa (λ_ _=>rfl) ⟨d_⟩ ao)))) ao)) (aa (λ_ _=>rfl) (aI (aa (λ_ _=>rfl) (aR (aa (λ_ _=>rfl) ⟨ai⟩ (aa (λ_ _=>rfl) ⟨ai⟩ (aa (λ_ _=>rfl) (aI (aa (λ_ _=>rfl) (aR (aa (λ_ _=>rfl) ⟨ai⟩ (aa (λ_ _=>rfl) ⟨ae⟩ ao))) ao)) ao)))) ao)) ao)))) (by kernel_rfl) (Or.inl Z)) (aD (bN (i:=2) aX.nd Z (Or.inl Z) (bF fM ⟨(pv 2)⟩ (aI (aa (λ_ _=>rfl) (aI (aa (λ_ _=>rfl) (aR (aa (λ_ _=>rfl) ⟨ai⟩ (aa (λ_ _=>rfl) ⟨ai⟩ (aa (λ_ _=>rfl) ⟨ae⟩ (aa (λ_ _=>rfl) ⟨ae⟩ (aa (λ_ _=>rfl) (aI (aa (λ_ _=>rfl) ⟨d_⟩ ao)) ao)))))) ao)) (aa (λ_ _=>rfl) (aI (aa (λ_ _=>rfl) (aR (aa (λ_ _=>rfl) ⟨ai⟩ (aa (λ_ _=>rfl) ⟨ai⟩ (aa (λ_ _=>rfl) (aI (aa (λ_ _=>rfl) (aR (aa (λ_ _=>rfl) (aI ao) (aa (λ_ _=>rfl) ⟨ai⟩ ao))) ao)) ao)))) ao)) (aa (λ_ _=>rfl) (aI (aa (λ_ _=>rfl) (aR (aa (λ_ _=>rfl) ⟨qh⟩ (aa (λ_ _=>rfl) ⟨ai⟩ ao))) ao)) ao))))) (by kernel_rfl) (Or.inl Z)) (bC (jH ⟨(H_ (oN Hf) (KR ["_law_body_here"] 1 [] (ff (pv 2)) (λ_ _ _ _ _=>⟨(jk 0 (show(["_law_body_here"]:au).Nodup by decide+kernel)),(Lq (iy (gm (cI oz hr T.oC aC (aM (pv 0)))))),(pv 0)⟩)) (bH dY))⟩))))))))))))))))),?_⟩;have F0:Fr H H:=λ_ h=>h;refine xW (t_ (F5 (G:=H) (d:= .list (List.replicate 41 [tlD]).flatten) ?_ λvt H1 s1 et=>AF ?_))
 .exact iZ (ds:=[tlD]) (by decide) F0 (me F0 (aW (kC (aW eT (aW eT dh))) dh)) Z (by decide)
 dsimp only;have F1:Fr H H1:=F0.same s1;refine xW (t_ (aaF (G:=H) (d:=eiD) ?_ λve H2 s2 ee=>AF ?_))
 .exact kC (aW eT (aW (me F1 (aW (kC (aW eT (aW eT (aW iK dh)))) dh)) (aW (me F1 dh) dh)))
 dsimp only;have F:Fr H H2:=F1.same s2;have TQ:=et.same (bh s2);refine xW (t_ ?_);apply xB (G:=H)
 .repeat (first|exact dh|apply aW|exact iK|exact fZ|exact eT|exact rp|apply jq|apply jv F|exact cE rfl TQ|exact cE rfl ee|apply fw (by decide) (by decide) F|apply nX (by decide) F|apply iZ (by decide) F (hn:=by decide)|apply i5 F|exact jD ⟨by decide,by decide,by decide⟩|exact rfl)
 intro vr H3 s3 er;have B:Bn H H3 vt ve vr _:=⟨(s1.trans s2).trans s3,TQ.same (bh s3),ee.same (bh s3),er⟩;show FU _ _ _ [some vt,some ve,some vr] H3;apply iD B
 .repeat (first|exact dh|apply aW|exact iK|exact fZ|exact eT|exact rp|apply jq|apply jv B.fr|exact cE rfl B.tl|exact cE rfl B.ei|apply fw (by decide) (by decide) B.fr|apply nX (by decide) B.fr|apply iZ (by decide) B.fr (hn:=by decide)|apply i5 B.fr|exact jD ⟨by decide,by decide,by decide⟩|exact rfl)
 .rfl
 clear B;intro vr H3 B;apply iD B
 .repeat (first|exact dh|apply aW|exact iK|exact fZ|exact eT|exact rp|apply jq|apply jv B.fr|exact cE rfl B.tl|exact cE rfl B.ei|apply fw (by decide) (by decide) B.fr|apply nX (by decide) B.fr|apply iZ (by decide) B.fr (hn:=by decide)|apply i5 B.fr|exact jD ⟨by decide,by decide,by decide⟩|exact rfl)
 .rfl
 clear B;intro vr H3 B;apply iD B
 .repeat (first|exact dh|apply aW|exact iK|exact fZ|exact eT|exact rp|apply jq|apply jv B.fr|exact cE rfl B.tl|exact cE rfl B.ei|apply fw (by decide) (by decide) B.fr|apply nX (by decide) B.fr|apply iZ (by decide) B.fr (hn:=by decide)|apply i5 B.fr|exact jD ⟨by decide,by decide,by decide⟩|exact rfl)
 .rfl
 clear B;intro vr H3 B;apply iD B
 .repeat (first|exact dh|apply aW|exact iK|exact fZ|exact eT|exact rp|apply jq|apply jv B.fr|exact cE rfl B.tl|exact cE rfl B.ei|apply fw (by decide) (by decide) B.fr|apply nX (by decide) B.fr|apply iZ (by decide) B.fr (hn:=by decide)|apply i5 B.fr|exact jD ⟨by decide,by decide,by decide⟩|exact rfl)
 .rfl
 clear B;intro vr H3 B;apply iD B
 .repeat (first|exact dh|apply aW|exact iK|exact fZ|exact eT|exact rp|apply jq|apply jv B.fr|exact cE rfl B.tl|exact cE rfl B.ei|apply fw (by decide) (by decide) B.fr|apply nX (by decide) B.fr|apply iZ (by decide) B.fr (hn:=by decide)|apply i5 B.fr|exact jD ⟨by decide,by decide,by decide⟩|exact rfl)
 .rfl
 clear B;intro vr H3 B;apply iD B
 .repeat (first|exact dh|apply aW|exact iK|exact fZ|exact eT|exact rp|apply jq|apply jv B.fr|exact cE rfl B.tl|exact cE rfl B.ei|apply fw (by decide) (by decide) B.fr|apply nX (by decide) B.fr|apply iZ (by decide) B.fr (hn:=by decide)|apply i5 B.fr|exact jD ⟨by decide,by decide,by decide⟩|exact rfl)
 .rfl
 clear B;intro vr H3 B;apply Bc B
 .repeat (first|exact dh|apply aW|exact iK|exact fZ|exact eT|exact rp|apply jq|apply jv B.fr|exact cE rfl B.tl|exact cE rfl B.ei|apply fw (by decide) (by decide) B.fr|apply nX (by decide) B.fr|apply iZ (by decide) B.fr (hn:=by decide)|apply i5 B.fr|exact jD ⟨by decide,by decide,by decide⟩|exact rfl)
 .rfl
 .decide+kernel
 .decide+kernel
 clear B;intro vr H3 B;apply Bc B
 .repeat (first|exact dh|apply aW|exact iK|exact fZ|exact eT|exact rp|apply jq|apply jv B.fr|exact cE rfl B.tl|exact cE rfl B.ei|apply fw (by decide) (by decide) B.fr|apply nX (by decide) B.fr|apply iZ (by decide) B.fr (hn:=by decide)|apply i5 B.fr|exact jD ⟨by decide,by decide,by decide⟩|exact rfl)
 .rfl
 .decide+kernel
 .decide+kernel
 clear B;intro vr H3 B;apply iD B
 .repeat (first|exact dh|apply aW|exact iK|exact fZ|exact eT|exact rp|apply jq|apply jv B.fr|exact cE rfl B.tl|exact cE rfl B.ei|apply fw (by decide) (by decide) B.fr|apply nX (by decide) B.fr|apply iZ (by decide) B.fr (hn:=by decide)|apply i5 B.fr|exact jD ⟨by decide,by decide,by decide⟩|exact rfl)
 .rfl
 clear B;intro vr H3 B;apply Bc B
 .repeat (first|exact dh|apply aW|exact iK|exact fZ|exact eT|exact rp|apply jq|apply jv B.fr|exact cE rfl B.tl|exact cE rfl B.ei|apply fw (by decide) (by decide) B.fr|apply nX (by decide) B.fr|apply iZ (by decide) B.fr (hn:=by decide)|apply i5 B.fr|exact jD ⟨by decide,by decide,by decide⟩|exact rfl)
 .rfl
 .decide+kernel
 .decide+kernel
 clear B;intro vr H3 B;apply iD B
 .repeat (first|exact dh|apply aW|exact iK|exact fZ|exact eT|exact rp|apply jq|apply jv B.fr|exact cE rfl B.tl|exact cE rfl B.ei|apply fw (by decide) (by decide) B.fr|apply nX (by decide) B.fr|apply iZ (by decide) B.fr (hn:=by decide)|apply i5 B.fr|exact jD ⟨by decide,by decide,by decide⟩|exact rfl)
 .rfl
 clear B;intro vr H3 B;apply iD B
 .repeat (first|exact dh|apply aW|exact iK|exact fZ|exact eT|exact rp|apply jq|apply jv B.fr|exact cE rfl B.tl|exact cE rfl B.ei|apply fw (by decide) (by decide) B.fr|apply nX (by decide) B.fr|apply iZ (by decide) B.fr (hn:=by decide)|apply i5 B.fr|exact jD ⟨by decide,by decide,by decide⟩|exact rfl)
 .rfl
 clear B;intro vr H3 B;obtain⟨l,xs,rfl,el,xl,hx⟩:=B.items (by decide+kernel) rfl;have KD:=tabs.same B.sm;refine C2 (Iq ⟨_,Z,l,Z,⟨_,cF.of el⟩,?_⟩);refine z7 (xs:=xs) (λp i ys H' =>ys=[]/\fX A H3 H'/\o5 A H') (aU xl (by decide)) ?_ ?_ ?_ ?_
 .rintro p i ys H' ⟨_,kp,_⟩
  exact fL (cF.of (kp.lst KD el))
 .exact λp hp=>⟨Z,(ah.upd hp).xZ,KD.same (ah.upd hp)⟩
 .rintro p i x ys H' C1 C0 hp hi ⟨rfl,kp,tb⟩ KU c1 c0
  obtain⟨d,e,ok,z,nl⟩:=hx x (bD hi);have e' :=(Q5 KD e).same kp.h;refine⟨(gJ.refl _).own (by decide),_,Z,x,Z,⟨d,e',ok,z⟩,tb,λg6 rt acQ => ?_⟩;have k' :fX A H' g6 :=λc o h1 h2 ec=>(rt c o h1 h2 ec).elim id (by rintro ⟨hf,zs,ho⟩;exact absurd (ho▸ec) (UA 40 x _ d e' nl hf c zs Z));exact⟨_,Z,bo (c0 g6 (k'.lst tb KU) ⟨Z,kp.trans k',acQ⟩)⟩
 .rintro p ys H' hp ⟨rfl,kp,tb⟩ KU _
  exact⟨m7,λe he=>zS (ah.upd he _ _ KU) af (q _ (B.sm.xZ.trans (kp.trans (ah.upd he).xZ)) (tb.same (ah.upd he)))⟩
theorem XU{A:nT}{v:V}{Hs G Hx Y0:Hp}(sm:Sm (bw G Hx) 80 1000 v)(S:ah Hs G)(Sx:ah Hs Hx)(rt:RtK A v Hx Y0):fX A Hs Y0:=λc o h1 h2 e=>by
 rcases rt c o h1 h2 (Sx _ _ e) with h|⟨hf,xs,rfl⟩
 .exact h
 .rw[(Dp.same vK 40 v (sm.dp (aK _) 40 80 v (by lia))).2] at hf;obtain⟨d,hd,_⟩:=sm.fb 40 80 v (.ref c) hf;have g:=S _ _ e;have x:=Sx _ _ e
  cases hd with
  |lst e' _=>
   have:=(e_ e').2 _ rfl;rw[g] at this;cases this
  |tup e' _=>
   have:=(e_ e').1;rw[x] at this;cases this
  |Ca e' _ _=>
   have:=(e_ e').1;rw[x] at this;cases this
noncomputable def Nk:List U':=[.none,.int 7,.str "tell",.dict [],.bool true,.str "",.dict [(.str "tell",.str "a")]]
theorem WC{G H:Hp}{σ:L2.St}{x y:Str}:kG G (L6 [(tC (.str x),tC (.str y))]) σ H (.dict [(.str x,.str y)]):=⟨λH1 s Q q p hp=>by
 refine⟨af,[(.inr x,.str y)],Z,(show 1<=15 by decide),q _ _ (fh hp (ah.upd hp)) (.Ca (kvs:=[(.inr x,.str y)]) (cL ?_ (λ_ z=>nomatch z)) Z (.cons (.str y) .nil))⟩;rw[af];rfl⟩
def aae(A:nT)(K:Frag):Sp:=λvs H Q _=>∃(a:S') (ns:List Int),vs=[.ref a]/\cF K H a (ns.map V.int)/\ns.length<=63/\o5 A H/\∀H',Q (.bl true) H'
theorem Xf(T:Txt K mg A)(Fm:wR P w K A fm)(Fp:∀x:Str,bg.lookup x=none->eV fm.kF (.inr x)=none)(df:QU A):aT P w K mg base dQ 56 A.Mj A.Kj ["_law_script"] (aae A K):=by
 have oz:aT P w K mg base dQ 54 A.gE A.fJ ["_law_body_here"] (Ap A):=aT.MT (by rintro vs H Q E ⟨v,e,_⟩;rw[e];rfl) λxr=>tK T Fm Fp df xr;have sF:aT P w K mg base dQ 55 A.eZ A.gM [] (FK A):=pM T Fm Fp df;refine T.Tr.F.okM m8 (λvs H Q E h=> ?_) (λcB Ar outer s0 H vs Q E hr h=> ?_)
 .obtain⟨a,ns,rfl,_⟩:=h;rfl
 .obtain⟨a,ns,rfl,hS,hl,tabs,q⟩:=h
  have Hf:(Ar.deeper (envOfC "law" (av Ou) s0.heap.objs.size A.Mj cB)).units<cLine:=by
   have:=hr.un
   lia
  have hSx:∀H',fX A H H'->cF K H' a (ns.map V.int):=λH' k=>by
   obtain⟨_,⟨ps1,e1,_⟩,⟨ps2,e2,_⟩⟩:=id tabs;rcases hS with(h|⟨o,h⟩)|h
   .exact .inl (.inl (k.lst tabs h))
   .exact .inl (.inr ⟨o,k _ _ (dw h e1 (λz=>nomatch z)) (dw h e2 (λz=>nomatch z)) h⟩)
   .exact .inr h
  refine⟨_,(aD (P0 (gB Z T.kL (aM (iW (kX Z) T.xU Boot.«max» (ag ae (aM (iW (Ky Z) T.ZW Boot.«min» (ag ae (aM (iW br T.g7 Boot.«len» (aM (pv 0))))))))))) (jk 1 m8.nd) (aD (bN (i:=2) m8.nd Z (Or.inr Z) (Zp (FJ T) hr T.AH aC (λ_ _=>rfl) (aa (λ_ _=>rfl) (my (EL T) hr T.yk aC (λ_ _=>rfl) (λ_ _=>rfl) (aa (λ_ _=>rfl) ⟨(pv 0)⟩ (aa (λ_ _=>rfl) ⟨(pv 1)⟩ ao))) ao)) (by kernel_rfl) (Or.inl Z)) (aD (bN (i:=3) m8.nd Z (Or.inl Z) (my (aE T) hr T.aG aC (λ_ _=>rfl) (λ_ _=>rfl) (aa (λ_ _=>rfl) ⟨(pv 2)⟩ (aa (λ_ _=>rfl) ⟨ae⟩ ao))) (by kernel_rfl) (Or.inl Z)) (aD (bN (i:=4) m8.nd Z (Or.inl Z) (my (aE T) hr T.aG aC (λ_ _=>rfl) (λ_ _=>rfl) (aa (λ_ _=>rfl) ⟨(pv 2)⟩ (aa (λ_ _=>rfl) ⟨ae⟩ ao))) (by kernel_rfl) (Or.inl Z)) (aD (bN (i:=5) m8.nd Z (Or.inl Z) (Zp (Cg T) hr T.vC aC (λ_ _=>rfl) (aa (λ_ _=>rfl) ⟨(pv 2)⟩ ao)) (by kernel_rfl) (Or.inl Z)) (aD (bN (i:=6) m8.nd Z (Or.inr Z) ⟨(cI (qQ T 9) hr T.jJ aC (ag (pv 5) (ag (bH dY) (aM ae))))⟩ (by kernel_rfl) (Or.inl Z)) (aD ⟨(Hv 7 m8.nd ["_law_turn","_law_box_here","_law_rows"] 1 [2,6] (gB Z T.kL (aM (aL md (aL bA ae (pv 4)) (Ox xv T.CC Boot.«int» (aM (H_ (xm Hf) (pv 6) (bH dY))))))) (λ_ _ _ _ _=>⟨(jk 0 (show(["_law_turn","_law_box_here","_law_rows"]:au).Nodup by decide+kernel)),uU,(cI (aE T) hr T.aG aC (ag (pv 1) (aM (iW (BQ (K:=K) Z) T.g7 Boot.«len» (aM (pv 2))))))⟩))⟩ (aD (bN (i:=5) m8.nd Z (Or.inl Z) ⟨(cI (Aq T 8) hr T.nh aC (ag (pv 2) (ag (pv 5) (ag (bH (aM ae)) (aM (pv 7))))))⟩ (by kernel_rfl) (Or.inl Z)) (aD (eO (wn cK (pv 3) ae) (bC (bN (i:=5) m8.nd Z (Or.inl Z) (uC a8 (aI (aa (λ_ _=>rfl) ⟨d_⟩ (aa (λ_ _=>rfl) ⟨ae⟩ (aa (λ_ _=>rfl) ⟨ai⟩ (aa (λ_ _=>rfl) ⟨qh⟩ (aa (λ_ _=>rfl) ⟨kz⟩ (aa (λ_ _=>rfl) ⟨ai⟩ (aa (λ_ _=>rfl) ⟨(vQ (g9 ai ai vJ) Z Z (by simp) (by decide))⟩ ao)))))))) (my (aE T) hr T.aG aC (λ_ _=>rfl) (λ_ _=>rfl) (aa (λ_ _=>rfl) ⟨(pv 2)⟩ (aa (λ_ _=>rfl) ⟨ae⟩ ao))) (λ_ _=>rfl)) (by kernel_rfl) (Or.inl Z))) cg) (bC (eO (iy (gm (cI oz hr T.oC aC (aM (pv 5))))) (bC (jH ⟨kz⟩)) cg)))))))))) Z (λ_=>rfl)) (bC (jH ⟨(NI (sF.mono (by decide)) hr Z T.eY.m T.eY.F.kp T.eY.b .nil aC)⟩))),?_⟩;refine⟨_,Z,a,_,Z,.inl hS,5,_,Z,2,_,Z,?_⟩;generalize hn:(if(if((List.map V.int ns).length:Int)<5 then((List.map V.int ns).length:Int) else 5)>2 then(if((List.map V.int ns).length:Int)<5 then((List.map V.int ns).length:Int) else 5) else 2)=n
  have nn:0<=n/\n<=5:=by
   rw[<-hn]
   split<;>split<;>lia
  refine⟨n,Z,by lia,by lia,?_⟩;refine nS (λi σ H' =>∃(x1 x2 x3 x4 x5 x6 x7:Option V),σ=[some (.ref a),x1,x2,x3,x4,x5,x6,x7]/\fX A H H'/\o5 A H') ⟨_,_,_,_,_,_,_,Z,(ah.refl H).xZ,tabs⟩ ?_ ?_
  .rintro i σ Hs hi ⟨x1,x2,x3,x4,x5,x6,x7,rfl,kHs,tabS⟩
   refine⟨_,Z,_,Z,a,ns,_,Z,hSx _ kHs,by lia,by lia,λc=>⟨c,Z,λb H1 hb B s1=>⟨_,Z,b,9,0,Z,B,by lia,by decide,by decide,λwh H2 w0 w1 B2 O2=>⟨_,Z,b,2,0+1,Z,B2,by lia,by decide,by decide,λtw H3 t0 t1 B3 O3=>⟨_,Z,b,Z,B3,λl s H4 hl4 hd ok dp mn ⟨k',B4,Xj⟩ K4=> ?_⟩⟩⟩⟩⟩;have FG:∀{Hx Hy:Hp},ah Hs Hx->Kept b Hx Hy->ah Hs Hy:=λS k c o e=>k _ _ (aA e hb) (S _ _ e);have S4:ah Hs H4:=FG (FG (FG s1 O2.kept) O3.kept) K4;refine⟨_,Z,m7,λu hu=>⟨bw H3 H4,_,false,s,u,[],0,Z,vK.trans (ah.upd hu),hd,ok,by lia,af,by lia,by show 0+_<_;lia,λl' rz H5 WE s5 hrz R=> ?_⟩⟩;have s45:=(ah.upd (o:= .lst []) hu).trans s5;have rl:=R.len;have ml:=mN s [] 0
   have nb' :l'≠b:=by
    obtain⟨_,_,_,eb,_⟩:=B4;exact(aA (ah.upd (o:= .lst []) hu _ _ eb) WE).symm
   refine⟨_,Z,1,tw,Z,Z,_,Z,m7,λe6 Sa=>⟨l',e6,rz,Z,Z,ah.upd Sa _ _ hrz,af,.inr ⟨_,Z,_,_,Z,Z,.inl ⟨by lia,by lia⟩,?_⟩⟩⟩
   obtain⟨N,hN,N2,Np⟩:∃N:Nat,(1+tw)*(if(!rz.isEmpty)=true then 1 else 0)=(N:Int)/\N<=2/\(0<N->0<rz.length):=by
    cases rz with
    |nil=>exact⟨0,by simp,by decide,λz=>absurd z (by decide)⟩
    |cons y r=>exact⟨(1+tw).toNat,by show(1+tw)*1=_;lia,by lia,λ_=>Nat.succ_pos _⟩
   have s46:=s45.trans (ah.upd (o:= .lst []) Sa);have Zz:=ah.upd (o:= .lst []) Sa _ _ hrz;generalize upd H5 e6 (.lst [])=H6 at s46 Zz ⊢;refine⟨N,by rw[<-hN],by lia,by lia,?_⟩;refine z7 (xs:=(List.range N).map λ(i:Nat)=>V.int (0+(i:Int))) (λp i ys H' =>∃ms:List Int,ys=ms.map V.int/\Sw b H6 (k' +i) H') (by rw[a6,o7];exact aU N2 (by decide)) ?_ ?_ ?_ ?_
   .rintro p j ys H' _
    exact GY 0 N H'
   .exact λp hp=>⟨[],Z,Sw.same ⟨B4.same s46,Kept.refl _ _⟩ (ah.upd hp)⟩
   .rintro p j x ys H' C1 C0 hp hj ⟨ms,rfl,W⟩ KU c1 c0
    have jl:=(c9.mp hj).1;rw[a6,o7] at jl;have MO:p≠b:=(B4.same s46).ne hp;refine⟨(gJ.refl _).own (by decide),_,Z,_,Z,l',rz,Z,.inl (cF.of (W.kp _ _ nb' Zz)),b,rz.length,k' +j,Z,W.box,by lia,by have:=Np (by lia);lia,by lia,λr g6 r0 r1 B'' O'' => ?_⟩;refine c1 (.int r) g6 (O''.kept _ _ MO KU) ⟨ms++[r],by rw[iQ];rfl,?_,?_⟩
    .obtain⟨x',y',z',eb,rb⟩:=B'';exact⟨x',y',z',by rw[az MO.symm];exact eb,rb⟩
    .intro c' o hc e;rw[az (aA e hp)];exact O''.kept _ _ hc (W.kp _ _ hc e)
   rintro p ys H7 hp ⟨ms,rfl,W7⟩ NS ml7
   rw[a6,a6,o7] at ml7;rw[a6,o7] at W7;have MO:p≠b:=(B4.same s46).ne hp;have k47:Kept b H4 H7:=s46.kept.trans W7.kp;have S7:ah Hs H7:=FG S4 k47;obtain⟨bx,by_,bz,eb3,_⟩:=id B3;obtain⟨cx,cy,cz,eb4,_⟩:=id B4
   have Z0:bw H3 H4 b=none:=by
    unfold bw;rw[eb4,eb3]
   refine⟨_,Z,_,Z,y8,λct Yw=>⟨_,Z,?_⟩⟩;have s8:=ah.upd (o:= .lst [V.int 0]) Yw;have e8:upd H7 ct (.lst [V.int 0]) ct=some (.lst [.int 0]):=af;have ncb:ct≠b:=W7.box.ne Yw;have Ys:p≠ct:=aA NS Yw
   have h0c:bw H3 H4 ct=none:=by
    unfold bw
    cases e:H4 ct with
    |none=>rfl
    |some o=>rw[k47 _ o ncb e] at Yw;cases Yw
   generalize upd H7 ct (.lst [V.int 0])=H8 at s8 e8 ⊢;have S8:=S7.trans s8;have B8:=W7.box.same s8;obtain⟨dx,dy,dz,eb8,_⟩:=id B8;have gb:H8 b≠none:=by rw[eb8];exact λz=>nomatch z
   have gc:H8 ct≠none:=by rw[e8];exact λz=>nomatch z
   refine⟨H8,bw H3 H4,b,ct,p,_,false,s,k' +N,ms,Z,(λc o e=>s8 _ _ (k47 _ _ (λz=>by rw[z,Z0] at e;cases e) (e_ e).1)),Z0,h0c,hd,ok,by lia,mn,⟨B8,⟨0,e8⟩,λ_ _ _ _ e=>e⟩,by lia,s8 _ _ NS,by lia,ncb,MO,Ys,gb,gc,(λ_ h=>h),λl2 ws ds H9 k9 hl9 e9 d9 ok9 z9 pw9 hk9=> ?_⟩;have S9:ah Hs H9:=λc o e=>pw9.kp _ _ (aA e hb) (aA (S7 _ _ e) Yw) (S8 _ _ e);have sm9:Sm (bw H8 H9) 80 1000 (.ref l2):=⟨.list ds,.lst (cL e9 (λ_ _=>hl9)) d9,nD (k:=2*8+3+1) (a7.mpr ok9) (by decide),by rw[eK];lia⟩;apply jao (F:=λv h=>Sm (bw H8 h) 80 1000 v/\ah Hs h)
   .intro hM;refine⟨_,Z,Z,_,Z,mF (λ_=> ?_) (λ_=> ?_)⟩
    .refine t_ (Iq (xB (G:=H8) (d:= .list Nk) ?_ λv3 HA sA dA=> ?_))
     .refine me (λc hc=> ?_) ?_
      .cases e:H8 c with
       |none=>rfl
       |some o=>
        obtain⟨m9,hm9⟩:=pw9.cn;rw[pw9.kp _ o (pw9.box.ne hc) (aA hm9 hc).symm e] at hc;cases hc
      .exact aW iK (aW fZ (aW eT (aW rp (aW P1 (aW eT (aW WC dh))))))
     have BA:=pw9.box.same sA;refine⟨_,Z,b,7,k9,Z,BA,by lia,by decide,by decide,λr HB a0 a1 BB OB=>xf (dA.same (gj BA gb OB.kept)) a0 a1 λuv ud X6 euv=> ?_⟩;have:=a7.mp (show Nk.all (λd=>mC 80 d&&decide (eK d<=1000))=true by decide+kernel) ud X6;rw[cH,iq] at this;exact hM uv HB ⟨⟨ud,euv,this.1,this.2⟩,FG (S9.trans sA) OB.kept⟩
    .exact hM (.ref l2) H9 ⟨sm9,S9⟩
   .rintro v HC ⟨smC,SC⟩
    refine AF ?_;dsimp only;exact⟨_,Z,v,Z,smC.same vK,tabS.same SC,λHD rt tbD=>⟨_,Z,bo ⟨_,_,_,_,_,_,_,Z,kHs.trans (XU smC S8 SC rt),tbD⟩⟩⟩
  .rintro σ Hs ⟨x1,x2,x3,x4,x5,x6,x7,rfl,kHs,tabS⟩
   exact⟨Z,tabS,λH' _ _=>q H'⟩
theorem OY{K:Frag}{c P:S'}{od:Option S'}{sl:Array (aO)}{v0 v1 v2 v3 v4 v5 v6 v8 QR v13 v14 v15 v16 v17:M'}{fl tx:Int}{tg tt tf:Tok}{b:Bool}{file:Str}
 (l:K.lookup c=some ⟨.type "code",od,.fields #[v0,v1,v2,v3,v4,v5,v6,.int fl tg,v8,.bool b,.int tx tt,.ref P,QR,v13,v14,v15,v16,v17,.str file tf],sl⟩) (ne:c≠P):zX K (.ref c) P:=
 ⟨c,_,_,file,tf,fl,tg,b,tx,tt,Z,l,Z,Z,Z,Z,Z,Z,Z,Z,ne⟩
theorem Xq{K:Frag}{h:Y'}{mg:Str->aO}{bm:S'}{sl:Array (aO)}(X:K.In h)(G:h.Ns mainGlobals mg)(a:PySem.W.nsIn K mainGlobals "__builtins__"=some (some (.ref bm)))(l:K.lookup bm=some ⟨.type "module",some builtinsNs,.plain,sl⟩)(n1:bm≠builtinsNs)(n2:bm≠mainGlobals):PL K mg:=
 ⟨bm,_,PySem.W.mg_of X G a,n1,n2,l,Z,Z,Z⟩
theorem aeK{K:Frag}{fd:aad}{ps:au}{T:S'}{o:Obj}{items:Array M'}{n:Nat}{k:M'->M'->M'->Option (Array M')->Sem (List (Str×M'))}(ho:K.lookup T=some o)(hd:fd.defaults= .ref T)(hs:o.data= .seq items n)
 (h1:∀a b c,bindArgs fd ⟨[a,b,c],[]⟩=seqItems? fd.defaults>>= k a b c) (h2:∀a b c,k a b c (some items)=pure (ps.zip [a,b,c])) (hp:ps.length=3:=by rfl):Binds K fd ps []:=by
 intro s us X hl;rw[fG,hp] at hl;rw[fG];exact Yn (P:=λus=>BindsTo s fd ⟨us,[]⟩ (ps.zip us)) (λa b c=>binds_K X hd ho hs (h1 a b c) (h2 a b c)) us hl
theorem aeo{K:Frag}{fd:aad}{ps:au}{T:S'}{o:Obj}{u:M'}{n:Nat}{k:M'->M'->Option (Array M')->Sem (List (Str×M'))}(ho:K.lookup T=some o)(hd:fd.defaults= .ref T)(hs:o.data= .seq #[u] n)
 (h1:∀a b,bindArgs fd ⟨[a,b],[]⟩=seqItems? fd.defaults>>= k a b) (h2:∀a b,k a b (some #[u])=pure (ps.zip [a,b,u])) (hp:ps.length=3:=by rfl):Binds K fd ps [u]:=by
 intro s us X hl;rw[bu,hp] at hl;have hl:us.length=2:=oG hl;exact Yg (P:=λus=>BindsTo s fd ⟨us,[]⟩ (ps.zip (us++[u]))) (λa b=>binds_K X hd ho hs (h1 a b) (h2 a b)) us hl
noncomputable abbrev ad9(P:Params)(l:List (Str×Tok×S'))(ep:Nat):Obj:={cls:= .type "dict",data:= .dict (l.map λp=>(⟨PyData.keyHash P p.1,.str p.1 p.2.1,.ref p.2.2⟩:DictEntry)).toArray ep}
theorem Kp:∀l:List (Str×Tok×S'),KV (l.map λp=>((Sum.inr p.1:wS),V.ref p.2.2)) (l.map λp=>((Sum.inr p.1:wS),Value.ref p.2.2))
 |[]=> .nil
 |p::r=> .cons ⟨Z,Z⟩ (Kp r)
theorem Bm(x:Str)(t:Tok):yG (.inr x) (.str x t)=true:=by
 show Value.isStrOf x (.str x t)=true;simp[Value.isStrOf]
theorem Bb{P:Z'}{w:W'}:∀l:List (Str×Tok×S'),Pairs (cW P w) (l.map λp=>(⟨PyData.keyHash w.params p.1,.str p.1 p.2.1,.ref p.2.2⟩:DictEntry)) (l.map λp=>((Sum.inr p.1:wS),Value.ref p.2.2))
 |[]=> .nil
 |p::r=> .cons (Bm p.1 p.2.1) Z (Bb r)
theorem FC{P:Z'}{w:W'}{K:Frag}{d:S'}{l:List (Str×Tok×S')}{ep:Nat}(lk:K.lookup d=some (ad9 w.params l ep))(nd:(l.map λp=>(Sum.inr p.1:wS)).Nodup)(ns:(d==sysModules)=false):Bq P w K d (l.map λp=>((Sum.inr p.1:wS),V.ref p.2.2)):=by
 refine⟨_,l.map λp=>((Sum.inr p.1:wS),Value.ref p.2.2),lk,ns,Kp l,λh e=>⟨_,_,ep,e,⟨Z,Z,Z⟩,Z,λx hx=> ?_,?_,?_⟩⟩
 .rw[List.mem_toArray] at hx;obtain⟨p,_,rfl⟩:=jC.mp hx;exact⟨.inr p.1,Bm p.1 p.2.1,Z⟩
 .rw[ET];exact Bb l
 .rw[kM];exact nd
theorem NH{K:Frag}{t:S'}{n:Nat}(l:List (Str×Tok))(lk:K.lookup t=some {cls:= .type "tuple",data:= .seq (l.map λp=>Value.str p.1 p.2).toArray n})(h:l.length<=10):∀H,bc K H t (l.map λp=>V.str p.1):=λH=>by
 refine .inr ⟨_,_,n,lk,Z,Z,?_,?_⟩
 .rw[bJ,a6];exact aU h (by decide)
 .rw[ET];clear lk h
  induction l with
  |nil=>exact .nil
  |cons p r ih=>exact .cons ⟨_,Z⟩ ih
theorem vO{K:Frag}{t:S'}{n:Nat}{i j:Int}{ti tj:Tok}(lk:K.lookup t=some {cls:= .type "tuple",data:= .seq #[.int i ti,.int j tj] n}):∀H,bc K H t [.int i,.int j]:=λH=> .inr ⟨_,_,n,lk,Z,Z,gY,.cons ⟨_,Z⟩ (.cons ⟨_,Z⟩ .nil)⟩
noncomputable def lF:List (Str×Tok×S'):=[("make",479,233),("put",483,234),("get",487,235),("set",491,236),("copy",494,237),("more",497,238),("tell",501,239),("same",503,240),("frame",506,241),("turns",509,242),("either",514,243)]
noncomputable def lB:List (Str×Tok×S'):=[("size",529,245),("cell",532,246),("many",535,247),("times",538,248)]
noncomputable def frm:Frm:=⟨lF.map λp=>((Sum.inr p.1:wS),V.ref p.2.2),lB.map λp=>((Sum.inr p.1:wS),V.ref p.2.2)⟩
theorem QH(w:W'):∀p∈bg,∃(t:S') (l:List (Str×Tok)),eV frm.kF (.inr p.1)=some (.ref t)/\l.map (λp=>V.str p.1)=p.2.map V.str/\l.length<=10/\(uh w.params).lookup t=some {cls:= .type "tuple",data:= .seq (l.map λp=>Value.str p.1 p.2).toArray 0}:=by
 intro p hp;simp only[bg,aP,cO,cN] at hp;rcases hp with rfl|rfl|rfl|rfl|rfl|rfl|rfl|rfl|rfl|rfl|rfl
 .exact⟨233,[("name",480),("size",481),("mark",482)],by with_unfolding_all rfl,Z,by decide,by kernel_rfl⟩
 .exact⟨234,[("name",484),("cell",485),("name",486)],by with_unfolding_all rfl,Z,by decide,by kernel_rfl⟩
 .exact⟨235,[("name",488),("name",489),("cell",490)],by with_unfolding_all rfl,Z,by decide,by kernel_rfl⟩
 .exact⟨236,[("name",492),("value",493)],by with_unfolding_all rfl,Z,by decide,by kernel_rfl⟩
 .exact⟨237,[("name",495),("name",496)],by with_unfolding_all rfl,Z,by decide,by kernel_rfl⟩
 .exact⟨238,[("name",498),("name",499),("number",500)],by with_unfolding_all rfl,Z,by decide,by kernel_rfl⟩
 .exact⟨239,[("name",502)],by with_unfolding_all rfl,Z,by decide,by kernel_rfl⟩
 .exact⟨240,[("name",504),("name",505)],by with_unfolding_all rfl,Z,by decide,by kernel_rfl⟩
 .exact⟨241,[("label",507),("body",508)],by with_unfolding_all rfl,Z,by decide,by kernel_rfl⟩
 .exact⟨242,[("label",510),("many",511),("times",512),("body",513)],by with_unfolding_all rfl,Z,by decide,by kernel_rfl⟩
 .exact⟨243,[("body",515),("body",516)],by with_unfolding_all rfl,Z,by decide,by kernel_rfl⟩
theorem Xd(P:Z')(w:W'){A:nT}(e1:A.gC=232)(e2:A.iF=244)(e3:G_.data= .func A.eG):wR P w (uh w.params) A frm:=by
 refine⟨?_,?_,?_,?_,?_⟩
 .rw[e1];exact FC (l:=lF) (ep:=11) (by kernel_rfl) (by decide+kernel) (by decide)
 .rw[e2];exact FC (l:=lB) (ep:=4) (by kernel_rfl) (by decide+kernel) (by decide)
 .intro p hp;obtain⟨t,l,h1,h2,h3,h4⟩:=QH w p hp;exact⟨t,h1,λH=>h2▸NH l h4 h3 H⟩
 .have e4:A.eG=(match G_.data with| .func fd=>fd|_=>A.eG):=by rw[e3]
  rw[e4];exact⟨.int 0 609,⟨_,Z⟩,aeo (T:=301) (o:=OX) (n:=0) (by kernel_rfl) Z Z (λ_ _=>rfl) (λ_ _=>rfl)⟩
 .intro p hp;simp only[xc,aP,cO,cN] at hp;rcases hp with rfl|rfl|rfl|rfl
  .exact⟨245,by with_unfolding_all rfl,vO (n:=0) (ti:=530) (tj:=531) (by kernel_rfl)⟩
  .exact⟨246,by with_unfolding_all rfl,vO (n:=0) (ti:=533) (tj:=534) (by kernel_rfl)⟩
  .exact⟨247,by with_unfolding_all rfl,vO (n:=0) (ti:=536) (tj:=537) (by kernel_rfl)⟩
  .exact⟨248,by with_unfolding_all rfl,vO (n:=0) (ti:=539) (tj:=540) (by kernel_rfl)⟩
theorem WM(x:Str)(h:bg.lookup x=none):eV frm.kF (.inr x)=none:=by
 refine vx λp hp z=> ?_;obtain⟨q,hq,rfl⟩:=jC.mp (show p∈lF.map λp=>((Sum.inr p.1:wS),V.ref p.2.2) from hp);have e:q.1=x:=vp z;have:=bE (a7.mp (show(lF.all λq=>decide (bg.lookup q.1≠none))=true by decide+kernel) q hq);rw[e] at this;exact this h
structure Qd(P:Z')(w:W')(K:Frag)(A:nT):Prop where
 fm:∃fm,wR P w K A fm/\∀x:Str,bg.lookup x=none->eV fm.kF (.inr x)=none
 df:QU A
 p1:A.cM=580
 p2:A.ay=351
theorem QZ{P:Z'}(w:W')(A:nT)(e1:A.gC=232)(e2:A.iF=244)(e3:G_.data= .func A.eG)(df:QU A)(p1:A.cM=580)(p2:A.ay=351):Qd P w (uh w.params) A:=⟨⟨_,Xd P w e1 e2 e3,WM⟩,df,p1,p2⟩
noncomputable abbrev Jj:List (S'×Array M'):=[(580,#[]),(351,#[])]
theorem QY{w:W'}{h:Y'}(X:(EG w.params).In h):(uh w.params).In h/\∀Pt ps,(Pt,ps)∈Jj->h.get? Pt=some (tabObj ps)/\(uh w.params).lookup Pt=none/\∃c,CodeHd h c Pt:=by
 have l1:(uh w.params).lookup 351=none:=by kernel_rfl
 have l2:(uh w.params).lookup 580=none:=by kernel_rfl
 have xr:(uh w.params).In h:=λa o e=>by
  refine X a o ?_;show List.lookup a ((351,_)::(580,_)::uh w.params)=some o;have n1:a≠351:=λz=>by rw[z,l1] at e;cases e
  have n2:a≠580:=λz=>by rw[z,l2] at e;cases e
  rw[iR,beq_false_of_ne n1,iR,beq_false_of_ne n2];exact e
 refine⟨xr,λPt ps hm=> ?_⟩;simp only[aP,cO,cN,zW] at hm;rcases hm with⟨rfl,rfl⟩|⟨rfl,rfl⟩
 .exact⟨X _ _ (by kernel_rfl),l2,(OY (K:=uh w.params) (c:=584) (l:=show(uh w.params).lookup 584=some Ms by kernel_rfl) (by decide)).hd xr⟩
 .exact⟨X _ _ (by kernel_rfl),l1,(OY (K:=uh w.params) (c:=355) (l:=show(uh w.params).lookup 355=some M3 by kernel_rfl) (by decide)).hd xr⟩
structure aaA(p1 p2:S')(H:Hp):Prop where
 ne:p1≠p2
 p:Tab H p1 lpP qP
 i:Tab H p2 LY qI
def IM(K:Frag):Sp:=λvs H Q _=>∃(a:S') (ns:List Int),vs=[.ref a]/\cF K H a (ns.map V.int)/\ns.length<=63/\aaA 580 351 H/\∀H',Q (.bl true) H'
theorem walk{l:PySem.W.OpenLaw}{q:Z'}{loose:au}{XP:(Str->aO)->Y'->Prop}{YP:W'->Y'->Prop}{d:DefRec}{K:Params->Frag}(hn:l.most=some 63)(ZM:d.params.defaults=[])
 (hY:∀(w:W') (h:Y'),YP w h->(K w.params).In h/\∀Pt ps,(Pt,ps)∈Jj->h.get? Pt=some (tabObj ps)/\(K w.params).lookup Pt=none/\∃c,CodeHd h c Pt)
 (F:∀(w:W') (mg:Str->aO) (fa:S') (h:Y'),(K w.params).In h->h.Ns mainGlobals mg->mg d.name=some (.ref fa)->
  ∃fd:aad,(∀(s:R') (u:M'),BindsTo s fd ⟨[u],[]⟩ [("_law_script",u)])/\∀base:Y',(K w.params).In base->base.Ns mainGlobals mg->aT l.prog w (K w.params) mg base dQ 56 fa fd ["_law_script"] (IM (K w.params))):
 PySem.W.WalkO q loose XP YP l.row.toRowW d [] (λf vs=>PySem.call f vs):=
 L2.Mi (n:=63) (k:=56) (x:="_law_script") (CX:=λ_=>dQ) (sp:=λw=>IM (K w.params)) (tabs:=Jj) hn (by decide) ZM ⟨Z,by decide,by decide,Z⟩ hY (λPt ps Lk h1 h2=>by
  simp only[aP,cO,cN,zW] at h1 h2
  rcases h1 with⟨_,rfl⟩|⟨_,rfl⟩<;>rcases h2 with⟨_,rfl⟩|⟨_,rfl⟩<;>rfl) F (λ_ H a ns hl hO hS=>⟨a,ns,Z,hS,hl,⟨by decide,⟨#[],hO.at_ _ _ (by simp),by first|exact True.intro|constructor|decide,.inl rfl⟩,⟨#[],hO.at_ _ _ (by simp),by first|exact True.intro|constructor|decide,.inl rfl⟩⟩,λ_=>rfl⟩) λ_ _ _ _ _ z=>z
theorem Wb{l:PySem.W.OpenLaw}{w:W'}{K:Frag}{h:Y'}{mg:Str->aO}{fa:S'}(X:K.In h)(G:h.Ns mainGlobals mg)(hfa:mg "law"=some (.ref fa))(hT:∃A:nT,Txt K mg A/\Qd l.prog w K A):
 ∃fd:aad,(∀(s:R') (u:M'),BindsTo s fd ⟨[u],[]⟩ [("_law_script",u)])/\∀base:Y',K.In base->base.Ns mainGlobals mg->aT l.prog w K mg base dQ 56 fa fd ["_law_script"] (IM K):=by
 obtain⟨A,T,S⟩:=hT;obtain⟨fm,Fm,Fp⟩:=S.fm;have e:=hfa.symm.trans T.Tr.m;cases e;refine⟨A.Kj,T.aaD,λbase _ _=>(Xf T Fm Fp S.df).imp λvs H Q E ⟨a,ns,h1,h2,h3,h4,h5⟩=>⟨a,ns,h1,h2,h3,⟨?_,?_,?_⟩,h5⟩⟩
 .rw[S.p1,S.p2];exact h4.ne
 .rw[S.p1];exact h4.p
 .rw[S.p2];exact h4.i
section
open PySem.W
variable{K:Frag}{h:Y'}{mg:Str->aO}{x q:Str}{st:Stmt}{ps:au}{f C:S'}{oc kV dc pm cd ct:M'}{od an:Option S'}{sl:Array (aO)}
noncomputable abbrev fS(n q:Str)(s:Stmt)(kV dc pm:M')(an:Option S')(cd ct:M'):aad:=fnOf n q (ib s) (dN s) (av s) .none kV dc pm an cd ct
theorem ZF(X:K.In h)(G:h.Ns mainGlobals mg)(a:nsIn K mainGlobals x=some (some (.ref f)))(l:K.lookup f=some ⟨oc,od,.func (fS x x st kV dc pm an cd ct),sl⟩)(c:codeIn K cd x=true)(k:keepIn K (.ref f)=true)
 (b:∀kV dc pm an cd ct (us:aF),us.length=ps.length->bindArgs (fS x x st kV dc pm an cd ct) ⟨us,[]⟩=pure (ps.zip us)):FI K mg x st ps f (fS x x st kV dc pm an cd ct):=⟨mg_of X G a,EU (st:=st) l c k,(EU (st:=st) l c k).binds b⟩
theorem aa3(a:findIn K (.ref C) x=some (some (.ref f)))(i:isFn K (.ref f)=true)(l:K.lookup f=some ⟨oc,od,.func (fS x q st kV dc pm an cd ct),sl⟩)(c:codeIn K cd q=true)(k:keepIn K (.ref f)=true)
 (b:∀kV dc pm an cd ct (us:aF),us.length=ps.length->bindArgs (fS x q st kV dc pm an cd ct) ⟨us,[]⟩=pure (ps.zip us)):MI K C x q st ps f (fS x q st kV dc pm an cd ct):=⟨⟨a,i,k⟩,EU (st:=st) l c k,(EU (st:=st) l c k).binds b⟩
theorem Z_{nm q' :Str}{N R:S'}{bs:aF}{sn:au}{sub:aF}{ab:Bool}{col:Option Bool}{dd:Option S'}{k0 k1 k2 k3 k5:aO}(X:K.In h)(G:h.Ns mainGlobals mg)(a:nsIn K mainGlobals x=some (some (.ref C)))
 (l:K.lookup C=some (excClassObj nm q' C N bs [.ref R,.type "ValueError",.type "Exception",.type "BaseException",.type "object"] true sn sub ab col dd k0 k1 k2 k3 k5 "ValueError.__new__")) (i:findIn K (.ref C) "__init__"=some (some (.ref f))) (ty:typeIn K (.ref f)=some (.type "function")) (kp:keepIn K (.ref C)=true)
 (sa:findIn K (.ref C) "__setattr__"=some (some (.builtin "object.__setattr__"))) (ga:findIn K (.ref C) "__getattribute__"=some (some (.builtin "BaseException.__getattribute__"))) (hk:findIn K (.ref C) "__getattr__"=some none) (mr:mroIn K C (.type "BaseException")=some true) (hd:hasDictIn K C=true)
 (ca:findIn K (.ref C) "__class__"=some (some (.builtin "object.__class__"))) (gt:specialIn K (.builtin "object.__class__") "__get__"=some (some (.builtin "getset_descriptor.__get__"))) (tk:takesIn K (.builtin "object.__class__")=some true) (mo:mroIn K C (.type "object")=some true) (tt:typeIn K (.ref C)=some (.type "type")) (ve:mroIn K C (.type "ValueError")=some true):XI K mg x C f R:=
 ⟨mg_of X G a,⟨⟨nm,q',N,bs,_,true,sn,sub,ab,col,dd,k0,k1,k2,k3,k5,l,Z,Z,Z,Z⟩,i,ty,kp⟩,⟨⟨nm,q',N,bs,_,sn,sub,ab,col,dd,k0,k1,k2,k3,k5,l,(by intro self;(repeat rw[refuseLoop_ref]);exact L2.wD self),Z⟩,sa⟩,⟨⟨ga,hk,mr,hd⟩,ca,gt,tk,mo⟩,tt,Zn l,ve⟩
theorem Wm{nm q' :Str}{N:S'}{bs:aF}{sn:au}{sub:aF}{ab:Bool}{col:Option Bool}{dd:Option S'}{k0 k1 k2 k3 k5:aO}(X:K.In h)(G:h.Ns mainGlobals mg)(a:nsIn K mainGlobals x=some (some (.ref C)))
 (l:K.lookup C=some (excClassObj nm q' C N bs [.type "ValueError",.type "Exception",.type "BaseException",.type "object"] true sn sub ab col dd k0 k1 k2 k3 k5 "ValueError.__new__")) (i:findIn K (.ref C) "__init__"=some (some (.ref f))) (ty:typeIn K (.ref f)=some (.type "function")) (kp:keepIn K (.ref C)=true)
 (sa:findIn K (.ref C) "__setattr__"=some (some (.builtin "object.__setattr__"))) (ga:findIn K (.ref C) "__getattribute__"=some (some (.builtin "BaseException.__getattribute__"))) (hk:findIn K (.ref C) "__getattr__"=some none) (mr:mroIn K C (.type "BaseException")=some true) (hd:hasDictIn K C=true)
 (ca:findIn K (.ref C) "__class__"=some (some (.builtin "object.__class__"))) (gt:specialIn K (.builtin "object.__class__") "__get__"=some (some (.builtin "getset_descriptor.__get__"))) (tk:takesIn K (.builtin "object.__class__")=some true) (mo:mroIn K C (.type "object")=some true) (tt:typeIn K (.ref C)=some (.type "type")) (ve:mroIn K C (.type "ValueError")=some true):XI K mg x C f C:=
 ⟨mg_of X G a,⟨⟨nm,q',N,bs,_,true,sn,sub,ab,col,dd,k0,k1,k2,k3,k5,l,Z,Z,Z,Z⟩,i,ty,kp⟩,⟨⟨nm,q',N,bs,_,sn,sub,ab,col,dd,k0,k1,k2,k3,k5,l,(by intro self;(repeat rw[refuseLoop_ref]);exact L2.wD self),Z⟩,sa⟩,⟨⟨ga,hk,mr,hd⟩,ca,gt,tk,mo⟩,tt,Wx l,ve⟩
theorem YZ{oc:M'}{od:Option S'}{dt:Data}{sl:Array (aO)}(l:K.lookup sysModules=some ⟨oc,od,dt,sl⟩)(e:oc= .type "dict"):∃o,K.lookup sysModules=some o/\o.cls= .type "dict":=⟨_,l,e⟩
theorem YF{n:Int}{t:Tok}(X:K.In h)(G:h.Ns mainGlobals mg)(a:nsIn K mainGlobals x=some (some (.int n t))):∃u,RelV (.int n) u/\mg x=some u:=⟨_,⟨_,Z⟩,mg_of X G a⟩
theorem YT{n:Str}{t:Tok}(X:K.In h)(G:h.Ns mainGlobals mg)(a:nsIn K mainGlobals x=some (some (.str n t))):∃u,RelV (.str n) u/\mg x=some u:=⟨_,⟨_,Z⟩,mg_of X G a⟩
end
theorem Vv{P:Z'}{w:W'}{K:Frag}{mg:Str->aO}{f0 f1 f2 f3 f4 f5 f6 f7 f8 f9 f10 f11 f12 f13 f14 f15 f16 f17 f18 f19 f20 f21 f22 f23 f24 f25 f26 f27 f28 f29 f30 f31 f32 f33 f34 f35 f36 f37 f38 f39 f40 f41 f42 f43 f44 f45 f46 f47 f48 f49 f50 f51 f52 f53 f54 f55 f56 f57 f58 f59 f60 f61 f62 f63 f64 f65 f66 f67 f68 f69 f70 f71 f72:S'}{d0 d1 d2 d3 d4 d5 d6 d7 d8 d9 d10 d11 d12 d13 d14 d15 d16 d17 d18 d19 d20 d21 d22 d23 d24 d25 d26 d27 d28 d29 d30 d31 d32 d33 d34 d35 d36 d37 d38 d39 d40 d41 d42 d43 d44 d45 d46 d47 d48 d49 d50 d51 d52 d53 d54 d55 d56 d57 d58:aad}(T:Txt K mg ⟨f0,f1,f2,f3,f4,f5,f6,f7,f8,f9,f10,f11,f12,f13,f14,f15,f16,f17,f18,f19,f20,f21,f22,f23,f24,f25,f26,f27,f28,f29,f30,f31,f32,f33,f34,f35,f36,f37,f38,f39,f40,f41,f42,f43,f44,f45,f46,f47,f48,f49,f50,f51,f52,f53,f54,f55,f56,f57,f58,f59,f60,f61,f62,f63,f64,f65,f66,f67,f68,f69,f70,f71,f72,d0,d1,d2,d3,d4,d5,d6,d7,d8,d9,d10,d11,d12,d13,d14,d15,d16,d17,d18,d19,d20,d21,d22,d23,d24,d25,d26,d27,d28,d29,d30,d31,d32,d33,d34,d35,d36,d37,d38,d39,d40,d41,d42,d43,d44,d45,d46,d47,d48,d49,d50,d51,d52,d53,d54,d55,d56,d57,d58⟩)(S:Qd P w K ⟨f0,f1,f2,f3,f4,f5,f6,f7,f8,f9,f10,f11,f12,f13,f14,f15,f16,f17,f18,f19,f20,f21,f22,f23,f24,f25,f26,f27,f28,f29,f30,f31,f32,f33,f34,f35,f36,f37,f38,f39,f40,f41,f42,f43,f44,f45,f46,f47,f48,f49,f50,f51,f52,f53,f54,f55,f56,f57,f58,f59,f60,f61,f62,f63,f64,f65,f66,f67,f68,f69,f70,f71,f72,d0,d1,d2,d3,d4,d5,d6,d7,d8,d9,d10,d11,d12,d13,d14,d15,d16,d17,d18,d19,d20,d21,d22,d23,d24,d25,d26,d27,d28,d29,d30,d31,d32,d33,d34,d35,d36,d37,d38,d39,d40,d41,d42,d43,d44,d45,d46,d47,d48,d49,d50,d51,d52,d53,d54,d55,d56,d57,d58⟩):∃A:nT,Txt K mg A/\Qd P w K A:=⟨_,T,S⟩
end My
open PySem PySem.W PyProof.Rows
set_option maxRecDepth 100000 in
set_option maxHeartbeats 0 in
theorem PySem.Challenge.cw_framerooms_k37_programs_refused_holds : PySem.Challenge.rw_framerooms_k37_programs_refused.Holds := by
 w_on
 refine holds_law My.XE λafM=> ?_;refine holds_open (q:=My.rn) (loose:=My.zw) (Xt:=λs=>xlAt My.rn [] s&&recOk (RowW.records PySem.Challenge.rw_framerooms_k37_programs_refused.row.toRowW) s) (XP:=XL My.rn []) (Yf:=My.pJ.obs) (Ya:=My.pJ.val) (YP:=Hook.says (kHook My.EG My.WG My.JI)) My.WK My.pJ.of My.pJ.keeps (λs e=>xl_of s (Bool.and_eq_true_iff.mp e).1) XL.keeps (by rfl) (by rfl) (by rfl) (λs e=>recFacts_of (Bool.and_eq_true_iff.mp e).2) (by rfl) afM (by decide+kernel) ⟨Z,Z,Z,Z,Z,by decide+kernel⟩ ?hw ?hc
 case hw=>w_witness2
 refine My.walk (l:=PySem.Challenge.rw_framerooms_k37_programs_refused) (K:=My.uh) Z Z (λw h Y=>My.QY (PySem.W.kIn_of Y)) ?F
 case F=>
  k_fill
  intro w mg fa h KX G Rm;refine' My.Wb KX G Rm (My.Vv ?T ?S)
  case T=>
   constructor
   all_goals try dsimp only
   all_goals first|(apply My.Z_ KX G<;>k_is)|(apply My.Wm KX G<;>k_is)|(apply My.ZF KX G;(iterate 4 k_is);(intro _ _ _ _ _ _;first|exact L2.bn1 λ_=>rfl|exact L2.Yg λ_ _=>rfl|exact L2.Yn λ_ _ _=>rfl|exact L2.bn4 λ_ _ _ _=>rfl|exact L2.bn6 λ_ _ _ _ _ _=>rfl|exact L2.bn0 rfl))|(apply L2.Vq KX G;(iterate 4 k_is);exact My.aeK (by k_is) rfl rfl (λ_ _ _=>rfl) (λ_ _ _=>rfl))|(apply My.aa3;(iterate 5 k_is);(intro _ _ _ _ _ _;first|exact L2.bn1 λ_=>rfl|exact L2.Yg λ_ _=>rfl|exact L2.Yn λ_ _ _=>rfl|exact L2.bn4 λ_ _ _ _=>rfl|exact L2.bn6 λ_ _ _ _ _ _=>rfl|exact L2.bn0 rfl))|(refine' mg_of KX G ?_;k_is)|(refine' mg_none_of KX G ?_;k_is)|(apply My.YF KX G;k_is)|(apply My.YT KX G;k_is)|k_is|(show _=_;k_is)|(apply My.OY;k_is;decide)|(apply My.Xq KX G;k_is;k_is;decide;decide)|(constructor<;>k_is)|(apply My.YZ;k_is;rfl)|decide|(intro _ _;exact BindsTo.of_eq rfl)
  case S=>exact My.QZ w _ Z Z Z (by unfold My.QU;decide) Z rfl
