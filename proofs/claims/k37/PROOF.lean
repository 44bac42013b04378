import PyProof.Rows.All
import Wide.All
import OpenK.AllK
import Wide.FinOn
import Lean
import PyProof.EqAt
import PyProof.EqKinds
import PyProof.TupleCall
import PySem.Challenge.RW_framerooms_k37_programs_refused
set_option Elab.async false
set_option linter.all false
set_option maxRecDepth 100000
set_option maxHeartbeats 4000000
theorem Z{α:Sort _}{a:α}:a=a:=rfl
abbrev i':=@PySem.mem_of_lookup
abbrev D':=@PySem.F.slot_list_append
abbrev F':=@PySem.F.type_list_append
abbrev J':=PySem.Value->PySem.Shared->Prop
abbrev M':=PySem.Value
abbrev R':=PySem.Shared
abbrev S':=PySem.Addr
abbrev U':=PySem.PyData
abbrev V':=PySem.Expr
abbrev W':=PySem.World
abbrev X':=PySem.Around
abbrev Y':=PySem.Heap
abbrev Z':=PySem.Program
abbrev aad:=PySem.FuncData
abbrev aw:=@PySem.wpAny_bind
abbrev bq:=@PySem.Heap.get?_push_of_some
abbrev a_:=@PySem.Heap.lt_size
abbrev aY:=@PySem.wpAny_pure
abbrev a6:=@List.length_map
abbrev aK:=@Nat.le_refl
abbrev bu:=@List.length_append
abbrev ax:=@if_neg
abbrev bB:=@List.length_cons
abbrev a7:=@List.all_eq_true
abbrev aS:=@decide_eq_true
abbrev aP:=@List.mem_cons
abbrev bE:=@List.mem_of_getElem?
abbrev ba:=@decide_eq_false
abbrev aU:=@Nat.le_trans
abbrev bD:=@of_decide_eq_true
abbrev cV:=@PySem.Heap.get?_push_size
abbrev aB:=@if_pos
abbrev bJ:=@List.size_toArray
abbrev c8:=@List.getElem?_eq_some_iff
abbrev cw:=@List.mem_cons_of_mem
abbrev bY:=@List.getElem?_map
abbrev eA:=@List.getD_eq_getElem?_getD
abbrev cP:=@Nat.lt_of_lt_of_le
abbrev cU:=@Bool.false_ne_true
abbrev c5:=@List.mem_cons_self
abbrev cI:=@Bool.and_eq_true
abbrev gn:=@PySem.Heap.get?_update_other
abbrev cO:=@List.not_mem_nil
abbrev c6:=@PySem.wpAny_field
abbrev cA:=@Nat.lt_irrefl
abbrev cL:=@List.map_cons
abbrev iy:=@List.getElem?_append_left
abbrev gT:=@PySem.F.plainAttrs_list
abbrev cJ:=@Nat.ne_of_lt
abbrev cT:=@Nat.le_of_lt
abbrev gM:=@List.length_replicate
abbrev eB:=@List.mem_append
abbrev cH:=@Nat.zero_le
abbrev kr:=@List.getElem?_append_right
abbrev iP:=@List.zipWith_cons_cons
abbrev gm:=@List.mem_singleton
abbrev jA:=@PySem.wpAny_loadPart_at
abbrev ma:=@PySem.Heap.get?_update_self
abbrev fV:=@PySem.wpAny_mono
abbrev fJ:=@List.append_nil
abbrev jC:=@List.take_append_drop
abbrev gg:=@List.take_length
abbrev fW:=@Option.some.inj
abbrev ie:=@decide_eq_true_iff
abbrev lV:=@PySem.wpAny_Call_Name_kw
abbrev fj:=@List.all_cons
abbrev l_:=@PySem.wpAny_truthy_bool
abbrev iX:=@Nat.lt_of_le_of_lt
abbrev lQ:=@List.zipWith_nil_right
abbrev kl:=@PySem.Heap.size_push
abbrev cR:=@or_false
abbrev qx:=@List.eq_nil_of_length_eq_zero
abbrev lS:=@List.mem_append_right
abbrev mj:=@List.zipWith_nil_left
abbrev kh:=@PySem.wpAny_holding
abbrev ck:=@Ne.symm
abbrev iD:=@List.lookup_cons
abbrev i7:=@List.map_append
abbrev nh:=@List.getElem?_eq_none
abbrev iH:=@Nat.not_lt_zero
abbrev mZ:=@List.findSome?_append
abbrev ix:=@Option.none_or
abbrev lZ:=@List.filter_eq_self
abbrev oU:=@PySem.wpAny_newObj_type
abbrev qE:=@PySem.wpAny_isSubtype_exc
abbrev oV:=@List.take_of_length_le
abbrev nC:=@List.findSome?_cons
abbrev oB:=@Nat.le_of_ble_eq_true
abbrev xf:=@PyProof.Rows.slot_tuple_getitem
abbrev uK:=@Array.getElem?_eq_some_iff
abbrev oP:=@PySem.wpAny_seqItems
abbrev lM:=@List.length_take
abbrev xc:=@PySem.wpAny_callSpecial?_slot
abbrev ny:=@Int.toNat_natCast
abbrev nk:=@Option.some.injEq
abbrev uu:=@PySem.Calls.spliced_cons
abbrev uE:=@PySem.Obj.data_mapFields
abbrev mw:=@PySem.W.kia_one
abbrev AW:=@List.exists_of_findSome?_eq_some
abbrev jD:=@Nat.ne_of_gt
abbrev jn:=@List.mem_map
abbrev uw:=@PySem.wpAny_call_entry
abbrev oy:=@List.length_range
abbrev qB:=@PySem.wpAny_standAt
abbrev pM:=@List.replicate_succ
abbrev qd:=@List.getElem?_range
abbrev m5:=@List.length_nil
abbrev qU:=@List.contains_cons
abbrev xw:=@PySem.wpAny_setField_rec
abbrev o6:=@Nat.le_add_right
abbrev lq:=@Bool.and_true
abbrev nE:=@Bool.false_and
abbrev uI:=@PySem.wpAny_setField
abbrev oS:=@List.filterMap_cons
abbrev i3:=@List.all_nil
abbrev va:=@PySem.F.excBase_ValueError
abbrev zO:=@PySem.F.slot_tuple_iterator_next
abbrev vb:=@Array.getElem?_eq_getElem
abbrev rK:=@List.mem_append_left
abbrev mU:=@Bool.eq_iff_iff
abbrev wm:=@List.getElem?_eq_getElem
abbrev kP:=@List.sum_cons
abbrev kR:=@Bool.true_and
abbrev vS:=@PySem.wpAny_pyIter_list
abbrev wF:=@PySem.Calls.spliced_nil
abbrev vR:=@List.getElem?_replicate
abbrev rY:=@beq_eq_false_iff_ne
abbrev mK:=@List.mem_range
abbrev oC:=@PySem.wpAny_call
abbrev og:=@List.length_drop
abbrev zK:=@PyProof.Rows.callWith_type1
abbrev sf:=@PySem.codeAny_mono
abbrev sg:=@PySem.W.callWith_K
abbrev zC:=@PySem.Obj.isFreed_of_fields
abbrev sv:=@Int.emod_lt_of_pos
abbrev kI:=@List.map_map
abbrev wu:=@PySem.wpAny_passesOwn
abbrev oE:=@List.nil_append
abbrev vk:=@PySem.F.slot_zip_next
abbrev oj:=@Int.emod_nonneg
abbrev rE:=@PySem.W.piece_app
abbrev rX:=@PySem.sizeLine_eq
abbrev rH:=@List.flatten_cons
abbrev sd:=@List.take_add_one
abbrev zT:=@PySem.F.plain_extend_loop
abbrev zj:=@List.drop_eq_getElem_cons
abbrev si:=@PySem.wpAny_rule
abbrev zF:=@PySem.wpAny_pyIter_tuple
abbrev zR:=@PySem.F.slot_list_extend
abbrev mS:=@List.map_nil
abbrev zH:=@PySem.PassesOwn.leaving
abbrev r_:=@List.mem_filter
abbrev vO:=@List.mem_filterMap
abbrev sj:=@List.find?_cons
abbrev uS:=@List.filter_append
abbrev wj:=@Bool.false_eq_true
abbrev rT:=@Int.natCast_add
abbrev rS:=@List.drop_drop
abbrev zq:=@PySem.wpAny_execs_nil
abbrev oF:=@Nat.le_of_eq
abbrev zr:=@List.mem_iff_getElem?
abbrev zo:=@List.length_filter_le
abbrev zV:=@PySem.wpAny_updateSeq
abbrev oG:=@Nat.succ.inj
abbrev zJ:=@List.getElem?_set_ne
abbrev DL:=@PySem.codeAny_call_builtin
abbrev zA:=@Array.length_toList
abbrev zM:=@PySem.wpAny_onRaise
abbrev zP:=@Int.toNat_of_nonneg
abbrev vg:=@List.nodup_cons
abbrev vV:=@List.forIn_cons
abbrev sk:=@Bool.or_true
abbrev EA:=@List.lookup_eq_some_iff
abbrev DM:=@Int.eq_ofNat_of_zero_le
abbrev zB:=@List.ext_getElem?
abbrev Ea:=@List.getElem?_set_self
abbrev Ee:=@Option.map_eq_some_iff
abbrev DZ:=@List.filter_eq_nil_iff
abbrev zh:=@Nat.lt_succ_self
abbrev mJ:=@if_false
abbrev zi:=@Nat.le_max_right
abbrev zN:=@List.cons_append
abbrev E3:=@List.length_singleton
abbrev rF:=@beq_iff_eq
abbrev zW:=@List.of_mem_zip
abbrev Kg:=@PyProof.Rows.callWith_builtin1
abbrev zS:=@Nat.le_max_left
abbrev zG:=@Int.natCast_mul
abbrev ES:=@List.toList_toArray
abbrev EX:=@List.length_pos_iff
abbrev zy:=@List.forIn_nil
abbrev uV:=@Sum.inr.inj
abbrev vD:=@Nat.le_succ
abbrev za:=@List.any_cons
abbrev zQ:=@List.take_nil
abbrev zt:=@Prod.mk.injEq
abbrev EC:=@List.append_assoc
abbrev o5:=@if_true
abbrev ze:=@Nat.lt_trans
abbrev EB:=@List.getElem_mem
abbrev zc:=@Nat.sub_zero
abbrev D0:=@List.length_set
abbrev DS:=@Bool.or_eq_true
abbrev Eo:=@Nat.min_eq_left
abbrev Et:=@List.filter_map
open PySem.W (CodeHd Frag bind_fn binds_K callWith_K callWith_K0 cellsFrom_some clsIn emptyDict envX findCls findObj_own handedIn instObj kia_one kia_tup kitOne kitx_bool kitx_dict kitx_int kitx_list kitx_none kitx_str kitx_tuple kla_eval kla_fn lookIn looks_findIn makesIn methodCall_KW methodObj notCls plainGet plainGet_of plainOver set_plain tabObj takerIn)
open PySem.F (args_dict_get_3 args_tuple_add_2 entry_dict_get entry_extend_loop entry_tuple_add excBase_ValueError plainAttrs_list plain_extend_loop slot_dict_get slot_list_extend slot_tuple_add type_list_extend)
open PySem in
noncomputable abbrev aQ:=List (S'×Obj)
open PySem in
noncomputable abbrev aG:=List M'
open PySem in
noncomputable abbrev aO:=Option M'
open PySem in
noncomputable abbrev au:=List Str
open PySem in
noncomputable abbrev cc:=List S'
open PySem in
noncomputable abbrev b7:=List V'
namespace L2
open PySem PySem.Spec PyProof.Rows
def ww(s:Stmt)(j:Nat):Stmt:=match s with
 | .ClassDef _ _ _ body _ _ _ _ _ _ _=>body.getD j (.Pass ⟨0,0,0,0⟩)
 |_=> .Pass ⟨0,0,0,0⟩
noncomputable def hX(s:Stmt):Arguments:=match s with
 | .FunctionDef _ a _ _ _ _ _ _ _ _=>a
 |_=>{posonlyargs:=[],args:=[],vararg:=none,kwonlyargs:=[],kw_defaults:=[],kwarg:=none,defaults:=[]}
noncomputable def dN(s:Stmt):List Stmt:=match s with
 | .FunctionDef _ _ b _ _ _ _ _ _ _=>b
 |_=>[]
noncomputable def av(s:Stmt):Scope:=match s with
 | .FunctionDef _ _ _ _ _ _ sc _ _ _=>sc
 |_=>{kind:= .function,names:=[],isGenerator:=false,isCoroutine:=false}
end L2
namespace My
open PySem L2 PyProof.Rows
def jp(i:Nat):Stmt:=PySem.Challenge.pw_framerooms_k37_programs_refused.main.body.getD i (.Pass ⟨0,0,0,0⟩)
abbrev j9:Stmt:=(ww (jp 2) 0)
abbrev lD:Stmt:=(ww (jp 3) 0)
abbrev mP:Stmt:=(ww (jp 4) 0)
abbrev my:Stmt:=(ww (jp 5) 0)
abbrev lW:Stmt:=(ww (jp 6) 0)
abbrev lN:Stmt:=(ww (jp 7) 0)
abbrev nW:Stmt:=(ww (jp 8) 0)
abbrev mv:Stmt:=(ww (jp 9) 0)
abbrev vU:Stmt:=(ww (jp 11) 0)
abbrev xF:Stmt:=(jp 15)
abbrev Bf:Stmt:=(jp 16)
abbrev Dy:Stmt:=(jp 17)
abbrev De:Stmt:=(jp 22)
abbrev MV:Stmt:=(jp 23)
abbrev z7:Stmt:=(jp 24)
abbrev xV:Stmt:=(jp 25)
abbrev A8:Stmt:=(jp 26)
abbrev yd:Stmt:=(jp 27)
abbrev C6:Stmt:=(jp 28)
abbrev Bl:Stmt:=(jp 29)
abbrev yh:Stmt:=(jp 30)
abbrev tK:Stmt:=(jp 31)
abbrev Dz:Stmt:=(jp 32)
abbrev x_:Stmt:=(jp 33)
abbrev vx:Stmt:=(jp 34)
abbrev vX:Stmt:=(jp 35)
abbrev xQ:Stmt:=(jp 36)
abbrev fM:Stmt:=(ww (jp 42) 0)
abbrev qJ:Stmt:=(ww (jp 42) 1)
abbrev xB:Stmt:=(jp 43)
abbrev tM:Stmt:=(jp 44)
abbrev xU:Stmt:=(jp 45)
abbrev xE:Stmt:=(jp 47)
abbrev Bu:Stmt:=(jp 48)
abbrev xH:Stmt:=(jp 49)
abbrev uZ:Stmt:=(jp 50)
abbrev sW:Stmt:=(jp 51)
abbrev pP:Stmt:=(jp 52)
abbrev vC:Stmt:=(jp 53)
abbrev jF:Stmt:=(jp 54)
abbrev vi:Stmt:=(jp 55)
abbrev tT:Stmt:=(jp 56)
abbrev xI:Stmt:=(jp 57)
abbrev lh:Stmt:=(jp 58)
abbrev wa:Stmt:=(jp 59)
abbrev rA:Stmt:=(jp 60)
abbrev tE:Stmt:=(jp 61)
abbrev q_:Stmt:=(jp 62)
abbrev pz:Stmt:=(jp 63)
abbrev iY:Stmt:=(jp 64)
abbrev xN:Stmt:=(jp 65)
abbrev jk:Stmt:=(jp 66)
abbrev tI:Stmt:=(jp 67)
abbrev yg:Stmt:=(jp 68)
abbrev uG:Stmt:=(jp 69)
abbrev kO:Stmt:=(jp 70)
abbrev sX:Stmt:=(jp 71)
abbrev gS:Stmt:=(jp 72)
abbrev Nq:Stmt:=(jp 73)
section hd
open PySem PySem.W PySem.Calls PyProof.Rows
noncomputable section
noncomputable abbrev bP(x:String)(n:Nat):M':=Value.str (Str.ofString x) n
noncomputable abbrev mH(l:Array M'):Obj:={cls:=Value.type "tuple",data:=Data.seq l}
noncomputable abbrev SU(l:Array M'):Obj:={cls:=Value.none,data:=Data.fields l}
noncomputable abbrev hdO(l:Array M'):Obj:={cls:=Value.type "code",data:=Data.fields l}
noncomputable abbrev hdK(a b:String)(n l r u:Nat):Obj:=hdO #[bP a n,bP b (n+1),bP "/claim/cut.py" (n+2),.int l 0,.int 0 0,.int 0 0,.int 0 0,.int 0 0,.ref r,.bool false,.int 181 0,.ref (r+1),.none,.none,.none,.none,.int u 0,.int l 0,bP "/claim/cut.py" (u+1)]
noncomputable abbrev Fp(a b:String)(n l p r u:Nat):Obj:=hdO #[bP a n,bP b (n+1),bP "/claim/cut.py" (n+2),.int l 0,.int p 0,.int 0 0,.int 0 0,.int 3 0,.ref r,.bool true,.int 181 0,.ref (r+1),.none,.ref (r+2),.ref (r+3),.ref (r+4),.int u 0,.int l 0,bP "/claim/cut.py" (u+1)]
noncomputable abbrev hdF(n q:String)(s:Stmt)(m:String)(k:Nat)(c:S'):Obj:={cls:=Value.type "function",data:=Data.func {name:=Str.ofString n,qualname:=Str.ofString q,params:=L2.hX s,body:= .stmts (L2.dN s),scope:=L2.av s,globals:=3,closure:=[],defaults:=Value.none,kwdefaults:=Value.none,pyModule:=bP m k,code:=Value.ref c}}
noncomputable abbrev hdG(n q:String)(s:Stmt):Obj:={cls:=Value.none,data:=Data.func {name:=Str.ofString n,qualname:=Str.ofString q,params:=L2.hX s,body:= .stmts (L2.dN s),scope:=L2.av s,globals:=0,closure:=[],defaults:=Value.none,kwdefaults:=Value.none}}
variable(P:Params)
noncomputable abbrev mE(P:Params)(x:String)(n:Nat)(v:M'):DictEntry:={hash:=PyData.keyHash P (Str.ofString x),key:=Value.str (Str.ofString x) n,val:=v}
noncomputable def Xy(c:Nat):List (Nat×Nat)->aG|[]=>[]|(a,r)::l=> .int a 0:: .int c 0:: .ref r::Xy c l
noncomputable abbrev NC:List (Nat×Nat):=[(1,20),(5,27),(9,47),(14,66),(19,85),(24,104)]
noncomputable abbrev JG:List (Nat×Nat):=NC++[(29,123),(34,142),(39,161),(44,180),(49,199)]
noncomputable abbrev GY:List (Nat×Nat):=JG++[(57,218),(59,225),(61,230)]
noncomputable abbrev DB:List (Nat×Nat):=GY++[(69,252),(75,259),(89,266),(91,271),(93,278),(95,285),(103,292),(109,299),(115,307),(122,314),(132,321),(140,326),(142,331),(149,336),(151,341)]
noncomputable abbrev HN:List (Nat×Nat):=DB++[(165,348),(197,416),(204,423),(210,430),(218,437),(222,444),(224,451),(233,456),(247,463),(258,468),(277,473),(284,480),(286,485),(292,492),(300,497),(316,504),(335,511),(337,516),(341,523),(343,530),(345,537),(347,544),(373,551),(396,558),(405,563),(414,570),(436,577),(441,584),(455,591),(459,596),(476,601)]
noncomputable abbrev dJ(P:Params)(x:String)(n:Nat)(a:S'):DictEntry:=mE P x n (.ref a)
noncomputable abbrev HZ(l:List DictEntry)(n:Nat):Obj:={cls:= .type "dict",data:=Data.dict ⟨l⟩ n}
noncomputable def Lc(t:List DictEntry):List DictEntry:=mE P "__doc__" 166 (.none)::mE P "__package__" 167 (.none)::mE P "__loader__" 168 (.builtin ("__main__.__loader__#opa" ++ "que"))::mE P "__spec__" 169 (.none)::dJ P "__annotations__" 170 6::dJ P "__builtins__" 171 4::mE P "__file__" 173 (bP "/claim/cut.py" 172)::mE P "__cached__" 174 (.none)::dJ P "_wall" 193 21::dJ P "RoomError" 221 38::dJ P "TooMany" 246 58::dJ P "NoDeed" 271 77::dJ P "TooDeep" 296 96::dJ P "TooWide" 321 115::t
noncomputable def FP(t:List DictEntry):List DictEntry:=dJ P "TooLong" 346 134::dJ P "Twice" 371 153::dJ P "NoLabel" 396 172::dJ P "NoMaking" 421 191::dJ P "NoText" 446 210::t
noncomputable def Kr(t:List DictEntry):List DictEntry:=mE P "LETTERS" 450 (bP "abcdefghijklmnopqrstuvwxyz" 449)::mE P "MOST_LETTERS" 452 (.int 6 451)::dJ P "is_number" 459 219::dJ P "is_whole" 468 226::dJ P "is_name" 474 231::mE P "OUTERMOST" 478 (bP "ground" 477)::t
noncomputable def RL(t:List DictEntry):List DictEntry:=dJ P "is_deed" 551 253::dJ P "fits" 559 260::dJ P "parts_of" 566 267::dJ P "bodies_of" 572 272::dJ P "is_block" 579 279::dJ P "want_body" 588 286::dJ P "many_in" 598 293::dJ P "depth_of" 608 300::dJ P "rewritten" 621 308::dJ P "with_bodies" 634 315::dJ P "listing" 646 322::dJ P "widest_of" 652 327::dJ P "choices_of" 658 332::dJ P "longest_of" 664 337::dJ P "length_of" 670 342::mE P "MOST_DEEDS" 674 (.int 40 673)::mE P "MOST_DEPTH" 676 (.int 6 675)::mE P "MOST_CHOICES" 678 (.int 4 677)::mE P "MOST_STEPS" 680 (.int 100 679)::t
noncomputable abbrev yX(x0:String)(x1:Nat)(x2:Nat)(x3:Nat):Obj:=hdK x0 x0 x1 x2 x3 (x1+3)
noncomputable abbrev yU(x0:Nat)(x1:Nat)(x2:String)(x3:Nat):Obj:={cls:= .type "frame",slots:= #[some (.ref x0),some (.ref 3),some (.ref x1),none,some (bP x2 x3),none,some (.ref 0)]}
noncomputable abbrev kf(x0:String)(x1:Nat):Obj:=mH #[bP x0 x1]
noncomputable abbrev dI(x0:String)(x1:Nat):Obj:=hdG x0 x0 (jp x1)
noncomputable abbrev gQ(x0:String)(x1:Nat)(x2:Nat)(x3:Nat)(x4:Nat)(x5:Nat):Obj:=Fp x0 x0 x1 x2 x3 x4 x5
noncomputable abbrev dS(x0:String)(x1:Nat)(x2:String)(x3:Nat)(x4:Nat):Obj:=hdF x0 x0 (jp x1) x2 x3 x4
noncomputable abbrev BR(x0:Nat)(x1:String)(x2:Nat)(x3:Nat)(x4:Nat):Obj:={cls:= .type "dict",data:=Data.dict #[mE P "__module__" x0 (bP "framerooms.errors" 194),mE P "__qualname__" (x0+2) (bP x1 (x0+1)),mE P "__firstlineno__" (x0+4) (.int x2 (x0+3)),mE P "__init__" (x0+12) (.ref x3),mE P "__static_attributes__" x4 (.ref (x3+1))] 5}
noncomputable abbrev Cp(x0:Nat)(x1:Nat):Obj:=SU #[.int x0 0,.int 4 0,.ref x1]
noncomputable abbrev pE(x0:String)(x1:Nat)(x2:String):Obj:=mH #[bP x0 x1,bP x2 (x1+1)]
noncomputable abbrev pC(x0:String)(x1:String)(x2:Nat)(x3:Nat):Obj:=hdG x0 x1 (ww (jp x2) x3)
noncomputable abbrev jh(x0:String)(x1:String)(x2:Nat)(x3:Nat)(x4:String)(x5:Nat)(x6:Nat):Obj:=hdF x0 x1 (ww (jp x2) x3) x4 x5 x6
noncomputable abbrev qK(x0:Nat):Obj:={cls:= .type "super",data:=Data.fields #[.ref x0,.ref x0,.ref x0]}
noncomputable abbrev qL(x0:Nat):Obj:={cls:= .type "builtin_function_or_method",data:=Data.fields #[.builtin "object.__init_subclass__",.ref x0]}
noncomputable abbrev vF(x0:Nat)(x1:Nat)(x2:Nat):Obj:={cls:= .type "dict",data:=Data.dict #[mE P "__module__" x0 (bP "framerooms.errors" 194),mE P "__firstlineno__" (x0+4) (.int x1 (x0+3)),mE P "__init__" (x0+12) (.ref x2),mE P "__static_attributes__" (x0+14) (.ref (x2+1)),mE P "__doc__" (x0+15) (.none)] 2}
noncomputable abbrev uX(x0:String)(x1:Nat)(x2:Nat):Obj:={cls:= .type "type",data:=Data.cls {name:=Str.ofString x0,bases:=[.ref 38],mro:=[.ref (x1+16),.ref 38,.type "ValueError",.type "Exception",.type "BaseException",.type "object"],ns:=(x1+15),qualname:=Str.ofString x0},slots:= #[some (.ref x1),none,some (bP x0 x2),some (bP x0 (x2+8)),some (.builtin "ValueError.__new__"),some (.bool true)]}
noncomputable abbrev vj(x0:String)(x1:Nat)(x2:String)(x3:String):Obj:=mH #[bP x0 x1,bP x2 (x1+1),bP x3 (x1+2)]
noncomputable abbrev kz(x0:String)(x1:Nat)(x2:Nat)(x3:Nat)(x4:Nat):Obj:=hdO #[bP x0 x1,bP x0 (x1+1),bP "/claim/cut.py" (x1+2),.int x2 0,.int x3 0,.int 0 0,.int 0 0,.int 3 0,.ref x4,.bool true,.int 181 0,.ref (x4+1),.none,.none,.none,.ref (x4+2),.int (x1+3) 0,.int x2 0,bP "/claim/cut.py" (x1+4)]
noncomputable abbrev aV:=mH #[]
noncomputable abbrev bV:=SU #[]
noncomputable abbrev HY:=yX "<module>" 182 1 11
noncomputable abbrev Jn:=yU 13 3 "__main__" 164
noncomputable abbrev Br:Obj:={cls:= .type "builtin_function_or_method",data:=Data.fields #[.builtin "type.__prepare__",.type "type"]}
noncomputable abbrev aa3:=Fp "__init__" "RoomError.__init__" 208 7 2 29 213
noncomputable abbrev aaV:=jh "__init__" "RoomError.__init__" 2 0 "framerooms.errors" 194 34
noncomputable abbrev aaY:Obj:={cls:= .type "dict",data:=Data.dict #[mE P "__module__" 203 (bP "framerooms.errors" 194),mE P "__firstlineno__" 207 (.int 5 206),mE P "__init__" 215 (.ref 35),mE P "__static_attributes__" 216 (.ref 36),mE P "__weakref__" 218 (.ref 39),mE P "__doc__" 219 (.none)] 3}
noncomputable abbrev EE:=mH #[.ref 38]
noncomputable abbrev aaI:=Fp "__init__" "TooMany.__init__" 234 11 2 49 239
noncomputable abbrev YA:=jh "__init__" "TooMany.__init__" 3 0 "framerooms.errors" 194 54
noncomputable abbrev ZD:=vF P 229 9 55
noncomputable abbrev ZW:=uX "TooMany" 42 222
noncomputable abbrev Zg:=Fp "__init__" "NoDeed.__init__" 259 16 2 68 264
noncomputable abbrev aaw:=jh "__init__" "NoDeed.__init__" 4 0 "framerooms.errors" 194 73
noncomputable abbrev aax:=vF P 254 14 74
noncomputable abbrev abf:=uX "NoDeed" 61 247
noncomputable abbrev abq:=Fp "__init__" "TooDeep.__init__" 284 21 2 87 289
noncomputable abbrev aai:=jh "__init__" "TooDeep.__init__" 5 0 "framerooms.errors" 194 92
noncomputable abbrev Ze:=vF P 279 19 93
noncomputable abbrev abx:=uX "TooDeep" 80 272
noncomputable abbrev SW:=Fp "__init__" "TooWide.__init__" 309 26 2 106 314
noncomputable abbrev Ve:=jh "__init__" "TooWide.__init__" 6 0 "framerooms.errors" 194 111
noncomputable abbrev Ta:=vF P 304 24 112
noncomputable abbrev UI:=uX "TooWide" 99 297
noncomputable abbrev Dr:Obj:={cls:= .type "type",data:=Data.cls {name:=Str.ofString "RoomError",bases:=[.type "ValueError"],mro:=[.ref 38,.type "ValueError",.type "Exception",.type "BaseException",.type "object"],ns:=37,qualname:=Str.ofString "RoomError",subclasses:=[.ref 58,.ref 77,.ref 96,.ref 115,.ref 134,.ref 153,.ref 172,.ref 191,.ref 210]},slots:= #[some (.ref 22),none,some (bP "RoomError" 196),some (bP "RoomError" 204),some (.builtin "ValueError.__new__"),some (.bool true)]}
noncomputable abbrev TH:=Fp "__init__" "TooLong.__init__" 334 31 2 125 339
noncomputable abbrev Sd:=jh "__init__" "TooLong.__init__" 7 0 "framerooms.errors" 194 130
noncomputable abbrev UL:=vF P 329 29 131
noncomputable abbrev Sg:=uX "TooLong" 118 322
noncomputable abbrev Tr:=Fp "__init__" "Twice.__init__" 359 36 2 144 364
noncomputable abbrev RG:=jh "__init__" "Twice.__init__" 8 0 "framerooms.errors" 194 149
noncomputable abbrev Vi:=vF P 354 34 150
noncomputable abbrev UB:=uX "Twice" 137 347
noncomputable abbrev RB:=Fp "__init__" "NoLabel.__init__" 384 41 2 163 389
noncomputable abbrev UD:=jh "__init__" "NoLabel.__init__" 9 0 "framerooms.errors" 194 168
noncomputable abbrev RT:=vF P 379 39 169
noncomputable abbrev UJ:=uX "NoLabel" 156 372
noncomputable abbrev U8:=Fp "__init__" "NoText.__init__" 434 51 2 201 439
noncomputable abbrev Tf:=jh "__init__" "NoText.__init__" 11 0 "framerooms.errors" 194 206
noncomputable abbrev T_:=vF P 429 49 207
noncomputable abbrev Td:=uX "NoText" 194 422
noncomputable abbrev Ks:=SU ⟨Xy 0 GY⟩
noncomputable abbrev SA:=gQ "is_number" 453 57 1 213 457
noncomputable abbrev Sv:=dS "is_number" 15 "framerooms.words" 447 218
noncomputable abbrev Ut:=gQ "is_whole" 460 59 3 220 466
noncomputable abbrev T3:=dS "is_whole" 16 "framerooms.words" 447 225
noncomputable abbrev Te:=kz "is_name" 469 61 1 227
noncomputable abbrev R4:=dS "is_name" 17 "framerooms.words" 447 230
noncomputable abbrev Vh:=HZ [dJ P "make" 479 233,dJ P "put" 483 234,dJ P "get" 487 235,dJ P "set" 491 236,dJ P "copy" 494 237,dJ P "more" 497 238,dJ P "tell" 501 239,dJ P "same" 503 240,dJ P "frame" 506 241,dJ P "turns" 509 242,dJ P "either" 514 243] 11
noncomputable abbrev U7:=vj "name" 480 "size" "mark"
noncomputable abbrev TY:=mH #[bP "name" 484,bP "cell" 485,bP "name" 486]
noncomputable abbrev Ud:=mH #[bP "name" 488,bP "name" 489,bP "cell" 490]
noncomputable abbrev U9:=pE "name" 492 "value"
noncomputable abbrev TR:=mH #[bP "name" 495,bP "name" 496]
noncomputable abbrev UZ:=mH #[bP "name" 498,bP "name" 499,bP "number" 500]
noncomputable abbrev SQ:=kf "name" 502
noncomputable abbrev Vj:=mH #[bP "name" 504,bP "name" 505]
noncomputable abbrev RI:=pE "label" 507 "body"
noncomputable abbrev U4:=mH #[bP "label" 510,bP "many" 511,bP "times" 512,bP "body" 513]
noncomputable abbrev SM:=mH #[bP "body" 515,bP "body" 516]
noncomputable abbrev Sj:Obj:={cls:= .type "dict",data:=Data.dict #[mE P "size" 529 (.ref 245),mE P "cell" 532 (.ref 246),mE P "many" 535 (.ref 247),mE P "times" 538 (.ref 248)] 4}
noncomputable abbrev Vb:=mH #[.int 1 530,.int 6 531]
noncomputable abbrev UP:=mH #[.int 0 533,.int 5 534]
noncomputable abbrev R0:=mH #[.int 1 536,.int 3 537]
noncomputable abbrev R3:=mH #[.int 0 539,.int 4 540]
noncomputable abbrev Rw:=kz "is_deed" 546 69 1 249
noncomputable abbrev Ur:=dS "is_deed" 22 "framerooms.deeds" 475 252
noncomputable abbrev Tt:=gQ "fits" 552 75 2 254 557
noncomputable abbrev Tn:=dS "fits" 23 "framerooms.deeds" 475 259
noncomputable abbrev R7:=gQ "parts_of" 560 89 1 261 564
noncomputable abbrev T7:=dS "parts_of" 24 "framerooms.deeds" 475 266
noncomputable abbrev Si:=kz "bodies_of" 567 91 1 268
noncomputable abbrev SR:=dS "bodies_of" 25 "framerooms.deeds" 475 271
noncomputable abbrev T8:=gQ "is_block" 573 93 1 273 577
noncomputable abbrev TV:=dS "is_block" 26 "framerooms.deeds" 475 278
noncomputable abbrev Um:=gQ "want_body" 580 95 1 280 586
noncomputable abbrev T6:=dS "want_body" 27 "framerooms.deeds" 475 285
noncomputable abbrev Ux:=gQ "many_in" 589 103 1 287 596
noncomputable abbrev Uv:=dS "many_in" 28 "framerooms.deeds" 475 292
noncomputable abbrev U1:=gQ "depth_of" 599 109 1 294 606
noncomputable abbrev SS:=dS "depth_of" 29 "framerooms.deeds" 475 299
noncomputable abbrev Ng:=mH #[.int 0 609]
noncomputable abbrev Su:=gQ "rewritten" 610 115 3 302 619
noncomputable abbrev FQ:Obj:={cls:= .type "function",data:=Data.func {name:=Str.ofString "rewritten",qualname:=Str.ofString "rewritten",params:=L2.hX (jp 30),body:= .stmts (L2.dN (jp 30)),scope:=L2.av (jp 30),globals:=3,closure:=[],defaults:= .ref 301,kwdefaults:= .none,pyModule:=bP "framerooms.deeds" 475,code:= .ref 307}}
noncomputable abbrev Uy:=gQ "with_bodies" 622 122 3 309 632
noncomputable abbrev RU:=dS "with_bodies" 31 "framerooms.deeds" 475 314
noncomputable abbrev RV:=gQ "listing" 635 132 2 316 644
noncomputable abbrev Sn:=dS "listing" 32 "framerooms.deeds" 475 321
noncomputable abbrev SV:=kz "widest_of" 647 140 1 323
noncomputable abbrev Va:=dS "widest_of" 33 "framerooms.deeds" 475 326
noncomputable abbrev Tj:=kz "choices_of" 653 142 1 328
noncomputable abbrev TC:=dS "choices_of" 34 "framerooms.deeds" 475 331
noncomputable abbrev UA:=kz "longest_of" 659 149 1 333
noncomputable abbrev UN:=dS "longest_of" 35 "framerooms.deeds" 475 336
noncomputable abbrev S_:=kz "length_of" 665 151 1 338
noncomputable abbrev Ue:=dS "length_of" 36 "framerooms.deeds" 475 341
noncomputable abbrev Gs:=HZ (mE P "__name__" 165 (bP "law_framerooms_k37_programs_refused" 787)::Lc P (FP P (Kr P (dJ P "FORMS" 528 232::dJ P "BOUNDS" 545 244::RL P (dJ P "Program" 759 406::dJ P "want_size" 768 417::dJ P "want_labels" 777 424::dJ P "want_runs" 786 431::dJ P "_law_cell" 796 438::dJ P "_law_box" 803 445::dJ P "_law_take" 813 452::dJ P "_law_names" 819 457::dJ P "_law_simple" 835 464::dJ P "_law_body" 841 469::dJ P "_law_deeds" 847 474::dJ P "_law_bodies" 854 481::dJ P "_law_plain" 860 486::dJ P "_law_listed" 873 493::dJ P "_law_cost" 879 498::dJ P "_law_refusal" 893 505::dJ P "_law_whole" 902 512::dJ P "_law_name" 908 517::dJ P "_law_number" 915 524::dJ P "_law_is_body" 922 531::dJ P "_law_is_block" 929 538::dJ P "_law_is_deed" 939 545::dJ P "_law_made" 948 552::dJ P "_law_first_bad" 958 559::dJ P "_law_put_at" 964 564::dJ P "_law_bent" 980 571::dJ P "_law_due" 988 578::dJ P "_law_right" 1000 585::dJ P "_law_within" 1009 592::dJ P "_law_bounds_right" 1015 597::dJ P "law" 1021 602::[]))))) 78
noncomputable abbrev Mn:=Fp "__init__" "Program.__init__" 693 167 2 350 698
noncomputable abbrev Uu:=jh "__init__" "Program.__init__" 42 0 "framerooms.programs" 671 355
noncomputable abbrev RQ:=Fp "told" "Program.told" 701 175 1 357 705
noncomputable abbrev Ts:=jh "told" "Program.told" 42 1 "framerooms.programs" 671 362
noncomputable abbrev SX:=HZ [mE P "__module__" 688 (bP "framerooms.programs" 671),mE P "__firstlineno__" 692 (.int 165 691),dJ P "__init__" 700 356,dJ P "told" 707 363,dJ P "deeds" 714 370,dJ P "names" 721 377,dJ P "makings" 727 382,dJ P "around" 735 389,dJ P "widest" 742 396,dJ P "longest" 749 403,dJ P "__static_attributes__" 752 404,dJ P "__dict__" 754 407,dJ P "__weakref__" 756 408,mE P "__doc__" 757 (.none)] 4
noncomputable abbrev RO:Obj:={cls:= .type "type",data:=Data.cls {name:=Str.ofString "Program",bases:=[.type "object"],mro:=[.ref 406,.type "object"],ns:=405,qualname:=Str.ofString "Program"},slots:= #[none,none,some (bP "Program" 681),some (bP "Program" 689),some (.builtin "object.__new__"),some (.bool true)]}
noncomputable abbrev Ti:=gQ "want_size" 760 197 1 411 766
noncomputable abbrev Uc:=dS "want_size" 43 "framerooms.programs" 671 416
noncomputable abbrev UE:=gQ "want_labels" 769 204 1 418 775
noncomputable abbrev TU:=dS "want_labels" 44 "framerooms.programs" 671 423
noncomputable abbrev Vf:=gQ "want_runs" 778 210 1 425 784
noncomputable abbrev TQ:=dS "want_runs" 45 "framerooms.programs" 671 430
noncomputable abbrev T9:=gQ "_law_cell" 789 218 2 432 794
noncomputable abbrev UM:=dS "_law_cell" 47 "law_framerooms_k37_programs_refused" 787 437
noncomputable abbrev Sq:=gQ "_law_box" 797 222 1 439 801
noncomputable abbrev TJ:=dS "_law_box" 48 "law_framerooms_k37_programs_refused" 787 444
noncomputable abbrev R_:=gQ "_law_take" 804 224 2 446 811
noncomputable abbrev RP:=dS "_law_take" 49 "law_framerooms_k37_programs_refused" 787 451
noncomputable abbrev RX:=kz "_law_names" 814 233 2 453
noncomputable abbrev Tz:=dS "_law_names" 50 "law_framerooms_k37_programs_refused" 787 456
noncomputable abbrev UT:=gQ "_law_simple" 820 247 3 458 833
noncomputable abbrev Uk:=dS "_law_simple" 51 "law_framerooms_k37_programs_refused" 787 463
noncomputable abbrev T1:=kz "_law_body" 836 258 6 465
noncomputable abbrev Tw:=dS "_law_body" 52 "law_framerooms_k37_programs_refused" 787 468
noncomputable abbrev Rz:=kz "_law_deeds" 842 277 1 470
noncomputable abbrev Uh:=dS "_law_deeds" 53 "law_framerooms_k37_programs_refused" 787 473
noncomputable abbrev TM:=gQ "_law_bodies" 848 284 1 475 852
noncomputable abbrev U5:=dS "_law_bodies" 54 "law_framerooms_k37_programs_refused" 787 480
noncomputable abbrev Sl:=kz "_law_plain" 855 286 1 482
noncomputable abbrev SD:=dS "_law_plain" 55 "law_framerooms_k37_programs_refused" 787 485
noncomputable abbrev SO:=gQ "_law_listed" 861 292 3 487 871
noncomputable abbrev So:=dS "_law_listed" 56 "law_framerooms_k37_programs_refused" 787 492
noncomputable abbrev Us:=kz "_law_cost" 874 300 1 494
noncomputable abbrev Sa:=dS "_law_cost" 57 "law_framerooms_k37_programs_refused" 787 497
noncomputable abbrev R9:=gQ "_law_refusal" 880 316 1 499 891
noncomputable abbrev Uq:=dS "_law_refusal" 58 "law_framerooms_k37_programs_refused" 787 504
noncomputable abbrev U2:=gQ "_law_whole" 894 335 3 506 900
noncomputable abbrev Rv:=dS "_law_whole" 59 "law_framerooms_k37_programs_refused" 787 511
noncomputable abbrev UY:=kz "_law_name" 903 337 1 513
noncomputable abbrev Tu:=dS "_law_name" 60 "law_framerooms_k37_programs_refused" 787 516
noncomputable abbrev UW:=gQ "_law_number" 909 341 1 518 913
noncomputable abbrev Rt:=dS "_law_number" 61 "law_framerooms_k37_programs_refused" 787 523
noncomputable abbrev SI:=gQ "_law_is_body" 916 343 1 525 920
noncomputable abbrev RM:=dS "_law_is_body" 62 "law_framerooms_k37_programs_refused" 787 530
noncomputable abbrev Ry:=gQ "_law_is_block" 923 345 1 532 927
noncomputable abbrev TB:=dS "_law_is_block" 63 "law_framerooms_k37_programs_refused" 787 537
noncomputable abbrev Ul:=gQ "_law_is_deed" 930 347 1 539 937
noncomputable abbrev Vd:=dS "_law_is_deed" 64 "law_framerooms_k37_programs_refused" 787 544
noncomputable abbrev Sk:=gQ "_law_made" 940 373 1 546 946
noncomputable abbrev Rr:=dS "_law_made" 65 "law_framerooms_k37_programs_refused" 787 551
noncomputable abbrev UH:=gQ "_law_first_bad" 949 396 1 553 956
noncomputable abbrev Sr:=dS "_law_first_bad" 66 "law_framerooms_k37_programs_refused" 787 558
noncomputable abbrev RN:=kz "_law_put_at" 959 405 4 560
noncomputable abbrev Rx:=dS "_law_put_at" 67 "law_framerooms_k37_programs_refused" 787 563
noncomputable abbrev TX:=gQ "_law_bent" 965 414 2 565 978
noncomputable abbrev RC:=dS "_law_bent" 68 "law_framerooms_k37_programs_refused" 787 570
noncomputable abbrev SE:=gQ "_law_due" 981 436 1 572 986
noncomputable abbrev Uj:=dS "_law_due" 69 "law_framerooms_k37_programs_refused" 787 577
noncomputable abbrev Mf:=gQ "_law_right" 989 441 1 579 998
noncomputable abbrev Tv:=dS "_law_right" 70 "law_framerooms_k37_programs_refused" 787 584
noncomputable abbrev R1:=gQ "_law_within" 1001 455 2 586 1007
noncomputable abbrev Sz:=dS "_law_within" 71 "law_framerooms_k37_programs_refused" 787 591
noncomputable abbrev Vg:=kz "_law_bounds_right" 1010 459 0 593
noncomputable abbrev Ug:=dS "_law_bounds_right" 72 "law_framerooms_k37_programs_refused" 787 596
noncomputable abbrev Tp:=kz "law" 1016 476 1 598
noncomputable abbrev SY:=dS "law" 73 "law_framerooms_k37_programs_refused" 787 601
noncomputable def IA(t:List Obj):List Obj:=boot_o_4 P::boot_o_5 P::boot_o_6 P::boot_o_7 P::boot_o_8 P::boot_o_9 P::boot_o_10 P::aV::t
noncomputable def Dq(t:List Obj):List Obj:=aV::bV::(kf "k" 190)::aV::(dI "_wall" 0)::(gQ "_wall" 187 1 1 15 191)::(dS "_wall" 0 "__main__" 164 20)::(mH #[.type "ValueError"])::Br::(BR P 203 "RoomError" 5 35 216)::aV::(Cp 7 34)::(yX "RoomError" 198 5 25)::(yU 27 24 "framerooms.errors" 194)::aV::bV::(pE "self" 211 "text")::aV::(pC "__init__" "RoomError.__init__" 2 0)::aa3::aaV::aV::aaY P::t
noncomputable def Dk(t:List Obj):List Obj:={cls:= .type "getset_descriptor",data:=Data.fields #[bP "__weakref__" 217,.ref 38,.builtin "ExceptionGroup.__weakref__",.none]}::(qK 38)::(qL 38)::EE::Br::(BR P 229 "TooMany" 9 55 243)::aV::(Cp 11 54)::(yX "TooMany" 224 9 45)::(yU 47 44 "framerooms.errors" 194)::aV::bV::(pE "self" 237 "many")::aV::(pC "__init__" "TooMany.__init__" 3 0)::aaI::YA::(kf "many" 242)::ZD P::ZW::(qK 58)::(qL 58)::EE::Br::(BR P 254 "NoDeed" 14 74 268)::aV::(Cp 16 73)::(yX "NoDeed" 249 14 64)::(yU 66 63 "framerooms.errors" 194)::aV::bV::(pE "self" 262 "found")::aV::(pC "__init__" "NoDeed.__init__" 4 0)::Zg::aaw::(kf "found" 267)::aax P::abf::(qK 77)::(qL 77)::EE::Br::(BR P 279 "TooDeep" 19 93 293)::aV::(Cp 21 92)::(yX "TooDeep" 274 19 83)::(yU 85 82 "framerooms.errors" 194)::aV::bV::(pE "self" 287 "depth")::aV::(pC "__init__" "TooDeep.__init__" 5 0)::abq::aai::(kf "depth" 292)::Ze P::abx::(qK 96)::(qL 96)::EE::Br::(BR P 304 "TooWide" 24 112 318)::aV::(Cp 26 111)::(yX "TooWide" 299 24 102)::(yU 104 101 "framerooms.errors" 194)::aV::bV::(pE "self" 312 "many")::aV::(pC "__init__" "TooWide.__init__" 6 0)::SW::Ve::(kf "many" 317)::Ta P::UI::(qK 115)::(qL 115)::t
noncomputable def Ab(t:List Obj):List Obj:=EE::Br::(BR P 329 "TooLong" 29 131 343)::aV::(Cp 31 130)::(yX "TooLong" 324 29 121)::(yU 123 120 "framerooms.errors" 194)::aV::bV::(pE "self" 337 "many")::aV::(pC "__init__" "TooLong.__init__" 7 0)::TH::Sd::(kf "many" 342)::UL P::Sg::(qK 134)::(qL 134)::EE::Br::(BR P 354 "Twice" 34 150 368)::aV::(Cp 36 149)::(yX "Twice" 349 34 140)::(yU 142 139 "framerooms.errors" 194)::aV::bV::(pE "self" 362 "label")::aV::(pC "__init__" "Twice.__init__" 8 0)::Tr::RG::(kf "label" 367)::Vi P::UB::(qK 153)::(qL 153)::EE::Br::(BR P 379 "NoLabel" 39 169 393)::aV::(Cp 41 168)::(yX "NoLabel" 374 39 159)::(yU 161 158 "framerooms.errors" 194)::aV::bV::(pE "self" 387 "label")::aV::(pC "__init__" "NoLabel.__init__" 9 0)::RB::UD::(kf "label" 392)::RT P::UJ::(qK 172)::(qL 172)::EE::Br::(BR P 404 "NoMaking" 44 188 418)::aV::(Cp 46 187)::(yX "NoMaking" 399 44 178)::(yU 180 177 "framerooms.errors" 194)::aV::bV::(pE "self" 412 "found")::aV::(pC "__init__" "NoMaking.__init__" 10 0)::(Fp "__init__" "NoMaking.__init__" 409 46 2 182 414)::(jh "__init__" "NoMaking.__init__" 10 0 "framerooms.errors" 194 187)::(kf "found" 417)::(vF P 404 44 188)::(uX "NoMaking" 175 397)::(qK 191)::(qL 191)::EE::Br::(BR P 429 "NoText" 49 207 443)::aV::(Cp 51 206)::(yX "NoText" 424 49 197)::(yU 199 196 "framerooms.errors" 194)::aV::bV::(pE "self" 437 "line")::aV::(pC "__init__" "NoText.__init__" 11 0)::U8::Tf::(kf "line" 442)::T_ P::Td::(qK 210)::(qL 210)::t
noncomputable def Fi(t:List Obj):List Obj:=aV::bV::(kf "thing" 456)::aV::(dI "is_number" 15)::SA::Sv::aV::bV::(vj "thing" 463 "low" "high")::aV::(dI "is_whole" 16)::Ut::T3::aV::bV::(dI "is_name" 17)::Te::R4::t
noncomputable def IF(t:List Obj):List Obj:=Vh P::U7::TY::Ud::U9::TR::UZ::SQ::Vj::RI::U4::SM::Sj P::Vb::UP::R0::R3::t
noncomputable def Mh(t:List Obj):List Obj:=aV::bV::(dI "is_deed" 22)::Rw::Ur::aV::bV::(pE "kind" 555 "thing")::aV::(dI "fits" 23)::Tt::Tn::aV::bV::(kf "deed" 563)::aV::(dI "parts_of" 24)::R7::T7::aV::bV::(dI "bodies_of" 25)::Si::SR::aV::bV::(kf "deed" 576)::aV::(dI "is_block" 26)::T8::TV::aV::bV::(vj "thing" 583 "deed" "body")::aV::(dI "want_body" 27)::Um::T6::aV::bV::(mH #[bP "body" 592,bP "many" 593,bP "deed" 594,bP "inner" 595])::aV::(dI "many_in" 28)::Ux::Uv::aV::bV::(mH #[bP "body" 602,bP "depth" 603,bP "deed" 604,bP "inner" 605])::aV::(dI "depth_of" 29)::U1::SS::Ng::aV::bV::(mH #[bP "body" 613,bP "change" 614,bP "first" 615,bP "told" 616,bP "number" 617,bP "deed" 618])::aV::(dI "rewritten" 30)::Su::FQ::aV::bV::(mH #[bP "deed" 625,bP "change" 626,bP "first" 627,bP "parts" 628,bP "number" 629,bP "kind" 630,bP "part" 631])::aV::(dI "with_bodies" 31)::Uy::RU::aV::bV::(mH #[bP "body" 638,bP "around" 639,bP "listed" 640,bP "deed" 641,bP "inner" 642,bP "within" 643])::aV::(dI "listing" 32)::RV::Sn::aV::bV::(dI "widest_of" 33)::SV::Va::aV::bV::(dI "choices_of" 34)::Tj::TC::aV::bV::(dI "longest_of" 35)::UA::UN::aV::bV::(dI "length_of" 36)::S_::Ue::t
noncomputable def rN:Y':=⟨⟨boot_o_0 P::boot_o_1 P::boot_o_2 P::boot_o_3 P::IA P (bV::HY::Jn::[])⟩,{}⟩
noncomputable def BD:Y':=⟨⟨boot_o_0 P::boot_o_1 P::boot_o_2 P::(HZ (mE P "__name__" 165 (bP "framerooms.errors" 194)::Lc P ([])) 15)::IA P ((SU ⟨Xy 0 NC⟩)::HY::Jn::Dq P ({cls:= .type "type",data:=Data.cls {name:=Str.ofString "RoomError",bases:=[.type "ValueError"],mro:=[.ref 38,.type "ValueError",.type "Exception",.type "BaseException",.type "object"],ns:=37,qualname:=Str.ofString "RoomError",subclasses:=[.ref 58,.ref 77,.ref 96,.ref 115]},slots:= #[some (.ref 22),none,some (bP "RoomError" 196),some (bP "RoomError" 204),some (.builtin "ValueError.__new__"),some (.bool true)]}::Dk P ([])))⟩,{}⟩
noncomputable def w_:Y':=⟨⟨boot_o_0 P::boot_o_1 P::boot_o_2 P::(HZ (mE P "__name__" 165 (bP "framerooms.errors" 194)::Lc P (FP P ([]))) 20)::IA P ((SU ⟨Xy 0 JG⟩)::HY::Jn::Dq P (Dr::Dk P (Ab P ([]))))⟩,{}⟩
noncomputable def rR:Y':=⟨⟨boot_o_0 P::boot_o_1 P::boot_o_2 P::(HZ (mE P "__name__" 165 (bP "framerooms.deeds" 475)::Lc P (FP P (Kr P ([])))) 26)::IA P (Ks::HY::Jn::Dq P (Dr::Dk P (Ab P (Fi ([])))))⟩,{}⟩
noncomputable def so:Y':=⟨⟨boot_o_0 P::boot_o_1 P::boot_o_2 P::(HZ (mE P "__name__" 165 (bP "framerooms.deeds" 475)::Lc P (FP P (Kr P (dJ P "FORMS" 528 232::dJ P "BOUNDS" 545 244::[])))) 28)::IA P (Ks::HY::Jn::Dq P (Dr::Dk P (Ab P (Fi (IF P ([]))))))⟩,{}⟩
noncomputable def xx:Y':=⟨⟨boot_o_0 P::boot_o_1 P::boot_o_2 P::(HZ (mE P "__name__" 165 (bP "framerooms.programs" 671)::Lc P (FP P (Kr P (dJ P "FORMS" 528 232::dJ P "BOUNDS" 545 244::RL P ([]))))) 47)::IA P ((SU ⟨Xy 0 DB⟩)::HY::Jn::Dq P (Dr::Dk P (Ab P (Fi (IF P (Mh ([])))))))⟩,{}⟩
noncomputable def cC:Y':=⟨⟨boot_o_0 P::boot_o_1 P::boot_o_2 P::Gs P::IA P ((SU ⟨Xy 0 HN⟩)::HY::Jn::Dq P (Dr::Dk P (Ab P (Fi (IF P (Mh (aV::Br::(HZ [mE P "__module__" 688 (bP "framerooms.programs" 671),mE P "__qualname__" 690 (bP "Program" 689),mE P "__firstlineno__" 692 (.int 165 691),dJ P "__init__" 700 356,dJ P "told" 707 363,dJ P "deeds" 714 370,dJ P "names" 721 377,dJ P "makings" 727 382,dJ P "around" 735 389,dJ P "widest" 742 396,dJ P "longest" 749 403,dJ P "__static_attributes__" 752 404] 12)::aV::(SU ⟨Xy 4 [(167,355),(175,362),(178,369),(181,376),(184,381),(187,388),(192,395),(195,402)]⟩)::(yX "Program" 683 165 346)::(yU 348 345 "framerooms.programs" 671)::aV::bV::(pE "self" 696 "deeds")::aV::(pC "__init__" "Program.__init__" 42 0)::Mn::Uu::aV::bV::(kf "self" 704)::aV::(pC "told" "Program.told" 42 1)::RQ::Ts::aV::bV::(kf "self" 711)::aV::(pC "deeds" "Program.deeds" 42 2)::(Fp "deeds" "Program.deeds" 708 178 1 364 712)::(jh "deeds" "Program.deeds" 42 2 "framerooms.programs" 671 369)::aV::bV::(kf "self" 718)::aV::(pC "names" "Program.names" 42 3)::(Fp "names" "Program.names" 715 181 1 371 719)::(jh "names" "Program.names" 42 3 "framerooms.programs" 671 376)::aV::bV::(pC "makings" "Program.makings" 42 4)::(hdO #[bP "makings" 722,bP "Program.makings" 723,bP "/claim/cut.py" 724,.int 184 0,.int 1 0,.int 0 0,.int 0 0,.int 3 0,.ref 378,.bool true,.int 181 0,.ref 379,.none,.none,.none,.ref 380,.int 725 0,.int 184 0,bP "/claim/cut.py" 726])::(jh "makings" "Program.makings" 42 4 "framerooms.programs" 671 381)::aV::bV::(pE "self" 731 "number")::aV::(pC "around" "Program.around" 42 5)::(Fp "around" "Program.around" 728 187 2 383 733)::(jh "around" "Program.around" 42 5 "framerooms.programs" 671 388)::aV::bV::(kf "self" 739)::aV::(pC "widest" "Program.widest" 42 6)::(Fp "widest" "Program.widest" 736 192 1 390 740)::(jh "widest" "Program.widest" 42 6 "framerooms.programs" 671 395)::aV::bV::(kf "self" 746)::aV::(pC "longest" "Program.longest" 42 7)::(Fp "longest" "Program.longest" 743 195 1 397 747)::(jh "longest" "Program.longest" 42 7 "framerooms.programs" 671 402)::(pE "body" 750 "listed")::SX P::RO::{cls:= .type "getset_descriptor",data:=Data.fields #[bP "__dict__" 753,.ref 406,.builtin "function.__dict__",.builtin "function.__dict__#set"]}::{cls:= .type "getset_descriptor",data:=Data.fields #[bP "__weakref__" 755,.ref 406,.builtin "ExceptionGroup.__weakref__",.none]}::(qK 406)::(qL 406)::aV::bV::(vj "body" 763 "many" "depth")::aV::(dI "want_size" 43)::Ti::Uc::aV::bV::(vj "listed" 772 "deed" "around")::aV::(dI "want_labels" 44)::UE::TU::aV::bV::(vj "body" 781 "many" "steps")::aV::(dI "want_runs" 45)::Vf::TQ::aV::bV::(pE "_law_script" 792 "_law_k")::aV::(dI "_law_cell" 47)::T9::UM::aV::bV::(kf "_law_cell_here" 800)::aV::(dI "_law_box" 48)::Sq::TJ::aV::bV::(mH #[bP "_law_box_here" 807,bP "_law_many" 808,bP "_law_digit" 809,bP "_law_number_here" 810])::aV::(dI "_law_take" 49)::R_::RP::aV::bV::(dI "_law_names" 50)::RX::Tz::aV::bV::(mH #[bP "_law_box_here" 823,bP "_law_names_here" 824,bP "_law_around" 825,bP "_law_kind" 826,bP "_law_x" 827,bP "_law_y" 828,bP "_law_k" 829,bP "_law_labels" 830,bP "_law_number_here" 831,bP "_law_some" 832])::aV::(dI "_law_simple" 51)::UT::Uk::aV::bV::(dI "_law_body" 52)::T1::Tw::aV::bV::(dI "_law_deeds" 53)::Rz::Uh::aV::bV::(kf "_law_deed" 851)::aV::(dI "_law_bodies" 54)::TM::U5::aV::bV::(dI "_law_plain" 55)::Sl::SD::aV::bV::(mH #[bP "_law_body_here" 864,bP "_law_around" 865,bP "_law_down" 866,bP "_law_found" 867,bP "_law_deed" 868,bP "_law_inside" 869,bP "_law_one" 870])::aV::(dI "_law_listed" 56)::SO::So::aV::bV::(dI "_law_cost" 57)::Us::Sa::aV::bV::(mH #[bP "_law_body_here" 883,bP "_law_rows" 884,bP "_law_down" 885,bP "_law_deed" 886,bP "_law_around" 887,bP "_law_one" 888,bP "_law_asked" 889,bP "_law_done" 890])::aV::(dI "_law_refusal" 58)::R9::Uq::aV::bV::(vj "_law_thing" 897 "_law_low" "_law_high")::aV::(dI "_law_whole" 59)::U2::Rv::aV::bV::(dI "_law_name" 60)::UY::Tu::aV::bV::(kf "_law_thing" 912)::aV::(dI "_law_number" 61)::UW::Rt::aV::bV::(kf "_law_thing" 919)::aV::(dI "_law_is_body" 62)::SI::RM::aV::bV::(kf "_law_parts" 926)::aV::(dI "_law_is_block" 63)::Ry::TB::aV::bV::(mH #[bP "_law_thing" 933,bP "_law_sizes" 934,bP "_law_word" 935,bP "_law_parts" 936])::aV::(dI "_law_is_deed" 64)::Ul::Vd::aV::bV::(vj "_law_call" 943 "_law_told" "e")::aV::(dI "_law_made" 65)::Sk::Rr::aV::bV::(mH #[bP "_law_body_here" 952,bP "_law_deed" 953,bP "_law_one" 954,bP "_law_found" 955])::aV::(dI "_law_first_bad" 66)::UH::Sr::aV::bV::(dI "_law_put_at" 67)::RN::Rx::aV::bV::(mH #[bP "_law_box_here" 968,bP "_law_deed" 969,bP "_law_mode" 970,bP "_law_place" 971,bP "_law_part" 972,bP "_law_near" 973,bP "_law_odd" 974,bP "_law_other" 975,bP "_law_word" 976,bP "_law_some" 977])::aV::(dI "_law_bent" 68)::TX::RC::aV::bV::(pE "_law_body_here" 984 "_law_bad")::aV::(dI "_law_due" 69)::SE::Uj::aV::bV::(mH #[bP "_law_body_here" 992,bP "_law_held" 993,bP "_law_due_here" 994,bP "_law_turn" 995,bP "_law_told" 996])::(kf "_law_body_here" 997)::(dI "_law_right" 70)::Mf::Tv::aV::bV::(vj "_law_many" 1004 "_law_body_here" "_law_k")::aV::(dI "_law_within" 71)::R1::Sz::aV::bV::(dI "_law_bounds_right" 72)::Vg::Ug::aV::bV::(dI "law" 73)::Tp::SY::[])))))))⟩,{}⟩
end
noncomputable abbrev jU:Z':=PySem.Challenge.rw_framerooms_k37_programs_refused.row.prog
noncomputable def ku:Env:={scope:=jU.main.scope,locals:=mainNs,globals:=mainNs,cells:=[],code:=Value.ref 13,frame:=some 14}
noncomputable def oi:List Stmt:=behindTheImports jU
noncomputable def wM:Code:=Code.body oi ku
noncomputable def iA:aO:=some (Value.ref 6)
noncomputable abbrev Fs:Pos:={line:=0,col:=0,endLine:=0,endCol:=0}
theorem OH(w:W')(os:OsState):topGo treeTable jU w 11 iA 12 ⟨boot_heap w.params,⟨[]⟩,boot_drawn,boot_toks,os⟩ (topStub jU)=some (⟨rN w.params,⟨[]⟩,{},187,os⟩,⟨denote treeTable wM,wM,{line:=0,col:=0,endLine:=0,endCol:=0},[topFrame Fs]⟩):=by kernel_rfl
theorem Io(w:W')(os:OsState):segRun treeTable jU w 11 iA 1 1 ⟨rN w.params,⟨[]⟩,{},187,os⟩ (blockOf oi ku wM {line:=0,col:=0,endLine:=0,endCol:=0} [topFrame Fs])=some (.next,⟨rN w.params,⟨[]⟩,{},187,os⟩,wM,{line:=0,col:=0,endLine:=0,endCol:=0}):=by kernel_rfl
theorem XS(w:W')(os:OsState):segRun treeTable jU w 11 iA 1 1236 ⟨rN w.params,⟨[]⟩,{},187,os⟩ (piecesOf ((oi.drop 0).take 7) ku wM {line:=0,col:=0,endLine:=0,endCol:=0} [topFrame Fs])=some (.next,⟨BD w.params,⟨[]⟩,{},322,os⟩,wM,{line:=24,col:=0,endLine:=28,endCol:=24}):=by kernel_rfl
theorem PJ(w:W')(os:OsState):segRun treeTable jU w 11 iA 1 1226 ⟨BD w.params,⟨[]⟩,{},322,os⟩ (piecesOf ((oi.drop 7).take 5) ku wM {line:=24,col:=0,endLine:=28,endCol:=24} [topFrame Fs])=some (.next,⟨w_ w.params,⟨[]⟩,{},447,os⟩,wM,{line:=49,col:=0,endLine:=53,endCol:=24}):=by kernel_rfl
theorem Rp(w:W')(os:OsState):segRun treeTable jU w 11 iA 1 132 ⟨w_ w.params,⟨[]⟩,{},447,os⟩ (piecesOf ((oi.drop 12).take 8) ku wM {line:=49,col:=0,endLine:=53,endCol:=24} [topFrame Fs])=some (.next,⟨rR w.params,⟨[]⟩,{},479,os⟩,wM,{line:=66,col:=0,endLine:=66,endCol:=9}):=by kernel_rfl
def BG(os:OsState)(w:W'):Prop:=segRun treeTable jU w 11 iA 1 296 ⟨rR w.params,⟨[]⟩,{},479,os⟩ (piecesOf ((oi.drop 20).take 2) ku wM {line:=66,col:=0,endLine:=66,endCol:=9} [topFrame Fs])=some (.next,⟨so w.params,⟨[]⟩,{},546,os⟩,wM,{line:=68,col:=0,endLine:=68,endCol:=6})
theorem Qa(w:W')(os:OsState):segRun treeTable jU w 11 iA 1 296 ⟨rR w.params,⟨[]⟩,{},479,os⟩ (piecesOf ((oi.drop 20).take 2) ku wM {line:=66,col:=0,endLine:=66,endCol:=9} [topFrame Fs])=some (.next,⟨so w.params,⟨[]⟩,{},546,os⟩,wM,{line:=68,col:=0,endLine:=68,endCol:=6}):=by have h:BG os (w.withFollow "special-get-raises" (w.params.followText "special-get-raises")):=(λ(b:Bool) (w:W')=>show BG os (w.withFollow "special-get-raises" b) by cases b<;>(unfold BG;kernel_rfl)) _ w;rw[World.withFollow_self] at h;exact h
theorem Rm(w:W')(os:OsState):segRun treeTable jU w 11 iA 1 490 ⟨so w.params,⟨[]⟩,{},546,os⟩ (piecesOf ((oi.drop 22).take 20) ku wM {line:=68,col:=0,endLine:=68,endCol:=6} [topFrame Fs])=some (.next,⟨xx w.params,⟨[]⟩,{},681,os⟩,wM,{line:=164,col:=0,endLine:=164,endCol:=10}):=by kernel_rfl
theorem QA(w:W')(os:OsState):segRun treeTable jU w 11 iA 1 1350 ⟨xx w.params,⟨[]⟩,{},681,os⟩ (piecesOf ((oi.drop 42).take 32) ku wM {line:=164,col:=0,endLine:=164,endCol:=10} [topFrame Fs])=some (.next,⟨cC w.params,⟨[]⟩,{},1022,os⟩,wM,{line:=476,col:=0,endLine:=489,endCol:=30}):=by kernel_rfl
theorem OV(w:W')(os:OsState):topRun treeTable jU w 11 iA 2 ⟨cC w.params,⟨[]⟩,{},1022,os⟩ ⟨doneF .next,wM,{line:=476,col:=0,endLine:=489,endCol:=30},[topFrame Fs]⟩=some ⟨cC w.params,⟨[]⟩,{},1022,os⟩:=by kernel_rfl
theorem abl(w:W')(os:OsState):topRun treeTable jU w 11 iA 2 ⟨cC w.params,⟨[]⟩,{},1022,os⟩ (restOf [] ku wM {line:=476,col:=0,endLine:=489,endCol:=30} [topFrame Fs])=some ⟨cC w.params,⟨[]⟩,{},1022,os⟩:=piece_nil (OV w os)
theorem aaC:oi.drop 74=[]:=by kernel_rfl
theorem KL:((oi.drop 42).take 32)++([])=oi.drop 42:=by rw[<-aaC];have:=jC 32 (oi.drop 42);rwa[rS] at this
theorem Oi(w:W')(os:OsState):topRun treeTable jU w 11 iA (1350+2) ⟨xx w.params,⟨[]⟩,{},681,os⟩ (restOf (oi.drop 42) ku wM {line:=164,col:=0,endLine:=164,endCol:=10} [topFrame Fs])=some ⟨cC w.params,⟨[]⟩,{},1022,os⟩:=by rw[<-KL];exact rE (QA w os) (abl w os)
theorem LK:((oi.drop 22).take 20)++(oi.drop 42)=oi.drop 22:=by have:=jC 20 (oi.drop 22);rwa[rS] at this
theorem M6(w:W')(os:OsState):topRun treeTable jU w 11 iA (490+(1350+2)) ⟨so w.params,⟨[]⟩,{},546,os⟩ (restOf (oi.drop 22) ku wM {line:=68,col:=0,endLine:=68,endCol:=6} [topFrame Fs])=some ⟨cC w.params,⟨[]⟩,{},1022,os⟩:=by rw[<-LK];exact rE (Rm w os) (Oi w os)
theorem KS:((oi.drop 20).take 2)++(oi.drop 22)=oi.drop 20:=by have:=jC 2 (oi.drop 20);rwa[rS] at this
theorem Oa(w:W')(os:OsState):topRun treeTable jU w 11 iA (296+(490+(1350+2))) ⟨rR w.params,⟨[]⟩,{},479,os⟩ (restOf (oi.drop 20) ku wM {line:=66,col:=0,endLine:=66,endCol:=9} [topFrame Fs])=some ⟨cC w.params,⟨[]⟩,{},1022,os⟩:=by rw[<-KS];exact rE (Qa w os) (M6 w os)
theorem KA:((oi.drop 12).take 8)++(oi.drop 20)=oi.drop 12:=by have:=jC 8 (oi.drop 12);rwa[rS] at this
theorem NQ(w:W')(os:OsState):topRun treeTable jU w 11 iA (132+(296+(490+(1350+2)))) ⟨w_ w.params,⟨[]⟩,{},447,os⟩ (restOf (oi.drop 12) ku wM {line:=49,col:=0,endLine:=53,endCol:=24} [topFrame Fs])=some ⟨cC w.params,⟨[]⟩,{},1022,os⟩:=by rw[<-KA];exact rE (Rp w os) (Oa w os)
theorem Lw:((oi.drop 7).take 5)++(oi.drop 12)=oi.drop 7:=by have:=jC 5 (oi.drop 7);rwa[rS] at this
theorem M0(w:W')(os:OsState):topRun treeTable jU w 11 iA (1226+(132+(296+(490+(1350+2))))) ⟨BD w.params,⟨[]⟩,{},322,os⟩ (restOf (oi.drop 7) ku wM {line:=24,col:=0,endLine:=28,endCol:=24} [topFrame Fs])=some ⟨cC w.params,⟨[]⟩,{},1022,os⟩:=by rw[<-Lw];exact rE (PJ w os) (NQ w os)
theorem N4:((oi.drop 0).take 7)++(oi.drop 7)=oi.drop 0:=by have:=jC 7 (oi.drop 0);rwa[rS] at this
theorem Qk(w:W')(os:OsState):topRun treeTable jU w 11 iA (1236+(1226+(132+(296+(490+(1350+2)))))) ⟨rN w.params,⟨[]⟩,{},187,os⟩ (restOf (oi.drop 0) ku wM {line:=0,col:=0,endLine:=0,endCol:=0} [topFrame Fs])=some ⟨cC w.params,⟨[]⟩,{},1022,os⟩:=by rw[<-N4];exact rE (XS w os) (M0 w os)
theorem WI(w:W')(os:OsState):topRun treeTable jU w 11 iA (1+(1236+(1226+(132+(296+(490+(1350+2))))))) ⟨rN w.params,⟨[]⟩,{},187,os⟩ ⟨denote treeTable wM,wM,{line:=0,col:=0,endLine:=0,endCol:=0},[topFrame Fs]⟩=some ⟨cC w.params,⟨[]⟩,{},1022,os⟩:=piece_block (Io w os) (Qk w os)
theorem YJ(w:W')(os:OsState):topRun treeTable jU w 11 iA (12+(1+(1236+(1226+(132+(296+(490+(1350+2)))))))) ⟨boot_heap w.params,⟨[]⟩,boot_drawn,boot_toks,os⟩ (topStub jU)=some ⟨cC w.params,⟨[]⟩,{},1022,os⟩:=go_top (OH w os) (WI w os)
theorem VR:PySem.Challenge.rw_framerooms_k37_programs_refused.wellSaid=true:=by decide+kernel
end hd
noncomputable def uC:PySem.Params->Frag:=λP=>(nat_lit 1,PySem.W.boot_o_1 P)::(nat_lit 2,PySem.W.boot_o_2 P)::(nat_lit 3,Gs P)::(nat_lit 4,PySem.W.boot_o_4 P)::(nat_lit 34,aa3)::(nat_lit 35,aaV)::(nat_lit 37,aaY P)::(nat_lit 38,Dr)::(nat_lit 54,aaI)::(nat_lit 55,YA)::(nat_lit 57,ZD P)::(nat_lit 58,ZW)::(nat_lit 73,Zg)::(nat_lit 74,aaw)::(nat_lit 76,aax P)::(nat_lit 77,abf)::(nat_lit 92,abq)::(nat_lit 93,aai)::(nat_lit 95,Ze P)::(nat_lit 96,abx)::(nat_lit 111,SW)::(nat_lit 112,Ve)::(nat_lit 114,Ta P)::(nat_lit 115,UI)::(nat_lit 130,TH)::(nat_lit 131,Sd)::(nat_lit 133,UL P)::(nat_lit 134,Sg)::(nat_lit 149,Tr)::(nat_lit 150,RG)::(nat_lit 152,Vi P)::(nat_lit 153,UB)::(nat_lit 168,RB)::(nat_lit 169,UD)::(nat_lit 171,RT P)::(nat_lit 172,UJ)::(nat_lit 206,U8)::(nat_lit 207,Tf)::(nat_lit 209,T_ P)::(nat_lit 210,Td)::(nat_lit 218,SA)::(nat_lit 219,Sv)::(nat_lit 225,Ut)::(nat_lit 226,T3)::(nat_lit 230,Te)::(nat_lit 231,R4)::(nat_lit 232,Vh P)::(nat_lit 233,U7)::(nat_lit 234,TY)::(nat_lit 235,Ud)::(nat_lit 236,U9)::(nat_lit 237,TR)::(nat_lit 238,UZ)::(nat_lit 239,SQ)::(nat_lit 240,Vj)::(nat_lit 241,RI)::(nat_lit 242,U4)::(nat_lit 243,SM)::(nat_lit 244,Sj P)::(nat_lit 245,Vb)::(nat_lit 246,UP)::(nat_lit 247,R0)::(nat_lit 248,R3)::(nat_lit 252,Rw)::(nat_lit 253,Ur)::(nat_lit 259,Tt)::(nat_lit 260,Tn)::(nat_lit 266,R7)::(nat_lit 267,T7)::(nat_lit 271,Si)::(nat_lit 272,SR)::(nat_lit 278,T8)::(nat_lit 279,TV)::(nat_lit 285,Um)::(nat_lit 286,T6)::(nat_lit 292,Ux)::(nat_lit 293,Uv)::(nat_lit 299,U1)::(nat_lit 300,SS)::(nat_lit 301,Ng)::(nat_lit 307,Su)::(nat_lit 308,FQ)::(nat_lit 314,Uy)::(nat_lit 315,RU)::(nat_lit 321,RV)::(nat_lit 322,Sn)::(nat_lit 326,SV)::(nat_lit 327,Va)::(nat_lit 331,Tj)::(nat_lit 332,TC)::(nat_lit 336,UA)::(nat_lit 337,UN)::(nat_lit 341,S_)::(nat_lit 342,Ue)::(nat_lit 355,Mn)::(nat_lit 356,Uu)::(nat_lit 362,RQ)::(nat_lit 363,Ts)::(nat_lit 405,SX P)::(nat_lit 406,RO)::(nat_lit 416,Ti)::(nat_lit 417,Uc)::(nat_lit 423,UE)::(nat_lit 424,TU)::(nat_lit 430,Vf)::(nat_lit 431,TQ)::(nat_lit 437,T9)::(nat_lit 438,UM)::(nat_lit 444,Sq)::(nat_lit 445,TJ)::(nat_lit 451,R_)::(nat_lit 452,RP)::(nat_lit 456,RX)::(nat_lit 457,Tz)::(nat_lit 463,UT)::(nat_lit 464,Uk)::(nat_lit 468,T1)::(nat_lit 469,Tw)::(nat_lit 473,Rz)::(nat_lit 474,Uh)::(nat_lit 480,TM)::(nat_lit 481,U5)::(nat_lit 485,Sl)::(nat_lit 486,SD)::(nat_lit 492,SO)::(nat_lit 493,So)::(nat_lit 497,Us)::(nat_lit 498,Sa)::(nat_lit 504,R9)::(nat_lit 505,Uq)::(nat_lit 511,U2)::(nat_lit 512,Rv)::(nat_lit 516,UY)::(nat_lit 517,Tu)::(nat_lit 523,UW)::(nat_lit 524,Rt)::(nat_lit 530,SI)::(nat_lit 531,RM)::(nat_lit 537,Ry)::(nat_lit 538,TB)::(nat_lit 544,Ul)::(nat_lit 545,Vd)::(nat_lit 551,Sk)::(nat_lit 552,Rr)::(nat_lit 558,UH)::(nat_lit 559,Sr)::(nat_lit 563,RN)::(nat_lit 564,Rx)::(nat_lit 570,TX)::(nat_lit 571,RC)::(nat_lit 577,SE)::(nat_lit 578,Uj)::(nat_lit 584,Mf)::(nat_lit 585,Tv)::(nat_lit 591,R1)::(nat_lit 592,Sz)::(nat_lit 596,Vg)::(nat_lit 597,Ug)::(nat_lit 601,Tp)::(nat_lit 602,SY)::[]
noncomputable def Eb:PySem.Params->Frag:=λP=>(nat_lit 351,bV)::(nat_lit 580,bV)::uC P
noncomputable def Wx:cc:=[351,580,1,2,3,4,34,35,37,38,54,55,57,58,73,74,76,77,92,93,95,96,111,112,114,115,130,131,133,134,149,150,152,153,168,169,171,172,206,207,209,210,218,219,225,226,230,231,232,233,234,235,236,237,238,239,240,241,242,243,244,245,246,247,248,252,253,259,260,266,267,271,272,278,279,285,286,292,293,299,300,301,307,308,314,315,321,322,326,327,331,332,336,337,341,342,355,356,362,363,405,406,416,417,423,424,430,431,437,438,444,445,451,452,456,457,463,464,468,469,473,474,480,481,485,486,492,493,497,498,504,505,511,512,516,517,523,524,530,531,537,538,544,545,551,552,558,559,563,564,570,571,577,578,584,585,591,592,596,597,601,602]
theorem Kp:∀P,Wx=(Eb P).map (·.1):=λ_=>by kernel_rfl
noncomputable def pJ:PySem.Program:={PySem.Challenge.pw_framerooms_k37_programs_refused with main:={PySem.Challenge.pw_framerooms_k37_programs_refused.main with body:=[jp 0,jp 2,jp 3,jp 4,jp 5,jp 6,jp 7,jp 8,jp 9,jp 10,jp 11,jp 13,jp 14,jp 15,jp 16,jp 17,jp 19,jp 20,jp 21,jp 22,jp 23,jp 24,jp 25,jp 26,jp 27,jp 28,jp 29,jp 31,jp 32,jp 33,jp 34,jp 35,jp 36,jp 38,jp 39,jp 40,jp 41,jp 42,jp 43,jp 44,jp 45,jp 47,jp 48,jp 49,jp 50,jp 51,jp 52,jp 53,jp 54,jp 55,jp 56,jp 57,jp 58,jp 59,jp 60,jp 61,jp 62,jp 63,jp 64,jp 65,jp 66,jp 67,jp 68,jp 69,jp 70,jp 71,jp 72,jp 73]}}
noncomputable abbrev zL:List PySem.Str:=["FORMS","BOUNDS","rewritten"]
noncomputable abbrev qX:PySem.W.Hook:=PySem.W.kHook Eb Wx Kp
theorem PV(w:PySem.World):(λos:PySem.OsState=>((PySem.W.staticsOk (importedModules jU.main.body) (PySem.W.boot_heap w.params) (cC w.params)&&PySem.W.namesBound jU (cC w.params)&&PySem.W.gensDone ⟨cC w.params,⟨[]⟩,{},1022,os⟩&&PySem.W.laidKept (PySem.W.boot_heap w.params) (cC w.params)),PySem.W.openSeen pJ zL (importedModules jU.main.body) (λs=>PySem.W.xlAt pJ [] s&&PySem.W.recOk (PySem.W.RowW.records PySem.Challenge.rw_framerooms_k37_programs_refused.row.toRowW) s) true ⟨cC w.params,⟨[]⟩,{},1022,os⟩,qX.obs ⟨cC w.params,⟨[]⟩,{},1022,os⟩))=λ_=>(true,PySem.W.openGood pJ zL,qX.val w):=by kernel_rfl
theorem VP:PySem.W.LeftO PySem.Challenge.rw_framerooms_k37_programs_refused.row.prog pJ zL (λs=>PySem.W.xlAt pJ [] s&&PySem.W.recOk (PySem.W.RowW.records PySem.Challenge.rw_framerooms_k37_programs_refused.row.toRowW) s) qX.obs qX.val 9574:=PySem.W.LeftO.of_pieces (H₀:=PySem.W.boot_heap) (H₁:=cC) (gs₁:=⟨[]⟩) (d₁:={}) (k₁:=1022) (m₀:=11) (ann:=iA) (PySem.W.boot_open Z (by decide) (λ_=>rfl)) (λ_=>by kernel_rfl) YJ (by decide) PV
end My
namespace L2
open PySem PySem.Spec PyProof.Rows
abbrev wS:=Sum Int Str
noncomputable def yD:wS->M'->Bool
 | .inl k,v=>Value.isInt k v
 | .inr x,v=>Value.isStrOf x v
noncomputable def ad2(w:W'):wS->Int
 | .inl k=>hashInt k
 | .inr x=>hashStr w x
theorem dQ:∀{k:wS} {v:M'},yD k v=true->(∃i t,k=Sum.inl i/\v=Value.int i t)\/(∃x t,k=Sum.inr x/\v=Value.str x t)
 | .inl i,v,h=>by
  obtain⟨t,e⟩:=Value.isInt_shape (k:=i) (v:=v) h;exact .inl ⟨i,t,Z,e⟩
 | .inr x,v,h=>by
  obtain⟨t,e⟩:=Value.isStrOf_shape (x:=x) (v:=v) h;exact .inr ⟨x,t,Z,e⟩
theorem LU(i:Int)(t:Tok):yD (.inl i) (.int i t)=true:=by simp[yD,Value.isInt]
theorem KQ(x:Str)(t:Tok):yD (.inr x) (.str x t)=true:=by simp[yD,Value.isStrOf]
theorem XC(a b:Int):decide ((Sum.inl a:wS)=Sum.inl b)=(a==b):=by
 by_cases e:a=b
 .subst e;simp
 .have h:¬(Sum.inl a:wS)=Sum.inl b:=λq=>e (Sum.inl.inj q);rw[ba h];exact(rY.mpr e).symm
theorem Vl(a b:Str):decide ((Sum.inr a:wS)=Sum.inr b)=decide (a=b):=by
 by_cases e:a=b
 .subst e;simp
 .have h:¬(Sum.inr a:wS)=Sum.inr b:=λq=>e (uV q);rw[ba h,ba e]
theorem Xx(a:Int)(b:Str):decide ((Sum.inl a:wS)=Sum.inr b)=false:=ba (λq=>nomatch q)
theorem WA(a:Str)(b:Int):decide ((Sum.inr a:wS)=Sum.inl b)=false:=ba (λq=>nomatch q)
noncomputable def cW(prog:Z')(w:W'):PySem.KeyKind prog w wS where
 is:=yD
 hash:=ad2 w
 inj:=λv a b ha hb=>by
  rcases dQ ha with⟨i,t,rfl,rfl⟩|⟨x,t,rfl,rfl⟩
  .rcases dQ hb with⟨j,u,rfl,e⟩|⟨y,u,rfl,e⟩
   .injection e with e1 _;rw[e1]
   .exact nomatch e
  .rcases dQ hb with⟨j,u,rfl,e⟩|⟨y,u,rfl,e⟩
   .exact nomatch e
   .injection e with e1 _;rw[e1]
 byValue:=λk v h=>by
  rcases dQ h with⟨i,t,rfl,rfl⟩|⟨x,t,rfl,rfl⟩<;>rfl
 pyHash:=λhv h=>by
  rcases dQ hv with⟨i,t,rfl,rfl⟩|⟨x,t,rfl,rfl⟩
  .exact wpAny_pyHash_int h
  .exact wpAny_pyHash_str h
 eqBool:=λhu hv h=>by
  rcases dQ hu with⟨i,t,rfl,rfl⟩|⟨x,t,rfl,rfl⟩
  .rcases dQ hv with⟨j,u,rfl,rfl⟩|⟨y,u,rfl,rfl⟩
   .rw[XC] at h;exact wpAny_eqBool_int h
   .rw[Xx] at h;exact SeqAt.EqAt.int_str i t y u _ _ _ _ h
  .rcases dQ hv with⟨j,u,rfl,rfl⟩|⟨y,u,rfl,rfl⟩
   .rw[WA] at h;exact SeqAt.EqAt.str_int x t j u _ _ _ _ h
   .rw[Vl] at h;exact wpAny_eqBool_str h
 «strs» :=λk x t v h=>by
  rcases dQ h with⟨i,u,rfl,e⟩|⟨y,u,rfl,e⟩
  .exact nomatch e
  .injection e with e1 _;subst e1;cases v<;>rfl
theorem GK(prog:Z')(w:W')(i:Int)(t:Tok):(cW prog w).is (.inl i) (.int i t)=true:=LU i t
theorem Gn(prog:Z')(w:W')(x:Str)(t:Tok):(cW prog w).is (.inr x) (.str x t)=true:=KQ x t
inductive V where
 |bp|bl (b:Bool)|int (i:Int)|str (x:Str)|J7 (b:Array UInt8)|WY (b:UInt64)|ref (a:S')|ty (n:String)
 deriving DecidableEq
noncomputable abbrev eI:=List (wS×V)
noncomputable abbrev ak:=List V
noncomputable abbrev ji:=List (Str×V)
def RelV:V->M'->Prop
 | .bp,u=>u=Value.none
 | .bl b,u=>u=Value.bool b
 | .int i,u=>∃t,u=Value.int i t
 | .str x,u=>∃t,u=Value.str x t
 | .J7 b,u=>∃t,u=Value.bytes b t
 | .WY b,u=>∃t,u=Value.float b t
 | .ref a,u=>u=Value.ref a
 | .ty n,u=>u=Value.type n
abbrev Vals:ak->aG->Prop:=Paired RelV
theorem Vals.length{xs:ak}{us:aG}(r:Vals xs us):xs.length=us.length:=Paired.length r
theorem Vals.get:∀{xs:ak} {us:aG} {i:Nat} {x:V},Vals xs us->xs[i]? =some x->∃u,us[i]? =some u/\RelV x u
 |_,_,_,_,.nil,e=>by simp at e
 |_,_,0,_,.cons r _,e=>by simp at e;subst e;exact⟨_,Z,r⟩
 |_,_,i+1,x,.cons _ t,e=>by
  obtain⟨u,h1,h2⟩:=Vals.get (i:=i) (x:=x) t (by simpa using e);exact⟨u,by simpa using h1,h2⟩
theorem Vals.set{x:V}{u:M'}(r:RelV x u):∀{xs:ak} {us:aG} (i:Nat),Vals xs us->Vals (xs.set i x) (us.set i u)
 |_,_,_,.nil=> .nil
 |_,_,0,.cons _ t=> .cons r t
 |_,_,i+1,.cons q t=> .cons q (Vals.set r i t)
theorem Vals.append:∀{xs ys:ak} {us ws:aG},Vals xs us->Vals ys ws->Vals (xs++ys) (us++ws)
 |_,_,_,_,.nil,s=>s
 |_,_,_,_,.cons r t,s=> .cons r (Vals.append t s)
theorem Vals.take:∀{xs:ak} {us:aG} (n:Nat),Vals xs us->Vals (xs.take n) (us.take n)
 |_,_,0,_=> .nil
 |_,_,_+1,.nil=> .nil
 |_,_,n+1,.cons r t=> .cons r (Vals.take n t)
theorem Vals.drop:∀{xs:ak} {us:aG} (n:Nat),Vals xs us->Vals (xs.drop n) (us.drop n)
 |_,_,0,r=>r
 |_,_,_+1,.nil=> .nil
 |_,_,n+1,.cons _ t=>Vals.drop n t
def m4:Option V->aO->Prop
 |some v,some u=>RelV v u
 |none,none=>True
 |_,_=>False
def KV{κ:Type}:List (κ×V)->List (κ×M')->Prop:=Paired λ(p:κ×V) (q:κ×M')=>p.1=q.1/\RelV p.2 q.2
noncomputable def kV:wS->V
 | .inl i=> .int i
 | .inr x=> .str x
inductive HO where
 |lst (xs:ak)
 |tup (xs:ak)
 |dK (kvs:eI)|dT (kvs:List (List wS×V))
 |set (S:Int->Bool) (n:Nat)
 |ins (C dx:S') (fs:ji)
 |own (x:S')
 |xd (fs:ji)
 |met (f x:S')
 |rng (lo hi:Int)
 |Fu (o:Obj) (u:HO)
 |vB (ps:Array M')
 |ext (φ:Y'->Prop)
abbrev Hp:=S'->Option HO
noncomputable def upd(H:Hp)(a:S')(o:HO):Hp:=λb=>if b=a then some o else H b
theorem af{H:Hp}{a:S'}{o:HO}:upd H a o a=some o:=by unfold upd;rw[aB Z]
theorem az{H:Hp}{a b:S'}{o:HO}(h:b≠a):upd H a o b=H b:=by unfold upd;rw[ax h]
theorem QR{H:Hp}{a:S'}{o u:HO}:upd (upd H a o) a u=upd H a u:=by
 funext b;unfold upd;split<;>rfl
theorem dB{H:Hp}{a b:S'}{o u:HO}(h:H a=some o)(h' :H b=some u)(d:o≠u):a≠b:=by
 intro e;subst e;rw[h] at h';exact d (fW h')
theorem aA{H:Hp}{a b:S'}{o:HO}(h:H a=some o)(h' :H b=none):a≠b:=by
 intro e;subst e;rw[h] at h';cases h'
section
variable(P:Z')(w:W')
def cu(H:Hp)(h:Y')(a:S'):HO->Prop
 | .lst xs=>xs.length<=sizeLine/\∃(its:aG) (n:Nat),Vals xs its/\h.get? a=some {cls:= .type "list",data:= .seq its.toArray n}
 | .tup xs=>xs.length<=sizeLine/\∃its:aG,Vals xs its/\IsTup h a its.toArray
 | .dK kvs=>kvs.length<=sizeLine/\(a==sysModules)=false/\∃vs,KV kvs vs/\h.DictOf (cW P w) a vs
 | .dT kvs=>kvs.length<=sizeLine/\(a==sysModules)=false/\∃xs:List (List wS×S'×M'),
  Paired (λ(p:List wS×V) (q:List wS×S'×M')=>p.1=q.1/\H q.2.1=some (.tup (p.1.map kV))/\RelV p.2 q.2.2) kvs xs/\
  ∃o es ep,h.get? a=some o/\o.ExactDict/\o.data= .dict es ep/\es.toList=xs.map (entryOfKey (tupleKind (cW P w)))/\(xs.map (·.1)).Nodup
 | .set S n=>h.SetOf (intKind P w) a S n
 | .ins C dx fs=>H dx=some (.own a)/\fs.length<=1000/\dx≠a/\h.get? a=some (instObj C dx)/\
  ∃mA,h.Ns1 dx mA/\(∀f,m4 (fs.lookup f) (mA f))/\PySem.Within mA (fs.map (·.1))
 | .own _=>∃o,h.get? a=some o
 | .xd fs=>∃mA,h.Ns1 a mA/\∀f,m4 (fs.lookup f) (mA f)
 | .rng lo hi=>∃t u v,h.get? a=some {cls:= .type "range",data:= .fields #[.int lo t,.int hi u,.int 1 v]}
 | .Fu o u=>h.get? a=some o/\cu H h a u
 | .vB ps=>h.get? a=some {cls:= .none,data:= .fields ps}
 | .met f x=>h.get? a=some (methodObj (.ref f) (.ref x))
 | .ext φ=>φ h/\(∃o,h.get? a=some o)/\∀h1 h2:Y',φ h1->(∀o,h1.get? a=some o->h2.get? a=some o)->φ h2
def pD(H:Hp)(h:Y'):Prop:=∀a o,H a=some o->cu P w H h a o
end
section
variable{P:Z'}{w:W'}{H H' :Hp}{h h' :Y'}{a:S'}{o:HO}
theorem cu.lt(x:cu P w H h a o):a<h.objs.size:=by
 cases o with
 |lst xs=>obtain⟨_,_,_,_,e⟩:=x;exact a_ e
 |tup xs=>obtain⟨_,_,_,p⟩:=x;exact p.lt
 |dK kvs=>obtain⟨_,_,_,_,o,_,_,e,_⟩:=x;exact a_ e
 |dT kvs=>obtain⟨_,_,_,_,o,_,_,e,_⟩:=x;exact a_ e
 |set S n=>obtain⟨o,_,_,_,e,_⟩:=x;exact a_ e
 |ins C dx fs=>obtain⟨_,_,_,e,_⟩:=x;exact a_ e
 |own y=>obtain⟨_,e⟩:=x;exact a_ e
 |xd fs=>obtain⟨_,⟨_,_,_,e,_⟩,_⟩:=x;exact a_ e
 |rng lo hi=>obtain⟨_,_,_,e⟩:=x;exact a_ e
 |Fu ob u=>obtain⟨e,_⟩:=x;exact a_ e
 |vB ps=>exact a_ (show h.get? a=some _ from x)
 |met f y=>exact a_ (show h.get? a=some _ from x)
 |ext φ=>obtain⟨_,⟨_,e⟩,_⟩:=x;exact a_ e
theorem Paired.aab{α β:Type}{F G:α->β->Prop}:∀{aaJ:List α} {aaO:List β},Paired F aaJ aaO->(∀a b,F a b->G a b)->Paired G aaJ aaO
 |_,_,.nil,_=> .nil
 |_,_,.cons r t,f=> .cons (f _ _ r) (Paired.aab t f)
theorem cu.Ae(x:cu P w H h a o)(k:∀b u,(b=a\/H b=some (.own a))->h.get? b=some u->h'.get? b=some u)
 (ho:∀b,H b=some (.own a)->H' b=some (.own a)) (ht:∀b xs,H b=some (.tup xs)->H' b=some (.tup xs)):cu P w H' h' a o:=by
 induction o with
 |lst xs=>obtain⟨z,its,n,r,e⟩:=x;exact⟨z,its,n,r,k _ _ (.inl Z) e⟩
 |tup xs=>obtain⟨z,its,r,ob,e,c⟩:=x;exact⟨z,its,r,ob,k _ _ (.inl Z) e,c⟩
 |dK kvs=>obtain⟨z,y,vs,r,ob,es,ep,e,c⟩:=x;exact⟨z,y,vs,r,ob,es,ep,k _ _ (.inl Z) e,c⟩
 |dT kvs=>
  obtain⟨z,y,xs,r,ob,es,ep,e,c⟩:=x;exact⟨z,y,xs,Paired.aab r λp q z=>⟨z.1,ht _ _ z.2.1,z.2.2⟩,ob,es,ep,k _ _ (.inl Z) e,c⟩
 |set S n=>obtain⟨ob,es,ep,t,e,c⟩:=x;exact⟨ob,es,ep,t,k _ _ (.inl Z) e,c⟩
 |ins C dx fs=>
  obtain⟨d,z,ne,e,mA,⟨od,es,ep,e2,c⟩,r⟩:=x;exact⟨ho _ d,z,ne,k _ _ (.inl Z) e,mA,⟨od,es,ep,k _ _ (.inr d) e2,c⟩,r⟩
 |own y=>obtain⟨ob,e⟩:=x;exact⟨ob,k _ _ (.inl Z) e⟩
 |xd fs=>obtain⟨mA,⟨od,es,ep,e,c⟩,r⟩:=x;exact⟨mA,⟨od,es,ep,k _ _ (.inl Z) e,c⟩,r⟩
 |rng lo hi=>obtain⟨t,u,v,e⟩:=x;exact⟨t,u,v,k _ _ (.inl Z) e⟩
 |Fu ob u ih=>obtain⟨e,q⟩:=x;exact⟨k _ _ (.inl Z) e,ih q⟩
 |vB ps=>
  have e:h.get? a=some {cls:= .none,data:= .fields ps}:=x;show h'.get? a=some {cls:= .none,data:= .fields ps};exact k a _ (.inl Z) e
 |met f y=>
  have e:h.get? a=some (methodObj (.ref f) (.ref y)):=x;show h'.get? a=some (methodObj (.ref f) (.ref y));exact k a _ (.inl Z) e
 |ext φ=>obtain⟨p,⟨o,e⟩,st⟩:=x;exact⟨st _ _ p λo q=>k _ _ (.inl Z) q,⟨o,k _ _ (.inl Z) e⟩,st⟩
theorem pD.lt(x:pD P w H h)(e:H a=some o):a<h.objs.size:=(x a o e).lt
theorem pD.fresh(x:pD P w H h)(e:h.objs.size<=a):H a=none:=by
 cases q:H a with
 |none=>rfl
 |some u=>exact absurd (cP (x.lt q) e) (cA _)
theorem pD.kept(x:pD P w H h)(k:∀b u,h.get? b=some u->h'.get? b=some u):pD P w H h' :=λa o e=>
 (x a o e).Ae (λb u _ q=>k b u q) (λ_ q=>q) λ_ _ q=>q
theorem pD.laid(x:pD P w H h)(k:∀b u,h.get? b=some u->h'.get? b=some u)(hp:h.objs.size<=a)(new:cu P w (upd H a o) h' a o):pD P w (upd H a o) h' :=λb u e=>by
 have hn:=x.fresh hp;by_cases hb:b=a
 .subst hb;rw[af] at e;cases e;exact new
 .rw[az hb] at e;exact(x b u e).Ae (λc v _ q=>k c v q) (λc q=>by rw[az (aA q hn)];exact q) λc xs q=>by rw[az (aA q hn)];exact q
end
def Rd(H:Hp)(a:S')(u:HO):Prop:=H a=some u\/∃o,H a=some (.Fu o u)
theorem Rd.ok{P:Z'}{w:W'}{H:Hp}{h:Y'}{a:S'}{u:HO}(r:Rd H a u)(x:pD P w H h):cu P w H h a u:=by
 rcases r with r|⟨o,r⟩
 .exact x a u r
 .obtain⟨_,q⟩:=x a _ r;exact q
def Y6:Option HO->Prop
 |some (.lst _)=>True
 |some (.dK _)=>True
 |some (.dT _)=>True
 |some (.set _ _)=>True
 |some (.ins _ _ _)=>True
 |some (.ext _)=>True
 |_=>False
section
variable{P:Z'}{w:W'}{H:Hp}{h h' :Y'}{x e:S'}{o' :HO}
theorem pD.write(ok:pD P w H h)(mu:Y6 (H x))(he:e=x\/H e=some (.own x))(k:∀b u,b≠e->h.get? b=some u->h'.get? b=some u)(Yj:∃u,h'.get? e=some u)
 (new:cu P w (upd H x o') h' x o'):pD P w (upd H x o') h' :=λb u q=>by
 have abn:∀c y,H c=some (.own y)->c≠x:=λc y r z=>by subst z;rw[r] at mu;exact mu
 have adQ:∀c xs,H c=some (.tup xs)->c≠x:=λc xs r z=>by subst z;rw[r] at mu;exact mu
 by_cases hb:b=x
 .subst hb;rw[af] at q;cases q;exact new
 .rw[az hb] at q;by_cases DJ:b=e
  .have q' :H b=some (.own x):=by
    rcases he with z|z
    .exact absurd (DJ.trans z) hb
    .rw[DJ];exact z
   rw[q] at q';cases q'
   obtain⟨v,hv⟩:=Yj;exact⟨v,by rw[DJ];exact hv⟩
  .refine(ok b u q).Ae (λc v hc r=>k c v ?_ r) (λc r=>by rw[az (abn c b r)];exact r) λc xs r=>by rw[az (adQ c xs r)];exact r
   rcases hc with rfl|hc
   .exact DJ
   .rintro rfl
    rcases he with z|z
    .exact abn c b hc z
    .rw[hc] at z;cases z;exact hb rfl
end
structure Un(fs ex:cc)(H H' :Hp)(h h' :Y'):Prop where
 keep:∀b o,h.get? b=some o->H b=none->b∉fs->b∉ex->h'.get? b=some o
 slot:∀b o,h.get? b=some o->H b=none->b∈fs->b∉ex->∃sl,h'.get? b=some {o with slots:=sl}
 free:∀b o,h.get? b=some o->H b=none->b∉ex->H' b=none
 there:∀b o,h.get? b=some o->b∉ex->∃o',h'.get? b=some o'
 BS:∀b xs,H b=some (.tup xs)->H' b=some (.tup xs)
 AQ:∀b o u,H b=some (.Fu o u)->H' b=some (.Fu o u)
 Av:∀b ps,H b=some (.vB ps)->∃more,H' b=some (.vB (ps++more))
section
variable{fs fs' ex ex' :cc}{H H1 H2:Hp}{h h1 h2 h' :Y'}{a x e:S'}{o:HO}
theorem Un.any(u:Un fs ex H H1 h h1){b:S'}{ob:Obj}(q:h.get? b=some ob)(n:H b=none)(hx:b∉ex):∃sl,h1.get? b=some {ob with slots:=sl}:=by
 by_cases hb:b∈fs
 .exact u.slot b ob q n hb hx
 .exact⟨ob.slots,u.keep b ob q n hb hx⟩
theorem Un.kept(k:∀b u,h.get? b=some u->h'.get? b=some u):Un fs ex H H h h' :=
 ⟨λb ob q _ _ _=>k b ob q,λb ob q _ _ _=>⟨ob.slots,k b ob q⟩,λ_ _ _ n _=>n,λb ob q _=>⟨ob,k b ob q⟩,λ_ _ q=>q,λ_ _ _ q=>q,λ_ ps q=>⟨#[],by rw[q];simp⟩⟩
theorem Un.refl:Un fs ex H H h h:=Un.kept λ_ _ q=>q
theorem Un.laid(k:∀b u,h.get? b=some u->h'.get? b=some u)(hp:h.objs.size<=a)(hn:H a=none):Un fs ex H (upd H a o) h h' where
 keep:=λb u q _ _ _=>k b u q
 slot:=λb u q _ _ _=>⟨u.slots,k b u q⟩
 free:=λb u q n _=>by rw[az (cJ (cP (a_ q) hp))];exact n
 there:=λb u q _=>⟨u,k b u q⟩
 BS:=λb xs q=>by rw[az (aA q hn)];exact q
 AQ:=λb u xs q=>by rw[az (aA q hn)];exact q
 Av:=λb ps q=>⟨#[],by rw[az (aA q hn),q];simp⟩
theorem Un.write(mu:Y6 (H x))(he:e=x\/H e=some (.own x))(k:∀b u,b≠e->h.get? b=some u->h'.get? b=some u)(Yj:∃u,h'.get? e=some u):Un fs ex H (upd H x o) h h' :=by
 have hx:∀b,H b=none->b≠x:=λb n z=>by subst z;rw[n] at mu;exact mu
 have hb:∀b,H b=none->b≠e:=λb n z=>by
  subst z;rcases he with r|r
  .exact hx b n r
  .rw[n] at r;cases r
 have hm:∀b u,H b=some u->¬Y6 (some u)->b≠x:=λb u q nm z=>by subst z;rw[q] at mu;exact nm mu
 refine⟨λb u q n _ _=>k b u (hb b n) q,λb u q n _ _=>⟨u.slots,k b u (hb b n) q⟩,λb u q n _=>by rw[az (hx b n)];exact n,λb u q _=> ?_,
  λb xs q=>by rw[az (hm b _ q λz=>z)];exact q,λb u xs q=>by rw[az (hm b _ q λz=>z)];exact q,λb ps q=>⟨#[],by rw[az (hm b _ q λz=>z),q];simp⟩⟩
 by_cases DJ:b=e
 .subst DJ;exact Yj
 .exact⟨u,k b u DJ q⟩
end
noncomputable def trk(h:Y')(H:Hp):cc:=(List.range h.objs.size).filter λa=>(H a).isSome
noncomputable def Cf(h:Y')(H:Hp):Y':=PySem.W.hideAll h (trk h H)
theorem Du(h:Y')(H:Hp):(Cf h H).objs.size=h.objs.size:=PySem.W.hideAll_size _ _
theorem AU{h:Y'}{H:Hp}{b:S'}{o:Obj}(e:h.get? b=some o)(n:H b=none):(Cf h H).get? b=some o:=
 PySem.W.hideAll_get _ e λhm=>by
  have q:(H b).isSome=true:=(r_.mp hm).2;rw[n] at q;simp at q
theorem ED{h:Y'}{H:Hp}{b:S'}{o:Obj}(e:(Cf h H).get? b=some o):h.get? b=some o/\H b=none:=by
 have e' :h.get? b=some o:=PySem.W.of_hideAll (trk h H) e;refine⟨e',?_⟩
 cases q:H b with
 |none=>rfl
 |some x=>
  have hm:b∈trk h H:=r_.mpr ⟨mK.mpr (a_ e'),by simp[q]⟩;have z:(Cf h H).get? b=none:=PySem.W.hideAll_none (trk h H) hm;rw[z] at e;cases e
noncomputable def Qi(g h:Y')(L:S'):aQ:=(List.range h.objs.size).filterMap λa=>if a=L\/(g.get? a).isSome=true then none else(h.get? a).map λo=>(a,o)
noncomputable def rest(g h:Y')(L d:S'):aQ:=(Qi g h L).filter λp=>decide (p.1≠d)
structure Mod(K:Frag)(mg:Str->aO)(base:Y'):Prop where
 xp:K.In base
 glob:base.Ns mainGlobals mg
 blt:∃mb,base.Ns builtinsNs mb/\∀x:Str,x≠ "__name__" ->mb x=bootBuiltins x
 nolimit:base.NoLimit
structure Cx where
 prog:Z'
 w:W'
 K:Frag
 mg:Str->aO
 base:Y'
 A:X'
 N:au
 fO:R'
 H₀:Hp
 env:Env
 outer:List Env
 stack:List Env
 ex:cc
 fn:Str->Bool
 calm:Bool
 pn:aQ
 xe:J'
noncomputable def Cb(l:List Env):cc:=l.filterMap (·.frame)
noncomputable abbrev Cx.fs(X:Cx):cc:=Cb X.outer
def Vis(sc:Scope)(x:Str):Prop:=sc.names.lookup x=some .local\/sc.names.lookup x=some .cell\/sc.names.lookup x=some .free
def Loc(sc:Scope)(x:Str):Prop:=sc.names.lookup x=some .local\/sc.names.lookup x=some .cell
def jaF(env:Env)(h:Y')(m:Str->aO)(x:Str)(u:M'):Prop:=
 (env.kindOf x=some .local/\m x=some u)\/((env.kindOf x=some .cell\/env.kindOf x=some .free)/\∃c,env.cells.lookup x=some c/\h.IsCell c (some u))
structure Cx.Ok(X:Cx):Prop where
 mod:Mod X.K X.mg X.base
 kind:X.env.scope.kind= .function
 glob:X.env.globals=mainGlobals
 blt:X.env.builtins=builtinsNs
 above:X.fO.heap.objs.size<=X.env.locals
 inj:∀x y c,X.env.cells.lookup x=some c->X.env.cells.lookup y=some c->x=y
 has:∀x,(X.env.kindOf x=some .cell\/X.env.kindOf x=some .free)->∃c,X.env.cells.lookup x=some c
 Ru:∀x c,X.fn x=true->X.env.cells.lookup x=some c->X.fO.heap.objs.size<=c
 hd:X.calm=true->X.A.handled=none
 frames:X.A.frames=some X.stack
 PM:X.stack=X.outer\/(X.stack=X.env::X.outer/\X.env.frame=some X.env.locals)
 exf:∀b∈X.ex,b≠X.env.locals/\∀x c,X.env.cells.lookup x=some c->c≠b
 bs:∀b o,X.base.get? b=some o->X.fO.heap.get? b=some o/\X.H₀ b=none
 Kv:X.base.objs.size<=X.fO.heap.objs.size
 IW:∀b o,X.base.get? b=some o->b∉X.ex
 Kz:∀b∈X.ex,b∉X.fs
 sF:X.fO.heap.FunFrames X.base X.outer
 O8:∀b∈X.fs,X.H₀ b=none
structure Inv(X:Cx)(ad:aQ)(σ:List (Option V))(H:Hp)(s:R'):Prop where
 ok:X.Ok
 os:s.os=X.fO.os
 bare:AllBare s.gens
 base:Un X.fs X.ex X.H₀ H X.fO.heap s.heap
 loc:∃m,s.heap.Ns X.env.locals m/\∀(i:Nat) (x:Str) (v:V),X.N[i]? =some x->σ[i]? =some (some v)->Vis X.env.scope x->∃u,RelV v u/\jaF X.env s.heap m x u
 cell:∀x c,X.env.cells.lookup x=some c->∃v,s.heap.IsCell c v
 free:H X.env.locals=none
 jR:∀x c,X.env.cells.lookup x=some c->H c=none
 pin:∀p∈X.pn++ad,s.heap.get? p.1=some p.2/\H p.1=none/\p.1≠X.env.locals/\p.1∉X.fs/\∀v,p.2.data≠.cell v
 bS:pD X.prog X.w H s.heap
 len:σ.length=X.N.length
section
variable{X:Cx}{ad:aQ}{σ:List (Option V)}{H H' :Hp}{s:R'}{h' :Y'}
theorem Cx.Ok.adM(ok:X.Ok){b:S'}{o:Obj}(e:X.base.get? b=some o):b∉X.fs:=λhb=>by
 have:=(ok.sF.mem hb).1;rw[e] at this;cases this
theorem Inv.bs(I:Inv X ad σ H s):∀b o,X.base.get? b=some o->s.heap.get? b=some o/\H b=none:=λb o e=>
 ⟨I.base.keep b o (I.ok.bs b o e).1 (I.ok.bs b o e).2 (I.ok.adM e) (I.ok.IW b o e),I.base.free b o (I.ok.bs b o e).1 (I.ok.bs b o e).2 (I.ok.IW b o e)⟩
theorem Inv.bk(I:Inv X ad σ H s):∀b o,X.base.get? b=some o->s.heap.get? b=some o:=λb o e=>(I.bs b o e).1
theorem Inv.mod(I:Inv X ad σ H s):Mod X.K X.mg X.base:=I.ok.mod
theorem Inv.jO(I:Inv X ad σ H s):X.K.In s.heap:=I.ok.mod.xp.keeps I.bk
theorem Inv.fr(I:Inv X ad σ H s):∃m,Fr X.base X.env.locals s.heap m:=
 let⟨m,hn,_⟩:=I.loc
 ⟨m,hn,I.bk,aU I.ok.Kv I.ok.above⟩
theorem Inv.lt(I:Inv X ad σ H s):X.env.locals<s.heap.objs.size:=let⟨_,hn,_⟩:=I.loc;hn.lt
theorem Inv.sz(I:Inv X ad σ H s):X.fO.heap.objs.size<=s.heap.objs.size:=aU I.ok.above (cT I.lt)
theorem Inv.afk(I:Inv X ad σ H s){a:S'}(h:s.heap.objs.size<=a):a∉X.fs:=λhb=>by
 obtain⟨_,o,ho,_⟩:=I.ok.sF.mem hb;exact absurd (cP (a_ ho) (aU I.sz h)) (cA _)
theorem Inv.Pd(I:Inv X ad σ H s):∀x c,X.env.cells.lookup x=some c->c≠X.env.locals:=λx c e z=>by
 obtain⟨v,o,ho,hd⟩:=I.cell x c e;obtain⟨m,⟨o',es,ep,MA,Q_,_⟩,_⟩:=I.loc;rw[z,MA] at ho;cases ho;rw[Q_] at hd;cases hd
theorem Inv.sF(I:Inv X ad σ H s):s.heap.FunFrames X.base X.outer:=by
 have all:∀(l:List Env),(∀b∈Cb l,b∈X.fs)->X.fO.heap.FunFrames X.base l->s.heap.FunFrames X.base l:=by
  intro l
  induction l with
  |nil=>intro _ _;trivial
  |cons env r ih=>
   intro hs hl;obtain⟨hk,⟨L,o,hf,hn,ho,hd⟩,hr⟩:=hl;have hL:L∈X.fs:=hs L (by unfold Cb;rw[oS,hf];exact c5);obtain⟨sl,e⟩:=I.base.slot L o ho (I.ok.O8 L hL) hL λz=>I.ok.Kz L z hL;exact⟨hk,⟨L,_,hf,hn,e,hd⟩,ih (λb hb=>hs b (by unfold Cb;rw[oS,hf];exact cw _ hb)) hr⟩
 exact all X.outer (λ_ hb=>hb) I.ok.sF
theorem Inv.stack(I:Inv X ad σ H s):s.heap.FunFrames X.base X.stack:=by
 rcases I.ok.PM with e|⟨e,hf⟩
 .rw[e];exact I.sF
 .rw[e];obtain⟨m,hn,_⟩:=I.loc;refine .cons (by rw[I.ok.kind];decide) hf hn ?_ I.sF;exact Heap.get?_none_of_le (aU I.ok.Kv I.ok.above)
theorem Inv.A2(I:Inv X ad σ H s):∀b∈Cb X.stack,b∈X.env.locals::X.fs:=λb hb=>by
 rcases I.ok.PM with e|⟨e,hf⟩
 .rw[e] at hb;exact cw _ hb
 .rw[e] at hb;unfold Cb at hb;rw[oS,hf] at hb;exact hb
theorem Inv.vw(I:Inv X ad σ H s):∀b∈Cb X.stack,H b=none:=λb hb=>by
 rcases aP.mp (I.A2 b hb) with e|hb
 .rw[e];exact I.free
 .obtain⟨_,o,ho,_⟩:=I.ok.sF.mem hb;exact I.base.free b o ho (I.ok.O8 b hb) λz=>I.ok.Kz b z hb
theorem Inv.step{g' :Array GenState}{t' :Nat}{d' :Drawn}{ch:cc}(I:Inv X ad σ H s)
 (Ft:∀b∈ch,(b∈X.ex\/X.fO.heap.objs.size<=b)/\b≠X.env.locals/\(∀x c,X.env.cells.lookup x=some c->c≠b)/\∀p∈X.pn++ad,p.1≠b)
 (keep:∀b o,b≠X.env.locals->b∉X.fs->b∉ch->s.heap.get? b=some o->H b=none->h'.get? b=some o)
 (slot:∀b o,b≠X.env.locals->b∈X.fs->b∉ch->s.heap.get? b=some o->H b=none->∃sl,h'.get? b=some {o with slots:=sl}) (free:∀b o,b∉ch->s.heap.get? b=some o->H b=none->H' b=none)
 (there:∀b o,b∉ch->s.heap.get? b=some o->∃o',h'.get? b=some o')
 (BS:∀b xs,H b=some (.tup xs)->H' b=some (.tup xs)) (AQ:∀b o u,H b=some (.Fu o u)->H' b=some (.Fu o u)) (Av:∀b ps,H b=some (.vB ps)->∃more,H' b=some (.vB (ps++more)))
 (ns:∀m,s.heap.Ns X.env.locals m->h'.Ns X.env.locals m) (bS:pD X.prog X.w H' h') (hg:AllBare g'):
 Inv X ad σ H' {s with heap:=h',gens:=g',drawn:=d',toks:=t'}:=by
 have neL:∀b o,X.fO.heap.get? b=some o->b≠X.env.locals:=λb o e=>cJ (cP (a_ e) I.ok.above)
 have neC:∀b o,X.fO.heap.get? b=some o->b∉X.ex->b∉ch:=λb o e hx hb=>by
  rcases(Ft b hb).1 with z|z
  .exact hx z
  .exact absurd (cP (a_ e) z) (cA _)
 have cellK:∀x c,X.env.cells.lookup x=some c->∀v,s.heap.IsCell c v->h'.IsCell c v:=λx c e v ⟨o,ho,hd⟩=>by
  have Zk:c∉ch:=λz=>(Ft c z).2.2.1 x c e rfl;by_cases hc:c∈X.fs
  .obtain⟨sl,q⟩:=slot c o (I.Pd x c e) hc Zk ho (I.jR x c e);exact⟨_,q,hd⟩
  .exact⟨o,keep c o (I.Pd x c e) hc Zk ho (I.jR x c e),hd⟩
 refine⟨I.ok,I.os,hg,⟨λb o e n hb hx=> ?_,λb o e n hb hx=> ?_,λb o e n hx=> ?_,λb o e hx=> ?_,λb xs e=>BS b xs (I.base.BS b xs e),λb o xs e=>AQ b o xs (I.base.AQ b o xs e),λb ps e=> ?_⟩,?_,λx c e=> ?_,?_,λx c e=> ?_,λp hp=> ?_,bS,I.len⟩
 .exact keep b o (neL b o e) hb (neC b o e hx) (I.base.keep b o e n hb hx) (I.base.free b o e n hx)
 .obtain⟨sl,e1⟩:=I.base.slot b o e n hb hx;obtain⟨sl',e2⟩:=slot b _ (neL b o e) hb (neC b o e hx) e1 (I.base.free b o e n hx);exact⟨sl',e2⟩
 .obtain⟨o',e1⟩:=I.base.there b o e hx;exact free b o' (neC b o e hx) e1 (I.base.free b o e n hx)
 .obtain⟨o',e1⟩:=I.base.there b o e hx;exact there b o' (neC b o e hx) e1
 .obtain⟨m1,e1⟩:=I.base.Av b ps e;obtain⟨m2,e2⟩:=Av b _ e1;exact⟨m1++m2,by rw[e2,Array.append_assoc]⟩
 .obtain⟨m,hn,hl⟩:=I.loc;refine⟨m,ns m hn,λi x v e1 e2 e3=> ?_⟩;obtain⟨u,r,l⟩:=hl i x v e1 e2 e3;refine⟨u,r,?_⟩;rcases l with l|⟨k,c,e,z⟩
  .exact .inl l
  .exact .inr ⟨k,c,e,cellK x c e _ z⟩
 .obtain⟨v,z⟩:=I.cell x c e;exact⟨v,cellK x c e v z⟩
 .obtain⟨m,⟨o,_,_,ho,_⟩,_⟩:=I.loc;exact free _ o (λz=>(Ft _ z).2.1 Z) ho I.free
 .obtain⟨v,o,ho,hd⟩:=I.cell x c e;exact free c o (λz=>(Ft c z).2.2.1 x c e Z) ho (I.jR x c e)
 .obtain⟨e,n,ne,nf,d⟩:=I.pin p hp;have Zk:p.1∉ch:=λz=>(Ft p.1 z).2.2.2 p hp rfl;exact⟨keep p.1 p.2 ne nf Zk e n,free p.1 p.2 Zk e n,ne,nf,d⟩
theorem Inv.un{t' :Nat}(I:Inv X ad σ H s)(u:Un X.fs [] H H' s.heap h')(bS:pD X.prog X.w H' h'):Inv X ad σ H' {s with heap:=h',toks:=t'}:=by
 obtain⟨m,⟨o,es,ep,ho,r⟩,_⟩:=id I.loc;obtain⟨sl,hL⟩:=u.any ho I.free (by simp)
 exact I.step (g' :=s.gens) (d' :=s.drawn) (ch:=[]) (λ_ z=>nomatch z) (λb o _ hb _ e n=>u.keep b o e n hb (by simp)) (λb o _ hb _ e n=>u.slot b o e n hb (by simp)) (λb o _ e n=>u.free b o e n (by simp)) (λb o _ e=>u.there b o e (by simp)) u.BS u.AQ u.Av (λm' hm=>by
  obtain⟨o',es',ep',MA,r'⟩:=hm;rw[ho] at MA;cases MA
  exact⟨_,es',ep',hL,r'⟩) bS I.bare
theorem Inv.call{g' :Array GenState}{t' :Nat}{d' :Drawn}{ch:cc}(I:Inv X ad σ H s)(u:Un (Cb X.stack) ch H H' s.heap h')(bS:pD X.prog X.w H' h')(hg:AllBare g')
 (Ft:∀b∈ch,(b∈X.ex\/X.fO.heap.objs.size<=b)/\b≠X.env.locals/\(∀x c,X.env.cells.lookup x=some c->c≠b)/\∀p∈X.pn++ad,p.1≠b):
 Inv X ad σ H' {s with heap:=h',gens:=g',drawn:=d',toks:=t'}:=by
 obtain⟨m,⟨o,es,ep,ho,r⟩,_⟩:=id I.loc;obtain⟨sl,hL⟩:=u.any ho I.free λz=>(Ft _ z).2.1 rfl
 exact I.step (ch:=ch) Ft (λb o hL hb hc e n=>u.keep b o e n (λz=>(aP.mp (I.A2 b z)).elim hL hb) hc) (λb o _ _ hc e n=>u.any e n hc) (λb o hc e n=>u.free b o e n hc) (λb o hc e=>u.there b o e hc) u.BS u.AQ u.Av (λm' hm=>by
  obtain⟨o',es',ep',MA,r'⟩:=hm;rw[ho] at MA;cases MA
  exact⟨_,es',ep',hL,r'⟩) bS hg
theorem Inv.turned{t' :Nat}{it:S'}(I:Inv X ad σ H s)(k:∀b o,b≠it->s.heap.get? b=some o->h'.get? b=some o)(hn:H it=none)(hL:it≠X.env.locals)
 (h1:it∈X.ex\/X.fO.heap.objs.size<=it) (h2:∀x c,X.env.cells.lookup x=some c->c≠it) (h3:∀p∈X.pn++ad,p.1≠it):Inv X ad σ H {s with heap:=h',toks:=t'}:=by
 have nit:∀b u,H b=some u->b≠it:=λb u e z=>by rw[z,hn] at e;cases e
 refine I.step (g' :=s.gens) (d' :=s.drawn) (ch:=[it]) (λb hb=> ?_) (λb o _ _ hc e _=>k b o (λz=>hc (by simp[z])) e) (λb o _ _ hc e _=>⟨o.slots,k b o (λz=>hc (by simp[z])) e⟩) (λ_ _ _ _ n=>n)
  (λb o hc e=>⟨o,k b o (λz=>hc (by simp[z])) e⟩) (λ_ _ e=>e) (λ_ _ _ e=>e) (λb ps e=>⟨#[],by rw[e];simp⟩) (λm hm=> ?_) (λb u e=> ?_) I.bare
 .have e:b=it:=by simpa using hb
  subst e;exact⟨h1,hL,h2,h3⟩
 .obtain⟨o,es,ep,ho,r⟩:=hm;exact⟨o,es,ep,k _ o (ck hL) ho,r⟩
 .refine(I.bS b u e).Ae (λc v hc q=>k c v ?_ q) (λ_ q=>q) λ_ _ q=>q;rcases hc with z|z
  .rw[z];exact nit b u e
  .exact nit c _ z
theorem Inv.tok(I:Inv X ad σ H s)(t:Nat):Inv X ad σ H {s with toks:=t}:=I.un (h' :=s.heap) (t' :=t) Un.refl I.bS
theorem Inv.kept{t' :Nat}(I:Inv X ad σ H s)(k:∀b u,s.heap.get? b=some u->h'.get? b=some u):Inv X ad σ H {s with heap:=h',toks:=t'}:=I.un (Un.kept k) (I.bS.kept k)
theorem Inv.laid{a:S'}{o:HO}{t' :Nat}(I:Inv X ad σ H s)(k:∀b u,s.heap.get? b=some u->h'.get? b=some u)(hp:s.heap.objs.size<=a)(new:cu X.prog X.w (upd H a o) h' a o):
 Inv X ad σ (upd H a o) {s with heap:=h',toks:=t'}:=I.un (Un.laid k hp (I.bS.fresh hp)) (I.bS.laid k hp new)
theorem Inv.write{x e:S'}{o:HO}{t' :Nat}(I:Inv X ad σ H s)(mu:Y6 (H x))(he:e=x\/H e=some (.own x))(k:∀b u,b≠e->s.heap.get? b=some u->h'.get? b=some u)(Yj:∃u,h'.get? e=some u)
 (new:cu X.prog X.w (upd H x o) h' x o):Inv X ad σ (upd H x o) {s with heap:=h',toks:=t'}:=I.un (Un.write mu he k Yj) (I.bS.write mu he k Yj new)
theorem Inv.weak{fD :List (Option V)}(I:Inv X ad σ H s)(hl:fD.length=σ.length)(w:∀(i:Nat) v,fD[i]? =some (some v)->σ[i]? =some (some v)):Inv X ad fD H s:=
 ⟨I.ok,I.os,I.bare,I.base,let⟨m,hn,XA⟩:=I.loc;⟨m,hn,λi x v e1 e2 e3=>XA i x v e1 (w i v e2) e3⟩,I.cell,I.free,I.jR,I.pin,I.bS,hl.trans I.len⟩
theorem Inv.Kl{Gb :aQ}(I:Inv X ad σ H s)(h:∀p∈Gb,s.heap.get? p.1=some p.2/\H p.1=none/\p.1≠X.env.locals/\p.1∉X.fs/\∀v,p.2.data≠.cell v):Inv X Gb σ H s:=
 ⟨I.ok,I.os,I.bare,I.base,I.loc,I.cell,I.free,I.jR,λp hp=>(eB.mp hp).elim (λz=>I.pin p (rK _ z)) (h p),I.bS,I.len⟩
theorem F8{N:au}(hN:N.Nodup){i j:Nat}{x:Str}(a:N[i]? =some x)(b:N[j]? =some x):i=j:=by
 obtain⟨h1,e1⟩:=c8.mp a;obtain⟨h2,e2⟩:=c8.mp b;exact(List.getElem_inj hN).mp (e1.trans e2.symm)
theorem CG{M:Model}{A:X'}{E:J'}{i:Nat}{x:Str}{v:V}{u:M'}{Q:Unit->R'->Prop}(I:Inv X ad σ H s)(hN:X.N.Nodup)(hi:X.N[i]? =some x)(hx:Loc X.env.scope x)(r:RelV v u)
 (h:∀s',Inv X ad (σ.set i (some v)) H s'->(∃a,Heap.SameBut a s.heap s'.heap/\(a=X.env.locals\/X.env.cells.lookup x=some a))->Q () s') (hf:X.fn x=true\/X.env.scope.names.lookup x=some .local:=by first|exact .inl rfl|exact .inr rfl|assumption):wpAny M A (storeName X.env x u) Q E s:=by
 obtain⟨m,hn,hl⟩:=id I.loc;have HR:(X.env.scope.kind== .class||(X.env.scope.kind== .module&&X.env.locals !=X.env.globals))=false:=by rw[I.ok.kind];rfl
 have Zh:i<σ.length:=by rw[I.len];exact(c8.mp hi).1
 have Pd:=I.Pd
 have tracked:∀{a:S'} {h' :Y'},(∃o,s.heap.get? a=some o/\H a=none)->Heap.SameBut a s.heap h'->pD X.prog X.w H h' :=λ{a h'} ha hs b ob e=>by
  obtain⟨_,_,U0⟩:=ha;refine(I.bS b ob e).Ae (λc w' hc q=>(hs.2 c ?_).trans q) (λ_ q=>q) λ_ _ q=>q
  rintro rfl
  rcases hc with rfl|hc
  .rw[U0] at e;cases e
  .rw[U0] at hc;cases hc
 rcases hx with hk|hk
 .refine wpAny_storeName_local hk hn (λh' Lz hs=> ?_) HR;obtain⟨oL,_,_,hoL,_⟩:=id hn;refine h _ ⟨I.ok,I.os,I.bare,⟨λb o e n hb hx=> ?_,λb o e n hb hx=> ?_,I.base.free,λb o e hx=> ?_,I.base.BS,I.base.AQ,I.base.Av⟩,⟨_,Lz,λj y v' e1 e2 e3=> ?_⟩,λy c e=> ?_,I.free,I.jR,λp hp=> ?_,tracked ⟨oL,hoL,I.free⟩ hs,by simpa using I.len⟩ ⟨_,hs,.inl Z⟩
  .exact(hs.2 b (cJ (cP (a_ e) I.ok.above))).trans (I.base.keep b o e n hb hx)
  .obtain⟨sl,e1⟩:=I.base.slot b o e n hb hx;exact⟨sl,(hs.2 b (cJ (cP (a_ e) I.ok.above))).trans e1⟩
  .obtain⟨o',e1⟩:=I.base.there b o e hx;exact⟨o',(hs.2 b (cJ (cP (a_ e) I.ok.above))).trans e1⟩
  .by_cases hj:j=i
   .subst hj;rw[hi] at e1;cases e1
    rw[Ea Zh] at e2;cases e2;exact⟨u,r,.inl ⟨hk,by simp⟩⟩
   .rw[zJ (ck hj)] at e2;obtain⟨u',r',q⟩:=hl j y v' e1 e2 e3;refine⟨u',r',?_⟩;rcases q with⟨k,e⟩|⟨k,c,e,z⟩
    .refine .inl ⟨k,?_⟩;have:y≠x:=λe=>hj (F8 hN e1 (e▸hi));simp[this,e]
    .exact .inr ⟨k,c,e,z.sameBut hs (Pd y c e)⟩
  .obtain⟨w',z⟩:=I.cell y c e;exact⟨w',z.sameBut hs (Pd y c e)⟩
  .obtain⟨e,n,ne,nf,d⟩:=I.pin p hp;exact⟨(hs.2 p.1 ne).trans e,n,ne,nf,d⟩
 .have X6:X.fn x=true:=by
   rcases hf with z|z
   .exact z
   .rw[z] at hk;cases hk
  obtain⟨c,hc⟩:=I.ok.has x (.inl hk);obtain⟨w',z⟩:=I.cell x c hc;refine wpAny_storeName_cell I.ok.kind hk hc z (λh' hc' hs=> ?_);obtain⟨oc,hoc,afj⟩:=id z;refine h {s with heap:=h'} ⟨I.ok,I.os,I.bare,⟨λb o e n hb hx=> ?_,λb o e n hb hx=> ?_,I.base.free,λb o e hx=> ?_,I.base.BS,I.base.AQ,I.base.Av⟩,⟨m,hn.sameBut hs (ck (Pd x c hc)),λj y v' e1 e2 e3=> ?_⟩,λy c' e=> ?_,I.free,I.jR,λp hp=> ?_,tracked ⟨oc,hoc,I.jR x c hc⟩ hs,by simpa using I.len⟩ ⟨c,hs,.inr hc⟩
  .exact(hs.2 b (cJ (cP (a_ e) (I.ok.Ru x c X6 hc)))).trans (I.base.keep b o e n hb hx)
  .obtain⟨sl,e1⟩:=I.base.slot b o e n hb hx;exact⟨sl,(hs.2 b (cJ (cP (a_ e) (I.ok.Ru x c X6 hc)))).trans e1⟩
  .obtain⟨o',e1⟩:=I.base.there b o e hx;exact⟨o',(hs.2 b (cJ (cP (a_ e) (I.ok.Ru x c X6 hc)))).trans e1⟩
  .by_cases hj:j=i
   .subst hj;rw[hi] at e1;cases e1
    rw[Ea Zh] at e2;cases e2;exact⟨u,r,.inr ⟨.inl hk,c,hc,hc'⟩⟩
   .rw[zJ (ck hj)] at e2;obtain⟨u',r',q⟩:=hl j y v' e1 e2 e3;refine⟨u',r',?_⟩;rcases q with q|⟨k,c',e,z'⟩
    .exact .inl q
    .refine .inr ⟨k,c',e,z'.sameBut hs ?_⟩
     rintro rfl
     exact hj (F8 hN e1 (I.ok.inj _ _ _ e hc▸hi))
  .by_cases hcc:c' =c
   .subst hcc;exact⟨_,hc'⟩
   .obtain⟨w2,z2⟩:=I.cell y c' e;exact⟨w2,z2.sameBut hs hcc⟩
  .obtain⟨e,n,ne,nf,d⟩:=I.pin p hp;refine⟨(hs.2 p.1 ?_).trans e,n,ne,nf,d⟩;intro q;rw[q,hoc] at e;have q' :oc=p.2:=fW e;exact d w' (by rw[<-q'];exact afj)
theorem nO{M:Model}{A:X'}{E:J'}{i:Nat}{x:Str}{v:V}{u:M'}{Q:Unit->R'->Prop}(I:Inv X ad σ H s)(hN:X.N.Nodup)(hi:X.N[i]? =some x)(hx:Loc X.env.scope x)(r:RelV v u)
 (h:∀s',Inv X ad (σ.set i (some v)) H s'->Q () s') (hf:X.fn x=true\/X.env.scope.names.lookup x=some .local:=by first|exact .inl rfl|exact .inr rfl|assumption):wpAny M A (storeName X.env x u) Q E s:=
 CG I hN hi hx r (λs' I' _=>h s' I') hf
theorem Inv.RH{s' :R'}{ch:cc}(I:Inv X ad σ H s)(ho:s'.os=s.os)(u:Un (Cb X.stack) ch H H' s.heap s'.heap)(bS:pD X.prog X.w H' s'.heap)(hg:AllBare s'.gens)
 (Ft:∀b∈ch,(b∈X.ex\/X.fO.heap.objs.size<=b)/\b≠X.env.locals/\(∀x c,X.env.cells.lookup x=some c->c≠b)/\∀p∈X.pn++ad,p.1≠b):Inv X ad σ H' s' :=by
 obtain⟨h',g',d',t',o'⟩:=s';have e:o' =s.os:=ho;subst e;exact I.call (g' :=g') (t' :=t') (d' :=d') u bS hg Ft
end
abbrev XK:=M'->Option S'->Hp->Prop
abbrev St:=List (Option V)
abbrev VK:=V->Hp->Prop
abbrev TE:=St->Hp->VK->Prop
abbrev TT:=St->Hp->(Bool->Hp->Prop)->Prop
abbrev TA:=St->Hp->(ak->Hp->Prop)->Prop
structure Ends where
 nx:St->Hp->Prop
 rt:VK
 bk:St->Hp->Prop:=λ_ _=>False
 ct:St->Hp->Prop:=λ_ _=>False
abbrev TS:=Ends->St->Hp->Prop
def EP(X:Cx)(ad:aQ)(σ:St)(Q:VK)(u:M')(s' :R'):Prop:=∃v H',Inv X ad σ H' s'/\RelV v u/\Q v H'
def TP(X:Cx)(ad:aQ)(σ:St)(Q:Bool->Hp->Prop)(b:Bool)(s' :R'):Prop:=∃H',Inv X ad σ H' s'/\Q b H'
def AP(X:Cx)(ad:aQ)(σ:St)(Q:ak->Hp->Prop)(us:aG)(s' :R'):Prop:=∃vs H',Inv X ad σ H' s'/\Vals vs us/\Q vs H'
def SP(X:Cx)(ad:aQ)(D:Ends)(f:Flow)(s' :R'):Prop:=
 match f with
 | .next=>∃fD H',Inv X ad fD H' s'/\D.nx fD H'
 | .brk=>∃fD H',Inv X ad fD H' s'/\D.bk fD H'
 | .cont=>∃fD H',Inv X ad fD H' s'/\D.ct fD H'
 | .ret u=>∃v fD H',Inv X ad fD H' s'/\RelV v u/\D.rt v H'
def PE(X:Cx)(e:V')(t:TE):Prop:=
 ∀(ad:aQ) (s:R') (σ:St) (H:Hp) (Q:VK),Inv X ad σ H s->t σ H Q->wpAny (model X.prog X.w) X.A (eval e X.env) (EP X ad σ Q) X.xe s
def PT(X:Cx)(e:V')(t:TT):Prop:=
 ∀(ad:aQ) (s:R') (σ:St) (H:Hp) (Q:Bool->Hp->Prop),Inv X ad σ H s->t σ H Q->wpAny (model X.prog X.w) X.A (isTrue e X.env (eval e X.env)) (TP X ad σ Q) X.xe s
def PW(X:Cx)(e:V')(t:TT):Prop:=
 ∀(whole:Sem M') (ad:aQ) (s:R') (σ:St) (H:Hp) (Q:Bool->Hp->Prop),Inv X ad σ H s->t σ H Q->wpAny (model X.prog X.w) X.A (isTrue e X.env whole) (TP X ad σ Q) X.xe s
theorem PW.pt{X:Cx}{e:V'}{t:TT}(h:PW X e t):PT X e t:=h _
def PA(X:Cx)(es:b7)(t:TA):Prop:=
 ∀(pos:Pos) (ad:aQ) (s:R') (σ:St) (H:Hp) (Q:ak->Hp->Prop),Inv X ad σ H s->t σ H Q->wpAny (model X.prog X.w) X.A (spliced (backTo pos (starEach es X.env))) (AP X ad σ Q) X.xe s
def PS(X:Cx)(st:Stmt)(t:TS):Prop:=
 ∀(ad:aQ) (s:R') (σ:St) (H:Hp) (D:Ends),Inv X ad σ H s->t D σ H->wpAny (model X.prog X.w) X.A (exec st X.env) (SP X ad D) X.xe s
def CW(X:Cx)(st:List Stmt)(t:TS):Prop:=
 ∀(ad:aQ) (s:R') (σ:St) (H:Hp) (D:Ends),Inv X ad σ H s->t D σ H->wpAny (model X.prog X.w) X.A (execs st X.env) (SP X ad D) X.xe s
theorem dk{α:Type}{t:Sem α}{Q Q' :α->R'->Prop}{M:Model}{A:X'}{E:J'}{s:R'}(h:wpAny M A t Q E s)(hQ:∀a s,Q a s->Q' a s):wpAny M A t Q' E s:=fV h hQ λ_ _ x=>x
variable{X:Cx}
def AA(i:Nat):TE:=λσ H Q=>∃v,σ[i]? =some (some v)/\Q v H
def tC(v:V):TE:=λ_ H Q=>Q v H
theorem VX{i:Nat}{x:Str}{pos:Pos}(hN:X.N[i]? =some x)(hv:Vis X.env.scope x)(hd:(x==("__debug__" :Str))=false:=by decide)(AO:(x==("__classdict__" :Str))=false:=by decide):PE X (.Name x pos) (AA i):=by
 intro ad s σ H Q I h;obtain⟨v,e,h⟩:=h;obtain⟨m,hn,hl⟩:=I.loc;obtain⟨u,r,l⟩:=hl i x v hN e hv;have fin:EP X ad σ Q u s:=⟨v,H,I,r,h⟩;rcases l with⟨hk,hm⟩|⟨hk,c,hc,JR⟩
 .exact wpAny_Name (wpAny_loadName_local I.ok.kind hk hn hm fin) hd
 .rcases hk with hk|hk
  .exact wpAny_Name (wpAny_loadName_cell I.ok.kind hk hc JR fin) hd
  .exact wpAny_Name (wpAny_loadName_free I.ok.kind hk hc JR fin AO) hd
theorem ae{i j pos}:PE X (.Constant (.int i) j pos) (tC (.int i)):=λ_ _ _ H _ I h=>wpAny_Constant_int ⟨.int i,H,I.tok _,⟨_,Z⟩,h⟩
theorem ky{b j pos}:PE X (.Constant (.bool b) j pos) (tC (.bl b)):=λ_ _ _ H _ I h=>Constant_bool ⟨.bl b,H,I,Z,h⟩
theorem eh{j pos}:PE X (.Constant .none j pos) (tC .bp):=λ_ _ _ H _ I h=>Constant_none ⟨.bp,H,I,Z,h⟩
theorem ai{x j pos}:PE X (.Constant (.str x) j pos) (tC (.str x)):=λ_ _ _ H _ I h=>Calls.Constant_str ⟨.str x,H,I.tok _,⟨_,Z⟩,h⟩
def Gl(X:Cx)(x:Str):Prop:=X.env.kindOf x=some .globalImplicit
theorem kL{E:J'}{ad:aQ}{s:R'}{σ:St}{H:Hp}{x:Str}{u:M'}{pos:Pos}{Q:J'}(I:Inv X ad σ H s)(hg:Gl X x)(hm:X.mg x=some u)(h:Q u s)
 (hd:(x==("__debug__" :Str))=false:=by decide):wpAny (model X.prog X.w) X.A (eval (.Name x pos) X.env) Q E s:=
 Calls.Name_function_global I.ok.kind hg (Calls.loadGlobal_global (by rw[I.ok.glob];exact I.mod.glob.keeps I.bk) hm h) hd
theorem uH{E:J'}{ad:aQ}{s:R'}{σ:St}{H:Hp}{x:Str}{u:M'}{pos:Pos}{Q:J'}(I:Inv X ad σ H s)(hg:Gl X x)(hm:X.mg x=none)(hv:bootBuiltins x=some u)(h:Q u s)
 (hn:x≠ "__name__":=by decide) (hd:(x==("__debug__" :Str))=false:=by decide):wpAny (model X.prog X.w) X.A (eval (.Name x pos) X.env) Q E s:=by
 obtain⟨mb,h1,h2⟩:=I.mod.blt;exact Calls.Name_function_global I.ok.kind hg (Calls.loadGlobal_builtin (by rw[I.ok.glob];exact I.mod.glob.keeps I.bk) hm (by rw[I.ok.blt];exact h1.keeps I.bk) ((h2 x hn).trans hv) h) hd
theorem f_{x:Str}{v:V}{u:M'}{pos:Pos}(hg:Gl X x)(hm:X.mg x=some u)(r:RelV v u)(hd:(x==("__debug__" :Str))=false:=by decide):PE X (.Name x pos) (tC v):=
 λ_ _ _ H _ I h=>kL I hg hm ⟨v,H,I,r,h⟩ hd
theorem eJ{x:Str}{v:V}{u:M'}{pos:Pos}(hg:Gl X x)(hm:X.mg x=none)(hv:bootBuiltins x=some u)(r:RelV v u)(hn:x≠ "__name__":=by decide)(hd:(x==("__debug__" :Str))=false:=by decide):PE X (.Name x pos) (tC v):=
 λ_ _ _ H _ I h=>uH I hg hm hv ⟨v,H,I,r,h⟩ hn hd
variable{a b:V'}{ta tb:TE}{pos:Pos}
def PC(X:Cx)(op:CmpOp)(a b:V')(t:TE):Prop:=
 ∀(ad:aQ) (s:R') (σ:St) (H:Hp) (Q:VK),Inv X ad σ H s->t σ H Q->
  wpAny (model X.prog X.w) X.A (eval a X.env) (λv bR=>wpAny (model X.prog X.w) X.A (eval b X.env) (λu uO=>wpAny (model X.prog X.w) X.A (compareOp op v u) (EP X ad σ Q) X.xe uO) X.xe bR) X.xe s
def tB(t:TE):TT:=λσ H Q=>t σ H λx H1=>∃c,x= .bl c/\Q c H1
theorem Wn{op:CmpOp}{t:TE}(h:PC X op a b t)(h1:behindInMarks op b=false:=by first|exact aa2 _ (by decide) (by decide)|rfl):PT X (.Compare a [op] [b] pos) (tB t):=by
 intro ad s σ H Q I hw;refine wpAny_isTrue_Compare1 (dk (h ad s σ H _ I hw) λv s1 h1=>dk h1 λu s2 h2=>dk h2 λc s3 ⟨x,H1,I1,r1,q1⟩=> ?_) h1;obtain⟨d,rfl,q⟩:=q1;cases r1;exact l_ ⟨H1,I1,q⟩
theorem gv{e:V'}{t:TE}(h:PE X e t)(he:∀whole,isTrue e X.env whole=(do let v<-whole;standAt e.pos;holding [v] (truthy v)):=by intro _;rfl):PT X e (tB t):=by
 intro ad s σ H Q I hw;refine isTrue_plain (dk (h ad s σ H _ I hw) λv s1 ⟨x,H1,I1,r1,q1⟩=> ?_) (he _);obtain⟨d,rfl,q⟩:=q1;cases r1;exact l_ ⟨H1,I1,q⟩
variable{tA tB' :TT}{rest:b7}
def afv(t u:TT):TT:=λσ H Q=>t σ H λc H1=>if c=true then u σ H1 Q else Q false H1
def tOr(t u:TT):TT:=λσ H Q=>t σ H λc H1=>if c=true then Q true H1 else u σ H1 Q
def ad6(t:TT):TT:=λσ H Q=>t σ H λc H1=>Q (!c) H1
theorem xz(ha:PT X a tA):PW X (.BoolOp .And [a] pos) tA:=by
 intro wh ad s σ H Q I h;refine isTrue_and (dk (ha ad s σ H Q I h) λc s1 e=> ?_)
 cases c with
 |true=>exact isTrue_and_nil e
 |false=>exact e
theorem WP(ha:PT X a tA):PW X (.BoolOp .Or [a] pos) tA:=by
 intro wh ad s σ H Q I h;refine isTrue_or (dk (ha ad s σ H Q I h) λc s1 e=> ?_)
 cases c with
 |false=>exact isTrue_or_nil e
 |true=>exact e
theorem wT(ha:PT X a tA)(hb:PW X (.BoolOp .And (b::rest) pos) tB'):PW X (.BoolOp .And (a::b::rest) pos) (afv tA tB'):=by
 intro wh ad s σ H Q I h;refine isTrue_and (dk (ha ad s σ H _ I h) λc s1 ⟨H1,I1,q1⟩=> ?_)
 cases c with
 |true=>exact hb wh ad s1 σ H1 Q I1 q1
 |false=>exact⟨H1,I1,q1⟩
theorem WF(ha:PT X a tA)(hb:PW X (.BoolOp .Or (b::rest) pos) tB'):PW X (.BoolOp .Or (a::b::rest) pos) (tOr tA tB'):=by
 intro wh ad s σ H Q I h;refine isTrue_or (dk (ha ad s σ H _ I h) λc s1 ⟨H1,I1,q1⟩=> ?_)
 cases c with
 |true=>exact⟨H1,I1,q1⟩
 |false=>exact hb wh ad s1 σ H1 Q I1 q1
theorem iw(ha:PT X a tA):PT X (.UnaryOp .Not a pos) (ad6 tA):=by
 intro ad s σ H Q I h;exact isTrue_not (ha ad s σ H (λc H1=>Q (!c) H1) I h)
def ZL(ta tb:TE):TE:=λσ H Q=>ta σ H λx H1=>∃c,x= .bl c/\if c=true then tb σ H1 Q else Q (.bl false) H1
def aeN(ta tb:TE):TE:=λσ H Q=>ta σ H λx H1=>∃c,x= .bl c/\if c=true then Q (.bl true) H1 else tb σ H1 Q
def Y3(ta:TE):TE:=λσ H Q=>ta σ H λx H1=>∃c,x= .bl c/\Q (.bl (!c)) H1
theorem fU{op}{t:TE}(h:PE X a t):PE X (.BoolOp op [a] pos) t:=λad s σ H Q I hw=>BoolOp_one (h ad s σ H Q I hw)
theorem gO(ha:PE X a ta)(hb:PE X (.BoolOp .And (b::rest) pos) tb):PE X (.BoolOp .And (a::b::rest) pos) (ZL ta tb):=by
 intro ad s σ H Q I h;refine BoolOp_and (dk (ha ad s σ H _ I h) λv s1 ⟨x,H1,I1,r1,q1⟩=> ?_);obtain⟨c,rfl,q1⟩:=q1;cases r1;refine l_ ?_
 cases c with
 |true=>exact hb ad s1 σ H1 Q I1 q1
 |false=>exact⟨.bl false,H1,I1,Z,q1⟩
theorem GO(ha:PE X a ta)(hb:PE X (.BoolOp .Or (b::rest) pos) tb):PE X (.BoolOp .Or (a::b::rest) pos) (aeN ta tb):=by
 intro ad s σ H Q I h;refine BoolOp_or (dk (ha ad s σ H _ I h) λv s1 ⟨x,H1,I1,r1,q1⟩=> ?_);obtain⟨c,rfl,q1⟩:=q1;cases r1;refine l_ ?_
 cases c with
 |false=>exact hb ad s1 σ H1 Q I1 q1
 |true=>exact⟨.bl true,H1,I1,Z,q1⟩
theorem Jl(ha:PE X a ta):PE X (.UnaryOp .Not a pos) (Y3 ta):=by
 intro ad s σ H Q I h;refine UnaryOp_ (dk (ha ad s σ H _ I h) λv s1 ⟨x,H1,I1,r1,q1⟩=> ?_);obtain⟨c,rfl,q1⟩:=q1;cases r1;exact not_of (l_ ⟨.bl (!c),H1,I1,Z,q1⟩)
def tIf(t:TT)(ta tb:TE):TE:=λσ H Q=>t σ H λc H1=>if c=true then ta σ H1 Q else tb σ H1 Q
theorem qV{c:V'}(hc:PT X c tA)(ha:PE X a ta)(hb:PE X b tb):PE X (.IfExp c a b pos) (tIf tA ta tb):=by
 intro ad s σ H Q I h;refine wpAny_IfExp (dk (hc ad s σ H _ I h) λd s1 ⟨H1,I1,q1⟩=> ?_)
 cases d with
 |true=>exact ha ad s1 σ H1 Q I1 q1
 |false=>exact hb ad s1 σ H1 Q I1 q1
def cF(K:Frag)(H:Hp)(a:S')(xs:ak):Prop:=
 Rd H a (.lst xs)\/
  ∃(o:Obj) (its:Array M') (n:Nat),K.lookup a=some o/\o.cls= .type "list" /\o.dict=none/\o.data= .seq its n/\its.size<=sizeLine/\Vals xs its.toList
def bc(K:Frag)(H:Hp)(a:S')(xs:ak):Prop:=
 Rd H a (.tup xs)\/
  ∃(o:Obj) (its:Array M') (n:Nat),K.lookup a=some o/\o.cls= .type "tuple" /\o.data= .seq its n/\its.size<=sizeLine/\Vals xs its.toList
noncomputable def afg:M'->Option V
 | .none=>some .bp
 | .bool b=>some (.bl b)
 | .int i _=>some (.int i)
 | .str x _=>some (.str x)
 | .bytes b _=>some (.J7 b)
 | .float b _=>some (.WY b)
 | .ref a=>some (.ref a)
 | .type n=>some (.ty n)
 |_=>none
theorem RelV.abs{x:V}{u:M'}(r:RelV x u):afg u=some x:=by
 cases x with
 |bp=>cases r;rfl
 |bl _=>cases r;rfl
 |int _=>obtain⟨t,rfl⟩:=r;rfl
 |str _=>obtain⟨t,rfl⟩:=r;rfl
 |J7 _=>obtain⟨t,rfl⟩:=r;rfl
 |WY _=>obtain⟨t,rfl⟩:=r;rfl
 |ref _=>cases r;rfl
 |ty _=>cases r;rfl
theorem RelV.inj{x y:V}{u:M'}(r:RelV x u)(q:RelV y u):x=y:=fW (r.abs.symm.trans q.abs)
theorem Vals.inj:∀{xs ys:ak} {us:aG},Vals xs us->Vals ys us->xs=ys
 |_,_,_,.nil,.nil=>rfl
 |_,_,_,.cons r t,.cons r' t' =>by rw[r.inj r',Vals.inj t t']
section
variable{X:Cx}{ad:aQ}{σ:St}{H:Hp}{s:R'}{a:S'}{xs ys:ak}
theorem cF.of{K:Frag}(h:H a=some (.lst xs)):cF K H a xs:= .inl (.inl h)
theorem bc.of{K:Frag}(h:H a=some (.tup xs)):bc K H a xs:= .inl (.inl h)
theorem Inv.list(I:Inv X ad σ H s)(h:cF X.K H a xs):∃its:aG,Vals xs its/\PlainL s.heap a its.toArray/\xs.length<=sizeLine:=by
 rcases h with h|⟨o,its,n,hk,hc,hd,hs,hz,r⟩
 .obtain⟨z,its,n,r,e⟩:=h.ok I.bS;exact⟨its,r,⟨_,n,e,Z,Z,Z⟩,z⟩
 .refine⟨its.toList,r,⟨o,n,I.jO a o hk,hc,hd,by simpa using hs⟩,?_⟩;have e:=r.length;simp only[zA] at e;omega
theorem Inv.tuple(I:Inv X ad σ H s)(h:bc X.K H a xs):∃its:aG,Vals xs its/\IsTup s.heap a its.toArray/\xs.length<=sizeLine:=by
 rcases h with h|⟨o,its,n,hk,hc,hs,hz,r⟩
 .obtain⟨z,its,r,p⟩:=h.ok I.bS;exact⟨its,r,p,z⟩
 .refine⟨its.toList,r,⟨o,I.jO a o hk,hc,n,by simpa using hs⟩,?_⟩;have e:=r.length;simp only[zA] at e;omega
theorem Inv.Ms(I:Inv X ad σ H s)(h:cF X.K H a xs)(h' :cF X.K H a ys):xs=ys:=by
 obtain⟨its,r,⟨o,n,e,_,_,d⟩,_⟩:=I.list h;obtain⟨its',r',⟨o',n',e',_,_,d'⟩,_⟩:=I.list h';rw[e] at e';cases e'
 rw[d] at d';injection d' with d1 _;have:its=its' :=by simpa using congrArg Array.toList d1
 subst this;exact r.inj r'
theorem Inv.Lf(I:Inv X ad σ H s)(h:bc X.K H a xs)(h' :bc X.K H a ys):xs=ys:=by
 obtain⟨its,r,⟨o,e,_,n,d⟩,_⟩:=I.tuple h;obtain⟨its',r',⟨o',e',_,n',d'⟩,_⟩:=I.tuple h';rw[e] at e';cases e'
 rw[d] at d';injection d' with d1 _;have:its=its' :=by simpa using congrArg Array.toList d1
 subst this;exact r.inj r'
end
noncomputable abbrev Cx.BY(X:Cx)(E:J'):Cx:={X with xe:=E}
noncomputable abbrev Cx.KD(X:Cx):Cx:=X.BY λ_ _=>False
theorem Cx.Ok.BY{X:Cx}(ok:X.Ok)(E:J'):(X.BY E).Ok:=
 ⟨ok.mod,ok.kind,ok.glob,ok.blt,ok.above,ok.inj,ok.has,ok.Ru,ok.hd,ok.frames,ok.PM,ok.exf,ok.bs,ok.Kv,ok.IW,ok.Kz,ok.sF,ok.O8⟩
theorem Cx.Ok.pY{X:Cx}{E:J'}(ok:(X.BY E).Ok):X.Ok:=
 ⟨ok.mod,ok.kind,ok.glob,ok.blt,ok.above,ok.inj,ok.has,ok.Ru,ok.hd,ok.frames,ok.PM,ok.exf,ok.bs,ok.Kv,ok.IW,ok.Kz,ok.sF,ok.O8⟩
section
variable{X:Cx}{ad:aQ}{σ:St}{H:Hp}{s:R'}{E:J'}
theorem Inv.BY(I:Inv X ad σ H s)(E:J'):Inv (X.BY E) ad σ H s:=⟨I.ok.BY E,I.os,I.bare,I.base,I.loc,I.cell,I.free,I.jR,I.pin,I.bS,I.len⟩
theorem Inv.pY(I:Inv (X.BY E) ad σ H s):Inv X ad σ H s:=⟨I.ok.pY,I.os,I.bare,I.base,I.loc,I.cell,I.free,I.jR,I.pin,I.bS,I.len⟩
theorem SP.pY{D:Ends}{f:Flow}{s' :R'}(h:SP (X.BY E) ad D f s'):SP X ad D f s' :=by
 cases f with
 |next=>obtain⟨fD,H',I,q⟩:=h;exact⟨fD,H',I.pY,q⟩
 |brk=>obtain⟨fD,H',I,q⟩:=h;exact⟨fD,H',I.pY,q⟩
 |cont=>obtain⟨fD,H',I,q⟩:=h;exact⟨fD,H',I.pY,q⟩
 |ret u=>obtain⟨v,fD,H',I,r,q⟩:=h;exact⟨v,fD,H',I.pY,r,q⟩
theorem CW.KD{st:List Stmt}{t:TS}(h:CW X.KD st t):CW X st t:=λad s σ H D I hw=>
 fV (h ad s σ H D (I.BY _) hw) (λ_ _ q=>q.pY) λ_ _ z=>False.elim z
end
section
variable{X:Cx}{st:Stmt}{rest:List Stmt}{t u:TS}{e:V'}{te:TE}{pos:Pos}
def Oj:TS:=λD σ H=>D.nx σ H
def Gu(t u:TS):TS:=λD σ H=>t {D with nx:=u D} σ H
theorem bf:CW X [] Oj:=λ_ _ σ H _ I h=>zq ⟨σ,H,I,h⟩
theorem aj(h1:PS X st t)(h2:CW X rest u):CW X (st::rest) (Gu t u):=by
 intro ad s σ H D I h;refine wpAny_execs_cons (dk (h1 ad s σ H {D with nx:=u D} I h) λf s1 q=> ?_)
 cases f with
 |next=>
  obtain⟨fD,H',I',q⟩:=q;exact h2 ad s1 fD H' D I' q
 |ret v=>exact q
 |brk=>exact q
 |cont=>exact q
theorem aq(h1:PS X st t):CW X [st] t:=by
 intro ad s σ H D I h;refine wpAny_execs_cons (dk (h1 ad s σ H D I h) λf s1 q=> ?_)
 cases f with
 |next=>exact zq q
 |ret v=>exact q
 |brk=>exact q
 |cont=>exact q
theorem Inv.quiet{ad:aQ}{σ:St}{H:Hp}{s:R'}(I:Inv X ad σ H s):interactive X.env=false:=by simp[interactive,I.ok.kind]
def Mu(te:TE):TS:=λD σ H=>te σ H λ_ H1=>D.nx σ H1
theorem bZ(he:PE X e te)(hs:swapsWith e none pos.line X.env=pure false:=by rfl):PS X (.Expr e pos) (Mu te):=by
 intro ad s σ H D I h;exact wpAny_Expr_any (dk (he ad s σ H _ I h) λv s1 ⟨x,H1,I1,r1,q1⟩=>⟨σ,H1,I1,q1⟩) I.quiet hs
def Wf(te:TE):TS:=λD σ H=>te σ H D.rt
theorem aH(he:PE X e te):PS X (.Return (some e) pos) (Wf te):=by
 intro ad s σ H D I h;exact wpAny_Return_some (dk (he ad s σ H _ I h) λv s1 ⟨x,H1,I1,r1,q1⟩=>⟨x,σ,H1,I1,r1,q1⟩)
def XR(c:TT)(t u:TS):TS:=λD σ H=>c σ H λb H1=>if b=true then t D σ H1 else u D σ H1
theorem bU{c:V'}{a b:List Stmt}{tc:TT}(hc:PT X c tc)(ha:CW X a t)(hb:CW X b u):PS X (.If c a b pos) (XR tc t u):=by
 intro ad s σ H D I h;refine wpAny_If (dk (hc ad s σ H _ I h) λd s1 ⟨H1,I1,q1⟩=> ?_)
 cases d with
 |true=>exact ha ad s1 σ H1 D I1 q1
 |false=>exact hb ad s1 σ H1 D I1 q1
end
abbrev TG:=V->St->Hp->(St->Hp->Prop)->Prop
abbrev Ua:=ak->St->Hp->(St->Hp->Prop)->Prop
def PG(X:Cx)(target:V')(t:TG):Prop:=
 ∀(ad:aQ) (s:R') (σ:St) (H:Hp) (v:V) (u:M') (Q:St->Hp->Prop),Inv X ad σ H s->RelV v u->t v σ H Q->
  wpAny (model X.prog X.w) X.A (assign target X.env u) (λ_ s' =>∃fD H',Inv X ad fD H' s'/\Q fD H') X.xe s
def PGs(X:Cx)(ts:b7)(t:Ua):Prop:=
 ∀(ad:aQ) (s:R') (σ:St) (H:Hp) (vs:ak) (us:aG) (Q:St->Hp->Prop),Inv X ad σ H s->Vals vs us->t vs σ H Q->
  wpAny (model X.prog X.w) X.A (assignInOrder ((assignEach ts X.env).map (·.2)) us) (λ_ s' =>∃fD H',Inv X ad fD H' s'/\Q fD H') X.xe s
abbrev WJ:=V->V->V->Hp->(Hp->Prop)->Prop
def ZH(X:Cx)(t:WJ):Prop:=
 ∀(ad:aQ) (s:R') (σ:St) (H:Hp) (o i v:V) (ov iv u:M') (Q:Hp->Prop),Inv X ad σ H s->RelV o ov->RelV i iv->RelV v u->t o i v H Q->
  wpAny (model X.prog X.w) X.A (setItem ov iv u) (λ_ s' =>∃H',Inv X ad σ H' s'/\Q H') X.xe s
abbrev TIp:=V->V->Hp->VK->Prop
def PIp(X:Cx)(op:Operator)(t:TIp):Prop:=
 ∀(ad:aQ) (s:R') (σ:St) (H:Hp) (x y:V) (v u:M') (Q:VK),Inv X ad σ H s->RelV x v->RelV y u->t x y H Q->
  wpAny (model X.prog X.w) X.A (inplaceOp op v u) (EP X ad σ Q) X.xe s
section
variable{X:Cx}{pos:Pos}
def vJ(i:Nat):TG:=λv σ H Q=>Q (σ.set i (some v)) H
theorem QH{i:Nat}{x:Str}(hN:X.N.Nodup)(hi:X.N[i]? =some x)(hx:Loc X.env.scope x)(hf:X.fn x=true\/X.env.scope.names.lookup x=some .local:=by first|exact .inl rfl|exact .inr rfl|assumption):PG X (.Name x pos) (vJ i):=by
 intro ad s σ H v u Q I r h;exact wpAny_assign_Name (nO I hN hi hx r (λs' I' =>⟨_,H,I',h⟩) hf)
def ads:Ua:=λvs σ H Q=>vs=[]/\Q σ H
def ZQ(t:TG)(u:Ua):Ua:=λvs σ H Q=>∃v r,vs=v::r/\t v σ H λfD H' =>u r fD H' Q
theorem mV:PGs X [] ads:=by
 intro ad s σ H vs us Q I r h;obtain⟨e,h⟩:=h;subst e;cases r;exact assignInOrder_nil ⟨σ,H,I,h⟩
theorem cY{e:V'}{es:b7}{t:TG}{u:Ua}(h1:PG X e t)(h2:PGs X es u)
 (hs:(assignEach (e::es) X.env).map (·.2)=assign e X.env::(assignEach es X.env).map (·.2):=by rfl):PGs X (e::es) (ZQ t u):=by
 intro ad s σ H vs us Q I r h;obtain⟨v,vr,e1,h⟩:=h;subst e1
 cases r with
 |cons r rr=>
  rw[hs];refine assignInOrder_cons (dk (h1 ad s σ H _ _ _ I r h) λ_ s1 ⟨σ1,H1,I1,q1⟩=> ?_);exact h2 ad s1 σ1 H1 _ _ Q I1 rr q1
def aaj(K:Frag)(n:Nat)(t:Ua):TG:=λv σ H Q=>∃a xs,v= .ref a/\bc K H a xs/\xs.length=n/\t xs σ H Q
theorem xr{es:b7}{k:Nat}{t:Ua}{n:Nat}(hc:X.calm=true)(h:PGs X es t)
 (hn:(assignEach es X.env).length=n:=by rfl) (sY:(assignEach es X.env).findIdx? (·.1)=none:=by rfl):PG X (.Tuple es k pos) (aaj X.K n t):=by
 intro ad s σ H v u Q I r hw;obtain⟨a,xs,e1,hq,hl,hw⟩:=hw;subst e1;cases r;obtain⟨its,rv,ht,hz⟩:=I.tuple hq;refine assign_Tuple_tuple (I.ok.hd hc) ht (by simp[hn,<-hl,rv.length]) sY λh' hx=> ?_;have I1:Inv X ad σ H {s with heap:=h'}:=I.kept (t' :=s.toks) λb o e=>hx b o (cJ (a_ e)) e;exact h ad _ σ H xs _ Q I1 (by simpa using rv) hw
def aed(to ti:TE)(t:WJ):TG:=λv σ H Q=>to σ H λo H1=>ti σ H1 λi H2=>t o i v H2 λH3=>Q σ H3
theorem Ef{o i:V'}{to ti:TE}{t:WJ}(ho:PE X o to)(hi:PE X i ti)(hs:ZH X t)
 (ha:∀v,assign (.Subscript o i pos) X.env v=(do
  let ov<-holding [v] (eval o X.env)
  let iv<-holding [v,ov] (eval i X.env)
  standAt pos
  holding [v,ov,iv] (setItem ov iv v)
  release [v,ov,iv] []):=by intro _;rfl):PG X (.Subscript o i pos) (aed to ti t):=by
 intro ad s σ H v u Q I r h;rw[ha];refine aw (kh (dk (ho ad s σ H _ I h) λov s1 ⟨x,H1,I1,r1,q1⟩=> ?_));refine aw (kh (dk (hi ad s1 σ H1 _ I1 q1) λiv s2 ⟨y,H2,I2,r2,q2⟩=> ?_));refine aw (qB (aw (kh (dk (hs ad s2 σ H2 x y v ov iv u _ I2 r1 r2 r q2) λ_ s3 ⟨H3,I3,q3⟩=> ?_))));exact wpAny_release ⟨σ,H3,I3,q3⟩
def Gr(te:TE)(g:TG):TS:=λD σ H=>te σ H λx H1=>g x σ H1 D.nx
theorem BE{tg e:V'}{te:TE}{g:TG}(he:PE X e te)(hg:PG X tg g)(hs:swapsWithSole [tg] e pos.line X.env=pure false:=by rfl)(hw:swappedStores [tg] e X.env=pure none:=by rfl)
 (h1:(assignEach [tg] X.env).map (·.2)=[assign tg X.env]:=by rfl):PS X (.Assign [tg] e pos) (Gr te g):=by
 intro ad s σ H D I h;refine wpAny_Assign_stores (dk (he ad s σ H _ I h) λv s1 ⟨x,H1,I1,r1,q1⟩=> ?_) hs hw;rw[h1];exact dk (hg ad s1 σ H1 x v _ I1 r1 q1) λ_ s2 q=>q
theorem MO{i:Nat}{x:Str}{e:V'}{te:TE}{pos' :Pos}(hN:X.N.Nodup)(hi:X.N[i]? =some x)(hx:Loc X.env.scope x)(he:PE X e te)(hs:swapsWith e (some (.Name x pos')) pos.line X.env=pure false:=by rfl)(hf:X.fn x=true\/X.env.scope.names.lookup x=some .local:=by first|exact .inl rfl|exact .inr rfl|assumption):
 PS X (.Assign [.Name x pos'] e pos) (Gr te (vJ i)):=by
 intro ad s σ H D I h;refine wpAny_Assign_Name (dk (he ad s σ H _ I h) λv s1 ⟨y,H1,I1,r1,q1⟩=> ?_) hs;exact nO I1 hN hi hx r1 (λs2 I2=>⟨_,H1,I2,q1⟩) hf
def afn(i j:Nat)(ta:TA):TS:=λD σ H=>ta σ H λvs H1=>∃v w,vs=[v,w]/\D.nx ((σ.set i (some v)).set j (some w)) H1
theorem Jg{i j:Nat}{x y:Str}{a b:V'}{ta:TA}{px py pt:Pos}{kt k2 pt2}(hc:X.calm=true)(hN:X.N.Nodup)(hi:X.N[i]? =some x)(hj:X.N[j]? =some y)(hij:i≠j)
 (hx:X.env.scope.names.lookup x=some .local) (hy:X.env.scope.names.lookup y=some .local) (ha:PA X [a,b] ta)
 (hw:swappedStores [.Tuple [.Name x px,.Name y py] kt pt] (.Tuple [a,b] k2 pt2) X.env=pure (some [x,y]))
 (hs:swapsWithSole [.Tuple [.Name x px,.Name y py] kt pt] (.Tuple [a,b] k2 pt2) pos.line X.env=pure false:=by rfl):
 PS X (.Assign [.Tuple [.Name x px,.Name y py] kt pt] (.Tuple [a,b] k2 pt2) pos) (afn i j ta):=by
 intro ad s σ H D I h;rw[exec_Assign_arm];refine aw (qB ?_);rw[hs];refine aw (aY ?_);rw[ax (by decide)];refine aw (Tuple_ (dk (ha _ ad s σ H _ I h) λus s1 ⟨vs,H1,I1,r1,q1⟩=> ?_));obtain⟨v,w,e1,q1⟩:=q1;subst e1
 obtain⟨u1,u2,rfl,rv,Mw⟩:∃u1 u2,us=[u1,u2]/\RelV v u1/\RelV w u2:=by
  cases r1 with
  |cons p q=>
   cases q with
   |cons p' q' =>
    cases q';exact⟨_,_,Z,p,p'⟩
 refine oU ?_ (by show 2<=sizeLine;decide);have I2:Inv X ad σ H1 {s1 with heap:=s1.heap.push {cls:= .type "tuple",data:= .seq [u1,u2].toArray}}:=I1.kept (t' :=s1.toks) λb o e=>bq _ e;rw[hw];refine aw (aY ?_);show wpAny (model X.prog X.w) X.A (do rule "assign.swapped-stores";let items<-unpackItems (.ref s1.heap.objs.size) 2 none;assignInOrder [λv=>bindName X.env y v,λv=>bindName X.env x v] items.reverse;pure Flow.next) _ _ _;refine aw (si (aw (unpackItems_tuple (items:= #[u1,u2]) (I.ok.hd hc) (IsTup.new s1.heap _) λh' OJ => ?_)));have I3:=I2.kept (h' :=h') (t' :=s1.toks) λb o e=>OJ b o (cJ (a_ e)) e;show wpAny _ _ (assignInOrder [λv=>bindName X.env y v,λv=>bindName X.env x v] [u2,u1]>>= λ_=>pure Flow.next) _ _ _;refine aw (assignInOrder_cons (wpAny_bindName (nO I3 hN hj (.inl hy) Mw (λs2 I4=> ?_) (.inr hy))));refine assignInOrder_cons (wpAny_bindName (nO I4 hN hi (.inl hx) rv (λs3 I5=>assignInOrder_nil (aY ?_)) (.inr hx)));rw[List.set_comm _ _ (ck hij)] at I5;exact⟨_,H1,I5,q1⟩
def ae5(i:Nat)(te:TE)(ti:TIp):TS:=λD σ H=>∃x,σ[i]? =some (some x)/\te σ H λy H1=>ti x y H1 λz H2=>D.nx (σ.set i (some z)) H2
theorem Hl{i:Nat}{x:Str}{e:V'}{te:TE}{op:Operator}{ti:TIp}{pos' :Pos}(hN:X.N.Nodup)(hi:X.N[i]? =some x)(hx:Loc X.env.scope x)(he:PE X e te)(ho:PIp X op ti)(hf:X.fn x=true\/X.env.scope.names.lookup x=some .local:=by first|exact .inl rfl|exact .inr rfl|assumption):
 PS X (.AugAssign (.Name x pos') op e pos) (ae5 i te ti):=by
 intro ad s σ H D I h;obtain⟨v,e1,h⟩:=h;obtain⟨m,hn,hl⟩:=I.loc
 have vis:Vis X.env.scope x:=by rcases hx with k|k;exact .inl k;exact .inr (.inl k)
 obtain⟨u,r,l⟩:=hl i x v hi e1 vis;refine wpAny_AugAssign_Name ?_
 have go:wpAny (model X.prog X.w) X.A (eval e X.env) (λw uO=>wpAny (model X.prog X.w) X.A (inplaceOp op u w) (λr yS=>wpAny (model X.prog X.w) X.A (storeName X.env x r) (λ_=>SP X ad D .next) X.xe yS) X.xe uO) X.xe s:=by
  refine dk (he ad s σ H _ I h) λw s1 ⟨y,H1,I1,r1,q1⟩=> ?_;refine dk (ho ad s1 σ H1 v y u w _ I1 r r1 q1) λz s2 ⟨zv,H2,I2,r2,q2⟩=> ?_;exact nO I2 hN hi hx r2 (λs3 I3=>⟨_,H2,I3,q2⟩) hf
 rcases l with⟨hk,hm⟩|⟨hk,c,hc,JR⟩
 .exact wpAny_loadName_local I.ok.kind hk hn hm go
 .rcases hk with hk|hk
  .exact wpAny_loadName_cell I.ok.kind hk hc JR go
  .rcases hx with k|k
   .have:X.env.scope.names.lookup x=some .free:=hk;rw[k] at this;cases this
   .have:X.env.scope.names.lookup x=some .free:=hk;rw[k] at this;cases this
def ipI(f:Int->Int->Int):TIp:=λx y H Q=>∃i j,x= .int i/\y= .int j/\Q (.int (f i j)) H
theorem Ih:PIp X .Add (ipI λi j=>i+j):=by
 intro ad s σ H x y v u Q I r1 r2 h;obtain⟨i,j,e1,e2,q⟩:=h;subst e1;subst e2
 obtain⟨t,rfl⟩:=r1;obtain⟨t',rfl⟩:=r2;exact iadd_int ⟨.int _,H,I.tok _,⟨_,Z⟩,q⟩
end
section
variable{X:Cx}{pos:Pos}
end
structure It where
 go:Nat->Hp->Prop
 BM:Nat->Hp->V->Hp->Prop
 stop:Nat->Hp->Prop
def BV(X:Cx)(ad:aQ)(H:Hp)(b:S'):Prop:=
 H b=none/\b≠X.env.locals/\b∉X.fs/\(b∈X.ex\/X.fO.heap.objs.size<=b)/\(∀x c,X.env.cells.lookup x=some c->c≠b)/\∀p∈X.pn++ad,p.1≠b
theorem Inv.ID{X:Cx}{ad:aQ}{σ:St}{H H' :Hp}{s:R'}{b:S'}(I:Inv X ad σ H s)(hb:s.heap.objs.size<=b)(hn:H' b=none):BV X ad H' b:=by
 refine⟨hn,jD (cP I.lt hb),I.afk hb,.inr (aU I.sz hb),λx c e z=> ?_,λp hp z=> ?_⟩
 .obtain⟨v,q⟩:=I.cell x c e;exact absurd (cP q.lt (by rw[z];exact hb)) (cA _)
 .exact absurd (cP (a_ (I.pin p hp).1) (by rw[z];exact hb)) (cA _)
structure Turn(P:Z')(w:W')(K:Frag)(tg:V')(J:It)(fp:cc)(it:S')(tn:Nat->Y'->Prop):Prop where
 mem:it∈fp
 obj:∀i h,tn i h->∀b∈fp,∃o,h.get? b=some o/\∀v,o.data≠.cell v
 keep:∀i h h',tn i h->(∀b∈fp,∀o,h.get? b=some o->h'.get? b=some o)->tn i h'
 item:∀(X:Cx),X.prog=P->X.w=w->X.K=K->X.calm=true->∀(i:Nat) (ad:aQ) (s:R') (σ:St) (H:Hp) (E:J'),Inv X ad σ H s->(∀b∈fp,BV X ad H b)->tn i s.heap->J.go i H->
  wpAny (model P w) X.A (pyNext (.ref it)) (λr s1=>∃u,r=some u/\
   wpAny (model P w) X.A (letOwnedTupleGo tg (.ref it) u) (λ_ s2=>∃x H',Inv X ad σ H' s2/\RelV x u/\J.BM i H x H'/\tn (i+1) s2.heap/\∀b∈fp,H' b=none) E s1) E s
 done:∀(X:Cx),X.prog=P->X.w=w->X.K=K->X.calm=true->∀(i:Nat) (ad:aQ) (s:R') (σ:St) (H:Hp) (E:J'),Inv X ad σ H s->(∀b∈fp,BV X ad H b)->tn i s.heap->J.stop i H->
  wpAny (model P w) X.A (pyNext (.ref it)) (λr s1=>r=none/\Inv X ad σ H s1) E s
 self:∀(A:X') (i:Nat) (s:R') (Q:J') (E:J'),tn i s.heap->Q (.ref it) s->wpAny (model P w) A (pyIter (.ref it)) Q E s
abbrev TI:=St->Hp->(It->Hp->Prop)->Prop
def PIE(X:Cx)(ad:aQ)(σ:St)(tg:V')(R:It->Hp->Prop)(itv:M')(s2:R'):Prop:=
 ∃(it:S') (fp:cc) (tn:Nat->Y'->Prop) (J:It) (H' :Hp),itv= .ref it/\Inv X ad σ H' s2/\Turn X.prog X.w X.K tg J fp it tn/\tn 0 s2.heap/\(∀b∈fp,BV X ad H' b)/\R J H'
def PI(X:Cx)(tg iter:V')(wi:TI):Prop:=
 ∀(ad:aQ) (s:R') (σ:St) (H:Hp) (R:It->Hp->Prop),Inv X ad σ H s->wi σ H R->
  wpAny (model X.prog X.w) X.A (eval iter X.env) (λv s1=>wpAny (model X.prog X.w) X.A (pyIter v) (PIE X ad σ tg R) X.xe s1) X.xe s
theorem Mr{M:Model}{A:X'}{E:J'}{s:R'}{tg:V'}{it:S'}{u:M'}{o:Obj}{n:String}{vs:Array M'}{Q:Unit->R'->Prop}(ho:s.heap.get? it=some o)(hc:o.cls= .type n)(hd:o.data= .fields vs)
 (hn:["enumerate","zip","dict_itemiterator","dict_reverseitemiterator","odict_iterator","itertools.zip_longest","itertools.pairwise"].contains n=false) (hQ:Q () s):wpAny M A (letOwnedTupleGo tg (.ref it) u) Q E s:=by
 unfold letOwnedTupleGo
 cases tg<;>first
  |exact aY hQ
  |(cases u<;>first
   |exact aY hQ
   |(refine aw (wpAny_load ho ?_)
     rw[hc,hd];show wpAny M A (if(["enumerate","zip","dict_itemiterator","dict_reverseitemiterator","odict_iterator","itertools.zip_longest","itertools.pairwise"].contains n&&vs[0]? ==some (rawInt _))=true then _ else _) Q E s;rw[ax (by intro h;rw[hn,nE] at h;cases h)];exact aY hQ))
noncomputable def VC(K:Frag)(a:S'):It:=
 ⟨λi H=>∃xs x,cF K H a xs/\xs[i]? =some x,λi H x H' =>H' =H/\∀xs,cF K H a xs->xs[i]? =some x,λi H=>∃xs,cF K H a xs/\xs.length<=i⟩
noncomputable def Wj(K:Frag)(a:S'):It:=
 ⟨λi H=>∃xs x,bc K H a xs/\xs[i]? =some x,λi H x H' =>H' =H/\∀xs,bc K H a xs->xs[i]? =some x,λi H=>∃xs,bc K H a xs/\xs.length<=i⟩
noncomputable def Ss(lo:Int)(n:Nat):It:=⟨λi _=>i<n,λi H x H' =>H' =H/\x= .int (lo+i),λi _=>n<=i⟩
theorem Dg{P:Z'}{w:W'}{K:Frag}{tg:V'}(a it:S'):Turn P w K tg (VC K a) [it] it (λi h=>h.IsListIter it a i) where
 mem:=by simp
 obj:=λi h st b hb=>by
  have e:b=it:=by simpa using hb
  subst e;obtain⟨o,e,c,d⟩:=st;exact⟨o,e,λv z=>by rw[d] at z;cases z⟩
 keep:=λi h h' st k=>st.at λo e=>k it (by simp) o e
 item:=by
  intro X hP hw hK hc i ad s σ H E I hf st hg;subst hP hw hK;obtain⟨xs,x,hq,hx⟩:=hg;obtain⟨its,rv,p,hz⟩:=I.list hq;obtain⟨u,hu,ru⟩:=rv.get hx;obtain⟨f0,f1,f2,f3,f4,f5⟩:=hf it (by simp);refine wpAny_pyNext_list_item st p.isList (x:=u) (by simpa using hu) λh' Pf sb=> ?_;have I1:Inv X ad σ H {s with heap:=h'}:=I.turned (t' :=s.toks) (λb o hb e=>(sb.2 b hb).trans e) f0 f1 f3 f4 f5;obtain⟨o,e,c,d⟩:=id Pf;exact⟨u,Z,Mr (s:={s with heap:=h'}) e c d (by decide) ⟨x,H,I1,ru,⟨Z,λys hy=>by rw[I.Ms hy hq];exact hx⟩,Pf,λb hb=>(hf b hb).1⟩⟩
 done:=by
  intro X hP hw hK hc i ad s σ H E I hf st hg;subst hP hw hK;obtain⟨xs,hq,hx⟩:=hg;obtain⟨its,rv,p,hz⟩:=I.list hq;obtain⟨f0,f1,f2,f3,f4,f5⟩:=hf it (by simp);have hl:=rv.length;exact wpAny_pyNext_list_end (I.ok.hd hc) st p.isList (by simp;omega) λh' eb=>⟨Z,I.turned (t' :=s.toks) (λb o hb e=>eb b o hb e) f0 f1 f3 f4 f5⟩
 self:=λ_ _ _ _ _ st h=>wpAny_pyIter_listiter st h
theorem A4{P:Z'}{w:W'}{K:Frag}{tg:V'}(a it:S'):Turn P w K tg (Wj K a) [it] it (λi h=>h.IsTupleIter it a i) where
 mem:=by simp
 obj:=λi h st b hb=>by
  have e:b=it:=by simpa using hb
  subst e;obtain⟨o,e,c,d⟩:=st;exact⟨o,e,λv z=>by rw[d] at z;cases z⟩
 keep:=λi h h' st k=>st.at λo e=>k it (by simp) o e
 item:=by
  intro X hP hw hK hc i ad s σ H E I hf st hg;subst hP hw hK;obtain⟨xs,x,hq,hx⟩:=hg;obtain⟨its,rv,p,hz⟩:=I.tuple hq;obtain⟨u,hu,ru⟩:=rv.get hx;obtain⟨f0,f1,f2,f3,f4,f5⟩:=hf it (by simp);refine wpAny_pyNext_tuple_item st (show s.heap.IsTuple a its.toArray from p) (x:=u) (by simpa using hu) λh' Pf sb=> ?_;have I1:Inv X ad σ H {s with heap:=h'}:=I.turned (t' :=s.toks) (λb o hb e=>(sb.2 b hb).trans e) f0 f1 f3 f4 f5;obtain⟨o,e,c,d⟩:=id Pf;exact⟨u,Z,Mr (s:={s with heap:=h'}) e c d (by decide) ⟨x,H,I1,ru,⟨Z,λys hy=>by rw[I.Lf hy hq];exact hx⟩,Pf,λb hb=>(hf b hb).1⟩⟩
 done:=by
  intro X hP hw hK hc i ad s σ H E I hf st hg;subst hP hw hK;obtain⟨xs,hq,hx⟩:=hg;obtain⟨its,rv,p,hz⟩:=I.tuple hq;obtain⟨f0,f1,f2,f3,f4,f5⟩:=hf it (by simp);have hl:=rv.length;exact wpAny_pyNext_tuple_end (I.ok.hd hc) st (show s.heap.IsTuple a its.toArray from p) (by simp;omega) λh' eb=>⟨Z,I.turned (t' :=s.toks) (λb o hb e=>eb b o hb e) f0 f1 f3 f4 f5⟩
 self:=λ_ _ _ _ _ st h=>wpAny_pyIter_tupleiter st h
theorem Hn{P:Z'}{w:W'}{K:Frag}{tg:V'}(it:S')(lo:Int)(n:Nat):Turn P w K tg (Ss lo n) [it] it (λi h=>IsRangeIter h it (lo+(i:Nat)*1) ((n:Int) - (i:Nat)) 1) where
 mem:=by simp
 obj:=λi h st b hb=>by
  have e:b=it:=by simpa using hb
  subst e
  exact⟨_,st,λv z=>by
   have z' :Data.fields _=Data.cell v:=z;cases z'⟩
 keep:=λi h h' st k=>k it (by simp) _ st
 item:=by
  intro X hP hw hK hc i ad s σ H E I hf st hg;subst hP hw hK;obtain⟨f0,f1,f2,f3,f4,f5⟩:=hf it (by simp);have W:=Walks.range (prog:=X.prog) (w:=X.w) (I.ok.hd hc) it lo 1 n;refine W.item i s _ _ hg st λv h' tk hv Pf kk=> ?_;obtain⟨t,rfl⟩:=hv;have I1:Inv X ad σ H {s with heap:=h',toks:=tk}:=I.turned (λb o hb e=>kk b o (by simpa using hb) e) f0 f1 f3 f4 f5;refine⟨_,Z,Mr (s:={s with heap:=h',toks:=tk}) (n:="range_iterator") Pf Z Z (by decide) ⟨.int (lo+i),H,I1,⟨t,?_⟩,⟨Z,Z⟩,Pf,λb hb=>(hf b hb).1⟩⟩;rw[Int.mul_one]
 done:=by
  intro X hP hw hK hc i ad s σ H E I hf st hg;subst hP hw hK;obtain⟨f0,f1,f2,f3,f4,f5⟩:=hf it (by simp);exact wpAny_pyNext_range_end (I.ok.hd hc) st (by have:n<=i:=hg;omega) λh' eb=>⟨Z,I.turned (t' :=s.toks) (λb o hb e=>eb b o hb e) f0 f1 f3 f4 f5⟩
 self:=λ_ _ _ _ _ st h=>wpAny_pyIter_rangeiter st h
section
variable{X:Cx}{tg:V'}
def Zz(K:Frag)(tl:TE):TI:=λσ H R=>tl σ H λx H1=>∃a,x= .ref a/\(∃xs,cF K H1 a xs)/\R (VC K a) H1
def adR(K:Frag)(tl:TE):TI:=λσ H R=>tl σ H λx H1=>∃a,x= .ref a/\(∃xs,bc K H1 a xs)/\R (Wj K a) H1
theorem ff{l:V'}{tl:TE}(hl:PE X l tl):PI X tg l (Zz X.K tl):=by
 intro ad s σ H R I h;refine dk (hl ad s σ H _ I h) λv s1 ⟨x,H1,I1,r1,q1⟩=> ?_;obtain⟨a,e,⟨xs,hq⟩,q⟩:=q1;subst e;cases r1;obtain⟨its,rv,p,hz⟩:=I1.list hq;refine vS p.isList ?_;refine⟨s1.heap.objs.size,[s1.heap.objs.size],_,_,H1,Z,I1.kept (t' :=s1.toks) λb o e=>bq _ e,Dg a _,⟨_,cV _ Z,Z,Z⟩,λb hb=> ?_,q⟩;have e:b=s1.heap.objs.size:=by simpa using hb
 subst e;exact I1.ID (aK _) (I1.bS.fresh (aK _))
theorem Bm{l:V'}{tl:TE}(hl:PE X l tl):PI X tg l (adR X.K tl):=by
 intro ad s σ H R I h;refine dk (hl ad s σ H _ I h) λv s1 ⟨x,H1,I1,r1,q1⟩=> ?_;obtain⟨a,e,⟨xs,hq⟩,q⟩:=q1;subst e;cases r1;obtain⟨its,rv,p,hz⟩:=I1.tuple hq;refine zF (show s1.heap.IsTuple a its.toArray from p) ?_;refine⟨s1.heap.objs.size,[s1.heap.objs.size],_,_,H1,Z,I1.kept (t' :=s1.toks) λb o e=>bq _ e,A4 a _,⟨_,cV _ Z,Z,Z⟩,λb hb=> ?_,q⟩;have e:b=s1.heap.objs.size:=by simpa using hb
 subst e;exact I1.ID (aK _) (I1.bS.fresh (aK _))
theorem M5{ad:aQ}{σ:St}{H:Hp}{s:R'}{R:It->Hp->Prop}{E:J'}{lo hi:Int}{t u v:Tok}{tk:Nat}(I:Inv X ad σ H s)(h1: -(2 ^ 62)<=lo)(h2:lo<2 ^ 62)(h3: -(2 ^ 62)<=hi)(h4:hi<2 ^ 62)
 (q:R (Ss lo (hi - lo).toNat) H):wpAny (model X.prog X.w) X.A (pyIter (.ref s.heap.objs.size)) (PIE X ad σ tg R) E {s with heap:=s.heap.push {cls:= .type "range",data:= .fields #[.int lo t,.int hi u,.int 1 v]},toks:=tk}:=by
 refine wpAny_pyIter_range (IsRange.new ..) (small_one h1 h2 h3 h4) ?_;have I1:Inv X ad σ H {s with heap:=s.heap.push {cls:= .type "range",data:= .fields #[.int lo t,.int hi u,.int 1 v]},toks:=tk}:=I.kept λb o e=>bq _ e
 refine⟨(s.heap.push {cls:= .type "range",data:= .fields #[.int lo t,.int hi u,.int 1 v]}).objs.size,[(s.heap.push {cls:= .type "range",data:= .fields #[.int lo t,.int hi u,.int 1 v]}).objs.size],_,_,H,Z,
  I1.kept (t' :=tk) λb o e=>bq _ e,Hn _ lo (hi - lo).toNat,?_,λb hb=> ?_,q⟩
 .have e1:lo+((0:Nat):Int)*1=lo:=by simp
  have e2:(((hi - lo).toNat:Nat):Int) - ((0:Nat):Int)=Builtin.Range.rangeSize lo hi 1:=by rw[rangeSize_one];split<;>omega
  show IsRangeIter _ _ (lo+((0:Nat):Int)*1) ((((hi - lo).toNat:Nat):Int) - ((0:Nat):Int)) 1;rw[e1,e2];exact cV _ rfl
 .have e:b=(s.heap.push {cls:= .type "range",data:= .fields #[.int lo t,.int hi u,.int 1 v]}).objs.size:=by simpa using hb
  subst e;exact I1.ID (aK _) (I1.bS.fresh (aK _))
def ZM(ta:TA):TI:=λσ H R=>ta σ H λvs H1=>∃j:Int,vs=[.int j]/\ -(2 ^ 62)<=j/\j<2 ^ 62/\R (Ss 0 j.toNat) H1
theorem gJ{a:V'}{ta:TA}{p pos:Pos}(hg:Gl X "range")(hm:X.mg "range"=none)(ha:PA X [a] ta)(hs:starEach [a] X.env=[(false,eval a X.env)]:=by rfl):PI X tg (.Call (.Name "range" p) [a] [] pos) (ZM ta):=by
 intro ad s σ H R I h;refine Call_ (uH I hg hm boot_range (zK (dk (ha pos ad s σ H _ I h) λus s1 ⟨vs,H1,I1,r1,q1⟩=> ?_) hs Z));obtain⟨j,e,q1,q2,q⟩:=q1;subst e
 cases r1 with
 |cons r rr=>
  cases rr;obtain⟨t,rfl⟩:=r;exact call_range_1 (M5 I1 (by omega) (by omega) q1 q2 (by simpa using q))
def Wy(wi:TI)(g:TG)(tb:TS):TS:=λD σ H=>wi σ H λJ H1=>∃W:Nat->Nat->St->Hp->Prop,(∃m,W 0 m σ H1)/\∀i m σ H,W i m σ H->
 (J.stop i H/\D.nx σ H)\/(J.go i H/\∃N:St->Hp->Prop,(∀fD H',N fD H'->∃m',m' <m/\W (i+1) m' fD H')/\∀x H',J.BM i H x H'->g x σ H' λmY H2=>tb {D with nx:=N,ct:=N,bk:=D.nx} mY H2)
noncomputable def Bv(fp:cc)(h:Y'):aQ:=fp.filterMap λb=>(h.get? b).map λo=>(b,o)
theorem n8{fp:cc}{h:Y'}{b:S'}{o:Obj}(hb:b∈fp)(e:h.get? b=some o):(b,o)∈Bv fp h:=vO.mpr ⟨b,hb,by rw[e];rfl⟩
theorem KU{fp:cc}{h:Y'}{p:S'×Obj}(hp:p∈Bv fp h):p.1∈fp/\h.get? p.1=some p.2:=by
 obtain⟨b,hb,e⟩:=vO.mp hp
 cases q:h.get? b with
 |none=>rw[q] at e;cases e
 |some o=>
  rw[q] at e;have e' :(b,o)=p:=fW e;subst e';exact⟨hb,q⟩
theorem Inv.pinned{ad:aQ}{σ:St}{H:Hp}{s:R'}{fp:cc}(I:Inv X ad σ H s)(hf:∀b∈fp,BV X ad H b)(ho:∀b∈fp,∃o,s.heap.get? b=some o/\∀v,o.data≠.cell v):Inv X (ad++Bv fp s.heap) σ H s:=
 I.Kl λp hp=>(eB.mp hp).elim (λz=>I.pin p (lS _ z)) λz=>by
  obtain⟨hb,e⟩:=KU z;obtain⟨f0,f1,f2,_⟩:=hf p.1 hb;obtain⟨o,e',d⟩:=ho p.1 hb;rw[e] at e';cases e'
  exact⟨e,f0,f1,f2,d⟩
theorem Inv.uY{ad pl:aQ}{σ:St}{H:Hp}{s:R'}(I:Inv X (ad++pl) σ H s):Inv X ad σ H s:=I.Kl λp hp=>I.pin p (lS _ (rK _ hp))
theorem ND{iter:V'}{body:List Stmt}{wi:TI}{g:TG}{tb:TS}{pos:Pos}(hp:PassesOwn (model X.prog X.w) X.A X.env X.xe)(hc:X.calm=true)(hi:PI X tg iter wi)(hg:PG X tg g)(hb:CW X body tb)
 (hs:∀x,foldedSetIterable iter X.env x=pure x:=by intro _;rfl):PS X (.For tg iter body [] pos) (Wy wi g tb):=by
 intro ad s σ H D I h;refine wpAny_For (dk (hi ad s σ H _ I h) λv s1 h1=>dk h1 λitv s2 h2=> ?_) hs;obtain⟨it,fp,tn,J,H2,e,I2,T,Qy,f2,W,⟨m0,w0⟩,turn⟩:=h2;subst e;have IV:∀{H' :Hp},(∀b∈fp,H' b=none)->∀b∈fp,BV X ad H' b:=λhn b hb=>⟨hn b hb,(f2 b hb).2⟩;refine codeAny_forLoop_any (λn s' =>∃i fD H',Inv X ad fD H' s'/\tn i s'.heap/\(∀b∈fp,H' b=none)/\W i n fD H') ?_ m0 ⟨0,σ,H2,I2,Qy,λb hb=>(f2 b hb).1,w0⟩
 rintro n s3 ⟨i,YU,H3,I3,st3,fr3,w3⟩
 rcases turn i n YU H3 w3 with⟨stop,qn⟩|⟨go,N,hN,step⟩
 .refine wu hp (dk (T.done X Z Z Z hc i ad s3 YU H3 X.xe I3 (IV fr3) st3 stop) λr s4 ⟨hr,I4⟩=> ?_);subst hr;exact zq ⟨YU,H3,I4,qn⟩
 .refine wu hp (dk (T.item X Z Z Z hc i ad s3 YU H3 X.xe I3 (IV fr3) st3 go) λr s4 ⟨u,hr,h4⟩=> ?_);subst hr;refine wu hp (dk h4 λ_ s5 ⟨x,H5,I5,r5,y5,Yb,fr5⟩=> ?_);have I5' :=I5.pinned (IV fr5) (T.obj _ _ Yb);refine wu hp (dk (hg _ s5 YU H5 x u _ I5' r5 (step x H5 y5)) λ_ s6 ⟨σ6,H6,I6,q6⟩=> ?_);refine wu hp (dk (hb _ s6 σ6 H6 _ I6 q6) λf s7 q7=> ?_)
  have again:∀{Oz:St} {H7:Hp},Inv X (ad++Bv fp s5.heap) Oz H7 s7->N Oz H7->∃m,m<n/\∃i fD H',Inv X ad fD H' s7/\tn i s7.heap/\(∀b∈fp,H' b=none)/\W i m fD H' :=λ{Oz H7} I7 n7=>by
   obtain⟨m',hm,w7⟩:=hN Oz H7 n7;refine⟨m',hm,i+1,Oz,H7,I7.uY,T.keep _ _ _ Yb λb hb o e=>(I7.pin (b,o) (lS _ (lS _ (n8 hb e)))).1,λb hb=> ?_,w7⟩;obtain⟨o,e,d⟩:=T.obj _ _ Yb b hb;exact(I7.pin (b,o) (lS _ (lS _ (n8 hb e)))).2.1
  cases f with
  |next=>obtain⟨Oz,H7,I7,n7⟩:=q7;exact again I7 n7
  |cont=>obtain⟨Oz,H7,I7,n7⟩:=q7;exact again I7 n7
  |brk=>obtain⟨Oz,H7,I7,q7⟩:=q7;exact⟨Oz,H7,I7.uY,q7⟩
  |ret v=>obtain⟨x7,Oz,H7,I7,r7,q7⟩:=q7;exact⟨x7,Oz,H7,I7.uY,r7,q7⟩
end
theorem jb{K:Frag}{a:S'}{xs:ak}{g:TG}{tb:TS}{D:Ends}{σ:St}{H:Hp}(Pv:Nat->St->Hp->Prop)(h0:Pv 0 σ H)(hl:∀i σ H,i<=xs.length->Pv i σ H->cF K H a xs)
 (hs:∀i x σ H,xs[i]? =some x->Pv i σ H->g x σ H λmY H2=>tb {D with nx:=Pv (i+1),ct:=Pv (i+1),bk:=D.nx} mY H2) (hd:∀σ H,Pv xs.length σ H->D.nx σ H):
 ∃W:Nat->Nat->St->Hp->Prop,(∃m,W 0 m σ H)/\∀i m σ H,W i m σ H->
  ((VC K a).stop i H/\D.nx σ H)\/((VC K a).go i H/\∃N:St->Hp->Prop,(∀fD H',N fD H'->∃m',m' <m/\W (i+1) m' fD H')/\∀x H',(VC K a).BM i H x H'->g x σ H' λmY H2=>tb {D with nx:=N,ct:=N,bk:=D.nx} mY H2):=by
 refine⟨λi m σ H=>m=xs.length - i/\i<=xs.length/\Pv i σ H,⟨xs.length,by simp,cH _,h0⟩,?_⟩
 rintro i m σ H ⟨rfl,hi,p⟩
 have q:=hl i σ H hi p;by_cases kG:i<xs.length
 .refine .inr ⟨⟨xs,xs[i],q,by simp[kG]⟩,Pv (i+1),λfD H' p' =>⟨xs.length - (i+1),by omega,Z,kG,p'⟩,λx H' y=> ?_⟩;obtain⟨e,y⟩:=y;subst e;exact hs i x σ _ (y xs q) p
 .have e:i=xs.length:=by omega
  subst e;exact .inl ⟨⟨xs,q,aK _⟩,hd σ H p⟩
theorem Eh{K:Frag}{a:S'}{xs:ak}{g:TG}{tb:TS}{D:Ends}{σ:St}{H:Hp}(Pv:Nat->St->Hp->Prop)(h0:Pv 0 σ H)(hl:∀i σ H,i<=xs.length->Pv i σ H->bc K H a xs)
 (hs:∀i x σ H,xs[i]? =some x->Pv i σ H->g x σ H λmY H2=>tb {D with nx:=Pv (i+1),ct:=Pv (i+1),bk:=D.nx} mY H2) (hd:∀σ H,Pv xs.length σ H->D.nx σ H):
 ∃W:Nat->Nat->St->Hp->Prop,(∃m,W 0 m σ H)/\∀i m σ H,W i m σ H->
  ((Wj K a).stop i H/\D.nx σ H)\/((Wj K a).go i H/\∃N:St->Hp->Prop,(∀fD H',N fD H'->∃m',m' <m/\W (i+1) m' fD H')/\∀x H',(Wj K a).BM i H x H'->g x σ H' λmY H2=>tb {D with nx:=N,ct:=N,bk:=D.nx} mY H2):=by
 refine⟨λi m σ H=>m=xs.length - i/\i<=xs.length/\Pv i σ H,⟨xs.length,by simp,cH _,h0⟩,?_⟩
 rintro i m σ H ⟨rfl,hi,p⟩
 have q:=hl i σ H hi p;by_cases kG:i<xs.length
 .refine .inr ⟨⟨xs,xs[i],q,by simp[kG]⟩,Pv (i+1),λfD H' p' =>⟨xs.length - (i+1),by omega,Z,kG,p'⟩,λx H' y=> ?_⟩;obtain⟨e,y⟩:=y;subst e;exact hs i x σ _ (y xs q) p
 .have e:i=xs.length:=by omega
  subst e;exact .inl ⟨⟨xs,q,aK _⟩,hd σ H p⟩
theorem nU{lo:Int}{n:Nat}{g:TG}{tb:TS}{D:Ends}{σ:St}{H:Hp}(Pv:Nat->St->Hp->Prop)(h0:Pv 0 σ H)
 (hs:∀i σ H,i<n->Pv i σ H->g (.int (lo+i)) σ H λmY H2=>tb {D with nx:=Pv (i+1),ct:=Pv (i+1),bk:=D.nx} mY H2) (hd:∀σ H,Pv n σ H->D.nx σ H):
 ∃W:Nat->Nat->St->Hp->Prop,(∃m,W 0 m σ H)/\∀i m σ H,W i m σ H->
  ((Ss lo n).stop i H/\D.nx σ H)\/((Ss lo n).go i H/\∃N:St->Hp->Prop,(∀fD H',N fD H'->∃m',m' <m/\W (i+1) m' fD H')/\∀x H',(Ss lo n).BM i H x H'->g x σ H' λmY H2=>tb {D with nx:=N,ct:=N,bk:=D.nx} mY H2):=by
 refine⟨λi m σ H=>m=n - i/\i<=n/\Pv i σ H,⟨n,by simp,cH _,h0⟩,?_⟩
 rintro i m σ H ⟨rfl,hi,p⟩
 by_cases kG:i<n
 .refine .inr ⟨kG,Pv (i+1),λfD H' p' =>⟨n - (i+1),by omega,Z,kG,p'⟩,λx H' y=> ?_⟩;obtain⟨e,y⟩:=y;subst e y;exact hs i σ _ kG p
 .have e:i=n:=by omega
  subst e;exact .inl ⟨aK _,hd σ H p⟩
abbrev R2:=V->V->Hp->VK->Prop
def n6(X:Cx)(f:M'->M'->Sem M')(r:R2):Prop:=
 ∀(ad:aQ) (s:R') (σ:St) (H:Hp) (x y:V) (v u:M') (Q:VK),Inv X ad σ H s->RelV x v->RelV y u->r x y H Q->
  wpAny (model X.prog X.w) X.A (f v u) (EP X ad σ Q) X.xe s
def UnR(X:Cx)(f:M'->Sem M')(r:V->Hp->VK->Prop):Prop:=
 ∀(ad:aQ) (s:R') (σ:St) (H:Hp) (x:V) (v:M') (Q:VK),Inv X ad σ H s->RelV x v->r x H Q->
  wpAny (model X.prog X.w) X.A (f v) (EP X ad σ Q) X.xe s
def iZ(X:Cx)(f:M')(r:ak->Hp->VK->Prop):Prop:=
 ∀(ad:aQ) (s:R') (σ:St) (H:Hp) (xs:ak) (us:aG) (Q:VK),Inv X ad σ H s->Vals xs us->r xs H Q->
  wpAny (model X.prog X.w) X.A (call f us) (EP X ad σ Q) X.xe s
def ae2(X:Cx)(r:V->Hp->(Bool->Hp->Prop)->Prop):Prop:=
 ∀(ad:aQ) (s:R') (σ:St) (H:Hp) (x:V) (v:M') (Q:Bool->Hp->Prop),Inv X ad σ H s->RelV x v->r x H Q->
  wpAny (model X.prog X.w) X.A (truthy v) (TP X ad σ Q) X.xe s
def wN(r:R2)(ta tb:TE):TE:=λσ H Q=>ta σ H λx H1=>tb σ H1 λy H2=>r x y H2 Q
def tUn(r:V->Hp->VK->Prop)(ta:TE):TE:=λσ H Q=>ta σ H λx H1=>r x H1 Q
def rI(C:Int->Int->Prop)(g:Int->Int->V):R2:=λx y H Q=>∃i j,x= .int i/\y= .int j/\C i j/\Q (g i j) H
def Pb(g:Int->Int->V):R2:=λx y H Q=>∃i j,x= .int i/\y= .int j/\Q (g i j) H
def rU(g:Int->V):V->Hp->VK->Prop:=λx H Q=>∃i,x= .int i/\Q (g i) H
section
variable{X:Cx}{a b c:V'}{ta tb tc:TE}{pos:Pos}
theorem VN(ha:PE X a ta)(hb:PE X b tb){ad:aQ}{s:R'}{σ:St}{H:Hp}{R:V->V->Hp->Prop}(I:Inv X ad σ H s)
 (h:ta σ H λx H1=>tb σ H1 λy H2=>R x y H2) {Q:J'} {f:M'->M'->Sem M'}
 (hf:∀v u s2 x y H2,Inv X ad σ H2 s2->RelV x v->RelV y u->R x y H2->wpAny (model X.prog X.w) X.A (f v u) Q X.xe s2):
 wpAny (model X.prog X.w) X.A (eval a X.env) (λv bR=>wpAny (model X.prog X.w) X.A (eval b X.env) (λu uO=>wpAny (model X.prog X.w) X.A (f v u) Q X.xe uO) X.xe bR) X.xe s:=by
 refine dk (ha ad s σ H _ I h) λv s1 ⟨x,H1,I1,r1,q1⟩=> ?_;refine dk (hb ad s1 σ H1 _ I1 q1) λu s2 ⟨y,H2,I2,r2,q2⟩=> ?_;exact hf v u s2 x y H2 I2 r1 r2 q2
theorem aL{op:Operator}{r:R2}(ho:n6 X (binaryOp op) r)(ha:PE X a ta)(hb:PE X b tb):PE X (.BinOp a op b pos) (wN r ta tb):=by
 intro ad s σ H Q I h;exact wpAny_BinOp (VN ha hb I h λv u s2 x y H2 I2 rx ry q=>ho ad s2 σ H2 x y v u Q I2 rx ry q)
theorem NX{op:UnaryOp}{r:V->Hp->VK->Prop}(ho:UnR X (unaryOp op) r)(ha:PE X a ta):PE X (.UnaryOp op a pos) (tUn r ta):=by
 intro ad s σ H Q I h;exact UnaryOp_ (dk (ha ad s σ H _ I h) λv s1 ⟨x,H1,I1,r1,q1⟩=>ho ad s1 σ H1 x v Q I1 r1 q1)
theorem opI{f:M'->M'->Sem M'}{C:Int->Int->Prop}{g:Int->Int->Int}
 (rule:∀(i j:Int) (t u:Tok) (s:R') (Q:J') (E:J'),C i j->Q (.int (g i j) s.toks) {s with toks:=s.toks+1}->wpAny (model X.prog X.w) X.A (f (.int i t) (.int j u)) Q E s):
 n6 X f (rI C λi j=> .int (g i j)):=by
 intro ad s σ H x y v u Q I rx ry h;obtain⟨i,j,rfl,rfl,hc,q⟩:=h;obtain⟨t,rfl⟩:=rx;obtain⟨t',rfl⟩:=ry;exact rule i j t t' s _ _ hc ⟨.int (g i j),H,I.tok _,⟨_,Z⟩,q⟩
theorem ZA{f:M'->M'->Sem M'}{g:Int->Int->Int}
 (rule:∀(i j:Int) (t u:Tok) (s:R') (Q:J') (E:J'),Q (.int (g i j) s.toks) {s with toks:=s.toks+1}->wpAny (model X.prog X.w) X.A (f (.int i t) (.int j u)) Q E s):
 n6 X f (Pb λi j=> .int (g i j)):=by
 intro ad s σ H x y v u Q I rx ry h;obtain⟨i,j,rfl,rfl,q⟩:=h;obtain⟨t,rfl⟩:=rx;obtain⟨t',rfl⟩:=ry;exact rule i j t t' s _ _ ⟨.int (g i j),H,I.tok _,⟨_,Z⟩,q⟩
theorem Wc{f:M'->M'->Sem M'}{g:Int->Int->Bool}
 (rule:∀(i j:Int) (t u:Tok) (s:R') (Q:J') (E:J'),Q (.bool (g i j)) s->wpAny (model X.prog X.w) X.A (f (.int i t) (.int j u)) Q E s):
 n6 X f (Pb λi j=> .bl (g i j)):=by
 intro ad s σ H x y v u Q I rx ry h;obtain⟨i,j,rfl,rfl,q⟩:=h;obtain⟨t,rfl⟩:=rx;obtain⟨t',rfl⟩:=ry;exact rule i j t t' s _ _ ⟨.bl (g i j),H,I,Z,q⟩
def OG(i j:Int):Prop:=0<=j/\j<=1000000/\i.natAbs<2 ^ 64
def XE(i j:Int):Prop:=(-(2 ^ 64)<i/\i<2 ^ 64)\/(-(2 ^ 64)<j/\j<2 ^ 64)
theorem XE.ok{i j:Int}(h:XE i j):IntMulOk i j:=by
 rcases h with⟨h1,h2⟩|⟨h1,h2⟩
 .exact .of_left (intBits_le_64 h1 h2)
 .exact .of_right (intBits_le_64 h1 h2)
theorem bw:n6 X (binaryOp .Add) (Pb λi j=> .int (i+j)):=ZA λ_ _ _ _ _ _ _ q=>add_int q
theorem iT:n6 X (binaryOp .Sub) (Pb λi j=> .int (i - j)):=ZA λ_ _ _ _ _ _ _ q=>sub_int q
theorem md:n6 X (binaryOp .Mult) (rI XE λi j=> .int (i*j)):=opI λ_ _ _ _ _ _ _ hc q=>mul_int q hc.ok
theorem jq:n6 X (binaryOp .Mod) (rI (λ_ j=>0<j) λi j=> .int (i % j)):=opI λi j _ _ _ _ _ hc q=>by
 have h1:(0:Int)<j:=hc;exact mod_int' (by omega) (by rw[Int.fmod_eq_emod_of_nonneg i (by omega)];exact q)
theorem qm:n6 X (binaryOp .Pow) (rI OG λi j=> .int (i ^ j.toNat)):=opI λ_ _ _ _ _ _ _ hc q=>pow_int_small hc.1 hc.2.1 hc.2.2 q
theorem unI{f:M'->Sem M'}{g:Int->Int}
 (rule:∀(i:Int) (t:Tok) (s:R') (Q:J') (E:J'),Q (.int (g i) s.toks) {s with toks:=s.toks+1}->wpAny (model X.prog X.w) X.A (f (.int i t)) Q E s):
 UnR X f (rU λi=> .int (g i)):=by
 intro ad s σ H x v Q I rx h;obtain⟨i,rfl,q⟩:=h;obtain⟨t,rfl⟩:=rx;exact rule i t s _ _ ⟨.int (g i),H,I.tok _,⟨_,Z⟩,q⟩
theorem HX:UnR X (unaryOp .USub) (rU λi=> .int (-i)):=unI λ_ _ _ _ _ q=>neg_int q
end
noncomputable def aba:V->V->Bool
 | .bp,.bp=>true| .bp,.int _=>true| .int _,.bp=>true| .bp,.bl _=>true| .bl _,.bp=>true| .bp,.str _=>true| .str _,.bp=>true
 | .int _,.int _=>true| .bl _,.bl _=>true| .str _,.str _=>true| .J7 _,.J7 _=>true
 | .int _,.str _=>true| .str _,.int _=>true| .bl _,.str _=>true| .str _,.bl _=>true
 |_,_=>false
def rEq:R2:=λx y H Q=>aba x y=true/\Q (.bl (decide (x=y))) H
def rNe:R2:=λx y H Q=>aba x y=true/\Q (.bl (!decide (x=y))) H
theorem JU{i j:Int}:decide (V.int i=V.int j)=(i==j):=by
 rw[mU];simp
theorem MY{i j:Bool}:decide (V.bl i=V.bl j)=(i==j):=by
 rw[mU];simp
theorem JS{i j:Str}:decide (V.str i=V.str j)=(i==j):=by
 rw[mU];simp
theorem Kk{i j:Array UInt8}:decide (V.J7 i=V.J7 j)=(i.toList==j.toList):=by
 rw[mU];cases i;cases j;simp
section
variable{X:Cx}{a b c:V'}{ta tb tc:TE}{pos:Pos}
theorem b9{ad:aQ}{σ:St}{H:Hp}{s:R'}{Q:VK}{k k' :Bool}(I:Inv X ad σ H s)(q:Q (.bl k) H)(e:k=k'):EP X ad σ Q (.bool k') s:=by
 subst e;exact⟨.bl k,H,I,Z,q⟩
theorem cK:n6 X (compareOp .Eq) rEq:=by
 intro ad s σ H x y v u Q I rx ry h;obtain⟨hs,q⟩:=h
 cases x with
 |bp=>
  cases rx
  cases y with
  |bp=>cases ry;exact PySem.EqNone.eq_none_none (b9 I q (by simp))
  |bl j=>cases ry;exact PySem.EqNone.eq_none_bool (b9 I q (by simp))
  |int j=>obtain⟨t',rfl⟩:=ry;exact PySem.EqNone.eq_none_int (b9 I q (by simp))
  |str j=>obtain⟨t',rfl⟩:=ry;exact PySem.EqNone.eq_none_str (b9 I q (by simp))
  |_=>exact absurd (show false=true from hs) cU
 |bl i=>
  cases rx
  cases y with
  |bp=>cases ry;exact PySem.EqNone.eq_bool_none (b9 I q (by simp))
  |bl j=>cases ry;exact eq_bool (b9 I q MY)
  |str j=>obtain⟨t',rfl⟩:=ry;exact PySem.EqMixed.eq_bool_str (b9 I q (by simp))
  |_=>exact absurd (show false=true from hs) cU
 |int i=>
  obtain⟨t,rfl⟩:=rx
  cases y with
  |bp=>cases ry;exact PySem.EqNone.eq_int_none (b9 I q (by simp))
  |int j=>obtain⟨t',rfl⟩:=ry;exact eq_int (b9 I q JU)
  |str j=>obtain⟨t',rfl⟩:=ry;exact PySem.EqMixed.eq_int_str (b9 I q (by simp))
  |_=>exact absurd (show false=true from hs) cU
 |str i=>
  obtain⟨t,rfl⟩:=rx
  cases y with
  |bp=>cases ry;exact PySem.EqNone.eq_str_none (b9 I q (by simp))
  |bl j=>cases ry;exact PySem.EqMixed.eq_str_bool (b9 I q (by simp))
  |int j=>obtain⟨t',rfl⟩:=ry;exact PySem.EqMixed.eq_str_int (b9 I q (by simp))
  |str j=>obtain⟨t',rfl⟩:=ry;exact eq_str (b9 I q JS)
  |_=>exact absurd (show false=true from hs) cU
 |J7 i=>
  obtain⟨t,rfl⟩:=rx
  cases y with
  |J7 j=>obtain⟨t',rfl⟩:=ry;exact PySem.W.eq_bytes (b9 I q Kk)
  |_=>exact absurd (show false=true from hs) cU
 |_=>cases y<;>exact absurd (show false=true from hs) cU
theorem qQ:n6 X (compareOp .NotEq) rNe:=by
 intro ad s σ H x y v u Q I rx ry h;obtain⟨hs,q⟩:=h
 cases x with
 |bp=>
  cases rx
  cases y with
  |bp=>cases ry;exact PySem.EqNone.ne_none_none (b9 I q (by simp))
  |bl j=>cases ry;exact PySem.EqNone.ne_none_bool (b9 I q (by simp))
  |int j=>obtain⟨t',rfl⟩:=ry;exact PySem.EqNone.ne_none_int (b9 I q (by simp))
  |str j=>obtain⟨t',rfl⟩:=ry;exact PySem.EqNone.ne_none_str (b9 I q (by simp))
  |_=>exact absurd (show false=true from hs) cU
 |bl i=>
  cases rx
  cases y with
  |bp=>cases ry;exact PySem.EqNone.ne_bool_none (b9 I q (by simp))
  |bl j=>cases ry;exact ne_bool (b9 I q (congrArg not MY))
  |str j=>obtain⟨t',rfl⟩:=ry;exact PySem.EqMixed.ne_bool_str (b9 I q (by simp))
  |_=>exact absurd (show false=true from hs) cU
 |int i=>
  obtain⟨t,rfl⟩:=rx
  cases y with
  |bp=>cases ry;exact PySem.EqNone.ne_int_none (b9 I q (by simp))
  |int j=>obtain⟨t',rfl⟩:=ry;exact ne_int (b9 I q (congrArg not JU))
  |str j=>obtain⟨t',rfl⟩:=ry;exact PySem.EqMixed.ne_int_str (b9 I q (by simp))
  |_=>exact absurd (show false=true from hs) cU
 |str i=>
  obtain⟨t,rfl⟩:=rx
  cases y with
  |bp=>cases ry;exact PySem.EqNone.ne_str_none (b9 I q (by simp))
  |bl j=>cases ry;exact PySem.EqMixed.ne_str_bool (b9 I q (by simp))
  |int j=>obtain⟨t',rfl⟩:=ry;exact PySem.EqMixed.ne_str_int (b9 I q (by simp))
  |str j=>obtain⟨t',rfl⟩:=ry;exact ne_str (b9 I q (congrArg not JS))
  |_=>exact absurd (show false=true from hs) cU
 |J7 i=>
  obtain⟨t,rfl⟩:=rx
  cases y with
  |J7 j=>obtain⟨t',rfl⟩:=ry;exact PySem.W.ne_bytes (b9 I q (congrArg not Kk))
  |_=>exact absurd (show false=true from hs) cU
 |_=>cases y<;>exact absurd (show false=true from hs) cU
theorem A0:n6 X (compareOp .Lt) (Pb λi j=> .bl (decide (i<j))):=Wc λ_ _ _ _ _ _ _ q=>lt_int q
theorem xO:n6 X (compareOp .LtE) (Pb λi j=> .bl (decide (i<=j))):=Wc λ_ _ _ _ _ _ _ q=>le_int q
theorem tQ:n6 X (compareOp .Gt) (Pb λi j=> .bl (decide (j<i))):=Wc λ_ _ _ _ _ _ _ q=>gt_int q
theorem LP:n6 X (compareOp .In) (λx y H Q=>∃i j,x= .str i/\y= .str j/\Q (.bl (!(Builtin.Str.occurrences j i 0 j.length 1).isEmpty)) H):=by
 intro ad s σ H x y v u Q I rx ry h;obtain⟨i,j,rfl,rfl,q⟩:=h;obtain⟨t,rfl⟩:=rx;obtain⟨t',rfl⟩:=ry;exact in_str (b9 I q Z)
theorem Bb:n6 X (compareOp .Is) (λx y H Q=>y= .bp/\Q (.bl (decide (x= .bp))) H):=by
 intro ad s σ H x y v u Q I rx ry h;obtain⟨rfl,q⟩:=h;cases ry;refine is_none_gen (b9 I q ?_)
 cases x<;>first
  |(cases rx;rfl)
  |(obtain⟨t,rfl⟩:=rx;rfl)
theorem zm:n6 X (compareOp .IsNot) (λx y H Q=>y= .bp/\Q (.bl (!decide (x= .bp))) H):=by
 intro ad s σ H x y v u Q I rx ry h;obtain⟨rfl,q⟩:=h;cases ry;refine isnot_none_gen (b9 I q ?_)
 cases x<;>first
  |(cases rx;rfl)
  |(obtain⟨t,rfl⟩:=rx;rfl)
theorem OO(b:V'){op:CmpOp}(h:op≠.In:=by decide)(h2:op≠.NotIn:=by decide):behindInMarks op b=false:=by
 have e1:(op==CmpOp.In)=false:=by cases op<;>first|rfl|exact absurd rfl h
 have e2:(op==CmpOp.NotIn)=false:=by cases op<;>first|rfl|exact absurd rfl h2
 cases b<;>simp[behindInMarks,e1,e2]
theorem P8{op:CmpOp}{r:R2}(ho:n6 X (compareOp op) r)(ha:PE X a ta)(hb:PE X b tb)(hm:behindInMarks op b=false):PE X (.Compare a [op] [b] pos) (wN r ta tb):=by
 intro ad s σ H Q I h;exact wpAny_Compare1 (VN ha hb I h λv u s2 x y H2 I2 rx ry q=>ho ad s2 σ H2 x y v u Q I2 rx ry q) hm
def L9(t:TE):TT:=λσ H Q=>t σ H λx H' =>∃k,x= .bl k/\Q k H'
theorem QV{op:CmpOp}{r:R2}(ho:n6 X (compareOp op) r)(ha:PE X a ta)(hb:PE X b tb)(hm:behindInMarks op b=false):PT X (.Compare a [op] [b] pos) (L9 (wN r ta tb)):=by
 intro ad s σ H Q I h
 refine wpAny_isTrue_Compare1 (dk (ha ad s σ H _ I h) λv s1 ⟨x,H1,I1,r1,q1⟩=>dk (hb ad s1 σ H1 _ I1 q1) λu s2 ⟨y,H2,I2,r2,q2⟩=>
  dk (ho ad s2 σ H2 x y v u _ I2 r1 r2 q2) λc s3 ⟨z,H3,I3,r3,k,e,q3⟩=> ?_) hm
 subst e;cases r3;exact l_ ⟨H3,I3,q3⟩
def Nv(r r' :R2)(ta tb tc:TE):TE:=λσ H Q=>ta σ H λx H1=>tb σ H1 λy H2=>r x y H2 λz H3=>∃k,z= .bl k/\
 (if k=true then tc σ H3 λw' H4=>r' y w' H4 Q else Q (.bl false) H3)
theorem AZ{op Vq :CmpOp}{r r' :R2}(ho:n6 X (compareOp op) r)(MA :n6 X (compareOp Vq) r')(ha:PE X a ta)(hb:PE X b tb)(hc:PE X c tc)
 (hm:lastMarks [op,Vq] [b,c]=false:=by with_unfolding_all rfl):PE X (.Compare a [op,Vq] [b,c] pos) (Nv r r' ta tb tc):=by
 intro ad s σ H Q I h
 refine Compare_chain (dk (ha ad s σ H _ I h) λv s1 ⟨x,H1,I1,r1,q1⟩=>chain_link (dk (hb ad s1 σ H1 _ I1 q1) λu s2 ⟨y,H2,I2,r2,q2⟩=>
  dk (ho ad s2 σ H2 x y v u _ I2 r1 r2 q2) λd s3 ⟨z,H3,I3,r3,k,e,q3⟩=> ?_)) hm
 subst e;cases r3;refine l_ ?_
 cases k with
 |false=>exact ite_ff ⟨.bl false,H3,I3,Z,q3⟩
 |true=>exact ite_tt (chain_last (dk (hc ad s3 σ H3 _ I3 q3) λw' s4 ⟨z',H4,I4,r4,q4⟩=>MA ad s4 σ H4 y z' u w' Q I4 r2 r4 q4))
theorem MF{op Vq :CmpOp}{r r' :R2}(ho:n6 X (compareOp op) r)(MA :n6 X (compareOp Vq) r')(ha:PE X a ta)(hb:PE X b tb)(hc:PE X c tc)
 (hm:lastMarks [op,Vq] [b,c]=false:=by with_unfolding_all rfl):PT X (.Compare a [op,Vq] [b,c] pos) (L9 (Nv r r' ta tb tc)):=by
 intro ad s σ H Q I h
 refine isTrue_chain (dk (ha ad s σ H _ I h) λv s1 ⟨x,H1,I1,r1,q1⟩=>test_link (dk (hb ad s1 σ H1 _ I1 q1) λu s2 ⟨y,H2,I2,r2,q2⟩=>
  dk (ho ad s2 σ H2 x y v u _ I2 r1 r2 q2) λd s3 ⟨z,H3,I3,r3,k,e,q3⟩=> ?_)) hm
 subst e;cases r3;refine l_ ?_
 cases k with
 |false=>
  obtain⟨k',e',q'⟩:=q3;cases e';exact ite_ff ⟨H3,I3,q'⟩
 |true=>
  refine ite_tt (test_last (dk (hc ad s3 σ H3 _ I3 q3) λw' s4 ⟨z',H4,I4,r4,q4⟩=>dk (MA ad s4 σ H4 y z' u w' _ I4 r2 r4 q4) λd' s5 ⟨z2,H5,I5,r5,k2,e2,q5⟩=> ?_));subst e2;cases r5;exact l_ ⟨H5,I5,q5⟩
def abh(K:Frag)(x:V)(H:Hp)(k:Bool):Prop:=
 match x with
 | .bp=>k=false
 | .bl b=>k=b
 | .int i=>k=(i !=0)
 | .str y=>y.length<=sizeLine/\k=((y.length:Int) !=0)
 | .J7 y=>y.size<=sizeLine/\k=((y.size:Int) !=0)
 | .ref p=>(∃xs,cF K H p xs/\k= !xs.isEmpty)\/(∃xs,bc K H p xs/\k= !xs.isEmpty)\/∃kvs,H p=some (.dK kvs)/\k= !kvs.isEmpty
 |_=>False
theorem IM{κ:Type}{kvs:List (κ×V)}{vs:List (κ×M')}(r:KV kvs vs):(!vs.isEmpty)= !kvs.isEmpty:=by
 cases r<;>rfl
theorem A3{xs:ak}{its:aG}(r:Vals xs its):(!its.toArray.isEmpty)= !xs.isEmpty:=by
 cases r<;>simp
theorem uM:(sizeLine:Nat)<2 ^ 63:=by rw[rX];decide
theorem VS:ae2 X (λx H Q=>∃k,abh X.K x H k/\Q k H):=by
 intro ad s σ H x v Q I rx h;obtain⟨k,e,q⟩:=h;have hl:=uM;have hs:sizeLine=16777216:=rX
 cases x with
 |bp=>
  cases rx;have e' :k=false:=e;subst e';exact truthy_none ⟨H,I,q⟩
 |bl b=>
  cases rx;have e' :k=b:=e;subst e';exact l_ ⟨H,I,q⟩
 |int i=>
  obtain⟨t,rfl⟩:=rx;have e' :k=(i !=0):=e;subst e';exact PySem.P.truthy_int ⟨H,I,q⟩
 |str y=>
  obtain⟨t,rfl⟩:=rx;obtain⟨hy,e'⟩:y.length<=sizeLine/\k=((y.length:Int) !=0):=e;subst e';exact PySem.P.truthy_str (by omega) ⟨H,I.tok _,q⟩
 |J7 y=>
  obtain⟨t,rfl⟩:=rx;obtain⟨hy,e'⟩:y.size<=sizeLine/\k=((y.size:Int) !=0):=e;subst e';exact PySem.W.truthy_bytes (by omega) ⟨H,I.tok _,q⟩
 |ref p=>
  cases rx;have e' :(∃xs,cF X.K H p xs/\k= !xs.isEmpty)\/(∃xs,bc X.K H p xs/\k= !xs.isEmpty)\/∃kvs,H p=some (.dK kvs)/\k= !kvs.isEmpty:=e;rcases e' with⟨xs,hx,e'⟩|⟨xs,hx,e'⟩|⟨kvs,hx,e'⟩
  .subst e';obtain⟨its,r,pl,hz⟩:=I.list hx;have hlen:=r.length;exact wpAny_truthy_list pl.isList (by simp only[bJ];omega) ⟨H,I.tok _,by rw[A3 r];exact q⟩
  .subst e';obtain⟨its,r,pl,hz⟩:=I.tuple hx;have hlen:=r.length;exact truthy_tuple pl (by simp only[bJ];omega) ⟨H,I.tok _,by rw[A3 r];exact q⟩
  .subst e';obtain⟨hz,hS,vs,r,m⟩:kvs.length<=sizeLine/\(p==sysModules)=false/\∃vs,KV kvs vs/\s.heap.DictOf (cW X.prog X.w) p vs:=I.bS p _ hx;have hlen:kvs.length=vs.length:=Paired.length r;exact wpAny_truthy_dict hS m (by omega) ⟨H,I.tok _,by rw[IM r];exact q⟩
 |_=>exact(show False from e).elim
theorem Ny(ha:PE X a ta)(he:∀whole,isTrue a X.env whole=(do let v<-whole;standAt a.pos;holding [v] (truthy v))):
 PT X a (λσ H Q=>ta σ H λx H' =>∃k,abh X.K x H' k/\Q k H'):=by
 intro ad s σ H Q I h;exact isTrue_plain (dk (ha ad s σ H _ I h) λv s1 ⟨x,H1,I1,r1,q1⟩=>VS ad s1 σ H1 x v Q I1 r1 q1) (he _)
theorem um:n6 X (binaryOp .Add) (λx y H Q=>∃i j,x= .str i/\y= .str j/\i.length+j.length<=sizeLine/\Q (.str (i++j)) H):=by
 intro ad s σ H x y v u Q I rx ry h;obtain⟨i,j,rfl,rfl,hz,q⟩:=h;obtain⟨t,rfl⟩:=rx;obtain⟨t',rfl⟩:=ry;exact add_str (λt' tk=>⟨.str (i++j),H,I.tok _,⟨_,Z⟩,q⟩) hz
theorem Wp{x:V}{us:aG}(r:Vals [x] us):∃u,us=[u]/\RelV x u:=by
 cases r with
 |cons r1 r2=>cases r2;exact⟨_,Z,r1⟩
theorem jad{x y:V}{us:aG}(r:Vals [x,y] us):∃u w',us=[u,w']/\RelV x u/\RelV y w' :=by
 cases r with
 |cons r1 r2=>
  cases r2 with
  |cons r3 r4=>cases r4;exact⟨_,_,Z,r1,r3⟩
theorem kY(hc:X.calm=true):iZ X (.builtin "max") (λxs H Q=>∃i j,xs=[.int i,.int j]/\Q (.int (if j>i then j else i)) H):=by
 intro ad s σ H xs us Q I r h;obtain⟨i,j,rfl,q⟩:=h;obtain⟨u,w',rfl,⟨t,rfl⟩,⟨t',rfl⟩⟩:=jad r;refine max_two_ints (I.ok.hd hc) λh' tk k=>⟨_,H,I.kept k,?_,q⟩;by_cases hj:j>i
 .rw[aB hj,aB hj];exact⟨_,Z⟩
 .rw[ax hj,ax hj];exact⟨_,Z⟩
theorem Lo(hc:X.calm=true):iZ X (.builtin "min") (λxs H Q=>∃i j,xs=[.int i,.int j]/\Q (.int (if j<i then j else i)) H):=by
 intro ad s σ H xs us Q I r h;obtain⟨i,j,rfl,q⟩:=h;obtain⟨u,w',rfl,⟨t,rfl⟩,⟨t',rfl⟩⟩:=jad r;refine min_two_ints (I.ok.hd hc) λh' tk k=>⟨_,H,I.kept k,?_,q⟩;by_cases hj:j<i
 .rw[aB hj,aB hj];exact⟨_,Z⟩
 .rw[ax hj,ax hj];exact⟨_,Z⟩
theorem xj:iZ X (.type "int") (λxs H Q=>(∃i,xs=[.int i]/\Q (.int i) H)\/∃k,xs=[.bl k]/\Q (.int (if k then 1 else 0)) H):=by
 intro ad s σ H xs us Q I r h;rcases h with⟨i,rfl,q⟩|⟨k,rfl,q⟩
 .obtain⟨u,rfl,t,rfl⟩:=Wp r;exact call_int_int ⟨.int i,H,I,⟨_,Z⟩,q⟩
 .obtain⟨u,rfl,r1⟩:=Wp r;cases r1;exact call_int_bool ⟨.int (if k then 1 else 0),H,I.tok _,⟨_,Z⟩,q⟩
end
structure IG(h:Y')(x dx C:S')(mA:Str->aO):Prop where
 obj:h.get? x=some (instObj C dx)
 ns:h.Ns1 dx mA
 ne:dx≠x
theorem CA{h:Y'}{dx:S'}{mA:Str->aO}(n:h.Ns1 dx mA):∃od,h.get? dx=some od/\∀name,lookIn name od=some (mA name):=by
 obtain⟨o,es,ep,ho,hd,hk,_,hm⟩:=n;refine⟨o,ho,λname=> ?_⟩;have e:=hm name;unfold nsFind findBy at e;rw[<-Array.find?_toList] at e;unfold lookIn;rw[hd];dsimp only
 split
 .rename_i y q;rw[q] at e;exact congrArg some e
 .rename_i q;rw[q] at e
  have a:es.toList.any (·.refKey)=false:=by
   rw[List.any_eq_false];intro y hy;obtain⟨z,t,ada⟩:=hk y (Array.mem_toList_iff.mp hy);simp[DictEntry.refKey,ada]
  have a' :¬es.toList.any (·.refKey)=true:=by rw[a];exact cU
  rw[ax a'];exact congrArg some e
theorem IG.look{h:Y'}{x dx C:S'}{mA:Str->aO}(I:IG h x dx C mA):∃od,PySem.W.InstAt h x (instObj C dx) C (some od)/\∀name,lookIn name od=some (mA name):=
 let⟨od,ho,hl⟩:=CA I.ns
 ⟨od,⟨I.obj,Z,Z,ho⟩,hl⟩
section
variable{prog:Z'}{w:W'}{A:X'}{E:J'}{s:R'}{K:Frag}{x dx C f:S'}{mA:Str->aO}{name:Str}{v:M'}
theorem jal{expr:Bool}{Q:J'}(X:K.In s.heap)(I:IG s.heap x dx C mA)(hg:plainGet K C name=true)(hh:PySem.W.hasDictIn K C=true)
 (ha:PySem.W.findIn K (.ref C) name=some none) (hv:mA name=some v) (Yw :handedIn v=true) (h:Q v {s with toks:=s.toks+1}):
 wpAny (model prog w) A (getAttr (.ref x) name expr) Q E s:=by
 obtain⟨od,J,hl⟩:=I.look;exact PySem.W.get_value X J (plainGet_of hg).1 (findObj_own hh ha Z (by rw[hl,hv])) Yw h
theorem NZ{pl:Sem Bool}{Q:M'×aG->R'->Prop}(X:K.In s.heap)(I:IG s.heap x dx C mA)(hg:plainGet K C name=true)
 (hf:PySem.W.findIn K (.ref C) name=some (some (.ref f))) (ht:PySem.W.isFn K (.ref f)=true) (hv:mA name=none) (h:Q (.ref f,[.ref x]) s):
 wpAny (model prog w) A (getMethod (.ref x) name pl) Q E s:=by
 obtain⟨od,J,hl⟩:=I.look;exact PySem.W.method_fn X J (plainGet_of hg).1 (plainGet_of hg).2 hf (rF.mp ht) (by show(lookIn name od).map (·.isSome)=some false;rw[hl,hv];rfl) h
theorem QD{ns:au}{Q:Unit->R'->Prop}(X:K.In s.heap)(I:IG s.heap x dx C mA)
 (hs:PySem.W.findIn K (.ref C) "__setattr__"=some (some (.builtin "object.__setattr__"))) (hp:plainOver K C=true) (ht:takerIn K C name=some none) (hh:PySem.W.hasDictIn K C=true)
 (hw:PySem.Within mA ns) (ql:ns.length<=sizeLine)
 (h:∀h',IG h' x dx C (λy=>if y=name then some v else mA y)->Heap.SameBut dx s.heap h'->Q () {s with heap:=h',toks:=s.toks+2}):
 wpAny (model prog w) A (setAttr (.ref x) name v) Q E s:=by
 obtain⟨od,J,hl⟩:=I.look;refine set_plain X J hs (PySem.W.osa_open (s:={s with toks:=s.toks+1}) (r:=none) X J hp ht λb=> ?_);obtain⟨cd,hc,Q_⟩:=PySem.W.any_some hh;have hx:s.heap.get? x=some ⟨.ref C,some dx,.plain,#[]⟩:=I.obj;refine aw (aY (aw (aw (wpAny_loadPart hx (aw (PySem.W.Looks.here (s:={s with toks:=s.toks+1}) (PySem.W.looks_clsIn X hc) ?_))))));rw[Q_];refine aY (a:=some dx) (aw (aY (aw ?_)));refine wpAny_nsSet1 (s:={s with toks:=s.toks+1}) I.ns λh' Yy Wk=> ?_;obtain⟨oD,esD,epD,hoD,HZ,hcD⟩:=Yy.count (PySem.Within.cons name v hw);refine aw (wpAny_lookBehind hoD (by rw[HZ];exact pastItsLine_dict (aU hcD (by rw[bB];omega))) ?_);exact aY (h _ ⟨(Wk.2 _ (ck I.ne)).trans I.obj,Yy,I.ne⟩ Wk)
theorem Nf{R:Result->R'->Prop}{vs:aG}{kw:List (Str×M')}(X:K.In s.heap)(hm:makesIn K C=true)
 (hi:PySem.W.findIn K (.ref C) "__init__"=some (some (.ref f))) (hf:PySem.W.typeIn K (.ref f)=some (.type "function"))
 (h:codeAny (model prog w) (A.under (.builtin "type.__call__" ⟨.ref C::vs,kw⟩)) (.call (.ref f) ⟨.ref (s.heap.objs.size+1)::vs,kw⟩) (PySem.W.InitBack (s.heap.objs.size+1) R)
  {s with heap:=(s.heap.push emptyDict).push (instObj C s.heap.objs.size)}):
 codeAny (model prog w) A (.call (.ref C) ⟨vs,kw⟩) R s:=by
 obtain⟨hh,g,d,t,os⟩:=s;exact PySem.W.make_core (PySem.W.makes_of X hm) (looks_findIn X hi) (λself=>bind_fn X self hf) (.inl Z) h
end
noncomputable def jg(f:Str)(v:V):ji->ji
 |[]=>[(f,v)]
 |(g,x)::r=>if g=f then(g,v)::r else(g,x)::jg f v r
theorem qD(f g:Str)(v:V):∀fs:ji,(jg f v fs).lookup g=if g=f then some v else fs.lookup g
 |[]=>by
  show List.lookup g [(f,v)]=_;by_cases h:g=f
  .have hb:(g==f)=true:=rF.mpr h;simp only[List.lookup,hb,aB h]
  .have hb:(g==f)=false:=rY.mpr h;simp only[List.lookup,hb,ax h]
 |(k,x)::r=>by
  have ih:=qD f g v r;rw[show jg f v ((k,x)::r)=(if k=f then(k,v)::r else(k,x)::jg f v r) from Z];by_cases hk:k=f
  .rw[aB hk];by_cases h:g=k
   .have hb:(g==k)=true:=rF.mpr h;simp only[List.lookup,hb,aB (h.trans hk)]
   .have hb:(g==k)=false:=rY.mpr h;simp only[List.lookup,hb,ax (λe:g=f=>h (e.trans hk.symm))]
  .rw[ax hk];by_cases h:g=k
   .have hb:(g==k)=true:=rF.mpr h;simp only[List.lookup,hb,ax (λe:g=f=>hk (h.symm.trans e))]
   .have hb:(g==k)=false:=rY.mpr h;simp only[List.lookup,hb];exact ih
theorem xm(f:Str)(v:V):∀fs:ji,f∈(jg f v fs).map (·.1)/\∀g,g∈fs.map (·.1)->g∈(jg f v fs).map (·.1)
 |[]=>⟨by simp[jg],λg h=>by simp at h⟩
 |(k,x)::r=>by
  obtain⟨i1,i2⟩:=xm f v r;rw[show jg f v ((k,x)::r)=(if k=f then(k,v)::r else(k,x)::jg f v r) from Z];by_cases hk:k=f
  .rw[aB hk];subst hk;exact⟨by simp,λg h=>by simpa using h⟩
  .rw[ax hk];refine⟨?_,λg h=> ?_⟩
   .rw[cL];exact cw _ i1
   .rw[cL] at h ⊢;rcases aP.mp h with e|e
    .exact aP.mpr (.inl e)
    .exact cw _ (i2 g e)
theorem yC(f:Str)(v:V):∀fs:ji,(jg f v fs).length<=fs.length+1
 |[]=>by simp[jg]
 |(k,x)::r=>by
  have ih:=yC f v r;rw[show jg f v ((k,x)::r)=(if k=f then(k,v)::r else(k,x)::jg f v r) from Z];by_cases hk:k=f
  .rw[aB hk,bB,bB];omega
  .rw[ax hk,bB,bB];omega
theorem m4.some_of{v:V}{o:aO}(r:m4 (some v) o):∃u,o=some u/\RelV v u:=by
 cases o with
 |none=>exact(show False from r).elim
 |some u=>exact⟨u,Z,r⟩
theorem m4.none_of{o:aO}(r:m4 none o):o=none:=by
 cases o with
 |none=>rfl
 |some u=>exact(show False from r).elim
theorem Dh{v:V}{u:M'}(r:RelV v u):handedIn u=true:=by
 cases v with
 |bp=>cases(show u=Value.none from r);rfl
 |bl b=>cases(show u=Value.bool b from r);rfl
 |int i=>obtain⟨t,e⟩:=(show ∃t,u=Value.int i t from r);cases e;rfl
 |str x=>obtain⟨t,e⟩:=(show ∃t,u=Value.str x t from r);cases e;rfl
 |J7 b=>obtain⟨t,e⟩:=(show ∃t,u=Value.bytes b t from r);cases e;rfl
 |WY b=>obtain⟨t,e⟩:=(show ∃t,u=Value.float b t from r);cases e;rfl
 |ref a=>cases(show u=Value.ref a from r);rfl
 |ty n=>cases(show u=Value.type n from r);rfl
section
variable{P:Z'}{w:W'}{H H' :Hp}{h h' :Y'}{a C dx:S'}{fs fs' :ji}
theorem zx(bS:pD P w H h)(e:H a=some (.ins C dx fs)):∃mA,IG h a dx C mA/\(∀f,m4 (fs.lookup f) (mA f))/\PySem.Within mA (fs.map (·.1))/\fs.length<=1000/\H dx=some (.own a):=by
 obtain⟨d,z,ne,ob,mA,n,r,q⟩:=(show cu P w H h a (.ins C dx fs) from bS a _ e);exact⟨mA,⟨ob,n,ne⟩,r,q,z,d⟩
end
structure OU(K:Frag)(C:S'):Prop where
 pg:plainGet K C Str.empty=true
 hd:PySem.W.hasDictIn K C=true
 po:plainOver K C=true
 sa:PySem.W.findIn K (.ref C) "__setattr__"=some (some (.builtin "object.__setattr__"))
theorem OU.get{K:Frag}{C:S'}(c:OU K C)(f:Str):plainGet K C f=true:=c.pg
def eM(K:Frag)(C:S')(f:Str):Prop:=PySem.W.findIn K (.ref C) f=some none
theorem eM.aao{K:Frag}{C:S'}{f:Str}(n:eM K C f):takerIn K C f=some none:=by
 unfold takerIn;rw[show PySem.W.findIn K (.ref C) f=some none from n];rfl
structure Meth(K:Frag)(C:S')(m:Str)(f:S'):Prop where
 at_:PySem.W.findIn K (.ref C) m=some (some (.ref f))
 fn:PySem.W.isFn K (.ref f)=true
 kp:PySem.W.keepIn K (.ref f)=true
section
variable{X:Cx}{ad:aQ}{σ:St}{H:Hp}{s:R'}{a C dx:S'}{fs:ji}{f:Str}{v:V}{A:X'}{E:J'}
theorem HI{b:Bool}{Q:J'}(I:Inv X ad σ H s)(e:H a=some (.ins C dx fs))(c:OU X.K C)(n:eM X.K C f)(l:fs.lookup f=some v)
 (h:∀u s',Inv X ad σ H s'->RelV v u->Q u s'):wpAny (model X.prog X.w) A (getAttr (.ref a) f b) Q E s:=by
 obtain⟨mA,O,r,_,_,_⟩:=zx I.bS e;obtain⟨u,hu,ru⟩:=m4.some_of (v:=v) (o:=mA f) (by rw[<-l];exact r f);exact jal I.jO O (c.get f) c.hd n hu (Dh ru) (h u _ (I.tok _) ru)
theorem HQ{m:Str}{g:S'}{pl:Sem Bool}{Q:M'×aG->R'->Prop}(I:Inv X ad σ H s)(e:H a=some (.ins C dx fs))(c:OU X.K C)(k:Meth X.K C m g)(l:fs.lookup m=none)
 (h:Q (.ref g,[.ref a]) s):wpAny (model X.prog X.w) A (getMethod (.ref a) m pl) Q E s:=by
 obtain⟨mA,O,r,_,_,_⟩:=zx I.bS e;have hn:mA m=none:=m4.none_of (by rw[<-l];exact r m);exact NZ I.jO O (c.get m) k.at_ k.fn hn h
theorem IK{y:V}{u:M'}{Q:Unit->R'->Prop}(I:Inv X ad σ H s)(e:H a=some (.ins C dx fs))(c:OU X.K C)(n:eM X.K C f)(hl:fs.length<1000)(ry:RelV y u)
 (h:∀s',Inv X ad σ (upd H a (.ins C dx (jg f y fs))) s'->Q () s'):wpAny (model X.prog X.w) A (setAttr (.ref a) f u) Q E s:=by
 obtain⟨mA,O,r,wi,_,ho⟩:=zx I.bS e;have hz:(fs.map (·.1)).length<=sizeLine:=by rw[a6,rX];omega
 refine QD I.jO O c.sa c.po n.aao c.hd wi hz λh' O' sb=>h _ ?_;have hd:∃o,h'.get? dx=some o:=let⟨o,_,_,e',_⟩:=O'.ns;⟨o,e'⟩
 refine I.write (x:=a) (e:=dx) (by rw[e];exact True.intro) (.inr ho) (λb q hb z=>(sb.2 b hb).trans z) hd ?_;refine⟨by rw[az O.ne];exact ho,?_,O.ne,O'.obj,_,O'.ns,λg=> ?_,λg hg=> ?_⟩
 .have:=yC f y fs;omega
 .show m4 ((jg f y fs).lookup g) (if g=f then some u else mA g);rw[qD];by_cases q:g=f
  .rw[aB q,aB q];exact ry
  .rw[ax q,ax q];exact r g
 .by_cases q:g=f
  .rw[q];exact(xm f y fs).1
  .refine(xm f y fs).2 g (wi g λz=>hg ?_);show(if g=f then some u else mA g)=none;rw[ax q];exact z
theorem Inv.made(I:Inv X ad σ H s):Inv X ad σ (upd (upd H s.heap.objs.size (.own (s.heap.objs.size+1))) (s.heap.objs.size+1) (.ins C s.heap.objs.size []))
 {s with heap:=(s.heap.push emptyDict).push (instObj C s.heap.objs.size)}:=by
 have e1:(s.heap.push emptyDict).get? s.heap.objs.size=some emptyDict:=cV s.heap rfl
 have e2:((s.heap.push emptyDict).push (instObj C s.heap.objs.size)).get? (s.heap.objs.size+1)=some (instObj C s.heap.objs.size):=by
  have:=cV (s.heap.push emptyDict) (o:=instObj C s.heap.objs.size) rfl;rwa[kl] at this
 have e3:(s.heap.push emptyDict).Ns s.heap.objs.size (λ_=>none):=⟨emptyDict,#[],_,e1,Z,(λe he=>absurd he (by simp)),λ_=>rfl⟩;have I1:=I.laid (a:=s.heap.objs.size) (o:= .own (s.heap.objs.size+1)) (h' :=s.heap.push emptyDict) (t' :=s.toks) (λb u q=>bq _ q) (aK _) ⟨_,e1⟩;refine I1.laid (a:=s.heap.objs.size+1) (o:= .ins C s.heap.objs.size []) (t' :=s.toks) (λb u q=>bq _ q) (oF (kl _ _)) ?_;have ne:s.heap.objs.size≠s.heap.objs.size+1:=cJ (zh _);refine⟨by rw[az ne,af],cH _,ne,e2,λ_=>none,(Heap.Ns1.of_empty e3).at λo q=>bq _ q,λ_=>True.intro,λy hy=>absurd rfl hy⟩
theorem Jt{prog:Z'}{w:W'}{env:Env}{e:V'}{f:Str}{pos:Pos}{s:R'}{Q:J'}(hb:attributeBase e f env (eval e env)=eval e env)
 (h:wpAny (model prog w) A (eval e env) (λo bR=>wpAny (model prog w) A (getAttr o f true) Q E bR) E s):wpAny (model prog w) A (eval (.Attribute e f pos) env) Q E s:=
 Attribute_any_ h (by rw[arm_eval_Attribute,hb])
end
def Zt(K:Frag)(ta:TE)(f:Str):TE:=λσ H Q=>ta σ H λx H1=>∃a C dx fs v,x= .ref a/\H1 a=some (.ins C dx fs)/\OU K C/\eM K C f/\fs.lookup f=some v/\Q v H1
def adP(K:Frag)(ta tv:TE)(f:Str):TS:=λD σ H=>tv σ H λy H1=>ta σ H1 λx H2=>∃a C dx fs,x= .ref a/\H2 a=some (.ins C dx fs)/\OU K C/\eM K C f/\fs.length<1000/\
 D.nx σ (upd H2 a (.ins C dx (jg f y fs)))
section
variable{X:Cx}{o e value:V'}{f:Str}{pos pos' aep:Pos}{ta tv:TE}
theorem WG(he:PE X e ta)(hb:attributeBase e f X.env (eval e X.env)=eval e X.env):PE X (.Attribute e f pos) (Zt X.K ta f):=by
 intro ad s σ H Q I h;refine Jt hb (dk (he ad s σ H _ I h) λu s1 ⟨x,H1,I1,rx,a,C,dx,fs,v,ex,ea,c,n,l,q⟩=> ?_);subst ex;obtain rfl:u=Value.ref a:=rx;exact HI I1 ea c n l λu' s2 I2 ru=>⟨v,H1,I2,ru,q⟩
theorem MU(ha:PE X o ta)(hv:PE X value tv)(hs:swapsWith value (some (.Attribute o f pos')) pos.line X.env=pure false):PS X (.Assign [.Attribute o f pos'] value pos) (adP X.K ta tv f):=by
 intro ad s σ H D I h;refine plainObj_wpAny_Assign_Attribute (dk (hv ad s σ H _ I h) λu s1 ⟨y,H1,I1,ry,q⟩=>dk (ha ad s1 σ H1 _ I1 q) λov s2 ⟨x,H2,I2,rx,a,C,dx,fs,ex,ea,c,n,l,q2⟩=> ?_) hs;subst ex;obtain rfl:ov=Value.ref a:=rx;exact IK I2 ea c n l ry λs3 I3=>⟨σ,_,I3,q2⟩
end
section
variable{X:Cx}{ad:aQ}{σ:St}{H:Hp}{s:R'}{A:X'}{E:J'}{Q:J'}{c:M'}{b:Bool}
inductive vT (K:Frag) (H:Hp):V->M'->Prop where
 |bp:vT K H .bp (.type "NoneType")
 |bl (x:Bool):vT K H (.bl x) (.type "bool")
 |int (i:Int):vT K H (.int i) (.type "int")
 |str (x:Str):vT K H (.str x) (.type "str")
 |WY (x:UInt64):vT K H (.WY x) (.type "float")
 |lst {a:S'} {xs:ak} (e:H a=some (.lst xs)):vT K H (.ref a) (.type "list")
 |Fu {a:S'} {o:Obj} {xs:ak} (e:H a=some (.Fu o (.lst xs))):vT K H (.ref a) (.type "list")
 |tup {a:S'} {xs:ak} (e:H a=some (.tup xs)):vT K H (.ref a) (.type "tuple")
 |dK {a:S'} {kvs:eI} (e:H a=some (.dK kvs)):vT K H (.ref a) (.type "dict")
 |dT {a:S'} {kvs:List (List wS×V)} (e:H a=some (.dT kvs)):vT K H (.ref a) (.type "dict")
 |ins {a C dx:S'} {fs:ji} (e:H a=some (.ins C dx fs)) (cl:OU K C) (ha:PySem.W.findIn K (.ref C) "__class__"=some (some (.builtin "object.__class__")))
  (hn:PySem.W.specialIn K (.builtin "object.__class__") "__get__"=some (some (.builtin "getset_descriptor.__get__"))) (htk:PySem.W.takesIn K (.builtin "object.__class__")=some true)
  (hm:PySem.W.mroIn K C (.type "object")=some true):vT K H (.ref a) (.ref C)
theorem Lq{x:V}{u t:M'}(I:Inv X ad σ H s)(rx:RelV x u)(ty:vT X.K H x t)(e:kitOne X.K t c=some b)(h:∀tk,Q (.bool b) {s with toks:=tk}):
 wpAny (model X.prog X.w) A (call (.builtin "isinstance") [u,c]) Q E s:=by
 cases ty with
 |bp=>cases(show u=Value.none from rx);exact mw kitx_none I.jO True.intro e (λz=>nomatch z) h
 |bl y=>cases(show u=Value.bool y from rx);exact mw kitx_bool I.jO True.intro e (λz=>nomatch z) h
 |int i=>obtain⟨t,q⟩:=(show ∃t,u=Value.int i t from rx);cases q;exact mw kitx_int I.jO True.intro e (λz=>nomatch z) h
 |str y=>obtain⟨t,q⟩:=(show ∃t,u=Value.str y t from rx);cases q;exact mw kitx_str I.jO True.intro e (λz=>nomatch z) h
 |WY y=>obtain⟨t,q⟩:=(show ∃t,u=Value.float y t from rx);cases q;exact mw PySem.W.kitx_float I.jO True.intro e (λz=>nomatch z) h
 | @lst a xs ea=>
  cases(show u=Value.ref a from rx);obtain⟨_,_,n,_,h1⟩:=(show cu X.prog X.w H s.heap a (.lst xs) from I.bS a _ ea);exact mw kitx_list I.jO ⟨_,h1,Z⟩ e (λz=>nomatch z) h
 | @Fu a ob xs ea=>
  cases(show u=Value.ref a from rx);obtain⟨_,_,_,n,_,h1⟩:=(show cu X.prog X.w H s.heap a (.Fu ob (.lst xs)) from I.bS a _ ea);exact mw kitx_list I.jO ⟨_,h1,Z⟩ e (λz=>nomatch z) h
 | @tup a xs ea=>
  cases(show u=Value.ref a from rx);obtain⟨_,_,_,p⟩:=(show cu X.prog X.w H s.heap a (.tup xs) from I.bS a _ ea);obtain⟨o,h1,h2,_⟩:=p;exact mw kitx_tuple I.jO ⟨o,h1,h2⟩ e (λz=>nomatch z) h
 | @dK a kvs ea=>
  cases(show u=Value.ref a from rx);obtain⟨_,_,vs,_,p⟩:=(show cu X.prog X.w H s.heap a (.dK kvs) from I.bS a _ ea);obtain⟨o,es,ep,h1,h2,_⟩:=p;exact mw kitx_dict I.jO ⟨o,h1,h2.1⟩ e (λz=>nomatch z) h
 | @dT a kvs ea=>
  cases(show u=Value.ref a from rx);obtain⟨_,_,xs,_,o,es,ep,h1,h2,_⟩:=(show cu X.prog X.w H s.heap a (.dT kvs) from I.bS a _ ea);exact mw kitx_dict I.jO ⟨o,h1,h2.1⟩ e (λz=>nomatch z) h
 | @ins a C dx fs ea cl ha hn htk hm=>
  cases(show u=Value.ref a from rx);obtain⟨mA,O,_⟩:=zx I.bS ea;obtain⟨od,J,_⟩:=O.look;exact mw (PySem.W.kitx_own (cl.get _) cl.hd ha hn htk hm) I.jO J e (λz=>nomatch z) h
end
structure dX(k:Nat)(A:X'):Prop where
 hd:A.handled=none
 dp:A.depth+3*k+5<recursionLimit
 un:A.units+16*k+200<cLine
 gd:A.guards=some []
theorem dX.mono{j k:Nat}{A:X'}(r:dX k A)(h:j<=k):dX j A:=⟨r.hd,by have:=r.dp;omega,by have:=r.un;omega,r.gd⟩
theorem dX.deeper{k:Nat}{A:X'}(r:dX (k+1) A)(env:Env):dX k (A.deeper env):=
 ⟨r.hd,by have:=r.dp;show A.depth+1+3*k+5<_;omega,by have:=r.un;show A.units+3+16*k+200<_;omega,r.gd⟩
theorem Ho{A:X'}{C:S'}{us:aG}{kw:List (Str×M')}:(A.under (.builtin "type.__call__" ⟨.ref C::us,kw⟩)).depth=A.depth+1:=by
 first|rfl|simp[Around.under,Code.weight,Code.isCreation,Code.isGuard,Code.isCaller,Code.frames,Code.isFrame,guardIds]
theorem IJ{A:X'}{C:S'}{us:aG}{kw:List (Str×M')}:(A.under (.builtin "type.__call__" ⟨.ref C::us,kw⟩)).units=A.units+1:=by
 first|rfl|simp[Around.under,Code.cUnits,Code.frames,Code.isFrame]
theorem FO{A:X'}{C:S'}{us:aG}{kw:List (Str×M')}{g:List Code}(h:A.guards=some g):(A.under (.builtin "type.__call__" ⟨.ref C::us,kw⟩)).guards=some g:=by
 have e:(Code.builtin "type.__call__" ⟨.ref C::us,kw⟩).guards=[]:=by first|rfl|simp[Code.guards,Code.isGuard,guardIds]
 first
  |(simp only[Around.under,e,pushGuards];exact h)
  |simp[Around.under,e,pushGuards,h]
theorem dX.make{k:Nat}{A:X'}(r:dX (k+1) A)(C:S')(us:aG)(kw:List (Str×M')):dX k (A.under (.builtin "type.__call__" ⟨.ref C::us,kw⟩)):=
 ⟨r.hd,by have:=r.dp;rw[Ho];omega,by have:=r.un;rw[IJ];omega,FO r.gd⟩
theorem dX.depth{k:Nat}{A:X'}(r:dX k A):A.depth<recursionLimit:=by have:=r.dp;omega
theorem dX.units{k:Nat}{A:X'}(r:dX k A):A.units+64<cLine:=by have:=r.un;omega
def sH:TA:=λ_ H Q=>Q [] H
def tG(ta:TE)(tr:TA):TA:=λσ H Q=>ta σ H λx H1=>tr σ H1 λxs H2=>Q (x::xs) H2
section
variable{X:Cx}{e:V'}{es:b7}{te:TE}{t:TA}{pos:Pos}
theorem dY:PA X [] sH:=λ_ _ _ _ H Q I h=>wF ⟨[],H,I,.nil,h⟩
theorem ag(ha:PE X e te)(hr:PA X es t)(hs:starEach (e::es) X.env=(false,eval e X.env)::starEach es X.env:=by rfl):PA X (e::es) (tG te t):=by
 intro pos ad s σ H Q I h;rw[hs];show wpAny _ _ (spliced ((false,eval e X.env)::backTo pos (starEach es X.env))) _ _ s;refine uu (dk (ha ad s σ H _ I h) λu s1 ⟨x,H1,I1,r1,q1⟩=> ?_);exact dk (hr pos ad s1 σ H1 _ I1 q1) λus s2 ⟨xs,H2,I2,r2,q2⟩=>⟨x::xs,H2,I2,.cons r1 r2,q2⟩
def KP(t:TA):TE:=λσ H Q=>t σ H λxs H1=>xs.length<=sizeLine/\∀p,H1 p=none->Q (.ref p) (upd H1 p (.tup xs))
def Ga(t:TA):TE:=λσ H Q=>t σ H λxs H1=>xs.length<=sizeLine/\∀p,H1 p=none->Q (.ref p) (upd H1 p (.lst xs))
theorem bt{x1}(h:PA X es t):PE X (.Tuple es x1 pos) (KP t):=by
 intro ad s σ H Q I hq;refine wpAny_Tuple_spliced (dk (h pos ad s σ H _ I hq) λus s1 ⟨xs,H1,I1,r,z,q⟩=>⟨by rw[<-r.length];exact z,?_⟩);have hf:H1 s1.heap.objs.size=none:=I1.bS.fresh (aK _);refine⟨.ref s1.heap.objs.size,upd H1 s1.heap.objs.size (.tup xs),I1.laid (t' :=s1.toks) (λb u e=>bq _ e) (aK _) ?_,Z,q _ hf⟩;exact⟨z,us,r,⟨_,cV _ Z,Z,_,Z⟩⟩
theorem bH(h:PA X es t):PE X (.List es pos) (Ga t):=by
 intro ad s σ H Q I hq;refine wpAny_List_spliced (dk (h pos ad s σ H _ I hq) λus s1 ⟨xs,H1,I1,r,z,q⟩=>⟨by rw[<-r.length];exact z,?_⟩);have hf:H1 s1.heap.objs.size=none:=I1.bS.fresh (aK _);refine⟨.ref s1.heap.objs.size,upd H1 s1.heap.objs.size (.lst xs),I1.laid (t' :=s1.toks) (λb u e=>bq _ e) (aK _) ?_,Z,q _ hf⟩;exact⟨z,us,0,r,cV _ Z⟩
end
abbrev Sp:=ak->Hp->VK->XK->Prop
abbrev uk:=List Env->Hp->R'->XK->J'
structure Ci(P:Z')(w:W')(K:Frag)(mg:Str->aO)(base:Y')(A:X')(outer:List Env)(s:R')(H:Hp):Prop where
 frames:A.frames=some outer
 mod:Mod K mg base
 bs:∀b o,base.get? b=some o->s.heap.get? b=some o/\H b=none
 Kv:base.objs.size<=s.heap.objs.size
 sF:s.heap.FunFrames base outer
 O8:∀b∈Cb outer,H b=none
 bS:pD P w H s.heap
 bare:AllBare s.gens
def CE(outer:List Env)(P:Z')(w:W')(H:Hp)(s:R')(Q:VK)(u:M')(s' :R'):Prop:=
 ∃v H',s'.os=s.os/\AllBare s'.gens/\Un (Cb outer) [] H H' s.heap s'.heap/\pD P w H' s'.heap/\RelV v u/\Q v H'
def CR(CX:uk)(outer:List Env)(P:Z')(w:W')(H:Hp)(s:R')(Q:VK)(E:XK)(r:Result)(s' :R'):Prop:=
 match r with
 | .ok (.ret u)=>CE outer P w H s Q u s'
 | .ok _=>False
 | .error e=>CX outer H s E e s'
structure aT(P:Z')(w:W')(K:Frag)(mg:Str->aO)(base:Y')(CX:uk)(k:Nat)(f:S')(fd:aad)(ps:au)(sp:Sp):Prop where
 len:∀vs H Q E,sp vs H Q E->vs.length=ps.length
 run:∀(A:X') (outer:List Env) (s:R') (H:Hp) (args:Args) (us:aG) (vs:ak) (Q:VK) (E:XK),dX k A->Ci P w K mg base A outer s H->BindsTo s fd args (ps.zip us)->Vals vs us->sp vs H Q E->
  codeAny (model P w) A (.call (.ref f) args) (CR CX outer P w H s Q E) s
theorem aT.mono{P:Z'}{w:W'}{K:Frag}{mg:Str->aO}{base:Y'}{CX:uk}{j k:Nat}{f:S'}{fd:aad}{ps:au}{sp:Sp}(F:aT P w K mg base CX j f fd ps sp)(h:j<=k):
 aT P w K mg base CX k f fd ps sp:=⟨F.len,λA outer s H args us vs Q E hr=>F.run A outer s H args us vs Q E (hr.mono h)⟩
theorem aT.imp{P:Z'}{w:W'}{K:Frag}{mg:Str->aO}{base:Y'}{CX:uk}{k:Nat}{f:S'}{fd:aad}{ps:au}{sp sp' :Sp}(F:aT P w K mg base CX k f fd ps sp)
 (h:∀vs H Q E,sp' vs H Q E->sp vs H Q E):aT P w K mg base CX k f fd ps sp' :=
 ⟨λvs H Q E q=>F.len vs H Q E (h _ _ _ _ q),λA outer s H args us vs Q E hr he hb hv hs=>F.run A outer s H args us vs Q E hr he hb hv (h _ _ _ _ hs)⟩
theorem Ci.make{P:Z'}{w:W'}{K:Frag}{mg:Str->aO}{base:Y'}{A:X'}{outer:List Env}{s:R'}{H:Hp}(e:Ci P w K mg base A outer s H)(C:S')(us:aG)(kw:List (Str×M')):
 Ci P w K mg base (A.under (.builtin "type.__call__" ⟨.ref C::us,kw⟩)) outer s H:=⟨by first|exact e.frames|(simpa[Around.under,Code.envs,Code.isFrame,pushEnvs] using e.frames),e.mod,e.bs,e.Kv,e.sF,e.O8,e.bS,e.bare⟩
section
variable{X:Cx}{ad:aQ}{σ:St}{H:Hp}{s s' :R'}
theorem Inv.Wb(I:Inv X ad σ H s):Ci X.prog X.w X.K X.mg X.base X.A X.stack s H:=
 ⟨I.ok.frames,I.ok.mod,I.bs,aU I.ok.Kv I.sz,I.stack,I.vw,I.bS,I.bare⟩
theorem Inv.after{Q:VK}{u:M'}(I:Inv X ad σ H s)(h:CE X.stack X.prog X.w H s Q u s'):EP X ad σ Q u s' :=by
 obtain⟨v,H',os,bare,un,bS,r,q⟩:=h;obtain⟨hh,g,d,t,os'⟩:=s';obtain rfl:os' =s.os:=os;exact⟨v,H',I.call (h' :=hh) (g' :=g) (d' :=d) (t' :=t) (ch:=[]) un bS bare (λb z=>absurd z (by simp)),r,q⟩
end
def yf(sp:Sp)(dvs:ak)(E:XK)(t:TA):TE:=λσ H Q=>t σ H λvs H1=>sp (vs++dvs) H1 Q E
def U_(C:S')(m:Str)(sp:Sp)(dvs:ak)(E:XK)(ta:TE)(t:TA):TE:=λσ H Q=>ta σ H λx H1=>∃a dx fs,x= .ref a/\H1 a=some (.ins C dx fs)/\fs.lookup m=none/\
 t σ H1 λvs H2=>sp (x::(vs++dvs)) H2 Q E
def aay(C:S')(sp:Sp)(dvs:ak)(E:XK)(t:TA):TE:=λσ H Q=>t σ H λvs H1=>∀x dx,H1 x=none->H1 dx=none->dx≠x->
 sp (.ref x::(vs++dvs)) (upd (upd H1 dx (.own x)) x (.ins C dx [])) (λv H2=>v= .bp/\Q (.ref x) H2) E
def Binds(K:Frag)(fd:aad)(ps:au)(ds:aG):Prop:=
 ∀(s:R') (us:aG),K.In s.heap->(us++ds).length=ps.length->BindsTo s fd ⟨us,[]⟩ (ps.zip (us++ds))
theorem Binds.all{K:Frag}{fd:aad}{ps:au}(h:∀us:aG,us.length=ps.length->bindArgs fd ⟨us,[]⟩=pure (ps.zip us)):Binds K fd ps []:=λs us _ hl=>by
 rw[fJ] at hl ⊢;exact .of_eq (h us hl)
def wf(CX:uk)(X:Cx)(E:XK):Prop:=∀(ad:aQ) (σ:St) (H:Hp) (s:R') (e:M') (s' :R'),Inv X ad σ H s->CX X.stack H s E e s'->X.xe e s'
section
variable{X:Cx}{CX:uk}{k:Nat}{f C:S'}{fd:aad}{ps:au}{sp:Sp}{dvs:ak}{ds:aG}{E:XK}{x m:Str}{p pos apos:Pos}{e o:V'}{es:b7}{ta:TE}{t:TA}
theorem wZ{ad:aQ}{σ:St}{H:Hp}{s:R'}{Q:VK}{us:aG}{vs:ak}(F:aT X.prog X.w X.K X.mg X.base CX k f fd ps sp)(hr:dX k X.A)(hb:Binds X.K fd ps ds)(hd:Vals dvs ds)(hx:wf CX X E)
 (I:Inv X ad σ H s) (r:Vals vs us) (h:sp (vs++dvs) H Q E):wpAny (model X.prog X.w) X.A (call (.ref f) us) (EP X ad σ Q) X.xe s:=by
 have r2:Vals (vs++dvs) (us++ds):=r.append hd;have hl:(us++ds).length=ps.length:=by rw[<-r2.length];exact F.len _ _ _ _ h
 refine oC (sf (F.run X.A X.stack s H ⟨us,[]⟩ (us++ds) (vs++dvs) Q E hr I.Wb (hb s us I.jO hl) r2 h) λr s' hq=> ?_)
 cases r with
 |error e=>exact hx ad σ H s e s' I hq
 |ok fl=>
  cases fl with
  |ret u=>exact I.after hq
  |next=>exact False.elim hq
  |brk=>exact False.elim hq
  |cont=>exact False.elim hq
theorem JN(F:aT X.prog X.w X.K X.mg X.base CX k f fd ps sp)(hr:dX k X.A)(hg:Gl X x)(hm:X.mg x=some (.ref f))(hk:PySem.W.keepIn X.K (.ref f)=true)(hb:Binds X.K fd ps ds)(hd:Vals dvs ds)(hx:wf CX X E)
 (ha:PA X (e::es) t) (rW:(x==("__debug__" :Str))=false:=by decide) (he:starEach (e::es) X.env=(false,eval e X.env)::starEach es X.env:=by rfl) (nA:(backTo pos (starEach es X.env)).any (·.1)=false:=by rfl):
 PE X (.Call (.Name x p) (e::es) [] pos) (yf sp dvs E t):=by
 intro ad s σ H Q I h;refine lV (kL I hg hm ?_ rW);refine sg (h₀:=X.base) I.ok.mod.xp hk (dk (ha pos ad s σ H _ I h) λus s1 ⟨vs,H1,I1,r,q⟩=>⟨I1.jO,?_⟩) he nA;exact wZ F hr hb hd hx I1 r q
theorem MQ(F:aT X.prog X.w X.K X.mg X.base CX k f fd ps sp)(hr:dX k X.A)(hg:Gl X x)(hm:X.mg x=some (.ref f))(hk:PySem.W.keepIn X.K (.ref f)=true)(hb:Binds X.K fd ps ds)(hd:Vals dvs ds)(hx:wf CX X E)
 (rW:(x==("__debug__" :Str))=false:=by decide):PE X (.Call (.Name x p) [] [] pos) (yf sp dvs E sH):=by
 intro ad s σ H Q I h;refine lV (kL I hg hm ?_ rW);exact callWith_K0 I.jO hk (wZ (us:=[]) F hr hb hd hx I .nil h)
theorem Nn{pl:Sem Bool}(he:PE X o ta)(c:OU X.K C)(hm:Meth X.K C m f)(F:aT X.prog X.w X.K X.mg X.base CX k f fd ps sp)(hr:dX k X.A)(hb:Binds X.K fd ps ds)(hd:Vals dvs ds)(hx:wf CX X E)
 (ht:eval (.Call (.Attribute o m apos) [] [] pos) X.env=(do
  let ov<-eval o X.env
  standAt apos.atName
  let(f,first)<-holding [ov] (getMethod ov m pl)
  callWith pos f first (backTo pos (starEach [] X.env)) (backToKw pos (keywordEach [] X.env))):=by rfl):
 PE X (.Call (.Attribute o m apos) [] [] pos) (U_ C m sp dvs E ta sH):=by
 intro ad s σ H Q I h;refine methodCall_KW (pl:=pl) (dk (he ad s σ H _ I h) λu s1 ⟨x,H1,I1,rx,a,dx,fs,ex,ea,l,q⟩=> ?_) ht;subst ex;obtain rfl:u=Value.ref a:=rx;refine HQ I1 ea c hm l ?_;exact callWith_K0 (first:=[.ref a]) I1.jO hm.kp (wZ (us:=[.ref a]) (vs:=[.ref a]) F hr hb hd hx I1 (.cons Z .nil) q)
structure Mk(K:Frag)(C f:S'):Prop where
 makes:makesIn K C=true
 init:PySem.W.findIn K (.ref C) "__init__"=some (some (.ref f))
 fn:PySem.W.isFn K (.ref f)=true
 kp:PySem.W.keepIn K (.ref C)=true
theorem Oo{ad:aQ}{σ:St}{H:Hp}{s:R'}{Q:VK}{us:aG}{vs:ak}(M:Mk X.K C f)(F:aT X.prog X.w X.K X.mg X.base CX k f fd ps sp)(hr:dX (k+1) X.A)(hb:Binds X.K fd ps ds)(hd:Vals dvs ds)
 (hx:wf CX X E) (I:Inv X ad σ H s) (r:Vals vs us)
 (h:∀x dx,H x=none->H dx=none->dx≠x->sp (.ref x::(vs++dvs)) (upd (upd H dx (.own x)) x (.ins C dx [])) (λv H2=>v= .bp/\Q (.ref x) H2) E):
 wpAny (model X.prog X.w) X.A (call (.ref C) us) (EP X ad σ Q) X.xe s:=by
 have hq:=h (s.heap.objs.size+1) s.heap.objs.size (I.bS.fresh (vD _)) (I.bS.fresh (aK _)) (cJ (zh _));have I2:=Inv.made (C:=C) I;have r2:Vals (V.ref (s.heap.objs.size+1)::(vs++dvs)) (Value.ref (s.heap.objs.size+1)::(us++ds)):= .cons Z (r.append hd)
 have hl:(Value.ref (s.heap.objs.size+1)::us++ds).length=ps.length:=by
  have e:=r2.length;rw[F.len _ _ _ _ hq] at e;exact e.symm
 refine oC (Nf (f:=f) I.jO M.makes M.init (rF.mp M.fn) (sf (F.run _ X.stack _ _ ⟨Value.ref (s.heap.objs.size+1)::us,[]⟩ (Value.ref (s.heap.objs.size+1)::(us++ds)) _ _ E (hr.make C us [])
  (I2.Wb.make C us []) (hb _ (Value.ref (s.heap.objs.size+1)::us) I2.jO hl) r2 hq) λr s' ME => ?_))
 cases r with
 |error e=>exact hx ad σ _ _ e s' I2 ME
 |ok fl=>
  cases fl with
  |ret u=>
   obtain⟨v,H',I3,rv,ev,q3⟩:=I2.after ME;subst ev;exact⟨rv,⟨V.ref (s.heap.objs.size+1),H',I3,Z,q3⟩⟩
  |next=>exact False.elim ME
  |brk=>exact False.elim ME
  |cont=>exact False.elim ME
theorem P0(M:Mk X.K C f)(F:aT X.prog X.w X.K X.mg X.base CX k f fd ps sp)(hr:dX (k+1) X.A)(hg:Gl X x)(hm:X.mg x=some (.ref C))(hb:Binds X.K fd ps ds)(hd:Vals dvs ds)(hx:wf CX X E)
 (ha:PA X (e::es) t) (rW:(x==("__debug__" :Str))=false:=by decide) (he:starEach (e::es) X.env=(false,eval e X.env)::starEach es X.env:=by rfl) (nA:(backTo pos (starEach es X.env)).any (·.1)=false:=by rfl):
 PE X (.Call (.Name x p) (e::es) [] pos) (aay C sp dvs E t):=by
 intro ad s σ H Q I h;refine lV (kL I hg hm ?_ rW);refine sg (h₀:=X.base) I.ok.mod.xp M.kp (dk (ha pos ad s σ H _ I h) λus s1 ⟨vs,H1,I1,r,q⟩=>⟨I1.jO,?_⟩) he nA;exact Oo M F hr hb hd hx I1 r q
end
section
variable{X:Cx}{CX:uk}{k:Nat}{f C:S'}{fd:aad}{ps ks:au}{sp:Sp}{E:XK}{x m:Str}{p pos apos alG:Pos}{e o:V'}{es:b7}{kws:List Keyword}{te ta:TE}{t tk:TA}{nm:Option Str}
variable{g:aG->aG->aG}{gV:ak->ak->ak}
end
structure aJ(N P:au)(sc:Scope):Prop where
 kind:sc.kind= .function
 co:sc.isCoroutine=false
 gen:sc.isGenerator=false
 nd:N.Nodup
 pre:N.take P.length=P
 par:∀x∈P,sc.names.lookup x=some .local\/sc.names.lookup x=some .cell
 WB:∀y∈sc.names,y.2≠.free
theorem Cz{kindOf:Str->Option NameKind}{x:Str}:∀{binds:List (Str×M')} {m:Str->aO},(∀v,(x,v)∉binds)->bindL kindOf binds m x=m x
 |[],_,_=>rfl
 |(n,v)::r,m,h=>by
  unfold bindL;rw[Cz λw hw=>h w (cw _ hw)]
  split
  .have:x≠n:=by rintro rfl;exact h v c5
   simp[this]
  .rfl
theorem Dj{kindOf:Str->Option NameKind}{x:Str}:∀{binds:List (Str×M')} {m:Str->aO},(∀v,(x,v)∉binds)->bindC kindOf binds m x=m x
 |[],_,_=>rfl
 |(n,v)::r,m,h=>by
  unfold bindC;rw[Dj λw hw=>h w (cw _ hw)]
  split
  .rfl
  .have:x≠n:=by rintro rfl;exact h v c5
   simp[this]
theorem CC{kindOf:Str->Option NameKind}{x:Str}{v:M'}:∀{P:au} {vs:aG} {i:Nat} {m:Str->aO},P.Nodup->P[i]? =some x->vs[i]? =some v->kindOf x=some .local->
 bindL kindOf (P.zip vs) m x=some v
 |[],_,_,_,_,h,_,_=>by simp at h
 |_::_,[],_,_,_,_,h,_=>by simp at h
 |p::P,w::vs,0,m,nd,h1,h2,hk=>by
  simp at h1 h2;subst h1;subst h2
  show bindL kindOf ((p,w)::P.zip vs) m p=_;unfold bindL;rw[Cz λv hv=>(vg.mp nd).1 (zW hv).1,aB hk];simp
 |p::P,w::vs,i+1,m,nd,h1,h2,hk=>by
  show bindL kindOf ((p,w)::P.zip vs) m x=_;unfold bindL;exact CC (i:=i) (vg.mp nd).2 (by simpa using h1) (by simpa using h2) hk
theorem Df{kindOf:Str->Option NameKind}{x:Str}{v:M'}:∀{P:au} {vs:aG} {i:Nat} {m:Str->aO},P.Nodup->P[i]? =some x->vs[i]? =some v->kindOf x≠some .local->
 bindC kindOf (P.zip vs) m x=some v
 |[],_,_,_,_,h,_,_=>by simp at h
 |_::_,[],_,_,_,_,h,_=>by simp at h
 |p::P,w::vs,0,m,nd,h1,h2,hk=>by
  simp at h1 h2;subst h1;subst h2
  show bindC kindOf ((p,w)::P.zip vs) m p=_;unfold bindC;rw[Dj λv hv=>(vg.mp nd).1 (zW hv).1,ax hk];simp
 |p::P,w::vs,i+1,m,nd,h1,h2,hk=>by
  show bindC kindOf ((p,w)::P.zip vs) m x=_;unfold bindC;exact Df (i:=i) (vg.mp nd).2 (by simpa using h1) (by simpa using h2) hk
noncomputable def start(N:au)(vs:ak):St:=vs.map some++List.replicate (N.length - vs.length) none
noncomputable def nD(CX:uk)(P:Z')(w:W')(K:Frag)(mg:Str->aO)(base:Y')(N:au)(qual:Str)(scope:Scope)(f:S')(cd:M')(A:X')(outer:List Env)(s:R')(H:Hp)(E:XK):Cx where
 prog:=P
 w:=w
 K:=K
 mg:=mg
 base:=base
 A:=A.deeper (envOfC qual scope s.heap.objs.size f cd)
 N:=N
 fO:=s
 H₀:=H
 env:=envOfC qual scope s.heap.objs.size f cd
 outer:=outer
 stack:=envOfC qual scope s.heap.objs.size f cd::outer
 ex:=[]
 calm:=true
 fn:=λ_=>true
 pn:=[]
 xe:=λe s' =>wpAny (model P w) (A.deeper (envOfC qual scope s.heap.objs.size f cd)) (leaving (envOfC qual scope s.heap.objs.size f cd) e) (λ_ N3 =>CX outer H s E e N3) (λe' N3 =>CX outer H s E e' N3) s'
theorem Gx{sc:Scope}{n:Nat}{x:Str}(h:sc.names.lookup x=some .cell):∃c,(cellsFrom n sc.names []).lookup x=some c:=by
 have q:=cellsFrom_some sc.names n [] (.inl h);exact Option.isSome_iff_exists.mp q
theorem Lr{CX:uk}{P:Z'}{w:W'}{K:Frag}{mg:Str->aO}{base:Y'}{N ps:au}{qual:Str}{scope:Scope}{f:S'}{cd:M'}{A:X'}{outer:List Env}{s s1:R'}{H:Hp}{E:XK}{us:aG}{vs:ak}
 (S:aJ N ps scope) (hd:A.handled=none) (e0:Ci P w K mg base A outer s H) (hl:vs.length=ps.length) (r:Vals vs us)
 (x:InCallC s s.heap.objs.size (bindL (envOfC qual scope s.heap.objs.size f cd).kindOf (ps.zip us) λ_=>none) (cellsFrom (s.heap.objs.size+1) scope.names []) (bindC (envOfC qual scope s.heap.objs.size f cd).kindOf (ps.zip us) λ_=>none) s1):
 Inv (nD CX P w K mg base N qual scope f cd A outer s H E) [] (start N vs) H s1:=by
 have nA:ps.length<=N.length:=by have:=congrArg List.length S.pre;rw[lM] at this;omega
 obtain⟨h1,tk,rfl,hk⟩:=x.done;have PU:∀b:S',b∉(nD CX P w K mg base N qual scope f cd A outer s H E).ex:=λb z=>absurd (show b∈([]:cc) from z) (by simp)
 refine⟨⟨e0.mod,S.kind,Z,Z,aK _,λy z c h1 h2=> ?_,λy hy=> ?_,λy c _ h=> ?_,λ_=>hd,Around.frames_deeper e0.frames,.inr ⟨Z,Z⟩,λb z=>absurd z (PU b),e0.bs,e0.Kv,λb _ _=>PU b,λb z=>absurd z (PU b),e0.sF,e0.O8⟩,
  rfl,e0.bare,Un.kept hk,⟨_,x.toInCall.ns,λi y v h1 h2 h3=> ?_⟩,λy c h=>⟨_,x.cell y c h⟩,e0.bS.fresh (aK _),λy c h=> ?_,λp hp=>absurd (show p∈([]:aQ) from hp) (by simp),e0.bS.kept hk,?_⟩
 .exact name_of_addr x.apart (i' h1) (i' h2)
 .have hy:scope.names.lookup y=some .cell\/scope.names.lookup y=some .free:=hy;rcases hy with hy|hy
  .exact Gx hy
  .exact absurd Z (S.WB _ (i' hy))
 .exact cT (x.above y c (i' h))
 .have hi:i<vs.length:=by
   unfold start at h2;by_cases hi:i<vs.length
   .exact hi
   .rw[kr (by simpa using hi)] at h2;rw[vR] at h2
    split at h2<;>cases h2
  have ha:vs[i]? =some v:=by
   unfold start at h2;rw[iy (by simpa using hi),bY] at h2
   cases e:vs[i]? with
   |none=>rw[e] at h2;cases h2
   |some a=>rw[e] at h2;cases h2;rfl
  obtain⟨u,hu,rv⟩:=r.get ha
  have hp:ps[i]? =some y:=by
   rw[<-S.pre,List.getElem?_take_of_lt (by omega)];exact h1
  have ndP:ps.Nodup:=by rw[<-S.pre];exact S.nd.sublist (List.take_sublist _ _)
  refine⟨u,rv,?_⟩;rcases S.par y (bE hp) with k|k
  .exact .inl ⟨k,CC ndP hp hu k⟩
  .obtain⟨c,e⟩:=Gx (n:=s.heap.objs.size+1) k;refine .inr ⟨.inl k,c,e,?_⟩;have q:=x.cell y c e;rw[Df ndP hp hu (by show scope.names.lookup y≠_;rw[k];decide)] at q;exact q
 .exact e0.bS.fresh (cT (x.above y c (i' h)))
 .unfold start;show _=N.length;rw[bu,a6,gM];omega
theorem JI{CX:uk}{P:Z'}{w:W'}{K:Frag}{mg:Str->aO}{base:Y'}{k:Nat}{f:S'}{name qual:Str}{params:Arguments}{body:List Stmt}{scope:Scope}{dV kV doc pm cB ct oc:M'}{an od:Option S'}
 {xC:Array (aO)} {N ps:au} {sp:Sp} (lk:K.lookup f=some ⟨oc,od,.func (PySem.W.fnOf name qual params body scope dV kV doc pm an cB ct),xC⟩) (AO:PySem.W.codeIn K cB qual=true) (S:aJ N ps scope)
 (len:∀vs H Q E,sp vs H Q E->vs.length=ps.length)
 (iF:∀(A:X') (outer:List Env) (s:R') (H:Hp) (vs:ak) (Q:VK) (E:XK),dX k (A.deeper (envOfC qual scope s.heap.objs.size f cB))->sp vs H Q E->
  ∃t,CW (nD CX P w K mg base N qual scope f cB A outer s H E) body t/\t {nx:=λ_ H' =>Q .bp H',rt:=Q} (start N vs) H):
 aT P w K mg base CX (k+1) f (PySem.W.fnOf name qual params body scope dV kV doc pm an cB ct) ps sp:=by
 refine⟨len,λA outer s H args us vs Q E hr e0 hb r CY=> ?_⟩;have hl:=len _ _ _ _ CY;have KX:K.In s.heap:=e0.mod.xp.keeps λb o e=>(e0.bs b o e).1;have lim:s.heap.NoLimit:=e0.mod.nolimit.keeps λb o e=>(e0.bs b o e).1
 have aah:∀y∈ps.zip us,scope.names.lookup y.1=some .local\/(scope.names.lookup y.1=some .cell/\((cellsFrom (s.heap.objs.size+1) scope.names []).lookup y.1).isSome=true):=λ⟨n,v⟩ hy=>by
  rcases S.par n (zW hy).1 with q|q
  .exact .inl q
  .exact .inr ⟨q,cellsFrom_some _ _ _ (.inl q)⟩
 refine codeAny_call_function hr.depth (KX _ _ lk) Z S.co S.gen Z (PySem.W.codeRec_of KX AO) (hb _ _ _ _ ?_);refine wpAny_newFunctionEnv_cells S.kind aah λenv he s1 x=> ?_;subst he;refine⟨lim.keeps x.toInCall.keep,codeAny_func ?_⟩;obtain⟨t,ht,hq⟩:=iF A outer s H vs Q E (hr.deeper _) CY;have I:Inv (nD CX P w K mg base N qual scope f cB A outer s H E) [] (start N vs) H s1:=Lr S hr.hd e0 hl r x;refine fV (ht [] s1 (start N vs) H _ I hq) (λfl s' hs=> ?_) λe s' hs=>hs
 have fin:∀{fD :St} {H' :Hp} {v:V} {u:M'},Inv (nD CX P w K mg base N qual scope f cB A outer s H E) [] fD H' s'->RelV v u->Q v H'->CE outer P w H s Q u s' :=
  λ{fD H' v u} J rv q=>⟨v,H',J.os,J.bare,J.base,J.bS,rv,q⟩
 cases fl with
 |ret u=>
  obtain⟨v,fD,H',J,rv,q⟩:=hs;exact fin J rv q
 |next=>
  obtain⟨fD,H',J,q⟩:=hs;exact fin (v:=V.bp) (u:=Value.none) J Z q
 |brk=>
  obtain⟨_,_,_,q⟩:=hs;exact False.elim q
 |cont=>
  obtain⟨_,_,_,q⟩:=hs;exact False.elim q
section
variable{X:Cx}{x:Str}{p pos:Pos}{e:V'}{es:b7}{t:TA}{id T:String}{r:ak->Hp->VK->Prop}
def tCB(r:ak->Hp->VK->Prop)(t:TA):TE:=λσ H Q=>t σ H λvs H1=>r vs H1 Q
theorem OD(hc:iZ X (.builtin id) r)(hg:Gl X x)(hm:X.mg x=none)(hv:bootBuiltins x=some (.builtin id))(ha:PA X (e::es) t)(hn:x≠ "__name__":=by decide)(rW:(x==("__debug__" :Str))=false:=by decide)
 (he:starEach (e::es) X.env=(false,eval e X.env)::starEach es X.env:=by rfl) (nA:(backTo pos (starEach es X.env)).any (·.1)=false:=by rfl):PE X (.Call (.Name x p) (e::es) [] pos) (tCB r t):=by
 intro ad s σ H Q I h;refine lV (uH I hg hm hv ?_ hn rW);exact Kg (dk (ha pos ad s σ H _ I h) λus s1 ⟨vs,H1,I1,r1,q1⟩=>hc ad s1 σ H1 vs us Q I1 r1 q1) he nA
theorem KH(hc:iZ X (.type T) r)(hg:Gl X x)(hm:X.mg x=none)(hv:bootBuiltins x=some (.type T))(ha:PA X (e::es) t)(hn:x≠ "__name__":=by decide)(rW:(x==("__debug__" :Str))=false:=by decide)
 (he:starEach (e::es) X.env=(false,eval e X.env)::starEach es X.env:=by rfl) (nA:(backTo pos (starEach es X.env)).any (·.1)=false:=by rfl):PE X (.Call (.Name x p) (e::es) [] pos) (tCB r t):=by
 intro ad s σ H Q I h;refine lV (uH I hg hm hv ?_ hn rW);exact zK (dk (ha pos ad s σ H _ I h) λus s1 ⟨vs,H1,I1,r1,q1⟩=>hc ad s1 σ H1 vs us Q I1 r1 q1) he nA
end
end L2
namespace HT
open PySem PyProof.Rows
section
open PySem.SeqAt
open PySem.AutoSeq1 (wpAny_loadPart')
open PySem.MeetsSeq PySem.MeetsSeq2 PySem.MeetsSeq3
end
section
variable{prog:Z'}{w:W'}{A:X'}{E:J'}{s:R'}
theorem Qn{t b:S'}{vs ws:aG}{Q:J'}(ht:IsTup s.heap t vs.toArray)(hb:IsTup s.heap b ws.toArray)(hv:vs≠[])
 (h1:ws=[]->Q (.ref t) s) (h2:ws≠[]->Q (.ref s.heap.objs.size) {s with heap:=s.heap.push {cls:= .type "tuple",data:= .seq (vs++ws).toArray}})
 (ql:vs.length+ws.length<=sizeLine):wpAny (model prog w) A (binaryOp .Add (.ref t) (.ref b)) Q E s:=by
 obtain⟨⟨cls,dd,data,sl⟩,ho,hc,n,hd⟩:=id ht;obtain⟨⟨al8,VJ,data2,sl2⟩,ho2,hc2,n2,hd2⟩:=id hb;simp only at hc hd hc2 hd2;subst hc hd hc2 hd2;have e:vs.toArray++ws.toArray=(vs++ws).toArray:=by simp
 by_cases hw:ws=[]
 .exact concat_meets ⟨_,ho,Z⟩ ⟨_,ho2,Z⟩ noFill_tuple_add seq_tuple_add slot_tuple_add entry_tuple_add (args_tuple_add_2 _ _)
   (tuple_addW1 t b vs.toArray ws.toArray n n2 dd VJ sl sl2 (by simpa using hv) (by simp[hw])) ⟨ho,ho2,h1 hw⟩
 .refine concat_meets ⟨_,ho,Z⟩ ⟨_,ho2,Z⟩ noFill_tuple_add seq_tuple_add slot_tuple_add entry_tuple_add (args_tuple_add_2 _ _)
   (tuple_addW2 t b vs.toArray ws.toArray n n2 dd VJ sl sl2 (by simpa using hv) (by simpa using hw) (by rw[bJ,bJ];exact ql)) ⟨ho,ho2,?_⟩
  rw[e];exact h2 hw
noncomputable def gH(n d:Nat):Option Int->Nat
 |none=>d
 |some v=>if v<0 then(v+(n:Int)).toNat else min v.toNat n
theorem qi(n d:Nat):gH n d none=d:=rfl
theorem h9(n d k:Nat):gH n d (some (k:Int))=min k n:=by
 show(if(k:Int)<0 then((k:Int)+(n:Int)).toNat else min (k:Int).toNat n)=min k n;rw[ax (by omega),ny]
theorem W_(n d:Nat)(hd:d<=n)(o:Option Int):gH n d o<=n:=by
 cases o with
 |none=>exact hd
 |some v=>
  show(if v<0 then(v+(n:Int)).toNat else min v.toNat n)<=n;by_cases hv:v<0
  .rw[aB hv];omega
  .rw[ax hv];exact Nat.min_le_right _ _
theorem Km(v:Int)(n d:Nat):(if v<0 then max (v+(n:Int)) 0 else min v (n:Int))=((gH n d (some v):Nat):Int):=by
 show(if v<0 then max (v+(n:Int)) 0 else min v (n:Int))=(((if v<0 then(v+(n:Int)).toNat else min v.toNat n):Nat):Int);by_cases hv:v<0
 .simp only[aB hv];omega
 .simp only[ax hv];omega
theorem Ht(lo hi:Option Int)(n:Nat):Builtin.Slice.sliceAdjust lo hi 1 (n:Int)=(((gH n 0 lo:Nat):Int),((gH n n hi:Nat):Int)):=by
 have h1:¬((1:Int)<0):=by omega
 unfold Builtin.Slice.sliceAdjust;simp only[h1,mJ];refine Prod.ext ?_ ?_
 .cases lo with
  |none=>rfl
  |some v=>exact Km v n 0
 .cases hi with
  |none=>rfl
  |some v=>exact Km v n n
theorem Iv(i j:Nat):Builtin.Slice.slicePlaces (i:Int) (j:Int) 1=j - i:=by
 unfold Builtin.Slice.slicePlaces;have h1:(1:Int)>0:=by omega
 simp only[h1,o5,Int.ediv_one]
 split<;>omega
theorem Ao{v:M'}{o:Option Int}{Q:Option Int->R'->Prop}(p:IsPart v o)(h:Q o s):wpAny (model prog w) A (Builtin.Slice.slicePartIndex v) Q E s:=by
 cases p with
 |none=>exact slicePart_none h
 |int i t=>exact slicePart_int h
theorem nJ{sl:S'}{vl vu:M'}{lo hi:Option Int}{n:Nat}{Q:Int×Int×Nat->R'->Prop}(hs:s.heap.IsSliceOf sl vl vu .none)(pl:IsPart vl lo)(pu:IsPart vu hi)
 (h:Q (((gH n 0 lo:Nat):Int),1,gH n n hi - gH n 0 lo) s):wpAny (model prog w) A (Builtin.Slice.sliceApplied (.ref sl) (pure (n:Int))) Q E s:=by
 obtain⟨os,VT,hcs,Hh⟩:=id hs;unfold Builtin.Slice.sliceApplied Builtin.Slice.sliceFields;refine aw (aw (c6 VT Hh (x:=vl) Z (aw (c6 VT Hh (x:=vu) Z (aw (c6 VT Hh (x:= .none) Z (aY ?_)))))));refine aw (slicePart_none ?_);show wpAny _ _ (if((1:Int)==0)=true then _ else _) _ _ s;rw[ax (by decide)];refine aw (Ao pl (aw (Ao pu (aw (aY ?_)))));show wpAny _ _ (match Builtin.Slice.sliceAdjust lo hi 1 (n:Int) with|(lo,hi)=>pure (lo,(1:Int),Builtin.Slice.slicePlaces lo hi 1)) _ _ s;rw[Ht lo hi n];show wpAny _ _ (pure (((gH n 0 lo:Nat):Int),(1:Int),Builtin.Slice.slicePlaces ((gH n 0 lo:Nat):Int) ((gH n n hi:Nat):Int) 1)) _ _ s;rw[Iv];exact aY h
theorem Me(xs:Array M')(i k:Nat):((List.range k).filterMap λ(m:Nat)=>xs[((i:Int)+(m:Int)*1).toNat]?).toArray=((xs.toList.drop i).take k).toArray:=by
 have e:(λ(m:Nat)=>xs[((i:Int)+(m:Int)*1).toNat]?)=λm=>xs[i+m]? :=by
  funext m
  have:((i:Int)+(m:Int)*1).toNat=i+m:=by omega
  rw[this]
 rw[e];have:=pick_run xs i k;rw[List.filterMap_map] at this;have e2:((λx=>xs[x]?) ∘ λx=>i+x)=λm=>xs[i+m]? :=rfl;rw[e2] at this;rw[this]
theorem vL{t sl:S'}{items:Array M'}{vl vu:M'}{lo hi:Option Int}{Q:J'}(ht:IsTup s.heap t items)(hs:s.heap.IsSliceOf sl vl vu .none)(pl:IsPart vl lo)(pu:IsPart vu hi)
 (hw:¬(gH items.size 0 lo=0/\gH items.size items.size hi=items.size))
 (h:Q (.ref s.heap.objs.size) {s with heap:=s.heap.push {cls:= .type "tuple",data:= .seq ((items.toList.drop (gH items.size 0 lo)).take (gH items.size items.size hi - gH items.size 0 lo)).toArray}})
 (ql:items.size<=sizeLine):wpAny (model prog w) A (getItem (.ref t) (.ref sl)) Q E s:=by
 have JA:sizeOk (.seq ((items.toList.drop (gH items.size 0 lo)).take (gH items.size items.size hi - gH items.size 0 lo)).toArray):=by
  show((items.toList.drop (gH items.size 0 lo)).take (gH items.size items.size hi - gH items.size 0 lo)).toArray.size<=sizeLine;rw[bJ,lM,og,zA];omega
 have hj:gH items.size items.size hi<=items.size:=W_ _ _ (aK _) hi;obtain⟨os,VT,hcs,Hh⟩:=id hs;have Yp:s.TypeIs (.ref sl) "slice":=⟨os,VT,hcs⟩;unfold getItem
 try with_reducible refine kh ?_
 first|refine aw (aY ?_)|skip
 refine aw (wpAny_sequenceKey ht.typeIs (by decide) ?_)
 refine aw (xc (name:=Str.ofString "__getitem__") ht.typeIs xf
  (uw xf ht.typeIs entry_tuple_getitem ?_ (args_tuple_getitem _ _)))
 show wpAny _ _ (Builtin.Tuple.tupleItemsOf (.ref t)>>= _) _ _ s;refine aw (tupleItemsOf_ ht ?_);refine aw (wpAny_typeOf Yp ?_);rw[aB (by decide)];refine aw (nJ hs pl pu ?_)
 have hno:¬((((gH items.size 0 lo:Nat):Int)==0&&(1:Int)==1&&(gH items.size items.size hi - gH items.size 0 lo)==items.size)=true):=by
  intro q;rw[cI,cI] at q;have q1:((gH items.size 0 lo:Nat):Int)=0:=eq_of_beq q.1.1;have q2:gH items.size items.size hi - gH items.size 0 lo=items.size:=eq_of_beq q.2;exact hw ⟨by omega,by omega⟩
 show wpAny _ _ (if(((gH items.size 0 lo:Nat):Int)==0&&(1:Int)==1&&(gH items.size items.size hi - gH items.size 0 lo)==items.size)=true then _ else _) _ _ s;rw[ax hno,Me]
 first
  |exact aw (m:=Builtin.Tuple.tupleExact _) (oU (aY ⟨_,rfl,aY h⟩) JA)
  |exact aw (m:=Builtin.Tuple.tupleExact _) (oU (aw (aY (aY ⟨_,rfl,aY h⟩))) JA)
  |exact aw (aw (m:=Builtin.Tuple.tupleExact _) (oU (aY (aY ⟨_,rfl,aY h⟩)) JA))
  |exact aw (aw (m:=Builtin.Tuple.tupleExact _) (oU (aY ⟨_,rfl,aY h⟩) JA))
end
end HT
namespace L2
open PySem PySem.Spec PyProof.Rows
abbrev TO:=St->Hp->(Option Int->Hp->Prop)->Prop
def PO(X:Cx)(e:Option V')(t:TO):Prop:=
 ∀(ad:aQ) (s:R') (σ:St) (H:Hp) (Q:Option Int->Hp->Prop),Inv X ad σ H s->t σ H Q->
  wpAny (model X.prog X.w) X.A (evalPart e X.env) (λu s' =>∃o H',Inv X ad σ H' s'/\IsPart u o/\Q o H') X.xe s
def rV:TO:=λ_ H Q=>Q none H
def CS(t:TE):TO:=λσ H Q=>t σ H λx H1=>∃i,x= .int i/\Q (some i) H1
section
variable{X:Cx}{e:V'}{te:TE}{lo hi:Option V'}{tl th:TO}{pos p2:Pos}
theorem bW:PO X none rV:=by
 intro ad s σ H Q I h;rw[evalPart_none];exact aY ⟨none,H,I,.none,h⟩
theorem bQ(h:PE X e te):PO X (some e) (CS te):=by
 intro ad s σ H Q I hw;rw[evalPart_some];refine dk (h ad s σ H _ I hw) λu s1 ⟨x,H1,I1,r1,q1⟩=> ?_;obtain⟨i,rfl,q⟩:=q1;obtain⟨t,rfl⟩:=r1;exact⟨some i,H1,I1,.int i t,q⟩
def X4(X:Cx)(r:V->Option Int->Option Int->Hp->VK->Prop):Prop:=
 ∀(ad:aQ) (s:R') (σ:St) (H:Hp) (x:V) (v vl vu:M') (lo hi:Option Int) (sl:S') (Q:VK),Inv X ad σ H s->RelV x v->s.heap.IsSliceOf sl vl vu .none->IsPart vl lo->IsPart vu hi->r x lo hi H Q->
  ∃T id,typeLookup (.type T) "__getitem__"=pure (some (.builtin id))/\s.TypeIs v T/\wpAny (model X.prog X.w) X.A (getItem v (.ref sl)) (EP X ad σ Q) X.xe s
def RD(r:V->Option Int->Option Int->Hp->VK->Prop)(te:TE)(tl th:TO):TE:=λσ H Q=>te σ H λx H1=>tl σ H1 λl H2=>th σ H2 λu H3=>r x l u H3 Q
theorem dH{r:V->Option Int->Option Int->Hp->VK->Prop}(hr:X4 X r)(he:PE X e te)(hl:PO X lo tl)(hu:PO X hi th):PE X (.Subscript e (.Slice lo hi none p2) pos) (RD r te tl th):=by
 intro ad s σ H Q I h;refine Subscript_ (dk (he ad s σ H _ I h) λv s1 ⟨x,H1,I1,r1,q1⟩=> ?_);refine wpAny_Slice (dk (hl ad s1 σ H1 _ I1 q1) λvl s2 ⟨l,H2,I2,pl,q2⟩=>dk (hu ad s2 σ H2 _ I2 q2) λvu s3 ⟨u,H3,I3,pu,q3⟩=> ?_);rw[evalPart_none];refine aY ?_;have I4:Inv X ad σ H3 {s3 with heap:=s3.heap.push {cls:= .type "slice",data:= .fields #[vl,vu,.none]}}:=I3.kept (t' :=s3.toks) λb ob q=>bq _ q;obtain⟨T,id,hT,ht,hg⟩:=hr ad {s3 with heap:=s3.heap.push {cls:= .type "slice",data:= .fields #[vl,vu,.none]}} σ H3 x v vl vu l u s3.heap.objs.size Q I4 r1 (Heap.IsSliceOf.new ..) pl pu q3;show wpAny (model X.prog X.w) X.A (subscriptTail e (.Slice lo hi none p2) v (.ref s3.heap.objs.size)) (EP X ad σ Q) X.xe {s3 with heap:=s3.heap.push {cls:= .type "slice",data:= .fields #[vl,vu,.none]}};exact tail_any (ops:=[.ref s3.heap.objs.size,v]) ht hT hg (by with_unfolding_all rfl)
noncomputable def cZ(xs:ak)(lo hi:Option Int):ak:=(xs.drop (HT.gH xs.length 0 lo)).take (HT.gH xs.length xs.length hi - HT.gH xs.length 0 lo)
theorem yG(xs:ak)(lo hi:Option Int):(cZ xs lo hi).length<=xs.length:=by
 unfold cZ;rw[lM,og];omega
def QP(K:Frag):V->Option Int->Option Int->Hp->VK->Prop:=λx lo hi H Q=>∃a xs,x= .ref a/\bc K H a xs/\
 ¬(HT.gH xs.length 0 lo=0/\HT.gH xs.length xs.length hi=xs.length)/\∀p,H p=none->Q (.ref p) (upd H p (.tup (cZ xs lo hi)))
theorem iu:X4 X (QP X.K):=by
 intro ad s σ H x v vl vu lo hi sl Q I rx hs pl pu h;obtain⟨a,xs,rfl,hx,hw,q⟩:=h;cases rx;obtain⟨its,r,ht,hz⟩:=I.tuple hx;have hlen:its.toArray.size=xs.length:=by rw[bJ];exact r.length.symm
 refine⟨"tuple",_,xf.lookup,ht.typeIs,?_⟩;refine HT.vL ht hs pl pu (by rw[hlen];exact hw) ?_ (by rw[hlen];exact hz);rw[hlen];refine⟨.ref s.heap.objs.size,_,I.laid (t' :=s.toks) (o:= .tup (cZ xs lo hi)) (λb ob q=>bq _ q) (aK _) ?_,Z,q _ (I.bS.fresh (aK _))⟩;exact⟨aU (yG xs lo hi) hz,_,(r.drop (HT.gH xs.length 0 lo)).take (HT.gH xs.length xs.length hi - HT.gH xs.length 0 lo),IsTup.new _ _⟩
def Sb(K:Frag):R2:=λx y H Q=>∃a b xs ys,x= .ref a/\y= .ref b/\bc K H a xs/\bc K H b ys/\xs≠[]/\xs.length+ys.length<=sizeLine/\
 (ys=[]->Q (.ref a) H)/\(ys≠[]->∀p,H p=none->Q (.ref p) (upd H p (.tup (xs++ys))))
theorem Vals.DP{xs:ak}{us:aG}(r:Vals xs us):us=[]↔xs=[]:=by
 cases r with
 |nil=>simp
 |cons _ _=>simp
theorem jI:n6 X (binaryOp .Add) (Sb X.K):=by
 intro ad s σ H x y v u Q I rx ry h;obtain⟨a,b,xs,ys,rfl,rfl,ha,hb,hx,hz,q1,q2⟩:=h;cases rx;cases ry;obtain⟨its,r1,p1,_⟩:=I.tuple ha;obtain⟨pB,r2,p2,_⟩:=I.tuple hb;refine HT.Qn p1 p2 (λz=>hx (r1.DP.mp z)) (λz=>⟨.ref a,H,I,Z,q1 (r2.DP.mp z)⟩) (λz=> ?_) (by rw[<-r1.length,<-r2.length];exact hz);refine⟨.ref s.heap.objs.size,_,I.laid (t' :=s.toks) (o:= .tup (xs++ys)) (λb ob q=>bq _ q) (aK _) ?_,Z,q2 (λw=>z (r2.DP.mpr w)) _ (I.bS.fresh (aK _))⟩;exact⟨by rw[bu];exact hz,_,r1.append r2,IsTup.new _ _⟩
end
noncomputable def Qj(n:Nat)(i:Int):Option Nat:=if 0<=i then(if i<n then some i.toNat else none) else if -(n:Int)<=i then some (i+n).toNat else none
noncomputable def OS{α:Type}(xs:List α)(i:Int):Option α:=(Qj xs.length i).bind λj=>xs[j]?
theorem J6{n:Nat}{i:Int}{j:Nat}(h:Qj n i=some j):seqIndex? i n=some j/\j<n/\ -(n:Int)<=i/\i<n:=by
 unfold Qj at h;by_cases h0:0<=i
 .rw[aB h0] at h;by_cases h1:i<n
  .rw[aB h1] at h;have e:i.toNat=j:=fW h;exact⟨by rw[seqIndex_of h0 h1,e],by omega,by omega,h1⟩
  .rw[ax h1] at h;cases h
 .rw[ax h0] at h;by_cases h1: -(n:Int)<=i
  .rw[aB h1] at h;have e:(i+n).toNat=j:=fW h;exact⟨by rw[seqIndex_neg (by omega) h1,e],by omega,h1,by omega⟩
  .rw[ax h1] at h;cases h
theorem DW{α:Type}{xs:List α}{i:Int}{v:α}(h:OS xs i=some v):∃j,seqIndex? i xs.length=some j/\xs[j]? =some v/\j<xs.length/\ -(xs.length:Int)<=i/\i<xs.length:=by
 unfold OS at h
 cases e:Qj xs.length i with
 |none=>rw[e] at h;cases h
 |some j=>
  rw[e] at h;obtain⟨h1,h2,h3,h4⟩:=J6 e;exact⟨j,h1,h,h2,h3,h4⟩
theorem bb{α:Type}{xs:List α}{j:Nat}{v:α}(h:xs[j]? =some v):OS xs (j:Int)=some v:=by
 have hj:j<xs.length:=(c8.mp h).1
 have e:Qj xs.length (j:Int)=some j:=by
  unfold Qj;rw[aB (by omega),aB (by omega)];simp
 unfold OS;rw[e];exact h
theorem MR{α:Type}(xs:List α)(v:α):OS (xs++[v]) (-1)=some v:=by
 have hl:(xs++[v]).length=xs.length+1:=by simp
 have e:Qj (xs++[v]).length (-1)=some xs.length:=by
  unfold Qj;rw[hl,ax (by decide),aB (by omega)]
  congr 1
  omega
 unfold OS;rw[e];show(xs++[v])[xs.length]? =some v;simp
def Fc(b:V'):Prop:=∀o i,subscripted b false o i=operate [o,i] (getItem o i)
def WZ(X:Cx)(r:R2):Prop:=
 ∀(value slice:V') (ad:aQ) (s:R') (σ:St) (H:Hp) (x y:V) (v u:M') (Q:VK),Inv X ad σ H s->RelV x v->RelV y u->r x y H Q->
  subscripted slice false v u=operate [v,u] (getItem v u)->wpAny (model X.prog X.w) X.A (subscriptTail value slice v u) (EP X ad σ Q) X.xe s
def MtR(X:Cx)(id:String)(r:V->ak->Hp->VK->Prop):Prop:=
 ∀(ad:aQ) (s:R') (σ:St) (H:Hp) (x:V) (xs:ak) (v:M') (us:aG) (Q:VK),Inv X ad σ H s->RelV x v->Vals xs us->r x xs H Q->
  wpAny (model X.prog X.w) X.A (call (.builtin id) (v::us)) (EP X ad σ Q) X.xe s
section
variable{X:Cx}{a b:V'}{ta tb:TE}{pos:Pos}
theorem UR{r:R2}(hr:WZ X r)(ha:PE X a ta)(hb:PE X b tb)(hs:Fc b):PE X (.Subscript a b pos) (wN r ta tb):=by
 intro ad s σ H Q I h;exact Subscript_ (VN ha hb I h λv u s2 x y H2 I2 rx ry q=>hr a b ad s2 σ H2 x y v u Q I2 rx ry q (hs _ _))
def PY(K:Frag):R2:=λx y H Q=>∃p xs i v,x= .ref p/\y= .int i/\cF K H p xs/\OS xs i=some v/\Q v H
def adk(K:Frag):R2:=λx y H Q=>∃p xs i v,x= .ref p/\y= .int i/\bc K H p xs/\OS xs i=some v/\Q v H
def Pq:R2:=λx y H Q=>∃z i c,x= .str z/\y= .int i/\z.length<=sizeLine/\OS z.cps.toList i=some c/\Q (.str ⟨#[c]⟩) H
theorem a8:WZ X (PY X.K):=by
 intro value slice ad s σ H x y v u Q I rx ry h hs;obtain⟨p,xs,i,z,rfl,rfl,hq,he,q⟩:=h;cases rx;obtain⟨t,rfl⟩:=ry;obtain⟨its,r,pl,hz⟩:=I.list hq;obtain⟨j,h1,h2,h3,h4,h5⟩:=DW he;obtain⟨w,ew,Mw⟩:=r.get h2;have hl:=r.length;have hn:=uM;have fin:EP X ad σ Q w s:=⟨z,H,I,Mw,q⟩;by_cases h0:0<=i
 .have hj:i.toNat=j:=by
   rw[seqIndex_of h0 h5] at h1;exact fW h1
  exact item_listR pl.isList h0 (by omega) (by rw[hj];simpa using ew) fin hs
 .have hj:(i+(its.toArray.size:Int)).toNat=j:=by
   rw[seqIndex_neg (by omega) h4] at h1;rw[bJ,<-hl];exact fW h1
  exact subscriptTail_builtinR (x:=w) pl.isList.typeIs slot_list_getitem.lookup
   (wpAny_getItem_list_neg (Q:=λr s' =>r=w/\EP X ad σ Q r s') pl.isList (by omega) (by rw[bJ]<;>omega) (by omega) (by rw[hj];simpa using ew) ⟨Z,fin⟩) hs
theorem aN:WZ X (adk X.K):=by
 intro value slice ad s σ H x y v u Q I rx ry h hs;obtain⟨p,xs,i,z,rfl,rfl,hq,he,q⟩:=h;cases rx;obtain⟨t,rfl⟩:=ry;obtain⟨its,r,pl,hz⟩:=I.tuple hq;obtain⟨j,h1,h2,h3,h4,h5⟩:=DW he;obtain⟨w,ew,Mw⟩:=r.get h2;have hl:=r.length;have hn:=uM;have fin:EP X ad σ Q w s:=⟨z,H,I,Mw,q⟩
 exact subscriptTail_builtinR (x:=w) pl.typeIs slot_tuple_getitem.lookup
  (getItem_tuple (j:=j) (Q:=λr s' =>r=w/\EP X ad σ Q r s') pl (by omega) (by omega) (by rw[bJ,<-hl];exact h1) (by simpa using ew) ⟨Z,fin⟩) hs
theorem AK:WZ X Pq:=by
 intro value slice ad s σ H x y v u Q I rx ry h hs;obtain⟨z,i,c,rfl,rfl,hz,he,q⟩:=h;obtain⟨t,rfl⟩:=rx;obtain⟨t',rfl⟩:=ry;obtain⟨j,h1,h2,h3,h4,h5⟩:=DW he;have hl:z.cps.toList.length=z.length:=by simp[Str.length]
 rw[hl] at h1 h4 h5;have hn:=uM
 exact tail_any (typeIs_str s z t) slot_str_getitem.lookup (getItem_str (c:=c) (by
  have e1:decide (i< -(2 ^ 63:Int))=false:=ba (by omega);have e2:decide (i≥2 ^ 63)=false:=ba (by omega);rw[e1,e2,Bool.or_false]) (by rw[h1];simpa using h2) ⟨.str ⟨#[c]⟩,H,I.tok _,⟨_,Z⟩,q⟩) hs
theorem II(its:aG)(n j:Nat)(u:M'):Obj.mapSeq (·.setIfInBounds j u) {cls:= .type "list",data:= .seq its.toArray n}={cls:= .type "list",data:= .seq (its.set j u).toArray n}:=by
 simp[Obj.mapSeq]
theorem Inv.lst{ad:aQ}{σ:St}{H:Hp}{s:R'}{p:S'}{xs:ak}(I:Inv X ad σ H s)(h:H p=some (.lst xs)):
 ∃(its:aG) (n:Nat),Vals xs its/\s.heap.get? p=some {cls:= .type "list",data:= .seq its.toArray n}/\xs.length<=sizeLine:=by
 obtain⟨z,its,n,r,e⟩:=I.bS p _ h;exact⟨its,n,r,e,z⟩
theorem Inv.Wv{ad:aQ}{σ:St}{H:Hp}{s:R'}{p:S'}{xs ys:ak}{its its' :aG}{n n' :Nat}{f:Obj->Obj}(I:Inv X ad σ H s)(h:H p=some (.lst xs))
 (ho:s.heap.get? p=some {cls:= .type "list",data:= .seq its.toArray n}) (hf:f {cls:= .type "list",data:= .seq its.toArray n}={cls:= .type "list",data:= .seq its'.toArray n'}) (r:Vals ys its') (hz:ys.length<=sizeLine) (t:Nat):
 Inv X ad σ (upd H p (.lst ys)) {s with heap:=s.heap.update p f,toks:=t}:=by
 have e:(s.heap.update p f).get? p=some {cls:= .type "list",data:= .seq its'.toArray n'}:=by
  rw[ma f ho (by rw[hf]<;>rfl),hf]
 refine I.write (x:=p) (e:=p) (by rw[h];trivial) (.inl Z) (λb u hb q=>(gn _ _ (ck hb)).trans q) ⟨_,e⟩ ?_;exact⟨hz,its',n',r,e⟩
def abC:V->V->V->Hp->(Hp->Prop)->Prop:=λo i v H Q=>∃p xs k j,o= .ref p/\i= .int k/\H p=some (.lst xs)/\Qj xs.length k=some j/\Q (upd H p (.lst (xs.set j v)))
theorem ZB:ZH X abC:=by
 intro ad s σ H o i v ov iv u Q I ro ri rv h;obtain⟨p,xs,k,j,rfl,rfl,hp,hj,q⟩:=h;cases ro;obtain⟨t,rfl⟩:=ri;obtain⟨its,n,r,ho,hz⟩:=I.lst hp;obtain⟨h1,h2,h3,h4⟩:=J6 hj;have hl:=r.length;have hn:=uM
 have I' :Inv X ad σ (upd H p (.lst (xs.set j v))) {s with heap:=s.heap.update p (Obj.mapSeq (·.setIfInBounds j u))}:=
  I.Wv hp ho (II its n j u) (r.set rv j) (by rw[D0];exact hz) s.toks
 by_cases h0:0<=k
 .have hk:k.toNat=j:=by
   rw[seqIndex_of h0 h4] at h1;exact fW h1
  exact PySem.W.ki_setAt ho h0 (by omega) (by rw[bJ,<-hl];exact h4) (by rw[hk];exact⟨_,I',q⟩)
 .have hk:(k+(its.toArray.size:Int)).toNat=j:=by
   rw[seqIndex_neg (by omega) h3] at h1;rw[bJ,<-hl];exact fW h1
  exact PySem.W.ki_setBack ho (by omega) (by rw[bJ,<-hl];exact h3) (by omega) (by rw[hk];exact⟨_,I',q⟩)
theorem EN(lo hi:Option Int)(n:Nat):(sliceBounds lo hi none n).1=((HT.gH n 0 lo:Nat):Int)/\(sliceBounds lo hi none n).2.1=((HT.gH n n hi:Nat):Int)/\(sliceBounds lo hi none n).2.2=1:=by
 refine⟨?_,?_,Z⟩
 .cases lo with
  |none=>simp[sliceBounds,HT.gH]
  |some i=>
   simp only[sliceBounds,HT.gH,Option.getD_none,show(1:Int)>0 by decide,o5];by_cases h:i<0
   .simp only[h,o5]<;>omega
   .simp only[h,mJ]<;>omega
 .cases hi with
  |none=>simp[sliceBounds,HT.gH]
  |some i=>
   simp only[sliceBounds,HT.gH,Option.getD_none,show(1:Int)>0 by decide,o5];by_cases h:i<0
   .simp only[h,o5]<;>omega
   .simp only[h,mJ]<;>omega
theorem Cr(its:aG)(lo hi:Option Int):slicePick its.toArray lo hi none=((its.drop (HT.gH its.length 0 lo)).take (HT.gH its.length its.length hi - HT.gH its.length 0 lo)).toArray:=by
 obtain⟨h1,h2,h3⟩:=EN lo hi its.toArray.size;unfold slicePick;rw[h1,h2,h3];simp only[sliceRange_one,pick_run,bJ]<;>rfl
def Ww(K:Frag):V->Option Int->Option Int->Hp->VK->Prop:=λx lo hi H Q=>∃a xs,x= .ref a/\cF K H a xs/\∀p,H p=none->Q (.ref p) (upd H p (.lst (cZ xs lo hi)))
theorem mI:X4 X (Ww X.K):=by
 intro ad s σ H x v vl vu lo hi sl Q I rx hs pl pu h;obtain⟨a,xs,rfl,hx,q⟩:=h;cases rx;obtain⟨its,r,ht,hz⟩:=I.list hx;have hlen:=r.length;refine⟨"list",_,slot_list_getitem.lookup,ht.isList.typeIs,?_⟩;refine wpAny_getItem_list_slice ht.isList hs pl pu .none (by simp) ?_ (by rw[bJ]<;>omega);rw[Cr,<-hlen];refine⟨.ref s.heap.objs.size,_,I.laid (t' :=s.toks) (o:= .lst (cZ xs lo hi)) (λb ob q=>bq _ q) (aK _) ?_,Z,q _ (I.bS.fresh (aK _))⟩;exact⟨aU (yG xs lo hi) hz,_,0,(r.drop (HT.gH xs.length 0 lo)).take (HT.gH xs.length xs.length hi - HT.gH xs.length 0 lo),cV _ Z⟩
noncomputable def nQ:V->Bool
 | .bp=>true
 | .bl _=>true
 | .int _=>true
 | .str _=>true
 |_=>false
noncomputable def Hi:V->V->Bool
 | .bp,.bp=>true
 | .bl a,.bl b=>a==b
 | .bl a,.int b=>(if a then 1 else 0)==b
 | .int a,.bl b=>a==(if b then 1 else 0)
 | .int a,.int b=>a==b
 | .str a,.str b=>a==b
 |_,_=>false
theorem NV{A:X'}{s:R'}{y x:V}{u v:M'}(ry:RelV y u)(rx:RelV x v)(fy:nQ y=true)(fx:nQ x=true):SeqAt.EqAt A s u v (Hi y x):=by
 cases y with
 |bp=>
  cases ry
  cases x with
  |bp=>cases rx;exact SeqAt.EqAt.same _
  |bl b=>cases rx;exact SeqAt.EqAt.none_bool b
  |int b=>obtain⟨t,rfl⟩:=rx;exact SeqAt.EqAt.none_int b t
  |str b=>obtain⟨t,rfl⟩:=rx;exact SeqAt.EqAt.none_str b t
  |_=>exact absurd (show false=true from fx) cU
 |bl a=>
  cases ry
  cases x with
  |bp=>cases rx;exact SeqAt.EqAt.bool_none a
  |bl b=>cases rx;exact SeqAt.EqAt.bool_bool a b
  |int b=>obtain⟨t,rfl⟩:=rx;exact SeqAt.EqAt.bool_int a b t
  |str b=>obtain⟨t,rfl⟩:=rx;exact SeqAt.EqAt.bool_str a b t
  |_=>exact absurd (show false=true from fx) cU
 |int a=>
  obtain⟨t',rfl⟩:=ry
  cases x with
  |bp=>cases rx;exact SeqAt.EqAt.int_none a t'
  |bl b=>cases rx;exact SeqAt.EqAt.int_bool a t' b
  |int b=>obtain⟨t,rfl⟩:=rx;exact SeqAt.EqAt.int_int a t' b t
  |str b=>obtain⟨t,rfl⟩:=rx;exact SeqAt.EqAt.int_str a t' b t
  |_=>exact absurd (show false=true from fx) cU
 |str a=>
  obtain⟨t',rfl⟩:=ry
  cases x with
  |bp=>cases rx;exact SeqAt.EqAt.str_none a t'
  |bl b=>cases rx;exact SeqAt.EqAt.str_bool a t' b
  |int b=>obtain⟨t,rfl⟩:=rx;exact SeqAt.EqAt.str_int a t' b t
  |str b=>obtain⟨t,rfl⟩:=rx;exact SeqAt.EqAt.str_str a t' b t
  |_=>exact absurd (show false=true from fx) cU
 |_=>exact absurd (show false=true from fy) cU
noncomputable def Jq(x:V)(u:M'):Bool:=match u with
 | .none=>Hi .bp x
 | .bool b=>Hi (.bl b) x
 | .int i _=>Hi (.int i) x
 | .str z _=>Hi (.str z) x
 |_=>false
theorem OX{x y:V}{u:M'}(r:RelV y u)(f:nQ y=true):Jq x u=Hi y x:=by
 cases y with
 |bp=>cases r;rfl
 |bl b=>cases r;rfl
 |int i=>obtain⟨t,rfl⟩:=r;rfl
 |str z=>obtain⟨t,rfl⟩:=r;rfl
 |_=>exact absurd (show false=true from f) cU
theorem vA{x:V}:∀{xs:ak} {us:aG},Vals xs us->xs.all nQ=true->us.any (Jq x)=xs.any λy=>Hi y x
 |_,_,.nil,_=>rfl
 |y::xs,u::us,.cons r t,f=>by
  rw[fj,cI] at f;rw[za,za,OX r f.1,vA t f.2]
theorem p5{A:X'}{s:R'}{x:V}{v:M'}(rx:RelV x v)(fx:nQ x=true):∀{xs:ak} {us:aG},Vals xs us->xs.all nQ=true->∀u∈us,SeqAt.EqAt A s u v (Jq x u)
 |_,_,.nil,_=>λu hu=>by cases hu
 |y::xs,u::us,.cons r t,f=>λu' hu=>by
  rw[fj,cI] at f;rcases aP.mp hu with rfl|hu
  .rw[OX r f.1];exact NV r rx f.1 fx
  .exact p5 rx fx t f.2 u' hu
noncomputable def IT(x:V)(xs:ak):Bool:=xs.any λy=>Hi y x
def rIn(K:Frag)(neg:Bool):R2:=λx y H Q=>∃p xs,y= .ref p/\(cF K H p xs\/bc K H p xs)/\nQ x=true/\xs.all nQ=true/\Q (.bl (if neg then !IT x xs else IT x xs)) H
theorem k7:n6 X (compareOp .In) (rIn X.K false):=by
 intro ad s σ H x y v u Q I rx ry h;obtain⟨p,xs,rfl,hq,fx,fs,q⟩:=h;cases ry;rcases hq with hq|hq
 .obtain⟨its,r,pl,hz⟩:=I.list hq;refine SeqAt.in_listAt (Jq x) pl.isList (λw hw=>p5 rx fx r fs w (by simpa using hw)) ⟨.bl _,H,I,Z,?_⟩;rw[show its.toArray.any (Jq x)=its.any (Jq x) by simp,vA r fs];exact q
 .obtain⟨its,r,pl,hz⟩:=I.tuple hq;refine SeqAt.in_tupleAt (Jq x) pl (λw hw=>p5 rx fx r fs w (by simpa using hw)) ⟨.bl _,H,I,Z,?_⟩;rw[show its.toArray.any (Jq x)=its.any (Jq x) by simp,vA r fs];exact q
theorem oI:n6 X (compareOp .NotIn) (rIn X.K true):=by
 intro ad s σ H x y v u Q I rx ry h;obtain⟨p,xs,rfl,hq,fx,fs,q⟩:=h;cases ry;rcases hq with hq|hq
 .obtain⟨its,r,pl,hz⟩:=I.list hq;refine SeqAt.notIn_listAt (Jq x) pl.isList (λw hw=>p5 rx fx r fs w (by simpa using hw)) ⟨.bl _,H,I,Z,?_⟩;rw[show its.toArray.any (Jq x)=its.any (Jq x) by simp,vA r fs];exact q
 .obtain⟨its,r,pl,hz⟩:=I.tuple hq;refine SeqAt.notIn_tupleAt (Jq x) pl (λw hw=>p5 rx fx r fs w (by simpa using hw)) ⟨.bl _,H,I,Z,?_⟩;rw[show its.toArray.any (Jq x)=its.any (Jq x) by simp,vA r fs];exact q
theorem DQ:n6 X (compareOp .NotIn) (λx y H Q=>∃i j,x= .str i/\y= .str j/\Q (.bl (!(!(Builtin.Str.occurrences j i 0 j.length 1).isEmpty))) H):=by
 intro ad s σ H x y v u Q I rx ry h;obtain⟨i,j,rfl,rfl,q⟩:=h;obtain⟨t,rfl⟩:=rx;obtain⟨t',rfl⟩:=ry;exact notIn_str ⟨.bl _,H,I,Z,q⟩
theorem br:iZ X (.builtin "len") (λxs H Q=>∃p ys,xs=[.ref p]/\(cF X.K H p ys\/bc X.K H p ys)/\Q (.int ys.length) H):=by
 intro ad s σ H xs us Q I r h;obtain⟨p,ys,rfl,hq,q⟩:=h;obtain⟨u,rfl,rx⟩:=Wp r;cases rx;have hn:=uM;rcases hq with hq|hq
 .obtain⟨its,r',pl,hz⟩:=I.list hq;have hlen:=r'.length;exact Calls.call_len_list pl.isList (by simp only[bJ]<;>omega) ⟨.int ys.length,H,I.tok _,⟨s.toks+1,by rw[bJ,hlen]⟩,q⟩
 .obtain⟨its,r',pl,hz⟩:=I.tuple hq;have hlen:=r'.length;exact len_tuple pl (by simp only[bJ]<;>omega) ⟨.int ys.length,H,I.tok _,⟨s.toks+1,by rw[bJ,hlen]⟩,q⟩
theorem oM:iZ X (.builtin "len") (λxs H Q=>∃z,xs=[.str z]/\z.length<=sizeLine/\Q (.int z.length) H):=by
 intro ad s σ H xs us Q I r h;obtain⟨z,rfl,hz,q⟩:=h;obtain⟨u,rfl,t,rfl⟩:=Wp r;have hn:=uM;exact len_str (by omega) ⟨.int z.length,H,I.tok _,⟨_,Z⟩,q⟩
theorem Fd:iZ X (.type "list") (λxs H Q=>∃p ys,xs=[.ref p]/\(cF X.K H p ys\/bc X.K H p ys)/\∀l,H l=none->Q (.ref l) (upd H l (.lst ys))):=by
 intro ad s σ H xs us Q I r h;obtain⟨p,ys,rfl,hq,q⟩:=h;obtain⟨u,rfl,rx⟩:=Wp r;cases rx
 have fin:∀(its:aG),Vals ys its->ys.length<=sizeLine->∀(h' :Y') (c' :Nat),(∀b o',s.heap.get? b=some o'->h'.get? b=some o')->
  h'.get? s.heap.objs.size=some {cls:= .type "list",dict:=none,data:= .seq its.toArray c',slots:= #[]}->EP X ad σ Q (.ref s.heap.objs.size) {s with heap:=h'}:=λits r' hz h' c' kp e=>
  ⟨.ref s.heap.objs.size,_,I.laid (t' :=s.toks) kp (aK _) (show cu X.prog X.w _ h' _ (.lst ys) from⟨hz,its,c',r',e⟩),Z,q _ (I.bS.fresh (aK _))⟩
 rcases hq with hq|hq
 .obtain⟨its,r',pl,hz⟩:=I.list hq;have hlen:=r'.length;obtain⟨o,ho,hc,n,hd⟩:=pl.isList;exact call_list_seq p (.inl Z) ho hc hd (λh' c' kp e=>fin its r' hz h' c' kp e) (by simp only[bJ]<;>omega)
 .obtain⟨its,r',pl,hz⟩:=I.tuple hq;have hlen:=r'.length;obtain⟨o,ho,hc,n,hd⟩:=pl;exact call_list_seq p (.inr Z) ho hc hd (λh' c' kp e=>fin its r' hz h' c' kp e) (by simp only[bJ]<;>omega)
theorem eQ:iZ X (.type "tuple") (λxs H Q=>∃p ys,xs=[.ref p]/\((cF X.K H p ys/\∀l,H l=none->Q (.ref l) (upd H l (.tup ys)))\/(bc X.K H p ys/\Q (.ref p) H))):=by
 intro ad s σ H xs us Q I r h;obtain⟨p,ys,rfl,h⟩:=h;obtain⟨u,rfl,rx⟩:=Wp r;cases rx;rcases h with⟨hq,q⟩|⟨hq,q⟩
 .obtain⟨its,r',pl,hz⟩:=I.list hq;have hlen:=r'.length;refine call_tuple_list pl.isList (λh' kp=> ?_) (by simp only[bJ]<;>omega);have I1:Inv X ad σ H {s with heap:=h'}:=I.kept (t' :=s.toks) kp
  have I2:Inv X ad σ (upd H h'.objs.size (.tup ys)) {s with heap:=h'.push {cls:= .type "tuple",data:= .seq its.toArray}}:=
   I1.laid (t' :=s.toks) (λb o e=>bq _ e) (aK _) (show cu X.prog X.w _ _ _ (.tup ys) from⟨hz,its,r',IsTup.new _ _⟩)
  exact⟨.ref h'.objs.size,_,I2,Z,q _ (I1.bS.fresh (aK _))⟩
 .obtain⟨its,r',pl,hz⟩:=I.tuple hq;exact call_tuple_same pl ⟨.ref p,H,I,Z,q⟩
def tyV(K:Frag)(T:String)(x:V)(H:Hp):Prop:=match x with
 | .str _=>T="str"
 | .int _=>T="int"
 | .ref p=>(T="list" /\∃xs,cF K H p xs)\/(T="tuple" /\∃o,K.lookup p=some o/\o.cls= .type "tuple" /\o.dict=none)\/
  (T="dict" /\((∃kvs,H p=some (.dK kvs))\/∃kvs,H p=some (.dT kvs)))\/(T="set" /\∃S n,H p=some (.set S n))
 |_=>False
theorem XN{ad:aQ}{σ:St}{H:Hp}{s:R'}{T:String}{x:V}{v:M'}(I:Inv X ad σ H s)(r:RelV x v)(ty:tyV X.K T x H):
 s.TypeIs v T/\∀a,v= .ref a->∃ob,s.heap.get? a=some ob/\ob.dict=none:=by
 cases x with
 |str z=>
  obtain⟨t,rfl⟩:=r;cases(show T="str" from ty);exact⟨typeIs_str s z t,λ_ e=>nomatch e⟩
 |int i=>
  obtain⟨t,rfl⟩:=r;cases(show T="int" from ty);exact⟨typeIs_int s i t,λ_ e=>nomatch e⟩
 |ref p=>
  cases r;rcases ty with⟨rfl,xs,hq⟩|⟨rfl,o,hk,hc,hd⟩|⟨rfl,hk⟩|⟨rfl,S,n,hk⟩
  .obtain⟨its,_,pl,_⟩:=I.list hq;refine⟨pl.isList.typeIs,λa e=> ?_⟩;cases e;obtain⟨o,n,e,c,hd,_⟩:=pl;exact⟨o,e,hd⟩
  .refine⟨⟨o,I.jO p o hk,hc⟩,λa e=> ?_⟩;cases e;exact⟨o,I.jO _ o hk,hd⟩
  .have z:∃o,s.heap.get? p=some o/\o.ExactDict:=by
    rcases hk with⟨kvs,hk⟩|⟨kvs,hk⟩
    .obtain⟨_,_,_,_,o,_,_,e,ex,_⟩:=I.bS p _ hk;exact⟨o,e,ex⟩
    .obtain⟨_,_,_,_,o,_,_,e,ex,_⟩:=I.bS p _ hk;exact⟨o,e,ex⟩
   obtain⟨o,e,ex⟩:=z;refine⟨⟨o,e,ex.1⟩,λa e2=> ?_⟩;cases e2;exact⟨o,e,ex.2.1⟩
  .obtain⟨o,_,_,_,e,ex,_⟩:=I.bS p _ hk;refine⟨⟨o,e,ex.1⟩,λa e2=> ?_⟩;cases e2;exact⟨o,e,ex.2.1⟩
 |_=>exact False.elim ty
def tBM(K:Frag)(T:String)(r:V->ak->Hp->VK->Prop)(to:TE)(t:TA):TE:=λσ H Q=>to σ H λx H1=>tyV K T x H1/\t σ H1 λxs H2=>r x xs H2 Q
variable{o e:V'}{es:b7}{to:TE}{t:TA}{name:Str}{apos je:Pos}{T id:String}{r:V->ak->Hp->VK->Prop}
theorem lR(pa:PlainAttrs T)(slot:Slot T name id)(hty:typeOf (.builtin id)=pure (.type "method_descriptor"))(hm:MtR X id r)(ho:PE X o to)(ha:PA X (e::es) t)
 (AS:attributeBase o name X.env (eval o X.env)=eval o X.env:=by rfl)
 (afQ:((backTo je (starEach (e::es) X.env)).all (λx=> !x.1)&&(backToKw je (keywordEach [] X.env)).all (λx=>x.1.isSome)
  &&decide ((e::es).length+([]:List Keyword).length+(if([]:List Keyword).isEmpty then 0 else 1)<30))=true:=by rfl)
 (Mb:(apos.endLine==je.line)=true:=by rfl) (hs:starEach (e::es) X.env=(false,eval e X.env)::starEach es X.env:=by rfl) (Vx:(backTo je (starEach es X.env)).any (·.1)=false:=by rfl):
 PE X (.Call (.Attribute o name apos) (e::es) [] je) (tBM X.K T r to t):=by
 intro ad s σ H Q I h;refine wpAny_Call_method_late AS afQ Mb Z (dk (ho ad s σ H _ I h) λv s1 ⟨x,H1,I1,r1,ty,q1⟩=> ?_);obtain⟨h1,h2⟩:=XN I1 r1 ty;refine⟨T,id,pa,slot,hty,h1,h2,?_⟩;have hA:=ha je ad s1 σ H1 _ I1 q1;rw[hs] at hA ⊢;refine Calls.callWith_builtin (by show(false||(backTo je (starEach es X.env)).any (·.1))=false;rw[Vx]<;>rfl) (Calls.evalArgs_plain ?_);exact dk hA λus s2 ⟨vs,H2,I2,r2,q2⟩=>hm ad s2 σ H2 x vs v us Q I2 r1 r2 q2
end
def MtM(X:Cx)(id:String)(r:V->ak->Hp->VK->Prop):Prop:=
 ∀(ad:aQ) (s:R') (σ:St) (H:Hp) (x:V) (xs:ak) (v:M') (us:aG) (Q:VK),Inv X ad σ H s->RelV x v->Vals xs us->r x xs H Q->
  wpAny (model X.prog X.w) X.A (call (.builtin id) (v::us)) (EP X ad σ Q) X.xe s
theorem Vals.one:∀{x:V} {us:aG},Vals [x] us->∃u,us=[u]/\RelV x u
 |_,_,.cons r .nil=>⟨_,Z,r⟩
theorem Vals.rep{xs:ak}{us:aG}(h:Vals xs us):∀k:Nat,Vals (List.replicate k xs).flatten (List.replicate k us).flatten
 |0=> .nil
 |k+1=>by
  rw[pM,pM,rH,rH];exact Vals.append h (Vals.rep h k)
theorem jah(its:aG):∀(k:Nat) (acc:aG),
 List.foldl (λx1 x2=>x1++x2) acc.toArray (List.replicate k its.toArray)=(acc++(List.replicate k its).flatten).toArray
 |0,acc=>by simp
 |k+1,acc=>by
  have e:acc.toArray++its.toArray=(acc++its).toArray:=by simp
  have e2:(acc++its)++(List.replicate k its).flatten=acc++(List.replicate (k+1) its).flatten:=by
   rw[pM,rH,EC]
  rw[<-e2,<-jah its k (acc++its),<-e,pM,List.foldl_cons]
section
variable{X:Cx}{ad:aQ}{σ:St}{H:Hp}{s:R'}{l b:S'}{xs ys zs:ak}
theorem Inv.Y4{its its' :aG}{n:Nat}{f:Array M'->Array M'}{t' :Nat}(I:Inv X ad σ H s)(hH:H l=some (.lst xs))
 (e:s.heap.get? l=some {cls:= .type "list",data:= .seq its.toArray n}) (hf:f its.toArray=its'.toArray) (hv:Vals ys its') (hz:ys.length<=sizeLine):
 Inv X ad σ (upd H l (.lst ys)) {s with heap:=s.heap.update l (Obj.mapSeq f),toks:=t'}:=by
 have q:=PySem.IsL.update e f;rw[hf] at q;refine I.write (x:=l) (e:=l) (by rw[hH];exact trivial) (.inl Z) (λb' u hb hu=>(gn s.heap (Obj.mapSeq f) (ck hb)).trans hu) ⟨_,q⟩ ?_;exact⟨hz,its',_,hv,q⟩
theorem Inv.VH{its:aG}{t' :Nat}(I:Inv X ad σ H s)(hv:Vals ys its)(hz:ys.length<=sizeLine):
 Inv X ad σ (upd H s.heap.objs.size (.lst ys)) {s with heap:=s.heap.push {cls:= .type "list",data:= .seq its.toArray},toks:=t'}:=
 I.laid (λ_ _ q=>bq _ q) (aK _) ⟨hz,its,0,hv,cV _ Z⟩
theorem Inv.fresh(I:Inv X ad σ H s):H s.heap.objs.size=none:=I.bS.fresh (aK _)
theorem Inv.H_(I:Inv X ad σ H s)(hH:H l=some (.lst xs)):xs.length<=sizeLine/\∃(its:aG) (n:Nat),Vals xs its/\xs.length=its.length/\s.heap.get? l=some {cls:= .type "list",data:= .seq its.toArray n}:=by
 obtain⟨z,its,n,r,e⟩:=I.bS l _ hH;exact⟨z,its,n,r,r.length,e⟩
theorem FY{n:Nat}(h:n<=sizeLine):Builtin.List.listTooLong n=false:=by
 unfold Builtin.List.listTooLong;exact ba (by omega)
end
variable{X:Cx}
def JY:V->ak->Hp->VK->Prop:=λx vs H Q=>∃l xs y,x= .ref l/\vs=[y]/\H l=some (.lst xs)/\xs.length<sizeLine/\Q .bp (upd H l (.lst (xs++[y])))
theorem dw:MtM X "list.append" JY:=by
 intro ad s σ H x vs v us Q I rx rv h;obtain⟨l,xs,y,rfl,rfl,hH,hz,q⟩:=h;cases rx;obtain⟨u,rfl,ru⟩:=rv.one;obtain⟨z,its,n,r,hl,e⟩:=I.H_ hH;refine call_meets F.slot_list_append ⟨_,e,Z⟩ F.entry_list_append (F.args_list_append_2 _ _) (PySem.list_append l its.toArray n u (by rw[bJ];omega)) ⟨e,?_⟩;refine⟨.bp,_,I.Y4 (its' :=its++[u]) hH e (by simp) (r.append (.cons ru .nil)) ?_,Z,q⟩;rw[bu,E3];omega
def P6:V->ak->Hp->VK->Prop:=λx vs H Q=>∃l b xs zs,x= .ref l/\vs=[.ref b]/\H l=some (.lst xs)/\H b=some (.lst zs)/\xs.length+zs.length<=sizeLine/\Q .bp (upd H l (.lst (xs++zs)))
theorem xA:MtM X "list.extend" P6:=by
 intro ad s σ H x vs v us Q I rx rv h;obtain⟨l,b,xs,zs,rfl,rfl,hH,hB,hz,q⟩:=h;cases rx;obtain⟨u,rfl,ru⟩:=rv.one;cases ru;obtain⟨z,its,n,r,hl,e⟩:=I.H_ hH;obtain⟨z2,pB,n2,r2,n5,e2⟩:=I.H_ hB;have ql:its.toArray.size+pB.toArray.size<=sizeLine:=by rw[bJ,bJ];omega
 have NH:¬(!its.toArray.isEmpty&&Builtin.List.listTooLong (its.toArray.size+pB.toArray.size))=true:=by
  rw[FY ql,Bool.and_false];exact cU
 refine call_meets zR ⟨_,e,Z⟩ F.entry_list_extend (F.args_list_extend_2 _ _)
  (AutoSeq1.list_extend_list_list_0 l its.toArray n b pB.toArray n2 NH (by rw[bJ];omega) (by omega)) ⟨e,e2,?_⟩
 refine⟨.bp,_,I.Y4 (its' :=its++pB) hH e (by simp) (r.append r2) ?_,Z,q⟩;rw[bu];omega
def QQ:R2:=λx y H Q=>∃l b xs zs,x= .ref l/\y= .ref b/\H l=some (.lst xs)/\H b=some (.lst zs)/\xs.length+zs.length<=sizeLine/\∀p,H p=none->Q (.ref p) (upd H p (.lst (xs++zs)))
theorem fH:n6 X (binaryOp .Add) QQ:=by
 intro ad s σ H x y v u Q I rx ry h;obtain⟨l,b,xs,zs,rfl,rfl,hH,hB,hz,q⟩:=h;cases rx;cases ry;obtain⟨z,its,n,r,hl,e⟩:=I.H_ hH;obtain⟨z2,pB,n2,r2,n5,e2⟩:=I.H_ hB;refine PySem.P.add_list e e2 ?_ (by rw[bJ,bJ];omega);have ea:its.toArray++pB.toArray=(its++pB).toArray:=by simp
 rw[ea];exact⟨.ref _,_,I.VH (t' :=s.toks) (r.append r2) (by rw[bu];omega),Z,q _ I.fresh⟩
def Wm:R2:=λx y H Q=>∃l k xs,x= .ref l/\y= .int k/\H l=some (.lst xs)/\ -(2 ^ 63)<=k/\k<2 ^ 63/\xs.length*k.toNat<=sizeLine/\
 ∀p,H p=none->Q (.ref p) (upd H p (.lst (List.replicate k.toNat xs).flatten))
theorem jam{α:Type}(xs:List α)(k:Nat):(List.replicate k xs).flatten.length=k*xs.length:=by
 induction k with
 |zero=>simp
 |succ k ih=>rw[pM,rH,bu,ih,Nat.succ_mul,Nat.add_comm]
theorem xg:n6 X (binaryOp .Mult) Wm:=by
 intro ad s σ H x y v u Q I rx ry h;obtain⟨l,k,xs,rfl,rfl,hH,h1,h2,hz,q⟩:=h;cases rx;obtain⟨t,rfl⟩:=ry;obtain⟨z,its,n,r,hl,e⟩:=I.H_ hH;have hlen:its.toArray.size*k.toNat<=sizeLine:=by rw[bJ,<-hl];exact hz
 have afD:¬its.toArray.size*k.toNat>(2 ^ 63 - 1) / 8:=by
  have:(sizeLine:Nat)<=(2 ^ 63 - 1) / 8:=by decide
  omega
 have ae8:¬(!Builtin.List.listFitsIndex k)=true:=by
  rw[fitsIndex_both h1 h2];exact cU
 have NH:¬Builtin.List.listTooLong (its.toArray.size*k.toNat)=true:=by
  rw[FY hlen];exact cU
 have acQ:List.foldl (λx1 x2=>x1++x2) #[] (List.replicate (if its.toArray.isEmpty=true then 0 else k.toNat) its.toArray)=(List.replicate k.toNat its).flatten.toArray:=by
  have f0:∀m:Nat,List.foldl (λx1 x2=>x1++x2) #[] (List.replicate m its.toArray)=(List.replicate m its).flatten.toArray:=λm=>by
   have:=jah its m [];rw[oE] at this;exact this
  rw[f0]
  cases its with
  |nil=>simp
  |cons a r' =>rw[ax (by simp)]
 refine wpAny_binaryOp_repeat_ref (T:="list") (U:="int") (by decide) ⟨_,e,Z⟩ (λs' =>typeIs_int s' k t) noFill_list_mul F.fills_int_mul F.slot_int_rmul repeat_list F.slot_int_index.lookup
  (call_meets F.slot_int_rmul (typeIs_int s k t) F.entry_int_rmul (F.args_int_rmul_2 _ _) (int___rmul___int_list k t l its.toArray n)
   ⟨e,Z,⟨_,e,Z⟩,call_meets F.slot_list_mul ⟨_,e,Z⟩ F.entry_list_mul (F.args_list_mul_2 _ _) (AutoListH.list___mul___list_int_3 l its.toArray n k t ae8 afD NH) ⟨e,?_⟩⟩)
 rw[acQ];exact⟨.ref _,_,I.VH (t' :=s.toks) (r.rep k.toNat) (by rw[jam,Nat.mul_comm];exact hz),Z,q _ I.fresh⟩
section
variable{prog:Z'}{w:W'}{A:X'}{E:J'}{s:R'}
set_option maxRecDepth 100000 in
end
section
variable{κ:Type}[DecidableEq κ]
noncomputable def eV(kvs:List (κ×V))(k:κ):Option V:=(kvs.find? λkv=>decide (kv.1=k)).map (·.2)
noncomputable def jae(kvs:List (κ×V))(k:κ)(v:V):List (κ×V):=
 if(kvs.any λkv=>decide (kv.1=k))=true then kvs.map (λkv=>if kv.1=k then(kv.1,v) else kv) else kvs++[(k,v)]
noncomputable def aiA(kvs:List (κ×V))(k:κ):List (κ×V):=kvs.filter λkv=>decide (kv.1≠k)
theorem GV{p:κ×V}{r:List (κ×V)}{k:κ}(e:p.1=k):eV (p::r) k=some p.2:=by simp[eV,sj,e]
theorem GU{p:κ×V}{r:List (κ×V)}{k:κ}(e:¬p.1=k):eV (p::r) k=eV r k:=by simp[eV,sj,e]
theorem Gv(kvs:List (κ×V))(k:κ)(v:V):(jae kvs k v).length<=kvs.length+1:=by
 unfold jae
 split
 .rw[a6];omega
 .rw[bu,bB,m5];omega
theorem m4.LD{o:Option V}{u:aO}(r:m4 o u):o.isSome=u.isSome:=by
 cases o with
 |none=>cases u with
  |none=>rfl
  |some _=>exact(show False from r).elim
 |some _=>cases u with
  |none=>exact(show False from r).elim
  |some _=>rfl
theorem m4.getD{o:Option V}{u:aO}{d:V}{d' :M'}(r:m4 o u)(rd:RelV d d'):RelV (o.getD d) (u.getD d'):=by
 cases o with
 |none=>cases u with
  |none=>exact rd
  |some _=>exact(show False from r).elim
 |some _=>cases u with
  |none=>exact(show False from r).elim
  |some _=>exact r
theorem KV.val{kvs:List (κ×V)}{vs:List (κ×M')}(r:KV kvs vs)(k:κ):m4 (eV kvs k) (valueAt vs k):=by
 unfold KV at r
 induction r with
 |nil=>exact True.intro
 | @cons p q ps qs h t ih=>
  obtain⟨h1,h2⟩:=h;by_cases e:p.1=k
  .have e' :q.1=k:=h1.symm.trans e;have b:valueAt (q::qs) k=some q.2:=by simp[valueAt,sj,e']
   rw[GV e,b];exact h2
  .have e' :¬q.1=k:=λz=>e (h1.trans z);have b:valueAt (q::qs) k=valueAt qs k:=by simp[valueAt,sj,e']
   rw[GU e,b];exact ih
theorem KV.any{kvs:List (κ×V)}{vs:List (κ×M')}(r:KV kvs vs)(k:κ):(kvs.any λkv=>decide (kv.1=k))=vs.any λkv=>decide (kv.1=k):=by
 unfold KV at r
 induction r with
 |nil=>rfl
 |cons h t ih=>rw[za,za,ih,h.1]
theorem KV.aeD{kvs:List (κ×V)}{vs:List (κ×M')}(r:KV kvs vs)(k:κ){y:V}{u:M'}(ry:RelV y u):
 KV (kvs.map λkv=>if kv.1=k then(kv.1,y) else kv) (vs.map λkv=>if kv.1=k then(kv.1,u) else kv):=by
 unfold KV at r ⊢
 induction r with
 |nil=>exact .nil
 | @cons p q ps qs h t ih=>
  rw[cL,cL];refine .cons ?_ ih;obtain⟨h1,h2⟩:=h;by_cases e:p.1=k
  .rw[aB e,aB (h1.symm.trans e)];exact⟨h1,ry⟩
  .rw[ax e,ax (λz=>e (h1.trans z))];exact⟨h1,h2⟩
theorem KV.put{kvs:List (κ×V)}{vs:List (κ×M')}(r:KV kvs vs)(k:κ){y:V}{u:M'}(ry:RelV y u):KV (jae kvs k y) (stored vs k u):=by
 unfold jae stored;rw[r.any k];by_cases e:(vs.any λkv=>decide (kv.1=k))=true
 .rw[aB e,aB e];exact r.aeD k ry
 .rw[ax e,ax e];exact Paired.snoc r ⟨Z,ry⟩
end
theorem GQ{P:Z'}{w:W'}{k:wS}{u:M'}(r:RelV (kV k) u):(cW P w).is k u=true:=by
 cases k with
 |inl i=>obtain⟨t,e⟩:=(show ∃t,u=Value.int i t from r);subst e;exact GK P w i t
 |inr x=>obtain⟨t,e⟩:=(show ∃t,u=Value.str x t from r);subst e;exact Gn P w x t
theorem C8{P:Z'}{w:W'}:∀{ks:List wS} {us:aG},Vals (ks.map kV) us->ItemsAre (cW P w) ks us
 |[],_,r=>by rw[mS] at r;cases r;exact .nil
 |k::ks,_,r=>by
  rw[cL] at r
  cases r with
  |cons h t=>exact .cons (GQ h) (C8 t)
abbrev KT(H:Hp):List (List wS×V)->List (List wS×S'×M')->Prop:=Paired λp q=>p.1=q.1/\H q.2.1=some (.tup (p.1.map kV))/\RelV p.2 q.2.2
theorem KT.val{H:Hp}{kvs:List (List wS×V)}{xs:List (List wS×S'×M')}(r:KT H kvs xs)(k:List wS):m4 (eV kvs k) ((atKey xs k).map (·.2)):=by
 induction r with
 |nil=>exact True.intro
 | @cons p q ps qs h t ih=>
  obtain⟨h1,_,h2⟩:=h;by_cases e:p.1=k
  .have e' :q.1=k:=h1.symm.trans e;have b:atKey (q::qs) k=some q.2:=by simp[atKey,sj,e']
   rw[GV e,b];exact h2
  .have e' :¬q.1=k:=λz=>e (h1.trans z);have b:atKey (q::qs) k=atKey qs k:=by simp[atKey,sj,e']
   rw[GU e,b];exact ih
section
variable{P:Z'}{w:W'}{H:Hp}{h:Y'}{a:S'}
theorem RK{u:HO}(ok:pD P w H h)(e:Rd H a u):cu P w H h a u:=e.ok ok
theorem M4{kvs:eI}(ok:pD P w H h)(e:Rd H a (.dK kvs)):kvs.length<=sizeLine/\(a==sysModules)=false/\∃vs,KV kvs vs/\h.DictOf (cW P w) a vs:=
 show cu P w H h a (.dK kvs) from RK ok e
theorem Vk{kvs:eI}(ok:pD P w H h)(e:H a=some (.dK kvs)):kvs.length<=sizeLine/\(a==sysModules)=false/\∃vs,KV kvs vs/\h.DictOf (cW P w) a vs:=M4 ok (.inl e)
theorem NI{ks:List wS}(ok:pD P w H h)(e:H a=some (.tup (ks.map kV))):(tupleKind (cW P w)).is h ks a:=by
 obtain⟨_,its,r,o,h1,h2,n,h3⟩:=(show cu P w H h a (.tup (ks.map kV)) from ok a _ e);exact⟨o,its.toArray,n,h1,h2,h3,by simpa using C8 r⟩
theorem RE{kvs:List (List wS×V)}(ok:pD P w H h)(e:Rd H a (.dT kvs)):kvs.length<=sizeLine/\(a==sysModules)=false/\
 ∃xs,KT H kvs xs/\h.DictOfH (tupleKind (cW P w)) a xs:=by
 obtain⟨z,y,xs,r,o,es,ep,h1,h2,h3,h4,h5⟩:=(show cu P w H h a (.dT kvs) from RK ok e);refine⟨z,y,xs,r,o,es,ep,h1,h2,h3,h4,λx hx=> ?_,h5⟩
 have all:∀{l:List (List wS×V)} {m:List (List wS×S'×M')},KT H l m->∀x∈m,(tupleKind (cW P w)).is h x.1 x.2.1:=by
  intro l m q
  induction q with
  |nil=>intro x hx;exact nomatch hx
  | @cons p q ps qs hq t ih=>
   intro x hx;rcases aP.mp hx with e|hx
   .subst e;exact NI ok (by rw[<-hq.1];exact hq.2.1)
   .exact ih x hx
 exact all r x hx
end
def FU(H:Hp)(a:S')(y:V)(r:Option V):Prop:=
 (∃kvs k,Rd H a (.dK kvs)/\y=kV k/\r=eV kvs k)\/∃kvs k b,Rd H a (.dT kvs)/\y= .ref b/\H b=some (.tup (k.map kV))/\r=eV kvs k
def alO(H:Hp)(a:S')(y v:V)(H' :Hp):Prop:=
 (∃kvs k,H a=some (.dK kvs)/\y=kV k/\kvs.length<sizeLine/\H' =upd H a (.dK (jae kvs k v)))\/
 ∃kvs k b,H a=some (.dT kvs)/\y= .ref b/\H b=some (.tup (k.map kV))/\kvs.length<sizeLine/\H' =upd H a (.dT (jae kvs k v))
theorem FU.k{H:Hp}{a:S'}{kvs:eI}{k:wS}(e:H a=some (.dK kvs)):FU H a (kV k) (eV kvs k):= .inl ⟨kvs,k,.inl e,Z,Z⟩
section
variable{X:Cx}{ad:aQ}{σ:St}{H:Hp}{s:R'}{a:S'}{y v:V}{u r:M'}{o:Option V}{A:X'}{E:J'}
theorem Inv.big(I:Inv X ad σ H s):sysModules<s.heap.objs.size:=by
 have h:mainGlobals<s.heap.objs.size:=(I.mod.glob.keeps I.bk).lt;exact ze (by decide) h
theorem Ra{h' :Y'}{t' :Nat}{ob:HO}(I:Inv X ad σ H s)(mu:Y6 (H a))(hs:Heap.SameBut a s.heap h')(he:∃q,h'.get? a=some q)(new:cu X.prog X.w (upd H a ob) h' a ob):
 Inv X ad σ (upd H a ob) {s with heap:=h',toks:=t'}:=
 I.write (x:=a) (e:=a) mu (.inl Z) (λb q hb z=>(hs.2 b hb).trans z) he new
theorem Vv{P:Z'}{w:W'}{H' :Hp}{h' :Y'}{kvs:eI}{vs:List (wS×M')}(z:kvs.length<=sizeLine)(hd:(a==sysModules)=false)(rel:KV kvs vs)(dd:h'.DictOf (cW P w) a vs):
 cu P w H' h' a (.dK kvs):=⟨z,hd,vs,rel,dd⟩
end
section
variable{X:Cx}{ad:aQ}{σ:St}{H:Hp}{s:R'}{a:S'}{kvs:eI}{k:wS}{u:M'}{A:X'}{E:J'}
end
def abi(i:V'):Prop:=∀ov iv,subscripted i false ov iv=operate [ov,iv] (getItem ov iv)
theorem Qr{prog:Z'}{w:W'}{A:X'}{E:J'}{s:R'}{env:Env}{value slice:V'}{pos:Pos}{T id:String}{Q:J'}
 (hl:typeLookup (.type T) "__getitem__"=pure (some (.builtin id))) (hs:abi slice)
 (h:wpAny (model prog w) A (eval value env) (λo bR=>wpAny (model prog w) A (eval slice env) (λi uO=>uO.TypeIs o T/\wpAny (model prog w) A (getItem o i) Q E uO) E bR) E s):
 wpAny (model prog w) A (eval (.Subscript value slice pos) env) Q E s:=by
 refine Subscript_ (fV h (λo bR h₁=>fV h₁ (λi uO l9=> ?_) λ_ _ x=>x) λ_ _ x=>x);obtain⟨hT,l9⟩:=l9;unfold subscriptTail;refine aw ?_;rw[getitemInPython_of_ne hT.not_modules];refine aw (wpAny_specialOf hT hl ?_)
 have fin:wpAny (model prog w) A (subscripted slice false o i) (λr yS=>wpAny (model prog w) A (letTemporaryGo value o r>>= λ_=>pure r) Q E yS) E uO:=by
  rw[hs o i];exact wpAny_operating (fV l9 (λr yS rg=>aw (wpAny_letTemporaryGo (aY rg))) λ_ _ x=>x)
 first
  |exact aY (aw fin)
  |exact aw (aY (aw fin))
  |exact aw fin
section
variable{X:Cx}{o i e value:V'}{pos pos' aep:Pos}{td ty tv:TE}
end
theorem GZ{P:Z'}{w:W'}{H:Hp}(h:Y')(hb:sysModules<h.objs.size):cu P w H (h.push {cls:= .type "dict",data:= .dict #[]}) h.objs.size (.dK []):=
 ⟨cH _,rY.mpr (ck (cJ hb)),[],.nil,Heap.DictOf.new h⟩
def MJ:TE:=λ_ H Q=>∀p,H p=none->Q (.ref p) (upd H p (.dK []))
section
variable{X:Cx}{pos:Pos}
theorem rq:PE X (.Dict [] [] pos) MJ:=λad s σ H Q I h=>
 wpAny_Dict_empty ⟨.ref s.heap.objs.size,_,I.laid (a:=s.heap.objs.size) (o:= .dK []) (t' :=s.toks) (λ_ _ q=>bq _ q) (aK _) (GZ s.heap I.big),Z,h _ (I.bS.fresh (aK _))⟩
end
def Im:List (TE×TE)->St->Hp->(List (V×V)->Hp->Prop)->Prop
 |[],_,H,Q=>Q [] H
 |(tk,tv)::r,σ,H,Q=>tk σ H λx H1=>tv σ H1 λy H2=>Im r σ H2 λps H3=>Q ((x,y)::ps) H3
abbrev VV:List (V×V)->List (M'×M')->Prop:=Paired λp q=>RelV p.1 q.1/\RelV p.2 q.2
def PPs(X:Cx)(pos:Pos)(keys:List (Option V'))(values:b7)(FR:List (TE×TE)):Prop:=
 ∀(ad:aQ) (s:R') (σ:St) (H:Hp) (Q:List (V×V)->Hp->Prop),Inv X ad σ H s->Im FR σ H Q->
  wpAny (model X.prog X.w) X.A (evalPairs (pairTrees keys values X.env pos)) (λvs s' =>∃ps H',Inv X ad σ H' s'/\VV ps vs/\Q ps H') X.xe s
theorem u_{X:Cx}{pos:Pos}:PPs X pos [] [] []:=λad s σ H Q I h=>pairTrees_nil_walk ⟨[],H,I,.nil,h⟩
theorem g8{X:Cx}{pos:Pos}{k v:V'}{ks:List (Option V')}{vs:b7}{tk tv:TE}{FR:List (TE×TE)}(hk:PE X k tk)(hv:PE X v tv)(hr:PPs X pos ks vs FR):
 PPs X pos (some k::ks) (v::vs) ((tk,tv)::FR):=λad s σ H Q I h=>
 pairTrees_cons_walk (dk (hk ad s σ H _ I h) λu s1 ⟨x,H1,I1,rx,q1⟩=>dk (hv ad s1 σ H1 _ I1 q1) λw2 s2 ⟨y,H2,I2,ry,q2⟩=>
  dk (hr ad s2 σ H2 _ I2 q2) λws s3 ⟨ps,H3,I3,rel,q3⟩=>⟨(x,y)::ps,H3,I3,.cons ⟨rx,ry⟩ rel,q3⟩)
noncomputable def o9(kvs more:eI):eI:=more.foldl (λacc kv=>jae acc kv.1 kv.2) kvs
theorem KV.merge:∀{more:eI} {rs:List (wS×M')} {kvs:eI} {vs:List (wS×M')},KV more rs->KV kvs vs->KV (o9 kvs more) (merged vs rs):=by
 intro more rs kvs vs r;unfold KV at r
 induction r generalizing kvs vs with
 |nil=>intro q;exact q
 | @cons p q ps qs h t ih=>
  intro r0
  have e:KV (jae kvs p.1 p.2) (stored vs q.1 q.2):=by
   have:=r0.put p.1 h.2;rw[<-h.1];exact this
  exact ih e
theorem t_:∀(more kvs:eI),(o9 kvs more).length<=kvs.length+more.length
 |[],kvs=>by show kvs.length<=kvs.length+0;omega
 |p::r,kvs=>by
  have h1:=t_ r (jae kvs p.1 p.2);have h2:=Gv kvs p.1 p.2;show(o9 (jae kvs p.1 p.2) r).length<=_;rw[bB];omega
theorem Bj{P:Z'}{w:W'}:∀{kvs:eI} {ws:List (M'×M')},VV (kvs.map λkv=>(kV kv.1,kv.2)) ws->∃rs,Carries (cW P w) ws rs/\KV kvs rs
 |[],_,r=>by rw[mS] at r;cases r;exact⟨[],True.intro,.nil⟩
 |p::kvs,_,r=>by
  rw[cL] at r
  cases r with
  | @cons a b as bs h t=>
   obtain⟨rs,c,q⟩:=Bj (P:=P) (w:=w) t;obtain⟨b1,b2⟩:=b;exact⟨(p.1,b2)::rs,⟨GQ h.1,Z,c⟩,.cons ⟨Z,h.2⟩ q⟩
def Ma(FR:List (TE×TE)):TE:=λσ H Q=>∀p,H p=none->Im FR σ (upd H p (.dK [])) λps H2=>H2 p=some (.dK [])/\∃kvs:eI,ps=kvs.map (λkv=>(kV kv.1,kv.2))/\kvs.length<=15/\Q (.ref p) (upd H2 p (.dK (o9 [] kvs)))
theorem vZ{X:Cx}{pos:Pos}{keys:List (Option V')}{values:b7}{FR:List (TE×TE)}(h:PPs X pos keys values FR)(Iw:keys.all (·.isSome)=true)(hl:keys.length=values.length)(h0:keys≠[])
 (h15:keys.length<=15):PE X (.Dict keys values pos) (Ma FR):=by
 intro ad s σ H Q I q;have hn:=I.bS.fresh (aK s.heap.objs.size);have I1:=I.laid (a:=s.heap.objs.size) (o:= .dK []) (h' :=s.heap.push {cls:= .type "dict",data:= .dict #[]}) (t' :=s.toks) (λ_ _ q=>bq _ q) (aK _) (GZ s.heap I.big);refine wpAny_Dict_walk (knd:=cW X.prog X.w) Iw hl h0 h15 (dk (h ad _ σ _ _ I1 (q _ hn)) λws s2 ⟨ps,H2,I2,rel,e,kvs,ep,lk,q2⟩=> ?_);subst ep;obtain⟨rs,c,rk⟩:=Bj (P:=X.prog) (w:=X.w) rel;obtain⟨z,hd,vs0,r0,dd⟩:=Vk I2.bS e;cases r0;refine⟨rs,c,dd,λh' Xz hs=>⟨.ref s.heap.objs.size,_,?_,Z,q2⟩⟩
 have hz:(o9 [] kvs).length<=sizeLine:=by
  have h1:=t_ kvs [];rw[m5] at h1;rw[rX];omega
 have he:∃q,h'.get? s.heap.objs.size=some q:=let⟨q,_,_,hq,_⟩:=Xz;⟨q,hq⟩
 exact Ra I2 (by rw[e];exact True.intro) hs he (Vv hz hd (rk.merge .nil) Xz)
structure M2(X:Cx)(o:V')(m:Str)(apos:Pos)(e f:V')(je:Pos):Prop where
 base:attributeBase o m X.env (eval o X.env)=eval o X.env
 few:((backTo je (starEach [e,f] X.env)).all (λx=> !x.1)&&(backToKw je (keywordEach [] X.env)).all (λx=>x.1.isSome)
  &&decide (([e,f]:b7).length+([]:List Keyword).length+(if([]:List Keyword).isEmpty then 0 else 1)<30))=true
 line:(apos.endLine==je.line)=true
 trees:backTo je (starEach [e,f] X.env)=[(false,eval e X.env),(false,eval f X.env)]
def IsD(H:Hp)(a:S'):Prop:=(∃kvs,Rd H a (.dK kvs))\/∃kvs,Rd H a (.dT kvs)
theorem WX{X:Cx}{ad:aQ}{σ:St}{H:Hp}{s:R'}{a:S'}(I:Inv X ad σ H s)(d:IsD H a):
 s.TypeIs (.ref a) "dict" /\(∀b,Value.ref a= .ref b->∃ob,s.heap.get? b=some ob/\ob.dict=none)/\(a==sysModules)=false:=by
 rcases d with⟨kvs,e⟩|⟨kvs,e⟩
 .obtain⟨_,hd,vs,_,dd⟩:=M4 I.bS e;refine⟨dd.typeIs,λb q=> ?_,hd⟩;cases q;obtain⟨ob,_,_,h1,h2,_⟩:=dd;exact⟨ob,h1,h2.2.1⟩
 .obtain⟨_,hd,xs,_,dd⟩:=RE I.bS e;refine⟨dd.typeIs,λb q=> ?_,hd⟩;cases q;obtain⟨ob,_,_,h1,h2,_⟩:=dd;exact⟨ob,h1,h2.2.1⟩
section
variable{X:Cx}{ad:aQ}{σ:St}{H:Hp}{s:R'}{a:S'}{y d:V}{u r:M'}{o:Option V}{A:X'}{E:J'}
theorem Xg{Q:J'}(hu:A.units+1<cLine)(I:Inv X ad σ H s)(g:FU H a y o)(ry:RelV y u)(rd:RelV d r)(h:∀w' s',Inv X ad σ H s'->RelV (o.getD d) w'->Q w' s'):
 wpAny (model X.prog X.w) A (call (.builtin "dict.get") [.ref a,u,r]) Q E s:=by
 rcases g with⟨kvs,k,e,ey,l⟩|⟨kvs,k,b,e,ey,eb,l⟩
 .subst ey;obtain⟨z,hd,vs,rel,dd⟩:=M4 I.bS e;refine call_meetsIn slot_dict_get dd.typeIs entry_dict_get (args_dict_get_3 _ _ _) (meets_dict_get_default (cW X.prog X.w) a (GQ ry) hd r) ⟨_,dd.mapOf,h _ _ (I.tok _) ?_⟩;rw[l];exact(rel.val k).getD rd
 .subst ey;cases(show u=Value.ref b from ry);obtain⟨z,hd,xs,rel,dd⟩:=RE I.bS e;refine call_meetsIn slot_dict_get dd.typeIs entry_dict_get (args_dict_get_3 _ _ _) (meetsH_dict_get_default (tupleKind (cW X.prog X.w)) a b hd r) ⟨tupleKind_room_in1 hu,k,xs,NI I.bS eb,dd,h _ _ (I.tok _) ?_⟩;rw[l];exact(rel.val k).getD rd
end
def Xe(td ty tx:TE):TE:=λσ H Q=>td σ H λx H1=>∃a,x= .ref a/\IsD H1 a/\ty σ H1 λy H2=>tx σ H2 λz H3=>∃o,FU H3 a y o/\Q (o.getD z) H3
section
variable{X:Cx}{o e f:V'}{apos je:Pos}{td ty tx:TE}
theorem vn(hu:X.A.units+1<cLine)(ho:PE X o td)(he:PE X e ty)(hf:PE X f tx)(m:M2 X o "get" apos e f je):PE X (.Call (.Attribute o "get" apos) [e,f] [] je) (Xe td ty tx):=by
 intro ad s σ H Q I h;refine wpAny_Call_method m.base m.few m.line PySem.F.plainAttrs_dict slot_dict_get PySem.F.type_dict_get (dk (ho ad s σ H _ I h) λu s1 ⟨x,H1,I1,rx,a,ex,d,q1⟩=> ?_);subst ex;obtain rfl:u=Value.ref a:=rx;obtain⟨t1,t2,_⟩:=WX I1 d;refine⟨t1,t2,?_⟩;rw[m.trees]
 refine Calls.callWith_builtin Z (Calls.evalArgs_plain (uu (dk (he ad s1 σ H1 _ I1 q1) λiv s2 ⟨y,H2,I2,ry,q2⟩=>
  uu (dk (hf ad s2 σ H2 _ I2 q2) λfv s3 ⟨z,H3,I3,rz,ov,g,q3⟩=>wF ?_))))
 exact Xg hu I3 g ry rz λw' s4 I4 Mw =>⟨_,H3,I4,Mw,q3⟩
end
section
variable{X:Cx}{ad:aQ}{σ:St}{H:Hp}{s:R'}{a:S'}{kvs:eI}{A:X'}{E:J'}
end
section
variable{X:Cx}{ad:aQ}{σ:St}{H:Hp}{s:R'}{a:S'}{y:V}{u:M'}{A:X'}{E:J'}
end
end L2
namespace Att
open PySem PySem.W PySem.Calls PyProof.Rows
theorem yY{P:Params}{h:Y'}:∀(ns:List Int) (vs:aG),WellAll P h vs (ns.map WData.int)->IntsAre vs ns:=by
 intro ns
 induction ns with
 |nil=>
  intro vs w;rw[mS] at w;cases w;exact .nil
 |cons n ns ih=>
  intro vs w;rw[cL] at w
  cases w with
  |cons a b=>
   cases a;exact .cons _ _ (ih _ b)
theorem K2{l:OpenLaw}{n:Nat}(hn:l.most=some n){P:Params}{h:Y'}{args:List WData}{vals:aG}
 (Qs:l.row.toRowW.claim.pre args=true) (O0:WellAll P h vals args):
 ∃a vs ns,vals=[Value.ref a]/\args=[WData.list (ns.map WData.int)]/\h.get? a=some {cls:= .type "list",data:= .seq vs.toArray}/\IntsAre vs ns/\ns.length<=n:=by
 have hsh:WShape.hasAll [] args [.list .int]=true:=(pre_splitW Qs).1;have hc:l.pre.holds [] {args:=args}=true:=(pre_splitW Qs).2;obtain⟨d,r,rfl,h1,h2⟩:=hasAllW_cons hsh;obtain rfl:=hasAllW_nil h2;obtain⟨xs,rfl,h3⟩:=hasW_list h1;obtain⟨ns,rfl⟩:=items_int h3
 have hlen:ns.length<=n:=by
  unfold OpenLaw.pre at hc
  have h4:(WTm.not (.lt (.lit (.int (n:Int))) (.len (.arg 0)))).holds [] {args:=[.list (ns.map .int)]}=true:=by
   have h4:=(holds_andW hc).1;rw[hn] at h4;exact h4
  have h5:=condW_of h4 (w_not (w_lt w_lit (w_len_list (w_arg Z))));rw[a6] at h5;refine Nat.le_of_not_lt λq=> ?_;have q' :(n:Int)<((ns.length:Nat):Int):=by omega
  first
   |(rw[aS q'] at h5;exact absurd h5 (by decide))
   |(simp at h5;omega)
 cases O0 with
 |cons w1 w2=>
  cases w2
  cases w1 with
  |list ho Iw=>exact⟨_,_,ns,Z,Z,ho,yY ns _ Iw,hlen⟩
theorem LJ(l:OpenLaw)(args:List WData):l.row.toRowW.claim.post args (.bool true) args=true:=
 postW_of (r:=l.row.toRowW) (X:=(true==true))
  (show WShape.has [] (.bool true) .bool=true by first|rfl|decide|simp[WShape.has,WShape.arms,WShape.armsAll])
  (show(WTm.eq .res (.lit (.bool true))).value [] {args:=args,res:=some (.bool true),after:=args}=some (.bool (true==true)) from w_eq_bool (w_res Z) w_lit) rfl
theorem GB{l:OpenLaw}{n:Nat}{q:Z'}{loose:au}{XP:(Str->aO)->Y'->Prop}{YP:W'->Y'->Prop}{d:DefRec}
 (hn:l.most=some n) (YW:d.params.defaults=[])
 (call:∀(w:W') (fO bR:R') (mg mb:Str->aO) (fa:S') (o:Obj) (pm cd doc:M') (a:S') (vs:aG) (ns:List Int),
  Ground q loose [] XP w fO mg mb bR.heap->YP w bR.heap->
  bR.heap.get? fa=some o->o.data= .func (docDef d.name d.params d.body d.scope pm cd doc)->bR.heap.CodeRec cd d.name->mg d.name=some (.ref fa)->
  bR.heap.get? a=some {cls:= .type "list",data:= .seq vs.toArray}->IntsAre vs ns->ns.length<=n->bR.gens= #[]->
  codeAny (model l.prog w) callerA (.call (.ref fa) ⟨[.ref a],[]⟩) (λr s' =>r= .ok (.ret (.bool true))/\OldK bR.heap s'.heap/\s'.os=bR.os/\AllBare s'.gens) bR):
 WalkO q loose XP YP l.row.toRowW d [] (λf vs=>PySem.call f vs):=by
 intro w fO bR mg mb G Y fa o pm cd doc dV kV ho hd AO hD Qc hg args vals as Qs ame hrd O0 L6;obtain rfl:dV= .none:=Dflts.none hD YW;obtain rfl:kV= .none:=Dflts.noKw hD;obtain⟨a,vs,ns,rfl,rfl,Wq,hints,hlen⟩:=K2 hn Qs O0;refine enter_call (sf (call w fO bR mg mb fa o pm cd doc a vs ns G Y ho (fd_plain hd) AO Qc Wq hints hlen hg) λr s' hq=> ?_);obtain⟨rfl,h2,h3,h4⟩:=hq;exact⟨.inl ⟨.bool true,.bool true,[],Z,λ_=>rfl,.bool true,LJ l _,λ_=>⟨List.Pairwise.nil,λ_ hm=>(nomatch hm)⟩⟩,h2,h3,h4⟩
section
variable{prog:Z'}{w:W'}{A:X'}{E:J'}{s:R'}{K:Frag}
end
end Att
namespace L2
open PySem PySem.Spec PyProof.Rows
theorem DA:∀{vs:aG} {ns:List Int},IntsAre vs ns->Vals (ns.map V.int) vs
 |_,_,.nil=> .nil
 |_,_,.cons n t h=> .cons ⟨t,Z⟩ (DA h)
def BX(H:Hp):Prop:=∀b,H b=none\/∃o xs,H b=some (.Fu o (.lst xs))
abbrev dO:uk:=λ_ _ _ _ _ _=>False
abbrev E0:XK:=λ_ _ _=>False
theorem aC{X:Cx}:wf dO X E0:=λ_ _ _ _ _ _ _ h=>h.elim
structure F4(K:Frag)(x qual:Str)(st:Stmt)(f:S')(fd:aad):Prop where
 ex:∃(oc:M') (od:Option S') (kV doc pm:M') (an:Option S') (cB ct:M') (xC:Array (aO)),
  fd=PySem.W.fnOf x qual (hX st) (dN st) (av st) .none kV doc pm an cB ct/\K.lookup f=some ⟨oc,od,.func fd,xC⟩/\PySem.W.codeIn K cB qual=true
 kp:PySem.W.keepIn K (.ref f)=true
section
variable{P:Z'}{w:W'}{K:Frag}{mg:Str->aO}{base:Y'}
theorem F4.ok{x qual:Str}{st:Stmt}{f:S'}{fd:aad}{N ps:au}{k:Nat}{sp:Sp}(F:F4 K x qual st f fd)(S:aJ N ps (av st))(len:∀vs H Q E,sp vs H Q E->vs.length=ps.length)
 (iF:∀(cB:M') (A:X') (outer:List Env) (s:R') (H:Hp) (vs:ak) (Q:VK) (E:XK),dX k (A.deeper (envOfC qual (av st) s.heap.objs.size f cB))->sp vs H Q E->
  ∃t,CW (nD dO P w K mg base N qual (av st) f cB A outer s H E).KD (dN st) t/\t {nx:=λ_ H' =>Q .bp H',rt:=Q} (start N vs) H):aT P w K mg base dO (k+1) f fd ps sp:=by
 obtain⟨oc,od,kV,doc,pm,an,cB,ct,xC,rfl,lk,AO⟩:=F.ex;refine JI lk AO S len λA outer s H vs Q E hr CY=> ?_;obtain⟨t,h,q⟩:=iF cB A outer s H vs Q E hr CY;exact⟨t,h.KD,q⟩
theorem F4.binds{x qual:Str}{st:Stmt}{f:S'}{fd:aad}{ps:au}(F:F4 K x qual st f fd)
 (h:∀(kV doc pm:M') (an:Option S') (cB ct:M') (us:aG),us.length=ps.length->bindArgs (PySem.W.fnOf x qual (hX st) (dN st) (av st) .none kV doc pm an cB ct) ⟨us,[]⟩=pure (ps.zip us)):Binds K fd ps []:=by
 obtain⟨oc,od,kV,doc,pm,an,cB,ct,xC,rfl,lk,AO⟩:=F.ex;exact .all (h kV doc pm an cB ct)
theorem DN{x qual:Str}{st:Stmt}{f:S'}{oc:M'}{od an:Option S'}{xC:Array (aO)}{kV doc pm cB ct:M'}(l:K.lookup f=some ⟨oc,od,.func (PySem.W.fnOf x qual (hX st) (dN st) (av st) .none kV doc pm an cB ct),xC⟩)
 (c:PySem.W.codeIn K cB qual=true) (k:PySem.W.keepIn K (.ref f)=true):F4 K x qual st f (PySem.W.fnOf x qual (hX st) (dN st) (av st) .none kV doc pm an cB ct):=⟨⟨oc,od,kV,doc,pm,an,cB,ct,xC,Z,l,c⟩,k⟩
end
theorem YO{A:X'}{k:Nat}(hr:dX k A):A.units+1<cLine:=iX (Nat.add_le_add_left (by decide:1<=64) _) hr.units
variable{X:Cx}
theorem pv(i:Nat){x:Str}{pos:Pos}(hN:X.N[i]? =some x:=by rfl)(hv:Vis X.env.scope x:=by first|exact Or.inl rfl|exact Or.inr (Or.inl rfl)|exact Or.inr (Or.inr rfl))(hd:(x==("__debug__" :Str))=false:=by decide)
 (AO:(x==("__classdict__" :Str))=false:=by decide):PE X (.Name x pos) (AA i):=VX hN hv hd AO
theorem bo{A B:Prop}(h:B):if false=true then A else B:=by
 rw[ax cU];exact h
theorem a9{A B:Prop}(h:A):if true=true then A else B:=by
 rw[aB Z];exact h
theorem mG{c A B:Prop}[Decidable c](h1:c->A)(h2:¬c->B):if c then A else B:=by
 by_cases h:c
 .rw[aB h];exact h1 h
 .rw[ax h];exact h2 h
def ah(H H' :Hp):Prop:=∀b o,H b=some o->H' b=some o
theorem ah.refl(H:Hp):ah H H:=λ_ _ h=>h
theorem ah.trans{H H1 H2:Hp}(a:ah H H1)(b:ah H1 H2):ah H H2:=λc o h=>b c o (a c o h)
theorem ah.free{H H' :Hp}(e:ah H H'){l:S'}(h:H' l=Option.none):H l=Option.none:=by
 cases q:H l with
 |none=>rfl
 |some o=>
  rw[e l o q] at h;cases h
theorem ah.seq{K:Frag}{H H' :Hp}{a:S'}{xs:ak}(e:ah H H')(h:cF K H a xs):cF K H' a xs:=by
 rcases h with(h|⟨o,h⟩)|h
 .exact .inl (.inl (e _ _ h))
 .exact .inl (.inr ⟨o,e _ _ h⟩)
 .exact .inr h
section
variable{κ:Type}[DecidableEq κ]
end
noncomputable def o7(env:Env):List (Str×NameKind)->List (Str×S')->List (Str×S')
 |[],acc=>acc
 |y::r,acc=>o7 env r (if(y.2==NameKind.free)=true then(y.1,(env.cells.lookup y.1).getD 0)::acc else acc)
theorem Ai{env:Env}:∀(ns:List (Str×NameKind)) (acc:List (Str×S')),(∀y∈ns,y.2= .free->∃c,env.cells.lookup y.1=some c)->
 (forIn ns acc λ(x:Str×NameKind) (cs:List (Str×S'))=>if(x.2==NameKind.free)=true then(cellOf env x.1>>= λa=>pure (ForInStep.yield ((x.1,a)::cs))) else(pure (ForInStep.yield cs):Sem (ForInStep (List (Str×S')))))=pure (o7 env ns acc)
 |[],acc,_=>rfl
 |y::r,acc,h=>by
  rw[vV];have ih:=λa=>Ai r a λz hz=>h z (cw _ hz);by_cases hk:(y.2==NameKind.free)=true
  .obtain⟨c,hc⟩:=h y c5 (eq_of_beq hk);have e:cellOf env y.1=pure c:=by unfold cellOf;rw[hc]
   rw[aB hk,e];show(forIn r ((y.1,c)::acc) _:Sem (List (Str×S')))=_;rw[ih];show pure (o7 env r ((y.1,c)::acc))=pure (o7 env r (if(y.2==NameKind.free)=true then(y.1,(env.cells.lookup y.1).getD 0)::acc else acc));rw[aB hk,hc];rfl
  .rw[ax hk];show(forIn r acc _:Sem (List (Str×S')))=_;rw[ih];show pure (o7 env r acc)=pure (o7 env r (if(y.2==NameKind.free)=true then(y.1,(env.cells.lookup y.1).getD 0)::acc else acc));rw[ax hk]
theorem Bd{scope:Scope}{env:Env}(h:∀y∈scope.names,y.2= .free->∃c,env.cells.lookup y.1=some c):closureFor scope env=pure (o7 env scope.names []):=by
 have q:=Ai (env:=env) scope.names [] h;have e:closureFor scope env=((forIn scope.names ([]:List (Str×S')) λ(x:Str×NameKind) (cs:List (Str×S'))=>if(x.2==NameKind.free)=true then(cellOf env x.1>>= λa=>pure (ForInStep.yield ((x.1,a)::cs))) else(pure (ForInStep.yield cs):Sem (ForInStep (List (Str×S')))))>>= λcs=>pure cs):=rfl;rw[e,q];rfl
theorem xn{env:Env}:∀(ns:List (Str×NameKind)) (acc:List (Str×S')) {x:Str} {c:S'},(∀y∈ns,y.2= .free->∃c,env.cells.lookup y.1=some c)->(o7 env ns acc).lookup x=some c->env.cells.lookup x=some c\/acc.lookup x=some c
 |[],acc,x,c,_,h=> .inr h
 |y::r,acc,x,c,h,e=>by
  have e:(o7 env r (if(y.2==NameKind.free)=true then(y.1,(env.cells.lookup y.1).getD 0)::acc else acc)).lookup x=some c:=e;rcases xn r _ (λz hz=>h z (cw _ hz)) e with q|q
  .exact .inl q
  .by_cases hk:(y.2==NameKind.free)=true
   .rw[aB hk,iD] at q;obtain⟨d,hd⟩:=h y c5 (eq_of_beq hk)
    cases hx:x==y.1 with
    |true=>
     rw[hx] at q;dsimp only at q;rw[hd] at q;have hxy:x=y.1:=eq_of_beq hx;subst hxy;exact .inl (hd.trans q)
    |false=>
     rw[hx] at q;exact .inr q
   .rw[ax hk] at q;exact .inr q
theorem w4{env:Env}:∀(ns:List (Str×NameKind)) (acc:List (Str×S')) {x:Str},((x,NameKind.free)∈ns\/∃c,acc.lookup x=some c)->∃c,(o7 env ns acc).lookup x=some c
 |[],acc,x,h=>by
  rcases h with h|h
  .cases h
  .exact h
 |y::r,acc,x,h=>by
  show ∃c,(o7 env r (if(y.2==NameKind.free)=true then(y.1,(env.cells.lookup y.1).getD 0)::acc else acc)).lookup x=some c;refine w4 r _ ?_;rcases h with h|⟨c,hc⟩
  .rcases aP.mp h with e|h
   .subst e;refine .inr ⟨(env.cells.lookup x).getD 0,?_⟩;rw[aB (by rfl),iD,beq_self_eq_true]
   .exact .inl h
  .by_cases hk:(y.2==NameKind.free)=true
   .rw[aB hk]
    cases hx:x==y.1 with
    |true=>exact .inr ⟨_,by rw[iD,hx]⟩
    |false=>exact .inr ⟨c,by rw[iD,hx];exact hc⟩
   .rw[ax hk];exact .inr ⟨c,hc⟩
theorem oH{env:Env}{x:Str}{k:NameKind}:∀(ns:List (Str×NameKind)),(ns.map λ(n,k)=>if(k==NameKind.free&&env.scope.kind== .function&&env.kindOf n==some .cell) then(n,NameKind.cell) else(n,k)).lookup x=some k->
 ns.lookup x=some k\/(ns.lookup x=some .free/\k= .cell)
 |[],h=>by cases h
 |(n,j)::r,h=>by
  have ih:=oH (env:=env) (x:=x) (k:=k) r;rw[cL] at h;dsimp only at h;by_cases hc:(j==NameKind.free&&env.scope.kind== .function&&env.kindOf n==some .cell)=true
  .rw[aB hc,iD] at h;rw[iD]
   cases hx:x==n with
   |true=>
    rw[hx] at h
    have hj:(j==NameKind.free)=true:=by
     rw[cI,cI] at hc;exact hc.1.1
    have hj:=eq_of_beq hj;subst hj;exact .inr ⟨Z,(fW h).symm⟩
   |false=>
    rw[hx] at h;exact ih h
  .rw[ax hc,iD] at h;rw[iD]
   cases hx:x==n with
   |true=>
    rw[hx] at h;exact .inl h
   |false=>
    rw[hx] at h;exact ih h
theorem uQ{env:Env}{x:Str}:∀(ns:List (Str×NameKind)),ns.lookup x=some .free->
 (ns.map λ(n,k)=>if(k==NameKind.free&&env.scope.kind== .function&&env.kindOf n==some .cell) then(n,NameKind.cell) else(n,k)).lookup x=some .cell\/
 (ns.map λ(n,k)=>if(k==NameKind.free&&env.scope.kind== .function&&env.kindOf n==some .cell) then(n,NameKind.cell) else(n,k)).lookup x=some .free
 |[],h=>by cases h
 |(n,j)::r,h=>by
  have ih:=uQ (env:=env) (x:=x) r;rw[cL];dsimp only;rw[iD] at h;by_cases hc:(j==NameKind.free&&env.scope.kind== .function&&env.kindOf n==some .cell)=true
  .rw[aB hc,iD]
   cases hx:x==n with
   |true=>exact .inl rfl
   |false=>
    rw[hx] at h;exact ih h
  .rw[ax hc,iD]
   cases hx:x==n with
   |true=>
    rw[hx] at h;exact .inr h
   |false=>
    rw[hx] at h;exact ih h
noncomputable def gu(X:Cx)(N:au)(scope:Scope)(cl:List (Str×S'))(C:S')(s:R')(H:Hp)(fp:cc):Cx where
 prog:=X.prog
 w:=X.w
 K:=X.K
 mg:=X.mg
 base:=X.base
 A:=X.A
 N:=N
 fO:=s
 H₀:=H
 env:=compEnvC scope cl C X.env
 outer:=X.stack
 stack:=X.stack
 ex:=fp
 fn:=λ_=>false
 calm:=X.calm
 pn:=[]
 xe:=λ_ _=>False
noncomputable def yW(k:Nat)(js:List Nat)(σ:St):St:=List.replicate k none++js.map λj=>σ.getD j none
structure o8(X:Cx)(N:au)(scope:Scope)(k:Nat)(js:List Nat):Prop where
 kind:scope.kind= .function
 cell:∀y∈scope.names,y.2≠.cell
 loc:∀y∈scope.names,y.2= .local->scope.names.lookup y.1=some .local
 free:∀y∈scope.names,y.2= .free->X.env.kindOf y.1=some .cell\/X.env.kindOf y.1=some .free
 len:N.length=k+js.length
 names:∀(i j:Nat),js[i]? =some j->X.N[j]? =N[k+i]?
 js:∀(i:Nat) (x:Str),N[k+i]? =some x->scope.names.lookup x=some .free
section
variable{X:Cx}{ad:aQ}{σ:St}{H:Hp}{s:R'}{N:au}{scope:Scope}{k:Nat}{js:List Nat}
theorem o8.cells(S:o8 X N scope k js)(ok:X.Ok):∀y∈scope.names,y.2= .free->∃c,X.env.cells.lookup y.1=some c:=λy hy hf=>ok.has _ (S.free y hy hf)
theorem NR{fp:cc}{h1:Y'}{t1:Nat}(I:Inv X ad σ H s)(S:o8 X N scope k js)(f:∀b∈fp,BV X ad H b)(fo:∀b∈fp,∃o,s.heap.get? b=some o)
 (hn:h1.Ns s.heap.objs.size λ_=>none) (hk:∀b o,s.heap.get? b=some o->h1.get? b=some o):
 Inv (gu X N scope (o7 X.env scope.names []) s.heap.objs.size s H fp) [] (yW k js σ) H {s with heap:=h1,toks:=t1}:=by
 have cs:=S.cells I.ok
 have Se:∀{x:Str} {c:S'},(o7 X.env scope.names []).lookup x=some c->X.env.cells.lookup x=some c:=λ{x c} e=>by
  rcases xn scope.names [] cs e with q|q
  .exact q
  .cases q
 refine⟨⟨I.ok.mod,S.kind,I.ok.glob,I.ok.blt,aK _,λx y c e1 e2=>I.ok.inj x y c (Se e1) (Se e2),λx hx=> ?_,λx c hf _=>(nomatch hf),I.ok.hd,I.ok.frames,.inl Z,λb hb=>⟨?_,λx c e=> ?_⟩,I.bs,
  aU I.ok.Kv I.sz,λb o e hb=> ?_,λb hb z=> ?_,I.stack,I.vw⟩,Z,I.bare,Un.kept hk,⟨_,hn,λi x v e1 e2 e3=> ?_⟩,λx c e=> ?_,I.bS.fresh (aK _),λx c e=>I.jR x c (Se e),λp hp=> ?_,I.bS.kept hk,?_⟩
 .have hx:(relabel scope X.env).names.lookup x=some .cell\/(relabel scope X.env).names.lookup x=some .free:=hx
  have fr:scope.names.lookup x=some .free:=by
   rcases hx with q|q
   .rcases oH scope.names q with z|z
    .exact absurd Z (S.cell _ (i' z))
    .exact z.1
   .rcases oH scope.names q with z|z
    .exact z
    .exact z.1
  exact w4 scope.names [] (.inl (i' fr))
 .obtain⟨o,ho⟩:=fo b hb;exact cJ (a_ ho)
 .exact(f b hb).2.2.2.2.1 x c (Se e)
 .rcases(f b hb).2.2.2.1 with z|z
  .exact I.ok.IW b o e z
  .exact absurd (cP (cP (a_ e) I.ok.Kv) z) (cA _)
 .rcases aP.mp (I.A2 b z) with q|q
  .exact(f b hb).2.1 q
  .exact(f b hb).2.2.1 q
 .have e1:N[i]? =some x:=e1
  have hi:k<=i:=by
   by_cases hi:i<k
   .unfold yW at e2;rw[iy (by rw[gM];exact hi),vR,aB hi] at e2;cases e2
   .omega
  obtain⟨d,rfl⟩:∃d,i=k+d:=⟨i - k,by omega⟩;unfold yW at e2;rw[kr (by rw[gM];omega),gM,bY] at e2;have ed:k+d - k=d:=by omega
  rw[ed] at e2
  cases ej:js[d]? with
  |none=>rw[ej] at e2;cases e2
  |some j=>
   rw[ej] at e2;have e2:σ.getD j none=some v:=fW e2
   have Pm :σ[j]? =some (some v):=by
    rw[eA] at e2
    cases q:σ[j]? with
    |none=>rw[q] at e2;cases e2
    |some z=>rw[q] at e2;rw[show z=some v from e2]
   have en:X.N[j]? =some x:=(S.names d j ej).trans e1;have fr:=S.js d x e1;have kx:=S.free _ (i' fr) rfl;obtain⟨m,_,hl⟩:=I.loc;obtain⟨u,r,l⟩:=hl j x v en Pm (by rcases kx with q|q;exact .inr (.inl q);exact .inr (.inr q));refine⟨u,r,.inr ⟨?_,?_⟩⟩
   .exact uQ (env:=X.env) scope.names fr
   .rcases l with⟨l,_⟩|⟨_,c,ec,ic⟩
    .rcases kx with q|q
     .dsimp only at q;rw[q] at l;cases l
     .dsimp only at q;rw[q] at l;cases l
    .obtain⟨c',e'⟩:=w4 (env:=X.env) scope.names [] (.inl (i' fr));have e'' :=Se e';rw[ec] at e'';cases e'';exact⟨c,e',ic.keeps hk⟩
 .obtain⟨v,q⟩:=I.cell x c (Se e);exact⟨v,q.keeps hk⟩
 .have hp:p∈([]:aQ):=hp;cases hp
 .show(yW k js σ).length=N.length;unfold yW;rw[bu,gM,a6,S.len]
end
def gA(σ fD :St):Prop:=∀(i:Nat) v,σ[i]? =some (some v)->fD[i]? =some (some v)
theorem gA.refl(σ:St):gA σ σ:=λ_ _ h=>h
theorem gA.own{σ fD :St}{k i:Nat}{js:List Nat}{v:Option V}(h:gA (yW k js σ) fD)(hi:i<k):gA (yW k js σ) (fD.set i v):=λj u e=>by
 have hj:j≠i:=λz=>by
  subst z;unfold yW at e;rw[iy (by rw[gM];exact hi),vR,aB hi] at e;cases e
 rw[zJ (ck hj)];exact h j u e
def nX(J:It)(k:Nat)(js:List Nat)(g:TG)(tt:TT)(te:TE)(σ:St)(H1:Hp)(Q:VK):Prop:=∀p,H1 p=none->∃W:Nat->Nat->ak->Hp->Prop,(∃m,W 0 m [] (upd H1 p (.lst [])))/\
 ∀i m ys H,W i m ys H->H p=some (.lst ys)/\((J.stop i H/\Q (.ref p) H)\/(J.go i H/\ys.length<sizeLine/\∀x H',J.BM i H x H'->g x (yW k js σ) H' λmY H2=>gA (yW k js σ) mY/\tt mY H2 λb H3=>
  if b=true then te mY H3 λy H4=>H4 p=some (.lst ys)/\∃m',m' <m/\W (i+1) m' (ys++[y]) (upd H4 p (.lst (ys++[y]))) else ∃m',m' <m/\W (i+1) m' ys H3))
def Ki(wi:TI)(k:Nat)(js:List Nat)(g:TG)(tt:TT)(te:TE):TE:=λσ H Q=>wi σ H λJ H1=>nX J k js g tt te σ H1 Q
def abj:TT:=λ_ H Q=>Q true H
def Jj(Y:Cx)(ifs:b7)(t:TT):Prop:=
 ∀(ad:aQ) (s:R') (σ:St) (H:Hp) (Q:Bool->Hp->Prop),Inv Y ad σ H s->t σ H Q->
  wpAny (model Y.prog Y.w) Y.A (forIn ifs true λc r=>if r=true then do let ok<-isTrue c Y.env (eval c Y.env);pure (ForInStep.yield ok) else pure (ForInStep.yield r)) (TP Y ad σ Q) Y.xe s
theorem wH{Y:Cx}:Jj Y [] abj:=λ_ _ _ H _ I h=>wpAny_tests_nil ⟨H,I,h⟩
theorem LS{Y:Cx}{c:V'}{t:TT}(h:PT Y c t):Jj Y [c] t:=λad s σ H Q I hq=>wpAny_tests_one (h ad s σ H Q I hq)
section
variable{prog:Z'}{w:W'}{A:X'}{R:Result->R'->Prop}{s:R'}
theorem EK{elt target iter:V'}{ifs:b7}{scope:Scope}{pos:Pos}{it acc:M'}{env:Env}(I:Nat->R'->Prop)
 (turn:∀n s,I n s->wpAny (model prog w) A (pyNext it) (λr bR=>match r with
  |none=>R (.ok .next) bR
  |some v=>wpAny (model prog w) A (letOwnedTupleGo target it v) (λ_ fO=>wpAny (model prog w) A (assign target env v) (λ_ uO=>
   wpAny (model prog w) A (forIn ifs true λc r=>if r=true then do let ok<-isTrue c env (eval c env);pure (ForInStep.yield ok) else pure (ForInStep.yield r)) (λok yS=>
    if ok=true then wpAny (model prog w) A (eval elt env) (λx Qx=>
     wpAny (model prog w) A (call (.builtin "list.append") [acc,x]) (λ_ Y7=>∃m,m<n/\I m Y7) (λ_ _=>False) Qx) (λ_ _=>False) yS
    else ∃m,m<n/\I m yS) (λ_ _=>False) uO) (λ_ _=>False) fO) (λ_ _=>False) bR) (λ_ _=>False) s)
 (n:Nat) (h:I n s):
 codeAny (model prog w) A (.compLoop (.ListComp elt [⟨target,iter,ifs,0⟩] scope pos) 0 it acc env) R s:=by
 refine codeAny_loop Z I (λn s hI=> ?_) n h;show wpAny _ A ((compTurn (.ListComp elt [⟨target,iter,ifs,0⟩] scope pos) 0 it acc env).onRaise (λx=>do noteFrame x env;theTreesLotGoes x)) _ _ s;refine wpAny_noted ?_;rw[compTurn_list];refine aw (qB (aw (fV (turn n s hI) (λr bR h₁=> ?_) λ_ _ h' =>h'.elim)))
 cases r with
 |none=>exact aY h₁
 |some v=>
  refine aw (fV h₁ (λ_ fO h₀=> ?_) λ_ _ h' =>h'.elim);refine aw (fV h₀ (λ_ uO l9=>aw (fV l9 (λok yS rg=> ?_) λ_ _ h' =>h'.elim)) λ_ _ h' =>h'.elim)
  cases ok with
  |false=>exact aY ⟨Z,rg⟩
  |true=>
   exact aw (aw (fV rg (λx Qx Xk=>aw (fV Xk (λ_ Y7 pA=>aY (aY ⟨Z,pA⟩)) λ_ _ h' =>h'.elim)) λ_ _ h' =>h'.elim))
end
section
variable{X:Cx}{tg iter elt:V'}{ifs:b7}{scope:Scope}{pos:Pos}{N:au}{k:Nat}{js:List Nat}{wi:TI}{g:TG}{tt:TT}{te:TE}
theorem CT{ad:aQ}{s2:R'}{σ:St}{H2:Hp}{it:S'}{fp:cc}{tn:Nat->Y'->Prop}{J:It}{Q:VK}{RR:M'->S'->Result->R'->Prop}{E:J'}(hc:X.calm=true)(S:o8 X N scope k js)
 (hb:∀(cl:List (Str×S')) (C:S') (s:R') (H:Hp) (fp:cc),PG (gu X N scope cl C s H fp) tg g/\Jj (gu X N scope cl C s H fp) ifs tt/\PE (gu X N scope cl C s H fp) elt te)
 (I2:Inv X ad σ H2 s2) (T:Turn X.prog X.w X.K tg J fp it tn) (Qy:tn 0 s2.heap) (f2:∀b∈fp,BV X ad H2 b)
 (h:∀p,H2 p=none->∃W:Nat->Nat->ak->Hp->Prop,(∃m,W 0 m [] (upd H2 p (.lst [])))/\
  ∀i m ys H,W i m ys H->H p=some (.lst ys)/\((J.stop i H/\Q (.ref p) H)\/(J.go i H/\ys.length<sizeLine/\∀x H',J.BM i H x H'->g x (yW k js σ) H' λmY H2=>gA (yW k js σ) mY/\tt mY H2 λb H3=>
   if b=true then te mY H3 λy H4=>H4 p=some (.lst ys)/\∃m',m' <m/\W (i+1) m' (ys++[y]) (upd H4 p (.lst (ys++[y]))) else ∃m',m' <m/\W (i+1) m' ys H3)))
 (hR:∀(p C:S') (s' :R') (H' :Hp) (m:Str->aO),Inv X ad σ H' s'->Q (.ref p) H'->s'.heap.Ns C m->H' C=none->C≠X.env.locals->X.fO.heap.objs.size<=C->(∀x c,X.env.cells.lookup x=some c->c≠C)->(∀q∈X.pn++ad,q.1≠C)->RR (.ref p) C (.ok .next) s'):
 wpAny (model X.prog X.w) X.A (newList []) (λacc yS=>wpAny (model X.prog X.w) X.A (newFunctionEnv scope X.env.globals (o7 X.env scope.names []) [] X.env.qual none .none (some X.env)) (λZX Qx=>
  codeAny (model X.prog X.w) X.A (.compStart (.ListComp elt [⟨tg,iter,ifs,0⟩] scope pos) 0 (.ref it) acc {ZX with scope:=relabel scope X.env}) (RR acc ZX.locals) Qx) E yS) E s2:=by
 have hf:H2 s2.heap.objs.size=none:=I2.bS.fresh (aK _);obtain⟨W,⟨m0,w0⟩,turn⟩:=h s2.heap.objs.size hf;have I3:Inv X ad σ (upd H2 s2.heap.objs.size (.lst [])) {s2 with heap:=s2.heap.push {cls:= .type "list",dict:=none,data:= .seq ([]:aG).toArray},toks:=s2.toks}:=I2.VH (ys:=[]) .nil (cH _);refine oU (wpAny_newFunctionEnv S.cell (by intro y hy;simp at hy) (λh₁ Jm IH=> ?_) S.kind);dsimp only at Jm IH ⊢;generalize hp:s2.heap.objs.size=p at*
 generalize hH3:s2.heap.push {cls:= .type "list",dict:=none,data:= .seq ([]:aG).toArray}=g3 at Jm IH I3 ⊢;have k23:∀b o,s2.heap.get? b=some o->g3.get? b=some o:=λb o e=>hH3▸bq _ e;have k34:∀b o,g3.get? b=some o->h₁.get? b=some o:=λb o e=>IH.extBut b o (cJ (a_ e)) (bq _ e)
 have npf:∀b∈fp,b≠p:=λb hb z=>by
  obtain⟨o,ho,_⟩:=T.obj _ _ Qy b hb;have:=a_ ho;rw[hp,z] at this;exact cA _ this
 have f3:∀b∈fp,BV X ad (upd H2 p (.lst [])) b:=λb hb=>⟨by rw[az (npf b hb)];exact(f2 b hb).1,(f2 b hb).2⟩
 have fo3:∀b∈fp,∃o,g3.get? b=some o:=λb hb=>by
  obtain⟨o,ho,_⟩:=T.obj _ _ Qy b hb;exact⟨o,k23 b o ho⟩
 have J0:=NR (s:={s2 with heap:=g3,toks:=s2.toks}) (h1:=h₁) (t1:=s2.toks+([]:List (Str×M')).length) I3 S f3 fo3 Jm k34;have st4:tn 0 h₁:=T.keep _ _ _ Qy λb hb o e=>k34 b o (k23 b o e);obtain⟨hG,hT,hE⟩:=hb (o7 X.env scope.names []) g3.objs.size {s2 with heap:=g3,toks:=s2.toks} (upd H2 p (.lst [])) fp
 generalize hY:gu X N scope (o7 X.env scope.names []) g3.objs.size {s2 with heap:=g3,toks:=s2.toks} (upd H2 p (.lst [])) fp=Y at*
 have yp:Y.prog=X.prog:=by rw[<-hY];rfl
 have yw:Y.w=X.w:=by rw[<-hY];rfl
 have yK:Y.K=X.K:=by rw[<-hY];rfl
 have yA:Y.A=X.A:=by rw[<-hY];rfl
 have yc:Y.calm=true:=by rw[<-hY];exact hc
 have yx:Y.xe=λ_ _=>False:=by rw[<-hY];rfl
 have ye:Y.env=compEnvC scope (o7 X.env scope.names []) g3.objs.size X.env:=by rw[<-hY];rfl
 have ypn:Y.pn=[]:=by rw[<-hY];rfl
 have yex:Y.ex=fp:=by rw[<-hY];rfl
 have yfs:Y.fs=Cb X.stack:=by rw[<-hY];rfl
 have Se:∀{x:Str} {c:S'},(o7 X.env scope.names []).lookup x=some c->X.env.cells.lookup x=some c:=λ{x c} e=>by
  rcases xn scope.names [] (S.cells I2.ok) e with q|q
  .exact q
  .cases q
 have IV:∀{H' :Hp},(∀b∈fp,H' b=none)->∀b∈fp,BV Y [] H' b:=λhn b hb=>by
  refine⟨hn b hb,?_,?_,?_,λx c e=> ?_,λq hq=> ?_⟩
  .rw[ye];obtain⟨o,ho⟩:=fo3 b hb;exact cJ (a_ ho)
  .rw[yfs];intro z;rcases aP.mp (I2.A2 b z) with q|q
   .exact(f2 b hb).2.1 q
   .exact(f2 b hb).2.2.1 q
  .rw[yex];exact .inl hb
  .rw[ye] at e;exact(f2 b hb).2.2.2.2.1 x c (Se e)
  .rw[ypn] at hq;cases hq
 have acO:∀{fD :St} {H' :Hp} {s' :R'},Inv Y [] fD H' s'->Q (.ref p) H'->RR (.ref p) g3.objs.size (.ok .next) s' :=λ{fD H' s'} I' q=>by
  have u:=I'.base;have ho:=I'.os;rw[yfs,yex] at u;subst hY;have IX:Inv X ad σ H' s' :=I3.RH (ch:=fp) ho u I'.bS I'.bare λb hb=>⟨(f2 b hb).2.2.2.1,(f2 b hb).2.1,(f2 b hb).2.2.2.2.1,(f2 b hb).2.2.2.2.2⟩;obtain⟨m,hn,_⟩:=I'.loc;refine hR p g3.objs.size s' H' m IX q hn I'.free (λz=> ?_) (aU I3.sz (aK _)) (λx c e z=> ?_) λr hr z=> ?_
  .exact absurd (z▸I3.lt) (cA _)
  .obtain⟨v,o,ho,_⟩:=I3.cell x c e;exact absurd (z▸a_ ho) (cA _)
  .obtain⟨ho,_⟩:=I3.pin r hr;exact absurd (z▸a_ ho) (cA _)
 have loop:codeAny (model X.prog X.w) X.A (.compLoop (.ListComp elt [⟨tg,iter,ifs,0⟩] scope pos) 0 (.ref it) (.ref p) (compEnvC scope (o7 X.env scope.names []) g3.objs.size X.env)) (RR (.ref p) g3.objs.size) {s2 with heap:=h₁,toks:=s2.toks+([]:List (Str×M')).length}:=by
  refine EK (λn s' =>∃i ys H',Inv Y [] (yW k js σ) H' s'/\tn i s'.heap/\(∀b∈fp,H' b=none)/\W i n ys H') ?_ m0 ⟨0,[],_,J0,st4,λb hb=>(f3 b hb).1,w0⟩
  rintro n s5 ⟨i,ys,H5,I5,Yb,fr5,w5⟩
  obtain⟨hys,w5⟩:=turn i n ys H5 w5;rw[<-yp,<-yw,<-yA,<-ye];have T' :Turn Y.prog Y.w Y.K tg J fp it tn:=by rw[yp,yw,yK];exact T
  rcases w5 with⟨stop,q⟩|⟨go,hz,step⟩
  .refine dk (T'.done Y Z Z Z yc i [] s5 _ H5 _ I5 (IV fr5) Yb stop) λr s6 ⟨hr,I6⟩=> ?_;subst hr;exact acO I6 q
  .refine dk (T'.item Y Z Z Z yc i [] s5 _ H5 _ I5 (IV fr5) Yb go) λr s6 ⟨u,hr,h6⟩=> ?_;subst hr;refine dk h6 λ_ s7 ⟨x,H7,I7,r7,y7,st7,fr7⟩=> ?_;have I7' :=I7.pinned (IV fr7) (T.obj _ _ st7)
   have fin:∀{XJ:St} {H8:Hp} {s8:R'},gA (yW k js σ) XJ->Inv Y ([]++Bv fp s7.heap) XJ H8 s8->Inv Y [] (yW k js σ) H8 s8/\tn (i+1) s8.heap/\∀b∈fp,H8 b=none:=λ{XJ H8 s8} sb I8=>by
    refine⟨?_,T.keep _ _ _ st7 λb hb o e=>(I8.pin (b,o) (lS _ (lS _ (n8 hb e)))).1,λb hb=> ?_⟩
    .exact(I8.uY (ad:=[])).weak (by rw[I5.len,I8.len]) sb
    .obtain⟨o,e,d⟩:=T.obj _ _ st7 b hb;exact(I8.pin (b,o) (lS _ (lS _ (n8 hb e)))).2.1
   have wE:∀{α:Type} {t:Sem α} {P:α->R'->Prop} {s' :R'},wpAny (model Y.prog Y.w) Y.A t P Y.xe s'->wpAny (model Y.prog Y.w) Y.A t P (λ_ _=>False) s' :=λ{α t P s'} h=>by rw[yx] at h;exact h
   refine dk (wE (hG _ s7 _ H7 x u _ I7' r7 (step x H7 y7))) λ_ s8 ⟨XJ,H8,I8,sb,q8⟩=> ?_;refine dk (wE (hT _ s8 XJ H8 _ I8 q8)) λb s9 ⟨H9,I9,q9⟩=> ?_
   cases b with
   |false=>
    have q9:∃m',m' <n/\W (i+1) m' ys H9:=q9;obtain⟨m',hm,w9⟩:=q9;obtain⟨a1,a2,a3⟩:=fin sb I9;exact⟨m',hm,i+1,ys,H9,a1,a2,a3,w9⟩
   |true=>
    refine dk (wE (hE _ s9 XJ H9 _ I9 q9)) λy Yq ⟨v,V_,I10,r10,e10,m',hm,w10⟩=> ?_;refine dk (wE (dw _ Yq XJ V_ (.ref p) [v] (.ref p) [y] (λ_ LA=>∃m',m' <n/\W (i+1) m' (ys++[v]) LA) I10 Z (.cons r10 .nil) ⟨p,ys,v,Z,Z,e10,hz,m',hm,w10⟩)) λz X1 ⟨_,LA,I11,_,m2,hm2,w11⟩=> ?_;obtain⟨a1,a2,a3⟩:=fin sb I11;exact⟨m2,hm2,i+1,ys++[v],LA,a1,a2,a3,w11⟩
 refine codeAny_compStart_list loop ?_;exact T.self _ _ _ _ _ st4 loop
theorem QI(hc:X.calm=true)(S:o8 X N scope k js)(hi:PI X tg iter wi)
 (hb:∀(cl:List (Str×S')) (C:S') (s:R') (H:Hp) (fp:cc),PG (gu X N scope cl C s H fp) tg g/\Jj (gu X N scope cl C s H fp) ifs tt/\PE (gu X N scope cl C s H fp) elt te)
 (hs:∀x,foldedSetIterable iter X.env x=pure x:=by intro _;rfl):PE X (.ListComp elt [⟨tg,iter,ifs,0⟩] scope pos) (Ki wi k js g tt te):=by
 intro ad s σ H Q I h;rw[eval_ListComp];refine wpAny_comprehension_free (use:=none) Z hs (Bd (S.cells I.ok)) S.kind S.loc (dk (hi ad s σ H _ I h) λv s1 h1=>dk h1 λitv s2 h2=> ?_);obtain⟨it,fp,tn,J,H2,e,I2,T,Qy,f2,q⟩:=h2;subst e;refine CT (RR:=λacc C=>compPost (model X.prog X.w) X.A X.xe none (EP X ad σ Q) acc C) hc S hb I2 T Qy f2 q ?_;intro p C s' H' m IX q' hn hC hL h0 TZ hpn;refine⟨m,hn,λh' sb=>⟨.ref p,H',?_,Z,q'⟩⟩;exact IX.turned (t' :=s'.toks) (λb o hb e=>(sb.2 b hb).trans e) hC (ck hL).symm (.inr h0) TZ hpn
theorem PN{i:Nat}{x:Str}{pos' je:Pos}(hN:X.N.Nodup)(hi' :X.N[i]? =some x)(hx:Loc X.env.scope x)(hc:X.calm=true)(S:o8 X N scope k js)(hi:PI X tg iter wi)
 (hb:∀(cl:List (Str×S')) (C:S') (s:R') (H:Hp) (fp:cc),PG (gu X N scope cl C s H fp) tg g/\Jj (gu X N scope cl C s H fp) ifs tt/\PE (gu X N scope cl C s H fp) elt te)
 (hsw:swapsWith (.ListComp elt [⟨tg,iter,ifs,0⟩] scope je) (some (.Name x pos')) pos.line X.env=pure true:=by rfl)
 (hs:∀x,foldedSetIterable iter X.env x=pure x:=by intro _;rfl) (hf:X.fn x=true\/X.env.scope.names.lookup x=some .local:=by first|exact .inl rfl|exact .inr rfl|assumption):
 PS X (.Assign [.Name x pos'] (.ListComp elt [⟨tg,iter,ifs,0⟩] scope je) pos) (Gr (Ki wi k js g tt te) (vJ i)):=by
 intro ad s σ H D I h;rw[exec_Assign_Name_used _ _ _ _ hsw];refine aw (qB (aw ?_));show wpAny _ X.A (do let _<-comprehension (.ListComp elt [⟨tg,iter,ifs,0⟩] scope je) scope X.env _ (newList []) false (eval iter X.env) (some (assign (.Name x pos') X.env))) _ _ s
 refine aw (fV (wpAny_comprehension_free (use:=some (assign (.Name x pos') X.env)) (Q:=λ_ s' =>SP X ad D .next s') Z hs (Bd (S.cells I.ok)) S.kind S.loc (dk (hi ad s σ H _ I h) λv s1 h1=>dk h1 λitv s2 h2=> ?_))
  (λ_ s' hq=>aY (aY hq)) λ_ _ e=>e)
 obtain⟨it,fp,tn,J,H2,e,I2,T,Qy,f2,q⟩:=h2;subst e;refine CT (Q:=λv H' =>D.nx (σ.set i (some v)) H') (RR:=λacc C=>compPost (model X.prog X.w) X.A X.xe (some (assign (.Name x pos') X.env)) (λ_ s' =>SP X ad D .next s') acc C) hc S hb I2 T Qy f2 q ?_;intro p C s' H' m IX q' hn hC hL h0 TZ hpn;show wpAny _ X.A (assign (.Name x pos') X.env (.ref p)) _ _ s';refine wpAny_assign_Name (CG (v:= .ref p) IX hN hi' hx Z (λN3 I'' ⟨a,sb,ha⟩=> ?_) hf)
 have hCa:C≠a:=by
  rcases ha with z|z
  .rw[z];exact hL
  .exact λe=>TZ x a z e.symm
 refine⟨m,hn.sameBut sb hCa,λh' sb' =>⟨σ.set i (some (.ref p)),H',?_,q'⟩⟩;exact I''.turned (t' :=N3.toks) (λb o hb e=>(sb'.2 b hb).trans e) hC hL (.inr h0) TZ hpn
end
noncomputable def cOk(osc:Scope)(ON N:au)(scope:Scope)(k:Nat)(js:List Nat):Bool:=
 (scope.kind== .function)&&scope.names.all (λy=> !(y.2== .cell))&&scope.names.all (λy=> !(y.2== .local)||scope.names.lookup y.1==some .local)&&
 scope.names.all (λy=> !(y.2== .free)||(osc.names.lookup y.1==some .cell||osc.names.lookup y.1==some .free))&&(N.length==k+js.length)&&
 (List.range js.length).all (λi=>ON[js.getD i 0]? ==N[k+i]?)&&(N.drop k).all λx=>scope.names.lookup x==some .free
theorem DH{X:Cx}{N:au}{scope:Scope}{k:Nat}{js:List Nat}(h:cOk X.env.scope X.N N scope k js=true):o8 X N scope k js:=by
 unfold cOk at h;simp only[cI] at h;obtain⟨⟨⟨⟨⟨⟨h1,h2⟩,h3⟩,h4⟩,h5⟩,h6⟩,h7⟩:=h;have h5:=eq_of_beq h5;rw[a7] at h2 h3 h4 h6 h7;refine⟨eq_of_beq h1,λy hy e=> ?_,λy hy e=> ?_,λy hy e=> ?_,h5,λi j e=> ?_,λi x e=> ?_⟩
 .have q:=h2 y hy;rw[e] at q;exact absurd q (by decide)
 .have q:=h3 y hy;rw[e] at q;exact eq_of_beq (by simpa using q)
 .have q:=h4 y hy;rw[e] at q;have q:(X.env.scope.names.lookup y.1==some .cell||X.env.scope.names.lookup y.1==some .free)=true:=by simpa using q
  rw[DS] at q;rcases q with q|q
  .exact .inl (eq_of_beq q)
  .exact .inr (eq_of_beq q)
 .have hi:i<js.length:=(c8.mp e).1;have q:=eq_of_beq (h6 i (mK.mpr hi));rw[eA,e] at q;exact q
 .refine eq_of_beq (h7 x ?_);rw[zr];exact⟨i,by rw[List.getElem?_drop];exact e⟩
theorem cD:iZ X (.builtin "isinstance") (λxs H Q=>∃x T t b,xs=[x,.ty T]/\vT X.K H x t/\kitOne X.K t (.type T)=some b/\Q (.bl b) H):=by
 intro ad s σ H xs us Q I r h;obtain⟨x,T,t,b,rfl,ty,e,q⟩:=h;obtain⟨u,c,rfl,ru,rc⟩:=jad r;cases rc;exact Lq I ru ty e λtk=>⟨.bl b,H,I.tok tk,Z,q⟩
def afa:V->Option Int->Option Int->Hp->VK->Prop:=λx lo hi H Q=>∃z,x= .str z/\z.length<=sizeLine/\Q (.str (Txt.slice z lo hi)) H
theorem Fj:X4 X afa:=by
 intro ad s σ H x v vl vu lo hi sl Q I rx hs pl pu h;obtain⟨z,rfl,hz,q⟩:=h;obtain⟨t,rfl⟩:=rx;refine⟨"str",_,F.slot_str_getitem.lookup,typeIs_str _ _ _,?_⟩
 have fin:∀{l u:Option (Int×Tok)},l.map (·.1)=lo->u.map (·.1)=hi->s.heap.IsSlice sl l u none->wpAny (model X.prog X.w) X.A (getItem (.str z t) (.ref sl)) (EP X ad σ Q) X.xe s:=λ{l u} el eu X9=>by
  refine wpAny_getItem_str_slice (st:=none) X9 Z ?_;have e:sliceMade z t l u none=sliceMade z t l u none:=rfl;subst el eu;exact post_val_or_str ⟨aU (Txt.slice_le z _ _) hz,λt' k=>⟨.str (Txt.slice z _ _),H,I.tok k,⟨t',Z⟩,q⟩⟩
 obtain⟨o,ho,hc,hd⟩:=hs
 cases pl with
 |none=>
  cases pu with
  |none=>exact fin (l:=none) (u:=none) Z Z ⟨o,ho,hc,hd⟩
  |int j uj=>exact fin (l:=none) (u:=some (j,uj)) Z Z ⟨o,ho,hc,hd⟩
 |int i ui=>
  cases pu with
  |none=>exact fin (l:=some (i,ui)) (u:=none) Z Z ⟨o,ho,hc,hd⟩
  |int j uj=>exact fin (l:=some (i,ui)) (u:=some (j,uj)) Z Z ⟨o,ho,hc,hd⟩
noncomputable def Zn(x:Str):It:=⟨λi _=>i<x.length,λi H v H' =>H' =H/\∃c,x.cps[i]? =some c/\v= .str ⟨#[c]⟩,λi _=>x.length<=i⟩
theorem Fv{P:Z'}{w:W'}{K:Frag}{tg:V'}{x:Str}{I:S'}{St:Nat->Y'->Prop}(W:∀A:X',A.handled=none->Walks P w A I [I] [I] x.cps.size (SignAt x) St)
 (hob:∀i h,St i h->∃o,h.get? I=some o/\∀v,o.data≠.cell v) (ht:∀v,letOwnedTupleGo tg (.ref I) v=pure ())
 (Z5:∀(A:X') (i:Nat) (s:R') (Q:J') (E:J'),St i s.heap->Q (.ref I) s->wpAny (model P w) A (pyIter (.ref I)) Q E s):Turn P w K tg (Zn x) [I] I (λi h=>i<=x.length/\St i h) where
 mem:=by simp
 obj:=λi h st b hb=>by
  have e:b=I:=by simpa using hb
  subst e;exact hob i h st.2
 keep:=λi h h' st k=>⟨st.1,(W {handled:=none} rfl).frame i h h' st.2 k⟩
 item:=by
  intro X hP hw hK hc i ad s σ H E J hf st hg;subst hP hw hK;obtain⟨f0,f1,f2,f3,f4,f5⟩:=hf I (by simp);refine(W X.A (J.ok.hd hc)).item i s _ _ hg st.2 λv h' tk hv Pf k=> ?_;have J1:Inv X ad σ H {s with heap:=h',toks:=tk}:=J.turned (λb o hb e=>k b o (by simpa using hb) e) f0 f1 f3 f4 f5;obtain⟨c,u,hc',rfl⟩:=hv;exact⟨_,Z,wpAny_of_eq (ht _) ⟨.str ⟨#[c]⟩,H,J1,⟨u,Z⟩,⟨Z,c,hc',Z⟩,⟨hg,Pf⟩,λb hb=>(hf b hb).1⟩⟩
 done:=by
  intro X hP hw hK hc i ad s σ H E J hf st hg;subst hP hw hK;obtain⟨f0,f1,f2,f3,f4,f5⟩:=hf I (by simp);have e:i=x.cps.size:=Nat.le_antisymm st.1 hg;subst e;exact(W X.A (J.ok.hd hc)).done s _ _ st.2 λh' tk k=>⟨Z,J.turned (λb o hb e=>k b o (by simpa using hb) e) f0 f1 f3 f4 f5⟩
 self:=λA _ s Q E st h=>Z5 A _ s Q E st.2 h
section
variable{X:Cx}{tg:V'}
def adp(tl:TE):TI:=λσ H R=>tl σ H λx H1=>∃z,x= .str z/\R (Zn z) H1
theorem Og{l:V'}{tl:TE}(hl:PE X l tl)(hc:X.calm=true)(ht:∀it v,letOwnedTupleGo tg it v=pure ():=by intro _ _;rfl):PI X tg l (adp tl):=by
 intro ad s σ H R I h;refine dk (hl ad s σ H _ I h) λv s1 ⟨x,H1,I1,r,z,e,q⟩=> ?_;subst e;obtain⟨t,rfl⟩:=r;cases ha:z.cps.all (· <128)
 .refine wpAny_pyIter_wide ha ?_
  exact⟨_,[_],_,Zn z,H1,Z,I1.kept (t' :=s1.toks) λb u e=>bq _ e,Fv (λA' hA=>Walks.strWide hA _ z t) (λi h st=>by
   obtain⟨o,ho,_,hd⟩:=st;exact⟨o,ho,λv z=>by rw[hd] at z;cases z⟩) (ht _) (λA _ s Q E st h=>wpAny_pyIter_striter_wide st h),⟨cH _,_,cV _ Z,Z,Z⟩,λb hb=>by
   have e:b=s1.heap.objs.size:=by simpa using hb
   subst e;exact I1.ID (aK _) (I1.bS.fresh (aK _)),q⟩
 .refine wpAny_pyIter_ascii ha ?_
  exact⟨_,[_],_,Zn z,H1,Z,I1.kept (t' :=s1.toks) λb u e=>bq _ e,Fv (λA' hA=>Walks.strAscii hA _ z t) (λi h st=>by
   obtain⟨o,ho,_,hd⟩:=st;exact⟨o,ho,λv z=>by rw[hd] at z;cases z⟩) (ht _) (λA _ s Q E st h=>wpAny_pyIter_striter_ascii st h),⟨cH _,_,cV _ Z,Z,Z⟩,λb hb=>by
   have e:b=s1.heap.objs.size:=by simpa using hb
   subst e;exact I1.ID (aK _) (I1.bS.fresh (aK _)),q⟩
end
theorem Gy:∀{bs:List Bool} {us:aG},Vals (bs.map V.bl) us->us=bs.map Value.bool
 |[],_,.nil=>rfl
 |b::bs,_,.cons r t=>by
  cases r;rw[Gy (bs:=bs) t];rfl
theorem jaj{bs:List Bool}{f:Nat->Bool}(h:∀i b,bs[i]? =some b->f i=b):(List.range bs.length).all f=bs.all id:=by
 rw[mU,a7,a7];constructor
 .intro q b hb;obtain⟨i,hi⟩:=zr.mp hb;have hl:i<bs.length:=(c8.mp hi).1;rw[<-h i b hi];exact q i (mK.mpr hl)
 .intro q i hi;have hl:=mK.mp hi;rw[h i bs[i] (by simp[hl])];exact q _ (EB hl)
theorem FL(hc:X.calm=true):iZ X (.builtin "all") (λxs H Q=>∃(a:S') (bs:List Bool),xs=[.ref a]/\H a=some (.lst (bs.map V.bl))/\Q (.bl (bs.all id)) H):=by
 intro ad s σ H xs us Q I r h;obtain⟨a,bs,rfl,ha,q⟩:=h;obtain⟨u,rfl,ru⟩:=Wp r;cases ru;obtain⟨its,r,pl,hz⟩:=I.list (cF.of ha);have e:=Gy r;have kG:=I.bS.lt ha;have I1:Inv X ad σ H {s with heap:=s.heap.push {cls:= .type "list_iterator",data:= .fields #[.ref a,.int 0 0]}}:=I.kept (t' :=s.toks) λb u e=>bq _ e;refine call_all_walk (vS pl.isList ⟨_,_,_,_,_,_,λi=>bs.getD i true,Z,Walks.list (A:=X.A.in1) (I.ok.hd hc) _ a (cJ kG) its.toArray,⟨⟨_,cV _ Z,Z,Z⟩,pl.isList.push _⟩,?_,λh' tk k=> ?_⟩)
 .intro i v s' Q' E' hv hQ;rw[e] at hv;have hv:(bs.map Value.bool)[i]? =some v:=by simpa using hv
  rw[bY] at hv
  cases eb:bs[i]? with
  |none=>rw[eb] at hv;cases hv
  |some b=>
   rw[eb] at hv;cases hv;refine l_ ?_;have e2:bs.getD i true=b:=by rw[eA,eb];rfl
   rw[<-e2];exact hQ
 .refine⟨.bl (bs.all id),H,I1.turned (λb o hb e=>k b o (by simpa using hb) e) (I.bS.fresh (aK _)) (λz=> ?_) (.inr I.sz) (λx c e z=> ?_) (λp hp z=> ?_),?_,q⟩
  .exact absurd (z▸I.lt) (cA _)
  .obtain⟨v,o,ho,_⟩:=I.cell x c e;exact absurd (z▸a_ ho) (cA _)
  .obtain⟨ho,_⟩:=I.pin p hp;exact absurd (z▸a_ ho) (cA _)
  .show Value.bool _=Value.bool _;have e3:its.toArray.size=bs.length:=by rw[e];simp
   rw[e3,jaj λi b hb=>by rw[eA,hb];rfl]
noncomputable def Jo:ak->ak->Bool
 |[],[]=>true
 |x::xs,y::ys=>Hi x y&&Jo xs ys
 |_,_=>false
theorem Aa:∀(xs ys:ak),xs.length=ys.length->(List.range xs.length).all (λj=>Hi (xs.getD j .bp) (ys.getD j .bp))=Jo xs ys
 |[],[],_=>rfl
 |x::xs,y::ys,h=>by
  rw[bB,List.range_succ_eq_map,fj,List.all_map];have h' :xs.length=ys.length:=by simpa using h
  rw[<-(show(Hi x y&&Jo xs ys)=Jo (x::xs) (y::ys) from Z),<-Aa xs ys h'];rfl
 |[],_::_,h=>by simp at h
 |_::_,[],h=>by simp at h
def Zf(neg:Bool):R2:=λx y H Q=>∃a b xs ys,x= .ref a/\y= .ref b/\H a=some (.lst xs)/\H b=some (.lst ys)/\
 ((xs.length≠ys.length/\Q (.bl neg) H)\/(xs.length=ys.length/\xs.all nQ=true/\ys.all nQ=true/\Q (.bl (if neg then !Jo xs ys else Jo xs ys)) H))
theorem GF{xs:ak}{us:aG}{j:Nat}(r:Vals xs us)(f:xs.all nQ=true)(hj:j<us.length):∃x,xs[j]? =some x/\RelV x us[j]/\nQ x=true:=by
 have hl:=r.length;have hx:xs[j]? =some xs[j]:=by simp[hl,hj]
 obtain⟨u,hu,ru⟩:=r.get hx;have e:us[j]? =some us[j]:=by simp[hj]
 rw[e] at hu;cases hu;exact⟨_,hx,ru,a7.mp f _ (EB _)⟩
theorem oz(hu:X.A.units<cLine):n6 X (compareOp .Eq) (Zf false):=by
 intro ad s σ H x y v u Q I rx ry h;obtain⟨a,b,xs,ys,rfl,rfl,ha,hb,h⟩:=h;cases rx;cases ry;obtain⟨its,r,pl,hz⟩:=I.list (cF.of ha);obtain⟨pB,r2,Rq,JE⟩:=I.list (cF.of hb);have hl:=r.length;have n5:=r2.length;rcases h with⟨wQ,q⟩|⟨he,f1,f2,q⟩
 .exact SeqAt.eq_list_lengthsAt pl.isList Rq.isList (by simp;lia) hu ⟨.bl false,H,I,Z,q⟩
 .refine SeqAt.eq_listAt (e:=λj=>Hi (xs.getD j .bp) (ys.getD j .bp)) pl.isList Rq.isList (by simp;lia) hu (λj h1 h2=> ?_) ⟨.bl (Jo xs ys),H,I,?_,q⟩
  .have h1:j<its.length:=by simpa using h1
   have h2:j<pB.length:=by simpa using h2
   obtain⟨x,e1,rx,fx⟩:=GF r f1 h1;obtain⟨y,e2,ry,fy⟩:=GF r2 f2 h2;have g1:xs.getD j .bp=x:=by rw[eA,e1];rfl
   have g2:ys.getD j .bp=y:=by rw[eA,e2];rfl
   show SeqAt.EqAt _ _ its.toArray[j] pB.toArray[j] (Hi (xs.getD j .bp) (ys.getD j .bp));rw[g1,g2];exact NV rx ry fx fy
  .show Value.bool _=Value.bool _;rw[<-Aa xs ys he,bJ,hl]
theorem ah.upd{H:Hp}{p:S'}{o:HO}(h:H p=none):ah H (upd H p o):=λb u e=>by
 rw[az (aA e h)];exact e
theorem ah.VM{K:Frag}{H H' :Hp}{a:S'}{xs:ak}(e:ah H H')(h:bc K H a xs):bc K H' a xs:=by
 rcases h with(h|⟨o,h⟩)|h
 .exact .inl (.inl (e _ _ h))
 .exact .inl (.inr ⟨o,e _ _ h⟩)
 .exact .inr h
structure vP(J:It)(H:Hp)(xs:ak):Prop where
 go:∀i H',ah H H'->i<xs.length->J.go i H'
 BM:∀i H' x gX,ah H H'->J.BM i H' x gX->gX =H'/\(i<xs.length->xs[i]? =some x)
 stop:∀i H',ah H H'->xs.length<=i->J.stop i H'
theorem DD(z:Str)(H:Hp):vP (Zn z) H (z.cps.toList.map λc=>V.str ⟨#[c]⟩) where
 go:=λi H' _ h=>by
  show i<z.cps.size;simpa using h
 BM:=λi H' x gX _ h=>by
  obtain⟨e,c,hc,rfl⟩:=h;refine⟨e,λ_=> ?_⟩;rw[bY,Array.getElem?_toList,hc];rfl
 stop:=λi H' _ h=>by
  show z.cps.size<=i;simpa using h
theorem fL{K:Frag}{a:S'}{xs:ak}{H:Hp}(h:cF K H a xs):vP (VC K a) H xs where
 go:=λi H' s hi=>⟨xs,xs[i],s.seq h,by simp[hi]⟩
 BM:=λi H' x gX s q=>⟨q.1,λ_=>q.2 xs (s.seq h)⟩
 stop:=λi H' s hi=>⟨xs,s.seq h,hi⟩
theorem se{K:Frag}{a:S'}{xs:ak}{H:Hp}(h:bc K H a xs):vP (Wj K a) H xs where
 go:=λi H' s hi=>⟨xs,xs[i],s.VM h,by simp[hi]⟩
 BM:=λi H' x gX s q=>⟨q.1,λ_=>q.2 xs (s.VM h)⟩
 stop:=λi H' s hi=>⟨xs,s.VM h,hi⟩
theorem F5(lo:Int)(n:Nat)(H:Hp):vP (Ss lo n) H ((List.range n).map λ(i:Nat)=>V.int (lo+(i:Int))) where
 go:=λi H' _ h=>by
  show i<n;simpa using h
 BM:=λi H' x gX _ q=>by
  obtain⟨e,rfl⟩:=q;refine⟨e,λh=> ?_⟩;have h:i<n:=by simpa using h
  simp[bY,qd h]
 stop:=λi H' _ h=>by
  show n<=i;simpa using h
theorem sr{J:It}{xs:ak}{k:Nat}{js:List Nat}{g:TG}{tt:TT}{te:TE}{σ:St}{H:Hp}{Q:VK}(pb:V->Bool)(fe:V->V)(F:vP J H xs)(hlen:xs.length<=sizeLine)
 (iF:∀(i:Nat) (x:V) (H' :Hp) (C1:V->Hp->Prop) (C0:Hp->Prop),xs[i]? =some x->ah H H'->(pb x=true->C1 (fe x) H')->(pb x=false->C0 H')->
  g x (yW k js σ) H' λmY H2=>gA (yW k js σ) mY/\tt mY H2 λb H3=>if b=true then te mY H3 C1 else C0 H3)
 (hq:∀p,H p=none->Q (.ref p) (upd H p (.lst ((xs.filter pb).map fe)))):
 nX J k js g tt te σ H Q:=by
 intro p hp;refine⟨λi m ys H' =>m=xs.length - i/\i<=xs.length/\ys=((xs.take i).filter pb).map fe/\H' =upd H p (.lst ys),⟨xs.length,Z,cH _,Z,Z⟩,?_⟩
 rintro i m ys H' ⟨rfl,hi,rfl,rfl⟩
 refine⟨af,?_⟩;have hs:ah H (upd H p (.lst (((xs.take i).filter pb).map fe))):=ah.upd hp;by_cases kG:i<xs.length
 .refine .inr ⟨F.go i _ hs kG,?_,λx gX hy=> ?_⟩
  .rw[a6];have h1:((xs.take i).filter pb).length<=(xs.take i).length:=zo _ _;rw[lM] at h1
   lia
  .obtain⟨rfl,hx⟩:=F.BM i _ x gX hs hy;have hx:=hx kG;have et:(xs.take (i+1)).filter pb=(xs.take i).filter pb++(if pb x=true then[x] else[]):=PySem.take_succ_filter pb xs i x hx;refine iF i x _ _ _ hx hs (λhb=>⟨af,xs.length - (i+1),by lia,Z,kG,?_,?_⟩) (λhb=>⟨xs.length - (i+1),by lia,Z,kG,?_,Z⟩)
   .rw[et,aB hb,i7];rfl
   .rw[QR]
   .rw[et,hb];simp
 .have e:i=xs.length:=by lia
  subst e;refine .inl ⟨F.stop _ _ hs (aK _),?_⟩;rw[gg];exact hq p hp
section
variable{X:Cx}{tg:V'}
end
structure IQ(J:It)(H:Hp)(n:Nat)(Y:Nat->V->Hp->Prop):Prop where
 go:∀i H',ah H H'->i<n->J.go i H'
 BM:∀i H' x gX,ah H H'->i<n->J.BM i H' x gX->ah H' gX/\Y i x gX
 stop:∀i H',ah H H'->n<=i->J.stop i H'
theorem vP.g{J:It}{H:Hp}{xs:ak}(F:vP J H xs):IQ J H xs.length (λi x _=>xs[i]? =some x) where
 go:=F.go
 BM:=λi H' x gX s hi h=>by
  obtain⟨e,q⟩:=F.BM i H' x gX s h;exact⟨e▸ah.refl H',q hi⟩
 stop:=F.stop
theorem jo{J:It}{n k:Nat}{js:List Nat}{Y:Nat->V->Hp->Prop}{g:TG}{tt:TT}{te:TE}{σ:St}{H:Hp}{Q:VK}(pb:Nat->Bool)(fe:Nat->V)(F:IQ J H n Y)(hlen:n<=sizeLine)
 (iF:∀(i:Nat) (x:V) (H' :Hp) (C1:V->Hp->Prop) (C0:Hp->Prop),i<n->ah H H'->Y i x H'->(pb i=true->∀gX,ah H' gX->C1 (fe i) gX)->(pb i=false->∀gX,ah H' gX->C0 gX)->
  g x (yW k js σ) H' λmY H2=>gA (yW k js σ) mY/\tt mY H2 λb H3=>if b=true then te mY H3 C1 else C0 H3)
 (hq:∀p H',H p=none->ah H H'->H' p=some (.lst (((List.range n).filter pb).map fe))->Q (.ref p) H'):
 nX J k js g tt te σ H Q:=by
 intro p hp;refine⟨λi m ys H' =>m=n - i/\i<=n/\ys=((List.range i).filter pb).map fe/\H' p=some (.lst ys)/\ah H H',⟨n,Z,cH _,Z,af,ah.upd hp⟩,?_⟩
 rintro i m ys H' ⟨rfl,hi,rfl,hl,hs⟩
 refine⟨hl,?_⟩;by_cases kG:i<n
 .refine .inr ⟨F.go i _ hs kG,?_,λx gX hy=> ?_⟩
  .rw[a6];have h1:((List.range i).filter pb).length<=(List.range i).length:=zo _ _;rw[oy] at h1;omega
  .obtain⟨s1,y1⟩:=F.BM i _ x gX hs kG hy
   have et:(List.range (i+1)).filter pb=(List.range i).filter pb++(if pb i=true then[i] else[]):=by
    rw[List.range_succ,uS];cases hb:pb i<;>simp[hb]
   refine iF i x gX _ _ kG (hs.trans s1) y1 (λhb H3 s3=>⟨s3 _ _ (s1 _ _ hl),n - (i+1),by omega,Z,kG,?_,af,?_⟩) (λhb H3 s3=>⟨n - (i+1),by omega,Z,kG,?_,s3 _ _ (s1 _ _ hl),(hs.trans s1).trans s3⟩)
   .rw[et,aB hb,i7];rfl
   .intro c o e;rw[az (aA e hp)];exact s3 _ _ (s1 _ _ (hs _ _ e))
   .rw[et,hb];simp
 .have e:i=n:=by omega
  subst e;exact .inl ⟨F.stop _ _ hs (aK _),hq p H' hp hs hl⟩
mutual
inductive Dat (H:Hp):V->U'->Prop
 |bp:Dat H .bp .none
 |bl (b:Bool):Dat H (.bl b) (.bool b)
 |int (i:Int):Dat H (.int i) (.int i)
 |str (x:Str):Dat H (.str x) (.str x)
 |lst {a:S'} {xs:ak} {ds:List U'} (e:H a=some (.lst xs)) (h:DatAll H xs ds):Dat H (.ref a) (.list ds)
 |tup {a:S'} {xs:ak} {ds:List U'} (e:H a=some (.tup xs)) (h:DatAll H xs ds):Dat H (.ref a) (.tuple ds)
inductive DatAll (H:Hp):ak->List U'->Prop
 |nil:DatAll H [] []
 |cons {x:V} {xs:ak} {d:U'} {ds:List U'} (h:Dat H x d) (t:DatAll H xs ds):DatAll H (x::xs) (d::ds)
end
mutual
theorem Dat.same{H H' :Hp}(s:ah H H'):∀{v:V} {d:U'},Dat H v d->Dat H' v d
 |_,_,.bp=> .bp
 |_,_,.bl b=> .bl b
 |_,_,.int i=> .int i
 |_,_,.str x=> .str x
 |_,_,.lst e h=> .lst (s _ _ e) (DatAll.same s h)
 |_,_,.tup e h=> .tup (s _ _ e) (DatAll.same s h)
theorem DatAll.same{H H' :Hp}(s:ah H H'):∀{xs:ak} {ds:List U'},DatAll H xs ds->DatAll H' xs ds
 |_,_,.nil=> .nil
 |_,_,.cons h t=> .cons (Dat.same s h) (DatAll.same s t)
end
section
variable{X:Cx}{e stp:V'}{te ts:TE}{pos p2:Pos}
end
section
variable{prog:Z'}{w:W'}{A:X'}{E:J'}{s:R'}
end
section
variable{X:Cx}{e:V'}{ta:TA}{p p' pos pos' :Pos}
end
section
variable{X:Cx}{K:Frag}
theorem Nt(hK:X.K=K):WZ X (PY K):=hK▸a8
theorem Ct(hK:X.K=K):n6 X (compareOp .NotIn) (rIn K true):=hK▸oI
theorem Cc(hK:X.K=K):iZ X (.builtin "len") (λxs H Q=>∃p ys,xs=[.ref p]/\(cF K H p ys\/bc K H p ys)/\Q (.int ys.length) H):=hK▸br
theorem E1{es:b7}{k:Nat}{t:Ua}{n:Nat}{pos:Pos}(hK:X.K=K)(hc:X.calm=true)(h:PGs X es t)(hn:(assignEach es X.env).length=n)(sY:(assignEach es X.env).findIdx? (·.1)=none):PG X (.Tuple es k pos) (aaj K n t):=hK▸xr hc h hn sY
end
section
variable{X:Cx}{tg:V'}
end
section
variable{X:Cx}{tg:V'}
end
section
variable{X:Cx}{ad:aQ}{σ:St}{H:Hp}{s:R'}{h' :Y'}
end
section
variable{X:Cx}{tg:V'}
theorem Ln(n l1 l2:Nat)(h1:l1<n)(h2:l2<n):ZipApart (n+4) (n+2) (n+3) n (n+1) l1 l2:=by
 constructor<;>(intro z;(have z' :(_:Nat)=_:=z);lia)
end
structure RY(K:Frag)(C:S')(m:Str)(f:S'):Prop where
 sp:PySem.W.specialIn K (.ref C) "__getattribute__"=some (some (.builtin "type.__getattribute__"))
 rd:PySem.W.readsIn K C (.type "type")=true
 at_:findCls K (.ref C) (.type "type") m=some (.val (.ref f))
 kp:PySem.W.keepIn K (.ref f)=true
section
variable{X:Cx}{CX:uk}{k:Nat}{f C:S'}{fd:aad}{ps:au}{sp:Sp}{dvs:ak}{ds:aG}{E:XK}{x m:Str}{p pos apos:Pos}{e:V'}{es:b7}{t:TA}
theorem l0{pl:Sem Bool}(c:RY X.K C m f)(hg:Gl X x)(hm:X.mg x=some (.ref C))(F:aT X.prog X.w X.K X.mg X.base CX k f fd ps sp)(hr:dX k X.A)(hb:Binds X.K fd ps ds)(hd:Vals dvs ds)(hx:wf CX X E)(ha:PA X (e::es) t)
 (rW:(x==("__debug__" :Str))=false:=by decide) (sY:starEach (e::es) X.env=(false,eval e X.env)::starEach es X.env:=by rfl) (nA:(backTo pos (starEach es X.env)).any (·.1)=false:=by rfl)
 (ht:eval (.Call (.Attribute (.Name x p) m apos) (e::es) [] pos) X.env=(do
  let ov<-eval (.Name x p) X.env
  standAt apos.atName
  let(f,first)<-holding [ov] (getMethod ov m pl)
  callWith pos f first (backTo pos (starEach (e::es) X.env)) (backToKw pos (keywordEach [] X.env))):=by rfl):
 PE X (.Call (.Attribute (.Name x p) m apos) (e::es) [] pos) (yf sp dvs E t):=by
 intro ad s σ H Q I h;refine methodCall_KW (pl:=pl) (kL I hg hm ?_ rW) ht;refine PySem.W.method_cls I.jO c.sp (PySem.W.cls_value I.jO c.rd c.at_ Z ?_);refine sg (first:=[]) (h₀:=X.base) I.ok.mod.xp c.kp (dk (ha pos ad _ σ H _ (I.tok _) h) λus s2 ⟨vs,H2,I2,r,q2⟩=>⟨I2.jO,?_⟩) sY nA;exact wZ F hr hb hd hx I2 r q2
end
section
variable{X:Cx}{o e f:V'}{apos je:Pos}{td ty tx:TE}
end
theorem JC:∀(ns:List Int) (i:Nat),PySem.preSum (λj=>ns.getD j 0) i=(ns.take i).sum
 |ns,0=>by simp[PySem.preSum]
 |ns,i+1=>by
  show PySem.preSum (λj=>ns.getD j 0) i+ns.getD i 0=_;rw[JC ns i,sd,List.sum_append]
  cases e:ns[i]? with
  |none=>simp[eA,e]
  |some v=>simp[eA,e]
theorem z8(hc:X.calm=true):iZ X (.builtin "sum") (λxs H Q=>∃(a:S') (ns:List Int),xs=[.ref a]/\H a=some (.lst (ns.map V.int))/\ns.length<=2000/\(∀n∈ns,0<=n/\n<=1000000)/\Q (.int ns.sum) H):=by
 intro ad s σ H xs us Q I r h;obtain⟨a,ns,rfl,ha,hl,hb,q⟩:=h;obtain⟨u,rfl,ru⟩:=Wp r;cases ru;obtain⟨its,r,pl,hz⟩:=I.list (cF.of ha);have hlen:=r.length;rw[a6] at hlen;have kG:=I.bS.lt ha;have I1:Inv X ad σ H {s with heap:=s.heap.push {cls:= .type "list_iterator",data:= .fields #[.ref a,.int 0 0]}}:=I.kept (t' :=s.toks) λb u e=>bq _ e
 have aaF:∀j,0<=ns.getD j 0/\ns.getD j 0<=1000000:=λj=>by
  rw[eA]
  cases e:ns[j]? with
  |none=>simp
  |some v=>exact hb v (bE e)
 have adn:∀j,0<=PySem.preSum (λj=>ns.getD j 0) j/\PySem.preSum (λj=>ns.getD j 0) j<=1000000*(j:Int):=by
  intro j
  induction j with
  |zero=>simp[PySem.preSum]
  |succ j ih=>
   have:=aaF j;show 0<=PySem.preSum (λj=>ns.getD j 0) j+ns.getD j 0/\PySem.preSum (λj=>ns.getD j 0) j+ns.getD j 0<=_
   push_cast
   lia
 refine call_sum_walk (vS pl.isList ⟨_,_,_,_,_,_,λi=>ns.getD i 0,Z,Walks.list (A:=X.A.in1) (I.ok.hd hc) _ a (cJ kG) its.toArray,⟨⟨_,cV _ Z,Z,Z⟩,pl.isList.push _⟩,?_,?_,?_,λh' tk t' k=> ?_⟩)
 .intro b wL;have wL :b=s.heap.objs.size\/b=a:=by simpa using wL
  show b<(s.heap.push _).objs.size;rw[kl];rcases wL with rfl|rfl
  .exact zh _
  .exact Nat.lt_succ_of_lt kG
 .intro i v hv;have hv:its[i]? =some v:=by simpa using hv
  have hi:i<its.length:=(c8.mp hv).1;have hx:(ns.map V.int)[i]? =some (V.int ns[i]):=by simp[show i<ns.length by lia]
  obtain⟨u,hu,t,rfl⟩:=r.get hx;rw[hv] at hu;cases hu;refine⟨t,?_⟩;dsimp only;rw[eA,wm (by lia)];rfl
 .intro j hj;have hj:j<its.length:=by simpa using hj
  have h1:=aaF j;have h2:=adn (j+1)
  push_cast at h2
  unfold PySem.InLong;dsimp only;refine⟨?_,?_⟩<;>(constructor<;>lia)
 .refine⟨.int ns.sum,H,I1.turned (λb o hb e=>k b o (by simpa using hb) e) (I.bS.fresh (aK _)) (λz=> ?_) (.inr I.sz) (λx c e z=> ?_) (λp hp z=> ?_),⟨t',?_⟩,q⟩
  .exact absurd (z▸I.lt) (cA _)
  .obtain⟨v,o,ho,_⟩:=I.cell x c e;exact absurd (z▸a_ ho) (cA _)
  .obtain⟨ho,_⟩:=I.pin p hp;exact absurd (z▸a_ ho) (cA _)
  .rw[JC,bJ,<-hlen,gg]
section
variable{X:Cx}{e:V'}{ta:TA}{p pos p' pos' :Pos}
end
section
variable{X:Cx}{e lo stp:V'}{te tl ts:TE}{pos p2:Pos}
end
section
variable{X:Cx}{ad:aQ}{σ:St}{H:Hp}{s:R'}{d:S'}{kvs:eI}
end
section
variable{X:Cx}{tg e:V'}{te:TE}
end
structure L3(h:Y')(e T:S')(oe:Obj):Prop where
 at_:h.get? e=some oe
 fs:∃vs,oe.data= .fields vs/\vs[1]? =some (.ref T)
 ne:T≠e
 tr:∃oT ts,h.get? T=some oT/\oT.data= .fields ts/\ts[3]? =some .none
section
variable{M:Model}{A:X'}{E:J'}{s:R'}
theorem rJ{base:Y'}{env:Env}{outer:List Env}{L e:S'}{oe:Obj}{vs:Array M'}{head:M'}{Qv:Bool}{Q:Unit->R'->Prop}
 (wo:A.frames=some (env::outer)) (hl:s.heap.FunFrames base (env::outer)) (hf:env.frame=some L)
 (he:s.heap.get? e=some oe) (hd:oe.data= .fields vs) (ql:1<vs.size)
 (h:∀h' T,s.heap.objs.size<=T->L3 h' e T (oe.mapFields (·.setIfInBounds 1 (.ref T)))->(∀b o,b≠e->b∉(env::outer).filterMap (·.frame)->s.heap.get? b=some o->h'.get? b=some o)->
  (∀b o,b≠e->s.heap.get? b=some o->∃sl,h'.get? b=some {o with slots:=sl})->Q () {s with heap:=h'}):
 wpAny M A (do let a<-frameOf env;let pl<-entryPlaceOf L Qv;let b<-EntryCells.newEntry head a .none (rawInt L) .none pl;setField (.ref e) 1 b) (λ_ s' =>wpAny M A (setFlight (.ref e) none) Q E s') E s:=by
 have ae6:e∉(env::outer).filterMap (·.frame):=λhm=>by
  obtain⟨_,o,ho,PL⟩:=hl.mem hm
  rw[he] at ho;injection ho with ho;subst ho;exact PL vs hd
 refine aw (wpAny_frameOf_fun wo hl hf λh₁ fk=> ?_);refine aw (wpAny_entryPlaceOf λpl nA=> ?_);unfold EntryCells.newEntry newFields;refine aw (oU ?_ (nA.sizeOk5 _ _ _ _ _));have UU:h₁.get? e=some oe:=(fk.2.1 e ae6).trans he;have RS:=bq (h:=h₁) {cls:= .type "traceback",dict:=none,data:= .fields ([head,.ref L,.none,rawInt L,.none]++(if pl.isEmpty then List.replicate 6 Value.none else pl)).toArray} UU;refine uI RS hd ql ?_;have Vp:h₁.objs.size≠e:=jD (a_ UU);have Mg:=uE hd (·.setIfInBounds 1 (Value.ref h₁.objs.size));have Jy:=ma (Obj.mapFields (·.setIfInBounds 1 (Value.ref h₁.objs.size))) RS (zC Mg)
 have SG:=(gn (h₁.push {cls:= .type "traceback",dict:=none,data:= .fields ([head,.ref L,.none,rawInt L,.none]++(if pl.isEmpty then List.replicate 6 Value.none else pl)).toArray})
  (Obj.mapFields (·.setIfInBounds 1 (Value.ref h₁.objs.size))) (ck Vp)).trans (cV h₁ Z)
 unfold setFlight;refine aw (c6 Jy Mg (x:= .ref h₁.objs.size) (by simp[ql]) ?_);rw[aB (show(Value.ref h₁.objs.size !=Value.none)=true from by simp)];refine uI SG Z (by simp only[bJ,bu,bB,m5]<;>lia) (h _ h₁.objs.size ?_ ?_ ?_ ?_)
 .rw[fk.1];exact aK _
 .refine⟨?_,⟨_,Mg,by simp[ql]⟩,Vp,_,_,ma _ SG (zC (uE Z _)),uE Z _,by first|(simp;done)|(rcases nA with rfl|⟨_,_,_,_,_,_,_,rfl⟩<;>simp)⟩;rw[gn _ _ Vp];exact Jy
 .intro b o DJ XT hb;have GC:=(fk.2.1 b XT).trans hb;have HL:h₁.objs.size≠b:=jD (a_ GC);rw[gn _ _ HL,gn _ _ (ck DJ)];exact bq _ GC
 .intro b o DJ hb;obtain⟨sl,GC⟩:=fk.2.2 b o hb;have HL:h₁.objs.size≠b:=jD (a_ GC);refine⟨sl,?_⟩;rw[gn _ _ HL,gn _ _ (ck DJ)];exact bq _ GC
theorem FW{base:Y'}{env:Env}{outer:List Env}{L e:S'}{oe:Obj}{vs:Array M'}{Q:Unit->R'->Prop}
 (wo:A.frames=some (env::outer)) (hl:s.heap.FunFrames base (env::outer)) (hf:env.frame=some L)
 (he:s.heap.get? e=some oe) (hd:oe.data= .fields vs) (h1:vs[1]? =some .none)
 (h:∀h' T,s.heap.objs.size<=T->L3 h' e T (oe.mapFields (·.setIfInBounds 1 (.ref T)))->(∀b o,b≠e->b∉(env::outer).filterMap (·.frame)->s.heap.get? b=some o->h'.get? b=some o)->
  (∀b o,b≠e->s.heap.get? b=some o->∃sl,h'.get? b=some {o with slots:=sl})->Q () {s with heap:=h'}):wpAny M A (leaving env (.ref e)) Q E s:=by
 unfold leaving noteFrame;simp only[hf];refine aw (aw (c6 he hd h1 ?_));rw[ax (by decide)];exact rJ wo hl hf he hd (uK.mp h1).1 h
theorem Ia{base:Y'}{env:Env}{outer:List Env}{L e T:S'}{oe:Obj}{Q:Unit->R'->Prop}
 (wo:A.frames=some (env::outer)) (hl:s.heap.FunFrames base (env::outer)) (hf:env.frame=some L) (ht:L3 s.heap e T oe)
 (h:∀h' T',s.heap.objs.size<=T'->L3 h' e T' (oe.mapFields (·.setIfInBounds 1 (.ref T')))->(∀b o,b≠e->b≠T->b∉(env::outer).filterMap (·.frame)->s.heap.get? b=some o->h'.get? b=some o)->
  (∀b o,b≠e->b≠T->s.heap.get? b=some o->∃sl,h'.get? b=some {o with slots:=sl})->Q () {s with heap:=h'}):wpAny M A (leaving env (.ref e)) Q E s:=by
 obtain⟨he,⟨vs,hd,h1⟩,Vp,oT,ts,hT,mH,h3⟩:=ht;unfold leaving noteFrame;simp only[hf];refine aw (aw (c6 he hd h1 ?_));rw[aB (show(Value.ref T !=Value.none)=true from by simp)];refine aw (c6 hT mH h3 ?_);rw[ax (show ¬((Value.none==rawInt L)=true) from by simp[rawInt])];refine aw (uI hT mH (uK.mp h3).1 ?_);have other:∀b,b≠T->(s.heap.update T (Obj.mapFields (·.setIfInBounds 3 Value.none))).get? b=s.heap.get? b:=λb hb=>gn _ _ (ck hb)
 have Be:∀b o,s.heap.get? b=some o->(∀vs,o.data≠.fields vs)->b≠T:=λb o hb PL q=>by
  rw[q,hT] at hb;injection hb with hb;subst hb;exact PL ts mH
 refine rJ wo (hl.of_keeps λb o hb PL=>⟨o,(other b (Be b o hb PL)).trans hb,Z⟩) hf ((other e (ck Vp)).trans he) hd (uK.mp h1).1
  λh' T' hn fl k1 k2=>h h' T' ?_ fl (λb o DJ HL XT hb=>k1 b o DJ XT ((other b HL).trans hb)) λb o DJ HL hb=>k2 b o DJ ((other b HL).trans hb)
 have Lz :(s.heap.update T (Obj.mapFields (·.setIfInBounds 3 Value.none))).objs.size<=T' :=hn;rw[Heap.size_after_update] at Lz;exact Lz
end
structure oZ(bm:aG):Prop where
 hasB:bm.contains (.type "ValueError")=true
 hasBase:bm.contains (.type "BaseException")=true
 noAttr:bm.contains (.type "AttributeError")=false
 noName:bm.contains (.type "NameError")=false
noncomputable abbrev mf(C t:S'):Obj:={cls:= .ref C,data:= .fields #[.ref t,.none,.none,.none,.bool false,.none]}
section
variable{prog:Z'}{w:W'}{A:X'}{E:J'}{h:Y'}{g:Array GenState}{d:Drawn}{t:Nat}{os:OsState}
variable{nm q:Str}{C N:S'}{bs bm:aG}{jf:Bool}{sn:au}{sub:aG}{ab:Bool}{col:Option Bool}{dd:Option S'}{k0 k1 k2 k3 k5:aO}
theorem Ce{M:Model}(T:oZ bm){rest:aG}{Q:Unit->R'->Prop}(hC:h.get? C=some (excClassObj nm q C N bs bm jf sn sub ab col dd k0 k1 k2 k3 k5 "ValueError.__new__"))
 (hq:Q () ⟨h,g,d,t,os⟩):wpAny M A (checkBuiltinCall "ValueError.__new__" ⟨.ref C::rest,[]⟩) Q E ⟨h,g,d,t,os⟩:=by
 have F:=va;have aaz:(Value.ref C::bm).contains (.type "ValueError")=true:=by rw[qU,T.hasB,sk]
 have agE:=F.noStar;simp only[checkBuiltinCall,F.newKind,F.newSplit,F.newRow]
 repeat (first|refine jA hC ?_|(refine qE hC ?_;rw[aaz])|refine wpAny_staticBase_exc hC ?_|refine wpAny_madeBy_exc hC ?_|simp only[bne_self_eq_false,wj,mJ]|wp_step)
 exact hq
theorem DT(T:oZ bm){R:Result->R'->Prop}{rest:aG}(hC:h.get? C=some (excClassObj nm q C N bs bm jf sn sub ab col dd k0 k1 k2 k3 k5 "ValueError.__new__"))
 (hq:R (.ok (.ret (.ref (h.objs.size+1)))) ⟨(h.push {cls:= .type "tuple",data:= .seq rest.toArray}).push (mf C h.objs.size),g,d,t,os⟩) (hrest:rest.length<=sizeLine:=by size_fits):
 codeAny (model prog w) A (.builtin "ValueError.__new__" ⟨.ref C::rest,[]⟩) R ⟨h,g,d,t,os⟩:=by
 have F:=va;have aiQ:=F.ends;have QS:(Value.ref C::bm).contains (.type "ValueError")=true:=by rw[qU,T.hasB,sk]
 have hcA:(Value.ref C::bm).contains (.type "AttributeError")=false:=by rw[qU,T.noAttr];rfl
 have hcN:(Value.ref C::bm).contains (.type "NameError")=false:=by rw[qU,T.noName];rfl
 refine codeAny_builtinAt F.entry ?_;unfold Builtin.«BaseException.__new__»;refine PySem.wpAt_bind ?_;show PySem.wpAt _ _ _ (stack>>= _) _ _ _;refine PySem.wpAt_bind (PySem.wpAt_stack λp below=>PySem.wpAt_of_wpAny ?_)
 wp_walk
 refine PySem.wpAt_of_wpAny ?_;rw[F.owner]
 repeat (first|with_reducible refine wpAny_madeHere_exc F.canon hC ?_|with_reducible refine jA hC ?_|(with_reducible refine qE hC ?_;first|rw[QS]|rw[hcA]|rw[hcN])|wp_step)
 show R _ _;rw[kl];exact hq
theorem BZ(T:oZ bm){K:Frag}{rest:aG}{fI:S'}{Q:Fin->R'->Prop}
 (hC:h.get? C=some (excClassObj nm q C N bs bm jf sn sub ab col dd k0 k1 k2 k3 k5 "ValueError.__new__")) (X:K.In h) (hi:PySem.W.findIn K (.ref C) "__init__"=some (some (.ref fI))) (hf:PySem.W.typeIn K (.ref fI)=some (.type "function"))
 (hq:wpAny (model prog w) A (call (.ref fI) (.ref (h.objs.size+1)::rest)) (λr s' =>r= .none/\Q (.done (.ret (.ref (h.objs.size+1)))) s') E ⟨(h.push {cls:= .type "tuple",data:= .seq rest.toArray}).push (mf C h.objs.size),g,d,t,os⟩) (hrest:rest.length<=sizeLine:=by size_fits):
 wpAny (model prog w) A (Builtin.«type.__call__» ⟨.ref C::rest,[]⟩) Q E ⟨h,g,d,t,os⟩:=by
 have F:=va
 repeat (first|with_reducible refine jA hC ?_|with_reducible refine wpAny_madeBy_exc hC ?_|wp_step)
 refine codeAny_call_builtin_code (Code.quiet_builtin _ F.quiet) (Ce T hC ?_);refine DT T hC ?_ hrest;show wpAny _ _ _ _ _ _;have hk:∀b o,h.get? b=some o->((h.push {cls:= .type "tuple",data:= .seq rest.toArray}).push (mf C h.objs.size)).get? b=some o:=λb o e=>bq _ (bq _ e);have aaq:=hk _ _ hC;have ZO:K.In ((h.push {cls:= .type "tuple",data:= .seq rest.toArray}).push (mf C h.objs.size)):=X.keeps hk;have VY:((h.push {cls:= .type "tuple",data:= .seq rest.toArray}).push (mf C h.objs.size)).get? (h.objs.size+1)=some (mf C h.objs.size):=by heap_get
 have hcC:(Value.ref C::bm).contains (.ref C)=true:=by simp
 unfold isInstance
 repeat (first|with_reducible refine jA VY ?_|(with_reducible refine qE aaq ?_;rw[hcC])|wp_step)
 show wpAny _ _ (typeLookup (.ref C) _) _ _ _;refine(looks_findIn ZO hi).here ?_;refine kh (aw ?_);refine(bind_fn ZO (.ref (h.objs.size+1)) hf).here ?_;refine aw (fV hq (λr s' hr=> ?_) λ_ _ x=>x);obtain⟨rfl,hQ⟩:=hr
 wp_walk
 exact hQ
theorem OY(T:oZ bm){K:Frag}{rest:aG}{fI:S'}{Q:J'}
 (hC:h.get? C=some (excClassObj nm q C N bs bm jf sn sub ab col dd k0 k1 k2 k3 k5 "ValueError.__new__")) (X:K.In h) (hi:PySem.W.findIn K (.ref C) "__init__"=some (some (.ref fI))) (hf:PySem.W.typeIn K (.ref fI)=some (.type "function"))
 (hq:wpAny (model prog w) (A.under (.builtin "type.__call__" ⟨.ref C::rest,[]⟩)) (call (.ref fI) (.ref (h.objs.size+1)::rest)) (λr s' =>r= .none/\Q (.ref (h.objs.size+1)) s') E ⟨(h.push {cls:= .type "tuple",data:= .seq rest.toArray}).push (mf C h.objs.size),g,d,t,os⟩) (hrest:rest.length<=sizeLine:=by size_fits):
 wpAny (model prog w) A (call (.ref C) rest) Q E ⟨h,g,d,t,os⟩:=by
 have f1:=tc_lookup;have f2:=tc_bind (.ref C);have hT:(⟨h,g,d,t,os⟩:R').TypeIs (.ref C) "type":=⟨_,hC,Z⟩;refine oC (codeAny_of_tree ?_);show wpAny _ _ (callAny (.ref C) _) _ _ _
 repeat (any_goals (first|assumption|with_reducible refine jA hC ?_|wp_step))
 refine⟨Z,?_⟩;exact codeAny_call_builtin_at (Code.quiet_builtin _ (by decide+kernel)) entry_typeCall (wpAny_check_type_call_sub hC (BZ (hrest:=hrest) T hC X hi hf hq))
end
def eW(a C:S')(dd:Option S')(n:Bool)(h:Y'):Prop:=∃vs:Array M',h.get? a=some {cls:= .ref C,dict:=dd,data:= .fields vs}/\vs.size=6/\(n=true->vs[1]? =some .none)
theorem xi{P:Z'}{w:W'}{H:Hp}{h:Y'}{a C:S'}{dd:Option S'}{n:Bool}(p:eW a C dd n h):cu P w H h a (.ext (eW a C dd n)):=by
 obtain⟨vs,e,r⟩:=p;exact⟨⟨vs,e,r⟩,⟨_,e⟩,λh1 h2 ⟨ws,e1,r1⟩ k=>⟨ws,k _ e1,r1⟩⟩
theorem qM{P:Z'}{w:W'}{H:Hp}{h:Y'}{a C:S'}{dd:Option S'}{n:Bool}(ok:pD P w H h)(e:H a=some (.ext (eW a C dd n))):eW a C dd n h:=
 (show cu P w H h a (.ext (eW a C dd n)) from ok a _ e).1
theorem zX{H:Hp}{a:S'}{o:HO}(h:H a=some o):upd H a o=H:=by
 funext b
 by_cases hb:b=a
 .subst hb;rw[af,h]
 .rw[az hb]
structure ExcC(K:Frag)(C:S'):Prop where
 obj:∃nm q N bs bm jf sn sub ab col dd k0 k1 k2 k3 k5,K.lookup C=some (excClassObj nm q C N bs bm jf sn sub ab col dd k0 k1 k2 k3 k5 "ValueError.__new__")/\oZ bm
structure M_(K:Frag)(C f:S'):Prop extends ExcC K C where
 init:PySem.W.findIn K (.ref C) "__init__"=some (some (.ref f))
 fn:PySem.W.typeIn K (.ref f)=some (.type "function")
 kp:PySem.W.keepIn K (.ref C)=true
section
variable{X:Cx}{CX:uk}{k:Nat}{f C:S'}{fd:aad}{ps:au}{sp:Sp}{E:XK}{x m:Str}{p pos apos:Pos}{e o:V'}{es:b7}{ta:TE}{t:TA}
def Ir(C:S')(sp:Sp)(E:XK)(t:TA):TE:=λσ H Q=>t σ H λvs H1=>∀x,H1 x=none->sp (.ref x::vs) (upd H1 x (.ext (eW x C none true))) (λv H2=>v= .bp/\Q (.ref x) H2) E
theorem Lv{ad:aQ}{σ:St}{H:Hp}{s:R'}{Q:VK}{us:aG}{vs:ak}(M:M_ X.K C f)(F:aT X.prog X.w X.K X.mg X.base CX k f fd ps sp)(hr:dX (k+1) X.A)(hb:Binds X.K fd ps [])
 (hx:wf CX X E) (I:Inv X ad σ H s) (r:Vals vs us) (hus:us.length<=100)
 (h:∀x,H x=none->sp (.ref x::vs) (upd H x (.ext (eW x C none true))) (λv H2=>v= .bp/\Q (.ref x) H2) E):
 wpAny (model X.prog X.w) X.A (call (.ref C) us) (EP X ad σ Q) X.xe s:=by
 have hq:=h (s.heap.objs.size+1) (I.bS.fresh (vD _));obtain⟨nm,q,N,bs,bm,jf,sn,sub,ab,col,dd,k0,k1,k2,k3,k5,lk,T⟩:=M.obj;have hC:=I.jO _ _ lk;have hk:∀b u,s.heap.get? b=some u->((s.heap.push {cls:= .type "tuple",data:= .seq us.toArray}).push (mf C s.heap.objs.size)).get? b=some u:=λb u e=>bq _ (bq _ e);have VY:((s.heap.push {cls:= .type "tuple",data:= .seq us.toArray}).push (mf C s.heap.objs.size)).get? (s.heap.objs.size+1)=some (mf C s.heap.objs.size):=by heap_get
 have I2:Inv X ad σ (upd H (s.heap.objs.size+1) (.ext (eW (s.heap.objs.size+1) C none true))) {s with heap:=(s.heap.push {cls:= .type "tuple",data:= .seq us.toArray}).push (mf C s.heap.objs.size)}:=
  I.laid (t' :=s.toks) hk (vD _) (xi ⟨_,VY,Z,λ_=>rfl⟩)
 have r2:Vals (V.ref (s.heap.objs.size+1)::vs) (Value.ref (s.heap.objs.size+1)::us):= .cons Z r
 have hl:(Value.ref (s.heap.objs.size+1)::us++([]:aG)).length=ps.length:=by
  have e:=r2.length;rw[F.len _ _ _ _ hq] at e;rw[fJ];exact e.symm
 obtain⟨hp,g,d,tk,os⟩:=s;refine OY (hrest:=aU hus (by decide)) T hC I.jO M.init M.fn (oC (sf (F.run _ X.stack _ _ ⟨Value.ref (hp.objs.size+1)::us,[]⟩ (Value.ref (hp.objs.size+1)::us) _ _ E (hr.make C us []) (I2.Wb.make C us []) ?_ r2 hq) λr s' ME => ?_))
 .have:=hb _ (Value.ref (hp.objs.size+1)::us) I2.jO hl;rw[fJ] at this;exact this
 .cases r with
  |error e=>exact hx ad σ _ _ e s' I2 ME
  |ok fl=>
   cases fl with
   |ret u=>
    obtain⟨v,H',I3,rv,ev,q3⟩:=I2.after ME;subst ev;exact⟨rv,⟨V.ref (hp.objs.size+1),H',I3,Z,q3⟩⟩
   |next=>exact False.elim ME
   |brk=>exact False.elim ME
   |cont=>exact False.elim ME
theorem Nd(M:M_ X.K C f)(F:aT X.prog X.w X.K X.mg X.base CX k f fd ps sp)(hr:dX (k+1) X.A)(hg:Gl X x)(hm:X.mg x=some (.ref C))(hb:Binds X.K fd ps [])(hx:wf CX X E)
 (ha:PA X (e::es) t) (hlen:∀vs H Q E,sp vs H Q E->vs.length<=100) (rW:(x==("__debug__" :Str))=false:=by decide) (he:starEach (e::es) X.env=(false,eval e X.env)::starEach es X.env:=by rfl) (nA:(backTo pos (starEach es X.env)).any (·.1)=false:=by rfl):
 PE X (.Call (.Name x p) (e::es) [] pos) (Ir C sp E t):=by
 intro ad s σ H Q I h;refine lV (kL I hg hm ?_ rW);refine sg (h₀:=X.base) I.ok.mod.xp M.kp (dk (ha pos ad s σ H _ I h) λus s1 ⟨vs,H1,I1,r,q⟩=>⟨I1.jO,?_⟩) he nA;refine Lv M F hr hb hx I1 r ?_ q;have h1:=hlen _ _ _ _ (q _ (I1.bS.fresh (aK _)));have h2:=r.length;rw[bB] at h1;rw[oE]
 lia
end
theorem Jc(K:Frag):findCls K (.type "ValueError") (.type "type") "__init__"=some (.val (.builtin "ValueError.__init__")):=by kernel_rfl
section
variable{prog:Z'}{w:W'}{A:X'}{E:J'}{h:Y'}{g:Array GenState}{d:Drawn}{t:Nat}{os:OsState}
variable{nm q:Str}{C N:S'}{bs bm:aG}{jf:Bool}{sn:au}{sub:aG}{ab:Bool}{col:Option Bool}{dd:Option S'}{k0 k1 k2 k3 k5:aO}
theorem Bp{M:Model}(T:oZ bm){e:S'}{oe:Obj}{rest:aG}{Q:Unit->R'->Prop}
 (hC:h.get? C=some (excClassObj nm q C N bs bm jf sn sub ab col dd k0 k1 k2 k3 k5 "ValueError.__new__")) (he:h.get? e=some oe) (HR:oe.cls= .ref C) (hq:Q () ⟨h,g,d,t,os⟩):
 wpAny M A (checkBuiltinCall "ValueError.__init__" ⟨.ref e::rest,[]⟩) Q E ⟨h,g,d,t,os⟩:=by
 have F:=va;have QS:(Value.ref C::bm).contains (.type "ValueError")=true:=by rw[qU,T.hasB,sk]
 have aeC:=F.noStar;simp only[checkBuiltinCall,F.initKind,F.initSplit,F.initRow]
 repeat (first|(with_reducible refine jA he ?_;rw[HR])|with_reducible refine jA hC ?_|(with_reducible refine qE hC ?_;rw[QS])|wp_step)
 refine zM ?_
 rw[show ∀(a b:String) (n:Nat),Bind.check ⟨.positional,"*","ValueError",.self,[⟨"args",.varPos,false⟩]⟩ a b n (List.map (λx=>x.fst) ({pos:=Value.ref e::rest}:Args).kw)=pure () from
  λa b n=>check_star_args _ _ _ _ _ _]
 exact aY hq
theorem La(T:oZ bm){e:S'}{vs:Array M'}{de:Option S'}{x:M'}{Q:J'}
 (hC:h.get? C=some (excClassObj nm q C N bs bm jf sn sub ab col dd k0 k1 k2 k3 k5 "ValueError.__new__")) (he:h.get? e=some {cls:= .ref C,dict:=de,data:= .fields vs}) (hv:vs.size=6)
 (hq:∀h' T',h.get? T' =none->(∀b o,b≠e->h.get? b=some o->h'.get? b=some o)->h'.get? e=some {cls:= .ref C,dict:=de,data:= .fields (vs.setIfInBounds 0 (.ref T'))}->Q .none ⟨h',g,d,t,os⟩):
 wpAny (model prog w) A (call (.builtin "ValueError.__init__") [.ref e,x]) Q E ⟨h,g,d,t,os⟩:=by
 have F:=va;have ql:0<vs.size:=by lia
 refine oC (DL F.init.plain F.initEntry (Bp T hC he Z ?_));unfold Builtin.«BaseException.__init__»
 wp_walk
 have h0:vs[0]? =some vs[0]:=vb ql;rw[h0];have he2:=bq {cls:= .type "tuple",data:= .seq #[x]} he
 have fin:Q .none ⟨(h.push {cls:= .type "tuple",data:= .seq #[x]}).update e (Obj.mapFields (·.setIfInBounds 0 (.ref h.objs.size))),g,d,t,os⟩:=by
  refine hq _ h.objs.size (Heap.get?_none_of_le (aK _)) (λb o hb e' => ?_) ?_
  .rw[gn _ _ (ck hb)];exact bq _ e'
  .exact ma _ he2 rfl
 generalize vs[0]=v0;refine aY ?_;refine aw (uI he2 Z ql ?_)
 cases v0 with
 |ref a=>exact wpAny_letGo (aY fin)
 |_=>exact aY (aY fin)
end
section
variable{X:Cx}{p pos apos:Pos}{e1 e2:V'}{t:TA}
def VU(K:Frag)(t:TA):TE:=λσ H Q=>t σ H λvs H1=>∃a C dd n x,vs=[.ref a,x]/\H1 a=some (.ext (eW a C dd n))/\ExcC K C/\Q .bp H1
theorem OQ{pl:Sem Bool}(hg:Gl X "ValueError")(hm:X.mg "ValueError"=none)(ha:PA X [e1,e2] t)
 (sY:starEach [e1,e2] X.env=(false,eval e1 X.env)::starEach [e2] X.env:=by rfl) (nA:(backTo pos (starEach [e2] X.env)).any (·.1)=false:=by rfl)
 (ht:eval (.Call (.Attribute (.Name "ValueError" p) "__init__" apos) [e1,e2] [] pos) X.env=(do
  let ov<-eval (.Name "ValueError" p) X.env
  standAt apos.atName
  let(f,first)<-holding [ov] (getMethod ov "__init__" pl)
  callWith pos f first (backTo pos (starEach [e1,e2] X.env)) (backToKw pos (keywordEach [] X.env))):=by rfl):
 PE X (.Call (.Attribute (.Name "ValueError" p) "__init__" apos) [e1,e2] [] pos) (VU X.K t):=by
 intro ad s σ H Q I h;refine methodCall_KW (pl:=pl) (uH I hg hm Boot.«ValueError» ?_) ht;obtain⟨m,F⟩:=I.fr;refine PySem.W.method_type F I.mod.xp (by kernel_rfl) (by decide+kernel) (Jc X.K) (by decide+kernel) ?_;refine Kg (dk (ha pos ad _ σ H _ (I.tok _) h) λus s1 ⟨vs,H1,I1,r1,q1⟩=> ?_) sY nA;obtain⟨a,C,dd,n,x,rfl,hx,hc,q⟩:=q1
 cases r1 with
 |cons r rr=>
  cases rr with
  |cons r' rr=>
   cases rr;cases r;obtain⟨nm,q',N,bs,bm,jf,sn,sub,ab,col,Xz,k0,k1,k2,k3,k5,lk,T⟩:=hc.obj;obtain⟨ws,he,hw,hn⟩:=qM I1.bS hx;obtain⟨hp,g,d,tk,os⟩:=s1;refine La T (I1.jO _ _ lk) he hw λh' T' hT k he' =>⟨.bp,H1,?_,Z,q⟩;have I2:=I1.write (h' :=h') (t' :=tk) (x:=a) (e:=a) (o:= .ext (eW a C dd n)) (by rw[hx];exact True.intro) (.inl Z) k ⟨_,he'⟩ (xi ⟨_,he',by simp[hw],λz=>by rw[Array.getElem?_setIfInBounds_ne (by decide)];exact hn z⟩);rw[zX hx] at I2;exact I2
end
end L2
namespace L2
open PySem PySem.Spec PyProof.Rows PySem.Builtin.ObjectAttr
theorem we(self:M'):refuseLoop self "__setattr__" [.type "ValueError",.type "Exception",.type "BaseException",.type "object"]=pure ():=by kernel_rfl
section
variable{prog:Z'}{w:W'}{A:X'}{E:J'}{h:Y'}{g:Array GenState}{d:Drawn}{t:Nat}{os:OsState}
variable{nm q:Str}{C N x:S'}{bs bm:aG}{sn:au}{sub:aG}{ab:Bool}{col:Option Bool}{dd:Option S'}{k0 k1 k2 k3 k5:aO}{newId:String}
 {mA:Str->aO} {name:Str} {v:M'} {K:Frag}
theorem Fb{M:Model}{o:Obj}{UG:M'}{Q:Unit->R'->Prop}(hob:bm.contains (.type "object")=true)
 (hC:h.get? C=some (excClassObj nm q C N bs bm true sn sub ab col dd k0 k1 k2 k3 k5 newId)) (hx:h.get? x=some o) (hc:o.cls= .ref C) (hq:Q () ⟨h,g,d,t,os⟩):
 wpAny M A (checkBuiltinCall "object.__setattr__" ⟨[.ref x,UG,v],[]⟩) Q E ⟨h,g,d,t,os⟩:=by
 have SF:=PySem.F.store_object;have QS:(Value.ref C::bm).contains (.type "object")=true:=by rw[qU,hob,sk]
 have ha:=SF.args (.ref x) UG v;simp only[checkBuiltinCall,SF.kind,SF.split];refine aw ?_
 .unfold isInstance
  repeat (first|(with_reducible refine jA hx ?_;rw[hc])|(with_reducible refine qE hC ?_;rw[QS])|wp_step)
  exact hq
theorem y8{tk:Tok}{Q:Fin->R'->Prop}{ns:au}(FZ:∀self,refuseLoop self "__setattr__" bm=pure ())(X:K.In h)(X8:PySem.W.findIn K (.ref C) name=some none)
 (hC:h.get? C=some (excClassObj nm q C N bs bm true sn sub ab col dd k0 k1 k2 k3 k5 newId)) (I:h.Inst x C mA)
 (hq:∀h' Pz,h'.Inst x C (λy=>if y=name then some v else mA y)->
  (∀b o,b≠x->(∀kJ dx,h.get? x=some kJ->kJ.dict=some dx->b≠dx)->h.get? b=some o->h'.get? b=some o)->
  (∀kJ,h.get? x=some kJ->∃xh,h'.get? x=some xh/\xh.cls=kJ.cls/\xh.data=kJ.data/\xh.slots=kJ.slots/\(∀dx,kJ.dict=some dx->xh.dict=some dx)/\(kJ.dict=none->∃dx,xh.dict=some dx/\h.objs.size<=dx))->Q (.done (.ret .none)) ⟨h',g,d,Pz,os⟩) (hw:Within mA ns) (ql:ns.length<=1000):
 wpAny (model prog w) A (Builtin.«object.__setattr__» ⟨[.ref x,.str name tk,v],[]⟩) Q E ⟨h,g,d,t,os⟩:=by
 obtain⟨o,hx,hc,hnc,hd⟩:=I;have FZ:=FZ (.ref x);unfold Builtin.«object.__setattr__»
 repeat (first|rw[refuse_eq]|(rw[refuseLoop_ref,FZ])|(with_reducible refine jA hx ?_;rw[hc])|with_reducible refine wpAny_mroOf_exc hC ?_|(with_reducible refine(looks_findIn X X8).here ?_)|wp_step)
 rcases hd with⟨Vy,hmA⟩|⟨dx,JZ,wQ,Qp⟩
 .
  rw[Vy,ax (by simp[typeHasDict])]
  split
  .rename_i AO;cases AO
  split
  .rename_i c AO;exact absurd AO (hnc c)
  .have RW:(h.push {cls:= .type "dict",data:= .dict #[]}).get? x=some o:=bq _ hx;have Dv:x≠h.objs.size:=cJ (a_ hx);refine aw (wpAny_alloc' ?_);refine aw (wpAny_update' RW ?_);refine aY ?_
   have Pk:((h.push {cls:= .type "dict",data:= .dict #[]}).update x λo=>{cls:=o.cls,dict:=some h.objs.size,data:=o.data,slots:=o.slots}).get? h.objs.size
    =some {cls:= .type "dict",data:= .dict #[]}:=
    (Heap.get?_update_ne _ _ _ _ Dv.symm).trans (Heap.get?_push_at Z Z)
   have hnd:((h.push {cls:= .type "dict",data:= .dict #[]}).update x λo=>{cls:=o.cls,dict:=some h.objs.size,data:=o.data,slots:=o.slots}).Ns h.objs.size (λ_=>none):=
    ⟨_,#[],_,Pk,Z,λe he=>absurd he (by simp),λ_=>rfl⟩
   show wpAny _ _ (storeInDict h.objs.size (.str name tk) name v) _ _ _;unfold storeInDict newKeyGuard;refine aw (aY (aw (wpAny_nsSet1 (Heap.Ns1.of_empty hnd) λh' Lz hs=> ?_)));obtain⟨oD,esD,epD,hoD,HZ,hcD⟩:=Lz.count (Within.cons name v Within.nil);refine aw (wpAny_lookBehind hoD (by rw[HZ];exact pastItsLine_dict (aU hcD (by rw[bB,m5,rX];lia))) ?_)
   wp_walk
   have OJ :h'.get? x=some {cls:=o.cls,dict:=some h.objs.size,data:=o.data,slots:=o.slots}:= ?_
   refine hq h' _ ⟨{cls:=o.cls,dict:=some h.objs.size,data:=o.data,slots:=o.slots},OJ,hc,hnc,.inr ⟨h.objs.size,Z,Dv.symm,?_⟩⟩ (λb ob hbx _ hb=> ?_)
    (λkJ h₀=>by obtain rfl:o=kJ:=fW (hx.symm.trans h₀);exact⟨_,OJ,Z,Z,Z,(λdx e=>by rw[Vy] at e;cases e),λ_=>⟨_,Z,aK _⟩⟩)
   .obtain⟨o',es,ep,e1,e2,e3,eu,e4⟩:=Lz;exact⟨o',es,ep,e1,e2,e3,eu,λy=>by rw[e4 y];by_cases hy:y=name<;>simp[hy,hmA]⟩
   .exact(hs.2 b (cJ (a_ hb))).trans ((Heap.get?_update_ne _ _ _ _ hbx).trans (bq _ hb))
   .refine(hs.2 x Dv).trans (ma _ RW ?_);have wo:=(Heap.get?_some_iff.mp hx).2;obtain⟨oc,od,odt,xC⟩:=o;cases odt<;>first|rfl|exact wo
 .
  rw[JZ];refine aY ?_;show wpAny _ _ (storeInDict dx (.str name tk) name v) _ _ _;unfold storeInDict newKeyGuard;refine aw (aY (aw (wpAny_nsSet1 Qp λh' Lz hs=> ?_)));obtain⟨oD,esD,epD,hoD,HZ,hcD⟩:=Lz.count (Within.cons name v hw);refine aw (wpAny_lookBehind hoD (by rw[HZ];exact pastItsLine_dict (aU hcD (by rw[bB,rX];lia))) ?_)
  wp_walk
  refine hq h' _ ⟨o,(hs.2 x wQ.symm).trans hx,hc,hnc,.inr ⟨dx,JZ,wQ,Lz⟩⟩ (λb ob _ hbd hb=> ?_)
   (λkJ h₀=>⟨kJ,(hs.2 x wQ.symm).trans h₀,Z,Z,Z,(λ_ e=>e),λe=>by obtain rfl:o=kJ:=fW (hx.symm.trans h₀);rw[JZ] at e;cases e⟩)
  exact(hs.2 b (hbd o dx hx JZ)).trans hb
theorem C5{Q:Unit->R'->Prop}{ns:au}(FZ:∀self,refuseLoop self "__setattr__" bm=pure ())(hob:bm.contains (.type "object")=true)(X:K.In h)
 (hs:PySem.W.findIn K (.ref C) "__setattr__"=some (some (.builtin "object.__setattr__"))) (X8:PySem.W.findIn K (.ref C) name=some none)
 (hC:h.get? C=some (excClassObj nm q C N bs bm true sn sub ab col dd k0 k1 k2 k3 k5 newId)) (I:h.Inst x C mA)
 (hq:∀h' Pz,h'.Inst x C (λy=>if y=name then some v else mA y)->
  (∀b o,b≠x->(∀kJ dx,h.get? x=some kJ->kJ.dict=some dx->b≠dx)->h.get? b=some o->h'.get? b=some o)->
  (∀kJ,h.get? x=some kJ->∃xh,h'.get? x=some xh/\xh.cls=kJ.cls/\xh.data=kJ.data/\xh.slots=kJ.slots/\(∀dx,kJ.dict=some dx->xh.dict=some dx)/\(kJ.dict=none->∃dx,xh.dict=some dx/\h.objs.size<=dx))->Q () ⟨h',g,d,Pz,os⟩) (hw:Within mA ns) (ql:ns.length<=1000):
 wpAny (model prog w) A (setAttr (.ref x) name v) Q E ⟨h,g,d,t,os⟩:=by
 obtain⟨o,hx,hc,hnc,hd⟩:=id I
 have J:∃od,PySem.W.InstAt h x o C od:=by
  rcases hd with⟨Vy,_⟩|⟨dx,JZ,_,oD,es,ep,h1,_⟩
  .exact⟨none,hx,hc,by cases e:o.data<;>simp_all[notCls],by rw[Vy];trivial⟩
  .exact⟨some oD,hx,hc,by cases e:o.data<;>simp_all[notCls],by rw[JZ];exact h1⟩
 obtain⟨od,J⟩:=J;refine set_plain (s:=⟨h,g,d,t,os⟩) X J hs ?_;exact DL PySem.F.store_object.slot.plain PySem.F.store_object.entry (Fb hob hC hx hc (y8 FZ X X8 hC I (λh' Pz a b c=>hq h' Pz a b c) hw ql))
end
structure Qt(K:Frag)(C:S'):Prop where
 obj:∃nm q N bs bm sn sub ab col dd k0 k1 k2 k3 k5,K.lookup C=some (excClassObj nm q C N bs bm true sn sub ab col dd k0 k1 k2 k3 k5 "ValueError.__new__")/\(∀self,refuseLoop self "__setattr__" bm=pure ())/\bm.contains (.type "object")=true
 sa:PySem.W.findIn K (.ref C) "__setattr__"=some (some (.builtin "object.__setattr__"))
section
variable{X:Cx}{ad:aQ}{σ:St}{H:Hp}{s:R'}{a C:S'}{n:Bool}{f:Str}{y:V}{u:M'}{A:X'}{E:J'}
theorem Hu{fs:ji}{mA:Str->aO}(r:∀f,m4 (fs.lookup f) (mA f)):PySem.Within mA (fs.map (·.1)):=by
 intro g hg;have:=r g
 cases e:fs.lookup g with
 |none=>rw[e] at this;cases q:mA g with
  |none=>rw[q] at hg;simp at hg
  |some v=>rw[q] at this;cases this
 |some v=>
  obtain⟨l1,l2,h1,_⟩:=EA.mp e;rw[h1];simp
theorem Inv.two{h' :Y'}{t' :Nat}{dx:S'}{o1 o2:HO}{φ:Y'->Prop}(I:Inv X ad σ H s)(e:H a=some (.ext φ))(RZ:(∀xs,H dx≠some (.tup xs))/\(∀y,H dx≠some (.own y))/\(∀o u,H dx≠some (.Fu o u))/\∀ps,H dx≠some (.vB ps))(hd2:H dx=none->s.heap.objs.size<=dx)(wQ:dx≠a)
 (k:∀b o,b≠a->b≠dx->s.heap.get? b=some o->h'.get? b=some o) (ha:∃o,h'.get? a=some o) (hx:∃o,h'.get? dx=some o)
 (n1:cu X.prog X.w (upd (upd H a o1) dx o2) h' a o1) (n2:cu X.prog X.w (upd (upd H a o1) dx o2) h' dx o2):Inv X ad σ (upd (upd H a o1) dx o2) {s with heap:=h',toks:=t'}:=by
 have na:∀b,H b=none->b≠a:=λb q z=>by rw[z,e] at q;cases q
 have nd:∀b o,s.heap.get? b=some o->H b=none->b≠dx:=λb o q q' z=>by
  subst z;exact absurd (cP (a_ q) (hd2 q')) (cA _)
 have Yl:∀b,b≠a->b≠dx->upd (upd H a o1) dx o2 b=H b:=λb h1 h2=>by rw[az h2,az h1]
 refine I.step (g' :=s.gens) (d' :=s.drawn) (ch:=[]) (λ_ z=>nomatch z) (λb o _ _ _ q n=>k b o (na b n) (nd b o q n) q) (λb o _ _ _ q n=>⟨o.slots,k b o (na b n) (nd b o q n) q⟩) (λb o _ q n=>by rw[Yl b (na b n) (nd b o q n)];exact n)
  (λb o _ q=> ?_) (λb xs q=> ?_) (λb o u q=> ?_) (λb ps q=>⟨#[],?_⟩) (λm hm=> ?_) (λb u q=> ?_) I.bare
 .by_cases h1:b=a
  .rw[h1];exact ha
  .by_cases h2:b=dx
   .rw[h2];exact hx
   .exact⟨o,k b o h1 h2 q⟩
 .rw[Yl b (λz=>by rw[z,e] at q;cases q) (λz=>RZ.1 xs (by rw[<-z];exact q))];exact q
 .rw[Yl b (λz=>by rw[z,e] at q;cases q) (λz=>RZ.2.2.1 o u (by rw[<-z];exact q))];exact q
 .rw[Yl b (λz=>by rw[z,e] at q;cases q) (λz=>RZ.2.2.2 ps (by rw[<-z];exact q)),q];simp
 .obtain⟨o,es,ep,q,r⟩:=hm;exact⟨o,es,ep,k _ o (na _ I.free) (nd _ o q I.free) q,r⟩
 .by_cases h2:b=dx
  .subst h2;rw[af] at q;cases q;exact n2
  .rw[az h2] at q;by_cases h1:b=a
   .subst h1;rw[af] at q;cases q;exact n1
   .rw[az h1] at q;refine(I.bS b u q).Ae (λc v hc q' =>k c v ?_ ?_ q') (λc q' => ?_) λc ys q' => ?_
    .rcases hc with z|z
     .rw[z];exact h1
     .exact λz' =>by rw[z',e] at z;cases z
    .rcases hc with z|z
     .rw[z];exact h2
     .exact λz' =>RZ.2.1 b (by rw[<-z'];exact z)
    .rw[Yl c (λz=>by rw[z,e] at q';cases q') (λz=>RZ.2.1 b (by rw[<-z];exact q'))];exact q'
    .rw[Yl c (λz=>by rw[z,e] at q';cases q') (λz=>RZ.1 ys (by rw[<-z];exact q'))];exact q'
theorem Ka{fs:ji}{mA:Str->aO}(r:∀f,m4 (fs.lookup f) (mA f))(ry:RelV y u):∀g,m4 ((jg f y fs).lookup g) (if g=f then some u else mA g):=λg=>by
 rw[qD];by_cases h:g=f
 .rw[aB h,aB h];exact ry
 .rw[ax h,ax h];exact r g
theorem Ic{Q:Unit->R'->Prop}(I:Inv X ad σ H s)(e:H a=some (.ext (eW a C none n)))(c:Qt X.K C)(na:eM X.K C f)(ry:RelV y u)
 (h:∀dx s',H dx=none->dx≠a->Inv X ad σ (upd (upd H a (.ext (eW a C (some dx) n))) dx (.xd [(f,y)])) s'->Q () s'):wpAny (model X.prog X.w) A (setAttr (.ref a) f u) Q E s:=by
 obtain⟨nm,q,N,bs,bm,sn,sub,ab,col,dd,k0,k1,k2,k3,k5,lk,hp,ho⟩:=c.obj;obtain⟨vs,he,hv,hn⟩:=qM I.bS e;have hC:=I.jO _ _ lk;have I0:=I;obtain⟨hh,g,d,tk,os⟩:=s;refine C5 (mA:=λ_=>none) (ns:=[]) hp ho I.jO c.sa na hC ⟨_,he,Z,(λc z=>by cases z),.inl ⟨Z,λ_=>rfl⟩⟩ (λh' Pz inst kk same=> ?_) (λg hg=>by simp at hg) (by simp);obtain⟨o1,e1,ec,ed,es,_,adX⟩:=same _ he;obtain⟨dx,ex,JZ⟩:=adX rfl;obtain⟨o2,e2,_,_,hd2⟩:=inst;rw[e1] at e2;cases e2;rcases hd2 with⟨z,_⟩|⟨d',Q_,ne',ns'⟩
 .rw[ex] at z;cases z
 rw[ex] at Q_;cases Q_;have MP:H dx=none:=I0.bS.fresh JZ
 have eo:o1={cls:= .ref C,dict:=some dx,data:= .fields vs}:=by
  obtain⟨oc,od,odt,xC⟩:=o1;simp only at ec ed es ex;subst ec ed es ex;rfl
 rw[eo] at e1;refine h dx _ MP ne' (I0.two (t' :=Pz) e ⟨(λxs z=>by rw[MP] at z;cases z),(λy z=>by rw[MP] at z;cases z),(λo u z=>by rw[MP] at z;cases z),(λps z=>by rw[MP] at z;cases z)⟩ (λ_=>JZ) ne' (λb o hb _ q=>kk b o hb (λo0 dx0 h0 h1=>by rw[he] at h0;cases h0;cases h1) q) ⟨_,e1⟩ (let⟨o,_,_,h1,_⟩:=ns';⟨o,h1⟩) (xi ⟨vs,e1,hv,hn⟩) ⟨_,ns',?_⟩);exact Ka (fs:=[]) (λ_=>trivial) ry
theorem Ie{dx:S'}{fs:ji}{Q:Unit->R'->Prop}(I:Inv X ad σ H s)(e:H a=some (.ext (eW a C (some dx) n)))(ed:H dx=some (.xd fs))(wQ:dx≠a)(hl:fs.length<=900)(c:Qt X.K C)(na:eM X.K C f)(ry:RelV y u)
 (h:∀s',Inv X ad σ (upd H dx (.xd (jg f y fs))) s'->Q () s'):wpAny (model X.prog X.w) A (setAttr (.ref a) f u) Q E s:=by
 obtain⟨nm,q,N,bs,bm,sn,sub,ab,col,dd,k0,k1,k2,k3,k5,lk,hp,ho⟩:=c.obj;obtain⟨vs,he,hv,hn⟩:=qM I.bS e;obtain⟨mA,ns,r⟩:=(show cu X.prog X.w H s.heap dx (.xd fs) from I.bS dx _ ed);have hC:=I.jO _ _ lk;have I0:=I;obtain⟨hh,g,d,tk,os⟩:=s;refine C5 (mA:=mA) (ns:=fs.map (·.1)) hp ho I.jO c.sa na hC ⟨_,he,Z,(λc z=>by cases z),.inr ⟨dx,Z,wQ,ns⟩⟩ (λh' Pz inst kk same=> ?_) (Hu r) (by rw[a6];lia);obtain⟨o1,e1,ec,edt,es,aek,_⟩:=same _ he;have ex:=aek dx rfl;obtain⟨o2,e2,_,_,hd2⟩:=inst;rw[e1] at e2;cases e2;rcases hd2 with⟨z,_⟩|⟨d',Q_,ne',ns'⟩
 .rw[ex] at z;cases z
 rw[ex] at Q_;cases Q_
 have eo:o1={cls:= .ref C,dict:=some dx,data:= .fields vs}:=by
  obtain⟨oc,od,odt,xC⟩:=o1;simp only at ec edt es ex;subst ec edt es ex;rfl
 rw[eo] at e1;have I2:=I0.two (t' :=Pz) (o1:= .ext (eW a C (some dx) n)) (o2:= .xd (jg f y fs)) e ⟨(λxs z=>by rw[ed] at z;cases z),(λy z=>by rw[ed] at z;cases z),(λo u z=>by rw[ed] at z;cases z),(λps z=>by rw[ed] at z;cases z)⟩ (λz=>by rw[ed] at z;cases z) wQ (λb o hb uP q=>kk b o hb (λo0 dx0 h0 h1=>by rw[he] at h0;cases h0;cases h1;exact uP) q) ⟨_,e1⟩ (let⟨o,_,_,h1,_⟩:=ns';⟨o,h1⟩) (xi ⟨vs,e1,hv,hn⟩) ⟨_,ns',Ka r ry⟩;rw[zX e] at I2;exact h _ I2
end
section
variable{X:Cx}{o value:V'}{f:Str}{pos pos' :Pos}{ta tv:TE}
def aaS(K:Frag)(ta tv:TE)(f:Str):TS:=λD σ H=>tv σ H λy H1=>ta σ H1 λx H2=>∃a C n,x= .ref a/\Qt K C/\eM K C f/\
 ((H2 a=some (.ext (eW a C none n))/\∀dx,H2 dx=none->dx≠a->D.nx σ (upd (upd H2 a (.ext (eW a C (some dx) n))) dx (.xd [(f,y)])))\/
  ∃dx fs,H2 a=some (.ext (eW a C (some dx) n))/\H2 dx=some (.xd fs)/\dx≠a/\fs.length<=900/\D.nx σ (upd H2 dx (.xd (jg f y fs))))
theorem n_(ha:PE X o ta)(hv:PE X value tv)(hs:swapsWith value (some (.Attribute o f pos')) pos.line X.env=pure false):PS X (.Assign [.Attribute o f pos'] value pos) (aaS X.K ta tv f):=by
 intro ad s σ H D I h;refine plainObj_wpAny_Assign_Attribute (dk (hv ad s σ H _ I h) λu s1 ⟨y,H1,I1,ry,q⟩=>dk (ha ad s1 σ H1 _ I1 q) λov s2 ⟨x,H2,I2,rx,a,C,n,ex,c,na,q2⟩=> ?_) hs;subst ex;obtain rfl:ov=Value.ref a:=rx;rcases q2 with⟨e,q3⟩|⟨dx,fs,e,ed,ne,hl,q3⟩
 .exact Ic I2 e c na ry λdx s3 hn ne I3=>⟨σ,_,I3,q3 dx hn ne⟩
 .exact Ie I2 e ed ne hl c na ry λs3 I3=>⟨σ,_,I3,q3⟩
end
end L2
namespace L2
open PySem PySem.Spec PyProof.Rows PySem.Builtin.ObjectAttr
section
variable{prog:Z'}{w:W'}{A:X'}{E:J'}{s:R'}{K:Frag}{x C:S'}{ox:Obj}{od:Option Obj}{name:Str}{expr:Bool}{Q:J'}{v:M'}
theorem Gj(X:K.In s.heap)(I:PySem.W.InstAt s.heap x ox C od)(hga:PySem.W.findIn K (.ref C) "__getattribute__"=some (some (.builtin "BaseException.__getattribute__")))(hhk:PySem.W.findIn K (.ref C) "__getattr__"=some none)
 (hm:PySem.W.mroIn K C (.type "BaseException")=some true) (hf:PySem.W.findObj K C od name=some (.value v)) (hh:handedIn v=true) (h:Q v {s with toks:=s.toks+1}):
 wpAny (model prog w) A (getAttr (.ref x) name expr) Q E s:=by
 have ht:=I.type (M:=model prog w);refine aw (wpAny_mkText (kh (aw (ht _ _ _ _ (λ_ _ e=>e) (aw (looks_findIn X hga _ _ _ _ (λ_ _ e=>e) ?_))))));dsimp only;rw[show(onTheHeap (Value.ref C)&&Value.builtin "BaseException.__getattribute__" ==Value.builtin "object.__getattribute__")=false from by rw[show(Value.builtin "BaseException.__getattribute__" ==Value.builtin "object.__getattribute__")=false from by decide+kernel,Bool.and_false],ax (by decide)];have hb:PySem.W.Looks (model prog w) s.heap (hookBefore (.ref C)) none:=PySem.W.looks_hook X (by show(if onTheHeap (Value.ref C)=true then _ else _)=_;exact hhk);refine aw (hb _ _ _ _ (λ_ _ e=>e) (aw (wpAny_attempt (kh ?_))));unfold callGetattribute;rw[show(expr&&onTheHeap (Value.builtin "BaseException.__getattribute__"))=false from Bool.and_false _,ax (by decide)];unfold boundAndCalled;rw[PySem.F.attr_ValueError.ga.bind];refine aw (aY ?_);show wpAny _ _ (call (.builtin "BaseException.__getattribute__") [.ref x,.str name s.toks]) _ _ _;refine oC ?_;refine DL PySem.F.attr_ValueError.ga.plain PySem.F.entry_bexc_ga ?_;refine @PySem.W.check_slot (model prog w) _ _ {s with toks:=s.toks+1} "BaseException.__getattribute__" "BaseException" "__getattribute__" (.ref x) [.str name s.toks] [] _ (by decide+kernel) (by decide+kernel) (ht.andThen (PySem.W.looks_mroIn X hm)) (PySem.F.args_bexc_ga (.ref x) (.str name s.toks)) ?_;unfold Builtin.«object.__getattribute__»;refine aw (aY ?_);refine aw (aY ?_);refine aw (ht _ _ _ _ (λ_ _ e=>e) ?_);refine aw (PySem.W.looks_find X I hf _ _ _ _ (λ_ _ e=>e) ?_);refine aY ?_;show wpAny _ _ (handedOut v) _ _ _;rw[PySem.W.handedOut_of hh];exact aY h
end
structure ExcG(K:Frag)(C:S'):Prop where
 ga:PySem.W.findIn K (.ref C) "__getattribute__"=some (some (.builtin "BaseException.__getattribute__"))
 hk:PySem.W.findIn K (.ref C) "__getattr__"=some none
 mro:PySem.W.mroIn K C (.type "BaseException")=some true
 hd:PySem.W.hasDictIn K C=true
section
variable{X:Cx}{e:V'}{f:Str}{pos:Pos}{ta:TE}
theorem LH{ad:aQ}{σ:St}{H:Hp}{s:R'}{a C dx:S'}{n b:Bool}{fs:ji}{v:V}{A:X'}{E:J'}{Q:J'}(I:Inv X ad σ H s)(e:H a=some (.ext (eW a C (some dx) n)))(ed:H dx=some (.xd fs))
 (c:ExcG X.K C) (na:eM X.K C f) (l:fs.lookup f=some v) (h:∀u s',Inv X ad σ H s'->RelV v u->Q u s'):wpAny (model X.prog X.w) A (getAttr (.ref a) f b) Q E s:=by
 obtain⟨vs,he,_,_⟩:=qM I.bS e;obtain⟨mA,ns,r⟩:=(show cu X.prog X.w H s.heap dx (.xd fs) from I.bS dx _ ed);obtain⟨od,ho,hl⟩:=CA ns;obtain⟨u,hu,ru⟩:=m4.some_of (v:=v) (o:=mA f) (by rw[<-l];exact r f);exact Gj I.jO ⟨he,Z,Z,ho⟩ c.ga c.hk c.mro (findObj_own c.hd na Z (by rw[hl,hu])) (Dh ru) (h u _ (I.tok _) ru)
def U3(K:Frag)(ta:TE)(f:Str):TE:=λσ H Q=>ta σ H λx H1=>∃a C dx n fs v,x= .ref a/\H1 a=some (.ext (eW a C (some dx) n))/\H1 dx=some (.xd fs)/\ExcG K C/\eM K C f/\fs.lookup f=some v/\Q v H1
theorem PK(he:PE X e ta)(hb:attributeBase e f X.env (eval e X.env)=eval e X.env):PE X (.Attribute e f pos) (U3 X.K ta f):=by
 intro ad s σ H Q I h;refine Jt hb (dk (he ad s σ H _ I h) λu s1 ⟨x,H1,I1,rx,a,C,dx,n,fs,v,ex,ea,ed,c,na,l,q⟩=> ?_);subst ex;obtain rfl:u=Value.ref a:=rx;exact LH I1 ea ed c na l λu' s2 I2 ru=>⟨v,H1,I2,ru,q⟩
end
def Dc(P:Z')(w:W'):uk:=λouter H s E e s' =>∃(a C:S') (dd:Option S') (T:S') (oe:Obj) (H' :Hp),e= .ref a/\s'.os=s.os/\AllBare s'.gens/\Un (Cb outer) [] H H' s.heap s'.heap/\pD P w H' s'.heap/\
 H' a=some (.ext (eW a C dd false))/\L3 s'.heap a T oe/\H' T=none/\s.heap.objs.size<=T/\E (.ref C) dd H'
def GI(X:Cx)(ad:aQ)(H:Hp)(h:Y')(a:S'):Prop:=(∃oe vs,h.get? a=some oe/\oe.data= .fields vs/\vs[1]? =some .none)\/∃T oe,L3 h a T oe/\H T=none/\X.fO.heap.objs.size<=T/\∀p∈X.pn++ad,p.1≠T
section
variable{X:Cx}{ad:aQ}{σ:St}{H:Hp}{s:R'}{a C:S'}{dd:Option S'}{n:Bool}{E:XK}
theorem DE(I:Inv X ad σ H s)(sY:X.stack=X.env::X.outer)(wo:X.env.frame=some X.env.locals)(hex:X.ex=[])(e:H a=some (.ext (eW a C dd n)))(fl:GI X ad H s.heap a)(q:E (.ref C) dd (upd H a (.ext (eW a C dd false)))){Ex:J'}:
 wpAny (model X.prog X.w) X.A (leaving X.env (.ref a)) (λ_ N3 =>Dc X.prog X.w X.outer X.H₀ X.fO E (.ref a) N3) Ex s:=by
 obtain⟨vs,he,hv,hn⟩:=qM I.bS e;have Ku:X.A.frames=some (X.env::X.outer):=by rw[<-sY];exact I.ok.frames
 have hl:s.heap.FunFrames X.base (X.env::X.outer):=by rw[<-sY];exact I.stack
 have Ed:∀b∈(X.env::X.outer).filterMap (·.frame),H b=none:=λb hb=>I.vw b (by rw[sY];exact hb)
 have mem:∀b,b∈(X.env::X.outer).filterMap (·.frame)->b=X.env.locals\/b∈X.fs:=λb hb=>by
  rw[oS,wo] at hb;rcases aP.mp hb with z|z
  .exact .inl z
  .exact .inr z
 have fin:∀(h' :Y') (T T' :S'),(X.fO.heap.objs.size<=T\/T=a)->(H T=none\/T=a)->s.heap.objs.size<=T'->L3 h' a T' (({cls:= .ref C,dict:=dd,data:= .fields vs}:Obj).mapFields (·.setIfInBounds 1 (.ref T')))->
  (∀b o,b≠a->b≠T->b∉(X.env::X.outer).filterMap (·.frame)->s.heap.get? b=some o->h'.get? b=some o)->(∀b o,b≠a->b≠T->s.heap.get? b=some o->∃sl,h'.get? b=some {o with slots:=sl})->
  Dc X.prog X.w X.outer X.H₀ X.fO E (.ref a) {s with heap:=h'}:=by
  intro h' T T' hT1 hT2 L1 f k1 k2;have YR:H T' =none:=I.bS.fresh L1;have Hj :∀b,H b=none->b≠a:=λb z z' =>by rw[z',e] at z;cases z
  have old:∀b o,X.fO.heap.get? b=some o->b≠T\/T=a:=λb o z=>by
   rcases hT1 with y|y
   .exact .inl λz' =>absurd (cP (a_ z) (by rw[z'];exact y)) (cA _)
   .exact .inr y
  refine⟨a,C,dd,T',_,upd H a (.ext (eW a C dd false)),Z,I.os,I.bare,⟨λb o z z0 hb _=> ?_,λb o z z0 hb _=> ?_,λb o z z0 _=> ?_,λb o z _=> ?_,λb xs z=> ?_,λb o u z=> ?_,λb ps z=> ?_⟩,λb u z=> ?_,af,f,?_,aU I.sz L1,q⟩
  .have hx:b∉X.ex:=by rw[hex];simp
   have g:=I.base.keep b o z z0 hb hx;have g0:=I.base.free b o z z0 hx;refine k1 b o (Hj b g0) ?_ (λhm=> ?_) g
   .rcases old b o z with y|y
    .exact y
    .rw[y];exact Hj b g0
   .rcases mem b hm with y|y
    .exact absurd (cP (a_ z) (by rw[y];exact I.ok.above)) (cA _)
    .exact hb y
  .have hx:b∉X.ex:=by rw[hex];simp
   obtain⟨sl,g⟩:=I.base.slot b o z z0 hb hx;have g0:=I.base.free b o z z0 hx
   obtain⟨sl',g'⟩:=k2 b _ (Hj b g0) (by
    rcases old b o z with y|y
    .exact y
    .rw[y];exact Hj b g0) g
   exact⟨sl',g'⟩
  .have hx:b∉X.ex:=by rw[hex];simp
   have g0:=I.base.free b o z z0 hx;rw[az (Hj b g0)];exact g0
  .have hx:b∉X.ex:=by rw[hex];simp
   obtain⟨o',g⟩:=I.base.there b o z hx;by_cases QW:b=a
   .rw[QW];exact⟨_,f.at_⟩
   .by_cases HL:b=T
    .rcases old b o z with y|y
     .exact absurd HL y
     .exact absurd (HL.trans y) QW
    .obtain⟨sl,g'⟩:=k2 b o' QW HL g;exact⟨_,g'⟩
  .have g:=I.base.BS b xs z;rw[az (λy=>by rw[y,e] at g;cases g)];exact g
  .have g:=I.base.AQ b o u z;rw[az (λy=>by rw[y,e] at g;cases g)];exact g
  .obtain⟨more,g⟩:=I.base.Av b ps z;refine⟨more,?_⟩;rw[az (λy=>by rw[y,e] at g;cases g)];exact g
  .by_cases hb:b=a
   .subst hb;rw[af] at z;cases z;exact xi ⟨_,f.at_,by simp[hv],λy=>nomatch y⟩
   .rw[az hb] at z;have Nu:∀c u',H c=some u'->c∉(X.env::X.outer).filterMap (·.frame):=λc u' y hm=>by rw[Ed c hm] at y;cases y
    have L7:∀c u',c≠a->H c=some u'->c≠T:=λc u' ya y y' =>by
     rcases hT2 with t|t
     .rw[y',t] at y;cases y
     .exact ya (y'.trans t)
    refine(I.bS b u z).Ae (λc v hc y=> ?_) (λc y=> ?_) λc ys y=> ?_
    .rcases hc with y' |y'
     .subst y';exact k1 c v hb (L7 c u hb z) (Nu c u z) y
     .have hca:c≠a:=λw' =>by rw[w',e] at y';cases y'
      exact k1 c v hca (L7 c _ hca y') (Nu c _ y') y
    .rw[az (λw' =>by rw[w',e] at y;cases y)];exact y
    .rw[az (λw' =>by rw[w',e] at y;cases y)];exact y
  .rw[az (Hj _ YR)];exact YR
 rcases fl with⟨oe,vs',h1,h2,h3⟩|⟨T,oe,f,hT0,hT,_⟩
 .rw[he] at h1;cases h1;cases h2;refine FW (base:=X.base) Ku hl wo he Z h3 λh' T' L1 f k1 k2=>fin h' a T' (.inr Z) (.inr Z) L1 f (λb o hb _ hf g=>k1 b o hb hf g) (λb o hb _ g=>k2 b o hb g)
 .have WE:oe={cls:= .ref C,dict:=dd,data:= .fields vs}:=by
   have:=f.at_;rw[he] at this;cases this;rfl
  subst WE;refine Ia (base:=X.base) Ku hl wo f λh' T' L1 f' k1 k2=>fin h' T T' (.inl hT) (.inl hT0) L1 f' k1 k2
theorem KZ{e:M'}{s' :R'}(I:Inv X ad σ H s)(h:Dc X.prog X.w X.stack H s E e s'):∃(a C:S') (dd:Option S') (H' :Hp),e= .ref a/\Inv X ad σ H' s'/\H' a=some (.ext (eW a C dd false))/\GI X ad H' s'.heap a/\E (.ref C) dd H' :=by
 obtain⟨a,C,dd,T,oe,H',rfl,os,bare,un,bS,ea,f,hT,Yp,q⟩:=h;exact⟨a,C,dd,H',Z,I.RH os un bS bare (λb z=>absurd z (by simp)),ea,.inr ⟨T,oe,f,hT,aU I.sz Yp,λp hp z=>absurd (cP (a_ (I.pin p hp).1) (by rw[z];exact Yp)) (cA _)⟩,q⟩
end
section
variable{M:Model}{A:X'}{E:J'}{env:Env}
variable{nm q:Str}{C N:S'}{bs bm:aG}{jf:Bool}{sn:au}{sub:aG}{ab:Bool}{col:Option Bool}{dd:Option S'}{k0 k1 k2 k3 k5:aO}{newId:String}
theorem m8{s:R'}{x:Sem M'}{Q:Flow->R'->Prop}(hh:A.handled=none)
 (h:wpAny M A x (λv bR=>∃(e C N:S') (de:Option S') (vs:Array M') (nm q:Str) (bs bm:aG) (jf:Bool) (sn:au) (sub:aG) (ab:Bool) (col:Option Bool) (dd:Option S') (k0 k1 k2 k3 k5:aO),v= .ref e/\bR.heap.get? C=some (excClassObj nm q C N bs bm jf sn sub ab col dd k0 k1 k2 k3 k5 "ValueError.__new__")/\bm.contains (.type "BaseException")=true/\
  bR.heap.get? e=some {cls:= .ref C,dict:=de,data:= .fields vs}/\vs[1]? =some .none/\E (.ref e) bR) E s):
 wpAny M A (raiseStmt env (some x) none) Q E s:=by
 unfold raiseStmt;refine aw (fV h (λv bR h₁=> ?_) λ_ _ x=>x);obtain⟨e,C,N,de,vs,nm,q,bs,bm,jf,sn,sub,ab,col,dd,k0,k1,k2,k3,k5,rfl,hC,AS,he,h1,hE⟩:=h₁;have QS:(Value.ref C::bm).contains (.type "BaseException")=true:=by rw[qU,AS,sk]
 obtain⟨hp,g,d,tk,os⟩:=bR
 repeat (first|with_reducible refine jA he ?_|with_reducible refine c6 he rfl h1 ?_|with_reducible refine jA hC ?_|(with_reducible refine qE hC ?_;rw[QS])|wp_step)
 exact wpAny_raiseNew_none hh hE
end
section
variable{X:Cx}{e:V'}{pos:Pos}{t:TE}{E:XK}
def MD(K:Frag)(E:XK)(t:TE):TS:=λ_ σ H=>t σ H λv H1=>∃a C dd,v= .ref a/\H1 a=some (.ext (eW a C dd true))/\ExcC K C/\E (.ref C) dd (upd H1 a (.ext (eW a C dd false)))
def CL(X:Cx)(E:XK):Prop:=∀(ad:aQ) (σ:St) (H:Hp) (s:R') (a C:S') (dd:Option S') (n:Bool),Inv X ad σ H s->H a=some (.ext (eW a C dd n))->GI X ad H s.heap a->E (.ref C) dd (upd H a (.ext (eW a C dd false)))->X.xe (.ref a) s
theorem j4(hc:X.calm=true)(hw:CL X E)(he:PE X e t):PS X (.Raise (some e) none pos) (MD X.K E t):=by
 intro ad s σ H D I h;rw[arm_exec_Raise]
 have key:wpAny (model X.prog X.w) X.A (do let v<-eval e X.env;standAt pos;pure v) (λv bR=>∃(e C N:S') (de:Option S') (vs:Array M') (nm q:Str) (bs bm:aG) (jf:Bool) (sn:au) (sub:aG) (ab:Bool) (col:Option Bool) (dd:Option S') (k0 k1 k2 k3 k5:aO),v= .ref e/\bR.heap.get? C=some (excClassObj nm q C N bs bm jf sn sub ab col dd k0 k1 k2 k3 k5 "ValueError.__new__")/\bm.contains (.type "BaseException")=true/\
  bR.heap.get? e=some {cls:= .ref C,dict:=de,data:= .fields vs}/\vs[1]? =some .none/\X.xe (.ref e) bR) X.xe s:=by
  refine aw (dk (he ad s σ H _ I h) λu s1 ⟨v,H1,I1,r1,a,C,dd,ev,ea,c,q⟩=> ?_);subst ev;obtain rfl:u=Value.ref a:=r1;refine aw (qB (aY ?_));obtain⟨nm,q',N,bs,bm,jf,sn,sub,ab,col,Xz,k0,k1,k2,k3,k5,lk,T⟩:=c.obj;obtain⟨vs,hea,hv,hn⟩:=qM I1.bS ea;exact⟨a,C,N,dd,vs,nm,q',bs,bm,jf,sn,sub,ab,col,Xz,k0,k1,k2,k3,k5,Z,I1.jO _ _ lk,T.hasBase,hea,hn Z,hw ad σ H1 s1 a C dd true I1 ea (.inl ⟨_,vs,hea,Z,hn Z⟩) q⟩
 first
  |exact aw (qB (m8 (I.ok.hd hc) key))
  |(simp only[evalOpt,Option.map];exact aw (qB (m8 (I.ok.hd hc) key)))
  |(show wpAny _ _ (do standAt pos;raiseStmt X.env (some (do let v<-eval e X.env;standAt pos;pure v)) none) _ _ s;exact aw (qB (m8 (I.ok.hd hc) key)))
theorem jx(hw:CL X E)(sY:True):wf (Dc X.prog X.w) X E:=by
 intro ad σ H s e s' I h;obtain⟨a,C,dd,H',rfl,I',ea,fl,q⟩:=KZ I h;refine hw ad σ H' s' a C dd false I' ea fl ?_;rw[zX ea];exact q
end
theorem dU{P:Z'}{w:W'}{K:Frag}{mg:Str->aO}{base:Y'}{N:au}{qual:Str}{scope:Scope}{f:S'}{cd:M'}{A:X'}{outer:List Env}{s:R'}{H:Hp}{E:XK}
 (wo:(envOfC qual scope s.heap.objs.size f cd).frame=some s.heap.objs.size:=by rfl):CL (nD (Dc P w) P w K mg base N qual scope f cd A outer s H E) E:=by
 intro ad σ H1 s1 a C dd n I ea fl q;exact DE I Z wo Z ea fl q
section
variable{M:Model}{A:X'}{E:J'}{s:R'}
theorem Ig{base:Y'}{env:Env}{outer:List Env}{L e:S'}{oe:Obj}{vs:Array M'}{Q:Unit->R'->Prop}
 (wo:A.frames=some (env::outer)) (hl:s.heap.FunFrames base (env::outer)) (hf:env.frame=some L)
 (he:s.heap.get? e=some oe) (hd:oe.data= .fields vs) (h1:vs[1]? =some .none)
 (h:∀h' T,s.heap.objs.size<=T->L3 h' e T (oe.mapFields (·.setIfInBounds 1 (.ref T)))->(∀b o,b≠e->b∉(env::outer).filterMap (·.frame)->s.heap.get? b=some o->h'.get? b=some o)->
  (∀b o,b≠e->s.heap.get? b=some o->∃sl,h'.get? b=some {o with slots:=sl})->Q () {s with heap:=h'}):wpAny M A (noteFrame (.ref e) env) (λ_ s' =>wpAny M A (setFlight (.ref e) none) Q E s') E s:=by
 unfold noteFrame;simp only[hf];refine aw (c6 he hd h1 ?_);rw[ax (by decide)];exact rJ wo hl hf he hd (uK.mp h1).1 h
theorem Ld{base:Y'}{env:Env}{outer:List Env}{L e T:S'}{oe:Obj}{Q:Unit->R'->Prop}
 (wo:A.frames=some (env::outer)) (hl:s.heap.FunFrames base (env::outer)) (hf:env.frame=some L) (ht:L3 s.heap e T oe)
 (h:∀h' T',s.heap.objs.size<=T'->L3 h' e T' (oe.mapFields (·.setIfInBounds 1 (.ref T')))->(∀b o,b≠e->b≠T->b∉(env::outer).filterMap (·.frame)->s.heap.get? b=some o->h'.get? b=some o)->
  (∀b o,b≠e->b≠T->s.heap.get? b=some o->∃sl,h'.get? b=some {o with slots:=sl})->Q () {s with heap:=h'}):wpAny M A (noteFrame (.ref e) env) (λ_ s' =>wpAny M A (setFlight (.ref e) none) Q E s') E s:=by
 obtain⟨he,⟨vs,hd,h1⟩,Vp,oT,ts,hT,mH,h3⟩:=ht;unfold noteFrame;simp only[hf];refine aw (c6 he hd h1 ?_);rw[aB (show(Value.ref T !=Value.none)=true from by simp)];refine aw (c6 hT mH h3 ?_);rw[ax (show ¬((Value.none==rawInt L)=true) from by simp[rawInt])];refine aw (uI hT mH (uK.mp h3).1 ?_);have other:∀b,b≠T->(s.heap.update T (Obj.mapFields (·.setIfInBounds 3 Value.none))).get? b=s.heap.get? b:=λb hb=>gn _ _ (ck hb)
 have Be:∀b o,s.heap.get? b=some o->(∀vs,o.data≠.fields vs)->b≠T:=λb o hb PL q=>by
  rw[q,hT] at hb;injection hb with hb;subst hb;exact PL ts mH
 refine rJ wo (hl.of_keeps λb o hb PL=>⟨o,(other b (Be b o hb PL)).trans hb,Z⟩) hf ((other e (ck Vp)).trans he) hd (uK.mp h1).1
  λh' T' hn fl k1 k2=>h h' T' ?_ fl (λb o DJ HL XT hb=>k1 b o DJ XT ((other b HL).trans hb)) λb o DJ HL hb=>k2 b o DJ ((other b HL).trans hb)
 have Lz :(s.heap.update T (Obj.mapFields (·.setIfInBounds 3 Value.none))).objs.size<=T' :=hn;rw[Heap.size_after_update] at Lz;exact Lz
end
structure Mj(X:Cx)(ad:aQ)(H:Hp)(h:Y')(a T:S'):Prop where
 fly:∃oe,L3 h a T oe
 no:H T=none
 young:X.fO.heap.objs.size<=T
 pin:∀p∈X.pn++ad,p.1≠T
section
variable{X:Cx}{ad:aQ}{σ:St}{H:Hp}{s:R'}{a C:S'}{dd:Option S'}{n:Bool}
theorem Inv.RF{h' :Y'}{T T' :S'}{vs:Array M'}(I:Inv X ad σ H s)(sY:X.stack=X.env::X.outer)(wo:X.env.frame=some X.env.locals)(e:H a=some (.ext (eW a C dd n)))(hv:vs.size=6)
 (hT:T=a\/(H T=none/\X.fO.heap.objs.size<=T/\(∀p∈X.pn++ad,p.1≠T)/\∃oT ts,s.heap.get? T=some oT/\oT.data= .fields ts)) (he:h'.get? a=some {cls:= .ref C,dict:=dd,data:= .fields vs})
 (k1:∀b o,b≠a->b≠T->b∉(X.env::X.outer).filterMap (·.frame)->s.heap.get? b=some o->h'.get? b=some o) (k2:∀b o,b≠a->b≠T->s.heap.get? b=some o->∃sl,h'.get? b=some {o with slots:=sl}):
 Inv X ad σ (upd H a (.ext (eW a C dd false))) {s with heap:=h'}:=by
 have Ed:∀b∈(X.env::X.outer).filterMap (·.frame),H b=none:=λb hb=>I.vw b (by rw[sY];exact hb)
 have mem:∀b,b∈(X.env::X.outer).filterMap (·.frame)->b=X.env.locals\/b∈X.fs:=λb hb=>by
  rw[oS,wo] at hb;rcases aP.mp hb with z|z
  .exact .inl z
  .exact .inr z
 have Hj :∀b,H b=none->b≠a:=λb z z' =>by rw[z',e] at z;cases z
 obtain⟨m0,⟨oL,esL,epL,hL,hdL,rL⟩,_⟩:=id I.loc
 have LT:X.env.locals≠T:=λz=>by
  rcases hT with y|⟨_,_,_,oT,ts,g1,g2⟩
  .exact Hj _ I.free (z.trans y)
  .rw[z,g1] at hL;cases hL;rw[g2] at hdL;cases hdL
 have chT:∀b,b∉(if T=a then[] else[T]:cc)->b≠a->b≠T:=λb hb QW z=>by
  by_cases X0:T=a
  .exact QW (z.trans X0)
  .rw[ax X0] at hb;exact hb (by rw[z];simp)
 refine I.step (g' :=s.gens) (t' :=s.toks) (d' :=s.drawn) (ch:=if T=a then[] else[T]) (λb hb=> ?_) (λb o hbL XT hc q z=>k1 b o (Hj b z) (chT b hc (Hj b z)) (λhm=>(mem b hm).elim hbL XT) q) (λb o _ _ hc q z=>k2 b o (Hj b z) (chT b hc (Hj b z)) q)
  (λb o _ q z=>by rw[az (Hj b z)];exact z) (λb o hc q=> ?_) (λb xs z=> ?_) (λb o u z=> ?_) (λb ps z=>⟨#[],?_⟩) (λm hm=> ?_) (λb u z=> ?_) I.bare
 .by_cases X0:T=a
  .rw[aB X0] at hb;cases hb
  .rw[ax X0] at hb;have hb:b=T:=by simpa using hb
   subst hb;rcases hT with y|⟨g0,g1,g2,oT,ts,g3,g4⟩
   .exact absurd y X0
   .refine⟨.inr g1,ck LT,λx c q z=> ?_,g2⟩;obtain⟨v,o,ho,hd⟩:=I.cell x c q;rw[z,g3] at ho;cases ho;rw[g4] at hd;cases hd
 .by_cases QW:b=a
  .rw[QW];exact⟨_,he⟩
  .obtain⟨sl,g⟩:=k2 b o QW (chT b hc QW) q;exact⟨_,g⟩
 .rw[az (λy=>by rw[y,e] at z;cases z)];exact z
 .rw[az (λy=>by rw[y,e] at z;cases z)];exact z
 .rw[az (λy=>by rw[y,e] at z;cases z),z];simp
 .obtain⟨o,es,ep,q,hd,r⟩:=hm;obtain⟨sl,g⟩:=k2 _ o (Hj _ I.free) LT q;exact⟨_,es,ep,g,hd,r⟩
 .by_cases hb:b=a
  .subst hb;rw[af] at z;cases z;exact xi ⟨vs,he,hv,λy=>nomatch y⟩
  .rw[az hb] at z;have Nu:∀c u',H c=some u'->c∉(X.env::X.outer).filterMap (·.frame):=λc u' y hm=>by rw[Ed c hm] at y;cases y
   have L7:∀c u',c≠a->H c=some u'->c≠T:=λc u' ya y y' =>by
    rcases hT with t|⟨t,_⟩
    .exact ya (y'.trans t)
    .rw[y',t] at y;cases y
   refine(I.bS b u z).Ae (λc v hc y=> ?_) (λc y=> ?_) λc ys y=> ?_
   .rcases hc with y' |y'
    .subst y';exact k1 c v hb (L7 c u hb z) (Nu c u z) y
    .have hca:c≠a:=λw' =>by rw[w',e] at y';cases y'
     exact k1 c v hca (L7 c _ hca y') (Nu c _ y') y
   .rw[az (λw' =>by rw[w',e] at y;cases y)];exact y
   .rw[az (λw' =>by rw[w',e] at y;cases y)];exact y
theorem K3{M:Model}{E:J'}{Q:Unit->R'->Prop}(I:Inv X ad σ H s)(sY:X.stack=X.env::X.outer)(wo:X.env.frame=some X.env.locals)(e:H a=some (.ext (eW a C dd n)))(fl:GI X ad H s.heap a)
 (h:∀s' T,Inv X ad σ (upd H a (.ext (eW a C dd false))) s'->Mj X ad (upd H a (.ext (eW a C dd false))) s'.heap a T->Q () s'):
 wpAny M X.A (noteFrame (.ref a) X.env) (λ_ s' =>wpAny M X.A (setFlight (.ref a) none) Q E s') E s:=by
 obtain⟨vs,he,hv,hn⟩:=qM I.bS e;have Ku:X.A.frames=some (X.env::X.outer):=by rw[<-sY];exact I.ok.frames
 have hl:s.heap.FunFrames X.base (X.env::X.outer):=by rw[<-sY];exact I.stack
 have Hj :∀b,H b=none->b≠a:=λb z z' =>by rw[z',e] at z;cases z
 have hold:∀{h' :Y'} {T' :S'} {oe:Obj},s.heap.objs.size<=T'->L3 h' a T' oe->Mj X ad (upd H a (.ext (eW a C dd false))) h' a T' :=λ{h' T' oe} hT f=>
  ⟨⟨oe,f⟩,by rw[az (Hj _ (I.bS.fresh hT))];exact I.bS.fresh hT,aU I.sz hT,λp hp z=>absurd (cP (a_ (I.pin p hp).1) (by rw[z];exact hT)) (cA _)⟩
 rcases fl with⟨oe,vs',h1,h2,h3⟩|⟨T,oe,f,hT0,hT,hTp⟩
 .rw[he] at h1;cases h1;cases h2;exact Ig (base:=X.base) Ku hl wo he Z h3 λh' T' L1 f k1 k2=>h _ T' (I.RF (vs:=vs.setIfInBounds 1 (.ref T')) (T:=a) (T' :=T') sY wo e (by simp[hv]) (.inl Z) f.at_ (λb o hb _ hf g=>k1 b o hb hf g) λb o hb _ g=>k2 b o hb g) (hold L1 f)
 .have WE:oe={cls:= .ref C,dict:=dd,data:= .fields vs}:=by
   have:=f.at_;rw[he] at this;cases this;rfl
  subst WE;obtain⟨oT,ts,g1,g2,_⟩:=f.tr;exact Ld (base:=X.base) Ku hl wo f λh' T' L1 f' k1 k2=>h _ T' (I.RF (vs:=vs.setIfInBounds 1 (.ref T')) (T:=T) (T' :=T') sY wo e (by simp[hv]) (.inr ⟨hT0,hT,hTp,oT,ts,g1,g2⟩) f'.at_ k1 k2) (hold L1 f')
end
section
variable{X:Cx}{ad:aQ}{σ:St}{H:Hp}{s:R'}{a T:S'}
noncomputable abbrev Cx.AD(X:Cx)(a:S')(E:J'):Cx:={X with A:=X.A.mark (some (.ref a)),calm:=false,xe:=E}
theorem Inv.AD(I:Inv X ad σ H s)(a:S')(E:J'):Inv (X.AD a E) ad σ H s:=
 ⟨⟨I.ok.mod,I.ok.kind,I.ok.glob,I.ok.blt,I.ok.above,I.ok.inj,I.ok.has,I.ok.Ru,(λz=>nomatch z),I.ok.frames,I.ok.PM,I.ok.exf,I.ok.bs,I.ok.Kv,I.ok.IW,I.ok.Kz,I.ok.sF,I.ok.O8⟩,I.os,I.bare,I.base,I.loc,I.cell,I.free,I.jR,I.pin,I.bS,I.len⟩
theorem Inv.ER{E:J'}(ok:X.Ok)(I:Inv (X.AD a E) ad σ H s):Inv X ad σ H s:=⟨ok,I.os,I.bare,I.base,I.loc,I.cell,I.free,I.jR,I.pin,I.bS,I.len⟩
noncomputable abbrev Cx.pinned(X:Cx)(pn:aQ)(E:J'):Cx:={X with pn:=X.pn++pn,xe:=E}
theorem Inv.N5(I:Inv X ad σ H s)(E:J'):Inv (X.pinned ad E) [] σ H s:=
 ⟨⟨I.ok.mod,I.ok.kind,I.ok.glob,I.ok.blt,I.ok.above,I.ok.inj,I.ok.has,I.ok.Ru,I.ok.hd,I.ok.frames,I.ok.PM,I.ok.exf,I.ok.bs,I.ok.Kv,I.ok.IW,I.ok.Kz,I.ok.sF,I.ok.O8⟩,I.os,I.bare,I.base,I.loc,I.cell,I.free,I.jR,λp hp=>I.pin p (by simpa using hp),I.bS,I.len⟩
theorem Inv.ofPinned{E:J'}{Gb :aQ}(ok:X.Ok)(I:Inv (X.pinned ad E) Gb σ H s):Inv X ad σ H s:=
 ⟨ok,I.os,I.bare,I.base,I.loc,I.cell,I.free,I.jR,λp hp=>I.pin p (rK _ hp),I.bS,I.len⟩
theorem Inv.Qf{h' :Y'}{t' i:Nat}{x:Str}{u:aO}{m:Str->aO}(I:Inv X ad σ H s)(hN:X.N.Nodup)(hi:X.N[i]? =some x)(hm:s.heap.Ns X.env.locals m)(hn:h'.Ns X.env.locals (λy=>if y=x then u else m y))(sb:Heap.SameBut X.env.locals s.heap h'):
 Inv X ad (σ.set i none) H {s with heap:=h',toks:=t'}:=by
 have old:∀b o,X.fO.heap.get? b=some o->b≠X.env.locals:=λb o q z=>absurd (cP (a_ q) (by rw[z];exact I.ok.above)) (cA _);have abd:=I.free;refine⟨I.ok,I.os,I.bare,⟨λb o q z hb hx=> ?_,λb o q z hb hx=> ?_,I.base.free,λb o q hx=> ?_,I.base.BS,I.base.AQ,I.base.Av⟩,⟨_,hn,λj y v e1 e2 e3=> ?_⟩,λy c q=> ?_,I.free,I.jR,λp hp=> ?_,λb o q=> ?_,?_⟩
 .exact(sb.2 b (old b o q)).trans (I.base.keep b o q z hb hx)
 .obtain⟨sl,g⟩:=I.base.slot b o q z hb hx;exact⟨sl,(sb.2 b (old b o q)).trans g⟩
 .obtain⟨o',g⟩:=I.base.there b o q hx;exact⟨o',(sb.2 b (old b o q)).trans g⟩
 .have hj:j≠i:=λz=>by
   subst z;by_cases hl:j<σ.length
   .rw[Ea hl] at e2;cases e2
   .rw[nh (by rw[D0];lia)] at e2;cases e2
  rw[zJ (ck hj)] at e2;obtain⟨m0,hm0,hl⟩:=I.loc;obtain⟨w',Mw,lk⟩:=hl j y v e1 e2 e3
  have hyx:y≠x:=λz=>by
   subst z;have h1:=(c8.mp e1).1;exact hj ((List.getElem?_inj h1 hN).mp (e1.trans hi.symm))
  refine⟨w',Mw,?_⟩;rcases lk with⟨k1,k2⟩|⟨k1,c,k2,k3⟩
  .refine .inl ⟨k1,?_⟩;dsimp only;rw[ax hyx,show m=m0 from(Heap.Ns.eq_nsMap hm).trans (Heap.Ns.eq_nsMap hm0).symm];exact k2
  .refine .inr ⟨k1,c,k2,?_⟩;obtain⟨o,g1,g2⟩:=k3;exact⟨o,(sb.2 c (I.Pd y c k2)).trans g1,g2⟩
 .obtain⟨v,o,g1,g2⟩:=I.cell y c q;exact⟨v,o,(sb.2 c (I.Pd y c q)).trans g1,g2⟩
 .obtain⟨g1,g2,g3,g4⟩:=I.pin p hp;exact⟨(sb.2 p.1 g3).trans g1,g2,g3,g4⟩
 .refine(I.bS b o q).Ae (λc v hc g=>(sb.2 c ?_).trans g) (λ_ g=>g) λ_ _ g=>g;rcases hc with z|z
  .rw[z];exact λz' =>by rw[z',abd] at q;cases q
  .exact λz' =>by rw[z',abd] at z;cases z
 .rw[D0];exact I.len
theorem LG{M:Model}{A:X'}{E:J'}{Q:Unit->R'->Prop}(I:Inv X ad σ H s)(hd:Mj X ad H s.heap a T)(h:∀s',Inv X ad σ H s'->Mj X ad H s'.heap a T->Q () s'):
 wpAny M A (setFlight (.ref a) none) Q E s:=by
 obtain⟨⟨oe,he,⟨vs,hdv,h1⟩,ne,oT,ts,hT,mH,h3⟩,h0,hy,hp⟩:=hd;have ql:3<ts.size:=(uK.mp h3).1;refine wpAny_setFlight_none he hdv h1 hT mH ql ?_;obtain⟨m0,⟨oL,esL,epL,hL,hdL,rL⟩,_⟩:=id I.loc;have LT:T≠X.env.locals:=λz=>by rw[<-z,hT] at hL;cases hL;rw[mH] at hdL;cases hdL
 have I1:Inv X ad σ H {s with heap:=s.heap.update T (Obj.mapFields (·.setIfInBounds 3 .none))}:=I.turned (t' :=s.toks) (λb o hb q=>by rw[gn _ _ (ck hb)];exact q) h0 LT (.inr hy)
  (λx c q z=>by obtain⟨v,o,ho,hd⟩:=I.cell x c q;rw[z,hT] at ho;cases ho;rw[mH] at hd;cases hd) hp
 refine h _ I1 ⟨⟨oe,by show(s.heap.update T _).get? a=_;rw[gn _ _ ne];exact he,⟨vs,hdv,h1⟩,ne,_,_,ma _ hT (zC (uE mH _)),uE mH _,by simp[ql]⟩,h0,hy,hp⟩
end
section
variable{M:Model}{A:X'}{E:J'}
end
structure Under(K:Frag)(C D:S'):Prop where
 ex:∃nm q N bs bm jf sn sub ab col dd k0 k1 k2 k3 k5 i,K.lookup C=some (excClassObj nm q C N bs bm jf sn sub ab col dd k0 k1 k2 k3 k5 i)/\(Value.ref C::bm).contains (.ref D)=true
section
variable{X:Cx}{body Gg:List Stmt}{b0:Stmt}{rest:List ExceptHandler}{c nm:Str}{cp Ey pos:Pos}{tb:XK->TS}{th:TS}{i:Nat}{D:S'}
noncomputable def Ji(i:Nat)(D:Ends):Ends where
 nx:=λσ H=>D.nx (σ.set i none) H
 rt:=D.rt
 bk:=λσ H=>D.bk (σ.set i none) H
 ct:=λσ H=>D.ct (σ.set i none) H
end
section
variable{P:Z'}{w:W'}{K:Frag}{mg:Str->aO}{base:Y'}
theorem F4.okX{x qual:Str}{st:Stmt}{f:S'}{fd:aad}{N ps:au}{k:Nat}{sp:Sp}(F:F4 K x qual st f fd)(S:aJ N ps (av st))(len:∀vs H Q E,sp vs H Q E->vs.length=ps.length)
 (iF:∀(cB:M') (A:X') (outer:List Env) (s:R') (H:Hp) (vs:ak) (Q:VK) (E:XK),dX k (A.deeper (envOfC qual (av st) s.heap.objs.size f cB))->sp vs H Q E->
  ∃t,CW (nD (Dc P w) P w K mg base N qual (av st) f cB A outer s H E) (dN st) t/\t {nx:=λ_ H' =>Q .bp H',rt:=Q} (start N vs) H):aT P w K mg base (Dc P w) (k+1) f fd ps sp:=by
 obtain⟨oc,od,kV,doc,pm,an,cB,ct,xC,rfl,lk,AO⟩:=F.ex;exact JI lk AO S len λA outer s H vs Q E hr CY=>iF cB A outer s H vs Q E hr CY
end
variable{X:Cx}
theorem C9:∀{xs:au} {us:aG},Vals (xs.map V.str) us->∃l:List (Str×Tok),us=strValues l/\l.map (·.1)=xs
 |[],_,.nil=>⟨[],Z,Z⟩
 |x::xs,_,.cons ⟨t,e⟩ r=>by
  obtain⟨l,rfl,rfl⟩:=C9 r;subst e;exact⟨(x,t)::l,Z,Z⟩
theorem Qe:MtM X "str.join" (λx vs H Q=>∃a b xs,x= .str a/\vs=[.ref b]/\H b=some (.lst (xs.map V.str))/\JoinOk a xs=true/\Q (.str (Txt.join a xs)) H):=by
 intro ad s σ H x vs v us Q I rx rv h;obtain⟨a,b,xs,rfl,rfl,hb,hj,q⟩:=h;obtain⟨t,rfl⟩:=rx;obtain⟨u,rfl,ru⟩:=rv.one;cases ru;obtain⟨z,its,n,r,hl,e⟩:=I.H_ hb;obtain⟨l,rfl,rfl⟩:=C9 r;exact SC.join (x:=a) (D:=b) (l:=l) ⟨_,e,Z,_,Z⟩ Z hj λt' k=>⟨.str _,H,I.tok k,⟨t',Z⟩,q⟩
end L2
namespace My
open PySem PySem.NumText PyProof.Rows L2
end My
namespace L2
open PySem PySem.Spec PySem.SeqAt PyProof.Rows
variable{X:Cx}
theorem HP:n6 X (binaryOp .Mult) (λx y H Q=>∃z n,x= .str z/\y= .int n/\MulOk z n/\Q (.str (Txt.mul z n)) H):=by
 intro ad s σ H x y v u Q I rx ry h;obtain⟨z,n,rfl,rfl,ok,q⟩:=h;obtain⟨t,rfl⟩:=rx;obtain⟨t',rfl⟩:=ry;exact SB.mul ok λt' k=>⟨.str _,H,I.tok k,⟨t',Z⟩,q⟩
section
variable{X:Cx}{e:V'}{f:Str}{pos:Pos}{ta:TE}{K:Frag}
theorem jX(hK:X.K=K)(he:PE X e ta)(hb:attributeBase e f X.env (eval e X.env)=eval e X.env):PE X (.Attribute e f pos) (U3 K ta f):=by
 subst hK;exact PK he hb
end
section
variable{X:Cx}{e:V'}{es:b7}{st:Stmt}{sts:List Stmt}{te:TE}{ta:TA}{t u:TS}
structure Pl(X:Cx)(es:b7)(t:TA):Prop where
 h:PA X es t
structure Dx(X:Cx)(e:V')(t:TE):Prop where
 h:PE X e t
structure Wg(X:Cx)(st:Stmt)(t:TS):Prop where
 h:PS X st t
structure DK(X:Cx)(sts:List Stmt)(t:TS):Prop where
 h:CW X sts t
theorem ao:Pl X [] sH:=⟨dY⟩
theorem gs(hs:∀(es:b7) (env:Env),starEach (e::es) env=(false,eval e env)::starEach es env)(ha:PE X e te)(hr:Pl X es ta):Pl X (e::es) (tG te ta):=⟨ag ha hr.h (hs _ _)⟩
theorem aI{pos:Pos}(h:Pl X es ta):Dx X (.List es pos) (Ga ta):=⟨bH h.h⟩
theorem bN{i:Nat}{x:Str}{pos pos' :Pos}(hN:X.N.Nodup)(hi:X.N[i]? =some x)(hx:Loc X.env.scope x)(he:Dx X e te)(hs:swapsWith e (some (.Name x pos')) pos.line X.env=pure false)(hf:X.fn x=true\/X.env.scope.names.lookup x=some .local):
 Wg X (.Assign [.Name x pos'] e pos) (Gr te (vJ i)):=⟨MO hN hi hx he.h hs hf⟩
theorem aD(h1:Wg X st t)(h2:DK X sts u):DK X (st::sts) (Gu t u):=⟨aj h1.h h2.h⟩
theorem bC(h1:Wg X st t):DK X [st] t:=⟨aq h1.h⟩
end
section
variable{P:Z'}{w:W'}{K:Frag}{mg:Str->aO}{base:Y'}
theorem F4.okM{x qual:Str}{st:Stmt}{f:S'}{fd:aad}{N ps:au}{k:Nat}{sp:Sp}(F:F4 K x qual st f fd)(S:aJ N ps (av st))(len:∀vs H Q E,sp vs H Q E->vs.length=ps.length)
 (iF:∀(cB:M') (A:X') (outer:List Env) (s:R') (H:Hp) (vs:ak) (Q:VK) (E:XK),dX k (A.deeper (envOfC qual (av st) s.heap.objs.size f cB))->sp vs H Q E->
  ∃t,DK (nD dO P w K mg base N qual (av st) f cB A outer s H E).KD (dN st) t/\t {nx:=λ_ H' =>Q .bp H',rt:=Q} (start N vs) H):aT P w K mg base dO (k+1) f fd ps sp:=
 F.ok S len λcB A outer s H vs Q E hr h=>by
  obtain⟨t,h,q⟩:=iF cB A outer s H vs Q E hr h;exact⟨t,h.h,q⟩
end
end L2
namespace L2
open PySem PySem.Spec PyProof.Rows PySem.Builtin.ObjectAttr
structure ael(K:Frag)(C:S'):Prop extends ExcG K C where
 ca:PySem.W.findIn K (.ref C) "__class__"=some (some (.builtin "object.__class__"))
 gt:PySem.W.specialIn K (.builtin "object.__class__") "__get__"=some (some (.builtin "getset_descriptor.__get__"))
 tk:PySem.W.takesIn K (.builtin "object.__class__")=some true
 mo:PySem.W.mroIn K C (.type "object")=some true
section
variable{K:Frag}{C:S'}
variable{prog:Z'}{w:W'}{A:X'}{E:J'}{s:R'}{x:S'}{ox:Obj}{od:Option Obj}
end
section
variable{X:Cx}{K:Frag}
end
structure Z1(k:Nat)(A:X'):Prop where
 dp:A.depth+3*k+5<recursionLimit
 un:A.units+16*k+200<cLine
 gd:A.guards=some []
structure agp(P:Z')(w:W')(K:Frag)(mg:Str->aO)(base:Y')(k:Nat)(f:S')(fd:aad)(ps:au)(sp:Sp):Prop where
 len:∀vs H Q E,sp vs H Q E->vs.length=ps.length
 run:∀(A:X') (outer:List Env) (s:R') (H:Hp) (args:Args) (us:aG) (vs:ak) (Q:VK) (E:XK),Z1 k A->Ci P w K mg base A outer s H->BindsTo s fd args (ps.zip us)->Vals vs us->sp vs H Q E->
  codeAny (model P w) A (.call (.ref f) args) (CR dO outer P w H s Q E) s
section
variable{X:Cx}{k:Nat}{f:S'}{fd:aad}{ps:au}{sp:Sp}{x:Str}{p pos:Pos}{e:V'}{es:b7}{t:TA}{K:Frag}
end
variable{X:Cx}
section
variable{X:Cx}{CX:uk}{k:Nat}{f C:S'}{fd:aad}{ps:au}{sp:Sp}{dvs:ak}{ds:aG}{E:St->XK}{x m:Str}{p pos apos:Pos}{e o:V'}{es:b7}{ta:TE}{t:TA}
end
section
variable{X:Cx}{body Gg:List Stmt}{b0:Stmt}{rest:List ExceptHandler}{c nm:Str}{cp Ey pos:Pos}{tb:(St->XK)->TS}{th:TS}{i:Nat}{D:S'}
end
section
variable{prog:Z'}{w:W'}{A:X'}{E:J'}{s:R'}
end
section
variable{prog:Z'}{w:W'}{A:X'}{R:Result->R'->Prop}{I:S'}{fp wr:cc}{G:Array GenState->Array GenState->Prop}{n:Nat}{P:Nat->M'->Prop}{St:Nat->R'->Prop}{κ:Type}[DecidableEq κ]{knd:KeyKind prog w κ}
end
section
variable{prog:Z'}{w:W'}{A:X'}{E:J'}{s:R'}{κ:Type}[DecidableEq κ]{knd:KeyKind prog w κ}
end
section
variable{X:Cx}{e:V'}{te:TE}{elts:b7}{kt:Nat}{pt:Pos}
end
section
variable{prog:Z'}{w:W'}{A:X'}{E:J'}{s:R'}
end
section
variable{X:Cx}{pos:Pos}
end
section
variable{X:Cx}{e hi stp:V'}{te th ts:TE}{pos p2:Pos}
end
variable{o e:V'}{es:b7}{to:TE}{t:TA}{name:Str}{apos je:Pos}{T id:String}{r:V->ak->Hp->VK->Prop}
end L2
namespace L2
open PySem PySem.Spec PySem.SeqAt PyProof.Rows
variable{X:Cx}
section
variable{prog:Z'}{w:W'}{A:X'}{E:J'}{s:R'}
structure akk(h:Y')(d:S')(o:Obj)(es:Array DictEntry)(ep:Nat):Prop where
 at_:h.get? d=some o
 ex:o.ExactDict
 da:o.data= .dict es ep
end
section
variable{X:Cx}{ad:aQ}{σ:St}{H:Hp}{s:R'}{d:S'}{kvs:List (List wS×V)}
end
section
variable{X:Cx}{e:V'}{te:TE}{elts:b7}{kt:Nat}{pt:Pos}
end
section
variable{prog:Z'}{w:W'}{A:X'}{R:Result->R'->Prop}{I:S'}{fp wr:cc}{G:Array GenState->Array GenState->Prop}{n:Nat}{P:Nat->M'->Prop}{St:Nat->R'->Prop}{κ:Type}[DecidableEq κ]{knd:HeapKind prog w κ}
noncomputable def acG(xs ps:List (κ×S'×M')):List (κ×S'×M'):=ps.foldl (λm p=>storedH m p.1 p.2.1 p.2.2) xs
end
section
variable{prog:Z'}{w:W'}{A:X'}{E:J'}{s:R'}{κ:Type}[DecidableEq κ]{knd:HeapKind prog w κ}
end
noncomputable def aeK(kvs more:List (List wS×V)):List (List wS×V):=more.foldl (λacc kv=>jae acc kv.1 kv.2) kvs
structure ajJ(K:Frag)(C:S'):Prop where
 ha:PySem.W.findIn K (.ref C) "__class__"=some (some (.builtin "object.__class__"))
 hn:PySem.W.specialIn K (.builtin "object.__class__") "__get__"=some (some (.builtin "getset_descriptor.__get__"))
 tk:PySem.W.takesIn K (.builtin "object.__class__")=some true
 hm:PySem.W.mroIn K C (.type "object")=some true
def Zw(i j:Int):Prop:=0<j/\j.natAbs.log2<9000
theorem FV:n6 X (binaryOp .FloorDiv) (rI Zw λi j=> .int (i / j)):=opI λi j _ _ _ _ _ hc q=>by
 have h1:(0:Int)<j:=hc.1;exact floordiv_int (by lia) (by rw[Int.fdiv_eq_ediv_of_nonneg i (by lia)];exact q) (.inl (PyProof.noPylong_of_log2 hc.2))
section
variable{X:Cx}{pos:Pos}
structure PPm(X:Cx)(pos:Pos)(keys:List (Option V'))(values:b7)(FR:List (TE×TE)):Prop where
 h:PPs X pos keys values FR
theorem QM:PPm X pos [] [] []:=⟨u_⟩
theorem iW{k v:V'}{ks:List (Option V')}{vs:b7}{tk tv:TE}{FR:List (TE×TE)}(hk:Dx X k tk)(hv:Dx X v tv)(hr:PPm X pos ks vs FR):PPm X pos (some k::ks) (v::vs) ((tk,tv)::FR):=⟨g8 hk.h hv.h hr.h⟩
theorem Od{keys:List (Option V')}{values:b7}{FR:List (TE×TE)}(h:PPm X pos keys values FR)(Iw:keys.all (·.isSome)=true)(hl:keys.length=values.length)(h0:keys≠[])(h15:keys.length<=15):Dx X (.Dict keys values pos) (Ma FR):=⟨vZ h.h Iw hl h0 h15⟩
theorem jJ{e:V'}{t:TE}(h:Dx X e t):Wg X (.Return (some e) pos) (Wf t):=⟨aH h.h⟩
end
section
variable{prog:Z'}{w:W'}{A:X'}{E:J'}{s:R'}
end
section
variable{X:Cx}{tg e:V'}{te:TE}
end
section
variable{X:Cx}{ad:aQ}{σ:List (Option V)}{H H' :Hp}{s:R'}{h' :Y'}
theorem Inv.more{t' :Nat}(I:Inv X ad σ H s)(k:∀b u,s.heap.get? b=some u->h'.get? b=some u)(sm:∀a o,H a=some o->H' a=some o)(new:∀a o,H' a=some o->H a=some o\/(s.heap.objs.size<=a/\cu X.prog X.w H' h' a o)):Inv X ad σ H' {s with heap:=h',toks:=t'}:=
 I.un ⟨λb u q _ _ _=>k b u q,λb u q _ _ _=>⟨u.slots,k b u q⟩,λb u q n _=>by
  cases e:H' b with
  |none=>rfl
  |some o=>
   rcases new b o e with h|⟨h,_⟩
   .rw[n] at h;cases h
   .exact absurd (a_ q) (Nat.not_lt.mpr h),λb u q _=>⟨u,k b u q⟩,λb xs q=>sm _ _ q,λb u xs q=>sm _ _ q,λb ps q=>⟨#[],by rw[sm _ _ q];simp⟩⟩ λa o e=>by
  rcases new a o e with h|⟨_,h⟩
  .exact(I.bS a o h).Ae (λc v _ q=>k c v q) (λc q=>sm _ _ q) (λc xs q=>sm _ _ q)
  .exact h
theorem Xf{as:cc}(h:as.Pairwise (· < ·)){j:Nat}{a:S'}(e:as[j]? =some a):as.idxOf a=j:=by
 have hj:=(c8.mp e).1;have ha:=(c8.mp e).2;have hm:as.idxOf a<as.length:=List.idxOf_lt_length_of_mem (bE e);have hg:as[as.idxOf a]=a:=List.getElem_idxOf hm;rcases Nat.lt_trichotomy (as.idxOf a) j with z|z|z
 .have:=List.pairwise_iff_getElem.mp h _ _ hm hj z;rw[hg,ha] at this;exact absurd this (cA _)
 .exact z
 .have:=List.pairwise_iff_getElem.mp h _ _ hj hm z;rw[hg,ha] at this;exact absurd this (cA _)
end
section
variable{prog:Z'}{w:W'}{A:X'}{E:J'}{s:R'}
end
section
variable{X:Cx}{tg e:V'}{te:TE}
end
section
variable{prog:Z'}{w:W'}{A:X'}{E:J'}{s:R'}
end
section
variable{X:Cx}{o e f:V'}{apos je:Pos}{td ty tx:TE}
end
section
variable{prog:Z'}{w:W'}{A:X'}{E:J'}{s:R'}
end
theorem xt(hu:X.A.units<cLine):n6 X (compareOp .NotEq) (λx y H Q=>∃a b xs,x= .ref a/\y= .ref b/\H a=some (.lst xs)/\H b=some (.lst [])/\Q (.bl (!xs.isEmpty)) H):=by
 intro ad s σ H x y v u Q I rx ry h;obtain⟨a,b,xs,rfl,rfl,ha,hb,q⟩:=h;cases rx;cases ry;obtain⟨its,r,pl,hz⟩:=I.list (cF.of ha);obtain⟨pB,r2,Rq,JE⟩:=I.list (cF.of hb);have hl:=r.length;cases r2
 cases xs with
 |nil=>
  cases r;exact SeqAt.RcNeAt.lists (e:=λ_=>true) pl.isList Rq.isList Z hu (λj h1 _=>absurd h1 (iH _)) _ _ _ _ ⟨.bl false,H,I,Z,q⟩
 |cons x r' =>
  exact SeqAt.RcNeAt.lists_lengths pl.isList Rq.isList (by cases r;rfl) hu _ _ _ _ ⟨.bl true,H,I,Z,q⟩
section
variable{prog:Z'}{w:W'}{A:X'}{E:J'}{s:R'}
end
structure RxG(es:Array DictEntry)(lo:S')(h:Y')(as:cc):Prop where
 rise:as.Pairwise (· < ·)
 above:∀a∈as,lo<a
 pairs:∀(j:Nat) (a:S'),as[j]? =some a->∃en,es[j]? =some en/\h.get? a=some {cls:= .type "tuple",data:= .seq #[en.key,en.val]}
section
variable{prog:Z'}{w:W'}{A:X'}{E:J'}{s:R'}{es:Array DictEntry}{ep:Nat}{od:Obj}
end
structure FI(K:Frag)(mg:Str->aO)(x:Str)(st:Stmt)(ps:au)(f:S')(fd:aad):Prop where
 m:mg x=some (.ref f)
 F:F4 K x x st f fd
 b:Binds K fd ps []
structure MI(K:Frag)(C:S')(x q:Str)(st:Stmt)(ps:au)(f:S')(fd:aad):Prop where
 t:Meth K C x f
 F:F4 K x q st f fd
 b:Binds K fd ps []
theorem aJ.of{N P:au}{sc:Scope}(h1:sc.kind= .function:=by rfl)(h2:sc.isCoroutine=false:=by rfl)(h3:sc.isGenerator=false:=by rfl)(h4:N.Nodup:=by decide+kernel)(h5:N.take P.length=P:=by rfl)
 (h6:∀x∈P,sc.names.lookup x=some .local\/sc.names.lookup x=some .cell:=by decide+kernel) (h7:∀y∈sc.names,y.2≠.free:=by decide+kernel):aJ N P sc:=⟨h1,h2,h3,h4,h5,h6,h7⟩
section
variable{P:Z'}{w:W'}{K:Frag}{mg:Str->aO}{base:Y'}{x qual:Str}{st:Stmt}{f:S'}{fd:aad}{N ps:au}{k:Nat}{sp:Sp}
theorem F4.wc(F:F4 K x qual st f fd)(S:aJ N ps (av st))
 (hb:∀(cB:M') (A:X') (outer:List Env) (s:R') (H:Hp) (vs:ak) (Q:VK) (E:XK),dX k (A.deeper (envOfC qual (av st) s.heap.objs.size f cB))->sp vs H Q E->
  ∃t,CW (nD dO P w K mg base N qual (av st) f cB A outer s H E).KD (dN st) t/\t {nx:=λ_ H' =>Q .bp H',rt:=Q} (start N vs) H)
 (len:∀vs H Q E,sp vs H Q E->vs.length=ps.length:=by intro _ _ _ _ h;repeat (first|(obtain⟨rfl,_⟩:=h;rfl)|obtain⟨_,h⟩:=h)):aT P w K mg base dO (k+1) f fd ps sp:=F.ok S len hb
theorem F4.okN(F:F4 K x qual st f fd)(S:aJ N ps (av st))
 (hb:∀(cB:M') (A:X') (outer:List Env) (s:R') (H:Hp) (vs:ak) (Q:VK) (E:XK),dX k (A.deeper (envOfC qual (av st) s.heap.objs.size f cB))->sp vs H Q E->
  ∃t,DK (nD dO P w K mg base N qual (av st) f cB A outer s H E).KD (dN st) t/\t {nx:=λ_ H' =>Q .bp H',rt:=Q} (start N vs) H)
 (len:∀vs H Q E,sp vs H Q E->vs.length=ps.length:=by intro _ _ _ _ h;repeat (first|(obtain⟨rfl,_⟩:=h;rfl)|obtain⟨_,h⟩:=h)):aT P w K mg base dO (k+1) f fd ps sp:=F.okM S len hb
end
section
variable{X:Cx}{CX:uk}{j k:Nat}{f C:S'}{fd:aad}{ps:au}{sp:Sp}{E:XK}{x m q:Str}{st:Stmt}{p pos apos:Pos}{e o:V'}{es:b7}{ta:TE}{t:TA}
theorem cG(F:aT X.prog X.w X.K X.mg X.base CX j f fd ps sp)(hr:dX k X.A)(I:FI X.K X.mg x st ps f fd)(hx:wf CX X E)(ha:PA X (e::es) t)(hj:j<=k:=by decide)(hg:Gl X x:=by rfl)
 (rW:(x==("__debug__" :Str))=false:=by decide) (he:starEach (e::es) X.env=(false,eval e X.env)::starEach es X.env:=by rfl) (nA:(backTo pos (starEach es X.env)).any (·.1)=false:=by rfl):
 PE X (.Call (.Name x p) (e::es) [] pos) (yf sp [] E t):=JN (F.mono hj) hr hg I.m I.F.kp I.b .nil hx ha rW he nA
theorem afN{pl:Sem Bool}(he:PE X o ta)(c:OU X.K C)(I:MI X.K C m q st ps f fd)(F:aT X.prog X.w X.K X.mg X.base CX j f fd ps sp)(hr:dX k X.A)(hx:wf CX X E)(hj:j<=k:=by decide)
 (ht:eval (.Call (.Attribute o m apos) [] [] pos) X.env=(do
  let ov<-eval o X.env
  standAt apos.atName
  let(f,first)<-holding [ov] (getMethod ov m pl)
  callWith pos f first (backTo pos (starEach [] X.env)) (backToKw pos (keywordEach [] X.env))):=by rfl):
 PE X (.Call (.Attribute o m apos) [] [] pos) (U_ C m sp [] E ta sH):=Nn he c I.t (F.mono hj) hr I.b .nil hx ht
end
section
variable{X:Cx}{pos:Pos}{e a b:V'}{te ta tb:TE}
theorem jE(i:Nat){x:Str}(hN:X.N.Nodup)(hi:X.N[i]? =some x:=by rfl)(hx:Loc X.env.scope x:=by first|exact .inl rfl|exact .inr rfl)(hf:X.fn x=true\/X.env.scope.names.lookup x=some .local:=by first|exact .inl rfl|exact .inr rfl|assumption):PG X (.Name x pos) (vJ i):=QH hN hi hx hf
theorem gf(i:Nat){x:Str}{pos' :Pos}(hN:X.N.Nodup)(he:PE X e te)(hi:X.N[i]? =some x:=by rfl)(hx:Loc X.env.scope x:=by first|exact .inl rfl|exact .inr rfl)(hs:swapsWith e (some (.Name x pos')) pos.line X.env=pure false:=by rfl)
 (hf:X.fn x=true\/X.env.scope.names.lookup x=some .local:=by first|exact .inl rfl|exact .inr rfl|assumption):PS X (.Assign [.Name x pos'] e pos) (Gr te (vJ i)):=MO hN hi hx he hs hf
theorem cS{r:R2}(hr:WZ X r)(ha:PE X a ta)(hb:PE X b tb)(hs:Fc b:=by exact λ_ _=>rfl):PE X (.Subscript a b pos) (wN r ta tb):=UR hr ha hb hs
theorem HG{op:CmpOp}{r:R2}(ho:n6 X (compareOp op) r)(ha:PE X a ta)(hb:PE X b tb)(hm:behindInMarks op b=false:=by first|exact OO _|with_unfolding_all rfl):PE X (.Compare a [op] [b] pos) (wN r ta tb):=P8 ho ha hb hm
theorem wn{op:CmpOp}{r:R2}(ho:n6 X (compareOp op) r)(ha:PE X a ta)(hb:PE X b tb)(hm:behindInMarks op b=false:=by first|exact OO _|with_unfolding_all rfl):PT X (.Compare a [op] [b] pos) (L9 (wN r ta tb)):=QV ho ha hb hm
theorem pfd{f:Str}(he:PE X e te)(hb:attributeBase e f X.env (eval e X.env)=eval e X.env:=by rfl):PE X (.Attribute e f pos) (Zt X.K te f):=WG he hb
theorem aM(ha:PE X e te)(hs:starEach [e] X.env=(false,eval e X.env)::starEach [] X.env:=by rfl):PA X [e] (tG te sH):=ag ha dY hs
end
section
variable{X:Cx}{tg iter elt:V'}{ifs:b7}{scope:Scope}{pos:Pos}{wi:TI}{g:TG}{tt:TT}{te:TE}
theorem Ls(N:au)(k:Nat)(js:List Nat)(hi:PI X tg iter wi)
 (hb:∀(cl:List (Str×S')) (C:S') (s:R') (H:Hp) (fp:cc),PG (gu X N scope cl C s H fp) tg g/\Jj (gu X N scope cl C s H fp) ifs tt/\PE (gu X N scope cl C s H fp) elt te)
 (hc:X.calm=true:=by rfl) (S:o8 X N scope k js:=by exact DH (by kernel_rfl)) (hs:∀x,foldedSetIterable iter X.env x=pure x:=by intro _;rfl):PE X (.ListComp elt [⟨tg,iter,ifs,0⟩] scope pos) (Ki wi k js g tt te):=QI hc S hi hb hs
theorem Il(i:Nat){x:Str}{pos' je:Pos}(hN:X.N.Nodup)(N:au)(k:Nat)(js:List Nat)(hi:PI X tg iter wi)
 (hb:∀(cl:List (Str×S')) (C:S') (s:R') (H:Hp) (fp:cc),PG (gu X N scope cl C s H fp) tg g/\Jj (gu X N scope cl C s H fp) ifs tt/\PE (gu X N scope cl C s H fp) elt te)
 (hi' :X.N[i]? =some x:=by rfl) (hx:Loc X.env.scope x:=by first|exact .inl rfl|exact .inr rfl) (hc:X.calm=true:=by rfl) (S:o8 X N scope k js:=by exact DH (by kernel_rfl))
 (hsw:swapsWith (.ListComp elt [⟨tg,iter,ifs,0⟩] scope je) (some (.Name x pos')) pos.line X.env=pure true:=by rfl)
 (hs:∀x,foldedSetIterable iter X.env x=pure x:=by intro _;rfl) (hf:X.fn x=true\/X.env.scope.names.lookup x=some .local:=by first|exact .inl rfl|exact .inr rfl|assumption):
 PS X (.Assign [.Name x pos'] (.ListComp elt [⟨tg,iter,ifs,0⟩] scope je) pos) (Gr (Ki wi k js g tt te) (vJ i)):=PN hN hi' hx hc S hi hb hsw hs hf
theorem A5{body:List Stmt}{tb:TS}(hi:PI X tg iter wi)(hg:PG X tg g)(hb:CW X body tb)(hp:PassesOwn (model X.prog X.w) X.A X.env X.xe:=by exact PassesOwn.never)(hc:X.calm=true:=by rfl)
 (hs:∀x,foldedSetIterable iter X.env x=pure x:=by intro _;rfl):PS X (.For tg iter body [] pos) (Wy wi g tb):=ND hp hc hi hg hb hs
theorem iR{id:String}{x:Str}{r:ak->Hp->VK->Prop}{e:V'}{es:b7}{t:TA}{p:Pos}(hc:iZ X (.builtin id) r)(hm:X.mg x=none)(hv:bootBuiltins x=some (.builtin id))(ha:PA X (e::es) t)(hg:Gl X x:=by rfl)(hn:x≠ "__name__":=by decide)(rW:(x==("__debug__" :Str))=false:=by decide)
 (he:starEach (e::es) X.env=(false,eval e X.env)::starEach es X.env:=by rfl) (nA:(backTo pos (starEach es X.env)).any (·.1)=false:=by rfl):PE X (.Call (.Name x p) (e::es) [] pos) (tCB r t):=OD hc hg hm hv ha hn rW he nA
theorem NA{T:String}{x:Str}{r:ak->Hp->VK->Prop}{e:V'}{es:b7}{t:TA}{p:Pos}(hc:iZ X (.type T) r)(hm:X.mg x=none)(hv:bootBuiltins x=some (.type T))(ha:PA X (e::es) t)(hg:Gl X x:=by rfl)(hn:x≠ "__name__":=by decide)(rW:(x==("__debug__" :Str))=false:=by decide)
 (he:starEach (e::es) X.env=(false,eval e X.env)::starEach es X.env:=by rfl) (nA:(backTo pos (starEach es X.env)).any (·.1)=false:=by rfl):PE X (.Call (.Name x p) (e::es) [] pos) (tCB r t):=KH hc hg hm hv ha hn rW he nA
end
structure XI(K:Frag)(mg:Str->aO)(x:Str)(C f R:S'):Prop where
 m:mg x=some (.ref C)
 X:M_ K C f
 e:Qt K C
 g:ael K C
 tt:PySem.W.typeIn K (.ref C)=some (.type "type")
 mi:∀D:S',PySem.W.mroIn K C (.ref D)=some (decide (D=C)||decide (D=R))
 ve:PySem.W.mroIn K C (.type "ValueError")=some true
def Exc(H:Hp)(a C:S'):Prop:=∃φ dd n,H a=some (.ext φ)/\(∀h,φ h->eW a C dd n h)/\∀dx,dd=some dx->∃fs,H dx=some (.xd fs)
section
variable{X:Cx}{K:Frag}
theorem Pu{P:Z'}{w:W'}{H:Hp}{h:Y'}{a:S'}{φ:Y'->Prop}(ok:pD P w H h)(e:H a=some (.ext φ)):φ h:=
 (show cu P w H h a (.ext φ) from ok a _ e).1
end
section
variable{X:Cx}{CX:uk}{j k:Nat}{f C R:S'}{fd:aad}{ps:au}{sp:Sp}{E:XK}{x q:Str}{st:Stmt}{p pos:Pos}{e:V'}{es:b7}{t:TA}
theorem RA(M:XI X.K X.mg x C f R)(I:MI X.K C "__init__" q st ps f fd)(F:aT X.prog X.w X.K X.mg X.base dO j f fd ps sp)(hr:dX (k+1) X.A)(ha:PA X (e::es) t)(hj:j<=k:=by decide)(hl:ps.length<=100:=by decide)(hg:Gl X x:=by rfl)
 (rW:(x==("__debug__" :Str))=false:=by decide) (he:starEach (e::es) X.env=(false,eval e X.env)::starEach es X.env:=by rfl) (nA:(backTo pos (starEach es X.env)).any (·.1)=false:=by rfl):
 PE X (.Call (.Name x p) (e::es) [] pos) (Ir C sp E0 t):=Nd M.X (F.mono hj) hr hg M.m I.b aC ha (λ_ _ _ _ h=>by rw[F.len _ _ _ _ h];exact hl) rW he nA
end
section
variable{K:Frag}{nm q:Str}{C N R:S'}{bs:aG}{h:Bool}{sn:au}{sub:aG}{ab:Bool}{col:Option Bool}{dd:Option S'}{k0 k1 k2 k3 k5:aO}{id:String}
theorem ZI(l:K.lookup C=some (excClassObj nm q C N bs [.ref R,.type "ValueError",.type "Exception",.type "BaseException",.type "object"] h sn sub ab col dd k0 k1 k2 k3 k5 id))(D:S'):PySem.W.mroIn K C (.ref D)=some (decide (D=C)||decide (D=R)):=by
 unfold PySem.W.mroIn clsIn;rw[l];show some (List.contains [Value.ref C,Value.ref R,.type "ValueError",.type "Exception",.type "BaseException",.type "object"] (.ref D))=_
 congr 1
 by_cases h1:D=C
 .subst h1;simp
 .by_cases h2:D=R
  .subst h2;simp
  .simp[h1,h2]
theorem WO(l:K.lookup C=some (excClassObj nm q C N bs [.type "ValueError",.type "Exception",.type "BaseException",.type "object"] h sn sub ab col dd k0 k1 k2 k3 k5 id))(D:S'):PySem.W.mroIn K C (.ref D)=some (decide (D=C)||decide (D=C)):=by
 unfold PySem.W.mroIn clsIn;rw[l];show some (List.contains [Value.ref C,.type "ValueError",.type "Exception",.type "BaseException",.type "object"] (.ref D))=_
 congr 1
 by_cases h1:D=C
 .subst h1;simp
 .simp[h1]
end
section
variable{prog:Z'}{w:W'}{A:X'}{E:J'}{h:Y'}{g:Array GenState}{d:Drawn}{t:Nat}{os:OsState}
variable{nm q:Str}{C N:S'}{bs bm:aG}{jf:Bool}{sn:au}{sub:aG}{ab:Bool}{col:Option Bool}{dd:Option S'}{k0 k1 k2 k3 k5:aO}
end
section
variable{X:Cx}{p pos apos:Pos}{e1 e2:V'}{t:TA}
end
section
open Builtin Builtin.Str Builtin.BaseException
variable{prog:Z'}{w:W'}{A:X'}{E:J'}{s:R'}{K:Frag}{x C t0:S'}{ox ot:Obj}{od:Option Obj}{vs:Array M'}{m:Str}{tk:Tok}{n:Nat}
end
section
variable{X:Cx}{K:Frag}
end
noncomputable def kD:wS->U'
 | .inl i=> .int i
 | .inr x=> .str x
mutual
inductive b8 (H:Hp):V->U'->Prop
 |bp:b8 H .bp .none
 |bl (b:Bool):b8 H (.bl b) (.bool b)
 |int (i:Int):b8 H (.int i) (.int i)
 |str (x:Str):b8 H (.str x) (.str x)
 |lst {a:S'} {xs:ak} {ds:List U'} (e:H a=some (.lst xs)) (h:bj H xs ds):b8 H (.ref a) (.list ds)
 |tup {a:S'} {xs:ak} {ds:List U'} (e:H a=some (.tup xs)) (h:bj H xs ds):b8 H (.ref a) (.tuple ds)
 |Co {a:S'} {kvs:eI} {D:List (U'×U')} (e:H a=some (.dK kvs)) (hk:D.map (·.1)=kvs.map λp=>kD p.1) (h:bj H (kvs.map (·.2)) (D.map (·.2))):b8 H (.ref a) (.dict D)
inductive bj (H:Hp):ak->List U'->Prop
 |nil:bj H [] []
 |cons {x:V} {xs:ak} {d:U'} {ds:List U'} (h:b8 H x d) (t:bj H xs ds):bj H (x::xs) (d::ds)
end
mutual
theorem b8.same{H H' :Hp}(s:ah H H'):∀{v:V} {d:U'},b8 H v d->b8 H' v d
 |_,_,.bp=> .bp
 |_,_,.bl b=> .bl b
 |_,_,.int i=> .int i
 |_,_,.str x=> .str x
 |_,_,.lst e h=> .lst (s _ _ e) (bj.same s h)
 |_,_,.tup e h=> .tup (s _ _ e) (bj.same s h)
 |_,_,.Co e hk h=> .Co (s _ _ e) hk (bj.same s h)
theorem bj.same{H H' :Hp}(s:ah H H'):∀{xs:ak} {ds:List U'},bj H xs ds->bj H' xs ds
 |_,_,.nil=> .nil
 |_,_,.cons h t=> .cons (b8.same s h) (bj.same s t)
end
theorem KW{P:Z'}{w:W'}(h:Y'){es:List DictEntry}{vs:List (wS×M')}(a:Pairs (cW P w) es vs):∀{kvs:eI},KV kvs vs->ReadsAll h (es.map (·.key)) (kvs.map λp=>kD p.1) []:=by
 induction a with
 |nil=>
  intro kvs u;cases u;exact .nil
 | @cons e q es vs hi hv t ih=>
  intro kvs u
  cases u with
  | @cons p _ _ _ r u=>
   have hi:yD q.1 e.key=true:=hi;rw[<-r.1] at hi;show ReadsAll h (e.key::_) (kD p.1::_) ([]++[]);refine .cons ?_ (ih u);rcases dQ hi with⟨i,t,e1,e2⟩|⟨x,t,e1,e2⟩
   .rw[e1,e2];exact .int i t
   .rw[e1,e2];exact .str x t
theorem CI{P:Z'}{w:W'}:∀{es:List DictEntry} {vs:List (wS×M')} {kvs:eI},Pairs (cW P w) es vs->KV kvs vs->Vals (kvs.map (·.2)) (es.map (·.val))
 |_,_,_,.nil,.nil=> .nil
 |_,_,_,.cons _ hv t,.cons r u=> .cons (by show RelV _ (DictEntry.val _);rw[hv];exact r.2) (CI t u)
mutual
theorem b8.reads{P:Z'}{w:W'}{H:Hp}{h:Y'}(ok:pD P w H h)(sm:∀a o,h.get? a=some o->o.cls= .type "list" ->sysModules≠a):∀{v:V} {d:U'} {u:M'},b8 H v d->RelV v u->∃as,Reads h u d as/\sysModules∉as
 |_,_,_,.bp,r=>by cases r;exact⟨_,.none,by simp⟩
 |_,_,_,.bl b,r=>by cases r;exact⟨_,.bool b,by simp⟩
 |_,_,_,.int i,r=>by obtain⟨t,rfl⟩:=r;exact⟨_,.int i t,by simp⟩
 |_,_,_,.str x,r=>by obtain⟨t,rfl⟩:=r;exact⟨_,.str x t,by simp⟩
 |_,_,_,.lst e hd,r=>by
  cases r;obtain⟨z,its,n,rv,ho⟩:=(show cu P w H h _ (.lst _) from ok _ _ e);obtain⟨as,q,na⟩:=bj.reads ok sm hd rv
  exact⟨_,.list ho Z Z (by simpa using q),λhm=>by
   rcases aP.mp hm with hm|hm
   .exact sm _ _ ho Z hm
   .exact na hm⟩
 |_,_,_,.tup e hd,r=>by
  cases r;obtain⟨z,its,rv,o,ho,hc,n,ZJ⟩:=(show cu P w H h _ (.tup _) from ok _ _ e);obtain⟨as,q,na⟩:=bj.reads ok sm hd rv;exact⟨_,.tuple ho hc ZJ (by simpa using q),na⟩
 |_,_,_,.Co (a:=a) e hk hd,r=>by
  cases r;obtain⟨z',ym,vs,kv,od,es,ep,hod,ex,hde,ko,pr,nd⟩:=Vk ok e;obtain⟨as,q,na⟩:=bj.reads ok sm hd (CI pr kv);refine⟨_,.dict hod ex.1 hde (by rw[hk];exact KW h pr kv) q,λhm=> ?_⟩;have hm:sysModules=a\/sysModules∈as:=by simpa using hm
  rcases hm with hm|hm
  .rw[<-hm] at ym;simp at ym
  .exact na hm
theorem bj.reads{P:Z'}{w:W'}{H:Hp}{h:Y'}(ok:pD P w H h)(sm:∀a o,h.get? a=some o->o.cls= .type "list" ->sysModules≠a):∀{xs:ak} {ds:List U'} {us:aG},bj H xs ds->Vals xs us->∃as,ReadsAll h us ds as/\sysModules∉as
 |_,_,_,.nil,.nil=>⟨_,.nil,by simp⟩
 |_,_,_,.cons hd t,.cons r rr=>by
  obtain⟨as,q,n1⟩:=b8.reads ok sm hd r;obtain⟨bs,q',n2⟩:=bj.reads ok sm t rr
  exact⟨_,.cons q q',λhm=>by
   rcases eB.mp hm with hm|hm
   .exact n1 hm
   .exact n2 hm⟩
end
theorem gq(hg:X.A.guards=some [])(hu:X.A.units+100<cLine)(sm:∃o,X.K.lookup sysModules=some o/\o.cls= .type "dict"):iZ X (.builtin "repr") (λxs H Q=>∃v d,xs=[v]/\b8 H v d/\d.showable=true/\d.depth<=90/\d.shown.length<=sizeLine/\Q (.str d.shown) H):=by
 intro ad s σ H xs us Q I r h;obtain⟨v,d,rfl,hd,hs,hdp,hz,q⟩:=h;obtain⟨u,rfl,ru⟩:=Wp r;obtain⟨om,lm,cm⟩:=sm
 have sm:∀a o,s.heap.get? a=some o->o.cls= .type "list" ->sysModules≠a:=λa o e c z=>by
  rw[<-z,I.jO _ _ lm] at e;cases e;rw[cm] at c;exact absurd c (by decide)
 have flat:∀{h' :Y'} {tk:Nat} (t:Tok),(∀b o,s.heap.get? b=some o->h'.get? b=some o)->EP X ad σ Q (.str d.shown t) {s with heap:=h',toks:=tk}:=λ{h' tk} t k=>⟨.str d.shown,H,I.kept k,⟨t,Z⟩,q⟩;obtain⟨as,rd,na⟩:=hd.reads I.bS sm ru
 cases hd with
 |bp=>cases ru;exact PySem.P.repr_of_none (flat _ λ_ _ e=>e)
 |bl b=>cases ru;exact PySem.P.repr_of_bool (by have:=flat (h' :=s.heap) (tk:=s.toks+1) s.toks λ_ _ e=>e;simpa only[PyData.shown] using this)
 |int i=>
  obtain⟨t,rfl⟩:=ru;have hs' :i.natAbs.log2<1920:=by simpa[PyData.showable] using hs
  exact PySem.P.repr_of_int hs' (by have:=flat (h' :=s.heap) (tk:=s.toks+1) s.toks λ_ _ e=>e;simpa only[PyData.shown] using this)
 |str x=>
  obtain⟨t,rfl⟩:=ru;refine PySem.P.repr_of_str (by have:=flat (h' :=s.heap) (tk:=s.toks+1) s.toks λ_ _ e=>e;simpa only[PyData.shown] using this) (by simpa only[PyData.shown] using hz)
 |lst e hx=>cases ru;exact repr_of_reads' rd hs (λ_=>na) hg (by lia) (λ_ _ e=>e) (λh' t tk k=>flat t k) hz
 |tup e hx=>cases ru;exact repr_of_reads' rd hs (λ_=>na) hg (by lia) (λ_ _ e=>e) (λh' t tk k=>flat t k) hz
 |Co e hk hx=>cases ru;exact repr_of_reads' rd hs (λ_=>na) hg (by lia) (λ_ _ e=>e) (λh' t tk k=>flat t k) hz
noncomputable def J8(CX:uk)(P:Z')(w:W')(K:Frag)(mg:Str->aO)(base:Y')(N:au)(qual:Str)(scope:Scope)(f:S')(cd:M')(cl:List (Str×S'))(A:X')(outer:List Env)(s:R')(H:Hp)(E:XK):Cx where
 prog:=P
 w:=w
 K:=K
 mg:=mg
 base:=base
 A:=A.deeper (envX qual scope s.heap.objs.size f cd cl)
 N:=N
 fO:=s
 H₀:=H
 env:=envX qual scope s.heap.objs.size f cd cl
 outer:=outer
 stack:=envX qual scope s.heap.objs.size f cd cl::outer
 ex:=[]
 calm:=true
 fn:=λ_=>false
 pn:=[]
 xe:=λe s' =>wpAny (model P w) (A.deeper (envX qual scope s.heap.objs.size f cd cl)) (leaving (envX qual scope s.heap.objs.size f cd cl) e) (λ_ N3 =>CX outer H s E e N3) (λe' N3 =>CX outer H s E e' N3) s'
structure rP(ps fr:au)(sc:Scope):Prop where
 kind:sc.kind= .function
 co:sc.isCoroutine=false
 gen:sc.isGenerator=false
 nd:(ps++fr).Nodup
 par:∀x∈ps,sc.names.lookup x=some .local
 fre:∀x∈fr,sc.names.lookup x=some .free
 Ol:∀y∈sc.names,y.2≠.cell
 all:∀x,sc.names.lookup x=some .free->x∈fr
structure Au(base:Y')(cl:List (Str×S'))(fr:au)(kj:ak):Prop where
 len:kj.length=fr.length
 at_:∀(i:Nat) x v,fr[i]? =some x->kj[i]? =some v->∃c u,cl.lookup x=some c/\base.IsCell c (some u)/\RelV v u
 inj:∀x y c,cl.lookup x=some c->cl.lookup y=some c->x=y
 sub:∀x c,cl.lookup x=some c->x∈fr
theorem AL{ps:au}(nd:ps.Nodup){us:aG}(hl:ps.length=us.length){i:Nat}{x:Str}{u:M'}(h1:ps[i]? =some x)(h2:us[i]? =some u):(ps.zip us).reverse.lookup x=some u:=by
 have hm:(x,u)∈ps.zip us:=bE (i:=i) (by rw[List.getElem?_zip_eq_some];exact⟨h1,h2⟩)
 have key:∀{l:List (Str×M')},(l.map (·.1)).Nodup->(x,u)∈l->l.lookup x=some u:=by
  intro l
  induction l with
  |nil=>intro _ h;cases h
  |cons p r ih=>
   intro n h;rw[cL,vg] at n;obtain⟨a,b⟩:=p;rcases aP.mp h with h|h
   .cases h;simp
   .have:x≠a:=λz=>n.1 (by rw[<-z];exact List.mem_map_of_mem (f:=(·.1)) h);rw[iD];rw[show(x==a)=false from rY.mpr this];exact ih n.2 h
 refine key ?_ (List.mem_reverse.mpr hm);rw[List.map_reverse,List.map_fst_zip (by lia)];exact List.pairwise_reverse.mpr (nd.imp λh=>h.symm)
theorem Pr{CX:uk}{P:Z'}{w:W'}{K:Frag}{mg:Str->aO}{base:Y'}{ps fr:au}{qual:Str}{scope:Scope}{f:S'}{cd:M'}{cl:List (Str×S')}{A:X'}{outer:List Env}{s:R'}{h1:Y'}{H:Hp}{E:XK}{us:aG}{vs kj:ak}{tk:Nat}
 (S:rP ps fr scope) (C:Au base cl fr kj) (hd:A.handled=none) (e0:Ci P w K mg base A outer s H) (hl:vs.length=ps.length) (r:Vals vs us)
 (ns:h1.Ns s.heap.objs.size (λx=>(ps.zip us).reverse.lookup x)) (sb:Heap.SameBut s.heap.objs.size (s.heap.push {cls:= .type "frame",data:= .dict #[]}) h1):
 Inv (J8 CX P w K mg base (ps++fr) qual scope f cd cl A outer s H E) [] (vs.map some++kj.map some) H {s with heap:=h1,toks:=tk}:=by
 have hul:=r.length;have hk:∀b o,s.heap.get? b=some o->h1.get? b=some o:=λb o e=>sb.extBut b o (cJ (a_ e)) (bq _ e);have PU:∀b:S',b∉(J8 CX P w K mg base (ps++fr) qual scope f cd cl A outer s H E).ex:=λb z=>absurd (show b∈([]:cc) from z) (by simp)
 have YV:∀x c,cl.lookup x=some c->∃v,base.IsCell c v:=λx c e=>by
  have hx:=C.sub x c e;obtain⟨i,hi,rfl⟩:=List.mem_iff_getElem.mp hx;obtain⟨c',u,e',ic,_⟩:=C.at_ i fr[i] (kj[i]'(by rw[C.len];exact hi)) (by simp) (by simp);rw[e] at e';cases e';exact⟨_,ic⟩
 have kc:∀{c:S'} {v:aO},base.IsCell c v->h1.IsCell c v/\H c=none:=λ{c v} ⟨o,ho,ZJ⟩=>⟨⟨o,hk _ _ (e0.bs _ _ ho).1,ZJ⟩,(e0.bs _ _ ho).2⟩
 refine⟨⟨e0.mod,S.kind,Z,Z,aK _,λy z c h1 h2=>C.inj y z c h1 h2,λy hy=> ?_,λy c h=>(nomatch h),λ_=>hd,Around.frames_deeper e0.frames,.inr ⟨Z,Z⟩,λb z=>absurd z (PU b),e0.bs,e0.Kv,λb _ _=>PU b,λb z=>absurd z (PU b),e0.sF,e0.O8⟩,
  rfl,e0.bare,Un.kept hk,⟨_,ns,λi y v e1 e2 e3=> ?_⟩,λy c h=> ?_,e0.bS.fresh (aK _),λy c h=> ?_,λp hp=>absurd (show p∈([]:aQ) from hp) (by simp),e0.bS.kept hk,?_⟩
 .have hy:scope.names.lookup y=some .cell\/scope.names.lookup y=some .free:=hy;rcases hy with hy|hy
  .exact absurd Z (S.Ol _ (i' hy))
  .have hx:=S.all y hy;obtain⟨i,hi,rfl⟩:=List.mem_iff_getElem.mp hx;obtain⟨c',u,e',_⟩:=C.at_ i fr[i] (kj[i]'(by rw[C.len];exact hi)) (by simp) (by simp);exact⟨c',e'⟩
 .have e1:(ps++fr)[i]? =some y:=e1;by_cases hi:i<ps.length
  .rw[iy hi] at e1;rw[iy (by rw[a6];lia),bY] at e2;obtain⟨v',ev,z⟩:=Ee.mp e2;cases z;obtain⟨u,hu,rv⟩:=r.get ev;exact⟨u,rv,.inl ⟨S.par y (bE e1),AL (S.nd.sublist (List.sublist_append_left _ _)) (by lia) e1 hu⟩⟩
  .rw[kr (by lia)] at e1;rw[kr (by rw[a6];lia),a6,hl,bY] at e2;obtain⟨v',ev,z⟩:=Ee.mp e2;cases z;obtain⟨c,u,ec,ic,rv⟩:=C.at_ _ y _ e1 ev;exact⟨u,rv,.inr ⟨.inr (S.fre y (bE e1)),c,ec,(kc ic).1⟩⟩
 .obtain⟨v,ic⟩:=YV y c h;exact⟨v,(kc ic).1⟩
 .obtain⟨v,ic⟩:=YV y c h;exact(kc ic).2
 .show _=(ps++fr).length;rw[bu,bu,a6,a6,hl,C.len]
theorem Of{CX:uk}{P:Z'}{w:W'}{K:Frag}{mg:Str->aO}{base:Y'}{k:Nat}{f:S'}{name qual:Str}{params:Arguments}{body:V'}{scope:Scope}{pm cB ct oc:M'}{od:Option S'}
 {xC:Array (aO)} {cl:List (Str×S')} {ps fr:au} {kj:ak} {sp:Sp} (lk:base.get? f=some ⟨oc,od,.func (kla_fn name qual params body scope cl pm cB ct),xC⟩) (S:rP ps fr scope) (C:Au base cl fr kj)
 (len:∀vs H Q E,sp vs H Q E->vs.length=ps.length) (AO:∀vs H Q E h,sp vs H Q E->pD P w H h->(∀b o,base.get? b=some o->h.get? b=some o)->h.CodeRec cB qual)
 (iF:∀(A:X') (outer:List Env) (s:R') (H:Hp) (vs:ak) (Q:VK) (E:XK),dX k (A.deeper (envX qual scope s.heap.objs.size f cB cl))->sp vs H Q E->
  ∃t,PE (J8 CX P w K mg base (ps++fr) qual scope f cB cl A outer s H E) body t/\t (vs.map some++kj.map some) H Q):
 aT P w K mg base CX (k+1) f (kla_fn name qual params body scope cl pm cB ct) ps sp:=by
 refine⟨len,λA outer s H args us vs Q E hr e0 hb r CY=> ?_⟩;have hl:=len _ _ _ _ CY;have lim:s.heap.NoLimit:=e0.mod.nolimit.keeps λb o e=>(e0.bs b o e).1;have IY:∀y∈ps.zip us,scope.names.lookup y.1=some .local:=λ⟨n,v⟩ hy=>S.par n (zW hy).1;refine PySem.W.kla_callFunE hr.depth (e0.bs _ _ lk).1 Z S.co S.gen Z (AO vs H Q E s.heap CY e0.bS λb o e=>(e0.bs b o e).1) (hb _ _ _ _ ?_);refine wpAny_newFunctionEnv S.Ol IY (λh1 Qp hsb=>⟨lim.fresh _ hsb,?_⟩) S.kind;show codeAny _ _ (.expr body (envX qual scope s.heap.objs.size f cB cl)) _ _;obtain⟨t,ht,hq⟩:=iF A outer s H vs Q E (hr.deeper _) CY;have I:=Pr (CX:=CX) (qual:=qual) (f:=f) (cd:=cB) (E:=E) (tk:=s.toks+(ps.zip us).length) S C hr.hd e0 hl r Qp hsb;refine PySem.W.kla_codeExpr (fV (ht [] _ _ H _ I hq) (λu s' hs=> ?_) λe s' hs=>hs);obtain⟨v,H',J,rv,q⟩:=hs;exact⟨v,H',J.os,J.bare,J.base,J.bS,rv,q⟩
def i4(c:S')(q:Str)(h:Y'):Prop:=∃o vs t,h.get? c=some o/\o.data= .fields vs/\vs[1]? =some (.str q t)
theorem MB{P:Z'}{w:W'}{H:Hp}{h:Y'}{c:S'}{q:Str}(p:i4 c q h):cu P w H h c (.ext (i4 c q)):=by
 obtain⟨o,vs,t,e,r⟩:=p;exact⟨⟨o,vs,t,e,r⟩,⟨o,e⟩,λh1 h2 ⟨o,vs,t,e1,r1⟩ k=>⟨o,vs,t,k _ e1,r1⟩⟩
theorem i4.rec{P:Z'}{w:W'}{H:Hp}{h:Y'}{c:S'}{q:Str}(ok:pD P w H h)(e:H c=some (.ext (i4 c q))):h.CodeRec (.ref c) q:=by
 obtain⟨o,vs,t,e1,r⟩:=(Pu ok e:i4 c q h);exact⟨c,o,vs,t,Z,e1,r⟩
section
variable{X:Cx}{ad:aQ}{σ:St}{H:Hp}{s:R'}{E:J'}{c P:S'}{ps:Array M'}
theorem Inv.lam{h' :Y'}{t' :Nat}{more:Array M'}{c' :S'}{q:Str}{o:Obj}(I:Inv X ad σ H s)(eP:H P=some (.vB ps))(hx:∀b o,b≠P->s.heap.get? b=some o->h'.get? b=some o)
 (hP:h'.get? P=some {cls:= .none,data:= .fields (ps++more)}) (hc:s.heap.objs.size<=c') (hcp:i4 c' q h'):
 Inv X ad σ (upd (upd H P (.vB (ps++more))) c' (.ext (i4 c' q))) {s with heap:=h'.push o,toks:=t'}:=by
 have nP:∀b,H b=none->b≠P:=λb n z=>by rw[z,eP] at n;cases n
 have nc:∀b o,s.heap.get? b=some o->b≠c' :=λb o e z=>absurd (cP (a_ e) (z▸hc)) (cA _);have hc0:H c' =none:=I.bS.fresh hc;have nH:∀b u,H b=some u->b≠c' :=λb u e z=>by rw[z,hc0] at e;cases e
 have kp:∀b o',b≠P->s.heap.get? b=some o'->(h'.push o).get? b=some o' :=λb o' n e=>bq _ (hx b o' n e);have hPp:(h'.push o).get? P=some {cls:= .none,data:= .fields (ps++more)}:=bq _ hP
 refine I.step (g' :=s.gens) (d' :=s.drawn) (ch:=[]) (λ_ z=>nomatch z) (λb o' _ _ _ e n=>kp b o' (nP b n) e) (λb o' _ _ _ e n=>⟨o'.slots,kp b o' (nP b n) e⟩) (λb o' _ e n=>by rw[az (nc b o' e),az (nP b n)];exact n)
  (λb o' _ e=> ?_) (λb xs e=> ?_) (λb o' u e=> ?_) (λb Kx e=> ?_) (λm hm=> ?_) (λb u e=> ?_) I.bare
 .by_cases hb:b=P
  .rw[hb];exact⟨_,hPp⟩
  .exact⟨o',kp b o' hb e⟩
 .rw[az (nH b _ e),az (λz=>by rw[z,eP] at e;cases e)];exact e
 .rw[az (nH b _ e),az (λz=>by rw[z,eP] at e;cases e)];exact e
 .by_cases hb:b=P
  .subst hb;rw[eP] at e;cases e;exact⟨more,by rw[az (nH b _ eP),af]⟩
  .exact⟨#[],by rw[az (nH b _ e),az hb,e];simp⟩
 .obtain⟨o',es,ep,e,r⟩:=hm;exact⟨o',es,ep,kp _ o' (nP _ I.free) e,r⟩
 .by_cases hb:b=c'
  .subst hb;rw[af] at e;cases e;obtain⟨o',vs,t,e1,r⟩:=hcp;exact MB ⟨o',vs,t,bq _ e1,r⟩
  .rw[az hb] at e;by_cases uP:b=P
   .subst uP;rw[af] at e;cases e;exact hPp
   .rw[az uP] at e;refine(I.bS b u e).Ae (λb' v wL e' =>kp b' v ?_ e') (λb' q' => ?_) λb' ys q' => ?_
    .rcases wL with z|z
     .rw[z];exact uP
     .exact λz' =>by rw[z',eP] at z;cases z
    .rw[az (nH b' _ q'),az (λz=>by rw[z,eP] at q';cases q')];exact q'
    .rw[az (nH b' _ q'),az (λz=>by rw[z,eP] at q';cases q')];exact q'
structure rG(X:Cx)(c P:S'):Prop where
 code:X.env.code= .ref c
 hd:CodeHd X.base c P
structure wY(X:Cx):Prop where
 at_:∃bm o,X.mg "__builtins__"=some (.ref bm)/\bm≠builtinsNs/\bm≠mainGlobals/\X.base.get? bm=some o/\o.cls= .type "module" /\o.dict=some builtinsNs/\o.data= .plain
variable{params:Arguments}{body:V'}{scope:Scope}{pos:Pos}{l4:List (Str×S')}{Q:J'}
noncomputable abbrev uD(X:Cx)(params:Arguments)(body:V')(scope:Scope)(l4:List (Str×S'))(c' :S')(wU:M'):Obj:=PySem.W.kla_obj "<lambda>" (X.env.qual++ "<lambda>") params body scope l4 ((X.mg "__name__").getD .none) c' wU
theorem WR(I:Inv X ad σ H s)(T:rG X c P)(B:wY X)(Ck:defaultsOf params X.env=([],[]))(TZ:closureFor scope X.env=pure l4)(eP:H P=some (.vB ps))(ht:TriplesOk ps.toList)(hn:codeAmong pos ps.toList=none)
 (h:∀f c' wU s',H f=none->H c' =none->f≠c'->s.heap.objs.size<=f->Inv X ad σ (upd (upd H P (.vB (ps++ #[rawInt pos.line,rawInt pos.col,.ref c']))) c' (.ext (i4 c' (X.env.qual++ "<lambda>")))) s'->s'.heap.get? f=some (uD X params body scope l4 c' wU)->
  (∀b o,b≠P->s.heap.get? b=some o->s'.heap.get? b=some o)->Q (.ref f) s'):wpAny (model X.prog X.w) X.A (eval (.Lambda params body scope pos) X.env) Q E s:=by
 have hP:s.heap.get? P=some (tabObj ps):=I.bS P _ eP;obtain⟨bm,ob,b1,b2,b3,b4,b5⟩:=B.at_
 have hgP:mainGlobals≠P:=λz=>by
  obtain⟨o,es,ep,e,r⟩:=I.mod.glob;have:=(I.bs _ _ e).2;rw[z,eP] at this;cases this
 have hbP:bm≠P:=λz=>by
  have:=(I.bs _ _ b4).2;rw[z,eP] at this;cases this
 refine kla_eval Ck (PySem.W.kla_makeFunction (mg:=X.mg) TZ I.ok.glob (I.mod.glob.keeps I.bk) T.code (T.hd.keeps I.bk) hP ht hn hgP ⟨bm,ob,b1,b2,b3,hbP,(I.bs _ _ b4).1,b5⟩ λc' wU h' tk hx hge kG afK Ll=> ?_);obtain⟨c2,oc,vs,t,e2,hoc,hd,hv⟩:=afK;cases e2;have ql:s.heap.objs.size<=h'.objs.size:=aU hge (cT kG);refine h h'.objs.size c' wU _ (I.bS.fresh ql) (I.bS.fresh hge) (jD kG) ql (I.lam eP (λb o n e=>hx b o n e) Ll hge ⟨oc,vs,t,hoc,hd,hv⟩) (cV _ Z) λb o n e=>bq _ (hx b o n e)
theorem Kw{c' :S'}(I:Inv X ad σ H s)(T:rG X c P)(B:wY X)(Ck:defaultsOf params X.env=([],[]))(TZ:closureFor scope X.env=pure l4)(eP:H P=some (.vB ps))(ht:TriplesOk ps.toList)(hf:codeAmong pos ps.toList=some (.ref c'))
 (h:∀f wU s',H f=none->s.heap.objs.size<=f->Inv X ad σ H s'->s'.heap.get? f=some (uD X params body scope l4 c' wU)->
  (∀b o,s.heap.get? b=some o->s'.heap.get? b=some o)->Q (.ref f) s'):wpAny (model X.prog X.w) X.A (eval (.Lambda params body scope pos) X.env) Q E s:=by
 have hP:s.heap.get? P=some (tabObj ps):=I.bS P _ eP;obtain⟨bm,ob,b1,b2,b3,b4,b5⟩:=B.at_
 have hbP:bm≠P:=λz=>by
  have:=(I.bs _ _ b4).2;rw[z,eP] at this;cases this
 refine kla_eval Ck (PySem.W.kla_makeFunctionHit (mg:=X.mg) TZ I.ok.glob (I.mod.glob.keeps I.bk) T.code (T.hd.keeps I.bk) hP ht hf ⟨bm,ob,b1,b2,b3,hbP,(I.bs _ _ b4).1,b5⟩ λwU h' tk hk ql=> ?_);have Vt :∀b o,s.heap.get? b=some o->(h'.push (uD X params body scope l4 c' wU)).get? b=some o:=λb o e=>bq _ (hk b o e);exact h h'.objs.size wU _ (I.bS.fresh ql) ql (I.kept Vt) (cV _ Z) Vt
end
noncomputable def Aw(base:Y')(xs:cc):Hp:=λb=>if(base.get? b).isSome=true\/b∈xs then none else some (.vB #[])
theorem IE{base:Y'}{xs:cc}{b:S'}{o:Obj}(e:base.get? b=some o):Aw base xs b=none:=by
 unfold Aw;rw[aB (.inl (by rw[e];rfl))]
theorem Lk{base:Y'}{xs:cc}{b:S'}(e:b∈xs):Aw base xs b=none:=by
 unfold Aw;rw[aB (.inr e)]
theorem Bh{base:Y'}{xs:cc}{b:S'}(e:Aw base xs b=none):(∃o,base.get? b=some o)\/b∈xs:=by
 unfold Aw at e
 split at e
 .rename_i h;rcases h with h|h
  .exact .inl (Option.isSome_iff_exists.mp h)
  .exact .inr h
 .cases e
section
variable{X:Cx}{ad:aQ}{σ:St}{H:Hp}{s:R'}{xs:cc}
noncomputable abbrev yb(X:Cx)(s:R')(xs:cc):Y':=Cf s.heap (Aw X.base xs)
theorem KJ(I:Inv X ad σ H s){b:S'}{o:Obj}(e:X.base.get? b=some o):(yb X s xs).get? b=some o:=AU (I.bs b o e).1 (IE e)
theorem C7{b:S'}{o:Obj}(hb:b∈xs)(e:s.heap.get? b=some o):(yb X s xs).get? b=some o:=AU e (Lk hb)
theorem Inv.Z0(I:Inv X ad σ H s)(hH:∀b∈xs,H b=none)(hF:∀b∈xs,b∉Cb X.stack):Ci X.prog X.w X.K X.mg (yb X s xs) X.A X.stack s H:=by
 have up:∀b o,X.base.get? b=some o->(yb X s xs).get? b=some o:=λb o e=>KJ I e;obtain⟨mb,h1,h2⟩:=I.mod.blt;refine⟨I.ok.frames,⟨I.mod.xp.keeps up,I.mod.glob.keeps up,⟨mb,h1.keeps up,h2⟩,I.mod.nolimit.keeps up⟩,λb o e=> ?_,oF (Du _ _),?_,I.vw,I.bS,I.bare⟩
 .obtain⟨e1,e2⟩:=ED e;refine⟨e1,?_⟩;rcases Bh e2 with⟨o',e3⟩|e3
  .exact(I.bs b o' e3).2
  .exact hH b e3
 .have all:∀(l:List Env),(∀b∈Cb l,b∈Cb X.stack)->s.heap.FunFrames X.base l->s.heap.FunFrames (yb X s xs) l:=by
   intro l
   induction l with
   |nil=>intro _ _;trivial
   |cons env r ih=>
    intro hs hl;obtain⟨hk,⟨L,o,hf,hn,ho,hd⟩,hr⟩:=hl;refine⟨hk,⟨L,o,hf,?_,ho,hd⟩,ih (λb hb=>hs b (by unfold Cb;rw[oS,hf];exact cw _ hb)) hr⟩
    cases q:(yb X s xs).get? L with
    |none=>rfl
    |some o' =>
     obtain⟨_,e2⟩:=ED q;rcases Bh e2 with⟨o',e3⟩|e3
     .rw[hn] at e3;cases e3
     .exact absurd (hs L (by unfold Cb;rw[oS,hf];exact c5)) (hF L e3)
  exact all X.stack (λ_ h=>h) I.stack
end
theorem PR{X:Cx}{ad:aQ}{σ:St}{H:Hp}{s:R'}{xs:cc}{CX:uk}{k:Nat}{f:S'}{fd:aad}{ps:au}{sp:Sp}{E:XK}{Q:VK}{us ds:aG}{vs dvs:ak}(F:aT X.prog X.w X.K X.mg (yb X s xs) CX k f fd ps sp)(hr:dX k X.A)(hb:Binds X.K fd ps ds)(hd:Vals dvs ds)
 (hx:wf CX X E) (I:Inv X ad σ H s) (hH:∀b∈xs,H b=none) (hF:∀b∈xs,b∉Cb X.stack) (r:Vals vs us) (h:sp (vs++dvs) H Q E):wpAny (model X.prog X.w) X.A (call (.ref f) us) (EP X ad σ Q) X.xe s:=by
 have hl:(us++ds).length=ps.length:=by rw[<-(r.append hd).length];exact F.len _ _ _ _ h
 have hbb:=hb s us I.jO hl;refine oC (sf (F.run X.A X.stack s H ⟨us,[]⟩ (us++ds) (vs++dvs) Q E hr (I.Z0 hH hF) hbb (r.append hd) h) λr s' hq=> ?_)
 cases r with
 |error e=>exact hx ad σ H s e s' I hq
 |ok fl=>
  cases fl with
  |ret u=>exact I.after hq
  |next=>exact False.elim hq
  |brk=>exact False.elim hq
  |cont=>exact False.elim hq
section
variable{X:Cx}{CX:uk}{j k:Nat}{f:S'}{fd QO :aad}{ps:au}{sp:Sp}{E:XK}{x:Str}{p pos:Pos}{e:V'}{es:b7}{te:TE}{t:TA}
def NO(f:S')(sp:Sp)(E:XK)(te:TE)(t:TA):TE:=λσ H Q=>te σ H λv H1=>v= .ref f/\t σ H1 λvs H2=>sp vs H2 Q E
theorem OM(F:aT X.prog X.w X.K X.mg X.base CX j f fd ps sp)(hf:∃oc od sl,X.base.get? f=some ⟨oc,od,.func QO,sl⟩)(hr:dX k X.A)(hb:Binds X.K fd ps [])(hx:wf CX X E)(hn:PE X (.Name x p) te)(ha:PA X (e::es) t)(hj:j<=k:=by decide)
 (he:starEach (e::es) X.env=(false,eval e X.env)::starEach es X.env:=by rfl) (nA:(backTo pos (starEach es X.env)).any (·.1)=false:=by rfl):
 PE X (.Call (.Name x p) (e::es) [] pos) (NO f sp E te t):=by
 intro ad s σ H Q I h;obtain⟨oc,od,sl,lk⟩:=hf;refine lV (dk (hn ad s σ H _ I h) λu s1 ⟨v,H1,I1,rv,ev,q⟩=> ?_);subst ev;cases rv;refine PySem.W.callWith_F ⟨oc,od,QO,sl,I1.bk _ _ lk⟩ (dk (ha pos ad s1 σ H1 _ I1 q) λus s2 ⟨vs,H2,I2,r,q2⟩=>⟨⟨oc,od,QO,sl,I2.bk _ _ lk⟩,?_⟩) he nA;have:=wZ (dvs:=[]) (ds:=[]) (F.mono hj) hr hb .nil hx I2 r (by rw[fJ];exact q2);exact this
theorem KR(F:aT X.prog X.w X.K X.mg X.base CX j f fd ps sp)(hf:∃oc od sl,X.base.get? f=some ⟨oc,od,.func QO,sl⟩)(hr:dX k X.A)(hb:Binds X.K fd ps [])(hx:wf CX X E)(hn:PE X (.Name x p) te)(hj:j<=k:=by decide):
 PE X (.Call (.Name x p) [] [] pos) (NO f sp E te sH):=by
 intro ad s σ H Q I h;obtain⟨oc,od,sl,lk⟩:=hf;refine lV (dk (hn ad s σ H _ I h) λu s1 ⟨v,H1,I1,rv,ev,q⟩=> ?_);subst ev;cases rv;exact PySem.W.callWith_F0 ⟨oc,od,QO,sl,I1.bk _ _ lk⟩ (wZ (us:=[]) (dvs:=[]) (ds:=[]) (F.mono hj) hr hb .nil hx I1 .nil q)
end
structure uB(X:Cx)(scope:Scope)(l4:List (Str×S'))(fr:au)(js:List Nat):Prop where
 cl:closureFor scope X.env=pure l4
 len:js.length=fr.length
 slot:∀(i j:Nat) x,js[i]? =some j->fr[i]? =some x->X.N[j]? =some x
 kind:∀x∈fr,X.env.kindOf x=some .cell
 fn:∀x∈fr,X.fn x=true
 yP:∀x∈fr,l4.lookup x=X.env.cells.lookup x
 sub:∀x c,l4.lookup x=some c->x∈fr
theorem uB.none{X:Cx}{scope:Scope}(h:closureFor scope X.env=pure []):uB X scope [] [] []:=
 ⟨h,Z,λi j x e=>by simp at e,λx h=>(nomatch h),λx h=>(nomatch h),λx h=>(nomatch h),λx c e=>by simp at e⟩
def Ge(P:S')(oW:Pos)(q:Str)(sp:S'->S'->ak->Sp)(E:XK)(js:List Nat)(dvs:ak)(t:TA):TE:=λσ H Q=>t σ H λvs H1=>∃(ps:Array M') (kj:ak),H1 P=some (.vB ps)/\TriplesOk ps.toList/\kj.length=js.length/\(∀(i j:Nat) v,js[i]? =some j->kj[i]? =some v->σ[j]? =some (some v))/\
 ((codeAmong oW ps.toList=none/\∀f c',H1 f=none->H1 c' =none->f≠c'->sp f c' kj (vs++[.ref f]++dvs) (upd (upd H1 P (.vB (ps++ #[rawInt oW.line,rawInt oW.col,.ref c']))) c' (.ext (i4 c' q))) Q E)\/
  ∃c',codeAmong oW ps.toList=some (.ref c')/\H1 c' =some (.ext (i4 c' q))/\∀f,H1 f=none->sp f c' kj (vs++[.ref f]++dvs) H1 Q E)
section
variable{X:Cx}{CX:uk}{j k:Nat}{g c P:S'}{Yd:aad}{Yv fr:au}{js:List Nat}{sp:S'->S'->ak->Sp}{E:XK}{x:Str}{p pos oW:Pos}{e:V'}{t:TA}{ds:aG}{dvs:ak}{params:Arguments}{body:V'}{scope:Scope}{l4:List (Str×S')}
theorem J4{ad:aQ}{σ:St}{H:Hp}{s:R'}{Q:VK}{us0:aG}{vs:ak}(T:rG X c P)(B:wY X)(C:uB X scope l4 fr js)(Ck:defaultsOf params X.env=([],[]))
 (F:∀(g_ :Y') (f c' :S') (wU:M') (kj:ak),g_.get? f=some (uD X params body scope l4 c' wU)->Au g_ l4 fr kj->aT X.prog X.w X.K X.mg g_ CX k g Yd Yv (sp f c' kj)) (hr:dX k X.A) (hb:Binds X.K Yd Yv ds) (hd:Vals dvs ds) (hx:wf CX X E)
 (I:Inv X ad σ H s) (r:Vals vs us0) (h:Ge P oW (X.env.qual++ "<lambda>") sp E js dvs (λσ H Q' =>Q' vs H) σ H Q):
 wpAny (model X.prog X.w) X.A (eval (.Lambda params body scope oW) X.env) (λu s1=>X.K.In s1.heap/\wpAny (model X.prog X.w) X.A (call (.ref g) (us0++[u])) (EP X ad σ Q) X.xe s1) X.xe s:=by
 obtain⟨ps,kj,eP,ht,pd,hfv,YX⟩:=h
 have cells:∀y∈fr,∃c,X.env.cells.lookup y=some c/\X.fO.heap.objs.size<=c:=λy hy=>by
  obtain⟨c,e⟩:=I.ok.has y (.inl (C.kind y hy));exact⟨c,e,I.ok.Ru y c (C.fn y hy) e⟩
 have fin:∀{H' :Hp} {s' :R'} {f c' :S'} {wU:M'},Inv X ad σ H' s'->H' f=none->s.heap.objs.size<=f->s'.heap.get? f=some (uD X params body scope l4 c' wU)->sp f c' kj (vs++[.ref f]++dvs) H' Q E->
  X.K.In s'.heap/\wpAny (model X.prog X.w) X.A (call (.ref g) (us0++[.ref f])) (EP X ad σ Q) X.xe s' :=by
  intro H' s' f c' wU I' hf Ku lk hq;refine⟨I'.jO,?_⟩;have PM:∀b∈Cb X.stack,b=X.env.locals\/b∈X.fs:=λb hb=>aP.mp (I'.A2 b hb)
  have fsz:∀b∈X.fs,b<X.fO.heap.objs.size:=λb hb=>by
   obtain⟨_,o,ho,_⟩:=I.ok.sF.mem hb;exact a_ ho
  have Dv:∀b∈f::fr.filterMap (λy=>X.env.cells.lookup y),H' b=none/\b∉Cb X.stack:=λb hb=>by
   rcases aP.mp hb with rfl|hb
   .refine⟨hf,λz=> ?_⟩;rcases PM _ z with z|z
    .exact absurd (cP I.lt (z▸Ku)) (cA _)
    .exact absurd (cP (fsz _ z) (aU I.sz Ku)) (cA _)
   .obtain⟨y,hy,e⟩:=vO.mp hb;refine⟨I'.jR y b e,λz=> ?_⟩;rcases PM _ z with z|z
    .exact I'.Pd y b e z
    .obtain⟨c1,e1,hc1⟩:=cells y hy;rw[e] at e1;cases e1;exact absurd (cP (fsz _ z) hc1) (cA _)
  have aew:Au (yb X s' (f::fr.filterMap (λy=>X.env.cells.lookup y))) l4 fr kj:=by
   refine⟨by rw[pd,C.len],λi y v e1 e2=> ?_,λy z c0 e1 e2=> ?_,C.sub⟩
   .have hi:i<js.length:=by rw[C.len];exact(c8.mp e1).1
    have ej:js[i]? =some js[i]:=by simp
    have hy:=bE e1;obtain⟨m,_,hl⟩:=I'.loc;obtain⟨u,rv,l⟩:=hl js[i] y v (C.slot i _ y ej e1) (hfv i _ v ej e2) (.inr (.inl (C.kind y hy)));rcases l with⟨l1,_⟩|⟨_,c0,l1,o,ho,hd⟩
    .rw[C.kind y hy] at l1;cases l1
    .exact⟨c0,u,(C.yP y hy).trans l1,⟨o,C7 (cw _ (vO.mpr ⟨y,hy,l1⟩)) ho,hd⟩,rv⟩
   .exact I.ok.inj y z c0 ((C.yP y (C.sub y c0 e1)).symm.trans e1) ((C.yP z (C.sub z c0 e2)).symm.trans e2)
  have r2:Vals (vs++[.ref f]) (us0++[.ref f]):=r.append (.cons Z .nil);exact PR (F _ f c' wU kj (C7 c5 lk) aew) hr hb hd hx I' (λb hb=>(Dv b hb).1) (λb hb=>(Dv b hb).2) r2 hq
 rcases YX with⟨hn,hq⟩|⟨c',hh,hc,hq⟩
 .refine WR I T B Ck C.cl eP ht hn λf c' wU s' hf hc0 wQ Ku I' lk _=>fin I' ?_ Ku lk (hq f c' hf hc0 wQ);rw[az wQ,az (λz=>by rw[z,eP] at hf;cases hf)];exact hf
 .exact Kw I T B Ck C.cl eP ht hh λf wU s' hf Ku I' lk _=>fin I' hf Ku lk (hq f hf)
theorem Rh(T:rG X c P)(B:wY X)(C:uB X scope l4 fr js)
 (F:∀(g_ :Y') (f c' :S') (wU:M') (kj:ak),g_.get? f=some (uD X params body scope l4 c' wU)->Au g_ l4 fr kj->aT X.prog X.w X.K X.mg g_ CX j g Yd Yv (sp f c' kj)) (hr:dX k X.A) (hg:Gl X x) (hm:X.mg x=some (.ref g)) (hk:PySem.W.keepIn X.K (.ref g)=true) (hb:Binds X.K Yd Yv ds) (hd:Vals dvs ds) (hx:wf CX X E)
 (hj:j<=k:=by decide) (Ck:defaultsOf params X.env=([],[]):=by rfl) (rW:(x==("__debug__" :Str))=false:=by decide) (he:starEach [.Lambda params body scope oW] X.env=[(false,eval (.Lambda params body scope oW) X.env)]:=by rfl):
 PE X (.Call (.Name x p) [.Lambda params body scope oW] [] pos) (Ge P oW (X.env.qual++ "<lambda>") sp E js dvs sH):=by
 intro ad s σ H Q I h;refine lV (kL I hg hm ?_ rW);refine sg (h₀:=X.base) I.ok.mod.xp hk ?_ he rfl;rw[he];show wpAny _ _ (spliced ((false,eval (.Lambda params body scope oW) X.env)::[])) _ _ s;refine uu (dk (J4 (us0:=[]) (vs:=[]) T B C Ck (λb f c' wU kj h1 h2=>(F b f c' wU kj h1 h2).mono hj) hr hb hd hx I .nil h) λu s1 hu=>wF hu)
theorem P9{te:TE}(T:rG X c P)(B:wY X)(C:uB X scope l4 fr js)
 (F:∀(g_ :Y') (f c' :S') (wU:M') (kj:ak),g_.get? f=some (uD X params body scope l4 c' wU)->Au g_ l4 fr kj->aT X.prog X.w X.K X.mg g_ CX j g Yd Yv (sp f c' kj)) (hr:dX k X.A) (hg:Gl X x) (hm:X.mg x=some (.ref g)) (hk:PySem.W.keepIn X.K (.ref g)=true) (hb:Binds X.K Yd Yv ds) (hd:Vals dvs ds) (hx:wf CX X E) (ha:PE X e te)
 (hj:j<=k:=by decide) (Ck:defaultsOf params X.env=([],[]):=by rfl) (rW:(x==("__debug__" :Str))=false:=by decide) (he:starEach [e,.Lambda params body scope oW] X.env=[(false,eval e X.env),(false,eval (.Lambda params body scope oW) X.env)]:=by rfl) (he2:starEach [.Lambda params body scope oW] X.env=[(false,eval (.Lambda params body scope oW) X.env)]:=by rfl):
 PE X (.Call (.Name x p) [e,.Lambda params body scope oW] [] pos) (Ge P oW (X.env.qual++ "<lambda>") sp E js dvs (tG te sH)):=by
 intro ad s σ H Q I h;refine lV (kL I hg hm ?_ rW);refine sg (h₀:=X.base) I.ok.mod.xp hk ?_ (by rw[he,he2]) (by rw[he2];rfl);rw[he];show wpAny _ _ (spliced ((false,eval e X.env)::(false,eval (.Lambda params body scope oW) X.env)::[])) _ _ s;refine uu (dk (ha ad s σ H _ I h) λu s1 ⟨v,H1,I1,r1,q1⟩=> ?_);exact uu (dk (J4 (us0:=[u]) (vs:=[v]) T B C Ck (λb f c' wU kj h1 h2=>(F b f c' wU kj h1 h2).mono hj) hr hb hd hx I1 (.cons r1 .nil) q1) λu2 s2 hu=>wF hu)
end
structure Jx(tabs:List (S'×Array M'))(H:Hp):Prop where
 only:∀b,H b=none\/(∃o xs,H b=some (.Fu o (.lst xs)))\/∃ps,(b,ps)∈tabs/\H b=some (.vB ps)
 at_:∀P ps,(P,ps)∈tabs->H P=some (.vB ps)
theorem DC{β:Type}{l:List (S'×β)}{k:S'}{v:β}(h:l.lookup k=some v):(k,v)∈l:=by
 obtain⟨l1,l2,e,_⟩:=EA.mp h;rw[e];simp
theorem LB{P:Z'}{w:W'}{K:Frag}{mg mb:Str->aO}{CX:uk}{k:Nat}{fa a:S'}{fd:aad}{x:Str}{sp:Sp}{bR:R'}{vs:aG}{ns:List Int}{tabs:List (S'×Array M')}
 (KX:K.In bR.heap) (Qp:bR.heap.Ns mainGlobals mg) (hb:bR.heap.Ns builtinsNs mb) (hbb:∀x:Str,x≠ "__name__" ->mb x=bootBuiltins x) (aev:bR.heap.NoLimit) (hg:bR.gens= #[])
 (ha:bR.heap.get? a=some {cls:= .type "list",data:= .seq vs.toArray}) (hi:IntsAre vs ns) (hl:ns.length<=sizeLine) (hr:dX k callerA)
 (Ll:∀Pt ps,(Pt,ps)∈tabs->bR.heap.get? Pt=some (tabObj ps)/\K.lookup Pt=none/\∃c,CodeHd bR.heap c Pt) (htn:∀Pt ps Kx,(Pt,ps)∈tabs->(Pt,Kx)∈tabs->ps=Kx)
 (F:∀base:Y',K.In base->base.Ns mainGlobals mg->aT P w K mg base CX k fa fd [x] sp) (Z9:∀(s:R') (u:M'),BindsTo s fd ⟨[u],[]⟩ [(x,u)])
 (CY:∀H:Hp,Jx tabs H->cF K H a (ns.map V.int)->sp [.ref a] H (λv _=>v= .bl true) λ_ _ _=>False)
 (hCX:∀H e s',CX [] H bR (λ_ _ _=>False) e s'->False):
 codeAny (model P w) callerA (.call (.ref fa) ⟨[.ref a],[]⟩) (λr s' =>r= .ok (.ret (.bool true))/\OldK bR.heap s'.heap/\s'.os=bR.os/\AllBare s'.gens) bR:=by
 have rv:=DA hi;have aeQ:=hi.length
 have core:∀H:Hp,Jx tabs H->cF K H a (ns.map V.int)->pD P w H bR.heap->(∀b,H b≠none->K.lookup b=none/\∀o es ep,bR.heap.get? b=some o->o.data≠.dict es ep)->
  codeAny (model P w) callerA (.call (.ref fa) ⟨[.ref a],[]⟩) (λr s' =>r= .ok (.ret (.bool true))/\OldK bR.heap s'.heap/\s'.os=bR.os/\AllBare s'.gens) bR:=by
  intro H hO hS bS hK;have JT:∀{b:S'} {o:Obj},bR.heap.get? b=some o->H b=none->(Cf bR.heap H).get? b=some o:=λe n=>AU e n
  have PU:∀{b:S'} {o:Obj} {es:Array DictEntry} {ep:Nat},bR.heap.get? b=some o->o.data= .dict es ep->H b=none:=λ{b o es ep} e d=>by
   cases q:H b with
   |none=>rfl
   |some u=>exact absurd d ((hK b (by rw[q];simp)).2 o es ep e)
  have nsK:∀{b:S'} {m:Str->aO},bR.heap.Ns b m->(Cf bR.heap H).Ns b m:=λ{b m} ⟨o,es,ep,e,d,r⟩=>⟨o,es,ep,JT e (PU e d),d,r⟩
  have hKb:K.In (Cf bR.heap H):=λb o e=>JT (KX b o e) (by
   cases q:H b with
   |none=>rfl
   |some u=>
    rw[(hK b (by rw[q];simp)).1] at e;cases e)
  have hM:Mod K mg (Cf bR.heap H):=⟨hKb,nsK Qp,⟨mb,nsK hb,hbb⟩,let⟨mc,h1,h2⟩:=aev;⟨mc,nsK h1,h2⟩⟩;have e0:Ci P w K mg (Cf bR.heap H) callerA [] bR H:=⟨Z,hM,λb o e=>ED e,oF (Du _ _),trivial,λb hb=>absurd (show b∈([]:cc) from hb) (by simp),bS,.of_eq hg⟩;refine sf ((F _ hKb (nsK Qp)).run callerA [] bR H ⟨[.ref a],[]⟩ [.ref a] [.ref a] _ _ hr e0 (Z9 bR (.ref a)) (.cons Z .nil) (CY H hO hS)) λr s' h=> ?_
  cases r with
  |error e=>exact(hCX H e s' h).elim
  |ok fl=>
   cases fl with
   |next=>exact False.elim h
   |brk=>exact False.elim h
   |cont=>exact False.elim h
   |ret u=>
    obtain⟨v,H',os,bare,un,YD,r',q⟩:=h;have q' :v= .bl true:=q;subst q';obtain rfl:u=Value.bool true:=r';refine⟨Z,⟨λb o e=> ?_,λb o e=>un.there b o e (by simp)⟩,os,bare⟩
    cases q:H b with
    |none=>exact .inl (un.keep b o e q (by intro z;exact absurd (show b∈([]:cc) from z) (by simp)) (by simp))
    |some u=>
     rcases hO.only b with z|⟨ob,xs,z⟩|⟨ps,hm,z⟩
     .rw[q] at z;cases z
     .have z2:=un.AQ b ob _ z;obtain⟨e1,_⟩:=bS b _ z;obtain⟨e2,_⟩:=YD b _ z2;rw[e] at e1;cases e1
      exact .inl e2
     .obtain⟨more,z2⟩:=un.Av b ps z;have e2:s'.heap.get? b=some {cls:= .none,data:= .fields (ps++more)}:=YD b _ z2;obtain⟨e1,_,c,hc⟩:=Ll b ps hm;rw[e] at e1;cases e1;exact .inr (.inl ⟨(hc.tab e).isCodeTable,Z,ps,more,Z,e2⟩)
 have nPa:∀Pt ps,(Pt,ps)∈tabs->Pt≠a:=λPt ps hm z=>by
  have:=(Ll Pt ps hm).1;rw[z,ha] at this;cases this
 have mk:∀u:Option HO,(∀x,u=some x->x= .Fu {cls:= .type "list",data:= .seq vs.toArray} (.lst (ns.map V.int))/\K.lookup a=none)->
  ∃H:Hp,H a=u/\Jx tabs H/\pD P w H bR.heap/\∀b,H b≠none->K.lookup b=none/\∀o es ep,bR.heap.get? b=some o->o.data≠.dict es ep:=by
  intro u hu
  have lk:∀Pt ps,(Pt,ps)∈tabs->tabs.lookup Pt=some ps:=λPt ps hm=>by
   cases q:tabs.lookup Pt with
   |none=>
    have:=List.lookup_eq_none_iff.mp q (Pt,ps) hm;simp at this
   |some Kx =>rw[htn Pt ps Kx hm (DC q)]
  have at' :∀Pt ps,(Pt,ps)∈tabs->(if Pt=a then u else(tabs.lookup Pt).map HO.vB)=some (.vB ps):=λPt ps hm=>by rw[ax (nPa Pt ps hm),lk Pt ps hm];rfl
  have Iq :∀b x,(if b=a then u else(tabs.lookup b).map HO.vB)=some x->(b=a/\u=some x)\/∃ps,(b,ps)∈tabs/\x= .vB ps:=λb x e=>by
   by_cases hb:b=a
   .rw[aB hb] at e;exact .inl ⟨hb,e⟩
   .rw[ax hb] at e;obtain⟨ps,e1,rfl⟩:=Ee.mp e;exact .inr ⟨ps,DC e1,Z⟩
  refine⟨λb=>if b=a then u else(tabs.lookup b).map HO.vB,aB Z,⟨λb=> ?_,at'⟩,λb x e=> ?_,λb hb=> ?_⟩
  .cases q:(if b=a then u else(tabs.lookup b).map HO.vB) with
   |none=>exact .inl rfl
   |some x=>
    rcases Iq b x q with⟨_,e⟩|⟨ps,hm,rfl⟩
    .obtain⟨rfl,_⟩:=hu x e;exact .inr (.inl ⟨_,_,Z⟩)
    .exact .inr (.inr ⟨ps,hm,Z⟩)
  .rcases Iq b x e with⟨wL,e'⟩|⟨ps,hm,rfl⟩
   .obtain⟨rfl,_⟩:=hu x e';subst wL;exact⟨ha,by rw[a6];exact hl,vs,_,rv,ha⟩
   .exact(Ll b ps hm).1
  .obtain⟨x,q⟩:=Option.ne_none_iff_exists'.mp hb;rcases Iq b x q with⟨wL,e'⟩|⟨ps,hm,rfl⟩
   .subst wL;refine⟨(hu x e').2,λo es ep eo d=> ?_⟩;rw[ha] at eo;cases eo;cases d
   .obtain⟨e1,e2,_⟩:=Ll b ps hm;refine⟨e2,λo es ep eo d=> ?_⟩;rw[e1] at eo;cases eo;cases d
 cases hk:K.lookup a with
 |some o=>
  have e:=KX a o hk;rw[ha] at e;cases e;obtain⟨H,_,hO,bS,hK⟩:=mk none (λx e=>(nomatch e));exact core H hO (.inr ⟨_,vs.toArray,_,hk,Z,Z,Z,by rw[bJ,aeQ];exact hl,by simpa using rv⟩) bS hK
 |none=>
  obtain⟨H,eH,hO,bS,hK⟩:=mk (some (.Fu {cls:= .type "list",data:= .seq vs.toArray} (.lst (ns.map V.int)))) (λx e=>by cases e;exact⟨Z,hk⟩);exact core H hO (.inl (.inr ⟨_,eH⟩)) bS hK
theorem Ml{l:PySem.W.OpenLaw}{n k:Nat}{q:Z'}{loose:au}{XP:(Str->aO)->Y'->Prop}{YP:W'->Y'->Prop}{d:DefRec}{K:Params->Frag}{CX:W'->uk}{sp:W'->Sp}{x:Str}{tabs:List (S'×Array M')}
 (hn:l.most=some n) (Yy:n<=sizeLine) (YW:d.params.defaults=[]) (hr:dX k callerA)
 (hY:∀(w:W') (h:Y'),YP w h->(K w.params).In h/\∀Pt ps,(Pt,ps)∈tabs->h.get? Pt=some (tabObj ps)/\(K w.params).lookup Pt=none/\∃c,CodeHd h c Pt) (htn:∀Pt ps Kx,(Pt,ps)∈tabs->(Pt,Kx)∈tabs->ps=Kx)
 (F:∀(w:W') (mg:Str->aO) (fa:S') (h:Y'),(K w.params).In h->h.Ns mainGlobals mg->mg d.name=some (.ref fa)->
  ∃fd:aad,(∀(s:R') (u:M'),BindsTo s fd ⟨[u],[]⟩ [(x,u)])/\
   ∀base:Y',(K w.params).In base->base.Ns mainGlobals mg->aT l.prog w (K w.params) mg base (CX w) k fa fd [x] (sp w))
 (CY:∀(w:W') (H:Hp) (a:S') (ns:List Int),ns.length<=n->Jx tabs H->cF (K w.params) H a (ns.map V.int)->sp w [.ref a] H (λv _=>v= .bl true) λ_ _ _=>False)
 (hCX:∀(w:W') (H:Hp) (s:R') (e:M') (s' :R'),CX w [] H s (λ_ _ _=>False) e s'->False):
 PySem.W.WalkO q loose XP YP l.row.toRowW d [] (λf vs=>PySem.call f vs):=by
 refine Att.GB hn YW λw fO bR mg mb fa o pm cd doc a vs ns G Y ho hd AO Qc Wq hints hlen hg=> ?_;obtain⟨KX,Ll⟩:=hY w _ Y;obtain⟨fd,hb,hF⟩:=F w mg fa _ KX G.T.g Qc;exact LB KX G.T.g G.T.b G.T.builtins G.T.nolimit hg Wq hints (aU hlen Yy) hr Ll htn hF hb (λH hO hS=>CY w H a ns hlen hO hS) λH e s' =>hCX w H bR e s'
structure AF(P:Z')(w:W')(K:Frag)(d:S')(kvs:eI):Prop where
 ex:∃o vs,K.lookup d=some o/\(d==sysModules)=false/\KV kvs vs/\∀h:Y',h.get? d=some o->h.DictOf (cW P w) d vs
def Wu(d:S')(kvs:eI)(ta tb:TE):TE:=λσ H Q=>ta σ H λx H1=>tb σ H1 λy H2=>∃k v,x= .ref d/\y=kV k/\eV kvs k=some v/\Q v H2
def Ox(d:S')(kvs:eI)(ty td:TE):TE:=λσ H Q=>ty σ H λy H1=>td σ H1 λx H2=>∃k,x= .ref d/\y=kV k/\Q (.bl (!(eV kvs k).isSome)) H2
section
variable{X:Cx}{d:S'}{kvs:eI}{o i:V'}{pos:Pos}{td ty:TE}
theorem AF.at_{P:Z'}{w:W'}{K:Frag}{h:Y'}(kd:AF P w K d kvs)(X:K.In h):(d==sysModules)=false/\∃vs,KV kvs vs/\h.DictOf (cW P w) d vs:=by
 obtain⟨o,vs,lk,ns,rel,f⟩:=kd.ex;exact⟨ns,vs,rel,f h (X _ _ lk)⟩
theorem rf(kd:AF X.prog X.w X.K d kvs)(ho:PE X o td)(hi:PE X i ty)(hs:abi i:=by exact λ_ _=>rfl):PE X (.Subscript o i pos) (Wu d kvs td ty):=by
 intro ad s σ H Q I h;refine Qr PySem.F.slot_dict_getitem.lookup hs (dk (ho ad s σ H _ I h) λu s1 ⟨x,H1,I1,rx,q1⟩=>dk (hi ad s1 σ H1 _ I1 q1) λiv s2 ⟨y,H2,I2,ry,k,v,ex,ey,l,q2⟩=> ?_);subst ex ey;obtain rfl:u=Value.ref d:=rx;obtain⟨hd,vs,rel,dd⟩:=kd.at_ I2.jO;obtain⟨w',hw,Mw⟩:=m4.some_of (v:=v) (o:=valueAt vs k) (by rw[<-l];exact rel.val k);obtain⟨ob,es,ep,e1,e2,_⟩:=id dd;exact⟨⟨ob,e1,e2.1⟩,wpAny_getItem_of (GQ ry) dd.mapOf hw ⟨v,H2,I2.tok _,Mw,q2⟩⟩
theorem IC(kd:AF X.prog X.w X.K d kvs)(hi:PE X i ty)(ho:PE X o td):PC X .NotIn i o (Ox d kvs ty td):=by
 intro ad s σ H Q I h;refine dk (hi ad s σ H _ I h) λiv s1 ⟨y,H1,I1,ry,q1⟩=>dk (ho ad s1 σ H1 _ I1 q1) λu s2 ⟨x,H2,I2,rx,k,ex,ey,q2⟩=> ?_;subst ex ey;obtain rfl:u=Value.ref d:=rx;obtain⟨hd,vs,rel,dd⟩:=kd.at_ I2.jO;refine wpAny_notIn_of (GQ ry) hd dd.mapOf ?_;rw[<-(rel.val k).LD];exact⟨.bl _,H2,I2.tok _,Z,q2⟩
end
structure BL(K:Frag)(cd:M')(P:S'):Prop where
 ex:∃c o vs file tf flags tg YL text tt,cd= .ref c/\K.lookup c=some o/\o.cls= .type "code" /\o.data= .fields vs/\vs[11]? =some (.ref P)/\vs.getD 11 .none= .ref P/\vs.getD 18 .none= .str file tf/\
  vs.getD 7 .none= .int flags tg/\vs.getD 9 .none= .bool YL/\vs.getD 10 .none= .int text tt/\c≠P
theorem BL.tab{X:Cx}{cd:M'}{P:S'}(h:BL X.K cd P)(m:X.K.In X.base)(e:X.env.code=cd):∃c,rG X c P:=by
 obtain⟨c,o,vs,file,tf,flags,tg,YL,text,tt,e1,e2,r⟩:=h.ex;exact⟨c,e.trans e1,o,vs,file,tf,flags,tg,YL,text,tt,m _ _ e2,r⟩
theorem BL.hd{K:Frag}{cd:M'}{P:S'}{h:Y'}(k:BL K cd P)(m:K.In h):∃c,CodeHd h c P:=by
 obtain⟨c,o,vs,file,tf,flags,tg,YL,text,tt,e1,e2,r⟩:=k.ex;exact⟨c,o,vs,file,tf,flags,tg,YL,text,tt,m _ _ e2,r⟩
structure Pn(K:Frag)(mg:Str->aO):Prop where
 ex:∃bm o,mg "__builtins__"=some (.ref bm)/\bm≠builtinsNs/\bm≠mainGlobals/\K.lookup bm=some o/\o.cls= .type "module" /\o.dict=some builtinsNs/\o.data= .plain
theorem Pn.mod{X:Cx}(h:Pn X.K X.mg)(m:X.K.In X.base):wY X:=by
 obtain⟨bm,o,e1,e2,e3,e4,r⟩:=h.ex;exact⟨bm,o,e1,e2,e3,m _ _ e4,r⟩
section
variable{P:Z'}{w:W'}{K:Frag}{mg:Str->aO}{base:Y'}{x qual:Str}{st:Stmt}{f:S'}{fd:aad}{N ps:au}{k:Nat}{sp:Sp}
theorem F4.okC{CX:uk}(F:F4 K x qual st f fd)(S:aJ N ps (av st))
 (hb:∀(A:X') (outer:List Env) (s:R') (H:Hp) (vs:ak) (Q:VK) (E:XK),dX k (A.deeper (envOfC qual (av st) s.heap.objs.size f fd.code))->sp vs H Q E->
  ∃t,CW (nD CX P w K mg base N qual (av st) f fd.code A outer s H E) (dN st) t/\t {nx:=λ_ H' =>Q .bp H',rt:=Q} (start N vs) H)
 (len:∀vs H Q E,sp vs H Q E->vs.length=ps.length:=by intro _ _ _ _ h;repeat (first|(obtain⟨rfl,_⟩:=h;rfl)|obtain⟨_,h⟩:=h)):aT P w K mg base CX (k+1) f fd ps sp:=by
 obtain⟨oc,od,kV,doc,pm,an,cB,ct,xC,rfl,lk,AO⟩:=F.ex;exact JI lk AO S len λA outer s H vs Q E hr CY=>hb A outer s H vs Q E hr CY
end
section
variable{prog:Z'}{w:W'}{A:X'}{E:J'}{s:R'}
theorem h_{it t:S'}{i:Nat}{items}{x:M'}{Q:J'}(hit:s.heap.IsTupleIter it t i)(ht:s.heap.IsTuple t items)(hx:items[i]? =some x)
 (hQ:∀h',h'.IsTupleIter it t (i+1)->Heap.SameBut it s.heap h'->Q x {s with heap:=h'}):wpAny (model prog w) A (Builtin.SmallTypes.nextOf (.ref it)) Q E s:=by
 obtain⟨o,ho,hc,hd⟩:=id hit;obtain⟨ol,hol,_,nl,hdl⟩:=ht;unfold Builtin.SmallTypes.nextOf
 refine aw (xc (name:=Str.ofString "__next__") hit.typeIs zO
  (uw zO hit.typeIs F.entry_tuple_iterator_next ?_ (F.args_tuple_iterator_next_1 _)))
 show wpAny _ _ (field (.ref it) 0>>= _) _ _ s;refine aw (c6 ho hd (x:= .ref t) Z ?_);show wpAny _ _ (if(Value.ref t==Value.none)=true then _ else _) _ _ s;rw[ax (show ¬((Value.ref t==Value.none)=true) from cU)];show wpAny _ _ (field (.ref it) 1>>= _) _ _ s;refine aw (c6 ho hd (x:= .int i 0) Z ?_);show wpAny _ _ (seqItems? (.ref t)>>= _) _ _ s;refine aw (oP hol hdl ?_);simp only[ny,hx];refine aw (uI ho hd (by simp) (aY ⟨x,Z,aY (hQ _ ?_ (Heap.SameBut.update ..))⟩))
 exact⟨_,ma _ ho (zC (uE hd _)),(Obj.cls_mapFields ..).trans hc,by
  rw[uE hd];simp[rawInt]⟩
theorem qy{it t:S'}{i:Nat}{items}{Q:J'}(hh:A.handled=none)(hit:s.heap.IsTupleIter it t i)(ht:s.heap.IsTuple t items)(hx:items[i]? =none)
 (hE:∀h' e,Heap.ExtBut it s.heap h'->(∃o,h'.get? e=some o/\o.cls= .type "StopIteration")->E (.ref e) {s with heap:=h'}):wpAny (model prog w) A (Builtin.SmallTypes.nextOf (.ref it)) Q E s:=by
 obtain⟨o,ho,hc,hd⟩:=id hit;obtain⟨ol,hol,_,nl,hdl⟩:=ht;unfold Builtin.SmallTypes.nextOf
 refine aw (xc (name:=Str.ofString "__next__") hit.typeIs zO
  (uw zO hit.typeIs F.entry_tuple_iterator_next ?_ (F.args_tuple_iterator_next_1 _)))
 show wpAny _ _ (field (.ref it) 0>>= _) _ _ s;refine aw (c6 ho hd (x:= .ref t) Z ?_);show wpAny _ _ (if(Value.ref t==Value.none)=true then _ else _) _ _ s;rw[ax (show ¬((Value.ref t==Value.none)=true) from cU)];show wpAny _ _ (field (.ref it) 1>>= _) _ _ s;refine aw (c6 ho hd (x:= .int i 0) Z ?_);show wpAny _ _ (seqItems? (.ref t)>>= _) _ _ s;refine aw (oP hol hdl ?_);simp only[ny,hx];refine aw (si (aw (uI ho hd (by simp) ?_)));show wpAny _ _ (newExc (.type "StopIteration") []>>= _) _ _ _;refine aw ?_;simp only[newExc,newTuple];refine aw (oU ?_ (by size_fits));refine aw (m:=firstArgMember _ _) (wpAny_of_eq (a:=Value.none) (by first|rfl|(simp only[firstArgMember];rfl)) ?_);refine oU ?_ (by size_fits);simp only[raiseNew];refine aw (wpAny_handled ?_)
 first|rw[show A.in1.handled=none from hh]|rw[hh]
 refine aw (aY (wpAny_throw ?_));exact hE _ _ (((Heap.SameBut.update ..).extBut.push _).push _) ⟨_,cV _ Z,Z⟩
abbrev OW(h:Y')(z TI TO:S')(f0:M')(f:Bool):Prop:=
 h.get? z=some {cls:= .type "zip",dict:=none,data:= .fields #[f0,.bool f,.bool false,.ref TI,.ref TO],slots:= #[]}
abbrev adv(h:Y')(z TO i1 i2 S:S')(f0:M')(f:Bool):Prop:=(f0= .none/\f=false)\/∃(a:S') (oa:Obj),f0=rawInt a/\h.get? a=some oa/\a≠z/\a≠TO/\a≠i1/\a≠i2/\a≠S
structure M1(h:Y')(z TI TO i1 i2 t1 t2 S:S')(xs ys:Array M')(k:Nat):Prop where
 z:∃f0 f,OW h z TI TO f0 f/\adv h z TO i1 i2 S f0 f
 ti:IsPair h TI (.ref i1) (.ref i2)
 to:∃a b,IsPair h TO a b
 h1:h.IsTupleIter i1 t1 k
 h2:h.IsTupleIter i2 t2 k
 l1:h.IsTuple t1 xs
 l2:h.IsTuple t2 ys
end
section
variable{prog:Z'}{w:W'}{A:X'}{E:J'}{s:R'}
theorem Oh{z TI TO i1 i2 l1 l2:S'}{k1 k2:Nat}{xs ys:Array M'}{x y a b:M'}{Q:J'}(D:ZipApart z TI TO i1 i2 l1 l2)
 (hz:IsZip s.heap z TI TO .none) (Kf:IsPair s.heap TI (.ref i1) (.ref i2)) (O_:IsPair s.heap TO a b)
 (h1:s.heap.IsTupleIter i1 l1 k1) (h2:s.heap.IsTupleIter i2 l2 k2) (E9:s.heap.IsTuple l1 xs) (n5:s.heap.IsTuple l2 ys) (hx:xs[k1]? =some x) (hy:ys[k2]? =some y)
 (hQ:∀h',IsZip h' z TI TO (rawInt s.heap.objs.size)->IsPair h' TO x y->h'.IsTupleIter i1 l1 (k1+1)->h'.IsTupleIter i2 l2 (k2+1)->IsPair h' s.heap.objs.size x y->h'.objs.size=s.heap.objs.size+1->
  (∀c o,c≠z->c≠TO->c≠i1->c≠i2->s.heap.get? c=some o->h'.get? c=some o)->Q (.ref s.heap.objs.size) {s with heap:=h'}):
 wpAny (model prog w) A (Builtin.«zip.__next__» ⟨[.ref z],[]⟩) (λfin s' =>∃v,fin= .done (.ret v)/\Q v s') E s:=by
 show wpAny _ _ (field (.ref z) 2>>= _) _ _ _;refine aw (c6 hz Z (x:= .bool false) Z ?_);show wpAny _ _ (field (.ref z) 3>>= _) _ _ _;refine aw (c6 hz Z (x:= .ref TI) Z ?_);refine aw (oP Kf Z ?_);show wpAny _ _ (Builtin.SmallTypes.ownedTupleIsFree (.ref z)>>= _) _ _ _;refine aw ?_;unfold Builtin.SmallTypes.ownedTupleIsFree;refine aw (c6 hz Z (x:= .none) Z (aY ?_));simp only[o5];refine aw (si ?_);refine aw (c6 hz Z (x:= .ref TO) Z ?_);refine aw (xw hz (by simp) λh₁ tF fk=> ?_);replace tF:IsZip h₁ z TI TO .ellipsis:=tF;refine aw ?_;simp only[List.zipIdx_cons,List.zipIdx_nil,vV,zy];refine aw (aw (zM ?_));show wpAny _ _ (Builtin.SmallTypes.nextOf (.ref i1)>>= _) _ _ _;refine aw (h_ (h1.extBut fk.extBut D.i1z) (E9.extBut fk.extBut D.l1z) hx λl9 N7 jZ=>aY ?_);have N_:IsPair l9 TO a b:=jZ.extBut _ _ D.TOi1 (fk.extBut _ _ D.TOz O_);refine aw (oP N_ Z ?_);refine aw (wpAny_updateSeq_pair N_ λrg Ii kA=> ?_);replace Ii:IsPair rg TO x b:=Ii;refine aw (wpAny_letGo (aY ?_));refine aw (aw (zM ?_));show wpAny _ _ (Builtin.SmallTypes.nextOf (.ref i2)>>= _) _ _ _
 refine aw (h_ (((h2.extBut fk.extBut D.i2z).extBut jZ.extBut D.i12.symm).extBut kA.extBut D.TOi2.symm)
  (((n5.extBut fk.extBut D.l2z).extBut jZ.extBut D.l2i1).extBut kA.extBut D.l2TO) hy λXk aa6 FA=>aY ?_)
 have Mx:IsPair Xk TO x b:=FA.extBut _ _ D.TOi2 Ii;refine aw (oP Mx Z ?_);refine aw (wpAny_updateSeq_pair Mx λpA El FK=> ?_);replace El:IsPair pA TO x y:=El;refine aw (wpAny_letGo (aY (aY ?_)));refine aw (oP El Z ?_);refine aw (wpAny_newTuple ?_);have ql:pA.objs.size=s.heap.objs.size:=by rw[FK.1,FA.1,kA.1,jZ.1,fk.1]
 have Vc:IsZip pA z TI TO .ellipsis:=FK.extBut _ _ D.TOz.symm (FA.extBut _ _ D.i2z.symm (kA.extBut _ _ D.TOz.symm (jZ.extBut _ _ D.i1z.symm tF)))
 have YE:∀c o,c≠z->c≠TO->c≠i1->c≠i2->s.heap.get? c=some o->pA.get? c=some o:=λc o c1 c2 c3 c4 e=>
  FK.extBut _ _ c2 (FA.extBut _ _ c4 (kA.extBut _ _ c2 (jZ.extBut _ _ c3 (fk.extBut _ _ c1 e))))
 have aaA:pA.IsTupleIter i1 l1 (k1+1):=((N7.extBut kA.extBut D.TOi1.symm).extBut FA.extBut D.i12).extBut FK.extBut D.TOi1.symm;have YI:pA.IsTupleIter i2 l2 (k2+1):=aa6.extBut FK.extBut D.TOi2.symm;have abk:z<pA.objs.size:=a_ Vc;show wpAny _ _ (Builtin.SmallTypes.ownedTupleHandOut (.ref z) (.ref pA.objs.size)>>= _) _ _ _;refine aw ?_;unfold Builtin.SmallTypes.ownedTupleHandOut;have Zs:IsZip (pA.push {cls:= .type "tuple",data:= .seq #[x,y]}) z TI TO .ellipsis:=bq _ Vc;refine aw (xw Zs (by simp) λaes NL Mc=> ?_);replace NL:IsZip aes z TI TO (rawInt pA.objs.size):=NL;refine xw NL (by simp) λK0 JX Nk=> ?_;replace JX:IsZip K0 z TI TO (rawInt pA.objs.size):=JX;have up:∀c o,c≠z->pA.get? c=some o->K0.get? c=some o:=λc o c1 e=>Nk.extBut _ _ c1 (Mc.extBut _ _ c1 (bq _ e));have Tc:IsPair K0 pA.objs.size x y:=Nk.extBut _ _ (jD abk) (Mc.extBut _ _ (jD abk) (cV _ Z));have YB:K0.objs.size=pA.objs.size+1:=by rw[Nk.1,Mc.1,kl]
 rw[ql] at JX Tc YB;refine aY ⟨_,Z,?_⟩;show Q (.ref pA.objs.size) _;rw[ql];have YT:∀{q r n},q≠z->pA.IsTupleIter q r n->K0.IsTupleIter q r n:=λhq ⟨o,ho,r⟩=>⟨o,up _ _ hq ho,r⟩;exact hQ K0 JX (up _ _ D.TOz El) (YT D.i1z aaA) (YT D.i2z YI) Tc YB λc o c1 c2 c3 c4 e=>up c o c1 (YE c o c1 c2 c3 c4 e)
theorem JO{z TI TO a:S'}{f:Bool}{oa:Obj}{Q:Bool->R'->Prop}(hz:OW s.heap z TI TO (rawInt a) f)(ha:s.heap.get? a=some oa)
 (hQ:∀h',OW h' z TI TO (rawInt a) true->Heap.SameBut z s.heap h'->Q false {s with heap:=h'}):wpAny (model prog w) A (Builtin.SmallTypes.ownedTupleIsFree (.ref z)) Q E s:=by
 unfold Builtin.SmallTypes.ownedTupleIsFree;refine aw (c6 hz Z (x:=rawInt a) Z ?_);show wpAny _ _ (loadIfAlive ((a:Int).toNat)>>= _) _ _ _;rw[ny];refine aw (PySem.W.kdx_alive ha ?_);simp only[Option.isNone_some,wj,mJ];refine aw (c6 hz Z (x:= .bool f) Z ?_)
 cases f with
 |true=>
  rw[ax (show ¬((Value.bool true !=Value.bool true)=true) from cU)];exact aY (hQ s.heap hz (Heap.SameBut.refl _ _))
 |false=>
  rw[aB (show(Value.bool false !=Value.bool true)=true from Z)];refine aw (xw hz (by simp) λrg Jy kA=> ?_);exact aY (hQ rg Jy kA)
theorem P7{z TI TO i1 i2 l1 l2 a:S'}{f:Bool}{oa:Obj}{k1 k2:Nat}{xs ys:Array M'}{x y:M'}{Q:J'}(D:ZipApart z TI TO i1 i2 l1 l2)
 (hz:OW s.heap z TI TO (rawInt a) f) (ha:s.heap.get? a=some oa) (Kf:IsPair s.heap TI (.ref i1) (.ref i2))
 (h1:s.heap.IsTupleIter i1 l1 k1) (h2:s.heap.IsTupleIter i2 l2 k2) (E9:s.heap.IsTuple l1 xs) (n5:s.heap.IsTuple l2 ys) (hx:xs[k1]? =some x) (hy:ys[k2]? =some y)
 (hQ:∀h',OW h' z TI TO (rawInt a) true->h'.IsTupleIter i1 l1 (k1+1)->h'.IsTupleIter i2 l2 (k2+1)->IsPair h' s.heap.objs.size x y->h'.objs.size=s.heap.objs.size+1->
  (∀c o,c≠z->c≠i1->c≠i2->s.heap.get? c=some o->h'.get? c=some o)->Q (.ref s.heap.objs.size) {s with heap:=h'}):
 wpAny (model prog w) A (Builtin.«zip.__next__» ⟨[.ref z],[]⟩) (λfin s' =>∃v,fin= .done (.ret v)/\Q v s') E s:=by
 show wpAny _ _ (field (.ref z) 2>>= _) _ _ _;refine aw (c6 hz Z (x:= .bool false) Z ?_);show wpAny _ _ (field (.ref z) 3>>= _) _ _ _;refine aw (c6 hz Z (x:= .ref TI) Z ?_);refine aw (oP Kf Z ?_);show wpAny _ _ (Builtin.SmallTypes.ownedTupleIsFree (.ref z)>>= _) _ _ _;refine aw (JO hz ha λh₁ tF fk=> ?_);simp only[wj,mJ];refine aw ?_;refine wpAny_arrayLoop ?_;simp only[vV,zy];refine aw (aw (kh ?_));show wpAny _ _ (Builtin.SmallTypes.nextOf (.ref i1)>>= _) _ _ _;refine aw (h_ (h1.extBut fk.extBut D.i1z) (E9.extBut fk.extBut D.l1z) hx λl9 N7 jZ=>aY (aY ?_));refine aw (aw (kh ?_));show wpAny _ _ (Builtin.SmallTypes.nextOf (.ref i2)>>= _) _ _ _;refine aw (h_ ((h2.extBut fk.extBut D.i2z).extBut jZ.extBut D.i12.symm) ((n5.extBut fk.extBut D.l2z).extBut jZ.extBut D.l2i1) hy λrg ZY kA=>aY (aY (aY ?_)));show wpAny _ _ (newTuple [x,y]>>= _) _ _ _;refine aw (wpAny_newTuple (aY ⟨_,Z,?_⟩));have ql:rg.objs.size=s.heap.objs.size:=by rw[kA.1,jZ.1,fk.1]
 show Q (.ref rg.objs.size) _;rw[ql];have up:∀c o,rg.get? c=some o->(rg.push {cls:= .type "tuple",data:= .seq #[x,y]}).get? c=some o:=λc o e=>bq _ e;have YT:∀{q r n},rg.IsTupleIter q r n->(rg.push {cls:= .type "tuple",data:= .seq #[x,y]}).IsTupleIter q r n:=λ⟨o,ho,r⟩=>⟨o,up _ _ ho,r⟩;refine hQ _ (up _ _ (kA.extBut _ _ D.i2z.symm (jZ.extBut _ _ D.i1z.symm tF))) (YT (N7.extBut kA.extBut D.i12)) (YT ZY) ?_ ?_ λc o c1 c3 c4 e=>up _ _ (kA.extBut _ _ c4 (jZ.extBut _ _ c3 (fk.extBut _ _ c1 e)))
 .rw[<-ql];exact cV _ rfl
 .rw[kl,ql]
theorem XU{z TI TO i1 i2 l1 l2 S:S'}{k:Nat}{xs ys:Array M'}{Q:Fin->R'->Prop}(hh:A.handled=none)(D:ZipApart z TI TO i1 i2 l1 l2)(ac:M1 s.heap z TI TO i1 i2 l1 l2 S xs ys k)(hx:xs[k]? =none)
 (hE:∀h' e,(∀c o,c≠z->c≠i1->s.heap.get? c=some o->h'.get? c=some o)->(∃o,h'.get? e=some o/\o.cls= .type "StopIteration")->E (.ref e) {s with heap:=h'}):
 wpAny (model prog w) A (Builtin.«zip.__next__» ⟨[.ref z],[]⟩) Q E s:=by
 obtain⟨⟨f0,f,hz,hw⟩,Kf,⟨a,b,O_⟩,h1,h2,E9,n5⟩:=ac;show wpAny _ _ (field (.ref z) 2>>= _) _ _ _;refine aw (c6 hz Z (x:= .bool false) Z ?_);show wpAny _ _ (field (.ref z) 3>>= _) _ _ _;refine aw (c6 hz Z (x:= .ref TI) Z ?_);refine aw (oP Kf Z ?_);show wpAny _ _ (Builtin.SmallTypes.ownedTupleIsFree (.ref z)>>= _) _ _ _;rcases hw with⟨rfl,rfl⟩|⟨a',oa,rfl,ha,_⟩
 .refine aw ?_;unfold Builtin.SmallTypes.ownedTupleIsFree;refine aw (c6 hz Z (x:= .none) Z (aY ?_));simp only[o5];refine aw (si ?_);refine aw (c6 hz Z (x:= .ref TO) Z ?_);refine aw (xw hz (by simp) λh₁ tF fk=> ?_);replace tF:IsZip h₁ z TI TO .ellipsis:=tF;refine aw ?_;simp only[List.zipIdx_cons,List.zipIdx_nil,vV,zy];refine aw (aw (zM ?_));show wpAny _ _ (Builtin.SmallTypes.nextOf (.ref i1)>>= _) _ _ _;refine aw (qy hh (h1.extBut fk.extBut D.i1z) (E9.extBut fk.extBut D.l1z) hx λl9 e jZ he=> ?_);obtain⟨oe,WE,hce⟩:=he;have TF:IsZip l9 z TI TO .ellipsis:=jZ _ _ D.i1z.symm tF;have hez:e≠z:=λx=>by subst x;rw[TF] at WE;cases WE;simp at hce
  refine xw TF (by simp) λrg _ kA=>hE rg e (λc o c1 c3 x=>kA.extBut _ _ c1 (jZ _ _ c3 (fk.extBut _ _ c1 x))) ⟨oe,kA.extBut _ _ hez WE,hce⟩
 .refine aw (JO hz ha λh₁ tF fk=> ?_);simp only[wj,mJ];refine aw ?_;refine wpAny_arrayLoop ?_;simp only[vV,zy];refine aw (aw (kh ?_));show wpAny _ _ (Builtin.SmallTypes.nextOf (.ref i1)>>= _) _ _ _;exact aw (qy hh (h1.extBut fk.extBut D.i1z) (E9.extBut fk.extBut D.l1z) hx λl9 e jZ he=>hE l9 e (λc o c1 c3 x=>jZ _ _ c3 (fk.extBut _ _ c1 x)) he)
theorem P2{z TI TO i1 i2 l1 l2 S:S'}{k:Nat}{xs ys:Array M'}{x y:M'}{Q:aO->R'->Prop}(D:ZipApart z TI TO i1 i2 l1 l2)(ac:M1 s.heap z TI TO i1 i2 l1 l2 S xs ys k)(hS:S<s.heap.objs.size)(hx:xs[k]? =some x)(hy:ys[k]? =some y)
 (hQ:∀h',M1 h' z TI TO i1 i2 l1 l2 S xs ys (k+1)->IsPair h' s.heap.objs.size x y->h'.objs.size=s.heap.objs.size+1->(∀c o,c≠z->c≠TO->c≠i1->c≠i2->s.heap.get? c=some o->h'.get? c=some o)->Q (some (.ref s.heap.objs.size)) {s with heap:=h'}):
 wpAny (model prog w) A (pyNext (.ref z)) Q E s:=by
 obtain⟨⟨f0,f,hz,hw⟩,Kf,⟨a,b,O_⟩,h1,h2,E9,n5⟩:=ac;have hT:s.TypeIs (.ref z) "zip":=⟨_,hz,Z⟩;have lt:∀{c o},s.heap.get? c=some o->s.heap.objs.size≠c:=λe=>jD (a_ e);have q1:s.heap.objs.size≠i1:=by obtain⟨o,e,_⟩:=h1;exact lt e
 have q2:s.heap.objs.size≠i2:=by obtain⟨o,e,_⟩:=h2;exact lt e
 unfold pyNext;refine aw (wpAny_attempt (xc (name:=Str.ofString "__next__") hT vk (uw vk hT F.entry_zip_next ?_ (F.args_zip_next_1 _))));rcases hw with⟨rfl,rfl⟩|⟨a',oa,rfl,ha,a1,a2,a3,a4,a5⟩
 .refine Oh D hz Kf O_ h1 h2 E9 n5 hx hy λh' b1 b2 b3 b4 b5 b6 hk=>aY (hQ h' ⟨⟨_,_,b1,.inr ⟨_,_,Z,b5,lt hz,lt O_,q1,q2,jD hS⟩⟩,hk _ _ D.TIz D.TITO D.TIi1 D.TIi2 Kf,⟨_,_,b2⟩,b3,b4,?_,?_⟩ b5 b6 hk)
  .obtain⟨o,e,r⟩:=E9;exact⟨o,hk _ _ D.l1z D.l1TO D.l1i1 D.l1i2 e,r⟩
  .obtain⟨o,e,r⟩:=n5;exact⟨o,hk _ _ D.l2z D.l2TO D.l2i1 D.l2i2 e,r⟩
 .refine P7 D hz ha Kf h1 h2 E9 n5 hx hy λh' b1 b3 b4 b5 b6 hk=>aY (hQ h' ⟨⟨_,_,b1,.inr ⟨_,_,Z,hk _ _ a1 a3 a4 ha,a1,a2,a3,a4,a5⟩⟩,hk _ _ D.TIz D.TIi1 D.TIi2 Kf,⟨_,_,hk _ _ D.TOz D.TOi1 D.TOi2 O_⟩,b3,b4,?_,?_⟩ b5 b6 λc o c1 _ c3 c4 e=>hk c o c1 c3 c4 e)
  .obtain⟨o,e,r⟩:=E9;exact⟨o,hk _ _ D.l1z D.l1i1 D.l1i2 e,r⟩
  .obtain⟨o,e,r⟩:=n5;exact⟨o,hk _ _ D.l2z D.l2i1 D.l2i2 e,r⟩
theorem PZ{z TI TO i1 i2 l1 l2 S:S'}{k:Nat}{xs ys:Array M'}{Q:aO->R'->Prop}(hh:A.handled=none)(D:ZipApart z TI TO i1 i2 l1 l2)(ac:M1 s.heap z TI TO i1 i2 l1 l2 S xs ys k)(hx:xs[k]? =none)
 (hQ:∀h',(∀c o,c≠z->c≠i1->s.heap.get? c=some o->h'.get? c=some o)->Q none {s with heap:=h'}):wpAny (model prog w) A (pyNext (.ref z)) Q E s:=by
 obtain⟨⟨f0,f,hz,hw⟩,r⟩:=id ac;have hT:s.TypeIs (.ref z) "zip":=⟨_,hz,Z⟩;unfold pyNext
 refine aw (wpAny_attempt (xc (name:=Str.ofString "__next__") hT vk
  (uw vk hT F.entry_zip_next (XU hh D ac hx λh' e hk he=> ?_) (F.args_zip_next_1 _))))
 obtain⟨o,ho,hc⟩:=he;refine aw (wpAny_isInstance (T:="StopIteration") (b:=true) ⟨o,ho,hc⟩ isSubtype_stop ?_);exact aY (hQ _ hk)
theorem M1.keep{h h' :Y'}{z TI TO i1 i2 t1 t2 S:S'}{xs ys:Array M'}{k:Nat}(ac:M1 h z TI TO i1 i2 t1 t2 S xs ys k)(hk:∀b o,b≠S->h.get? b=some o->h'.get? b=some o)(n:∀b∈[z,TI,TO,i1,i2,t1,t2],b≠S):M1 h' z TI TO i1 i2 t1 t2 S xs ys k:=by
 obtain⟨⟨f0,f,hz,hw⟩,Kf,⟨a,b,O_⟩,⟨o1,e1,h1⟩,⟨o2,e2,h2⟩,⟨o3,e3,E9⟩,⟨o4,e4,n5⟩⟩:=ac;refine⟨⟨f0,f,hk _ _ (n z (by simp)) hz,?_⟩,hk _ _ (n TI (by simp)) Kf,⟨a,b,hk _ _ (n TO (by simp)) O_⟩,⟨o1,hk _ _ (n i1 (by simp)) e1,h1⟩,⟨o2,hk _ _ (n i2 (by simp)) e2,h2⟩,⟨o3,hk _ _ (n t1 (by simp)) e3,E9⟩,⟨o4,hk _ _ (n t2 (by simp)) e4,n5⟩⟩;rcases hw with q|⟨a',oa,q1,ha,q2,q3,q4,q5,q6⟩
 .exact .inl q
 .exact .inr ⟨a',oa,q1,hk _ _ q6 ha,q2,q3,q4,q5,q6⟩
end
structure ZG(xs ys:Array M')(lo:S')(h:Y')(as:cc):Prop where
 rise:as.Pairwise (· < ·)
 above:∀a∈as,lo<a
 pairs:∀(j:Nat) (a:S'),as[j]? =some a->∃x y,xs[j]? =some x/\ys[j]? =some y/\IsPair h a x y
section
variable{prog:Z'}{w:W'}{A:X'}{E:J'}{s:R'}{R:Result->R'->Prop}{xs ys:Array M'}{z TI TO i1 i2 l1 l2 S:S'}
theorem P5(hh:A.handled=none)(D:ZipApart z TI TO i1 i2 l1 l2)(ZN:S≠z)(n:∀b∈[z,TI,TO,i1,i2,l1,l2],b≠S)(lo:S')(L6:∀b∈[z,TO,i1,i2,S],b<=lo)(he:xs.size=ys.size)(hn:xs.size<=sizeLine)(res:M'){h₁:Y'}
 (hR:∀h' tk acc c as,(∀b o,b≠S->b≠z->b≠TO->b≠i1->b≠i2->h₁.get? b=some o->h'.get? b=some o)->h'.get? S=some {cls:= .type "list",dict:=none,data:= .seq acc c,slots:= #[]}->as.length=xs.size->ZG xs ys lo h' as->
  acc.toList=as.map Value.ref->R (.ok (.ret res)) {s with heap:=h',toks:=tk}):
 ∀(k i:Nat) (h:Y') (tk c:Nat) (acc:Array M') (as:cc),xs.size - i=k->i<=xs.size->M1 h z TI TO i1 i2 l1 l2 S xs ys i->(∀b o,b≠S->b≠z->b≠TO->b≠i1->b≠i2->h₁.get? b=some o->h.get? b=some o)->
  h.get? S=some {cls:= .type "list",dict:=none,data:= .seq acc c,slots:= #[]}->acc.toList=as.map Value.ref->as.length=i->ZG xs ys lo h as->lo<h.objs.size->
  codeAny (model prog w) A (.builtin "list.extend.loop" ⟨[.ref S,.ref z,res],[]⟩) R {s with heap:=h,toks:=tk}:=by
 have Xc:∀a b,lo<a->b∈[z,TO,i1,i2,S]->a≠b:=λa b h hb q=>absurd (L6 b hb) (by rw[<-q];exact Nat.not_le.mpr h);have above:∀a,lo<a->a≠S/\a≠z/\a≠TO/\a≠i1/\a≠i2:=λa h=>⟨Xc a S h (by simp),Xc a z h (by simp),Xc a TO h (by simp),Xc a i1 h (by simp),Xc a i2 h (by simp)⟩;intro k
 induction k with
 |zero=>
  intro i h tk c acc as hk hi sY Om hS DR Lh hG hIs;have Yk:i=xs.size:=by lia
  refine codeAny_builtin entry_extend_loop ?_;rw[Around.under_plainId zT _];show wpAny _ A.in1 (pyNext (.ref z)>>= _) _ _ _;refine aw (PZ (s:={s with heap:=h,toks:=tk}) (A:=A.in1) hh D sY (Array.getElem?_eq_none (by lia)) λh' he=> ?_);refine aY (hR h' tk acc c as (λb o h1 h2 h3 h4 h5 e=>he b o h2 h4 (Om b o h1 h2 h3 h4 h5 e)) (he S _ ZN (ck (n i1 (by simp))) hS) (by lia) ⟨hG.rise,hG.above,λj a hj=> ?_⟩ DR);obtain⟨x,y,e1,e2,e3⟩:=hG.pairs j a hj;have q:=above a (hG.above a (bE hj));exact⟨x,y,e1,e2,he a _ q.2.1 q.2.2.2.1 e3⟩
 |succ k ih=>
  intro i h tk c acc as hk hi sY Om hS DR Lh hG hIs;have kG:i<xs.size:=by lia
  have QF:i<ys.size:=by lia
  have ql:acc.size=i:=by rw[<-zA,DR,a6,Lh]
  refine codeAny_builtin entry_extend_loop ?_;rw[Around.under_plainId zT _];show wpAny _ A.in1 (pyNext (.ref z)>>= _) _ _ _;refine aw (P2 (s:={s with heap:=h,toks:=tk}) (S:=S) D sY (a_ hS) (vb kG) (vb QF) λh' afF ht hz hkp=> ?_);dsimp only at ht hz hkp ⊢;have hS' :=hkp S _ ZN (ck (n TO (by simp))) (ck (n i1 (by simp))) (ck (n i2 (by simp))) hS;have up:∀b o,b≠S->h'.get? b=some o->(h'.update S (Obj.mapSeq (·.push (Value.ref h.objs.size)))).get? b=some o:=λb o hb e=>(gn _ _ (ck hb)).trans e;have hSl:S<h.objs.size:=a_ hS;show wpAny _ A.in1 (updateSeq S (·.push (Value.ref h.objs.size))>>= _) _ _ _;refine aw ?_
  refine zV hS' Z (aY ⟨plainId_quiet zT _,ih (i+1) _ tk _ (acc.push (Value.ref h.objs.size)) (as++[h.objs.size]) (by lia) kG (afF.keep up n)
   (λb o h1 h2 h3 h4 h5 e=>up b o h1 (hkp b o h2 h3 h4 h5 (Om b o h1 h2 h3 h4 h5 e))) (ma _ hS' Z) (by rw[Array.toList_push,DR,i7];rfl) (by rw[bu,Lh];rfl) ⟨?_,?_,?_⟩ ?_⟩) (by rw[ql];lia) (by show(acc.push (Value.ref h.objs.size)).size<=sizeLine+1;rw[Array.size_push,ql];lia)
  .refine List.pairwise_append.mpr ⟨hG.rise,List.pairwise_singleton _ _,λa ha b hb=> ?_⟩;rw[gm.mp hb];obtain⟨j,hj⟩:=zr.mp ha;obtain⟨_,_,_,_,e⟩:=hG.pairs j a hj;exact a_ e
  .intro a ha;rcases eB.mp ha with ha|ha
   .exact hG.above a ha
   .rw[gm.mp ha];exact hIs
  .intro j b hj;rcases Nat.lt_trichotomy j as.length with h1|h1|h1
   .rw[iy h1] at hj;obtain⟨x',y',e1,e2,e3⟩:=hG.pairs j b hj;have q:=above b (hG.above b (bE hj));exact⟨x',y',e1,e2,up b _ q.1 (hkp b _ q.2.1 q.2.2.1 q.2.2.2.1 q.2.2.2.2 e3)⟩
   .subst h1;have hb:h.objs.size=b:=by simpa using hj
    subst hb;exact⟨_,_,by rw[Lh];exact vb kG,by rw[Lh];exact vb QF,up _ _ (jD hSl) ht⟩
   .have Zy:(as++[h.objs.size])[j]? =none:=nh (by rw[bu,E3];lia);rw[Zy] at hj;cases hj
  .have e:(h'.update S (Obj.mapSeq (·.push (Value.ref h.objs.size)))).get? h.objs.size=_:=up _ _ (jD hSl) ht;exact ze hIs (a_ e)
end
theorem K_:typeLookup (.type "zip") "__len__"=pure none:=by rw[typeLookup_type,builtinLookup_eq_fast];kernel_rfl
theorem HV:typeLookup (.type "zip") "__length_hint__"=pure none:=by rw[typeLookup_type,builtinLookup_eq_fast];kernel_rfl
section
variable{prog:Z'}{w:W'}{A:X'}{E:J'}{s:R'}{R:Result->R'->Prop}{xs ys:Array M'}{z TI TO i1 i2 l1 l2 S:S'}
theorem KG(hh:A.handled=none)(D:ZipApart z TI TO i1 i2 l1 l2)(ZN:S≠z)(n:∀b∈[z,TI,TO,i1,i2,l1,l2],b<S)(he:xs.size=ys.size)(hn:xs.size<=sizeLine)(res:M')(c₀:Nat)(hS:s.heap.get? S=some {cls:= .type "list",data:= .seq #[] c₀})(sY:M1 s.heap z TI TO i1 i2 l1 l2 S xs ys 0)
 (hR:∀h' tk acc c as,(∀b o,b≠S->b≠z->b≠TO->b≠i1->b≠i2->s.heap.get? b=some o->h'.get? b=some o)->h'.get? S=some {cls:= .type "list",dict:=none,data:= .seq acc c,slots:= #[]}->as.length=xs.size->ZG xs ys S h' as->
  acc.toList=as.map Value.ref->R (.ok (.ret res)) {s with heap:=h',toks:=tk}):
 wpAny (model prog w) A.in1 (Builtin.List.listExtendWith (.ref S) (.ref z) res)
  (λfin s' =>match fin with| .done f=>R (.ok f) s' | .again c' =>c'.quiet=true/\codeAny (model prog w) A c' R s') (λe s' =>R (.error e) s') s:=by
 have n' :∀b∈[z,TI,TO,i1,i2,l1,l2],b≠S:=λb hb=>cJ (n b hb)
 have L6:∀b∈[z,TO,i1,i2,S],b<=S:=λb hb=>by
  simp only[aP,cO,cR] at hb;rcases hb with rfl|rfl|rfl|rfl|rfl
  .exact cT (n _ (by simp))
  .exact cT (n _ (by simp))
  .exact cT (n _ (by simp))
  .exact cT (n _ (by simp))
  .exact aK _
 have key:∀(h:Y') (c₁ tk:Nat),(∀b o,b≠S->s.heap.get? b=some o->h.get? b=some o)->h.get? S=some {cls:= .type "list",data:= .seq #[] c₁}->codeAny (model prog w) A (.builtin "list.extend.loop" ⟨[.ref S,.ref z,res],[]⟩) R {s with heap:=h,toks:=tk}:=by
  intro h c₁ tk hk US;exact P5 (s:=s) (h₁:=s.heap) hh D ZN n' S L6 he hn res hR xs.size 0 h tk c₁ #[] [] (zc _) (cH _) (sY.keep hk n') (λb o hb _ _ _ _ e=>hk b o hb e) US Z Z ⟨List.Pairwise.nil,(λ_ ha=>nomatch ha),(λj a hj=>by simp at hj)⟩ (a_ US)
 obtain⟨f0,f,hz,_⟩:=sY.z;have hT:s.TypeIs (.ref z) "zip":=⟨_,hz,Z⟩;unfold Builtin.List.listExtendWith;refine aw (wpAny_typeOf (T:="zip") hT ?_);have h1:Builtin.List.listSameRef (.ref S) (.ref z)=false:=by simp[Builtin.List.listSameRef,ZN]
 rw[ax (by rw[h1];decide)];refine aw (wpAny_pyIter_slot hT F.slot_zip_iter (uw F.slot_zip_iter hT F.entry_zip_iter (show wpAny _ _ (ret (.ref z)) _ _ s from aY ⟨_,Z,"zip",_,hT,vk.lookup,?_⟩) (F.args_zip_iter_1 _)));refine aw (kh ?_);unfold Builtin.List.listLengthHint;refine aw (wpAny_specialOf hT K_ ?_);show wpAny _ A.in1 (specialOf (Value.ref z) (Str.ofString "__length_hint__")>>= _) _ _ _;refine aw (wpAny_specialOf hT HV ?_);refine aY ?_;refine wpAny_ite_split (λ_=> ?_) (λhab=>absurd Z hab);refine aw (si ?_);refine aw ?_;show wpAny _ _ (updateSeq S (·.push .none)>>= λ_=>updateSeq S (·.pop)) _ _ _;refine aw (zV hS Z ?_);have Ju:=ma (Obj.mapSeq (·.push Value.none)) hS rfl;refine zV (hz:=by seq_fits) Ju Z ?_;have aa4:=ma (Obj.mapSeq (·.pop)) Ju rfl;refine aY ⟨plainId_quiet zT _,key _ _ _ (λb o hb e=> ?_) aa4⟩;exact(gn _ _ (ck hb)).trans ((gn _ _ (ck hb)).trans e)
theorem Qz{Q:J'}(hh:A.handled=none)(D:ZipApart z TI TO i1 i2 l1 l2)(he:xs.size=ys.size)(hn:xs.size<=sizeLine)(sY:∀S,s.heap.objs.size<=S->M1 s.heap z TI TO i1 i2 l1 l2 S xs ys 0)
 (hQ:∀h' tk acc c as,(∀b o,b≠z->b≠TO->b≠i1->b≠i2->s.heap.get? b=some o->h'.get? b=some o)->h'.get? s.heap.objs.size=some {cls:= .type "list",dict:=none,data:= .seq acc c,slots:= #[]}->as.length=xs.size->ZG xs ys s.heap.objs.size h' as->
  acc.toList=as.map Value.ref->Q (.ref s.heap.objs.size) {s with heap:=h',toks:=tk}):
 wpAny (model prog w) A (call (.type "list") [.ref z]) Q E s:=by
 have ac:=sY s.heap.objs.size (aK _)
 have n:∀b∈[z,TI,TO,i1,i2,l1,l2],b<s.heap.objs.size:=λb hb=>by
  obtain⟨⟨f0,f,hz,hw⟩,Kf,⟨a,b',O_⟩,⟨o1,e1,h1⟩,⟨o2,e2,h2⟩,⟨o3,e3,E9⟩,⟨o4,e4,n5⟩⟩:=ac;simp only[aP,cO,cR] at hb;rcases hb with rfl|rfl|rfl|rfl|rfl|rfl|rfl
  .exact a_ hz
  .exact a_ Kf
  .exact a_ O_
  .exact a_ e1
  .exact a_ e2
  .exact a_ e3
  .exact a_ e4
 refine callType_codes (Q₁:=λobj bR=>obj= .ref s.heap.objs.size/\bR={s with heap:=s.heap.push {cls:= .type "list",data:= .seq #[]}}) F.called_list (F.typeCall_list_1 _) F.entry_list_init
  (code_list_new _ ⟨Z,Z⟩) λobj bR h₁=> ?_
 obtain⟨rfl,rfl⟩:=h₁;have hS:(s.heap.push {cls:= .type "list",data:= .seq #[]}).get? s.heap.objs.size=some {cls:= .type "list",data:= .seq #[]}:=cV _ rfl;refine⟨⟨_,hS,Z⟩,F.args_list_init_2 _ _,?_⟩;show wpAny _ _ (do let old<-Builtin.List.listItems (.ref s.heap.objs.size);Builtin.List.listUpdate (.ref s.heap.objs.size) (λ_=> #[]);letGo old.toList.reverse;Builtin.List.listExtendWith (.ref s.heap.objs.size) (.ref z) .none) _ _ _;refine aw ?_;unfold Builtin.List.listItems;refine aw (oP hS Z (aY ?_));show wpAny _ _ (updateSeq s.heap.objs.size (λ_=> #[])>>= λ_=>letGo (#[]:Array M').toList.reverse>>= λ_=>Builtin.List.listExtendWith (.ref s.heap.objs.size) (.ref z) .none) _ _ _;refine aw (zV hS Z ?_);have Ju:=ma (Obj.mapSeq (λ_=>(#[]:Array M'))) hS rfl
 have oth:∀b o,b≠s.heap.objs.size->s.heap.get? b=some o->((s.heap.push {cls:= .type "list",data:= .seq #[]}).update s.heap.objs.size (Obj.mapSeq (λ_=>(#[]:Array M')))).get? b=some o:=
  λb o hb e=>(gn _ _ (ck hb)).trans (bq _ e)
 refine aw (wpAny_letGo ?_);refine KG (A:=A.in1) hh D (jD (n z (by simp))) n he hn .none _ Ju (ac.keep oth λb hb=>cJ (n b hb)) (λh' tk acc c as hk hS' hl hG DR=> ?_);exact⟨Z,hQ h' tk acc c as (λb o h2 h3 h4 h5 e=>hk b o (cJ (a_ e)) h2 h3 h4 h5 (oth b o (cJ (a_ e)) e)) hS' hl hG DR⟩
end
noncomputable abbrev PB(h:Y')(l1:S'):Y':=h.push {cls:= .type "tuple_iterator",data:= .fields #[.ref l1,.int 0 0]}
noncomputable abbrev PX(h:Y')(l1 l2:S'):Y':=(PB h l1).push {cls:= .type "tuple_iterator",data:= .fields #[.ref l2,.int 0 0]}
noncomputable abbrev QU(h:Y')(l1 l2:S'):Y':=(PX h l1 l2).push {cls:= .type "tuple",data:= .seq #[.ref h.objs.size,.ref (PB h l1).objs.size]}
noncomputable abbrev Px(h:Y')(l1 l2:S'):Y':=(QU h l1 l2).push {cls:= .type "tuple",data:= .seq #[.none,.none]}
noncomputable abbrev GR(h:Y')(l1 l2:S'):Y':=(Px h l1 l2).push {cls:= .type "zip",data:= .fields #[.none,.bool false,.bool false,.ref (PX h l1 l2).objs.size,.ref (QU h l1 l2).objs.size]}
theorem WH(l1 l2:S')(xs ys:Array M'):
 Meets (Builtin.«zip.__new__» ⟨[.type "zip",.ref l1,.ref l2],[]⟩) (λ_ R s=>s.heap.IsTuple l1 xs/\s.heap.IsTuple l2 ys/\
  R (.ok (.ret (.ref (Px s.heap l1 l2).objs.size))) {s with heap:=GR s.heap l1 l2}):=
 .of_wp λprog w A R s h=>by
  obtain⟨hp,g,d,tk,os⟩:=s;obtain⟨E9,n5,h⟩:=h
  have alj:=sub_zip;have hL1:Heap.IsTuple (Shared.heap ⟨hp,g,d,tk,os⟩) l1 xs:=E9;have hL2:Heap.IsTuple (Shared.heap ⟨hp.push {cls:= .type "tuple_iterator",data:= .fields #[.ref l1,.int 0 0]},g,d,tk,os⟩) l2 ys:=Heap.IsTuple.push n5 _
  wp_walk using zF hL1,zF hL2
  exact⟨_,Z,h⟩
section
variable{prog:Z'}{w:W'}{A:X'}{E:J'}{s:R'}
theorem QX{l1 l2:S'}{xs ys:Array M'}{Q:J'}(E9:s.heap.IsTuple l1 xs)(n5:s.heap.IsTuple l2 ys)
 (h:∀h',(∀S,h'.objs.size<=S->M1 h' (s.heap.objs.size+4) (s.heap.objs.size+2) (s.heap.objs.size+3) s.heap.objs.size (s.heap.objs.size+1) l1 l2 S xs ys 0)->h'.objs.size=s.heap.objs.size+5->
  (∀c o,s.heap.get? c=some o->h'.get? c=some o)->Q (.ref (s.heap.objs.size+4)) {s with heap:=h'}):
 wpAny (model prog w) A (call (.type "zip") [.ref l1,.ref l2]) Q E s:=by
 refine callType_new F.called_zip (by decide) (F.typeCall_zip_2 _ _) (F.newCall_zip_2 _ _) (λobj=>F.args_object_init_3 obj _ _) F.entry_zip_new
  (WH l1 l2 xs ys) ⟨E9,n5,?_⟩
 have z1:(PB s.heap l1).objs.size=s.heap.objs.size+1:=kl ..;have z2:(PX s.heap l1 l2).objs.size=s.heap.objs.size+2:=by rw[kl,z1]
 have z3:(QU s.heap l1 l2).objs.size=s.heap.objs.size+3:=by rw[kl,z2]
 have z4:(Px s.heap l1 l2).objs.size=s.heap.objs.size+4:=by rw[kl,z3]
 have z5:(GR s.heap l1 l2).objs.size=s.heap.objs.size+5:=by rw[kl,z4]
 have g5:(GR s.heap l1 l2).get? (Px s.heap l1 l2).objs.size=some _:=cV _ rfl;have g4:(GR s.heap l1 l2).get? (QU s.heap l1 l2).objs.size=some _:=bq _ (cV _ Z);have g3:(GR s.heap l1 l2).get? (PX s.heap l1 l2).objs.size=some _:=bq _ (bq _ (cV _ Z));have g2:(GR s.heap l1 l2).get? (PB s.heap l1).objs.size=some _:=bq _ (bq _ (bq _ (cV _ Z)));have g1:(GR s.heap l1 l2).get? s.heap.objs.size=some _:=bq _ (bq _ (bq _ (bq _ (cV _ Z))));show _/\_;rw[z2,z3,z4] at g5;rw[z1,z2] at g3;rw[z3] at g4;rw[z1] at g2;rw[z4];have kp:∀c o,s.heap.get? c=some o->(GR s.heap l1 l2).get? c=some o:=λc o x=>bq _ (bq _ (bq _ (bq _ (bq _ x))));refine⟨⟨_,g5,Z⟩,h _ (λS hS=>⟨⟨_,_,g5,.inl ⟨Z,Z⟩⟩,g3,⟨_,_,g4⟩,⟨_,g1,Z,Z⟩,⟨_,g2,Z,Z⟩,?_,?_⟩) z5 kp⟩
 .obtain⟨o,e,r⟩:=E9;exact⟨o,kp _ _ e,r⟩
 .obtain⟨o,e,r⟩:=n5;exact⟨o,kp _ _ e,r⟩
end
structure CP(H:Hp)(zs xs ys:ak):Prop where
 len:zs.length=xs.length
 at_:∀(j:Nat) x y,xs[j]? =some x->ys[j]? =some y->∃t,zs[j]? =some (.ref t)/\H t=some (.tup [x,y])
noncomputable def Wt(xs ys:ak)(j:Nat):ak:=match xs[j]?,ys[j]? with
 |some x,some y=>[x,y]
 |_,_=>[]
section
variable{X:Cx}{a b:V'}{ta:TA}{p p' pos pos' :Pos}
def MC(K:Frag)(ta:TA):TE:=λσ H Q=>ta σ H λvs H1=>∃t1 t2 xs ys,vs=[.ref t1,.ref t2]/\bc K H1 t1 xs/\bc K H1 t2 ys/\xs.length=ys.length/\
 ∀l zs H',H1 l=none->ah H1 H'->H' l=some (.lst zs)->CP H' zs xs ys->Q (.ref l) H'
theorem Hr(hc:X.calm=true)(hg:Gl X "list")(hm:X.mg "list"=none)(hg' :Gl X "zip")(Pa :X.mg "zip"=none)(ha:PA X [a,b] ta)(hs:starEach [a,b] X.env=[(false,eval a X.env),(false,eval b X.env)]:=by rfl)(Wk:starEach [b] X.env=[(false,eval b X.env)]:=by rfl)
 (hs' :starEach [Expr.Call (.Name "zip" p') [a,b] [] pos'] X.env=[(false,eval (.Call (.Name "zip" p') [a,b] [] pos') X.env)]:=by rfl):
 PE X (.Call (.Name "list" p) [.Call (.Name "zip" p') [a,b] [] pos'] [] pos) (MC X.K ta):=by
 intro ad s σ H Q I h;refine lV (uH I hg hm Boot.«list» ?_);refine zK ?_ hs' rfl;rw[hs'];show wpAny _ _ (spliced ((false,eval (.Call (.Name "zip" p') [a,b] [] pos') X.env)::backTo pos [])) _ _ s;refine uu (Call_ (uH I hg' Pa Boot.«zip» (zK (dk (ha pos' ad s σ H _ I h) λus s1 ⟨vs,H1,I1,r1,q1⟩=> ?_) (by rw[hs,Wk]) (by rw[Wk];rfl))));obtain⟨l1,l2,xs,ys,e,hq,hq2,hl,q⟩:=q1;subst e;obtain⟨u,v,rfl,ru,rv⟩:=jad r1;cases ru;cases rv;obtain⟨its,rx,p1,hz⟩:=I1.tuple hq;obtain⟨pB,ry,p2,JE⟩:=I1.tuple hq2;have uo:s1.heap.IsTuple l1 its.toArray:=p1;have wO:s1.heap.IsTuple l2 pB.toArray:=p2;have hlx:=rx.length;have hly:=ry.length;have aez:l1<s1.heap.objs.size:=by obtain⟨o,e,_⟩:=uo;exact a_ e
 have QF:l2<s1.heap.objs.size:=by obtain⟨o,e,_⟩:=wO;exact a_ e
 refine QX uo wO λl9 sY ql PQ=> ?_;refine wF ?_;have hsa:its.toArray.size=pB.toArray.size:=by rw[bJ,bJ];lia
 refine Qz (s:={s1 with heap:=l9}) (I1.ok.hd hc) (Ln _ _ _ aez QF) hsa (by rw[bJ];lia) sY λh' tk acc c as hk hS Lh hG DR=> ?_
 have kp:∀b o,s1.heap.get? b=some o->h'.get? b=some o:=λb o e=>by
  have q:b<s1.heap.objs.size:=a_ e;exact hk b o (cJ (cP q (o6 _ _))) (cJ (cP q (o6 _ _))) (cJ q) (cJ (cP q (o6 _ _))) (PQ b o e)
 dsimp only at hS hG ⊢;have hLo:s1.heap.objs.size<=l9.objs.size:=by lia
 have Xw:H1 l9.objs.size=none:=I1.bS.fresh hLo;have X8:∀a∈as,H1 a=none:=λa ha=>I1.bS.fresh (aU hLo (cT (hG.above a ha)))
 let H' :Hp:=λa=>if a=l9.objs.size then some (.lst (as.map V.ref)) else if a∈as then some (.tup (Wt xs ys (as.idxOf a))) else H1 a
 have sm:∀a o,H1 a=some o->H' a=some o:=λa o e=>by
  show(if a=l9.objs.size then some (.lst (as.map V.ref)) else if a∈as then some (.tup (Wt xs ys (as.idxOf a))) else H1 a)=some o;rw[ax (aA e Xw),ax λz=>by rw[X8 a z] at e;cases e];exact e
 have XA :H' l9.objs.size=some (.lst (as.map V.ref)):=aB rfl
 have hi:∀(j:Nat) a,as[j]? =some a->H' a=some (.tup (Wt xs ys j)):=λj a e=>by
  have hm:=bE e;show(if a=l9.objs.size then some (.lst (as.map V.ref)) else if a∈as then some (.tup (Wt xs ys (as.idxOf a))) else H1 a)=_;rw[ax (jD (hG.above a hm)),aB hm,Xf hG.rise e]
 have N9 :as.length=xs.length:=by rw[Lh,bJ];lia
 have I2:Inv X ad σ H' {s1 with heap:=h',toks:=tk}:=by
  refine I1.more kp sm λa ob e=> ?_;by_cases z1:a=l9.objs.size
  .subst z1;rw[XA] at e;cases e;refine .inr ⟨hLo,by rw[a6];lia,acc.toList,c,?_,hS⟩;rw[DR];clear DR hS hG Lh hi XA sm X8 N9
   induction as with
   |nil=>exact .nil
   |cons a r ih=>exact .cons Z ih
  .by_cases z2:a∈as
   .obtain⟨j,hj⟩:=zr.mp z2;rw[hi j a hj] at e;cases e;obtain⟨x,y,e1,e2,e3⟩:=hG.pairs j a hj
    have hjl:j<xs.length:=by
     have:=(c8.mp hj).1
     lia
    have afx:j<ys.length:=by lia
    have hp:xs[j]? =some xs[j]:=by simp[hjl]
    have CO:ys[j]? =some ys[j]:=by simp[afx]
    obtain⟨x',ex,rx'⟩:=rx.get hp;obtain⟨y',ey,ry'⟩:=ry.get CO;have e1' :its[j]? =some x:=by simpa using e1
    have Pm :pB[j]? =some y:=by simpa using e2
    rw[ex] at e1';rw[ey] at Pm;cases e1';cases Pm;refine .inr ⟨aU hLo (cT (hG.above a z2)),?_⟩;unfold Wt;rw[hp,CO];exact⟨(show 2<=sizeLine by decide),[_,_],.cons rx' (.cons ry' .nil),⟨_,e3,Z,_,Z⟩⟩
   .left
    have:H' a=H1 a:=by
     show(if a=l9.objs.size then some (.lst (as.map V.ref)) else if a∈as then some (.tup (Wt xs ys (as.idxOf a))) else H1 a)=H1 a;rw[ax z1,ax z2]
    rw[<-this];exact e
 refine⟨.ref l9.objs.size,H',I2,Z,q _ _ H' Xw sm XA ⟨by rw[a6];exact N9,λj x y ex ey=> ?_⟩⟩
 have hjl:j<as.length:=by
  have:=(c8.mp ex).1
  lia
 have ha:as[j]? =some as[j]:=by simp[hjl]
 refine⟨as[j],by rw[bY,ha];rfl,?_⟩;rw[hi j _ ha];unfold Wt;rw[ex,ey]
end
section
variable{M:Model}{A:X'}{E:J'}
theorem wz{h:Y'}{g:Array GenState}{d:Drawn}{t:Nat}{os:OsState}{e C D N N' :S'}{oe:Obj}{nm q nm' q' :Str}{bs bm bs' bm' :aG}{jf aaD :Bool}{sn sn' :au}{sub aeZ :aG}{ab ab' :Bool}{col adT :Option Bool}{dd Xz :Option S'}{k0 k1 k2 k3 k5 j0 j1 j2 j3 j5:aO}{i j:String}{b:Bool}{Q:Bool->R'->Prop}
 (hC:h.get? C=some (excClassObj nm q C N bs bm jf sn sub ab col dd k0 k1 k2 k3 k5 i)) (hD:h.get? D=some (excClassObj nm' q' D N' bs' bm' aaD sn' aeZ ab' adT Xz j0 j1 j2 j3 j5 j)) (he:h.get? e=some oe) (HR:oe.cls= .ref C) (AS:bm'.contains (.type "BaseException")=true)
 (Yk:(Value.ref C::bm).contains (.ref D)=b) (hq:Q b ⟨h,g,d,t,os⟩):wpAny M A (excMatches (.ref e) (.ref D)) Q E ⟨h,g,d,t,os⟩:=by
 have QS:(Value.ref D::bm').contains (.type "BaseException")=true:=by rw[qU,AS,sk]
 have f:=tc_notTuple;unfold excMatches
 repeat (first|(with_reducible refine jA he ?_;rw[HR])|with_reducible refine jA hD ?_|(with_reducible refine qE hD ?_;rw[QS])|(with_reducible refine qE hC ?_;rw[Yk])|wp_step)
 cases b with
 |true=>
  rw[aB Z]
  repeat wp_step
  exact hq
 |false=>
  rw[ax (by decide)]
  repeat wp_step
  exact hq
end
structure Hc(K:Frag)(C D:S'):Prop where
 ex:∃nm q N bs bm jf sn sub ab col dd k0 k1 k2 k3 k5 i,K.lookup C=some (excClassObj nm q C N bs bm jf sn sub ab col dd k0 k1 k2 k3 k5 i)/\(Value.ref C::bm).contains (.ref D)=false
def Ek(K:Frag)(C:S'):List (S'×TS)->TS->Prop
 |[],_=>False
 |p::r,t=>(Under K C p.1/\t=p.2)\/(Hc K C p.1/\Ek K C r t)
inductive GX (X:Cx) (nm:Str):List ExceptHandler->List (S'×TS)->Prop
 |nil {r:List ExceptHandler}:GX X nm r []
 |cons {c:Str} {cp Ey:Pos} {b0:Stmt} {Gg:List Stmt} {rest:List ExceptHandler} {D:S'} {th:TS} {L:List (S'×TS)} (hg:Gl X c) (hm:X.mg c=some (.ref D)) (hD:ExcC X.K D) (rW:(c==("__debug__" :Str))=false)
  (hs:∀a,CW (X.AD a λ_ _=>False) (b0::Gg) th) (r:GX X nm rest L):GX X nm (.ExceptHandler (some (.Name c cp)) (some nm) (b0::Gg) Ey::rest) ((D,th)::L)
section
variable{X:Cx}{body:List Stmt}{GG:List ExceptHandler}{nm:Str}{pos:Pos}{tb:XK->TS}{i:Nat}{L:List (S'×TS)}
def To(K:Frag)(len:Nat)(L:List (S'×TS))(i:Nat)(Ds:Ends):XK:=λCv dd H=>∃C th,Cv= .ref C/\Ek K C L th/\∀(a:S') (σ:St),H a=some (.ext (eW a C dd false))->σ.length=len->th (Ji i Ds) (σ.set i (some (.ref a))) H
def aaT(K:Frag)(len:Nat)(L:List (S'×TS))(i:Nat)(tb:XK->TS):TS:=λDs σ H=>tb (To K len L i Ds) Ds σ H
theorem NT{ad:aQ}{σ:St}{H:Hp}{a C T:S'}{dd:Option S'}{th:TS}{Ds:Ends}(hN:X.N.Nodup)(hi:X.N[i]? =some nm)(IY:X.env.kindOf nm=some .local)(Hs:GX X nm GG L)(ct:Ek X.K C L th):
 ∀s:R',Inv X ad σ H s->Mj X ad H s.heap a T->H a=some (.ext (eW a C dd false))->th (Ji i Ds) (σ.set i (some (.ref a))) H->wpAny (model X.prog X.w) X.A (handleBy (.ref a) X.env GG) (SP X ad Ds) X.xe s:=by
 induction Hs with
 |nil=>exact ct.elim
 | @cons c cp Ey b0 Gg rest D th' L' hg hm hD rW hs r ih=>
  intro s I held ea q;obtain⟨vs,he,hv,_⟩:=qM I.bS ea;refine wpAny_handleBy_cons (codeAny_handlers_test ?_) (by intro q;cases q);refine kL (I.AD a λ_ _=>False) hg hm ?_ rW;obtain⟨nm2,q2,N2,bs2,bm2,hd2,sn2,aki,ab2,akK,VJ,j0,j1,j2,j3,j5,lk2,T2⟩:=hD.obj;have hDD:=I.jO _ _ lk2;rcases ct with⟨un,rfl⟩|⟨un,ct⟩
  .obtain⟨nm1,q1,N1,bs1,bm1,RZ,sn1,afc,Xc,aet,YK,k0,k1,k2,k3,k5,i1,lk,Yk⟩:=un.ex;have hC:=I.jO _ _ lk;obtain⟨CO,g2,d2,t2,os2⟩:=s;refine wz hC hDD he Z T2.hasBase Yk ?_;refine codeAny_handlers_suite_as ?_;refine LG I held λs3 I3 ahz=> ?_;refine nO (X:=X.AD a λ_ _=>False) (I3.AD a λ_ _=>False) hN hi (.inl IY) (show RelV (.ref a) (.ref a) from Z) (λs4 I4=> ?_) (.inr IY);refine fV (hs a ad s4 _ _ (Ji i Ds) I4 q) (λf s5 z=> ?_) λ_ _ z=>z.elim;have HR:(X.env.scope.kind== .class||(X.env.scope.kind== .module&&X.env.locals !=X.env.globals))=false:=by rw[I.ok.kind];rfl
   have goes:∀{Xn:St} {H5:Hp} {Q:Unit->R'->Prop},Inv X ad Xn H5 s5->(∀s6,Inv X ad (Xn.set i none) H5 s6->Q () s6)->wpAny (model X.prog X.w) X.A (do bindName X.env nm .none;unbindBehindTheSuite X.env nm Ey) Q X.xe s5:=λ{Xn H5 Q} J5 hQ=>by
    obtain⟨m,hm5,_⟩:=id J5.loc;exact wpAny_nameGoes_keeps IY hm5 HR λh' v hn sb=>hQ _ (J5.Qf (t' :=s5.toks+1) hN hi hm5 hn sb)
   cases f with
   |next=>obtain⟨Xn,H5,I5,q5⟩:=z;exact goes (I5.ER I.ok) λs6 I6=>⟨_,_,I6,q5⟩
   |brk=>obtain⟨Xn,H5,I5,q5⟩:=z;exact goes (I5.ER I.ok) λs6 I6=>⟨_,_,I6,q5⟩
   |cont=>obtain⟨Xn,H5,I5,q5⟩:=z;exact goes (I5.ER I.ok) λs6 I6=>⟨_,_,I6,q5⟩
   |ret u=>obtain⟨v,Xn,H5,I5,r5,q5⟩:=z;exact goes (I5.ER I.ok) λs6 I6=>⟨v,_,_,I6,r5,q5⟩
  .obtain⟨nm1,q1,N1,bs1,bm1,RZ,sn1,afc,Xc,aet,YK,k0,k1,k2,k3,k5,i1,lk,Yk⟩:=un.ex;have hC:=I.jO _ _ lk;obtain⟨CO,g2,d2,t2,os2⟩:=s;refine wz hC hDD he Z T2.hasBase Yk ?_;exact ih ct _ I held ea q
theorem Q0(sY:X.stack=X.env::X.outer)(wo:X.env.frame=some X.env.locals)(hN:X.N.Nodup)(hi:X.N[i]? =some nm)(IY:X.env.kindOf nm=some .local)(Hs:GX X nm GG L)
 (hb:∀(E:XK) (pn:aQ) (W:J'),CL (X.pinned pn W) E->CW (X.pinned pn W) body (tb E)) (wQ:∃h0 r,GG=h0::r:=by exact⟨_,_,Z⟩):
 PS X (.Try body GG [] [] pos) (aaT X.K X.N.length L i tb):=by
 obtain⟨h0,r0,rfl⟩:=wQ;intro ad s σ H Ds I h;refine wpAny_Try_except ?_
 have hw:CL (X.pinned ad λe bR=>wpAny (model X.prog X.w) X.A (noteFrame e X.env) (λ_ uO=>wpAny (model X.prog X.w) X.A (setFlight e none) (λ_ yS=>wpAny (model X.prog X.w) X.A (handleBy e X.env (h0::r0)) (SP X ad Ds) X.xe yS) X.xe uO) X.xe bR)
  (To X.K X.N.length L i Ds):=by
  intro Gb fD H' s' a C dd n I' ea fl q;have J:Inv X ad fD H' s' :=I'.ofPinned I.ok
  have fl' :GI X ad H' s'.heap a:=by
   rcases fl with z|⟨T,oe,f,z1,z2,z3⟩
   .exact .inl z
   .exact .inr ⟨T,oe,f,z1,z2,λp hp=>z3 p (rK _ hp)⟩
  obtain⟨C',th,eC,ct,q⟩:=q;cases eC;refine K3 J sY wo ea fl' λs2 T I2 held=> ?_;have ea2:upd H' a (.ext (eW a C dd false)) a=some (.ext (eW a C dd false)):=af;exact NT hN hi IY Hs ct s2 I2 held ea2 (q a fD ea2 I2.len)
 refine fV (hb _ ad _ hw [] s σ H Ds (I.N5 _) h) (λf s1 z=> ?_) λ_ _ z=>z
 cases f with
 |next=>obtain⟨fD,H',I',q⟩:=z;exact zq ⟨fD,H',I'.ofPinned I.ok,q⟩
 |brk=>obtain⟨fD,H',I',q⟩:=z;exact⟨fD,H',I'.ofPinned I.ok,q⟩
 |cont=>obtain⟨fD,H',I',q⟩:=z;exact⟨fD,H',I'.ofPinned I.ok,q⟩
 |ret u=>obtain⟨v,fD,H',I',r,q⟩:=z;exact⟨v,fD,H',I'.ofPinned I.ok,r,q⟩
end
section
variable{X:Cx}{tg:V'}
noncomputable def NM(K:Frag)(t:Bool)(a:S'):It:=if t then Wj K a else VC K a
def iSq(K:Frag)(tl:TE):TI:=λσ H R=>tl σ H λx H1=>∃a,∃t:Bool,x= .ref a/\(if t then(∃xs,bc K H1 a xs) else ∃xs,cF K H1 a xs)/\R (NM K t a) H1
theorem pq{l:V'}{tl:TE}(hl:PE X l tl):PI X tg l (iSq X.K tl):=by
 intro ad s σ H R I h;have key:=hl ad s σ H _ I h;refine dk key λv s1 ⟨x,H1,I1,r1,q1⟩=> ?_;obtain⟨a,t,e,hq,q⟩:=q1;subst e;cases r1
 cases t with
 |false=>
  obtain⟨xs,hq⟩:=hq;obtain⟨its,rv,p,hz⟩:=I1.list hq;refine vS p.isList ?_;refine⟨s1.heap.objs.size,[s1.heap.objs.size],_,_,H1,Z,I1.kept (t' :=s1.toks) λb o e=>bq _ e,Dg a _,⟨_,cV _ Z,Z,Z⟩,λb hb=> ?_,q⟩;have e:b=s1.heap.objs.size:=by simpa using hb
  subst e;exact I1.ID (aK _) (I1.bS.fresh (aK _))
 |true=>
  obtain⟨xs,hq⟩:=hq;obtain⟨its,rv,p,hz⟩:=I1.tuple hq;refine zF (show s1.heap.IsTuple a its.toArray from p) ?_;refine⟨s1.heap.objs.size,[s1.heap.objs.size],_,_,H1,Z,I1.kept (t' :=s1.toks) λb o e=>bq _ e,A4 a _,⟨_,cV _ Z,Z,Z⟩,λb hb=> ?_,q⟩;have e:b=s1.heap.objs.size:=by simpa using hb
  subst e;exact I1.ID (aK _) (I1.bS.fresh (aK _))
end
noncomputable def EF(t:Bool)(xs:ak):HO:=if t then .tup xs else .lst xs
theorem ng{K:Frag}{t:Bool}{a:S'}{xs:ak}{g:TG}{tb:TS}{D:Ends}{σ:St}{H:Hp}(Pv:Nat->St->Hp->Prop)(h0:Pv 0 σ H)(hl:∀i σ H,i<=xs.length->Pv i σ H->H a=some (EF t xs))
 (hs:∀i x σ H,xs[i]? =some x->Pv i σ H->g x σ H λmY H2=>tb {D with nx:=Pv (i+1),ct:=Pv (i+1),bk:=D.nx} mY H2) (hd:∀σ H,Pv xs.length σ H->D.nx σ H):
 ∃W:Nat->Nat->St->Hp->Prop,(∃m,W 0 m σ H)/\∀i m σ H,W i m σ H->
  ((NM K t a).stop i H/\D.nx σ H)\/((NM K t a).go i H/\∃N:St->Hp->Prop,(∀fD H',N fD H'->∃m',m' <m/\W (i+1) m' fD H')/\∀x H',(NM K t a).BM i H x H'->g x σ H' λmY H2=>tb {D with nx:=N,ct:=N,bk:=D.nx} mY H2):=by
 cases t with
 |false=>exact jb Pv h0 (λi σ H hi p=>cF.of (hl i σ H hi p)) hs hd
 |true=>exact Eh Pv h0 (λi σ H hi p=>bc.of (hl i σ H hi p)) hs hd
theorem Gp{K:Frag}{t:Bool}{a:S'}{xs:ak}{H:Hp}(h:H a=some (EF t xs)):vP (NM K t a) H xs:=by
 cases t with
 |false=>exact fL (cF.of h)
 |true=>exact se (bc.of h)
theorem LY{K:Frag}{t:Bool}{a:S'}{xs:ak}{H:Hp}(h:H a=some (EF t xs)):if t then(∃xs,bc K H a xs) else ∃xs,cF K H a xs:=by
 cases t with
 |false=>exact⟨xs,cF.of h⟩
 |true=>exact⟨xs,bc.of h⟩
theorem aa5{K:Frag}{t:Bool}{a:S'}{xs:ak}{H:Hp}(h:H a=some (EF t xs)):cF K H a xs\/bc K H a xs:=by
 cases t with
 |false=>exact .inl (cF.of h)
 |true=>exact .inr (bc.of h)
section
variable{prog:Z'}{w:W'}{A:X'}{E:J'}{s:R'}
theorem sM{t sl:S'}{items:Array M'}{vl vu:M'}{lo hi:Option Int}{Q:J'}(ht:IsTup s.heap t items)(hs:s.heap.IsSliceOf sl vl vu .none)(pl:IsPart vl lo)(pu:IsPart vu hi)
 (h0:HT.gH items.size 0 lo=0) (h1:HT.gH items.size items.size hi=items.size) (h:Q (.ref t) s):wpAny (model prog w) A (getItem (.ref t) (.ref sl)) Q E s:=by
 obtain⟨os,VT,hcs,Hh⟩:=id hs;have Yp:s.TypeIs (.ref sl) "slice":=⟨os,VT,hcs⟩;unfold getItem
 try with_reducible refine kh ?_
 first|refine aw (aY ?_)|skip
 refine aw (wpAny_sequenceKey ht.typeIs (by decide) ?_)
 refine aw (xc (name:=Str.ofString "__getitem__") ht.typeIs xf
  (uw xf ht.typeIs entry_tuple_getitem ?_ (args_tuple_getitem _ _)))
 show wpAny _ _ (Builtin.Tuple.tupleItemsOf (.ref t)>>= _) _ _ s;refine aw (tupleItemsOf_ ht ?_);refine aw (wpAny_typeOf Yp ?_);rw[aB (by decide)];refine aw (HT.nJ hs pl pu ?_);show wpAny _ _ (if(((HT.gH items.size 0 lo:Nat):Int)==0&&(1:Int)==1&&(HT.gH items.size items.size hi - HT.gH items.size 0 lo)==items.size)=true then _ else _) _ _ s;rw[aB (by rw[h0,h1];simp)];refine aw ?_;unfold Builtin.Tuple.tupleIsExact;refine aw (wpAny_typeOf ht.typeIs (aY ?_));rw[aB (by decide)];exact aw (si (aY ⟨_,Z,aY h⟩))
end
section
variable{X:Cx}{e lo hi stp:V'}{te tl th ts:TE}{pos p2:Pos}
def Zv(K:Frag):V->Option Int->Option Int->Hp->VK->Prop:=λx lo hi H Q=>∃a xs,x= .ref a/\bc K H a xs/\
 ((HT.gH xs.length 0 lo=0/\HT.gH xs.length xs.length hi=xs.length)->Q (.ref a) H)/\(¬(HT.gH xs.length 0 lo=0/\HT.gH xs.length xs.length hi=xs.length)->∀p,H p=none->Q (.ref p) (upd H p (.tup (cZ xs lo hi))))
theorem Jr:X4 X (Zv X.K):=by
 intro ad s σ H x v vl vu lo hi sl Q I rx hs pl pu h;obtain⟨a,xs,rfl,hx,q0,q1⟩:=h;by_cases hw:HT.gH xs.length 0 lo=0/\HT.gH xs.length xs.length hi=xs.length
 .cases rx;obtain⟨its,r,ht,hz⟩:=I.tuple hx;have hlen:its.toArray.size=xs.length:=by rw[bJ];exact r.length.symm
  refine⟨"tuple",_,xf.lookup,ht.typeIs,?_⟩;exact sM ht hs pl pu (by rw[hlen];exact hw.1) (by rw[hlen];exact hw.2) ⟨.ref a,H,I,Z,q0 hw⟩
 .exact iu ad s σ H _ v vl vu lo hi sl Q I rx hs pl pu ⟨a,xs,Z,hx,hw,q1 hw⟩
end
theorem Dn(hc:X.calm=true):iZ X (.builtin "max") (λxs H Q=>∃(a:S') (i j:Int),xs=[.ref a]/\H a=some (.lst [.int i,.int j])/\Q (.int (if j>i then j else i)) H):=by
 intro ad s σ H xs us Q I r h;obtain⟨a,i,j,rfl,ha,q⟩:=h;obtain⟨u,rfl,ru⟩:=Wp r;cases ru;obtain⟨its,r,pl,hz⟩:=I.list (cF.of ha);obtain⟨u1,u2,rfl,⟨t1,rfl⟩,⟨t2,rfl⟩⟩:=jad r;have kG:=I.bS.lt ha;have I1:Inv X ad σ H {s with heap:=s.heap.push {cls:= .type "list_iterator",data:= .fields #[.ref a,.int 0 0]}}:=I.kept (t' :=s.toks) λb u e=>bq _ e
 have abm:∀(k:Nat) v,([Value.int i t1,Value.int j t2]:aG).toArray[k]? =some v->∃t,v= .int (if k=0 then i else j) t:=λk v e=>by
  match k with
  |0=>cases e;exact⟨t1,Z⟩
  |1=>cases e;exact⟨t2,Z⟩
  |k+2=>cases e
 refine call_max_walk (vS pl.isList ⟨_,_,_,_,_,_,_,Z,Walks.list (A:=X.A.in1) (I.ok.hd hc) _ a (cJ kG) _,⟨⟨_,cV _ Z,Z,Z⟩,pl.isList.push _⟩,?_,by simp,CmpOf.ints_gt (λk=>if k=0 then i else j) abm,λv h' tk hP k=> ?_⟩)
 .intro b wL;have wL :b=s.heap.objs.size\/b=a:=by simpa using wL
  show b<(s.heap.push _).objs.size;rw[kl];rcases wL with rfl|rfl
  .exact zh _
  .exact Nat.lt_succ_of_lt kG
 .refine⟨.int (if j>i then j else i),H,I1.turned (λb o hb e=>k b o (by simpa using hb) e) (I.bS.fresh (aK _)) (λz=> ?_) (.inr I.sz) (λx c e z=> ?_) (λp hp z=> ?_),?_,q⟩
  .exact absurd (z▸I.lt) (cA _)
  .obtain⟨v,o,ho,_⟩:=I.cell x c e;exact absurd (z▸a_ ho) (cA _)
  .obtain⟨ho,_⟩:=I.pin p hp;exact absurd (z▸a_ ho) (cA _)
  .obtain⟨t,rfl⟩:=abm _ v hP;refine⟨t,?_⟩
   congr 1
   show(if(if decide ((if(0+1:Nat)=0 then i else j)>(if(0:Nat)=0 then i else j))=true then 1 else 0)=0 then i else j)=_;by_cases hj:j>i
   .simp[hj]
   .simp[hj]
structure WV(K:Frag)(x qual:Str)(st:Stmt)(f:S')(fd:aad):Prop where
 ex:∃(oc:M') (od:Option S') (dV kV doc pm:M') (an:Option S') (cB ct:M') (xC:Array (aO)),
  fd=PySem.W.fnOf x qual (hX st) (dN st) (av st) dV kV doc pm an cB ct/\K.lookup f=some ⟨oc,od,.func fd,xC⟩/\PySem.W.codeIn K cB qual=true
 kp:PySem.W.keepIn K (.ref f)=true
structure FID(K:Frag)(mg:Str->aO)(x:Str)(st:Stmt)(ps:au)(f:S')(fd:aad):Prop where
 m:mg x=some (.ref f)
 F:WV K x x st f fd
 b:Binds K fd ps []
section
variable{P:Z'}{w:W'}{K:Frag}{mg:Str->aO}{base:Y'}
theorem WV.ok{x qual:Str}{st:Stmt}{f:S'}{fd:aad}{N ps:au}{k:Nat}{sp:Sp}(F:WV K x qual st f fd)(S:aJ N ps (av st))(len:∀vs H Q E,sp vs H Q E->vs.length=ps.length)
 (iF:∀(cB:M') (A:X') (outer:List Env) (s:R') (H:Hp) (vs:ak) (Q:VK) (E:XK),dX k (A.deeper (envOfC qual (av st) s.heap.objs.size f cB))->sp vs H Q E->
  ∃t,CW (nD dO P w K mg base N qual (av st) f cB A outer s H E).KD (dN st) t/\t {nx:=λ_ H' =>Q .bp H',rt:=Q} (start N vs) H):aT P w K mg base dO (k+1) f fd ps sp:=by
 obtain⟨oc,od,dV,kV,doc,pm,an,cB,ct,xC,rfl,lk,AO⟩:=F.ex;refine JI lk AO S len λA outer s H vs Q E hr CY=> ?_;obtain⟨t,h,q⟩:=iF cB A outer s H vs Q E hr CY;exact⟨t,h.KD,q⟩
end
section
variable{X:Cx}{CX:uk}{j k:Nat}{f:S'}{fd:aad}{ps:au}{sp:Sp}{E:XK}{x:Str}{st:Stmt}{p pos:Pos}{e:V'}{es:b7}{t:TA}
theorem afH(F:aT X.prog X.w X.K X.mg X.base CX j f fd ps sp)(hr:dX k X.A)(I:FID X.K X.mg x st ps f fd)(hx:wf CX X E)(ha:PA X (e::es) t)(hj:j<=k:=by decide)(hg:Gl X x:=by rfl)
 (rW:(x==("__debug__" :Str))=false:=by decide) (he:starEach (e::es) X.env=(false,eval e X.env)::starEach es X.env:=by rfl) (nA:(backTo pos (starEach es X.env)).any (·.1)=false:=by rfl):
 PE X (.Call (.Name x p) (e::es) [] pos) (yf sp [] E t):=JN (F.mono hj) hr hg I.m I.F.kp I.b .nil hx ha rW he nA
end
theorem Xh{K:Frag}{h:Y'}{mg:Str->aO}{x:Str}{st:Stmt}{ps:au}{f:S'}{oc dV kV dc pm cd ct:M'}{od an:Option S'}{sl:Array (aO)}(X:K.In h)(G:h.Ns mainGlobals mg)(a:PySem.W.nsIn K mainGlobals x=some (some (.ref f)))
 (l:K.lookup f=some ⟨oc,od,.func (PySem.W.fnOf x x (hX st) (dN st) (av st) dV kV dc pm an cd ct),sl⟩) (c:PySem.W.codeIn K cd x=true) (k:PySem.W.keepIn K (.ref f)=true) (b:Binds K (PySem.W.fnOf x x (hX st) (dN st) (av st) dV kV dc pm an cd ct) ps []):
 FID K mg x st ps f (PySem.W.fnOf x x (hX st) (dN st) (av st) dV kV dc pm an cd ct):=⟨PySem.W.mg_of X G a,⟨⟨oc,od,dV,kV,dc,pm,an,cd,ct,sl,Z,l,c⟩,k⟩,b⟩
theorem Oc{α:Type}{n:Nat}{us:List α}(h:us.length=n+1):∃a r,us=a::r/\r.length=n:=by
 cases us with
 |nil=>cases h
 |cons a r=>exact⟨a,r,Z,oG h⟩
theorem bn0{α:Type}{P:List α->Prop}(h:P [])(us:List α)(hl:us.length=0):P us:=by rw[qx hl];exact h
theorem Yz{α:Type}{n:Nat}{P:List α->Prop}(h:∀a us,us.length=n->P (a::us))(us:List α)(hl:us.length=n+1):P us:=by
 obtain⟨a,r,rfl,e⟩:=Oc hl;exact h a r e
theorem ZF{α:Type}{P:List α->Prop}(h:∀a,P [a]):∀us:List α,us.length=1->P us:=Yz λa=>bn0 (P:=λus=>P (a::us)) (h a)
theorem Yx{α:Type}{P:List α->Prop}(h:∀a b,P [a,b]):∀us:List α,us.length=2->P us:=Yz λa=>ZF (P:=λus=>P (a::us)) (h a)
theorem Yg{α:Type}{P:List α->Prop}(h:∀a b c,P [a,b,c]):∀us:List α,us.length=3->P us:=Yz λa=>Yx (P:=λus=>P (a::us)) (h a)
theorem bn4{α:Type}{P:List α->Prop}(h:∀a b c d,P [a,b,c,d]):∀us:List α,us.length=4->P us:=Yz λa=>Yg (P:=λus=>P (a::us)) (h a)
theorem bn5{α:Type}{P:List α->Prop}(h:∀a b c d e,P [a,b,c,d,e]):∀us:List α,us.length=5->P us:=Yz λa=>bn4 (P:=λus=>P (a::us)) (h a)
theorem bn6{α:Type}{P:List α->Prop}(h:∀a b c d e f,P [a,b,c,d,e,f]):∀us:List α,us.length=6->P us:=Yz λa=>bn5 (P:=λus=>P (a::us)) (h a)
theorem LI(hu:X.A.units<cLine):n6 X (compareOp .NotEq) (λx y H Q=>∃a b xs,x= .ref a/\y= .ref b/\H a=some (.tup xs)/\H b=some (.tup [])/\Q (.bl (!xs.isEmpty)) H):=by
 intro ad s σ H x y v u Q I rx ry h;obtain⟨a,b,xs,rfl,rfl,ha,hb,q⟩:=h;cases rx;cases ry;obtain⟨its,r,pl,hz⟩:=I.tuple (bc.of ha);obtain⟨pB,r2,Rq,JE⟩:=I.tuple (bc.of hb);cases r2
 have e:(!((List.range (min its.toArray.size ([]:aG).toArray.size)).all (λ_=>true)&&its.toArray.size==([]:aG).toArray.size))= !xs.isEmpty:=by
  cases r with
  |nil=>rfl
  |cons _ _=>rfl
 have key:=SeqAt.RcNeAt.tuples (A:=X.A) (s:=s) (e:=λ_=>true) (show s.heap.IsTuple a its.toArray from pl) (show s.heap.IsTuple b ([]:aG).toArray from Rq) hu (λj _ h2=>absurd h2 (iH _));rw[e] at key;exact key _ _ _ _ ⟨.bl _,H,I,Z,q⟩
end L2
namespace PySem
open Sem (wp)
open Builtin
section
variable(l:S')(n:Nat)(dd:Option S')(sl:Array (aO))(v:M')(u:Tok)
end
end PySem
namespace L2
open PySem PySem.Spec PyProof.Rows
variable{X:Cx}
end L2
namespace L2
open PySem PySem.Spec PySem.SeqAt PyProof.Rows
variable{X:Cx}
theorem aa{X:Cx}{e:V'}{es:b7}{te:TE}{ta:TA}(hs:∀(es:b7) (env:Env),starEach (e::es) env=(false,eval e env)::starEach es env)(ha:Dx X e te)(hr:Pl X es ta):Pl X (e::es) (tG te ta):=⟨ag ha.h hr.h (hs _ _)⟩
theorem aR{X:Cx}{es:b7}{ta:TA}{x1:Nat}{pos:Pos}(h:Pl X es ta):Dx X (.Tuple es x1 pos) (KP ta):=⟨bt h.h⟩
theorem aac{X:Cx}{CX:uk}{j k:Nat}{f:S'}{fd:aad}{ps:au}{sp:Sp}{E:XK}{x:Str}{st:Stmt}{p pos:Pos}{e:V'}{t:TA}(F:aT X.prog X.w X.K X.mg X.base CX j f fd ps sp)(hr:dX k X.A)(I:FI X.K X.mg x st ps f fd)(hx:wf CX X E)(hs:∀(es:b7) (env:Env),starEach (e::es) env=(false,eval e env)::starEach es env)(ha:Pl X [e] t)(hj:j<=k:=by decide)(hg:Gl X x:=by rfl)(rW:(x==("__debug__" :Str))=false:=by decide):Dx X (.Call (.Name x p) [e] [] pos) (yf sp [] E t):=⟨cG F hr I hx ha.h hj hg rW (hs _ _)⟩
inductive Th (H:Hp):V->Prop
 |bp:Th H .bp
 |bl (b:Bool):Th H (.bl b)
 |int (i:Int):Th H (.int i)
 |str (x:Str):Th H (.str x)
 |lst {a:S'} {xs:ak} (e:H a=some (.lst xs)):Th H (.ref a)
 |tup {a:S'} {xs:ak} (e:H a=some (.tup xs)):Th H (.ref a)
 |dK {a:S'} {kvs:eI} (e:H a=some (.dK kvs)):Th H (.ref a)
noncomputable def uL(H:Hp):V->Bool
 | .ref a=>match H a with
  |some (.lst _)=>true
  |some (.tup _)=>true
  |_=>false
 |_=>false
theorem Th.same{H H' :Hp}{v:V}(h:Th H v)(s:ah H H'):Th H' v:=by
 cases h with
 |bp=>exact .bp
 |bl b=>exact .bl b
 |int i=>exact .int i
 |str x=>exact .str x
 |lst e=>exact .lst (s _ _ e)
 |tup e=>exact .tup (s _ _ e)
 |dK e=>exact .dK (s _ _ e)
theorem vE:iZ X (.builtin "isinstance") (λxs H Q=>∃v p,xs=[v,.ref p]/\Th H v/\H p=some (.tup [.ty "list",.ty "tuple"])/\Q (.bl (uL H v)) H):=by
 intro ad s σ H xs us Q I r h;obtain⟨v,p,rfl,hv,hp,q⟩:=h;obtain⟨u,c,rfl,ru,rc⟩:=jad r;cases rc;obtain⟨z,its,rv,o,h1,h2,n,h3⟩:=(show cu X.prog X.w H s.heap p (.tup _) from I.bS p _ hp);obtain⟨u1,u2,rfl,r1,r2⟩:=jad rv;cases r1;cases r2
 have QG:s.heap.get? p=some ⟨.type "tuple",o.dict,.seq ([Value.type "list",Value.type "tuple"]:aG).toArray n,o.slots⟩:=by
  obtain⟨c,d,dt,sl⟩:=o;dsimp only at h2 h3;subst h2 h3;exact h1
 cases hv with
 |bp=>cases(show u=Value.none from ru);exact kia_tup kitx_none I.jO True.intro QG (by rfl) (λz=>nomatch z) λtk=>⟨.bl false,H,I.tok tk,rfl,q⟩
 |bl y=>cases(show u=Value.bool y from ru);exact kia_tup kitx_bool I.jO True.intro QG (by rfl) (λz=>nomatch z) λtk=>⟨.bl false,H,I.tok tk,rfl,q⟩
 |int i=>obtain⟨t,z⟩:=(show ∃t,u=Value.int i t from ru);cases z;exact kia_tup kitx_int I.jO True.intro QG (by rfl) (λz=>nomatch z) λtk=>⟨.bl false,H,I.tok tk,rfl,q⟩
 |str y=>obtain⟨t,z⟩:=(show ∃t,u=Value.str y t from ru);cases z;exact kia_tup kitx_str I.jO True.intro QG (by rfl) (λz=>nomatch z) λtk=>⟨.bl false,H,I.tok tk,rfl,q⟩
 | @lst a xs ea=>
  cases(show u=Value.ref a from ru);obtain⟨_,_,n,_,h1⟩:=(show cu X.prog X.w H s.heap a (.lst xs) from I.bS a _ ea);exact kia_tup kitx_list I.jO ⟨_,h1,Z⟩ QG (by rfl) (λz=>nomatch z) λtk=>⟨.bl true,H,I.tok tk,Z,by simpa[uL,ea] using q⟩
 | @tup a xs ea=>
  cases(show u=Value.ref a from ru);obtain⟨_,_,_,p⟩:=(show cu X.prog X.w H s.heap a (.tup xs) from I.bS a _ ea);obtain⟨o,h1,h2,_⟩:=p;exact kia_tup kitx_tuple I.jO ⟨o,h1,h2⟩ QG (by rfl) (λz=>nomatch z) λtk=>⟨.bl true,H,I.tok tk,Z,by simpa[uL,ea] using q⟩
 | @dK a kvs ea=>
  cases(show u=Value.ref a from ru);obtain⟨_,_,vs,_,p⟩:=(show cu X.prog X.w H s.heap a (.dK kvs) from I.bS a _ ea);obtain⟨o,es,ep,h1,h2,_⟩:=p;exact kia_tup kitx_dict I.jO ⟨o,h1,h2.1⟩ QG (by rfl) (λz=>nomatch z) λtk=>⟨.bl false,H,I.tok tk,Z,by simpa[uL,ea] using q⟩
theorem K1(hu:X.A.units<cLine):n6 X (compareOp .Eq) (λx y H Q=>∃a b xs,x= .ref a/\y= .ref b/\H a=some (.tup xs)/\H b=some (.tup [])/\Q (.bl xs.isEmpty) H):=by
 intro ad s σ H x y v u Q I rx ry h;obtain⟨a,b,xs,rfl,rfl,ha,hb,q⟩:=h;cases rx;cases ry;obtain⟨its,r,pl,hz⟩:=I.tuple (bc.of ha);obtain⟨pB,r2,Rq,JE⟩:=I.tuple (bc.of hb);cases r2
 have e:((List.range (min its.toArray.size ([]:aG).toArray.size)).all (λ_=>true)&&its.toArray.size==([]:aG).toArray.size)=xs.isEmpty:=by
  cases r with
  |nil=>rfl
  |cons _ _=>rfl
 have key:=SeqAt.RcAt.tuples (A:=X.A) (s:=s) (e:=λ_=>true) (show s.heap.IsTuple a its.toArray from pl) (show s.heap.IsTuple b ([]:aG).toArray from Rq) hu (λj _ h2=>absurd h2 (iH _));rw[e] at key;exact key _ _ _ _ ⟨.bl _,H,I,Z,q⟩
theorem Li:iZ X (.builtin "abs") (λxs H Q=>∃i,xs=[.int i]/\Q (.int (if i<0 then -i else i)) H):=by
 intro ad s σ H xs us Q I r h;obtain⟨i,rfl,q⟩:=h;obtain⟨u,rfl,t,rfl⟩:=Wp r;exact call_abs_int λu tk=>⟨.int _,H,I.tok tk,⟨u,Z⟩,q⟩
section
variable{X:Cx}{a b e:V'}{ta tb te:TE}{pos:Pos}
theorem bF{op:Operator}{r:R2}(ho:n6 X (binaryOp op) r)(ha:Dx X a ta)(hb:Dx X b tb):Dx X (.BinOp a op b pos) (wN r ta tb):=⟨aL ho ha.h hb.h⟩
theorem uq{r:R2}(hr:WZ X r)(ha:Dx X a ta)(hb:Dx X b tb)(hs:Fc b):Dx X (.Subscript a b pos) (wN r ta tb):=⟨UR hr ha.h hb.h hs⟩
theorem jB{r:V->Option Int->Option Int->Hp->VK->Prop}{lo hi:Option V'}{tl th:TO}{p2:Pos}(hr:X4 X r)(he:Dx X e te)(hl:PO X lo tl)(hu:PO X hi th):Dx X (.Subscript e (.Slice lo hi none p2) pos) (RD r te tl th):=⟨dH hr he.h hl hu⟩
theorem AX(he:Dx X e te)(hs:swapsWith e none pos.line X.env=pure false):Wg X (.Expr e pos) (Mu te):=⟨bZ he.h hs⟩
theorem lI{CX:uk}{j k:Nat}{f:S'}{fd:aad}{ps:au}{sp:Sp}{E:XK}{x:Str}{st:Stmt}{p:Pos}{e e2:V'}{t:TA}(F:aT X.prog X.w X.K X.mg X.base CX j f fd ps sp)(hr:dX k X.A)(I:FI X.K X.mg x st ps f fd)(hx:wf CX X E)(hs:∀(es:b7) (env:Env),starEach (e::es) env=(false,eval e env)::starEach es env)(Wk:∀(es:b7) (env:Env),starEach (e2::es) env=(false,eval e2 env)::starEach es env)(ha:Pl X [e,e2] t)(hj:j<=k:=by decide)(hg:Gl X x:=by rfl)(rW:(x==("__debug__" :Str))=false:=by decide):Dx X (.Call (.Name x p) [e,e2] [] pos) (yf sp [] E t):=⟨cG F hr I hx ha.h hj hg rW (hs _ _) (by rw[Wk];rfl)⟩
theorem VB{o e:V'}{to:TE}{t:TA}{name:Str}{apos je:Pos}{T id:String}{r:V->ak->Hp->VK->Prop}(pa:PlainAttrs T)(slot:Slot T name id)(hty:typeOf (.builtin id)=pure (.type "method_descriptor"))(hm:MtR X id r)(ho:PE X o to)(hs:∀(es:b7) (env:Env),starEach (e::es) env=(false,eval e env)::starEach es env)(ha:Pl X [e] t)
 (AS:attributeBase o name X.env (eval o X.env)=eval o X.env) (Mb:(apos.endLine==je.line)=true):Dx X (.Call (.Attribute o name apos) [e] [] je) (tBM X.K T r to t):=⟨lR pa slot hty hm ho ha.h AS (by rw[hs];rfl) Mb (hs _ _) Z⟩
theorem Rg{tg iter:V'}{wi:TI}{g:TG}{body:List Stmt}{tb:TS}(hi:PI X tg iter wi)(hg:PG X tg g)(hb:DK X body tb)(hc:X.calm=true)(hs:∀x,foldedSetIterable iter X.env x=pure x)(hp:PassesOwn (model X.prog X.w) X.A X.env X.xe:=by exact PassesOwn.never):Wg X (.For tg iter body [] pos) (Wy wi g tb):=⟨ND hp hc hi hg hb.h hs⟩
end
end L2
namespace My
open PySem L2 PyProof.Rows
theorem nq:0<=sizeLine:=by decide
theorem yZ:1<=sizeLine:=by decide
theorem hV:2<=sizeLine:=by decide
theorem FN:3<=sizeLine:=by decide
theorem Hq:4<=sizeLine:=by decide
theorem aeV:5<=sizeLine:=by decide
theorem adb:6<=sizeLine:=by decide
theorem acX:7<=sizeLine:=by decide
theorem aak:11<=sizeLine:=by decide
theorem pF:aJ ["self","text"] ["self","text"] (av j9):= .of
theorem sU:aJ ["self","many"] ["self","many"] (av lD):= .of
theorem uz:aJ ["self","found"] ["self","found"] (av mP):= .of
theorem sN:aJ ["self","depth"] ["self","depth"] (av my):= .of
theorem sE:aJ ["self","many"] ["self","many"] (av lW):= .of
theorem sJ:aJ ["self","many"] ["self","many"] (av lN):= .of
theorem vq:aJ ["self","label"] ["self","label"] (av nW):= .of
theorem sS:aJ ["self","label"] ["self","label"] (av mv):= .of
theorem D_:aJ ["thing"] ["thing"] (av xF):= .of
theorem FD:aJ ["thing","low","high"] ["thing","low","high"] (av Bf):= .of
theorem Hv:aJ ["thing"] ["thing"] (av Dy):= .of
theorem Jf:aJ ["thing"] ["thing"] (av De):= .of
theorem Qd:aJ ["kind","thing"] ["kind","thing"] (av MV):= .of
theorem Gk:aJ ["deed"] ["deed"] (av z7):= .of
theorem wq:aJ ["deed"] ["deed"] (av xV):= .of
theorem G_:aJ ["deed"] ["deed"] (av A8):= .of
theorem oh:aJ ["thing","deed","body"] ["thing"] (av yd):= .of
theorem lz:aJ ["body","many","deed","inner"] ["body"] (av C6):= .of
theorem j8:aJ ["body","depth","deed","inner"] ["body"] (av Bl):= .of
theorem iK:aJ ["body","change","first","told","number","deed"] ["body","change","first"] (av yh):= .of
theorem fg:aJ ["deed","change","first","parts","number","kind","part"] ["deed","change","first"] (av tK):= .of
theorem me:aJ ["body","around","listed","deed","inner","within"] ["body","around"] (av Dz):= .of
theorem E5:aJ ["body"] ["body"] (av x_):= .of
theorem tU:aJ ["deed","asked"] ["deed"] (av vx):= .of
theorem Cs:aJ ["body"] ["body"] (av vX):= .of
theorem wK:aJ ["deed","steps"] ["deed"] (av xQ):= .of
theorem sI:aJ ["self","deeds"] ["self","deeds"] (av fM):= .of
theorem yO:aJ ["self"] ["self"] (av qJ):= .of
theorem ou:aJ ["body","many","depth"] ["body"] (av xB):= .of
theorem lK:aJ ["listed","deed","around"] ["listed"] (av tM):= .of
theorem oJ:aJ ["body","many","steps"] ["body"] (av xU):= .of
theorem E8:aJ ["_law_script","_law_k"] ["_law_script","_law_k"] (av xE):= .of
theorem FT:aJ ["_law_cell_here"] ["_law_cell_here"] (av Bu):= .of
theorem kK:aJ ["_law_box_here","_law_many","_law_digit","_law_number_here"] ["_law_box_here","_law_many"] (av xH):= .of
theorem dj:aJ ["_law_box_here","_law_many","_law_letters","_law_way","_law_first","_law_step","_law_words","_law_stem","_law_at","_law_whole_here"] ["_law_box_here","_law_many"] (av uZ):= .of
theorem dr:aJ ["_law_box_here","_law_names_here","_law_around","_law_kind","_law_x","_law_y","_law_k","_law_labels","_law_number_here","_law_some"] ["_law_box_here","_law_names_here","_law_around"] (av sW):= .of
theorem dM:aJ ["_law_box_here","_law_left","_law_names_here","_law_labels","_law_around","_law_room","_law_found","_law_turn","_law_kind","_law_free","_law_one","_law_label","_law_many","_law_times","_law_inner"] ["_law_box_here","_law_left","_law_names_here","_law_labels","_law_around","_law_room"] (av pP):= .of
theorem fT:aJ ["_law_box_here","_law_upto","_law_room","_law_names_here","_law_labels"] ["_law_box_here"] (av vC):= .of
theorem pU:aJ ["_law_deed"] ["_law_deed"] (av jF):= .of
theorem jP:aJ ["_law_body_here","_law_found","_law_deed","_law_inner"] ["_law_body_here"] (av vi):= .of
theorem gp:aJ ["_law_body_here","_law_around","_law_down","_law_found","_law_deed","_law_inside","_law_one"] ["_law_body_here","_law_around","_law_down"] (av tT):= .of
theorem cN:aJ ["_law_body_here","_law_asked","_law_done","_law_deed","_law_inner"] ["_law_body_here"] (av xI):= .of
theorem bG:aJ ["_law_body_here","_law_rows","_law_down","_law_deed","_law_around","_law_one","_law_asked","_law_done"] ["_law_body_here"] (av lh):= .of
theorem BQ:aJ ["_law_thing","_law_low","_law_high"] ["_law_thing","_law_low","_law_high"] (av wa):= .of
theorem Ei:aJ ["_law_thing"] ["_law_thing"] (av rA):= .of
theorem Bt:aJ ["_law_thing"] ["_law_thing"] (av tE):= .of
theorem yV:aJ ["_law_thing"] ["_law_thing"] (av q_):= .of
theorem xy:aJ ["_law_parts"] ["_law_parts"] (av pz):= .of
theorem km:aJ ["_law_thing","_law_sizes","_law_word","_law_parts"] ["_law_thing"] (av iY):= .of
theorem cq:aJ ["_law_call","_law_told","e"] ["_law_call"] (av xN):= .of
theorem fY:aJ ["_law_body_here","_law_deed","_law_one","_law_found"] ["_law_body_here"] (av jk):= .of
theorem fi:aJ ["_law_box_here","_law_body_here","_law_count","_law_numbers","_law_found","_law_deed","_law_here","_law_inner","_law_whole_here"] ["_law_box_here","_law_body_here","_law_count","_law_numbers"] (av tI):= .of
theorem dq:aJ ["_law_box_here","_law_deed","_law_mode","_law_place","_law_part","_law_near","_law_odd","_law_other","_law_word","_law_some"] ["_law_box_here","_law_deed"] (av yg):= .of
theorem yI:aJ ["_law_body_here","_law_bad"] ["_law_body_here"] (av uG):= .of
theorem hJ:aJ ["_law_body_here","_law_held","_law_due_here","_law_turn","_law_told"] ["_law_body_here"] (av kO):= .of
theorem lU:aJ ["_law_many","_law_body_here","_law_k"] ["_law_many","_law_body_here"] (av sX):= .of
theorem aX:aJ ["_law_tells","_law_either","_law_rows"] [] (av gS):= .of
theorem nj:aJ ["_law_script","_law_k","_law_box_here","_law_whole_here","_law_twice","_law_body_here","_law_rows","_law_numbers"] ["_law_script"] (av Nq):= .of
set_option genInjectivity false in
set_option genSizeOf false in
structure nS where
 (eG ij ja ip ir iq jt ik mQ xR BJ CV CH M7 AH rn Ac qp xq By mN tR CK pR vG oo xM c9 pK xY sV xJ yr A_ yi vI tO qO wG fR vH tX yH mh uU qv tL qz pk iI qR jv s_ xD ug gx tV eY Mo b_ gF iQ gz gy gw kQ gB pQ aZ:S')
 (jc gC ay cQ:S')
 (jY lu mX lX lP mq nT k_ wt yq AV C_ CU MW Bg qG Ad qH xv BF eE tD Cy qr vW oq yu c7 qt yt tW yl yo Am xX vd tm yE vo jL wC tS yj qo vp yF t8 qN o_ pV pX nL tq yz Bq fN tN gN Kq:aad)
structure Txt(K:Frag)(mg:Str->aO)(A:nS):Prop where
 gj:XI K mg "RoomError" A.b_ A.eG A.b_
 gI:XI K mg "TooMany" A.gF A.ij A.b_
 g9:XI K mg "NoDeed" A.iQ A.ja A.b_
 fQ:XI K mg "TooDeep" A.gz A.ip A.b_
 dR:XI K mg "TooWide" A.gy A.ir A.b_
 dF:XI K mg "TooLong" A.gw A.iq A.b_
 i6:XI K mg "Twice" A.kQ A.jt A.b_
 eD:XI K mg "NoLabel" A.gB A.ik A.b_
 GP:XI K mg "NoText" A.pQ A.mQ A.b_
 KY:mg "Program"=some (.ref A.aZ)
 bT:RY K A.b_ "__init__" A.eG
 p_:eM K A.gF "many"
 qw:eM K A.iQ "found"
 ph:eM K A.gz "depth"
 qc:eM K A.gy "many"
 qj:eM K A.gw "many"
 ub:eM K A.kQ "label"
 pj:eM K A.gB "label"
 Pj:eM K A.pQ "line"
 bK:MI K A.b_ "__init__" "RoomError.__init__" j9 ["self","text"] A.eG A.jY
 lC:MI K A.gF "__init__" "TooMany.__init__" lD ["self","many"] A.ij A.lu
 iG:MI K A.iQ "__init__" "NoDeed.__init__" mP ["self","found"] A.ja A.mX
 mB:MI K A.gz "__init__" "TooDeep.__init__" my ["self","depth"] A.ip A.lX
 lO:MI K A.gy "__init__" "TooWide.__init__" lW ["self","many"] A.ir A.lP
 l7:MI K A.gw "__init__" "TooLong.__init__" lN ["self","many"] A.iq A.mq
 nG:MI K A.kQ "__init__" "Twice.__init__" nW ["self","label"] A.jt A.nT
 lY:MI K A.gB "__init__" "NoLabel.__init__" mv ["self","label"] A.ik A.k_
 JP:MI K A.pQ "__init__" "NoText.__init__" vU ["self","line"] A.mQ A.wt
 mW:FI K mg "is_number" xF ["thing"] A.xR A.yq
 Ak:FI K mg "is_whole" Bf ["thing","low","high"] A.BJ A.AV
 rM:FI K mg "is_name" Dy ["thing"] A.CV A.C_
 CQ:FI K mg "is_deed" De ["thing"] A.CH A.CU
 Ij:FI K mg "fits" MV ["kind","thing"] A.M7 A.MW
 lT:FI K mg "parts_of" z7 ["deed"] A.AH A.Bg
 fC:FI K mg "bodies_of" xV ["deed"] A.rn A.qG
 ur:FI K mg "is_block" A8 ["deed"] A.Ac A.Ad
 qh:FI K mg "want_body" yd ["thing"] A.qp A.qH
 nV:FI K mg "many_in" C6 ["body"] A.xq A.xv
 uF:FI K mg "depth_of" Bl ["body"] A.By A.BF
 mR:FID K mg "rewritten" yh ["body","change","first"] A.mN A.eE
 tZ:FI K mg "with_bodies" tK ["deed","change","first"] A.tR A.tD
 wX:FI K mg "listing" Dz ["body","around"] A.CK A.Cy
 qa:FI K mg "widest_of" x_ ["body"] A.pR A.qr
 wg:FI K mg "choices_of" vx ["deed"] A.vG A.vW
 n9:FI K mg "longest_of" vX ["body"] A.oo A.oq
 xW:FI K mg "length_of" xQ ["deed"] A.xM A.yu
 lL:MI K A.aZ "__init__" "Program.__init__" fM ["self","deeds"] A.c9 A.c7
 ra:MI K A.aZ "told" "Program.told" qJ ["self"] A.pK A.qt
 xS:FI K mg "want_size" xB ["body"] A.xY A.yt
 uc:FI K mg "want_labels" tM ["listed"] A.sV A.tW
 xG:FI K mg "want_runs" xU ["body"] A.xJ A.yl
 xP:FI K mg "_law_cell" xE ["_law_script","_law_k"] A.yr A.yo
 A7:FI K mg "_law_box" Bu ["_law_cell_here"] A.A_ A.Am
 aF:FI K mg "_law_take" xH ["_law_box_here","_law_many"] A.yi A.xX
 oK:FI K mg "_law_names" uZ ["_law_box_here","_law_many"] A.vI A.vd
 tJ:FI K mg "_law_simple" sW ["_law_box_here","_law_names_here","_law_around"] A.tO A.tm
 jW:FI K mg "_law_body" pP ["_law_box_here","_law_left","_law_names_here","_law_labels","_law_around","_law_room"] A.qO A.yE
 wJ:FI K mg "_law_deeds" vC ["_law_box_here"] A.wG A.vo
 dP:FI K mg "_law_bodies" jF ["_law_deed"] A.fR A.jL
 oN:FI K mg "_law_plain" vi ["_law_body_here"] A.vH A.wC
 jK:FI K mg "_law_listed" tT ["_law_body_here","_law_around","_law_down"] A.tX A.tS
 qk:FI K mg "_law_cost" xI ["_law_body_here"] A.yH A.yj
 rB:FI K mg "_law_refusal" lh ["_law_body_here"] A.mh A.qo
 gG:FI K mg "_law_whole" wa ["_law_thing","_law_low","_law_high"] A.uU A.vp
 fE:FI K mg "_law_name" rA ["_law_thing"] A.qv A.yF
 jH:FI K mg "_law_number" tE ["_law_thing"] A.tL A.t8
 gh:FI K mg "_law_is_body" q_ ["_law_thing"] A.qz A.qN
 kq:FI K mg "_law_is_block" pz ["_law_parts"] A.pk A.o_
 pZ:FI K mg "_law_is_deed" iY ["_law_thing"] A.iI A.pV
 mO:FI K mg "_law_made" xN ["_law_call"] A.qR A.pX
 jr:FI K mg "_law_first_bad" jk ["_law_body_here"] A.jv A.nL
 nt:FI K mg "_law_put_at" tI ["_law_box_here","_law_body_here","_law_count","_law_numbers"] A.s_ A.tq
 yv:FI K mg "_law_bent" yg ["_law_box_here","_law_deed"] A.xD A.yz
 Al:FI K mg "_law_due" uG ["_law_body_here"] A.ug A.Bq
 oR:FI K mg "_law_right" kO ["_law_body_here"] A.gx A.fN
 g6:FI K mg "_law_within" sX ["_law_many","_law_body_here"] A.tV A.tN
 e_:FI K mg "_law_bounds_right" gS [] A.eY A.gN
 Uw:FI K mg "law" Nq ["_law_script"] A.Mo A.Kq
 jw:OU K A.aZ
 LV:Mk K A.aZ A.c9
 iU:eM K A.aZ "body"
 nZ:eM K A.aZ "listed"
 sm:∃o,K.lookup sysModules=some o/\o.cls= .type "dict"
 jc:mg "BOUNDS"=some (.ref A.jc)
 gC:mg "FORMS"=some (.ref A.gC)
 sx:BL K A.c7.code A.ay
 BW:BL K A.fN.code A.cQ
 bm:Pn K mg
 YQ:∀(s:R') (u:M'),BindsTo s A.Kq ⟨[u],[]⟩ [("_law_script",u)]
 DI:mg "ValueError"=none
 ZE:mg "abs"=none
 UQ:mg "all"=none
 HS:mg "bool"=none
 CD:mg "int"=none
 bM:mg "isinstance"=none
 g7:mg "len"=none
 AI:mg "list"=none
 yy:mg "max"=none
 ZC:mg "min"=none
 kT:mg "range"=none
 pO:mg "repr"=none
 J_:mg "str"=none
 MM:mg "sum"=none
 iE:mg "tuple"=none
 aaZ:mg "zip"=none
 Le:∃u,RelV (V.str "abcdefghijklmnopqrstuvwxyz") u/\mg "LETTERS"=some u
 BI:∃u,RelV (V.int 4) u/\mg "MOST_CHOICES"=some u
 Fh:∃u,RelV (V.int 40) u/\mg "MOST_DEEDS"=some u
 En:∃u,RelV (V.int 6) u/\mg "MOST_DEPTH"=some u
 AM:∃u,RelV (V.int 6) u/\mg "MOST_LETTERS"=some u
 Eg:∃u,RelV (V.int 100) u/\mg "MOST_STEPS"=some u
 xK:∃u,RelV (V.str "ground") u/\mg "OUTERMOST"=some u
def Kept(b:S')(H H' :Hp):Prop:=∀c o,c≠b->H c=some o->H' c=some o
variable{P:Z'}{w:W'}{K:Frag}{mg:Str->aO}{base:Y'}{A:nS}
def Vm(K:Frag):Sp:=λvs H Q _=>∃(a:S') (ns:List Int) (k:Int),vs=[.ref a,.int k]/\cF K H a (ns.map V.int)/\0<=k/\k<1000/\∀c,Q (.int c) H
theorem ET(T:Txt K mg A):aT P w K mg base dO 1 A.yr A.yo ["_law_script","_law_k"] (Vm K):=by
 refine T.xP.F.wc E8 ?_
 rintro cB Ar outer s H vs Q E hr ⟨a,ns,k,rfl,hS,h0,h1,q⟩
 refine⟨_,(aj (bU (wn A0 (pv 1) (iR br T.g7 Boot.«len» (aM (pv 0)))) (aq (aH (cS a8 (pv 0) (pv 1)))) bf) (aq (aH (aL bw (aL md ae (pv 1)) ae)))),?_⟩;refine⟨_,Z,_,Z,a,_,Z,.inl hS,k,_,Z,Z,_,Z,?_⟩;refine mG (λhk=> ?_) (λhk=> ?_)
 .have hk:=bD hk;rw[a6] at hk;obtain⟨j,rfl⟩:∃j:Nat,k=j:=⟨k.toNat,by omega⟩;have hj:j<ns.length:=by omega
  exact⟨_,Z,_,Z,a,_,_,_,Z,Z,hS,bb (v:= .int ns[j]) (by simp[hj]),q _⟩
 .exact⟨_,Z,7919,k,Z,Z,.inl ⟨by decide,by decide⟩,_,_,Z,Z,q _⟩
def dg(H:Hp)(b:S')(k:Nat):Prop:=∃(x y z:Int),H b=some (.lst [.int x,.int y,.int z])/\0<=x/\0<=y/\y<2147483629/\0<=z/\z<=(k:Int)
def BX(b:S')(H H' :Hp):Prop:=∀c,c≠b->H' c=H c
theorem BX.upd{b:S'}{H:Hp}{o:HO}:BX b H (upd H b o):=λc hc=>az hc
theorem BX.kept{b:S'}{H H' :Hp}(h:BX b H H'):Kept b H H' :=λc o hc e=>(h c hc).trans e
theorem Kept.refl(b:S')(H:Hp):Kept b H H:=λ_ _ _ e=>e
theorem Kept.trans{b:S'}{H H1 H2:Hp}(h:Kept b H H1)(h' :Kept b H1 H2):Kept b H H2:=λc o hc e=>h' c o hc (h c o hc e)
theorem _root_.L2.ah.kept{b:S'}{H H' :Hp}(h:ah H H'):Kept b H H' :=λc o _ e=>h c o e
theorem dg.same{b:S'}{k:Nat}{H H' :Hp}(B:dg H b k)(h:ah H H'):dg H' b k:=by
 obtain⟨x,y,z,hb,r⟩:=B;exact⟨x,y,z,h _ _ hb,r⟩
theorem dg.mono{b:S'}{k j:Nat}{H:Hp}(B:dg H b k)(h:k<=j):dg H b j:=by
 obtain⟨x,y,z,hb,h1,h2,h3,h4,h5⟩:=B;exact⟨x,y,z,hb,h1,h2,h3,h4,by omega⟩
theorem dg.ne{b p:S'}{k:Nat}{H:Hp}(B:dg H b k)(h:H p=none):p≠b:=by
 obtain⟨x,y,z,hb,_⟩:=B;exact(aA hb h).symm
theorem gR{K:Frag}{H:Hp}{p:S'}{xs:ak}{i:Int}{Q:VK}(Pv:V->Prop)(h:H p=some (.lst xs))(h0:0<=i)(h1:i<xs.length)(hP:∀x∈xs,Pv x)(q:∀v,Pv v->Q v H):PY K (.ref p) (.int i) H Q:=by
 obtain⟨j,rfl⟩:∃j:Nat,i=j:=⟨i.toNat,by omega⟩;have hj:j<xs.length:=by omega
 exact⟨p,xs,j,xs[j],Z,Z,cF.of h,bb (by simp[hj]),q _ (hP _ (EB hj))⟩
def Zi:Sp:=λvs H Q _=>∃c,vs=[.int c]/\∀b H',H b=none->dg H' b 0->ah H H'->Q (.ref b) H'
theorem Gf(T:Txt K mg A):aT P w K mg base dO 1 A.A_ A.Am ["_law_cell_here"] Zi:=by
 refine T.A7.F.wc FT ?_
 rintro cB Ar outer s H vs Q E hr ⟨c,rfl,q⟩
 refine⟨_,(aq (aH (bH (ag (iR (kY Z) T.yy Boot.«max» (ag ae (aM (aL iT (pv 0) (aL qm ae ae))))) (ag (aL jq (pv 0) ae) (aM ae)))))),?_⟩;refine⟨_,Z,10,18,Z,Z,⟨by decide,by decide,by decide⟩,c,_,Z,Z,0,_,Z,?_⟩;refine⟨_,Z,c,2147483629,Z,Z,(show(0:Int)<2147483629 by decide),FN,λp hp=> ?_⟩;refine q p _ hp ⟨_,_,0,af,?_,?_,?_,by decide,by decide⟩ (ah.upd hp)
 .split<;>omega
 .omega
 .omega
theorem Vu{n:Int}(h0:0<n)(h:n<1606938044258990275541962092341162602522202993782792835301376):n.natAbs.log2<9000:=by
 have h1:n.natAbs≠0:=by omega
 have h2:n.natAbs<2 ^ 200:=by
  have e:(2:Nat) ^ 200=1606938044258990275541962092341162602522202993782792835301376:=by decide+kernel
  omega
 exact ze ((Nat.log2_lt h1).mpr h2) (by decide)
def XB:Sp:=λvs H Q _=>∃(b:S') (n:Int) (k:Nat),vs=[.ref b,.int n]/\dg H b k/\k<=100000/\0<n/\n<1606938044258990275541962092341162602522202993782792835301376/\
 ∀(r:Int) (H' :Hp),0<=r->r<n->dg H' b (k+1)->BX b H H'->Q (.int r) H'
theorem aE(T:Txt K mg A):aT P w K mg base dO 1 A.yi A.xX ["_law_box_here","_law_many"] XB:=by
 refine T.aF.F.wc kK ?_
 rintro cB Ar outer s H vs Q E hr ⟨b,n,k,rfl,⟨x,y,z,hb,hx,hy,hy2,hz,JE⟩,hk,hn,Yy,q⟩
 refine⟨_,(aj (bU (wn tQ (cS a8 (pv 0) ae) ae) (aj (gf 2 kK.nd (aL jq (cS a8 (pv 0) ae) (pv 1))) (aj (BE (aL FV (cS a8 (pv 0) ae) (pv 1)) (Ef (pv 0) ae ZB)) (aq (aH (pv 2))))) bf) (aj (BE (aL bw (cS a8 (pv 0) ae) ae) (Ef (pv 0) ae ZB)) (aj (gf 3 kK.nd (aL jq (aL qm (aL bw (aL bw (cS a8 (pv 0) ae) (aL md ae (cS a8 (pv 0) ae))) ae) ae) ae)) (aj (gf 3 kK.nd (aL jq (aL qm (aL bw (pv 3) (aL md ae (cS a8 (pv 0) ae))) ae) ae)) (aq (aH (aL jq (aL FV (pv 3) ae) (pv 1)))))))),?_⟩;refine⟨_,Z,b,_,_,_,Z,Z,cF.of hb,Z,_,_,Z,Z,_,Z,?_⟩;refine mG (λh0=> ?_) (λh0=> ?_)
 .refine⟨_,Z,b,_,_,_,Z,Z,cF.of hb,Z,_,Z,x,n,Z,Z,hn,?_⟩;refine⟨_,Z,b,_,_,_,Z,Z,cF.of hb,Z,_,Z,x,n,Z,Z,⟨hn,Vu hn Yy⟩,?_⟩;refine⟨_,Z,b,_,0,0,Z,Z,hb,Z,?_⟩;refine⟨_,Z,q _ _ (oj _ (by omega)) (sv _ hn) ⟨_,y,z,af,Int.ediv_nonneg hx (by omega),hy,hy2,hz,by omega⟩ BX.upd⟩
 .refine⟨_,Z,b,_,_,_,Z,Z,cF.of hb,Z,z,1,Z,Z,?_⟩;refine⟨_,Z,b,_,2,2,Z,Z,hb,Z,?_⟩;have wL :upd H b (.lst [.int x,.int y,.int (z+1)]) b=some (.lst [.int x,.int y,.int (z+1)]):=af;refine⟨_,Z,b,_,_,_,Z,Z,cF.of wL,Z,_,Z,b,_,_,_,Z,Z,cF.of wL,Z,15485863,z+1,Z,Z,.inl ⟨by decide,by decide⟩,y,_,Z,Z,_,43,Z,Z,_,5,Z,Z,⟨by decide,by decide,?_⟩,_,2147483647,Z,Z,(show(0:Int)<2147483647 by decide),?_⟩
  .omega
  dsimp only;generalize e1:(y+15485863*(z+1)+43) ^ (5:Int).toNat % 2147483647=one;have b1:0<=one:=by rw[<-e1];exact oj _ (by decide)
  have b2:one<2147483647:=by rw[<-e1];exact sv _ (by decide)
  refine⟨_,Z,_,Z,b,_,_,_,Z,Z,cF.of wL,Z,104729,z+1,Z,Z,.inl ⟨by decide,by decide⟩,one,_,Z,Z,_,3,Z,Z,⟨by decide,by decide,?_⟩,_,2147483629,Z,Z,(show(0:Int)<2147483629 by decide),?_⟩
  .omega
  dsimp only;generalize e2:(one+104729*(z+1)) ^ (3:Int).toNat % 2147483629=other;have b3:0<=other:=by rw[<-e2];exact oj _ (by decide)
  refine⟨_,Z,other,8,Z,Z,⟨by decide,by decide⟩,_,Z,_,n,Z,Z,hn,?_⟩;exact q _ _ (oj _ (by omega)) (sv _ hn) ⟨x,y,z+1,af,hx,hy,hy2,by omega,by omega⟩ BX.upd
noncomputable def dC(c:Nat):Bool:=decide (97<=c)&&decide (c<=122)
noncomputable def cv(x:Str):Bool:=decide (1<=x.length)&&decide (x.length<=6)&&x.cps.toList.all dC
theorem CB(c:Nat):(!(Builtin.Str.occurrences ("abcdefghijklmnopqrstuvwxyz" :Str) ⟨#[c]⟩ 0 ("abcdefghijklmnopqrstuvwxyz" :Str).length 1).isEmpty)=dC c:=by
 rw[PySem.StrLaws.found_one];have e:("abcdefghijklmnopqrstuvwxyz" :Str).cps.toList=(List.range 26).map (· +97):=by decide+kernel
 rw[e,mU,ie,jn];unfold dC;rw[cI,ie,ie];constructor
 .rintro ⟨i,hi,rfl⟩
  have:=mK.mp hi;omega
 .rintro ⟨h1,h2⟩
  exact⟨c - 97,mK.mpr (by omega),by omega⟩
def adY:Sp:=λvs H Q _=>∃x:Str,vs=[.str x]/\cv x=true/\∀H',ah H H'->Q (.bl true) H'
mutual
inductive Dd where
 |mk (w:Str) (ps:List U') (bs:Bs)
inductive Ds where
 |nil
 |cons (d:Dd) (r:Ds)
inductive Bs where
 |nil
 |cons (t:Bool) (b:Ds) (r:Bs)
end
noncomputable def iN(t:Bool)(xs:List U'):U':=if t then .tuple xs else .list xs
mutual
noncomputable def dD:Dd->U'
 | .mk w ps bs=> .tuple (.str w::(ps++bL bs))
noncomputable def sL:Ds->List U'
 | .nil=>[]
 | .cons d r=>dD d::sL r
noncomputable def bL:Bs->List U'
 | .nil=>[]
 | .cons t b r=>iN t (sL b)::bL r
end
mutual
noncomputable def mF:Dd->Nat
 | .mk _ _ bs=>nF bs
noncomputable def eO:Ds->Nat
 | .nil=>0
 | .cons d r=>max (mF d) (eO r)
noncomputable def nF:Bs->Nat
 | .nil=>0
 | .cons _ b r=>max (eO b+1) (nF r)
end
noncomputable def Ds.l:Ds->List Dd
 | .nil=>[]
 | .cons d r=>d::r.l
noncomputable def Bs.l:Bs->List (Bool×Ds)
 | .nil=>[]
 | .cons t b r=>(t,b)::r.l
noncomputable def Dd.wd:Dd->Str| .mk w _ _=>w
noncomputable def Dd.ps:Dd->List U'| .mk _ ps _=>ps
noncomputable def Dd.bs:Dd->Bs| .mk _ _ bs=>bs
noncomputable def bg:List (Str×au):=[("make",["name","size","mark"]),("put",["name","cell","name"]),("get",["name","name","cell"]),("set",["name","value"]),("copy",["name","name"]),("more",["name","name","number"]),("tell",["name"]),("same",["name","name"]),("frame",["label","body"]),("turns",["label","many","times","body"]),("either",["body","body"])]
noncomputable def xo:List (Str×Int×Int):=[("size",1,6),("cell",0,5),("many",1,3),("times",0,4)]
inductive zD:Str->U'->Prop
 |name (x:Str) (h:cv x=true):zD "name" (.str x)
 |label (x:Str) (h:cv x=true) (n:x≠ "ground"):zD "label" (.str x)
 |Fy:zD "mark" .none
 |mark (x:Str) (h:cv x=true):zD "mark" (.str x)
 |Fe:zD "value" .none
 |value (i:Int) (h:i.natAbs<10 ^ 40):zD "value" (.int i)
 |number (i:Int) (h:i.natAbs<10 ^ 40):zD "number" (.int i)
 |num (k:Str) (lo hi i:Int) (h:(k,lo,hi)∈xo) (h1:lo<=i) (h2:i<=hi):zD k (.int i)
inductive ig:au->List U'->Prop
 |nil:ig [] []
 |cons {k:Str} {d:U'} {ks:au} {ds:List U'} (h:zD k d) (t:ig ks ds):ig (k::ks) (d::ds)
mutual
def l8:Dd->Prop
 | .mk w ps bs=>(∃ks:au,(w,ks++List.replicate bs.l.length ("body" :Str))∈bg/\ig ks ps)/\pG bs
def mD:Ds->Prop
 | .nil=>True
 | .cons d r=>l8 d/\mD r
def pG:Bs->Prop
 | .nil=>True
 | .cons _ b r=>mD b/\pG r
end
theorem GH:∀s:Ds,sL s=s.l.map dD
 | .nil=>by rw[sL];rfl
 | .cons d r=>by rw[sL,GH r];rfl
theorem Gw:∀b:Bs,bL b=b.l.map λp=>iN p.1 (sL p.2)
 | .nil=>by rw[bL];rfl
 | .cons t b r=>by rw[bL,Gw r];rfl
theorem gE:∀{s:Ds},mD s->∀d∈s.l,l8 d
 | .nil,_,d,h=>by cases h
 | .cons e r,h,d,hd=>by
  rw[mD] at h;rcases aP.mp hd with rfl|hd
  .exact h.1
  .exact gE h.2 d hd
theorem hZ:∀{b:Bs},pG b->∀p∈b.l,mD p.2
 | .nil,_,p,h=>by cases h
 | .cons t b r,h,p,hp=>by
  rw[pG] at h;rcases aP.mp hp with rfl|hp
  .exact h.1
  .exact hZ h.2 p hp
theorem gK:∀{s:Ds},∀d∈s.l,mF d<=eO s
 | .nil,d,h=>by cases h
 | .cons e r,d,hd=>by
  rw[eO];rcases aP.mp hd with rfl|hd
  .exact zS _ _
  .exact aU (gK d hd) (zi _ _)
theorem h8:∀{b:Bs},∀p∈b.l,eO p.2+1<=nF b
 | .nil,p,h=>by cases h
 | .cons t b r,p,hp=>by
  rw[nF];rcases aP.mp hp with rfl|hp
  .exact zS _ _
  .exact aU (h8 p hp) (zi _ _)
theorem fF{H:Hp}:∀{xs:ak} {ds:List U'},DatAll H xs ds->xs.length=ds.length
 |_,_,.nil=>rfl
 |_,_,.cons _ t=>by rw[bB,bB,fF t]
theorem ow{H:Hp}:∀{ds es:List U'} {zs:ak},DatAll H zs (ds++es)->∃xs ys,zs=xs++ys/\DatAll H xs ds/\DatAll H ys es
 |[],es,zs,h=>⟨[],zs,Z,.nil,h⟩
 |d::ds,es,_,.cons h t=>by
  obtain⟨xs,ys,rfl,h1,h2⟩:=ow t;exact⟨_::xs,ys,Z,.cons h h1,h2⟩
theorem Bi{H:Hp}:∀{xs ys:ak} {ds es:List U'},DatAll H xs ds->DatAll H ys es->DatAll H (xs++ys) (ds++es)
 |_,_,_,_,.nil,h=>h
 |_,_,_,_,.cons a t,h=> .cons a (Bi t h)
theorem mz{H:Hp}:∀{xs:ak} {ds:List U'},DatAll H xs ds->∀(i:Nat) v,xs[i]? =some v->∃d,ds[i]? =some d/\Dat H v d
 |_,_,.nil,i,v,e=>by cases e
 |_,_,.cons h t,0,v,e=>by cases e;exact⟨_,Z,h⟩
 |_,_,.cons h t,i+1,v,e=>by
  obtain⟨d,e',hd⟩:=mz t i v (by simpa using e);exact⟨d,by simpa using e',hd⟩
theorem iM{H:Hp}{v:V}{t:Bool}{ds:List U'}(h:Dat H v (iN t ds)):∃a vs,v= .ref a/\H a=some (EF t vs)/\DatAll H vs ds:=by
 cases t with
 |false=>cases h with|lst e h=>exact⟨_,_,Z,e,h⟩
 |true=>cases h with|tup e h=>exact⟨_,_,Z,e,h⟩
theorem Nx{H:Hp}{v:V}{d:Dd}(h:Dat H v (dD d)):∃a xs ys,v= .ref a/\H a=some (.tup (.str d.wd::(xs++ys)))/\DatAll H xs d.ps/\DatAll H ys (bL d.bs):=by
 cases d with
 |mk w ps bs=>
  rw[dD] at h
  cases h with
  |tup e h=>
   cases h with
   |cons h t=>
    cases h;obtain⟨xs,ys,rfl,h1,h2⟩:=ow t;exact⟨_,xs,ys,Z,e,h1,h2⟩
structure Frm where
 kF:eI
 kB:eI
structure wV(P:Z')(w:W')(K:Frag)(A:nS)(fm:Frm):Prop where
 JK:AF P w K A.gC fm.kF
 NF:AF P w K A.jc fm.kB
 f:∀p∈bg,∃t,eV fm.kF (.inr p.1)=some (.ref t)/\∀H,bc K H t (p.2.map V.str)
 df:∃u,RelV (.int 0) u/\Binds K A.eE ["body","change","first"] [u]
 b:∀p∈xo,∃t,eV fm.kB (.inr p.1)=some (.ref t)/\∀H,bc K H t [.int p.2.1,.int p.2.2]
variable{fm:Frm}
def YM:Sp:=λvs H Q _=>∃i:Int,vs=[.int i]/\Q (.bl true) H
def acf:Sp:=λvs H Q _=>∃i lo hi:Int,vs=[.int i,.int lo,.int hi]/\Q (.bl (decide (lo<=i)&&decide (i<=hi))) H
def Q5:Sp:=λvs H Q _=>∃a w ks xs,vs=[.ref a]/\H a=some (.tup (.str w::xs))/\(w,ks)∈bg/\ks.length=xs.length/\
 ∀l zs H',H l=none->ah H H'->H' l=some (.lst zs)->CP H' zs (ks.map V.str) xs->Q (.ref l) H'
theorem ZP(x:V)(xs:ak):cZ (x::xs) (some 1) none=xs:=by
 unfold cZ;rw[show HT.gH (x::xs).length 0 (some 1)=min 1 (xs.length+1) from HT.h9 _ _ 1,HT.qi,show min 1 (xs.length+1)=1 by lia];show xs.take (xs.length+1 - 1)=xs;exact oV (by lia)
theorem gU(x:V)(xs:ak):OS (x::xs) 0=some x:=bb (xs:=x::xs) (j:=0) rfl
theorem mL(T:Txt K mg A)(Fm:wV P w K A fm):aT P w K mg base dO 1 A.AH A.Bg ["deed"] Q5:=by
 refine T.lT.F.wc Gk ?_
 rintro cB Ar outer s H vs Q E hr ⟨a,w,ks,xs,rfl,ha,hf,hl,q⟩
 obtain⟨t,hv,ht⟩:=Fm.f _ hf;refine⟨_,(aq (aH (Hr Z Z T.AI Z T.aaZ (ag (rf Fm.JK (f_ (v:= .ref A.gC) Z T.gC Z) (cS aN (pv 0) ae)) (aM (dH iu (pv 0) (bQ ae) bW)))))),?_⟩;refine⟨_,Z,a,_,0,_,Z,Z,bc.of ha,gU _ _,.inr w,_,Z,Z,hv,_,Z,_,Z,a,_,Z,bc.of ha,?_,λp hp=> ?_⟩
 .rintro ⟨z,_⟩
  rw[show HT.gH _ 0 (some 1)=min 1 _ from HT.h9 _ _ 1] at z;simp only[bB] at z
  lia
 .rw[ZP];refine⟨t,p,_,_,Z,ht _,bc.of af,by rw[a6];exact hl,λl zs H' h1 h2 h3 h4=> ?_⟩;exact q l zs H' ((ah.upd hp).free h1) ((ah.upd hp).trans h2) h3 h4
theorem XV{A B:Prop}{x:V}(h:A):if decide (x=x)=true then A else B:=by
 rw[aB (aS Z)];exact h
theorem dG{A B:Prop}{x y:V}(n:x≠y)(h:B):if decide (x=y)=true then A else B:=by
 rw[ax (λz=>n (bD z))];exact h
theorem dZ{x y:Str}(h:x≠y):V.str x≠V.str y:=λz=>h (V.str.inj z)
theorem ni{k y:Str}{lo hi:Int}(h:(k,lo,hi)∈xo)(n:(xo.all λp=>decide (p.1≠y))=true):V.str k≠V.str y:=dZ (bD (a7.mp n _ h))
def ae1(H:Hp)(k:Str)(v:V):Prop:=(∃d,zD k d/\Dat H v d)\/(k="body" /\∃a t xs,v= .ref a/\H a=some (EF t xs))
def aem:Sp:=λvs H Q _=>∃k v,vs=[.str k,v]/\ae1 H k v/\∀H',ah H H'->Q (.bl true) H'
def ux(ok:Hp->Dd->V->Hp->VK->Prop):Sp:=λvs H Q _=>∃H0 v d,vs=[v]/\ah H0 H/\Dat H0 v (dD d)/\l8 d/\ok H0 d v H Q
theorem Jh{k:Str}{d:U'}(h:zD k d):k≠ "body":=by
 cases h with
 |num k lo hi i h=>
  intro z;subst z;exact ni h (by decide+kernel) rfl
 |_=>decide+kernel
theorem Ax{ks:au}{ds:List U'}(h:ig ks ds):ks.length=ds.length:=by
 induction h with
 |nil=>rfl
 |cons _ _ ih=>rw[bB,bB,ih]
theorem Aj{ks:au}{ds:List U'}(h:ig ks ds):∀(i:Nat) k d,ks[i]? =some k->ds[i]? =some d->zD k d:=by
 induction h with
 |nil=>intro i k d e;cases e
 |cons h t ih=>
  intro i k d e1 e2
  cases i with
  |zero=>cases e1;cases e2;exact h
  |succ i=>exact ih i k d (by simpa using e1) (by simpa using e2)
structure i8(H:Hp)(d:Dd)(a:S')(ks:au)(xs ys:ak):Prop where
 e:H a=some (.tup (.str d.wd::(xs++ys)))
 hx:DatAll H xs d.ps
 hy:DatAll H ys (bL d.bs)
 f:(d.wd,ks++List.replicate ys.length ("body" :Str))∈bg
 fit:ig ks d.ps
theorem fq{H:Hp}{v:V}{d:Dd}(h:Dat H v (dD d))(ok:l8 d):∃a ks xs ys,v= .ref a/\i8 H d a ks xs ys:=by
 obtain⟨a,xs,ys,rfl,e,h1,h2⟩:=Nx h
 cases d with
 |mk w ps bs=>
  rw[l8] at ok;obtain⟨⟨ks,f,fit⟩,_⟩:=ok
  have hl:ys.length=bs.l.length:=by
   rw[fF h2,show Dd.bs (.mk w ps bs)=bs from Z,Gw,a6]
  exact⟨a,ks,xs,ys,Z,e,h1,h2,by rw[hl];exact f,fit⟩
theorem i8.same{H H' :Hp}{d:Dd}{a:S'}{ks:au}{xs ys:ak}(p:i8 H d a ks xs ys)(s:ah H H'):i8 H' d a ks xs ys:=⟨s _ _ p.e,DatAll.same s p.hx,DatAll.same s p.hy,p.f,p.fit⟩
theorem i8.lx{H:Hp}{d:Dd}{a:S'}{ks:au}{xs ys:ak}(p:i8 H d a ks xs ys):ks.length=xs.length:=by rw[Ax p.fit,fF p.hx]
theorem i8.len{H:Hp}{d:Dd}{a:S'}{ks:au}{xs ys:ak}(p:i8 H d a ks xs ys):(ks++List.replicate ys.length ("body" :Str)).length=(xs++ys).length:=by
 rw[bu,bu,gM,p.lx]
theorem _root_.L2.CP.same{H H' :Hp}{zs xs ys:ak}(z:CP H zs xs ys)(s:ah H H'):CP H' zs xs ys:=⟨z.len,λj x y e1 e2=>by
 obtain⟨t,e3,e4⟩:=z.at_ j x y e1 e2;exact⟨t,e3,s _ _ e4⟩⟩
theorem jac{H:Hp}{zs xs ys:ak}(z:CP H zs xs ys)(hl:xs.length=ys.length){i:Nat}{v:V}(e:zs[i]? =some v):∃t x y,v= .ref t/\H t=some (.tup [x,y])/\xs[i]? =some x/\ys[i]? =some y:=by
 have hi:=(c8.mp e).1;have hz:=z.len;have e1:xs[i]? =some xs[i]:=by simp
 have e2:ys[i]? =some ys[i]:=by simp
 obtain⟨t,e3,e4⟩:=z.at_ i _ _ e1 e2;rw[e] at e3;cases e3;exact⟨t,_,_,Z,e4,e1,e2⟩
theorem fP{w:Str}{ks:au}(h:(w,ks)∈bg):ks.length<=4:=bD (a7.mp (show(bg.all λp=>decide (p.2.length<=4))=true by decide+kernel) _ h)
def ZZ:Sp:=ux λ_ d v H Q=>∀H',ah H H'->Q (.bl true) H'
def OE:Sp:=ux λH0 d v H Q=>∀l ys H',H l=none->ah H H'->H' l=some (.lst ys)->DatAll H0 ys (bL d.bs)->Q (.ref l) H'
theorem Jp{n m:Nat}{pb:Nat->Bool}(h1:∀i,i<n->pb i=false)(h2:∀i,n<=i->i<n+m->pb i=true):(List.range (n+m)).filter pb=(List.range m).map (n+ ·):=by
 rw[List.range_add,uS,DZ.mpr (λi hi=>by rw[h1 i (mK.mp hi)];decide),oE];refine lZ.mpr λi hi=> ?_;obtain⟨j,hj,rfl⟩:=jn.mp hi;exact h2 _ (o6 _ _) (Nat.add_lt_add_left (mK.mp hj) _)
theorem Cq(xs ys:ak):((List.range ys.length).map (xs.length+ ·)).map (λi=>(xs++ys).getD i .bp)=ys:=by
 apply zB;intro i;rw[kI,bY];by_cases hi:i<ys.length
 .rw[qd hi];simp[eA,hi]
 .rw[nh (by rw[oy];lia),nh (by lia)];rfl
theorem fK(T:Txt K mg A)(Fm:wV P w K A fm):aT P w K mg base dO 2 A.rn A.qG ["deed"] OE:=by
 refine T.fC.F.wc wq ?_
 rintro cB Ar outer s H vs Q E hr ⟨H0,v,d,rfl,gW,hd,ok,q⟩
 obtain⟨a,ks,xs,ys,rfl,p0⟩:=fq hd ok;have p:=p0.same gW;have hl:=p.len;have hlx:=p.lx;have hs:(ks++List.replicate ys.length ("body" :Str)).length<=sizeLine:=aU (fP p.f) (by decide);refine⟨_,(aq (aH (Ls ["kind","part"] 2 [] (ff (cG (mL T Fm) hr T.lT aC (aM (pv 0)))) (λ_ _ _ _ _=>⟨(E1 (K:=K) (n:=2) Z Z (cY (jE 0 (show(["kind","part"]:au).Nodup by decide+kernel)) (cY (jE 1 (show(["kind","part"]:au).Nodup by decide+kernel)) mV)) Z Z),(LS (wn cK (pv 0) ai)),(pv 1)⟩)))),?_⟩;refine⟨_,Z,a,d.wd,_,_,Z,p.e,p.f,p.len,λl zs H1 MS s1 hz zp=> ?_⟩;refine⟨l,Z,⟨_,cF.of hz⟩,?_⟩;have WN:zs.length=(ks++List.replicate ys.length ("body" :Str)).length:=by rw[zp.len,a6]
 have JE:zs.length=xs.length+ys.length:=by rw[WN,hl,bu]
 refine jo (λi=>decide (xs.length<=i)) (λi=>(xs++ys).getD i .bp) (fL (cF.of hz)).g (by lia) ?_ λp2 H2 h0 s2 h2=> ?_
 .intro i x H' C1 C0 hi sm hy c1 c0;obtain⟨tt,k,v,rfl,hT,e1,e2⟩:=jac (zp.same sm) (by rw[a6];exact p.len) hy;rw[bY] at e1
  cases ek:(ks++List.replicate ys.length ("body" :Str))[i]? with
  |none=>rw[ek] at e1;cases e1
  |some k' =>
   rw[ek] at e1;cases e1;refine⟨tt,_,Z,bc.of hT,Z,_,_,Z,_,_,Z,Z,((gA.refl _).own (by decide)).own (by decide),_,Z,Z,_,Z,?_⟩;by_cases hb:xs.length<=i
   .rw[kr (by lia),vR] at ek
    split at ek
    .cases ek;refine XV ?_;have:=c1 (aS hb) H' (ah.refl H');rw[eA,e2] at this;exact⟨v,Z,this⟩
    .cases ek
   .rw[iy (by lia)] at ek;rw[iy (by lia)] at e2;obtain⟨d',f1,f2⟩:=mz p.hx i v e2;exact dG (dZ (Jh (Aj p.fit i k' d' ek f1))) (c0 (ba hb) H' (ah.refl H'))
 .rw[JE,Jp (λi hi=>ba (by lia)) (λi h _=>aS h),Cq] at h2;exact q p2 ys H2 (s1.free h0) (s1.trans s2) h2 p0.hy
noncomputable def dW(w:Str):Bool:=decide (w="frame")||decide (w="turns")
def Rj:Sp:=ux λ_ d v H Q=>Q (.bl (dW d.wd)) H
theorem FJ{w:Str}{ks:au}(h:(w,ks)∈bg):IT (.str "label") (ks.map V.str)=dW w:=bD (a7.mp (show(bg.all λp=>decide (IT (.str "label") (p.2.map V.str)=dW p.1))=true by decide+kernel) _ h)
theorem k8(ks:au):(ks.map V.str).all nQ=true:=by
 rw[List.all_map];exact a7.mpr λ_ _=>rfl
theorem xT(T:Txt K mg A)(Fm:wV P w K A fm):aT P w K mg base dO 1 A.Ac A.Ad ["deed"] Rj:=by
 refine T.ur.F.wc G_ ?_
 rintro cB Ar outer s H vs Q E hr ⟨H0,v,d,rfl,gW,hd,ok,q⟩
 obtain⟨a,ks,xs,ys,rfl,p0⟩:=fq hd ok;have p:=p0.same gW;obtain⟨t,hv,ht⟩:=Fm.f _ p.f;refine⟨_,(aq (aH (HG k7 ai (rf Fm.JK (f_ (v:= .ref A.gC) Z T.gC Z) (cS aN (pv 0) ae))))),?_⟩;refine⟨_,Z,a,_,0,_,Z,Z,bc.of p.e,gU _ _,.inr d.wd,_,Z,Z,hv,t,_,Z,.inr (ht _),Z,k8 _,?_⟩;have e:=FJ p.f;show Q (V.bl (IT (.str "label") _)) H;rw[e];exact q
mutual
noncomputable def jM:Dd->Nat
 | .mk _ _ bs=>mT bs
noncomputable def d_:Ds->Nat
 | .nil=>0
 | .cons d r=>1+jM d+d_ r
noncomputable def mT:Bs->Nat
 | .nil=>0
 | .cons _ b r=>d_ b+mT r
end
theorem z_:∀s:Ds,d_ s=s.l.length+(s.l.map jM).sum
 | .nil=>by rw[d_];rfl
 | .cons d r=>by
  rw[d_,z_ r];show _=(d::r.l).length+((d::r.l).map jM).sum;rw[bB,cL,kP]
  lia
theorem Nj:∀b:Bs,mT b=(b.l.map λp=>d_ p.2).sum
 | .nil=>by rw[mT];rfl
 | .cons t b r=>by
  rw[mT,Nj r];rfl
theorem VE(d:Dd):jM d=(d.bs.l.map λp=>d_ p.2).sum:=by
 cases d with
 |mk w ps bs=>rw[jM,Nj];rfl
theorem nN{α:Type}(f:α->Nat){l:List α}{i:Nat}{x:α}(e:l[i]? =some x):((l.take (i+1)).map f).sum=((l.take i).map f).sum+f x:=by
 rw[sd,e];simp
theorem kg{d:Dd}(h:l8 d):pG d.bs:=by
 cases d with
 |mk w ps bs=>
  rw[l8] at h;exact h.2
theorem lH(d:Dd):mF d=nF d.bs:=by
 cases d with
 |mk w ps bs=>rw[mF];rfl
theorem jN{H:Hp}{s:Ds}{vs:ak}(h:DatAll H vs (sL s)){i:Nat}{x:V}(e:vs[i]? =some x):∃d,s.l[i]? =some d/\Dat H x (dD d):=by
 obtain⟨dd,e',hd⟩:=mz h i x e;rw[GH,bY] at e'
 cases el:s.l[i]? with
 |none=>rw[el] at e';cases e'
 |some d=>rw[el] at e';cases e';exact⟨d,Z,hd⟩
theorem jQ{H:Hp}{b:Bs}{vs:ak}(h:DatAll H vs (bL b)){i:Nat}{x:V}(e:vs[i]? =some x):∃p,b.l[i]? =some p/\Dat H x (iN p.1 (sL p.2)):=by
 obtain⟨dd,e',hd⟩:=mz h i x e;rw[Gw,bY] at e'
 cases el:b.l[i]? with
 |none=>rw[el] at e';cases e'
 |some d=>rw[el] at e';cases e';exact⟨d,Z,hd⟩
theorem t9{H:Hp}{s:Ds}{vs:ak}(h:DatAll H vs (sL s)):vs.length=s.l.length:=by rw[fF h,GH,a6]
theorem jj{H:Hp}{b:Bs}{vs:ak}(h:DatAll H vs (bL b)):vs.length=b.l.length:=by rw[fF h,Gw,a6]
theorem fu{P:Z'}{w:W'}{K:Frag}{mg:Str->aO}{base:Y'}{CX:uk}{k:Nat}{f:S'}{fd:aad}{ps:au}{sp:Sp}(n:∀vs H Q E,¬sp vs H Q E):aT P w K mg base CX k f fd ps sp:=by
 constructor
 .intro vs H Q E h;exact(n _ _ _ _ h).elim
 .intros;exact(n _ _ _ _ (by assumption)).elim
def spS(n:Nat)(ok:Bool->Ds->V->Hp->VK->Prop):Sp:=λvs H Q _=>∃v t s,vs=[v]/\Dat H v (iN t (sL s))/\mD s/\eO s<n/\ok t s v H Q
def Mm(n:Nat):Sp:=spS n λt s v H Q=>∀H',ah H H'->Q (.int (d_ s:Nat)) H'
theorem uJ(T:Txt K mg A)(Fm:wV P w K A fm)(n:Nat):aT P w K mg base dO (2+n) A.xq A.xv ["body"] (Mm n):=by
 induction n with
 |zero=>exact fu (by rintro vs H Q E ⟨v,t,s,_,_,_,h,_⟩;exact iH _ h)
 |succ n ih=>
 show aT P w K mg base dO ((2+n)+1) _ _ _ _;refine T.nV.F.ok lz (λvs H Q E h=> ?_) (λcB Ar outer s0 H vs Q E hr h=> ?_)
 .obtain⟨v,t,s,rfl,_⟩:=h;rfl
 .obtain⟨v,t,s,rfl,hd,ok,dp,q⟩:=h;obtain⟨a,vs,rfl,ha,hA⟩:=iM hd;refine⟨_,(aj (gf 1 lz.nd (iR br T.g7 Boot.«len» (aM (pv 0)))) (aj (A5 (pq (pv 0)) (jE 2 lz.nd) (aq (A5 (ff (cG (fK T Fm) hr T.fC aC (aM (pv 2)) (hj:=by lia))) (jE 3 lz.nd) (aq (Hl (i:=1) lz.nd Z (Or.inl Z) (cG ih hr T.nV aC (aM (pv 3)) (hj:=by lia)) Ih))))) (aq (aH (pv 1))))),?_⟩;refine⟨_,Z,a,_,Z,aa5 ha,⟨_,Z,a,t,Z,LY ha,?_⟩⟩;refine ng (K:=K) (t:=t) (a:=a) (xs:=vs) (λi σ H' =>∃x2 x3:Option V,σ=[some (.ref a),some (.int ((vs.length+((s.l.take i).map jM).sum:Nat):Int)),x2,x3]/\ah H H') ⟨_,_,Z,ah.refl H⟩ (by rintro i σ H' _ ⟨_,_,_,sm⟩;exact sm _ _ ha) ?_ ?_
  .rintro i x σ H' hx ⟨x2,x3,rfl,sm⟩
   obtain⟨d,ed,sZ⟩:=jN hA hx;have dm:=bE ed;have l6:=gE ok d dm;have LN:=gK d dm;refine⟨_,Z,H,x,d,Z,sm,sZ,l6,λl ys H1 MS s1 hz hB=>⟨l,Z,⟨_,cF.of hz⟩,?_⟩⟩;refine jb (K:=K) (a:=l) (xs:=ys) (λj σ H2=>∃x3:Option V,σ=[some (.ref a),some (.int ((vs.length+((s.l.take i).map jM).sum+((d.bs.l.take j).map λp=>d_ p.2).sum:Nat):Int)),some x,x3]/\ah H1 H2) ⟨_,Z,ah.refl H1⟩ (by rintro i σ H' _ ⟨_,_,sm⟩;exact cF.of (sm _ _ hz)) ?_ ?_
   .rintro j y σ H2 hy ⟨x3,rfl,s2⟩
    obtain⟨p,ep,hp⟩:=jQ hB hy;have pm:=bE ep;have y_:=hZ (kg l6) p pm;have FE:=h8 p pm;rw[<-lH] at FE;refine⟨_,Z,_,Z,y,p.1,p.2,Z,hp.same (sm.trans (s1.trans s2)),y_,by lia,λH3 s3=>⟨_,_,Z,Z,some y,?_,s2.trans s3⟩⟩;rw[nN (λp:Bool×Ds=>d_ p.2) ep,<-Nat.add_assoc,rT (_+_) (d_ p.2)];rfl
   .rintro σ H2 ⟨x3,rfl,s2⟩
    refine⟨some x,x3,?_,sm.trans (s1.trans s2)⟩;rw[jj hB,gg,<-VE,nN jM ed,Nat.add_assoc]
  .rintro σ H' ⟨x2,x3,rfl,sm⟩
   refine⟨_,Z,?_⟩;rw[t9 hA,gg,<-z_];exact q H' sm
noncomputable def pN:List Nat->Nat
 |[]=>0
 |x::r=>max x (pN r)
theorem Gm:∀(l:List Nat) (x:Nat),pN (l++[x])=max (pN l) x
 |[],x=>by
  show max x 0=max 0 x
  lia
 |y::r,x=>by
  show max y (pN (r++[x]))=max (max y (pN r)) x;rw[Gm r x]
  lia
theorem Nm:∀s:Ds,eO s=pN (s.l.map mF)
 | .nil=>by rw[eO];rfl
 | .cons d r=>by rw[eO,Nm r];rfl
theorem Ob:∀b:Bs,nF b=pN (b.l.map λp=>eO p.2+1)
 | .nil=>by rw[nF];rfl
 | .cons t b r=>by rw[nF,Ob r];rfl
theorem DX{α:Type}(f:α->Nat){l:List α}{i:Nat}{x:α}(e:l[i]? =some x):pN ((l.take (i+1)).map f)=max (pN ((l.take i).map f)) (f x):=by
 rw[sd,e];simp[Gm]
def Q1(n:Nat):Sp:=spS n λt s v H Q=>∀H',ah H H'->Q (.int (eO s:Nat)) H'
theorem FX(T:Txt K mg A)(Fm:wV P w K A fm)(n:Nat):aT P w K mg base dO (2+n) A.By A.BF ["body"] (Q1 n):=by
 induction n with
 |zero=>exact fu (by rintro vs H Q E ⟨v,t,s,_,_,_,h,_⟩;exact iH _ h)
 |succ n ih=>
 show aT P w K mg base dO ((2+n)+1) _ _ _ _;refine T.uF.F.ok j8 (λvs H Q E h=> ?_) (λcB Ar outer s0 H vs Q E hr h=> ?_)
 .obtain⟨v,t,s,rfl,_⟩:=h;rfl
 .obtain⟨v,t,s,rfl,hd,ok,dp,q⟩:=h;obtain⟨a,vs,rfl,ha,hA⟩:=iM hd;refine⟨_,(aj (gf 1 j8.nd ae) (aj (A5 (pq (pv 0)) (jE 2 j8.nd) (aq (A5 (ff (cG (fK T Fm) hr T.fC aC (aM (pv 2)) (hj:=by lia))) (jE 3 j8.nd) (aq (gf 1 j8.nd (iR (kY Z) T.yy Boot.«max» (ag (pv 1) (aM (aL bw ae (cG ih hr T.uF aC (aM (pv 3)) (hj:=by lia))))))))))) (aq (aH (pv 1))))),?_⟩;refine⟨_,Z,a,t,Z,LY ha,?_⟩;refine ng (K:=K) (t:=t) (a:=a) (xs:=vs) (λi σ H' =>∃x2 x3:Option V,σ=[some (.ref a),some (.int (pN ((s.l.take i).map mF):Nat)),x2,x3]/\ah H H') ⟨_,_,Z,ah.refl H⟩ (by rintro i σ H' _ ⟨_,_,_,sm⟩;exact sm _ _ ha) ?_ ?_
  .rintro i x σ H' hx ⟨x2,x3,rfl,sm⟩
   obtain⟨d,ed,sZ⟩:=jN hA hx;have dm:=bE ed;have l6:=gE ok d dm;have LN:=gK d dm;refine⟨_,Z,H,x,d,Z,sm,sZ,l6,λl ys H1 MS s1 hz hB=>⟨l,Z,⟨_,cF.of hz⟩,?_⟩⟩;refine jb (K:=K) (a:=l) (xs:=ys) (λj σ H2=>∃x3:Option V,σ=[some (.ref a),some (.int ((max (pN ((s.l.take i).map mF)) (pN ((d.bs.l.take j).map λp=>eO p.2+1)):Nat):Int)),some x,x3]/\ah H1 H2) ⟨x3,?_,ah.refl H1⟩ (by rintro i σ H' _ ⟨_,_,sm⟩;exact cF.of (sm _ _ hz)) ?_ ?_
   .rw[show max (pN ((s.l.take i).map mF)) (pN ((d.bs.l.take 0).map λp=>eO p.2+1))=pN ((s.l.take i).map mF) from Nat.max_eq_left (cH _)];rfl
   .rintro j y σ H2 hy ⟨x3,rfl,s2⟩
    obtain⟨p,ep,hp⟩:=jQ hB hy;have pm:=bE ep;have y_:=hZ (kg l6) p pm;have FE:=h8 p pm;rw[<-lH] at FE;refine⟨_,Z,_,Z,y,p.1,p.2,Z,hp.same (sm.trans (s1.trans s2)),y_,by lia,λH3 s3=>⟨1,_,Z,Z,_,_,Z,some y,?_,s2.trans s3⟩⟩;rw[DX (λp:Bool×Ds=>eO p.2+1) ep,<-Nat.max_assoc]
    have e:∀m k:Nat,((max m (k+1):Nat):Int)=if(1+(k:Int))>(m:Int) then(1+(k:Int)) else(m:Int):=λm k=>by
     split<;>lia
    rw[e];rfl
   .rintro σ H2 ⟨x3,rfl,s2⟩
    refine⟨some x,x3,?_,sm.trans (s1.trans s2)⟩;rw[jj hB,gg,<-Ob,<-lH,DX mF ed]
  .rintro σ H' ⟨x2,x3,rfl,sm⟩
   refine⟨_,Z,?_⟩;rw[t9 hA,gg,<-Nm];exact q H' sm
noncomputable def jd(d:Dd):Str:=match d.ps with
 | .str x::_=>x
 |_=>""
noncomputable def oA(d:Dd)(ar:au):au:=if dW d.wd=true then jd d::ar else ar
mutual
noncomputable def DF:Dd->au->List (Dd×au)
 | .mk w ps bs,ar=>(.mk w ps bs,ar)::EW bs (oA (.mk w ps bs) ar)
noncomputable def pI:Ds->au->List (Dd×au)
 | .nil,_=>[]
 | .cons d r,ar=>DF d ar++pI r ar
noncomputable def EW:Bs->au->List (Dd×au)
 | .nil,_=>[]
 | .cons _ b r,ar=>pI b ar++EW r ar
end
theorem HM(ar:au):∀s:Ds,pI s ar=s.l.flatMap λd=>DF d ar
 | .nil=>by rw[pI];rfl
 | .cons d r=>by rw[pI,HM ar r];rfl
theorem OI(ar:au):∀b:Bs,EW b ar=b.l.flatMap λp=>pI p.2 ar
 | .nil=>by rw[EW];rfl
 | .cons t b r=>by rw[EW,OI ar r];rfl
theorem MG(d:Dd)(ar:au):DF d ar=(d,ar)::d.bs.l.flatMap λp=>pI p.2 (oA d ar):=by
 cases d with
 |mk w ps bs=>rw[DF,OI];rfl
mutual
theorem Ej:∀(d:Dd) (ar:au),(DF d ar).length=1+jM d
 | .mk w ps bs,ar=>by rw[DF,bB,Kh bs,jM];lia
theorem wD:∀(s:Ds) (ar:au),(pI s ar).length=d_ s
 | .nil,ar=>by rw[pI,d_];rfl
 | .cons d r,ar=>by rw[pI,bu,Ej d,wD r,d_]
theorem Kh:∀(b:Bs) (ar:au),(EW b ar).length=mT b
 | .nil,ar=>by rw[EW,mT];rfl
 | .cons t b r,ar=>by rw[EW,bu,wD b,Kh r,mT]
end
theorem iz{α β:Type}(f:α->List β){l:List α}{i:Nat}{x:α}(e:l[i]? =some x):(l.take (i+1)).flatMap f=(l.take i).flatMap f++f x:=by
 rw[sd,e];simp
theorem kM{α β:Type}(f:α->List β)(l:List α)(i:Nat):((l.take i).flatMap f).length<=(l.flatMap f).length:=by
 have e:l.flatMap f=(l.take i).flatMap f++(l.drop i).flatMap f:=by rw[<-List.flatMap_append,jC]
 rw[e,bu]
 lia
theorem jG:∀{s:Ds},∀d∈s.l,1+jM d<=d_ s
 | .nil,d,h=>by cases h
 | .cons e r,d,hd=>by
  rw[d_];rcases aP.mp hd with rfl|hd
  .lia
  .have:=jG (s:=r) d hd
   lia
theorem kS:∀{b:Bs},∀p∈b.l,d_ p.2<=mT b
 | .nil,p,h=>by cases h
 | .cons t b r,p,hp=>by
  rw[mT];rcases aP.mp hp with rfl|hp
  .exact o6 _ _
  .have:=kS (b:=r) p hp
   lia
theorem pS(d:Dd):jM d=mT d.bs:=by
 cases d with
 |mk w ps bs=>rw[jM];rfl
theorem GS{w:Str}{ks:au}(h:(w,ks)∈bg)(b:dW w=true):ks.head? =some "label":=by
 have:=bD (a7.mp (show(bg.all λp=>decide (dW p.1=true->p.2.head? =some "label"))=true by decide+kernel) _ h);exact this b
theorem i8.jd{H:Hp}{d:Dd}{a:S'}{ks:au}{xs ys:ak}(p:i8 H d a ks xs ys)(b:dW d.wd=true):∃QK,xs= .str (jd d)::QK :=by
 have h:=GS p.f b;have hf:=p.fit;have hx:=p.hx;unfold My.jd
 cases ks with
 |nil=>
  rw[oE] at h
  cases hn:ys.length with
  |zero=>rw[hn] at h;cases h
  |succ m=>rw[hn,pM] at h;exact absurd (fW h) (by decide+kernel)
 |cons k ks=>
  have hk:k="label":=fW h;subst hk;generalize d.ps=ps at hf hx
  cases hf with
  |cons h1 h2=>
   cases hx with
   |cons g1 g2=>
    cases h1 with
    |label x _ _=>cases g1;exact⟨_,Z⟩
    |num _ _ _ _ hb=>exact absurd Z (ni hb (by decide+kernel))
def GJ(H0 H:Hp)(v:V)(r:Dd×au):Prop:=∃t x u,v= .ref t/\H t=some (.tup [x,.ref u])/\Dat H0 x (dD r.1)/\H u=some (.tup (r.2.map V.str))
structure gP(H0 H:Hp)(zs:ak)(rs:List (Dd×au)):Prop where
 len:zs.length=rs.length
 at_:∀(i:Nat) v,zs[i]? =some v->∃r,rs[i]? =some r/\GJ H0 H v r
def KT(H H' :Hp):Prop:=∀c xs,H c=some (.tup xs)->H' c=some (.tup xs)
theorem GJ.kt{H0 H H' :Hp}{v:V}{r:Dd×au}(h:GJ H0 H v r)(k:KT H H'):GJ H0 H' v r:=by
 obtain⟨t,x,u,e1,e2,e3,e4⟩:=h;exact⟨t,x,u,e1,k _ _ e2,e3,k _ _ e4⟩
theorem gP.kt{H0 H H' :Hp}{zs:ak}{rs:List (Dd×au)}(h:gP H0 H zs rs)(k:KT H H'):gP H0 H' zs rs:=⟨h.len,λi v e=>by
 obtain⟨r,e1,e2⟩:=h.at_ i v e;exact⟨r,e1,e2.kt k⟩⟩
theorem gP.nil{H0 H:Hp}:gP H0 H [] []:=⟨Z,λi v e=>by cases e⟩
theorem gP.app{H0 H:Hp}{zs ws:ak}{rs qs:List (Dd×au)}(h:gP H0 H zs rs)(g:gP H0 H ws qs):gP H0 H (zs++ws) (rs++qs):=⟨by rw[bu,bu,h.len,g.len],λi v e=>by
 have hl:=h.len;by_cases hi:i<zs.length
 .rw[iy hi] at e;rw[iy (by lia)];exact h.at_ i v e
 .rw[kr (by lia)] at e;rw[kr (by lia),<-hl];exact g.at_ _ v e⟩
theorem gP.one{H0 H:Hp}{v:V}{r:Dd×au}(h:GJ H0 H v r):gP H0 H [v] [r]:=⟨Z,λi w e=>by
 cases i with
 |zero=>cases e;exact⟨r,Z,h⟩
 |succ i=>cases e⟩
theorem KT.same{H H' :Hp}(s:ah H H'):KT H H' :=λc xs e=>s c _ e
theorem KT.upd{H:Hp}{a:S'}{xs:ak}{o:HO}(h:H a=some (.lst xs)):KT H (upd H a o):=λc ys e=>by
 rw[az (dB e h (by intro z;cases z))];exact e
theorem KT.trans{H1 H2 H3:Hp}(a:KT H1 H2)(b:KT H2 H3):KT H1 H3:=λc xs e=>b c xs (a c xs e)
theorem fh{H H' :Hp}{a:S'}{o:HO}(h:H a=none)(s:ah H H'):ah H (upd H' a o):=λc q e=>by
 rw[az (aA e h)];exact s c q e
theorem JD{K:Frag}{H:Hp}{a:S'}{xs:ak}(h:H a=some (.lst xs)):tyV K "list" (.ref a) H:= .inl ⟨Z,_,cF.of h⟩
theorem jar{c:Bool}{X Y:Prop}{M G:S'->Hp->Prop}(ha:c=true->(∀u h,G u h->M u h)->X)(hb:c=false->(∀u h,G u h->M u h)->Y)(k:∀u h,G u h->M u h):if c=true then X else Y:=by
 cases c with
 |true=>exact a9 (ha Z k)
 |false=>exact bo (hb Z k)
def KI(n:Nat):Sp:=λvs H Q _=>∃H0 v t s u ar,vs=[v,.ref u]/\ah H0 H/\Dat H0 v (iN t (sL s))/\mD s/\eO s<n/\H u=some (.tup (ar.map V.str))/\ar≠[]/\d_ s<=1000/\ar.length+eO s<1000/\
 ∀l zs H',H l=none->ah H H'->H' l=some (.lst zs)->gP H0 H' zs (pI s ar)->Q (.ref l) H'
theorem HU(T:Txt K mg A)(Fm:wV P w K A fm)(n:Nat):aT P w K mg base dO (2+n) A.CK A.Cy ["body","around"] (KI n):=by
 induction n with
 |zero=>exact fu (by rintro vs H Q E ⟨H0,v,t,s,u,ar,_,_,_,_,h,_⟩;exact iH _ h)
 |succ n ih=>
 show aT P w K mg base dO ((2+n)+1) _ _ _ _;refine T.wX.F.ok me (λvs H Q E h=> ?_) (λcB Ar outer s0 H vs Q E hr h=> ?_)
 .obtain⟨H0,v,t,s,u,ar,rfl,_⟩:=h;rfl
 .obtain⟨H0,v,t,s,u,ar,rfl,Lp,hd,ok,dp,hu,wQ,hmn,Q6,q⟩:=h;obtain⟨a,vs,rfl,ha,hA⟩:=iM hd;have L4:(1000:Nat)<=sizeLine:=by decide
  refine⟨_,(aj (gf 2 me.nd (bH dY)) (aj (A5 (pq (pv 0)) (jE 3 me.nd) (aj (bZ (lR gT D' F' dw (pv 2) (aM (bt (ag (pv 3) (aM (pv 1))))))) (aj (gf 4 me.nd (qV (gv (cG (xT T Fm) hr T.ur aC (aM (pv 3)) (hj:=by lia))) (aL jI (bt (aM (cS aN (pv 3) ae))) (pv 1)) (pv 1))) (aq (A5 (ff (cG (fK T Fm) hr T.fC aC (aM (pv 3)) (hj:=by lia))) (jE 5 me.nd) (aq (bZ (lR gT zR type_list_extend xA (pv 2) (aM (cG ih hr T.wX aC (ag (pv 5) (aM (pv 4))) (hj:=by lia))))))))))) (aq (aH (pv 2))))),?_⟩;refine⟨nq,λfl pd=>⟨_,Z,a,t,Z,LY (fh pd (ah.refl H) _ _ (Lp _ _ ha)),?_⟩⟩;refine ng (K:=K) (t:=t) (a:=a) (xs:=vs) (λi σ H' =>∃(x3 x4 x5:Option V) (zs:ak),σ=[some (.ref a),some (.ref u),some (.ref fl),x3,x4,x5]/\ah H H'/\H' fl=some (.lst zs)/\gP H0 H' zs ((s.l.take i).flatMap λd=>DF d ar)) ⟨_,_,_,[],Z,fh pd (ah.refl H),af,.nil⟩ (by rintro i σ H' _ ⟨_,_,_,_,_,sm,_⟩;exact sm _ _ (Lp _ _ ha)) ?_ ?_
  .rintro i x σ H' hx ⟨x3,x4,x5,zs,rfl,sm,m7,R⟩
   obtain⟨d,ed,sZ⟩:=jN hA hx;have dm:=bE ed;have l6:=gE ok d dm;have LN:=gK d dm;have Qh:=jG d dm;have tl:=kM (λd=>DF d ar) s.l (i+1);rw[<-HM,wD,iz (λd=>DF d ar) ed,bu,Ej,<-R.len] at tl;obtain⟨b,ks,xs,C2,rfl,p0⟩:=fq sZ l6;refine⟨_,Z,JD m7,_,Z,_,Z,hV,λt1 uo=>⟨fl,zs,.ref t1,Z,Z,(ah.upd uo) _ _ m7,by lia,?_⟩⟩;have ajS:H' fl≠none:=by rw[m7];exact λz=>nomatch z
   have s1:ah H (upd (upd H' t1 (.tup [.ref b,.ref u])) fl (.lst (zs++[.ref t1]))):=fh pd (sm.trans (ah.upd uo));have k1:KT H' (upd (upd H' t1 (.tup [.ref b,.ref u])) fl (.lst (zs++[.ref t1]))):=(KT.same (ah.upd uo)).trans (KT.upd ((ah.upd uo) _ _ m7));have wI:upd (upd H' t1 (.tup [.ref b,.ref u])) fl (.lst (zs++[.ref t1])) fl=some (.lst (zs++[.ref t1])):=af;have Zr :upd (upd H' t1 (.tup [.ref b,.ref u])) fl (.lst (zs++[.ref t1])) t1=some (.tup [.ref b,.ref u]):=(KT.upd ((ah.upd uo) _ _ m7)) _ _ af;generalize upd (upd H' t1 (.tup [.ref b,.ref u])) fl (.lst (zs++[.ref t1]))=H2 at s1 k1 wI Zr ⊢;have R2:gP H0 H2 (zs++[.ref t1]) (((s.l.take i).flatMap λd=>DF d ar)++[(d,ar)]):=(R.kt k1).app (.one ⟨t1,_,u,Z,Zr,sZ,s1 _ _ hu⟩);have p:=p0.same (Lp.trans s1);refine⟨_,Z,H0,_,d,Z,Lp.trans s1,sZ,l6,_,Z,?_⟩
   have aec:oA d ar≠[]:=by
    unfold oA
    split
    .exact λz=>nomatch z
    .exact wQ
   have hil:(oA d ar).length<=ar.length+1:=by
    unfold oA
    split
    .exact aK _
    .exact vD _
   apply jar (c:=dW d.wd) (G:=λu' H3=>ah H2 H3/\H3 u' =some (.tup ((oA d ar).map V.str)))
   .intro hb k;obtain⟨QK,Dv⟩:=p0.jd hb;have pe:=p.e;rw[Dv] at pe;refine⟨_,Z,b,_,1,_,Z,Z,bc.of pe,bb (j:=1) Z,yZ,λt2 wO=>⟨_,Z,t2,u,_,_,Z,Z,bc.of af,bc.of ((ah.upd wO) _ _ (s1 _ _ hu)),(λz=>nomatch z),?_,(λz=>absurd (List.map_eq_nil_iff.mp z) wQ),λ_ u' qC=> ?_⟩⟩
    .rw[a6];show 1+ar.length<=_
     lia
    have s3:ah H2 (upd (upd H2 t2 (.tup [.str (jd d)])) u' (.tup ([.str (jd d)]++ar.map V.str))):=(ah.upd wO).trans (ah.upd qC)
    have Pe:upd (upd H2 t2 (.tup [.str (jd d)])) u' (.tup ([.str (jd d)]++ar.map V.str)) u' =some (.tup ((oA d ar).map V.str)):=by
     rw[af];unfold oA;rw[hb];rfl
    generalize upd (upd H2 t2 (.tup [.str (jd d)])) u' (.tup ([.str (jd d)]++ar.map V.str))=H3 at s3 Pe ⊢;exact k u' H3 ⟨s3,Pe⟩
   .intro hb k;refine⟨_,Z,k u H2 ⟨ah.refl H2,?_⟩⟩;unfold oA;rw[hb];exact s1 _ _ hu
   .rintro u' H3 ⟨s3,Pe⟩
    refine⟨_,Z,H0,_,d,Z,(Lp.trans s1).trans s3,sZ,l6,λl ys H4 hl4 s4 hz hB=>⟨l,Z,⟨_,cF.of hz⟩,?_⟩⟩;have Jb:=s4 _ _ (s3 _ _ wI);have XZ:l≠fl:=(aA (s3 _ _ wI) hl4).symm;refine jb (K:=K) (a:=l) (xs:=ys) (λj σ H5=>∃(x5:Option V) (He :ak),σ=[some (.ref a),some (.ref u),some (.ref fl),some (.ref b),some (.ref u'),x5]/\Kept fl H4 H5/\H5 fl=some (.lst He)/\gP H0 H5 He (((s.l.take i).flatMap λd=>DF d ar)++(d,ar)::(d.bs.l.take j).flatMap λp=>pI p.2 (oA d ar))) ⟨x5,_,Z,Kept.refl _ _,Jb,R2.kt (KT.same (s3.trans s4))⟩ (by rintro i σ H' _ ⟨_,_,_,k,_⟩;exact cF.of (k _ _ XZ hz)) ?_ ?_
    .rintro j y σ H5 hy ⟨x5,He,rfl,k5,qA,R5⟩
     obtain⟨pp,ep,hp⟩:=jQ hB hy;have pm:=bE ep;have y_:=hZ (kg l6) pp pm;have FE:=h8 pp pm;have NK:=kS pp pm;rw[<-lH] at FE;rw[<-pS] at NK;have tl2:=kM (λp:Bool×Ds=>pI p.2 (oA d ar)) d.bs.l (j+1);have ll:=Ej d ar;rw[MG,bB] at ll;rw[iz (λp:Bool×Ds=>pI p.2 (oA d ar)) ep,bu,wD] at tl2;have r5l:=R5.len;rw[bu,bB,<-R.len] at r5l;have S05:ah H0 H5:=λc o e=>k5 c o (aA (Lp _ _ e) pd) (s4 _ _ (s3 _ _ (s1 _ _ (Lp _ _ e))));have hu5:H5 u' =some (.tup ((oA d ar).map V.str)):=k5 _ _ (dB (s3 _ _ wI) Pe (λz=>nomatch z)).symm (s4 _ _ Pe);refine⟨_,Z,JD qA,_,Z,_,Z,H0,y,pp.1,pp.2,u',oA d ar,Z,S05,hp,y_,by lia,hu5,aec,by lia,by lia,λl2 X5 H6 n5 s6 hz6 R6=>⟨fl,l2,He,X5,Z,Z,s6 _ _ qA,hz6,?_,some y,He ++X5,Z,?_,af,?_⟩⟩
     .have:=R6.len;rw[wD] at this
      lia
     .exact λc o hc e=>by
       rw[az hc];exact s6 _ _ (k5 c o hc e)
     .have kk:=KT.upd (o:= .lst (He ++X5)) (s6 _ _ qA);rw[iz (λp:Bool×Ds=>pI p.2 (oA d ar)) ep,<-zN,<-EC];exact((R5.kt (KT.same s6)).app R6).kt kk
    .rintro σ H5 ⟨x5,He,rfl,k5,qA,R5⟩
     refine⟨_,_,_,He,Z,λc o e=>k5 c o (aA e pd) (s4 _ _ (s3 _ _ (s1 _ _ e))),qA,?_⟩;rw[jj hB,gg,<-MG,<-iz (λd=>DF d ar) ed] at R5;exact R5
  .rintro σ H' ⟨x3,x4,x5,zs,rfl,sm,m7,R⟩
   refine⟨_,Z,q fl zs H' pd sm m7 ?_⟩;rw[t9 hA,gg,<-HM] at R;exact R
theorem Cu{ks:au}{ps:List U'}(h:ig ks ps):∀k∈ks,k≠ "body":=by
 induction h with
 |nil=>intro k hk;cases hk
 |cons h t ih=>
  intro k hk;rcases aP.mp hk with rfl|hk
  .exact Jh h
  .exact ih k hk
theorem Ui{ks:au}{m:Nat}{L:au}(h:∀k∈ks,k≠ "body")(e:ks++List.replicate m ("body" :Str)=L):ks=L.filter (λk:Str=>decide (k≠ "body"))/\m=(L.filter λk:Str=>decide (k="body")).length:=by
 subst e;constructor
 .rw[uS,lZ.mpr (λk hk=>aS (h k hk)),DZ.mpr (λk hk=>by rw[List.eq_of_mem_replicate hk];decide),fJ]
 .rw[uS,DZ.mpr (λk hk=>by simpa using h k hk),oE,lZ.mpr (λk hk=>by rw[List.eq_of_mem_replicate hk];decide),gM]
inductive Shape:Dd->Prop
 |ei (t:Bool) (b:Ds) (u:Bool) (c:Ds):Shape (.mk "either" [] (.cons t b (.cons u c .nil)))
 |tu (l:Str) (m n:Int) (t:Bool) (b:Ds) (hl:cv l=true) (hg:l≠ "ground") (m1:1<=m) (m3:m<=3) (n0:0<=n) (n4:n<=4):Shape (.mk "turns" [.str l,.int m,.int n] (.cons t b .nil))
 |fr (l:Str) (t:Bool) (b:Ds) (hl:cv l=true) (hg:l≠ "ground"):Shape (.mk "frame" [.str l] (.cons t b .nil))
 |sm (w:Str) (ks:au) (ps:List U') (f:(w,ks)∈bg) (h:ig ks ps) (n1:w≠ "either") (n2:w≠ "turns") (n3:w≠ "frame"):Shape (.mk w ps .nil)
theorem JJ{b:Bs}(h:b.l.length=0):b= .nil:=by
 cases b with
 |nil=>rfl
 |cons t b r=>cases h
theorem DO{b:Bs}(h:b.l.length=1):∃t c,b= .cons t c .nil:=by
 cases b with
 |nil=>cases h
 |cons t b r=>exact⟨t,b,by rw[JJ (b:=r) (oG h)]⟩
theorem Qq{b:Bs}(h:b.l.length=2):∃t c u e,b= .cons t c (.cons u e .nil):=by
 cases b with
 |nil=>cases h
 |cons t b r=>
  obtain⟨u,e,rfl⟩:=DO (b:=r) (oG h);exact⟨t,b,u,e,Z⟩
theorem Dt{d:U'}(h:zD "label" d):∃x,d= .str x/\cv x=true/\x≠ "ground":=by
 cases h with
 |label x h n=>exact⟨x,Z,h,n⟩
 |num _ _ _ _ hb=>exact absurd Z (ni hb (by decide+kernel))
theorem Kb{k:Str}{lo hi:Int}{d:U'}(h:zD k d)(hk:k="many" /\lo=1/\hi=3\/k="times" /\lo=0/\hi=4):∃i,d= .int i/\lo<=i/\i<=hi:=by
 cases h with
 |num _ lo' hi' i hb h1 h2=>
  refine⟨i,Z,?_⟩;have:=a7.mp (show(xo.all λp=>decide ((p.1="many" ->p.2=(1,3))/\(p.1="times" ->p.2=(0,4))))=true by decide+kernel) _ hb;have:=bD this;rcases hk with⟨rfl,rfl,rfl⟩|⟨rfl,rfl,rfl⟩
  .have e:=this.1 rfl;cases e;exact⟨h1,h2⟩
  .have e:=this.2 rfl;cases e;exact⟨h1,h2⟩
 |_=>
  rcases hk with⟨z,_⟩|⟨z,_⟩<;>exact absurd z (by decide+kernel)
theorem jaf{d:Dd}(ok:l8 d):Shape d:=by
 cases d with
 |mk w ps bs=>
  rw[l8] at ok;obtain⟨⟨ks,f,fit⟩,_⟩:=ok;have nb:=Cu fit;generalize hL:ks++List.replicate bs.l.length ("body" :Str)=L at f;obtain⟨e1,e2⟩:=Ui nb hL;have f0:=f;by_cases h1:w="either"
  .subst h1;have:=bD (a7.mp (show(bg.all λp=>decide (p.1="either" ->p.2=(["body","body"]:au)))=true by decide+kernel) _ f) rfl;dsimp only at this;subst this;obtain⟨t,c,u,e,rfl⟩:=Qq (e2.trans (by decide+kernel));rw[show ks=([]:au) from e1.trans (by decide+kernel)] at fit;cases fit;exact .ei t c u e
  .by_cases h2:w="turns"
   .subst h2;have:=bD (a7.mp (show(bg.all λp=>decide (p.1="turns" ->p.2=(["label","many","times","body"]:au)))=true by decide+kernel) _ f) rfl;dsimp only at this;subst this;obtain⟨t,c,rfl⟩:=DO (e2.trans (by decide+kernel));rw[show ks=(["label","many","times"]:au) from e1.trans (by decide+kernel)] at fit
    cases fit with
    |cons a r=>
     cases r with
     |cons b r=>
      cases r with
      |cons c' r=>
       cases r;obtain⟨l,rfl,hl,hg⟩:=Dt a;obtain⟨m,rfl,m1,m3⟩:=Kb b (.inl ⟨Z,Z,Z⟩);obtain⟨n,rfl,n0,n4⟩:=Kb c' (.inr ⟨Z,Z,Z⟩);exact .tu l m n t c hl hg m1 m3 n0 n4
   .by_cases h3:w="frame"
    .subst h3;have:=bD (a7.mp (show(bg.all λp=>decide (p.1="frame" ->p.2=(["label","body"]:au)))=true by decide+kernel) _ f) rfl;dsimp only at this;subst this;obtain⟨t,c,rfl⟩:=DO (e2.trans (by decide+kernel));rw[show ks=(["label"]:au) from e1.trans (by decide+kernel)] at fit
     cases fit with
     |cons a r=>
      cases r;obtain⟨l,rfl,hl,hg⟩:=Dt a;exact .fr l t c hl hg
    .have:=bD (a7.mp (show(bg.all λp=>decide (p.1≠ "either" ->p.1≠ "turns" ->p.1≠ "frame" ->(p.2.filter λk:Str=>decide (k="body")).length=0))=true by decide+kernel) _ f) h1 h2 h3;have hb:=JJ (e2.trans this);subst hb;have:ks=L:=by rw[<-hL];exact(fJ ks).symm
     subst this;exact .sm w ks ps f fit h1 h2 h3
noncomputable def X7(ps:List U'):Nat:=match ps with
 |[_,_,.int n]=>n.toNat
 |_=>0
mutual
noncomputable def Az:Dd->Nat
 | .mk w ps bs=>if w="either" then 1+pN (ua bs) else if w="turns" then X7 ps*(ua bs).headD 0 else(ua bs).sum
noncomputable def jS:Ds->Nat
 | .nil=>0
 | .cons d r=>Az d+jS r
noncomputable def ua:Bs->List Nat
 | .nil=>[]
 | .cons _ b r=>jS b::ua r
end
mutual
noncomputable def AE:Dd->Nat
 | .mk w ps bs=>if w="either" then 1+pN (uh bs) else if w="turns" then X7 ps*(1+(uh bs).headD 0)+1 else if w="frame" then 1+(uh bs).headD 0+1 else 1
noncomputable def jT:Ds->Nat
 | .nil=>0
 | .cons d r=>AE d+jT r
noncomputable def uh:Bs->List Nat
 | .nil=>[]
 | .cons _ b r=>jT b::uh r
end
theorem Hw:∀s:Ds,jS s=(s.l.map Az).sum
 | .nil=>by rw[jS];rfl
 | .cons d r=>by rw[jS,Hw r];rfl
theorem IS:∀s:Ds,jT s=(s.l.map AE).sum
 | .nil=>by rw[jT];rfl
 | .cons d r=>by rw[jT,IS r];rfl
theorem wW:∀b:Bs,ua b=b.l.map λp=>jS p.2
 | .nil=>by rw[ua];rfl
 | .cons t b r=>by rw[ua,wW r];rfl
theorem EG:∀b:Bs,uh b=b.l.map λp=>jT p.2
 | .nil=>by rw[uh];rfl
 | .cons t b r=>by rw[uh,EG r];rfl
noncomputable def yP(dp mn:Nat):Nat:=5*4 ^ dp*mn
theorem rp{d d' m m' :Nat}(h:d<=d')(k:m<=m'):yP d m<=yP d' m' :=Nat.mul_le_mul (Nat.mul_le_mul_left _ (Nat.pow_le_pow_right (by decide) h)) k
theorem QY(d m k:Nat):yP d m+yP d k=yP d (m+k):=(Nat.mul_add _ _ _).symm
theorem Iu(d m:Nat):5+4*yP d m<=yP (d+1) (1+m):=by
 unfold yP;have h:1<=4 ^ d:=Nat.pow_pos (by decide)
 rw[Nat.pow_succ,show 5*(4 ^ d*4)*(1+m)=20*4 ^ d+4*(5*4 ^ d*m) by
  rw[Nat.mul_add,Nat.mul_one]
  congr 1
  .lia
  .rw[<-Nat.mul_assoc,<-Nat.mul_assoc]
   congr 1
   lia]
 lia
mutual
theorem OT:∀d:Dd,l8 d->Az d<=yP (mF d) (1+jM d)/\AE d<=yP (mF d) (1+jM d)
 | .mk w ps bs,ok=>by
  have hb:pG bs:=kg ok;have sh:=jaf ok;have hB:=abw bs hb;rw[mF,jM,Az,AE]
  cases sh with
  |ei t b u c=>
   rw[aB Z,aB Z];rw[pG,pG,pG] at hb;have h1:=Af b hb.1;have h2:=Af c hb.2.1;rw[ua,ua,ua,uh,uh,uh,nF,nF,nF,mT,mT,mT];have e1:=Iu (max (eO b) (eO c)) (d_ b+d_ c);have c1:yP (eO b) (d_ b)<=yP (max (eO b) (eO c)) (d_ b+d_ c):=rp (zS _ _) (o6 _ _);have c2:yP (eO c) (d_ c)<=yP (max (eO b) (eO c)) (d_ b+d_ c):=rp (zi _ _) (Nat.le_add_left _ _);have ed:max (eO b+1) (max (eO c+1) 0)=max (eO b) (eO c)+1:=by lia
   have em:1+(d_ b+(d_ c+0))=1+(d_ b+d_ c):=by lia
   rw[ed,em];show 1+max (jS b) (max (jS c) 0)<=_/\1+max (jT b) (max (jT c) 0)<=_
   lia
  |tu l m n t b hl hg m1 m3 n0 n4=>
   rw[ax (by decide+kernel),aB Z,ax (by decide+kernel),aB Z];rw[pG,pG] at hb;have h1:=Af b hb.1;rw[ua,ua,uh,uh,nF,nF,mT,mT];have e1:=Iu (eO b) (d_ b);have ed:max (eO b+1) 0=eO b+1:=by lia
   rw[ed,Nat.add_zero (d_ b)];show n.toNat*jS b<=_/\n.toNat*(1+jT b)+1<=_;have hn:n.toNat<=4:=by lia
   have k1:=Nat.mul_le_mul hn (aK (jS b));have k2:=Nat.mul_le_mul hn (aK (1+jT b))
   lia
  |fr l t b hl hg=>
   rw[ax (by decide+kernel),ax (by decide+kernel),ax (by decide+kernel),ax (by decide+kernel),aB Z];rw[pG,pG] at hb;have h1:=Af b hb.1;rw[ua,ua,uh,uh,nF,nF,mT,mT];have e1:=Iu (eO b) (d_ b);have ed:max (eO b+1) 0=eO b+1:=by lia
   rw[ed,Nat.add_zero (d_ b)];show jS b+0<=_/\1+jT b+1<=_
   lia
  |sm w ks ps f h n1 n2 n3=>
   rw[ax n1,ax n2,ax n1,ax n2,ax n3,ua,nF,mT];exact⟨cH _,by decide⟩
theorem Af:∀s:Ds,mD s->jS s<=yP (eO s) (d_ s)/\jT s<=yP (eO s) (d_ s)
 | .nil,_=>by rw[jS,jT];exact⟨cH _,cH _⟩
 | .cons d r,ok=>by
  rw[mD] at ok;have h1:=OT d ok.1;have h2:=Af r ok.2;rw[jS,jT,eO,d_,<-QY];have c1:yP (mF d) (1+jM d)<=yP (max (mF d) (eO r)) (1+jM d):=rp (zS _ _) (aK _);have c2:yP (eO r) (d_ r)<=yP (max (mF d) (eO r)) (d_ r):=rp (zi _ _) (aK _)
  lia
theorem abw:∀b:Bs,pG b->True
 | .nil,_=>True.intro
 | .cons t b r,_=>True.intro
end
theorem zk{d m:Nat}(h1:d<=6)(h2:m<=41):yP d m<=1000000:=aU (rp h1 h2) (by decide)
theorem xL{α:Type}(f:Nat->α)(l:List Nat):(List.range l.length).map (λi=>f (l.getD i 0))=l.map f:=by
 apply zB;intro i;rw[bY,bY];by_cases h:i<l.length
 .rw[qd h,wm h];simp[eA,h]
 .rw[nh (by rw[oy];lia),nh (by lia)];rfl
theorem vy(l:List Nat):(l.map λk:Nat=>(k:Int)).sum=((l.sum:Nat):Int):=by
 induction l with
 |nil=>rfl
 |cons x r ih=>rw[cL,kP,kP,ih];lia
theorem jaa{α:Type}(f:α->Nat){l:List α}{i:Nat}{x:α}(e:l[i]? =some x):(l.map f).getD i 0=f x:=by
 rw[eA,bY,e];rfl
theorem Qb:∀s:Ds,s.l.length<=d_ s
 |s=>by rw[z_];lia
theorem Mq{b:Bs}(ok:pG b)(h6:nF b<=6)(hm:mT b<=40):(∀k∈ua b,k<=1000000)/\∀k∈uh b,k<=1000000:=by
 rw[wW,EG];constructor
 all_goals
  intro k hk;obtain⟨p,hp,rfl⟩:=jn.mp hk;have c:=Af p.2 (hZ ok p hp);have FE:=h8 p hp;have NK:=kS p hp;have:=zk (d:=eO p.2) (m:=d_ p.2) (by lia) (by lia)
  lia
noncomputable def nI(k:Nat):V:= .int (k:Int)
theorem EM(l:List Nat):(l.map λk:Nat=>(k:Int)).map V.int=l.map nI:=by rw[kI];rfl
theorem zw{l:List Nat}(h:∀k∈l,k<=1000000):∀n∈l.map (λk:Nat=>(k:Int)),0<=n/\n<=1000000:=λn hn=>by
 obtain⟨k,hk,rfl⟩:=jn.mp hn;have:=h k hk;constructor<;>lia
theorem Ql{H:Hp}{xs:ak}{l:Str}{m n:Int}(h:DatAll H xs [.str l,.int m,.int n]):∃x1 x2,xs=[x1,x2,.int n]:=by
 cases h with
 |cons a r=>
  cases r with
  |cons b r=>
   cases r with
   |cons c r=>
    cases r;cases c;exact⟨_,_,Z⟩
def Ou(n:Nat):Sp:=spS n λt s v H Q=>d_ s<=40/\eO s<=6/\∀H',ah H H'->Q (.int (jS s:Nat)) H'
def ado(n:Nat):Sp:=ux λH0 d v H Q=>mF d<n/\1+jM d<=40/\mF d<=6/\∀H',ah H H'->Q (.int (Az d:Nat)) H'
theorem Cm(T:Txt K mg A)(Fm:wV P w K A fm)(n:Nat)(ih:aT P w K mg base dO (2+2*n) A.pR A.qr ["body"] (Ou n)):aT P w K mg base dO (3+2*n) A.vG A.vW ["deed"] (ado (n+1)):=by
 have el:3+2*n=(2+2*n)+1:=by lia
 rw[el];have qe:=fK (P:=P) (w:=w) (base:=base) T Fm;have Fz:=ih;refine T.wg.F.ok tU (λvs H Q E h=> ?_) (λcB Ar outer s0 H vs Q E hr h=> ?_)
 .obtain⟨H0,v,d,rfl,_⟩:=h;rfl
 .obtain⟨H0,v,d,rfl,gW,hd,ok,dp,hm,h6,q⟩:=h;obtain⟨a,ks,xs,C2,rfl,p0⟩:=fq hd ok;refine⟨_,(aj (Il 1 tU.nd ["body"] 1 [] (ff (cG (fK T Fm) hr T.fC aC (aM (pv 0)) (hj:=by lia))) (λ_ _ _ _ _=>⟨(jE 0 (show(["body"]:au).Nodup by decide+kernel)),wH,(cG ih hr T.qa aC (aM (pv 0)) (hj:=by lia))⟩)) (aj (bU (wn cK (cS aN (pv 0) ae) ai) (aq (aH (aL bw ae (iR (Dn Z) T.yy Boot.«max» (aM (pv 1)))))) bf) (aj (bU (wn cK (cS aN (pv 0) ae) ai) (aq (aH (aL md (cS aN (pv 0) ae) (cS a8 (pv 1) ae)))) bf) (aq (aH (iR (z8 Z) T.MM Boot.«sum» (aM (pv 1)))))))),?_⟩;refine⟨_,Z,H0,_,d,Z,gW,hd,ok,λl ys H1 MS s1 hz hB=>⟨l,Z,⟨_,cF.of hz⟩,?_⟩⟩;have bl:=jj hB;have XH:=kg ok;have hdp:=lH d;have hmn:=pS d
  have hys:ys.length<=4:=by
   have:=jj p0.hy;have f4:=fP p0.f;rw[bu,gM] at f4
   lia
  refine jo (λ_=>true) (λi=>nI ((ua d.bs).getD i 0)) (fL (cF.of hz)).g (aU hys (by decide)) ?_ λp2 H2 h0 s2 h2=> ?_
  .intro i x H' C1 C0 hi sm hy c1 c0;obtain⟨p,ep,hp⟩:=jQ hB hy;have pm:=bE ep;have y_:=hZ XH p pm;have FE:=h8 p pm;have NK:=kS p pm;have:=c1 rfl;rw[wW,jaa (λp:Bool×Ds=>jS p.2) ep] at this;exact⟨(gA.refl _).own (by decide),_,Z,x,p.1,p.2,Z,hp.same (gW.trans (s1.trans sm)),y_,by lia,by lia,by lia,this⟩
  .rw[lZ.mpr (λ_ _=>rfl),bl,show d.bs.l.length=(ua d.bs).length by rw[wW,a6],xL nI] at h2;have s3:=s1.trans s2;have p:=p0.same (gW.trans s3);have q' :=q H2 s3;have cost:=Mq XH (aU (oF hdp.symm) h6) (by lia);have hx:=p.hx;have n5:=jj p0.hy;clear hB ih Fz qe
   cases jaf ok with
   |ei t b u c=>
    rw[Az,aB Z] at q';simp only[Dd.bs,ua] at h2 q'
    rw[show((1+pN [jS b,jS c]:Nat):Int)=(1:Int)+(if((jS c:Nat):Int)>((jS b:Nat):Int) then((jS c:Nat):Int) else((jS b:Nat):Int)) by
     show((1+max (jS b) (max (jS c) 0):Nat):Int)=_
     split<;>lia] at q'
    exact⟨_,Z,a,_,0,_,Z,Z,bc.of p.e,gU _ _,Z,_,Z,XV ⟨_,Z,p2,_,_,Z,h2,1,_,Z,Z,q'⟩⟩
   |tu l m n t b hl hg m1 m3 n0 n4=>
    rw[Az,ax (by decide+kernel),aB Z] at q';simp only[Dd.bs,ua] at h2 q';obtain⟨x1,x2,rfl⟩:=Ql hx;refine⟨_,Z,a,_,0,_,Z,Z,bc.of p.e,gU _ _,Z,_,Z,dG (dZ (show("turns" :Str)≠ "either" by decide+kernel)) ⟨_,Z,a,_,0,_,Z,Z,bc.of p.e,gU _ _,Z,_,Z,XV ?_⟩⟩;refine⟨_,Z,a,_,3,_,Z,Z,bc.of p.e,bb (j:=3) Z,_,Z,p2,_,0,_,Z,Z,cF.of h2,Z,n,_,Z,Z,.inl ⟨by lia,by lia⟩,?_⟩
    rw[show((X7 [.str l,.int m,.int n]*[jS b].headD 0:Nat):Int)=n*((jS b:Nat):Int) by
     show((n.toNat*jS b:Nat):Int)=_;rw[zG,zP n0]] at q'
    exact q'
   |fr l t b hl hg=>
    rw[Az,ax (by decide+kernel),ax (by decide+kernel)] at q';refine⟨_,Z,a,_,0,_,Z,Z,bc.of p.e,gU _ _,Z,_,Z,dG (dZ (show("frame" :Str)≠ "either" by decide+kernel)) ⟨_,Z,a,_,0,_,Z,Z,bc.of p.e,gU _ _,Z,_,Z,dG (dZ (show("frame" :Str)≠ "turns" by decide+kernel)) ?_⟩⟩;rw[<-EM] at h2;rw[<-vy] at q';exact⟨_,Z,p2,_,Z,h2,by rw[a6,wW,a6];lia,zw cost.1,q'⟩
   |sm w ks ps f h n1 n2 n3=>
    rw[Az,ax n1,ax n2] at q';refine⟨_,Z,a,_,0,_,Z,Z,bc.of p.e,gU _ _,Z,_,Z,dG (dZ n1) ⟨_,Z,a,_,0,_,Z,Z,bc.of p.e,gU _ _,Z,_,Z,dG (dZ n2) ?_⟩⟩;rw[<-EM] at h2;rw[<-vy] at q';exact⟨_,Z,p2,_,Z,h2,by rw[a6,wW,a6];lia,zw cost.1,q'⟩
theorem EJ(T:Txt K mg A)(Fm:wV P w K A fm)(n:Nat):aT P w K mg base dO (2+2*n) A.pR A.qr ["body"] (Ou n):=by
 induction n with
 |zero=>exact fu (by rintro vs H Q E ⟨v,t,s,_,_,_,h,_⟩;exact iH _ h)
 |succ n ih=>
 have el:2+2*(n+1)=(3+2*n)+1:=by lia
 rw[el];refine T.qa.F.ok E5 (λvs H Q E h=> ?_) (λcB Ar outer s0 H vs Q E hr h=> ?_)
 .obtain⟨v,t,s,rfl,_⟩:=h;rfl
 .obtain⟨v,t,s,rfl,hd,ok,dp,hm,h6,q⟩:=h;obtain⟨a,vs,rfl,ha,hA⟩:=iM hd;have sl:=Qb s;have vl:=t9 hA;refine⟨_,(aq (aH (iR (z8 Z) T.MM Boot.«sum» (aM (Ls ["deed"] 1 [] (pq (pv 0)) (λ_ _ _ _ _=>⟨(jE 0 (show(["deed"]:au).Nodup by decide+kernel)),wH,(cG (Cm T Fm n ih) hr T.wg aC (aM (pv 0)) (hj:=by lia))⟩)))))),?_⟩;refine⟨_,Z,a,t,Z,LY ha,?_⟩;refine jo (λ_=>true) (λi=>nI ((s.l.map Az).getD i 0)) (Gp ha).g (aU (show vs.length<=40 by lia) (by decide)) ?_ λp2 H2 h0 s2 h2=> ?_
  .intro i x H' C1 C0 hi sm hy c1 c0;obtain⟨d,ed,sZ⟩:=jN hA hy;have dm:=bE ed;have LN:=gK d dm;have Qh:=jG d dm;have:=c1 rfl;rw[jaa Az ed] at this;exact⟨(gA.refl _).own (by decide),_,Z,H,x,d,Z,sm,sZ,gE ok d dm,by lia,by lia,by lia,this⟩
  .rw[lZ.mpr (λ_ _=>rfl),vl,show s.l.length=(s.l.map Az).length by rw[a6],xL nI] at h2;rw[<-EM] at h2;have q' :=q H2 s2;rw[Hw,<-vy] at q';refine⟨p2,_,Z,h2,by rw[a6,a6];lia,zw λk hk=> ?_,?_⟩
   .obtain⟨d,dm,rfl⟩:=jn.mp hk;have c:=OT d (gE ok d dm);have LN:=gK d dm;have Qh:=jG d dm;have:=zk (d:=mF d) (m:=1+jM d) (by lia) (by lia)
    lia
   .exact q'
def Na(n:Nat):Sp:=spS n λt s v H Q=>d_ s<=40/\eO s<=6/\∀H',ah H H'->Q (.int (jT s:Nat)) H'
def abD(n:Nat):Sp:=ux λH0 d v H Q=>mF d<n/\1+jM d<=40/\mF d<=6/\∀H',ah H H'->Q (.int (AE d:Nat)) H'
theorem EO(T:Txt K mg A)(Fm:wV P w K A fm)(n:Nat)(ih:aT P w K mg base dO (2+2*n) A.oo A.oq ["body"] (Na n)):aT P w K mg base dO (3+2*n) A.xM A.yu ["deed"] (abD (n+1)):=by
 have el:3+2*n=(2+2*n)+1:=by lia
 rw[el];have qe:=fK (P:=P) (w:=w) (base:=base) T Fm;have EY:=ih;refine T.xW.F.ok wK (λvs H Q E h=> ?_) (λcB Ar outer s0 H vs Q E hr h=> ?_)
 .obtain⟨H0,v,d,rfl,_⟩:=h;rfl
 .obtain⟨H0,v,d,rfl,gW,hd,ok,dp,hm,h6,q⟩:=h;obtain⟨a,ks,xs,C2,rfl,p0⟩:=fq hd ok;refine⟨_,(aj (Il 1 wK.nd ["body"] 1 [] (ff (cG (fK T Fm) hr T.fC aC (aM (pv 0)) (hj:=by lia))) (λ_ _ _ _ _=>⟨(jE 0 (show(["body"]:au).Nodup by decide+kernel)),wH,(cG ih hr T.n9 aC (aM (pv 0)) (hj:=by lia))⟩)) (aj (bU (wn cK (cS aN (pv 0) ae) ai) (aq (aH (aL bw ae (iR (Dn Z) T.yy Boot.«max» (aM (pv 1)))))) bf) (aj (bU (wn cK (cS aN (pv 0) ae) ai) (aq (aH (aL bw (aL md (cS aN (pv 0) ae) (aL bw ae (cS a8 (pv 1) ae))) ae))) bf) (aj (bU (wn cK (cS aN (pv 0) ae) ai) (aq (aH (aL bw (aL bw ae (cS a8 (pv 1) ae)) ae))) bf) (aq (aH ae)))))),?_⟩;refine⟨_,Z,H0,_,d,Z,gW,hd,ok,λl ys H1 MS s1 hz hB=>⟨l,Z,⟨_,cF.of hz⟩,?_⟩⟩;have bl:=jj hB;have XH:=kg ok;have hdp:=lH d;have hmn:=pS d
  have hys:ys.length<=4:=by
   have:=jj p0.hy;have f4:=fP p0.f;rw[bu,gM] at f4
   lia
  refine jo (λ_=>true) (λi=>nI ((uh d.bs).getD i 0)) (fL (cF.of hz)).g (aU hys (by decide)) ?_ λp2 H2 h0 s2 h2=> ?_
  .intro i x H' C1 C0 hi sm hy c1 c0;obtain⟨p,ep,hp⟩:=jQ hB hy;have pm:=bE ep;have y_:=hZ XH p pm;have FE:=h8 p pm;have NK:=kS p pm;have:=c1 rfl;rw[EG,jaa (λp:Bool×Ds=>jT p.2) ep] at this;exact⟨(gA.refl _).own (by decide),_,Z,x,p.1,p.2,Z,hp.same (gW.trans (s1.trans sm)),y_,by lia,by lia,by lia,this⟩
  .rw[lZ.mpr (λ_ _=>rfl),bl,show d.bs.l.length=(uh d.bs).length by rw[EG,a6],xL nI] at h2;have s3:=s1.trans s2;have p:=p0.same (gW.trans s3);have q' :=q H2 s3;have cost:=Mq XH (aU (oF hdp.symm) h6) (by lia);have hx:=p.hx;have n5:=jj p0.hy;clear hB ih EY qe
   cases jaf ok with
   |ei t b u c=>
    rw[AE,aB Z] at q';simp only[Dd.bs,uh] at h2 q'
    rw[show((1+pN [jT b,jT c]:Nat):Int)=(1:Int)+(if((jT c:Nat):Int)>((jT b:Nat):Int) then((jT c:Nat):Int) else((jT b:Nat):Int)) by
     show((1+max (jT b) (max (jT c) 0):Nat):Int)=_
     split<;>lia] at q'
    exact⟨_,Z,a,_,0,_,Z,Z,bc.of p.e,gU _ _,Z,_,Z,XV ⟨_,Z,p2,_,_,Z,h2,1,_,Z,Z,q'⟩⟩
   |tu l m n t b hl hg m1 m3 n0 n4=>
    rw[AE,ax (by decide+kernel),aB Z] at q';simp only[Dd.bs,uh] at h2 q';obtain⟨x1,x2,rfl⟩:=Ql hx;refine⟨_,Z,a,_,0,_,Z,Z,bc.of p.e,gU _ _,Z,_,Z,dG (dZ (show("turns" :Str)≠ "either" by decide+kernel)) ⟨_,Z,a,_,0,_,Z,Z,bc.of p.e,gU _ _,Z,_,Z,XV ?_⟩⟩;refine⟨_,Z,a,_,3,_,Z,Z,bc.of p.e,bb (j:=3) Z,_,Z,p2,_,0,_,Z,Z,cF.of h2,Z,1,_,Z,Z,n,_,Z,Z,.inl ⟨by lia,by lia⟩,_,1,Z,Z,?_⟩
    rw[show((X7 [.str l,.int m,.int n]*(1+[jT b].headD 0)+1:Nat):Int)=n*(1+((jT b:Nat):Int))+1 by
     show((n.toNat*(1+jT b)+1:Nat):Int)=_;rw[rT,zG,zP n0];rfl] at q'
    exact q'
   |fr l t b hl hg=>
    rw[AE,ax (by decide+kernel),ax (by decide+kernel),aB Z] at q';simp only[Dd.bs,uh] at h2 q';refine⟨_,Z,a,_,0,_,Z,Z,bc.of p.e,gU _ _,Z,_,Z,dG (dZ (show("frame" :Str)≠ "either" by decide+kernel)) ⟨_,Z,a,_,0,_,Z,Z,bc.of p.e,gU _ _,Z,_,Z,dG (dZ (show("frame" :Str)≠ "turns" by decide+kernel)) ⟨_,Z,a,_,0,_,Z,Z,bc.of p.e,gU _ _,Z,_,Z,XV ?_⟩⟩⟩;refine⟨_,Z,p2,_,0,_,Z,Z,cF.of h2,Z,1,_,Z,Z,_,1,Z,Z,?_⟩;exact q'
   |sm w ks ps f h n1 n2 n3=>
    rw[AE,ax n1,ax n2,ax n3] at q';exact⟨_,Z,a,_,0,_,Z,Z,bc.of p.e,gU _ _,Z,_,Z,dG (dZ n1) ⟨_,Z,a,_,0,_,Z,Z,bc.of p.e,gU _ _,Z,_,Z,dG (dZ n2) ⟨_,Z,a,_,0,_,Z,Z,bc.of p.e,gU _ _,Z,_,Z,dG (dZ n3) q'⟩⟩⟩
theorem Cd(T:Txt K mg A)(Fm:wV P w K A fm)(n:Nat):aT P w K mg base dO (2+2*n) A.oo A.oq ["body"] (Na n):=by
 induction n with
 |zero=>exact fu (by rintro vs H Q E ⟨v,t,s,_,_,_,h,_⟩;exact iH _ h)
 |succ n ih=>
 have el:2+2*(n+1)=(3+2*n)+1:=by lia
 rw[el];refine T.n9.F.ok Cs (λvs H Q E h=> ?_) (λcB Ar outer s0 H vs Q E hr h=> ?_)
 .obtain⟨v,t,s,rfl,_⟩:=h;rfl
 .obtain⟨v,t,s,rfl,hd,ok,dp,hm,h6,q⟩:=h;obtain⟨a,vs,rfl,ha,hA⟩:=iM hd;have sl:=Qb s;have vl:=t9 hA;refine⟨_,(aq (aH (iR (z8 Z) T.MM Boot.«sum» (aM (Ls ["deed"] 1 [] (pq (pv 0)) (λ_ _ _ _ _=>⟨(jE 0 (show(["deed"]:au).Nodup by decide+kernel)),wH,(cG (EO T Fm n ih) hr T.xW aC (aM (pv 0)) (hj:=by lia))⟩)))))),?_⟩;refine⟨_,Z,a,t,Z,LY ha,?_⟩;refine jo (λ_=>true) (λi=>nI ((s.l.map AE).getD i 0)) (Gp ha).g (aU (show vs.length<=40 by lia) (by decide)) ?_ λp2 H2 h0 s2 h2=> ?_
  .intro i x H' C1 C0 hi sm hy c1 c0;obtain⟨d,ed,sZ⟩:=jN hA hy;have dm:=bE ed;have LN:=gK d dm;have Qh:=jG d dm;have:=c1 rfl;rw[jaa AE ed] at this;exact⟨(gA.refl _).own (by decide),_,Z,H,x,d,Z,sm,sZ,gE ok d dm,by lia,by lia,by lia,this⟩
  .rw[lZ.mpr (λ_ _=>rfl),vl,show s.l.length=(s.l.map AE).length by rw[a6],xL nI] at h2;rw[<-EM] at h2;have q' :=q H2 s2;rw[IS,<-vy] at q';refine⟨p2,_,Z,h2,by rw[a6,a6];lia,zw λk hk=> ?_,?_⟩
   .obtain⟨d,dm,rfl⟩:=jn.mp hk;have c:=OT d (gE ok d dm);have LN:=gK d dm;have Qh:=jG d dm;have:=zk (d:=mF d) (m:=1+jM d) (by lia) (by lia)
    lia
   .exact q'
mutual
inductive iS (H:Hp):V->U'->Prop
 |bp:iS H .bp .none
 |int (i:Int):iS H (.int i) (.int i)
 |str (x:Str):iS H (.str x) (.str x)
 |tup {a:S'} {xs:ak} {ds:List U'} (e:H a=some (.tup xs)) (h:bI H xs ds):iS H (.ref a) (.tuple ds)
inductive bI (H:Hp):ak->List U'->Prop
 |nil:bI H [] []
 |cons {x:V} {xs:ak} {d:U'} {ds:List U'} (h:iS H x d) (t:bI H xs ds):bI H (x::xs) (d::ds)
end
mutual
theorem iS.dat{H:Hp}:∀{v:V} {d:U'},iS H v d->Dat H v d
 |_,_,.bp=> .bp
 |_,_,.int i=> .int i
 |_,_,.str x=> .str x
 |_,_,.tup e h=> .tup e (bI.dat h)
theorem bI.dat{H:Hp}:∀{xs:ak} {ds:List U'},bI H xs ds->DatAll H xs ds
 |_,_,.nil=> .nil
 |_,_,.cons h t=> .cons (iS.dat h) (bI.dat t)
end
mutual
theorem iS.kt{H H' :Hp}(k:∀c xs,H c=some (.tup xs)->H' c=some (.tup xs)):∀{v:V} {d:U'},iS H v d->iS H' v d
 |_,_,.bp=> .bp
 |_,_,.int i=> .int i
 |_,_,.str x=> .str x
 |_,_,.tup e h=> .tup (k _ _ e) (bI.kt k h)
theorem bI.kt{H H' :Hp}(k:∀c xs,H c=some (.tup xs)->H' c=some (.tup xs)):∀{xs:ak} {ds:List U'},bI H xs ds->bI H' xs ds
 |_,_,.nil=> .nil
 |_,_,.cons h t=> .cons (iS.kt k h) (bI.kt k t)
end
theorem bI.append{H:Hp}:∀{xs ys:ak} {ds es:List U'},bI H xs ds->bI H ys es->bI H (xs++ys) (ds++es)
 |_,_,_,_,.nil,h=>h
 |_,_,_,_,.cons a t,h=> .cons a (t.append h)
mutual
noncomputable def vK:Dd->Dd
 | .mk w ps bs=> .mk w ps (BO bs)
noncomputable def nr:Ds->Ds
 | .nil=> .nil
 | .cons d r=> .cons (vK d) (nr r)
noncomputable def BO:Bs->Bs
 | .nil=> .nil
 | .cons _ b r=> .cons true (nr b) (BO r)
end
theorem T4:∀s:Ds,(nr s).l=s.l.map vK
 | .nil=>by rw[nr];rfl
 | .cons d r=>by rw[nr];show vK d::(nr r).l=_;rw[T4 r];rfl
theorem Ov:∀b:Bs,(BO b).l=b.l.map λp=>(true,nr p.2)
 | .nil=>by rw[BO];rfl
 | .cons t b r=>by rw[BO];show(true,nr b)::(BO r).l=_;rw[Ov r];rfl
theorem HK(d:Dd):dD (vK d)= .tuple (.str d.wd::(d.ps++d.bs.l.map λp=> .tuple (sL (nr p.2)))):=by
 cases d with
 |mk w ps bs=>
  rw[vK,dD,Gw,Ov,kI];rfl
theorem M8{H:Hp}{k:Str}{v:V}{d:U'}(h:zD k d){H' :Hp}(hd:Dat H v d):iS H' v d:=by
 cases h<;>cases hd<;>constructor
noncomputable def TL(d:Dd):List U':=d.ps++d.bs.l.map λp=> .tuple (sL (nr p.2))
theorem bI.snoc{H:Hp}{xs:ak}{ds:List U'}{v:V}{d:U'}(h:bI H xs ds)(g:iS H v d):bI H (xs++[v]) (ds++[d]):=h.append (.cons g .nil)
theorem wP{α:Type}{l:List α}{i:Nat}{x:α}(e:l[i]? =some x):l.take (i+1)=l.take i++[x]:=by
 rw[sd,e];rfl
theorem Bz{H:Hp}:∀{xs:ak} {ds:List U'},bI H xs ds->xs.length=ds.length
 |_,_,.nil=>rfl
 |_,_,.cons _ t=>by rw[bB,bB,Bz t]
def M9(c:S')(qn:Str):Sp:=λvs H Q _=>∃i v,vs=[.int i,v]/\H c=some (.ext (i4 c qn))/\∀l,H l=none->Q (.ref l) (upd H l (.lst [v]))
def J9(f c:S')(qn:Str)(n:Nat):Sp:=λvs H Q _=>∃H0 v t s,∃i:Int,vs=[v,.ref f,.int i]/\ah H0 H/\Dat H0 v (iN t (sL s))/\mD s/\eO s<n/\d_ s<=1000/\H c=some (.ext (i4 c qn))/\
 ∀tt H',H tt=none->ah H H'->iS H' (.ref tt) (.tuple (sL (nr s)))->Q (.ref tt) H'
def V8(f c:S')(qn:Str)(n:Nat):Sp:=λvs H Q _=>∃H0 v d,∃i:Int,vs=[v,.ref f,.int i]/\ah H0 H/\Dat H0 v (dD d)/\l8 d/\mF d<n/\jM d<=1000/\H c=some (.ext (i4 c qn))/\
 ∀tt H',H tt=none->ah H H'->iS H' (.ref tt) (dD (vK d))->Q (.ref tt) H'
theorem A9(T:Txt K mg A)(Fm:wV P w K A fm){f c:S'}{qn:Str}(n:Nat)(ih:aT P w K mg base dO (3+2*n) A.mN A.eE ["body","change","first"] (J9 f c qn n)):
 aT P w K mg base dO (4+2*n) A.tR A.tD ["deed","change","first"] (V8 f c qn (n+1)):=by
 have el:4+2*n=(3+2*n)+1:=by lia
 rw[el];refine T.tZ.F.ok fg (λvs H Q E h=> ?_) (λcB Ar outer s0 H vs Q E hr h=> ?_)
 .obtain⟨H0,v,d,i,rfl,_⟩:=h;rfl
 .obtain⟨H0,v,d,i,rfl,gW,hd,ok,dp,hm,hc,q⟩:=h;obtain⟨a,ks,xs,ys,rfl,p0⟩:=fq hd ok;have p:=p0.same gW;have bl:=jj p0.hy;have XH:=kg ok;have hdp:=lH d;have hmn:=pS d;have hlx:=p.lx;have hlp:=fF p.hx;have h4:=fP p.f;have hl:=p.len;refine⟨_,(aj (gf 3 fg.nd (bH (aM (cS aN (pv 0) ae)))) (aj (gf 4 fg.nd (pv 2)) (aj (A5 (ff (cG (mL T Fm) hr T.lT aC (aM (pv 0)) (hj:=by lia))) (xr Z (cY (jE 5 fg.nd) (cY (jE 6 fg.nd) mV))) (aq (bU (wn cK (pv 5) ai) (aj (bZ (lR gT D' F' dw (pv 3) (aM (afH ih hr T.mR aC (ag (pv 6) (ag (pv 1) (aM (pv 4)))) (hj:=by lia))))) (aq (Hl (i:=4) fg.nd Z (Or.inl Z) (cG (uJ T Fm n) hr T.nV aC (aM (pv 6)) (hj:=by lia)) Ih))) (aq (bZ (lR gT D' F' dw (pv 3) (aM (pv 6)))))))) (aq (aH (NA eQ T.iE Boot.«tuple» (aM (pv 3)))))))),?_⟩;refine⟨_,Z,a,_,0,_,Z,Z,bc.of p.e,gU _ _,yZ,λpl nA=>⟨_,Z,?_⟩⟩;have s1:=ah.upd (o:= .lst [V.str d.wd]) nA;have Xu:upd H pl (.lst [V.str d.wd]) pl=some (.lst [V.str d.wd]):=af;generalize upd H pl (.lst [V.str d.wd])=H1 at s1 Xu ⊢;refine⟨_,Z,a,d.wd,_,_,Z,s1 _ _ p.e,p.f,p.len,λl zs H2 n5 s2 hz zp=>⟨l,Z,⟨_,cF.of hz⟩,?_⟩⟩;have WN:zs.length=(ks++List.replicate ys.length ("body" :Str)).length:=by rw[zp.len,a6]
  have ac5:l≠pl:=(aA Xu n5).symm;have xu:=s1.trans s2;have aaW:=s2 _ _ Xu;rw[bu,gM] at h4 WN;refine jb (K:=K) (a:=l) (xs:=zs) (λj σ H' =>∃(x5 x6:Option V) (k:Int) (ws:ak),σ=[some (.ref a),some (.ref f),some (.int i),some (.ref pl),some (.int k),x5,x6]/\Kept pl H2 H'/\H' pl=some (.lst ws)/\bI H' ws (.str d.wd::(TL d).take j)) ⟨_,_,i,_,Z,Kept.refl _ _,aaW,.cons (.str _) .nil⟩ (by rintro i σ H' _ ⟨_,_,_,_,_,k,_⟩;exact cF.of (k _ _ ac5 hz)) ?_ ?_
  .rintro j z σ H' hj ⟨x5,x6,k,ws,rfl,kp,F9,tw⟩
   have hjl:=(c8.mp hj).1;obtain⟨tt,x,y,rfl,hT,e1,e2⟩:=jac zp (by rw[a6];exact p.len) hj;rw[bY] at e1;have L1 :=kp _ _ (dB aaW hT (λz=>nomatch z)).symm hT;have SH:ah H H' :=λc o e=>kp c o (aA e nA) (xu _ _ e);have wl:=Bz tw
   have wl4:ws.length<=5:=by
    rw[wl,bB,lM]
    lia
   cases ek:(ks++List.replicate ys.length ("body" :Str))[j]? with
   |none=>rw[ek] at e1;cases e1
   |some k' =>
    rw[ek] at e1;cases e1;refine⟨tt,_,Z,bc.of L1,Z,_,_,Z,_,_,Z,Z,_,Z,Z,_,Z,?_⟩;by_cases hb:xs.length<=j
    .rw[kr (by lia),vR] at ek;rw[kr hb] at e2
     split at ek
     .cases ek;obtain⟨pp,ep,hp⟩:=jQ p0.hy e2;have pm:=bE ep;have y_:=hZ XH pp pm;have FE:=h8 pp pm;have NK:=kS pp pm
      have ej:(TL d)[j]? =some (.tuple (sL (nr pp.2))):=by
       unfold TL;rw[kr (by lia),bY,<-hlp,ep];rfl
      refine XV ⟨_,Z,JD F9,_,Z,_,Z,_,Z,H0,y,pp.1,pp.2,k,Z,gW.trans SH,hp,y_,by lia,by lia,SH _ _ hc,λt1 H3 uo s3 td=>⟨pl,ws,_,Z,Z,s3 _ _ F9,iX wl4 (by decide),?_⟩⟩;have adE:=s3 _ _ F9;have kt:=KT.upd (o:= .lst (ws++[.ref t1])) adE;refine⟨_,Z,_,Z,y,pp.1,pp.2,Z,hp.same (λc o e=> ?_),y_,by lia,λH4 s4=>⟨_,_,Z,Z,_,_,_,ws++[.ref t1],Z,?_,s4 _ _ af,?_⟩⟩
      .rw[az (aA (gW _ _ e) nA)];exact s3 _ _ (SH _ _ (gW _ _ e))
      .exact λc o hc e=>s4 _ _ (by rw[az hc];exact s3 _ _ (kp c o hc e))
      .rw[wP ej];exact(((tw.kt (KT.same s3)).snoc td).kt kt).kt (KT.same s4)
     .cases ek
    .rw[iy (by lia)] at ek;rw[iy (by lia)] at e2;obtain⟨d',f1,f2⟩:=mz p0.hx j y e2;have ft:=Aj p0.fit j k' d' ek f1
     have ej:(TL d)[j]? =some d' :=by
      unfold TL;rw[iy (by lia)];exact f1
     refine dG (dZ (Jh ft)) ⟨_,Z,JD F9,_,Z,pl,ws,_,Z,Z,F9,iX wl4 (by decide),_,_,_,ws++[y],Z,?_,af,?_⟩
     .exact λc o hc e=>by
       rw[az hc];exact kp c o hc e
     .rw[wP ej];exact(tw.snoc (M8 ft f2)).kt (KT.upd F9)
  .rintro σ H' ⟨x5,x6,k,ws,rfl,kp,F9,tw⟩
   refine⟨_,Z,pl,ws,Z,.inl ⟨cF.of F9,λtt E6=> ?_⟩⟩;have SH:ah H H' :=λc o e=>kp c o (aA e nA) (xu _ _ e);refine q tt _ (SH.free E6) (SH.trans (ah.upd E6)) ?_;rw[HK]
   have el2:(TL d).take zs.length=TL d:=oV (by
    unfold TL;rw[bu,a6]
    lia)
   rw[el2] at tw;exact .tup af (tw.kt (KT.same (ah.upd E6)))
theorem JB(s:Ds):sL (nr s)=s.l.map λd=>dD (vK d):=by rw[GH,T4,kI];rfl
theorem D2(T:Txt K mg A)(Fm:wV P w K A fm){f c:S'}{qn:Str}{fdl QO :aad}(Xa:aT P w K mg base dO 1 f fdl ["number","deed"] (M9 c qn))(Xm:∃oc od sl,base.get? f=some ⟨oc,od,.func QO,sl⟩)(Xj:Binds K fdl ["number","deed"] [])(n:Nat):
 aT P w K mg base dO (3+2*n) A.mN A.eE ["body","change","first"] (J9 f c qn n):=by
 induction n with
 |zero=>exact fu (by rintro vs H Q E ⟨H0,v,t,s,i,_,_,_,_,h,_⟩;exact iH _ h)
 |succ n ih=>
 have LC:aT P w K mg base dO (2+(n+1)) A.xq A.xv ["body"] (Mm (n+1)):=uJ T Fm (n+1);have el:3+2*(n+1)=(4+2*n)+1:=by lia
 rw[el];refine T.mR.F.ok iK (λvs H Q E h=> ?_) (λcB Ar outer s0 H vs Q E hr h=> ?_)
 .obtain⟨H0,v,t,s,i,rfl,_⟩:=h;rfl
 .obtain⟨H0,v,t,s,i,rfl,gW,hd,ok,dp,hm,hc,q⟩:=h;obtain⟨a,vs,rfl,ha,hA⟩:=iM hd;have sl:=Qb s;have vl:=t9 hA;have L4:(1000:Nat)<=sizeLine:=by decide
  refine⟨_,(aj (gf 3 iK.nd (bH dY)) (aj (gf 4 iK.nd (pv 2)) (aj (A5 (pq (pv 0)) (jE 5 iK.nd) (aj (bZ (lR gT zR type_list_extend xA (pv 3) (aM (OM Xa Xm hr Xj aC (pv 1) (ag (pv 4) (aM (cG (A9 T Fm n ih) hr T.tZ aC (ag (pv 5) (ag (pv 1) (aM (aL bw (pv 4) ae)))) (hj:=by lia)))) (hj:=by lia))))) (aq (Hl (i:=4) iK.nd Z (Or.inl Z) (cG LC hr T.nV aC (aM (bt (aM (pv 5)))) (hj:=by lia)) Ih)))) (aq (aH (NA eQ T.iE Boot.«tuple» (aM (pv 3)))))))),?_⟩;refine⟨nq,λtl htl=>⟨_,Z,_,Z,a,t,Z,LY (ah.upd htl _ _ (gW _ _ ha)),?_⟩⟩;refine ng (K:=K) (t:=t) (a:=a) (xs:=vs) (λj σ H' =>∃(x5:Option V) (k:Int) (ws:ak),σ=[some (.ref a),some (.ref f),some (.int i),some (.ref tl),some (.int k),x5]/\ah H H'/\H' tl=some (.lst ws)/\bI H' ws ((sL (nr s)).take j)) ⟨_,i,[],Z,ah.upd htl,af,.nil⟩ (by rintro j σ H' _ ⟨_,_,_,_,sm,_⟩;exact sm _ _ (gW _ _ ha)) ?_ ?_
  .rintro j x σ H' hx ⟨x5,k,ws,rfl,sm,Ik,tw⟩
   obtain⟨d,ed,sZ⟩:=jN hA hx;have dm:=bE ed;have l6:=gE ok d dm;have LN:=gK d dm;have Qh:=jG d dm;have wl:=Bz tw;rw[lM] at wl;have hj:=(c8.mp hx).1
   have ej:(sL (nr s))[j]? =some (dD (vK d)):=by
    rw[JB,bY,ed];rfl
   refine⟨_,Z,JD Ik,_,Z,Z,_,Z,_,Z,_,Z,_,Z,k,1,Z,Z,H0,x,d,k+1,Z,gW.trans sm,sZ,l6,by lia,by lia,sm _ _ hc,λt1 H1 uo s1 td=> ?_⟩;refine⟨k,_,Z,s1 _ _ (sm _ _ hc),λl hl=>⟨tl,l,ws,[.ref t1],Z,Z,ah.upd hl _ _ (s1 _ _ Ik),af,by simp only[E3];lia,?_⟩⟩;have adL:=ah.upd (o:= .lst [V.ref t1]) hl _ _ (s1 _ _ Ik);have kt:KT H1 (upd (upd H1 l (.lst [V.ref t1])) tl (.lst (ws++[.ref t1]))):=(KT.same (ah.upd hl)).trans (KT.upd adL);have S2:ah H (upd (upd H1 l (.lst [V.ref t1])) tl (.lst (ws++[.ref t1]))):=fh htl ((sm.trans s1).trans (ah.upd hl));have aav:upd (upd H1 l (.lst [V.ref t1])) tl (.lst (ws++[.ref t1])) tl=some (.lst (ws++[.ref t1])):=af;generalize upd (upd H1 l (.lst [V.ref t1])) tl (.lst (ws++[.ref t1]))=H2 at kt S2 aav ⊢;refine⟨_,Z,_,Z,yZ,λt2 wO=> ?_⟩;have s3:=ah.upd (o:= .tup [x]) wO;refine⟨_,true,.cons d .nil,Z,?_,?_,?_,λH4 s4=>⟨_,_,Z,Z,_,_,ws++[.ref t1],Z,S2.trans (s3.trans s4),s4 _ _ (s3 _ _ aav),?_⟩⟩
   .rw[sL,sL];exact .tup af (.cons (sZ.same ((gW.trans S2).trans s3)) .nil)
   .rw[mD,mD];exact⟨l6,True.intro⟩
   .rw[eO,eO]
    lia
   .rw[wP ej];exact(((tw.kt (KT.same s1)).snoc td).kt kt).kt (KT.same (s3.trans s4))
  .rintro σ H' ⟨x5,k,ws,rfl,sm,Ik,tw⟩
   refine⟨_,Z,tl,ws,Z,.inl ⟨cF.of Ik,λtt E6=> ?_⟩⟩;refine q tt _ (sm.free E6) (sm.trans (ah.upd E6)) ?_;rw[vl,oV (by rw[JB,a6];exact aK _)] at tw;exact .tup af (tw.kt (KT.same (ah.upd E6)))
def adU(K:Frag):Sp:=λvs H Q _=>∃a C dd n x,vs=[.ref a,x]/\H a=some (.ext (eW a C dd n))/\ExcC K C/\Q .bp H
theorem bO(T:Txt K mg A):aT P w K mg base dO 1 A.eG A.jY ["self","text"] (adU K):=by
 refine T.bK.F.wc pF ?_
 rintro cB Ar outer s H vs Q E hr ⟨a,C,dd,n,x,rfl,ea,hc,k⟩
 refine⟨_,(aq (bZ (OQ Z T.DI (ag (pv 0) (aM (pv 1)))))),?_⟩;exact⟨_,Z,_,Z,a,C,dd,n,x,Z,ea,hc,k⟩
def Gh(C:S')(fd:Str):Sp:=λvs H Q _=>∃a x,vs=[.ref a,x]/\H a=some (.ext (eW a C none true))/\∀dx,H dx=none->dx≠a->Q .bp (upd (upd H a (.ext (eW a C (some dx) true))) dx (.xd [(fd,x)]))
theorem sG(T:Txt K mg A):aT P w K mg base dO 2 A.ij A.lu ["self","many"] (Gh A.gF "many"):=by
 refine T.lC.F.wc sU ?_
 rintro cB Ar outer s H vs Q E hr ⟨a,x,rfl,ea,k⟩
 refine⟨_,(aj (bZ (l0 T.bT Z T.gj.m ((bO T).mono (by decide)) hr T.bK.b .nil aC (ag (pv 0) (aM ai)))) (aq (n_ (pv 0) (pv 1) Z))),?_⟩;refine⟨_,Z,a,A.gF,none,true,_,Z,ea,T.gI.X.toExcC,?_⟩;exact⟨_,Z,_,Z,a,A.gF,true,Z,T.gI.e,T.p_,.inl ⟨ea,λdx hn ne=>k dx hn ne⟩⟩
theorem sO(T:Txt K mg A):aT P w K mg base dO 2 A.ip A.lX ["self","depth"] (Gh A.gz "depth"):=by
 refine T.mB.F.wc sN ?_
 rintro cB Ar outer s H vs Q E hr ⟨a,x,rfl,ea,k⟩
 refine⟨_,(aj (bZ (l0 T.bT Z T.gj.m ((bO T).mono (by decide)) hr T.bK.b .nil aC (ag (pv 0) (aM ai)))) (aq (n_ (pv 0) (pv 1) Z))),?_⟩;refine⟨_,Z,a,A.gz,none,true,_,Z,ea,T.fQ.X.toExcC,?_⟩;exact⟨_,Z,_,Z,a,A.gz,true,Z,T.fQ.e,T.ph,.inl ⟨ea,λdx hn ne=>k dx hn ne⟩⟩
theorem sT(T:Txt K mg A):aT P w K mg base dO 2 A.ir A.lP ["self","many"] (Gh A.gy "many"):=by
 refine T.lO.F.wc sE ?_
 rintro cB Ar outer s H vs Q E hr ⟨a,x,rfl,ea,k⟩
 refine⟨_,(aj (bZ (l0 T.bT Z T.gj.m ((bO T).mono (by decide)) hr T.bK.b .nil aC (ag (pv 0) (aM ai)))) (aq (n_ (pv 0) (pv 1) Z))),?_⟩;refine⟨_,Z,a,A.gy,none,true,_,Z,ea,T.dR.X.toExcC,?_⟩;exact⟨_,Z,_,Z,a,A.gy,true,Z,T.dR.e,T.qc,.inl ⟨ea,λdx hn ne=>k dx hn ne⟩⟩
theorem sP(T:Txt K mg A):aT P w K mg base dO 2 A.iq A.mq ["self","many"] (Gh A.gw "many"):=by
 refine T.l7.F.wc sJ ?_
 rintro cB Ar outer s H vs Q E hr ⟨a,x,rfl,ea,k⟩
 refine⟨_,(aj (bZ (l0 T.bT Z T.gj.m ((bO T).mono (by decide)) hr T.bK.b .nil aC (ag (pv 0) (aM ai)))) (aq (n_ (pv 0) (pv 1) Z))),?_⟩;refine⟨_,Z,a,A.gw,none,true,_,Z,ea,T.dF.X.toExcC,?_⟩;exact⟨_,Z,_,Z,a,A.gw,true,Z,T.dF.e,T.qj,.inl ⟨ea,λdx hn ne=>k dx hn ne⟩⟩
theorem vm(T:Txt K mg A):aT P w K mg base dO 2 A.jt A.nT ["self","label"] (Gh A.kQ "label"):=by
 refine T.nG.F.wc vq ?_
 rintro cB Ar outer s H vs Q E hr ⟨a,x,rfl,ea,k⟩
 refine⟨_,(aj (bZ (l0 T.bT Z T.gj.m ((bO T).mono (by decide)) hr T.bK.b .nil aC (ag (pv 0) (aM ai)))) (aq (n_ (pv 0) (pv 1) Z))),?_⟩;refine⟨_,Z,a,A.kQ,none,true,_,Z,ea,T.i6.X.toExcC,?_⟩;exact⟨_,Z,_,Z,a,A.kQ,true,Z,T.i6.e,T.ub,.inl ⟨ea,λdx hn ne=>k dx hn ne⟩⟩
theorem sD(T:Txt K mg A):aT P w K mg base dO 2 A.ik A.k_ ["self","label"] (Gh A.gB "label"):=by
 refine T.lY.F.wc sS ?_
 rintro cB Ar outer s H vs Q E hr ⟨a,x,rfl,ea,k⟩
 refine⟨_,(aj (bZ (l0 T.bT Z T.gj.m ((bO T).mono (by decide)) hr T.bK.b .nil aC (ag (pv 0) (aM ai)))) (aq (n_ (pv 0) (pv 1) Z))),?_⟩;refine⟨_,Z,a,A.gB,none,true,_,Z,ea,T.eD.X.toExcC,?_⟩;exact⟨_,Z,_,Z,a,A.gB,true,Z,T.eD.e,T.pj,.inl ⟨ea,λdx hn ne=>k dx hn ne⟩⟩
theorem lE(T:Txt K mg A):aT P w K mg base dO 2 A.ja A.mX ["self","found"] (Gh A.iQ "found"):=by
 refine T.iG.F.wc uz ?_
 rintro cB Ar outer s H vs Q E hr ⟨a,x,rfl,ea,k⟩
 refine⟨_,(aj (bZ (l0 T.bT Z T.gj.m ((bO T).mono (by decide)) hr T.bK.b .nil aC (ag (pv 0) (aM ai)))) (aq (n_ (pv 0) (pv 1) Z))),?_⟩;refine⟨_,Z,a,A.iQ,none,true,_,Z,ea,T.g9.X.toExcC,?_⟩;exact⟨_,Z,_,Z,a,A.iQ,true,Z,T.g9.e,T.qw,.inl ⟨ea,λdx hn ne=>k dx hn ne⟩⟩
theorem qZ{K:Frag}{C:S'}{fd:Str}{k:Ends}{σ:L2.St}{v:V}{H:Hp}{E:XK}{t:TA}(hc:ExcC K C)(ht:∀Q:ak->Hp->Prop,Q [v] H->t σ H Q)
 (r:∀dx H2,ah H H2->H2 dx=some (.xd [(fd,v)])->E (.ref C) (some dx) H2):MD K E (Ir C (Gh C fd) E0 t) k σ H:=by
 refine ht _ λx hx=>⟨x,v,Z,af,λdx JZ ne=>⟨Z,x,C,some dx,Z,(by rw[az (λz=>ne z.symm),af]),hc,r dx _ (λc o e=> ?_) ?_⟩⟩
 .have hd:H dx=none:=by rw[az ne] at JZ;exact JZ
  rw[az (aA e hx),az (aA e hd),az (aA e hx),az (aA e hx)];exact e
 .rw[az ne,af]
inductive Rf
 |many (n:Nat)
 |deep (n:Nat)
 |twice (l:Str)
 |qW (l:Str)
 |wide (n:Nat)
 |long (n:Nat)
 |sC (v:V)
noncomputable def Rf.cls(A:nS):Rf->S'
 | .many _=>A.gF
 | .deep _=>A.gz
 | .twice _=>A.kQ
 | .qW _=>A.gB
 | .wide _=>A.gy
 | .long _=>A.gw
 | .sC _=>A.iQ
noncomputable def Rf.fd:Rf->Str
 | .many _=>"many"
 | .deep _=>"depth"
 | .twice _=>"label"
 | .qW _=>"label"
 | .wide _=>"many"
 | .long _=>"many"
 | .sC _=>"found"
noncomputable def Rf.v:Rf->V
 | .many n=>nI n
 | .deep n=>nI n
 | .twice l=> .str l
 | .qW l=> .str l
 | .wide n=>nI n
 | .long n=>nI n
 | .sC v=>v
def Raises(A:nS)(H:Hp)(E:XK)(r:Rf):Prop:=∀dx H2,ah H H2->H2 dx=some (.xd [(r.fd,r.v)])->E (.ref (r.cls A)) (some dx) H2
theorem Raises.on{A:nS}{H H1:Hp}{E:XK}{r:Rf}(h:Raises A H E r)(s:ah H H1):Raises A H1 E r:=λdx H2 s2 e=>h dx H2 (s.trans s2) e
def Nc(A:nS)(H:Hp)(Q:VK)(E:XK):Option Rf->Prop
 |none=>∀H',ah H H'->Q .bp H'
 |some r=>Raises A H E r
noncomputable def nM(s:Ds):Option Rf:=if 40<d_ s then some (.many (d_ s)) else if 6<eO s then some (.deep (eO s)) else none
noncomputable def yN(s:Ds):Option Rf:=if 4<jS s then some (.wide (jS s)) else if 100<jT s then some (.long (jT s)) else none
noncomputable def ue(d:Dd):Option Str:=match d.ps with
 |[_,_,.str x]=>some x
 |_=>none
noncomputable def j6(r:Dd×au):Option Rf:=if dW r.1.wd=true/\jd r.1∈r.2 then some (.twice (jd r.1)) else if r.1.wd="make" then match ue r.1 with
 |some x=>if x∈r.2 then none else some (.qW x)
 |none=>none
 else none
def Vr(A:nS):Sp:=λvs H Q E=>∃v t s,vs=[v]/\Dat H v (iN t (sL s))/\mD s/\eO s<40/\Nc A H Q E (nM s)
theorem Ep(T:Txt K mg A)(Fm:wV P w K A fm):aT P w K mg base (Dc P w) 43 A.xY A.yt ["body"] (Vr A):=by
 refine T.xS.F.okX ou (λvs H Q E h=> ?_) (λcB Ar outer s0 H vs Q E hr h=> ?_)
 .obtain⟨v,t,s,rfl,_⟩:=h;rfl
 .obtain⟨v,t,s,rfl,hd,ok,dp,q⟩:=h;obtain⟨u1,wB⟩:=T.Fh;obtain⟨u2,vf⟩:=T.En;refine⟨_,(aj (gf 1 ou.nd (cG (uJ T Fm 40) hr T.nV aC (aM (pv 0)))) (aj (bU (wn tQ (pv 1) (f_ Z wB.2 wB.1)) (aq (j4 Z dU (RA T.gI T.lC (sG T) hr (aM (pv 1))))) bf) (aj (gf 2 ou.nd (cG (FX T Fm 40) hr T.uF aC (aM (pv 0)))) (aq (bU (wn tQ (pv 2) (f_ Z vf.2 vf.1)) (aq (j4 Z dU (RA T.fQ T.mB (sO T) hr (aM (pv 2))))) bf))))),?_⟩;refine⟨_,Z,v,t,s,Z,hd,ok,dp,λH1 s1=>⟨_,Z,_,_,Z,Z,_,Z,?_⟩⟩;unfold nM at q;refine mG (λhk=> ?_) (λhk=> ?_)
  .have hk:=bD hk;rw[aB (by lia)] at q;exact qZ T.gI.X.toExcC (λQ' h=>⟨_,Z,h⟩) (Raises.on q s1)
  .have hk:¬((d_ s:Nat):Int)>40:=λz=>hk (aS z);rw[ax (by lia)] at q;refine⟨_,Z,v,t,s,Z,hd.same s1,ok,dp,λH2 s2=>⟨_,Z,_,_,Z,Z,_,Z,?_⟩⟩;refine mG (λhk=> ?_) (λhk=> ?_)
   .have hk:=bD hk;rw[aB (by lia)] at q;exact qZ T.fQ.X.toExcC (λQ' h=>⟨_,Z,h⟩) (Raises.on q (s1.trans s2))
   .have hk:¬((eO s:Nat):Int)>6:=λz=>hk (aS z);rw[ax (by lia)] at q;exact q _ (s1.trans s2)
def Xo(A:nS):Sp:=λvs H Q E=>∃v t s,vs=[v]/\Dat H v (iN t (sL s))/\mD s/\d_ s<=40/\eO s<=6/\Nc A H Q E (yN s)
theorem Ff(T:Txt K mg A)(Fm:wV P w K A fm):aT P w K mg base (Dc P w) 17 A.xJ A.yl ["body"] (Xo A):=by
 refine T.xG.F.okX oJ (λvs H Q E h=> ?_) (λcB Ar outer s0 H vs Q E hr h=> ?_)
 .obtain⟨v,t,s,rfl,_⟩:=h;rfl
 .obtain⟨v,t,s,rfl,hd,ok,hm,dp,q⟩:=h;obtain⟨u1,qS⟩:=T.BI;obtain⟨u2,vz⟩:=T.Eg;refine⟨_,(aj (gf 1 oJ.nd (cG (EJ T Fm 7) hr T.qa aC (aM (pv 0)))) (aj (bU (wn tQ (pv 1) (f_ Z qS.2 qS.1)) (aq (j4 Z dU (RA T.dR T.lO (sT T) hr (aM (pv 1))))) bf) (aj (gf 2 oJ.nd (cG (Cd T Fm 7) hr T.n9 aC (aM (pv 0)))) (aq (bU (wn tQ (pv 2) (f_ Z vz.2 vz.1)) (aq (j4 Z dU (RA T.dF T.l7 (sP T) hr (aM (pv 2))))) bf))))),?_⟩;refine⟨_,Z,v,t,s,Z,hd,ok,by lia,hm,dp,λH1 s1=>⟨_,Z,_,_,Z,Z,_,Z,?_⟩⟩;unfold yN at q;refine mG (λhk=> ?_) (λhk=> ?_)
  .have hk:=bD hk;rw[aB (by lia)] at q;exact qZ T.dR.X.toExcC (λQ' h=>⟨_,Z,h⟩) (Raises.on q s1)
  .have hk:¬((jS s:Nat):Int)>4:=λz=>hk (aS z);rw[ax (by lia)] at q;refine⟨_,Z,v,t,s,Z,hd.same s1,ok,by lia,hm,dp,λH2 s2=>⟨_,Z,_,_,Z,Z,_,Z,?_⟩⟩;refine mG (λhk=> ?_) (λhk=> ?_)
   .have hk:=bD hk;rw[aB (by lia)] at q;exact qZ T.dF.X.toExcC (λQ' h=>⟨_,Z,h⟩) (Raises.on q (s1.trans s2))
   .have hk:¬((jT s:Nat):Int)>100:=λz=>hk (aS z);rw[ax (by lia)] at q;exact q _ (s1.trans s2)
theorem Bc{H:Hp}{d:Dd}{a:S'}{ks:au}{xs ys:ak}(p:i8 H d a ks xs ys)(hw:d.wd="make"):∃x1 x2 m,xs=[x1,x2,m]/\ys=[]/\((m= .bp/\ue d=none)\/∃y,m= .str y/\ue d=some y):=by
 have f:=p.f;rw[hw] at f;have e:=bD (a7.mp (show(bg.all λp=>decide (p.1="make" ->p.2=(["name","size","mark"]:au)))=true by decide+kernel) _ f) rfl;obtain⟨e1,e2⟩:=Ui (Cu p.fit) (show ks++List.replicate ys.length ("body" :Str)=_ from e);have e1:ks=(["name","size","mark"]:au):=e1.trans (by decide+kernel);have e2:ys.length=0:=e2.trans (by decide+kernel);have hy:=qx e2;have hf:=p.fit;have hx:=p.hx;unfold ue;rw[e1] at hf;generalize d.ps=ps at hf hx
 cases hf with
 |cons a1 r=>
  cases r with
  |cons a2 r=>
   cases r with
   |cons a3 r=>
    cases r
    cases hx with
    |cons b1 r=>
     cases r with
     |cons b2 r=>
      cases r with
      |cons b3 r=>
       cases r;refine⟨_,_,_,Z,hy,?_⟩
       cases a3 with
       |Fy=>cases b3;exact .inl ⟨Z,Z⟩
       |mark y _=>cases b3;exact .inr ⟨y,Z,Z⟩
       |num _ _ _ _ hb=>exact absurd Z (ni hb (by decide+kernel))
theorem nY(x:Str)(l:au):IT (.str x) (l.map V.str)=decide (x∈l):=by
 unfold IT;rw[List.any_map,mU,List.any_eq_true,ie];constructor
 .rintro ⟨y,hy,e⟩
  have e:Hi (.str y) (.str x)=true:=e;have:y=x:=by simpa[Hi] using e
  exact this▸hy
 .intro h;exact⟨x,h,by simp[Hi]⟩
def MT(A:nS):Sp:=λvs H Q E=>∃H0 l zs rs,vs=[.ref l]/\ah H0 H/\H l=some (.lst zs)/\gP H0 H zs rs/\(∀r∈rs,l8 r.1)/\Nc A H Q E (rs.findSome? j6)
theorem xa{α β:Type}(f:α->Option β){l:List α}{i:Nat}{x:α}(e:l[i]? =some x):(l.take (i+1)).findSome? f=((l.take i).findSome? f).or (f x):=by
 rw[sd,e,mZ];simp
theorem Ba{α β:Type}(f:α->Option β){l:List α}{i:Nat}{x:α}{r:β}(e:l[i]? =some x)(h0:(l.take i).findSome? f=none)(h1:f x=some r):l.findSome? f=some r:=by
 have:l=l.take (i+1)++l.drop (i+1):=(jC _ _).symm;rw[this,mZ,xa f e,h0,h1];rfl
theorem Bk(T:Txt K mg A)(Fm:wV P w K A fm):aT P w K mg base (Dc P w) 4 A.sV A.tW ["listed"] (MT A):=by
 refine T.uc.F.okX lK (λvs H Q E h=> ?_) (λcB Ar outer s0 H vs Q E hr h=> ?_)
 .obtain⟨H0,l,zs,rs,rfl,_⟩:=h;rfl
 .obtain⟨H0,l,zs,rs,rfl,gW,hl,R,ok,q⟩:=h;refine⟨_,(aq (A5 (ff (pv 0)) (xr Z (cY (jE 1 lK.nd) (cY (jE 2 lK.nd) mV))) (aj (bU (PW.pt (wT (gv (cG (xT T Fm) hr T.ur aC (aM (pv 1)))) (xz (wn k7 (cS aN (pv 1) ae) (pv 2))))) (aq (j4 Z dU (RA T.i6 T.nG (vm T) hr (aM (cS aN (pv 1) ae))))) bf) (aq (bU (PW.pt (wT (wn cK (cS aN (pv 1) ae) ai) (wT (wn zm (cS aN (pv 1) ae) eh) (xz (wn oI (cS aN (pv 1) ae) (pv 2)))))) (aq (j4 Z dU (RA T.eD T.lY (sD T) hr (aM (cS aN (pv 1) ae))))) bf))) (hp:=zH))),?_⟩;refine⟨_,Z,l,Z,⟨_,cF.of hl⟩,?_⟩;refine jb (K:=K) (a:=l) (xs:=zs) (λi σ H' =>∃x1 x2:Option V,σ=[some (.ref l),x1,x2]/\H' =H/\(rs.take i).findSome? j6=none) ⟨_,_,Z,Z,Z⟩ (by rintro i σ H' _ ⟨_,_,_,e,_⟩;exact cF.of (by rw[e];exact hl)) ?_ ?_
  .rintro i x σ H' hx ⟨x1,x2,rfl,rfl,hn⟩
   obtain⟨⟨d,ar⟩,er,t,v,u,rfl,ht,sZ,hu⟩:=R.at_ i x hx;have l6:=ok _ (bE er);obtain⟨b,ks,xs,ys,rfl,p0⟩:=fq sZ l6;have p:=p0.same gW;dsimp only at sZ hu l6 p0 p
   have next:j6 (d,ar)=none->(rs.take (i+1)).findSome? j6=none:=λh=>by
    rw[xa j6 er,hn,h];rfl
   have bad:∀r,j6 (d,ar)=some r->Raises A H' E r:=λr h=>by
    rw[Ba j6 er hn h] at q;exact q
   refine⟨t,_,Z,bc.of ht,Z,_,_,Z,_,_,Z,Z,_,Z,H0,_,d,Z,gW,sZ,l6,_,Z,?_⟩
   have two:¬(dW d.wd=true/\jd d∈ar)->j6 (d,ar)=(if d.wd="make" then match ue d with
    |some x=>if x∈ar then none else some (.qW x)
    |none=>none
    else none):=λh=>ax h
   have nb:∀{y:Str},decide (V.str d.wd=V.str y)=decide (d.wd=y):=λ{y}=>by
    by_cases h:d.wd=y
    .rw[aS h,h];exact aS rfl
    .rw[ba h];exact ba (dZ h)
   cases hb:dW d.wd with
   |true=>
    obtain⟨QK,rfl⟩:=p0.jd hb;refine a9 ⟨_,Z,b,_,1,_,Z,Z,bc.of p.e,bb (j:=1) Z,_,Z,u,_,Z,.inr (bc.of hu),Z,k8 _,_,Z,?_⟩;show if IT (V.str (jd d)) (ar.map V.str)=true then _ else _
    rw[nY];by_cases n5:jd d∈ar
    .rw[aS n5];exact a9 (qZ T.i6.X.toExcC (λQ' h=>⟨_,Z,b,_,1,_,Z,Z,bc.of p.e,bb (j:=1) Z,h⟩) (bad (.twice (jd d)) (aB ⟨hb,n5⟩)))
    .rw[ba n5];have nm:d.wd≠ "make":=λz=>by rw[z] at hb;exact absurd hb (by decide+kernel)
     refine bo ⟨_,Z,b,_,0,_,Z,Z,bc.of p.e,gU _ _,Z,_,Z,?_⟩;exact dG (dZ nm) ⟨_,_,Z,Z,next ((two λz=>n5 z.2).trans (ax nm))⟩
   |false=>
    have tw:=two λz=>by rw[hb] at z;exact cU z.1
    refine bo ⟨_,Z,b,_,0,_,Z,Z,bc.of p.e,gU _ _,Z,_,Z,?_⟩;by_cases nm:d.wd="make"
    .obtain⟨y1,y2,m,rfl,rfl,hm⟩:=Bc p nm;rw[aB nm] at tw;rw[nb,aS nm];rcases hm with⟨rfl,hk⟩|⟨y,rfl,hk⟩
     .rw[hk] at tw;exact a9 ⟨_,Z,b,_,3,_,Z,Z,bc.of p.e,bb (j:=3) Z,Z,_,Z,bo ⟨_,_,Z,Z,next tw⟩⟩
     .rw[hk] at tw;dsimp only at tw;refine a9 ⟨_,Z,b,_,3,_,Z,Z,bc.of p.e,bb (j:=3) Z,Z,_,Z,a9 ⟨_,Z,b,_,3,_,Z,Z,bc.of p.e,bb (j:=3) Z,_,Z,u,_,Z,.inr (bc.of hu),Z,k8 _,_,Z,?_⟩⟩;show if(!IT (V.str y) (ar.map V.str))=true then _ else _
      rw[nY];by_cases hy:y∈ar
      .rw[aB hy] at tw;rw[aS hy];exact bo ⟨_,_,Z,Z,next tw⟩
      .rw[ax hy] at tw;rw[ba hy];exact a9 (qZ T.eD.X.toExcC (λQ' h=>⟨_,Z,b,_,3,_,Z,Z,bc.of p.e,bb (j:=3) Z,h⟩) (bad (.qW y) tw))
    .exact dG (dZ nm) ⟨_,_,Z,Z,next (tw.trans (ax nm))⟩
  .rintro σ H' ⟨x1,x2,rfl,rfl,hn⟩
   have:rs.take zs.length=rs:=oV (by rw[R.len];exact aK _);rw[this] at hn;rw[hn] at q;exact q _ (ah.refl _)
mutual
theorem Eu{H H' :Hp}(k:KT H H')(l:∀c xs,H c=some (.lst xs)->H' c=some (.lst xs)):∀{v:V} {d:U'},Dat H v d->Dat H' v d
 |_,_,.bp=> .bp
 |_,_,.bl b=> .bl b
 |_,_,.int i=> .int i
 |_,_,.str x=> .str x
 |_,_,.lst e h=> .lst (l _ _ e) (rC k l h)
 |_,_,.tup e h=> .tup (k _ _ e) (rC k l h)
theorem rC{H H' :Hp}(k:KT H H')(l:∀c xs,H c=some (.lst xs)->H' c=some (.lst xs)):∀{xs:ak} {ds:List U'},DatAll H xs ds->DatAll H' xs ds
 |_,_,.nil=> .nil
 |_,_,.cons h t=> .cons (Eu k l h) (rC k l t)
end
noncomputable def jai(P:S')(H:Hp):Hp:=λc=>if c=P then none else H c
theorem jab{P c:S'}{H:Hp}(h:c≠P):jai P H c=H c:=ax h
theorem Nh{P:S'}{H:Hp}{ps:Array M'}(h:H P=some (.vB ps)){v:V}{d:U'}(hd:Dat H v d):Dat (jai P H) v d:=
 Eu (λc xs e=>(jab (dB e h (λz=>nomatch z))).trans e) (λc xs e=>(jab (dB e h (λz=>nomatch z))).trans e) hd
theorem xk{P:S'}{H H' :Hp}(k:Kept P H H'):ah (jai P H) H' :=λc o e=>by
 by_cases h:c=P
 .rw[h,show jai P H P=none from aB Z] at e;cases e
 .rw[jab h] at e;exact k c o h e
def Tab(H:Hp)(P:S')(lp:Pos)(q:Str):Prop:=∃ps,H P=some (.vB ps)/\TriplesOk ps.toList/\(codeAmong lp ps.toList=none\/∃c',codeAmong lp ps.toList=some (.ref c')/\H c' =some (.ext (i4 c' q)))
theorem Tab.same{H H' :Hp}{P:S'}{lp:Pos}{q:Str}(t:Tab H P lp q)(s:ah H H'):Tab H' P lp q:=by
 obtain⟨ps,e,h,r⟩:=t;refine⟨ps,s _ _ e,h,?_⟩;rcases r with r|⟨c,r1,r2⟩
 .exact .inl r
 .exact .inr ⟨c,r1,s _ _ r2⟩
theorem Tab.lam{P:S'}{lp:Pos}{q:Str}{sp:S'->S'->ak->Sp}{E:XK}{dvs vs:ak}{H:Hp}{Q:VK}{σ:L2.St}{t:TA}(T:Tab H P lp q)(ht:∀Q' :ak->Hp->Prop,Q' vs H->t σ H Q')
 (h:∀f c' H1,H f=none->H1 f=none->Kept P H H1->Tab H1 P lp q->H1 c' =some (.ext (i4 c' q))->sp f c' [] (vs++[.ref f]++dvs) H1 Q E):Ge P lp q sp E [] dvs t σ H Q:=by
 obtain⟨ps,e,tr,r⟩:=T;refine ht _ ⟨ps,[],e,tr,Z,(λi j v z=>by simp at z),?_⟩;rcases r with r|⟨c,r1,r2⟩
 .refine .inl ⟨r,λf c' hf hc hfc=> ?_⟩;have ncP:c'≠P:=(aA e hc).symm;have nfP:f≠P:=(aA e hf).symm;refine h f c' _ hf ?_ (λb o hb eb=> ?_) ⟨_,(by rw[az ncP.symm];exact af),?_,.inr ⟨c',?_,af⟩⟩ af
  .rw[az hfc,az nfP];exact hf
  .rw[az (aA eb hc),az hb];exact eb
  .have:(ps++ #[rawInt lp.line,rawInt lp.col,.ref c']).toList=ps.toList++[rawInt lp.line,rawInt lp.col,.ref c']:=by simp
   rw[this];exact TriplesOk_snoc _ _ _ _ tr
  .have:(ps++ #[rawInt lp.line,rawInt lp.col,.ref c']).toList=ps.toList++[rawInt lp.line,rawInt lp.col,.ref c']:=by simp
   rw[this];exact codeAmong_snoc _ tr r
 .exact .inr ⟨c,r1,r2,λf hf=>h f c H hf hf (Kept.refl _ _) ⟨ps,e,tr,.inr ⟨c,r1,r2⟩⟩ r2⟩
theorem _root_.L2.aT.NJ{P:Z'}{w:W'}{K:Frag}{mg:Str->aO}{base:Y'}{CX:uk}{k:Nat}{f:S'}{fd:aad}{ps:au}{sp:Sp}(len:∀vs H Q E,sp vs H Q E->vs.length=ps.length)(h:K.In base->aT P w K mg base CX k f fd ps sp):aT P w K mg base CX k f fd ps sp:=
 ⟨len,λA outer s H args us vs Q E hr e0 hb r CY=>(h e0.mod.xp).run A outer s H args us vs Q E hr e0 hb r CY⟩
theorem QZ{P:Z'}{w:W'}{K:Frag}{mg:Str->aO}{base:Y'}{f c' :S'}{name qual:Str}{params:Arguments}{scope:Scope}{pm ct oc:M'}{od:Option S'}{xC:Array (aO)}{p1 p2:Pos}{kj:ak}
 (lk:base.get? f=some ⟨oc,od,.func (kla_fn name qual params (.List [.Name "deed" p1] p2) scope [] pm (.ref c') ct),xC⟩) (S:rP ["number","deed"] [] scope) (C:Au base [] [] kj):aT P w K mg base dO 1 f (kla_fn name qual params (.List [.Name "deed" p1] p2) scope [] pm (.ref c') ct) ["number","deed"] (M9 c' qual):=by
 refine Of lk S C (λvs H Q E ⟨i,v,e,_⟩=>by rw[e];rfl) (λvs H Q E h ⟨i,v,e,hc,_⟩ ok _=>i4.rec ok hc) λA outer s H vs Q E hr ⟨i,v,e,hc,q⟩=> ?_;subst e;exact⟨_,bH (aM (pv 1 (hv:= .inl (S.par "deed" (by simp))))),⟨_,Z,yZ,q⟩⟩
mutual
theorem XQ:∀d:Dd,l8 d->l8 (vK d)
 | .mk w ps bs,h=>by
  rw[l8] at h;rw[vK,l8];obtain⟨⟨ks,f,fit⟩,hb⟩:=h;exact⟨⟨ks,by rw[Ov,a6];exact f,fit⟩,Ni bs hb⟩
theorem DV:∀s:Ds,mD s->mD (nr s)
 | .nil,h=>by rw[nr,mD];exact True.intro
 | .cons d r,h=>by
  rw[mD] at h;rw[nr,mD];exact⟨XQ d h.1,DV r h.2⟩
theorem Ni:∀b:Bs,pG b->pG (BO b)
 | .nil,h=>by rw[BO,pG];exact True.intro
 | .cons t b r,h=>by
  rw[pG] at h;rw[BO,pG];exact⟨DV b h.1,Ni r h.2⟩
end
mutual
theorem acZ:∀d:Dd,mF (vK d)=mF d/\jM (vK d)=jM d/\Az (vK d)=Az d/\AE (vK d)=AE d
 | .mk w ps bs=>by
  obtain⟨h1,h2,h3,h4⟩:=Z7 bs;rw[vK,mF,mF,jM,jM,Az,Az,AE,AE,h1,h2,h3,h4];exact⟨Z,Z,Z,Z⟩
theorem Mz:∀s:Ds,eO (nr s)=eO s/\d_ (nr s)=d_ s/\jS (nr s)=jS s/\jT (nr s)=jT s
 | .nil=>by rw[nr];exact⟨Z,Z,Z,Z⟩
 | .cons d r=>by
  obtain⟨h1,h2,h3,h4⟩:=acZ d;obtain⟨g1,g2,g3,g4⟩:=Mz r;rw[nr,eO,eO,d_,d_,jS,jS,jT,jT,h1,h2,h3,h4,g1,g2,g3,g4];exact⟨Z,Z,Z,Z⟩
theorem Z7:∀b:Bs,nF (BO b)=nF b/\mT (BO b)=mT b/\ua (BO b)=ua b/\uh (BO b)=uh b
 | .nil=>by rw[BO];exact⟨Z,Z,Z,Z⟩
 | .cons t b r=>by
  obtain⟨h1,h2,h3,h4⟩:=Mz b;obtain⟨g1,g2,g3,g4⟩:=Z7 r;rw[BO,nF,nF,mT,mT,ua,ua,uh,uh,h1,h2,h3,h4,g1,g2,g3,g4];exact⟨Z,Z,Z,Z⟩
end
noncomputable def YN(r:Dd×au):Dd×au:=(vK r.1,r.2)
theorem XF(d:Dd)(ar:au):oA (vK d) ar=oA d ar:=by
 cases d with
 |mk w ps bs=>rw[vK];rfl
mutual
theorem Wa:∀(d:Dd) (ar:au),DF (vK d) ar=(DF d ar).map YN
 | .mk w ps bs,ar=>by
  have e:=XF (.mk w ps bs) ar;rw[vK] at e ⊢;rw[DF,DF,cL,e,OC bs];show _::_=(vK (.mk w ps bs),ar)::_;rw[vK]
theorem AB:∀(s:Ds) (ar:au),pI (nr s) ar=(pI s ar).map YN
 | .nil,ar=>by rw[nr,pI];rfl
 | .cons d r,ar=>by rw[nr,pI,pI,Wa d,AB r,i7]
theorem OC:∀(b:Bs) (ar:au),EW (BO b) ar=(EW b ar).map YN
 | .nil,ar=>by rw[BO,EW];rfl
 | .cons t b r,ar=>by rw[BO,EW,EW,AB b,OC r,i7]
end
theorem QE(r:Dd×au):j6 (YN r)=j6 r:=by
 obtain⟨d,ar⟩:=r
 cases d with
 |mk w ps bs=>
  unfold YN;dsimp only;rw[vK];rfl
theorem Q8(s:Ds)(ar:au):(pI (nr s) ar).findSome? j6=(pI s ar).findSome? j6:=by
 rw[AB,List.findSome?_map]
 congr 1
 funext r
 exact QE r
mutual
theorem Wl:∀(d:Dd) (ar:au),l8 d->∀r∈DF d ar,l8 r.1
 | .mk w ps bs,ar,h,r,hr=>by
  rw[DF] at hr;rcases aP.mp hr with rfl|hr
  .exact h
  .exact Mv bs _ (kg h) r hr
theorem w8:∀(s:Ds) (ar:au),mD s->∀r∈pI s ar,l8 r.1
 | .nil,ar,h,r,hr=>by rw[pI] at hr;cases hr
 | .cons d q,ar,h,r,hr=>by
  rw[mD] at h;rw[pI] at hr;rcases eB.mp hr with hr|hr
  .exact Wl d ar h.1 r hr
  .exact w8 q ar h.2 r hr
theorem Mv:∀(b:Bs) (ar:au),pG b->∀r∈EW b ar,l8 r.1
 | .nil,ar,h,r,hr=>by rw[EW] at hr;cases hr
 | .cons t b q,ar,h,r,hr=>by
  rw[pG] at h;rw[EW] at hr;rcases eB.mp hr with hr|hr
  .exact w8 b ar h.1 r hr
  .exact Mv q ar h.2 r hr
end
theorem zU{H H' :Hp}{ks:au}{ps:List U'}(h:ig ks ps):∀{xs:ak},DatAll H xs ps->bI H' xs ps:=by
 induction h with
 |nil=>intro xs hx;cases hx;exact .nil
 |cons h t ih=>
  intro xs hx
  cases hx with
  |cons a r=>exact .cons (M8 h a) (ih r)
mutual
theorem Zp{H:Hp}:∀(d:Dd) {v:V},l8 d->Dat H v (dD (vK d))->iS H v (dD (vK d))
 | .mk w ps bs,v,ok,h=>by
  rw[l8] at ok;obtain⟨⟨ks,f,fit⟩,hb⟩:=ok;rw[vK,dD] at h ⊢
  cases h with
  |tup e h=>
   cases h with
   |cons a r=>
    cases a;obtain⟨xs,ys,rfl,h1,h2⟩:=ow r;exact .tup e (.cons (.str _) ((zU fit h1).append (YG bs hb h2)))
theorem abb{H:Hp}:∀(s:Ds) {xs:ak},mD s->DatAll H xs (sL (nr s))->bI H xs (sL (nr s))
 | .nil,xs,ok,h=>by
  rw[nr,sL] at h ⊢;cases h;exact .nil
 | .cons d r,xs,ok,h=>by
  rw[mD] at ok;rw[nr,sL] at h ⊢
  cases h with
  |cons a t=>exact .cons (Zp d ok.1 a) (abb r ok.2 t)
theorem YG{H:Hp}:∀(b:Bs) {xs:ak},pG b->DatAll H xs (bL (BO b))->bI H xs (bL (BO b))
 | .nil,xs,ok,h=>by
  rw[BO,bL] at h ⊢;cases h;exact .nil
 | .cons t b r,xs,ok,h=>by
  rw[pG] at ok;rw[BO,bL] at h ⊢
  cases h with
  |cons a q=>
   refine .cons ?_ (YG r ok.2 q);obtain⟨a',vs,rfl,ea,hA⟩:=iM a;exact .tup ea (abb b ok.1 hA)
end
def Rn(H:Hp)(v:V)(r:Dd×au):Prop:=∃t x u,v= .ref t/\H t=some (.tup [x,.ref u])/\iS H x (dD (vK r.1))/\H u=some (.tup (r.2.map V.str))
noncomputable def Up(tb ls:S'):ji:=jg "listed" (.ref ls) (jg "body" (.ref tb) [])
structure Hm(C:S')(H:Hp)(p tb ls:S')(s:Ds):Prop where
 ob:∃dx,H p=some (.ins C dx (Up tb ls))
 body:iS H (.ref tb) (.tuple (sL (nr s)))
 rows:∃zs,H ls=some (.lst zs)/\zs.length=(pI s ["ground"]).length/\∀(i:Nat) v,zs[i]? =some v->∃r,(pI s ["ground"])[i]? =some r/\Rn H v r
theorem Rn.kt{H H' :Hp}{v:V}{r:Dd×au}(h:Rn H v r)(k:KT H H'):Rn H' v r:=by
 obtain⟨t,x,u,e1,e2,e3,e4⟩:=h;exact⟨t,x,u,e1,k _ _ e2,e3.kt k,k _ _ e4⟩
theorem Hm.kt{C:S'}{H H' :Hp}{p tb ls:S'}{s:Ds}(h:Hm C H p tb ls s)(k:KT H H')(hp:H' p=H p)(hl:H' ls=H ls):Hm C H' p tb ls s:=by
 obtain⟨⟨dx,e⟩,b,zs,e1,e2,e3⟩:=h;refine⟨⟨dx,hp.trans e⟩,b.kt k,zs,hl.trans e1,e2,λi v ev=> ?_⟩;obtain⟨r,er,hr⟩:=e3 i v ev;exact⟨r,er,hr.kt k⟩
noncomputable def gL(s:Ds):Option Rf:=(nM s).or (((pI s ["ground"]).findSome? j6).or (yN s))
noncomputable def L0:Pos:=⟨170,37,170,64⟩
noncomputable def qI:Str:="Program.__init__" ++ ".<locals>." ++ "<lambda>"
def hU(p P:S')(H H' :Hp):Prop:=∀b o,b≠p->b≠P->H b=some o->H' b=some o
theorem N8{H:Hp}{p C dx:S'}{fs:ji}{o:HO}(h:H p=some (.ins C dx fs)):KT H (upd H p o):=λc ys e=>by
 rw[az (dB e h (by intro z;cases z))];exact e
theorem gD{β:Type}{l:List (Str×β)}{k:Str}{v:β}(h:l.lookup k=some v):(k,v)∈l:=by
 obtain⟨l1,l2,e,_⟩:=EA.mp h;rw[e];simp
theorem Ky{p C dx:S'}{fs:ji}{H:Hp}(h:H p=some (.ins C dx fs)){v:V}{d:U'}(hd:Dat H v d):Dat (jai p H) v d:=
 Eu (λc xs e=>(jab (dB e h (λz=>nomatch z))).trans e) (λc xs e=>(jab (dB e h (λz=>nomatch z))).trans e) hd
theorem Tab.Zd{H:Hp}{P p C dx:S'}{fs:ji}{lp:Pos}{q:Str}{o:HO}(t:Tab H P lp q)(h:H p=some (.ins C dx fs)):Tab (upd H p o) P lp q:=by
 obtain⟨ps,e,tr,r⟩:=t;refine⟨ps,(by rw[az (dB e h (λz=>nomatch z))];exact e),tr,?_⟩;rcases r with r|⟨c,r1,r2⟩
 .exact .inl r
 .exact .inr ⟨c,r1,by rw[az (dB r2 h (λz=>nomatch z))];exact r2⟩
theorem aeA{sc:Scope}(h1:sc.kind= .function)(h2:sc.isCoroutine=false)(h3:sc.isGenerator=false)(h:sc.names=[(("number" :Str),NameKind.local),(("deed" :Str),NameKind.local)]):rP ["number","deed"] [] sc:=by
 refine⟨h1,h2,h3,by decide+kernel,?_,(λ_ h=>nomatch h),?_,?_⟩
 .rw[h];decide+kernel
 .rw[h];decide+kernel
 .rw[h];intro x hx;have hm:=gD hx;rcases aP.mp hm with z|hm
  .cases z
  .rcases aP.mp hm with z|hm
   .cases z
   .cases hm
theorem aaN(T:Txt K mg A)(Fm:wV P w K A fm){g_ :Y'}{f c' :S'}{name qual:Str}{scope:Scope}{pm ct oc:M'}{od:Option S'}{xC:Array (aO)}{p1 p2 p3 p4:Pos}{kj:ak}
 (lk:g_.get? f=some ⟨oc,od,.func (kla_fn name qual {posonlyargs:=[],args:=[{arg:="number",annotation:=none,pos:=p3},{arg:="deed",annotation:=none,pos:=p4}],vararg:=none,kwonlyargs:=[],kw_defaults:=[],kwarg:=none,defaults:=[]} (.List [.Name "deed" p1] p2) scope [] pm (.ref c') ct),xC⟩)
 (C:Au g_ [] [] kj) (h1:scope.kind= .function:=by rfl) (h2:scope.isCoroutine=false:=by rfl) (h3:scope.isGenerator=false:=by rfl) (h:scope.names=[(("number" :Str),NameKind.local),(("deed" :Str),NameKind.local)]:=by rfl):aT P w K mg g_ dO 17 A.mN A.eE ["body","change","first"] (J9 f c' qual 7):=
 D2 T Fm (QZ lk (aeA h1 h2 h3 h) C) ⟨_,_,_,lk⟩ (Binds.all (Yx λ_ _=>rfl)) 7
def WT(C:S'):Sp:=λvs H Q _=>∃p tb ls s,vs=[.ref p]/\Hm C H p tb ls s/\Q (.ref tb) H
theorem yL(T:Txt K mg A):aT P w K mg base dO 1 A.pK A.qt ["self"] (WT A.aZ):=by
 refine T.ra.F.ok yO (λvs H Q E h=> ?_) (λcB Ar outer s0 H vs Q E hr h=> ?_)
 .obtain⟨p,tb,ls,s,rfl,_⟩:=h;rfl
 .obtain⟨p,tb,ls,s,rfl,pr,q⟩:=h;obtain⟨dx,ho⟩:=pr.ob;refine⟨_,(aq (aH (pfd (pv 0)))),?_⟩;exact⟨_,Z,p,A.aZ,dx,_,_,Z,ho,T.jw,T.iU,Z,q⟩
theorem jz{x:V}{xs:ak}{k:Nat}(hk:1<=k)(hi:Option Int):¬(HT.gH (x::xs).length 0 (some (k:Int))=0/\HT.gH (x::xs).length (x::xs).length hi=(x::xs).length):=by
 rintro ⟨z,_⟩
 rw[HT.h9] at z;simp only[bB] at z
 lia
theorem lG(xs:ak)(k:Nat):cZ xs (some (k:Int)) none=xs.drop k:=by
 unfold cZ;rw[HT.h9,HT.qi];by_cases h:k<=xs.length
 .rw[Eo h];exact oV (by rw[og];exact aK _)
 .rw[Nat.min_eq_right (by lia),List.drop_of_length_le (by lia),List.drop_of_length_le (by lia),zQ]
def KN:Sp:=ux λH0 d v H Q=>∀t ys H',H t=none->ah H H'->H' t=some (.tup ys)->DatAll H0 ys (bL d.bs)->Q (.ref t) H'
def Iy:Sp:=ux λH0 d v H Q=>∀t ys H',H t=none->ah H H'->H' t=some (.tup ys)->DatAll H0 ys (bL d.bs)->(∃a xs,v= .ref a/\H a=some (.tup (.str d.wd::(xs++ys)))/\xs.length=d.ps.length)->Q (.ref t) H'
theorem y6(T:Txt K mg A):aT P w K mg base dO 1 A.fR A.jL ["_law_deed"] Iy:=by
 refine T.dP.F.ok pU (λvs H Q E h=> ?_) (λcB Ar outer s0 H vs Q E hr h=> ?_)
 .obtain⟨H0,v,d,rfl,_⟩:=h;rfl
 .obtain⟨H0,v,d,rfl,gW,hd,ok,q⟩:=h;obtain⟨a,ks,xs,ys,rfl,p0⟩:=fq hd ok;have pp:=p0.same gW
  have hu:(nD dO P w K mg base ["_law_deed"] "_law_bodies" (av jF) A.fR cB Ar outer s0 H E).KD.A.units+1<cLine:=by
   have:=hr.un;show(Ar.deeper _).units+1<cLine;omega
  refine⟨_,(aq (aH (vn hu (vZ (g8 ai (dH iu (pv 0) (bQ ae) bW) (g8 ai (dH iu (pv 0) (bQ ae) bW) (g8 ai (dH iu (pv 0) (bQ ae) bW) u_))) Z Z (by simp) (by decide)) (cS aN (pv 0) ae) (bt dY) ⟨Z,Z,Z,Z⟩))),?_⟩;refine λp hp=>⟨_,Z,2,Z,a,_,Z,bc.of (ah.upd hp _ _ pp.e),jz (k:=2) (by decide) _,λt1 uo=> ?_⟩;have s1:=(ah.upd (o:= .dK []) hp).trans (ah.upd (o:= .tup (cZ (.str d.wd::(xs++ys)) (some 2) none)) uo);have Kn:=ah.upd (o:= .tup (cZ (.str d.wd::(xs++ys)) (some 2) none)) uo p _ af;have e1:upd (upd H p (.dK [])) t1 (.tup (cZ (.str d.wd::(xs++ys)) (some 2) none)) t1=some (.tup (cZ (.str d.wd::(xs++ys)) (some 2) none)):=af;have f1:H t1=none:=(ah.upd (o:= .dK []) hp).free uo;generalize upd (upd H p (.dK [])) t1 (.tup (cZ (.str d.wd::(xs++ys)) (some 2) none))=H1 at s1 Kn e1 ⊢;refine⟨_,Z,4,Z,a,_,Z,bc.of (s1 _ _ pp.e),jz (k:=4) (by decide) _,λt2 wO=> ?_⟩;have s2:=s1.trans (ah.upd (o:= .tup (cZ (.str d.wd::(xs++ys)) (some 4) none)) wO);have CO:=ah.upd (o:= .tup (cZ (.str d.wd::(xs++ys)) (some 4) none)) wO _ _ Kn;have e2:=ah.upd (o:= .tup (cZ (.str d.wd::(xs++ys)) (some 4) none)) wO _ _ e1;have Pm :upd H1 t2 (.tup (cZ (.str d.wd::(xs++ys)) (some 4) none)) t2=some (.tup (cZ (.str d.wd::(xs++ys)) (some 4) none)):=af;have f2:H t2=none:=s1.free wO;generalize upd H1 t2 (.tup (cZ (.str d.wd::(xs++ys)) (some 4) none))=H2 at s2 CO e2 Pm ⊢;refine⟨_,Z,1,Z,a,_,Z,bc.of (s2 _ _ pp.e),jz (k:=1) (by decide) _,λt3 qC=> ?_⟩;have u3:=ah.upd (o:= .tup (cZ (.str d.wd::(xs++ys)) (some 1) none)) qC;have Ph :upd H2 t3 (.tup (cZ (.str d.wd::(xs++ys)) (some 1) none)) t3=some (.tup (cZ (.str d.wd::(xs++ys)) (some 1) none)):=af;have f3:H t3=none:=s2.free qC;generalize upd H2 t3 (.tup (cZ (.str d.wd::(xs++ys)) (some 1) none))=H3 at u3 Ph ⊢;have s3:=s2.trans u3;have BN:=u3 _ _ CO
  have Qc:o9 [] [((.inr "frame" :wS),V.ref t1),(.inr "turns",.ref t2),(.inr "either",.ref t3)]=[(.inr "frame",.ref t1),(.inr "turns",.ref t2),(.inr "either",.ref t3)]:=by with_unfolding_all rfl
  refine⟨BN,[(.inr "frame",.ref t1),(.inr "turns",.ref t2),(.inr "either",.ref t3)],Z,(show 3<=15 by decide),p,Z,.inl ⟨_,.inl af⟩,?_⟩;rw[Qc];have s4:ah H (upd H3 p (.dK [(.inr "frame",.ref t1),(.inr "turns",.ref t2),(.inr "either",.ref t3)])):=fh hp s3
  have k4:KT H3 (upd H3 p (.dK [(.inr "frame",.ref t1),(.inr "turns",.ref t2),(.inr "either",.ref t3)])):=λc ys e=>by
   rw[az (dB e BN (λz=>nomatch z))];exact e
  have e4:upd H3 p (.dK [(.inr "frame",.ref t1),(.inr "turns",.ref t2),(.inr "either",.ref t3)]) p=some (.dK [(.inr "frame",.ref t1),(.inr "turns",.ref t2),(.inr "either",.ref t3)]):=af;generalize upd H3 p (.dK [(.inr "frame",.ref t1),(.inr "turns",.ref t2),(.inr "either",.ref t3)])=H4 at s4 k4 e4 ⊢;refine⟨_,Z,a,_,0,_,Z,Z,bc.of (s4 _ _ pp.e),gU _ _,nq,λt4 Ke=> ?_⟩;have u5:=ah.upd (o:= .tup []) Ke;refine⟨_,FU.k (k:= .inr d.wd) (u5 _ _ e4),?_⟩;have s5:=s4.trans u5;have hx:=p0.hx;have hy:=p0.hy;have q1:∀t H',H t=none->ah H H'->H' t=some (.tup ys)->Q (.ref t) H' :=λt H' h1 h2 h3=>q t ys H' h1 h2 h3 hy ⟨a,xs,Z,pp.e,fF hx⟩
  cases jaf ok with
  |ei t b u c=>
   rw[show eV [((.inr "frame" :wS),V.ref t1),(.inr "turns",.ref t2),(.inr "either",.ref t3)] (.inr (Dd.wd (.mk "either" [] (.cons t b (.cons u c .nil)))))=some (.ref t3) by with_unfolding_all rfl];refine q1 t3 _ f3 s5 ((u5 _ _ (k4 _ _ Ph)).trans ?_);rw[show cZ (V.str (Dd.wd (.mk "either" [] (.cons t b (.cons u c .nil))))::(xs++ys)) (some 1) none=xs++ys from lG _ 1];cases hx;rfl
  |tu l m n t b hl hg m1 m3 n0 n4=>
   rw[show eV [((.inr "frame" :wS),V.ref t1),(.inr "turns",.ref t2),(.inr "either",.ref t3)] (.inr (Dd.wd (.mk "turns" [.str l,.int m,.int n] (.cons t b .nil))))=some (.ref t2) by with_unfolding_all rfl];refine q1 t2 _ f2 s5 ((u5 _ _ (k4 _ _ (u3 _ _ Pm))).trans ?_);obtain⟨x1,x2,rfl⟩:=Ql hx;rw[show cZ (V.str (Dd.wd (.mk "turns" [.str l,.int m,.int n] (.cons t b .nil)))::([x1,x2,V.int n]++ys)) (some 4) none=ys from lG _ 4]
  |fr l t b hl hg=>
   rw[show eV [((.inr "frame" :wS),V.ref t1),(.inr "turns",.ref t2),(.inr "either",.ref t3)] (.inr (Dd.wd (.mk "frame" [.str l] (.cons t b .nil))))=some (.ref t1) by with_unfolding_all rfl];refine q1 t1 _ f1 s5 ((u5 _ _ (k4 _ _ (u3 _ _ e2))).trans ?_)
   cases hx with
   |cons h1 r=>
    cases r;rw[show cZ (V.str (Dd.wd (.mk "frame" [.str l] (.cons t b .nil)))::([_]++ys)) (some 2) none=ys from lG _ 2]
  |sm w ks ps f h n1 n2 n3=>
   have hv:eV [((.inr "frame" :wS),V.ref t1),(.inr "turns",.ref t2),(.inr "either",.ref t3)] (.inr w)=none:=by
    unfold eV;rw[List.find?_eq_none.mpr]
    .rfl
    .intro x hx;simp only[aP,cO,cR] at hx;rcases hx with rfl|rfl|rfl
     .simpa using λz=>n3 z.symm
     .simpa using λz=>n2 z.symm
     .simpa using λz=>n1 z.symm
   have Yw :eV [((.inr "frame" :wS),V.ref t1),(.inr "turns",.ref t2),(.inr "either",.ref t3)] (.inr (Dd.wd (.mk w ps .nil)))=none:=hv;rw[Yw];refine q1 t4 _ (s4.free Ke) s5 (af.trans ?_);have hy:DatAll H0 ys (bL .nil):=hy;rw[bL] at hy;cases hy;rfl
theorem gi(T:Txt K mg A):aT P w K mg base dO 1 A.fR A.jL ["_law_deed"] KN:=
 (y6 T).imp λvs H Q E ⟨H0,v,d,e,sm,hd,ok,q⟩=>⟨H0,v,d,e,sm,hd,ok,λt ys H' h1 h2 h3 h4 _=>q t ys H' h1 h2 h3 h4⟩
theorem Js{J:It}{n k:Nat}{js:List Nat}{Y:Nat->V->Hp->Prop}{g:TG}{tt:TT}{te:TE}{σ:L2.St}{H:Hp}{Q:VK}(pb:Nat->Bool)(d:Nat->U')(F:IQ J H n Y)(hlen:n<=sizeLine)
 (iF:∀(i:Nat) (x:V) (H' :Hp) (C1:V->Hp->Prop) (C0:Hp->Prop),i<n->ah H H'->Y i x H'->(pb i=true->∀v gX,ah H' gX->iS gX v (d i)->C1 v gX)->(pb i=false->∀gX,ah H' gX->C0 gX)->
  g x (yW k js σ) H' λmY H2=>gA (yW k js σ) mY/\tt mY H2 λb H3=>if b=true then te mY H3 C1 else C0 H3)
 (hq:∀p H' ys,H p=none->ah H H'->H' p=some (.lst ys)->bI H' ys (((List.range n).filter pb).map d)->ys.length<=n->Q (.ref p) H'):
 nX J k js g tt te σ H Q:=by
 intro p hp;refine⟨λi m ys H' =>m=n - i/\i<=n/\ys.length<=i/\bI H' ys (((List.range i).filter pb).map d)/\H' p=some (.lst ys)/\ah H H',⟨n,Z,cH _,aK _,.nil,af,ah.upd hp⟩,?_⟩
 rintro i m ys H' ⟨rfl,hi,hy,hd,hl,hs⟩
 refine⟨hl,?_⟩;by_cases kG:i<n
 .refine .inr ⟨F.go i _ hs kG,by lia,λx gX B_=> ?_⟩;obtain⟨s1,y1⟩:=F.BM i _ x gX hs kG B_
  have et:(List.range (i+1)).filter pb=(List.range i).filter pb++(if pb i=true then[i] else[]):=by
   rw[List.range_succ,uS];cases hb:pb i<;>simp[hb]
  refine iF i x gX _ _ kG (hs.trans s1) y1 (λhb v H3 s3 e3=> ?_) (λhb H3 s3=>⟨n - (i+1),by lia,Z,kG,by lia,?_,s3 _ _ (s1 _ _ hl),(hs.trans s1).trans s3⟩)
  .have BN:H3 p=some (.lst ys):=s3 _ _ (s1 _ _ hl)
   have kt:∀c xs,H3 c=some (.tup xs)->upd H3 p (.lst (ys++[v])) c=some (.tup xs):=λc xs e=>by
    rw[az (dB e BN (by intro z;cases z))];exact e
   refine⟨BN,n - (i+1),by lia,Z,kG,by rw[bu];show ys.length+1<=i+1;lia,?_,af,λc o e=> ?_⟩
   .rw[et,aB hb,i7];exact((hd.kt (KT.same (s1.trans s3))).kt kt).append (.cons (e3.kt kt) .nil)
   .rw[az (aA e hp)];exact s3 _ _ (s1 _ _ (hs _ _ e))
  .rw[et,hb];simp only[wj,mJ,fJ];exact hd.kt (KT.same (s1.trans s3))
 .have e:i=n:=by lia
  subst e;exact .inl ⟨F.stop _ _ hs (aK _),hq p H' ys hp hs hl hd hy⟩
theorem wx(l:List U'):(List.range l.length).map (λi=>l.getD i .none)=l:=by
 apply zB;intro i;rw[bY];by_cases h:i<l.length
 .rw[qd h,wm h];simp[eA,h]
 .rw[nh (by rw[oy];lia),nh (by lia)];rfl
noncomputable def Nr(d:Dd):List U':=d.bs.l.map λp=> .tuple (sL (nr p.2))
def Po(n:Nat):Sp:=λvs H Q _=>∃H0 v t s,vs=[v]/\ah H0 H/\Dat H0 v (iN t (sL s))/\mD s/\eO s<n/\d_ s<=1000/\∀tt H',H tt=none->ah H H'->iS H' (.ref tt) (.tuple (sL (nr s)))->Q (.ref tt) H'
theorem MZ(xs ys:ak):cZ (xs++ys) none (some (xs.length:Int))=xs:=by
 unfold cZ;rw[HT.qi,HT.h9,List.drop_zero,zc,bu,Eo (o6 _ _),List.take_left' Z]
theorem BU(T:Txt K mg A)(n:Nat):aT P w K mg base dO (1+n) A.vH A.wC ["_law_body_here"] (Po n):=by
 induction n with
 |zero=>exact fu (by rintro vs H Q E ⟨H0,v,t,s,_,_,_,_,h,_⟩;exact iH _ h)
 |succ n ih=>
 show aT P w K mg base dO ((1+n)+1) _ _ _ _;refine T.oN.F.ok jP (λvs H Q E h=> ?_) (λcB Ar outer s0 H vs Q E hr h=> ?_)
 .obtain⟨H0,v,t,s,rfl,_⟩:=h;rfl
 .obtain⟨H0,v,t,s,rfl,gW,hd,ok,dp,hm,q⟩:=h;obtain⟨a,vs,rfl,ha,hA⟩:=iM hd;have sl:=Qb s;have vl:=t9 hA;have L4:(1000:Nat)<sizeLine:=by decide
  refine⟨_,(aj (gf 1 jP.nd (bH dY)) (aj (A5 (pq (pv 0)) (jE 2 jP.nd) (aj (Il 3 jP.nd ["_law_one"] 1 [] (Bm (cG (gi T) hr T.dP aC (aM (pv 2)) (hj:=by lia))) (λ_ _ _ _ _=>⟨(jE 0 (show(["_law_one"]:au).Nodup by decide+kernel)),wH,(cG ih hr T.oN aC (aM (pv 0)) (hj:=by lia))⟩)) (aq (bZ (lR gT D' F' dw (pv 1) (aM (aL jI (dH Jr (pv 2) bW (bQ (aL iT (iR br T.g7 Boot.«len» (aM (pv 2))) (iR br T.g7 Boot.«len» (aM (pv 3)))))) (NA eQ T.iE Boot.«tuple» (aM (pv 3)))))))))) (aq (aH (NA eQ T.iE Boot.«tuple» (aM (pv 1))))))),?_⟩;refine⟨nq,λfl pd=>⟨_,Z,a,t,Z,LY (ah.upd pd _ _ (gW _ _ ha)),?_⟩⟩;refine ng (K:=K) (t:=t) (a:=a) (xs:=vs) (λj σ H' =>∃(x2 x3:Option V) (ws:ak),σ=[some (.ref a),some (.ref fl),x2,x3]/\ah H H'/\H' fl=some (.lst ws)/\bI H' ws ((sL (nr s)).take j)) ⟨_,_,[],Z,ah.upd pd,af,.nil⟩ (by rintro j σ H' _ ⟨_,_,_,_,sm,_⟩;exact sm _ _ (gW _ _ ha)) ?_ ?_
  .rintro j x σ H' hx ⟨x2,x3,ws,rfl,sm,m7,tw⟩
   obtain⟨d,ed,sZ⟩:=jN hA hx;have dm:=bE ed;have l6:=gE ok d dm;have LN:=gK d dm;have Qh:=jG d dm;have wl:=Bz tw;rw[lM] at wl;have hj:=(c8.mp hx).1
   have ej:(sL (nr s))[j]? =some (dD (vK d)):=by
    rw[JB,bY,ed];rfl
   obtain⟨b,ks,xs,C2,rfl,p0⟩:=fq sZ l6;have hlx:=p0.lx;have h4:=fP p0.f;rw[bu,gM] at h4;have Yu:=jj p0.hy;refine⟨_,Z,H0,_,d,Z,gW.trans sm,sZ,l6,λt1 ys H1 uo s1 hz hB=>⟨t1,Z,⟨_,bc.of hz⟩,?_⟩⟩;have bl:=jj hB
   have pl:(Nr d).length=ys.length:=by
    unfold Nr;rw[a6,bl]
   refine Js (λ_=>true) (λi=>(Nr d).getD i .none) (se (bc.of hz)).g (aU (show ys.length<=1000 by lia) (cT L4)) ?_ λil H2 wi hil s2 yQ Ow O0=> ?_
   .intro i y H3 C1 C0 hi s3 hy c1 c0;obtain⟨pp,ep,hp⟩:=jQ hB hy;have pm:=bE ep;have y_:=hZ (kg l6) pp pm;have FE:=h8 pp pm;have NK:=kS pp pm;rw[<-lH] at FE;rw[<-pS] at NK
    have ec:(Nr d).getD i .none= .tuple (sL (nr pp.2)):=by
     unfold Nr;rw[eA,bY,ep];rfl
    refine⟨(gA.refl _).own (by decide),_,Z,H0,y,pp.1,pp.2,Z,((gW.trans sm).trans s1).trans s3,hp,y_,by lia,by lia,λt2 H4 _ s4 td=>c1 Z _ H4 s4 ?_⟩;rw[ec];exact td
   .rw[lZ.mpr (λ_ _=>rfl),<-pl,wx] at Ow;have wil:=Bz Ow;have Lm:=(sm.trans s1).trans s2;have uP:H2 b=some (.tup (.str d.wd::(xs++C2))):=Lm _ _ (gW _ _ p0.e);have wI:=s2 _ _ (s1 _ _ m7)
    have eix:(((V.str d.wd::(xs++C2)).length:Nat):Int) - ((wi.length:Nat):Int)=(((V.str d.wd::xs).length:Nat):Int):=by
     simp only[bB,bu]
     lia
    have fin:∀(e:S') (H5:Hp),ah H2 H5->iS H5 (.ref e) (dD (vK d))->∃(x2 x3:Option V) (Yo :ak),([some (V.ref a),some (.ref fl),some (.ref b),some (.ref il)]:L2.St)=[some (.ref a),some (.ref fl),x2,x3]/\ah H (upd H5 fl (.lst (ws++[.ref e])))/\upd H5 fl (.lst (ws++[.ref e])) fl=some (.lst Yo)/\bI (upd H5 fl (.lst (ws++[.ref e]))) Yo ((sL (nr s)).take (j+1)):=λe H5 s5 td=>by
     refine⟨_,_,ws++[.ref e],Z,fh pd (Lm.trans s5),af,?_⟩;rw[wP ej];exact((tw.kt (KT.same ((s1.trans s2).trans s5))).snoc td).kt (KT.upd (s5 _ _ wI))
    have Q3:ws.length<sizeLine:=iX (show ws.length<=1000 by lia) L4;refine⟨_,Z,JD wI,_,Z,_,Z,b,_,Z,.inr (bc.of uP),_,Z,il,_,Z,.inl (cF.of yQ),_,_,Z,Z,_,Z,b,_,Z,bc.of uP,?_,?_⟩
    .rw[eix]
     rintro ⟨_,hw⟩
     rw[HT.h9] at hw;simp only[bB,bu] at hw;have Ym:C2=[]:=qx (by lia);have hw0:wi=[]:=qx (by rw[Ym] at Yu;simp only[m5] at Yu;lia);subst Ym hw0;refine⟨_,Z,il,_,Z,.inl ⟨cF.of yQ,λt5 Qw=> ?_⟩⟩;have u5:=ah.upd (o:= .tup []) Qw;refine⟨b,t5,_,_,Z,Z,bc.of (u5 _ _ uP),bc.of af,(λz=>nomatch z),?_,(λ_=>⟨fl,ws,_,Z,Z,u5 _ _ wI,Q3,fin b _ u5 ?_⟩),(λz=>absurd Z z)⟩
     .simp only[bB,bu,m5];exact aU (show _<=1000 by lia) (cT L4)
     .have hbs:d.bs.l=[]:=qx (by rw[<-Yu];rfl);rw[HK,hbs];exact .tup (u5 _ _ uP) (.cons (.str _) (by rw[fJ,mS,fJ];exact zU p0.fit p0.hx))
    .rw[eix];intro hw t4 Ke;have VW:cZ (V.str d.wd::(xs++C2)) none (some (((V.str d.wd::xs).length:Nat):Int))=V.str d.wd::xs:=MZ (V.str d.wd::xs) C2;rw[VW];have u4:=ah.upd (o:= .tup (V.str d.wd::xs)) Ke;refine⟨_,Z,il,_,Z,.inl ⟨cF.of (u4 _ _ yQ),λt5 Qw=> ?_⟩⟩;have u5:=ah.upd (o:= .tup wi) Qw
     have wQ:wi≠[]:=λz=>hw (by
      rw[z] at wil
      have Ym:C2.length=0:=by
       rw[Yu,<-bl,<-pl,<-wil];rfl
      refine⟨Z,?_⟩;rw[HT.h9];simp only[bB,bu]
      lia)
     refine⟨t4,t5,_,_,Z,Z,bc.of (u5 _ _ af),bc.of af,(λz=>nomatch z),?_,(λz=>absurd z wQ),λ_ t6 Y2=> ?_⟩
     .simp only[bB];exact aU (show _<=1000 by lia) (cT L4)
     .have u6:=ah.upd (o:= .tup (V.str d.wd::xs++wi)) Y2;have su:=(u4.trans u5).trans u6;refine⟨fl,ws,_,Z,Z,su _ _ wI,Q3,fin t6 _ su ?_⟩;rw[HK];exact .tup af (.cons (.str _) ((zU p0.fit p0.hx).append (Ow.kt (KT.same su))))
  .rintro σ H' ⟨x2,x3,ws,rfl,sm,Ik,tw⟩
   refine⟨_,Z,fl,ws,Z,.inl ⟨cF.of Ik,λtt E6=> ?_⟩⟩;refine q tt _ (sm.free E6) (sm.trans (ah.upd E6)) ?_;rw[vl,oV (by rw[JB,a6];exact aK _)] at tw;exact .tup af (tw.kt (KT.same (ah.upd E6)))
noncomputable def csD(b:Ds):U':= .tuple [.int (jS b:Nat),.int (jT b:Nat)]
theorem Kd{H:Hp}{v:V}{b:Ds}(h:iS H v (csD b)):∃t,v= .ref t/\H t=some (.tup [nI (jS b),nI (jT b)]):=by
 cases h with
 |tup e h=>
  cases h with
  |cons a r=>
   cases r with
   |cons c r=>
    cases r;cases a;cases c;exact⟨_,Z,e⟩
def WQ(n:Nat):Sp:=λvs H Q _=>∃H0 v t s,vs=[v]/\ah H0 H/\Dat H0 v (iN t (sL s))/\mD s/\eO s<n/\∀tt H',H tt=none->ah H H'->H' tt=some (.tup [nI (jS s),nI (jT s)])->Q (.ref tt) H'
theorem Fg(T:Txt K mg A)(n:Nat):aT P w K mg base dO (1+n) A.yH A.yj ["_law_body_here"] (WQ n):=by
 induction n with
 |zero=>exact fu (by rintro vs H Q E ⟨H0,v,t,s,_,_,_,_,h,_⟩;exact iH _ h)
 |succ n ih=>
 show aT P w K mg base dO ((1+n)+1) _ _ _ _;refine T.qk.F.ok cN (λvs H Q E h=> ?_) (λcB Ar outer s0 H vs Q E hr h=> ?_)
 .obtain⟨H0,v,t,s,rfl,_⟩:=h;rfl
 .obtain⟨H0,v,t,s,rfl,gW,hd,ok,dp,q⟩:=h;obtain⟨a,vs,rfl,ha,hA⟩:=iM hd;have vl:=t9 hA;refine⟨_,(aj (gf 1 cN.nd ae) (aj (gf 2 cN.nd ae) (aj (A5 (pq (pv 0)) (jE 3 cN.nd) (aj (Il 4 cN.nd ["_law_one"] 1 [] (Bm (cG (gi T) hr T.dP aC (aM (pv 3)) (hj:=by lia))) (λ_ _ _ _ _=>⟨(jE 0 (show(["_law_one"]:au).Nodup by decide+kernel)),wH,(cG ih hr T.qk aC (aM (pv 0)) (hj:=by lia))⟩)) (aq (bU (wn cK (cS aN (pv 3) ae) ai) (aq (Jg (i:=1) (j:=2) Z cN.nd Z Z (by decide) Z Z (ag (aL bw (pv 1) (cS aN (cS a8 (pv 4) ae) ae)) (aM (aL bw (aL bw (pv 2) (cS aN (cS a8 (pv 4) ae) ae)) ae))) (by rfl))) (aq (bU (wn cK (cS aN (pv 3) ae) ai) (aj (gf 1 cN.nd (aL bw (pv 1) (aL md (cS aN (pv 3) ae) (cS aN (cS a8 (pv 4) ae) ae)))) (aq (gf 2 cN.nd (aL bw (aL bw (pv 2) (aL md (cS aN (pv 3) ae) (aL bw (cS aN (cS a8 (pv 4) ae) ae) ae))) ae)))) (aq (bU (wn cK (cS aN (pv 3) ae) ai) (aj (gf 1 cN.nd (aL bw (aL bw (pv 1) (iR (kY Z) T.yy Boot.«max» (ag (cS aN (cS a8 (pv 4) ae) ae) (aM (cS aN (cS a8 (pv 4) ae) ae))))) ae)) (aq (gf 2 cN.nd (aL bw (aL bw (pv 2) (iR (kY Z) T.yy Boot.«max» (ag (cS aN (cS a8 (pv 4) ae) ae) (aM (cS aN (cS a8 (pv 4) ae) ae))))) ae)))) (aq (gf 2 cN.nd (aL bw (pv 2) ae))))))))))) (aq (aH (bt (ag (pv 1) (aM (pv 2))))))))),?_⟩;refine⟨_,Z,a,t,Z,LY (gW _ _ ha),?_⟩;refine ng (K:=K) (t:=t) (a:=a) (xs:=vs) (λj σ H' =>∃(x3 x4:Option V),σ=[some (.ref a),some (nI ((s.l.take j).map Az).sum),some (nI ((s.l.take j).map AE).sum),x3,x4]/\ah H H') ⟨_,_,Z,ah.refl H⟩ (by rintro j σ H' _ ⟨_,_,_,sm⟩;exact sm _ _ (gW _ _ ha)) ?_ ?_
  .rintro j x σ H' hx ⟨x3,x4,rfl,sm⟩
   obtain⟨d,ed,sZ⟩:=jN hA hx;have dm:=bE ed;have l6:=gE ok d dm;have LN:=gK d dm;obtain⟨b,ks,xs,C2,rfl,p0⟩:=fq sZ l6;have h4:=fP p0.f;rw[bu,gM] at h4;have Yu:=jj p0.hy;refine⟨_,Z,H0,_,d,Z,gW.trans sm,sZ,l6,λt1 ys H1 uo s1 hz hB=>⟨t1,Z,⟨_,bc.of hz⟩,?_⟩⟩;have bl:=jj hB;refine Js (λ_=>true) (λi=>(d.bs.l.map λp=>csD p.2).getD i .none) (se (bc.of hz)).g (aU (show ys.length<=4 by lia) (by decide)) ?_ λil H2 wi hil s2 yQ Ow O0=> ?_
   .intro i y H3 C1 C0 hi s3 hy c1 c0;obtain⟨pp,ep,hp⟩:=jQ hB hy;have pm:=bE ep;have y_:=hZ (kg l6) pp pm;have FE:=h8 pp pm;rw[<-lH] at FE
    have ec:(d.bs.l.map λp=>csD p.2).getD i .none=csD pp.2:=by
     rw[eA,bY,ep];rfl
    refine⟨(gA.refl _).own (by decide),_,Z,H0,y,pp.1,pp.2,Z,((gW.trans sm).trans s1).trans s3,hp,y_,by lia,λt2 H4 _ s4 td=>c1 Z _ H4 s4 ?_⟩;rw[ec];exact .tup td (.cons (.int _) (.cons (.int _) .nil))
   .rw[lZ.mpr (λ_ _=>rfl),bl,show d.bs.l.length=(d.bs.l.map λp=>csD p.2).length by rw[a6],wx] at Ow;have Lm:=(sm.trans s1).trans s2;have uP:H2 b=some (.tup (.str d.wd::(xs++C2))):=Lm _ _ (gW _ _ p0.e);have hx0:=p0.hx;have tw:=nN Az ed;have tl:=nN AE ed;generalize ((s.l.take j).map Az).sum=wA at tw ⊢;generalize ((s.l.take j).map AE).sum=lA at tl ⊢;rw[tw,tl]
    cases jaf l6 with
    |ei t' b' u c=>
     simp only[Dd.bs,Bs.l,cL,mS] at Ow
     cases Ow with
     |cons i1 r=>
      cases r with
      |cons i2 r=>
       cases r;obtain⟨q1,rfl,g1⟩:=Kd i1;obtain⟨q2,rfl,g2⟩:=Kd i2;refine⟨_,Z,b,_,0,_,Z,Z,bc.of uP,gU _ _,Z,_,Z,dG (dZ (show("either" :Str)≠ "frame" by decide+kernel)) ⟨_,Z,b,_,0,_,Z,Z,bc.of uP,gU _ _,Z,_,Z,dG (dZ (show("either" :Str)≠ "turns" by decide+kernel)) ⟨_,Z,b,_,0,_,Z,Z,bc.of uP,gU _ _,Z,_,Z,XV ?_⟩⟩⟩;have mx:∀x y:Nat,((max x (max y 0):Nat):Int)=if(y:Int)>(x:Int) then(y:Int) else(x:Int):=λx y=>by split<;>lia
       refine⟨_,Z,_,Z,il,_,0,_,Z,Z,cF.of yQ,Z,q1,_,0,_,Z,Z,bc.of g1,Z,_,Z,il,_,1,_,Z,Z,cF.of yQ,Z,q2,_,0,_,Z,Z,bc.of g2,Z,_,_,Z,_,_,Z,Z,_,1,Z,Z,?_⟩;refine⟨_,Z,_,Z,il,_,0,_,Z,Z,cF.of yQ,Z,q1,_,1,_,Z,Z,bc.of g1,Z,_,Z,il,_,1,_,Z,Z,cF.of yQ,Z,q2,_,1,_,Z,Z,bc.of g2,Z,_,_,Z,_,_,Z,Z,_,1,Z,Z,some (.ref b),some (.ref il),?_,Lm⟩;rw[Az,AE,aB Z,aB Z,ua,ua,ua,uh,uh,uh]
       have z1:nI (wA+(1+pN [jS b',jS c]))= .int ((wA:Int)+(if((jS c:Nat):Int)>((jS b' :Nat):Int) then((jS c:Nat):Int) else((jS b' :Nat):Int))+1):=by
        rw[<-mx];show V.int ((wA+(1+max (jS b') (max (jS c) 0)):Nat):Int)=_
        congr 1
        lia
       have z2:nI (lA+(1+pN [jT b',jT c]))= .int ((lA:Int)+(if((jT c:Nat):Int)>((jT b' :Nat):Int) then((jT c:Nat):Int) else((jT b' :Nat):Int))+1):=by
        rw[<-mx];show V.int ((lA+(1+max (jT b') (max (jT c) 0)):Nat):Int)=_
        congr 1
        lia
       rw[z1,z2];rfl
    |tu l m n' t' b' hl hg m1 m3 n0 n4=>
     simp only[Dd.bs,Bs.l,cL,mS] at Ow;obtain⟨x1,x2,rfl⟩:=Ql hx0
     cases Ow with
     |cons i1 r=>
      cases r;obtain⟨q1,rfl,g1⟩:=Kd i1;refine⟨_,Z,b,_,0,_,Z,Z,bc.of uP,gU _ _,Z,_,Z,dG (dZ (show("turns" :Str)≠ "frame" by decide+kernel)) ⟨_,Z,b,_,0,_,Z,Z,bc.of uP,gU _ _,Z,_,Z,XV ?_⟩⟩;refine⟨_,Z,_,Z,b,_,3,_,Z,Z,bc.of uP,bb (j:=3) Z,_,Z,il,_,0,_,Z,Z,cF.of yQ,Z,q1,_,0,_,Z,Z,bc.of g1,Z,n',_,Z,Z,.inl ⟨by lia,by lia⟩,_,_,Z,Z,?_⟩;refine⟨_,Z,_,Z,b,_,3,_,Z,Z,bc.of uP,bb (j:=3) Z,_,Z,il,_,0,_,Z,Z,cF.of yQ,Z,q1,_,1,_,Z,Z,bc.of g1,Z,_,1,Z,Z,n',_,Z,Z,.inl ⟨by lia,by lia⟩,_,_,Z,Z,_,1,Z,Z,some (.ref b),some (.ref il),?_,Lm⟩;rw[Az,AE,ax (by decide+kernel),aB Z,ax (by decide+kernel),aB Z,ua,ua,uh,uh]
      have z1:nI (wA+X7 [.str l,.int m,.int n']*[jS b'].headD 0)= .int ((wA:Int)+n' *((jS b' :Nat):Int)):=by
       show V.int ((wA+n'.toNat*jS b' :Nat):Int)=_;rw[rT,zG,zP n0]
      have z2:nI (lA+(X7 [.str l,.int m,.int n']*(1+[jT b'].headD 0)+1))= .int ((lA:Int)+n' *(((jT b' :Nat):Int)+1)+1):=by
       show V.int ((lA+(n'.toNat*(1+jT b')+1):Nat):Int)=_;rw[rT,rT,zG,zP n0,rT,Int.add_comm ((1:Nat):Int),<-Int.add_assoc];rfl
      rw[z1,z2];rfl
    |fr l t' b' hl hg=>
     simp only[Dd.bs,Bs.l,cL,mS] at Ow
     cases Ow with
     |cons i1 r=>
      cases r;obtain⟨q1,rfl,g1⟩:=Kd i1;refine⟨_,Z,b,_,0,_,Z,Z,bc.of uP,gU _ _,Z,_,Z,XV ?_⟩;refine⟨_,Z,_,Z,il,_,0,_,Z,Z,cF.of yQ,Z,q1,_,0,_,Z,Z,bc.of g1,Z,_,_,Z,Z,_,Z,_,Z,il,_,0,_,Z,Z,cF.of yQ,Z,q1,_,1,_,Z,Z,bc.of g1,Z,_,_,Z,Z,_,2,Z,Z,_,_,Z,some (.ref b),some (.ref il),?_,Lm⟩;rw[Az,AE,ax (by decide+kernel),ax (by decide+kernel),ax (by decide+kernel),ax (by decide+kernel),aB Z,ua,ua,uh,uh]
      have z2:nI (lA+(1+[jT b'].headD 0+1))= .int ((lA:Int)+((jT b' :Nat):Int)+2):=by
       show V.int ((lA+(1+jT b' +1):Nat):Int)=_
       congr 1
       lia
      have z1:nI (wA+[jS b'].sum)= .int ((wA:Int)+((jS b' :Nat):Int)):=by
       show V.int ((wA+(jS b' +0):Nat):Int)=_
       congr 1
      rw[z1,z2];rfl
    |sm w ks ps f h n1 n2 n3=>
     refine⟨_,Z,b,_,0,_,Z,Z,bc.of uP,gU _ _,Z,_,Z,dG (dZ n3) ⟨_,Z,b,_,0,_,Z,Z,bc.of uP,gU _ _,Z,_,Z,dG (dZ n2) ⟨_,Z,b,_,0,_,Z,Z,bc.of uP,gU _ _,Z,_,Z,dG (dZ n1) ?_⟩⟩⟩;refine⟨_,Z,_,1,Z,Z,some (.ref b),some (.ref il),?_,Lm⟩;rw[Az,AE,ax n1,ax n2,ax n1,ax n2,ax n3,ua];rfl
  .rintro σ H' ⟨x3,x4,rfl,sm⟩
   refine⟨_,Z,_,Z,hV,λtt E6=>q tt _ (sm.free E6) (sm.trans (ah.upd E6)) ?_⟩;rw[af,vl,gg,<-Hw,<-IS]
abbrev LR:=(Dd×au)×Nat
mutual
noncomputable def Hd:Dd->au->Nat->List LR
 | .mk w ps bs,ar,k=>((.mk w ps bs,ar),k)::HJ bs (oA (.mk w ps bs) ar) (k+1)
noncomputable def wb:Ds->au->Nat->List LR
 | .nil,_,_=>[]
 | .cons d r,ar,k=>Hd d ar k++wb r ar k
noncomputable def HJ:Bs->au->Nat->List LR
 | .nil,_,_=>[]
 | .cons _ b r,ar,k=>wb b ar k++HJ r ar k
end
theorem IZ(ar:au)(k:Nat):∀s:Ds,wb s ar k=s.l.flatMap λd=>Hd d ar k
 | .nil=>by rw[wb];rfl
 | .cons d r=>by rw[wb,IZ ar k r];rfl
theorem Nb(ar:au)(k:Nat):∀b:Bs,HJ b ar k=b.l.flatMap λp=>wb p.2 ar k
 | .nil=>by rw[HJ];rfl
 | .cons t b r=>by rw[HJ,Nb ar k r];rfl
theorem OZ(d:Dd)(ar:au)(k:Nat):Hd d ar k=((d,ar),k)::d.bs.l.flatMap λp=>wb p.2 (oA d ar) (k+1):=by
 cases d with
 |mk w ps bs=>rw[Hd,Nb];rfl
mutual
theorem Fl:∀(d:Dd) (ar:au) (k:Nat),(Hd d ar k).length=1+jM d
 | .mk w ps bs,ar,k=>by rw[Hd,bB,J3 bs,jM];lia
theorem mM:∀(s:Ds) (ar:au) (k:Nat),(wb s ar k).length=d_ s
 | .nil,ar,k=>by rw[wb,d_];rfl
 | .cons d r,ar,k=>by rw[wb,bu,Fl d,mM r,d_]
theorem J3:∀(b:Bs) (ar:au) (k:Nat),(HJ b ar k).length=mT b
 | .nil,ar,k=>by rw[HJ,mT];rfl
 | .cons t b r,ar,k=>by rw[HJ,bu,mM b,J3 r,mT]
end
def Vn(N:S'->Prop)(H0 H:Hp)(v:V)(r:LR):Prop:=∃t x u,v= .ref t/\H t=some (.tup [x,.ref u,nI r.2])/\Dat H0 x (dD r.1.1)/\N u/\H u=some (.lst (r.1.2.map V.str))
structure gY(N:S'->Prop)(H0 H:Hp)(zs:ak)(rs:List LR):Prop where
 len:zs.length=rs.length
 at_:∀(i:Nat) v,zs[i]? =some v->∃r,rs[i]? =some r/\Vn N H0 H v r
theorem gY.same{N:S'->Prop}{H0 H H' :Hp}{zs:ak}{rs:List LR}(h:gY N H0 H zs rs)(s:ah H H'):gY N H0 H' zs rs:=⟨h.len,λi v e=>by
 obtain⟨r,e1,t,x,u,f1,f2,f3,f4,f5⟩:=h.at_ i v e;exact⟨r,e1,t,x,u,f1,s _ _ f2,f3,f4,s _ _ f5⟩⟩
theorem gY.upd{N:S'->Prop}{H0 H:Hp}{zs ws:ak}{rs:List LR}{fl:S'}{o:HO}(h:gY N H0 H zs rs)(hn:¬N fl)(hf:H fl=some (.lst ws)):gY N H0 (upd H fl o) zs rs:=⟨h.len,λi v e=>by
 obtain⟨r,e1,t,x,u,f1,f2,f3,f4,f5⟩:=h.at_ i v e;refine⟨r,e1,t,x,u,f1,?_,f3,f4,?_⟩
 .rw[az (dB f2 hf (λz=>nomatch z))];exact f2
 .rw[az (λz:u=fl=>hn (z▸f4))];exact f5⟩
theorem gY.imp{N N' :S'->Prop}{H0 H:Hp}{zs:ak}{rs:List LR}(h:gY N H0 H zs rs)(i:∀c,N c->N' c):gY N' H0 H zs rs:=⟨h.len,λj v e=>by
 obtain⟨r,e1,t,x,u,f1,f2,f3,f4,f5⟩:=h.at_ j v e;exact⟨r,e1,t,x,u,f1,f2,f3,i u f4,f5⟩⟩
theorem gY.nil{N:S'->Prop}{H0 H:Hp}:gY N H0 H [] []:=⟨Z,λi v e=>by cases e⟩
theorem gY.app{N:S'->Prop}{H0 H:Hp}{zs ws:ak}{rs qs:List LR}(h:gY N H0 H zs rs)(g:gY N H0 H ws qs):gY N H0 H (zs++ws) (rs++qs):=⟨by rw[bu,bu,h.len,g.len],λi v e=>by
 have hl:=h.len;by_cases hi:i<zs.length
 .rw[iy hi] at e;rw[iy (by lia)];exact h.at_ i v e
 .rw[kr (by lia)] at e;rw[kr (by lia),<-hl];exact g.at_ _ v e⟩
theorem gY.one{N:S'->Prop}{H0 H:Hp}{v:V}{r:LR}(h:Vn N H0 H v r):gY N H0 H [v] [r]:=⟨Z,λi w e=>by
 cases i with
 |zero=>cases e;exact⟨r,Z,h⟩
 |succ i=>cases e⟩
theorem Cw(w:Str):IT (.str w) [.str "frame",.str "turns"]=dW w:=by
 have:=nY w ["frame","turns"];rw[show(["frame","turns"]:au).map V.str=[V.str "frame",.str "turns"] from Z] at this;rw[this];unfold dW;rw[mU];simp
def LL(n:Nat):Sp:=λvs H Q _=>∃H0 v t s u ar k,vs=[v,.ref u,nI k]/\ah H0 H/\Dat H0 v (iN t (sL s))/\mD s/\eO s<n/\H u=some (.lst (ar.map V.str))/\d_ s<=1000/\ar.length+eO s<1000/\
 ∀l zs H',H l=none->ah H H'->H' l=some (.lst zs)->gY (λc=>c=u\/(H c=none/\c≠l)) H0 H' zs (wb s ar k)->Q (.ref l) H'
theorem qu(T:Txt K mg A)(n:Nat):aT P w K mg base dO (1+n) A.tX A.tS ["_law_body_here","_law_around","_law_down"] (LL n):=by
 induction n with
 |zero=>exact fu (by rintro vs H Q E ⟨H0,v,t,s,u,ar,k,_,_,_,_,h,_⟩;exact iH _ h)
 |succ n ih=>
 show aT P w K mg base dO ((1+n)+1) _ _ _ _;refine T.jK.F.ok gp (λvs H Q E h=> ?_) (λcB Ar outer s0 H vs Q E hr h=> ?_)
 .obtain⟨H0,v,t,s,u,ar,k,rfl,_⟩:=h;rfl
 .obtain⟨H0,v,t,s,u,ar,k,rfl,Lp,hd,ok,dp,hu,hmn,Q6,q⟩:=h;obtain⟨a,vs,rfl,ha,hA⟩:=iM hd;have L4:(1000:Nat)<=sizeLine:=by decide
  refine⟨_,(aj (gf 3 gp.nd (bH dY)) (aj (A5 (pq (pv 0)) (jE 4 gp.nd) (aj (bZ (lR gT D' F' dw (pv 3) (aM (bt (ag (pv 4) (ag (pv 1) (aM (pv 2)))))))) (aj (gf 5 gp.nd (qV (wn k7 (cS aN (pv 4) ae) (bt (ag ai (aM ai)))) (aL fH (bH (aM (cS aN (pv 4) ae))) (pv 1)) (pv 1))) (aq (A5 (Bm (cG (gi T) hr T.dP aC (aM (pv 4)) (hj:=by lia))) (jE 6 gp.nd) (aq (bZ (lR gT zR type_list_extend xA (pv 3) (aM (cG ih hr T.jK aC (ag (pv 6) (ag (pv 5) (aM (aL bw (pv 2) ae)))) (hj:=by lia))))))))))) (aq (aH (pv 3))))),?_⟩;refine⟨nq,λfl pd=>⟨_,Z,a,t,Z,LY (fh pd (ah.refl H) _ _ (Lp _ _ ha)),?_⟩⟩
  have nfl:¬(fl=u\/(H fl=none/\fl≠fl)):=by
   rintro (z|⟨_,z⟩)
   .rw[z,hu] at pd;cases pd
   .exact z rfl
  refine ng (K:=K) (t:=t) (a:=a) (xs:=vs) (λi σ H' =>∃(x4 x5 x6:Option V) (zs:ak),σ=[some (.ref a),some (.ref u),some (nI k),some (.ref fl),x4,x5,x6]/\ah H H'/\H' fl=some (.lst zs)/\gY (λc=>c=u\/(H c=none/\c≠fl)) H0 H' zs ((s.l.take i).flatMap λd=>Hd d ar k)) ⟨_,_,_,[],Z,fh pd (ah.refl H),af,.nil⟩ (by rintro i σ H' _ ⟨_,_,_,_,_,sm,_⟩;exact sm _ _ (Lp _ _ ha)) ?_ ?_
  .rintro i x σ H' hx ⟨x4,x5,x6,zs,rfl,sm,m7,R⟩
   obtain⟨d,ed,sZ⟩:=jN hA hx;have dm:=bE ed;have l6:=gE ok d dm;have LN:=gK d dm;have Qh:=jG d dm;have tl:=kM (λd=>Hd d ar k) s.l (i+1);rw[<-IZ,mM,iz (λd=>Hd d ar k) ed,bu,Fl,<-R.len] at tl;obtain⟨b,ks,xs,C2,rfl,p0⟩:=fq sZ l6;refine⟨_,Z,JD m7,_,Z,_,Z,_,Z,FN,λt1 uo=>⟨fl,zs,.ref t1,Z,Z,(ah.upd uo) _ _ m7,by lia,?_⟩⟩;have abe :=(ah.upd (o:= .tup [V.ref b,.ref u,nI k]) uo) _ _ m7;have s1:ah H (upd (upd H' t1 (.tup [.ref b,.ref u,nI k])) fl (.lst (zs++[.ref t1]))):=fh pd (sm.trans (ah.upd uo));have wI:upd (upd H' t1 (.tup [.ref b,.ref u,nI k])) fl (.lst (zs++[.ref t1])) fl=some (.lst (zs++[.ref t1])):=af;have row:Vn (λc=>c=u\/(H c=none/\c≠fl)) H0 (upd H' t1 (.tup [.ref b,.ref u,nI k])) (.ref t1) ((d,ar),k):=⟨t1,.ref b,u,Z,af,sZ,.inl Z,ah.upd uo _ _ (sm _ _ hu)⟩
   have R2:gY (λc=>c=u\/(H c=none/\c≠fl)) H0 (upd (upd H' t1 (.tup [.ref b,.ref u,nI k])) fl (.lst (zs++[.ref t1]))) (zs++[.ref t1]) (((s.l.take i).flatMap λd=>Hd d ar k)++[((d,ar),k)]):=
    ((R.same (ah.upd uo)).app (.one row)).upd nfl abe
   generalize upd (upd H' t1 (.tup [.ref b,.ref u,nI k])) fl (.lst (zs++[.ref t1]))=H2 at s1 wI R2 ⊢;have p:=p0.same (Lp.trans s1)
   have hil:(oA d ar).length<=ar.length+1:=by
    unfold oA
    split
    .exact aK _
    .exact vD _
   refine⟨_,Z,b,_,0,_,Z,Z,bc.of p.e,gU _ _,hV,λt2 wO=> ?_⟩;have u2:=ah.upd (o:= .tup [V.str "frame",.str "turns"]) wO;refine⟨t2,_,Z,.inr (bc.of af),Z,Z,_,Z,?_⟩;show if IT (V.str d.wd) [.str "frame",.str "turns"]=true then _ else _
   rw[Cw];generalize upd H2 t2 (.tup [V.str "frame",.str "turns"])=Hb at u2 ⊢;apply jar (c:=dW d.wd) (G:=λu' H3=>ah H2 H3/\H3 u' =some (.lst ((oA d ar).map V.str))/\(u' =u\/(H u' =none/\u'≠fl)))
   .intro hb k;obtain⟨QK,Dv⟩:=p0.jd hb;have pe:=p.e;rw[Dv] at pe;refine⟨_,Z,b,_,1,_,Z,Z,bc.of (u2 _ _ pe),bb (j:=1) Z,yZ,λt3 qC=>⟨_,Z,t3,u,_,_,Z,Z,af,ah.upd qC _ _ (u2 _ _ (s1 _ _ hu)),?_,λu' Ke=> ?_⟩⟩
    .rw[a6];show 1+ar.length<=_
     lia
    have s3:=(u2.trans (ah.upd (o:= .lst [V.str (jd d)]) qC)).trans (ah.upd (o:= .lst ([V.str (jd d)]++ar.map V.str)) Ke)
    have hN:u' =u\/(H u' =none/\u'≠fl):=by
     have z:=(u2.trans (ah.upd (o:= .lst [V.str (jd d)]) qC)).free Ke;exact .inr ⟨s1.free z,λz' =>by rw[z',wI] at z;cases z⟩
    have Pe:upd (upd Hb t3 (.lst [V.str (jd d)])) u' (.lst ([V.str (jd d)]++ar.map V.str)) u' =some (.lst ((oA d ar).map V.str)):=by
     rw[af];unfold oA;rw[hb];rfl
    generalize upd (upd Hb t3 (.lst [V.str (jd d)])) u' (.lst ([V.str (jd d)]++ar.map V.str))=H3 at s3 Pe ⊢;exact k u' H3 ⟨s3,Pe,hN⟩
   .intro hb k;refine⟨_,Z,k u Hb ⟨u2,?_,.inl Z⟩⟩;unfold oA;rw[hb];exact u2 _ _ (s1 _ _ hu)
   .rintro u' H3 ⟨s3,Pe,hN⟩
    refine⟨_,Z,H0,_,d,Z,(Lp.trans s1).trans s3,sZ,l6,λl ys H4 hl4 s4 hz hB=>⟨l,Z,⟨_,bc.of hz⟩,?_⟩⟩;have Jb:=s4 _ _ (s3 _ _ wI);have XZ:l≠fl:=(aA (s3 _ _ wI) hl4).symm;refine Eh (K:=K) (a:=l) (xs:=ys) (λj σ H5=>∃(x6:Option V) (He :ak),σ=[some (.ref a),some (.ref u),some (nI k),some (.ref fl),some (.ref b),some (.ref u'),x6]/\Kept fl H4 H5/\H5 fl=some (.lst He)/\gY (λc=>c=u\/(H c=none/\c≠fl)) H0 H5 He (((s.l.take i).flatMap λd=>Hd d ar k)++((d,ar),k)::(d.bs.l.take j).flatMap λp=>wb p.2 (oA d ar) (k+1))) ⟨x6,_,Z,Kept.refl _ _,Jb,R2.same (s3.trans s4)⟩ (by rintro i σ H' _ ⟨_,_,_,k,_⟩;exact bc.of (k _ _ XZ hz)) ?_ ?_
    .rintro j y σ H5 hy ⟨x6,He,rfl,k5,qA,R5⟩
     obtain⟨pp,ep,hp⟩:=jQ hB hy;have pm:=bE ep;have y_:=hZ (kg l6) pp pm;have FE:=h8 pp pm;have NK:=kS pp pm;rw[<-lH] at FE;rw[<-pS] at NK;have tl2:=kM (λp:Bool×Ds=>wb p.2 (oA d ar) (k+1)) d.bs.l (j+1);have ll:=Fl d ar k;rw[OZ,bB] at ll;rw[iz (λp:Bool×Ds=>wb p.2 (oA d ar) (k+1)) ep,bu,mM] at tl2;have r5l:=R5.len;rw[bu,bB,<-R.len] at r5l;have SH5:ah H H5:=λc o e=>k5 c o (aA e pd) (s4 _ _ (s3 _ _ (s1 _ _ e)));have hu5:H5 u' =some (.lst ((oA d ar).map V.str)):=k5 _ _ (λz=>nfl (z▸hN)) (s4 _ _ Pe);refine⟨_,Z,JD qA,_,Z,_,Z,_,Z,_,1,Z,Z,H0,y,pp.1,pp.2,u',oA d ar,k+1,Z,Lp.trans SH5,hp,y_,by lia,hu5,by lia,by lia,λl2 X5 H6 n5 s6 hz6 R6=>⟨fl,l2,He,X5,Z,Z,s6 _ _ qA,hz6,?_,some y,He ++X5,Z,?_,af,?_⟩⟩
     .have:=R6.len;rw[mM] at this
      lia
     .exact λc o hc e=>by
       rw[az hc];exact s6 _ _ (k5 c o hc e)
     .rw[iz (λp:Bool×Ds=>wb p.2 (oA d ar) (k+1)) ep,<-zN,<-EC];refine((R5.same s6).app (R6.imp λc hc=> ?_)).upd nfl (s6 _ _ qA);rcases hc with rfl|⟨z1,z2⟩
      .exact hN
      .exact .inr ⟨SH5.free z1,λz=>by rw[z,qA] at z1;cases z1⟩
    .rintro σ H5 ⟨x6,He,rfl,k5,qA,R5⟩
     refine⟨_,_,_,He,Z,λc o e=>k5 c o (aA e pd) (s4 _ _ (s3 _ _ (s1 _ _ e))),qA,?_⟩;rw[jj hB,gg,<-OZ,<-iz (λd=>Hd d ar k) ed] at R5;exact R5
  .rintro σ H' ⟨x4,x5,x6,zs,rfl,sm,m7,R⟩
   refine⟨_,Z,q fl zs H' pd sm m7 ?_⟩;rw[t9 hA,gg,<-IZ] at R;exact R
theorem fA{n:Nat}(h:n<=100000):n<sizeLine:=iX h (by decide)
def Lt(x:Str):Prop:=∀c∈x.cps.toList,dC c=true
theorem Lt.app{x y:Str}(h:Lt x)(h' :Lt y):Lt (x++y):=by
 intro c hc;rcases mem_cps_append.mp hc with hc|hc
 .exact h c hc
 .exact h' c hc
theorem Lt.slice{x:Str}(h:Lt x)(l u:Option Int):Lt (Txt.slice x l u):=by
 intro c hc;unfold Txt.slice at hc
 split at hc
 .exact h c hc
 .rw[ES] at hc;obtain⟨i,_,hi⟩:=vO.mp hc;exact h c (Array.mem_toList_iff.mpr (Array.mem_of_getElem? hi))
theorem Lt.one{c:Nat}(h:dC c=true):Lt ⟨#[c]⟩:=by
 intro d hd;have hd:d∈[c]:=hd;rw[gm.mp hd];exact h
theorem Lt.name{x:Str}(h:Lt x)(h1:1<=x.length)(h6:x.length<=6):cv x=true:=by
 unfold cv;rw[aS h1,aS h6,a7.mpr h];rfl
theorem iJ{x:Str}{j:Nat}(h:j<=x.length):(Txt.slice x none (some (j:Int))).length=j:=by
 have hl:x.cps.toList.length=x.length:=rfl;rw[rF.mp (slice_closes_toL (x:=x) (j:=(j:Int)) (by lia) (by lia))];show(((x.cps.toList.drop (0:Int).toNat).take ((j:Int) - 0).toNat).toArray).size=j;rw[bJ,lM,og];have e1:((j:Int) - 0).toNat=j:=by lia
 have e2:(0:Int).toNat=0:=rfl;rw[e1,e2]
 lia
theorem pW{x:Str}{j:Nat}(h:j<=x.length):(Txt.slice x (some (j:Int)) none).length=x.length - j:=by
 have hl:x.cps.toList.length=x.length:=rfl;rw[slice_from_eq (x:=x) (i:=(j:Int)) (b:=x.length) (by lia) (by lia) Z];show(((x.cps.toList.drop (j:Int).toNat).take ((x.length:Int) - (j:Int)).toNat).toArray).size=x.length - j;rw[bJ,lM,og];have e1:((x.length:Int) - (j:Int)).toNat=x.length - j:=by lia
 have e2:(j:Int).toNat=j:=by lia
 rw[e1,e2]
 lia
theorem rO{p:Str->Prop}:∀{ys:ak},(∀v∈ys,∃x,v= .str x/\p x)->∃xs:au,ys=xs.map V.str/\∀x∈xs,p x
 |[],_=>⟨[],Z,λx hx=>by cases hx⟩
 |v::r,h=>by
  obtain⟨x,rfl,hx⟩:=h v c5;obtain⟨xs,rfl,Dv⟩:=rO (ys:=r) λu hu=>h u (cw _ hu)
  exact⟨x::xs,Z,λy hy=>by
   rcases aP.mp hy with rfl|hy
   .exact hx
   .exact Dv y hy⟩
theorem rZ{H:Hp}{Q:VK}{i:Int}(h0:0<=i)(h1:i<26)(q:∀c,dC c=true->Q (.str ⟨#[c]⟩) H):Pq (.str "abcdefghijklmnopqrstuvwxyz") (.int i) H Q:=by
 obtain⟨j,rfl⟩:∃j:Nat,i=j:=⟨i.toNat,by lia⟩;have e:("abcdefghijklmnopqrstuvwxyz" :Str).cps.toList=(List.range 26).map (· +97):=by decide+kernel
 have hj:j<26:=by lia
 refine⟨_,_,j+97,Z,Z,by decide+kernel,?_,q _ ?_⟩
 .refine bb ?_;rw[e,bY,qd hj];rfl
 .unfold dC;rw[aS (by lia),aS (by lia)];rfl
section
variable{X:Cx}{c:V'}{a b:List Stmt}{tc:TT}{t u:TS}{pos:Pos}
theorem _root_.L2.cf:DK X [] Oj:=⟨bf⟩
theorem _root_.L2.eL(hc:PT X c tc)(ha:DK X a t)(hb:DK X b u):Wg X (.If c a b pos) (XR tc t u):=⟨bU hc ha.h hb.h⟩
end
theorem rj{lo:Int}{n k m k0:Nat}{b:S'}{js:List Nat}{g:TG}{te:TE}{σ:L2.St}{H:Hp}{Q:VK}(R:V->Prop)(hlen:n<=sizeLine)(B:dg H b k0)
 (iF:∀(i:Nat) (H' :Hp) (C1:V->Hp->Prop),i<n->Kept b H H'->dg H' b (k0+i*m)->(∀v gX,R v->dg gX b (k0+i*m+m)->Kept b H' gX->C1 v gX)->
  g (.int (lo+i)) (yW k js σ) H' λmY H2=>gA (yW k js σ) mY/\te mY H2 C1)
 (hq:∀p H' ys,H p=none->Kept b H H'->dg H' b (k0+n*m)->H' p=some (.lst ys)->ys.length=n->(∀v∈ys,R v)->Q (.ref p) H'):
 nX (Ss lo n) k js g abj te σ H Q:=by
 intro p hp;have hpb:p≠b:=B.ne hp
 refine⟨λi m' ys H' =>m' =n - i/\i<=n/\ys.length=i/\H' p=some (.lst ys)/\Kept b H H'/\dg H' b (k0+i*m)/\∀v∈ys,R v,
  ⟨n,Z,cH _,Z,af,(ah.upd hp).kept,by rw[Nat.zero_mul];exact B.same (ah.upd hp),λv e=>by cases e⟩,?_⟩
 rintro i m' ys H' ⟨rfl,hi,B_,hl,hs,hB,hE⟩
 refine⟨hl,?_⟩;by_cases kG:i<n
 .refine .inr ⟨kG,by lia,λx gX hy=> ?_⟩;obtain⟨rfl,rfl⟩:=hy;refine iF i _ _ kG hs hB λv H4 r4 B4 s4=> ?_;have Hf:H4 p=some (.lst ys):=s4 _ _ hpb hl;refine⟨Hf,n - (i+1),by lia,Z,kG,by simp[B_],af,λc o hc e=> ?_,?_,λv' e=> ?_⟩
  .rw[az (aA e hp)];exact s4 _ _ hc (hs _ _ hc e)
  .obtain⟨x,y,z,hb,r⟩:=B4;refine⟨x,y,z,?_,?_⟩
   .rw[az (λz=>hpb z.symm)];exact hb
   .rw[show k0+(i+1)*m=k0+i*m+m by rw[Nat.succ_mul];lia];exact r
  .rcases eB.mp e with e|e
   .exact hE _ e
   .rw[gm.mp e];exact r4
 .have e:i=n:=by lia
  subst e;exact .inl ⟨aK _,hq p H' ys hp hs hB hl B_ hE⟩
theorem qq(x y:Str):(x++y).length=x.length+y.length:=by
 show(x.cps++y.cps).size=x.cps.size+y.cps.size;exact Array.size_append
theorem aeq(c:Nat):Txt.mul ⟨#[c]⟩ 6=⟨#[c,c,c,c,c,c]⟩:=rfl
theorem Lt.six{c:Nat}(h:dC c=true):Lt ⟨#[c,c,c,c,c,c]⟩:=by
 intro d hd;have hd:d∈[c,c,c,c,c,c]:=hd;simp only[aP,cO,cR,or_self] at hd;rw[hd];exact h
theorem Lt.join{ts:au}(h' :∀t∈ts,Lt t):Lt (Str.join "" ts):=by
 intro c hc;rcases(mem_join "" c ts).mp hc with⟨t,ht,hc⟩|⟨_,hc⟩
 .exact h' t ht c hc
 .have:c∈([]:List Nat):=hc;cases this
noncomputable def AJ:ak:=[.str "in",.str "or",.str "end",.str "make",.str "frame",.str "ground",.str "none",.str "turns",.str "put",.str "hand",.str "room"]
theorem MH:∀x∈AJ,∃s,x= .str s/\cv s=true:=by
 intro x hx;simp only[AJ,aP,cO,cR] at hx
 rcases hx with rfl|rfl|rfl|rfl|rfl|rfl|rfl|rfl|rfl|rfl|rfl<;>exact⟨_,rfl,by decide+kernel⟩
def Oy:Sp:=λvs H Q _=>∃(b:S') (n k:Nat),vs=[.ref b,.int n]/\dg H b k/\k+12<=100000/\n<=12/\∀l (xs:au) H',H l=none->xs.length=n->(∀x∈xs,cv x=true)->H' l=some (.lst (xs.map V.str))->dg H' b (k+12)->Kept b H H'->Q (.ref l) H'
theorem tP(T:Txt K mg A):aT P w K mg base dO 2 A.vI A.vd ["_law_box_here","_law_many"] Oy:=by
 refine T.oK.F.okN dj ?_
 rintro cB Ar outer s H vs Q E hr ⟨b,n,k,rfl,B,hk,hn,q⟩
 have hu:=YO hr;refine⟨_,(aD ⟨(gf 2 dj.nd ai)⟩ (aD ⟨(gf 3 dj.nd (cG (aE T) hr T.aF aC (ag (pv 0) (aM ae))))⟩ (aD ⟨(gf 4 dj.nd (cG (aE T) hr T.aF aC (ag (pv 0) (aM ae))))⟩ (aD ⟨(gf 5 dj.nd (cS a8 (bH (ag ae (ag ae (ag ae (ag ae (ag ae (aM ae))))))) (cG (aE T) hr T.aF aC (ag (pv 0) (aM ae)))))⟩ (aD (eL (wn cK (pv 3) ae) (aD (bN (i:=6) dj.nd Z (Or.inr Z) (aI (gs (λ_ _=>rfl) ai (gs (λ_ _=>rfl) ai (gs (λ_ _=>rfl) ai (gs (λ_ _=>rfl) ai (gs (λ_ _=>rfl) ai (gs (λ_ _=>rfl) ai (gs (λ_ _=>rfl) ai (gs (λ_ _=>rfl) ai (gs (λ_ _=>rfl) ai (gs (λ_ _=>rfl) ai (gs (λ_ _=>rfl) ai ao)))))))))))) (by kernel_rfl) (Or.inl Z)) (bC ⟨(aH (Ls ["_law_k","_law_words","_law_first","_law_step"] 1 [6,4,5] (gJ Z T.kT (aM (pv 1))) (λ_ _ _ _ _=>⟨(jE 0 (show(["_law_k","_law_words","_law_first","_law_step"]:au).Nodup by decide+kernel)),wH,(cS (Nt (K:=K) Z) (pv 1) (aL jq (aL bw (pv 2) (aL md (aL jq (pv 3) ae) (pv 0))) ae))⟩)))⟩)) cf) (aD ⟨(gf 7 dj.nd (lR PySem.F.plainAttrs_str PySem.F.slot_str_join PySem.F.type_str_join Qe ai (aM (Ls ["_law_k","_law_letters","_law_box_here"] 1 [2,0] (gJ Z T.kT (aM (cG (aE T) hr T.aF aC (ag (pv 0) (aM ae))))) (λ_ _ _ _ _=>⟨(jE 0 (show(["_law_k","_law_letters","_law_box_here"]:au).Nodup by decide+kernel)),wH,(cS AK (pv 1) (cG (aE T) hr T.aF aC (ag (pv 2) (aM ae))))⟩)))))⟩ (aD ⟨(gf 8 dj.nd (cG (aE T) hr T.aF aC (ag (pv 0) (aM (aL bw (iR oM T.g7 Boot.«len» (aM (pv 7))) ae)))))⟩ (aD (eL (PW.pt (wT (wn cK (pv 3) ae) (xz (wn A0 (pv 1) ae)))) (aD ⟨(gf 9 dj.nd (dH Fj (aL um (pv 7) (aL HP (cS AK (pv 2) (pv 4)) ae)) bW (bQ ae)))⟩ (bC ⟨(aH (Ls ["_law_k","_law_whole_here","_law_first"] 1 [9,4] (gJ Z T.kT (aM (pv 1))) (λ_ _ _ _ _=>⟨(jE 0 (show(["_law_k","_law_whole_here","_law_first"]:au).Nodup by decide+kernel)),wH,(dH Fj (pv 1) bW (bQ (aL bw ae (aL jq (aL bw (pv 2) (pv 0)) ae))))⟩)))⟩)) cf) (bC ⟨(aH (Ls ["_law_k","_law_stem","_law_letters","_law_at","_law_first","_law_step"] 1 [7,2,8,4,5] (gJ Z T.kT (aM (pv 1))) (λ_ _ _ _ _=>⟨(jE 0 (show(["_law_k","_law_stem","_law_letters","_law_at","_law_first","_law_step"]:au).Nodup by decide+kernel)),wH,(aL um (aL um (dH Fj (pv 1) bW (bQ (pv 3))) (cS AK (pv 2) (aL jq (aL bw (pv 4) (aL md (pv 5) (pv 0))) ae))) (dH Fj (pv 1) (bQ (pv 3)) bW))⟩)))⟩))))))))),?_⟩;refine⟨_,Z,b,3,k,Z,B,by lia,by decide,by decide,λway H1 w0 w1 B1 O1=> ?_⟩;refine⟨_,Z,b,26,k+1,Z,B1,by lia,by decide,by decide,λfirst H2 f0 f1 B2 O2=> ?_⟩;refine⟨adb,λp hp=> ?_⟩;have s3:=ah.upd (o:= .lst [V.int 1,V.int 3,V.int 5,V.int 7,V.int 9,V.int 11]) hp;have e3:upd H2 p (.lst [V.int 1,V.int 3,V.int 5,V.int 7,V.int 9,V.int 11]) p=some (.lst [V.int 1,V.int 3,V.int 5,V.int 7,V.int 9,V.int 11]):=af;generalize upd H2 p (.lst [V.int 1,V.int 3,V.int 5,V.int 7,V.int 9,V.int 11])=H3 at s3 e3;have OK:p≠b:=B2.ne hp;refine⟨_,Z,b,6,k+2,Z,B2.same s3,by lia,by decide,by decide,λr H4 r0 r1 B4 O4=> ?_⟩;refine gR (λv=>∃i:Int,v= .int i/\0<=i/\i<=11) (O4.kept _ _ OK e3) r0 r1 ?_ λv hv=> ?_
 .intro x hx;simp only[aP,cO,cR] at hx
  rcases hx with rfl|rfl|rfl|rfl|rfl|rfl<;>exact⟨_,rfl,by decide,by decide⟩
 obtain⟨step,rfl,st0,st1⟩:=hv;have K4:Kept b H H4:=((O1.kept.trans O2.kept).trans s3.kept).trans O4.kept
 have fr:∀{H' :Hp} {c:S'} {k' :Nat},Kept b H H'->dg H' b k'->H' c=none->H c=none:=λ{H' c k'} K' B' hc=>by
  cases e:H c with
  |none=>rfl
  |some o=>rw[K' _ o (B'.ne hc) e] at hc;cases hc
 refine⟨_,Z,Z,_,Z,?_⟩;refine mG (λ_=> ?_) (λ_=> ?_)
 .refine⟨aak,λwl O0=> ?_⟩;have s5:=ah.upd (o:= .lst AJ) O0;have e5:upd H4 wl (.lst AJ) wl=some (.lst AJ):=af;have nwb:wl≠b:=B4.ne O0;refine⟨_,Z,_,Z,by lia,by lia,?_⟩;rw[ny];refine rj (m:=0) (k0:=k+3) (λv=>∃x,v= .str x/\cv x=true) (cT (fA (by lia))) (B4.same s5) ?_ ?_
  .intro i H' C1 hi K' B' c1;refine⟨(gA.refl _).own (by decide),_,Z,_,Z,_,Z,step,10,Z,Z,(show(0:Int)<10 by decide),_,Z,_,_,Z,Z,?_,first,_,Z,Z,_,11,Z,Z,(show(0:Int)<11 by decide),?_⟩
   .exact .inl ⟨by lia,by lia⟩
   .refine gR (λv=>∃x,v= .str x/\cv x=true) (K' _ _ nwb e5) (oj _ (by decide)) (sv _ (by decide)) MH λv hv=>c1 v H' hv (B'.mono (by lia)) (Kept.refl b H')
  .intro pl H' ys nA K' B' Lb B_ hR;obtain⟨xs,rfl,Dv⟩:=rO hR;rw[a6] at B_;exact q pl xs H' (fr K4 B4 (s5.free nA)) B_ Dv Lb (B'.mono (by lia)) (K4.trans (s5.kept.trans K'))
 .refine⟨Z,_,Z,b,6,k+3,Z,B4,by lia,by decide,by decide,λcnt H5 c0 c1 B5 O5=> ?_⟩;obtain⟨c,rfl⟩:∃c:Nat,cnt=c:=⟨cnt.toNat,by lia⟩;refine⟨_,Z,by lia,by lia,?_⟩;rw[ny];have K5:Kept b H H5:=K4.trans O5.kept;refine rj (m:=1) (k0:=k+4) (λv=>∃x:Str,v= .str x/\x.length=1/\Lt x) (cT (fA (by lia))) B5 ?_ ?_
  .intro i H' C1 hi K' B' q1;refine⟨(gA.refl _).own (by decide),_,Z,_,Z,b,26,_,Z,B',by lia,by decide,by decide,λr H6 r0 r1 B6 O6=> ?_⟩;exact rZ r0 r1 λch Ft=>q1 _ _ ⟨_,Z,Z,Lt.one Ft⟩ B6 O6.kept
  .intro pl H6 ys nA K6 B6 hp6 B_ hR;obtain⟨xs,rfl,hx⟩:=rO hR;rw[a6] at B_;have he:(Str.ofString "").length=0:=by decide+kernel
   have hj:Builtin.Str.tooLong (xs.toArray.foldl (λa p=>a+p.length+(Str.ofString "").length) 0)=false:=PySem.StrLaws.joinFits (B:=1) (λy hy=>oF (hx y hy).1) (by
    rw[he]
    lia)
   have hlen:(Txt.join (Str.ofString "") xs).length<=5:=by
    have h1:=PySem.StrLaws.join_length_le (Str.ofString "") xs;have h2:=PySem.StrLaws.sumLen_le xs (B:=1) (λy hy=>oF (hx y hy).1);rw[he] at h1;show(Builtin.Str.glued _ xs).length<=5;rw[PySem.StrLaws.glued_eq_join]
    lia
   have L6:Lt (Txt.join (Str.ofString "") xs):=by
    show Lt (Builtin.Str.glued _ xs);rw[PySem.StrLaws.glued_eq_join];exact Lt.join λt ht=>(hx t ht).2
   have K56:Kept b H H6:=K5.trans K6;refine⟨_,pl,xs,Z,Z,hp6,by unfold JoinOk;rw[hj];rfl,?_⟩;generalize Txt.join (Str.ofString "") xs=pH at hlen L6;have hL:sizeLine=16777216:=by decide
   refine⟨_,Z,_,Z,pH,Z,by lia,(pH.length:Int),1,Z,Z,b,_,k+4+c*1,Z,B6,by lia,by lia,by lia,λat_ H7 a0 a1 B7 O7=> ?_⟩;obtain⟨at_,rfl⟩:∃j:Nat,at_=j:=⟨at_.toNat,by lia⟩;have ha:at_<=pH.length:=by lia
   have K7:Kept b H H7:=K56.trans O7.kept;refine⟨_,Z,Z,_,Z,?_⟩;refine mG (λ_=> ?_) (λ_=> ?_)
   .refine⟨_,Z,_,7,Z,Z,_,Z,?_⟩;by_cases h7:n<7
    .rw[aS (show(n:Int)<7 by lia)];refine a9 ?_;refine⟨_,Z,_,Z,_,Z,rZ f0 f1 λch Ft=> ?_⟩;have hmul:MulOk ⟨#[ch]⟩ 6:=⟨by decide,λ_ _=>by show ¬((1:Int)>(2 ^ 63 - 1) / 6);decide,λ_ _=>by show Builtin.Str.tooLong (1*6)=false;decide+kernel⟩;refine⟨⟨#[ch]⟩,6,Z,Z,hmul,?_⟩;rw[aeq];have h6l:(⟨#[ch,ch,ch,ch,ch,ch]⟩:Str).length=6:=rfl;have O0:(pH++⟨#[ch,ch,ch,ch,ch,ch]⟩).length=pH.length+6:=qq _ _;refine⟨pH,_,Z,Z,by lia,?_⟩;have hwo:Lt (pH++⟨#[ch,ch,ch,ch,ch,ch]⟩):=L6.app (Lt.six Ft);generalize pH++⟨#[ch,ch,ch,ch,ch,ch]⟩=whole at O0 hwo;refine⟨6,Z,whole,Z,by lia,?_⟩;have X9:=iJ (x:=whole) (j:=6) (by lia);have hso:=hwo.slice none (some ((6:Nat):Int));have e6:((6:Nat):Int)=6:=rfl;rw[e6] at X9 hso;generalize Txt.slice whole none (some 6)=wh at X9 hso;refine⟨_,Z,_,Z,by lia,by lia,?_⟩;rw[ny];refine rj (m:=0) (k0:=k+4+c*1+1) (λv=>∃x,v= .str x/\cv x=true) (cT (fA (by lia))) B7 ?_ ?_
     .intro i H' C1 hi K' B' q1;refine⟨(gA.refl _).own (by decide),_,Z,_,Z,_,Z,first,_,Z,Z,_,6,Z,Z,(show(0:Int)<6 by decide),1,_,Z,Z,_,Z,wh,Z,by lia,?_⟩;obtain⟨j,hj⟩:∃j:Nat,1+(first+(0+(i:Int))) % 6=j:=⟨(1+(first+(0+(i:Int))) % 6).toNat,by lia⟩;rw[hj];exact q1 _ _ ⟨_,Z,(hso.slice none (some (j:Int))).name (by rw[iJ (by lia)];lia) (by rw[iJ (by lia)];lia)⟩ (B'.mono (by lia)) (Kept.refl b H')
     .intro pl H' ys nA K' B' Lb B_ hR;obtain⟨xs,rfl,Dv⟩:=rO hR;rw[a6] at B_;exact q pl xs H' (fr K7 B7 nA) B_ Dv Lb (B'.mono (by lia)) (K7.trans K')
    .rw[ba (show ¬(n:Int)<7 by lia)];refine bo ?_;refine⟨_,Z,_,Z,by lia,by lia,?_⟩;rw[ny];refine rj (m:=0) (k0:=k+4+c*1+1) (λv=>∃x,v= .str x/\cv x=true) (cT (fA (by lia))) B7 ?_ ?_
     .intro i H' C1 hi K' B' q1;have l1:=iJ ha;have l2:=pW ha;have o1:=L6.slice none (some (at_:Int));have o2:=L6.slice (some (at_:Int)) none;refine⟨(gA.refl _).own (by decide),_,Z,_,Z,_,Z,pH,Z,by lia,?_⟩;refine⟨_,Z,_,Z,_,Z,_,Z,step,_,Z,Z,.inl ⟨by lia,by lia⟩,first,_,Z,Z,_,26,Z,Z,(show(0:Int)<26 by decide),rZ (oj _ (by decide)) (sv _ (by decide)) λch Ft=> ?_⟩;have h1l:(⟨#[ch]⟩:Str).length=1:=rfl;have la:=qq (Txt.slice pH none (some (at_:Int))) ⟨#[ch]⟩;refine⟨_,_,Z,Z,by lia,_,Z,_,Z,_,Z,pH,Z,by lia,?_⟩;have lb:=qq (Txt.slice pH none (some (at_:Int))++⟨#[ch]⟩) (Txt.slice pH (some (at_:Int)) none);refine⟨_,_,Z,Z,by lia,?_⟩;exact q1 _ _ ⟨_,Z,((o1.app (Lt.one Ft)).app o2).name (by lia) (by lia)⟩ (B'.mono (by lia)) (Kept.refl b H')
     .intro pl H' ys nA K' B' Lb B_ hR;obtain⟨xs,rfl,Dv⟩:=rO hR;rw[a6] at B_;exact q pl xs H' (fr K7 B7 nA) B_ Dv Lb (B'.mono (by lia)) (K7.trans K')
   .refine bo ?_;refine⟨_,Z,_,Z,by lia,by lia,?_⟩;rw[ny];refine rj (m:=0) (k0:=k+4+c*1+1) (λv=>∃x,v= .str x/\cv x=true) (cT (fA (by lia))) B7 ?_ ?_
    .intro i H' C1 hi K' B' q1;have l1:=iJ ha;have l2:=pW ha;have o1:=L6.slice none (some (at_:Int));have o2:=L6.slice (some (at_:Int)) none;refine⟨(gA.refl _).own (by decide),_,Z,_,Z,_,Z,pH,Z,by lia,?_⟩;refine⟨_,Z,_,Z,_,Z,_,Z,step,_,Z,Z,.inl ⟨by lia,by lia⟩,first,_,Z,Z,_,26,Z,Z,(show(0:Int)<26 by decide),rZ (oj _ (by decide)) (sv _ (by decide)) λch Ft=> ?_⟩;have h1l:(⟨#[ch]⟩:Str).length=1:=rfl;have la:=qq (Txt.slice pH none (some (at_:Int))) ⟨#[ch]⟩;refine⟨_,_,Z,Z,by lia,_,Z,_,Z,_,Z,pH,Z,by lia,?_⟩;have lb:=qq (Txt.slice pH none (some (at_:Int))++⟨#[ch]⟩) (Txt.slice pH (some (at_:Int)) none);refine⟨_,_,Z,Z,by lia,?_⟩;exact q1 _ _ ⟨_,Z,((o1.app (Lt.one Ft)).app o2).name (by lia) (by lia)⟩ (B'.mono (by lia)) (Kept.refl b H')
    .intro pl H' ys nA K' B' Lb B_ hR;obtain⟨xs,rfl,Dv⟩:=rO hR;rw[a6] at B_;exact q pl xs H' (fr K7 B7 nA) B_ Dv Lb (B'.mono (by lia)) (K7.trans K')
theorem E_:∀a b:List Nat,pN (a++b)=max (pN a) (pN b)
 |[],b=>by
  show pN b=max 0 (pN b)
  lia
 |x::r,b=>by
  show max x (pN (r++b))=max (max x (pN r)) (pN b);rw[E_ r b]
  lia
noncomputable def dn(r:LR):Nat:=if r.1.1.bs.l.isEmpty=true then 0 else r.2+1
mutual
theorem adB:∀(d:Dd) (ar:au) (k:Nat),pN ((Hd d ar k).map dn)=if mF d=0 then 0 else k+mF d
 | .mk w ps bs,ar,k=>by
  have h:=aar bs (oA (.mk w ps bs) ar) (k+1);rw[Hd,cL,mF];show max (dn ((.mk w ps bs,ar),k)) (pN _)=_
  cases bs with
  |nil=>
   rw[HJ,nF];rfl
  |cons t b r=>
   have e:dn ((Dd.mk w ps (.cons t b r),ar),k)=k+1:=rfl;have p:1<=nF (.cons t b r):=by rw[nF];lia
   rw[e,h,ax (by lia)]
   lia
theorem XO:∀(s:Ds) (ar:au) (k:Nat),pN ((wb s ar k).map dn)=if eO s=0 then 0 else k+eO s
 | .nil,ar,k=>by rw[wb,eO];rfl
 | .cons d r,ar,k=>by
  rw[wb,i7,E_,adB d,XO r,eO]
  split<;>split<;>split<;>lia
theorem aar:∀(b:Bs) (ar:au) (k:Nat),max k (pN ((HJ b ar k).map dn))=k+(nF b - 1)
 | .nil,ar,k=>by
  rw[HJ,nF];show max k 0=k+(0 - 1)
  lia
 | .cons t b r,ar,k=>by
  have h:=aar r ar k;rw[HJ,i7,E_,XO b,nF]
  split<;>lia
end
noncomputable def gr(r:LR):Dd×au:=(r.1.1,r.1.2++[("ground" :Str)])
theorem WD(d:Dd)(ar:au):oA d (ar++[("ground" :Str)])=oA d ar++[("ground" :Str)]:=by
 unfold oA
 split<;>rfl
mutual
theorem adj:∀(d:Dd) (ar:au) (k:Nat),DF d (ar++[("ground" :Str)])=(Hd d ar k).map gr
 | .mk w ps bs,ar,k=>by
  rw[DF,Hd,cL,WD,Z6 bs _ (k+1)];rfl
theorem QN:∀(s:Ds) (ar:au) (k:Nat),pI s (ar++[("ground" :Str)])=(wb s ar k).map gr
 | .nil,ar,k=>by rw[pI,wb];rfl
 | .cons d r,ar,k=>by rw[pI,wb,i7,adj d ar k,QN r ar k]
theorem Z6:∀(b:Bs) (ar:au) (k:Nat),EW b (ar++[("ground" :Str)])=(HJ b ar k).map gr
 | .nil,ar,k=>by rw[EW,HJ];rfl
 | .cons t b r,ar,k=>by rw[EW,HJ,i7,QN b ar k,Z6 r ar k]
end
theorem aa7{s:Ds}(ok:mD s)(k:Nat):∀r∈wb s [] k,l8 r.1.1:=λr hr=>by
 have:=w8 s ([]++[("ground" :Str)]) ok (gr r) (by rw[QN s [] k];exact List.mem_map_of_mem hr);exact this
noncomputable def Rf.tag:Rf->Str
 | .many _=>"many"
 | .deep _=>"down"
 | .twice _=>"twice"
 | .qW _=>"label"
 | .wide _=>"wide"
 | .long _=>"long"
 | .sC _=>"deed"
theorem XW{d:Dd}(ok:l8 d)(h:dW d.wd=true):jd d≠ "ground":=by
 cases jaf ok with
 |ei t b u c=>exact absurd h (by show ¬dW "either"=true;decide+kernel)
 |tu l m n t b hl hg _ _ _ _=>exact hg
 |fr l t b hl hg=>exact hg
 |sm w ks ps f hf n1 n2 n3=>
  have h:dW w=true:=h;unfold dW at h;rw[ba n3,ba n2] at h;cases h
def LQ:Sp:=λvs H Q _=>∃v t s,vs=[v]/\Dat H v (iN t (sL s))/\mD s/\eO s<40/\d_ s<=1000/\
 match gL s with
 |none=>∀H',ah H H'->Q .bp H'
 |some r=>∀t H',H t=none->ah H H'->H' t=some (.tup [.str r.tag,r.v])->Q (.ref t) H'
theorem yM(T:Txt K mg A):aT P w K mg base dO 43 A.mh A.qo ["_law_body_here"] LQ:=by
 refine T.rB.F.ok bG (λvs H Q E h=> ?_) (λcB Ar outer s0 H vs Q E hr h=> ?_)
 .obtain⟨v,t,s,rfl,_⟩:=h;rfl
 .obtain⟨v,t,s,rfl,hd,ok,dp,hm,q⟩:=h
  have Hk:(nD dO P w K mg base ["_law_body_here","_law_rows","_law_down","_law_deed","_law_around","_law_one","_law_asked","_law_done"] "_law_refusal" (av lh) A.mh cB Ar outer s0 H E).KD.A.units<cLine:=by
   have:=hr.un;show(Ar.deeper _).units<cLine;omega
  refine⟨_,(aj (gf 1 bG.nd (cG (qu T 40) hr T.jK aC (ag (pv 0) (ag (bH dY) (aM ae))))) (aj (gf 2 bG.nd ae) (aj (A5 (ff (pv 1)) (xr Z (cY (jE 3 bG.nd) (cY (jE 4 bG.nd) (cY (jE 5 bG.nd) mV)))) (aq (bU (wn (LI Hk) (cG (gi T) hr T.dP aC (aM (pv 3))) (bt dY)) (aq (gf 2 bG.nd (iR (kY Z) T.yy Boot.«max» (ag (pv 2) (aM (aL bw (pv 5) ae)))))) bf))) (aj (bU (wn tQ (iR br T.g7 Boot.«len» (aM (pv 1))) ae) (aq (aH (bt (ag ai (aM (iR br T.g7 Boot.«len» (aM (pv 1)))))))) bf) (aj (bU (wn tQ (pv 2) ae) (aq (aH (bt (ag ai (aM (pv 2)))))) bf) (aj (A5 (ff (pv 1)) (xr Z (cY (jE 3 bG.nd) (cY (jE 4 bG.nd) (cY (jE 5 bG.nd) mV)))) (aj (bU (PW.pt (wT (wn k7 (cS aN (pv 3) ae) (bt (ag ai (aM ai)))) (xz (wn k7 (cS aN (pv 3) ae) (pv 4))))) (aq (aH (bt (ag ai (aM (cS aN (pv 3) ae)))))) bf) (aq (bU (PW.pt (wT (wn cK (cS aN (pv 3) ae) ai) (wT (wn zm (cS aN (pv 3) ae) eh) (wT (wn oI (cS aN (pv 3) ae) (pv 4)) (xz (wn qQ (cS aN (pv 3) ae) ai)))))) (aq (aH (bt (ag ai (aM (cS aN (pv 3) ae)))))) bf)))) (aj (BE (cG (Fg T 40) hr T.qk aC (aM (pv 0))) (xr Z (cY (jE 6 bG.nd) (cY (jE 7 bG.nd) mV)))) (aj (bU (wn tQ (pv 6) ae) (aq (aH (bt (ag ai (aM (pv 6)))))) bf) (aq (aH (qV (wn tQ (pv 7) ae) (bt (ag ai (aM (pv 7)))) eh))))))))))),?_⟩;refine⟨_,Z,nq,λu hu=> ?_⟩;have su:=ah.upd (o:= .lst []) hu;refine⟨upd H u (.lst []),v,t,s,u,[],0,Z,ah.refl _,hd.same su,ok,dp,af,hm,by show 0+_<_;lia,λl zs H1 hl s1 hz R=> ?_⟩;have sH1:=su.trans s1;have okr:=aa7 ok 0;have rl:=R.len;rw[mM] at rl;refine⟨_,Z,l,Z,⟨_,cF.of hz⟩,?_⟩;refine jb (K:=K) (a:=l) (xs:=zs) (λi σ H' =>∃(x3 x4 x5:Option V),σ=[some v,some (.ref l),some (nI (pN (((wb s [] 0).take i).map dn))),x3,x4,x5,none,none]/\ah H1 H') ⟨_,_,_,Z,ah.refl H1⟩ (by rintro i σ H' _ ⟨_,_,_,_,sm⟩;exact cF.of (sm _ _ hz)) ?_ ?_
  .rintro i x σ H' hx ⟨x3,x4,x5,rfl,sm⟩
   obtain⟨⟨⟨d,ar⟩,k⟩,er,t1,y,u1,rfl,f1,f2,f3,f4⟩:=R.at_ i x hx;have l6:=okr _ (bE er);dsimp only at f2 f4 l6;refine⟨t1,_,Z,bc.of (sm _ _ f1),Z,_,_,Z,_,_,Z,_,_,Z,Z,?_⟩;refine⟨_,Z,upd H u (.lst []),y,d,Z,s1.trans sm,f2,l6,λt2 ys H2 wO s2 JE hB=> ?_⟩;refine⟨nq,λt3 qC=>⟨t2,t3,ys,Z,Z,ah.upd qC _ _ JE,af,_,Z,?_⟩⟩;have s4:=s2.trans (ah.upd (o:= .tup []) qC);have tk:=DX dn er
   have ye:ys.isEmpty=d.bs.l.isEmpty:=by
    have:=jj hB
    cases ys with
    |nil=>cases hh:d.bs.l with
     |nil=>rfl
     |cons _ _=>rw[hh] at this;cases this
    |cons _ _=>cases hh:d.bs.l with
     |nil=>rw[hh] at this;cases this
     |cons _ _=>rfl
   cases he:d.bs.l.isEmpty with
   |true=>
    rw[ye,he];have e0:dn ((d,ar),k)=0:=aB he;rw[e0,Nat.max_eq_left (cH _)] at tk;exact bo ⟨_,_,_,by rw[tk];rfl,sm.trans s4⟩
   |false=>
    rw[ye,he];have e0:dn ((d,ar),k)=k+1:=ax (by rw[he];decide);rw[e0] at tk;refine a9 ⟨_,Z,_,Z,_,1,Z,Z,_,_,Z,some y,some (.ref u1),some (nI k),?_,sm.trans s4⟩
    have mx:∀x y:Nat,nI (max x (y+1))= .int (if((y:Int)+1)>(x:Int) then((y:Int)+1) else(x:Int)):=λx y=>by
     show V.int ((max x (y+1):Nat):Int)=_
     congr 1
     split<;>lia
    rw[tk,mx];rfl
  .rintro σ H2 ⟨x3,x4,x5,rfl,sm⟩
   have etk:(wb s [] 0).take zs.length=wb s [] 0:=oV (by rw[mM];lia)
   have dnE:pN ((wb s [] 0).map dn)=eO s:=by
    rw[XO]
    split<;>lia
   rw[etk,dnE];have JE:=sm _ _ hz;have Lm:=sH1.trans sm
   have out:∀(r:Rf) (H3:Hp) (t3:S'),gL s=some r->ah H2 H3->H3 t3=none->Q (.ref t3) (upd H3 t3 (.tup [.str r.tag,r.v])):=λr H3 t3 e s3 qC=>by
    rw[e] at q;exact q t3 _ ((Lm.trans s3).free qC) ((Lm.trans s3).trans (ah.upd qC)) af
   refine⟨_,Z,l,zs,Z,.inl (cF.of JE),_,40,Z,Z,_,Z,?_⟩;refine mG (λhk=> ?_) (λhk=> ?_)
   .have hk:=bD hk;refine⟨_,Z,l,zs,Z,.inl (cF.of JE),hV,λt3 qC=> ?_⟩;have:=out (.many (d_ s)) H2 t3 (by unfold gL nM;rw[aB (by lia)];rfl) (ah.refl _) qC;rw[show Rf.v (.many (d_ s))=V.int (zs.length:Int) by rw[rl];rfl] at this;exact this
   .have hk1:¬(zs.length:Int)>40:=λz=>hk (aS z);refine⟨_,Z,_,6,Z,Z,_,Z,?_⟩;refine mG (λhk=> ?_) (λhk=> ?_)
    .have hk:=bD hk;exact⟨_,Z,hV,λt3 qC=>out (.deep (eO s)) H2 t3 (by unfold gL nM;rw[ax (by lia),aB (by lia)];rfl) (ah.refl _) qC⟩
    .have PQ:¬((eO s:Nat):Int)>6:=λz=>hk (aS z);have eS:nM s=none:=by unfold nM;rw[ax (by lia),ax (by lia)]
     have eF:(pI s ["ground"]).findSome? j6=(wb s [] 0).findSome? λr=>j6 (gr r):=by
      rw[show pI s ["ground"]=_ from QN s [] 0,List.findSome?_map];rfl
     refine⟨_,Z,l,Z,⟨_,cF.of JE⟩,?_⟩;refine jb (K:=K) (a:=l) (xs:=zs) (λi σ H' =>∃(x3 x4 x5:Option V),σ=[some v,some (.ref l),some (nI (eO s)),x3,x4,x5,none,none]/\ah H2 H'/\((wb s [] 0).take i).findSome? (λr=>j6 (gr r))=none) ⟨_,_,_,Z,ah.refl H2,Z⟩ (by rintro i σ H' _ ⟨_,_,_,_,sm,_⟩;exact cF.of (sm _ _ JE)) ?_ ?_
     .rintro i x σ H' hx ⟨x3,x4,x5,rfl,sm',hn⟩
      obtain⟨⟨⟨d,ar⟩,k⟩,er,t1,y,u1,rfl,f1,f2,f3,f4⟩:=R.at_ i x hx;have l6:=okr _ (bE er);dsimp only at f2 f4 l6;have sR:=sm.trans sm';obtain⟨b,ks,xs,ys,rfl,p0⟩:=fq f2 l6;have p:=p0.same (s1.trans sR)
      have bad:∀r,j6 (d,ar++[("ground" :Str)])=some r->gL s=some r:=λr h=>by
       unfold gL;rw[eS,ix,eF,Ba (λr=>j6 (gr r)) er hn h];rfl
      have next:j6 (d,ar++[("ground" :Str)])=none->((wb s [] 0).take (i+1)).findSome? (λr=>j6 (gr r))=none:=λh=>by
       rw[xa (λr=>j6 (gr r)) er,hn];exact h
      refine⟨t1,_,Z,bc.of (sR _ _ f1),Z,_,_,Z,_,_,Z,_,_,Z,Z,?_⟩;refine⟨_,Z,b,_,0,_,Z,Z,bc.of p.e,gU _ _,hV,λt2 wO=>⟨t2,_,Z,.inr (bc.of af),Z,Z,_,Z,?_⟩⟩;have u2:=ah.upd (o:= .tup [V.str "frame",.str "turns"]) wO;generalize upd H' t2 (.tup [V.str "frame",.str "turns"])=H3 at u2 ⊢;have pe:=u2 _ _ p.e;have OR:=u2 _ _ (sR _ _ f4);have s3:=sm'.trans u2;show if IT (V.str d.wd) [.str "frame",.str "turns"]=true then _ else _
      rw[Cw]
      have two:¬(dW d.wd=true/\jd d∈ar++[("ground" :Str)])->j6 (d,ar++[("ground" :Str)])=(if d.wd="make" then match ue d with
       |some x=>if x∈ar++[("ground" :Str)] then none else some (.qW x)
       |none=>none
       else none):=λh=>ax h
      rcases hb:dW d.wd with _|_
      .have tw:=two λz=>by rw[hb] at z;exact cU z.1
       refine bo ⟨_,Z,b,_,0,_,Z,Z,bc.of pe,gU _ _,Z,_,Z,?_⟩;by_cases nm:d.wd="make"
       .obtain⟨y1,y2,m,rfl,rfl,Pa⟩:=Bc p nm;rw[aB nm] at tw;rw[show decide (V.str d.wd=V.str "make")=true from aS (by rw[nm])];rcases Pa with⟨rfl,hk⟩|⟨z,rfl,hk⟩
        .rw[hk] at tw;exact a9 ⟨_,Z,b,_,3,_,Z,Z,bc.of pe,bb (j:=3) Z,Z,_,Z,bo ⟨_,_,_,Z,s3,next tw⟩⟩
        .rw[hk] at tw;dsimp only at tw;refine a9 ⟨_,Z,b,_,3,_,Z,Z,bc.of pe,bb (j:=3) Z,Z,_,Z,a9 ⟨_,Z,b,_,3,_,Z,Z,bc.of pe,bb (j:=3) Z,_,Z,u1,_,Z,.inl (cF.of OR),Z,k8 _,_,Z,?_⟩⟩;show if(!IT (V.str z) (ar.map V.str))=true then _ else _
         rw[nY];by_cases hy:z∈ar
         .rw[aB (rK _ hy)] at tw;rw[aS hy];exact bo ⟨_,_,_,Z,s3,next tw⟩
         .rw[ba hy];refine a9 ⟨_,Z,b,_,3,_,Z,Z,bc.of pe,bb (j:=3) Z,Z,_,Z,?_⟩;by_cases hg:z="ground"
          .rw[aB (lS _ (by rw[hg];exact gm.mpr Z))] at tw;rw[show decide (V.str z=V.str "ground")=true from aS (by rw[hg])];exact bo ⟨_,_,_,Z,s3,next tw⟩
          .rw[ax (λh=>by
            rcases eB.mp h with h|h
            .exact hy h
            .exact hg (gm.mp h))] at tw
           rw[show decide (V.str z=V.str "ground")=false from ba (dZ hg)];exact a9 ⟨_,Z,b,_,3,_,Z,Z,bc.of pe,bb (j:=3) Z,hV,λt3 qC=>out (.qW z) _ t3 (bad _ tw) s3 qC⟩
       .exact dG (dZ nm) ⟨_,_,_,Z,s3,next (tw.trans (ax nm))⟩
      .obtain⟨QK,rfl⟩:=p0.jd hb;have lg:=XW l6 hb;refine a9 ⟨_,Z,b,_,1,_,Z,Z,bc.of pe,bb (j:=1) Z,_,Z,u1,_,Z,.inl (cF.of OR),Z,k8 _,_,Z,?_⟩;show if IT (V.str (jd d)) (ar.map V.str)=true then _ else _
       rw[nY];by_cases n5:jd d∈ar
       .rw[aS n5];exact a9 ⟨_,Z,b,_,1,_,Z,Z,bc.of pe,bb (j:=1) Z,hV,λt3 qC=>out (.twice (jd d)) _ t3 (bad _ (aB ⟨hb,rK _ n5⟩)) s3 qC⟩
       .rw[ba n5];have nm:d.wd≠ "make":=λz=>by rw[z] at hb;exact absurd hb (by decide+kernel)
        refine bo ⟨_,Z,b,_,0,_,Z,Z,bc.of pe,gU _ _,Z,_,Z,?_⟩;refine dG (dZ nm) ⟨_,_,_,Z,s3,next ((two λz=> ?_).trans (ax nm))⟩;rcases eB.mp z.2 with h|h
        .exact n5 h
        .exact lg (gm.mp h)
     .rintro σ H3 ⟨x3,x4,x5,rfl,s3,hn⟩
      rw[etk] at hn
      have eR:gL s=yN s:=by
       unfold gL;rw[eS,ix,eF,hn,ix]
      refine⟨_,Z,H,v,t,s,Z,Lm.trans s3,hd,ok,dp,λtt H4 E6 s4 hz4=> ?_⟩;have UX:=s3.trans s4;refine⟨tt,_,Z,bc.of hz4,Z,_,_,Z,_,_,Z,Z,?_⟩;refine⟨_,Z,_,4,Z,Z,_,Z,?_⟩;refine mG (λhk=> ?_) (λhk=> ?_)
      .have hk:=bD hk;exact⟨_,Z,hV,λt3 qC=>out (.wide (jS s)) _ t3 (by rw[eR];unfold yN;rw[aB (by lia)]) UX qC⟩
      .have hk3:¬((jS s:Nat):Int)>4:=λz=>hk (aS z);refine⟨_,Z,_,100,Z,Z,_,Z,?_⟩;refine mG (λhk=> ?_) (λhk=> ?_)
       .have hk:=bD hk;exact⟨_,Z,hV,λt3 qC=>out (.long (jT s)) _ t3 (by rw[eR];unfold yN;rw[ax (by lia),aB (by lia)]) UX qC⟩
       .have hk4:¬((jT s:Nat):Int)>100:=λz=>hk (aS z);have eN:gL s=none:=by rw[eR];unfold yN;rw[ax (by lia),ax (by lia)]
        rw[eN] at q;exact q _ (Lm.trans UX)
theorem Z3{K:Frag}{mg:Str->aO}{x:Str}{C f R:S'}(E:XI K mg x C f R)(D:S'):∃nm q N bs bm jf sn sub ab col dd k0 k1 k2 k3 k5 i,K.lookup C=some (excClassObj nm q C N bs bm jf sn sub ab col dd k0 k1 k2 k3 k5 i)/\(Value.ref C::bm).contains (.ref D)=(decide (D=C)||decide (D=R)):=by
 obtain⟨nm,q,N,bs,bm,hd,sn,sub,ab,col,dd,j0,j1,j2,j3,j5,lk,T2⟩:=E.X.toExcC.obj;refine⟨nm,q,N,bs,bm,hd,sn,sub,ab,col,dd,j0,j1,j2,j3,j5,_,lk,?_⟩;have h:=E.mi D;unfold PySem.W.mroIn clsIn at h;rw[lk] at h;exact fW h
theorem lJ{K:Frag}{mg:Str->aO}{x:Str}{C f R:S'}(E:XI K mg x C f R):Under K C C:=by
 obtain⟨nm,q,N,bs,bm,hd,sn,sub,ab,col,dd,j0,j1,j2,j3,j5,i,lk,h⟩:=Z3 E C;exact⟨nm,q,N,bs,bm,hd,sn,sub,ab,col,dd,j0,j1,j2,j3,j5,i,lk,by rw[h,aS Z];rfl⟩
theorem di{K:Frag}{mg:Str->aO}{x:Str}{C f R D:S'}(E:XI K mg x C f R)(h1:D≠C)(h2:D≠R):Hc K C D:=by
 obtain⟨nm,q,N,bs,bm,hd,sn,sub,ab,col,dd,j0,j1,j2,j3,j5,i,lk,h⟩:=Z3 E D;exact⟨nm,q,N,bs,bm,hd,sn,sub,ab,col,dd,j0,j1,j2,j3,j5,i,lk,by rw[h,ba h1,ba h2];rfl⟩
def Qo(A:nS):Prop:=([A.b_,A.iQ,A.gF,A.gz,A.kQ,A.gB,A.gy,A.gw,A.pQ]:cc).Nodup
noncomputable def Xv(A:nS):cc:=[A.b_,A.iQ,A.gF,A.gz,A.kQ,A.gB,A.gy,A.gw,A.pQ]
theorem eU{A:nS}(df:Qo A){x y:S'}(i j:Nat)(h1:(Xv A)[i]? =some x)(h2:(Xv A)[j]? =some y)(hij:i≠j):x≠y:=λz=>by
 subst z;have hi:=(c8.mp h1).1;exact hij ((List.getElem?_inj hi (show(Xv A).Nodup from df)).mp (h1.trans h2.symm))
def Fn(A:nS)(f:S')(spL:Sp):Sp:=λvs H Q _=>vs=[.ref f]/\∀t0,H t0=none->∀(Q' :VK) (E' :XK),(∀v H1,(∀t,H1 t=none->Q (.ref t) (upd H1 t (.tup [.str "program",v])))->Q' v H1)->
 (∀(r:Rf) dx H2,H2 dx=some (.xd [(r.fd,r.v)])->(∀t,H2 t=none->Q (.ref t) (upd H2 t (.tup [.str r.tag,r.v])))->E' (.ref (r.cls A)) (some dx) H2)->spL [] (upd H t0 (.tup [.str "other"])) Q' E'
theorem EH(T:Txt K mg A)(df:Qo A){f:S'}{fdl QO :aad}{spL:Sp}(Xa:aT P w K mg base (Dc P w) 52 f fdl [] spL)(Xm:∃oc od sl,base.get? f=some ⟨oc,od,.func QO,sl⟩)(Xj:Binds K fdl [] []):
 aT P w K mg base dO 53 A.qR A.pX ["_law_call"] (Fn A f spL):=by
 refine T.mO.F.ok cq (λvs H Q E h=> ?_) (λcB Ar outer s0 H vs Q E hr h=> ?_)
 .obtain⟨rfl,_⟩:=h;rfl
 .obtain⟨rfl,q⟩:=h;refine⟨_,(aj (gf 1 cq.nd (bt (aM ai))) (aj (Q0 (i:=2) Z Z cq.nd Z Z (.cons Z T.g9.m T.g9.X.toExcC (by decide) (λa=>(aq (gf 1 cq.nd (bt (ag ai (aM (jX (K:=K) Z (pv 2) Z))))))) (.cons Z T.gI.m T.gI.X.toExcC (by decide) (λa=>(aq (gf 1 cq.nd (bt (ag ai (aM (jX (K:=K) Z (pv 2) Z))))))) (.cons Z T.fQ.m T.fQ.X.toExcC (by decide) (λa=>(aq (gf 1 cq.nd (bt (ag ai (aM (jX (K:=K) Z (pv 2) Z))))))) (.cons Z T.i6.m T.i6.X.toExcC (by decide) (λa=>(aq (gf 1 cq.nd (bt (ag ai (aM (jX (K:=K) Z (pv 2) Z))))))) (.cons Z T.eD.m T.eD.X.toExcC (by decide) (λa=>(aq (gf 1 cq.nd (bt (ag ai (aM (jX (K:=K) Z (pv 2) Z))))))) (.cons Z T.dR.m T.dR.X.toExcC (by decide) (λa=>(aq (gf 1 cq.nd (bt (ag ai (aM (jX (K:=K) Z (pv 2) Z))))))) (.cons Z T.dF.m T.dF.X.toExcC (by decide) (λa=>(aq (gf 1 cq.nd (bt (ag ai (aM (jX (K:=K) Z (pv 2) Z))))))) (.cons Z T.GP.m T.GP.X.toExcC (by decide) (λa=>(aq (gf 1 cq.nd (bt (ag ai (aM (jX (K:=K) Z (pv 2) Z))))))) .nil)))))))) (λE pn W hw=>(aq (gf 1 cq.nd (bt (ag ai (aM (KR Xa Xm hr Xj (jx hw trivial) (pv 0))))))))) (aq (aH (pv 1))))),?_⟩;refine⟨yZ,λt0 ht0=>⟨_,Z,Z,q t0 ht0 _ _ (λv H1 h=>⟨hV,λt ht=>⟨_,Z,h t ht⟩⟩) λr dx H2 hx h=> ?_⟩⟩;have Iz:∀σ:L2.St,σ.length=3->∃x0 x1 x2,σ=[x0,x1,x2]:=Yg λa b c=>⟨a,b,c,Z⟩
  cases r with
  |many z=>
   refine⟨_,_,Z,(.inr ⟨di T.gI (eU df 1 2 Z Z (by decide)) (eU df 1 0 Z Z (by decide)),.inl ⟨lJ T.gI,Z⟩⟩),λa σ ea hl=> ?_⟩;obtain⟨x0,x1,x2,rfl⟩:=Iz σ hl;exact⟨_,Z,a,_,dx,false,_,_,Z,ea,hx,T.gI.g.toExcG,T.p_,Z,hV,λt ht=>⟨_,Z,h t ht⟩⟩
  |deep z=>
   refine⟨_,_,Z,(.inr ⟨di T.fQ (eU df 1 3 Z Z (by decide)) (eU df 1 0 Z Z (by decide)),.inr ⟨di T.fQ (eU df 2 3 Z Z (by decide)) (eU df 2 0 Z Z (by decide)),.inl ⟨lJ T.fQ,Z⟩⟩⟩),λa σ ea hl=> ?_⟩;obtain⟨x0,x1,x2,rfl⟩:=Iz σ hl;exact⟨_,Z,a,_,dx,false,_,_,Z,ea,hx,T.fQ.g.toExcG,T.ph,Z,hV,λt ht=>⟨_,Z,h t ht⟩⟩
  |twice z=>
   refine⟨_,_,Z,(.inr ⟨di T.i6 (eU df 1 4 Z Z (by decide)) (eU df 1 0 Z Z (by decide)),.inr ⟨di T.i6 (eU df 2 4 Z Z (by decide)) (eU df 2 0 Z Z (by decide)),.inr ⟨di T.i6 (eU df 3 4 Z Z (by decide)) (eU df 3 0 Z Z (by decide)),.inl ⟨lJ T.i6,Z⟩⟩⟩⟩),λa σ ea hl=> ?_⟩;obtain⟨x0,x1,x2,rfl⟩:=Iz σ hl;exact⟨_,Z,a,_,dx,false,_,_,Z,ea,hx,T.i6.g.toExcG,T.ub,Z,hV,λt ht=>⟨_,Z,h t ht⟩⟩
  |qW z=>
   refine⟨_,_,Z,(.inr ⟨di T.eD (eU df 1 5 Z Z (by decide)) (eU df 1 0 Z Z (by decide)),.inr ⟨di T.eD (eU df 2 5 Z Z (by decide)) (eU df 2 0 Z Z (by decide)),.inr ⟨di T.eD (eU df 3 5 Z Z (by decide)) (eU df 3 0 Z Z (by decide)),.inr ⟨di T.eD (eU df 4 5 Z Z (by decide)) (eU df 4 0 Z Z (by decide)),.inl ⟨lJ T.eD,Z⟩⟩⟩⟩⟩),λa σ ea hl=> ?_⟩;obtain⟨x0,x1,x2,rfl⟩:=Iz σ hl;exact⟨_,Z,a,_,dx,false,_,_,Z,ea,hx,T.eD.g.toExcG,T.pj,Z,hV,λt ht=>⟨_,Z,h t ht⟩⟩
  |wide z=>
   refine⟨_,_,Z,(.inr ⟨di T.dR (eU df 1 6 Z Z (by decide)) (eU df 1 0 Z Z (by decide)),.inr ⟨di T.dR (eU df 2 6 Z Z (by decide)) (eU df 2 0 Z Z (by decide)),.inr ⟨di T.dR (eU df 3 6 Z Z (by decide)) (eU df 3 0 Z Z (by decide)),.inr ⟨di T.dR (eU df 4 6 Z Z (by decide)) (eU df 4 0 Z Z (by decide)),.inr ⟨di T.dR (eU df 5 6 Z Z (by decide)) (eU df 5 0 Z Z (by decide)),.inl ⟨lJ T.dR,Z⟩⟩⟩⟩⟩⟩),λa σ ea hl=> ?_⟩;obtain⟨x0,x1,x2,rfl⟩:=Iz σ hl;exact⟨_,Z,a,_,dx,false,_,_,Z,ea,hx,T.dR.g.toExcG,T.qc,Z,hV,λt ht=>⟨_,Z,h t ht⟩⟩
  |long z=>
   refine⟨_,_,Z,(.inr ⟨di T.dF (eU df 1 7 Z Z (by decide)) (eU df 1 0 Z Z (by decide)),.inr ⟨di T.dF (eU df 2 7 Z Z (by decide)) (eU df 2 0 Z Z (by decide)),.inr ⟨di T.dF (eU df 3 7 Z Z (by decide)) (eU df 3 0 Z Z (by decide)),.inr ⟨di T.dF (eU df 4 7 Z Z (by decide)) (eU df 4 0 Z Z (by decide)),.inr ⟨di T.dF (eU df 5 7 Z Z (by decide)) (eU df 5 0 Z Z (by decide)),.inr ⟨di T.dF (eU df 6 7 Z Z (by decide)) (eU df 6 0 Z Z (by decide)),.inl ⟨lJ T.dF,Z⟩⟩⟩⟩⟩⟩⟩),λa σ ea hl=> ?_⟩;obtain⟨x0,x1,x2,rfl⟩:=Iz σ hl;exact⟨_,Z,a,_,dx,false,_,_,Z,ea,hx,T.dF.g.toExcG,T.qj,Z,hV,λt ht=>⟨_,Z,h t ht⟩⟩
  |sC z=>
   refine⟨_,_,Z,(.inl ⟨lJ T.g9,Z⟩),λa σ ea hl=> ?_⟩;obtain⟨x0,x1,x2,rfl⟩:=Iz σ hl;exact⟨_,Z,a,_,dx,false,_,_,Z,ea,hx,T.g9.g.toExcG,T.qw,Z,hV,λt ht=>⟨_,Z,h t ht⟩⟩
structure Fits(B k:Nat)(d:U'):Prop where
 sh:d.showable=true
 dp:d.depth<=k
 ln:d.shown.length<=B
theorem Fits.mono{B B' k k' :Nat}{d:U'}(g:Fits B k d)(h:B<=B')(h' :k<=k'):Fits B' k' d:=⟨g.sh,aU g.dp h',aU g.ln h⟩
structure dh(B k:Nat)(ds:List U'):Prop where
 sh:PyData.showableAll ds=true
 dp:PyData.depthAll ds<=k
 ln:((PyData.shownAll ds).map (·.length)).sum+2*(PyData.shownAll ds).length<=B
theorem dh.nil{k:Nat}:dh 0 k []:=⟨by simp[PyData.showableAll],by simp[PyData.depthAll],by simp[PyData.shownAll]⟩
theorem dh.cons{B C k:Nat}{d:U'}{ds:List U'}(g:Fits B k d)(h:dh C k ds):dh (B+2+C) k (d::ds):=by
 have g1:=g.ln;have h1:=h.ln;refine⟨?_,?_,?_⟩
 .simp only[PyData.showableAll,g.sh,h.sh,Bool.and_self]
 .simp only[PyData.depthAll];exact Nat.max_le.mpr ⟨g.dp,h.dp⟩
 .simp only[PyData.shownAll,cL,kP,bB]
  lia
theorem dh.mono{B B' k k' :Nat}{d:List U'}(g:dh B k d)(h:B<=B')(h' :k<=k'):dh B' k' d:=⟨g.sh,aU g.dp h',aU g.ln h⟩
theorem dh.app{B C k:Nat}:∀{ds es:List U'},dh B k ds->dh C k es->dh (B+C) k (ds++es)
 |[],es,_,h=>h.mono (by lia) (aK _)
 |d::ds,es,g,h=>by
  have sh:=g.sh;have dp:=g.dp;have ln:=g.ln;simp only[PyData.showableAll,cI] at sh;simp only[PyData.depthAll] at dp;simp only[PyData.shownAll,cL,kP,bB] at ln;have r:=dh.app (B:=B - d.shown.length - 2) (ds:=ds) ⟨sh.2,by lia,by lia⟩ h;refine(dh.cons (B:=d.shown.length) (k:=k) ⟨sh.1,by lia,aK _⟩ r).mono (by lia) (aK _)
theorem dh.list{B k:Nat}{ds:List U'}(h:dh B k ds):Fits (B+3) (k+1) (.list ds):=by
 have h1:=h.ln;have h2:=h.dp;refine⟨?_,?_,?_⟩
 .simp only[PyData.showable,h.sh]
 .simp only[PyData.depth]
  lia
 .simp only[PyData.shown];have:=listText_len_le (PyData.shownAll ds)
  lia
theorem dh.tup{B k:Nat}{ds:List U'}(h:dh B k ds):Fits (B+3) (k+1) (.tuple ds):=by
 have h1:=h.ln;have h2:=h.dp;refine⟨?_,?_,?_⟩
 .simp only[PyData.showable,h.sh]
 .simp only[PyData.depth]
  lia
 .simp only[PyData.shown];have:=tupleText_len_le (PyData.shownAll ds)
  lia
theorem Fits.rep{B k:Nat}{d:U'}(g:Fits B k d)(hB:B<=100000)(hk:k<=90):d.showable=true/\d.depth<=90/\d.shown.length<=sizeLine:=⟨g.sh,aU g.dp hk,aU g.ln (cT (fA hB))⟩
theorem rh{i:Int}(h:i.natAbs<10 ^ 40):Fits 100 3 (.int i):=by
 refine⟨?_,?_,?_⟩
 .simp only[PyData.showable];refine aS ?_;by_cases h0:i.natAbs=0
  .rw[h0];decide
  .refine(Nat.log2_lt h0).mpr (ze h ?_);decide+kernel
 .simp[PyData.depth]
 .simp only[PyData.shown];rw[PySem.ofString_length];exact aU (PySem.int_text_length_le10 (k:=40) (by decide) h) (by decide)
theorem vN{n:Nat}(h:n<=1000000):Fits 100 3 (.int (n:Int)):=rh (iX (show(n:Int).natAbs<=1000000 by rw[Int.natAbs_natCast];exact h) (by decide+kernel))
theorem rD:Fits 100 3 .none:=by
 refine⟨?_,?_,?_⟩
 .simp only[PyData.showable]
 .simp[PyData.depth]
 .simp only[PyData.shown];decide+kernel
theorem EL{x:Str}(h:cv x=true):PyData.strOk x=true:=by
 unfold cv at h;rw[cI] at h;show x.cps.all (· <1114112)=true;rw[<-Array.all_toList];rw[a7];intro c hc;have:=a7.mp h.2 c hc;unfold dC at this;rw[cI] at this;have h2:=bD this.2;exact aS (by lia)
theorem Bx{x:Str}(h:cv x=true):x.length<=6:=by
 unfold cv at h;rw[cI,cI] at h;exact bD h.1.2
theorem kW{x:Str}(h:cv x=true):Fits 100 3 (.str x):=by
 refine⟨?_,?_,?_⟩
 .simp only[PyData.showable]
 .simp[PyData.depth]
 .have h1:=PyData.shown_le 8 (by decide) (.str x) (PyData.leavesShort_of_canLay0 8 _ (by simp only[PyData.canLay0];exact EL h) (by simp only[PyData.intsShort]));have h2:PyData.weight (.str x)=x.length:=by simp only[PyData.weight];rfl
  have h3:=Bx h
  lia
theorem L_{k:Str}{d:U'}(h:zD k d):Fits 100 3 d:=by
 cases h with
 |name x h=>exact kW h
 |label x h n=>exact kW h
 |Fy=>exact rD
 |mark x h=>exact kW h
 |Fe=>exact rD
 |value i h=>exact rh h
 |number i h=>exact rh h
 |num k lo hi i h h1 h2=>
  have:=bD (a7.mp (show(xo.all λp=>decide (0<=p.2.1/\p.2.2<=6))=true by decide+kernel) _ h);exact rh (iX (show i.natAbs<=6 by have h3:(0:Int)<=lo:=this.1;have h4:hi<=(6:Int):=this.2;lia) (by decide+kernel))
theorem F6{ks:au}{ps:List U'}(h:ig ks ps):dh (102*ps.length) 3 ps:=by
 induction h with
 |nil=>exact dh.nil
 |cons h t ih=>exact(dh.cons (L_ h) ih).mono (by rw[bB];lia) (aK _)
theorem Dm{w:Str}{ks:au}(h:(w,ks)∈bg):cv w=true:=bD (a7.mp (show(bg.all λp=>decide (cv p.1=true))=true by decide+kernel) _ h)
theorem P1{t:Bool}{B k:Nat}{ds:List U'}(h:dh B k ds):Fits (B+3) (k+1) (iN t ds):=by
 cases t with
 |false=>exact h.list
 |true=>exact h.tup
mutual
theorem shD:∀d:Dd,l8 d->Fits (998+1000*jM d) (4+2*mF d) (dD d)
 | .mk w ps bs,ok=>by
  rw[l8] at ok;obtain⟨⟨ks,f,fit⟩,hb⟩:=ok;have h4:=fP f;rw[bu,gM] at h4;have hl:=Ax fit;rw[dD,jM,mF];refine(dh.tup (dh.cons (B:=100) (k:=3+2*nF bs) ((kW (Dm f)).mono (aK _) (by lia)) (((F6 fit).mono (aK _) (by lia)).app (shB bs hb)))).mono ?_ (by lia)
  lia
theorem shS:∀s:Ds,mD s->dh (1000*d_ s) (4+2*eO s) (sL s)
 | .nil,_=>by rw[sL];exact dh.nil.mono (cH _) (aK _)
 | .cons d r,ok=>by
  rw[mD] at ok;rw[sL,d_,eO];exact(dh.cons ((shD d ok.1).mono (aK _) (by lia)) ((shS r ok.2).mono (aK _) (by lia))).mono (by lia) (aK _)
theorem shB:∀b:Bs,pG b->dh (1000*mT b+5*b.l.length) (3+2*nF b) (bL b)
 | .nil,_=>by rw[bL];exact dh.nil.mono (cH _) (aK _)
 | .cons t b r,ok=>by
  rw[pG] at ok;rw[bL,mT,nF];refine(dh.cons ((P1 (shS b ok.1)).mono (aK _) (by lia)) ((shB r ok.2).mono (aK _) (by lia))).mono ?_ (aK _);show _<=1000*(d_ b+mT r)+5*(r.l.length+1)
  lia
end
def Ca(H:Hp)(l:S')(ns:au):Prop:=H l=some (.lst (ns.map V.str))/\ns.length<=100/\∀x∈ns,cv x=true
def y9(H:Hp)(v:V):Prop:=∃wd ps,iS H v (dD (.mk wd ps .nil))/\l8 (.mk wd ps .nil)
theorem y9.same{H H' :Hp}{v:V}(h:y9 H v)(s:ah H H'):y9 H' v:=by
 obtain⟨wd,ps,td,ok⟩:=h;exact⟨wd,ps,td.kt (KT.same s),ok⟩
theorem y9.box{H H' :Hp}{v:V}{b:S'}{k:Nat}(h:y9 H v)(B:dg H b k)(o:BX b H H'):y9 H' v:=by
 obtain⟨wd,ps,td,ok⟩:=h;obtain⟨x,y,z,hb,_⟩:=B;exact⟨wd,ps,td.kt λc ys e=>(o c (dB e hb (λz=>nomatch z))).trans e,ok⟩
theorem y9.mk{H:Hp}{t:S'}{wd:Str}{xs:ak}{ks:au}{ps:List U'}(e:H t=some (.tup (.str wd::xs)))(f:(wd,ks)∈bg)(h:ig ks ps)(hx:bI H xs ps):y9 H (.ref t):=by
 refine⟨wd,ps,?_,?_⟩
 .rw[dD,bL,fJ];exact .tup e (.cons (.str _) hx)
 .rw[l8,pG];exact⟨⟨ks,by show(wd,ks++[])∈bg;rw[fJ];exact f,h⟩,True.intro⟩
structure Sw(b:S')(H:Hp)(k:Nat)(H' :Hp):Prop where
 box:dg H' b k
 kp:Kept b H H'
theorem Sw.same{b:S'}{H H' gX :Hp}{k:Nat}(W:Sw b H k H')(s:ah H' gX):Sw b H k gX :=⟨W.box.same s,W.kp.trans s.kept⟩
theorem Sw.take{b:S'}{H H' gX :Hp}{k:Nat}(W:Sw b H k H')(B:dg gX b (k+1))(O:BX b H' gX):Sw b H (k+1) gX :=⟨B,W.kp.trans O.kept⟩
theorem RJ:(10:Int) ^ (30:Int).toNat=1000000000000000000000000000000:=by decide+kernel
def Md:Sp:=λvs H Q _=>∃b nl al k ns ar,vs=[.ref b,.ref nl,.ref al]/\dg H b k/\k+20<=100000/\Ca H nl ns/\ns≠[]/\Ca H al ar/\nl≠b/\al≠b/\
 ∀v H',y9 H' v->dg H' b (k+20)->Kept b H H'->Q v H'
theorem Ay(T:Txt K mg A):aT P w K mg base dO 2 A.tO A.tm ["_law_box_here","_law_names_here","_law_around"] Md:=by
 refine T.tJ.F.wc dr ?_
 rintro cB Ar outer s H vs Q E hr ⟨b,nl,al,k,ns,ar,rfl,B,hk,hn,wQ,ha,nb,ab,q⟩
 have Ey:0<((ns.map V.str).length:Int):=by
  rw[a6];have:=EX.mpr wQ
  lia
 have hle:((ns.map V.str).length:Int)<1606938044258990275541962092341162602522202993782792835301376:=by
  rw[a6];have:=hn.2.1
  lia
 have nmo:∀x∈ns.map V.str,∃z,x= .str z/\cv z=true:=λx hx=>by
  obtain⟨z,hz,rfl⟩:=jn.mp hx;exact⟨z,Z,hn.2.2 z hz⟩
 refine⟨_,(aj (gf 3 dr.nd (cG (aE T) hr T.aF aC (ag (pv 0) (aM ae)))) (aj (gf 4 dr.nd (cS a8 (pv 1) (cG (aE T) hr T.aF aC (ag (pv 0) (aM (iR br T.g7 Boot.«len» (aM (pv 1)))))))) (aj (gf 5 dr.nd (cS a8 (pv 1) (cG (aE T) hr T.aF aC (ag (pv 0) (aM (iR br T.g7 Boot.«len» (aM (pv 1)))))))) (aj (gf 6 dr.nd (cS a8 (bH (ag ae (aM (cG (aE T) hr T.aF aC (ag (pv 0) (aM ae)))))) (cG (aE T) hr T.aF aC (ag (pv 0) (aM ae))))) (aj (bU (wn A0 (pv 3) ae) (aj (gf 7 dr.nd (aL fH (aL fH (bH (ag eh (aM eh))) (pv 2)) (bH (aM ai)))) (aq (aH (bt (ag ai (ag (pv 4) (ag (aL bw ae (cG (aE T) hr T.aF aC (ag (pv 0) (aM (cS a8 (bH (ag ae (aM ae))) (cG (aE T) hr T.aF aC (ag (pv 0) (aM ae)))))))) (aM (cS a8 (pv 7) (cG (aE T) hr T.aF aC (ag (pv 0) (aM (iR br T.g7 Boot.«len» (aM (pv 7))))))))))))))) bf) (aj (gf 8 dr.nd (cS a8 (bH (ag (aL iT (cG (aE T) hr T.aF aC (ag (pv 0) (aM ae))) ae) (aM (aL bw (aL iT (cG (aE T) hr T.aF aC (ag (pv 0) (aM (aL iT (aL md ae (aL qm ae ae)) ae)))) (aL qm ae ae)) ae)))) (NA xj T.CD Boot.«int» (aM (HG cK (cG (aE T) hr T.aF aC (ag (pv 0) (aM ae))) ae))))) (aj (gf 9 dr.nd (bH (ag (bt (ag ai (ag (pv 4) (ag (pv 6) (aM (pv 5)))))) (ag (bt (ag ai (ag (pv 4) (ag (pv 5) (aM (pv 6)))))) (ag (bt (ag ai (ag (pv 4) (aM (cS a8 (bH (ag eh (aM (pv 8)))) (cG (aE T) hr T.aF aC (ag (pv 0) (aM ae)))))))) (aM (bt (ag ai (ag (pv 4) (aM (pv 5))))))))))) (aq (aH (cS a8 (aL fH (pv 9) (bH (ag (bt (ag ai (ag (pv 4) (ag (pv 5) (aM (pv 8)))))) (ag (bt (ag ai (aM (pv 4)))) (aM (bt (ag ai (ag (pv 4) (aM (pv 5)))))))))) (aL iT (pv 3) ae))))))))))),?_⟩;refine⟨_,Z,b,9,k,Z,B,by lia,by decide,by decide,λkind H1 k0 k1 B1 O1=> ?_⟩;have W1:Sw b H (k+1) H1:=Sw.take ⟨B,Kept.refl _ _⟩ B1 O1;refine⟨_,Z,_,Z,_,Z,nl,_,Z,.inl (cF.of (W1.kp _ _ nb hn.1)),b,_,k+1,Z,B1,by lia,Ey,hle,λi1 H2 r0 r1 B2 O2=> ?_⟩;have W2:=W1.take B2 O2;refine gR (λv=>∃z,v= .str z/\cv z=true) (W2.kp _ _ nb hn.1) r0 r1 nmo λv hv=> ?_;obtain⟨x,rfl,hx⟩:=hv;refine⟨_,Z,_,Z,_,Z,nl,_,Z,.inl (cF.of (W2.kp _ _ nb hn.1)),b,_,k+2,Z,B2,by lia,Ey,hle,λi2 H3 s0 s1 B3 O3=> ?_⟩;have W3:=W2.take B3 O3;refine gR (λv=>∃z,v= .str z/\cv z=true) (W3.kp _ _ nb hn.1) s0 s1 nmo λv hv=> ?_;obtain⟨y,rfl,hy⟩:=hv;refine⟨_,Z,b,6,k+3,Z,B3,by lia,by decide,by decide,λr6 H4 a0 a1 B4 O4=> ?_⟩;have W4:=W3.take B4 O4;refine⟨hV,λp4 Hf=> ?_⟩;have W4' :=W4.same (ah.upd (o:= .lst [V.int 0,V.int r6]) Hf);have np4:p4≠b:=W4.box.ne Hf;refine⟨_,Z,b,2,k+4,Z,W4'.box,by lia,by decide,by decide,λr2 H5 c0 c1 B5 O5=> ?_⟩;have W5:=W4'.take B5 O5;refine gR (λv=>∃i:Int,v= .int i/\0<=i/\i<=5) (O5.kept _ _ np4 af) c0 c1 ?_ λv hv=> ?_
 .intro z hz;simp only[aP,cO,cR] at hz;rcases hz with rfl|rfl
  .exact⟨_,Z,by decide,by decide⟩
  .exact⟨_,Z,a0,by lia⟩
 obtain⟨cl,rfl,cl0,cl5⟩:=hv;clear W1 W2 W3 W4 W4' O1 O2 O3 O4 O5 B1 B2 B3 B4;refine⟨_,Z,kind,2,Z,Z,_,Z,?_⟩;have fc:zD "cell" (.int cl):= .num "cell" 0 5 cl (by decide+kernel) cl0 cl5;have al5:=W5.kp _ _ ab ha.1;have arl:=ha.2.1;refine mG (λPQ=> ?_) (λPQ=> ?_)
 .refine⟨hV,λp1 Kn=>⟨_,Z,p1,al,_,_,Z,Z,af,ah.upd Kn _ _ al5,?_,λp2 CO=>⟨yZ,λp3 BN=>⟨p2,p3,_,_,Z,Z,ah.upd BN _ _ af,af,?_,λp6 hp6=> ?_⟩⟩⟩⟩
  .rw[a6];exact cT (fA (show 2+ar.length<=100000 by lia))
  .rw[bu,a6];exact cT (fA (show 2+ar.length+1<=100000 by lia))
  have W6:=(((W5.same (ah.upd Kn)).same (ah.upd CO)).same (ah.upd (o:= .lst [V.str "ground"]) BN));have np6:p6≠b:=W6.box.ne hp6;have W7:=W6.same (ah.upd (o:= .lst (([V.bp,V.bp]++ar.map V.str)++[.str "ground"])) hp6);have e7:upd _ p6 (.lst (([V.bp,V.bp]++ar.map V.str)++[.str "ground"])) p6=some (.lst (([V.bp,V.bp]++ar.map V.str)++[.str "ground"])):=af (H:=upd (upd (upd H5 p1 (.lst [V.bp,V.bp])) p2 (.lst ([V.bp,V.bp]++ar.map V.str))) p3 (.lst [V.str "ground"]));generalize upd (upd (upd (upd H5 p1 (.lst [V.bp,V.bp])) p2 (.lst ([V.bp,V.bp]++ar.map V.str))) p3 (.lst [V.str "ground"])) p6 (.lst (([V.bp,V.bp]++ar.map V.str)++[.str "ground"]))=H7 at W7 e7 ⊢
  have mko:∀v∈([V.bp,V.bp]++ar.map V.str)++[.str "ground"],∃d,zD "mark" d/\∀H,iS H v d:=λv hv=>by
   rcases eB.mp hv with hv|hv
   .rcases eB.mp hv with hv|hv
    .simp only[aP,cO,cR,or_self] at hv;exact⟨.none,.Fy,λ_=>by rw[hv];exact .bp⟩
    .obtain⟨z,hz,rfl⟩:=jn.mp hv;exact⟨.str z,.mark z (ha.2.2 z hz),λ_=> .str _⟩
   .rw[gm.mp hv];exact⟨.str "ground",.mark _ (by decide+kernel),λ_=> .str _⟩
  have hll:(([V.bp,V.bp]++ar.map V.str)++[V.str "ground"]).length=ar.length+3:=by
   simp only[bu,a6,bB,m5]
   lia
  generalize ([V.bp,V.bp]++ar.map V.str)++[V.str "ground"]=A6 at e7 mko hll;refine⟨_,Z,_,Z,hV,λp8 KO=> ?_⟩;have W8:=W7.same (ah.upd (o:= .lst [V.int 2,V.int 6]) KO);have np8:p8≠b:=W7.box.ne KO;refine⟨_,Z,b,2,k+5,Z,W8.box,by lia,by decide,by decide,λr8 H9 d0 d1 B9 O9=> ?_⟩;have W9:=W8.take B9 O9;refine gR (λv=>∃i:Int,v= .int i/\0<i/\i<=6) (O9.kept _ _ np8 af) d0 d1 ?_ λv hv=> ?_
  .intro z hz;simp only[aP,cO,cR] at hz
   rcases hz with rfl|rfl<;>exact⟨_,rfl,by decide,by decide⟩
  obtain⟨up,rfl,u0,u6⟩:=hv;refine⟨b,up,k+6,Z,B9,by lia,u0,by lia,λsz V_ z0 z1 B10 O10=> ?_⟩;have W10:=W9.take B10 O10;have e10:=O10.kept _ _ np6 (O9.kept _ _ np6 (ah.upd KO _ _ e7));refine⟨1,sz,Z,Z,_,Z,_,Z,_,Z,p6,_,Z,.inl (cF.of e10),b,_,k+7,Z,B10,by lia,by rw[hll];lia,by rw[hll];lia,λr11 LA f0 f1 B11 O11=> ?_⟩;have YZ:=W10.take B11 O11;refine gR (λv=>∃d,zD "mark" d/\∀H,iS H v d) (O11.kept _ _ np6 e10) f0 f1 mko λv hv=> ?_;obtain⟨d,fd,td⟩:=hv;refine⟨Hq,λt ht=> ?_⟩;have W12:=YZ.same (ah.upd (o:= .tup [V.str "make",.str x,.int (1+sz),v]) ht);exact q _ _ (y9.mk (ks:=["name","size","mark"]) (ps:=[.str x,.int (1+sz),d]) af (by decide+kernel) (.cons (.name x hx) (.cons (.num "size" 1 6 _ (by decide+kernel) (by lia) (by lia)) (.cons fd .nil))) (.cons (.str _) (.cons (.int _) (.cons (td _) .nil)))) (W12.box.mono (by lia)) W12.kp
 .have PQ:¬kind<2:=λz=>PQ (aS z);refine⟨_,Z,b,7,k+5,Z,W5.box,by lia,by decide,by decide,λn7 H6 d0 d1 B6 O6=> ?_⟩;have W6:=W5.take B6 O6;refine⟨n7,3,Z,Z,_,Z,10,30,Z,Z,⟨by decide,by decide,by decide⟩,2,_,Z,Z,.inl ⟨by decide,by decide⟩,_,1,Z,Z,?_⟩;rw[RJ];refine⟨b,_,k+6,Z,B6,by lia,by decide,by decide,λnb7 H7 f0 f1 B7 O7=> ?_⟩;have W7:=W6.take B7 O7;refine⟨10,30,Z,Z,⟨by decide,by decide,by decide⟩,_,_,Z,Z,_,1,Z,Z,?_⟩;rw[RJ];refine⟨hV,λp8 KO=> ?_⟩;have W8:=W7.same (ah.upd (o:= .lst [V.int (n7 - 3),.int (nb7 - 1000000000000000000000000000000+1)]) KO);have np8:p8≠b:=W7.box.ne KO;refine⟨_,Z,b,5,k+7,Z,W8.box,by lia,by decide,by decide,λr8 H9 g0 g1 B9 O9=> ?_⟩;have W9:=W8.take B9 O9;refine⟨Z,.inr ⟨_,Z,?_⟩⟩;refine gR (λv=>∃i:Int,v= .int i/\i.natAbs<10 ^ 40) (O9.kept _ _ np8 af) (by split<;>decide) (by split;exact(show(1:Int)<2 by decide);exact(show(0:Int)<2 by decide)) ?_ λv hv=> ?_
  .have e40:(10:Nat) ^ 40=10000000000000000000000000000000000000000:=by decide+kernel
   intro z hz;simp only[aP,cO,cR] at hz;rcases hz with rfl|rfl
   .exact⟨_,Z,by rw[e40];lia⟩
   .exact⟨_,Z,by rw[e40];lia⟩
  obtain⟨num,rfl,aal⟩:=hv;clear W6 W7 W8 O6 O7 O9 B6 B7;have fx:=zD.name x hx;have fy:=zD.name y hy;refine⟨_,Z,_,Z,_,Z,Hq,λt1 uo=> ?_⟩;have u1:=ah.upd (o:= .tup [V.str "put",.str x,.int cl,.str y]) uo;have S1:y9 (upd H9 t1 (.tup [V.str "put",.str x,.int cl,.str y])) (.ref t1):=y9.mk (ks:=["name","cell","name"]) (ps:=[.str x,.int cl,.str y]) af (by decide+kernel) (.cons fx (.cons fc (.cons fy .nil))) (.cons (.str _) (.cons (.int _) (.cons (.str _) .nil)));have V1:=W9.same u1;generalize upd H9 t1 (.tup [V.str "put",.str x,.int cl,.str y])=G1 at u1 S1 V1 ⊢;refine⟨_,Z,_,Z,_,Z,Hq,λt2 wO=> ?_⟩;have u2:=ah.upd (o:= .tup [V.str "get",.str x,.str y,.int cl]) wO;have S2:y9 (upd G1 t2 (.tup [V.str "get",.str x,.str y,.int cl])) (.ref t2):=y9.mk (ks:=["name","name","cell"]) (ps:=[.str x,.str y,.int cl]) af (by decide+kernel) (.cons fx (.cons fy (.cons fc .nil))) (.cons (.str _) (.cons (.str _) (.cons (.int _) .nil)));have V2:=V1.same u2;replace S1:=S1.same u2;generalize upd G1 t2 (.tup [V.str "get",.str x,.str y,.int cl])=G2 at u2 S1 S2 V2 ⊢;refine⟨_,Z,_,Z,hV,λp3 BN=> ?_⟩;have u3:=ah.upd (o:= .lst [V.bp,V.int num]) BN;have V3:=V2.same u3;have np3:p3≠b:=V2.box.ne BN;refine⟨_,Z,b,2,k+8,Z,V3.box,by lia,by decide,by decide,λr3 G3 h0 h1 B3 O3=> ?_⟩;have V4:=V3.take B3 O3;replace S1:=(S1.same u3).box V3.box O3;replace S2:=(S2.same u3).box V3.box O3;refine gR (λv=>∃d,zD "value" d/\∀H,iS H v d) (O3.kept _ _ np3 af) h0 h1 ?_ λv hv=> ?_
  .intro z hz;simp only[aP,cO,cR] at hz;rcases hz with rfl|rfl
   .exact⟨_,.Fe,λ_=> .bp⟩
   .exact⟨_,.value num aal,λ_=> .int _⟩
  obtain⟨d,fd,td⟩:=hv;refine⟨FN,λt3 qC=> ?_⟩;have u5:=ah.upd (o:= .tup [V.str "set",.str x,v]) qC;have S3:y9 (upd G3 t3 (.tup [V.str "set",.str x,v])) (.ref t3):=y9.mk (ks:=["name","value"]) (ps:=[.str x,d]) af (by decide+kernel) (.cons fx (.cons fd .nil)) (.cons (.str _) (.cons (td _) .nil));have V5:=V4.same u5;replace S1:=S1.same u5;replace S2:=S2.same u5;generalize upd G3 t3 (.tup [V.str "set",.str x,v])=G5 at u5 S1 S2 S3 V5 ⊢;refine⟨_,Z,_,Z,FN,λt4 Ke=> ?_⟩;have u6:=ah.upd (o:= .tup [V.str "copy",.str x,.str y]) Ke;have S4:y9 (upd G5 t4 (.tup [V.str "copy",.str x,.str y])) (.ref t4):=y9.mk (ks:=["name","name"]) (ps:=[.str x,.str y]) af (by decide+kernel) (.cons fx (.cons fy .nil)) (.cons (.str _) (.cons (.str _) .nil));have V6:=V5.same u6;replace S1:=S1.same u6;replace S2:=S2.same u6;replace S3:=S3.same u6;generalize upd G5 t4 (.tup [V.str "copy",.str x,.str y])=G6 at u6 S1 S2 S3 S4 V6 ⊢;refine⟨Hq,λsl X9=> ?_⟩;have u7:=ah.upd (o:= .lst [V.ref t1,.ref t2,.ref t3,.ref t4]) X9;have e7:upd G6 sl (.lst [V.ref t1,.ref t2,.ref t3,.ref t4]) sl=some (.lst [V.ref t1,.ref t2,.ref t3,.ref t4]):=af;have V7:=V6.same u7;replace S1:=S1.same u7;replace S2:=S2.same u7;replace S3:=S3.same u7;replace S4:=S4.same u7;generalize upd G6 sl (.lst [V.ref t1,.ref t2,.ref t3,.ref t4])=G7 at u7 e7 S1 S2 S3 S4 V7 ⊢;refine⟨_,Z,_,Z,_,Z,_,Z,Hq,λt5 Qw=> ?_⟩;have u8:=ah.upd (o:= .tup [V.str "more",.str x,.str y,.int num]) Qw;have S5:y9 (upd G7 t5 (.tup [V.str "more",.str x,.str y,.int num])) (.ref t5):=y9.mk (ks:=["name","name","number"]) (ps:=[.str x,.str y,.int num]) af (by decide+kernel) (.cons fx (.cons fy (.cons (.number num aal) .nil))) (.cons (.str _) (.cons (.str _) (.cons (.int _) .nil)));generalize upd G7 t5 (.tup [V.str "more",.str x,.str y,.int num])=G8 at u8 S5 ⊢;refine⟨_,Z,hV,λt6 Y2=> ?_⟩;have u9:=ah.upd (o:= .tup [V.str "tell",.str x]) Y2;have S6:y9 (upd G8 t6 (.tup [V.str "tell",.str x])) (.ref t6):=y9.mk (ks:=["name"]) (ps:=[.str x]) af (by decide+kernel) (.cons fx .nil) (.cons (.str _) .nil);generalize upd G8 t6 (.tup [V.str "tell",.str x])=G9 at u9 S6 ⊢;refine⟨_,Z,_,Z,FN,λt7 ht7=> ?_⟩;have u10:=ah.upd (o:= .tup [V.str "same",.str x,.str y]) ht7;have S7:y9 (upd G9 t7 (.tup [V.str "same",.str x,.str y])) (.ref t7):=y9.mk (ks:=["name","name"]) (ps:=[.str x,.str y]) af (by decide+kernel) (.cons fx (.cons fy .nil)) (.cons (.str _) (.cons (.str _) .nil));generalize upd G9 t7 (.tup [V.str "same",.str x,.str y])=G10 at u10 S7 ⊢;refine⟨FN,λl2 n5=> ?_⟩;have u11:=ah.upd (o:= .lst [V.ref t5,.ref t6,.ref t7]) n5;have aa0:=(u8.trans u9).trans u10;refine⟨sl,l2,_,_,Z,Z,u11 _ _ (aa0 _ _ e7),af,acX,λl3 hl3=> ?_⟩;have u12:=ah.upd (o:= .lst ([V.ref t1,.ref t2,.ref t3,.ref t4]++[V.ref t5,.ref t6,.ref t7])) hl3;have e12:upd (upd G10 l2 (.lst [V.ref t5,.ref t6,.ref t7])) l3 (.lst ([V.ref t1,.ref t2,.ref t3,.ref t4]++[V.ref t5,.ref t6,.ref t7])) l3=some (.lst ([V.ref t1,.ref t2,.ref t3,.ref t4]++[V.ref t5,.ref t6,.ref t7])):=af;have xu:=u11.trans u12;refine⟨_,Z,kind,2,Z,Z,?_⟩;generalize upd (upd G10 l2 (.lst [V.ref t5,.ref t6,.ref t7])) l3 (.lst ([V.ref t1,.ref t2,.ref t3,.ref t4]++[V.ref t5,.ref t6,.ref t7]))=G12 at xu e12 ⊢;have s7:=aa0.trans xu;have V12:=V7.same s7;refine gR (y9 G12) e12 (by lia) (by show kind - 2<7;lia) ?_ λv hv=>q v G12 hv (V12.box.mono (by lia)) V12.kp;intro z hz;simp only[zN,oE,aP,cO,cR] at hz;rcases hz with rfl|rfl|rfl|rfl|rfl|rfl|rfl
  .exact S1.same s7
  .exact S2.same s7
  .exact S3.same s7
  .exact S4.same s7
  .exact S5.same ((u9.trans u10).trans xu)
  .exact S6.same (u10.trans xu)
  .exact S7.same xu
noncomputable def bA(H H' :Hp):Hp:=λc=>match H' c with
 |some (.lst xs)=>(match H c with
  |none=>some (.lst xs)
  |some _=>none)
 |o=>o
theorem vh{H H' :Hp}{c:S'}{xs:ak}(h:H c=none)(e:H' c=some (.lst xs)):bA H H' c=some (.lst xs):=by
 unfold bA;rw[e,h]
theorem jV{H H' :Hp}{c:S'}{xs:ak}(e:H' c=some (.tup xs)):bA H H' c=some (.tup xs):=by
 unfold bA;rw[e]
theorem kU{H H' :Hp}{c:S'}{xs:ak}(e:bA H H' c=some (.lst xs)):H c=none/\H' c=some (.lst xs):=by
 unfold bA at e
 cases e1:H' c with
 |none=>rw[e1] at e;cases e
 |some o=>
  rw[e1] at e
  cases o with
  |lst ys=>
   cases e2:H c with
   |none=>rw[e2] at e;exact⟨Z,e⟩
   |some _=>rw[e2] at e;cases e
  |_=>cases e
theorem BC{H H' :Hp}{c:S'}{xs:ak}(e:bA H H' c=some (.tup xs)):H' c=some (.tup xs):=by
 unfold bA at e
 cases e1:H' c with
 |none=>rw[e1] at e;cases e
 |some o=>
  rw[e1] at e
  cases o with
  |lst ys=>
   cases e2:H c with
   |none=>rw[e2] at e;cases e
   |some _=>rw[e2] at e;cases e
  |_=>exact e
theorem NP{H H1 H' gX :Hp}(f:∀c,H1 c=none->H c=none)(k:KT H' gX)(l:∀c xs,H1 c=none->H' c=some (.lst xs)->gX c=some (.lst xs)){v:V}{d:U'}(h:Dat (bA H1 H') v d):Dat (bA H gX) v d:=
 Eu (λc xs e=>jV (k _ _ (BC e))) (λc xs e=>vh (f c (kU e).1) (l c xs (kU e).1 (kU e).2)) h
theorem kZ{H H1 H' gX :Hp}(f:∀c,H1 c=none->H c=none)(k:KT H' gX)(l:∀c xs,H1 c=none->H' c=some (.lst xs)->gX c=some (.lst xs)){v:ak}{d:List U'}(h:DatAll (bA H1 H') v d):DatAll (bA H gX) v d:=
 rC (λc xs e=>jV (k _ _ (BC e))) (λc xs e=>vh (f c (kU e).1) (l c xs (kU e).1 (kU e).2)) h
theorem QL{H H' :Hp}{v:V}{d:U'}(h:iS H' v d):Dat (bA H H') v d:=(h.kt λ_ _ e=>jV e).dat
noncomputable def Ds.of:List Dd->Ds
 |[]=> .nil
 |d::r=> .cons d (Ds.of r)
theorem Ws:∀l:List Dd,(Ds.of l).l=l
 |[]=>rfl
 |d::r=>by show d::(Ds.of r).l=_;rw[Ws r]
theorem jag:∀{l:List Dd},(∀d∈l,l8 d)->mD (Ds.of l)
 |[],_=>by rw[Ds.of,mD];exact True.intro
 |d::r,h=>by rw[Ds.of,mD];exact⟨h d c5,jag λx hx=>h x (cw _ hx)⟩
theorem CN{n:Nat}:∀{l:List Dd},(∀d∈l,mF d<=n)->eO (Ds.of l)<=n
 |[],_=>by rw[Ds.of,eO];exact cH _
 |d::r,h=>by rw[Ds.of,eO];exact Nat.max_le.mpr ⟨h d c5,CN λx hx=>h x (cw _ hx)⟩
theorem JF(l:List Dd):d_ (Ds.of l)=l.length+(l.map jM).sum:=by rw[z_,Ws]
theorem Wd(l:List Dd):sL (Ds.of l)=l.map dD:=by rw[GH,Ws]
theorem hU.trans{b f:S'}{H H1 H2:Hp}(a:hU b f H H1)(c:hU b f H1 H2):hU b f H H2:=λx o h1 h2 e=>c x o h1 h2 (a x o h1 h2 e)
theorem _root_.L2.ah.iB{b f:S'}{H H' :Hp}(s:ah H H'):hU b f H H' :=λc o _ _ e=>s _ _ e
theorem Kept.iB{b f:S'}{H H' :Hp}(s:Kept b H H'):hU b f H H' :=λc o h _ e=>s _ _ h e
theorem hU.kt{b f:S'}{H H' :Hp}{k:Nat}{xs:ak}(a:hU b f H H')(B:dg H b k)(hl:H f=some (.lst xs)):KT H H' :=λc ys e=>by
 obtain⟨x,y,z,hb,_⟩:=B;exact a _ _ (dB e hb (λz=>nomatch z)) (dB e hl (λz=>nomatch z)) e
theorem zE{H:Hp}{a p:S'}{xs:ak}{Q:VK}(ha:H a=some (.lst xs))(hp:H p=some (.lst []))(q:Q (.bl xs.isEmpty) H):Zf false (.ref a) (.ref p) H Q:=by
 refine⟨a,p,xs,[],Z,Z,ha,hp,?_⟩
 cases xs with
 |nil=>exact .inr ⟨Z,Z,Z,q⟩
 |cons x r=>exact .inl ⟨(λz=>by cases z),q⟩
structure Nw(H H1:Hp)(b lf fl:S')(H' :Hp)(kc:Nat)(m:Int)(ds:List Dd)(ws:ak):Prop where
 kp:hU b lf H H'
 fl:H' fl=some (.lst ws)
 dat:DatAll (bA H1 H') ws (ds.map dD)
 box:dg H' b kc
 left:H' lf=some (.lst [.int m])
theorem Nw.move{H H1 H' gX :Hp}{b lf fl:S'}{kc T5 :Nat}{m m' :Int}{ds:List Dd}{ws:ak}(h:Nw H H1 b lf fl H' kc m ds ws)(n1:H1 b≠none)(n2:H1 lf≠none)(nb:fl≠b)(nf:fl≠lf)(k:hU b lf H' gX)(B:dg gX b T5)(L:gX lf=some (.lst [.int m'])):Nw H H1 b lf fl gX T5 m' ds ws:=
 ⟨h.kp.trans k,k _ _ nb nf h.fl,kZ (λ_ e=>e) (k.kt h.box h.left) (λc xs e1 e2=>k _ _ (λz=>n1 (z▸e1)) (λz=>n2 (z▸e1)) e2) h.dat,B,L⟩
theorem Nw.push{H H1 H' :Hp}{b lf fl:S'}{kc:Nat}{m:Int}{ds:List Dd}{ws:ak}{v:V}{d:Dd}(h:Nw H H1 b lf fl H' kc m ds ws)(n0:H fl=none)(n1:H1 fl≠none)(nb:fl≠b)(nf:fl≠lf)(g:Dat (bA H1 H') v (dD d)):Nw H H1 b lf fl (upd H' fl (.lst (ws++[v]))) kc m (ds++[d]) (ws++[v]):=by
 have k:KT H' (upd H' fl (.lst (ws++[v]))):=KT.upd h.fl
 have l:∀c xs,H1 c=none->H' c=some (.lst xs)->upd H' fl (.lst (ws++[v])) c=some (.lst xs):=λc xs e1 e2=>by
  rw[az (λz:c=fl=>n1 (z▸e1))];exact e2
 refine⟨λc o h1 h2 e=> ?_,af,?_,?_,?_⟩
 .rw[az (aA e n0)];exact h.kp _ _ h1 h2 e
 .rw[i7];exact Bi (kZ (λ_ e=>e) k l h.dat) (.cons (NP (λ_ e=>e) k l g) .nil)
 .obtain⟨x,y,z,hb,r⟩:=h.box;exact⟨x,y,z,by rw[az nb.symm];exact hb,r⟩
 .rw[az nf.symm];exact h.left
structure BdN(rm k:Nat)(lv:Int)(kc:Nat)(m:Int)(ds:List Dd):Prop where
 ok:∀d∈ds,l8 d
 dp:∀d∈ds,mF d<=rm
 mn:ds.length+(ds.map jM).sum+m.toNat<=lv.toNat
 kb:(kc:Int)+30*m<=k+30*lv+1
 lo:0<=lv-> -(2*(rm:Int))<=m
 ZV:lv<0->m=lv
 le:m<=lv
theorem BdN.push{rm k:Nat}{lv:Int}{kc T5 :Nat}{m m' :Int}{ds:List Dd}{d:Dd}(h:BdN rm k lv kc m ds)(hm:1<=m)(ok:l8 d)(dp:mF d<=rm)(mn:1+jM d+m'.toNat<=m.toNat)(kb:(T5 :Int)+30*m'<=kc+30*m)(lo: -(2*(rm:Int))<=m')(le:m'<=m):BdN rm k lv T5 m' (ds++[d]):=by
 have h1:=h.mn;have h2:=h.kb;have h3:=h.le;have h4:=h.ZV;refine⟨λx hx=> ?_,λx hx=> ?_,?_,by lia,λ_=>lo,λz=>by have:=h4 z;lia,by lia⟩
 .rcases eB.mp hx with hx|hx
  .exact h.ok x hx
  .rw[gm.mp hx];exact ok
 .rcases eB.mp hx with hx|hx
  .exact h.dp x hx
  .rw[gm.mp hx];exact dp
 .rw[bu,i7,List.sum_append];show ds.length+1+((ds.map jM).sum+(jM d+0))+m'.toNat<=_
  lia
structure Bo(n:Nat)(H:Hp)(b lf nl ll al:S')(rm k:Nat)(lv:Int)(ns A6 ar:au):Prop where
 room:rm<n
 r8:rm<=8
 box:dg H b k
 left:H lf=some (.lst [.int lv])
 low: -40+2*(rm:Int)<=lv
 up:lv<=44
 kb:(k:Int)+30*lv+2000<=90000
 nm:Ca H nl ns
 ne:ns≠[]
 lb:Ca H ll A6
 lg:∀x∈A6,x≠ "ground"
 arA:Ca H al ar
 arn:ar.length+rm<=20
 d1:lf≠b
 d2:nl≠b/\nl≠lf
 d3:ll≠b/\ll≠lf
 d4:al≠b/\al≠lf
structure zZ(H:Hp)(b lf l:S')(rm k:Nat)(lv:Int)(ds:List Dd)(H' :Hp)(k' :Nat)(Ez :Int):Prop where
 new:H l=none
 ls:∃ws,H' l=some (.lst ws)/\DatAll (bA H H') ws (ds.map dD)
 ok:∀d∈ds,l8 d
 dp:∀d∈ds,mF d<=rm
 mn:ds.length+(ds.map jM).sum+Ez.toNat<=lv.toNat
 box:dg H' b k'
 left:H' lf=some (.lst [.int Ez])
 kb:(k' :Int)+30*Ez<=k+30*lv+1
 lo:0<=lv-> -(1+2*(rm:Int))<=Ez
 ZV:lv<0->lv - 1<=Ez
 le:Ez<=lv
 kp:hU b lf H H'
theorem Ca.k2{H H' :Hp}{l b f:S'}{ns:au}(h:Ca H l ns)(k:hU b f H H')(n:l≠b/\l≠f):Ca H' l ns:=⟨k _ _ n.1 n.2 h.1,h.2⟩
theorem Bo.again{n n' :Nat}{H H' :Hp}{b lf nl ll al Jz :S'}{rm rm' k k' :Nat}{lv Ez :Int}{ns A6 ar ar' :au}(h:Bo n H b lf nl ll al rm k lv ns A6 ar)(hr:rm' <n')(hr1:rm' +1=rm)(kp:hU b lf H H')(B:dg H' b k')(L:H' lf=some (.lst [.int Ez]))(lo: -(2*(rm' :Int)+1)<=Ez)(up:Ez<=lv)(kb:(k' :Int)+30*Ez<=k+30*lv)(a:Ca H' Jz ar')(d:Jz≠b/\Jz≠lf)(hl:ar'.length<=ar.length+1):Bo n' H' b lf nl ll Jz rm' k' Ez ns A6 ar' :=by
 have h1:=h.r8;have h2:=h.up;have h3:=h.kb;have h4:=h.arn;exact⟨hr,by lia,B,L,by lia,by lia,by lia,h.nm.k2 kp h.d2,h.ne,h.lb.k2 kp h.d3,h.lg,a,by lia,h.d1,h.d2,h.d3,d⟩
theorem VA{s1 s2:Ds}{t u:Bool}(h1:mD s1)(h2:mD s2):l8 (.mk "either" [] (.cons t s1 (.cons u s2 .nil))):=by
 rw[l8,pG,pG,pG];exact⟨⟨[],by show(("either" :Str),(["body","body"]:au))∈bg;decide+kernel,.nil⟩,h1,h2,True.intro⟩
theorem WW{s1:Ds}{t:Bool}{l:Str}(h1:mD s1)(hl:cv l=true)(hg:l≠ "ground"):l8 (.mk "frame" [.str l] (.cons t s1 .nil)):=by
 rw[l8,pG,pG];exact⟨⟨["label"],by show(("frame" :Str),(["label","body"]:au))∈bg;decide+kernel,.cons (.label l hl hg) .nil⟩,h1,True.intro⟩
theorem Vs{s1:Ds}{t:Bool}{l:Str}{m n:Int}(h1:mD s1)(hl:cv l=true)(hg:l≠ "ground")(m1:1<=m)(m3:m<=3)(n0:0<=n)(n4:n<=4):l8 (.mk "turns" [.str l,.int m,.int n] (.cons t s1 .nil)):=by
 rw[l8,pG,pG];exact⟨⟨["label","many","times"],by show(("turns" :Str),(["label","many","times","body"]:au))∈bg;decide+kernel,.cons (.label l hl hg) (.cons (.num "many" 1 3 m (by decide+kernel) m1 m3) (.cons (.num "times" 0 4 n (by decide+kernel) n0 n4) .nil))⟩,h1,True.intro⟩
theorem XD{tt:TT}{a b:TS}{D:Ends}{σ:L2.St}{H:Hp}(C:Prop)(ht:∀Q' :Bool->Hp->Prop,(∀H8,ah H H8->C->Q' true H8)->(∀H8,ah H H8->¬C->Q' false H8)->tt σ H Q')(ha:∀H8,ah H H8->C->a D σ H8)(hb:∀H8,ah H H8->¬C->b D σ H8):XR tt a b D σ H:=
 ht _ (λH8 s c=>a9 (ha H8 s c)) (λH8 s c=>bo (hb H8 s c))
theorem zZ.XY{H8 H1 Ha Hz:Hp}{b lf l:S'}{rm k k' :Nat}{lv Ez :Int}{ds:List Dd}{ws:ak}(po:zZ H8 b lf l rm k lv ds Ha k' Ez)(o:∀c,H8 c=none->H1 c=none)(x1:H8 b≠none)(x2:H8 lf≠none)(kk:hU b lf Ha Hz)(h:DatAll (bA H8 Ha) ws (ds.map dD)):DatAll (bA H1 Hz) ws (sL (Ds.of ds)):=by
 rw[Wd];exact kZ o (kk.kt po.box po.left) (λc xs e1 e2=>kk c _ (λz=>x1 (z▸e1)) (λz=>x2 (z▸e1)) e2) h
theorem zZ.lst{H8 H1 Ha Hz:Hp}{b lf l:S'}{rm k k' :Nat}{lv Ez :Int}{ds:List Dd}{ws:ak}(po:zZ H8 b lf l rm k lv ds Ha k' Ez)(o:∀c,H8 c=none->H1 c=none)(x1:H8 b≠none)(x2:H8 lf≠none)(kk:hU b lf Ha Hz)(e:Ha l=some (.lst ws))(h:DatAll (bA H8 Ha) ws (ds.map dD)):Dat (bA H1 Hz) (.ref l) (iN false (sL (Ds.of ds))):=
 .lst (vh (o _ po.new) (kk _ _ (λz=>x1 (z▸po.new)) (λz=>x2 (z▸po.new)) e)) (po.XY o x1 x2 kk h)
def V0(n:Nat):Sp:=λvs H Q _=>∃(b lf nl ll al:S') (rm k:Nat) (lv:Int) (ns A6 ar:au),vs=[.ref b,.ref lf,.ref nl,.ref ll,.ref al,.int rm]/\Bo n H b lf nl ll al rm k lv ns A6 ar/\
 ∀l ds H' k' Ez,zZ H b lf l rm k lv ds H' k' Ez->Q (.ref l) H'
theorem EV(T:Txt K mg A)(n:Nat):aT P w K mg base dO (2+n) A.qO A.yE ["_law_box_here","_law_left","_law_names_here","_law_labels","_law_around","_law_room"] (V0 n):=by
 induction n with
 |zero=>exact fu (by rintro vs H Q E ⟨b,lf,nl,ll,al,rm,k,lv,ns,A6,ar,_,h,_⟩;exact iH _ h.room)
 |succ n ih=>
 show aT P w K mg base dO ((2+n)+1) _ _ _ _;refine T.jW.F.ok dM (λvs H Q E h=> ?_) (λcB Ar outer s0 H vs Q E hr h=> ?_)
 .obtain⟨b,lf,nl,ll,al,rm,k,lv,ns,A6,ar,rfl,_⟩:=h;rfl
 .obtain⟨b,lf,nl,ll,al,rm,k,lv,ns,A6,ar,rfl,pre,q⟩:=h
  have Hk:(nD dO P w K mg base ["_law_box_here","_law_left","_law_names_here","_law_labels","_law_around","_law_room","_law_found","_law_turn","_law_kind","_law_free","_law_one","_law_label","_law_many","_law_times","_law_inner"] "_law_body" (av pP) A.qO cB Ar outer s0 H E).KD.A.units<cLine:=by
   have:=hr.un;show(Ar.deeper _).units<cLine;omega
  obtain⟨ahY,r8,B,QJ,low,up,kb,hnm,wQ,hlb,hlg,Q6,arn,d1,d2,d3,d4⟩:=id pre;refine⟨_,(aj (gf 6 dM.nd (bH dY)) (aj (A5 (gJ Z T.kT (aM (cG (aE T) hr T.aF aC (ag (pv 0) (aM (cS a8 (bH (ag ae (aM ae))) (NA xj T.CD Boot.«int» (aM (HG (oz Hk) (pv 4) (bH dY))))))) (hj:=by lia)))) (jE 7 dM.nd) (aj (gf 8 dM.nd (cG (aE T) hr T.aF aC (ag (pv 0) (aM ae)) (hj:=by lia))) (aj (BE (aL iT (cS a8 (pv 1) ae) ae) (Ef (pv 1) ae ZB)) (aj (Il 9 dM.nd ["_law_label","_law_around"] 1 [4] (ff (pv 3)) (λ_ _ _ _ _=>⟨(jE 0 (show(["_law_label","_law_around"]:au).Nodup by decide+kernel)),(LS (wn (Ct (K:=K) Z) (pv 0) (pv 1))),(pv 0)⟩)) (aj (bU (wn A0 (cS a8 (pv 1) ae) ae) (aq (aH (pv 6))) bf) (aq (bU (PW.pt (WF (wn tQ (pv 8) ae) (WF (wn cK (pv 5) ae) (WP (PW.pt (wT (wn (oz Hk) (pv 9) (bH dY)) (xz (wn A0 (pv 8) ae)))))))) (aq (bZ (lR gT D' F' dw (pv 6) (aM (cG (Ay T) hr T.tJ aC (ag (pv 0) (ag (pv 2) (aM (pv 4)))) (hj:=by lia)))))) (aq (bU (wn cK (pv 8) ae) (aj (gf 10 dM.nd (cG ih hr T.jW aC (ag (pv 0) (ag (pv 1) (ag (pv 2) (ag (pv 3) (ag (pv 4) (aM (aL iT (pv 5) ae))))))) (hj:=by lia))) (aq (bZ (lR gT D' F' dw (pv 6) (aM (bt (ag ai (ag (pv 10) (aM (NA eQ T.iE Boot.«tuple» (aM (cG ih hr T.jW aC (ag (pv 0) (ag (pv 1) (ag (pv 2) (ag (pv 3) (ag (pv 4) (aM (aL iT (pv 5) ae))))))) (hj:=by lia))))))))))))) (aj (gf 11 dM.nd (cS a8 (pv 9) (cG (aE T) hr T.aF aC (ag (pv 0) (aM (iR br T.g7 Boot.«len» (aM (pv 9))))) (hj:=by lia)))) (aj (Jg (i:=12) (j:=13) Z dM.nd Z Z (by decide) Z Z (ag (aL bw ae (cG (aE T) hr T.aF aC (ag (pv 0) (aM ae)) (hj:=by lia))) (aM (cG (aE T) hr T.aF aC (ag (pv 0) (aM ae)) (hj:=by lia)))) (by rfl)) (aj (gf 14 dM.nd (cG ih hr T.jW aC (ag (pv 0) (ag (pv 1) (ag (pv 2) (ag (pv 3) (ag (aL fH (bH (aM (pv 11))) (pv 4)) (aM (aL iT (pv 5) ae))))))) (hj:=by lia))) (aq (bZ (lR gT D' F' dw (pv 6) (aM (cS a8 (bH (ag (bt (ag ai (ag (pv 11) (aM (NA eQ T.iE Boot.«tuple» (aM (pv 14))))))) (aM (bt (ag ai (ag (pv 11) (ag (pv 12) (ag (pv 13) (aM (pv 14)))))))))) (pv 8)))))))))))))))))) (aq (aH (pv 6))))),?_⟩;refine⟨nq,λfl pd=> ?_⟩;have s1:=ah.upd (o:= .lst []) pd;have e1:upd H fl (.lst []) fl=some (.lst []):=af;have f1:∀c,upd H fl (.lst []) c=none->H c=none:=λc h=>s1.free h
  have g1:∀c o,upd H fl (.lst []) c=some o->c=fl\/∃o,H c=some o:=λc o h=>by
   by_cases z:c=fl
   .exact .inl z
   .rw[az z] at h;exact .inr ⟨o,h⟩
  generalize upd H fl (.lst [])=H1 at s1 e1 f1 g1 ⊢;have nb:fl≠b:=B.ne pd;have nf:fl≠lf:=(aA QJ pd).symm
  have x1:H1 b≠none:=by
   obtain⟨x,y,z,hb,_⟩:=B;rw[s1 _ _ hb];exact λz=>nomatch z
  have x2:H1 lf≠none:=by rw[s1 _ _ QJ];exact λz=>nomatch z
  have x3:H1 fl≠none:=by rw[e1];exact λz=>nomatch z
  have old:∀{H' :Hp} {kc:Nat} {m:Int} {ds:List Dd} {ws:ak},Nw H H1 b lf fl H' kc m ds ws->∀c,H' c=none->H1 c=none:=λ{H' kc m ds ws} D c h=>by
   cases e:H1 c with
   |none=>rfl
   |some o=>
    rcases g1 c o e with z|⟨o',z⟩
    .rw[z,D.fl] at h;cases h
    .by_cases zb:c=b
     .obtain⟨x,y,z',hb,_⟩:=D.box;rw[zb,hb] at h;cases h
     .by_cases zf:c=lf
      .rw[zf,D.left] at h;cases h
      .rw[D.kp _ _ zb zf z] at h;cases h
  have xb:∀{H' :Hp} {kc:Nat} {m:Int} {ds:List Dd} {ws:ak},Nw H H1 b lf fl H' kc m ds ws->H' b≠none/\H' lf≠none:=λ{H' kc m ds ws} D=>by
   obtain⟨x,y,z',hb,_⟩:=D.box;rw[hb,D.left];exact⟨λz=>(nomatch z),λz=>(nomatch z)⟩
  have D1:Nw H H1 b lf fl H1 k lv [] []:=⟨s1.iB,e1,.nil,B.same s1,s1 _ _ QJ⟩;refine⟨_,Z,hV,λp2 CO=>⟨_,Z,nq,λp3 BN=> ?_⟩⟩;have u2:=ah.upd (o:= .lst [V.int 5,V.int 14]) CO;have u3:=ah.upd (o:= .lst []) BN;have s3:=u2.trans u3;have e3:=u3 _ _ (af (H:=H1) (a:=p2) (o:= .lst [V.int 5,V.int 14]));refine zE (s3 _ _ (s1 _ _ Q6.1)) af ?_;generalize upd (upd H1 p2 (.lst [V.int 5,V.int 14])) p3 (.lst [])=H3 at s3 e3 ⊢;refine .inr ⟨_,Z,?_⟩;refine gR (λv=>∃i:Int,v= .int i/\0<i/\i<=14) e3 (by split<;>decide) (by split;exact(show(1:Int)<2 by decide);exact(show(0:Int)<2 by decide)) ?_ λv hv=> ?_
  .intro z hz;simp only[aP,cO,cR] at hz
   rcases hz with rfl|rfl<;>exact⟨_,rfl,by decide,by decide⟩
  obtain⟨up2,rfl,u0,u14⟩:=hv;have D3:=D1.move x1 x2 nb nf s3.iB (D1.box.same s3) (s3 _ _ D1.left);refine⟨b,up2,k,Z,D3.box,by lia,u0,by lia,λcnt H4 c0 c1 B4 O4=> ?_⟩;have D4:=D3.move x1 x2 nb nf O4.kept.iB B4 (O4.kept _ _ d1 D3.left);refine⟨cnt,Z,by lia,by lia,?_⟩;refine nU (λi σ H' =>∃(x7 x8 x9 x10 x11 x12 x13 x14:Option V) (kc:Nat) (m:Int) (ds:List Dd) (ws:ak),σ=[some (.ref b),some (.ref lf),some (.ref nl),some (.ref ll),some (.ref al),some (.int rm),some (.ref fl),x7,x8,x9,x10,x11,x12,x13,x14]/\Nw H H1 b lf fl H' kc m ds ws/\BdN rm k lv kc m ds) ⟨_,_,_,_,_,_,_,_,k+1,lv,[],[],Z,D4,⟨(λ_ h=>nomatch h),(λ_ h=>nomatch h),by simp,by lia,λh=>by lia,λ_=>rfl,Int.le_refl _⟩⟩ ?_ ?_
  .rintro i σ H' hi ⟨x7,x8,x9,x10,x11,x12,x13,x14,kc,m,ds,ws,rfl,D,N⟩
   obtain⟨Nok,Ndp,Nmn,Nkb,Nlo,PF,Nle⟩:=id N
   have mlo: -40<=m:=by
    by_cases h0:0<=lv
    .have:=Nlo h0
     lia
    .have:=PF (by lia)
     lia
   have wl:ws.length<=44:=by
    have:=fF D.dat;rw[a6] at this
    lia
   have Q3:ws.length<sizeLine:=fA (by lia);refine⟨_,Z,b,7,kc,Z,D.box,by lia,by decide,by decide,λkind H5 k0 k1 B5 O5=> ?_⟩;have D5:=D.move x1 x2 nb nf O5.kept.iB B5 (O5.kept _ _ d1 D.left);refine⟨_,Z,lf,_,0,_,Z,Z,cF.of D5.left,Z,_,_,Z,Z,_,Z,lf,_,0,0,Z,Z,D5.left,Z,?_⟩
   have D6:Nw H H1 b lf fl (upd H5 lf (.lst [.int (m - 1)])) (kc+1) (m - 1) ds ws:=D5.move x1 x2 nb nf (λc o h1 h2 e=>by rw[az h2];exact e) (by
    obtain⟨x,y,z,hb,r⟩:=D5.box;exact⟨x,y,z,by rw[az d1.symm];exact hb,r⟩) af
   show Gu _ _ _ _ (upd H5 lf (.lst [.int (m - 1)]));generalize upd H5 lf (.lst [.int (m - 1)])=H6 at D6 ⊢;have nm6:=hnm.k2 D6.kp d2;have lb6:=hlb.k2 D6.kp d3;have ar6:=Q6.k2 D6.kp d4;have lbl:=lb6.2.1;refine⟨_,Z,ll,Z,⟨_,cF.of lb6.1⟩,?_⟩;refine sr (λv=>match v with| .str z=>decide (z∉ar)|_=>false) (λv=>v) (fL (cF.of lb6.1)) (by rw[a6];exact cT (fA (by lia))) ?_ λp7 Mi=> ?_
   .intro j y H7 C1 C0 hy sm c1 c0;rw[bY] at hy
    cases ex:A6[j]? with
    |none=>rw[ex] at hy;cases hy
    |some z=>
     rw[ex] at hy;cases hy;refine⟨(gA.refl _).own (by decide),_,Z,_,Z,al,_,Z,.inl (cF.of (sm _ _ ar6.1)),Z,k8 _,_,Z,?_⟩;show if(!IT (V.str z) (ar.map V.str))=true then _ else _
     rw[nY];by_cases hz:z∈ar
     .rw[aS hz];exact bo (c0 (ba (λh=>h hz)))
     .rw[ba hz];exact a9 ⟨_,Z,c1 (aS hz)⟩
   obtain⟨fr,wo,afB⟩:∃fr:au,((A6.map V.str).filter λv=>match v with| .str z=>decide (z∉ar)|_=>false).map (λv=>v)=fr.map V.str/\∀x∈fr,x∈A6:=by
    refine⟨A6.filter λz=>decide (z∉ar),?_,λx hx=>(r_.mp hx).1⟩;rw[List.map_id',Et];rfl
   rw[wo];have u7:=ah.upd (o:= .lst (fr.map V.str)) Mi;have e7:upd H6 p7 (.lst (fr.map V.str)) p7=some (.lst (fr.map V.str)):=af;have aeT:p7≠b:=D6.box.ne Mi;have alz:p7≠lf:=(aA D6.left Mi).symm;have D7:=D6.move x1 x2 nb nf u7.iB (D6.box.same u7) (u7 _ _ D6.left);show Gu _ _ _ _ (upd H6 p7 (.lst (fr.map V.str)));generalize upd H6 p7 (.lst (fr.map V.str))=H7 at u7 e7 D7 ⊢;refine⟨_,Z,lf,_,0,_,Z,Z,cF.of D7.left,Z,_,0,Z,Z,_,Z,?_⟩;refine mG (λhm=> ?_) (λhm=> ?_)
   .have hm:m - 1<0:=bD hm;refine⟨_,Z,q fl ds H7 (kc+1) (m - 1) ⟨pd,⟨ws,D7.fl,kZ f1 (λ_ _ e=>e) (λ_ _ _ e=>e) D7.dat⟩,Nok,Ndp,by lia,D7.box,D7.left,by lia,λh=>by have:=Nlo h;lia,λh=>by have:=PF h;lia,by lia,D7.kp⟩⟩
   .have hm:¬m - 1<0:=λz=>hm (aS z);have nm7:=hnm.k2 D7.kp d2;have lb7:=hlb.k2 D7.kp d3;have ar7:=Q6.k2 D7.kp d4;unfold Oj;dsimp only;refine XD (2<kind\/rm=0\/(fr=[]/\kind<2)) (λQ' qT qF=> ?_) (λH8 s8 hC=> ?_) (λH8 s8 hC=> ?_)
    .refine⟨_,Z,_,_,Z,Z,_,Z,?_⟩;refine mG (λh1=>qT _ (ah.refl _) (.inl (bD h1))) (λh1=> ?_);have h1:¬2<kind:=λz=>h1 (aS z);refine⟨_,Z,Z,_,Z,?_⟩;by_cases h2:rm=0
     .rw[h2];exact XV (qT _ (ah.refl _) (.inr (.inl h2)))
     .refine dG (λz=>h2 (by have:=V.int.inj z;lia)) ⟨_,Z,nq,λp8 KO=> ?_⟩;have u8:=ah.upd (o:= .lst []) KO;refine zE (u8 _ _ e7) af ⟨_,Z,?_⟩
      cases hf:fr with
      |nil=>
       refine a9 ⟨_,Z,_,_,Z,Z,_,Z,?_⟩;by_cases h3:kind<2
       .rw[aS h3];exact qT _ u8 (.inr (.inr ⟨hf,h3⟩))
       .rw[ba h3];exact qF _ u8 (λz=>z.elim h1 λz=>z.elim h2 λz=>h3 z.2)
      |cons z zs=>exact bo (qF _ u8 (λz=>z.elim h1 λz=>z.elim h2 λz=>by rw[hf] at z;cases z.1))
    .have D8:=D7.move x1 x2 nb nf s8.iB (D7.box.same s8) (s8 _ _ D7.left);refine⟨_,Z,JD D8.fl,_,Z,_,Z,_,Z,b,nl,al,kc+1,ns,ar,Z,D8.box,by lia,⟨s8 _ _ nm7.1,nm7.2⟩,wQ,⟨s8 _ _ ar7.1,ar7.2⟩,d2.1,d4.1,λv H9 sm9 B9 K9=> ?_⟩;have D9:=D8.move x1 x2 nb nf K9.iB B9 (K9 _ _ d1 D8.left);obtain⟨wd,ps,td,l6⟩:=sm9;refine⟨fl,ws,v,Z,Z,D9.fl,Q3,_,_,_,_,_,_,_,_,kc+1+20,m - 1,ds++[.mk wd ps .nil],ws++[v],Z,D9.push pd x3 nb nf (QL td),N.push (by lia) l6 (by rw[mF,nF];exact cH _) (by rw[jM,mT];lia) (by lia) (by lia) (by lia)⟩
    .have D8:=D7.move x1 x2 nb nf s8.iB (D7.box.same s8) (s8 _ _ D7.left);have h1:¬2<kind:=λz=>hC (.inl z);obtain⟨r,rfl⟩:∃r,rm=r+1:=⟨rm - 1,by have:rm≠0:=λz=>hC (.inr (.inl z));lia⟩;have er:(((r+1:Nat):Int) - 1)=(r:Int):=by lia
     refine⟨_,Z,Z,_,Z,?_⟩;by_cases h2:kind=2
     .rw[h2];refine XV ?_;have Vw:Bo n H8 b lf nl ll al r (kc+1) (m - 1) ns A6 ar:=pre.again (by lia) Z D8.kp D8.box D8.left (by lia) (by lia) (by lia) (Q6.k2 D8.kp d4) d4 (by lia);refine⟨_,Z,_,Z,_,Z,_,Z,_,Z,_,Z,_,1,Z,Z,b,lf,nl,ll,al,r,kc+1,m - 1,ns,A6,ar,by simp only[er,fJ],Vw,λl1 Pc Ha k1' m1 yR=> ?_⟩;obtain⟨X3,ea,da⟩:=yR.ls;have D9:=D8.move x1 x2 nb nf yR.kp yR.box yR.left;have lo1:=yR.lo (by lia);have le1:=yR.le;have kb1:=yR.kb;have mn1:=yR.mn;have ad4:Bo n Ha b lf nl ll al r k1' m1 ns A6 ar:=pre.again (by lia) Z D9.kp D9.box D9.left (by lia) (by lia) (by lia) (Q6.k2 D9.kp d4) d4 (by lia);refine⟨_,Z,JD D9.fl,_,Z,_,Z,_,Z,_,Z,_,Z,_,Z,_,Z,_,1,Z,Z,b,lf,nl,ll,al,r,k1',m1,ns,A6,ar,by simp only[er,fJ],ad4,λl2 ds2 Hb k2' m2 Lx=> ?_⟩;obtain⟨ZT,eb,db⟩:=Lx.ls;have Xq:=D9.move x1 x2 nb nf Lx.kp Lx.box Lx.left;refine⟨l2,ZT,Z,.inl ⟨cF.of eb,λt2 wO=>⟨FN,λt3 qC=> ?_⟩⟩⟩;have v2:=ah.upd (o:= .tup ZT) wO;have v3:=ah.upd (o:= .tup [V.str "either",.ref l1,.ref t2]) qC;have xu:=v2.trans v3;have Tq:=v3 _ _ (af (H:=Hb) (a:=t2) (o:= .tup ZT));have UO:upd (upd Hb t2 (.tup ZT)) t3 (.tup [V.str "either",.ref l1,.ref t2]) t3=some (.tup [V.str "either",.ref l1,.ref t2]):=af;generalize upd (upd Hb t2 (.tup ZT)) t3 (.tup [V.str "either",.ref l1,.ref t2])=Hz at xu Tq UO ⊢;have Lg:=Xq.move x1 x2 nb nf xu.iB (Xq.box.same xu) (xu _ _ Xq.left);have ZV:=Lx.lo;have lo3:=Lx.ZV;have le2:=Lx.le;have kb2:=Lx.kb;have mn2:=Lx.mn;have YK:Dat (bA H1 Hz) (.ref l1) (iN false (sL (Ds.of Pc))):=yR.lst (old D8) (xb D8).1 (xb D8).2 (Lx.kp.trans xu.iB) ea da;have VJ:Dat (bA H1 Hz) (.ref t2) (iN true (sL (Ds.of ds2))):= .tup (jV Tq) (Lx.XY (old D9) (xb D9).1 (xb D9).2 xu.iB db);have dp1:=CN yR.dp;have dp2:=CN Lx.dp;have mm1:=JF Pc;have mm2:=JF ds2;refine⟨fl,ws,_,Z,Z,Lg.fl,Q3,_,_,_,_,_,_,_,_,k2',m2,ds++[.mk "either" [] (.cons false (Ds.of Pc) (.cons true (Ds.of ds2) .nil))],_,Z,Lg.push pd x3 nb nf ?_,N.push (by lia) (VA (jag yR.ok) (jag Lx.ok)) (by rw[mF,nF,nF,nF];lia) (by rw[jM,mT,mT,mT];lia) (by lia) ?_ (by lia)⟩
      .rw[dD,bL,bL,bL];exact .tup (jV UO) (.cons (.str _) (.cons YK (.cons VJ .nil)))
      .by_cases h0:0<=m1
       .have:=ZV h0
        lia
       .have:=lo3 (by lia)
        lia
     .refine dG (λz=>h2 (V.int.inj z)) ?_;have PQ:kind<2:=by lia
      have ad5:fr≠[]:=λz=>hC (.inr (.inr ⟨z,PQ⟩));have frp:=EX.mpr ad5
      have frl:fr.length<=100:=by
       have h1:=congrArg List.length wo;rw[a6,a6] at h1;have h2:=zo (λv:V=>match v with| .str z=>decide (z∉ar)|_=>false) (A6.map V.str);rw[a6] at h2
       lia
      have e8:=s8 _ _ e7;refine⟨_,Z,_,Z,_,Z,p7,_,Z,.inl (cF.of e8),b,_,kc+1,Z,D8.box,by lia,by rw[a6];lia,by rw[a6];lia,λr9 H9 a0 a1 B9 O9=> ?_⟩;have D9:=D8.move x1 x2 nb nf O9.kept.iB B9 (O9.kept _ _ d1 D8.left);refine gR (λv=>∃z,v= .str z/\z∈A6) (O9.kept _ _ aeT e8) a0 a1 (λv hv=> ?_) λv hv=> ?_
      .obtain⟨z,hz,rfl⟩:=jn.mp hv;exact⟨z,Z,afB z hz⟩
      obtain⟨jd,rfl,aaH⟩:=hv;have lbn:=hlb.2.2 jd aaH;have lbg:=hlg jd aaH;refine⟨_,Z,b,3,kc+1+1,Z,D9.box,by lia,by decide,by decide,λm3 V_ b0 b1 B10 O10=> ?_⟩;have Xq:=D9.move x1 x2 nb nf O10.kept.iB B10 (O10.kept _ _ d1 D9.left);refine⟨1,m3,Z,Z,_,Z,b,5,kc+1+1+1,Z,Xq.box,by lia,by decide,by decide,λt5 LA c0' c1' B11 O11=>⟨_,_,Z,?_⟩⟩;have Yi:=Xq.move x1 x2 nb nf O11.kept.iB B11 (O11.kept _ _ d1 Xq.left);have afG:=Q6.k2 Yi.kp d4;refine⟨_,Z,_,Z,_,Z,_,Z,_,Z,yZ,λp12 Xp=>⟨_,Z,p12,al,_,_,Z,Z,af,ah.upd Xp _ _ afG.1,?_,λJz N9 => ?_⟩⟩
      .rw[a6];exact cT (fA (show 1+ar.length<=100000 by lia))
      have Q4:=(ah.upd (o:= .lst [V.str jd]) Xp).trans (ah.upd (o:= .lst ([V.str jd]++ar.map V.str)) N9);have e12:upd (upd LA p12 (.lst [V.str jd])) Jz (.lst ([V.str jd]++ar.map V.str)) Jz =some (.lst ([V.str jd]++ar.map V.str)):=af;have f12:LA Jz =none:=(ah.upd (o:= .lst [V.str jd]) Xp).free N9;generalize upd (upd LA p12 (.lst [V.str jd])) Jz (.lst ([V.str jd]++ar.map V.str))=H12 at Q4 e12 ⊢;have Lg:=Yi.move x1 x2 nb nf Q4.iB (Yi.box.same Q4) (Q4 _ _ Yi.left);have d12:Jz≠b/\Jz≠lf:=⟨Yi.box.ne f12,(aA Yi.left f12).symm⟩
      have adx:Ca H12 Jz (jd::ar):=⟨e12,by rw[bB];lia,λx hx=>by
       rcases aP.mp hx with rfl|hx
       .exact lbn
       .exact Q6.2.2 x hx⟩
      have Vw:Bo n H12 b lf nl ll Jz r (kc+1+1+1+1) (m - 1) ns A6 (jd::ar):=pre.again (by lia) Z Lg.kp Lg.box Lg.left (by lia) (by lia) (by lia) adx d12 (by rw[bB];lia);refine⟨_,Z,_,1,Z,Z,b,lf,nl,ll,Jz,r,kc+1+1+1+1,m - 1,ns,A6,jd::ar,by simp only[er,fJ],Vw,λl1 Pc Ha k1' m1' yR=> ?_⟩;obtain⟨X3,ea,da⟩:=yR.ls;have D13:=Lg.move x1 x2 nb nf yR.kp yR.box yR.left;have lo1:=yR.lo (by lia);have le1:=yR.le;have kb1:=yR.kb;have mn1:=yR.mn;refine⟨_,Z,JD D13.fl,_,Z,_,Z,l1,X3,Z,.inl ⟨cF.of ea,λt1 uo=>⟨FN,λt2 wO=> ?_⟩⟩⟩;have v1:=ah.upd (o:= .tup X3) uo;have v2:=ah.upd (o:= .tup [V.str "frame",.str jd,.ref t1]) wO;have xu:=v1.trans v2;have et1:=v2 _ _ (af (H:=Ha) (a:=t1) (o:= .tup X3));have Tq:upd (upd Ha t1 (.tup X3)) t2 (.tup [V.str "frame",.str jd,.ref t1]) t2=some (.tup [V.str "frame",.str jd,.ref t1]):=af;generalize upd (upd Ha t1 (.tup X3)) t2 (.tup [V.str "frame",.str jd,.ref t1])=Hb at xu et1 Tq ⊢;refine⟨_,Z,_,Z,_,Z,_,Z,aeV,λt3 qC=>⟨hV,λp4 Hf=> ?_⟩⟩;have v3:=ah.upd (o:= .tup [V.str "turns",.str jd,.int (1+m3),.int t5,.ref l1]) qC;have v4:=ah.upd (o:= .lst [V.ref t2,.ref t3]) Hf;have UX:=v3.trans v4;have UO:=v4 _ _ (af (H:=Hb) (a:=t3) (o:= .tup [V.str "turns",.str jd,.int (1+m3),.int t5,.ref l1]));have ep4:upd (upd Hb t3 (.tup [V.str "turns",.str jd,.int (1+m3),.int t5,.ref l1])) p4 (.lst [V.ref t2,.ref t3]) p4=some (.lst [V.ref t2,.ref t3]):=af;refine⟨_,Z,?_⟩;generalize upd (upd Hb t3 (.tup [V.str "turns",.str jd,.int (1+m3),.int t5,.ref l1])) p4 (.lst [V.ref t2,.ref t3])=Hz at UX UO ep4 ⊢;have Y0:=xu.trans UX;have D14:=D13.move x1 x2 nb nf Y0.iB (D13.box.same Y0) (Y0 _ _ D13.left);have YK:Dat (bA H1 Hz) (.ref l1) (iN false (sL (Ds.of Pc))):=yR.lst (old Lg) (xb Lg).1 (xb Lg).2 Y0.iB ea da;have VJ:Dat (bA H1 Hz) (.ref t1) (iN true (sL (Ds.of Pc))):= .tup (jV (UX _ _ et1)) (yR.XY (old Lg) (xb Lg).1 (xb Lg).2 Y0.iB da);have dp1:=CN yR.dp;have mm1:=JF Pc;refine gR (λv=>∃d,Dat (bA H1 Hz) v (dD d)/\l8 d/\mF d<=r+1/\jM d=d_ (Ds.of Pc)) ep4 k0 PQ (λv hv=> ?_) λv hv=> ?_
      .simp only[aP,cO,cR] at hv;rcases hv with rfl|rfl
       .refine⟨.mk "frame" [.str jd] (.cons true (Ds.of Pc) .nil),?_,WW (jag yR.ok) lbn lbg,by rw[mF,nF,nF];lia,by rw[jM,mT,mT];lia⟩;rw[dD,bL,bL];exact .tup (jV (UX _ _ Tq)) (.cons (.str _) (.cons (.str _) (.cons VJ .nil)))
       .refine⟨.mk "turns" [.str jd,.int (1+m3),.int t5] (.cons false (Ds.of Pc) .nil),?_,Vs (jag yR.ok) lbn lbg (by lia) (by lia) (by lia) (by lia),by rw[mF,nF,nF];lia,by rw[jM,mT,mT];lia⟩;rw[dD,bL,bL];exact .tup (jV UO) (.cons (.str _) (.cons (.str _) (.cons (.int _) (.cons (.int _) (.cons YK .nil)))))
      obtain⟨d,dd,l6,LN,Qh⟩:=hv;exact⟨fl,ws,v,Z,Z,D14.fl,Q3,_,_,_,_,_,_,_,_,k1',m1',ds++[d],_,Z,D14.push pd x3 nb nf dd,N.push (by lia) l6 LN (by lia) (by lia) (by lia) (by lia)⟩
  .rintro σ H' ⟨x7,x8,x9,x10,x11,x12,x13,x14,kc,m,ds,ws,rfl,D,N⟩
   obtain⟨Nok,Ndp,Nmn,Nkb,Nlo,PF,Nle⟩:=id N;exact⟨_,Z,q fl ds H' kc m ⟨pd,⟨ws,D.fl,kZ f1 (λ_ _ e=>e) (λ_ _ _ e=>e) D.dat⟩,Nok,Ndp,Nmn,D.box,D.left,Nkb,λh=>by have:=Nlo h;lia,λh=>by have:=PF h;lia,Nle,D.kp⟩⟩
def NN:Sp:=λvs H Q _=>∃b,vs=[.ref b]/\dg H b 2/\∀l s H',H l=none->Dat (bA H H') (.ref l) (iN false (sL s))->mD s->eO s<=7->d_ s<=44->(∃k',dg H' b k'/\k'<=50000)->Kept b H H'->Q (.ref l) H'
theorem B0(T:Txt K mg A):aT P w K mg base dO 11 A.wG A.vo ["_law_box_here"] NN:=by
 refine T.wJ.F.ok fT (λvs H Q E h=> ?_) (λcB Ar outer s0 H vs Q E hr h=> ?_)
 .obtain⟨b,rfl,_⟩:=h;rfl
 .obtain⟨b,rfl,B,q⟩:=h;refine⟨_,(aj (gf 1 fT.nd (cS a8 (bH (ag ae (ag ae (ag ae (aM ae))))) (cG (aE T) hr T.aF aC (ag (pv 0) (aM ae))))) (aj (gf 2 fT.nd (cS a8 (bH (ag ae (ag ae (ag ae (aM ae))))) (cG (aE T) hr T.aF aC (ag (pv 0) (aM ae))))) (aj (gf 3 fT.nd (cG (tP T) hr T.oK aC (ag (pv 0) (aM (aL bw ae (cG (aE T) hr T.aF aC (ag (pv 0) (aM ae)))))))) (aj (gf 4 fT.nd (cG (tP T) hr T.oK aC (ag (pv 0) (aM (aL bw ae (cG (aE T) hr T.aF aC (ag (pv 0) (aM ae)))))))) (aj (gf 4 fT.nd (aL fH (Ls ["_law_label"] 1 [] (ff (pv 4)) (λ_ _ _ _ _=>⟨(jE 0 (show(["_law_label"]:au).Nodup by decide+kernel)),(LS (wn qQ (pv 0) ai)),(pv 0)⟩)) (bH (ag ai (aM ai))))) (aq (aH (cG (EV T 8) hr T.jW aC (ag (pv 0) (ag (bH (aM (pv 1))) (ag (pv 3) (ag (pv 4) (ag (bH dY) (aM (pv 2))))))))))))))),?_⟩
  have fr:∀{H' :Hp} {c:S'} {k' :Nat},Sw b H k' H'->H' c=none->H c=none:=λ{H' c k'} W hc=>by
   cases e:H c with
   |none=>rfl
   |some o=>rw[W.kp _ o (W.box.ne hc) e] at hc;cases hc
  refine⟨Hq,λp1 Kn=> ?_⟩;have W1:Sw b H 2 _:=Sw.same ⟨B,Kept.refl _ _⟩ (ah.upd (o:= .lst [V.int 12,V.int 25,V.int 40,V.int 44]) Kn);have n1:p1≠b:=B.ne Kn;refine⟨_,Z,b,4,2,Z,W1.box,by lia,by decide,by decide,λr1 H2 a0 a1 B2 O2=> ?_⟩;have W2:=W1.take B2 O2;refine gR (λv=>∃i:Int,v= .int i/\0<=i/\i<=44) (O2.kept _ _ n1 af) a0 a1 ?_ λv hv=> ?_
  .intro x hx;simp only[aP,cO,cR] at hx
   rcases hx with rfl|rfl|rfl|rfl<;>exact⟨_,rfl,by decide,by decide⟩
  obtain⟨up,rfl,u0,u1⟩:=hv;refine⟨Hq,λp3 BN=> ?_⟩;have W3:=W2.same (ah.upd (o:= .lst [V.int 2,V.int 3,V.int 6,V.int 7]) BN);have n3:p3≠b:=B2.ne BN;refine⟨_,Z,b,4,2+1,Z,W3.box,by lia,by decide,by decide,λr3 H4 b0 b1 B4 O4=> ?_⟩;have W4:=W3.take B4 O4;refine gR (λv=>∃i:Nat,v= .int (i:Int)/\i<=7) (O4.kept _ _ n3 af) b0 b1 ?_ λv hv=> ?_
  .intro x hx;simp only[aP,cO,cR] at hx;rcases hx with rfl|rfl|rfl|rfl
   .exact⟨2,Z,by decide⟩
   .exact⟨3,Z,by decide⟩
   .exact⟨6,Z,by decide⟩
   .exact⟨7,Z,by decide⟩
  obtain⟨rm,rfl,hrm⟩:=hv;refine⟨_,Z,_,Z,b,5,2+1+1,Z,B4,by lia,by decide,by decide,λr5 H5 c0 c1 B5 O5=> ?_⟩;have W5:=W4.take B5 O5;obtain⟨j5,rfl⟩:∃j:Nat,r5=j:=⟨r5.toNat,by lia⟩;have e5:(1:Int)+(j5:Int)=((1+j5:Nat):Int):=by lia
  refine⟨1,_,Z,Z,b,1+j5,2+1+1+1,by simp only[e5,fJ],B5,by lia,by lia,λnl ns H6 Xw Qp nms enl B6 K6=> ?_⟩;have W6:Sw b H (2+1+1+1+12) H6:=⟨B6,W5.kp.trans K6⟩;have nnl:nl≠b:=B5.ne Xw;refine⟨_,Z,_,Z,b,6,2+1+1+1+12,Z,B6,by lia,by decide,by decide,λr7 H7 d0 d1 B7 O7=> ?_⟩;have W7:=W6.take B7 O7;obtain⟨j7,rfl⟩:∃j:Nat,r7=j:=⟨r7.toNat,by lia⟩;have e7:(1:Int)+(j7:Int)=((1+j7:Nat):Int):=by lia
  refine⟨1,_,Z,Z,b,1+j7,2+1+1+1+12+1,by simp only[e7,fJ],B7,by lia,by lia,λll ls H8 hll hls lms ell B8 K8=> ?_⟩;have W8:Sw b H (2+1+1+1+12+1+12) H8:=⟨B8,W7.kp.trans K8⟩;have YH:=K8 _ _ nnl (O7.kept _ _ nnl enl);refine⟨_,Z,ll,Z,⟨_,cF.of ell⟩,?_⟩;refine sr (λv=>match v with| .str z=>decide (z≠ "ground")|_=>false) (λv=>v) (fL (cF.of ell)) (by rw[a6];exact cT (fA (by lia))) ?_ λp9 hp9=> ?_
  .intro j y H9 C1 C0 hy sm q1 q0;rw[bY] at hy
   cases ex:ls[j]? with
   |none=>rw[ex] at hy;cases hy
   |some z=>
    rw[ex] at hy;cases hy;refine⟨(gA.refl _).own (by decide),_,Z,Z,_,Z,?_⟩;by_cases hz:z="ground"
    .rw[show decide (V.str z=V.str "ground")=true from aS (by rw[hz])];exact bo (q0 (ba (λh=>h hz)))
    .rw[show decide (V.str z=V.str "ground")=false from ba (dZ hz)];exact a9 ⟨_,Z,q1 (aS hz)⟩
  obtain⟨fs,Ku,pd,X6⟩:∃fs:au,((ls.map V.str).filter λv=>match v with| .str z=>decide (z≠ "ground")|_=>false).map (λv=>v)=fs.map V.str/\fs.length<=ls.length/\∀x∈fs,x∈ls/\x≠ "ground":=by
   refine⟨ls.filter λz=>decide (z≠ "ground"),?_,zo _ _,λx hx=>⟨(r_.mp hx).1,bD (r_.mp hx).2⟩⟩;rw[List.map_id',Et];rfl
  rw[Ku];refine⟨hV,λp10 abr=>⟨p9,p10,_,_,Z,Z,ah.upd abr _ _ af,af,?_,λVo Y9=> ?_⟩⟩
  .rw[a6];exact cT (fA (show fs.length+2<=100000 by lia))
  have v9:=ah.upd (o:= .lst (fs.map V.str)) hp9;have v10:=ah.upd (o:= .lst [V.str "f",.str "ff"]) abr;have v11:=ah.upd (o:= .lst (fs.map V.str++[V.str "f",.str "ff"])) Y9;have X1:=(v9.trans v10).trans v11;have e11:upd (upd (upd H8 p9 (.lst (fs.map V.str))) p10 (.lst [V.str "f",.str "ff"])) Vo (.lst (fs.map V.str++[V.str "f",.str "ff"])) Vo=some (.lst (fs.map V.str++[V.str "f",.str "ff"])):=af;have f11:H8 Vo=none:=(v9.trans v10).free Y9;generalize upd (upd (upd H8 p9 (.lst (fs.map V.str))) p10 (.lst [V.str "f",.str "ff"])) Vo (.lst (fs.map V.str++[V.str "f",.str "ff"]))=LA at X1 e11 ⊢;have YZ:=W8.same X1;have n11:Vo≠b:=B8.ne f11;refine⟨_,Z,_,Z,yZ,λlf QJ=>⟨_,Z,_,Z,nq,λal Lh=>⟨_,Z,?_⟩⟩⟩;have Q4:=ah.upd (o:= .lst [V.int up]) QJ;have v13:=ah.upd (o:= .lst []) Lh;have Lu:=Q4.trans v13;have elf:=v13 _ _ (af (H:=LA) (a:=lf) (o:= .lst [V.int up]));have eal:upd (upd LA lf (.lst [V.int up])) al (.lst []) al=some (.lst []):=af;have fal:LA al=none:=Q4.free Lh
  have nlf:al≠lf:=λz=>by
   rw[z,af] at Lh;cases Lh
  generalize upd (upd LA lf (.lst [V.int up])) al (.lst [])=H13 at Lu elf eal ⊢;have W13:=YZ.same Lu;have afe:nl≠lf:=aA (X1 _ _ YH) QJ;have lnl:Vo≠lf:=aA e11 QJ;have afC:=fr YZ QJ;refine⟨b,lf,nl,Vo,al,rm,_,up,ns,fs++[("f" :Str),"ff"],[],Z,⟨by lia,by lia,W13.box,elf,by lia,u1,by lia,⟨Lu _ _ (X1 _ _ YH),by lia,nms⟩,(λz=>by rw[z] at Qp;simp only[m5] at Qp;lia),⟨by rw[i7];exact Lu _ _ e11,by rw[bu];show fs.length+2<=100;lia,?_⟩,?_,⟨eal,by decide,λx hx=>nomatch hx⟩,by show 0+rm<=20;lia,(B8.ne (X1.free QJ)).symm.symm,⟨nnl,afe⟩,⟨n11,lnl⟩,⟨YZ.box.ne fal,nlf⟩⟩,λl ds H' k' Ez po=> ?_⟩
  .intro x hx;rcases eB.mp hx with hx|hx
   .exact lms x (X6 x hx).1
   .simp only[aP,cO,cR] at hx
    rcases hx with rfl|rfl<;>decide+kernel
  .intro x hx;rcases eB.mp hx with hx|hx
   .exact(X6 x hx).2
   .simp only[aP,cO,cR] at hx
    rcases hx with rfl|rfl<;>decide+kernel
  .obtain⟨ws,el,da⟩:=po.ls;have mn:=po.mn;have dp:=CN po.dp;have mm:=JF ds;refine q l (Ds.of ds) H' (fr W13 po.new) (.lst (vh (fr W13 po.new) el) (by rw[Wd];exact kZ (λc h=>fr W13 h) (λ_ _ e=>e) (λ_ _ _ e=>e) da)) (jag po.ok) (by lia) (by lia) ⟨k',po.box,by have h1:=po.kb;have h2:=po.lo u0;lia⟩ λc o hc e=>po.kp _ _ hc (aA e afC) (W13.kp _ _ hc e)
structure Ly(k:Nat)(d:U'):Prop where
 lay:d.canLay0=true
 mix:PySem.SeqAt.noMix d d=true
 dp:d.depth<=k
noncomputable def uR:V->Bool
 | .str x=>cv x
 |_=>false
noncomputable def Ap:V->Bool
 | .int _=>true
 |_=>false
noncomputable def LO(lo hi:Int):V->Bool
 | .int i=>decide (lo<=i)&&decide (i<=hi)
 |_=>false
theorem iL{H H' :Hp}{v:V}(h:Th H v)(s:ah H H'):uL H' v=uL H v:=by
 cases h with
 |lst e=>simp[uL,e,s _ _ e]
 |tup e=>simp[uL,e,s _ _ e]
 |dK e=>simp[uL,e,s _ _ e]
 |_=>rfl
def Sh:V->Prop
 | .str x=>x.length<=100000
 | .int i=>i.natAbs<10 ^ 40
 |_=>True
noncomputable def LW:V->Bool
 | .str x=>decide (x="ground")
 |_=>false
noncomputable def cX(H:Hp)(k:Str)(v:V):Bool:=
 if k="name" then uR v
 else if k="label" then uR v&& !LW v
 else if k="mark" then decide (v= .bp)||uR v
 else if k="value" then decide (v= .bp)||Ap v
 else if k="number" then Ap v
 else if k="body" then uL H v
 else match xo.lookup k with
  |some (lo,hi)=>LO lo hi v
  |none=>false
theorem Dl{H H' :Hp}{v:V}(h:Th H v)(s:ah H H')(k:Str):cX H' k v=cX H k v:=by
 unfold cX;rw[iL h s]
noncomputable def oO:au:=["name","label","mark","value","number","body","size","cell","many","times"]
def Kj:Sp:=λvs H Q _=>∃v,vs=[v]/\Th H v/\Sh v/\∀H',ah H H'->Q (.bl (uR v)) H'
theorem pT(T:Txt K mg A):aT P w K mg base dO 1 A.CV A.C_ ["thing"] Kj:=by
 refine T.rM.F.wc Hv ?_
 rintro cB Ar outer s H vs Q E hr ⟨v,rfl,th,sh,k⟩
 obtain⟨u1,CZ⟩:=T.Le;obtain⟨u2,pL⟩:=T.AM;refine⟨_,(aj (bU (iw (gv (iR cD T.bM Boot.«isinstance» (ag (pv 0) (aM (eJ (v:= .ty "str") Z T.J_ Boot.«str» rfl)))))) (aq (aH ky)) bf) (aq (aH (gO (AZ xO xO ae (iR oM T.g7 Boot.«len» (aM (pv 0))) (f_ Z pL.2 pL.1)) (fU (iR (FL Z) T.UQ Boot.«all» (aM (Ls ["sign"] 1 [] (Og (pv 0) Z) (λ_ _ _ _ _=>⟨(jE 0 (show(["sign"]:au).Nodup by decide+kernel)),wH,(HG LP (pv 0) (f_ Z CZ.2 CZ.1))⟩))))))))),?_⟩;have k0:=k H (ah.refl H)
 cases th with
 |bp=>exact⟨_,Z,_,_,_,_,Z,.bp,Z,_,Z,a9 k0⟩
 |bl b=>exact⟨_,Z,_,_,_,_,Z,.bl b,Z,_,Z,a9 k0⟩
 |int i=>exact⟨_,Z,_,_,_,_,Z,.int i,Z,_,Z,a9 k0⟩
 |lst e=>exact⟨_,Z,_,_,_,_,Z,.lst e,Z,_,Z,a9 k0⟩
 |tup e=>exact⟨_,Z,_,_,_,_,Z,.tup e,Z,_,Z,a9 k0⟩
 |dK e=>exact⟨_,Z,_,_,_,_,Z,.dK e,Z,_,Z,a9 k0⟩
 |str x=>
  have hl:x.length<=100000:=sh;have hL:sizeLine=16777216:=rfl;have kn:∀H',ah H H'->Q (.bl (cv x)) H' :=k;unfold cv at kn;refine⟨_,Z,_,_,_,_,Z,.str x,Z,_,Z,bo ?_⟩;refine⟨_,Z,x,Z,by lia,1,x.length,Z,Z,_,Z,?_⟩;by_cases h1:1<=x.length
  .rw[aS h1,kR] at kn;rw[aS (show(1:Int)<=(x.length:Int) by lia)];refine a9 ⟨x.length,6,Z,Z,_,Z,?_⟩;by_cases h6:x.length<=6
   .rw[aS h6,kR] at kn;rw[aS (show(x.length:Int)<=6 by lia)];refine a9 ⟨_,Z,x,Z,?_⟩;refine sr (λ_=>true) (λv=>match v with| .str z=> .bl (dC (z.cps.getD 0 0))|_=> .bp) (DD x H) ?_ ?_ λp hp=> ?_
    .simp;exact aU h6 (by decide)
    .intro i y H' C1 C0 hy sm c1 c0;rw[bY] at hy
     cases ec:x.cps.toList[i]? with
     |none=>rw[ec] at hy;cases hy
     |some c=>
      rw[ec] at hy;cases hy;refine⟨(gA.refl _).own (by decide),⟨_,Z,_,_,Z,Z,?_⟩⟩;rw[CB];exact c1 rfl
    .refine⟨p,x.cps.toList.map dC,Z,?_,?_⟩
     .rw[af,lZ.mpr (λ_ _=>rfl),kI,kI];rfl
     .rw[List.all_map];exact kn _ (ah.upd hp)
   .rw[ba h6,nE] at kn;rw[ba (show ¬(x.length:Int)<=6 by lia)];exact bo (kn H (ah.refl H))
  .rw[ba h1,nE,nE] at kn;rw[ba (show ¬(1:Int)<=(x.length:Int) by lia)];exact bo ⟨_,Z,bo (kn H (ah.refl H))⟩
def NG:Sp:=λvs H Q _=>∃v,vs=[v]/\Th H v/\Q (.bl (Ap v)) H
theorem m_(T:Txt K mg A):aT P w K mg base dO 1 A.xR A.yq ["thing"] NG:=by
 refine T.mW.F.wc D_ ?_
 rintro cB Ar outer s H vs Q E hr ⟨v,rfl,p,k⟩
 refine⟨_,(aq (aH (gO (iR cD T.bM Boot.«isinstance» (ag (pv 0) (aM (eJ (v:= .ty "int") Z T.CD Boot.«int» rfl)))) (fU (Jl (iR cD T.bM Boot.«isinstance» (ag (pv 0) (aM (eJ (v:= .ty "bool") Z T.HS Boot.«bool» rfl))))))))),?_⟩
 cases p with
 |bp=>exact⟨_,Z,_,_,_,_,Z,.bp,Z,_,Z,bo k⟩
 |bl b=>exact⟨_,Z,_,_,_,_,Z,.bl b,Z,_,Z,a9 ⟨_,Z,_,_,_,_,Z,.bl b,Z,_,Z,k⟩⟩
 |int i=>exact⟨_,Z,_,_,_,_,Z,.int i,Z,_,Z,a9 ⟨_,Z,_,_,_,_,Z,.int i,Z,_,Z,k⟩⟩
 |str x=>exact⟨_,Z,_,_,_,_,Z,.str x,Z,_,Z,bo k⟩
 |lst e=>exact⟨_,Z,_,_,_,_,Z,.lst e,Z,_,Z,bo k⟩
 |tup e=>exact⟨_,Z,_,_,_,_,Z,.tup e,Z,_,Z,bo k⟩
 |dK e=>exact⟨_,Z,_,_,_,_,Z,.dK e,Z,_,Z,bo k⟩
def G0:Sp:=λvs H Q _=>∃(v:V) (lo hi:Int),vs=[v,.int lo,.int hi]/\Th H v/\Q (.bl (LO lo hi v)) H
theorem E7(T:Txt K mg A):aT P w K mg base dO 2 A.BJ A.AV ["thing","low","high"] G0:=by
 refine T.Ak.F.wc FD ?_
 rintro cB Ar outer s H vs Q E hr ⟨v,lo,hi,rfl,p,q⟩
 refine⟨_,(aq (aH (gO (cG (m_ T) hr T.mW aC (aM (pv 0))) (fU (AZ xO xO (pv 1) (pv 0) (pv 2)))))),?_⟩;by_cases hn:∃i,v= .int i
 .obtain⟨i,rfl⟩:=hn;have q:Q (.bl (decide (lo<=i)&&decide (i<=hi))) H:=q;refine⟨_,Z,_,Z,p,_,Z,a9 ⟨_,Z,_,Z,lo,i,Z,Z,_,Z,?_⟩⟩;by_cases h1:lo<=i
  .rw[aS h1] at q ⊢;exact a9 ⟨_,Z,i,hi,Z,Z,by simpa using q⟩
  .rw[ba h1] at q ⊢;exact bo (by simpa using q)
 .have e1:Ap v=false:=by cases v<;>first|rfl|exact absurd ⟨_,rfl⟩ hn
  have e2:LO lo hi v=false:=by cases v<;>first|rfl|exact absurd ⟨_,rfl⟩ hn
  rw[e2] at q;refine⟨_,Z,v,Z,p,_,Z,?_⟩;rw[e1];exact bo q
def QC:Sp:=λvs H Q _=>∃k v,vs=[.str k,v]/\Th H v/\Sh v/\(∃p∈bg,k∈p.2)/\∀H',ah H H'->Q (.bl (cX H k v)) H'
theorem F_(T:Txt K mg A)(Fm:wV P w K A fm):aT P w K mg base dO 3 A.M7 A.MW ["kind","thing"] QC:=by
 refine T.Ij.F.wc Qd ?_
 rintro cB Ar outer s H vs Q E hr ⟨k,v,rfl,th,sh,⟨pf,pm,hk⟩,q⟩
 obtain⟨u1,j_⟩:=T.xK;have hk:=bD (a7.mp (a7.mp (show(bg.all λp=>p.2.all λk=>decide (k∈oO))=true by decide+kernel) _ pm) _ hk);refine⟨_,(aj (bU (wn cK (pv 0) ai) (aq (aH (cG (pT T) hr T.rM aC (aM (pv 1))))) bf) (aj (bU (wn cK (pv 0) ai) (aq (aH (gO (cG (pT T) hr T.rM aC (aM (pv 1))) (fU (HG qQ (pv 1) (f_ Z j_.2 j_.1)))))) bf) (aj (bU (wn cK (pv 0) ai) (aq (aH (GO (HG Bb (pv 1) eh) (fU (cG (pT T) hr T.rM aC (aM (pv 1))))))) bf) (aj (bU (wn cK (pv 0) ai) (aq (aH (GO (HG Bb (pv 1) eh) (fU (cG (m_ T) hr T.mW aC (aM (pv 1))))))) bf) (aj (bU (wn cK (pv 0) ai) (aq (aH (cG (m_ T) hr T.mW aC (aM (pv 1))))) bf) (aj (bU (wn cK (pv 0) ai) (aq (aH (iR vE T.bM Boot.«isinstance» (ag (pv 1) (aM (bt (ag (eJ (v:= .ty "list") Z T.AI Boot.«list» rfl) (aM (eJ (v:= .ty "tuple") Z T.iE Boot.«tuple» rfl))))))))) bf) (aq (aH (cG (E7 T) hr T.Ak aC (ag (pv 1) (ag (cS aN (rf Fm.NF (f_ (v:= .ref A.jc) Z T.jc Z) (pv 0)) ae) (aM (cS aN (rf Fm.NF (f_ (v:= .ref A.jc) Z T.jc Z) (pv 0)) ae))))))))))))),?_⟩;unfold oO at hk;simp only[aP,cO,cR] at hk;rcases hk with rfl|rfl|rfl|rfl|rfl|rfl|hk
 .rw[show cX H "name" v=uR v from aB Z] at q;exact⟨_,Z,Z,_,Z,XV ⟨_,Z,v,Z,th,sh,q⟩⟩
 .rw[show cX H "label" v=(uR v&& !LW v) by unfold cX;rw[ax (by decide+kernel),aB Z]] at q;refine⟨_,Z,Z,_,Z,dG (by decide+kernel) ⟨_,Z,Z,_,Z,XV ⟨_,Z,v,Z,th,sh,λH' s=>⟨_,Z,?_⟩⟩⟩⟩
  cases hn:uR v with
  |false=>
   rw[hn] at q;exact bo (q H' s)
  |true=>
   obtain⟨x,rfl⟩:∃x,v= .str x:=by cases v<;>first|exact⟨_,rfl⟩|cases hn
   rw[hn,kR] at q;refine a9 ⟨_,Z,Z,?_⟩;by_cases hg:x="ground"
   .subst hg;rw[aS Z];exact q H' s
   .rw[ba (dZ hg)];have:=q H' s;rw[show LW (.str x)=false from ba hg] at this;exact this
 .rw[show cX H "mark" v=(decide (v= .bp)||uR v) by unfold cX;rw[ax (by decide+kernel),ax (by decide+kernel),aB Z]] at q;refine⟨_,Z,Z,_,Z,dG (by decide+kernel) ⟨_,Z,Z,_,Z,dG (by decide+kernel) ⟨_,Z,Z,_,Z,XV ⟨_,Z,Z,_,Z,?_⟩⟩⟩⟩;by_cases hn:v= .bp
  .rw[aS hn] at q ⊢;exact a9 (q H (ah.refl H))
  .rw[ba hn] at q ⊢;exact bo ⟨_,Z,v,Z,th,sh,q⟩
 .rw[show cX H "value" v=(decide (v= .bp)||Ap v) by unfold cX;rw[ax (by decide+kernel),ax (by decide+kernel),ax (by decide+kernel),aB Z]] at q;refine⟨_,Z,Z,_,Z,dG (by decide+kernel) ⟨_,Z,Z,_,Z,dG (by decide+kernel) ⟨_,Z,Z,_,Z,dG (by decide+kernel) ⟨_,Z,Z,_,Z,XV ⟨_,Z,Z,_,Z,?_⟩⟩⟩⟩⟩;by_cases hn:v= .bp
  .rw[aS hn] at q ⊢;exact a9 (q H (ah.refl H))
  .rw[ba hn] at q ⊢;exact bo ⟨_,Z,v,Z,th,q H (ah.refl H)⟩
 .rw[show cX H "number" v=Ap v by unfold cX;rw[ax (by decide+kernel),ax (by decide+kernel),ax (by decide+kernel),ax (by decide+kernel),aB Z]] at q;exact⟨_,Z,Z,_,Z,dG (by decide+kernel) ⟨_,Z,Z,_,Z,dG (by decide+kernel) ⟨_,Z,Z,_,Z,dG (by decide+kernel) ⟨_,Z,Z,_,Z,dG (by decide+kernel) ⟨_,Z,Z,_,Z,XV ⟨_,Z,v,Z,th,q H (ah.refl H)⟩⟩⟩⟩⟩⟩
 .rw[show cX H "body" v=uL H v by unfold cX;rw[ax (by decide+kernel),ax (by decide+kernel),ax (by decide+kernel),ax (by decide+kernel),ax (by decide+kernel),aB Z]] at q;refine⟨_,Z,Z,_,Z,dG (by decide+kernel) ⟨_,Z,Z,_,Z,dG (by decide+kernel) ⟨_,Z,Z,_,Z,dG (by decide+kernel) ⟨_,Z,Z,_,Z,dG (by decide+kernel) ⟨_,Z,Z,_,Z,dG (by decide+kernel) ⟨_,Z,Z,_,Z,XV ?_⟩⟩⟩⟩⟩⟩;refine⟨_,Z,hV,λp hp=> ?_⟩;have s1:=ah.upd (o:= .tup [V.ty "list",V.ty "tuple"]) hp;refine⟨v,p,Z,th.same s1,af,?_⟩;rw[iL th s1];exact q _ s1
 .obtain⟨lo,hi,hb,eb⟩:∃lo hi,(k,lo,hi)∈xo/\xo.lookup k=some (lo,hi):=by
   rcases hk with rfl|rfl|rfl|rfl
   .exact⟨1,6,by decide+kernel,by decide+kernel⟩
   .exact⟨0,5,by decide+kernel,by decide+kernel⟩
   .exact⟨1,3,by decide+kernel,by decide+kernel⟩
   .exact⟨0,4,by decide+kernel,by decide+kernel⟩
  obtain⟨t,e1,e2⟩:=Fm.b _ hb;have n:∀y:Str,(xo.all λp=>decide (p.1≠y))=true->k≠y:=λy h=>bD (a7.mp h _ hb);rw[show cX H k v=LO lo hi v by unfold cX;rw[ax (n _ (by decide+kernel)),ax (n _ (by decide+kernel)),ax (n _ (by decide+kernel)),ax (n _ (by decide+kernel)),ax (n _ (by decide+kernel)),ax (n _ (by decide+kernel)),eb]] at q;refine⟨_,Z,Z,_,Z,dG (ni hb (by decide+kernel)) ⟨_,Z,Z,_,Z,dG (ni hb (by decide+kernel)) ⟨_,Z,Z,_,Z,dG (ni hb (by decide+kernel)) ⟨_,Z,Z,_,Z,dG (ni hb (by decide+kernel)) ⟨_,Z,Z,_,Z,dG (ni hb (by decide+kernel)) ⟨_,Z,Z,_,Z,dG (ni hb (by decide+kernel)) ?_⟩⟩⟩⟩⟩⟩;exact⟨_,Z,_,Z,.inr k,_,Z,Z,e1,t,_,0,_,Z,Z,e2 _,Z,_,Z,.inr k,_,Z,Z,e1,t,_,1,_,Z,Z,e2 _,Z,v,_,_,Z,th,q H (ah.refl H)⟩
noncomputable def Ip(H:Hp):ak->Bool
 | .str w::xs=>match bg.lookup w with
  |some ks=>decide (xs.length=ks.length)&&(List.zipWith (cX H) ks xs).all id
  |none=>false
 |_=>false
noncomputable def cg(H:Hp):V->Bool
 | .ref a=>match H a with
  |some (.tup xs)=>Ip H xs
  |_=>false
 |_=>false
structure Tg(H:Hp)(v:V):Prop where
 th:Th H v
 sh:Sh v
 at_:∀a xs,v= .ref a->H a=some (.tup xs)->xs.length<=1000/\∀x∈xs,Th H x/\Sh x
def J2:Sp:=λvs H Q _=>∃v,vs=[v]/\Tg H v/\∀H',ah H H'->Q (.bl (cg H v)) H'
theorem FF(T:Txt K mg A)(Fm:wV P w K A fm)(Fo:∀x:Str,bg.lookup x=none->eV fm.kF (.inr x)=none):aT P w K mg base dO 4 A.CH A.CU ["thing"] J2:=by
 refine T.CQ.F.wc Jf ?_
 rintro cB Ar outer s H vs Q E hr ⟨v,rfl,tg,q⟩
 refine⟨_,(aj (bU (PW.pt (WF (iw (gv (iR cD T.bM Boot.«isinstance» (ag (pv 0) (aM (eJ (v:= .ty "tuple") Z T.iE Boot.«tuple» rfl)))))) (WF (iw (Ny (pv 0) (λ_=>rfl))) (WP (iw (gv (iR cD T.bM Boot.«isinstance» (ag (cS aN (pv 0) ae) (aM (eJ (v:= .ty "str") Z T.J_ Boot.«str» rfl)))))))))) (aq (aH ky)) bf) (aj (bU (PW.pt (WF (Wn (IC Fm.JK (cS aN (pv 0) ae) (f_ (v:= .ref A.gC) Z T.gC Z))) (WP (wn qQ (iR br T.g7 Boot.«len» (aM (pv 0))) (aL bw ae (iR br T.g7 Boot.«len» (aM (rf Fm.JK (f_ (v:= .ref A.gC) Z T.gC Z) (cS aN (pv 0) ae))))))))) (aq (aH ky)) bf) (aq (aH (iR (FL Z) T.UQ Boot.«all» (aM (Ls ["kind","part"] 2 [] (ff (cG (mL T Fm) hr T.lT aC (aM (pv 0)))) (λ_ _ _ _ _=>⟨(E1 (K:=K) (n:=2) Z Z (cY (jE 0 (show(["kind","part"]:au).Nodup by decide+kernel)) (cY (jE 1 (show(["kind","part"]:au).Nodup by decide+kernel)) mV)) Z Z),wH,(cG (F_ T Fm) hr T.Ij aC (ag (pv 0) (aM (pv 1))))⟩)))))))),?_⟩;have q0:=q H (ah.refl H);obtain⟨th,sh,tat⟩:=tg
 cases th with
 |bp=>exact⟨_,Z,_,_,_,_,Z,.bp,Z,_,Z,a9 q0⟩
 |bl b=>exact⟨_,Z,_,_,_,_,Z,.bl b,Z,_,Z,a9 q0⟩
 |int i=>exact⟨_,Z,_,_,_,_,Z,.int i,Z,_,Z,a9 q0⟩
 |str x=>exact⟨_,Z,_,_,_,_,Z,.str x,Z,_,Z,a9 q0⟩
 |lst e=>
  rw[show cg H _=false by simp[cg,e]] at q0;exact⟨_,Z,_,_,_,_,Z,.lst e,Z,_,Z,a9 q0⟩
 |dK e=>
  rw[show cg H _=false by simp[cg,e]] at q0;exact⟨_,Z,_,_,_,_,Z,.dK e,Z,_,Z,a9 q0⟩
 | @tup a xs e=>
  obtain⟨hl,hx⟩:=tat a xs Z e;have dv:cg H (.ref a)=Ip H xs:=by simp[cg,e]
  rw[dv] at q;refine⟨_,Z,_,_,_,_,Z,.tup e,Z,_,Z,bo ⟨_,Z,_,.inr (.inl ⟨_,bc.of e,Z⟩),?_⟩⟩
  cases xs with
  |nil=>exact a9 (q H (ah.refl H))
  |cons x ys=>
  obtain⟨thx,shx⟩:=hx x c5;by_cases hs:∃w,x= .str w
  rotate_left
  .have q0:Q (.bl false) H:=by
    have:=q H (ah.refl H);cases x<;>first|exact this|exact absurd ⟨_,rfl⟩ hs
   cases thx with
   |bp=>exact bo ⟨_,Z,a,_,0,_,Z,Z,bc.of e,gU _ _,_,_,_,_,Z,.bp,Z,_,Z,a9 q0⟩
   |bl b=>exact bo ⟨_,Z,a,_,0,_,Z,Z,bc.of e,gU _ _,_,_,_,_,Z,.bl b,Z,_,Z,a9 q0⟩
   |int i=>exact bo ⟨_,Z,a,_,0,_,Z,Z,bc.of e,gU _ _,_,_,_,_,Z,.int i,Z,_,Z,a9 q0⟩
   |str z=>exact absurd ⟨_,Z⟩ hs
   |lst e1=>exact bo ⟨_,Z,a,_,0,_,Z,Z,bc.of e,gU _ _,_,_,_,_,Z,.lst e1,Z,_,Z,a9 q0⟩
   |tup e1=>exact bo ⟨_,Z,a,_,0,_,Z,Z,bc.of e,gU _ _,_,_,_,_,Z,.tup e1,Z,_,Z,a9 q0⟩
   |dK e1=>exact bo ⟨_,Z,a,_,0,_,Z,Z,bc.of e,gU _ _,_,_,_,_,Z,.dK e1,Z,_,Z,a9 q0⟩
  obtain⟨w,rfl⟩:=hs;refine bo ⟨_,Z,a,_,0,_,Z,Z,bc.of e,gU _ _,_,_,_,_,Z,.str w,Z,_,Z,bo ?_⟩;refine⟨_,Z,a,_,0,_,Z,Z,bc.of e,gU _ _,.inr w,Z,Z,?_⟩
  have q:∀H',ah H H'->Q (.bl (match bg.lookup w with
   |some ks=>decide (ys.length=ks.length)&&(List.zipWith (cX H) ks ys).all id
   |none=>false)) H' :=q
  cases hf:bg.lookup w with
  |none=>
   rw[hf] at q;rw[Fo w hf];exact⟨_,Z,a9 (q H (ah.refl H))⟩
  |some ks=>
   rw[hf] at q;have q:∀H',ah H H'->Q (.bl (decide (ys.length=ks.length)&&(List.zipWith (cX H) ks ys).all id)) H' :=q;have mem:(w,ks)∈bg:=gD hf;obtain⟨t,hv,ht⟩:=Fm.f _ mem;have Yw :eV fm.kF (.inr w)=some (.ref t):=hv;have k4:=fP mem;rw[Yw];refine⟨_,Z,bo ⟨_,Z,a,_,Z,.inr (bc.of e),_,Z,a,_,0,_,Z,Z,bc.of e,gU _ _,.inr w,_,Z,Z,Yw,t,_,Z,.inr (ht _),1,_,Z,Z,Z,_,Z,?_⟩⟩;show if(!decide (V.int ((V.str w::ys).length:Int)=V.int (1+(ks.map V.str).length)))=true then _ else _
   by_cases hn:ys.length=ks.length
   rotate_left
   .rw[ba hn,nE] at q;rw[ba (λz=>hn (by have:=V.int.inj z;rw[bB,a6] at this;lia))];exact a9 (q H (ah.refl H))
   .rw[aS hn,kR] at q;rw[aS (show V.int ((V.str w::ys).length:Int)=V.int (1+(ks.map V.str).length) by rw[bB,a6,hn];congr 1;lia)];refine bo ⟨_,Z,a,w,ks,ys,Z,e,mem,hn.symm,λl zs H1 MS s1 hz zp=> ?_⟩;refine⟨l,Z,⟨_,cF.of hz⟩,?_⟩;have WN:zs.length=ks.length:=by rw[zp.len,a6]
    refine jo (λ_=>true) (λi=> .bl (cX H (ks.getD i "") (ys.getD i .bp))) (fL (cF.of hz)).g (aU (show zs.length<=4 by lia) (by decide)) ?_ λp2 H2 h0 s2 h2=> ?_
    .intro i y H' C1 C0 hi sm hy c1 c0;obtain⟨tt,k,v,rfl,hT,e1,e2⟩:=jac (zp.same sm) (by rw[a6];exact hn.symm) hy;rw[bY] at e1
     cases ek:ks[i]? with
     |none=>rw[ek] at e1;cases e1
     |some k' =>
      rw[ek] at e1;cases e1;obtain⟨wR,Hg⟩:=hx v (cw _ (bE e2));refine⟨tt,_,Z,bc.of hT,Z,_,_,Z,_,_,Z,Z,((gA.refl _).own (by decide)).own (by decide),⟨_,Z,_,Z,k',v,Z,wR.same (s1.trans sm),Hg,⟨_,mem,bE ek⟩,λH3 s3=> ?_⟩⟩;have:=c1 Z H3 s3;rw[eA,ek,eA,e2] at this;rw[Dl wR (s1.trans sm)];exact this
    .refine⟨p2,List.zipWith (cX H) ks ys,Z,?_,q _ (s1.trans s2)⟩;rw[h2,lZ.mpr (λ_ _=>rfl),WN]
     congr 2
     apply zB;intro i;rw[bY,bY,List.getElem?_zipWith];by_cases h:i<ks.length
     .have h' :i<ys.length:=by lia
      rw[qd h,wm h,wm h'];simp[eA,h,h']
     .rw[nh (by rw[oy];lia),nh (by lia)];rfl
noncomputable def nz(H:Hp):V->Option (ak)
 | .ref a=>match H a with
  |some (.lst xs)=>some xs
  |some (.tup xs)=>some xs
  |_=>none
 |_=>none
noncomputable def yn:au->ak->ak
 |k::ks,x::xs=>if k="body" then x::yn ks xs else yn ks xs
 |_,_=>[]
noncomputable def tbV:ak->ak
 | .str w::xs=>match bg.lookup w with
  |some ks=>yn ks xs
  |none=>[]
 |_=>[]
noncomputable def fB(H:Hp):V->ak
 | .ref a=>match H a with
  |some (.tup xs)=>tbV xs
  |_=>[]
 |_=>[]
noncomputable def ke(H:Hp):Nat->V->Option V
 |0,_=>none
 |n+1,v=>match nz H v with
  |some xs=>xs.findSome? λx=>if cg H x=true then(fB H x).findSome? (ke H n) else some x
  |none=>some v
def Dp(H:Hp):Nat->V->Prop
 |0,_=>False
 |n+1,v=>Th H v/\Sh v/\∀xs,nz H v=some xs->xs.length<=1000/\∀x∈xs,Tg H x/\∀b∈fB H x,Dp H n b
theorem Tg.same{H H' :Hp}{v:V}(h:Tg H v)(s:ah H H'):Tg H' v:=by
 refine⟨h.th.same s,h.sh,λa xs e1 e2=> ?_⟩
 have:H a=some (.tup xs):=by
  have th:=h.th;subst e1
  cases th with
  |lst e=>rw[s _ _ e] at e2;cases e2
  |tup e=>rw[s _ _ e] at e2;cases e2;exact e
  |dK e=>rw[s _ _ e] at e2;cases e2
 obtain⟨h1,h2⟩:=h.at_ a xs e1 this;exact⟨h1,λx hx=>⟨(h2 x hx).1.same s,(h2 x hx).2⟩⟩
theorem G4{H H' :Hp}(s:ah H H'):∀(ks:au) (xs:ak),(∀x∈xs,Th H x/\Sh x)->List.zipWith (cX H') ks xs=List.zipWith (cX H) ks xs
 |[],_,_=>rfl
 |_::_,[],_=>rfl
 |k::ks,x::xs,h=>by
  rw[iP,iP,Dl (h x c5).1 s,G4 s ks xs λy hy=>h y (cw _ hy)]
theorem uy{H H' :Hp}{v:V}(h:Tg H v)(s:ah H H'):cg H' v=cg H v:=by
 obtain⟨th,sh,at_⟩:=h
 cases th with
 |lst e=>simp[cg,e,s _ _ e]
 |dK e=>simp[cg,e,s _ _ e]
 | @tup a xs e=>
  obtain⟨h1,h2⟩:=at_ a xs Z e;simp only[cg,e,s _ _ e];unfold Ip
  split
  .rename_i w ys
   cases bg.lookup w with
   |none=>rfl
   |some ks=>
    show(_&&(List.zipWith (cX H') ks ys).all id)=_;rw[G4 s _ ys λy hy=>h2 y (cw _ hy)]
  .rfl
 |_=>rfl
theorem oX{H:Hp}{v:V}(h:cg H v=true):∃a w ks xs,v= .ref a/\H a=some (.tup (.str w::xs))/\(w,ks)∈bg/\ks.length=xs.length/\fB H v=yn ks xs:=by
 unfold cg at h
 split at h
 .rename_i a
  split at h
  .rename_i ys e;unfold Ip at h
   split at h
   .rename_i w xs
    split at h
    .rename_i ks hf;rw[cI,ie] at h;exact⟨a,w,ks,xs,Z,e,gD hf,h.1.symm,by simp[fB,e,tbV,hf]⟩
    .cases h
   .cases h
  .cases h
 .cases h
theorem L5:∀(ks:au) (xs:ak),ks.length=xs.length->((List.range ks.length).filter λi=>decide (ks.getD i ""="body")).map (λi=>xs.getD i .bp)=yn ks xs
 |[],[],_=>rfl
 |k::ks,x::xs,h=>by
  have ih:=L5 ks xs (oG h);rw[bB,List.range_succ_eq_map,List.filter_cons,Et,yn];by_cases hk:k="body"
  .rw[aB (by simpa using hk),aB hk,cL,kI,<-ih];rfl
  .rw[ax (by simpa using hk),ax hk,kI,<-ih];rfl
def WC:Sp:=λvs H Q _=>∃H0 v,vs=[v]/\ah H0 H/\cg H0 v=true/\∀l H',H l=none->ah H H'->H' l=some (.lst (fB H0 v))->Q (.ref l) H'
theorem Cg(T:Txt K mg A)(Fm:wV P w K A fm):aT P w K mg base dO 2 A.rn A.qG ["deed"] WC:=by
 refine T.fC.F.wc wq ?_
 rintro cB Ar outer s H vs Q E hr ⟨H0,v,rfl,gW,hd,q⟩
 obtain⟨a,w',ks,xs,rfl,e,mem,hl,eb⟩:=oX hd;rw[eb] at q;have k4:=fP mem;refine⟨_,(aq (aH (Ls ["kind","part"] 2 [] (ff (cG (mL T Fm) hr T.lT aC (aM (pv 0)))) (λ_ _ _ _ _=>⟨(E1 (K:=K) (n:=2) Z Z (cY (jE 0 (show(["kind","part"]:au).Nodup by decide+kernel)) (cY (jE 1 (show(["kind","part"]:au).Nodup by decide+kernel)) mV)) Z Z),(LS (wn cK (pv 0) ai)),(pv 1)⟩)))),?_⟩;refine⟨_,Z,a,w',ks,xs,Z,gW _ _ e,mem,hl,λl zs H1 MS s1 hz zp=> ?_⟩;refine⟨l,Z,⟨_,cF.of hz⟩,?_⟩;have WN:zs.length=ks.length:=by rw[zp.len,a6]
 refine jo (λi=>decide (ks.getD i ""="body")) (λi=>xs.getD i .bp) (fL (cF.of hz)).g (aU (show zs.length<=4 by lia) (by decide)) ?_ λp2 H2 h0 s2 h2=> ?_
 .intro i x H' C1 C0 hi sm hy c1 c0;obtain⟨tt,k,v,rfl,hT,e1,e2⟩:=jac (zp.same sm) (by rw[a6];exact hl) hy;rw[bY] at e1
  cases ek:ks[i]? with
  |none=>rw[ek] at e1;cases e1
  |some k' =>
   rw[ek] at e1;cases e1;have eg:ks.getD i ""=k' :=by rw[eA,ek];rfl
   refine⟨tt,_,Z,bc.of hT,Z,_,_,Z,_,_,Z,Z,((gA.refl _).own (by decide)).own (by decide),_,Z,Z,_,Z,?_⟩;by_cases hb:k' ="body"
   .subst hb;refine XV ?_;have:=c1 (aS eg) H' (ah.refl H');rw[eA,e2] at this;exact⟨v,Z,this⟩
   .exact dG (dZ hb) (c0 (ba (by rw[eg];exact hb)) H' (ah.refl H'))
 .rw[WN,L5 ks xs hl] at h2;exact q p2 H2 (s1.free h0) (s1.trans s2) h2
def JM(A:nS)(n:Nat):Sp:=λvs H Q E=>∃H0 v,vs=[v]/\ah H0 H/\Dp H0 n v/\match ke H0 n v with
 |none=>∀H',ah H H'->Q .bp H'
 |some b=>Raises A H E (.sC b)
theorem Cj(T:Txt K mg A)(Fm:wV P w K A fm)(Fo:∀x:Str,bg.lookup x=none->eV fm.kF (.inr x)=none)(n:Nat):aT P w K mg base (Dc P w) (n+4) A.qp A.qH ["thing"] (JM A n):=by
 induction n with
 |zero=>exact fu (by rintro vs H Q E ⟨H0,v,_,_,h,_⟩;exact h)
 |succ n ih=>
 show aT P w K mg base (Dc P w) ((n+4)+1) _ _ _ _;refine T.qh.F.okX oh (λvs H Q E h=> ?_) (λcB Ar outer s0 H vs Q E hr h=> ?_)
 .obtain⟨H0,v,rfl,_⟩:=h;rfl
 .obtain⟨H0,v,rfl,gW,⟨th,sh,dp⟩,q⟩:=h;refine⟨_,(aj (bU (iw (gv (cG (F_ T Fm) hr T.Ij aC (ag ai (aM (pv 0))) (hj:=by lia)))) (aq (j4 Z dU (RA T.g9 T.iG (lE T) hr (aM (pv 0)) (hj:=by lia)))) bf) (aq (A5 (pq (pv 0)) (jE 1 oh.nd) (aj (bU (iw (gv (cG (FF T Fm Fo) hr T.CQ aC (aM (pv 1)) (hj:=by lia)))) (aq (j4 Z dU (RA T.g9 T.iG (lE T) hr (aM (pv 1)) (hj:=by lia)))) bf) (aq (A5 (ff (cG (Cg T Fm) hr T.fC aC (aM (pv 1)) (hj:=by lia))) (jE 2 oh.nd) (aq (bZ (cG ih hr T.qh (jx dU trivial) (aM (pv 2)) (hj:=by lia)))) (hp:=zH)))) (hp:=zH)))),?_⟩;have thH:=th.same gW
  have eS:uL H v=(nz H0 v).isSome:=by
   rw[iL th gW]
   cases th with
   |lst e=>simp[uL,nz,e]
   |tup e=>simp[uL,nz,e]
   |dK e=>simp[uL,nz,e]
   |_=>rfl
  refine⟨_,Z,"body",v,Z,thH,sh,⟨("frame",["label","body"]),by decide+kernel,by decide+kernel⟩,λH1 s1=>⟨_,Z,?_⟩⟩;rw[show cX H "body" v=uL H v by unfold cX;rw[ax (by decide+kernel),ax (by decide+kernel),ax (by decide+kernel),ax (by decide+kernel),ax (by decide+kernel),aB Z],eS];unfold ke at q
  cases ev:nz H0 v with
  |none=>
   rw[ev] at q;have q:Raises A H E (.sC v):=q;exact a9 (qZ T.g9.X.toExcC (λQ h=>⟨_,Z,h⟩) (q.on s1))
  |some xs=>
   rw[ev] at q;obtain⟨xl,hx⟩:=dp xs ev
   obtain⟨a,t,rfl,ha⟩:∃a t,v= .ref a/\H0 a=some (EF t xs):=by
    cases th with
    | @lst a ys e=>simp only[nz,e,nk] at ev;subst ev;exact⟨a,false,Z,e⟩
    | @tup a ys e=>simp only[nz,e,nk] at ev;subst ev;exact⟨a,true,Z,e⟩
    |dK e=>simp[nz,e] at ev
    |_=>cases ev
   have s01:=gW.trans s1;refine bo ⟨_,Z,a,t,Z,LY (s01 _ _ ha),?_⟩
   have q:match xs.findSome? (λx=>if cg H0 x=true then(fB H0 x).findSome? (ke H0 n) else some x) with
    |none=>∀H',ah H H'->Q .bp H'
    |some b=>Raises A H E (.sC b):=q
   have bad:∀(i:Nat) (x:V) (b:V),xs[i]? =some x->(xs.take i).findSome? (λx=>if cg H0 x=true then(fB H0 x).findSome? (ke H0 n) else some x)=none->(if cg H0 x=true then(fB H0 x).findSome? (ke H0 n) else some x)=some b->Raises A H E (.sC b):=λi x b hi h0 hb=>by
    have:xs.findSome? (λx=>if cg H0 x=true then(fB H0 x).findSome? (ke H0 n) else some x)=some b:=by
     rw[<-jC i xs,mZ,h0,ix,zj (c8.mp hi).1,(c8.mp hi).2,nC,hb]
    rw[this] at q;exact q
   refine ng (K:=K) (t:=t) (a:=a) (xs:=xs) (λi σ H' =>∃x2 x3:Option V,σ=[some (.ref a),x2,x3]/\ah H H'/\(xs.take i).findSome? (λx=>if cg H0 x=true then(fB H0 x).findSome? (ke H0 n) else some x)=none) ⟨_,_,Z,s1,Z⟩ (by rintro i σ H' _ ⟨_,_,_,sm,_⟩;exact sm _ _ (gW _ _ ha)) ?_ ?_
   .rintro i x σ H' hi ⟨x2,x3,rfl,sm,h0⟩
    obtain⟨tg,db⟩:=hx x (bE hi);have S0:=gW.trans sm;refine⟨_,Z,x,Z,tg.same S0,λH2 s2=>⟨_,Z,?_⟩⟩;rw[uy tg S0]
    cases hd:cg H0 x with
    |false=>
     exact a9 (qZ T.g9.X.toExcC (λQ h=>⟨_,Z,h⟩) ((bad i x x hi h0 (by rw[hd];rfl)).on (sm.trans s2)))
    |true=>
     refine bo ⟨_,Z,H0,x,Z,S0.trans s2,hd,λl H3 MS s3 hz=>⟨l,Z,⟨_,cF.of hz⟩,?_⟩⟩;have Lu:=(sm.trans s2).trans s3
     have Wr:∀(j:Nat) (y b:V),(fB H0 x)[j]? =some y->((fB H0 x).take j).findSome? (ke H0 n)=none->ke H0 n y=some b->Raises A H E (.sC b):=λj y b hj h1 hb=>bad i x b hi h0 (by
      rw[aB hd,<-jC j (fB H0 x),mZ,h1,ix,zj (c8.mp hj).1,(c8.mp hj).2,nC,hb])
     refine jb (K:=K) (a:=l) (xs:=fB H0 x) (λj σ H4=>∃x3:Option V,σ=[some (.ref a),some x,x3]/\ah H3 H4/\((fB H0 x).take j).findSome? (ke H0 n)=none) ⟨x3,Z,ah.refl H3,Z⟩ (by rintro i σ H' _ ⟨_,_,sm,_⟩;exact cF.of (sm _ _ hz)) ?_ ?_
     .rintro j y σ H4 hj ⟨x3,rfl,s4,h1⟩
      refine⟨_,Z,H0,y,Z,(gW.trans Lu).trans s4,db y (bE hj),?_⟩
      cases hb:ke H0 n y with
      |some b=>exact(Wr j y b hj h1 hb).on (Lu.trans s4)
      |none=>
       exact λH5 s5=>⟨some y,Z,s4.trans s5,by rw[wP hj,mZ,h1,ix,nC,hb];rfl⟩
     .rintro σ H4 ⟨x3,rfl,s4,h1⟩
      rw[gg] at h1;exact⟨some x,x3,Z,Lu.trans s4,by rw[wP hi,mZ,h0,ix,nC,aB hd,h1];rfl⟩
   .rintro σ H' ⟨x2,x3,rfl,sm,h0⟩
    rw[gg] at h0;rw[h0] at q;exact q H' sm
def JL(A:nS)(q:Str):Sp:=λvs H Q E=>∃p dx v,vs=[.ref p,v]/\H p=some (.ins A.aZ dx [])/\Dp H 40 v/\Tab H A.ay L0 q/\((∃b,ke H 40 v=some b/\Raises A H E (.sC b))\/(ke H 40 v=none/\∃t s,Dat H v (iN t (sL s))/\mD s/\eO s<40/\d_ s<=1000/\
 match gL s with
 |none=>∀tb ls H',H tb=none->H ls=none->hU p A.ay H H'->Tab H' A.ay L0 q->Hm A.aZ H' p tb ls s->Q .bp H'
 |some r=>∀dx H2,hU p A.ay H H2->Tab H2 A.ay L0 q->H2 dx=some (.xd [(r.fd,r.v)])->E (.ref (r.cls A)) (some dx) H2))
theorem sy(T:Txt K mg A)(Fm:wV P w K A fm)(Fo:∀x:Str,bg.lookup x=none->eV fm.kF (.inr x)=none)(xp:K.In base):aT P w K mg base (Dc P w) 50 A.c9 A.c7 ["self","deeds"] (JL A qI):=by
 have Gi:aT P w K mg base (Dc P w) (40+4) A.qp A.qH ["thing"] (JM A 40):=Cj T Fm Fo 40;refine T.lL.F.okC sI (λAr outer s0 H vs Q E hr h=> ?_) (λvs H Q E h=> ?_)
 .obtain⟨p,dx,v,rfl,hp,Wi,tab,hc⟩:=h;obtain⟨u1,j_⟩:=T.xK;obtain⟨u0,aej,bnd⟩:=Fm.df;have bnv:Vals [V.int 0] [u0]:= .cons aej .nil;obtain⟨c0,ct⟩:=T.sx.tab (X:=nD (Dc P w) P w K mg base ["self","deeds"] "Program.__init__" (av fM) A.c9 A.c7.code Ar outer s0 H E) xp rfl;have bm:=T.bm.mod (X:=nD (Dc P w) P w K mg base ["self","deeds"] "Program.__init__" (av fM) A.c9 A.c7.code Ar outer s0 H E) xp;refine⟨_,(aj (bZ (cG Gi hr T.qh (jx dU trivial) (aM (pv 1)))) (aj (bZ (cG (Ep T Fm) hr T.xS (jx dU trivial) (aM (pv 1)))) (aj (MU (pv 0) (P9 ct bm (uB.none Z) (λg_ f c' wU kj lk cp=>aaN T Fm lk cp) hr Z T.mR.m T.mR.F.kp bnd bnv aC (pv 1)) Z) (aj (MU (pv 0) (cG (HU T Fm 7) hr T.wX aC (ag (pfd (pv 0)) (aM (bt (aM (f_ Z j_.2 j_.1)))))) Z) (aj (bZ (cG (Bk T Fm) hr T.uc (jx dU trivial) (aM (pfd (pv 0))))) (aq (bZ (cG (Ff T Fm) hr T.xG (jx dU trivial) (aM (pfd (pv 0))))))))))),?_⟩;rcases hc with⟨b,hb,r⟩|⟨hb,t,s,hd,ok,dp,hm,q⟩
  .exact⟨_,Z,H,v,Z,ah.refl _,Wi,by rw[hb];exact r⟩
  refine⟨_,Z,H,v,Z,ah.refl _,Wi,?_⟩;rw[hb];intro H1 s1;unfold gL at q
  have npP:p≠A.ay:=by
   obtain⟨ps,e,_⟩:=tab;exact dB hp e (λz=>nomatch z)
  refine⟨_,Z,v,t,s,Z,hd.same s1,ok,dp,?_⟩
  cases es:nM s with
  |some r=>
   rw[es] at q;exact λNU H2 s2 e=>q NU H2 (λb o _ _ eb=>s2 _ _ (s1 _ _ eb)) (tab.same (s1.trans s2)) e
  |none=>
   rw[es,ix] at q
   have hs:d_ s<=40/\eO s<=6:=by
    unfold nM at es
    split at es
    .cases es
    .split at es
     .cases es
     .lia
   intro H2 s2;have xu:=s1.trans s2;have Y5:=tab.same xu;show Ge A.ay L0 qI (λf c' _=>J9 f c' qI 7) E0 [] [V.int 0] (tG (AA 1) sH) (L2.start ["self","deeds"] [V.ref p,v]) H2 _;refine Tab.lam (q:=qI) (lp:=L0) Y5 (λQ' h=>⟨_,Z,h⟩) λf c' H3 hf hf3 k3 Lj hc3=> ?_;obtain⟨ps,eP,_⟩:=id Y5;refine⟨jai A.ay H2,v,t,s,0,Z,xk k3,Nh eP (hd.same xu),ok,by lia,hm,hc3,λtb H4 Ll s4 td=> ?_⟩;have Hf:H4 p=some (.ins A.aZ dx []):=s4 _ _ (k3 _ _ npP (xu _ _ hp));refine⟨_,Z,p,A.aZ,dx,[],Z,Hf,T.jw,T.iU,(by show 0<1000;decide),?_⟩;have Wz:upd H4 p (.ins A.aZ dx (jg "body" (.ref tb) [])) p=some (.ins A.aZ dx (jg "body" (.ref tb) [])):=af;have k45:KT H4 (upd H4 p (.ins A.aZ dx (jg "body" (.ref tb) []))):=N8 Hf;have e45:∀c,c≠p->upd H4 p (.ins A.aZ dx (jg "body" (.ref tb) [])) c=H4 c:=λc h=>az h;have We:=Tab.Zd (o:= .ins A.aZ dx (jg "body" (.ref tb) [])) (Lj.same s4) Hf;generalize upd H4 p (.ins A.aZ dx (jg "body" (.ref tb) []))=H5 at Wz k45 e45 We ⊢;obtain⟨e1,e2,e3,e4⟩:=Mz s;have y_:=DV s ok;have td5:=td.kt k45
   have hk5:hU p A.ay H H5:=λb o h1 h2 eb=>by
    rw[e45 b h1];exact s4 _ _ (k3 _ _ h2 (xu _ _ eb))
   refine⟨_,Z,p,A.aZ,dx,_,_,Z,Wz,T.jw,T.iU,Z,yZ,λu hu=> ?_⟩;have s6:=ah.upd (o:= .tup [V.str "ground"]) hu;refine⟨jai p H5,.ref tb,true,nr s,u,["ground"],Z,xk s6.kept,Ky Wz (td5.dat),y_,by lia,af,(λz=>nomatch z),by lia,by rw[e1];show 1+_<_;lia,λls zs H7 hls s7 hz R=> ?_⟩;have ZK:=s6.trans s7;have Mi:=ZK _ _ Wz;have nlp:ls≠p:=dB hz Mi (λz=>nomatch z);refine⟨_,Z,p,A.aZ,dx,_,Z,Mi,T.jw,T.nZ,(by show 1<1000;decide),?_⟩;have KO:upd H7 p (.ins A.aZ dx (Up tb ls)) p=some (.ins A.aZ dx (Up tb ls)):=af;have k78:KT H7 (upd H7 p (.ins A.aZ dx (Up tb ls))):=N8 Mi;have e78:∀c,c≠p->upd H7 p (.ins A.aZ dx (Up tb ls)) c=H7 c:=λc h=>az h;have PH:=Tab.Zd (o:= .ins A.aZ dx (Up tb ls)) (We.same ZK) Mi;show{nx:=_,rt:=_:Ends}.nx _ (upd H7 p (.ins A.aZ dx (Up tb ls)));generalize upd H7 p (.ins A.aZ dx (Up tb ls))=H8 at KO k78 e78 PH ⊢;have R8:=R.kt k78;have YB:H8 ls=some (.lst zs):=(e78 _ nlp).trans hz
   have s58:ah (jai p H5) H8:=xk λc o h e=>by
    rw[e78 c h];exact ZK _ _ e
   have hk8:hU p A.ay H H8:=λb o h1 h2 eb=>by
    rw[e78 b h1];exact ZK _ _ (hk5 b o h1 h2 eb)
   have td8:iS H8 (.ref tb) (.tuple (sL (nr s))):=(td5.kt (KT.same ZK)).kt k78;refine⟨_,Z,p,A.aZ,dx,_,_,Z,KO,T.jw,T.nZ,Z,jai p H5,ls,zs,_,Z,s58,YB,R8,w8 _ _ y_,?_⟩;rw[Q8]
   cases ef:(pI s ["ground"]).findSome? j6 with
   |some r=>
    rw[ef] at q;exact λNU H9 s9 e=>q NU H9 (λb o h1 h2 eb=>s9 _ _ (hk8 b o h1 h2 eb)) (PH.same s9) e
   |none=>
    rw[ef,ix] at q;intro H9 s9;refine⟨_,Z,p,A.aZ,dx,_,_,Z,s9 _ _ KO,T.jw,T.iU,Z,.ref tb,true,nr s,Z,(td8.kt (KT.same s9)).dat,y_,by lia,by lia,?_⟩
    have er:yN (nr s)=yN s:=by
     unfold yN;rw[e3,e4]
    rw[er]
    cases eu:yN s with
    |some r=>
     rw[eu] at q;exact λNU V_ Yq e=>q NU V_ (λb o h1 h2 eb=>Yq _ _ (s9 _ _ (hk8 b o h1 h2 eb))) (PH.same (s9.trans Yq)) e
    |none=>
     rw[eu] at q;intro V_ Yq;have GW:=s9.trans Yq
     have afP:H tb=none:=by
      cases eb:H tb with
      |none=>rfl
      |some o=>
       by_cases h2:tb=A.ay
       .obtain⟨ps3,Ph,_⟩:=Lj;rw[<-h2,Ll] at Ph;cases Ph
       .rw[k3 _ _ h2 (xu _ _ eb)] at Ll;cases Ll
     have adf:H ls=none:=by
      cases eb:H ls with
      |none=>rfl
      |some o=>
       by_cases h2:ls=A.ay
       .obtain⟨ps3,Ph,_⟩:=We;have:=s6 _ _ Ph;rw[<-h2,hls] at this;cases this
       .have:=s6 _ _ (hk5 _ _ nlp h2 eb);rw[hls] at this;cases this
     refine q tb ls V_ afP adf (λb o h1 h2 eb=>GW _ _ (hk8 b o h1 h2 eb)) (PH.same GW) ⟨⟨dx,GW _ _ KO⟩,td8.kt (KT.same GW),zs,GW _ _ YB,?_,λi v ev=> ?_⟩
     .rw[R8.len,AB,a6]
     .obtain⟨r,er',t',x,u',rfl,f1,f2,f3⟩:=R8.at_ i v ev;rw[AB,bY] at er'
      cases eg:(pI s ["ground"])[i]? with
      |none=>rw[eg] at er';cases er'
      |some r' =>
       rw[eg] at er';cases er';exact⟨r',Z,t',x,u',Z,GW _ _ f1,((Zp r'.1 (w8 s _ ok r' (bE eg)) f2).kt (KT.same s58)).kt (KT.same GW),GW _ _ f3⟩
 .obtain⟨p,dx,v,rfl,_⟩:=h;rfl
theorem PD{A B:Prop}{x:V}(h:B):if(!decide (x=x))=true then A else B:=by
 rw[aS Z];exact bo h
theorem lr(T:Txt K mg A):aT P w K mg base dO 1 A.tL A.t8 ["_law_thing"] NG:=by
 refine T.jH.F.wc Bt ?_
 rintro cB Ar outer s H vs Q E hr ⟨v,rfl,p,k⟩
 refine⟨_,(aq (aH (gO (iR cD T.bM Boot.«isinstance» (ag (pv 0) (aM (eJ (v:= .ty "int") Z T.CD Boot.«int» rfl)))) (fU (Jl (iR cD T.bM Boot.«isinstance» (ag (pv 0) (aM (eJ (v:= .ty "bool") Z T.HS Boot.«bool» rfl))))))))),?_⟩
 cases p with
 |bp=>exact⟨_,Z,_,_,_,_,Z,.bp,Z,_,Z,bo k⟩
 |bl b=>exact⟨_,Z,_,_,_,_,Z,.bl b,Z,_,Z,a9 ⟨_,Z,_,_,_,_,Z,.bl b,Z,_,Z,k⟩⟩
 |int i=>exact⟨_,Z,_,_,_,_,Z,.int i,Z,_,Z,a9 ⟨_,Z,_,_,_,_,Z,.int i,Z,_,Z,k⟩⟩
 |str x=>exact⟨_,Z,_,_,_,_,Z,.str x,Z,_,Z,bo k⟩
 |lst e=>exact⟨_,Z,_,_,_,_,Z,.lst e,Z,_,Z,bo k⟩
 |tup e=>exact⟨_,Z,_,_,_,_,Z,.tup e,Z,_,Z,bo k⟩
 |dK e=>exact⟨_,Z,_,_,_,_,Z,.dK e,Z,_,Z,bo k⟩
theorem gZ(T:Txt K mg A):aT P w K mg base dO 1 A.uU A.vp ["_law_thing","_law_low","_law_high"] G0:=by
 refine T.gG.F.wc BQ ?_
 rintro cB Ar outer s H vs Q E hr ⟨v,lo,hi,rfl,p,k⟩
 refine⟨_,(aq (aH (gO (iR cD T.bM Boot.«isinstance» (ag (pv 0) (aM (eJ (v:= .ty "int") Z T.CD Boot.«int» rfl)))) (gO (Jl (iR cD T.bM Boot.«isinstance» (ag (pv 0) (aM (eJ (v:= .ty "bool") Z T.HS Boot.«bool» rfl))))) (fU (AZ xO xO (pv 1) (pv 0) (pv 2))))))),?_⟩
 cases p with
 |bp=>exact⟨_,Z,_,_,_,_,Z,.bp,Z,_,Z,bo k⟩
 |bl b=>exact⟨_,Z,_,_,_,_,Z,.bl b,Z,_,Z,a9 ⟨_,Z,_,_,_,_,Z,.bl b,Z,_,Z,_,Z,bo k⟩⟩
 |int i=>
  have k:Q (.bl (decide (lo<=i)&&decide (i<=hi))) H:=k;refine⟨_,Z,_,_,_,_,Z,.int i,Z,_,Z,a9 ⟨_,Z,_,_,_,_,Z,.int i,Z,_,Z,_,Z,a9 ⟨_,Z,_,Z,lo,i,Z,Z,_,Z,?_⟩⟩⟩;by_cases h1:lo<=i
  .rw[aS h1] at k ⊢;exact a9 ⟨_,Z,i,hi,Z,Z,by simpa using k⟩
  .rw[ba h1] at k ⊢;exact bo (by simpa using k)
 |str x=>exact⟨_,Z,_,_,_,_,Z,.str x,Z,_,Z,bo k⟩
 |lst e=>exact⟨_,Z,_,_,_,_,Z,.lst e,Z,_,Z,bo k⟩
 |tup e=>exact⟨_,Z,_,_,_,_,Z,.tup e,Z,_,Z,bo k⟩
 |dK e=>exact⟨_,Z,_,_,_,_,Z,.dK e,Z,_,Z,bo k⟩
def Qu:Sp:=λvs H Q _=>∃v,vs=[v]/\Th H v/\∀H',ah H H'->Q (.bl (uL H v)) H'
theorem ia(T:Txt K mg A):aT P w K mg base dO 1 A.qz A.qN ["_law_thing"] Qu:=by
 refine T.gh.F.wc yV ?_
 rintro cB Ar outer s H vs Q E hr ⟨v,rfl,th,k⟩
 refine⟨_,(aq (aH (iR vE T.bM Boot.«isinstance» (ag (pv 0) (aM (bt (ag (eJ (v:= .ty "list") Z T.AI Boot.«list» rfl) (aM (eJ (v:= .ty "tuple") Z T.iE Boot.«tuple» rfl))))))))),?_⟩;refine⟨_,Z,hV,λp hp=> ?_⟩;have s1:=ah.upd (o:= .tup [V.ty "list",V.ty "tuple"]) hp;refine⟨v,p,Z,th.same s1,af,?_⟩;rw[iL th s1];exact k _ s1
theorem fG(T:Txt K mg A):aT P w K mg base dO 1 A.qv A.yF ["_law_thing"] Kj:=by
 refine T.fE.F.wc Ei ?_
 rintro cB Ar outer s H vs Q E hr ⟨v,rfl,th,sh,k⟩
 have Hk:(Ar.deeper (envOfC "_law_name" (av rA) s.heap.objs.size A.qv cB)).units<cLine:=by
  have:=hr.un
  lia
 refine⟨_,(aj (bU (PW.pt (WF (iw (gv (iR cD T.bM Boot.«isinstance» (ag (pv 0) (aM (eJ (v:= .ty "str") Z T.J_ Boot.«str» rfl)))))) (WP (iw (MF xO xO ae (iR oM T.g7 Boot.«len» (aM (pv 0))) ae))))) (aq (aH ky)) bf) (aq (aH (HG (oz Hk) (Ls ["_law_sign"] 1 [] (Og (pv 0) Z) (λ_ _ _ _ _=>⟨(jE 0 (show(["_law_sign"]:au).Nodup by decide+kernel)),(LS (wn DQ (pv 0) ai)),(pv 0)⟩)) (bH dY))))),?_⟩;have k0:=k H (ah.refl H)
 cases th with
 |bp=>exact⟨_,Z,_,_,_,_,Z,.bp,Z,_,Z,a9 k0⟩
 |bl b=>exact⟨_,Z,_,_,_,_,Z,.bl b,Z,_,Z,a9 k0⟩
 |int i=>exact⟨_,Z,_,_,_,_,Z,.int i,Z,_,Z,a9 k0⟩
 |lst e=>exact⟨_,Z,_,_,_,_,Z,.lst e,Z,_,Z,a9 k0⟩
 |tup e=>exact⟨_,Z,_,_,_,_,Z,.tup e,Z,_,Z,a9 k0⟩
 |dK e=>exact⟨_,Z,_,_,_,_,Z,.dK e,Z,_,Z,a9 k0⟩
 |str x=>
  have hl:x.length<=100000:=sh;have hL:sizeLine=16777216:=rfl;have kn:∀H',ah H H'->Q (.bl (cv x)) H' :=k;unfold cv at kn;refine⟨_,Z,_,_,_,_,Z,.str x,Z,_,Z,bo ?_⟩;refine⟨_,Z,x,Z,by lia,1,x.length,Z,Z,_,Z,?_⟩;by_cases h1:1<=x.length
  .rw[aS h1,kR] at kn;rw[aS (show(1:Int)<=(x.length:Int) by lia)];refine a9 ⟨x.length,6,Z,Z,_,Z,?_⟩;by_cases h6:x.length<=6
   .rw[aS h6,kR] at kn;rw[aS (show(x.length:Int)<=6 by lia)];refine bo ⟨_,Z,x,Z,?_⟩;refine sr (λv=>match v with| .str z=> !dC (z.cps.getD 0 0)|_=>true) (λv=>v) (DD x H) ?_ ?_ λp hp=> ?_
    .simp;exact aU h6 (by decide)
    .intro i y H' C1 C0 hy sm c1 c0;rw[bY] at hy
     cases ec:x.cps.toList[i]? with
     |none=>rw[ec] at hy;cases hy
     |some c=>
      rw[ec] at hy;cases hy;refine⟨(gA.refl _).own (by decide),⟨_,Z,_,_,Z,Z,_,Z,?_⟩⟩;rw[CB]
      cases hb:dC c with
      |true=>exact bo (c0 (by show(!dC c)=false;rw[hb];rfl))
      |false=>exact a9 ⟨_,Z,c1 (by show(!dC c)=true;rw[hb];rfl)⟩
    .refine⟨nq,λe he=>zE (ah.upd he _ _ af) af ?_⟩
     have:(((x.cps.toList.map λc=>V.str ⟨#[c]⟩).filter λv=>match v with| .str z=> !dC (z.cps.getD 0 0)|_=>true).map λv=>v).isEmpty=x.cps.toList.all dC:=by
      rw[List.map_id'];generalize x.cps.toList=l
      induction l with
      |nil=>rfl
      |cons c r ih=>
       rw[cL,List.filter_cons,fj]
       cases hb:dC c with
       |true=>rw[kR,<-ih,ax (by show ¬(!dC c)=true;rw[hb];decide)]
       |false=>rw[nE,aB (by show(!dC c)=true;rw[hb];rfl)];rfl
     rw[this];exact kn _ ((ah.upd hp).trans (ah.upd he))
   .rw[ba h6,nE] at kn;rw[ba (show ¬(x.length:Int)<=6 by lia)];exact a9 (kn H (ah.refl H))
  .rw[ba h1,nE,nE] at kn;rw[ba (show ¬(1:Int)<=(x.length:Int) by lia)];exact bo ⟨_,Z,a9 (kn H (ah.refl H))⟩
noncomputable def Rk(H:Hp)(xs:ak):Bool:=uR (xs.getD 0 .bp)&& !LW (xs.getD 0 .bp)&&uL H (xs.getLastD .bp)
def WK:Sp:=λvs H Q _=>∃a x xs,vs=[.ref a]/\H a=some (.tup (x::xs))/\(∀y∈x::xs,Th H y/\Sh y)/\∀H',ah H H'->Q (.bl (Rk H (x::xs))) H'
theorem nR(T:Txt K mg A):aT P w K mg base dO 2 A.pk A.o_ ["_law_parts"] WK:=by
 refine T.kq.F.wc xy ?_
 rintro cB Ar outer s H vs Q E hr ⟨a,x,xs,rfl,ha,hx,k⟩
 refine⟨_,(aq (aH (gO (cG (fG T) hr T.fE aC (aM (cS aN (pv 0) ae))) (gO (HG qQ (cS aN (pv 0) ae) ai) (fU (cG (ia T) hr T.gh aC (aM (cS aN (pv 0) (NX HX ae))))))))),?_⟩;obtain⟨th,sh⟩:=hx x c5;refine⟨_,Z,a,_,0,_,Z,Z,bc.of ha,gU _ _,x,Z,th,sh,λH1 s1=>⟨_,Z,?_⟩⟩;unfold Rk at k;rw[show(x::xs).getD 0 .bp=x from Z] at k
 cases hn:uR x with
 |false=>
  rw[hn] at k;exact bo (k H1 s1)
 |true=>
  obtain⟨z,rfl⟩:∃z,x= .str z:=by cases x<;>first|exact⟨_,rfl⟩|cases hn
  rw[hn,kR] at k;refine a9 ⟨_,Z,a,_,0,_,Z,Z,bc.of (s1 _ _ ha),gU _ _,Z,_,Z,?_⟩;by_cases hg:z="ground"
  .subst hg;rw[show LW (.str "ground")=true by decide+kernel] at k;exact PD (k H1 s1)
  .rw[show LW (.str z)=false from ba hg] at k;rw[ba (dZ hg)];obtain⟨ys,y,ey⟩:∃ys y,V.str z::xs=ys++[y]:=⟨_,_,(List.dropLast_concat_getLast (List.cons_ne_nil _ _)).symm⟩;have hm:y∈V.str z::xs:=by rw[ey];simp
   obtain⟨wR,Hg⟩:=hx y hm;have el:(V.str z::xs).getLastD .bp=y:=by rw[ey];simp
   rw[el] at k;have ha1:=s1 _ _ ha;rw[ey] at ha1;refine a9 ⟨_,Z,_,Z,a,_, -1,_,Z,Z,bc.of ha1,MR _ _,y,Z,wR.same s1,λH2 s2=> ?_⟩;rw[iL wR s1];exact k H2 (s1.trans s2)
noncomputable def Mt:eI:=[(.inr "make",.int 4),(.inr "put",.int 4),(.inr "get",.int 4),(.inr "set",.int 3),(.inr "copy",.int 3),(.inr "more",.int 4),(.inr "tell",.int 2),(.inr "same",.int 3),(.inr "frame",.int 3)]
noncomputable def NS:eI:=[(.inr "either",.int 3),(.inr "turns",.int 5)]
theorem uW{l:eI}{w:Str}(h:∀p∈l,p.1≠.inr w):eV l (.inr w)=none:=by
 unfold eV;rw[List.find?_eq_none.mpr]
 .rfl
 .intro x hx;simpa using h x hx
theorem abo(w:Str):((eV NS (.inr w)).getD ((eV Mt (.inr w)).getD (.int 0)))= .int (match bg.lookup w with|some ks=>((1+ks.length:Nat):Int)|none=>0):=by
 cases hf:bg.lookup w with
 |some ks=>
  have mem:(w,ks)∈bg:=gD hf;exact bD (a7.mp (show(bg.all λp=>decide (((eV NS (.inr p.1)).getD ((eV Mt (.inr p.1)).getD (.int 0)))= .int ((1+p.2.length:Nat):Int)))=true by decide+kernel) _ mem)
 |none=>
  have no:∀x:Str,(bg.map (·.1)).contains x=true->x≠w:=λx hx z=>by
   subst z;obtain⟨p,hp,rfl⟩:=jn.mp (List.contains_iff_mem.mp hx);have:=List.lookup_eq_none_iff.mp hf p hp;simp at this
  rw[uW (l:=NS),uW (l:=Mt)]
  .rfl
  .intro p hp z;have:=a7.mp (show(Mt.all λp=>match p.1 with| .inr x=>(bg.map (·.1)).contains x|_=>false)=true by decide+kernel) p hp;rw[z] at this;exact no w this rfl
  .intro p hp z;have:=a7.mp (show(NS.all λp=>match p.1 with| .inr x=>(bg.map (·.1)).contains x|_=>false)=true by decide+kernel) p hp;rw[z] at this;exact no w this rfl
theorem Z4{l:ak}(h:l.length=1):∃a,l=[a]:=ZF (P:=λl=>∃a,l=[a]) (λa=>⟨a,Z⟩) l h
theorem Cn{l:ak}(h:l.length=2):∃a b,l=[a,b]:=Yx (P:=λl=>∃a b,l=[a,b]) (λa b=>⟨a,b,Z⟩) l h
theorem FH{l:ak}(h:l.length=3):∃a b c,l=[a,b,c]:=Yg (P:=λl=>∃a b c,l=[a,b,c]) (λa b c=>⟨a,b,c,Z⟩) l h
theorem Zx{l:ak}(h:l.length=4):∃a b c d,l=[a,b,c,d]:=bn4 (P:=λl=>∃a b c d,l=[a,b,c,d]) (λa b c d=>⟨a,b,c,d,Z⟩) l h
theorem kN(H:Hp)(v:V):cX H "name" v=uR v:=aB rfl
theorem Bw(H:Hp)(v:V):cX H "label" v=(uR v&& !LW v):=by unfold cX;rw[ax (by decide+kernel),aB Z]
theorem Kt(H:Hp)(v:V):cX H "mark" v=(decide (v= .bp)||uR v):=by unfold cX;rw[ax (by decide+kernel),ax (by decide+kernel),aB Z]
theorem GA(H:Hp)(v:V):cX H "value" v=(decide (v= .bp)||Ap v):=by unfold cX;rw[ax (by decide+kernel),ax (by decide+kernel),ax (by decide+kernel),aB Z]
theorem CM(H:Hp)(v:V):cX H "number" v=Ap v:=by unfold cX;rw[ax (by decide+kernel),ax (by decide+kernel),ax (by decide+kernel),ax (by decide+kernel),aB Z]
theorem zg(H:Hp)(v:V):cX H "body" v=uL H v:=by unfold cX;rw[ax (by decide+kernel),ax (by decide+kernel),ax (by decide+kernel),ax (by decide+kernel),ax (by decide+kernel),aB Z]
theorem DY{k:Str}{lo hi:Int}(h:(oO.take 6).contains k=false)(e:xo.lookup k=some (lo,hi))(H:Hp)(v:V):cX H k v=LO lo hi v:=by
 have n:∀y∈oO.take 6,k≠y:=λy hy z=>by
  rw[<-z] at hy;rw[List.contains_iff_mem.mpr hy] at h;cases h
 unfold cX;rw[ax (n _ (by decide+kernel)),ax (n _ (by decide+kernel)),ax (n _ (by decide+kernel)),ax (n _ (by decide+kernel)),ax (n _ (by decide+kernel)),ax (n _ (by decide+kernel)),e]
theorem Kc(H:Hp)(v:V):cX H "size" v=LO 1 6 v:=DY (by decide+kernel) (by decide+kernel) H v
theorem DU(H:Hp)(v:V):cX H "cell" v=LO 0 5 v:=DY (by decide+kernel) (by decide+kernel) H v
theorem Ko(H:Hp)(v:V):cX H "many" v=LO 1 3 v:=DY (by decide+kernel) (by decide+kernel) H v
theorem FC(H:Hp)(v:V):cX H "times" v=LO 0 4 v:=DY (by decide+kernel) (by decide+kernel) H v
theorem yJ(T:Txt K mg A):aT P w K mg base dO 3 A.iI A.pV ["_law_thing"] J2:=by
 refine T.pZ.F.okN km ?_
 rintro cB Ar outer s H vs Q E hr ⟨v,rfl,tg,q⟩
 have hu:(Ar.deeper (envOfC "_law_is_deed" (av iY) s.heap.objs.size A.iI cB)).units+1<cLine:=by
  have:=hr.un
  lia
 have Hk:(Ar.deeper (envOfC "_law_is_deed" (av iY) s.heap.objs.size A.iI cB)).units<cLine:=by
  have:=hr.un
  lia
 refine⟨_,(aD (bN (i:=1) km.nd Z (Or.inl Z) (Od (iW ⟨ai⟩ ⟨ae⟩ (iW ⟨ai⟩ ⟨ae⟩ (iW ⟨ai⟩ ⟨ae⟩ (iW ⟨ai⟩ ⟨ae⟩ (iW ⟨ai⟩ ⟨ae⟩ (iW ⟨ai⟩ ⟨ae⟩ (iW ⟨ai⟩ ⟨ae⟩ (iW ⟨ai⟩ ⟨ae⟩ (iW ⟨ai⟩ ⟨ae⟩ QM))))))))) Z Z (by simp) (by decide)) (by kernel_rfl) (Or.inl Z)) (aD (eL (PW.pt (WF (iw (gv (iR cD T.bM Boot.«isinstance» (ag (pv 0) (aM (eJ (v:= .ty "tuple") Z T.iE Boot.«tuple» rfl)))))) (WF (wn (K1 Hk) (pv 0) (bt dY)) (WP (iw (gv (iR cD T.bM Boot.«isinstance» (ag (cS aN (pv 0) ae) (aM (eJ (v:= .ty "str") Z T.J_ Boot.«str» rfl)))))))))) (bC ⟨(aH ky)⟩) cf) (aD ⟨(Jg (i:=2) (j:=3) Z km.nd Z Z (by decide) Z Z (ag (cS aN (pv 0) ae) (aM (dH iu (pv 0) (bQ ae) bW))) (by rfl))⟩ (aD (eL (wn qQ (vn hu (vZ (g8 ai ae (g8 ai ae u_)) Z Z (by simp) (by decide)) (pv 2) (vn hu (pv 1) (pv 2) ae ⟨Z,Z,Z,Z⟩) ⟨Z,Z,Z,Z⟩) (iR br T.g7 Boot.«len» (aM (pv 0)))) (bC ⟨(aH ky)⟩) cf) (aD (eL (wn cK (pv 2) ai) (bC ⟨(aH (gO (cG (ia T) hr T.gh aC (aM (cS aN (pv 3) ae))) (fU (cG (ia T) hr T.gh aC (aM (cS aN (pv 3) ae))))))⟩) cf) (aD (eL (wn cK (pv 2) ai) (bC ⟨(aH (cG (nR T) hr T.kq aC (aM (pv 3))))⟩) cf) (aD (eL (wn cK (pv 2) ai) (bC ⟨(aH (gO (cG (nR T) hr T.kq aC (aM (pv 3))) (gO (cG (gZ T) hr T.gG aC (ag (cS aN (pv 3) ae) (ag ae (aM ae)))) (fU (cG (gZ T) hr T.gG aC (ag (cS aN (pv 3) ae) (ag ae (aM ae))))))))⟩) cf) (aD (eL (iw (gv (cG (fG T) hr T.fE aC (aM (cS aN (pv 3) ae))))) (bC ⟨(aH ky)⟩) cf) (aD (eL (wn cK (pv 2) ai) (bC ⟨(aH (gO (cG (gZ T) hr T.gG aC (ag (cS aN (pv 3) ae) (ag ae (aM ae)))) (fU (GO (HG Bb (cS aN (pv 3) ae) eh) (fU (cG (fG T) hr T.fE aC (aM (cS aN (pv 3) ae))))))))⟩) cf) (aD (eL (wn cK (pv 2) ai) (bC ⟨(aH (gO (cG (gZ T) hr T.gG aC (ag (cS aN (pv 3) ae) (ag ae (aM ae)))) (fU (cG (fG T) hr T.fE aC (aM (cS aN (pv 3) ae))))))⟩) cf) (aD (eL (wn cK (pv 2) ai) (bC ⟨(aH (gO (cG (fG T) hr T.fE aC (aM (cS aN (pv 3) ae))) (fU (cG (gZ T) hr T.gG aC (ag (cS aN (pv 3) ae) (ag ae (aM ae)))))))⟩) cf) (aD (eL (wn cK (pv 2) ai) (bC ⟨(aH (GO (HG Bb (cS aN (pv 3) ae) eh) (fU (cG (lr T) hr T.jH aC (aM (cS aN (pv 3) ae))))))⟩) cf) (aD (eL (wn cK (pv 2) ai) (bC ⟨(aH (gO (cG (fG T) hr T.fE aC (aM (cS aN (pv 3) ae))) (fU (cG (lr T) hr T.jH aC (aM (cS aN (pv 3) ae))))))⟩) cf) (bC ⟨(aH (GO (HG cK (pv 2) ai) (fU (cG (fG T) hr T.fE aC (aM (cS aN (pv 3) ae))))))⟩)))))))))))))),?_⟩;refine λp hp=>⟨af,Mt,Z,(by decide),?_⟩;rw[show o9 [] Mt=Mt by with_unfolding_all rfl];have s1:ah H (upd (upd H p (.dK [])) p (.dK Mt)):=fh hp (ah.upd hp);have Kn:upd (upd H p (.dK [])) p (.dK Mt) p=some (.dK Mt):=af;generalize upd (upd H p (.dK [])) p (.dK Mt)=H1 at s1 Kn ⊢;have q1:=q H1 s1;obtain⟨th,sh,tat⟩:=tg
 cases th with
 |bp=>exact⟨_,Z,_,_,_,_,Z,.bp,Z,_,Z,a9 q1⟩
 |bl b=>exact⟨_,Z,_,_,_,_,Z,.bl b,Z,_,Z,a9 q1⟩
 |int i=>exact⟨_,Z,_,_,_,_,Z,.int i,Z,_,Z,a9 q1⟩
 |str x=>exact⟨_,Z,_,_,_,_,Z,.str x,Z,_,Z,a9 q1⟩
 |lst e=>
  rw[show cg H _=false by simp[cg,e]] at q1;exact⟨_,Z,_,_,_,_,Z,.lst (s1 _ _ e),Z,_,Z,a9 q1⟩
 |dK e=>
  rw[show cg H _=false by simp[cg,e]] at q1;exact⟨_,Z,_,_,_,_,Z,.dK (s1 _ _ e),Z,_,Z,a9 q1⟩
 | @tup a xs e=>
  obtain⟨hl,hx⟩:=tat a xs Z e;have dv:cg H (.ref a)=Ip H xs:=by simp[cg,e]
  rw[dv] at q;refine⟨_,Z,_,_,_,_,Z,.tup (s1 _ _ e),Z,_,Z,bo ⟨_,Z,nq,λe0 he0=> ?_⟩⟩;have u2:=ah.upd (o:= .tup []) he0;have s2:=s1.trans u2;have CO:=u2 _ _ Kn;refine⟨a,e0,xs,Z,Z,s2 _ _ e,af,_,Z,?_⟩;generalize upd H1 e0 (.tup [])=H2 at u2 s2 CO ⊢
  cases xs with
  |nil=>exact a9 (q H2 s2)
  |cons x ys=>
  have e2:=s2 _ _ e;obtain⟨thx,shx⟩:=hx x c5;by_cases hs:∃w,x= .str w
  rotate_left
  .have q0:Q (.bl false) H2:=by
    have:=q H2 s2;cases x<;>first|exact this|exact absurd ⟨_,rfl⟩ hs
   cases thx with
   |bp=>exact bo ⟨_,Z,a,_,0,_,Z,Z,bc.of e2,gU _ _,_,_,_,_,Z,.bp,Z,_,Z,a9 q0⟩
   |bl b=>exact bo ⟨_,Z,a,_,0,_,Z,Z,bc.of e2,gU _ _,_,_,_,_,Z,.bl b,Z,_,Z,a9 q0⟩
   |int i=>exact bo ⟨_,Z,a,_,0,_,Z,Z,bc.of e2,gU _ _,_,_,_,_,Z,.int i,Z,_,Z,a9 q0⟩
   |str z=>exact absurd ⟨_,Z⟩ hs
   |lst e1=>exact bo ⟨_,Z,a,_,0,_,Z,Z,bc.of e2,gU _ _,_,_,_,_,Z,.lst (s2 _ _ e1),Z,_,Z,a9 q0⟩
   |tup e1=>exact bo ⟨_,Z,a,_,0,_,Z,Z,bc.of e2,gU _ _,_,_,_,_,Z,.tup (s2 _ _ e1),Z,_,Z,a9 q0⟩
   |dK e1=>exact bo ⟨_,Z,a,_,0,_,Z,Z,bc.of e2,gU _ _,_,_,_,_,Z,.dK (s2 _ _ e1),Z,_,Z,a9 q0⟩
  obtain⟨w,rfl⟩:=hs;refine bo ⟨_,Z,a,_,0,_,Z,Z,bc.of e2,gU _ _,_,_,_,_,Z,.str w,Z,_,Z,bo ?_⟩;refine⟨_,Z,a,_,0,_,Z,Z,bc.of e2,gU _ _,_,Z,1,Z,a,_,Z,bc.of e2,?_⟩;refine⟨jz (k:=1) (by decide) _,λtp QG=>⟨_,_,Z,?_⟩⟩;rw[ZP];have u3:=ah.upd (o:= .tup ys) QG;have s3:=s2.trans u3;have BN:=u3 _ _ CO;have UO:upd H2 tp (.tup ys) tp=some (.tup ys):=af;generalize upd H2 tp (.tup ys)=H3 at u3 s3 BN UO ⊢;intro p4 Hf;have u4:ah H3 (upd (upd H3 p4 (.dK [])) p4 (.dK NS)):=fh Hf (ah.upd Hf);refine⟨af,NS,Z,(by decide),?_⟩;rw[show o9 [] NS=NS by with_unfolding_all rfl];have s4:=s3.trans u4;have XG :=u4 _ _ BN;have BP:=u4 _ _ UO;have e4:upd (upd H3 p4 (.dK [])) p4 (.dK NS) p4=some (.dK NS):=af;generalize upd (upd H3 p4 (.dK [])) p4 (.dK NS)=H4 at u4 s4 XG BP e4 ⊢;refine⟨p4,Z,.inl ⟨_,.inl e4⟩,_,Z,_,Z,p,Z,.inl ⟨_,.inl XG⟩,_,Z,_,FU.k (k:= .inr w) XG,_,FU.k (k:= .inr w) e4,_,Z,a,_,Z,.inr (bc.of (s4 _ _ e)),?_⟩;rw[abo w];refine⟨Z,_,Z,?_⟩
  have q:∀H',ah H H'->Q (.bl (match bg.lookup w with
   |some ks=>decide (ys.length=ks.length)&&(List.zipWith (cX H) ks ys).all id
   |none=>false)) H' :=q
  cases hf:bg.lookup w with
  |none=>
   rw[hf] at q;rw[ba (λz=>by have:(0:Int)=((V.str w::ys).length:Int):=V.int.inj z;rw[bB] at this;lia)];exact a9 (q H4 s4)
  |some ks=>
  rw[hf] at q;have q:∀H',ah H H'->Q (.bl (decide (ys.length=ks.length)&&(List.zipWith (cX H) ks ys).all id)) H' :=q;show if(!decide (V.int ((1+ks.length:Nat):Int)=V.int ((V.str w::ys).length:Int)))=true then _ else _
  by_cases hn:ys.length=ks.length
  rotate_left
  .rw[ba hn,nE] at q;rw[ba (λz=>hn (by have:=V.int.inj z;rw[bB] at this;lia))];exact a9 (q H4 s4)
  rw[aS hn,kR] at q;rw[aS (show V.int ((1+ks.length:Nat):Int)=V.int ((V.str w::ys).length:Int) by rw[bB,hn];congr 1;lia)];refine bo ?_;have mem:(w,ks)∈bg:=gD hf;have hy:∀y∈ys,Th H y/\Sh y:=λy hy=>hx y (cw _ hy);clear hf hx hl dv;simp only[bg,aP,cO,cR,zt] at mem;rcases mem with⟨rfl,rfl⟩|⟨rfl,rfl⟩|⟨rfl,rfl⟩|⟨rfl,rfl⟩|⟨rfl,rfl⟩|⟨rfl,rfl⟩|⟨rfl,rfl⟩|⟨rfl,rfl⟩|⟨rfl,rfl⟩|⟨rfl,rfl⟩|⟨rfl,rfl⟩
  .-- make
   obtain⟨y1,y2,y3,rfl⟩:∃y1 y2 y3,ys=[y1,y2,y3]:=FH hn;simp only[iP,lQ,mj,fj,i3,lq,id,Kt,kN,Kc] at q;obtain⟨Dw,Fq⟩:=hy y1 (by simp);obtain⟨wR,Hg⟩:=hy y2 (by simp);obtain⟨Q9,Yr⟩:=hy y3 (by simp);refine⟨_,Z,Z,_,Z,dG (by decide+kernel) ⟨_,Z,Z,_,Z,dG (by decide+kernel) ⟨_,Z,Z,_,Z,dG (by decide+kernel) ⟨_,Z,tp,_,0,_,Z,Z,bc.of BP,gU _ _,y1,Z,Dw.same s4,Fq,λH5 s5=>⟨_,Z,?_⟩⟩⟩⟩⟩;have S5:=s4.trans s5;have AY:=s5 _ _ BP
   cases h1:uR y1 with
   |false=>exact a9 (show Q (.bl false) H5 by simpa[h1] using q H5 S5)
   |true=>
    refine bo ?_;refine⟨_,Z,Z,_,Z,XV ⟨_,Z,tp,_,1,_,Z,Z,bc.of AY,bb (j:=1) Z,y2,1,6,Z,wR.same S5,_,Z,?_⟩⟩
    cases h2:LO 1 6 y2 with
    |false=>exact bo (by simpa[h1,h2] using q H5 S5)
    |true=>
     refine a9 ⟨_,Z,tp,_,2,_,Z,Z,bc.of AY,bb (j:=2) Z,Z,_,Z,?_⟩;by_cases h3:y3= .bp
     .subst h3;exact XV (by simpa[h1,h2] using q H5 S5)
     .exact dG h3 ⟨_,Z,tp,_,2,_,Z,Z,bc.of AY,bb (j:=2) Z,y3,Z,Q9.same S5,Yr,λH6 s6=>by simpa[h1,h2,h3] using q H6 (S5.trans s6)⟩
  .-- put
   obtain⟨y1,y2,y3,rfl⟩:∃y1 y2 y3,ys=[y1,y2,y3]:=FH hn;simp only[iP,lQ,mj,fj,i3,lq,id,DU,kN] at q;obtain⟨Dw,Fq⟩:=hy y1 (by simp);obtain⟨wR,Hg⟩:=hy y2 (by simp);obtain⟨Q9,Yr⟩:=hy y3 (by simp);refine⟨_,Z,Z,_,Z,dG (by decide+kernel) ⟨_,Z,Z,_,Z,dG (by decide+kernel) ⟨_,Z,Z,_,Z,dG (by decide+kernel) ⟨_,Z,tp,_,0,_,Z,Z,bc.of BP,gU _ _,y1,Z,Dw.same s4,Fq,λH5 s5=>⟨_,Z,?_⟩⟩⟩⟩⟩;have S5:=s4.trans s5;have AY:=s5 _ _ BP
   cases h1:uR y1 with
   |false=>exact a9 (show Q (.bl false) H5 by simpa[h1] using q H5 S5)
   |true=>
    refine bo ?_;refine⟨_,Z,Z,_,Z,dG (by decide+kernel) ⟨_,Z,Z,_,Z,XV ⟨_,Z,tp,_,1,_,Z,Z,bc.of AY,bb (j:=1) Z,y2,0,5,Z,wR.same S5,_,Z,?_⟩⟩⟩
    cases h2:LO 0 5 y2 with
    |false=>exact bo (by simpa[h1,h2] using q H5 S5)
    |true=>exact a9 ⟨_,Z,tp,_,2,_,Z,Z,bc.of AY,bb (j:=2) Z,y3,Z,Q9.same S5,Yr,λH6 s6=>by simpa[h1,h2] using q H6 (S5.trans s6)⟩
  .-- get
   obtain⟨y1,y2,y3,rfl⟩:∃y1 y2 y3,ys=[y1,y2,y3]:=FH hn;simp only[iP,lQ,mj,fj,i3,lq,id,DU,kN] at q;obtain⟨Dw,Fq⟩:=hy y1 (by simp);obtain⟨wR,Hg⟩:=hy y2 (by simp);obtain⟨Q9,Yr⟩:=hy y3 (by simp);refine⟨_,Z,Z,_,Z,dG (by decide+kernel) ⟨_,Z,Z,_,Z,dG (by decide+kernel) ⟨_,Z,Z,_,Z,dG (by decide+kernel) ⟨_,Z,tp,_,0,_,Z,Z,bc.of BP,gU _ _,y1,Z,Dw.same s4,Fq,λH5 s5=>⟨_,Z,?_⟩⟩⟩⟩⟩;have S5:=s4.trans s5;have AY:=s5 _ _ BP
   cases h1:uR y1 with
   |false=>exact a9 (show Q (.bl false) H5 by simpa[h1] using q H5 S5)
   |true=>
    refine bo ?_;refine⟨_,Z,Z,_,Z,dG (by decide+kernel) ⟨_,Z,Z,_,Z,dG (by decide+kernel) ⟨_,Z,Z,_,Z,XV ⟨_,Z,tp,_,1,_,Z,Z,bc.of AY,bb (j:=1) Z,y2,Z,wR.same S5,Hg,λH6 s6=>⟨_,Z,?_⟩⟩⟩⟩⟩;have S6:=S5.trans s6
    cases h2:uR y2 with
    |false=>exact bo (by simpa[h1,h2] using q H6 S6)
    |true=>exact a9 ⟨_,Z,tp,_,2,_,Z,Z,bc.of (s6 _ _ AY),bb (j:=2) Z,y3,0,5,Z,Q9.same S6,by simpa[h1,h2] using q H6 S6⟩
  .-- set
   obtain⟨y1,y2,rfl⟩:∃y1 y2,ys=[y1,y2]:=Cn hn;simp only[iP,lQ,mj,fj,i3,lq,id,kN,GA] at q;obtain⟨Dw,Fq⟩:=hy y1 (by simp);obtain⟨wR,Hg⟩:=hy y2 (by simp);refine⟨_,Z,Z,_,Z,dG (by decide+kernel) ⟨_,Z,Z,_,Z,dG (by decide+kernel) ⟨_,Z,Z,_,Z,dG (by decide+kernel) ⟨_,Z,tp,_,0,_,Z,Z,bc.of BP,gU _ _,y1,Z,Dw.same s4,Fq,λH5 s5=>⟨_,Z,?_⟩⟩⟩⟩⟩;have S5:=s4.trans s5;have AY:=s5 _ _ BP
   cases h1:uR y1 with
   |false=>exact a9 (show Q (.bl false) H5 by simpa[h1] using q H5 S5)
   |true=>
    refine bo ?_;refine⟨_,Z,Z,_,Z,dG (by decide+kernel) ⟨_,Z,Z,_,Z,dG (by decide+kernel) ⟨_,Z,Z,_,Z,dG (by decide+kernel) ⟨_,Z,Z,_,Z,XV ⟨_,Z,tp,_,1,_,Z,Z,bc.of AY,bb (j:=1) Z,Z,_,Z,?_⟩⟩⟩⟩⟩;by_cases h2:y2= .bp
    .subst h2;exact XV (by simpa[h1] using q H5 S5)
    .exact dG h2 ⟨_,Z,tp,_,1,_,Z,Z,bc.of AY,bb (j:=1) Z,y2,Z,wR.same S5,by simpa[h1,h2] using q H5 S5⟩
  .-- copy
   obtain⟨y1,y2,rfl⟩:∃y1 y2,ys=[y1,y2]:=Cn hn;simp only[iP,lQ,mj,fj,i3,lq,id,kN] at q;obtain⟨Dw,Fq⟩:=hy y1 (by simp);obtain⟨wR,Hg⟩:=hy y2 (by simp);refine⟨_,Z,Z,_,Z,dG (by decide+kernel) ⟨_,Z,Z,_,Z,dG (by decide+kernel) ⟨_,Z,Z,_,Z,dG (by decide+kernel) ⟨_,Z,tp,_,0,_,Z,Z,bc.of BP,gU _ _,y1,Z,Dw.same s4,Fq,λH5 s5=>⟨_,Z,?_⟩⟩⟩⟩⟩;have S5:=s4.trans s5;have AY:=s5 _ _ BP
   cases h1:uR y1 with
   |false=>exact a9 (show Q (.bl false) H5 by simpa[h1] using q H5 S5)
   |true=>
    refine bo ?_;exact⟨_,Z,Z,_,Z,dG (by decide+kernel) ⟨_,Z,Z,_,Z,dG (by decide+kernel) ⟨_,Z,Z,_,Z,dG (by decide+kernel) ⟨_,Z,Z,_,Z,dG (by decide+kernel) ⟨_,Z,Z,_,Z,dG (by decide+kernel) ⟨_,Z,Z,_,Z,dG (by decide+kernel) ⟨_,Z,tp,_,1,_,Z,Z,bc.of AY,bb (j:=1) Z,y2,Z,wR.same S5,Hg,λH6 s6=>by simpa[h1] using q H6 (S5.trans s6)⟩⟩⟩⟩⟩⟩⟩
  .-- more
   obtain⟨y1,y2,y3,rfl⟩:∃y1 y2 y3,ys=[y1,y2,y3]:=FH hn;simp only[iP,lQ,mj,fj,i3,lq,id,kN,CM] at q;obtain⟨Dw,Fq⟩:=hy y1 (by simp);obtain⟨wR,Hg⟩:=hy y2 (by simp);obtain⟨Q9,Yr⟩:=hy y3 (by simp);refine⟨_,Z,Z,_,Z,dG (by decide+kernel) ⟨_,Z,Z,_,Z,dG (by decide+kernel) ⟨_,Z,Z,_,Z,dG (by decide+kernel) ⟨_,Z,tp,_,0,_,Z,Z,bc.of BP,gU _ _,y1,Z,Dw.same s4,Fq,λH5 s5=>⟨_,Z,?_⟩⟩⟩⟩⟩;have S5:=s4.trans s5;have AY:=s5 _ _ BP
   cases h1:uR y1 with
   |false=>exact a9 (show Q (.bl false) H5 by simpa[h1] using q H5 S5)
   |true=>
    refine bo ?_;refine⟨_,Z,Z,_,Z,dG (by decide+kernel) ⟨_,Z,Z,_,Z,dG (by decide+kernel) ⟨_,Z,Z,_,Z,dG (by decide+kernel) ⟨_,Z,Z,_,Z,dG (by decide+kernel) ⟨_,Z,Z,_,Z,XV ⟨_,Z,tp,_,1,_,Z,Z,bc.of AY,bb (j:=1) Z,y2,Z,wR.same S5,Hg,λH6 s6=>⟨_,Z,?_⟩⟩⟩⟩⟩⟩⟩;have S6:=S5.trans s6
    cases h2:uR y2 with
    |false=>exact bo (by simpa[h1,h2] using q H6 S6)
    |true=>exact a9 ⟨_,Z,tp,_,2,_,Z,Z,bc.of (s6 _ _ AY),bb (j:=2) Z,y3,Z,Q9.same S6,by simpa[h1,h2] using q H6 S6⟩
  .-- tell
   obtain⟨y1,rfl⟩:∃y1,ys=[y1]:=Z4 hn;simp only[iP,lQ,mj,fj,i3,lq,id,kN] at q;obtain⟨Dw,Fq⟩:=hy y1 (by simp);refine⟨_,Z,Z,_,Z,dG (by decide+kernel) ⟨_,Z,Z,_,Z,dG (by decide+kernel) ⟨_,Z,Z,_,Z,dG (by decide+kernel) ⟨_,Z,tp,_,0,_,Z,Z,bc.of BP,gU _ _,y1,Z,Dw.same s4,Fq,λH5 s5=>⟨_,Z,?_⟩⟩⟩⟩⟩;have S5:=s4.trans s5;have AY:=s5 _ _ BP
   cases h1:uR y1 with
   |false=>exact a9 (show Q (.bl false) H5 by simpa[h1] using q H5 S5)
   |true=>
    refine bo ?_;exact⟨_,Z,Z,_,Z,dG (by decide+kernel) ⟨_,Z,Z,_,Z,dG (by decide+kernel) ⟨_,Z,Z,_,Z,dG (by decide+kernel) ⟨_,Z,Z,_,Z,dG (by decide+kernel) ⟨_,Z,Z,_,Z,dG (by decide+kernel) ⟨_,Z,Z,_,Z,XV (by simpa[h1] using q H5 S5)⟩⟩⟩⟩⟩⟩
  .-- same
   obtain⟨y1,y2,rfl⟩:∃y1 y2,ys=[y1,y2]:=Cn hn;simp only[iP,lQ,mj,fj,i3,lq,id,kN] at q;obtain⟨Dw,Fq⟩:=hy y1 (by simp);obtain⟨wR,Hg⟩:=hy y2 (by simp);refine⟨_,Z,Z,_,Z,dG (by decide+kernel) ⟨_,Z,Z,_,Z,dG (by decide+kernel) ⟨_,Z,Z,_,Z,dG (by decide+kernel) ⟨_,Z,tp,_,0,_,Z,Z,bc.of BP,gU _ _,y1,Z,Dw.same s4,Fq,λH5 s5=>⟨_,Z,?_⟩⟩⟩⟩⟩;have S5:=s4.trans s5;have AY:=s5 _ _ BP
   cases h1:uR y1 with
   |false=>exact a9 (show Q (.bl false) H5 by simpa[h1] using q H5 S5)
   |true=>
    refine bo ?_;exact⟨_,Z,Z,_,Z,dG (by decide+kernel) ⟨_,Z,Z,_,Z,dG (by decide+kernel) ⟨_,Z,Z,_,Z,dG (by decide+kernel) ⟨_,Z,Z,_,Z,dG (by decide+kernel) ⟨_,Z,Z,_,Z,dG (by decide+kernel) ⟨_,Z,Z,_,Z,dG (by decide+kernel) ⟨_,Z,tp,_,1,_,Z,Z,bc.of AY,bb (j:=1) Z,y2,Z,wR.same S5,Hg,λH6 s6=>by simpa[h1] using q H6 (S5.trans s6)⟩⟩⟩⟩⟩⟩⟩
  .-- frame
   obtain⟨y1,y2,rfl⟩:∃y1 y2,ys=[y1,y2]:=Cn hn;simp only[iP,lQ,mj,fj,i3,lq,id,zg,Bw] at q;obtain⟨Dw,Fq⟩:=hy y1 (by simp);obtain⟨wR,Hg⟩:=hy y2 (by simp);refine⟨_,Z,Z,_,Z,dG (by decide+kernel) ⟨_,Z,Z,_,Z,XV ⟨_,Z,tp,y1,[y2],Z,BP,λy V9 =>⟨(hy y V9).1.same s4,(hy y V9).2⟩,λH5 s5=> ?_⟩⟩⟩;rw[show Rk H4 [y1,y2]=(uR y1&& !LW y1&&uL H4 y2) from Z,iL wR s4];exact q H5 (s4.trans s5)
  .-- turns
   obtain⟨y1,y2,y3,y4,rfl⟩:∃y1 y2 y3 y4,ys=[y1,y2,y3,y4]:=Zx hn;simp only[iP,lQ,mj,fj,i3,lq,id,zg,Bw,Ko,FC] at q;obtain⟨Dw,Fq⟩:=hy y1 (by simp);obtain⟨wR,Hg⟩:=hy y2 (by simp);obtain⟨Q9,Yr⟩:=hy y3 (by simp);obtain⟨th4,sh4⟩:=hy y4 (by simp);refine⟨_,Z,Z,_,Z,dG (by decide+kernel) ⟨_,Z,Z,_,Z,dG (by decide+kernel) ⟨_,Z,Z,_,Z,XV ⟨_,Z,tp,y1,[y2,y3,y4],Z,BP,λy V9 =>⟨(hy y V9).1.same s4,(hy y V9).2⟩,λH5 s5=>⟨_,Z,?_⟩⟩⟩⟩⟩;have S5:=s4.trans s5;have AY:=s5 _ _ BP;rw[show Rk H4 [y1,y2,y3,y4]=(uR y1&& !LW y1&&uL H4 y4) from Z,iL th4 s4]
   cases h1:(uR y1&& !LW y1&&uL H y4) with
   |false=>exact bo (by have:=q H5 S5;revert h1 this;cases uR y1<;>cases LW y1<;>cases uL H y4<;>simp)
   |true=>
    refine a9 ⟨_,Z,tp,_,1,_,Z,Z,bc.of AY,bb (j:=1) Z,y2,1,3,Z,wR.same S5,_,Z,?_⟩
    cases h2:LO 1 3 y2 with
    |false=>exact bo (by simpa[h2] using q H5 S5)
    |true=>exact a9 ⟨_,Z,tp,_,2,_,Z,Z,bc.of AY,bb (j:=2) Z,y3,0,4,Z,Q9.same S5,by have:=q H5 S5;rw[h2] at this;revert h1 this;cases uR y1<;>cases LW y1<;>cases uL H y4<;>simp⟩
  .-- either
   obtain⟨y1,y2,rfl⟩:∃y1 y2,ys=[y1,y2]:=Cn hn;simp only[iP,lQ,mj,fj,i3,lq,id,zg] at q;obtain⟨Dw,Fq⟩:=hy y1 (by simp);obtain⟨wR,Hg⟩:=hy y2 (by simp);refine⟨_,Z,Z,_,Z,XV ⟨_,Z,tp,_,0,_,Z,Z,bc.of BP,gU _ _,y1,Z,Dw.same s4,λH5 s5=>⟨_,Z,?_⟩⟩⟩;have S5:=s4.trans s5;rw[iL Dw s4]
   cases h1:uL H y1 with
   |false=>exact bo (by simpa[h1] using q H5 S5)
   |true=>exact a9 ⟨_,Z,tp,_,1,_,Z,Z,bc.of (s5 _ _ BP),bb (j:=1) Z,y2,Z,wR.same S5,λH6 s6=>by rw[iL wR S5];simpa[h1] using q H6 (S5.trans s6)⟩
theorem Ja{H:Hp}:∀(ks:au) (xs:ak),(List.zipWith (cX H) ks xs).all id=true->∀b∈yn ks xs,uL H b=true
 |[],_,_,b,hb=>by simp[yn] at hb
 |_::_,[],_,b,hb=>by simp[yn] at hb
 |k::ks,x::xs,h,b,hb=>by
  rw[iP,fj,cI] at h;rw[yn] at hb
  split at hb
  .rename_i hk;rcases aP.mp hb with rfl|hb
   .have h1:cX H k b=true:=h.1;rw[hk,zg] at h1;exact h1
   .exact Ja ks xs h.2 b hb
  .exact Ja ks xs h.2 b hb
theorem Xb{H:Hp}{v:V}(h:cg H v=true):∀b∈fB H v,∃xs,nz H b=some xs:=λb hb=>by
 obtain⟨a,w,ks,xs,rfl,e,mem,hl,eb⟩:=oX h
 have hz:(List.zipWith (cX H) ks xs).all id=true:=by
  simp only[cg,e,Ip] at h
  split at h
  .rename_i LZ hf;rw[cI] at h;have:fB H (.ref a)=yn LZ xs:=by simp[fB,e,tbV,hf]
   have m2:(w,LZ)∈bg:=gD hf;have u:LZ =ks:=bD (a7.mp (a7.mp (show(bg.all λp=>bg.all λr=>decide (p.1=r.1->p.2=r.2))=true by decide+kernel) _ m2) _ mem) rfl;rw[<-u];exact h.2
  .cases h
 rw[eb] at hb;have:=Ja ks xs hz b hb
 cases b with
 |ref c=>
  simp only[uL] at this;simp only[nz]
  split at this
  .rename_i ys hc;exact⟨ys,by first|rfl|rw[hc]⟩
  .rename_i ys hc;exact⟨ys,by first|rfl|rw[hc]⟩
  .cases this
 |_=>cases this
def QB:Sp:=λvs H Q _=>∃H0 v,vs=[v]/\ah H0 H/\cg H0 v=true/\∀t H',H t=none->ah H H'->H' t=some (.tup (fB H0 v))->Q (.ref t) H'
theorem yT(T:Txt K mg A):aT P w K mg base dO 1 A.fR A.jL ["_law_deed"] QB:=by
 refine T.dP.F.ok pU (λvs H Q E h=> ?_) (λcB Ar outer s0 H vs Q E hr h=> ?_)
 .obtain⟨H0,v,rfl,_⟩:=h;rfl
 .obtain⟨H0,v,rfl,gW,hd,q⟩:=h;obtain⟨a,w',ks,xs,rfl,e,mem,hl,eb⟩:=oX hd;rw[eb] at q;have pe:=gW _ _ e
  have hu:(nD dO P w K mg base ["_law_deed"] "_law_bodies" (av jF) A.fR cB Ar outer s0 H E).KD.A.units+1<cLine:=by
   have:=hr.un;show(Ar.deeper _).units+1<cLine;omega
  refine⟨_,(aq (aH (vn hu (vZ (g8 ai (dH iu (pv 0) (bQ ae) bW) (g8 ai (dH iu (pv 0) (bQ ae) bW) (g8 ai (dH iu (pv 0) (bQ ae) bW) u_))) Z Z (by simp) (by decide)) (cS aN (pv 0) ae) (bt dY) ⟨Z,Z,Z,Z⟩))),?_⟩;refine λp hp=>⟨_,Z,2,Z,a,_,Z,bc.of (ah.upd hp _ _ pe),jz (k:=2) (by decide) _,λt1 uo=> ?_⟩;have s1:=(ah.upd (o:= .dK []) hp).trans (ah.upd (o:= .tup (cZ (.str w' ::xs) (some 2) none)) uo);have Kn:=ah.upd (o:= .tup (cZ (.str w' ::xs) (some 2) none)) uo p _ af;have e1:upd (upd H p (.dK [])) t1 (.tup (cZ (.str w' ::xs) (some 2) none)) t1=some (.tup (cZ (.str w' ::xs) (some 2) none)):=af;have f1:H t1=none:=(ah.upd (o:= .dK []) hp).free uo;generalize upd (upd H p (.dK [])) t1 (.tup (cZ (.str w' ::xs) (some 2) none))=H1 at s1 Kn e1 ⊢;refine⟨_,Z,4,Z,a,_,Z,bc.of (s1 _ _ pe),jz (k:=4) (by decide) _,λt2 wO=> ?_⟩;have s2:=s1.trans (ah.upd (o:= .tup (cZ (.str w' ::xs) (some 4) none)) wO);have CO:=ah.upd (o:= .tup (cZ (.str w' ::xs) (some 4) none)) wO _ _ Kn;have e2:=ah.upd (o:= .tup (cZ (.str w' ::xs) (some 4) none)) wO _ _ e1;have Pm :upd H1 t2 (.tup (cZ (.str w' ::xs) (some 4) none)) t2=some (.tup (cZ (.str w' ::xs) (some 4) none)):=af;have f2:H t2=none:=s1.free wO;generalize upd H1 t2 (.tup (cZ (.str w' ::xs) (some 4) none))=H2 at s2 CO e2 Pm ⊢;refine⟨_,Z,1,Z,a,_,Z,bc.of (s2 _ _ pe),jz (k:=1) (by decide) _,λt3 qC=> ?_⟩;have u3:=ah.upd (o:= .tup (cZ (.str w' ::xs) (some 1) none)) qC;have Ph :upd H2 t3 (.tup (cZ (.str w' ::xs) (some 1) none)) t3=some (.tup (cZ (.str w' ::xs) (some 1) none)):=af;have f3:H t3=none:=s2.free qC;generalize upd H2 t3 (.tup (cZ (.str w' ::xs) (some 1) none))=H3 at u3 Ph ⊢;have s3:=s2.trans u3;have BN:=u3 _ _ CO
  have Qc:o9 [] [((.inr "frame" :wS),V.ref t1),(.inr "turns",.ref t2),(.inr "either",.ref t3)]=[(.inr "frame",.ref t1),(.inr "turns",.ref t2),(.inr "either",.ref t3)]:=by with_unfolding_all rfl
  refine⟨BN,[(.inr "frame",.ref t1),(.inr "turns",.ref t2),(.inr "either",.ref t3)],Z,(show 3<=15 by decide),p,Z,.inl ⟨_,.inl af⟩,?_⟩;rw[Qc];have s4:ah H (upd H3 p (.dK [(.inr "frame",.ref t1),(.inr "turns",.ref t2),(.inr "either",.ref t3)])):=fh hp s3
  have k4:KT H3 (upd H3 p (.dK [(.inr "frame",.ref t1),(.inr "turns",.ref t2),(.inr "either",.ref t3)])):=λc ys e=>by
   rw[az (dB e BN (λz=>nomatch z))];exact e
  have e4:upd H3 p (.dK [(.inr "frame",.ref t1),(.inr "turns",.ref t2),(.inr "either",.ref t3)]) p=some (.dK [(.inr "frame",.ref t1),(.inr "turns",.ref t2),(.inr "either",.ref t3)]):=af;generalize upd H3 p (.dK [(.inr "frame",.ref t1),(.inr "turns",.ref t2),(.inr "either",.ref t3)])=H4 at s4 k4 e4 ⊢;refine⟨_,Z,a,_,0,_,Z,Z,bc.of (s4 _ _ pe),gU _ _,nq,λt4 Ke=> ?_⟩;have u5:=ah.upd (o:= .tup []) Ke;refine⟨_,FU.k (k:= .inr w') (u5 _ _ e4),?_⟩;have s5:=s4.trans u5
  have bp:(w'≠ "frame" /\w'≠ "turns" /\w'≠ "either")->yn ks xs=[]->Q ((eV [((.inr "frame" :wS),V.ref t1),(.inr "turns",.ref t2),(.inr "either",.ref t3)] (.inr w')).getD (.ref t4)) (upd H4 t4 (.tup [])):=λhn hb=>by
   rw[uW (l:=[((.inr "frame" :wS),V.ref t1),(.inr "turns",.ref t2),(.inr "either",.ref t3)]) λx hx=>by
    simp only[aP,cO,cR] at hx;rcases hx with rfl|rfl|rfl
    .exact λz=>hn.1 (uV z).symm
    .exact λz=>hn.2.1 (uV z).symm
    .exact λz=>hn.2.2 (uV z).symm]
   exact q t4 _ (s4.free Ke) s5 (by rw[hb];exact af)
  simp only[bg,aP,cO,cR,zt] at mem;rcases mem with⟨rfl,rfl⟩|⟨rfl,rfl⟩|⟨rfl,rfl⟩|⟨rfl,rfl⟩|⟨rfl,rfl⟩|⟨rfl,rfl⟩|⟨rfl,rfl⟩|⟨rfl,rfl⟩|⟨rfl,rfl⟩|⟨rfl,rfl⟩|⟨rfl,rfl⟩
  .obtain⟨y1,y2,y3,rfl⟩:=FH hl.symm;exact bp (by decide+kernel) rfl
  .obtain⟨y1,y2,y3,rfl⟩:=FH hl.symm;exact bp (by decide+kernel) rfl
  .obtain⟨y1,y2,y3,rfl⟩:=FH hl.symm;exact bp (by decide+kernel) rfl
  .obtain⟨y1,y2,rfl⟩:=Cn hl.symm;exact bp (by decide+kernel) rfl
  .obtain⟨y1,y2,rfl⟩:=Cn hl.symm;exact bp (by decide+kernel) rfl
  .obtain⟨y1,y2,y3,rfl⟩:=FH hl.symm;exact bp (by decide+kernel) rfl
  .obtain⟨y1,rfl⟩:=Z4 hl.symm;exact bp (by decide+kernel) rfl
  .obtain⟨y1,y2,rfl⟩:=Cn hl.symm;exact bp (by decide+kernel) rfl
  .obtain⟨y1,y2,rfl⟩:=Cn hl.symm;rw[show eV [((.inr "frame" :wS),V.ref t1),(.inr "turns",.ref t2),(.inr "either",.ref t3)] (.inr "frame")=some (.ref t1) by with_unfolding_all rfl];refine q t1 _ f1 s5 ((u5 _ _ (k4 _ _ (u3 _ _ e2))).trans ?_);rw[show cZ (V.str "frame" ::[y1,y2]) (some 2) none=[y2] from lG _ 2];rfl
  .obtain⟨y1,y2,y3,y4,rfl⟩:=Zx hl.symm;rw[show eV [((.inr "frame" :wS),V.ref t1),(.inr "turns",.ref t2),(.inr "either",.ref t3)] (.inr "turns")=some (.ref t2) by with_unfolding_all rfl];refine q t2 _ f2 s5 ((u5 _ _ (k4 _ _ (u3 _ _ Pm))).trans ?_);rw[show cZ (V.str "turns" ::[y1,y2,y3,y4]) (some 4) none=[y4] from lG _ 4];rfl
  .obtain⟨y1,y2,rfl⟩:=Cn hl.symm;rw[show eV [((.inr "frame" :wS),V.ref t1),(.inr "turns",.ref t2),(.inr "either",.ref t3)] (.inr "either")=some (.ref t3) by with_unfolding_all rfl];refine q t3 _ f3 s5 ((u5 _ _ (k4 _ _ Ph)).trans ?_);rw[show cZ (V.str "either" ::[y1,y2]) (some 1) none=[y1,y2] from lG _ 1];rfl
def Wh(n:Nat):Sp:=λvs H Q _=>∃H0 v xs,vs=[v]/\ah H0 H/\Dp H0 n v/\nz H0 v=some xs/\∀l H',H l=none->ah H H'->H' l=some (.lst (ke H0 n v).toList)->Q (.ref l) H'
theorem vY(T:Txt K mg A)(n:Nat):aT P w K mg base dO (n+4) A.jv A.nL ["_law_body_here"] (Wh n):=by
 induction n with
 |zero=>exact fu (by rintro vs H Q E ⟨H0,v,xs,_,_,h,_⟩;exact h)
 |succ n ih=>
 show aT P w K mg base dO ((n+4)+1) _ _ _ _;refine T.jr.F.ok fY (λvs H Q E h=> ?_) (λcB Ar outer s0 H vs Q E hr h=> ?_)
 .obtain⟨H0,v,xs,rfl,_⟩:=h;rfl
 .obtain⟨H0,v,xs,rfl,gW,⟨th,sh,dp⟩,ev,q⟩:=h
  have Hk:(Ar.deeper (envOfC "_law_first_bad" (av jk) s0.heap.objs.size A.jv cB)).units<cLine:=by
   have:=hr.un
   lia
  refine⟨_,(aj (A5 (pq (pv 0)) (jE 1 fY.nd) (aj (bU (iw (gv (cG (yJ T) hr T.pZ aC (aM (pv 1)) (hj:=by lia)))) (aq (aH (bH (aM (pv 1))))) bf) (aq (A5 (Bm (cG (yT T) hr T.dP aC (aM (pv 1)) (hj:=by lia))) (jE 2 fY.nd) (aj (gf 3 fY.nd (cG ih hr T.jr aC (aM (pv 2)) (hj:=by lia))) (aq (bU (wn (xt Hk) (pv 3) (bH dY)) (aq (aH (pv 3))) bf))))))) (aq (aH (bH dY)))),?_⟩;obtain⟨xl,hx⟩:=dp xs ev
  obtain⟨a,t,rfl,ha⟩:∃a t,v= .ref a/\H0 a=some (EF t xs):=by
   cases th with
   | @lst a ys e=>simp only[nz,e,nk] at ev;subst ev;exact⟨a,false,Z,e⟩
   | @tup a ys e=>simp only[nz,e,nk] at ev;subst ev;exact⟨a,true,Z,e⟩
   |dK e=>simp[nz,e] at ev
   |_=>cases ev
  have q:∀l H',H l=none->ah H H'->H' l=some (.lst (xs.findSome? (λx=>if cg H0 x=true then(fB H0 x).findSome? (ke H0 n) else some x)).toList)->Q (.ref l) H' :=by
   unfold ke at q;rw[ev] at q;exact q
  refine⟨_,Z,a,t,Z,LY (gW _ _ ha),?_⟩
  have bad:∀(i:Nat) (x:V) (b:V),xs[i]? =some x->(xs.take i).findSome? (λx=>if cg H0 x=true then(fB H0 x).findSome? (ke H0 n) else some x)=none->(if cg H0 x=true then(fB H0 x).findSome? (ke H0 n) else some x)=some b->∀l H',H l=none->ah H H'->H' l=some (.lst [b])->Q (.ref l) H' :=λi x b hi h0 hb l H' h1 h2 h3=>by
   refine q l H' h1 h2 ?_;rw[<-jC i xs,mZ,h0,ix,zj (c8.mp hi).1,(c8.mp hi).2,nC,hb];exact h3
  refine ng (K:=K) (t:=t) (a:=a) (xs:=xs) (λi σ H' =>∃x2 x3 x4:Option V,σ=[some (.ref a),x2,x3,x4]/\ah H H'/\(xs.take i).findSome? (λx=>if cg H0 x=true then(fB H0 x).findSome? (ke H0 n) else some x)=none) ⟨_,_,_,Z,ah.refl H,Z⟩ (by rintro i σ H' _ ⟨_,_,_,_,sm,_⟩;exact sm _ _ (gW _ _ ha)) ?_ ?_
  .rintro i x σ H' hi ⟨x2,x3,x4,rfl,sm,h0⟩
   obtain⟨tg,db⟩:=hx x (bE hi);have S0:=gW.trans sm;refine⟨_,Z,x,Z,tg.same S0,λH2 s2=>⟨_,Z,?_⟩⟩;rw[uy tg S0]
   cases hd:cg H0 x with
   |false=>
    exact a9 ⟨_,Z,yZ,λl hl=>bad i x x hi h0 (by rw[hd];rfl) l _ ((sm.trans s2).free hl) ((sm.trans s2).trans (ah.upd hl)) af⟩
   |true=>
    refine bo ⟨_,Z,H0,x,Z,S0.trans s2,hd,λl H3 MS s3 hz=>⟨l,Z,⟨_,bc.of hz⟩,?_⟩⟩;have Lu:=(sm.trans s2).trans s3
    have Wr:∀(j:Nat) (y b:V),(fB H0 x)[j]? =some y->((fB H0 x).take j).findSome? (ke H0 n)=none->ke H0 n y=some b->∀l H',H l=none->ah H H'->H' l=some (.lst [b])->Q (.ref l) H' :=λj y b hj h1 hb=>bad i x b hi h0 (by
     rw[aB hd,<-jC j (fB H0 x),mZ,h1,ix,zj (c8.mp hj).1,(c8.mp hj).2,nC,hb])
    refine Eh (K:=K) (a:=l) (xs:=fB H0 x) (λj σ H4=>∃x3 x4:Option V,σ=[some (.ref a),some x,x3,x4]/\ah H3 H4/\((fB H0 x).take j).findSome? (ke H0 n)=none) ⟨x3,x4,Z,ah.refl H3,Z⟩ (by rintro i σ H' _ ⟨_,_,_,sm,_⟩;exact bc.of (sm _ _ hz)) ?_ ?_
    .rintro j y σ H4 hj ⟨x3,x4,rfl,s4,h1⟩
     have hm:=bE hj;obtain⟨zs,ez⟩:=Xb hd y hm;refine⟨_,Z,H0,y,zs,Z,(gW.trans Lu).trans s4,db y hm,ez,λl5 H5 hl5 s5 e5=> ?_⟩;have S5:=(Lu.trans s4).trans s5;refine⟨_,Z,nq,λe6 Tx=>⟨l5,e6,_,Z,Z,ah.upd Tx _ _ e5,af,_,Z,?_⟩⟩
     cases hb:ke H0 n y with
     |some b=>
      rw[hb] at e5;exact a9 ⟨_,Z,Wr j y b hj h1 hb l5 _ ((Lu.trans s4).free hl5) (S5.trans (ah.upd Tx)) (ah.upd Tx _ _ e5)⟩
     |none=>exact bo ⟨some y,some (.ref l5),Z,(s4.trans s5).trans (ah.upd Tx),by rw[wP hj,mZ,h1,ix,nC,hb];rfl⟩
    .rintro σ H4 ⟨x3,x4,rfl,s4,h1⟩
     rw[gg] at h1;exact⟨some x,x3,x4,Z,Lu.trans s4,by rw[wP hi,mZ,h0,ix,nC,aB hd,h1];rfl⟩
  .rintro σ H' ⟨x2,x3,x4,rfl,sm,h0⟩
   rw[gg] at h0;rw[h0] at q;exact⟨nq,λl hl=>q l _ (sm.free hl) (sm.trans (ah.upd hl)) af⟩
theorem Xi{H:Hp}{k:Str}{v:V}(hk:k∈oO)(nb:k≠ "body")(h:cX H k v=true)(sh:Sh v):∃d,Dat H v d/\zD k d:=by
 have nm:uR v=true->∃x,v= .str x/\cv x=true:=λh=>by cases v<;>first|exact⟨_,rfl,h⟩|cases h
 have nu:Ap v=true->∃i,v= .int i/\i.natAbs<10 ^ 40:=λh=>by cases v<;>first|exact⟨_,rfl,sh⟩|cases h
 have wh:∀lo hi,LO lo hi v=true->∃i,v= .int i/\lo<=i/\i<=hi:=λlo hi h=>by
  cases v with
  |int i=>
   have h:(decide (lo<=i)&&decide (i<=hi))=true:=h;rw[cI,ie,ie] at h;exact⟨i,Z,h⟩
  |_=>cases h
 unfold oO at hk;simp only[aP,cO,cR] at hk;rcases hk with rfl|rfl|rfl|rfl|rfl|rfl|rfl|rfl|rfl|rfl
 .rw[kN] at h;obtain⟨x,rfl,hx⟩:=nm h;exact⟨_,.str x,.name x hx⟩
 .rw[Bw,cI] at h;obtain⟨x,rfl,hx⟩:=nm h.1;refine⟨_,.str x,.label x hx λz=> ?_⟩;have:=h.2;rw[z] at this;exact absurd this (by decide+kernel)
 .rw[Kt,DS] at h;rcases h with h|h
  .rw[bD h];exact⟨_,.bp,.Fy⟩
  .obtain⟨x,rfl,hx⟩:=nm h;exact⟨_,.str x,.mark x hx⟩
 .rw[GA,DS] at h;rcases h with h|h
  .rw[bD h];exact⟨_,.bp,.Fe⟩
  .obtain⟨i,rfl,hi⟩:=nu h;exact⟨_,.int i,.value i hi⟩
 .rw[CM] at h;obtain⟨i,rfl,hi⟩:=nu h;exact⟨_,.int i,.number i hi⟩
 .exact absurd Z nb
 .rw[Kc] at h;obtain⟨i,rfl,h1,h2⟩:=wh _ _ h;exact⟨_,.int i,.num "size" 1 6 i (by decide+kernel) h1 h2⟩
 .rw[DU] at h;obtain⟨i,rfl,h1,h2⟩:=wh _ _ h;exact⟨_,.int i,.num "cell" 0 5 i (by decide+kernel) h1 h2⟩
 .rw[Ko] at h;obtain⟨i,rfl,h1,h2⟩:=wh _ _ h;exact⟨_,.int i,.num "many" 1 3 i (by decide+kernel) h1 h2⟩
 .rw[FC] at h;obtain⟨i,rfl,h1,h2⟩:=wh _ _ h;exact⟨_,.int i,.num "times" 0 4 i (by decide+kernel) h1 h2⟩
theorem uN{H:Hp}(R:V->Bool->Ds->Prop)(hR:∀b t s,R b t s->Dat H b (iN t (sL s))/\mD s):∀(ks:au) (m:Nat) (xs:ak),(∀k∈ks,k∈oO/\k≠ "body")->(ks++List.replicate m ("body" :Str)).length=xs.length->(List.zipWith (cX H) (ks++List.replicate m ("body" :Str)) xs).all id=true->(∀x∈xs,Sh x)->
 (∀b∈yn (ks++List.replicate m ("body" :Str)) xs,∃t s,R b t s)->∃ps,∃bs:Bs,DatAll H xs (ps++bL bs)/\ig ks ps/\pG bs/\bs.l.length=m/\∀p∈bs.l,∃b∈yn (ks++List.replicate m ("body" :Str)) xs,R b p.1 p.2
 |[],0,[],_,_,_,_,_=>⟨[],.nil,by rw[bL];exact .nil,.nil,by rw[pG];exact True.intro,rfl,λp hp=>nomatch hp⟩
 |[],0,_::_,_,h,_,_,_=>by cases h
 |[],m+1,[],_,h,_,_,_=>by cases h
 |[],m+1,x::xs,hk,hl,hz,hs,hb=>by
  have eb:yn ([]++List.replicate (m+1) ("body" :Str)) (x::xs)=x::yn ([]++List.replicate m ("body" :Str)) xs:=by
   show yn ("body" ::List.replicate m ("body" :Str)) (x::xs)=_;rw[yn,aB Z];rfl
  have hz:(cX H "body" x&&(List.zipWith (cX H) ([]++List.replicate m ("body" :Str)) xs).all id)=true:=hz;rw[cI] at hz;rw[eb] at hb;obtain⟨t,s,r⟩:=hb x c5;obtain⟨ps,bs,h1,h2,h3,h4,h5⟩:=uN R hR [] m xs hk (oG hl) hz.2 (λy hy=>hs y (cw _ hy)) λb wL =>hb b (cw _ wL);cases h2;obtain⟨r1,r2⟩:=hR x t s r;refine⟨[],.cons t s bs,by rw[bL];exact .cons r1 h1,.nil,by rw[pG];exact⟨r2,h3⟩,by show bs.l.length+1=_;rw[h4],λp hp=> ?_⟩;rw[eb];rcases aP.mp (show p∈(t,s)::bs.l from hp) with rfl|hp
  .exact⟨x,c5,r⟩
  .obtain⟨b,hb1,uP⟩:=h5 p hp;exact⟨b,cw _ hb1,uP⟩
 |k::ks,m,[],_,h,_,_,_=>by cases h
 |k::ks,m,x::xs,hk,hl,hz,hs,hb=>by
  obtain⟨k1,k2⟩:=hk k c5
  have eb:yn (k::ks++List.replicate m ("body" :Str)) (x::xs)=yn (ks++List.replicate m ("body" :Str)) xs:=by
   show yn (k::(ks++_)) (x::xs)=_;rw[yn,ax k2]
  have hz:(cX H k x&&(List.zipWith (cX H) (ks++List.replicate m ("body" :Str)) xs).all id)=true:=hz;rw[cI] at hz;rw[eb] at hb;obtain⟨ps,bs,h1,h2,h3,h4,h5⟩:=uN R hR ks m xs (λy hy=>hk y (cw _ hy)) (oG hl) hz.2 (λy hy=>hs y (cw _ hy)) hb;obtain⟨d,d1,d2⟩:=Xi k1 k2 hz.1 (hs x c5);exact⟨d::ps,bs,.cons d1 h1,.cons d2 h2,h3,h4,by rw[eb];exact h5⟩
theorem HW{w:Str}{ks:au}(h:(w,ks)∈bg):∃LZ m,ks=LZ ++List.replicate m ("body" :Str)/\∀k∈LZ,k∈oO/\k≠ "body":=by
 have h1:=bD (a7.mp (show(bg.all λp=>decide (p.2=(p.2.filter λk=>decide (k≠("body" :Str)))++List.replicate (p.2.length - (p.2.filter λk=>decide (k≠("body" :Str))).length) ("body" :Str)))=true by decide+kernel) _ h);have h2:=a7.mp (show(bg.all λp=>p.2.all λk=>decide (k∈oO))=true by decide+kernel) _ h;refine⟨_,_,h1,λk hk=> ?_⟩;obtain⟨m1,m2⟩:=r_.mp hk;exact⟨bD (a7.mp h2 k m1),bD m2⟩
theorem NB{n:Nat}:∀bs:Bs,(∀p∈bs.l,eO p.2<n)->nF bs<=n
 | .nil,_=>by rw[nF];exact cH _
 | .cons t b r,h=>by
  rw[nF];have h1:eO b<n:=h (t,b) c5;have h2:=NB r λp hp=>h p (cw _ hp)
  lia
theorem Oq{H:Hp}{a:S'}{w:Str}{ks:au}{xs:ak}(h:cg H (.ref a)=true)(e:H a=some (.tup (.str w::xs)))(mem:(w,ks)∈bg):(List.zipWith (cX H) ks xs).all id=true:=by
 simp only[cg,e,Ip] at h
 split at h
 .rename_i LZ hf;rw[cI] at h;have m2:(w,LZ)∈bg:=gD hf;have u:LZ =ks:=bD (a7.mp (a7.mp (show(bg.all λp=>bg.all λr=>decide (p.1=r.1->p.2=r.2))=true by decide+kernel) _ m2) _ mem) rfl;rw[<-u];exact h.2
 .cases h
def Gd(H:Hp)(n:Nat)(b:V)(t:Bool)(s:Ds):Prop:=Dat H b (iN t (sL s))/\mD s/\eO s<n
theorem LM{H:Hp}{n:Nat}(ih:∀b,Dp H n b->ke H n b=none->∃t s,Gd H n b t s){x:V}(tg:Tg H x)(hd:cg H x=true)(db:∀b∈fB H x,Dp H n b)(hb:(fB H x).findSome? (ke H n)=none):∃d:Dd,Dat H x (dD d)/\l8 d/\mF d<=n:=by
 obtain⟨a,w,ks,xs,rfl,e,mem,hl,eb⟩:=oX hd;have hz:=Oq hd e mem;obtain⟨LZ,m,rfl,hk⟩:=HW mem;obtain⟨_,hx⟩:=tg.at_ a _ Z e;rw[eb] at db hb;obtain⟨ps,bs,h1,h2,h3,h4,h5⟩:=uN (Gd H n) (λb t s r=>⟨r.1,r.2.1⟩) LZ m xs hk hl hz (λy hy=>(hx y (cw _ hy)).2) λb wL =>ih b (db b wL) (List.findSome?_eq_none_iff.mp hb b wL);refine⟨.mk w ps bs,?_,?_,?_⟩
 .rw[dD];exact .tup e (.cons (.str w) h1)
 .rw[l8];exact⟨⟨LZ,by rw[h4];exact mem,h2⟩,h3⟩
 .rw[mF];refine NB bs λp hp=> ?_;obtain⟨b,_,r⟩:=h5 p hp;exact r.2.2
theorem CF{H:Hp}{n:Nat}:∀xs:ak,(∀x∈xs,∃d:Dd,Dat H x (dD d)/\l8 d/\mF d<=n)->∃ds:List Dd,DatAll H xs (ds.map dD)/\∀d∈ds,l8 d/\mF d<=n
 |[],_=>⟨[],.nil,λd hd=>nomatch hd⟩
 |x::xs,h=>by
  obtain⟨d,d1,d2⟩:=h x c5;obtain⟨ds,h1,h2⟩:=CF xs λy hy=>h y (cw _ hy);refine⟨d::ds,.cons d1 h1,λe he=> ?_⟩;rcases aP.mp he with rfl|he
  .exact d2
  .exact h2 e he
theorem CJ{H:Hp}:∀(n:Nat) (v:V),Dp H n v->ke H n v=none->∃t s,Gd H n v t s
 |0,_,h,_=>h.elim
 |n+1,v,⟨th,sh,dp⟩,hb=>by
  unfold ke at hb
  cases ev:nz H v with
  |none=>rw[ev] at hb;cases hb
  |some xs=>
   rw[ev] at hb;have hb:xs.findSome? (λx=>if cg H x=true then(fB H x).findSome? (ke H n) else some x)=none:=hb;obtain⟨_,hx⟩:=dp xs ev
   obtain⟨a,t,rfl,ha⟩:∃a t,v= .ref a/\H a=some (EF t xs):=by
    cases th with
    | @lst a ys e=>simp only[nz,e,nk] at ev;subst ev;exact⟨a,false,Z,e⟩
    | @tup a ys e=>simp only[nz,e,nk] at ev;subst ev;exact⟨a,true,Z,e⟩
    |dK e=>simp[nz,e] at ev
    |_=>cases ev
   obtain⟨ds,h1,h2⟩:=CF (n:=n) xs λx hm=>by
    have:=List.findSome?_eq_none_iff.mp hb x hm;obtain⟨tg,db⟩:=hx x hm
    cases hd:cg H x with
    |false=>rw[hd] at this;cases this
    |true=>
     rw[hd,aB Z] at this;exact LM (λb h1 h2=>CJ n b h1 h2) tg hd db this
   refine⟨t,Ds.of ds,?_,jag λd hd=>(h2 d hd).1,Nat.lt_succ_of_le (CN λd hd=>(h2 d hd).2)⟩;rw[Wd]
   cases t with
   |false=>exact .lst ha h1
   |true=>exact .tup ha h1
def ML(H:Hp)(v:V):Option Rf->Prop
 |none=>v= .bp
 |some r=>∃t,v= .ref t/\H t=some (.tup [.str r.tag,r.v])
def Mp:Sp:=λvs H Q _=>∃v,vs=[v]/\Dp H 40 v/\(∀b,ke H 40 v=some b->∀LX H',ah H H'->ML H' LX (some (.sC b))->Q LX H')/\
 (ke H 40 v=none->∃t s,Dat H v (iN t (sL s))/\mD s/\eO s<40/\d_ s<=1000/\∀LX H',ah H H'->ML H' LX (gL s)->Q LX H')
theorem FG(T:Txt K mg A):aT P w K mg base dO 45 A.ug A.Bq ["_law_body_here"] Mp:=by
 refine T.Al.F.ok yI (λvs H Q E h=> ?_) (λcB Ar outer s0 H vs Q E hr h=> ?_)
 .obtain⟨v,rfl,_⟩:=h;rfl
 .obtain⟨v,rfl,Wi,qb,qg⟩:=h
  have Hk:(Ar.deeper (envOfC "_law_due" (av uG) s0.heap.objs.size A.ug cB)).units<cLine:=by
   have:=hr.un
   lia
  refine⟨_,(aj (bU (iw (gv (cG (ia T) hr T.gh aC (aM (pv 0))))) (aq (aH (bt (ag ai (aM (pv 0)))))) bf) (aj (gf 1 yI.nd (cG (vY T 40) hr T.jr aC (aM (pv 0)))) (aq (aH (qV (wn (xt Hk) (pv 1) (bH dY)) (bt (ag ai (aM (cS a8 (pv 1) ae)))) (cG (yM T) hr T.rB aC (aM (pv 0)))))))),?_⟩;obtain⟨th,sh,dp⟩:=id (show Dp H (39+1) v from Wi);refine⟨_,Z,v,Z,th,λH1 s1=>⟨_,Z,?_⟩⟩
  have eS:uL H v=(nz H v).isSome:=by
   cases th with
   |lst e=>simp[uL,nz,e]
   |tup e=>simp[uL,nz,e]
   |dK e=>simp[uL,nz,e]
   |_=>rfl
  rw[eS]
  cases ev:nz H v with
  |none=>
   have hb:ke H 40 v=some v:=by
    show ke H (39+1) v=_;unfold ke;rw[ev]
   exact a9 ⟨_,Z,hV,λt ht=>qb v hb _ _ (s1.trans (ah.upd ht)) ⟨t,Z,af⟩⟩
  |some xs=>
   refine bo ⟨_,Z,H,v,xs,Z,s1,Wi,ev,λl H2 hl s2 e2=> ?_⟩;have xu:=s1.trans s2;refine⟨_,Z,nq,λe3 he3=> ?_⟩;have u3:=ah.upd (o:= .lst []) he3;refine⟨l,e3,_,Z,Z,u3 _ _ e2,af,_,Z,?_⟩
   cases hb:ke H 40 v with
   |some b=>
    rw[hb] at e2;exact a9 ⟨_,Z,l,_,0,_,Z,Z,cF.of (u3 _ _ e2),gU _ _,hV,λt ht=>qb b hb _ _ ((xu.trans u3).trans (ah.upd ht)) ⟨t,Z,af⟩⟩
   |none=>
    obtain⟨t,s,hd,ok,dps,hm,q⟩:=qg hb;have S:=xu.trans u3;refine bo ⟨_,Z,v,t,s,Z,hd.same S,ok,dps,hm,?_⟩
    cases er:gL s with
    |none=>
     rw[er] at q;exact λH' s' =>q _ H' (S.trans s') rfl
    |some r=>
     rw[er] at q;exact λt' H' _ s' e' =>q _ H' (S.trans s') ⟨t',Z,e'⟩
theorem LF{P:Z'}{w:W'}{K:Frag}{mg:Str->aO}{base:Y'}{N:au}{qual:Str}{scope:Scope}{f:S'}{cd:M'}{cl:List (Str×S')}{A:X'}{outer:List Env}{s:R'}{H:Hp}{E:XK}:CL (J8 (Dc P w) P w K mg base N qual scope f cd cl A outer s H E) E:=by
 intro ad σ H1 s1 a C dd n I ea fl q;exact DE I Z Z Z ea fl q
noncomputable def lpP:Pos:=⟨445,30,445,61⟩
noncomputable def qP:Str:="_law_right" ++ ".<locals>." ++ "<lambda>"
def E4(A:nS)(s:Ds)(H:Hp)(Q:S'->Hp->Prop)(E:Rf->S'->Hp->Prop):Prop:=match gL s with
 |none=>∀p tb ls H',H p=none->H tb=none->H ls=none->Kept A.ay H H'->Tab H' A.ay L0 qI->Hm A.aZ H' p tb ls s->Q p H'
 |some r=>∀dx H2,Kept A.ay H H2->Tab H2 A.ay L0 qI->H2 dx=some (.xd [(r.fd,r.v)])->E r dx H2
def Uz(A:nS)(v:V)(H:Hp)(Q:S'->Hp->Prop)(E:Rf->S'->Hp->Prop):Prop:=(∃b,ke H 40 v=some b/\∀dx H2,ah H H2->H2 dx=some (.xd [("found",b)])->E (.sC b) dx H2)\/
 (ke H 40 v=none/\∃t s,Dat H v (iN t (sL s))/\mD s/\eO s<40/\d_ s<=1000/\E4 A s H Q E)
def EU(A:nS)(c:S')(qn:Str)(v:V):Sp:=λvs H Q E=>∃H0,vs=[]/\H c=some (.ext (i4 c qn))/\ah H0 H/\Dp H 40 v/\Tab H A.ay L0 qI/\Uz A v H (λp H' =>Q (.ref p) H') (λr dx H2=>E (.ref (r.cls A)) (some dx) H2)
theorem Dp.same{H H' :Hp}(s:ah H H'):∀(n:Nat) (v:V),Dp H n v->Dp H' n v/\ke H' n v=ke H n v
 |0,_,h=>h.elim
 |n+1,v,⟨th,sh,dp⟩=>by
  have es:nz H' v=nz H v:=by
   cases th with
   |lst e=>simp[nz,e,s _ _ e]
   |tup e=>simp[nz,e,s _ _ e]
   |dK e=>simp[nz,e,s _ _ e]
   |_=>rfl
  have eb:∀x,Tg H x->fB H' x=fB H x:=λx tg=>by
   have th:=tg.th
   cases th with
   |lst e=>simp[fB,e,s _ _ e]
   |tup e=>simp[fB,e,s _ _ e]
   |dK e=>simp[fB,e,s _ _ e]
   |_=>rfl
  refine⟨⟨th.same s,sh,λxs e=> ?_⟩,?_⟩
  .rw[es] at e;obtain⟨h1,h2⟩:=dp xs e;refine⟨h1,λx hx=>⟨(h2 x hx).1.same s,λb hb=> ?_⟩⟩;rw[eb x (h2 x hx).1] at hb;exact(Dp.same s n b ((h2 x hx).2 b hb)).1
  .show ke H' (n+1) v=ke H (n+1) v;unfold ke;rw[es]
   cases ev:nz H v with
   |none=>rfl
   |some xs=>
    obtain⟨_,h2⟩:=dp xs ev
    have find:∀{f g:V->Option V} (l:ak),(∀x∈l,f x=g x)->l.findSome? f=l.findSome? g:=λ{f g} l=>by
     induction l with
     |nil=>intro _;rfl
     |cons x r ih=>intro h;rw[nC,nC,h x c5,ih λy hy=>h y (cw _ hy)]
    refine find xs λx hx=> ?_;rw[uy (h2 x hx).1 s,eb x (h2 x hx).1]
    split
    .exact find _ λb hb=>(Dp.same s n b ((h2 x hx).2 b hb)).2
    .rfl
theorem Ro(T:Txt K mg A)(Fm:wV P w K A fm)(Fo:∀x:Str,bg.lookup x=none->eV fm.kF (.inr x)=none){f c' :S'}{name qual:Str}{params:Arguments}{scope:Scope}{pm ct oc:M'}{od:Option S'}{xC:Array (aO)}{p1 p2 p3:Pos}{cl:List (Str×S')}{v:V}
 (lk:base.get? f=some ⟨oc,od,.func (kla_fn name qual params (.Call (.Name "Program" p1) [.Name "_law_body_here" p2] [] p3) scope cl pm (.ref c') ct),xC⟩) (S:rP [] ["_law_body_here"] scope) (C:Au base cl ["_law_body_here"] [v]) (hg:scope.names.lookup ("Program" :Str)=some NameKind.globalImplicit):aT P w K mg base (Dc P w) 52 f (kla_fn name qual params (.Call (.Name "Program" p1) [.Name "_law_body_here" p2] [] p3) scope cl pm (.ref c') ct) [] (EU A c' qual v):=by
 have F:aT P w K mg base (Dc P w) 50 A.c9 A.c7 ["self","deeds"] (JL A qI):=aT.NJ (by rintro vs H Q E ⟨p,dx,v,e,_⟩;rw[e];rfl) λxp=>sy T Fm Fo xp;refine Of lk S C (by rintro vs H Q E ⟨_,e,_⟩;rw[e];rfl) (by rintro vs H Q E h ⟨_,e,hc,_⟩ ok _;exact i4.rec ok hc) ?_
 rintro Ar outer s0 H vs Q E hr ⟨H0,e,hc,gW,Wi,tab,q⟩
 subst e;refine⟨_,P0 T.LV F hr ?_ T.KY T.lL.b .nil (jx LF trivial) (aM (pv 0 (hv:= .inr (.inr (S.fre "_law_body_here" (by simp)))))),?_⟩
 .exact hg
 .refine⟨_,Z,λx dx hx JZ wQ=> ?_⟩;have s1:=ah.upd (o:= .own x) JZ;have hx1:upd H dx (.own x) x=none:=by rw[az wQ.symm];exact hx
  have s2:=s1.trans (ah.upd (o:= .ins A.aZ dx []) hx1);obtain⟨d1,d2⟩:=Dp.same s2 40 v Wi;refine⟨x,dx,v,Z,af,d1,tab.same s2,?_⟩;rw[d2];rcases q with⟨b,hb,r⟩|⟨hb,t,s,hd,ok,dp,hm,q⟩
  .exact .inl ⟨b,hb,λNU H2 s' e=>r NU H2 (s2.trans s') e⟩
  .refine .inr ⟨hb,t,s,hd.same s2,ok,dp,hm,?_⟩;have kk:∀{H'},hU x A.ay (upd (upd H dx (.own x)) x (.ins A.aZ dx [])) H'->Kept A.ay H H' :=λk b o hb e=>k b o (aA e hx) hb (s2 _ _ e);unfold E4 at q
   cases er:gL s with
   |none=>
    rw[er] at q;exact λtb ls H' h1 h2 k tb' pr=>⟨Z,q x tb ls H' hx (s2.free h1) (s2.free h2) (kk k) tb' pr⟩
   |some r=>
    rw[er] at q;exact λNU H2 k tb' e=>q NU H2 (kk k) tb' e
theorem Tab.Zl{P:S'}{lp:Pos}{q:Str}{sp:S'->S'->ak->Sp}{E:XK}{H:Hp}{Q:VK}{σ:L2.St}{j:Nat}{v:V}(T:Tab H P lp q)(hj:σ[j]? =some (some v))
 (h:∀f c' H1,H f=none->H1 f=none->Kept P H H1->Tab H1 P lp q->H1 c' =some (.ext (i4 c' q))->sp f c' [v] [.ref f] H1 Q E):Ge P lp q sp E [j] [] sH σ H Q:=by
 obtain⟨ps,e,tr,r⟩:=T;refine⟨ps,[v],e,tr,Z,(λi j' v' e1 e2=> ?_),?_⟩
 .cases i with
  |zero=>
   cases e1;cases e2;exact hj
  |succ i=>cases e1
 rcases r with r|⟨c,r1,r2⟩
 .refine .inl ⟨r,λf c' hf hc hfc=> ?_⟩;have ncP:c'≠P:=(aA e hc).symm;have nfP:f≠P:=(aA e hf).symm;refine h f c' _ hf ?_ (λb o hb eb=> ?_) ⟨_,(by rw[az ncP.symm];exact af),?_,.inr ⟨c',?_,af⟩⟩ af
  .rw[az hfc,az nfP];exact hf
  .rw[az (aA eb hc),az hb];exact eb
  .have:(ps++ #[rawInt lp.line,rawInt lp.col,.ref c']).toList=ps.toList++[rawInt lp.line,rawInt lp.col,.ref c']:=by simp
   rw[this];exact TriplesOk_snoc _ _ _ _ tr
  .have:(ps++ #[rawInt lp.line,rawInt lp.col,.ref c']).toList=ps.toList++[rawInt lp.line,rawInt lp.col,.ref c']:=by simp
   rw[this];exact codeAmong_snoc _ tr r
 .exact .inr ⟨c,r1,r2,λf hf=>h f c H hf hf (Kept.refl _ _) ⟨ps,e,tr,.inr ⟨c,r1,r2⟩⟩ r2⟩
theorem aef{sc:Scope}(h1:sc.kind= .function)(h2:sc.isCoroutine=false)(h3:sc.isGenerator=false)(h:sc.names=[(("_law_body_here" :Str),NameKind.free),(("Program" :Str),NameKind.globalImplicit)]):rP [] ["_law_body_here"] sc:=by
 refine⟨h1,h2,h3,by decide+kernel,(λ_ h=>nomatch h),?_,?_,?_⟩
 .rw[h];decide+kernel
 .rw[h];decide+kernel
 .rw[h];intro x hx;have hm:=gD hx;rcases aP.mp hm with z|hm
  .cases z;exact c5
  .rcases aP.mp hm with z|hm
   .cases z
   .cases hm
theorem YY{base:Y'}{cl:List (Str×S')}{x:Str}{kj:ak}(C:Au base cl [x] kj):∃v,kj=[v]:=by
 exact ZF (P:=λkj=>∃v,kj=[v]) (λv=>⟨v,Z⟩) kj C.len
theorem Y_(T:Txt K mg A)(Fm:wV P w K A fm)(Fo:∀x:Str,bg.lookup x=none->eV fm.kF (.inr x)=none)(df:Qo A){g_ :Y'}{f c' :S'}{name qual:Str}{scope:Scope}{pm ct oc:M'}{od:Option S'}{xC:Array (aO)}{p1 p2 p3:Pos}{cl:List (Str×S')}{kj:ak}
 (lk:g_.get? f=some ⟨oc,od,.func (kla_fn name qual {posonlyargs:=[],args:=[],vararg:=none,kwonlyargs:=[],kw_defaults:=[],kwarg:=none,defaults:=[]} (.Call (.Name "Program" p1) [.Name "_law_body_here" p2] [] p3) scope cl pm (.ref c') ct),xC⟩)
 (C:Au g_ cl ["_law_body_here"] kj) (h1:scope.kind= .function:=by rfl) (h2:scope.isCoroutine=false:=by rfl) (h3:scope.isGenerator=false:=by rfl) (h:scope.names=[(("_law_body_here" :Str),NameKind.free),(("Program" :Str),NameKind.globalImplicit)]:=by rfl):
 aT P w K mg g_ dO 53 A.qR A.pX ["_law_call"] (Fn A f (EU A c' qual (kj.getD 0 .bp))):=by
 obtain⟨v,rfl⟩:=YY C;refine EH T df (Ro T Fm Fo lk (aef h1 h2 h3 h) C (by rw[h];decide+kernel)) ⟨_,_,_,lk⟩ (Binds.all (bn0 Z))
theorem Tab.kept{H H' :Hp}{P P' :S'}{lp:Pos}{q:Str}{ps:Array M'}(t:Tab H P lp q)(k:Kept P' H H')(hP:P≠P')(e:H P' =some (.vB ps)):Tab H' P lp q:=by
 obtain⟨Kx,e1,tr,r⟩:=t;refine⟨Kx,k _ _ hP e1,tr,?_⟩;rcases r with r|⟨c,r1,r2⟩
 .exact .inl r
 .exact .inr ⟨c,r1,k _ _ (dB r2 e (λz=>nomatch z)) r2⟩
def fZ(A:nS)(H H' :Hp):Prop:=∀b o,b≠A.cQ->b≠A.ay->H b=some o->H' b=some o
structure oY(A:nS)(H:Hp):Prop where
 ne:A.cQ≠A.ay
 p:Tab H A.cQ lpP qP
 i:Tab H A.ay L0 qI
theorem oY.same{A:nS}{H H' :Hp}(t:oY A H)(s:ah H H'):oY A H' :=⟨t.ne,t.p.same s,t.i.same s⟩
theorem fZ.lst{A:nS}{H H' :Hp}(k:fZ A H H')(t:oY A H){c:S'}{xs:ak}(e:H c=some (.lst xs)):H' c=some (.lst xs):=by
 obtain⟨_,⟨ps1,e1,_⟩,⟨ps2,e2,_⟩⟩:=t;exact k _ _ (dB e e1 (λz=>nomatch z)) (dB e e2 (λz=>nomatch z)) e
theorem fZ.trans{A:nS}{H H1 H2:Hp}(a:fZ A H H1)(b:fZ A H1 H2):fZ A H H2:=λc o h1 h2 e=>b c o h1 h2 (a c o h1 h2 e)
theorem _root_.L2.ah.yk{A:nS}{H H' :Hp}(s:ah H H'):fZ A H H' :=λc o _ _ e=>s _ _ e
mutual
noncomputable def eK:U'->Nat
 | .list xs=>1+eX xs
 | .tuple xs=>1+eX xs
 | .dict kvs=>1+VI kvs
 | .none=>1
 | .bool _=>1
 | .int _=>1
 | .str _=>1
noncomputable def eX:List U'->Nat
 |[]=>0
 |x::xs=>eK x+eX xs
noncomputable def VI:List (U'×U')->Nat
 |[]=>0
 |(_,b)::r=>eK b+VI r
end
noncomputable def dkP:List (U'×U')->Bool
 |[]=>true
 |[(.str x,.str y)]=>decide (x="tell")&&decide (y="a")
 |_=>false
noncomputable def mC:Nat->U'->Bool
 |0,_=>false
 |_+1,.none=>true
 |_+1,.bool _=>true
 |_+1,.int i=>decide (i.natAbs<10 ^ 40)
 |_+1,.str x=>decide (x.length<=10)&&PyData.strOk x
 |k+1,.list ds=>ds.all (mC k)
 |k+1,.tuple ds=>ds.all (mC k)
 |_+1,.dict D=>dkP D
theorem vc(d:U'):1<=eK d:=by cases d<;>(rw[eK];lia)
theorem ib:∀a b:List U',eX (a++b)=eX a+eX b
 |[],b=>by rw[oE,eX,Nat.zero_add]
 |x::r,b=>by rw[zN,eX,eX,ib r b];lia
theorem Es:∀{l:List U'} {x:U'},x∈l->eK x<=eX l
 |y::r,x,h=>by
  rw[eX];rcases aP.mp h with rfl|h
  .lia
  .have:=Es h
   lia
theorem vM:∀l:List U',l.length<=eX l
 |[]=>cH _
 |x::r=>by
  rw[eX,bB];have:=vM r;have:=vc x
  lia
theorem JH:∀D:List (U'×U'),eX (D.map (·.2))=VI D
 |[]=>by rw[mS,eX,VI]
 |(a,b)::r=>by rw[cL,eX,VI,JH r]
theorem As:∀(k:Nat) (d:U'),mC k d=true->mC (k+1) d=true
 |0,_,h=>by cases h
 |k+1,d,h=>by
  cases d with
  |list ds=>exact a7.mpr λx hx=>As k x (a7.mp h x hx)
  |tuple ds=>exact a7.mpr λx hx=>As k x (a7.mp h x hx)
  |_=>exact h
theorem nB{k j:Nat}{d:U'}(h:mC k d=true)(hj:k<=j):mC j d=true:=by
 induction hj with
 |refl=>exact h
 |step _ ih=>exact As _ _ ih
theorem Fw{x:Str}(h:x.length<=10)(h' :PyData.strOk x=true)(k:Nat):Fits 200 k (.str x):=by
 refine⟨?_,?_,?_⟩
 .simp only[PyData.showable]
 .simp[PyData.depth]
 .have h1:=PyData.shown_le 8 (by decide) (.str x) (PyData.leavesShort_of_canLay0 8 _ (by simp only[PyData.canLay0];exact h') (by simp only[PyData.intsShort]));have h2:PyData.weight (.str x)=x.length:=by simp only[PyData.weight];rfl
  lia
theorem Sy:∀(k:Nat) (d:U'),mC k d=true->Fits (202*eK d - 2) k d
 |0,_,h=>by cases h
 |k+1,d,h=>by
  have all:∀ds:List U',(∀x∈ds,mC k x=true)->dh (202*eX ds) k ds:=λds=>by
   induction ds with
   |nil=>intro _;rw[eX];exact dh.nil
   |cons x r ih=>
    intro hx;have:=vc x;exact(dh.cons (Sy k x (hx x c5)) (ih λy hy=>hx y (cw _ hy))).mono (by rw[eX];lia) (aK _)
  cases d with
  |none=>exact⟨rD.sh,by simp[PyData.depth],aU rD.ln (by rw[eK];decide)⟩
  |bool b=>exact⟨by simp only[PyData.showable],by simp[PyData.depth],aU (show(PyData.shown (.bool b)).length<=5 by cases b<;>decide+kernel) (by rw[eK];decide)⟩
  |int i=>
   have f:=rh (bD h);exact⟨f.sh,by simp[PyData.depth],aU f.ln (by rw[eK];decide)⟩
  |str x=>
   have h:(decide (x.length<=10)&&PyData.strOk x)=true:=h;rw[cI,ie] at h;exact(Fw h.1 h.2 _).mono (by rw[eK];decide) (aK _)
  |list ds=>exact(all ds (a7.mp h)).list.mono (by rw[eK];lia) (aK _)
  |tuple ds=>exact(all ds (a7.mp h)).tup.mono (by rw[eK];lia) (aK _)
  |dict D=>
   have h:dkP D=true:=h;unfold dkP at h
   split at h
   .exact⟨by decide+kernel,by simp[PyData.depth,PyData.depthKv],aU (show(PyData.shown (.dict [])).length<=200 by decide+kernel) (by rw[eK,VI];decide)⟩
   .rename_i x y;rw[cI,ie,ie] at h;obtain⟨rfl,rfl⟩:=h;exact⟨by decide+kernel,by simp[PyData.depth,PyData.depthKv],aU (show(PyData.shown (.dict [(.str "tell",.str "a")])).length<=200 by decide+kernel) (by rw[eK,VI];lia)⟩
   .cases h
theorem IL{d:U'}{k m:Nat}(h:mC k d=true)(hs:eK d<=m)(hm:m<=50000)(hk:k<=90):d.showable=true/\d.depth<=90/\d.shown.length<=sizeLine:=by
 have f:=Sy k d h;have hL:sizeLine=16777216:=rfl;have h1:=f.ln;have h2:=f.dp;exact⟨f.sh,by lia,by lia⟩
mutual
theorem b8.fn{H:Hp}:∀{v:V} {d d' :U'},b8 H v d->b8 H v d'->d' =d
 |_,_,_,.bp,h=>by cases h;rfl
 |_,_,_,.bl b,h=>by cases h;rfl
 |_,_,_,.int i,h=>by cases h;rfl
 |_,_,_,.str x,h=>by cases h;rfl
 |_,_,_,.lst e hd,h=>by
  cases h with
  |lst e' h' =>rw[e] at e';cases e';rw[bj.fn hd h']
  |tup e' h' =>rw[e] at e';cases e'
  |Co e' hk h' =>rw[e] at e';cases e'
 |_,_,_,.tup e hd,h=>by
  cases h with
  |lst e' h' =>rw[e] at e';cases e'
  |tup e' h' =>rw[e] at e';cases e';rw[bj.fn hd h']
  |Co e' hk h' =>rw[e] at e';cases e'
 |_,_,_,.Co e hk hd,h=>by
  cases h with
  |lst e' h' =>rw[e] at e';cases e'
  |tup e' h' =>rw[e] at e';cases e'
  |Co e' Vt h' =>
   rw[e] at e';cases e';have h2:=bj.fn hd h';have h1:=Vt.trans hk.symm
   congr 1
   have:∀(a b:List (U'×U')),a.map (·.1)=b.map (·.1)->a.map (·.2)=b.map (·.2)->a=b:=λa=>by
    induction a with
    |nil=>intro b h1 _;cases b with|nil=>rfl|cons _ _=>cases h1
    |cons p r ih=>
     intro b h1 h2
     cases b with
     |nil=>cases h1
     |cons q s=>
      rw[cL,cL,List.cons.injEq] at h1 h2;rw[ih s h1.2 h2.2,Prod.ext h1.1 h2.1]
   exact this _ _ h1 h2
theorem bj.fn{H:Hp}:∀{v:ak} {d d' :List U'},bj H v d->bj H v d'->d' =d
 |_,_,_,.nil,h=>by cases h;rfl
 |_,_,_,.cons a b,h=>by
  cases h with
  |cons a' b' =>rw[b8.fn a a',bj.fn b b']
end
mutual
theorem zd{H:Hp}:∀{v:V} {d:U'},Dat H v d->b8 H v d
 |_,_,.bp=> .bp
 |_,_,.bl b=> .bl b
 |_,_,.int i=> .int i
 |_,_,.str x=> .str x
 |_,_,.lst e h=> .lst e (uT h)
 |_,_,.tup e h=> .tup e (uT h)
theorem uT{H:Hp}:∀{v:ak} {d:List U'},DatAll H v d->bj H v d
 |_,_,.nil=> .nil
 |_,_,.cons h t=> .cons (zd h) (uT t)
end
mutual
theorem b8.apart{H H' :Hp}{a:S'}{xs:ak}{ds:List U'}(ha:H a=some (.lst xs))(hd:bj H xs ds)(k:∀c o,c≠a->H c=some o->H' c=some o):∀{v:V} {d:U'},b8 H v d->eK d<1+eX ds->b8 H' v d
 |_,_,.bp,_=> .bp
 |_,_,.bl b,_=> .bl b
 |_,_,.int i,_=> .int i
 |_,_,.str x,_=> .str x
 |_,_,.lst (a:=c) e h,hs=>by
  rw[eK] at hs;by_cases z:c=a
  .subst z;rw[ha] at e;cases e;rw[bj.fn hd h] at hs
   lia
  .exact .lst (k _ _ z e) (bj.apart ha hd k h (by lia))
 |_,_,.tup e h,hs=> .tup (k _ _ (dB e ha (λz=>nomatch z)) e) (bj.apart ha hd k h (by rw[eK] at hs;lia))
 |_,_,.Co (D:=D) e hk h,hs=> .Co (k _ _ (dB e ha (λz=>nomatch z)) e) hk (bj.apart ha hd k h (by rw[eK] at hs;rw[JH];lia))
theorem bj.apart{H H' :Hp}{a:S'}{xs:ak}{ds:List U'}(ha:H a=some (.lst xs))(hd:bj H xs ds)(k:∀c o,c≠a->H c=some o->H' c=some o):∀{v:ak} {d:List U'},bj H v d->eX d<1+eX ds->bj H' v d
 |_,_,.nil,_=> .nil
 |_,_,.cons (d:=d) (ds:=r) h t,hs=> .cons (b8.apart ha hd k h (by rw[eX] at hs;lia)) (bj.apart ha hd k t (by rw[eX] at hs;lia))
end
theorem kX{H:Hp}{xs:ak}{ds:List U'}(h:bj H xs ds):∀x∈xs,∃d∈ds,b8 H x d:=by
 induction xs generalizing ds with
 |nil=>intro x hx;cases hx
 |cons y r ih=>
  cases h with
  |cons a b=>
   intro x hx;rcases aP.mp hx with rfl|hx
   .exact⟨_,c5,a⟩
   .obtain⟨d,hd,e⟩:=ih b x hx;exact⟨d,cw _ hd,e⟩
theorem bX{H:Hp}{xs:ak}{ds:List U'}(h:bj H xs ds):xs.length=ds.length:=by
 induction xs generalizing ds with
 |nil=>cases h;rfl
 |cons y r ih=>
  cases h with
  |cons a b=>rw[bB,bB,ih b]
theorem iC{H:Hp}{xs ys:ak}{ds es:List U'}(h:bj H xs ds)(g:bj H ys es):bj H (xs++ys) (ds++es):=by
 induction xs generalizing ds with
 |nil=>cases h;exact g
 |cons y r ih=>
  cases h with
  |cons a b=>exact .cons a (ih b)
def Sm(H:Hp)(k m:Nat)(v:V):Prop:=∃d,b8 H v d/\mC k d=true/\eK d<=m
theorem Sm.same{H H' :Hp}{k m:Nat}{v:V}(h:Sm H k m v)(s:ah H H'):Sm H' k m v:=by
 obtain⟨d,h1,h2⟩:=h;exact⟨d,h1.same s,h2⟩
theorem Sm.th{H:Hp}{k m:Nat}{v:V}(h:Sm H k m v):Th H v/\Sh v:=by
 obtain⟨d,h1,h2,_⟩:=h
 cases k with
 |zero=>cases h2
 |succ k=>
  cases h1 with
  |bp=>exact⟨.bp,trivial⟩
  |bl b=>exact⟨.bl b,trivial⟩
  |int i=>exact⟨.int i,bD (p:=i.natAbs<10 ^ 40) h2⟩
  |str x=>
   have h2:(decide (x.length<=10)&&PyData.strOk x)=true:=h2;rw[cI,ie] at h2;exact⟨.str x,aU h2.1 (by decide)⟩
  |lst e h=>exact⟨.lst e,trivial⟩
  |tup e h=>exact⟨.tup e,trivial⟩
  |Co e hk h=>exact⟨.dK e,trivial⟩
theorem Sm.sq{H:Hp}{k m:Nat}{v:V}{xs:ak}(h:Sm H k m v)(e:nz H v=some xs):∃k',k=k' +1/\xs.length<m/\∀x∈xs,Sm H k' m x:=by
 obtain⟨d,h1,h2,h3⟩:=h
 cases k with
 |zero=>cases h2
 |succ k=>
  refine⟨k,Z,?_⟩
  cases h1 with
  | @lst a ys ds e' h=>
   simp only[nz,e',nk] at e;subst e;rw[eK] at h3;have hl:=vM ds;have h4:=bX h;refine⟨by lia,λx hx=> ?_⟩;obtain⟨d,hd,e⟩:=kX h x hx;have:=Es hd;exact⟨d,e,a7.mp h2 d hd,by lia⟩
  | @tup a ys ds e' h=>
   simp only[nz,e',nk] at e;subst e;rw[eK] at h3;have hl:=vM ds;have h4:=bX h;refine⟨by lia,λx hx=> ?_⟩;obtain⟨d,hd,e⟩:=kX h x hx;have:=Es hd;exact⟨d,e,a7.mp h2 d hd,by lia⟩
  |Co e' hk h=>simp[nz,e'] at e
  |_=>cases e
theorem EZ:∀(ks:au) (xs:ak) (b:V),b∈yn ks xs->b∈xs
 |[],_,b,h=>by simp[yn] at h
 |_::_,[],b,h=>by simp[yn] at h
 |k::ks,x::xs,b,h=>by
  rw[yn] at h
  split at h
  .rcases aP.mp h with rfl|h
   .exact c5
   .exact cw _ (EZ ks xs b h)
  .exact cw _ (EZ ks xs b h)
theorem Ew{H:Hp}{x b:V}(h:b∈fB H x):∃a ys,x= .ref a/\H a=some (.tup ys)/\b∈ys:=by
 unfold fB at h
 split at h
 .rename_i a
  split at h
  .rename_i ys e;unfold tbV at h
   split at h
   .rename_i w xs
    split at h
    .exact⟨a,_,Z,e,cw _ (EZ _ _ _ h)⟩
    .cases h
   .cases h
  .cases h
 .cases h
theorem I_{H:Hp}{a:S'}{ys:ak}(e:H a=some (.tup ys)):nz H (.ref a)=some ys:=by simp[nz,e]
theorem Sm.dp{H:Hp}{m:Nat}(hm:m<=1000):∀(n k:Nat) (v:V),k<=2*n->Sm H k m v->Dp H n v
 |0,k,v,hk,h=>by
  obtain⟨d,_,h2,_⟩:=h;rw[show k=0 by lia] at h2;cases h2
 |n+1,k,v,hk,h=>by
  refine⟨h.th.1,h.th.2,λxs e=> ?_⟩;obtain⟨k',rfl,hl,hx⟩:=h.sq e;refine⟨by lia,λx Pa =>⟨⟨(hx x Pa).th.1,(hx x Pa).th.2,λa ys ea e2=> ?_⟩,λb hb=> ?_⟩⟩
  .subst ea;obtain⟨k2,rfl,n5,hy⟩:=(hx _ Pa).sq (I_ e2);exact⟨by lia,λy V9 =>(hy y V9).th⟩
  .obtain⟨a,ys,rfl,e2,hb⟩:=Ew hb;obtain⟨k2,rfl,n5,hy⟩:=(hx _ Pa).sq (I_ e2);exact Sm.dp hm n k2 b (by lia) (hy b hb)
theorem Sm.mono{H:Hp}{k k' m:Nat}{v:V}(h:Sm H k m v)(hk:k<=k'):Sm H k' m v:=by
 obtain⟨d,h1,h2,h3⟩:=h;exact⟨d,h1,nB h2 hk,h3⟩
theorem Sm.fb{H:Hp}{m:Nat}:∀(n k:Nat) (v b:V),Sm H k m v->ke H n v=some b->Sm H k m b
 |0,k,v,b,h,e=>by cases e
 |n+1,k,v,b,h,e=>by
  unfold ke at e
  cases ev:nz H v with
  |none=>rw[ev] at e;cases e;exact h
  |some xs=>
   rw[ev] at e;obtain⟨x,hx,e⟩:=AW (show xs.findSome? (λx=>if cg H x=true then(fB H x).findSome? (ke H n) else some x)=some b from e);obtain⟨k',rfl,_,hs⟩:=h.sq ev
   split at e
   .obtain⟨y,hy,e'⟩:=AW e;obtain⟨a,ys,rfl,e2,hb⟩:=Ew hy;obtain⟨k2,rfl,_,hz⟩:=(hs _ hx).sq (I_ e2);exact(Sm.fb n k2 y b (hz y hb) e').mono (by lia)
   .cases e;exact(hs _ hx).mono (by lia)
noncomputable def X_:Nat->U'->Bool
 |0,_=>true
 |k+1,.list ds=>ds.all λx=>match x with
  | .list _=>false
  | .tuple ps=>ps.all (X_ k)
  |_=>true
 |k+1,.tuple ds=>ds.all λx=>match x with
  | .list _=>false
  | .tuple ps=>ps.all (X_ k)
  |_=>true
 |_+1,_=>true
theorem TK{H:Hp}:∀(n:Nat) (v b:V) (d:U'),b8 H v d->X_ n d=true->ke H n v=some b->∀a xs,b= .ref a->H a≠some (.lst xs)
 |0,v,b,d,h,hn,e=>by cases e
 |n+1,v,b,d,h,hn,e=>by
  unfold ke at e
  cases ev:nz H v with
  |none=>
   rw[ev] at e;cases e
   rintro a xs rfl e
   simp[nz,e] at ev
  |some xs=>
   rw[ev] at e;obtain⟨x,hx,e⟩:=AW (show xs.findSome? (λx=>if cg H x=true then(fB H x).findSome? (ke H n) else some x)=some b from e)
   obtain⟨ds,Hh,Iw⟩:∃ds,bj H xs ds/\∀y∈ds,(match y with
    | .list _=>false
    | .tuple ps=>ps.all (X_ n)
    |_=>true)=true:=by
    cases h with
    |lst e' h=>simp only[nz,e',nk] at ev;subst ev;exact⟨_,h,a7.mp hn⟩
    |tup e' h=>simp only[nz,e',nk] at ev;subst ev;exact⟨_,h,a7.mp hn⟩
    |Co e' hk h=>simp[nz,e'] at ev
    |_=>cases ev
   obtain⟨y,hy,hxy⟩:=kX Hh x hx;have hc:=Iw y hy
   split at e
   .obtain⟨z,hz,e'⟩:=AW e;obtain⟨a,ys,rfl,e2,hb⟩:=Ew hz
    cases hxy with
    |lst e3 _=>rw[e2] at e3;cases e3
    |Co e3 _ _=>rw[e2] at e3;cases e3
    |tup e3 h3=>
     rw[e2] at e3;cases e3;obtain⟨dz,hdz,hz3⟩:=kX h3 z hb;exact TK n z b dz hz3 (a7.mp hc dz hdz) e'
   .cases e
    rintro a xs rfl e
    cases hxy with
    |lst e3 _=>cases hc
    |tup e3 _=>rw[e] at e3;cases e3
    |Co e3 _ _=>rw[e] at e3;cases e3
theorem MK(t:Bool)(ds:List U'):eK (iN t ds)=1+eX ds:=by
 cases t with
 |false=>show eK (.list ds)=_;rw[eK]
 |true=>show eK (.tuple ds)=_;rw[eK]
mutual
theorem ajO:∀d:Dd,jM d<=eK (dD d)
 | .mk w ps bs=>by
  have:=XM bs;rw[jM,dD,eK,eX,ib]
  lia
theorem WS:∀s:Ds,d_ s<=eX (sL s)
 | .nil=>by rw[d_];exact cH _
 | .cons d r=>by
  have h1:=aaa d;have h2:=WS r;rw[d_,sL,eX]
  lia
theorem aaa:∀d:Dd,jM d+1<=eK (dD d)
 | .mk w ps bs=>by
  have:=XM bs;rw[jM,dD,eK,eX,ib]
  lia
theorem XM:∀b:Bs,mT b<=eX (bL b)
 | .nil=>by rw[mT];exact cH _
 | .cons t b r=>by
  have h1:=WS b;have h2:=XM r;rw[mT,bL,eX,MK]
  lia
end
theorem Sm.mn{H:Hp}{k m:Nat}{v:V}{t:Bool}{s:Ds}(h:Sm H k m v)(hd:Dat H v (iN t (sL s))):d_ s<=m:=by
 obtain⟨d,h1,_,h3⟩:=h;rw[<-b8.fn h1 (zd hd)] at h3;have:=WS s;rw[MK] at h3
 lia
theorem MX{d:Dd}{ar:au}(ok:l8 d)(h:∀x∈ar,cv x=true):∀x∈oA d ar,cv x=true:=λx hx=>by
 unfold oA at hx
 split at hx
 .rename_i hb;rcases aP.mp hx with rfl|hx
  .cases jaf ok with
   |ei t b u c=>exact absurd hb (by show ¬dW "either"=true;decide+kernel)
   |tu l m n t b hl hg _ _ _ _=>exact hl
   |fr l t b hl hg=>exact hl
   |sm w ks ps f hf n1 n2 n3=>
    have hb:dW w=true:=hb;unfold dW at hb;rw[ba n3,ba n2] at hb;cases hb
  .exact h x hx
 .exact h x hx
theorem IP{ks:au}{ps:List U'}(h:ig ks ps):∀x:Str,PyData.str x∈ps->cv x=true:=by
 induction h with
 |nil=>intro x hx;cases hx
 |cons h t ih=>
  intro x hx;rcases aP.mp hx with rfl|hx
  .cases h with
   |name x h=>exact h
   |label x h n=>exact h
   |mark x h=>exact h
  .exact ih x hx
theorem Ot{d:Dd}(ok:l8 d):∀x:Str,PyData.str x∈d.ps->cv x=true:=by
 cases d with
 |mk w ps bs=>
  rw[l8] at ok;obtain⟨⟨ks,f,fit⟩,_⟩:=ok;exact IP fit
theorem KC{r:Dd×au}(ok:l8 r.1){x:Rf}(h:j6 r=some x):∃l,(x= .twice l\/x= .qW l)/\cv l=true:=by
 unfold j6 at h
 split at h
 .rename_i hb;cases h;refine⟨_,.inl Z,?_⟩;have:=MX (ar:=[]) ok (λ_ h=>nomatch h) (jd r.1) (by unfold oA;rw[aB hb.1];exact c5);exact this
 .split at h
  .split at h
   .rename_i y hy
    split at h
    .cases h
    .cases h;refine⟨y,.inr Z,Ot ok y ?_⟩;unfold ue at hy
     split at hy
     .rename_i e;cases hy;rw[e];simp
     .cases hy
   .cases h
  .cases h
theorem Je{s:Ds}(h:gL s=none):d_ s<=40/\eO s<=6:=by
 unfold gL at h;rw[Option.or_eq_none_iff] at h;have h:=h.1;unfold nM at h
 split at h
 .cases h
 .split at h
  .cases h
  .lia
def Q7(H:Hp)(r:Rf):Prop:=∃dv,b8 H r.v dv/\(PyData.tuple [.str r.tag,dv]).showable=true/\(PyData.tuple [.str r.tag,dv]).depth<=90/\(PyData.tuple [.str r.tag,dv]).shown.length<=sizeLine
theorem Aq(r:Rf):cv r.tag=true:=by cases r<;>(simp only[Rf.tag];decide+kernel)
theorem vQ{H:Hp}{r:Rf}{dv:U'}(h:b8 H r.v dv)(f:Fits 100 3 dv):Q7 H r:=
 ⟨dv,h,((dh.cons (kW (Aq r)) (dh.cons f dh.nil)).tup).rep (by decide) (by decide)⟩
theorem MN{H:Hp}{s:Ds}(ok:mD s)(dp:eO s<40)(mn:d_ s<=1000){r:Rf}(h:gL s=some r):Q7 H r/\∀a,r.v≠.ref a:=by
 unfold gL at h
 cases es:nM s with
 |some r' =>
  rw[es] at h;cases h;unfold nM at es
  split at es
  .cases es;exact⟨vQ (.int _) (vN (by lia)),λ_ z=>nomatch z⟩
  .split at es
   .cases es;exact⟨vQ (.int _) (vN (by lia)),λ_ z=>nomatch z⟩
   .cases es
 |none=>
  rw[es,ix] at h
  cases ef:(pI s ["ground"]).findSome? j6 with
  |some r' =>
   rw[ef] at h;cases h;obtain⟨row,hr,e⟩:=AW ef;obtain⟨l,h,hn⟩:=KC (w8 s _ ok row hr) e
   rcases h with rfl|rfl<;>exact⟨vQ (.str _) (kW hn),λ_ z=>nomatch z⟩
  |none=>
   rw[ef,ix] at h
   have sz:d_ s<=40/\eO s<=6:=by
    unfold nM at es
    split at es
    .cases es
    .split at es
     .cases es
     .lia
   have c:=Af s ok;have t:=zk (d:=eO s) (m:=d_ s) sz.2 (by lia);unfold yN at h
   split at h
   .cases h;exact⟨vQ (.int _) (vN (by lia)),λ_ z=>nomatch z⟩
   .split at h
    .cases h;exact⟨vQ (.int _) (vN (by lia)),λ_ z=>nomatch z⟩
    .cases h
theorem Rc{H:Hp}{b:V}(h:Sm H 80 1000 b):Q7 H (.sC b):=by
 obtain⟨d,h1,h2,h3⟩:=h;refine⟨d,h1,IL (k:=81) (m:=1002) ?_ ?_ (by decide) (by decide)⟩
 .show([PyData.str (Rf.tag (.sC b)),d].all (mC 80))=true;rw[fj,fj,h2];show(mC 80 (.str "deed")&&(true&&true))=true;rw[show mC 80 (.str "deed")=true by decide+kernel];rfl
 .rw[eK,eX,eX,eX,eK]
  lia
mutual
theorem E2{H H' :Hp}(k:∀c o,((∃xs,o= .lst xs)\/(∃xs,o= .tup xs)\/∃kvs,o= .dK kvs)->H c=some o->H' c=some o):∀{v:V} {d:U'},b8 H v d->b8 H' v d
 |_,_,.bp=> .bp
 |_,_,.bl b=> .bl b
 |_,_,.int i=> .int i
 |_,_,.str x=> .str x
 |_,_,.lst e h=> .lst (k _ _ (.inl ⟨_,Z⟩) e) (v7 k h)
 |_,_,.tup e h=> .tup (k _ _ (.inr (.inl ⟨_,Z⟩)) e) (v7 k h)
 |_,_,.Co e hk h=> .Co (k _ _ (.inr (.inr ⟨_,Z⟩)) e) hk (v7 k h)
theorem v7{H H' :Hp}(k:∀c o,((∃xs,o= .lst xs)\/(∃xs,o= .tup xs)\/∃kvs,o= .dK kvs)->H c=some o->H' c=some o):∀{xs:ak} {ds:List U'},bj H xs ds->bj H' xs ds
 |_,_,.nil=> .nil
 |_,_,.cons h t=> .cons (E2 k h) (v7 k t)
end
noncomputable def i_(A:nS)(H:Hp):Hp:=λc=>if c=A.cQ\/c=A.ay then none else H c
theorem v_{A:nS}{H:Hp}{c:S'}{o:HO}(h:i_ A H c=some o):c≠A.cQ/\c≠A.ay/\H c=some o:=by
 unfold i_ at h
 split at h
 .cases h
 .rename_i hn;exact⟨λz=>hn (.inl z),λz=>hn (.inr z),h⟩
theorem fZ.h{A:nS}{H H' :Hp}(k:fZ A H H'):ah (i_ A H) H' :=λc o e=>k c o (v_ e).1 (v_ e).2.1 (v_ e).2.2
theorem Sm.h{A:nS}{H:Hp}{k m:Nat}{v:V}(t:oY A H)(h:Sm H k m v):Sm (i_ A H) k m v:=by
 obtain⟨d,h1,h2⟩:=h;obtain⟨_,⟨ps1,e1,_⟩,⟨ps2,e2,_⟩⟩:=t;refine⟨d,E2 (λc o hc e=> ?_) h1,h2⟩
 have n:∀ps,o≠.vB ps:=λps z=>by
  rcases hc with⟨_,y⟩|⟨_,y⟩|⟨_,y⟩<;>(rw[z] at y;cases y)
 unfold i_;rw[ax]
 .exact e
 .rintro (rfl|rfl)
  .rw[e] at e1;cases e1;exact n _ rfl
  .rw[e] at e2;cases e2;exact n _ rfl
theorem IU{A:nS}{H:Hp}{v:V}(sm:Sm H 80 1000 v)(tabs:oY A H):∃R:Option Rf,(∀Q2:VK,(∀LX H',ah H H'->ML H' LX R->Q2 LX H')->Mp [v] H Q2 E0)/\match R with
 |some r=>Q7 (i_ A H) r/\(∀H',ah (i_ A H) H'->Tab H' A.ay L0 qI->∀(Qm:S'->Hp->Prop) (Em:Rf->S'->Hp->Prop),(∀dx H2,Kept A.ay H' H2->Tab H2 A.ay L0 qI->H2 dx=some (.xd [(r.fd,r.v)])->Em r dx H2)->Uz A v H' Qm Em)/\(∀a xs,r.v= .ref a->i_ A H a=some (.lst xs)->ke H 40 v=some (.ref a))
 |none=>∃t s,Dat (i_ A H) v (iN t (sL s))/\mD s/\eO s<40/\d_ s<=1000/\gL s=none/\ke (i_ A H) 40 v=none:=by
 have s0:ah (i_ A H) H:=fZ.h (ah.refl H).yk;have gW:=sm.h tabs;have Rl:=gW.dp (aK _) 40 80 v (by lia);obtain⟨hD,ef⟩:=Dp.same s0 40 v Rl
 cases hb:ke (i_ A H) 40 v with
 |some b=>
  rw[hb] at ef;refine⟨some (.sC b),λQ2 h=>⟨v,Z,hD,λb' wL LX H' s du=> ?_,λhn=> ?_⟩,Rc (gW.fb 40 80 v b hb),λH' s' tb Qm Em hE=> .inl ⟨b,?_,λdx H2 s2 e=>hE dx H2 s2.kept (tb.same s2) e⟩,λa xs e _=> ?_⟩
  .rw[ef] at wL;cases wL;exact h LX H' s du
  .rw[ef] at hn;cases hn
  .rw[(Dp.same s' 40 v Rl).2,hb]
  .rw[ef,show b= .ref a from e]
 |none=>
  rw[hb] at ef;obtain⟨t,s,g1,g2,g3⟩:=CJ 40 v Rl hb;have mn:=gW.mn g1;refine⟨gL s,λQ2 h=>⟨v,Z,hD,λb' wL => ?_,λ_=>⟨t,s,g1.same s0,g2,g3,mn,h⟩⟩,?_⟩
  .rw[ef] at wL;cases wL
  cases er:gL s with
  |none=>exact⟨t,s,g1,g2,g3,mn,er,Z⟩
  |some r=>
   obtain⟨r1,r2⟩:=MN (H:=i_ A H) g2 g3 mn er;refine⟨r1,λH' s' tb Qm Em hE=> .inr ⟨by rw[(Dp.same s' 40 v Rl).2,hb],t,s,g1.same s',g2,g3,mn,?_⟩,λa xs e _=>absurd e (r2 a)⟩;unfold E4;rw[er];exact λdx H2 k t' e=>hE dx H2 k t' e
theorem jan{K:Frag}{H:Hp}{v:V}{d:U'}(h:b8 H v d):∃t b,vT K H v t/\kitOne K t (.type "list")=some b/\(b=true->∃a xs ds,v= .ref a/\H a=some (.lst xs)/\d= .list ds/\bj H xs ds):=by
 cases h with
 |bp=>exact⟨_,false,.bp,Z,λz=>nomatch z⟩
 |bl b=>exact⟨_,false,.bl b,Z,λz=>nomatch z⟩
 |int i=>exact⟨_,false,.int i,Z,λz=>nomatch z⟩
 |str x=>exact⟨_,false,.str x,Z,λz=>nomatch z⟩
 |lst e h=>exact⟨_,true,.lst e,Z,λ_=>⟨_,_,_,Z,e,Z,h⟩⟩
 |tup e h=>exact⟨_,false,.tup e,Z,λz=>nomatch z⟩
 |Co e hk h=>exact⟨_,false,.dK e,Z,λz=>nomatch z⟩
theorem Tab.Sf{H H' :Hp}{P a:S'}{lp:Pos}{q:Str}{xs:ak}(t:Tab H P lp q)(k:∀c o,c≠a->H c=some o->H' c=some o)(e:H a=some (.lst xs)):Tab H' P lp q:=by
 obtain⟨Kx,e1,tr,r⟩:=t;refine⟨Kx,k _ _ (dB e1 e (λz=>nomatch z)) e1,tr,?_⟩;rcases r with r|⟨c,r1,r2⟩
 .exact .inl r
 .exact .inr ⟨c,r1,k _ _ (dB r2 e (λz=>nomatch z)) r2⟩
def RtK(A:nS)(v:V)(H H' :Hp):Prop:=∀c o,c≠A.cQ->c≠A.ay->H c=some o->H' c=some o\/(ke H 40 v=some (.ref c)/\∃xs,o= .lst xs)
def Ag(A:nS):Sp:=λvs H Q _=>∃v,vs=[v]/\Sm H 80 1000 v/\oY A H/\∀H',RtK A v H H'->oY A H'->Q (.bl true) H'
theorem tH(T:Txt K mg A)(Fm:wV P w K A fm)(Fo:∀x:Str,bg.lookup x=none->eV fm.kF (.inr x)=none)(df:Qo A)(xp:K.In base):aT P w K mg base dO 54 A.gx A.fN ["_law_body_here"] (Ag A):=by
 refine T.oR.F.okC hJ (λAr outer s0 H vs Q E hr h=> ?_) (λvs H Q E h=> ?_)
 .obtain⟨v,rfl,sm,tabs,q⟩:=h;have bnv:Vals ([]:ak) []:= .nil;have bnd:=T.mO.b;have Pk:=hr.gd;have OR:_+100<cLine:=iX (Nat.add_le_add_left (by decide:100<=16*53+200) _) (by have:=hr.un;omega);obtain⟨c0,ct⟩:=T.BW.tab (X:=nD dO P w K mg base ["_law_body_here","_law_held","_law_due_here","_law_turn","_law_told"] "_law_right" (av kO) A.gx A.fN.code Ar outer s0 H E) xp rfl;have bm:=T.bm.mod (X:=nD dO P w K mg base ["_law_body_here","_law_held","_law_due_here","_law_turn","_law_told"] "_law_right" (av kO) A.gx A.fN.code Ar outer s0 H E) xp;refine⟨_,(aj (gf 1 hJ.nd (iR (gq Pk OR T.sm) T.pO Boot.«repr» (aM (pv 0)))) (aj (gf 2 hJ.nd (cG (FG T) hr T.Al aC (aM (pv 0)))) (aj (A5 (gJ Z T.kT (aM ae)) (jE 3 hJ.nd) (aj (gf 4 hJ.nd (Rh ct bm (show uB _ _ _ ["_law_body_here"] [0] from⟨Z,Z,(λi j x e1 e2=>by rcases i with _|i<;>cases e1<;>cases e2<;>rfl),(λx hx=>by rw[gm.mp hx];rfl),(λ_ _=>rfl),(λx hx=>by rw[gm.mp hx];rfl),(λx c h=>by rcases aP.mp (gD h) with z|z<;>cases z;exact c5)⟩) (λg_ f c' wU kj lk cp=>Y_ T Fm Fo df lk cp) hr Z T.mO.m T.mO.F.kp bnd bnv aC)) (aj (bU (PW.pt (wT (wn Bb (pv 2) eh) (xz (PW.pt (WF (wn qQ (cS aN (pv 4) ae) ai) (WP (wn qQ (iR (gq Pk OR T.sm) T.pO Boot.«repr» (aM (afN (cS aN (pv 4) ae) T.jw T.ra (yL T) hr aC))) (iR (gq Pk OR T.sm) T.pO Boot.«repr» (aM (cG (BU T 40) hr T.oN aC (aM (pv 0)))))))))))) (aq (aH ky)) bf) (aj (bU (PW.pt (WF (PW.pt (wT (wn zm (pv 2) eh) (xz (wn qQ (iR (gq Pk OR T.sm) T.pO Boot.«repr» (aM (pv 4))) (iR (gq Pk OR T.sm) T.pO Boot.«repr» (aM (pv 2))))))) (WP (wn qQ (iR (gq Pk OR T.sm) T.pO Boot.«repr» (aM (pv 0))) (pv 1))))) (aq (aH ky)) bf) (aq (bU (PW.pt (wT (wn zm (pv 2) eh) (wT (wn cK (pv 3) ae) (xz (gv (iR cD T.bM Boot.«isinstance» (ag (cS aN (pv 2) ae) (aM (eJ (v:= .ty "list") Z T.AI Boot.«list» rfl))))))))) (aj (bZ (lR gT D' F' dw (cS aN (pv 2) ae) (aM ai))) (aq (bU (wn qQ (iR (gq Pk OR T.sm) T.pO Boot.«repr» (aM (pv 4))) (iR (gq Pk OR T.sm) T.pO Boot.«repr» (aM (pv 2)))) (aq (aH ky)) bf))) bf))))) (hp:=zH)) (aq (aH ky))))),?_⟩;obtain⟨R,aeb,hR⟩:=IU sm tabs;have s0' :ah (i_ A H) H:=fZ.h (ah.refl H).yk;have gW:=sm.h tabs;have Rl:=gW.dp (aK _) 40 80 v (by lia);obtain⟨d,hd0,l6,szd⟩:=id gW;have F0:=IL l6 szd (by decide) (by decide);refine⟨_,Z,v,d,Z,hd0.same s0',F0.1,F0.2.1,F0.2.2,?_⟩;refine⟨_,Z,aeb _ λLX H1 s1 du=> ?_⟩;have Z8:=tabs.same s1;have k1:fZ A H H1:=s1.yk;refine⟨2,Z,by decide,by decide,?_⟩;have neN:∀c:S',decide (V.ref c=V.bp)=false:=λc=>ba λz=>nomatch z
  cases R with
  |none=>
   have du:LX= .bp:=du;subst du;obtain⟨t,s,g1,g2,g3,mn,er,hb⟩:=hR;obtain⟨m40,d6⟩:=Je er;have X2:=((shS _ (DV s g2)).tup).rep (by obtain⟨_,h,_⟩:=Mz s;lia) (by obtain⟨h,_⟩:=Mz s;lia);refine nU (λi σ H' =>∃x3 x4:Option V,σ=[some v,some (.str d.shown),some .bp,x3,x4]/\fZ A H H'/\oY A H') ⟨_,_,Z,k1,Z8⟩ ?_ ?_
   .rintro i σ H' hi ⟨x3,x4,rfl,kp,tab⟩
    obtain⟨psP,eP,_⟩:=id tab.p;show Ge A.cQ lpP qP (λf c' kj=>Fn A f (EU A c' qP (kj.getD 0 .bp))) E0 [0] [] sH _ H' _;refine Tab.Zl tab.p Z λf c' H3 hf hf3 k3 t3 hc3=>⟨Z,λt0 ht0 Q' E' hq he=> ?_⟩;have u0:=ah.upd (o:= .tup [V.str "other"]) ht0;have tabI:=(tab.i.kept k3 tab.ne.symm eP).same u0;have N6:=t3.same u0;have YF:=u0 _ _ hc3;have Pg:fZ A H (upd H3 t0 (.tup [V.str "other"])):=λb o h1 h2 e=>u0 _ _ (k3 _ _ h1 (kp _ _ h1 h2 e));generalize upd H3 t0 (.tup [V.str "other"])=H4 at tabI N6 YF Pg ⊢;obtain⟨ps3,e3,_⟩:=id tabI;refine⟨_,Z,YF,ah.refl _,(Dp.same Pg.h 40 v Rl).1,tabI,.inr ⟨(Dp.same Pg.h 40 v Rl).2.trans hb,t,s,g1.same Pg.h,g2,g3,mn,?_⟩⟩;unfold E4;rw[er];intro p tb ls H5 hp Ll hls k5 tb5 pr5;refine hq _ _ λtt E6=> ?_;have u6:=ah.upd (o:= .tup [V.str "program",.ref p]) E6;have e6:upd H5 tt (.tup [V.str "program",.ref p]) tt=some (.tup [V.str "program",.ref p]):=af;have Jv:fZ A H (upd H5 tt (.tup [V.str "program",.ref p])):=λb o h1 h2 e=>u6 _ _ (k5 _ _ h2 (Pg _ _ h1 h2 e));have Ec:oY A (upd H5 tt (.tup [V.str "program",.ref p])):=⟨tab.ne,(N6.kept k5 tab.ne e3).same u6,tb5.same u6⟩
    have pr6:Hm A.aZ (upd H5 tt (.tup [V.str "program",.ref p])) p tb ls s:=by
     obtain⟨⟨dx,ho⟩,_,zs,hz,_⟩:=id pr5;exact pr5.kt (KT.same u6) ((u6 _ _ ho).trans ho.symm) ((u6 _ _ hz).trans hz.symm)
    generalize upd H5 tt (.tup [V.str "program",.ref p])=H6 at u6 e6 Jv Ec pr6 ⊢;obtain⟨NU,ho⟩:=id pr6.ob;refine⟨_,Z,Z,_,Z,?_⟩;rw[aS Z];refine a9 ⟨_,Z,tt,_,0,_,Z,Z,bc.of e6,gU _ _,Z,_,Z,PD ?_⟩;refine⟨_,Z,tt,_,1,_,Z,Z,bc.of e6,Z,p,NU,_,Z,ho,Z,p,tb,ls,s,Z,pr6,_,_,Z,zd pr6.body.dat,X2.1,X2.2.1,X2.2.2,?_⟩;refine⟨_,Z,H6,v,t,s,Z,ah.refl _,g1.same Jv.h,g2,g3,mn,λt7 H7 ht7 s7 td=>⟨_,_,Z,zd td.dat,X2.1,X2.2.1,X2.2.2,Z,_,Z,PD ?_⟩⟩;have k07:=Jv.trans s7.yk;exact⟨_,Z,Z,_,Z,PD ⟨_,Z,v,d,Z,hd0.same k07.h,F0.1,F0.2.1,F0.2.2,_,Z,Z,_,Z,PD ⟨_,Z,Z,_,Z,PD ⟨_,_,Z,k07,Ec.same s7⟩⟩⟩⟩
   .rintro σ H' ⟨x3,x4,rfl,kp,tab⟩
    exact q H' (λc o h1 h2 e=> .inl (kp c o h1 h2 e)) tab
  |some r=>
   obtain⟨rv,mk,rl⟩:=hR;obtain⟨td,rfl,ed⟩:=du;obtain⟨dv,Ys,F1,F2,F3⟩:=rv;have dT:∀(Hx:Hp) (c:S'),ah (i_ A H) Hx->Hx c=some (.tup [.str r.tag,r.v])->b8 Hx (.ref c) (.tuple [.str r.tag,dv]):=λHx c s e=> .tup e (.cons (.str _) (.cons (Ys.same s) .nil));refine nU (λi σ H' =>∃x3 x4:Option V,σ=[some v,some (.str d.shown),some (.ref td),x3,x4]/\oY A H'/\RtK A v H H'/\(i<2->fZ A H H'/\H' td=some (.tup [.str r.tag,r.v]))) ⟨_,_,Z,Z8,(λc o h1 h2 e=> .inl (k1 c o h1 h2 e)),λ_=>⟨k1,ed⟩⟩ ?_ ?_
   .rintro i σ H' hi ⟨x3,x4,rfl,tab,_,hh⟩
    obtain⟨kp,ed'⟩:=hh (by lia);obtain⟨psP,eP,_⟩:=id tab.p;show Ge A.cQ lpP qP (λf c' kj=>Fn A f (EU A c' qP (kj.getD 0 .bp))) E0 [0] [] sH _ H' _;refine Tab.Zl tab.p Z λf c' H3 hf hf3 k3 t3 hc3=>⟨Z,λt0 ht0 Q' E' hq he=> ?_⟩;have u0:=ah.upd (o:= .tup [V.str "other"]) ht0;have tabI:=(tab.i.kept k3 tab.ne.symm eP).same u0;have N6:=t3.same u0;have YF:=u0 _ _ hc3;have ed4:=u0 _ _ (k3 _ _ (dB ed' eP (λz=>nomatch z)) ed');have Pg:fZ A H (upd H3 t0 (.tup [V.str "other"])):=λb o h1 h2 e=>u0 _ _ (k3 _ _ h1 (kp _ _ h1 h2 e));generalize upd H3 t0 (.tup [V.str "other"])=H4 at tabI N6 YF Pg ed4 ⊢;obtain⟨ps3,e3,_⟩:=id tabI;refine⟨_,Z,YF,ah.refl _,(Dp.same Pg.h 40 v Rl).1,tabI,mk H4 Pg.h tabI _ _ λdx H5 k5 tb5 e5=>he r dx H5 e5 λtt E6=> ?_⟩;have u6:=ah.upd (o:= .tup [V.str r.tag,r.v]) E6;have e6:upd H5 tt (.tup [V.str r.tag,r.v]) tt=some (.tup [V.str r.tag,r.v]):=af;have Jv:fZ A H (upd H5 tt (.tup [V.str r.tag,r.v])):=λb o h1 h2 e=>u6 _ _ (k5 _ _ h2 (Pg _ _ h1 h2 e));have Ec:oY A (upd H5 tt (.tup [V.str r.tag,r.v])):=⟨tab.ne,(N6.kept k5 tab.ne e3).same u6,tb5.same u6⟩;have SN:=u6 _ _ (k5 _ _ (dB ed4 e3 (λz=>nomatch z)) ed4);generalize upd H5 tt (.tup [V.str r.tag,r.v])=H6 at u6 e6 Jv Ec SN ⊢;refine⟨_,Z,Z,_,Z,?_⟩;rw[neN];refine bo ⟨_,Z,Z,_,Z,?_⟩;rw[neN];refine a9 ⟨_,Z,_,_,Z,dT _ _ Jv.h e6,F1,F2,F3,_,Z,_,_,Z,dT _ _ Jv.h SN,F1,F2,F3,Z,_,Z,PD ⟨_,Z,v,d,Z,hd0.same Jv.h,F0.1,F0.2.1,F0.2.2,_,Z,Z,_,Z,PD ⟨_,Z,Z,_,Z,?_⟩⟩⟩;rw[neN];refine a9 ⟨_,Z,Z,_,Z,?_⟩;by_cases h1:i=1
    rotate_left
    .rw[ba (λz=>h1 (by have:=V.int.inj z;lia))];exact bo ⟨_,_,Z,Ec,(λc o h1 h2 e=> .inl (Jv c o h1 h2 e)),λ_=>⟨Jv,SN⟩⟩
    subst h1;rw[aS (show V.int (0+((1:Nat):Int))=V.int 1 from Z)];obtain⟨ty,b,hty,hk,hb⟩:=jan (K:=K) (Ys.same Jv.h);refine a9 ⟨_,Z,td,_,1,_,Z,Z,bc.of SN,Z,_,_,ty,b,Z,hty,hk,_,Z,?_⟩
    cases b with
    |false=>exact bo ⟨_,_,Z,Ec,(λc o h1 h2 e=> .inl (Jv c o h1 h2 e)),λz=>absurd z (by decide)⟩
    |true=>
    refine a9 ?_;obtain⟨a,xs,ds,er,SJ,rfl,Hh⟩:=hb rfl
    obtain⟨ea0,alq⟩:i_ A H a=some (.lst xs)/\bj (i_ A H) xs ds:=by
     rw[er] at Ys
     cases Ys with
     |lst e h=>
      have:=Jv.h _ _ e;rw[SJ] at this;cases this;exact⟨e,h⟩
    have hfb:=rl a xs er ea0;obtain⟨d2,h2,ok2,sz2⟩:=gW.fb 40 80 v (.ref a) (by rw[<-(Dp.same s0' 40 v Rl).2];exact hfb);rw[er] at Ys;obtain rfl:d2= .list ds:=b8.fn Ys h2;rw[er] at SN e6
    have xl:xs.length<=1000:=by
     have h1:=bX Hh;have h3:=vM ds;rw[eK] at sz2
     lia
    refine⟨_,Z,td,_,1,_,Z,Z,bc.of SN,Z,JD SJ,a,xs,_,Z,Z,SJ,iX xl (by decide),?_⟩;have ka:∀c o,c≠a->H6 c=some o->upd H6 a (.lst (xs++[V.str "more"])) c=some o:=λc o hc e=>by rw[az hc];exact e
    have e7:upd H6 a (.lst (xs++[V.str "more"])) a=some (.lst (xs++[V.str "more"])):=af;have da7:=bj.apart SJ Hh ka Hh (by lia);have et7:=ka _ _ (dB e6 SJ (λz=>nomatch z)) e6;have ed7:=ka _ _ (dB SN SJ (λz=>nomatch z)) SN;have Y8:oY A (upd H6 a (.lst (xs++[V.str "more"]))):=⟨Ec.ne,Ec.p.Sf ka SJ,Ec.i.Sf ka SJ⟩;generalize upd H6 a (.lst (xs++[V.str "more"]))=H7 at ka e7 da7 et7 ed7 Y8 ⊢
    have F:(PyData.tuple [.str r.tag,.list (ds++[.str "more"])]).showable=true/\(PyData.tuple [.str r.tag,.list (ds++[.str "more"])]).depth<=90/\(PyData.tuple [.str r.tag,.list (ds++[.str "more"])]).shown.length<=sizeLine:=by
     refine IL (k:=81) (m:=1010) ?_ ?_ (by decide) (by decide)
     .have n1:=Bx (Aq r);have n2:=EL (Aq r)
      have h1:mC 80 (.str r.tag)=true:=by
       show(decide (r.tag.length<=10)&&PyData.strOk r.tag)=true;rw[n2,aS (show r.tag.length<=10 by lia)];rfl
      have h3:mC 80 (.list (ds++[.str "more"]))=true:=by
       show(ds++[PyData.str "more"]).all (mC 79)=true;rw[List.all_append,show ds.all (mC 79)=true from ok2];decide+kernel
      show([PyData.str r.tag,.list (ds++[.str "more"])].all (mC 80))=true;rw[fj,fj,h1,h3];rfl
     .rw[eK] at sz2;rw[eK,eX,eX,eX,eK,eK,ib,eX,eX,eK]
      lia
    have dT7:∀c,H7 c=some (.tup [.str r.tag,.ref a])->b8 H7 (.ref c) (.tuple [.str r.tag,.list (ds++[.str "more"])]):=λc e=> .tup e (.cons (.str _) (.cons (.lst e7 (iC da7 (.cons (.str _) .nil))) .nil));refine⟨_,Z,_,_,Z,dT7 _ et7,F.1,F.2.1,F.2.2,_,Z,_,_,Z,dT7 _ ed7,F.1,F.2.1,F.2.2,Z,_,Z,PD ⟨_,_,Z,Y8,(λc o h1 h2 e=> ?_),λz=>absurd z (by decide)⟩⟩;by_cases z:c=a
    .subst z;refine .inr ⟨hfb,xs,?_⟩;have:=(v_ ea0).2.2;rw[e] at this;exact fW this
    .exact .inl (ka _ _ z (Jv _ _ h1 h2 e))
   .rintro σ H' ⟨x3,x4,rfl,tab,rt,_⟩
    exact q H' rt tab
 .obtain⟨v,rfl,_⟩:=h;rfl
theorem eZ{G H:Hp}{c:S'}{o:HO}(h:bA G H c=some o):H c=some o/\∀xs,o= .lst xs->G c=none:=by
 unfold bA at h
 cases e1:H c with
 |none=>rw[e1] at h;cases h
 |some o' =>
  rw[e1] at h
  cases o' with
  |lst ys=>
   cases e2:G c with
   |none=>rw[e2] at h;exact⟨h,λ_ _=>rfl⟩
   |some _=>rw[e2] at h;cases h
  |_=>
   refine⟨h,λxs z=> ?_⟩;cases h;cases z
theorem cM{G H:Hp}{c:S'}{o:HO}(e:H c=some o)(h:∀xs,o= .lst xs->G c=none):bA G H c=some o:=by
 unfold bA;rw[e]
 cases o with
 |lst ys=>rw[h ys Z]
 |_=>rfl
theorem wk{G H:Hp}:ah (bA G H) H:=λc o e=>(eZ e).1
theorem rQ{G H H' :Hp}(k:∀c o,H c=some o->(∀xs,o= .lst xs->G c=none)->H' c=some o):ah (bA G H) (bA G H'):=λc o e=>cM (k _ _ (eZ e).1 (eZ e).2) (eZ e).2
theorem bh{G H H' :Hp}(s:ah H H'):ah (bA G H) (bA G H'):=rQ λc o e _=>s _ _ e
theorem DG{G G' H:Hp}(s:∀c,G' c=none->G c=none):ah (bA G' H) (bA G H):=λc o e=>cM (eZ e).1 λxs z=>s c ((eZ e).2 xs z)
theorem gk{G H H' :Hp}{b:S'}{k:Nat}(B:dg H b k)(g:G b≠none)(kp:Kept b H H'):ah (bA G H) (bA G H'):=rQ λc o e h=>kp _ _ (λz=>by
 obtain⟨x,y,zz,hb,_⟩:=B;rw[z,hb] at e;cases e;exact g (z▸h _ Z)) e
def Fr(G H:Hp):Prop:=∀c,H c=none->G c=none
theorem Fr.same{G H H' :Hp}(f:Fr G H)(s:ah H H'):Fr G H' :=λc h=>f c (s.free h)
structure kC(G:Hp)(t:TE)(σ:L2.St)(H:Hp)(d:U'):Prop where
 h:∀H1,ah H H1->∀Q:VK,(∀v H2,ah H1 H2->b8 (bA G H2) v d->Q v H2)->t σ H1 Q
structure HH(G:Hp)(t:TA)(σ:L2.St)(H:Hp)(ds:List U'):Prop where
 h:∀H1,ah H H1->∀Q:ak->Hp->Prop,(∀vs H2,ah H1 H2->bj (bA G H2) vs ds->Q vs H2)->t σ H1 Q
section
variable{G H:Hp}{σ:L2.St}{te ta tb:TE}{tr:TA}{d:U'}{ds es:List U'}{K:Frag}
theorem iV:kC G (tC .bp) σ H .none:=⟨λH1 s Q h=>h _ _ (ah.refl _) .bp⟩
theorem P4{b:Bool}:kC G (tC (.bl b)) σ H (.bool b):=⟨λH1 s Q h=>h _ _ (ah.refl _) (.bl b)⟩
theorem fX{i:Int}:kC G (tC (.int i)) σ H (.int i):=⟨λH1 s Q h=>h _ _ (ah.refl _) (.int i)⟩
theorem eT{x:Str}:kC G (tC (.str x)) σ H (.str x):=⟨λH1 s Q h=>h _ _ (ah.refl _) (.str x)⟩
theorem Nz{i:Int}:kC G (tUn (rU λi=> .int (-i)) (tC (.int i))) σ H (.int (-i)):=⟨λH1 s Q h=>⟨i,Z,h _ _ (ah.refl _) (.int _)⟩⟩
theorem cE{i:Nat}{v:V}(hi:σ[i]? =some (some v))(hd:b8 (bA G H) v d):kC G (AA i) σ H d:=⟨λH1 s Q h=>⟨v,hi,h _ _ (ah.refl _) (hd.same (bh s))⟩⟩
theorem qf:kC G MJ σ H (.dict []):=⟨λH1 s Q h p hp=>h _ _ (ah.upd hp) (.Co (cM af (λ_ z=>nomatch z)) Z .nil)⟩
theorem c_:HH G sH σ H []:=⟨λH1 s Q h=>h _ _ (ah.refl _) .nil⟩
theorem aW(h:kC G te σ H d)(t:HH G tr σ H ds):HH G (tG te tr) σ H (d::ds):=⟨λH1 s Q q=>h.h H1 s _ λv H2 s2 e=>t.h H2 (s.trans s2) _ λvs H3 s3 es=>q _ _ (s2.trans s3) (.cons (e.same (bh s3)) es)⟩
theorem kE(h:HH G tr σ H ds)(hl:Nat.ble ds.length 1000=true:=by rfl):kC G (KP tr) σ H (.tuple ds):=⟨λH1 s Q q=>h.h H1 s _ λvs H2 s2 es=>⟨by rw[bX es];exact aU (oB hl) (by decide),λp hp=>q _ _ (s2.trans (ah.upd hp)) (.tup (cM af (λ_ z=>nomatch z)) (es.same (bh (ah.upd hp))))⟩⟩
theorem lj(f:Fr G H)(h:HH G tr σ H ds)(hl:Nat.ble ds.length 1000=true:=by rfl):kC G (Ga tr) σ H (.list ds):=⟨λH1 s Q q=>h.h H1 s _ λvs H2 s2 es=>⟨by rw[bX es];exact aU (oB hl) (by decide),λp hp=>q _ _ (s2.trans (ah.upd hp)) (.lst (cM af (λ_ _=>f p ((s.trans s2).free hp))) (es.same (bh (ah.upd hp))))⟩⟩
theorem kH{v:V}(h:b8 (bA G H) v (.list ds)):∃a xs,v= .ref a/\H a=some (.lst xs)/\bj (bA G H) xs ds:=by
 cases h with
 |lst e h=>exact⟨_,_,Z,(eZ e).1,h⟩
theorem Uo(f:Fr G H)(ha:kC G ta σ H (.list ds))(hb:kC G tb σ H (.list es))(hl:ds.length+es.length<=1000):kC G (wN QQ ta tb) σ H (.list (ds++es)):=⟨λH1 s Q q=>ha.h H1 s _ λv H2 s2 e=>hb.h H2 (s.trans s2) _ λu H3 s3 e' =>by
 obtain⟨a,xs,rfl,ea,hx⟩:=kH (e.same (bh s3));obtain⟨b,ys,rfl,eb,hy⟩:=kH e';exact⟨a,b,xs,ys,Z,Z,ea,eb,by rw[bX hx,bX hy];exact aU hl (by decide),λp hp=>q _ _ ((s2.trans s3).trans (ah.upd hp)) (.lst (cM af (λ_ _=>f p (((s.trans s2).trans s3).free hp))) ((iC hx hy).same (bh (ah.upd hp))))⟩⟩
theorem C3{H:Hp}{xs:ak}{ds:List U'}(h:bj H xs ds):∀n:Nat,bj H (List.replicate n xs).flatten (List.replicate n ds).flatten
 |0=> .nil
 |n+1=>by
  rw[pM,pM,rH,rH];exact iC h (C3 h n)
theorem abp{n:Nat}(f:Fr G H)(ha:kC G ta σ H (.list ds))(hl:n*ds.length<=1000)(hn:n<=1000):kC G (wN Wm ta (tC (.int (n:Int)))) σ H (.list (List.replicate n ds).flatten):=⟨λH1 s Q q=>ha.h H1 s _ λv H2 s2 e=>by
 obtain⟨a,xs,rfl,ea,hx⟩:=kH e;exact⟨a,n,xs,Z,Z,ea,by lia,by lia,by rw[bX hx,ny,Nat.mul_comm];exact aU hl (by decide),λp hp=>q _ _ (s2.trans (ah.upd hp)) (.lst (cM af (λ_ _=>f p ((s.trans s2).free hp))) ((C3 hx n).same (bh (ah.upd hp))))⟩⟩
theorem uA{H:Hp}{xs:ak}{ds:List U'}(h:bj H xs ds):∀n:Nat,bj H (xs.take n) (ds.take n):=by
 induction xs generalizing ds with
 |nil=>cases h;intro n;rw[zQ,zQ];exact .nil
 |cons y r ih=>
  cases h with
  |cons a b=>
   intro n
   cases n with
   |zero=>exact .nil
   |succ n=>exact .cons a (ih b n)
theorem HE{H:Hp}{xs:ak}{ds:List U'}(h:bj H xs ds):∀n:Nat,bj H (xs.drop n) (ds.drop n):=by
 induction xs generalizing ds with
 |nil=>cases h;intro n;rw[List.drop_nil,List.drop_nil];exact .nil
 |cons y r ih=>
  cases h with
  |cons a b=>
   intro n
   cases n with
   |zero=>exact .cons a b
   |succ n=>exact ih b n
theorem GN(xs:ak)(n:Nat):cZ xs none (some (n:Int))=xs.take n:=by
 unfold cZ;rw[HT.qi,HT.h9,List.drop_zero,zc];by_cases h:n<=xs.length
 .rw[Eo h]
 .rw[Nat.min_eq_right (by lia),oV (aK _),oV (by lia)]
theorem aee{n:Nat}(f:Fr G H)(ha:kC G ta σ H (.list ds)):kC G (RD (Ww K) ta rV (CS (tC (.int (n:Int))))) σ H (.list (ds.take n)):=⟨λH1 s Q q=>ha.h H1 s _ λv H2 s2 e=>by
 obtain⟨a,xs,rfl,ea,hx⟩:=kH e;refine⟨_,Z,a,xs,Z,cF.of ea,λp hp=> ?_⟩;rw[GN];exact q _ _ (s2.trans (ah.upd hp)) (.lst (cM af (λ_ _=>f p ((s.trans s2).free hp))) ((uA hx n).same (bh (ah.upd hp))))⟩
end
theorem w6{K:Frag}{G H:Hp}{v:V}{ds:List U'}{i:Int}{Q:VK}(h:b8 (bA G H) v (.list ds))(h0:0<=i)(h1:i<ds.length)(q:∀u d,d∈ds->b8 (bA G H) u d->Q u H):PY K v (.int i) H Q:=by
 obtain⟨a,xs,rfl,ea,hx⟩:=kH h;refine gR (λu=>∃d∈ds,b8 (bA G H) u d) ea h0 (by rw[bX hx];exact h1) (kX hx) (by rintro u ⟨d,hd,e⟩;exact q u d hd e)
section
variable{G H:Hp}{σ:L2.St}{te ta tb th tl:TE}{tr:TA}{d:U'}{ds es:List U'}{K:Frag}
theorem BH{v:V}(h:b8 (bA G H) v (.tuple ds)):∃a xs,v= .ref a/\H a=some (.tup xs)/\bj (bA G H) xs ds:=by
 cases h with
 |tup e h=>exact⟨_,_,Z,(eZ e).1,h⟩
theorem uf(ha:kC G ta σ H (.tuple ds))(hb:kC G tb σ H (.tuple es))(hn:ds≠[])(hl:ds.length+es.length<=1000):kC G (wN (Sb K) ta tb) σ H (.tuple (ds++es)):=⟨λH1 s Q q=>ha.h H1 s _ λv H2 s2 e=>hb.h H2 (s.trans s2) _ λu H3 s3 e' =>by
 obtain⟨a,xs,rfl,ea,hx⟩:=BH (e.same (bh s3));obtain⟨b,ys,rfl,eb,hy⟩:=BH e';have lx:=bX hx;have ly:=bX hy;refine⟨a,b,xs,ys,Z,Z,bc.of ea,bc.of eb,(λz=>hn ?_),by rw[lx,ly];exact aU hl (by decide),(λz=> ?_),λ_ p hp=>q _ _ ((s2.trans s3).trans (ah.upd hp)) (.tup (cM af (λ_ z=>nomatch z)) ((iC hx hy).same (bh (ah.upd hp))))⟩
 .rw[z] at lx;exact qx lx.symm
 .subst z;cases hy;rw[fJ] at q;exact q _ _ (s2.trans s3) (.tup (cM ea (λ_ z=>nomatch z)) hx)⟩
theorem N0{n:Nat}(ha:kC G ta σ H (.tuple ds))(hn:n<ds.length)(ht:∀(H:Hp) (Q:VK),Q (.int (n:Int)) H->th σ H Q):kC G (RD (QP K) ta rV (CS th)) σ H (.tuple (ds.take n)):=⟨λH1 s Q q=>ha.h H1 s _ λv H2 s2 e=>by
 obtain⟨a,xs,rfl,ea,hx⟩:=BH e;have lx:=bX hx;refine ht _ _ ⟨_,Z,a,xs,Z,bc.of ea,?_,λp hp=> ?_⟩
 .rintro ⟨_,z⟩
  rw[HT.h9] at z
  lia
 .rw[GN];exact q _ _ (s2.trans (ah.upd hp)) (.tup (cM af (λ_ z=>nomatch z)) ((uA hx n).same (bh (ah.upd hp))))⟩
theorem An{n:Nat}(ha:kC G ta σ H (.tuple ds))(hn:1<=n)(hd:1<=ds.length)(ht:∀(H:Hp) (Q:VK),Q (.int (n:Int)) H->tl σ H Q):kC G (RD (QP K) ta (CS tl) rV) σ H (.tuple (ds.drop n)):=⟨λH1 s Q q=>ha.h H1 s _ λv H2 s2 e=>by
 obtain⟨a,xs,rfl,ea,hx⟩:=BH e;have lx:=bX hx;refine ht _ _ ⟨_,Z,a,xs,Z,bc.of ea,?_,λp hp=> ?_⟩
 .rintro ⟨z,_⟩
  rw[HT.h9] at z
  lia
 .rw[lG];exact q _ _ (s2.trans (ah.upd hp)) (.tup (cM af (λ_ z=>nomatch z)) ((HE hx n).same (bh (ah.upd hp))))⟩
end
theorem OP:∀(ds:List U') (n:Nat),eX (ds.take n)+eX (ds.drop n)=eX ds:=λds n=>by rw[<-ib,jC]
theorem XX{n:Nat}(h:0<n):HT.gH n n (some (-1))=n - 1:=by
 show(if(-1:Int)<0 then((-1:Int)+(n:Int)).toNat else min (-1:Int).toNat n)=_;rw[aB (by decide)]
 lia
theorem Di{H:Hp}:∀{xs:ak} {ds:List U'} {i:Nat} {u:V},bj H xs ds->xs[i]? =some u->∃d,ds[i]? =some d/\b8 H u d
 |_,_,0,_,.cons a b,e=>by cases e;exact⟨_,Z,a⟩
 |_,_,i+1,_,.cons a b,e=>Di (i:=i) b e
theorem Ub:∀{ds:List U'} {i:Nat} {d:U'},ds[i]? =some d->eX (ds.take i)+eK d+eX (ds.drop (i+1))=eX ds
 |e::r,0,d,h=>by
  cases h;show eX []+eK e+eX r=eX (e::r);rw[eX,eX]
  lia
 |e::r,i+1,d,h=>by
  have:=Ub (ds:=r) (i:=i) h;show eX (e::r.take i)+eK d+eX (r.drop (i+1))=eX (e::r);rw[eX,eX]
  lia
section
variable{G H:Hp}{σ:L2.St}{ta:TE}{ds:List U'}{K:Frag}
theorem Nl(ha:kC G ta σ H (.tuple ds))(hd:1<=ds.length):kC G (RD (QP K) ta rV (CS (tUn (rU λi=> .int (-i)) (tC (.int 1))))) σ H (.tuple (ds.take (ds.length - 1))):=⟨λH1 s Q q=>ha.h H1 s _ λv H2 s2 e=>by
 obtain⟨a,xs,rfl,ea,hx⟩:=BH e;have lx:=bX hx;have e1:=XX (n:=xs.length) (by lia);refine⟨1,Z,_,Z,a,xs,Z,bc.of ea,?_,λp hp=> ?_⟩
 .rintro ⟨_,z⟩
  rw[e1] at z
  lia
 .have:cZ xs none (some (-1))=xs.take (ds.length - 1):=by
   unfold cZ;rw[HT.qi,e1,List.drop_zero,zc,lx]
  rw[this];exact q _ _ (s2.trans (ah.upd hp)) (.tup (cM af (λ_ z=>nomatch z)) ((uA hx _).same (bh (ah.upd hp))))⟩
theorem Xs{n:Nat}{i j:Int}(h:σ[n]? =some (some (.int i))):kC G (wN (Pb λi j=> .int (i+j)) (AA n) (tC (.int j))) σ H (.int (i+j)):=⟨λH1 s Q q=>⟨_,h,i,j,Z,Z,q _ _ (ah.refl _) (.int _)⟩⟩
theorem Xl{n:Nat}{i j:Int}(h:σ[n]? =some (some (.int i))):kC G (wN (Pb λi j=> .int (i - j)) (AA n) (tC (.int j))) σ H (.int (i - j)):=⟨λH1 s Q q=>⟨_,h,i,j,Z,Z,q _ _ (ah.refl _) (.int _)⟩⟩
theorem Za{n:Nat}{i j:Int}(h:σ[n]? =some (some (.int i))):kC G (wN rEq (AA n) (tC (.int j))) σ H (.bool (decide (V.int i=V.int j))):=⟨λH1 s Q q=>⟨_,h,Z,q _ _ (ah.refl _) (.bl _)⟩⟩
theorem NY{i j:Int}(h:OG i j):kC G (wN (rI OG λi j=> .int (i ^ j.toNat)) (tC (.int i)) (tC (.int j))) σ H (.int (i ^ j.toNat)):=⟨λH1 s Q q=>⟨i,j,Z,Z,h,q _ _ (ah.refl _) (.int _)⟩⟩
end
theorem tY{te:TE}{g:TG}{D:Ends}{σ:L2.St}{H:Hp}(h:te σ H λx H1=>g x σ H1 D.nx):Gr te g D σ H:=h
theorem IB{r:R2}{ta tb:TE}{σ:L2.St}{H:Hp}{Q:VK}(h:ta σ H λx H1=>tb σ H1 λy H2=>r x y H2 Q):wN r ta tb σ H Q:=h
theorem C4{te:TE}{D:Ends}{σ:L2.St}{H:Hp}(h:te σ H D.rt):Wf te D σ H:=h
theorem zY{i:Nat}{v:V}{σ:L2.St}{H:Hp}{Q:L2.St->Hp->Prop}(h:Q (σ.set i (some v)) H):vJ i v σ H Q:=h
theorem xZ{a b:TS}{D:Ends}{σ:L2.St}{H:Hp}(h:a {D with nx:=b D} σ H):Gu a b D σ H:=h
theorem yB{G H:Hp}{tr:TA}{σ:L2.St}{d:U'}{Q:VK}(h:kC G (Ga tr) σ H d)(q:∀v H2,ah H H2->b8 (bA G H2) v d->Q v H2):Ga tr σ H Q:=h.h H (ah.refl H) Q q
theorem Fx{G H:Hp}{r:R2}{ta tb:TE}{σ:L2.St}{d:U'}{Q:VK}(h:kC G (wN r ta tb) σ H d)(q:∀v H2,ah H H2->b8 (bA G H2) v d->Q v H2):wN r ta tb σ H Q:=h.h H (ah.refl H) Q q
theorem jao{X:Prop}{M F:V->Hp->Prop}(h:(∀v h,F v h->M v h)->X)(k:∀v h,F v h->M v h):X:=h k
noncomputable def abE:List U':=[.none,.bool true,.bool false,.int (-1),.int 7,.int ((10:Int) ^ (29:Int).toNat),.str "",.str "A",.str "abcdefg",.str "ground",.str "a b",.tuple [.str "a"],.list [],.tuple [],.str "f",.dict []]
noncomputable def U6:List U':=[.str "make",.str "put",.str "get",.str "set",.str "copy",.str "more",.str "tell",.str "same",.str "frame",.str "turns",.str "Make"]
noncomputable def UK:List U':=[.none,.int 7,.str "tell",.list [],.tuple [],.dict [],.bool true,.tuple [.str "nothing",.str "a"],.tuple [.int 7,.str "a"],.tuple [.none],.tuple [.list [],.str "a"],.tuple [.dict []]]
def Xr:Sp:=λvs H Q _=>∃(G:Hp) (b t:S') (x:V) (xs:ak) (ds:List U') (k k0:Nat),vs=[.ref b,.ref t]/\dg H b k/\k+20<=100000/\G b≠none/\Fr G H/\H t=some (.tup (x::xs))/\xs≠[]/\xs.length<=4/\bj (bA G H) (x::xs) ds/\3<=k0/\(∀d∈ds,mC k0 d=true)/\
 ∀v d H',b8 (bA G H') v d->mC (k0+1) d=true->eK d<=eX ds+8->dg H' b (k+20)->Kept b H H'->Q v H'
theorem Er(T:Txt K mg A):aT P w K mg base dO 2 A.xD A.yz ["_law_box_here","_law_deed"] Xr:=by
 refine T.yv.F.okN dq ?_
 rintro cB Ar outer s H vs Q E hr ⟨G,b,t,x,xs,ds,k,k0,rfl,B,hk,gb,fr,ht,wQ,hl,Hh,h3,bS,q⟩
 refine⟨_,(aD (bN (i:=2) dq.nd Z (Or.inl Z) (lI (aE T) hr T.aF aC (λ_ _=>rfl) (λ_ _=>rfl) (aa (λ_ _=>rfl) ⟨(pv 0)⟩ (aa (λ_ _=>rfl) ⟨ae⟩ ao))) (by kernel_rfl) (Or.inl Z)) (aD (bN (i:=3) dq.nd Z (Or.inl Z) (bF bw ⟨ae⟩ (lI (aE T) hr T.aF aC (λ_ _=>rfl) (λ_ _=>rfl) (aa (λ_ _=>rfl) ⟨(pv 0)⟩ (aa (λ_ _=>rfl) (bF iT ⟨(iR br T.g7 Boot.«len» (aM (pv 1)))⟩ ⟨ae⟩) ao)))) (by kernel_rfl) (Or.inl Z)) (aD (bN (i:=4) dq.nd Z (Or.inl Z) (uq aN ⟨(pv 1)⟩ ⟨(pv 3)⟩ (λ_ _=>rfl)) (by kernel_rfl) (Or.inl Z)) (aD (bN (i:=5) dq.nd Z (Or.inl Z) ⟨(pv 4)⟩ (by kernel_rfl) (Or.inl Z)) (aD (eL (PW.pt (wT (gv (cG (lr T) hr T.jH aC (aM (pv 4)))) (xz (wn A0 (iR Li T.ZE Boot.«abs» (aM (pv 4))) (aL qm ae ae))))) (bC (bN (i:=5) dq.nd Z (Or.inl Z) (uq a8 (aI (aa (λ_ _=>rfl) (bF bw ⟨(pv 4)⟩ ⟨ae⟩) (aa (λ_ _=>rfl) (bF iT ⟨(pv 4)⟩ ⟨ae⟩) (aa (λ_ _=>rfl) ⟨(HG cK (pv 4) ae)⟩ (aa (λ_ _=>rfl) ⟨ae⟩ (aa (λ_ _=>rfl) ⟨ae⟩ (aa (λ_ _=>rfl) ⟨ae⟩ (aa (λ_ _=>rfl) ⟨ae⟩ (aa (λ_ _=>rfl) ⟨ae⟩ ao))))))))) (lI (aE T) hr T.aF aC (λ_ _=>rfl) (λ_ _=>rfl) (aa (λ_ _=>rfl) ⟨(pv 0)⟩ (aa (λ_ _=>rfl) ⟨ae⟩ ao))) (λ_ _=>rfl)) (by kernel_rfl) (Or.inl Z))) cf) (aD (bN (i:=6) dq.nd Z (Or.inl Z) (aI (aa (λ_ _=>rfl) ⟨eh⟩ (aa (λ_ _=>rfl) ⟨ky⟩ (aa (λ_ _=>rfl) ⟨ky⟩ (aa (λ_ _=>rfl) ⟨(NX HX ae)⟩ (aa (λ_ _=>rfl) ⟨ae⟩ (aa (λ_ _=>rfl) (bF qm ⟨ae⟩ ⟨ae⟩) (aa (λ_ _=>rfl) ⟨ai⟩ (aa (λ_ _=>rfl) ⟨ai⟩ (aa (λ_ _=>rfl) ⟨ai⟩ (aa (λ_ _=>rfl) ⟨ai⟩ (aa (λ_ _=>rfl) ⟨ai⟩ (aa (λ_ _=>rfl) (aR (aa (λ_ _=>rfl) ⟨ai⟩ ao)) (aa (λ_ _=>rfl) (aI ao) (aa (λ_ _=>rfl) (aR ao) (aa (λ_ _=>rfl) ⟨ai⟩ (aa (λ_ _=>rfl) ⟨rq⟩ ao))))))))))))))))) (by kernel_rfl) (Or.inl Z)) (aD (bN (i:=7) dq.nd Z (Or.inl Z) (uq a8 ⟨(pv 6)⟩ (lI (aE T) hr T.aF aC (λ_ _=>rfl) (λ_ _=>rfl) (aa (λ_ _=>rfl) ⟨(pv 0)⟩ (aa (λ_ _=>rfl) ⟨ae⟩ ao))) (λ_ _=>rfl)) (by kernel_rfl) (Or.inl Z)) (aD (bN (i:=8) dq.nd Z (Or.inl Z) (uq a8 (aI (aa (λ_ _=>rfl) ⟨ai⟩ (aa (λ_ _=>rfl) ⟨ai⟩ (aa (λ_ _=>rfl) ⟨ai⟩ (aa (λ_ _=>rfl) ⟨ai⟩ (aa (λ_ _=>rfl) ⟨ai⟩ (aa (λ_ _=>rfl) ⟨ai⟩ (aa (λ_ _=>rfl) ⟨ai⟩ (aa (λ_ _=>rfl) ⟨ai⟩ (aa (λ_ _=>rfl) ⟨ai⟩ (aa (λ_ _=>rfl) ⟨ai⟩ (aa (λ_ _=>rfl) ⟨ai⟩ ao)))))))))))) (lI (aE T) hr T.aF aC (λ_ _=>rfl) (λ_ _=>rfl) (aa (λ_ _=>rfl) ⟨(pv 0)⟩ (aa (λ_ _=>rfl) ⟨ae⟩ ao))) (λ_ _=>rfl)) (by kernel_rfl) (Or.inl Z)) (aD (eL (wn cK (pv 2) ae) (aD (bN (i:=9) dq.nd Z (Or.inl Z) (aI (aa (λ_ _=>rfl) ⟨eh⟩ (aa (λ_ _=>rfl) ⟨ae⟩ (aa (λ_ _=>rfl) ⟨ai⟩ (aa (λ_ _=>rfl) (aI ao) (aa (λ_ _=>rfl) (aR ao) (aa (λ_ _=>rfl) ⟨rq⟩ (aa (λ_ _=>rfl) ⟨ky⟩ (aa (λ_ _=>rfl) (aR (aa (λ_ _=>rfl) ⟨ai⟩ (aa (λ_ _=>rfl) ⟨ai⟩ ao))) (aa (λ_ _=>rfl) (aR (aa (λ_ _=>rfl) ⟨ae⟩ (aa (λ_ _=>rfl) ⟨ai⟩ ao))) (aa (λ_ _=>rfl) (aR (aa (λ_ _=>rfl) ⟨eh⟩ ao)) (aa (λ_ _=>rfl) (aR (aa (λ_ _=>rfl) (aI ao) (aa (λ_ _=>rfl) ⟨ai⟩ ao))) (aa (λ_ _=>rfl) (aR (aa (λ_ _=>rfl) ⟨rq⟩ ao)) ao))))))))))))) (by kernel_rfl) (Or.inl Z)) (bC (jJ (uq a8 (bF fH ⟨(pv 9)⟩ (aI (aa (λ_ _=>rfl) (aR (aa (λ_ _=>rfl) (aR (aa (λ_ _=>rfl) ⟨ai⟩ (aa (λ_ _=>rfl) ⟨ai⟩ ao))) ao)) ao))) (lI (aE T) hr T.aF aC (λ_ _=>rfl) (λ_ _=>rfl) (aa (λ_ _=>rfl) ⟨(pv 0)⟩ (aa (λ_ _=>rfl) ⟨ae⟩ ao))) (λ_ _=>rfl))))) cf) (aD (eL (wn cK (pv 2) ae) (bC (jJ ⟨(NA Fd T.AI Boot.«list» (aM (pv 1)))⟩)) cf) (aD (eL (wn cK (pv 2) ae) (bC (jJ (uq a8 (aI (aa (λ_ _=>rfl) (jB iu ⟨(pv 1)⟩ bW (bQ (NX HX ae))) (aa (λ_ _=>rfl) (bF jI ⟨(pv 1)⟩ (aR (aa (λ_ _=>rfl) ⟨eh⟩ ao))) (aa (λ_ _=>rfl) (bF jI ⟨(pv 1)⟩ (aR (aa (λ_ _=>rfl) ⟨ai⟩ ao))) ao)))) (lI (aE T) hr T.aF aC (λ_ _=>rfl) (λ_ _=>rfl) (aa (λ_ _=>rfl) ⟨(pv 0)⟩ (aa (λ_ _=>rfl) ⟨ae⟩ ao))) (λ_ _=>rfl)))) cf) (aD (eL (wn cK (pv 2) ae) (bC (jJ (bF jI (aR (aa (λ_ _=>rfl) ⟨(pv 8)⟩ ao)) (jB iu ⟨(pv 1)⟩ (bQ ae) bW)))) cf) (aD (eL (wn A0 (pv 2) ae) (bC (jJ (bF jI (bF jI (jB iu ⟨(pv 1)⟩ bW (bQ (pv 3))) (aR (aa (λ_ _=>rfl) ⟨(pv 5)⟩ ao))) (jB iu ⟨(pv 1)⟩ (bQ (aL bw (pv 3) ae)) bW)))) cf) (bC (jJ (bF jI (bF jI (jB iu ⟨(pv 1)⟩ bW (bQ (pv 3))) (aR (aa (λ_ _=>rfl) ⟨(pv 7)⟩ ao))) (jB iu ⟨(pv 1)⟩ (bQ (aL bw (pv 3) ae)) bW))))))))))))))))),?_⟩;have ZJ:b8 (bA G H) (.ref t) (.tuple ds):= .tup (cM ht (λ_ z=>nomatch z)) Hh;have dl:=bX Hh;have Ey:=EX.mpr wQ;rw[bB] at dl;have W0:Sw b H k H:=⟨B,Kept.refl _ _⟩;have dat:∀{H' :Hp} {k' :Nat} {v:V} {d:U'},Sw b H k' H'->b8 (bA G H) v d->b8 (bA G H') v d:=λW h=>h.same (gk B gb W.kp)
 have Oe :∀{H' :Hp} {k' :Nat},Sw b H k' H'->Fr G H' :=λ{H' k'} W c hc=>fr c (by
  cases e:H c with
  |none=>rfl
  |some o=>rw[W.kp _ o (W.box.ne hc) e] at hc;cases hc)
 refine⟨_,Z,b,9,k,Z,B,by lia,by decide,by decide,λmode H1 m0 m1 B1 O1=> ?_⟩;have W1:=W0.take B1 O1;have tup:∀{H' :Hp} {k' :Nat},Sw b H k' H'->H' t=some (.tup (x::xs)):=λW=>W.kp _ _ (λz=>by obtain⟨_,_,_,hb,_⟩:=B;rw[<-z,ht] at hb;cases hb) ht;refine⟨_,Z,_,Z,t,_,Z,.inr (bc.of (tup W1)),_,_,Z,Z,b,_,k+1,Z,B1,by lia,?_,?_,λr2 H2 p0 p1 B2 O2=> ?_⟩
 .rw[bB];lia
 .rw[bB];lia
 have W2:=W1.take B2 O2;obtain⟨j,rfl⟩:∃j:Nat,r2=j:=⟨r2.toNat,by lia⟩;have hj:j<xs.length:=by rw[bB] at p1;lia
 refine⟨1,(j:Int),Z,Z,?_⟩;obtain⟨u,eu⟩:∃u,(x::xs)[1+j]? =some u:=⟨xs[j],by rw[Nat.add_comm];simp[hj]⟩;obtain⟨du,edu,hu⟩:=Di Hh eu;have zu:=Ub edu;have oku:=bS du (bE edu);have hu2:=dat W2 hu;obtain⟨thu,shu⟩:=(show Sm (bA G H2) k0 (eK du) u from⟨du,hu2,oku,aK _⟩).th;have wR:Th H2 u:=thu.same wk;refine⟨_,Z,_,Z,t,_,_,u,Z,Z,bc.of (tup W2),(show OS (x::xs) (1+(j:Int))=some u by rw[show(1:Int)+(j:Int)=((1+j:Nat):Int) by lia];exact bb eu),_,Z,?_⟩;have fin:∀(v:V) (d:U') (H' :Hp) (k' :Nat),Sw b H k' H'->k'<=k+20->b8 (bA G H') v d->mC (k0+1) d=true->eK d<=eX ds+8->Q v H' :=λv d H' k' W Vt e1 e2 e3=>q v d H' e1 e2 e3 (W.box.mono Vt) W.kp;apply jao (F:=λv h=>∃dn k',Sw b H k' h/\k'<=k+3/\b8 (bA G h) v dn/\mC k0 dn=true/\eK dn<=eK du)
 .intro hM;refine⟨_,Z,u,Z,wR,_,Z,?_⟩;by_cases hn:∃i,u= .int i
  .obtain⟨i,hi⟩:=hn;have hv:some (some u)=some (some (V.int i)):=by rw[hi]
   rw[show Ap u=true by rw[hi];rfl];refine a9 ⟨_,Z,i,(by rw[hi]),10,29,Z,Z,⟨by decide,by decide,by decide⟩,_,_,Z,Z,_,Z,?_⟩;by_cases hb:(if i<0 then -i else i)<(10:Int) ^ (29:Int).toNat
   .rw[aS hb];have e29:(10:Int) ^ (29:Int).toNat=100000000000000000000000000000:=by decide+kernel
    rw[e29] at hb;have uP:i.natAbs<100000000000000000000000000000:=by split at hb<;>lia
    refine a9 (tY (IB (yB (lj (G:=G) (Oe W2) (aW (Xs (i:=i) hv) (aW (Xl (i:=i) hv) (aW (Za (i:=i) hv) (aW fX (aW fX (aW fX (aW fX (aW fX c_))))))))) λv3 H3 s3 d3=> ?_)));have W3:=W2.same s3;refine⟨_,Z,b,8,_,Z,W3.box,by lia,by decide,by decide,λr4 H4 a0 a1 B4 O4=>w6 (d3.same (gk W3.box gb O4.kept)) a0 a1 λnv dn Vy en=> ?_⟩;refine hM nv H4 ⟨dn,_,W3.take B4 O4,aK _,en,?_⟩;have h40:(100000000000000000000000000010:Nat)<=10 ^ 40:=by decide+kernel
    have ki:∀z:Int,z.natAbs<100000000000000000000000000010->mC k0 (.int z)=true/\eK (.int z)<=eK du:=λz hz=>⟨nB (k:=1) (aS (show z.natAbs<10 ^ 40 by lia)) (by lia),by rw[eK];exact vc du⟩;simp only[aP,cO,cR] at Vy;rcases Vy with rfl|rfl|rfl|rfl|rfl|rfl|rfl|rfl
    .exact ki _ (by lia)
    .exact ki _ (by lia)
    .exact⟨nB (k:=1) Z (by lia),by rw[eK];exact vc du⟩
    all_goals exact ki _ (by decide)
   .rw[ba hb];exact bo (hM _ H2 ⟨du,_,W2,by lia,hu2,oku,aK _⟩)
  .have:Ap u=false:=by cases u<;>first|rfl|exact absurd ⟨_,rfl⟩ hn
   rw[this];exact bo (hM _ H2 ⟨du,_,W2,by lia,hu2,oku,aK _⟩)
 .rintro nv H3 ⟨dn,k3,W3,hk3,en,okn,zn⟩
  have zf:eX (ds.take (1+j))+eX (ds.drop (1+j+1))+eK du=eX ds:=by lia
  refine zY ?_;dsimp only;refine xZ (tY (yB (G:=G) (d:= .list abE) ?_ λv6 H4 s4 d4=>zY ?_))
  .refine lj (Oe W3) ?_
   repeat (first|exact c_|refine aW ?_ ?_|exact iV|exact P4|exact fX|exact eT|exact Nz|exact qf|refine kE ?_|exact NY ⟨by decide,by decide,by decide⟩|refine lj (Oe W3) ?_)
  dsimp only;have W4:=W3.same s4;refine xZ (tY (IB ⟨_,Z,_,Z,b,16,_,Z,W4.box,by lia,by decide,by decide,λr5 H5 a0 a1 B5 O5=>w6 (d4.same (gk W4.box gb O5.kept)) a0 a1 λov od hod eo=>zY ?_⟩));have W5:=W4.take B5 O5;dsimp only;refine xZ (tY (IB (yB (G:=G) (d:= .list U6) ?_ λv8 H6 s6 d6=> ?_)))
  .refine lj (Oe W5) ?_
   repeat (first|exact c_|refine aW ?_ ?_|exact iV|exact P4|exact fX|exact eT|exact Nz|exact qf|refine kE ?_|exact NY ⟨by decide,by decide,by decide⟩|refine lj (Oe W5) ?_)
  have W6:=W5.same s6;refine⟨_,Z,b,11,_,Z,W6.box,by lia,by decide,by decide,λr7 H7 c0 c1 B7 O7=>w6 (d6.same (gk W6.box gb O7.kept)) c0 c1 λwv wd hwd ew=>zY ?_⟩;have W7:=W6.take B7 O7;have UC:=dat W7 ZJ;have en7:=((en.same (bh s4)).same (gk W4.box gb O5.kept)).same ((bh s6).trans (gk W6.box gb O7.kept));have eo7:=eo.same ((bh s6).trans (gk W6.box gb O7.kept))
  obtain⟨ok1,z1⟩:mC 3 od=true/\eK od<=2:=by
   have:=a7.mp (show abE.all (λd=>mC 3 d&&decide (eK d<=2))=true by decide+kernel) od hod;rw[cI,ie] at this;exact this
  obtain⟨ok2,z2⟩:mC 3 wd=true/\eK wd<=2:=by
   have:=a7.mp (show U6.all (λd=>mC 3 d&&decide (eK d<=2))=true by decide+kernel) wd hwd;rw[cI,ie] at this;exact this
  dsimp only;refine xZ ⟨_,Z,Z,_,Z,?_⟩;have aeL:=Hh.same (gk B gb W7.kp);have dne:ds≠[]:=λz=>by rw[z] at dl;cases dl
  have okL:∀es:List U',(∀d∈es,mC k0 d=true)->mC (k0+1) (.tuple es)=true:=λes h=>a7.mpr h;have acW :=nB ok1 h3;have afl :=nB ok2 h3;refine mG (λ_=> ?_) (λ_=> ?_)
  .refine xZ (tY (yB (G:=G) (d:= .list UK) ?_ λv9 H8 s8 d8=>zY ?_))
   .refine lj (Oe W7) ?_
    repeat (first|exact c_|refine aW ?_ ?_|exact iV|exact P4|exact fX|exact eT|exact Nz|exact qf|refine kE ?_|exact NY ⟨by decide,by decide,by decide⟩|refine lj (Oe W7) ?_)
   dsimp only;have W8:=W7.same s8;refine C4 (IB (Fx (G:=G) (Uo (Oe W8) (cE Z d8) (lj (Oe W8) (aW (kE (aW (kE (aW eT (aW eT c_))) c_)) c_)) (by decide)) λv10 H9 s9 d9=> ?_));have W9:=W8.same s9;refine⟨_,Z,b,13,_,Z,W9.box,by lia,by decide,by decide,λr HA a0 a1 BA OA=>w6 (d9.same (gk W9.box gb OA.kept)) a0 a1 λuv ud Yn euv=> ?_⟩;have:=a7.mp (show(UK++[PyData.tuple [.tuple [.str "tell",.str "a"]]]).all (λd=>mC 4 d&&decide (eK d<=8))=true by decide+kernel) ud Yn;rw[cI,ie] at this;exact fin uv ud HA _ (W9.take BA OA) (by lia) euv (nB this.1 (by lia)) (by lia)
  refine⟨_,Z,Z,_,Z,mG (λ_=> ?_) (λ_=> ?_)⟩
  .exact⟨_,Z,t,_,Z,.inr (bc.of (tup W7)),λl hl=>fin _ (.list ds) _ _ (W7.same (ah.upd hl)) (by lia) (.lst (cM af (λ_ _=>Oe W7 l hl)) (aeL.same (bh (ah.upd hl)))) (a7.mpr bS) (by rw[eK];lia)⟩
  refine⟨_,Z,Z,_,Z,mG (λ_=> ?_) (λ_=> ?_)⟩
  .refine C4 (IB (yB (G:=G) (lj (Oe W7) (aW (Nl (cE Z UC) (by lia)) (aW (uf (cE Z UC) (kE (aW iV c_)) dne (by show ds.length+1<=1000;lia)) (aW (uf (cE Z UC) (kE (aW eT c_)) dne (by show ds.length+1<=1000;lia)) c_)))) λv9 H8 s8 d8=> ?_));have W8:=W7.same s8;refine⟨_,Z,b,3,_,Z,W8.box,by lia,by decide,by decide,λr HA a0 a1 BA OA=>w6 (d8.same (gk W8.box gb OA.kept)) a0 a1 λuv ud Yn euv=> ?_⟩
   have one:∀z,mC 3 z=true->eK z=1->mC (k0+1) (.tuple (ds++[z]))=true/\eK (.tuple (ds++[z]))<=eX ds+8:=λz hz h1=>⟨okL _ λd hd=>by
    rcases eB.mp hd with hd|hd
    .exact bS d hd
    .rw[gm.mp hd];exact nB hz h3,by rw[eK,ib,eX,eX,h1];lia⟩
   have key:mC (k0+1) ud=true/\eK ud<=eX ds+8:=by
    simp only[aP,cO,cR] at Yn;rcases Yn with rfl|rfl|rfl
    .exact⟨okL _ λd hd=>bS d (List.mem_of_mem_take hd),by rw[eK];have:=OP ds (ds.length - 1);lia⟩
    .exact one _ Z (by rw[eK])
    .exact one _ (by decide+kernel) (by rw[eK])
   exact fin uv ud HA _ (W8.take BA OA) (by lia) euv key.1 key.2
  refine⟨_,Z,Z,_,Z,mG (λ_=> ?_) (λ_=> ?_)⟩
  .refine C4 (Fx (G:=G) (uf (kE (aW (cE Z ew) c_)) (An (n:=1) (cE Z UC) (aK 1) (by lia) (λ_ _ h=>h)) (λz=>nomatch z) (by rw[og];show 1+(ds.length - 1)<=1000;lia)) λv9 H8 s8 d8=> ?_);refine fin _ _ _ _ (W7.same s8) (by lia) d8 (okL _ λd hd=> ?_) ?_
   .rcases eB.mp hd with hd|hd
    .rw[gm.mp hd];exact afl
    .exact bS d (List.mem_of_mem_drop hd)
   .have:=OP ds 1;rw[eK,ib,eX,eX]
    lia
  have ep:((1+j:Nat):Int)=1+(j:Int):=by lia
  have ep2:((1+j+1:Nat):Int)=1+(j:Int)+1:=by lia
  have tne:ds.take (1+j)≠[]:=λz=>by
   have:=congrArg List.length z;rw[lM] at this;simp only[m5] at this
   lia
  have tl1:(ds.take (1+j)).length<=5:=by rw[lM];lia
  have tl2:(ds.drop (1+j+1)).length<=5:=by rw[og];lia
  have last:∀(z:U') (v:V) (H' :Hp),mC k0 z=true->eK z<=eK du+2->ah H7 H'->b8 (bA G H') v (.tuple (ds.take (1+j)++[z]++ds.drop (1+j+1)))->Q v H' :=λz v H' hz h1 s' e=>by
   refine fin v _ H' _ (W7.same s') (by lia) e (okL _ λd hd=> ?_) ?_
   .rcases eB.mp hd with hd|hd
    .rcases eB.mp hd with hd|hd
     .exact bS d (List.mem_of_mem_take hd)
     .rw[gm.mp hd];exact hz
    .exact bS d (List.mem_of_mem_drop hd)
   .rw[eK,ib,ib,eX,eX]
    lia
  have zdu:=vc du;refine⟨_,Z,mode,6,Z,Z,_,Z,mG (λ_=> ?_) (λ_=> ?_)⟩
  .refine C4 (Fx (G:=G) (uf (uf (N0 (n:=1+j) (cE Z UC) (by lia) (λ_ _ h=>⟨_,Z,ep▸h⟩)) (kE (aW (cE Z en7) c_)) tne (by show _+1<=1000;lia)) (An (n:=1+j+1) (cE Z UC) (by lia) (by lia) (λH' Q' h=>⟨_,Z,_,_,Z,Z,show Q' (V.int (1+(j:Int)+1)) H' from ep2▸h⟩)) (by simp) (by rw[bu];show _+1+_<=1000;lia)) λv9 H8 s8 d8=>last dn v9 H8 okn (by lia) s8 d8)
  .refine C4 (Fx (G:=G) (uf (uf (N0 (n:=1+j) (cE Z UC) (by lia) (λ_ _ h=>⟨_,Z,ep▸h⟩)) (kE (aW (cE Z eo7) c_)) tne (by show _+1<=1000;lia)) (An (n:=1+j+1) (cE Z UC) (by lia) (by lia) (λH' Q' h=>⟨_,Z,_,_,Z,Z,show Q' (V.int (1+(j:Int)+1)) H' from ep2▸h⟩)) (by simp) (by rw[bu];show _+1+_<=1000;lia)) λv9 H8 s8 d8=>last od v9 H8 acW (by lia) s8 d8)
theorem BK{J:It}{k:Nat}{js:List Nat}{g:TG}{tt:TT}{te:TE}{σ:L2.St}{H:Hp}{Q:VK}{xs:ak}(W:S'->Nat->ak->Hp->Prop)(hlen:xs.length<=sizeLine)(hF:∀p i ys H',W p i ys H'->vP J H' xs)(h0:∀p,H p=none->W p 0 [] (upd H p (.lst [])))
 (hs:∀(p:S') (i:Nat) (x:V) (ys:ak) (H' :Hp) (C1:V->Hp->Prop) (C0:Hp->Prop),H p=none->xs[i]? =some x->W p i ys H'->H' p=some (.lst ys)->(∀y H4,H4 p=some (.lst ys)->W p (i+1) (ys++[y]) (upd H4 p (.lst (ys++[y])))->C1 y H4)->(∀H3,H3 p=some (.lst ys)->W p (i+1) ys H3->C0 H3)->
  g x (yW k js σ) H' λmY H2=>gA (yW k js σ) mY/\tt mY H2 λb H3=>if b=true then te mY H3 C1 else C0 H3)
 (hq:∀p ys H',H p=none->W p xs.length ys H'->H' p=some (.lst ys)->ys.length<=xs.length->Q (.ref p) H'):nX J k js g tt te σ H Q:=by
 intro p hp;refine⟨λi m ys H' =>m=xs.length - i/\i<=xs.length/\ys.length<=i/\H' p=some (.lst ys)/\W p i ys H',⟨_,Z,cH _,aK _,af,h0 p hp⟩,?_⟩
 rintro i m ys H' ⟨rfl,hi,B_,hl,hW⟩
 refine⟨hl,?_⟩;have F:=hF p i ys H' hW;by_cases kG:i<xs.length
 .refine .inr ⟨F.go i _ (ah.refl _) kG,by lia,λx gX hy=> ?_⟩;obtain⟨rfl,e⟩:=F.BM i _ x gX (ah.refl _) hy;exact hs p i x ys _ _ _ hp (e kG) hW hl (λy H4 e4 w=>⟨e4,xs.length - (i+1),by lia,Z,kG,by rw[bu];exact Nat.succ_le_succ B_,af,w⟩) λH3 e3 w=>⟨xs.length - (i+1),by lia,Z,kG,by lia,e3,w⟩
 .have e:i=xs.length:=by lia
  subst e;exact .inl ⟨F.stop _ _ (ah.refl _) (aK _),hq p ys H' hp hW hl B_⟩
theorem Zu{X:Prop}{M F:S'->Hp->Prop}(h:(∀a h,F a h->M a h)->X)(k:∀a h,F a h->M a h):X:=h k
theorem wy{x:Str}(h:cv x=true):mC 1 (.str x)=true:=by
 have h1:=Bx h;show(decide (x.length<=10)&&PyData.strOk x)=true;rw[EL h,aS (show x.length<=10 by lia)];rfl
theorem JV{k:Str}{d:U'}(h:zD k d):mC 1 d=true/\eK d=1:=by
 cases h with
 |name x h=>exact⟨wy h,by rw[eK]⟩
 |label x h n=>exact⟨wy h,by rw[eK]⟩
 |Fy=>exact⟨Z,by rw[eK]⟩
 |mark x h=>exact⟨wy h,by rw[eK]⟩
 |Fe=>exact⟨Z,by rw[eK]⟩
 |value i h=>exact⟨aS h,by rw[eK]⟩
 |number i h=>exact⟨aS h,by rw[eK]⟩
 |num k lo hi i h h1 h2=>
  have:=bD (a7.mp (show(xo.all λp=>decide (0<=p.2.1/\p.2.2<=6))=true by decide+kernel) _ h);exact⟨aS (iX (show i.natAbs<=6 by have h3:(0:Int)<=lo:=this.1;have h4:hi<=(6:Int):=this.2;lia) (by decide+kernel)),by rw[eK]⟩
theorem Ib{ks:au}{ps:List U'}(h:ig ks ps):(∀d∈ps,mC 1 d=true)/\eX ps=ps.length:=by
 induction h with
 |nil=>exact⟨(λd hd=>nomatch hd),by rw[eX];rfl⟩
 |cons h t ih=>
  refine⟨λd hd=> ?_,?_⟩
  .rcases aP.mp hd with rfl|hd
   .exact(JV h).1
   .exact ih.1 d hd
  .rw[eX,(JV h).2,ih.2,bB,Nat.add_comm]
theorem WU(s:Ds):(s.l.map λd=>1+jM d).sum=d_ s:=by
 rw[z_]
 induction s.l with
 |nil=>rfl
 |cons d r ih=>
  rw[cL,kP,ih,cL,kP,bB]
  lia
theorem JQ:∀b:Bs,(b.l.map λp=>d_ p.2).sum=mT b
 | .nil=>by rw[mT];rfl
 | .cons t b r=>by
  show d_ b+(r.l.map λp=>d_ p.2).sum=_;rw[mT,JQ r]
theorem EI{α:Type}(f:α->Nat):∀(l:List α) (i:Nat),((l.take i).map f).sum<=(l.map f).sum
 |[],i=>by rw[zQ];exact aK _
 |x::r,0=>cH _
 |x::r,i+1=>by
  rw[List.take_succ_cons,cL,cL,kP,kP];have:=EI f r i
  lia
structure Pw(b ct:S')(H H' :Hp)(k:Nat):Prop where
 box:dg H' b k
 cn:∃m,H' ct=some (.lst [.int m])
 kp:hU b ct H H'
theorem Pw.same{b ct:S'}{H H' H2:Hp}{k:Nat}(h:Pw b ct H H' k)(s:ah H' H2):Pw b ct H H2 k:=by
 obtain⟨m,e⟩:=h.cn;exact⟨h.box.same s,⟨m,s _ _ e⟩,h.kp.trans s.iB⟩
theorem Pw.trans{b ct:S'}{H H' H2:Hp}{k k2:Nat}(h:Pw b ct H H' k)(p:Pw b ct H' H2 k2):Pw b ct H H2 k2:=⟨p.box,p.cn,h.kp.trans p.kp⟩
theorem Pw.TN{b ct:S'}{H H' :Hp}{k:Nat}(h:Pw b ct H H' k):Pw b ct H' H' k:=⟨h.box,h.cn,λ_ _ _ _ e=>e⟩
theorem Pw.upd{b ct p:S'}{H H' :Hp}{k:Nat}{o:HO}(h:Pw b ct H H' k)(hp:H p=none)(nb:p≠b)(nc:p≠ct):Pw b ct H (upd H' p o) k:=by
 obtain⟨x,y,z,hb,r⟩:=h.box;obtain⟨m,hm⟩:=h.cn;refine⟨⟨x,y,z,by rw[az nb.symm];exact hb,r⟩,⟨m,by rw[az nc.symm];exact hm⟩,λc o' h1 h2 e=> ?_⟩;rw[az (aA e hp)];exact h.kp _ _ h1 h2 e
theorem Gq{G H:Hp}{p:S'}{xs:ak}{o:HO}(g:G p≠none)(e:H p=some (.lst xs)):ah (bA G H) (bA G (upd H p o)):=rQ λc o' e' hl=>by
 by_cases z:c=p
 .rw[z,e] at e';cases e';exact absurd (z▸hl _ Z) g
 .rw[az z];exact e'
theorem L8{G:Hp}{a c:S'}{o:HO}(h:upd G a o c=none):c≠a/\G c=none:=by
 by_cases z:c=a
 .rw[z,af] at h;cases h
 .rw[az z] at h;exact⟨z,h⟩
theorem Pw.free{b ct c:S'}{H H' :Hp}{k:Nat}(h:Pw b ct H H' k)(hc:H' c=none):H c=none:=by
 cases e:H c with
 |none=>rfl
 |some o=>
  obtain⟨m,em⟩:=h.cn;rw[h.kp _ o (h.box.ne hc) (aA em hc).symm e] at hc;cases hc
theorem Pw.new{b ct:S'}{G H H' H2:Hp}{k k2:Nat}(h:Pw b ct H H' k)(gb:G b≠none)(gc:G ct≠none)(p:Pw b ct H' H2 k2):ah (bA G H') (bA G H2):=rQ λc o e hl=>by
 obtain⟨x,y,z,hb,_⟩:=h.box;obtain⟨m,hm⟩:=h.cn;refine p.kp _ _ (λw=> ?_) (λw=> ?_) e
 .rw[w,hb] at e;cases e;exact gb (w▸hl _ Z)
 .rw[w,hm] at e;cases e;exact gc (w▸hl _ Z)
def aa1(n:Nat):Sp:=λvs H Q _=>∃(G H0:Hp) (b ct nl:S') (v:V) (t:Bool) (s:Ds) (k:Nat) (ns:List Int),vs=[.ref b,v,.ref ct,.ref nl]/\ah H0 H/\H0 b=none/\H0 ct=none/\Dat H0 v (iN t (sL s))/\mD s/\eO s<n/\d_ s<=44/\Pw b ct H H k/\k+20*d_ s<=90000/\H nl=some (.lst (ns.map V.int))/\ns.length<=10/\ct≠b/\nl≠b/\nl≠ct/\G b≠none/\G ct≠none/\Fr G H/\
 ∀l ws ds H' k',H l=none->H' l=some (.lst ws)->bj (bA G H') ws ds->(∀d∈ds,mC (2*n+3) d=true)->eX ds<=20*d_ s->Pw b ct H H' k'->k'<=k+20*d_ s->Q (.ref l) H'
theorem AR(T:Txt K mg A)(n:Nat):aT P w K mg base dO (3+n) A.s_ A.tq ["_law_box_here","_law_body_here","_law_count","_law_numbers"] (aa1 n):=by
 induction n with
 |zero=>exact fu (by rintro vs H Q E ⟨G,H0,b,ct,nl,v,t,s,k,ns,_,_,_,_,_,_,h,_⟩;exact iH _ h)
 |succ n ih=>
 show aT P w K mg base dO ((3+n)+1) _ _ _ _;refine T.nt.F.ok fi (λvs H Q E h=> ?_) (λcB Ar outer s0 H vs Q E hr h=> ?_)
 .obtain⟨G,H0,b,ct,nl,v,t,s,k,ns,rfl,_⟩:=h;rfl
 .obtain⟨G,H0,b,ct,nl,v,t,s,k,ns,rfl,gW,ZR,h0c,hd,ok,dp,mn,pw0,hk,Xw,nsl,cb,nb,nc,gb,gc,fr,q⟩:=h;obtain⟨a,vs,rfl,ha,hA⟩:=iM hd;have vl:=t9 hA;have ZS:=WU s;have L4:(1000:Nat)<sizeLine:=by decide
  refine⟨_,(aj (gf 4 fi.nd (bH dY)) (aj (A5 (pq (pv 1)) (jE 5 fi.nd) (aj (gf 6 fi.nd (cS a8 (pv 2) ae)) (aj (BE (aL bw (pv 6) ae) (Ef (pv 2) ae ZB)) (aj (Il 7 fi.nd ["_law_one","_law_box_here","_law_count","_law_numbers"] 1 [0,2,3] (Bm (cG (gi T) hr T.dP aC (aM (pv 5)) (hj:=by lia))) (λ_ _ _ _ _=>⟨(jE 0 (show(["_law_one","_law_box_here","_law_count","_law_numbers"]:au).Nodup by decide+kernel)),wH,(cG ih hr T.nt aC (ag (pv 1) (ag (pv 0) (ag (pv 2) (aM (pv 3))))) (hj:=by lia))⟩)) (aj (gf 8 fi.nd (aL jI (dH Jr (pv 5) bW (bQ (aL iT (iR br T.g7 Boot.«len» (aM (pv 5))) (iR br T.g7 Boot.«len» (aM (pv 7)))))) (NA eQ T.iE Boot.«tuple» (aM (pv 7))))) (aq (bZ (lR gT D' F' dw (pv 4) (aM (qV (wn k7 (pv 6) (pv 3)) (cG (Er T) hr T.yv aC (ag (pv 0) (aM (pv 8))) (hj:=by lia)) (pv 8))))))))))) (aq (aH (pv 4))))),?_⟩;refine⟨nq,λfl pd=>⟨_,Z,a,t,Z,LY (ah.upd pd _ _ (gW _ _ ha)),?_⟩⟩;have s1:=ah.upd (o:= .lst []) pd;have Yt:fl≠b:=pw0.box.ne pd
  have nfc:fl≠ct:=by
   obtain⟨m,e⟩:=pw0.cn;exact(aA e pd).symm
  have Jw:∀{H' :Hp} {k' :Nat},Pw b ct H H' k'->ah H0 H' :=λp c o e=>p.kp _ _ (aA e ZR) (aA e h0c) (gW _ _ e)
  let cnt:Nat->Nat:=λj=>((s.l.take j).map λd=>1+jM d).sum
  have cle:∀j,cnt j<=d_ s:=λj=>by rw[<-ZS];exact EI _ _ _
  have g1b:upd G fl (.lst []) b≠none:=by rw[az (ck Yt)];exact gb
  have g1c:upd G fl (.lst []) ct≠none:=by rw[az (ck nfc)];exact gc
  have g1f:upd G fl (.lst []) fl≠none:=by rw[af];exact λz=>nomatch z
  have g1l:∀c,upd G fl (.lst []) c=none->G c=none:=λc h=>by
   by_cases z:c=fl
   .rw[z] at h;exact absurd h g1f
   .rw[az z] at h;exact h
  have fr1:∀{H' :Hp} {k' :Nat} {o:HO},Pw b ct H H' k'->H' fl=some o->Fr (upd G fl (.lst [])) H' :=λ{H' k' o} p e c hc=>by
   rw[az (aA e hc).symm];exact fr c (p.free hc)
  generalize upd G fl (.lst [])=G1 at g1b g1c g1f g1l fr1;refine ng (K:=K) (t:=t) (a:=a) (xs:=vs) (λj σ H' =>∃(x5 x6 x7 x8:Option V) (ws:ak) (ds:List U') (kc:Nat),σ=[some (.ref b),some (.ref a),some (.ref ct),some (.ref nl),some (.ref fl),x5,x6,x7,x8]/\Pw b ct H H' kc/\kc<=k+20*cnt j/\H' fl=some (.lst ws)/\bj (bA G1 H') ws ds/\(∀d∈ds,mC (2*(n+1)+3) d=true)/\eX ds<=20*cnt j) ⟨_,_,_,_,[],[],k,Z,pw0.same s1,o6 _ _,af,.nil,(λd hd=>nomatch hd),by rw[eX];exact cH _⟩ (by rintro j σ H' _ ⟨_,_,_,_,_,_,_,_,pw,_⟩;exact Jw pw _ _ ha) ?_ ?_
  .rintro j x σ H' hx ⟨x5,x6,x7,x8,ws,ds,kc,rfl,pw,hkc,m7,hws,VD,zds⟩
   obtain⟨d,ed,sZ⟩:=jN hA hx;have dm:=bE ed;have l6:=gE ok d dm;have LN:=gK d dm;have Qh:=jG d dm;have cj:cnt (j+1)=cnt j+(1+jM d):=nN _ ed;have cl1:=cle (j+1);obtain⟨a',ks,xs,C2,rfl,p0⟩:=fq sZ l6;have hlx:=p0.lx;have h4:=fP p0.f;rw[bu,gM] at h4;have Yu:=jj p0.hy;obtain⟨m,hm⟩:=pw.cn;have acN:=bD (a7.mp (show(bg.all λp=>decide (1<=p.2.length))=true by decide+kernel) _ p0.f);rw[bu,gM] at acN;refine⟨_,Z,ct,_,0,_,Z,Z,cF.of hm,Z,_,Z,_,_,Z,Z,_,Z,ct,_,0,0,Z,Z,hm,Z,?_⟩
   have pw2:Pw b ct H' (upd H' ct (.lst [.int (m+1)])) kc:=by
    obtain⟨x,y,z,hb,r⟩:=pw.box;exact⟨⟨x,y,z,by rw[az cb.symm];exact hb,r⟩,⟨_,af⟩,λc o h1 h2 e=>by rw[az h2];exact e⟩
   generalize hG2:upd H' ct (.lst [.int (m+1)])=H2 at pw2;rw[show(.lst [V.int (m+1)]:HO)= .lst (List.set [V.int m] 0 ((λi j=>V.int (i+j)) m 1)) from Z] at hG2;rw[hG2];have YC:=pw.trans pw2;refine⟨_,Z,H0,_,d,Z,Jw YC,sZ,l6,λt1 ys H3 uo s3 hz hB=>⟨t1,Z,⟨_,bc.of hz⟩,?_⟩⟩;have Ri:Pw b ct H H3 kc:=YC.same s3;have Zj :Pw b ct H' H3 kc:=pw2.same s3;have bl:=jj hB;have msb:=JQ d.bs;rw[<-pS] at msb
   let Yc :Nat->Nat:=λi=>((d.bs.l.take i).map λp=>d_ p.2).sum
   have cbl:∀i,Yc i<=jM d:=λi=>by rw[<-msb];exact EI _ _ _
   have hb3:∀{H4:Hp} {k4:Nat},Pw b ct H3 H4 k4->H4 t1=some (.tup ys):=λ{H4 k4} p4=>by
    obtain⟨x,y,z,hb,_⟩:=Ri.box;obtain⟨m',Pa⟩:=Ri.cn;exact p4.kp _ _ (dB hz hb (λz=>nomatch z)) (dB hz Pa (λz=>nomatch z)) hz
   refine BK (xs:=ys) (λp i zs H4=>∃(es:List U') (k4:Nat),Pw b ct H3 H4 k4/\k4<=kc+20*Yc i/\bj (bA (upd G1 p (.lst [])) H4) zs es/\(∀e∈es,mC (2*n+4) e=true)/\eX es<=i+20*Yc i/\es.length=i) (aU (show ys.length<=1000 by lia) (cT L4)) ?_ ?_ ?_ ?_
   .rintro p i zs H4 ⟨es,k4,Py,_⟩
    exact se (bc.of (hb3 Py))
   .intro p hp;refine⟨[],kc,(Ri.TN).upd hp (Ri.box.ne hp) (by obtain⟨m',e⟩:=Ri.cn;exact(aA e hp).symm),o6 _ _,.nil,(λe he=>nomatch he),by rw[eX];exact cH _,Z⟩
   .rintro p i y zs H4 C1 C0 hp hy ⟨es,k4,Py,hk4,hes,Xd,zes,les⟩ Hf c1 c0
    obtain⟨pp,ep,hpp⟩:=jQ hB hy;have pm:=bE ep;have y_:=hZ (kg l6) pp pm;have FE:=h8 pp pm;have NK:=kS pp pm;rw[<-lH] at FE;rw[<-pS] at NK;have ci:Yc (i+1)=Yc i+d_ pp.2:=nN _ ep;have cil:=cbl (i+1);have Jk:=Ri.trans Py;have OK:p≠b:=Ri.box.ne hp;have Ye:p≠ct:=by obtain⟨m',e⟩:=Ri.cn;exact(aA e hp).symm
    have Jb:H4 fl=some (.lst ws):=(Zj.trans Py).kp _ _ Yt nfc m7
    have frp:Fr (upd G1 p (.lst [])) H4:=λc hc=>by
     rw[az (aA Hf hc).symm];exact fr1 Jk Jb c hc
    refine⟨(gA.refl _).own (by decide),_,Z,_,Z,_,Z,_,Z,upd G1 p (.lst []),H0,b,ct,nl,y,pp.1,pp.2,k4,ns,Z,Jw Jk,ZR,h0c,hpp,y_,by lia,by lia,Jk.TN,by lia,Jk.kp _ _ nb nc Xw,nsl,cb,nb,nc,by rw[az OK.symm];exact g1b,by rw[az Ye.symm];exact g1c,frp,λl Yo Z_ H5 k5 hl e5 d5 ok5 z5 Tb hk5=> ?_⟩;have Wz:H5 p=some (.lst zs):=Tb.kp _ _ OK Ye Hf;have gpp:upd G1 p (.lst []) p≠none:=by rw[af];exact λz=>nomatch z
    have N:=Gq (o:= .lst (zs++[V.ref l])) gpp Wz;have gpb:upd G1 p (.lst []) b≠none:=by rw[az OK.symm];exact g1b
    have gpc:upd G1 p (.lst []) ct≠none:=by rw[az Ye.symm];exact g1c
    refine c1 (.ref l) H5 Wz ⟨es++[.list Z_],k5,(Py.trans Tb).upd hp OK Ye,by lia,?_,λe he=> ?_,?_,by rw[bu,les];rfl⟩
    .exact(iC (hes.same (Py.new gpb gpc Tb)) (.cons (.lst (cM e5 (λ_ _=>frp l hl)) d5) .nil)).same N
    .rcases eB.mp he with he|he
     .exact Xd e he
     .rw[gm.mp he];exact a7.mpr ok5
    .rw[ib,eX,eX,eK]
     lia
   rintro il zs H4 hil ⟨es,k4,Py,hk4,hes,Xd,zes,les⟩ WL _
   have Jk:=Ri.trans Py;have Zo :=Zj.trans Py
   have ce:Yc ys.length=jM d:=by
    show((d.bs.l.take ys.length).map _).sum=_;rw[bl,gg,msb]
   rw[ce] at hk4 zes;have aa8:bj (bA G1 H4) zs es:=hes.same (DG λc h=>(L8 h).2);have zl:=bX aa8;have uP:H4 a' =some (.tup (.str d.wd::(xs++C2))):=Jw Jk _ _ p0.e;have Jb:H4 fl=some (.lst ws):=Zo.kp _ _ Yt nfc m7
   have eix:(((V.str d.wd::(xs++C2)).length:Nat):Int) - ((zs.length:Nat):Int)=(((V.str d.wd::xs).length:Nat):Int):=by
    simp only[bB,bu]
    lia
   refine zY ?_;dsimp only;apply Zu (F:=λe h=>ah H4 h/\h e=some (.tup (.str d.wd::(xs++zs))))
   .intro hM;refine⟨_,Z,_,Z,a',_,Z,.inr (bc.of uP),_,Z,il,_,Z,.inl (cF.of WL),_,_,Z,Z,_,Z,a',_,Z,bc.of uP,?_,?_⟩
    rotate_left
    .rw[eix];intro hw t4 Ke;have VW:cZ (V.str d.wd::(xs++C2)) none (some (((V.str d.wd::xs).length:Nat):Int))=V.str d.wd::xs:=MZ (V.str d.wd::xs) C2;rw[VW];have u4:=ah.upd (o:= .tup (V.str d.wd::xs)) Ke;refine⟨_,Z,il,_,Z,.inl ⟨cF.of (u4 _ _ WL),λt5 Qw=> ?_⟩⟩;have u5:=ah.upd (o:= .tup zs) Qw
     have wQ:zs≠[]:=λz=>hw (by
      have z1:zs.length=0:=by rw[z];rfl
      refine⟨Z,?_⟩;rw[HT.h9];simp only[bB,bu]
      lia)
     refine⟨t4,t5,_,_,Z,Z,bc.of (u5 _ _ af),bc.of af,(λz=>nomatch z),?_,(λz=>absurd z wQ),λ_ t6 Y2=> ?_⟩
     .simp only[bB];exact aU (show _<=1000 by lia) (cT L4)
     .have u6:=ah.upd (o:= .tup (V.str d.wd::xs++zs)) Y2;have su:=(u4.trans u5).trans u6;have e6:upd (upd (upd H4 t4 (.tup (V.str d.wd::xs))) t5 (.tup zs)) t6 (.tup (V.str d.wd::xs++zs)) t6=some (.tup (V.str d.wd::(xs++zs))):=af;obtain⟨H6,hH6⟩:∃H6,H6=upd (upd (upd H4 t4 (.tup (V.str d.wd::xs))) t5 (.tup zs)) t6 (.tup (V.str d.wd::xs++zs)):=⟨_,Z⟩;rw[<-hH6];exact hM t6 H6 ⟨hH6▸su,hH6▸e6⟩
    .rw[eix]
     rintro ⟨_,hw⟩
     rw[HT.h9] at hw;simp only[bB,bu] at hw;have Ym:C2=[]:=qx (by lia);have hw0:zs=[]:=qx (by have z1:C2.length=0:=congrArg List.length Ym;lia);have exz:xs++C2=xs++zs:=by rw[Ym,hw0]
     refine⟨_,Z,il,_,Z,.inl ⟨cF.of WL,λt5 Qw=> ?_⟩⟩;have u5:=ah.upd (o:= .tup zs) Qw;refine⟨a',t5,_,_,Z,Z,bc.of (u5 _ _ uP),bc.of af,(λz=>nomatch z),?_,(λ_=>hM a' _ ⟨u5,by rw[<-exz];exact u5 _ _ uP⟩),(λz=>absurd hw0 z)⟩;simp only[bB,bu];exact aU (show _<=1000 by lia) (cT L4)
   .rintro e H5 ⟨s5,e5⟩
    have Tb:=Zo.same s5;have Y1:=Jk.same s5;have qA:H5 fl=some (.lst ws):=s5 _ _ Jb;have afM:=Y1.kp _ _ nb nc Xw
    have wl:ws.length<=880:=by
     have h1:=bX hws;have h2:=vM ds
     lia
    have Q3:ws.length<sizeLine:=iX (show ws.length<=1000 by lia) L4;obtain⟨fo,fz⟩:=Ib p0.fit;have pl:d.ps.length=xs.length:=(fF p0.hx).symm;have dE:bj (bA G1 H5) (.str d.wd::(xs++zs)) (.str d.wd::(d.ps++es)):= .cons (.str _) (iC (uT (zU p0.fit p0.hx:bI (bA G1 H5) xs d.ps).dat) (aa8.same (bh s5)))
    have wc:∀z∈PyData.str d.wd::(d.ps++es),mC (2*n+4) z=true:=λz hz=>by
     rcases aP.mp hz with rfl|hz
     .exact nB (wy (Dm p0.f)) (by lia)
     .rcases eB.mp hz with hz|hz
      .exact nB (fo z hz) (by lia)
      .exact Xd z hz
    have zI:eX (PyData.str d.wd::(d.ps++es))<=5+20*jM d:=by
     rw[eX,eK,ib,fz]
     lia
    have fin:∀(v:V) (dv:U') (H6:Hp) (k6:Nat),Pw b ct H' H6 k6->k6<=kc+20*jM d+20->b8 (bA G1 H6) v dv->mC (2*(n+1)+3) dv=true->eK dv<=13+20*jM d->∃(x5 x6 x7 x8:Option V) (Yo :ak) (Z_ :List U') (T5 :Nat),([some (V.ref b),some (.ref a),some (.ref ct),some (.ref nl),some (.ref fl),some (.ref a'),some (.int m),some (.ref il),some (.ref e)]:L2.St)=[some (.ref b),some (.ref a),some (.ref ct),some (.ref nl),some (.ref fl),x5,x6,x7,x8]/\Pw b ct H (upd H6 fl (.lst (ws++[v]))) T5/\T5<=k+20*cnt (j+1)/\upd H6 fl (.lst (ws++[v])) fl=some (.lst Yo)/\bj (bA G1 (upd H6 fl (.lst (ws++[v])))) Yo Z_/\(∀z∈Z_,mC (2*(n+1)+3) z=true)/\eX Z_<=20*cnt (j+1):=λv dv H6 k6 p6 hk6 ev okv zv=>by
     have afE:H6 fl=some (.lst ws):=p6.kp _ _ Yt nfc m7;refine⟨_,_,_,_,ws++[v],ds++[dv],k6,Z,(pw.trans p6).upd pd Yt nfc,by lia,af,?_,λz hz=> ?_,?_⟩
     .exact(iC (hws.same (pw.new g1b g1c p6)) (.cons ev .nil)).same (Gq g1f afE)
     .rcases eB.mp hz with hz|hz
      .exact VD z hz
      .rw[gm.mp hz];exact okv
     .rw[ib,eX,eX]
      lia
    refine zY ?_;dsimp only;refine⟨_,Z,JD qA,_,Z,_,Z,nl,_,Z,.inl (cF.of afM),Z,?_,_,Z,mG (λ_=> ?_) (λ_=> ?_)⟩
    .rw[a7];intro z hz;obtain⟨i,_,rfl⟩:=jn.mp hz;rfl
    .refine⟨_,Z,_,Z,G1,b,e,.str d.wd,xs++zs,_,k4,2*n+4,Z,Tb.box,by lia,g1b,fr1 Y1 qA,e5,(λz=> ?_),?_,dE,by lia,wc,λv dv H6 e6 ok6 z6 B6 kp6=> ?_⟩
     .have:=congrArg List.length z;simp only[bu,m5] at this
      lia
     .rw[bu]
      lia
     .obtain⟨m6,hm6⟩:=Tb.cn;have p6:Pw b ct H' H6 (k4+20):=⟨B6,⟨m6,kp6 _ _ cb hm6⟩,λc o h1 h2 e=>kp6 _ _ h1 (Tb.kp _ _ h1 h2 e)⟩;exact⟨fl,ws,_,Z,Z,kp6 _ _ Yt qA,Q3,fin v dv H6 _ p6 (by lia) e6 ok6 (by lia)⟩
    .exact⟨_,Z,fl,ws,_,Z,Z,qA,Q3,fin _ (.tuple (.str d.wd::(d.ps++es))) H5 _ Tb (by lia) (.tup (cM e5 (λ_ z=>nomatch z)) dE) (a7.mpr wc) (by rw[eK];lia)⟩
  .rintro σ H' ⟨x5,x6,x7,x8,ws,ds,kc,rfl,pw,hkc,m7,hws,VD,zds⟩
   have e:cnt vs.length=d_ s:=by
    show((s.l.take vs.length).map _).sum=_;rw[vl,gg,ZS]
   rw[e] at hkc zds;exact⟨_,Z,q fl ws ds H' kc pd m7 (hws.same (DG g1l)) VD zds pw hkc⟩
noncomputable def ltF(k:Nat):Str:=⟨#[97+k % 8]⟩
noncomputable def ltT(k:Nat):Str:=⟨#[105+k % 8]⟩
noncomputable def SK(d:U'):Nat->U'
 |0=>d
 |k+1=> .list [if k % 2=0 then .tuple [.str "frame",.str (ltF k),SK d k] else .tuple [.str "turns",.str (ltT k),.int 1,.int 1,SK d k]]
theorem adN{r:V->Option Int->Option Int->Hp->VK->Prop}{te:TE}{tl th:TO}{σ:L2.St}{H:Hp}{Q:VK}(h:te σ H λx H1=>tl σ H1 λl H2=>th σ H2 λu H3=>r x l u H3 Q):RD r te tl th σ H Q:=h
theorem aau{G H:Hp}{σ:L2.St}{n i:Nat}(h:σ[n]? =some (some (.int (0+(i:Int))))):kC G (wN Pq (tC (.str "abcdefgh")) (wN (rI (λ_ j=>0<j) λi j=> .int (i % j)) (AA n) (tC (.int 8)))) σ H (.str (ltF i)):=⟨λH1 s Q q=>by
 have e:("abcdefgh" :Str).cps.toList=(List.range 8).map (97+ ·):=by decide+kernel
 refine⟨_,h,_,8,Z,Z,(show(0:Int)<8 by decide),_,_,_,Z,Z,by decide+kernel,?_,q _ _ (ah.refl _) (.str (ltF i))⟩;rw[show(0+(i:Int)) % 8=((i % 8:Nat):Int) by lia];refine bb ?_;rw[e,bY,qd (by lia)];rfl⟩
theorem abg{G H:Hp}{σ:L2.St}{n i:Nat}(h:σ[n]? =some (some (.int (0+(i:Int))))):kC G (wN Pq (tC (.str "ijklmnop")) (wN (rI (λ_ j=>0<j) λi j=> .int (i % j)) (AA n) (tC (.int 8)))) σ H (.str (ltT i)):=⟨λH1 s Q q=>by
 have e:("ijklmnop" :Str).cps.toList=(List.range 8).map (105+ ·):=by decide+kernel
 refine⟨_,h,_,8,Z,Z,(show(0:Int)<8 by decide),_,_,_,Z,Z,by decide+kernel,?_,q _ _ (ah.refl _) (.str (ltT i))⟩;rw[show(0+(i:Int)) % 8=((i % 8:Nat):Int) by lia];refine bb ?_;rw[e,bY,qd (by lia)];rfl⟩
def Gz:Sp:=λvs H Q _=>∃(n:Nat) (v:V) (G:Hp) (d:U'),vs=[.int (n:Int),v]/\n<=30/\Fr G H/\b8 (bA G H) v d/\∀u H',ah H H'->b8 (bA G H') u (SK d n)->Q u H'
theorem iO(T:Txt K mg A):aT P w K mg base dO 1 A.tV A.tN ["_law_many","_law_body_here"] Gz:=by
 refine T.g6.F.okN lU ?_
 rintro cB Ar outer s H vs Q E hr ⟨n,v,G,d,rfl,hn,fr,hd,q⟩
 refine⟨_,(aD ⟨(A5 (gJ Z T.kT (aM (pv 0))) (jE 2 lU.nd) (aq (gf 1 lU.nd (dH mI (bH (ag (bt (ag ai (ag (cS AK ai (aL jq (pv 2) ae)) (aM (pv 1))))) (aM (bt (ag ai (ag (cS AK ai (aL jq (pv 2) ae)) (ag ae (ag ae (aM (pv 1)))))))))) (bQ (aL jq (pv 2) ae)) (bQ (aL bw (aL jq (pv 2) ae) ae))))))⟩ (bC (jJ ⟨(pv 1)⟩))),?_⟩;refine⟨_,Z,_,Z,by lia,by lia,?_⟩;refine nU (λi σ H' =>∃(u:V) (x2:Option V),σ=[some (.int (n:Int)),some u,x2]/\ah H H'/\b8 (bA G H') u (SK d i)) ⟨_,_,Z,ah.refl _,hd⟩ ?_ ?_
 .rintro i σ H' hi ⟨u,x2,rfl,sm,e⟩
  refine zY (tY (adN (yB (G:=G) (d:= .list [.tuple [.str "frame",.str (ltF i),SK d i],.tuple [.str "turns",.str (ltT i),.int 1,.int 1,SK d i]]) ?_ λv3 H3 s3 d3=> ?_)))
  .exact lj (fr.same sm) (aW (kE (aW eT (aW (aau Z) (aW (cE Z e) c_)))) (aW (kE (aW eT (aW (abg Z) (aW fX (aW fX (aW (cE Z e) c_)))))) c_))
  obtain⟨a,xs,rfl,ea,hx⟩:=kH d3
  cases hx with
  | @cons y0 _ _ _ h0 t0=>
  cases t0 with
  | @cons y1 _ _ _ h1 t1=>
  cases t1;refine⟨_,Z,_,2,Z,Z,(show(0:Int)<2 by decide),_,Z,_,Z,_,2,Z,Z,(show(0:Int)<2 by decide),_,1,Z,Z,_,Z,a,_,Z,cF.of ea,λp hp=>⟨_,_,Z,(sm.trans s3).trans (ah.upd hp),?_⟩⟩;have fp:=(fr.same (sm.trans s3)) p hp;rw[SK];by_cases CO:i % 2=0
  .rw[aB CO,show(0+(i:Int)) % 2=0 by lia];exact .lst (cM af (λ_ _=>fp)) (.cons (h0.same (bh (ah.upd hp))) .nil)
  .rw[ax CO,show(0+(i:Int)) % 2=1 by lia];exact .lst (cM af (λ_ _=>fp)) (.cons (h1.same (bh (ah.upd hp))) .nil)
 .rintro σ H' ⟨u,x2,rfl,sm,e⟩
  exact⟨_,Z,q u H' sm e⟩
section
variable{G H:Hp}{σ:L2.St}{te ta tb:TE}{d:U'}{ds es:List U'}{K:Frag}
theorem nK{i:Int}(h0:0<=i)(f:Fr G H)(ha:kC G ta σ H (.list ds)):kC G (RD (Ww K) ta rV (CS (tC (.int i)))) σ H (.list (ds.take i.toNat)):=by
 obtain⟨n,rfl⟩:=DM h0;exact aee f ha
theorem i9{i:Int}(h0:0<=i)(f:Fr G H)(ha:kC G ta σ H (.list ds))(hl:Nat.ble (i.toNat*ds.length) 1000=true)(hn:i.toNat<=1000):kC G (wN Wm ta (tC (.int i))) σ H (.list (List.replicate i.toNat ds).flatten):=by
 obtain⟨n,rfl⟩:=DM h0;exact abp f ha (oB hl) hn
theorem fw{i:Int}(h0:0<=i)(h30:i<=30)(f:Fr G H)(h:kC G te σ H d):kC G (yf Gz [] E0 (tG (tC (.int i)) (tG te sH))) σ H (SK d i.toNat):=⟨λH1 s Q q=>h.h H1 s _ λv H2 s2 e=>by
 obtain⟨n,rfl⟩:=DM h0;exact⟨n,v,G,d,Z,by lia,f.same (s.trans s2),e,λu H3 s3 e3=>q u H3 (s2.trans s3) e3⟩⟩
end
section
variable{G H:Hp}{σ:L2.St}{te ta tb:TE}{tr:TA}{d:U'}{ds es:List U'}{K:Frag}
theorem jm(h:HH G tr σ H ds)(hl:Nat.ble ds.length 1000=true):kC G (KP tr) σ H (.tuple ds):=kE h hl
theorem jy(f:Fr G H)(h:HH G tr σ H ds)(hl:Nat.ble ds.length 1000=true):kC G (Ga tr) σ H (.list ds):=lj f h hl
theorem i5(f:Fr G H)(ha:kC G ta σ H (.list ds))(hb:kC G tb σ H (.list es))(hl:Nat.ble (ds.length+es.length) 1000=true):kC G (wN QQ ta tb) σ H (.list (ds++es)):=Uo f ha hb (oB hl)
theorem ju{i j k:Int}(h:OG i j):kC G (wN (Pb λi j=> .int (i - j)) (wN (rI OG λi j=> .int (i ^ j.toNat)) (tC (.int i)) (tC (.int j))) (tC (.int k))) σ H (.int (i ^ j.toNat - k)):=⟨λH1 s Q q=>⟨i,j,Z,Z,h,_,_,Z,Z,q _ _ (ah.refl _) (.int _)⟩⟩
end
theorem Zm{G H:Hp}{tr:TA}{σ:L2.St}{d:U'}{Q:VK}(h:kC G (KP tr) σ H d)(q:∀v H2,ah H H2->b8 (bA G H2) v d->Q v H2):KP tr σ H Q:=h.h H (ah.refl H) Q q
noncomputable def tlD:U':= .tuple [.str "tell",.str "a"]
noncomputable def eiD:U':= .tuple [.str "either",.list [.tuple [.str "set",.str "a",.none]],.list []]
structure Bn(H0 H:Hp)(t e r:V)(rd:List U'):Prop where
 sm:ah H0 H
 tl:b8 (bA H0 H) t (.list (List.replicate 41 [tlD]).flatten)
 ei:b8 (bA H0 H) e eiD
 ro:b8 (bA H0 H) r (.list rd)
theorem Bn.fr{H0 H:Hp}{t e r:V}{rd:List U'}(B:Bn H0 H t e r rd):Fr H0 H:=λc h=>B.sm.free h
theorem QT{A:nS}{H:Hp}{v:V}{d:U'}(t:oY A H)(h:b8 H v d):b8 (i_ A H) v d:=by
 obtain⟨_,⟨ps1,e1,_⟩,⟨ps2,e2,_⟩⟩:=t;refine E2 (λc o hc e=> ?_) h
 have n:∀ps,o≠.vB ps:=λps z=>by
  rcases hc with⟨_,y⟩|⟨_,y⟩|⟨_,y⟩<;>(rw[z] at y;cases y)
 unfold i_;rw[ax]
 .exact e
 .rintro (rfl|rfl)
  .rw[e] at e1;cases e1;exact n _ rfl
  .rw[e] at e2;cases e2;exact n _ rfl
theorem Bn.items{H0 H:Hp}{t e r:V}{rd:List U'}(B:Bn H0 H t e r rd)(h:(rd.all λd=>mC 80 d&&Nat.ble (eK d) 1000&&X_ 40 d)=true)(hl:Nat.ble rd.length 1000=true):∃l xs,r= .ref l/\H l=some (.lst xs)/\xs.length<=1000/\∀x∈xs,∃d,b8 H x d/\mC 80 d=true/\eK d<=1000/\X_ 40 d=true:=by
 obtain⟨l,xs,el,ea,hx⟩:=kH B.ro;refine⟨l,xs,el,ea,by rw[bX hx];exact oB hl,λx hm=> ?_⟩;obtain⟨d,hd,e⟩:=kX hx x hm;have:=a7.mp h d hd;rw[cI,cI] at this;exact⟨d,e.same wk,this.1.1,oB this.1.2,this.2⟩
theorem i0{H0 H:Hp}{t e r:V}{rd es:List U'}{tr:TA}{rest:TS}{D:Ends}(B:Bn H0 H t e r rd)(h:kC H0 (Ga tr) [some t,some e,some r] H (.list es))(hl:Nat.ble (rd.length+es.length) 1000=true)(q:∀r' H2,Bn H0 H2 t e r' (rd++es)->rest D [some t,some e,some r'] H2):Gu (Gr (wN QQ (AA 2) (Ga tr)) (vJ 2)) rest D [some t,some e,some r] H:=
 (i5 B.fr (cE Z B.ro) h hl).h H (ah.refl H) _ λv H2 s2 e2=>q v H2 ⟨B.sm.trans s2,B.tl.same (bh s2),B.ei.same (bh s2),e2⟩
theorem AG{K:Frag}{H0 H:Hp}{t e r:V}{rd:List U'}{te:TE}{d:U'}{rest:TS}{D:Ends}(B:Bn H0 H t e r rd)(h:kC H0 te [some t,some e,some r] H d)(hl:Nat.ble rd.length 1000=true)(hz:Nat.ble (eK d) (eX rd)=true)(h1:Nat.ble 200 (eX rd)=true)(q:∀r' H2,Bn H0 H2 t e r' (rd++[d])->rest D [some t,some e,some r'] H2):Gu (Mu (tBM K "list" JY (AA 2) (tG te sH))) rest D [some t,some e,some r] H:=by
 obtain⟨l,xs,el,ea,hx⟩:=kH B.ro;refine⟨r,Z,by rw[el];exact JD ea,h.h H (ah.refl H) _ λv H2 s2 e2=> ?_⟩;have ro2:=B.ro.same (bh s2);obtain⟨l',QK,el',ea',OJ⟩:=kH ro2
 have hn:bA H0 H2 l' =some (.lst QK):=by
  rw[el'] at ro2
  cases ro2 with
  |lst e' h' =>
   have:=(eZ e').1;rw[ea'] at this;cases this;exact e'
 have MS:=(eZ hn).2 _ rfl;refine⟨l',QK,v,el',Z,ea',by rw[bX OJ];exact iX (oB hl) (by decide),q r _ ⟨λc o ec=> ?_,?_,?_,?_⟩⟩
 .rw[az (aA ec MS)];exact s2 _ _ (B.sm _ _ ec)
 all_goals
  have kk:∀c o,c≠l'->bA H0 H2 c=some o->bA H0 (upd H2 l' (.lst (QK ++[v]))) c=some o:=λc o hc e=>cM (by rw[az hc];exact(eZ e).1) (eZ e).2;have z1:=oB h1;have z2:=oB hz
 .exact b8.apart hn OJ kk (B.tl.same (bh s2)) (iX (show _<=199 by decide+kernel) (by lia))
 .exact b8.apart hn OJ kk (B.ei.same (bh s2)) (iX (show _<=199 by decide+kernel) (by lia))
 .rw[el'];exact .lst (cM af (λ_ _=>MS)) (iC (bj.apart hn OJ kk OJ (by lia)) (.cons (b8.apart hn OJ kk e2 (by lia)) .nil))
def F7(A:nS):Sp:=λvs H Q _=>vs=[]/\oY A H/\∀H',fZ A H H'->oY A H'->Q (.bl true) H'
theorem qY(T:Txt K mg A)(Fm:wV P w K A fm)(Fo:∀x:Str,bg.lookup x=none->eV fm.kF (.inr x)=none)(df:Qo A):aT P w K mg base dO 55 A.eY A.gN [] (F7 A):=by
 have oQ:aT P w K mg base dO 54 A.gx A.fN ["_law_body_here"] (Ag A):=aT.NJ (by rintro vs H Q E ⟨v,e,_⟩;rw[e];rfl) λxp=>tH T Fm Fo df xp;refine T.e_.F.okN aX ?_
 rintro cB Ar outer s H vs Q E hr ⟨rfl,tabs,q⟩
 have Hk:(Ar.deeper (envOfC "_law_bounds_right" (av gS) s.heap.objs.size A.eY cB)).units<cLine:=by
  have:=hr.un
  lia
 refine⟨_,(aD (bN (i:=0) aX.nd Z (Or.inl Z) (bF xg (aI (aa (λ_ _=>rfl) (aR (aa (λ_ _=>rfl) ⟨ai⟩ (aa (λ_ _=>rfl) ⟨ai⟩ ao))) ao)) ⟨ae⟩) (by kernel_rfl) (Or.inl Z)) (aD (bN (i:=1) aX.nd Z (Or.inl Z) (aR (aa (λ_ _=>rfl) ⟨ai⟩ (aa (λ_ _=>rfl) (aI (aa (λ_ _=>rfl) (aR (aa (λ_ _=>rfl) ⟨ai⟩ (aa (λ_ _=>rfl) ⟨ai⟩ (aa (λ_ _=>rfl) ⟨eh⟩ ao)))) ao)) (aa (λ_ _=>rfl) (aI ao) ao)))) (by kernel_rfl) (Or.inl Z)) (aD (bN (i:=2) aX.nd Z (Or.inl Z) (aI (aa (λ_ _=>rfl) (jB mI ⟨(pv 0)⟩ bW (bQ ae)) (aa (λ_ _=>rfl) ⟨(pv 0)⟩ (aa (λ_ _=>rfl) (lI (iO T) hr T.g6 aC (λ_ _=>rfl) (λ_ _=>rfl) (aa (λ_ _=>rfl) ⟨ae⟩ (aa (λ_ _=>rfl) (jB mI ⟨(pv 0)⟩ bW (bQ ae)) ao))) (aa (λ_ _=>rfl) (lI (iO T) hr T.g6 aC (λ_ _=>rfl) (λ_ _=>rfl) (aa (λ_ _=>rfl) ⟨ae⟩ (aa (λ_ _=>rfl) (aI ao) ao))) (aa (λ_ _=>rfl) (lI (iO T) hr T.g6 aC (λ_ _=>rfl) (λ_ _=>rfl) (aa (λ_ _=>rfl) ⟨ae⟩ (aa (λ_ _=>rfl) (jB mI ⟨(pv 0)⟩ bW (bQ ae)) ao))) (aa (λ_ _=>rfl) (bF xg (aI (aa (λ_ _=>rfl) ⟨(pv 1)⟩ ao)) ⟨ae⟩) ao))))))) (by kernel_rfl) (Or.inl Z)) (aD (bN (i:=2) aX.nd Z (Or.inl Z) (bF fH ⟨(pv 2)⟩ (aI (aa (λ_ _=>rfl) (bF xg (aI (aa (λ_ _=>rfl) ⟨(pv 1)⟩ ao)) ⟨ae⟩) (aa (λ_ _=>rfl) (aI (aa (λ_ _=>rfl) (aR (aa (λ_ _=>rfl) ⟨ai⟩ (aa (λ_ _=>rfl) ⟨ai⟩ (aa (λ_ _=>rfl) ⟨ae⟩ (aa (λ_ _=>rfl) ⟨ae⟩ (aa (λ_ _=>rfl) (aI (aa (λ_ _=>rfl) ⟨(pv 1)⟩ ao)) ao)))))) ao)) (aa (λ_ _=>rfl) (aI (aa (λ_ _=>rfl) (aR (aa (λ_ _=>rfl) ⟨ai⟩ (aa (λ_ _=>rfl) ⟨ai⟩ (aa (λ_ _=>rfl) ⟨ae⟩ (aa (λ_ _=>rfl) ⟨ae⟩ (aa (λ_ _=>rfl) (aR (aa (λ_ _=>rfl) ⟨(pv 1)⟩ ao)) ao)))))) (aa (λ_ _=>rfl) ⟨(pv 1)⟩ ao))) ao))))) (by kernel_rfl) (Or.inl Z)) (aD (bN (i:=2) aX.nd Z (Or.inl Z) (bF fH ⟨(pv 2)⟩ (aI (aa (λ_ _=>rfl) (bF fH (aI (aa (λ_ _=>rfl) (aR (aa (λ_ _=>rfl) ⟨ai⟩ (aa (λ_ _=>rfl) ⟨ai⟩ (aa (λ_ _=>rfl) ⟨ae⟩ (aa (λ_ _=>rfl) ⟨ae⟩ (aa (λ_ _=>rfl) (jB mI ⟨(pv 0)⟩ bW (bQ ae)) ao)))))) ao)) (jB mI ⟨(pv 0)⟩ bW (bQ ae))) (aa (λ_ _=>rfl) (aI (aa (λ_ _=>rfl) (aR (aa (λ_ _=>rfl) ⟨ai⟩ (aa (λ_ _=>rfl) ⟨ai⟩ (aa (λ_ _=>rfl) ⟨ae⟩ (aa (λ_ _=>rfl) ⟨ae⟩ (aa (λ_ _=>rfl) (jB mI ⟨(pv 0)⟩ bW (bQ ae)) ao)))))) ao)) ao)))) (by kernel_rfl) (Or.inl Z)) (aD (bN (i:=2) aX.nd Z (Or.inl Z) (bF fH ⟨(pv 2)⟩ (aI (aa (λ_ _=>rfl) (bF fH (aI (aa (λ_ _=>rfl) (aR (aa (λ_ _=>rfl) ⟨ai⟩ (aa (λ_ _=>rfl) ⟨ai⟩ (aa (λ_ _=>rfl) ⟨ae⟩ (aa (λ_ _=>rfl) ⟨ai⟩ ao))))) ao)) (bF xg (aI (aa (λ_ _=>rfl) ⟨(pv 1)⟩ ao)) ⟨ae⟩)) (aa (λ_ _=>rfl) (aI (aa (λ_ _=>rfl) (aR (aa (λ_ _=>rfl) ⟨ai⟩ (aa (λ_ _=>rfl) ⟨ai⟩ (aa (λ_ _=>rfl) ⟨ae⟩ (aa (λ_ _=>rfl) ⟨ae⟩ (aa (λ_ _=>rfl) (bF fH (aI (aa (λ_ _=>rfl) ⟨(pv 1)⟩ (aa (λ_ _=>rfl) ⟨(pv 1)⟩ ao))) (jB mI ⟨(pv 0)⟩ bW (bQ ae))) ao)))))) ao)) ao)))) (by kernel_rfl) (Or.inl Z)) (aD (bN (i:=2) aX.nd Z (Or.inl Z) (bF fH ⟨(pv 2)⟩ (aI (aa (λ_ _=>rfl) (aI (aa (λ_ _=>rfl) (aR (aa (λ_ _=>rfl) ⟨ai⟩ (aa (λ_ _=>rfl) ⟨ai⟩ (aa (λ_ _=>rfl) (aI (aa (λ_ _=>rfl) (aR (aa (λ_ _=>rfl) ⟨ai⟩ (aa (λ_ _=>rfl) ⟨ai⟩ (aa (λ_ _=>rfl) ⟨ae⟩ (aa (λ_ _=>rfl) ⟨ae⟩ (aa (λ_ _=>rfl) (aI ao) ao)))))) (aa (λ_ _=>rfl) (aR (aa (λ_ _=>rfl) ⟨ai⟩ (aa (λ_ _=>rfl) ⟨ai⟩ (aa (λ_ _=>rfl) ⟨ae⟩ (aa (λ_ _=>rfl) ⟨eh⟩ ao))))) ao))) ao)))) ao)) (aa (λ_ _=>rfl) (lI (iO T) hr T.g6 aC (λ_ _=>rfl) (λ_ _=>rfl) (aa (λ_ _=>rfl) ⟨ae⟩ (aa (λ_ _=>rfl) (aI ao) ao))) ao)))) (by kernel_rfl) (Or.inl Z)) (aD (bN (i:=2) aX.nd Z (Or.inl Z) (bF fH ⟨(pv 2)⟩ (aI (aa (λ_ _=>rfl) (aI (aa (λ_ _=>rfl) (aR (aa (λ_ _=>rfl) ⟨ai⟩ (aa (λ_ _=>rfl) ⟨ai⟩ (aa (λ_ _=>rfl) (aI (aa (λ_ _=>rfl) (aR (aa (λ_ _=>rfl) ⟨ai⟩ (aa (λ_ _=>rfl) ⟨ai⟩ (aa (λ_ _=>rfl) ⟨ae⟩ (aa (λ_ _=>rfl) ⟨ai⟩ ao))))) (aa (λ_ _=>rfl) (aR (aa (λ_ _=>rfl) ⟨ai⟩ (aa (λ_ _=>rfl) ⟨ai⟩ (aa (λ_ _=>rfl) (aI ao) ao)))) ao))) ao)))) ao)) (aa (λ_ _=>rfl) (bF xg (aI (aa (λ_ _=>rfl) (aR (aa (λ_ _=>rfl) ⟨ai⟩ (aa (λ_ _=>rfl) ⟨ai⟩ (aa (λ_ _=>rfl) (aR ao) ao)))) ao)) ⟨ae⟩) ao)))) (by kernel_rfl) (Or.inl Z)) (aD (bN (i:=2) aX.nd Z (Or.inl Z) (bF fH ⟨(pv 2)⟩ (aI (aa (λ_ _=>rfl) (aI (aa (λ_ _=>rfl) (aR (aa (λ_ _=>rfl) ⟨ai⟩ (aa (λ_ _=>rfl) ⟨ai⟩ (aa (λ_ _=>rfl) (aI (aa (λ_ _=>rfl) (aR (aa (λ_ _=>rfl) ⟨ai⟩ (aa (λ_ _=>rfl) ⟨ai⟩ (aa (λ_ _=>rfl) ⟨ae⟩ (aa (λ_ _=>rfl) ⟨ae⟩ (aa (λ_ _=>rfl) (aI ao) ao)))))) ao)) ao)))) ao)) (aa (λ_ _=>rfl) (aI (aa (λ_ _=>rfl) (aR (aa (λ_ _=>rfl) ⟨ai⟩ (aa (λ_ _=>rfl) ⟨ai⟩ (aa (λ_ _=>rfl) (aI ao) ao)))) (aa (λ_ _=>rfl) (aR (aa (λ_ _=>rfl) ⟨ai⟩ (aa (λ_ _=>rfl) ⟨ai⟩ (aa (λ_ _=>rfl) ⟨ae⟩ (aa (λ_ _=>rfl) ⟨ai⟩ ao))))) ao))) ao)))) (by kernel_rfl) (Or.inl Z)) (aD (AX (VB gT D' F' dw (pv 2) (λ_ _=>rfl) (aa (λ_ _=>rfl) (aI (aa (λ_ _=>rfl) (aR (aa (λ_ _=>rfl) ⟨ai⟩ (aa (λ_ _=>rfl) ⟨ai⟩ (aa (λ_ _=>rfl) (aI (aa (λ_ _=>rfl) (aR (aa (λ_ _=>rfl) ⟨ai⟩ (aa (λ_ _=>rfl) ⟨ai⟩ (aa (λ_ _=>rfl) (aI (aa (λ_ _=>rfl) (aR (aa (λ_ _=>rfl) ⟨ai⟩ (aa (λ_ _=>rfl) ⟨ai⟩ (aa (λ_ _=>rfl) ⟨ae⟩ (aa (λ_ _=>rfl) ⟨ai⟩ ao))))) ao)) ao)))) ao)) ao)))) ao)) ao) (by kernel_rfl) Z) (by kernel_rfl)) (aD (AX (VB gT D' F' dw (pv 2) (λ_ _=>rfl) (aa (λ_ _=>rfl) (aI (aa (λ_ _=>rfl) (aR (aa (λ_ _=>rfl) ⟨ai⟩ (aa (λ_ _=>rfl) ⟨ai⟩ (aa (λ_ _=>rfl) ⟨ae⟩ (aa (λ_ _=>rfl) ⟨ai⟩ ao))))) (aa (λ_ _=>rfl) (aR (aa (λ_ _=>rfl) ⟨ai⟩ (aa (λ_ _=>rfl) ⟨ai⟩ (aa (λ_ _=>rfl) (aI ao) ao)))) ao))) ao) (by kernel_rfl) Z) (by kernel_rfl)) (aD (bN (i:=2) aX.nd Z (Or.inl Z) (bF fH ⟨(pv 2)⟩ (aI (aa (λ_ _=>rfl) (aI (aa (λ_ _=>rfl) (aR (aa (λ_ _=>rfl) ⟨ai⟩ (aa (λ_ _=>rfl) (aI (aa (λ_ _=>rfl) (aR (aa (λ_ _=>rfl) ⟨ai⟩ (aa (λ_ _=>rfl) ⟨ai⟩ (aa (λ_ _=>rfl) (aI ao) ao)))) ao)) (aa (λ_ _=>rfl) (aI (aa (λ_ _=>rfl) (aR (aa (λ_ _=>rfl) ⟨ai⟩ (aa (λ_ _=>rfl) ⟨ai⟩ (aa (λ_ _=>rfl) ⟨ae⟩ (aa (λ_ _=>rfl) ⟨ai⟩ ao))))) ao)) ao)))) ao)) ao))) (by kernel_rfl) (Or.inl Z)) (aD (AX (VB gT D' F' dw (pv 2) (λ_ _=>rfl) (aa (λ_ _=>rfl) (bF xg (aI (aa (λ_ _=>rfl) (aR (aa (λ_ _=>rfl) ⟨ai⟩ (aa (λ_ _=>rfl) ⟨ai⟩ (aa (λ_ _=>rfl) (bF iT (bF qm ⟨ae⟩ ⟨ae⟩) ⟨ae⟩) ao)))) ao)) ⟨ae⟩) ao) (by kernel_rfl) Z) (by kernel_rfl)) (aD (bN (i:=2) aX.nd Z (Or.inl Z) (bF fH ⟨(pv 2)⟩ (aI (aa (λ_ _=>rfl) (aI (aa (λ_ _=>rfl) (aR (aa (λ_ _=>rfl) ⟨ai⟩ (aa (λ_ _=>rfl) (aI (aa (λ_ _=>rfl) (aR (aa (λ_ _=>rfl) ⟨ai⟩ (aa (λ_ _=>rfl) ⟨ae⟩ ao))) ao)) (aa (λ_ _=>rfl) ⟨eh⟩ ao)))) ao)) (aa (λ_ _=>rfl) (aI (aa (λ_ _=>rfl) (aR (aa (λ_ _=>rfl) ⟨ai⟩ (aa (λ_ _=>rfl) ⟨ai⟩ (aa (λ_ _=>rfl) (aI (aa (λ_ _=>rfl) (aR (aa (λ_ _=>rfl) ⟨ai⟩ (aa (λ_ _=>rfl) ⟨ae⟩ ao))) ao)) ao)))) ao)) ao)))) (by kernel_rfl) (Or.inl Z)) (aD (bN (i:=2) aX.nd Z (Or.inl Z) (bF fH ⟨(pv 2)⟩ (aI (aa (λ_ _=>rfl) (aI (aa (λ_ _=>rfl) (aR (aa (λ_ _=>rfl) ⟨ai⟩ (aa (λ_ _=>rfl) ⟨ai⟩ (aa (λ_ _=>rfl) ⟨ae⟩ (aa (λ_ _=>rfl) ⟨ae⟩ (aa (λ_ _=>rfl) (aI (aa (λ_ _=>rfl) ⟨eh⟩ ao)) ao)))))) ao)) (aa (λ_ _=>rfl) (aI (aa (λ_ _=>rfl) (aR (aa (λ_ _=>rfl) ⟨ai⟩ (aa (λ_ _=>rfl) ⟨ai⟩ (aa (λ_ _=>rfl) (aI (aa (λ_ _=>rfl) (aR (aa (λ_ _=>rfl) (aI ao) (aa (λ_ _=>rfl) ⟨ai⟩ ao))) ao)) ao)))) ao)) (aa (λ_ _=>rfl) (aI (aa (λ_ _=>rfl) (aR (aa (λ_ _=>rfl) ⟨rq⟩ (aa (λ_ _=>rfl) ⟨ai⟩ ao))) ao)) ao))))) (by kernel_rfl) (Or.inl Z)) (bC (jJ ⟨(HG (oz Hk) (Ls ["_law_body_here"] 1 [] (ff (pv 2)) (λ_ _ _ _ _=>⟨(jE 0 (show(["_law_body_here"]:au).Nodup by decide+kernel)),(LS (iw (gv (cG oQ hr T.oR aC (aM (pv 0)))))),(pv 0)⟩)) (bH dY))⟩))))))))))))))))),?_⟩;have F0:Fr H H:=λ_ h=>h;refine xZ (tY (Fx (G:=H) (d:= .list (List.replicate 41 [tlD]).flatten) ?_ λvt H1 s1 et=>zY ?_))
 .exact i9 (ds:=[tlD]) (by decide) F0 (lj F0 (aW (kE (aW eT (aW eT c_))) c_)) Z (by decide)
 dsimp only;have F1:Fr H H1:=F0.same s1;refine xZ (tY (Zm (G:=H) (d:=eiD) ?_ λve H2 s2 ee=>zY ?_))
 .exact kE (aW eT (aW (lj F1 (aW (kE (aW eT (aW eT (aW iV c_)))) c_)) (aW (lj F1 c_) c_)))
 dsimp only;have F:Fr H H2:=F1.same s2;have Tq:=et.same (bh s2);refine xZ (tY ?_);apply yB (G:=H)
 .repeat (first|exact c_|apply aW|exact iV|exact fX|exact eT|exact qf|apply jm|apply jy F|exact cE rfl Tq|exact cE rfl ee|apply fw (by decide) (by decide) F|apply nK (by decide) F|apply i9 (by decide) F (hn:=by decide)|apply i5 F|exact ju ⟨by decide,by decide,by decide⟩|exact rfl)
 intro vr H3 s3 er;have B:Bn H H3 vt ve vr _:=⟨(s1.trans s2).trans s3,Tq.same (bh s3),ee.same (bh s3),er⟩;show Gu _ _ _ [some vt,some ve,some vr] H3;apply i0 B
 .repeat (first|exact c_|apply aW|exact iV|exact fX|exact eT|exact qf|apply jm|apply jy B.fr|exact cE rfl B.tl|exact cE rfl B.ei|apply fw (by decide) (by decide) B.fr|apply nK (by decide) B.fr|apply i9 (by decide) B.fr (hn:=by decide)|apply i5 B.fr|exact ju ⟨by decide,by decide,by decide⟩|exact rfl)
 .rfl
 clear B;intro vr H3 B;apply i0 B
 .repeat (first|exact c_|apply aW|exact iV|exact fX|exact eT|exact qf|apply jm|apply jy B.fr|exact cE rfl B.tl|exact cE rfl B.ei|apply fw (by decide) (by decide) B.fr|apply nK (by decide) B.fr|apply i9 (by decide) B.fr (hn:=by decide)|apply i5 B.fr|exact ju ⟨by decide,by decide,by decide⟩|exact rfl)
 .rfl
 clear B;intro vr H3 B;apply i0 B
 .repeat (first|exact c_|apply aW|exact iV|exact fX|exact eT|exact qf|apply jm|apply jy B.fr|exact cE rfl B.tl|exact cE rfl B.ei|apply fw (by decide) (by decide) B.fr|apply nK (by decide) B.fr|apply i9 (by decide) B.fr (hn:=by decide)|apply i5 B.fr|exact ju ⟨by decide,by decide,by decide⟩|exact rfl)
 .rfl
 clear B;intro vr H3 B;apply i0 B
 .repeat (first|exact c_|apply aW|exact iV|exact fX|exact eT|exact qf|apply jm|apply jy B.fr|exact cE rfl B.tl|exact cE rfl B.ei|apply fw (by decide) (by decide) B.fr|apply nK (by decide) B.fr|apply i9 (by decide) B.fr (hn:=by decide)|apply i5 B.fr|exact ju ⟨by decide,by decide,by decide⟩|exact rfl)
 .rfl
 clear B;intro vr H3 B;apply i0 B
 .repeat (first|exact c_|apply aW|exact iV|exact fX|exact eT|exact qf|apply jm|apply jy B.fr|exact cE rfl B.tl|exact cE rfl B.ei|apply fw (by decide) (by decide) B.fr|apply nK (by decide) B.fr|apply i9 (by decide) B.fr (hn:=by decide)|apply i5 B.fr|exact ju ⟨by decide,by decide,by decide⟩|exact rfl)
 .rfl
 clear B;intro vr H3 B;apply i0 B
 .repeat (first|exact c_|apply aW|exact iV|exact fX|exact eT|exact qf|apply jm|apply jy B.fr|exact cE rfl B.tl|exact cE rfl B.ei|apply fw (by decide) (by decide) B.fr|apply nK (by decide) B.fr|apply i9 (by decide) B.fr (hn:=by decide)|apply i5 B.fr|exact ju ⟨by decide,by decide,by decide⟩|exact rfl)
 .rfl
 clear B;intro vr H3 B;apply AG B
 .repeat (first|exact c_|apply aW|exact iV|exact fX|exact eT|exact qf|apply jm|apply jy B.fr|exact cE rfl B.tl|exact cE rfl B.ei|apply fw (by decide) (by decide) B.fr|apply nK (by decide) B.fr|apply i9 (by decide) B.fr (hn:=by decide)|apply i5 B.fr|exact ju ⟨by decide,by decide,by decide⟩|exact rfl)
 .rfl
 .decide+kernel
 .decide+kernel
 clear B;intro vr H3 B;apply AG B
 .repeat (first|exact c_|apply aW|exact iV|exact fX|exact eT|exact qf|apply jm|apply jy B.fr|exact cE rfl B.tl|exact cE rfl B.ei|apply fw (by decide) (by decide) B.fr|apply nK (by decide) B.fr|apply i9 (by decide) B.fr (hn:=by decide)|apply i5 B.fr|exact ju ⟨by decide,by decide,by decide⟩|exact rfl)
 .rfl
 .decide+kernel
 .decide+kernel
 clear B;intro vr H3 B;apply i0 B
 .repeat (first|exact c_|apply aW|exact iV|exact fX|exact eT|exact qf|apply jm|apply jy B.fr|exact cE rfl B.tl|exact cE rfl B.ei|apply fw (by decide) (by decide) B.fr|apply nK (by decide) B.fr|apply i9 (by decide) B.fr (hn:=by decide)|apply i5 B.fr|exact ju ⟨by decide,by decide,by decide⟩|exact rfl)
 .rfl
 clear B;intro vr H3 B;apply AG B
 .repeat (first|exact c_|apply aW|exact iV|exact fX|exact eT|exact qf|apply jm|apply jy B.fr|exact cE rfl B.tl|exact cE rfl B.ei|apply fw (by decide) (by decide) B.fr|apply nK (by decide) B.fr|apply i9 (by decide) B.fr (hn:=by decide)|apply i5 B.fr|exact ju ⟨by decide,by decide,by decide⟩|exact rfl)
 .rfl
 .decide+kernel
 .decide+kernel
 clear B;intro vr H3 B;apply i0 B
 .repeat (first|exact c_|apply aW|exact iV|exact fX|exact eT|exact qf|apply jm|apply jy B.fr|exact cE rfl B.tl|exact cE rfl B.ei|apply fw (by decide) (by decide) B.fr|apply nK (by decide) B.fr|apply i9 (by decide) B.fr (hn:=by decide)|apply i5 B.fr|exact ju ⟨by decide,by decide,by decide⟩|exact rfl)
 .rfl
 clear B;intro vr H3 B;apply i0 B
 .repeat (first|exact c_|apply aW|exact iV|exact fX|exact eT|exact qf|apply jm|apply jy B.fr|exact cE rfl B.tl|exact cE rfl B.ei|apply fw (by decide) (by decide) B.fr|apply nK (by decide) B.fr|apply i9 (by decide) B.fr (hn:=by decide)|apply i5 B.fr|exact ju ⟨by decide,by decide,by decide⟩|exact rfl)
 .rfl
 clear B;intro vr H3 B;obtain⟨l,xs,rfl,el,xl,hx⟩:=B.items (by decide+kernel) rfl;have Lj:=tabs.same B.sm;refine C4 (IB ⟨_,Z,l,Z,⟨_,cF.of el⟩,?_⟩);refine BK (xs:=xs) (λp i ys H' =>ys=[]/\fZ A H3 H'/\oY A H') (aU xl (by decide)) ?_ ?_ ?_ ?_
 .rintro p i ys H' ⟨_,kp,_⟩
  exact fL (cF.of (kp.lst Lj el))
 .exact λp hp=>⟨Z,(ah.upd hp).yk,Lj.same (ah.upd hp)⟩
 .rintro p i x ys H' C1 C0 hp hi ⟨rfl,kp,tb⟩ Lb c1 c0
  obtain⟨d,e,ok,z,nl⟩:=hx x (bE hi);have e' :=(QT Lj e).same kp.h;refine⟨(gA.refl _).own (by decide),_,Z,x,Z,⟨d,e',ok,z⟩,tb,λgX rt ac9 => ?_⟩;have k' :fZ A H' gX :=λc o h1 h2 ec=>(rt c o h1 h2 ec).elim id (by rintro ⟨hf,zs,ho⟩;exact absurd (ho▸ec) (TK 40 x _ d e' nl hf c zs Z));exact⟨_,Z,bo (c0 gX (k'.lst tb Lb) ⟨Z,kp.trans k',ac9⟩)⟩
 .rintro p ys H' hp ⟨rfl,kp,tb⟩ Lb _
  exact⟨nq,λe he=>zE (ah.upd he _ _ Lb) af (q _ (B.sm.yk.trans (kp.trans (ah.upd he).yk)) (tb.same (ah.upd he)))⟩
theorem VF{A:nS}{v:V}{Hs G Hx Z2:Hp}(sm:Sm (bA G Hx) 80 1000 v)(S:ah Hs G)(Sx:ah Hs Hx)(rt:RtK A v Hx Z2):fZ A Hs Z2:=λc o h1 h2 e=>by
 rcases rt c o h1 h2 (Sx _ _ e) with h|⟨hf,xs,rfl⟩
 .exact h
 .rw[(Dp.same wk 40 v (sm.dp (aK _) 40 80 v (by lia))).2] at hf;obtain⟨d,hd,_⟩:=sm.fb 40 80 v (.ref c) hf;have g:=S _ _ e;have x:=Sx _ _ e
  cases hd with
  |lst e' _=>
   have:=(eZ e').2 _ rfl;rw[g] at this;cases this
  |tup e' _=>
   have:=(eZ e').1;rw[x] at this;cases this
  |Co e' _ _=>
   have:=(eZ e').1;rw[x] at this;cases this
noncomputable def NW:List U':=[.none,.int 7,.str "tell",.dict [],.bool true,.str "",.dict [(.str "tell",.str "a")]]
theorem VZ{G H:Hp}{σ:L2.St}{x y:Str}:kC G (Ma [(tC (.str x),tC (.str y))]) σ H (.dict [(.str x,.str y)]):=⟨λH1 s Q q p hp=>by
 refine⟨af,[(.inr x,.str y)],Z,(show 1<=15 by decide),q _ _ (fh hp (ah.upd hp)) (.Co (kvs:=[(.inr x,.str y)]) (cM ?_ (λ_ z=>nomatch z)) Z (.cons (.str y) .nil))⟩;rw[af];rfl⟩
def YS(A:nS)(K:Frag):Sp:=λvs H Q _=>∃(a:S') (ns:List Int),vs=[.ref a]/\cF K H a (ns.map V.int)/\ns.length<=63/\oY A H/\∀H',Q (.bl true) H'
theorem VQ(T:Txt K mg A)(Fm:wV P w K A fm)(Fo:∀x:Str,bg.lookup x=none->eV fm.kF (.inr x)=none)(df:Qo A):aT P w K mg base dO 56 A.Mo A.Kq ["_law_script"] (YS A K):=by
 have oQ:aT P w K mg base dO 54 A.gx A.fN ["_law_body_here"] (Ag A):=aT.NJ (by rintro vs H Q E ⟨v,e,_⟩;rw[e];rfl) λxp=>tH T Fm Fo df xp;have sQ:aT P w K mg base dO 55 A.eY A.gN [] (F7 A):=qY T Fm Fo df;refine T.Uw.F.okM nj (λvs H Q E h=> ?_) (λcB Ar outer s0 H vs Q E hr h=> ?_)
 .obtain⟨a,ns,rfl,_⟩:=h;rfl
 .obtain⟨a,ns,rfl,hS,hl,tabs,q⟩:=h
  have Hk:(Ar.deeper (envOfC "law" (av Nq) s0.heap.objs.size A.Mo cB)).units<cLine:=by
   have:=hr.un
   lia
  have hSx:∀H',fZ A H H'->cF K H' a (ns.map V.int):=λH' k=>by
   obtain⟨_,⟨ps1,e1,_⟩,⟨ps2,e2,_⟩⟩:=id tabs;rcases hS with(h|⟨o,h⟩)|h
   .exact .inl (.inl (k.lst tabs h))
   .exact .inl (.inr ⟨o,k _ _ (dB h e1 (λz=>nomatch z)) (dB h e2 (λz=>nomatch z)) h⟩)
   .exact .inr h
  refine⟨_,(aD (Rg (gJ Z T.kT (aM (iR (kY Z) T.yy Boot.«max» (ag ae (aM (iR (Lo Z) T.ZC Boot.«min» (ag ae (aM (iR br T.g7 Boot.«len» (aM (pv 0))))))))))) (jE 1 nj.nd) (aD (bN (i:=2) nj.nd Z (Or.inr Z) (aac (Gf T) hr T.A7 aC (λ_ _=>rfl) (aa (λ_ _=>rfl) (lI (ET T) hr T.xP aC (λ_ _=>rfl) (λ_ _=>rfl) (aa (λ_ _=>rfl) ⟨(pv 0)⟩ (aa (λ_ _=>rfl) ⟨(pv 1)⟩ ao))) ao)) (by kernel_rfl) (Or.inl Z)) (aD (bN (i:=3) nj.nd Z (Or.inl Z) (lI (aE T) hr T.aF aC (λ_ _=>rfl) (λ_ _=>rfl) (aa (λ_ _=>rfl) ⟨(pv 2)⟩ (aa (λ_ _=>rfl) ⟨ae⟩ ao))) (by kernel_rfl) (Or.inl Z)) (aD (bN (i:=4) nj.nd Z (Or.inl Z) (lI (aE T) hr T.aF aC (λ_ _=>rfl) (λ_ _=>rfl) (aa (λ_ _=>rfl) ⟨(pv 2)⟩ (aa (λ_ _=>rfl) ⟨ae⟩ ao))) (by kernel_rfl) (Or.inl Z)) (aD (bN (i:=5) nj.nd Z (Or.inl Z) (aac (B0 T) hr T.wJ aC (λ_ _=>rfl) (aa (λ_ _=>rfl) ⟨(pv 2)⟩ ao)) (by kernel_rfl) (Or.inl Z)) (aD (bN (i:=6) nj.nd Z (Or.inr Z) ⟨(cG (qu T 9) hr T.jK aC (ag (pv 5) (ag (bH dY) (aM ae))))⟩ (by kernel_rfl) (Or.inl Z)) (aD ⟨(Il 7 nj.nd ["_law_turn","_law_box_here","_law_rows"] 1 [2,6] (gJ Z T.kT (aM (aL md (aL bw ae (pv 4)) (NA xj T.CD Boot.«int» (aM (HG (xt Hk) (pv 6) (bH dY))))))) (λ_ _ _ _ _=>⟨(jE 0 (show(["_law_turn","_law_box_here","_law_rows"]:au).Nodup by decide+kernel)),wH,(cG (aE T) hr T.aF aC (ag (pv 1) (aM (iR (Cc (K:=K) Z) T.g7 Boot.«len» (aM (pv 2))))))⟩))⟩ (aD (bN (i:=5) nj.nd Z (Or.inl Z) ⟨(cG (AR T 8) hr T.nt aC (ag (pv 2) (ag (pv 5) (ag (bH (aM ae)) (aM (pv 7))))))⟩ (by kernel_rfl) (Or.inl Z)) (aD (eL (wn cK (pv 3) ae) (bC (bN (i:=5) nj.nd Z (Or.inl Z) (uq a8 (aI (aa (λ_ _=>rfl) ⟨eh⟩ (aa (λ_ _=>rfl) ⟨ae⟩ (aa (λ_ _=>rfl) ⟨ai⟩ (aa (λ_ _=>rfl) ⟨rq⟩ (aa (λ_ _=>rfl) ⟨ky⟩ (aa (λ_ _=>rfl) ⟨ai⟩ (aa (λ_ _=>rfl) ⟨(vZ (g8 ai ai u_) Z Z (by simp) (by decide))⟩ ao)))))))) (lI (aE T) hr T.aF aC (λ_ _=>rfl) (λ_ _=>rfl) (aa (λ_ _=>rfl) ⟨(pv 2)⟩ (aa (λ_ _=>rfl) ⟨ae⟩ ao))) (λ_ _=>rfl)) (by kernel_rfl) (Or.inl Z))) cf) (bC (eL (iw (gv (cG oQ hr T.oR aC (aM (pv 5))))) (bC (jJ ⟨ky⟩)) cf)))))))))) Z (λ_=>rfl)) (bC (jJ ⟨(MQ (sQ.mono (by decide)) hr Z T.e_.m T.e_.F.kp T.e_.b .nil aC)⟩))),?_⟩;refine⟨_,Z,a,_,Z,.inl hS,5,_,Z,2,_,Z,?_⟩;generalize hn:(if(if((List.map V.int ns).length:Int)<5 then((List.map V.int ns).length:Int) else 5)>2 then(if((List.map V.int ns).length:Int)<5 then((List.map V.int ns).length:Int) else 5) else 2)=n
  have nn:0<=n/\n<=5:=by
   rw[<-hn]
   split<;>split<;>lia
  refine⟨n,Z,by lia,by lia,?_⟩;refine nU (λi σ H' =>∃(x1 x2 x3 x4 x5 x6 x7:Option V),σ=[some (.ref a),x1,x2,x3,x4,x5,x6,x7]/\fZ A H H'/\oY A H') ⟨_,_,_,_,_,_,_,Z,(ah.refl H).yk,tabs⟩ ?_ ?_
  .rintro i σ Hs hi ⟨x1,x2,x3,x4,x5,x6,x7,rfl,kHs,tabS⟩
   refine⟨_,Z,_,Z,a,ns,_,Z,hSx _ kHs,by lia,by lia,λc=>⟨c,Z,λb H1 hb B s1=>⟨_,Z,b,9,0,Z,B,by lia,by decide,by decide,λwh H2 w0 w1 B2 O2=>⟨_,Z,b,2,0+1,Z,B2,by lia,by decide,by decide,λtw H3 t0 t1 B3 O3=>⟨_,Z,b,Z,B3,λl s H4 hl4 hd ok dp mn ⟨k',B4,Vt⟩ K4=> ?_⟩⟩⟩⟩⟩;have GD:∀{Hx Hy:Hp},ah Hs Hx->Kept b Hx Hy->ah Hs Hy:=λS k c o e=>k _ _ (aA e hb) (S _ _ e);have S4:ah Hs H4:=GD (GD (GD s1 O2.kept) O3.kept) K4;refine⟨_,Z,nq,λu hu=>⟨bA H3 H4,_,false,s,u,[],0,Z,wk.trans (ah.upd hu),hd,ok,by lia,af,by lia,by show 0+_<_;lia,λl' rz H5 XA s5 hrz R=> ?_⟩⟩;have s45:=(ah.upd (o:= .lst []) hu).trans s5;have rl:=R.len;have ml:=mM s [] 0
   have nb' :l'≠b:=by
    obtain⟨_,_,_,eb,_⟩:=B4;exact(aA (ah.upd (o:= .lst []) hu _ _ eb) XA).symm
   refine⟨_,Z,1,tw,Z,Z,_,Z,nq,λe6 Tx=>⟨l',e6,rz,Z,Z,ah.upd Tx _ _ hrz,af,.inr ⟨_,Z,_,_,Z,Z,.inl ⟨by lia,by lia⟩,?_⟩⟩⟩
   obtain⟨N,hN,N2,Np⟩:∃N:Nat,(1+tw)*(if(!rz.isEmpty)=true then 1 else 0)=(N:Int)/\N<=2/\(0<N->0<rz.length):=by
    cases rz with
    |nil=>exact⟨0,by simp,by decide,λz=>absurd z (by decide)⟩
    |cons y r=>exact⟨(1+tw).toNat,by show(1+tw)*1=_;lia,by lia,λ_=>Nat.succ_pos _⟩
   have Zq:=s45.trans (ah.upd (o:= .lst []) Tx);have Zc:=ah.upd (o:= .lst []) Tx _ _ hrz;generalize upd H5 e6 (.lst [])=H6 at Zq Zc ⊢;refine⟨N,by rw[<-hN],by lia,by lia,?_⟩;refine BK (xs:=(List.range N).map λ(i:Nat)=>V.int (0+(i:Int))) (λp i ys H' =>∃ms:List Int,ys=ms.map V.int/\Sw b H6 (k' +i) H') (by rw[a6,oy];exact aU N2 (by decide)) ?_ ?_ ?_ ?_
   .rintro p j ys H' _
    exact F5 0 N H'
   .exact λp hp=>⟨[],Z,Sw.same ⟨B4.same Zq,Kept.refl _ _⟩ (ah.upd hp)⟩
   .rintro p j x ys H' C1 C0 hp hj ⟨ms,rfl,W⟩ Lb c1 c0
    have jl:=(c8.mp hj).1;rw[a6,oy] at jl;have OK:p≠b:=(B4.same Zq).ne hp;refine⟨(gA.refl _).own (by decide),_,Z,_,Z,l',rz,Z,.inl (cF.of (W.kp _ _ nb' Zc)),b,rz.length,k' +j,Z,W.box,by lia,by have:=Np (by lia);lia,by lia,λr gX r0 r1 B'' O'' => ?_⟩;refine c1 (.int r) gX (O''.kept _ _ OK Lb) ⟨ms++[r],by rw[i7];rfl,?_,?_⟩
    .obtain⟨x',y',z',eb,rb⟩:=B'';exact⟨x',y',z',by rw[az OK.symm];exact eb,rb⟩
    .intro c' o hc e;rw[az (aA e hp)];exact O''.kept _ _ hc (W.kp _ _ hc e)
   rintro p ys H7 hp ⟨ms,rfl,W7⟩ Mi ml7
   rw[a6,a6,oy] at ml7;rw[a6,oy] at W7;have OK:p≠b:=(B4.same Zq).ne hp;have k47:Kept b H4 H7:=Zq.kept.trans W7.kp;have S7:ah Hs H7:=GD S4 k47;obtain⟨bx,by_,bz,eb3,_⟩:=id B3;obtain⟨cx,cy,cz,eb4,_⟩:=id B4
   have ZR:bA H3 H4 b=none:=by
    unfold bA;rw[eb4,eb3]
   refine⟨_,Z,_,Z,yZ,λct Yh=>⟨_,Z,?_⟩⟩;have s8:=ah.upd (o:= .lst [V.int 0]) Yh;have e8:upd H7 ct (.lst [V.int 0]) ct=some (.lst [.int 0]):=af;have ncb:ct≠b:=W7.box.ne Yh;have Ye:p≠ct:=aA Mi Yh
   have h0c:bA H3 H4 ct=none:=by
    unfold bA
    cases e:H4 ct with
    |none=>rfl
    |some o=>rw[k47 _ o ncb e] at Yh;cases Yh
   generalize upd H7 ct (.lst [V.int 0])=H8 at s8 e8 ⊢;have S8:=S7.trans s8;have B8:=W7.box.same s8;obtain⟨dx,dy,dz,eb8,_⟩:=id B8;have gb:H8 b≠none:=by rw[eb8];exact λz=>nomatch z
   have gc:H8 ct≠none:=by rw[e8];exact λz=>nomatch z
   refine⟨H8,bA H3 H4,b,ct,p,_,false,s,k' +N,ms,Z,(λc o e=>s8 _ _ (k47 _ _ (λz=>by rw[z,ZR] at e;cases e) (eZ e).1)),ZR,h0c,hd,ok,by lia,mn,⟨B8,⟨0,e8⟩,λ_ _ _ _ e=>e⟩,by lia,s8 _ _ Mi,by lia,ncb,OK,Ye,gb,gc,(λ_ h=>h),λl2 ws ds H9 k9 hl9 e9 d9 ok9 z9 pw9 hk9=> ?_⟩;have S9:ah Hs H9:=λc o e=>pw9.kp _ _ (aA e hb) (aA (S7 _ _ e) Yh) (S8 _ _ e);have sm9:Sm (bA H8 H9) 80 1000 (.ref l2):=⟨.list ds,.lst (cM e9 (λ_ _=>hl9)) d9,nB (k:=2*8+3+1) (a7.mpr ok9) (by decide),by rw[eK];lia⟩;apply jao (F:=λv h=>Sm (bA H8 h) 80 1000 v/\ah Hs h)
   .intro hM;refine⟨_,Z,Z,_,Z,mG (λ_=> ?_) (λ_=> ?_)⟩
    .refine tY (IB (yB (G:=H8) (d:= .list NW) ?_ λv3 HA sA dA=> ?_))
     .refine lj (λc hc=> ?_) ?_
      .cases e:H8 c with
       |none=>rfl
       |some o=>
        obtain⟨m9,hm9⟩:=pw9.cn;rw[pw9.kp _ o (pw9.box.ne hc) (aA hm9 hc).symm e] at hc;cases hc
      .exact aW iV (aW fX (aW eT (aW qf (aW P4 (aW eT (aW VZ c_))))))
     have BA:=pw9.box.same sA;refine⟨_,Z,b,7,k9,Z,BA,by lia,by decide,by decide,λr HB a0 a1 BB OB=>w6 (dA.same (gk BA gb OB.kept)) a0 a1 λuv ud Yn euv=> ?_⟩;have:=a7.mp (show NW.all (λd=>mC 80 d&&decide (eK d<=1000))=true by decide+kernel) ud Yn;rw[cI,ie] at this;exact hM uv HB ⟨⟨ud,euv,this.1,this.2⟩,GD (S9.trans sA) OB.kept⟩
    .exact hM (.ref l2) H9 ⟨sm9,S9⟩
   .rintro v HC ⟨smC,SC⟩
    refine zY ?_;dsimp only;exact⟨_,Z,v,Z,smC.same wk,tabS.same SC,λHD rt tbD=>⟨_,Z,bo ⟨_,_,_,_,_,_,_,Z,kHs.trans (VF smC S8 SC rt),tbD⟩⟩⟩
  .rintro σ Hs ⟨x1,x2,x3,x4,x5,x6,x7,rfl,kHs,tabS⟩
   exact⟨Z,tabS,λH' _ _=>q H'⟩
theorem M3{K:Frag}{c P:S'}{od:Option S'}{sl:Array (aO)}{v0 v1 v2 v3 v4 v5 v6 v8 Q4 v13 v14 v15 v16 v17:M'}{fl tx:Int}{tg tt tf:Tok}{b:Bool}{file:Str}
 (l:K.lookup c=some ⟨.type "code",od,.fields #[v0,v1,v2,v3,v4,v5,v6,.int fl tg,v8,.bool b,.int tx tt,.ref P,Q4,v13,v14,v15,v16,v17,.str file tf],sl⟩) (ne:c≠P):BL K (.ref c) P:=
 ⟨c,_,_,file,tf,fl,tg,b,tx,tt,Z,l,Z,Z,Z,Z,Z,Z,Z,Z,ne⟩
theorem Wo{K:Frag}{h:Y'}{mg:Str->aO}{bm:S'}{sl:Array (aO)}(X:K.In h)(G:h.Ns mainGlobals mg)(a:PySem.W.nsIn K mainGlobals "__builtins__"=some (some (.ref bm)))(l:K.lookup bm=some ⟨.type "module",some builtinsNs,.plain,sl⟩)(n1:bm≠builtinsNs)(n2:bm≠mainGlobals):Pn K mg:=
 ⟨bm,_,PySem.W.mg_of X G a,n1,n2,l,Z,Z,Z⟩
theorem ae_{K:Frag}{fd:aad}{ps:au}{T:S'}{o:Obj}{items:Array M'}{n:Nat}{k:M'->M'->M'->Option (Array M')->Sem (List (Str×M'))}(ho:K.lookup T=some o)(hd:fd.defaults= .ref T)(hs:o.data= .seq items n)
 (h1:∀a b c,bindArgs fd ⟨[a,b,c],[]⟩=seqItems? fd.defaults>>= k a b c) (h2:∀a b c,k a b c (some items)=pure (ps.zip [a,b,c])) (hp:ps.length=3:=by rfl):Binds K fd ps []:=by
 intro s us X hl;rw[fJ,hp] at hl;rw[fJ];exact Yg (P:=λus=>BindsTo s fd ⟨us,[]⟩ (ps.zip us)) (λa b c=>binds_K X hd ho hs (h1 a b c) (h2 a b c)) us hl
theorem aeP{K:Frag}{fd:aad}{ps:au}{T:S'}{o:Obj}{u:M'}{n:Nat}{k:M'->M'->Option (Array M')->Sem (List (Str×M'))}(ho:K.lookup T=some o)(hd:fd.defaults= .ref T)(hs:o.data= .seq #[u] n)
 (h1:∀a b,bindArgs fd ⟨[a,b],[]⟩=seqItems? fd.defaults>>= k a b) (h2:∀a b,k a b (some #[u])=pure (ps.zip [a,b,u])) (hp:ps.length=3:=by rfl):Binds K fd ps [u]:=by
 intro s us X hl;rw[bu,hp] at hl;have hl:us.length=2:=oG hl;exact Yx (P:=λus=>BindsTo s fd ⟨us,[]⟩ (ps.zip (us++[u]))) (λa b=>binds_K X hd ho hs (h1 a b) (h2 a b)) us hl
noncomputable abbrev adD(P:Params)(l:List (Str×Tok×S'))(ep:Nat):Obj:={cls:= .type "dict",data:= .dict (l.map λp=>(⟨PyData.keyHash P p.1,.str p.1 p.2.1,.ref p.2.2⟩:DictEntry)).toArray ep}
theorem JW:∀l:List (Str×Tok×S'),KV (l.map λp=>((Sum.inr p.1:wS),V.ref p.2.2)) (l.map λp=>((Sum.inr p.1:wS),Value.ref p.2.2))
 |[]=> .nil
 |p::r=> .cons ⟨Z,Z⟩ (JW r)
theorem A1(x:Str)(t:Tok):yD (.inr x) (.str x t)=true:=by
 show Value.isStrOf x (.str x t)=true;simp[Value.isStrOf]
theorem Ah{P:Z'}{w:W'}:∀l:List (Str×Tok×S'),Pairs (cW P w) (l.map λp=>(⟨PyData.keyHash w.params p.1,.str p.1 p.2.1,.ref p.2.2⟩:DictEntry)) (l.map λp=>((Sum.inr p.1:wS),Value.ref p.2.2))
 |[]=> .nil
 |p::r=> .cons (A1 p.1 p.2.1) Z (Ah r)
theorem GL{P:Z'}{w:W'}{K:Frag}{d:S'}{l:List (Str×Tok×S')}{ep:Nat}(lk:K.lookup d=some (adD w.params l ep))(nd:(l.map λp=>(Sum.inr p.1:wS)).Nodup)(ns:(d==sysModules)=false):AF P w K d (l.map λp=>((Sum.inr p.1:wS),V.ref p.2.2)):=by
 refine⟨_,l.map λp=>((Sum.inr p.1:wS),Value.ref p.2.2),lk,ns,JW l,λh e=>⟨_,_,ep,e,⟨Z,Z,Z⟩,Z,λx hx=> ?_,?_,?_⟩⟩
 .rw[List.mem_toArray] at hx;obtain⟨p,_,rfl⟩:=jn.mp hx;exact⟨.inr p.1,A1 p.1 p.2.1,Z⟩
 .rw[ES];exact Ah l
 .rw[kI];exact nd
theorem OL{K:Frag}{t:S'}{n:Nat}(l:List (Str×Tok))(lk:K.lookup t=some {cls:= .type "tuple",data:= .seq (l.map λp=>Value.str p.1 p.2).toArray n})(h:l.length<=10):∀H,bc K H t (l.map λp=>V.str p.1):=λH=>by
 refine .inr ⟨_,_,n,lk,Z,Z,?_,?_⟩
 .rw[bJ,a6];exact aU h (by decide)
 .rw[ES];clear lk h
  induction l with
  |nil=>exact .nil
  |cons p r ih=>exact .cons ⟨_,Z⟩ ih
theorem vv{K:Frag}{t:S'}{n:Nat}{i j:Int}{ti tj:Tok}(lk:K.lookup t=some {cls:= .type "tuple",data:= .seq #[.int i ti,.int j tj] n}):∀H,bc K H t [.int i,.int j]:=λH=> .inr ⟨_,_,n,lk,Z,Z,hV,.cons ⟨_,Z⟩ (.cons ⟨_,Z⟩ .nil)⟩
noncomputable def lF:List (Str×Tok×S'):=[("make",479,233),("put",483,234),("get",487,235),("set",491,236),("copy",494,237),("more",497,238),("tell",501,239),("same",503,240),("frame",506,241),("turns",509,242),("either",514,243)]
noncomputable def lB:List (Str×Tok×S'):=[("size",529,245),("cell",532,246),("many",535,247),("times",538,248)]
noncomputable def frm:Frm:=⟨lF.map λp=>((Sum.inr p.1:wS),V.ref p.2.2),lB.map λp=>((Sum.inr p.1:wS),V.ref p.2.2)⟩
theorem Qg(w:W'):∀p∈bg,∃(t:S') (l:List (Str×Tok)),eV frm.kF (.inr p.1)=some (.ref t)/\l.map (λp=>V.str p.1)=p.2.map V.str/\l.length<=10/\(uC w.params).lookup t=some {cls:= .type "tuple",data:= .seq (l.map λp=>Value.str p.1 p.2).toArray 0}:=by
 intro p hp;simp only[bg,aP,cO,cR] at hp;rcases hp with rfl|rfl|rfl|rfl|rfl|rfl|rfl|rfl|rfl|rfl|rfl
 .exact⟨233,[("name",480),("size",481),("mark",482)],by with_unfolding_all rfl,Z,by decide,by kernel_rfl⟩
 .exact⟨234,[("name",484),("cell",485),("name",486)],by with_unfolding_all rfl,Z,by decide,by kernel_rfl⟩
 .exact⟨235,[("name",488),("name",489),("cell",490)],by with_unfolding_all rfl,Z,by decide,by kernel_rfl⟩
 .exact⟨236,[("name",492),("value",493)],by with_unfolding_all rfl,Z,by decide,by kernel_rfl⟩
 .exact⟨237,[("name",495),("name",496)],by with_unfolding_all rfl,Z,by decide,by kernel_rfl⟩
 .exact⟨238,[("name",498),("name",499),("number",500)],by with_unfolding_all rfl,Z,by decide,by kernel_rfl⟩
 .exact⟨239,[("name",502)],by with_unfolding_all rfl,Z,by decide,by kernel_rfl⟩
 .exact⟨240,[("name",504),("name",505)],by with_unfolding_all rfl,Z,by decide,by kernel_rfl⟩
 .exact⟨241,[("label",507),("body",508)],by with_unfolding_all rfl,Z,by decide,by kernel_rfl⟩
 .exact⟨242,[("label",510),("many",511),("times",512),("body",513)],by with_unfolding_all rfl,Z,by decide,by kernel_rfl⟩
 .exact⟨243,[("body",515),("body",516)],by with_unfolding_all rfl,Z,by decide,by kernel_rfl⟩
theorem VO(P:Z')(w:W'){A:nS}(e1:A.gC=232)(e2:A.jc=244)(e3:FQ.data= .func A.eE):wV P w (uC w.params) A frm:=by
 refine⟨?_,?_,?_,?_,?_⟩
 .rw[e1];exact GL (l:=lF) (ep:=11) (by kernel_rfl) (by decide+kernel) (by decide)
 .rw[e2];exact GL (l:=lB) (ep:=4) (by kernel_rfl) (by decide+kernel) (by decide)
 .intro p hp;obtain⟨t,l,h1,h2,h3,h4⟩:=Qg w p hp;exact⟨t,h1,λH=>h2▸OL l h4 h3 H⟩
 .have e4:A.eE=(match FQ.data with| .func fd=>fd|_=>A.eE):=by rw[e3]
  rw[e4];exact⟨.int 0 609,⟨_,Z⟩,aeP (T:=301) (o:=Ng) (n:=0) (by kernel_rfl) Z Z (λ_ _=>rfl) (λ_ _=>rfl)⟩
 .intro p hp;simp only[xo,aP,cO,cR] at hp;rcases hp with rfl|rfl|rfl|rfl
  .exact⟨245,by with_unfolding_all rfl,vv (n:=0) (ti:=530) (tj:=531) (by kernel_rfl)⟩
  .exact⟨246,by with_unfolding_all rfl,vv (n:=0) (ti:=533) (tj:=534) (by kernel_rfl)⟩
  .exact⟨247,by with_unfolding_all rfl,vv (n:=0) (ti:=536) (tj:=537) (by kernel_rfl)⟩
  .exact⟨248,by with_unfolding_all rfl,vv (n:=0) (ti:=539) (tj:=540) (by kernel_rfl)⟩
theorem VL(x:Str)(h:bg.lookup x=none):eV frm.kF (.inr x)=none:=by
 refine uW λp hp z=> ?_;obtain⟨q,hq,rfl⟩:=jn.mp (show p∈lF.map λp=>((Sum.inr p.1:wS),V.ref p.2.2) from hp);have e:q.1=x:=uV z;have:=bD (a7.mp (show(lF.all λq=>decide (bg.lookup q.1≠none))=true by decide+kernel) q hq);rw[e] at this;exact this h
structure Rb(P:Z')(w:W')(K:Frag)(A:nS):Prop where
 fm:∃fm,wV P w K A fm/\∀x:Str,bg.lookup x=none->eV fm.kF (.inr x)=none
 df:Qo A
 p1:A.cQ=580
 p2:A.ay=351
theorem Pp{P:Z'}(w:W')(A:nS)(e1:A.gC=232)(e2:A.jc=244)(e3:FQ.data= .func A.eE)(df:Qo A)(p1:A.cQ=580)(p2:A.ay=351):Rb P w (uC w.params) A:=⟨⟨_,VO P w e1 e2 e3,VL⟩,df,p1,p2⟩
noncomputable abbrev Jd:List (S'×Array M'):=[(580,#[]),(351,#[])]
theorem P_{w:W'}{h:Y'}(X:(Eb w.params).In h):(uC w.params).In h/\∀Pt ps,(Pt,ps)∈Jd->h.get? Pt=some (tabObj ps)/\(uC w.params).lookup Pt=none/\∃c,CodeHd h c Pt:=by
 have l1:(uC w.params).lookup 351=none:=by kernel_rfl
 have l2:(uC w.params).lookup 580=none:=by kernel_rfl
 have xp:(uC w.params).In h:=λa o e=>by
  refine X a o ?_;show List.lookup a ((351,_)::(580,_)::uC w.params)=some o;have n1:a≠351:=λz=>by rw[z,l1] at e;cases e
  have n2:a≠580:=λz=>by rw[z,l2] at e;cases e
  rw[iD,beq_false_of_ne n1,iD,beq_false_of_ne n2];exact e
 refine⟨xp,λPt ps hm=> ?_⟩;simp only[aP,cO,cR,zt] at hm;rcases hm with⟨rfl,rfl⟩|⟨rfl,rfl⟩
 .exact⟨X _ _ (by kernel_rfl),l2,(M3 (K:=uC w.params) (c:=584) (l:=show(uC w.params).lookup 584=some Mf by kernel_rfl) (by decide)).hd xp⟩
 .exact⟨X _ _ (by kernel_rfl),l1,(M3 (K:=uC w.params) (c:=355) (l:=show(uC w.params).lookup 355=some Mn by kernel_rfl) (by decide)).hd xp⟩
structure aag(p1 p2:S')(H:Hp):Prop where
 ne:p1≠p2
 p:Tab H p1 lpP qP
 i:Tab H p2 L0 qI
def HF(K:Frag):Sp:=λvs H Q _=>∃(a:S') (ns:List Int),vs=[.ref a]/\cF K H a (ns.map V.int)/\ns.length<=63/\aag 580 351 H/\∀H',Q (.bl true) H'
theorem walk{l:PySem.W.OpenLaw}{q:Z'}{loose:au}{XP:(Str->aO)->Y'->Prop}{YP:W'->Y'->Prop}{d:DefRec}{K:Params->Frag}(hn:l.most=some 63)(YW:d.params.defaults=[])
 (hY:∀(w:W') (h:Y'),YP w h->(K w.params).In h/\∀Pt ps,(Pt,ps)∈Jd->h.get? Pt=some (tabObj ps)/\(K w.params).lookup Pt=none/\∃c,CodeHd h c Pt)
 (F:∀(w:W') (mg:Str->aO) (fa:S') (h:Y'),(K w.params).In h->h.Ns mainGlobals mg->mg d.name=some (.ref fa)->
  ∃fd:aad,(∀(s:R') (u:M'),BindsTo s fd ⟨[u],[]⟩ [("_law_script",u)])/\∀base:Y',(K w.params).In base->base.Ns mainGlobals mg->aT l.prog w (K w.params) mg base dO 56 fa fd ["_law_script"] (HF (K w.params))):
 PySem.W.WalkO q loose XP YP l.row.toRowW d [] (λf vs=>PySem.call f vs):=
 L2.Ml (n:=63) (k:=56) (x:="_law_script") (CX:=λ_=>dO) (sp:=λw=>HF (K w.params)) (tabs:=Jd) hn (by decide) YW ⟨Z,by decide,by decide,Z⟩ hY (λPt ps Kx h1 h2=>by
  simp only[aP,cO,cR,zt] at h1 h2
  rcases h1 with⟨_,rfl⟩|⟨_,rfl⟩<;>rcases h2 with⟨_,rfl⟩|⟨_,rfl⟩<;>rfl) F (λ_ H a ns hl hO hS=>⟨a,ns,Z,hS,hl,⟨by decide,⟨#[],hO.at_ _ _ (by simp),by first|exact True.intro|constructor|decide,.inl rfl⟩,⟨#[],hO.at_ _ _ (by simp),by first|exact True.intro|constructor|decide,.inl rfl⟩⟩,λ_=>rfl⟩) λ_ _ _ _ _ z=>z
theorem WM{l:PySem.W.OpenLaw}{w:W'}{K:Frag}{h:Y'}{mg:Str->aO}{fa:S'}(X:K.In h)(G:h.Ns mainGlobals mg)(hfa:mg "law"=some (.ref fa))(hT:∃A:nS,Txt K mg A/\Rb l.prog w K A):
 ∃fd:aad,(∀(s:R') (u:M'),BindsTo s fd ⟨[u],[]⟩ [("_law_script",u)])/\∀base:Y',K.In base->base.Ns mainGlobals mg->aT l.prog w K mg base dO 56 fa fd ["_law_script"] (HF K):=by
 obtain⟨A,T,S⟩:=hT;obtain⟨fm,Fm,Fo⟩:=S.fm;have e:=hfa.symm.trans T.Uw.m;cases e;refine⟨A.Kq,T.YQ,λbase _ _=>(VQ T Fm Fo S.df).imp λvs H Q E ⟨a,ns,h1,h2,h3,h4,h5⟩=>⟨a,ns,h1,h2,h3,⟨?_,?_,?_⟩,h5⟩⟩
 .rw[S.p1,S.p2];exact h4.ne
 .rw[S.p1];exact h4.p
 .rw[S.p2];exact h4.i
section
open PySem.W
variable{K:Frag}{h:Y'}{mg:Str->aO}{x q:Str}{st:Stmt}{ps:au}{f C:S'}{oc kV dc pm cd ct:M'}{od an:Option S'}{sl:Array (aO)}
noncomputable abbrev fS(n q:Str)(s:Stmt)(kV dc pm:M')(an:Option S')(cd ct:M'):aad:=fnOf n q (hX s) (dN s) (av s) .none kV dc pm an cd ct
theorem aaK(X:K.In h)(G:h.Ns mainGlobals mg)(a:nsIn K mainGlobals x=some (some (.ref f)))(l:K.lookup f=some ⟨oc,od,.func (fS x x st kV dc pm an cd ct),sl⟩)(c:codeIn K cd x=true)(k:keepIn K (.ref f)=true)
 (b:∀kV dc pm an cd ct (us:aG),us.length=ps.length->bindArgs (fS x x st kV dc pm an cd ct) ⟨us,[]⟩=pure (ps.zip us)):FI K mg x st ps f (fS x x st kV dc pm an cd ct):=⟨mg_of X G a,DN (st:=st) l c k,(DN (st:=st) l c k).binds b⟩
theorem aaR(a:findIn K (.ref C) x=some (some (.ref f)))(i:isFn K (.ref f)=true)(l:K.lookup f=some ⟨oc,od,.func (fS x q st kV dc pm an cd ct),sl⟩)(c:codeIn K cd q=true)(k:keepIn K (.ref f)=true)
 (b:∀kV dc pm an cd ct (us:aG),us.length=ps.length->bindArgs (fS x q st kV dc pm an cd ct) ⟨us,[]⟩=pure (ps.zip us)):MI K C x q st ps f (fS x q st kV dc pm an cd ct):=⟨⟨a,i,k⟩,DN (st:=st) l c k,(DN (st:=st) l c k).binds b⟩
theorem ZU{nm q' :Str}{N R:S'}{bs:aG}{sn:au}{sub:aG}{ab:Bool}{col:Option Bool}{dd:Option S'}{k0 k1 k2 k3 k5:aO}(X:K.In h)(G:h.Ns mainGlobals mg)(a:nsIn K mainGlobals x=some (some (.ref C)))
 (l:K.lookup C=some (excClassObj nm q' C N bs [.ref R,.type "ValueError",.type "Exception",.type "BaseException",.type "object"] true sn sub ab col dd k0 k1 k2 k3 k5 "ValueError.__new__")) (i:findIn K (.ref C) "__init__"=some (some (.ref f))) (ty:typeIn K (.ref f)=some (.type "function")) (kp:keepIn K (.ref C)=true)
 (sa:findIn K (.ref C) "__setattr__"=some (some (.builtin "object.__setattr__"))) (ga:findIn K (.ref C) "__getattribute__"=some (some (.builtin "BaseException.__getattribute__"))) (hk:findIn K (.ref C) "__getattr__"=some none) (mr:mroIn K C (.type "BaseException")=some true) (hd:hasDictIn K C=true)
 (ca:findIn K (.ref C) "__class__"=some (some (.builtin "object.__class__"))) (gt:specialIn K (.builtin "object.__class__") "__get__"=some (some (.builtin "getset_descriptor.__get__"))) (tk:takesIn K (.builtin "object.__class__")=some true) (mo:mroIn K C (.type "object")=some true) (tt:typeIn K (.ref C)=some (.type "type")) (ve:mroIn K C (.type "ValueError")=some true):XI K mg x C f R:=
 ⟨mg_of X G a,⟨⟨nm,q',N,bs,_,true,sn,sub,ab,col,dd,k0,k1,k2,k3,k5,l,Z,Z,Z,Z⟩,i,ty,kp⟩,⟨⟨nm,q',N,bs,_,sn,sub,ab,col,dd,k0,k1,k2,k3,k5,l,(by intro self;(repeat rw[refuseLoop_ref]);exact L2.we self),Z⟩,sa⟩,⟨⟨ga,hk,mr,hd⟩,ca,gt,tk,mo⟩,tt,ZI l,ve⟩
theorem VG{nm q' :Str}{N:S'}{bs:aG}{sn:au}{sub:aG}{ab:Bool}{col:Option Bool}{dd:Option S'}{k0 k1 k2 k3 k5:aO}(X:K.In h)(G:h.Ns mainGlobals mg)(a:nsIn K mainGlobals x=some (some (.ref C)))
 (l:K.lookup C=some (excClassObj nm q' C N bs [.type "ValueError",.type "Exception",.type "BaseException",.type "object"] true sn sub ab col dd k0 k1 k2 k3 k5 "ValueError.__new__")) (i:findIn K (.ref C) "__init__"=some (some (.ref f))) (ty:typeIn K (.ref f)=some (.type "function")) (kp:keepIn K (.ref C)=true)
 (sa:findIn K (.ref C) "__setattr__"=some (some (.builtin "object.__setattr__"))) (ga:findIn K (.ref C) "__getattribute__"=some (some (.builtin "BaseException.__getattribute__"))) (hk:findIn K (.ref C) "__getattr__"=some none) (mr:mroIn K C (.type "BaseException")=some true) (hd:hasDictIn K C=true)
 (ca:findIn K (.ref C) "__class__"=some (some (.builtin "object.__class__"))) (gt:specialIn K (.builtin "object.__class__") "__get__"=some (some (.builtin "getset_descriptor.__get__"))) (tk:takesIn K (.builtin "object.__class__")=some true) (mo:mroIn K C (.type "object")=some true) (tt:typeIn K (.ref C)=some (.type "type")) (ve:mroIn K C (.type "ValueError")=some true):XI K mg x C f C:=
 ⟨mg_of X G a,⟨⟨nm,q',N,bs,_,true,sn,sub,ab,col,dd,k0,k1,k2,k3,k5,l,Z,Z,Z,Z⟩,i,ty,kp⟩,⟨⟨nm,q',N,bs,_,sn,sub,ab,col,dd,k0,k1,k2,k3,k5,l,(by intro self;(repeat rw[refuseLoop_ref]);exact L2.we self),Z⟩,sa⟩,⟨⟨ga,hk,mr,hd⟩,ca,gt,tk,mo⟩,tt,WO l,ve⟩
theorem aa9{oc:M'}{od:Option S'}{dt:Data}{sl:Array (aO)}(l:K.lookup sysModules=some ⟨oc,od,dt,sl⟩)(e:oc= .type "dict"):∃o,K.lookup sysModules=some o/\o.cls= .type "dict":=⟨_,l,e⟩
theorem aaX{n:Int}{t:Tok}(X:K.In h)(G:h.Ns mainGlobals mg)(a:nsIn K mainGlobals x=some (some (.int n t))):∃u,RelV (.int n) u/\mg x=some u:=⟨_,⟨_,Z⟩,mg_of X G a⟩
theorem Zb{n:Str}{t:Tok}(X:K.In h)(G:h.Ns mainGlobals mg)(a:nsIn K mainGlobals x=some (some (.str n t))):∃u,RelV (.str n) u/\mg x=some u:=⟨_,⟨_,Z⟩,mg_of X G a⟩
end
theorem Vz{P:Z'}{w:W'}{K:Frag}{mg:Str->aO}{f0 f1 f2 f3 f4 f5 f6 f7 f8 f9 f10 f11 f12 f13 f14 f15 f16 f17 f18 f19 f20 f21 f22 f23 f24 f25 f26 f27 f28 f29 f30 f31 f32 f33 f34 f35 f36 f37 f38 f39 f40 f41 f42 f43 f44 f45 f46 f47 f48 f49 f50 f51 f52 f53 f54 f55 f56 f57 f58 f59 f60 f61 f62 f63 f64 f65 f66 f67 f68 f69 f70 f71 f72:S'}{d0 d1 d2 d3 d4 d5 d6 d7 d8 d9 d10 d11 d12 d13 d14 d15 d16 d17 d18 d19 d20 d21 d22 d23 d24 d25 d26 d27 d28 d29 d30 d31 d32 d33 d34 d35 d36 d37 d38 d39 d40 d41 d42 d43 d44 d45 d46 d47 d48 d49 d50 d51 d52 d53 d54 d55 d56 d57 d58:aad}(T:Txt K mg ⟨f0,f1,f2,f3,f4,f5,f6,f7,f8,f9,f10,f11,f12,f13,f14,f15,f16,f17,f18,f19,f20,f21,f22,f23,f24,f25,f26,f27,f28,f29,f30,f31,f32,f33,f34,f35,f36,f37,f38,f39,f40,f41,f42,f43,f44,f45,f46,f47,f48,f49,f50,f51,f52,f53,f54,f55,f56,f57,f58,f59,f60,f61,f62,f63,f64,f65,f66,f67,f68,f69,f70,f71,f72,d0,d1,d2,d3,d4,d5,d6,d7,d8,d9,d10,d11,d12,d13,d14,d15,d16,d17,d18,d19,d20,d21,d22,d23,d24,d25,d26,d27,d28,d29,d30,d31,d32,d33,d34,d35,d36,d37,d38,d39,d40,d41,d42,d43,d44,d45,d46,d47,d48,d49,d50,d51,d52,d53,d54,d55,d56,d57,d58⟩)(S:Rb P w K ⟨f0,f1,f2,f3,f4,f5,f6,f7,f8,f9,f10,f11,f12,f13,f14,f15,f16,f17,f18,f19,f20,f21,f22,f23,f24,f25,f26,f27,f28,f29,f30,f31,f32,f33,f34,f35,f36,f37,f38,f39,f40,f41,f42,f43,f44,f45,f46,f47,f48,f49,f50,f51,f52,f53,f54,f55,f56,f57,f58,f59,f60,f61,f62,f63,f64,f65,f66,f67,f68,f69,f70,f71,f72,d0,d1,d2,d3,d4,d5,d6,d7,d8,d9,d10,d11,d12,d13,d14,d15,d16,d17,d18,d19,d20,d21,d22,d23,d24,d25,d26,d27,d28,d29,d30,d31,d32,d33,d34,d35,d36,d37,d38,d39,d40,d41,d42,d43,d44,d45,d46,d47,d48,d49,d50,d51,d52,d53,d54,d55,d56,d57,d58⟩):∃A:nS,Txt K mg A/\Rb P w K A:=⟨_,T,S⟩
end My
open PySem PySem.W PyProof.Rows
set_option maxRecDepth 100000 in
set_option maxHeartbeats 0 in
theorem PySem.Challenge.cw_framerooms_k37_programs_refused_holds : PySem.Challenge.rw_framerooms_k37_programs_refused.Holds := by
 w_on
 refine holds_law My.VR λaeS=> ?_;refine holds_open (q:=My.pJ) (loose:=My.zL) (Xt:=λs=>xlAt My.pJ [] s&&recOk (RowW.records PySem.Challenge.rw_framerooms_k37_programs_refused.row.toRowW) s) (XP:=XL My.pJ []) (Yf:=My.qX.obs) (Ya:=My.qX.val) (YP:=Hook.says (kHook My.Eb My.Wx My.Kp)) My.VP My.qX.of My.qX.keeps (λs e=>xl_of s (Bool.and_eq_true_iff.mp e).1) XL.keeps (by rfl) (by rfl) (by rfl) (λs e=>recFacts_of (Bool.and_eq_true_iff.mp e).2) (by rfl) aeS (by decide+kernel) ⟨Z,Z,Z,Z,Z,by decide+kernel⟩ ?hw ?hc
 case hw=>w_witness2
 refine My.walk (l:=PySem.Challenge.rw_framerooms_k37_programs_refused) (K:=My.uC) Z Z (λw h Y=>My.P_ (PySem.W.kIn_of Y)) ?F
 case F=>
  k_fill
  intro w mg fa h KX G Qc;refine' My.WM KX G Qc (My.Vz ?T ?S)
  case T=>
   constructor
   all_goals try dsimp only
   all_goals first|(apply My.ZU KX G<;>k_is)|(apply My.VG KX G<;>k_is)|(apply My.aaK KX G;(iterate 4 k_is);(intro _ _ _ _ _ _;first|exact L2.ZF λ_=>rfl|exact L2.Yx λ_ _=>rfl|exact L2.Yg λ_ _ _=>rfl|exact L2.bn4 λ_ _ _ _=>rfl|exact L2.bn6 λ_ _ _ _ _ _=>rfl|exact L2.bn0 rfl))|(apply L2.Xh KX G;(iterate 4 k_is);exact My.ae_ (by k_is) rfl rfl (λ_ _ _=>rfl) (λ_ _ _=>rfl))|(apply My.aaR;(iterate 5 k_is);(intro _ _ _ _ _ _;first|exact L2.ZF λ_=>rfl|exact L2.Yx λ_ _=>rfl|exact L2.Yg λ_ _ _=>rfl|exact L2.bn4 λ_ _ _ _=>rfl|exact L2.bn6 λ_ _ _ _ _ _=>rfl|exact L2.bn0 rfl))|(refine' mg_of KX G ?_;k_is)|(refine' mg_none_of KX G ?_;k_is)|(apply My.aaX KX G;k_is)|(apply My.Zb KX G;k_is)|k_is|(show _=_;k_is)|(apply My.M3;k_is;decide)|(apply My.Wo KX G;k_is;k_is;decide;decide)|(constructor<;>k_is)|(apply My.aa9;k_is;rfl)|decide|(intro _ _;exact BindsTo.of_eq rfl)
  case S=>exact My.Pp w _ Z Z Z (by unfold My.Qo;decide) Z rfl
