import PyProof.Rows.All
import Wide.All
import OpenK.AllK
import Wide.FinOn
import Lean
import PyProof.EqAt
import PyProof.EqKinds
import PyProof.TupleCall
import PyProof.ZipIter
import PyProof.NeKinds
import PyProof.Rows.CallKwBuiltin
import KE.KDictSum
import KE.KSortTup
import KE.KRevIter
import PyProof.Rows.Range3
import PyProof.Rows.FactsT2
import PyProof.DictTable
import PyProof.NsDelKeeps
import PyProof.Rows.SortRuns
import PyProof.ListRange
import KE.KLam
import KE.KNestM
import KE.KIntText
import PyProof.StrLawsTight
import PyProof.StrLawsIn
import PyProof.StrLawsAffix
import PyProof.StrLawsChain
import PyProof.StrWalks
import PyProof.ConsumeWalk
import PyProof.SliceStr2
import PyProof.StrLawsIdx
import PyProof.StrOps2
import PyProof.AutoSeq1
import PyProof.ListMulRoad
import KE.KSortKey
import PyProof.DictTruth
import PyProof.Rows.SetFrom
import PyProof.SetRoads
import PyProof.Cells
import PyProof.TupleKey
import OpenK.KMore
import PyProof.CollectIter
import PyProof.Rows.FStr
import PyProof.ToksMono
import PyProof.StrOps
import PyProof.StrCalls6
import PySem.Challenge.RW_toldsums_k36_desk_answers
set_option Elab.async false
set_option linter.all false
set_option compiler.extract_closed false
set_option maxRecDepth 100000
set_option maxHeartbeats 4000000
open PySem.F (entry_max_loop entry_min_loop entry_tuple_lt slot_dict_iter slot_tuple_lt type_str_split)
open PySem.W (CodeHd Frag InstAt codeHdIn codeHd_of_K codeIn emptyDict envX findIn fnOf handedIn hasDictIn instObj isFn kat_lt kat_nil kat_one keepIn kla_callFunE kla_codeExpr kla_fn kla_obj kmHook lookIn makesIn methodObj nsIn plainGet plainOver tabObj takerIn typeIn)
open Option (getD_none getD_some)
open Bool (or_eq_true)
open List (drop_drop filter_cons getD length_zip map_map map_set sum_nil)
open Array (toList_map)
open Nat (log2_lt toDigits)
open PySem.NumText (AllDigits digitsVal)
open Int (toNat zero_add)
abbrev Ua:=@List.getElem?_eq_getElem
abbrev Ub:=@Nat.le_refl
abbrev Uc:=@PySem.wpAny_bind
abbrev Ud:=@List.length_map
abbrev Ue:=@List.getElem?_eq_some_iff
abbrev Ug:=@List.mem_cons_self
abbrev Uh:=@List.mem_cons_of_mem
abbrev Ui:=@PySem.Heap.get?_push_of_some
abbrev Uj:=@PySem.wpAny_pure
abbrev Uk:=@List.length_cons
abbrev Ul:=@List.size_toArray
abbrev Um:=@PySem.W.KT.app_list
abbrev Uo:=@PySem.strLen_append
abbrev Up:=@List.getElem?_map
abbrev Ur:=@if_neg
abbrev Us:=@Array.getElem?_eq_getElem
abbrev Ut:=@PyProof.Rows.wpS_bind
abbrev Uu:=@List.mem_of_getElem?
abbrev Uv:=@if_pos
abbrev Uw:=@List.mem_cons
abbrev Ux:=@List.map_append
abbrev Uy:=@decide_eq_true
abbrev Uz:=@List.mem_singleton
abbrev UA:=@List.length_take
abbrev UB:=@PyProof.Rows.wpS_pure
abbrev UC:=@PySem.Heap.get?_push_size
abbrev UD:=@List.length_append
abbrev UE:=@decide_eq_false
abbrev UF:=@List.mem_append_right
abbrev UG:=@PySem.Heap.lt_size
abbrev UH:=@Bool.false_ne_true
abbrev UI:=@Nat.zero_le
abbrev UJ:=@List.mem_append
abbrev UK:=@Option.some.inj
abbrev UL:=@List.map_cons
abbrev UM:=@List.length_nil
abbrev UN:=@beq_iff_eq
abbrev UO:=@Nat.ne_of_lt
abbrev UP:=@Nat.lt_of_lt_of_le
abbrev UQ:=@List.length_filter_le
abbrev UR:=@List.mem_append_left
abbrev US:=@List.take_length
abbrev UT:=@Option.map_eq_some_iff
abbrev UU:=@Nat.le_trans
abbrev UV:=@PySem.sizeLine_eq
abbrev UW:=@Bool.false_eq_true
abbrev UX:=@Array.getElem?_eq_some_iff
abbrev UY:=@List.pairwise_cons
abbrev UZ:=@Array.toList_append
abbrev U0:=@of_decide_eq_true
abbrev U1:=@Array.getElem?_toList
abbrev U2:=@List.mem_filter
abbrev U3:=@PySem.F.slot_list_append
abbrev U4:=@beq_eq_false_iff_ne
abbrev U5:=@List.pairwise_append
abbrev U6:=@List.mem_map
abbrev U7:=@PySem.PassesOwn.never
abbrev U8:=@List.append_assoc
abbrev U9:=@PySem.F.type_list_append
abbrev Oa:=@PySem.Paired.length
abbrev Ob:=@List.getElem?_append_right
abbrev Oc:=@PySem.wpAny_holding
abbrev Od:=@PySem.F.plainAttrs_list
abbrev Oe:=@Array.length_toList
abbrev Of:=@List.getElem_mem
abbrev Og:=@Int.eq_ofNat_of_zero_le
abbrev Oh:=@List.pairwise_iff_getElem
abbrev Oi:=@List.take_of_length_le
abbrev Oj:=@List.lookup_cons
abbrev Ol:=@List.append_nil
abbrev Om:=@Nat.lt_of_le_of_lt
abbrev On:=@Array.size_extract
abbrev Oo:=@List.take_append_drop
abbrev Oq:=@List.not_mem_nil
abbrev Os:=@PyProof.Rows.slot_tuple_getitem
abbrev Ot:=@Int.toNat_natCast
abbrev Ou:=@List.getElem?_append_left
abbrev Ov:=@PySem.F.plainAttrs_str
abbrev Ow:=@Int.natAbs_natCast
abbrev Ox:=@PySem.wpAny_truthy_bool
abbrev Oy:=@PySem.wpAny_pyIter_list
abbrev Oz:=@List.foldl_cons
abbrev OA:=@List.cons.injEq
abbrev OB:=@List.getElem_of_mem
abbrev OC:=@PyProof.Rows.callWith_type1
abbrev OD:=@List.mem_range
abbrev OE:=@List.all_eq_true
abbrev OF:=@PyProof.Rows.wpS_forRange
abbrev OG:=@PySem.W.mg_of
abbrev OH:=@List.sum_cons
abbrev OI:=@List.replicate_succ
abbrev OJ:=@List.getElem?_range
abbrev OK:=@PySem.wpAny_mono
abbrev OL:=@PyProof.Rows.kmk_tree
abbrev OM:=@List.getElem?_eq_none
abbrev ON:=@PySem.F.slot_dict_keyiterator_next
abbrev OO:=@Ne.symm
abbrev OP:=@List.nodup_cons
abbrev OQ:=@Bool.and_eq_true
abbrev OR:=@if_false
abbrev OS:=@PySem.wpAny_newList
abbrev OT:=@PySem.F.plain_min_loop
abbrev OU:=@PySem.F.plain_max_loop
abbrev OV:=@List.ext_getElem?
abbrev OW:=@List.extract_eq_take_drop
abbrev OX:=@List.drop_eq_getElem_cons
abbrev OY:=@List.range_succ
abbrev OZ:=@PySem.wpAny_of_eq
abbrev O0:=@List.filter_append
abbrev O1:=@PySem.plainId_quiet
abbrev O2:=@PySem.wpAny_loadPart'
abbrev O3:=@congrArg
abbrev O4:=@Nat.lt_irrefl
abbrev O5:=@Nat.lt_trans
abbrev O6:=@PySem.wpAny_Call_Name_kw
abbrev O7:=@List.take_add_one
abbrev O8:=@Bool.eq_iff_iff
abbrev O9:=@List.reverse_append
abbrev Ra:=@PySem.wpAny_newObj_type
abbrev Rb:=@decide_eq_decide
abbrev Re:=@beq_self_eq_true
abbrev Rf:=@List.length_drop
abbrev Rg:=@Array.toList_extract
abbrev Rh:=@Nat.lt_succ_of_lt
abbrev Ri:=@List.flatten_cons
abbrev Rj:=@PyProof.Rows.getElem?_mirror_all
abbrev Rk:=@PySem.mem_of_lookup
abbrev Rl:=@Nat.add_le_add_left
abbrev Rm:=@List.filter_cons_of_pos
abbrev Ro:=@PySem.Around.under_plainId
abbrev Rp:=@PySem.Value.int.injEq
abbrev Rq:=@PySem.Heap.get?_push_ne
abbrev Rr:=@Nat.lt_succ_self
abbrev Rt:=@Bool.not_eq_true
abbrev Ru:=@Array.mk.injEq
abbrev Rv:=@Array.getElem?_eq_none
abbrev Rw:=@decide_eq_true_iff
abbrev Rx:=@PySem.Heap.SameBut.update
abbrev Ry:=@Nat.sub_self
abbrev Rz:=@PySem.F.type_str_join
abbrev RA:=@PySem.F.slot_str_join
abbrev RB:=@List.length_replicate
abbrev RC:=@PySem.wpAny_typeNameOfWhole_keyiter
abbrev RD:=@PyProof.Rows.wpS_modify
abbrev RE:=@PySem.wpAny_rule
abbrev RF:=@Bool.true_and
abbrev RG:=@List.pairwise_map
abbrev RH:=@Array.toList_push
abbrev RI:=@PySem.Heap.get?_update_other
abbrev RJ:=@Nat.pow_le_pow_right
abbrev RL:=@List.mem_of_mem_take
abbrev RM:=@Array.toList_reverse
abbrev RN:=@Array.mem_toList_iff
abbrev RO:=@PySem.codeAny_mono
abbrev RP:=@Bool.false_and
abbrev RQ:=@Int.le_refl
abbrev RS:=@Nat.le_of_lt
abbrev RT:=@or_false
abbrev RU:=@List.of_mem_zip
abbrev RV:=@List.find?_cons
abbrev RW:=@of_decide_eq_false
abbrev RX:=@PySem.wpAny_call_entry
abbrev RY:=@PySem.Heap.size_update
abbrev RZ:=@PySem.F.slot_str_split
abbrev R0:=@PyProof.Rows.wpS_mono
abbrev R1:=@PySem.wpAny_typeNameOf_keyiter
abbrev R3:=@Nat.le_succ
abbrev R4:=@decide_eq_true_eq
abbrev R5:=@Option.some.injEq
abbrev R6:=@List.getElem?_set
abbrev R7:=@Bool.and_false
abbrev R8:=@PySem.wpAny_standAt
abbrev R9:=@PySem.SeqAt.EqAt.int_int
abbrev Ta:=@PySem.wpAny_callSpecial?_slot
abbrev Tc:=@List.mem_of_mem_head?
abbrev Td:=@Array.getElem_extract
abbrev Te:=@List.eq_nil_iff_forall_not_mem
abbrev Tf:=@List.eq_nil_of_length_eq_zero
abbrev Tg:=@PyProof.Rows.wpS_reverse
abbrev Th:=@List.reverse_reverse
abbrev Ti:=@List.getElem?_set_ne
abbrev Tj:=@Array.getElem_of_mem
abbrev Tn:=@congrFun
abbrev To:=@PySem.wpAny_letGo
abbrev Tp:=@if_true
abbrev Tq:=@List.sum_append
abbrev Tr:=@List.nil_append
abbrev Ts:=@List.length_set
abbrev Tt:=@Array.size_push
abbrev Tu:=@List.mem_map_of_mem
abbrev Tv:=@List.map_eq_nil_iff
abbrev Tw:=@PyProof.Rows.listUpdate_at
abbrev Tx:=@Nat.le_of_eq
abbrev Tz:=@List.map_nil
abbrev TF:=@List.getElem?_drop
abbrev TH:=@List.getElem?_eq_none_iff
abbrev TJ:=@PySem.wpAny_updateSeq
abbrev TK:=@PySem.wpAny_passesOwn
abbrev TL:=@PySem.F.plain_min
abbrev TM:=@PySem.F.plain_max
abbrev TN:=@PySem.F.entry_min
abbrev TQ:=@PySem.F.entry_max
abbrev TR:=@List.length_range
abbrev TU:=@Bool.eq_false_iff
abbrev TV:=@Array.size_append
abbrev TY:=@PySem.F.args_tuple_add_2
abbrev TZ:=@List.getElem?_take_of_lt
abbrev T3:=@List.any_cons
abbrev T4:=@PySem.F.entry_tuple_add
abbrev T5:=@Option.bind_eq_some_iff
abbrev T6:=@List.getElem?_replicate
abbrev T7:=@List.filter_cons_of_neg
abbrev T8:=@PySem.tupleKind_room_in1
abbrev T9:=@PySem.W.kat_cons
abbrev Na:=@PySem.F.kind_min
abbrev Nb:=@PySem.F.kind_max
abbrev Nd:=@PySem.wpAny_tryCatch
abbrev Nf:=@PySem.Heap.size_push
abbrev Ng:=@PySem.W.cellsFrom_some
abbrev Nh:=@PySem.F.slot_tuple_add
abbrev Ni:=@List.getElem?_set_self
abbrev Nj:=@PySem.call_meets
abbrev Nk:=@Nat.ne_of_gt
abbrev Nl:=@PySem.W.kat_yes
abbrev Nm:=@PySem.Str.length_append
abbrev Nn:=@List.pairwise_reverse
abbrev Np:=@Bool.and_eq_false_iff
abbrev Nq:=@PyProof.Rows.wpS_get
abbrev Nr:=@PyProof.Rows.get?_update_seq
abbrev Nu:=@List.mem_of_mem_drop
abbrev Nv:=@PySem.W.kat_no
abbrev Nw:=@List.take_zero
abbrev Nx:=@List.drop_zero
abbrev Ny:=@PySem.F.args_dict_keyiterator_next_1
abbrev Nz:=@ne_true_of_eq_false
abbrev NA:=@PySem.wpAny_pyNext_list_item
abbrev NB:=@PySem.wpAny_pyIter_rangeiter
abbrev NC:=@PySem.richCompare_meets_room
abbrev NF:=@PySem.W.plainGet_of
abbrev NG:=@List.map_congr_left
abbrev NH:=@List.filterMap_cons
abbrev NI:=@PySem.F.entry_dict_keyiterator_next
abbrev NJ:=@PySem.Value.ref.injEq
abbrev NK:=@PySem.W.callWith_K
abbrev NL:=@PySem.F.slot_range_reversed
abbrev NM:=@List.zip_cons_cons
abbrev NN:=@bne_iff_ne
abbrev NP:=@bne_self_eq_false
abbrev NQ:=@Option.isSome_map
abbrev NR:=@List.getElem_take
abbrev NS:=@List.foldl_append
abbrev NT:=@decide_false
abbrev NU:=@Nat.zero_add
abbrev NV:=@List.all_map
abbrev NW:=@Int.le_trans
namespace L2
open PySem PySem.Spec PyProof.Rows
def inClass (s:Stmt)(j:Nat):Stmt:=match s with
 | .ClassDef _ _ _ body _ _ _ _ _ _ _=>body.getD j (.Pass ⟨0,0,0,0⟩)
 |_=>.Pass ⟨0,0,0,0⟩
def xr (s:Stmt):Arguments:=match s with
 | .FunctionDef _ a _ _ _ _ _ _ _ _=>a
 |_=>{ posonlyargs:=[],args:=[],vararg:=none,kwonlyargs:=[],kw_defaults:=[],kwarg:=none,defaults:=[] }
def qS (s:Stmt):List Stmt:=match s with
 | .FunctionDef _ _ b _ _ _ _ _ _ _=>b
 |_=>[]
def zh (s:Stmt):Scope:=match s with
 | .FunctionDef _ _ _ _ _ _ sc _ _ _=>sc
 |_=>{ kind:=.function,names:=[],isGenerator:=false,isCoroutine:=false }
end L2
namespace My
open PySem L2
def top (i:Nat):Stmt:=PySem.Challenge.pw_toldsums_k36_desk_answers.main.body.getD i (.Pass ⟨0,0,0,0⟩)
end My
namespace Kn
open PySem L2 My
def e (P:Params)(x:Str)(t:Tok)(v:Value):DictEntry:={ hash:=PyData.keyHash P x,key:=.str x t,val:=v }
def dO (n:Nat)(es:List DictEntry):Obj:={ cls:=.type "dict",data:=.dict es.toArray n }
def fO (x q:Str)(st:Stmt)(m:Str)(t:Tok)(c:Addr):Obj:={ cls:=.type "function",data:=.func (fnOf x q (xr st) (qS st) (zh st) .none .none .none (.str m t) none (.ref c) .none) }
def cO (x:Str)(t:Tok)(q:Str)(t2 t3:Tok)(vs:List Value)(t4:Tok):Obj:={ cls:=.type "code",data:=.fields ((Value.str x t::.str q t2::.str "/claim/cut.py" t3::(vs++[Value.str "/claim/cut.py" t4])).toArray) }
structure Rc where
 x:Str
 st:Stmt
 M:Str×Tok
 l:Int
 n:Int
 a:Nat
 t:Nat
 v:List Str
 m:Nat
def Rc.c (r:Rc):Addr:=match r.m with|0=>r.a+3|_=>r.a+5
def cR (r:Rc):Obj:=cO r.x r.t r.x (r.t+1) (r.t+2) [.int r.l 0,.int r.n 0,.int 0 0,.int 0 0,.int 3 0,.ref r.a,.bool true,.int 181 0,.ref (r.a+1),.none,(match r.m with|0=>.none|_=>.ref (r.a+2)),(match r.m with|0=>.none|_=>.ref (r.a+3)),.ref (match r.m with|0=>r.a+2|_=>r.a+4),.int ((r.t+3+r.m:Nat):Int) 0,.int r.l 0] (r.t+4+r.m)
def fR (r:Rc):Obj:=fO r.x r.x r.st r.M.1 r.M.2 r.c
def kR (r:Rc):Frag:=[(r.c,cR r),(r.c+1,fR r)]
def rA (x:Str)(i:Nat)(M:Str×Tok)(l n:Int)(a t:Nat)(v:List Str):Rc:=⟨x,top i,M,l,n,a,t,v,v.length⟩
def rB (x:Str)(i:Nat)(M:Str×Tok)(l n:Int)(a t m:Nat):Rc:=⟨x,top i,M,l,n,a,t,[],m⟩
abbrev m0_:Str×Tok:=("toldsums.rows",271)
abbrev m1_:Str×Tok:=("toldsums.told",338)
abbrev m2_:Str×Tok:=("toldsums.apart",346)
abbrev m3_:Str×Tok:=("toldsums.bounds",399)
abbrev m4_:Str×Tok:=("toldsums.kept",407)
abbrev m5_:Str×Tok:=("toldsums.orders",418)
abbrev m6_:Str×Tok:=("toldsums.papers",438)
abbrev m7_:Str×Tok:=("toldsums.rests",451)
abbrev m8_:Str×Tok:=("toldsums.whole",467)
abbrev m9_:Str×Tok:=("law_toldsums_k36_desk_answers",714)
def wZ:Rc:=rA "is_number" 8 m0_ 14 1 76 275 []
def wX:Rc:=rA "row_shown" 9 m0_ 21 1 81 281 []
def x9:Rc:=rA "sums_ahead" 10 m0_ 23 1 86 287 ["row","ahead","number"]
def vL:Rc:=rA "stretches_of" 11 m0_ 28 1 93 296 []
def jf:Rc:=rA "summed_stretches" 12 m0_ 31 1 98 302 []
def wY:Rc:=rA "length_of" 13 m0_ 34 1 103 308 ["stretch","low","high"]
def yW:Rc:=rA "first_of" 14 m0_ 37 1 110 317 ["stretches"]
def wa:Rc:=rA "longest_of" 15 m0_ 39 1 117 324 ["stretches"]
def xy:Rc:=rA "shortest_of" 16 m0_ 41 1 124 331 ["stretches"]
def yX:Rc:=rA "all_with" 18 m1_ 44 2 131 340 []
def jy:Rc:=rA "most_apart" 20 m2_ 47 2 136 348 ["row","total","most","chosen","place","low","high"]
def w6:Rc:=rA "best_from" 21 m2_ 56 3 143 361 []
def jM:Rc:=rA "count_partings" 22 m2_ 65 2 148 367 ["row","total"]
def vi:Rc:=rA "first_parting" 23 m2_ 67 2 155 375 ["row","total","ways","chosen","place","low","high"]
def vh:Rc:=rA "partings_from" 24 m2_ 78 2 162 388 ["row","total","ways","low","high"]
def wc:Rc:=rA "all_within" 26 m3_ 84 3 169 401 []
def gL:Rc:=rA "row_led" 28 m4_ 87 3 174 409 ["row","place","number"]
def yV:Rc:=rA "in_order" 30 m5_ 92 2 181 420 ["row","number","order"]
def j6:Rc:=rA "points_of" 33 m6_ 100 2 195 440 ["row","total","points","low","high"]
def vN:Rc:=rA "look_at_rest" 35 m7_ 107 2 202 453 ["m","rest"]
def yY:Rc:=rA "all_rest" 36 m7_ 110 3 209 461 []
def gM:Rc:=rA "is_name" 43 m8_ 119 1 214 479 []
def xA:Rc:=rA "number_read" 44 m8_ 121 2 219 485 ["word","figures"]
def vM:Rc:=rA "row_of_words" 45 m8_ 125 1 226 493 []
def vg:Rc:=rA "stretch_shown" 46 m8_ 129 1 231 499 ["stretch","low","high"]
def vK:Rc:=rA "summed_shown" 47 m8_ 134 1 238 508 ["pair","own","stretch"]
def w5:Rc:=rA "four_rows" 48 m8_ 137 1 245 517 []
def jR:Rc:=rA "answer_show" 49 m8_ 140 2 250 523 ["row","numbers"]
def jA:Rc:=rA "answer_count" 50 m8_ 142 2 257 531 ["row","numbers"]
def q9:Rc:=rA "answer_within" 51 m8_ 144 2 264 539 ["row","numbers"]
def jS:Rc:=rA "answer_rest" 52 m8_ 146 2 271 547 ["row","numbers"]
def jz:Rc:=rA "answer_order" 53 m8_ 148 2 278 555 ["row","numbers"]
def jT:Rc:=rA "answer_near" 54 m8_ 150 2 285 563 ["row","numbers","pair"]
def jB:Rc:=rA "answer_apart" 55 m8_ 153 2 292 572 []
def ja:Rc:=rA "answer_points" 56 m8_ 155 2 297 578 ["row","numbers"]
def jc:Rc:=rA "answer_parted" 57 m8_ 157 2 304 586 []
def fu:Rc:=rB "_law_draw" 62 m9_ 207 2 365 716 6
def yK:Rc:=rB "_law_number" 63 m9_ 217 3 372 728 0
def de:Rc:=rB "_law_row" 64 m9_ 221 3 377 734 8
def kL:Rc:=rB "_law_ahead" 65 m9_ 232 1 384 748 3
def fj:Rc:=rB "_law_with" 66 m9_ 237 3 391 757 8
def kJ:Rc:=rB "_law_total" 67 m9_ 246 3 398 771 4
def ft:Rc:=rB "_law_name" 69 m9_ 260 2 410 787 8
def fm:Rc:=rB "_law_pair" 70 m9_ 274 1 417 801 1
def kK:Rc:=rB "_law_three" 71 m9_ 276 1 424 808 0
def vO:Rc:=rB "_law_first_apart" 72 m9_ 284 2 429 814 0
def wB:Rc:=rB "_law_partings" 73 m9_ 296 2 434 820 9
def kI:Rc:=rB "_law_twice" 74 m9_ 308 3 441 835 4
def xk:Rc:=rB "_law_sums_right" 75 m9_ 314 5 448 845 0
def vP:Rc:=rB "_law_asked_right" 76 m9_ 332 5 453 851 0
def zdU:Rc:=rB "law" 77 m9_ 363 1 458 857 0
def gl3 (P:Params)(x:Str)(t:Tok)(k:Nat):List DictEntry:=e P "__name__" 165 (.str x t)::[e P "__doc__" 166 (.none),e P "__package__" 167 (.none),e P "__loader__" 168 (.builtin "__main__.__loader__#opaque"),e P "__spec__" 169 (.none),e P "__annotations__" 170 (.ref 6),e P "__builtins__" 171 (.ref 4),e P "__file__" 173 (.str "/claim/cut.py" 172),e P "__cached__" 174 (.none),e P "SumError" 206 (.ref 24),e P "NoStretch" 222 (.ref 37),e P "NoRest" 238 (.ref 49),e P "NoPlace" 254 (.ref 61),e P "NoAsk" 270 (.ref 73),e P "FIGURES" 274 (.str "0123456789" 273),e P "is_number" 280 (.ref 80),e P "row_shown" 286 (.ref 85),e P "sums_ahead" 295 (.ref 92),e P "stretches_of" 301 (.ref 97),e P "summed_stretches" 307 (.ref 102),e P "length_of" 316 (.ref 109),e P "first_of" 323 (.ref 116),e P "longest_of" 330 (.ref 123),e P "shortest_of" 337 (.ref 130),e P "all_with" 345 (.ref 135),e P "most_apart" 360 (.ref 142),e P "best_from" 366 (.ref 147),e P "count_partings" 374 (.ref 154),e P "first_parting" 387 (.ref 161),e P "partings_from" 398 (.ref 168),e P "all_within" 406 (.ref 173),e P "row_led" 417 (.ref 180),e P "in_order" 428 (.ref 187),e P "nearest" 437 (.ref 194),e P "points_of" 450 (.ref 201),e P "look_at_rest" 460 (.ref 208),e P "all_rest" 466 (.ref 213),e P "LETTERS" 470 (.str "abcdefghijklmnopqrstuvwxyz" 469),e P "NAME_LETTERS" 472 (.int 8 471),e P "ROW_NUMBERS" 474 (.int 60 473),e P "ROW_FIGURES" 476 (.int 12 475),e P "ASKED_FIGURES" 478 (.int 14 477),e P "is_name" 484 (.ref 218),e P "number_read" 492 (.ref 225),e P "row_of_words" 498 (.ref 230),e P "stretch_shown" 507 (.ref 237),e P "summed_shown" 516 (.ref 244),e P "four_rows" 522 (.ref 249),e P "answer_show" 530 (.ref 256),e P "answer_count" 538 (.ref 263),e P "answer_within" 546 (.ref 270),e P "answer_rest" 554 (.ref 277),e P "answer_order" 562 (.ref 284),e P "answer_near" 571 (.ref 291),e P "answer_apart" 577 (.ref 296),e P "answer_points" 585 (.ref 303),e P "answer_parted" 591 (.ref 308),e P "ANSWERS" 610 (.ref 309),e P "NUMBERS_ASKED" 638 (.ref 310),e P "Desk" 713 (.ref 360),e P "_law_draw" 727 (.ref 371),e P "_law_number" 733 (.ref 376),e P "_law_row" 747 (.ref 383),e P "_law_ahead" 756 (.ref 390),e P "_law_with" 770 (.ref 397),e P "_law_total" 780 (.ref 404),e P "_law_most_apart" 786 (.ref 409),e P "_law_name" 800 (.ref 416),e P "_law_pair" 807 (.ref 423),e P "_law_three" 813 (.ref 428),e P "_law_first_apart" 819 (.ref 433),e P "_law_partings" 834 (.ref 440),e P "_law_twice" 844 (.ref 447),e P "_law_sums_right" 850 (.ref 452),e P "_law_asked_right" 856 (.ref 457),e P "law" 862 (.ref 462)].take k
def KK:Params->Frag:=fun P=>[
 (2,{ cls:=.none,data:=.dict #[] }),
 (3,dO 76 (gl3 P "law_toldsums_k36_desk_answers" 714 75)),
 (23,dO 3 [e P "__module__" 196 (.str "toldsums.errors" 187),e P "__firstlineno__" 200 (.int 2 199),e P "__static_attributes__" 201 (.ref 22),e P "__weakref__" 203 (.ref 25),e P "__doc__" 204 (.none)]),
 (24,{ cls:=.type "type",data:=.cls { name:="SumError",bases:=[.type "ValueError"],mro:=[.ref 24,.type "ValueError",.type "Exception",.type "BaseException",.type "object"],ns:=23,qualname:="SumError",subclasses:=[.ref 37,.ref 49,.ref 61,.ref 73] },slots:=#[Option.some (.ref 15),Option.none,Option.some (.str "SumError" 189),Option.some (.str "SumError" 197),Option.some (.builtin "ValueError.__new__"),Option.some (.bool Bool.true)] }),
 (25,{ cls:=.type "getset_descriptor",data:=.fields #[.str "__weakref__" 202,.ref 24,.builtin "ExceptionGroup.__weakref__",.none] }),
 (36,dO 2 [e P "__module__" 214 (.str "toldsums.errors" 187),e P "__firstlineno__" 218 (.int 4 217),e P "__static_attributes__" 219 (.ref 35),e P "__doc__" 220 (.none)]),
 (37,{ cls:=.type "type",data:=.cls { name:="NoStretch",bases:=[.ref 24],mro:=[.ref 37,.ref 24,.type "ValueError",.type "Exception",.type "BaseException",.type "object"],ns:=36,qualname:="NoStretch" },slots:=#[Option.some (.ref 28),Option.none,Option.some (.str "NoStretch" 207),Option.some (.str "NoStretch" 215),Option.some (.builtin "ValueError.__new__"),Option.some (.bool Bool.true)] }),
 (48,dO 2 [e P "__module__" 230 (.str "toldsums.errors" 187),e P "__firstlineno__" 234 (.int 6 233),e P "__static_attributes__" 235 (.ref 47),e P "__doc__" 236 (.none)]),
 (49,{ cls:=.type "type",data:=.cls { name:="NoRest",bases:=[.ref 24],mro:=[.ref 49,.ref 24,.type "ValueError",.type "Exception",.type "BaseException",.type "object"],ns:=48,qualname:="NoRest" },slots:=#[Option.some (.ref 40),Option.none,Option.some (.str "NoRest" 223),Option.some (.str "NoRest" 231),Option.some (.builtin "ValueError.__new__"),Option.some (.bool Bool.true)] }),
 (60,dO 2 [e P "__module__" 246 (.str "toldsums.errors" 187),e P "__firstlineno__" 250 (.int 8 249),e P "__static_attributes__" 251 (.ref 59),e P "__doc__" 252 (.none)]),
 (61,{ cls:=.type "type",data:=.cls { name:="NoPlace",bases:=[.ref 24],mro:=[.ref 61,.ref 24,.type "ValueError",.type "Exception",.type "BaseException",.type "object"],ns:=60,qualname:="NoPlace" },slots:=#[Option.some (.ref 52),Option.none,Option.some (.str "NoPlace" 239),Option.some (.str "NoPlace" 247),Option.some (.builtin "ValueError.__new__"),Option.some (.bool Bool.true)] }),
 (72,dO 2 [e P "__module__" 262 (.str "toldsums.errors" 187),e P "__firstlineno__" 266 (.int 10 265),e P "__static_attributes__" 267 (.ref 71),e P "__doc__" 268 (.none)]),
 (73,{ cls:=.type "type",data:=.cls { name:="NoAsk",bases:=[.ref 24],mro:=[.ref 73,.ref 24,.type "ValueError",.type "Exception",.type "BaseException",.type "object"],ns:=72,qualname:="NoAsk" },slots:=#[Option.some (.ref 64),Option.none,Option.some (.str "NoAsk" 255),Option.some (.str "NoAsk" 263),Option.some (.builtin "ValueError.__new__"),Option.some (.bool Bool.true)] })]++[wZ,wX,x9,vL,jf,wY,yW,wa,xy,yX,jy,w6,jM,vi,vh,wc,gL,yV].flatMap kR++[
 (193,cO "nearest" 429 "nearest" 430 431 [.int 97 0,.int 2 0,.int 0 0,.int 0 0,.int 3 0,.ref 188,.bool Bool.true,.int 181 0,.ref 189,.none,.ref 190,.ref 191,.ref 192,.int 435 0,.int 97 0] 436),
 (194,fO "nearest" "nearest" (top 31) "toldsums.orders" 418 193)]++[j6,vN,yY,gM,xA,vM,vg,vK,w5,jR,jA,q9,jS,jz,jT,jB,ja,jc].flatMap kR++[
 (309,dO 9 [e P "show" 592 (.ref 256),e P "count" 593 (.ref 263),e P "within" 594 (.ref 270),e P "rest" 595 (.ref 277),e P "order" 596 (.ref 284),e P "near" 597 (.ref 291),e P "apart" 598 (.ref 296),e P "points" 599 (.ref 303),e P "parted" 600 (.ref 308)]),
 (310,dO 9 [e P "show" 611 (.int 0 612),e P "count" 613 (.int 1 614),e P "within" 615 (.int 2 616),e P "rest" 617 (.int 2 618),e P "order" 619 (.int 1 620),e P "near" 621 (.int 1 622),e P "apart" 623 (.int 1 624),e P "points" 625 (.int 1 626),e P "parted" 627 (.int 1 628)]),
 (323,cO "__init__" 651 "Desk.__init__" 652 653 [.int 165 0,.int 1 0,.int 0 0,.int 0 0,.int 3 0,.ref 318,.bool Bool.true,.int 181 0,.ref 319,.none,.ref 320,.ref 321,.ref 322,.int 655 0,.int 165 0] 656),
 (324,fO "__init__" "Desk.__init__" (inClass (top 60) 0) "toldsums.whole" 467 323),
 (330,cO "ask" 658 "Desk.ask" 659 660 [.int 168 0,.int 2 0,.int 0 0,.int 0 0,.int 3 0,.ref 325,.bool Bool.true,.int 181 0,.ref 326,.none,.ref 327,.ref 328,.ref 329,.int 667 0,.int 168 0] 668),
 (331,fO "ask" "Desk.ask" (inClass (top 60) 1) "toldsums.whole" 467 330),
 (337,cO "put_row" 670 "Desk.put_row" 671 672 [.int 179 0,.int 3 0,.int 0 0,.int 0 0,.int 3 0,.ref 332,.bool Bool.true,.int 181 0,.ref 333,.none,.ref 334,.ref 335,.ref 336,.int 676 0,.int 179 0] 677),
 (338,fO "put_row" "Desk.put_row" (inClass (top 60) 2) "toldsums.whole" 467 337),
 (344,cO "lead_in_row" 679 "Desk.lead_in_row" 680 681 [.int 185 0,.int 3 0,.int 0 0,.int 0 0,.int 3 0,.ref 339,.bool Bool.true,.int 181 0,.ref 340,.none,.ref 341,.ref 342,.ref 343,.int 688 0,.int 185 0] 689),
 (345,fO "lead_in_row" "Desk.lead_in_row" (inClass (top 60) 3) "toldsums.whole" 467 344),
 (349,cO "answer" 691 "Desk.answer" 692 693 [.int 194 0,.int 4 0,.int 0 0,.int 0 0,.int 3 0,.ref 346,.bool Bool.true,.int 181 0,.ref 347,.none,.none,.none,.ref 348,.int 694 0,.int 194 0] 695),
 (350,fO "answer" "Desk.answer" (inClass (top 60) 4) "toldsums.whole" 467 349),
 (356,cO "row_named" 697 "Desk.row_named" 698 699 [.int 202 0,.int 2 0,.int 0 0,.int 0 0,.int 3 0,.ref 351,.bool Bool.true,.int 181 0,.ref 352,.none,.ref 353,.ref 354,.ref 355,.int 702 0,.int 202 0] 703),
 (357,fO "row_named" "Desk.row_named" (inClass (top 60) 5) "toldsums.whole" 467 356),
 (359,dO 4 [e P "__module__" 646 (.str "toldsums.whole" 467),e P "__firstlineno__" 650 (.int 163 649),e P "__init__" 657 (.ref 324),e P "ask" 669 (.ref 331),e P "put_row" 678 (.ref 338),e P "lead_in_row" 690 (.ref 345),e P "answer" 696 (.ref 350),e P "row_named" 704 (.ref 357),e P "__static_attributes__" 706 (.ref 358),e P "__dict__" 708 (.ref 361),e P "__weakref__" 710 (.ref 362),e P "__doc__" 711 (.none)]),
 (360,{ cls:=.type "type",data:=.cls { name:="Desk",bases:=[.type "object"],mro:=[.ref 360,.type "object"],ns:=359,qualname:="Desk" },slots:=#[Option.none,Option.none,Option.some (.str "Desk" 639),Option.some (.str "Desk" 647),Option.some (.builtin "object.__new__"),Option.some (.bool Bool.true)] }),
 (361,{ cls:=.type "getset_descriptor",data:=.fields #[.str "__dict__" 707,.ref 360,.builtin "function.__dict__",.builtin "function.__dict__#set"] }),
 (362,{ cls:=.type "getset_descriptor",data:=.fields #[.str "__weakref__" 709,.ref 360,.builtin "ExceptionGroup.__weakref__",.none] })]++[fu,yK,de,kL,fj,kJ,ft,fm,kK,vO,wB,kI,xk,vP,zdU].flatMap kR
def qq:Program:={ PySem.Challenge.pw_toldsums_k36_desk_answers with main:={ PySem.Challenge.pw_toldsums_k36_desk_answers.main with body:=[top 1,top 2,top 3,top 4,top 5,top 7,top 8,top 9,top 10,top 11,top 12,top 13,top 14,top 15,top 16,top 18,top 20,top 21,top 22,top 23,top 24,top 26,top 28,top 30,top 31,top 33,top 35,top 36,top 38,top 39,top 40,top 41,top 42,top 43,top 44,top 45,top 46,top 47,top 48,top 49,top 50,top 51,top 52,top 53,top 54,top 55,top 56,top 57,top 58,top 59,top 60,top 62,top 63,top 64,top 65,top 66,top 67,top 68,top 69,top 70,top 71,top 72,top 73,top 74,top 75,top 76,top 77] } }
def HK:PySem.W.Hook:=kmHook KK [2,3,23,24,25,36,37,48,49,60,61,72,73,79,80,84,85,91,92,96,97,101,102,108,109,115,116,122,123,129,130,134,135,141,142,146,147,153,154,160,161,167,168,172,173,179,180,186,187,193,194,200,201,207,208,212,213,217,218,224,225,229,230,236,237,243,244,248,249,255,256,262,263,269,270,276,277,283,284,290,291,295,296,302,303,307,308,309,310,323,324,330,331,337,338,344,345,349,350,356,357,359,360,361,362,370,371,375,376,382,383,389,390,396,397,403,404,415,416,422,423,427,428,432,433,439,440,446,447,451,452,456,457,461,462] (fun _=>by kernel_rfl) [189,137,196]
def FO (c:String)(vs:List Value):Obj:={ cls:=.type c,data:=.fields vs.toArray }
def NO (vs:List Value):Obj:={ cls:=.none,data:=.fields vs.toArray }
def TO (vs:List Value):Obj:={ cls:=.type "tuple",data:=.seq vs.toArray }
def nO (x q:Str)(st:Stmt):Obj:={ cls:=.none,data:=.func { name:=x,qualname:=q,params:=xr st,body:=.stmts (qS st),scope:=zh st,globals:=0,closure:=[],defaults:=.none,kwdefaults:=.none } }
def oR (r:Rc):List Obj:=TO []::NO []::(match r.m with|0=>[]|_=>[TO (r.v.zipIdx.map fun p=>.str p.1 (r.t+3+p.2)),TO []])++[nO r.x r.x r.st,cR r,fR r]
def tR (k:Nat):Obj:=NO ((([(2,20),(4,33),(6,45),(8,57),(10,69),(14,79),(21,84),(23,91),(28,96),(31,101),(34,108),(37,115),(39,122),(41,129),(44,134),(47,141),(56,146),(65,153),(67,160),(78,167),(84,172),(87,179),(92,186),(97,193),(100,200),(107,207),(110,212),(119,217),(121,224),(125,229),(129,236),(134,243),(137,248),(140,255),(142,262),(144,269),(146,276),(148,283),(150,290),(153,295),(155,302),(157,307)]:List (Int×Addr)).take k).flatMap fun r=>[.int r.1 0,.int 0 0,.ref r.2])
noncomputable def mO1:Params->List Obj:=fun P=>[
 PySem.W.boot_o_0 P,
 PySem.W.boot_o_1 P,
 PySem.W.boot_o_2 P,
 dO 28 (gl3 P "toldsums.apart" 346 27),
 PySem.W.boot_o_4 P,
 PySem.W.boot_o_5 P,
 PySem.W.boot_o_6 P,
 PySem.W.boot_o_7 P,
 PySem.W.boot_o_8 P,
 PySem.W.boot_o_9 P,
 PySem.W.boot_o_10 P,
 TO [],
 tR 18,
 cO "<module>" 182 "<module>" 183 184 [.int 1 0,.int 0 0,.int 0 0,.int 0 0,.int 0 0,.ref 11,.bool Bool.false,.int 181 0,.ref 12,.none,.none,.none,.none,.int 185 0,.int 1 0] 186,
 { cls:=.type "frame",slots:=#[Option.some (.ref 13),Option.some (.ref 3),Option.some (.ref 3),Option.none,Option.some (.str "__main__" 164),Option.none,Option.some (.ref 0)] },
 TO [.type "ValueError"],
 FO "builtin_function_or_method" [.builtin "type.__prepare__",.type "type"],
 dO 4 [e P "__module__" 196 (.str "toldsums.errors" 187),e P "__qualname__" 198 (.str "SumError" 197),e P "__firstlineno__" 200 (.int 2 199),e P "__static_attributes__" 201 (.ref 22)],
 TO [],
 NO [],
 cO "SumError" 191 "SumError" 192 193 [.int 2 0,.int 0 0,.int 0 0,.int 0 0,.int 0 0,.ref 18,.bool Bool.false,.int 181 0,.ref 19,.none,.none,.none,.none,.int 194 0,.int 2 0] 195,
 { cls:=.type "frame",slots:=#[Option.some (.ref 20),Option.some (.ref 3),Option.some (.ref 17),Option.none,Option.some (.str "toldsums.errors" 187),Option.none,Option.some (.ref 0)] },
 TO [],
 dO 3 [e P "__module__" 196 (.str "toldsums.errors" 187),e P "__firstlineno__" 200 (.int 2 199),e P "__static_attributes__" 201 (.ref 22),e P "__weakref__" 203 (.ref 25),e P "__doc__" 204 (.none)],
 { cls:=.type "type",data:=.cls { name:="SumError",bases:=[.type "ValueError"],mro:=[.ref 24,.type "ValueError",.type "Exception",.type "BaseException",.type "object"],ns:=23,qualname:="SumError",subclasses:=[.ref 37,.ref 49,.ref 61,.ref 73] },slots:=#[Option.some (.ref 15),Option.none,Option.some (.str "SumError" 189),Option.some (.str "SumError" 197),Option.some (.builtin "ValueError.__new__"),Option.some (.bool Bool.true)] },
 FO "getset_descriptor" [.str "__weakref__" 202,.ref 24,.builtin "ExceptionGroup.__weakref__",.none],
 FO "super" [.ref 24,.ref 24,.ref 24],
 FO "builtin_function_or_method" [.builtin "object.__init_subclass__",.ref 24],
 TO [.ref 24],
 FO "builtin_function_or_method" [.builtin "type.__prepare__",.type "type"],
 dO 4 [e P "__module__" 214 (.str "toldsums.errors" 187),e P "__qualname__" 216 (.str "NoStretch" 215),e P "__firstlineno__" 218 (.int 4 217),e P "__static_attributes__" 219 (.ref 35)],
 TO [],
 NO [],
 cO "NoStretch" 209 "NoStretch" 210 211 [.int 4 0,.int 0 0,.int 0 0,.int 0 0,.int 0 0,.ref 31,.bool Bool.false,.int 181 0,.ref 32,.none,.none,.none,.none,.int 212 0,.int 4 0] 213,
 { cls:=.type "frame",slots:=#[Option.some (.ref 33),Option.some (.ref 3),Option.some (.ref 30),Option.none,Option.some (.str "toldsums.errors" 187),Option.none,Option.some (.ref 0)] },
 TO [],
 dO 2 [e P "__module__" 214 (.str "toldsums.errors" 187),e P "__firstlineno__" 218 (.int 4 217),e P "__static_attributes__" 219 (.ref 35),e P "__doc__" 220 (.none)],
 { cls:=.type "type",data:=.cls { name:="NoStretch",bases:=[.ref 24],mro:=[.ref 37,.ref 24,.type "ValueError",.type "Exception",.type "BaseException",.type "object"],ns:=36,qualname:="NoStretch" },slots:=#[Option.some (.ref 28),Option.none,Option.some (.str "NoStretch" 207),Option.some (.str "NoStretch" 215),Option.some (.builtin "ValueError.__new__"),Option.some (.bool Bool.true)] },
 FO "super" [.ref 37,.ref 37,.ref 37],
 FO "builtin_function_or_method" [.builtin "object.__init_subclass__",.ref 37],
 TO [.ref 24],
 FO "builtin_function_or_method" [.builtin "type.__prepare__",.type "type"],
 dO 4 [e P "__module__" 230 (.str "toldsums.errors" 187),e P "__qualname__" 232 (.str "NoRest" 231),e P "__firstlineno__" 234 (.int 6 233),e P "__static_attributes__" 235 (.ref 47)],
 TO [],
 NO [],
 cO "NoRest" 225 "NoRest" 226 227 [.int 6 0,.int 0 0,.int 0 0,.int 0 0,.int 0 0,.ref 43,.bool Bool.false,.int 181 0,.ref 44,.none,.none,.none,.none,.int 228 0,.int 6 0] 229,
 { cls:=.type "frame",slots:=#[Option.some (.ref 45),Option.some (.ref 3),Option.some (.ref 42),Option.none,Option.some (.str "toldsums.errors" 187),Option.none,Option.some (.ref 0)] },
 TO [],
 dO 2 [e P "__module__" 230 (.str "toldsums.errors" 187),e P "__firstlineno__" 234 (.int 6 233),e P "__static_attributes__" 235 (.ref 47),e P "__doc__" 236 (.none)],
 { cls:=.type "type",data:=.cls { name:="NoRest",bases:=[.ref 24],mro:=[.ref 49,.ref 24,.type "ValueError",.type "Exception",.type "BaseException",.type "object"],ns:=48,qualname:="NoRest" },slots:=#[Option.some (.ref 40),Option.none,Option.some (.str "NoRest" 223),Option.some (.str "NoRest" 231),Option.some (.builtin "ValueError.__new__"),Option.some (.bool Bool.true)] },
 FO "super" [.ref 49,.ref 49,.ref 49],
 FO "builtin_function_or_method" [.builtin "object.__init_subclass__",.ref 49],
 TO [.ref 24],
 FO "builtin_function_or_method" [.builtin "type.__prepare__",.type "type"],
 dO 4 [e P "__module__" 246 (.str "toldsums.errors" 187),e P "__qualname__" 248 (.str "NoPlace" 247),e P "__firstlineno__" 250 (.int 8 249),e P "__static_attributes__" 251 (.ref 59)],
 TO [],
 NO [],
 cO "NoPlace" 241 "NoPlace" 242 243 [.int 8 0,.int 0 0,.int 0 0,.int 0 0,.int 0 0,.ref 55,.bool Bool.false,.int 181 0,.ref 56,.none,.none,.none,.none,.int 244 0,.int 8 0] 245,
 { cls:=.type "frame",slots:=#[Option.some (.ref 57),Option.some (.ref 3),Option.some (.ref 54),Option.none,Option.some (.str "toldsums.errors" 187),Option.none,Option.some (.ref 0)] },
 TO [],
 dO 2 [e P "__module__" 246 (.str "toldsums.errors" 187),e P "__firstlineno__" 250 (.int 8 249),e P "__static_attributes__" 251 (.ref 59),e P "__doc__" 252 (.none)],
 { cls:=.type "type",data:=.cls { name:="NoPlace",bases:=[.ref 24],mro:=[.ref 61,.ref 24,.type "ValueError",.type "Exception",.type "BaseException",.type "object"],ns:=60,qualname:="NoPlace" },slots:=#[Option.some (.ref 52),Option.none,Option.some (.str "NoPlace" 239),Option.some (.str "NoPlace" 247),Option.some (.builtin "ValueError.__new__"),Option.some (.bool Bool.true)] },
 FO "super" [.ref 61,.ref 61,.ref 61],
 FO "builtin_function_or_method" [.builtin "object.__init_subclass__",.ref 61],
 TO [.ref 24],
 FO "builtin_function_or_method" [.builtin "type.__prepare__",.type "type"],
 dO 4 [e P "__module__" 262 (.str "toldsums.errors" 187),e P "__qualname__" 264 (.str "NoAsk" 263),e P "__firstlineno__" 266 (.int 10 265),e P "__static_attributes__" 267 (.ref 71)],
 TO [],
 NO [],
 cO "NoAsk" 257 "NoAsk" 258 259 [.int 10 0,.int 0 0,.int 0 0,.int 0 0,.int 0 0,.ref 67,.bool Bool.false,.int 181 0,.ref 68,.none,.none,.none,.none,.int 260 0,.int 10 0] 261,
 { cls:=.type "frame",slots:=#[Option.some (.ref 69),Option.some (.ref 3),Option.some (.ref 66),Option.none,Option.some (.str "toldsums.errors" 187),Option.none,Option.some (.ref 0)] },
 TO [],
 dO 2 [e P "__module__" 262 (.str "toldsums.errors" 187),e P "__firstlineno__" 266 (.int 10 265),e P "__static_attributes__" 267 (.ref 71),e P "__doc__" 268 (.none)],
 { cls:=.type "type",data:=.cls { name:="NoAsk",bases:=[.ref 24],mro:=[.ref 73,.ref 24,.type "ValueError",.type "Exception",.type "BaseException",.type "object"],ns:=72,qualname:="NoAsk" },slots:=#[Option.some (.ref 64),Option.none,Option.some (.str "NoAsk" 255),Option.some (.str "NoAsk" 263),Option.some (.builtin "ValueError.__new__"),Option.some (.bool Bool.true)] },
 FO "super" [.ref 73,.ref 73,.ref 73],
 FO "builtin_function_or_method" [.builtin "object.__init_subclass__",.ref 73]]++[wZ,wX,x9,vL,jf,wY,yW,wa,xy,yX,jy,w6,jM].flatMap oR
noncomputable def mO2:Params->List Obj:=fun P=>(((mO1 P).set 3 (dO 57 (gl3 P "toldsums.whole" 467 56))).set 12 (tR 42))++[vi,vh,wc,gL,yV].flatMap oR++[TO [],
 NO [],
 TO [.str "row" 432,.str "total" 433],
 TO [.str "total" 434],
 nO "nearest" "nearest" (top 31),
 cO "nearest" 429 "nearest" 430 431 [.int 97 0,.int 2 0,.int 0 0,.int 0 0,.int 3 0,.ref 188,.bool Bool.true,.int 181 0,.ref 189,.none,.ref 190,.ref 191,.ref 192,.int 435 0,.int 97 0] 436,
 fO "nearest" "nearest" (top 31) "toldsums.orders" 418 193]++[j6,vN,yY,gM,xA,vM,vg,vK,w5,jR,jA,q9,jS,jz,jT,jB,ja,jc].flatMap oR
open PySem.W
def Xt_:Shared->Bool:=fun s=>xlAt qq [] s&&recOk (RowW.records (OpenRow.toRowW PySem.Challenge.rw_toldsums_k36_desk_answers.row)) s
def bt (l:List Obj):BT:=(l.foldl (fun(x:BT×Nat) o=>(x.1.ins x.2 o,x.2+1)) (.nil,0)).1
abbrev pp:Program:=PySem.Challenge.pw_toldsums_k36_desk_answers
def bb:List Stmt:=behindTheImports pp
def bw:Env:={ scope:=pp.main.scope,locals:=mainNs,globals:=mainNs,cells:=[],code:=.ref 13,frame:=some 14 }
def cc:Code:=.body bb bw
abbrev p0:Pos:=⟨0,0,0,0⟩
abbrev p2:Pos:=⟨363,0,386,15⟩
abbrev an:Option Value:=some (.ref 6)
abbrev rw_:String:="special-get-raises"
abbrev ll:List Str:=["ANSWERS","NUMBERS_ASKED"]
noncomputable def s0 (w:World) (os:OsState):Shared:=⟨boot_heap w.params,Array.mk [],boot_drawn,boot_toks,os⟩
theorem c0:∀w:World,((boot_heap w.params).isNs mainGlobals&&(Array.mk []:Array GenState).size==0,(boot_heap w.params).objs.size,(boot_heap w.params).nsMap mainGlobals "__annotations__")=(true,11,an):=fun w=>by kernel_rfl
noncomputable def sa (w:World) (os:OsState):Shared:=match topGo treeTable pp w 11 an 12 (s0 w os) (topStub pp) with|some (s,_)=>s|none=>s0 w os
theorem c1:∀w:World,(fun os=>topGo treeTable pp w 11 an 12 (s0 w os) (topStub pp))=fun os=>some (sa w os,⟨denote treeTable cc,cc,p0,[topFrame p0]⟩):=fun w=>by kernel_rfl
theorem c2:∀w:World,(fun os=>segRun treeTable pp w 11 an 1 1 (sa w os) (blockOf bb bw cc p0 [topFrame p0]))=fun os=>some (.next,sa w os,cc,p0):=fun w=>by kernel_rfl
noncomputable def sT (w:World) (os:OsState):SharedT:=⟨bt (sa w os).heap.objs.toList,(sa w os).heap.objs.size,(sa w os).heap.life,(sa w os).gens,(sa w os).drawn,(sa w os).toks,(sa w os).os⟩
theorem c2t:∀w:World,(fun os=>(sT w os).abs)=fun os=>sa w os:=fun w=>by kernel_rfl
abbrev zq1:Pos:=⟨65,0,66,39⟩
abbrev ZR1:List Stmt:=bb.drop 23
noncomputable def ZS1 (w:World) (os:OsState):SharedT:=⟨bt (mO1 w.params),155,{},Array.mk [],{},375,os⟩
theorem zd1:∀w:World,(fun os=>segRunT treeTable pp w 11 an 1 1454 (sT w os) (piecesOf (bb.take 23) bw cc p0 [topFrame p0]))=fun os=>some (.next,ZS1 w os,cc,zq1):=fun w=>by kernel_rfl
abbrev zq2:Pos:=⟨157,0,160,94⟩
abbrev ZR2:List Stmt:=ZR1.drop 35
noncomputable def ZS2 (w:World) (os:OsState):SharedT:=⟨bt (mO2 w.params),309,{},Array.mk [],{},592,os⟩
theorem zd2:∀w:World,(fun os=>segRunT treeTable pp w 11 an 1 809 (ZS1 w os) (piecesOf (ZR1.take 35) bw cc zq1 [topFrame p0]))=fun os=>some (.next,ZS2 w os,cc,zq2):=fun w=>by kernel_rfl
noncomputable def sE (w:World) (os:OsState):SharedT:=match segRunT treeTable pp w 11 an 1 1180 (ZS2 w os) (piecesOf ZR2 bw cc zq2 [topFrame p0]) with|some (_,s,_,_)=>s|none=>ZS2 w os
abbrev C4 (b:Bool):Prop:=∀w:World,(fun os=>segRunT treeTable pp (w.withFollow rw_ b) 11 an 1 1180 (ZS2 (w.withFollow rw_ b) os) (piecesOf ZR2 bw cc zq2 [topFrame p0]))=fun os=>some (.next,sE (w.withFollow rw_ b) os,cc,p2)
theorem c4F:C4 false:=fun w=>by kernel_rfl
theorem c4T:C4 true:=fun w=>by kernel_rfl
noncomputable def sF (w:World) (os:OsState):Shared:=match topRun treeTable pp w 11 an 2 (sE w os).abs ⟨doneF .next,cc,p2,[topFrame p0]⟩ with|some s=>s|none=>s0 w os
abbrev C5 (b:Bool):Prop:=∀w:World,(fun os=>topRun treeTable pp (w.withFollow rw_ b) 11 an 2 (sE (w.withFollow rw_ b) os).abs ⟨doneF .next,cc,p2,[topFrame p0]⟩)=fun os=>some (sF (w.withFollow rw_ b) os)
theorem c5F:C5 false:=fun w=>by kernel_rfl
theorem c5T:C5 true:=fun w=>by kernel_rfl
abbrev C6 (b:Bool):Prop:=∀w:World,(fun os=>staticsOk (importedModules pp.main.body) (boot_heap (w.withFollow rw_ b).params) (sF (w.withFollow rw_ b) os).heap&&namesBound pp (sF (w.withFollow rw_ b) os).heap&&gensDone (sF (w.withFollow rw_ b) os)&&laidKept (boot_heap (w.withFollow rw_ b).params) (sF (w.withFollow rw_ b) os).heap)=fun _=>true
theorem c6F:C6 false:=fun w=>by kernel_rfl
theorem c6T:C6 true:=fun w=>by kernel_rfl
abbrev C7 (b:Bool):Prop:=∀w:World,(fun os=>(openSeen qq ll (importedModules pp.main.body) Xt_ true (sF (w.withFollow rw_ b) os)).1)=fun _=>(openGood qq ll).1
theorem c7F:C7 false:=fun w=>by kernel_rfl
theorem c7T:C7 true:=fun w=>by kernel_rfl
abbrev C9 (b:Bool):Prop:=∀w:World,(fun os=>(openSeen qq ll (importedModules pp.main.body) Xt_ true (sF (w.withFollow rw_ b) os)).2)=fun _=>(openGood qq ll).2
theorem c9F:C9 false:=fun w=>by kernel_rfl
theorem c9T:C9 true:=fun w=>by kernel_rfl
abbrev C8 (b:Bool):Prop:=∀w:World,(fun os=>Hook.obs HK (sF (w.withFollow rw_ b) os))=fun _=>Hook.val HK (w.withFollow rw_ b)
theorem c8F:C8 false:=fun w=>by kernel_rfl
theorem c8T:C8 true:=fun w=>by kernel_rfl
theorem op_:opening pp=plainProg pp.main.scope.names:=by kernel_rfl
theorem sd_:PySem.Challenge.rw_toldsums_k36_desk_answers.row.wellSaid=true:=by kernel_rfl
theorem said_:PySem.Challenge.rw_toldsums_k36_desk_answers.wellSaid=true:=by
 unfold OpenLaw.wellSaid
 iterate 18 refine look_both ?_ (by as_aux_lemma=>kernel_rfl)
 exact sd_
end Kn
namespace HT
open PySem PyProof.Rows
def lexLt:List Int->List Int->Bool
 |[],[]=>false
 |[],_::_=>true
 |_::_,[]=>false
 |x::xs,y::ys=>if x=y then lexLt xs ys else decide (x<y)
theorem lexLt_cons (x y:Int)(xs ys:List Int):lexLt (x::xs) (y::ys)=if x=y then lexLt xs ys else decide (x<y):=rfl
theorem lexLt_nil_nil:lexLt [] []=false:=rfl
theorem dJ (y:Int)(ys:List Int):lexLt [] (y::ys)=true:=rfl
theorem dM (x:Int)(xs:List Int):lexLt (x::xs) []=false:=rfl
theorem zgs (A:Around)(s:Shared)(a:Int)(t:Tok)(c:Int)(u:Tok):∃e,SeqAt.EqAt A s (.int a t) (.int c u) e/\(e=true↔a=c):=
 ⟨(a==c),R9 a t c u,by simp⟩
theorem rcLt_int (A:Around)(s:Shared)(a:Int)(t:Tok)(c:Int)(u:Tok)(prog:Program)(w:World)(E:Value->Shared->Prop)(Q:Value->Shared->Prop)(h:Q (.bool (decide (a<c))) s) :
 wpAny (model prog w) A (richCompare .Lt (.int a t) (.int c u)) Q E s:=
 (PyProof.Rows.lt_int h:wpAny (model prog w) A (compareOp .Lt (.int a t) (.int c u)) Q E s)
section
open PySem.SeqAt
open PySem.AutoSeq1 (wpAny_loadPart')
open PySem.MeetsSeq PySem.MeetsSeq2 PySem.MeetsSeq3
theorem pQ (l b:Addr)(items items2:Array Value)(n n2:Nat)(dd dd2:Option Addr)(sl sl2:Array (Option Value))(ns ms:List Int)(hi:IntsAre items.toList ns)(hj:IntsAre items2.toList ms) :
 Meets (Builtin.«tuple.__lt__» ⟨[.ref l,.ref b],[]⟩)
  (fun _ R s=>s.heap.get? l=some { cls:=.type "tuple",dict:=dd,data:=.seq items n,slots:=sl }/\s.heap.get? b=some { cls:=.type "tuple",dict:=dd2,data:=.seq items2 n2,slots:=sl2 }/\
    R (.ok (.ret (.bool (lexLt ns ms)))) s):=
 .of_wp fun prog w A R s h=>by
  obtain⟨hp,g,d,tk,os⟩:=s;obtain⟨hl,hb,h⟩:=h;have f2:=AutoSeq1.sub_tuple_tuple;have z1:items.size=ns.length:=by rw[<-hi.length];simp
  have z2:items2.size=ms.length:=by rw[<-hj.length];simp
  wp_walk using O2 hl,O2 hb,wpAny_forIn_list _ (fun rest b s'=>b.1=none/\s'=⟨hp,g,d,tk,os⟩/\∃(vs ws:List Value) (ns' ms':List Int),rest=vs.zip ws/\
   IntsAre vs ns'/\IntsAre ws ms'/\ns'.length+items2.size=ms'.length+items.size/\R (.ok (.ret (.bool (lexLt ns' ms')))) ⟨hp,g,d,tk,os⟩) _
  case turn=>
   rintro⟨y,x⟩ rest b s' ⟨hb',rfl,vs,ws,ns',ms',hz,hvi,hwi,hlen,hR⟩
   cases hvi with
   |nil=>rw[List.zip_nil_left] at hz;cases hz
   |cons a t hvi'=>
    cases hwi with
    |nil=>rw[List.zip_nil_right] at hz;cases hz
    |cons c u hwi'=>
     rw[NM] at hz;injection hz with hyx hrest
     injection hyx with hy hx
     subst hy hx;rw[lexLt_cons] at hR;simp only[Uk] at hlen;obtain⟨e,he,hiff⟩:=zgs A.in1 ⟨hp,g,d,tk,os⟩ a t c u;refine Uc (he prog w _ _ ?_)
     cases e with
     |true=>
      rw[Uv (hiff.mp rfl)] at hR;wp_walk;exact⟨rfl,rfl,_,_,_,_,hrest,hvi',hwi',by lia,hR⟩
     |false=>
      rw[Ur (fun q=>absurd (hiff.mpr q) UH)] at hR;have hri:=rcLt_int A.in1 ⟨hp,g,d,tk,os⟩ a t c u prog w;wp_walk using hri;exact⟨_,rfl,by simpa using hR⟩
  case fin=>
   rintro⟨b1,b2⟩ s' ⟨hb',rfl,vs,ws,ns',ms',hz,hvi,hwi,hlen,hR⟩;simp only at hb';subst hb'
   have hv:lexLt ns' ms'=decide (items.size<items2.size):=by
    cases hvi with
    |nil=>
     cases hwi with
     |nil=>
      simp only[UM] at hlen;rw[lexLt_nil_nil];exact(UE (by lia)).symm
     |cons c u hw=>
      simp only[UM,Uk] at hlen;rw[dJ];exact(Uy (by lia)).symm
    |cons a t hv=>
     cases hwi with
     |nil=>
      simp only[UM,Uk] at hlen;rw[dM];exact(UE (by lia)).symm
     |cons c u hw=>
      rw[NM] at hz
      cases hz
   rw[hv] at hR;wp_walk;exact⟨_,rfl,by simpa[Builtin.Tuple.tupleCompareSizes] using hR⟩
  case h=>
   exact⟨rfl,rfl,items.toList,items2.toList,ns,ms,rfl,hi,hj,by lia,h⟩
end
theorem lt_tupInts (hl:IsTup s.heap l items)(hb:IsTup s.heap b items2)(hi:IntsAre items.toList ns)(hj:IntsAre items2.toList ms)(hu:A.units<cLine)(h:Q (.bool (lexLt ns ms)) s):wpAny (model prog w) A (compareOp .Lt (.ref l) (.ref b)) Q E s:=by
 obtain⟨⟨cls,dd,data,sl⟩,ho,hc,n,hd⟩:=id hl;obtain⟨⟨cls2,dd2,data2,sl2⟩,ho2,hc2,n2,hd2⟩:=id hb;simp only at hc hd hc2 hd2;subst hc hd hc2 hd2
 exact NC (op:=.Lt) ⟨_,ho,rfl⟩ ⟨_,ho2,rfl⟩ slot_tuple_lt entry_tuple_lt (PySem.F.args_tuple_lt_2 _ _) (pQ l b items items2 n n2 dd dd2 sl sl2 ns ms hi hj)
  ⟨ho,ho2,show Value.bool (lexLt ns ms)≠Value.notImplemented/\Q (.bool (lexLt ns ms)) s from⟨(fun x=>nomatch x),h⟩⟩ hu
theorem cat_tup (ht:IsTup s.heap t vs.toArray)(hb:IsTup s.heap b ws.toArray)(hv:vs≠[])(h1:ws=[]->Q (.ref t) s)(h2:ws≠[]->Q (.ref s.heap.objs.size) { s with heap:=s.heap.push { cls:=.type "tuple",data:=.seq (vs++ws).toArray } })(hsz:vs.length+ws.length<=sizeLine):wpAny (model prog w) A (binaryOp .Add (.ref t) (.ref b)) Q E s:=by
 obtain⟨⟨cls,dd,data,sl⟩,ho,hc,n,hd⟩:=id ht;obtain⟨⟨cls2,dd2,data2,sl2⟩,ho2,hc2,n2,hd2⟩:=id hb;simp only at hc hd hc2 hd2;subst hc hd hc2 hd2;have e:vs.toArray++ws.toArray=(vs++ws).toArray:=by simp
 by_cases hw:ws=[]
 ·exact concat_meets ⟨_,ho,rfl⟩ ⟨_,ho2,rfl⟩ noFill_tuple_add seq_tuple_add Nh T4 (TY _ _)
   (tuple_addW1 t b vs.toArray ws.toArray n n2 dd dd2 sl sl2 (by simpa using hv) (by simp[hw])) ⟨ho,ho2,h1 hw⟩
 ·refine concat_meets ⟨_,ho,rfl⟩ ⟨_,ho2,rfl⟩ noFill_tuple_add seq_tuple_add Nh T4 (TY _ _)
   (tuple_addW2 t b vs.toArray ws.toArray n n2 dd dd2 sl sl2 (by simpa using hv) (by simpa using hw) (by rw[Ul,Ul];exact hsz)) ⟨ho,ho2,?_⟩
  rw[e];exact h2 hw
def sIx (n d:Nat):Option Int->Nat
 |none=>d
 |some v=>if v<0 then(v+(n:Int)).toNat else min v.toNat n
theorem zix (n d:Nat)(hd:d<=n)(o:Option Int):sIx n d o<=n:=by
 cases o with
 |none=>exact hd
 |some v=>
  show(if v<0 then(v+(n:Int)).toNat else min v.toNat n)<=n
  by_cases hv:v<0
  ·rw[Uv hv];lia
  ·rw[Ur hv];exact Nat.min_le_right _ _
theorem zem (v:Int)(n d:Nat):(if v<0 then max (v+(n:Int)) 0 else min v (n:Int))=((sIx n d (some v):Nat):Int):=by
 show(if v<0 then max (v+(n:Int)) 0 else min v (n:Int))=(((if v<0 then(v+(n:Int)).toNat else min v.toNat n):Nat):Int)
 by_cases hv:v<0
 ·simp only[Uv hv];lia
 ·simp only[Ur hv];lia
theorem zdz (lo hi:Option Int)(n:Nat):Builtin.Slice.sliceAdjust lo hi 1 (n:Int)=(((sIx n 0 lo:Nat):Int),((sIx n n hi:Nat):Int)):=by
 have h1:¬((1:Int)<0):=by lia
 unfold Builtin.Slice.sliceAdjust;simp only[h1,OR];refine Prod.ext ?_ ?_
 ·cases lo with
  |none=>rfl
  |some v=>exact zem v n 0
 ·cases hi with
  |none=>rfl
  |some v=>exact zem v n n
theorem zde (i j:Nat):Builtin.Slice.slicePlaces (i:Int) (j:Int) 1=j-i:=by
 unfold Builtin.Slice.slicePlaces;have h1:(1:Int)>0:=by lia
 simp only[h1,Tp,Int.ediv_one];split<;>lia
theorem bY (p:IsPart v o)(h:Q o s):wpAny (model prog w) A (Builtin.Slice.slicePartIndex v) Q E s:=by
 cases p with
 |none=>exact slicePart_none h
 |int i t=>exact slicePart_int h
theorem xJ {lo:Option Int}{Q:Int×Int×Nat->Shared->Prop}(hs:s.heap.IsSliceOf sl vl vu .none)(pl:IsPart vl lo)(pu:IsPart vu hi)(h:Q (((sIx n 0 lo:Nat):Int),1,sIx n n hi-sIx n 0 lo) s):wpAny (model prog w) A (Builtin.Slice.sliceApplied (.ref sl) (pure (n:Int))) Q E s:=by
 obtain⟨os,hos,hcs,hds⟩:=id hs;unfold Builtin.Slice.sliceApplied Builtin.Slice.sliceFields;refine Uc (Uc (wpAny_field hos hds (x:=vl) rfl (Uc (wpAny_field hos hds (x:=vu) rfl (Uc (wpAny_field hos hds (x:=.none) rfl (Uj ?_)))))));refine Uc (slicePart_none ?_);show wpAny _ _ (if((1:Int)==0)=true then _ else _) _ _ s;rw[Ur (by decide)];refine Uc (bY pl (Uc (bY pu (Uc (Uj ?_)))));show wpAny _ _ (match Builtin.Slice.sliceAdjust lo hi 1 (n:Int) with|(lo,hi)=>pure (lo,(1:Int),Builtin.Slice.slicePlaces lo hi 1)) _ _ s;rw[zdz lo hi n];show wpAny _ _ (pure (((sIx n 0 lo:Nat):Int),(1:Int),Builtin.Slice.slicePlaces ((sIx n 0 lo:Nat):Int) ((sIx n n hi:Nat):Int) 1)) _ _ s;rw[zde];exact Uj h
theorem zfV (xs:Array Value)(i k:Nat):((List.range k).filterMap fun(m:Nat)=>xs[((i:Int)+(m:Int)*1).toNat]?).toArray=((xs.toList.drop i).take k).toArray:=by
 have e:(fun(m:Nat)=>xs[((i:Int)+(m:Int)*1).toNat]?)=fun m=>xs[i+m]?:=by
  funext m;have:((i:Int)+(m:Int)*1).toNat=i+m:=by lia
  rw[this]
 rw[e];have:=pick_run xs i k;rw[List.filterMap_map] at this;have e2:((fun x=>xs[x]?)∘fun x=>i+x)=fun m=>xs[i+m]?:=rfl;rw[e2] at this;rw[this]
theorem getItem_tuple_cut {lo:Option Int}(ht:IsTup s.heap t items)(hs:s.heap.IsSliceOf sl vl vu .none)(pl:IsPart vl lo)(pu:IsPart vu hi)(hw:¬(sIx items.size 0 lo=0/\sIx items.size items.size hi=items.size))(h:Q (.ref s.heap.objs.size) { s with heap:=s.heap.push { cls:=.type "tuple",data:=.seq ((items.toList.drop (sIx items.size 0 lo)).take (sIx items.size items.size hi-sIx items.size 0 lo)).toArray } })(hsz:items.size<=sizeLine):wpAny (model prog w) A (getItem (.ref t) (.ref sl)) Q E s:=by
 have htake:sizeOk (.seq ((items.toList.drop (sIx items.size 0 lo)).take (sIx items.size items.size hi-sIx items.size 0 lo)).toArray):=by
  show((items.toList.drop (sIx items.size 0 lo)).take (sIx items.size items.size hi-sIx items.size 0 lo)).toArray.size<=sizeLine;rw[Ul,UA,Rf,Oe];lia
 have hj:sIx items.size items.size hi<=items.size:=zix _ _ (Ub _) hi;obtain⟨os,hos,hcs,hds⟩:=id hs;have hTs:s.TypeIs (.ref sl) "slice":=⟨os,hos,hcs⟩;unfold getItem
 try with_reducible refine Oc ?_
 first|refine Uc (Uj ?_)|skip
 refine Uc (wpAny_sequenceKey ht.typeIs (by decide) ?_)
 refine Uc (Ta (name:=Str.ofString "__getitem__") ht.typeIs Os
  (RX Os ht.typeIs entry_tuple_getitem ?_ (args_tuple_getitem _ _)))
 show wpAny _ _ (Builtin.Tuple.tupleItemsOf (.ref t) >>= _) _ _ s;refine Uc (tupleItemsOf_ ht ?_);refine Uc (wpAny_typeOf hTs ?_);rw[Uv (by decide)];refine Uc (xJ hs pl pu ?_)
 have hno:¬((((sIx items.size 0 lo:Nat):Int)==0&&(1:Int)==1&&(sIx items.size items.size hi-sIx items.size 0 lo)==items.size)=true):=by
  intro q;rw[OQ,OQ] at q;have q1:((sIx items.size 0 lo:Nat):Int)=0:=eq_of_beq q.1.1;have q2:sIx items.size items.size hi-sIx items.size 0 lo=items.size:=eq_of_beq q.2;exact hw ⟨by lia,by lia⟩
 show wpAny _ _ (if(((sIx items.size 0 lo:Nat):Int)==0&&(1:Int)==1&&(sIx items.size items.size hi-sIx items.size 0 lo)==items.size)=true then _ else _) _ _ s;rw[Ur hno,zfV]
 first
  |exact Uc (m:=Builtin.Tuple.tupleExact _) (Ra (Uj ⟨_,rfl,Uj h⟩) htake)
  |exact Uc (m:=Builtin.Tuple.tupleExact _) (Ra (Uc (Uj (Uj ⟨_,rfl,Uj h⟩))) htake)
  |exact Uc (Uc (m:=Builtin.Tuple.tupleExact _) (Ra (Uj (Uj ⟨_,rfl,Uj h⟩)) htake))
  |exact Uc (Uc (m:=Builtin.Tuple.tupleExact _) (Ra (Uj ⟨_,rfl,Uj h⟩) htake))
theorem getItem_tuple_all {lo:Option Int}(ht:IsTup s.heap t items)(hs:s.heap.IsSliceOf sl vl vu .none)(pl:IsPart vl lo)(pu:IsPart vu hi)(hw:sIx items.size 0 lo=0/\sIx items.size items.size hi=items.size)(h:Q (.ref t) s):wpAny (model prog w) A (getItem (.ref t) (.ref sl)) Q E s:=by
 obtain⟨os,hos,hcs,hds⟩:=id hs;have hTs:s.TypeIs (.ref sl) "slice":=⟨os,hos,hcs⟩;unfold getItem
 try with_reducible refine Oc ?_
 first|refine Uc (Uj ?_)|skip
 refine Uc (wpAny_sequenceKey ht.typeIs (by decide) ?_);refine Uc (Ta (name:=Str.ofString "__getitem__") ht.typeIs Os (RX Os ht.typeIs entry_tuple_getitem ?_ (args_tuple_getitem _ _)));show wpAny _ _ (Builtin.Tuple.tupleItemsOf (.ref t) >>= _) _ _ s;refine Uc (tupleItemsOf_ ht (Uc (wpAny_typeOf hTs ?_)));rw[Uv (by decide)];refine Uc (xJ hs pl pu ?_)
 have yes:(((sIx items.size 0 lo:Nat):Int)==0&&(1:Int)==1&&(sIx items.size items.size hi-sIx items.size 0 lo)==items.size)=true:=by
  rw[hw.1,hw.2];simp
 show wpAny _ _ (if(((sIx items.size 0 lo:Nat):Int)==0&&(1:Int)==1&&(sIx items.size items.size hi-sIx items.size 0 lo)==items.size)=true then _ else _) _ _ s;rw[Uv yes];unfold Builtin.Tuple.tupleIsExact;refine Uc (Uc (wpAny_typeOf ht.typeIs (Uj ?_)));exact Uc (RE (Uj ⟨_,rfl,Uj h⟩))
end HT
namespace Att
open PySem PySem.W PySem.Calls PyProof.Rows
variable {l:OpenLaw}
theorem bq:∀(ns:List Int) (vs:List Value),WellAll P h vs (ns.map WData.int)->IntsAre vs ns:=by
 intro ns
 induction ns with
 |nil=>
  intro vs w;rw[Tz] at w
  cases w;exact .nil
 |cons n ns ih=>
  intro vs w;rw[UL] at w
  cases w with
  |cons a b=>
   cases a;exact .cons _ _ (ih _ b)
theorem zey (hn:l.most=some n)(hpre:l.row.toRowW.claim.pre args=true)(hwl:WellAll P h vals args) :
 ∃a vs ns,vals=[Value.ref a]/\args=[WData.list (ns.map WData.int)]/\h.get? a=some { cls:=.type "list",data:=.seq vs.toArray }/\IntsAre vs ns/\ns.length<=n:=by
 have hsh:WShape.hasAll [] args [.list .int]=true:=(pre_splitW hpre).1;have hc:l.pre.holds [] { args:=args }=true:=(pre_splitW hpre).2;obtain⟨d,r,rfl,h1,h2⟩:=hasAllW_cons hsh;obtain rfl:=hasAllW_nil h2;obtain⟨xs,rfl,h3⟩:=hasW_list h1;obtain⟨ns,rfl⟩:=items_int h3
 have hlen:ns.length<=n:=by
  unfold OpenLaw.pre at hc
  have h4:(WTm.not (.lt (.lit (.int (n:Int))) (.len (.arg 0)))).holds [] { args:=[.list (ns.map .int)] }=true:=by
   have h4:=(holds_andW hc).1;rw[hn] at h4;exact h4
  have h5:=condW_of h4 (w_not (w_lt w_lit (w_len_list (w_arg rfl))));rw[Ud] at h5;refine Nat.le_of_not_lt fun q=>?_;have q':(n:Int)<((ns.length:Nat):Int):=by lia
  first
   |(rw[Uy q'] at h5;exact absurd h5 (by decide))
   |(simp at h5;lia)
 cases hwl with
 |cons w1 w2=>
  cases w2
  cases w1 with
  |list ho hall=>exact⟨_,_,ns,rfl,rfl,ho,bq ns _ hall,hlen⟩
theorem zeF (l:OpenLaw)(args:List WData):l.row.toRowW.claim.post args (.bool true) args=true:=
 postW_of (r:=l.row.toRowW) (X:=(true==true))
  (show WShape.has [] (.bool true) .bool=true by first|rfl|decide|simp[WShape.has,WShape.arms,WShape.armsAll])
  (show(WTm.eq .res (.lit (.bool true))).value [] { args:=args,res:=some (.bool true),after:=args }=some (.bool (true==true)) from w_eq_bool (w_res rfl) w_lit) rfl
theorem attach_call (hn:l.most=some n)(hdf:d.params.defaults=[])(call:∀(w:World) (s₀ s₁:Shared) (mg mb:Str->Option Value) (fa:Addr) (o:Obj) (pm cd doc:Value) (a:Addr) (vs:List Value) (ns:List Int),
 Ground q loose [] XP w s₀ mg mb s₁.heap->YP w s₁.heap->
 s₁.heap.get? fa=some o->o.data=.func (docDef d.name d.params d.body d.scope pm cd doc)->s₁.heap.CodeRec cd d.name->mg d.name=some (.ref fa)->
 s₁.heap.get? a=some { cls:=.type "list",data:=.seq vs.toArray }->IntsAre vs ns->ns.length<=n->s₁.gens = #[]->
 codeAny (model l.prog w) callerA (.call (.ref fa) ⟨[.ref a],[]⟩) (fun r s'=>r=.ok (.ret (.bool true))/\OldK s₁.heap s'.heap/\s'.os=s₁.os/\AllBare s'.gens) s₁) :
 WalkO q loose XP YP l.row.toRowW d [] (fun f vs=>PySem.call f vs):=by
 intro w s₀ s₁ mg mb G Y fa o pm cd doc dV kV ho hd hcd hD hmg hg args vals as hpre hlay hrd hwl hlo;obtain rfl:dV=.none:=Dflts.none hD hdf;obtain rfl:kV=.none:=Dflts.noKw hD;obtain⟨a,vs,ns,rfl,rfl,hobj,hints,hlen⟩:=zey hn hpre hwl;refine enter_call (RO (call w s₀ s₁ mg mb fa o pm cd doc a vs ns G Y ho (fd_plain hd) hcd hmg hobj hints hlen hg) fun r s' hq=>?_);obtain⟨rfl,h2,h3,h4⟩:=hq;exact⟨.inl ⟨.bool true,.bool true,[],rfl,fun _=>rfl,.bool true,zeF l _,fun _=>⟨List.Pairwise.nil,fun _ hm=>(nomatch hm)⟩⟩,h2,h3,h4⟩
end Att
namespace L2
open PySem PySem.Spec PyProof.Rows
section
variable {κ:SortKind}{P prog:Program}{w:World}{h h':Heap}{α β τ γ:Type}{pins:List (Addr×Obj)}{s:Shared}{N ps Nc:List Str}{A:Around}{E:Value->Shared->Prop}{pos:Pos}{K:Frag}{n hi ib nb nrem e1:Nat}{tg iter body elt:Expr}{fp:List Addr}{its:List Value}{name qual z:Str}{ns c':List Int}{kw:List (Str×Value)}{env:Env}{mg:Str->Option Value}{fd:FuncData}{scope:Scope}{params:Arguments}{pm ct:Value}{ifs:List Expr}{cap:List (Option Nat)}{cl:List (Str×Addr)}{I kS:Addr}{S:Keyed->Prop}{p1 q1 q2:Int}{t1 t2 u1 u2:Tok}{arr a0 arr':Array Keyed}{HC:Heap->Value->List Int->Prop}{cs:List (List Int)}
abbrev Key:=Sum Int Str
def dP:Key->Value->Bool
 | .inl k,v=>Value.isInt k v
 | .inr x,v=>Value.isStrOf x v
def zkH (w:World):Key->Int
 | .inl k=>hashInt k
 | .inr x=>hashStr w x
theorem qr:∀{k:Key}{v:Value},dP k v=true->(∃i t,k=Sum.inl i/\v=Value.int i t)∨(∃x t,k=Sum.inr x/\v=Value.str x t)
 | .inl i,v,h=>by
  obtain⟨t,e⟩:=Value.isInt_shape (k:=i) (v:=v) h;exact .inl ⟨i,t,rfl,e⟩
 | .inr x,v,h=>by
  obtain⟨t,e⟩:=Value.isStrOf_shape (x:=x) (v:=v) h;exact .inr ⟨x,t,rfl,e⟩
theorem zeZ (i:Int)(t:Tok):dP (.inl i) (.int i t)=true:=by simp[dP,Value.isInt]
theorem g8 (x:Str)(t:Tok):dP (.inr x) (.str x t)=true:=by simp[dP,Value.isStrOf]
theorem zi5 (a b:Int):decide ((Sum.inl a:Key)=Sum.inl b)=(a==b):=by
 by_cases e:a=b
 ·subst e;simp
 ·have h:¬(Sum.inl a:Key)=Sum.inl b:=fun q=>e (Sum.inl.inj q);rw[UE h];exact(U4.mpr e).symm
theorem zi2 (a b:Str):decide ((Sum.inr a:Key)=Sum.inr b)=decide (a=b):=by
 by_cases e:a=b
 ·subst e;simp
 ·have h:¬(Sum.inr a:Key)=Sum.inr b:=fun q=>e (Sum.inr.inj q);rw[UE h,UE e]
theorem zi4 (a:Int)(b:Str):decide ((Sum.inl a:Key)=Sum.inr b)=false:=UE (fun q=>nomatch q)
theorem zi3 (a:Str)(b:Int):decide ((Sum.inr a:Key)=Sum.inl b)=false:=UE (fun q=>nomatch q)
def qy (prog:Program)(w:World):PySem.KeyKind prog w Key where
 is:=dP
 hash:=zkH w
 inj:=fun v a b ha hb=>by
  rcases qr ha with⟨i,t,rfl,rfl⟩|⟨x,t,rfl,rfl⟩
  ·rcases qr hb with⟨j,u,rfl,e⟩|⟨y,u,rfl,e⟩
   ·injection e with e1 _;rw[e1]
   ·exact nomatch e
  ·rcases qr hb with⟨j,u,rfl,e⟩|⟨y,u,rfl,e⟩
   ·exact nomatch e
   ·injection e with e1 _;rw[e1]
 byValue:=fun k v h=>by
  rcases qr h with⟨i,t,rfl,rfl⟩|⟨x,t,rfl,rfl⟩<;>rfl
 pyHash:=fun hv h=>by
  rcases qr hv with⟨i,t,rfl,rfl⟩|⟨x,t,rfl,rfl⟩
  ·exact wpAny_pyHash_int h
  ·exact wpAny_pyHash_str h
 eqBool:=fun hu hv h=>by
  rcases qr hu with⟨i,t,rfl,rfl⟩|⟨x,t,rfl,rfl⟩
  ·rcases qr hv with⟨j,u,rfl,rfl⟩|⟨y,u,rfl,rfl⟩
   ·rw[zi5] at h;exact wpAny_eqBool_int h
   ·rw[zi4] at h;exact SeqAt.EqAt.int_str i t y u _ _ _ _ h
  ·rcases qr hv with⟨j,u,rfl,rfl⟩|⟨y,u,rfl,rfl⟩
   ·rw[zi3] at h;exact SeqAt.EqAt.str_int x t j u _ _ _ _ h
   ·rw[zi2] at h;exact wpAny_eqBool_str h
 «strs»:=fun k x t v h=>by
  rcases qr h with⟨i,u,rfl,e⟩|⟨y,u,rfl,e⟩
  ·exact nomatch e
  ·injection e with e1 _
   subst e1
   cases v<;>rfl
theorem zcA (prog:Program)(w:World)(i:Int)(t:Tok):(qy prog w).is (.inl i) (.int i t)=true:=zeZ i t
theorem zcz (prog:Program)(w:World)(x:Str)(t:Tok):(qy prog w).is (.inr x) (.str x t)=true:=g8 x t
inductive V where
 |non|bl (b:Bool)|int (i:Int)|str (x:Str)|byt (b:Array UInt8)|tst (x:Str) (t:Tok)|ref (a:Addr)|ty (n:String)
 deriving DecidableEq
def RelV:V->Value->Prop
 | .non,u=>u=Value.none
 | .bl b,u=>u=Value.bool b
 | .int i,u=>∃t,u=Value.int i t
 | .str x,u=>∃t,u=Value.str x t
 | .byt b,u=>∃t,u=Value.bytes b t
 | .tst x t,u=>u=Value.str x t
 | .ref a,u=>u=Value.ref a
 | .ty n,u=>u=Value.type n
def V.isT:V->Bool
 | .tst ..=>true
 |_=>false
abbrev noT (xs:List V):Prop:=∀x∈xs,V.isT x=false
abbrev Vals:List V->List Value->Prop:=Paired RelV
theorem Vals.length (r:Vals xs us):xs.length=us.length:=Oa r
theorem Vals.get:∀{xs:List V}{us:List Value}{i:Nat}{x:V},Vals xs us->xs[i]?=some x->∃u,us[i]?=some u/\RelV x u
 |_,_,_,_,.nil,e=>by simp at e
 |_,_,0,_,.cons r _,e=>by simp at e;subst e;exact⟨_,rfl,r⟩
 |_,_,i+1,x,.cons _ t,e=>by
  obtain⟨u,h1,h2⟩:=Vals.get (i:=i) (x:=x) t (by simpa using e);exact⟨u,by simpa using h1,h2⟩
theorem Vals.set (r:RelV x u):∀{xs:List V}{us:List Value}(i:Nat),Vals xs us->Vals (xs.set i x) (us.set i u)
 |_,_,_,.nil=>.nil
 |_,_,0,.cons _ t=>.cons r t
 |_,_,i+1,.cons q t=>.cons q (Vals.set r i t)
theorem Vals.append:∀{xs ys:List V}{us ws:List Value},Vals xs us->Vals ys ws->Vals (xs++ys) (us++ws)
 |_,_,_,_,.nil,s=>s
 |_,_,_,_,.cons r t,s=>.cons r (Vals.append t s)
theorem Vals.take:∀{xs:List V}{us:List Value}(n:Nat),Vals xs us->Vals (xs.take n) (us.take n)
 |_,_,0,_=>.nil
 |_,_,_+1,.nil=>.nil
 |_,_,n+1,.cons r t=>.cons r (Vals.take n t)
theorem Vals.drop:∀{xs:List V}{us:List Value}(n:Nat),Vals xs us->Vals (xs.drop n) (us.drop n)
 |_,_,0,r=>r
 |_,_,_+1,.nil=>.nil
 |_,_,n+1,.cons _ t=>Vals.drop n t
def RelO:Option V->Option Value->Prop
 |some v,some u=>RelV v u
 |none,none=>True
 |_,_=>False
def KV {κ:Type}:List (κ×V)->List (κ×Value)->Prop:=Paired fun(p:κ×V) (q:κ×Value)=>p.1=q.1/\RelV p.2 q.2
def kV:Key->V
 | .inl i=>.int i
 | .inr x=>.str x
inductive HO where
 |lst (xs:List V)
 |tup (xs:List V)
 |dK (kvs:List (Key×V))|dT (kvs:List (List Key×V))
 |set (S:Int->Bool) (n:Nat)
 |ins (C dx:Addr) (fs:List (Str×V))
 |own (x:Addr)
 |xd (fs:List (Str×V))
 |met (f x:Addr)
 |rng (lo hi:Int)
 |frz (o:Obj) (u:HO)
 |tbl (ps:Array Value)
 |ext (φ:Heap->Prop)
abbrev Hp:=Addr->Option HO
variable {H H0:Hp}{VC:Hp->V->List Int->Prop}
def upd (H:Hp)(a:Addr)(o:HO):Hp:=fun b=>if b=a then some o else H b
theorem zd:upd H a o a=some o:=by unfold upd;rw[Uv rfl]
theorem zi (h:b≠a):upd H a o b=H b:=by unfold upd;rw[Ur h]
theorem qE (h:H a=some o)(h':H b=some u)(d:o≠u):a≠b:=by
 intro e;subst e;rw[h] at h';exact d (UK h')
theorem zf (h:H a=some o)(h':H b=none):a≠b:=by
 intro e;subst e;rw[h] at h';cases h'
section
variable (P:Program)(w:World)
def ObjOk (H:Hp)(h:Heap)(a:Addr):HO->Prop
 | .lst xs=>xs.length<=sizeLine/\∃(its:List Value) (n:Nat),Vals xs its/\h.get? a=some { cls:=.type "list",data:=.seq its.toArray n }
 | .tup xs=>xs.length<=sizeLine/\∃its:List Value,Vals xs its/\IsTup h a its.toArray
 | .dK kvs=>kvs.length<=sizeLine/\(a==sysModules)=false/\∃vs,KV kvs vs/\h.DictOf (qy P w) a vs
 | .dT kvs=>kvs.length<=sizeLine/\(a==sysModules)=false/\∃xs:List (List Key×Addr×Value),
  Paired (fun(p:List Key×V) (q:List Key×Addr×Value)=>p.1=q.1/\H q.2.1=some (.tup (p.1.map kV))/\RelV p.2 q.2.2) kvs xs/\
  ∃o es ep,h.get? a=some o/\o.ExactDict/\o.data=.dict es ep/\es.toList=xs.map (entryOfKey (tupleKind (qy P w)))/\(xs.map (·.1)).Nodup
 | .set S n=>h.SetOf (intKind P w) a S n
 | .ins C dx fs=>H dx=some (.own a)/\fs.length<=1000/\dx≠a/\h.get? a=some (instObj C dx)/\
  ∃mA,h.Ns1 dx mA/\(∀f,RelO (fs.lookup f) (mA f))/\PySem.Within mA (fs.map (·.1))
 | .own _=>∃o,h.get? a=some o
 | .xd fs=>∃mA,h.Ns1 a mA/\∀f,RelO (fs.lookup f) (mA f)
 | .rng lo hi=>∃t u v,h.get? a=some { cls:=.type "range",data:=.fields #[.int lo t,.int hi u,.int 1 v] }
 | .frz o u=>h.get? a=some o/\ObjOk H h a u
 | .tbl ps=>h.get? a=some { cls:=.none,data:=.fields ps }
 | .met f x=>h.get? a=some (methodObj (.ref f) (.ref x))
 | .ext φ=>φ h/\(∃o,h.get? a=some o)/\∀h1 h2:Heap,φ h1->(∀o,h1.get? a=some o->h2.get? a=some o)->φ h2
def HOk (H:Hp)(h:Heap):Prop:=∀a o,H a=some o->ObjOk P w H h a o
end
theorem ObjOk.lt (x:ObjOk P w H h a o):a<h.objs.size:=by
 cases o with
 |lst xs=>obtain⟨_,_,_,_,e⟩:=x;exact UG e
 |tup xs=>obtain⟨_,_,_,p⟩:=x;exact p.lt
 |dK kvs=>obtain⟨_,_,_,_,o,_,_,e,_⟩:=x;exact UG e
 |dT kvs=>obtain⟨_,_,_,_,o,_,_,e,_⟩:=x;exact UG e
 |set S n=>obtain⟨o,_,_,_,e,_⟩:=x;exact UG e
 |ins C dx fs=>obtain⟨_,_,_,e,_⟩:=x;exact UG e
 |own y=>obtain⟨_,e⟩:=x;exact UG e
 |xd fs=>obtain⟨_,⟨_,_,_,e,_⟩,_⟩:=x;exact UG e
 |rng lo hi=>obtain⟨_,_,_,e⟩:=x;exact UG e
 |frz ob u=>obtain⟨e,_⟩:=x;exact UG e
 |tbl ps=>exact UG (show h.get? a=some _ from x)
 |met f y=>exact UG (show h.get? a=some _ from x)
 |ext φ=>obtain⟨_,⟨_,e⟩,_⟩:=x;exact UG e
theorem Paired.mapP {α β:Type}{F G:α->β->Prop}:∀{l₁:List α}{l₂:List β},Paired F l₁ l₂->(∀a b,F a b->G a b)->Paired G l₁ l₂
 |_,_,.nil,_=>.nil
 |_,_,.cons r t,f=>.cons (f _ _ r) (Paired.mapP t f)
theorem Paired.imp' (f:∀a b,F a b->G a b)(r:Paired F l₁ l₂):Paired G l₁ l₂:=Paired.mapP r f
theorem ObjOk.stay (x:ObjOk P w H h a o)(k:∀b u,(b=a∨H b=some (.own a))->h.get? b=some u->h'.get? b=some u)(ho:∀b,H b=some (.own a)->H' b=some (.own a))(ht:∀b xs,H b=some (.tup xs)->H' b=some (.tup xs)):ObjOk P w H' h' a o:=by
 induction o with
 |lst xs=>obtain⟨z,its,n,r,e⟩:=x;exact⟨z,its,n,r,k _ _ (.inl rfl) e⟩
 |tup xs=>obtain⟨z,its,r,ob,e,c⟩:=x;exact⟨z,its,r,ob,k _ _ (.inl rfl) e,c⟩
 |dK kvs=>obtain⟨z,y,vs,r,ob,es,ep,e,c⟩:=x;exact⟨z,y,vs,r,ob,es,ep,k _ _ (.inl rfl) e,c⟩
 |dT kvs=>
  obtain⟨z,y,xs,r,ob,es,ep,e,c⟩:=x;exact⟨z,y,xs,Paired.mapP r fun p q z=>⟨z.1,ht _ _ z.2.1,z.2.2⟩,ob,es,ep,k _ _ (.inl rfl) e,c⟩
 |set S n=>obtain⟨ob,es,ep,t,e,c⟩:=x;exact⟨ob,es,ep,t,k _ _ (.inl rfl) e,c⟩
 |ins C dx fs=>
  obtain⟨d,z,ne,e,mA,⟨od,es,ep,e2,c⟩,r⟩:=x;exact⟨ho _ d,z,ne,k _ _ (.inl rfl) e,mA,⟨od,es,ep,k _ _ (.inr d) e2,c⟩,r⟩
 |own y=>obtain⟨ob,e⟩:=x;exact⟨ob,k _ _ (.inl rfl) e⟩
 |xd fs=>obtain⟨mA,⟨od,es,ep,e,c⟩,r⟩:=x;exact⟨mA,⟨od,es,ep,k _ _ (.inl rfl) e,c⟩,r⟩
 |rng lo hi=>obtain⟨t,u,v,e⟩:=x;exact⟨t,u,v,k _ _ (.inl rfl) e⟩
 |frz ob u ih=>obtain⟨e,q⟩:=x;exact⟨k _ _ (.inl rfl) e,ih q⟩
 |tbl ps=>
  have e:h.get? a=some { cls:=.none,data:=.fields ps }:=x;show h'.get? a=some { cls:=.none,data:=.fields ps };exact k a _ (.inl rfl) e
 |met f y=>
  have e:h.get? a=some (methodObj (.ref f) (.ref y)):=x;show h'.get? a=some (methodObj (.ref f) (.ref y));exact k a _ (.inl rfl) e
 |ext φ=>obtain⟨p,⟨o,e⟩,st⟩:=x;exact⟨st _ _ p fun o q=>k _ _ (.inl rfl) q,⟨o,k _ _ (.inl rfl) e⟩,st⟩
theorem HOk.lt (x:HOk P w H h)(e:H a=some o):a<h.objs.size:=(x a o e).lt
theorem HOk.fresh (x:HOk P w H h)(e:h.objs.size<=a):H a=none:=by
 cases q:H a with
 |none=>rfl
 |some u=>exact absurd (UP (x.lt q) e) (O4 _)
theorem HOk.kept (x:HOk P w H h)(k:∀b u,h.get? b=some u->h'.get? b=some u):HOk P w H h':=fun a o e=>
 (x a o e).stay (fun b u _ q=>k b u q) (fun _ q=>q) fun _ _ q=>q
theorem HOk.laid (x:HOk P w H h)(k:∀b u,h.get? b=some u->h'.get? b=some u)(hp:h.objs.size<=a)(new:ObjOk P w (upd H a o) h' a o):HOk P w (upd H a o) h':=fun b u e=>by
 have hn:=x.fresh hp
 by_cases hb:b=a
 ·subst hb;rw[zd] at e;cases e;exact new
 ·rw[zi hb] at e;exact(x b u e).stay (fun c v _ q=>k c v q) (fun c q=>by rw[zi (zf q hn)];exact q) fun c xs q=>by rw[zi (zf q hn)];exact q
def Rd (H:Hp)(a:Addr)(u:HO):Prop:=H a=some u∨∃o,H a=some (.frz o u)
theorem Rd.ok (r:Rd H a u)(x:HOk P w H h):ObjOk P w H h a u:=by
 rcases r with r|⟨o,r⟩
 ·exact x a u r
 ·obtain⟨_,q⟩:=x a _ r;exact q
def Mut:Option HO->Prop
 |some (.lst _)=>True
 |some (.dK _)=>True
 |some (.dT _)=>True
 |some (.set _ _)=>True
 |some (.ins _ _ _)=>True
 |some (.ext _)=>True
 |_=>False
theorem HOk.write (ok:HOk P w H h)(mu:Mut (H x))(he:e=x∨H e=some (.own x))(k:∀b u,b≠e->h.get? b=some u->h'.get? b=some u)(heo:∃u,h'.get? e=some u)(new:ObjOk P w (upd H x o') h' x o'):HOk P w (upd H x o') h':=fun b u q=>by
 have nown:∀c y,H c=some (.own y)->c≠x:=fun c y r z=>by subst z;rw[r] at mu;exact mu
 have ntup:∀c xs,H c=some (.tup xs)->c≠x:=fun c xs r z=>by subst z;rw[r] at mu;exact mu
 by_cases hb:b=x
 ·subst hb;rw[zd] at q;cases q;exact new
 ·rw[zi hb] at q
  by_cases hbe:b=e
  ·have q':H b=some (.own x):=by
    rcases he with z|z
    ·exact absurd (hbe.trans z) hb
    ·rw[hbe];exact z
   rw[q] at q';cases q';obtain⟨v,hv⟩:=heo;exact⟨v,by rw[hbe];exact hv⟩
  ·refine(ok b u q).stay (fun c v hc r=>k c v ?_ r) (fun c r=>by rw[zi (nown c b r)];exact r) fun c xs r=>by rw[zi (ntup c xs r)];exact r
   rcases hc with rfl|hc
   ·exact hbe
   ·rintro rfl;rcases he with z|z
    ·exact nown c b hc z
    ·rw[hc] at z;cases z;exact hb rfl
structure Un (fs ex:List Addr)(H H':Hp)(h h':Heap):Prop where
 keep:∀b o,h.get? b=some o->H b=none->b∉fs->b∉ex->h'.get? b=some o
 slot:∀b o,h.get? b=some o->H b=none->b∈fs->b∉ex->∃sl,h'.get? b=some { o with slots:=sl }
 free:∀b o,h.get? b=some o->H b=none->b∉ex->H' b=none
 there:∀b o,h.get? b=some o->b∉ex->∃o',h'.get? b=some o'
 tups:∀b xs,H b=some (.tup xs)->H' b=some (.tup xs)
 frzs:∀b o u,H b=some (.frz o u)->H' b=some (.frz o u)
 tbls:∀b ps,H b=some (.tbl ps)->∃more,H' b=some (.tbl (ps++more))
theorem Un.any (u:Un fs ex H H1 h h1)(q:h.get? b=some ob)(n:H b=none)(hx:b∉ex):∃sl,h1.get? b=some { ob with slots:=sl }:=by
 by_cases hb:b∈fs
 ·exact u.slot b ob q n hb hx
 ·exact⟨ob.slots,u.keep b ob q n hb hx⟩
theorem Un.kept (k:∀b u,h.get? b=some u->h'.get? b=some u):Un fs ex H H h h':=
 ⟨fun b ob q _ _ _=>k b ob q,fun b ob q _ _ _=>⟨ob.slots,k b ob q⟩,fun _ _ _ n _=>n,fun b ob q _=>⟨ob,k b ob q⟩,fun _ _ q=>q,fun _ _ _ q=>q,fun _ ps q=>⟨#[],by rw[q];simp⟩⟩
theorem Un.refl:Un fs ex H H h h:=Un.kept fun _ _ q=>q
theorem Un.laid (k:∀b u,h.get? b=some u->h'.get? b=some u)(hp:h.objs.size<=a)(hn:H a=none):Un fs ex H (upd H a o) h h' where
 keep:=fun b u q _ _ _=>k b u q
 slot:=fun b u q _ _ _=>⟨u.slots,k b u q⟩
 free:=fun b u q n _=>by rw[zi (UO (UP (UG q) hp))];exact n
 there:=fun b u q _=>⟨u,k b u q⟩
 tups:=fun b xs q=>by rw[zi (zf q hn)];exact q
 frzs:=fun b u xs q=>by rw[zi (zf q hn)];exact q
 tbls:=fun b ps q=>⟨#[],by rw[zi (zf q hn),q];simp⟩
theorem Un.write (mu:Mut (H x))(he:e=x∨H e=some (.own x))(k:∀b u,b≠e->h.get? b=some u->h'.get? b=some u)(heo:∃u,h'.get? e=some u):Un fs ex H (upd H x o) h h':=by
 have hx:∀b,H b=none->b≠x:=fun b n z=>by subst z;rw[n] at mu;exact mu
 have hb:∀b,H b=none->b≠e:=fun b n z=>by
  subst z;rcases he with r|r
  ·exact hx b n r
  ·rw[n] at r;cases r
 have hm:∀b u,H b=some u->¬Mut (some u)->b≠x:=fun b u q nm z=>by subst z;rw[q] at mu;exact nm mu
 refine⟨fun b u q n _ _=>k b u (hb b n) q,fun b u q n _ _=>⟨u.slots,k b u (hb b n) q⟩,fun b u q n _=>by rw[zi (hx b n)];exact n,fun b u q _=>?_,
  fun b xs q=>by rw[zi (hm b _ q fun z=>z)];exact q,fun b u xs q=>by rw[zi (hm b _ q fun z=>z)];exact q,fun b ps q=>⟨#[],by rw[zi (hm b _ q fun z=>z),q];simp⟩⟩
 by_cases hbe:b=e
 ·subst hbe;exact heo
 ·exact⟨u,k b u hbe q⟩
def trk (h:Heap)(H:Hp):List Addr:=(List.range h.objs.size).filter fun a=>(H a).isSome
def p7 (h:Heap)(H:Hp):Heap:=PySem.W.hideAll h (trk h H)
theorem ze2 (h:Heap)(H:Hp):(p7 h H).objs.size=h.objs.size:=PySem.W.hideAll_size _ _
theorem zgl (e:h.get? b=some o)(n:H b=none):(p7 h H).get? b=some o:=
 PySem.W.hideAll_get _ e fun hm=>by
  have q:(H b).isSome=true:=(U2.mp hm).2;rw[n] at q;simp at q
theorem zhk (e:(p7 h H).get? b=some o):h.get? b=some o/\H b=none:=by
 have e':h.get? b=some o:=PySem.W.of_hideAll (trk h H) e;refine⟨e',?_⟩
 cases q:H b with
 |none=>rfl
 |some x=>
  have hm:b∈trk h H:=U2.mpr ⟨OD.mpr (UG e'),by simp[q]⟩;have z:(p7 h H).get? b=none:=PySem.W.hideAll_none (trk h H) hm;rw[z] at e;cases e
structure Mod (K:Frag)(mg:Str->Option Value)(base:Heap):Prop where
 kin:K.In base
 glob:base.Ns mainGlobals mg
 blt:∃mb,base.Ns builtinsNs mb/\∀x:Str,x≠"__name__"->mb x=bootBuiltins x
 nolimit:base.NoLimit
structure Cx where
 prog:Program
 w:World
 K:Frag
 mg:Str->Option Value
 base:Heap
 A:Around
 N:List Str
 s₀:Shared
 H₀:Hp
 env:Env
 outer:List Env
 stack:List Env
 ex:List Addr
 fn:Str->Bool
 calm:Bool
 pn:List (Addr×Obj)
 xe:Value->Shared->Prop
variable {X:Cx}
def frs (l:List Env):List Addr:=l.filterMap (·.frame)
abbrev Cx.fs (X:Cx):List Addr:=frs X.outer
def Vis (sc:Scope)(x:Str):Prop:=sc.names.lookup x=some .local∨sc.names.lookup x=some .cell∨sc.names.lookup x=some .free
def Loc (sc:Scope)(x:Str):Prop:=sc.names.lookup x=some .local∨sc.names.lookup x=some .cell
def Look (env:Env)(h:Heap)(m:Str->Option Value)(x:Str)(u:Value):Prop:=
 (env.kindOf x=some .local/\m x=some u)∨((env.kindOf x=some .cell∨env.kindOf x=some .free)/\∃c,env.cells.lookup x=some c/\h.IsCell c (some u))
structure Cx.Ok (X:Cx):Prop where
 mod:Mod X.K X.mg X.base
 kind:X.env.scope.kind=.function
 glob:X.env.globals=mainGlobals
 blt:X.env.builtins=builtinsNs
 above:X.s₀.heap.objs.size<=X.env.locals
 inj:∀x y c,X.env.cells.lookup x=some c->X.env.cells.lookup y=some c->x=y
 has:∀x,(X.env.kindOf x=some .cell∨X.env.kindOf x=some .free)->∃c,X.env.cells.lookup x=some c
 cab:∀x c,X.fn x=true->X.env.cells.lookup x=some c->X.s₀.heap.objs.size<=c
 hd:X.calm=true->X.A.handled=none
 frames:X.A.frames=some X.stack
 stk:X.stack=X.outer∨(X.stack=X.env::X.outer/\X.env.frame=some X.env.locals)
 exf:∀b∈X.ex,b≠X.env.locals/\∀x c,X.env.cells.lookup x=some c->c≠b
 bs:∀b o,X.base.get? b=some o->X.s₀.heap.get? b=some o/\X.H₀ b=none
 bsz:X.base.objs.size<=X.s₀.heap.objs.size
 noex:∀b o,X.base.get? b=some o->b∉X.ex
 exfs:∀b∈X.ex,b∉X.fs
 funs:X.s₀.heap.FunFrames X.base X.outer
 frf:∀b∈X.fs,X.H₀ b=none
structure Inv (X:Cx)(pins:List (Addr×Obj))(σ:List (Option V))(H:Hp)(s:Shared):Prop where
 ok:X.Ok
 os:s.os=X.s₀.os
 bare:AllBare s.gens
 base:Un X.fs X.ex X.H₀ H X.s₀.heap s.heap
 loc:∃m,s.heap.Ns X.env.locals m/\∀(i:Nat) (x:Str) (v:V),X.N[i]?=some x->σ[i]?=some (some v)->Vis X.env.scope x->∃u,RelV v u/\Look X.env s.heap m x u
 cell:∀x c,X.env.cells.lookup x=some c->∃v,s.heap.IsCell c v
 free:H X.env.locals=none
 freeC:∀x c,X.env.cells.lookup x=some c->H c=none
 pin:∀p∈X.pn++pins,s.heap.get? p.1=some p.2/\H p.1=none/\p.1≠X.env.locals/\p.1∉X.fs/\∀v,p.2.data≠.cell v
 hok:HOk X.prog X.w H s.heap
 len:σ.length=X.N.length
theorem Cx.Ok.nofr (ok:X.Ok)(e:X.base.get? b=some o):b∉X.fs:=fun hb=>by
 have:=(ok.funs.mem hb).1;rw[e] at this;cases this
theorem Inv.bs (I:Inv X pins σ H s):∀b o,X.base.get? b=some o->s.heap.get? b=some o/\H b=none:=fun b o e=>
 ⟨I.base.keep b o (I.ok.bs b o e).1 (I.ok.bs b o e).2 (I.ok.nofr e) (I.ok.noex b o e),I.base.free b o (I.ok.bs b o e).1 (I.ok.bs b o e).2 (I.ok.noex b o e)⟩
theorem Inv.bk (I:Inv X pins σ H s):∀b o,X.base.get? b=some o->s.heap.get? b=some o:=fun b o e=>(I.bs b o e).1
theorem Inv.mod (I:Inv X pins σ H s):Mod X.K X.mg X.base:=I.ok.mod
theorem Inv.kIn (I:Inv X pins σ H s):X.K.In s.heap:=I.ok.mod.kin.keeps I.bk
theorem Inv.nolimit (I:Inv X pins σ H s):s.heap.NoLimit:=I.ok.mod.nolimit.keeps I.bk
theorem Inv.lt (I:Inv X pins σ H s):X.env.locals<s.heap.objs.size:=let ⟨_,hn,_⟩:=I.loc;hn.lt
theorem Inv.sz (I:Inv X pins σ H s):X.s₀.heap.objs.size<=s.heap.objs.size:=UU I.ok.above (RS I.lt)
theorem Inv.nofs (I:Inv X pins σ H s)(h:s.heap.objs.size<=a):a∉X.fs:=fun hb=>by
 obtain⟨_,o,ho,_⟩:=I.ok.funs.mem hb;exact absurd (UP (UG ho) (UU I.sz h)) (O4 _)
theorem Inv.cne (I:Inv X pins σ H s):∀x c,X.env.cells.lookup x=some c->c≠X.env.locals:=fun x c e z=>by
 obtain⟨v,o,ho,hd⟩:=I.cell x c e;obtain⟨m,⟨o',es,ep,ho',hd',_⟩,_⟩:=I.loc;rw[z,ho'] at ho;cases ho;rw[hd'] at hd;cases hd
theorem Inv.funs (I:Inv X pins σ H s):s.heap.FunFrames X.base X.outer:=by
 have all:∀(l:List Env),(∀b∈frs l,b∈X.fs)->X.s₀.heap.FunFrames X.base l->s.heap.FunFrames X.base l:=by
  intro l
  induction l with
  |nil=>intro _ _;trivial
  |cons env r ih=>
   intro hs hl;obtain⟨hk,⟨L,o,hf,hn,ho,hd⟩,hr⟩:=hl;have hL:L∈X.fs:=hs L (by unfold frs;rw[NH,hf];exact Ug);obtain⟨sl,e⟩:=I.base.slot L o ho (I.ok.frf L hL) hL fun z=>I.ok.exfs L z hL;exact⟨hk,⟨L,_,hf,hn,e,hd⟩,ih (fun b hb=>hs b (by unfold frs;rw[NH,hf];exact Uh _ hb)) hr⟩
 exact all X.outer (fun _ hb=>hb) I.ok.funs
theorem Inv.stack (I:Inv X pins σ H s):s.heap.FunFrames X.base X.stack:=by
 rcases I.ok.stk with e|⟨e,hf⟩
 ·rw[e];exact I.funs
 ·rw[e];obtain⟨m,hn,_⟩:=I.loc;refine .cons (by rw[I.ok.kind];decide) hf hn ?_ I.funs;exact Heap.get?_none_of_le (UU I.ok.bsz I.ok.above)
theorem Inv.stkSub (I:Inv X pins σ H s):∀b∈frs X.stack,b∈X.env.locals::X.fs:=fun b hb=>by
 rcases I.ok.stk with e|⟨e,hf⟩
 ·rw[e] at hb;exact Uh _ hb
 ·rw[e] at hb;unfold frs at hb;rw[NH,hf] at hb;exact hb
theorem Inv.stkFree (I:Inv X pins σ H s):∀b∈frs X.stack,H b=none:=fun b hb=>by
 rcases Uw.mp (I.stkSub b hb) with e|hb
 ·rw[e];exact I.free
 ·obtain⟨_,o,ho,_⟩:=I.ok.funs.mem hb;exact I.base.free b o ho (I.ok.frf b hb) fun z=>I.ok.exfs b z hb
theorem Inv.step {ch:List Addr}(I:Inv X pins σ H s)(hch:∀b∈ch,(b∈X.ex∨X.s₀.heap.objs.size<=b)/\b≠X.env.locals/\(∀x c,X.env.cells.lookup x=some c->c≠b)/\∀p∈X.pn++pins,p.1≠b)(keep:∀b o,b≠X.env.locals->b∉X.fs->b∉ch->s.heap.get? b=some o->H b=none->h'.get? b=some o)(slot:∀b o,b≠X.env.locals->b∈X.fs->b∉ch->s.heap.get? b=some o->H b=none->∃sl,h'.get? b=some { o with slots:=sl })(free:∀b o,b∉ch->s.heap.get? b=some o->H b=none->H' b=none)(there:∀b o,b∉ch->s.heap.get? b=some o->∃o',h'.get? b=some o')(tups:∀b xs,H b=some (.tup xs)->H' b=some (.tup xs))(frzs:∀b o u,H b=some (.frz o u)->H' b=some (.frz o u))(tbls:∀b ps,H b=some (.tbl ps)->∃more,H' b=some (.tbl (ps++more)))(ns:∀m,s.heap.Ns X.env.locals m->h'.Ns X.env.locals m)(hok:HOk X.prog X.w H' h')(hg:AllBare g') :
 Inv X pins σ H' { s with heap:=h',gens:=g',drawn:=d',toks:=t' }:=by
 have neL:∀b o,X.s₀.heap.get? b=some o->b≠X.env.locals:=fun b o e=>UO (UP (UG e) I.ok.above)
 have neC:∀b o,X.s₀.heap.get? b=some o->b∉X.ex->b∉ch:=fun b o e hx hb=>by
  rcases(hch b hb).1 with z|z
  ·exact hx z
  ·exact absurd (UP (UG e) z) (O4 _)
 have cellK:∀x c,X.env.cells.lookup x=some c->∀v,s.heap.IsCell c v->h'.IsCell c v:=fun x c e v ⟨o,ho,hd⟩=>by
  have nch:c∉ch:=fun z=>(hch c z).2.2.1 x c e rfl
  by_cases hc:c∈X.fs
  ·obtain⟨sl,q⟩:=slot c o (I.cne x c e) hc nch ho (I.freeC x c e);exact⟨_,q,hd⟩
  ·exact⟨o,keep c o (I.cne x c e) hc nch ho (I.freeC x c e),hd⟩
 refine⟨I.ok,I.os,hg,⟨fun b o e n hb hx=>?_,fun b o e n hb hx=>?_,fun b o e n hx=>?_,fun b o e hx=>?_,fun b xs e=>tups b xs (I.base.tups b xs e),fun b o xs e=>frzs b o xs (I.base.frzs b o xs e),fun b ps e=>?_⟩,?_,fun x c e=>?_,?_,fun x c e=>?_,fun p hp=>?_,hok,I.len⟩
 ·exact keep b o (neL b o e) hb (neC b o e hx) (I.base.keep b o e n hb hx) (I.base.free b o e n hx)
 ·obtain⟨sl,e1⟩:=I.base.slot b o e n hb hx;obtain⟨sl',e2⟩:=slot b _ (neL b o e) hb (neC b o e hx) e1 (I.base.free b o e n hx);exact⟨sl',e2⟩
 ·obtain⟨o',e1⟩:=I.base.there b o e hx;exact free b o' (neC b o e hx) e1 (I.base.free b o e n hx)
 ·obtain⟨o',e1⟩:=I.base.there b o e hx;exact there b o' (neC b o e hx) e1
 ·obtain⟨m1,e1⟩:=I.base.tbls b ps e;obtain⟨m2,e2⟩:=tbls b _ e1;exact⟨m1++m2,by rw[e2,Array.append_assoc]⟩
 ·obtain⟨m,hn,hl⟩:=I.loc;refine⟨m,ns m hn,fun i x v e1 e2 e3=>?_⟩;obtain⟨u,r,l⟩:=hl i x v e1 e2 e3;refine⟨u,r,?_⟩;rcases l with l|⟨k,c,e,z⟩
  ·exact .inl l
  ·exact .inr ⟨k,c,e,cellK x c e _ z⟩
 ·obtain⟨v,z⟩:=I.cell x c e;exact⟨v,cellK x c e v z⟩
 ·obtain⟨m,⟨o,_,_,ho,_⟩,_⟩:=I.loc;exact free _ o (fun z=>(hch _ z).2.1 rfl) ho I.free
 ·obtain⟨v,o,ho,hd⟩:=I.cell x c e;exact free c o (fun z=>(hch c z).2.2.1 x c e rfl) ho (I.freeC x c e)
 ·obtain⟨e,n,ne,nf,d⟩:=I.pin p hp;have nch:p.1∉ch:=fun z=>(hch p.1 z).2.2.2 p hp rfl;exact⟨keep p.1 p.2 ne nf nch e n,free p.1 p.2 nch e n,ne,nf,d⟩
theorem Inv.un (I:Inv X pins σ H s)(u:Un X.fs [] H H' s.heap h')(hok:HOk X.prog X.w H' h'):Inv X pins σ H' { s with heap:=h',toks:=t' }:=by
 obtain⟨m,⟨o,es,ep,ho,r⟩,_⟩:=id I.loc;obtain⟨sl,hL⟩:=u.any ho I.free (by simp)
 exact I.step (g':=s.gens) (d':=s.drawn) (ch:=[]) (fun _ z=>nomatch z) (fun b o _ hb _ e n=>u.keep b o e n hb (by simp)) (fun b o _ hb _ e n=>u.slot b o e n hb (by simp)) (fun b o _ e n=>u.free b o e n (by simp)) (fun b o _ e=>u.there b o e (by simp)) u.tups u.frzs u.tbls (fun m' hm=>by
  obtain⟨o',es',ep',ho',r'⟩:=hm;rw[ho] at ho';cases ho';exact⟨_,es',ep',hL,r'⟩) hok I.bare
theorem Inv.call (I:Inv X pins σ H s)(u:Un (frs X.stack) ch H H' s.heap h')(hok:HOk X.prog X.w H' h')(hg:AllBare g')(hch:∀b∈ch,(b∈X.ex∨X.s₀.heap.objs.size<=b)/\b≠X.env.locals/\(∀x c,X.env.cells.lookup x=some c->c≠b)/\∀p∈X.pn++pins,p.1≠b) :
 Inv X pins σ H' { s with heap:=h',gens:=g',drawn:=d',toks:=t' }:=by
 obtain⟨m,⟨o,es,ep,ho,r⟩,_⟩:=id I.loc;obtain⟨sl,hL⟩:=u.any ho I.free fun z=>(hch _ z).2.1 rfl
 exact I.step (ch:=ch) hch (fun b o hL hb hc e n=>u.keep b o e n (fun z=>(Uw.mp (I.stkSub b z)).elim hL hb) hc) (fun b o _ _ hc e n=>u.any e n hc) (fun b o hc e n=>u.free b o e n hc) (fun b o hc e=>u.there b o e hc) u.tups u.frzs u.tbls (fun m' hm=>by
  obtain⟨o',es',ep',ho',r'⟩:=hm;rw[ho] at ho';cases ho';exact⟨_,es',ep',hL,r'⟩) hok hg
theorem Inv.turned (I:Inv X pins σ H s)(k:∀b o,b≠it->s.heap.get? b=some o->h'.get? b=some o)(hn:H it=none)(hL:it≠X.env.locals)(h1:it∈X.ex∨X.s₀.heap.objs.size<=it)(h2:∀x c,X.env.cells.lookup x=some c->c≠it)(h3:∀p∈X.pn++pins,p.1≠it):Inv X pins σ H { s with heap:=h',toks:=t' }:=by
 have nit:∀b u,H b=some u->b≠it:=fun b u e z=>by rw[z,hn] at e;cases e
 refine I.step (g':=s.gens) (d':=s.drawn) (ch:=[it]) (fun b hb=>?_) (fun b o _ _ hc e _=>k b o (fun z=>hc (by simp[z])) e) (fun b o _ _ hc e _=>⟨o.slots,k b o (fun z=>hc (by simp[z])) e⟩) (fun _ _ _ _ n=>n)
  (fun b o hc e=>⟨o,k b o (fun z=>hc (by simp[z])) e⟩) (fun _ _ e=>e) (fun _ _ _ e=>e) (fun b ps e=>⟨#[],by rw[e];simp⟩) (fun m hm=>?_) (fun b u e=>?_) I.bare
 ·have e:b=it:=by simpa using hb
  subst e;exact⟨h1,hL,h2,h3⟩
 ·obtain⟨o,es,ep,ho,r⟩:=hm;exact⟨o,es,ep,k _ o (OO hL) ho,r⟩
 ·refine(I.hok b u e).stay (fun c v hc q=>k c v ?_ q) (fun _ q=>q) fun _ _ q=>q;rcases hc with z|z
  ·rw[z];exact nit b u e
  ·exact nit c _ z
theorem Inv.tok (I:Inv X pins σ H s)(t:Nat):Inv X pins σ H { s with toks:=t }:=I.un (h':=s.heap) (t':=t) Un.refl I.hok
theorem Inv.kept (I:Inv X pins σ H s)(k:∀b u,s.heap.get? b=some u->h'.get? b=some u):Inv X pins σ H { s with heap:=h',toks:=t' }:=I.un (Un.kept k) (I.hok.kept k)
theorem Inv.laid (I:Inv X pins σ H s)(k:∀b u,s.heap.get? b=some u->h'.get? b=some u)(hp:s.heap.objs.size<=a)(new:ObjOk X.prog X.w (upd H a o) h' a o) :
 Inv X pins σ (upd H a o) { s with heap:=h',toks:=t' }:=I.un (Un.laid k hp (I.hok.fresh hp)) (I.hok.laid k hp new)
theorem Inv.write (I:Inv X pins σ H s)(mu:Mut (H x))(he:e=x∨H e=some (.own x))(k:∀b u,b≠e->s.heap.get? b=some u->h'.get? b=some u)(heo:∃u,h'.get? e=some u)(new:ObjOk X.prog X.w (upd H x o) h' x o):Inv X pins σ (upd H x o) { s with heap:=h',toks:=t' }:=I.un (Un.write mu he k heo) (I.hok.write mu he k heo new)
theorem Inv.pins_of (I:Inv X pins σ H s)(h:∀p∈pins',s.heap.get? p.1=some p.2/\H p.1=none/\p.1≠X.env.locals/\p.1∉X.fs/\∀v,p.2.data≠.cell v):Inv X pins' σ H s:=
 ⟨I.ok,I.os,I.bare,I.base,I.loc,I.cell,I.free,I.freeC,fun p hp=>(UJ.mp hp).elim (fun z=>I.pin p (UR _ z)) (h p),I.hok,I.len⟩
theorem zcw (hN:N.Nodup){i:Nat}(a:N[i]?=some x)(b:N[j]?=some x):i=j:=by
 obtain⟨h1,e1⟩:=Ue.mp a;obtain⟨h2,e2⟩:=Ue.mp b;exact(List.getElem_inj hN).mp (e1.trans e2.symm)
theorem zaj (I:Inv X pins σ H s)(hN:X.N.Nodup)(hi:X.N[i]?=some x)(hx:Loc X.env.scope x)(r:RelV v u)(h:∀s',Inv X pins (σ.set i (some v)) H s'->(∃a,Heap.SameBut a s.heap s'.heap/\(a=X.env.locals∨X.env.cells.lookup x=some a))->Q () s')(hf:X.fn x=true∨X.env.scope.names.lookup x=some .local:=by first|exact .inl rfl|exact .inr rfl|assumption):wpAny M A (storeName X.env x u) Q E s:=by
 obtain⟨m,hn,hl⟩:=id I.loc;have hcls:(X.env.scope.kind==.class||(X.env.scope.kind==.module&&X.env.locals != X.env.globals))=false:=by rw[I.ok.kind];rfl
 have hiσ:i<σ.length:=by rw[I.len];exact(Ue.mp hi).1
 have cne:=I.cne
 have tracked:∀{a:Addr}{h':Heap},(∃o,s.heap.get? a=some o/\H a=none)->Heap.SameBut a s.heap h'->HOk X.prog X.w H h':=fun {a h'} ha hs b ob e=>by
  obtain⟨_,_,hfree⟩:=ha;refine(I.hok b ob e).stay (fun c w' hc q=>(hs.2 c ?_).trans q) (fun _ q=>q) fun _ _ q=>q;rintro rfl;rcases hc with rfl|hc
  ·rw[hfree] at e;cases e
  ·rw[hfree] at hc;cases hc
 rcases hx with hk|hk
 ·refine wpAny_storeName_local hk hn (fun h' hn' hs=>?_) hcls;obtain⟨oL,_,_,hoL,_⟩:=id hn;refine h _ ⟨I.ok,I.os,I.bare,⟨fun b o e n hb hx=>?_,fun b o e n hb hx=>?_,I.base.free,fun b o e hx=>?_,I.base.tups,I.base.frzs,I.base.tbls⟩,⟨_,hn',fun j y v' e1 e2 e3=>?_⟩,fun y c e=>?_,I.free,I.freeC,fun p hp=>?_,tracked ⟨oL,hoL,I.free⟩ hs,by simpa using I.len⟩ ⟨_,hs,.inl rfl⟩
  ·exact(hs.2 b (UO (UP (UG e) I.ok.above))).trans (I.base.keep b o e n hb hx)
  ·obtain⟨sl,e1⟩:=I.base.slot b o e n hb hx;exact⟨sl,(hs.2 b (UO (UP (UG e) I.ok.above))).trans e1⟩
  ·obtain⟨o',e1⟩:=I.base.there b o e hx;exact⟨o',(hs.2 b (UO (UP (UG e) I.ok.above))).trans e1⟩
  ·by_cases hj:j=i
   ·subst hj;rw[hi] at e1;cases e1;rw[Ni hiσ] at e2
    cases e2;exact⟨u,r,.inl ⟨hk,by simp⟩⟩
   ·rw[Ti (OO hj)] at e2;obtain⟨u',r',q⟩:=hl j y v' e1 e2 e3;refine⟨u',r',?_⟩;rcases q with⟨k,e⟩|⟨k,c,e,z⟩
    ·refine .inl ⟨k,?_⟩;have:y≠x:=fun e=>hj (zcw hN e1 (e▸hi));simp[this,e]
    ·exact .inr ⟨k,c,e,z.sameBut hs (cne y c e)⟩
  ·obtain⟨w',z⟩:=I.cell y c e;exact⟨w',z.sameBut hs (cne y c e)⟩
  ·obtain⟨e,n,ne,nf,d⟩:=I.pin p hp;exact⟨(hs.2 p.1 ne).trans e,n,ne,nf,d⟩
 ·have hfn:X.fn x=true:=by
   rcases hf with z|z
   ·exact z
   ·rw[z] at hk;cases hk
  obtain⟨c,hc⟩:=I.ok.has x (.inl hk);obtain⟨w',z⟩:=I.cell x c hc;refine wpAny_storeName_cell I.ok.kind hk hc z (fun h' hc' hs=>?_);obtain⟨oc,hoc,hocd⟩:=id z;refine h { s with heap:=h' } ⟨I.ok,I.os,I.bare,⟨fun b o e n hb hx=>?_,fun b o e n hb hx=>?_,I.base.free,fun b o e hx=>?_,I.base.tups,I.base.frzs,I.base.tbls⟩,⟨m,hn.sameBut hs (OO (cne x c hc)),fun j y v' e1 e2 e3=>?_⟩,fun y c' e=>?_,I.free,I.freeC,fun p hp=>?_,tracked ⟨oc,hoc,I.freeC x c hc⟩ hs,by simpa using I.len⟩ ⟨c,hs,.inr hc⟩
  ·exact(hs.2 b (UO (UP (UG e) (I.ok.cab x c hfn hc)))).trans (I.base.keep b o e n hb hx)
  ·obtain⟨sl,e1⟩:=I.base.slot b o e n hb hx;exact⟨sl,(hs.2 b (UO (UP (UG e) (I.ok.cab x c hfn hc)))).trans e1⟩
  ·obtain⟨o',e1⟩:=I.base.there b o e hx;exact⟨o',(hs.2 b (UO (UP (UG e) (I.ok.cab x c hfn hc)))).trans e1⟩
  ·by_cases hj:j=i
   ·subst hj;rw[hi] at e1;cases e1;rw[Ni hiσ] at e2
    cases e2;exact⟨u,r,.inr ⟨.inl hk,c,hc,hc'⟩⟩
   ·rw[Ti (OO hj)] at e2;obtain⟨u',r',q⟩:=hl j y v' e1 e2 e3;refine⟨u',r',?_⟩;rcases q with q|⟨k,c',e,z'⟩
    ·exact .inl q
    ·refine .inr ⟨k,c',e,z'.sameBut hs ?_⟩;rintro rfl;exact hj (zcw hN e1 (I.ok.inj _ _ _ e hc▸hi))
  ·by_cases hcc:c'=c
   ·subst hcc;exact⟨_,hc'⟩
   ·obtain⟨w2,z2⟩:=I.cell y c' e;exact⟨w2,z2.sameBut hs hcc⟩
  ·obtain⟨e,n,ne,nf,d⟩:=I.pin p hp;refine⟨(hs.2 p.1 ?_).trans e,n,ne,nf,d⟩;intro q;rw[q,hoc] at e;have q':oc=p.2:=UK e;exact d w' (by rw[<-q'];exact hocd)
theorem zb1 {M:Model}{A:Around}{E:Value->Shared->Prop}{i:Nat}{x:Str}{v:V}{u:Value}{Q:Unit->Shared->Prop}(I:Inv X pins σ H s)(hN:X.N.Nodup)(hi:X.N[i]?=some x)(hx:Loc X.env.scope x)(r:RelV v u)(h:∀s',Inv X pins (σ.set i (some v)) H s'->Q () s')(hf:X.fn x=true∨X.env.scope.names.lookup x=some .local:=by first|exact .inl rfl|exact .inr rfl|assumption):wpAny M A (storeName X.env x u) Q E s:=
 zaj I hN hi hx r (fun s' I' _=>h s' I') hf
theorem Inv.call' (I:Inv X pins σ H s)(ho:s'.os=s.os)(u:Un (frs X.stack) ch H H' s.heap s'.heap)(hok:HOk X.prog X.w H' s'.heap)(hg:AllBare s'.gens)(hch:∀b∈ch,(b∈X.ex∨X.s₀.heap.objs.size<=b)/\b≠X.env.locals/\(∀x c,X.env.cells.lookup x=some c->c≠b)/\∀p∈X.pn++pins,p.1≠b):Inv X pins σ H' s':=by
 obtain⟨h',g',d',t',o'⟩:=s';have e:o'=s.os:=ho;subst e;exact I.call (g':=g') (t':=t') (d':=d') u hok hg hch
abbrev XK:=Value->Option Addr->Hp->Prop
abbrev St:=List (Option V)
abbrev VK:=V->Hp->Prop
abbrev TE:=St->Hp->VK->Prop
variable {to td ty:TE}
abbrev TT:=St->Hp->(Bool->Hp->Prop)->Prop
abbrev TA:=St->Hp->(List V->Hp->Prop)->Prop
structure Ends where
 nx:St->Hp->Prop
 rt:VK
 bk:St->Hp->Prop:=fun _ _=>False
 ct:St->Hp->Prop:=fun _ _=>False
variable {D:Ends}
abbrev TS:=Ends->St->Hp->Prop
def EP (X:Cx)(pins:List (Addr×Obj))(σ:St)(Q:VK)(u:Value)(s':Shared):Prop:=∃v H',Inv X pins σ H' s'/\RelV v u/\Q v H'
def TP (X:Cx)(pins:List (Addr×Obj))(σ:St)(Q:Bool->Hp->Prop)(b:Bool)(s':Shared):Prop:=∃H',Inv X pins σ H' s'/\Q b H'
def AP (X:Cx)(pins:List (Addr×Obj))(σ:St)(Q:List V->Hp->Prop)(us:List Value)(s':Shared):Prop:=∃vs H',Inv X pins σ H' s'/\Vals vs us/\Q vs H'
def SP (X:Cx)(pins:List (Addr×Obj))(D:Ends)(f:Flow)(s':Shared):Prop:=
 match f with
 | .next=>∃σ' H',Inv X pins σ' H' s'/\D.nx σ' H'
 | .brk=>∃σ' H',Inv X pins σ' H' s'/\D.bk σ' H'
 | .cont=>∃σ' H',Inv X pins σ' H' s'/\D.ct σ' H'
 | .ret u=>∃v σ' H',Inv X pins σ' H' s'/\RelV v u/\D.rt v H'
def PE (X:Cx)(e:Expr)(t:TE):Prop:=
 ∀(pins:List (Addr×Obj)) (s:Shared) (σ:St) (H:Hp) (Q:VK),Inv X pins σ H s->t σ H Q->wpAny (model X.prog X.w) X.A (eval e X.env) (EP X pins σ Q) X.xe s
def PT (X:Cx)(e:Expr)(t:TT):Prop:=
 ∀(pins:List (Addr×Obj)) (s:Shared) (σ:St) (H:Hp) (Q:Bool->Hp->Prop),Inv X pins σ H s->t σ H Q->wpAny (model X.prog X.w) X.A (isTrue e X.env (eval e X.env)) (TP X pins σ Q) X.xe s
def PW (X:Cx)(e:Expr)(t:TT):Prop:=
 ∀(whole:Sem Value) (pins:List (Addr×Obj)) (s:Shared) (σ:St) (H:Hp) (Q:Bool->Hp->Prop),Inv X pins σ H s->t σ H Q->wpAny (model X.prog X.w) X.A (isTrue e X.env whole) (TP X pins σ Q) X.xe s
theorem PW.pt (h:PW X e t):PT X e t:=h _
def PA (X:Cx)(es:List Expr)(t:TA):Prop:=
 ∀(pos:Pos) (pins:List (Addr×Obj)) (s:Shared) (σ:St) (H:Hp) (Q:List V->Hp->Prop),Inv X pins σ H s->t σ H Q->wpAny (model X.prog X.w) X.A (spliced (backTo pos (starEach es X.env))) (AP X pins σ Q) X.xe s
def PS (X:Cx)(st:Stmt)(t:TS):Prop:=
 ∀(pins:List (Addr×Obj)) (s:Shared) (σ:St) (H:Hp) (D:Ends),Inv X pins σ H s->t D σ H->wpAny (model X.prog X.w) X.A (exec st X.env) (SP X pins D) X.xe s
def PSs (X:Cx)(st:List Stmt)(t:TS):Prop:=
 ∀(pins:List (Addr×Obj)) (s:Shared) (σ:St) (H:Hp) (D:Ends),Inv X pins σ H s->t D σ H->wpAny (model X.prog X.w) X.A (execs st X.env) (SP X pins D) X.xe s
theorem thn (h:wpAny M A t Q E s)(hQ:∀a s,Q a s->Q' a s):wpAny M A t Q' E s:=OK h hQ fun _ _ x=>x
def bR (i:Nat):TE:=fun σ H Q=>∃v,σ[i]?=some (some v)/\Q v H
def tC (v:V):TE:=fun _ H Q=>Q v H
theorem zdf (hN:X.N[i]?=some x)(hv:Vis X.env.scope x)(hd:(x==("__debug__":Str))=false:=by decide)(hcd:(x==("__classdict__":Str))=false:=by decide):PE X (.Name x pos) (bR i):=by
 intro pins s σ H Q I h;obtain⟨v,e,h⟩:=h;obtain⟨m,hn,hl⟩:=I.loc;obtain⟨u,r,l⟩:=hl i x v hN e hv;have fin:EP X pins σ Q u s:=⟨v,H,I,r,h⟩;rcases l with⟨hk,hm⟩|⟨hk,c,hc,hcell⟩
 ·exact wpAny_Name (wpAny_loadName_local I.ok.kind hk hn hm fin) hd
 ·rcases hk with hk|hk
  ·exact wpAny_Name (wpAny_loadName_cell I.ok.kind hk hc hcell fin) hd
  ·exact wpAny_Name (wpAny_loadName_free I.ok.kind hk hc hcell fin hcd) hd
theorem zg {i j pos}:PE X (.Constant (.int i) j pos) (tC (.int i)):=fun _ _ _ H _ I h=>wpAny_Constant_int ⟨.int i,H,I.tok _,⟨_,rfl⟩,h⟩
theorem vw {b j pos}:PE X (.Constant (.bool b) j pos) (tC (.bl b)):=fun _ _ _ H _ I h=>Constant_bool ⟨.bl b,H,I,rfl,h⟩
theorem xC {j pos}:PE X (.Constant .none j pos) (tC .non):=fun _ _ _ H _ I h=>Constant_none ⟨.non,H,I,rfl,h⟩
theorem zQ {x j pos}:PE X (.Constant (.str x) j pos) (tC (.str x)):=fun _ _ _ H _ I h=>Calls.Constant_str ⟨.str x,H,I.tok _,⟨_,rfl⟩,h⟩
def Gl (X:Cx)(x:Str):Prop:=X.env.kindOf x=some .globalImplicit
theorem zbv (I:Inv X pins σ H s)(hg:Gl X x)(hm:X.mg x=some u)(h:Q u s)(hd:(x==("__debug__":Str))=false:=by decide):wpAny (model X.prog X.w) X.A (eval (.Name x pos) X.env) Q E s:=
 Calls.Name_function_global I.ok.kind hg (Calls.loadGlobal_global (by rw[I.ok.glob];exact I.mod.glob.keeps I.bk) hm h) hd
theorem xE (I:Inv X pins σ H s)(hg:Gl X x)(hm:X.mg x=none)(hv:bootBuiltins x=some u)(h:Q u s)(hn:x≠"__name__":=by decide)(hd:(x==("__debug__":Str))=false:=by decide):wpAny (model X.prog X.w) X.A (eval (.Name x pos) X.env) Q E s:=by
 obtain⟨mb,h1,h2⟩:=I.mod.blt;exact Calls.Name_function_global I.ok.kind hg (Calls.loadGlobal_builtin (by rw[I.ok.glob];exact I.mod.glob.keeps I.bk) hm (by rw[I.ok.blt];exact h1.keeps I.bk) ((h2 x hn).trans hv) h) hd
theorem qQ (hg:Gl X x)(hm:X.mg x=some u)(r:RelV v u)(hd:(x==("__debug__":Str))=false:=by decide):PE X (.Name x pos) (tC v):=
 fun _ _ _ H _ I h=>zbv I hg hm ⟨v,H,I,r,h⟩ hd
def PC (X:Cx)(op:CmpOp)(a b:Expr)(t:TE):Prop:=
 ∀(pins:List (Addr×Obj)) (s:Shared) (σ:St) (H:Hp) (Q:VK),Inv X pins σ H s->t σ H Q->
  wpAny (model X.prog X.w) X.A (eval a X.env) (fun v s₁=>wpAny (model X.prog X.w) X.A (eval b X.env) (fun u s₂=>wpAny (model X.prog X.w) X.A (compareOp op v u) (EP X pins σ Q) X.xe s₂) X.xe s₁) X.xe s
def tB (t:TE):TT:=fun σ H Q=>t σ H fun x H1=>∃c,x=.bl c/\Q c H1
theorem zdd (h:PC X op a b t)(h1:behindInMarks op b=false:=by first|exact nobehind _ (by decide) (by decide)|rfl):PT X (.Compare a [op] [b] pos) (tB t):=by
 intro pins s σ H Q I hw;refine wpAny_isTrue_Compare1 (thn (h pins s σ H _ I hw) fun v s1 h1=>thn h1 fun u s2 h2=>thn h2 fun c s3 ⟨x,H1,I1,r1,q1⟩=>?_) h1;obtain⟨d,rfl,q⟩:=q1
 cases r1;exact Ox ⟨H1,I1,q⟩
theorem jN (h:PE X e t)(he:∀whole,isTrue e X.env whole=(do let v <-whole;standAt e.pos;holding [v] (truthy v)):=by intro _;rfl):PT X e (tB t):=by
 intro pins s σ H Q I hw;refine isTrue_plain (thn (h pins s σ H _ I hw) fun v s1 ⟨x,H1,I1,r1,q1⟩=>?_) (he _);obtain⟨d,rfl,q⟩:=q1
 cases r1;exact Ox ⟨H1,I1,q⟩
def zkt (t u:TT):TT:=fun σ H Q=>t σ H fun c H1=>if c=true then u σ H1 Q else Q false H1
def tOr (t u:TT):TT:=fun σ H Q=>t σ H fun c H1=>if c=true then Q true H1 else u σ H1 Q
def zkm (t:TT):TT:=fun σ H Q=>t σ H fun c H1=>Q (!c) H1
theorem jC (ha:PT X a tA):PW X (.BoolOp .And [a] pos) tA:=by
 intro wh pins s σ H Q I h;refine isTrue_and (thn (ha pins s σ H Q I h) fun c s1 e=>?_)
 cases c with
 |true=>exact isTrue_and_nil e
 |false=>exact e
theorem ya (ha:PT X a tA):PW X (.BoolOp .Or [a] pos) tA:=by
 intro wh pins s σ H Q I h;refine isTrue_or (thn (ha pins s σ H Q I h) fun c s1 e=>?_)
 cases c with
 |false=>exact isTrue_or_nil e
 |true=>exact e
theorem vj (ha:PT X a tA)(hb:PW X (.BoolOp .And (b::rest) pos) tB'):PW X (.BoolOp .And (a::b::rest) pos) (zkt tA tB'):=by
 intro wh pins s σ H Q I h;refine isTrue_and (thn (ha pins s σ H _ I h) fun c s1 ⟨H1,I1,q1⟩=>?_)
 cases c with
 |true=>exact hb wh pins s1 σ H1 Q I1 q1
 |false=>exact⟨H1,I1,q1⟩
theorem kM (ha:PT X a tA)(hb:PW X (.BoolOp .Or (b::rest) pos) tB'):PW X (.BoolOp .Or (a::b::rest) pos) (tOr tA tB'):=by
 intro wh pins s σ H Q I h;refine isTrue_or (thn (ha pins s σ H _ I h) fun c s1 ⟨H1,I1,q1⟩=>?_)
 cases c with
 |true=>exact⟨H1,I1,q1⟩
 |false=>exact hb wh pins s1 σ H1 Q I1 q1
theorem qV (ha:PT X a tA):PT X (.UnaryOp .Not a pos) (zkm tA):=by
 intro pins s σ H Q I h;exact isTrue_not (ha pins s σ H (fun c H1=>Q (!c) H1) I h)
def zjG (ta tb:TE):TE:=fun σ H Q=>ta σ H fun x H1=>∃c,x=.bl c/\if c=true then tb σ H1 Q else Q (.bl false) H1
def zkl (ta tb:TE):TE:=fun σ H Q=>ta σ H fun x H1=>∃c,x=.bl c/\if c=true then Q (.bl true) H1 else tb σ H1 Q
theorem zbc {op}(h:PE X a t):PE X (.BoolOp op [a] pos) t:=fun pins s σ H Q I hw=>BoolOp_one (h pins s σ H Q I hw)
theorem ziM (ha:PE X a ta)(hb:PE X (.BoolOp .And (b::rest) pos) tb):PE X (.BoolOp .And (a::b::rest) pos) (zjG ta tb):=by
 intro pins s σ H Q I h;refine BoolOp_and (thn (ha pins s σ H _ I h) fun v s1 ⟨x,H1,I1,r1,q1⟩=>?_);obtain⟨c,rfl,q1⟩:=q1
 cases r1;refine Ox ?_
 cases c with
 |true=>exact hb pins s1 σ H1 Q I1 q1
 |false=>exact⟨.bl false,H1,I1,rfl,q1⟩
theorem zh0 (ha:PE X a ta)(hb:PE X (.BoolOp .Or (b::rest) pos) tb):PE X (.BoolOp .Or (a::b::rest) pos) (zkl ta tb):=by
 intro pins s σ H Q I h;refine BoolOp_or (thn (ha pins s σ H _ I h) fun v s1 ⟨x,H1,I1,r1,q1⟩=>?_);obtain⟨c,rfl,q1⟩:=q1
 cases r1;refine Ox ?_
 cases c with
 |false=>exact hb pins s1 σ H1 Q I1 q1
 |true=>exact⟨.bl true,H1,I1,rfl,q1⟩
def tIf (t:TT)(ta tb:TE):TE:=fun σ H Q=>t σ H fun c H1=>if c=true then ta σ H1 Q else tb σ H1 Q
theorem zcl (hc:PT X c tA)(ha:PE X a ta)(hb:PE X b tb):PE X (.IfExp c a b pos) (tIf tA ta tb):=by
 intro pins s σ H Q I h;refine wpAny_IfExp (thn (hc pins s σ H _ I h) fun d s1 ⟨H1,I1,q1⟩=>?_)
 cases d with
 |true=>exact ha pins s1 σ H1 Q I1 q1
 |false=>exact hb pins s1 σ H1 Q I1 q1
def SqL (K:Frag)(H:Hp)(a:Addr)(xs:List V):Prop:=
 Rd H a (.lst xs)∨
  ∃(o:Obj) (its:Array Value) (n:Nat),K.lookup a=some o/\o.cls=.type "list"/\o.dict=none/\o.data=.seq its n/\its.size<=sizeLine/\Vals xs its.toList/\noT xs
def SqT (K:Frag)(H:Hp)(a:Addr)(xs:List V):Prop:=
 Rd H a (.tup xs)∨
  ∃(o:Obj) (its:Array Value) (n:Nat),K.lookup a=some o/\o.cls=.type "tuple"/\o.data=.seq its n/\its.size<=sizeLine/\Vals xs its.toList/\noT xs
def zkW:Value->Option V
 | .none=>some .non
 | .bool b=>some (.bl b)
 | .int i _=>some (.int i)
 | .str x _=>some (.str x)
 | .bytes b _=>some (.byt b)
 | .ref a=>some (.ref a)
 | .type n=>some (.ty n)
 |_=>none
theorem RelV.abs (r:RelV x u)(hx:V.isT x=false):zkW u=some x:=by
 cases x with
 |non=>cases r;rfl
 |bl _=>cases r;rfl
 |int _=>obtain⟨t,rfl⟩:=r;rfl
 |str _=>obtain⟨t,rfl⟩:=r;rfl
 |byt _=>obtain⟨t,rfl⟩:=r;rfl
 |tst _ _=>cases hx
 |ref _=>cases r;rfl
 |ty _=>cases r;rfl
theorem RelV.inj (r:RelV x u)(q:RelV y u)(hx:V.isT x=false)(hy:V.isT y=false):x=y:=UK ((r.abs hx).symm.trans (q.abs hy))
theorem Vals.inj:∀{xs ys:List V}{us:List Value},Vals xs us->Vals ys us->noT xs->noT ys->xs=ys
 |_,_,_,.nil,.nil,_,_=>rfl
 |_,_,_,.cons r t,.cons r' t',hx,hy=>by rw[r.inj r' (hx _ Ug) (hy _ Ug),Vals.inj t t' (fun x h=>hx x (Uh _ h)) (fun x h=>hy x (Uh _ h))]
theorem SqL.of (h:H a=some (.lst xs)):SqL K H a xs:=.inl (.inl h)
theorem SqT.of (h:H a=some (.tup xs)):SqT K H a xs:=.inl (.inl h)
theorem Inv.list (I:Inv X pins σ H s)(h:SqL X.K H a xs):∃its:List Value,Vals xs its/\PlainL s.heap a its.toArray/\xs.length<=sizeLine:=by
 rcases h with h|⟨o,its,n,hk,hc,hd,hs,hz,r,_⟩
 ·obtain⟨z,its,n,r,e⟩:=h.ok I.hok;exact⟨its,r,⟨_,n,e,rfl,rfl,rfl⟩,z⟩
 ·refine⟨its.toList,r,⟨o,n,I.kIn a o hk,hc,hd,by simpa using hs⟩,?_⟩;have e:=r.length;simp only[Oe] at e;lia
theorem Inv.tuple (I:Inv X pins σ H s)(h:SqT X.K H a xs):∃its:List Value,Vals xs its/\IsTup s.heap a its.toArray/\xs.length<=sizeLine:=by
 rcases h with h|⟨o,its,n,hk,hc,hs,hz,r,_⟩
 ·obtain⟨z,its,r,p⟩:=h.ok I.hok;exact⟨its,r,p,z⟩
 ·refine⟨its.toList,r,⟨o,I.kIn a o hk,hc,n,by simpa using hs⟩,?_⟩;have e:=r.length;simp only[Oe] at e;lia
theorem Rd.one (h:Rd H a u)(h':Rd H a v)(hu:∀o y,u≠.frz o y)(hv:∀o y,v≠.frz o y):u=v:=by
 rcases h with h|⟨o,h⟩<;>rcases h' with h'|⟨o',h'⟩<;>rw[h] at h'<;>injection h' with h'
 ·exact absurd h' (hu _ _)
 ·exact absurd h'.symm (hv _ _)
 ·injection h'
theorem Rd.noK (I:Inv X pins σ H s)(h:Rd H a u)(k:X.K.lookup a=some o):False:=by
 have:=(I.bs a o (I.ok.mod.kin a o k)).2;rcases h with h|⟨_,h⟩<;>rw[this] at h<;>cases h
theorem Inv.list_inj (I:Inv X pins σ H s)(h:SqL X.K H a xs)(h':SqL X.K H a ys):xs=ys:=by
 rcases h with h|⟨o,its,n,hk,hc,hd,hs,hz,r,hx⟩<;>rcases h' with h'|⟨o',its',n',hk',hc',hd',hs',hz',r',hy⟩
 ·have:=Rd.one h h' (fun _ _ z=>nomatch z) (fun _ _ z=>nomatch z);injection this
 ·exact(Rd.noK I h hk').elim
 ·exact(Rd.noK I h' hk).elim
 ·rw[hk] at hk';cases hk';rw[hs] at hs';cases hs';exact r.inj r' hx hy
theorem Inv.tuple_inj (I:Inv X pins σ H s)(h:SqT X.K H a xs)(h':SqT X.K H a ys):xs=ys:=by
 rcases h with h|⟨o,its,n,hk,hc,hs,hz,r,hx⟩<;>rcases h' with h'|⟨o',its',n',hk',hc',hs',hz',r',hy⟩
 ·have:=Rd.one h h' (fun _ _ z=>nomatch z) (fun _ _ z=>nomatch z);injection this
 ·exact(Rd.noK I h hk').elim
 ·exact(Rd.noK I h' hk).elim
 ·rw[hk] at hk';cases hk';rw[hs] at hs';cases hs';exact r.inj r' hx hy
abbrev Cx.wish (X:Cx)(E:Value->Shared->Prop):Cx:={ X with xe:=E }
abbrev Cx.nox (X:Cx):Cx:=X.wish fun _ _=>False
theorem Cx.Ok.wish (ok:X.Ok)(E:Value->Shared->Prop):(X.wish E).Ok:=
 ⟨ok.mod,ok.kind,ok.glob,ok.blt,ok.above,ok.inj,ok.has,ok.cab,ok.hd,ok.frames,ok.stk,ok.exf,ok.bs,ok.bsz,ok.noex,ok.exfs,ok.funs,ok.frf⟩
theorem Cx.Ok.unwish (ok:(X.wish E).Ok):X.Ok:=
 ⟨ok.mod,ok.kind,ok.glob,ok.blt,ok.above,ok.inj,ok.has,ok.cab,ok.hd,ok.frames,ok.stk,ok.exf,ok.bs,ok.bsz,ok.noex,ok.exfs,ok.funs,ok.frf⟩
theorem Inv.wish (I:Inv X pins σ H s)(E:Value->Shared->Prop):Inv (X.wish E) pins σ H s:=⟨I.ok.wish E,I.os,I.bare,I.base,I.loc,I.cell,I.free,I.freeC,I.pin,I.hok,I.len⟩
theorem Inv.unwish (I:Inv (X.wish E) pins σ H s):Inv X pins σ H s:=⟨I.ok.unwish,I.os,I.bare,I.base,I.loc,I.cell,I.free,I.freeC,I.pin,I.hok,I.len⟩
theorem SP.unwish (h:SP (X.wish E) pins D f s'):SP X pins D f s':=by
 cases f with
 |next=>obtain⟨σ',H',I,q⟩:=h;exact⟨σ',H',I.unwish,q⟩
 |brk=>obtain⟨σ',H',I,q⟩:=h;exact⟨σ',H',I.unwish,q⟩
 |cont=>obtain⟨σ',H',I,q⟩:=h;exact⟨σ',H',I.unwish,q⟩
 |ret u=>obtain⟨v,σ',H',I,r,q⟩:=h;exact⟨v,σ',H',I.unwish,r,q⟩
theorem PSs.nox {st:List Stmt}(h:PSs X.nox st t):PSs X st t:=fun pins s σ H D I hw=>
 OK (h pins s σ H D (I.wish _) hw) (fun _ _ q=>q.unwish) fun _ _ z=>False.elim z
def bS:TS:=fun D σ H=>D.nx σ H
def jJ (t u:TS):TS:=fun D σ H=>t { D with nx:=u D } σ H
theorem zL:PSs X [] bS:=fun _ _ σ H _ I h=>wpAny_execs_nil ⟨σ,H,I,h⟩
theorem ze {st:Stmt}(h1:PS X st t)(h2:PSs X rest u):PSs X (st::rest) (jJ t u):=by
 intro pins s σ H D I h;refine wpAny_execs_cons (thn (h1 pins s σ H { D with nx:=u D } I h) fun f s1 q=>?_)
 cases f with
 |next=>
  obtain⟨σ',H',I',q⟩:=q;exact h2 pins s1 σ' H' D I' q
 |ret v=>exact q
 |brk=>exact q
 |cont=>exact q
theorem zj {st:Stmt}{t:TS}(h1:PS X st t):PSs X [st] t:=by
 intro pins s σ H D I h;refine wpAny_execs_cons (thn (h1 pins s σ H D I h) fun f s1 q=>?_)
 cases f with
 |next=>exact wpAny_execs_nil q
 |ret v=>exact q
 |brk=>exact q
 |cont=>exact q
theorem Inv.quiet (I:Inv X pins σ H s):interactive X.env=false:=by simp[interactive,I.ok.kind]
def zjB (te:TE):TS:=fun D σ H=>te σ H fun _ H1=>D.nx σ H1
theorem jd (he:PE X e te)(hs:swapsWith e none pos.line X.env=pure false:=by rfl):PS X (.Expr e pos) (zjB te):=by
 intro pins s σ H D I h;exact wpAny_Expr_any (thn (he pins s σ H _ I h) fun v s1 ⟨x,H1,I1,r1,q1⟩=>⟨σ,H1,I1,q1⟩) I.quiet hs
def zjv (te:TE):TS:=fun D σ H=>te σ H D.rt
theorem zr {e:Expr}{te:TE}(he:PE X e te):PS X (.Return (some e) pos) (zjv te):=by
 intro pins s σ H D I h;exact wpAny_Return_some (thn (he pins s σ H _ I h) fun v s1 ⟨x,H1,I1,r1,q1⟩=>⟨x,σ,H1,I1,r1,q1⟩)
def zio (c:TT)(t u:TS):TS:=fun D σ H=>c σ H fun b H1=>if b=true then t D σ H1 else u D σ H1
theorem z8 (hc:PT X c tc)(ha:PSs X a t)(hb:PSs X b u):PS X (.If c a b pos) (zio tc t u):=by
 intro pins s σ H D I h;refine wpAny_If (thn (hc pins s σ H _ I h) fun d s1 ⟨H1,I1,q1⟩=>?_)
 cases d with
 |true=>exact ha pins s1 σ H1 D I1 q1
 |false=>exact hb pins s1 σ H1 D I1 q1
abbrev TG:=V->St->Hp->(St->Hp->Prop)->Prop
variable {g:TG}
abbrev TGs:=List V->St->Hp->(St->Hp->Prop)->Prop
def PG (X:Cx)(target:Expr)(t:TG):Prop:=
 ∀(pins:List (Addr×Obj)) (s:Shared) (σ:St) (H:Hp) (v:V) (u:Value) (Q:St->Hp->Prop),Inv X pins σ H s->RelV v u->t v σ H Q->
  wpAny (model X.prog X.w) X.A (assign target X.env u) (fun _ s'=>∃σ' H',Inv X pins σ' H' s'/\Q σ' H') X.xe s
def PGs (X:Cx)(ts:List Expr)(t:TGs):Prop:=
 ∀(pins:List (Addr×Obj)) (s:Shared) (σ:St) (H:Hp) (vs:List V) (us:List Value) (Q:St->Hp->Prop),Inv X pins σ H s->Vals vs us->t vs σ H Q->
  wpAny (model X.prog X.w) X.A (assignInOrder ((assignEach ts X.env).map (·.2)) us) (fun _ s'=>∃σ' H',Inv X pins σ' H' s'/\Q σ' H') X.xe s
abbrev zjl:=V->V->V->Hp->(Hp->Prop)->Prop
def zjn (X:Cx)(t:zjl):Prop:=
 ∀(pins:List (Addr×Obj)) (s:Shared) (σ:St) (H:Hp) (o i v:V) (ov iv u:Value) (Q:Hp->Prop),Inv X pins σ H s->RelV o ov->RelV i iv->RelV v u->t o i v H Q->
  wpAny (model X.prog X.w) X.A (setItem ov iv u) (fun _ s'=>∃H',Inv X pins σ H' s'/\Q H') X.xe s
abbrev TIp:=V->V->Hp->VK->Prop
def PIp (X:Cx)(op:Operator)(t:TIp):Prop:=
 ∀(pins:List (Addr×Obj)) (s:Shared) (σ:St) (H:Hp) (x y:V) (v u:Value) (Q:VK),Inv X pins σ H s->RelV x v->RelV y u->t x y H Q->
  wpAny (model X.prog X.w) X.A (inplaceOp op v u) (EP X pins σ Q) X.xe s
def zx (i:Nat):TG:=fun v σ H Q=>Q (σ.set i (some v)) H
theorem zo (hN:X.N.Nodup)(hi:X.N[i]?=some x)(hx:Loc X.env.scope x)(hf:X.fn x=true∨X.env.scope.names.lookup x=some .local:=by first|exact .inl rfl|exact .inr rfl|assumption):PG X (.Name x pos) (zx i):=by
 intro pins s σ H v u Q I r h;exact wpAny_assign_Name (zb1 I hN hi hx r (fun s' I'=>⟨_,H,I',h⟩) hf)
def zja:TGs:=fun vs σ H Q=>vs=[]/\Q σ H
def zaA (t:TG)(u:TGs):TGs:=fun vs σ H Q=>∃v r,vs=v::r/\t v σ H fun σ' H'=>u r σ' H' Q
theorem qm:PGs X [] zja:=by
 intro pins s σ H vs us Q I r h;obtain⟨e,h⟩:=h;subst e
 cases r;exact assignInOrder_nil ⟨σ,H,I,h⟩
theorem zI (h1:PG X e t)(h2:PGs X es u)(hs:(assignEach (e::es) X.env).map (·.2)=assign e X.env::(assignEach es X.env).map (·.2):=by rfl):PGs X (e::es) (zaA t u):=by
 intro pins s σ H vs us Q I r h;obtain⟨v,vr,e1,h⟩:=h;subst e1
 cases r with
 |cons r rr=>
  rw[hs];refine assignInOrder_cons (thn (h1 pins s σ H _ _ _ I r h) fun _ s1 ⟨σ1,H1,I1,q1⟩=>?_);exact h2 pins s1 σ1 H1 _ _ Q I1 rr q1
def zhw (K:Frag)(n:Nat)(t:TGs):TG:=fun v σ H Q=>∃a xs,v=.ref a/\SqT K H a xs/\xs.length=n/\t xs σ H Q
theorem ziJ (hc:X.calm=true)(h:PGs X es t)(hn:(assignEach es X.env).length=n:=by rfl)(hst:(assignEach es X.env).findIdx? (·.1)=none:=by rfl):PG X (.Tuple es k pos) (zhw X.K n t):=by
 intro pins s σ H v u Q I r hw;obtain⟨a,xs,e1,hq,hl,hw⟩:=hw;subst e1
 cases r;obtain⟨its,rv,ht,hz⟩:=I.tuple hq;refine assign_Tuple_tuple (I.ok.hd hc) ht (by simp[hn,<-hl,rv.length]) hst fun h' hx=>?_;have I1:Inv X pins σ H { s with heap:=h' }:=I.kept (t':=s.toks) fun b o e=>hx b o (UO (UG e)) e;exact h pins _ σ H xs _ Q I1 (by simpa using rv) hw
def zkL (to ti:TE)(t:zjl):TG:=fun v σ H Q=>to σ H fun o H1=>ti σ H1 fun i H2=>t o i v H2 fun H3=>Q σ H3
theorem dv (ho:PE X o to)(hi:PE X i ti)(hs:zjn X t)(ha:∀v,assign (.Subscript o i pos) X.env v=(do
 let ov <-holding [v] (eval o X.env);let iv <-holding [v,ov] (eval i X.env)
 standAt pos
 holding [v,ov,iv] (setItem ov iv v)
 release [v,ov,iv] []):=by intro _;rfl):PG X (.Subscript o i pos) (zkL to ti t):=by
 intro pins s σ H v u Q I r h;rw[ha];refine Uc (Oc (thn (ho pins s σ H _ I h) fun ov s1 ⟨x,H1,I1,r1,q1⟩=>?_));refine Uc (Oc (thn (hi pins s1 σ H1 _ I1 q1) fun iv s2 ⟨y,H2,I2,r2,q2⟩=>?_));refine Uc (R8 (Uc (Oc (thn (hs pins s2 σ H2 x y v ov iv u _ I2 r1 r2 r q2) fun _ s3 ⟨H3,I3,q3⟩=>?_))));exact wpAny_release ⟨σ,H3,I3,q3⟩
def zir (te:TE)(g:TG):TS:=fun D σ H=>te σ H fun x H1=>g x σ H1 D.nx
theorem xB (he:PE X e te)(hg:PG X tg g)(hs:swapsWithSole [tg] e pos.line X.env=pure false:=by rfl)(hw:swappedStores [tg] e X.env=pure none:=by rfl)(h1:(assignEach [tg] X.env).map (·.2)=[assign tg X.env]:=by rfl):PS X (.Assign [tg] e pos) (zir te g):=by
 intro pins s σ H D I h;refine wpAny_Assign_stores (thn (he pins s σ H _ I h) fun v s1 ⟨x,H1,I1,r1,q1⟩=>?_) hs hw;rw[h1];exact thn (hg pins s1 σ H1 x v _ I1 r1 q1) fun _ s2 q=>q
theorem zq (hN:X.N.Nodup)(hi:X.N[i]?=some x)(hx:Loc X.env.scope x)(he:PE X e te)(hs:swapsWith e (some (.Name x pos')) pos.line X.env=pure false:=by rfl)(hf:X.fn x=true∨X.env.scope.names.lookup x=some .local:=by first|exact .inl rfl|exact .inr rfl|assumption) :
 PS X (.Assign [.Name x pos'] e pos) (zir te (zx i)):=by
 intro pins s σ H D I h;refine wpAny_Assign_Name (thn (he pins s σ H _ I h) fun v s1 ⟨y,H1,I1,r1,q1⟩=>?_) hs;exact zb1 I1 hN hi hx r1 (fun s2 I2=>⟨_,H1,I2,q1⟩) hf
def zjF (to ti te:TE)(tget:V->V->Hp->VK->Prop)(tip:TIp)(tset:zjl):TS:=fun D σ H=>to σ H fun o H1=>ti σ H1 fun i H2=>tget o i H2 fun x H3=>te σ H3 fun y H4=>tip x y H4 fun z H5=>tset o i z H5 fun H6=>D.nx σ H6
def zke (X:Cx)(t:V->V->Hp->VK->Prop):Prop:=
 ∀(pins:List (Addr×Obj)) (s:Shared) (σ:St) (H:Hp) (o i:V) (ov iv:Value) (Q:VK),Inv X pins σ H s->RelV o ov->RelV i iv->t o i H Q->
  wpAny (model X.prog X.w) X.A (getItem ov iv) (EP X pins σ Q) X.xe s
theorem zg6 (ho:PE X o to)(hi:PE X i ti)(hg:zke X tget)(he:PE X e te)(hp:PIp X op tip)(hs:zjn X tset)(ha:∀ov iv new,augStore i ov iv new=(do holding [new,ov,iv] (setItem ov iv new);release [new,ov,iv] [];pure .next):=by intros;rfl):PS X (.AugAssign (.Subscript o i tpos) op e pos) (zjF to ti te tget tip tset):=by
 intro pins s σ H D I h;refine wpAny_AugAssign_SubscriptAny (thn (ho pins s σ H _ I h) fun ov s1 ⟨x1,H1,I1,r1,q1⟩=>?_) ha;refine thn (hi pins s1 σ H1 _ I1 q1) fun iv s2 ⟨x2,H2,I2,r2,q2⟩=>?_;refine thn (hg pins s2 σ H2 x1 x2 ov iv _ I2 r1 r2 q2) fun old s3 ⟨x3,H3,I3,r3,q3⟩=>?_;refine thn (he pins s3 σ H3 _ I3 q3) fun v s4 ⟨x4,H4,I4,r4,q4⟩=>?_;refine thn (hp pins s4 σ H4 x3 x4 old v _ I4 r3 r4 q4) fun new s5 ⟨x5,H5,I5,r5,q5⟩=>?_;exact thn (hs pins s5 σ H5 x1 x2 x5 ov iv new _ I5 r1 r2 r5 q5) fun _ s6 ⟨H6,I6,q6⟩=>⟨σ,H6,I6,q6⟩
def ipI (f:Int->Int->Int):TIp:=fun x y H Q=>∃i j,x=.int i/\y=.int j/\Q (.int (f i j)) H
theorem zi7:PIp X .Add (ipI fun i j=>i+j):=by
 intro pins s σ H x y v u Q I r1 r2 h;obtain⟨i,j,e1,e2,q⟩:=h;subst e1;subst e2;obtain⟨t,rfl⟩:=r1;obtain⟨t',rfl⟩:=r2;exact iadd_int ⟨.int _,H,I.tok _,⟨_,rfl⟩,q⟩
structure It where
 go:Nat->Hp->Prop
 yld:Nat->Hp->V->Hp->Prop
 stop:Nat->Hp->Prop
def j9 (X:Cx)(pins:List (Addr×Obj))(H:Hp)(b:Addr):Prop:=
 H b=none/\b≠X.env.locals/\b∉X.fs/\(b∈X.ex∨X.s₀.heap.objs.size<=b)/\(∀x c,X.env.cells.lookup x=some c->c≠b)/\∀p∈X.pn++pins,p.1≠b
theorem Inv.fpOk (I:Inv X pins σ H s)(hb:s.heap.objs.size<=b)(hn:H' b=none):j9 X pins H' b:=by
 refine⟨hn,Nk (UP I.lt hb),I.nofs hb,.inr (UU I.sz hb),fun x c e z=>?_,fun p hp z=>?_⟩
 ·obtain⟨v,q⟩:=I.cell x c e;exact absurd (UP q.lt (by rw[z];exact hb)) (O4 _)
 ·exact absurd (UP (UG (I.pin p hp).1) (by rw[z];exact hb)) (O4 _)
structure Turn (P:Program)(w:World)(K:Frag)(tg:Expr)(J:It)(fp:List Addr)(it:Addr)(tn:Nat->Heap->Prop):Prop where
 mem:it∈fp
 obj:∀i h,tn i h->∀b∈fp,∃o,h.get? b=some o/\∀v,o.data≠.cell v
 keep:∀i h h',tn i h->(∀b∈fp,∀o,h.get? b=some o->h'.get? b=some o)->tn i h'
 item:∀(X:Cx),X.prog=P->X.w=w->X.K=K->X.calm=true->∀(i:Nat) (pins:List (Addr×Obj)) (s:Shared) (σ:St) (H:Hp) (E:Value->Shared->Prop),Inv X pins σ H s->(∀b∈fp,j9 X pins H b)->tn i s.heap->J.go i H->
  wpAny (model P w) X.A (pyNext (.ref it)) (fun r s1=>∃u,r=some u/\
   wpAny (model P w) X.A (letOwnedTupleGo tg (.ref it) u) (fun _ s2=>∃x H',Inv X pins σ H' s2/\RelV x u/\J.yld i H x H'/\tn (i+1) s2.heap/\∀b∈fp,H' b=none) E s1) E s
 done:∀(X:Cx),X.prog=P->X.w=w->X.K=K->X.calm=true->∀(i:Nat) (pins:List (Addr×Obj)) (s:Shared) (σ:St) (H:Hp) (E:Value->Shared->Prop),Inv X pins σ H s->(∀b∈fp,j9 X pins H b)->tn i s.heap->J.stop i H->
  wpAny (model P w) X.A (pyNext (.ref it)) (fun r s1=>r=none/\Inv X pins σ H s1) E s
 self:∀(A:Around) (i:Nat) (s:Shared) (Q:Value->Shared->Prop) (E:Value->Shared->Prop),tn i s.heap->Q (.ref it) s->wpAny (model P w) A (pyIter (.ref it)) Q E s
abbrev TI:=St->Hp->(It->Hp->Prop)->Prop
def PIE (X:Cx)(pins:List (Addr×Obj))(σ:St)(tg:Expr)(R:It->Hp->Prop)(itv:Value)(s2:Shared):Prop:=
 ∃(it:Addr) (fp:List Addr) (tn:Nat->Heap->Prop) (J:It) (H':Hp),itv=.ref it/\Inv X pins σ H' s2/\Turn X.prog X.w X.K tg J fp it tn/\tn 0 s2.heap/\(∀b∈fp,j9 X pins H' b)/\R J H'
def PI (X:Cx)(tg iter:Expr)(wi:TI):Prop:=
 ∀(pins:List (Addr×Obj)) (s:Shared) (σ:St) (H:Hp) (R:It->Hp->Prop),Inv X pins σ H s->wi σ H R->
  wpAny (model X.prog X.w) X.A (eval iter X.env) (fun v s1=>wpAny (model X.prog X.w) X.A (pyIter v) (PIE X pins σ tg R) X.xe s1) X.xe s
theorem dX {n:String}(ho:s.heap.get? it=some o)(hc:o.cls=.type n)(hd:o.data=.fields vs)(hn:["enumerate","zip","dict_itemiterator","dict_reverseitemiterator","odict_iterator","itertools.zip_longest","itertools.pairwise"].contains n=false)(hQ:Q () s):wpAny M A (letOwnedTupleGo tg (.ref it) u) Q E s:=by
 unfold letOwnedTupleGo
 cases tg<;>first
  |exact Uj hQ
  |(cases u<;>first
     |exact Uj hQ
     |(refine Uc (wpAny_load ho ?_)
       rw[hc,hd];show wpAny M A (if(["enumerate","zip","dict_itemiterator","dict_reverseitemiterator","odict_iterator","itertools.zip_longest","itertools.pairwise"].contains n&&vs[0]?==some (rawInt _))=true then _ else _) Q E s;rw[Ur (by intro h;rw[hn,RP] at h;cases h)];exact Uj hQ))
def Itl (K:Frag)(a:Addr):It:=
 ⟨fun i H=>∃xs x,SqL K H a xs/\xs[i]?=some x,fun i H x H'=>H'=H/\∀xs,SqL K H a xs->xs[i]?=some x,fun i H=>∃xs,SqL K H a xs/\xs.length<=i⟩
def Itt (K:Frag)(a:Addr):It:=
 ⟨fun i H=>∃xs x,SqT K H a xs/\xs[i]?=some x,fun i H x H'=>H'=H/\∀xs,SqT K H a xs->xs[i]?=some x,fun i H=>∃xs,SqT K H a xs/\xs.length<=i⟩
def Itr (lo:Int)(n:Nat):It:=⟨fun i _=>i<n,fun i H x H'=>H'=H/\x=.int (lo+i),fun i _=>n<=i⟩
theorem zer (a it:Addr):Turn P w K tg (Itl K a) [it] it (fun i h=>h.IsListIter it a i) where
 mem:=by simp
 obj:=fun i h st b hb=>by
  have e:b=it:=by simpa using hb
  subst e;obtain⟨o,e,c,d⟩:=st;exact⟨o,e,fun v z=>by rw[d] at z;cases z⟩
 keep:=fun i h h' st k=>st.at fun o e=>k it (by simp) o e
 item:=by
  intro X hP hw hK hc i pins s σ H E I hf st hg;subst hP hw hK;obtain⟨xs,x,hq,hx⟩:=hg;obtain⟨its,rv,p,hz⟩:=I.list hq;obtain⟨u,hu,ru⟩:=rv.get hx;obtain⟨f0,f1,f2,f3,f4,f5⟩:=hf it (by simp);refine NA st p.isList (x:=u) (by simpa using hu) fun h' st' sb=>?_;have I1:Inv X pins σ H { s with heap:=h' }:=I.turned (t':=s.toks) (fun b o hb e=>(sb.2 b hb).trans e) f0 f1 f3 f4 f5;obtain⟨o,e,c,d⟩:=id st';exact⟨u,rfl,dX (s:={ s with heap:=h' }) e c d (by decide) ⟨x,H,I1,ru,⟨rfl,fun ys hy=>by rw[I.list_inj hy hq];exact hx⟩,st',fun b hb=>(hf b hb).1⟩⟩
 done:=by
  intro X hP hw hK hc i pins s σ H E I hf st hg;subst hP hw hK;obtain⟨xs,hq,hx⟩:=hg;obtain⟨its,rv,p,hz⟩:=I.list hq;obtain⟨f0,f1,f2,f3,f4,f5⟩:=hf it (by simp);have hl:=rv.length;exact wpAny_pyNext_list_end (I.ok.hd hc) st p.isList (by simp;lia) fun h' eb=>⟨rfl,I.turned (t':=s.toks) (fun b o hb e=>eb b o hb e) f0 f1 f3 f4 f5⟩
 self:=fun _ _ _ _ _ st h=>wpAny_pyIter_listiter st h
theorem zc0 (a it:Addr):Turn P w K tg (Itt K a) [it] it (fun i h=>h.IsTupleIter it a i) where
 mem:=by simp
 obj:=fun i h st b hb=>by
  have e:b=it:=by simpa using hb
  subst e;obtain⟨o,e,c,d⟩:=st;exact⟨o,e,fun v z=>by rw[d] at z;cases z⟩
 keep:=fun i h h' st k=>st.at fun o e=>k it (by simp) o e
 item:=by
  intro X hP hw hK hc i pins s σ H E I hf st hg;subst hP hw hK;obtain⟨xs,x,hq,hx⟩:=hg;obtain⟨its,rv,p,hz⟩:=I.tuple hq;obtain⟨u,hu,ru⟩:=rv.get hx;obtain⟨f0,f1,f2,f3,f4,f5⟩:=hf it (by simp);refine wpAny_pyNext_tuple_item st (show s.heap.IsTuple a its.toArray from p) (x:=u) (by simpa using hu) fun h' st' sb=>?_;have I1:Inv X pins σ H { s with heap:=h' }:=I.turned (t':=s.toks) (fun b o hb e=>(sb.2 b hb).trans e) f0 f1 f3 f4 f5;obtain⟨o,e,c,d⟩:=id st';exact⟨u,rfl,dX (s:={ s with heap:=h' }) e c d (by decide) ⟨x,H,I1,ru,⟨rfl,fun ys hy=>by rw[I.tuple_inj hy hq];exact hx⟩,st',fun b hb=>(hf b hb).1⟩⟩
 done:=by
  intro X hP hw hK hc i pins s σ H E I hf st hg;subst hP hw hK;obtain⟨xs,hq,hx⟩:=hg;obtain⟨its,rv,p,hz⟩:=I.tuple hq;obtain⟨f0,f1,f2,f3,f4,f5⟩:=hf it (by simp);have hl:=rv.length;exact wpAny_pyNext_tuple_end (I.ok.hd hc) st (show s.heap.IsTuple a its.toArray from p) (by simp;lia) fun h' eb=>⟨rfl,I.turned (t':=s.toks) (fun b o hb e=>eb b o hb e) f0 f1 f3 f4 f5⟩
 self:=fun _ _ _ _ _ st h=>wpAny_pyIter_tupleiter st h
theorem zc1 (it:Addr)(lo:Int)(n:Nat):Turn P w K tg (Itr lo n) [it] it (fun i h=>IsRangeIter h it (lo+(i:Nat)*1) ((n:Int)-(i:Nat)) 1) where
 mem:=by simp
 obj:=fun i h st b hb=>by
  have e:b=it:=by simpa using hb
  subst e
  exact⟨_,st,fun v z=>by
   have z':Data.fields _=Data.cell v:=z
   cases z'⟩
 keep:=fun i h h' st k=>k it (by simp) _ st
 item:=by
  intro X hP hw hK hc i pins s σ H E I hf st hg;subst hP hw hK;obtain⟨f0,f1,f2,f3,f4,f5⟩:=hf it (by simp);have W:=Walks.range (prog:=X.prog) (w:=X.w) (I.ok.hd hc) it lo 1 n;refine W.item i s _ _ hg st fun v h' tk hv st' kk=>?_;obtain⟨t,rfl⟩:=hv;have I1:Inv X pins σ H { s with heap:=h',toks:=tk }:=I.turned (fun b o hb e=>kk b o (by simpa using hb) e) f0 f1 f3 f4 f5;refine⟨_,rfl,dX (s:={ s with heap:=h',toks:=tk }) (n:="range_iterator") st' rfl rfl (by decide) ⟨.int (lo+i),H,I1,⟨t,?_⟩,⟨rfl,rfl⟩,st',fun b hb=>(hf b hb).1⟩⟩;rw[Int.mul_one]
 done:=by
  intro X hP hw hK hc i pins s σ H E I hf st hg;subst hP hw hK;obtain⟨f0,f1,f2,f3,f4,f5⟩:=hf it (by simp);exact wpAny_pyNext_range_end (I.ok.hd hc) st (by have:n<=i:=hg;lia) fun h' eb=>⟨rfl,I.turned (t':=s.toks) (fun b o hb e=>eb b o hb e) f0 f1 f3 f4 f5⟩
 self:=fun _ _ _ _ _ st h=>NB st h
def zh9 (K:Frag)(tl:TE):TI:=fun σ H R=>tl σ H fun x H1=>∃a,x=.ref a/\(∃xs,SqL K H1 a xs)/\R (Itl K a) H1
def zj1 (K:Frag)(tl:TE):TI:=fun σ H R=>tl σ H fun x H1=>∃a,x=.ref a/\(∃xs,SqT K H1 a xs)/\R (Itt K a) H1
theorem zg8 (hl:PE X l tl):PI X tg l (zh9 X.K tl):=by
 intro pins s σ H R I h;refine thn (hl pins s σ H _ I h) fun v s1 ⟨x,H1,I1,r1,q1⟩=>?_;obtain⟨a,e,⟨xs,hq⟩,q⟩:=q1;subst e
 cases r1;obtain⟨its,rv,p,hz⟩:=I1.list hq;refine Oy p.isList ?_;refine⟨s1.heap.objs.size,[s1.heap.objs.size],_,_,H1,rfl,I1.kept (t':=s1.toks) fun b o e=>Ui _ e,zer a _,⟨_,UC _ rfl,rfl,rfl⟩,fun b hb=>?_,q⟩;have e:b=s1.heap.objs.size:=by simpa using hb
 subst e;exact I1.fpOk (Ub _) (I1.hok.fresh (Ub _))
theorem ziH (hl:PE X l tl):PI X tg l (zj1 X.K tl):=by
 intro pins s σ H R I h;refine thn (hl pins s σ H _ I h) fun v s1 ⟨x,H1,I1,r1,q1⟩=>?_;obtain⟨a,e,⟨xs,hq⟩,q⟩:=q1;subst e
 cases r1;obtain⟨its,rv,p,hz⟩:=I1.tuple hq;refine wpAny_pyIter_tuple (show s1.heap.IsTuple a its.toArray from p) ?_;refine⟨s1.heap.objs.size,[s1.heap.objs.size],_,_,H1,rfl,I1.kept (t':=s1.toks) fun b o e=>Ui _ e,zc0 a _,⟨_,UC _ rfl,rfl,rfl⟩,fun b hb=>?_,q⟩;have e:b=s1.heap.objs.size:=by simpa using hb
 subst e;exact I1.fpOk (Ub _) (I1.hok.fresh (Ub _))
theorem zcg {lo hi:Int}(I:Inv X pins σ H s)(h1 : -(2^62)<=lo)(h2:lo<2^62)(h3 : -(2^62)<=hi)(h4:hi<2^62)(q:R (Itr lo (hi-lo).toNat) H):wpAny (model X.prog X.w) X.A (pyIter (.ref s.heap.objs.size)) (PIE X pins σ tg R) E { s with heap:=s.heap.push { cls:=.type "range",data:=.fields #[.int lo t,.int hi u,.int 1 v] },toks:=tk }:=by
 refine wpAny_pyIter_range (IsRange.new ..) (small_one h1 h2 h3 h4) ?_;have I1:Inv X pins σ H { s with heap:=s.heap.push { cls:=.type "range",data:=.fields #[.int lo t,.int hi u,.int 1 v] },toks:=tk }:=I.kept fun b o e=>Ui _ e
 refine⟨(s.heap.push { cls:=.type "range",data:=.fields #[.int lo t,.int hi u,.int 1 v] }).objs.size,[(s.heap.push { cls:=.type "range",data:=.fields #[.int lo t,.int hi u,.int 1 v] }).objs.size],_,_,H,rfl,
  I1.kept (t':=tk) fun b o e=>Ui _ e,zc1 _ lo (hi-lo).toNat,?_,fun b hb=>?_,q⟩
 ·have e1:lo+((0:Nat):Int)*1=lo:=by simp
  have e2:(((hi-lo).toNat:Nat):Int)-((0:Nat):Int)=Builtin.Range.rangeSize lo hi 1:=by rw[rangeSize_one];split<;>lia
  show IsRangeIter _ _ (lo+((0:Nat):Int)*1) ((((hi-lo).toNat:Nat):Int)-((0:Nat):Int)) 1;rw[e1,e2];exact UC _ rfl
 ·have e:b=(s.heap.push { cls:=.type "range",data:=.fields #[.int lo t,.int hi u,.int 1 v] }).objs.size:=by simpa using hb
  subst e;exact I1.fpOk (Ub _) (I1.hok.fresh (Ub _))
def zj4 (ta:TA):TI:=fun σ H R=>ta σ H fun vs H1=>∃j:Int,vs=[.int j]/\-(2^62)<=j/\j<2^62/\R (Itr 0 j.toNat) H1
def zj3 (ta:TA):TI:=fun σ H R=>ta σ H fun vs H1=>∃i j:Int,vs=[.int i,.int j]/\(-(2^62)<=i/\i<2^62/\-(2^62)<=j/\j<2^62)/\R (Itr i (j-i).toNat) H1
theorem jO (hg:Gl X "range")(hm:X.mg "range"=none)(ha:PA X [a] ta)(hs:starEach [a] X.env=[(false,eval a X.env)]:=by rfl):PI X tg (.Call (.Name "range" p) [a] [] pos) (zj4 ta):=by
 intro pins s σ H R I h;refine Call_ (xE I hg hm boot_range (OC (thn (ha pos pins s σ H _ I h) fun us s1 ⟨vs,H1,I1,r1,q1⟩=>?_) hs rfl));obtain⟨j,e,q1,q2,q⟩:=q1;subst e
 cases r1 with
 |cons r rr=>
  cases rr;obtain⟨t,rfl⟩:=r;exact call_range_1 (zcg I1 (by lia) (by lia) q1 q2 (by simpa using q))
theorem zap (hg:Gl X "range")(hm:X.mg "range"=none)(ha:PA X [a,b] ta)(hs:starEach [a,b] X.env=[(false,eval a X.env),(false,eval b X.env)]:=by rfl)(hs2:starEach [b] X.env=[(false,eval b X.env)]:=by rfl) :
 PI X tg (.Call (.Name "range" p) [a,b] [] pos) (zj3 ta):=by
 intro pins s σ H R I h;refine Call_ (xE I hg hm boot_range (OC (thn (ha pos pins s σ H _ I h) fun us s1 ⟨vs,H1,I1,r1,q1⟩=>?_) (by rw[hs,hs2]) (by rw[hs2];rfl)));obtain⟨i,j,e,⟨q1,q2,q3,q4⟩,q⟩:=q1;subst e
 cases r1 with
 |cons r rr=>
  cases rr with
  |cons r' rr=>
   cases rr;obtain⟨t,rfl⟩:=r;obtain⟨t',rfl⟩:=r';exact call_range_2 (zcg I1 q1 q2 q3 q4 q)
def zkp (wi:TI)(g:TG)(tb:TS):TS:=fun D σ H=>wi σ H fun J H1=>∃W:Nat->Nat->St->Hp->Prop,(∃m,W 0 m σ H1)/\∀i m σ H,W i m σ H->
 (J.stop i H/\D.nx σ H)∨(J.go i H/\∃N:St->Hp->Prop,(∀σ' H',N σ' H'->∃m',m'<m/\W (i+1) m' σ' H')/\∀x H',J.yld i H x H'->g x σ H' fun σ2 H2=>tb { D with nx:=N,ct:=N,bk:=D.nx } σ2 H2)
def dk (fp:List Addr)(h:Heap):List (Addr×Obj):=fp.filterMap fun b=>(h.get? b).map fun o=>(b,o)
theorem wj (hb:b∈fp)(e:h.get? b=some o):(b,o)∈dk fp h:=List.mem_filterMap.mpr ⟨b,hb,by rw[e];rfl⟩
theorem zeN (hp:p∈dk fp h):p.1∈fp/\h.get? p.1=some p.2:=by
 obtain⟨b,hb,e⟩:=List.mem_filterMap.mp hp
 cases q:h.get? b with
 |none=>rw[q] at e;cases e
 |some o=>
  rw[q] at e;have e':(b,o)=p:=UK e;subst e';exact⟨hb,q⟩
theorem Inv.pinned (I:Inv X pins σ H s)(hf:∀b∈fp,j9 X pins H b)(ho:∀b∈fp,∃o,s.heap.get? b=some o/\∀v,o.data≠.cell v):Inv X (pins++dk fp s.heap) σ H s:=
 I.pins_of fun p hp=>(UJ.mp hp).elim (fun z=>I.pin p (UF _ z)) fun z=>by
  obtain⟨hb,e⟩:=zeN z;obtain⟨f0,f1,f2,_⟩:=hf p.1 hb;obtain⟨o,e',d⟩:=ho p.1 hb;rw[e] at e';cases e';exact⟨e,f0,f1,f2,d⟩
theorem Inv.unpinned (I:Inv X (pins++pl) σ H s):Inv X pins σ H s:=I.pins_of fun p hp=>I.pin p (UF _ (UR _ hp))
theorem qI {body:List Stmt}(hp:PassesOwn (model X.prog X.w) X.A X.env X.xe)(hc:X.calm=true)(hi:PI X tg iter wi)(hg:PG X tg g)(hb:PSs X body tb)(hs:∀x,foldedSetIterable iter X.env x=pure x:=by intro _;rfl):PS X (.For tg iter body [] pos) (zkp wi g tb):=by
 intro pins s σ H D I h;refine wpAny_For (thn (hi pins s σ H _ I h) fun v s1 h1=>thn h1 fun itv s2 h2=>?_) hs;obtain⟨it,fp,tn,J,H2,e,I2,T,st2,f2,W,⟨m0,w0⟩,turn⟩:=h2;subst e;have stat:∀{H':Hp},(∀b∈fp,H' b=none)->∀b∈fp,j9 X pins H' b:=fun hn b hb=>⟨hn b hb,(f2 b hb).2⟩;refine codeAny_forLoop_any (fun n s'=>∃i σ' H',Inv X pins σ' H' s'/\tn i s'.heap/\(∀b∈fp,H' b=none)/\W i n σ' H') ?_ m0 ⟨0,σ,H2,I2,st2,fun b hb=>(f2 b hb).1,w0⟩;rintro n s3 ⟨i,σ3,H3,I3,st3,fr3,w3⟩;rcases turn i n σ3 H3 w3 with⟨stop,qn⟩|⟨go,N,hN,step⟩
 ·refine TK hp (thn (T.done X rfl rfl rfl hc i pins s3 σ3 H3 X.xe I3 (stat fr3) st3 stop) fun r s4 ⟨hr,I4⟩=>?_);subst hr;exact wpAny_execs_nil ⟨σ3,H3,I4,qn⟩
 ·refine TK hp (thn (T.item X rfl rfl rfl hc i pins s3 σ3 H3 X.xe I3 (stat fr3) st3 go) fun r s4 ⟨u,hr,h4⟩=>?_);subst hr;refine TK hp (thn h4 fun _ s5 ⟨x,H5,I5,r5,y5,st5,fr5⟩=>?_);have I5':=I5.pinned (stat fr5) (T.obj _ _ st5);refine TK hp (thn (hg _ s5 σ3 H5 x u _ I5' r5 (step x H5 y5)) fun _ s6 ⟨σ6,H6,I6,q6⟩=>?_);refine TK hp (thn (hb _ s6 σ6 H6 _ I6 q6) fun f s7 q7=>?_)
  have again:∀{σ7:St}{H7:Hp},Inv X (pins++dk fp s5.heap) σ7 H7 s7->N σ7 H7->∃m,m<n/\∃i σ' H',Inv X pins σ' H' s7/\tn i s7.heap/\(∀b∈fp,H' b=none)/\W i m σ' H':=fun {σ7 H7} I7 n7=>by
   obtain⟨m',hm,w7⟩:=hN σ7 H7 n7;refine⟨m',hm,i+1,σ7,H7,I7.unpinned,T.keep _ _ _ st5 fun b hb o e=>(I7.pin (b,o) (UF _ (UF _ (wj hb e)))).1,fun b hb=>?_,w7⟩;obtain⟨o,e,d⟩:=T.obj _ _ st5 b hb;exact(I7.pin (b,o) (UF _ (UF _ (wj hb e)))).2.1
  cases f with
  |next=>obtain⟨σ7,H7,I7,n7⟩:=q7;exact again I7 n7
  |cont=>obtain⟨σ7,H7,I7,n7⟩:=q7;exact again I7 n7
  |brk=>obtain⟨σ7,H7,I7,q7⟩:=q7;exact⟨σ7,H7,I7.unpinned,q7⟩
  |ret v=>obtain⟨x7,σ7,H7,I7,r7,q7⟩:=q7;exact⟨x7,σ7,H7,I7.unpinned,r7,q7⟩
theorem j8 {tb:TS}(Pv:Nat->St->Hp->Prop)(h0:Pv 0 σ H)(hl:∀i σ H,i<=xs.length->Pv i σ H->SqL K H a xs)(hs:∀i x σ H,xs[i]?=some x->Pv i σ H->g x σ H fun σ2 H2=>tb { D with nx:=Pv (i+1),ct:=Pv (i+1),bk:=D.nx } σ2 H2)(hd:∀σ H,Pv xs.length σ H->D.nx σ H) :
 ∃W:Nat->Nat->St->Hp->Prop,(∃m,W 0 m σ H)/\∀i m σ H,W i m σ H->
  ((Itl K a).stop i H/\D.nx σ H)∨((Itl K a).go i H/\∃N:St->Hp->Prop,(∀σ' H',N σ' H'->∃m',m'<m/\W (i+1) m' σ' H')/\∀x H',(Itl K a).yld i H x H'->g x σ H' fun σ2 H2=>tb { D with nx:=N,ct:=N,bk:=D.nx } σ2 H2):=by
 refine⟨fun i m σ H=>m=xs.length-i/\i<=xs.length/\Pv i σ H,⟨xs.length,by simp,UI _,h0⟩,?_⟩;rintro i m σ H ⟨rfl,hi,p⟩;have q:=hl i σ H hi p
 by_cases hlt:i<xs.length
 ·refine .inr ⟨⟨xs,xs[i],q,by simp[hlt]⟩,Pv (i+1),fun σ' H' p'=>⟨xs.length-(i+1),by lia,rfl,hlt,p'⟩,fun x H' y=>?_⟩;obtain⟨e,y⟩:=y;subst e;exact hs i x σ _ (y xs q) p
 ·have e:i=xs.length:=by lia
  subst e;exact .inl ⟨⟨xs,q,Ub _⟩,hd σ H p⟩
theorem zbz {tb:TS}(Pv:Nat->St->Hp->Prop)(h0:Pv 0 σ H)(hl:∀i σ H,i<=xs.length->Pv i σ H->SqT K H a xs)(hs:∀i x σ H,xs[i]?=some x->Pv i σ H->g x σ H fun σ2 H2=>tb { D with nx:=Pv (i+1),ct:=Pv (i+1),bk:=D.nx } σ2 H2)(hd:∀σ H,Pv xs.length σ H->D.nx σ H) :
 ∃W:Nat->Nat->St->Hp->Prop,(∃m,W 0 m σ H)/\∀i m σ H,W i m σ H->
  ((Itt K a).stop i H/\D.nx σ H)∨((Itt K a).go i H/\∃N:St->Hp->Prop,(∀σ' H',N σ' H'->∃m',m'<m/\W (i+1) m' σ' H')/\∀x H',(Itt K a).yld i H x H'->g x σ H' fun σ2 H2=>tb { D with nx:=N,ct:=N,bk:=D.nx } σ2 H2):=by
 refine⟨fun i m σ H=>m=xs.length-i/\i<=xs.length/\Pv i σ H,⟨xs.length,by simp,UI _,h0⟩,?_⟩;rintro i m σ H ⟨rfl,hi,p⟩;have q:=hl i σ H hi p
 by_cases hlt:i<xs.length
 ·refine .inr ⟨⟨xs,xs[i],q,by simp[hlt]⟩,Pv (i+1),fun σ' H' p'=>⟨xs.length-(i+1),by lia,rfl,hlt,p'⟩,fun x H' y=>?_⟩;obtain⟨e,y⟩:=y;subst e;exact hs i x σ _ (y xs q) p
 ·have e:i=xs.length:=by lia
  subst e;exact .inl ⟨⟨xs,q,Ub _⟩,hd σ H p⟩
theorem vB {lo:Int}{tb:TS}(Pv:Nat->St->Hp->Prop)(h0:Pv 0 σ H)(hs:∀i σ H,i<n->Pv i σ H->g (.int (lo+i)) σ H fun σ2 H2=>tb { D with nx:=Pv (i+1),ct:=Pv (i+1),bk:=D.nx } σ2 H2)(hd:∀σ H,Pv n σ H->D.nx σ H) :
 ∃W:Nat->Nat->St->Hp->Prop,(∃m,W 0 m σ H)/\∀i m σ H,W i m σ H->
  ((Itr lo n).stop i H/\D.nx σ H)∨((Itr lo n).go i H/\∃N:St->Hp->Prop,(∀σ' H',N σ' H'->∃m',m'<m/\W (i+1) m' σ' H')/\∀x H',(Itr lo n).yld i H x H'->g x σ H' fun σ2 H2=>tb { D with nx:=N,ct:=N,bk:=D.nx } σ2 H2):=by
 refine⟨fun i m σ H=>m=n-i/\i<=n/\Pv i σ H,⟨n,by simp,UI _,h0⟩,?_⟩;rintro i m σ H ⟨rfl,hi,p⟩
 by_cases hlt:i<n
 ·refine .inr ⟨hlt,Pv (i+1),fun σ' H' p'=>⟨n-(i+1),by lia,rfl,hlt,p'⟩,fun x H' y=>?_⟩;obtain⟨e,y⟩:=y;subst e y;exact hs i σ _ hlt p
 ·have e:i=n:=by lia
  subst e;exact .inl ⟨Ub _,hd σ H p⟩
abbrev R2:=V->V->Hp->VK->Prop
def OpR (X:Cx)(f:Value->Value->Sem Value)(r:R2):Prop:=
 ∀(pins:List (Addr×Obj)) (s:Shared) (σ:St) (H:Hp) (x y:V) (v u:Value) (Q:VK),Inv X pins σ H s->RelV x v->RelV y u->r x y H Q->
  wpAny (model X.prog X.w) X.A (f v u) (EP X pins σ Q) X.xe s
def UnR (X:Cx)(f:Value->Sem Value)(r:V->Hp->VK->Prop):Prop:=
 ∀(pins:List (Addr×Obj)) (s:Shared) (σ:St) (H:Hp) (x:V) (v:Value) (Q:VK),Inv X pins σ H s->RelV x v->r x H Q->
  wpAny (model X.prog X.w) X.A (f v) (EP X pins σ Q) X.xe s
def jq (X:Cx)(f:Value)(r:List V->Hp->VK->Prop):Prop:=
 ∀(pins:List (Addr×Obj)) (s:Shared) (σ:St) (H:Hp) (xs:List V) (us:List Value) (Q:VK),Inv X pins σ H s->Vals xs us->r xs H Q->
  wpAny (model X.prog X.w) X.A (call f us) (EP X pins σ Q) X.xe s
def zkX (X:Cx)(r:V->Hp->(Bool->Hp->Prop)->Prop):Prop:=
 ∀(pins:List (Addr×Obj)) (s:Shared) (σ:St) (H:Hp) (x:V) (v:Value) (Q:Bool->Hp->Prop),Inv X pins σ H s->RelV x v->r x H Q->
  wpAny (model X.prog X.w) X.A (truthy v) (TP X pins σ Q) X.xe s
def tOp (r:R2)(ta tb:TE):TE:=fun σ H Q=>ta σ H fun x H1=>tb σ H1 fun y H2=>r x y H2 Q
def tUn (r:V->Hp->VK->Prop)(ta:TE):TE:=fun σ H Q=>ta σ H fun x H1=>r x H1 Q
def rI (C:Int->Int->Prop)(g:Int->Int->V):R2:=fun x y H Q=>∃i j,x=.int i/\y=.int j/\C i j/\Q (g i j) H
def rI0 (g:Int->Int->V):R2:=fun x y H Q=>∃i j,x=.int i/\y=.int j/\Q (g i j) H
def rU (g:Int->V):V->Hp->VK->Prop:=fun x H Q=>∃i,x=.int i/\Q (g i) H
theorem zji (ha:PE X a ta)(hb:PE X b tb){R:V->V->Hp->Prop}(I:Inv X pins σ H s)(h:ta σ H fun x H1=>tb σ H1 fun y H2=>R x y H2){f:Value->Value->Sem Value}(hf:∀v u s2 x y H2,Inv X pins σ H2 s2->RelV x v->RelV y u->R x y H2->wpAny (model X.prog X.w) X.A (f v u) Q X.xe s2) :
 wpAny (model X.prog X.w) X.A (eval a X.env) (fun v s₁=>wpAny (model X.prog X.w) X.A (eval b X.env) (fun u s₂=>wpAny (model X.prog X.w) X.A (f v u) Q X.xe s₂) X.xe s₁) X.xe s:=by
 refine thn (ha pins s σ H _ I h) fun v s1 ⟨x,H1,I1,r1,q1⟩=>?_;refine thn (hb pins s1 σ H1 _ I1 q1) fun u s2 ⟨y,H2,I2,r2,q2⟩=>?_;exact hf v u s2 x y H2 I2 r1 r2 q2
theorem zk (ho:OpR X (binaryOp op) r)(ha:PE X a ta)(hb:PE X b tb):PE X (.BinOp a op b pos) (tOp r ta tb):=by
 intro pins s σ H Q I h;exact wpAny_BinOp (zji ha hb I h fun v u s2 x y H2 I2 rx ry q=>ho pins s2 σ H2 x y v u Q I2 rx ry q)
theorem kT (ho:UnR X (unaryOp op) r)(ha:PE X a ta):PE X (.UnaryOp op a pos) (tUn r ta):=by
 intro pins s σ H Q I h;exact UnaryOp_ (thn (ha pins s σ H _ I h) fun v s1 ⟨x,H1,I1,r1,q1⟩=>ho pins s1 σ H1 x v Q I1 r1 q1)
theorem opI {g:Int->Int->Int}(rule:∀(i j:Int) (t u:Tok) (s:Shared) (Q:Value->Shared->Prop) (E:Value->Shared->Prop),C i j->Q (.int (g i j) s.toks) { s with toks:=s.toks+1 }->wpAny (model X.prog X.w) X.A (f (.int i t) (.int j u)) Q E s) :
 OpR X f (rI C fun i j=>.int (g i j)):=by
 intro pins s σ H x y v u Q I rx ry h;obtain⟨i,j,rfl,rfl,hc,q⟩:=h;obtain⟨t,rfl⟩:=rx;obtain⟨t',rfl⟩:=ry;exact rule i j t t' s _ _ hc ⟨.int (g i j),H,I.tok _,⟨_,rfl⟩,q⟩
theorem zjW {g:Int->Int->Int}(rule:∀(i j:Int) (t u:Tok) (s:Shared) (Q:Value->Shared->Prop) (E:Value->Shared->Prop),Q (.int (g i j) s.toks) { s with toks:=s.toks+1 }->wpAny (model X.prog X.w) X.A (f (.int i t) (.int j u)) Q E s) :
 OpR X f (rI0 fun i j=>.int (g i j)):=by
 intro pins s σ H x y v u Q I rx ry h;obtain⟨i,j,rfl,rfl,q⟩:=h;obtain⟨t,rfl⟩:=rx;obtain⟨t',rfl⟩:=ry;exact rule i j t t' s _ _ ⟨.int (g i j),H,I.tok _,⟨_,rfl⟩,q⟩
theorem zhg {g:Int->Int->Bool}(rule:∀(i j:Int) (t u:Tok) (s:Shared) (Q:Value->Shared->Prop) (E:Value->Shared->Prop),Q (.bool (g i j)) s->wpAny (model X.prog X.w) X.A (f (.int i t) (.int j u)) Q E s) :
 OpR X f (rI0 fun i j=>.bl (g i j)):=by
 intro pins s σ H x y v u Q I rx ry h;obtain⟨i,j,rfl,rfl,q⟩:=h;obtain⟨t,rfl⟩:=rx;obtain⟨t',rfl⟩:=ry;exact rule i j t t' s _ _ ⟨.bl (g i j),H,I,rfl,q⟩
def zk1 (i j:Int):Prop:=0<j/\j<1073741824
def zk0 (i j:Int):Prop:=0<=j/\j<=1000000/\i.natAbs<2^64
def CMul (i j:Int):Prop:=(-(2^64)<i/\i<2^64)∨(-(2^64)<j/\j<2^64)
theorem CMul.ok (h:CMul i j):IntMulOk i j:=by
 rcases h with⟨h1,h2⟩|⟨h1,h2⟩
 ·exact .of_left (intBits_le_64 h1 h2)
 ·exact .of_right (intBits_le_64 h1 h2)
theorem zM:OpR X (binaryOp .Add) (rI0 fun i j=>.int (i+j)):=zjW fun _ _ _ _ _ _ _ q=>add_int q
theorem qp:OpR X (binaryOp .Sub) (rI0 fun i j=>.int (i-j)):=zjW fun _ _ _ _ _ _ _ q=>sub_int q
theorem wg:OpR X (binaryOp .Mult) (rI CMul fun i j=>.int (i*j)):=opI fun _ _ _ _ _ _ _ hc q=>mul_int q hc.ok
theorem zbj:OpR X (binaryOp .FloorDiv) (rI zk1 fun i j=>.int (i/j)):=opI fun i j _ _ _ _ _ hc q=>by
 have h1:(0:Int)<j:=hc.1;have h2:j<1073741824:=hc.2;exact floordiv_int (by lia) (by rw[Int.fdiv_eq_ediv_of_nonneg i (by lia)];exact q) (.inl (PyProof.noPylong_small (by lia)))
theorem zS:OpR X (binaryOp .Mod) (rI (fun _ j=>0<j) fun i j=>.int (i%j)):=opI fun i j _ _ _ _ _ hc q=>by
 have h1:(0:Int)<j:=hc;exact mod_int' (by lia) (by rw[Int.fmod_eq_emod_of_nonneg i (by lia)];exact q)
theorem y4:OpR X (binaryOp .Pow) (rI zk0 fun i j=>.int (i^j.toNat)):=opI fun _ _ _ _ _ _ _ hc q=>pow_int_small hc.1 hc.2.1 hc.2.2 q
theorem unI {g:Int->Int}(rule:∀(i:Int) (t:Tok) (s:Shared) (Q:Value->Shared->Prop) (E:Value->Shared->Prop),Q (.int (g i) s.toks) { s with toks:=s.toks+1 }->wpAny (model X.prog X.w) X.A (f (.int i t)) Q E s) :
 UnR X f (rU fun i=>.int (g i)):=by
 intro pins s σ H x v Q I rx h;obtain⟨i,rfl,q⟩:=h;obtain⟨t,rfl⟩:=rx;exact rule i t s _ _ ⟨.int (g i),H,I.tok _,⟨_,rfl⟩,q⟩
theorem xU:UnR X (unaryOp .USub) (rU fun i=>.int (-i)):=unI fun _ _ _ _ _ q=>neg_int q
def zjI:V->V->Bool
 | .non,.non=>true | .non,.int _=>true | .int _,.non=>true | .non,.bl _=>true | .bl _,.non=>true | .non,.str _=>true | .str _,.non=>true
 | .int _,.int _=>true | .bl _,.bl _=>true | .str _,.str _=>true | .byt _,.byt _=>true
 | .int _,.str _=>true | .str _,.int _=>true | .bl _,.str _=>true | .str _,.bl _=>true
 |_,_=>false
def rEq:R2:=fun x y H Q=>zjI x y=true/\Q (.bl (decide (x=y))) H
def rNe:R2:=fun x y H Q=>zjI x y=true/\Q (.bl (!decide (x=y))) H
theorem zei:decide (V.int i=V.int j)=(i==j):=by
 rw[O8];simp
theorem zgy:decide (V.bl i=V.bl j)=(i==j):=by
 rw[O8];simp
theorem zeh:decide (V.str i=V.str j)=(i==j):=by
 rw[O8];simp
theorem zej:decide (V.byt i=V.byt j)=(i.toList==j.toList):=by
 rw[O8]
 cases i
 cases j;simp
theorem qd (I:Inv X pins σ H s)(q:Q (.bl k) H)(e:k=k'):EP X pins σ Q (.bool k') s:=by
 subst e;exact⟨.bl k,H,I,rfl,q⟩
theorem qU:OpR X (compareOp .Eq) rEq:=by
 intro pins s σ H x y v u Q I rx ry h;obtain⟨hs,q⟩:=h
 cases x with
 |non=>
  cases rx
  cases y with
  |non=>cases ry;exact PySem.EqNone.eq_none_none (qd I q (by simp))
  |bl j=>cases ry;exact PySem.EqNone.eq_none_bool (qd I q (by simp))
  |int j=>obtain⟨t',rfl⟩:=ry;exact PySem.EqNone.eq_none_int (qd I q (by simp))
  |str j=>obtain⟨t',rfl⟩:=ry;exact PySem.EqNone.eq_none_str (qd I q (by simp))
  |_=>exact absurd (show false=true from hs) UH
 |bl i=>
  cases rx
  cases y with
  |non=>cases ry;exact PySem.EqNone.eq_bool_none (qd I q (by simp))
  |bl j=>cases ry;exact eq_bool (qd I q zgy)
  |str j=>obtain⟨t',rfl⟩:=ry;exact PySem.EqMixed.eq_bool_str (qd I q (by simp))
  |_=>exact absurd (show false=true from hs) UH
 |int i=>
  obtain⟨t,rfl⟩:=rx
  cases y with
  |non=>cases ry;exact PySem.EqNone.eq_int_none (qd I q (by simp))
  |int j=>obtain⟨t',rfl⟩:=ry;exact eq_int (qd I q zei)
  |str j=>obtain⟨t',rfl⟩:=ry;exact PySem.EqMixed.eq_int_str (qd I q (by simp))
  |_=>exact absurd (show false=true from hs) UH
 |str i=>
  obtain⟨t,rfl⟩:=rx
  cases y with
  |non=>cases ry;exact PySem.EqNone.eq_str_none (qd I q (by simp))
  |bl j=>cases ry;exact PySem.EqMixed.eq_str_bool (qd I q (by simp))
  |int j=>obtain⟨t',rfl⟩:=ry;exact PySem.EqMixed.eq_str_int (qd I q (by simp))
  |str j=>obtain⟨t',rfl⟩:=ry;exact eq_str (qd I q zeh)
  |_=>exact absurd (show false=true from hs) UH
 |byt i=>
  obtain⟨t,rfl⟩:=rx
  cases y with
  |byt j=>obtain⟨t',rfl⟩:=ry;exact PySem.W.eq_bytes (qd I q zej)
  |_=>exact absurd (show false=true from hs) UH
 |_=>cases y<;>exact absurd (show false=true from hs) UH
theorem dz:OpR X (compareOp .NotEq) rNe:=by
 intro pins s σ H x y v u Q I rx ry h;obtain⟨hs,q⟩:=h
 cases x with
 |non=>
  cases rx
  cases y with
  |non=>cases ry;exact PySem.EqNone.ne_none_none (qd I q (by simp))
  |bl j=>cases ry;exact PySem.EqNone.ne_none_bool (qd I q (by simp))
  |int j=>obtain⟨t',rfl⟩:=ry;exact PySem.EqNone.ne_none_int (qd I q (by simp))
  |str j=>obtain⟨t',rfl⟩:=ry;exact PySem.EqNone.ne_none_str (qd I q (by simp))
  |_=>exact absurd (show false=true from hs) UH
 |bl i=>
  cases rx
  cases y with
  |non=>cases ry;exact PySem.EqNone.ne_bool_none (qd I q (by simp))
  |bl j=>cases ry;exact ne_bool (qd I q (O3 not zgy))
  |str j=>obtain⟨t',rfl⟩:=ry;exact PySem.EqMixed.ne_bool_str (qd I q (by simp))
  |_=>exact absurd (show false=true from hs) UH
 |int i=>
  obtain⟨t,rfl⟩:=rx
  cases y with
  |non=>cases ry;exact PySem.EqNone.ne_int_none (qd I q (by simp))
  |int j=>obtain⟨t',rfl⟩:=ry;exact ne_int (qd I q (O3 not zei))
  |str j=>obtain⟨t',rfl⟩:=ry;exact PySem.EqMixed.ne_int_str (qd I q (by simp))
  |_=>exact absurd (show false=true from hs) UH
 |str i=>
  obtain⟨t,rfl⟩:=rx
  cases y with
  |non=>cases ry;exact PySem.EqNone.ne_str_none (qd I q (by simp))
  |bl j=>cases ry;exact PySem.EqMixed.ne_str_bool (qd I q (by simp))
  |int j=>obtain⟨t',rfl⟩:=ry;exact PySem.EqMixed.ne_str_int (qd I q (by simp))
  |str j=>obtain⟨t',rfl⟩:=ry;exact ne_str (qd I q (O3 not zeh))
  |_=>exact absurd (show false=true from hs) UH
 |byt i=>
  obtain⟨t,rfl⟩:=rx
  cases y with
  |byt j=>obtain⟨t',rfl⟩:=ry;exact PySem.W.ne_bytes (qd I q (O3 not zej))
  |_=>exact absurd (show false=true from hs) UH
 |_=>cases y<;>exact absurd (show false=true from hs) UH
theorem fE:OpR X (compareOp .Lt) (rI0 fun i j=>.bl (decide (i<j))):=zhg fun _ _ _ _ _ _ _ q=>lt_int q
theorem wC:OpR X (compareOp .LtE) (rI0 fun i j=>.bl (decide (i<=j))):=zhg fun _ _ _ _ _ _ _ q=>le_int q
theorem zas:OpR X (compareOp .Gt) (rI0 fun i j=>.bl (decide (j<i))):=zhg fun _ _ _ _ _ _ _ q=>gt_int q
theorem zh1:OpR X (compareOp .GtE) (rI0 fun i j=>.bl (decide (j<=i))):=zhg fun _ _ _ _ _ _ _ q=>ge_int q
theorem zar:OpR X (compareOp .In) (fun x y H Q=>∃i j,x=.str i/\y=.str j/\Q (.bl (!(Builtin.Str.occurrences j i 0 j.length 1).isEmpty)) H):=by
 intro pins s σ H x y v u Q I rx ry h;obtain⟨i,j,rfl,rfl,q⟩:=h;obtain⟨t,rfl⟩:=rx;obtain⟨t',rfl⟩:=ry;exact in_str (qd I q rfl)
theorem zbi:OpR X (compareOp .Is) (fun x y H Q=>y=.non/\Q (.bl (decide (x=.non))) H):=by
 intro pins s σ H x y v u Q I rx ry h;obtain⟨rfl,q⟩:=h
 cases ry;refine is_none_gen (qd I q ?_)
 cases x<;>first
  |(cases rx;rfl)
  |(obtain⟨t,rfl⟩:=rx;rfl)
theorem zH (b:Expr)(h:op≠.In:=by decide)(h2:op≠.NotIn:=by decide):behindInMarks op b=false:=by
 have e1:(op==CmpOp.In)=false:=by cases op<;>first|rfl|exact absurd rfl h
 have e2:(op==CmpOp.NotIn)=false:=by cases op<;>first|rfl|exact absurd rfl h2
 cases b<;>simp[behindInMarks,e1,e2]
theorem yq (ho:OpR X (compareOp op) r)(ha:PE X a ta)(hb:PE X b tb)(hm:behindInMarks op b=false):PE X (.Compare a [op] [b] pos) (tOp r ta tb):=by
 intro pins s σ H Q I h;exact wpAny_Compare1 (zji ha hb I h fun v u s2 x y H2 I2 rx ry q=>ho pins s2 σ H2 x y v u Q I2 rx ry q) hm
def zfs (t:TE):TT:=fun σ H Q=>t σ H fun x H'=>∃k,x=.bl k/\Q k H'
theorem zw (ho:OpR X (compareOp op) r)(ha:PE X a ta)(hb:PE X b tb)(hm:behindInMarks op b=false):PT X (.Compare a [op] [b] pos) (zfs (tOp r ta tb)):=by
 intro pins s σ H Q I h
 refine wpAny_isTrue_Compare1 (thn (ha pins s σ H _ I h) fun v s1 ⟨x,H1,I1,r1,q1⟩=>thn (hb pins s1 σ H1 _ I1 q1) fun u s2 ⟨y,H2,I2,r2,q2⟩=>
  thn (ho pins s2 σ H2 x y v u _ I2 r1 r2 q2) fun c s3 ⟨z,H3,I3,r3,k,e,q3⟩=>?_) hm
 subst e
 cases r3;exact Ox ⟨H3,I3,q3⟩
def zft (r r':R2)(ta tb tc:TE):TE:=fun σ H Q=>ta σ H fun x H1=>tb σ H1 fun y H2=>r x y H2 fun z H3=>∃k,z=.bl k/\
 (if k=true then tc σ H3 fun w' H4=>r' y w' H4 Q else Q (.bl false) H3)
theorem zf1 (ho:OpR X (compareOp op) r)(ho':OpR X (compareOp op') r')(ha:PE X a ta)(hb:PE X b tb)(hc:PE X c tc)(hm:lastMarks [op,op'] [b,c]=false:=by with_unfolding_all rfl):PE X (.Compare a [op,op'] [b,c] pos) (zft r r' ta tb tc):=by
 intro pins s σ H Q I h
 refine Compare_chain (thn (ha pins s σ H _ I h) fun v s1 ⟨x,H1,I1,r1,q1⟩=>chain_link (thn (hb pins s1 σ H1 _ I1 q1) fun u s2 ⟨y,H2,I2,r2,q2⟩=>
  thn (ho pins s2 σ H2 x y v u _ I2 r1 r2 q2) fun d s3 ⟨z,H3,I3,r3,k,e,q3⟩=>?_)) hm
 subst e
 cases r3;refine Ox ?_
 cases k with
 |false=>exact ite_ff ⟨.bl false,H3,I3,rfl,q3⟩
 |true=>exact ite_tt (chain_last (thn (hc pins s3 σ H3 _ I3 q3) fun w' s4 ⟨z',H4,I4,r4,q4⟩=>ho' pins s4 σ H4 y z' u w' Q I4 r2 r4 q4))
theorem kO (ho:OpR X (compareOp op) r)(ho':OpR X (compareOp op') r')(ha:PE X a ta)(hb:PE X b tb)(hc:PE X c tc)(hm:lastMarks [op,op'] [b,c]=false:=by with_unfolding_all rfl):PT X (.Compare a [op,op'] [b,c] pos) (zfs (zft r r' ta tb tc)):=by
 intro pins s σ H Q I h
 refine isTrue_chain (thn (ha pins s σ H _ I h) fun v s1 ⟨x,H1,I1,r1,q1⟩=>test_link (thn (hb pins s1 σ H1 _ I1 q1) fun u s2 ⟨y,H2,I2,r2,q2⟩=>
  thn (ho pins s2 σ H2 x y v u _ I2 r1 r2 q2) fun d s3 ⟨z,H3,I3,r3,k,e,q3⟩=>?_)) hm
 subst e
 cases r3;refine Ox ?_
 cases k with
 |false=>
  obtain⟨k',e',q'⟩:=q3
  cases e';exact ite_ff ⟨H3,I3,q'⟩
 |true=>
  refine ite_tt (test_last (thn (hc pins s3 σ H3 _ I3 q3) fun w' s4 ⟨z',H4,I4,r4,q4⟩=>thn (ho' pins s4 σ H4 y z' u w' _ I4 r2 r4 q4) fun d' s5 ⟨z2,H5,I5,r5,k2,e2,q5⟩=>?_));subst e2
  cases r5;exact Ox ⟨H5,I5,q5⟩
def zkd (K:Frag)(x:V)(H:Hp)(k:Bool):Prop:=
 match x with
 | .non=>k=false
 | .bl b=>k=b
 | .int i=>k=(i != 0)
 | .str y=>y.length<=sizeLine/\k=((y.length:Int) != 0)
 | .byt y=>y.size<=sizeLine/\k=((y.size:Int) != 0)
 | .ref p=>(∃xs,SqL K H p xs/\k = !xs.isEmpty)∨(∃xs,SqT K H p xs/\k = !xs.isEmpty)∨∃kvs,H p=some (.dK kvs)/\k = !kvs.isEmpty
 |_=>False
theorem zds (r:KV kvs vs):(!vs.isEmpty) = !kvs.isEmpty:=by
 cases r<;>rfl
theorem dU (r:Vals xs its):(!its.toArray.isEmpty) = !xs.isEmpty:=by
 cases r<;>simp
theorem yc:(sizeLine:Nat)<2^63:=by rw[UV];decide
theorem zfr:zkX X (fun x H Q=>∃k,zkd X.K x H k/\Q k H):=by
 intro pins s σ H x v Q I rx h;obtain⟨k,e,q⟩:=h;have hl:=yc;have hs:sizeLine=16777216:=UV
 cases x with
 |non=>
  cases rx;have e':k=false:=e;subst e';exact truthy_none ⟨H,I,q⟩
 |bl b=>
  cases rx;have e':k=b:=e;subst e';exact Ox ⟨H,I,q⟩
 |int i=>
  obtain⟨t,rfl⟩:=rx;have e':k=(i != 0):=e;subst e';exact PySem.P.truthy_int ⟨H,I,q⟩
 |str y=>
  obtain⟨t,rfl⟩:=rx;obtain⟨hy,e'⟩:y.length<=sizeLine/\k=((y.length:Int) != 0):=e;subst e';exact PySem.P.truthy_str (by lia) ⟨H,I.tok _,q⟩
 |byt y=>
  obtain⟨t,rfl⟩:=rx;obtain⟨hy,e'⟩:y.size<=sizeLine/\k=((y.size:Int) != 0):=e;subst e';exact PySem.W.truthy_bytes (by lia) ⟨H,I.tok _,q⟩
 |ref p=>
  cases rx;have e':(∃xs,SqL X.K H p xs/\k = !xs.isEmpty)∨(∃xs,SqT X.K H p xs/\k = !xs.isEmpty)∨∃kvs,H p=some (.dK kvs)/\k = !kvs.isEmpty:=e;rcases e' with⟨xs,hx,e'⟩|⟨xs,hx,e'⟩|⟨kvs,hx,e'⟩
  ·subst e';obtain⟨its,r,pl,hz⟩:=I.list hx;have hlen:=r.length;exact wpAny_truthy_list pl.isList (by simp only[Ul];lia) ⟨H,I.tok _,by rw[dU r];exact q⟩
  ·subst e';obtain⟨its,r,pl,hz⟩:=I.tuple hx;have hlen:=r.length;exact truthy_tuple pl (by simp only[Ul];lia) ⟨H,I.tok _,by rw[dU r];exact q⟩
  ·subst e';obtain⟨hz,hS,vs,r,m⟩:kvs.length<=sizeLine/\(p==sysModules)=false/\∃vs,KV kvs vs/\s.heap.DictOf (qy X.prog X.w) p vs:=I.hok p _ hx;have hlen:kvs.length=vs.length:=Oa r;exact wpAny_truthy_dict hS m (by lia) ⟨H,I.tok _,by rw[zds r];exact q⟩
 |_=>exact(show False from e).elim
theorem zu:OpR X (binaryOp .Add) (fun x y H Q=>∃i j,x=.str i/\y=.str j/\i.length+j.length<=sizeLine/\Q (.str (i++j)) H):=by
 intro pins s σ H x y v u Q I rx ry h;obtain⟨i,j,rfl,rfl,hz,q⟩:=h;obtain⟨t,rfl⟩:=rx;obtain⟨t',rfl⟩:=ry;exact add_str (fun t' tk=>⟨.str (i++j),H,I.tok _,⟨_,rfl⟩,q⟩) hz
theorem vals1 (r:Vals [x] us):∃u,us=[u]/\RelV x u:=by
 cases r with
 |cons r1 r2=>cases r2;exact⟨_,rfl,r1⟩
theorem vals2 (r:Vals [x,y] us):∃u w',us=[u,w']/\RelV x u/\RelV y w':=by
 cases r with
 |cons r1 r2=>
  cases r2 with
  |cons r3 r4=>cases r4;exact⟨_,_,rfl,r1,r3⟩
theorem zcQ:jq X (.builtin "abs") (fun xs H Q=>∃i,xs=[.int i]/\Q (.int (if i<0 then -i else i)) H):=by
 intro pins s σ H xs us Q I r h;obtain⟨i,rfl,q⟩:=h;obtain⟨u,rfl,t,rfl⟩:=vals1 r;exact call_abs_int fun u tk=>⟨.int (if i<0 then -i else i),H,I.tok _,⟨_,rfl⟩,q⟩
theorem zaH (hc:X.calm=true):jq X (.builtin "max") (fun xs H Q=>∃i j,xs=[.int i,.int j]/\Q (.int (if j>i then j else i)) H):=by
 intro pins s σ H xs us Q I r h;obtain⟨i,j,rfl,q⟩:=h;obtain⟨u,w',rfl,⟨t,rfl⟩,⟨t',rfl⟩⟩:=vals2 r;refine max_two_ints (I.ok.hd hc) fun h' tk k=>⟨_,H,I.kept k,?_,q⟩
 by_cases hj:j>i
 ·rw[Uv hj,Uv hj];exact⟨_,rfl⟩
 ·rw[Ur hj,Ur hj];exact⟨_,rfl⟩
theorem zaG (hc:X.calm=true):jq X (.builtin "min") (fun xs H Q=>∃i j,xs=[.int i,.int j]/\Q (.int (if j<i then j else i)) H):=by
 intro pins s σ H xs us Q I r h;obtain⟨i,j,rfl,q⟩:=h;obtain⟨u,w',rfl,⟨t,rfl⟩,⟨t',rfl⟩⟩:=vals2 r;refine min_two_ints (I.ok.hd hc) fun h' tk k=>⟨_,H,I.kept k,?_,q⟩
 by_cases hj:j<i
 ·rw[Uv hj,Uv hj];exact⟨_,rfl⟩
 ·rw[Ur hj,Ur hj];exact⟨_,rfl⟩
theorem zN:jq X (.type "str") (fun xs H Q=>∃i,xs=[.int i]/\i.natAbs.log2<1920/\Q (.str (toString i)) H):=by
 intro pins s σ H xs us Q I r h;obtain⟨i,rfl,hz,q⟩:=h;obtain⟨u,rfl,t,rfl⟩:=vals1 r;exact PySem.P.str_of_int hz ⟨.str _,H,I.tok _,⟨_,rfl⟩,q⟩
structure ObjM (h:Heap)(x dx C:Addr)(mA:Str->Option Value):Prop where
 obj:h.get? x=some (instObj C dx)
 ns:h.Ns1 dx mA
 ne:dx≠x
theorem zeT (n:h.Ns1 dx mA):∃od,h.get? dx=some od/\∀name,lookIn name od=some (mA name):=by
 obtain⟨o,es,ep,ho,hd,hk,_,hm⟩:=n;refine⟨o,ho,fun name=>?_⟩;have e:=hm name;unfold nsFind findBy at e;rw[<-Array.find?_toList] at e;unfold lookIn;rw[hd];dsimp only;split
 ·rename_i y q;rw[q] at e;exact O3 some e
 ·rename_i q;rw[q] at e
  have a:es.toList.any (·.refKey)=false:=by
   rw[List.any_eq_false];intro y hy;obtain⟨z,t,hkey⟩:=hk y (RN.mp hy);simp[DictEntry.refKey,hkey]
  have a':¬es.toList.any (·.refKey)=true:=by rw[a];exact UH
  rw[Ur a'];exact O3 some e
theorem ObjM.look (I:ObjM h x dx C mA):∃od,InstAt h x (instObj C dx) C (some od)/\∀name,lookIn name od=some (mA name):=
 let ⟨od,ho,hl⟩:=zeT I.ns
 ⟨od,⟨I.obj,rfl,rfl,ho⟩,hl⟩
theorem get_map (X:K.In s.heap)(I:ObjM s.heap x dx C mA)(hg:plainGet K C name=true)(hh:hasDictIn K C=true)(ha:findIn K (.ref C) name=some none)(hv:mA name=some v)(hv':handedIn v=true)(h:Q v { s with toks:=s.toks+1 }) :
 wpAny (model prog w) A (getAttr (.ref x) name expr) Q E s:=by
 obtain⟨od,J,hl⟩:=I.look;exact PySem.W.get_value X J (NF hg).1 (PySem.W.findObj_own hh ha rfl (by rw[hl,hv])) hv' h
theorem zgo (X:K.In s.heap)(I:ObjM s.heap x dx C mA)(hg:plainGet K C name=true)(hf:findIn K (.ref C) name=some (some (.ref f)))(ht:isFn K (.ref f)=true)(hv:mA name=none)(h:Q (.ref f,[.ref x]) s) :
 wpAny (model prog w) A (getMethod (.ref x) name pl) Q E s:=by
 obtain⟨od,J,hl⟩:=I.look;exact PySem.W.method_fn X J (NF hg).1 (NF hg).2 hf (UN.mp ht) (by show(lookIn name od).map (·.isSome)=some false;rw[hl,hv];rfl) h
theorem zgV {ns:List Str}(X:K.In s.heap)(I:ObjM s.heap x dx C mA)(hs:findIn K (.ref C) "__setattr__"=some (some (.builtin "object.__setattr__")))(hp:plainOver K C=true)(ht:takerIn K C name=some none)(hh:hasDictIn K C=true)(hw:PySem.Within mA ns)(hsz:ns.length<=sizeLine)(h:∀h',ObjM h' x dx C (fun y=>if y=name then some v else mA y)->Heap.SameBut dx s.heap h'->Q () { s with heap:=h',toks:=s.toks+2 }) :
 wpAny (model prog w) A (setAttr (.ref x) name v) Q E s:=by
 obtain⟨od,J,hl⟩:=I.look;refine PySem.W.set_plain X J hs (PySem.W.osa_open (s:={ s with toks:=s.toks+1 }) (r:=none) X J hp ht fun b=>?_);obtain⟨cd,hc,hd'⟩:=PySem.W.any_some hh;have hx:s.heap.get? x=some ⟨.ref C,some dx,.plain,#[]⟩:=I.obj;refine Uc (Uj (Uc (Uc (wpAny_loadPart hx (Uc (PySem.W.Looks.here (s:={ s with toks:=s.toks+1 }) (PySem.W.looks_clsIn X hc) ?_))))));rw[hd'];refine Uj (a:=some dx) (Uc (Uj (Uc ?_)));refine wpAny_nsSet1 (s:={ s with toks:=s.toks+1 }) I.ns fun h' hn2 hs2=>?_;obtain⟨oD,esD,epD,hoD,hdD,hcD⟩:=hn2.count (PySem.Within.cons name v hw);refine Uc (wpAny_lookBehind hoD (by rw[hdD];exact pastItsLine_dict (UU hcD (by rw[Uk];lia))) ?_);exact Uj (h _ ⟨(hs2.2 _ (OO I.ne)).trans I.obj,hn2,I.ne⟩ hs2)
theorem zgd (X:K.In s.heap)(hm:makesIn K C=true)(hi:findIn K (.ref C) "__init__"=some (some (.ref f)))(hf:typeIn K (.ref f)=some (.type "function"))(h:codeAny (model prog w) (A.under (.builtin "type.__call__" ⟨.ref C::vs,kw⟩)) (.call (.ref f) ⟨.ref (s.heap.objs.size+1)::vs,kw⟩) (PySem.W.InitBack (s.heap.objs.size+1) R)
 { s with heap:=(s.heap.push emptyDict).push (instObj C s.heap.objs.size) }) :
 codeAny (model prog w) A (.call (.ref C) ⟨vs,kw⟩) R s:=by
 obtain⟨hh,g,d,t,os⟩:=s;exact PySem.W.make_core (PySem.W.makes_of X hm) (PySem.W.looks_findIn X hi) (fun self=>PySem.W.bind_fn X self hf) (.inl rfl) h
def yx (f:Str)(v:V):List (Str×V)->List (Str×V)
 |[]=>[(f,v)]
 |(g,x)::r=>if g=f then(g,v)::r else(g,x)::yx f v r
theorem fF (f g:Str)(v:V):∀fs:List (Str×V),(yx f v fs).lookup g=if g=f then some v else fs.lookup g
 |[]=>by
  show List.lookup g [(f,v)]=_
  by_cases h:g=f
  ·have hb:(g==f)=true:=UN.mpr h;simp only[List.lookup,hb,Uv h]
  ·have hb:(g==f)=false:=U4.mpr h;simp only[List.lookup,hb,Ur h]
 |(k,x)::r=>by
  have ih:=fF f g v r;rw[show yx f v ((k,x)::r)=(if k=f then(k,v)::r else(k,x)::yx f v r) from rfl]
  by_cases hk:k=f
  ·rw[Uv hk]
   by_cases h:g=k
   ·have hb:(g==k)=true:=UN.mpr h;simp only[List.lookup,hb,Uv (h.trans hk)]
   ·have hb:(g==k)=false:=U4.mpr h;simp only[List.lookup,hb,Ur (fun e:g=f=>h (e.trans hk.symm))]
  ·rw[Ur hk]
   by_cases h:g=k
   ·have hb:(g==k)=true:=UN.mpr h;simp only[List.lookup,hb,Ur (fun e:g=f=>hk (h.symm.trans e))]
   ·have hb:(g==k)=false:=U4.mpr h;simp only[List.lookup,hb];exact ih
theorem g7 (f:Str)(v:V):∀fs:List (Str×V),f∈(yx f v fs).map (·.1)/\∀g,g∈fs.map (·.1)->g∈(yx f v fs).map (·.1)
 |[]=>⟨by simp[yx],fun g h=>by simp at h⟩
 |(k,x)::r=>by
  obtain⟨i1,i2⟩:=g7 f v r;rw[show yx f v ((k,x)::r)=(if k=f then(k,v)::r else(k,x)::yx f v r) from rfl]
  by_cases hk:k=f
  ·rw[Uv hk];subst hk;exact⟨by simp,fun g h=>by simpa using h⟩
  ·rw[Ur hk];refine⟨?_,fun g h=>?_⟩
   ·rw[UL];exact Uh _ i1
   ·rw[UL] at h ⊢;rcases Uw.mp h with e|e
    ·exact Uw.mpr (.inl e)
    ·exact Uh _ (i2 g e)
theorem fG (f:Str)(v:V):∀fs:List (Str×V),(yx f v fs).length<=fs.length+1
 |[]=>by simp[yx]
 |(k,x)::r=>by
  have ih:=fG f v r;rw[show yx f v ((k,x)::r)=(if k=f then(k,v)::r else(k,x)::yx f v r) from rfl]
  by_cases hk:k=f
  ·rw[Uv hk,Uk,Uk];lia
  ·rw[Ur hk,Uk,Uk];lia
theorem RelO.some_of (r:RelO (some v) o):∃u,o=some u/\RelV v u:=by
 cases o with
 |none=>exact(show False from r).elim
 |some u=>exact⟨u,rfl,r⟩
theorem RelO.none_of (r:RelO none o):o=none:=by
 cases o with
 |none=>rfl
 |some u=>exact(show False from r).elim
theorem ze3 (r:RelV v u):handedIn u=true:=by
 cases v with
 |non=>cases(show u=Value.none from r);rfl
 |bl b=>cases(show u=Value.bool b from r);rfl
 |int i=>obtain⟨t,e⟩:=(show ∃t,u=Value.int i t from r);cases e;rfl
 |str x=>obtain⟨t,e⟩:=(show ∃t,u=Value.str x t from r);cases e;rfl
 |byt b=>obtain⟨t,e⟩:=(show ∃t,u=Value.bytes b t from r);cases e;rfl
 |tst x t=>cases(show u=Value.str x t from r);rfl
 |ref a=>cases(show u=Value.ref a from r);rfl
 |ty n=>cases(show u=Value.type n from r);rfl
theorem zbx (hok:HOk P w H h)(e:H a=some (.ins C dx fs)):∃mA,ObjM h a dx C mA/\(∀f,RelO (fs.lookup f) (mA f))/\PySem.Within mA (fs.map (·.1))/\fs.length<=1000/\H dx=some (.own a):=by
 obtain⟨d,z,ne,ob,mA,n,r,q⟩:=(show ObjOk P w H h a (.ins C dx fs) from hok a _ e);exact⟨mA,⟨ob,n,ne⟩,r,q,z,d⟩
structure Cls (K:Frag)(C:Addr):Prop where
 pg:plainGet K C Str.empty=true
 hd:hasDictIn K C=true
 po:plainOver K C=true
 sa:findIn K (.ref C) "__setattr__"=some (some (.builtin "object.__setattr__"))
theorem Cls.get (c:Cls K C)(f:Str):plainGet K C f=true:=c.pg
def NoAttr (K:Frag)(C:Addr)(f:Str):Prop:=findIn K (.ref C) f=some none
theorem NoAttr.taker (n:NoAttr K C f):takerIn K C f=some none:=by
 unfold takerIn;rw[show findIn K (.ref C) f=some none from n];rfl
structure zjp (K:Frag)(C:Addr)(m:Str)(f:Addr):Prop where
 at_:findIn K (.ref C) m=some (some (.ref f))
 fn:isFn K (.ref f)=true
 kp:keepIn K (.ref f)=true
theorem zdu (I:Inv X pins σ H s)(e:H a=some (.ins C dx fs))(c:Cls X.K C)(n:NoAttr X.K C f)(l:fs.lookup f=some v)(h:∀u s',Inv X pins σ H s'->RelV v u->Q u s'):wpAny (model X.prog X.w) A (getAttr (.ref a) f b) Q E s:=by
 obtain⟨mA,O,r,_,_,_⟩:=zbx I.hok e;obtain⟨u,hu,ru⟩:=RelO.some_of (v:=v) (o:=mA f) (by rw[<-l];exact r f);exact get_map I.kIn O (c.get f) c.hd n hu (ze3 ru) (h u _ (I.tok _) ru)
theorem zdt {g:Addr}(I:Inv X pins σ H s)(e:H a=some (.ins C dx fs))(c:Cls X.K C)(k:zjp X.K C m g)(l:fs.lookup m=none)(h:Q (.ref g,[.ref a]) s):wpAny (model X.prog X.w) A (getMethod (.ref a) m pl) Q E s:=by
 obtain⟨mA,O,r,_,_,_⟩:=zbx I.hok e;have hn:mA m=none:=RelO.none_of (by rw[<-l];exact r m);exact zgo I.kIn O (c.get m) k.at_ k.fn hn h
theorem zc7 (I:Inv X pins σ H s)(e:H a=some (.ins C dx fs))(c:Cls X.K C)(n:NoAttr X.K C f)(hl:fs.length<1000)(ry:RelV y u)(h:∀s',Inv X pins σ (upd H a (.ins C dx (yx f y fs))) s'->Q () s'):wpAny (model X.prog X.w) A (setAttr (.ref a) f u) Q E s:=by
 obtain⟨mA,O,r,wi,_,ho⟩:=zbx I.hok e;have hz:(fs.map (·.1)).length<=sizeLine:=by rw[Ud,UV];lia
 refine zgV I.kIn O c.sa c.po n.taker c.hd wi hz fun h' O' sb=>h _ ?_;have hd:∃o,h'.get? dx=some o:=let ⟨o,_,_,e',_⟩:=O'.ns;⟨o,e'⟩;refine I.write (x:=a) (e:=dx) (by rw[e];exact True.intro) (.inr ho) (fun b q hb z=>(sb.2 b hb).trans z) hd ?_;refine⟨by rw[zi O.ne];exact ho,?_,O.ne,O'.obj,_,O'.ns,fun g=>?_,fun g hg=>?_⟩
 ·have:=fG f y fs;lia
 ·show RelO ((yx f y fs).lookup g) (if g=f then some u else mA g);rw[fF]
  by_cases q:g=f
  ·rw[Uv q,Uv q];exact ry
  ·rw[Ur q,Ur q];exact r g
 ·by_cases q:g=f
  ·rw[q];exact(g7 f y fs).1
  ·refine(g7 f y fs).2 g (wi g fun z=>hg ?_);show(if g=f then some u else mA g)=none;rw[Ur q];exact z
theorem Inv.made (I:Inv X pins σ H s):Inv X pins σ (upd (upd H s.heap.objs.size (.own (s.heap.objs.size+1))) (s.heap.objs.size+1) (.ins C s.heap.objs.size []))
 { s with heap:=(s.heap.push emptyDict).push (instObj C s.heap.objs.size) }:=by
 have e1:(s.heap.push emptyDict).get? s.heap.objs.size=some emptyDict:=UC s.heap rfl
 have e2:((s.heap.push emptyDict).push (instObj C s.heap.objs.size)).get? (s.heap.objs.size+1)=some (instObj C s.heap.objs.size):=by
  have:=UC (s.heap.push emptyDict) (o:=instObj C s.heap.objs.size) rfl
  rwa [Nf] at this
 have e3:(s.heap.push emptyDict).Ns s.heap.objs.size (fun _=>none):=⟨emptyDict,#[],_,e1,rfl,(fun e he=>absurd he (by simp)),fun _=>rfl⟩;have I1:=I.laid (a:=s.heap.objs.size) (o:=.own (s.heap.objs.size+1)) (h':=s.heap.push emptyDict) (t':=s.toks) (fun b u q=>Ui _ q) (Ub _) ⟨_,e1⟩;refine I1.laid (a:=s.heap.objs.size+1) (o:=.ins C s.heap.objs.size []) (t':=s.toks) (fun b u q=>Ui _ q) (Tx (Nf _ _)) ?_;have ne:s.heap.objs.size≠s.heap.objs.size+1:=UO (Rr _);refine⟨by rw[zi ne,zd],UI _,ne,e2,fun _=>none,(Heap.Ns1.of_empty e3).at fun o q=>Ui _ q,fun _=>True.intro,fun y hy=>absurd rfl hy⟩
theorem zhJ (hb:attributeBase e f env (eval e env)=eval e env)(h:wpAny (model prog w) A (eval e env) (fun o s₁=>wpAny (model prog w) A (getAttr o f true) Q E s₁) E s):wpAny (model prog w) A (eval (.Attribute e f pos) env) Q E s:=
 Attribute_any_ h (by rw[arm_eval_Attribute,hb])
def zkq (K:Frag)(ta:TE)(f:Str):TE:=fun σ H Q=>ta σ H fun x H1=>∃a C dx fs v,x=.ref a/\H1 a=some (.ins C dx fs)/\Cls K C/\NoAttr K C f/\fs.lookup f=some v/\Q v H1
def zkv (K:Frag)(ta tv:TE)(f:Str):TS:=fun D σ H=>tv σ H fun y H1=>ta σ H1 fun x H2=>∃a C dx fs,x=.ref a/\H2 a=some (.ins C dx fs)/\Cls K C/\NoAttr K C f/\fs.length<1000/\
 D.nx σ (upd H2 a (.ins C dx (yx f y fs)))
theorem zbe (he:PE X e ta)(hb:attributeBase e f X.env (eval e X.env)=eval e X.env):PE X (.Attribute e f pos) (zkq X.K ta f):=by
 intro pins s σ H Q I h;refine zhJ hb (thn (he pins s σ H _ I h) fun u s1 ⟨x,H1,I1,rx,a,C,dx,fs,v,ex,ea,c,n,l,q⟩=>?_);subst ex;obtain rfl:u=Value.ref a:=rx;exact zdu I1 ea c n l fun u' s2 I2 ru=>⟨v,H1,I2,ru,q⟩
theorem ziG (ha:PE X o ta)(hv:PE X value tv)(hs:swapsWith value (some (.Attribute o f pos')) pos.line X.env=pure false):PS X (.Assign [.Attribute o f pos'] value pos) (zkv X.K ta tv f):=by
 intro pins s σ H D I h;refine plainObj_wpAny_Assign_Attribute (thn (hv pins s σ H _ I h) fun u s1 ⟨y,H1,I1,ry,q⟩=>thn (ha pins s1 σ H1 _ I1 q) fun ov s2 ⟨x,H2,I2,rx,a,C,dx,fs,ex,ea,c,n,l,q2⟩=>?_) hs;subst ex;obtain rfl:ov=Value.ref a:=rx;exact zc7 I2 ea c n l ry fun s3 I3=>⟨σ,_,I3,q2⟩
structure Room (k:Nat)(A:Around):Prop where
 hd:A.handled=none
 dp:A.depth+3*k+5<recursionLimit
 un:A.units+16*k+200<cLine
theorem Room.mono (r:Room k A)(h:j<=k):Room j A:=⟨r.hd,by have:=r.dp;lia,by have:=r.un;lia⟩
theorem Room.deeper (r:Room (k+1) A)(env:Env):Room k (A.deeper env):=
 ⟨r.hd,by have:=r.dp;show A.depth+1+3*k+5<_;lia,by have:=r.un;show A.units+3+16*k+200<_;lia⟩
theorem Room.in1 (r:Room (k+1) A):Room k A.in1:=
 ⟨r.hd,by have:=r.dp;show A.depth+3*k+5<_;lia,by have:=r.un;show A.units+1+16*k+200<_;lia⟩
theorem zdn:(A.under (.builtin "type.__call__" ⟨.ref C::us,kw⟩)).depth=A.depth+1:=by
 first|rfl|simp[Around.under,Code.weight,Code.isCreation,Code.isGuard,Code.isCaller,Code.frames,Code.isFrame,guardIds]
theorem zdm:(A.under (.builtin "type.__call__" ⟨.ref C::us,kw⟩)).units=A.units+1:=by
 first|rfl|simp[Around.under,Code.cUnits,Code.frames,Code.isFrame]
theorem Room.make (r:Room (k+1) A)(C:Addr)(us:List Value)(kw:List (Str×Value)):Room k (A.under (.builtin "type.__call__" ⟨.ref C::us,kw⟩)):=
 ⟨r.hd,by have:=r.dp;rw[zdn];lia,by have:=r.un;rw[zdm];lia⟩
theorem Room.depth (r:Room k A):A.depth<recursionLimit:=by have:=r.dp;lia
theorem Room.units (r:Room k A):A.units+64<cLine:=by have:=r.un;lia
theorem Room.units0 (r:Room k A):A.units<cLine:=by have:=r.un;lia
def zes:TA:=fun _ H Q=>Q [] H
def zbX (ta:TE)(tr:TA):TA:=fun σ H Q=>ta σ H fun x H1=>tr σ H1 fun xs H2=>Q (x::xs) H2
theorem zc:PA X [] zes:=fun _ _ _ _ H Q I h=>Calls.spliced_nil ⟨[],H,I,.nil,h⟩
theorem zb (ha:PE X e te)(hr:PA X es t)(hs:starEach (e::es) X.env=(false,eval e X.env)::starEach es X.env:=by rfl):PA X (e::es) (zbX te t):=by
 intro pos pins s σ H Q I h;rw[hs];show wpAny _ _ (spliced ((false,eval e X.env)::backTo pos (starEach es X.env))) _ _ s;refine Calls.spliced_cons (thn (ha pins s σ H _ I h) fun u s1 ⟨x,H1,I1,r1,q1⟩=>?_);exact thn (hr pos pins s1 σ H1 _ I1 q1) fun us s2 ⟨xs,H2,I2,r2,q2⟩=>⟨x::xs,H2,I2,.cons r1 r2,q2⟩
def zjt (t:TA):TE:=fun σ H Q=>t σ H fun xs H1=>xs.length<=sizeLine/\∀p,H1 p=none->Q (.ref p) (upd H1 p (.tup xs))
def zkn (t:TA):TE:=fun σ H Q=>t σ H fun xs H1=>xs.length<=sizeLine/\∀p,H1 p=none->Q (.ref p) (upd H1 p (.lst xs))
theorem qu {es:List Expr}{t:TA}{x1}(h:PA X es t):PE X (.Tuple es x1 pos) (zjt t):=by
 intro pins s σ H Q I hq;refine wpAny_Tuple_spliced (thn (h pos pins s σ H _ I hq) fun us s1 ⟨xs,H1,I1,r,z,q⟩=>⟨by rw[<-r.length];exact z,?_⟩);have hf:H1 s1.heap.objs.size=none:=I1.hok.fresh (Ub _);refine⟨.ref s1.heap.objs.size,upd H1 s1.heap.objs.size (.tup xs),I1.laid (t':=s1.toks) (fun b u e=>Ui _ e) (Ub _) ?_,rfl,q _ hf⟩;exact⟨z,us,r,⟨_,UC _ rfl,rfl,_,rfl⟩⟩
theorem zR (h:PA X es t):PE X (.List es pos) (zkn t):=by
 intro pins s σ H Q I hq;refine wpAny_List_spliced (thn (h pos pins s σ H _ I hq) fun us s1 ⟨xs,H1,I1,r,z,q⟩=>⟨by rw[<-r.length];exact z,?_⟩);have hf:H1 s1.heap.objs.size=none:=I1.hok.fresh (Ub _);refine⟨.ref s1.heap.objs.size,upd H1 s1.heap.objs.size (.lst xs),I1.laid (t':=s1.toks) (fun b u e=>Ui _ e) (Ub _) ?_,rfl,q _ hf⟩;exact⟨z,us,0,r,UC _ rfl⟩
abbrev Sp:=List V->Hp->VK->XK->Prop
variable {sp:Sp}
abbrev CXT:=List Env->Hp->Shared->XK->Value->Shared->Prop
structure Env0 (P:Program)(w:World)(K:Frag)(mg:Str->Option Value)(base:Heap)(A:Around)(outer:List Env)(s:Shared)(H:Hp):Prop where
 frames:A.frames=some outer
 mod:Mod K mg base
 bs:∀b o,base.get? b=some o->s.heap.get? b=some o/\H b=none
 bsz:base.objs.size<=s.heap.objs.size
 funs:s.heap.FunFrames base outer
 frf:∀b∈frs outer,H b=none
 hok:HOk P w H s.heap
 bare:AllBare s.gens
def CE (outer:List Env)(P:Program)(w:World)(H:Hp)(s:Shared)(Q:VK)(u:Value)(s':Shared):Prop:=
 ∃v H',s'.os=s.os/\AllBare s'.gens/\Un (frs outer) [] H H' s.heap s'.heap/\HOk P w H' s'.heap/\RelV v u/\Q v H'
def CR (CX:CXT)(outer:List Env)(P:Program)(w:World)(H:Hp)(s:Shared)(Q:VK)(E:XK)(r:Result)(s':Shared):Prop:=
 match r with
 | .ok (.ret u)=>CE outer P w H s Q u s'
 | .ok _=>False
 | .error e=>CX outer H s E e s'
structure FnOk (P:Program)(w:World)(K:Frag)(mg:Str->Option Value)(base:Heap)(CX:CXT)(k:Nat)(f:Addr)(fd:FuncData)(ps:List Str)(sp:Sp):Prop where
 len:∀vs H Q E,sp vs H Q E->vs.length=ps.length
 run:∀(A:Around) (outer:List Env) (s:Shared) (H:Hp) (args:Args) (us:List Value) (vs:List V) (Q:VK) (E:XK),Room k A->Env0 P w K mg base A outer s H->BindsTo s fd args (ps.zip us)->Vals vs us->sp vs H Q E->
  codeAny (model P w) A (.call (.ref f) args) (CR CX outer P w H s Q E) s
theorem FnOk.mono (F:FnOk P w K mg base CX j f fd ps sp)(h:j<=k) :
 FnOk P w K mg base CX k f fd ps sp:=⟨F.len,fun A outer s H args us vs Q E hr=>F.run A outer s H args us vs Q E (hr.mono h)⟩
theorem Env0.make (e:Env0 P w K mg base A outer s H)(C:Addr)(us:List Value)(kw:List (Str×Value)) :
 Env0 P w K mg base (A.under (.builtin "type.__call__" ⟨.ref C::us,kw⟩)) outer s H:=⟨by first|exact e.frames|(simpa[Around.under,Code.envs,Code.isFrame,pushEnvs] using e.frames),e.mod,e.bs,e.bsz,e.funs,e.frf,e.hok,e.bare⟩
theorem Env0.in1 (e:Env0 P w K mg base A outer s H) :
 Env0 P w K mg base A.in1 outer s H:=⟨e.frames,e.mod,e.bs,e.bsz,e.funs,e.frf,e.hok,e.bare⟩
theorem Inv.env0 (I:Inv X pins σ H s):Env0 X.prog X.w X.K X.mg X.base X.A X.stack s H:=
 ⟨I.ok.frames,I.ok.mod,I.bs,UU I.ok.bsz I.sz,I.stack,I.stkFree,I.hok,I.bare⟩
theorem Inv.after (I:Inv X pins σ H s)(h:CE X.stack X.prog X.w H s Q u s'):EP X pins σ Q u s':=by
 obtain⟨v,H',os,bare,un,hok,r,q⟩:=h;obtain⟨hh,g,d,t,os'⟩:=s';obtain rfl:os'=s.os:=os;exact⟨v,H',I.call (h':=hh) (g':=g) (d':=d) (t':=t) (ch:=[]) un hok bare (fun b z=>absurd z (by simp)),r,q⟩
def zhR (sp:Sp)(dvs:List V)(E:XK)(t:TA):TE:=fun σ H Q=>t σ H fun vs H1=>sp (vs++dvs) H1 Q E
def zjx (C:Addr)(m:Str)(sp:Sp)(dvs:List V)(E:XK)(ta:TE)(t:TA):TE:=fun σ H Q=>ta σ H fun x H1=>∃a dx fs,x=.ref a/\H1 a=some (.ins C dx fs)/\fs.lookup m=none/\
 t σ H1 fun vs H2=>sp (x::(vs++dvs)) H2 Q E
def zjy (C:Addr)(sp:Sp)(dvs:List V)(E:XK)(t:TA):TE:=fun σ H Q=>t σ H fun vs H1=>∀x dx,H1 x=none->H1 dx=none->dx≠x->
 sp (.ref x::(vs++dvs)) (upd (upd H1 dx (.own x)) x (.ins C dx [])) (fun v H2=>v=.non/\Q (.ref x) H2) E
def Binds (K:Frag)(fd:FuncData)(ps:List Str)(ds:List Value):Prop:=
 ∀(s:Shared) (us:List Value),K.In s.heap->(us++ds).length=ps.length->BindsTo s fd ⟨us,[]⟩ (ps.zip (us++ds))
theorem Binds.all (h:∀us:List Value,us.length=ps.length->bindArgs fd ⟨us,[]⟩=pure (ps.zip us)):Binds K fd ps []:=fun s us _ hl=>by
 rw[Ol] at hl ⊢;exact .of_eq (h us hl)
def ki (CX:CXT)(X:Cx)(E:XK):Prop:=∀(pins:List (Addr×Obj)) (σ:St) (H:Hp) (s:Shared) (e:Value) (s':Shared),Inv X pins σ H s->CX X.stack H s E e s'->X.xe e s'
theorem za6 {E:XK}(F:FnOk X.prog X.w X.K X.mg X.base CX k f fd ps sp)(hr:Room k X.A)(hb:Binds X.K fd ps ds)(hd:Vals dvs ds)(hx:ki CX X E)(I:Inv X pins σ H s)(r:Vals vs us)(h:sp (vs++dvs) H Q E):wpAny (model X.prog X.w) X.A (call (.ref f) us) (EP X pins σ Q) X.xe s:=by
 have r2:Vals (vs++dvs) (us++ds):=r.append hd;have hl:(us++ds).length=ps.length:=by rw[<-r2.length];exact F.len _ _ _ _ h
 refine wpAny_call (RO (F.run X.A X.stack s H ⟨us,[]⟩ (us++ds) (vs++dvs) Q E hr I.env0 (hb s us I.kIn hl) r2 h) fun r s' hq=>?_)
 cases r with
 |error e=>exact hx pins σ H s e s' I hq
 |ok fl=>
  cases fl with
  |ret u=>exact I.after hq
  |next=>exact False.elim hq
  |brk=>exact False.elim hq
  |cont=>exact False.elim hq
theorem zl {E:XK}(F:FnOk X.prog X.w X.K X.mg X.base CX k f fd ps sp)(hr:Room k X.A)(hg:Gl X x)(hm:X.mg x=some (.ref f))(hk:keepIn X.K (.ref f)=true)(hb:Binds X.K fd ps ds)(hd:Vals dvs ds)(hx:ki CX X E)(ha:PA X (e::es) t)(hdb:(x==("__debug__":Str))=false:=by decide)(he:starEach (e::es) X.env=(false,eval e X.env)::starEach es X.env:=by rfl)(hpl:(backTo pos (starEach es X.env)).any (·.1)=false:=by rfl) :
 PE X (.Call (.Name x p) (e::es) [] pos) (zhR sp dvs E t):=by
 intro pins s σ H Q I h;refine O6 (zbv I hg hm ?_ hdb);refine NK (h₀:=X.base) I.ok.mod.kin hk (thn (ha pos pins s σ H _ I h) fun us s1 ⟨vs,H1,I1,r,q⟩=>⟨I1.kIn,?_⟩) he hpl;exact za6 F hr hb hd hx I1 r q
theorem jV {E:XK}(he:PE X o ta)(c:Cls X.K C)(hm:zjp X.K C m f)(F:FnOk X.prog X.w X.K X.mg X.base CX k f fd ps sp)(hr:Room k X.A)(hb:Binds X.K fd ps ds)(hd:Vals dvs ds)(hx:ki CX X E)(ha:PA X (e::es) t)(hst:starEach (e::es) X.env=(false,eval e X.env)::starEach es X.env:=by rfl)(hpl:(backTo pos (starEach es X.env)).any (·.1)=false:=by rfl)(ht:eval (.Call (.Attribute o m apos) (e::es) [] pos) X.env=(do
 let ov <-eval o X.env
 standAt apos.atName
 let (f,first) <-holding [ov] (getMethod ov m pl)
 callWith pos f first (backTo pos (starEach (e::es) X.env)) (backToKw pos (keywordEach [] X.env))):=by rfl) :
 PE X (.Call (.Attribute o m apos) (e::es) [] pos) (zjx C m sp dvs E ta t):=by
 intro pins s σ H Q I h;refine PySem.W.methodCall_KW (pl:=pl) (thn (he pins s σ H _ I h) fun u s1 ⟨x,H1,I1,rx,a,dx,fs,ex,ea,l,q⟩=>?_) ht;subst ex;obtain rfl:u=Value.ref a:=rx;refine zdt I1 ea c hm l ?_;refine NK (first:=[.ref a]) (h₀:=X.base) I.ok.mod.kin hm.kp (thn (ha pos pins s1 σ H1 _ I1 q) fun us s2 ⟨vs,H2,I2,r,q2⟩=>⟨I2.kIn,?_⟩) hst hpl;exact za6 (us:=.ref a::us) (vs:=.ref a::vs) F hr hb hd hx I2 (.cons rfl r) q2
structure Mk (K:Frag)(C f:Addr):Prop where
 makes:makesIn K C=true
 init:findIn K (.ref C) "__init__"=some (some (.ref f))
 fn:isFn K (.ref f)=true
 kp:keepIn K (.ref C)=true
theorem zfM {E:XK}(M:Mk X.K C f)(F:FnOk X.prog X.w X.K X.mg X.base CX k f fd ps sp)(hr:Room (k+1) X.A)(hb:Binds X.K fd ps ds)(hd:Vals dvs ds)(hx:ki CX X E)(I:Inv X pins σ H s)(r:Vals vs us)(h:∀x dx,H x=none->H dx=none->dx≠x->sp (.ref x::(vs++dvs)) (upd (upd H dx (.own x)) x (.ins C dx [])) (fun v H2=>v=.non/\Q (.ref x) H2) E) :
 wpAny (model X.prog X.w) X.A (call (.ref C) us) (EP X pins σ Q) X.xe s:=by
 have hq:=h (s.heap.objs.size+1) s.heap.objs.size (I.hok.fresh (R3 _)) (I.hok.fresh (Ub _)) (UO (Rr _));have I2:=Inv.made (C:=C) I;have r2:Vals (V.ref (s.heap.objs.size+1)::(vs++dvs)) (Value.ref (s.heap.objs.size+1)::(us++ds)):=.cons rfl (r.append hd)
 have hl:(Value.ref (s.heap.objs.size+1)::us++ds).length=ps.length:=by
  have e:=r2.length;rw[F.len _ _ _ _ hq] at e;exact e.symm
 refine wpAny_call (zgd (f:=f) I.kIn M.makes M.init (UN.mp M.fn) (RO (F.run _ X.stack _ _ ⟨Value.ref (s.heap.objs.size+1)::us,[]⟩ (Value.ref (s.heap.objs.size+1)::(us++ds)) _ _ E (hr.make C us [])
  (I2.env0.make C us []) (hb _ (Value.ref (s.heap.objs.size+1)::us) I2.kIn hl) r2 hq) fun r s' hq'=>?_))
 cases r with
 |error e=>exact hx pins σ _ _ e s' I2 hq'
 |ok fl=>
  cases fl with
  |ret u=>
   obtain⟨v,H',I3,rv,ev,q3⟩:=I2.after hq';subst ev;exact⟨rv,⟨V.ref (s.heap.objs.size+1),H',I3,rfl,q3⟩⟩
  |next=>exact False.elim hq'
  |brk=>exact False.elim hq'
  |cont=>exact False.elim hq'
theorem zfZ {E:XK}(M:Mk X.K C f)(F:FnOk X.prog X.w X.K X.mg X.base CX k f fd ps sp)(hr:Room (k+1) X.A)(hg:Gl X x)(hm:X.mg x=some (.ref C))(hb:Binds X.K fd ps ds)(hd:Vals dvs ds)(hx:ki CX X E)(hdb:(x==("__debug__":Str))=false:=by decide):PE X (.Call (.Name x p) [] [] pos) (zjy C sp dvs E zes):=by
 intro pins s σ H Q I h;refine O6 (zbv I hg hm ?_ hdb);exact PySem.W.callWith_K0 I.kIn M.kp (zfM (us:=[]) M F hr hb hd hx I .nil h)
def PK (X:Cx)(kws:List Keyword)(t:TA):Prop:=
 ∀(pos:Pos) (pins:List (Addr×Obj)) (s:Shared) (σ:St) (H:Hp) (Q:List V->Hp->Prop),Inv X pins σ H s->t σ H Q->wpAny (model X.prog X.w) X.A (evalAll ((backToKw pos (keywordEach kws X.env)).map (·.2))) (AP X pins σ Q) X.xe s
theorem dj:PK X [] zes:=fun _ _ _ _ H Q I h=>wpAny_evalAll_nil ⟨[],H,I,.nil,h⟩
theorem xn (ha:PE X e te)(hr:PK X kws t):PK X (⟨nm,e,kpos⟩::kws) (zbX te t):=by
 intro pos pins s σ H Q I h;show wpAny _ _ (evalAll ((do let v <-eval e X.env;standAt pos;pure v)::(backToKw pos (keywordEach kws X.env)).map (·.2))) _ _ s;refine wpAny_evalAll_cons (Uc (thn (ha pins s σ H _ I h) fun u s1 ⟨x,H1,I1,r1,q1⟩=>Uc (R8 (Uj ?_))));exact thn (hr pos pins s1 σ H1 _ I1 q1) fun us s2 ⟨xs,H2,I2,r2,q2⟩=>⟨x::xs,H2,I2,.cons r1 r2,q2⟩
structure zt (N P:List Str)(sc:Scope):Prop where
 kind:sc.kind=.function
 co:sc.isCoroutine=false
 gen:sc.isGenerator=false
 nd:N.Nodup
 pre:N.take P.length=P
 par:∀x∈P,sc.names.lookup x=some .local∨sc.names.lookup x=some .cell
 nofree:∀y∈sc.names,y.2≠.free
theorem zaI {kindOf:Str->Option NameKind}:∀{binds:List (Str×Value)}{m:Str->Option Value},(∀v,(x,v)∉binds)->bindL kindOf binds m x=m x
 |[],_,_=>rfl
 |(n,v)::r,m,h=>by
  unfold bindL;rw[zaI fun w hw=>h w (Uh _ hw)];split
  ·have:x≠n:=by rintro rfl;exact h v Ug
   simp[this]
  ·rfl
theorem zaK {kindOf:Str->Option NameKind}:∀{binds:List (Str×Value)}{m:Str->Option Value},(∀v,(x,v)∉binds)->bindC kindOf binds m x=m x
 |[],_,_=>rfl
 |(n,v)::r,m,h=>by
  unfold bindC;rw[zaK fun w hw=>h w (Uh _ hw)];split
  ·rfl
  ·have:x≠n:=by rintro rfl;exact h v Ug
   simp[this]
theorem zaJ {kindOf:Str->Option NameKind}:∀{P:List Str}{vs:List Value}{i:Nat}{m:Str->Option Value},P.Nodup->P[i]?=some x->vs[i]?=some v->kindOf x=some .local->
 bindL kindOf (P.zip vs) m x=some v
 |[],_,_,_,_,h,_,_=>by simp at h
 |_::_,[],_,_,_,_,h,_=>by simp at h
 |p::P,w::vs,0,m,nd,h1,h2,hk=>by
  simp at h1 h2;subst h1;subst h2;show bindL kindOf ((p,w)::P.zip vs) m p=_;unfold bindL;rw[zaI fun v hv=>(OP.mp nd).1 (RU hv).1,Uv hk];simp
 |p::P,w::vs,i+1,m,nd,h1,h2,hk=>by
  show bindL kindOf ((p,w)::P.zip vs) m x=_;unfold bindL;exact zaJ (i:=i) (OP.mp nd).2 (by simpa using h1) (by simpa using h2) hk
theorem zaL {kindOf:Str->Option NameKind}:∀{P:List Str}{vs:List Value}{i:Nat}{m:Str->Option Value},P.Nodup->P[i]?=some x->vs[i]?=some v->kindOf x≠some .local->
 bindC kindOf (P.zip vs) m x=some v
 |[],_,_,_,_,h,_,_=>by simp at h
 |_::_,[],_,_,_,_,h,_=>by simp at h
 |p::P,w::vs,0,m,nd,h1,h2,hk=>by
  simp at h1 h2;subst h1;subst h2;show bindC kindOf ((p,w)::P.zip vs) m p=_;unfold bindC;rw[zaK fun v hv=>(OP.mp nd).1 (RU hv).1,Ur hk];simp
 |p::P,w::vs,i+1,m,nd,h1,h2,hk=>by
  show bindC kindOf ((p,w)::P.zip vs) m x=_;unfold bindC;exact zaL (i:=i) (OP.mp nd).2 (by simpa using h1) (by simpa using h2) hk
def start (N:List Str)(vs:List V):St:=vs.map some++List.replicate (N.length-vs.length) none
def zbC (CX:CXT)(P:Program)(w:World)(K:Frag)(mg:Str->Option Value)(base:Heap)(N:List Str)(qual:Str)(scope:Scope)(f:Addr)(cd:Value)(A:Around)(outer:List Env)(s:Shared)(H:Hp)(E:XK):Cx where
 prog:=P
 w:=w
 K:=K
 mg:=mg
 base:=base
 A:=A.deeper (envOfC qual scope s.heap.objs.size f cd)
 N:=N
 s₀:=s
 H₀:=H
 env:=envOfC qual scope s.heap.objs.size f cd
 outer:=outer
 stack:=envOfC qual scope s.heap.objs.size f cd::outer
 ex:=[]
 calm:=true
 fn:=fun _=>true
 pn:=[]
 xe:=fun e s'=>wpAny (model P w) (A.deeper (envOfC qual scope s.heap.objs.size f cd)) (leaving (envOfC qual scope s.heap.objs.size f cd) e) (fun _ s''=>CX outer H s E e s'') (fun e' s''=>CX outer H s E e' s'') s'
theorem pz {sc:Scope}(h:sc.names.lookup x=some .cell):∃c,(cellsFrom n sc.names []).lookup x=some c:=by
 have q:=Ng sc.names n [] (.inl h);exact Option.isSome_iff_exists.mp q
theorem zaz {E:XK}(S:zt N ps scope)(hd:A.handled=none)(e0:Env0 P w K mg base A outer s H)(hl:vs.length=ps.length)(r:Vals vs us)(x:InCallC s s.heap.objs.size (bindL (envOfC qual scope s.heap.objs.size f cd).kindOf (ps.zip us) fun _=>none) (cellsFrom (s.heap.objs.size+1) scope.names []) (bindC (envOfC qual scope s.heap.objs.size f cd).kindOf (ps.zip us) fun _=>none) s1) :
 Inv (zbC CX P w K mg base N qual scope f cd A outer s H E) [] (start N vs) H s1:=by
 have hpl:ps.length<=N.length:=by have:=O3 List.length S.pre;rw[UA] at this;lia
 obtain⟨h1,tk,rfl,hk⟩:=x.done;have noA:∀b:Addr,b∉(zbC CX P w K mg base N qual scope f cd A outer s H E).ex:=fun b z=>absurd (show b∈([]:List Addr) from z) (by simp)
 refine⟨⟨e0.mod,S.kind,rfl,rfl,Ub _,fun y z c h1 h2=>?_,fun y hy=>?_,fun y c _ h=>?_,fun _=>hd,Around.frames_deeper e0.frames,.inr ⟨rfl,rfl⟩,fun b z=>absurd z (noA b),e0.bs,e0.bsz,fun b _ _=>noA b,fun b z=>absurd z (noA b),e0.funs,e0.frf⟩,
  rfl,e0.bare,Un.kept hk,⟨_,x.toInCall.ns,fun i y v h1 h2 h3=>?_⟩,fun y c h=>⟨_,x.cell y c h⟩,e0.hok.fresh (Ub _),fun y c h=>?_,fun p hp=>absurd (show p∈([]:List (Addr×Obj)) from hp) (by simp),e0.hok.kept hk,?_⟩
 ·exact name_of_addr x.apart (Rk h1) (Rk h2)
 ·have hy:scope.names.lookup y=some .cell∨scope.names.lookup y=some .free:=hy;rcases hy with hy|hy
  ·exact pz hy
  ·exact absurd rfl (S.nofree _ (Rk hy))
 ·exact RS (x.above y c (Rk h))
 ·have hi:i<vs.length:=by
   unfold start at h2
   by_cases hi:i<vs.length
   ·exact hi
   ·rw[Ob (by simpa using hi)] at h2;rw[T6] at h2;split at h2<;>cases h2
  have ha:vs[i]?=some v:=by
   unfold start at h2;rw[Ou (by simpa using hi),Up] at h2
   cases e:vs[i]? with
   |none=>rw[e] at h2;cases h2
   |some a=>rw[e] at h2;cases h2;rfl
  obtain⟨u,hu,rv⟩:=r.get ha
  have hp:ps[i]?=some y:=by
   rw[<-S.pre,TZ (by lia)];exact h1
  have ndP:ps.Nodup:=by rw[<-S.pre];exact S.nd.sublist (List.take_sublist _ _)
  refine⟨u,rv,?_⟩;rcases S.par y (Uu hp) with k|k
  ·exact .inl ⟨k,zaJ ndP hp hu k⟩
  ·obtain⟨c,e⟩:=pz (n:=s.heap.objs.size+1) k;refine .inr ⟨.inl k,c,e,?_⟩;have q:=x.cell y c e;rw[zaL ndP hp hu (by show scope.names.lookup y≠_;rw[k];decide)] at q;exact q
 ·exact e0.hok.fresh (RS (x.above y c (Rk h)))
 ·unfold start;show _=N.length;rw[UD,Ud,RB];lia
theorem zia {body:List Stmt}{kV:Value}(lk:K.lookup f=some ⟨oc,od,.func (fnOf name qual params body scope dV kV doc pm an cdv ct),osl⟩)(hcd:codeIn K cdv qual=true)(S:zt N ps scope)(len:∀vs H Q E,sp vs H Q E->vs.length=ps.length)(hbody:∀(A:Around) (outer:List Env) (s:Shared) (H:Hp) (vs:List V) (Q:VK) (E:XK),Room k (A.deeper (envOfC qual scope s.heap.objs.size f cdv))->sp vs H Q E->
 ∃t,PSs (zbC CX P w K mg base N qual scope f cdv A outer s H E) body t/\t { nx:=fun _ H'=>Q .non H',rt:=Q } (start N vs) H) :
 FnOk P w K mg base CX (k+1) f (fnOf name qual params body scope dV kV doc pm an cdv ct) ps sp:=by
 refine⟨len,fun A outer s H args us vs Q E hr e0 hb r hsp=>?_⟩;have hl:=len _ _ _ _ hsp;have KX:K.In s.heap:=e0.mod.kin.keeps fun b o e=>(e0.bs b o e).1;have lim:s.heap.NoLimit:=e0.mod.nolimit.keeps fun b o e=>(e0.bs b o e).1
 have hkind:∀y∈ps.zip us,scope.names.lookup y.1=some .local∨(scope.names.lookup y.1=some .cell/\((cellsFrom (s.heap.objs.size+1) scope.names []).lookup y.1).isSome=true):=fun⟨n,v⟩ hy=>by
  rcases S.par n (RU hy).1 with q|q
  ·exact .inl q
  ·exact .inr ⟨q,Ng _ _ _ (.inl q)⟩
 refine codeAny_call_function hr.depth (KX _ _ lk) rfl S.co S.gen rfl (PySem.W.codeRec_of KX hcd) (hb _ _ _ _ ?_);refine wpAny_newFunctionEnv_cells S.kind hkind fun env he s1 x=>?_;subst he;refine⟨lim.keeps x.toInCall.keep,codeAny_func ?_⟩;obtain⟨t,ht,hq⟩:=hbody A outer s H vs Q E (hr.deeper _) hsp;have I:Inv (zbC CX P w K mg base N qual scope f cdv A outer s H E) [] (start N vs) H s1:=zaz S hr.hd e0 hl r x;refine OK (ht [] s1 (start N vs) H _ I hq) (fun fl s' hs=>?_) fun e s' hs=>hs
 have fin:∀{σ':St}{H':Hp}{v:V}{u:Value},Inv (zbC CX P w K mg base N qual scope f cdv A outer s H E) [] σ' H' s'->RelV v u->Q v H'->CE outer P w H s Q u s':=
  fun {σ' H' v u} J rv q=>⟨v,H',J.os,J.bare,J.base,J.hok,rv,q⟩
 cases fl with
 |ret u=>
  obtain⟨v,σ',H',J,rv,q⟩:=hs;exact fin J rv q
 |next=>
  obtain⟨σ',H',J,q⟩:=hs;exact fin (v:=V.non) (u:=Value.none) J rfl q
 |brk=>
  obtain⟨_,_,_,q⟩:=hs;exact False.elim q
 |cont=>
  obtain⟨_,_,_,q⟩:=hs;exact False.elim q
def tCB (r:List V->Hp->VK->Prop)(t:TA):TE:=fun σ H Q=>t σ H fun vs H1=>r vs H1 Q
theorem zv {id:String}(hc:jq X (.builtin id) r)(hg:Gl X x)(hm:X.mg x=none)(hv:bootBuiltins x=some (.builtin id))(ha:PA X (e::es) t)(hn:x≠"__name__":=by decide)(hdb:(x==("__debug__":Str))=false:=by decide)(he:starEach (e::es) X.env=(false,eval e X.env)::starEach es X.env:=by rfl)(hpl:(backTo pos (starEach es X.env)).any (·.1)=false:=by rfl):PE X (.Call (.Name x p) (e::es) [] pos) (tCB r t):=by
 intro pins s σ H Q I h;refine O6 (xE I hg hm hv ?_ hn hdb);exact PyProof.Rows.callWith_builtin1 (thn (ha pos pins s σ H _ I h) fun us s1 ⟨vs,H1,I1,r1,q1⟩=>hc pins s1 σ H1 vs us Q I1 r1 q1) he hpl
theorem zJ (hc:jq X (.type T) r)(hg:Gl X x)(hm:X.mg x=none)(hv:bootBuiltins x=some (.type T))(ha:PA X (e::es) t)(hn:x≠"__name__":=by decide)(hdb:(x==("__debug__":Str))=false:=by decide)(he:starEach (e::es) X.env=(false,eval e X.env)::starEach es X.env:=by rfl)(hpl:(backTo pos (starEach es X.env)).any (·.1)=false:=by rfl):PE X (.Call (.Name x p) (e::es) [] pos) (tCB r t):=by
 intro pins s σ H Q I h;refine O6 (xE I hg hm hv ?_ hn hdb);exact OC (thn (ha pos pins s σ H _ I h) fun us s1 ⟨vs,H1,I1,r1,q1⟩=>hc pins s1 σ H1 vs us Q I1 r1 q1) he hpl
abbrev TO:=St->Hp->(Option Int->Hp->Prop)->Prop
def PO (X:Cx)(e:Option Expr)(t:TO):Prop:=
 ∀(pins:List (Addr×Obj)) (s:Shared) (σ:St) (H:Hp) (Q:Option Int->Hp->Prop),Inv X pins σ H s->t σ H Q->
  wpAny (model X.prog X.w) X.A (evalPart e X.env) (fun u s'=>∃o H',Inv X pins σ H' s'/\IsPart u o/\Q o H') X.xe s
def zgR:TO:=fun _ H Q=>Q none H
def zjw (t:TE):TO:=fun σ H Q=>t σ H fun x H1=>∃i,x=.int i/\Q (some i) H1
theorem intsAre_of:∀{us:List Value},Vals (ns.map V.int) us->IntsAre us ns:=by
 induction ns with
 |nil=>intro us r;rw[Tz] at r;cases r;exact .nil
 |cons n ns ih=>
  intro us r;rw[UL] at r
  cases r with
  |cons r1 r2=>
   obtain⟨t,e⟩:=r1;subst e;exact .cons n t (ih r2)
theorem za9:PO X none zgR:=by
 intro pins s σ H Q I h;rw[evalPart_none];exact Uj ⟨none,H,I,.none,h⟩
theorem kQ (h:PE X e te):PO X (some e) (zjw te):=by
 intro pins s σ H Q I hw;rw[evalPart_some];refine thn (h pins s σ H _ I hw) fun u s1 ⟨x,H1,I1,r1,q1⟩=>?_;obtain⟨i,rfl,q⟩:=q1;obtain⟨t,rfl⟩:=r1;exact⟨some i,H1,I1,.int i t,q⟩
def SlR (X:Cx)(r:V->Option Int->Option Int->Hp->VK->Prop):Prop:=
 ∀(pins:List (Addr×Obj)) (s:Shared) (σ:St) (H:Hp) (x:V) (v vl vu:Value) (lo hi:Option Int) (sl:Addr) (Q:VK),Inv X pins σ H s->RelV x v->s.heap.IsSliceOf sl vl vu .none->IsPart vl lo->IsPart vu hi->r x lo hi H Q->
  ∃T id,typeLookup (.type T) "__getitem__"=pure (some (.builtin id))/\s.TypeIs v T/\wpAny (model X.prog X.w) X.A (getItem v (.ref sl)) (EP X pins σ Q) X.xe s
def tSl (r:V->Option Int->Option Int->Hp->VK->Prop)(te:TE)(tl th:TO):TE:=fun σ H Q=>te σ H fun x H1=>tl σ H1 fun l H2=>th σ H2 fun u H3=>r x l u H3 Q
theorem kU {lo:Option Expr}{hi:Option Expr}(hr:SlR X r)(he:PE X e te)(hl:PO X lo tl)(hu:PO X hi th):PE X (.Subscript e (.Slice lo hi none p2) pos) (tSl r te tl th):=by
 intro pins s σ H Q I h;refine Subscript_ (thn (he pins s σ H _ I h) fun v s1 ⟨x,H1,I1,r1,q1⟩=>?_);refine wpAny_Slice (thn (hl pins s1 σ H1 _ I1 q1) fun vl s2 ⟨l,H2,I2,pl,q2⟩=>thn (hu pins s2 σ H2 _ I2 q2) fun vu s3 ⟨u,H3,I3,pu,q3⟩=>?_);rw[evalPart_none];refine Uj ?_;have I4:Inv X pins σ H3 { s3 with heap:=s3.heap.push { cls:=.type "slice",data:=.fields #[vl,vu,.none] } }:=I3.kept (t':=s3.toks) fun b ob q=>Ui _ q;obtain⟨T,id,hT,ht,hg⟩:=hr pins { s3 with heap:=s3.heap.push { cls:=.type "slice",data:=.fields #[vl,vu,.none] } } σ H3 x v vl vu l u s3.heap.objs.size Q I4 r1 (Heap.IsSliceOf.new ..) pl pu q3;show wpAny (model X.prog X.w) X.A (subscriptTail e (.Slice lo hi none p2) v (.ref s3.heap.objs.size)) (EP X pins σ Q) X.xe { s3 with heap:=s3.heap.push { cls:=.type "slice",data:=.fields #[vl,vu,.none] } };exact tail_any (ops:=[.ref s3.heap.objs.size,v]) ht hT hg (by with_unfolding_all rfl)
def bx (xs:List V)(lo hi:Option Int):List V:=(xs.drop (HT.sIx xs.length 0 lo)).take (HT.sIx xs.length xs.length hi-HT.sIx xs.length 0 lo)
theorem fM (xs:List V)(lo hi:Option Int):(bx xs lo hi).length<=xs.length:=by
 unfold bx;rw[UA,Rf];lia
def zkw (K:Frag):V->Option Int->Option Int->Hp->VK->Prop:=fun x lo hi H Q=>∃a xs,x=.ref a/\SqT K H a xs/\
 ¬(HT.sIx xs.length 0 lo=0/\HT.sIx xs.length xs.length hi=xs.length)/\∀p,H p=none->Q (.ref p) (upd H p (.tup (bx xs lo hi)))
theorem ziu:SlR X (zkw X.K):=by
 intro pins s σ H x v vl vu lo hi sl Q I rx hs pl pu h;obtain⟨a,xs,rfl,hx,hw,q⟩:=h
 cases rx;obtain⟨its,r,ht,hz⟩:=I.tuple hx;have hlen:its.toArray.size=xs.length:=by rw[Ul];exact r.length.symm
 refine⟨"tuple",_,Os.lookup,ht.typeIs,?_⟩;refine HT.getItem_tuple_cut ht hs pl pu (by rw[hlen];exact hw) ?_ (by rw[hlen];exact hz);rw[hlen];refine⟨.ref s.heap.objs.size,_,I.laid (t':=s.toks) (o:=.tup (bx xs lo hi)) (fun b ob q=>Ui _ q) (Ub _) ?_,rfl,q _ (I.hok.fresh (Ub _))⟩;exact⟨UU (fM xs lo hi) hz,_,(r.drop (HT.sIx xs.length 0 lo)).take (HT.sIx xs.length xs.length hi-HT.sIx xs.length 0 lo),IsTup.new _ _⟩
def zjV (K:Frag):R2:=fun x y H Q=>∃a b xs ys,x=.ref a/\y=.ref b/\SqT K H a xs/\SqT K H b ys/\xs≠[]/\xs.length+ys.length<=sizeLine/\
 (ys=[]->Q (.ref a) H)/\(ys≠[]->∀p,H p=none->Q (.ref p) (upd H p (.tup (xs++ys))))
theorem Vals.nil_iff (r:Vals xs us):us=[]↔xs=[]:=by
 cases r with
 |nil=>simp
 |cons _ _=>simp
theorem zhf:OpR X (binaryOp .Add) (zjV X.K):=by
 intro pins s σ H x y v u Q I rx ry h;obtain⟨a,b,xs,ys,rfl,rfl,ha,hb,hx,hz,q1,q2⟩:=h
 cases rx
 cases ry;obtain⟨its,r1,p1,_⟩:=I.tuple ha;obtain⟨its2,r2,p2,_⟩:=I.tuple hb;refine HT.cat_tup p1 p2 (fun z=>hx (r1.nil_iff.mp z)) (fun z=>⟨.ref a,H,I,rfl,q1 (r2.nil_iff.mp z)⟩) (fun z=>?_) (by rw[<-r1.length,<-r2.length];exact hz);refine⟨.ref s.heap.objs.size,_,I.laid (t':=s.toks) (o:=.tup (xs++ys)) (fun b ob q=>Ui _ q) (Ub _) ?_,rfl,q2 (fun w=>z (r2.nil_iff.mpr w)) _ (I.hok.fresh (Ub _))⟩;exact⟨by rw[UD];exact hz,_,r1.append r2,IsTup.new _ _⟩
def ixN (n:Nat)(i:Int):Option Nat:=if 0<=i then(if i<n then some i.toNat else none) else if -(n:Int)<=i then some (i+n).toNat else none
def atI (xs:List α)(i:Int):Option α:=(ixN xs.length i).bind fun j=>xs[j]?
theorem zea (h:ixN n i=some j):seqIndex? i n=some j/\j<n/\-(n:Int)<=i/\i<n:=by
 unfold ixN at h
 by_cases h0:0<=i
 ·rw[Uv h0] at h
  by_cases h1:i<n
  ·rw[Uv h1] at h;have e:i.toNat=j:=UK h;exact⟨by rw[seqIndex_of h0 h1,e],by lia,by lia,h1⟩
  ·rw[Ur h1] at h;cases h
 ·rw[Ur h0] at h
  by_cases h1 : -(n:Int)<=i
  ·rw[Uv h1] at h;have e:(i+n).toNat=j:=UK h;exact⟨by rw[seqIndex_neg (by lia) h1,e],by lia,h1,by lia⟩
  ·rw[Ur h1] at h;cases h
theorem zbK (h:atI xs i=some v):∃j,seqIndex? i xs.length=some j/\xs[j]?=some v/\j<xs.length/\-(xs.length:Int)<=i/\i<xs.length:=by
 unfold atI at h
 cases e:ixN xs.length i with
 |none=>rw[e] at h;cases h
 |some j=>
  rw[e] at h;obtain⟨h1,h2,h3,h4⟩:=zea e;exact⟨j,h1,h,h2,h3,h4⟩
theorem qa {xs:List α}{j:Nat}{v:α}(h:xs[j]?=some v):atI xs (j:Int)=some v:=by
 have hj:j<xs.length:=(Ue.mp h).1
 have e:ixN xs.length (j:Int)=some j:=by
  unfold ixN;rw[Uv (by lia),Uv (by lia)];simp
 unfold atI;rw[e];exact h
theorem pD (xs:List α)(v:α):atI (xs++[v]) (-1)=some v:=by
 have hl:(xs++[v]).length=xs.length+1:=by simp
 have e:ixN (xs++[v]).length (-1)=some xs.length:=by
  unfold ixN;rw[hl,Ur (by decide),Uv (by lia)];congr 1;lia
 unfold atI;rw[e];show(xs++[v])[xs.length]?=some v;simp
def zhO (b:Expr):Prop:=∀o i,subscripted b false o i=operate [o,i] (getItem o i)
def IxR (X:Cx)(r:R2):Prop:=
 ∀(value slice:Expr) (pins:List (Addr×Obj)) (s:Shared) (σ:St) (H:Hp) (x y:V) (v u:Value) (Q:VK),Inv X pins σ H s->RelV x v->RelV y u->r x y H Q->
  subscripted slice false v u=operate [v,u] (getItem v u)->wpAny (model X.prog X.w) X.A (subscriptTail value slice v u) (EP X pins σ Q) X.xe s
def MtR (X:Cx)(id:String)(r:V->List V->Hp->VK->Prop):Prop:=
 ∀(pins:List (Addr×Obj)) (s:Shared) (σ:St) (H:Hp) (x:V) (xs:List V) (v:Value) (us:List Value) (Q:VK),Inv X pins σ H s->RelV x v->Vals xs us->r x xs H Q->
  wpAny (model X.prog X.w) X.A (call (.builtin id) (v::us)) (EP X pins σ Q) X.xe s
theorem zz {a:Expr}{b:Expr}{ta:TE}{tb:TE}{r:R2}(hr:IxR X r)(ha:PE X a ta)(hb:PE X b tb)(hs:zhO b):PE X (.Subscript a b pos) (tOp r ta tb):=by
 intro pins s σ H Q I h;exact Subscript_ (zji ha hb I h fun v u s2 x y H2 I2 rx ry q=>hr a b pins s2 σ H2 x y v u Q I2 rx ry q (hs _ _))
def zjT (K:Frag):R2:=fun x y H Q=>∃p xs i v,x=.ref p/\y=.int i/\SqL K H p xs/\atI xs i=some v/\Q v H
def zfT (K:Frag):R2:=fun x y H Q=>∃p xs i v,x=.ref p/\y=.int i/\SqT K H p xs/\atI xs i=some v/\Q v H
def zkE:R2:=fun x y H Q=>∃z i c,x=.str z/\y=.int i/\z.length<=sizeLine/\atI z.cps.toList i=some c/\Q (.str ⟨#[c]⟩) H
theorem zhs:IxR X (zjT X.K):=by
 intro value slice pins s σ H x y v u Q I rx ry h hs;obtain⟨p,xs,i,z,rfl,rfl,hq,he,q⟩:=h
 cases rx;obtain⟨t,rfl⟩:=ry;obtain⟨its,r,pl,hz⟩:=I.list hq;obtain⟨j,h1,h2,h3,h4,h5⟩:=zbK he;obtain⟨w,ew,rw'⟩:=r.get h2;have hl:=r.length;have hn:=yc;have fin:EP X pins σ Q w s:=⟨z,H,I,rw',q⟩
 by_cases h0:0<=i
 ·have hj:i.toNat=j:=by
   rw[seqIndex_of h0 h5] at h1;exact UK h1
  exact item_listR pl.isList h0 (by lia) (by rw[hj];simpa using ew) fin hs
 ·have hj:(i+(its.toArray.size:Int)).toNat=j:=by
   rw[seqIndex_neg (by lia) h4] at h1;rw[Ul,<-hl];exact UK h1
  exact subscriptTail_builtinR (x:=w) pl.isList.typeIs slot_list_getitem.lookup
   (wpAny_getItem_list_neg (Q:=fun r s'=>r=w/\EP X pins σ Q r s') pl.isList (by lia) (by rw[Ul]<;>lia) (by lia) (by rw[hj];simpa using ew) ⟨rfl,fin⟩) hs
theorem zi6:IxR X (zfT X.K):=by
 intro value slice pins s σ H x y v u Q I rx ry h hs;obtain⟨p,xs,i,z,rfl,rfl,hq,he,q⟩:=h
 cases rx;obtain⟨t,rfl⟩:=ry;obtain⟨its,r,pl,hz⟩:=I.tuple hq;obtain⟨j,h1,h2,h3,h4,h5⟩:=zbK he;obtain⟨w,ew,rw'⟩:=r.get h2;have hl:=r.length;have hn:=yc;have fin:EP X pins σ Q w s:=⟨z,H,I,rw',q⟩
 exact subscriptTail_builtinR (x:=w) pl.typeIs Os.lookup
  (getItem_tuple (j:=j) (Q:=fun r s'=>r=w/\EP X pins σ Q r s') pl (by lia) (by lia) (by rw[Ul,<-hl];exact h1) (by simpa using ew) ⟨rfl,fin⟩) hs
theorem zdr:IxR X zkE:=by
 intro value slice pins s σ H x y v u Q I rx ry h hs;obtain⟨z,i,c,rfl,rfl,hz,he,q⟩:=h;obtain⟨t,rfl⟩:=rx;obtain⟨t',rfl⟩:=ry;obtain⟨j,h1,h2,h3,h4,h5⟩:=zbK he;have hl:z.cps.toList.length=z.length:=by simp[Str.length]
 rw[hl] at h1 h4 h5;have hn:=yc
 exact tail_any (typeIs_str s z t) slot_str_getitem.lookup (getItem_str (c:=c) (by
  have e1:decide (i < -(2^63:Int))=false:=UE (by lia);have e2:decide (i≥2^63)=false:=UE (by lia);rw[e1,e2,Bool.or_false]) (by rw[h1];simpa using h2) ⟨.str ⟨#[c]⟩,H,I.tok _,⟨_,rfl⟩,q⟩) hs
theorem zdl (its:List Value)(n j:Nat)(u:Value):Obj.mapSeq (·.setIfInBounds j u) { cls:=.type "list",data:=.seq its.toArray n }={ cls:=.type "list",data:=.seq (its.set j u).toArray n }:=by
 simp[Obj.mapSeq]
theorem Inv.lst (I:Inv X pins σ H s)(h:H p=some (.lst xs)) :
 ∃(its:List Value) (n:Nat),Vals xs its/\s.heap.get? p=some { cls:=.type "list",data:=.seq its.toArray n }/\xs.length<=sizeLine:=by
 obtain⟨z,its,n,r,e⟩:=I.hok p _ h;exact⟨its,n,r,e,z⟩
theorem Inv.lstUpd (I:Inv X pins σ H s)(h:H p=some (.lst xs))(ho:s.heap.get? p=some { cls:=.type "list",data:=.seq its.toArray n })(hf:f { cls:=.type "list",data:=.seq its.toArray n }={ cls:=.type "list",data:=.seq its'.toArray n' })(r:Vals ys its')(hz:ys.length<=sizeLine)(t:Nat) :
 Inv X pins σ (upd H p (.lst ys)) { s with heap:=s.heap.update p f,toks:=t }:=by
 have e:(s.heap.update p f).get? p=some { cls:=.type "list",data:=.seq its'.toArray n' }:=by
  rw[Heap.get?_update_self f ho (by rw[hf]<;>rfl),hf]
 refine I.write (x:=p) (e:=p) (by rw[h];trivial) (.inl rfl) (fun b u hb q=>(RI _ _ (OO hb)).trans q) ⟨_,e⟩ ?_;exact⟨hz,its',n',r,e⟩
def zjO:V->V->V->Hp->(Hp->Prop)->Prop:=fun o i v H Q=>∃p xs k j,o=.ref p/\i=.int k/\H p=some (.lst xs)/\ixN xs.length k=some j/\Q (upd H p (.lst (xs.set j v)))
theorem set_list:zjn X zjO:=by
 intro pins s σ H o i v ov iv u Q I ro ri rv h;obtain⟨p,xs,k,j,rfl,rfl,hp,hj,q⟩:=h
 cases ro;obtain⟨t,rfl⟩:=ri;obtain⟨its,n,r,ho,hz⟩:=I.lst hp;obtain⟨h1,h2,h3,h4⟩:=zea hj;have hl:=r.length;have hn:=yc
 have I':Inv X pins σ (upd H p (.lst (xs.set j v))) { s with heap:=s.heap.update p (Obj.mapSeq (·.setIfInBounds j u)) }:=
  I.lstUpd hp ho (zdl its n j u) (r.set rv j) (by rw[Ts];exact hz) s.toks
 by_cases h0:0<=k
 ·have hk:k.toNat=j:=by
   rw[seqIndex_of h0 h4] at h1;exact UK h1
  exact PySem.W.ki_setAt ho h0 (by lia) (by rw[Ul,<-hl];exact h4) (by rw[hk];exact⟨_,I',q⟩)
 ·have hk:(k+(its.toArray.size:Int)).toNat=j:=by
   rw[seqIndex_neg (by lia) h3] at h1;rw[Ul,<-hl];exact UK h1
  exact PySem.W.ki_setBack ho (by lia) (by rw[Ul,<-hl];exact h3) (by lia) (by rw[hk];exact⟨_,I',q⟩)
theorem za1 (lo hi:Option Int)(n:Nat):(sliceBounds lo hi none n).1=((HT.sIx n 0 lo:Nat):Int)/\(sliceBounds lo hi none n).2.1=((HT.sIx n n hi:Nat):Int)/\(sliceBounds lo hi none n).2.2=1:=by
 refine⟨?_,?_,rfl⟩
 ·cases lo with
  |none=>simp[sliceBounds,HT.sIx]
  |some i=>
   simp only[sliceBounds,HT.sIx,getD_none,show(1:Int)>0 by decide,Tp]
   by_cases h:i<0
   ·simp only[h,Tp]<;>lia
   ·simp only[h,OR]<;>lia
 ·cases hi with
  |none=>simp[sliceBounds,HT.sIx]
  |some i=>
   simp only[sliceBounds,HT.sIx,getD_none,show(1:Int)>0 by decide,Tp]
   by_cases h:i<0
   ·simp only[h,Tp]<;>lia
   ·simp only[h,OR]<;>lia
theorem pT (its:List Value)(lo hi:Option Int):slicePick its.toArray lo hi none=((its.drop (HT.sIx its.length 0 lo)).take (HT.sIx its.length its.length hi-HT.sIx its.length 0 lo)).toArray:=by
 obtain⟨h1,h2,h3⟩:=za1 lo hi its.toArray.size;unfold slicePick;rw[h1,h2,h3];simp only[sliceRange_one,pick_run,Ul]<;>rfl
def zjN (K:Frag):V->Option Int->Option Int->Hp->VK->Prop:=fun x lo hi H Q=>∃a xs,x=.ref a/\SqL K H a xs/\∀p,H p=none->Q (.ref p) (upd H p (.lst (bx xs lo hi)))
theorem zgU:SlR X (zjN X.K):=by
 intro pins s σ H x v vl vu lo hi sl Q I rx hs pl pu h;obtain⟨a,xs,rfl,hx,q⟩:=h
 cases rx;obtain⟨its,r,ht,hz⟩:=I.list hx;have hlen:=r.length;refine⟨"list",_,slot_list_getitem.lookup,ht.isList.typeIs,?_⟩;refine wpAny_getItem_list_slice ht.isList hs pl pu .none (by simp) ?_ (by rw[Ul]<;>lia);rw[pT,<-hlen];refine⟨.ref s.heap.objs.size,_,I.laid (t':=s.toks) (o:=.lst (bx xs lo hi)) (fun b ob q=>Ui _ q) (Ub _) ?_,rfl,q _ (I.hok.fresh (Ub _))⟩;exact⟨UU (fM xs lo hi) hz,_,0,(r.drop (HT.sIx xs.length 0 lo)).take (HT.sIx xs.length xs.length hi-HT.sIx xs.length 0 lo),UC _ rfl⟩
def yN:V->Bool
 | .non=>true
 | .bl _=>true
 | .int _=>true
 | .str _=>true
 |_=>false
def eqV:V->V->Bool
 | .non,.non=>true
 | .bl a,.bl b=>a==b
 | .bl a,.int b=>(if a then 1 else 0)==b
 | .int a,.bl b=>a==(if b then 1 else 0)
 | .int a,.int b=>a==b
 | .str a,.str b=>a==b
 |_,_=>false
theorem zjc (ry:RelV y u)(rx:RelV x v)(fy:yN y=true)(fx:yN x=true):SeqAt.EqAt A s u v (eqV y x):=by
 cases y with
 |non=>
  cases ry
  cases x with
  |non=>cases rx;exact SeqAt.EqAt.same _
  |bl b=>cases rx;exact SeqAt.EqAt.none_bool b
  |int b=>obtain⟨t,rfl⟩:=rx;exact SeqAt.EqAt.none_int b t
  |str b=>obtain⟨t,rfl⟩:=rx;exact SeqAt.EqAt.none_str b t
  |_=>exact absurd (show false=true from fx) UH
 |bl a=>
  cases ry
  cases x with
  |non=>cases rx;exact SeqAt.EqAt.bool_none a
  |bl b=>cases rx;exact SeqAt.EqAt.bool_bool a b
  |int b=>obtain⟨t,rfl⟩:=rx;exact SeqAt.EqAt.bool_int a b t
  |str b=>obtain⟨t,rfl⟩:=rx;exact SeqAt.EqAt.bool_str a b t
  |_=>exact absurd (show false=true from fx) UH
 |int a=>
  obtain⟨t',rfl⟩:=ry
  cases x with
  |non=>cases rx;exact SeqAt.EqAt.int_none a t'
  |bl b=>cases rx;exact SeqAt.EqAt.int_bool a t' b
  |int b=>obtain⟨t,rfl⟩:=rx;exact R9 a t' b t
  |str b=>obtain⟨t,rfl⟩:=rx;exact SeqAt.EqAt.int_str a t' b t
  |_=>exact absurd (show false=true from fx) UH
 |str a=>
  obtain⟨t',rfl⟩:=ry
  cases x with
  |non=>cases rx;exact SeqAt.EqAt.str_none a t'
  |bl b=>cases rx;exact SeqAt.EqAt.str_bool a t' b
  |int b=>obtain⟨t,rfl⟩:=rx;exact SeqAt.EqAt.str_int a t' b t
  |str b=>obtain⟨t,rfl⟩:=rx;exact SeqAt.EqAt.str_str a t' b t
  |_=>exact absurd (show false=true from fx) UH
 |_=>exact absurd (show false=true from fy) UH
theorem zbF:jq X (.builtin "len") (fun xs H Q=>∃p ys,xs=[.ref p]/\(SqL X.K H p ys∨SqT X.K H p ys)/\Q (.int ys.length) H):=by
 intro pins s σ H xs us Q I r h;obtain⟨p,ys,rfl,hq,q⟩:=h;obtain⟨u,rfl,rx⟩:=vals1 r
 cases rx;have hn:=yc;rcases hq with hq|hq
 ·obtain⟨its,r',pl,hz⟩:=I.list hq;have hlen:=r'.length;exact Calls.call_len_list pl.isList (by simp only[Ul]<;>lia) ⟨.int ys.length,H,I.tok _,⟨s.toks+1,by rw[Ul,hlen]⟩,q⟩
 ·obtain⟨its,r',pl,hz⟩:=I.tuple hq;have hlen:=r'.length;exact len_tuple pl (by simp only[Ul]<;>lia) ⟨.int ys.length,H,I.tok _,⟨s.toks+1,by rw[Ul,hlen]⟩,q⟩
theorem gu:jq X (.builtin "len") (fun xs H Q=>∃z,xs=[.str z]/\z.length<=sizeLine/\Q (.int z.length) H):=by
 intro pins s σ H xs us Q I r h;obtain⟨z,rfl,hz,q⟩:=h;obtain⟨u,rfl,t,rfl⟩:=vals1 r;have hn:=yc;exact len_str (by lia) ⟨.int z.length,H,I.tok _,⟨_,rfl⟩,q⟩
theorem zbE:jq X (.type "list") (fun xs H Q=>∃p ys,xs=[.ref p]/\(SqL X.K H p ys∨SqT X.K H p ys)/\∀l,H l=none->Q (.ref l) (upd H l (.lst ys))):=by
 intro pins s σ H xs us Q I r h;obtain⟨p,ys,rfl,hq,q⟩:=h;obtain⟨u,rfl,rx⟩:=vals1 r
 cases rx
 have fin:∀(its:List Value),Vals ys its->ys.length<=sizeLine->∀(h':Heap) (c':Nat),(∀b o',s.heap.get? b=some o'->h'.get? b=some o')->
  h'.get? s.heap.objs.size=some { cls:=.type "list",dict:=none,data:=.seq its.toArray c',slots:=#[] }->EP X pins σ Q (.ref s.heap.objs.size) { s with heap:=h' }:=fun its r' hz h' c' kp e=>
  ⟨.ref s.heap.objs.size,_,I.laid (t':=s.toks) kp (Ub _) (show ObjOk X.prog X.w _ h' _ (.lst ys) from⟨hz,its,c',r',e⟩),rfl,q _ (I.hok.fresh (Ub _))⟩
 rcases hq with hq|hq
 ·obtain⟨its,r',pl,hz⟩:=I.list hq;have hlen:=r'.length;obtain⟨o,ho,hc,n,hd⟩:=pl.isList;exact call_list_seq p (.inl rfl) ho hc hd (fun h' c' kp e=>fin its r' hz h' c' kp e) (by simp only[Ul]<;>lia)
 ·obtain⟨its,r',pl,hz⟩:=I.tuple hq;have hlen:=r'.length;obtain⟨o,ho,hc,n,hd⟩:=pl;exact call_list_seq p (.inr rfl) ho hc hd (fun h' c' kp e=>fin its r' hz h' c' kp e) (by simp only[Ul]<;>lia)
theorem zaa:jq X (.type "tuple") (fun xs H Q=>∃p ys,xs=[.ref p]/\((SqL X.K H p ys/\∀l,H l=none->Q (.ref l) (upd H l (.tup ys)))∨(SqT X.K H p ys/\Q (.ref p) H))):=by
 intro pins s σ H xs us Q I r h;obtain⟨p,ys,rfl,h⟩:=h;obtain⟨u,rfl,rx⟩:=vals1 r
 cases rx;rcases h with⟨hq,q⟩|⟨hq,q⟩
 ·obtain⟨its,r',pl,hz⟩:=I.list hq;have hlen:=r'.length;refine call_tuple_list pl.isList (fun h' kp=>?_) (by simp only[Ul]<;>lia);have I1:Inv X pins σ H { s with heap:=h' }:=I.kept (t':=s.toks) kp
  have I2:Inv X pins σ (upd H h'.objs.size (.tup ys)) { s with heap:=h'.push { cls:=.type "tuple",data:=.seq its.toArray } }:=
   I1.laid (t':=s.toks) (fun b o e=>Ui _ e) (Ub _) (show ObjOk X.prog X.w _ _ _ (.tup ys) from⟨hz,its,r',IsTup.new _ _⟩)
  exact⟨.ref h'.objs.size,_,I2,rfl,q _ (I1.hok.fresh (Ub _))⟩
 ·obtain⟨its,r',pl,hz⟩:=I.tuple hq;exact call_tuple_same pl ⟨.ref p,H,I,rfl,q⟩
def tyV (K:Frag)(T:String)(x:V)(H:Hp):Prop:=match x with
 | .str _=>T="str"
 | .int _=>T="int"
 | .ref p=>(T="list"/\∃xs,SqL K H p xs)∨(T="tuple"/\∃o,K.lookup p=some o/\o.cls=.type "tuple"/\o.dict=none)∨
  (T="dict"/\((∃kvs,H p=some (.dK kvs))∨∃kvs,H p=some (.dT kvs)))∨(T="set"/\∃S n,H p=some (.set S n))
 |_=>False
theorem zij (I:Inv X pins σ H s)(r:RelV x v)(ty:tyV X.K T x H) :
 s.TypeIs v T/\∀a,v=.ref a->∃ob,s.heap.get? a=some ob/\ob.dict=none:=by
 cases x with
 |str z=>
  obtain⟨t,rfl⟩:=r
  cases(show T="str" from ty);exact⟨typeIs_str s z t,fun _ e=>nomatch e⟩
 |int i=>
  obtain⟨t,rfl⟩:=r
  cases(show T="int" from ty);exact⟨typeIs_int s i t,fun _ e=>nomatch e⟩
 |ref p=>
  cases r;rcases ty with⟨rfl,xs,hq⟩|⟨rfl,o,hk,hc,hd⟩|⟨rfl,hk⟩|⟨rfl,S,n,hk⟩
  ·obtain⟨its,_,pl,_⟩:=I.list hq;refine⟨pl.isList.typeIs,fun a e=>?_⟩
   cases e;obtain⟨o,n,e,c,hd,_⟩:=pl;exact⟨o,e,hd⟩
  ·refine⟨⟨o,I.kIn p o hk,hc⟩,fun a e=>?_⟩
   cases e;exact⟨o,I.kIn _ o hk,hd⟩
  ·have z:∃o,s.heap.get? p=some o/\o.ExactDict:=by
    rcases hk with⟨kvs,hk⟩|⟨kvs,hk⟩
    ·obtain⟨_,_,_,_,o,_,_,e,ex,_⟩:=I.hok p _ hk;exact⟨o,e,ex⟩
    ·obtain⟨_,_,_,_,o,_,_,e,ex,_⟩:=I.hok p _ hk;exact⟨o,e,ex⟩
   obtain⟨o,e,ex⟩:=z;refine⟨⟨o,e,ex.1⟩,fun a e2=>?_⟩
   cases e2;exact⟨o,e,ex.2.1⟩
  ·obtain⟨o,_,_,_,e,ex,_⟩:=I.hok p _ hk;refine⟨⟨o,e,ex.1⟩,fun a e2=>?_⟩
   cases e2;exact⟨o,e,ex.2.1⟩
 |_=>exact False.elim ty
def tBM (K:Frag)(T:String)(r:V->List V->Hp->VK->Prop)(to:TE)(t:TA):TE:=fun σ H Q=>to σ H fun x H1=>tyV K T x H1/\t σ H1 fun xs H2=>r x xs H2 Q
theorem jo {id:String}(pa:PlainAttrs T)(slot:Slot T name id)(hty:typeOf (.builtin id)=pure (.type "method_descriptor"))(hm:MtR X id r)(ho:PE X o to)(ha:PA X (e::es) t)(hbase:attributeBase o name X.env (eval o X.env)=eval o X.env:=by rfl)(hfew:((backTo cpos (starEach (e::es) X.env)).all (fun x=>!x.1)&&(backToKw cpos (keywordEach [] X.env)).all (fun x=>x.1.isSome)
 && decide ((e::es).length+([]:List Keyword).length+(if([]:List Keyword).isEmpty then 0 else 1)<30))=true:=by rfl) (hline:(apos.endLine==cpos.line)=true:=by rfl) (hs:starEach (e::es) X.env=(false,eval e X.env)::starEach es X.env:=by rfl) (hplain:(backTo cpos (starEach es X.env)).any (·.1)=false:=by rfl) :
 PE X (.Call (.Attribute o name apos) (e::es) [] cpos) (tBM X.K T r to t):=by
 intro pins s σ H Q I h;refine wpAny_Call_method_late hbase hfew hline rfl (thn (ho pins s σ H _ I h) fun v s1 ⟨x,H1,I1,r1,ty,q1⟩=>?_);obtain⟨h1,h2⟩:=zij I1 r1 ty;refine⟨T,id,pa,slot,hty,h1,h2,?_⟩;have hA:=ha cpos pins s1 σ H1 _ I1 q1;rw[hs] at hA ⊢;refine Calls.callWith_builtin (by show(false||(backTo cpos (starEach es X.env)).any (·.1))=false;rw[hplain]<;>rfl) (Calls.evalArgs_plain ?_);exact thn hA fun us s2 ⟨vs,H2,I2,r2,q2⟩=>hm pins s2 σ H2 x vs v us Q I2 r1 r2 q2
def MtM (X:Cx)(id:String)(r:V->List V->Hp->VK->Prop):Prop:=
 ∀(pins:List (Addr×Obj)) (s:Shared) (σ:St) (H:Hp) (x:V) (xs:List V) (v:Value) (us:List Value) (Q:VK),Inv X pins σ H s->RelV x v->Vals xs us->r x xs H Q->
  wpAny (model X.prog X.w) X.A (call (.builtin id) (v::us)) (EP X pins σ Q) X.xe s
theorem Vals.one:∀{x:V}{us:List Value},Vals [x] us->∃u,us=[u]/\RelV x u
 |_,_,.cons r .nil=>⟨_,rfl,r⟩
theorem Vals.rep (h:Vals xs us):∀k:Nat,Vals (List.replicate k xs).flatten (List.replicate k us).flatten
 |0=>.nil
 |k+1=>by
  rw[OI,OI,Ri,Ri];exact Vals.append h (Vals.rep h k)
theorem foldl_rep (its:List Value):∀(k:Nat) (acc:List Value),
 List.foldl (fun x1 x2=>x1++x2) acc.toArray (List.replicate k its.toArray)=(acc++(List.replicate k its).flatten).toArray
 |0,acc=>by simp
 |k+1,acc=>by
  have e:acc.toArray++its.toArray=(acc++its).toArray:=by simp
  have e2:(acc++its)++(List.replicate k its).flatten=acc++(List.replicate (k+1) its).flatten:=by
   rw[OI,Ri,U8]
  rw[<-e2,<-foldl_rep its k (acc++its),<-e,OI,Oz]
theorem Inv.lset (I:Inv X pins σ H s)(hH:H l=some (.lst xs))(e:s.heap.get? l=some { cls:=.type "list",data:=.seq its.toArray n })(hf:f its.toArray=its'.toArray)(hv:Vals ys its')(hz:ys.length<=sizeLine) :
 Inv X pins σ (upd H l (.lst ys)) { s with heap:=s.heap.update l (Obj.mapSeq f),toks:=t' }:=by
 have q:=PySem.IsL.update e f;rw[hf] at q;refine I.write (x:=l) (e:=l) (by rw[hH];exact trivial) (.inl rfl) (fun b' u hb hu=>(RI s.heap (Obj.mapSeq f) (OO hb)).trans hu) ⟨_,q⟩ ?_;exact⟨hz,its',_,hv,q⟩
theorem Inv.lnew (I:Inv X pins σ H s)(hv:Vals ys its)(hz:ys.length<=sizeLine) :
 Inv X pins σ (upd H s.heap.objs.size (.lst ys)) { s with heap:=s.heap.push { cls:=.type "list",data:=.seq its.toArray },toks:=t' }:=
 I.laid (fun _ _ q=>Ui _ q) (Ub _) ⟨hz,its,0,hv,UC _ rfl⟩
theorem Inv.fresh (I:Inv X pins σ H s):H s.heap.objs.size=none:=I.hok.fresh (Ub _)
theorem Inv.lstM (I:Inv X pins σ H s)(hH:H l=some (.lst xs)):xs.length<=sizeLine/\∃(its:List Value) (n:Nat),Vals xs its/\xs.length=its.length/\s.heap.get? l=some { cls:=.type "list",data:=.seq its.toArray n }:=by
 obtain⟨z,its,n,r,e⟩:=I.hok l _ hH;exact⟨z,its,n,r,r.length,e⟩
theorem zf8 (h:n<=sizeLine):Builtin.List.listTooLong n=false:=by
 unfold Builtin.List.listTooLong;exact UE (by lia)
def zg2:V->List V->Hp->VK->Prop:=fun x vs H Q=>∃l xs y,x=.ref l/\vs=[y]/\H l=some (.lst xs)/\xs.length<sizeLine/\Q .non (upd H l (.lst (xs++[y])))
theorem qw:MtM X "list.append" zg2:=by
 intro pins s σ H x vs v us Q I rx rv h;obtain⟨l,xs,y,rfl,rfl,hH,hz,q⟩:=h
 cases rx;obtain⟨u,rfl,ru⟩:=rv.one;obtain⟨z,its,n,r,hl,e⟩:=I.lstM hH;refine Nj U3 ⟨_,e,rfl⟩ F.entry_list_append (F.args_list_append_2 _ _) (PySem.list_append l its.toArray n u (by rw[Ul];lia)) ⟨e,?_⟩;refine⟨.non,_,I.lset (its':=its++[u]) hH e (by simp) (r.append (.cons ru .nil)) ?_,rfl,q⟩;rw[UD,List.length_singleton];lia
def zkF:R2:=fun x y H Q=>∃l b xs zs,x=.ref l/\y=.ref b/\H l=some (.lst xs)/\H b=some (.lst zs)/\xs.length+zs.length<=sizeLine/\∀p,H p=none->Q (.ref p) (upd H p (.lst (xs++zs)))
theorem vR:OpR X (binaryOp .Add) zkF:=by
 intro pins s σ H x y v u Q I rx ry h;obtain⟨l,b,xs,zs,rfl,rfl,hH,hB,hz,q⟩:=h
 cases rx
 cases ry;obtain⟨z,its,n,r,hl,e⟩:=I.lstM hH;obtain⟨z2,its2,n2,r2,hl2,e2⟩:=I.lstM hB;refine PySem.P.add_list e e2 ?_ (by rw[Ul,Ul];lia);have ea:its.toArray++its2.toArray=(its++its2).toArray:=by simp
 rw[ea];exact⟨.ref _,_,I.lnew (t':=s.toks) (r.append r2) (by rw[UD];lia),rfl,q _ I.fresh⟩
def zky:R2:=fun x y H Q=>∃l k xs,x=.ref l/\y=.int k/\H l=some (.lst xs)/\-(2^63)<=k/\k<2^63/\xs.length*k.toNat<=sizeLine/\
 ∀p,H p=none->Q (.ref p) (upd H p (.lst (List.replicate k.toNat xs).flatten))
theorem len_rep (xs:List α)(k:Nat):(List.replicate k xs).flatten.length=k*xs.length:=by
 induction k with
 |zero=>simp
 |succ k ih=>rw[OI,Ri,UD,ih,Nat.succ_mul,Nat.add_comm]
theorem zbh:OpR X (binaryOp .Mult) zky:=by
 intro pins s σ H x y v u Q I rx ry h;obtain⟨l,k,xs,rfl,rfl,hH,h1,h2,hz,q⟩:=h
 cases rx;obtain⟨t,rfl⟩:=ry;obtain⟨z,its,n,r,hl,e⟩:=I.lstM hH;have hlen:its.toArray.size*k.toNat<=sizeLine:=by rw[Ul,<-hl];exact hz
 have hcap:¬its.toArray.size*k.toNat>(2^63-1)/8:=by
  have:(sizeLine:Nat)<=(2^63-1)/8:=by decide
  lia
 have hfit:¬(!Builtin.List.listFitsIndex k)=true:=by
  rw[fitsIndex_both h1 h2];exact UH
 have hlong:¬Builtin.List.listTooLong (its.toArray.size*k.toNat)=true:=by
  rw[zf8 hlen];exact UH
 have hnew:List.foldl (fun x1 x2=>x1++x2) #[] (List.replicate (if its.toArray.isEmpty=true then 0 else k.toNat) its.toArray)=(List.replicate k.toNat its).flatten.toArray:=by
  have f0:∀m:Nat,List.foldl (fun x1 x2=>x1++x2) #[] (List.replicate m its.toArray)=(List.replicate m its).flatten.toArray:=fun m=>by
   have:=foldl_rep its m [];rw[Tr] at this;exact this
  rw[f0]
  cases its with
  |nil=>simp
  |cons a r'=>rw[Ur (by simp)]
 refine wpAny_binaryOp_repeat_ref (T:="list") (U:="int") (by decide) ⟨_,e,rfl⟩ (fun s'=>typeIs_int s' k t) noFill_list_mul F.fills_int_mul F.slot_int_rmul repeat_list F.slot_int_index.lookup
  (Nj F.slot_int_rmul (typeIs_int s k t) F.entry_int_rmul (F.args_int_rmul_2 _ _) (int___rmul___int_list k t l its.toArray n)
    ⟨e,rfl,⟨_,e,rfl⟩,Nj F.slot_list_mul ⟨_,e,rfl⟩ F.entry_list_mul (F.args_list_mul_2 _ _) (AutoListH.list___mul___list_int_3 l its.toArray n k t hfit hcap hlong) ⟨e,?_⟩⟩)
 rw[hnew];exact⟨.ref _,_,I.lnew (t':=s.toks) (r.rep k.toNat) (by rw[len_rep,Nat.mul_comm];exact hz),rfl,q _ I.fresh⟩
theorem zai:∀{vs:List Value}{ns:List Int},IntsAre vs ns->Vals (ns.map V.int) vs
 |_,_,.nil=>.nil
 |_,_,.cons n t h=>.cons ⟨t,rfl⟩ (zai h)
abbrev CX0:CXT:=fun _ _ _ _ _ _=>False
abbrev E0:XK:=fun _ _ _=>False
theorem zp:ki CX0 X E0:=fun _ _ _ _ _ _ _ h=>h.elim
structure Fun (K:Frag)(x qual:Str)(st:Stmt)(f:Addr)(fd:FuncData):Prop where
 ex:∃(oc:Value) (od:Option Addr) (kV doc pm:Value) (an:Option Addr) (cdv ct:Value) (osl:Array (Option Value)),
  fd=fnOf x qual (xr st) (qS st) (zh st) .none kV doc pm an cdv ct/\K.lookup f=some ⟨oc,od,.func fd,osl⟩/\codeIn K cdv qual=true
 kp:keepIn K (.ref f)=true
theorem Fun.ok {st:Stmt}(F:Fun K x qual st f fd)(S:zt N ps (zh st))(len:∀vs H Q E,sp vs H Q E->vs.length=ps.length)(hbody:∀(cdv:Value) (A:Around) (outer:List Env) (s:Shared) (H:Hp) (vs:List V) (Q:VK) (E:XK),Room k (A.deeper (envOfC qual (zh st) s.heap.objs.size f cdv))->sp vs H Q E->
 ∃t,PSs (zbC CX0 P w K mg base N qual (zh st) f cdv A outer s H E).nox (qS st) t/\t { nx:=fun _ H'=>Q .non H',rt:=Q } (start N vs) H):FnOk P w K mg base CX0 (k+1) f fd ps sp:=by
 obtain⟨oc,od,kV,doc,pm,an,cdv,ct,osl,rfl,lk,hcd⟩:=F.ex;refine zia lk hcd S len fun A outer s H vs Q E hr hsp=>?_;obtain⟨t,h,q⟩:=hbody cdv A outer s H vs Q E hr hsp;exact⟨t,h.nox,q⟩
theorem Fun.binds {st:Stmt}(F:Fun K x qual st f fd)(h:∀(kV doc pm:Value) (an:Option Addr) (cdv ct:Value) (us:List Value),us.length=ps.length->bindArgs (fnOf x qual (xr st) (qS st) (zh st) .none kV doc pm an cdv ct) ⟨us,[]⟩=pure (ps.zip us)):Binds K fd ps []:=by
 obtain⟨oc,od,kV,doc,pm,an,cdv,ct,osl,rfl,lk,hcd⟩:=F.ex;exact .all (h kV doc pm an cdv ct)
theorem pv (i:Nat)(hN:X.N[i]?=some x:=by rfl)(hv:Vis X.env.scope x:=by first|exact Or.inl rfl|exact Or.inr (Or.inl rfl)|exact Or.inr (Or.inr rfl))(hd:(x==("__debug__":Str))=false:=by decide)(hcd:(x==("__classdict__":Str))=false:=by decide):PE X (.Name x pos) (bR i):=zdf hN hv hd hcd
theorem qz {A:Prop}(h:B):if false=true then A else B:=by
 rw[Ur UH];exact h
theorem wm {A:Prop}(h:A):if true=true then A else B:=by
 rw[Uv rfl];exact h
theorem qB {A:Prop}[Decidable c](h1:c->A)(h2:¬c->B):if c then A else B:=by
 by_cases h:c
 ·rw[Uv h];exact h1 h
 ·rw[Ur h];exact h2 h
theorem zh8 {A:Prop}[Decidable c](hc:c)(h:B):if(!decide c)=true then A else B:=by
 rw[Uy hc];exact qz h
def Same (H H':Hp):Prop:=∀b o,H b=some o->H' b=some o
theorem Same.refl (H:Hp):Same H H:=fun _ _ h=>h
theorem Same.trans (a:Same H H1)(b:Same H1 H2):Same H H2:=fun c o h=>b c o (a c o h)
theorem Same.free (e:Same H H')(h:H' l=Option.none):H l=Option.none:=by
 cases q:H l with
 |none=>rfl
 |some o=>
  rw[e l o q] at h
  cases h
theorem Same.seq (e:Same H H')(h:SqL K H a xs):SqL K H' a xs:=by
 rcases h with(h|⟨o,h⟩)|h
 ·exact .inl (.inl (e _ _ h))
 ·exact .inl (.inr ⟨o,e _ _ h⟩)
 ·exact .inr h
abbrev TB:=St->Hp->(St->Hp->Prop)->Prop
def PTs (X:Cx)(ifs:List Expr)(t:TT):Prop:=
 ∀(pins:List (Addr×Obj)) (s:Shared) (σ:St) (H:Hp) (Q:Bool->Hp->Prop),Inv X pins σ H s->t σ H Q->
  wpAny (model X.prog X.w) X.A (forIn ifs true fun c r=>if r=true then do let ok <-isTrue c X.env (eval c X.env);pure (ForInStep.yield ok) else pure (ForInStep.yield r)) (TP X pins σ Q) X.xe s
def zim:TT:=fun _ H Q=>Q true H
theorem qe:PTs X [] zim:=fun _ _ _ H _ I h=>wpAny_tests_nil ⟨H,I,h⟩
theorem xm (h:PT X c t):PTs X [c] t:=fun pins s σ H Q I hq=>wpAny_tests_one (h pins s σ H Q I hq)
def xO (elt:Expr)(gens:List Comprehension)(scope:Scope)(pos:Pos)(d:Nat)(it acc:Value)(env:Env):Sem Fin:=
 match gens[d+1]? with
 |some g'=>do
  let x <-eval g'.iter env
  standAt g'.iter.pos
  let x <-if g'.is_async != 0 then foldedIterable g'.iter x else foldedSetIterable g'.iter env x
  let _ <-runOwn (.compStart (.ListComp elt gens scope pos) (d+1) (<-holding [x] (if g'.is_async != 0 then asyncIter x else pyIter x)) acc env) env
  again (.compLoop (.ListComp elt gens scope pos) d it acc env)
 |none=>do
  (do let _ <-call (.builtin "list.append") [acc,<-eval elt env])
  again (.compLoop (.ListComp elt gens scope pos) d it acc env)
theorem zcN (elt:Expr)(gens:List Comprehension)(scope:Scope)(pos:Pos)(d:Nat)(it acc:Value)(env:Env)(target iter:Expr)(ifs:List Expr)(hg:gens[d]?=some ⟨target,iter,ifs,0⟩) :
 compTurn (.ListComp elt gens scope pos) d it acc env=(do
  standAt iter.pos
  match <-pyNext it with
  |none=>pure (.done .next)
  |some v=>do
   letOwnedTupleGo target it v
   assign target env v
   let ok <-forIn ifs true fun c r=>if r=true then do let ok <-isTrue c env (eval c env);pure (ForInStep.yield ok) else pure (ForInStep.yield r)
   if ok then xO elt gens scope pos d it acc env
   else again (.compLoop (.ListComp elt gens scope pos) d it acc env)):=by
 unfold compTurn xO;simp only[hg];rfl
def wI (J:It)(g:TG)(t:TT)(b:TB)(N:St->Hp->Prop)(σ:St)(H:Hp):Prop:=
 ∃W:Nat->Nat->St->Hp->Prop,(∃m,W 0 m σ H)/\∀i m σ H,W i m σ H->
  (J.stop i H/\N σ H)∨(J.go i H/\∃N':St->Hp->Prop,(∀σ' H',N' σ' H'->∃m',m'<m/\W (i+1) m' σ' H')/\∀x H',J.yld i H x H'->g x σ H' fun σ2 H2=>t σ2 H2 fun k H3=>if k=true then b σ2 H3 N' else N' σ2 H3)
def PAf (X:Cx)(elt:Expr)(gens:List Comprehension)(scope:Scope)(pos:Pos)(d:Nat)(it acc:Value)(b:TB):Prop:=
 ∀(pins:List (Addr×Obj)) (s:Shared) (σ:St) (H:Hp) (N:St->Hp->Prop),Inv X pins σ H s->b σ H N->
  wpAny (model X.prog X.w) X.A (xO elt gens scope pos d it acc X.env) (fun fin s'=>fin=.again (.compLoop (.ListComp elt gens scope pos) d it acc X.env)/\∃σ' H',Inv X pins σ' H' s'/\N σ' H') X.xe s
theorem zaF {gens:List Comprehension}{d:Nat}{acc:Value}{t:TT}{b:TB}{N:St->Hp->Prop}{J:It}{it:Addr}{tn:Nat->Heap->Prop}{σ:St}(hx:X.xe=fun _ _=>False)(hc:X.calm=true)(hg:gens[d]?=some ⟨tg,iter,ifs,0⟩)(hgt:PG X tg g)(ht:PTs X ifs t)(hb:PAf X elt gens scope pos d (.ref it) acc b)(T:Turn X.prog X.w X.K tg J fp it tn)(I:Inv X pins σ H s)(st:tn 0 s.heap)(f2:∀b∈fp,j9 X pins H b)(w:wI J g t b N σ H) :
 codeAny (model X.prog X.w) X.A (.compLoop (.ListComp elt gens scope pos) d (.ref it) acc X.env) (fun r s'=>match r with | .ok _=>∃σ' H',Inv X pins σ' H' s'/\N σ' H' | .error _=>False) s:=by
 obtain⟨W,⟨m0,w0⟩,turn⟩:=w;have stat:∀{H':Hp},(∀b∈fp,H' b=none)->∀b∈fp,j9 X pins H' b:=fun hn b hb=>⟨hn b hb,(f2 b hb).2⟩;refine codeAny_loop rfl (fun n s'=>∃i σ' H',Inv X pins σ' H' s'/\tn i s'.heap/\(∀b∈fp,H' b=none)/\W i n σ' H') ?_ m0 ⟨0,σ,H,I,st,fun b hb=>(f2 b hb).1,w0⟩;rintro n s3 ⟨i,σ3,H3,I3,st3,fr3,w3⟩;show wpAny _ X.A ((compTurn (.ListComp elt gens scope pos) d (.ref it) acc X.env).onRaise (fun x=>do noteFrame x X.env;theTreesLotGoes x)) _ _ s3;refine wpAny_noted ?_;rw[zcN _ _ _ _ _ _ _ _ _ _ _ hg]
 have weak:∀{α:Type}{m:Sem α}{Q Q':α->Shared->Prop}{E':Value->Shared->Prop}{s:Shared},wpAny (model X.prog X.w) X.A m Q X.xe s->(∀a s,Q a s->Q' a s)->wpAny (model X.prog X.w) X.A m Q' E' s:=fun h hQ=>by
  rw[hx] at h;exact OK h hQ fun _ _ z=>False.elim z
 refine Uc (R8 (Uc ?_));rcases turn i n σ3 H3 w3 with⟨stop,qn⟩|⟨go,N',hN,step⟩
 ·refine weak (T.done X rfl rfl rfl hc i pins s3 σ3 H3 X.xe I3 (stat fr3) st3 stop) fun r s4 ⟨hr,I4⟩=>?_;subst hr;exact Uj ⟨σ3,H3,I4,qn⟩
 ·refine weak (T.item X rfl rfl rfl hc i pins s3 σ3 H3 X.xe I3 (stat fr3) st3 go) fun r s4 ⟨u,hr,h4⟩=>?_;subst hr;refine Uc (weak h4 fun _ s5 ⟨x,H5,I5,r5,y5,st5,fr5⟩=>?_);have I5':=I5.pinned (stat fr5) (T.obj _ _ st5);refine Uc (weak (hgt _ s5 σ3 H5 x u _ I5' r5 (step x H5 y5)) fun _ s6 ⟨σ6,H6,I6,q6⟩=>?_);refine Uc (weak (ht _ s6 σ6 H6 _ I6 q6) fun k s7 ⟨H7,I7,q7⟩=>?_)
  have again:∀{s8:Shared}{σ8:St}{H8:Hp},Inv X (pins++dk fp s5.heap) σ8 H8 s8->N' σ8 H8->∃m,m<n/\∃i σ' H',Inv X pins σ' H' s8/\tn i s8.heap/\(∀b∈fp,H' b=none)/\W i m σ' H':=fun {s8 σ8 H8} I8 n8=>by
   obtain⟨m',hm,w8⟩:=hN σ8 H8 n8;refine⟨m',hm,i+1,σ8,H8,I8.unpinned,T.keep _ _ _ st5 fun b hb o e=>(I8.pin (b,o) (UF _ (UF _ (wj hb e)))).1,fun b hb=>?_,w8⟩;obtain⟨o,e,d⟩:=T.obj _ _ st5 b hb;exact(I8.pin (b,o) (UF _ (UF _ (wj hb e)))).2.1
  cases k with
  |false=>exact Uj ⟨rfl,again I7 q7⟩
  |true=>
   refine weak (hb _ s7 σ6 H7 N' I7 q7) fun fin s8 ⟨e,σ8,H8,I8,q8⟩=>?_;subst e;exact⟨rfl,again I8 q8⟩
theorem pb (hg:gens[d]?=some ⟨tg,iter,ifs,0⟩)(h0:codeAny (model P w) A (.compLoop (.ListComp elt gens scope pos) d it acc env) R s)(h:wpAny (model P w) A (pyIter it) (fun it' s'=>codeAny (model P w) A (.compLoop (.ListComp elt gens scope pos) d it' acc env) R s') (notedBy (model P w) A env fun x s'=>R (.error x) s') s) :
 codeAny (model P w) A (.compStart (.ListComp elt gens scope pos) d it acc env) R s:=by
 refine codeAny_of_tree ?_;show wpAny _ _ ((compStart (.ListComp elt gens scope pos) d it acc env).onRaise (fun x=>do noteFrame x env;standAt theWindowsPlace)) _ _ s;refine wpAny_notedAt ?_;unfold compStart;show wpAny _ _ (if(gens[d]?).elim false (·.is_async != 0)=true then _ else _) _ _ s;rw[hg];show wpAny _ _ (ask >>= _) _ _ s;refine Uc (wpAny_askSetting (wpAny_ite ?_));split
 ·first
   |exact Uc (Uj (Uj (And.intro rfl h0)))
   |exact Uj (And.intro rfl h0)
 ·refine Uc (RE ?_);dsimp only[clausesOf];rw[hg];exact Uc (R8 (Uc (OK h (fun it' s' h'=>Uj (And.intro rfl h')) fun _ _ x=>x)))
def zcU (acc:Addr)(te:TE):TB:=fun σ H N=>te σ H fun x H1=>∃xs,H1 acc=some (.lst xs)/\xs.length<sizeLine/\N σ (upd H1 acc (.lst (xs++[x])))
theorem zP (h1:gens[d+1]?=none)(he:PE X elt te):PAf X elt gens scope pos d it (.ref a) (zcU a te):=by
 intro pins s σ H N I h;unfold xO;rw[h1];refine Uc (Uc (thn (he pins s σ H _ I h) fun v s1 ⟨x,H1,I1,r1,xs,e,z,q⟩=>?_));refine Uc (thn (qw pins s1 σ H1 (.ref a) [x] (.ref a) [v] (fun _ H2=>N σ H2) I1 rfl (.cons r1 .nil) ⟨a,xs,x,rfl,rfl,e,z,q⟩) fun _ s2 ⟨_,H2,I2,_,q2⟩=>?_);exact Uj (Uj ⟨rfl,σ,H2,I2,q2⟩)
def zkU (wi:TI)(g:TG)(t:TT)(b:TB):TB:=fun σ H N=>wi σ H fun J H1=>wI J g t b N σ H1
theorem zhd (hx:X.xe=fun _ _=>False)(hc:X.calm=true)(h1:gens[d+1]?=some ⟨tg',iter',ifs',0⟩)(hi:PI X tg' iter' wi)(hgt:PG X tg' g)(ht:PTs X ifs' t)(hb:∀it',PAf X elt gens scope pos (d+1) (.ref it') acc b)(hs:∀x,foldedSetIterable iter' X.env x=pure x:=by intro _;rfl):PAf X elt gens scope pos d it acc (zkU wi g t b):=by
 intro pins s σ H N I h;unfold xO;rw[h1];refine Uc (thn (hi pins s σ H _ I h) fun v s1 hi1=>?_);refine Uc (R8 ?_);show wpAny _ _ (foldedSetIterable iter' X.env v >>= _) _ _ s1;refine Uc (OZ (hs v) (Uc (Oc (thn hi1 fun itv s2 h2=>?_))));obtain⟨it',fp,tn,J,H2,e,I2,T,st2,f2,w2⟩:=h2;subst e;have lp:=zaF (elt:=elt) (scope:=scope) (pos:=pos) hx hc h1 hgt ht (hb it') T I2 st2 f2 w2;refine Uc (wpAny_runOwn (RO (R:=fun r s'=>match r with | .ok _=>∃σ' H',Inv X pins σ' H' s'/\N σ' H' | .error _=>False) (pb h1 lp (T.self _ _ _ _ _ st2 lp)) fun r s3 q3=>?_))
 cases r with
 |ok f=>
  exact Uj ⟨rfl,q3⟩
 |error e=>exact False.elim q3
theorem ph (h:∀x∈scope.names,x.2=.free->∃c,env.cells.lookup x.1=some c) :
 ∃cl,closureFor scope env=pure cl/\(∀x c,cl.lookup x=some c->env.cells.lookup x=some c)/\∀x∈scope.names,x.2=.free->∃c,cl.lookup x.1=some c:=by
 have key:∀(names:List (Str×NameKind)) (acc:List (Str×Addr)),(∀x∈names,x.2=.free->∃c,env.cells.lookup x.1=some c)->(∀x c,acc.lookup x=some c->env.cells.lookup x=some c)->
  ∃cl:List (Str×Addr),(forIn names acc fun(x:Str×NameKind) (r:List (Str×Addr))=>if(x.2==NameKind.free)=true then do let a <-cellOf env x.1;pure (ForInStep.yield ((x.1,a)::r)) else pure (ForInStep.yield r):Sem (List (Str×Addr)))=pure cl/\
   (∀x c,cl.lookup x=some c->env.cells.lookup x=some c)/\(∀x c,acc.lookup x=some c->∃c',cl.lookup x=some c')/\∀x∈names,x.2=.free->∃c,cl.lookup x.1=some c:=by
  intro names
  induction names with
  |nil=>intro acc _ ha;exact⟨acc,rfl,ha,fun x c e=>⟨c,e⟩,fun _ z=>nomatch z⟩
  |cons x r ih=>
   intro acc hn ha
   by_cases hk:(x.2==NameKind.free)=true
   ·obtain⟨c,hc⟩:=hn x Ug (by simpa using hk)
    have ha':∀y d,List.lookup y ((x.1,c)::acc)=some d->env.cells.lookup y=some d:=by
     intro y d e;rw[Oj] at e
     cases hy:y==x.1 with
     |true=>rw[hy] at e;cases e;rw[UN.mp hy];exact hc
     |false=>rw[hy] at e;exact ha y d e
    obtain⟨cl,e1,e2,e3,e4⟩:=ih ((x.1,c)::acc) (fun y hy=>hn y (Uh _ hy)) ha';refine⟨cl,?_,e2,fun y d e=>?_,fun y hy hf=>?_⟩
    ·rw[List.forIn_cons];simp only[hk,Tp,cellOf,hc];exact e1
    ·cases hy:y==x.1 with
     |true=>exact e3 y c (by rw[Oj,hy])
     |false=>exact e3 y d (by rw[Oj,hy];exact e)
    ·rcases Uw.mp hy with rfl|hy
     ·exact e3 y.1 c (by rw[Oj,Re])
     ·exact e4 y hy hf
   ·obtain⟨cl,e1,e2,e3,e4⟩:=ih acc (fun y hy=>hn y (Uh _ hy)) ha;refine⟨cl,?_,e2,e3,fun y hy hf=>?_⟩
    ·rw[List.forIn_cons];simp only[hk,OR];exact e1
    ·rcases Uw.mp hy with rfl|hy
     ·exact absurd (by simpa using hf) hk
     ·exact e4 y hy hf
 obtain⟨cl,e1,e2,_,e4⟩:=key scope.names [] h (fun _ _ z=>by simp at z);refine⟨cl,?_,e2,e4⟩;unfold closureFor;show(forIn scope.names [] _ >>= fun cs=>pure cs)=_;exact(O3 (fun m=>m >>= fun cs=>(pure cs:Sem _)) e1)
theorem kH {env:Env}:∀{names:List (Str×NameKind)}{x:Str},names.lookup x=some .free->
 ∃k,(k=NameKind.cell∨k=NameKind.free)/\(names.map fun(n,k)=>if(k==NameKind.free&&env.scope.kind==.function&&env.kindOf n==some .cell) then(n,NameKind.cell) else(n,k)).lookup x=some k
 |[],_,h=>by simp at h
 |(n,k)::r,x,h=>by
  have ih:=@kH env r x;show ∃k',_/\List.lookup x ((if(k==NameKind.free&&env.scope.kind==.function&&env.kindOf n==some .cell)=true then(n,NameKind.cell) else(n,k))::_)=_
  cases hx:x==n with
  |true=>
   simp only[Oj,hx] at h
   cases h
   by_cases hc:(NameKind.free==NameKind.free&&env.scope.kind==.function&&env.kindOf n==some .cell)=true
   ·rw[Uv hc];exact⟨.cell,.inl rfl,by simp only[Oj,hx]⟩
   ·rw[Ur hc];exact⟨.free,.inr rfl,by simp only[Oj,hx]⟩
  |false=>
   simp only[Oj,hx] at h;obtain⟨k',hk',e⟩:=ih h;refine⟨k',hk',?_⟩
   by_cases hc:(k==NameKind.free&&env.scope.kind==.function&&env.kindOf n==some .cell)=true
   ·rw[Uv hc];simp only[Oj,hx];exact e
   ·rw[Ur hc];simp only[Oj,hx];exact e
theorem dG {env:Env}:∀{names:List (Str×NameKind)}{x:Str}{k':NameKind},(k'=.cell∨k'=.free)->(∀y∈names,y.2≠.cell)->
 (names.map fun(n,k)=>if(k==NameKind.free&&env.scope.kind==.function&&env.kindOf n==some .cell) then(n,NameKind.cell) else(n,k)).lookup x=some k'->(x,NameKind.free)∈names
 |[],_,_,_,_,h=>by simp at h
 |(n,k)::r,x,k',hk',hc,h=>by
  have h2:List.lookup x ((if(k==NameKind.free&&env.scope.kind==.function&&env.kindOf n==some .cell)=true then(n,NameKind.cell) else(n,k))::(r.map fun(n,k)=>if(k==NameKind.free&&env.scope.kind==.function&&env.kindOf n==some .cell) then(n,NameKind.cell) else(n,k)))=some k':=h;have ih:=@dG env r x k' hk' (fun y hy=>hc y (Uh _ hy))
  cases hx:x==n with
  |true=>
   have e:x=n:=UN.mp hx;subst e
   by_cases hk:k=.free
   ·subst hk;exact Ug
   ·have hkf:(k==NameKind.free)=false:=by simpa using hk
    simp only[hkf,RP,UW,OR,Oj,Re,R5] at h2;subst h2;rcases hk' with z|z
    ·exact absurd z (hc (x,k) Ug)
    ·exact absurd z hk
  |false=>
   refine Uh _ (ih ?_)
   by_cases hcc:(k==NameKind.free&&env.scope.kind==.function&&env.kindOf n==some .cell)=true
   ·rw[Uv hcc] at h2;simp only[Oj,hx] at h2;exact h2
   ·rw[Ur hcc] at h2;simp only[Oj,hx] at h2;exact h2
def gr (cap:List (Option Nat))(σ:St):St:=cap.map fun o=>match o with|some i=>(σ[i]?).join|none=>none
def qh (No:List Str)(sc:Scope)(N:List Str)(cap:List (Option Nat))(scope:Scope):Bool:=
 scope.kind==.function&&cap.length==N.length
  && scope.names.all (fun y=>y.2 != .cell&&(y.2 != .local||scope.names.lookup y.1==some .local)&&(y.2 != .free||(sc.names.lookup y.1==some .cell||sc.names.lookup y.1==some .free)))
  && (cap.zip N).all (fun p=>match p.1 with|none=>true|some i=>No[i]?==some p.2&&scope.names.lookup p.2==some .free)
structure zaP (No:List Str)(sc:Scope)(N:List Str)(cap:List (Option Nat))(scope:Scope):Prop where
 kind:scope.kind=.function
 len:cap.length=N.length
 cell:∀y∈scope.names,y.2≠.cell
 names:∀y∈scope.names,y.2=.local->scope.names.lookup y.1=some .local
 free:∀y∈scope.names,y.2=.free->sc.names.lookup y.1=some .cell∨sc.names.lookup y.1=some .free
 cap:∀(j i:Nat) (x:Str),cap[j]?=some (some i)->N[j]?=some x->No[i]?=some x/\scope.names.lookup x=some .free
theorem zbI (h:qh No sc N cap scope=true):zaP No sc N cap scope:=by
 unfold qh at h;simp only[OQ,OE,UN,NN,or_eq_true] at h;obtain⟨⟨⟨h1,h2⟩,h3⟩,h4⟩:=h;refine⟨h1,h2,fun y hy=>(h3 y hy).1.1,fun y hy hl=>?_,fun y hy hf=>?_,fun j i x e1 e2=>?_⟩
 ·rcases(h3 y hy).1.2 with z|z
  ·exact absurd hl z
  ·exact z
 ·rcases(h3 y hy).2 with z|z
  ·exact absurd hf z
  ·exact z
 ·have hm:(some i,x)∈cap.zip N:=by
   refine Uu (i:=j) ?_;rw[List.getElem?_zip_eq_some];exact⟨e1,e2⟩
  have:=h4 _ hm;simpa using this
abbrev Cx.blk (X:Cx)(N:List Str)(scope:Scope)(cl:List (Str×Addr))(C:Addr)(s3:Shared)(H3:Hp)(fp:List Addr):Cx:=
 { X with N:=N,s₀:=s3,H₀:=H3,env:=compEnvC scope cl C X.env,outer:=X.stack,ex:=fp,fn:=fun _=>false,pn:=[],xe:=fun _ _=>False }
theorem zjh (I:Inv X pins σ H3 s3)(ok:zaP X.N X.env.scope N cap scope)(cl1:∀x c,cl.lookup x=some c->X.env.cells.lookup x=some c)(cl2:∀x∈scope.names,x.2=.free->∃c,cl.lookup x.1=some c)(hf:∀b∈fp,j9 X pins H3 b/\b<s3.heap.objs.size)(hC:s3.heap.objs.size=C)(hn:h4.Ns C m)(hk:∀b o,s3.heap.get? b=some o->h4.get? b=some o) :
 Inv (X.blk N scope cl C s3 H3 fp) [] (gr cap σ) H3 { s3 with heap:=h4,toks:=tk }:=by
 have ltC:∀b o,s3.heap.get? b=some o->b≠C:=fun b o e=>UO (hC▸UG e)
 have cellK:∀x c,cl.lookup x=some c->∃v,h4.IsCell c v:=fun x c e=>by
  obtain⟨v,o,ho,hd⟩:=I.cell x c (cl1 x c e);exact⟨v,o,hk c o ho,hd⟩
 have fr:H3 C=none:=I.hok.fresh (Tx hC)
 refine⟨⟨I.ok.mod,?_,I.ok.glob,I.ok.blt,?_,fun x y c e1 e2=>I.ok.inj x y c (cl1 _ _ e1) (cl1 _ _ e2),fun x hx=>?_,(fun x c z=>nomatch z),I.ok.hd,I.ok.frames,.inl rfl,fun b hb=>⟨?_,fun x c e=>?_⟩,
  I.bs,UU I.ok.bsz I.sz,fun b o e hb=>?_,fun b hb hb2=>?_,I.stack,I.stkFree⟩,rfl,I.bare,Un.kept hk,⟨m,hn,fun j x v e1 e2 e3=>?_⟩,cellK,fr,fun x c e=>I.freeC x c (cl1 x c e),fun p hp=>?_,I.hok.kept hk,?_⟩
 ·exact ok.kind
 ·exact Tx hC
 ·have hx':∃k',(k'=NameKind.cell∨k'=NameKind.free)/\(relabel scope X.env).names.lookup x=some k':=by
   rcases hx with z|z
   ·exact⟨_,.inl rfl,z⟩
   ·exact⟨_,.inr rfl,z⟩
  obtain⟨k',hk',z⟩:=hx';exact cl2 (x,.free) (dG hk' ok.cell z) rfl
 ·exact UO (hC▸(hf b hb).2)
 ·exact(hf b hb).1.2.2.2.2.1 x c (cl1 x c e)
 ·rcases(hf b hb).1.2.2.2.1 with z|z
  ·exact I.ok.noex b o e z
  ·exact absurd (UP (UG e) (UU I.ok.bsz z)) (O4 _)
 ·rcases Uw.mp (I.stkSub b hb2) with z|z
  ·exact(hf b hb).1.2.1 z
  ·exact(hf b hb).1.2.2.1 z
 ·unfold gr at e2;rw[Up] at e2
  cases hj:cap[j]? with
  |none=>rw[hj] at e2;cases e2
  |some o=>
   rw[hj] at e2
   cases o with
   |none=>cases e2
   |some i=>
    obtain⟨h1,h2⟩:=ok.cap j i x hj e1;have e2':(σ[i]?).join=some v:=UK e2
    have e4:σ[i]?=some (some v):=by
     cases hs:σ[i]? with
     |none=>rw[hs] at e2';cases e2'
     |some o=>rw[hs] at e2';exact O3 some e2'
    have hmem:(x,NameKind.free)∈scope.names:=by
     have key:∀(l:List (Str×NameKind)),l.lookup x=some NameKind.free->(x,NameKind.free)∈l:=by
      intro l
      induction l with
      |nil=>intro z;simp at z
      |cons y r ih=>
       intro z;rw[Oj] at z
       cases hxy:x==y.1 with
       |true=>rw[hxy] at z;have:=UN.mp hxy;have z2:y.2=.free:=UK z;rw[this,<-z2];exact Ug
       |false=>rw[hxy] at z;exact Uh _ (ih z)
     exact key _ h2
    have hout:=ok.free _ hmem rfl;obtain⟨m',hn',hl'⟩:=I.loc;obtain⟨u,r,l⟩:=hl' i x v h1 e4 (.inr hout);refine⟨u,r,.inr ⟨?_,?_⟩⟩
    ·obtain⟨k',hk',e⟩:=kH (env:=X.env) h2;rcases hk' with rfl|rfl
     ·exact .inl e
     ·exact .inr e
    ·rcases l with⟨kl,_⟩|⟨_,c,hc,o,ho,hd⟩
     ·rcases hout with z|z
      ·rw[show X.env.kindOf x=some .cell from z] at kl;cases kl
      ·rw[show X.env.kindOf x=some .free from z] at kl;cases kl
     ·obtain⟨c',hc'⟩:=cl2 _ hmem rfl;have e:=cl1 _ _ hc';have e':X.env.cells.lookup x=some c':=e;rw[hc] at e'
      cases e';exact⟨c,hc',o,hk c o ho,hd⟩
 ·exact nomatch hp
 ·unfold gr;rw[Ud];exact ok.len
theorem zhH (I:Inv X pins σ H3 s3)(I':Inv (X.blk N scope cl C s3 H3 fp) [] σ' H' s')(hf:∀b∈fp,j9 X pins H3 b)(hs:Heap.SameBut C s'.heap h')(hC:s3.heap.objs.size=C) :
 Inv X pins σ H' { s' with heap:=h' }:=by
 have hb:=I'.base;have neC:∀b o,s3.heap.get? b=some o->b≠C:=fun b o e=>UO (hC▸UG e);have ext:∀b o,b≠C->s'.heap.get? b=some o->h'.get? b=some o:=fun b o n e=>hs.extBut b o n e;refine I.call' (ch:=fp) I'.os ⟨fun b o e n h1 h2=>ext b o (neC b o e) (hb.keep b o e n h1 h2),fun b o e n h1 h2=>?_,fun b o e n h2=>hb.free b o e n h2,fun b o e h2=>?_,hb.tups,hb.frzs,hb.tbls⟩ (fun b u e=>?_) I'.bare fun b hb=>?_
 ·obtain⟨sl,q⟩:=hb.slot b o e n h1 h2;exact⟨sl,ext b _ (neC b o e) q⟩
 ·obtain⟨o',q⟩:=hb.there b o e h2;exact⟨o',ext b o' (neC b o e) q⟩
 ·have fr:H' C=none:=I'.free;refine(I'.hok b u e).stay (fun c v hc q=>ext c v ?_ q) (fun _ q=>q) fun _ _ q=>q;rintro rfl;rcases hc with z|z
  ·rw[<-z,fr] at e;cases e
  ·rw[fr] at z;cases z
 ·obtain⟨f0,f1,f2,f3,f4,f5⟩:=hf b hb;exact⟨f3,f1,f4,f5⟩
def zbY (wi:TI)(cap:List (Option Nat))(g:TG)(t:TT)(b:Addr->TB):TE:=fun σ H Q=>
 wi σ H fun J H1=>∀acc,H1 acc=none->wI J g t (b acc) (fun _ H2=>Q (.ref acc) H2) (gr cap σ) (upd H1 acc (.lst []))
theorem pf {rest:List Comprehension}{t:TT}{b:Addr->TB}{σ:St}{Q:VK}{s2:Shared}{itv:Value}{RR:Value->Addr->Result->Shared->Prop}(hc:X.calm=true)(ok:zaP X.N X.env.scope N cap scope)(cl1:∀x c,cl.lookup x=some c->X.env.cells.lookup x=some c)(cl2:∀x∈scope.names,x.2=.free->∃c,cl.lookup x.1=some c)(hb:∀cl C s3 H3 fp,PG (X.blk N scope cl C s3 H3 fp) tg g/\PTs (X.blk N scope cl C s3 H3 fp) ifs t/\∀it acc,PAf (X.blk N scope cl C s3 H3 fp) elt (⟨tg,iter,ifs,0⟩::rest) scope pos 0 (.ref it) (.ref acc) (b acc))(h:PIE X pins σ tg (fun J H1=>∀acc,H1 acc=none->wI J g t (b acc) (fun _ H2=>Q (.ref acc) H2) (gr cap σ) (upd H1 acc (.lst []))) itv s2)(hR:∀(acc C:Addr) (H':Hp) (s':Shared) (m:Str->Option Value),s'.heap.Ns C m->H' C=none->X.s₀.heap.objs.size<=C->C≠X.env.locals->(∀x c,X.env.cells.lookup x=some c->c≠C)->(∀p∈X.pn++pins,p.1≠C)->(∀h',Heap.SameBut C s'.heap h'->Inv X pins σ H' { s' with heap:=h' })->Q (.ref acc) H'->RR (.ref acc) C (.ok .next) s') :
 wpAny (model X.prog X.w) X.A (newList []) (fun acc s₃=>wpAny (model X.prog X.w) X.A (newFunctionEnv scope X.env.globals cl [] X.env.qual none .none (some X.env)) (fun cenv s₄=>
  codeAny (model X.prog X.w) X.A (.compStart (.ListComp elt (⟨tg,iter,ifs,0⟩::rest) scope pos) 0 itv acc { cenv with scope:=relabel scope X.env }) (fun r s'=>match r with | .ok _=>RR acc cenv.locals (.ok .next) s' | .error _=>False) s₄) X.xe s₃) X.xe s2:=by
 obtain⟨it,fp,tn,J,H2,e,I2,T,st2,f2,q⟩:=h;subst e;refine Ra (wpAny_newFunctionEnv ok.cell (by intro y hy;simp at hy) (fun h₁ hns₁ hsb₁=>?_) ok.kind);dsimp only at hns₁ hsb₁ ⊢;have I3:=I2.lnew (its:=[]) (ys:=[]) (t':=s2.toks) .nil (UI _);have fr:H2 s2.heap.objs.size=none:=I2.hok.fresh (Ub _)
 have hlt:∀b∈fp,b<s2.heap.objs.size:=fun b hb=>by
  obtain⟨o,e,_⟩:=T.obj 0 _ st2 b hb;exact UG e
 generalize hS3:({ s2 with heap:=s2.heap.push { cls:=.type "list",dict:=none,data:=.seq ([]:List Value).toArray } }:Shared)=s3 at *;have hS:s3.heap=s2.heap.push { cls:=.type "list",dict:=none,data:=.seq ([]:List Value).toArray }:=by rw[<-hS3]
 have hsz:s3.heap.objs.size=s2.heap.objs.size+1:=by rw[hS,Nf]
 have I3':Inv X pins σ (upd H2 s2.heap.objs.size (.lst [])) s3:=I3
 have hf3:∀b∈fp,j9 X pins (upd H2 s2.heap.objs.size (.lst [])) b/\b<s3.heap.objs.size:=fun b hb=>by
  have hl:=hlt b hb;refine⟨⟨?_,(f2 b hb).2⟩,?_⟩
  ·rw[zi (UO hl)];exact(f2 b hb).1
  ·rw[hsz];exact Rh hl
 rw[<-hS] at hns₁ hsb₁;have kp:∀b o,s3.heap.get? b=some o->h₁.get? b=some o:=fun b o e=>hsb₁.extBut b o (UO (UG e)) (Ui _ e);have kp2:∀b o,s2.heap.get? b=some o->h₁.get? b=some o:=fun b o e=>kp b o (by rw[hS];exact Ui _ e);rw[<-hS];obtain⟨hb1,hb2,hb3⟩:=hb cl s3.heap.objs.size s3 (upd H2 s2.heap.objs.size (.lst [])) fp;have e4:∀tk,({ s2 with heap:=h₁,toks:=tk }:Shared)={ s3 with heap:=h₁,toks:=tk }:=fun tk=>by rw[<-hS3]
 show codeAny _ _ (.compStart _ 0 (.ref it) (.ref s2.heap.objs.size) (compEnvC scope cl s3.heap.objs.size X.env)) _ _
 have I4:Inv (X.blk N scope cl s3.heap.objs.size s3 (upd H2 s2.heap.objs.size (.lst [])) fp) [] (gr cap σ) (upd H2 s2.heap.objs.size (.lst [])) { s3 with heap:=h₁,toks:=s3.toks }:=
  zjh (tk:=s3.toks) I3' ok cl1 cl2 hf3 rfl hns₁ kp
 have f4:∀b∈fp,j9 (X.blk N scope cl s3.heap.objs.size s3 (upd H2 s2.heap.objs.size (.lst [])) fp) [] (upd H2 s2.heap.objs.size (.lst [])) b:=fun b hb=>by
  obtain⟨⟨g0,g1,g2,g3,g4,g5⟩,g6⟩:=hf3 b hb;refine⟨g0,UO g6,fun z=>?_,.inl hb,fun x c e=>g4 x c (cl1 x c e),fun p hp=>nomatch hp⟩;rcases Uw.mp (I3'.stkSub b z) with z|z
  ·exact g1 z
  ·exact g2 z
 have st4:tn 0 h₁:=T.keep 0 _ _ st2 fun b hb o e=>kp2 b o e
 have lp:∀s4:Shared,s4={ s3 with heap:=h₁,toks:=s3.toks }->codeAny (model X.prog X.w) X.A (.compLoop (.ListComp elt (⟨tg,iter,ifs,0⟩::rest) scope pos) 0 (.ref it) (.ref s2.heap.objs.size) (compEnvC scope cl s3.heap.objs.size X.env)) (fun r s'=>match r with | .ok _=>RR (.ref s2.heap.objs.size) s3.heap.objs.size (.ok .next) s' | .error _=>False) s4:=by
  intro s4 e4;rw[e4];have lp:=zaF (X:=X.blk N scope cl s3.heap.objs.size s3 (upd H2 s2.heap.objs.size (.lst [])) fp) (d:=0) (N:=fun _ H2'=>Q (.ref s2.heap.objs.size) H2') rfl hc rfl hb1 hb2 (hb3 it s2.heap.objs.size) T I4 st4 f4 (q _ fr);refine RO lp fun r s' hr=>?_
  cases r with
  |error e=>exact hr
  |ok f=>
   obtain⟨σ',H',I',q'⟩:=hr;obtain⟨m,hn,_⟩:=I'.loc
   exact hR _ _ H' s' m hn I'.free I3'.sz (Nk I3'.lt) (fun x c e=>by
    obtain⟨v,z⟩:=I3'.cell x c e;exact UO z.lt) (fun p hp=>UO (UG (I3'.pin p hp).1)) (fun h' hs=>zhH I3' I' (fun b hb=>(hf3 b hb).1) hs rfl) q'
 refine pb rfl (lp _ ?_) (T.self _ 0 _ _ _ st4 (lp _ ?_))
 ·rw[<-hS3];rfl
 ·rw[<-hS3];rfl
theorem zel (I:Inv X pins σ H s)(ok:zaP X.N X.env.scope N cap scope) :
 ∃cl,closureFor scope X.env=pure cl/\(∀x c,cl.lookup x=some c->X.env.cells.lookup x=some c)/\∀x∈scope.names,x.2=.free->∃c,cl.lookup x.1=some c:=
 ph fun x hx hf=>I.ok.has x.1 (ok.free x hx hf)
theorem qf (hc:X.calm=true)(hok:qh X.N X.env.scope N cap scope=true)(hi:PI X tg iter wi)(hb:∀cl C s3 H3 fp,PG (X.blk N scope cl C s3 H3 fp) tg g/\PTs (X.blk N scope cl C s3 H3 fp) ifs t/\∀it acc,PAf (X.blk N scope cl C s3 H3 fp) elt (⟨tg,iter,ifs,0⟩::rest) scope pos 0 (.ref it) (.ref acc) (b acc))(hs:∀x,foldedSetIterable iter X.env x=pure x:=by intro _;rfl):PE X (.ListComp elt (⟨tg,iter,ifs,0⟩::rest) scope pos) (zbY wi cap g t b):=by
 intro pins s σ H Q I h;have ok:=zbI hok;obtain⟨cl,e0,cl1,cl2⟩:=zel I ok;rw[eval_ListComp];refine wpAny_comprehension_free (use:=none) rfl hs e0 ok.kind ok.names (thn (hi pins s σ H _ I h) fun v s1 h1=>thn h1 fun itv s2 h2=>?_);refine thn (pf (RR:=fun acc C=>compPost (model X.prog X.w) X.A X.xe none (EP X pins σ Q) acc C) hc ok cl1 cl2 hb h2 ?_) fun acc s3 h3=>thn h3 fun cenv s4 h4=>RO h4 fun r s' hr=>?_
 ·intro acc C H' s' m hn _ _ _ _ _ hI q;exact⟨m,hn,fun h' hs'=>⟨.ref acc,H',hI h' hs',rfl,q⟩⟩
 ·cases r with
  |ok f=>exact hr
  |error e=>exact False.elim hr
theorem qH (hc:X.calm=true)(hok:qh X.N X.env.scope N cap scope=true)(hN:X.N.Nodup)(hy:X.N[i]?=some y)(hx:X.env.scope.names.lookup y=some .local)(hi:PI X tg iter wi)(hb:∀cl C s3 H3 fp,PG (X.blk N scope cl C s3 H3 fp) tg g/\PTs (X.blk N scope cl C s3 H3 fp) ifs t/\∀it acc,PAf (X.blk N scope cl C s3 H3 fp) elt (⟨tg,iter,ifs,0⟩::rest) scope pos 0 (.ref it) (.ref acc) (b acc))(hs:∀x,foldedSetIterable iter X.env x=pure x:=by intro _;rfl)(hsw:swapsWith (.ListComp elt (⟨tg,iter,ifs,0⟩::rest) scope pos) (some (.Name y py)) spos.line X.env=pure true:=by rfl) :
 PS X (.Assign [.Name y py] (.ListComp elt (⟨tg,iter,ifs,0⟩::rest) scope pos) spos) (zir (zbY wi cap g t b) (zx i)):=by
 intro pins s σ H D I h;have ok:=zbI hok;obtain⟨cl,e0,cl1,cl2⟩:=zel I ok;rw[exec_Assign_Name_used _ _ _ _ hsw];refine Uc (R8 (Uc ?_));show wpAny _ X.A (do let _ <-comprehension (.ListComp elt (⟨tg,iter,ifs,0⟩::rest) scope pos) scope X.env _ (newList []) false (eval iter X.env) (some (assign (.Name y py) X.env))) _ _ s
 refine Uc (OK (wpAny_comprehension_free (use:=some (assign (.Name y py) X.env)) (Q:=fun _ s'=>SP X pins D .next s') rfl hs e0 ok.kind ok.names
  (thn (hi pins s σ H _ I h) fun v s1 h1=>thn h1 fun itv s2 h2=>?_)) (fun _ s' hq=>Uj (Uj hq)) fun _ _ e=>e)
 refine thn (pf (RR:=fun acc C=>compPost (model X.prog X.w) X.A X.xe (some (assign (.Name y py) X.env)) (fun _ s'=>SP X pins D .next s') acc C) (Q:=fun v H2=>D.nx (σ.set i (some v)) H2) hc ok cl1 cl2 hb h2 ?_) fun acc s3 h3=>thn h3 fun cenv s4 h4=>RO h4 fun r s' hr=>?_
 ·intro acc C H' s' m hn hfr hC1 hC2 hC3 hC4 hI q;have I':Inv X pins σ H' s':=hI s'.heap (.refl ..);show wpAny _ _ (assign (.Name y py) X.env (.ref acc)) _ _ s';refine wpAny_assign_Name (zaj I' hN hy (.inl hx) (v:=.ref acc) rfl (fun s2 I2 ⟨a,hsa,ha⟩=>?_) (.inr hx))
  have haC:C≠a:=by
   rcases ha with z|z
   ·rw[z];exact hC2
   ·exact OO (hC3 y a z)
  refine⟨m,hn.sameBut hsa haC,fun h' hs'=>?_⟩;exact⟨_,H',I2.turned (it:=C) (t':=s2.toks) (fun b o hb e=>hs'.extBut b o hb e) hfr hC2 (.inr hC1) hC3 hC4,q⟩
 ·cases r with
  |ok f=>exact hr
  |error e=>exact False.elim hr
def ZS (b:Bool)(h:Heap)(l:Addr)(xs:Array Value):Prop:=∃o,h.get? l=some o/\o.cls=.type (if b then "tuple" else "list")/\∃n,o.data=.seq xs n
theorem ZS.at (z:ZS b h l xs)(e:∀o,h.get? l=some o->h'.get? l=some o):ZS b h' l xs:=let ⟨o,ho,r⟩:=z;⟨o,e o ho,r⟩
theorem zht (hs:ZS b s.heap l xs)(hQ:Q (.ref s.heap.objs.size) { s with heap:=s.heap.push { cls:=.type (if b then "tuple_iterator" else "list_iterator"),data:=.fields #[.ref l,.int 0 0] } }):wpAny (model P w) A (pyIter (.ref l)) Q E s:=by
 cases b with
 |true=>exact wpAny_pyIter_tuple hs hQ
 |false=>exact Oy hs hQ
abbrev zj0 (b:Bool)(l:Addr):Obj:={ cls:=.type (if b then "tuple_iterator" else "list_iterator"),data:=.fields #[.ref l,.int 0 0] }
def SqB (K:Frag)(b:Bool)(H:Hp)(a:Addr)(xs:List V):Prop:=if b then SqT K H a xs else SqL K H a xs
theorem Inv.seqB (I:Inv X pins σ H s)(h:SqB X.K b H a xs):∃its:List Value,Vals xs its/\ZS b s.heap a its.toArray/\xs.length<=sizeLine:=by
 cases b with
 |true=>
  obtain⟨its,r,p,z⟩:=I.tuple h;exact⟨its,r,p,z⟩
 |false=>
  obtain⟨its,r,p,z⟩:=I.list h;exact⟨its,r,p.isList,z⟩
theorem fv (ns:List Int):∀k,k<=ns.length->preSum (fun i=>ns.getD i 0) k=(ns.take k).sum
 |0,_=>by simp[preSum]
 |k+1,h=>by
  have e:ns.take (k+1)=ns.take k++[ns.getD k 0]:=by
   rw[O7,Ua (by lia)];simp[getD,Ua (show k<ns.length by lia)]
  rw[preSum,fv ns k (by lia),e,Tq];simp
theorem ints_get (r:Vals (ns.map V.int) its){i:Nat}(e:its.toArray[i]?=some v):∃t,v=.int (ns.getD i 0) t:=by
 have e':its[i]?=some v:=by simpa using e
 have hi:i<its.length:=(Ue.mp e').1;have hl:=r.length;rw[Ud] at hl
 have hx:(ns.map V.int)[i]?=some (V.int (ns.getD i 0)):=by
  rw[Up,Ua (show i<ns.length by lia)];simp[getD,Ua (show i<ns.length by lia)]
 obtain⟨u,hu,ru⟩:=r.get hx;rw[e'] at hu
 cases hu;exact ru
def zjM (K:Frag)(b:Bool):List V->Hp->VK->Prop:=fun xs H Q=>∃(p:Addr) (ns:List Int),xs=[.ref p]/\SqB K b H p (ns.map V.int)/\Q (.int ns.sum) H
theorem zgB (hc:X.calm=true)(b:Bool):jq X (.builtin "sum") (zjM X.K b):=by
 intro pins s σ H xs us Q I r h;obtain⟨p,ns,rfl,hq,q⟩:=h;obtain⟨u,rfl,ru⟩:=vals1 r
 cases ru;obtain⟨its,rv,zs,hz⟩:=I.seqB hq;have hlen:=rv.length;rw[Ud] at hlen;have hlt:p<s.heap.objs.size:=by obtain⟨o,e,_⟩:=zs;exact UG e
 refine call_sum_walkG (zht zs ?_)
 have sum_eq:preSum (fun i=>ns.getD i 0) its.toArray.size=ns.sum:=by
  rw[Ul,<-hlen,fv ns _ (Ub _),US]
 have fin:∀(h':Heap) (tk:Nat) (t':Tok),(∀c o,c∉[s.heap.objs.size]->(s.heap.push (zj0 b p)).get? c=some o->h'.get? c=some o)->EP X pins σ Q (.int (preSum (fun i=>ns.getD i 0) its.toArray.size) t') { s with heap:=h',toks:=tk }:=by
  intro h' tk t' k;rw[sum_eq];exact⟨.int ns.sum,H,I.kept fun c o e=>k c o (by simp only[Uz];exact UO (UG e)) (Ui _ e),⟨_,rfl⟩,q⟩
 have hfp:∀c∈[s.heap.objs.size,p],c<(s.heap.push (zj0 b p)).objs.size:=fun c hc=>by
  rw[Nf];simp only[Uw,Oq,RT] at hc;rcases hc with rfl|rfl
  ·exact Rr _
  ·exact Rh hlt
 cases b with
 |true=>exact⟨_,_,_,_,_,_,fun i=>ns.getD i 0,rfl,Walks.tuple (A:=X.A.in1) (I.ok.hd hc) _ p (UO hlt) its.toArray,⟨⟨_,UC _ rfl,rfl,rfl⟩,zs.at fun o e=>Ui _ e⟩,hfp,fun i v e=>ints_get rv e,fin⟩
 |false=>exact⟨_,_,_,_,_,_,fun i=>ns.getD i 0,rfl,Walks.list (A:=X.A.in1) (I.ok.hd hc) _ p (UO hlt) its.toArray,⟨⟨_,UC _ rfl,rfl,rfl⟩,zs.at fun o e=>Ui _ e⟩,hfp,fun i v e=>ints_get rv e,fin⟩
def fc (xs ys:List V):Bool:=xs.length==ys.length&&(List.range xs.length).all fun j=>eqV (xs.getD j .non) (ys.getD j .non)
theorem zgr (f:yN x=true):eqV x x=true:=by
 cases x<;>simp[eqV]<;>exact absurd (show false=true from f) UH
theorem zaD (f:xs.all yN=true):fc xs xs=true:=by
 unfold fc;rw[Re,RF,OE];intro j hj;have hj':j<xs.length:=OD.mp hj;refine zgr ?_;rw[OE] at f;simp only[getD,Ua hj',getD_some];exact f _ (Of hj')
theorem gq (h:xs.length≠ys.length):fc xs ys=false:=by
 unfold fc;rw[U4.mpr h,RP]
def zg1 (K:Frag)(b neg:Bool):R2:=fun x y H Q=>∃p q xs ys,x=.ref p/\y=.ref q/\SqB K b H p xs/\SqB K b H q ys/\xs.all yN=true/\ys.all yN=true/\Q (.bl (if neg then !fc xs ys else fc xs ys)) H
theorem yv (r1:Vals xs its)(r2:Vals ys its2)(f1:xs.all yN=true)(f2:ys.all yN=true) :
 ∀(j:Nat) (h1:j<its.toArray.size) (h2:j<its2.toArray.size),SeqAt.EqAt A s its.toArray[j] its2.toArray[j] (eqV (xs.getD j .non) (ys.getD j .non)):=by
 intro j h1 h2;have l1:=r1.length;have l2:=r2.length;rw[Ul] at h1 h2;have g1:xs[j]?=some (xs.getD j .non):=by simp[getD,Ua (show j<xs.length by lia)]
 have g2:ys[j]?=some (ys.getD j .non):=by simp[getD,Ua (show j<ys.length by lia)]
 obtain⟨u1,e1,q1⟩:=r1.get g1;obtain⟨u2,e2,q2⟩:=r2.get g2
 have z1:its.toArray[j]=u1:=by
  have:=Ue.mp e1;simpa using this.2
 have z2:its2.toArray[j]=u2:=by
  have:=Ue.mp e2;simpa using this.2
 rw[z1,z2];rw[OE] at f1 f2;exact zjc q1 q2 (f1 _ (Uu g1)) (f2 _ (Uu g2))
theorem zeL (b:Bool)(hu:X.A.units<cLine):OpR X (compareOp .Eq) (zg1 X.K b false):=by
 intro pins s σ H x y v u Q I rx ry h;obtain⟨p,q,xs,ys,rfl,rfl,hp,hq,f1,f2,k⟩:=h
 cases rx
 cases ry;obtain⟨its,r1,z1,_⟩:=I.seqB hp;obtain⟨its2,r2,z2,_⟩:=I.seqB hq;have l1:=r1.length;have l2:=r2.length;have fin:∀c:Bool,c=fc xs ys->EP X pins σ Q (.bool c) s:=fun c e=>⟨.bl c,H,I,rfl,by rw[e];exact k⟩
 cases b with
 |false=>
  by_cases hl:xs.length=ys.length
  ·refine SeqAt.eq_listAt z1 z2 (by rw[Ul,Ul];lia) hu (yv r1 r2 f1 f2) (fin _ ?_);unfold fc;rw[hl,Re,RF,Ul,<-l1,hl]
  ·refine SeqAt.eq_list_lengthsAt z1 z2 (by rw[Ul,Ul,NN];lia) hu (fin _ ?_);rw[gq hl]
 |true=>
  refine SeqAt.eq_tupleAt z1 z2 hu (yv r1 r2 f1 f2) (fin _ ?_);rw[Ul,Ul,<-l1,<-l2]
  by_cases hl:xs.length=ys.length
  ·unfold fc;rw[hl,Re,RF,Bool.and_true,Nat.min_self]
  ·rw[gq hl,U4.mpr hl,R7]
theorem zeK (b:Bool)(hu:X.A.units<cLine):OpR X (compareOp .NotEq) (zg1 X.K b true):=by
 intro pins s σ H x y v u Q I rx ry h;obtain⟨p,q,xs,ys,rfl,rfl,hp,hq,f1,f2,k⟩:=h
 cases rx
 cases ry;obtain⟨its,r1,z1,_⟩:=I.seqB hp;obtain⟨its2,r2,z2,_⟩:=I.seqB hq;have l1:=r1.length;have l2:=r2.length;have fin:∀c:Bool,c = !fc xs ys->EP X pins σ Q (.bool c) s:=fun c e=>⟨.bl c,H,I,rfl,by rw[e];exact k⟩
 cases b with
 |false=>
  by_cases hl:xs.length=ys.length
  ·refine SeqAt.RcNeAt.lists z1 z2 (by rw[Ul,Ul];lia) hu (yv r1 r2 f1 f2) _ _ _ _ (fin _ ?_);unfold fc;rw[hl,Re,RF,Ul,<-l1,hl]
  ·refine SeqAt.RcNeAt.lists_lengths z1 z2 (by rw[Ul,Ul,NN];lia) hu _ _ _ _ (fin _ ?_);rw[gq hl];rfl
 |true=>
  refine SeqAt.RcNeAt.tuples z1 z2 hu (yv r1 r2 f1 f2) _ _ _ _ (fin _ ?_);rw[Ul,Ul,<-l1,<-l2]
  by_cases hl:xs.length=ys.length
  ·unfold fc;rw[hl,Re,RF,Bool.and_true,Nat.min_self]
  ·rw[gq hl,U4.mpr hl,R7]
theorem ixL (h:X.K=K):IxR X (zjT K):=h▸zhs
theorem ixT (h:X.K=K):IxR X (zfT K):=h▸zi6
theorem slL (h:X.K=K):SlR X (zjN K):=h▸zgU
def zkD (K:Frag):List V->Hp->VK->Prop:=fun xs H Q=>∃p ys,xs=[.ref p]/\(SqL K H p ys∨SqT K H p ys)/\Q (.int ys.length) H
theorem jh (h:X.K=K):jq X (.builtin "len") (zkD K):=h▸zbF
theorem zkR (h:X.K=K)(hc:X.calm=true)(b:Bool):jq X (.builtin "sum") (zjM K b):=h▸zgB hc b
def ziy (K:Frag):List V->Hp->VK->Prop:=fun xs H Q=>∃p ys,xs=[.ref p]/\((SqL K H p ys/\∀l,H l=none->Q (.ref l) (upd H l (.tup ys)))∨(SqT K H p ys/\Q (.ref p) H))
theorem kg (h:X.K=K):jq X (.type "tuple") (ziy K):=h▸zaa
def zjS (K:Frag):List V->Hp->VK->Prop:=fun xs H Q=>∃p ys,xs=[.ref p]/\(SqL K H p ys∨SqT K H p ys)/\∀l,H l=none->Q (.ref l) (upd H l (.lst ys))
theorem zic (h:X.K=K):jq X (.type "list") (zjS K):=h▸zbE
theorem oEq (h:X.K=K)(b:Bool)(hu:X.A.units<cLine):OpR X (compareOp .Eq) (zg1 K b false):=h▸zeL b hu
theorem oNe (h:X.K=K)(b:Bool)(hu:X.A.units<cLine):OpR X (compareOp .NotEq) (zg1 K b true):=h▸zeK b hu
theorem piL (h:X.K=K)(hl:PE X l tl):PI X tg l (zh9 K tl):=h▸zg8 hl
theorem piT (h:X.K=K)(hl:PE X l tl):PI X tg l (zj1 K tl):=h▸ziH hl
theorem pgT (h:X.K=K)(hc:X.calm=true)(hh:PGs X es t)(hn:(assignEach es X.env).length=n:=by rfl)(hst:(assignEach es X.env).findIdx? (·.1)=none:=by rfl) :
 PG X (.Tuple es k pos) (zhw K n t):=h▸ziJ hc hh hn hst
def zbD (xs:List α)(lo hi:Option Int):List α:=(xs.drop (HT.sIx xs.length 0 lo)).take (HT.sIx xs.length xs.length hi-HT.sIx xs.length 0 lo)
theorem d9 (ns:List Int)(lo hi:Option Int):bx (ns.map V.int) lo hi=(zbD ns lo hi).map V.int:=by
 unfold bx zbD;rw[Ud,List.map_take,List.map_drop]
theorem Same.lay (h:H p=none):Same H (upd H p o):=fun b o' e=>by rw[zi (zf e h)];exact e
def mmL (b:Bool):String:=if b then "min.loop" else "max.loop"
def mmI (b:Bool):String:=if b then "min" else "max"
def ziU (b:Bool):CmpOp:=if b then .Lt else .Gt
def pick (bt:Nat->Nat->Bool):Nat->Option Nat
 |0=>none
 |i+1=>match pick bt i with
  |none=>some i
  |some j=>if bt i j then some i else some j
theorem yp:∀{n j:Nat},pick bt n=some j->j<n
 |0,_,h=>by cases h
 |n+1,j,h=>by
  unfold pick at h
  cases e:pick bt n with
  |none=>rw[e] at h;cases h;exact Rr _
  |some k=>
   rw[e] at h;have:=yp e;simp only at h;split at h
   ·cases h;exact Rr _
   ·cases h;lia
theorem jm:∀{n:Nat},pick bt n=none->n=0
 |0,_=>rfl
 |n+1,h=>by
  unfold pick at h
  cases e:pick bt n with
  |none=>rw[e] at h;cases h
  |some k=>rw[e] at h;simp only at h;split at h<;>cases h
theorem xq {id:String}(hb:entryFor table id=some b):(model P w).den (.builtin id args)=b args:=by
 show(match entryFor table id with|some b=>b args|none=>unsupported ((withoutEnding? id "#data").getD id))=_;rw[hb]
abbrev qW (its:Array Value)(c:Nat):Obj:={ cls:=.type "list",data:=.seq its c }
theorem zie (b:Bool)(a d:Value):argsOk (mmI b) ⟨[a],[(Str.ofString "default",d)]⟩:=by cases b<;>(unfold argsOk;kernel_rfl)
theorem zgG (b:Bool)(a v d:Value):argsOk (mmI b) ⟨[a],[(Str.ofString "key",v),(Str.ofString "default",d)]⟩:=by cases b<;>(unfold argsOk;kernel_rfl)
theorem zif (b:Bool)(a:Value):argsOk (mmI b) ⟨[a],[]⟩:=by cases b<;>(unfold argsOk;kernel_rfl)
def KeptH (xs:List V)(KV:Hp->Nat->V->Prop)(H:Hp)(jb:Option Nat)(its:Array Value):Prop:=match jb with
 |none=>its = #[]
 |some j=>∃x y u v,xs[j]?=some x/\RelV x u/\KV H j y/\RelV y v/\its = #[u,v]
theorem zgb {σ:St}{a:Addr}{S:Addr}{xs:List V}{KV:Hp->Nat->V->Prop}{bt:Nat->Nat->Bool}{key:Value}{R:Result->Shared->Prop}(b:Bool)(km:∀H H' i y,Same H H'->KV H i y->KV H' i y)(hc:X.calm=true)(hSI:S≠I)(hl:SqL X.K H0 a xs)(hkey:(key=.none/\∀i x,xs[i]?=some x->KV H0 i x)∨∃q,key=.ref q/\∀i x u (pins:List (Addr×Obj)) s H,xs[i]?=some x->Inv X pins σ H s->RelV x u->Same H0 H->
 wpAny (model X.prog X.w) X.A.in1 (call (.ref q) [u]) (fun v s'=>∃y H',Inv X pins σ H' s'/\RelV y v/\KV H' i y/\Same H H') (fun _ _=>False) s) (hcmp:∀i j y z v u s H (pins:List (Addr×Obj)) (Q:Value->Shared->Prop) (E:Value->Shared->Prop),KV H i y->KV H j z->Inv X pins σ H s->Same H0 H->RelV y v->RelV z u->Q (.bool (bt i j)) s->wpAny (model X.prog X.w) X.A.in1 (richCompare (ziU b) v u) Q E s) (hR:∀s' H',Inv X pins σ H' s'->Same H0 H'->match pick bt xs.length with
 |none=>∀d dn r,kw=(dn,d)::r->R (.ok (.ret d)) s'
 |some j=>∀x u,xs[j]?=some x->RelV x u->R (.ok (.ret u)) s') (hkw:kw=[]->0<xs.length) (I0:Inv X pins σ H0 s) (it0:s.heap.IsListIter I a 0) (fI:j9 X pins H0 I) (fS:j9 X pins H0 S){c0:Nat}(s0:s.heap.get? S=some (qW #[] c0)) :
 codeAny (model X.prog X.w) X.A (.builtin (mmL b) ⟨[.ref I,key,.ref S],kw⟩) R s:=by
 have hn1:(toString "min"++toString ".loop":String)="min.loop":=by decide
 have hn2:(toString "max"++toString ".loop":String)="max.loop":=by decide
 have stI:∀{H':Hp},H' I=none->j9 X pins H' I:=fun h=>⟨h,fI.2⟩;have stS:∀{H':Hp},H' S=none->j9 X pins H' S:=fun h=>⟨h,fS.2⟩
 have quiet:(Code.builtin (mmL b) ⟨[.ref I,key,.ref S],kw⟩).quiet=true:=by
  cases b
  ·exact O1 OU _
  ·exact O1 OT _
 refine codeAny_loop quiet (fun n s'=>∃i H its c,Inv X pins σ H s'/\Same H0 H/\s'.heap.IsListIter I a i/\H I=none/\H S=none/\s'.heap.get? S=some (qW its c)/\KeptH xs KV H (pick bt i) its/\i<=xs.length/\n=xs.length-i) ?_ xs.length
  ⟨0,H0,#[],c0,I0,Same.refl _,it0,fI.1,fS.1,s0,rfl,UI _,rfl⟩
 rintro n s1 ⟨i,H,its,c,I1,S1,hit,hI,hS,hob,hk,hi,rfl⟩;obtain⟨vs,rv,pl,hz⟩:=I1.list (S1.seq hl);have hlen:=rv.length
 have isz:its.size<=2:=by
  cases e:pick bt i with
  |none=>rw[e] at hk;rw[show its = #[] from hk];decide
  |some j=>rw[e] at hk;obtain⟨_,_,_,_,_,_,_,_,rfl⟩:=hk;exact Ub 2
 have hh:X.A.in1.handled=none:=I1.ok.hd hc
 cases hv:vs[i]? with
 |none=>
  have hil:i=xs.length:=by
   have:=TH.mp hv;lia
  cases b
  all_goals
   first|rw[show mmL false="max.loop" from rfl]|rw[show mmL true="min.loop" from rfl]
   first|rw[Ro OU _]|rw[Ro OT _]
   first|rw[xq entry_max_loop]|rw[xq entry_min_loop]
   show wpAny _ X.A.in1 (seqItems? (.ref S) >>= _) _ _ _;refine Uc (wpAny_seqItems hob rfl ?_);show wpAny _ X.A.in1 (tryCatch (pyNext (.ref I)) _ >>= _) _ _ _;refine Uc (Nd (wpAny_pyNext_list_end hh hit pl.isList (by simpa using hv) fun h' k'=>?_));have I2:Inv X pins σ H { s1 with heap:=h' }:=I1.turned (t':=s1.toks) (fun b' o hb e=>k' b' o hb e) hI fI.2.1 fI.2.2.2.1 fI.2.2.2.2.1 fI.2.2.2.2.2;have hob2:=k' S _ hSI hob
   cases e:pick bt i with
   |none=>
    rw[e] at hk;have hk:its = #[]:=hk;subst hk
    cases kw with
    |nil=>exact absurd (jm e) (by have:=hkw rfl;lia)
    |cons p r=>
     refine Uc (RE (Uj ?_));have:=hR _ H I2 S1;rw[<-hil,e] at this;exact this p.2 p.1 r rfl
   |some j=>
    rw[e] at hk;obtain⟨x,y,u,v,g1,g2,g3,g4,rfl⟩:=hk;show wpAny _ X.A.in1 (updateSeq S (fun _=>#[]) >>= _) _ _ _;refine Uc (TJ hob2 rfl (Uc (To (Uj ?_))));have:=hR _ H (I2.turned (it:=S) (h':=h'.update S (Obj.mapSeq fun _=>#[])) (t':=s1.toks) (fun b' o hb e=>(RI _ _ (OO hb)).trans e) hS fS.2.1 fS.2.2.2.1 fS.2.2.2.2.1 fS.2.2.2.2.2) S1;rw[<-hil,e] at this;exact this x u g1 g2
 |some u=>
  have hil:i<vs.length:=(Ue.mp hv).1;obtain⟨x,hx⟩:∃x,xs[i]?=some x:=⟨xs[i]'(by lia),Ua (by lia)⟩;obtain⟨u',hu',ru⟩:=rv.get hx;rw[hv] at hu'
  cases hu'
  have tail:∀(s2:Shared) (H2:Hp) (y:V) (v:Value) (o2:Obj),Inv X (pins++[(I,o2),(S,qW its c)]) σ H2 s2->Same H H2->RelV y v->KV H2 i y->(o2.cls=.type "list_iterator"/\o2.data=.fields #[.ref a,.int ((i+1:Nat):Int) 0])->
   ∀jn,jn=pick bt (i+1)->∀its',KeptH xs KV H2 jn its'->its'.size=2->∀T:Nat,∃m,m<xs.length-i/\∃i' H' its c,Inv X pins σ H' { s2 with heap:=s2.heap.update S (Obj.mapSeq fun _=>its'),toks:=T }/\Same H0 H'/\(s2.heap.update S (Obj.mapSeq fun _=>its')).IsListIter I a i'/\H' I=none/\H' S=none/\(s2.heap.update S (Obj.mapSeq fun _=>its')).get? S=some (qW its c)/\KeptH xs KV H' (pick bt i') its/\i'<=xs.length/\m=xs.length-i':=by
   intro s2 H2 y v o2 J S2 ry hy ho jn hj its' hk' hz' T;have q1:=J.pin (I,o2) (by simp);have q2:=J.pin (S,qW its c) (by simp);have J1:Inv X pins σ H2 s2:=J.unpinned;have g:=Nr (c:="list") q2.1 (fun _=>its');refine⟨xs.length-(i+1),by lia,i+1,H2,its',_,J1.turned (it:=S) (fun b' o hb e=>(RI _ _ (OO hb)).trans e) q2.2.1 fS.2.1 fS.2.2.2.1 fS.2.2.2.2.1 fS.2.2.2.2.2,S1.trans S2,⟨o2,(RI _ _ hSI).trans q1.1,ho.1,ho.2⟩,q1.2.1,q2.2.1,g,by rw[<-hj];exact hk',by lia,rfl⟩
  have tail0:∀(s2:Shared) (H2:Hp) (o2:Obj),Inv X (pins++[(I,o2),(S,qW its c)]) σ H2 s2->Same H H2->(o2.cls=.type "list_iterator"/\o2.data=.fields #[.ref a,.int ((i+1:Nat):Int) 0])->KeptH xs KV H2 (pick bt (i+1)) its->
   ∃m,m<xs.length-i/\∃i' H' its c,Inv X pins σ H' s2/\Same H0 H'/\s2.heap.IsListIter I a i'/\H' I=none/\H' S=none/\s2.heap.get? S=some (qW its c)/\KeptH xs KV H' (pick bt i') its/\i'<=xs.length/\m=xs.length-i':=by
   intro s2 H2 o2 J S2 ho hk';have q1:=J.pin (I,o2) (by simp);have q2:=J.pin (S,qW its c) (by simp);exact⟨xs.length-(i+1),by lia,i+1,H2,its,c,J.unpinned,S1.trans S2,⟨o2,q1.1,ho.1,ho.2⟩,q1.2.1,q2.2.1,q2.1,hk',by lia,rfl⟩
  cases b
  all_goals
   first|rw[show mmL false="max.loop" from rfl]|rw[show mmL true="min.loop" from rfl]
   first|rw[Ro OU _]|rw[Ro OT _]
   first|rw[xq entry_max_loop]|rw[xq entry_min_loop]
   show wpAny _ X.A.in1 (seqItems? (.ref S) >>= _) _ _ _;refine Uc (wpAny_seqItems hob rfl ?_);show wpAny _ X.A.in1 (tryCatch (pyNext (.ref I)) _ >>= _) _ _ _;refine Uc (Nd (NA hit pl.isList (x:=u) (by simpa using hv) fun h' hit' k'=>?_));have I2:Inv X pins σ H { s1 with heap:=h' }:=I1.turned (t':=s1.toks) (fun b' o hb e=>(k'.2 b' hb).trans e) hI fI.2.1 fI.2.2.2.1 fI.2.2.2.2.1 fI.2.2.2.2.2;obtain⟨o2,ho2,hoc,hod⟩:=hit';have hob2:h'.get? S=some (qW its c):=(k'.2 S hSI).trans hob
   have I3:Inv X (pins++[(I,o2),(S,qW its c)]) σ H { s1 with heap:=h' }:=I2.pins_of fun p hp=>by
    rcases UJ.mp hp with z|z
    ·exact I2.pin p (UF _ z)
    ·simp only[Uw,Oq,RT] at z;rcases z with rfl|rfl
     ·exact⟨ho2,hI,fI.2.1,fI.2.2.1,fun v q=>by rw[hod] at q;cases q⟩
     ·exact⟨hob2,hS,fS.2.1,fS.2.2.1,fun v q=>by cases q⟩
   rcases hkey with⟨rfl,hk0⟩|⟨q,rfl,hq⟩
   ·refine Uc (Uj ?_);have hy:=km _ _ _ _ S1 (hk0 i x hx)
    cases e:pick bt i with
    |none=>
     rw[e] at hk;have hk:its = #[]:=hk;subst hk;have ep:pick bt (i+1)=some i:=by unfold pick;rw[e]
     refine Uc (TJ hob2 rfl ?_)
     first|rw[hn1]|rw[hn2]
     exact Uj ⟨rfl,tail _ H x u o2 I3 (Same.refl _) ru hy ⟨hoc,hod⟩ _ ep.symm _ ⟨x,x,u,u,hx,ru,hy,ru,rfl⟩ rfl _⟩
    |some j=>
     rw[e] at hk;obtain⟨xo,yo,uo,vo,g1,g2,g3,g4,rfl⟩:=hk;show wpAny _ X.A.in1 (tryCatch (holding [u,u] (richCompare _ u vo >>= _)) _ >>= _) _ _ _;refine Uc (Nd (Oc (Uc (hcmp i j x yo u vo _ H _ _ _ hy g3 I3 S1 ru g4 (Uc (Oc (Ox (Uc (To (Uj ?_))))))))))
     cases eb:bt i j with
     |true=>
      have ep:pick bt (i+1)=some i:=by unfold pick;rw[e];simp only[eb,Tp]
      refine Uc (TJ hob2 rfl (Uc (To ?_)))
      first|rw[hn1]|rw[hn2]
      exact Uj ⟨rfl,tail _ H x u o2 I3 (Same.refl _) ru hy ⟨hoc,hod⟩ _ ep.symm _ ⟨x,x,u,u,hx,ru,hy,ru,rfl⟩ rfl _⟩
     |false=>
      have ep:pick bt (i+1)=some j:=by unfold pick;rw[e];simp only[eb,UW,OR]
      refine Uc (To ?_)
      first|rw[hn1]|rw[hn2]
      exact Uj ⟨rfl,tail0 _ H o2 I3 (Same.refl _) ⟨hoc,hod⟩ (by rw[ep];exact⟨xo,yo,uo,vo,g1,g2,g3,g4,rfl⟩)⟩
   ·show wpAny _ X.A.in1 (tryCatch (holding [u] (call (.ref q) [u])) _ >>= _) _ _ _;refine Uc (Nd (Oc (OK (hq i x u _ _ H hx I3 ru S1) (fun v s2 ⟨y,H2,J,ry,hy,S2⟩=>?_) fun _ _ z=>z.elim)));have hob3:=(J.pin (S,qW its c) (by simp)).1
    cases e:pick bt i with
    |none=>
     rw[e] at hk;have hk:its = #[]:=hk;subst hk;have ep:pick bt (i+1)=some i:=by unfold pick;rw[e]
     refine Uc (TJ hob3 rfl ?_)
     first|rw[hn1]|rw[hn2]
     exact Uj ⟨rfl,tail _ H2 y v o2 J S2 ry hy ⟨hoc,hod⟩ _ ep.symm _ ⟨x,y,u,v,hx,ru,hy,ry,rfl⟩ rfl _⟩
    |some j=>
     rw[e] at hk;obtain⟨xo,yo,uo,vo,g1,g2,g3,g4,rfl⟩:=hk;show wpAny _ X.A.in1 (tryCatch (holding [u,v] (richCompare _ v vo >>= _)) _ >>= _) _ _ _;refine Uc (Nd (Oc (Uc (hcmp i j y yo v vo _ H2 _ _ _ hy (km _ _ _ _ S2 g3) J (S1.trans S2) ry g4 (Uc (Oc (Ox (Uc (To (Uj ?_))))))))))
     cases eb:bt i j with
     |true=>
      have ep:pick bt (i+1)=some i:=by unfold pick;rw[e];simp only[eb,Tp]
      refine Uc (TJ hob3 rfl (Uc (To ?_)))
      first|rw[hn1]|rw[hn2]
      exact Uj ⟨rfl,tail _ H2 y v o2 J S2 ry hy ⟨hoc,hod⟩ _ ep.symm _ ⟨x,y,u,v,hx,ru,hy,ry,rfl⟩ rfl _⟩
     |false=>
      have ep:pick bt (i+1)=some j:=by unfold pick;rw[e];simp only[eb,UW,OR]
      refine Uc (To ?_)
      first|rw[hn1]|rw[hn2]
      exact Uj ⟨rfl,tail0 _ H2 o2 J S2 ⟨hoc,hod⟩ (by rw[ep];exact⟨xo,yo,uo,vo,g1,g2,km _ _ _ _ S2 g3,g4,rfl⟩)⟩
theorem zid (b:Bool)(a v:Value):argsOk (mmI b) ⟨[a],[(Str.ofString "key",v)]⟩:=by cases b<;>(unfold argsOk;kernel_rfl)
inductive zaN:List (Str×Value)->Value->List (Str×Value)->Prop where
 |one:zaN [] .none []
 |dflt (d:Value):zaN [(Str.ofString "default",d)] .none [(Str.ofString "default",d)]
 |key (q:Addr) (d:Value):zaN [(Str.ofString "key",.ref q),(Str.ofString "default",d)] (.ref q) [(Str.ofString "default",d)]
 |key1 (q:Addr):zaN [(Str.ofString "key",.ref q)] (.ref q) []
theorem zcy {σ:St}{a:Addr}{xs:List V}{KV:Hp->Nat->V->Prop}{bt:Nat->Nat->Bool}{Q:VK}(b:Bool)(km:∀H H' i y,Same H H'->KV H i y->KV H' i y){kws:List (Str×Value)}{key:Value}(hkw:zaN kws key kw)(hc:X.calm=true)(I0:Inv X pins σ H s)(hl:SqL X.K H a xs)(hkey:(key=.none/\∀i x,xs[i]?=some x->KV H i x)∨∃q,key=.ref q/\∀i x u (pins:List (Addr×Obj)) s H',xs[i]?=some x->Inv X pins σ H' s->RelV x u->Same H H'->
 wpAny (model X.prog X.w) X.A.in1 (call (.ref q) [u]) (fun v s'=>∃y H2,Inv X pins σ H2 s'/\RelV y v/\KV H2 i y/\Same H' H2) (fun _ _=>False) s) (hcmp:∀i j y z v u s H' (pins:List (Addr×Obj)) (Q:Value->Shared->Prop) (E:Value->Shared->Prop),KV H' i y->KV H' j z->Inv X pins σ H' s->Same H H'->RelV y v->RelV z u->Q (.bool (bt i j)) s->wpAny (model X.prog X.w) X.A.in1 (richCompare (ziU b) v u) Q E s) (hn:kw=[]->0<xs.length) (hd:∀dn d r,kw=(dn,d)::r->d=.none) (hQ:∀H',Same H H'->match pick bt xs.length with|none=>Q .non H'|some j=>∀x,xs[j]?=some x->Q x H') :
 wpAny (model X.prog X.w) X.A (call (.builtin (mmI b)) [.ref a] kws) (EP X pins σ Q) X.xe s:=by
 have hn1:(toString "min"++toString ".loop":String)="min.loop":=by decide
 have hn2:(toString "max"++toString ".loop":String)="max.loop":=by decide
 obtain⟨vs,rv,pl,hz⟩:=I0.list hl;have hls:=pl.isList;have e1:(s.heap.push { cls:=.type "list_iterator",data:=.fields #[.ref a,.int 0 0] }).objs.size=s.heap.objs.size+1:=Nf ..;have I1:Inv X pins σ H { s with heap:=(s.heap.push { cls:=.type "list_iterator",data:=.fields #[.ref a,.int 0 0] }).push (qW #[] 0) }:=I0.kept (t':=s.toks) fun b' o e=>Ui _ (Ui _ e);have gI:((s.heap.push { cls:=.type "list_iterator",data:=.fields #[.ref a,.int 0 0] }).push (qW #[] 0)).IsListIter s.heap.objs.size a 0:=⟨_,Ui _ (UC _ rfl),rfl,rfl⟩;have gS:((s.heap.push { cls:=.type "list_iterator",data:=.fields #[.ref a,.int 0 0] }).push (qW #[] 0)).get? (s.heap.push { cls:=.type "list_iterator",data:=.fields #[.ref a,.int 0 0] }).objs.size=some (qW #[] 0):=UC _ rfl;have fI:j9 X pins H s.heap.objs.size:=I0.fpOk (Ub _) (I0.hok.fresh (Ub _))
 have fS:j9 X pins H (s.heap.push { cls:=.type "list_iterator",data:=.fields #[.ref a,.int 0 0] }).objs.size:=by
  rw[e1];exact I0.fpOk (R3 _) (I0.hok.fresh (R3 _))
 have nSI:(s.heap.push { cls:=.type "list_iterator",data:=.fields #[.ref a,.int 0 0] }).objs.size≠s.heap.objs.size:=by rw[e1];exact Nk (Rr _)
 have lp:codeAny (model X.prog X.w) X.A (.builtin (mmL b) ⟨[.ref s.heap.objs.size,key,.ref (s.heap.push { cls:=.type "list_iterator",data:=.fields #[.ref a,.int 0 0] }).objs.size],kw⟩)
  (fun r s'=>match r with | .ok (.ret v)=>EP X pins σ Q v s' | .ok _=>False | .error e=>X.xe e s') { s with heap:=(s.heap.push { cls:=.type "list_iterator",data:=.fields #[.ref a,.int 0 0] }).push (qW #[] 0) }:=by
  refine zgb b km hc nSI hl hkey hcmp ?_ hn I1 gI fI fS gS;intro s' H' I' S';have q:=hQ H' S'
  cases e:pick bt xs.length with
  |none=>
   rw[e] at q;intro d dn r hk;have hd':=hd dn d r hk;subst hd';exact⟨.non,H',I',rfl,q⟩
  |some j=>
   rw[e] at q;intro x u hx ru;exact⟨x,H',I',ru,q x hx⟩
 cases b with
 |false=>
  cases hkw with
  |one=>
   refine OL Nb TM TQ (zif false _) ?_;show wpAny _ X.A.in1 (Builtin.Builtins.bindParams "max" ["key","default"] 0 ⟨[],[]⟩ >>= _) _ _ s;refine Uc (OZ (show Builtin.Builtins.bindParams "max" ["key","default"] 0 ⟨[],[]⟩=pure [none,none] from rfl) ?_);refine Uc (Uj ?_);refine Uc (Oy hls ?_);refine Uc (OS ?_ (UI _));rw[hn2];exact Uj ⟨O1 OU _,lp⟩
  |dflt d=>
   refine OL Nb TM TQ (zie false _ _) ?_;show wpAny _ X.A.in1 (Builtin.Builtins.bindParams "max" ["key","default"] 0 ⟨[],[(Str.ofString "default",d)]⟩ >>= _) _ _ s;refine Uc (OZ (show Builtin.Builtins.bindParams "max" ["key","default"] 0 ⟨[],[(Str.ofString "default",d)]⟩=pure [none,some d] from rfl) ?_);refine Uc (Uj ?_);refine Uc (Oy hls ?_);refine Uc (OS ?_ (UI _));rw[hn2];exact Uj ⟨O1 OU _,lp⟩
  |key q d=>
   refine OL Nb TM TQ (zgG false _ _ _) ?_;show wpAny _ X.A.in1 (Builtin.Builtins.bindParams "max" ["key","default"] 0 ⟨[],[(Str.ofString "key",.ref q),(Str.ofString "default",d)]⟩ >>= _) _ _ s;refine Uc (OZ (show Builtin.Builtins.bindParams "max" ["key","default"] 0 ⟨[],[(Str.ofString "key",.ref q),(Str.ofString "default",d)]⟩=pure [some (.ref q),some d] from rfl) ?_);refine Uc (Uj ?_);refine Uc (Oy hls ?_);refine Uc (OS ?_ (UI _));rw[hn2];exact Uj ⟨O1 OU _,lp⟩
  |key1 q=>
   refine OL Nb TM TQ (zid false _ _) ?_;show wpAny _ X.A.in1 (Builtin.Builtins.bindParams "max" ["key","default"] 0 ⟨[],[(Str.ofString "key",.ref q)]⟩ >>= _) _ _ s;refine Uc (OZ (show Builtin.Builtins.bindParams "max" ["key","default"] 0 ⟨[],[(Str.ofString "key",.ref q)]⟩=pure [some (.ref q),none] from rfl) ?_);refine Uc (Uj ?_);refine Uc (Oy hls ?_);refine Uc (OS ?_ (UI _));rw[hn2];exact Uj ⟨O1 OU _,lp⟩
 |true=>
  cases hkw with
  |one=>
   refine OL Na TL TN (zif true _) ?_;show wpAny _ X.A.in1 (Builtin.Builtins.bindParams "min" ["key","default"] 0 ⟨[],[]⟩ >>= _) _ _ s;refine Uc (OZ (show Builtin.Builtins.bindParams "min" ["key","default"] 0 ⟨[],[]⟩=pure [none,none] from rfl) ?_);refine Uc (Uj ?_);refine Uc (Oy hls ?_);refine Uc (OS ?_ (UI _));rw[hn1];exact Uj ⟨O1 OT _,lp⟩
  |dflt d=>
   refine OL Na TL TN (zie true _ _) ?_;show wpAny _ X.A.in1 (Builtin.Builtins.bindParams "min" ["key","default"] 0 ⟨[],[(Str.ofString "default",d)]⟩ >>= _) _ _ s;refine Uc (OZ (show Builtin.Builtins.bindParams "min" ["key","default"] 0 ⟨[],[(Str.ofString "default",d)]⟩=pure [none,some d] from rfl) ?_);refine Uc (Uj ?_);refine Uc (Oy hls ?_);refine Uc (OS ?_ (UI _));rw[hn1];exact Uj ⟨O1 OT _,lp⟩
  |key q d=>
   refine OL Na TL TN (zgG true _ _ _) ?_;show wpAny _ X.A.in1 (Builtin.Builtins.bindParams "min" ["key","default"] 0 ⟨[],[(Str.ofString "key",.ref q),(Str.ofString "default",d)]⟩ >>= _) _ _ s;refine Uc (OZ (show Builtin.Builtins.bindParams "min" ["key","default"] 0 ⟨[],[(Str.ofString "key",.ref q),(Str.ofString "default",d)]⟩=pure [some (.ref q),some d] from rfl) ?_);refine Uc (Uj ?_);refine Uc (Oy hls ?_);refine Uc (OS ?_ (UI _));rw[hn1];exact Uj ⟨O1 OT _,lp⟩
  |key1 q=>
   refine OL Na TL TN (zid true _ _) ?_;show wpAny _ X.A.in1 (Builtin.Builtins.bindParams "min" ["key","default"] 0 ⟨[],[(Str.ofString "key",.ref q)]⟩ >>= _) _ _ s;refine Uc (OZ (show Builtin.Builtins.bindParams "min" ["key","default"] 0 ⟨[],[(Str.ofString "key",.ref q)]⟩=pure [some (.ref q),none] from rfl) ?_);refine Uc (Uj ?_);refine Uc (Oy hls ?_);refine Uc (OS ?_ (UI _));rw[hn1];exact Uj ⟨O1 OT _,lp⟩
inductive zhP:List (Str×Value)->Value->List (Str×Value)->Prop
 |one:zhP [] .none []
 |dflt (d:Value):zhP [(Str.ofString "default",d)] .none [(Str.ofString "default",d)]
 |key (q:Addr) (d:Value):zhP [(Str.ofString "key",.ref q),(Str.ofString "default",d)] (.ref q) [(Str.ofString "default",d)]
theorem zbs {σ:St}{a:Addr}{xs:List V}{KV:Nat->V->Prop}{bt:Nat->Nat->Bool}{Q:VK}(b:Bool){kws kw:List (Str×Value)}{key:Value}(hkw:zhP kws key kw)(hc:X.calm=true)(I0:Inv X pins σ H s)(hl:SqL X.K H a xs)(hkey:(key=.none/\∀i x,xs[i]?=some x->KV i x)∨∃q,key=.ref q/\∀i x u (pins:List (Addr×Obj)) s H',xs[i]?=some x->Inv X pins σ H' s->RelV x u->Same H H'->
 wpAny (model X.prog X.w) X.A.in1 (call (.ref q) [u]) (fun v s'=>∃y H2,Inv X pins σ H2 s'/\RelV y v/\KV i y/\Same H' H2) (fun _ _=>False) s) (hcmp:∀i j y z v u s H' (pins:List (Addr×Obj)) (Q:Value->Shared->Prop) (E:Value->Shared->Prop),KV i y->KV j z->Inv X pins σ H' s->Same H H'->RelV y v->RelV z u->Q (.bool (bt i j)) s->wpAny (model X.prog X.w) X.A.in1 (richCompare (ziU b) v u) Q E s) (hn:kw=[]->0<xs.length) (hd:∀dn d r,kw=(dn,d)::r->d=.none) (hQ:∀H',Same H H'->match pick bt xs.length with|none=>Q .non H'|some j=>∀x,xs[j]?=some x->Q x H') :
 wpAny (model X.prog X.w) X.A (call (.builtin (mmI b)) [.ref a] kws) (EP X pins σ Q) X.xe s:=
 zcy b (KV:=fun _=>KV) (fun _ _ _ _ _ h=>h) (by cases hkw with|one=>exact .one|dflt d=>exact .dflt d|key q d=>exact .key q d) hc I0 hl hkey hcmp hn hd hQ
def zks (r:List V->List V->Hp->VK->Prop)(t tk:TA):TE:=fun σ H Q=>t σ H fun vs H1=>tk σ H1 fun zs H2=>r vs zs H2 Q
def zdE (X:Cx)(id:String)(ks:List Str)(r:List V->List V->Hp->VK->Prop):Prop:=
 ∀(pins:List (Addr×Obj)) (s:Shared) (σ:St) (H:Hp) (vs zs:List V) (us ws:List Value) (Q:VK),Inv X pins σ H s->Vals vs us->Vals zs ws->r vs zs H Q->
  wpAny (model X.prog X.w) X.A (call (.builtin id) us (ks.zip ws)) (EP X pins σ Q) X.xe s
theorem gP {id:String}(hc:zdE X id ks r)(hg:Gl X x)(hm:X.mg x=none)(hv:bootBuiltins x=some (.builtin id))(ha:PA X (e::es) t)(hk:PK X kws tk)(hn:x≠"__name__":=by decide)(hdb:(x==("__debug__":Str))=false:=by decide)(hks:(backToKw pos (keywordEach kws X.env)).filterMap (·.1)=ks:=by rfl)(he:backTo pos (starEach (e::es) X.env)=(false,eval e X.env)::backTo pos (starEach es X.env):=by rfl)(hplain:(backTo pos (starEach (e::es) X.env)).any (·.1)=false:=by rfl)(hall:(backToKw pos (keywordEach kws X.env)).all (·.1.isSome)=true:=by rfl)(hkw:(backToKw pos (keywordEach kws X.env)).any (·.1.isNone)=false:=by rfl):PE X (.Call (.Name x p) (e::es) kws pos) (zks r t tk):=by
 intro pins s σ H Q I h;refine O6 (xE I hg hm hv ?_ hn hdb);refine callWith_kw (thn (ha pos pins s σ H _ I h) fun us s1 ⟨vs,H1,I1,r1,q1⟩=>thn (hk pos pins s1 σ H1 _ I1 q1) fun ws s2 ⟨zs,H2,I2,r2,q2⟩=>?_) he hplain hall hkw;rw[hks];exact hc pins s2 σ H2 vs zs us ws Q I2 r1 r2 q2
def zhQ (bt:Nat->Nat->Bool)(xs:List V)(H:Hp)(Q:VK):Prop:=∀H',Same H H'->match pick bt xs.length with|none=>Q .non H'|some j=>∀x,xs[j]?=some x->Q x H'
def zjR (K:Frag):List V->List V->Hp->VK->Prop:=fun vs zs H Q=>∃(a:Addr) (xs:List V) (ms:Nat->List Int),vs=[.ref a]/\zs=[.non]/\SqL K H a xs/\(∀(i:Nat) x,xs[i]?=some x->∃q,x=.ref q/\H q=some (.tup ((ms i).map V.int)))/\zhQ (fun i j=>HT.lexLt (ms i) (ms j)) xs H Q
theorem zkb (hK:X.K=K)(hc:X.calm=true)(hu:X.A.in1.units<cLine):zdE X "min" [Str.ofString "default"] (zjR K):=by
 subst hK;intro pins s σ H vs zs us ws Q I r1 r2 h;obtain⟨a,xs,ms,rfl,rfl,hl,hi,hb⟩:=h;obtain⟨u,rfl,ru⟩:=vals1 r1
 cases ru;obtain⟨d,rfl,rd⟩:=vals1 r2
 cases(show d=Value.none from rd);refine zbs (b:=true) (KV:=fun i y=>∃q,y=.ref q/\H q=some (.tup ((ms i).map V.int))) (bt:=fun i j=>HT.lexLt (ms i) (ms j)) (.dflt _) hc I hl (.inl ⟨rfl,fun i x hx=>hi i x hx⟩) ?_ (fun z=>nomatch z) (fun dn d r z=>by cases z;rfl) hb;rintro i j y z v w' s' H' pins' Q' E' ⟨q1,rfl,e1⟩ ⟨q2,rfl,e2⟩ I' S' ry rz hq
 cases ry
 cases rz;obtain⟨its,w1,p1,_⟩:=I'.tuple (SqT.of (K:=X.K) (S' _ _ e1));obtain⟨its2,w2,p2,_⟩:=I'.tuple (SqT.of (K:=X.K) (S' _ _ e2));show wpAny _ _ (compareOp .Lt (.ref q1) (.ref q2)) _ _ _;exact HT.lt_tupInts p1 p2 (intsAre_of w1) (intsAre_of w2) hu hq
def zkz (K:Frag)(b:Bool)(f:Addr)(sp:Sp):List V->List V->Hp->VK->Prop:=fun vs zs H Q=>∃a xs,∃kf:Nat->Int,vs=[.ref a]/\zs=[.ref f,.non]/\SqL K H a xs/\
 (∀(i:Nat) x H' (Qk:VK),xs[i]?=some x->Same H H'->(∀H2,Same H' H2->Qk (.int (kf i)) H2)->sp [x] H' Qk E0)/\zhQ (fun i j=>if b then decide (kf i<kf j) else decide (kf j<kf i)) xs H Q
theorem zka (b:Bool)(F:FnOk X.prog X.w X.K X.mg X.base CX0 k f fd [y] sp)(hr:Room k X.A.in1)(hbd:Binds X.K fd [y] [])(hK:X.K=K)(hc:X.calm=true) :
 zdE X (mmI b) [Str.ofString "key",Str.ofString "default"] (zkz K b f sp):=by
 subst hK;intro pins s σ H vs zs us ws Q I r1 r2 h;obtain⟨a,xs,kf,rfl,rfl,hl,hi,hb⟩:=h;obtain⟨u,rfl,ru⟩:=vals1 r1
 cases ru;obtain⟨d1,d2,rfl,rd1,rd2⟩:=vals2 r2
 cases(show d1=Value.ref f from rd1)
 cases(show d2=Value.none from rd2);refine zbs (b:=b) (KV:=fun i y=>y=.int (kf i)) (bt:=fun i j=>if b then decide (kf i<kf j) else decide (kf j<kf i)) (.key f _) hc I hl (.inr ⟨f,rfl,?_⟩) ?_ (fun z=>nomatch z) (fun dn d r z=>by cases z;rfl) hb
 ·intro i x u pins' s' H' hx I' rx S';have hs:=hi i x H' (fun v H2=>v=.int (kf i)/\Same H' H2) hx S' (fun H2 S2=>⟨rfl,S2⟩);refine wpAny_call (RO (F.run X.A.in1 X.stack s' H' ⟨[u],[]⟩ [u] [x] _ E0 hr I'.env0.in1 (by have:=hbd s' [u] I'.kIn rfl;simpa using this) (.cons rx .nil) hs) fun r s2 hq=>?_)
  cases r with
  |error e=>exact hq
  |ok fl=>
   cases fl with
   |ret v=>
    obtain⟨w,H2,I2,rw',e,S2⟩:=I'.after hq;subst e;exact⟨.int (kf i),H2,I2,rw',rfl,S2⟩
   |next=>exact False.elim hq
   |brk=>exact False.elim hq
   |cont=>exact False.elim hq
 ·rintro i j y z v w' s' H' pins' Q' E' rfl rfl I' S' ry rz hq;obtain⟨t1,rfl⟩:=ry;obtain⟨t2,rfl⟩:=rz
  cases b with
  |true=>
   show wpAny _ _ (compareOp .Lt _ _) _ _ _;exact lt_int hq
  |false=>
   show wpAny _ _ (compareOp .Gt _ _) _ _ _;exact gt_int hq
def zjQ (K:Frag)(b:Bool):List V->Hp->VK->Prop:=fun vs H Q=>∃(a:Addr) (ns:List Int),vs=[.ref a]/\SqL K H a (ns.map V.int)/\0<ns.length/\zhQ (fun i j=>if b then decide (ns.getD i 0<ns.getD j 0) else decide (ns.getD j 0<ns.getD i 0)) (ns.map V.int) H Q
theorem zjg (b:Bool)(hK:X.K=K)(hc:X.calm=true):jq X (.builtin (mmI b)) (zjQ K b):=by
 subst hK;intro pins s σ H vs us Q I r1 h;obtain⟨a,ns,rfl,hl,h0,hb⟩:=h;obtain⟨u,rfl,ru⟩:=vals1 r1
 cases ru;refine zbs (b:=b) (KV:=fun i y=>y=.int (ns.getD i 0)) (bt:=fun i j=>if b then decide (ns.getD i 0<ns.getD j 0) else decide (ns.getD j 0<ns.getD i 0)) .one hc I hl (.inl ⟨rfl,fun i x hx=>?_⟩) ?_ (fun _=>by rw[Ud];exact h0) (fun dn d r z=>nomatch z) hb
 ·rw[Up] at hx
  cases e:ns[i]? with
  |none=>rw[e] at hx;cases hx
  |some n=>rw[e] at hx;cases hx;simp[getD,e]
 ·rintro i j y z v w' s' H' pins' Q' E' rfl rfl I' S' ry rz hq;obtain⟨t1,rfl⟩:=ry;obtain⟨t2,rfl⟩:=rz
  cases b with
  |true=>
   show wpAny _ _ (compareOp .Lt _ _) _ _ _;exact lt_int hq
  |false=>
   show wpAny _ _ (compareOp .Gt _ _) _ _ _;exact gt_int hq
def ziD (K:Frag):R2:=fun x y H Q=>∃p q xs,x=.ref p/\y=.ref q/\SqL K H p xs/\SqL K H q []/\Q (.bl xs.isEmpty) H
theorem zf4 (hK:X.K=K)(hu:X.A.units<cLine):OpR X (compareOp .Eq) (ziD K):=by
 subst hK;intro pins s σ H x y v u Q I rx ry h;obtain⟨p,q,xs,rfl,rfl,hp,hq,k⟩:=h
 cases rx
 cases ry;obtain⟨its,r1,z1,_⟩:=I.list hp;obtain⟨its2,r2,z2,_⟩:=I.list hq
 cases r2;have l1:=r1.length
 cases xs with
 |nil=>
  cases r1;exact SeqAt.eq_listAt (e:=fun _=>true) z1.isList z2.isList rfl hu (fun j h1 h2=>absurd h1 (Nat.not_lt_zero _)) ⟨.bl true,H,I,rfl,k⟩
 |cons x xs=>
  refine SeqAt.eq_list_lengthsAt z1.isList z2.isList ?_ hu ⟨.bl false,H,I,rfl,k⟩;rw[Ul,NN,<-l1];simp
theorem zib (hne:t≠it):∀(n i:Nat) (s:Shared) (Q:List Value->Shared->Prop),s.heap.IsListIter it t i->s.heap.IsList t items->i+n<=items.size->
 (∀h',h'.IsListIter it t (i+n)->Heap.SameBut it s.heap h'->Q ((items.toList.drop i).take n) { s with heap:=h' })->wpAny (model prog w) A (draw (.ref it) n) Q E s
 |0,i,s,Q,hit,_,_,hQ=>by
  show wpAny _ _ (pure []) Q E s;exact Uj (by simpa using hQ s.heap hit (Heap.SameBut.refl ..))
 |n+1,i,s,Q,hit,ht,hle,hQ=>by
  have hlt:i<items.size:=by lia
  show wpAny _ _ (pyNext (.ref it) >>= _) Q E s;refine Uc (NA hit ht (x:=items[i]) (by simp[hlt]) fun h₁ hit₁ hs₁=>?_);refine Uc (Oc (zib hne n (i+1) _ _ hit₁ (ht.at fun o e=>hs₁.extBut t o hne e) (by lia) fun h₂ hit₂ hs₂=>Uj ?_));have hd:items.toList.drop i=items[i]::items.toList.drop (i+1):=by simp[OX,hlt]
  have:=hQ h₂ (by rw[show i+(n+1)=i+1+n by lia];exact hit₂) (hs₁.trans hs₂);rw[hd,List.take_succ_cons] at this;exact this
def ziC (K:Frag):R2:=fun x y H Q=>∃p q xs,x=.ref p/\y=.ref q/\SqL K H p xs/\SqL K H q []/\Q (.bl (!xs.isEmpty)) H
theorem ziS (hK:X.K=K)(hu:X.A.units<cLine):OpR X (compareOp .NotEq) (ziC K):=by
 subst hK;intro pins s σ H x y v u Q I rx ry h;obtain⟨p,q,xs,rfl,rfl,hp,hq,k⟩:=h
 cases rx
 cases ry;obtain⟨its,r1,z1,_⟩:=I.list hp;obtain⟨its2,r2,z2,_⟩:=I.list hq
 cases r2;have l1:=r1.length
 cases xs with
 |nil=>
  cases r1;exact SeqAt.RcNeAt.lists (e:=fun _=>true) z1.isList z2.isList rfl hu (fun j h1 h2=>absurd h1 (Nat.not_lt_zero _)) _ _ _ _ ⟨.bl false,H,I,rfl,k⟩
 |cons x xs=>
  refine SeqAt.RcNeAt.lists_lengths z1.isList z2.isList ?_ hu _ _ _ _ ⟨.bl true,H,I,rfl,k⟩;rw[Ul,NN,<-l1];simp
theorem yL {st:Stmt}:PS X st (fun _ _ _=>False):=fun _ _ _ _ _ _ h=>h.elim
section
variable {κ:Type}[DecidableEq κ]
def xH (kvs:List (κ×V))(k:κ):Option V:=(kvs.find? fun kv=>decide (kv.1=k)).map (·.2)
def putK (kvs:List (κ×V))(k:κ)(v:V):List (κ×V):=
 if(kvs.any fun kv=>decide (kv.1=k))=true then kvs.map (fun kv=>if kv.1=k then(kv.1,v) else kv) else kvs++[(k,v)]
theorem wO {p:κ×V}{r:List (κ×V)}{k:κ}(e:p.1=k):xH (p::r) k=some p.2:=by simp[xH,RV,e]
theorem wQ {p:κ×V}{r:List (κ×V)}{k:κ}(e:¬p.1=k):xH (p::r) k=xH r k:=by simp[xH,RV,e]
theorem zbV (k:κ):∀kvs:List (κ×V),(kvs.any fun kv=>decide (kv.1=k))=(xH kvs k).isSome
 |[]=>rfl
 |p::r=>by
  rw[T3]
  by_cases e:p.1=k
  ·simp only[wO e,Uy e,Bool.true_or,Option.isSome_some]
  ·rw[wQ e,UE e,Bool.false_or];exact zbV k r
theorem ye (kvs:List (κ×V))(k:κ)(v:V):(putK kvs k v).length<=kvs.length+1:=by
 unfold putK;split
 ·rw[Ud];lia
 ·rw[UD,Uk,UM];lia
theorem RelO.isSome_eq {o:Option V}{u:Option Value}(r:RelO o u):o.isSome=u.isSome:=by
 cases o with
 |none=>cases u with
  |none=>rfl
  |some _=>exact(show False from r).elim
 |some _=>cases u with
  |none=>exact(show False from r).elim
  |some _=>rfl
theorem KV.val {kvs:List (κ×V)}{vs:List (κ×Value)}(r:KV kvs vs)(k:κ):RelO (xH kvs k) (valueAt vs k):=by
 unfold KV at r
 induction r with
 |nil=>exact True.intro
 | @cons p q ps qs h t ih=>
  obtain⟨h1,h2⟩:=h
  by_cases e:p.1=k
  ·have e':q.1=k:=h1.symm.trans e;have b:valueAt (q::qs) k=some q.2:=by simp[valueAt,RV,e']
   rw[wO e,b];exact h2
  ·have e':¬q.1=k:=fun z=>e (h1.trans z);have b:valueAt (q::qs) k=valueAt qs k:=by simp[valueAt,RV,e']
   rw[wQ e,b];exact ih
theorem KV.any {kvs:List (κ×V)}{vs:List (κ×Value)}(r:KV kvs vs)(k:κ):(kvs.any fun kv=>decide (kv.1=k))=vs.any fun kv=>decide (kv.1=k):=by
 unfold KV at r
 induction r with
 |nil=>rfl
 |cons h t ih=>rw[T3,T3,ih,h.1]
theorem KV.repl {kvs:List (κ×V)}{vs:List (κ×Value)}(r:KV kvs vs)(k:κ){y:V}{u:Value}(ry:RelV y u) :
 KV (kvs.map fun kv=>if kv.1=k then(kv.1,y) else kv) (vs.map fun kv=>if kv.1=k then(kv.1,u) else kv):=by
 unfold KV at r ⊢
 induction r with
 |nil=>exact .nil
 | @cons p q ps qs h t ih=>
  rw[UL,UL];refine .cons ?_ ih;obtain⟨h1,h2⟩:=h
  by_cases e:p.1=k
  ·rw[Uv e,Uv (h1.symm.trans e)];exact⟨h1,ry⟩
  ·rw[Ur e,Ur (fun z=>e (h1.trans z))];exact⟨h1,h2⟩
theorem KV.put {kvs:List (κ×V)}{vs:List (κ×Value)}(r:KV kvs vs)(k:κ){y:V}{u:Value}(ry:RelV y u):KV (putK kvs k y) (stored vs k u):=by
 unfold putK stored;rw[r.any k]
 by_cases e:(vs.any fun kv=>decide (kv.1=k))=true
 ·rw[Uv e,Uv e];exact r.repl k ry
 ·rw[Ur e,Ur e];exact Paired.snoc r ⟨rfl,ry⟩
theorem KV.length {kvs:List (κ×V)}{vs:List (κ×Value)}(r:KV kvs vs):kvs.length=vs.length:=Oa r
end
theorem dQ (r:RelV (kV k) u):(qy P w).is k u=true:=by
 cases k with
 |inl i=>obtain⟨t,e⟩:=(show ∃t,u=Value.int i t from r);subst e;exact zcA P w i t
 |inr x=>obtain⟨t,e⟩:=(show ∃t,u=Value.str x t from r);subst e;exact zcz P w x t
theorem zay {P:Program}{w:World}:∀{ks:List Key}{us:List Value},Vals (ks.map kV) us->ItemsAre (qy P w) ks us
 |[],_,r=>by rw[Tz] at r;cases r;exact .nil
 |k::ks,_,r=>by
  rw[UL] at r
  cases r with
  |cons h t=>exact .cons (dQ h) (zay t)
abbrev KT (H:Hp):List (List Key×V)->List (List Key×Addr×Value)->Prop:=Paired fun p q=>p.1=q.1/\H q.2.1=some (.tup (p.1.map kV))/\RelV p.2 q.2.2
theorem KT.val (r:KT H kvs xs)(k:List Key):RelO (xH kvs k) ((atKey xs k).map (·.2)):=by
 induction r with
 |nil=>exact True.intro
 | @cons p q ps qs h t ih=>
  obtain⟨h1,_,h2⟩:=h
  by_cases e:p.1=k
  ·have e':q.1=k:=h1.symm.trans e;have b:atKey (q::qs) k=some q.2:=by simp[atKey,RV,e']
   rw[wO e,b];exact h2
  ·have e':¬q.1=k:=fun z=>e (h1.trans z);have b:atKey (q::qs) k=atKey qs k:=by simp[atKey,RV,e']
   rw[wQ e,b];exact ih
theorem KT.repl (r:KT H kvs xs)(k:List Key)(ry:RelV y u) :
 KT H (kvs.map fun kv=>if kv.1=k then(kv.1,y) else kv) (xs.map (putAt k u)):=by
 induction r with
 |nil=>exact .nil
 | @cons p q ps qs h t ih=>
  rw[UL,UL];refine .cons ?_ ih;obtain⟨h1,h2,h3⟩:=h;unfold putAt
  by_cases e:p.1=k
  ·rw[Uv e,Uv (h1.symm.trans e)];exact⟨h1,h2,ry⟩
  ·rw[Ur e,Ur (fun z=>e (h1.trans z))];exact⟨h1,h2,h3⟩
theorem KT.put (r:KT H kvs xs)(k:List Key)(hb:H b=some (.tup (k.map kV)))(ry:RelV y u) :
 KT H (putK kvs k y) (storedH xs k b u):=by
 have e:(kvs.any fun kv=>decide (kv.1=k))=(atKey xs k).isSome:=by
  rw[zbV,(r.val k).isSome_eq,NQ]
 unfold putK storedH;rw[e]
 by_cases q:(atKey xs k).isSome=true
 ·rw[Uv q,Uv q];exact r.repl k ry
 ·rw[Ur q,Ur q];exact Paired.snoc r ⟨rfl,hb,ry⟩
theorem KT.keeps (r:KT H kvs xs)(ht:∀b ys,H b=some (.tup ys)->H' b=some (.tup ys)):KT H' kvs xs:=
 Paired.mapP r fun _ _ z=>⟨z.1,ht _ _ z.2.1,z.2.2⟩
theorem zhZ (ok:HOk P w H h)(e:Rd H a u):ObjOk P w H h a u:=e.ok ok
theorem zcL (ok:HOk P w H h)(e:Rd H a (.dK kvs)):kvs.length<=sizeLine/\(a==sysModules)=false/\∃vs,KV kvs vs/\h.DictOf (qy P w) a vs:=
 show ObjOk P w H h a (.dK kvs) from zhZ ok e
theorem zj9 (ok:HOk P w H h)(e:H a=some (.dK kvs)):kvs.length<=sizeLine/\(a==sysModules)=false/\∃vs,KV kvs vs/\h.DictOf (qy P w) a vs:=zcL ok (.inl e)
theorem dN (ok:HOk P w H h)(e:H a=some (.tup (ks.map kV))):(tupleKind (qy P w)).is h ks a:=by
 obtain⟨_,its,r,o,h1,h2,n,h3⟩:=(show ObjOk P w H h a (.tup (ks.map kV)) from ok a _ e);exact⟨o,its.toArray,n,h1,h2,h3,by simpa using zay r⟩
theorem zcK (ok:HOk P w H h)(e:Rd H a (.dT kvs)):kvs.length<=sizeLine/\(a==sysModules)=false/\
 ∃xs,KT H kvs xs/\h.DictOfH (tupleKind (qy P w)) a xs:=by
 obtain⟨z,y,xs,r,o,es,ep,h1,h2,h3,h4,h5⟩:=(show ObjOk P w H h a (.dT kvs) from zhZ ok e);refine⟨z,y,xs,r,o,es,ep,h1,h2,h3,h4,fun x hx=>?_,h5⟩
 have all:∀{l:List (List Key×V)}{m:List (List Key×Addr×Value)},KT H l m->∀x∈m,(tupleKind (qy P w)).is h x.1 x.2.1:=by
  intro l m q
  induction q with
  |nil=>intro x hx;exact nomatch hx
  | @cons p q ps qs hq t ih=>
   intro x hx;rcases Uw.mp hx with e|hx
   ·subst e;exact dN ok (by rw[<-hq.1];exact hq.2.1)
   ·exact ih x hx
 exact all r x hx
theorem zj8 (ok:HOk P w H h)(e:H a=some (.dT kvs)):kvs.length<=sizeLine/\(a==sysModules)=false/\
 ∃xs,KT H kvs xs/\h.DictOfH (tupleKind (qy P w)) a xs:=zcK ok (.inl e)
def DGet (H:Hp)(a:Addr)(y:V)(r:Option V):Prop:=
 (∃kvs k,Rd H a (.dK kvs)/\y=kV k/\r=xH kvs k)∨∃kvs k b,Rd H a (.dT kvs)/\y=.ref b/\H b=some (.tup (k.map kV))/\r=xH kvs k
def DPut (H:Hp)(a:Addr)(y v:V)(H':Hp):Prop:=
 (∃kvs k,H a=some (.dK kvs)/\y=kV k/\kvs.length<sizeLine/\H'=upd H a (.dK (putK kvs k v)))∨
 ∃kvs k b,H a=some (.dT kvs)/\y=.ref b/\H b=some (.tup (k.map kV))/\kvs.length<sizeLine/\H'=upd H a (.dT (putK kvs k v))
theorem DGet.k {H:Hp}{a:Addr}{kvs:List (Key×V)}{k:Key}(e:H a=some (.dK kvs)):DGet H a (kV k) (xH kvs k):=.inl ⟨kvs,k,.inl e,rfl,rfl⟩
theorem DPut.k {H:Hp}{a:Addr}{kvs:List (Key×V)}{k:Key}{v:V}(e:H a=some (.dK kvs))(hl:kvs.length<sizeLine):DPut H a (kV k) v (upd H a (.dK (putK kvs k v))):=.inl ⟨kvs,k,e,rfl,hl,rfl⟩
theorem Inv.big (I:Inv X pins σ H s):sysModules<s.heap.objs.size:=by
 have h:mainGlobals<s.heap.objs.size:=(I.mod.glob.keeps I.bk).lt;exact O5 (by decide) h
theorem zfc (hu:A.units+1<cLine)(I:Inv X pins σ H s)(g:DGet H a y (some v))(ry:RelV y u)(h:∀w' s',Inv X pins σ H s'->RelV v w'->Q w' s') :
 wpAny (model X.prog X.w) A (getItem (.ref a) u) Q E s:=by
 rcases g with⟨kvs,k,e,ey,l⟩|⟨kvs,k,b,e,ey,eb,l⟩
 ·subst ey;obtain⟨z,hd,vs,rel,dd⟩:=zcL I.hok e;obtain⟨w',hw,rw'⟩:=RelO.some_of (v:=v) (o:=valueAt vs k) (by rw[l];exact rel.val k);exact wpAny_getItem_of (dQ ry) dd.mapOf hw (h w' _ (I.tok _) rw')
 ·subst ey
  cases(show u=Value.ref b from ry);obtain⟨z,hd,xs,rel,dd⟩:=zcK I.hok e;obtain⟨w',hw,rw'⟩:=RelO.some_of (v:=v) (o:=(atKey xs k).map (·.2)) (by rw[l];exact rel.val k);obtain⟨p,hp,hp2⟩:=UT.mp hw;refine wpAny_getItem_heap (T8 hu) (dN I.hok eb) dd hp ?_;rw[hp2];exact h w' _ (I.tok _) rw'
theorem zkN (hu:A.units+1<cLine)(I:Inv X pins σ H s)(g:DGet H a y o)(ry:RelV y u)(h:∀s',Inv X pins σ H s'->Q (.bool o.isSome) s') :
 wpAny (model X.prog X.w) A (compareOp .In u (.ref a)) Q E s:=by
 rcases g with⟨kvs,k,e,ey,l⟩|⟨kvs,k,b,e,ey,eb,l⟩
 ·subst ey;obtain⟨z,hd,vs,rel,dd⟩:=zcL I.hok e;refine wpAny_in_of (dQ ry) hd dd.mapOf ?_;rw[<-(rel.val k).isSome_eq,<-l];exact h _ (I.tok _)
 ·subst ey
  cases(show u=Value.ref b from ry);obtain⟨z,hd,xs,rel,dd⟩:=zcK I.hok e;refine wpAny_in_heap (T8 hu) (dN I.hok eb) hd dd ?_;have q:=(rel.val k).isSome_eq;rw[NQ] at q;rw[<-q,<-l];exact h _ (I.tok _)
theorem zhz (hu:A.units+1<cLine)(I:Inv X pins σ H s)(g:DGet H a y o)(ry:RelV y u)(h:∀s',Inv X pins σ H s'->Q (.bool (!o.isSome)) s') :
 wpAny (model X.prog X.w) A (compareOp .NotIn u (.ref a)) Q E s:=by
 rcases g with⟨kvs,k,e,ey,l⟩|⟨kvs,k,b,e,ey,eb,l⟩
 ·subst ey;obtain⟨z,hd,vs,rel,dd⟩:=zcL I.hok e;refine wpAny_notIn_of (dQ ry) hd dd.mapOf ?_;rw[<-(rel.val k).isSome_eq,<-l];exact h _ (I.tok _)
 ·subst ey
  cases(show u=Value.ref b from ry);obtain⟨z,hd,xs,rel,dd⟩:=zcK I.hok e;refine wpAny_notIn_heap (T8 hu) (dN I.hok eb) hd dd ?_;have q:=(rel.val k).isSome_eq;rw[NQ] at q;rw[<-q,<-l];exact h _ (I.tok _)
theorem zek (I:Inv X pins σ H s)(mu:Mut (H a))(hs:Heap.SameBut a s.heap h')(he:∃q,h'.get? a=some q)(new:ObjOk X.prog X.w (upd H a ob) h' a ob) :
 Inv X pins σ (upd H a ob) { s with heap:=h',toks:=t' }:=
 I.write (x:=a) (e:=a) mu (.inl rfl) (fun b q hb z=>(hs.2 b hb).trans z) he new
theorem zje (z:kvs.length<=sizeLine)(hd:(a==sysModules)=false)(rel:KV kvs vs)(dd:h'.DictOf (qy P w) a vs) :
 ObjOk P w H' h' a (.dK kvs):=⟨z,hd,vs,rel,dd⟩
theorem zfb (hu:A.units+1<cLine)(I:Inv X pins σ H s)(g:DPut H a y v H')(ry:RelV y u)(rv:RelV v r)(h:∀s',Inv X pins σ H' s'->Q () s') :
 wpAny (model X.prog X.w) A (setItem (.ref a) u r) Q E s:=by
 rcases g with⟨kvs,k,e,ey,l,eH⟩|⟨kvs,k,b,e,ey,eb,l,eH⟩
 ·subst ey eH;obtain⟨z,hd,vs,rel,dd⟩:=zj9 I.hok e;have hz:vs.length<=sizeLine:=by rw[<-rel.length];exact z
  have hl:(putK kvs k v).length<=sizeLine:=by have:=ye kvs k v;lia
  refine wpAny_setItem_pairs (hsz:=hz) (dQ ry) dd fun h' dd' hs=>h _ ?_;have he:∃q,h'.get? a=some q:=let ⟨q,_,_,hq,_⟩:=dd';⟨q,hq⟩;exact zek I (by rw[e];exact True.intro) hs he (zje hl hd (rel.put k rv) dd')
 ·subst ey eH
  cases(show u=Value.ref b from ry);obtain⟨z,hd,xs,rel,dd⟩:=zj8 I.hok e;have hz:xs.length<=sizeLine:=by rw[<-Oa rel];exact z
  have hl:(putK kvs k v).length<=sizeLine:=by have:=ye kvs k v;lia
  refine wpAny_setItem_heap (hsz:=hz) (T8 hu) (dN I.hok eb) dd fun h' dd' hs=>h _ ?_;obtain⟨q,es,ep,hq,h2,h3,h4,_,h5⟩:=dd';refine zek I (by rw[e];exact True.intro) hs ⟨q,hq⟩ ⟨hl,hd,_,(rel.put k eb rv).keeps fun c ys ec=>?_,q,es,ep,hq,h2,h3,h4,h5⟩;rw[zi (qE ec e (fun z=>nomatch z))];exact ec
def zjo (i:Expr):Prop:=∀ov iv,subscripted i false ov iv=operate [ov,iv] (getItem ov iv)
theorem zdJ {id:String}(hl:typeLookup (.type T) "__getitem__"=pure (some (.builtin id)))(hs:zjo slice)(h:wpAny (model prog w) A (eval value env) (fun o s₁=>wpAny (model prog w) A (eval slice env) (fun i s₂=>s₂.TypeIs o T/\wpAny (model prog w) A (getItem o i) Q E s₂) E s₁) E s) :
 wpAny (model prog w) A (eval (.Subscript value slice pos) env) Q E s:=by
 refine Subscript_ (OK h (fun o s₁ h₁=>OK h₁ (fun i s₂ h₂=>?_) fun _ _ x=>x) fun _ _ x=>x);obtain⟨hT,h₂⟩:=h₂;unfold subscriptTail;refine Uc ?_;rw[getitemInPython_of_ne hT.not_modules];refine Uc (wpAny_specialOf hT hl ?_)
 have fin:wpAny (model prog w) A (subscripted slice false o i) (fun r s₃=>wpAny (model prog w) A (letTemporaryGo value o r >>= fun _=>pure r) Q E s₃) E s₂:=by
  rw[hs o i];exact wpAny_operating (OK h₂ (fun r s₃ h₃=>Uc (wpAny_letTemporaryGo (Uj h₃))) fun _ _ x=>x)
 first
  |exact Uj (Uc fin)
  |exact Uc (Uj (Uc fin))
  |exact Uc fin
theorem zcM (I:Inv X pins σ H s)(g:DGet H a y o):s.TypeIs (.ref a) "dict":=by
 rcases g with⟨kvs,k,e,_,_⟩|⟨kvs,k,b,e,_,_,_⟩
 ·obtain⟨_,_,vs,_,dd⟩:=zcL I.hok e;exact dd.typeIs
 ·obtain⟨_,_,xs,_,dd⟩:=zcK I.hok e;exact dd.typeIs
def zjC (td ty:TE):TE:=fun σ H Q=>td σ H fun x H1=>ty σ H1 fun y H2=>∃a v,x=.ref a/\DGet H2 a y (some v)/\Q v H2
def zkr (ty td:TE):TE:=fun σ H Q=>ty σ H fun y H1=>td σ H1 fun x H2=>∃a o,x=.ref a/\DGet H2 a y o/\Q (.bl o.isSome) H2
def zgS (ty td:TE):TE:=fun σ H Q=>ty σ H fun y H1=>td σ H1 fun x H2=>∃a o,x=.ref a/\DGet H2 a y o/\Q (.bl (!o.isSome)) H2
def zjK (td ty tv:TE):TS:=fun D σ H=>tv σ H fun v H1=>td σ H1 fun x H2=>ty σ H2 fun y H3=>∃a H4,x=.ref a/\DPut H3 a y v H4/\D.nx σ H4
theorem bD (hu:X.A.units+1<cLine)(ho:PE X o td)(hi:PE X i ty)(hs:zjo i):PE X (.Subscript o i pos) (zjC td ty):=by
 intro pins s σ H Q I h;refine zdJ PySem.F.slot_dict_getitem.lookup hs (thn (ho pins s σ H _ I h) fun u s1 ⟨x,H1,I1,rx,q1⟩=>thn (hi pins s1 σ H1 _ I1 q1) fun iv s2 ⟨y,H2,I2,ry,a,v,ex,g,q2⟩=>?_);subst ex;obtain rfl:u=Value.ref a:=rx;exact⟨zcM I2 g,zfc hu I2 g ry fun w' s3 I3 rw'=>⟨v,H2,I3,rw',q2⟩⟩
theorem ziN (hu:X.A.units+1<cLine)(hi:PE X i ty)(ho:PE X o td):PC X .In i o (zkr ty td):=by
 intro pins s σ H Q I h;refine thn (hi pins s σ H _ I h) fun iv s1 ⟨y,H1,I1,ry,q1⟩=>thn (ho pins s1 σ H1 _ I1 q1) fun u s2 ⟨x,H2,I2,rx,a,ov,ex,g,q2⟩=>?_;subst ex;obtain rfl:u=Value.ref a:=rx;exact zkN hu I2 g ry fun s3 I3=>⟨.bl ov.isSome,H2,I3,rfl,q2⟩
theorem zeI (hu:X.A.units+1<cLine)(hi:PE X i ty)(ho:PE X o td):PC X .NotIn i o (zgS ty td):=by
 intro pins s σ H Q I h;refine thn (hi pins s σ H _ I h) fun iv s1 ⟨y,H1,I1,ry,q1⟩=>thn (ho pins s1 σ H1 _ I1 q1) fun u s2 ⟨x,H2,I2,rx,a,ov,ex,g,q2⟩=>?_;subst ex;obtain rfl:u=Value.ref a:=rx;exact zhz hu I2 g ry fun s3 I3=>⟨.bl (!ov.isSome),H2,I3,rfl,q2⟩
theorem za8 (hu:X.A.units+1<cLine)(ho:PE X o td)(hi:PE X i ty)(hv:PE X value tv)(hs:swapsWith value (some (.Subscript o i pos')) pos.line X.env=pure false) :
 PS X (.Assign [.Subscript o i pos'] value pos) (zjK td ty tv):=by
 intro pins s σ H D I h;refine wpAny_Assign_Subscript (thn (hv pins s σ H _ I h) fun r s1 ⟨v,H1,I1,rv,q1⟩=>thn (ho pins s1 σ H1 _ I1 q1) fun u s2 ⟨x,H2,I2,rx,q2⟩=>thn (hi pins s2 σ H2 _ I2 q2) fun iv s3 ⟨y,H3,I3,ry,a,H4,ex,g,q3⟩=>?_) hs;subst ex;obtain rfl:u=Value.ref a:=rx;exact zfb hu I3 g ry rv fun s4 I4=>⟨σ,H4,I4,q3⟩
theorem zgt (h:Heap)(hb:sysModules<h.objs.size):ObjOk P w H (h.push { cls:=.type "dict",data:=.dict #[] }) h.objs.size (.dK []):=
 ⟨UI _,U4.mpr (OO (UO hb)),[],.nil,Heap.DictOf.new h⟩
def ziq:TE:=fun _ H Q=>∀p,H p=none->Q (.ref p) (upd H p (.dK []))
theorem zcm:PE X (.Dict [] [] pos) ziq:=fun pins s σ H Q I h=>
 wpAny_Dict_empty ⟨.ref s.heap.objs.size,_,I.laid (a:=s.heap.objs.size) (o:=.dK []) (t':=s.toks) (fun _ _ q=>Ui _ q) (Ub _) (zgt s.heap I.big),rfl,h _ (I.hok.fresh (Ub _))⟩
def RawD (h:Heap)(d:Addr)(es:Array DictEntry)(ep:Nat):Prop:=∃o,h.get? d=some o/\o.ExactDict/\o.data=.dict es ep
theorem RawD.typeIs (h:RawD s.heap d es ep):s.TypeIs (.ref d) "dict":=let ⟨o,e,hx,_⟩:=h;⟨o,e,hx.1⟩
theorem zeB (hd:(d==sysModules)=false)(hm:RawD s.heap d es ep)(hQ:Q (.ref s.heap.objs.size) { s with heap:=s.heap.push { cls:=.type "dict_keyiterator",data:=.fields #[.ref d,.int 0 0,.int es.size 0,.int ep 0] } }) :
 wpAny (model prog w) A (pyIter (.ref d)) Q E s:=by
 obtain⟨o,ho,hc,hdat⟩:=id hm;have hT:=hm.typeIs;refine wpAny_pyIter_slot hT slot_dict_iter (RX slot_dict_iter hT PySem.F.entry_dict_iter ?_ (PySem.F.args_dict_iter_1 _));unfold Builtin.«dict.__iter__»;refine Uc ?_;unfold Builtin.Dict.dictSlotNone;refine Uc (wpAny_notOrdered_dict hT ?_);show wpAny _ _ (pure (Value.ref d)) _ _ s;refine Uj ?_;show wpAny _ _ (Builtin.Dict.showsAll d >>= _) _ _ s;unfold Builtin.Dict.showsAll;rw[Ur (by rw[hd];exact UH)];refine Uc (Uj (Uc (wpAny_dictEntries ho hdat (Uc (wpAny_dictEpoch ho hdat ?_)))));refine Uc (Ra (Uj ⟨_,rfl,"dict_keyiterator",_,⟨_,UC _ rfl,rfl⟩,ON.lookup,?_⟩));simpa[rawInt] using hQ
theorem zeC (hit:s.heap.IsKeyIter it d i es.size ep)(hm:RawD s.heap d es ep)(hlt:i<es.size)(hQ:∀h',h'.IsKeyIter it d (i+1) es.size ep->Heap.SameBut it s.heap h'->Q (some es[i].key) { s with heap:=h' }) :
 wpAny (model prog w) A (pyNext (.ref it)) Q E s:=by
 obtain⟨o,ho,hc,hd⟩:=id hit;obtain⟨od,hod,hcd,hdd⟩:=id hm;unfold pyNext
 refine Uc (wpAny_attempt (Ta (name:=Str.ofString "__next__") hit.typeIs ON
  (RX ON hit.typeIs NI ?_ (Ny _))))
 refine Uc (Uj (Uc (Uc ?_)))
 first|refine Uc (RC hit.typeIs (Uj ?_))|refine Uc (R1 hit.typeIs (Uj ?_))
 refine Uc (wpAny_fieldsOf ho hd ?_);have hown:Builtin.Dict_items.ownsTuple "dict_keyiterator"=false:=by decide
 simp only[hown,UW,OR];show wpAny _ _ (if(Value.ref d==Value.none)=true then _ else _) _ _ s;rw[Ur (show ¬((Value.ref d==Value.none)=true) from UH)];refine Uc (Uj (Uc (wpAny_dictEntries hod hdd ?_)));rw[Ur (by simp)];refine Uc (Uj (Uc (wpAny_dictEpoch hod hdd ?_)));rw[Ur (by simp)];refine Uj ?_;simp only[show ¬((i:Int)<0) from by lia,OR,Ot,Us hlt];refine Uc ?_
 first|refine Uc (RC hit.typeIs (Uj ?_))|refine Uc (R1 hit.typeIs (Uj ?_))
 refine Uc (wpAny_isOneOf_keyiter hit.typeIs ?_);show wpAny _ _ (setField (.ref it) 1 (rawInt ((i:Int)+1)) >>= _) _ _ s;refine Uc (wpAny_setField ho hd (by simp) ?_)
 have hit':(s.heap.update it (Obj.mapFields (·.setIfInBounds 1 (rawInt ((i:Int)+1))))).IsKeyIter it d (i+1) es.size ep:=
  ⟨_,Heap.get?_update_self _ ho (Obj.isFreed_of_fields (Obj.data_mapFields hd _)),(Obj.cls_mapFields ..).trans hc,by rw[Obj.data_mapFields hd];simp[rawInt]⟩
 refine Uc (Oc ?_);refine Uc (wpAny_isOneOf_keyiter (s:={ s with heap:=s.heap.update it (Obj.mapFields (·.setIfInBounds 1 (rawInt ((i:Int)+1)))) }) hit'.typeIs ?_);show wpAny _ _ (pure es[i].key) _ _ _;exact Uj (Uj ⟨_,rfl,Uj (hQ _ hit' (Rx ..))⟩)
theorem zfR (hh:A.handled=none)(hit:s.heap.IsKeyIter it d i es.size ep)(hm:RawD s.heap d es ep)(hge:es.size<=i)(hQ:∀h',Heap.ExtBut it s.heap h'->Q none { s with heap:=h' }):wpAny (model prog w) A (pyNext (.ref it)) Q E s:=by
 obtain⟨o,ho,hc,hd⟩:=id hit;obtain⟨od,hod,hcd,hdd⟩:=id hm;unfold pyNext
 refine Uc (wpAny_attempt (Ta (name:=Str.ofString "__next__") hit.typeIs ON
  (RX ON hit.typeIs NI ?_ (Ny _))))
 refine Uc (Uj (Uc (Uc ?_)))
 first|refine Uc (RC hit.typeIs (Uj ?_))|refine Uc (R1 hit.typeIs (Uj ?_))
 refine Uc (wpAny_fieldsOf ho hd ?_);have hown:Builtin.Dict_items.ownsTuple "dict_keyiterator"=false:=by decide
 simp only[hown,UW,OR];show wpAny _ _ (if(Value.ref d==Value.none)=true then _ else _) _ _ s;rw[Ur (show ¬((Value.ref d==Value.none)=true) from UH)];refine Uc (Uj (Uc (wpAny_dictEntries hod hdd ?_)));rw[Ur (by simp)];refine Uc (Uj (Uc (wpAny_dictEpoch hod hdd ?_)));rw[Ur (by simp)];refine Uj ?_;simp only[show ¬((i:Int)<0) from by lia,OR,Ot,Rv hge];refine Uc ?_
 first|refine Uc (RC hit.typeIs (Uj ?_))|refine Uc (R1 hit.typeIs (Uj ?_))
 show wpAny _ _ (setField (.ref it) 0 .none >>= _) _ _ s;refine Uc (wpAny_setField ho hd (by simp) ?_);show wpAny _ _ (newExc (.type "StopIteration") [] >>= _) _ _ _;refine Uc ?_;simp only[newExc,newTuple];refine Uc (Ra ?_ (by size_fits));refine Uc (m:=firstArgMember _ _) (OZ (a:=Value.none) (by first|rfl|(simp only[firstArgMember];rfl)) ?_);refine Ra ?_ (by size_fits);simp only[raiseNew];refine Uc (wpAny_handled ?_);rw[show A.in1.handled=none from hh];refine Uc (Uj (wpAny_throw ?_));refine Uc (wpAny_isInstance (T:="StopIteration") (b:=true) ⟨_,UC _ rfl,rfl⟩ isSubtype_stop ?_);exact Uj (hQ _ (((Rx ..).extBut.push _).push _))
theorem zeJ (vs:List Value):(pairsOf vs).map (·.2)=vs.toArray:=by
 apply Array.toList_inj.mp;rw[toList_map,pairsOf_toList];simp[List.map_snd_zip]
theorem Paired.at' {α β:Type}{F:α->β->Prop}:∀{l:List α}{m:List β}{i:Nat}{x:α},Paired F l m->l[i]?=some x->∃y,m[i]?=some y/\F x y
 |_,_,_,_,.nil,e=>by simp at e
 |_,_,0,_,.cons r _,e=>by simp at e;subst e;exact⟨_,rfl,r⟩
 |_,_,i+1,x,.cons _ t,e=>by simp at e;obtain⟨y,h1,h2⟩:=Paired.at' t e;exact⟨y,by simpa using h1,h2⟩
inductive pM (A:Around)(s:Shared)(fin:Bool):List (Value×Value)->Bool->Prop
 |nil:pM A s fin [] fin
 |eq {p q:Value}{r:List (Value×Value)}{b:Bool}:SeqAt.EqAt A s p q true->pM A s fin r b->pM A s fin ((p,q)::r) b
 |ne {p q:Value}{r:List (Value×Value)}{b:Bool}:SeqAt.EqAt A s p q false->(∀(prog:Program) (w:World) (E:Value->Shared->Prop) (Q:Value->Shared->Prop),Q (.bool b) s->wpAny (model prog w) A (richCompare .Lt p q) Q E s)->pM A s fin ((p,q)::r) b
section
open PySem.SeqAt
open PySem.AutoSeq1 (wpAny_loadPart')
open PySem.MeetsSeq PySem.MeetsSeq2 PySem.MeetsSeq3
theorem zaQ (l b:Addr)(items items2:Array Value)(n n2:Nat)(dd dd2:Option Addr)(sl sl2:Array (Option Value))(v:Bool) :
 Meets (Builtin.«tuple.__lt__» ⟨[.ref l,.ref b],[]⟩)
  (fun A R s=>s.heap.get? l=some { cls:=.type "tuple",dict:=dd,data:=.seq items n,slots:=sl }/\s.heap.get? b=some { cls:=.type "tuple",dict:=dd2,data:=.seq items2 n2,slots:=sl2 }/\
    pM A.in1 s (decide (items.size<items2.size)) (items.toList.zip items2.toList) v/\R (.ok (.ret (.bool v))) s):=
 .of_wp fun prog w A R s h=>by
  obtain⟨hp,g,d,tk,os⟩:=s;obtain⟨hl,hb,hx,h⟩:=h;have f2:=AutoSeq1.sub_tuple_tuple;wp_walk using O2 hl,O2 hb,wpAny_forIn_list _ (fun rest b s'=>b.1=none/\s'=⟨hp,g,d,tk,os⟩/\pM A.in1 ⟨hp,g,d,tk,os⟩ (decide (items.size<items2.size)) rest v) _
  case turn=>
   rintro⟨y,x⟩ rest b s' ⟨hb',rfl,hx⟩
   cases hx with
   |eq he hr=>
    refine Uc (he prog w _ _ ?_);wp_walk;exact⟨rfl,rfl,hr⟩
   |ne he hlt=>
    refine Uc (he prog w _ _ ?_);have hri:=hlt prog w;wp_walk using hri;exact⟨_,rfl,by simpa using h⟩
  case fin=>
   rintro⟨b1,b2⟩ s' ⟨hb',rfl,hx⟩;simp only at hb';subst hb'
   cases hx;wp_walk;exact⟨_,rfl,by simpa[Builtin.Tuple.tupleCompareSizes] using h⟩
  case h=>
   exact⟨rfl,rfl,hx⟩
end
theorem wq {its:Array Value}(x:IsTup h a its):h.IsTuple a its:=x
theorem qR (hx:IsTup h a xs)(hy:IsTup h a ys):xs=ys:=by
 obtain⟨o,e1,_,n,d1⟩:=hx;obtain⟨o',e2,_,m,d2⟩:=hy;rw[e1] at e2
 cases e2;rw[d1] at d2
 cases d2;rfl
theorem pairEq (hp:IsTup s.heap p #[.int p1 t1,.int p2 t2])(hq:IsTup s.heap q #[.int q1 u1,.int q2 u2])(hu:A.units<cLine) :
 SeqAt.EqAt A s (.ref p) (.ref q) (p1==q1&&p2==q2):=by
 by_cases e:p=q
 ·subst e;have h:=qR hp hq;have h0:(#[Value.int p1 t1,Value.int p2 t2]:Array Value)[0]? = #[Value.int q1 u1,Value.int q2 u2][0]?:=by rw[h]
  have h1:(#[Value.int p1 t1,Value.int p2 t2]:Array Value)[1]? = #[Value.int q1 u1,Value.int q2 u2][1]?:=by rw[h]
  simp at h0 h1;rw[h0.1,h1.1];simp only[Re,Bool.and_self];exact SeqAt.EqAt.same _
 ·refine SeqAt.EqAt.of_refs e fun prog w E Q h=>?_;refine SeqAt.RcAt.tuples (e:=fun j=>if j=0 then p1==q1 else p2==q2) (wq hp) (wq hq) hu (fun j h1 h2=>?_) prog w E Q ?_
  ·match j,h1,h2 with
   |0,_,_=>exact R9 _ _ _ _
   |1,_,_=>exact R9 _ _ _ _
  ·have e2:((List.range (min (#[Value.int p1 t1,Value.int p2 t2]:Array Value).size (#[Value.int q1 u1,Value.int q2 u2]:Array Value).size)).all (fun j=>if j=0 then p1==q1 else p2==q2)&&(#[Value.int p1 t1,Value.int p2 t2]:Array Value).size==(#[Value.int q1 u1,Value.int q2 u2]:Array Value).size)=(p1==q1&&p2==q2):=by
    show((List.range 2).all (fun j=>if j=0 then p1==q1 else p2==q2)&&true)=_;simp[OY]
   rw[e2];exact h
theorem vq (r:RelV (.int x) u):∃t,u=.int x t:=r
theorem zbf (I:Inv X pins σ H s)(h:SqT X.K H p [.int p1,.int p2]):∃t1 t2,IsTup s.heap p #[.int p1 t1,.int p2 t2]:=by
 obtain⟨its,rv,it,_⟩:=I.tuple h
 cases rv with
 |cons r1 r2=>
  cases r2 with
  |cons r3 r4=>
   cases r4;obtain⟨t1,rfl⟩:=vq r1;obtain⟨t2,rfl⟩:=vq r3;exact⟨t1,t2,it⟩
def zfi (lo st:Int)(n:Nat):It:=⟨fun i _=>i<n,fun i H x H'=>H'=H/\x=.int (lo+i*st),fun i _=>n<=i⟩
theorem fi (it:Addr)(lo st:Int)(n:Nat):Turn P w K tg (zfi lo st n) [it] it (fun i h=>IsRangeIter h it (lo+(i:Nat)*st) ((n:Int)-(i:Nat)) st) where
 mem:=by simp
 obj:=fun i h st b hb=>by
  have e:b=it:=by simpa using hb
  subst e
  exact⟨_,st,fun v z=>by
   have z':Data.fields _=Data.cell v:=z
   cases z'⟩
 keep:=fun i h h' st k=>k it (by simp) _ st
 item:=by
  intro X hP hw hK hc i pins s σ H E I hf stt hg;subst hP hw hK;obtain⟨f0,f1,f2,f3,f4,f5⟩:=hf it (by simp);have W:=Walks.range (prog:=X.prog) (w:=X.w) (I.ok.hd hc) it lo st n;refine W.item i s _ _ hg stt fun v h' tk hv st' kk=>?_;obtain⟨t,rfl⟩:=hv;have I1:Inv X pins σ H { s with heap:=h',toks:=tk }:=I.turned (fun b o hb e=>kk b o (by simpa using hb) e) f0 f1 f3 f4 f5;exact⟨_,rfl,dX (s:={ s with heap:=h',toks:=tk }) (n:="range_iterator") st' rfl rfl (by decide) ⟨.int (lo+i*st),H,I1,⟨t,rfl⟩,⟨rfl,rfl⟩,st',fun b hb=>(hf b hb).1⟩⟩
 done:=by
  intro X hP hw hK hc i pins s σ H E I hf st hg;subst hP hw hK;obtain⟨f0,f1,f2,f3,f4,f5⟩:=hf it (by simp);exact wpAny_pyNext_range_end (I.ok.hd hc) st (by have:n<=i:=hg;lia) fun h' eb=>⟨rfl,I.turned (t':=s.toks) (fun b o hb e=>eb b o hb e) f0 f1 f3 f4 f5⟩
 self:=fun _ _ _ _ _ st h=>NB st h
theorem kc {lo st:Int}{tb:TS}(Pv:Nat->St->Hp->Prop)(h0:Pv 0 σ H)(hs:∀i σ H,i<n->Pv i σ H->g (.int (lo+i*st)) σ H fun σ2 H2=>tb { D with nx:=Pv (i+1),ct:=Pv (i+1),bk:=D.nx } σ2 H2)(hd:∀σ H,Pv n σ H->D.nx σ H) :
 ∃W:Nat->Nat->St->Hp->Prop,(∃m,W 0 m σ H)/\∀i m σ H,W i m σ H->
  ((zfi lo st n).stop i H/\D.nx σ H)∨((zfi lo st n).go i H/\∃N:St->Hp->Prop,(∀σ' H',N σ' H'->∃m',m'<m/\W (i+1) m' σ' H')/\∀x H',(zfi lo st n).yld i H x H'->g x σ H' fun σ2 H2=>tb { D with nx:=N,ct:=N,bk:=D.nx } σ2 H2):=by
 refine⟨fun i m σ H=>m=n-i/\i<=n/\Pv i σ H,⟨_,rfl,UI _,h0⟩,?_⟩;rintro i m σ H ⟨rfl,hi,p⟩
 by_cases hlt:i<n
 ·refine .inr ⟨hlt,Pv (i+1),fun σ' H' p'=>⟨_,by lia,rfl,hlt,p'⟩,fun x H' y=>?_⟩;obtain⟨rfl,rfl⟩:=y;exact hs i σ _ hlt p
 ·have e:i=n:=by lia
  subst e;exact .inl ⟨Ub _,hd σ H p⟩
theorem zdS (lo hi:Int):Builtin.Range.rangeSize lo hi (-1)=((lo-hi).toNat:Int):=by
 unfold Builtin.Range.rangeSize;rw[Ur (by decide)]
 by_cases h:lo>hi
 ·rw[Uv h];have:(- (-1:Int))=1:=by decide
  rw[this,Int.ediv_one];lia
 ·rw[Ur h];lia
theorem vD (h1 : -(2^63)<=i)(h2:i<2^63):Builtin.Range.rangeFitsLong i=true:=by
 unfold Builtin.Range.rangeFitsLong;rw[OQ];exact⟨Uy h1,Uy h2⟩
theorem zfI {lo hi:Int}(h1 : -(2^61)<=lo)(h2:lo<2^61)(h3 : -(2^61)<=hi)(h4:hi<2^61):Builtin.Range.small lo hi (-1)=true:=by
 unfold Builtin.Range.small;rw[zdS,vD (by lia) (by lia),vD (by lia) (by lia),vD (by lia) (by lia),vD (by lia) (by lia)];rw[Ur (by decide),vD (by lia) (by lia)];simp
def zj2 (ta:TA):TI:=fun σ H R=>ta σ H fun vs H1=>∃i j:Int,vs=[.int i,.int j,.int (-1)]/\(-(2^61)<=i/\i<2^61/\-(2^61)<=j/\j<2^61)/\R (zfi i (-1) (i-j).toNat) H1
theorem zao (hg:Gl X "range")(hm:X.mg "range"=none)(ha:PA X [a,b,c] ta)(hs:starEach [a,b,c] X.env=[(false,eval a X.env),(false,eval b X.env),(false,eval c X.env)]:=by rfl)(hs2:starEach [b,c] X.env=[(false,eval b X.env),(false,eval c X.env)]:=by rfl) :
 PI X tg (.Call (.Name "range" p) [a,b,c] [] pos) (zj2 ta):=by
 intro pins s σ H R I h;refine Call_ (xE I hg hm boot_range (OC (thn (ha pos pins s σ H _ I h) fun us s1 ⟨vs,H1,I1,r1,q1⟩=>?_) (by rw[hs,hs2]) (by rw[hs2];rfl)));obtain⟨i,j,e,⟨q1,q2,q3,q4⟩,q⟩:=q1;subst e
 cases r1 with
 |cons r rr=>
  cases rr with
  |cons r' rr=>
   cases rr with
   |cons r'' rr=>
    cases rr;obtain⟨t,rfl⟩:=r;obtain⟨t',rfl⟩:=r';obtain⟨t'',rfl⟩:=r'';refine call_range_3 (by decide) ?_ (.inl (PyProof.noPylong_small (by decide)));refine wpAny_pyIter_range (IsRange.new ..) (zfI q1 q2 q3 q4) ?_;have I2:Inv X pins σ H1 { s1 with heap:=s1.heap.push { cls:=.type "range",data:=.fields #[.int i t,.int j t',.int (-1) t''] },toks:=s1.toks }:=I1.kept fun b o e=>Ui _ e
    refine⟨(s1.heap.push { cls:=.type "range",data:=.fields #[.int i t,.int j t',.int (-1) t''] }).objs.size,[(s1.heap.push { cls:=.type "range",data:=.fields #[.int i t,.int j t',.int (-1) t''] }).objs.size],_,_,H1,rfl,
     I2.kept (t':=s1.toks) fun b o e=>Ui _ e,fi _ i (-1) (i-j).toNat,?_,fun b hb=>?_,q⟩
    ·show IsRangeIter _ _ (i+((0:Nat):Int)*(-1)) ((((i-j).toNat:Nat):Int)-((0:Nat):Int)) (-1);have e1:i+((0:Nat):Int)*(-1)=i:=by simp
     have e2:(((i-j).toNat:Nat):Int)-((0:Nat):Int)=Builtin.Range.rangeSize i j (-1):=by rw[zdS];lia
     rw[e1,e2];exact UC _ rfl
    ·have e:b=(s1.heap.push { cls:=.type "range",data:=.fields #[.int i t,.int j t',.int (-1) t''] }).objs.size:=by simpa using hb
     subst e;exact I2.fpOk (Ub _) (I2.hok.fresh (Ub _))
def zgN (K:Frag)(a:Addr)(n:Nat):It:=
 ⟨fun i H=>i<n/\∃xs,SqL K H a xs/\xs.length=n,fun i H x H'=>H'=H/\∀xs,SqL K H a xs->xs.length=n->xs[n-1-i]?=some x,fun i H=>n=i⟩
theorem zfq (a it:Addr)(n:Nat):Turn P w K tg (zgN K a n) [it] it (fun i h=>h.IsRevIter it a ((n:Int)-1-i)) where
 mem:=by simp
 obj:=fun i h st b hb=>by
  have e:b=it:=by simpa using hb
  subst e;obtain⟨o,e,c,d⟩:=st;exact⟨o,e,fun v z=>by rw[d] at z;cases z⟩
 keep:=fun i h h' st k=>st.at fun o e=>k it (by simp) o e
 item:=by
  intro X hP hw hK hc i pins s σ H E I hf st hg;subst hP hw hK;obtain⟨hi,xs,hq,hx⟩:=hg;obtain⟨its,rv,p,hz⟩:=I.list hq;have hlt:n-1-i<xs.length:=by lia
  obtain⟨u,hu,ru⟩:=rv.get (Ua hlt);obtain⟨f0,f1,f2,f3,f4,f5⟩:=hf it (by simp);have e0:(n:Int)-1-i=((n-1-i:Nat):Int):=by lia
  rw[e0] at st;refine wpAny_pyNext_rev_item st p.isList (x:=u) (by simpa using hu) fun h' st' sb=>?_;have I1:Inv X pins σ H { s with heap:=h' }:=I.turned (t':=s.toks) (fun b o hb e=>(sb.2 b hb).trans e) f0 f1 f3 f4 f5;obtain⟨o,e,c,d⟩:=id st';refine⟨u,rfl,dX (s:={ s with heap:=h' }) e c d (by decide) ⟨_,H,I1,ru,⟨rfl,fun ys hy hl=>by rw[I.list_inj hy hq];exact Ua hlt⟩,?_,fun b hb=>(hf b hb).1⟩⟩;have e1:((n-1-i:Nat):Int)-1=(n:Int)-1-((i+1:Nat):Int):=by lia
  rw[e1] at st';exact st'
 done:=by
  intro X hP hw hK hc i pins s σ H E I hf st hg;subst hP hw hK;obtain⟨f0,f1,f2,f3,f4,f5⟩:=hf it (by simp);have e0:(n:Int)-1-i=-1:=by have:n=i:=hg;lia
  rw[e0] at st;exact wpAny_pyNext_rev_end (I.ok.hd hc) st fun h' eb=>⟨rfl,I.turned (t':=s.toks) (fun b o hb e=>eb b o hb e) f0 f1 f3 f4 f5⟩
 self:=fun _ _ _ _ _ st h=>wpAny_pyIter_revIter st h
def zkK (K:Frag)(ta:TA):TI:=fun σ H R=>ta σ H fun vs H1=>∃a xs,vs=[.ref a]/\SqL K H1 a xs/\R (zgN K a xs.length) H1
theorem ziI (hK:X.K=K)(hg:Gl X "reversed")(hm:X.mg "reversed"=none)(ha:PA X [a] ta)(hs:starEach [a] X.env=[(false,eval a X.env)]:=by rfl) :
 PI X tg (.Call (.Name "reversed" p) [a] [] pos) (zkK K ta):=by
 subst hK;intro pins s σ H R I h;refine Call_ (xE I hg hm boot_reversed (OC (thn (ha pos pins s σ H _ I h) fun us s1 ⟨vs,H1,I1,r1,q1⟩=>?_) hs rfl));obtain⟨l,xs,e,hq,q⟩:=q1;subst e
 cases r1 with
 |cons r rr=>
  cases rr;obtain rfl:=r;obtain⟨its,rv,pl,hz⟩:=I1.list hq;refine call_reversed_list pl.isList ?_;have hl:(its.toArray.size:Int)-1=(xs.length:Int)-1-((0:Nat):Int):=by rw[Ul,<-rv.length];simp
  rw[hl];have hst:(s1.heap.push (revObj l ((xs.length:Int)-1-((0:Nat):Int)))).IsRevIter s1.heap.objs.size l ((xs.length:Int)-1-((0:Nat):Int)):=⟨_,UC _ rfl,rfl,rfl⟩;refine wpAny_pyIter_revIter hst ?_;refine⟨s1.heap.objs.size,[s1.heap.objs.size],_,_,H1,rfl,I1.kept (t':=s1.toks) fun b o e=>Ui _ e,zfq l _ xs.length,hst,fun b hb=>?_,q⟩;have e:b=s1.heap.objs.size:=by simpa using hb
  subst e;exact I1.fpOk (Ub _) (I1.hok.fresh (Ub _))
theorem zhx {tb:TS}(Pv:Nat->St->Hp->Prop)(h0:Pv xs.length σ H)(hl:∀i σ H,Pv i σ H->SqL K H a xs)(hs:∀i x σ H,xs[i]?=some x->Pv (i+1) σ H->g x σ H fun σ2 H2=>tb { D with nx:=Pv i,ct:=Pv i,bk:=D.nx } σ2 H2)(hd:∀σ H,Pv 0 σ H->D.nx σ H) :
 ∃W:Nat->Nat->St->Hp->Prop,(∃m,W 0 m σ H)/\∀i m σ H,W i m σ H->
  ((zgN K a xs.length).stop i H/\D.nx σ H)∨((zgN K a xs.length).go i H/\∃N:St->Hp->Prop,(∀σ' H',N σ' H'->∃m',m'<m/\W (i+1) m' σ' H')/\∀x H',(zgN K a xs.length).yld i H x H'->g x σ H' fun σ2 H2=>tb { D with nx:=N,ct:=N,bk:=D.nx } σ2 H2):=by
 refine⟨fun i m σ H=>m=xs.length-i/\i<=xs.length/\Pv (xs.length-i) σ H,⟨_,rfl,UI _,h0⟩,?_⟩;rintro i m σ H ⟨rfl,hi,p⟩;have q:=hl _ σ H p
 by_cases hlt:i<xs.length
 ·have e1:xs.length-i=(xs.length-1-i)+1:=by lia
  rw[e1] at p;refine .inr ⟨⟨hlt,xs,q,rfl⟩,Pv (xs.length-1-i),fun σ' H' p'=>⟨_,by lia,rfl,hlt,by rw[show xs.length-(i+1)=xs.length-1-i by lia];exact p'⟩,fun x H' y=>?_⟩;obtain⟨rfl,y2⟩:=y;exact hs _ x σ _ (y2 xs q rfl) p
 ·have e:i=xs.length:=by lia
  subst e;rw[Ry] at p;exact .inl ⟨rfl,hd σ H p⟩
theorem yb (r:Addr)(a b c:Int)(t u v:Tok)(hc:¬(!(Builtin.Range.rangeFitsLong a&&Builtin.Range.rangeFitsLong b&&Builtin.Range.rangeFitsLong c&&Builtin.Range.rangeFitsLong (-c)&&Builtin.Range.rangeFitsLong (a-c)&&Builtin.Range.rangeFitsLong (Builtin.Range.rangeSize a b c)))=true) :
 Meets (Builtin.«range.__reversed__» ⟨[.ref r],[]⟩) (fun _ R s=>s.heap.get? r=some { cls:=.type "range",dict:=none,data:=.fields #[.int a t,.int b u,.int c v],slots:=#[] }/\
  R (.ok (.ret (Value.ref s.heap.objs.size))) { s with heap:=s.heap.push { cls:=Value.type (if(Builtin.Range.rangeFitsLong a&&Builtin.Range.rangeFitsLong b&&Builtin.Range.rangeFitsLong c&&Builtin.Range.rangeFitsLong (-c)&&Builtin.Range.rangeFitsLong (a-c)&&Builtin.Range.rangeFitsLong (Builtin.Range.rangeSize a b c))=true then "range_iterator" else "longrange_iterator"),data:=.fields #[rawInt (a+(Builtin.Range.rangeSize a b c-1)*c),rawInt (Builtin.Range.rangeSize a b c),rawInt (-c)] } }):=
 .of_wp fun prog w A R s h=>by obtain⟨hp,g,d,tk,os⟩:=s;obtain⟨hl,h⟩:=h;wp_walk;exact⟨_,rfl,h⟩
theorem yF {hi:Int}(hr:IsRange s.heap r 0 hi 1 t u v)(h1:0<=hi)(h2:hi<2^61)(h:Q (.ref s.heap.objs.size) { s with heap:=s.heap.push { cls:=.type "range_iterator",data:=.fields #[rawInt (hi-1),rawInt hi,rawInt (-1)] } }):wpAny (model M w) A (call (.builtin "range.__reversed__") [.ref r]) Q E s:=by
 have hT:s.TypeIs (.ref r) "range":=⟨_,hr,rfl⟩
 have hsz:Builtin.Range.rangeSize 0 hi 1=hi:=by
  rw[rangeSize_one];split<;>lia
 have hsm:(Builtin.Range.rangeFitsLong 0&&Builtin.Range.rangeFitsLong hi&&Builtin.Range.rangeFitsLong 1&&Builtin.Range.rangeFitsLong (-1)&&Builtin.Range.rangeFitsLong (0-1)&&Builtin.Range.rangeFitsLong (Builtin.Range.rangeSize 0 hi 1))=true:=by
  rw[hsz,vD (i:=hi) (by lia) (by lia)];decide
 refine Nj NL hT F.entry_range_reversed (F.args_range_reversed_1 _) (yb r 0 hi 1 t u v (by rw[hsm];decide)) ⟨hr,?_⟩;rw[hsm,Uv rfl,hsz];have e:(0:Int)+(hi-1)*1=hi-1:=by lia
 rw[e];exact h
theorem yz {hi:Int}(hr:IsRange s.heap r 0 hi 1 t u v)(h1:0<=hi)(h2:hi<2^61)(h:Q₁ (.ref s.heap.objs.size) { s with heap:=s.heap.push { cls:=.type "range_iterator",data:=.fields #[rawInt (hi-1),rawInt hi,rawInt (-1)] } }) :
 codeAny (model M w) A (.call (.builtin "reversed.__new__") ⟨[.type "reversed",.ref r],[]⟩) (wants Q₁ E) s:=by
 have hT:s.TypeIs (.ref r) "range":=⟨_,hr,rfl⟩;refine codeAny_of_tree ?_;show wpAny _ A.in1 (do checkBuiltinCall "reversed.__new__" ⟨[.type "reversed",.ref r],[]⟩;again (.builtin "reversed.__new__" ⟨[.type "reversed",.ref r],[]⟩)) _ _ s;refine Uc (OZ (F.newCall_reversed_1 _) (Uj ⟨O1 F.plain_reversed_new _,codeAny_builtin F.entry_reversed_new ?_⟩));rw[Ro F.plain_reversed_new _];unfold Builtin.«reversed.__new__»;refine Uc (OZ (newClass_reversed _) ?_)
 try dsimp only
 refine Uc (OZ (a:=()) (by first|rfl|kernel_rfl) ?_);refine Uc (OZ (a:=()) (by first|rfl|kernel_rfl) ?_)
 try dsimp only
 refine Uc (wpAny_specialOf hT NL.lookup ?_)
 try dsimp only
 refine Uc (OZ (NL.bind _) ?_)
 try dsimp only
 first
 |rw[Ur (show ¬((Value.builtin "range.__reversed__"==Value.none)=true) from UH)]
 |(show wpAny _ _ (if(Value.builtin "range.__reversed__"==Value.none)=true then _ else _) _ _ _;rw[Ur (show ¬((Value.builtin "range.__reversed__"==Value.none)=true) from UH)])
 refine Uc (RE ?_);refine Uc (m:=runValue (.call (.builtin "range.__reversed__") ⟨[.ref r],[]⟩)) (show wpAny _ _ (call (.builtin "range.__reversed__") [.ref r]) _ _ _ from yF hr h1 h2 ?_)
 first
 |exact Uj h
 |exact Uc (Uj (Uj h))
theorem fQ:isSubtype (.type "range_iterator") (.type "reversed")=pure false:=by rw[isSubtype_type];kernel_rfl
theorem yE {hi:Int}(hr:IsRange s.heap r 0 hi 1 t u v)(h1:0<=hi)(h2:hi<2^61)(h:Q (.ref s.heap.objs.size) { s with heap:=s.heap.push { cls:=.type "range_iterator",data:=.fields #[rawInt (hi-1),rawInt hi,rawInt (-1)] } }):wpAny (model M w) A (call (.type "reversed") [.ref r]) Q E s:=by
 refine callType_other (U:="range_iterator") (Q₁:=fun obj s₁=>obj=.ref s.heap.objs.size/\s₁={ s with heap:=s.heap.push { cls:=.type "range_iterator",data:=.fields #[rawInt (hi-1),rawInt hi,rawInt (-1)] } }) (by decide +kernel) F.create_reversed ⟨_,_,F.mro_reversed⟩ F.made_reversed fQ (F.typeCall_reversed_1 _) (yz hr h1 h2 ⟨rfl,rfl⟩) ?_;rintro obj s₁ ⟨rfl,rfl⟩;exact⟨⟨_,UC _ rfl,rfl⟩,h⟩
def zj5 (ta:TA):TI:=fun σ H R=>ta σ H fun vs H1=>∃n:Nat,vs=[.int n]/\n<2^60/\R (zfi ((n:Int)-1) (-1) n) H1
theorem zg7 (hg:Gl X "reversed")(hm:X.mg "reversed"=none)(hg2:Gl X "range")(hm2:X.mg "range"=none)(ha:PA X [a] ta)(hs:starEach [a] X.env=[(false,eval a X.env)]:=by rfl)(hs2:starEach [.Call (.Name "range" p2) [a] [] pos2] X.env=[(false,eval (.Call (.Name "range" p2) [a] [] pos2) X.env)]:=by rfl) :
 PI X tg (.Call (.Name "reversed" p) [.Call (.Name "range" p2) [a] [] pos2] [] pos) (zj5 ta):=by
 intro pins s σ H R I h;refine Call_ (xE I hg hm boot_reversed (OC ?_ hs2 rfl));rw[hs2];show wpAny _ _ (spliced ((false,eval (.Call (.Name "range" p2) [a] [] pos2) X.env)::[])) _ _ s;refine Calls.spliced_cons ?_;refine Call_ (xE I hg2 hm2 boot_range (OC (thn (ha pos2 pins s σ H _ I h) fun us s1 ⟨vs,H1,I1,r1,q1⟩=>?_) hs rfl));obtain⟨n,e,hn,q⟩:=q1;subst e
 cases r1 with
 |cons r rr=>
  cases rr;obtain⟨t,rfl⟩:=r;refine call_range_1 (Calls.spliced_nil ?_);refine yE (IsRange.new ..) (by lia) (by lia) ?_;dsimp only
  have hst:∀h0:Heap,IsRangeIter (h0.push { cls:=.type "range_iterator",data:=.fields #[rawInt ((n:Int)-1),rawInt n,rawInt (-1)] }) h0.objs.size (((n:Int)-1)+((0:Nat):Int)*(-1)) ((n:Int)-((0:Nat):Int)) (-1):=fun h0=>by
   have e1:((n:Int)-1)+((0:Nat):Int)*(-1)=(n:Int)-1:=by simp
   have e2:(n:Int)-((0:Nat):Int)=n:=by simp
   rw[e1,e2];exact UC _ rfl
  refine NB (hst _) ?_;have I2:=I1.kept (t':=s1.toks+2) (h':=s1.heap.push { cls:=.type "range",data:=.fields #[.int 0 s1.toks,.int n t,.int 1 (s1.toks+1)] }) fun b o e=>Ui _ e;refine⟨_,[_],_,_,H1,rfl,I2.kept (t':=s1.toks+2) fun b o e=>Ui _ e,fi _ _ _ n,hst _,fun b hb=>?_,q⟩;have e:=Uz.mp hb;subst e;exact I2.fpOk (Ub _) (I2.hok.fresh (Ub _))
def zjU (K:Frag):V->V->Hp->VK->Prop:=fun o i H Q=>∃p xs,∃j:Nat,∃v,o=.ref p/\i=.int (j:Int)/\SqL K H p xs/\xs[j]?=some v/\Q v H
theorem ze4 (hK:X.K=K):zke X (zjU K):=by
 subst hK;intro pins s σ H o i ov iv Q I ro ri h;obtain⟨p,xs,j,v,rfl,rfl,hq,hx,q⟩:=h
 cases ro;obtain⟨t,rfl⟩:=ri;obtain⟨its,r,pl,hz⟩:=I.list hq;obtain⟨u,hu,ru⟩:=r.get hx;have hl:=(Ue.mp hx).1;have hn:=yc;exact wpAny_getItem_list pl.isList (by lia) (by lia) (by rw[Ot];simpa using hu) ⟨v,H,I,ru,q⟩
def fl (n:Nat)(f:Nat->Int):List V:=(List.range n).map fun j=>V.int (f j)
def js (f:Nat->Int)(i:Nat)(x:Int):Nat->Int:=fun j=>if j=i then x else f j
theorem d4 (n:Nat)(f:Nat->Int):(fl n f).length=n:=by simp[fl]
theorem zbA (h:j<n):(fl n f)[j]?=some (.int (f j)):=by
 simp[fl,h]
theorem fH (h:j<n):atI (fl n f) (j:Int)=some (.int (f j)):=qa (zbA h)
theorem zgq:(fl n f).set i (.int x)=fl n (js f i x):=by
 apply OV;intro j
 by_cases hj:j<n
 ·rw[zbA hj,R6]
  by_cases e:i=j
  ·subst e;rw[Uv rfl,Uv (by rw[d4];exact hj)];simp[js]
  ·rw[Ur e,zbA hj];simp[js,OO e]
 ·rw[OM (by rw[Ts,d4];lia),OM (by rw[d4];lia)]
theorem yt (h:j<n):ixN n (j:Int)=some j:=by
 unfold ixN;rw[Uv (by lia),Uv (by lia),Ot]
theorem zba {f:Nat->Int}:∀{n j:Nat},pick (fun i j=>decide (f i<f j)) n=some j->∀i,i<n->f j<=f i
 |0,_,h=>by cases h
 |n+1,j,h=>by
  unfold pick at h
  cases e:pick (fun i j=>decide (f i<f j)) n with
  |none=>
   rw[e] at h;cases h;have:=jm e;intro i hi;have:i=n:=by lia
   subst this;exact RQ _
  |some k=>
   rw[e] at h;have ih:=zba e;simp only[R4] at h;intro i hi;split at h
   ·cases h
    by_cases z:i=n
    ·subst z;exact RQ _
    ·have:=ih i (by lia);lia
   ·cases h
    by_cases z:i=n
    ·subst z;lia
    ·exact ih i (by lia)
def zkA (K:Frag)(b:Bool):List V->Hp->VK->Prop:=fun vs H Q=>∃(a:Addr) (ns:List Int),vs=[.ref a]/\SqL K H a (ns.map V.int)/\0<ns.length/\
 ∀m H',m∈ns->(∀x∈ns,if b then m<=x else x<=m)->Same H H'->Q (.int m) H'
theorem zkS (b:Bool)(hK:X.K=K)(hc:X.calm=true):jq X (.builtin (mmI b)) (zkA K b):=by
 intro pins s σ H xs us Q I r h;refine zjg b hK hc pins s σ H xs us Q I r ?_;obtain⟨a,ns,e,hl,hn,k⟩:=h;refine⟨a,ns,e,hl,hn,fun H' S=>?_⟩
 cases b with
 |true=>
  cases e:pick (fun i j=>if true=true then decide (ns.getD i 0<ns.getD j 0) else decide (ns.getD j 0<ns.getD i 0)) (ns.map V.int).length with
  |none=>have:=jm e;rw[Ud] at this;lia
  |some j=>
   simp only[Tp] at e;have hj:=yp e;have hle:=zba (f:=fun i=>ns.getD i 0) e;intro x hx;rw[Ud] at hj hle;rw[Up,Ua hj] at hx
   cases hx;refine k _ _ (Of hj) (fun x hx=>?_) S;obtain⟨i,hi,rfl⟩:=OB hx;have:=hle i hi;simpa[getD,Ua hj,Ua hi] using this
 |false=>
  cases e:pick (fun i j=>if false=true then decide (ns.getD i 0<ns.getD j 0) else decide (ns.getD j 0<ns.getD i 0)) (ns.map V.int).length with
  |none=>have:=jm e;rw[Ud] at this;lia
  |some j=>
   simp only[UW,OR] at e;have hj:=yp e
   have e':pick (fun i j=>decide ((fun i=>- ns.getD i 0) i<(fun i=>- ns.getD i 0) j)) (ns.map V.int).length=some j:=by
    rw[<-e];congr 1;funext i j;congr 1;apply propext;show -_ < -_↔_;lia
   have hle:=zba (f:=fun i=>- ns.getD i 0) e';intro x hx;rw[Ud] at hj hle;rw[Up,Ua hj] at hx
   cases hx;refine k _ _ (Of hj) (fun x hx=>?_) S;obtain⟨i,hi,rfl⟩:=OB hx;have:=hle i hi;simp only[getD,Ua hj,Ua hi,getD_some] at this;rw[Ur (by decide)];lia
def zhS (i:Nat)(f:Addr)(sp:Sp)(t:TA):TE:=fun σ H Q=>σ[i]?=some (some (.ref f))/\t σ H fun vs H1=>sp vs H1 Q E0
def zgO (P:Program)(w:World)(K:Frag)(mg:Str->Option Value)(base:Heap)(f:Addr)(k:Nat)(sp:Sp):Prop:=
 ∀(X:Cx),X.prog=P->X.w=w->X.K=K->X.mg=mg->X.base=base->Room k X.A->∀(i:Nat) (x:Str) (p pos:Pos) (e:Expr) (t:TA),X.N[i]?=some x->Vis X.env.scope x->(x==("__debug__":Str))=false->(x==("__classdict__":Str))=false->PA X [e] t->
  starEach [e] X.env=[(false,eval e X.env)]->PE X (.Call (.Name x p) [e] [] pos) (zhS i f sp t)
theorem zha (C:zgO P w K mg base f k sp)(h1:X.prog=P)(h2:X.w=w)(h3:X.K=K)(h4:X.mg=mg)(h5:X.base=base)(hr:Room k X.A)(i:Nat)(ha:PA X [e] t)(hN:X.N[i]?=some x:=by rfl)(hv:Vis X.env.scope x:=by first|exact Or.inl rfl|exact Or.inr (Or.inl rfl)|exact Or.inr (Or.inr rfl))(hd:(x==("__debug__":Str))=false:=by decide)(hcd:(x==("__classdict__":Str))=false:=by decide)(hs:starEach [e] X.env=[(false,eval e X.env)]:=by rfl):PE X (.Call (.Name x p) [e] [] pos) (zhS i f sp t):=C X h1 h2 h3 h4 h5 hr i x p pos e t hN hv hd hcd ha hs
def zfS:V->Option Int->Option Int->Hp->VK->Prop:=fun x lo hi H Q=>∃a xs,x=.ref a/\H a=some (.tup xs)/\∀q H',Same H H'->H' q=some (.tup (bx xs lo hi))->Q (.ref q) H'
theorem ziv:SlR X zfS:=by
 intro pins s σ H x v vl vu lo hi sl Q I rx hs pl pu h;obtain⟨a,xs,rfl,hx,q1⟩:=h
 by_cases hw:HT.sIx xs.length 0 lo=0/\HT.sIx xs.length xs.length hi=xs.length
 ·cases rx;obtain⟨its,r,ht,hz⟩:=I.tuple (SqT.of hx);have hlen:its.toArray.size=xs.length:=by rw[Ul];exact r.length.symm
  refine⟨"tuple",_,Os.lookup,ht.typeIs,HT.getItem_tuple_all ht hs pl pu (by rw[hlen];exact hw) ⟨.ref a,H,I,rfl,q1 a H (Same.refl H) ?_⟩⟩
  have e:bx xs lo hi=xs:=by
   unfold bx;rw[hw.1,hw.2];simp
  rw[e];exact hx
 ·exact ziu pins s σ H (.ref a) v vl vu lo hi sl Q I rx hs pl pu ⟨a,xs,rfl,SqT.of hx,hw,fun p hp=>q1 p _ (fun b o e=>by rw[zi (zf e hp)];exact e) zd⟩
def zfU:R2:=fun x y H Q=>∃a b xs ys,x=.ref a/\y=.ref b/\H a=some (.tup xs)/\H b=some (.tup ys)/\xs.length+ys.length<=sizeLine/\∀q H',Same H H'->H' q=some (.tup (xs++ys))->Q (.ref q) H'
theorem zh2:OpR X (binaryOp .Add) zfU:=by
 intro pins s σ H x y v u Q I rx ry h;obtain⟨a,b,xs,ys,rfl,rfl,ha,hb,hz,q⟩:=h
 by_cases hx:xs=[]
 ·subst hx
  cases rx
  cases ry;obtain⟨its,r1,p1,_⟩:=I.tuple (SqT.of ha);obtain⟨its2,r2,p2,_⟩:=I.tuple (SqT.of hb)
  cases r1;obtain⟨⟨cls,dd,data,sl⟩,ho,hc,n,hd⟩:=id p1;obtain⟨⟨cls2,dd2,data2,sl2⟩,ho2,hc2,n2,hd2⟩:=id p2;simp only at hc hd hc2 hd2;subst hc hd hc2 hd2
  exact concat_meets ⟨_,ho,rfl⟩ ⟨_,ho2,rfl⟩ noFill_tuple_add seq_tuple_add Nh T4 (TY _ _)
   (tuple_addW0 a b _ _ n n2 dd dd2 sl sl2 rfl) ⟨ho,ho2,⟨.ref b,H,I,rfl,q b H (Same.refl _) hb⟩⟩
 ·exact zhf pins s σ H (.ref a) (.ref b) v u Q I rx ry ⟨a,b,xs,ys,rfl,rfl,SqT.of ha,SqT.of hb,hx,hz,fun e=>by subst e;exact q a H (Same.refl _) (by rw[Ol];exact ha),fun _ p hp=>q p _ (Same.lay hp) zd⟩
theorem cut_to (xs:List α)(k:Nat)(h:k<=xs.length):zbD xs none (some (k:Int))=xs.take k:=by
 unfold zbD;have e1:HT.sIx xs.length 0 none=0:=rfl
 have e2:HT.sIx xs.length xs.length (some (k:Int))=k:=by
  unfold HT.sIx;simp only;split<;>lia
 rw[e1,e2,Nx,Nat.sub_zero]
theorem zgz (xs:List α)(k:Nat)(h:k<=xs.length):zbD xs (some (k:Int)) none=xs.drop k:=by
 unfold zbD
 have e2:HT.sIx xs.length 0 (some (k:Int))=k:=by
  unfold HT.sIx;simp only;split<;>lia
 have e1:HT.sIx xs.length xs.length none=xs.length:=rfl;rw[e1,e2,Oi (by rw[Rf];lia)]
def zed:Bool->Keyed->Array Keyed->Nat->Nat->Nat->StateT SortSt Sem (Option Nat):=sortPriv% PySem.Builtin.gallop
def zcC:Array Keyed->Array Keyed->StateT SortSt Sem (Array Keyed):=sortPriv% PySem.Builtin.mergeLo
def zcD:Array Keyed->Array Keyed->StateT SortSt Sem (Array Keyed):=sortPriv% PySem.Builtin.mergeHi
def zbJ (left:Bool)(key:Keyed)(arr:Array Keyed)(base i:Nat):StateT SortSt Sem (Option Bool):=do
 let x <-elem' arr (base+i)
 if left then lt' x key else return (<-lt' key x).map (!·)
def pK (prog:Program)(w:World)(A:Around)(E:Value->Shared->Prop)(s:Shared)(κ:SortKind)(S:Keyed->Prop)(LT:Keyed->Keyed->Bool):Prop:=
 ∀(x y:Keyed) (st:SortSt) (Q:Option Bool->SortSt->Prop),S x->S y->kindOf st=κ->Q (some (LT x y)) st->wpS (model prog w) A E s (lt' x y) Q st
def bey (LT:Keyed->Keyed->Bool)(left:Bool)(key:Keyed)(arr:Array Keyed)(base i:Nat):Bool:=
 match arr[base+i]? with
 |some x=>if left then LT x key else !LT key x
 |none=>false
theorem zZ {st:SortSt}(e:arr[i]?=some x)(h:Q x st):wpS (model prog w) A E s (elem' arr i) Q st:=by
 rw[elem'_eq,e];exact UB h
theorem zcW {LT:Keyed->Keyed->Bool}(hl:pK prog w A E s κ S LT){st:SortSt}(hk:S key)(ha:∀(j:Nat) (x:Keyed),arr[j]?=some x->S x)(hi:base+i<arr.size)(hs:kindOf st=κ)(h:Q (some (bey LT left key arr base i)) st):wpS (model prog w) A E s (zbJ left key arr base i) Q st:=by
 have e:arr[base+i]?=some arr[base+i]:=Us hi;unfold zbJ;refine Ut (zZ e ?_);unfold bey at h;rw[e] at h;dsimp only at h
 cases left with
 |true=>
  rw[Uv rfl] at h ⊢;exact hl _ _ st _ (ha _ _ e) hk hs h
 |false=>
  rw[Ur (by decide)] at h ⊢;exact Ut (hl _ _ st _ hk (ha _ _ e) hs (UB h))
theorem bL {st:SortSt}{B:Nat->Bool}(hF:∀(i lo hi:Nat) (Q':ForInStep (Option (Option Nat)×Nat×Nat)->SortSt->Prop),hi<=n->(hi<=lo->Q' (.done (none,lo,hi)) st)->(lo<hi->B (lo+(hi-lo)/2)=true->Q' (.yield (none,lo+(hi-lo)/2+1,hi)) st)->(lo<hi->B (lo+(hi-lo)/2)=false->Q' (.yield (none,lo,lo+(hi-lo)/2)) st)->wpS (model prog w) A E s (F i (none,lo,hi)) Q' st)(hG:∀k,Q (some k) st->wpS (model prog w) A E s (G (none,k,k)) Q st)(hm:∀i j,i<=j->j<n->B j=true->B i=true)(h:∀k,k<=n->(∀i,i<k->B i=true)->(∀i,k<=i->i<n->B i=false)->Q (some k) st)(lo0 hi0:Nat)(h1:lo0<=hi0)(h2:hi0<=n)(h3:∀i,i<lo0->B i=true)(h4:∀i,hi0<=i->i<n->B i=false) :
 wpS (model prog w) A E s (forIn [0:n] (none,lo0,hi0) F >>= G) Q st:=by
 refine Ut (R0 (OF (I:=fun i c st'=>st'=st/\∃lo hi,c=(none,lo,hi)/\lo<=hi/\hi<=n/\(∀i,i<lo->B i=true)/\(∀i,hi<=i->i<n->B i=false)/\hi-lo<=n-i)
  (Q:=fun c st'=>st'=st/\∃k,c=(none,k,k)/\k<=n/\(∀i,i<k->B i=true)/\(∀i,k<=i->i<n->B i=false)) ?_ ?_ ⟨rfl,lo0,hi0,rfl,h1,h2,h3,h4,by lia⟩) ?_)
 ·rintro i c st' _ hi' ⟨rfl,lo,hi,rfl,g1,g2,g3,g4,g5⟩;refine hF i lo hi _ g2 (fun ho=>?_) (fun ho e=>?_) (fun ho e=>?_)
  ·have:lo=hi:=by lia
   subst this;exact⟨rfl,lo,rfl,g2,g3,g4⟩
  ·exact⟨rfl,_,_,rfl,by lia,g2,fun i hi=>hm i _ (by lia) (by lia) e,g4,by lia⟩
  ·refine⟨rfl,_,_,rfl,by lia,by lia,g3,fun i hi1 hi2=>?_,by lia⟩
   cases e3:B i with
   |false=>rfl
   |true=>rw[hm _ i hi1 hi2 e3] at e;cases e
 ·rintro c st' ⟨rfl,lo,hi,rfl,g1,g2,g3,g4,g5⟩;have:lo=hi:=by lia
  subst this;exact⟨rfl,lo,rfl,g2,g3,g4⟩
 ·rintro c st' ⟨rfl,k,rfl,g1,g2,g3⟩;exact hG k (h k g1 g2 g3)
theorem jI {LT:Keyed->Keyed->Bool}(hl:pK prog w A E s κ S LT){st:SortSt}(hk:S key)(ha:∀(j:Nat) (x:Keyed),arr[j]?=some x->S x)(hn:base+n<=arr.size)(hh:hint<n)(hs:kindOf st=κ)(hm:∀i j,i<=j->j<n->bey LT left key arr base j=true->bey LT left key arr base i=true)(h:∀k,k<=n->(∀i,i<k->bey LT left key arr base i=true)->(∀i,k<=i->i<n->bey LT left key arr base i=false)->Q (some k) st):wpS (model prog w) A E s (zed left key arr base n hint) Q st:=by
 unfold zed;k_delta "gallop";have hb:∀i {Q':Option Bool->SortSt->Prop},i<n->Q' (some (bey LT left key arr base i)) st->wpS (model prog w) A E s (zbJ left key arr base i) Q' st:=fun i Q' hi q=>zcW hl hk ha (by lia) hs q;generalize bey LT left key arr base=B at hm h hb;refine Ut (hb hint hh ?_);dsimp only
 cases e:B hint with
 |true=>
  rw[Uv rfl]
  refine Ut (R0 (OF (I:=fun i c st'=>st'=st/\∃l o,c=(none,l,o)/\l<o/\hint+l<n/\B (hint+l)=true/\i+1<=o)
   (Q:=fun c st'=>st'=st/\∃l o,c=(none,l,o)/\l<o/\hint+l<n/\B (hint+l)=true/\(n-hint<=o∨(hint+o<n/\B (hint+o)=false))) ?_ ?_ ⟨rfl,0,1,rfl,by lia,by lia,by rw[Nat.add_zero];exact e,by lia⟩) ?_)
  ·rintro i c st' _ hi ⟨rfl,l,o,rfl,h1,h2,h3,h4⟩;dsimp only
   by_cases ho:o≥n-hint
   ·rw[Uv ho];exact UB ⟨rfl,l,o,rfl,h1,h2,h3,.inl ho⟩
   ·rw[Ur ho];refine Ut (hb (hint+o) (by lia) ?_);dsimp only
    cases e2:B (hint+o) with
    |true=>exact UB ⟨rfl,o,2*o+1,rfl,by lia,by lia,e2,by lia⟩
    |false=>exact UB ⟨rfl,l,o,rfl,h1,h2,h3,.inr ⟨by lia,e2⟩⟩
  ·rintro c st' ⟨rfl,l,o,rfl,h1,h2,h3,h4⟩;exact⟨rfl,l,o,rfl,h1,h2,h3,.inl (by lia)⟩
  ·rintro c st' ⟨rfl,l,o,rfl,h1,h2,h3,h4⟩
   refine bL (fun i lo hi Q' hn' q1 q2 q3=>by
    dsimp only
    by_cases ho:lo≥hi
    ·rw[Uv ho];exact UB (q1 ho)
    ·rw[Ur ho];refine Ut (hb (lo+(hi-lo)/2) (by lia) ?_);dsimp only
     cases e9:B (lo+(hi-lo)/2) with
     |true=>exact UB (q2 (by lia) e9)
     |false=>exact UB (q3 (by lia) e9)) (fun k q=>UB q) hm h (hint+l+1) (hint+min o (n-hint)) (by lia) (by lia) (fun i hi=>hm i _ (by lia) h2 h3) (fun i hi1 hi2=>?_)
   rcases h4 with h4|⟨h4,h5⟩
   ·lia
   ·cases e3:B i with
    |false=>rfl
    |true=>rw[hm _ i (by lia) hi2 e3] at h5;cases h5
 |false=>
  rw[Ur (by decide)]
  refine Ut (R0 (OF (I:=fun i c st'=>st'=st/\∃l o,c=(none,l,o)/\l<o/\l<=hint/\B (hint-l)=false/\i+1<=o)
   (Q:=fun c st'=>st'=st/\∃l o,c=(none,l,o)/\l<o/\l<=hint/\B (hint-l)=false/\(hint+1<=o∨(o<=hint/\B (hint-o)=true))) ?_ ?_ ⟨rfl,0,1,rfl,by lia,by lia,e,by lia⟩) ?_)
  ·rintro i c st' _ hi ⟨rfl,l,o,rfl,h1,h2,h3,h4⟩;dsimp only
   by_cases ho:o≥hint+1
   ·rw[Uv ho];exact UB ⟨rfl,l,o,rfl,h1,h2,h3,.inl ho⟩
   ·rw[Ur ho];refine Ut (hb (hint-o) (by lia) ?_);dsimp only
    cases e2:B (hint-o) with
    |true=>exact UB ⟨rfl,l,o,rfl,h1,h2,h3,.inr ⟨by lia,e2⟩⟩
    |false=>exact UB ⟨rfl,o,2*o+1,rfl,by lia,by lia,e2,by lia⟩
  ·rintro c st' ⟨rfl,l,o,rfl,h1,h2,h3,h4⟩;exact⟨rfl,l,o,rfl,h1,h2,h3,.inl (by lia)⟩
  ·rintro c st' ⟨rfl,l,o,rfl,h1,h2,h3,h4⟩
   refine bL (fun i lo hi Q' hn' q1 q2 q3=>by
    dsimp only
    by_cases ho:lo≥hi
    ·rw[Uv ho];exact UB (q1 ho)
    ·rw[Ur ho];refine Ut (hb (lo+(hi-lo)/2) (by lia) ?_);dsimp only
     cases e9:B (lo+(hi-lo)/2) with
     |true=>exact UB (q2 (by lia) e9)
     |false=>exact UB (q3 (by lia) e9)) (fun k q=>UB q) hm h (hint+1-min o (hint+1)) (hint-l) (by lia) (by lia) (fun i hi=>?_) (fun i hi1 hi2=>?_)
   ·rcases h4 with h4|⟨h4,h5⟩
    ·lia
    ·exact hm i _ (by lia) (by lia) h5
   ·cases e3:B i with
    |false=>rfl
    |true=>rw[hm _ i hi1 hi2 e3] at h3;cases h3
structure Ord (S:α->Prop)(LT:α->α->Bool):Prop where
 asym:∀x y,S x->S y->LT x y=true->LT y x=false
 trans:∀x y z,S x->S y->S z->LT y x=false->LT z y=false->LT z x=false
abbrev leO (LT:α->α->Bool)(x y:α):Prop:=LT y x=false
structure MI (S:α->Prop)(LT:α->α->Bool)(T out ra rb:List α):Prop where
 perm:(out++(ra++rb)).Perm T
 so:out.Pairwise (leO LT)
 sa:ra.Pairwise (leO LT)
 sb:rb.Pairwise (leO LT)
 below:∀x∈out,∀y∈ra++rb,leO LT x y
 all:∀x∈T,S x
theorem MI.inA {S:α->Prop}{LT:α->α->Bool}{T:List α}{out:List α}{ra:List α}{rb:List α}{x:α}(m:MI S LT T out ra rb)(h:x∈ra):S x:=m.all x (m.perm.mem_iff.mp (UF _ (UR _ h)))
theorem MI.inB {S:α->Prop}{LT:α->α->Bool}{T:List α}{out:List α}{ra:List α}{rb:List α}{x:α}(m:MI S LT T out ra rb)(h:x∈rb):S x:=m.all x (m.perm.mem_iff.mp (UF _ (UF _ h)))
theorem MI.takeA {S:α->Prop}{LT:α->α->Bool}{T:List α}{out:List α}{ra:List α}{rb:List α}{c:List α}(m:MI S LT T out (c++ra) rb)(h:∀x∈c,∀y∈rb,leO LT x y):MI S LT T (out++c) ra rb:=by
 have sa:=U5.mp m.sa;refine⟨?_,U5.mpr ⟨m.so,sa.1,fun x hx y hy=>m.below x hx y (UR _ (UR _ hy))⟩,sa.2.1,m.sb,fun x hx y hy=>?_,m.all⟩
 ·refine List.Perm.trans ?_ m.perm;rw[U8,U8]
 ·rcases UJ.mp hx with hx|hx
  ·rcases UJ.mp hy with hy|hy
   ·exact m.below x hx y (UR _ (UF _ hy))
   ·exact m.below x hx y (UF _ hy)
  ·rcases UJ.mp hy with hy|hy
   ·exact sa.2.2 x hx y hy
   ·exact h x hx y hy
theorem MI.takeB {S:α->Prop}{LT:α->α->Bool}{T:List α}{out:List α}{ra:List α}{rb:List α}{c:List α}(m:MI S LT T out ra (c++rb))(h:∀x∈c,∀y∈ra,leO LT x y):MI S LT T (out++c) ra rb:=by
 have sb:=U5.mp m.sb;refine⟨?_,U5.mpr ⟨m.so,sb.1,fun x hx y hy=>m.below x hx y (UF _ (UR _ hy))⟩,m.sa,sb.2.1,fun x hx y hy=>?_,m.all⟩
 ·refine List.Perm.trans ?_ m.perm;rw[U8];refine List.Perm.append_left _ ?_;rw[<-U8,<-U8];exact List.Perm.append_right _ List.perm_append_comm
 ·rcases UJ.mp hx with hx|hx
  ·rcases UJ.mp hy with hy|hy
   ·exact m.below x hx y (UR _ hy)
   ·exact m.below x hx y (UF _ (UF _ hy))
  ·rcases UJ.mp hy with hy|hy
   ·exact h x hx y hy
   ·exact sb.2.2 x hx y hy
theorem MI.pushA {S:α->Prop}{LT:α->α->Bool}{T:List α}{out:List α}{ra:List α}{rb:List α}{x:α}{y:α}(o:Ord S LT)(m:MI S LT T out (x::ra) (y::rb))(h:LT y x=false):MI S LT T (out++[x]) ra (y::rb):=by
 refine MI.takeA (c:=[x]) m fun x' hx' z hz=>?_;rw[Uz] at hx';subst hx';rcases Uw.mp hz with rfl|hz'
 ·exact h
 ·exact o.trans x' y z (m.inA (Ug ..)) (m.inB (Ug ..)) (m.inB hz) h ((UY.mp m.sb).1 z hz')
theorem MI.pushB {S:α->Prop}{LT:α->α->Bool}{T:List α}{out:List α}{ra:List α}{rb:List α}{x:α}{y:α}(o:Ord S LT)(m:MI S LT T out (x::ra) (y::rb))(h:LT y x=true):MI S LT T (out++[y]) (x::ra) rb:=by
 refine MI.takeB (c:=[y]) m fun y' hy' z hz=>?_;rw[Uz] at hy';subst hy';have h':=o.asym y' x (m.inB (Ug ..)) (m.inA (Ug ..)) h;rcases Uw.mp hz with rfl|hz'
 ·exact h'
 ·exact o.trans y' x z (m.inB (Ug ..)) (m.inA (Ug ..)) (m.inA hz) h' ((UY.mp m.sa).1 z hz')
theorem MI.endB {S:α->Prop}{LT:α->α->Bool}{T:List α}{out:List α}{ra:List α}(m:MI S LT T out ra []):(out++ra).Perm T/\(out++ra).Pairwise (leO LT):=by
 have p:=m.perm;rw[Ol] at p;exact⟨p,U5.mpr ⟨m.so,m.sa,fun x hx y hy=>m.below x hx y (UR _ hy)⟩⟩
theorem MI.endA {S:α->Prop}{LT:α->α->Bool}{T:List α}{out:List α}{rb:List α}(m:MI S LT T out [] rb):(out++rb).Perm T/\(out++rb).Pairwise (leO LT):=
 ⟨m.perm,U5.mpr ⟨m.so,m.sb,fun x hx y hy=>m.below x hx y hy⟩⟩
theorem MI.lastA {S:α->Prop}{LT:α->α->Bool}{T:List α}{out:List α}{rb:List α}{x:α}(m:MI S LT T out [x] rb)(h:∀y∈rb,leO LT y x):(out++rb++[x]).Perm T/\(out++rb++[x]).Pairwise (leO LT):=by
 have m':MI S LT T (out++rb) [x] []:=MI.takeB (c:=rb) (rb:=[]) (by rw[Ol];exact m) fun y hy z hz=>by rw[Uz] at hz;subst hz;exact h y hy
 exact m'.endB
theorem jD {a:Array α}{x:α}(e:a[i]?=some x):a.toList.drop i=x::a.toList.drop (i+1):=by
 obtain⟨h,e⟩:=UX.mp e;rw[OX (by simpa using h)];simp[e]
theorem y9 {a:Array α}{i:Nat}{x:α}(e:a[i]?=some x):x∈a.toList:=by
 obtain⟨h,e⟩:=UX.mp e;rw[<-e];simp
structure Lo (S:Keyed->Prop)(LT:Keyed->Keyed->Bool)(a b out:Array Keyed)(ia ib:Nat):Prop where
 mi:MI S LT (a.toList++b.toList) out.toList (a.toList.drop ia) (b.toList.drop ib)
 sz:out.size=ia+ib
 ha:ia<=a.size
 hb:ib<=b.size
def Mg (LT:Keyed->Keyed->Bool)(a b r:Array Keyed):Prop:=r.toList.Perm (a.toList++b.toList)/\r.toList.Pairwise (leO LT)
theorem Lo.pushB {LT:Keyed->Keyed->Bool}{y:Keyed}(o:Ord S LT)(h:Lo S LT a b out ia ib)(ea:a[ia]?=some x)(eb:b[ib]?=some y)(e:LT y x=true):Lo S LT a b (out.push y) ia (ib+1):=by
 have m:=h.mi;rw[jD ea,jD eb] at m;have m':=m.pushB o e;refine⟨?_,by rw[Tt,h.sz];lia,h.ha,(UX.mp eb).1⟩;rw[RH,jD ea];exact m'
theorem Lo.pushA {LT:Keyed->Keyed->Bool}{x:Keyed}(o:Ord S LT)(h:Lo S LT a b out ia ib)(ea:a[ia]?=some x)(eb:b[ib]?=some y)(e:LT y x=false):Lo S LT a b (out.push x) (ia+1) ib:=by
 have m:=h.mi;rw[jD ea,jD eb] at m;have m':=m.pushA o e;refine⟨?_,by rw[Tt,h.sz];lia,(UX.mp ea).1,h.hb⟩;rw[RH,jD eb];exact m'
theorem drop_take (a:Array α)(i k:Nat):a.toList.drop i=(a.extract i (i+k)).toList++a.toList.drop (i+k):=by
 rw[Rg,OW,Nat.add_sub_cancel_left,<-drop_drop,Oo]
theorem zd3 {a:Array α}{x:α}(h:x∈(a.extract i (i+k)).toList):∃j,j<k/\a[i+j]?=some x:=by
 rw[RN] at h;obtain⟨j,hj,e⟩:=Tj h;rw[On] at hj;refine⟨j,by lia,?_⟩;rw[<-e,Td];exact Us _
theorem Lo.takeA {LT:Keyed->Keyed->Bool}{y:Keyed}(o:Ord S LT)(h:Lo S LT a b out ia ib)(hk:ia+k<=a.size)(eb:b[ib]?=some y)(c:∀i x,i<k->a[ia+i]?=some x->LT y x=false):Lo S LT a b (out++a.extract ia (ia+k)) (ia+k) ib:=by
 have m:=h.mi;rw[drop_take a ia k] at m;refine⟨?_,by rw[TV,On,h.sz];lia,hk,h.hb⟩;rw[UZ];refine m.takeA fun x hx z hz=>?_;obtain⟨i,hi,e⟩:=zd3 hx;have cx:=c i x hi e;have sx:S x:=m.inA (UR _ hx);have sz:=m.inB hz;have sb:=m.sb;rw[jD eb] at hz sb;rcases Uw.mp hz with rfl|hz'
 ·exact cx
 ·refine o.trans x y z sx (m.inB (by rw[jD eb];exact Ug ..)) sz cx ((UY.mp sb).1 z hz')
theorem Lo.takeB {LT:Keyed->Keyed->Bool}{k:Nat}(o:Ord S LT)(h:Lo S LT a b out ia ib)(hk:ib+k<=b.size)(ea:a[ia]?=some x)(c:∀i y,i<k->b[ib+i]?=some y->LT y x=true):Lo S LT a b (out++b.extract ib (ib+k)) ia (ib+k):=by
 have m:=h.mi;rw[drop_take b ib k] at m;refine⟨?_,by rw[TV,On,h.sz];lia,h.ha,hk⟩;rw[UZ];refine m.takeB fun y hy z hz=>?_;obtain⟨i,hi,e⟩:=zd3 hy;have sy:S y:=m.inB (UR _ hy);have sz:=m.inA hz;have sx:S x:=m.inA (by rw[jD ea];exact Ug ..);have cy:=o.asym y x sy sx (c i y hi e);have sa:=m.sa;rw[jD ea] at hz sa;rcases Uw.mp hz with rfl|hz'
 ·exact cy
 ·exact o.trans y x z sy sx sz cy ((UY.mp sa).1 z hz')
theorem yu (a:Array α)(i:Nat):(a.extract i a.size).toList=a.toList.drop i:=by
 rw[Rg,OW,Oi];simp
theorem Lo.endB {LT:Keyed->Keyed->Bool}{ia:Nat}(h:Lo S LT a b out ia ib)(e:ib=b.size):Mg LT a b (out++a.extract ia a.size++b.extract ib b.size):=by
 have m:=h.mi;have e2:b.toList.drop ib=[]:=by rw[e];simp
 rw[e2] at m;unfold Mg;rw[UZ,UZ,yu,yu,e2,Ol];exact m.endB
theorem Lo.endA {LT:Keyed->Keyed->Bool}(h:Lo S LT a b out ia ib)(e:ia=a.size):Mg LT a b (out++a.extract ia a.size++b.extract ib b.size):=by
 have m:=h.mi;have e2:a.toList.drop ia=[]:=by rw[e];simp
 rw[e2] at m;unfold Mg;rw[UZ,UZ,yu,yu,e2,Ol];exact m.endA
theorem Lo.lastA {LT:Keyed->Keyed->Bool}(h:Lo S LT a b out ia ib)(e:ia+1=a.size)(hl:∀x,a[a.size-1]?=some x->∀y∈b.toList,leO LT y x):Mg LT a b (out++b.extract ib b.size++a.extract ia a.size):=by
 have m:=h.mi;have hi:ia<a.size:=by lia
 have ea:a[ia]?=some a[ia]:=Us hi;have e2:a.toList.drop ia=[a[ia]]:=by rw[jD ea,e];simp
 rw[e2] at m;unfold Mg;rw[UZ,UZ,yu,yu,e2];refine m.lastA fun y hy=>hl _ ?_ y (Nu hy);rw[show a.size-1=ia by lia];exact ea
theorem xP {LT:Keyed->Keyed->Bool}(o:Ord S LT){left:Bool}(hk:S key)(ha:∀(j:Nat) (x:Keyed),arr[j]?=some x->S x)(hn:base+n<=arr.size)(so:∀i j x y,i<j->j<n->arr[base+i]?=some x->arr[base+j]?=some y->leO LT x y) :
 ∀i j,i<=j->j<n->bey LT left key arr base j=true->bey LT left key arr base i=true:=by
 intro i j hij hj h
 by_cases e:i=j
 ·subst e;exact h
 have ei:arr[base+i]?=some (arr[base+i]'(by lia)):=Us _;have ej:arr[base+j]?=some (arr[base+j]'(by lia)):=Us _;have si:=ha _ _ ei;have sj:=ha _ _ ej;have le:=so i j _ _ (by lia) hj ei ej;unfold bey at h ⊢;rw[ei];rw[ej] at h;dsimp only at h ⊢
 cases left with
 |true=>
  rw[Uv rfl] at h ⊢
  cases g:LT (arr[base+i]'(by lia)) key with
  |true=>rfl
  |false=>
   have:=o.trans key _ _ hk si sj g le;rw[this] at h;cases h
 |false=>
  rw[Ur (by decide)] at h ⊢;have h':LT key (arr[base+j]'(by lia))=false:=by simpa using h
  have:=o.trans _ _ key si sj hk le h';rw[this];rfl
theorem pB {LT:Keyed->Keyed->Bool}{x:Keyed}(h:bey LT false key arr base i=v)(e:arr[base+i]?=some x):LT key x = !v:=by
 unfold bey at h;rw[e] at h;dsimp only at h;rw[Ur (by decide)] at h;rw[<-h];simp
theorem pA {LT:Keyed->Keyed->Bool}(h:bey LT true key arr base i=v)(e:arr[base+i]?=some x):LT x key=v:=by
 unfold bey at h;rw[e] at h;dsimp only at h;rw[Uv rfl] at h;exact h
theorem zdR {LT:Keyed->Keyed->Bool}(sa:arr.toList.Pairwise (leO LT))(base n:Nat)(hn:base+n<=arr.size):∀i j x y,i<j->j<n->arr[base+i]?=some x->arr[base+j]?=some y->leO LT x y:=by
 intro i j x y hij hj e1 e2;obtain⟨h1,rfl⟩:=UX.mp e1;obtain⟨h2,rfl⟩:=UX.mp e2;have:=Oh.mp sa (base+i) (base+j) (by simpa using h1) (by simpa using h2) (by lia);simpa using this
structure Sg (st st':SortSt):Prop where
 kind:kindOf st'=kindOf st
 arr:arrOf st'=arrOf st
 pend:pendingOf st'=pendingOf st
 failed:failedOf st'=failedOf st
theorem Sg.refl (st:SortSt):Sg st st:=⟨rfl,rfl,rfl,rfl⟩
theorem Sg.set {st st':SortSt}(h:Sg st st')(g:Nat):Sg st (SortSt.mk' (kindOf st') (arrOf st') (pendingOf st') g (failedOf st')):=⟨h.kind,h.arr,h.pend,h.failed⟩
theorem zk2 {LT:Keyed->Keyed->Bool}{i:Nat}(L:Lo S LT a b out ia ib)(h1:ia+1<a.size)(h2:ib<b.size)(h3:1+i+1+(j+1)<=out.size):ia+1<a.size/\ib<b.size/\1+i+1+(j+1)<=out.size:=⟨h1,h2,h3⟩
theorem ql {_:Decidable c}{x y:StateT τ Sem α}{Q:α->τ->Prop}{st:τ}(h1:c->wpS (model prog w) A E s x Q st)(h2:¬c->wpS (model prog w) A E s y Q st):wpS (model prog w) A E s (if c then x else y) Q st:=by
 split
 ·exact h1 ‹_›
 ·exact h2 ‹_›
theorem zfm {_:Decidable c}{Q:α->τ->Prop}{st:τ}(j:Unit->Nat->StateT τ Sem α)(h:∀m,wpS (model prog w) A E s (j () m) Q st):wpS (model prog w) A E s (if c then j () a else j () b) Q st:=ql (fun _=>h _) fun _=>h _
theorem zdF {c:Prop}{_:Decidable c}{_:Decidable d}{x:StateT τ Sem α}{o0 o1:β}{i0 i1:γ}{Q:α->τ->Prop}{st:τ}(j:Unit->β->γ->StateT τ Sem α)(R:β->γ->Prop)(h0:¬c->R o0 i0)(h1:¬d->R o1 i1)(hx:d->wpS (model prog w) A E s x Q st)(h:∀o i,R o i->wpS (model prog w) A E s (j () o i) Q st):wpS (model prog w) A E s (if c then if d then x else j () o1 i1 else j () o0 i0) Q st:=
 ql (fun _=>ql hx fun hd=>h _ _ (h1 hd)) fun hc=>h _ _ (h0 hc)
theorem zdG {_:Decidable c}{_:Decidable d}{_:Decidable e}{x y:StateT τ Sem α}{o0 o1:β}{i0 i1:γ}{Q:α->τ->Prop}{st:τ}(j:Unit->β->γ->StateT τ Sem α)(R:β->γ->Prop)(h0:¬c->R o0 i0)(h1:¬d->¬e->R o1 i1)(hx:d->wpS (model prog w) A E s x Q st)(hy:e->wpS (model prog w) A E s y Q st)(h:∀o i,R o i->wpS (model prog w) A E s (j () o i) Q st):wpS (model prog w) A E s (if c then if d then x else if e then y else j () o1 i1 else j () o0 i0) Q st:=
 ql (fun _=>ql hx fun hd=>ql hy fun he=>h _ _ (h1 hd he)) fun hc=>h _ _ (h0 hc)
def LoP (S:Keyed->Prop)(LT:Keyed->Keyed->Bool)(a b:Array Keyed)(n:Nat)(c:Option (Array Keyed)×Array Keyed×Nat×Nat×τ):Prop:=∃out ia ib z,Lo S LT a b out ia ib/\c=(none,out,ia,ib,z)/\ia+1<a.size/\ib<b.size/\n<=out.size
def LoE (LT:Keyed->Keyed->Bool)(a b:Array Keyed)(c:Option (Array Keyed)×τ):Prop:=∃r z,c=(some r,z)/\Mg LT a b r
theorem zbN {LT:Keyed->Keyed->Bool}(o:Ord S LT)(hl:pK prog w A E s κ S LT){st:SortSt}(hs:kindOf st=κ)(ha:∀x∈a.toList,S x)(hb:∀x∈b.toList,S x)(sa:a.toList.Pairwise (leO LT))(sb:b.toList.Pairwise (leO LT))(ea:a[0]?=some x0)(eb:b[0]?=some y0)(e0:LT y0 x0=true)(hlast:∀x,a[a.size-1]?=some x->∀y∈b.toList,leO LT y x)(h:∀r st',Sg st st'->Mg LT a b r->Q r st'):wpS (model prog w) A E s (zcC a b) Q st:=by
 have hA:∀(j:Nat) (x:Keyed),a[j]?=some x->S x:=fun j x e=>ha x (y9 e);have hB:∀(j:Nat) (x:Keyed),b[j]?=some x->S x:=fun j x e=>hb x (y9 e);have ha0:=(UX.mp ea).1;have hb0:=(UX.mp eb).1;have at_:∀{c:Array Keyed}{i:Nat},i<c.size->∃x,c[i]?=some x:=fun {c i} hi=>⟨c[i],Us hi⟩;have L0:Lo S LT a b #[] 0 0:=⟨⟨by simp,.nil,by simpa using sa,by simpa using sb,fun x hx=>by simp at hx,fun x hx=>(UJ.mp hx).elim (ha x) (hb x)⟩,rfl,UI _,UI _⟩;have L1:Lo S LT a b #[y0] 0 1:=L0.pushB o ea eb e0;unfold zcC;k_delta "mergeLo";refine Ut (wpS_lift (RE ⟨rfl,Ut (zZ eb (ql (fun q=>UB (h _ _ (Sg.refl _) (L1.endB (UN.mp q)))) fun hb1=>ql (fun q=>UB (h _ _ (Sg.refl _) (L1.lastA (UN.mp q) hlast))) fun ha1=>Ut (Nq ?_)))⟩));have hb1:¬1=b.size:=fun e=>hb1 (UN.mpr e);have ha1:¬0+1=a.size:=fun e=>ha1 (UN.mpr e)
 refine Ut (R0 (OF (I:=fun i c st'=>Sg st st'/\LoP S LT a b (1+i) c)
  (Q:=fun c st'=>Sg st st'/\LoE LT a b c) ?step ?fin ⟨Sg.refl _,_,_,_,_,L1,rfl,by lia,by lia,Ub 1⟩) ?post)
 case fin=>
  rintro c st' ⟨g,out,ia,ib,mg,L,rfl,h1,h2,h3⟩;have:=L.sz;lia
 case post=>
  rintro c st' ⟨g,r,z,rfl,m⟩;exact UB (h _ _ g m)
 rintro i c st' _ hi ⟨g,out,ia,ib,mg,L,rfl,h1,h2,h3⟩;dsimp -zeta only
 refine Ut (R0 (OF (I:=fun j c st''=>st''=st'/\LoP S LT a b (1+i+j) c)
  (Q:=fun c st''=>st''=st'/\(LoE LT a b c∨LoP S LT a b (1+i+1) c)) ?_ ?_ ⟨rfl,_,_,_,_,L,rfl,h1,h2,h3⟩) ?_)
 ·rintro j c st'' _ hj ⟨rfl,out,ia,ib,⟨ac,bc⟩,L,rfl,h1,h2,h3⟩;obtain⟨x,ex⟩:=at_ (c:=a) (i:=ia) (by lia);obtain⟨y,ey⟩:=at_ (c:=b) h2;have hsz:=L.sz;dsimp -zeta only;refine Ut (zZ ey (Ut (zZ ex (Ut (hl y x _ _ (hB _ _ ey) (hA _ _ ex) (g.kind.trans hs) (ql (fun e=>Ut (zZ ey ?_)) fun e=>Ut (zZ ex ?_)))))))
  ·have L':=L.pushB o ex ey e;have hs':=L'.sz;refine ql (fun q=>UB ⟨rfl,.inl ⟨_,_,rfl,L'.endB (UN.mp q)⟩⟩) fun q=>?_;have hq:¬ib+1=b.size:=fun e=>q (UN.mpr e);exact ql (fun _=>UB ⟨rfl,.inr ⟨_,_,_,_,L',rfl,h1,by lia,by lia⟩⟩) fun _=>UB ⟨rfl,_,_,_,_,L',rfl,h1,by lia,by lia⟩
  ·have L':=L.pushA o ex ey (TU.mpr e);have hs':=L'.sz;refine ql (fun q=>UB ⟨rfl,.inl ⟨_,_,rfl,L'.lastA (UN.mp q) hlast⟩⟩) fun q=>?_;have hq:¬ia+1+1=a.size:=fun e=>q (UN.mpr e);exact ql (fun _=>UB ⟨rfl,.inr ⟨_,_,_,_,L',rfl,by lia,h2,by lia⟩⟩) fun _=>UB ⟨rfl,_,_,_,_,L',rfl,by lia,h2,by lia⟩
 ·rintro c st'' ⟨rfl,out,ia,ib,⟨ac,bc⟩,L,rfl,h1,h2,h3⟩;have:=L.sz;lia
 clear L h1 h2 h3;rintro c st'' ⟨rfl,⟨r,⟨z1,z2,z3,z4,z5⟩,rfl,m⟩|⟨out,ia,ib,⟨ac,bc⟩,L,rfl,h1,h2,h3⟩⟩
 ·exact UB ⟨g,_,_,rfl,m⟩
 dsimp -zeta only
 refine Ut (wpS_lift (RE ⟨rfl,Ut (R0 (OF (I:=fun j c st''=>Sg st st''/\LoP S LT a b (1+i+1+j) c)
  (Q:=fun c st''=>Sg st st''/\(LoE LT a b c∨LoP S LT a b (1+i+1) c)) ?_ ?_ ⟨g,_,_,_,_,L,rfl,h1,h2,h3⟩) ?_)⟩))
 ·clear g L h1 h2 h3;rintro j c st'' _ hj ⟨g,out,ia,ib,⟨mg,ac,bc⟩,L,rfl,h1,h2,h3⟩;have hsz:=L.sz;obtain⟨y,ey⟩:=at_ (c:=b) h2;dsimp -zeta only
  extract_lets _ _ _ _ _ _ _ _ _ _ _ _ jp _
  refine zfm jp fun m=>Ut (RD (Ut (zZ ey (Ut (jI (base:=ia) (n:=a.size-ia) hl (hB _ _ ey) hA (by lia) (by lia) (g.kind.trans hs) (xP o (hB _ _ ey) hA (by lia) (zdR sa _ _ (by lia))) fun k hk k1 k2=>?_)))));have hL:Lo S LT a b (out++a.extract ia (ia+k)) (ia+k) ib:=L.takeA o (by lia) ey fun i x hi e=>pB (k1 i hi) e;clear jp;dsimp -zeta only
  extract_lets _ jp2 _ _
  refine zdG (o0:=out) (i0:=ia) (i1:=ia+k) jp2 (fun o1 i1=>Lo S LT a b o1 i1 ib/\ia+k=i1/\i1+1<a.size) (fun _=>⟨L,by lia,h1⟩) (fun n1 n2=>?_) (fun q1=>UB ⟨g.set _,.inl ⟨_,_,rfl,hL.lastA (UN.mp q1) hlast⟩⟩) (fun q2=>UB ⟨g.set _,.inl ⟨_,_,rfl,hL.endA (UN.mp q2)⟩⟩) fun o1 i1 h=>?_
  ·have n1:¬ia+k+1=a.size:=fun e=>n1 (UN.mpr e);have n2:¬ia+k=a.size:=fun e=>n2 (UN.mpr e);exact⟨hL,rfl,by lia⟩
  obtain⟨hL,e1,l1⟩:=h;obtain⟨x,ex⟩:=at_ (c:=a) (i:=i1) (by lia);have L2:=hL.pushB o ex ey (pB (k2 k (Ub _) (by lia)) (by rw[e1];exact ex));have z2:=L2.sz;refine Ut (zZ ey (ql (fun q2=>UB ⟨g.set _,.inl ⟨_,_,rfl,L2.endB (UN.mp q2)⟩⟩) fun q2=>?_));have q2:¬ib+1=b.size:=fun e=>q2 (UN.mpr e);refine Ut (zZ ex (Ut (jI (base:=ib+1) (n:=b.size-(ib+1)) hl (hA _ _ ex) hB (by lia) (by lia) (g.kind.trans hs) (xP o (hA _ _ ex) hB (by lia) (zdR sb _ _ (by lia))) fun k' hk' k3 k4=>?_)));have L3:=L2.takeB (k:=k') o (by lia) ex fun i y hi e=>pA (k3 i hi) e;dsimp -zeta only
  extract_lets _ _ jp3 _ _
  refine zdF (o0:=o1.push y) (i0:=ib+1) (i1:=ib+1+k') jp3 (fun o2 i2=>Lo S LT a b o2 i1 i2/\ib+1+k'=i2/\i2<b.size) (fun _=>⟨L2,by lia,by lia⟩) (fun n1=>?_) (fun q3=>UB ⟨g.set _,.inl ⟨_,_,rfl,L3.endB (UN.mp q3)⟩⟩) fun o2 i2 h=>?_
  ·have n1:¬ib+1+k'=b.size:=fun e=>n1 (UN.mpr e);exact⟨L3,rfl,by lia⟩
  obtain⟨L3,e2,l2⟩:=h;obtain⟨y',ey'⟩:=at_ (c:=b) l2;have L4:=L3.pushA o ex ey' (pA (k4 k' (Ub _) (by lia)) (by rw[e2];exact ey'));have z4:=L4.sz;refine Ut (zZ ex (ql (fun q4=>UB ⟨g.set _,.inl ⟨_,_,rfl,L4.lastA (UN.mp q4) hlast⟩⟩) fun q4=>?_));have q4:¬i1+1+1=a.size:=fun e=>q4 (UN.mpr e);exact ql (fun _=>UB ⟨g.set _,.inr ⟨_,_,_,_,L4,rfl,by lia,l2,by lia⟩⟩) fun _=>UB ⟨g.set _,_,_,_,_,L4,rfl,by lia,l2,by lia⟩
 ·rintro c st'' ⟨g,out,ia,ib,⟨mg,ac,bc⟩,L,rfl,h1,h2,h3⟩;have:=L.sz;lia
 ·rintro c st'' ⟨g,⟨r,⟨z1,z2,z3,z4,z5,z6⟩,rfl,m⟩|⟨out,ia,ib,⟨mg,ac,bc⟩,L,rfl,h1,h2,h3⟩⟩
  ·exact UB ⟨g,_,_,rfl,m⟩
  ·dsimp -zeta only;exact Ut (RD (UB ⟨g.set _,_,_,_,_,L,rfl,h1,h2,by lia⟩))
theorem Ord.flip {S:α->Prop}{LT:α->α->Bool}(o:Ord S LT):Ord S (fun x y=>LT y x):=
 ⟨fun x y hx hy h=>o.asym y x hy hx h,fun x y z hx hy hz h1 h2=>o.trans z y x hz hy hx h2 h1⟩
theorem jt {a:Array α}{x:α}(h:1<=n)(e:a[n-1]?=some x):(a.toList.take n).reverse=x::(a.toList.take (n-1)).reverse:=by
 obtain⟨m,rfl⟩:∃m,n=m+1:=⟨n-1,by lia⟩;obtain⟨hm,e⟩:=UX.mp e;simp only[Nat.add_sub_cancel] at hm e ⊢;rw[List.take_succ_eq_append_getElem (by simpa using hm),O9];simp[e]
structure Hi (S:Keyed->Prop)(LT:Keyed->Keyed->Bool)(a b:Array Keyed)(na nb:Nat)(out:Array Keyed):Prop where
 mi:MI S (fun x y=>LT y x) (a.toList++b.toList) out.toList (b.toList.take nb).reverse (a.toList.take na).reverse
 sz:out.size+na+nb=a.size+b.size
 ha:na<=a.size
 hb:nb<=b.size
theorem Hi.pushA {LT:Keyed->Keyed->Bool}{a:Array Keyed}(o:Ord S LT)(h:Hi S LT a b na nb out)(ha1:1<=na)(hb1:1<=nb)(ea:a[na-1]?=some x)(eb:b[nb-1]?=some y)(e:LT y x=true):Hi S LT a b (na-1) nb (out.push x):=by
 have m:=h.mi;rw[jt ha1 ea,jt hb1 eb] at m;have m':=m.pushB o.flip e;refine⟨?_,by rw[Tt];have:=h.sz;lia,by have:=h.ha;lia,h.hb⟩;rw[RH,jt hb1 eb];exact m'
theorem Hi.pushB {LT:Keyed->Keyed->Bool}{y:Keyed}(o:Ord S LT)(h:Hi S LT a b na nb out)(ha1:1<=na)(hb1:1<=nb)(ea:a[na-1]?=some x)(eb:b[nb-1]?=some y)(e:LT y x=false):Hi S LT a b na (nb-1) (out.push y):=by
 have m:=h.mi;rw[jt ha1 ea,jt hb1 eb] at m;have m':=m.pushA o.flip e;refine⟨?_,by rw[Tt];have:=h.sz;lia,h.ha,by have:=h.hb;lia⟩;rw[RH,jt ha1 ea];exact m'
theorem bQ (a:Array α)(h:k<=n):(a.toList.take n).reverse=(a.extract k n).reverse.toList++(a.toList.take k).reverse:=by
 have e:a.toList.take n=a.toList.take k++(a.extract k n).toList:=by
  rw[Rg,OW];have:=Oo k (a.toList.take n);rw[List.take_take,Nat.min_eq_left h,List.drop_take] at this;exact this.symm
 rw[e,O9,RM]
theorem zcE {a:Array α}{x:α}(h:x∈(a.extract k n).reverse.toList):∃j,k<=j/\j<n/\a[j]?=some x:=by
 rw[RM,List.mem_reverse,RN] at h;obtain⟨j,hj,e⟩:=Tj h;rw[On] at hj;refine⟨k+j,by lia,by lia,?_⟩;rw[<-e,Td];exact Us _
theorem Hi.takeA {LT:Keyed->Keyed->Bool}{k:Nat}{y:Keyed}(o:Ord S LT)(h:Hi S LT a b na nb out)(hk:k<=na)(hb1:1<=nb)(eb:b[nb-1]?=some y)(c:∀i x,k<=i->i<na->a[i]?=some x->LT y x=true):Hi S LT a b k nb (out++(a.extract k na).reverse):=by
 have m:=h.mi;rw[bQ a hk] at m;refine⟨?_,by rw[TV,Array.size_reverse,On];have:=h.sz;have:=h.ha;lia,by have:=h.ha;lia,h.hb⟩;rw[UZ];refine m.takeB fun x hx z hz=>?_;obtain⟨i,i1,i2,e⟩:=zcE hx;have sx:S x:=m.inB (UR _ hx);have sy:S y:=m.inA (by rw[jt hb1 eb];exact Ug ..);have sz:=m.inA hz;have cx:=o.asym y x sy sx (c i x i1 i2 e);have sb:=m.sa;rw[jt hb1 eb] at hz sb;rcases Uw.mp hz with rfl|hz'
 ·exact cx
 ·exact o.trans z y x sz sy sx ((UY.mp sb).1 z hz') cx
theorem Hi.takeB {LT:Keyed->Keyed->Bool}{k:Nat}(o:Ord S LT)(h:Hi S LT a b na nb out)(hk:k<=nb)(ha1:1<=na)(ea:a[na-1]?=some x)(c:∀i y,k<=i->i<nb->b[i]?=some y->LT y x=false):Hi S LT a b na k (out++(b.extract k nb).reverse):=by
 have m:=h.mi;rw[bQ b hk] at m;refine⟨?_,by rw[TV,Array.size_reverse,On];have:=h.sz;have:=h.hb;lia,h.ha,by have:=h.hb;lia⟩;rw[UZ];refine m.takeA fun y hy z hz=>?_;obtain⟨i,i1,i2,e⟩:=zcE hy;have sy:S y:=m.inA (UR _ hy);have sx:S x:=m.inB (by rw[jt ha1 ea];exact Ug ..);have sz:=m.inB hz;have cy:=c i y i1 i2 e;have sa:=m.sb;rw[jt ha1 ea] at hz sa;rcases Uw.mp hz with rfl|hz'
 ·exact cy
 ·exact o.trans z x y sz sx sy ((UY.mp sa).1 z hz') cy
theorem ze9 (a:Array α)(n:Nat):(a.extract 0 n).toList=a.toList.take n:=by
 rw[Rg,OW,Nx,Nat.sub_zero]
theorem zdk {LT:Keyed->Keyed->Bool}{b:Array Keyed}{l:List Keyed}(e:r.toList=l.reverse)(p:l.Perm (a.toList++b.toList))(s:l.Pairwise (leO fun x y=>LT y x)):Mg LT a b r:=by
 unfold Mg;rw[e];exact⟨l.reverse_perm.trans p,Nn.mpr s⟩
theorem Hi.endA {LT:Keyed->Keyed->Bool}(h:Hi S LT a b na nb out)(e:na=0):Mg LT a b (a.extract 0 na++b.extract 0 nb++out.reverse):=by
 have m:=h.mi;subst e;rw[Nw,List.reverse_nil] at m;obtain⟨p,s⟩:=m.endB;refine zdk ?_ p s;rw[UZ,UZ,ze9,ze9,RM,Nw,Tr,O9,Th]
theorem Hi.endB {LT:Keyed->Keyed->Bool}(h:Hi S LT a b na nb out)(e:nb=0):Mg LT a b (a.extract 0 na++b.extract 0 nb++out.reverse):=by
 have m:=h.mi;subst e;rw[Nw,List.reverse_nil] at m;obtain⟨p,s⟩:=m.endA;refine zdk ?_ p s;rw[UZ,UZ,ze9,ze9,RM,Nw,Ol,O9,Th]
theorem Hi.firstB {LT:Keyed->Keyed->Bool}{a:Array Keyed}(h:Hi S LT a b na nb out)(e:nb=1)(hl:∀y,b[0]?=some y->∀x∈a.toList,LT x y=false):Mg LT a b (b.extract 0 nb++a.extract 0 na++out.reverse):=by
 have m:=h.mi;have hb:=h.hb;subst e;have eb:b[1-1]?=some (b[0]'(by lia)):=Us _;have eb':(b.toList.take 1).reverse=[b[0]'(by lia)]:=by rw[jt (Ub 1) eb];simp
 rw[eb'] at m;obtain⟨p,s⟩:=m.lastA fun x hx=>hl _ eb x (RL (List.mem_reverse.mp hx));refine zdk ?_ p s;rw[UZ,UZ,ze9,ze9,RM,O9,O9,Th,<-eb',Th,U8]
theorem zgF {LT:Keyed->Keyed->Bool}{i:Nat}(h:bey LT false key arr 0 i=v)(e:arr[i]?=some x):LT key x = !v:=pB h (by rw[NU];exact e)
theorem zgE {LT:Keyed->Keyed->Bool}{v:Bool}(h:bey LT true key arr 0 i=v)(e:arr[i]?=some x):LT x key=v:=pA h (by rw[NU];exact e)
theorem zk3 {LT:Keyed->Keyed->Bool}{i:Nat}(L:Hi S LT a b na nb out)(h1:1<=na)(h2:2<=nb)(h3:1+i+1+(j+1)<=out.size):1<=na/\2<=nb/\1+i+1+(j+1)<=out.size:=⟨h1,h2,h3⟩
def HiP (S:Keyed->Prop)(LT:Keyed->Keyed->Bool)(a b:Array Keyed)(n:Nat)(c:Option (Array Keyed)×Nat×Nat×Array Keyed×τ):Prop:=∃na nb out z,Hi S LT a b na nb out/\c=(none,na,nb,out,z)/\1<=na/\2<=nb/\n<=out.size
theorem zbO {LT:Keyed->Keyed->Bool}(o:Ord S LT)(hl:pK prog w A E s κ S LT){st:SortSt}(hs:kindOf st=κ)(ha:∀x∈a.toList,S x)(hb:∀x∈b.toList,S x)(sa:a.toList.Pairwise (leO LT))(sb:b.toList.Pairwise (leO LT)){x0 y0:Keyed}(ea:a[a.size-1]?=some x0)(eb:b[b.size-1]?=some y0)(e0:LT y0 x0=true)(hlast:∀y,b[0]?=some y->∀x∈a.toList,LT x y=false)(h:∀r st',Sg st st'->Mg LT a b r->Q r st'):wpS (model prog w) A E s (zcD a b) Q st:=by
 have hA:∀(j:Nat) (x:Keyed),a[j]?=some x->S x:=fun j x e=>ha x (y9 e);have hB:∀(j:Nat) (x:Keyed),b[j]?=some x->S x:=fun j x e=>hb x (y9 e);have ha0:=(UX.mp ea).1;have hb0:=(UX.mp eb).1;have at_:∀{c:Array Keyed}{i:Nat},i<c.size->∃x,c[i]?=some x:=fun {c i} hi=>⟨c[i],Us hi⟩
 have L0:Hi S LT a b a.size b.size #[]:=by
  refine⟨⟨?_,.nil,?_,?_,fun x hx=>by simp at hx,fun x hx=>(UJ.mp hx).elim (ha x) (hb x)⟩,by simp,Ub _,Ub _⟩
  ·have e1:a.toList.take a.size=a.toList:=Oi (by simp);have e2:b.toList.take b.size=b.toList:=Oi (by simp);rw[e1,e2];show([]++(b.toList.reverse++a.toList.reverse)).Perm _;rw[Tr,<-O9];exact List.reverse_perm _
  ·have e2:b.toList.take b.size=b.toList:=Oi (by simp);rw[e2];exact Nn.mpr sb
  ·have e1:a.toList.take a.size=a.toList:=Oi (by simp);rw[e1];exact Nn.mpr sa
 have L1:Hi S LT a b (a.size-1) b.size #[x0]:=L0.pushA o (by lia) (by lia) ea eb e0;unfold zcD;k_delta "mergeHi";refine Ut (wpS_lift (RE ⟨rfl,Ut (zZ ea (ql (fun q=>UB (h _ _ (Sg.refl _) (L1.endA (UN.mp q)))) fun ha1=>ql (fun q=>UB (h _ _ (Sg.refl _) (L1.firstB (UN.mp q) hlast))) fun hb1=>Ut (Nq ?_)))⟩));have ha1:¬a.size-1=0:=fun e=>ha1 (UN.mpr e);have hb1:¬b.size=1:=fun e=>hb1 (UN.mpr e)
 refine Ut (R0 (OF (I:=fun i c st'=>Sg st st'/\HiP S LT a b (1+i) c)
  (Q:=fun c st'=>Sg st st'/\LoE LT a b c) ?step ?fin ⟨Sg.refl _,_,_,_,_,L1,rfl,by lia,by lia,Ub 1⟩) ?post)
 case fin=>
  rintro c st' ⟨g,na,nb,out,mg,L,rfl,h1,h2,h3⟩;have:=L.sz;lia
 case post=>
  rintro c st' ⟨g,r,z,rfl,m⟩;exact UB (h _ _ g m)
 rintro i c st' _ hi ⟨g,na,nb,out,mg,L,rfl,h1,h2,h3⟩;dsimp -zeta only
 refine Ut (R0 (OF (I:=fun j c st''=>st''=st'/\HiP S LT a b (1+i+j) c)
  (Q:=fun c st''=>st''=st'/\(LoE LT a b c∨HiP S LT a b (1+i+1) c)) ?_ ?_ ⟨rfl,_,_,_,_,L,rfl,h1,h2,h3⟩) ?_)
 ·rintro j c st'' _ hj ⟨rfl,na,nb,out,⟨ac,bc⟩,L,rfl,h1,h2,h3⟩;have hna:=L.ha;have hnb:=L.hb;obtain⟨x,ex⟩:=at_ (c:=a) (i:=na-1) (by lia);obtain⟨y,ey⟩:=at_ (c:=b) (i:=nb-1) (by lia);have hsz:=L.sz;dsimp -zeta only;refine Ut (zZ ey (Ut (zZ ex (Ut (hl y x _ _ (hB _ _ ey) (hA _ _ ex) (g.kind.trans hs) (ql (fun e=>Ut (zZ ex ?_)) fun e=>Ut (zZ ey ?_)))))))
  ·have L':=L.pushA o h1 (by lia) ex ey e;have hs':=L'.sz;refine ql (fun q=>UB ⟨rfl,.inl ⟨_,_,rfl,L'.endA (UN.mp q)⟩⟩) fun q=>?_;have hq:¬na-1=0:=fun e=>q (UN.mpr e);exact ql (fun _=>UB ⟨rfl,.inr ⟨_,_,_,_,L',rfl,by lia,h2,by lia⟩⟩) fun _=>UB ⟨rfl,_,_,_,_,L',rfl,by lia,h2,by lia⟩
  ·have L':=L.pushB o h1 (by lia) ex ey (TU.mpr e);have hs':=L'.sz;refine ql (fun q=>UB ⟨rfl,.inl ⟨_,_,rfl,L'.firstB (UN.mp q) hlast⟩⟩) fun q=>?_;have hq:¬nb-1=1:=fun e=>q (UN.mpr e);exact ql (fun _=>UB ⟨rfl,.inr ⟨_,_,_,_,L',rfl,h1,by lia,by lia⟩⟩) fun _=>UB ⟨rfl,_,_,_,_,L',rfl,h1,by lia,by lia⟩
 ·rintro c st'' ⟨rfl,na,nb,out,⟨ac,bc⟩,L,rfl,h1,h2,h3⟩;have:=L.sz;lia
 clear L h1 h2 h3;rintro c st'' ⟨rfl,⟨r,⟨z1,z2,z3,z4,z5⟩,rfl,m⟩|⟨na,nb,out,⟨ac,bc⟩,L,rfl,h1,h2,h3⟩⟩
 ·exact UB ⟨g,_,_,rfl,m⟩
 dsimp -zeta only
 refine Ut (wpS_lift (RE ⟨rfl,Ut (R0 (OF (I:=fun j c st''=>Sg st st''/\HiP S LT a b (1+i+1+j) c)
  (Q:=fun c st''=>Sg st st''/\(LoE LT a b c∨HiP S LT a b (1+i+1) c)) ?_ ?_ ⟨g,_,_,_,_,L,rfl,h1,h2,h3⟩) ?_)⟩))
 ·clear g L h1 h2 h3;rintro j c st'' _ hj ⟨g,na,nb,out,⟨mg,ac,bc⟩,L,rfl,h1,h2,h3⟩;have hsz:=L.sz;have hna:=L.ha;have hnb:=L.hb;obtain⟨y,ey⟩:=at_ (c:=b) (i:=nb-1) (by lia);dsimp -zeta only
  extract_lets _ _ _ _ _ _ _ _ _ _ _ _ jp _
  refine zfm jp fun m=>Ut (RD (Ut (zZ ey (Ut (jI (base:=0) (n:=na) (hint:=na-1) hl (hB _ _ ey) hA (by lia) (by lia) (g.kind.trans hs) (xP o (hB _ _ ey) hA (by lia) (zdR sa _ _ (by lia))) fun k hk k1 k2=>?_)))));have hL:Hi S LT a b k nb (out++(a.extract k na).reverse):=L.takeA o hk (by lia) ey fun i x i1 i2 e=>zgF (k2 i i1 i2) e;clear jp;dsimp -zeta only
  extract_lets _ _ jp2 _ _
  refine zdF (c:=na-k>0) (o0:=na) (o1:=k) (i0:=out) (i1:=out++(a.extract k na).reverse) jp2 (fun i1 o1=>Hi S LT a b i1 nb o1/\k=i1/\1<=i1) (fun n=>⟨L,by lia,h1⟩) (fun n1=>?_) (fun q1=>UB ⟨g.set _,.inl ⟨_,_,rfl,hL.endA (UN.mp q1)⟩⟩) fun i1 o1 h=>?_
  ·have n1:¬k=0:=fun e=>n1 (UN.mpr e);exact⟨hL,rfl,by lia⟩
  obtain⟨hL,rfl,l1⟩:=h;obtain⟨x,ex⟩:=at_ (c:=a) (i:=k-1) (by lia);have L2:=hL.pushB o (by lia) (by lia) ex ey (zgF (k1 (k-1) (by lia)) ex);have z2:=L2.sz;refine Ut (zZ ey (ql (fun q2=>UB ⟨g.set _,.inl ⟨_,_,rfl,L2.firstB (UN.mp q2) hlast⟩⟩) fun q2=>?_));have q2:¬nb-1=1:=fun e=>q2 (UN.mpr e);refine Ut (zZ ex (Ut (jI (base:=0) (n:=nb-1) (hint:=nb-1-1) hl (hA _ _ ex) hB (by lia) (by lia) (g.kind.trans hs) (xP o (hA _ _ ex) hB (by lia) (zdR sb _ _ (by lia))) fun k' hk' k3 k4=>?_)));have L3:=L2.takeB (k:=k') o hk' (by lia) ex fun i y i1 i2 e=>zgE (k4 i i1 i2) e;dsimp -zeta only
  extract_lets _ _ _ jp3 _ _
  refine zdG (c:=nb-1-k'>0) (o0:=nb-1) (o1:=k') (i0:=o1.push y) (i1:=o1.push y++(b.extract k' (nb-1)).reverse) jp3 (fun i2 o2=>Hi S LT a b k i2 o2/\k'=i2/\2<=i2) (fun n=>⟨L2,by lia,by lia⟩) (fun n1 n2=>?_) (fun q3=>UB ⟨g.set _,.inl ⟨_,_,rfl,L3.firstB (UN.mp q3) hlast⟩⟩) (fun q6=>UB ⟨g.set _,.inl ⟨_,_,rfl,L3.endB (UN.mp q6)⟩⟩) fun i2 o2 h=>?_
  ·have n1:¬k'=1:=fun e=>n1 (UN.mpr e);have n2:¬k'=0:=fun e=>n2 (UN.mpr e);exact⟨L3,rfl,by lia⟩
  obtain⟨L3,rfl,l2⟩:=h;obtain⟨y',ey'⟩:=at_ (c:=b) (i:=k'-1) (by lia);have L4:=L3.pushA o (by lia) (by lia) ex ey' (zgE (k3 (k'-1) (by lia)) ey');have z4:=L4.sz;refine Ut (zZ ex (ql (fun q4=>UB ⟨g.set _,.inl ⟨_,_,rfl,L4.endA (UN.mp q4)⟩⟩) fun q4=>?_));have q4:¬k-1=0:=fun e=>q4 (UN.mpr e);exact ql (fun _=>UB ⟨g.set _,.inr ⟨_,_,_,_,L4,rfl,by lia,l2,by lia⟩⟩) fun _=>UB ⟨g.set _,_,_,_,_,L4,rfl,by lia,l2,by lia⟩
 ·rintro c st'' ⟨g,na,nb,out,⟨mg,ac,bc⟩,L,rfl,h1,h2,h3⟩;have:=L.sz;lia
 ·rintro c st'' ⟨g,⟨r,⟨z1,z2,z3,z4,z5,z6⟩,rfl,m⟩|⟨na,nb,out,⟨mg,ac,bc⟩,L,rfl,h1,h2,h3⟩⟩
  ·exact UB ⟨g,_,_,rfl,m⟩
  ·dsimp -zeta only;exact Ut (RD (UB ⟨g.set _,_,_,_,_,L,rfl,h1,h2,by lia⟩))
def SR (LT:Keyed->Keyed->Bool)(arr:Array Keyed)(lo hi:Nat):Prop:=∀i j x y,lo<=i->i<j->j<hi->arr[i]?=some x->arr[j]?=some y->leO LT x y
structure Mid (LT:Keyed->Keyed->Bool)(arr arr':Array Keyed)(lo hi:Nat):Prop where
 perm:arr'.toList.Perm arr.toList
 out:∀i,i<lo∨hi<=i->arr'[i]?=arr[i]?
 so:SR LT arr' lo hi
def putAll (arr:Array Keyed)(off:Nat)(l:List (Keyed×Nat)):Array Keyed:=l.foldl (fun a (p,j)=>a.setIfInBounds (off+j) p) arr
theorem gN:∀(m:List Keyed) (k off:Nat) (arr:Array Keyed) (i:Nat),off+k+m.length<=arr.size->(putAll arr off (m.zipIdx k))[i]?=if off+k<=i/\i<off+k+m.length then m[i-(off+k)]? else arr[i]?
 |[],k,off,arr,i,_=>by
  rw[List.zipIdx_nil];show arr[i]?=_;rw[Ur (by rw[UM];lia)]
 |x::m,k,off,arr,i,h=>by
  rw[List.zipIdx_cons];show(putAll (arr.setIfInBounds (off+k) x) off (m.zipIdx (k+1)))[i]?=_;rw[Uk] at h ⊢;rw[gN m (k+1) off _ i (by rw[Array.size_setIfInBounds];lia),Array.getElem?_setIfInBounds]
  by_cases h1:off+k=i
  ·rw[Ur (by lia),Uv h1,Uv (by lia),Uv (by lia),show i-(off+k)=0 by lia];rfl
  ·rw[Ur h1]
   by_cases h2:off+(k+1)<=i/\i<off+(k+1)+m.length
   ·rw[Uv h2,Uv (by lia),show i-(off+k)=(i-(off+(k+1)))+1 by lia,List.getElem?_cons_succ]
   ·rw[Ur h2,Ur (by lia)]
theorem zcj (hm:m.length=n-off)(h1:off<=n)(h2:n<=arr.size):(putAll arr off (m.zipIdx)).toList=arr.toList.take off++m++arr.toList.drop n:=by
 apply OV;intro i;rw[U1,gN m 0 off arr i (by lia)];have l1:(arr.toList.take off).length=off:=by simp;lia
 by_cases h:off+0<=i/\i<off+0+m.length
 ·rw[Uv h,U8,Ob (by lia),Ou (by lia),l1];rfl
 ·rw[Ur h]
  by_cases h3:i<off
  ·rw[U8,Ou (by lia),List.getElem?_take,Uv h3,U1]
  ·rw[U8,Ob (by lia),Ob (by lia),TF,l1,U1];congr 1;lia
theorem zis (arr:Array α)(h1:p<=q)(h2:q<=r):arr.toList=arr.toList.take p++((arr.extract p q).toList++(arr.extract q r).toList)++arr.toList.drop r:=by
 rw[Rg,Rg,OW,OW]
 have e1:arr.toList.drop p=(arr.toList.drop p).take (q-p)++arr.toList.drop q:=by
  have:=Oo (q-p) (arr.toList.drop p);rw[drop_drop,show p+(q-p)=q by lia] at this;exact this.symm
 have e2:arr.toList.drop q=(arr.toList.drop q).take (r-q)++arr.toList.drop r:=by
  have:=Oo (r-q) (arr.toList.drop q);rw[drop_drop,show q+(r-q)=r by lia] at this;exact this.symm
 have e0:=(Oo p arr.toList).symm;rw[e1,e2] at e0;simpa[U8] using e0
theorem zdw {arr:Array α}{p q:Nat}{x:α}(h:(arr.extract p q)[i]?=some x):arr[p+i]?=some x/\p+i<q:=by
 obtain⟨h1,e⟩:=UX.mp h;rw[On] at h1;rw[Td] at e;exact⟨by rw[<-e];exact Us _,by lia⟩
theorem ext_mem {arr:Array α}{p:Nat}{x:α}(h:x∈(arr.extract p q).toList):∃i,p<=i/\i<q/\arr[i]?=some x:=by
 rw[RN] at h;obtain⟨i,hi,e⟩:=Tj h;obtain⟨e1,e2⟩:=zdw (p:=p) (q:=q) (arr:=arr) (i:=i) (x:=x) (by rw[Us hi,e]);exact⟨p+i,by lia,e2,e1⟩
theorem ext_get {arr:Array α}(h:p+i<q)(hq:q<=arr.size):(arr.extract p q)[i]?=arr[p+i]?:=by
 have hs:i<(arr.extract p q).size:=by rw[On];lia
 rw[Us hs,Td];exact(Us _).symm
theorem SR.pw {LT:Keyed->Keyed->Bool}{lo p:Nat}(h:SR LT arr lo hi)(h1:lo<=p)(h2:q<=hi):(arr.extract p q).toList.Pairwise (leO LT):=by
 rw[Oh];intro i j hi hj hij;have e1:(arr.extract p q)[i]?=some (arr.extract p q).toList[i]:=by rw[<-U1];exact Ua hi
 have e2:(arr.extract p q)[j]?=some (arr.extract p q).toList[j]:=by rw[<-U1];exact Ua hj
 obtain⟨g1,g2⟩:=zdw e1;obtain⟨g3,g4⟩:=zdw e2;exact h _ _ _ _ (by lia) (show p+i<p+j by lia) (by lia) g1 g3
theorem ziV {LT:Keyed->Keyed->Bool}(o:Ord S LT){sa k:Nat}(hall:∀(j:Nat) (x:Keyed),arr[j]?=some x->S x)(h1:sa+k<sb)(h2:nb<=n)(h3:1<=nb)(h4:sb+n<=arr.size)(s1:SR LT arr sa sb)(s2:SR LT arr sb (sb+n))(eb:arr[sb]?=some b0)(ea:arr[sb-1]?=some al)(k1:∀i x,i<k->arr[sa+i]?=some x->LT b0 x=false)(k2:∀i x,nb<=i->i<n->arr[sb+i]?=some x->LT x al=false)(m:Mg LT (arr.extract (sa+k) sb) (arr.extract sb (sb+nb)) r):Mid LT arr (putAll arr (sa+k) r.toList.zipIdx) sa (sb+n):=by
 have sp:=zis arr (p:=sa+k) (q:=sb) (r:=sb+nb) (by lia) (by lia)
 have hlen:r.toList.length=sb+nb-(sa+k):=by
  rw[m.1.length_eq,UD,Oe,Oe,On,On];lia
 have pl:=zcj (arr:=arr) (off:=sa+k) (n:=sb+nb) hlen (by lia) (by lia)
 have at':∀i,(putAll arr (sa+k) r.toList.zipIdx)[i]?=if sa+k<=i/\i<sb+nb then r.toList[i-(sa+k)]? else arr[i]?:=fun i=>by
  rw[gN r.toList 0 (sa+k) arr i (by lia),Nat.add_zero,hlen,show sa+k+(sb+nb-(sa+k))=sb+nb by lia]
 have rf:∀x,S x->LT x x=false:=fun x hx=>by
  cases e:LT x x with
  |false=>rfl
  |true=>rw[o.asym x x hx hx e] at e;cases e
 refine⟨?_,fun i hi=>by rw[at' i,Ur (by lia)],?_⟩
 ·rw[pl];refine List.Perm.trans ?_ (List.Perm.of_eq sp.symm);exact List.Perm.append_right _ (List.Perm.append_left _ m.1)
 ·
  have from_:∀i x,sa+k<=i->i<sb+nb->r.toList[i-(sa+k)]?=some x->∃i',sa+k<=i'/\i'<sb+nb/\arr[i']?=some x:=fun i x h1 h2 e=>by
   rcases UJ.mp (m.1.mem_iff.mp (Uu e)) with hx|hx
   ·obtain⟨j,j1,j2,j3⟩:=ext_mem hx;exact⟨j,j1,by lia,j3⟩
   ·obtain⟨j,j1,j2,j3⟩:=ext_mem hx;exact⟨j,by lia,j2,j3⟩
  have low:∀i x j y,sa<=i->i<sa+k->arr[i]?=some x->sa+k<=j->j<sb+n->arr[j]?=some y->leO LT x y:=fun i x j y i1 i2 ex j1 j2 ey=>by
   by_cases hj:j<sb
   ·exact s1 i j x y i1 (by lia) hj ex ey
   ·have c:=k1 (i-sa) x (by lia) (by rw[show sa+(i-sa)=i by lia];exact ex)
    by_cases hj':j=sb
    ·subst hj';rw[eb] at ey;cases ey;exact c
    ·exact o.trans x b0 y (hall _ _ ex) (hall _ _ eb) (hall _ _ ey) c (s2 sb j b0 y (Ub _) (by lia) j2 eb ey)
  have high:∀i x j y,sa<=i->i<sb+nb->arr[i]?=some x->sb+nb<=j->j<sb+n->arr[j]?=some y->leO LT x y:=fun i x j y i1 i2 ex j1 j2 ey=>by
   by_cases hi:sb<=i
   ·exact s2 i j x y hi (by lia) j2 ex ey
   ·have c:=k2 (j-sb) y (by lia) (by lia) (by rw[show sb+(j-sb)=j by lia];exact ey)
    by_cases hi':i=sb-1
    ·subst hi';rw[ea] at ex;cases ex;exact c
    ·exact o.trans x al y (hall _ _ ex) (hall _ _ ea) (hall _ _ ey) (s1 i (sb-1) x al i1 (by lia) (by lia) ex ea) c
  intro i j x y hi hij hj ex ey;rw[at' i] at ex;rw[at' j] at ey
  by_cases ci:sa+k<=i/\i<sb+nb
  ·rw[Uv ci] at ex
   by_cases cj:sa+k<=j/\j<sb+nb
   ·rw[Uv cj] at ey;obtain⟨g1,rfl⟩:=Ue.mp ex;obtain⟨g2,rfl⟩:=Ue.mp ey;exact Oh.mp m.2 _ _ g1 g2 (by lia)
   ·rw[Ur cj] at ey;obtain⟨i',i1,i2,e⟩:=from_ i x ci.1 ci.2 ex;exact high i' x j y (by lia) i2 e (by lia) hj ey
  ·rw[Ur ci] at ex
   by_cases hlow:i<sa+k
   ·by_cases cj:sa+k<=j/\j<sb+nb
    ·rw[Uv cj] at ey;obtain⟨j',j1,j2,e⟩:=from_ j y cj.1 cj.2 ey;exact low i x j' y hi hlow ex j1 (by lia) e
    ·rw[Ur cj] at ey
     by_cases hj2:j<sa+k
     ·exact s1 i j x y hi hij (by lia) ex ey
     ·exact low i x j y hi hlow ex (by lia) hj ey
   ·rw[Ur (by lia)] at ey;exact s2 i j x y (by lia) hij hj ex ey
theorem zhn {LT:Keyed->Keyed->Bool}(o:Ord S LT){sa sb:Nat}(hall:∀(j:Nat) (x:Keyed),arr[j]?=some x->S x)(s1:SR LT arr sa sb)(s2:SR LT arr sb (sb+n))(eb:arr[sb]?=some b0)(k1:∀i x,sa<=i->i<sb->arr[i]?=some x->LT b0 x=false):Mid LT arr arr sa (sb+n):=by
 refine⟨.refl _,fun _ _=>rfl,fun i j x y hi hij hj ex ey=>?_⟩
 by_cases h1:j<sb
 ·exact s1 i j x y hi hij h1 ex ey
 ·by_cases h2:sb<=i
  ·exact s2 i j x y h2 hij hj ex ey
  ·have c:=k1 i x hi (by lia) ex
   by_cases hj':j=sb
   ·subst hj';rw[eb] at ey;cases ey;exact c
   ·exact o.trans x b0 y (hall _ _ ex) (hall _ _ eb) (hall _ _ ey) c (s2 sb j b0 y (Ub _) (by lia) hj eb ey)
theorem zgP {σ:Type}{x:σ}{Q:PUnit->σ->Prop}{st:σ}(h:Q ⟨⟩ x):wpS M A E s (set x:StateT σ Sem PUnit) Q st:=by
 unfold wpS;rw[StateT.run_set];exact Uj ⟨rfl,h⟩
abbrev zbb (p:Array (Nat×Nat×Nat))(i sa n pw:Nat):Array (Nat×Nat×Nat):=(p.setIfInBounds i (sa,n,pw)).eraseIdxIfInBounds (i+1)
theorem zbP {LT:Keyed->Keyed->Bool}(o:Ord S LT)(hl:pK prog w A E s κ S LT){i na pw:Nat}{st:SortSt}(hs:kindOf st=κ)(hf:failedOf st=none)(hall:∀(j:Nat) (x:Keyed),(arrOf st)[j]?=some x->S x)(e1:(pendingOf st)[i]?=some (sa,na,pw))(e2:(pendingOf st)[i+1]?=some (sa+na,nb,pw'))(h1:1<=na)(h2:1<=nb)(h3:sa+na+nb<=(arrOf st).size)(s1:SR LT (arrOf st) sa (sa+na))(s2:SR LT (arrOf st) (sa+na) (sa+na+nb))(h:∀st',kindOf st'=κ->failedOf st'=none->pendingOf st'=zbb (pendingOf st) i sa (na+nb) pw->Mid LT (arrOf st) (arrOf st') sa (sa+na+nb)->Q true st'):wpS (model prog w) A E s (mergeAt' i) Q st:=by
 unfold mergeAt';k_delta "mergeAt";refine Ut (Nq ?_);rw[e1,e2];dsimp only;have at_:∀{c:Array Keyed}{i:Nat},i<c.size->∃x,c[i]?=some x:=fun {c i} hi=>⟨c[i],Us hi⟩;refine Ut (zgP ?_);obtain⟨b0,eb⟩:=at_ (c:=arrOf st) (i:=sa+na) (by lia);refine Ut (zZ eb ?_);refine Ut (jI (arr:=arrOf st) hl (hall _ _ eb) hall (by lia) (by lia) hs (xP (arr:=arrOf st) o (hall _ _ eb) hall (by lia) fun i j x y h1 h2 ex ey=>s1 _ _ x y (by lia) (show sa+i<sa+j by lia) (by lia) ex ey) fun k hk k1 k2=>?_);dsimp only
 by_cases hq:na-k=0
 ·rw[Uv (by simpa using hq)];refine UB (h _ hs hf rfl (zhn o hall s1 s2 eb fun i x i1 i2 ex=>pB (k1 (i-sa) (by lia)) (by rw[show sa+(i-sa)=i by lia];exact ex)))
 rw[Ur (by simpa using hq)];obtain⟨al,ea⟩:=at_ (c:=arrOf st) (i:=sa+na-1) (by lia);have ea':(arrOf st)[sa+k+(na-k)-1]?=some al:=by rw[show sa+k+(na-k)-1=sa+na-1 by lia];exact ea
 refine Ut (zZ ea' ?_);refine Ut (jI (arr:=arrOf st) hl (hall _ _ ea) hall (by lia) (by lia) hs (xP (arr:=arrOf st) o (hall _ _ ea) hall (by lia) fun i j x y h1 h2 ex ey=>s2 _ _ x y (by lia) (show sa+na+i<sa+na+j by lia) (by lia) ex ey) fun n hn n1 n2=>?_);dsimp only;obtain⟨x0,ex0⟩:=at_ (c:=arrOf st) (i:=sa+k) (by lia);have lt0:LT b0 x0=true:=pB (k2 k (Ub _) (by lia)) ex0
 by_cases hq2:n=0
 ·rw[Uv (by simpa using hq2)];exfalso;subst hq2;have c1:LT b0 al=false:=pA (n2 0 (Ub _) (by lia)) eb
  by_cases e:k+1=na
  ·rw[show sa+na-1=sa+k by lia,ex0] at ea
   cases ea;rw[lt0] at c1;cases c1
  ·have c2:=s1 (sa+k) (sa+na-1) x0 al (by lia) (by lia) (by lia) ex0 ea;have c3:=o.trans x0 al b0 (hall _ _ ex0) (hall _ _ ea) (hall _ _ eb) c2 c1;rw[lt0] at c3;cases c3
 rw[Ur (by simpa using hq2)];have X:=s1.pw (p:=sa+k) (q:=sa+na) (by lia) (Ub _);have Y:=s2.pw (p:=sa+na) (q:=sa+na+n) (Ub _) (by lia);have SX:∀x∈((arrOf st).extract (sa+k) (sa+na)).toList,S x:=fun x hx=>by obtain⟨i,_,_,e⟩:=ext_mem hx;exact hall _ _ e
 have SY:∀x∈((arrOf st).extract (sa+na) (sa+na+n)).toList,S x:=fun x hx=>by obtain⟨i,_,_,e⟩:=ext_mem hx;exact hall _ _ e
 have zX:((arrOf st).extract (sa+k) (sa+na)).size=na-k:=by rw[On];lia
 have zY:((arrOf st).extract (sa+na) (sa+na+n)).size=n:=by rw[On];lia
 have X0:((arrOf st).extract (sa+k) (sa+na))[0]?=some x0:=by rw[ext_get (by lia) (by lia)];exact ex0
 have Y0:((arrOf st).extract (sa+na) (sa+na+n))[0]?=some b0:=by rw[ext_get (by lia) (by lia)];exact eb
 have XL:((arrOf st).extract (sa+k) (sa+na))[((arrOf st).extract (sa+k) (sa+na)).size-1]?=some al:=by rw[zX,ext_get (by lia) (by lia),show sa+k+(na-k-1)=sa+na-1 by lia];exact ea
 obtain⟨bl,ebl⟩:=at_ (c:=arrOf st) (i:=sa+na+(n-1)) (by lia);have YL:((arrOf st).extract (sa+na) (sa+na+n))[((arrOf st).extract (sa+na) (sa+na+n)).size-1]?=some bl:=by rw[zY,ext_get (by lia) (by lia)];exact ebl
 have lastA:∀x,((arrOf st).extract (sa+k) (sa+na))[((arrOf st).extract (sa+k) (sa+na)).size-1]?=some x->∀y∈((arrOf st).extract (sa+na) (sa+na+n)).toList,leO LT y x:=fun x ex y hy=>by
  rw[XL] at ex;cases ex;obtain⟨j,j1,j2,e⟩:=ext_mem hy;exact o.asym _ _ (hall _ _ e) (hall _ _ ea) (pA (n1 (j-(sa+na)) (by lia)) (by rw[show sa+na+(j-(sa+na))=j by lia];exact e))
 have firstB:∀y,((arrOf st).extract (sa+na) (sa+na+n))[0]?=some y->∀x∈((arrOf st).extract (sa+k) (sa+na)).toList,LT x y=false:=fun y ey x hx=>by
  rw[Y0] at ey;cases ey;obtain⟨j,j1,j2,e⟩:=ext_mem hx;exact o.asym _ _ (hall _ _ eb) (hall _ _ e) (pB (k2 (j-sa) (by lia) (by lia)) (by rw[show sa+(j-sa)=j by lia];exact e))
 have ltl:LT bl al=true:=pA (n1 (n-1) (by lia)) ebl
 have fin:∀r st',Sg (SortSt.mk' (kindOf st) (arrOf st) (zbb (pendingOf st) i sa (na+nb) pw) (gallopOf st) (failedOf st)) st'->Mg LT ((arrOf st).extract (sa+k) (sa+na)) ((arrOf st).extract (sa+na) (sa+na+n)) r->
  Q (failedOf st').isNone (SortSt.mk' (kindOf st') (putAll (arrOf st') (sa+k) r.toList.zipIdx) (pendingOf st') (gallopOf st') (failedOf st')):=fun r st' g m=>by
  have gf:failedOf st'=none:=g.failed.trans hf;have ga:arrOf st'=arrOf st:=g.arr;rw[gf,ga];refine h _ (g.kind.trans hs) rfl g.pend ?_;exact ziV o hall (by lia) hn (by lia) (by lia) s1 s2 eb ea (fun i x i1 e=>pB (k1 i i1) e) (fun i x i1 i2 e=>pA (n2 i i1 i2) e) m
 by_cases hle:na-k<=n
 ·rw[Uv hle];refine Ut (zbN o hl hs SX SY X Y X0 Y0 lt0 lastA fun r st' g m=>?_);exact Ut (RD (Ut (Nq (UB (fin r st' g m)))))
 ·rw[Ur hle];refine Ut (zbO o hl hs SX SY X Y XL YL ltl firstB fun r st' g m=>?_);exact Ut (RD (Ut (Nq (UB (fin r st' g m)))))
structure Rn (a0 a:Array Keyed)(lo hi:Nat):Prop where
 perm:a.toList.Perm a0.toList
 out:∀i,i<lo∨hi<=i->a[i]?=a0[i]?
theorem Rn.refl (a:Array Keyed)(lo hi:Nat):Rn a a lo hi:=⟨.refl _,fun _ _=>rfl⟩
theorem Rn.size {lo:Nat}(h:Rn a0 a lo hi):a.size=a0.size:=by have:=h.perm.length_eq;simpa using this
theorem Rn.all {lo:Nat}(h:Rn a0 a lo hi)(hall:∀(j:Nat) (x:Keyed),a0[j]?=some x->S x):∀(j:Nat) (x:Keyed),a[j]?=some x->S x:=fun j x e=>by
 have:=h.perm.mem_iff.mp (y9 e);rw[RN] at this;obtain⟨i,hi,e⟩:=Tj this;exact hall i x (by rw[Us hi,e])
theorem Rn.mirror {a:Array Keyed}{lo j:Nat}(h:Rn a0 a lo hi)(h1:lo<=i)(h2:j<=hi)(h3:j<=a.size):Rn a0 (mirror a i j ((j-i)/2)) lo hi:=by
 refine⟨(Array.perm_iff_toList_perm.mp (mirror_perm _ _ _ _)).trans h.perm,fun k hk=>?_⟩;rw[Rj h3,Ur (by lia)];exact h.out k hk
theorem Rn.bubble {a:Array Keyed}{lo src d:Nat}(h:Rn a0 a lo hi)(h1:lo+d<=src)(h2:src<hi)(h3:src<a.size):Rn a0 (bubble a src d) lo hi:=by
 refine⟨(Array.perm_iff_toList_perm.mp (bubble_perm _ _ _)).trans h.perm,fun k hk=>?_⟩;rw[getElem?_bubble h3 d (by lia),Ur (by lia),Ur (by lia)];exact h.out k hk
def ND (LT:Keyed->Keyed->Bool)(arr:Array Keyed)(lo hi:Nat):Prop:=∀i j x y,lo<=i->i<j->j<hi->arr[i]?=some x->arr[j]?=some y->leO LT y x
def AL (LT:Keyed->Keyed->Bool)(arr:Array Keyed)(lo hi:Nat):Prop:=∀i j x y,lo<=i->i<hi->lo<=j->j<hi->arr[i]?=some x->arr[j]?=some y->leO LT x y
theorem Ord.irr {LT:Keyed->Keyed->Bool}(o:Ord S LT)(hx:S x):LT x x=false:=by
 cases e:LT x x with
 |false=>rfl
 |true=>rw[o.asym x x hx hx e] at e;cases e
theorem SR.one {LT:Keyed->Keyed->Bool}{lo:Nat}:SR LT arr lo (lo+1):=fun i j x y h1 h2 h3=>by lia
theorem SR.grow {LT:Keyed->Keyed->Bool}{lo:Nat}(o:Ord S LT)(hall:∀(j:Nat) (x:Keyed),arr[j]?=some x->S x){x y:Keyed}(h:SR LT arr lo (lo+n))(h1:1<=n)(ex:arr[lo+n]?=some x)(ey:arr[lo+n-1]?=some y)(e:LT x y=false):SR LT arr lo (lo+n+1):=by
 intro i j u v hi hij hj eu ev
 by_cases c:j<lo+n
 ·exact h i j u v hi hij c eu ev
 ·have:j=lo+n:=by lia
  subst this;rw[ex] at ev;cases ev
  by_cases c2:i=lo+n-1
  ·subst c2;rw[ey] at eu;cases eu;exact e
  ·exact o.trans u y x (hall _ _ eu) (hall _ _ ey) (hall _ _ ex) (h i (lo+n-1) u y hi (by lia) (by lia) eu ey) e
theorem ND.grow {LT:Keyed->Keyed->Bool}{lo:Nat}(o:Ord S LT)(hall:∀(j:Nat) (x:Keyed),arr[j]?=some x->S x){x y:Keyed}(h:ND LT arr lo (lo+n))(h1:1<=n)(ex:arr[lo+n]?=some x)(ey:arr[lo+n-1]?=some y)(e:LT y x=false):ND LT arr lo (lo+n+1):=by
 intro i j u v hi hij hj eu ev
 by_cases c:j<lo+n
 ·exact h i j u v hi hij c eu ev
 ·have:j=lo+n:=by lia
  subst this;rw[ex] at ev;cases ev
  by_cases c2:i=lo+n-1
  ·subst c2;rw[ey] at eu;cases eu;exact e
  ·exact o.trans x y u (hall _ _ ex) (hall _ _ ey) (hall _ _ eu) e (h i (lo+n-1) u y hi (by lia) (by lia) eu ey)
theorem ND.turn {LT:Keyed->Keyed->Bool}{lo:Nat}(h:ND LT arr lo hi)(hz:hi<=arr.size):SR LT (PyProof.Rows.mirror arr lo hi ((hi-lo)/2)) lo hi:=by
 intro i j x y h1 h2 h3 ex ey;rw[Rj hz,Uv (by lia)] at ex ey;exact h (lo+hi-1-j) (lo+hi-1-i) y x (by lia) (by lia) (by lia) ey ex
theorem ND.alike {LT:Keyed->Keyed->Bool}{lo:Nat}(h:ND LT arr lo hi)(ha:AL LT arr n hi)(hn:lo<=n)(hz:hi<=arr.size):ND LT (PyProof.Rows.mirror arr n hi ((hi-n)/2)) lo hi:=by
 intro i j x y h1 h2 h3 ex ey;rw[Rj hz] at ex ey
 by_cases ci:n<=i/\i<hi
 ·rw[Uv ci] at ex;rw[Uv (by lia)] at ey;exact ha _ _ y x (by lia) (by lia) (by lia) (by lia) ey ex
 ·rw[Ur ci] at ex
  by_cases cj:n<=j/\j<hi
  ·rw[Uv cj] at ey;exact h i _ x y h1 (by lia) (by lia) ex ey
  ·rw[Ur cj] at ey;exact h i j x y h1 h2 h3 ex ey
theorem AL.one {LT:Keyed->Keyed->Bool}(o:Ord S LT)(hall:∀(j:Nat) (x:Keyed),arr[j]?=some x->S x):AL LT arr n (n+1):=fun i j x y h1 h2 h3 h4 ex ey=>by
 have:i=j:=by lia
 subst this;rw[ex] at ey;cases ey;exact o.irr (hall _ _ ex)
theorem AL.grow {LT:Keyed->Keyed->Bool}(o:Ord S LT)(hall:∀(j:Nat) (x:Keyed),arr[j]?=some x->S x){x:Keyed}(h:AL LT arr n hi)(h1:n<hi)(ex:arr[hi]?=some x)(ey:arr[hi-1]?=some y)(e1:LT x y=false)(e2:LT y x=false):AL LT arr n (hi+1):=by
 intro i j u v i1 i2 j1 j2 eu ev
 by_cases ci:i<hi
 ·by_cases cj:j<hi
  ·exact h i j u v i1 ci j1 cj eu ev
  ·have:j=hi:=by lia
   subst this;rw[ex] at ev;cases ev;exact o.trans u y x (hall _ _ eu) (hall _ _ ey) (hall _ _ ex) (h i (j-1) u y i1 ci (by lia) (by lia) eu ey) e1
 ·have:i=hi:=by lia
  subst this;rw[ex] at eu;cases eu
  by_cases cj:j<i
  ·exact o.trans x y v (hall _ _ ex) (hall _ _ ey) (hall _ _ ev) e2 (h (i-1) j y v (by lia) (by lia) j1 cj ey ev)
  ·have:j=i:=by lia
   subst this;rw[ex] at ev;cases ev;exact o.irr (hall _ _ ex)
theorem jr {LT:Keyed->Keyed->Bool}(hl:pK prog w A E s κ S LT){st:SortSt}{i:Nat}{x:Keyed}{Q:Option Bool->SortSt->Prop}(hs:kindOf st=κ)(ex:(arrOf st)[i]?=some x)(ey:(arrOf st)[j]?=some y)(sx:S x)(sy:S y)(h:Q (some (LT x y)) st):wpS (model prog w) A E s (ltAt' i j) Q st:=by
 rw[ltAt'_eq];refine Ut (Nq ?_);exact Ut (zZ ex (Ut (zZ ey (hl x y st Q sx sy hs h))))
theorem kx {LT:Keyed->Keyed->Bool}(o:Ord S LT){lo a:Nat}{st:SortSt}{Q:Option (Option Nat)×Nat->SortSt->Prop}(hall:∀(j:Nat) (x:Keyed),arr[j]?=some x->S x)(hF:∀(i n:Nat) (x y:Keyed) (Q':ForInStep (Option (Option Nat)×Nat)->SortSt->Prop),arr[lo+n]?=some x->arr[lo+n-1]?=some y->(LT x y=true->Q' (.done (none,n)) st)->(LT x y=false->Q' (.yield (none,n+1)) st)->wpS (model prog w) A E s (F i (none,n)) Q' st)(h1:1<=a)(h2:a<=nrem)(hz:lo+nrem<=arr.size)(sr:SR LT arr lo (lo+a))(h:∀n,a<=n->n<=nrem->SR LT arr lo (lo+n)->(n=nrem∨∃x y,arr[lo+n]?=some x/\arr[lo+n-1]?=some y/\LT x y=true)->Q (none,n) st):wpS (model prog w) A E s (forIn [a:nrem] (none,a) F) Q st:=by
 refine OF (I:=fun n c st'=>st'=st/\c=(none,n)/\SR LT arr lo (lo+n)) ?_ ?_ ⟨rfl,rfl,sr⟩
 ·rintro n c st' hn1 hn2 ⟨rfl,rfl,sr⟩;have ex:arr[lo+n]?=some (arr[lo+n]'(by lia)):=Us _;have ey:arr[lo+n-1]?=some (arr[lo+n-1]'(by lia)):=Us _;exact hF n n _ _ _ ex ey (fun e=>h n hn1 (by lia) sr (.inr ⟨_,_,ex,ey,e⟩)) fun e=>⟨rfl,rfl,sr.grow o hall (by lia) ex ey e⟩
 ·rintro c st' ⟨rfl,rfl,sr⟩;have e:max a nrem=nrem:=by lia
  rw[e] at sr ⊢;exact h nrem h2 (Ub _) sr (.inl rfl)
theorem zbQ {LT:Keyed->Keyed->Bool}(o:Ord S LT){lo n0:Nat}{st:SortSt}{Q:Option (Option Nat)×Nat×Nat->SortSt->Prop}{F:Nat->Option (Option Nat)×Nat×Nat->StateT SortSt Sem (ForInStep (Option (Option Nat)×Nat×Nat))}(hall:∀(j:Nat) (x:Keyed),(arrOf st)[j]?=some x->S x)(hF:∀(i n q:Nat) (a:Array Keyed) (x y:Keyed) (Q':ForInStep (Option (Option Nat)×Nat×Nat)->SortSt->Prop),a[lo+n]?=some x->a[lo+n-1]?=some y->S x->S y->
 (LT x y=true->q>0->Q' (.yield (none,n+1,0)) (setArr st (PyProof.Rows.mirror a (lo+n-(q+1)) (lo+n) ((lo+n-(lo+n-(q+1)))/2))))->(LT x y=true->¬q>0->Q' (.yield (none,n+1,0)) (setArr st a))->
 (LT x y=false->LT y x=true->Q' (.done (none,n,q)) (setArr st a))->(LT x y=false->LT y x=false->Q' (.yield (none,n+1,q+1)) (setArr st a))->wpS (model prog w) A E s (F i (none,n,q)) Q' (setArr st a)) (h1:1<=n0) (h2:n0<=nrem) (hz:lo+nrem<=(arrOf st).size) (rn:Rn (arrOf st) a0 lo (lo+nrem)) (nd:ND LT a0 lo (lo+n0)) (h:∀n q a,Rn (arrOf st) a lo (lo+nrem)->n0<=n->n<=nrem->ND LT a lo (lo+n)->q+1<=n->AL LT a (lo+n-(q+1)) (lo+n)->Q (none,n,q) (setArr st a)):wpS (model prog w) A E s (forIn [n0:nrem] (none,n0,0) F) Q (setArr st a0):=by
 refine OF (I:=fun n c st'=>∃q a,st'=setArr st a/\c=(none,n,q)/\Rn (arrOf st) a lo (lo+nrem)/\ND LT a lo (lo+n)/\q+1<=n/\AL LT a (lo+n-(q+1)) (lo+n)) ?_ ?_ ⟨0,a0,rfl,rfl,rn,nd,h1,by
  rw[show lo+n0=lo+n0-(0+1)+1 by lia,show lo+n0-(0+1)+1-(0+1)=lo+n0-(0+1) by lia];exact AL.one o (rn.all hall)⟩
 ·rintro n c st' hn1 hn2 ⟨q,a,rfl,rfl,rn,nd,hq,al⟩;have hsz:=rn.size;have ex:a[lo+n]?=some (a[lo+n]'(by lia)):=Us _;have ey:a[lo+n-1]?=some (a[lo+n-1]'(by lia)):=Us _;have ha:=rn.all hall
  have al1:∀b:Array Keyed,(∀(j:Nat) (x:Keyed),b[j]?=some x->S x)->AL LT b (lo+(n+1)-(0+1)) (lo+(n+1)):=fun b hb=>by
   rw[show lo+(n+1)-(0+1)=lo+n by lia];exact AL.one o hb
  refine hF n n q a _ _ _ ex ey (ha _ _ ex) (ha _ _ ey) (fun e hq0=>?_) (fun e hq0=>?_) (fun e1 e2=>h n q a rn hn1 (by lia) nd hq al) fun e1 e2=>?_
  ·have rn2:=rn.mirror (i:=lo+n-(q+1)) (j:=lo+n) (by lia) (by lia) (by lia);refine⟨0,_,rfl,rfl,rn2,?_,by lia,al1 _ (rn2.all hall)⟩;have e0:=o.asym _ _ (ha _ _ ex) (ha _ _ ey) e;have ey':a[lo+n-(q+1)]?=some (a[lo+n-(q+1)]'(by lia)):=Us _;refine(nd.alike al (by lia) (by lia)).grow o (rn2.all hall) (by lia) (x:=a[lo+n]'(by lia)) (y:=a[lo+n-(q+1)]'(by lia)) ?_ ?_ ?_
   ·rw[Rj (by lia),Ur (by lia)];exact ex
   ·rw[Rj (by lia),Uv (by lia),show lo+n-(q+1)+(lo+n)-1-(lo+n-1)=lo+n-(q+1) by lia];exact ey'
   ·exact o.trans _ _ _ (ha _ _ ex) (ha _ _ ey) (ha _ _ ey') e0 (al _ _ _ _ (by lia) (by lia) (by lia) (by lia) ey ey')
  ·exact⟨0,a,rfl,rfl,rn,nd.grow o ha (by lia) ex ey (o.asym _ _ (ha _ _ ex) (ha _ _ ey) e),by lia,al1 _ ha⟩
  ·refine⟨q+1,a,rfl,rfl,rn,nd.grow o ha (by lia) ex ey e2,by lia,?_⟩;have g:=al.grow o ha (by lia) ex ey e1 e2;rw[show lo+(n+1)-(q+1+1)=lo+n-(q+1) by lia];exact g
 ·rintro c st' ⟨q,a,rfl,rfl,rn,nd,hq,al⟩;have e:max n0 nrem=nrem:=by lia
  rw[e] at nd hq al ⊢;exact h nrem q a rn h2 (Ub _) nd hq al
theorem pP {LT:Keyed->Keyed->Bool}(o:Ord S LT)(hl:pK prog w A E s κ S LT){lo:Nat}{st:SortSt}{Q:Option Nat->SortSt->Prop}(hs:kindOf st=κ)(hall:∀(j:Nat) (x:Keyed),(arrOf st)[j]?=some x->S x)(h1:1<=nrem)(hz:lo+nrem<=(arrOf st).size)(h:∀m a,Rn (arrOf st) a lo (lo+nrem)->1<=m->m<=nrem->SR LT a lo (lo+m)->Q (some m) (setArr st a)):wpS (model prog w) A E s (countRun' lo nrem) Q st:=by
 unfold countRun';k_delta "countRun";refine Ut (kx o hall (fun i n x y Q' ex ey q1 q2=>?_) (Ub 1) h1 hz SR.one fun n hn1 hn2 sr hor=>?_)
 ·dsimp only;refine Ut (jr hl hs ex ey (hall _ _ ex) (hall _ _ ey) ?_);dsimp only
  cases e:LT x y with
  |true=>exact UB (q1 e)
  |false=>exact UB (q2 e)
 dsimp only
 by_cases hnn:n=nrem
 ·rw[Uv (by simpa using hnn)];exact UB (h n _ (Rn.refl _ _ _) hn1 hn2 sr)
 rw[Ur (by simpa using hnn)];obtain⟨x,y,ex,ey,e⟩:=hor.resolve_left hnn;have ex1:=o.asym _ _ (hall _ _ ex) (hall _ _ ey) e
 by_cases hgt:n>1
 ·rw[Uv hgt];have ea:(arrOf st)[lo]?=some ((arrOf st)[lo]'(by lia)):=Us _;refine Ut (jr hl hs ea ey (hall _ _ ea) (hall _ _ ey) ?_);dsimp only
  cases er:LT ((arrOf st)[lo]'(by lia)) y with
  |true=>
   rw[Uv rfl];exact UB (h n _ (Rn.refl _ _ _) hn1 hn2 sr)
  |false=>
   rw[Ur (by decide)];have rf:∀{x},S x->LT x x=false:=fun hx=>o.irr hx
   have al0:AL LT (arrOf st) lo (lo+n):=fun i j u v i1 i2 j1 j2 eu ev=>by
    have c1:leO LT u y:=by
     by_cases c:i=lo+n-1
     ·subst c;rw[ey] at eu;cases eu;exact rf (hall _ _ ey)
     ·exact sr i (lo+n-1) u y i1 (by lia) (by lia) eu ey
    have c2:leO LT ((arrOf st)[lo]'(by lia)) v:=by
     by_cases c:j=lo
     ·subst c;rw[ea] at ev;cases ev;exact rf (hall _ _ ea)
     ·exact sr lo j _ v (Ub _) (by lia) j2 ea ev
    exact o.trans u _ v (hall _ _ eu) (hall _ _ ea) (hall _ _ ev) (o.trans u y _ (hall _ _ eu) (hall _ _ ey) (hall _ _ ea) c1 er) c2
   have nd0:ND LT (arrOf st) lo (lo+n):=fun i j u v i1 i2 j2 eu ev=>al0 j i v u (by lia) j2 i1 (by lia) ev eu;have rn0:=(Rn.refl (arrOf st) lo (lo+nrem)).mirror (i:=lo) (j:=lo+n) (by lia) (by lia) (by lia)
   have nd1:ND LT (PyProof.Rows.mirror (arrOf st) lo (lo+n) ((lo+n-lo)/2)) lo (lo+n+1):=by
    refine(nd0.alike al0 (Ub _) (by lia)).grow o (rn0.all hall) hn1 (x:=x) (y:=(arrOf st)[lo]'(by lia)) ?_ ?_ ?_
    ·rw[Rj (by lia),Ur (by lia)];exact ex
    ·rw[Rj (by lia),Uv (by lia),show lo+(lo+n)-1-(lo+n-1)=lo by lia];exact ea
    ·exact o.trans x y _ (hall _ _ ex) (hall _ _ ey) (hall _ _ ea) ex1 er
   refine Ut (Tg ?_);refine Ut (wpS_lift (RE ⟨rfl,?_⟩));refine Ut (zbQ (st:=st) o hall (fun i n q a x y Q' ex ey sx sy q1 q2 q3 q4=>?_) (by lia) (by lia) hz rn0 nd1 fun m q a rn hm1 hm2 nd hq al=>?_)
   ·dsimp only;refine Ut (jr (st:=setArr st a) hl hs ex ey sx sy ?_);dsimp only
    cases e:LT x y with
    |true=>
     rw[Uv rfl]
     by_cases hq:q>0
     ·rw[Uv hq];exact Ut (Tg (UB (q1 e hq)))
     ·rw[Ur hq];exact UB (q2 e hq)
    |false=>
     rw[Ur (by decide)];refine Ut (jr (st:=setArr st a) hl hs ey ex sy sx ?_);dsimp only
     cases e':LT y x with
     |true=>exact UB (q3 e e')
     |false=>exact UB (q4 e e')
   dsimp only;have hsz:=rn.size
   by_cases hq0:q>0
   ·rw[Uv hq0];have rn2:=rn.mirror (i:=lo+m-(q+1)) (j:=lo+m) (by lia) (by lia) (by lia);have nd2:=nd.alike al (by lia) (by lia);have z2:=rn2.size;have rn3:=rn2.mirror (i:=lo) (j:=lo+m) (by lia) (by lia) (by lia);refine Ut (Tg ?_);refine Ut (Tg ?_);refine Ut (kx (st:=setArr st (PyProof.Rows.mirror (PyProof.Rows.mirror a (lo+m-(q+1)) (lo+m) ((lo+m-(lo+m-(q+1)))/2)) lo (lo+m) ((lo+m-lo)/2))) (arr:=(PyProof.Rows.mirror (PyProof.Rows.mirror a (lo+m-(q+1)) (lo+m) ((lo+m-(lo+m-(q+1)))/2)) lo (lo+m) ((lo+m-lo)/2))) o (rn3.all hall) (fun i n x y Q' ex ey q1 q2=>?_) (by lia) hm2 (by rw[rn3.size];lia) (nd2.turn (by lia)) fun n hn1 hn2 sr hor=>UB (h _ _ rn3 (by lia) hn2 sr));dsimp only;refine Ut (jr hl hs ex ey (rn3.all hall _ _ ex) (rn3.all hall _ _ ey) ?_);dsimp only
    cases e:LT x y with
    |true=>exact UB (q1 e)
    |false=>exact UB (q2 e)
   ·rw[Ur hq0];have rn3:=rn.mirror (i:=lo) (j:=lo+m) (by lia) (by lia) (by lia);refine Ut (Tg ?_);refine Ut (kx (st:=setArr st (PyProof.Rows.mirror a lo (lo+m) ((lo+m-lo)/2))) (arr:=(PyProof.Rows.mirror a lo (lo+m) ((lo+m-lo)/2))) o (rn3.all hall) (fun i n x y Q' ex ey q1 q2=>?_) (by lia) hm2 (by rw[rn3.size];lia) (nd.turn (by lia)) fun n hn1 hn2 sr hor=>UB (h _ _ rn3 (by lia) hn2 sr));dsimp only;refine Ut (jr hl hs ex ey (rn3.all hall _ _ ex) (rn3.all hall _ _ ey) ?_);dsimp only
    cases e:LT x y with
    |true=>exact UB (q1 e)
    |false=>exact UB (q2 e)
 ·rw[Ur hgt];have n1:n=1:=by lia
  subst n1;have nd1:ND LT (arrOf st) lo (lo+1+1):=ND.grow o hall (fun i j u v h1 h2 h3=>by lia) (Ub 1) ex ey ex1;show wpS (model prog w) A E s _ Q (setArr st (arrOf st));refine Ut (wpS_lift (RE ⟨rfl,?_⟩));refine Ut (zbQ (st:=st) o hall (fun i n q a x y Q' ex ey sx sy q1 q2 q3 q4=>?_) (by lia) (by lia) hz (Rn.refl _ _ _) nd1 fun m q a rn hm1 hm2 nd hq al=>?_)
  ·dsimp only;refine Ut (jr (st:=setArr st a) hl hs ex ey sx sy ?_);dsimp only
   cases e:LT x y with
   |true=>
    rw[Uv rfl]
    by_cases hq:q>0
    ·rw[Uv hq];exact Ut (Tg (UB (q1 e hq)))
    ·rw[Ur hq];exact UB (q2 e hq)
   |false=>
    rw[Ur (by decide)];refine Ut (jr (st:=setArr st a) hl hs ey ex sy sx ?_);dsimp only
    cases e':LT y x with
    |true=>exact UB (q3 e e')
    |false=>exact UB (q4 e e')
  dsimp only;have hsz:=rn.size
  by_cases hq0:q>0
  ·rw[Uv hq0];have rn2:=rn.mirror (i:=lo+m-(q+1)) (j:=lo+m) (by lia) (by lia) (by lia);have nd2:=nd.alike al (by lia) (by lia);have z2:=rn2.size;have rn3:=rn2.mirror (i:=lo) (j:=lo+m) (by lia) (by lia) (by lia);refine Ut (Tg ?_);refine Ut (Tg ?_);refine Ut (kx (st:=setArr st (PyProof.Rows.mirror (PyProof.Rows.mirror a (lo+m-(q+1)) (lo+m) ((lo+m-(lo+m-(q+1)))/2)) lo (lo+m) ((lo+m-lo)/2))) (arr:=(PyProof.Rows.mirror (PyProof.Rows.mirror a (lo+m-(q+1)) (lo+m) ((lo+m-(lo+m-(q+1)))/2)) lo (lo+m) ((lo+m-lo)/2))) o (rn3.all hall) (fun i n x y Q' ex ey q1 q2=>?_) (by lia) hm2 (by rw[rn3.size];lia) (nd2.turn (by lia)) fun n hn1 hn2 sr hor=>UB (h _ _ rn3 (by lia) hn2 sr));dsimp only;refine Ut (jr hl hs ex ey (rn3.all hall _ _ ex) (rn3.all hall _ _ ey) ?_);dsimp only
   cases e:LT x y with
   |true=>exact UB (q1 e)
   |false=>exact UB (q2 e)
  ·rw[Ur hq0];have rn3:=rn.mirror (i:=lo) (j:=lo+m) (by lia) (by lia) (by lia);refine Ut (Tg ?_);refine Ut (kx (st:=setArr st (PyProof.Rows.mirror a lo (lo+m) ((lo+m-lo)/2))) (arr:=(PyProof.Rows.mirror a lo (lo+m) ((lo+m-lo)/2))) o (rn3.all hall) (fun i n x y Q' ex ey q1 q2=>?_) (by lia) hm2 (by rw[rn3.size];lia) (nd.turn (by lia)) fun n hn1 hn2 sr hor=>UB (h _ _ rn3 (by lia) hn2 sr));dsimp only;refine Ut (jr hl hs ex ey (rn3.all hall _ _ ex) (rn3.all hall _ _ ey) ?_);dsimp only
   cases e:LT x y with
   |true=>exact UB (q1 e)
   |false=>exact UB (q2 e)
theorem fP {LT:Keyed->Keyed->Bool}(o:Ord S LT)(hl:pK prog w A E s κ S LT){lo ok:Nat}{st:SortSt}{Q:Bool->SortSt->Prop}(hs:kindOf st=κ)(hall:∀(j:Nat) (x:Keyed),(arrOf st)[j]?=some x->S x)(hn:lo+n<=(arrOf st).size)(hok1:1<=ok)(hok:ok<=n)(sr:SR LT (arrOf st) lo (lo+ok))(h:∀a,Rn (arrOf st) a lo (lo+n)->SR LT a lo (lo+n)->Q true (setArr st a)):wpS (model prog w) A E s (binarySort' lo n ok) Q st:=by
 unfold binarySort';k_delta "binarySort"
 refine Ut (R0 (OF (I:=fun k c st'=>c=(none,())/\∃a,st'=setArr st a/\Rn (arrOf st) a lo (lo+n)/\SR LT a lo (lo+k))
  (Q:=fun c st'=>c=(none,())/\∃a,st'=setArr st a/\Rn (arrOf st) a lo (lo+n)/\SR LT a lo (lo+n)) ?step ?fin ⟨rfl,arrOf st,rfl,Rn.refl _ _ _,by rw[show max ok 1=ok by lia];exact sr⟩) ?post)
 case post=>
  rintro c st' ⟨rfl,a,rfl,rn,sr⟩;exact UB (h a rn sr)
 case fin=>
  rintro c st' ⟨rfl,a,rfl,rn,sr⟩;rw[show max (max ok 1) n=n by lia] at sr;exact⟨rfl,a,rfl,rn,sr⟩
 rintro k c st' hk1 hk2 ⟨rfl,a,rfl,rn,sr⟩;dsimp only;have hsz:=rn.size;have ha:=rn.all hall;have ek:a[lo+k]?=some (a[lo+k]'(by lia)):=Us _
 refine Ut (R0 (OF (I:=fun x c st''=>st''=setArr st a/\∃l r,c=(none,l,r)/\l<=r/\r<=k/\r-l<=k-x/\
  (∀i u,i<l->a[lo+i]?=some u->leO LT u (a[lo+k]'(by lia)))/\(∀i u,r<=i->i<k->a[lo+i]?=some u->LT (a[lo+k]'(by lia)) u=true))
  (Q:=fun c st''=>st''=setArr st a/\∃l,c=(none,l,l)/\l<=k/\
    (∀i u,i<l->a[lo+i]?=some u->leO LT u (a[lo+k]'(by lia)))/\(∀i u,l<=i->i<k->a[lo+i]?=some u->LT (a[lo+k]'(by lia)) u=true)) ?_ ?_ ⟨rfl,0,k,rfl,by lia,by lia,by lia,fun i u hi=>by lia,fun i u h1 h2=>by lia⟩) ?_)
 ·rintro x c st'' _ hx ⟨rfl,l,r,rfl,hlr,hrk,hm,hlo,hhi⟩;dsimp only
  by_cases hge:l≥r
  ·rw[Uv hge];have:l=r:=by lia
   subst this;exact UB ⟨rfl,l,rfl,hrk,hlo,hhi⟩
  ·rw[Ur hge];have em:a[lo+(l+r)/2]?=some (a[lo+(l+r)/2]'(by lia)):=Us _;refine Ut (jr (st:=setArr st a) hl hs ek em (ha _ _ ek) (ha _ _ em) ?_);dsimp only
   cases e:LT (a[lo+k]'(by lia)) (a[lo+(l+r)/2]'(by lia)) with
   |true=>
    rw[Uv rfl];refine UB ⟨rfl,l,(l+r)/2,rfl,by lia,by lia,by lia,hlo,fun i u h1 h2 eu=>?_⟩
    by_cases c:i=(l+r)/2
    ·subst c;rw[em] at eu;cases eu;exact e
    ·have le:=sr (lo+(l+r)/2) (lo+i) _ u (by lia) (by lia) (by lia) em eu
     cases g:LT (a[lo+k]'(by lia)) u with
     |true=>rfl
     |false=>
      have:=o.trans _ _ _ (ha _ _ em) (ha _ _ eu) (ha _ _ ek) le g;rw[e] at this;cases this
   |false=>
    rw[Ur (by decide)];refine UB ⟨rfl,(l+r)/2+1,r,rfl,by lia,by lia,by lia,fun i u h1 eu=>?_,hhi⟩
    by_cases c:i=(l+r)/2
    ·subst c;rw[em] at eu;cases eu;exact e
    ·exact o.trans u _ _ (ha _ _ eu) (ha _ _ em) (ha _ _ ek) (sr (lo+i) (lo+(l+r)/2) u _ (by lia) (by lia) (by lia) eu em) e
 ·rintro c st'' ⟨rfl,l,r,rfl,hlr,hrk,hm,hlo,hhi⟩;have:l=r:=by lia
  subst this;exact⟨rfl,l,rfl,hrk,hlo,hhi⟩
 ·rintro c st'' ⟨rfl,l,rfl,hlk,hlo,hhi⟩;dsimp only;refine Ut (RD (UB ⟨rfl,bubble a (lo+k) (lo+k-(lo+l)),rfl,rn.bubble (by lia) (by lia) (by lia),?_⟩));intro i j u v h1 h2 h3 eu ev;rw[getElem?_bubble (by lia) _ (by lia),show lo+k-(lo+k-(lo+l))=lo+l by lia] at eu ev
  by_cases c1:i=lo+l
  ·rw[Uv c1] at eu;rw[Ur (by lia),Uv (by lia)] at ev;rw[ek] at eu;cases eu;refine o.asym _ _ (ha _ _ ek) (ha _ _ ev) (hhi (j-1-lo) v (by lia) (by lia) (by rw[show lo+(j-1-lo)=j-1 by lia];exact ev))
  ·rw[Ur c1] at eu
   by_cases c2:lo+l<i/\i<=lo+k
   ·rw[Uv c2] at eu;rw[Ur (by lia),Uv (by lia)] at ev;exact sr _ _ u v (by lia) (by lia) (by lia) eu ev
   ·rw[Ur c2] at eu
    by_cases c3:j=lo+l
    ·rw[Uv c3] at ev;rw[ek] at ev;cases ev;exact hlo (i-lo) u (by lia) (by rw[show lo+(i-lo)=i by lia];exact eu)
    ·rw[Ur c3] at ev
     by_cases c4:lo+l<j/\j<=lo+k
     ·rw[Uv c4] at ev;exact sr _ _ u v (by lia) (by lia) (by lia) eu ev
     ·rw[Ur c4] at ev;exact sr _ _ u v (by lia) (by lia) (by lia) eu ev
abbrev zac:Type:=Nat×Nat×Nat
def Runs (LT:Keyed->Keyed->Bool)(arr:Array Keyed):List zac->Nat->Nat->Prop
 |[],lo,hi=>lo=hi
 |(s,n,_)::r,lo,hi=>s=lo/\1<=n/\SR LT arr lo (lo+n)/\Runs LT arr r (lo+n) hi
theorem Runs.le {LT:Keyed->Keyed->Bool}:∀{l:List zac}{lo hi:Nat},Runs LT arr l lo hi->lo+l.length<=hi
 |[],lo,hi,h=>by have:lo=hi:=h;simp[this]
 |(s,n,p)::r,lo,hi,h=>by have:=Runs.le h.2.2.2;have:=h.2.1;rw[Uk];lia
theorem SR.keep {LT:Keyed->Keyed->Bool}{lo:Nat}(h:SR LT arr lo hi)(e:∀i,lo<=i->i<hi->arr'[i]?=arr[i]?):SR LT arr' lo hi:=fun i j x y h1 h2 h3 ex ey=>h i j x y h1 h2 h3 (by rw[<-e i h1 (by lia)];exact ex) (by rw[<-e j (by lia) h3];exact ey)
theorem Runs.keep {LT:Keyed->Keyed->Bool}:∀{l:List zac}{lo hi:Nat},Runs LT arr l lo hi->(∀i,lo<=i->i<hi->arr'[i]?=arr[i]?)->Runs LT arr' l lo hi
 |[],lo,hi,h,_=>h
 |(s,n,p)::r,lo,hi,h,e=>by
  have:=h.2.2.2.le;exact⟨h.1,h.2.1,h.2.2.1.keep fun i h1 h2=>e i h1 (by lia),h.2.2.2.keep fun i h1 h2=>e i (by lia) h2⟩
theorem Runs.append {LT:Keyed->Keyed->Bool}:∀{l m:List zac}{lo mid hi:Nat},Runs LT arr l lo mid->Runs LT arr m mid hi->Runs LT arr (l++m) lo hi
 |[],m,lo,mid,hi,h,h'=>by have:lo=mid:=h;subst this;exact h'
 |(s,n,p)::r,m,lo,mid,hi,h,h'=>⟨h.1,h.2.1,h.2.2.1,h.2.2.2.append h'⟩
theorem Runs.split {LT:Keyed->Keyed->Bool}:∀{l m:List zac}{lo hi:Nat},Runs LT arr (l++m) lo hi->∃mid,Runs LT arr l lo mid/\Runs LT arr m mid hi
 |[],m,lo,hi,h=>⟨lo,rfl,h⟩
 |(s,n,p)::r,m,lo,hi,h=>by
  obtain⟨mid,h1,h2⟩:=Runs.split (l:=r) (m:=m) h.2.2.2;exact⟨mid,⟨h.1,h.2.1,h.2.2.1,h1⟩,h2⟩
theorem Runs.congr {LT:Keyed->Keyed->Bool}:∀{l m:List zac}{lo hi:Nat},l.map (fun p=>(p.1,p.2.1))=m.map (fun p=>(p.1,p.2.1))->Runs LT arr l lo hi->Runs LT arr m lo hi
 |[],[],_,_,_,h=>h
 |[],_::_,_,_,e,_=>by simp at e
 |_::_,[],_,_,e,_=>by simp at e
 |(s,n,p)::r,(s',n',p')::r',lo,hi,e,h=>by
  simp only[UL,OA,Prod.mk.injEq] at e;obtain⟨⟨rfl,rfl⟩,e⟩:=e;exact⟨h.1,h.2.1,h.2.2.1,Runs.congr e h.2.2.2⟩
theorem zik {l:List zac}{i:Nat}(h:i+1<l.length):l=l.take i++l[i]::l[i+1]::l.drop (i+2):=by
 have e1:=(Oo i l).symm;rw[OX (by lia),OX h] at e1;exact e1
theorem zfa {l:List zac}{i:Nat}{v:zac}(h:i+1<l.length):(l.set i v).eraseIdx (i+1)=l.take i++v::l.drop (i+2):=by
 apply OV;intro j;have lt:(l.take i).length=i:=by simp;lia
 rw[List.getElem?_eraseIdx]
 by_cases c1:j<i
 ·rw[Uv (by lia),Ti (by lia),Ou (by lia),List.getElem?_take,Uv c1]
 ·by_cases c2:j=i
  ·subst c2;rw[Uv (by lia),Ni (by lia),Ob (by lia),lt,Ry];rfl
  ·obtain⟨d,rfl⟩:∃d,j=i+1+d:=⟨j-i-1,by lia⟩;rw[Ur (by lia),Ti (by lia),Ob (by lia),lt,show i+1+d-i=d+1 by lia,List.getElem?_cons_succ,TF];congr 1;lia
theorem fB (h:i+1<p.size):(zbb p i sa n pw).toList=p.toList.take i++(sa,n,pw)::p.toList.drop (i+2):=by
 have hs:i+1<(p.setIfInBounds i (sa,n,pw)).size:=by rw[Array.size_setIfInBounds];exact h
 unfold zbb;rw[Array.eraseIdxIfInBounds,dif_pos hs,Array.toList_eraseIdx,Array.toList_setIfInBounds];exact zfa (by simpa using h)
structure Sw (κ:SortKind)(LT:Keyed->Keyed->Bool)(a0:Array Keyed)(lo:Nat)(st:SortSt):Prop where
 perm:(arrOf st).toList.Perm a0.toList
 kind:kindOf st=κ
 failed:failedOf st=none
 runs:Runs LT (arrOf st) (pendingOf st).toList 0 lo
theorem Sw.size {LT:Keyed->Keyed->Bool}{lo:Nat}{st:SortSt}(h:Sw κ LT a0 lo st):(arrOf st).size=a0.size:=by have:=h.perm.length_eq;simpa using this
theorem Sw.all {LT:Keyed->Keyed->Bool}{lo:Nat}{st:SortSt}(h:Sw κ LT a0 lo st)(hall:∀(j:Nat) (x:Keyed),a0[j]?=some x->S x):∀(j:Nat) (x:Keyed),(arrOf st)[j]?=some x->S x:=Rn.all (lo:=0) (hi:=a0.size) ⟨h.perm,fun i hi=>by
 have:=h.size;rw[Rv (by lia),Rv (by lia)]⟩ hall
theorem xR {LT:Keyed->Keyed->Bool}(o:Ord S LT)(hl:pK prog w A E s κ S LT){i lo:Nat}{st:SortSt}{Q:Bool->SortSt->Prop}(hall:∀(j:Nat) (x:Keyed),a0[j]?=some x->S x)(sw:Sw κ LT a0 lo st)(hlo:lo<=a0.size)(hi:i+1<(pendingOf st).size)(h:∀st',Sw κ LT a0 lo st'->(pendingOf st').size+1=(pendingOf st).size->(∀j,lo<=j->(arrOf st')[j]?=(arrOf st)[j]?)->Q true st'):wpS (model prog w) A E s (mergeAt' i) Q st:=by
 have hi':i+1<(pendingOf st).toList.length:=by simpa using hi
 have e:=zik hi';have hz:=sw.size;have rr:=sw.runs;rw[e] at rr;obtain⟨sa,r1,r2⟩:=rr.split;generalize ev:(pendingOf st).toList[i]=v at r2 e;generalize ev':(pendingOf st).toList[i+1]=v' at r2 e;obtain⟨s1,na,pw⟩:=v;obtain⟨s2,nb,pw'⟩:=v';obtain⟨rfl,g1,g2,rfl,g3,g4,g5⟩:=r2;have g6:=g5.le;have e1:(pendingOf st)[i]?=some (s1,na,pw):=by rw[<-U1,Ua (by lia),ev]
 have e2:(pendingOf st)[i+1]?=some (s1+na,nb,pw'):=by rw[<-U1,Ua hi',ev']
 refine zbP o hl sw.kind sw.failed (sw.all hall) e1 e2 g1 g3 (by lia) g2 g4 fun st' k f p m=>h st' ⟨m.perm.trans sw.perm,k,f,?_⟩ ?_ fun j hj=>m.out j (.inr (by lia))
 ·rw[p,fB hi];refine(r1.keep fun j h1 h2=>m.out j (.inl h2)).append ⟨rfl,by lia,?_,?_⟩
  ·rw[<-Nat.add_assoc];exact m.so
  ·rw[<-Nat.add_assoc];exact g5.keep fun j h1 h2=>m.out j (.inr h1)
 ·have z:(pendingOf st').toList.length=i+(1+((pendingOf st).toList.length-(i+2))):=by
   rw[p,fB hi,UD,UA,Uk,Rf];lia
  simp only[Oe] at z;lia
theorem mod_last {p:Array zac}{pw:Nat}:(p.modify (p.size-1) fun(st,len,_)=>(st,len,pw)).toList.map (fun p=>(p.1,p.2.1))=p.toList.map (fun p=>(p.1,p.2.1)):=by
 apply OV;intro j;rw[Up,Up,U1,U1,Array.getElem?_modify];split
 ·cases p[j]?<;>rfl
 ·rfl
theorem Sw.push {LT:Keyed->Keyed->Bool}{lo:Nat}{st:SortSt}(sw:Sw κ LT a0 lo st)(sr:SR LT (arrOf st) lo (lo+n))(hn:1<=n):Sw κ LT a0 (lo+n) (setPending st ((pendingOf st).push (lo,n,0))):=by
 refine⟨sw.perm,sw.kind,sw.failed,?_⟩;show Runs LT (arrOf st) ((pendingOf st).push (lo,n,0)).toList 0 (lo+n);rw[RH];exact sw.runs.append ⟨rfl,hn,sr,rfl⟩
theorem Sw.mod {LT:Keyed->Keyed->Bool}{lo:Nat}{st:SortSt}(sw:Sw κ LT a0 lo st)(pw:Nat):Sw κ LT a0 lo (setPending st ((pendingOf st).modify ((pendingOf st).size-1) fun x=>(x.1,x.2.1,pw))):=
 ⟨sw.perm,sw.kind,sw.failed,Runs.congr mod_last.symm sw.runs⟩
theorem yG {LT:Keyed->Keyed->Bool}(o:Ord S LT)(hl:pK prog w A E s κ S LT){st:SortSt}{Q:Unit->SortSt->Prop}(hs:kindOf st=κ)(hf:failedOf st=none)(hp:pendingOf st = #[])(hall:∀(j:Nat) (x:Keyed),(arrOf st)[j]?=some x->S x)(h:∀st',(arrOf st').toList.Perm (arrOf st).toList->failedOf st'=none->(arrOf st').toList.Pairwise (leO LT)->Q () st'):wpS (model prog w) A E s sortRuns' Q st:=by
 generalize ea:arrOf st=a0 at hall h;rw[sortRuns'_eq];refine Ut (Nq ?_);dsimp only;rw[ea];generalize minRun' a0.size a0.size 0=mr;have sw0:Sw κ LT a0 0 st:=⟨by rw[ea],hs,hf,by rw[hp];rfl⟩;refine Ut (R0 (OF (I:=fun i c st'=>∃lo,c=(none,lo)/\i<=lo/\lo<=a0.size/\Sw κ LT a0 lo st') (Q:=fun c st'=>∃lo,c=(none,lo)/\Sw κ LT a0 a0.size st') ?step ?fin ⟨0,rfl,Ub _,UI _,sw0⟩) ?post)
 case fin=>
  rintro c st' ⟨lo,rfl,h1,h2,sw⟩;have:lo=a0.size:=by lia
  subst this;exact⟨_,rfl,sw⟩
 case step=>
  rintro i c st' _ hi ⟨lo,rfl,h1,h2,sw⟩;dsimp only
  by_cases hge:lo≥a0.size
  ·rw[Uv hge];have:lo=a0.size:=by lia
   subst this;exact UB ⟨_,rfl,sw⟩
  rw[Ur hge];have hz:=sw.size;refine Ut (pP o hl sw.kind (sw.all hall) (by lia) (by lia) fun m a rn hm1 hm2 sr=>?_);dsimp only;have sw1:Sw κ LT a0 lo (setArr st' a):=⟨rn.perm.trans sw.perm,sw.kind,sw.failed,sw.runs.keep fun j j1 j2=>rn.out j (.inl j2)⟩
  by_cases hlt:m<mr
  ·rw[Uv hlt];refine Ut (wpS_lift (RE ⟨rfl,?_⟩));have z1:=sw1.size;refine Ut (fP o hl sw1.kind (sw1.all hall) (by lia) hm1 (by lia) sr fun b rn2 sr2=>?_);rw[Ur (by decide)];have sw2:Sw κ LT a0 lo (setArr (setArr st' a) b):=⟨rn2.perm.trans sw1.perm,sw1.kind,sw1.failed,sw1.runs.keep fun j j1 j2=>rn2.out j (.inl j2)⟩;replace sr2:SR LT (arrOf (setArr (setArr st' a) b)) lo (lo+min (a0.size-lo) mr):=sr2;have hn1:1<=min (a0.size-lo) mr:=by lia
   have hn2:lo+min (a0.size-lo) mr<=a0.size:=by lia
   generalize min (a0.size-lo) mr=n at sr2 hn1 hn2 ⊢;generalize setArr (setArr st' a) b=st1 at sw2 sr2 ⊢;refine Ut (Nq ?_)
   cases eb:(pendingOf st1).back? with
   |none=>
    dsimp only;exact Ut (RD (UB ⟨_,rfl,by lia,by lia,sw2.push sr2 hn1⟩))
   |some v=>
    obtain⟨s1,n1,p1⟩:=v;dsimp only;refine Ut (R0 (OF (I:=fun j c st2=>c=(none,())/\Sw κ LT a0 lo st2/\SR LT (arrOf st2) lo (lo+n)) (Q:=fun c st2=>c=(none,())/\Sw κ LT a0 lo st2/\SR LT (arrOf st2) lo (lo+n)) ?_ (fun _ _ hh=>hh) ⟨rfl,sw2,sr2⟩) ?_)
    ·rintro j c st2 _ _ ⟨rfl,sw3,sr3⟩;refine Ut (Nq ?_)
     by_cases hsz:(pendingOf st2).size>1
     ·rw[Uv hsz];obtain⟨v,ev⟩:∃v,(pendingOf st2)[(pendingOf st2).size-2]?=some v:=⟨_,Us (by lia)⟩;obtain⟨u1,u2,u3⟩:=v;rw[ev];dsimp only
      by_cases hold:u3<=power' a0.size (2*s1+n1) (2*s1+n1+n1+n) a0.size
      ·rw[Uv hold];exact UB ⟨rfl,sw3,sr3⟩
      ·rw[Ur hold];refine Ut (xR o hl hall sw3 h2 (by lia) fun st3 sw4 _ out=>?_);rw[Ur (by decide)];exact UB ⟨rfl,sw4,sr3.keep fun j j1 _=>out j j1⟩
     ·rw[Ur hsz];exact UB ⟨rfl,sw3,sr3⟩
    ·rintro c st2 ⟨rfl,sw3,sr3⟩;dsimp only;exact Ut (RD (Ut (RD (UB ⟨_,rfl,by lia,by lia,(sw3.mod _).push sr3 hn1⟩))))
  ·rw[Ur hlt];have sw2:=sw1;have sr2:SR LT (arrOf (setArr st' a)) lo (lo+m):=sr;have hn1:=hm1;have hn2:lo+m<=a0.size:=by lia
   generalize setArr st' a=st1 at sw2 sr2 ⊢;generalize m=n at sr2 hn1 hn2 ⊢;refine Ut (Nq ?_)
   cases eb:(pendingOf st1).back? with
   |none=>
    dsimp only;exact Ut (RD (UB ⟨_,rfl,by lia,by lia,sw2.push sr2 hn1⟩))
   |some v=>
    obtain⟨s1,n1,p1⟩:=v;dsimp only;refine Ut (R0 (OF (I:=fun j c st2=>c=(none,())/\Sw κ LT a0 lo st2/\SR LT (arrOf st2) lo (lo+n)) (Q:=fun c st2=>c=(none,())/\Sw κ LT a0 lo st2/\SR LT (arrOf st2) lo (lo+n)) ?_ (fun _ _ hh=>hh) ⟨rfl,sw2,sr2⟩) ?_)
    ·rintro j c st2 _ _ ⟨rfl,sw3,sr3⟩;refine Ut (Nq ?_)
     by_cases hsz:(pendingOf st2).size>1
     ·rw[Uv hsz];obtain⟨v,ev⟩:∃v,(pendingOf st2)[(pendingOf st2).size-2]?=some v:=⟨_,Us (by lia)⟩;obtain⟨u1,u2,u3⟩:=v;rw[ev];dsimp only
      by_cases hold:u3<=power' a0.size (2*s1+n1) (2*s1+n1+n1+n) a0.size
      ·rw[Uv hold];exact UB ⟨rfl,sw3,sr3⟩
      ·rw[Ur hold];refine Ut (xR o hl hall sw3 h2 (by lia) fun st3 sw4 _ out=>?_);rw[Ur (by decide)];exact UB ⟨rfl,sw4,sr3.keep fun j j1 _=>out j j1⟩
     ·rw[Ur hsz];exact UB ⟨rfl,sw3,sr3⟩
    ·rintro c st2 ⟨rfl,sw3,sr3⟩;dsimp only;exact Ut (RD (Ut (RD (UB ⟨_,rfl,by lia,by lia,(sw3.mod _).push sr3 hn1⟩))))
 case post=>
  rintro c st' ⟨lo,rfl,sw⟩;dsimp only;have hle:(pendingOf st').size<=a0.size:=by have:=sw.runs.le;simpa using this
  refine Ut (R0 (OF (I:=fun j c st2=>c=(none,())/\Sw κ LT a0 a0.size st2/\(pendingOf st2).size+j<=a0.size) (Q:=fun c st2=>c=(none,())/\Sw κ LT a0 a0.size st2/\(pendingOf st2).size<=1) ?_ ?_ ⟨rfl,sw,hle⟩) ?_)
  ·rintro j c st2 _ hj ⟨rfl,sw3,hz⟩;refine Ut (Nq ?_)
   by_cases hsz:(pendingOf st2).size<=1
   ·rw[Uv hsz];exact UB ⟨rfl,sw3,hsz⟩
   rw[Ur hsz];refine Ut (xR o hl hall sw3 (Ub _) ?_ fun st3 sw4 hz4 out=>?_)
   ·generalize Option.any _ _=b
    cases b with
    |true=>rw[Uv rfl];lia
    |false=>rw[Ur (by decide)];lia
   ·rw[Ur (by decide)];exact UB ⟨rfl,sw4,by lia⟩
  ·rintro c st2 ⟨rfl,sw3,hz⟩;exact⟨rfl,sw3,by lia⟩
  ·rintro c st2 ⟨rfl,sw3,hz⟩;refine UB (h st2 sw3.perm sw3.failed ?_);have rr:=sw3.runs;have z:=sw3.size;have hz':(pendingOf st2).toList.length<=1:=by simpa using hz
   have so:SR LT (arrOf st2) 0 a0.size:=by
    generalize (pendingOf st2).toList=l at rr hz'
    match l,rr,hz' with
    |[],rr,_=>
     have:0=a0.size:=rr;intro i j x y h1 h2 h3;lia
    |[(s,n,p)],rr,_=>
     obtain⟨_,_,g,e⟩:=rr;have e:0+n=a0.size:=e;rw[<-e];exact g
   rw[Oh];intro i j hi hj hij;have hi':i<(arrOf st2).size:=by simpa using hi
   have hj':j<(arrOf st2).size:=by simpa using hj
   exact so i j _ _ (UI _) hij (by lia) (by rw[<-U1];exact Ua hi) (by rw[<-U1];exact Ua hj)
theorem wk:∀a:List Int,HT.lexLt a a=false
 |[]=>rfl
 |x::a=>by rw[HT.lexLt_cons,Uv rfl];exact wk a
theorem gm:∀a b:List Int,HT.lexLt a b=true->HT.lexLt b a=false
 |[],[],h=>by cases h
 |[],_::_,_=>rfl
 |_::_,[],h=>by cases h
 |x::a,y::b,h=>by
  rw[HT.lexLt_cons] at h ⊢
  by_cases e:x=y
  ·rw[Uv e] at h;rw[Uv e.symm];exact gm a b h
  ·rw[Ur e] at h;rw[Ur (fun z=>e z.symm)];have:=U0 h;exact UE (by lia)
theorem zbt:∀a b c:List Int,HT.lexLt b a=false->HT.lexLt c b=false->HT.lexLt c a=false
 |[],_,[],_,_=>rfl
 |[],[],_::_,_,_=>rfl
 |[],_::_,_::_,_,_=>rfl
 |_::_,[],_,h,_=>by cases h
 |_::_,_::_,[],_,h=>by cases h
 |x::a,y::b,z::c,h1,h2=>by
  rw[HT.lexLt_cons] at h1 h2 ⊢
  by_cases e1:y=x
  ·rw[Uv e1] at h1;subst e1
   by_cases e2:z=y
   ·rw[Uv e2] at h2 ⊢;exact zbt a b c h1 h2
   ·rw[Ur e2] at h2 ⊢;exact h2
  ·rw[Ur e1] at h1;have h1:=RW h1
   by_cases e2:z=y
   ·subst e2;rw[Ur e1];exact UE h1
   ·rw[Ur e2] at h2;have h2:=RW h2;rw[Ur (by lia)];exact UE (by lia)
theorem dI:∀a b:List Int,HT.lexLt a b=false->HT.lexLt b a=false->a=b
 |[],[],_,_=>rfl
 |[],_::_,h,_=>by cases h
 |_::_,[],_,h=>by cases h
 |x::a,y::b,h1,h2=>by
  rw[HT.lexLt_cons] at h1 h2
  by_cases e:x=y
  ·subst e;rw[Uv rfl] at h1 h2;rw[dI a b h1 h2]
  ·rw[Ur e] at h1;rw[Ur (fun z=>e z.symm)] at h2;have:=RW h1;have:=RW h2;lia
abbrev leC (a b:List Int):Prop:=HT.lexLt b a=false
theorem zca:∀{a b:List (List Int)},a.Perm b->a.Pairwise leC->b.Pairwise leC->a=b:=fun {a b} p ha hb=>List.Perm.eq_of_pairwise (fun x y _ _ h1 h2=>dI x y h2 h1) ha hb p
theorem Paired.perm (p:m'.Perm m):∀{l:List α},Paired F l m->∃l',Paired F l' m'/\l'.Perm l:=by
 induction p with
 |nil=>intro l h;exact⟨l,h,.refl _⟩
 |cons x p ih=>
  intro l h
  cases h with
  |cons r t=>
   obtain⟨l',h1,h2⟩:=ih t;exact⟨_::l',.cons r h1,h2.cons _⟩
 |swap x y l=>
  intro l h
  cases h with
  |cons r t=>
   cases t with
   |cons r' t'=>exact⟨_,.cons r' (.cons r t'),.swap ..⟩
 |trans p q ih1 ih2=>
  intro l h;obtain⟨l1,h1,h2⟩:=ih2 h;obtain⟨l2,h3,h4⟩:=ih1 h1;exact⟨l2,h3,h4.trans h2⟩
theorem zd4 {S:Value->Prop}{LT:Value->Value->Bool}(h:∀u v (C:Bool->Shared->Prop),S u->S v->C (LT u v) s->wpAny (model prog w) A (keyLt' κ u v) C (fun _ _=>False) s) :
 pK prog w A E s κ (fun p=>S p.1) (fun p q=>LT p.1 q.1):=by
 intro x y st Q sx sy hk q;rw[lt'_eq];refine Ut (Nq ?_);rw[hk];refine Ut (wpS_lift (wpAny_attempt (OK (h x.1 y.1 (fun b s'=>s'=s/\b=LT x.1 y.1) sx sy ⟨rfl,rfl⟩) (fun b s' hb=>?_) fun _ _ hF=>hF.elim)));obtain⟨rfl,rfl⟩:=hb;exact⟨rfl,UB q⟩
theorem zfH {a:Addr}{vs:List Value}{LT:Value->Value->Bool}{P:PySem.Fin->Shared->Prop}(ho:s.heap.get? a=some (seqObj "list" vs.toArray n))(hz:vs.length<=1000000)(o:Ord (·∈vs) LT)(hk:2<=vs.length->∀h',(∀b o,b≠a->s.heap.get? b=some o->h'.get? b=some o)->∃κ:SortKind,
 (∀Q:SortKind->Shared->Prop,Q κ { s with heap:=h' }->wpAny (model prog w) A (keyKind' vs.toArray) Q E { s with heap:=h' })/\
 ∀u v (C:Bool->Shared->Prop),u∈vs->v∈vs->C (LT u v) { s with heap:=h' }->wpAny (model prog w) A (keyLt' κ u v) C (fun _ _=>False) { s with heap:=h' }) (h:∀out:List Value,out.Perm vs->out.Pairwise (leO LT)->P (.done (.ret .none)) { s with heap:=sortedHeap s.heap a vs out.toArray }):wpAny (model prog w) A (Builtin.«list.sort» ⟨[.ref a],[]⟩) P E s:=by
 have ha:a<s.heap.objs.size:=UG ho;have hsl:sizeLine=16777216:=UV;rw[list_sort_plain];refine Uc (listItems_at ho rfl ?_);refine Uc (Tw ho rfl ?_ (by rw[Ul];lia) (UI _));obtain⟨e1,ho1⟩:∃e1,(s.heap.update a (Obj.mapSeq fun _=>(#[]:Array Value))).get? a=some (seqObj "list" #[] e1):=⟨_,Nr ho (fun _=>#[])⟩;refine Uc (seqEpoch_at ho1 rfl ?_);refine Uc (wpAny_newTuple ?_ (by show vs.length<=_;lia));refine Uc (OS ?_ (UI _));refine Oc ?_
 have ho6:(((s.heap.update a (Obj.mapSeq fun _=>(#[]:Array Value))).push (seqObj "tuple" vs.toArray 0)).push (seqObj "list" #[] 0)).get? a=some (seqObj "list" #[] e1):=by
  rw[Rq _ _ _ (by rw[size_push',RY];exact UO (Rh ha)),Rq _ _ _ (by rw[RY];exact UO ha)];exact ho1
 have kp:∀b o,b≠a->s.heap.get? b=some o->(((s.heap.update a (Obj.mapSeq fun _=>(#[]:Array Value))).push (seqObj "tuple" vs.toArray 0)).push (seqObj "list" #[] 0)).get? b=some o:=fun b o hb e=>by
  have hlt:=UG e;rw[Rq _ _ _ (by rw[size_push',RY];exact UO (Rh hlt)),Rq _ _ _ (by rw[RY];exact UO hlt),Heap.get?_update_ne _ _ _ _ hb];exact e
 show wpAny (model prog w) A _ P E { s with heap:=((s.heap.update a (Obj.mapSeq fun _=>(#[]:Array Value))).push (seqObj "tuple" vs.toArray 0)).push (seqObj "list" #[] 0) };dsimp only
 by_cases h2:vs.toArray.size<2
 ·rw[Uv h2,Uv h2];refine Uc (Uj ?_);rw[StateT.run_pure];refine Uc (Uj ?_);dsimp only;refine Uc (seqEpoch_at ho6 rfl ?_);have e2:(arrOf (SortSt.mk' general' (vs.toArray.zip vs.toArray) #[] 7 none)).map (·.2)=vs.toArray:=zeJ vs;rw[e2];refine Uc (Tw ho6 rfl ?_ (UI _) (hsz2:=by rw[Ul];lia));simp only[NP,UW,OR];refine Uj (h vs (.refl _) ?_);rw[Ul] at h2
  match vs,h2 with
  |[],_=>exact .nil
  |[_],_=>exact List.pairwise_singleton ..
 ·rw[Ur h2,Ur h2];have h2':2<=vs.length:=by rw[Ul] at h2;lia
  obtain⟨κ,hkk,hcc⟩:=hk h2' _ kp;refine Uc (hkk _ ?_);have mem:∀p∈(pairsOf vs).toList,p.1=p.2/\p.1∈vs:=fun p hp=>by rw[pairsOf_toList] at hp;exact mem_zip_self hp
  have run:=yG (E:=E) (κ:=κ) (S:=fun p=>p.1∈vs) (LT:=fun p q=>LT p.1 q.1) (st:=SortSt.mk' κ (pairsOf vs) #[] 7 none) (Q:=fun _ st'=>(arrOf st').toList.Perm (pairsOf vs).toList/\failedOf st'=none/\(arrOf st').toList.Pairwise (leO fun p q=>LT p.1 q.1))
   ⟨fun x y hx hy=>o.asym _ _ hx hy,fun x y z hx hy hz=>o.trans _ _ _ hx hy hz⟩ (zd4 hcc) rfl rfl rfl (fun j x e=>(mem x (y9 e)).2) fun st' e1 e2 e3=>⟨e1,e2,e3⟩
  refine Uc (OK run ?_ fun _ _ e=>e);rintro⟨⟨⟩,st'⟩ s' ⟨rfl,hp,hf,hso⟩;dsimp only at hp hf hso ⊢;refine Uc (seqEpoch_at ho6 rfl ?_)
  have out:(arrOf st').map (·.2)=((arrOf st').toList.map (·.1)).toArray:=by
   apply Array.toList_inj.mp;rw[toList_map,List.toList_toArray];exact NG fun p hp'=>(mem p (hp.mem_iff.mp hp')).1.symm
  have pm:((arrOf st').toList.map (·.1)).Perm vs:=by
   have:=hp.map (·.1);rw[pairsOf_toList,List.map_fst_zip (Ub _)] at this;exact this
  rw[out];refine Uc (Tw ho6 rfl ?_ (UI _) (hsz2:=by rw[Ul,pm.length_eq];lia));rw[hf];simp only[NP,UW,OR];refine Uj (h _ pm ?_);exact RG.mpr hso
theorem zc6 {vs:List Value}{LT:Value->Value->Bool}{l:Addr}{Q:Value->Shared->Prop}(hl:s.heap.IsList l vs.toArray)(hz:vs.length<=1000000)(o:Ord (·∈vs) LT)(hk:2<=vs.length->∀h',(∀b o,s.heap.get? b=some o->h'.get? b=some o)->∃κ:SortKind,
 (∀Q:SortKind->Shared->Prop,Q κ { s with heap:=h' }->wpAny (model prog w) A.in1.in1 (keyKind' vs.toArray) Q (fun _ _=>False) { s with heap:=h' })/\
 ∀u v (C:Bool->Shared->Prop),u∈vs->v∈vs->C (LT u v) { s with heap:=h' }->wpAny (model prog w) A.in1.in1 (keyLt' κ u v) C (fun _ _=>False) { s with heap:=h' }) (h:∀out:List Value,out.Perm vs->out.Pairwise (leO LT)->Q (.ref (s.heap.objs.size+1)) { s with heap:=sortedAll s.heap vs out.toArray }) :
 wpAny (model prog w) A (call (.builtin "sorted") [.ref l]) Q E s:=by
 have hsl:sizeLine=16777216:=UV;refine PySem.Calls.call_function_entry kind_sorted plain_sorted entry_sorted (args_sorted1 _) ?_;unfold Builtin.«sorted»;refine Uc (m:=checkCount "sorted" 1 1 _) (Uj ?_);refine Uc (collect_list hl ?_ (by lia));refine Uc (OS ?_ (by lia))
 have hsz:((s.heap.push (seqObj "list" #[] 0)).update s.heap.objs.size (Obj.mapSeq (·++vs.toArray))).objs.size=s.heap.objs.size+1:=by
  rw[RY,size_push']
 have hoL:(((s.heap.push (seqObj "list" #[] 0)).update s.heap.objs.size (Obj.mapSeq (·++vs.toArray))).push (seqObj "list" vs.toArray 0)).get? (s.heap.objs.size+1)=some (seqObj "list" vs.toArray 0):=by
  rw[<-hsz];exact UC _ rfl
 have keep:∀b o,s.heap.get? b=some o->(((s.heap.push (seqObj "list" #[] 0)).update s.heap.objs.size (Obj.mapSeq (·++vs.toArray))).push (seqObj "list" vs.toArray 0)).get? b=some o:=fun b o q=>by
  have hlt:b<s.heap.objs.size:=UG q;rw[Rq _ _ _ (by rw[hsz];exact UO (Rh hlt)),Heap.get?_update_ne _ _ _ _ (UO hlt),Rq _ _ _ (UO hlt)];exact q
 show wpAny _ _ _ _ _ { s with heap:=((s.heap.push (seqObj "list" #[] 0)).update s.heap.objs.size (Obj.mapSeq (·++vs.toArray))).push (seqObj "list" vs.toArray 0) };rw[hsz];refine Uc (Oc (RX slot_list_sort ⟨_,hoL,rfl⟩ entry_list_sort (zfH (s:={ s with heap:=((s.heap.push (seqObj "list" #[] 0)).update s.heap.objs.size (Obj.mapSeq (·++vs.toArray))).push (seqObj "list" vs.toArray 0) }) hoL hz o (fun hh2 h3 hk3=>?_) fun out p1 p2=>⟨_,rfl,?_⟩) (args_list_sort _)))
 ·obtain⟨κ,k1,k2⟩:=hk hh2 h3 fun b o e=>hk3 b o (UO (Rh (UG e))) (keep b o e);exact⟨κ,fun Q q=>OK (k1 Q q) (fun _ _ x=>x) fun _ _ x=>x.elim,k2⟩
 ·exact Uj ⟨_,rfl,h out p1 p2⟩
theorem Paired.flip {α β:Type}{F:α->β->Prop}:∀{l:List α}{m:List β},Paired F l m->Paired (fun b a=>F a b) m l
 |_,_,.nil=>.nil
 |_,_,.cons r t=>.cons r (Paired.flip t)
theorem Paired.permL {F:α->β->Prop}{l l':List α}{m:List β}(p:l'.Perm l)(h:Paired F l m):∃m',Paired F l' m'/\m'.Perm m:=by
 obtain⟨m',h1,h2⟩:=Paired.perm p (Paired.flip h);exact⟨m',Paired.flip h1,h2⟩
theorem Paired.memR {α β:Type}{F:α->β->Prop}:∀{l:List α}{m:List β}{y:β},Paired F l m->y∈m->∃x,x∈l/\F x y
 |_,_,y,.cons (a:=a) r t,h=>by
  rcases Uw.mp h with rfl|h
  ·exact⟨a,Ug ..,r⟩
  ·obtain⟨x,h1,h2⟩:=Paired.memR t h;exact⟨x,Uh _ h1,h2⟩
theorem Paired.memL {F:α->β->Prop}{l:List α}{m:List β}{x:α}(p:Paired F l m)(h:x∈l):∃y,y∈m/\F x y:=Paired.memR (Paired.flip p) h
structure SCode (X:Cx)(VC:Hp->V->List Int->Prop)(HC:Heap->Value->List Int->Prop):Prop where
 down:∀{pins:List (Addr×Obj)}{σ:St}{H:Hp}{s:Shared}{v:V}{u:Value}{c:List Int},Inv X pins σ H s->VC H v c->RelV v u->HC s.heap u c
 uniq:∀{h:Heap}{u:Value}{c c':List Int},HC h u c->HC h u c'->c=c'
 keep:∀{h h':Heap}{u:Value}{c:List Int},(∀b o,h.get? b=some o->h'.get? b=some o)->HC h u c->HC h' u c
 asks:∀{s:Shared}{vs:List Value},(∀v∈vs,∃c,HC s.heap v c)->2<=vs.length->∃κ:SortKind,(∀Q:SortKind->Shared->Prop,Q κ s->wpAny (model X.prog X.w) X.A.in1.in1 (keyKind' vs.toArray) Q (fun _ _=>False) s)/\
  ∀u v c c' (C:Bool->Shared->Prop),HC s.heap u c->HC s.heap v c'->C (HT.lexLt c c') s->wpAny (model X.prog X.w) X.A.in1.in1 (keyLt' κ u v) C (fun _ _=>False) s
def ziA (K:Frag)(VC:Hp->V->List Int->Prop):List V->Hp->VK->Prop:=fun xs H Q=>∃(l:Addr) (vs:List V) (cs:List (List Int)),xs=[.ref l]/\SqL K H l vs/\Paired (VC H) vs cs/\vs.length<=1000000/\
 ∀(q:Addr) (ws:List V) (ds:List (List Int)),H q=none->ws.Perm vs->Paired (VC H) ws ds->ds.Perm cs->ds.Pairwise leC->Q (.ref q) (upd H q (.lst ws))
theorem ke (hK:X.K=K)(sc:SCode X VC HC):jq X (.builtin "sorted") (ziA K VC):=by
 subst hK;intro pins s σ H xs us Q I rv h;obtain⟨l,vs,cs,rfl,hl,hc,hz,q⟩:=h;obtain⟨u,rfl,ru⟩:=vals1 rv;obtain rfl:u=Value.ref l:=ru;obtain⟨its,r,p,_⟩:=I.list hl;have hlen:its.length=vs.length:=(Vals.length r).symm
 have hcode:∀u∈its,∃c,HC s.heap u c:=fun u hu=>by
  obtain⟨v,hv,rvu⟩:=Paired.memR r hu;obtain⟨c,_,hc'⟩:=Paired.memL hc hv;exact⟨c,sc.down I hc' rvu⟩
 obtain⟨cf,hcf⟩:∃cf:Value->List Int,∀u∈its,HC s.heap u (cf u):=by
  classical
  refine⟨fun u=>if h:∃c,HC s.heap u c then h.choose else[],fun u hu=>?_⟩;have h:=hcode u hu;dsimp only;rw[dif_pos h];exact h.choose_spec
 refine zc6 (vs:=its) (LT:=fun u v=>HT.lexLt (cf u) (cf v)) p.isList (by lia) ⟨fun x y _ _ h=>gm _ _ h,fun x y z _ _ _ h1 h2=>zbt _ _ _ h1 h2⟩ (fun h2 h' hk=>?_) fun out p1 p2=>?_
 ·obtain⟨κ,k1,k2⟩:=sc.asks (s:={ s with heap:=h' }) (vs:=its) (fun v hv=>⟨_,sc.keep hk (hcf v hv)⟩) h2;exact⟨κ,k1,fun u v C hu hv hC=>k2 u v _ _ C (sc.keep hk (hcf u hu)) (sc.keep hk (hcf v hv)) hC⟩
 ·obtain⟨ws,w1,w2⟩:=Paired.perm p1 r;obtain⟨ds,d1,d2⟩:=Paired.permL w2 hc;obtain⟨e,he⟩:=sortedAll_at s.heap its out.toArray;have hsl:sizeLine=16777216:=UV
  have dmap:∀(ws:List V) (out:List Value) (ds:List (List Int)),(∀u∈out,u∈its)->Paired RelV ws out->Paired (VC H) ws ds->ds=out.map cf:=by
   intro ws
   induction ws with
   |nil=>
    intro out ds _ a b
    cases a;cases b;rfl
   |cons v ws ih=>
    intro out ds hm a b
    cases a with
    |cons a1 a2=>
     cases b with
     |cons b1 b2=>
      rw[UL,ih _ _ (fun u hu=>hm u (Uh _ hu)) a2 b2,sc.uniq (sc.down I b1 a1) (hcf _ (hm _ (Ug ..)))]
  have ed:=dmap ws out ds (fun u hu=>p1.mem_iff.mp hu) w1 d1;refine⟨.ref (s.heap.objs.size+1),_,I.laid (a:=s.heap.objs.size+1) (o:=.lst ws) (t':=s.toks) (fun b ob e'=>sortedAll_old e') (R3 _) ⟨by rw[w2.length_eq];lia,out,e,w1,he⟩,rfl,q _ ws ds (I.hok.fresh (R3 _)) w2 d1 d2 ?_⟩;rw[ed];exact RG.mpr p2
def VI (_:Hp)(v:V)(c:List Int):Prop:=∃i,v=.int i/\c=[i]
def CI (_:Heap)(u:Value)(c:List Int):Prop:=∃i t,u=Value.int i t/\c=[i]
theorem zdo (i j:Int):HT.lexLt [i] [j]=decide (i<j):=by
 rw[HT.lexLt_cons,HT.lexLt_nil_nil];split
 ·next e=>subst e;simp
 ·rfl
theorem scI (X:Cx):SCode X VI CI where
 down:=fun _ h r=>by
  obtain⟨i,rfl,rfl⟩:=h;obtain⟨t,rfl⟩:=vq r;exact⟨i,t,rfl,rfl⟩
 uniq:=fun h h'=>by
  obtain⟨i,t,rfl,rfl⟩:=h;obtain⟨j,t',e,rfl⟩:=h'
  cases e;rfl
 keep:=fun _ h=>h
 asks:=fun {s vs} hv h2=>by
  have hi:IntsAre vs (vs.map numOf):=intsAre_map vs fun v hv'=>by
   obtain⟨c,i,t,rfl,_⟩:=hv v hv';exact⟨i,t,rfl⟩
  refine⟨oneType',fun Q q=>?_,fun u v c c' C hu hv hC=>?_⟩
  ·match vs,h2,hi with
   |v₁::v₂::rest,_,hi=>
    rw[keyKind_ints hi];exact Uj q
  ·obtain⟨i,t,rfl,rfl⟩:=hu;obtain⟨j,t',rfl,rfl⟩:=hv;rw[keyLt'_oneType];rw[zdo] at hC;exact oneLt_int hC
theorem vT {p:Addr}{its:Array Value}(k:∀b o,h.get? b=some o->h'.get? b=some o)(x:IsTup h p its):IsTup h' p its:=by
 obtain⟨o,e,r⟩:=x;exact⟨o,k _ _ e,r⟩
theorem zaw {h:Heap}:∀{vs:List Value},(∀v∈vs,∃p n t x,v=Value.ref p/\IsTup h p #[.int n t,x])->∃fs,PySem.W.KatTups h vs fs/\fs.length=vs.length/\∀f∈fs,∃(n:Int) (t:Tok),f=.int n t
 |[],_=>⟨[],.nil,rfl,fun f hf=>by simp at hf⟩
 |v::vs,hv=>by
  obtain⟨fs,h1,h2,h3⟩:=zaw (vs:=vs) fun u hu=>hv u (Uh _ hu);obtain⟨p,n,t,x,rfl,o,ho,hc,k,hd⟩:=hv _ Ug;refine⟨.int n t::fs,.cons ho hc hd rfl h1,by simp[h2],fun f hf=>?_⟩;rcases Uw.mp hf with rfl|hf
  ·exact⟨_,_,rfl⟩
  ·exact h3 f hf
theorem zd9 {vs:List Value}(hv:∀v∈vs,∃p n t x,v=Value.ref p/\IsTup s.heap p #[.int n t,x])(h2:2<=vs.length)(Q:SortKind->Shared->Prop)(q:Q (tuples' true) s):wpAny (model prog w) A (keyKind' vs.toArray) Q (fun _ _=>False) s:=by
 obtain⟨fs,k1,k2,k3⟩:=zaw hv;refine PySem.W.kat_kind (T:=.type "int") k1 (by lia) (fun f hf=>?_) (by rfl) ?_
 ·obtain⟨n,t,rfl⟩:=k3 f hf;exact .now
 ·have e:(Value.type "int" != Value.type "tuple")=true:=by decide
  rw[e];exact q
def VN (K:Frag)(H:Hp)(v:V)(c:List Int):Prop:=∃p q n a b,v=.ref p/\SqT K H p [.int n,.ref q]/\SqT K H q [.int a,.int b]/\c=[n,a,b]
def CN (h:Heap)(u:Value)(c:List Int):Prop:=∃p q n a b t t1 t2,u=Value.ref p/\IsTup h p #[.int n t,.ref q]/\IsTup h q #[.int a t1,.int b t2]/\c=[n,a,b]
theorem zhp {x y p q:Addr}{n m a1 b1 a2 b2:Int}{t u:Tok}{C:Bool->Shared->Prop}(hu:A.units<cLine)(hx:IsTup s.heap x #[.int n t,.ref p])(hy:IsTup s.heap y #[.int m u,.ref q])(hp:IsTup s.heap p #[.int a1 t1,.int b1 t2])(hq:IsTup s.heap q #[.int a2 u1,.int b2 u2])(hC:C (HT.lexLt [n,a1,b1] [m,a2,b2]) s):wpAny (model prog w) A (keyLt' (tuples' true) (.ref x) (.ref y)) C E s:=by
 obtain⟨ox,hox,_,n',dx⟩:=hx;obtain⟨oy,hoy,_,k',dy⟩:=hy;rw[HT.lexLt_cons] at hC;refine kat_lt hox dx hoy dy ?_;refine T9 (wpAny_eqBool_int ?_)
 by_cases e1:n=m
 ·rw[UN.mpr e1];rw[Uv e1] at hC;refine Nl (T9 (pairEq (A:=A) hp hq hu prog w _ _ ?_))
  cases e2:(a1==a2&&b1==b2) with
  |true=>
   have⟨c1,c2⟩:=(OQ _ _).mp e2;have c1:=UN.mp c1;have c2:=UN.mp c2;subst c1;subst c2;rw[wk] at hC;exact Nl (kat_nil hC)
  |false=>
   refine Nv (kat_one _ _ ?_);have i1:IntsAre (#[Value.int a1 t1,Value.int b1 t2]:Array Value).toList [a1,b1]:=.cons _ _ (.cons _ _ .nil);have i2:IntsAre (#[Value.int a2 u1,Value.int b2 u2]:Array Value).toList [a2,b2]:=.cons _ _ (.cons _ _ .nil);exact HT.lt_tupInts hp hq i1 i2 hu hC
 ·rw[U4.mpr e1];rw[Ur e1] at hC;exact Nv (oneLt_int hC)
theorem scN (hK:X.K=K)(hu:X.A.units+64<cLine):SCode X (VN K) CN where
 down:=fun {pins σ H s v u c} I h r=>by
  subst hK;obtain⟨p,q,n,a,b,rfl,hp,hq,rfl⟩:=h
  cases r;obtain⟨t1,t2,hq'⟩:=zbf I hq;obtain⟨its,rv,it,_⟩:=I.tuple hp
  cases rv with
  |cons r1 r2=>
   cases r2 with
   |cons r3 r4=>
    cases r4;obtain⟨t,rfl⟩:=vq r1
    cases r3;exact⟨p,q,n,a,b,t,t1,t2,rfl,it,hq',rfl⟩
 uniq:=fun h h'=>by
  obtain⟨p,q,n,a,b,t,t1,t2,rfl,hp,hq,rfl⟩:=h;obtain⟨p',q',n',a',b',t',t1',t2',e,hp',hq',rfl⟩:=h'
  cases e;have e:=qR hp hp';simp only[Ru,OA,Rp,NJ] at e;obtain⟨⟨e1,_⟩,e2,_⟩:=e;subst e2;have e:=qR hq hq';simp only[Ru,OA,Rp] at e;rw[e1,e.1.1,e.2.1.1]
 keep:=fun k h=>by
  obtain⟨p,q,n,a,b,t,t1,t2,rfl,hp,hq,rfl⟩:=h;exact⟨p,q,n,a,b,t,t1,t2,rfl,vT k hp,vT k hq,rfl⟩
 asks:=fun {s vs} hv h2=>⟨tuples' true,zd9 (fun v hv'=>by
  obtain⟨c,p,q,n,a,b,t,t1,t2,rfl,hp,_⟩:=hv v hv';exact⟨p,n,t,_,rfl,hp⟩) h2,fun u v c c' C hu' hv hC=>by
  obtain⟨p,q,n,a,b,t,t1,t2,rfl,hp,hq,rfl⟩:=hu';obtain⟨p',q',n',a',b',t',t1',t2',rfl,hp',hq',rfl⟩:=hv;exact zhp (A:=X.A.in1.in1) (show X.A.units+1+1<cLine by lia) hp hp' hq hq' hC⟩
theorem SCode.of {VC':Hp->V->List Int->Prop}(sc:SCode X VC HC)(h:∀H v c,VC' H v c->VC H v c):SCode X VC' HC:=
 ⟨fun I c r=>sc.down I (h _ _ _ c) r,sc.uniq,sc.keep,sc.asks⟩
def VPt (H:Hp)(v:V)(c:List Int):Prop:=∃p a b,v=.ref p/\H p=some (.tup [.int a,.int b])/\c=[a,b]
def VNt (H:Hp)(v:V)(c:List Int):Prop:=∃p q n a b,v=.ref p/\H p=some (.tup [.int n,.ref q])/\H q=some (.tup [.int a,.int b])/\c=[n,a,b]
theorem zjJ (hK:X.K=K)(hu:X.A.units+64<cLine):SCode X VNt CN:=(scN hK hu).of fun H v c ⟨p,q,n,a,b,h1,h2,h3,h4⟩=>⟨p,q,n,a,b,h1,SqT.of h2,SqT.of h3,h4⟩
theorem gQ {α β:Type}{F:α->β->Prop}:∀{l:List α}{m:List β},l.length=m.length->(∀(i:Nat) (y:β),m[i]?=some y->∃x,l[i]?=some x/\F x y)->Paired F l m
 |[],[],_,_=>.nil
 |[],_::_,h,_=>by simp at h
 |_::_,[],h,_=>by simp at h
 |a::l,b::m,h,k=>by
  refine .cons ?_ (gQ (by simpa using h) fun i y e=>?_)
  ·obtain⟨x,e,r⟩:=k 0 b rfl;simp at e;subst e;exact r
  ·have:=k (i+1) y (by simpa using e);simpa using this
theorem Paired.atR {F:α->β->Prop}{l:List α}{m:List β}{i:Nat}{y:β}(h:Paired F l m)(e:m[i]?=some y):∃x,l[i]?=some x/\F x y:=by
 obtain⟨x,h1,h2⟩:=Paired.at' (Paired.flip h) e;exact⟨x,h1,h2⟩
def wM (f:Addr)(fd:FuncData):HO:=.ext fun h=>∃o,h.get? f=some o/\o.data=.func fd
def jH (c:Addr)(qual:Str):HO:=.ext fun h=>h.CodeRec (.ref c) qual
theorem zhr (I:Inv X pins σ H s)(h:H f=some (wM f fd)):∃o,s.heap.get? f=some o/\o.data=.func fd:=
 (show ObjOk X.prog X.w H s.heap f (wM f fd) from I.hok f _ h).1
theorem ziY {base:Heap}{k:Nat}{f c:Addr}(S:zt N ps scope)(len:∀vs H Q E,sp vs H Q E->vs.length=ps.length)(hH:∀vs H Q E,sp vs H Q E->H f=some (wM f (kla_fn name qual params body scope [] pm (.ref c) ct))/\H c=some (jH c qual))(hbody:∀(A:Around) (outer:List Env) (s:Shared) (H:Hp) (vs:List V) (Q:VK) (E:XK),Room k (A.deeper (envOfC qual scope s.heap.objs.size f (.ref c)))->sp vs H Q E->
 ∃t,PE (zbC CX0 P w K mg base N qual scope f (.ref c) A outer s H E) body t/\t (start N vs) H Q) :
 FnOk P w K mg base CX0 (k+1) f (kla_fn name qual params body scope [] pm (.ref c) ct) ps sp:=by
 refine⟨len,fun A outer s H args us vs Q E hr e0 hb r hsp=>?_⟩;have hl:=len _ _ _ _ hsp;obtain⟨hf,hc⟩:=hH _ _ _ _ hsp;have lim:s.heap.NoLimit:=e0.mod.nolimit.keeps fun b o e=>(e0.bs b o e).1
 have hkind:∀y∈ps.zip us,scope.names.lookup y.1=some .local∨(scope.names.lookup y.1=some .cell/\((cellsFrom (s.heap.objs.size+1) scope.names []).lookup y.1).isSome=true):=fun⟨n,v⟩ hy=>by
  rcases S.par n (RU hy).1 with q|q
  ·exact .inl q
  ·exact .inr ⟨q,Ng _ _ _ (.inl q)⟩
 obtain⟨o,ho,hd⟩:=(show ObjOk P w H s.heap f (wM f _) from e0.hok f _ hf).1;have hcd:=(show ObjOk P w H s.heap c (jH c qual) from e0.hok c _ hc).1;refine kla_callFunE hr.depth ho hd S.co S.gen rfl hcd (hb _ _ _ _ ?_);refine wpAny_newFunctionEnv_cells S.kind hkind fun env he s1 x=>?_;subst he;refine⟨lim.keeps x.toInCall.keep,kla_codeExpr ?_⟩;obtain⟨t,ht,hq⟩:=hbody A outer s H vs Q E (hr.deeper _) hsp;have I:Inv (zbC CX0 P w K mg base N qual scope f (.ref c) A outer s H E) [] (start N vs) H s1:=zaz S hr.hd e0 hl r x;refine OK (ht [] s1 (start N vs) H _ I hq) (fun u s' hs=>?_) fun e s' hs=>hs;obtain⟨v,H',J,rv,q⟩:=hs;exact⟨v,H',J.os,J.bare,J.base,J.hok,rv,q⟩
theorem FnOk.ex {base:Heap}{CX:CXT}{k:Nat}{f:Addr}{ι:Type}{sp:ι->Sp}(F:∀i,FnOk P w K mg base CX k f fd ps (sp i)):FnOk P w K mg base CX k f fd ps (fun vs H Q E=>∃i,sp i vs H Q E):=
 ⟨fun vs H Q E ⟨i,h⟩=>(F i).len vs H Q E h,fun A outer s H args us vs Q E hr e0 hb r ⟨i,h⟩=>(F i).run A outer s H args us vs Q E hr e0 hb r h⟩
theorem zhG {base:Heap}{k:Nat}{f:Addr}{y:Str}(F:FnOk P w K mg base CX0 k f fd [y] sp)(hH:∀vs H Q E,sp vs H Q E->H f=some (wM f fd))(hb:Binds K fd [y] []):zgO P w K mg base f k sp:=by
 intro X h1 h2 h3 h4 h5 hr i x p pos e t hN hv hd hcd ha hs pins s σ H Q I h;subst h1 h2 h3 h4 h5;obtain⟨hi,h⟩:=h;refine O6 (thn (zdf hN hv hd hcd pins s σ H (fun v H'=>v=.ref f/\H'=H) I ⟨_,hi,rfl,rfl⟩) fun u s0 ⟨v,H',I0,r0,e1,e2⟩=>?_);subst e1 e2;obtain rfl:u=Value.ref f:=r0;rw[hs];refine PySem.W.callWith_of rfl PySem.W.keeps_F (PySem.Calls.evalArgs_plain ?_);have ha':=ha pos pins s0 σ H' _ I0 h;rw[hs] at ha';refine thn ha' fun us s1 ⟨vs,H1,I1,r,q⟩=>⟨?_,?_⟩
 ·obtain⟨⟨oc,od,dt,sl⟩,ho,hdt⟩:=zhr I1 (hH _ _ _ _ q);simp only at hdt;subst hdt;exact⟨_,_,_,_,ho⟩
 ·exact za6 F hr hb .nil zp I1 r (by rw[Ol];exact q)
def pO (mg:Str->Option Value)(base:Heap):Prop:=∃bm o,mg "__builtins__"=some (.ref bm)/\bm≠builtinsNs/\bm≠mainGlobals/\base.get? bm=some o/\o.cls=.type "module"/\o.dict=some builtinsNs/\o.data=.plain
abbrev pR (pos:Pos)(c:Addr):Array Value:=#[rawInt pos.line,rawInt pos.col,.ref c]
def zin (P:Addr)(pos:Pos)(qual:Str)(fd:Addr->Value->FuncData):TE:=fun σ H Q=>
 (H P=some (.tbl #[])/\∀f c ct,H f=none->H c=none->f≠c->Q (.ref f) (upd (upd (upd H P (.tbl (pR pos c))) c (jH c qual)) f (wM f (fd c ct))))∨
 ∃c,H P=some (.tbl (pR pos c))/\H c=some (jH c qual)/\∀f ct,H f=none->Q (.ref f) (upd H f (wM f (fd c ct)))
theorem zbd {c P:Addr}(hcode:X.env.code=.ref c)(hC:codeHdIn X.K c P=true)(hB:pO X.mg X.base)(hcl:closureFor scope X.env=pure cl)(hdef:defaultsOf params X.env=([],[]):=by rfl) :
 PE X (.Lambda params body scope pos) (zin P pos (X.env.qual++"<lambda>") fun c' ct=>kla_fn "<lambda>" (X.env.qual++"<lambda>") params body scope cl ((X.mg "__name__").getD .none) (.ref c') ct):=by
 intro pins s σ H Q I h;refine PySem.W.kla_eval hdef ?_
 have hP:∀ps,H P=some (.tbl ps)->s.heap.get? P=some (tabObj ps)/\mainGlobals≠P/\s.heap.BuiltinsAt X.mg P:=fun ps hp=>by
  have e:s.heap.get? P=some (tabObj ps):=I.hok P _ hp
  have nb:∀b o,X.base.get? b=some o->b≠P:=fun b o q z=>by
   subst z;rw[(I.bs b o q).2] at hp;cases hp
  obtain⟨og,eg,ep,g1,g2,_⟩:=I.mod.glob;obtain⟨bm,o,b1,b2,b3,b4,b5⟩:=hB;exact⟨e,nb _ _ g1,bm,o,b1,b2,b3,nb _ _ b4,I.bk _ _ b4,b5⟩
 have hg:s.heap.Ns mainGlobals X.mg:=I.mod.glob.keeps I.bk;have C:CodeHd s.heap c P:=codeHd_of_K I.kIn hC;rcases h with⟨hp,qq⟩|⟨c',hp,hc',qq⟩
 ·obtain⟨e,ng,bb⟩:=hP _ hp;refine PySem.W.kla_makeFunction (mg:=X.mg) hcl I.ok.glob hg hcode C e True.intro rfl ng bb fun c' ct h' tk hx hge hlt hrec htb=>?_;have hcn:H c'=none:=I.hok.fresh hge;have hfn:H h'.objs.size=none:=I.hok.fresh (RS (Om hge hlt));have nfc:h'.objs.size≠c':=Nk hlt;have nPc:P≠c':=zf hp hcn;have nPf:P≠h'.objs.size:=zf hp hfn;have hkp:∀b o,b≠P->s.heap.get? b=some o->(h'.push (kla_obj "<lambda>" (X.env.qual++"<lambda>") params body scope cl ((X.mg "__name__").getD .none) c' ct)).get? b=some o:=fun b o n q=>Ui _ (hx b o n q);have neP:∀b u,H b=some u->(∀ps,u≠.tbl ps)->b≠P:=fun b u q n z=>by subst z;rw[hp] at q;cases q;exact n _ rfl
  have at':∀b,b≠P->b≠c'->b≠h'.objs.size->(upd (upd (upd H P (.tbl (pR pos c'))) c' (jH c' (X.env.qual++"<lambda>"))) h'.objs.size (wM h'.objs.size (kla_fn "<lambda>" (X.env.qual++"<lambda>") params body scope cl ((X.mg "__name__").getD .none) (.ref c') ct))) b=H b:=fun b n1 n2 n3=>by
   rw[zi n3,zi n2,zi n1]
  have ofs:∀b u,H b=some u->b≠c'/\b≠h'.objs.size:=fun b u q=>⟨zf q hcn,zf q hfn⟩
  have hPn:(h'.push (kla_obj "<lambda>" (X.env.qual++"<lambda>") params body scope cl ((X.mg "__name__").getD .none) c' ct)).get? P=some (tabObj (pR pos c')):=by
   refine Ui _ ?_;rw[htb];rfl
  have old:∀b o,s.heap.get? b=some o->b≠c'/\b≠h'.objs.size:=fun b o q=>by
   have:=UG q;exact⟨UO (UP this hge),UO (O5 (UP this hge) hlt)⟩
  have un:Un X.fs [] H (upd (upd (upd H P (.tbl (pR pos c'))) c' (jH c' (X.env.qual++"<lambda>"))) h'.objs.size (wM h'.objs.size (kla_fn "<lambda>" (X.env.qual++"<lambda>") params body scope cl ((X.mg "__name__").getD .none) (.ref c') ct))) s.heap (h'.push (kla_obj "<lambda>" (X.env.qual++"<lambda>") params body scope cl ((X.mg "__name__").getD .none) c' ct)):=by
   have nP:∀b,H b=none->b≠P:=fun b n z=>by subst z;rw[n] at hp;cases hp
   refine⟨fun b o q n _ _=>hkp b o (nP b n) q,fun b o q n _ _=>⟨o.slots,hkp b o (nP b n) q⟩,fun b o q n _=>by rw[at' b (nP b n) (old b o q).1 (old b o q).2];exact n,fun b o q _=>?_,fun b xs q=>?_,fun b o u q=>?_,fun b ps q=>?_⟩
   ·by_cases z:b=P
    ·subst z;exact⟨_,hPn⟩
    ·exact⟨o,hkp b o z q⟩
   ·rw[at' b (neP b _ q (by intro ps z;cases z)) (ofs b _ q).1 (ofs b _ q).2];exact q
   ·rw[at' b (neP b _ q (by intro ps z;cases z)) (ofs b _ q).1 (ofs b _ q).2];exact q
   ·by_cases z:b=P
    ·subst z;rw[hp] at q;cases q;refine⟨pR pos c',?_⟩;rw[zi (ofs b _ hp).2,zi (ofs b _ hp).1,zd];simp
    ·exact⟨#[],by rw[at' b z (ofs b _ q).1 (ofs b _ q).2,q];simp⟩
  have hok:HOk X.prog X.w (upd (upd (upd H P (.tbl (pR pos c'))) c' (jH c' (X.env.qual++"<lambda>"))) h'.objs.size (wM h'.objs.size (kla_fn "<lambda>" (X.env.qual++"<lambda>") params body scope cl ((X.mg "__name__").getD .none) (.ref c') ct))) (h'.push (kla_obj "<lambda>" (X.env.qual++"<lambda>") params body scope cl ((X.mg "__name__").getD .none) c' ct)):=by
   intro b u hb
   by_cases z1:b=h'.objs.size
   ·subst z1;rw[zd] at hb
    cases hb;exact⟨⟨_,UC _ rfl,rfl⟩,⟨_,UC _ rfl⟩,fun h1 h2 ⟨o,e1,e2⟩ k=>⟨o,k _ e1,e2⟩⟩
   ·rw[zi z1] at hb
    by_cases z2:b=c'
    ·subst z2;rw[zd] at hb
     cases hb;have hrec':(h'.push (kla_obj "<lambda>" (X.env.qual++"<lambda>") params body scope cl ((X.mg "__name__").getD .none) b ct)).CodeRec (.ref b) (X.env.qual++"<lambda>"):=hrec.push _;refine⟨hrec',?_,fun h1 h2 ⟨c2,o,vs,t,e1,e2,e3⟩ k=>?_⟩
     ·obtain⟨c2,o,vs,t,e1,e2,_⟩:=hrec'
      cases e1;exact⟨o,e2⟩
     ·cases e1;exact⟨b,o,vs,t,rfl,k _ e2,e3⟩
    ·rw[zi z2] at hb
     by_cases z3:b=P
     ·subst z3;rw[zd] at hb
      cases hb;exact hPn
     ·rw[zi z3] at hb;refine(I.hok b u hb).stay (fun d v hd e=>hkp d v ?_ e) (fun d hd=>?_) fun d xs hd=>?_
      ·rcases hd with rfl|hd
       ·exact z3
       ·exact neP d _ hd (by intro ps z;cases z)
      ·rw[at' d (neP d _ hd (by intro ps z;cases z)) (ofs d _ hd).1 (ofs d _ hd).2];exact hd
      ·rw[at' d (neP d _ hd (by intro ps z;cases z)) (ofs d _ hd).1 (ofs d _ hd).2];exact hd
  exact⟨.ref h'.objs.size,_,I.un un hok,rfl,qq _ c' ct hfn hcn nfc⟩
 ·obtain⟨e,ng,bb⟩:=hP _ hp;refine PySem.W.kla_makeFunctionHit (mg:=X.mg) (cv:=.ref c') hcl I.ok.glob hg hcode C e True.intro (by simp[codeAmong,rawInt]) bb fun ct h' tk hk hsz=>?_;refine⟨.ref h'.objs.size,_,I.laid (a:=h'.objs.size) (o:=wM h'.objs.size (kla_fn "<lambda>" (X.env.qual++"<lambda>") params body scope cl ((X.mg "__name__").getD .none) (.ref c') ct)) (t':=tk) (fun b u e=>Ui _ (hk b u e)) hsz ⟨⟨_,UC _ rfl,rfl⟩,⟨_,UC _ rfl⟩,fun h1 h2 ⟨o,e1,e2⟩ k=>⟨o,k _ e1,e2⟩⟩,rfl,qq _ ct (I.hok.fresh hsz)⟩
theorem ziL {c:Addr}{P:Addr}(hcode:X.env.code=.ref c)(hC:codeHdIn X.K c P=true)(hB:pO X.mg X.base)(hcl:closureFor scope X.env=pure []:=by rfl)(hdef:defaultsOf params X.env=([],[]):=by rfl) :
 PE X (.Lambda params body scope pos) (zin P pos (X.env.qual++"<lambda>") fun c' ct=>kla_fn "<lambda>" (X.env.qual++"<lambda>") params body scope [] ((X.mg "__name__").getD .none) (.ref c') ct):=
 zbd hcode hC hB hcl hdef
structure FunC (K:Frag)(x qual:Str)(st:Stmt)(f:Addr)(fd:FuncData)(c P:Addr):Prop where
 ex:∃(oc:Value) (od:Option Addr) (kV doc pm:Value) (an:Option Addr) (ct:Value) (osl:Array (Option Value)),
  fd=fnOf x qual (xr st) (qS st) (zh st) .none kV doc pm an (.ref c) ct/\K.lookup f=some ⟨oc,od,.func fd,osl⟩/\codeIn K (.ref c) qual=true
 kp:keepIn K (.ref f)=true
 hd:codeHdIn K c P=true
theorem FunC.ok {P0:Program}{base:Heap}{x:Str}{st:Stmt}{f:Addr}{c P:Addr}{k:Nat}(F:FunC K x qual st f fd c P)(S:zt N ps (zh st))(len:∀vs H Q E,sp vs H Q E->vs.length=ps.length)(hbody:∀(A:Around) (outer:List Env) (s:Shared) (H:Hp) (vs:List V) (Q:VK) (E:XK),Room k (A.deeper (envOfC qual (zh st) s.heap.objs.size f (.ref c)))->sp vs H Q E->
 ∃t,PSs (zbC CX0 P0 w K mg base N qual (zh st) f (.ref c) A outer s H E).nox (qS st) t/\t { nx:=fun _ H'=>Q .non H',rt:=Q } (start N vs) H):FnOk P0 w K mg base CX0 (k+1) f fd ps sp:=by
 obtain⟨oc,od,kV,doc,pm,an,ct,osl,rfl,lk,hcd⟩:=F.ex;refine zia lk hcd S len fun A outer s H vs Q E hr hsp=>?_;obtain⟨t,h,q⟩:=hbody A outer s H vs Q E hr hsp;exact⟨t,h.nox,q⟩
def zkf (tabs:List Addr)(H:Hp):Prop:=∀b,H b=none∨(∃o xs,H b=some (.frz o (.lst xs)))∨(b∈tabs/\H b=some (.tbl #[]))
theorem zeW {mb:Str->Option Value}{k:Nat}{fa a:Addr}{x:Str}{s₁:Shared}{vs:List Value}{tabs:List Addr}(KX:K.In s₁.heap)(hns:s₁.heap.Ns mainGlobals mg)(hb:s₁.heap.Ns builtinsNs mb)(hbb:∀x:Str,x≠"__name__"->mb x=bootBuiltins x)(hlim:s₁.heap.NoLimit)(hg:s₁.gens = #[])(hB:pO mg s₁.heap)(hT:∀P∈tabs,s₁.heap.get? P=some (tabObj #[])/\isCodeTable s₁.heap P/\K.lookup P=none)(ha:s₁.heap.get? a=some { cls:=.type "list",data:=.seq vs.toArray })(hi:IntsAre vs ns)(hl:ns.length<=sizeLine)(hr:Room k callerA)(F:∀base:Heap,K.In base->base.Ns mainGlobals mg->pO mg base->FnOk P w K mg base CX0 k fa fd [x] sp)(hbind:∀(s:Shared) (u:Value),BindsTo s fd ⟨[u],[]⟩ [(x,u)])(hsp:∀H:Hp,SqL K H a (ns.map V.int)->(∀P∈tabs,H P=some (.tbl #[]))->sp [.ref a] H (fun v _=>v=.bl true) fun _ _ _=>False) :
 codeAny (model P w) callerA (.call (.ref fa) ⟨[.ref a],[]⟩) (fun r s'=>r=.ok (.ret (.bool true))/\OldK s₁.heap s'.heap/\s'.os=s₁.os/\AllBare s'.gens) s₁:=by
 have rv:=zai hi;have lenV:=hi.length
 have naT:a∉tabs:=fun z=>by
  have e:=(hT a z).1;rw[ha] at e;cases e
 have core:∀H:Hp,zkf tabs H->SqL K H a (ns.map V.int)->HOk P w H s₁.heap->(∀b,H b≠none->b=a∨b∈tabs)->(H a≠none->K.lookup a=none)->(∀P∈tabs,H P=some (.tbl #[]))->
  codeAny (model P w) callerA (.call (.ref fa) ⟨[.ref a],[]⟩) (fun r s'=>r=.ok (.ret (.bool true))/\OldK s₁.heap s'.heap/\s'.os=s₁.os/\AllBare s'.gens) s₁:=by
  intro H hO hS hok hA hK hH;have base_of:∀{b:Addr}{o:Obj},s₁.heap.get? b=some o->H b=none->(p7 s₁.heap H).get? b=some o:=fun e n=>zgl e n
  have noT:∀{b:Addr}{o:Obj},s₁.heap.get? b=some o->o.cls≠.none->o.cls≠.type "list"->H b=none:=fun {b o} e h1 h2=>by
   cases q:H b with
   |none=>rfl
   |some u=>
    rcases hA b (by rw[q];simp) with e'|e'
    ·subst e';rw[ha] at e;cases e;exact absurd rfl h2
    ·have:=(hT b e').1;rw[e] at this;cases this;exact absurd rfl h1
  have noA:∀{b:Addr}{o:Obj}{es:Array DictEntry}{ep:Nat},s₁.heap.get? b=some o->o.data=.dict es ep->H b=none:=fun {b o es ep} e d=>by
   cases q:H b with
   |none=>rfl
   |some u=>
    rcases hA b (by rw[q];simp) with e'|e'
    ·subst e';rw[ha] at e;cases e
     cases(show Data.seq vs.toArray _=Data.dict es ep from d)
    ·have:=(hT b e').1;rw[e] at this;cases this
     cases(show Data.fields #[]=Data.dict es ep from d)
  have nsK:∀{b:Addr}{m:Str->Option Value},s₁.heap.Ns b m->(p7 s₁.heap H).Ns b m:=fun {b m} ⟨o,es,ep,e,d,r⟩=>⟨o,es,ep,base_of e (noA e d),d,r⟩
  have hKb:K.In (p7 s₁.heap H):=fun b o e=>base_of (KX b o e) (by
   cases q:H b with
   |none=>rfl
   |some u=>
    rcases hA b (by rw[q];simp) with e'|e'
    ·subst e';rw[hK (by rw[q];simp)] at e;cases e
    ·rw[(hT b e').2.2] at e;cases e)
  have hM:Mod K mg (p7 s₁.heap H):=⟨hKb,nsK hns,⟨mb,nsK hb,hbb⟩,let ⟨mc,h1,h2⟩:=hlim;⟨mc,nsK h1,h2⟩⟩
  have hBb:pO mg (p7 s₁.heap H):=by
   obtain⟨bm,o,b1,b2,b3,b4,b5,b6⟩:=hB;exact⟨bm,o,b1,b2,b3,base_of b4 (noT b4 (by rw[b5];intro z;cases z) (by rw[b5];decide)),b5,b6⟩
  have e0:Env0 P w K mg (p7 s₁.heap H) callerA [] s₁ H:=⟨rfl,hM,fun b o e=>zhk e,Tx (ze2 _ _),trivial,fun b hb=>absurd (show b∈([]:List Addr) from hb) (by simp),hok,.of_eq hg⟩;refine RO ((F _ hKb (nsK hns) hBb).run callerA [] s₁ H ⟨[.ref a],[]⟩ [.ref a] [.ref a] _ _ hr e0 (hbind s₁ (.ref a)) (.cons rfl .nil) (hsp H hS hH)) fun r s' h=>?_
  cases r with
  |error e=>exact False.elim h
  |ok fl=>
   cases fl with
   |next=>exact False.elim h
   |brk=>exact False.elim h
   |cont=>exact False.elim h
   |ret u=>
    obtain⟨v,H',os,bare,un,hok',r',q⟩:=h;have q':v=.bl true:=q;subst q';obtain rfl:u=Value.bool true:=r';refine⟨rfl,⟨fun b o e=>?_,fun b o e=>un.there b o e (by simp)⟩,os,bare⟩;rcases hO b with z|⟨ob,xs,z⟩|⟨hm,z⟩
    ·exact .inl (un.keep b o e z (by intro z;exact absurd (show b∈([]:List Addr) from z) (by simp)) (by simp))
    ·have z2:=un.frzs b ob _ z;obtain⟨e1,_⟩:=hok b _ z;obtain⟨e2,_⟩:=hok' b _ z2;rw[e] at e1;cases e1;exact .inl e2
    ·obtain⟨more,z2⟩:=un.tbls b _ z;have e1:=(hT b hm).1;rw[e] at e1;cases e1;have e2:=hok' b _ z2;exact .inr (.inl ⟨(hT b hm).2.1,rfl,#[],more,rfl,e2⟩)
 cases hk:K.lookup a with
 |some o=>
  have e:=KX a o hk;rw[ha] at e
  cases e;refine core (fun b=>if b∈tabs then some (.tbl #[]) else none) (fun b=>?_) (.inr ⟨_,vs.toArray,_,hk,rfl,rfl,rfl,by rw[Ul,lenV];exact hl,by simpa using rv,fun x hx=>by obtain⟨i,_,rfl⟩:=U6.mp hx;rfl⟩) (fun b u z=>?_) (fun b z=>?_) (fun z=>absurd (Ur naT) z) fun P hP=>Uv hP
  ·by_cases hb:b∈tabs
   ·exact .inr (.inr ⟨hb,Uv hb⟩)
   ·exact .inl (Ur hb)
  ·by_cases hb:b∈tabs
   ·have z':=(Uv hb).symm.trans z
    cases z';exact(hT b hb).1
   ·have z':=(Ur hb).symm.trans z
    cases z'
  ·by_cases hb:b∈tabs
   ·exact .inr hb
   ·exact absurd (Ur hb) z
 |none=>
  refine core (fun b=>if b=a then some (.frz { cls:=.type "list",data:=.seq vs.toArray } (.lst (ns.map V.int))) else if b∈tabs then some (.tbl #[]) else none) (fun b=>?_) (.inl (.inr ⟨{ cls:=.type "list",data:=.seq vs.toArray },Uv rfl⟩)) (fun b u z=>?_) (fun b z=>?_) (fun _=>hk) fun P hP=>?_
  ·by_cases hb:b=a
   ·exact .inr (.inl ⟨_,_,Uv hb⟩)
   ·by_cases hb2:b∈tabs
    ·exact .inr (.inr ⟨hb2,(Ur hb).trans (Uv hb2)⟩)
    ·exact .inl ((Ur hb).trans (Ur hb2))
  ·by_cases hb:b=a
   ·have z':=(Uv hb).symm.trans z
    cases z';subst hb;exact⟨ha,by rw[Ud];exact hl,vs,_,rv,ha⟩
   ·by_cases hb2:b∈tabs
    ·have z':=((Ur hb).trans (Uv hb2)).symm.trans z
     cases z';exact(hT b hb2).1
    ·have z':=((Ur hb).trans (Ur hb2)).symm.trans z
     cases z'
  ·by_cases hb:b=a
   ·exact .inl hb
   ·by_cases hb2:b∈tabs
    ·exact .inr hb2
    ·exact absurd ((Ur hb).trans (Ur hb2)) z
  ·have n:P≠a:=fun z=>naT (z▸hP);exact(Ur n).trans (Uv hP)
theorem walk_ofT {l:PySem.W.OpenLaw}{k:Nat}{q:Program}{loose:List Str}{XP:(Str->Option Value)->Heap->Prop}{YP:World->Heap->Prop}{d:DefRec}{K:Params->Frag}{sp:World->List Addr->Sp}{x:Str}{ts:List Addr}(hn:l.most=some n)(hn2:n<=sizeLine)(hdf:d.params.defaults=[])(hr:Room k callerA)(hY:∀(w:World) (h:Heap),YP w h->(K w.params).In h/\∀P∈ts,h.get? P=some (tabObj #[]))(F:∀(w:World) (mg:Str->Option Value) (fa:Addr) (h:Heap),(K w.params).In h->h.Ns mainGlobals mg->mg d.name=some (.ref fa)->
 ∃(fd:FuncData) (tabs:List Addr),(∀P∈tabs,P∈ts/\(K w.params).lookup P=none/\∃c,codeHdIn (K w.params) c P=true)/\(∀(s:Shared) (u:Value),BindsTo s fd ⟨[u],[]⟩ [(x,u)])/\
  (∀base:Heap,(K w.params).In base->base.Ns mainGlobals mg->pO mg base->FnOk l.prog w (K w.params) mg base CX0 k fa fd [x] (sp w tabs))/\
  ∀(H:Hp) (a:Addr) (ns:List Int),ns.length<=n->SqL (K w.params) H a (ns.map V.int)->(∀P∈tabs,H P=some (.tbl #[]))->sp w tabs [.ref a] H (fun v _=>v=.bl true) fun _ _ _=>False) :
 PySem.W.WalkO q loose XP YP l.row.toRowW d [] (fun f vs=>PySem.call f vs):=by
 refine Att.attach_call hn hdf fun w s₀ s₁ mg mb fa o pm cd doc a vs ns G Y ho hd hcd hmg hobj hints hlen hg=>?_;obtain⟨KX,TX⟩:=hY w _ Y;obtain⟨fd,tabs,hT,hb,hF,hsp⟩:=F w mg fa _ KX G.T.g hmg;obtain⟨bm,ob,b1,b2,b3,b4,b5,b6⟩:=G.T.bmain
 have hbG:bm≠mainGlobals:=fun q=>by
  obtain⟨o,es,ep,e,hd,_⟩:=G.T.g;rw[q,e] at b3;cases b3;rw[hd] at b6;cases b6
 refine zeW (tabs:=tabs) KX G.T.g G.T.b G.T.builtins G.T.nolimit hg ⟨bm,ob,b1,b2,hbG,b3,b4,b5,b6⟩ (fun P hP=>?_) hobj hints (UU hlen hn2) hr hF hb fun H hS hH=>hsp H a ns hlen hS hH;obtain⟨h1,h2,c,h3⟩:=hT P hP;have e:=TX P h1;exact⟨e,((codeHd_of_K KX h3).tab e).isCodeTable,h2⟩
theorem zdK:∀{ws:List Str}{its:List Value},Vals (ws.map V.str) its->∃l:List (Str×Tok),its=strValues l/\l.map (·.1)=ws
 |[],_,.nil=>⟨[],rfl,rfl⟩
 |w::ws,_,.cons r t=>by
  obtain⟨l,rfl,rfl⟩:=zdK t;obtain⟨k,rfl⟩:=r;exact⟨(w,k)::l,rfl,rfl⟩
theorem zah:∀(l:List (Str×Tok)),Vals ((l.map (·.1)).map V.str) (strValues l)
 |[]=>.nil
 |(w,k)::l=>.cons ⟨k,rfl⟩ (zah l)
def rJoin:V->List V->Hp->VK->Prop:=fun x vs H Q=>∃(sep:Str) (p:Addr) (ws:List Str),x=.str sep/\vs=[.ref p]/\H p=some (.lst (ws.map V.str))/\(ws.map (·.length)).sum+ws.length*sep.length<=sizeLine/\Q (.str (Str.join sep ws)) H
theorem gj:MtM X "str.join" rJoin:=by
 intro pins s σ H x vs v us Q I rx rv h;obtain⟨sep,p,ws,rfl,rfl,hp,hz,q⟩:=h;obtain⟨t,rfl⟩:=rx;obtain⟨u,rfl,ru⟩:=rv.one;obtain rfl:u=Value.ref p:=ru;obtain⟨z,its,n,r,hl,e⟩:=I.lstM hp;obtain⟨l,rfl,hw⟩:=zdK r;refine SC.join (l:=l) (texts:=ws) ⟨_,e,rfl,_,rfl⟩ hw ?_ fun t' k=>?_
 ·unfold JoinOk;rw[Bool.not_eq_true',StrLaws.joinTotal];unfold Builtin.Str.tooLong;exact UE (by lia)
 ·refine⟨.str (Str.join sep ws),H,I.tok _,⟨t',?_⟩,q⟩;show Value.str (Builtin.Str.glued sep ws) t'=_;rw[StrLaws.glued_eq_join]
theorem ka (sep:Str)(h1:1<=sep.length):∀ws:List Str,ws.length<=(Str.join sep ws).length+1
 |[]=>by simp
 |[w]=>by simp
 |w::y::r=>by
  have e:Str.join sep (w::y::r)=w++sep++Str.join sep (y::r):=rfl;have ih:=ka sep h1 (y::r);rw[e,Nm,Nm];simp only[Uk] at ih ⊢;lia
def ziz:V->List V->Hp->VK->Prop:=fun x vs H Q=>∃(z y:Str),x=.str z/\vs=[.str y]/\1<=y.length/\z.length<=1000000/\∀p,H p=none->Q (.ref p) (upd H p (.lst ((Txt.split z y).map V.str)))
theorem zcx:MtM X "str.split" ziz:=by
 intro pins s σ H x vs v us Q I rx rv h;obtain⟨z,y,rfl,rfl,hy,hz,q⟩:=h;obtain⟨t,rfl⟩:=rx;obtain⟨w,rfl,ru⟩:=rv.one;obtain⟨u,rfl⟩:=ru;have hsl:sizeLine=16777216:=UV;have hy0:(y.length==0)=false:=by rw[U4];lia
 have hcnt:(Txt.split z y).length<=z.length+1:=by
  have:=ka y hy (Txt.split z y);rw[StrLaws.join_split] at this;exact this
 have fin:∀(l:List (Str×Tok)) (k:Nat),l.map (·.1)=Txt.split z y->EP X pins σ Q (.ref s.heap.objs.size) { s with heap:=s.heap.push { cls:=.type "list",data:=.seq (strValues l).toArray },toks:=k }:=by
  intro l k e;have hv:Vals ((Txt.split z y).map V.str) (strValues l):=by rw[<-e];exact zah l
  exact⟨.ref s.heap.objs.size,_,I.lnew hv (by rw[Ud];lia),rfl,q _ I.fresh⟩
 cases h1:(decide (z.length<y.length)||decide (Builtin.Str.strKind z<Builtin.Str.strKind y))
 ·cases hf:(Builtin.Str.occurrences z y 0 z.length (z.length+1)).isEmpty
  ·have es:Txt.split z y=Builtin.Str.partsBetween z (Builtin.Str.occurrences z y 0 z.length (z.length+1)) y.length:=(Ur (Nz h1)).trans (Ur (Nz hf));refine Nj RZ (typeIs_str _ _ _) F.entry_str_split (F.args_str_split_2 _ _) (meets_str_split_sep z y t u h1 hy0 hf (by lia) (by rw[<-es];lia)) ?_;show wants _ _ _ { s with toks:=_,heap:=s.heap.push { cls:=.type "list",data:=.seq (strsFrom s.toks (Builtin.Str.partsBetween z (Builtin.Str.occurrences z y 0 z.length (z.length+1)) y.length)).toArray } };rw[strsFrom_eq];exact fin (numbered s.toks _) _ ((numbered_texts _ _).trans es.symm)
  ·exact Nj RZ (typeIs_str _ _ _) F.entry_str_split (F.args_str_split_2 _ _) (meets_str_split_not_found z y t u h1 hy0 hf)
    (fin [(z,t)] _ ((Ur (Nz h1)).trans (Uv hf)).symm)
 ·exact Nj RZ (typeIs_str _ _ _) F.entry_str_split (F.args_str_split_2 _ _) (meets_str_split_cannot_occur z y t u h1)
   (fin [(z,t)] _ (Uv h1).symm)
def zkx:V->List V->Hp->VK->Prop:=fun x vs H Q=>∃(z y:Str),x=.str z/\vs=[.str y]/\z.length<=sizeLine/\Q (.str (Txt.removeprefix z y)) H
theorem wD:MtM X "str.removeprefix" zkx:=by
 intro pins s σ H x vs v us Q I rx rv h;obtain⟨z,y,rfl,rfl,hz,q⟩:=h;obtain⟨t,rfl⟩:=rx;obtain⟨w,rfl,ru⟩:=rv.one;obtain⟨u,rfl⟩:=ru;exact SC.removeprefix (fun t' k=>⟨.str _,H,I.tok _,⟨t',rfl⟩,q⟩) hz
theorem xF:jq X (.type "int") (fun xs H Q=>∃(x:Str) (n:Int),xs=[.str x]/\PySem.intText? x=some n/\x.length<=640/\Q (.int n) H):=by
 intro pins s σ H xs us Q I r h;obtain⟨x,n,rfl,hn,hl,q⟩:=h;obtain⟨u,rfl,t,rfl⟩:=vals1 r;exact PySem.W.KIN.call_text hn hl ⟨.int n,H,I.tok _,⟨_,rfl⟩,q⟩
def zkG:List V->Hp->VK->Prop:=fun xs H Q=>∃(p:Addr) (bs:List Bool),xs=[.ref p]/\H p=some (.lst (bs.map V.bl))/\Q (.bl (bs.all id)) H
theorem range_all:∀(bs:List Bool),(List.range bs.length).all (fun i=>bs.getD i false)=bs.all id:=by
 intro bs;rw[O8,OE,OE];constructor
 ·intro h b hb;obtain⟨i,hi,e⟩:=OB hb;have:=h i (OD.mpr hi);simpa[getD,Ua hi,e] using this
 ·intro h i hi;have hi':=OD.mp hi;have:=h _ (Of hi');simpa[getD,Ua hi'] using this
theorem zff {bs:List Bool}(r:Vals (bs.map V.bl) its){i:Nat}{v:Value}(e:its.toArray[i]?=some v):v=.bool (bs.getD i false):=by
 have e':its[i]?=some v:=by simpa using e
 have hi:i<its.length:=(Ue.mp e').1;have hl:=r.length;rw[Ud] at hl
 have hx:(bs.map V.bl)[i]?=some (V.bl (bs.getD i false)):=by
  rw[Up,Ua (show i<bs.length by lia)];simp[getD,Ua (show i<bs.length by lia)]
 obtain⟨u,hu,ru⟩:=r.get hx;rw[e'] at hu
 cases hu;exact ru
theorem zcP (hc:X.calm=true):jq X (.builtin "all") zkG:=by
 intro pins s σ H xs us Q I r h;obtain⟨p,bs,rfl,hp,q⟩:=h;obtain⟨u,rfl,ru⟩:=vals1 r;obtain rfl:u=Value.ref p:=ru;obtain⟨z,its,n,rv,hl,e⟩:=I.lstM hp;rw[Ud] at hl;have hlt:=UG e;have il:s.heap.IsList p its.toArray:=⟨_,e,rfl,_,rfl⟩;refine call_all_walk (Oy il ?_);refine⟨_,_,_,_,_,_,fun i=>bs.getD i false,rfl,Walks.list (A:=X.A.in1) (I.ok.hd hc) _ p (UO hlt) its.toArray,⟨⟨_,UC _ rfl,rfl,rfl⟩,il.at fun o e=>Ui _ e⟩,?_,fun h' tk k=>?_⟩
 ·intro i v s Q E hP hQ;rw[zff rv hP];exact Ox hQ
 ·refine⟨.bl (bs.all id),H,I.kept fun c o e=>k c o (by simp only[Uz];exact UO (UG e)) (Ui _ e),?_,q⟩;show Value.bool _=Value.bool _;rw[Ul,<-hl,range_all]
def Its (z:Str):It:=⟨fun i _=>i<z.cps.size,fun i H x H'=>H'=H/\∃c,z.cps[i]?=some c/\x=.str ⟨#[c]⟩,fun i _=>z.cps.size<=i⟩
theorem zbW {it:Addr}{t:Tok}{ty:String}(hn:["enumerate","zip","dict_itemiterator","dict_reverseitemiterator","odict_iterator","itertools.zip_longest","itertools.pairwise"].contains ty=false)(W:∀A':Around,A'.handled=none->Walks P w A' it [it] [it] z.cps.size (SignAt z) (fun i h=>h.IsStrIter it ty z t i))(hslf:∀(A:Around) (i:Nat) (s:Shared) (Q:Value->Shared->Prop) (E:Value->Shared->Prop),s.heap.IsStrIter it ty z t i->Q (.ref it) s->wpAny (model P w) A (pyIter (.ref it)) Q E s) :
 Turn P w K tg (Its z) [it] it (fun i h=>i<=z.cps.size/\h.IsStrIter it ty z t i) where
 mem:=by simp
 obj:=fun i h st b hb=>by
  have e:b=it:=by simpa using hb
  subst e;obtain⟨_,o,e,c,d⟩:=st;exact⟨o,e,fun v z=>by rw[d] at z;cases z⟩
 keep:=fun i h h' st k=>⟨st.1,by obtain⟨_,o,e,r⟩:=st;exact⟨o,k it (by simp) o e,r⟩⟩
 item:=by
  intro X hP hw hK hc i pins s σ H E I hf st hg;subst hP hw hK;obtain⟨f0,f1,f2,f3,f4,f5⟩:=hf it (by simp);refine(W X.A (I.ok.hd hc)).item i s _ _ hg st.2 fun v h' tk hv st' kk=>?_;obtain⟨c,u,hcx,rfl⟩:=hv;have I1:Inv X pins σ H { s with heap:=h',toks:=tk }:=I.turned (fun b o hb e=>kk b o (by simpa using hb) e) f0 f1 f3 f4 f5;obtain⟨o,e,c',d⟩:=id st';exact⟨_,rfl,dX (s:={ s with heap:=h',toks:=tk }) e c' d hn ⟨.str ⟨#[c]⟩,H,I1,⟨u,rfl⟩,⟨rfl,c,hcx,rfl⟩,⟨hg,st'⟩,fun b hb=>(hf b hb).1⟩⟩
 done:=by
  intro X hP hw hK hc i pins s σ H E I hf st hg;subst hP hw hK;obtain⟨f0,f1,f2,f3,f4,f5⟩:=hf it (by simp);have e:i=z.cps.size:=Nat.le_antisymm st.1 hg;subst e;exact(W X.A (I.ok.hd hc)).done s _ _ st.2 fun h' tk kk=>⟨rfl,I.turned (t':=tk) (fun b o hb e=>kk b o (by simpa using hb) e) f0 f1 f3 f4 f5⟩
 self:=fun A i s Q E st h=>hslf A i s Q E st.2 h
def zkJ (te:TE):TI:=fun σ H R=>te σ H fun x H1=>∃z,x=.str z/\R (Its z) H1
theorem zfW {o:Expr}(ho:PE X o to):PI X tg o (zkJ to):=by
 intro pins s σ H R I h;refine thn (ho pins s σ H _ I h) fun v s1 ⟨x,H1,I1,r1,z,ex,q1⟩=>?_;subst ex;obtain⟨t,rfl⟩:=r1
 have fp:∀b∈[s1.heap.objs.size],j9 X pins H1 b:=fun b hb=>by
  have e:=Uz.mp hb;subst e;exact I1.fpOk (Ub _) (I1.hok.fresh (Ub _))
 cases ha:z.cps.all (·<128)
 ·exact wpAny_pyIter_wide ha ⟨_,[_],_,Its z,H1,rfl,I1.kept (t':=s1.toks) fun b o e=>Ui _ e,zbW (ty:="str_iterator") (by decide) (fun A' hA=>Walks.strWide hA _ z t) (fun _ _ _ _ _ st h=>wpAny_pyIter_striter_wide st h),⟨UI _,_,UC _ rfl,rfl,rfl⟩,fp,q1⟩
 ·exact wpAny_pyIter_ascii ha ⟨_,[_],_,Its z,H1,rfl,I1.kept (t':=s1.toks) fun b o e=>Ui _ e,zbW (ty:="str_ascii_iterator") (by decide) (fun A' hA=>Walks.strAscii hA _ z t) (fun _ _ _ _ _ st h=>wpAny_pyIter_striter_ascii st h),⟨UI _,_,UC _ rfl,rfl,rfl⟩,fp,q1⟩
theorem zbT {t:TT}{b:TB}{N:St->Hp->Prop}{σ:St}(Pv:Nat->St->Hp->Prop)(h0:Pv 0 σ H)(hs:∀i c σ H,z.cps[i]?=some c->Pv i σ H->g (.str ⟨#[c]⟩) σ H fun σ2 H2=>t σ2 H2 fun k H3=>if k=true then b σ2 H3 (Pv (i+1)) else Pv (i+1) σ2 H3)(hd:∀σ H,Pv z.cps.size σ H->N σ H):wI (Its z) g t b N σ H:=by
 refine⟨fun i m σ H=>m=z.cps.size-i/\i<=z.cps.size/\Pv i σ H,⟨_,rfl,UI _,h0⟩,?_⟩;rintro i m σ H ⟨rfl,hi,p⟩
 by_cases hlt:i<z.cps.size
 ·refine .inr ⟨hlt,Pv (i+1),fun σ' H' p'=>⟨_,by lia,rfl,hlt,p'⟩,fun v H' y=>?_⟩;obtain⟨rfl,c,hc,rfl⟩:=y;exact hs i c σ _ hc p
 ·have e:i=z.cps.size:=by lia
  subst e;exact .inl ⟨Ub _,hd σ H p⟩
def dig (m:Nat):List Nat:=(toDigits 10 m).map Char.toNat
def gb (n:Int):List Nat:=if n<0 then 45::dig n.natAbs else dig n.natAbs
def zy (n:Int):Str:=Str.ofString (toString n)
theorem vS (n:Int):(zy n).cps.toList=gb n:=by
 unfold zy gb dig;rw[signs_ofString,Int.toString_eq_repr,Int.repr_eq_if]
 by_cases h:0<=n
 ·rw[Uv h,Ur (by lia),Nat.toList_repr];congr 2;lia
 ·rw[Ur h,Uv (by lia)];rw[String.toList_append,Ux,Nat.toList_repr];have e:n.natAbs=(-n).toNat:=by lia
  rw[e];rfl
theorem bF (m:Nat):AllDigits (dig m):=by
 intro c hc;unfold dig at hc;obtain⟨ch,hch,e⟩:=U6.mp hc;have r:=digit_range (Nat.isDigit_of_mem_toDigits (by decide) (by decide) hch);rw[<-e];exact r
theorem d8 (m:Nat):dig m≠[]:=by
 unfold dig;intro e;have h:=toDigits_len_ge 10 m;rw[Tv.mp e] at h;exact absurd h (by decide)
theorem zeg {m k:Nat}(hk:1<=k)(h:m<10^k):(dig m).length<=k:=by
 unfold dig;rw[Ud];exact toDigits_len_pow (by decide) hk h
theorem zgv {m:Nat}(h:10<=m):dig m=dig (m/10)++[48+m%10]:=by
 unfold dig;have hm:m%10<10:=Nat.mod_lt m (by decide);have t:toDigits 10 (m/10)++toDigits 10 (m%10)=toDigits 10 (10*(m/10)+m%10):=Nat.toDigits_append_toDigits (by decide) (by lia) hm;rw[Nat.div_add_mod] at t;rw[<-t,Ux,Nat.toDigits_of_lt_base hm];have e:∀d:Nat,d<10->(Nat.digitChar d).toNat=48+d:=by decide
 rw[List.map_singleton,e _ hm]
theorem zef {m:Nat}(h:m<10):dig m=[48+m]:=by
 unfold dig;rw[Nat.toDigits_of_lt_base h];have e:∀d:Nat,d<10->(Nat.digitChar d).toNat=48+d:=by decide
 rw[List.map_singleton,e _ h]
theorem zgw (m:Nat)(h:m≠0):(dig m).head?≠some 48:=by
 induction m using Nat.strongRecOn with
 |_ m ih=>
  by_cases hm:m<10
  ·rw[zef hm];intro e;have e':48+m=48:=UK e;lia
  ·rw[zgv (by lia)];have q:=ih (m/10) (by lia) (by lia);have hn:=d8 (m/10)
   cases hd:dig (m/10) with
   |nil=>exact absurd hd hn
   |cons a r=>
    rw[hd] at q;exact q
def bu (l:List Nat):List Nat:=match l with
 |45::r=>r
 |l=>l
def vU (l:List Nat):Bool:=!(bu l).isEmpty&&(bu l).all (fun c=>decide (48<=c/\c<=57))&&(l==[48]||(bu l).head? != some 48)
theorem zcH (m:Nat):bu (dig m)=dig m:=by
 have h:=bF m
 cases e:dig m with
 |nil=>rfl
 |cons a r=>
  have ha:=h a (by rw[e];exact Ug ..);unfold bu;split
  ·rename_i r2 e2
   cases e2;lia
  ·rfl
theorem d5 (n:Int):bu (gb n)=dig n.natAbs:=by
 unfold gb
 by_cases h:n<0
 ·rw[Uv h];rfl
 ·rw[Ur h,zcH]
theorem ze0 (n:Int):vU (gb n)=true:=by
 unfold vU;rw[d5];have h1:=d8 n.natAbs;have h2:=bF n.natAbs;rw[OQ,OQ];refine⟨⟨?_,?_⟩,?_⟩
 ·cases hd:dig n.natAbs with
  |nil=>exact absurd hd h1
  |cons a r=>rfl
 ·rw[OE];intro c hc;exact Uy (h2 c hc)
 ·by_cases h0:n=0
  ·subst h0;decide
  ·have:=zgw n.natAbs (by lia);rw[or_eq_true];exact .inr (by simpa using this)
theorem zf6 {n:Int}{k:Nat}(hk:1<=k)(h:n.natAbs<10^k):(gb n).length<=k+1:=by
 have:=zeg hk h;unfold gb;split
 ·rw[Uk];lia
 ·lia
theorem z9 {n:Int}{k:Nat}(hk:1<=k)(h:n.natAbs<10^k):(zy n).length<=k+1:=by
 have e:(zy n).length=(gb n).length:=by rw[<-vS];simp[Str.length]
 rw[e];exact zf6 hk h
theorem dH {n:Int}{k:Nat}(hk:1<=k)(hk2:k<=600)(h:n.natAbs<10^k):PySem.intText? (zy n)=some n:=by
 have hl:=z9 hk h;have hv:=PySem.W.KIN.val_back n.natAbs
 by_cases hn:n<0
 ·have e:(zy n).cps.toList=45::dig n.natAbs:=by rw[vS];unfold gb;rw[Uv hn]
  rw[PySem.intText_neg e (bF _) (d8 _) (by lia)];unfold dig;rw[hv];congr 1;lia
 ·have e:(zy n).cps.toList=dig n.natAbs:=by rw[vS];unfold gb;rw[Ur hn]
  have q:=PySem.intText_digits (x:=zy n) (by rw[e];exact bF _) (by rw[e];exact d8 _) (by lia);rw[q,e];unfold dig;rw[hv];congr 1;lia
theorem zat (n:Int):32∉(zy n).cps.toList:=fun h=>(intText_free_32 n).mp h
def blank:Str:=" "
theorem blank_eq:blank=⟨#[32]⟩:=by decide
def wF:List (List Nat)->List Nat
 |[]=>[]
 |[w]=>w
 |w::y::r=>w++32::wF (y::r)
theorem yf:∀ws:List Str,(Str.join blank ws).cps.toList=wF (ws.map (·.cps.toList))
 |[]=>rfl
 |[w]=>rfl
 |w::y::r=>by
  have e:Str.join blank (w::y::r)=w++blank++Str.join blank (y::r):=rfl;have e2:blank.cps.toList=[32]:=by decide
  rw[e,Um,Um,e2,yf (y::r)];simp[wF]
theorem zaE:∀{w u A B:List Nat},32∉w->32∉u->w++32::A=u++32::B->w=u/\A=B
 |[],[],_,_,_,_,e=>⟨rfl,by simpa using e⟩
 |[],b::u,_,_,_,h2,e=>by
  simp at e;exact absurd (by rw[e.1];exact Ug ..) h2
 |a::w,[],_,_,h1,_,e=>by
  simp at e;exact absurd (by rw[e.1];exact Ug ..) h1
 |a::w,b::u,A,B,h1,h2,e=>by
  simp only[List.cons_append,OA] at e;obtain⟨e1,e2⟩:=zaE (fun h=>h1 (Uh _ h)) (fun h=>h2 (Uh _ h)) e.2;exact⟨by rw[e.1,e1],e2⟩
theorem dS:∀{ws us:List (List Nat)},(∀w∈ws,32∉w)->(∀w∈us,32∉w)->ws≠[]->us≠[]->wF ws=wF us->ws=us
 |[],_,_,_,h,_,_=>absurd rfl h
 |_,[],_,_,_,h,_=>absurd rfl h
 |[w],[u],_,_,_,_,e=>by
  have e':w=u:=e;rw[e']
 |[w],u::y::r,h1,_,_,_,e=>by
  have e':w=u++32::wF (y::r):=e;exact absurd (by rw[e'];simp) (h1 w (Uz.mpr rfl))
 |w::y::r,[u],_,h2,_,_,e=>by
  have e':w++32::wF (y::r)=u:=e;exact absurd (by rw[<-e'];simp) (h2 u (Uz.mpr rfl))
 |w::y::r,u::z::q,h1,h2,_,_,e=>by
  have e':w++32::wF (y::r)=u++32::wF (z::q):=e;obtain⟨e1,e2⟩:=zaE (h1 w (Ug ..)) (h2 u (Ug ..)) e';have:=dS (fun x hx=>h1 x (Uh _ hx)) (fun x hx=>h2 x (Uh _ hx)) (List.cons_ne_nil _ _) (List.cons_ne_nil _ _) e2;rw[e1,this]
theorem zhC {a b:List Str}(h:a.map (·.cps.toList)=b.map (·.cps.toList)):a=b:=by
 have inj:∀x y:Str,x.cps.toList=y.cps.toList->x=y:=by
  rintro⟨⟨x⟩⟩ ⟨⟨y⟩⟩ h;have h':x=y:=h;rw[h']
 induction a generalizing b with
 |nil=>cases b with
  |nil=>rfl
  |cons _ _=>cases h
 |cons x a ih=>cases b with
  |nil=>cases h
  |cons y b=>
   simp only[UL,OA] at h;rw[inj x y h.1,ih h.2]
theorem yR {ws:List Str}(hf:∀w∈ws,32∉w.cps.toList)(hne:Str.join blank ws≠Str.empty):Txt.split (Str.join blank ws) blank=ws:=by
 have hj:=StrLaws.join_split (Str.join blank ws) blank;have hfree:=StrLaws.split_free (Str.join blank ws) 32;rw[<-blank_eq] at hfree;refine zhC (dS ?_ ?_ ?_ ?_ ?_)
 ·intro w hw;obtain⟨x,hx,rfl⟩:=U6.mp hw;exact hfree x hx
 ·intro w hw;obtain⟨x,hx,rfl⟩:=U6.mp hw;exact hf x hx
 ·intro e;rw[Tv.mp e] at hj;exact hne hj.symm
 ·intro e;rw[Tv.mp e] at hne;exact hne rfl
 ·rw[<-yf,<-yf,hj]
def shown (ns:List Int):Str:=Str.join blank (ns.map zy)
theorem zcv (n:Int):1<=(zy n).length:=by
 have e:(zy n).length=(gb n).length:=by rw[<-vS];simp[Str.length]
 rw[e];have:=d8 n.natAbs;have h2:1<=(dig n.natAbs).length:=List.length_pos_iff.mpr this;unfold gb;split
 ·simp
 ·exact h2
theorem zfJ (h:ns≠[]):shown ns≠Str.empty:=by
 intro e
 cases ns with
 |nil=>exact h rfl
 |cons a r=>
  have h1:=zcv a;have l0:(Str.empty).length=0:=rfl;have l:(shown (a::r)).length=0:=by rw[e];rfl
  cases r with
  |nil=>
   have e2:shown [a]=zy a:=rfl;rw[e2] at l;lia
  |cons b r=>
   have e2:shown (a::b::r)=zy a++blank++shown (b::r):=rfl;rw[e2,Nm,Nm] at l;lia
theorem zb2 (h:ns≠[]):Txt.split (shown ns) blank=ns.map zy:=
 yR (fun w hw=>by obtain⟨n,_,rfl⟩:=U6.mp hw;exact zat n) (zfJ h)
theorem kD (hb:∀n∈ns,n.natAbs<10^15):((ns.map zy).map (·.length)).sum<=ns.length*16:=by
 induction ns with
 |nil=>simp
 |cons a r ih=>
  have h1:=z9 (k:=15) (by decide) (hb a (Ug ..));have h2:=ih fun n hn=>hb n (Uh _ hn);simp only[UL,OH,Uk];lia
theorem zeu (hb:∀n∈ns,n.natAbs<10^15):(shown ns).length<=ns.length*17:=by
 have h1:=kD hb;have h2:=StrLaws.join_length_le blank (ns.map zy);have h3:blank.length=1:=rfl;rw[h3,Ud] at h2;unfold shown;lia
theorem dc (z:Str):(Txt.removeprefix z ⟨#[45]⟩).cps.toList=bu z.cps.toList:=by
 have key:∀l:List Nat,(Txt.removeprefix ⟨l.toArray⟩ ⟨#[45]⟩).cps.toList=bu l:=by
  intro l;rw[StrLaws.removeprefix_eq];rw[StrLaws.subAt_eq];have h1:(⟨#[45]⟩:Str).length=1:=rfl;have h2:(⟨l.toArray⟩:Str).length=l.length:=by simp[Str.length]
  rw[h1,h2]
  cases l with
  |nil=>rfl
  |cons a r=>
   by_cases ha:a=45
   ·subst ha;rw[Uv (by simp)];simp[bu]
   ·rw[Ur (by simp[ha])];unfold bu;split
    ·rename_i r2 e2
     cases e2;exact absurd rfl ha
    ·rfl
 have:=key z.cps.toList;simpa using this
theorem Inv.adopt {σ:St}{t':Nat}{p:Addr}{o':HO}(I:Inv X pins σ H s)(hf:∀b∈fp,j9 X pins H b)(hp:p∈fp)(k:∀c o,c∉fp->s.heap.get? c=some o->h'.get? c=some o)(new:ObjOk X.prog X.w (upd H p o') h' p o') :
 Inv X pins σ (upd H p o') { s with heap:=h',toks:=t' }:=by
 have nfp:∀b u,H b=some u->b∉fp:=fun b u e z=>by rw[(hf b z).1] at e;cases e
 have hn:H p=none:=(hf p hp).1;have np:∀b u,H b=some u->b≠p:=fun b u e=>zf e hn
 refine I.step (g':=s.gens) (d':=s.drawn) (ch:=fp) (fun b hb=>?_) (fun b o _ _ hc e _=>k b o hc e) (fun b o _ _ hc e _=>⟨o.slots,k b o hc e⟩) (fun b o hc e n=>by rw[zi (fun z=>hc (by rw[z];exact hp))];exact n) (fun b o hc e=>⟨o,k b o hc e⟩)
  (fun b _ e=>by rw[zi (np _ _ e)];exact e) (fun b _ _ e=>by rw[zi (np _ _ e)];exact e) (fun b ps e=>⟨#[],by rw[zi (np _ _ e),e];simp⟩) (fun m hm=>?_) (fun b u e=>?_) I.bare
 ·obtain⟨f0,f1,f2,f3,f4,f5⟩:=hf b hb;exact⟨f3,f1,f4,f5⟩
 ·obtain⟨o,es,ep,ho,r⟩:=hm;exact⟨o,es,ep,k _ o (fun z=>(hf _ z).2.1 rfl) ho,r⟩
 ·by_cases hb:b=p
  ·subst hb;rw[zd] at e;cases e;exact new
  ·rw[zi hb] at e;refine(I.hok b u e).stay (fun c v hc q=>k c v ?_ q) (fun c q=>by rw[zi (np _ _ q)];exact q) fun c ys q=>by rw[zi (np _ _ q)];exact q
   rcases hc with z|z
   ·rw[z];exact nfp b u e
   ·exact nfp c _ z
theorem Vals.snoc {xs:List V}{us:List Value}{x:V}{u:Value}(h:Vals xs us)(r:RelV x u):Vals (xs++[x]) (us++[u]):=by
 induction h with
 |nil=>exact .cons r .nil
 |cons a b ih=>exact .cons a ih
theorem Paired.snoc' {F:α->β->Prop}{l:List α}{m:List β}{x:α}{y:β}(h:Paired F l m)(r:F x y):Paired F (l++[x]) (m++[y]):=by
 induction h with
 |nil=>exact .cons r .nil
 |cons a b ih=>exact .cons a ih
def pN (cs:List (List Int))(xs:List V)(ps:List (List Int×V)):Prop:=ps.Perm (cs.zip xs)/\ps.Pairwise fun a b=>leC a.1 b.1
theorem bK {RK:V->List Int->Prop}:∀{ys:List V}{ks:List Value}{cs:List (List Int)}{xs:List V}{vs:List Value},Vals ys ks->Paired RK ys cs->Vals xs vs->Paired (fun(p:List Int×V) (q:Value×Value)=>(∃y,RK y p.1/\RelV y q.1)/\RelV p.2 q.2) (cs.zip xs) (ks.zip vs)
 |_,_,_,_,_,.nil,.nil,_=>by simp;exact .nil
 |_,_,_,_,_,.cons r1 t1,.cons r2 t2,.nil=>by simp;exact .nil
 |_,_,_,_,_,.cons r1 t1,.cons r2 t2,.cons r3 t3=>by
  simp only[NM];exact .cons ⟨⟨_,r2,r1⟩,r3⟩ (bK t1 t2 t3)
theorem zeX {σ:St}{a:Addr}{xs:List V}(sc:SCode X VC HC){vs:List Value}{kA:Array Value}{ys:List V}{e:Nat}{P:PySem.Fin->Shared->Prop}(hka:kS≠a)(hz:xs.length<=1000000)(fA:j9 X pins H0 a)(fK:j9 X pins H0 kS)(I:Inv X (pins++[(kS,seqObj "list" kA e),(a,seqObj "list" #[] e1)]) σ H s)(rv:Vals xs vs)(ry:Vals ys kA.toList)(hc:Paired (VC H) ys cs)(hlen:cs.length=xs.length)(h:∀(h':Heap) (tk:Nat) (ps:List (List Int×V)),pN cs xs ps->H a=none->Inv X pins σ (upd H a (.lst (ps.map (·.2)))) { s with heap:=h',toks:=tk }->P (.done (.ret .none)) { s with heap:=h',toks:=tk }) :
 wpAny (model X.prog X.w) X.A.in1.in1 (ksk_end a false vs.toArray e1 (.ref kS) kA) P E s:=by
 have hsl:sizeLine=16777216:=UV;have nk:=I.pin (kS,seqObj "list" kA e) (by simp);have na:=I.pin (a,seqObj "list" #[] e1) (by simp);have I1:Inv X pins σ H s:=I.unpinned;have lv:vs.length=xs.length:=(Vals.length rv).symm;have ly:ys.length=cs.length:=Oa hc;have lk:kA.size=ys.length:=by rw[<-Oe];exact(Vals.length ry).symm
 have hcode:∀u∈kA.toList,∃c,HC s.heap u c:=fun u hu=>by
  obtain⟨v,hv,rvu⟩:=Paired.memR ry hu;obtain⟨c,_,hc'⟩:=Paired.memL hc hv;exact⟨c,sc.down I1 hc' rvu⟩
 obtain⟨cf,hcf⟩:∃cf:Value->List Int,∀u∈kA.toList,HC s.heap u (cf u):=by
  classical
  refine⟨fun u=>if h:∃c,HC s.heap u c then h.choose else[],fun u hu=>?_⟩;have h:=hcode u hu;dsimp only;rw[dif_pos h];exact h.choose_spec
 have hzip:(kA.zip vs.toArray).toList=kA.toList.zip vs:=ksk_zip kA vs
 have fin:∀st:SortSt,(arrOf st).toList.Perm (kA.toList.zip vs)->failedOf st=none->(arrOf st).toList.Pairwise (leO fun(p q:Keyed)=>HT.lexLt (cf p.1) (cf q.1))->wpAny (model X.prog X.w) X.A.in1.in1 (ksk_tail a false e1 (.ref kS) st) P E s:=by
  intro st hp hfl hso;obtain⟨ps,w1,w2⟩:=Paired.perm hp (bK ry hc rv)
  have sz:((arrOf st).map (·.2)).size=xs.length:=by
   rw[Array.size_map,<-Oe,hp.length_eq,length_zip,Oe];lia
  have s1:=Rx s.heap kS (Obj.mapSeq fun _=>(#[]:Array Value));have na1:(s.heap.update kS (Obj.mapSeq fun _=>(#[]:Array Value))).get? a=some (seqObj "list" #[] e1):=(s1.2 a hka.symm).trans na.1;have s2:=Rx (s.heap.update kS (Obj.mapSeq fun _=>(#[]:Array Value))) a (Obj.mapSeq fun _=>(arrOf st).map (·.2));obtain⟨c2,hc2⟩:∃c2,((s.heap.update kS (Obj.mapSeq fun _=>(#[]:Array Value))).update a (Obj.mapSeq fun _=>(arrOf st).map (·.2))).get? a=some (seqObj "list" ((arrOf st).map (·.2)) c2):=⟨_,Nr na1 fun _=>(arrOf st).map (·.2)⟩;unfold ksk_tail
  try dsimp only
  refine Uc (Tw nk.1 rfl ?_ (by rw[lk,ly,hlen];lia) (UI _));refine Uc (To ?_);refine Uc (seqEpoch_at na1 rfl ?_);simp only[UW,OR];refine Uc (Tw na1 rfl ?_ (UI _) (UU (Tx sz) (by lia)));rw[hfl];simp only[NP,UW,OR]
  have pw:ps.Pairwise fun a b=>leC a.1 b.1:=by
   have em:∀(ps:List (List Int×V)) (qs:List Keyed),(∀q∈qs,q.1∈kA.toList)->Paired (fun(p:List Int×V) (q:Value×Value)=>(∃y,VC H y p.1/\RelV y q.1)/\RelV p.2 q.2) ps qs->ps.map (·.1)=qs.map fun q=>cf q.1:=by
    intro ps qs hm pq
    induction pq with
    |nil=>rfl
    |cons r t ih=>
     obtain⟨⟨y,c1,c2⟩,_⟩:=r;rw[UL,UL,ih fun q hq=>hm q (Uh _ hq),sc.uniq (sc.down I1 c1 c2) (hcf _ (hm _ (Ug ..)))]
   have e:=em ps _ (fun q hq=>(RU (hp.mem_iff.mp hq)).1) w1;have:=(RG (f:=fun q:Keyed=>cf q.1) (R:=leC)).mpr hso;rw[<-e] at this;exact RG.mp this
  have rv2:Vals (ps.map (·.2)) ((arrOf st).map (·.2)).toList:=by
   rw[toList_map];clear pw w2 sz hc2 s2;revert w1;generalize (arrOf st).toList=qs;intro w1
   induction w1 with
   |nil=>exact .nil
   |cons r t ih=>exact .cons r.2 ih
  refine Uj (h _ _ ps ⟨w2,pw⟩ na.2.1 (I1.adopt (fp:=[kS,a]) (fun b hb=>?_) (by simp) (fun c o hc e=>?_) ⟨?_,((arrOf st).map (·.2)).toList,c2,rv2,?_⟩))
  ·simp only[Uw,Oq,RT] at hb;rcases hb with rfl|rfl
   ·exact⟨nk.2.1,fK.2⟩
   ·exact⟨na.2.1,fA.2⟩
  ·simp only[Uw,Oq,RT,not_or] at hc;exact(s2.2 c hc.2).trans ((s1.2 c hc.1).trans e)
  ·rw[Vals.length rv2,Oe,sz];lia
  ·rw[Array.toArray_toList];exact hc2
 unfold ksk_end
 try dsimp only
 simp only[UW,OR]
 by_cases h2:vs.toArray.size<2
 ·rw[Uv h2,Uv h2];refine Uc (Uj ?_);rw[StateT.run_pure];refine Uc (Uj ?_)
  try dsimp only
  refine fin (SortSt.mk' general' (kA.zip vs.toArray) #[] 7 none) (by show(kA.zip vs.toArray).toList.Perm _;rw[hzip]) rfl ?_;show(kA.zip vs.toArray).toList.Pairwise _;rw[hzip];have hl2:(kA.toList.zip vs).length<2:=by rw[length_zip];rw[Ul] at h2;lia
  match kA.toList.zip vs,hl2 with
  |[],_=>exact .nil
  |[_],_=>exact List.pairwise_singleton ..
  |_::_::_,h=>exact absurd h (by simp)
 ·rw[Ur h2,Ur h2];have h2':2<=kA.toList.length:=by rw[Ul] at h2;rw[Oe];lia
  obtain⟨κ,k1,k2⟩:=sc.asks (s:=s) (vs:=kA.toList) hcode h2';have ek:kA.toList.toArray=kA:=Array.toArray_toList;rw[ek] at k1;refine Uc (OK (k1 (fun k s'=>k=κ/\s'=s) ⟨rfl,rfl⟩) ?_ fun _ _ x=>x.elim);rintro κ' _ ⟨rfl,rfl⟩;have mem:∀p∈(kA.zip vs.toArray).toList,p.1∈kA.toList:=fun p hp=>by rw[hzip] at hp;exact(RU hp).1
  have run:=yG (E:=E) (κ:=κ') (S:=fun p=>p.1∈kA.toList) (LT:=fun(p q:Keyed)=>HT.lexLt (cf p.1) (cf q.1)) (st:=SortSt.mk' κ' (kA.zip vs.toArray) #[] 7 none) (Q:=fun _ st'=>(arrOf st').toList.Perm (kA.zip vs.toArray).toList/\failedOf st'=none/\(arrOf st').toList.Pairwise (leO fun(p q:Keyed)=>HT.lexLt (cf p.1) (cf q.1)))
   ⟨fun x y _ _ h=>gm _ _ h,fun x y z _ _ _ h1 h2=>zbt _ _ _ h1 h2⟩ (zd4 (S:=fun u=>u∈kA.toList) (LT:=fun u v=>HT.lexLt (cf u) (cf v)) fun u v C hu hv hC=>k2 u v _ _ C (hcf u hu) (hcf v hv) hC) rfl rfl rfl (fun j x e=>mem x (y9 e)) fun st' e1 e2 e3=>⟨e1,e2,e3⟩
  refine Uc (OK run ?_ fun _ _ e=>e);rintro⟨⟨⟩,st'⟩ s' ⟨rfl,hp,hf,hso⟩
  try dsimp only at hp hf hso ⊢
  rw[hzip] at hp;exact fin st' hp hf hso
def zeq (X:Cx)(σ:St)(H0:Hp)(f:Addr)(xs:List V)(cs:List (List Int))(VC:Hp->V->List Int->Prop):Prop:=
 ∀(i:Nat) (x:V) (u:Value) (c:List Int) (pins:List (Addr×Obj)) (s':Shared) (H':Hp),xs[i]?=some x->cs[i]?=some c->Inv X pins σ H' s'->RelV x u->Same H0 H'->
  wpAny (model X.prog X.w) X.A.in1.in1 (call (.ref f) [u]) (fun v s''=>∃y H2,Inv X pins σ H2 s''/\RelV y v/\VC H2 y c/\Same H' H2) (fun _ _=>False) s'
theorem zdp {σ:St}{f:Addr}{a:Addr}{xs:List V}(sc:SCode X VC HC)(vm:∀H H' v c,Same H H'->VC H v c->VC H' v c){vs:List Value}{P:PySem.Fin->Shared->Prop}(hka:kS≠a)(hz:xs.length<=1000000)(fA:j9 X pins H0 a)(fK:j9 X pins H0 kS)(hlen:cs.length=xs.length)(hkey:zeq X σ H0 f xs cs VC)(I:Inv X (pins++[(kS,seqObj "list" #[] 0),(a,seqObj "list" #[] e1)]) σ H0 s)(rv:Vals xs vs)(h:∀(s':Shared) (H':Hp) (ps:List (List Int×V)),Same H0 H'->pN cs xs ps->H' a=none->Inv X pins σ (upd H' a (.lst (ps.map (·.2)))) s'->P (.done (.ret .none)) s') :
 wpAny (model X.prog X.w) X.A.in1.in1 (ksk_rest a (.ref f) false vs.toArray e1 (.ref kS)) P E s:=by
 have hsl:sizeLine=16777216:=UV;have lv:vs.length=xs.length:=(Vals.length rv).symm;unfold ksk_rest;refine Uc (RE ?_)
 first
  |rw[List.forIn_toArray]
  |(rw[<-Array.forIn_toList];simp only[List.toList_toArray])
  |rw[<-Array.forIn_toList]
 refine Uc (ksk_fold (fun i s'=>∃(H':Hp) (kA:Array Value) (e:Nat) (ys:List V),Inv X (pins++[(kS,seqObj "list" kA e),(a,seqObj "list" #[] e1)]) σ H' s'/\Same H0 H'/\Vals ys kA.toList/\Paired (VC H') ys (cs.take i)) vs 0 s
  ⟨H0,#[],0,[],I,Same.refl _,.nil,by simp;exact .nil⟩ ?step ?done)
 case step=>
  rintro j u s' hu ⟨H',kA,e,ys,J,S1,ry,hc⟩;simp only[NU] at hc ⊢;have hj:j<vs.length:=(Ue.mp hu).1;obtain⟨x,hx,rx⟩:=Paired.atR rv hu;obtain⟨c,hcj⟩:∃c,cs[j]?=some c:=⟨_,Ua (by lia)⟩
  have lk:kA.size<=xs.length:=by
   rw[<-Oe,<-Vals.length ry,Oa hc,UA];lia
  refine Uc (wpAny_attempt (OK (hkey j x u c _ s' H' hx hcj J rx S1) (fun v s2 he=>?_) fun _ _ hF=>hF.elim));obtain⟨y,H2,J2,ryv,hy,S2⟩:=he
  try dsimp only
  have nk:=J2.pin (kS,seqObj "list" kA e) (by simp);have na:=J2.pin (a,seqObj "list" #[] e1) (by simp);have J1:Inv X pins σ H2 s2:=J2.unpinned;have s1:=Rx s2.heap kS (Obj.mapSeq (·.push v));obtain⟨c2,hc2⟩:∃c2,(s2.heap.update kS (Obj.mapSeq (·.push v))).get? kS=some (seqObj "list" (kA.push v) c2):=⟨_,Nr nk.1 (·.push v)⟩;refine Uc (Tw nk.1 rfl ?_ (by lia) (UU (Tx (Tt ..)) (by lia)));have J3:Inv X pins σ H2 { s2 with heap:=s2.heap.update kS (Obj.mapSeq (·.push v)) }:=J1.turned (t':=s2.toks) (it:=kS) (fun b o hb e=>(s1.2 b hb).trans e) nk.2.1 fK.2.1 fK.2.2.2.1 fK.2.2.2.2.1 fK.2.2.2.2.2;refine Uj ⟨rfl,H2,kA.push v,c2,ys++[y],J3.pins_of fun p hp=>?_,S1.trans S2,?_,?_⟩
  ·rcases UJ.mp hp with z|z
   ·exact J3.pin p (UF _ z)
   ·simp only[Uw,Oq,RT] at z;rcases z with rfl|rfl
    ·exact⟨hc2,nk.2.1,fK.2.1,fK.2.2.1,fun v q=>by cases q⟩
    ·exact⟨(s1.2 a hka.symm).trans na.1,na.2.1,fA.2.1,fA.2.2.1,fun v q=>by cases q⟩
  ·rw[RH];exact ry.snoc ryv
  ·rw[O7,hcj];exact Paired.snoc' (Paired.imp' (fun v c q=>vm _ _ _ _ S2 q) hc) hy
 case done=>
  rintro s' ⟨H',kA,e,ys,J,S1,ry,hc⟩;have ec:cs.take (0+vs.length)=cs:=Oi (by lia);rw[ec] at hc;have nk:=J.pin (kS,seqObj "list" kA e) (by simp)
  try dsimp only
  refine Uc (listItems_at nk.1 rfl ?_);exact zeX sc hka hz fA fK J rv ry hc hlen fun h' tk ps ko hn J'=>h _ H' ps S1 ko hn J'
def zjr (X:Cx)(arg:Value)(xs:List V)(s:Shared):Prop:=
 ∀P:List Value->Shared->Prop,(∀(hC:Heap) (tk:Nat) (vs:List Value),s.heap.objs.size<=hC.objs.size->(∀b o,s.heap.get? b=some o->hC.get? b=some o)->Vals xs vs->P vs { s with heap:=hC,toks:=tk })->wpAny (model X.prog X.w) X.A.in1 (collect arg) P X.xe s
theorem za0 {σ:St}{f:Addr}{xs:List V}(sc:SCode X VC HC)(vm:∀H H' v c,Same H H'->VC H v c->VC H' v c){arg:Value}{Q:VK}(hz:xs.length<=1000000)(hlen:cs.length=xs.length)(I:Inv X pins σ H0 s)(hcol:zjr X arg xs s)(hkey:zeq X σ H0 f xs cs VC)(h:∀(q:Addr) (ps:List (List Int×V)) (H':Hp),H0 q=none->H' q=none->Same H0 H'->pN cs xs ps->Q (.ref q) (upd H' q (.lst (ps.map (·.2))))) :
 wpAny (model X.prog X.w) X.A (call (.builtin "sorted") [arg] [(Str.ofString "key",.ref f)]) (EP X pins σ Q) X.xe s:=by
 have hsl:sizeLine=16777216:=UV;refine call_function_entry_kw kind_sorted plain_sorted entry_sorted (ksk_s1 _ _) ?_;unfold Builtin.«sorted»;refine Uc (m:=checkCount "sorted" 1 1 _) (Uj ?_);refine Uc (hcol _ fun hC tk vs hsz hk rv=>?_);have lv:vs.length=xs.length:=(Vals.length rv).symm;have I1:Inv X pins σ H0 { s with heap:=hC,toks:=tk }:=I.kept hk;refine Uc (OS ?_ (by lia));have hoL:(hC.push (seqObj "list" vs.toArray 0)).get? hC.objs.size=some (seqObj "list" vs.toArray 0):=UC _ rfl;have I2:Inv X pins σ H0 { s with heap:=hC.push (seqObj "list" vs.toArray 0),toks:=tk }:=I1.kept (t':=tk) fun b o e=>Ui _ e;have fA:j9 X pins H0 hC.objs.size:=I1.fpOk (Ub _) (I1.hok.fresh (Ub _));refine Uc (Oc (wpAny_call_entry_kw slot_list_sort ⟨_,hoL,rfl⟩ entry_list_sort ?body (ksk_l1 _ _)))
 case body=>
  show wpAny (model X.prog X.w) X.A.in1.in1 (Builtin.«list.sort» ⟨[.ref hC.objs.size],[(Str.ofString "key",.ref f)]⟩) _ _ _;rw[ksk_t1];obtain⟨e1,ho1⟩:∃e1,((hC.push (seqObj "list" vs.toArray 0)).update hC.objs.size (Obj.mapSeq fun _=>(#[]:Array Value))).get? hC.objs.size=some (seqObj "list" #[] e1):=⟨_,Nr hoL fun _=>#[]⟩;have s1:=Rx (hC.push (seqObj "list" vs.toArray 0)) hC.objs.size (Obj.mapSeq fun _=>(#[]:Array Value));have I3:Inv X pins σ H0 { s with heap:=(hC.push (seqObj "list" vs.toArray 0)).update hC.objs.size (Obj.mapSeq fun _=>(#[]:Array Value)),toks:=tk }:=Inv.turned (s:={ s with heap:=hC.push (seqObj "list" vs.toArray 0),toks:=tk }) I2 (t':=tk) (it:=hC.objs.size) (fun b o hb e=>(s1.2 b hb).trans (show(hC.push (seqObj "list" vs.toArray 0)).get? b=some o from e)) fA.1 fA.2.1 fA.2.2.2.1 fA.2.2.2.2.1 fA.2.2.2.2.2;unfold ksk_tree;refine Uc (listItems_at hoL rfl ?_);refine Uc (Tw hoL rfl ?_ (by rw[Ul];lia) (UI _));refine Uc (seqEpoch_at ho1 rfl ?_);refine Uc (wpAny_newTuple ?_ (by show vs.length<=_;lia));refine Uc (OS ?_ (UI _));refine Oc ?_;generalize hU:(hC.push (seqObj "list" vs.toArray 0)).update hC.objs.size (Obj.mapSeq fun _=>(#[]:Array Value))=U at *;have I4:Inv X pins σ H0 { s with heap:=(U.push (seqObj "tuple" vs.toArray 0)).push (seqObj "list" #[] 0),toks:=tk }:=I3.kept (t':=tk) fun b o e=>Ui _ (Ui _ e);have hkS:(U.push (seqObj "tuple" vs.toArray 0)).objs.size=U.objs.size+1:=size_push' ..;have hUs:hC.objs.size<U.objs.size:=UG ho1;have fK:j9 X pins H0 (U.push (seqObj "tuple" vs.toArray 0)).objs.size:=by rw[hkS];exact I3.fpOk (R3 _) (I3.hok.fresh (R3 _))
  have gK:((U.push (seqObj "tuple" vs.toArray 0)).push (seqObj "list" #[] 0)).get? (U.push (seqObj "tuple" vs.toArray 0)).objs.size=some (seqObj "list" #[] 0):=UC _ rfl;have gA:((U.push (seqObj "tuple" vs.toArray 0)).push (seqObj "list" #[] 0)).get? hC.objs.size=some (seqObj "list" #[] e1):=Ui _ (Ui _ ho1);refine zdp (kS:=(U.push (seqObj "tuple" vs.toArray 0)).objs.size) (xs:=xs) (cs:=cs) (H0:=H0) (pins:=pins) (σ:=σ) sc vm (by rw[hkS];exact Nk (Rh hUs)) hz fA fK hlen hkey (I4.pins_of fun p hp=>?_) rv fun s' H' ps S' ko hn J=>⟨_,rfl,Uj ⟨_,rfl,.ref hC.objs.size,_,J,rfl,h _ ps H' (I.hok.fresh hsz) hn S' ko⟩⟩;rcases UJ.mp hp with z|z
  ·exact I4.pin p (UF _ z)
  ·simp only[Uw,Oq,RT] at z;rcases z with rfl|rfl
   ·exact⟨gK,fK.1,fK.2.1,fK.2.2.1,fun v q=>by cases q⟩
   ·exact⟨gA,fA.1,fA.2.1,fA.2.2.1,fun v q=>by cases q⟩
theorem zfd {σ:St}{l:Addr}{xs:List V}(I:Inv X pins σ H s)(hl:SqL X.K H l xs)(hz:xs.length<=1000000):zjr X (.ref l) xs s:=by
 intro P h;have hsl:sizeLine=16777216:=UV;obtain⟨its,r,p,_⟩:=I.list hl;have hlen:its.length=xs.length:=(Vals.length r).symm;refine collect_list p.isList (h _ s.toks its (by rw[RY,size_push'];exact R3 _) (fun b o q=>?_) r) (by lia);have hlt:b<s.heap.objs.size:=UG q;rw[Heap.get?_update_ne _ _ _ _ (UO hlt),Rq _ _ _ (UO hlt)];exact q
theorem zgQ:∀(H H':Hp) (v:V) (c:List Int),Same H H'->VI H v c->VI H' v c:=fun _ _ _ _ _ h=>h
abbrev Cx.lam (X:Cx)(A:Around)(N:List Str)(qual:Str)(scope:Scope)(cl:List (Str×Addr))(f c:Addr)(s:Shared)(H:Hp):Cx:=
 { X with A:=A.deeper (envX qual scope s.heap.objs.size f (.ref c) cl),N:=N,s₀:=s,H₀:=H,env:=envX qual scope s.heap.objs.size f (.ref c) cl,outer:=X.stack,stack:=envX qual scope s.heap.objs.size f (.ref c) cl::X.stack,ex:=[],fn:=fun _=>false,calm:=true,pn:=[],xe:=fun _ _=>False }
theorem ziZ {y:Str}{f:Addr}{c:Addr}{σ:St}{h1:Heap}{m:Str->Option Value}{tk:Nat}{v:V}{u:Value}(I:Inv X pins σ H s)(ok:zaP X.N X.env.scope Nc cap scope)(cl1:∀x c,cl.lookup x=some c->X.env.cells.lookup x=some c)(cl2:∀x∈scope.names,x.2=.free->∃c,cl.lookup x.1=some c)(e0:Env0 X.prog X.w X.K X.mg X.base A X.stack s H)(hd:A.handled=none)(hy:scope.names.lookup y=some .local)(rv:RelV v u)(hn:h1.Ns s.heap.objs.size m)(hm:m y=some u)(hk:∀b o,s.heap.get? b=some o->h1.get? b=some o) :
 Inv (X.lam A (y::Nc) qual scope cl f c s H) [] (some v::gr cap σ) H { s with heap:=h1,toks:=tk }:=by
 have cellK:∀x c,cl.lookup x=some c->∃v,h1.IsCell c v:=fun x c e=>by
  obtain⟨v,o,ho,hd⟩:=I.cell x c (cl1 x c e);exact⟨v,o,hk c o ho,hd⟩
 have fr:H s.heap.objs.size=none:=I.hok.fresh (Ub _);have key:∀(x:Str) (k:NameKind) (l:List (Str×NameKind)),l.lookup x=some k->(x,k)∈l:=fun x k l z=>Rk z
 refine⟨⟨e0.mod,ok.kind,rfl,rfl,Ub _,fun x y c e1 e2=>I.ok.inj x y c (cl1 _ _ e1) (cl1 _ _ e2),fun x hx=>?_,(fun x c z=>nomatch z),fun _=>hd,Around.frames_deeper e0.frames,.inr ⟨rfl,rfl⟩,fun b z=>absurd (show b∈([]:List Addr) from z) (by simp),
  e0.bs,e0.bsz,fun b _ _ z=>absurd (show b∈([]:List Addr) from z) (by simp),fun b z=>absurd (show b∈([]:List Addr) from z) (by simp),e0.funs,e0.frf⟩,rfl,e0.bare,Un.kept hk,⟨m,hn,fun j x w e1 e2 e3=>?_⟩,cellK,fr,fun x c e=>I.freeC x c (cl1 x c e),(fun p hp=>nomatch hp),e0.hok.kept hk,?_⟩
 ·have hx:scope.names.lookup x=some .cell∨scope.names.lookup x=some .free:=hx;rcases hx with z|z
  ·exact absurd rfl (ok.cell _ (key _ _ _ z))
  ·exact cl2 _ (key _ _ _ z) rfl
 ·cases j with
  |zero=>
   have e1:some y=some x:=e1
   cases e1;have e2:some (some v)=some (some w):=e2
   cases e2;exact⟨u,rv,.inl ⟨hy,hm⟩⟩
  |succ j=>
   have e1:Nc[j]?=some x:=e1;have e2:(gr cap σ)[j]?=some (some w):=e2;unfold gr at e2;rw[Up] at e2
   cases hj:cap[j]? with
   |none=>rw[hj] at e2;cases e2
   |some o=>
    rw[hj] at e2
    cases o with
    |none=>cases e2
    |some i=>
     obtain⟨h1',h2⟩:=ok.cap j i x hj e1;have e2':(σ[i]?).join=some w:=UK e2
     have e4:σ[i]?=some (some w):=by
      cases hs:σ[i]? with
      |none=>rw[hs] at e2';cases e2'
      |some o=>rw[hs] at e2';exact O3 some e2'
     have hmem:=key _ _ _ h2;have hout:=ok.free _ hmem rfl;obtain⟨m',hn',hl'⟩:=I.loc;obtain⟨u',r,l⟩:=hl' i x w h1' e4 (.inr hout);refine⟨u',r,.inr ⟨.inr h2,?_⟩⟩;rcases l with⟨kl,_⟩|⟨_,c,hc,o,ho,hd⟩
     ·rcases hout with z|z
      ·rw[show X.env.kindOf x=some .cell from z] at kl;cases kl
      ·rw[show X.env.kindOf x=some .free from z] at kl;cases kl
     ·obtain⟨c',hc'⟩:=cl2 _ hmem rfl;have e':X.env.cells.lookup x=some c':=cl1 _ _ hc';rw[hc] at e'
      cases e';exact⟨c,hc',o,hk c o ho,hd⟩
 ·show(some v::gr cap σ).length=(y::Nc).length;unfold gr;rw[Uk,Ud,ok.len,Uk]
theorem zd7 {y:Str}{f:Addr}{c:Addr}{σ:St}{u:Value}{v:V}{t:TE}{Q:VK}(I:Inv X pins σ H s)(ok:zaP X.N X.env.scope Nc cap scope)(hco:scope.isCoroutine=false)(hgen:scope.isGenerator=false)(hloc:scope.names.lookup y=some .local)(cl1:∀x c,cl.lookup x=some c->X.env.cells.lookup x=some c)(cl2:∀x∈scope.names,x.2=.free->∃c,cl.lookup x.1=some c)(e0:Env0 X.prog X.w X.K X.mg X.base A X.stack s H){k:Nat}(hr:Room k A)(rv:RelV v u)(hf:H f=some (wM f (kla_fn name qual params body scope cl pm (.ref c) ct)))(hc:H c=some (jH c qual))(hb:bindArgs (kla_fn name qual params body scope cl pm (.ref c) ct) ⟨[u],[]⟩=pure [(y,u)])(ht:PE (X.lam A (y::Nc) qual scope cl f c s H) body t)(hq:t (some v::gr cap σ) H Q):wpAny (model X.prog X.w) A (call (.ref f) [u]) (EP X pins σ Q) (fun _ _=>False) s:=by
 have lim:s.heap.NoLimit:=I.nolimit;obtain⟨o,ho,hd⟩:=(show ObjOk X.prog X.w H s.heap f (wM f _) from e0.hok f _ hf).1;have hcd:=(show ObjOk X.prog X.w H s.heap c (jH c qual) from e0.hok c _ hc).1;refine wpAny_call (kla_callFunE hr.depth ho hd hco hgen rfl hcd ?_);rw[hb];refine Uj (wpAny_newFunctionEnv ok.cell (by intro z hz;rw[Uz.mp hz];exact hloc) (fun h₁ hns hsb=>?_) ok.kind);have hk:∀b o,s.heap.get? b=some o->h₁.get? b=some o:=fun b o e=>hsb.extBut b o (UO (UG e)) (Ui _ e);refine⟨lim.keeps hk,?_⟩;show codeAny _ A (.expr body (envX qual scope s.heap.objs.size f (.ref c) cl)) _ _;refine kla_codeExpr ?_;have J:=ziZ (qual:=qual) (cl:=cl) (f:=f) (c:=c) (tk:=s.toks+[(y,u)].length) I ok cl1 cl2 e0 hr.hd hloc rv hns (by simp[List.lookup]) hk;refine OK (ht [] _ _ H Q J hq) (fun u' s' hs=>?_) fun e s' hs=>False.elim hs;obtain⟨v',H',J',rv',q⟩:=hs;exact I.after ⟨v',H',J'.os,J'.bare,J'.base,J'.hok,rv',q⟩
def zjE (r:St->List V->List V->Hp->VK->Prop)(t tk:TA):TE:=fun σ H Q=>t σ H fun vs H1=>tk σ H1 fun zs H2=>r σ vs zs H2 Q
def zdD (X:Cx)(id:String)(ks:List Str)(r:St->List V->List V->Hp->VK->Prop):Prop:=
 ∀(pins:List (Addr×Obj)) (s:Shared) (σ:St) (H:Hp) (vs zs:List V) (us ws:List Value) (Q:VK),Inv X pins σ H s->Vals vs us->Vals zs ws->r σ vs zs H Q->
  wpAny (model X.prog X.w) X.A (call (.builtin id) us (ks.zip ws)) (EP X pins σ Q) X.xe s
theorem dw {x:Str}{p:Pos}{e:Expr}{es:List Expr}{kws:List Keyword}{t:TA}{tk:TA}{id:String}{ks:List Str}{r:St->List V->List V->Hp->VK->Prop}(hc:zdD X id ks r)(hg:Gl X x)(hm:X.mg x=none)(hv:bootBuiltins x=some (.builtin id))(ha:PA X (e::es) t)(hk:PK X kws tk)(hn:x≠"__name__":=by decide)(hdb:(x==("__debug__":Str))=false:=by decide)(hks:(backToKw pos (keywordEach kws X.env)).filterMap (·.1)=ks:=by rfl)(he:backTo pos (starEach (e::es) X.env)=(false,eval e X.env)::backTo pos (starEach es X.env):=by rfl)(hplain:(backTo pos (starEach (e::es) X.env)).any (·.1)=false:=by rfl)(hall:(backToKw pos (keywordEach kws X.env)).all (·.1.isSome)=true:=by rfl)(hkw:(backToKw pos (keywordEach kws X.env)).any (·.1.isNone)=false:=by rfl):PE X (.Call (.Name x p) (e::es) kws pos) (zjE r t tk):=by
 intro pins s σ H Q I h;refine O6 (xE I hg hm hv ?_ hn hdb);refine callWith_kw (thn (ha pos pins s σ H _ I h) fun us s1 ⟨vs,H1,I1,r1,q1⟩=>thn (hk pos pins s1 σ H1 _ I1 q1) fun ws s2 ⟨zs,H2,I2,r2,q2⟩=>?_) he hplain hall hkw;rw[hks];exact hc pins s2 σ H2 vs zs us ws Q I2 r1 r2 q2
def zki (X:Cx)(AR:Hp->V->List V->Prop):Prop:=∀(pins:List (Addr×Obj)) (σ:St) (H:Hp) (s:Shared) (v:V) (u:Value) (xs:List V),Inv X pins σ H s->RelV v u->AR H v xs->zjr X u xs s
def ArL (K:Frag)(H:Hp)(v:V)(xs:List V):Prop:=∃l,v=.ref l/\SqL K H l xs/\xs.length<=1000000
theorem zkV (hK:X.K=K):zki X (ArL K):=by
 subst hK;rintro pins σ H s v u xs I r ⟨l,rfl,hl,hz⟩;obtain rfl:u=Value.ref l:=r;exact zfd I hl hz
def ziB (AR:Hp->V->List V->Prop)(VC:Hp->V->List Int->Prop)(cap:List (Option Nat))(t:TE)(qual:Str)(fd:Addr->Value->FuncData):St->List V->List V->Hp->VK->Prop:=fun σ vs zs H Q=>
 ∃(v:V) (f c:Addr) (ct:Value) (xs:List V) (cs:List (List Int)),vs=[v]/\zs=[.ref f]/\AR H v xs/\H f=some (wM f (fd c ct))/\H c=some (jH c qual)/\xs.length<=1000000/\cs.length=xs.length/\
 (∀(i:Nat) x c H',xs[i]?=some x->cs[i]?=some c->Same H H'->t (some x::gr cap σ) H' fun y H2=>VC H2 y c/\Same H' H2)/\
 ∀(q:Addr) (ps:List (List Int×V)) (H':Hp),H q=none->H' q=none->Same H H'->pN cs xs ps->Q (.ref q) (upd H' q (.lst (ps.map (·.2))))
structure zig (X:Cx)(y:Str)(Nc:List Str)(cap:List (Option Nat))(params:Arguments)(scope:Scope)(cl:List (Str×Addr)):Prop where
 ok:qh X.N X.env.scope Nc cap scope=true
 co:scope.isCoroutine=false
 gen:scope.isGenerator=false
 loc:scope.names.lookup y=some .local
 cls:closureFor scope X.env=pure cl
 cl1:∀x c,cl.lookup x=some c->X.env.cells.lookup x=some c
 cl2:∀x∈scope.names,x.2=.free->∃c,cl.lookup x.1=some c
theorem zjf {AR:Hp->V->List V->Prop}{y:Str}{t:TE}{k:Nat}(ar:zki X AR)(sc:SCode X VC HC)(vm:∀H H' v c,Same H H'->VC H v c->VC H' v c)(L:zig X y Nc cap params scope cl)(hr:Room k X.A.in1.in1)(hb:∀c ct u,bindArgs (kla_fn name qual params body scope cl pm (.ref c) ct) ⟨[u],[]⟩=pure [(y,u)])(ht:∀f c s H,PE (X.lam X.A.in1.in1 (y::Nc) qual scope cl f c s H) body t) :
 zdD X "sorted" [Str.ofString "key"] (ziB AR VC cap t qual fun c ct=>kla_fn name qual params body scope cl pm (.ref c) ct):=by
 intro pins s σ H vs zs us ws Q I r1 r2 h;obtain⟨v,f,c,ct,xs,cs,rfl,rfl,ha,hf,hc,hz,hlen,hs,hq⟩:=h;obtain⟨u,rfl,ru⟩:=vals1 r1;obtain⟨d,rfl,rd⟩:=vals1 r2
 cases(show d=Value.ref f from rd);refine za0 (H0:=H) (cs:=cs) sc vm hz hlen I (ar _ _ _ _ _ _ _ I ru ha) ?_ hq;intro i x u' c' pins' s' H' hx hc' I' rx S';have:=zd7 (Q:=fun y H2=>VC H2 y c'/\Same H' H2) I' (zbI L.ok) L.co L.gen L.loc L.cl1 L.cl2 I'.env0.in1.in1 hr rx (S' _ _ hf) (S' _ _ hc) (hb c ct u') (ht f c s' H') (hs i x c' H' hx hc' S');refine OK this (fun w s'' hq'=>?_) fun _ _ z=>z;obtain⟨y,H2,J,ry,vc,S2⟩:=hq';exact⟨y,H2,J,ry,vc,S2⟩
theorem ziF {a:Expr}{ta:TE}(ha:PE X a ta)(he:∀whole,isTrue a X.env whole=(do let v <-whole;standAt a.pos;holding [v] (truthy v)):=by intro _;rfl) :
 PT X a (fun σ H Q=>ta σ H fun x H'=>∃p xs,x=.ref p/\H' p=some (.lst xs)/\Q (!xs.isEmpty) H'):=by
 intro pins s σ H Q I h;refine isTrue_plain (thn (ha pins s σ H _ I h) fun v s1 ⟨x,H1,I1,r1,p,xs,e1,e2,q1⟩=>?_) (he _);subst e1;exact zfr pins s1 σ H1 (.ref p) v Q I1 r1 ⟨_,.inl ⟨xs,SqL.of e2,rfl⟩,q1⟩
theorem zd8 {outer:Scope}(hX:env.cells=cellsFrom n outer.names [])(h:scope.names.all (fun y=>y.2 != .free||outer.names.lookup y.1==some .cell)=true) :
 ∃cl,closureFor scope env=pure cl/\(∀x c,cl.lookup x=some c->env.cells.lookup x=some c)/\∀x∈scope.names,x.2=.free->∃c,cl.lookup x.1=some c:=by
 refine ph fun x hx hf=>?_;have:=OE.mp h x hx;rw[or_eq_true] at this;rcases this with z|z
 ·rw[hf] at z;exact absurd z (by decide)
 ·rw[hX];exact pz (UN.mp z)
structure Cmp (A:Around)(s:Shared)(u v:Value)(c c':List Int):Prop where
 eq:SeqAt.EqAt A s u v (decide (c=c'))
 lt:∀(prog:Program) (w:World) (E:Value->Shared->Prop) (Q:Value->Shared->Prop),Q (.bool (HT.lexLt c c')) s->wpAny (model prog w) A (richCompare .Lt u v) Q E s
theorem bG (i:Int)(ti:Tok)(j:Int)(tj:Tok):Cmp A s (.int i ti) (.int j tj) [i] [j] where
 eq:=by
  have:=R9 (A:=A) (s:=s) i ti j tj
  have e:decide ([i]=[j])=(i==j):=by
   rw[O8,Rw,UN];simp
  rw[e];exact this
 lt:=fun prog w E Q h=>by
  rw[zdo] at h;exact HT.rcLt_int _ _ _ _ _ _ prog w E Q h
theorem yi {a:Addr}{b:Addr}{u1:Value}{u2:Value}{v1:Value}{v2:Value}{i:Int}{j:Int}{c:List Int}(ha:IsTup s.heap a #[u1,u2])(hb:IsTup s.heap b #[v1,v2])(k1:Cmp A.in1 s u1 v1 [i] [j])(k2:Cmp A.in1 s u2 v2 c c')(hu:A.units+1<cLine)(hab:a=b->i=j/\c=c'):Cmp A s (.ref a) (.ref b) (i::c) (j::c'):=by
 have dec:decide (i::c=j::c')=(decide ([i]=[j])&&decide (c=c')):=by
  rw[O8,OQ,Rw,Rw,Rw];simp
 constructor
 ·rw[dec]
  by_cases e:a=b
  ·obtain⟨e1,e2⟩:=hab e;subst e e1 e2;rw[Uy rfl,Uy rfl];exact SeqAt.EqAt.same _
  ·refine SeqAt.EqAt.of_refs e fun prog w E Q h=>?_;refine SeqAt.RcAt.tuples (e:=fun j'=>if j'=0 then decide ([i]=[j]) else decide (c=c')) (wq ha) (wq hb) (by lia) (fun j' h1 h2=>?_) prog w E Q ?_
   ·match j',h1,h2 with
    |0,_,_=>exact k1.eq
    |1,_,_=>exact k2.eq
   ·have e2:((List.range (min (#[u1,u2]:Array Value).size (#[v1,v2]:Array Value).size)).all (fun j'=>if j'=0 then decide ([i]=[j]) else decide (c=c'))&&(#[u1,u2]:Array Value).size==(#[v1,v2]:Array Value).size)=(decide ([i]=[j])&&decide (c=c')):=by
     show((List.range 2).all (fun j'=>if j'=0 then decide ([i]=[j]) else decide (c=c'))&&true)=_;simp[OY]
    rw[e2];exact h
 ·intro prog w E Q h;obtain⟨⟨cls,dd,data,sl⟩,ho,hc,n,hd⟩:=id ha;obtain⟨⟨cls2,dd2,data2,sl2⟩,ho2,hc2,n2,hd2⟩:=id hb;simp only at hc hd hc2 hd2;subst hc hd hc2 hd2
  refine NC (op:=.Lt) ⟨_,ho,rfl⟩ ⟨_,ho2,rfl⟩ slot_tuple_lt entry_tuple_lt (PySem.F.args_tuple_lt_2 _ _) (zaQ a b _ _ n n2 dd dd2 sl sl2 (HT.lexLt (i::c) (j::c')))
   ⟨ho,ho2,?_,show Value.bool (HT.lexLt (i::c) (j::c'))≠Value.notImplemented/\_ from⟨(fun x=>nomatch x),h⟩⟩ (by lia)
  show pM A.in1 s (decide (2<2)) [(u1,v1),(u2,v2)] _;rw[HT.lexLt_cons]
  by_cases e:i=j
  ·rw[Uv e];refine .eq (by have:=k1.eq;rw[Uy (by rw[e])] at this;exact this) ?_
   by_cases e2:c=c'
   ·subst e2;rw[wk];exact .eq (by have:=k2.eq;rw[Uy rfl] at this;exact this) .nil
   ·exact .ne (by have:=k2.eq;rw[UE e2] at this;exact this) k2.lt
  ·rw[Ur e];have e':¬([i]=[j]):=fun z=>e (by simpa using z);refine .ne (by have:=k1.eq;rw[UE e'] at this;exact this) fun prog w E Q hQ=>k1.lt prog w E Q ?_;rw[zdo];exact hQ
def VDt (H:Hp)(v:V)(c:List Int):Prop:=∃p q r d n a b,v=.ref p/\H p=some (.tup [.int d,.ref q])/\H q=some (.tup [.int n,.ref r])/\H r=some (.tup [.int a,.int b])/\c=[d,n,a,b]
theorem bP:∀(H H':Hp) (v:V) (c:List Int),Same H H'->VDt H v c->VDt H' v c:=fun _ _ _ _ S ⟨p,q,r,d,n,a,b,e1,e2,e3,e4,e5⟩=>⟨p,q,r,d,n,a,b,e1,S _ _ e2,S _ _ e3,S _ _ e4,e5⟩
def zfl (X:Cx)(A:Around)(VC:Hp->V->List Int->Prop):Prop:=∀(pins:List (Addr×Obj)) (σ:St) (H:Hp) (s:Shared) (x y:V) (u v:Value) (c c':List Int),Inv X pins σ H s->VC H x c->VC H y c'->RelV x u->RelV y v->Cmp A s u v c c'
theorem zhE:zfl X A VI:=by
 rintro pins σ H s x y u v c c' I ⟨i,rfl,rfl⟩ ⟨j,rfl,rfl⟩ ru rv;obtain⟨t,rfl⟩:=vq ru;obtain⟨t',rfl⟩:=vq rv;exact bG _ _ _ _
theorem xV {σ:St}{p:Addr}{x y:V}(I:Inv X pins σ H s)(h:H p=some (.tup [x,y])):∃u v,RelV x u/\RelV y v/\IsTup s.heap p #[u,v]:=by
 obtain⟨its,rv,it,_⟩:=I.tuple (SqT.of (K:=X.K) h)
 cases rv with
 |cons r1 r2=>
  cases r2 with
  |cons r3 r4=>
   cases r4;exact⟨_,_,r1,r3,it⟩
theorem zkO (hu:A.units+8<cLine):zfl X A VPt:=by
 rintro pins σ H s x y u v c c' I ⟨p,a,b,rfl,hp,rfl⟩ ⟨p',a',b',rfl,hp',rfl⟩ ru rv
 cases ru;cases rv;obtain⟨w1,w2,r1,r2,t⟩:=xV I hp;obtain⟨w3,w4,r3,r4,t'⟩:=xV I hp';refine yi t t' (zhE (X:=X) _ _ _ _ _ _ _ _ _ _ I ⟨_,rfl,rfl⟩ ⟨_,rfl,rfl⟩ r1 r3) (zhE (X:=X) _ _ _ _ _ _ _ _ _ _ I ⟨_,rfl,rfl⟩ ⟨_,rfl,rfl⟩ r2 r4) (by lia) fun e=>?_;subst e;rw[hp] at hp'
 cases hp';exact⟨rfl,rfl⟩
theorem zkP (hu:A.units+16<cLine):zfl X A VNt:=by
 rintro pins σ H s x y u v c c' I ⟨p,q,n,a,b,rfl,hp,hq,rfl⟩ ⟨p',q',n',a',b',rfl,hp',hq',rfl⟩ ru rv
 cases ru;cases rv;obtain⟨w1,w2,r1,r2,t⟩:=xV I hp;obtain⟨w3,w4,r3,r4,t'⟩:=xV I hp';refine yi t t' (zhE (X:=X) _ _ _ _ _ _ _ _ _ _ I ⟨_,rfl,rfl⟩ ⟨_,rfl,rfl⟩ r1 r3) (zkO (X:=X) (show A.units+1+8<cLine by lia) _ _ _ _ _ _ _ _ _ _ I ⟨_,_,_,rfl,hq,rfl⟩ ⟨_,_,_,rfl,hq',rfl⟩ r2 r4) (by lia) fun e=>?_;subst e;rw[hp] at hp'
 cases hp';rw[hq] at hq'
 cases hq';exact⟨rfl,rfl⟩
theorem zkQ (hu:A.units+24<cLine):zfl X A VDt:=by
 rintro pins σ H s x y u v c c' I ⟨p,q,r,d,n,a,b,rfl,hp,hq,hr,rfl⟩ ⟨p',q',r',d',n',a',b',rfl,hp',hq',hr',rfl⟩ ru rv
 cases ru;cases rv;obtain⟨w1,w2,r1,r2,t⟩:=xV I hp;obtain⟨w3,w4,r3,r4,t'⟩:=xV I hp';refine yi t t' (zhE (X:=X) _ _ _ _ _ _ _ _ _ _ I ⟨_,rfl,rfl⟩ ⟨_,rfl,rfl⟩ r1 r3) (zkP (X:=X) (show A.units+1+16<cLine by lia) _ _ _ _ _ _ _ _ _ _ I ⟨_,_,_,_,_,rfl,hq,hr,rfl⟩ ⟨_,_,_,_,_,rfl,hq',hr',rfl⟩ r2 r4) (by lia) fun e=>?_;subst e;rw[hp] at hp'
 cases hp';rw[hq] at hq'
 cases hq';rw[hr] at hr'
 cases hr';exact⟨rfl,rfl⟩
def zkh (b:Bool)(cs:Nat->List Int)(xs:List V)(H:Hp)(Q:VK):Prop:=zhQ (fun i j=>if b then HT.lexLt (cs i) (cs j) else HT.lexLt (cs j) (cs i)) xs H Q
def zkB (b dfl:Bool)(K:Frag)(VC:Hp->V->List Int->Prop)(cap:List (Option Nat))(t:TE)(qual:Str)(fd:Addr->Value->FuncData):St->List V->List V->Hp->VK->Prop:=fun σ vs zs H Q=>
 ∃(a f c:Addr) (ct:Value) (xs:List V) (cs:Nat->List Int),vs=[.ref a]/\zs=(if dfl then[.ref f,.non] else[.ref f])/\SqL K H a xs/\(dfl=false->0<xs.length)/\H f=some (wM f (fd c ct))/\H c=some (jH c qual)/\
 (∀(i:Nat) x H',xs[i]?=some x->Same H H'->t (some x::gr cap σ) H' fun y H2=>VC H2 y (cs i)/\Same H' H2)/\zkh b cs xs H Q
theorem zkT (b dfl:Bool){y:Str}{t:TE}{k:Nat}(hK:X.K=K)(hc:X.calm=true)(ck:if b then zfl X X.A.in1 VC else VC=VI)(vm:∀H H' v c,Same H H'->VC H v c->VC H' v c)(L:zig X y Nc cap params scope cl)(hr:Room k X.A.in1)(hb:∀c ct u,bindArgs (kla_fn name qual params body scope cl pm (.ref c) ct) ⟨[u],[]⟩=pure [(y,u)])(ht:∀f c s H,PE (X.lam X.A.in1 (y::Nc) qual scope cl f c s H) body t) :
 zdD X (mmI b) (if dfl then[Str.ofString "key",Str.ofString "default"] else[Str.ofString "key"]) (zkB b dfl K VC cap t qual fun c ct=>kla_fn name qual params body scope cl pm (.ref c) ct):=by
 subst hK;intro pins s σ H vs zs us ws Q I r1 r2 h;obtain⟨a,f,c,ct,xs,cs,rfl,rfl,hl,h0,hf,hcd,hs,hbst⟩:=h;obtain⟨u,rfl,ru⟩:=vals1 r1
 cases ru
 have go:∀{kws kw},zaN kws (.ref f) kw->(kw=[]->0<xs.length)->(∀dn d r,kw=(dn,d)::r->d=.none)->wpAny (model X.prog X.w) X.A (call (.builtin (mmI b)) [.ref a] kws) (EP X pins σ Q) X.xe s:=by
  intro kws kw hkw hn hd;refine zcy (b:=b) (KV:=fun H i y=>VC H y (cs i)) (bt:=fun i j=>if b then HT.lexLt (cs i) (cs j) else HT.lexLt (cs j) (cs i)) (fun H H' i y S h=>vm _ _ _ _ S h) hkw hc I hl (.inr ⟨f,rfl,?_⟩) ?_ hn hd hbst
  ·intro i x u' pins' s' H' hx I' rx S';have:=zd7 (Q:=fun y H2=>VC H2 y (cs i)/\Same H' H2) I' (zbI L.ok) L.co L.gen L.loc L.cl1 L.cl2 I'.env0.in1 hr rx (S' _ _ hf) (S' _ _ hcd) (hb c ct u') (ht f c s' H') (hs i x H' hx S');refine OK this (fun w s'' hq'=>?_) fun _ _ z=>z;obtain⟨y,H2,J,ry,vc,S2⟩:=hq';exact⟨y,H2,J,ry,vc,S2⟩
  ·intro i j y z v w' s' H' pins' Q' E' hy hz I' S' ry rz hq
   cases b with
   |true=>exact((show zfl X X.A.in1 VC from ck) pins' σ H' s' y z v w' _ _ I' hy hz ry rz).lt _ _ _ _ hq
   |false=>
    have ck:VC=VI:=ck;subst ck;obtain⟨n,rfl,e1⟩:=hy;obtain⟨m,rfl,e2⟩:=hz;obtain⟨t1,rfl⟩:=vq ry;obtain⟨t2,rfl⟩:=vq rz;show wpAny _ _ (compareOp .Gt _ _) _ _ _;refine gt_int ?_;have e:HT.lexLt (cs j) (cs i)=decide (m<n):=by rw[e1,e2,zdo]
    rw[<-e];exact hq
 cases dfl with
 |true=>
  obtain⟨d1,d2,rfl,rd1,rd2⟩:=vals2 r2
  cases(show d1=Value.ref f from rd1)
  cases(show d2=Value.none from rd2);exact go (.key f .none) (fun z=>nomatch z) (fun dn d r z=>by cases z;rfl)
 |false=>
  obtain⟨d1,rfl,rd1⟩:=vals1 r2
  cases(show d1=Value.ref f from rd1);exact go (.key1 f) (fun _=>h0 rfl) (fun dn d r z=>nomatch z)
def strOf:Expr->Option Str
 | .Constant (.str x) _ _=>some x
 |_=>none
def strsOf:List Expr->Option (List Str)
 |[]=>some []
 |e::r=>(strOf e).bind fun x=>(strsOf r).map (x::·)
theorem zfu {e:Expr}{x:Str}(h:strOf e=some x):∃k p,e=.Constant (.str x) k p:=by
 unfold strOf at h;split at h<;>cases h;exact⟨_,_,rfl⟩
theorem zbg {X:Cx}:∀{es:List Expr}(ws:List Str),strsOf es=some ws->PA X es (fun σ H Q=>Q (ws.map V.str) H)
 |[],ws,h=>by cases h;exact zc
 |e::r,ws,h=>by
  obtain⟨x,hx,h⟩:=T5.mp h;obtain⟨l,hl,rfl⟩:=UT.mp h;obtain⟨k,p,rfl⟩:=zfu hx;exact zb (zQ) (zbg l hl) rfl
def ShV (v:V)(z:Str):Prop:=(∃i:Int,v=.int i/\i.natAbs.log2<1920/\z=toString i/\z.length<=sizeLine)∨(v=.str z/\z.length<=sizeLine)
theorem zcI {σ:St}{v:V}{u:Value}{Q:Value->Shared->Prop}(I:Inv X pins σ H s)(r:RelV v u)(h:ShV v z)(k:∀t s',Inv X pins σ H s'->Q (.str z t) s'):wpAny (model X.prog X.w) A (formatField u Str.empty) Q E s:=by
 rcases h with⟨i,rfl,h1,rfl,_⟩|⟨rfl,h2⟩
 ·obtain⟨t,rfl⟩:=r;exact formatField_int_small h1 (k _ _ (I.tok _))
 ·obtain⟨t,rfl⟩:=r;exact formatField_str (fun t' tk=>k _ _ (I.tok _)) h2
def zko (c:Str)(t1 t2:TE):TE:=fun σ H Q=>t1 σ H fun x H1=>∃a,ShV x a/\a.length+c.length<=sizeLine/\t2 σ H1 fun y H2=>∃b,ShV y b/\a.length+c.length+b.length<=sizeLine/\Q (.str (a++c++b)) H2
theorem empty_app (a:Str):Str.empty++a=a:=by
 obtain⟨⟨a⟩⟩:=a;show Str.mk (#[]++⟨a⟩)=_;simp
theorem zf0 {e1 e2:Expr}{c:Str}{k:Nat}{p1 p2 p3:Pos}{t1 t2:TE}(h1:PE X e1 t1)(h2:PE X e2 t2) :
 PE X (.JoinedStr [.FormattedValue e1 (-1) none p1,.Constant (.str c) k p2,.FormattedValue e2 (-1) none p3] pos) (zko c t1 t2):=by
 intro pins s σ H Q I h;refine JoinedStr_many (joinParts_cons (FormattedValue_plain (thn (h1 pins s σ H _ I h) fun u s1 ⟨x,H1,I1,r1,a,ha,hac,q1⟩=>zcI I1 r1 ha fun t s2 I2=>?_)));have hla:a.length<=sizeLine:=by lia
 show(Str.empty++a).length<=sizeLine/\wpAny (model X.prog X.w) X.A (joinParts (Str.empty++a) (eval (Expr.Constant (Const.str c) k p2) X.env::evalEach [e2.FormattedValue (-1) none p3] X.env)) (EP X pins σ Q) X.xe s2;rw[empty_app];refine⟨hla,joinParts_cons (Calls.Constant_str ?_)⟩;show(a++c).length<=sizeLine/\wpAny (model X.prog X.w) X.A (joinParts (a++c) (eval (e2.FormattedValue (-1) none p3) X.env::evalEach [] X.env)) (EP X pins σ Q) X.xe { s2 with toks:=s2.toks+1 };refine⟨by rw[Uo];exact hac,joinParts_cons (FormattedValue_plain (thn (h2 pins _ σ H1 _ (I2.tok _) q1) fun u s4 ⟨y,H2,I4,r4,b,hb,hz,q⟩=>zcI I4 r4 hb fun t s5 I5=>?_))⟩;show((a++c)++b).length<=sizeLine/\wpAny (model X.prog X.w) X.A (joinParts ((a++c)++b) []) (EP X pins σ Q) X.xe s5;refine⟨by rw[Uo,Uo];lia,joinParts_nil ⟨.str (a++c++b),H2,I5.tok _,⟨_,rfl⟩,q⟩ (by rw[Uo,Uo];lia)⟩
def zjP:R2:=fun x y H Q=>∃(z:Str) (n:Int),x=.str z/\y=.int n/\-1000<=n/\n<=1000/\z.length<=1000/\Q (.str (Txt.mul z n)) H
theorem mulOk_of {n:Int}(h0 : -1000<=n)(h1:n<=1000)(h2:z.length<=1000):MulOk z n:=by
 refine⟨by simp;lia,fun a b c=>?_,fun a b=>?_⟩
 ·have h3:(z.length:Int)*n<=1000*1000:=Int.mul_le_mul (by lia) h1 (by lia) (by lia);have h4:(z.length:Int)<=(2^63-1)/n:=(Int.le_ediv_iff_mul_le (by lia)).mpr (by lia);lia
 ·have:z.length*n.toNat<=1000*1000:=Nat.mul_le_mul h2 (by lia);show decide (_>sizeLine)=false;rw[UV];exact UE (by lia)
theorem zdX:OpR X (binaryOp .Mult) zjP:=by
 intro pins s σ H x y v u Q I rx ry h;obtain⟨z,n,rfl,rfl,h0,h1,h2,q⟩:=h;obtain⟨t,rfl⟩:=rx;obtain⟨t',rfl⟩:=ry;exact SB.mul (mulOk_of h0 h1 h2) fun t' k=>⟨.str (Txt.mul z n),H,I.tok _,⟨_,rfl⟩,q⟩
def zj6 (K:Frag)(n:Nat)(t:TGs):TG:=fun v σ H Q=>∃a xs,v=.ref a/\SqL K H a xs/\n<=xs.length/\∀l,H l=none->t (xs.take n++[.ref l]) σ (upd H l (.lst (xs.drop n))) Q
theorem zfY {e:Expr}{p:Pos}{es:List Expr}{t:TG}{u:TGs}(h1:PG X e t)(h2:PGs X es u):PGs X (.Starred e p::es) (zaA t u):=by
 intro pins s σ H vs us Q I r h;obtain⟨v,vr,e1,h⟩:=h;subst e1
 cases r with
 |cons r1 r2=>
  show wpAny _ _ (assignInOrder (assign e X.env::(assignEach es X.env).map (·.2)) _) _ _ s;rename_i u0 ur;show wpAny _ _ (do holding ur (assign e X.env u0);assignInOrder ((assignEach es X.env).map (·.2)) ur) _ _ s;exact Uc (Oc (thn (h1 pins s σ H v _ _ I r1 h) fun _ s1 ⟨σ1,H1,I1,q1⟩=>h2 pins s1 σ1 H1 vr _ Q I1 r2 q1))
theorem zfo {wr:List Addr}{k:Nat}{P:Nat->Value->Prop}{St:Nat->Heap->Prop}(W:Walks prog w A I fp wr (k+n) P St) :
 Walks prog w A I fp wr n (fun i v=>P (k+i) v) (fun i h=>St (k+i) h) where
 sub:=W.sub
 frame:=fun i h h' st hk=>W.frame (k+i) h h' st hk
 item:=fun i s Q E hi st hQ=>W.item (k+i) s Q E (by lia) st hQ
 done:=fun s Q E st hQ=>W.done s Q E st hQ
 self:=fun i s Q E st hQ=>W.self (k+i) s Q E st hQ
theorem zcZ {t:Addr}{items:Array Value}{Q:List Value->Shared->Prop}(hh:A.handled=none)(ht:s.heap.IsList t items)(hn:n<=items.size)(hz:items.size<=sizeLine)(hQ:∀(h':Heap) (tk:Nat),(∀b o,s.heap.get? b=some o->h'.get? b=some o)->Q (items.toList.take n++[.ref h'.objs.size]) { s with heap:=h'.push { cls:=.type "list",data:=.seq (items.toList.drop n).toArray },toks:=tk }) :
 wpAny (model prog w) A (unpackItems (.ref t) (n+1) (some n)) Q E s:=by
 have hlt:t≠s.heap.objs.size:=by obtain⟨o,ho,_⟩:=ht;exact UO (UG ho)
 unfold unpackItems;refine Uc ?_;unfold notIterableAtAll;refine Uc (wpAny_specialOf ht.typeIs slot_list_iter.lookup ?_);refine Uj ?_;simp only[UW,OR];refine Uc (Oc (Oy ht ?_));refine Uc (Oc (zib hlt n 0 _ _ ⟨_,UC _ rfl,rfl,rfl⟩ (ht.push _) (by lia) fun h₁ hit₁ hs₁=>?_));rw[Nx];have hlen:(items.toList.take n).length=n:=by rw[UA];simp;lia
 rw[Ur (by rw[hlen];lia)];have ht₁:h₁.IsList t items:=(ht.push _).at fun o e=>hs₁.extBut t o hlt e;have hit₁:h₁.IsListIter s.heap.objs.size t n:=by simpa using hit₁
 obtain⟨k,hk⟩:∃k,items.size=n+k:=⟨items.size-n,by lia⟩;have W:=Walks.list (prog:=prog) (w:=w) (A:=A.in1) hh s.heap.objs.size t hlt items;rw[hk] at W;have lt1:s.heap.objs.size<h₁.objs.size:=by obtain⟨o,e,_⟩:=hit₁;exact UG e
 have lt2:t<h₁.objs.size:=by obtain⟨o,e,_⟩:=ht₁;exact UG e
 refine Uc (Oc (wpAny_collect_iter (s:={ s with heap:=h₁ }) (.inr (.inr (.inl rfl))) (zfo W).toS (fun i s' st=>?_) ⟨hit₁,ht₁⟩ (fun b hb=>?_) (by simp) (fun s' acc hm hacc=>?_) (by lia)))
 ·obtain⟨⟨o,e,c,_⟩,_⟩:=st;exact⟨o,e,c⟩
 ·have hb:b=s.heap.objs.size∨b=t:=by simpa using hb
  rcases hb with rfl|rfl
  ·exact lt1
  ·exact lt2
 ·have ea:acc.toList=items.toList.drop n:=by
   apply OV;intro j;rw[TF,U1,U1]
   by_cases hj:j<acc.size
   ·have:=hacc.2 j acc[j] (Us hj);rw[Us hj,this]
   ·have hs:=hacc.1;rw[Rv (by lia),Rv (by lia)]
  rw[Ur (by simp)];refine Uc ?_;have e0:acc.toList.length-(n+1-1-n)=acc.toList.length:=by lia
  rw[e0,US,List.drop_length,ea];obtain⟨h',g',d',tk,os'⟩:=s';have hg:g'=s.gens:=hm.gens;have hd:d'=s.drawn:=hm.drawn;have ho:os'=s.os:=hm.os;subst hg hd ho;refine OS ?_ (by simp;lia);refine Uj ?_;rw[Ol];refine hQ h' tk fun b o e=>hm.heap b o (fun z=>?_) (hs₁.extBut b o (UO (UG e)) (Ui _ e));have z:b=s.heap.objs.size:=by simpa using z
  exact O4 _ (z▸UG e)
theorem zg9 {es:List Expr}{k:Nat}{t:TGs}(hK:X.K=K)(hc:X.calm=true)(h:PGs X es t)(hn:(assignEach es X.env).length=n+1:=by rfl)(hst:(assignEach es X.env).findIdx? (·.1)=some n:=by rfl):PG X (.Tuple es k pos) (zj6 K n t):=by
 subst hK;intro pins s σ H v u Q I r hw;obtain⟨a,xs,e1,hq,hl,hw⟩:=hw;subst e1
 cases r;obtain⟨its,rv,ht,hz⟩:=I.list hq;have hlen:=rv.length;rw[assign_Tuple];refine Uc (R8 ?_);unfold unpack;rw[hn,hst];refine Uc (Oc (zcZ (I.ok.hd hc) ht.isList (by simp;lia) (by simp;lia) fun h' tk hk=>?_));have hr2:Vals (xs.drop n) (its.drop n):=rv.drop n;have I0:Inv X pins σ H { s with heap:=h',toks:=tk }:=I.kept (t':=tk) hk;have I1:=I0.lnew (its:=its.drop n) (ys:=xs.drop n) (t':=tk) hr2 (by rw[Rf];lia);exact h pins _ σ _ (xs.take n++[.ref h'.objs.size]) _ Q I1 ((rv.take n).append (ys:=[.ref h'.objs.size]) (.cons rfl .nil)) (hw _ (I0.hok.fresh (Ub _)))
structure KD (P:Program)(w:World)(K:Frag)(d:Addr)(kvs:List (Key×V)):Prop where
 sm:(d==sysModules)=false
 ob:∃vs,KV kvs vs/\∀h:Heap,(∀o,K.lookup d=some o->h.get? d=some o)->h.DictOf (qy P w) d vs
def zjd (P:Params)(x:Str)(t:Tok)(v:Value):DictEntry:={ hash:=PyData.keyHash P x,key:=.str x t,val:=v }
theorem zaq {P:Program}{w:World}:∀{l:List (Str×Tok×Value)},Pairs (qy P w) (l.map fun p=>zjd w.params p.1 p.2.1 p.2.2) (l.map fun p=>((Sum.inr p.1:Key),p.2.2))
 |[]=>.nil
 |(x,t,v)::l=>.cons (g8 x t) rfl zaq
theorem zh7 {d:Addr}{l:List (Str×Tok×Value)}{xs:List V}(hd:(d==sysModules)=false)(e:K.lookup d=some { cls:=.type "dict",data:=.dict (l.map fun p=>zjd w.params p.1 p.2.1 p.2.2).toArray n })(hn:(l.map (·.1)).Nodup)(r:Vals xs (l.map (·.2.2))):KD P w K d ((l.map fun p=>(Sum.inr p.1:Key)).zip xs):=by
 refine⟨hd,l.map fun p=>((Sum.inr p.1:Key),p.2.2),?_,fun h k=>⟨_,_,n,k _ e,⟨rfl,rfl,rfl⟩,rfl,fun x hx=>?_,by simpa using zaq (l:=l),?_⟩⟩
 ·have go:∀(l:List (Str×Tok×Value)) (xs:List V),Vals xs (l.map (·.2.2))->KV ((l.map fun p=>(Sum.inr p.1:Key)).zip xs) (l.map fun p=>((Sum.inr p.1:Key),p.2.2)):=by
   intro l
   induction l with
   |nil=>intro xs r;cases r;exact .nil
   |cons p l ih=>
    intro xs r
    cases r with
    |cons r1 r2=>exact .cons ⟨rfl,r1⟩ (ih _ r2)
  exact go l xs r
 ·have hx:x∈l.map fun p=>zjd w.params p.1 p.2.1 p.2.2:=by simpa using hx
  obtain⟨p,_,rfl⟩:=U6.mp hx;exact⟨Sum.inr p.1,g8 p.1 p.2.1,rfl⟩
 ·rw[map_map];have:((fun kv:Key×Value=>kv.1)∘fun p:Str×Tok×Value=>((Sum.inr p.1:Key),p.2.2))=Sum.inr∘(·.1):=rfl;rw[this,<-map_map];exact List.Pairwise.map _ (fun a b h z=>h (by injection z)) hn
def zjA (P:Program)(w:World)(K:Frag)(td ty:TE):TE:=fun σ H Q=>td σ H fun x H1=>ty σ H1 fun y H2=>∃d kvs k v,x=.ref d/\KD P w K d kvs/\y=kV k/\xH kvs k=some v/\Q v H2
theorem zdW {o:Expr}{i:Expr}(hP:X.prog=P)(hw:X.w=w)(hK:X.K=K)(ho:PE X o td)(hi:PE X i ty)(hs:zjo i):PE X (.Subscript o i pos) (zjA P w K td ty):=by
 subst hP hw hK;intro pins s σ H Q I h;refine zdJ PySem.F.slot_dict_getitem.lookup hs (thn (ho pins s σ H _ I h) fun u s1 ⟨x,H1,I1,rx,q1⟩=>thn (hi pins s1 σ H1 _ I1 q1) fun iv s2 ⟨y,H2,I2,ry,d,kvs,k,v,ex,kd,ey,l,q2⟩=>?_);subst ex ey;obtain rfl:u=Value.ref d:=rx;obtain⟨vs,rel,dd⟩:=kd.ob;have dd:=dd s2.heap fun o e=>I2.kIn d o e;obtain⟨w',hw,rw'⟩:=RelO.some_of (v:=v) (o:=valueAt vs k) (by rw[<-l];exact rel.val k);exact⟨dd.typeIs,wpAny_getItem_of (dQ ry) dd.mapOf hw ⟨v,H2,I2.tok _,rw',q2⟩⟩
def zjz (P:Program)(w:World)(K:Frag)(ty td:TE):TE:=fun σ H Q=>ty σ H fun y H1=>td σ H1 fun x H2=>∃d kvs k,x=.ref d/\KD P w K d kvs/\y=kV k/\Q (.bl (!(xH kvs k).isSome)) H2
theorem zhc {o:Expr}{i:Expr}(hP:X.prog=P)(hw:X.w=w)(hK:X.K=K)(hi:PE X i ty)(ho:PE X o td):PC X .NotIn i o (zjz P w K ty td):=by
 subst hP hw hK;intro pins s σ H Q I h;refine thn (hi pins s σ H _ I h) fun iv s1 ⟨y,H1,I1,ry,q1⟩=>thn (ho pins s1 σ H1 _ I1 q1) fun u s2 ⟨x,H2,I2,rx,d,kvs,k,ex,kd,ey,q2⟩=>?_;subst ex ey;obtain rfl:u=Value.ref d:=rx;obtain⟨vs,rel,dd⟩:=kd.ob;have dd:=dd s2.heap fun o e=>I2.kIn d o e;refine wpAny_notIn_of (dQ ry) kd.sm dd.mapOf ?_;rw[<-(rel.val k).isSome_eq];exact⟨.bl (!(xH kvs k).isSome),H2,I2.tok _,rfl,q2⟩
def zjD (X:Cx)(k i:Nat)(t:TA):TE:=fun σ H Q=>∃(f:Addr) (fd:FuncData) (ps:List Str) (sp:Sp) (CX:CXT) (E:XK),σ[i]?=some (some (.ref f))/\FnOk X.prog X.w X.K X.mg X.base CX k f fd ps sp/\keepIn X.K (.ref f)=true/\Binds X.K fd ps []/\ki CX X E/\t σ H fun vs H1=>sp vs H1 Q E
theorem zhb {k:Nat}(hr:Room k X.A)(i:Nat){x:Str}{p:Pos}{e:Expr}{es:List Expr}{t:TA}(ha:PA X (e::es) t)(hN:X.N[i]?=some x:=by rfl)(hv:Vis X.env.scope x:=by first|exact Or.inl rfl|exact Or.inr (Or.inl rfl)|exact Or.inr (Or.inr rfl))(hd:(x==("__debug__":Str))=false:=by decide)(hcd:(x==("__classdict__":Str))=false:=by decide)(hs:starEach (e::es) X.env=(false,eval e X.env)::starEach es X.env:=by rfl)(hpl:(backTo pos (starEach es X.env)).any (·.1)=false:=by rfl):PE X (.Call (.Name x p) (e::es) [] pos) (zjD X k i t):=by
 intro pins s σ H Q I h;obtain⟨f,fd,ps,sp,CX,E,hi,F,hk,hb,hx,h⟩:=h;refine O6 (thn (zdf hN hv hd hcd pins s σ H (fun v H'=>v=.ref f/\H'=H) I ⟨_,hi,rfl,rfl⟩) fun u s0 ⟨v,H',I0,r0,e1,e2⟩=>?_);subst e1 e2;obtain rfl:u=Value.ref f:=r0;refine NK (h₀:=X.base) I0.ok.mod.kin hk (thn (ha pos pins s0 σ H' _ I0 h) fun us s1 ⟨vs,H1,I1,r,q⟩=>⟨I1.kIn,?_⟩) hs hpl;exact za6 F hr hb .nil hx I1 r (by rw[Ol];exact q)
def zjL (k:Nat)(l:List Nat):Str:=⟨((List.replicate k l).flatten).toArray⟩
theorem zfQ (k:Nat)(a:Str):(⟨(List.replicate k a.cps).foldl (·++·) #[]⟩:Str)=zjL k a.cps.toList:=by
 have go:∀(l:List (Array Nat)) (acc:Array Nat),(l.foldl (·++·) acc).toList=acc.toList++(l.map Array.toList).flatten:=by
  intro l
  induction l with
  |nil=>intro acc;simp
  |cons x r ih=>intro acc;rw[Oz,ih];simp
 have e:=go (List.replicate k a.cps) #[];rw[List.map_replicate] at e;unfold zjL;congr 1;apply Array.toList_inj.mp;rw[e];simp
def zfj (d:Addr)(o:Obj)(kvs:List (Key×V)):It:=
 ⟨fun i H=>H d=some (.frz o (.dK kvs))/\i<kvs.length,fun i H x H'=>H'=H/\∃k v,kvs[i]?=some (k,v)/\x=kV k,fun i H=>H d=some (.frz o (.dK kvs))/\kvs.length<=i⟩
theorem zeY {k:Key}{v:Value}(h:dP k v=true):RelV (kV k) v:=by
 rcases qr h with⟨i,t,rfl,rfl⟩|⟨x,t,rfl,rfl⟩
 ·exact⟨t,rfl⟩
 ·exact⟨t,rfl⟩
theorem fC {P:Program}{w:World}:∀{es:List DictEntry}{vs:List (Key×Value)},Pairs (qy P w) es vs->es.length=vs.length/\∀(i:Nat) (k:Key) (u:Value),vs[i]?=some (k,u)->∃e,es[i]?=some e/\RelV (kV k) e.key
 |_,_,.nil=>⟨rfl,fun i k u h=>by cases h⟩
 |_,_,.cons hk hv t=>by
  obtain⟨l,ih⟩:=fC t;refine⟨by simp[l],fun i k u h=>?_⟩
  cases i with
  |zero=>
   cases h;exact⟨_,rfl,zeY hk⟩
  |succ i=>exact ih i k u h
theorem dZ {σ:St}{d:Addr}{o:Obj}{kvs:List (Key×V)}(I:Inv X pins σ H s)(h:H d=some (.frz o (.dK kvs))) :
 (d==sysModules)=false/\∃es ep,o.data=.dict es ep/\RawD s.heap d es ep/\es.size=kvs.length/\∀(i:Nat) (k:Key) (v:V),kvs[i]?=some (k,v)->∃e,es[i]?=some e/\RelV (kV k) e.key:=by
 obtain⟨e0,_,hsm,vs,kt,o',es,ep,h1,h2,h3,h4,h5,h6⟩:=(show ObjOk X.prog X.w H s.heap d (.frz o (.dK kvs)) from I.hok d _ h);rw[e0] at h1
 cases h1;obtain⟨l,at_⟩:=fC h5;have kl:=Oa kt;refine⟨hsm,es,ep,h3,⟨o,e0,h2,h3⟩,by rw[<-Oe,l,kl],fun i k v hi=>?_⟩;obtain⟨y,e4,e5⟩:=Paired.at' kt hi;obtain⟨k',u⟩:=y;obtain⟨e6,e7⟩:=e5;have e6:k=k':=e6;subst e6;obtain⟨e,e8,e9⟩:=at_ i _ u e4;exact⟨e,by rw[<-U1];exact e8,e9⟩
theorem zc2 (d it:Addr)(o:Obj)(kvs:List (Key×V)) :
 Turn P w K tg (zfj d o kvs) [it] it (fun i h=>∃es ep,o.data=.dict es ep/\h.IsKeyIter it d i es.size ep) where
 mem:=by simp
 obj:=fun i h st b hb=>by
  have e:b=it:=by simpa using hb
  subst e;obtain⟨_,_,_,ob,e,c,d⟩:=st;exact⟨ob,e,fun v z=>by rw[d] at z;cases z⟩
 keep:=fun i h h' st k=>by
  obtain⟨es,ep,e1,ob,e2,r⟩:=st;exact⟨es,ep,e1,ob,k it (by simp) _ e2,r⟩
 item:=by
  intro X hP hw hK hc i pins s σ H E I hf st hg;subst hP hw hK;obtain⟨hq,hi⟩:=hg;obtain⟨es',ep',d1,st⟩:=st;obtain⟨hsm,es,ep,d2,raw,hsz,vals⟩:=dZ I hq;rw[d1] at d2
  cases d2;obtain⟨f0,f1,f2,f3,f4,f5⟩:=hf it (by simp);have hlt:i<es'.size:=by lia
  obtain⟨⟨k,v⟩,hkv⟩:∃kv,kvs[i]?=some kv:=⟨_,Ua hi⟩;obtain⟨e,ee,ek⟩:=vals i k v hkv;rw[Us hlt] at ee
  cases ee;refine zeC st raw hlt fun h' st' sb=>?_;have I1:Inv X pins σ H { s with heap:=h' }:=I.turned (t':=s.toks) (fun b o hb e=>(sb.2 b hb).trans e) f0 f1 f3 f4 f5;obtain⟨ob,e,c,dd⟩:=id st';exact⟨_,rfl,dX (s:={ s with heap:=h' }) e c dd (by decide) ⟨kV k,H,I1,ek,⟨rfl,k,v,hkv,rfl⟩,⟨es',ep',d1,st'⟩,fun b hb=>(hf b hb).1⟩⟩
 done:=by
  intro X hP hw hK hc i pins s σ H E I hf st hg;subst hP hw hK;obtain⟨hq,hi⟩:=hg;obtain⟨es',ep',d1,st⟩:=st;obtain⟨hsm,es,ep,d2,raw,hsz,vals⟩:=dZ I hq;rw[d1] at d2
  cases d2;obtain⟨f0,f1,f2,f3,f4,f5⟩:=hf it (by simp);exact zfR (I.ok.hd hc) st raw (by lia) fun h' eb=>⟨rfl,I.turned (t':=s.toks) (fun b o hb e=>eb b o hb e) f0 f1 f3 f4 f5⟩
 self:=fun _ _ _ _ _ st h=>by
  obtain⟨es,ep,_,st⟩:=st;exact wpAny_pyIter_keyiter st h
theorem Inv.freezeK {σ:St}{d:Addr}{kvs:List (Key×V)}(I:Inv X pins σ H s)(h:H d=some (.dK kvs)):∃o,Inv X pins σ (upd H d (.frz o (.dK kvs))) s:=by
 obtain⟨hz,hsm,vs,kt,o,es,ep,h1,h2⟩:=(show ObjOk X.prog X.w H s.heap d (.dK kvs) from I.hok d _ h);refine⟨o,?_⟩;exact I.write (x:=d) (e:=d) (h':=s.heap) (t':=s.toks) (o:=.frz o (.dK kvs)) (by rw[h];trivial) (.inl rfl) (fun b u _ e=>e) ⟨o,h1⟩ ⟨h1,hz,hsm,vs,kt,o,es,ep,h1,h2⟩
theorem Inv.thaw {σ:St}{d:Addr}{o:Obj}{kvs:List (Key×V)}(I:Inv X pins σ H s)(h:H d=some (.frz o (.dK kvs)))(h0:X.H₀ d=none):Inv X pins σ (upd H d (.dK kvs)) s:=by
 have nn:∀{b:Addr},H b=none->b≠d:=fun {b} e z=>by subst z;rw[h] at e;cases e
 have ok:=I.hok d _ h;refine⟨I.ok,I.os,I.bare,?_,I.loc,I.cell,by rw[zi (nn I.free)];exact I.free,fun x c e=>by rw[zi (nn (I.freeC x c e))];exact I.freeC x c e,fun p hp=>?_,?_,I.len⟩
 ·have B:=I.base;refine⟨B.keep,B.slot,fun b ob q n hx=>?_,B.there,fun b xs q=>?_,fun b ob u q=>?_,fun b ps q=>?_⟩
  ·have:=B.free b ob q n hx;rw[zi (nn this)];exact this
  ·have e:b≠d:=fun z=>by subst z;rw[h0] at q;cases q
   rw[zi e];exact B.tups b xs q
  ·have e:b≠d:=fun z=>by subst z;rw[h0] at q;cases q
   rw[zi e];exact B.frzs b ob u q
  ·have e:b≠d:=fun z=>by subst z;rw[h0] at q;cases q
   rw[zi e];exact B.tbls b ps q
 ·obtain⟨p1,p2,p3⟩:=I.pin p hp;exact⟨p1,by rw[zi (nn p2)];exact p2,p3⟩
 ·intro b u e
  by_cases hb:b=d
  ·subst hb;rw[zd] at e
   cases e;exact ok.2
  ·rw[zi hb] at e;refine(I.hok b u e).stay (fun c v _ q=>q) (fun c q=>?_) fun c xs q=>?_
   ·have:c≠d:=fun z=>by subst z;rw[h] at q;cases q
    rw[zi this];exact q
   ·have:c≠d:=fun z=>by subst z;rw[h] at q;cases q
    rw[zi this];exact q
def zi9 (te:TE):TI:=fun σ H R=>te σ H fun x H1=>∃(d:Addr) (kvs:List (Key×V)),x=.ref d/\H1 d=some (.dK kvs)/\∀o,R (zfj d o kvs) (upd H1 d (.frz o (.dK kvs)))
theorem zfX {o:Expr}(ho:PE X o to):PI X tg o (zi9 to):=by
 intro pins s σ H R I h;refine thn (ho pins s σ H _ I h) fun v s1 ⟨x,H1,I1,r1,d,kvs,ex,hd,q1⟩=>?_;subst ex;obtain rfl:v=Value.ref d:=r1;obtain⟨ob,I2⟩:=I1.freezeK hd;obtain⟨hsm,es,ep,d2,raw,hsz,vals⟩:=dZ I2 zd;refine zeB hsm raw ?_;refine⟨_,[_],_,zfj d ob kvs,_,rfl,I2.kept (t':=s1.toks) fun b o e=>Ui _ e,zc2 d _ ob kvs,⟨es,ep,d2,_,UC _ rfl,rfl,rfl⟩,fun b hb=>?_,q1 ob⟩;have e:=Uz.mp hb;subst e;exact I2.fpOk (Ub _) (I2.hok.fresh (Ub _))
def zju (H0:Hp)(t:TS):TS:=fun D σ H=>t { D with nx:=fun σ' H'=>∃(d:Addr) (o:Obj) (kvs:List (Key×V)),H' d=some (.frz o (.dK kvs))/\H0 d=none/\D.nx σ' (upd H' d (.dK kvs)) } σ H
theorem zg5 {st:Stmt}{t:TS}(h0:X.H₀=H0)(h:PS X st t):PS X st (zju H0 t):=by
 subst h0;intro pins s σ H D I q;refine thn (h pins s σ H _ I q) fun f s' z=>?_
 cases f with
 |next=>
  obtain⟨σ',H',I',d,o,kvs,e1,e2,k⟩:=z;exact⟨σ',_,I'.thaw e1 e2,k⟩
 |brk=>exact z
 |cont=>exact z
 |ret u=>exact z
theorem ze8 {d:Addr}{o:Obj}{kvs:List (Key×V)}{tb:TS}{σ:St}(Pv:Nat->St->Hp->Prop)(h0:Pv 0 σ H)(hl:∀i σ H,i<=kvs.length->Pv i σ H->H d=some (.frz o (.dK kvs)))(hs:∀i k v σ H,kvs[i]?=some (k,v)->Pv i σ H->g (kV k) σ H fun σ2 H2=>tb { D with nx:=Pv (i+1),ct:=Pv (i+1),bk:=D.nx } σ2 H2)(hd:∀σ H,Pv kvs.length σ H->D.nx σ H) :
 ∃W:Nat->Nat->St->Hp->Prop,(∃m,W 0 m σ H)/\∀i m σ H,W i m σ H->
  ((zfj d o kvs).stop i H/\D.nx σ H)∨((zfj d o kvs).go i H/\∃N:St->Hp->Prop,(∀σ' H',N σ' H'->∃m',m'<m/\W (i+1) m' σ' H')/\∀x H',(zfj d o kvs).yld i H x H'->g x σ H' fun σ2 H2=>tb { D with nx:=N,ct:=N,bk:=D.nx } σ2 H2):=by
 refine⟨fun i m σ H=>m=kvs.length-i/\i<=kvs.length/\Pv i σ H,⟨_,rfl,UI _,h0⟩,?_⟩;rintro i m σ H ⟨rfl,hi,p⟩;have q:=hl i σ H hi p
 by_cases hlt:i<kvs.length
 ·refine .inr ⟨⟨q,hlt⟩,Pv (i+1),fun σ' H' p'=>⟨kvs.length-(i+1),by lia,rfl,hlt,p'⟩,fun x H' y=>?_⟩;obtain⟨e,k,v,hk,rfl⟩:=y;subst e;exact hs i k v σ _ hk p
 ·have e:i=kvs.length:=by lia
  subst e;exact .inl ⟨⟨q,Ub _⟩,hd σ H p⟩
section
open PySem.SeqAt
open PySem.AutoSeq1 (wpAny_loadPart')
open PySem.MeetsSeq PySem.MeetsSeq2 PySem.MeetsSeq3
theorem zgf (l b:Addr)(items items2:Array Value)(n n2:Nat)(dd dd2:Option Addr)(sl sl2:Array (Option Value))(x y:Value)(hx:items[0]?=some x)(hy:items2[0]?=some y)(v:Bool) :
 Meets (Builtin.«list.__eq__.loop» ⟨[.ref l,.ref b,rawInt 0,rawInt 0],[]⟩)
  (fun A R s=>s.heap.get? l=some { cls:=.type "list",dict:=dd,data:=.seq items n,slots:=sl }/\s.heap.get? b=some { cls:=.type "list",dict:=dd2,data:=.seq items2 n2,slots:=sl2 }/\
    EqAt A.in1 s x y false/\(∀(prog:Program) (w:World) (E:Value->Shared->Prop) (Q:Value->Shared->Prop),Q (.bool v) s->wpAny (model prog w) A.in1 (richCompare .Lt x y) Q E s)/\R (.ok (.ret (.bool v))) s):=by
 intro prog w A R s h;obtain⟨hp,g,d,tk,os⟩:=s;obtain⟨hl,hb,he,hlt,h⟩:=h;have hlt:=hlt prog w;wp_walk using O2 hl,O2 hb;have hi1:items[((0:Int)).toNat]?=some x:=hx;have hi2:items2[((0:Int)).toNat]?=some y:=hy;rw[hi1,hi2];refine Uc (he prog w _ _ ?_);wp_walk using O2 hl,O2 hb;rw[hi1,hi2];wp_walk using hlt;exact h
theorem zgh (l b:Addr)(items items2:Array Value)(n n2:Nat)(dd dd2:Option Addr)(sl sl2:Array (Option Value))(x y:Value)(hx:items[0]?=some x)(hy:items2[0]?=some y)(v:Bool) :
 Meets (Builtin.«list.__lt__» ⟨[.ref l,.ref b],[]⟩)
  (fun A R s=>s.heap.get? l=some { cls:=.type "list",dict:=dd,data:=.seq items n,slots:=sl }/\s.heap.get? b=some { cls:=.type "list",dict:=dd2,data:=.seq items2 n2,slots:=sl2 }/\
    EqAt A.in1 s x y false/\(∀(prog:Program) (w:World) (E:Value->Shared->Prop) (Q:Value->Shared->Prop),Q (.bool v) s->wpAny (model prog w) A.in1 (richCompare .Lt x y) Q E s)/\R (.ok (.ret (.bool v))) s):=by
 intro prog w A R s h;obtain⟨hp,g,d,tk,os⟩:=s;obtain⟨hl,hb,he,hlt,h⟩:=h;have f3:=AutoSeq1.sub_list_list;wp_walk using O2 hl,O2 hb
 exact⟨O1 plain_eq_loop _,codeAny_builtin entry_eq_loop (by
  rw[Ro plain_eq_loop _];exact zgf l b items items2 n n2 dd dd2 sl sl2 x y hx hy v prog w A R _ ⟨hl,hb,he,hlt,h⟩)⟩
end
def zkC (K:Frag):R2:=fun x y H Q=>∃(a b p q:Addr) (xs ys:List V) (p1 p2 q1 q2:Int),x=.ref a/\y=.ref b/\SqL K H a (.ref p::xs)/\SqL K H b (.ref q::ys)/\SqT K H p [.int p1,.int p2]/\SqT K H q [.int q1,.int q2]/\
 (p1==q1&&p2==q2)=false/\Q (.bl (HT.lexLt [p1,p2] [q1,q2])) H
theorem zjX (hK:X.K=K)(hu:X.A.units+1<cLine):OpR X (compareOp .Lt) (zkC K):=by
 subst hK;intro pins s σ H x y v u Q I rx ry h;obtain⟨a,b,p,q,xs,ys,p1,p2,q1,q2,rfl,rfl,ha,hb,hp,hq,hne,k⟩:=h
 cases rx
 cases ry;obtain⟨its,r1,z1,_⟩:=I.list ha;obtain⟨its2,r2,z2,_⟩:=I.list hb;obtain⟨t1,t2,hp'⟩:=zbf I hp;obtain⟨u1,u2,hq'⟩:=zbf I hq
 cases r1 with
 |cons e1 e2=>
 cases r2 with
 |cons f1 f2=>
 cases e1
 cases f1;obtain⟨⟨cls,dd,data,sl⟩,n,ho,hc,hdd,hd⟩:=id z1;obtain⟨⟨cls2,dd2,data2,sl2⟩,n2,ho2,hc2,hdd2,hd2⟩:=id z2;simp only at hc hd hc2 hd2;subst hc hd hc2 hd2
 refine NC (op:=.Lt) ⟨_,ho,rfl⟩ ⟨_,ho2,rfl⟩ PySem.F.slot_list_lt PySem.F.entry_list_lt (PySem.F.args_list_lt_2 _ _) (zgh a b _ _ n n2 dd dd2 sl sl2 (.ref p) (.ref q) (by simp) (by simp) (HT.lexLt [p1,p2] [q1,q2]))
  ⟨ho,ho2,?_,?_,show Value.bool (HT.lexLt [p1,p2] [q1,q2])≠Value.notImplemented/\_ from⟨(fun x=>nomatch x),⟨.bl (HT.lexLt [p1,p2] [q1,q2]),H,I,rfl,k⟩⟩⟩ (by lia)
 ·have pe:=pairEq (A:=X.A.in1) hp' hq' (show X.A.units+1<cLine from hu);rw[hne] at pe;exact pe
 ·intro prog w E Q hQ;have i1:IntsAre (#[Value.int p1 t1,Value.int p2 t2]:Array Value).toList [p1,p2]:=.cons _ _ (.cons _ _ .nil);have i2:IntsAre (#[Value.int q1 u1,Value.int q2 u2]:Array Value).toList [q1,q2]:=.cons _ _ (.cons _ _ .nil);exact(HT.lt_tupInts hp' hq' i1 i2 (show X.A.units+1<cLine from hu) hQ:wpAny (model prog w) X.A.in1 (compareOp .Lt (.ref p) (.ref q)) Q E s)
def CD (h:Heap)(u:Value)(c:List Int):Prop:=∃p q r d n a b t t0 t1 t2,u=Value.ref p/\IsTup h p #[.int d t,.ref q]/\IsTup h q #[.int n t0,.ref r]/\IsTup h r #[.int a t1,.int b t2]/\c=[d,n,a,b]
theorem zfe {p q:Addr}{p2:Int}(hp:IsTup s.heap p #[.int p1 t1,.int p2 t2])(hq:IsTup s.heap q #[.int q1 u1,.int q2 u2])(hu:A.units+1<cLine):Cmp A s (.ref p) (.ref q) [p1,p2] [q1,q2]:=
 yi hp hq (bG _ _ _ _) (bG _ _ _ _) hu (by
  rintro rfl;have e:=qR hp hq;simp only[Ru,OA,Rp] at e;exact⟨e.1.1,by rw[e.2.1.1]⟩)
theorem zgA {x y p q:Addr}{n m p2:Int}{t u:Tok}(hx:IsTup s.heap x #[.int n t,.ref p])(hy:IsTup s.heap y #[.int m u,.ref q])(hp:IsTup s.heap p #[.int p1 t1,.int p2 t2])(hq:IsTup s.heap q #[.int q1 u1,.int q2 u2])(hu:A.units+2<cLine):Cmp A s (.ref x) (.ref y) [n,p1,p2] [m,q1,q2]:=
 yi hx hy (bG _ _ _ _) (zfe hp hq (show A.units+1+1<cLine by lia)) (by lia) (by
  rintro rfl;have e:=qR hx hy;simp only[Ru,OA,Rp,NJ] at e;obtain⟨⟨e1,_⟩,e2,_⟩:=e;subst e2;have e:=qR hp hq;simp only[Ru,OA,Rp] at e;exact⟨e1,by rw[e.1.1,e.2.1.1]⟩)
theorem zge {x y p q:Addr}{n m:Int}{c:List Int}{t u:Tok}{C:Bool->Shared->Prop}(hx:IsTup s.heap x #[.int n t,.ref p])(hy:IsTup s.heap y #[.int m u,.ref q])(k:Cmp A s (.ref p) (.ref q) c c')(hC:C (HT.lexLt (n::c) (m::c')) s):wpAny (model prog w) A (keyLt' (tuples' true) (.ref x) (.ref y)) C E s:=by
 obtain⟨ox,hox,_,n',dx⟩:=hx;obtain⟨oy,hoy,_,k',dy⟩:=hy;rw[HT.lexLt_cons] at hC;refine kat_lt hox dx hoy dy ?_;refine T9 (wpAny_eqBool_int ?_)
 by_cases e1:n=m
 ·rw[UN.mpr e1];rw[Uv e1] at hC;refine Nl (T9 (k.eq prog w _ _ ?_))
  by_cases e2:c=c'
  ·rw[Uy e2];subst e2;rw[wk] at hC;exact Nl (kat_nil hC)
  ·rw[UE e2];exact Nv (kat_one _ _ (k.lt prog w _ _ hC))
 ·rw[U4.mpr e1];rw[Ur e1] at hC;exact Nv (oneLt_int hC)
theorem zku (hu:X.A.units+64<cLine):SCode X VDt CD where
 down:=fun {pins σ H s v u c} I h r=>by
  obtain⟨p,q,r',d,n,a,b,rfl,hp,hq,hr,rfl⟩:=h
  cases r;obtain⟨u1,u2,e1,e2,z1⟩:=xV I hp;obtain⟨v1,v2,f1,f2,z2⟩:=xV I hq;obtain⟨w1,w2,g1,g2,z3⟩:=xV I hr;obtain⟨t,rfl⟩:=vq e1;obtain⟨t0,rfl⟩:=vq f1;obtain⟨t1,rfl⟩:=vq g1;obtain⟨t2,rfl⟩:=vq g2
  cases e2
  cases f2;exact⟨p,q,r',d,n,a,b,t,t0,t1,t2,rfl,z1,z2,z3,rfl⟩
 uniq:=fun h h'=>by
  obtain⟨p,q,r,d,n,a,b,t,t0,t1,t2,rfl,hp,hq,hr,rfl⟩:=h;obtain⟨p',q',r',d',n',a',b',t',t0',t1',t2',e,hp',hq',hr',rfl⟩:=h'
  cases e;have e:=qR hp hp';simp only[Ru,OA,Rp,NJ] at e;obtain⟨⟨e1,_⟩,e2,_⟩:=e;subst e2;have e:=qR hq hq';simp only[Ru,OA,Rp,NJ] at e;obtain⟨⟨e3,_⟩,e4,_⟩:=e;subst e4;have e:=qR hr hr';simp only[Ru,OA,Rp] at e;rw[e1,e3,e.1.1,e.2.1.1]
 keep:=fun k h=>by
  obtain⟨p,q,r,d,n,a,b,t,t0,t1,t2,rfl,hp,hq,hr,rfl⟩:=h;exact⟨p,q,r,d,n,a,b,t,t0,t1,t2,rfl,vT k hp,vT k hq,vT k hr,rfl⟩
 asks:=fun {s vs} hv h2=>⟨tuples' true,zd9 (fun v hv'=>by
  obtain⟨c,p,q,r,d,n,a,b,t,t0,t1,t2,rfl,hp,_⟩:=hv v hv';exact⟨p,d,t,_,rfl,hp⟩) h2,fun u v c c' C hu' hv hC=>by
  obtain⟨p,q,r,d,n,a,b,t,t0,t1,t2,rfl,hp,hq,hr,rfl⟩:=hu';obtain⟨p',q',r',d',n',a',b',t',t0',t1',t2',rfl,hp',hq',hr',rfl⟩:=hv;exact zge (A:=X.A.in1.in1) hp hp' (zgA hq hq' hr hr' (show X.A.units+1+1+2<cLine by lia)) hC⟩
def zkk (K:Frag)(ta tb:TE):TE:=fun σ H Q=>ta σ H fun x H1=>∃c,zkd K x H1 c/\if c=true then Q x H1 else tb σ H1 Q
theorem ziK (hK:X.K=K){a b:Expr}{rest:List Expr}{ta tb:TE}(ha:PE X a ta)(hb:PE X (.BoolOp .Or (b::rest) pos) tb):PE X (.BoolOp .Or (a::b::rest) pos) (zkk K ta tb):=by
 subst hK;intro pins s σ H Q I h;refine BoolOp_or (thn (ha pins s σ H _ I h) fun v s1 ⟨x,H1,I1,r1,c,tv,q1⟩=>?_);refine thn (zfr pins s1 σ H1 x v (fun k H2=>k=c/\H2=H1) I1 r1 ⟨c,tv,rfl,rfl⟩) fun k s2 ⟨H2,I2,e1,e2⟩=>?_;subst e1 e2
 cases k with
 |true=>exact⟨x,H2,I2,r1,q1⟩
 |false=>exact hb pins s2 σ H2 Q I2 q1
structure zK (K:Frag)(mg:Str->Option Value)(x:Str)(st:Stmt)(ps:List Str)(f:Addr)(fd:FuncData):Prop where
 fn:Fun K x x st f fd
 mg:mg x=some (.ref f)
 bd:Binds K fd ps []
theorem xT {lo:Int}{t:TT}{b:TB}{N:St->Hp->Prop}{σ:St}(Pv:Nat->St->Hp->Prop)(h0:Pv 0 σ H)(hs:∀i σ H,i<n->Pv i σ H->g (.int (lo+i)) σ H fun σ2 H2=>t σ2 H2 fun k H3=>if k=true then b σ2 H3 (Pv (i+1)) else Pv (i+1) σ2 H3)(hd:∀σ H,Pv n σ H->N σ H):wI (Itr lo n) g t b N σ H:=
 vB (tb:=fun D σ2 H2=>t σ2 H2 fun k H3=>if k=true then b σ2 H3 D.nx else D.nx σ2 H3) (D:={ nx:=N,rt:=fun _ _=>True }) Pv h0 hs hd
theorem qb {a:Addr}{xs:List V}{t:TT}{b:TB}{N:St->Hp->Prop}{σ:St}(Pv:Nat->St->Hp->Prop)(h0:Pv 0 σ H)(hl:∀i σ H,i<=xs.length->Pv i σ H->SqL K H a xs)(hs:∀i x σ H,xs[i]?=some x->Pv i σ H->g x σ H fun σ2 H2=>t σ2 H2 fun k H3=>if k=true then b σ2 H3 (Pv (i+1)) else Pv (i+1) σ2 H3)(hd:∀σ H,Pv xs.length σ H->N σ H):wI (Itl K a) g t b N σ H:=
 j8 (tb:=fun D σ2 H2=>t σ2 H2 fun k H3=>if k=true then b σ2 H3 D.nx else D.nx σ2 H3) (D:={ nx:=N,rt:=fun _ _=>True }) Pv h0 hl hs hd
theorem wN {a:Addr}{xs:List V}{t:TT}{b:TB}{N:St->Hp->Prop}{σ:St}(Pv:Nat->St->Hp->Prop)(h0:Pv 0 σ H)(hl:∀i σ H,i<=xs.length->Pv i σ H->SqT K H a xs)(hs:∀i x σ H,xs[i]?=some x->Pv i σ H->g x σ H fun σ2 H2=>t σ2 H2 fun k H3=>if k=true then b σ2 H3 (Pv (i+1)) else Pv (i+1) σ2 H3)(hd:∀σ H,Pv xs.length σ H->N σ H):wI (Itt K a) g t b N σ H:=
 zbz (tb:=fun D σ2 H2=>t σ2 H2 fun k H3=>if k=true then b σ2 H3 D.nx else D.nx σ2 H3) (D:={ nx:=N,rt:=fun _ _=>True }) Pv h0 hl hs hd
theorem vX (ns:List Int){r:Int}(h0:0<=r)(h1:r<ns.length):∃n,atI (ns.map V.int) r=some (.int n)/\n∈ns/\ns[r.toNat]?=some n:=by
 obtain⟨j,rfl⟩:=Og h0;have hj:j<ns.length:=by lia
 refine⟨ns[j],qa ?_,Of hj,?_⟩
 ·rw[Up,Ua hj];rfl
 ·rw[Ot];exact Ua hj
theorem size_le (h:n<=1000000):n<=sizeLine:=UU h (by decide)
theorem zO (h:n<=1000000):n<sizeLine:=Om h (by decide)
structure fh (K:Frag)(mg:Str->Option Value)(x:Str)(st:Stmt)(ps:List Str)(f:Addr)(fd:FuncData)(c P:Addr):Prop where
 fn:FunC K x x st f fd c P
 mg:mg x=some (.ref f)
 bd:Binds K fd ps []
def TabAt (pos:Pos)(qual:Str)(P:Addr)(H:Hp):Prop:=H P=some (.tbl #[])∨∃c,H P=some (.tbl (pR pos c))/\H c=some (jH c qual)
def Kq (l:Addr)(H H':Hp):Prop:=∀b o,H b=some o->b≠l->H' b=some o
theorem TabAt.ne {P b:Addr}{o:HO}(h:TabAt pos qual P H)(hb:H b=some o)(ho:∀ps,o≠.tbl ps):b≠P:=by
 rintro rfl;rcases h with h|⟨c,h,_⟩
 ·rw[hb] at h;cases h;exact ho _ rfl
 ·rw[hb] at h;cases h;exact ho _ rfl
theorem TabAt.keep {P:Addr}{H':Hp}(h:TabAt pos qual P H)(s:Same H H'):TabAt pos qual P H':=by
 rcases h with h|⟨c,h1,h2⟩
 ·exact .inl (s _ _ h)
 ·exact .inr ⟨c,s _ _ h1,s _ _ h2⟩
theorem zaR {P:Addr}{fd:Addr->Value->FuncData}{σ:St}{Q:VK}(h:TabAt pos qual P H)(k:∀f c ct H',H f=none->H' f=some (wM f (fd c ct))->H' c=some (jH c qual)->H' P=some (.tbl (pR pos c))->Kq P H H'->Q (.ref f) H'):zin P pos qual fd σ H Q:=by
 rcases h with h|⟨c,h1,h2⟩
 ·refine .inl ⟨h,fun f c ct hf hc n=>?_⟩;have nP:P≠f:=zf h hf;have nPc:P≠c:=zf h hc;refine k f c ct _ hf zd (by rw[zi (OO n),zd]) (by rw[zi nP,zi nPc,zd]) fun b o e nb=>?_;rw[zi (zf e hf),zi (zf e hc),zi nb];exact e
 ·refine .inr ⟨c,h1,h2,fun f ct hf=>?_⟩;refine k f c ct _ hf zd (by rw[zi (zf h2 hf)];exact h2) (by rw[zi (zf h1 hf)];exact h1) fun b o e nb=>?_;rw[zi (zf e hf)];exact e
def zi1 (e:Expr):Arguments:=match e with
 | .Lambda a _ _ _=>a
 |_=>⟨[],[],none,[],[],none,[]⟩
def zi0 (e:Expr):Expr:=match e with
 | .Lambda _ b _ _=>b
 |_=>e
def zgk (e:Expr)(d:Scope):Scope:=match e with
 | .Lambda _ _ s _=>s
 |_=>d
def zhq (e:Expr):Pos:=match e with
 | .Lambda _ _ _ p=>p
 |_=>⟨0,0,0,0⟩
end
end L2
namespace My
open PySem L2
section
theorem fsc_ {N P:List Str}{sc:Scope}(a:sc.kind=.function:=by rfl)(b:sc.isCoroutine=false:=by rfl)(c:sc.isGenerator=false:=by rfl)(d:N.Nodup:=by decide +kernel)(e:N.take P.length=P:=by rfl)(f:∀x∈P,sc.names.lookup x=some .local∨sc.names.lookup x=some .cell:=by decide +kernel)(g:∀y∈sc.names,y.2≠.free:=by decide +kernel):zt N P sc:=⟨a,b,c,d,e,f,g⟩
variable {x a f fw fn l fa fs q acc fz f1 f2 f3 fb T0 d T C T1 T2 f0 mn fr f4 f5 f6 f7:Addr}{A:Prop}{B:Nat->List (Nat×Nat)}{K:Frag}{H H' H1 H2 H0:Hp}{scr ns is:List Int}{ws due:List Str}{fd fdw fdn fda fds fdz fdl fd1 fd2 fd3 fdb fd0 fd4 fd5 fd6 fd7:FuncData}{P Pr:Program}{w:World}{mg:Str->Option Value}{base h:Heap}{i n hi b j k m:Nat}{α β:Type}{g:Nat->List V}{xs ys:List V}{ps t hs ds es cs:List (Nat×Nat)}{p:Nat×Nat}{o:Option (Nat×Nat)}{N:St->Hp->Prop}{v:V}{tF tN t2:Tok}{as:List Addr}{wf:Nat×Nat->Int}{z qual w':Str}{tot:Int}{pos:Pos}{kvs:List (Key×V)}{r t1 u t3 t4:TS}{Q:VK}{R:List Str->Prop}{Tb:Hp->Prop}{D:Ends}{σ:St}
structure Txt (mg:Str->Option Value):Prop where
 b_len:mg "len"=none
 b_sum:mg "sum"=none
 b_range:mg "range"=none
 b_tuple:mg "tuple"=none
 b_list:mg "list"=none
 b_int:mg "int"=none
 b_str:mg "str"=none
 b_bool:mg "bool"=none
 b_isinstance:mg "isinstance"=none
 b_min:mg "min"=none
 b_max:mg "max"=none
 b_zip:mg "zip"=none
 b_reversed:mg "reversed"=none
 b_sorted:mg "sorted"=none
 b_abs:mg "abs"=none
 b_all:mg "all"=none
 b_any:mg "any"=none
 b_set:mg "set"=none
 b_ValueError:mg "ValueError"=none
theorem mod_lt (x m:Int)(h:0<m):0<=x%m/\x%m<m:=⟨Int.emod_nonneg _ (by lia),Int.emod_lt_of_pos _ h⟩
theorem mulL {x:Int}(y m:Int)(h:0<m)(hm:m<2^64):CMul (x%m) y:=by
 have:=mod_lt x m h;left;lia
theorem e6:(10:Int)^(toNat 6)=1000000:=by decide
theorem zbw {B:Prop}(h:B):if(!true)=true then A else B:=h
def Scr (K:Frag)(H:Hp)(a:Addr)(scr:List Int):Prop:=SqL K H a (scr.map V.int)/\scr.length<=63
theorem Scr.same (h:Scr K H a scr)(s:Same H H'):Scr K H' a scr:=⟨s.seq h.1,h.2⟩
def wR (K:Frag):Sp:=fun vs H Q _=>∃(a:Addr) (scr:List Int) (n:Int),vs=[.ref a,.int n]/\Scr K H a scr/\0<=n/\n<1000000/\∀(r:Int) (H':Hp),0<=r->r<2147483579->Same H H'->Q (.int r) H'
def zaX (K:Frag):Sp:=fun vs H Q _=>∃(a:Addr) (scr:List Int) (at' most:Int),vs=[.ref a,.int at',.int most]/\Scr K H a scr/\0<=at'/\at'<900000/\0<most/\most<=14/\∀(r:Int) (H':Hp),r.natAbs<10^most.toNat->Same H H'->Q (.int r) H'
theorem zhy:∀{l:List Nat},AllDigits l->digitsVal l<10^l.length:=by
 intro l h
 have go:∀(l:List Nat) (acc:Nat),AllDigits l->l.foldl (fun acc c=>acc*10+(c-48)) acc<(acc+1)*10^l.length:=by
  intro l
  induction l with
  |nil=>intro acc _;simp
  |cons c r ih=>
   intro acc h;have h1:=ih (acc*10+(c-48)) h.tail;have h2:=h.head;rw[Oz,Uk,Nat.pow_succ];refine UP h1 ?_;have:(acc*10+(c-48)+1)*10^r.length<=((acc+1)*10)*10^r.length:=Nat.mul_le_mul_right _ (by lia);rw[Nat.mul_comm (10^r.length) 10,<-Nat.mul_assoc];exact this
 have:=go l 0 h;rw[NU,Nat.one_mul] at this;exact this
theorem zax:∀ws:List Str,(Str.join ("":Str) ws).cps.toList=(ws.map (·.cps.toList)).flatten
 |[]=>rfl
 |[w]=>by simp[Str.join]
 |w::y::r=>by
  have e:Str.join ("":Str) (w::y::r)=w++("":Str)++Str.join ("":Str) (y::r):=rfl;have e2:("":Str).cps.toList=[]:=by decide
  rw[e,Um,Um,e2,zax (y::r)];simp
theorem zgu (h:∀w∈ws,∃d:Nat,d<10/\w=zy (d:Int)):AllDigits (Str.join ("":Str) ws).cps.toList/\(Str.join ("":Str) ws).cps.toList.length=ws.length:=by
 rw[zax]
 induction ws with
 |nil=>exact⟨fun c hc=>by simp at hc,rfl⟩
 |cons w r ih=>
  obtain⟨i1,i2⟩:=ih fun x hx=>h x (Uh _ hx);obtain⟨d,hd,rfl⟩:=h w (Ug ..)
  have e:(zy (d:Int)).cps.toList=[48+d]:=by
   rw[vS];unfold gb;rw[Ur (by lia),Ow,zef hd]
  rw[UL,Ri,e];refine⟨fun c hc=>?_,by rw[UD,i2];simp;lia⟩;rcases UJ.mp hc with hc|hc
  ·have:=Uz.mp hc;lia
  ·exact i1 c hc
abbrev qF:Stmt:=top 62
theorem ZT:zt ["script","k","many","cell","turn","mixed"] ["script","k"] (zh qF):=fsc_
theorem bE (F:Fun K "_law_draw" "_law_draw" qF f fd)(T:Txt mg):FnOk P w K mg base CX0 1 f fd ["script","k"] (wR K):=by
 refine F.ok ZT (fun vs H Q E h=>?_) (fun cdv A outer s H vs Q E hr h=>?_)
 ·obtain⟨a,scr,n,rfl,_⟩:=h;rfl
 ·obtain⟨a,scr,n,rfl,⟨hS,hl⟩,n0,n1,k⟩:=h
  refine⟨_,(ze (zq (i:=2) ZT.nd rfl (Or.inl rfl) (zv (zaH rfl) (by rfl) T.b_max PyProof.Rows.Boot.«max» (zb zg (zb (zv (jh (K:=K) rfl) (by rfl) T.b_len PyProof.Rows.Boot.«len» (zb (pv 0) zc)) zc))))
   (ze (zq (i:=3) ZT.nd rfl (Or.inl rfl) (zz (ixL (K:=K) rfl) (zk vR (zJ (zic (K:=K) rfl) (by rfl) T.b_list PyProof.Rows.Boot.«list» (zb (pv 0) zc)) (zR (zb zg zc))) (zk zS (pv 1) (pv 2)) (fun _ _=>rfl)))
   (ze (z8 (PW.pt (kM (zw zh1 (pv 3) (zk y4 zg zg) (zH _)) (ya (zw wC (pv 3) (kT xU (zk y4 zg zg)) (zH _)))))
     (ze (qI U7 rfl (jO (by rfl) T.b_range (zb (zv (zaG rfl) (by rfl) T.b_min PyProof.Rows.Boot.«min» (zb (zk zbj (pv 1) (pv 2)) (zb zg zc))) zc)) (zo (i:=4) ZT.nd rfl (Or.inl rfl))
       (zj (zq (i:=3) ZT.nd rfl (Or.inl rfl) (zk zbj (pv 3) zg))))
     (zj (zr (zk zS (pv 3) zg))))
     zL)
   (ze (zq (i:=5) ZT.nd rfl (Or.inl rfl) (zk zS (zk wg (zk zM (zk zM (zk zS (pv 3) zg) zg) (zk wg zg (zk zbj (pv 1) (pv 2)))) zg) zg))
   (ze (zq (i:=5) ZT.nd rfl (Or.inl rfl) (zk zS (zk wg (pv 5) (pv 5)) zg))
   (zj (zr (zk zS (zk wg (pv 5) zg) zg)))))))),?_⟩
  have hlm:(scr.map V.int).length=scr.length:=Ud _;refine⟨_,rfl,a,_,rfl,.inl hS,_,_,rfl,?_⟩;obtain⟨sz,hsz⟩:∃sz:Int,(if((scr.map V.int).length:Int)>1 then((scr.map V.int).length:Int) else 1)=sz:=⟨_,rfl⟩;have sz0:0<sz:=by rw[<-hsz];split<;>lia
  have sz1:sz<=scr.length+1:=by rw[<-hsz];split<;>lia
  rw[hsz];dsimp only[zx];refine⟨_,rfl,a,_,rfl,.inl hS,fun l1 hl1=>⟨by show 1<=sizeLine;decide,fun l2 hl2=>⟨l1,l2,_,_,rfl,rfl,(zi (zf zd hl2)).trans zd,zd,size_le (by rw[hlm];show scr.length+1<=1000000;lia),fun l3 hl3=>?_⟩⟩⟩;have S3:Same H (upd (upd (upd H l1 (.lst (scr.map V.int))) l2 (.lst [.int 0])) l3 (.lst (scr.map V.int++[.int 0]))):=(Same.lay hl1).trans ((Same.lay hl2).trans (Same.lay hl3));have hc3:upd (upd (upd H l1 (.lst (scr.map V.int))) l2 (.lst [.int 0])) l3 (.lst (scr.map V.int++[.int 0])) l3=some (.lst ((scr++[0]).map V.int)):=by rw[zd,Ux];rfl
  generalize upd (upd (upd H l1 (.lst (scr.map V.int))) l2 (.lst [.int 0])) l3 (.lst (scr.map V.int++[.int 0]))=H3 at S3 hc3;have⟨m0,m1⟩:=mod_lt n sz sz0;obtain⟨cell,hcell,_,_⟩:=vX (scr++[0]) m0 (by rw[UD];simp only[Uk,UM];lia);refine⟨_,rfl,_,rfl,_,_,rfl,rfl,sz0,l3,_,_,_,rfl,rfl,SqL.of hc3,hcell,?_⟩;dsimp only[zx];have t0:0<=n/sz:=Int.ediv_nonneg n0 (by lia);refine⟨_,rfl,_,_,rfl,rfl,⟨by decide,by decide,by decide⟩,_,_,rfl,rfl,_,rfl,qB (fun e1=>wm ?y1) (fun e1=>⟨_,rfl,_,_,rfl,rfl,⟨by decide,by decide,by decide⟩,_,rfl,_,_,rfl,rfl,_,rfl,qB (fun e2=>?y2) (fun e2=>?n)⟩)⟩
  case y1|y2=>
   refine⟨_,rfl,_,rfl,_,_,rfl,rfl,⟨sz0,by lia⟩,_,_,rfl,_,rfl,by split<;>lia,by split<;>lia,vB (fun i σ H'=>∃(r:Int) (v4:Option V),σ=[some (.ref a),some (.int n),some (.int sz),some (.int r),v4,none]/\H'=H3) ⟨_,none,rfl,rfl⟩ ?_ ?_⟩
   ·rintro i σ H' _ ⟨r,v4,rfl,rfl⟩;exact⟨_,rfl,_,_,rfl,rfl,⟨by decide,by decide⟩,_,_,rfl,rfl⟩
   ·rintro σ H' ⟨r,v4,rfl,rfl⟩;refine⟨_,rfl,_,_,rfl,rfl,(by show(0:Int)<_;decide),?_⟩;have:=mod_lt r 1000003 (by decide);exact k _ _ this.1 (by lia) S3
  case n=>
   refine⟨_,rfl,_,_,rfl,rfl,(by show(0:Int)<_;decide),_,_,rfl,rfl,_,rfl,_,rfl,_,_,rfl,rfl,⟨sz0,by lia⟩,_,_,rfl,rfl,.inl ⟨by decide,by decide⟩,_,_,rfl,rfl,_,_,rfl,rfl,.inr ⟨by decide,by decide⟩,_,_,rfl,rfl,(by show(0:Int)<_;decide),?_⟩;dsimp only[zx];refine⟨_,rfl,_,rfl,_,_,rfl,rfl,mulL _ _ (by decide) (by decide),_,_,rfl,rfl,(by show(0:Int)<_;decide),?_⟩;dsimp only[zx];refine⟨_,rfl,_,_,rfl,rfl,mulL _ _ (by decide) (by decide),_,_,rfl,rfl,(by show(0:Int)<_;decide),?_⟩;exact k _ _ (mod_lt _ _ (by decide)).1 (mod_lt _ _ (by decide)).2 S3
abbrev qO:Stmt:=top 63
theorem Qw:zt ["script","at","most","figures","found"] ["script","at","most"] (zh qO):=fsc_
theorem gV (F:Fun K "_law_number" "_law_number" qO f fd)(T:Txt mg)(Za:zK K mg "_law_draw" qF ["script","k"] fw fdw):FnOk P w K mg base CX0 2 f fd ["script","at","most"] (zaX K):=by
 have Zd:FnOk P w K mg base CX0 1 fw fdw ["script","k"] (wR K):=bE Za.fn T;refine F.ok Qw (fun vs H Q E h=>?_) (fun cdv A outer s H vs Q E hr h=>?_)
 ·obtain⟨a,scr,at',most,rfl,_⟩:=h;rfl
 ·obtain⟨a,scr,at',most,rfl,hS,a0,a1,m0,m1,k⟩:=h;have hsl:=UV
  refine⟨_,(ze (zq (i:=3) Qw.nd rfl (Or.inl rfl) (zk zM zg (zk zS (zl Zd (hr.mono (by first|decide|exact Ub _)) rfl Za.mg Za.fn.kp Za.bd .nil zp (zb (pv 0) (zb (pv 1) zc))) (pv 2))))
   (ze (zq (i:=4) Qw.nd rfl (Or.inl rfl) (zJ xF (by rfl) T.b_int PyProof.Rows.Boot.«int» (zb (jo Ov RA Rz gj zQ (zb (qf (N:=["k","script","at"]) (cap:=[none,some 0,some 1]) rfl (show qh ["script","at","most","figures","found"] (zh qO) ["k","script","at"] [none,some 0,some 1] _=true by decide +kernel) (jO (by rfl) T.b_range (zb (pv 3) zc)) (fun cl C s3 H3 fp=>⟨(zo (i:=0) (show(["k","script","at"]:List Str).Nodup by decide +kernel) rfl (Or.inl rfl)),qe,fun it acc=>(zP rfl (zJ zN (by rfl) T.b_str PyProof.Rows.Boot.«str» (zb (zk zS (zl Zd (hr.mono (by first|decide|exact Ub _)) rfl Za.mg Za.fn.kp Za.bd .nil zp (zb (pv 1) (zb (zk zM (zk zM (pv 2) zg) (pv 0)) zc))) zg) zc)))⟩)) zc)) zc)))
   (zj (zr (zk wg (pv 4) (zz (ixT (K:=K) rfl) (qu (zb zg (zb (kT xU zg) zc))) (zk zS (zl Zd (hr.mono (by first|decide|exact Ub _)) rfl Za.mg Za.fn.kp Za.bd .nil zp (zb (pv 0) (zb (zk zM (pv 1) zg) zc))) zg) (fun _ _=>rfl))))))),?_⟩
  refine⟨_,rfl,_,rfl,a,scr,at',rfl,hS,a0,by lia,fun r1 H1 _ _ S1=>⟨_,rfl,_,_,rfl,rfl,m0,_,_,rfl,rfl,?_⟩⟩;have⟨q0,q1⟩:=mod_lt r1 most m0;obtain⟨fg,hfg⟩:=Og (show 0<=1+r1%most by lia);dsimp only[zx];rw[hfg];have fg0:1<=fg:=by lia
  have fg1:fg<=14:=by lia
  refine⟨rfl,_,rfl,_,rfl,by lia,by lia,fun acc hacc=>?_⟩;rw[Ot];refine xT (fun i σ H'=>∃(v:Option V) (ws:List Str),σ=[v,some (.ref a),some (.int at')]/\H' acc=some (.lst (ws.map V.str))/\ws.length=i/\(∀w∈ws,∃d:Nat,d<10/\w=zy (d:Int))/\Same H1 H') ⟨none,[],rfl,zd,rfl,(fun _ h=>nomatch h),Same.lay hacc⟩ ?_ ?_
  ·rintro i σ H' hi ⟨v,ws,rfl,ha,hw,hd,S'⟩;dsimp only[zx];refine⟨_,rfl,_,rfl,_,_,rfl,rfl,_,rfl,_,_,rfl,rfl,a,scr,_,rfl,hS.same (S1.trans S'),by lia,by lia,fun r2 H2 _ _ S2=>⟨_,_,rfl,rfl,(by show(0:Int)<_;decide),?_⟩⟩;have⟨d0,d1⟩:=mod_lt r2 10 (by decide);obtain⟨d,hd'⟩:=Og d0;refine⟨_,rfl,?_,_,S2 _ _ ha,zO (by rw[Ud];lia),?_⟩
   ·rw[hd',Ow]
    by_cases h0:d=0
    ·rw[h0];decide
    ·exact O5 ((log2_lt h0).mpr (show d<2^64 by lia)) (by decide)
   ·refine⟨_,ws++[zy (r2%10)],rfl,?_,by rw[UD,hw];rfl,fun x hx=>?_,fun b o e=>by rw[zi (zf e hacc)];exact S2 _ _ (S' _ _ e)⟩
    ·rw[zd,Ux];rfl
    ·rcases UJ.mp hx with hx|hx
     ·exact hd x hx
     ·exact⟨d,by lia,by rw[Uz.mp hx,hd']⟩
  ·rintro σ H' ⟨v,ws,rfl,ha,hw,hd,S'⟩;obtain⟨ad,al⟩:=zgu hd;have el:(Str.join ("":Str) ws).length=fg:=by rw[<-hw,<-al];simp[Str.length]
   have hsum:∀l:List Str,(∀w∈l,∃d:Nat,d<10/\w=zy (d:Int))->(l.map (·.length)).sum<=l.length*16:=fun l hl=>by
    induction l with
    |nil=>simp
    |cons x r ih=>
     have h1:=ih fun w hw=>hl w (Uh _ hw);obtain⟨d,hd,rfl⟩:=hl x (Ug ..);have h2:=z9 (n:=(d:Int)) (k:=15) (by decide) (by rw[Ow];lia);simp only[UL,OH,Uk];lia
   have hs16:=hsum ws hd;refine⟨("":Str),acc,ws,rfl,rfl,ha,?_,?_⟩
   ·have e0:("":Str).length=0:=rfl;rw[e0];lia
   refine⟨_,_,rfl,PySem.intText_digits ad (by intro e;rw[e] at al;simp at al;lia) (by lia),by lia,?_⟩;dsimp only[zx];have S'':=S1.trans S';refine⟨_,rfl,_,rfl,by show 2<=sizeLine;decide,fun tp htp=>?_⟩;have S3:Same H' (upd H' tp (.tup [.int 1,.int (-1)])):=Same.lay htp;have etp:upd H' tp (.tup [.int 1,.int (-1)]) tp=some (.tup (([1,-1]:List Int).map V.int)):=zd;generalize upd H' tp (.tup [.int 1,.int (-1)])=H3 at S3 etp;refine⟨_,rfl,_,rfl,_,_,rfl,rfl,a,scr,_,rfl,hS.same (S''.trans S3),by lia,by lia,fun r3 H4 _ _ S4=>⟨_,_,rfl,rfl,(by show(0:Int)<_;decide),?_⟩⟩;have⟨z0,z1⟩:=mod_lt r3 2 (by decide);obtain⟨v',hv,hm,_⟩:=vX [1,-1] z0 (by simpa using z1);refine⟨tp,_,_,_,rfl,rfl,SqT.of (S4 _ _ etp),hv,_,_,rfl,rfl,.inr ?_,k _ H4 ?_ ((S''.trans S3).trans S4)⟩
   ·simp only[Uw,Oq,RT] at hm;rcases hm with rfl|rfl<;>decide
   ·have hb:(digitsVal (Str.join ("":Str) ws).cps.toList)<10^most.toNat:=UP (zhy ad) (RJ (by decide) (by rw[al];lia));simp only[Uw,Oq,RT] at hm;rcases hm with rfl|rfl
    ·rw[Int.mul_one,Ow];exact hb
    ·rw[Int.mul_neg,Int.mul_one,Int.natAbs_neg,Ow];exact hb
def Few (ns:List Int):Prop:=∀n∈ns,n.natAbs<10^12
theorem Few.snoc {x:Int}(h:Few ns)(hx:x.natAbs<10^12):Few (ns++[x]):=fun n hn=>by
 rcases UJ.mp hn with hn|hn
 ·exact h n hn
 ·rw[Uz.mp hn];exact hx
def zfx (K:Frag):Sp:=fun vs H Q _=>∃(a:Addr) (scr:List Int) (at' most:Int),vs=[.ref a,.int at',.int most]/\Scr K H a scr/\0<=at'/\at'<100000/\0<=most/\most<=60/\∀(p:Addr) (ns:List Int) (H':Hp),H' p=some (.tup (ns.map V.int))->ns.length<=60->Few ns->Same H H'->Q (.ref p) H'
abbrev gJ:Stmt:=top 64
theorem Qc:zt ["script","at","most","many","kind","row","k","draw"] ["script","at","most"] (zh gJ):=fsc_
theorem ziO (F:Fun K "_law_row" "_law_row" gJ f fd)(T:Txt mg)(Za:zK K mg "_law_draw" qF ["script","k"] fw fdw)(Zk:zK K mg "_law_number" qO ["script","at","most"] fn fdn):FnOk P w K mg base CX0 3 f fd ["script","at","most"] (zfx K):=by
 have Zd:FnOk P w K mg base CX0 1 fw fdw ["script","k"] (wR K):=bE Za.fn T;have ZZ:FnOk P w K mg base CX0 2 fn fdn ["script","at","most"] (zaX K):=gV Zk.fn T Za;refine F.ok Qc (fun vs H Q E h=>?_) (fun cdv A outer s H vs Q E hr h=>?_)
 ·obtain⟨a,scr,at',most,rfl,_⟩:=h;rfl
 ·obtain⟨a,scr,at',most,rfl,hS,a0,a1,m0,m1,k⟩:=h;have hsl:=UV
  refine⟨_,(ze (zq (i:=3) Qc.nd rfl (Or.inl rfl) (zk zS (zl Zd (hr.mono (by first|decide|exact Ub _)) rfl Za.mg Za.fn.kp Za.bd .nil zp (zb (pv 0) (zb (pv 1) zc))) (zk zM (pv 2) zg)))
   (ze (zq (i:=4) Qc.nd rfl (Or.inl rfl) (zk zS (zl Zd (hr.mono (by first|decide|exact Ub _)) rfl Za.mg Za.fn.kp Za.bd .nil zp (zb (pv 0) (zb (zk zM (pv 1) zg) zc))) zg))
   (ze (zq (i:=5) Qc.nd rfl (Or.inl rfl) (zR zc))
   (ze (qI U7 rfl (jO (by rfl) T.b_range (zb (pv 3) zc)) (zo (i:=6) Qc.nd rfl (Or.inl rfl))
     (ze (zq (i:=7) Qc.nd rfl (Or.inl rfl) (zl Zd (hr.mono (by first|decide|exact Ub _)) rfl Za.mg Za.fn.kp Za.bd .nil zp (zb (pv 0) (zb (zk zM (zk zM (pv 1) zg) (pv 6)) zc))))
     (zj (z8 (zw qU (pv 4) zg (zH _))
       (zj (jd (jo Od U3 U9 qw (pv 5) (zb (zl ZZ (hr.mono (by first|decide|exact Ub _)) rfl Zk.mg Zk.fn.kp Zk.bd .nil zp (zb (pv 0) (zb (zk zM (zk zM (pv 1) zg) (zk wg zg (pv 6))) (zb zg zc)))) zc))))
       (zj (jd (jo Od U3 U9 qw (pv 5) (zb (zz (ixL (K:=K) rfl) (zR (zb (zk qp (zk zS (pv 7) zg) zg) (zb (zk qp (zk zS (pv 7) zg) zg) (zb (zk qp (zk zS (pv 7) zg) zg) (zb (zk zM zg (zk zS (pv 7) zg)) zc))))) (pv 4) (fun _ _=>rfl)) zc))))))))
   (zj (zr (zJ (kg (K:=K) rfl) (by rfl) T.b_tuple PyProof.Rows.Boot.«tuple» (zb (pv 5) zc)))))))),?_⟩
  have mp:(0:Int)<most+1:=by lia
  refine⟨_,rfl,_,rfl,a,scr,at',rfl,hS,a0,by lia,fun r1 H1 _ _ S1=>⟨_,rfl,_,_,rfl,rfl,_,_,rfl,rfl,mp,?_⟩⟩;have⟨q0,q1⟩:=mod_lt r1 (most+1) mp;obtain⟨mn,hmn⟩:=Og q0;dsimp only[zx];rw[hmn];have hmn1:mn<=60:=by lia
  refine⟨_,rfl,_,rfl,_,_,rfl,rfl,a,scr,_,rfl,hS.same S1,by lia,by lia,fun r2 H2 _ _ S2=>⟨_,_,rfl,rfl,(by show(0:Int)<_;decide),?_⟩⟩;have⟨k0,k1⟩:=mod_lt r2 5 (by decide);dsimp only[zx];generalize r2%5=kd at k0 k1;refine⟨by show 0<=sizeLine;lia,fun rl hrl=>?_⟩;have S3:Same H2 (upd H2 rl (.lst [])):=Same.lay hrl;have Z2:=S1.trans S2;dsimp only[zx];refine⟨_,rfl,_,rfl,by lia,by lia,vB (fun i σ H'=>∃(v6 v7:Option V) (ns:List Int),σ=[some (.ref a),some (.int at'),some (.int most),some (.int (mn:Int)),some (.int kd),some (.ref rl),v6,v7]/\H' rl=some (.lst (ns.map V.int))/\ns.length=i/\Few ns/\Same H2 H') ⟨none,none,[],rfl,zd,rfl,(fun _ h=>nomatch h),S3⟩ ?_ ?_⟩
  ·rintro i σ H' hi ⟨v6,v7,ns,rfl,hr',hn,hf,S'⟩;rw[Ot] at hi;dsimp only[zx];have Z':=Z2.trans S';refine⟨_,rfl,_,rfl,_,_,rfl,rfl,_,rfl,_,_,rfl,rfl,a,scr,_,rfl,hS.same Z',by lia,by lia,fun dr H4 d0 d1 S4=>?_⟩;dsimp only[zx];have h4:=S4 _ _ hr';have Z4:=Z'.trans S4
   have fin:∀(x:Int) (H5:Hp),Same H4 H5->H5 rl=some (.lst (ns.map V.int))->H2 rl=none->Same H2 (upd H5 rl (.lst (ns.map V.int++[.int x]))):=fun x H5 S5 _ hn0 b o e=>by
    rw[zi (zf e hn0)];exact S5 _ _ (S4 _ _ (S' _ _ e))
   refine⟨_,rfl,rfl,_,rfl,qB (fun e=>?_) (fun e=>?_)⟩
   ·refine⟨_,rfl,.inl ⟨rfl,_,SqL.of h4⟩,?_⟩;refine⟨_,rfl,_,rfl,_,_,rfl,rfl,_,rfl,_,_,rfl,rfl,.inl ⟨by decide,by decide⟩,_,_,rfl,rfl,a,scr,_,12,rfl,hS.same Z4,by lia,by lia,by decide,by decide,fun x H5 hx12 S5=>?_⟩;have h5:=S5 _ _ h4;exact⟨rl,_,_,rfl,rfl,h5,zO (by rw[Ud];lia),_,_,ns++[x],rfl,by rw[zd,Ux];rfl,by rw[UD,hn];rfl,hf.snoc hx12,fin x H5 S5 h5 hrl⟩
   ·have k4:kd<4:=by
     have:¬kd=4:=fun z=>e (Uy (by rw[z]));lia
    refine⟨_,rfl,.inl ⟨rfl,_,SqL.of h4⟩,?_⟩;refine⟨_,rfl,_,_,rfl,rfl,(by show(0:Int)<_;decide),_,_,rfl,rfl,_,rfl,_,_,rfl,rfl,(by show(0:Int)<_;decide),_,_,rfl,rfl,_,rfl,_,_,rfl,rfl,(by show(0:Int)<_;decide),_,_,rfl,rfl,_,rfl,_,_,rfl,rfl,(by show(0:Int)<_;decide),_,_,rfl,rfl,by show 4<=sizeLine;lia,fun l hl=>?_⟩;have S5:=Same.lay (o:=.lst [.int (dr%3-1),.int (dr%5-2),.int (dr%19-9),.int (1+dr%4)]) hl;have e5:upd H4 l (.lst [.int (dr%3-1),.int (dr%5-2),.int (dr%19-9),.int (1+dr%4)]) l=some (.lst (([dr%3-1,dr%5-2,dr%19-9,1+dr%4]:List Int).map V.int)):=zd;generalize upd H4 l (.lst [.int (dr%3-1),.int (dr%5-2),.int (dr%19-9),.int (1+dr%4)])=H5 at S5 e5;obtain⟨x,hx,hxm,_⟩:=vX [dr%3-1,dr%5-2,dr%19-9,1+dr%4] k0 (by simpa using k4);have h5:=S5 _ _ h4;refine⟨_,rfl,l,_,_,_,rfl,rfl,SqL.of e5,hx,?_⟩
    exact⟨rl,_,_,rfl,rfl,h5,zO (by rw[Ud];lia),_,_,ns++[x],rfl,by rw[zd,Ux];rfl,by rw[UD,hn];rfl,hf.snoc (by
     have⟨x1,x2⟩:=mod_lt dr 3 (by decide);have⟨x3,x4⟩:=mod_lt dr 5 (by decide);have⟨x5,x6⟩:=mod_lt dr 19 (by decide);have⟨x7,x8⟩:=mod_lt dr 4 (by decide);simp only[Uw,Oq,RT] at hxm;have : -1000<x/\x<1000:=by rcases hxm with h|h|h|h<;>lia
     lia),fin x H5 S5 h5 hrl⟩
  ·rintro σ H' ⟨v6,v7,ns,rfl,hr',hn,hf,S'⟩;rw[Ot] at hn;refine⟨_,rfl,rl,_,rfl,.inl ⟨SqL.of hr',fun q hq=>k q ns _ zd (by lia) hf ((Z2.trans S').trans (Same.lay hq))⟩⟩
def qk (ns:List Int)(k:Nat):Int:=(ns.take k).sum
def jF (ns:List Int)(i:Nat):List Int:=(List.range (i+1)).map (qk ns)
theorem zan {n:Int}(h:ns[i]?=some n):qk ns (i+1)=qk ns i+n:=by
 unfold qk;rw[O7,h,Tq];simp
theorem yZ (ns:List Int)(i:Nat):jF ns i=(List.range i).map (qk ns)++[qk ns i]:=by
 unfold jF;rw[OY,Ux];rfl
theorem di (ns:List Int)(i:Nat):jF ns (i+1)=jF ns i++[qk ns (i+1)]:=by
 rw[yZ ns (i+1)];rfl
theorem zam (ns:List Int)(i:Nat):(jF ns i).length=i+1:=by unfold jF;simp
theorem jl (ns:List Int)(n k:Nat)(h:k<=n):(jF ns n)[k]?=some (qk ns k):=by
 unfold jF;rw[Up,OJ (by lia)];rfl
def jG (lo j:Nat):List (Nat×Nat):=(List.range j).map fun t=>(lo,lo+1+t)
theorem wu (lo j:Nat):jG lo (j+1)=jG lo j++[(lo,lo+1+j)]:=by
 unfold jG;rw[OY,Ux];rfl
def vQ (n i:Nat):List (Nat×Nat):=(List.range i).flatMap fun lo=>jG lo (n-lo)
def prs (n:Nat):List (Nat×Nat):=vQ n n
theorem we (n i:Nat):vQ n (i+1)=vQ n i++jG i (n-i):=by
 unfold vQ;rw[OY,List.flatMap_append];simp
theorem jU {lo:Nat}(h:(lo,hi)∈prs n):lo<hi/\hi<=n:=by
 unfold prs vQ at h;obtain⟨l,h1,h2⟩:=List.mem_flatMap.mp h;unfold jG at h2;obtain⟨t,h3,h4⟩:=U6.mp h2;have e1:l=lo:=O3 Prod.fst h4;have e2:l+1+t=hi:=O3 Prod.snd h4;have:=OD.mp h1;have:=OD.mp h3;lia
theorem xM (f:α->Bool){l:List α}{x:α}(h:l[i]?=some x):(l.take (i+1)).filter f=(l.take i).filter f++(if f x then[x] else[]):=by
 rw[O7,h,O0]
 cases hx:f x<;>simp[hx]
def TupsAt (g:α->List V)(H:Hp)(xs:List V)(ps:List α):Prop:=xs.length=ps.length/\∀(i:Nat) (p:α),ps[i]?=some p->∃a,xs[i]?=some (.ref a)/\H a=some (.tup (g p))
theorem TupsAt.nil {g:α->List V}:TupsAt g H [] []:=⟨rfl,fun i p h=>by simp at h⟩
theorem TupsAt.mono {g:α->List V}{ps:List α}(h:TupsAt g H xs ps)(k:∀a zs,H a=some (.tup zs)->H' a=some (.tup zs)):TupsAt g H' xs ps:=
 ⟨h.1,fun i p e=>let ⟨a,h1,h2⟩:=h.2 i p e;⟨a,h1,k a _ h2⟩⟩
theorem TupsAt.snoc {g:α->List V}{ps:List α}{p:α}(h:TupsAt g H xs ps)(ha:H a=some (.tup (g p))):TupsAt g H (xs++[.ref a]) (ps++[p]):=by
 refine⟨by rw[UD,UD,h.1];rfl,fun i q e=>?_⟩
 by_cases hi:i<ps.length
 ·rw[Ou hi] at e;obtain⟨b,h1,h2⟩:=h.2 i q e;exact⟨b,by rw[Ou (by rw[h.1];exact hi)];exact h1,h2⟩
 ·have hl:i<(ps++[p]).length:=(Ue.mp e).1;rw[UD] at hl;have hi2:i=ps.length:=by simp only[Uk,UM] at hl;lia
  subst hi2;rw[Ob (Ub _)] at e;simp only[Ry,List.getElem?_cons_zero,R5] at e;subst e;refine⟨a,?_,ha⟩;rw[<-h.1,Ob (Ub _)];simp
def g2 (p:Nat×Nat):List V:=[.int p.1,.int p.2]
theorem qY {o:HO}(h:H l=some (.lst xs)):∀a zs,H a=some (.tup zs)->upd H l o a=some (.tup zs):=fun a zs e=>by rw[zi (qE e h (by intro z;cases z))];exact e
theorem qi (s:Same H H'):∀a zs,H a=some (.tup zs)->H' a=some (.tup zs):=fun a zs e=>s _ _ e
def RowAt (H:Hp)(p:Addr)(ns:List Int):Prop:=H p=some (.tup (ns.map V.int))/\ns.length<=1000
def zfv:Sp:=fun vs H Q _=>∃p ns,vs=[.ref p]/\RowAt H p ns/\∀q H',H' q=some (.tup ((jF ns ns.length).map V.int))->Same H H'->Q (.ref q) H'
abbrev xX:Stmt:=top 10
theorem Qv:zt ["row","ahead","number"] ["row"] (zh xX):=fsc_
theorem pW (F:Fun K "sums_ahead" "sums_ahead" xX f fd)(T:Txt mg):FnOk P w K mg base CX0 1 f fd ["row"] zfv:=by
 refine F.ok Qv (fun vs H Q E h=>?_) (fun cdv A outer s H vs Q E hr h=>?_)
 ·obtain⟨p,ns,rfl,_⟩:=h;rfl
 ·obtain⟨p,ns,rfl,⟨hp,hl⟩,k⟩:=h
  refine⟨_,(ze (zq (i:=1) Qv.nd rfl (Or.inl rfl) (zR (zb zg zc)))
   (ze (qI U7 rfl (piT (K:=K) rfl (pv 0)) (zo (i:=2) Qv.nd rfl (Or.inl rfl))
     (zj (jd (jo Od U3 U9 qw (pv 1) (zb (zk zM (zz (ixL (K:=K) rfl) (pv 1) (kT xU zg) (fun _ _=>rfl)) (pv 2)) zc)))))
   (zj (zr (zJ (kg (K:=K) rfl) (by rfl) T.b_tuple PyProof.Rows.Boot.«tuple» (zb (pv 1) zc)))))),?_⟩
  refine⟨by show 1<=sizeLine;decide,fun l hl1=>?_⟩;have S1:Same H (upd H l (.lst [.int 0])):=Same.lay hl1;refine⟨_,rfl,p,rfl,⟨_,SqT.of (S1 _ _ hp)⟩,zbz (xs:=ns.map V.int) (fun i σ H'=>∃v2:Option V,σ=[some (.ref p),some (.ref l),v2]/\Same H H'/\H' l=some (.lst ((jF ns i).map V.int))) ?_ ?_ ?_ ?_⟩
  ·exact⟨none,rfl,S1,zd⟩
  ·rintro i σ H' _ ⟨v2,rfl,S',_⟩;exact SqT.of (S' _ _ hp)
  ·rintro i x σ H' hx ⟨v2,rfl,S',ha⟩;obtain⟨n,hn,rfl⟩:∃n,ns[i]?=some n/\V.int n=x:=by rw[Up] at hx;exact UT.mp hx
   have hi:i<ns.length:=(Ue.mp hn).1;have ha':H' l=some (.lst (((List.range i).map (qk ns)).map V.int++[.int (qk ns i)])):=by rw[ha,yZ,Ux];rfl
   refine⟨_,rfl,.inl ⟨rfl,_,SqL.of ha⟩,_,rfl,1,rfl,l,_,_,_,rfl,rfl,SqL.of ha',pD _ _,_,rfl,_,_,rfl,rfl,l,_,_,rfl,rfl,ha,zO (by rw[Ud,zam];lia),?_⟩;refine⟨_,rfl,fun b o e=>by rw[zi (zf e hl1)];exact S' b o e,?_⟩;rw[zd,di,Ux,zan hn];rfl
  ·rintro σ H' ⟨v2,rfl,S',ha⟩;rw[Ud] at ha;exact⟨_,rfl,l,_,rfl,.inl ⟨SqL.of ha,fun q hq=>k q _ zd (S'.trans (Same.lay hq))⟩⟩
def zhU:Sp:=fun vs H Q _=>∃p ns,vs=[.ref p]/\RowAt H p ns/\∀q xs H',H' q=some (.lst xs)->TupsAt g2 H' xs (prs ns.length)->Same H H'->Q (.ref q) H'
abbrev jv:Stmt:=top 11
theorem QC:zt ["row","many"] ["row"] (zh jv):=fsc_
theorem fZ (F:Fun K "stretches_of" "stretches_of" jv f fd)(T:Txt mg):FnOk P w K mg base CX0 1 f fd ["row"] zhU:=by
 refine F.ok QC (fun vs H Q E h=>?_) (fun cdv A outer s H vs Q E hr h=>?_)
 ·obtain⟨p,ns,rfl,_⟩:=h;rfl
 ·obtain⟨p,ns,rfl,⟨hp,hl⟩,k⟩:=h
  refine⟨_,(ze (zq (i:=1) QC.nd rfl (Or.inr rfl) (zv (jh (K:=K) rfl) (by rfl) T.b_len PyProof.Rows.Boot.«len» (zb (pv 0) zc)))
   (zj (zr (qf (N:=["low","high","many"]) (cap:=[none,none,some 1]) rfl (show qh ["row","many"] (zh jv) ["low","high","many"] [none,none,some 1] _=true by decide +kernel) (jO (by rfl) T.b_range (zb (pv 1) zc)) (fun cl C s3 H3 fp=>⟨(zo (i:=0) (show(["low","high","many"]:List Str).Nodup by decide +kernel) rfl (Or.inl rfl)),qe,fun it acc=>(zhd rfl rfl rfl (zap (by rfl) T.b_range (zb (zk zM (pv 0) zg) (zb (zk zM (pv 2) zg) zc))) (zo (i:=1) (show(["low","high","many"]:List Str).Nodup by decide +kernel) rfl (Or.inl rfl)) qe (fun it1=>(zP rfl (qu (zb (pv 0) (zb (pv 1) zc))))))⟩))))),?_⟩
  refine⟨_,rfl,p,_,rfl,.inr (SqT.of hp),?_⟩;have hlm:(ns.map V.int).length=ns.length:=Ud _;refine⟨_,rfl,_,rfl,by lia,by lia,fun acc hacc=>?_⟩;refine xT (fun i σ H'=>∃(v1 v2:Option V) (xs:List V),σ=[v1,v2,some (.int ((ns.map V.int).length:Int))]/\H' acc=some (.lst xs)/\TupsAt g2 H' xs (vQ ns.length i)/\xs.length<=i*1000/\Same H H') ?_ ?_ ?_
  ·exact⟨none,none,[],rfl,zd,TupsAt.nil,by simp,Same.lay hacc⟩
  ·rintro i σ H' hi ⟨v1,v2,xs,rfl,ha,ht,hx,S'⟩;have hi':i<ns.length:=by lia
   refine⟨_,rfl,_,_,rfl,rfl,_,rfl,_,_,rfl,rfl,_,_,rfl,⟨by lia,by lia,by lia,by lia⟩,?_⟩;have ej:((((ns.map V.int).length:Int)+1)-(0+(i:Int)+1)).toNat=ns.length-i:=by lia
   rw[ej];refine xT (fun j σ H'=>∃(v2:Option V) (xs:List V),σ=[some (.int (0+(i:Int))),v2,some (.int ((ns.map V.int).length:Int))]/\H' acc=some (.lst xs)/\TupsAt g2 H' xs (vQ ns.length i++jG i j)/\xs.length<=i*1000+j/\Same H H') ?_ ?_ ?_
   ·exact⟨v2,xs,rfl,ha,by simpa[jG] using ht,by lia,S'⟩
   ·rintro j σ H2 hj ⟨v2,xs,rfl,ha,ht,hx,S'⟩;refine⟨_,rfl,_,rfl,by show 2<=sizeLine;decide,fun a hna=>⟨xs,(zi (zf ha hna)).trans ha,zO (by lia),_,_,rfl,zd,?_,by rw[UD];simp only[Uk,UM];lia,?_⟩⟩
    ·have e1:(0:Int)+(i:Int)=((i:Nat):Int):=by lia
     have e2:(0:Int)+(i:Int)+1+(j:Int)=((i+1+j:Nat):Int):=by lia
     rw[wu,<-U8];refine TupsAt.snoc (ht.mono fun b zs e=>?_) ?_
     ·rw[zi (qE e ha (by intro z;cases z)),zi (zf e hna)];exact e
     ·rw[zi (OO (zf ha hna)),zd,e2,e1];rfl
    ·exact fun b o e=>by rw[zi (zf e hacc),zi (zf (S' b o e) hna)];exact S' b o e
   ·rintro σ H2 ⟨v2,xs,rfl,ha,ht,hx,S'⟩;exact⟨_,_,xs,rfl,ha,by rw[we];exact ht,by lia,S'⟩
  ·rintro σ H' ⟨v1,v2,xs,rfl,ha,ht,hx,S'⟩;have e:(((ns.map V.int).length:Int)).toNat=ns.length:=by lia
   rw[e] at ht;exact k acc xs H' ha ht S'
theorem gO (n:Nat)(hn:n<=1000):∀i,i<=n->(vQ n i).length<=i*1000
 |0,_=>by simp[vQ]
 |i+1,h=>by
  have ih:=gO n hn i (by lia);rw[we,UD];have:(jG i (n-i)).length=n-i:=by unfold jG;simp
  lia
theorem qP (n:Nat)(hn:n<=1000):(prs n).length<=1000000:=by
 have:=gO n hn n (Ub _);unfold prs;lia
def SumsAt (ns:List Int)(H:Hp)(xs:List V)(ps:List (Nat×Nat)):Prop:=xs.length=ps.length/\∀(i:Nat) (p:Nat×Nat),ps[i]?=some p->∃a b,xs[i]?=some (.ref a)/\H a=some (.tup [.int (qk ns p.2-qk ns p.1),.ref b])/\H b=some (.tup (g2 p))
theorem SumsAt.nil:SumsAt ns H [] []:=⟨rfl,fun i p h=>by simp at h⟩
theorem SumsAt.mono (h:SumsAt ns H xs ps)(k:∀a zs,H a=some (.tup zs)->H' a=some (.tup zs)):SumsAt ns H' xs ps:=
 ⟨h.1,fun i p e=>let ⟨a,b,h1,h2,h3⟩:=h.2 i p e;⟨a,b,h1,k a _ h2,k b _ h3⟩⟩
theorem SumsAt.snoc {b:Addr}(h:SumsAt ns H xs ps)(ha:H a=some (.tup [.int (qk ns p.2-qk ns p.1),.ref b]))(hb:H b=some (.tup (g2 p))):SumsAt ns H (xs++[.ref a]) (ps++[p]):=by
 refine⟨by rw[UD,UD,h.1];rfl,fun i q e=>?_⟩
 by_cases hi:i<ps.length
 ·rw[Ou hi] at e;obtain⟨c,c2,h1,h2,h3⟩:=h.2 i q e;exact⟨c,c2,by rw[Ou (by rw[h.1];exact hi)];exact h1,h2,h3⟩
 ·have hl:i<(ps++[p]).length:=(Ue.mp e).1;rw[UD] at hl;have hi2:i=ps.length:=by simp only[Uk,UM] at hl;lia
  subst hi2;rw[Ob (Ub _)] at e;simp only[Ry,List.getElem?_cons_zero,R5] at e;subst e;refine⟨a,b,?_,ha,hb⟩;rw[<-h.1,Ob (Ub _)];simp
def hb (ns:List Int)(t:Int->Bool)(p:Nat×Nat):Bool:=t (qk ns p.2-qk ns p.1)
def zm (ns:List Int)(t:Int->Bool):List (Nat×Nat):=(prs ns.length).filter (hb ns t)
theorem take_succ {l:List α}{x:α}(h:l[i]?=some x):l.take (i+1)=l.take i++[x]:=by
 rw[O7,h];rfl
def xI:Sp:=fun vs H Q _=>∃p ns,vs=[.ref p]/\RowAt H p ns/\∀q xs H',H q=none->H' q=some (.lst xs)->SumsAt ns H' xs (prs ns.length)->Same H H'->Q (.ref q) H'
abbrev z7:Stmt:=top 12
theorem Qp:zt ["row","ahead"] ["row"] (zh z7):=fsc_
theorem yy (F:Fun K "summed_stretches" "summed_stretches" z7 f fd)(T:Txt mg)(ZW:zK K mg "sums_ahead" xX ["row"] fa fda)(ZL:zK K mg "stretches_of" jv ["row"] fs fds) :
 FnOk P w K mg base CX0 2 f fd ["row"] xI:=by
 have Q8:FnOk P w K mg base CX0 1 fa fda ["row"] zfv:=pW ZW.fn T;have QY:FnOk P w K mg base CX0 1 fs fds ["row"] zhU:=fZ ZL.fn T;refine F.ok Qp (fun vs H Q E h=>?_) (fun cdv A outer s H vs Q E hr h=>?_)
 ·obtain⟨p,ns,rfl,_⟩:=h;rfl
 ·obtain⟨p,ns,rfl,⟨hp,hl⟩,k⟩:=h
  refine⟨_,(ze (zq (i:=1) Qp.nd rfl (Or.inr rfl) (zl Q8 (hr.mono (by first|decide|exact Ub _)) rfl ZW.mg ZW.fn.kp ZW.bd .nil zp (zb (pv 0) zc)))
   (zj (zr (qf (N:=["low","high","ahead"]) (cap:=[none,none,some 1]) rfl (show qh ["row","ahead"] (zh z7) ["low","high","ahead"] [none,none,some 1] _=true by decide +kernel) (piL (K:=K) rfl (zl QY (hr.mono (by first|decide|exact Ub _)) rfl ZL.mg ZL.fn.kp ZL.bd .nil zp (zb (pv 0) zc))) (fun cl C s3 H3 fp=>⟨(pgT (K:=K) (n:=2) rfl rfl (zI (zo (i:=0) (show(["low","high","ahead"]:List Str).Nodup by decide +kernel) rfl (Or.inl rfl)) (zI (zo (i:=1) (show(["low","high","ahead"]:List Str).Nodup by decide +kernel) rfl (Or.inl rfl)) qm))),qe,fun it acc=>(zP rfl (qu (zb (zk qp (zz (ixT (K:=K) rfl) (pv 2) (pv 1) (fun _ _=>rfl)) (zz (ixT (K:=K) rfl) (pv 2) (pv 0) (fun _ _=>rfl))) (zb (qu (zb (pv 0) (zb (pv 1) zc))) zc))))⟩))))),?_⟩
  refine⟨_,rfl,p,ns,rfl,⟨hp,hl⟩,fun q1 H1 hq1 S1=>?_⟩;refine⟨_,rfl,p,ns,rfl,⟨S1 _ _ hp,hl⟩,fun q2 ys H2 hq2 ht2 S2=>⟨q2,rfl,⟨_,SqL.of hq2⟩,fun acc hacc=>?_⟩⟩;have hq1':=S2 _ _ hq1;have plen:=qP ns.length hl;refine qb (xs:=ys) (fun i σ H'=>∃(v1 v2:Option V) (xs:List V),σ=[v1,v2,some (.ref q1)]/\H' acc=some (.lst xs)/\SumsAt ns H' xs ((prs ns.length).take i)/\Same H2 H') ?_ ?_ ?_ ?_
  ·exact⟨none,none,[],rfl,zd,SumsAt.nil,Same.lay hacc⟩
  ·rintro i σ H' _ ⟨v1,v2,xs,rfl,ha,ht,S'⟩;exact SqL.of (S' _ _ hq2)
  ·rintro i y σ H' hy ⟨v1,v2,xs,rfl,ha,ht,S'⟩;have hi:i<(prs ns.length).length:=by rw[<-ht2.1];exact(Ue.mp hy).1
   obtain⟨a,e1,e2⟩:=ht2.2 i _ (Ua hi);rw[hy] at e1;have e1:y=.ref a:=UK e1;subst e1;obtain⟨⟨lo,hi'⟩,hpr⟩:∃pr,(prs ns.length)[i]=pr:=⟨_,rfl⟩;have hg:(prs ns.length)[i]?=some (lo,hi'):=by rw[Ua hi,hpr]
   rw[hpr] at e2;obtain⟨m1,m2⟩:=jU (Uu hg)
   have xlen:xs.length<=1000000:=by
    rw[ht.1,UA];lia
   refine⟨a,_,rfl,SqT.of (S' _ _ e2),rfl,_,_,rfl,_,_,rfl,rfl,?_⟩;refine⟨_,rfl,_,rfl,q1,_,_,_,rfl,rfl,SqT.of (S' _ _ hq1'),qa (by rw[Up,jl ns _ _ m2];rfl),_,rfl,_,rfl,q1,_,_,_,rfl,rfl,SqT.of (S' _ _ hq1'),qa (by rw[Up,jl ns _ _ (by lia)];rfl),_,_,rfl,rfl,?_⟩;refine⟨_,rfl,_,rfl,by show 2<=sizeLine;decide,fun b hb=>?_⟩;refine⟨by show 2<=sizeLine;decide,fun c hc=>?_⟩;have ha1:=(zi (o:=HO.tup [V.int lo,V.int hi']) (zf ha hb)).trans ha;have ha2:=(zi (o:=HO.tup [V.int (qk ns hi'-qk ns lo),V.ref b]) (zf ha1 hc)).trans ha1;refine⟨xs,ha2,zO xlen,_,_,_,rfl,zd,?_,?_⟩
   ·rw[take_succ hg];have hbc:b≠c:=fun e=>by subst e;rw[zd] at hc;cases hc
    refine SumsAt.snoc (b:=b) (ht.mono fun d zs e=>?_) ?_ ?_
    ·rw[zi (qE e ha (by intro z;cases z)),zi (zf ((zi (zf e hb)).trans e) hc),zi (zf e hb)];exact e
    ·rw[zi (OO (zf ha1 hc)),zd]
    ·rw[zi (OO (zf ha hb)),zi hbc,zd];rfl
   ·exact fun d o e=>by
     have e':=(zi (o:=HO.tup [V.int lo,V.int hi']) (zf (S' d o e) hb)).trans (S' d o e);rw[zi (zf e hacc),zi (zf e' hc)];exact e'
  ·rintro σ H' ⟨v1,v2,xs,rfl,ha,ht,S'⟩;rw[ht2.1,US] at ht;exact k acc xs H' ((S1.trans S2).free hacc) ha ht (S1.trans (S2.trans S'))
theorem zgx (o t:Int):decide (V.int o=V.int t)=decide (o=t):=Rb.mpr ⟨fun h=>by injection h,fun h=>by rw[h]⟩
theorem gz {t:Int->Bool}{tt:TT}{rest:St}(hl:ns.length<=1000)(hq:H q=some (.lst ys))(hs:SumsAt ns H ys (prs ns.length))(hacc:H acc=none)(htt:∀(o:Int) (b:Addr) (H':Hp) (Q:Bool->Hp->Prop),Q (t o) H'->tt (some (.int o)::some (.ref b)::rest) H' Q)(k:∀(u1 u2:Option V) (zs:List V) (H':Hp),H' acc=some (.lst zs)->TupsAt g2 H' zs (zm ns t)->Same H H'->N (u1::u2::rest) H') :
 wI (Itl K q) (zhw K 2 (zaA (zx 0) (zaA (zx 1) zja))) tt (zcU acc (bR 1)) N (none::none::rest) (upd H acc (.lst [])):=by
 have plen:=qP ns.length hl;refine qb (xs:=ys) (fun i σ H'=>∃(v1 v2:Option V) (xs:List V),σ=v1::v2::rest/\H' acc=some (.lst xs)/\TupsAt g2 H' xs (((prs ns.length).take i).filter (hb ns t))/\Same H H') ⟨none,none,[],rfl,zd,by simpa using TupsAt.nil,Same.lay hacc⟩ ?_ ?_ ?_
 ·rintro i σ H' _ ⟨v1,v2,xs,rfl,ha,ht,S'⟩;exact SqL.of (S' _ _ hq)
 ·rintro i y σ H' hy ⟨v1,v2,xs,rfl,ha,ht,S'⟩;have hi:i<(prs ns.length).length:=by rw[<-hs.1];exact(Ue.mp hy).1
  have hg:=Ua hi;obtain⟨a,b,e1,e2,e3⟩:=hs.2 i _ hg;rw[hy] at e1;have e1:y=.ref a:=UK e1;subst e1;generalize (prs ns.length)[i]=pr at e2 e3 hg;have e3':=S' _ _ e3;refine⟨a,_,rfl,SqT.of (S' _ _ e2),rfl,_,_,rfl,_,_,rfl,rfl,htt _ b _ _ ?_⟩;show if hb ns t pr=true then _ else _
  refine qB (fun e=>⟨_,rfl,xs,ha,zO (by rw[ht.1];exact UU (UQ _ _) (by rw[UA];lia)),_,_,_,rfl,zd,?_,fun c o e=>by rw[zi (zf e hacc)];exact S' c o e⟩) (fun e=>⟨_,_,xs,rfl,ha,?_,S'⟩)
  ·rw[xM _ hg,e];exact TupsAt.snoc (ht.mono (qY ha)) (qY ha _ _ e3')
  ·rw[xM _ hg,TU.mpr e];simpa using ht
 ·rintro σ H' ⟨v1,v2,xs,rfl,ha,ht,S'⟩;rw[hs.1,US] at ht;exact k v1 v2 xs H' ha ht S'
def bV:Sp:=fun vs H Q _=>∃(p:Addr) (ns:List Int) (tot:Int),vs=[.ref p,.int tot]/\RowAt H p ns/\∀q xs H',H q=none->H' q=some (.lst xs)->TupsAt g2 H' xs (zm ns (fun s=>decide (s=tot)))->Same H H'->Q (.ref q) H'
abbrev qG:Stmt:=top 18
theorem zcd:zt ["row","total"] ["row","total"] (zh qG):=fsc_
theorem zcs (F:Fun K "all_with" "all_with" qG f fd)(T:Txt mg)(Zb:zK K mg "summed_stretches" z7 ["row"] fz fdz)(Zn:FnOk P w K mg base CX0 2 fz fdz ["row"] xI) :
 FnOk P w K mg base CX0 3 f fd ["row","total"] bV:=by
 refine F.ok zcd (fun vs H Q E h=>?_) (fun cdv A outer s H vs Q E hr h=>?_)
 ·obtain⟨p,ns,tot,rfl,_⟩:=h;rfl
 ·obtain⟨p,ns,tot,rfl,⟨hp,hl⟩,k⟩:=h;refine⟨_,(zj (zr (qf (N:=["own","stretch","total"]) (cap:=[none,none,some 1]) rfl (show qh ["row","total"] (zh qG) ["own","stretch","total"] [none,none,some 1] _=true by decide +kernel) (piL (K:=K) rfl (zl Zn (hr.mono (by first|decide|exact Ub _)) rfl Zb.mg Zb.fn.kp Zb.bd .nil zp (zb (pv 0) zc))) (fun cl C s3 H3 fp=>⟨(pgT (K:=K) (n:=2) rfl rfl (zI (zo (i:=0) (show(["own","stretch","total"]:List Str).Nodup by decide +kernel) rfl (Or.inl rfl)) (zI (zo (i:=1) (show(["own","stretch","total"]:List Str).Nodup by decide +kernel) rfl (Or.inl rfl)) qm))),(xm (zw qU (pv 0) (pv 2) (zH _))),fun it acc=>(zP rfl (pv 1))⟩)))),?_⟩;refine⟨_,rfl,p,ns,rfl,⟨hp,hl⟩,fun q2 ys H2 _ hq2 ht2 S2=>⟨q2,rfl,⟨_,SqL.of hq2⟩,fun acc hacc=>?_⟩⟩;exact gz (rest:=[some (.int tot)]) hl hq2 ht2 hacc (fun o b H' Q q=>⟨_,rfl,_,rfl,rfl,_,rfl,by rw[zgx];exact q⟩) fun _ _ zs H' h1 h2 S'=>k acc zs H' (S2.free hacc) h1 h2 (S2.trans S')
theorem dm (f:Nat->Int):∀{n j:Nat},pick (fun i k=>decide (f i<f k)) n=some j->(∀i,i<n->f j<=f i)/\∀i,i<j->f j<f i
 |0,_,h=>by cases h
 |n+1,j,h=>by
  have hj:=yp h;unfold pick at h
  cases e:pick (fun i k=>decide (f i<f k)) n with
  |none=>
   have hn:=jm e;subst hn;have:j=0:=by lia
   subst this;exact⟨fun i hi=>by(have:i=0:=by lia);subst this;exact RQ _,fun i hi=>absurd hi (Nat.not_lt_zero _)⟩
  |some k=>
   rw[e] at h;obtain⟨h1,h2⟩:=dm f e;have hk:=yp e
   by_cases hb:f n<f k
   ·simp only[Uy hb,Tp,R5] at h;subst h
    exact⟨fun i hi=>by
     by_cases hi':i=n
     ·subst hi';exact RQ _
     ·have:=h1 i (by lia);lia,fun i hi=>by have:=h1 i (by lia);lia⟩
   ·simp only[UE hb,UW,OR,R5] at h;subst h
    exact⟨fun i hi=>by
     by_cases hi':i=n
     ·subst hi';lia
     ·exact h1 i (by lia),h2⟩
theorem dq {bt:Nat->Nat->Bool}:∀n,0<n->(∀i,i<n->bt i 0=false)->pick bt n=some 0
 |0,h,_=>absurd h (O4 _)
 |1,_,_=>rfl
 |n+2,_,hb=>by
  have ih:=dq (n+1) (Nat.succ_pos _) fun i hi=>hb i (by lia);show(match pick bt (n+1) with|none=>some (n+1)|some j=>if bt (n+1) j then some (n+1) else some j)=some 0;rw[ih];simp only[hb (n+1) (by lia),UW,OR]
def pLt (a b:Nat×Nat):Prop:=a.1<b.1∨a.1=b.1/\a.2<b.2
theorem gn (lo:Nat):∀j,(jG lo j).Pairwise pLt
 |0=>by unfold jG;simp
 |j+1=>by
  rw[wu,U5];refine⟨gn lo j,by simp,fun a ha b hb=>?_⟩;unfold jG at ha;obtain⟨t,ht,rfl⟩:=U6.mp ha;have hb:b=(lo,lo+1+j):=by simpa using hb
  subst hb;have:=OD.mp ht;exact .inr ⟨rfl,by show lo+1+t<lo+1+j;lia⟩
theorem kP (n:Nat):∀i,(vQ n i).Pairwise pLt/\∀p∈vQ n i,p.1<i
 |0=>by unfold vQ;simp
 |i+1=>by
  obtain⟨h1,h2⟩:=kP n i
  have h3:∀p∈jG i (n-i),p.1=i:=fun p hp=>by
   unfold jG at hp;obtain⟨t,_,rfl⟩:=U6.mp hp;rfl
  rw[we];refine⟨U5.mpr ⟨h1,gn _ _,fun a ha b hb=>.inl (by rw[h3 b hb];exact h2 a ha)⟩,fun p hp=>?_⟩;rcases UJ.mp hp with h|h
  ·have:=h2 p h;lia
  ·rw[h3 p h];exact Rr _
theorem qA (ns:List Int)(t:Int->Bool):(zm ns t).Pairwise pLt:=(kP _ _).1.filter _
def pI (p:Nat×Nat):List Int:=[(p.1:Int),(p.2:Int)]
theorem zj7 (p:Nat×Nat):g2 p=(pI p).map V.int:=rfl
theorem ziW (p q:Nat×Nat)(h:p=q∨pLt p q):HT.lexLt (pI q) (pI p)=false:=by
 obtain⟨p1,p2⟩:=p;obtain⟨q1,q2⟩:=q
 have h':(p1=q1/\p2=q2)∨p1<q1∨(p1=q1/\p2<q2):=by
  rcases h with h|h|h
  ·cases h;exact .inl ⟨rfl,rfl⟩
  ·exact .inr (.inl h)
  ·exact .inr (.inr h)
 show HT.lexLt [(q1:Int),(q2:Int)] [(p1:Int),(p2:Int)]=false;rw[HT.lexLt_cons,HT.lexLt_cons,HT.lexLt_nil_nil]
 by_cases e1:(q1:Int)=(p1:Int)
 ·rw[Uv e1]
  by_cases e2:(q2:Int)=(p2:Int)
  ·rw[Uv e2]
  ·rw[Ur e2];exact UE (by lia)
 ·rw[Ur e1];exact UE (by lia)
def firstOf (ps:List (Nat×Nat)):Option (Nat×Nat):=ps[0]?
def qg (ps:List (Nat×Nat))(i:Nat):Int:=(((ps.getD i (0,0)).2:Nat):Int)-(((ps.getD i (0,0)).1:Nat):Int)
def xD (ps:List (Nat×Nat)):Option (Nat×Nat):=(pick (fun i k=>if false then decide (qg ps i<qg ps k) else decide (qg ps k<qg ps i)) ps.length).bind fun j=>ps[j]?
def jQ (ps:List (Nat×Nat)):Option (Nat×Nat):=(pick (fun i k=>if true then decide (qg ps i<qg ps k) else decide (qg ps k<qg ps i)) ps.length).bind fun j=>ps[j]?
def OptAt (H:Hp)(v:V)(o:Option (Nat×Nat)):Prop:=match o with
 |none=>v=.non
 |some p=>∃a,v=.ref a/\H a=some (.tup (g2 p))
theorem OptAt.mono (h:OptAt H v o)(s:Same H H'):OptAt H' v o:=by
 cases o with
 |none=>exact h
 |some p=>obtain⟨a,e1,e2⟩:=h;exact⟨a,e1,s _ _ e2⟩
theorem TupsAt.opt (h:TupsAt g2 H xs ps){x:V}(hx:xs[j]?=some x):OptAt H x ps[j]?:=by
 have hj:j<ps.length:=by rw[<-h.1];exact(Ue.mp hx).1
 obtain⟨a,e1,e2⟩:=h.2 j _ (Ua hj);rw[hx] at e1;cases e1;rw[Ua hj];exact⟨a,rfl,e2⟩
def zfC:Sp:=fun vs H Q _=>∃(a:Addr) (p:Nat×Nat),vs=[.ref a]/\H a=some (.tup (g2 p))/\Q (.int ((p.2:Int)-(p.1:Int))) H
def gC (o:List (Nat×Nat)->Option (Nat×Nat)):Sp:=fun vs H Q _=>∃(l:Addr) (xs:List V) (ps:List (Nat×Nat)),vs=[.ref l]/\H l=some (.lst xs)/\TupsAt g2 H xs ps/\ps.Pairwise pLt/\∀v H',OptAt H' v (o ps)->Same H H'->Q v H'
abbrev xc:Stmt:=top 13
theorem Qy:zt ["stretch","low","high"] ["stretch"] (zh xc):=fsc_
theorem kY (F:Fun K "length_of" "length_of" xc f fd)(T:Txt mg):FnOk P w K mg base CX0 1 f fd ["stretch"] zfC:=by
 refine F.ok Qy (fun vs H Q E h=>?_) (fun cdv A outer s H vs Q E hr h=>?_)
 ·obtain⟨a,p,rfl,_⟩:=h;rfl
 ·obtain⟨a,p,rfl,ha,k⟩:=h
  refine⟨_,(ze (xB (pv 0) (pgT (K:=K) (n:=2) rfl rfl (zI (zo (i:=1) Qy.nd rfl (Or.inl rfl)) (zI (zo (i:=2) Qy.nd rfl (Or.inl rfl)) qm))))
   (zj (zr (zk qp (pv 2) (pv 1))))),?_⟩
  refine⟨_,rfl,a,_,rfl,SqT.of ha,rfl,_,_,rfl,_,_,rfl,rfl,?_⟩;exact⟨_,rfl,_,rfl,_,_,rfl,rfl,k⟩
abbrev yU:Stmt:=top 14
theorem zcc:zt ["stretches"] ["stretches"] (zh yU):=fsc_
theorem zcr (F:Fun K "first_of" "first_of" yU f fd)(T:Txt mg):FnOk P w K mg base CX0 2 f fd ["stretches"] (gC firstOf):=by
 refine F.ok zcc (fun vs H Q E h=>?_) (fun cdv A outer s H vs Q E hr h=>?_)
 ·obtain⟨l,xs,ps,rfl,_⟩:=h;rfl
 ·obtain⟨l,xs,ps,rfl,hq,ht,hs,k⟩:=h;have hu1:=(Room.in1 (k:=0) hr).units0;refine⟨_,(zj (zr (gP (zkb (K:=K) rfl rfl hu1) (by rfl) T.b_min PyProof.Rows.Boot.«min» (zb (pv 0) zc) (xn xC dj)))),?_⟩;refine⟨_,rfl,l,xs,fun i=>pI (ps.getD i (0,0)),rfl,rfl,SqL.of hq,fun i x hx=>?_,fun H2 S2=>?_⟩
  ·have hi:i<ps.length:=by rw[<-ht.1];exact(Ue.mp hx).1
   obtain⟨a,e1,e2⟩:=ht.2 i _ (Ua hi);rw[hx] at e1;cases e1;refine⟨a,rfl,?_⟩;rw[e2,zj7];simp[getD,Ua hi]
  ·by_cases h0:0<xs.length
   ·rw[dq xs.length h0 ?_]
    ·intro x hx;exact k x H2 ((ht.mono (qi S2)).opt hx) S2
    ·intro i hi;refine ziW _ _ ?_;rw[ht.1] at hi h0;simp only[getD,Ua hi,Ua h0,getD_some]
     by_cases hi0:i=0
     ·subst hi0;exact .inl rfl
     ·exact .inr (Oh.mp hs 0 i h0 hi (by lia))
   ·have e:xs.length=0:=by lia
    have e2:ps=[]:=List.length_eq_zero_iff.mp (by rw[<-ht.1];exact e);rw[e];exact k .non H2 (by rw[e2];rfl) S2
abbrev xY:Stmt:=top 15
theorem pU:zt ["stretches"] ["stretches"] (zh xY):=fsc_
theorem pY {fl:Addr}(F:Fun K "longest_of" "longest_of" xY f fd)(T:Txt mg)(ZF:zK K mg "length_of" xc ["stretch"] fl fdl):FnOk P w K mg base CX0 3 f fd ["stretches"] (gC xD):=by
 have QH:FnOk P w K mg base CX0 1 fl fdl ["stretch"] zfC:=kY ZF.fn T;refine F.ok pU (fun vs H Q E h=>?_) (fun cdv A outer s H vs Q E hr h=>?_)
 ·obtain⟨l,xs,ps,rfl,_⟩:=h;rfl
 ·obtain⟨l,xs,ps,rfl,hq,ht,hs,k⟩:=h;have hr1:=Room.in1 (k:=1) hr;refine⟨_,(zj (zr (gP (zka false (K:=K) QH hr1 ZF.bd rfl rfl) (by rfl) T.b_max PyProof.Rows.Boot.«max» (zb (pv 0) zc) (xn (qQ (v:=.ref _) (by rfl) ZF.mg rfl) (xn xC dj))))),?_⟩;refine⟨_,rfl,l,xs,qg ps,rfl,rfl,SqL.of hq,fun i x H' Qk hx S' hQ=>?_,fun H2 S2=>?_⟩
  ·have hi:i<ps.length:=by rw[<-ht.1];exact(Ue.mp hx).1
   obtain⟨a,e1,e2⟩:=ht.2 i _ (Ua hi);rw[hx] at e1;cases e1;refine⟨a,_,rfl,S' _ _ e2,?_⟩;have e:qg ps i=((ps[i]).2:Int)-((ps[i]).1:Int):=by unfold qg;simp[getD,Ua hi]
   rw[<-e];exact hQ H' (Same.refl _)
  ·rw[ht.1]
   cases e:pick (fun i k=>if false then decide (qg ps i<qg ps k) else decide (qg ps k<qg ps i)) ps.length with
   |none=>exact k .non H2 (by unfold xD;rw[e];rfl) S2
   |some j=>
    intro x hx;refine k x H2 ?_ S2;unfold xD;rw[e];exact(ht.mono (qi S2)).opt hx
abbrev xw:Stmt:=top 16
theorem bZ:zt ["stretches"] ["stretches"] (zh xw):=fsc_
theorem dA {fl:Addr}(F:Fun K "shortest_of" "shortest_of" xw f fd)(T:Txt mg)(ZF:zK K mg "length_of" xc ["stretch"] fl fdl):FnOk P w K mg base CX0 3 f fd ["stretches"] (gC jQ):=by
 have QH:FnOk P w K mg base CX0 1 fl fdl ["stretch"] zfC:=kY ZF.fn T;refine F.ok bZ (fun vs H Q E h=>?_) (fun cdv A outer s H vs Q E hr h=>?_)
 ·obtain⟨l,xs,ps,rfl,_⟩:=h;rfl
 ·obtain⟨l,xs,ps,rfl,hq,ht,hs,k⟩:=h;have hr1:=Room.in1 (k:=1) hr;refine⟨_,(zj (zr (gP (zka true (K:=K) QH hr1 ZF.bd rfl rfl) (by rfl) T.b_min PyProof.Rows.Boot.«min» (zb (pv 0) zc) (xn (qQ (v:=.ref _) (by rfl) ZF.mg rfl) (xn xC dj))))),?_⟩;refine⟨_,rfl,l,xs,qg ps,rfl,rfl,SqL.of hq,fun i x H' Qk hx S' hQ=>?_,fun H2 S2=>?_⟩
  ·have hi:i<ps.length:=by rw[<-ht.1];exact(Ue.mp hx).1
   obtain⟨a,e1,e2⟩:=ht.2 i _ (Ua hi);rw[hx] at e1;cases e1;refine⟨a,_,rfl,S' _ _ e2,?_⟩;have e:qg ps i=((ps[i]).2:Int)-((ps[i]).1:Int):=by unfold qg;simp[getD,Ua hi]
   rw[<-e];exact hQ H' (Same.refl _)
  ·rw[ht.1]
   cases e:pick (fun i k=>if true then decide (qg ps i<qg ps k) else decide (qg ps k<qg ps i)) ps.length with
   |none=>exact k .non H2 (by unfold jQ;rw[e];rfl) S2
   |some j=>
    intro x hx;refine k x H2 ?_ S2;unfold jQ;rw[e];exact(ht.mono (qi S2)).opt hx
theorem zee:∀{ns:List Int},Few ns->ns.sum.natAbs<=ns.length*10^12
 |[],_=>by simp
 |n::r,h=>by
  have h1:=zee (ns:=r) fun x hx=>h x (Uh _ hx);have h2:=h n (Ug ..);rw[OH,Uk];lia
theorem zcn {ms:List Int}(hf:Few ns)(hl:ns.length<=60)(hm:∀x∈ms,x∈ns)(hk:ms.length<=ns.length):ms.sum.natAbs<10^14:=by
 have h:=zee (ns:=ms) fun x hx=>hf x (hm x hx);have:ms.length*10^12<=60*10^12:=Nat.mul_le_mul_right _ (by lia);lia
theorem zhB (hf:Few ns)(hl:ns.length<=60)(lo hi:Option Int):(zbD ns lo hi).sum.natAbs<10^14:=by
 unfold zbD;refine zcn hf hl (fun x hx=>Nu (RL hx)) ?_;rw[UA,Rf];lia
def wb (lo hi:Int):Int->Bool:=fun s=>decide (lo<=s)&&decide (s<=hi)
def bW:Sp:=fun vs H Q _=>∃(p:Addr) (ns:List Int),vs=[.ref p]/\RowAt H p ns/\∀q H',H q=none->H' q=some (.lst ((jF ns ns.length).map V.int))->Same H H'->Q (.ref q) H'
def bU:Sp:=fun vs H Q _=>∃(p:Addr) (ns:List Int) (lo hi:Int),vs=[.ref p,.int lo,.int hi]/\RowAt H p ns/\ns.length<=60/\∀q xs H',H q=none->H' q=some (.lst xs)->TupsAt g2 H' xs (zm ns (wb lo hi))->Same H H'->Q (.ref q) H'
def zc5 (K:Frag):Sp:=fun vs H Q _=>∃(a p:Addr) (scr:List Int) (at':Int) (ns:List Int),vs=[.ref a,.int at',.ref p]/\Scr K H a scr/\0<=at'/\at'<100000/\RowAt H p ns/\ns.length<=60/\Few ns/\∀(r:Int) (H':Hp),r.natAbs<10^14->Same H H'->Q (.int r) H'
theorem zaB (ns:List Int):(ns.map V.int).all yN=true:=by
 rw[NV,OE];intro x _;rfl
theorem vE (f:α->Bool)(l:List α)(x:α):(l++[x]).filter f=l.filter f++if f x then[x] else[]:=by
 rw[O0]
 cases h:f x<;>simp[h]
abbrev xi:Stmt:=top 65
theorem Qz:zt ["row","found","number"] ["row"] (zh xi):=fsc_
theorem zcu (F:Fun K "_law_ahead" "_law_ahead" xi f fd)(T:Txt mg):FnOk P w K mg base CX0 1 f fd ["row"] bW:=by
 refine F.ok Qz (fun vs H Q E h=>?_) (fun cdv A outer s H vs Q E hr h=>?_)
 ·obtain⟨p,ns,rfl,_⟩:=h;rfl
 ·obtain⟨p,ns,rfl,⟨hp,hl⟩,k⟩:=h
  refine⟨_,(ze (zq (i:=1) Qz.nd rfl (Or.inl rfl) (zR (zb zg zc)))
   (ze (qI U7 rfl (piT (K:=K) rfl (pv 0)) (zo (i:=2) Qz.nd rfl (Or.inl rfl))
     (zj (jd (jo Od U3 U9 qw (pv 1) (zb (zk zM (zz (ixL (K:=K) rfl) (pv 1) (kT xU zg) (fun _ _=>rfl)) (pv 2)) zc)))))
   (zj (zr (pv 1))))),?_⟩
  refine⟨by show 1<=sizeLine;decide,fun l hl1=>?_⟩;have S1:Same H (upd H l (.lst [.int 0])):=Same.lay hl1;refine⟨_,rfl,p,rfl,⟨_,SqT.of (S1 _ _ hp)⟩,zbz (xs:=ns.map V.int) (fun i σ H'=>∃v2:Option V,σ=[some (.ref p),some (.ref l),v2]/\Same H H'/\H' l=some (.lst ((jF ns i).map V.int))) ?_ ?_ ?_ ?_⟩
  ·exact⟨none,rfl,S1,zd⟩
  ·rintro i σ H' _ ⟨v2,rfl,S',_⟩;exact SqT.of (S' _ _ hp)
  ·rintro i x σ H' hx ⟨v2,rfl,S',ha⟩;obtain⟨n,hn,rfl⟩:∃n,ns[i]?=some n/\V.int n=x:=by rw[Up] at hx;exact UT.mp hx
   have hi:i<ns.length:=(Ue.mp hn).1;have ha':H' l=some (.lst (((List.range i).map (qk ns)).map V.int++[.int (qk ns i)])):=by rw[ha,yZ,Ux];rfl
   refine⟨_,rfl,.inl ⟨rfl,_,SqL.of ha⟩,_,rfl,1,rfl,l,_,_,_,rfl,rfl,SqL.of ha',pD _ _,_,rfl,_,_,rfl,rfl,l,_,_,rfl,rfl,ha,zO (by rw[Ud,zam];lia),?_⟩;refine⟨_,rfl,fun b o e=>by rw[zi (zf e hl1)];exact S' b o e,?_⟩;rw[zd,di,Ux,zan hn];rfl
  ·rintro σ H' ⟨v2,rfl,S',ha⟩;rw[Ud] at ha;exact⟨_,rfl,k l _ hl1 ha S'⟩
abbrev jK:Stmt:=top 66
theorem Z0:zt ["row","low_sum","high_sum","ahead","found","low","high","total"] ["row","low_sum","high_sum"] (zh jK):=fsc_
theorem zhh (F:Fun K "_law_with" "_law_with" jK f fd)(T:Txt mg)(Zs:zK K mg "_law_ahead" xi ["row"] fa fda):FnOk P w K mg base CX0 2 f fd ["row","low_sum","high_sum"] bU:=by
 have QB:FnOk P w K mg base CX0 1 fa fda ["row"] bW:=zcu Zs.fn T;refine F.ok Z0 (fun vs H Q E h=>?_) (fun cdv A outer s H vs Q E hr h=>?_)
 ·obtain⟨p,ns,lo,hi,rfl,_⟩:=h;rfl
 ·obtain⟨p,ns,lo,hi,rfl,⟨hp,hl⟩,hl60,k⟩:=h;have hsl:=UV;have hlm:(ns.map V.int).length=ns.length:=Ud _
  refine⟨_,(ze (zq (i:=3) Z0.nd rfl (Or.inl rfl) (zl QB (hr.mono (by first|decide|exact Ub _)) rfl Zs.mg Zs.fn.kp Zs.bd .nil zp (zb (pv 0) zc)))
   (ze (zq (i:=4) Z0.nd rfl (Or.inl rfl) (zR zc))
   (ze (qI U7 rfl (jO (by rfl) T.b_range (zb (zv (jh (K:=K) rfl) (by rfl) T.b_len PyProof.Rows.Boot.«len» (zb (pv 0) zc)) zc)) (zo (i:=5) Z0.nd rfl (Or.inl rfl))
     (zj (qI U7 rfl (zap (by rfl) T.b_range (zb (zk zM (pv 5) zg) (zb (zk zM (zv (jh (K:=K) rfl) (by rfl) T.b_len PyProof.Rows.Boot.«len» (zb (pv 0) zc)) zg) zc))) (zo (i:=6) Z0.nd rfl (Or.inl rfl))
       (ze (zq (i:=7) Z0.nd rfl (Or.inl rfl) (zk qp (zz (ixL (K:=K) rfl) (pv 3) (pv 6) (fun _ _=>rfl)) (zz (ixL (K:=K) rfl) (pv 3) (pv 5) (fun _ _=>rfl))))
       (zj (z8 (PW.pt (vj (zw wC (pv 1) (pv 7) (zH _)) (jC (zw wC (pv 7) (pv 2) (zH _)))))
         (zj (jd (jo Od U3 U9 qw (pv 4) (zb (qu (zb (pv 5) (zb (pv 6) zc))) zc))))
         zL))))))
   (zj (zr (pv 4)))))),?_⟩
  refine⟨_,rfl,p,ns,rfl,⟨hp,hl⟩,fun ah H1 _ hah S1=>?_⟩;dsimp only[zx];refine⟨by show 0<=sizeLine;lia,fun l hl1=>?_⟩;have S2:Same H1 (upd H1 l (.lst [])):=Same.lay hl1;dsimp only[zx];have hp1:=S1 _ _ hp;refine⟨_,rfl,p,_,rfl,.inr (SqT.of (S2 _ _ hp1)),_,rfl,by lia,by lia,vB (n:=((ns.map V.int).length:Int).toNat) (fun i σ H'=>∃(v5 v6 v7:Option V) (xs:List V),σ=[some (.ref p),some (.int lo),some (.int hi),some (.ref ah),some (.ref l),v5,v6,v7]/\H' l=some (.lst xs)/\TupsAt g2 H' xs ((vQ ns.length i).filter (hb ns (wb lo hi)))/\xs.length<=i*1000/\Same H1 H') ?_ ?_ ?_⟩
  ·exact⟨none,none,none,[],rfl,zd,TupsAt.nil,by simp,S2⟩
  ·rintro i σ H' hi' ⟨v5,v6,v7,xs,rfl,ha,ht,hx,S'⟩;dsimp only[zx];refine⟨_,rfl,_,_,rfl,rfl,_,rfl,p,_,rfl,.inr (SqT.of (S' _ _ hp1)),_,_,rfl,rfl,_,_,rfl,⟨by lia,by lia,by lia,by lia⟩,?_⟩;have ej:((((ns.map V.int).length:Int)+1)-(0+(i:Int)+1)).toNat=ns.length-i:=by lia
   rw[ej];refine vB (fun j σ H'=>∃(v6 v7:Option V) (xs:List V),σ=[some (.ref p),some (.int lo),some (.int hi),some (.ref ah),some (.ref l),some (.int (0+(i:Int))),v6,v7]/\H' l=some (.lst xs)/\TupsAt g2 H' xs ((vQ ns.length i++jG i j).filter (hb ns (wb lo hi)))/\xs.length<=i*1000+j/\Same H1 H') ?_ ?_ ?_
   ·exact⟨v6,v7,xs,rfl,ha,by simpa[jG] using ht,by lia,S'⟩
   ·rintro j σ H2 hj ⟨v6,v7,xs,rfl,ha,ht,hx,S'⟩;have hij:i+1+j<=ns.length:=by lia
    have e1:(0:Int)+(i:Int)=((i:Nat):Int):=by lia
    have e2:(0:Int)+(i:Int)+1+(j:Int)=((i+1+j:Nat):Int):=by lia
    have at1:atI ((jF ns ns.length).map V.int) (0+(i:Int)+1+(j:Int))=some (.int (qk ns (i+1+j))):=by rw[e2];exact qa (by rw[Up,jl ns _ _ hij];rfl)
    have at2:atI ((jF ns ns.length).map V.int) (0+(i:Int))=some (.int (qk ns i)):=by rw[e1];exact qa (by rw[Up,jl ns _ _ (by lia)];rfl)
    have hah2:=S' _ _ hah;dsimp only[zx];refine⟨_,rfl,_,rfl,ah,_,_,_,rfl,rfl,SqL.of hah2,at1,_,rfl,_,rfl,ah,_,_,_,rfl,rfl,SqL.of hah2,at2,_,_,rfl,rfl,?_⟩;dsimp only[zx]
    have hno:∀(v6' v7':Option V),hb ns (wb lo hi) (i,i+1+j)=false->∃(v6 v7:Option V) (xs:List V),[some (V.ref p),some (.int lo),some (.int hi),some (.ref ah),some (.ref l),some (.int (0+(i:Int))),v6',v7']=[some (.ref p),some (.int lo),some (.int hi),some (.ref ah),some (.ref l),some (.int (0+(i:Int))),v6,v7]/\H2 l=some (.lst xs)/\TupsAt g2 H2 xs ((vQ ns.length i++jG i (j+1)).filter (hb ns (wb lo hi)))/\xs.length<=i*1000+(j+1)/\Same H1 H2:=fun v6' v7' hf=>
     ⟨v6',v7',xs,rfl,ha,by rw[wu,<-U8,vE,hf];simpa using ht,by lia,S'⟩
    have hbd:hb ns (wb lo hi) (i,i+1+j)=(decide (lo<=qk ns (i+1+j)-qk ns i)&&decide (qk ns (i+1+j)-qk ns i<=hi)):=rfl;refine⟨_,rfl,_,rfl,_,_,rfl,rfl,_,rfl,qB (fun c1=>⟨_,rfl,_,rfl,_,_,rfl,rfl,_,rfl,qB (fun c2=>?_) (fun c2=>?_)⟩) (fun c1=>qz ?_)⟩
    ·have hf:hb ns (wb lo hi) (i,i+1+j)=true:=by
      rw[hbd,OQ];exact⟨c1,c2⟩
     refine⟨_,rfl,.inl ⟨rfl,_,SqL.of ha⟩,_,rfl,_,rfl,by show 2<=sizeLine;decide,fun tp hna=>⟨l,xs,_,rfl,rfl,(zi (zf ha hna)).trans ha,zO (by lia),?_⟩⟩;refine⟨_,_,xs++[.ref tp],rfl,zd,?_,by rw[UD];simp only[Uk,UM];lia,?_⟩
     ·rw[wu,<-U8,vE,hf];refine TupsAt.snoc (ht.mono fun b zs e=>?_) ?_
      ·rw[zi (qE e ha (by intro z;cases z)),zi (zf e hna)];exact e
      ·rw[zi (OO (zf ha hna)),zd,e2,e1];rfl
     ·exact fun b o e=>by rw[zi (zf e hl1),zi (zf (S' b o e) hna)];exact S' b o e
    ·refine hno _ _ ?_;rw[hbd,Np];exact .inr (Rt _ |>.mp c2)
    ·refine hno _ _ ?_;rw[hbd,Np];exact .inl (Rt _ |>.mp c1)
   ·rintro σ H2 ⟨v6,v7,xs,rfl,ha,ht,hx,S'⟩;exact⟨_,_,_,xs,rfl,ha,by rw[we];exact ht,by lia,S'⟩
  ·rintro σ H' ⟨v5,v6,v7,xs,rfl,ha,ht,hx,S'⟩;have e:(((ns.map V.int).length:Int)).toNat=ns.length:=by lia
   rw[e] at ht;exact⟨_,rfl,k l xs H' (S1.free hl1) ha ht (S1.trans S')⟩
abbrev xg:Stmt:=top 67
theorem QN:zt ["script","at","row","low"] ["script","at","row"] (zh xg):=fsc_
theorem zf3 (F:Fun K "_law_total" "_law_total" xg f fd)(T:Txt mg)(Za:zK K mg "_law_draw" qF ["script","k"] fw fdw)(Zk:zK K mg "_law_number" qO ["script","at","most"] fn fdn):FnOk P w K mg base CX0 3 f fd ["script","at","row"] (zc5 K):=by
 have Zd:FnOk P w K mg base CX0 1 fw fdw ["script","k"] (wR K):=bE Za.fn T;have ZZ:FnOk P w K mg base CX0 2 fn fdn ["script","at","most"] (zaX K):=gV Zk.fn T Za;refine F.ok QN (fun vs H Q E h=>?_) (fun cdv A outer s H vs Q E hr h=>?_)
 ·obtain⟨a,p,scr,at',ns,rfl,_⟩:=h;rfl
 ·obtain⟨a,p,scr,at',ns,rfl,hS,a0,a1,⟨hp,hl⟩,hl60,hf,k⟩:=h;have hu:=hr.units0;have hsl:=UV
  refine⟨_,(ze (z8 (PW.pt (vj (zw (oNe (K:=K) rfl true hu) (pv 2) (qu zc) (zH _)) (jC (zw zas (zk zS (zl Zd (hr.mono (by first|decide|exact Ub _)) rfl Za.mg Za.fn.kp Za.bd .nil zp (zb (pv 0) (zb (pv 1) zc))) zg) zg (zH _)))))
   (ze (zq (i:=3) QN.nd rfl (Or.inl rfl) (zk zS (zl Zd (hr.mono (by first|decide|exact Ub _)) rfl Za.mg Za.fn.kp Za.bd .nil zp (zb (pv 0) (zb (zk zM (pv 1) zg) zc))) (zv (jh (K:=K) rfl) (by rfl) T.b_len PyProof.Rows.Boot.«len» (zb (pv 2) zc))))
   (zj (zr (zv (zkR (K:=K) rfl rfl true) (by rfl) T.b_sum PyProof.Rows.Boot.«sum» (zb (kU ziv (pv 2) (kQ (pv 3)) (kQ (zk zM (zk zM (pv 3) zg) (zk zS (zl Zd (hr.mono (by first|decide|exact Ub _)) rfl Za.mg Za.fn.kp Za.bd .nil zp (zb (pv 0) (zb (zk zM (pv 1) zg) zc))) (zk qp (zv (jh (K:=K) rfl) (by rfl) T.b_len PyProof.Rows.Boot.«len» (zb (pv 2) zc)) (pv 3)))))) zc)))))
   zL)
   (ze (z8 (zw qU (zk zS (zl Zd (hr.mono (by first|decide|exact Ub _)) rfl Za.mg Za.fn.kp Za.bd .nil zp (zb (pv 0) (zb (zk zM (pv 1) zg) zc))) zg) zg (zH _))
     (zj (zr (zl ZZ (hr.mono (by first|decide|exact Ub _)) rfl Zk.mg Zk.fn.kp Zk.bd .nil zp (zb (pv 0) (zb (zk zM (pv 1) zg) (zb zg zc))))))
     zL)
   (zj (zr (zk qp (zk zS (zl Zd (hr.mono (by first|decide|exact Ub _)) rfl Za.mg Za.fn.kp Za.bd .nil zp (zb (pv 0) (zb (zk zM (pv 1) zg) zc))) zg) zg))))),?_⟩
  refine⟨_,rfl,by show 0<=sizeLine;lia,fun e0 he0=>?_⟩;have S1:Same H (upd H e0 (.tup [])):=Same.lay he0;have he01:upd H e0 (.tup []) e0=some (.tup []):=zd;generalize upd H e0 (.tup [])=H1 at S1 he01;refine⟨p,e0,_,[],rfl,rfl,SqT.of (S1 _ _ hp),SqT.of he01,zaB ns,rfl,_,rfl,qB (fun e=>?_) (fun e=>qz ?_)⟩
  focus
   have hns:0<ns.length:=by
    cases ns with
    |nil=>exact absurd e (by decide)
    |cons _ _=>simp
   refine⟨_,rfl,_,rfl,a,scr,at',rfl,hS.same S1,a0,by lia,fun r1 H2 _ _ S2=>⟨_,_,rfl,rfl,(by show(0:Int)<_;decide),_,_,rfl,rfl,_,rfl,qB (fun e1=>?_) (fun e1=>?_)⟩⟩
   focus
    have Z2:=S1.trans S2;refine⟨_,rfl,_,rfl,_,_,rfl,rfl,a,scr,_,rfl,hS.same Z2,by lia,by lia,fun r2 H3 _ _ S3=>⟨_,rfl,p,_,rfl,.inr (SqT.of (S3 _ _ (Z2 _ _ hp))),_,_,rfl,rfl,(by show(0:Int)<_;rw[Ud];lia),?_⟩⟩;rw[Ud];have⟨l0,l1⟩:=mod_lt r2 (ns.length:Int) (by lia);dsimp only[zx];generalize r2%(ns.length:Int)=lo at l0 l1;have Z3:=Z2.trans S3;refine⟨_,rfl,_,rfl,_,rfl,_,rfl,_,_,rfl,rfl,_,rfl,_,rfl,_,_,rfl,rfl,a,scr,_,rfl,hS.same Z3,by lia,by lia,fun r3 H4 _ _ S4=>?_⟩;have Z4:=Z3.trans S4;refine⟨_,rfl,p,_,rfl,.inr (SqT.of (Z4 _ _ hp)),_,rfl,_,_,rfl,rfl,_,_,rfl,rfl,(by show(0:Int)<_;rw[Ud];lia),_,_,rfl,rfl,_,rfl,p,_,rfl,Z4 _ _ hp,fun z H5 S5 hz=>⟨z,zbD ns _ _,rfl,SqT.of (by rw[<-d9];exact hz),k _ _ (zhB hf hl60 _ _) (Z4.trans S5)⟩⟩
   obtain⟨Hx,hHx⟩:∃Hx,H2=Hx:=⟨_,rfl⟩;have Zx:Same H Hx:=hHx▸S1.trans S2;rw[hHx]
  rotate_left
  focus
   obtain⟨Hx,hHx⟩:∃Hx,H1=Hx:=⟨_,rfl⟩;have Zx:Same H Hx:=hHx▸S1;rw[hHx]
  all_goals
   refine⟨_,rfl,_,rfl,_,_,rfl,rfl,a,scr,_,rfl,hS.same Zx,by lia,by lia,fun r4 H4 _ _ S4=>⟨_,_,rfl,rfl,(by show(0:Int)<_;decide),rfl,_,rfl,qB (fun e=>?_) (fun e=>?_)⟩⟩
   ·exact⟨_,rfl,_,rfl,_,_,rfl,rfl,a,scr,_,14,rfl,hS.same (Zx.trans S4),by lia,by lia,by decide,by decide,fun r H5 hr14 S5=>k _ _ hr14 ((Zx.trans S4).trans S5)⟩
   ·exact⟨_,rfl,_,rfl,_,_,rfl,rfl,a,scr,_,rfl,hS.same (Zx.trans S4),by lia,by lia,fun r5 H5 _ _ S5=>⟨_,_,rfl,rfl,(by show(0:Int)<_;decide),_,_,rfl,rfl,k _ _ (by have⟨y1,y2⟩:=mod_lt r5 9 (by decide);lia) ((Zx.trans S4).trans S5)⟩⟩
abbrev eqT (tot:Int):Int->Bool:=fun s=>decide (s=tot)
theorem vW {t:Int->Bool}(h:p∈zm ns t):p.1<p.2/\p.2<=ns.length:=jU (U2.mp h).1
def c_FIGURES:Str:="0123456789"
def Sml (ns:List Int):Prop:=∀n∈ns,n.natAbs<10^15
def zdO:Sp:=fun vs H Q _=>∃z:Str,vs=[.str z]/\z.length<=100000/\∀H',Same H H'->Q (.bl (vU z.cps.toList)) H'
theorem zjb (c:Nat):(!(Builtin.Str.occurrences c_FIGURES ⟨#[c]⟩ 0 c_FIGURES.length 1).isEmpty)=decide (48<=c/\c<=57):=by
 rw[StrLaws.found_one];have e:c_FIGURES.cps.toList=(List.range 10).map (48 + ·):=by decide
 rw[e];apply Rb.mpr;rw[U6];constructor
 ·rintro⟨i,hi,rfl⟩;have:=OD.mp hi;lia
 ·intro h;exact⟨c-48,OD.mpr (by lia),by lia⟩
def okC (c:Nat):Bool:=decide (48<=c/\c<=57)
theorem zV (f:α->β){l:List α}{x:α}(h:l[i]?=some x):(l.take (i+1)).map f=(l.take i).map f++[f x]:=by
 rw[O7,h,Ux];rfl
theorem xa {x y:Str}(h:x.cps.toList=y.cps.toList):x=y:=by
 obtain⟨⟨x⟩⟩:=x;obtain⟨⟨y⟩⟩:=y;have h':x=y:=h;rw[h']
abbrev xj:Stmt:=top 8
theorem QO:zt ["word","figures"] ["word"] (zh xj):=fsc_
theorem zdT (z:Str):(Txt.removeprefix z ⟨#[45]⟩).length<=z.length:=by
 have e:∀y:Str,y.length=y.cps.toList.length:=fun y=>by simp[Str.length]
 rw[e,e,dc];unfold bu;split
 ·rename_i r h;rw[h];simp
 ·exact Ub _
theorem zcB:("-":Str)=⟨#[45]⟩:=by decide
theorem zbp (F:Fun K "is_number" "is_number" xj f fd)(T:Txt mg)(Jq:mg "FIGURES"=some (.str c_FIGURES tF)):FnOk P w K mg base CX0 1 f fd ["word"] zdO:=by
 refine F.ok QO (fun vs H Q E h=>?_) (fun cdv A outer s H vs Q E hr h=>?_)
 ·obtain⟨z,rfl,_⟩:=h;rfl
 ·obtain⟨z,rfl,hl,k⟩:=h;have hsl:=UV;have hfl:=zdT z;have hfg:=dc z
  refine⟨_,(ze (zq (i:=1) QO.nd rfl (Or.inl rfl) (jo Ov PySem.F.slot_str_removeprefix PySem.F.type_str_removeprefix wD (pv 0) (zb zQ zc)))
   (ze (z8 (zw qU (pv 1) zQ (zH _))
     (zj (zr vw))
     zL)
   (ze (z8 (qV (jN (zv (zcP rfl) (by rfl) T.b_all PyProof.Rows.Boot.«all» (zb (qf (N:=["sign"]) (cap:=[none]) rfl (show qh ["word","figures"] (zh xj) ["sign"] [none] _=true by decide +kernel) (zfW (pv 1)) (fun cl C s3 H3 fp=>⟨(zo (i:=0) (show(["sign"]:List Str).Nodup by decide +kernel) rfl (Or.inl rfl)),qe,fun it acc=>(zP rfl (yq zar (pv 0) (qQ (v:=.str c_FIGURES) (by rfl) Jq ⟨_,rfl⟩) (by with_unfolding_all rfl)))⟩)) zc))))
     (zj (zr vw))
     zL)
   (zj (zr (zh0 (yq qU (pv 0) zQ (zH _)) (zbc (yq dz (zz zdr (pv 1) zg (fun _ _=>rfl)) zQ (zH _))))))))),?_⟩
  refine⟨_,rfl,rfl,z,("-":Str),rfl,rfl,by lia,?_⟩;rw[zcB];generalize Txt.removeprefix z ⟨#[45]⟩=fg at hfl hfg;dsimp only[zx]
  have hem:∀b:Bool,(decide (V.str fg=V.str ("":Str)))=b->b=fg.cps.toList.isEmpty:=by
   rintro b rfl;rw[O8,Rw,List.isEmpty_iff];constructor
   ·intro h;injection h with h
    rw[h];rfl
   ·intro h;rw[show fg=("":Str) from xa (by rw[h];rfl)]
  refine⟨_,rfl,rfl,_,rfl,qB (fun e=>?_) (fun e=>?_)⟩
  ·have e':=hem _ rfl;rw[e] at e';have:vU z.cps.toList=false:=by unfold vU;rw[<-hfg,<-e'];rfl
   exact this▸k H (Same.refl H)
  ·have e':=hem _ rfl;have e0:fg.cps.toList.isEmpty=false:=by rw[<-e'];exact Rt _ |>.mp e
   refine⟨_,rfl,fg,rfl,fun acc hacc=>?_⟩;refine zbT (fun i σ H'=>∃v:Option V,σ=[v]/\H' acc=some (.lst (((fg.cps.toList.take i).map okC).map V.bl))/\Same H H') ⟨none,rfl,zd,Same.lay hacc⟩ ?_ ?_
   ·rintro i c σ H1 hc ⟨v,rfl,ha,S1⟩;have hc':fg.cps.toList[i]?=some c:=by simpa using hc
    have hi:i<fg.cps.toList.length:=(Ue.mp hc').1;have hfl2:fg.cps.toList.length=fg.length:=by simp[Str.length]
    refine⟨_,rfl,⟨#[c]⟩,c_FIGURES,rfl,rfl,_,ha,zO (by rw[Ud,Ud,UA];lia),?_⟩;refine⟨_,rfl,?_,fun b o e=>by rw[zi (zf e hacc)];exact S1 _ _ e⟩;rw[zd,zV okC hc',Ux,zjb];rfl
   ·rintro σ H1 ⟨v,rfl,ha,S1⟩;rw[show fg.cps.size=fg.cps.toList.length by simp,US] at ha;have hall:(fg.cps.toList.map okC).all id=fg.cps.toList.all okC:=by rw[NV];rfl
    refine⟨acc,_,rfl,ha,_,rfl,?_⟩;rw[hall];refine qB (fun e2=>?_) (fun e2=>?_)
    ·have:vU z.cps.toList=false:=by
      unfold vU;rw[<-hfg,e0];have e3:fg.cps.toList.all (fun c=>decide (48<=c/\c<=57))=false:=(Bool.not_eq_true' _).mp e2;rw[e3];rfl
     exact this▸k H1 S1
    ·have e3:fg.cps.toList.all (fun c=>decide (48<=c/\c<=57))=true:=by
      cases hq:fg.cps.toList.all okC with
      |false=>rw[hq] at e2;exact absurd rfl e2
      |true=>exact hq
     have hz:decide (V.str z=V.str ("0":Str))=(z.cps.toList==[48]):=by
      rw[O8,Rw,UN];constructor
      ·intro h;injection h with h
       rw[h];rfl
      ·intro h;rw[show z=("0":Str) from xa (by rw[h];rfl)]
     cases hcs:fg.cps.toList with
     |nil=>rw[hcs] at e0;cases e0
     |cons c r=>
      have hres:vU z.cps.toList=(z.cps.toList==[48]||!decide (c=48)):=by
       unfold vU;rw[<-hfg,e3,e0,hcs,Bool.not_false,RF,RF];rfl
      refine⟨_,rfl,rfl,_,rfl,?_⟩;rw[hz];refine qB (fun e4=>?_) (fun e4=>?_)
      ·have:vU z.cps.toList=true:=by rw[hres,e4];rfl
       exact this▸k H1 S1
      ·have e5:(z.cps.toList==[48])=false:=Rt _ |>.mp e4;refine⟨_,rfl,fg,0,c,rfl,rfl,by lia,by rw[hcs];exact qa (j:=0) (by rfl),rfl,?_⟩
       have hc0:decide (V.str ⟨#[c]⟩=V.str ("0":Str))=decide (c=48):=by
        apply Rb.mpr;constructor
        ·intro h;injection h with h
         have h2:(⟨#[c]⟩:Str).cps.toList=("0":Str).cps.toList:=by rw[h]
         have h3:[c]=[48]:=h2;injection h3
        ·intro h;subst h;rfl
       rw[hc0];have:vU z.cps.toList = !decide (c=48):=by rw[hres,e5];rfl
       exact this▸k H1 S1
def zaW:Sp:=fun vs H Q _=>∃(p:Addr) (ns:List Int),vs=[.ref p]/\H p=some (.tup (ns.map V.int))/\ns.length<=1000/\Sml ns/\∀H',Same H H'->Q (.str (shown ns)) H'
theorem zaT (z:Str):z.length=z.cps.toList.length:=by simp[Str.length]
abbrev j4:Stmt:=top 9
theorem za4:zt ["row"] ["row"] (zh j4):=fsc_
theorem zbk (F:Fun K "row_shown" "row_shown" j4 f fd)(T:Txt mg):FnOk P w K mg base CX0 1 f fd ["row"] zaW:=by
 refine F.ok za4 (fun vs H Q E h=>?_) (fun cdv A outer s H vs Q E hr h=>?_)
 ·obtain⟨p,ns,rfl,_⟩:=h;rfl
 ·obtain⟨p,ns,rfl,hp,hl,hb,k⟩:=h;refine⟨_,(zj (zr (jo Ov RA Rz gj zQ (zb (qf (N:=["number"]) (cap:=[none]) rfl (show qh ["row"] (zh j4) ["number"] [none] _=true by decide +kernel) (piT (K:=K) rfl (pv 0)) (fun cl C s3 H3 fp=>⟨(zo (i:=0) (show(["number"]:List Str).Nodup by decide +kernel) rfl (Or.inl rfl)),qe,fun it acc=>(zP rfl (zJ zN (by rfl) T.b_str PyProof.Rows.Boot.«str» (zb (pv 0) zc)))⟩)) zc)))),?_⟩;refine⟨rfl,_,rfl,p,rfl,⟨_,SqT.of hp⟩,fun acc hacc=>?_⟩;refine wN (xs:=ns.map V.int) (fun i σ H'=>∃v:Option V,σ=[v]/\H' acc=some (.lst (((ns.take i).map zy).map V.str))/\Same H H') ⟨none,rfl,zd,Same.lay hacc⟩ ?_ ?_ ?_
  ·rintro i σ H1 hi ⟨v,rfl,ha,S1⟩;exact SqT.of (S1 _ _ hp)
  ·rintro i x σ H1 hx ⟨v,rfl,ha,S1⟩;obtain⟨n,hn,rfl⟩:∃n,ns[i]?=some n/\V.int n=x:=by rw[Up] at hx;exact UT.mp hx
   have hnb:=hb n (Uu hn);have hi:i<ns.length:=(Ue.mp hn).1
   have hlog:n.natAbs.log2<1920:=by
    by_cases h0:n.natAbs=0
    ·rw[h0];decide
    ·exact O5 ((log2_lt h0).mpr (O5 hnb (show 10^15<2^64 by decide))) (by decide)
   refine⟨_,rfl,n,rfl,hlog,_,ha,zO (by rw[Ud,Ud,UA];lia),?_⟩;refine⟨_,rfl,?_,fun b o e=>by rw[zi (zf e hacc)];exact S1 _ _ e⟩;rw[zd,zV zy hn,Ux];rfl
  ·rintro σ H1 ⟨v,rfl,ha,S1⟩;rw[Ud,US] at ha;refine⟨blank,acc,ns.map zy,rfl,rfl,ha,?_,?_⟩
   ·have h1:=kD hb;have h3:blank.length=1:=rfl;rw[h3,Ud];have:=UV;lia
   ·exact k H1 S1
def c_LETTERS:Str:="abcdefghijklmnopqrstuvwxyz"
def qN:Int:=8
def jZ:Int:=60
def j0:Int:=12
def je:Int:=14
def zbu (c:Nat):Bool:=decide (97<=c/\c<=122)
def isNm (z:Str):Bool:=decide (1<=z.length/\z.length<=8)&&z.cps.toList.all zbu
def zfA:Sp:=fun vs H Q _=>∃z:Str,vs=[.str z]/\z.length<=100000/\∀H',Same H H'->Q (.bl (isNm z)) H'
theorem ziX (c:Nat):(!(Builtin.Str.occurrences c_LETTERS ⟨#[c]⟩ 0 c_LETTERS.length 1).isEmpty)=zbu c:=by
 rw[StrLaws.found_one];have e:c_LETTERS.cps.toList=(List.range 26).map (97 + ·):=by decide
 rw[e];unfold zbu;apply Rb.mpr;rw[U6];constructor
 ·rintro⟨i,hi,rfl⟩;have:=OD.mp hi;lia
 ·intro h;exact⟨c-97,OD.mpr (by lia),by lia⟩
abbrev yn:Stmt:=top 43
theorem zdb:zt ["word"] ["word"] (zh yn):=fsc_
theorem zdj {tL:Tok}(F:Fun K "is_name" "is_name" yn f fd)(T:Txt mg)(Jp:mg "LETTERS"=some (.str c_LETTERS tL))(Q2:mg "NAME_LETTERS"=some (.int qN tN)):FnOk P w K mg base CX0 1 f fd ["word"] zfA:=by
 refine F.ok zdb (fun vs H Q E h=>?_) (fun cdv A outer s H vs Q E hr h=>?_)
 ·obtain⟨z,rfl,_⟩:=h;rfl
 ·obtain⟨z,rfl,hl,k⟩:=h;have hsl:=UV;refine⟨_,(zj (zr (ziM (zf1 wC wC zg (zv gu (by rfl) T.b_len PyProof.Rows.Boot.«len» (zb (pv 0) zc)) (qQ (v:=.int qN) (by rfl) Q2 ⟨_,rfl⟩)) (zbc (zv (zcP rfl) (by rfl) T.b_all PyProof.Rows.Boot.«all» (zb (qf (N:=["sign"]) (cap:=[none]) rfl (show qh ["word"] (zh yn) ["sign"] [none] _=true by decide +kernel) (zfW (pv 0)) (fun cl C s3 H3 fp=>⟨(zo (i:=0) (show(["sign"]:List Str).Nodup by decide +kernel) rfl (Or.inl rfl)),qe,fun it acc=>(zP rfl (yq zar (pv 0) (qQ (v:=.str c_LETTERS) (by rfl) Jp ⟨_,rfl⟩) (by with_unfolding_all rfl)))⟩)) zc)))))),?_⟩;have hz:z.length=z.cps.toList.length:=zaT z;refine⟨_,rfl,z,rfl,by lia,_,_,rfl,rfl,_,rfl,qB (fun e1=>⟨_,_,rfl,rfl,_,rfl,qB (fun e2=>?_) (fun e2=>?_)⟩) (fun e1=>⟨_,rfl,qz ?_⟩)⟩
  ·refine⟨_,rfl,z,rfl,fun acc hacc=>?_⟩;refine zbT (fun i σ H'=>∃v:Option V,σ=[v]/\H' acc=some (.lst (((z.cps.toList.take i).map zbu).map V.bl))/\Same H H') ⟨none,rfl,zd,Same.lay hacc⟩ ?_ ?_
   ·rintro i c σ H1 hc ⟨v,rfl,ha,S1⟩;have hc':z.cps.toList[i]?=some c:=by simpa using hc
    have hi:i<z.cps.toList.length:=(Ue.mp hc').1;refine⟨_,rfl,⟨#[c]⟩,c_LETTERS,rfl,rfl,_,ha,zO (by rw[Ud,Ud,UA];lia),?_⟩;refine⟨_,rfl,?_,fun b o e=>by rw[zi (zf e hacc)];exact S1 _ _ e⟩;rw[zd,zV zbu hc',Ux,ziX];rfl
   ·rintro σ H1 ⟨v,rfl,ha,S1⟩;rw[show z.cps.size=z.cps.toList.length by simp,US] at ha;refine⟨acc,_,rfl,ha,?_⟩
    have hall:(z.cps.toList.map zbu).all id=isNm z:=by
     rw[NV];unfold isNm;have d1:=U0 e1;have d2:=U0 e2;unfold qN at d2;rw[Uy (show 1<=z.length/\z.length<=8 by lia)];rfl
    rw[hall];exact k H1 S1
  ·have:isNm z=false:=by
    unfold isNm;have d2:¬(z.length:Int)<=qN:=fun q=>e2 (Uy q);unfold qN at d2;rw[UE (by lia)];rfl
   exact this▸k H (Same.refl H)
  ·have:isNm z=false:=by
    unfold isNm;have d2:¬(1:Int)<=z.length:=fun q=>e1 (Uy q);rw[UE (by lia)];rfl
   exact this▸k H (Same.refl H)
theorem qc {n:Int}(h:n.natAbs<10^15):n.natAbs.log2<1920:=by
 by_cases h0:n.natAbs=0
 ·rw[h0];decide
 ·exact O5 ((log2_lt h0).mpr (O5 h (show 10^15<2^64 by decide))) (by decide)
theorem za2 {n:Int}(h:n.natAbs<10^15):ShV (.int n) (zy n):=.inl ⟨n,rfl,qc h,rfl,by have:=z9 (by decide) h;have:=UV;lia⟩
def shS (o:Option (Nat×Nat)):Str:=match o with
 |none=>"-"
 |some p=>zy p.1++blank++zy p.2
def smS (s:Int)(p:Nat×Nat):Str:=zy s++blank++shS (some p)
def pL (p:Nat×Nat):Prop:=p.1<=1000/\p.2<=1000
theorem jW (h:k<=1000):((k:Nat):Int).natAbs<10^15:=by
 rw[Ow];exact Om h (by decide)
theorem za3 (h:∀p,o=some p->pL p):(shS o).length<=100:=by
 cases o with
 |none=>decide
 |some p=>
  have⟨h1,h2⟩:=h p rfl;have l1:=z9 (by decide) (jW h1);have l2:=z9 (by decide) (jW h2);have l3:blank.length=1:=rfl;show(zy p.1++blank++zy p.2).length<=100;rw[Uo,Uo];lia
def zet:Sp:=fun vs H Q _=>∃(v:V) (o:Option (Nat×Nat)),vs=[v]/\OptAt H v o/\(∀p,o=some p->pL p)/\Q (.str (shS o)) H
def zfw:Sp:=fun vs H Q _=>∃(a b:Addr) (s:Int) (p:Nat×Nat),vs=[.ref a]/\H a=some (.tup [.int s,.ref b])/\H b=some (.tup (g2 p))/\pL p/\s.natAbs<10^15/\Q (.str (smS s p)) H
def gp (ps:List (Nat×Nat)):List Str:=[zy ps.length,shS (firstOf ps),shS (xD ps),shS (jQ ps)]
def zaZ:Sp:=fun vs H Q _=>∃(l:Addr) (xs:List V) (ps:List (Nat×Nat)),vs=[.ref l]/\H l=some (.lst xs)/\TupsAt g2 H xs ps/\ps.Pairwise pLt/\ps.length<=1000000/\(∀p∈ps,pL p)/\∀q H',H q=none->H' q=some (.lst ((gp ps).map V.str))->Same H H'->Q (.ref q) H'
theorem zgg (h:xD ps=some p):p∈ps:=by
 unfold xD at h;obtain⟨j,_,e⟩:=T5.mp h;exact Uu e
theorem zex (h:jQ ps=some p):p∈ps:=by
 unfold jQ at h;obtain⟨j,_,e⟩:=T5.mp h;exact Uu e
abbrev qv:Stmt:=top 46
theorem Qb:zt ["stretch","low","high"] ["stretch"] (zh qv):=fsc_
theorem gT (F:Fun K "stretch_shown" "stretch_shown" qv f fd)(T:Txt mg):FnOk P w K mg base CX0 1 f fd ["stretch"] zet:=by
 refine F.ok Qb (fun vs H Q E h=>?_) (fun cdv A outer s H vs Q E hr h=>?_)
 ·obtain⟨v,o,rfl,_⟩:=h;rfl
 ·obtain⟨v,o,rfl,ho,hl,k⟩:=h;have hsl:=UV
  refine⟨_,(ze (z8 (zw zbi (pv 0) xC (zH _))
   (zj (zr zQ))
   zL)
   (ze (xB (pv 0) (pgT (K:=K) (n:=2) rfl rfl (zI (zo (i:=1) Qb.nd rfl (Or.inl rfl)) (zI (zo (i:=2) Qb.nd rfl (Or.inl rfl)) qm))))
   (zj (zr (zf0 (pv 1) (pv 2)))))),?_⟩
  cases o with
  |none=>
   obtain rfl:v=.non:=ho;exact⟨_,rfl,rfl,_,rfl,wm k⟩
  |some p=>
   obtain⟨a,rfl,ha⟩:=ho;have⟨h1,h2⟩:=hl p rfl;have l1:=z9 (by decide) (jW h1);have l2:=z9 (by decide) (jW h2);have l3:(""++" ":Str).length=1:=rfl;refine⟨_,rfl,rfl,_,rfl,qz ?_⟩;refine⟨_,rfl,a,_,rfl,SqT.of ha,rfl,_,_,rfl,_,_,rfl,rfl,?_⟩;dsimp only[zx];exact⟨_,rfl,_,za2 (jW h1),by show(zy p.1).length+1<=sizeLine;lia,_,rfl,_,za2 (jW h2),by show(zy p.1).length+1+(zy p.2).length<=sizeLine;lia,k⟩
abbrev ju:Stmt:=top 47
theorem Qm:zt ["pair","own","stretch"] ["pair"] (zh ju):=fsc_
theorem fY (F:Fun K "summed_shown" "summed_shown" ju f fd)(T:Txt mg)(Ze:zK K mg "stretch_shown" qv ["stretch"] fs fds)(ZD:FnOk P w K mg base CX0 1 fs fds ["stretch"] zet):FnOk P w K mg base CX0 2 f fd ["pair"] zfw:=by
 refine F.ok Qm (fun vs H Q E h=>?_) (fun cdv A outer s H vs Q E hr h=>?_)
 ·obtain⟨a,b,s,p,rfl,_⟩:=h;rfl
 ·obtain⟨a,b,s',p,rfl,ha,hb,hp,hs,k⟩:=h;have hsl:=UV
  refine⟨_,(ze (xB (pv 0) (pgT (K:=K) (n:=2) rfl rfl (zI (zo (i:=1) Qm.nd rfl (Or.inl rfl)) (zI (zo (i:=2) Qm.nd rfl (Or.inl rfl)) qm))))
   (zj (zr (zf0 (pv 1) (zl ZD (hr.mono (by first|decide|exact Ub _)) rfl Ze.mg Ze.fn.kp Ze.bd .nil zp (zb (pv 2) zc)))))),?_⟩
  have l1:=z9 (by decide) hs;have l2:(shS (some p)).length<=100:=za3 fun q e=>by cases e;exact hp
  refine⟨_,rfl,a,_,rfl,SqT.of ha,rfl,_,_,rfl,_,_,rfl,rfl,?_⟩;dsimp only[zx];exact⟨_,rfl,_,za2 hs,by show(zy s').length+1<=sizeLine;lia,_,rfl,_,some p,rfl,⟨b,rfl,hb⟩,(fun q e=>by cases e;exact hp),_,.inr ⟨rfl,by lia⟩,by show(zy s').length+1+(shS (some p)).length<=sizeLine;lia,k⟩
abbrev jk:Stmt:=top 48
theorem QP:zt ["stretches","chosen"] ["stretches"] (zh jk):=fsc_
theorem zbq (F:Fun K "four_rows" "four_rows" jk f fd)(T:Txt mg)(Ze:zK K mg "stretch_shown" qv ["stretch"] fs fds)(ZD:FnOk P w K mg base CX0 1 fs fds ["stretch"] zet)(Qf:zK K mg "first_of" yU ["stretches"] f1 fd1)(Ji:FnOk P w K mg base CX0 2 f1 fd1 ["stretches"] (gC firstOf))(ZX:zK K mg "longest_of" xY ["stretches"] f2 fd2)(Ja:FnOk P w K mg base CX0 3 f2 fd2 ["stretches"] (gC xD))(ZQ:zK K mg "shortest_of" xw ["stretches"] f3 fd3)(Q3:FnOk P w K mg base CX0 3 f3 fd3 ["stretches"] (gC jQ)):FnOk P w K mg base CX0 4 f fd ["stretches"] zaZ:=by
 refine F.ok QP (fun vs H Q E h=>?_) (fun cdv A outer s H vs Q E hr h=>?_)
 ·obtain⟨l,xs,ps,rfl,_⟩:=h;rfl
 ·obtain⟨l,xs,ps,rfl,hl,ht,hs,hn,hlow,k⟩:=h;have hsl:=UV
  refine⟨_,(ze (zq (i:=1) QP.nd rfl (Or.inl rfl) (zR (zb (zl Ji (hr.mono (by first|decide|exact Ub _)) rfl Qf.mg Qf.fn.kp Qf.bd .nil zp (zb (pv 0) zc)) (zb (zl Ja (hr.mono (by first|decide|exact Ub _)) rfl ZX.mg ZX.fn.kp ZX.bd .nil zp (zb (pv 0) zc)) (zb (zl Q3 (hr.mono (by first|decide|exact Ub _)) rfl ZQ.mg ZQ.fn.kp ZQ.bd .nil zp (zb (pv 0) zc)) zc)))))
   (zj (zr (zk vR (zR (zb (zJ zN (by rfl) T.b_str PyProof.Rows.Boot.«str» (zb (zv (jh (K:=K) rfl) (by rfl) T.b_len PyProof.Rows.Boot.«len» (zb (pv 0) zc)) zc)) zc)) (qf (N:=["stretch"]) (cap:=[none]) rfl (show qh ["stretches","chosen"] (zh jk) ["stretch"] [none] _=true by decide +kernel) (piL (K:=K) rfl (pv 1)) (fun cl C s3 H3 fp=>⟨(zo (i:=0) (show(["stretch"]:List Str).Nodup by decide +kernel) rfl (Or.inl rfl)),qe,fun it acc=>(zP rfl (zl ZD (hr.mono (by first|decide|exact Ub _)) rfl Ze.mg Ze.fn.kp Ze.bd .nil zp (zb (pv 0) zc)))⟩)))))),?_⟩
  refine⟨_,rfl,l,xs,ps,rfl,hl,ht,hs,fun v1 H1 o1 S1=>⟨_,rfl,l,xs,ps,rfl,S1 _ _ hl,(ht.mono fun _ _ e=>S1 _ _ e),hs,fun v2 H2 o2 S2=>⟨_,rfl,l,xs,ps,rfl,S2 _ _ (S1 _ _ hl),(ht.mono fun _ _ e=>S2 _ _ (S1 _ _ e)),hs,fun v3 H3 o3 S3=>⟨by show 3<=sizeLine;lia,fun c hc=>?_⟩⟩⟩⟩;have S4:Same H (upd H3 c (.lst [v1,v2,v3])):=((S1.trans S2).trans S3).trans (Same.lay hc);have e4:upd H3 c (.lst [v1,v2,v3]) c=some (.lst [v1,v2,v3]):=zd
  have O:∀(i:Nat) (x:V),[v1,v2,v3][i]?=some x->∃o,[firstOf ps,xD ps,jQ ps][i]?=some o/\OptAt (upd H3 c (.lst [v1,v2,v3])) x o/\∀p,o=some p->pL p:=by
   intro i x hx
   match i,hx with
   |0,hx=>cases hx;exact⟨_,rfl,((o1.mono S2).mono S3).mono (Same.lay hc),fun p e=>hlow p (Uu e)⟩
   |1,hx=>cases hx;exact⟨_,rfl,(o2.mono S3).mono (Same.lay hc),fun p e=>hlow p (zgg e)⟩
   |2,hx=>cases hx;exact⟨_,rfl,o3.mono (Same.lay hc),fun p e=>hlow p (zex e)⟩
  generalize upd H3 c (.lst [v1,v2,v3])=H4 at S4 e4 O;dsimp only[zx]
  have hn4:((xs.length:Nat):Int).natAbs<10^15:=by
   rw[Ow,ht.1];exact Om hn (by decide)
  refine⟨_,rfl,l,_,rfl,.inl (SqL.of (S4 _ _ hl)),_,rfl,qc hn4,by show 1<=sizeLine;lia,fun q1 hq1=>?_⟩;have S5:Same H4 (upd H4 q1 (.lst [.str (zy xs.length)])):=Same.lay hq1;have e5:upd H4 q1 (.lst [.str (zy xs.length)]) q1=some (.lst [.str (zy xs.length)]):=zd;show zbY _ _ _ _ _ _ (upd H4 q1 (.lst [.str (zy xs.length)])) _;generalize upd H4 q1 (.lst [.str (zy xs.length)])=H5 at S5 e5;refine⟨_,rfl,c,rfl,⟨_,SqL.of (S5 _ _ e4)⟩,fun acc hacc=>?_⟩;refine qb (xs:=[v1,v2,v3]) (fun i σ H'=>∃v:Option V,σ=[v]/\H' acc=some (.lst ((([firstOf ps,xD ps,jQ ps].take i).map shS).map V.str))/\Same H5 H') ⟨none,rfl,zd,Same.lay hacc⟩ ?_ ?_ ?_
  ·rintro i σ H6 hi ⟨v,rfl,ha,S6⟩;exact SqL.of (S6 _ _ (S5 _ _ e4))
  ·rintro i x σ H6 hx ⟨v,rfl,ha,S6⟩;obtain⟨o,ho,oa,lo⟩:=O i x hx;have hi:i<3:=(Ue.mp hx).1;refine⟨_,rfl,x,o,rfl,(oa.mono S5).mono S6,lo,_,ha,zO (by rw[Ud,Ud,UA];lia),?_⟩;refine⟨_,rfl,?_,fun b o' e=>by rw[zi (zf e hacc)];exact S6 _ _ e⟩;rw[zd,zV shS ho,Ux];rfl
  ·rintro σ H6 ⟨v,rfl,ha,S6⟩;refine⟨q1,acc,_,_,rfl,rfl,S6 _ _ e5,ha,by show 4<=sizeLine;lia,fun r hr'=>?_⟩;refine k r _ (Same.free ((S4.trans S5).trans S6) hr') ?_ ((S4.trans S5).trans (S6.trans (Same.lay hr')));rw[zd];unfold gp;rw[ht.1];rfl
def zhT:Sp:=fun vs H Q _=>∃(p:Addr) (ns:List Int) (lo up:Int),vs=[.ref p,.int lo,.int up]/\RowAt H p ns/\∀q xs H',H q=none->H' q=some (.lst xs)->TupsAt g2 H' xs (zm ns (fun s=>decide (lo<=s)&&decide (s<=up)))->Same H H'->Q (.ref q) H'
abbrev vz:Stmt:=top 26
theorem pV:zt ["row","low","high"] ["row","low","high"] (zh vz):=fsc_
theorem pZ (F:Fun K "all_within" "all_within" vz f fd)(T:Txt mg)(Zb:zK K mg "summed_stretches" z7 ["row"] fz fdz)(Zn:FnOk P w K mg base CX0 2 fz fdz ["row"] xI) :
 FnOk P w K mg base CX0 3 f fd ["row","low","high"] zhT:=by
 refine F.ok pV (fun vs H Q E h=>?_) (fun cdv A outer s H vs Q E hr h=>?_)
 ·obtain⟨p,ns,lo,up,rfl,_⟩:=h;rfl
 ·obtain⟨p,ns,lo,up,rfl,⟨hp,hl⟩,k⟩:=h;refine⟨_,(zj (zr (qf (N:=["own","stretch","low","high"]) (cap:=[none,none,some 1,some 2]) rfl (show qh ["row","low","high"] (zh vz) ["own","stretch","low","high"] [none,none,some 1,some 2] _=true by decide +kernel) (piL (K:=K) rfl (zl Zn (hr.mono (by first|decide|exact Ub _)) rfl Zb.mg Zb.fn.kp Zb.bd .nil zp (zb (pv 0) zc))) (fun cl C s3 H3 fp=>⟨(pgT (K:=K) (n:=2) rfl rfl (zI (zo (i:=0) (show(["own","stretch","low","high"]:List Str).Nodup by decide +kernel) rfl (Or.inl rfl)) (zI (zo (i:=1) (show(["own","stretch","low","high"]:List Str).Nodup by decide +kernel) rfl (Or.inl rfl)) qm))),(xm (kO wC wC (pv 2) (pv 0) (pv 3))),fun it acc=>(zP rfl (pv 1))⟩)))),?_⟩;refine⟨_,rfl,p,ns,rfl,⟨hp,hl⟩,fun q2 ys H2 _ hq2 ht2 S2=>⟨q2,rfl,⟨_,SqL.of hq2⟩,fun acc hacc=>?_⟩⟩;refine gz (rest:=[some (.int lo),some (.int up)]) hl hq2 ht2 hacc (fun o b H' Q q=>⟨_,rfl,_,rfl,_,_,rfl,rfl,_,rfl,qB (fun e=>⟨_,rfl,_,_,rfl,rfl,_,rfl,?_⟩) (fun e=>⟨false,rfl,?_⟩)⟩) fun _ _ zs H' h1 h2 S'=>k acc zs H' (S2.free hacc) h1 h2 (S2.trans S')
  ·have q:Q (decide (lo<=o)&&decide (o<=up)) H':=q;rw[e,RF] at q;exact q
  ·have q:Q (decide (lo<=o)&&decide (o<=up)) H':=q;rw[TU.mpr e,RP] at q;exact q
def zfB:Sp:=fun vs H Q _=>∃(m rs:Int),vs=[.int m,.int rs]/\0<=rs/\rs<m/\Q .non H
abbrev vG:Stmt:=top 35
theorem fU:zt ["m","rest"] ["m","rest"] (zh vG):=fsc_
theorem bf (F:Fun K "look_at_rest" "look_at_rest" vG f fd)(T:Txt mg):FnOk P w K mg base CX0 1 f fd ["m","rest"] zfB:=by
 refine F.ok fU (fun vs H Q E h=>?_) (fun cdv A outer s H vs Q E hr h=>?_)
 ·obtain⟨m,rs,rfl,_⟩:=h;rfl
 ·obtain⟨m,rs,rfl,r0,r1,k⟩:=h
  refine⟨_,(zj (z8 (qV (kO wC fE zg (pv 1) (pv 0)))
   (zj yL)
   zL)),?_⟩
  refine⟨_,rfl,_,_,rfl,rfl,_,rfl,qB (fun e=>⟨_,rfl,_,_,rfl,rfl,_,rfl,zh8 r1 ?_⟩) (fun e=>absurd (Uy r0) e)⟩;exact k
def zfy:Sp:=fun vs H Q _=>∃(p:Addr) (ns:List Int) (m rs:Int),vs=[.ref p,.int m,.int rs]/\RowAt H p ns/\0<=rs/\rs<m/\∀q xs H',H q=none->H' q=some (.lst xs)->TupsAt g2 H' xs (zm ns (fun s=>decide (s%m=rs)))->Same H H'->Q (.ref q) H'
abbrev xZ:Stmt:=top 36
theorem zce:zt ["row","m","rest"] ["row","m","rest"] (zh xZ):=fsc_
theorem zct {fk:Addr}{fdk:FuncData}(F:Fun K "all_rest" "all_rest" xZ f fd)(T:Txt mg)(Zb:zK K mg "summed_stretches" z7 ["row"] fz fdz)(Zn:FnOk P w K mg base CX0 2 fz fdz ["row"] xI)(ZN:zK K mg "look_at_rest" vG ["m","rest"] fk fdk)(Q0:FnOk P w K mg base CX0 1 fk fdk ["m","rest"] zfB) :
 FnOk P w K mg base CX0 3 f fd ["row","m","rest"] zfy:=by
 refine F.ok zce (fun vs H Q E h=>?_) (fun cdv A outer s H vs Q E hr h=>?_)
 ·obtain⟨p,ns,m,rs,rfl,_⟩:=h;rfl
 ·obtain⟨p,ns,m,rs,rfl,⟨hp,hl⟩,r0,r1,k⟩:=h
  refine⟨_,(ze (jd (zl Q0 (hr.mono (by first|decide|exact Ub _)) rfl ZN.mg ZN.fn.kp ZN.bd .nil zp (zb (pv 1) (zb (pv 2) zc))))
   (zj (zr (qf (N:=["own","stretch","m","rest"]) (cap:=[none,none,some 1,some 2]) rfl (show qh ["row","m","rest"] (zh xZ) ["own","stretch","m","rest"] [none,none,some 1,some 2] _=true by decide +kernel) (piL (K:=K) rfl (zl Zn (hr.mono (by first|decide|exact Ub _)) rfl Zb.mg Zb.fn.kp Zb.bd .nil zp (zb (pv 0) zc))) (fun cl C s3 H3 fp=>⟨(pgT (K:=K) (n:=2) rfl rfl (zI (zo (i:=0) (show(["own","stretch","m","rest"]:List Str).Nodup by decide +kernel) rfl (Or.inl rfl)) (zI (zo (i:=1) (show(["own","stretch","m","rest"]:List Str).Nodup by decide +kernel) rfl (Or.inl rfl)) qm))),(xm (zw qU (zk zS (pv 0) (pv 2)) (pv 3) (zH _))),fun it acc=>(zP rfl (pv 1))⟩))))),?_⟩
  refine⟨_,rfl,_,rfl,m,rs,rfl,r0,r1,?_⟩;refine⟨_,rfl,p,ns,rfl,⟨hp,hl⟩,fun q2 ys H2 _ hq2 ht2 S2=>⟨q2,rfl,⟨_,SqL.of hq2⟩,fun acc hacc=>?_⟩⟩;exact gz (rest:=[some (.int m),some (.int rs)]) hl hq2 ht2 hacc (fun o b H' Q q=>⟨_,rfl,_,rfl,_,_,rfl,rfl,(by lia),_,rfl,rfl,_,rfl,by rw[zgx];exact q⟩) fun _ _ zs H' h1 h2 S'=>k acc zs H' (S2.free hacc) h1 h2 (S2.trans S')
structure Hits (n:Nat)(hs:List (Nat×Nat)):Prop where
 sorted:hs.Pairwise pLt
 mem:∀p∈hs,p.1<p.2/\p.2<=n
theorem Hits.tail (h:Hits n (p::t)):Hits n t:=⟨(UY.mp h.sorted).2,fun q hq=>h.mem q (Uh _ hq)⟩
theorem Hits.head (h:Hits n (p::t)){q:Nat×Nat}(hq:q∈t):p.1<=q.1:=by
 rcases(UY.mp h.sorted).1 q hq with z|z
 ·lia
 ·lia
def W0 (n:Nat):Nat->Int:=fun j=>if j=n then 1 else 0
def qo (n:Nat)(hs:List (Nat×Nat)):Nat->Int:=hs.foldr (fun p f=>js f p.1 (f p.1+f p.2)) (W0 n)
def evl (hs:List (Nat×Nat))(l:Nat):List Nat:=(hs.filter fun p=>decide (p.1=l)).map (·.2)
theorem gy (h:Hits n (p::t))(hj:j≠p.1):qo n (p::t) j=qo n t j:=by
 show js (qo n t) p.1 _ j=_;unfold js;rw[Ur hj]
theorem gB {α:Type}{f g:α->Int}:∀{l:List α},(∀x∈l,f x=g x)->(l.map f).sum=(l.map g).sum
 |[],_=>rfl
 |x::t,h=>by
  rw[UL,UL,OH,OH,h x Ug,gB fun y hy=>h y (Uh _ hy)]
theorem kB {n:Nat}:∀{hs:List (Nat×Nat)},Hits n hs->∀j,qo n hs j=W0 n j+((evl hs j).map (qo n hs)).sum
 |[],_,j=>by simp[qo,evl]
 |p::t,h,j=>by
  have ih:=kB h.tail j
  have keep:∀x∈evl t j,qo n (p::t) x=qo n t x:=fun x hx=>by
   obtain⟨q,hq,rfl⟩:=U6.mp hx;obtain⟨hq,_⟩:=U2.mp hq;refine gy h ?_;have:=h.head hq;have:=h.tail.mem q hq;lia
  have hp:=h.mem p Ug
  by_cases e:p.1=j
  ·have e1:evl (p::t) j=p.2::evl t j:=by unfold evl;rw[Rm (by simpa using e)];rfl
   rw[e1,UL,OH,gB keep,gy h (j:=p.2) (by lia)]
   have e2:qo n (p::t) j=qo n t j+qo n t p.2:=by
    show(if j=p.1 then qo n t p.1+qo n t p.2 else qo n t j)=_;rw[Uv e.symm,e]
   rw[e2,ih];lia
  ·have e1:evl (p::t) j=evl t j:=by unfold evl;rw[T7 (by simpa using e)]
   rw[e1,gB keep,gy h (OO e),ih]
theorem jj (n:Nat):∀(hs:List (Nat×Nat)) (j:Nat),0<=qo n hs j
 |[],j=>by unfold qo W0;simp only[List.foldr_nil];split<;>lia
 |p::t,j=>by
  have h1:=jj n t;show 0<=js (qo n t) p.1 _ j;unfold js;split
  ·have:=h1 p.1;have:=h1 p.2;show 0<=qo n t p.1+qo n t p.2;lia
  ·exact h1 j
theorem qC (h:Hits n hs){l x:Nat}(hx:x∈evl hs l):l<x/\x<=n/\(l,x)∈hs:=by
 obtain⟨q,hq,rfl⟩:=U6.mp hx;obtain⟨hq',e⟩:=U2.mp hq;have e:q.1=l:=U0 e;have:=h.mem q hq';subst e;exact⟨this.1,this.2,hq'⟩
theorem zho {l x:Nat}(hx:(l,x)∈hs):x∈evl hs l:=U6.mpr ⟨(l,x),U2.mpr ⟨hx,by simp⟩,rfl⟩
theorem gx (h:Hits n hs):qo n hs n=1:=by
 rw[kB h n]
 have:evl hs n=[]:=by
  rw[Te];intro x hx;have:=qC h hx;lia
 rw[this];unfold W0;simp
theorem zdI {α:Type}{f:α->Int}:∀{l:List α},(∀x∈l,0<=f x)->(0<(l.map f).sum↔∃x∈l,0<f x)
 |[],_=>by simp
 |x::t,h=>by
  have ih:=zdI (f:=f) (l:=t) fun y hy=>h y (Uh _ hy);have h0:=h x Ug
  have h1:0<=(t.map f).sum:=by
   have:∀{l:List α},(∀y∈l,0<=f y)->0<=(l.map f).sum:=by
    intro l
    induction l with
    |nil=>intro _;simp
    |cons a l ih=>intro h;have:=h a Ug;have:=ih fun y hy=>h y (Uh _ hy);simp only[UL,OH];lia
   exact this fun y hy=>h y (Uh _ hy)
  rw[UL,OH];constructor
  ·intro hp
   by_cases e:0<f x
   ·exact⟨x,Ug,e⟩
   ·obtain⟨y,hy,z⟩:=ih.mp (by lia);exact⟨y,Uh _ hy,z⟩
  ·rintro⟨y,hy,z⟩;rcases Uw.mp hy with rfl|hy
   ·lia
   ·have:=ih.mpr ⟨y,hy,z⟩;lia
theorem zbR (h:Hits n hs)(hj:j<n):0<qo n hs j↔∃x∈evl hs j,0<qo n hs x:=by
 rw[kB h j];have:W0 n j=0:=by unfold W0;rw[Ur (by lia)]
 rw[this,zero_add];exact zdI fun x _=>jj n hs x
def evg (n:Nat)(hs:List (Nat×Nat))(l:Nat):List Nat:=(evl hs l).filter fun x=>decide (0<qo n hs x)
def chain (n:Nat)(hs:List (Nat×Nat)):Nat->Nat->List (Nat×Nat)
 |0,_=>[]
 |k+1,l=>match (evg n hs l).head? with|some x=>(l,x)::chain n hs k x|none=>[]
theorem px {n:Nat}{hs:List (Nat×Nat)}(h:Hits n hs):∀k l,n-l<=k->l<=n->chain n hs (k+1) l=chain n hs k l
 |0,l,hk,hl=>by
  have:evg n hs l=[]:=by
   rw[Te];intro x hx;have:=qC h (U2.mp hx).1;lia
  unfold chain;rw[this];rfl
 |k+1,l,hk,hl=>by
  unfold chain
  cases e:(evg n hs l).head? with
  |none=>rfl
  |some x=>
   have hx:=qC h (U2.mp (Tc e)).1;show(l,x)::chain n hs (k+1) x=(l,x)::chain n hs k x;rw[px h k x (by lia) hx.2.1]
def chn (n:Nat)(hs:List (Nat×Nat))(l:Nat):List (Nat×Nat):=chain n hs n l
theorem zdx (h:Hits n hs){l x:Nat}(hl:l<n)(e:(evg n hs l).head?=some x):chn n hs l=(l,x)::chn n hs x:=by
 have hx:=qC h (U2.mp (Tc e)).1;unfold chn;obtain⟨m,rfl⟩:∃m,n=m+1:=⟨n-1,by lia⟩;have e1:chain (m+1) hs (m+1) x=chain (m+1) hs m x:=px h m x (by lia) hx.2.1;rw[e1];show(match (evg (m+1) hs l).head? with|some x=>(l,x)::chain (m+1) hs m x|none=>[])=_;rw[e]
theorem zcO (h:Hits n hs):chn n hs n=[]:=by
 have e:evg n hs n=[]:=by
  rw[Te];intro x hx;have:=qC h (U2.mp hx).1;lia
 unfold chn
 cases n with
 |zero=>rfl
 |succ m=>
  show(match (evg (m+1) hs (m+1)).head? with|some x=>(m+1,x)::chain (m+1) hs m x|none=>[])=_;rw[e];rfl
theorem zcJ (hp:hs[i]?=some p)(hg:0<qo n hs p.2)(hn:∀q∈hs.take i,q.1=p.1->¬0<qo n hs q.2):(evg n hs p.1).head?=some p.2:=by
 have hlt:=(Ue.mp hp).1
 have e:hs=hs.take i++p::hs.drop (i+1):=by
  have e1:=(Oo i hs).symm
  have e2:hs.drop i=p::hs.drop (i+1):=by
   rw[OX hlt];congr 1;exact UK ((Ua hlt).symm.trans hp)
  rw[e2] at e1;exact e1
 have e3:evl hs p.1=evl (hs.take i) p.1++p.2::evl (hs.drop (i+1)) p.1:=by
  unfold evl
  conv=>lhs;rw[e]
  rw[O0,Rm (by simp),Ux,UL]
 unfold evg;rw[e3,O0,Rm (by simpa using hg)]
 have e4:(evl (hs.take i) p.1).filter (fun x=>decide (0<qo n hs x))=[]:=by
  rw[List.filter_eq_nil_iff];intro x hx;obtain⟨q,hq,rfl⟩:=U6.mp hx;obtain⟨hq,e⟩:=U2.mp hq;have:=hn q hq (U0 e);simpa using this
 rw[e4];rfl
def Kp (l:Addr)(H H':Hp):Prop:=∀b o,H b=some o->b≠l->H' b=some o
theorem Kp.refl (H:Hp):Kp l H H:=fun _ _ h _=>h
theorem Kp.trans (a:Kp l H H1)(b:Kp l H1 H2):Kp l H H2:=fun x o h n=>b x o (a x o h n) n
theorem Kp.of (s:Same H H'):Kp l H H':=fun b o h _=>s b o h
theorem Kp.wr {o:HO}(s:Kp l H H'):Kp l H (upd H' l o):=fun b o' h n=>by rw[zi n];exact s b o' h n
theorem Kp.lay {p:Addr}{o:HO}(s:Kp l H H')(h:H' p=none):Kp l H (upd H' p o):=fun b o' e n=>by rw[zi (zf (s b o' e n) h)];exact s b o' e n
theorem Kp.same (s:Same H H1)(h:H l=none)(k:Kp l H1 H'):Same H H':=fun b o e=>k b o (s b o e) (zf e h)
theorem Kp.tups {g:α->List V}{ps:List α}(k:Kp l H H')(hl:H l=some (.lst ys))(h:TupsAt g H xs ps):TupsAt g H' xs ps:=h.mono fun a zs e=>k a _ e (qE e hl (by intro z;cases z))
theorem jg (ns:List Int)(tot:Int):Hits ns.length (zm ns (eqT tot)):=⟨qA _ _,fun _ h=>vW h⟩
structure LLAt (H:Hp)(l:Addr)(as:List Addr)(g:Nat->List V):Prop where
 self:H l=some (.lst (as.map V.ref))
 nd:as.Nodup
 out:l∉as
 each:∀(i:Nat) (a:Addr),as[i]?=some a->H a=some (.lst (g i))
def Kl (as:List Addr)(H H':Hp):Prop:=∀b o,H b=some o->b∉as->H' b=some o
theorem Kl.refl (H:Hp):Kl as H H:=fun _ _ h _=>h
theorem Kl.wr {o:HO}(s:Kl as H H')(h:a∈as):Kl as H (upd H' a o):=fun b o' e n=>by rw[zi (show b≠a from fun z=>n (by rw[z];exact h))];exact s b o' e n
theorem Kl.same (s:Same H H1)(h:∀a∈as,H a=none)(k:Kl as H1 H'):Same H H':=fun b o e=>k b o (s b o e) fun z=>by rw[h b z] at e;cases e
theorem LLAt.same (h:LLAt H l as g)(s:Same H H'):LLAt H' l as g:=⟨s _ _ h.self,h.nd,h.out,fun i a e=>s _ _ (h.each i a e)⟩
theorem LLAt.get (h:LLAt H l as g)(hi:i<as.length):∃a,(as.map V.ref)[i]?=some (.ref a)/\as[i]?=some a/\H a=some (.lst (g i)):=by
 have e:=Ua hi;exact⟨as[i],by rw[Up,e];rfl,e,h.each i _ e⟩
theorem LLAt.push (h:LLAt H l as g)(ha:as[i]?=some a)(ys:List V):LLAt (upd H a (.lst ys)) l as (fun j=>if j=i then ys else g j):=by
 have hm:=Uu ha;refine⟨?_,h.nd,h.out,fun j b e=>?_⟩
 ·rw[zi (show l≠a from fun z=>h.out (by rw[z];exact hm))];exact h.self
 ·by_cases e1:j=i
  ·subst e1;rw[ha] at e;have e:a=b:=UK e;subst e;rw[zd,Uv rfl]
  ·rw[Ur e1,zi]
   ·exact h.each j b e
   ·intro z;subst z;obtain⟨h1,h2⟩:=Ue.mp ha;obtain⟨h3,h4⟩:=Ue.mp e;exact e1 ((List.getElem_inj h.nd).mp (h4.trans h2.symm))
structure LLNew (H0 H:Hp)(acc:Addr)(as:List Addr)(i:Nat):Prop where
 self:H acc=some (.lst (as.map V.ref))
 len:as.length=i
 nd:as.Nodup
 each:∀a∈as,H a=some (.lst [])/\H0 a=none/\a≠acc
 same:Same H0 H
theorem LLNew.start (h:H0 acc=none):LLNew H0 (upd H0 acc (.lst [])) acc [] 0:=⟨zd,rfl,List.nodup_nil,fun _ h=>(nomatch h),Same.lay h⟩
theorem LLNew.more {p:Addr}(h:LLNew H0 H acc as i)(h0:H0 acc=none)(hp:H p=none):LLNew H0 (upd (upd H p (.lst [])) acc (.lst (as.map V.ref++[.ref p]))) acc (as++[p]) (i+1):=by
 have np:p≠acc:=fun e=>by subst e;rw[h.self] at hp;cases hp
 have npa:p∉as:=fun z=>by rw[(h.each p z).1] at hp;cases hp
 refine⟨by rw[zd,Ux];rfl,by rw[UD,h.len];rfl,?_,fun a ha=>?_,fun b o e=>?_⟩
 ·rw[List.nodup_append];exact⟨h.nd,by simp,fun a ha b hb z=>npa ((Uz.mp hb)▸z▸ha)⟩
 ·rcases UJ.mp ha with z|z
  ·obtain⟨h1,h2,h3⟩:=h.each a z;refine⟨?_,h2,h3⟩;rw[zi h3,zi (show a≠p from fun e=>npa (by rw[<-e];exact z))];exact h1
  ·have:a=p:=by simpa using z
   subst this;exact⟨by rw[zi np,zd],h.same.free hp,np⟩
 ·rw[zi (zf e h0),zi (zf (h.same b o e) hp)];exact h.same b o e
theorem LLNew.done (h:LLNew H0 H acc as i):LLAt H acc as (fun _=>[]):=⟨h.self,h.nd,fun z=>(h.each _ z).2.2 rfl,fun j a e=>(h.each a (Uu e)).1⟩
def BstFrom (n:Nat)(hs:List (Nat×Nat))(wf:Nat×Nat->Int)(f:Nat->Int)(m:Nat):Prop:=f n=0/\∀p,m<=p->p<n->f (p+1)<=f p/\(∀x∈evl hs p,wf (p,x)+f x<=f p)/\(f p=f (p+1)∨∃x∈evl hs p,f p=wf (p,x)+f x)
def Bst (n:Nat)(hs:List (Nat×Nat))(wf:Nat×Nat->Int)(f:Nat->Int):Prop:=BstFrom n hs wf f 0
theorem BstFrom.step {f:Nat->Int}(HO:Hits n hs)(h:BstFrom n hs wf f (m+1))(hm:m<n){z:Int}(h1:f (m+1)<=z)(h2:∀x∈evl hs m,wf (m,x)+f x<=z)(h3:z=f (m+1)∨∃x∈evl hs m,z=wf (m,x)+f x) :
 BstFrom n hs wf (js f m z) m:=by
 have keep:∀j,m<j->js f m z j=f j:=fun j hj=>by unfold js;rw[Ur (by lia)]
 refine⟨by rw[keep n hm];exact h.1,fun p hp hpn=>?_⟩;rw[keep (p+1) (by lia)]
 by_cases e:p=m
 ·subst e;have e1:js f p z p=z:=by unfold js;rw[Uv rfl]
  rw[e1];refine⟨h1,fun x hx=>?_,?_⟩
  ·rw[keep x (qC HO hx).1];exact h2 x hx
  ·rcases h3 with h|⟨x,hx,h⟩
   ·exact .inl h
   ·exact .inr ⟨x,hx,by rw[keep x (qC HO hx).1];exact h⟩
 ·obtain⟨g1,g2,g3⟩:=h.2 p (by lia) hpn;rw[keep p (by lia)];refine⟨g1,fun x hx=>?_,?_⟩
  ·have:=(qC HO hx).1;rw[keep x (by lia)];exact g2 x hx
  ·rcases g3 with h|⟨x,hx,h⟩
   ·exact .inl h
   ·have:=(qC HO hx).1;exact .inr ⟨x,hx,by rw[keep x (by lia)];exact h⟩
theorem BstFrom.none (n:Nat)(hs:List (Nat×Nat))(wf:Nat×Nat->Int):BstFrom n hs wf (fun _=>0) n:=⟨rfl,fun p h1 h2=>by lia⟩
def vV (hs:List (Nat×Nat))(l:Nat):List (Nat×Nat):=hs.filter fun p=>decide (p.1=l)
theorem ze1 (hs:List (Nat×Nat))(p:Nat×Nat)(l:Nat):vV (hs++[p]) l=if l=p.1 then vV hs p.1++[p] else vV hs l:=by
 unfold vV;rw[O0]
 by_cases e:l=p.1
 ·subst e;rw[Uv rfl,Rm (by simp)];rfl
 ·rw[Ur e,T7 (by simpa using OO e)];simp
theorem dW {l:Nat}(h:p∈vV hs l):p∈hs/\p.1=l:=⟨(U2.mp h).1,U0 (U2.mp h).2⟩
def zkY (H:Hp)(l:Addr)(as:List Addr)(hs:List (Nat×Nat)):Prop:=∃g,LLAt H l as g/\∀i,i<as.length->TupsAt g2 H (g i) (vV hs i)
theorem Kl.tups {g:α->List V}{gg:Nat->List V}{ps:List α}(k:Kl as H H')(hl:LLAt H l as gg)(h:TupsAt g H xs ps):TupsAt g H' xs ps:=h.mono fun a zs e=>k a _ e fun z=>by
 obtain⟨j,hj,ej⟩:=OB z;have:=hl.each j a (by rw[Ua hj,ej]);rw[this] at e;cases e
def zfG (fw:Addr)(wf:Nat×Nat->Int)(E:Hp->Prop):Sp:=fun vs H Q _=>∃(p:Addr) (ns:List Int) (tot:Int),vs=[.ref p,.int tot,.ref fw]/\RowAt H p ns/\E H/\∀q f H',H q=none->H' q=some (.lst (fl (ns.length+1) f))->Bst ns.length (zm ns (eqT tot)) wf f->Same H H'->Q (.ref q) H'
abbrev j5:Stmt:=top 21
theorem ZV:zt ["row","total","worth","stretches_from","stretch","best","place","taken"] ["row","total","worth"] (zh j5):=fsc_
theorem zbr {spw:Sp}(wf:Nat×Nat->Int)(EH:Hp->Prop)(hE:∀H H',EH H->Same H H'->EH H')(F:Fun K "best_from" "best_from" j5 f fd)(T:Txt mg)(Zh:zK K mg "all_with" qG ["row","total"] fa fda)(ZE:FnOk P w K mg base CX0 3 fa fda ["row","total"] bV)(Js:zgO P w K mg base fw 1 spw)(hsp:∀a p H Q E,H a=some (.tup (g2 p))->EH H->(∀H',Same H H'->Q (.int (wf p)) H')->spw [.ref a] H Q E) :
 FnOk P w K mg base CX0 4 f fd ["row","total","worth"] (zfG fw wf EH):=by
 refine F.ok ZV (fun vs H Q E h=>?_) (fun cdv A outer s H vs Q E hr h=>?_)
 ·obtain⟨p,ns,tot,rfl,_⟩:=h;rfl
 ·obtain⟨p,ns,tot,rfl,⟨hp,hl⟩,hEH,k⟩:=h
  refine⟨_,(ze (qH (i:=3) (hN:=ZV.nd) (hy:=rfl) (hx:=rfl) (N:=["number"]) (cap:=[none]) (hc:=rfl) (hok:=(show qh ["row","total","worth","stretches_from","stretch","best","place","taken"] (zh j5) ["number"] [none] _=true by decide +kernel) ) (hi:=(piT (K:=K) rfl (pv 0))) (hb:=fun cl C s3 H3 fp=>⟨(zo (i:=0) (show(["number"]:List Str).Nodup by decide +kernel) rfl (Or.inl rfl)),qe,fun it acc=>(zP rfl (zR zc))⟩))
   (ze (qI U7 rfl (piL (K:=K) rfl (zl ZE (hr.mono (by first|decide|exact Ub _)) rfl Zh.mg Zh.fn.kp Zh.bd .nil zp (zb (pv 0) (zb (pv 1) zc)))) (zo (i:=4) ZV.nd rfl (Or.inl rfl))
     (zj (jd (jo Od U3 U9 qw (zz (ixL (K:=K) rfl) (pv 3) (zz (ixT (K:=K) rfl) (pv 4) zg (fun _ _=>rfl)) (fun _ _=>rfl)) (zb (pv 4) zc)))))
   (ze (zq (i:=5) ZV.nd rfl (Or.inr rfl) (zk zbh (zR (zb zg zc)) (zk zM (zv (jh (K:=K) rfl) (by rfl) T.b_len PyProof.Rows.Boot.«len» (zb (pv 0) zc)) zg)))
   (ze (qI U7 rfl (zg7 (by rfl) T.b_reversed (by rfl) T.b_range (zb (zv (jh (K:=K) rfl) (by rfl) T.b_len PyProof.Rows.Boot.«len» (zb (pv 0) zc)) zc)) (zo (i:=6) ZV.nd rfl (Or.inl rfl))
     (ze (qH (i:=7) (hN:=ZV.nd) (hy:=rfl) (hx:=rfl) (N:=["stretch","worth","best"]) (cap:=[none,some 2,some 5]) (hc:=rfl) (hok:=(show qh ["row","total","worth","stretches_from","stretch","best","place","taken"] (zh j5) ["stretch","worth","best"] [none,some 2,some 5] _=true by decide +kernel) ) (hi:=(piL (K:=K) rfl (zz (ixL (K:=K) rfl) (pv 3) (pv 6) (fun _ _=>rfl)))) (hb:=fun cl C s3 H3 fp=>⟨(zo (i:=0) (show(["stretch","worth","best"]:List Str).Nodup by decide +kernel) rfl (Or.inl rfl)),qe,fun it acc=>(zP rfl (zk zM (zha Js rfl rfl rfl rfl rfl (hr.mono (by first|decide|exact Ub _)) 1 (zb (pv 0) zc)) (zz (ixL (K:=K) rfl) (pv 2) (zz (ixT (K:=K) rfl) (pv 0) zg (fun _ _=>rfl)) (fun _ _=>rfl))))⟩))
     (zj (xB (zv (zkS false (K:=K) rfl rfl) (by rfl) T.b_max PyProof.Rows.Boot.«max» (zb (zk vR (pv 7) (zR (zb (zz (ixL (K:=K) rfl) (pv 5) (zk zM (pv 6) zg) (fun _ _=>rfl)) zc))) zc)) (dv (pv 5) (pv 6) set_list)))))
   (zj (zr (pv 5))))))),?_⟩
  have hlm:(ns.map V.int).length=ns.length:=Ud _;have HO:=jg ns tot;have plen:(zm ns (eqT tot)).length<=1000000:=UU (UQ _ _) (qP ns.length hl);refine⟨_,rfl,p,rfl,⟨_,SqT.of hp⟩,fun sf hsf=>?_⟩;refine wN (xs:=ns.map V.int) (fun i σ H'=>∃(v:Option V) (as:List Addr),σ=[v]/\LLNew H H' sf as i) ?_ ?_ ?_ ?_
  ·exact⟨none,[],rfl,LLNew.start hsf⟩
  ·rintro i σ H' _ ⟨v,as,rfl,N⟩;exact SqT.of (N.same _ _ hp)
  ·rintro i x σ H' hx ⟨v,as,rfl,N⟩;have hi:i<ns.length:=by rw[<-hlm];exact(Ue.mp hx).1
   exact⟨by show 0<=sizeLine;decide,fun q hq=>⟨_,(zi (zf N.self hq)).trans N.self,zO (by rw[Ud,N.len];lia),_,_,rfl,N.more hsf hq⟩⟩
  rintro σ H1 ⟨v,as,rfl,N⟩;have hasl:as.length=ns.length:=N.len.trans hlm;have hasn:∀b∈as,H b=none:=fun b hb=>(N.each b hb).2.1;have L1:=N.done;refine⟨_,rfl,_,rfl,p,ns,tot,rfl,⟨N.same _ _ hp,hl⟩,fun q xs H2 hqn hq ht S2=>⟨q,rfl,⟨_,SqL.of hq⟩,?_⟩⟩;have L2:=L1.same S2;have nq:q∉as:=fun z=>by have:=(N.each q z).1;rw[hqn] at this;cases this
  refine j8 (xs:=xs) (fun i σ H'=>∃v4:Option V,σ=[some (.ref p),some (.int tot),some (.ref fw),some (.ref sf),v4,none,none,none]/\zkY H' sf as ((zm ns (eqT tot)).take i)/\Kl as H2 H') ?_ ?_ ?_ ?_
  ·exact⟨none,rfl,⟨_,L2,fun i _=>by simpa[vV] using TupsAt.nil⟩,Kl.refl _⟩
  ·rintro i σ H' _ ⟨v4,rfl,_,k'⟩;exact SqL.of (k' _ _ hq nq)
  ·rintro i x σ H' hx ⟨v4,rfl,⟨g,LL,htt⟩,k'⟩;have hi:i<(zm ns (eqT tot)).length:=by rw[<-ht.1];exact(Ue.mp hx).1
   obtain⟨a,e1,e2⟩:=(k'.tups L2 ht).2 i _ (Ua hi);rw[hx] at e1;have e1:x=.ref a:=UK e1;subst e1;obtain⟨⟨lo,hi'⟩,hpr⟩:∃pr,(zm ns (eqT tot))[i]=pr:=⟨_,rfl⟩;rw[hpr] at e2;have hg:(zm ns (eqT tot))[i]?=some (lo,hi'):=by rw[Ua hi,hpr]
   obtain⟨m1,m2⟩:lo<hi'/\hi'<=ns.length:=HO.mem (lo,hi') (by rw[<-hpr];exact Of hi);obtain⟨b,b1,b2,b3⟩:=LL.get (i:=lo) (by lia);have hlo:=htt lo (by lia);refine⟨_,rfl,_,rfl,a,_,0,.int (lo:Int),rfl,rfl,SqT.of e2,rfl,sf,_,_,_,rfl,rfl,SqL.of LL.self,qa b1,.inl ⟨rfl,_,SqL.of b3⟩,_,rfl,b,_,_,rfl,rfl,b3,zO ?_,?_⟩
   ·rw[hlo.1];unfold vV;refine UU (UQ _ _) ?_;rw[UA];lia
   ·refine⟨_,rfl,⟨_,LL.push b2 _,fun j hj=>?_⟩,k'.wr (Uu b2)⟩;have kk:∀(c:Addr) (zs:List V),H' c=some (.tup zs)->upd H' b (.lst (g lo++[.ref a])) c=some (.tup zs):=qY b3;rw[take_succ hg,ze1]
    by_cases ej:j=lo
    ·subst ej;rw[Uv rfl,Uv rfl];exact TupsAt.snoc (hlo.mono kk) (kk _ _ e2)
    ·rw[Ur ej,Ur ej];exact(htt j hj).mono kk
  rintro σ H3 ⟨v4,rfl,⟨g,LL,htt⟩,k3⟩;rw[ht.1,US] at htt;have S3:Same H H3:=Kl.same (N.same.trans S2) hasn k3;refine⟨by show 1<=sizeLine;decide,fun l1 h1=>⟨_,rfl,p,_,rfl,.inr (SqT.of ((zi (zf (S3 _ _ hp) h1)).trans (S3 _ _ hp))),_,_,rfl,rfl,l1,_,_,rfl,rfl,zd,by lia,by lia,size_le (by simp only[Uk,UM];lia),fun bs hbs=>?_⟩⟩
  have e0:(List.replicate (((ns.map V.int).length:Int)+1).toNat [V.int 0]).flatten=fl (ns.length+1) (fun _=>0):=by
   rw[show(((ns.map V.int).length:Int)+1).toNat=ns.length+1 by lia]
   have:∀m,(List.replicate m [V.int 0]).flatten=List.replicate m (V.int 0):=by
    intro m
    induction m with
    |zero=>rfl
    |succ m ih=>rw[OI,Ri,ih,OI];rfl
   rw[this];unfold fl;apply OV;intro j
   by_cases hj:j<ns.length+1
   ·rw[T6,Uv hj,Up,OJ hj];rfl
   ·rw[OM (by rw[RB];lia),OM (by rw[Ud,TR];lia)]
  rw[e0];have S4:Same H3 (upd (upd H3 l1 (.lst [.int 0])) bs (.lst (fl (ns.length+1) (fun _=>0)))):=(Same.lay h1).trans (Same.lay hbs);have hb4:=zd (H:=upd H3 l1 (.lst [.int 0])) (a:=bs) (o:=.lst (fl (ns.length+1) (fun _=>0)));have nb3:H3 bs=none:=(Same.lay h1).free hbs;generalize upd (upd H3 l1 (.lst [.int 0])) bs (.lst (fl (ns.length+1) (fun _=>0)))=H4 at S4 hb4 ⊢;have L4:=LL.same S4;have hp4:=S4 _ _ (S3 _ _ hp);have nbp:p≠bs:=zf (S3 _ _ hp) nb3
  have nba:∀a∈as,a≠bs:=fun a ha=>by
   obtain⟨j,hj,ej⟩:=OB ha;exact zf (LL.each j a (by rw[Ua hj,ej])) nb3
  have nbs:sf≠bs:=zf LL.self nb3;have hnb:H bs=none:=S3.free nb3;refine⟨_,rfl,p,_,rfl,.inr (SqT.of hp4),ns.length,by rw[hlm],by lia,?_⟩;refine kc (n:=ns.length) (fun i σ H'=>∃(v6 v7:Option V) (f:Nat->Int),σ=[some (.ref p),some (.int tot),some (.ref fw),some (.ref sf),v4,some (.ref bs),v6,v7]/\H' bs=some (.lst (fl (ns.length+1) f))/\BstFrom ns.length (zm ns (eqT tot)) wf f (ns.length-i)/\Kp bs H4 H') ?_ ?_ ?_
  ·exact⟨none,none,_,rfl,hb4,by simpa using BstFrom.none _ _ _,Kp.refl _⟩
  ·rintro i σ H5 hi ⟨v6,v7,f,rfl,hb5,hB,k5⟩;obtain⟨m,hm⟩:∃m:Nat,m=ns.length-1-i:=⟨_,rfl⟩;have em:(ns.length:Int)-1+(i:Int) * -1=(m:Int):=by lia
   have em2:ns.length-i=m+1:=by lia
   rw[em];rw[em2] at hB;obtain⟨b,b1,b2,b3⟩:=L4.get (i:=m) (by lia);have nbb:b≠bs:=nba b (Uu b2);have hb35:=k5 _ _ b3 nbb;have htm:TupsAt g2 H5 (g m) (vV (zm ns (eqT tot)) m):=k5.tups hb4 ((htt m (by lia)).mono (qi S4));refine⟨_,rfl,_,rfl,sf,_,_,_,rfl,rfl,SqL.of (k5 _ _ L4.self nbs),qa b1,b,rfl,⟨_,SqL.of hb35⟩,fun acc hacc=>?_⟩;have S45:Same H H5:=Kp.same (S3.trans S4) hnb k5;refine qb (xs:=g m) (fun j σ H'=>∃(v:Option V),σ=[v,some (.ref fw),some (.ref bs)]/\H' acc=some (.lst ((((vV (zm ns (eqT tot)) m).take j).map fun r=>wf r+f r.2).map V.int))/\Same H5 H') ?_ ?_ ?_ ?_
   ·exact⟨none,rfl,zd,Same.lay hacc⟩
   ·rintro j σ H' _ ⟨v,rfl,ha,S'⟩;exact SqL.of (S' _ _ hb35)
   ·rintro j x σ H' hx ⟨v,rfl,ha,S'⟩;have hj:j<(vV (zm ns (eqT tot)) m).length:=by rw[<-htm.1];exact(Ue.mp hx).1
    obtain⟨a,e1,e2⟩:=htm.2 j _ (Ua hj);rw[hx] at e1;have e1:x=.ref a:=UK e1;subst e1;obtain⟨⟨lo,hi'⟩,hpr⟩:∃pr,(vV (zm ns (eqT tot)) m)[j]=pr:=⟨_,rfl⟩;rw[hpr] at e2;have hg:(vV (zm ns (eqT tot)) m)[j]?=some (lo,hi'):=by rw[Ua hj,hpr]
    obtain⟨mm,em3⟩:=dW (Uu hg);obtain⟨m1,m2⟩:lo<hi'/\hi'<=ns.length:=HO.mem (lo,hi') mm;refine⟨rfl,_,rfl,hsp a (lo,hi') H' _ _ (S' _ _ e2) (hE _ _ (hE _ _ hEH S45) S') fun H'' S''=>?_⟩;have S2':=S'.trans S'';refine⟨_,rfl,_,rfl,a,_,1,.int (hi':Int),rfl,rfl,SqT.of (S2' _ _ e2),rfl,bs,_,_,_,rfl,rfl,SqL.of (S2' _ _ hb5),fH (by lia),_,_,rfl,rfl,_,S'' _ _ ha,zO ?_,_,rfl,?_,?_⟩
    ·rw[Ud,Ud,UA];have:(vV (zm ns (eqT tot)) m).length<=(zm ns (eqT tot)).length:=UQ _ _;lia
    ·rw[zd,take_succ hg,Ux,Ux];rfl
    ·exact fun c o ec=>by rw[zi (zf ec hacc)];exact S2' c o ec
   rintro σ H6 ⟨v,rfl,ha,S6⟩;rw[htm.1,US] at ha;have hb6:=S6 _ _ hb5;refine⟨_,rfl,_,rfl,_,rfl,_,_,rfl,rfl,bs,_,_,_,rfl,rfl,SqL.of hb6,(show atI (fl (ns.length+1) f) ((m:Int)+1)=some (.int (f (m+1))) from fH (j:=m+1) (by lia)),by show 1<=sizeLine;decide,fun l2 hl2=>⟨acc,l2,_,_,rfl,rfl,(zi (zf ha hl2)).trans ha,zd,size_le ?_,fun l3 hl3=>?_⟩⟩
   ·rw[Ud,Ud];have:(vV (zm ns (eqT tot)) m).length<=(zm ns (eqT tot)).length:=UQ _ _;have:(zm ns (eqT tot)).length<=ns.length*1000:=UU (UQ _ _) (gO ns.length hl ns.length (Ub _))
    have:(vV (zm ns (eqT tot)) m).length<=ns.length:=by
     have e:(vV (zm ns (eqT tot)) m).Pairwise (fun a b=>a.2<b.2):=by
      unfold vV;refine List.Pairwise.imp_of_mem ?_ (HO.sorted.filter _);intro a b ha hb hab;have e1:a.1=m:=U0 (U2.mp ha).2;have e2:b.1=m:=U0 (U2.mp hb).2;rcases hab with z|z
      ·lia
      ·exact z.2
     have:∀(l:List (Nat×Nat)) (b:Nat),l.Pairwise (fun a b=>a.2<b.2)->(∀a∈l,b<a.2/\a.2<=ns.length)->l.length<=ns.length-b:=by
      intro l
      induction l with
      |nil=>intro b _ _;simp
      |cons x t ih=>
       intro b hp hx;have h1:=hx x Ug;have:=ih x.2 (UY.mp hp).2 fun a ha=>⟨(UY.mp hp).1 a ha,(hx a (Uh _ ha)).2⟩;rw[Uk];lia
     have:=this _ 0 e fun a ha=>by
      have:=HO.mem a (dW ha).1;lia
     lia
    show _+1<=1000000;lia
   have S7:Same H6 (upd (upd H6 l2 (.lst [.int (f (m+1))])) l3 (.lst ((((vV (zm ns (eqT tot)) m).map fun r=>wf r+f r.2)++[f (m+1)]).map V.int))):=(Same.lay hl2).trans (Same.lay hl3);refine⟨l3,((vV (zm ns (eqT tot)) m).map fun r=>wf r+f r.2)++[f (m+1)],rfl,SqL.of (by rw[zd,Ux];rfl),by rw[UD];simp,fun z H8 hz hmx S8=>?_⟩;have ee:(((vV (zm ns (eqT tot)) m).map fun r=>wf r+f r.2).map V.int++[V.int (f (m+1))])=(((vV (zm ns (eqT tot)) m).map fun r=>wf r+f r.2)++[f (m+1)]).map V.int:=by rw[Ux];rfl
   rw[ee] at S8;have S68:=S6.trans (S7.trans S8);have hb8:=S68 _ _ hb5;refine⟨_,rfl,_,rfl,bs,_,_,m,rfl,rfl,hb8,yt (by rw[d4];lia),?_⟩;refine⟨_,_,js f m z,rfl,by rw[zd,zgq],?_,(k5.trans (Kp.of S68)).wr⟩;rw[show ns.length-(i+1)=m by lia]
   have hmx':∀x∈((vV (zm ns (eqT tot)) m).map fun r=>wf r+f r.2)++[f (m+1)],x<=z:=fun x hx=>by
    have:=hmx x hx;rw[Ur (by decide)] at this;exact this
   refine hB.step HO (by lia) (hmx' _ (UF _ Ug)) (fun x hx=>?_) ?_
   ·refine hmx' _ (UR _ (U6.mpr ⟨(m,x),U2.mpr ⟨(qC HO hx).2.2,by simp⟩,rfl⟩))
   ·rcases UJ.mp hz with h|h
    ·obtain⟨r,hr,er⟩:=U6.mp h;obtain⟨hr1,hr2⟩:=dW hr;refine .inr ⟨r.2,U6.mpr ⟨r,hr,rfl⟩,?_⟩;rw[<-er,<-hr2]
    ·exact .inl (by simpa using h)
  ·rintro σ H5 ⟨v6,v7,f,rfl,hb5,hB,k5⟩;rw[Ry] at hB;exact⟨_,rfl,k bs f H5 hnb hb5 hB (Kp.same (S3.trans S4) hnb k5)⟩
def xu:Nat×Nat->Int:=fun _=>1
theorem gv {f:Nat->Int}{wf:Nat×Nat->Int}(hf:Bst n hs wf f){p:Nat}:∀q,p<=q->q<=n->f q<=f p
 |0,h,_=>by
  have:p=0:=by lia
  subst this;exact RQ _
 |q+1,h,hq=>by
  by_cases e:p=q+1
  ·subst e;exact RQ _
  ·exact NW (hf.2 q (UI _) (by lia)).1 (gv hf q (by lia) (by lia))
theorem zbG {f:Nat->Int}(hf:Bst n hs wf f){p:Nat}(hp:p<=n):0<=f p:=by
 have:=gv hf n hp (Ub _);rw[hf.1] at this;exact this
theorem zbH {f:Nat->Int}(HO:Hits n hs)(hf:Bst n hs xu f)(hm:p∈hs)(hb:b<=p.1):1+f p.2<=f b:=by
 obtain⟨m1,m2⟩:=HO.mem p hm;have h1:=(hf.2 p.1 (UI _) (by lia)).2.1 p.2 (zho hm);have h2:=gv hf p.1 hb (by lia);unfold xu at h1;lia
def qt (f:Nat->Int)(s:List (Nat×Nat)×Nat)(p:Nat×Nat):List (Nat×Nat)×Nat:=if s.2<=p.1/\1+f p.2=f s.2 then(s.1++[p],p.2) else s
def apt (f:Nat->Int)(hs:List (Nat×Nat)):List (Nat×Nat)×Nat:=hs.foldl (qt f) ([],0)
abbrev jx:Stmt:=top 20
def yr:Expr:=match qS jx with
 | .Assign _ (.Call _ (_::_::l::_) _ _) _::_=>l
 |_=>.Name "x" ⟨0,0,0,0⟩
abbrev bB:Str:=("most_apart"++".<locals>.")++"<lambda>"
abbrev zeG:Pos:=zhq yr
abbrev d6 (mg:Str->Option Value)(c:Addr)(ct:Value):FuncData:=kla_fn "<lambda>" bB (zi1 yr) (zi0 yr) (zgk yr (zh jx)) [] ((mg "__name__").getD .none) (.ref c) ct
abbrev zgM (P:Addr)(H:Hp):Prop:=TabAt zeG bB P H
def zit (mg:Str->Option Value)(f c:Addr)(ct:Value):Sp:=fun vs H Q _=>∃v,vs=[v]/\H f=some (wM f (d6 mg c ct))/\H c=some (jH c bB)/\Q (.int 1) H
def zdQ (P:Addr):Sp:=fun vs H Q _=>∃(p:Addr) (ns:List Int) (tot:Int),vs=[.ref p,.int tot]/\RowAt H p ns/\zgM P H/\
 ∀q f xs H',Bst ns.length (zm ns (eqT tot)) xu f->H' q=some (.tup xs)->TupsAt g2 H' xs (apt f (zm ns (eqT tot))).1->Kp P H H'->zgM P H'->Q (.ref q) H'
theorem zhi (f c:Addr)(ct:Value):FnOk P w K mg base CX0 1 f (d6 mg c ct) ["stretch"] (zit mg f c ct):=by
 refine ziY (N:=["stretch"]) fsc_ (fun vs H Q E h=>?_) (fun vs H Q E h=>?_) (fun A outer s H vs Q E hr h=>?_)
 ·obtain⟨v,rfl,_⟩:=h;rfl
 ·obtain⟨v,rfl,h1,h2,_⟩:=h;exact⟨h1,h2⟩
 ·obtain⟨v,rfl,h1,h2,q⟩:=h;exact⟨_,zg,q⟩
theorem ZK:zt ["row","total","most","chosen","place","low","high"] ["row","total"] (zh jx):=fsc_
theorem pX {c:Addr}(F:FunC K "most_apart" "most_apart" jx f fd c T0)(T:Txt mg)(BM:pO mg base)(Z5:zK K mg "best_from" j5 ["row","total","worth"] fb fdb)(Zh:zK K mg "all_with" qG ["row","total"] fa fda)(ZE:FnOk P w K mg base CX0 3 fa fda ["row","total"] bV):FnOk P w K mg base CX0 5 f fd ["row","total"] (zdQ T0):=by
 have Jf:FnOk P w K mg base CX0 4 fb fdb ["row","total","worth"] (fun vs H Q E=>∃i:Addr×Addr×Value,zfG i.1 xu (fun H=>H i.1=some (wM i.1 (d6 mg i.2.1 i.2.2))/\H i.2.1=some (jH i.2.1 bB)) vs H Q E):=
  FnOk.ex fun i=>zbr _ _ (fun H H' h s=>⟨s _ _ h.1,s _ _ h.2⟩) Z5.fn T Zh ZE (zhG (zhi i.1 i.2.1 i.2.2) (fun vs H Q E ⟨v,_,h,_⟩=>h) (.all fun us hl=>match us,hl with|[_],_=>rfl)) (fun a p H Q E h h' q=>⟨_,rfl,h'.1,h'.2,q H (Same.refl _)⟩)
 refine F.ok ZK (fun vs H Q E h=>?_) (fun A outer s H vs Q E hr h=>?_)
 ·obtain⟨p,ns,tot,rfl,_⟩:=h;rfl
 ·obtain⟨p,ns,tot,rfl,⟨hp,hl⟩,hT,k⟩:=h
  refine⟨_,(ze (zq (i:=2) ZK.nd rfl (Or.inl rfl) (zl Jf (hr.mono (by first|decide|exact Ub _)) rfl Z5.mg Z5.fn.kp Z5.bd .nil zp (zb (pv 0) (zb (pv 1) (zb (ziL rfl F.hd BM) zc)))))
   (ze (zq (i:=3) ZK.nd rfl (Or.inl rfl) (zR zc))
   (ze (zq (i:=4) ZK.nd rfl (Or.inl rfl) zg)
   (ze (qI U7 rfl (piL (K:=K) rfl (zl ZE (hr.mono (by first|decide|exact Ub _)) rfl Zh.mg Zh.fn.kp Zh.bd .nil zp (zb (pv 0) (zb (pv 1) zc)))) (pgT (K:=K) (n:=2) rfl rfl (zI (zo (i:=5) ZK.nd rfl (Or.inl rfl)) (zI (zo (i:=6) ZK.nd rfl (Or.inl rfl)) qm)))
     (zj (z8 (PW.pt (vj (zw wC (pv 4) (pv 5) (zH _)) (jC (zw qU (zk zM zg (zz (ixL (K:=K) rfl) (pv 2) (pv 6) (fun _ _=>rfl))) (zz (ixL (K:=K) rfl) (pv 2) (pv 4) (fun _ _=>rfl)) (zH _)))))
       (ze (jd (jo Od U3 U9 qw (pv 3) (zb (qu (zb (pv 5) (zb (pv 6) zc))) zc)))
       (zj (zq (i:=4) ZK.nd rfl (Or.inl rfl) (pv 6))))
       zL)))
   (zj (zr (zJ (kg (K:=K) rfl) (by rfl) T.b_tuple PyProof.Rows.Boot.«tuple» (zb (pv 3) zc)))))))),?_⟩
  have HO:=jg ns tot;have plen:(zm ns (eqT tot)).length<=1000000:=UU (UQ _ _) (qP ns.length hl);refine⟨_,rfl,_,rfl,zaR hT fun fl c' ct H1 hfn hl1 hc1 hP1 K1=>?_⟩;have hpP:p≠T0:=hT.ne hp (by intro ps z;cases z);have hp1:=K1 _ _ hp hpP;refine⟨(fl,c',ct),p,ns,tot,rfl,⟨hp1,hl⟩,⟨hl1,hc1⟩,fun q f H2 hqn hq hB S2=>?_⟩;have K2:Kp T0 H H2:=fun b o e n=>S2 _ _ (K1 b o e n);have T2:zgM T0 H2:=.inr ⟨c',S2 _ _ hP1,S2 _ _ hc1⟩;dsimp only[zx];refine⟨by show 0<=sizeLine;decide,fun l hl'=>?_⟩;have S3:=Same.lay (o:=.lst []) hl';have hp3:=S3 _ _ (S2 _ _ hp1);refine⟨_,rfl,_,rfl,p,ns,tot,rfl,⟨hp3,hl⟩,fun q2 xs H3 hqn2 hq2 ht S4=>⟨q2,rfl,⟨_,SqL.of hq2⟩,?_⟩⟩;have hl3:=S4 _ _ (zd (H:=H2) (a:=l) (o:=.lst []));have hq3:=S4 _ _ (S3 _ _ hq);have nq:q≠l:=zf hq hl';have nq2:q2≠l:=fun e=>by subst e;rw[zd] at hqn2;cases hqn2
  have S34:=S3.trans S4
  have lT:l≠T0:=fun z=>by
   subst z;rcases T2 with z|⟨_,z,_⟩<;>(rw[hl'] at z;cases z)
  refine j8 (xs:=xs) (fun i σ H'=>∃(v5 v6:Option V) (ys:List V),σ=[some (.ref p),some (.int tot),some (.ref q),some (.ref l),some (.int ((apt f ((zm ns (eqT tot)).take i)).2:Int)),v5,v6]/\H' l=some (.lst ys)/\TupsAt g2 H' ys (apt f ((zm ns (eqT tot)).take i)).1/\(apt f ((zm ns (eqT tot)).take i)).1.length<=i/\(apt f ((zm ns (eqT tot)).take i)).2<=ns.length/\Kp l H3 H') ?_ ?_ ?_ ?_
  ·exact⟨none,none,[],rfl,hl3,TupsAt.nil,Ub _,UI _,Kp.refl _⟩
  ·rintro i σ H' _ ⟨v5,v6,ys,rfl,ha,_,_,_,k'⟩;exact SqL.of (k' _ _ hq2 nq2)
  ·rintro i x σ H' hx ⟨v5,v6,ys,rfl,ha,hc,hcl,hpl,k'⟩;have hi:i<(zm ns (eqT tot)).length:=by rw[<-ht.1];exact(Ue.mp hx).1
   obtain⟨a,e1,e2⟩:=(k'.tups hl3 ht).2 i _ (Ua hi);rw[hx] at e1;have e1:x=.ref a:=UK e1;subst e1;obtain⟨⟨lo,hi'⟩,hpr⟩:∃pr,(zm ns (eqT tot))[i]=pr:=⟨_,rfl⟩;rw[hpr] at e2;have hg:(zm ns (eqT tot))[i]?=some (lo,hi'):=by rw[Ua hi,hpr]
   obtain⟨m1,m2⟩:lo<hi'/\hi'<=ns.length:=HO.mem (lo,hi') (by rw[<-hpr];exact Of hi)
   have stp:apt f ((zm ns (eqT tot)).take (i+1))=qt f (apt f ((zm ns (eqT tot)).take i)) (lo,hi'):=by
    unfold apt;rw[take_succ hg,NS];rfl
   generalize apt f ((zm ns (eqT tot)).take i)=st at hc hcl hpl stp ⊢;obtain⟨cs,pl⟩:=st;dsimp only at hc hcl hpl ⊢;have hmq:=k' _ _ hq3 nq;refine⟨a,_,rfl,SqT.of e2,rfl,_,_,rfl,_,_,rfl,rfl,?_⟩
   have no:¬(pl<=lo/\1+f hi'=f pl)->∃(v5 v6:Option V) (ys:List V),[some (.ref p),some (.int tot),some (.ref q),some (.ref l),some (.int (pl:Int)),some (.int (lo:Int)),some (.int (hi':Int))]=[some (.ref p),some (.int tot),some (.ref q),some (.ref l),some (.int ((apt f ((zm ns (eqT tot)).take (i+1))).2:Int)),v5,v6]/\H' l=some (.lst ys)/\TupsAt g2 H' ys (apt f ((zm ns (eqT tot)).take (i+1))).1/\(apt f ((zm ns (eqT tot)).take (i+1))).1.length<=i+1/\(apt f ((zm ns (eqT tot)).take (i+1))).2<=ns.length/\Kp l H3 H':=fun hn=>by
    have e:qt f (cs,pl) (lo,hi')=(cs,pl):=Ur hn;rw[stp,e];exact⟨_,_,ys,rfl,ha,hc,Nat.le_succ_of_le hcl,hpl,k'⟩
   refine⟨_,rfl,_,rfl,_,_,rfl,rfl,_,rfl,qB (fun e=>?_) (fun e=>?_)⟩
   ·have elo:pl<=lo:=by have:=U0 e;lia
    refine⟨_,rfl,_,rfl,q,_,_,_,rfl,rfl,SqL.of hmq,fH (by lia),_,_,rfl,rfl,_,rfl,_,rfl,q,_,_,_,rfl,rfl,SqL.of hmq,fH (by lia),rfl,_,rfl,qB (fun e3=>?_) (fun e3=>?_)⟩
    ·have e3:1+f hi'=f pl:=by rw[R4] at e3;injection e3
     have e:qt f (cs,pl) (lo,hi')=(cs++[(lo,hi')],hi'):=Uv ⟨elo,e3⟩;refine⟨_,rfl,.inl ⟨rfl,_,SqL.of ha⟩,_,rfl,_,rfl,by show 2<=sizeLine;decide,fun tt htt=>⟨l,ys,_,rfl,rfl,(zi (zf ha htt)).trans ha,zO (by rw[hc.1];lia),?_⟩⟩;refine⟨_,rfl,?_⟩;rw[stp,e];refine⟨_,_,_,rfl,zd,?_,by rw[UD];simp only[Uk,UM];lia,m2,(k'.lay htt).wr⟩;refine TupsAt.snoc (hc.mono fun b zs e=>?_) ?_
     ·rw[zi (qE e ha (by intro z;cases z)),zi (zf e htt)];exact e
     ·rw[zi (OO (zf ha htt)),zd];rfl
    ·exact no fun z=>e3 (Uy (O3 V.int z.2))
   ·exact qz (no fun z=>e (Uy (by lia)))
  ·rintro σ H4 ⟨v5,v6,ys,rfl,ha,hc,hcl,hpl,k'⟩;rw[ht.1,US] at hc;have e4:∀b o,H2 b=some o->H4 b=some o:=fun b o e=>k' _ _ (S34 _ _ e) (zf e hl');refine⟨_,rfl,l,ys,rfl,.inl ⟨SqL.of ha,fun q4 hq4=>?_⟩⟩;have S5:=Same.lay (o:=.tup ys) hq4;refine k q4 f ys _ hB zd (hc.mono fun b zs e=>S5 _ _ e) (fun b o e n=>S5 _ _ (e4 _ _ (K2 b o e n))) ?_;rcases T2 with z|⟨c2,z1,z2⟩
   ·exact .inl (S5 _ _ (e4 _ _ z))
   ·exact .inr ⟨c2,S5 _ _ (e4 _ _ z1),S5 _ _ (e4 _ _ z2)⟩
theorem zkI {c B:Prop}[Decidable c](h:¬c)(hB:B):if c then A else B:=by rw[Ur h];exact hB
def Grd (hs ds:List (Nat×Nat)):Prop:=(∀d∈ds,d∈hs)/\ds.Pairwise (fun a b=>a.2<=b.1)/\∀h∈hs,∃d∈ds,h.1<d.2/\d.2<=h.2
def qT (ds:List (Nat×Nat)):List Int:=ds.map fun d=>(d.2:Int)-1
theorem Grd.perm {hs':List (Nat×Nat)}(h:Grd hs ds)(p:hs.Perm hs'):Grd hs' ds:=⟨fun d hd=>p.mem_iff.mp (h.1 d hd),h.2.1,fun x hx=>h.2.2 x (p.mem_iff.mpr hx)⟩
theorem zdq (ht:TupsAt g2 H xs hs){ps:List (List Int×V)}(ko:pN (hs.map fun p=>[(p.2:Int)]) xs ps) :
 ∃es:List (Nat×Nat),es.Perm hs/\TupsAt g2 H (ps.map (·.2)) es/\es.Pairwise (fun a b=>a.2<=b.2):=by
 have pr:Paired (fun(h:Nat×Nat) (q:List Int×V)=>q.1=[(h.2:Int)]/\∃a,q.2=.ref a/\H a=some (.tup (g2 h))) hs ((hs.map fun p=>[(p.2:Int)]).zip xs):=by
  have hl:hs.length=((hs.map fun p=>[(p.2:Int)]).zip xs).length:=by rw[length_zip,Ud,ht.1];lia
  refine gQ hl fun i q hq=>?_;rw[List.getElem?_zip_eq_some] at hq;obtain⟨h1,h2⟩:=hq;rw[Up] at h1;obtain⟨p,hp,e⟩:=UT.mp h1;obtain⟨a,e1,e2⟩:=ht.2 i p hp;rw[h2] at e1;exact⟨p,hp,e.symm,a,UK e1,e2⟩
 obtain⟨es,p1,p2⟩:=Paired.perm ko.1 pr;refine⟨es,p2,⟨by rw[Ud,Oa p1],fun i p hp=>?_⟩,?_⟩
 ·obtain⟨q,hq,_,a,e1,e2⟩:=Paired.at' p1 hp;exact⟨a,by rw[Up,hq];exact O3 some e1,e2⟩
 ·have e:ps.map (·.1)=es.map fun h=>[(h.2:Int)]:=by
   clear ko pr p2 ht
   induction p1 with
   |nil=>rfl
   |cons r t ih=>rw[UL,UL,ih,r.1]
  have pw:=(RG (f:=fun q:List Int×V=>q.1) (R:=leC)).mpr ko.2;rw[e] at pw;refine(RG.mp pw).imp fun {a b} h=>?_;unfold leC at h;rw[zdo] at h;have:=RW h;lia
theorem zgm (hp:es[i]?=some p)(h:Grd (es.take i) ds)(hb:ds=[]∨∃ds' d,ds=ds'++[d]/\d.2<=p.1)(hlt:p.1<p.2)(hm:∀d∈es,d.1<d.2):Grd (es.take (i+1)) (ds++[p]):=by
 have et:es.take (i+1)=es.take i++[p]:=by rw[O7,hp];rfl
 rw[et];refine⟨fun d hd=>?_,?_,fun x hx=>?_⟩
 ·rcases UJ.mp hd with z|z
  ·exact UR _ (h.1 d z)
  ·exact UF _ z
 ·refine U5.mpr ⟨h.2.1,by simp,fun a ha b hb'=>?_⟩;have e:b=p:=by simpa using hb'
  subst e;rcases hb with rfl|⟨ds',d,rfl,hd⟩
  ·simp at ha
  ·rcases UJ.mp ha with z|z
   ·have:=(U5.mp h.2.1).2.2 a z d (by simp);have:=hm d (RL (h.1 d (by simp)));lia
   ·have e:a=d:=by simpa using z
    subst e;exact hd
 ·rcases UJ.mp hx with z|z
  ·obtain⟨d,hd,q⟩:=h.2.2 x z;exact⟨d,UR _ hd,q⟩
  ·have e:x=p:=by simpa using z
   subst e;exact⟨x,by simp,hlt,Ub _⟩
theorem zgn {ds':List (Nat×Nat)}{d:Nat×Nat}(hp:es[i]?=some p)(h:Grd (es.take i) (ds'++[d]))(hl:p.1<d.2)(so:es.Pairwise (fun a b=>a.2<=b.2)):Grd (es.take (i+1)) (ds'++[d]):=by
 have et:es.take (i+1)=es.take i++[p]:=by rw[O7,hp];rfl
 have hle:d.2<=p.2:=by
  have hd:=h.1 d (by simp);have pw:(es.take (i+1)).Pairwise (fun a b=>a.2<=b.2):=so.sublist (List.take_sublist _ _);rw[et] at pw;exact(U5.mp pw).2.2 d hd p (by simp)
 rw[et];refine⟨fun x hx=>UR _ (h.1 x hx),h.2.1,fun x hx=>?_⟩;rcases UJ.mp hx with z|z
 ·exact h.2.2 x z
 ·have e:x=p:=by simpa using z
  subst e;exact⟨d,by simp,hl,hle⟩
abbrev qx:Stmt:=top 33
def qK:Expr:=match qS qx with
 |_::.For _ (.Call _ _ (⟨_,l,_⟩::_) _) _ _ _::_=>l
 |_=>.Name "x" ⟨0,0,0,0⟩
abbrev w9:Str:=("points_of"++".<locals>.")++"<lambda>"
abbrev zhN (P:Addr)(H:Hp):Prop:=TabAt (zhq qK) w9 P H
def zhX (P:Addr):Sp:=fun vs H Q _=>∃(p:Addr) (ns:List Int) (tot:Int),vs=[.ref p,.int tot]/\RowAt H p ns/\zhN P H/\
 ∀q ds H',Grd (zm ns (eqT tot)) ds->H' q=some (.tup ((qT ds).map V.int))->Kp P H H'->zhN P H'->Q (.ref q) H'
theorem Qq:zt ["row","total","points","low","high"] ["row","total"] (zh qx):=fsc_
theorem zbm {c:Addr}(F:FunC K "points_of" "points_of" qx f fd c T0)(T:Txt mg)(BM:pO mg base)(Zh:zK K mg "all_with" qG ["row","total"] fa fda)(ZE:FnOk P w K mg base CX0 3 fa fda ["row","total"] bV):FnOk P w K mg base CX0 5 f fd ["row","total"] (zhX T0):=by
 refine F.ok Qq (fun vs H Q E h=>?_) (fun A outer s H vs Q E hr h=>?_)
 ·obtain⟨p,ns,tot,rfl,_⟩:=h;rfl
 ·obtain⟨p,ns,tot,rfl,⟨hp,hl⟩,hT,k⟩:=h;have hr2:=hr.in1.in1;obtain⟨cl,e0,cl1,cl2⟩:=zd8 (env:=PyProof.Rows.envOfC "points_of" (zh qx) s.heap.objs.size f (.ref c)) (outer:=zh qx) (scope:=zgk qK (zh qx)) (n:=s.heap.objs.size+1) rfl (by decide +kernel)
  refine⟨_,(ze (zq (i:=2) Qq.nd rfl (Or.inl rfl) (zR zc))
   (ze (qI U7 rfl (piL (K:=K) rfl (dw (zjf (y:="stretch") (Nc:=[]) (cap:=[]) (cl:=cl) (name:="<lambda>") (qual:=w9) (params:=zi1 qK) (body:=zi0 qK) (scope:=zgk qK (zh qx)) (pm:=(mg "__name__").getD .none) (zkV (K:=K) rfl) (scI _) zgQ ⟨(show qh ["row","total","points","low","high"] (zh qx) [] [] _=true by decide +kernel),rfl,rfl,rfl,e0,cl1,cl2⟩ hr2 (fun _ _ _=>rfl) (fun _ _ _ _=>(zz (ixT (K:=K) rfl) (pv 0) zg (fun _ _=>rfl)))) (by rfl) T.b_sorted PyProof.Rows.Boot.«sorted» (zb (zl ZE (hr.mono (by first|decide|exact Ub _)) rfl Zh.mg Zh.fn.kp Zh.bd .nil zp (zb (pv 0) (zb (pv 1) zc))) zc) (xn (zbd rfl F.hd BM e0) dj))) (pgT (K:=K) (n:=2) rfl rfl (zI (zo (i:=3) Qq.nd rfl (Or.inl rfl)) (zI (zo (i:=4) Qq.nd rfl (Or.inl rfl)) qm)))
     (zj (z8 (PW.pt (kM (qV (ziF (pv 2))) (ya (zw fE (zz (ixL (K:=K) rfl) (pv 2) (kT xU zg) (fun _ _=>rfl)) (pv 3) (zH _)))))
       (zj (jd (jo Od U3 U9 qw (pv 2) (zb (zk qp (pv 4) zg) zc))))
       zL)))
   (zj (zr (zJ (kg (K:=K) rfl) (by rfl) T.b_tuple PyProof.Rows.Boot.«tuple» (zb (pv 2) zc)))))),?_⟩
  have HO:=jg ns tot;have plen:(zm ns (eqT tot)).length<=1000000:=UU (UQ _ _) (qP ns.length hl);refine⟨by show 0<=sizeLine;decide,fun l hl'=>?_⟩;have S1:=Same.lay (o:=.lst []) hl';have eL:upd H l (.lst []) l=some (.lst []):=zd;generalize upd H l (.lst [])=H1 at S1 eL;dsimp only[zx];refine⟨_,rfl,_,rfl,p,ns,tot,rfl,⟨S1 _ _ hp,hl⟩,fun q2 xs H2 hqn2 hq2 ht S2=>?_⟩;have S12:=S1.trans S2;have T2:=hT.keep S12;dsimp -proj only [zes,zbX];refine zaR T2 fun fl c' ct H3 hfn hl3 hc3 hP3 K3=>?_;have nT:∀b o,H2 b=some o->(∀ps,o≠.tbl ps)->H3 b=some o:=fun b o e n=>K3 b o e (T2.ne e n);have hq3:=nT _ _ hq2 (by intro ps z;cases z);have ht3:TupsAt g2 H3 xs (zm ns (eqT tot)):=ht.mono fun a zs e=>nT _ _ e (by intro ps z;cases z);have eL3:=nT _ _ (S2 _ _ eL) (by intro ps z;cases z);refine⟨.ref q2,fl,c',ct,xs,(zm ns (eqT tot)).map (fun p=>[(p.2:Int)]),rfl,rfl,⟨q2,rfl,SqL.of hq3,by rw[ht3.1];exact plen⟩,hl3,hc3,by rw[ht3.1];exact plen,by rw[Ud,ht3.1],?_,?_⟩
  ·intro i x c H' hx hc S';rw[Up] at hc;obtain⟨⟨lo,hi⟩,hpr,rfl⟩:=UT.mp hc;obtain⟨a,e1,e2⟩:=ht3.2 i _ hpr;rw[hx] at e1;have e1:x=.ref a:=UK e1;subst e1;exact⟨_,rfl,a,_,_,_,rfl,rfl,SqT.of (S' _ _ e2),rfl,⟨(hi:Int),rfl,rfl⟩,Same.refl _⟩
  ·intro q3 ps H4 hqn3 hqn4 S4 ko;obtain⟨es,pe,hes,so⟩:=zdq ht3 ko;have lenE:es.length=(zm ns (eqT tot)).length:=pe.length_eq;have mE:∀d∈es,d.1<d.2/\d.2<=ns.length:=fun d hd=>HO.mem d (pe.mem_iff.mp hd);have nl:l≠q3:=zf eL3 hqn3;refine⟨q3,rfl,⟨_,SqL.of zd⟩,?_⟩;have S5:=Same.lay (o:=.lst (ps.map (·.2))) hqn4;have eq5:upd H4 q3 (.lst (ps.map (·.2))) q3=some (.lst (ps.map (·.2))):=zd;generalize upd H4 q3 (.lst (ps.map (·.2)))=H5 at S5 eq5;have S35:=S4.trans S5;have eL5:=S35 _ _ eL3;have hes5:TupsAt g2 H5 (ps.map (·.2)) es:=hes.mono fun a zs e=>S35 _ _ e;refine j8 (xs:=ps.map (·.2)) (fun i σ H'=>∃(v3 v4:Option V) (ds:List (Nat×Nat)),σ=[some (.ref p),some (.int tot),some (.ref l),v3,v4]/\H' l=some (.lst ((qT ds).map V.int))/\Grd (es.take i) ds/\ds.length<=i/\Kp l H5 H') ?_ ?_ ?_ ?_
   ·exact⟨none,none,[],rfl,eL5,⟨fun d hd=>by simp at hd,by simp,fun h hh=>by simp at hh⟩,Ub _,Kp.refl _⟩
   ·rintro i σ H' _ ⟨v3,v4,ds,rfl,_,_,_,k'⟩;exact SqL.of (k' _ _ eq5 (OO nl))
   ·rintro i x σ H' hx ⟨v3,v4,ds,rfl,ha,hg,hdl,k'⟩;have hi:i<es.length:=by rw[<-hes5.1];exact(Ue.mp hx).1
    obtain⟨a,e1,e2⟩:=(k'.tups eL5 hes5).2 i _ (Ua hi);rw[hx] at e1;have e1:x=.ref a:=UK e1;subst e1;obtain⟨⟨lo,hi'⟩,hpr⟩:∃pr,es[i]=pr:=⟨_,rfl⟩;rw[hpr] at e2;have hgt:es[i]?=some (lo,hi'):=by rw[Ua hi,hpr]
    obtain⟨m1,m2⟩:lo<hi'/\hi'<=ns.length:=mE (lo,hi') (by rw[<-hpr];exact Of hi);have mm:∀d∈es,d.1<d.2:=fun d hd=>(mE d hd).1;refine⟨a,_,rfl,SqT.of e2,rfl,_,_,rfl,_,_,rfl,rfl,?_⟩;dsimp only[zx]
    have add:(ds=[]∨∃ds' d,ds=ds'++[d]/\d.2<=lo)->∃(v3 v4:Option V) (ds2:List (Nat×Nat)),([some (.ref p),some (.int tot),some (.ref l),some (.int (lo:Int)),some (.int (hi':Int))]:St)=[some (.ref p),some (.int tot),some (.ref l),v3,v4]/\upd H' l (.lst ((qT ds).map V.int++[.int ((hi':Int)-1)])) l=some (.lst ((qT ds2).map V.int))/\Grd (es.take (i+1)) ds2/\ds2.length<=i+1/\Kp l H5 (upd H' l (.lst ((qT ds).map V.int++[.int ((hi':Int)-1)]))):=fun hb=>
     ⟨_,_,ds++[(lo,hi')],rfl,by rw[zd];unfold qT;rw[Ux,Ux];rfl,zgm hgt hg hb m1 mm,by rw[UD];simp only[Uk,UM];lia,k'.wr⟩
    have sz:((qT ds).map V.int).length<sizeLine:=zO (by unfold qT;rw[Ud,Ud];lia);rcases List.eq_nil_or_concat ds with rfl|⟨ds',d,rfl⟩
    ·exact⟨_,rfl,l,_,rfl,ha,wm (wm ⟨_,rfl,.inl ⟨rfl,_,SqL.of ha⟩,_,rfl,_,_,rfl,rfl,l,_,_,rfl,rfl,ha,sz,add (.inl rfl)⟩)⟩
    ·rw[List.concat_eq_append] at ha hg hdl add sz;have ha':H' l=some (.lst ((qT ds').map V.int++[.int ((d.2:Int)-1)])):=by rw[ha];unfold qT;rw[Ux,Ux];rfl
     refine⟨_,rfl,l,_,rfl,ha',zkI (by simp) ⟨_,rfl,1,rfl,l,_,_,_,rfl,rfl,SqL.of ha',pD _ _,_,rfl,_,_,rfl,rfl,_,rfl,qB (fun e=>?_) (fun e=>?_)⟩⟩
     ·have e:=U0 e;exact⟨_,rfl,.inl ⟨rfl,_,SqL.of ha⟩,_,rfl,_,_,rfl,rfl,l,_,_,rfl,rfl,ha,sz,add (.inr ⟨ds',d,rfl,by lia⟩)⟩
     ·rw[R4] at e;exact⟨_,_,ds'++[d],rfl,ha,zgn hgt hg (by show lo<d.2;lia) so,by lia,k'⟩
   ·rintro σ H' ⟨v3,v4,ds,rfl,ha,hg,hdl,k'⟩;rw[Ud] at hg;have hle:es.take ps.length=es:=Oi (by rw[<-hes5.1,Ud];exact Ub _);rw[hle] at hg;have nlT:l≠T0:=T2.ne (S2 _ _ eL) (by intro ps z;cases z);have hP':H' T0=some (.tbl (pR (zhq qK) c')):=k' _ _ (S35 _ _ hP3) (OO nlT);have hc':H' c'=some (jH c' w9):=k' _ _ (S35 _ _ hc3) (fun z=>by subst z;rw[hc3] at eL3;cases eL3);refine⟨_,rfl,l,_,rfl,.inl ⟨SqL.of ha,fun r hr'=>?_⟩⟩;have SR:=Same.lay (o:=.tup ((qT ds).map V.int)) hr';refine k r ds _ (hg.perm pe) zd (fun b o e n=>SR _ _ (k' _ _ (S35 _ _ (K3 _ _ (S12 _ _ e) n)) (zf e hl'))) (.inr ⟨c',SR _ _ hP',SR _ _ hc'⟩)
def Chn (cs:List (Nat×Nat)):Prop:=cs.Pairwise fun a b=>a.2<=b.1
def beh (ds:List (Nat×Nat))(b:Nat):Nat:=(ds.filter fun d=>decide (b<d.2)).length
def cnt (ds:List (Nat×Nat))(c:Nat×Nat):Nat:=(ds.filter fun d=>decide (c.1<d.2)&&decide (d.2<=c.2)).length
theorem zhD (ds:List (Nat×Nat))(c:Nat×Nat)(b:Nat)(hb:b<=c.1)(hc:c.1<c.2):cnt ds c+beh ds c.2<=beh ds b:=by
 unfold cnt beh
 induction ds with
 |nil=>simp
 |cons d t ih=>
  simp only[filter_cons]
  by_cases h1:c.1<d.2
  ·by_cases h2:d.2<=c.2
   ·have h3:¬c.2<d.2:=by lia
    have h4:b<d.2:=by lia
    simp only[h1,h2,h3,h4,decide_true,NT,Bool.and_true,Tp,UW,OR,Uk];lia
   ·have h3:c.2<d.2:=by lia
    have h4:b<d.2:=by lia
    simp only[h1,h2,h3,h4,decide_true,NT,R7,Tp,UW,OR,Uk];lia
  ·have h3:¬c.2<d.2:=by lia
   simp only[h1,h3,NT,RP,UW,OR]
   by_cases h4:b<d.2
   ·simp only[h4,decide_true,Tp,Uk];lia
   ·simp only[h4,NT,UW,OR];exact ih
theorem zen {ds:List (Nat×Nat)}:∀(cs:List (Nat×Nat)) (b:Nat),Chn cs->(∀c∈cs,b<=c.1/\c.1<c.2)->(cs.map (cnt ds)).sum<=beh ds b
 |[],b,_,_=>by simp
 |c::t,b,hc,hm=>by
  obtain⟨h1,h2⟩:=UY.mp hc;obtain⟨m1,m2⟩:=hm c (Ug ..);have ih:=zen (ds:=ds) t c.2 h2 fun x hx=>⟨h1 x hx,(hm x (Uh _ hx)).2⟩;have:=zhD ds c b m1 m2;rw[UL,OH];lia
theorem zjj (ds:List (Nat×Nat))(b:Nat):beh ds b<=ds.length:=UQ _ _
theorem zb0:∀(l:List Nat),(∀x∈l,1<=x)->l.length<=l.sum/\(l.sum<=l.length->∀x∈l,x=1)
 |[],_=>⟨by simp,fun _ x hx=>by simp at hx⟩
 |y::t,h=>by
  obtain⟨h1,h2⟩:=zb0 t fun x hx=>h x (Uh _ hx);have hy:=h y (Ug ..);rw[OH,Uk];refine⟨by lia,fun hs x hx=>?_⟩;rcases Uw.mp hx with rfl|hx
  ·lia
  ·exact h2 (by lia) x hx
theorem zhv (g:Grd hs ds){c:Nat×Nat}(hc:c∈hs):1<=cnt ds c:=by
 obtain⟨d,hd,e1,e2⟩:=g.2.2 c hc;unfold cnt;exact List.length_pos_of_mem (U2.mpr ⟨hd,by simp[e1,e2]⟩)
theorem zhu (HO:Hits n hs)(g:Grd hs ds)(hc:Chn cs)(hm:∀c∈cs,c∈hs):cs.length<=ds.length:=by
 have h1:=zen (ds:=ds) cs 0 hc fun c hc'=>⟨UI _,(HO.mem c (hm c hc')).1⟩
 have h2:=(zb0 (cs.map (cnt ds)) (fun x hx=>by
  obtain⟨c,hc',rfl⟩:=U6.mp hx;exact zhv g (hm c hc'))).1
 have h3:=zjj ds 0;rw[Ud] at h2;lia
theorem bH {f:Nat->Int}(HO:Hits n hs)(hf:Bst n hs xu f):∀(cs:List (Nat×Nat)) (b:Nat),b<=n->Chn cs->(∀c∈cs,c∈hs/\b<=c.1)->(cs.length:Int)<=f b
 |[],b,hb,_,_=>zbG hf hb
 |c::t,b,hb,hc,hm=>by
  obtain⟨h1,h2⟩:=UY.mp hc;obtain⟨m1,m2⟩:=hm c (Ug ..);have ih:=bH HO hf t c.2 (HO.mem c m1).2 h2 fun x hx=>⟨(hm x (Uh _ hx)).1,h1 x hx⟩;have:=zbH HO hf m1 m2;rw[Uk];lia
theorem zgD {f:Nat->Int}(HO:Hits n hs)(hf:Bst n hs xu f):∀k b,n-b<=k->b<=n->0<f b->∃p∈hs,b<=p.1/\1+f p.2=f b
 |0,b,hk,hb,h=>by
  have:b=n:=by lia
  subst this;rw[hf.1] at h;lia
 |k+1,b,hk,hb,h=>by
  by_cases e:b=n
  ·subst e;rw[hf.1] at h;lia
  ·rcases(hf.2 b (UI _) (by lia)).2.2 with e1|⟨y,hy,e1⟩
   ·obtain⟨p,hp,h1,h2⟩:=zgD HO hf k (b+1) (by lia) (by lia) (by lia);exact⟨p,hp,by lia,by lia⟩
   ·exact⟨(b,y),(qC HO hy).2.2,Ub _,by show 1+f y=f b;unfold xu at e1;lia⟩
theorem bI {f:Nat->Int}(HO:Hits n hs)(hf:Bst n hs xu f):∀(t pre acc:List (Nat×Nat)) (a:Nat),hs=pre++t->a<=n->(∀p∈hs,a<=p.1->1+f p.2=f a->p∈t)->∃cs,(t.foldl (qt f) (acc,a)).1=acc++cs/\(∀c∈cs,c∈hs/\a<=c.1)/\Chn cs/\(cs.length:Int)=f a
 |[],pre,acc,a,e,ha,hr=>by
  refine⟨[],by simp,fun c hc=>by simp at hc,by unfold Chn;simp,?_⟩;have:=zbG hf ha
  by_cases z:0<f a
  ·obtain⟨p,hp,h1,h2⟩:=zgD HO hf (n-a) a (Ub _) ha z;have:=hr p hp h1 h2;simp at this
  ·simp only[UM];lia
 |p0::t,pre,acc,a,e,ha,hr=>by
  have m0:p0∈hs:=by rw[e];simp
  rw[Oz];have e':hs=(pre++[p0])++t:=by rw[e];simp
  by_cases z:a<=p0.1/\1+f p0.2=f a
  ·have e1:qt f (acc,a) p0=(acc++[p0],p0.2):=Uv z;rw[e1]
   obtain⟨cs,c1,c2,c3,c4⟩:=bI HO hf t (pre++[p0]) (acc++[p0]) p0.2 e' (HO.mem p0 m0).2 fun p hp h1 h2=>by
    have lt:=(HO.mem p0 m0).1;have so:=HO.sorted;rw[e'] at hp so;rcases UJ.mp hp with w|w
    ·rcases UJ.mp w with w|w
     ·have so2:=(U5.mp so).1;have:=(U5.mp so2).2.2 p w p0 (by simp);rcases this with q|q<;>lia
     ·have:p=p0:=by simpa using w
      subst this;lia
    ·exact w
   refine⟨p0::cs,by rw[c1];simp,fun c hc=>?_,UY.mpr ⟨fun x hx=>(c2 x hx).2,c3⟩,?_⟩
   ·rcases Uw.mp hc with rfl|hc
    ·exact⟨m0,z.1⟩
    ·have:=c2 c hc;have:=(HO.mem p0 m0).1;exact⟨(c2 c hc).1,by lia⟩
   ·rw[Uk];lia
  ·have e1:qt f (acc,a) p0=(acc,a):=Ur z;rw[e1];refine bI HO hf t (pre++[p0]) acc a e' ha fun p hp h1 h2=>?_;rcases Uw.mp (hr p hp h1 h2) with rfl|w
   ·exact absurd ⟨h1,h2⟩ z
   ·exact w
theorem zbL {f:Nat->Int}(HO:Hits n hs)(hf:Bst n hs xu f):(∀c∈(apt f hs).1,c∈hs)/\Chn (apt f hs).1/\((apt f hs).1.length:Int)=f 0:=by
 obtain⟨cs,c1,c2,c3,c4⟩:=bI HO hf hs [] [] 0 rfl (UI _) fun p hp _ _=>hp;have e:(apt f hs).1=cs:=by unfold apt;rw[c1];simp
 rw[e];exact⟨fun c hc=>(c2 c hc).1,c3,c4⟩
theorem zhK {f:Nat->Int}(HO:Hits n hs)(hf:Bst n hs xu f)(g:Grd hs ds):(apt f hs).1.length=ds.length:=by
 obtain⟨h1,h2,h3⟩:=zbL HO hf;have h4:=zhu HO g h2 h1;have h5:=bH HO hf ds 0 (UI _) g.2.1 fun c hc=>⟨g.1 c hc,UI _⟩;lia
theorem yw (HO:Hits n hs)(hc:Chn cs)(hm:∀c∈cs,c∈hs):cs.length<=n:=by
 have key:∀(cs:List (Nat×Nat)) (b:Nat),b<=n->Chn cs->(∀c∈cs,c∈hs/\b<=c.1)->cs.length<=n-b:=by
  intro cs
  induction cs with
  |nil=>intro b _ _ _;simp
  |cons c t ih=>
   intro b hb hc hm;obtain⟨h1,h2⟩:=UY.mp hc;obtain⟨m1,m2⟩:=hm c (Ug ..);have hin:=HO.mem c m1;have:=ih c.2 hin.2 h2 fun x hx=>⟨(hm x (Uh _ hx)).1,h1 x hx⟩;rw[Uk];lia
 have:=key cs 0 (UI _) hc fun c hc'=>⟨hm c hc',UI _⟩;lia
theorem ziE (g:Grd (zm ns (eqT tot)) ds){x:Int}(hx:x∈qT ds):0<=x/\x<(ns.length:Int):=by
 unfold qT at hx;obtain⟨d,hd,rfl⟩:=U6.mp hx;have:=(jg ns tot).mem d (g.1 d hd);lia
theorem zg4 (g:Grd (zm ns (eqT tot)) ds)(hp:p∈zm ns (eqT tot)):∃x∈qT ds,(p.1:Int)<=x/\x<(p.2:Int):=by
 obtain⟨d,hd,e1,e2⟩:=g.2.2 p hp;exact⟨(d.2:Int)-1,Tu (f:=fun d:Nat×Nat=>(d.2:Int)-1) hd,by lia,by lia⟩
def zT (ns:List Int)(tot:Int):Nat->Int:=qo ns.length (zm ns (eqT tot))
def zjm (H:Hp)(v:V):Option (List (Nat×Nat))->Prop
 |none=>v=.non
 |some ps=>∃q xs,v=.ref q/\H q=some (.tup xs)/\TupsAt g2 H xs ps
def vt (ns:List Int)(tot:Int):Option (List (Nat×Nat)):=if zT ns tot 0=0 then none else some (chn ns.length (zm ns (eqT tot)) 0)
def zc4:Sp:=fun vs H Q _=>∃(p:Addr) (ns:List Int) (tot:Int),vs=[.ref p,.int tot]/\RowAt H p ns/\∀q H',H q=none->H' q=some (.lst (fl (ns.length+1) (zT ns tot)))->Same H H'->Q (.ref q) H'
def zb6:Sp:=fun vs H Q _=>∃(p:Addr) (ns:List Int) (tot:Int),vs=[.ref p,.int tot]/\RowAt H p ns/\∀H',Same H H'->Q (.int (zT ns tot 0)) H'
def zb4:Sp:=fun vs H Q _=>∃(p:Addr) (ns:List Int) (tot:Int),vs=[.ref p,.int tot]/\RowAt H p ns/\∀v H',zjm H' v (vt ns tot)->Same H H'->Q v H'
abbrev qZ:Stmt:=top 24
theorem ZU:zt ["row","total","ways","low","high"] ["row","total"] (zh qZ):=fsc_
theorem gU (F:Fun K "partings_from" "partings_from" qZ f fd)(T:Txt mg)(Zh:zK K mg "all_with" qG ["row","total"] fa fda)(ZE:FnOk P w K mg base CX0 3 fa fda ["row","total"] bV) :
 FnOk P w K mg base CX0 4 f fd ["row","total"] zc4:=by
 refine F.ok ZU (fun vs H Q E h=>?_) (fun cdv A outer s H vs Q E hr h=>?_)
 ·obtain⟨p,ns,tot,rfl,_⟩:=h;rfl
 ·obtain⟨p,ns,tot,rfl,⟨hp,hl⟩,k⟩:=h
  refine⟨_,(ze (zq (i:=2) ZU.nd rfl (Or.inl rfl) (zk vR (zk zbh (zR (zb zg zc)) (zv (jh (K:=K) rfl) (by rfl) T.b_len PyProof.Rows.Boot.«len» (zb (pv 0) zc))) (zR (zb zg zc))))
   (ze (qI U7 rfl (ziI (K:=K) rfl (by rfl) T.b_reversed (zb (zl ZE (hr.mono (by first|decide|exact Ub _)) rfl Zh.mg Zh.fn.kp Zh.bd .nil zp (zb (pv 0) (zb (pv 1) zc))) zc)) (pgT (K:=K) (n:=2) rfl rfl (zI (zo (i:=3) ZU.nd rfl (Or.inl rfl)) (zI (zo (i:=4) ZU.nd rfl (Or.inl rfl)) qm)))
     (zj (zg6 (pv 2) (pv 3) (ze4 (K:=K) rfl) (zz (ixL (K:=K) rfl) (pv 2) (pv 4) (fun _ _=>rfl)) zi7 set_list)))
   (zj (zr (pv 2))))),?_⟩
  have hlm:(ns.map V.int).length=ns.length:=Ud _;refine⟨by show 1<=sizeLine;decide,fun l1 h1=>⟨_,rfl,p,_,rfl,.inr (SqT.of ((zi (zf hp h1)).trans hp)),l1,_,_,rfl,rfl,zd,by lia,by lia,size_le (by rw[hlm];simp only[Uk,UM];lia),fun l2 h2=>?_⟩⟩;refine⟨by show 1<=sizeLine;decide,fun l3 h3=>⟨l2,l3,_,_,rfl,rfl,(zi (zf zd h3)).trans zd,zd,size_le ?_,fun l4 h4=>?_⟩⟩
  ·rw[len_rep,hlm];simp only[Uk,UM];lia
  have S1:Same H (upd H l1 (.lst [.int 0])):=Same.lay h1;have S2:=S1.trans (Same.lay (o:=.lst (List.replicate ((ns.map V.int).length:Int).toNat [V.int 0]).flatten) h2);have S3:=S2.trans (Same.lay (o:=.lst [.int 1]) h3)
  have e0:(List.replicate ((ns.map V.int).length:Int).toNat [V.int 0]).flatten++[V.int 1]=fl (ns.length+1) (qo ns.length []):=by
   rw[hlm,Ot];unfold fl;rw[OY,Ux];congr 1
   ·apply OV;intro j
    by_cases hj:j<ns.length
    ·have:(List.replicate ns.length [V.int 0]).flatten=List.replicate ns.length (V.int 0):=by
      generalize ns.length=m
      induction m with
      |zero=>rfl
      |succ m ih=>rw[OI,Ri,ih,OI];rfl
     rw[this,T6,Uv hj,Up,OJ hj];show _=some (V.int (W0 ns.length j));unfold W0;rw[Ur (by lia)]
    ·rw[OM (by rw[len_rep];simp only[Uk,UM];lia),OM (by rw[Ud,TR];lia)]
   ·show _=[V.int (W0 ns.length ns.length)];unfold W0;rw[Uv rfl]
  rw[e0];have S4:=S3.trans (Same.lay (o:=.lst (fl (ns.length+1) (qo ns.length []))) h4);have hn4:=S3.free h4;refine⟨_,rfl,_,rfl,p,ns,tot,rfl,⟨S4 _ _ hp,hl⟩,fun q xs H5 hqn hq ht S5=>⟨q,xs,rfl,SqL.of hq,?_⟩⟩;have h45:=S5 _ _ (zd (H:=upd (upd (upd H l1 (.lst [.int 0])) l2 (.lst (List.replicate ((ns.map V.int).length:Int).toNat [V.int 0]).flatten)) l3 (.lst [.int 1])) (a:=l4) (o:=.lst (fl (ns.length+1) (qo ns.length []))));have S45:=S4.trans S5;have nq:q≠l4:=fun e=>by subst e;rw[zd] at hqn;cases hqn
  have HO:=jg ns tot;refine zhx (fun i σ H'=>∃v3 v4:Option V,σ=[some (.ref p),some (.int tot),some (.ref l4),v3,v4]/\H' l4=some (.lst (fl (ns.length+1) (qo ns.length ((zm ns (eqT tot)).drop i))))/\Kp l4 H5 H') ?_ ?_ ?_ ?_
  ·refine⟨none,none,rfl,?_,Kp.refl _⟩;rw[ht.1,List.drop_length];exact h45
  ·rintro i σ H' ⟨v3,v4,rfl,hw,k'⟩;exact SqL.of (k' _ _ hq nq)
  ·rintro i x σ H' hx ⟨v3,v4,rfl,hw,k'⟩;have hi:i<(zm ns (eqT tot)).length:=by rw[<-ht.1];exact(Ue.mp hx).1
   obtain⟨a,e1,e2⟩:=(k'.tups h45 ht).2 i _ (Ua hi);rw[hx] at e1;have e1:x=.ref a:=UK e1;subst e1;obtain⟨⟨lo,hi'⟩,hpr⟩:∃pr,(zm ns (eqT tot))[i]=pr:=⟨_,rfl⟩;rw[hpr] at e2;obtain⟨m1,m2⟩:=HO.mem (lo,hi') (by rw[<-hpr];exact Of hi);refine⟨a,_,rfl,SqT.of e2,rfl,_,_,rfl,_,_,rfl,rfl,?_⟩;refine⟨_,rfl,_,rfl,l4,_,lo,_,rfl,rfl,SqL.of hw,zbA (by show lo<_;have:lo<hi':=m1;lia),_,rfl,_,rfl,l4,_,_,_,rfl,rfl,SqL.of hw,fH (by have:hi'<=ns.length:=m2;lia),_,_,rfl,rfl,l4,_,_,lo,rfl,rfl,hw,yt (by rw[d4];have:lo<hi':=m1;have:hi'<=ns.length:=m2;lia),?_⟩;refine⟨_,_,rfl,?_,k'.wr⟩;rw[zd,zgq];congr 2;rw[OX hi,hpr];rfl
  ·rintro σ H' ⟨v3,v4,rfl,hw,k'⟩;exact⟨_,rfl,k l4 H' hn4 hw (Kp.same S45 hn4 k')⟩
abbrev jL:Stmt:=top 22
theorem kE:zt ["row","total"] ["row","total"] (zh jL):=fsc_
theorem k7 (F:Fun K "count_partings" "count_partings" jL f fd)(T:Txt mg)(Zo:zK K mg "partings_from" qZ ["row","total"] fa fda)(Qn:FnOk P w K mg base CX0 4 fa fda ["row","total"] zc4) :
 FnOk P w K mg base CX0 5 f fd ["row","total"] zb6:=by
 refine F.ok kE (fun vs H Q E h=>?_) (fun cdv A outer s H vs Q E hr h=>?_)
 ·obtain⟨p,ns,tot,rfl,_⟩:=h;rfl
 ·obtain⟨p,ns,tot,rfl,⟨hp,hl⟩,k⟩:=h;refine⟨_,(zj (zr (zz (ixL (K:=K) rfl) (zl Qn (hr.mono (by first|decide|exact Ub _)) rfl Zo.mg Zo.fn.kp Zo.bd .nil zp (zb (pv 0) (zb (pv 1) zc))) zg (fun _ _=>rfl)))),?_⟩;exact⟨_,rfl,_,rfl,p,ns,tot,rfl,⟨hp,hl⟩,fun q H1 _ hq S1=>⟨q,_,_,_,rfl,rfl,SqL.of hq,fH (j:=0) (by lia),k H1 S1⟩⟩
abbrev ve:Stmt:=top 23
theorem Zv:zt ["row","total","ways","chosen","place","low","high"] ["row","total"] (zh ve):=fsc_
theorem gW (F:Fun K "first_parting" "first_parting" ve f fd)(T:Txt mg)(Zo:zK K mg "partings_from" qZ ["row","total"] fa fda)(Qn:FnOk P w K mg base CX0 4 fa fda ["row","total"] zc4)(Zh:zK K mg "all_with" qG ["row","total"] fb fdb)(ZE:FnOk P w K mg base CX0 3 fb fdb ["row","total"] bV) :
 FnOk P w K mg base CX0 5 f fd ["row","total"] zb4:=by
 refine F.ok Zv (fun vs H Q E h=>?_) (fun cdv A outer s H vs Q E hr h=>?_)
 ·obtain⟨p,ns,tot,rfl,_⟩:=h;rfl
 ·obtain⟨p,ns,tot,rfl,⟨hp,hl⟩,k⟩:=h
  refine⟨_,(ze (zq (i:=2) Zv.nd rfl (Or.inl rfl) (zl Qn (hr.mono (by first|decide|exact Ub _)) rfl Zo.mg Zo.fn.kp Zo.bd .nil zp (zb (pv 0) (zb (pv 1) zc))))
   (ze (z8 (zw qU (zz (ixL (K:=K) rfl) (pv 2) zg (fun _ _=>rfl)) zg (zH _))
     (zj (zr xC))
     zL)
   (ze (zq (i:=3) Zv.nd rfl (Or.inl rfl) (zR zc))
   (ze (zq (i:=4) Zv.nd rfl (Or.inl rfl) zg)
   (ze (qI U7 rfl (piL (K:=K) rfl (zl ZE (hr.mono (by first|decide|exact Ub _)) rfl Zh.mg Zh.fn.kp Zh.bd .nil zp (zb (pv 0) (zb (pv 1) zc)))) (pgT (K:=K) (n:=2) rfl rfl (zI (zo (i:=5) Zv.nd rfl (Or.inl rfl)) (zI (zo (i:=6) Zv.nd rfl (Or.inl rfl)) qm)))
     (zj (z8 (PW.pt (vj (zw qU (pv 5) (pv 4) (zH _)) (jC (zw zas (zz (ixL (K:=K) rfl) (pv 2) (pv 6) (fun _ _=>rfl)) zg (zH _)))))
       (ze (jd (jo Od U3 U9 qw (pv 3) (zb (qu (zb (pv 5) (zb (pv 6) zc))) zc)))
       (zj (zq (i:=4) Zv.nd rfl (Or.inl rfl) (pv 6))))
       zL)))
   (zj (zr (zJ (kg (K:=K) rfl) (by rfl) T.b_tuple PyProof.Rows.Boot.«tuple» (zb (pv 3) zc))))))))),?_⟩
  refine⟨_,rfl,_,rfl,p,ns,tot,rfl,⟨hp,hl⟩,fun q H1 _ hq S1=>?_⟩;refine⟨_,rfl,q,_,_,_,rfl,rfl,SqL.of hq,fH (j:=0) (by lia),rfl,_,rfl,qB (fun e=>?_) (fun e=>?_)⟩
  ·refine k _ _ ?_ S1;unfold vt;rw[Uv (by rw[R4] at e;injection e)];exact rfl
  have hne:¬zT ns tot 0=0:=fun z=>e (Uy (O3 V.int z));have hw0:0<zT ns tot 0:=by have:0<=zT ns tot 0:=jj _ _ _;lia
  have HO:=jg ns tot;refine⟨by show 0<=sizeLine;decide,fun l hl1=>?_⟩;have S2:=S1.trans (Same.lay (o:=.lst []) hl1);have hn2:=S1.free hl1;refine⟨_,rfl,_,rfl,p,ns,tot,rfl,⟨S2 _ _ hp,hl⟩,fun q2 xs H3 hqn hq2 ht S3=>⟨q2,rfl,⟨_,SqL.of hq2⟩,?_⟩⟩;have S23:=S2.trans S3;have hl3:=S3 _ _ (zd (H:=H1) (a:=l) (o:=.lst []));have hq3:=S3 _ _ ((zi (o:=.lst []) (zf hq hl1)).trans hq);have nq:q≠l:=zf hq hl1;have nq2:q2≠l:=fun e=>by subst e;rw[zd] at hqn;cases hqn
  have plen:(zm ns (eqT tot)).length<=1000000:=UU (UQ _ _) (qP ns.length hl)
  refine j8 (xs:=xs) (fun i σ H'=>∃(v5 v6:Option V) (pl:Nat) (cs:List (Nat×Nat)) (ys:List V),σ=[some (.ref p),some (.int tot),some (.ref q),some (.ref l),some (.int pl),v5,v6]/\H' l=some (.lst ys)/\TupsAt g2 H' ys cs/\cs.length<=i/\Kp l H3 H'/\
   pl<=ns.length/\0<zT ns tot pl/\cs++chn ns.length (zm ns (eqT tot)) pl=chn ns.length (zm ns (eqT tot)) 0/\∀r∈(zm ns (eqT tot)).take i,r.1=pl->¬0<zT ns tot r.2) ?_ ?_ ?_ ?_
  ·exact⟨none,none,0,[],[],rfl,hl3,TupsAt.nil,Ub _,Kp.refl _,UI _,hw0,rfl,by simp⟩
  ·rintro i σ H' _ ⟨v5,v6,pl,cs,ys,rfl,ha,_,_,k',_⟩;exact SqL.of (k' _ _ hq2 nq2)
  ·rintro i x σ H' hx ⟨v5,v6,pl,cs,ys,rfl,ha,hc,hcl,k',hpl,hwp,hch,hno⟩;have hi:i<(zm ns (eqT tot)).length:=by rw[<-ht.1];exact(Ue.mp hx).1
   obtain⟨a,e1,e2⟩:=(k'.tups hl3 ht).2 i _ (Ua hi);rw[hx] at e1;have e1:x=.ref a:=UK e1;subst e1;obtain⟨⟨lo,hi'⟩,hpr⟩:∃pr,(zm ns (eqT tot))[i]=pr:=⟨_,rfl⟩;rw[hpr] at e2;have hg:(zm ns (eqT tot))[i]?=some (lo,hi'):=by rw[Ua hi,hpr]
   obtain⟨m1,m2⟩:lo<hi'/\hi'<=ns.length:=HO.mem (lo,hi') (by rw[<-hpr];exact Of hi)
   have hno':∀pl',(¬(lo=pl'/\0<zT ns tot hi'))->(∀r∈(zm ns (eqT tot)).take i,r.1=pl'->¬0<zT ns tot r.2)->∀r∈(zm ns (eqT tot)).take (i+1),r.1=pl'->¬0<zT ns tot r.2:=by
    intro pl' hnn hno r hr e;rw[take_succ hg] at hr;rcases UJ.mp hr with h|h
    ·exact hno r h e
    ·have:r=(lo,hi'):=by simpa using h
     subst this;exact fun z=>hnn ⟨e,z⟩
   refine⟨a,_,rfl,SqT.of e2,rfl,_,_,rfl,_,_,rfl,rfl,?_⟩;refine⟨_,rfl,_,rfl,rfl,_,rfl,qB (fun e=>?_) (fun e=>?_)⟩
   ·have elo:lo=pl:=by rw[R4] at e;injection e with e;lia
    refine⟨_,rfl,_,rfl,q,_,_,_,rfl,rfl,SqL.of (k' _ _ hq3 nq),fH (by lia),_,_,rfl,rfl,_,rfl,qB (fun e3=>?_) (fun e3=>?_)⟩
    ·have e3:0<zT ns tot hi':=U0 e3;refine⟨_,rfl,.inl ⟨rfl,_,SqL.of ha⟩,_,rfl,_,rfl,by show 2<=sizeLine;decide,fun tt htt=>⟨l,ys,_,rfl,rfl,(zi (zf ha htt)).trans ha,zO (by rw[hc.1];lia),?_⟩⟩;refine⟨_,rfl,?_⟩;subst elo;refine⟨_,_,hi',cs++[(lo,hi')],_,rfl,zd,?_,by rw[UD];simp only[Uk,UM];lia,(k'.lay htt).wr,m2,e3,?_,?_⟩
     ·refine TupsAt.snoc (hc.mono fun b zs e=>?_) ?_
      ·rw[zi (qE e ha (by intro z;cases z)),zi (zf e htt)];exact e
      ·rw[zi (OO (zf ha htt)),zd];rfl
     ·rw[<-hch,zdx HO (by lia) (zcJ hg e3 hno),U8];rfl
     ·intro r hr er;exfalso;have hr':r∈(zm ns (eqT tot)).take (i+1):=hr;rw[take_succ hg] at hr';rcases UJ.mp hr' with h|h
      ·obtain⟨j,hj,ej⟩:=OB h;have hj':j<i:=by rw[UA] at hj;lia
       have:=Oh.mp HO.sorted j i (by lia) hi hj';rw[hpr] at this;rw[NR] at ej;rw[ej] at this;rcases this with z|z
       ·have:r.1<lo:=z;lia
       ·have:r.1=lo:=z.1;lia
      ·have:r=(lo,hi'):=by simpa using h
       subst this;have:lo=hi':=er;lia
    ·exact⟨_,_,pl,cs,ys,rfl,ha,hc,by lia,k',hpl,hwp,hch,hno' pl (fun z=>e3 (Uy z.2)) hno⟩
   ·exact qz ⟨_,_,pl,cs,ys,rfl,ha,hc,by lia,k',hpl,hwp,hch,hno' pl (fun z=>e (Uy (by rw[z.1]))) hno⟩
  ·rintro σ H' ⟨v5,v6,pl,cs,ys,rfl,ha,hc,hcl,k',hpl,hwp,hch,hno⟩;rw[ht.1,US] at hno
   have epl:pl=ns.length:=by
    rcases Nat.lt_or_ge pl ns.length with z|z
    ·obtain⟨x,hx,hg⟩:=(zbR HO z).mp hwp;exact absurd hg (hno (pl,x) (qC HO hx).2.2 rfl)
    ·lia
   subst epl;rw[zcO HO,Ol] at hch;subst hch;refine⟨_,rfl,l,_,rfl,.inl ⟨SqL.of ha,fun t' ht'=>k _ _ ?_ ?_⟩⟩
   ·unfold vt;rw[Ur hne];exact⟨t',ys,rfl,zd,hc.mono fun b zs e=>by rw[zi (zf e ht')];exact e⟩
   ·exact(Kp.same S23 hn2 k').trans (Same.lay ht')
def cd1 (ns:List Int)(p:Nat×Nat):List Int:=[qk ns p.2-qk ns p.1,(p.1:Int),(p.2:Int)]
def cds (ns:List Int):List (List Int):=(prs ns.length).map (cd1 ns)
theorem bT (h:SumsAt ns H xs (prs ns.length)):PySem.Paired (VNt H) xs (cds ns):=by
 refine gQ (by rw[h.1];unfold cds;rw[Ud]) fun i y e=>?_;unfold cds at e;rw[Up] at e;obtain⟨p,e1,rfl⟩:=UT.mp e;obtain⟨a,b,h1,h2,h3⟩:=h.2 i p e1;exact⟨_,h1,a,b,_,_,_,rfl,h2,h3,rfl⟩
def zdP:Sp:=fun vs H Q _=>∃(p:Addr) (ns:List Int) (n:Nat),vs=[.ref p,.int n]/\RowAt H p ns/\n<(prs ns.length).length/\
 ∀(a b:Addr) (ds:List (List Int)) (s lo hi:Int) (H':Hp),ds.Perm (cds ns)->ds.Pairwise leC->ds[n]?=some [s,lo,hi]->H' a=some (.tup [.int s,.ref b])->H' b=some (.tup [.int lo,.int hi])->Same H H'->Q (.ref a) H'
abbrev yT:Stmt:=top 30
theorem QT:zt ["row","number","order"] ["row","number"] (zh yT):=fsc_
theorem zcq (F:Fun K "in_order" "in_order" yT f fd)(T:Txt mg)(Zb:zK K mg "summed_stretches" z7 ["row"] fz fdz)(Zn:FnOk P w K mg base CX0 2 fz fdz ["row"] xI) :
 FnOk P w K mg base CX0 3 f fd ["row","number"] zdP:=by
 refine F.ok QT (fun vs H Q E h=>?_) (fun cdv A outer s H vs Q E hr h=>?_)
 ·obtain⟨p,ns,n,rfl,_⟩:=h;rfl
 ·obtain⟨p,ns,n,rfl,⟨hp,hl⟩,hn,k⟩:=h;have hu64:=hr.units;have plen:=qP ns.length hl
  refine⟨_,(ze (zq (i:=2) QT.nd rfl (Or.inl rfl) (zv (ke (K:=K) rfl (zjJ (K:=K) rfl hu64)) (by rfl) T.b_sorted PyProof.Rows.Boot.«sorted» (zb (zl Zn (hr.mono (by first|decide|exact Ub _)) rfl Zb.mg Zb.fn.kp Zb.bd .nil zp (zb (pv 0) zc)) zc)))
   (ze (z8 (qV (kO wC fE zg (pv 1) (zv (jh (K:=K) rfl) (by rfl) T.b_len PyProof.Rows.Boot.«len» (zb (pv 2) zc))))
     (zj yL)
     zL)
   (zj (zr (zz (ixL (K:=K) rfl) (pv 2) (pv 1) (fun _ _=>rfl)))))),?_⟩
  refine⟨_,rfl,p,ns,rfl,⟨hp,hl⟩,fun q2 ys H2 _ hq2 ht2 S2=>?_⟩;refine⟨q2,ys,cds ns,rfl,SqL.of hq2,bT ht2,by rw[ht2.1];exact plen,fun q ws ds hq pw pd dp so=>?_⟩;have wl:ws.length=(prs ns.length).length:=by rw[pw.length_eq,ht2.1]
  have S3:Same H2 (upd H2 q (.lst ws)):=Same.lay hq;refine⟨_,rfl,_,_,rfl,rfl,_,rfl,?_⟩;rw[Uy (show(0:Int)<=(n:Int) by lia)];refine wm ⟨_,rfl,q,_,rfl,.inl (SqL.of zd),_,_,rfl,rfl,_,rfl,?_⟩;rw[Uy (show(n:Int)<(ws.length:Int) by lia)];refine qz ?_;have hnd:n<ds.length:=by rw[<-Oa pd,wl];exact hn
  obtain⟨v,e1,e2⟩:=Paired.atR pd (Ua hnd);obtain⟨a,b,s,lo,hi,rfl,ha,hb,hc⟩:=e2;refine⟨_,rfl,_,rfl,q,_,_,_,rfl,rfl,SqL.of zd,qa e1,?_⟩;exact k a b ds s lo hi _ dp so (by rw[Ua hnd,hc]) (S3 _ _ ha) (S3 _ _ hb) (S2.trans S3)
def sm (ns:List Int)(p:Nat×Nat):Int:=qk ns p.2-qk ns p.1
def zgJ (x:Int):Int:=if x<0 then -x else x
def nrC (ns:List Int)(tot:Int)(p:Nat×Nat):List Int:=[zgJ (sm ns p-tot),sm ns p,(p.1:Int),(p.2:Int)]
def Fst (c:Nat×Nat->List Int)(n:Nat)(o:Option (Nat×Nat)):Prop:=match o with
 |none=>prs n=[]
 |some p=>p∈prs n/\∀q∈prs n,leC (c p) (c q)
theorem zgp {c:Nat×Nat->List Int}(hc:∀p q,c p=c q->p=q){o':Option (Nat×Nat)}(h:Fst c n o)(h':Fst c n o'):o=o':=by
 cases o with
 |none=>
  cases o' with
  |none=>rfl
  |some p=>have:=h'.1;rw[show prs n=[] from h] at this;simp at this
 |some p=>
  cases o' with
  |none=>have:=h.1;rw[show prs n=[] from h'] at this;simp at this
  |some q=>exact O3 some (hc _ _ (dI _ _ (h'.2 p h.1) (h.2 q h'.1)))
theorem zhl (ns:List Int)(tot:Int)(p q:Nat×Nat)(h:nrC ns tot p=nrC ns tot q):p=q:=by
 unfold nrC at h;simp only[OA,and_true] at h;exact Prod.ext (by lia) (by lia)
theorem zhF (ns:List Int)(p q:Nat×Nat)(h:cd1 ns p=cd1 ns q):p=q:=by
 unfold cd1 at h;simp only[OA,and_true] at h;exact Prod.ext (by lia) (by lia)
def ToldAt (ns:List Int)(H:Hp)(v:V)(o:Option (Nat×Nat)):Prop:=match o with
 |none=>v=.non
 |some p=>∃a b,v=.ref a/\H a=some (.tup [.int (sm ns p),.ref b])/\H b=some (.tup (g2 p))
theorem ToldAt.mono (h:ToldAt ns H v o)(k:∀a zs,H a=some (.tup zs)->H' a=some (.tup zs)):ToldAt ns H' v o:=by
 cases o with
 |none=>exact h
 |some p=>
  obtain⟨a,b,e1,e2,e3⟩:=h;exact⟨a,b,e1,k _ _ e2,k _ _ e3⟩
theorem zck {cs:Nat->List Int}:∀{n j:Nat},pick (fun i j=>HT.lexLt (cs i) (cs j)) n=some j->j<n/\∀i,i<n->leC (cs j) (cs i)
 |0,_,h=>by cases h
 |n+1,j,h=>by
  unfold pick at h
  cases e:pick (fun i j=>HT.lexLt (cs i) (cs j)) n with
  |none=>
   rw[e] at h
   cases h;have:=jm e;subst this;exact⟨by lia,fun i hi=>by have z:i=0:=(by lia);subst z;exact wk _⟩
  |some k=>
   rw[e] at h;obtain⟨k1,k2⟩:=zck e;simp only at h;split at h
   ·next c=>
    cases h;refine⟨by lia,fun i hi=>?_⟩
    by_cases z:i=n
    ·subst z;exact wk _
    ·exact zbt _ _ _ (gm _ _ c) (k2 i (by lia))
   ·next c=>
    cases h;refine⟨by lia,fun i hi=>?_⟩
    by_cases z:i=n
    ·subst z;exact Rt _ |>.mp c
    ·exact k2 i (by lia)
def y8 (n i:Nat):Nat×Nat:=(prs n)[i]?.getD (0,0)
theorem zdY (h:i<(prs n).length):(prs n)[i]?=some (y8 n i):=by unfold y8;rw[Ua h];rfl
theorem zf7 (h:i<(prs n).length):y8 n i∈prs n:=Uu (zdY h)
theorem zcG {c:Nat×Nat->List Int}(h:pick (fun i j=>HT.lexLt (c (y8 n i)) (c (y8 n j))) (prs n).length=some j):Fst c n (some (y8 n j))/\j<(prs n).length:=by
 obtain⟨h1,h2⟩:=zck (cs:=fun i=>c (y8 n i)) h;refine⟨⟨zf7 h1,fun q hq=>?_⟩,h1⟩;obtain⟨i,hi,rfl⟩:=OB hq;have:=h2 i hi;unfold y8 at this;rw[Ua hi] at this;exact this
theorem zbZ (h:SumsAt ns H xs (prs ns.length)){x:V}(hx:xs[i]?=some x):i<(prs ns.length).length/\ToldAt ns H x (some (y8 ns.length i)):=by
 have hi:i<(prs ns.length).length:=by rw[<-h.1];exact(Ue.mp hx).1
 obtain⟨a,b,e1,e2,e3⟩:=h.2 i _ (zdY hi);rw[hx] at e1;exact⟨hi,a,b,UK e1,e2,e3⟩
abbrev qJ:Stmt:=top 31
def j7:Expr:=match qS qJ with
 | .Return (some (.Call _ _ (⟨_,l,_⟩::_) _)) _::_=>l
 |_=>.Name "x" ⟨0,0,0,0⟩
abbrev zal:Str:=("nearest"++".<locals>.")++"<lambda>"
abbrev zgL (P:Addr)(H:Hp):Prop:=TabAt (zhq j7) zal P H
def zfz (P:Addr):Sp:=fun vs H Q _=>∃(p:Addr) (ns:List Int) (tot:Int),vs=[.ref p,.int tot]/\RowAt H p ns/\zgL P H/\∀v o H',Fst (nrC ns tot) ns.length o->ToldAt ns H' v o->Kp P H H'->zgL P H'->Q v H'
theorem zda:zt ["row","total"] ["row","total"] (zh qJ):=fsc_
theorem zdi {c:Addr}(F:FunC K "nearest" "nearest" qJ f fd c T0)(T:Txt mg)(BM:pO mg base)(Zb:zK K mg "summed_stretches" z7 ["row"] fz fdz)(Zn:FnOk P w K mg base CX0 2 fz fdz ["row"] xI):FnOk P w K mg base CX0 4 f fd ["row","total"] (zfz T0):=by
 refine F.ok zda (fun vs H Q E h=>?_) (fun A outer s H vs Q E hr h=>?_)
 ·obtain⟨p,ns,tot,rfl,_⟩:=h;rfl
 ·obtain⟨p,ns,tot,rfl,⟨hp,hl⟩,hT,k⟩:=h;have hr1:=hr.in1;have hu24:(A.deeper (PyProof.Rows.envOfC "nearest" (zh qJ) s.heap.objs.size f (.ref c))).in1.units+24<cLine:=by have:=hr1.un;lia
  obtain⟨cl,e0,cl1,cl2⟩:=zd8 (env:=PyProof.Rows.envOfC "nearest" (zh qJ) s.heap.objs.size f (.ref c)) (outer:=zh qJ) (scope:=zgk j7 (zh qJ)) (n:=s.heap.objs.size+1) rfl (by decide +kernel);refine⟨_,(zj (zr (dw (zkT true true (K:=K) (y:="pair") (Nc:=["total"]) (cap:=[some 1]) (cl:=cl) (name:="<lambda>") (qual:=zal) (params:=zi1 j7) (body:=zi0 j7) (scope:=zgk j7 (zh qJ)) (pm:=(mg "__name__").getD .none) rfl rfl (zkQ hu24) bP ⟨(show qh ["row","total"] (zh qJ) ["total"] [some 1] _=true by decide +kernel),rfl,rfl,rfl,e0,cl1,cl2⟩ hr1 (fun _ _ _=>rfl) (fun _ _ _ _=>(qu (zb (zv zcQ (by rfl) T.b_abs PyProof.Rows.Boot.«abs» (zb (zk qp (zz (ixT (K:=K) rfl) (pv 0) zg (fun _ _=>rfl)) (pv 1)) zc)) (zb (pv 0) zc))))) (by rfl) T.b_min PyProof.Rows.Boot.«min» (zb (zl Zn (hr.mono (by first|decide|exact Ub _)) rfl Zb.mg Zb.fn.kp Zb.bd .nil zp (zb (pv 0) zc)) zc) (xn (zbd rfl F.hd BM e0) (xn xC dj))))),?_⟩;refine⟨_,rfl,p,ns,rfl,⟨hp,hl⟩,fun q xs H1 _ hq ht S1=>?_⟩;have T1:=hT.keep S1;dsimp -proj only [zes,zbX];refine zaR T1 fun fl c' ct H2 hfn hl2 hc2 hP2 K2=>?_;have nT:∀b o,H1 b=some o->(∀ps,o≠.tbl ps)->H2 b=some o:=fun b o e n=>K2 b o e (T1.ne e n);have hq2:=nT _ _ hq (by intro ps z;cases z);have ht2:SumsAt ns H2 xs (prs ns.length):=ht.mono fun a zs e=>nT _ _ e (by intro ps z;cases z);refine⟨q,fl,c',ct,xs,fun i=>nrC ns tot (y8 ns.length i),rfl,rfl,SqL.of hq2,(fun z=>nomatch z),hl2,hc2,?_,?_⟩
  ·intro i x H' hx S';obtain⟨hi,a,b,rfl,e2,e3⟩:=zbZ ht2 hx;refine⟨_,rfl,a,_,0,_,rfl,rfl,SqT.of (S' _ _ e2),rfl,_,rfl,_,_,rfl,rfl,_,rfl,_,rfl,by show 2<=sizeLine;decide,fun tp htp=>?_⟩;have S3:=Same.lay (o:=.tup [.int (zgJ (sm ns (y8 ns.length i)-tot)),.ref a]) htp;exact⟨⟨tp,a,b,_,_,_,_,rfl,zd,S3 _ _ (S' _ _ e2),S3 _ _ (S' _ _ e3),rfl⟩,S3⟩
  ·intro H3 S3;have kk:Kp T0 H H3:=fun b o e n=>S3 _ _ (K2 _ _ (S1 _ _ e) n);have tt:zgL T0 H3:=.inr ⟨c',S3 _ _ hP2,S3 _ _ hc2⟩;rw[ht2.1]
   cases e:pick (fun i j=>if true=true then HT.lexLt (nrC ns tot (y8 ns.length i)) (nrC ns tot (y8 ns.length j)) else HT.lexLt (nrC ns tot (y8 ns.length j)) (nrC ns tot (y8 ns.length i))) (prs ns.length).length with
   |none=>exact k .non none H3 (Tf (jm e)) rfl kk tt
   |some j=>
    obtain⟨h1,h2⟩:=zcG (c:=nrC ns tot) (n:=ns.length) (j:=j) e;intro x hx;obtain⟨_,hto⟩:=zbZ ht2 hx;exact k x _ H3 h1 (hto.mono fun a zs e=>S3 _ _ e) kk tt
def Nt (H H':Hp):Prop:=∀b o,H b=some o->(∀ps,o≠.tbl ps)->H' b=some o
theorem Nt.refl (H:Hp):Nt H H:=fun _ _ h _=>h
theorem Nt.trans (a:Nt H H1)(b:Nt H1 H2):Nt H H2:=fun x o e n=>b x o (a x o e n) n
theorem Nt.of (s:Same H H'):Nt H H':=fun b o e _=>s b o e
theorem Nt.tup (n:Nt H H')(h:H a=some (.tup xs)):H' a=some (.tup xs):=n a _ h (by intro ps z;cases z)
theorem Nt.kp {P:Addr}(h:TabAt pos qual P H)(k:Kp P H H'):Nt H H':=fun b o e n=>k b o e (h.ne e n)
theorem Nt.tups {g:α->List V}(n:Nt H H'){ps:List α}(h:TupsAt g H xs ps):TupsAt g H' xs ps:=h.mono fun a zs e=>n.tup e
theorem TabAt.kp {pos':Pos}{qual':Str}{P:Addr}(h:TabAt pos qual P H)(h':TabAt pos' qual' T H)(k:Kp T H H')(n:P≠T):TabAt pos qual P H':=by
 rcases h with h|⟨c,h1,h2⟩
 ·exact .inl (k _ _ h n)
 ·exact .inr ⟨c,k _ _ h1 n,k _ _ h2 (h'.ne h2 (by intro ps z;cases z))⟩
theorem Scr.nt (h:Scr K H a scr)(n:Nt H H'):Scr K H' a scr:=by
 obtain⟨h1,h2⟩:=h;refine⟨?_,h2⟩;rcases h1 with(h1|⟨o,h1⟩)|h1
 ·exact .inl (.inl (n _ _ h1 (by intro ps z;cases z)))
 ·exact .inl (.inr ⟨o,n _ _ h1 (by intro ps z;cases z)⟩)
 ·exact .inr h1
theorem d5 (n:Int):bu (zy n).cps.toList=dig n.natAbs:=by
 rw[vS];unfold gb;split
 ·rfl
 ·exact zcH _
def zdN:Sp:=fun vs H Q _=>∃(n fg:Int),vs=[.str (zy n),.int fg]/\1<=fg/\fg<=14/\n.natAbs<10^fg.toNat/\∀H',Same H H'->Q (.int n) H'
def qL (H:Hp)(l:Addr)(zs:List Str):Prop:=H l=some (.lst (zs.map V.str))
def zjq (H:Hp)(l:Addr)(is:List Int):Prop:=H l=some (.lst (is.map V.int))
def zhV:Sp:=fun vs H Q _=>∃(a:Addr) (ns:List Int),vs=[.ref a]/\qL H a (ns.map zy)/\ns.length<=60/\Few ns/\∀q H',RowAt H' q ns->Same H H'->Q (.ref q) H'
theorem vA {n:Int}(hk:1<=k)(hk2:k<=14)(h:n.natAbs<10^k):n.natAbs<10^15:=UP h (RJ (by decide) (by lia))
theorem zaS {x:V}(h:(ws.map V.str)[i]?=some x):∃u,ws[i]?=some u/\V.str u=x:=by
 rw[Up] at h;exact UT.mp h
abbrev qX:Stmt:=top 44
theorem b7:zt ["word","figures"] ["word","figures"] (zh qX):=fsc_
theorem dB (F:Fun K "number_read" "number_read" qX f fd)(T:Txt mg)(Z1:zK K mg "is_number" xj ["word"] fn fdn)(Je:FnOk P w K mg base CX0 1 fn fdn ["word"] zdO):FnOk P w K mg base CX0 2 f fd ["word","figures"] zdN:=by
 refine F.ok b7 (fun vs H Q E h=>?_) (fun cdv A outer s H vs Q E hr h=>?_)
 ·obtain⟨n,fg,rfl,_⟩:=h;rfl
 ·obtain⟨n,fg,rfl,f0,f1,hn,k⟩:=h;have hsl:=UV
  refine⟨_,(ze (z8 (PW.pt (kM (qV (jN (zl Je (hr.mono (by first|decide|exact Ub _)) rfl Z1.mg Z1.fn.kp Z1.bd .nil zp (zb (pv 0) zc)))) (ya (zw zas (zv gu (by rfl) T.b_len PyProof.Rows.Boot.«len» (zb (jo Ov PySem.F.slot_str_removeprefix PySem.F.type_str_removeprefix wD (pv 0) (zb zQ zc)) zc)) (pv 1) (zH _)))))
   (zj yL)
   zL)
   (zj (zr (zJ xF (by rfl) T.b_int PyProof.Rows.Boot.«int» (zb (pv 0) zc))))),?_⟩
  have hl:=z9 (n:=n) (k:=fg.toNat) (by lia) hn;have hfl:=zdT (zy n);have hfg:=dc (zy n);refine⟨_,rfl,zy n,rfl,by lia,fun H1 S1=>⟨_,rfl,?_⟩⟩;rw[vS,ze0];refine qz ⟨_,rfl,rfl,zy n,("-":Str),rfl,rfl,by lia,?_⟩;rw[zcB];generalize Txt.removeprefix (zy n) ⟨#[45]⟩=fgz at hfl hfg;have hlen:fgz.length<=fg.toNat:=by rw[zaT,hfg,d5];exact zeg (by lia) hn
  refine⟨_,rfl,by lia,_,rfl,_,_,rfl,rfl,_,rfl,?_⟩;rw[UE (by lia)];exact qz ⟨_,rfl,zy n,n,rfl,dH (k:=fg.toNat) (by lia) (by lia) hn,by lia,k H1 S1⟩
abbrev jw:Stmt:=top 45
theorem fT:zt ["words"] ["words"] (zh jw):=fsc_
theorem ba (F:Fun K "row_of_words" "row_of_words" jw f fd)(T:Txt mg)(Zj:zK K mg "number_read" qX ["word","figures"] fn fdn)(ZP:FnOk P w K mg base CX0 2 fn fdn ["word","figures"] zdN)(Q5:mg "ROW_NUMBERS"=some (.int jZ tN))(Qx:mg "ROW_FIGURES"=some (.int j0 tF)):FnOk P w K mg base CX0 3 f fd ["words"] zhV:=by
 refine F.ok fT (fun vs H Q E h=>?_) (fun cdv A outer s H vs Q E hr h=>?_)
 ·obtain⟨a,ns,rfl,_⟩:=h;rfl
 ·obtain⟨a,ns,rfl,ha,hl,hf,k⟩:=h;have hsl:=UV
  refine⟨_,(ze (z8 (zw zas (zv (jh (K:=K) rfl) (by rfl) T.b_len PyProof.Rows.Boot.«len» (zb (pv 0) zc)) (qQ (v:=.int jZ) (by rfl) Q5 ⟨_,rfl⟩) (zH _))
   (zj yL)
   zL)
   (zj (zr (zJ (kg (K:=K) rfl) (by rfl) T.b_tuple PyProof.Rows.Boot.«tuple» (zb (qf (N:=["word"]) (cap:=[none]) rfl (show qh ["words"] (zh jw) ["word"] [none] _=true by decide +kernel) (piL (K:=K) rfl (pv 0)) (fun cl C s3 H3 fp=>⟨(zo (i:=0) (show(["word"]:List Str).Nodup by decide +kernel) rfl (Or.inl rfl)),qe,fun it acc=>(zP rfl (zl ZP (hr.mono (by first|decide|exact Ub _)) rfl Zj.mg Zj.fn.kp Zj.bd .nil zp (zb (pv 0) (zb (qQ (v:=.int j0) (by rfl) Qx ⟨_,rfl⟩) zc))))⟩)) zc))))),?_⟩
  have hlm:(((ns.map zy).map V.str).length:Int)=(ns.length:Int):=by rw[Ud,Ud]
  refine⟨_,rfl,a,_,rfl,.inl (SqL.of ha),_,_,rfl,rfl,_,rfl,?_⟩;rw[hlm,UE (show ¬jZ<(ns.length:Int) by unfold jZ;lia)];refine qz ⟨_,rfl,a,rfl,⟨_,SqL.of ha⟩,fun acc hacc=>?_⟩;refine qb (xs:=(ns.map zy).map V.str) (fun i σ H'=>∃v:Option V,σ=[v]/\H' acc=some (.lst ((ns.take i).map V.int))/\Same H H') ⟨none,rfl,zd,Same.lay hacc⟩ ?_ ?_ ?_
  ·rintro i σ H1 hi ⟨v,rfl,hc,S1⟩;exact SqL.of (S1 _ _ ha)
  ·rintro i x σ H1 hx ⟨v,rfl,hc,S1⟩;obtain⟨u,hu,rfl⟩:=zaS hx;rw[Up] at hu;obtain⟨n,hn,rfl⟩:=UT.mp hu;have hm:=hf n (Uu hn);refine⟨_,rfl,n,12,rfl,by decide,by decide,hm,fun H2 S2=>⟨_,S2 _ _ hc,zO (by rw[Ud,UA];lia),?_⟩⟩;refine⟨_,rfl,?_,fun b o e=>by rw[zi (zf e hacc)];exact S2 _ _ (S1 _ _ e)⟩;rw[zd,zV V.int hn]
  ·rintro σ H1 ⟨v,rfl,hc,S1⟩;rw[Ud,Ud,US] at hc;exact⟨acc,_,rfl,.inl ⟨SqL.of hc,fun q hq=>k q _ ⟨zd,by lia⟩ (S1.trans (Same.lay hq))⟩⟩
structure MethAt (K:Frag)(C:Addr)(x qual:Str)(st:Stmt)(ps:List Str)(f:Addr)(fd:FuncData):Prop where
 fn:Fun K x qual st f fd
 mt:zjp K C x f
 bd:Binds K fd ps []
structure pH (K:Frag)(mg:Str->Option Value)(C:Addr):Prop where
 cl:Cls K C
 nR:NoAttr K C "rows_by_name"
 mgC:mg "Desk"=some (.ref C)
theorem RowAt.same {p:Addr}(h:RowAt H p ns)(s:Same H H'):RowAt H' p ns:=⟨s _ _ h.1,h.2⟩
abbrev Rows:=List (Str×List Int)
variable {rows:Rows}
def wt:Rows->Str->Option (List Int)
 |[],_=>none
 |r::rs,n=>if r.1=n then some r.2 else wt rs n
def vp:Rows->Str->List Int->Rows
 |[],n,ns=>[(n,ns)]
 |r::rs,n,ns=>if r.1=n then(n,ns)::rs else r::vp rs n ns
def RowsAt (H:Hp)(kvs:List (Key×V))(rows:Rows):Prop:=PySem.Paired (fun(kv:Key×V) (r:Str×List Int)=>kv.1=.inr r.1/\∃p,kv.2=.ref p/\RowAt H p r.2) kvs rows
theorem RowsAt.keep (h:RowsAt H kvs rows)(k:∀b zs,H b=some (.tup zs)->H' b=some (.tup zs)):RowsAt H' kvs rows:=
 Paired.imp' (fun _ _ ⟨e,p,e2,h2⟩=>⟨e,p,e2,k _ _ h2.1,h2.2⟩) h
theorem kG {H:Hp}:∀{kvs:List (Key×V)}{rows:Rows}(n:Str),RowsAt H kvs rows->(wt rows n=none/\xH kvs (.inr n)=none)∨∃ns p,wt rows n=some ns/\xH kvs (.inr n)=some (.ref p)/\RowAt H p ns
 |_,_,n,.nil=>.inl ⟨rfl,rfl⟩
 |(k,v)::kvs,r::rows,n,.cons ⟨e,p,e2,h2⟩ t=>by
  have e:k=.inr r.1:=e;have e2:v=.ref p:=e2;subst e e2
  by_cases hn:r.1=n
  ·subst hn;exact .inr ⟨r.2,p,Uv rfl,wO rfl,h2⟩
  ·have hk:¬((Sum.inr r.1:Key)=Sum.inr n):=fun q=>hn (by injection q);have g:wt (r::rows) n=wt rows n:=Ur hn;rw[g,wQ (p:=((Sum.inr r.1:Key),V.ref p)) (r:=kvs) hk];exact kG n t
theorem zeD {k k':Key}{v':V}{r:List (Key×V)}(h:¬k'=k):putK ((k',v')::r) k v=(k',v')::putK r k v:=by
 unfold putK;rw[T3,UE h,Bool.false_or];split
 ·rw[UL,Ur h]
 ·rfl
def Uq (rows:Rows):Prop:=(rows.map (·.1)).Nodup
theorem zau {k:Key}{v:V}:∀{kvs:List (Key×V)},(∀kv∈kvs,¬kv.1=k)->kvs.map (fun kv=>if kv.1=k then(kv.1,v) else kv)=kvs
 |[],_=>rfl
 |x::r,h=>by
  rw[UL,Ur (h x (Ug ..)),zau fun kv hkv=>h kv (Uh _ hkv)]
theorem zak {H:Hp}:∀{kvs:List (Key×V)}{rows:Rows},RowsAt H kvs rows->∀kv∈kvs,∃n∈rows.map (·.1),kv.1=.inr n
 |_,_,.nil,kv,h=>nomatch h
 |(k,v)::kvs,r::rows,.cons ⟨e,p,e2,h2⟩ t,kv,h=>by
  rcases Uw.mp h with rfl|h
  ·exact⟨r.1,Ug ..,e⟩
  ·obtain⟨n,hn,e⟩:=zak t kv h;exact⟨n,Uh _ hn,e⟩
theorem da {H:Hp}{n:Str}{p:Addr}{ns:List Int}(hp:RowAt H p ns):∀{kvs:List (Key×V)}{rows:Rows},Uq rows->RowsAt H kvs rows->RowsAt H (putK kvs (.inr n) (.ref p)) (vp rows n ns)
 |_,_,_,.nil=>.cons ⟨rfl,p,rfl,hp⟩ .nil
 |(k,v)::kvs,r::rows,u,.cons ⟨e,q,e2,h2⟩ t=>by
  have e:k=.inr r.1:=e;subst e;have u2:Uq rows:=(OP.mp u).2
  by_cases hn:r.1=n
  ·subst hn;have u1:r.1∉rows.map (·.1):=(OP.mp u).1;rw[show vp (r::rows) r.1 ns=(r.1,ns)::rows from Uv rfl]
   have e3:putK (((Sum.inr r.1:Key),v)::kvs) (.inr r.1) (.ref p)=(.inr r.1,.ref p)::kvs:=by
    unfold putK;rw[T3,Uy rfl,Bool.true_or,Uv rfl,UL,Uv rfl,zau];intro kv hkv z;obtain⟨m,hm,e⟩:=zak t kv hkv;rw[e] at z;injection z with z
    exact u1 (z▸hm)
   rw[e3];exact .cons ⟨rfl,p,rfl,hp⟩ t
  ·have hk:¬((Sum.inr r.1:Key)=Sum.inr n):=fun q=>hn (by injection q);rw[show vp (r::rows) n ns=r::vp rows n ns from Ur hn,zeD hk];exact .cons ⟨rfl,q,e2,h2⟩ (da hp u2 t)
theorem dh (n:Str)(ns:List Int):∀rows:Rows,(vp rows n ns).length<=rows.length+1
 |[]=>by simp[vp]
 |r::rows=>by
  unfold vp;split
  ·simp
  ·have:=dh n ns rows;simp only[Uk];lia
theorem df (n:Str)(ns:List Int):∀(rows:Rows) (m:Str),m∈(vp rows n ns).map (·.1)->m=n∨m∈rows.map (·.1)
 |[],m,h=>by
  rcases Uz.mp h with h
  exact .inl h
 |r::rows,m,h=>by
  unfold vp at h;split at h
  ·rcases Uw.mp h with h|h
   ·exact .inl h
   ·exact .inr (Uh _ h)
  ·rcases Uw.mp h with h|h
   ·exact .inr (by rw[h];exact Ug ..)
   ·rcases df n ns rows m h with h|h
    ·exact .inl h
    ·exact .inr (Uh _ h)
theorem zdV {n:Str}{ns:List Int}:∀{rows:Rows},Uq rows->Uq (vp rows n ns)
 |[],_=>by unfold vp Uq;simp
 |r::rows,u=>by
  obtain⟨u1,u2⟩:=OP.mp u;unfold vp;split
  ·rename_i h;subst h;exact OP.mpr ⟨u1,u2⟩
  ·rename_i h;refine OP.mpr ⟨fun z=>?_,zdV u2⟩;rcases df n ns rows r.1 z with z|z
   ·exact h z
   ·exact u1 z
theorem zci {n:Str}{ns:List Int}{φ:Str×List Int->Prop}(h0:φ (n,ns)):∀{rows:Rows},(∀r∈rows,φ r)->∀r∈vp rows n ns,φ r
 |[],_,r,h=>by rw[Uz.mp h];exact h0
 |q::rows,hr,r,h=>by
  unfold vp at h;split at h
  ·rcases Uw.mp h with h|h
   ·rw[h];exact h0
   ·exact hr r (Uh _ h)
  ·rcases Uw.mp h with h|h
   ·rw[h];exact hr q (Ug ..)
   ·exact zci h0 (fun x hx=>hr x (Uh _ hx)) r h
theorem yg {n:Str}{ns:List Int}:∀{rows:Rows},wt rows n=some ns->(n,ns)∈rows
 |[],h=>by cases h
 |r::rows,h=>by
  unfold wt at h;split at h
  ·rename_i e
   cases h;subst e;exact Ug ..
  ·exact Uh _ (yg h)
theorem zec {n:Str}{ns:List Int}:∀{rows:Rows},Uq rows->(n,ns)∈rows->wt rows n=some ns
 |r::rows,u,h=>by
  obtain⟨u1,u2⟩:=OP.mp u;rcases Uw.mp h with h|h
  ·subst h;exact Uv rfl
  ·have:¬r.1=n:=fun e=>u1 (by have:=Tu (f:=fun x:Str×List Int=>x.1) h;rw[<-e] at this;exact this);rw[show wt (r::rows) n=wt rows n from Ur this];exact zec u2 h
structure vY (rows:Rows):Prop where
 uq:Uq rows
 ok:∀r∈rows,isNm r.1=true/\r.2.length<=60/\Few r.2
 le:rows.length<=100
def DeskAt (C:Addr)(H:Hp)(x d:Addr)(rows:Rows):Prop:=∃dx kvs,H x=some (.ins C dx [("rows_by_name",.ref d)])/\H d=some (.dK kvs)/\RowsAt H kvs rows/\kvs.length<=1000
def KpD (d:Addr)(H H':Hp):Prop:=∀b o,H b=some o->b≠d->H' b=some o
theorem DeskAt.nt (h:DeskAt C H x d rows)(s:Nt H H'):DeskAt C H' x d rows:=by
 obtain⟨dx,kvs,h1,h2,h3,h4⟩:=h;exact⟨dx,kvs,s _ _ h1 (by intro ps z;cases z),s _ _ h2 (by intro ps z;cases z),h3.keep fun b zs e=>s.tup e,h4⟩
theorem DeskAt.same (h:DeskAt C H x d rows)(s:Same H H'):DeskAt C H' x d rows:=h.nt (Nt.of s)
structure Tabs (T0 T1 T2:Addr)(H:Hp):Prop where
 n:zgL T0 H
 a:zgM T1 H
 p:zhN T2 H
structure Tne (T0 T1 T2:Addr):Prop where
 a:T0≠T1
 b:T0≠T2
 c:T1≠T2
theorem Tabs.same (h:Tabs T0 T1 T2 H)(s:Same H H'):Tabs T0 T1 T2 H':=⟨h.n.keep s,h.a.keep s,h.p.keep s⟩
theorem Kp.free (k:Kp T H H')(t:TabAt pos qual T H')(h:H' q=none):H q=none:=by
 cases e:H q with
 |none=>rfl
 |some o=>
  by_cases hq:q=T
  ·subst hq;rcases t with z|⟨_,z,_⟩<;>(rw[h] at z;cases z)
  ·have:=k q o e hq;rw[h] at this;cases this
def rmT (m r:Int):Int->Bool:=fun s=>decide (s%m=r)
def shP (p:Nat×Nat):Str:=shS (some p)
def zdZ (ns:List Int):Option (Nat×Nat)->List Str
 |none=>[]
 |some p=>[smS (sm ns p) p]
def kW (ns:List Int)(t:Int):List Str:=zy (zT ns t 0)::((vt ns t).getD []).map shP
inductive Ask (ns:List Int):Nat->List Int->(List Str->Prop)->Prop where
 |show:Ask ns 0 [] (fun zs=>zs=[shown ns])
 |count (t:Int):Ask ns 1 [t] (fun zs=>zs=gp (zm ns (eqT t)))
 |within (t u:Int):Ask ns 2 [t,u] (fun zs=>zs=gp (zm ns (wb t u)))
 |rest (m r:Int) (h0:0<=r) (h1:r<m):Ask ns 3 [m,r] (fun zs=>zs=gp (zm ns (rmT m r)))
 |order (k:Nat) (h:k<(prs ns.length).length):Ask ns 4 [(k:Int)] (fun zs=>∃(ds:List (List Int)) (p:Nat×Nat),ds.Perm (cds ns)/\ds.Pairwise leC/\ds[k]?=some (cd1 ns p)/\p∈prs ns.length/\zs=[smS (sm ns p) p])
 |near (t:Int):Ask ns 5 [t] (fun zs=>∃o,Fst (nrC ns t) ns.length o/\zs=zdZ ns o)
 |apart (t:Int):Ask ns 6 [t] (fun zs=>∃f,Bst ns.length (zm ns (eqT t)) xu f/\zs=(apt f (zm ns (eqT t))).1.map shP)
 |points (t:Int):Ask ns 7 [t] (fun zs=>∃ds,Grd (zm ns (eqT t)) ds/\zs=[shown (qT ds)])
 |parted (t:Int):Ask ns 8 [t] (fun zs=>zs=kW ns t)
def pS (i:Nat)(Tb:Hp->Prop):Sp:=fun vs H Q _=>∃(p l:Addr) (ns is:List Int) (R:List Str->Prop),vs=[.ref p,.ref l]/\RowAt H p ns/\ns.length<=60/\Few ns/\zjq H l is/\Ask ns i is R/\Tb H/\∀q zs H',H q=none->R zs->qL H' q zs->Nt H H'->Tb H'->Q (.ref q) H'
theorem jX (hn:ns.length<=60){t:Int->Bool}(h:p∈zm ns t):pL p:=by
 have:=vW h;exact⟨by lia,by lia⟩
theorem bC (hn:ns.length<=60)(h:p∈prs ns.length):pL p:=by
 have:=jU h;exact⟨by lia,by lia⟩
theorem zeE (ns:List Int){a:Nat}(h:a<=b):qk ns b-qk ns a=((ns.take b).drop a).sum:=by
 unfold qk
 have e:ns.take b=ns.take a++(ns.take b).drop a:=by
  have:=(Oo a (ns.take b)).symm;rw[List.take_take,Nat.min_eq_left h] at this;exact this
 have:=O3 List.sum e;rw[Tq] at this;lia
theorem bX (hn:ns.length<=60)(hf:Few ns)(h:p.1<=p.2):(sm ns p).natAbs<10^14:=by
 unfold sm;rw[zeE ns h];refine zcn hf hn (fun x hx=>RL (Nu hx)) ?_;rw[Rf,UA];lia
theorem zdH {n:Nat}{hs:List (Nat×Nat)}(HO:Hits n hs):∀k j,n-j<=k->j<=n->qo n hs j<=((hs.length+1:Nat):Int)^(n-j)
 |0,j,h,hj=>by
  have e:j=n:=by lia
  subst e;rw[gx HO,Ry];simp
 |k+1,j,h,hj=>by
  by_cases e:j=n
  ·subst e;rw[gx HO,Ry];simp
  ·rw[kB HO j,show W0 n j=0 from Ur e,zero_add];obtain⟨d,hd⟩:∃d,n-j=d+1:=⟨n-j-1,by lia⟩
   have hall:∀x∈evl hs j,qo n hs x<=((hs.length+1:Nat):Int)^d:=fun x hx=>by
    obtain⟨h1,h2,_⟩:=qC HO hx;refine NW (zdH HO k x (by lia) h2) ?_;have:((hs.length+1)^(n-x):Nat)<=(hs.length+1)^d:=RJ (by lia) (by lia);exact_mod_cast this
   have hsum:∀(l:List Nat) (c:Int),(∀x∈l,qo n hs x<=c)->(l.map (qo n hs)).sum<=(l.length:Int)*c:=by
    intro l c
    induction l with
    |nil=>intro _;simp
    |cons x r ih=>
     intro hx;have h1:=ih fun y hy=>hx y (Uh _ hy);have h2:=hx x (Ug ..);rw[UL,OH,Uk];have:((r.length+1:Nat):Int)*c=(r.length:Int)*c+c:=by rw[Int.natCast_succ,Int.add_mul,Int.one_mul]
     lia
   have h1:=hsum _ _ hall;have hlen:(evl hs j).length<=hs.length:=by unfold evl;rw[Ud];exact UQ _ _
   rw[hd,Int.pow_succ];refine NW h1 ?_;rw[Int.mul_comm];exact Int.mul_le_mul_of_nonneg_left (by lia) (by exact_mod_cast UI _)
theorem zbS (hn:ns.length<=60)(t:Int):(zT ns t 0).natAbs<10^400/\0<=zT ns t 0:=by
 have h0:=jj ns.length (zm ns (eqT t)) 0;have h1:=zdH (jg ns t) ns.length 0 (Ub _) (UI _);have h2:(zm ns (eqT t)).length<=1000000:=UU (UQ _ _) (qP ns.length (by lia));refine⟨?_,h0⟩
 have h3:((((zm ns (eqT t)).length+1)^(ns.length-0):Nat):Int)<=((10^6+1)^60:Nat):=by
  refine Int.ofNat_le.mpr (UU (Nat.pow_le_pow_left (by lia) _) (RJ (by decide) (by lia)))
 have h4:zT ns t 0<=((10^6+1)^60:Nat):=NW h1 (by exact_mod_cast h3);have h5:((10^6+1)^60:Nat)<10^400:=by decide +kernel
 have e:((zT ns t 0).natAbs:Int)=zT ns t 0:=Int.natAbs_of_nonneg h0
 have h6:(zT ns t 0).natAbs<=(10^6+1)^60:=by
  have:=h4;rw[<-e] at this;exact Int.ofNat_le.mp this
 exact Om h6 h5
theorem zeb {t:Int}(hn:ns.length<=60)(g:Grd (zm ns (eqT t)) ds):(qT ds).length<=60/\Sml (qT ds):=by
 refine⟨?_,fun x hx=>?_⟩
 ·unfold qT;rw[Ud];have:=yw (jg ns t) g.2.1 g.1;lia
 ·have:=ziE g hx;lia
abbrev yH:Stmt:=top 49
theorem b8:zt ["row","numbers"] ["row","numbers"] (zh yH):=fsc_
theorem zbB (h:Few ns):Sml ns:=fun n hn=>vA (k:=12) (by decide) (by decide) (h n hn)
theorem dD (F:Fun K "answer_show" "answer_show" yH f fd)(T:Txt mg)(ZA:zK K mg "row_shown" j4 ["row"] f1 fd1)(QF:FnOk P w K mg base CX0 1 f1 fd1 ["row"] zaW) :
 FnOk P w K mg base CX0 2 f fd ["row","numbers"] (pS 0 (Tabs T0 T1 T2)):=by
 refine F.ok b8 (fun vs H Q E h=>?_) (fun cdv A outer s H vs Q E hr h=>?_)
 ·obtain⟨p,l,ns,is,R,rfl,_⟩:=h;rfl
 ·obtain⟨p,l,ns,is,R,rfl,hp,hl,hf,hi,ha,hT,k⟩:=h
  cases ha;refine⟨_,(zj (zr (zR (zb (zl QF (hr.mono (by first|decide|exact Ub _)) rfl ZA.mg ZA.fn.kp ZA.bd .nil zp (zb (pv 0) zc)) zc)))),?_⟩;exact⟨_,rfl,p,ns,rfl,hp.1,hp.2,zbB hf,fun H1 S1=>⟨by show 1<=sizeLine;decide,fun q hq=>k q _ _ (S1.free hq) rfl zd (Nt.of (S1.trans (Same.lay hq))) (hT.same (S1.trans (Same.lay hq)))⟩⟩
abbrev wW:Stmt:=top 50
theorem fW:zt ["row","numbers"] ["row","numbers"] (zh wW):=fsc_
theorem bo (F:Fun K "answer_count" "answer_count" wW f fd)(T:Txt mg)(Zh:zK K mg "all_with" qG ["row","total"] f1 fd1)(ZE:FnOk P w K mg base CX0 3 f1 fd1 ["row","total"] bV)(Zp:zK K mg "four_rows" jk ["stretches"] f2 fd2)(Qj:FnOk P w K mg base CX0 4 f2 fd2 ["stretches"] zaZ) :
 FnOk P w K mg base CX0 5 f fd ["row","numbers"] (pS 1 (Tabs T0 T1 T2)):=by
 refine F.ok fW (fun vs H Q E h=>?_) (fun cdv A outer s H vs Q E hr h=>?_)
 ·obtain⟨p,l,ns,is,R,rfl,_⟩:=h;rfl
 ·obtain⟨p,l,ns,is,R,rfl,hp,hl,hf,hi,ha,hT,k⟩:=h
  cases ha;rename_i t;refine⟨_,(zj (zr (zl Qj (hr.mono (by first|decide|exact Ub _)) rfl Zp.mg Zp.fn.kp Zp.bd .nil zp (zb (zl ZE (hr.mono (by first|decide|exact Ub _)) rfl Zh.mg Zh.fn.kp Zh.bd .nil zp (zb (pv 0) (zb (zz (ixL (K:=K) rfl) (pv 1) zg (fun _ _=>rfl)) zc))) zc)))),?_⟩;refine⟨_,rfl,_,rfl,l,_,0,_,rfl,rfl,SqL.of hi,rfl,p,ns,t,rfl,hp,fun q xs H1 _ hq ht S1=>?_⟩;exact⟨q,xs,_,rfl,hq,ht,qA _ _,UU (UQ _ _) (qP _ hp.2),fun p h=>jX hl h,fun r H2 hrn hr2 S2=>k r _ H2 (S1.free hrn) rfl hr2 (Nt.of (S1.trans S2)) (hT.same (S1.trans S2))⟩
abbrev wz:Stmt:=top 51
theorem gE:zt ["row","numbers"] ["row","numbers"] (zh wz):=fsc_
theorem gX (F:Fun K "answer_within" "answer_within" wz f fd)(T:Txt mg)(ZY:zK K mg "all_within" vz ["row","low","high"] f1 fd1)(Jb:FnOk P w K mg base CX0 3 f1 fd1 ["row","low","high"] zhT)(Zp:zK K mg "four_rows" jk ["stretches"] f2 fd2)(Qj:FnOk P w K mg base CX0 4 f2 fd2 ["stretches"] zaZ) :
 FnOk P w K mg base CX0 5 f fd ["row","numbers"] (pS 2 (Tabs T0 T1 T2)):=by
 refine F.ok gE (fun vs H Q E h=>?_) (fun cdv A outer s H vs Q E hr h=>?_)
 ·obtain⟨p,l,ns,is,R,rfl,_⟩:=h;rfl
 ·obtain⟨p,l,ns,is,R,rfl,hp,hl,hf,hi,ha,hT,k⟩:=h
  cases ha;rename_i t u;refine⟨_,(zj (zr (zl Qj (hr.mono (by first|decide|exact Ub _)) rfl Zp.mg Zp.fn.kp Zp.bd .nil zp (zb (zl Jb (hr.mono (by first|decide|exact Ub _)) rfl ZY.mg ZY.fn.kp ZY.bd .nil zp (zb (pv 0) (zb (zz (ixL (K:=K) rfl) (pv 1) zg (fun _ _=>rfl)) (zb (zz (ixL (K:=K) rfl) (pv 1) zg (fun _ _=>rfl)) zc)))) zc)))),?_⟩;refine⟨_,rfl,_,rfl,l,_,0,_,rfl,rfl,SqL.of hi,rfl,_,rfl,l,_,1,_,rfl,rfl,SqL.of hi,rfl,p,ns,t,u,rfl,hp,fun q xs H1 _ hq ht S1=>?_⟩;exact⟨q,xs,_,rfl,hq,ht,qA _ _,UU (UQ _ _) (qP _ hp.2),fun p h=>jX hl h,fun r H2 hrn hr2 S2=>k r _ H2 (S1.free hrn) rfl hr2 (Nt.of (S1.trans S2)) (hT.same (S1.trans S2))⟩
abbrev yI:Stmt:=top 52
theorem b9:zt ["row","numbers"] ["row","numbers"] (zh yI):=fsc_
theorem dE (F:Fun K "answer_rest" "answer_rest" yI f fd)(T:Txt mg)(Qg:zK K mg "all_rest" xZ ["row","m","rest"] f1 fd1)(Jj:FnOk P w K mg base CX0 3 f1 fd1 ["row","m","rest"] zfy)(Zp:zK K mg "four_rows" jk ["stretches"] f2 fd2)(Qj:FnOk P w K mg base CX0 4 f2 fd2 ["stretches"] zaZ) :
 FnOk P w K mg base CX0 5 f fd ["row","numbers"] (pS 3 (Tabs T0 T1 T2)):=by
 refine F.ok b9 (fun vs H Q E h=>?_) (fun cdv A outer s H vs Q E hr h=>?_)
 ·obtain⟨p,l,ns,is,R,rfl,_⟩:=h;rfl
 ·obtain⟨p,l,ns,is,R,rfl,hp,hl,hf,hi,ha,hT,k⟩:=h
  cases ha;rename_i m rs h0 h1;refine⟨_,(zj (zr (zl Qj (hr.mono (by first|decide|exact Ub _)) rfl Zp.mg Zp.fn.kp Zp.bd .nil zp (zb (zl Jj (hr.mono (by first|decide|exact Ub _)) rfl Qg.mg Qg.fn.kp Qg.bd .nil zp (zb (pv 0) (zb (zz (ixL (K:=K) rfl) (pv 1) zg (fun _ _=>rfl)) (zb (zz (ixL (K:=K) rfl) (pv 1) zg (fun _ _=>rfl)) zc)))) zc)))),?_⟩;refine⟨_,rfl,_,rfl,l,_,0,_,rfl,rfl,SqL.of hi,rfl,_,rfl,l,_,1,_,rfl,rfl,SqL.of hi,rfl,p,ns,m,rs,rfl,hp,h0,h1,fun q xs H1 _ hq ht S1=>?_⟩;exact⟨q,xs,_,rfl,hq,ht,qA _ _,UU (UQ _ _) (qP _ hp.2),fun p h=>jX hl h,fun r H2 hrn hr2 S2=>k r _ H2 (S1.free hrn) rfl hr2 (Nt.of (S1.trans S2)) (hT.same (S1.trans S2))⟩
abbrev wV:Stmt:=top 53
theorem fV:zt ["row","numbers"] ["row","numbers"] (zh wV):=fsc_
theorem code_at {ds:List (List Int)}{c:List Int}(h:ds.Perm (cds ns))(e:ds[k]?=some c):∃p∈prs ns.length,c=cd1 ns p:=by
 have:=h.mem_iff.mp (Uu e);unfold cds at this;obtain⟨p,hp,rfl⟩:=U6.mp this;exact⟨p,hp,rfl⟩
theorem bj (F:Fun K "answer_order" "answer_order" wV f fd)(T:Txt mg)(Qe:zK K mg "in_order" yT ["row","number"] f1 fd1)(Jh:FnOk P w K mg base CX0 3 f1 fd1 ["row","number"] zdP)(Zr:zK K mg "summed_shown" ju ["pair"] f2 fd2)(Qu:FnOk P w K mg base CX0 2 f2 fd2 ["pair"] zfw) :
 FnOk P w K mg base CX0 4 f fd ["row","numbers"] (pS 4 (Tabs T0 T1 T2)):=by
 refine F.ok fV (fun vs H Q E h=>?_) (fun cdv A outer s H vs Q E hr h=>?_)
 ·obtain⟨p,l,ns,is,R,rfl,_⟩:=h;rfl
 ·obtain⟨p,l,ns,is,R,rfl,hp,hl,hf,hi,ha,hT,k⟩:=h
  cases ha;rename_i n hn;refine⟨_,(zj (zr (zR (zb (zl Qu (hr.mono (by first|decide|exact Ub _)) rfl Zr.mg Zr.fn.kp Zr.bd .nil zp (zb (zl Jh (hr.mono (by first|decide|exact Ub _)) rfl Qe.mg Qe.fn.kp Qe.bd .nil zp (zb (pv 0) (zb (zz (ixL (K:=K) rfl) (pv 1) zg (fun _ _=>rfl)) zc))) zc)) zc)))),?_⟩;refine⟨_,rfl,_,rfl,l,_,0,_,rfl,rfl,SqL.of hi,rfl,p,ns,n,rfl,hp,hn,fun a b ds s1 lo hi' H1 d1 d2 d3 ha hb S1=>?_⟩;obtain⟨pr,hpr,e⟩:=code_at d1 d3;have e0:=e;unfold cd1 at e0;injection e0 with e1 e2
  injection e2 with e2 e3
  injection e3 with e3 _
  subst e1 e2 e3;have hm:=jU hpr;refine⟨a,b,sm ns pr,pr,rfl,ha,hb,bC hl hpr,O5 (bX hl hf (by lia)) (by decide),by show 1<=sizeLine;decide,fun q hq=>?_⟩;exact k q _ _ (S1.free hq) ⟨ds,pr,d1,d2,d3,hpr,rfl⟩ zd (Nt.of (S1.trans (Same.lay hq))) (hT.same (S1.trans (Same.lay hq)))
abbrev yJ:Stmt:=top 54
theorem QE:zt ["row","numbers","pair"] ["row","numbers"] (zh yJ):=fsc_
theorem Tabs.n0 (h:Tabs T0 T1 T2 H)(N:Tne T0 T1 T2)(k:Kp T0 H H')(t:zgL T0 H'):Tabs T0 T1 T2 H':=⟨t,TabAt.kp h.a h.n k (OO N.a),TabAt.kp h.p h.n k (OO N.b)⟩
theorem Tabs.n1 (h:Tabs T0 T1 T2 H)(N:Tne T0 T1 T2)(k:Kp T1 H H')(t:zgM T1 H'):Tabs T0 T1 T2 H':=⟨TabAt.kp h.n h.a k N.a,t,TabAt.kp h.p h.a k (OO N.c)⟩
theorem Tabs.n2 (h:Tabs T0 T1 T2 H)(N:Tne T0 T1 T2)(k:Kp T2 H H')(t:zhN T2 H'):Tabs T0 T1 T2 H':=⟨TabAt.kp h.n h.p k N.b,TabAt.kp h.a h.p k N.c,t⟩
theorem dF {c:Addr}(N:Tne T0 T1 T2)(F:Fun K "answer_near" "answer_near" yJ f fd)(T:Txt mg)(QS:fh K mg "nearest" qJ ["row","total"] f1 fd1 c T0)(Jn:FnOk P w K mg base CX0 4 f1 fd1 ["row","total"] (zfz T0))(Zr:zK K mg "summed_shown" ju ["pair"] f2 fd2)(Qu:FnOk P w K mg base CX0 2 f2 fd2 ["pair"] zfw) :
 FnOk P w K mg base CX0 5 f fd ["row","numbers"] (pS 5 (Tabs T0 T1 T2)):=by
 refine F.ok QE (fun vs H Q E h=>?_) (fun cdv A outer s H vs Q E hr h=>?_)
 ·obtain⟨p,l,ns,is,R,rfl,_⟩:=h;rfl
 ·obtain⟨p,l,ns,is,R,rfl,hp,hl,hf,hi,ha,hT,k⟩:=h
  cases ha;rename_i t
  refine⟨_,(ze (zq (i:=2) QE.nd rfl (Or.inl rfl) (zl Jn (hr.mono (by first|decide|exact Ub _)) rfl QS.mg QS.fn.kp QS.bd .nil zp (zb (pv 0) (zb (zz (ixL (K:=K) rfl) (pv 1) zg (fun _ _=>rfl)) zc))))
   (zj (zr (zcl (zw zbi (pv 2) xC (zH _)) (zR zc) (zR (zb (zl Qu (hr.mono (by first|decide|exact Ub _)) rfl Zr.mg Zr.fn.kp Zr.bd .nil zp (zb (pv 2) zc)) zc)))))),?_⟩
  refine⟨_,rfl,_,rfl,l,_,0,_,rfl,rfl,SqL.of hi,rfl,p,ns,t,rfl,hp,hT.n,fun v o H1 hF hA K1 t1=>?_⟩;dsimp only[zx];have T1':=hT.n0 N K1 t1;have n1:=Nt.kp hT.n K1
  cases o with
  |none=>
   obtain rfl:v=.non:=hA;exact⟨_,rfl,rfl,_,rfl,wm ⟨by show 0<=sizeLine;decide,fun q hq=>k q _ _ (K1.free t1 hq) ⟨none,hF,rfl⟩ zd (n1.trans (Nt.of (Same.lay hq))) (T1'.same (Same.lay hq))⟩⟩
  |some pr=>
   obtain⟨a,b,rfl,ha,hb⟩:=hA;have hpr:pr∈prs ns.length:=hF.1;have hm:=jU hpr;exact⟨_,rfl,rfl,_,rfl,qz ⟨_,rfl,a,b,sm ns pr,pr,rfl,ha,hb,bC hl hpr,O5 (bX hl hf (by lia)) (by decide),by show 1<=sizeLine;decide,fun q hq=>k q _ _ (K1.free t1 hq) ⟨some pr,hF,rfl⟩ zd (n1.trans (Nt.of (Same.lay hq))) (T1'.same (Same.lay hq))⟩⟩
abbrev vJ:Stmt:=top 55
theorem fX:zt ["row","numbers"] ["row","numbers"] (zh vJ):=fsc_
theorem bM (hl:cs.length<=1000000)(hlow:∀c∈cs,pL c)(ha:H0 a=some (.tup xs))(ht:TupsAt g2 H0 xs cs)(hacc:H0 acc=none)(hd:∀(v:Option V) (H':Hp),H' acc=some (.lst ((cs.map shP).map V.str))->Same H0 H'->N [v] H') :
 wI (Itt K a) (zx 0) zim (zcU acc (zhR zet [] E0 (zbX (bR 0) zes))) N [none] (upd H0 acc (.lst [])):=by
 refine wN (xs:=xs) (fun i σ H'=>∃v:Option V,σ=[v]/\H' acc=some (.lst (((cs.take i).map shP).map V.str))/\Same H0 H') ⟨none,rfl,zd,Same.lay hacc⟩ ?_ ?_ ?_
 ·rintro i σ H' _ ⟨v,rfl,_,S⟩;exact SqT.of (S _ _ ha)
 ·rintro i x σ H' hx ⟨v,rfl,hl',S⟩;have hi:i<cs.length:=by rw[<-ht.1];exact(Ue.mp hx).1
  obtain⟨b,e1,e2⟩:=ht.2 i _ (Ua hi);rw[hx] at e1
  cases e1;have hc:cs[i]?=some cs[i]:=Ua hi;refine⟨_,rfl,.ref b,some cs[i],rfl,⟨b,rfl,S _ _ e2⟩,fun p e=>by cases e;exact hlow _ (Of hi),_,hl',zO (by rw[Ud,Ud,UA];lia),?_⟩;refine⟨_,rfl,?_,fun b o e=>by rw[zi (zf e hacc)];exact S _ _ e⟩;rw[zd,zV shP hc,Ux];rfl
 ·rintro σ H' ⟨v,rfl,hl',S⟩;rw[ht.1,US] at hl';exact hd v H' hl' S
theorem bp {c:Addr}(N:Tne T0 T1 T2)(F:Fun K "answer_apart" "answer_apart" vJ f fd)(T:Txt mg)(Qa:fh K mg "most_apart" jx ["row","total"] f1 fd1 c T1)(Q9:FnOk P w K mg base CX0 5 f1 fd1 ["row","total"] (zdQ T1))(Ze:zK K mg "stretch_shown" qv ["stretch"] f2 fd2)(ZD:FnOk P w K mg base CX0 1 f2 fd2 ["stretch"] zet) :
 FnOk P w K mg base CX0 6 f fd ["row","numbers"] (pS 6 (Tabs T0 T1 T2)):=by
 refine F.ok fX (fun vs H Q E h=>?_) (fun cdv A outer s H vs Q E hr h=>?_)
 ·obtain⟨p,l,ns,is,R,rfl,_⟩:=h;rfl
 ·obtain⟨p,l,ns,is,R,rfl,hp,hl,hf,hi,ha,hT,k⟩:=h
  cases ha;rename_i t;refine⟨_,(zj (zr (qf (N:=["stretch"]) (cap:=[none]) rfl (show qh ["row","numbers"] (zh vJ) ["stretch"] [none] _=true by decide +kernel) (piT (K:=K) rfl (zl Q9 (hr.mono (by first|decide|exact Ub _)) rfl Qa.mg Qa.fn.kp Qa.bd .nil zp (zb (pv 0) (zb (zz (ixL (K:=K) rfl) (pv 1) zg (fun _ _=>rfl)) zc)))) (fun cl C s3 H3 fp=>⟨(zo (i:=0) (show(["stretch"]:List Str).Nodup by decide +kernel) rfl (Or.inl rfl)),qe,fun it acc=>(zP rfl (zl ZD (hr.mono (by first|decide|exact Ub _)) rfl Ze.mg Ze.fn.kp Ze.bd .nil zp (zb (pv 0) zc)))⟩)))),?_⟩;refine⟨_,rfl,_,rfl,l,_,0,_,rfl,rfl,SqL.of hi,rfl,p,ns,t,rfl,hp,hT.a,fun q g xs H1 hB hq ht K1 t1=>?_⟩;have T1':=hT.n1 N K1 t1;have n1:=Nt.kp hT.a K1;obtain⟨c1,c2,_⟩:=zbL (jg ns t) hB;have cl:=yw (jg ns t) c2 c1;refine⟨q,rfl,⟨_,SqT.of hq⟩,fun acc hacc=>bM (by lia) (fun c hc=>jX hl (c1 c hc)) hq ht hacc fun v H2 e2 S2=>?_⟩;exact k acc _ H2 (K1.free t1 hacc) ⟨g,hB,rfl⟩ e2 (n1.trans (Nt.of S2)) (T1'.same S2)
abbrev wA:Stmt:=top 56
theorem gF:zt ["row","numbers"] ["row","numbers"] (zh wA):=fsc_
theorem gY {c:Addr}(N:Tne T0 T1 T2)(F:Fun K "answer_points" "answer_points" wA f fd)(T:Txt mg)(Ql:fh K mg "points_of" qx ["row","total"] f1 fd1 c T2)(Jd:FnOk P w K mg base CX0 5 f1 fd1 ["row","total"] (zhX T2))(ZA:zK K mg "row_shown" j4 ["row"] f2 fd2)(QF:FnOk P w K mg base CX0 1 f2 fd2 ["row"] zaW) :
 FnOk P w K mg base CX0 6 f fd ["row","numbers"] (pS 7 (Tabs T0 T1 T2)):=by
 refine F.ok gF (fun vs H Q E h=>?_) (fun cdv A outer s H vs Q E hr h=>?_)
 ·obtain⟨p,l,ns,is,R,rfl,_⟩:=h;rfl
 ·obtain⟨p,l,ns,is,R,rfl,hp,hl,hf,hi,ha,hT,k⟩:=h
  cases ha;rename_i t;refine⟨_,(zj (zr (zR (zb (zl QF (hr.mono (by first|decide|exact Ub _)) rfl ZA.mg ZA.fn.kp ZA.bd .nil zp (zb (zl Jd (hr.mono (by first|decide|exact Ub _)) rfl Ql.mg Ql.fn.kp Ql.bd .nil zp (zb (pv 0) (zb (zz (ixL (K:=K) rfl) (pv 1) zg (fun _ _=>rfl)) zc))) zc)) zc)))),?_⟩;refine⟨_,rfl,_,rfl,l,_,0,_,rfl,rfl,SqL.of hi,rfl,p,ns,t,rfl,hp,hT.p,fun q ds H1 hG hq K1 t1=>?_⟩;have T1':=hT.n2 N K1 t1;have n1:=Nt.kp hT.p K1;obtain⟨g1,g2'⟩:=zeb hl hG;exact⟨q,_,rfl,hq,by lia,g2',fun H2 S2=>⟨by show 1<=sizeLine;decide,fun r hr'=>k r _ _ (K1.free t1 (S2.free hr')) ⟨ds,hG,rfl⟩ zd (n1.trans (Nt.of (S2.trans (Same.lay hr')))) (T1'.same (S2.trans (Same.lay hr')))⟩⟩
abbrev vf:Stmt:=top 57
theorem Qd:zt ["row","numbers","ways","parting"] ["row","numbers"] (zh vf):=fsc_
theorem pj {n:Nat}{hs:List (Nat×Nat)}(HO:Hits n hs):∀k l,(∀c∈chain n hs k l,c∈hs/\l<=c.1)/\Chn (chain n hs k l)
 |0,l=>⟨fun c h=>(nomatch (show c∈([]:List (Nat×Nat)) from h)),List.Pairwise.nil⟩
 |k+1,l=>by
  unfold chain
  cases e:(evg n hs l).head? with
  |none=>exact⟨fun c h=>(nomatch h),List.Pairwise.nil⟩
  |some x=>
   have hx:x∈evl hs l:=(U2.mp (Tc e)).1;obtain⟨h1,h2,h3⟩:=qC HO hx;obtain⟨i1,i2⟩:=pj HO k x;refine⟨fun c h=>?_,UY.mpr ⟨fun c h=>(i1 c h).2,i2⟩⟩;rcases Uw.mp h with rfl|h
   ·exact⟨h3,Ub _⟩
   ·have:=i1 c h;exact⟨this.1,by lia⟩
theorem zaC {t:Int}(h:vt ns t=some cs):(∀c∈cs,c∈zm ns (eqT t))/\cs.length<=ns.length:=by
 unfold vt at h;split at h
 ·cases h
 ·cases h;obtain⟨h1,h2⟩:=pj (jg ns t) ns.length 0;exact⟨fun c hc=>(h1 c hc).1,yw (jg ns t) h2 fun c hc=>(h1 c hc).1⟩
theorem zil:(10:Nat)^400<2^1920:=by
 rw[show 400=4*100 from rfl,show 1920=4*480 from rfl,Nat.pow_mul',Nat.pow_mul'];exact Nat.pow_lt_pow_left (by decide +kernel) (by decide)
theorem zd5 {n:Int}(h:n.natAbs<10^400):n.natAbs.log2<1920:=by
 by_cases h0:n.natAbs=0
 ·rw[h0];decide
 ·exact(log2_lt h0).mpr (O5 h zil)
theorem gZ (F:Fun K "answer_parted" "answer_parted" vf f fd)(T:Txt mg)(ZG:zK K mg "count_partings" jL ["row","total"] f1 fd1)(QR:FnOk P w K mg base CX0 5 f1 fd1 ["row","total"] zb6)(ZH:zK K mg "first_parting" ve ["row","total"] f2 fd2)(QU:FnOk P w K mg base CX0 5 f2 fd2 ["row","total"] zb4)(Ze:zK K mg "stretch_shown" qv ["stretch"] f3 fd3)(ZD:FnOk P w K mg base CX0 1 f3 fd3 ["stretch"] zet) :
 FnOk P w K mg base CX0 6 f fd ["row","numbers"] (pS 8 (Tabs T0 T1 T2)):=by
 refine F.ok Qd (fun vs H Q E h=>?_) (fun cdv A outer s H vs Q E hr h=>?_)
 ·obtain⟨p,l,ns,is,R,rfl,_⟩:=h;rfl
 ·obtain⟨p,l,ns,is,R,rfl,hp,hl,hf,hi,ha,hT,k⟩:=h
  cases ha;rename_i t
  refine⟨_,(ze (zq (i:=2) Qd.nd rfl (Or.inl rfl) (zR (zb (zJ zN (by rfl) T.b_str PyProof.Rows.Boot.«str» (zb (zl QR (hr.mono (by first|decide|exact Ub _)) rfl ZG.mg ZG.fn.kp ZG.bd .nil zp (zb (pv 0) (zb (zz (ixL (K:=K) rfl) (pv 1) zg (fun _ _=>rfl)) zc))) zc)) zc)))
   (ze (zq (i:=3) Qd.nd rfl (Or.inl rfl) (zl QU (hr.mono (by first|decide|exact Ub _)) rfl ZH.mg ZH.fn.kp ZH.bd .nil zp (zb (pv 0) (zb (zz (ixL (K:=K) rfl) (pv 1) zg (fun _ _=>rfl)) zc))))
   (zj (zr (zcl (zw zbi (pv 3) xC (zH _)) (pv 2) (zk vR (pv 2) (qf (N:=["stretch"]) (cap:=[none]) rfl (show qh ["row","numbers","ways","parting"] (zh vf) ["stretch"] [none] _=true by decide +kernel) (piT (K:=K) rfl (pv 3)) (fun cl C s3 H3 fp=>⟨(zo (i:=0) (show(["stretch"]:List Str).Nodup by decide +kernel) rfl (Or.inl rfl)),qe,fun it acc=>(zP rfl (zl ZD (hr.mono (by first|decide|exact Ub _)) rfl Ze.mg Ze.fn.kp Ze.bd .nil zp (zb (pv 0) zc)))⟩)))))))),?_⟩
  have⟨wl,w0⟩:=zbS hl t;refine⟨_,rfl,_,rfl,l,_,0,_,rfl,rfl,SqL.of hi,rfl,p,ns,t,rfl,hp,fun H1 S1=>⟨_,rfl,zd5 wl,by show 1<=sizeLine;decide,fun wy hwy=>?_⟩⟩;have S2:Same H (upd H1 wy (.lst [.str (zy (zT ns t 0))])):=S1.trans (Same.lay hwy);have e2:upd H1 wy (.lst [.str (zy (zT ns t 0))]) wy=some (.lst [.str (zy (zT ns t 0))]):=zd;have hw0:=S1.free hwy;show zx 2 _ _ (upd H1 wy (.lst [.str (zy (zT ns t 0))])) _;generalize upd H1 wy (.lst [.str (zy (zT ns t 0))])=H2 at S2 e2 ⊢;dsimp only[zx];refine⟨_,rfl,_,rfl,l,_,0,_,rfl,rfl,SqL.of (S2 _ _ hi),rfl,p,ns,t,rfl,hp.same S2,fun v H3 hv S3=>?_⟩;dsimp only[zx];have S23:=S2.trans S3
  cases hP:vt ns t with
  |none=>
   rw[hP] at hv;obtain rfl:v=.non:=hv;exact⟨_,rfl,rfl,_,rfl,wm ⟨_,rfl,k wy _ H3 hw0 rfl (by show H3 wy=some (.lst ((kW ns t).map V.str));unfold kW;rw[hP];exact S3 _ _ e2) (Nt.of S23) (hT.same S23)⟩⟩
  |some cs=>
   rw[hP] at hv;obtain⟨q,xs,rfl,hq,ht⟩:=hv;obtain⟨hcs,hcl⟩:=zaC hP;refine⟨_,rfl,rfl,_,rfl,qz ⟨_,rfl,_,rfl,q,rfl,⟨_,SqT.of hq⟩,fun acc hacc=>bM (by lia) (fun c hc=>jX hl (hcs c hc)) hq ht hacc fun v H4 e4 S4=>?_⟩⟩;refine⟨wy,acc,_,_,rfl,rfl,S4 _ _ (S3 _ _ e2),e4,by rw[Ud,Ud];show 1+cs.length<=sizeLine;have:=UV;lia,fun r hr'=>?_⟩;have S5:=(S23.trans S4).trans (Same.lay (o:=.lst ([.str (zy (zT ns t 0))]++(cs.map shP).map V.str)) hr');exact k r _ _ ((S23.trans S4).free hr') rfl (by show upd H4 r _ r=some (.lst ((kW ns t).map V.str));unfold kW;rw[hP];exact zd) (Nt.of S5) (hT.same S5)
def zhY:Sp:=fun vs H Q _=>∃(p:Addr) (ns:List Int) (pl:Nat) (n:Int),vs=[.ref p,.int (pl:Int),.int n]/\RowAt H p ns/\pl<ns.length/\∀q H',RowAt H' q (ns.set pl n)->Same H H'->Q (.ref q) H'
theorem zgW (ns:List Int)(pl:Nat)(n:Int)(h:pl<ns.length):ns.take pl++[n]++ns.drop (pl+1)=ns.set pl n:=by
 apply OV;intro j;rw[R6,U8,List.getElem?_append];have hl:(ns.take pl).length=pl:=by rw[UA];lia
 rw[hl]
 by_cases h1:j<pl
 ·rw[Uv h1,TZ h1,Ur (by lia)]
 ·rw[Ur h1]
  by_cases h2:pl=j
  ·subst h2;rw[Uv rfl,Uv h,Ry];rfl
  ·rw[Ur h2];obtain⟨d,rfl⟩:∃d,j=pl+1+d:=⟨j-pl-1,by lia⟩;rw[show pl+1+d-pl=d+1 by lia];show(ns.drop (pl+1))[d]?=_;rw[TF]
theorem zgi {p:Addr}{pl:Nat}{n:Int}(hp:RowAt H p ns)(hpl:pl<ns.length)(k:∀q H',RowAt H' q (ns.set pl n)->Same H H'->Q (.ref q) H') :
 zfS (.ref p) none (some (pl:Int)) H fun x H1=>(∀(q:Addr),H1 q=none->zfU x (.ref q) (upd H1 q (.tup [.int n])) fun y H2=>zfS (.ref p) (some ((pl:Int)+1)) none H2 fun z H3=>zfU y z H3 Q):=by
 obtain⟨h1,h2⟩:=hp;refine⟨p,_,rfl,h1,fun q1 H1 S1 hq1 q2 hq2=>?_⟩;rw[d9,cut_to ns pl (by lia)] at hq1;refine⟨q1,q2,_,_,rfl,rfl,(zi (zf hq1 hq2)).trans hq1,zd,size_le (by rw[Ud,UA];simp only[Uk,UM];lia),fun q3 H2 S2 hq3=>?_⟩;have S12:Same H H2:=S1.trans ((Same.lay hq2).trans S2);refine⟨p,_,rfl,S12 _ _ h1,fun q4 H3 S3 hq4=>?_⟩;rw[show(pl:Int)+1=((pl+1:Nat):Int) by lia,d9,zgz ns (pl+1) (by lia)] at hq4;refine⟨q3,q4,_,_,rfl,rfl,S3 _ _ hq3,hq4,size_le (by simp only[Ud,UA,Rf,UD,Uk,UM];lia),fun q5 H4 S4 hq5=>k q5 H4 ⟨?_,by rw[Ts];exact h2⟩ (S12.trans (S3.trans S4))⟩;rw[hq5,<-zgW ns pl n hpl,Ux,Ux];rfl
abbrev gG:Stmt:=top 28
theorem zc8:zt ["row","place","number"] ["row","place","number"] (zh gG):=fsc_
theorem zdg (F:Fun K "row_led" "row_led" gG f fd)(T:Txt mg):FnOk P w K mg base CX0 1 f fd ["row","place","number"] zhY:=by
 refine F.ok zc8 (fun vs H Q E h=>?_) (fun cdv A outer s H vs Q E hr h=>?_)
 ·obtain⟨p,ns,pl,n,rfl,_⟩:=h;rfl
 ·obtain⟨p,ns,pl,n,rfl,hp,hpl,k⟩:=h
  refine⟨_,(ze (z8 (qV (kO wC fE zg (pv 1) (zv (jh (K:=K) rfl) (by rfl) T.b_len PyProof.Rows.Boot.«len» (zb (pv 0) zc))))
   (zj yL)
   zL)
   (zj (zr (zk zh2 (zk zh2 (kU ziv (pv 0) za9 (kQ (pv 1))) (qu (zb (pv 2) zc))) (kU ziv (pv 0) (kQ (zk zM (pv 1) zg)) za9))))),?_⟩
  have hlm:(ns.map V.int).length=ns.length:=Ud _;refine⟨_,rfl,_,_,rfl,rfl,_,rfl,?_⟩;rw[Uy (show(0:Int)<=(pl:Int) by lia)];refine wm ⟨_,rfl,p,_,rfl,.inr (SqT.of hp.1),_,_,rfl,rfl,_,rfl,?_⟩;rw[Uy (show(pl:Int)<((ns.map V.int).length:Int) by lia)];refine qz ?_;refine⟨_,rfl,_,rfl,_,rfl,?_⟩;obtain⟨pp,xs,e1,e2,e3⟩:=zgi (Q:=Q) hp hpl k;refine⟨pp,xs,e1,e2,fun q H' S hq=>?_⟩;have:=e3 q H' S hq;refine⟨_,rfl,by show 1<=sizeLine;decide,fun q2 hq2=>?_⟩;obtain⟨a,b,us,ws,z1,z2,z3,z4,z5,z6⟩:=this q2 hq2;refine⟨a,b,us,ws,z1,z2,z3,z4,z5,fun q3 H3 S3 hq3=>?_⟩;obtain⟨pp',xs',e1',e2',e3'⟩:=z6 q3 H3 S3 hq3;exact⟨_,rfl,_,rfl,_,_,rfl,rfl,_,rfl,pp',xs',e1',e2',e3'⟩
def g9 (j:Nat):Stmt:=inClass (top 60) j
def wd:Nat->Str
 |0=>"show"
 |1=>"count"
 |2=>"within"
 |3=>"rest"
 |4=>"order"
 |5=>"near"
 |6=>"apart"
 |7=>"points"
 |_=>"parted"
def cntN:Nat->Nat
 |0=>0
 |2=>2
 |3=>2
 |_=>1
def zfF (C:Addr):Sp:=fun vs H Q _=>∃(x dx:Addr),vs=[.ref x]/\H x=some (.ins C dx [])/\∀d H',H d=none->DeskAt C H' x d []->(∀b o,H b=some o->b≠x->H' b=some o)->Q .non H'
def zaY (C:Addr):Sp:=fun vs H Q _=>∃(x d:Addr) (n:Str) (rows:Rows) (ns:List Int),vs=[.ref x,.str n]/\DeskAt C H x d rows/\wt rows n=some ns/\∀p,RowAt H p ns->Q (.ref p) H
def zdA (C:Addr)(H:Hp)(x d:Addr)(rows:Rows)(Q:VK):Prop:=∀q H',H q=none->qL H' q []->DeskAt C H' x d rows->KpD d H H'->Q (.ref q) H'
def zhW (C:Addr):Sp:=fun vs H Q _=>∃(x d l:Addr) (n:Str) (ns:List Int) (rows:Rows),vs=[.ref x,.str n,.ref l]/\DeskAt C H x d rows/\vY rows/\isNm n=true/\qL H l (ns.map zy)/\ns.length<=60/\Few ns/\zdA C H x d (vp rows n ns) Q
def zfD (C:Addr):Sp:=fun vs H Q _=>∃(x d l:Addr) (n:Str) (ns:List Int) (pl:Nat) (m:Int) (rows:Rows),vs=[.ref x,.str n,.ref l]/\DeskAt C H x d rows/\vY rows/\qL H l [zy pl,zy m]/\wt rows n=some ns/\pl<ns.length/\m.natAbs<10^12/\zdA C H x d (vp rows n (ns.set pl m)) Q
def zkj (Tb:Hp->Prop)(H:Hp)(R:List Str->Prop)(Q:VK):Prop:=∀q zs H',H q=none->R zs->qL H' q zs->Nt H H'->Tb H'->Q (.ref q) H'
def zb9 (C:Addr)(Tb:Hp->Prop):Sp:=fun vs H Q _=>∃(x d l:Addr) (i:Nat) (n:Str) (ns is:List Int) (R:List Str->Prop) (rows:Rows),vs=[.ref x,.str (wd i),.str n,.ref l]/\DeskAt C H x d rows/\vY rows/\qL H l (is.map zy)/\wt rows n=some ns/\(∀j∈is,j.natAbs<10^14)/\i<9/\Ask ns i is R/\Tb H/\zkj Tb H R Q
def zb8 (C:Addr)(Tb:Hp->Prop):Sp:=fun vs H Q _=>∃(x d:Addr) (z:Str) (rows:Rows),vs=[.ref x,.str z]/\z.length<=10000/\DeskAt C H x d rows/\vY rows/\
 ((∃(n:Str) (ns:List Int),Txt.split z blank=("row":Str)::n::ns.map zy/\isNm n=true/\ns.length<=60/\Few ns/\zdA C H x d (vp rows n ns) Q)∨
  (∃(n:Str) (ns:List Int) (pl:Nat) (m:Int),Txt.split z blank=([("lead":Str),n,zy pl,zy m]:List Str)/\wt rows n=some ns/\pl<ns.length/\m.natAbs<10^12/\zdA C H x d (vp rows n (ns.set pl m)) Q)∨
  (∃(i:Nat) (n:Str) (ns is:List Int) (R:List Str->Prop),Txt.split z blank=wd i::n::is.map zy/\wt rows n=some ns/\(∀j∈is,j.natAbs<10^14)/\i<9/\Ask ns i is R/\Tb H/\zkj Tb H R Q))
abbrev zdc:Stmt:=g9 0
theorem zgZ:zt ["self"] ["self"] (zh zdc):=fsc_
theorem zhj (F:Fun K "__init__" "Desk.__init__" zdc f fd)(TC:pH K mg C):FnOk P w K mg base CX0 1 f fd ["self"] (zfF C):=by
 refine F.ok zgZ (fun vs H Q E h=>?_) (fun cdv A outer s H vs Q E hr h=>?_)
 ·obtain⟨x,dx,rfl,_⟩:=h;rfl
 ·obtain⟨x,dx,rfl,hx,k⟩:=h;refine⟨_,(zj (ziG (pv 0) zcm rfl)),?_⟩;refine fun d hd=>⟨_,rfl,x,C,dx,[],rfl,(zi (zf hx hd)).trans hx,TC.cl,TC.nR,(by show 0<1000;decide),?_⟩;have ndx:d≠x:=fun q=>zf hx hd q.symm;exact k d _ hd ⟨dx,[],zd,by rw[zi ndx,zd],.nil,by decide⟩ fun b o e nb=>by rw[zi nb,zi (zf e hd)];exact e
abbrev xb:Stmt:=g9 5
theorem za5:zt ["self","name"] ["self","name"] (zh xb):=fsc_
theorem jY {m:Str}(h:¬m="rows_by_name"):List.lookup m ([("rows_by_name",V.ref d)]:List (Str×V))=none:=by
 show(match m==("rows_by_name":Str) with|true=>some (V.ref d)|false=>none)=none;rw[show(m==("rows_by_name":Str))=false from U4.mpr h]
theorem zbl (F:Fun K "row_named" "Desk.row_named" xb f fd)(TC:pH K mg C):FnOk P w K mg base CX0 1 f fd ["self","name"] (zaY C):=by
 refine F.ok za5 (fun vs H Q E h=>?_) (fun cdv A outer s H vs Q E hr h=>?_)
 ·obtain⟨x,d,n,rows,ns,rfl,_⟩:=h;rfl
 ·obtain⟨x,d,n,rows,ns,rfl,hD,hg,k⟩:=h;have hu2:=Om (Rl (show 1<=64 by decide) _) hr.units
  refine⟨_,(ze (z8 (zdd (zeI hu2 (pv 1) (zbe (pv 0) rfl)))
   (zj yL)
   zL)
   (zj (zr (bD hu2 (zbe (pv 0) rfl) (pv 1) (fun _ _=>rfl))))),?_⟩
  obtain⟨dx,kvs,h1,h2,h3,h4⟩:=hD;refine⟨_,rfl,_,rfl,x,C,dx,_,_,rfl,h1,TC.cl,TC.nR,rfl,d,_,rfl,DGet.k (k:=.inr n) h2,?_⟩;rcases kG n h3 with⟨g1,_⟩|⟨ns',p,g1,g2,g3⟩
  ·rw[hg] at g1;cases g1
  ·rw[hg] at g1
   cases g1;rw[g2];refine⟨_,rfl,qz ⟨_,rfl,x,C,dx,_,_,rfl,h1,TC.cl,TC.nR,rfl,_,rfl,d,.ref p,rfl,?_,k p g3⟩⟩;have:=DGet.k (k:=.inr n) h2;rw[g2] at this;exact this
theorem zch {r:Addr}{n:Str}{dx:Addr}(h1:H x=some (.ins C dx [("rows_by_name",.ref d)]))(h2:H d=some (.dK kvs))(h3:RowsAt H kvs rows)(ok:vY rows)(hq:RowAt H q ns)(S0:Same H0 H)(k:zdA C H0 x d (vp rows n ns) Q)(hr:upd H d (.dK (putK kvs (.inr n) (.ref q))) r=none):Q (.ref r) (upd (upd H d (.dK (putK kvs (.inr n) (.ref q)))) r (.lst [])):=by
 have nr:∀{b:Addr}{o:HO},H b=some o->b≠d->upd (upd H d (.dK (putK kvs (.inr n) (.ref q)))) r (.lst []) b=some o:=fun {b o} e hb=>by
  have e2:upd H d (.dK (putK kvs (.inr n) (.ref q))) b=some o:=by rw[zi hb];exact e
  rw[zi (zf e2 hr)];exact e2
 have hr0:H r=none:=by
  have:r≠d:=fun z=>by subst z;rw[zd] at hr;cases hr
  rw[zi this] at hr;exact hr
 have hrows:=da (n:=n) hq ok.uq h3;refine k r _ (S0.free hr0) zd ⟨dx,_,nr h1 (qE h1 h2 (by intro z;cases z)),?_,hrows.keep fun b zs e=>nr e (qE e h2 (by intro z;cases z)),?_⟩ fun b o e hb=>nr (S0 _ _ e) hb
 ·have e2:upd H d (.dK (putK kvs (.inr n) (.ref q))) d=some (.dK (putK kvs (.inr n) (.ref q))):=zd;rw[zi (zf e2 hr)];exact e2
 ·have:=ye kvs (.inr n) (V.ref q);have:=Oa h3;have:=ok.le;lia
abbrev gH:Stmt:=g9 2
theorem zc9:zt ["self","name","words"] ["self","name","words"] (zh gH):=fsc_
theorem gi {n:Str}(h:isNm n=true):n.length<=8:=by
 unfold isNm at h;exact(U0 (Bool.and_eq_true_iff.mp h).1).2
theorem zdh (F:Fun K "put_row" "Desk.put_row" gH f fd)(TC:pH K mg C)(Qt:zK K mg "is_name" yn ["word"] f1 fd1)(Jo:FnOk P w K mg base CX0 1 f1 fd1 ["word"] zfA)(ZM:zK K mg "row_of_words" jw ["words"] f2 fd2)(QZ:FnOk P w K mg base CX0 3 f2 fd2 ["words"] zhV):FnOk P w K mg base CX0 4 f fd ["self","name","words"] (zhW C):=by
 refine F.ok zc9 (fun vs H Q E h=>?_) (fun cdv A outer s H vs Q E hr h=>?_)
 ·obtain⟨x,d,l,n,ns,rows,rfl,_⟩:=h;rfl
 ·obtain⟨x,d,l,n,ns,rows,rfl,hD,ok,hn,hl,hlen,hf,k⟩:=h;have hu2:=Om (Rl (show 1<=64 by decide) _) hr.units;have hn8:=gi hn
  refine⟨_,(ze (z8 (qV (jN (zl Jo (hr.mono (by first|decide|exact Ub _)) rfl Qt.mg Qt.fn.kp Qt.bd .nil zp (zb (pv 1) zc))))
   (zj yL)
   zL)
   (ze (za8 hu2 (zbe (pv 0) rfl) (pv 1) (zl QZ (hr.mono (by first|decide|exact Ub _)) rfl ZM.mg ZM.fn.kp ZM.bd .nil zp (zb (pv 2) zc)) rfl)
   (zj (zr (zR zc))))),?_⟩
  refine⟨_,rfl,n,rfl,by lia,fun H1 S1=>⟨_,rfl,?_⟩⟩;rw[hn];refine qz ⟨_,rfl,l,ns,rfl,S1 _ _ hl,hlen,hf,fun q H2 hq S2=>?_⟩;obtain⟨dx,kvs,h1,h2,h3,h4⟩:=(hD.same S1).same S2;have:=Oa h3;have:=ok.le;refine⟨_,rfl,x,C,dx,_,_,rfl,h1,TC.cl,TC.nR,rfl,_,rfl,d,_,rfl,DPut.k (k:=.inr n) h2 (zO (by lia)),?_⟩;exact⟨by show 0<=sizeLine;decide,fun r hr2=>zch h1 h2 h3 ok hq (S1.trans S2) k hr2⟩
abbrev xx:Stmt:=g9 3
theorem Z7:zt ["self","name","words","row","place","number"] ["self","name","words"] (zh xx):=fsc_
theorem dC {t1:Tok}(F:Fun K "lead_in_row" "Desk.lead_in_row" xx f fd)(T:Txt mg)(TC:pH K mg C)(Qi:MethAt K C "row_named" "Desk.row_named" xb ["self","name"] f0 fd0)(QG:FnOk P w K mg base CX0 1 f0 fd0 ["self","name"] (zaY C))(Zj:zK K mg "number_read" qX ["word","figures"] f1 fd1)(ZP:FnOk P w K mg base CX0 2 f1 fd1 ["word","figures"] zdN)(Qs:zK K mg "row_led" gG ["row","place","number"] f2 fd2)(Jl:FnOk P w K mg base CX0 1 f2 fd2 ["row","place","number"] zhY)(Qx:mg "ROW_FIGURES"=some (.int j0 t1))(Qo:mg "ASKED_FIGURES"=some (.int je t2)):FnOk P w K mg base CX0 4 f fd ["self","name","words"] (zfD C):=by
 refine F.ok Z7 (fun vs H Q E h=>?_) (fun cdv A outer s H vs Q E hr h=>?_)
 ·obtain⟨x,d,l,n,ns,pl,m,rows,rfl,_⟩:=h;rfl
 ·obtain⟨x,d,l,n,ns,pl,m,rows,rfl,hD,ok,hl,hg,hpl,hm,k⟩:=h;have hu2:=Om (Rl (show 1<=64 by decide) _) hr.units
  refine⟨_,(ze (zq (i:=3) Z7.nd rfl (Or.inl rfl) (jV (pv 0) TC.cl Qi.mt QG (hr.mono (by first|decide|exact Ub _)) Qi.bd .nil zp (zb (pv 1) zc)))
   (ze (z8 (zw dz (zv (jh (K:=K) rfl) (by rfl) T.b_len PyProof.Rows.Boot.«len» (zb (pv 2) zc)) zg (zH _))
     (zj yL)
     zL)
   (ze (zq (i:=4) Z7.nd rfl (Or.inl rfl) (zl ZP (hr.mono (by first|decide|exact Ub _)) rfl Zj.mg Zj.fn.kp Zj.bd .nil zp (zb (zz (ixL (K:=K) rfl) (pv 2) zg (fun _ _=>rfl)) (zb (qQ (v:=.int je) (by rfl) Qo ⟨_,rfl⟩) zc))))
   (ze (zq (i:=5) Z7.nd rfl (Or.inl rfl) (zl ZP (hr.mono (by first|decide|exact Ub _)) rfl Zj.mg Zj.fn.kp Zj.bd .nil zp (zb (zz (ixL (K:=K) rfl) (pv 2) zg (fun _ _=>rfl)) (zb (qQ (v:=.int j0) (by rfl) Qx ⟨_,rfl⟩) zc))))
   (ze (za8 hu2 (zbe (pv 0) rfl) (pv 1) (zl Jl (hr.mono (by first|decide|exact Ub _)) rfl Qs.mg Qs.fn.kp Qs.bd .nil zp (zb (pv 3) (zb (pv 4) (zb (pv 5) zc)))) rfl)
   (zj (zr (zR zc)))))))),?_⟩
  obtain⟨dx,kvs,h1,h2,h3,h4⟩:=id hD;have hr60:=(ok.ok _ (yg hg)).2.1;refine⟨_,rfl,x,dx,_,rfl,h1,jY (by decide +kernel),_,rfl,x,d,n,rows,ns,rfl,hD,hg,fun p hp=>?_⟩;dsimp only[zx];refine⟨_,rfl,l,_,rfl,.inl (SqL.of hl),rfl,_,rfl,qz ?_⟩;refine⟨_,rfl,l,_,0,_,rfl,rfl,SqL.of hl,rfl,(pl:Int),14,rfl,by decide,by decide,by rw[Ow];exact UP hpl (UU hr60 (by decide)),fun H1 S1=>?_⟩;dsimp only[zx];refine⟨_,rfl,l,_,1,_,rfl,rfl,SqL.of (S1 _ _ hl),rfl,m,12,rfl,by decide,by decide,hm,fun H2 S2=>?_⟩;dsimp only[zx];have S12:=S1.trans S2;refine⟨_,rfl,_,rfl,_,rfl,p,ns,pl,m,rfl,hp.same S12,hpl,fun q H3 hq S3=>?_⟩;have S13:=S12.trans S3;obtain⟨dx',kvs',g1,g2,g3,g4⟩:=hD.same S13;have:=Oa g3;have:=ok.le;refine⟨_,rfl,x,C,dx',_,_,rfl,g1,TC.cl,TC.nR,rfl,_,rfl,d,_,rfl,DPut.k (k:=.inr n) g2 (zO (by lia)),?_⟩;exact⟨by show 0<=sizeLine;decide,fun r hr2=>zch g1 g2 g3 ok hq S13 k hr2⟩
theorem zb3 (z:Str):(Txt.split z blank).length<=z.length+1:=by
 have h:=ka blank (by decide) (Txt.split z blank);rw[StrLaws.join_split z blank] at h;exact h
def zh3:List (Key×V):=((List.range 9).map fun i=>(Sum.inr (wd i):Key)).zip ((List.range 9).map fun i=>V.int (cntN i:Int))
def zkc (g:Nat->Addr):List (Key×V):=((List.range 9).map fun i=>(Sum.inr (wd i):Key)).zip ((List.range 9).map fun i=>V.ref (g i))
theorem nine {φ:Nat->Prop}(h0:φ 0)(h1:φ 1)(h2:φ 2)(h3:φ 3)(h4:φ 4)(h5:φ 5)(h6:φ 6)(h7:φ 7)(h8:φ 8):∀i,i<9->φ i
 |0,_=>h0
 |1,_=>h1
 |2,_=>h2
 |3,_=>h3
 |4,_=>h4
 |5,_=>h5
 |6,_=>h6
 |7,_=>h7
 |8,_=>h8
theorem zcY {α:Type}(f:α->V):∀(l:List (Str×α)) (i:Nat) (x:Str×α),(l.map (·.1)).Nodup->l[i]?=some x->xH (l.map fun p=>((Sum.inr p.1:Key),f p.2)) (.inr x.1)=some (f x.2)
 |y::l,0,x,_,h=>by
  cases h;exact wO rfl
 |y::l,i+1,x,hn,h=>by
  obtain⟨n1,n2⟩:=OP.mp hn;have h:l[i]?=some x:=by simpa using h
  have:¬((Sum.inr y.1:Key)=Sum.inr x.1):=fun z=>by
   injection z with z
   have m:=Tu (f:=fun p:Str×α=>p.1) (Uu h);rw[<-z] at m;exact n1 m
  rw[UL,wQ this];exact zcY f l i x n2 h
theorem zf5:∀i,i<9->xH zh3 (.inr (wd i))=some (.int (cntN i:Int)):=fun i hi=>
 zcY (fun j:Nat=>V.int (cntN j:Int)) ((List.range 9).map fun i=>(wd i,i)) i (wd i,i) (by decide +kernel) (by rw[Up,OJ hi];rfl)
theorem zhL (g:Nat->Addr):∀i,i<9->xH (zkc g) (.inr (wd i))=some (.ref (g i)):=fun i hi=>
 zcY (fun j:Nat=>V.ref (g j)) ((List.range 9).map fun i=>(wd i,i)) i (wd i,i) (by decide +kernel) (by rw[Up,OJ hi];rfl)
theorem zeo (h:Ask ns i is R):is.length=cntN i:=by cases h<;>rfl
structure Answers (P:Program)(w:World)(K:Frag)(mg:Str->Option Value)(base:Heap)(Tb:Hp->Prop)(g:Nat->Addr)(gd:Nat->FuncData):Prop where
 kp:∀i,i<9->keepIn K (.ref (g i))=true
 bd:∀i,i<9->Binds K (gd i) ["row","numbers"] []
 ok:∀i,i<9->FnOk P w K mg base CX0 6 (g i) (gd i) ["row","numbers"] (pS i Tb)
abbrev kF:Stmt:=g9 4
theorem QI:zt ["self","word","name","words","row","numbers","answer_of_word"] ["self","word","name","words"] (zh kF):=fsc_
theorem zeM {d_ANSWERS d_NUMBERS_ASKED:Addr}{g:Nat->Addr}{gd:Nat->FuncData}(hTb:∀{H H':Hp},Same H H'->Tb H->Tb H')(F:Fun K "answer" "Desk.answer" kF f fd)(T:Txt mg)(TC:pH K mg C)(Qi:MethAt K C "row_named" "Desk.row_named" xb ["self","name"] f0 fd0)(QG:FnOk P w K mg base CX0 1 f0 fd0 ["self","name"] (zaY C))(Zj:zK K mg "number_read" qX ["word","figures"] f1 fd1)(ZP:FnOk P w K mg base CX0 2 f1 fd1 ["word","figures"] zdN)(Qo:mg "ASKED_FIGURES"=some (.int je t2))(Q7:mg "ANSWERS"=some (.ref d_ANSWERS))(QW:mg "NUMBERS_ASKED"=some (.ref d_NUMBERS_ASKED))(kA:KD P w K d_ANSWERS (zkc g))(kN:KD P w K d_NUMBERS_ASKED zh3)(AN:Answers P w K mg base Tb g gd) :
 FnOk P w K mg base CX0 7 f fd ["self","word","name","words"] (zb9 C Tb):=by
 refine F.ok QI (fun vs H Q E h=>?_) (fun cdv A outer s H vs Q E hr h=>?_)
 ·obtain⟨x,d,l,i,n,ns,is,R,rows,rfl,_⟩:=h;rfl
 ·obtain⟨x,d,l,i,n,ns,is,R,rows,rfl,hD,ok,hl,hg,hb,hi,ha,hT,k⟩:=h
  refine⟨_,(ze (zq (i:=4) QI.nd rfl (Or.inl rfl) (jV (pv 0) TC.cl Qi.mt QG (hr.mono (by first|decide|exact Ub _)) Qi.bd .nil zp (zb (pv 2) zc)))
   (ze (z8 (PW.pt (kM (zdd (zhc (P:=P) (w:=w) (K:=K) rfl rfl rfl (pv 1) (qQ (v:=.ref d_ANSWERS) (by rfl) Q7 rfl))) (ya (zw dz (zv (jh (K:=K) rfl) (by rfl) T.b_len PyProof.Rows.Boot.«len» (zb (pv 3) zc)) (zdW (P:=P) (w:=w) (K:=K) rfl rfl rfl (qQ (v:=.ref d_NUMBERS_ASKED) (by rfl) QW rfl) (pv 1) (fun _ _=>rfl)) (zH _)))))
     (zj yL)
     zL)
   (ze (qH (i:=5) (hN:=QI.nd) (hy:=rfl) (hx:=rfl) (N:=["other"]) (cap:=[none]) (hc:=rfl) (hok:=(show qh ["self","word","name","words","row","numbers","answer_of_word"] (zh kF) ["other"] [none] _=true by decide +kernel) ) (hi:=(piL (K:=K) rfl (pv 3))) (hb:=fun cl C s3 H3 fp=>⟨(zo (i:=0) (show(["other"]:List Str).Nodup by decide +kernel) rfl (Or.inl rfl)),qe,fun it acc=>(zP rfl (zl ZP (hr.mono (by first|decide|exact Ub _)) rfl Zj.mg Zj.fn.kp Zj.bd .nil zp (zb (pv 0) (zb (qQ (v:=.int je) (by rfl) Qo ⟨_,rfl⟩) zc))))⟩))
   (ze (zq (i:=6) QI.nd rfl (Or.inl rfl) (zdW (P:=P) (w:=w) (K:=K) rfl rfl rfl (qQ (v:=.ref d_ANSWERS) (by rfl) Q7 rfl) (pv 1) (fun _ _=>rfl)))
   (zj (zr (zhb (k:=6) (hr.mono (by first|decide|exact Ub _)) 6 (zb (pv 4) (zb (pv 5) zc))))))))),?_⟩
  obtain⟨dx,kvs,h1,h2,h3,h4⟩:=id hD;obtain⟨_,hr60,hfew⟩:=ok.ok _ (yg hg);refine⟨_,rfl,x,dx,_,rfl,h1,jY (by decide +kernel),_,rfl,x,d,n,rows,ns,rfl,hD,hg,fun p hp=>?_⟩;dsimp only[zx];have va:=zhL g i hi;have vn:=zf5 i hi;have hlm:(((is.map zy).map V.str).length:Int)=(cntN i:Int):=by rw[Ud,Ud,zeo ha]
  refine⟨_,rfl,d_ANSWERS,_,.inr (wd i),rfl,kA,rfl,_,rfl,?_⟩;rw[va];refine qz ⟨_,rfl,l,_,rfl,.inl (SqL.of hl),_,rfl,d_NUMBERS_ASKED,_,.inr (wd i),_,rfl,kN,rfl,vn,rfl,_,rfl,?_⟩;rw[hlm];refine zh8 rfl ⟨_,rfl,l,rfl,⟨_,SqL.of hl⟩,fun acc hacc=>?_⟩;have hil:is.length<=2:=by rw[zeo ha];unfold cntN;split<;>lia
  refine qb (xs:=(is.map zy).map V.str) (fun j σ H'=>∃v:Option V,σ=[v]/\H' acc=some (.lst ((is.take j).map V.int))/\Same H H') ⟨none,rfl,zd,Same.lay hacc⟩ ?_ ?_ ?_
  ·rintro j σ H1 hj ⟨v,rfl,hc,S1⟩;exact SqL.of (S1 _ _ hl)
  ·rintro j y σ H1 hx ⟨v,rfl,hc,S1⟩;obtain⟨u,hu,rfl⟩:=zaS hx;rw[Up] at hu;obtain⟨m,hm,rfl⟩:=UT.mp hu;refine⟨_,rfl,m,14,rfl,by decide,by decide,hb m (Uu hm),fun H2 S2=>⟨_,S2 _ _ hc,zO (by rw[Ud,UA];lia),?_⟩⟩;refine⟨_,rfl,?_,fun b o e=>by rw[zi (zf e hacc)];exact S2 _ _ (S1 _ _ e)⟩;rw[zd,zV V.int hm]
  ·rintro σ H1 ⟨v',rfl,hac,S1⟩;rw[Ud,Ud,US] at hac;dsimp only[zx];refine⟨_,rfl,d_ANSWERS,_,.inr (wd i),.ref (g i),rfl,kA,rfl,va,?_⟩;dsimp only[zx];exact⟨g i,gd i,_,_,_,_,rfl,AN.ok i hi,AN.kp i hi,AN.bd i hi,zp,_,rfl,_,rfl,p,acc,ns,is,R,rfl,hp.same S1,hr60,hfew,hac,ha,hTb S1 hT,fun q zs H2 hq hz e n2 t2=>k q zs H2 (S1.free hq) hz e (Nt.trans (Nt.of S1) n2) t2⟩
abbrev zcf:Stmt:=g9 1
theorem QX:zt ["self","line","words","word","name","others"] ["self","line"] (zh zcf):=fsc_
theorem zih:∀i,i<9->¬wd i="row"/\¬wd i="lead":=nine (by decide +kernel) (by decide +kernel) (by decide +kernel) (by decide +kernel) (by decide +kernel) (by decide +kernel) (by decide +kernel) (by decide +kernel) (by decide +kernel)
theorem ziQ (hTb:∀{H H':Hp},Same H H'->Tb H->Tb H')(F:Fun K "ask" "Desk.ask" zcf f fd)(T:Txt mg)(TC:pH K mg C)(Q6:MethAt K C "put_row" "Desk.put_row" gH ["self","name","words"] f1 fd1)(Jm:FnOk P w K mg base CX0 4 f1 fd1 ["self","name","words"] (zhW C))(QJ:MethAt K C "lead_in_row" "Desk.lead_in_row" xx ["self","name","words"] f2 fd2)(Q4:FnOk P w K mg base CX0 4 f2 fd2 ["self","name","words"] (zfD C))(Jc:MethAt K C "answer" "Desk.answer" kF ["self","word","name","words"] f3 fd3)(Jr:FnOk P w K mg base CX0 7 f3 fd3 ["self","word","name","words"] (zb9 C Tb)) :
 FnOk P w K mg base CX0 8 f fd ["self","line"] (zb8 C Tb):=by
 refine F.ok QX (fun vs H Q E h=>?_) (fun cdv A outer s H vs Q E hr h=>?_)
 ·obtain⟨x,d,z,rows,rfl,_⟩:=h;rfl
 ·obtain⟨x,d,z,rows,rfl,hz,hD,ok,k⟩:=h;have hsl:=UV
  refine⟨_,(ze (zq (i:=2) QX.nd rfl (Or.inl rfl) (jo Ov RZ type_str_split zcx (pv 1) (zb zQ zc)))
   (ze (z8 (zw fE (zv (jh (K:=K) rfl) (by rfl) T.b_len PyProof.Rows.Boot.«len» (zb (pv 2) zc)) zg (zH _))
     (zj yL)
     zL)
   (ze (xB (pv 2) (zg9 (K:=K) (n:=2) rfl rfl (zI (zo (i:=3) QX.nd rfl (Or.inl rfl)) (zI (zo (i:=4) QX.nd rfl (Or.inl rfl)) (zfY (zo (i:=5) QX.nd rfl (Or.inl rfl)) qm)))))
   (ze (z8 (zw qU (pv 3) zQ (zH _))
     (zj (zr (jV (pv 0) TC.cl Q6.mt Jm (hr.mono (by first|decide|exact Ub _)) Q6.bd .nil zp (zb (pv 4) (zb (pv 5) zc)))))
     zL)
   (ze (z8 (zw qU (pv 3) zQ (zH _))
     (zj (zr (jV (pv 0) TC.cl QJ.mt Q4 (hr.mono (by first|decide|exact Ub _)) QJ.bd .nil zp (zb (pv 4) (zb (pv 5) zc)))))
     zL)
   (zj (zr (jV (pv 0) TC.cl Jc.mt Jr (hr.mono (by first|decide|exact Ub _)) Jc.bd .nil zp (zb (pv 3) (zb (pv 4) (zb (pv 5) zc))))))))))),?_⟩
  have hcount:=zb3 z;refine⟨_,rfl,rfl,z,blank,rfl,rfl,by decide,by lia,fun l hl=>?_⟩;dsimp only[zx];generalize Txt.split z blank=ws at k hcount;have S1:Same H (upd H l (.lst (ws.map V.str))):=Same.lay hl;have e1:upd H l (.lst (ws.map V.str)) l=some (.lst (ws.map V.str)):=zd;generalize upd H l (.lst (ws.map V.str))=H1 at S1 e1;have hlm:(ws.map V.str).length=ws.length:=Ud _
  obtain⟨v,n,r,rfl⟩:∃v n r,ws=v::n::r:=by
   rcases k with⟨n,ns,e,_⟩|⟨n,ns,pl,m,e,_⟩|⟨i,n,ns,is,R,e,_⟩
   ·exact⟨_,_,_,e⟩
   ·exact⟨_,_,_,e⟩
   ·exact⟨_,_,_,e⟩
  refine⟨_,rfl,l,_,rfl,.inl (SqL.of e1),_,_,rfl,rfl,_,rfl,?_⟩;rw[hlm,UE (by simp only[Uk];lia)];refine qz ⟨_,rfl,l,_,rfl,SqL.of e1,by show 2<=(r.map V.str).length+1+1;lia,fun o ho=>?_⟩;refine⟨_,_,rfl,_,_,rfl,_,_,rfl,rfl,?_⟩;dsimp only[zx];have S2:Same H1 (upd H1 o (.lst (r.map V.str))):=Same.lay ho;have e2:upd H1 o (.lst (r.map V.str)) o=some (.lst (r.map V.str)):=zd;show jJ _ _ _ _ (upd H1 o (.lst (r.map V.str)));generalize upd H1 o (.lst (r.map V.str))=H2 at S2 e2;have S12:=S1.trans S2;have hD2:=hD.same S12;obtain⟨dx,kvs,h1,_⟩:=id hD2;have hv:∀y:Str,decide (V.str v=V.str y)=decide (v=y):=fun y=>Rb.mpr ⟨fun h=>by injection h,fun h=>by rw[h]⟩;have pk:∀{rows':Rows},zdA C H x d rows' Q->zdA C H2 x d rows' Q:=fun k q H' hq e a b=>k q H' (S12.free hq) e a fun b' o e' hb=>b b' o (S12 _ _ e') hb;refine⟨_,rfl,rfl,_,rfl,?_⟩;rw[hv];rcases k with⟨n',ns,e,hn,hlen,hf,k⟩|⟨n',ns,pl,m,e,hg,hpl,hm,k⟩|⟨i,n',ns,is,R,e,hg,hb,hi,ha,hT,k⟩
  ·injection e with ea eb
   injection eb with eb ec
   subst ea eb ec;rw[Uy rfl];exact wm ⟨_,rfl,x,dx,_,rfl,h1,jY (by decide +kernel),_,rfl,_,rfl,x,d,o,_,ns,rows,rfl,hD2,ok,hn,e2,hlen,hf,pk k⟩
  ·injection e with ea eb
   injection eb with eb ec
   subst ea eb ec;rw[UE (by decide +kernel)];refine qz ⟨_,rfl,rfl,_,rfl,?_⟩;rw[hv,Uy rfl];exact wm ⟨_,rfl,x,dx,_,rfl,h1,jY (by decide +kernel),_,rfl,_,rfl,x,d,o,_,ns,pl,m,rows,rfl,hD2,ok,e2,hg,hpl,hm,pk k⟩
  ·injection e with ea eb
   injection eb with eb ec
   subst ea eb ec;obtain⟨w1,w2⟩:=zih i hi;rw[UE w1];refine qz ⟨_,rfl,rfl,_,rfl,?_⟩;rw[hv,UE w2];exact qz ⟨_,rfl,x,dx,_,rfl,h1,jY (by decide +kernel),_,rfl,_,rfl,_,rfl,x,d,o,i,_,ns,is,R,rows,rfl,hD2,ok,e2,hg,hb,hi,ha,hTb S12 hT,fun q zs H' hq hz e' n' t'=>k q zs H' (S12.free hq) hz e' (Nt.trans (Nt.of S12) n') t'⟩
def mkS (l:List Nat):Str:=⟨l.toArray⟩
def zkZ (l:List Nat):Prop:=1<=l.length/\l.length<=8/\∀c∈l,zbu c=true
theorem zd6 {l:List Nat}(h:zkZ l):isNm (mkS l)=true:=by
 unfold isNm;have e:(mkS l).length=l.length:=zaT _;rw[Uy (by rw[e];exact⟨h.1,h.2.1⟩)];exact OE.mpr h.2.2
theorem zav {r:Int}(h0:0<=r)(h1:r<26):∃c,zbu c=true/\atI c_LETTERS.cps.toList r=some c:=by
 obtain⟨j,rfl⟩:=Og h0;have hj:j<26:=by lia
 refine⟨97+j,by unfold zbu;exact Uy (by lia),qa ?_⟩;rw[show c_LETTERS.cps.toList=(List.range 26).map (97 + ·) by decide,Up,OJ hj];rfl
theorem mul_one (c:Nat)(n:Nat):(Txt.mul (⟨#[c]⟩:Str) (n:Int)).cps.toList=List.replicate n c:=by
 unfold Txt.mul
 match n with
 |0=>rfl
 |1=>rfl
 |n+2=>
  rw[Ur (by lia),Ur (by
   intro h;rcases Bool.or_eq_true_iff.mp h with h|h
   ·have:=eq_of_beq h;lia
   ·have:((1:Nat)==0)=true:=h
    cases this)]
  rw[zfQ,Ot];show(List.replicate (n+2) [c]).flatten=_;rw[List.flatten_replicate_singleton]
def zjH (K:Frag):Sp:=fun vs H Q _=>∃(a:Addr) (scr:List Int) (i:Nat),vs=[.ref a,.int (i:Int)]/\Scr K H a scr/\i<=4/\∀z H',isNm z=true->Same H H'->Q (.str z) H'
abbrev yS:Stmt:=top 69
theorem ZR:zt ["script","i","letters","pad","place","tail","sign","style"] ["script","i"] (zh yS):=fsc_
theorem zga (h:ws.length=8)(hn:∀w∈ws,isNm w=true)(hi:i<=4):∃z,atI (ws.map V.str) (i:Int)=some (.str z)/\isNm z=true:=by
 have hlt:i<ws.length:=by lia
 exact⟨ws[i],qa (by rw[Up,Ua hlt];rfl),hn _ (Of hlt)⟩
theorem zcp (F:Fun K "_law_name" "_law_name" yS f fd)(T:Txt mg)(Za:zK K mg "_law_draw" qF ["script","k"] f1 fd1)(Zd:FnOk P w K mg base CX0 1 f1 fd1 ["script","k"] (wR K)):FnOk P w K mg base CX0 2 f fd ["script","i"] (zjH K):=by
 refine F.ok ZR (fun vs H Q E h=>?_) (fun cdv A outer s H vs Q E hr h=>?_)
 ·obtain⟨a,scr,i,rfl,_⟩:=h;rfl
 ·obtain⟨a,scr,i,rfl,hS,hi,k⟩:=h;have hsl:=UV
  refine⟨_,(ze (zq (i:=2) ZR.nd rfl (Or.inl rfl) zQ)
   (ze (zq (i:=3) ZR.nd rfl (Or.inl rfl) (zz zdr (pv 2) (zk zS (zl Zd (hr.mono (by first|decide|exact Ub _)) rfl Za.mg Za.fn.kp Za.bd .nil zp (zb (pv 0) (zb zg zc))) zg) (fun _ _=>rfl)))
   (ze (zq (i:=4) ZR.nd rfl (Or.inl rfl) (zk zS (zl Zd (hr.mono (by first|decide|exact Ub _)) rfl Za.mg Za.fn.kp Za.bd .nil zp (zb (pv 0) (zb zg zc))) zg))
   (ze (zq (i:=5) ZR.nd rfl (Or.inl rfl) (zk zS (zl Zd (hr.mono (by first|decide|exact Ub _)) rfl Za.mg Za.fn.kp Za.bd .nil zp (zb (pv 0) (zb zg zc))) (zk qp zg (pv 4))))
   (ze (zq (i:=6) ZR.nd rfl (Or.inl rfl) (zz zdr (pv 2) (zk zS (zk zM (pv 1) (zl Zd (hr.mono (by first|decide|exact Ub _)) rfl Za.mg Za.fn.kp Za.bd .nil zp (zb (pv 0) (zb zg zc)))) zg) (fun _ _=>rfl)))
   (ze (zq (i:=7) ZR.nd rfl (Or.inl rfl) (zk zS (zl Zd (hr.mono (by first|decide|exact Ub _)) rfl Za.mg Za.fn.kp Za.bd .nil zp (zb (pv 0) (zb zg zc))) zg))
   (ze (z8 (PW.pt (kM (zw qU (pv 7) zg (zH _)) (ya (zw qU (pv 7) zg (zH _)))))
     (zj (zr (pv 6)))
     zL)
   (ze (z8 (PW.pt (vj (zw qU (pv 7) zg (zH _)) (jC (zw fE (pv 1) zg (zH _)))))
     (@zj _ _ _ (@zr _ _ _ _ (@zz _ _ _ _ _ _ _ (ixT (K:=K) rfl) (@qu _ _ _ _ _ (@zbg _ _ ["a","ab","ba","b","aba","bab","abc","cba"] rfl)) (pv 1) (fun _ _=>rfl))))
     zL)
   (ze (z8 (PW.pt (vj (zw qU (pv 7) zg (zH _)) (jC (zw fE (pv 1) zg (zH _)))))
     (@zj _ _ _ (@zr _ _ _ _ (@zz _ _ _ _ _ _ _ (ixT (K:=K) rfl) (@qu _ _ _ _ _ (@zbg _ _ ["row","lead","show","count","within","rest","apart","points"] rfl)) (pv 1) (fun _ _=>rfl))))
     zL)
   (zj (zr (zk zu (zk zu (zk zdX (pv 3) (pv 4)) (pv 6)) (zk zdX (pv 3) (pv 5)))))))))))))),?_⟩
  have cl:c_LETTERS.length=26:=by decide +kernel
  have hm:∀z:Int,0<=z%26/\z%26<26:=fun z=>mod_lt z 26 (by decide);refine⟨_,rfl,_,rfl,a,scr,0,rfl,hS,by decide,by decide,fun r0 H1 _ _ S1=>⟨_,_,rfl,rfl,(by show(0:Int)<_;decide),?_⟩⟩;obtain⟨c0,l0,a0⟩:=zav (hm r0).1 (hm r0).2;refine⟨c_LETTERS,_,_,rfl,rfl,by lia,a0,?_⟩;have⟨p0,p1⟩:=mod_lt r0 26 (by decide);refine⟨_,rfl,a,scr,1,rfl,hS.same S1,by decide,by decide,fun r1 H2 _ _ S2=>⟨_,_,rfl,rfl,(by show(0:Int)<_;decide),?_⟩⟩;have⟨q0,q1⟩:=mod_lt r1 8 (by decide);obtain⟨pl,hpl⟩:=Og q0;dsimp only[zx];rw[hpl];have hpl8:pl<8:=by lia
  refine⟨_,rfl,a,scr,2,rfl,(hS.same S1).same S2,by decide,by decide,fun r2 H3 _ _ S3=>⟨_,rfl,_,_,rfl,rfl,_,_,rfl,rfl,(by show(0:Int)<_;lia),?_⟩⟩;have⟨t0,t1⟩:=mod_lt r2 (8-(pl:Int)) (by lia);obtain⟨tl,htl⟩:=Og t0;dsimp only[zx];rw[htl];have htl8:pl+tl<8:=by lia
  refine⟨_,rfl,_,rfl,_,rfl,a,scr,9,rfl,((hS.same S1).same S2).same S3,by decide,by decide,fun r3 H4 _ _ S4=>⟨_,_,rfl,rfl,_,_,rfl,rfl,(by show(0:Int)<_;decide),?_⟩⟩;obtain⟨c1,l1,a1⟩:=zav (hm ((i:Int)+r3)).1 (hm ((i:Int)+r3)).2;refine⟨c_LETTERS,_,_,rfl,rfl,by lia,a1,?_⟩;refine⟨_,rfl,a,scr,8,rfl,(((hS.same S1).same S2).same S3).same S4,by decide,by decide,fun r4 H5 _ _ S5=>⟨_,_,rfl,rfl,(by show(0:Int)<_;decide),?_⟩⟩;dsimp only[zx];have S05:Same H H5:=(((S1.trans S2).trans S3).trans S4).trans S5;generalize r4%8=sy;have fin1:Q (.str ⟨#[c1]⟩) H5:=k (mkS [c1]) H5 (zd6 ⟨Ub 1,(by decide:1<=8),fun c hc=>by rw[Uz.mp hc];exact l1⟩) S05;refine⟨_,rfl,rfl,_,rfl,qB (fun e1=>wm ⟨_,rfl,fin1⟩) (fun e1=>⟨_,rfl,rfl,_,rfl,qB (fun e2=>⟨_,rfl,fin1⟩) (fun e2=>?_)⟩)⟩
  have tup:∀(ws:List Str),ws.length=8->(∀w∈ws,isNm w=true)->∀σ:St,σ[1]?=some (some (.int (i:Int)))->zjv (tOp (zfT K) (zjt fun σ H Q=>Q (ws.map V.str) H) (bR 1)) { nx:=fun _ H'=>Q .non H',rt:=Q } σ H5:=fun ws hw hn σ hσ=>by
   obtain⟨z,hz,hnm⟩:=zga hw hn hi;exact⟨by rw[Ud];lia,fun t ht=>⟨_,hσ,t,_,_,_,rfl,rfl,SqT.of zd,hz,k z _ hnm (S05.trans (Same.lay ht))⟩⟩
  refine⟨_,rfl,rfl,_,rfl,qB (fun e3=>⟨_,rfl,_,_,rfl,rfl,_,rfl,?_⟩) (fun e3=>qz ?_)⟩
  ·rw[Uy (show(i:Int)<8 by lia)];exact wm (tup _ rfl (by decide +kernel) _ rfl)
  refine⟨_,rfl,rfl,_,rfl,qB (fun e4=>⟨_,rfl,_,_,rfl,rfl,_,rfl,?_⟩) (fun e4=>qz ?_)⟩
  ·rw[Uy (show(i:Int)<8 by lia)];exact wm (tup _ rfl (by decide +kernel) _ rfl)
  have mul:=fun n:Nat=>mul_one c0 n;have lm:∀n:Nat,(Txt.mul (⟨#[c0]⟩:Str) (n:Int)).length=n:=fun n=>by rw[zaT,mul,RB]
  refine⟨_,rfl,_,rfl,_,_,rfl,rfl,by lia,by lia,by show 1<=1000;decide,_,rfl,_,_,rfl,rfl,by rw[lm];show pl+1<=sizeLine;lia,_,rfl,_,rfl,_,_,rfl,rfl,by lia,by lia,by show 1<=1000;decide,_,_,rfl,rfl,by rw[Uo,lm,lm];show pl+1+tl<=sizeLine;lia,?_⟩
  have e:Txt.mul (⟨#[c0]⟩:Str) (pl:Int)++(⟨#[c1]⟩:Str)++Txt.mul (⟨#[c0]⟩:Str) (tl:Int)=mkS (List.replicate pl c0++[c1]++List.replicate tl c0):=by
   refine xa ?_;rw[Um,Um,mul,mul];rfl
  rw[e];refine k _ H5 (zd6 ⟨?_,?_,fun c hc=>?_⟩) S05
  ·simp only[UD,RB,Uk,UM];lia
  ·simp only[UD,RB,Uk,UM];lia
  ·rcases UJ.mp hc with hc|hc
   ·rcases UJ.mp hc with hc|hc
    ·rw[(List.mem_replicate.mp hc).2];exact l0
    ·rw[Uz.mp hc];exact l1
   ·rw[(List.mem_replicate.mp hc).2];exact l0
def bestOf (b:Bool)(ps:List (Nat×Nat)):Option (Nat×Nat):=(pick (fun i k=>if b then decide (qg ps i<qg ps k) else decide (qg ps k<qg ps i)) ps.length).bind fun j=>ps[j]?
def yd (ps:List (Nat×Nat))(i:Nat):List Int:=(List.range i).map (qg ps)
theorem zcF (ps:List (Nat×Nat))(i:Nat):(yd ps ps.length).getD i 0=qg ps i:=by
 unfold yd
 by_cases h:i<ps.length
 ·simp[getD,Up,OJ h]
 ·have e1:((List.range ps.length).map (qg ps))[i]?=none:=by rw[TH];simp;lia
  have e2:ps[i]?=none:=by rw[TH];lia
  simp[getD,e1,qg,e2]
theorem zeH (b:Bool)(f:Nat->Int)(h:pick (fun i k=>if b then decide (f i<f k) else decide (f k<f i)) n=some j):∀i,i<j->f i≠f j:=by
 cases b with
 |true=>
  have:=(dm f (n:=n) (j:=j) h).2;exact fun i hi=>by have:=this i hi;lia
 |false=>
  have e:(fun i k=>if false then decide (f i<f k) else decide (f k<f i))=fun i k=>decide (-f i < -f k):=by
   funext i k;show decide (f k<f i)=decide (-f i < -f k);exact Rb.mpr ⟨fun h=>by lia,fun h=>by lia⟩
  have h':pick (fun i k=>decide (-f i < -f k)) n=some j:=by rw[<-e];exact h
  have:=(dm (fun i=>-f i) h').2;exact fun i hi=>by have:=this i hi;lia
theorem zag (hl:H l=some (.lst xs))(ht:TupsAt g2 H xs ps)(hn:ps.length<=1000000)(hacc:H acc=none)(k:∀(u1 u2:Option V) H',H' acc=some (.lst ((yd ps ps.length).map V.int))->Same H H'->N [u1,u2] H') :
 wI (Itl K l) (zhw K 2 (zaA (zx 0) (zaA (zx 1) zja))) zim (zcU acc (tOp (rI0 fun i j=>V.int (i-j)) (bR 1) (bR 0))) N [none,none] (upd H acc (.lst [])):=by
 refine qb (xs:=xs) (fun i σ H'=>∃(u1 u2:Option V),σ=[u1,u2]/\H' acc=some (.lst ((yd ps i).map V.int))/\Same H H') ⟨none,none,rfl,zd,Same.lay hacc⟩ ?_ ?_ ?_
 ·rintro i σ H' _ ⟨u1,u2,rfl,ha,S'⟩;exact SqL.of (S' _ _ hl)
 ·rintro i y σ H' hy ⟨u1,u2,rfl,ha,S'⟩;have hi:i<ps.length:=by rw[<-ht.1];exact(Ue.mp hy).1
  obtain⟨a,e1,e2⟩:=ht.2 i _ (Ua hi);rw[hy] at e1;cases e1;refine⟨a,_,rfl,SqT.of (S' _ _ e2),rfl,_,_,rfl,_,_,rfl,rfl,?_⟩;refine⟨_,rfl,_,rfl,_,_,rfl,rfl,_,ha,zO (by unfold yd;simp;lia),_,_,rfl,?_,fun b o e'=>by rw[zi (zf e' hacc)];exact S' b o e'⟩;rw[zd];unfold yd;rw[OY,Ux,Ux];have ek:qg ps i=((ps[i].2:Nat):Int)-((ps[i].1:Nat):Int):=by unfold qg;simp[getD,Ua hi]
  simp only[UL,Tz,ek]
 ·rintro σ H' ⟨u1,u2,rfl,ha,S'⟩;rw[ht.1] at ha;exact k u1 u2 H' ha S'
theorem zcT (b:Bool)(hp:0<ps.length)(ha:H acc=some (.lst ((yd ps ps.length).map V.int)))(k:∀(j:Nat) (hj:j<ps.length) H',bestOf b ps=some ps[j]->(∀i,i<j->qg ps i≠qg ps j)->Same H H'->Q (.int (qg ps j)) H'):zjQ K b [.ref acc] H Q:=by
 refine⟨acc,yd ps ps.length,rfl,SqL.of ha,by unfold yd;simpa using hp,fun H2 S2=>?_⟩
 have e:(fun i j=>if b then decide ((yd ps ps.length).getD i 0<(yd ps ps.length).getD j 0) else decide ((yd ps ps.length).getD j 0<(yd ps ps.length).getD i 0))=fun i k=>if b then decide (qg ps i<qg ps k) else decide (qg ps k<qg ps i):=by
  funext i j;rw[zcF,zcF]
 have hn:((yd ps ps.length).map V.int).length=ps.length:=by unfold yd;simp
 rw[e,hn]
 cases ep:pick (fun i k=>if b then decide (qg ps i<qg ps k) else decide (qg ps k<qg ps i)) ps.length with
 |none=>exact absurd (jm ep) (by lia)
 |some j=>
  have hj:=yp ep;have hget:∀i,i<ps.length->(yd ps ps.length)[i]?=some (qg ps i):=fun i hi=>by unfold yd;rw[Up,OJ hi];rfl
  intro x hx;rw[Up,hget j hj] at hx
  cases hx;refine k j hj H2 ?_ (fun i hi=>zeH b _ ep i hi) S2;unfold bestOf;rw[ep];exact Ua hj
theorem zdv {f:Nat->Int}{g:Nat->α}(hj:j<n)(h:∀i,i<j->f i≠f j):(((List.range n).filter fun t=>decide (f t=f j)).map g)[0]?=some (g j):=by
 have e:List.range n=List.range j++j::(List.range (n-j-1)).map (·+(j+1)):=by
  have h1:n=j+(1+(n-j-1)):=by lia
  conv=>lhs;rw[h1,List.range_add,List.range_add]
  simp[Nat.add_comm,Nat.add_left_comm]
 have e2:((List.range j).filter fun t=>decide (f t=f j))=[]:=List.filter_eq_nil_iff.mpr fun t ht=>by
  have:=h t (OD.mp ht);simpa using this
 rw[e,O0,e2,Tr,filter_cons,Uv (Uy rfl),UL];rfl
theorem zaf {m:Int}(hl:H l=some (.lst xs))(ht:TupsAt g2 H xs ps)(hn:ps.length<=1000000)(hacc:H acc=none)(k:∀(u:Option V) H',H' acc=some (.lst (((List.range ps.length).filter fun t=>decide (qg ps t=m)).map fun t=>xs.getD t .non))->Same H H'->N [u,some (.int m)] H') :
 wI (Itl K l) (zx 0) (zfs (tOp rEq (tOp (rI0 fun i j=>V.int (i-j)) (tOp (zfT K) (bR 0) (tC (V.int 1))) (tOp (zfT K) (bR 0) (tC (V.int 0)))) (bR 1))) (zcU acc (bR 0)) N [none,some (.int m)] (upd H acc (.lst [])):=by
 refine qb (xs:=xs) (fun i σ H'=>∃(u:Option V),σ=[u,some (.int m)]/\H' acc=some (.lst (((List.range i).filter fun t=>decide (qg ps t=m)).map fun t=>xs.getD t .non))/\Same H H') ⟨none,rfl,zd,Same.lay hacc⟩ ?_ ?_ ?_
 ·rintro i σ H' _ ⟨u,rfl,ha,S'⟩;exact SqL.of (S' _ _ hl)
 ·rintro i y σ H' hy ⟨u,rfl,ha,S'⟩;have hi:i<ps.length:=by rw[<-ht.1];exact(Ue.mp hy).1
  obtain⟨a,e1,e2⟩:=ht.2 i _ (Ua hi);have hy':=hy;rw[hy] at e1;cases e1;have ek:qg ps i=((ps[i].2:Nat):Int)-((ps[i].1:Nat):Int):=by unfold qg;simp[getD,Ua hi]
  have er:∀b:Bool,b=decide (qg ps i=m)->((List.range (i+1)).filter fun t=>decide (qg ps t=m))=((List.range i).filter fun t=>decide (qg ps t=m))++if b=true then[i] else[]:=fun b hb=>by
   rw[OY,O0,filter_cons,List.filter_nil,hb]
  have e3:=S' _ _ e2;refine⟨_,rfl,a,_,1,_,rfl,rfl,SqT.of e3,rfl,_,rfl,a,_,0,_,rfl,rfl,SqT.of e3,rfl,_,_,rfl,rfl,_,rfl,rfl,_,rfl,?_⟩;have ed:decide (V.int (((ps[i].2:Nat):Int)-((ps[i].1:Nat):Int))=V.int m)=decide (qg ps i=m):=Rb.mpr ⟨fun h=>by injection h with h;lia,fun h=>by rw[<-h,ek]⟩;rw[ed];refine qB (fun c=>?_) (fun c=>?_)
  ·refine⟨_,rfl,_,ha,zO (by rw[Ud];have:=UQ (fun t=>decide (qg ps t=m)) (List.range i);rw[TR] at this;lia),_,rfl,?_,fun b o e'=>by rw[zi (zf e' hacc)];exact S' b o e'⟩;rw[zd,er _ rfl,Uv c,Ux];have:xs.getD i .non=.ref a:=by unfold getD;rw[hy'];rfl
   rw[UL,this];rfl
  ·refine⟨_,rfl,?_,S'⟩;rw[er _ rfl,Ur c,Ol];exact ha
 ·rintro σ H' ⟨u,rfl,ha,S'⟩;rw[ht.1] at ha;exact k u H' ha S'
def zgT:Sp:=fun vs H Q _=>∃(t:Addr) (p:Nat×Nat),vs=[.ref t]/\H t=some (.tup (g2 p))/\pL p/\Q (.str (shP p)) H
def zaV:Sp:=fun vs H Q _=>∃(l:Addr) (xs:List V) (ps:List (Nat×Nat)),vs=[.ref l]/\H l=some (.lst xs)/\TupsAt g2 H xs ps/\ps.Pairwise pLt/\ps.length<=1000000/\(∀p∈ps,pL p/\p.1<p.2)/\∀q H',H q=none->qL H' q (gp ps)->Same H H'->Q (.ref q) H'
abbrev vI:Stmt:=top 70
theorem zcb:zt ["pair"] ["pair"] (zh vI):=fsc_
theorem zco (F:Fun K "_law_pair" "_law_pair" vI f fd)(T:Txt mg):FnOk P w K mg base CX0 1 f fd ["pair"] zgT:=by
 refine F.ok zcb (fun vs H Q E h=>?_) (fun cdv A outer s H vs Q E hr h=>?_)
 ·obtain⟨t,p,rfl,_⟩:=h;rfl
 ·obtain⟨t,p,rfl,ht,⟨h1,h2⟩,k⟩:=h;have hsl:=UV;refine⟨_,(zj (zr (zk zu (zk zu (zJ zN (by rfl) T.b_str PyProof.Rows.Boot.«str» (zb (zz (ixT (K:=K) rfl) (pv 0) zg (fun _ _=>rfl)) zc)) zQ) (zJ zN (by rfl) T.b_str PyProof.Rows.Boot.«str» (zb (zz (ixT (K:=K) rfl) (pv 0) zg (fun _ _=>rfl)) zc))))),?_⟩;have l1:=z9 (by decide) (jW h1);have l2:=z9 (by decide) (jW h2);have l3:blank.length=1:=rfl;exact⟨_,rfl,t,_,0,_,rfl,rfl,SqT.of ht,rfl,_,rfl,qc (jW h1),_,_,rfl,rfl,by show(zy p.1).length+blank.length<=sizeLine;lia,_,rfl,t,_,1,_,rfl,rfl,SqT.of ht,rfl,_,rfl,qc (jW h2),_,_,rfl,rfl,by rw[Uo];show(zy p.1).length+blank.length+(zy p.2).length<=sizeLine;lia,k⟩
abbrev qD:Stmt:=top 71
theorem Z8:zt ["pairs","most","least","longest","shortest"] ["pairs"] (zh qD):=fsc_
theorem zbo (F:Fun K "_law_three" "_law_three" qD f fd)(T:Txt mg)(Zg:zK K mg "_law_pair" vI ["pair"] f1 fd1)(ZJ:FnOk P w K mg base CX0 1 f1 fd1 ["pair"] zgT):FnOk P w K mg base CX0 2 f fd ["pairs"] zaV:=by
 refine F.ok Z8 (fun vs H Q E h=>?_) (fun cdv A outer s H vs Q E hr h=>?_)
 ·obtain⟨l,xs,ps,rfl,_⟩:=h;rfl
 ·obtain⟨l,xs,ps,rfl,hl,ht,hs,hn,hlow,k⟩:=h;have hsl:=UV;have hu:=hr.units0
  refine⟨_,(ze (z8 (zw (zf4 (K:=K) rfl hu) (pv 0) (zR zc) (zH _))
   (zj (zr (zR (zb zQ (zb zQ (zb zQ (zb zQ zc)))))))
   zL)
   (ze (zq (i:=1) Z8.nd rfl (Or.inr rfl) (zv (zjg false (K:=K) rfl rfl) (by rfl) T.b_max PyProof.Rows.Boot.«max» (zb (qf (N:=["low","high"]) (cap:=[none,none]) rfl (show qh ["pairs","most","least","longest","shortest"] (zh qD) ["low","high"] [none,none] _=true by decide +kernel) (piL (K:=K) rfl (pv 0)) (fun cl C s3 H3 fp=>⟨(pgT (K:=K) (n:=2) rfl rfl (zI (zo (i:=0) (show(["low","high"]:List Str).Nodup by decide +kernel) rfl (Or.inl rfl)) (zI (zo (i:=1) (show(["low","high"]:List Str).Nodup by decide +kernel) rfl (Or.inl rfl)) qm))),qe,fun it acc=>(zP rfl (zk qp (pv 1) (pv 0)))⟩)) zc)))
   (ze (zq (i:=2) Z8.nd rfl (Or.inr rfl) (zv (zjg true (K:=K) rfl rfl) (by rfl) T.b_min PyProof.Rows.Boot.«min» (zb (qf (N:=["low","high"]) (cap:=[none,none]) rfl (show qh ["pairs","most","least","longest","shortest"] (zh qD) ["low","high"] [none,none] _=true by decide +kernel) (piL (K:=K) rfl (pv 0)) (fun cl C s3 H3 fp=>⟨(pgT (K:=K) (n:=2) rfl rfl (zI (zo (i:=0) (show(["low","high"]:List Str).Nodup by decide +kernel) rfl (Or.inl rfl)) (zI (zo (i:=1) (show(["low","high"]:List Str).Nodup by decide +kernel) rfl (Or.inl rfl)) qm))),qe,fun it acc=>(zP rfl (zk qp (pv 1) (pv 0)))⟩)) zc)))
   (ze (zq (i:=3) Z8.nd rfl (Or.inl rfl) (zz (ixL (K:=K) rfl) (qf (N:=["pair","most"]) (cap:=[none,some 1]) rfl (show qh ["pairs","most","least","longest","shortest"] (zh qD) ["pair","most"] [none,some 1] _=true by decide +kernel) (piL (K:=K) rfl (pv 0)) (fun cl C s3 H3 fp=>⟨(zo (i:=0) (show(["pair","most"]:List Str).Nodup by decide +kernel) rfl (Or.inl rfl)),(xm (zw qU (zk qp (zz (ixT (K:=K) rfl) (pv 0) zg (fun _ _=>rfl)) (zz (ixT (K:=K) rfl) (pv 0) zg (fun _ _=>rfl))) (pv 1) (zH _))),fun it acc=>(zP rfl (pv 0))⟩)) zg (fun _ _=>rfl)))
   (ze (zq (i:=4) Z8.nd rfl (Or.inl rfl) (zz (ixL (K:=K) rfl) (qf (N:=["pair","least"]) (cap:=[none,some 2]) rfl (show qh ["pairs","most","least","longest","shortest"] (zh qD) ["pair","least"] [none,some 2] _=true by decide +kernel) (piL (K:=K) rfl (pv 0)) (fun cl C s3 H3 fp=>⟨(zo (i:=0) (show(["pair","least"]:List Str).Nodup by decide +kernel) rfl (Or.inl rfl)),(xm (zw qU (zk qp (zz (ixT (K:=K) rfl) (pv 0) zg (fun _ _=>rfl)) (zz (ixT (K:=K) rfl) (pv 0) zg (fun _ _=>rfl))) (pv 1) (zH _))),fun it acc=>(zP rfl (pv 0))⟩)) zg (fun _ _=>rfl)))
   (zj (zr (zR (zb (zJ zN (by rfl) T.b_str PyProof.Rows.Boot.«str» (zb (zv (jh (K:=K) rfl) (by rfl) T.b_len PyProof.Rows.Boot.«len» (zb (pv 0) zc)) zc)) (zb (zl ZJ (hr.mono (by first|decide|exact Ub _)) rfl Zg.mg Zg.fn.kp Zg.bd .nil zp (zb (zz (ixL (K:=K) rfl) (pv 0) zg (fun _ _=>rfl)) zc)) (zb (zl ZJ (hr.mono (by first|decide|exact Ub _)) rfl Zg.mg Zg.fn.kp Zg.bd .nil zp (zb (pv 3) zc)) (zb (zl ZJ (hr.mono (by first|decide|exact Ub _)) rfl Zg.mg Zg.fn.kp Zg.bd .nil zp (zb (pv 4) zc)) zc)))))))))))),?_⟩
  refine⟨_,rfl,by show 0<=sizeLine;lia,fun l0 hl0=>?_⟩;have S0:Same H (upd H l0 (.lst [])):=Same.lay hl0;refine⟨l,l0,xs,rfl,rfl,SqL.of (S0 _ _ hl),SqL.of zd,_,rfl,qB (fun e=>?_) (fun e=>?_)⟩
  ·have e0:xs=[]:=List.isEmpty_iff.mp e;have ep:ps=[]:=List.length_eq_zero_iff.mp (by rw[<-ht.1,e0];rfl);subst ep;refine⟨by show 4<=sizeLine;lia,fun q hq=>k q _ (S0.free hq) ?_ (S0.trans (Same.lay hq))⟩;show upd _ q _ q=_;rw[zd,show gp []=([("0":Str),("-":Str),("-":Str),("-":Str)]:List Str) by decide +kernel];rfl
  have hp:0<ps.length:=by
   rw[<-ht.1]
   cases xs with
   |nil=>exact absurd rfl e
   |cons _ _=>simp
  generalize upd H l0 (.lst [])=H0 at S0 ⊢;clear hl0 e;have hl':=S0 _ _ hl;have ht':=ht.mono fun b zs e=>S0 _ _ e;refine⟨_,rfl,l,rfl,⟨_,SqL.of hl'⟩,fun a1 ha1=>zag hl' ht' hn ha1 fun u1 u2 H1 e1 S1=>?_⟩;refine zcT false hp e1 fun j1 hj1 H2 b1 f1' S2=>?_;dsimp only[zx];have S02:=S1.trans S2;have hl2:=S02 _ _ hl';have ht2:=ht'.mono fun b zs e=>S02 _ _ e;refine⟨_,rfl,l,rfl,⟨_,SqL.of hl2⟩,fun a2 ha2=>zag hl2 ht2 hn ha2 fun u3 u4 H3 e3 S3=>?_⟩;refine zcT true hp e3 fun j2 hj2 H4 b2 f2' S4=>?_;dsimp only[zx];have S24:=S3.trans S4;have hl4:=S24 _ _ hl2;have ht4:=ht2.mono fun b zs e=>S24 _ _ e
  have pick:∀(j:Nat) (hj:j<ps.length) (acc:Addr) (H5:Hp),(∀i,i<j->qg ps i≠qg ps j)->H5 acc=some (.lst (((List.range ps.length).filter fun t=>decide (qg ps t=qg ps j)).map fun t=>xs.getD t .non))->Same H4 H5->∃a,atI (((List.range ps.length).filter fun t=>decide (qg ps t=qg ps j)).map fun t=>xs.getD t .non) 0=some (.ref a)/\H5 a=some (.tup (g2 ps[j])):=fun j hj acc H5 hf e5 S5=>by
   obtain⟨a,e1,e2⟩:=ht4.2 j _ (Ua hj);refine⟨a,qa (j:=0) ?_,S5 _ _ e2⟩;rw[zdv hj hf];unfold getD;rw[e1];rfl
  refine⟨_,rfl,l,rfl,⟨_,SqL.of hl4⟩,fun a3 ha3=>zaf hl4 ht4 hn ha3 fun u5 H5 e5 S5=>?_⟩;obtain⟨q1,p1,p2⟩:=pick j1 hj1 a3 H5 f1' e5 S5;refine⟨a3,_,_,_,rfl,rfl,SqL.of e5,p1,?_⟩;dsimp only[zx];have hl5:=S5 _ _ hl4;have ht5:=ht4.mono fun b zs e=>S5 _ _ e;refine⟨_,rfl,l,rfl,⟨_,SqL.of hl5⟩,fun a4 ha4=>zaf hl5 ht5 hn ha4 fun u6 H6 e6 S6=>?_⟩;obtain⟨q2,p3,p4⟩:=pick j2 hj2 a4 H6 f2' e6 (S5.trans S6);refine⟨a4,_,_,_,rfl,rfl,SqL.of e6,p3,?_⟩;dsimp only[zx];have S06:=((S02.trans S24).trans S5).trans S6;have hl6:=S06 _ _ hl';obtain⟨q0,p5,p6⟩:=ht'.2 0 _ (Ua hp);have low:∀(j:Nat) (hj:j<ps.length),pL ps[j]:=fun j hj=>(hlow _ (Of hj)).1
  have hn6:((xs.length:Nat):Int).natAbs<10^15:=by
   rw[Ow,ht.1];exact Om hn (by decide)
  refine⟨_,rfl,l,_,rfl,.inl (SqL.of hl6),_,rfl,qc hn6,_,rfl,l,_,0,_,rfl,rfl,SqL.of hl6,qa (j:=0) p5,q0,ps[0],rfl,S06 _ _ p6,low 0 hp,_,rfl,q1,ps[j1],rfl,S6 _ _ p2,low j1 hj1,_,rfl,q2,ps[j2],rfl,p4,low j2 hj2,by show 4<=sizeLine;lia,fun q hq=>k q _ (S0.free (S06.free hq)) ?_ (S0.trans (S06.trans (Same.lay hq)))⟩;show upd _ q _ q=_;rw[zd];have g0:firstOf ps=some ps[0]:=Ua hp;have g1:xD ps=some ps[j1]:=b1;have g3:jQ ps=some ps[j2]:=b2;unfold gp;rw[g0,g1,g3,ht.1];rfl
theorem zfn (t:Int):wb t t=eqT t:=by
 funext s;show(decide (t<=s)&&decide (s<=t))=decide (s=t)
 by_cases e:s=t
 ·subst e;rw[Uy (RQ s),Uy rfl];rfl
 ·rw[UE e,Np]
  by_cases h:t<=s
  ·exact .inr (UE (by lia))
  ·exact .inl (UE h)
theorem zgc:∀(l:List Int) (x:Int),∃z∈x::l,∀y∈x::l,y<=z
 |[],x=>⟨x,Ug ..,fun y hy=>by rw[Uz.mp hy];exact RQ _⟩
 |a::l,x=>by
  obtain⟨z,hz,h⟩:=zgc l a
  by_cases e:x<=z
  ·exact⟨z,Uh _ hz,fun y hy=>by
    rcases Uw.mp hy with rfl|hy
    ·exact e
    ·exact h y hy⟩
  ·exact⟨x,Ug ..,fun y hy=>by
    rcases Uw.mp hy with rfl|hy
    ·exact RQ _
    ·have:=h y hy;lia⟩
theorem fJ {α:Type}{φ:α->Prop}:∀{l:List α},(∃p∈l,φ p)->∃l1 p l2,l=l1++p::l2/\φ p/\∀q∈l1,¬φ q
 |[],h=>by obtain⟨p,hp,_⟩:=h;cases hp
 |x::l,h=>by
  by_cases e:φ x
  ·exact⟨[],x,l,rfl,e,fun q hq=>by cases hq⟩
  ·obtain⟨p,hp,hq⟩:=h;rcases Uw.mp hp with rfl|hp
   ·exact absurd hq e
   ·obtain⟨l1,p,l2,e1,e2,e3⟩:=fJ ⟨p,hp,hq⟩;refine⟨x::l1,p,l2,by rw[e1];rfl,e2,fun q hq=>?_⟩;rcases Uw.mp hq with rfl|hq
    ·exact e
    ·exact e3 q hq
def xv (B:Nat->α)(m:Nat)(L:α):Nat->α:=fun j=>if j=m then L else B j
theorem TupsAt.cons {g:α->List V}{p:α}{ps:List α}(ha:H a=some (.tup (g p)))(h:TupsAt g H xs ps):TupsAt g H (.ref a::xs) (p::ps):=by
 refine⟨by rw[Uk,Uk,h.1],fun i q e=>?_⟩
 cases i with
 |zero=>cases e;exact⟨a,rfl,ha⟩
 |succ i=>exact h.2 i q e
theorem TupsAt.uncons {g:α->List V}{zs:List V}{p:α}{ps:List α}(h:TupsAt g H zs (p::ps)):∃a zs',zs=.ref a::zs'/\H a=some (.tup (g p))/\TupsAt g H zs' ps:=by
 obtain⟨a,e1,e2⟩:=h.2 0 p rfl
 cases zs with
 |nil=>cases e1
 |cons z zs'=>
  cases e1;exact⟨a,zs',rfl,e2,by have:=h.1;simpa using this,fun i q e=>h.2 (i+1) q e⟩
theorem zgC (HO:Hits n hs):∃f,Bst n hs xu f:=by
 have key:∀k,k<=n->∃f,BstFrom n hs xu f (n-k):=by
  intro k
  induction k with
  |zero=>exact fun _=>⟨_,BstFrom.none _ _ _⟩
  |succ k ih=>
   intro hk;obtain⟨f,hf⟩:=ih (by lia);obtain⟨m,hm⟩:∃m,m=n-(k+1):=⟨_,rfl⟩;rw[show n-k=m+1 by lia] at hf;rw[<-hm];obtain⟨z,hz,h⟩:=zgc ((evl hs m).map fun x=>1+f x) (f (m+1));refine⟨_,hf.step HO (by lia) (z:=z) (h _ (Ug ..)) (fun x hx=>h _ (Uh _ (U6.mpr ⟨x,hx,rfl⟩))) ?_⟩;rcases Uw.mp hz with e|e
   ·exact .inl e
   ·obtain⟨x,hx,e⟩:=U6.mp e;exact .inr ⟨x,hx,e.symm⟩
 obtain⟨f,hf⟩:=key n (Ub _);rw[Ry] at hf;exact⟨f,hf⟩
def jE (f:Nat->Int)(hs:List (Nat×Nat))(a:Nat):List (Nat×Nat):=(hs.foldl (qt f) ([],a)).1
theorem xt {f:Nat->Int}(HO:Hits n hs)(hf:Bst n hs xu f){a:Nat}(ha:a<=n):(∀c∈jE f hs a,c∈hs/\a<=c.1)/\Chn (jE f hs a)/\((jE f hs a).length:Int)=f a:=by
 obtain⟨cs,c1,c2,c3,c4⟩:=bI HO hf hs [] [] a rfl ha fun p hp _ _=>hp;rw[Tr] at c1;rw[show jE f hs a=cs from c1];exact⟨c2,c3,c4⟩
theorem zcR {f:Nat->Int}{g:Nat->Int}(HO:Hits n hs)(hf:Bst n hs xu f)(hg:Bst n hs xu g){a:Nat}(ha:a<=n):f a=g a:=by
 obtain⟨a1,a2,a3⟩:=xt HO hf ha;obtain⟨b1,b2,b3⟩:=xt HO hg ha;have h1:=bH HO hg _ a ha a2 a1;have h2:=bH HO hf _ a ha b2 b1;lia
theorem zgH {f:Nat->Int}{g:Nat->Int}(HO:Hits n hs)(hf:Bst n hs xu f)(hg:Bst n hs xu g):apt f hs=apt g hs:=by
 have go:∀(t acc:List (Nat×Nat)) (a:Nat),a<=n->(∀p∈t,p∈hs)->t.foldl (qt f) (acc,a)=t.foldl (qt g) (acc,a):=by
  intro t
  induction t with
  |nil=>intro _ _ _ _;rfl
  |cons p t ih=>
   intro acc a ha ht;have hp:=(HO.mem p (ht p (Ug ..))).2
   have e:qt f (acc,a) p=qt g (acc,a) p:=by
    unfold qt;rw[zcR HO hf hg hp,zcR HO hf hg (show(acc,a).2<=n from ha)]
   rw[Oz,Oz,e]
   obtain⟨acc',a',e2,h2⟩:∃acc' a',qt g (acc,a) p=(acc',a')/\a'<=n:=by
    unfold qt;split
    ·exact⟨_,_,rfl,hp⟩
    ·exact⟨_,_,rfl,ha⟩
   rw[e2];exact ih acc' a' h2 fun q hq=>ht q (Uh _ hq)
 exact go hs [] 0 (UI _) fun p hp=>hp
theorem bJ (f:Nat->Int):∀(l acc:List (Nat×Nat)) (a:Nat),(l.foldl (qt f) (acc,a)).1=acc++(l.foldl (qt f) ([],a)).1
 |[],acc,a=>by simp
 |p::l,acc,a=>by
  rw[Oz,Oz]
  by_cases z:a<=p.1/\1+f p.2=f a
  ·rw[show qt f (acc,a) p=(acc++[p],p.2) from Uv z,show qt f ([],a) p=([]++[p],p.2) from Uv z,bJ f l (acc++[p]),bJ f l ([]++[p])];simp
  ·rw[show qt f (acc,a) p=(acc,a) from Ur z,show qt f ([],a) p=([],a) from Ur z];exact bJ f l acc a
theorem pE (f:Nat->Int):∀(l acc:List (Nat×Nat)) (a:Nat),(∀p∈l,¬(a<=p.1/\1+f p.2=f a))->l.foldl (qt f) (acc,a)=(acc,a)
 |[],_,_,_=>rfl
 |p::l,acc,a,h=>by
  rw[Oz,show qt f (acc,a) p=(acc,a) from Ur (h p (Ug ..))];exact pE f l acc a fun q hq=>h q (Uh _ hq)
theorem zaM (f:Nat->Int){a b:Nat}:∀(l acc:List (Nat×Nat)),(∀p∈l,(a<=p.1/\1+f p.2=f a)↔(b<=p.1/\1+f p.2=f b))->(l.foldl (qt f) (acc,a)).1=(l.foldl (qt f) (acc,b)).1
 |[],_,_=>rfl
 |p::l,acc,h=>by
  rw[Oz,Oz];have hp:=h p (Ug ..)
  by_cases z:a<=p.1/\1+f p.2=f a
  ·rw[show qt f (acc,a) p=(acc++[p],p.2) from Uv z,show qt f (acc,b) p=(acc++[p],p.2) from Uv (hp.mp z)]
  ·rw[show qt f (acc,a) p=(acc,a) from Ur z,show qt f (acc,b) p=(acc,b) from Ur fun y=>z (hp.mpr y)];exact zaM f l acc fun q hq=>h q (Uh _ hq)
theorem pF {f:Nat->Int}(HO:Hits n hs)(hf:Bst n hs xu f){a:Nat}(ha:a<n) :
 (∃h1,(a,h1)∈hs/\(∀x,(a,x)∈hs->h1<=x)/\f a=1+f h1/\jE f hs a=(a,h1)::jE f hs h1)∨(f a=f (a+1)/\jE f hs a=jE f hs (a+1)/\∀x,(a,x)∈hs->1+f x<f a):=by
 by_cases hx:∃x,(a,x)∈hs/\1+f x=f a
 ·left;obtain⟨x,hx,ex⟩:=hx;obtain⟨l1,p,l2,e,hp,hl1⟩:=fJ (φ:=fun p:Nat×Nat=>p.1=a) ⟨_,hx,rfl⟩;obtain⟨p1,h1⟩:=p;obtain rfl:p1=a:=hp;have mp:(p1,h1)∈hs:=by rw[e];simp
  have hin:=HO.mem _ mp;have so:=HO.sorted;rw[e] at so;obtain⟨s1,s2,s3⟩:=U5.mp so
  have low1:∀q∈l1,q.1<p1:=fun q hq=>by
   rcases s3 q hq _ (Ug ..) with z|z
   ·exact z
   ·exact absurd z.1 (hl1 q hq)
  have least:∀y,(p1,y)∈hs->h1<=y:=fun y hy=>by
   rw[e] at hy;rcases UJ.mp hy with z|z
   ·exact absurd rfl (hl1 _ z)
   ·rcases Uw.mp z with z|z
    ·injection z with _ z;lia
    ·rcases(UY.mp s2).1 _ z with q|q
     ·exact absurd q (O4 _)
     ·exact RS q.2
  have e1:=zbH HO hf mp (Ub p1);have e2:=gv hf x (least x hx) (HO.mem _ hx).2
  have ef:f p1=1+f h1:=by
   have:1+f h1<=f p1:=e1;lia
  refine⟨h1,mp,least,ef,?_⟩;have q1:∀b,p1<=b->∀q∈l1,¬(b<=q.1/\1+f q.2=f b):=fun b hb q hq z=>by have:=low1 q hq;lia
  unfold jE;rw[e,NS,NS,pE f l1 [] p1 (q1 p1 (Ub _)),pE f l1 [] h1 (q1 h1 (RS hin.1)),Oz,Oz];rw[show qt f ([],p1) (p1,h1)=([]++[(p1,h1)],h1) from Uv ⟨Ub _,ef.symm⟩];rw[show qt f ([],h1) (p1,h1)=([],h1) from Ur fun z=>by have:h1<=p1:=z.1;have:p1<h1:=hin.1;lia];rw[bJ];rfl
 ·right;obtain⟨b1,b2,b3⟩:=hf.2 a (UI _) ha
  have ef:f a=f (a+1):=by
   rcases b3 with e|⟨x,hx',e⟩
   ·exact e
   ·exact absurd ⟨x,(qC HO hx').2.2,e.symm⟩ hx
  refine⟨ef,?_,fun x hm=>?_⟩
  ·unfold jE;refine zaM f hs [] fun p hp=>?_;rw[ef];refine⟨fun z=>⟨?_,z.2⟩,fun z=>⟨by lia,z.2⟩⟩
   by_cases e:p.1=a
   ·exfalso;refine hx ⟨p.2,?_,by rw[ef];exact z.2⟩;rw[<-e];exact hp
   ·lia
  ·have h1:1+f x<=f a:=zbH HO hf hm (Ub a);have h2:1+f x≠f a:=fun z=>hx ⟨x,hm,z⟩;lia
theorem zfh {f:Nat->Int}(HO:Hits n hs)(hf:Bst n hs xu f):jE f hs n=[]:=by
 have:=(xt HO hf (Ub n)).2.2;rw[hf.1] at this;exact Tf (by lia)
structure LstsAt (H:Hp)(l:Addr)(as:List Addr)(B:Nat->List (Nat×Nat)):Prop where
 self:H l=some (.lst (as.map V.ref))
 each:∀(i:Nat) (a:Addr),as[i]?=some a->a≠l/\∃xs,H a=some (.lst xs)/\TupsAt g2 H xs (B i)
theorem LstsAt.same (h:LstsAt H l as B)(s:Same H H'):LstsAt H' l as B:=
 ⟨s _ _ h.self,fun i a e=>by
  obtain⟨h1,xs,h2,h3⟩:=h.each i a e;exact⟨h1,xs,s _ _ h2,h3.mono (qi s)⟩⟩
theorem LstsAt.get (h:LstsAt H l as B)(hi:i<as.length):∃a xs,(as.map V.ref)[i]?=some (.ref a)/\a≠l/\H a=some (.lst xs)/\TupsAt g2 H xs (B i):=by
 have e:=Ua hi;obtain⟨h1,xs,h2,h3⟩:=h.each i _ e;exact⟨as[i],xs,by rw[Up,e];rfl,h1,h2,h3⟩
theorem LstsAt.put (h:LstsAt H l as B){s:Addr}{L:List (Nat×Nat)}(ns:s≠l)(hs:H s=some (.lst xs))(ht:TupsAt g2 H xs L) :
 LstsAt (upd H l (.lst ((as.map V.ref).set m (.ref s)))) l (as.set m s) (xv B m L):=by
 have kt:∀(a:Addr) (zs:List V),H a=some (.tup zs)->upd H l (.lst ((as.map V.ref).set m (.ref s))) a=some (.tup zs):=qY h.self;refine⟨by rw[zd,map_set],fun i a e=>?_⟩;rw[R6] at e
 by_cases hi:m=i
 ·subst hi;rw[Uv rfl] at e;split at e
  ·cases e;exact⟨ns,xs,by rw[zi ns];exact hs,by rw[show xv B m L m=L from Uv rfl];exact ht.mono kt⟩
  ·cases e
 ·rw[Ur hi] at e;obtain⟨h1,ys,h2,h3⟩:=h.each i a e;exact⟨h1,ys,by rw[zi h1];exact h2,by rw[show xv B m L i=B i from Ur (OO hi)];exact h3.mono kt⟩
def zb5:Sp:=fun vs H Q _=>∃(p:Addr) (ns:List Int) (tot:Int),vs=[.ref p,.int tot]/\RowAt H p ns/\ns.length<=60/\∀q xs f H',Bst ns.length (zm ns (eqT tot)) xu f->H' q=some (.lst xs)->TupsAt g2 H' xs (apt f (zm ns (eqT tot))).1->Same H H'->Q (.ref q) H'
def p8 (hs:List (Nat×Nat))(low:Nat):Prop:=∃p∈hs,p.1=low
theorem hasL_snoc {low:Nat}:p8 (hs++[p]) low↔p8 hs low∨p.1=low:=by
 constructor
 ·rintro⟨q,hq,e⟩;rcases UJ.mp hq with h|h
  ·exact .inl ⟨q,h,e⟩
  ·rw[Uz.mp h] at e;exact .inr e
 ·rintro(⟨q,hq,e⟩|e)
  ·exact⟨q,UR _ hq,e⟩
  ·exact⟨p,UF _ (Uz.mpr rfl),e⟩
abbrev qM:Stmt:=top 72
theorem Zm:zt ["row","total","with_it","best","low","some","one","high","found"] ["row","total"] (zh qM):=fsc_
def ifA (p wi bs:Addr)(tot:Int)(n:Nat)(F:Nat->List (Nat×Nat))(H2:Hp)(i:Nat)(σ:St)(H':Hp):Prop:=∃(v4 v5 v6 v7 v8:Option V) (as:List Addr) (B:Nat->List (Nat×Nat)),σ=[some (.ref p),some (.int tot),some (.ref wi),some (.ref bs),v4,v5,v6,v7,v8]/\as.length=n+1/\LstsAt H' bs as B/\(∀j,n-i<=j->j<=n->B j=F j)/\Kp bs H2 H'
def ifB (p wi bs:Addr)(tot:Int)(m:Nat)(F:Nat->List (Nat×Nat))(hs:List (Nat×Nat))(H3:Hp)(j:Nat)(σ:St)(H':Hp):Prop:=∃(v6 v7 v8:Option V) (sr:Addr) (zs:List V) (L:List (Nat×Nat)),σ=[some (.ref p),some (.int tot),some (.ref wi),some (.ref bs),some (.int (m:Int)),some (.ref sr),v6,v7,v8]/\sr≠bs/\H' sr=some (.lst zs)/\TupsAt g2 H' zs L/\((p8 (hs.take j) m/\L=F m)∨(¬p8 (hs.take j) m/\L=F (m+1)))/\Same H3 H'
theorem y6 (F:Fun K "_law_first_apart" "_law_first_apart" qM f fd)(T:Txt mg)(Zi:zK K mg "_law_with" jK ["row","low_sum","high_sum"] f1 fd1)(ZO:FnOk P w K mg base CX0 2 f1 fd1 ["row","low_sum","high_sum"] bU) :
 FnOk P w K mg base CX0 3 f fd ["row","total"] zb5:=by
 refine F.ok Zm (fun vs H Q E h=>?_) (fun cdv A outer s H vs Q E hr h=>?_)
 ·obtain⟨p,ns,tot,rfl,_⟩:=h;rfl
 ·obtain⟨p,ns,tot,rfl,hp,hl60,k⟩:=h;have hu:=hr.units0;have hu2:=Om (Rl (show 1<=64 by decide) _) hr.units;have hsl:=UV;have hlm:(ns.map V.int).length=ns.length:=Ud _;have HO:=jg ns tot;obtain⟨f,hB⟩:=zgC HO
  refine⟨_,(ze (zq (i:=2) Zm.nd rfl (Or.inl rfl) (zl ZO (hr.mono (by first|decide|exact Ub _)) rfl Zi.mg Zi.fn.kp Zi.bd .nil zp (zb (pv 0) (zb (pv 1) (zb (pv 1) zc)))))
   (ze (qH (i:=3) (hN:=Zm.nd) (hy:=rfl) (hx:=rfl) (N:=["k"]) (cap:=[none]) (hc:=rfl) (hok:=(show qh ["row","total","with_it","best","low","some","one","high","found"] (zh qM) ["k"] [none] _=true by decide +kernel) ) (hi:=(jO (by rfl) T.b_range (zb (zk zM (zv (jh (K:=K) rfl) (by rfl) T.b_len PyProof.Rows.Boot.«len» (zb (pv 0) zc)) zg) zc))) (hb:=fun cl C s3 H3 fp=>⟨(zo (i:=0) (show(["k"]:List Str).Nodup by decide +kernel) rfl (Or.inl rfl)),qe,fun it acc=>(zP rfl (zR zc))⟩))
   (ze (qI U7 rfl (zao (by rfl) T.b_range (zb (zk qp (zv (jh (K:=K) rfl) (by rfl) T.b_len PyProof.Rows.Boot.«len» (zb (pv 0) zc)) zg) (zb (kT xU zg) (zb (kT xU zg) zc)))) (zo (i:=4) Zm.nd rfl (Or.inl rfl))
     (ze (zq (i:=5) Zm.nd rfl (Or.inl rfl) (zz (ixL (K:=K) rfl) (pv 3) (zk zM (pv 4) zg) (fun _ _=>rfl)))
     (ze (qI U7 rfl (piL (K:=K) rfl (pv 2)) (pgT (K:=K) (n:=2) rfl rfl (zI (zo (i:=6) Zm.nd rfl (Or.inl rfl)) (zI (zo (i:=7) Zm.nd rfl (Or.inl rfl)) qm)))
       (zj (z8 (PW.pt (vj (zw qU (pv 6) (pv 4) (zH _)) (jC (zw zh1 (zk zM (zv (jh (K:=K) rfl) (by rfl) T.b_len PyProof.Rows.Boot.«len» (zb (zz (ixL (K:=K) rfl) (pv 3) (pv 7) (fun _ _=>rfl)) zc)) zg) (zv (jh (K:=K) rfl) (by rfl) T.b_len PyProof.Rows.Boot.«len» (zb (pv 5) zc)) (zH _)))))
         (ze (zq (i:=8) Zm.nd rfl (Or.inl rfl) (zk vR (zR (zb (qu (zb (pv 4) (zb (pv 7) zc))) zc)) (zz (ixL (K:=K) rfl) (pv 3) (pv 7) (fun _ _=>rfl))))
         (zj (z8 (PW.pt (kM (zw zas (zv (jh (K:=K) rfl) (by rfl) T.b_len PyProof.Rows.Boot.«len» (zb (pv 8) zc)) (zv (jh (K:=K) rfl) (by rfl) T.b_len PyProof.Rows.Boot.«len» (zb (pv 5) zc)) (zH _)) (ya (zw (zjX (K:=K) rfl hu2) (pv 8) (pv 5) (zH _)))))
           (zj (zq (i:=5) Zm.nd rfl (Or.inl rfl) (pv 8)))
           zL)))
         zL)))
     (zj (xB (pv 5) (dv (pv 3) (pv 4) set_list))))))
   (zj (zr (zz (ixL (K:=K) rfl) (pv 3) zg (fun _ _=>rfl))))))),?_⟩
  refine⟨_,rfl,_,rfl,_,rfl,p,ns,tot,tot,rfl,hp,hl60,fun wi xs H1 _ hwi ht S1=>?_⟩;rw[zfn] at ht;dsimp only[zx];have hp1:=S1 _ _ hp.1;refine⟨_,rfl,p,_,rfl,.inr (SqT.of hp1),_,_,rfl,rfl,_,rfl,by lia,by lia,fun bs hbs=>?_⟩;rw[show(((ns.map V.int).length:Int)+1).toNat=ns.length+1 by lia];refine xT (fun i σ H'=>∃(v:Option V) (as:List Addr),σ=[v]/\LLNew H1 H' bs as i) ⟨none,[],rfl,LLNew.start hbs⟩ ?_ ?_
  ·rintro i σ H' hi ⟨v,as,rfl,N⟩;exact⟨by show 0<=sizeLine;decide,fun q hq=>⟨_,(zi (zf N.self hq)).trans N.self,zO (by rw[Ud,N.len];lia),_,_,rfl,N.more hbs hq⟩⟩
  rintro σ H2 ⟨v,as,rfl,N⟩;have hasl:as.length=ns.length+1:=N.len;have L2:LstsAt H2 bs as (fun _=>[]):=⟨N.self,fun i a e=>⟨(N.each a (Uu e)).2.2,[],(N.each a (Uu e)).1,TupsAt.nil⟩⟩;have S2:=N.same;clear N;have hwi2:=S2 _ _ hwi;have ht2:=ht.mono (qi S2);have nwi:wi≠bs:=zf hwi hbs;dsimp only[zx];refine⟨_,rfl,p,_,rfl,.inr (SqT.of (S2 _ _ hp1)),_,_,rfl,rfl,1,rfl,1,rfl,_,_,rfl,⟨by lia,by lia,by decide,by decide⟩,?_⟩;have en:(((ns.map V.int).length:Int)-1 - -1).toNat=ns.length:=by lia
  rw[en];generalize hhs:zm ns (eqT tot)=hs at HO hB ht2 k;refine kc (n:=ns.length) (ifA p wi bs tot ns.length (jE f hs) H2) ?_ ?_ ?_
  ·refine⟨none,none,none,none,none,as,_,rfl,hasl,L2,fun j h1 h2=>?_,Kp.refl _⟩;have:j=ns.length:=by lia
   subst this;exact(zfh HO hB).symm
  ·rintro i σ H3 hi ⟨v4,v5,v6,v7,v8,as,B,rfl,hasl,L3,hBj,k3⟩;obtain⟨m,hm⟩:∃m:Nat,m=ns.length-1-i:=⟨_,rfl⟩;have em:((ns.map V.int).length:Int)-1+(i:Int) * -1=(m:Int):=by lia
   rw[em];have hBm:∀j,m<j->j<=ns.length->B j=jE f hs j:=fun j h1 h2=>hBj j (by lia) h2;obtain⟨s0,x0,a1,a2,a3,a4⟩:=L3.get (i:=m+1) (by lia);rw[hBm (m+1) (by lia) (by lia)] at a4;dsimp only[zx];refine⟨_,rfl,_,rfl,_,_,rfl,rfl,bs,_,_,_,rfl,rfl,SqL.of L3.self,(show atI (as.map V.ref) ((m:Int)+1)=some (.ref s0) from qa (j:=m+1) a1),?_⟩;dsimp only[zx];refine⟨_,rfl,wi,rfl,⟨_,SqL.of (k3 _ _ hwi2 nwi)⟩,?_⟩;refine j8 (xs:=xs) (ifB p wi bs tot m (jE f hs) hs H3) ?_ ?_ ?_ ?_
   ·exact⟨v6,v7,v8,s0,x0,_,rfl,a2,a3,a4,.inr ⟨fun⟨q,hq,_⟩=>(nomatch (show q∈([]:List (Nat×Nat)) from hq)),rfl⟩,Same.refl _⟩
   ·rintro j σ H' _ ⟨v6,v7,v8,sr,zs,L,rfl,n1,n2,n3,n4,S'⟩;exact SqL.of (S' _ _ (k3 _ _ hwi2 nwi))
   ·rintro j x σ H4 hx ⟨v6,v7,v8,sr,zs,L,rfl,n1,n2,n3,n4,S4⟩;have ht4:TupsAt g2 H4 xs hs:=(k3.tups L2.self ht2).mono (qi S4);have hj:j<hs.length:=by rw[<-ht4.1];exact(Ue.mp hx).1
    obtain⟨a,e1,e2⟩:=ht4.2 j _ (Ua hj);rw[hx] at e1;have e1:x=.ref a:=UK e1;subst e1;obtain⟨⟨lo,hi'⟩,hpr⟩:∃pr,hs[j]=pr:=⟨_,rfl⟩;rw[hpr] at e2;have hg:hs[j]?=some (lo,hi'):=by rw[Ua hj,hpr]
    have hmem:(lo,hi')∈hs:=Uu hg;obtain⟨m1,m2⟩:lo<hi'/\hi'<=ns.length:=HO.mem (lo,hi') hmem;have L4:=L3.same S4;have tk:hs.take (j+1)=hs.take j++[(lo,hi')]:=take_succ hg;refine⟨a,_,rfl,SqT.of e2,rfl,_,_,rfl,_,_,rfl,rfl,?_⟩;refine⟨_,rfl,_,rfl,rfl,_,rfl,qB (fun e=>?_) (fun e=>qz ?_)⟩;rotate_left
    ·have ne:¬lo=m:=fun z=>e (Uy (by rw[z]));refine⟨_,_,v8,sr,zs,L,rfl,n1,n2,n3,?_,S4⟩;rw[tk];rcases n4 with⟨z1,z2⟩|⟨z1,z2⟩
     ·exact .inl ⟨hasL_snoc.mpr (.inl z1),z2⟩
     ·exact .inr ⟨fun z=>(hasL_snoc.mp z).elim z1 ne,z2⟩
    have elo:lo=m:=by
     have:=U0 e;injection this with this
     lia
    subst elo;obtain⟨bh,xh,b1,b2,b3,b4⟩:=L4.get (i:=hi') (by lia);rw[hBm hi' m1 m2] at b4;have lh:(xh.length:Int)=f hi':=by rw[b4.1];exact(xt HO hB m2).2.2
    have lm1:=(xt HO hB (show lo+1<=ns.length by lia));have lm0:=(xt HO hB (show lo<=ns.length by lia));have anti:=(hB.2 lo (UI _) (by lia)).1;have hge:1+f hi'<=f lo:=zbH HO hB hmem (Ub lo);have cs:=pF HO hB (show lo<ns.length by lia);have f0:=zbG hB m2
    have stay:L=jE f hs lo->∀(H':Hp) (v8':Option V),Same H4 H'->∃(v6 v7 v8:Option V) (sr':Addr) (zs':List V) (L':List (Nat×Nat)),[some (V.ref p),some (.int tot),some (.ref wi),some (.ref bs),some (.int (lo:Int)),some (.ref sr),some (.int (lo:Int)),some (.int (hi':Int)),v8']=[some (V.ref p),some (.int tot),some (.ref wi),some (.ref bs),some (.int (lo:Int)),some (.ref sr'),v6,v7,v8]/\sr'≠bs/\H' sr'=some (.lst zs')/\TupsAt g2 H' zs' L'/\((p8 (hs.take (j+1)) lo/\L'=jE f hs lo)∨(¬p8 (hs.take (j+1)) lo/\L'=jE f hs (lo+1)))/\Same H3 H':=fun eL H' v8' S'=>
     ⟨_,_,_,sr,zs,L,rfl,n1,S' _ _ n2,n3.mono (qi S'),.inl ⟨by rw[tk];exact hasL_snoc.mpr (.inr rfl),eL⟩,S4.trans S'⟩
    have lz:(zs.length:Int)=(L.length:Int):=by rw[n3.1]
    have first:¬p8 (hs.take j) lo->∀y,(lo,y)∈hs->hi'<=y:=fun hn y hy=>by
     obtain⟨t,ht',et⟩:=OB hy
     have htj:j<=t:=by
      rcases Nat.lt_or_ge t j with z|z
      ·exact absurd ⟨(lo,y),by rw[<-et];exact Uu (i:=t) (by rw[TZ z,Ua ht']),rfl⟩ hn
      ·exact z
     rcases Nat.eq_or_lt_of_le htj with z|z
     ·subst z;rw[hpr] at et;injection et with _ et
      lia
     ·have:=Oh.mp HO.sorted j t hj ht' z;rw[hpr,et] at this;rcases this with z|z
      ·exact absurd z (O4 _)
      ·exact RS z.2
    have later:p8 (hs.take j) lo->∃y,(lo,y)∈hs/\y<hi':=fun⟨q,hq,eq⟩=>by
     obtain⟨t,ht',et⟩:=OB hq;rw[UA] at ht';rw[NR] at et;have:=Oh.mp HO.sorted t j (by lia) hj (by lia);rw[hpr,et] at this;refine⟨q.2,by rw[<-eq];exact RL hq,?_⟩;rcases this with z|z
     ·have:q.1<lo:=z;lia
     ·exact z.2
    refine⟨_,rfl,_,rfl,bs,_,_,_,rfl,rfl,SqL.of L4.self,qa (j:=hi') b1,bh,_,rfl,.inl (SqL.of b3),_,_,rfl,rfl,_,rfl,sr,_,rfl,.inl (SqL.of n2),_,_,rfl,rfl,_,rfl,qB (fun e3=>?_) (fun e3=>?_)⟩;rotate_left
    ·have e3:¬(zs.length:Int)<=(xh.length:Int)+1:=fun z=>e3 (Uy z);refine stay ?_ H4 v8 (Same.refl _);rcases n4 with⟨z1,z2⟩|⟨z1,z2⟩
     ·exact z2
     ·rw[z2] at lz;rcases cs with⟨h1,c1,c2,c3,c4⟩|⟨c1,c2,c3⟩
      ·have:=c2 _ hmem;have:=first z1 h1 c1
       have:h1=hi':=by lia
       subst this;lia
      ·rw[z2,c2]
    have e3:(zs.length:Int)<=(xh.length:Int)+1:=U0 e3;refine⟨_,rfl,_,rfl,by show 2<=sizeLine;lia,fun tp htp=>⟨by show 1<=sizeLine;lia,fun l1 hl1=>?_⟩⟩;have S5:Same H4 (upd (upd H4 tp (.tup [.int (lo:Int),.int (hi':Int)])) l1 (.lst [.ref tp])):=(Same.lay htp).trans (Same.lay hl1);have e5:upd (upd H4 tp (.tup [.int (lo:Int),.int (hi':Int)])) l1 (.lst [.ref tp]) l1=some (.lst [.ref tp]):=zd;have etp:upd (upd H4 tp (.tup [.int (lo:Int),.int (hi':Int)])) l1 (.lst [.ref tp]) tp=some (.tup (g2 (lo,hi'))):=(zi (zf zd hl1)).trans zd;show tOp _ _ _ _ (upd (upd H4 tp (.tup [.int (lo:Int),.int (hi':Int)])) l1 (.lst [.ref tp])) _;generalize upd (upd H4 tp (.tup [.int (lo:Int),.int (hi':Int)])) l1 (.lst [.ref tp])=H5 at S5 e5 etp ⊢;refine⟨_,rfl,_,rfl,bs,_,_,_,rfl,rfl,SqL.of (S5 _ _ L4.self),qa (j:=hi') b1,l1,bh,_,_,rfl,rfl,e5,S5 _ _ b3,size_le (by simp only[Uk,UM];rw[b4.1];have:=(xt HO hB m2).2.1;have:=yw HO this (fun c hc=>((xt HO hB m2).1 c hc).1);lia),fun fo hfo=>?_⟩;have S6:Same H5 (upd H5 fo (.lst ([.ref tp]++xh))):=Same.lay hfo;have e6:upd H5 fo (.lst ([.ref tp]++xh)) fo=some (.lst (.ref tp::xh)):=zd;have nfo:fo≠bs:=fun z=>by rw[z,S5 _ _ L4.self] at hfo;cases hfo
    dsimp only[zx];generalize upd H5 fo (.lst ([.ref tp]++xh))=H6 at S6 e6 ⊢;have S46:=S5.trans S6
    have t6:TupsAt g2 H6 (.ref tp::xh) ((lo,hi')::jE f hs hi'):=by
     have:=TupsAt.cons (g:=g2) (p:=(lo,hi')) (S6 _ _ etp) (b4.mono (qi S46));exact this
    have take:(lo,hi')::jE f hs hi'=jE f hs lo->∃(v6 v7 v8:Option V) (sr':Addr) (zs':List V) (L':List (Nat×Nat)),[some (V.ref p),some (.int tot),some (.ref wi),some (.ref bs),some (.int (lo:Int)),some (.ref fo),some (.int (lo:Int)),some (.int (hi':Int)),some (.ref fo)]=[some (V.ref p),some (.int tot),some (.ref wi),some (.ref bs),some (.int (lo:Int)),some (.ref sr'),v6,v7,v8]/\sr'≠bs/\H6 sr'=some (.lst zs')/\TupsAt g2 H6 zs' L'/\((p8 (hs.take (j+1)) lo/\L'=jE f hs lo)∨(¬p8 (hs.take (j+1)) lo/\L'=jE f hs (lo+1)))/\Same H3 H6:=fun eL=>
     ⟨_,_,_,fo,_,_,rfl,nfo,e6,t6,.inl ⟨by rw[tk];exact hasL_snoc.mpr (.inr rfl),eL⟩,S4.trans S46⟩
    refine⟨_,rfl,fo,_,rfl,.inl (SqL.of e6),_,rfl,sr,_,rfl,.inl (SqL.of (S46 _ _ n2)),_,_,rfl,rfl,_,rfl,?_⟩;have lfo:((V.ref tp::xh).length:Int)=1+f hi':=by rw[Uk];lia
    rcases n4 with⟨z1,z2⟩|⟨z1,z2⟩
    ·
     rw[z2] at lz;obtain⟨y,hy,ylt⟩:=later z1;rcases cs with⟨h1,c1,c2,c3,c4⟩|⟨c1,c2,c3⟩
     rotate_left
     ·have:=c3 _ hmem;lia
     have hy1:=c2 _ hy;refine qB (fun e7=>?_) (fun e7=>?_)
     ·have e7:(zs.length:Int)<((V.ref tp::xh).length:Int):=U0 e7;lia
     ·rw[z2,c4] at n3;obtain⟨tq,zs',rfl,q1,q2⟩:=TupsAt.uncons n3;refine⟨_,rfl,_,rfl,fo,sr,tp,tq,_,_,(lo:Int),(hi':Int),(lo:Int),(h1:Int),rfl,rfl,SqL.of e6,SqL.of (S46 _ _ n2),SqT.of (S6 _ _ etp),SqT.of (S46 _ _ q1),?_,_,rfl,?_⟩
      ·rw[show((hi':Int)==(h1:Int))=false from U4.mpr (by lia)];exact R7 _
      ·rw[HT.lexLt_cons,Uv rfl,zdo,UE (by lia)];exact qz (stay (by rw[z2]) H6 (some (.ref fo)) S46)
    ·
     rw[z2] at lz;have least:=first z1
     have eL:(lo,hi')::jE f hs hi'=jE f hs lo:=by
      rcases cs with⟨h1,c1,c2,c3,c4⟩|⟨c1,c2,c3⟩
      ·have:=c2 _ hmem;have:=least h1 c1;have:h1=hi':=by lia
       subst this;exact c4.symm
      ·have:=c3 _ hmem;lia
     refine qB (fun e7=>wm ⟨_,rfl,take eL⟩) (fun e7=>?_);have e7:¬(zs.length:Int)<((V.ref tp::xh).length:Int):=fun z=>e7 (Uy z);rw[z2] at n3
     have key:jE f hs (lo+1)=[]∨∃q t,jE f hs (lo+1)=q::t:=by
      cases jE f hs (lo+1) with
      |nil=>exact .inl rfl
      |cons q t=>exact .inr ⟨q,t,rfl⟩
     rcases key with ec|⟨q,t,ec⟩
     ·rw[ec] at lz;simp only[UM] at lz;lia
     ·have hq:=(lm1.1 q (by rw[ec];exact Ug ..)).2;rw[ec] at n3;obtain⟨tq,zs',rfl,q1,q2⟩:=TupsAt.uncons n3;refine⟨_,rfl,_,rfl,fo,sr,tp,tq,_,_,(lo:Int),(hi':Int),(q.1:Int),(q.2:Int),rfl,rfl,SqL.of e6,SqL.of (S46 _ _ n2),SqT.of (S6 _ _ etp),SqT.of (S46 _ _ q1),?_,_,rfl,?_⟩
      ·rw[show((lo:Int)==(q.1:Int))=false from U4.mpr (by lia)];exact RP _
      ·rw[HT.lexLt_cons,Ur (by lia),Uy (by lia)];exact wm ⟨_,rfl,take eL⟩
   ·rintro σ H4 ⟨v6,v7,v8,sr,zs,L,rfl,n1,n2,n3,n4,S4⟩;have L4:=L3.same S4
    have eL:L=jE f hs m:=by
     rcases n4 with⟨z1,z2⟩|⟨z1,z2⟩
     ·exact z2
     ·rw[ht2.1,US] at z1;rcases pF HO hB (show m<ns.length by lia) with⟨h1,c1,_⟩|⟨c1,c2,c3⟩
      ·exact absurd ⟨_,c1,rfl⟩ z1
      ·rw[z2,c2]
    refine⟨_,rfl,_,rfl,_,rfl,bs,_,_,m,rfl,rfl,L4.self,yt (by rw[Ud];lia),?_⟩;refine⟨_,_,_,_,_,as.set m sr,xv B m L,rfl,by rw[Ts];exact hasl,L4.put n1 n2 n3,fun j h1 h2=>?_,(k3.trans (Kp.of S4)).wr⟩
    by_cases ej:j=m
    ·subst ej;rw[show xv B j L j=L from Uv rfl,eL]
    ·rw[show xv B m L j=B j from Ur ej];exact hBm j (by lia) h2
  ·rintro σ H3 ⟨v4,v5,v6,v7,v8,as,B,rfl,hasl,L3,hBj,k3⟩;obtain⟨s0,x0,a1,a2,a3,a4⟩:=L3.get (i:=0) (by lia);rw[hBj 0 (by lia) (by lia)] at a4;exact⟨_,rfl,bs,_,0,_,rfl,rfl,SqL.of L3.self,qa (j:=0) a1,k s0 x0 f H3 hB a3 a4 (Kp.same (S1.trans S2) (S1.free hbs) k3)⟩
def vl (n:Nat)(fs:Nat->V):List V:=(List.range n).map fs
theorem bO (n:Nat)(fs:Nat->V):(vl n fs).length=n:=by unfold vl;rw[Ud,TR]
theorem zcX (fs:Nat->V)(h:j<n):(vl n fs)[j]?=some (fs j):=by unfold vl;rw[Up,OJ h];rfl
theorem kC (fs:Nat->V)(h:j<n):atI (vl n fs) (j:Int)=some (fs j):=qa (zcX fs h)
theorem zfp (n m:Nat)(fs:Nat->V)(v:V):(vl n fs).set m v=vl n (xv fs m v):=by
 apply OV;intro j;rw[R6,bO]
 by_cases hj:j<n
 ·rw[zcX _ hj,zcX _ hj]
  by_cases e:m=j
  ·subst e;rw[Uv rfl,Uv hj,show xv fs m v m=v from Uv rfl]
  ·rw[Ur e,show xv fs m v j=fs j from Ur (OO e)]
 ·rw[OM (l:=vl n (xv fs m v)) (by rw[bO];lia)]
  by_cases e:m=j
  ·subst e;rw[Uv rfl,Ur hj]
  ·rw[Ur e,OM (by rw[bO];lia)]
theorem zbU {fs gs:Nat->V}(h:∀j,j<n->fs j=gs j):vl n fs=vl n gs:=NG fun j hj=>h j (OD.mp hj)
theorem zfP (v u:V)(n:Nat):(List.replicate n [v]).flatten++[u]=vl (n+1) (fun j=>if j=n then u else v):=by
 have e:∀m,(List.replicate m [v]).flatten=(List.range m).map fun _=>v:=by
  intro m
  induction m with
  |zero=>rfl
  |succ m ih=>rw[List.replicate_succ',List.flatten_append,ih,OY,Ux];rfl
 unfold vl;rw[e,OY,Ux];congr 1
 ·exact NG fun j hj=>(Ur (by have:=OD.mp hj;lia)).symm
 ·simp
def FirAt (H:Hp)(mn fr:Addr)(v:V):Option (List (Nat×Nat))->Prop
 |none=>v=.non
 |some L=>∃a xs,v=.ref a/\a≠mn/\a≠fr/\H a=some (.lst xs)/\TupsAt g2 H xs L
theorem FirAt.same {o:Option (List (Nat×Nat))}(h:FirAt H mn fr v o)(s:Same H H'):FirAt H' mn fr v o:=by
 cases o with
 |none=>exact h
 |some L=>
  obtain⟨a,xs,e1,e2,e3,e4,e5⟩:=h;exact⟨a,xs,e1,e2,e3,s _ _ e4,e5.mono (qi s)⟩
theorem FirAt.kl {o:Option (List (Nat×Nat))}{m1 f1:List V}(h:FirAt H mn fr v o)(s:Kl [mn,fr] H H')(hm:H mn=some (.lst m1))(hf:H fr=some (.lst f1)):FirAt H' mn fr v o:=by
 cases o with
 |none=>exact h
 |some L=>
  obtain⟨a,xs,e1,e2,e3,e4,e5⟩:=h;refine⟨a,xs,e1,e2,e3,s _ _ e4 (by simp[e2,e3]),e5.mono fun b zs e=>s _ _ e ?_⟩;have n1:b≠mn:=qE e hm (by intro z;cases z);have n2:b≠fr:=qE e hf (by intro z;cases z);simp[n1,n2]
def zdM:Sp:=fun vs H Q _=>∃(p:Addr) (ns:List Int) (tot:Int),vs=[.ref p,.int tot]/\RowAt H p ns/\ns.length<=60/\∀tp q xs H',H' tp=some (.tup [.int (zT ns tot 0),.ref q])->H' q=some (.lst xs)->TupsAt g2 H' xs ((vt ns tot).getD [])->Same H H'->Q (.ref tp) H'
theorem d7 {lo:Nat}:evl (hs++[(lo,hi)]) m=evl hs m++if lo=m then[hi] else[]:=by
 unfold evl;rw[O0,Ux];congr 1
 by_cases e:lo=m
 ·rw[Uv e,Rm (by simpa using e)];rfl
 ·rw[Ur e,T7 (by simpa using e)];rfl
abbrev vH:Stmt:=top 73
theorem Zu:zt ["row","total","with_it","many","first","low","one","high","found"] ["row","total"] (zh vH):=fsc_
theorem xW {t:TS}(h:∀u':TS,u'=u->t { D with nx:=u' D } σ H):jJ t u D σ H:=h u rfl
theorem zU {t:TS}(e:u=jJ t r)(k:t { D with nx:=r D } σ H):u D σ H:=by subst e;exact k
theorem wU {u0 t:TS}(e:u0=jJ t u)(I:St->Hp->Prop)(rest:∀σ' H',I σ' H'->u D σ' H')(h:∀u':TS,(∀σ' H',I σ' H'->u' D σ' H')->t { D with nx:=u' D } σ H):u0 D σ H:=by subst e;exact h u rest
theorem zgY {t2:TS}(k:∀a b c d:TS,a=jJ t2 b->b=jJ t3 c->c=jJ t4 d->d=r->t1 { D with nx:=a D } σ H):jJ t1 (jJ t2 (jJ t3 (jJ t4 r))) D σ H:=k _ _ _ _ rfl rfl rfl rfl
theorem ziw {t2 t5 t6 t7:TS}(k:∀a b c d e f g:TS,a=jJ t2 b->b=jJ t3 c->c=jJ t4 d->d=jJ t5 e->e=jJ t6 f->f=jJ t7 g->g=r->t1 { D with nx:=a D } σ H):jJ t1 (jJ t2 (jJ t3 (jJ t4 (jJ t5 (jJ t6 (jJ t7 r)))))) D σ H:=k _ _ _ _ _ _ _ rfl rfl rfl rfl rfl rfl rfl
theorem pG {P:α->Prop}(h:∀x,P x):∀x,P x:=h
def ipA (p wi mn fr:Addr)(tot:Int)(n:Nat)(hs:List (Nat×Nat))(C:Nat->Option (List (Nat×Nat)))(H3:Hp)(i:Nat)(σ:St)(H':Hp):Prop:=∃(v5 v6 v7 v8:Option V) (g:Nat->Int) (fs:Nat->V) (o:Nat->Option (List (Nat×Nat))),σ=[some (.ref p),some (.int tot),some (.ref wi),some (.ref mn),some (.ref fr),v5,v6,v7,v8]/\H' mn=some (.lst (vl (n+1) fun j=>.int (g j)))/\H' fr=some (.lst (vl (n+1) fs))/\(∀j,j<=n->FirAt H' mn fr (fs j) (o j))/\(∀j,n-i<=j->j<=n->g j=qo n hs j/\o j=C j)/\(∀j,j<n-i->g j=0/\o j=none)/\Kl [mn,fr] H3 H'
def ipB (p wi mn fr:Addr)(tot:Int)(n:Nat)(hs:List (Nat×Nat))(C:Nat->Option (List (Nat×Nat)))(H3:Hp)(m t:Nat)(σ:St)(H':Hp):Prop:=∃(v6 v7 v8:Option V) (g:Nat->Int) (fs:Nat->V) (o:Nat->Option (List (Nat×Nat))),σ=[some (.ref p),some (.int tot),some (.ref wi),some (.ref mn),some (.ref fr),some (.int (m:Int)),v6,v7,v8]/\H' mn=some (.lst (vl (n+1) fun j=>.int (g j)))/\H' fr=some (.lst (vl (n+1) fs))/\(∀j,j<=n->FirAt H' mn fr (fs j) (o j))/\(∀j,m<j->j<=n->g j=qo n hs j/\o j=C j)/\(∀j,j<m->g j=0/\o j=none)/\g m=((evl (hs.take t) m).map (qo n hs)).sum/\((o m=none/\∀q∈hs.take t,q.1=m->¬0<qo n hs q.2)∨(∃x,(evg n hs m).head?=some x/\(m,x)∈hs.take t/\o m=some (chn n hs m)))/\Kl [mn,fr] H3 H'
theorem bg (F:Fun K "_law_partings" "_law_partings" vH f fd)(T:Txt mg)(Zi:zK K mg "_law_with" jK ["row","low_sum","high_sum"] f1 fd1)(ZO:FnOk P w K mg base CX0 2 f1 fd1 ["row","low_sum","high_sum"] bU) :
 FnOk P w K mg base CX0 3 f fd ["row","total"] zdM:=by
 refine F.ok Zu (fun vs H Q E h=>?_) (fun cdv A outer s H vs Q E hr h=>?_)
 ·obtain⟨p,ns,tot,rfl,_⟩:=h;rfl
 ·obtain⟨p,ns,tot,rfl,hp,hl60,k⟩:=h;have hu:=hr.units0;have hu2:=Om (Rl (show 1<=64 by decide) _) hr.units;have hsl:=UV;have hlm:(ns.map V.int).length=ns.length:=Ud _;have HO:=jg ns tot
  refine⟨_,(ze (zq (i:=2) Zu.nd rfl (Or.inl rfl) (zl ZO (hr.mono (by first|decide|exact Ub _)) rfl Zi.mg Zi.fn.kp Zi.bd .nil zp (zb (pv 0) (zb (pv 1) (zb (pv 1) zc)))))
   (ze (zq (i:=3) Zu.nd rfl (Or.inl rfl) (zk vR (zk zbh (zR (zb zg zc)) (zv (jh (K:=K) rfl) (by rfl) T.b_len PyProof.Rows.Boot.«len» (zb (pv 0) zc))) (zR (zb zg zc))))
   (ze (zq (i:=4) Zu.nd rfl (Or.inl rfl) (zk vR (zk zbh (zR (zb xC zc)) (zv (jh (K:=K) rfl) (by rfl) T.b_len PyProof.Rows.Boot.«len» (zb (pv 0) zc))) (zR (zb (zR zc) zc))))
   (ze (qI U7 rfl (zao (by rfl) T.b_range (zb (zk qp (zv (jh (K:=K) rfl) (by rfl) T.b_len PyProof.Rows.Boot.«len» (zb (pv 0) zc)) zg) (zb (kT xU zg) (zb (kT xU zg) zc)))) (zo (i:=5) Zu.nd rfl (Or.inl rfl))
     (zj (qI U7 rfl (piL (K:=K) rfl (pv 2)) (pgT (K:=K) (n:=2) rfl rfl (zI (zo (i:=6) Zu.nd rfl (Or.inl rfl)) (zI (zo (i:=7) Zu.nd rfl (Or.inl rfl)) qm)))
       (zj (z8 (PW.pt (vj (zw qU (pv 6) (pv 5) (zH _)) (jC (zw zas (zz (ixL (K:=K) rfl) (pv 3) (pv 7) (fun _ _=>rfl)) zg (zH _)))))
         (ze (xB (zk zM (zz (ixL (K:=K) rfl) (pv 3) (pv 5) (fun _ _=>rfl)) (zz (ixL (K:=K) rfl) (pv 3) (pv 7) (fun _ _=>rfl))) (dv (pv 3) (pv 5) set_list))
         (ze (zq (i:=8) Zu.nd rfl (Or.inl rfl) (zk vR (zR (zb (qu (zb (pv 5) (zb (pv 7) zc))) zc)) (zz (ixL (K:=K) rfl) (pv 4) (pv 7) (fun _ _=>rfl))))
         (zj (z8 (PW.pt (kM (zw zbi (zz (ixL (K:=K) rfl) (pv 4) (pv 5) (fun _ _=>rfl)) xC (zH _)) (ya (zw (zjX (K:=K) rfl hu2) (pv 8) (zz (ixL (K:=K) rfl) (pv 4) (pv 5) (fun _ _=>rfl)) (zH _)))))
           (zj (xB (pv 8) (dv (pv 4) (pv 5) set_list)))
           zL))))
         zL)))))
   (zj (zr (qu (zb (zz (ixL (K:=K) rfl) (pv 3) zg (fun _ _=>rfl)) (zb (ziK (K:=K) rfl (zz (ixL (K:=K) rfl) (pv 4) zg (fun _ _=>rfl)) (zbc (zR zc))) zc))))))))),?_⟩
  refine xW fun uz hz=>?_;refine⟨_,rfl,_,rfl,_,rfl,p,ns,tot,tot,rfl,hp,hl60,fun wi xs H1 _ hwi ht S1=>?_⟩;rw[zfn] at ht;dsimp only[zx];subst hz;refine xW fun uz hz=>?_;have hp1:=S1 _ _ hp.1;refine⟨by show 1<=sizeLine;decide,fun l1 h1=>⟨_,rfl,p,_,rfl,.inr (SqT.of ((zi (zf hp1 h1)).trans hp1)),l1,_,_,rfl,rfl,zd,by lia,by lia,size_le (by rw[hlm];simp only[Uk,UM];lia),fun l2 h2=>?_⟩⟩;refine⟨by show 1<=sizeLine;decide,fun l3 h3=>⟨l2,l3,_,_,rfl,rfl,(zi (zf zd h3)).trans zd,zd,size_le ?_,fun mn hmn=>?_⟩⟩
  ·rw[len_rep,hlm];simp only[Uk,UM];lia
  have A1:Same H1 (upd H1 l1 (.lst [.int 0])):=Same.lay h1;have A2:=A1.trans (Same.lay (o:=.lst (List.replicate ((ns.map V.int).length:Int).toNat [V.int 0]).flatten) h2);have A3:=A2.trans (Same.lay (o:=.lst [.int 1]) h3)
  have e0:(List.replicate ((ns.map V.int).length:Int).toNat [V.int 0]).flatten++[V.int 1]=vl (ns.length+1) (fun j=>.int (W0 ns.length j)):=by
   rw[hlm,Ot,zfP];exact zbU fun j _=>by unfold W0;split<;>rfl
  rw[e0];have S2:=A3.trans (Same.lay (o:=.lst (vl (ns.length+1) (fun j=>.int (W0 ns.length j)))) hmn);have nmn:H1 mn=none:=A3.free hmn;have hmn2:=zd (H:=upd (upd (upd H1 l1 (.lst [.int 0])) l2 (.lst (List.replicate ((ns.map V.int).length:Int).toNat [V.int 0]).flatten)) l3 (.lst [.int 1])) (a:=mn) (o:=.lst (vl (ns.length+1) (fun j=>.int (W0 ns.length j))));show uz _ _ (upd (upd (upd (upd H1 l1 (.lst [.int 0])) l2 (.lst (List.replicate ((ns.map V.int).length:Int).toNat [V.int 0]).flatten)) l3 (.lst [.int 1])) mn (.lst (vl (ns.length+1) (fun j=>.int (W0 ns.length j)))));generalize upd (upd (upd (upd H1 l1 (.lst [.int 0])) l2 (.lst (List.replicate ((ns.map V.int).length:Int).toNat [V.int 0]).flatten)) l3 (.lst [.int 1])) mn (.lst (vl (ns.length+1) (fun j=>.int (W0 ns.length j))))=H2 at S2 hmn2 ⊢;revert H2;refine pG ?_;intro H2 S2 hmn2;subst hz;refine xW fun uz hz=>?_;clear A1 A2 A3 e0 hmn h1 h2 h3;have hp2:=S2 _ _ hp1;refine⟨by show 1<=sizeLine;decide,fun l1 h1=>⟨_,rfl,p,_,rfl,.inr (SqT.of ((zi (zf hp2 h1)).trans hp2)),l1,_,_,rfl,rfl,zd,by lia,by lia,size_le (by rw[hlm];simp only[Uk,UM];lia),fun l2 h2=>?_⟩⟩;refine⟨by show 0<=sizeLine;decide,fun l3 h3=>⟨by show 1<=sizeLine;decide,fun l4 h4=>⟨l2,l4,_,_,rfl,rfl,Same.lay h4 _ _ (Same.lay h3 _ _ zd),zd,size_le ?_,fun fr hfr=>?_⟩⟩⟩
  ·rw[len_rep,hlm];simp only[Uk,UM];lia
  have A1:Same H2 (upd H2 l1 (.lst [.non])):=Same.lay h1;have A2:=A1.trans (Same.lay (o:=.lst (List.replicate ((ns.map V.int).length:Int).toNat [V.non]).flatten) h2);have A3:=A2.trans (Same.lay (o:=.lst []) h3);have A4:=A3.trans (Same.lay (o:=.lst [.ref l3]) h4)
  have e0:(List.replicate ((ns.map V.int).length:Int).toNat [V.non]).flatten++[V.ref l3]=vl (ns.length+1) (fun j=>if j=ns.length then .ref l3 else .non):=by
   rw[hlm,Ot,zfP]
  rw[e0];have S3:=A4.trans (Same.lay (o:=.lst (vl (ns.length+1) (fun j=>if j=ns.length then .ref l3 else .non))) hfr);have nfr:H2 fr=none:=A4.free hfr;have hfr3:=zd (H:=upd (upd (upd (upd H2 l1 (.lst [.non])) l2 (.lst (List.replicate ((ns.map V.int).length:Int).toNat [V.non]).flatten)) l3 (.lst [])) l4 (.lst [.ref l3])) (a:=fr) (o:=.lst (vl (ns.length+1) (fun j=>if j=ns.length then .ref l3 else .non)));have hl3:=Same.lay hfr (o:=.lst (vl (ns.length+1) (fun j=>if j=ns.length then .ref l3 else .non))) _ _ (Same.lay h4 (o:=.lst [.ref l3]) _ _ (zd (H:=upd (upd H2 l1 (.lst [.non])) l2 (.lst (List.replicate ((ns.map V.int).length:Int).toNat [V.non]).flatten)) (a:=l3) (o:=.lst [])));have n3:l3≠mn:=fun z=>by rw[z] at h3;rw[A2 _ _ hmn2] at h3;cases h3
  have n3f:l3≠fr:=fun z=>by rw[<-z] at hfr;rw[Same.lay h4 (o:=.lst [.ref l3]) _ _ (zd (H:=upd (upd H2 l1 (.lst [.non])) l2 (.lst (List.replicate ((ns.map V.int).length:Int).toNat [V.non]).flatten)) (a:=l3) (o:=.lst []))] at hfr;cases hfr
  show uz _ _ (upd (upd (upd (upd (upd H2 l1 (.lst [.non])) l2 (.lst (List.replicate ((ns.map V.int).length:Int).toNat [V.non]).flatten)) l3 (.lst [])) l4 (.lst [.ref l3])) fr (.lst (vl (ns.length+1) (fun j=>if j=ns.length then .ref l3 else .non))));generalize upd (upd (upd (upd (upd H2 l1 (.lst [.non])) l2 (.lst (List.replicate ((ns.map V.int).length:Int).toNat [V.non]).flatten)) l3 (.lst [])) l4 (.lst [.ref l3])) fr (.lst (vl (ns.length+1) (fun j=>if j=ns.length then .ref l3 else .non)))=H3 at S3 hfr3 hl3 ⊢;revert H3;refine pG ?_;intro H3 S3 hfr3 hl3;subst hz;refine xW fun uz hz=>?_;clear A1 A2 A3 A4 e0 hfr h1 h2 h3 h4;have hmn3:=S3 _ _ hmn2;have S23:=S2.trans S3;have hp3:=S23 _ _ hp1;have hwi3:=S23 _ _ hwi;have nf1:H1 fr=none:=S2.free nfr;have nmf:mn≠fr:=zf hmn2 nfr;have nw1:wi≠mn:=zf hwi nmn;have nw2:wi≠fr:=zf hwi nf1;have nwi:wi∉[mn,fr]:=by simp[nw1,nw2]
  obtain⟨hs,hhs⟩:∃hs,hs=zm ns (eqT tot):=⟨_,rfl⟩;have hW:zT ns tot=qo ns.length hs:=by rw[hhs];rfl
  have hF:vt ns tot=if qo ns.length hs 0=0 then none else some (chn ns.length hs 0):=by unfold vt;rw[hW,hhs]
  rw[hW,hF] at k;rw[<-hhs] at HO ht;clear hW hF;obtain⟨C,hC⟩:∃C:Nat->Option (List (Nat×Nat)),C=fun j=>if qo ns.length hs j=0 then none else some (chn ns.length hs j):=⟨_,rfl⟩
  have hwn:qo ns.length hs ns.length=1:=gx HO;refine⟨_,rfl,p,_,rfl,.inr (SqT.of hp3),_,_,rfl,rfl,1,rfl,1,rfl,_,_,rfl,⟨by lia,by lia,by decide,by decide⟩,?_⟩;have en:(((ns.map V.int).length:Int)-1 - -1).toNat=ns.length:=by lia
  rw[en];refine kc (n:=ns.length) (ipA p wi mn fr tot ns.length hs C H3) ?_ ?_ ?_
  ·refine⟨none,none,none,none,_,_,fun j=>if j=ns.length then some [] else none,rfl,hmn3,hfr3,fun j hj=>?_,fun j h1 h2=>?_,fun j hj=>?_,Kl.refl _⟩
   ·show FirAt H3 mn fr (if j=ns.length then .ref l3 else .non) (if j=ns.length then some [] else none)
    by_cases e:j=ns.length
    ·rw[Uv e,Uv e];exact⟨l3,[],rfl,n3,n3f,hl3,TupsAt.nil⟩
    ·rw[Ur e,Ur e];exact rfl
   ·have:j=ns.length:=by lia
    subst this;refine⟨by rw[hwn];exact Uv rfl,?_⟩;show(if ns.length=ns.length then some [] else none)=C ns.length;rw[Uv rfl,hC];show _=if qo ns.length hs ns.length=0 then none else some (chn ns.length hs ns.length)
    rw[hwn,Ur (by decide),zcO HO]
   ·have:j≠ns.length:=by lia
    exact⟨Ur this,Ur this⟩
  ·rintro i σ H4 hi ⟨v5,v6,v7,v8,g,fs,o,rfl,hm4,hf4,hfa,hup,hdn,k4⟩;obtain⟨m,hm⟩:∃m:Nat,m=ns.length-1-i:=⟨_,rfl⟩;have em:((ns.map V.int).length:Int)-1+(i:Int) * -1=(m:Int):=by lia
   rw[em];have hmn':m<ns.length:=by lia
   dsimp only[zx];refine⟨_,rfl,wi,rfl,⟨_,SqL.of (k4 _ _ hwi3 nwi)⟩,?_⟩;refine j8 (xs:=xs) (ipB p wi mn fr tot ns.length hs C H3 m) ?_ ?_ ?_ ?_
   ·obtain⟨g0,o0⟩:=hdn m (by lia);refine⟨v6,v7,v8,g,fs,o,rfl,hm4,hf4,hfa,fun j h1 h2=>hup j (by lia) h2,fun j hj=>hdn j (by lia),?_,.inl ⟨o0,fun q hq=>(nomatch (show q∈([]:List (Nat×Nat)) from hq))⟩,k4⟩;rw[g0];rfl
   ·rintro t σ H' _ ⟨v6,v7,v8,g,fs,o,rfl,hm4,hf4,hfa,hup,hdn,hgm,hom,k4⟩;exact SqL.of (k4 _ _ hwi3 nwi)
   ·rintro t x σ H5 hx ⟨v6,v7,v8,g,fs,o,rfl,hm5,hf5,hfa,hup,hdn,hgm,hom,k5⟩
    have ht5:TupsAt g2 H5 xs hs:=(ht.mono (qi S23)).mono fun b zs e=>k5 _ _ e (by
     have n1:b≠mn:=qE e hmn3 (by intro z;cases z);have n2:b≠fr:=qE e hfr3 (by intro z;cases z);simp[n1,n2])
    have hj:t<hs.length:=by rw[<-ht5.1];exact(Ue.mp hx).1
    obtain⟨a,e1,e2⟩:=ht5.2 t _ (Ua hj);rw[hx] at e1;have e1:x=.ref a:=UK e1;subst e1;obtain⟨⟨lo,hi'⟩,hpr⟩:∃pr,hs[t]=pr:=⟨_,rfl⟩;rw[hpr] at e2;have hg:hs[t]?=some (lo,hi'):=by rw[Ua hj,hpr]
    have hmem:(lo,hi')∈hs:=Uu hg;obtain⟨m1,m2⟩:lo<hi'/\hi'<=ns.length:=HO.mem (lo,hi') hmem;have tk:hs.take (t+1)=hs.take t++[(lo,hi')]:=take_succ hg;refine⟨a,_,rfl,SqT.of e2,rfl,_,_,rfl,_,_,rfl,rfl,?_⟩;refine⟨_,rfl,_,rfl,rfl,_,rfl,qB (fun e=>?_) (fun e=>qz ?_)⟩;rotate_left
    ·have ne:¬lo=m:=fun z=>e (Uy (by rw[z]));refine⟨_,_,v8,g,fs,o,rfl,hm5,hf5,hfa,hup,hdn,?_,?_,k5⟩
     ·rw[tk,d7,Ur ne,Ol];exact hgm
     ·rcases hom with⟨z1,z2⟩|⟨x,z1,z2,z3⟩
      ·refine .inl ⟨z1,fun q hq eq=>?_⟩;rw[tk] at hq;rcases UJ.mp hq with h|h
       ·exact z2 q h eq
       ·rw[Uz.mp h] at eq;exact absurd eq ne
      ·exact .inr ⟨x,z1,by rw[tk];exact UR _ z2,z3⟩
    have elo:lo=m:=by
     have:=U0 e;injection this with this
     lia
    subst elo;obtain⟨gh,oh⟩:=hup hi' m1 m2;have w0:=jj ns.length hs hi';refine⟨_,rfl,_,rfl,mn,_,_,_,rfl,rfl,SqL.of hm5,kC _ (show hi'<ns.length+1 by lia),_,_,rfl,rfl,_,rfl,qB (fun e3=>?_) (fun e3=>?_)⟩;rotate_left
    ·have e3:¬0<g hi':=fun z=>e3 (Uy z);rw[gh] at e3;refine⟨_,_,v8,g,fs,o,rfl,hm5,hf5,hfa,hup,hdn,?_,?_,k5⟩
     ·rw[tk,d7,Uv rfl,Ux,Tq,<-hgm];simp only[UL,Tz,OH,sum_nil];lia
     ·rcases hom with⟨z1,z2⟩|⟨x,z1,z2,z3⟩
      ·refine .inl ⟨z1,fun q hq eq=>?_⟩;rw[tk] at hq;rcases UJ.mp hq with h|h
       ·exact z2 q h eq
       ·rw[Uz.mp h];exact e3
      ·exact .inr ⟨x,z1,by rw[tk];exact UR _ z2,z3⟩
    have e3:0<g hi':=U0 e3;refine xW fun uz hz=>?_;rw[gh] at e3;refine⟨_,rfl,_,rfl,mn,_,_,_,rfl,rfl,SqL.of hm5,kC _ (show lo<ns.length+1 by lia),_,rfl,_,rfl,mn,_,_,_,rfl,rfl,SqL.of hm5,kC _ (show hi'<ns.length+1 by lia),_,_,rfl,rfl,_,rfl,_,rfl,mn,_,_,lo,rfl,rfl,hm5,yt (by rw[bO];lia),?_⟩;rw[zfp];have egs:vl (ns.length+1) (xv (fun j=>.int (g j)) lo (.int (g lo+g hi')))=vl (ns.length+1) fun j=>V.int (js g lo (g lo+g hi') j):=zbU fun j _=>by unfold xv js;split<;>rfl
    rw[egs];have k6:Kl [mn,fr] H5 (upd H5 mn (.lst (vl (ns.length+1) fun j=>V.int (js g lo (g lo+g hi') j)))):=(Kl.refl H5).wr (by simp);have hm6:=zd (H:=H5) (a:=mn) (o:=.lst (vl (ns.length+1) fun j=>V.int (js g lo (g lo+g hi') j)));have hf6:=(zi (H:=H5) (o:=.lst (vl (ns.length+1) fun j=>V.int (js g lo (g lo+g hi') j))) (OO nmf)).trans hf5;show uz _ _ (upd H5 mn (.lst (vl (ns.length+1) fun j=>V.int (js g lo (g lo+g hi') j))));generalize upd H5 mn (.lst (vl (ns.length+1) fun j=>V.int (js g lo (g lo+g hi') j)))=H6 at k6 hm6 hf6 ⊢;revert H6;refine pG ?_;intro H6 k6 hm6 hf6;subst hz;refine xW fun uz hz=>?_;have hfa6:∀j,j<=ns.length->FirAt H6 mn fr (fs j) (o j):=fun j hj=>(hfa j hj).kl k6 hm5 hf5;have hoh:o hi'=some (chn ns.length hs hi'):=by rw[oh,hC];exact Ur (by lia)
    have hfh:=hfa6 hi' m2;rw[hoh] at hfh;obtain⟨ah,xh,f1,f2,f3,f4,f5⟩:=hfh;have ath:atI (vl (ns.length+1) fs) (hi':Int)=some (.ref ah):=by rw[kC _ (by lia),f1]
    have chl:(chn ns.length hs hi').length<=ns.length:=by
     obtain⟨h1,h2⟩:=pj HO ns.length hi';exact yw HO h2 fun c hc=>(h1 c hc).1
    refine⟨_,rfl,_,rfl,by show 2<=sizeLine;lia,fun tp htp=>⟨by show 1<=sizeLine;lia,fun l1 hl1=>?_⟩⟩;have S7:Same H6 (upd (upd H6 tp (.tup [.int (lo:Int),.int (hi':Int)])) l1 (.lst [.ref tp])):=(Same.lay htp).trans (Same.lay hl1);have e7:upd (upd H6 tp (.tup [.int (lo:Int),.int (hi':Int)])) l1 (.lst [.ref tp]) l1=some (.lst [.ref tp]):=zd;have etp:upd (upd H6 tp (.tup [.int (lo:Int),.int (hi':Int)])) l1 (.lst [.ref tp]) tp=some (.tup (g2 (lo,hi'))):=(zi (zf zd hl1)).trans zd;show tOp _ _ _ _ (upd (upd H6 tp (.tup [.int (lo:Int),.int (hi':Int)])) l1 (.lst [.ref tp])) _;generalize upd (upd H6 tp (.tup [.int (lo:Int),.int (hi':Int)])) l1 (.lst [.ref tp])=H7 at S7 e7 etp ⊢;revert H7;refine pG ?_;intro H7 S7 e7 etp;refine⟨_,rfl,_,rfl,fr,_,_,_,rfl,rfl,SqL.of (S7 _ _ hf6),ath,l1,ah,_,_,rfl,rfl,e7,S7 _ _ f4,size_le (by simp only[Uk,UM];rw[f5.1];lia),fun fo hfo=>?_⟩;have S8:Same H7 (upd H7 fo (.lst ([.ref tp]++xh))):=Same.lay hfo;have e8:upd H7 fo (.lst ([.ref tp]++xh)) fo=some (.lst (.ref tp::xh)):=zd;have nfo1:fo≠mn:=fun z=>by rw[z,S7 _ _ hm6] at hfo;cases hfo
    have nfo2:fo≠fr:=fun z=>by rw[z,S7 _ _ hf6] at hfo;cases hfo
    dsimp only[zx];generalize upd H7 fo (.lst ([.ref tp]++xh))=H8 at S8 e8 ⊢;revert H8;refine pG ?_;intro H8 S8 e8;subst hz;have S68:=S7.trans S8;have t8:TupsAt g2 H8 (.ref tp::xh) ((lo,hi')::chn ns.length hs hi'):=TupsAt.cons (g:=g2) (p:=(lo,hi')) (S8 _ _ etp) (f5.mono (qi S68));have hm8:=S68 _ _ hm6;have hf8:=S68 _ _ hf6;have k8:Kl [mn,fr] H3 H8:=fun b o' e n=>S68 _ _ (k6 b o' (k5 b o' e n) n);have hfa8:∀j,j<=ns.length->FirAt H8 mn fr (fs j) (o j):=fun j hj=>(hfa6 j hj).same S68
    have hsum:js g lo (g lo+g hi') lo=((evl (hs.take (t+1)) lo).map (qo ns.length hs)).sum:=by
     rw[tk,d7,Uv rfl,Ux,Tq,<-hgm];simp only[UL,Tz,OH,sum_nil];unfold js;rw[Uv rfl,gh];lia
    have gup:∀j,lo<j->js g lo (g lo+g hi') j=g j:=fun j h=>by unfold js;rw[Ur (by lia)]
    have gdn:∀j,j<lo->js g lo (g lo+g hi') j=g j:=fun j h=>by unfold js;rw[Ur (by lia)]
    rcases hom with⟨z1,z2⟩|⟨x,z1,z2,z3⟩
    ·
     have hfl:=hfa8 lo (by lia);rw[z1] at hfl;have fl0:fs lo=.non:=hfl;have atl:atI (vl (ns.length+1) fs) (lo:Int)=some .non:=by rw[kC _ (by lia),fl0]
     refine⟨_,rfl,_,rfl,fr,_,_,_,rfl,rfl,SqL.of hf8,atl,rfl,_,rfl,wm ?_⟩;refine⟨_,rfl,_,rfl,_,rfl,fr,_,_,lo,rfl,rfl,hf8,yt (by rw[bO];lia),?_⟩;have hd:=zcJ hg e3 z2;rw[zfp];have k9:Kl [mn,fr] H8 (upd H8 fr (.lst (vl (ns.length+1) (xv fs lo (.ref fo))))):=(Kl.refl H8).wr (by simp);refine⟨_,_,_,js g lo (g lo+g hi'),xv fs lo (.ref fo),xv o lo (some (chn ns.length hs lo)),rfl,(zi nmf).trans hm8,zd,fun j hj=>?_,fun j h1 h2=>?_,fun j h1=>?_,hsum,.inr ⟨hi',hd,by rw[tk];exact UF _ (Uz.mpr rfl),Uv rfl⟩,fun b o' e n=>k9 b o' (k8 b o' e n) n⟩
     ·by_cases ej:j=lo
      ·subst ej;rw[show xv fs j (.ref fo) j=.ref fo from Uv rfl,show xv o j (some (chn ns.length hs j)) j=some (chn ns.length hs j) from Uv rfl,zdx HO (by lia) hd];exact⟨fo,_,rfl,nfo1,nfo2,k9 _ _ e8 (by simp[nfo1,nfo2]),t8.mono (qY hf8)⟩
      ·rw[show xv fs lo (.ref fo) j=fs j from Ur ej,show xv o lo (some (chn ns.length hs lo)) j=o j from Ur ej];exact(hfa8 j hj).kl k9 hm8 hf8
     ·rw[gup j h1,show xv o lo (some (chn ns.length hs lo)) j=o j from Ur (by lia)];exact hup j h1 h2
     ·rw[gdn j h1,show xv o lo (some (chn ns.length hs lo)) j=o j from Ur (by lia)];exact hdn j h1
    ·
     have xlt:x<hi':=by
      obtain⟨u,hu',eu⟩:=OB z2;rw[UA] at hu';rw[NR] at eu;have:=Oh.mp HO.sorted u t (by lia) hj (by lia);rw[hpr,eu] at this;rcases this with z|z
      ·exact absurd z (O4 _)
      ·exact z.2
     have hfl:=hfa8 lo (by lia);rw[z3,zdx HO (by lia) z1] at hfl;obtain⟨al,xl,q1,q2,q3,q4,q5⟩:=hfl;obtain⟨tq,xl',rfl,q6,q7⟩:=TupsAt.uncons q5;have atl:atI (vl (ns.length+1) fs) (lo:Int)=some (.ref al):=by rw[kC _ (by lia),q1]
     refine⟨_,rfl,_,rfl,fr,_,_,_,rfl,rfl,SqL.of hf8,atl,rfl,_,rfl,qz ?_⟩;refine⟨_,rfl,_,rfl,_,rfl,fr,_,_,_,rfl,rfl,SqL.of hf8,atl,fo,al,tp,tq,_,_,(lo:Int),(hi':Int),(lo:Int),(x:Int),rfl,rfl,SqL.of e8,SqL.of q4,SqT.of (S8 _ _ etp),SqT.of q6,?_,_,rfl,?_⟩
     ·rw[show((hi':Int)==(x:Int))=false from U4.mpr (by lia)];exact R7 _
     ·rw[HT.lexLt_cons,Uv rfl,zdo,UE (by lia)];refine qz ⟨_,_,_,js g lo (g lo+g hi'),fs,o,rfl,hm8,hf8,hfa8,fun j h1 h2=>?_,fun j h1=>?_,hsum,.inr ⟨x,z1,by rw[tk];exact UR _ z2,z3⟩,k8⟩
      ·rw[gup j h1];exact hup j h1 h2
      ·rw[gdn j h1];exact hdn j h1
   ·rintro σ H5 ⟨v6,v7,v8,g,fs,o,rfl,hm5,hf5,hfa,hup,hdn,hgm,hom,k5⟩;rw[ht.1,US] at hgm hom;refine⟨_,v6,v7,v8,g,fs,o,rfl,hm5,hf5,hfa,fun j h1 h2=>?_,fun j h1=>hdn j (by lia),k5⟩
    by_cases ej:j=m
    ·subst ej;have e0:W0 ns.length j=0:=Ur (by lia);refine⟨by rw[hgm,kB HO j,e0,zero_add],?_⟩;have wp:=zbR HO hmn';have w0:=jj ns.length hs j;rw[hC];show o j=if qo ns.length hs j=0 then none else some (chn ns.length hs j)
     rcases hom with⟨z1,z2⟩|⟨x,z1,z2,z3⟩
     ·have:¬0<qo ns.length hs j:=fun z=>by
       obtain⟨x,hx,hx2⟩:=wp.mp z;exact z2 (j,x) (qC HO hx).2.2 rfl hx2
      rw[Uv (by lia),z1]
     ·have hx:=U2.mp (Tc z1);have:0<qo ns.length hs j:=wp.mpr ⟨x,hx.1,U0 hx.2⟩;rw[Ur (by lia),z3]
    ·exact hup j (by lia) h2
  ·rintro σ H4 ⟨v5,v6,v7,v8,g,fs,o,rfl,hm4,hf4,hfa,hup,hdn,k4⟩;subst hz;obtain⟨g0,o0⟩:=hup 0 (by lia) (by lia)
   have S4:Same H H4:=(S1.trans (Kl.same S23 (fun a ha=>by
    rcases Uw.mp ha with rfl|ha
    ·exact nmn
    ·rw[Uz.mp ha];exact nf1) k4))
   have hf0:=hfa 0 (UI _);rw[o0,hC] at hf0;have hf0:FirAt H4 mn fr (fs 0) (if qo ns.length hs 0=0 then none else some (chn ns.length hs 0)):=hf0;rw[<-g0] at k hf0;refine⟨_,rfl,mn,_,0,_,rfl,rfl,SqL.of hm4,kC _ (show 0<ns.length+1 by lia),?_⟩
   have new:∀{cs:List (Nat×Nat)},cs=[]->(if g 0=0 then none else some (chn ns.length hs 0)).getD []=cs->∀l,H4 l=none->∀tp,upd H4 l (.lst []) tp=none->Q (.ref tp) (upd (upd H4 l (.lst [])) tp (.tup [.int (g 0),.ref l])):=fun ecs e l hl tp htp=>by
    subst ecs;refine k tp l [] _ zd ((zi (zf zd htp)).trans zd) ?_ (S4.trans ((Same.lay hl).trans (Same.lay htp)));rw[e];exact TupsAt.nil
   by_cases z:g 0=0
   ·rw[Uv z] at hf0;have hf0:fs 0=.non:=hf0;refine⟨_,rfl,fr,_,0,_,rfl,rfl,SqL.of hf4,((kC (j:=0) _ (show 0<ns.length+1 by lia)).trans (O3 some hf0)),false,rfl,qz ⟨by show 0<=sizeLine;decide,fun l hl=>⟨by show 2<=sizeLine;decide,fun tp htp=>new rfl (by rw[Uv z];rfl) l hl tp htp⟩⟩⟩
   ·rw[Ur z] at hf0;obtain⟨a,ys,q1,q2,q3,q4,q5⟩:=hf0;refine⟨_,rfl,fr,_,0,_,rfl,rfl,SqL.of hf4,((kC (j:=0) _ (show 0<ns.length+1 by lia)).trans (O3 some q1)),!ys.isEmpty,.inl ⟨ys,SqL.of q4,rfl⟩,?_⟩
    cases ys with
    |nil=>
     refine qz ⟨by show 0<=sizeLine;decide,fun l hl=>⟨by show 2<=sizeLine;decide,fun tp htp=>new (cs:=[]) rfl ?_ l hl tp htp⟩⟩;rw[Ur z];exact Tf (by have:=q5.1;simpa using this.symm)
    |cons y ys'=>
     refine wm ⟨by show 2<=sizeLine;decide,fun tp htp=>k tp a _ _ zd (Same.lay htp _ _ q4) ?_ (S4.trans (Same.lay htp))⟩;rw[Ur z];exact q5.mono (qi (Same.lay htp))
theorem vC (zs:List Str):(zs.map V.str).all yN=true:=by
 rw[NV,OE];intro x _;rfl
structure zgK (Tb:Hp->Prop):Prop where
 same:∀{H H':Hp},Same H H'->Tb H->Tb H'
 wr:∀{H:Hp}{q:Addr}{xs ys:List V},H q=some (.lst xs)->Tb H->Tb (upd H q (.lst ys))
structure Asked (C:Addr)(Tb:Hp->Prop)(H:Hp)(x d:Addr)(z:Str)(due:List Str):Prop where
 len:z.length<=10000
 ex:∃(rows:Rows) (i:Nat) (n:Str) (ns is:List Int) (R:List Str->Prop),DeskAt C H x d rows/\vY rows/\Txt.split z blank=wd i::n::is.map zy/\wt rows n=some ns/\(∀j∈is,j.natAbs<10^14)/\i<9/\Ask ns i is R/\∀zs,R zs->zs=due
 tb:Tb H
theorem Asked.nt (h:Asked C Tb H x d z due)(n:Nt H H')(t:Tb H'):Asked C Tb H' x d z due:=by
 obtain⟨h1,⟨rows,i,nm,ns,is,R,h2,h3⟩,h4⟩:=h;exact⟨h1,⟨rows,i,nm,ns,is,R,h2.nt n,h3⟩,t⟩
theorem zcV (h:Asked C Tb H x d z due)(k:∀q H',H q=none->qL H' q due->Nt H H'->Tb H'->Q (.ref q) H'):zb8 C Tb [.ref x,.str z] H Q E0:=by
 obtain⟨h1,⟨rows,i,nm,ns,is,R,h2,h3,h4,h5,h6,h7,h8,h9⟩,h10⟩:=h;exact⟨x,d,z,rows,rfl,h1,h2,h3,.inr (.inr ⟨i,nm,ns,is,R,h4,h5,h6,h7,h8,h10,fun q zs H' hq hz e n t=>k q H' hq (by rw[<-h9 zs hz];exact e) n t⟩)⟩
def zaU (C:Addr)(Tb:Hp->Prop):Sp:=fun vs H Q _=>∃(x d l:Addr) (z:Str) (due:List Str),vs=[.ref x,.str z,.ref l]/\Asked C Tb H x d z due/\qL H l due/\due.length<=1000/\∀H',Nt H H'->Tb H'->Q (.bl true) H'
theorem Nt.wr {o:HO}(n:Nt H H')(h:H q=none):Nt H (upd H' q o):=fun b o' e z=>by rw[zi (zf e h)];exact n b o' e z
theorem Nt.lst (n:Nt H H')(h:H a=some (.lst xs)):H' a=some (.lst xs):=n a _ h (by intro ps z;cases z)
abbrev xf:Stmt:=top 74
theorem QM:zt ["desk","line","due","told"] ["desk","line","due"] (zh xf):=fsc_
theorem zbn (hTb:zgK Tb)(F:Fun K "_law_twice" "_law_twice" xf f fd)(T:Txt mg)(TC:pH K mg C)(QD:MethAt K C "ask" "Desk.ask" zcf ["self","line"] f1 fd1)(Q1:FnOk P w K mg base CX0 8 f1 fd1 ["self","line"] (zb8 C Tb)) :
 FnOk P w K mg base CX0 9 f fd ["desk","line","due"] (zaU C Tb):=by
 refine F.ok QM (fun vs H Q E h=>?_) (fun cdv A outer s H vs Q E hr h=>?_)
 ·obtain⟨x,d,l,z,due,rfl,_⟩:=h;rfl
 ·obtain⟨x,d,l,z,due,rfl,hA,hl,hn,k⟩:=h;have hu:=hr.units0;have hsl:=UV
  refine⟨_,(ze (zq (i:=3) QM.nd rfl (Or.inl rfl) (jV (pv 0) TC.cl QD.mt Q1 (hr.mono (by first|decide|exact Ub _)) QD.bd .nil zp (zb (pv 1) zc)))
   (ze (z8 (zw (oNe (K:=K) rfl false hu) (pv 3) (pv 2) (zH _))
     (zj (zr vw))
     zL)
   (ze (jd (jo Od U3 U9 qw (pv 3) (zb zQ zc)))
   (zj (zr (yq (oEq (K:=K) rfl false hu) (jV (pv 0) TC.cl QD.mt Q1 (hr.mono (by first|decide|exact Ub _)) QD.bd .nil zp (zb (pv 1) zc)) (pv 2) (zH _))))))),?_⟩
  obtain⟨rows,_,_,_,_,_,⟨dx,kvs,hx,_⟩,_⟩:=id hA.ex;refine⟨_,rfl,x,dx,_,rfl,hx,jY (by decide +kernel),_,rfl,zcV hA fun q H1 hq e1 n1 t1=>?_⟩;dsimp only[zx];refine⟨_,rfl,_,rfl,q,l,_,_,rfl,rfl,SqL.of e1,SqL.of (n1.lst hl),vC due,vC due,_,rfl,?_⟩;rw[zaD (vC due)];refine qz ⟨_,rfl,.inl ⟨rfl,_,SqL.of e1⟩,q,_,_,rfl,rfl,e1,zO (by rw[Ud];lia),?_⟩;have n2:Nt H (upd H1 q (.lst (due.map V.str++[.str "x"]))):=n1.wr hq;have t2:Tb (upd H1 q (.lst (due.map V.str++[.str "x"]))):=hTb.wr e1 t1;generalize upd H1 q (.lst (due.map V.str++[.str "x"]))=H2 at n2 t2;refine⟨_,rfl,x,dx,_,rfl,n2 _ _ hx (by intro ps z;cases z),jY (by decide +kernel),_,rfl,zcV (hA.nt n2 t2) fun q' H3 hq' e3 n3 t3=>?_⟩;refine⟨_,rfl,q',l,_,_,rfl,rfl,SqL.of e3,SqL.of (n3.lst (n2.lst hl)),vC due,vC due,?_⟩;show Q (.bl (fc _ _)) H3;rw[zaD (vC due)];exact k H3 (n2.trans n3) t3
theorem gk (h:z.cps.toList=wF (ws.map (·.cps.toList)))(hf:∀w∈ws,32∉w.cps.toList)(hz:z.cps.toList≠[]):Txt.split z blank=ws:=by
 have e:z=Str.join blank ws:=xa (by rw[h,yf]);rw[e];exact yR hf fun q=>hz (by rw[e,q];rfl)
theorem zhm {n:Str}(h:isNm n=true):32∉n.cps.toList:=fun hm=>by
 unfold isNm at h;have:=OE.mp (Bool.and_eq_true_iff.mp h).2 32 hm;exact absurd this (by decide)
theorem xS:∀i,i<9->32∉(wd i).cps.toList:=nine (by decide +kernel) (by decide +kernel) (by decide +kernel) (by decide +kernel) (by decide +kernel) (by decide +kernel) (by decide +kernel) (by decide +kernel) (by decide +kernel)
theorem vF:(" ":Str).cps.toList=[32]:=by decide
theorem xK {w:Str}{n:Str}(hw:32∉w.cps.toList)(hn:isNm n=true):∀u∈w::n::is.map zy,32∉u.cps.toList:=fun u hu=>by
 rcases Uw.mp hu with rfl|hu
 ·exact hw
 ·rcases Uw.mp hu with rfl|hu
  ·exact zhm hn
  ·obtain⟨j,_,rfl⟩:=U6.mp hu;exact zat j
theorem zjY {w n:Str}(hw:32∉w.cps.toList)(e:w'.cps.toList=w.cps.toList++[32])(hn:isNm n=true):Txt.split (w'++n) blank=w::n::([]:List Int).map zy:=by
 refine gk ?_ (xK hw hn) ?_
 ·rw[Um,e];show _=w.cps.toList++32::n.cps.toList;simp
 ·rw[Um,e];simp
theorem zh6 {w n:Str}{a:Int}(hw:32∉w.cps.toList)(e:w'.cps.toList=w.cps.toList++[32])(hn:isNm n=true):Txt.split (w'++n++" "++zy a) blank=w::n::[a].map zy:=by
 refine gk ?_ (xK hw hn) ?_
 ·rw[Um,Um,Um,e,vF];show _=w.cps.toList++32::(n.cps.toList++32::(zy a).cps.toList);simp
 ·rw[Um,Um,Um,e];simp
theorem zh5 {w n:Str}{a b:Int}(hw:32∉w.cps.toList)(e:w'.cps.toList=w.cps.toList++[32])(hn:isNm n=true):Txt.split (w'++n++" "++zy a++" "++zy b) blank=w::n::[a,b].map zy:=by
 refine gk ?_ (xK hw hn) ?_
 ·rw[Um,Um,Um,Um,Um,e,vF];show _=w.cps.toList++32::(n.cps.toList++32::((zy a).cps.toList++32::(zy b).cps.toList));simp
 ·rw[Um,Um,Um,Um,Um,e];simp
theorem zh4 {w n:Str}{a:Int}(hw:32∉w.cps.toList)(hn:isNm n=true):Txt.split (w++(" "++n++" "++zy a)) blank=w::n::[a].map zy:=by
 refine gk ?_ (xK hw hn) ?_
 ·rw[Um,Um,Um,Um,vF];show _=w.cps.toList++32::(n.cps.toList++32::(zy a).cps.toList);simp
 ·rw[Um,Um,Um,Um,vF];simp
theorem zjZ {w n:Str}{a b:Int}(hw:32∉w.cps.toList)(hn:isNm n=true):Txt.split (w++(" "++n++" "++zy a)++" "++zy b) blank=w::n::[a,b].map zy:=by
 refine gk ?_ (xK hw hn) ?_
 ·rw[Um,Um,Um,Um,Um,Um,vF];show _=w.cps.toList++32::(n.cps.toList++32::((zy a).cps.toList++32::(zy b).cps.toList));simp
 ·rw[Um,Um,Um,Um,Um,Um,vF];simp
structure Sit (K:Frag)(C:Addr)(Tb:Hp->Prop)(H:Hp)(a x d p:Addr)(scr:List Int)(rows:Rows)(n:Str)(ns:List Int):Prop where
 scr:Scr K H a scr
 desk:DeskAt C H x d rows
 ok:vY rows
 get:wt rows n=some ns
 row:RowAt H p ns
 tb:Tb H
theorem Sit.nt {p:Addr}{n:Str}(h:Sit K C Tb H a x d p scr rows n ns)(k:Nt H H')(t:Tb H'):Sit K C Tb H' a x d p scr rows n ns:=⟨h.scr.nt k,h.desk.nt k,h.ok,h.get,⟨k.tup h.row.1,h.row.2⟩,t⟩
theorem Sit.same {p:Addr}{n:Str}(hT:zgK Tb)(h:Sit K C Tb H a x d p scr rows n ns)(s:Same H H'):Sit K C Tb H' a x d p scr rows n ns:=h.nt (Nt.of s) (hT.same s h.tb)
theorem Sit.few {p:Addr}{n:Str}(h:Sit K C Tb H a x d p scr rows n ns):isNm n=true/\ns.length<=60/\Few ns:=h.ok.ok _ (yg h.get)
theorem Sit.asked {p:Addr}{n:Str}(h:Sit K C Tb H a x d p scr rows n ns)(ha:Ask ns i is R)(hi:i<9)(hb:∀j∈is,j.natAbs<10^14)(hs:Txt.split z blank=wd i::n::is.map zy)(hz:z.length<=10000)(hR:∀zs,R zs->zs=due):Asked C Tb H x d z due:=
 ⟨hz,⟨rows,i,n,ns,is,R,h.desk,h.ok,hs,h.get,hb,hi,ha,hR⟩,h.tb⟩
theorem zgI (hl:ns.length<=60)(hf:Few ns){lo hi:Int}(h1:lo<=-(10^14))(h2:10^14<=hi):zm ns (wb lo hi)=prs ns.length:=by
 unfold zm;refine List.filter_eq_self.mpr fun p hp=>?_;have hm:=jU hp;have:=bX hl hf (p:=p) (RS hm.1);unfold sm at this;show(decide (lo<=qk ns p.2-qk ns p.1)&&decide (qk ns p.2-qk ns p.1<=hi))=true;rw[OQ];exact⟨Uy (by lia),Uy (by lia)⟩
def zd0 (t:Int)(c:List Int):List Int:=zgJ (c.headD 0-t)::c
theorem zeP {t:Int}{ds es:List (List Int)}(h1:ds.Perm (cds ns))(h2:es.Perm (ds.map (zd0 t))):es.Perm ((prs ns.length).map (nrC ns t)):=by
 refine h2.trans ((h1.map (zd0 t)).trans ?_);unfold cds;rw[map_map];exact .refl _
theorem zeQ {t:Int}(h:([]:List (List Int)).Perm ((prs ns.length).map (nrC ns t))):Fst (nrC ns t) ns.length none:=Tv.mp h.symm.eq_nil
theorem zeO {t:Int}{c:List Int}{es:List (List Int)}(h:(c::es).Perm ((prs ns.length).map (nrC ns t)))(so:(c::es).Pairwise leC):∃q,c=nrC ns t q/\Fst (nrC ns t) ns.length (some q):=by
 obtain⟨q,hq,e⟩:=U6.mp (h.mem_iff.mp (Ug ..));refine⟨q,e.symm,hq,fun r hr=>?_⟩;have hm:=h.mem_iff.mpr (Tu (f:=nrC ns t) hr);rcases Uw.mp hm with z|z
 ·rw[z,e];exact wk _
 ·rw[e];exact(UY.mp so).1 _ z
theorem bN (n:Nt H H'){ws:List V}{ds:List (List Int)}(h:Paired (VNt H) ws ds):Paired (VNt H') ws ds:=
 Paired.imp' (fun _ _ ⟨p,q,s,a,b,e1,e2,e3,e4⟩=>⟨p,q,s,a,b,e1,n.tup e2,n.tup e3,e4⟩) h
theorem fD {α β:Type}{F:α->β->Prop}{x:α}{y:β}(e:F x y):∀{l:List α}{m:List β},Paired F l m->Paired F (l++[x]) (m++[y])
 |_,_,.nil=>.cons e .nil
 |_,_,.cons h t=>.cons h (fD e t)
theorem zhA (xs:List V)(k:Nat):bx xs none (some (k:Int))=xs.take k:=by
 by_cases h:k<=xs.length
 ·exact L2.cut_to xs k h
 ·show(xs.drop (HT.sIx xs.length 0 none)).take (HT.sIx xs.length xs.length (some (k:Int))-HT.sIx xs.length 0 none)=_;unfold HT.sIx;simp only[Nx];rw[Oi (l:=xs) (i:=k) (by lia),Oi];split<;>lia
theorem zgX {t:TS}(I:St->Hp->Prop)(rest:∀σ' H',I σ' H'->u D σ' H')(h:∀u':TS,(∀σ' H',I σ' H'->u' D σ' H')->t { D with nx:=u' D } σ H):jJ t u D σ H:=h u rest
theorem e15:(10:Int)^(toNat 15)=1000000000000000:=by decide
def zdL (K:Frag)(C:Addr)(Tb:Hp->Prop):Sp:=fun vs H Q _=>∃(a x d p:Addr) (scr:List Int) (rows:Rows) (n:Str) (ns:List Int) (at':Int),vs=[.ref a,.ref x,.str n,.ref p,.int at']/\Sit K C Tb H a x d p scr rows n ns/\0<=at'/\at'<90000/\∀H',Nt H H'->Tb H'->Q (.bl true) H'
theorem zf2:("order ":Str).cps.toList=(wd 4).cps.toList++[32]:=by decide +kernel
theorem zeR:("near ":Str).cps.toList=(wd 5).cps.toList++[32]:=by decide +kernel
theorem zeA:("rest ":Str).cps.toList=(wd 3).cps.toList++[32]:=by decide +kernel
theorem zhe:("order ":Str).length=6:=by decide +kernel
theorem zf9:("near ":Str).length=5:=by decide +kernel
theorem zfO:("rest ":Str).length=5:=by decide +kernel
theorem kX:(" ":Str).length=1:=by decide +kernel
abbrev qj:Stmt:=top 75
theorem Zl:zt ["script","desk","name","row","at","ahead","all_pairs","order","total","k","due","near","m","rest","pairs"] ["script","desk","name","row","at"] (zh qj):=fsc_
theorem kZ (hTb:zgK Tb)(F:Fun K "_law_sums_right" "_law_sums_right" qj f fd)(T:Txt mg)(TC:pH K mg C)(Zs:zK K mg "_law_ahead" xi ["row"] f1 fd1)(QB:FnOk P w K mg base CX0 1 f1 fd1 ["row"] bW)(Zi:zK K mg "_law_with" jK ["row","low_sum","high_sum"] f2 fd2)(ZO:FnOk P w K mg base CX0 2 f2 fd2 ["row","low_sum","high_sum"] bU)(Zt:zK K mg "_law_total" xg ["script","at","row"] f3 fd3)(QA:FnOk P w K mg base CX0 3 f3 fd3 ["script","at","row"] (zc5 K))(Za:zK K mg "_law_draw" qF ["script","k"] f4 fd4)(Zd:FnOk P w K mg base CX0 1 f4 fd4 ["script","k"] (wR K))(Zg:zK K mg "_law_pair" vI ["pair"] f5 fd5)(ZJ:FnOk P w K mg base CX0 1 f5 fd5 ["pair"] zgT)(Zc:zK K mg "_law_twice" xf ["desk","line","due"] f6 fd6)(Zz:FnOk P w K mg base CX0 9 f6 fd6 ["desk","line","due"] (zaU C Tb))(Zq:zK K mg "_law_three" qD ["pairs"] f7 fd7)(Qr:FnOk P w K mg base CX0 2 f7 fd7 ["pairs"] zaV) :
 FnOk P w K mg base CX0 10 f fd ["script","desk","name","row","at"] (zdL K C Tb):=by
 refine F.ok Zl (fun vs H Q E h=>?_) (fun cdv A outer s H vs Q E hr h=>?_)
 ·obtain⟨a,x,d,p,scr,rows,n,ns,at',rfl,_⟩:=h;rfl
 ·obtain⟨a,x,d,p,scr,rows,n,ns,at',rfl,hs,a0,a1,k⟩:=h;have hu:=hr.units0;have hu64:=hr.units;have hsl:=UV;obtain⟨hnm,hl60,hfew⟩:=hs.few;have hn8:=gi hnm;have plen:=qP ns.length hs.row.2
  refine⟨_,(ze (zq (i:=5) Zl.nd rfl (Or.inr rfl) (zl QB (hr.mono (by first|decide|exact Ub _)) rfl Zs.mg Zs.fn.kp Zs.bd .nil zp (zb (pv 3) zc)))
   (ze (zq (i:=6) Zl.nd rfl (Or.inl rfl) (zl ZO (hr.mono (by first|decide|exact Ub _)) rfl Zi.mg Zi.fn.kp Zi.bd .nil zp (zb (pv 3) (zb (zk qp zg (zk y4 zg zg)) (zb (zk y4 zg zg) zc)))))
   (ze (zq (i:=7) Zl.nd rfl (Or.inl rfl) (zv (ke (K:=K) rfl (zjJ (K:=K) rfl hu64)) (by rfl) T.b_sorted PyProof.Rows.Boot.«sorted» (zb (qf (N:=["low","high","ahead"]) (cap:=[none,none,some 5]) rfl (show qh ["script","desk","name","row","at","ahead","all_pairs","order","total","k","due","near","m","rest","pairs"] (zh qj) ["low","high","ahead"] [none,none,some 5] _=true by decide +kernel) (piL (K:=K) rfl (pv 6)) (fun cl C s3 H3 fp=>⟨(pgT (K:=K) (n:=2) rfl rfl (zI (zo (i:=0) (show(["low","high","ahead"]:List Str).Nodup by decide +kernel) rfl (Or.inl rfl)) (zI (zo (i:=1) (show(["low","high","ahead"]:List Str).Nodup by decide +kernel) rfl (Or.inl rfl)) qm))),qe,fun it acc=>(zP rfl (qu (zb (zk qp (zz (ixL (K:=K) rfl) (pv 2) (pv 1) (fun _ _=>rfl)) (zz (ixL (K:=K) rfl) (pv 2) (pv 0) (fun _ _=>rfl))) (zb (qu (zb (pv 0) (zb (pv 1) zc))) zc))))⟩)) zc)))
   (ze (zq (i:=8) Zl.nd rfl (Or.inr rfl) (zl QA (hr.mono (by first|decide|exact Ub _)) rfl Zt.mg Zt.fn.kp Zt.bd .nil zp (zb (pv 0) (zb (pv 4) (zb (pv 3) zc)))))
   (ze (z8 (zw (ziS (K:=K) rfl hu) (pv 7) (zR zc) (zH _))
     (ze (zq (i:=9) Zl.nd rfl (Or.inl rfl) (zk zS (zl Zd (hr.mono (by first|decide|exact Ub _)) rfl Za.mg Za.fn.kp Za.bd .nil zp (zb (pv 0) (zb (zk zM (pv 4) zg) zc))) (zv (jh (K:=K) rfl) (by rfl) T.b_len PyProof.Rows.Boot.«len» (zb (pv 7) zc))))
     (ze (zq (i:=10) Zl.nd rfl (Or.inl rfl) (zR (zb (zk zu (zk zu (zJ zN (by rfl) T.b_str PyProof.Rows.Boot.«str» (zb (zz (ixT (K:=K) rfl) (zz (ixL (K:=K) rfl) (pv 7) (pv 9) (fun _ _=>rfl)) zg (fun _ _=>rfl)) zc)) zQ) (zl ZJ (hr.mono (by first|decide|exact Ub _)) rfl Zg.mg Zg.fn.kp Zg.bd .nil zp (zb (zz (ixT (K:=K) rfl) (zz (ixL (K:=K) rfl) (pv 7) (pv 9) (fun _ _=>rfl)) zg (fun _ _=>rfl)) zc))) zc)))
     (zj (z8 (qV (jN (zl Zz (hr.mono (by first|decide|exact Ub _)) rfl Zc.mg Zc.fn.kp Zc.bd .nil zp (zb (pv 1) (zb (zk zu (zk zu (zk zu zQ (pv 2)) zQ) (zJ zN (by rfl) T.b_str PyProof.Rows.Boot.«str» (zb (pv 9) zc))) (zb (pv 10) zc))))))
       (zj (zr vw))
       zL))))
     zL)
   (ze (qH (i:=11) (hN:=Zl.nd) (hy:=rfl) (hx:=rfl) (N:=["one","total"]) (cap:=[none,some 8]) (hc:=rfl) (hok:=(show qh ["script","desk","name","row","at","ahead","all_pairs","order","total","k","due","near","m","rest","pairs"] (zh qj) ["one","total"] [none,some 8] _=true by decide +kernel) ) (hi:=(piL (K:=K) rfl (pv 7))) (hb:=fun cl C s3 H3 fp=>⟨(zo (i:=0) (show(["one","total"]:List Str).Nodup by decide +kernel) rfl (Or.inl rfl)),qe,fun it acc=>(zP rfl (qu (zb (zv zcQ (by rfl) T.b_abs PyProof.Rows.Boot.«abs» (zb (zk qp (zz (ixT (K:=K) rfl) (pv 0) zg (fun _ _=>rfl)) (pv 1)) zc)) (zb (pv 0) zc))))⟩))
   (ze (qH (i:=10) (hN:=Zl.nd) (hy:=rfl) (hx:=rfl) (N:=["off","one"]) (cap:=[none,none]) (hc:=rfl) (hok:=(show qh ["script","desk","name","row","at","ahead","all_pairs","order","total","k","due","near","m","rest","pairs"] (zh qj) ["off","one"] [none,none] _=true by decide +kernel) ) (hi:=(piL (K:=K) rfl (kU (slL (K:=K) rfl) (zv (ke (K:=K) rfl (zku hu64)) (by rfl) T.b_sorted PyProof.Rows.Boot.«sorted» (zb (pv 11) zc)) za9 (kQ zg)))) (hb:=fun cl C s3 H3 fp=>⟨(pgT (K:=K) (n:=2) rfl rfl (zI (zo (i:=0) (show(["off","one"]:List Str).Nodup by decide +kernel) rfl (Or.inl rfl)) (zI (zo (i:=1) (show(["off","one"]:List Str).Nodup by decide +kernel) rfl (Or.inl rfl)) qm))),qe,fun it acc=>(zP rfl (zk zu (zk zu (zJ zN (by rfl) T.b_str PyProof.Rows.Boot.«str» (zb (zz (ixT (K:=K) rfl) (pv 1) zg (fun _ _=>rfl)) zc)) zQ) (zl ZJ (hr.mono (by first|decide|exact Ub _)) rfl Zg.mg Zg.fn.kp Zg.bd .nil zp (zb (zz (ixT (K:=K) rfl) (pv 1) zg (fun _ _=>rfl)) zc))))⟩))
   (ze (z8 (qV (jN (zl Zz (hr.mono (by first|decide|exact Ub _)) rfl Zc.mg Zc.fn.kp Zc.bd .nil zp (zb (pv 1) (zb (zk zu (zk zu (zk zu zQ (pv 2)) zQ) (zJ zN (by rfl) T.b_str PyProof.Rows.Boot.«str» (zb (pv 8) zc))) (zb (pv 10) zc))))))
     (zj (zr vw))
     zL)
   (ze (zq (i:=12) Zl.nd rfl (Or.inr rfl) (zk zM zg (zk zS (zl Zd (hr.mono (by first|decide|exact Ub _)) rfl Za.mg Za.fn.kp Za.bd .nil zp (zb (pv 0) (zb (zk zM (pv 4) zg) zc))) (zz (ixT (K:=K) rfl) (qu (zb zg (zb zg (zb (zk y4 zg zg) zc)))) (zk zS (zl Zd (hr.mono (by first|decide|exact Ub _)) rfl Za.mg Za.fn.kp Za.bd .nil zp (zb (pv 0) (zb (zk zM (pv 4) zg) zc))) zg) (fun _ _=>rfl)))))
   (ze (zq (i:=13) Zl.nd rfl (Or.inr rfl) (zz (ixL (K:=K) rfl) (zR (zb (zk zS (pv 8) (pv 12)) (zb (zk zS (zl Zd (hr.mono (by first|decide|exact Ub _)) rfl Za.mg Za.fn.kp Za.bd .nil zp (zb (pv 0) (zb (zk zM (pv 4) zg) zc))) (pv 12)) zc))) (zk zS (zl Zd (hr.mono (by first|decide|exact Ub _)) rfl Za.mg Za.fn.kp Za.bd .nil zp (zb (pv 0) (zb (zk zM (pv 4) zg) zc))) zg) (fun _ _=>rfl)))
   (ze (qH (i:=14) (hN:=Zl.nd) (hy:=rfl) (hx:=rfl) (N:=["pair","ahead","m","rest"]) (cap:=[none,some 5,some 12,some 13]) (hc:=rfl) (hok:=(show qh ["script","desk","name","row","at","ahead","all_pairs","order","total","k","due","near","m","rest","pairs"] (zh qj) ["pair","ahead","m","rest"] [none,some 5,some 12,some 13] _=true by decide +kernel) ) (hi:=(piL (K:=K) rfl (pv 6))) (hb:=fun cl C s3 H3 fp=>⟨(zo (i:=0) (show(["pair","ahead","m","rest"]:List Str).Nodup by decide +kernel) rfl (Or.inl rfl)),(xm (zw qU (zk zS (zk qp (zz (ixL (K:=K) rfl) (pv 1) (zz (ixT (K:=K) rfl) (pv 0) zg (fun _ _=>rfl)) (fun _ _=>rfl)) (zz (ixL (K:=K) rfl) (pv 1) (zz (ixT (K:=K) rfl) (pv 0) zg (fun _ _=>rfl)) (fun _ _=>rfl))) (pv 2)) (pv 3) (zH _))),fun it acc=>(zP rfl (pv 0))⟩))
   (zj (zr (zl Zz (hr.mono (by first|decide|exact Ub _)) rfl Zc.mg Zc.fn.kp Zc.bd .nil zp (zb (pv 1) (zb (zk zu (zk zu (zk zu (zk zu (zk zu zQ (pv 2)) zQ) (zJ zN (by rfl) T.b_str PyProof.Rows.Boot.«str» (zb (pv 12) zc))) zQ) (zJ zN (by rfl) T.b_str PyProof.Rows.Boot.«str» (zb (pv 13) zc))) (zb (zl Qr (hr.mono (by first|decide|exact Ub _)) rfl Zq.mg Zq.fn.kp Zq.bd .nil zp (zb (pv 14) zc)) zc))))))))))))))))),?_⟩
  refine ziw fun _ _ _ _ _ _ _ zA zB zC zD zE zF zG=>?_;refine⟨_,rfl,p,ns,rfl,hs.row,fun ah H1 _ hah S1=>?_⟩;dsimp only[zx];refine zU zA ?_;refine⟨_,rfl,_,_,rfl,rfl,⟨by decide,by decide,by decide⟩,_,_,rfl,rfl,_,_,rfl,rfl,⟨by decide,by decide,by decide⟩,p,ns,_,_,rfl,hs.row.same S1,hl60,fun ap xs H2 _ hap ht S2=>?_⟩;rw[zgI hl60 hfew (by rw[e15];decide) (by rw[e15];decide)] at ht;dsimp only[zx];refine zU zB ?_;have hah2:=S2 _ _ hah;have S02:=S1.trans S2;refine⟨_,rfl,ap,rfl,⟨_,SqL.of hap⟩,fun acc hacc=>?_⟩;refine qb (xs:=xs) (fun i σ H'=>∃(u1 u2:Option V) (ys:List V),σ=[u1,u2,some (.ref ah)]/\H' acc=some (.lst ys)/\SumsAt ns H' ys ((prs ns.length).take i)/\Same H2 H') ⟨none,none,[],rfl,zd,SumsAt.nil,Same.lay hacc⟩ ?_ ?_ ?_
  ·rintro i σ H' _ ⟨u1,u2,ys,rfl,_,_,S'⟩;exact SqL.of (S' _ _ hap)
  ·rintro i y σ H' hy ⟨u1,u2,ys,rfl,ha,hS,S'⟩;have hi:i<(prs ns.length).length:=by rw[<-ht.1];exact(Ue.mp hy).1
   have hg:=Ua hi;obtain⟨b,e1,e2⟩:=ht.2 i _ hg;rw[hy] at e1;have e1:y=.ref b:=UK e1;subst e1;obtain⟨⟨lo,hi'⟩,hpr⟩:∃pr,(prs ns.length)[i]=pr:=⟨_,rfl⟩;rw[hpr] at e2 hg;obtain⟨m1,m2⟩:lo<hi'/\hi'<=ns.length:=jU (Uu hg);have at1:atI ((jF ns ns.length).map V.int) (hi':Int)=some (.int (qk ns hi')):=qa (by rw[Up,jl ns _ _ m2];rfl);have at2:atI ((jF ns ns.length).map V.int) (lo:Int)=some (.int (qk ns lo)):=qa (by rw[Up,jl ns _ _ (by lia)];rfl);have hah':=S' _ _ hah2;refine⟨b,_,rfl,SqT.of (S' _ _ e2),rfl,_,_,rfl,_,_,rfl,rfl,?_⟩;refine⟨_,rfl,_,rfl,ah,_,_,_,rfl,rfl,SqL.of hah',at1,_,rfl,_,rfl,ah,_,_,_,rfl,rfl,SqL.of hah',at2,_,_,rfl,rfl,_,rfl,_,rfl,by show 2<=sizeLine;lia,fun t1 ht1=>⟨by show 2<=sizeLine;lia,fun t2 ht2=>?_⟩⟩;have Z:Same H' (upd (upd H' t1 (.tup [.int (lo:Int),.int (hi':Int)])) t2 (.tup [.int (qk ns hi'-qk ns lo),.ref t1])):=(Same.lay ht1).trans (Same.lay ht2);have z1:upd (upd H' t1 (.tup [.int (lo:Int),.int (hi':Int)])) t2 (.tup [.int (qk ns hi'-qk ns lo),.ref t1]) t1=some (.tup (g2 (lo,hi'))):=Same.lay ht2 _ _ zd;have z2:upd (upd H' t1 (.tup [.int (lo:Int),.int (hi':Int)])) t2 (.tup [.int (qk ns hi'-qk ns lo),.ref t1]) t2=some (.tup [.int (qk ns hi'-qk ns lo),.ref t1]):=zd;have za:=Z _ _ ha;show ∃xs,upd (upd H' t1 (.tup [.int (lo:Int),.int (hi':Int)])) t2 (.tup [.int (qk ns hi'-qk ns lo),.ref t1]) acc=_/\_;generalize upd (upd H' t1 (.tup [.int (lo:Int),.int (hi':Int)])) t2 (.tup [.int (qk ns hi'-qk ns lo),.ref t1])=H'' at Z z1 z2 za ⊢;refine⟨_,za,zO (by rw[hS.1,UA];lia),_,_,_,rfl,zd,?_,fun c o e=>by rw[zi (zf e hacc)];exact Z _ _ (S' _ _ e)⟩;rw[take_succ hg];exact SumsAt.snoc (p:=(lo,hi')) ((hS.mono fun c zs e=>Z _ _ e).mono (qY za)) (qY za _ _ z2) (qY za _ _ z1)
  rintro σ H3 ⟨u1,u2,ys,rfl,hacc3,hS3,S3⟩;rw[ht.1,US] at hS3;refine⟨acc,ys,cds ns,rfl,SqL.of hacc3,bT hS3,by rw[hS3.1];exact plen,fun q ws ds hq pw pd dp so=>?_⟩;have wl:ws.length=(prs ns.length).length:=by rw[pw.length_eq,hS3.1]
  have dl:ws.length=ds.length:=Oa pd;have S4:Same H3 (upd H3 q (.lst ws)):=Same.lay hq;have hq4:upd H3 q (.lst ws) q=some (.lst ws):=zd;have pd4:=bN (Nt.of S4) pd;dsimp only[zx];refine zU zC ?_;generalize upd H3 q (.lst ws)=H4 at S4 hq4 pd4 ⊢;have S24:=S3.trans S4;have s4:=hs.same hTb (S02.trans S24);have hap4:=S24 _ _ hap;have hah4:=S24 _ _ hah2;have ht4:=ht.mono (qi S24);clear hacc3 hS3 pw pd hq hacc ht hah hah2 hap;refine⟨_,rfl,_,rfl,_,rfl,a,p,scr,at',ns,rfl,s4.scr,a0,by lia,s4.row,hl60,hfew,fun tot H5 htot S5=>?_⟩;dsimp only[zx];have N05:=Nt.of ((S02.trans S24).trans S5);have s5:=s4.same hTb S5;have hq5:=S5 _ _ hq4;have pd5:=bN (Nt.of S5) pd4;have hap5:=S5 _ _ hap4;have hah5:=S5 _ _ hah4;have ht5:=ht4.mono (qi S5);clear hq4 pd4 hap4 hah4 ht4 s4 S24 S3 S4 S02 S1 S2 S5;refine wU zD (fun σ' H'=>∃(vk vd:Option V),σ'=[some (.ref a),some (.ref x),some (.str n),some (.ref p),some (.int at'),some (.ref ah),some (.ref ap),some (.ref q),some (.int tot),vk,vd,none,none,none,none]/\Nt H5 H'/\Tb H') ?_ (fun _ rest=>?_);rotate_left
  ·
   refine⟨_,rfl,by show 0<=sizeLine;lia,fun l0 hl0=>?_⟩;have S6:Same H5 (upd H5 l0 (.lst [])):=Same.lay hl0;refine⟨q,l0,ws,rfl,rfl,SqL.of (S6 _ _ hq5),SqL.of zd,_,rfl,qB (fun e=>?_) (fun e=>rest _ _ ⟨none,none,rfl,Nt.of S6,hTb.same S6 s5.tb⟩)⟩;generalize upd H5 l0 (.lst [])=H6 at S6 ⊢;have s6:=s5.same hTb S6
   have wpos:0<ws.length:=by
    cases ws with
    |nil=>exact absurd e (by decide)
    |cons _ _=>simp
   refine⟨_,rfl,_,rfl,_,_,rfl,rfl,a,scr,_,rfl,s6.scr,by lia,by lia,fun r H7 _ _ S7=>⟨_,rfl,q,_,rfl,.inl (SqL.of (S7 _ _ (S6 _ _ hq5))),_,_,rfl,rfl,(by show(0:Int)<_;lia),?_⟩⟩;have⟨r0,r1⟩:=mod_lt r (ws.length:Int) (by lia);obtain⟨kn,hkn⟩:=Og r0;dsimp only[zx];rw[hkn];have hk:kn<ds.length:=by lia
   have s7:=s6.same hTb S7;have S57:=S6.trans S7;obtain⟨v,e1,va,vb,sv,lo,hi',rfl,hva,hvb,hc⟩:=Paired.atR (bN (Nt.of S57) pd5) (Ua hk);obtain⟨pr,hpr,e3⟩:=code_at dp (Ua hk);have e0:=hc.symm.trans e3;unfold cd1 at e0;injection e0 with y1 y2
   injection y2 with y2 y3
   injection y3 with y3 _
   subst y1 y2 y3;have hm:=jU hpr;have hlow:=bC hl60 hpr;have hsm:(sm ns pr).natAbs<10^15:=O5 (bX hl60 hfew (by lia)) (by decide);have hq7:=S57 _ _ hq5;have l1:=z9 (by decide) hsm;have l2:(shP pr).length<=100:=za3 fun q e=>by cases e;exact hlow
   have l3:=kX;have hkl:((kn:Nat):Int).natAbs<10^14:=by rw[Ow];exact UP hk (UU (by lia) (UU plen (by decide)))
   have l4:=z9 (by decide) hkl;have l4':(Str.ofString (toString (kn:Int))).length<=14+1:=l4;refine⟨_,rfl,_,rfl,q,_,_,_,rfl,rfl,SqL.of hq7,qa (j:=kn) e1,va,_,0,_,rfl,rfl,SqT.of hva,rfl,_,rfl,qc hsm,_,_,rfl,rfl,by show(zy (sm ns pr)).length+(" ":Str).length<=sizeLine;lia,_,rfl,_,rfl,q,_,_,_,rfl,rfl,SqL.of hq7,qa (j:=kn) e1,va,_,1,_,rfl,rfl,SqT.of hva,rfl,vb,pr,rfl,hvb,hlow,_,_,rfl,rfl,by rw[Uo];show(zy (sm ns pr)).length+(" ":Str).length+(shP pr).length<=sizeLine;lia,by show 1<=sizeLine;lia,fun dl' hdl=>?_⟩;have S8:Same H7 (upd H7 dl' (.lst [.str (zy (sm ns pr)++" "++shP pr)])):=Same.lay hdl;have e8:qL (upd H7 dl' (.lst [.str (zy (sm ns pr)++" "++shP pr)])) dl' [smS (sm ns pr) pr]:=zd;dsimp only[zx];show zio _ _ _ _ _ (upd H7 dl' (.lst [.str (zy (sm ns pr)++" "++shP pr)]));generalize upd H7 dl' (.lst [.str (zy (sm ns pr)++" "++shP pr)])=H8 at S8 e8 ⊢;have s8:=s7.same hTb S8;have l5:=zhe;refine⟨_,rfl,_,rfl,_,_,rfl,rfl,by lia,_,_,rfl,rfl,by rw[Uo];lia,_,rfl,_,rfl,qc (vA (by decide) (by decide) hkl),_,_,rfl,rfl,by rw[Uo,Uo];lia,_,rfl,x,d,dl',_,_,rfl,s8.asked (Ask.order kn (by lia)) (by decide) (fun j hj=>by rw[Uz.mp hj];exact hkl) (zh6 (xS 4 (by decide)) zf2 hnm) (by rw[Uo,Uo,Uo];lia) ?_,e8,by show 1<=1000;decide,fun H9 n9 t9=>⟨_,rfl,zbw (rest _ _ ⟨_,_,rfl,(Nt.of (S57.trans S8)).trans n9,t9⟩)⟩⟩;rintro zs ⟨ds',pr',p1,p2,p3,p4,rfl⟩;have ed:ds=ds':=zca (dp.trans p1.symm) so p2;subst ed;rw[Ua hk,e3] at p3;rw[zhF ns pr pr' (UK p3)]
  ·rintro σ H6 ⟨vk,vd,rfl,n6,t6⟩;refine zU zE ?_;have s6:=s5.nt n6 t6;have hq6:=n6.lst hq5;have pd6:=bN n6 pd5;have hap6:=n6.lst hap5;have hah6:=n6.lst hah5;have ht6:=n6.tups ht5;have N06:=N05.trans n6;clear hq5 pd5 hap5 hah5 ht5 s5;refine⟨_,rfl,q,rfl,⟨_,SqL.of hq6⟩,fun nr hnr=>?_⟩;refine qb (xs:=ws) (fun i σ H'=>∃(u:Option V) (ys:List V),σ=[u,some (.int tot)]/\H' nr=some (.lst ys)/\Paired (VDt H') ys ((ds.take i).map (zd0 tot))/\Same H6 H') ⟨none,[],rfl,zd,.nil,Same.lay hnr⟩ ?_ ?_ ?_
   ·rintro i σ H' _ ⟨u,ys,rfl,_,_,S'⟩;exact SqL.of (S' _ _ hq6)
   ·rintro i y σ H' hy ⟨u,ys,rfl,ha,hS,S'⟩;have hi:i<ds.length:=by rw[<-dl];exact(Ue.mp hy).1
    have hg:=Ua hi;obtain⟨v,e1,va,vb,sv,lo,hi',rfl,hva,hvb,hc⟩:=Paired.atR (bN (Nt.of S') pd6) hg;rw[hy] at e1;have e1:y=.ref va:=UK e1;subst e1;refine⟨_,rfl,va,_,0,_,rfl,rfl,SqT.of hva,rfl,_,rfl,_,_,rfl,rfl,_,rfl,_,rfl,by show 2<=sizeLine;lia,fun tp htp=>?_⟩;have Z:=Same.lay (o:=.tup [.int (zgJ (sv-tot)),.ref va]) htp;have za:=Z _ _ ha;refine⟨_,za,zO (by rw[Oa hS,Ud,UA];lia),_,_,rfl,zd,?_,fun c o e=>by rw[zi (zf e hnr)];exact Z _ _ (S' _ _ e)⟩;rw[take_succ hg,Ux];have kt:∀{c:Addr}{zs:List V},H' c=some (.tup zs)->upd (upd H' tp (.tup [.int (zgJ (sv-tot)),.ref va])) nr (.lst (ys++[.ref tp])) c=some (.tup zs):=fun e=>qY za _ _ (Z _ _ e);refine fD ⟨tp,va,vb,_,_,_,_,rfl,qY za _ _ zd,kt hva,kt hvb,?_⟩ (Paired.imp' (fun _ _ ⟨p1,q1,r1,d1,n1,a1,b1,f1,f2,f3,f4,f5⟩=>⟨p1,q1,r1,d1,n1,a1,b1,f1,kt f2,kt f3,kt f4,f5⟩) hS);show zd0 tot ds[i]=_;rw[hc];rfl
   rintro σ H7 ⟨u,ys,rfl,hnr7,hS7,S7⟩;rw[dl,US] at hS7;dsimp only[zx];refine zU zF ?_;have yl:ys.length=ds.length:=by rw[Oa hS7,Ud]
   refine⟨_,rfl,nr,ys,_,rfl,SqL.of hnr7,hS7,by rw[yl];lia,fun q2 ws2 es hq2 pw2 pd2 dp2 so2=>?_⟩;have S8:Same H7 (upd H7 q2 (.lst ws2)):=Same.lay hq2;have hq8:upd H7 q2 (.lst ws2) q2=some (.lst ws2):=zd;generalize upd H7 q2 (.lst ws2)=H8 at S8 hq8 ⊢;refine⟨1,rfl,q2,ws2,rfl,SqL.of hq8,fun q3 hq3=>?_⟩;rw[show(some (1:Int))=some ((1:Nat):Int) from rfl,zhA];have S9:Same H8 (upd H8 q3 (.lst (ws2.take 1))):=Same.lay hq3;have hq9:upd H8 q3 (.lst (ws2.take 1)) q3=some (.lst (ws2.take 1)):=zd;generalize upd H8 q3 (.lst (ws2.take 1))=H9 at S9 hq9 ⊢;have S79:=S8.trans S9;refine⟨q3,rfl,⟨_,SqL.of hq9⟩,fun du hdu=>?_⟩;have hper:=zeP dp dp2
   have hnear:∃o,Fst (nrC ns tot) ns.length o/\∀v∈ws2.take 1,∃pr,o=some pr/\VDt H9 v (nrC ns tot pr):=by
    cases pd2 with
    |nil=>exact⟨none,zeQ hper,fun v hv=>nomatch hv⟩
    |cons h1 h2=>
     obtain⟨pr,e,hF⟩:=zeO hper so2
     exact⟨some pr,hF,fun v hv=>⟨pr,rfl,by
      have:v=_:=Uz.mp hv;rw[this,<-e];exact bP _ _ _ _ S79 h1⟩⟩
   have hlen2:ws2.length=es.length:=Oa pd2;obtain⟨o,hF,hv⟩:=hnear
   have hcnt:(zdZ ns o).length=(ws2.take 1).length:=by
    have e1:es.length=(prs ns.length).length:=by rw[hper.length_eq,Ud]
    cases o with
    |none=>
     have:prs ns.length=[]:=hF;rw[this] at e1;rw[UA,hlen2,e1];rfl
    |some pr=>
     have:0<(prs ns.length).length:=List.length_pos_of_mem hF.1;rw[UA,hlen2,e1];show 1=_;lia
   refine qb (xs:=ws2.take 1) (fun i σ H'=>∃(u1 u2:Option V),σ=[u1,u2]/\H' du=some (.lst (((zdZ ns o).take i).map V.str))/\Same H9 H') ⟨none,none,rfl,zd,Same.lay hdu⟩ ?_ ?_ ?_
   ·rintro i σ H' _ ⟨u1,u2,rfl,_,S'⟩;exact SqL.of (S' _ _ hq9)
   ·rintro i y σ H' hy ⟨u1,u2,rfl,ha,S'⟩;obtain⟨pr,eo,hvd⟩:=hv y (Uu hy);subst eo;obtain⟨tp,va,vb,dd,sv,lo,hi',rfl,g1,g2',g3,gc⟩:=bP _ _ _ _ S' hvd;unfold nrC at gc;injection gc with y0 y1
    injection y1 with y1 y2
    injection y2 with y2 y3
    injection y3 with y3 _
    subst y0 y1 y2 y3;have hpr:pr∈prs ns.length:=hF.1;have hm:=jU hpr;have hlow:=bC hl60 hpr;have hsm:(sm ns pr).natAbs<10^15:=O5 (bX hl60 hfew (by lia)) (by decide);have l1:=z9 (by decide) hsm;have l2:(shP pr).length<=100:=za3 fun q e=>by cases e;exact hlow
    have l3:=kX
    have hi0:i=0:=by
     have:=(Ue.mp hy).1;rw[UA] at this;lia
    subst hi0;refine⟨tp,_,rfl,SqT.of g1,rfl,_,_,rfl,_,_,rfl,rfl,?_⟩;refine⟨_,rfl,va,_,0,_,rfl,rfl,SqT.of g2',rfl,_,rfl,qc hsm,_,_,rfl,rfl,by show(zy (sm ns pr)).length+(" ":Str).length<=sizeLine;lia,_,rfl,va,_,1,_,rfl,rfl,SqT.of g2',rfl,vb,pr,rfl,g3,hlow,_,_,rfl,rfl,by rw[Uo];show(zy (sm ns pr)).length+(" ":Str).length+(shP pr).length<=sizeLine;lia,_,ha,by show 0<sizeLine;lia,?_⟩;exact⟨_,_,rfl,zd,fun c o e=>by rw[zi (zf e hdu)];exact S' _ _ e⟩
   rintro σ H10 ⟨u1,u2,rfl,hdu10,S10⟩;rw[<-hcnt,US] at hdu10;dsimp only[zx];subst zG;refine zgY fun _ _ _ _ zA zB zC zD=>?_;have S610:=(S7.trans S79).trans S10;have s10:=s6.same hTb S610;have htl:tot.natAbs<10^15:=vA (by decide) (by decide) htot;have l4:=z9 (by decide) htl;have l4':(Str.ofString (toString tot)).length<=15+1:=l4;have l5:=zf9;have l6:=kX;refine⟨_,rfl,_,rfl,_,_,rfl,rfl,by lia,_,_,rfl,rfl,by rw[Uo];lia,_,rfl,_,rfl,qc htl,_,_,rfl,rfl,by rw[Uo,Uo];lia,_,rfl,x,d,du,_,zdZ ns o,rfl,s10.asked (Ask.near tot) (by decide) (fun j hj=>by rw[Uz.mp hj];exact htot) (zh6 (xS 5 (by decide)) zeR hnm) (by rw[Uo,Uo,Uo];lia) ?_,hdu10,by rw[hcnt,UA];lia,fun H11 n11 t11=>⟨_,rfl,zbw ?_⟩⟩
   ·rintro zs ⟨o',hF',rfl⟩;rw[zgp (zhl ns tot) hF' hF]
   dsimp only[bS];refine zU zA ?_;have n611:=(Nt.of S610).trans n11;have s11:=s6.nt n611 t11;have hap11:=n611.lst hap6;have hah11:=n611.lst hah6;have ht11:=n611.tups ht6;have N011:=N06.trans n611;clear hdu10 hcnt hv hF hper hq9 hq8 pd2 dp2 so2 pw2 hS7 hnr7 s10 S610 S10 S79 S9 S8 S7 pd6 hq6 s6 hap6 hah6 ht6 n611 n11 n6 N05 N06 hq3 hdu hq2 hnr;refine⟨_,rfl,_,rfl,_,_,rfl,rfl,a,scr,_,rfl,s11.scr,by lia,by lia,fun r1 H12 _ _ S12=>?_⟩;refine⟨_,_,rfl,rfl,⟨by decide,by decide,by decide⟩,by show 3<=sizeLine;lia,fun tp htp=>?_⟩;have S13:Same H12 (upd H12 tp (.tup [.int 5,.int 60,.int (10^toNat 6)])):=Same.lay htp;have e13:upd H12 tp (.tup [.int 5,.int 60,.int (10^toNat 6)]) tp=some (.tup (([5,60,10^toNat 6]:List Int).map V.int)):=zd;show tOp _ _ _ _ (upd H12 tp (.tup [.int 5,.int 60,.int (10^toNat 6)])) _;generalize upd H12 tp (.tup [.int 5,.int 60,.int (10^toNat 6)])=H13 at S13 e13 ⊢;have s13:=(s11.same hTb S12).same hTb S13;refine⟨_,rfl,_,rfl,_,_,rfl,rfl,a,scr,_,rfl,s13.scr,by lia,by lia,fun r2 H14 _ _ S14=>⟨_,_,rfl,rfl,(by show(0:Int)<_;decide),?_⟩⟩;have⟨q0,q1⟩:=mod_lt r2 3 (by decide);obtain⟨mm,hat,hmm,_⟩:=vX [5,60,10^toNat 6] q0 (by simpa using q1)
   have hmm:0<mm/\mm<=1000000:=by
    rw[e6] at hmm;simp only[Uw,Oq,RT] at hmm;rcases hmm with h|h|h<;>lia
   refine⟨tp,_,_,_,rfl,rfl,SqT.of (S14 _ _ e13),hat,_,_,rfl,rfl,hmm.1,_,_,rfl,rfl,?_⟩;have⟨c0,c1⟩:=mod_lt r1 mm hmm.1;obtain⟨m,hm⟩:∃m,1+r1%mm=m:=⟨_,rfl⟩;dsimp only[zx];refine zU zB ?_;rw[hm];have m0:0<m:=by lia
   have m1:m<=1000000:=by lia
   have s14:=s13.same hTb S14;have S114:=(S12.trans S13).trans S14;refine⟨_,rfl,_,rfl,_,_,rfl,rfl,m0,_,rfl,_,rfl,_,_,rfl,rfl,a,scr,_,rfl,s14.scr,by lia,by lia,fun r3 H15 _ _ S15=>⟨_,rfl,_,_,rfl,rfl,m0,by show 2<=sizeLine;lia,fun rl hrl=>?_⟩⟩;have S16:Same H15 (upd H15 rl (.lst [.int (tot%m),.int (r3%m)])):=Same.lay hrl;have e16:upd H15 rl (.lst [.int (tot%m),.int (r3%m)]) rl=some (.lst (([tot%m,r3%m]:List Int).map V.int)):=zd;show tOp _ _ _ _ (upd H15 rl (.lst [.int (tot%m),.int (r3%m)])) _;generalize upd H15 rl (.lst [.int (tot%m),.int (r3%m)])=H16 at S16 e16 ⊢;have s16:=(s14.same hTb S15).same hTb S16;refine⟨_,rfl,_,rfl,_,_,rfl,rfl,a,scr,_,rfl,s16.scr,by lia,by lia,fun r4 H17 _ _ S17=>⟨_,_,rfl,rfl,(by show(0:Int)<_;decide),?_⟩⟩;have⟨w0,w1⟩:=mod_lt r4 2 (by decide);obtain⟨re,hat2,hre,_⟩:=vX [tot%m,r3%m] w0 (by simpa using w1)
   have hre:0<=re/\re<m:=by
    simp only[Uw,Oq,RT] at hre;rcases hre with h|h
    ·rw[h];exact mod_lt _ _ m0
    ·rw[h];exact mod_lt _ _ m0
   refine⟨rl,_,_,_,rfl,rfl,SqL.of (S17 _ _ e16),hat2,?_⟩;dsimp only[zx];refine zU zC ?_;have S1117:=(S114.trans (S15.trans S16)).trans S17;have s17:=s16.same hTb S17;have hap17:=S1117 _ _ hap11;have hah17:=S1117 _ _ hah11;have ht17:=ht11.mono (qi S1117);clear hap11 hah11 ht11 s16 s14 s13 e13 e16;refine⟨_,rfl,ap,rfl,⟨_,SqL.of hap17⟩,fun pl hpl=>?_⟩;refine qb (xs:=xs) (fun i σ H'=>∃(u:Option V) (zs:List V),σ=[u,some (.ref ah),some (.int m),some (.int re)]/\H' pl=some (.lst zs)/\TupsAt g2 H' zs (((prs ns.length).take i).filter (hb ns (rmT m re)))/\Same H17 H') ⟨none,[],rfl,zd,TupsAt.nil,Same.lay hpl⟩ ?_ ?_ ?_
   ·rintro i σ H' _ ⟨u,zs,rfl,_,_,S'⟩;exact SqL.of (S' _ _ hap17)
   ·rintro i y σ H' hy ⟨u,zs,rfl,ha,hS,S'⟩;have hi:i<(prs ns.length).length:=by rw[<-ht17.1];exact(Ue.mp hy).1
    have hg:=Ua hi;obtain⟨b,e1,e2⟩:=ht17.2 i _ hg;rw[hy] at e1;have e1:y=.ref b:=UK e1;subst e1;obtain⟨⟨lo,hi'⟩,hpr⟩:∃pr,(prs ns.length)[i]=pr:=⟨_,rfl⟩;rw[hpr] at e2 hg;obtain⟨m1,m2⟩:lo<hi'/\hi'<=ns.length:=jU (Uu hg);have at1:atI ((jF ns ns.length).map V.int) (hi':Int)=some (.int (qk ns hi')):=qa (by rw[Up,jl ns _ _ m2];rfl);have at2:atI ((jF ns ns.length).map V.int) (lo:Int)=some (.int (qk ns lo)):=qa (by rw[Up,jl ns _ _ (by lia)];rfl);have hah':=S' _ _ hah17;have e2':=S' _ _ e2;refine⟨_,rfl,_,rfl,b,_,1,_,rfl,rfl,SqT.of e2',rfl,ah,_,_,_,rfl,rfl,SqL.of hah',at1,_,rfl,_,rfl,b,_,0,_,rfl,rfl,SqT.of e2',rfl,ah,_,_,_,rfl,rfl,SqL.of hah',at2,_,_,rfl,rfl,_,rfl,_,_,rfl,rfl,m0,_,rfl,rfl,_,rfl,?_⟩;have ed:decide (V.int ((qk ns hi'-qk ns lo)%m)=V.int re)=hb ns (rmT m re) (lo,hi'):=Rb.mpr ⟨fun h=>by injection h,fun h=>by rw[h]⟩;rw[ed];refine qB (fun c=>?_) (fun c=>?_)
    ·refine⟨_,rfl,_,ha,zO (by rw[hS.1];refine UU (UQ _ _) ?_;rw[UA];lia),_,_,rfl,zd,?_,fun c o e=>by rw[zi (zf e hpl)];exact S' _ _ e⟩;rw[take_succ hg,vE,Uv c];exact TupsAt.snoc (p:=(lo,hi')) (hS.mono (qY ha)) (qY ha _ _ e2')
    ·refine⟨_,_,rfl,ha,?_,S'⟩;rw[take_succ hg,vE,Ur c,Ol];exact hS
   rintro σ H18 ⟨u,zs,rfl,hpl18,hS18,S18⟩;rw[ht17.1,US] at hS18;dsimp only[zx];subst zD;have hml:m.natAbs<10^14:=by lia
   have hrl':re.natAbs<10^14:=by lia
   have l7:=z9 (by decide) hml;have l8:=z9 (by decide) hrl';have l7':(Str.ofString (toString m)).length<=14+1:=l7;have l8':(Str.ofString (toString re)).length<=14+1:=l8;have l9:=zfO;refine⟨_,rfl,_,rfl,_,_,rfl,rfl,by lia,_,_,rfl,rfl,by rw[Uo];lia,_,rfl,_,rfl,qc (vA (by decide) (by decide) hml),_,_,rfl,rfl,by rw[Uo,Uo];lia,_,_,rfl,rfl,by rw[Uo,Uo,Uo];lia,_,rfl,_,rfl,qc (vA (by decide) (by decide) hrl'),_,_,rfl,rfl,by rw[Uo,Uo,Uo,Uo];lia,_,rfl,pl,zs,zm ns (rmT m re),rfl,hpl18,hS18,qA _ _,UU (UQ _ _) plen,fun c hc=>⟨jX hl60 hc,(vW hc).1⟩,fun du2 H19 _ hdu2 S19=>?_⟩;have s19:=(s17.same hTb S18).same hTb S19
   refine⟨x,d,du2,_,gp (zm ns (rmT m re)),rfl,s19.asked (Ask.rest m re hre.1 hre.2) (by decide) (fun j hj=>by
    rcases Uw.mp hj with rfl|hj
    ·exact hml
    ·rw[Uz.mp hj];exact hrl') (zh5 (xS 3 (by decide)) zeA hnm) (by rw[Uo,Uo,Uo,Uo,Uo];lia) (fun zs e=>e),hdu2,by show 4<=1000;decide,fun H20 n20 t20=>k _ ((N011.trans (Nt.of (S1117.trans (S18.trans S19)))).trans n20) t20⟩
theorem e14:(10:Int)^(toNat 14)=100000000000000:=by decide
theorem zew:("show ":Str).cps.toList=(wd 0).cps.toList++[32]:=by decide +kernel
theorem zfK:("show ":Str).length=5:=by decide +kernel
theorem zii:("count":Str).length=5/\("within":Str).length=6/\("apart":Str).length=5/\("parted":Str).length=6/\("points":Str).length=6:=by decide +kernel
theorem ziT (n:Int):¬zy n=("":Str):=fun e=>by
 have h1:=zcv n;rw[e] at h1;exact absurd h1 (by decide +kernel)
theorem zc3:Txt.split (shown []) blank=[("":Str)]:=by decide +kernel
theorem nts (n:Nt H H'){zs:List Str}(h:qL H l zs):qL H' l zs:=n.lst h
def zb7 (K:Frag)(C:Addr)(Tb:Hp->Prop):Sp:=fun vs H Q _=>∃(a x d p:Addr) (scr:List Int) (rows:Rows) (n:Str) (ns:List Int) (at':Int),vs=[.ref a,.ref x,.str n,.ref p,.int at']/\Sit K C Tb H a x d p scr rows n ns/\0<=at'/\at'<80000/\∀H',Nt H H'->Tb H'->Q (.bl true) H'
abbrev zW:Stmt:=top 76
theorem Zf:zt ["script","desk","name","row","at","shown","early","total","behind","pairs","high","due","many","first","told","points","low"] ["script","desk","name","row","at"] (zh zW):=fsc_
theorem y7 {f8 f9 f10:Addr}{fd8 fd9 fd10:FuncData}(hTb:zgK Tb)(F:Fun K "_law_asked_right" "_law_asked_right" zW f fd)(T:Txt mg)(TC:pH K mg C)(Zi:zK K mg "_law_with" jK ["row","low_sum","high_sum"] f2 fd2)(ZO:FnOk P w K mg base CX0 2 f2 fd2 ["row","low_sum","high_sum"] bU)(Zt:zK K mg "_law_total" xg ["script","at","row"] f3 fd3)(QA:FnOk P w K mg base CX0 3 f3 fd3 ["script","at","row"] (zc5 K))(Za:zK K mg "_law_draw" qF ["script","k"] f4 fd4)(Zd:FnOk P w K mg base CX0 1 f4 fd4 ["script","k"] (wR K))(Zg:zK K mg "_law_pair" vI ["pair"] f5 fd5)(ZJ:FnOk P w K mg base CX0 1 f5 fd5 ["pair"] zgT)(Zc:zK K mg "_law_twice" xf ["desk","line","due"] f6 fd6)(Zz:FnOk P w K mg base CX0 9 f6 fd6 ["desk","line","due"] (zaU C Tb))(Zq:zK K mg "_law_three" qD ["pairs"] f7 fd7)(Qr:FnOk P w K mg base CX0 2 f7 fd7 ["pairs"] zaV)(Zw:zK K mg "_law_first_apart" qM ["row","total"] f8 fd8)(QK:FnOk P w K mg base CX0 3 f8 fd8 ["row","total"] zb5)(ZI:zK K mg "_law_partings" vH ["row","total"] f9 fd9)(QV:FnOk P w K mg base CX0 3 f9 fd9 ["row","total"] zdM)(ZC:zK K mg "_law_sums_right" qj ["script","desk","name","row","at"] f10 fd10)(QQ:FnOk P w K mg base CX0 10 f10 fd10 ["script","desk","name","row","at"] (zdL K C Tb))(QD:MethAt K C "ask" "Desk.ask" zcf ["self","line"] f1 fd1)(Q1:FnOk P w K mg base CX0 8 f1 fd1 ["self","line"] (zb8 C Tb)) :
 FnOk P w K mg base CX0 11 f fd ["script","desk","name","row","at"] (zb7 K C Tb):=by
 refine F.ok Zf (fun vs H Q E h=>?_) (fun cdv A outer s H vs Q E hr h=>?_)
 ·obtain⟨a,x,d,p,scr,rows,n,ns,at',rfl,_⟩:=h;rfl
 ·obtain⟨a,x,d,p,scr,rows,n,ns,at',rfl,hs,a0,a1,k⟩:=h;have hu:=hr.units0;have hsl:=UV;obtain⟨hnm,hl60,hfew⟩:=hs.few;have hn8:=gi hnm;have plen:=qP ns.length hs.row.2;have hsml:=zbB hfew;have one:=kX;have lsh:=zfK;obtain⟨lco,lwi,lap,lpa,lpo⟩:=zii
  refine⟨_,(ze (zq (i:=5) Zf.nd rfl (Or.inl rfl) (zR (zb (jo Ov RA Rz gj zQ (zb (qf (N:=["number"]) (cap:=[none]) rfl (show qh ["script","desk","name","row","at","shown","early","total","behind","pairs","high","due","many","first","told","points","low"] (zh zW) ["number"] [none] _=true by decide +kernel) (piT (K:=K) rfl (pv 3)) (fun cl C s3 H3 fp=>⟨(zo (i:=0) (show(["number"]:List Str).Nodup by decide +kernel) rfl (Or.inl rfl)),qe,fun it acc=>(zP rfl (zJ zN (by rfl) T.b_str PyProof.Rows.Boot.«str» (zb (pv 0) zc)))⟩)) zc)) zc)))
   (ze (zq (i:=6) Zf.nd rfl (Or.inl rfl) (yq qU (zk zS (zl Zd (hr.mono (by first|decide|exact Ub _)) rfl Za.mg Za.fn.kp Za.bd .nil zp (zb (pv 0) (zb (zk zM (pv 4) zg) zc))) zg) zg (zH _)))
   (ze (z8 (PW.pt (vj (jN (pv 6)) (jC (qV (jN (zl Zz (hr.mono (by first|decide|exact Ub _)) rfl Zc.mg Zc.fn.kp Zc.bd .nil zp (zb (pv 1) (zb (zk zu zQ (pv 2)) (zb (pv 5) zc)))))))))
     (zj (zr vw))
     zL)
   (ze (zq (i:=7) Zf.nd rfl (Or.inl rfl) (zl QA (hr.mono (by first|decide|exact Ub _)) rfl Zt.mg Zt.fn.kp Zt.bd .nil zp (zb (pv 0) (zb (pv 4) (zb (pv 3) zc)))))
   (ze (zq (i:=8) Zf.nd rfl (Or.inl rfl) (zk zu (zk zu (zk zu zQ (pv 2)) zQ) (zJ zN (by rfl) T.b_str PyProof.Rows.Boot.«str» (zb (pv 7) zc))))
   (ze (zq (i:=9) Zf.nd rfl (Or.inl rfl) (zl ZO (hr.mono (by first|decide|exact Ub _)) rfl Zi.mg Zi.fn.kp Zi.bd .nil zp (zb (pv 3) (zb (pv 7) (zb (pv 7) zc)))))
   (ze (z8 (qV (jN (zl Zz (hr.mono (by first|decide|exact Ub _)) rfl Zc.mg Zc.fn.kp Zc.bd .nil zp (zb (pv 1) (zb (zk zu zQ (pv 8)) (zb (zl Qr (hr.mono (by first|decide|exact Ub _)) rfl Zq.mg Zq.fn.kp Zq.bd .nil zp (zb (pv 9) zc)) zc))))))
     (zj (zr vw))
     zL)
   (ze (zq (i:=10) Zf.nd rfl (Or.inr rfl) (zk qp (zk zM (pv 7) (zk zS (zl Zd (hr.mono (by first|decide|exact Ub _)) rfl Za.mg Za.fn.kp Za.bd .nil zp (zb (pv 0) (zb (zk zM (pv 4) zg) zc))) zg)) zg))
   (ze (zq (i:=10) Zf.nd rfl (Or.inr rfl) (zv (zaH rfl) (by rfl) T.b_max PyProof.Rows.Boot.«max» (zb (zk qp zg (zk y4 zg zg)) (zb (zv (zaG rfl) (by rfl) T.b_min PyProof.Rows.Boot.«min» (zb (zk qp (zk y4 zg zg) zg) (zb (pv 10) zc))) zc))))
   (ze (zq (i:=11) Zf.nd rfl (Or.inl rfl) (zl Qr (hr.mono (by first|decide|exact Ub _)) rfl Zq.mg Zq.fn.kp Zq.bd .nil zp (zb (zl ZO (hr.mono (by first|decide|exact Ub _)) rfl Zi.mg Zi.fn.kp Zi.bd .nil zp (zb (pv 3) (zb (pv 7) (zb (pv 10) zc)))) zc)))
   (ze (z8 (qV (jN (zl Zz (hr.mono (by first|decide|exact Ub _)) rfl Zc.mg Zc.fn.kp Zc.bd .nil zp (zb (pv 1) (zb (zk zu (zk zu (zk zu zQ (pv 8)) zQ) (zJ zN (by rfl) T.b_str PyProof.Rows.Boot.«str» (zb (pv 10) zc))) (zb (pv 11) zc))))))
     (zj (zr vw))
     zL)
   (ze (qH (i:=11) (hN:=Zf.nd) (hy:=rfl) (hx:=rfl) (N:=["pair"]) (cap:=[none]) (hc:=rfl) (hok:=(show qh ["script","desk","name","row","at","shown","early","total","behind","pairs","high","due","many","first","told","points","low"] (zh zW) ["pair"] [none] _=true by decide +kernel) ) (hi:=(piL (K:=K) rfl (zl QK (hr.mono (by first|decide|exact Ub _)) rfl Zw.mg Zw.fn.kp Zw.bd .nil zp (zb (pv 3) (zb (pv 7) zc))))) (hb:=fun cl C s3 H3 fp=>⟨(zo (i:=0) (show(["pair"]:List Str).Nodup by decide +kernel) rfl (Or.inl rfl)),qe,fun it acc=>(zP rfl (zl ZJ (hr.mono (by first|decide|exact Ub _)) rfl Zg.mg Zg.fn.kp Zg.bd .nil zp (zb (pv 0) zc)))⟩))
   (ze (z8 (qV (jN (zl Zz (hr.mono (by first|decide|exact Ub _)) rfl Zc.mg Zc.fn.kp Zc.bd .nil zp (zb (pv 1) (zb (zk zu zQ (pv 8)) (zb (pv 11) zc))))))
     (zj (zr vw))
     zL)
   (ze (xB (zl QV (hr.mono (by first|decide|exact Ub _)) rfl ZI.mg ZI.fn.kp ZI.bd .nil zp (zb (pv 3) (zb (pv 7) zc))) (pgT (K:=K) (n:=2) rfl rfl (zI (zo (i:=12) Zf.nd rfl (Or.inl rfl)) (zI (zo (i:=13) Zf.nd rfl (Or.inl rfl)) qm))))
   (ze (z8 (qV (jN (zl Zz (hr.mono (by first|decide|exact Ub _)) rfl Zc.mg Zc.fn.kp Zc.bd .nil zp (zb (pv 1) (zb (zk zu zQ (pv 8)) (zb (zk vR (zR (zb (zJ zN (by rfl) T.b_str PyProof.Rows.Boot.«str» (zb (pv 12) zc)) zc)) (qf (N:=["pair"]) (cap:=[none]) rfl (show qh ["script","desk","name","row","at","shown","early","total","behind","pairs","high","due","many","first","told","points","low"] (zh zW) ["pair"] [none] _=true by decide +kernel) (piL (K:=K) rfl (pv 13)) (fun cl C s3 H3 fp=>⟨(zo (i:=0) (show(["pair"]:List Str).Nodup by decide +kernel) rfl (Or.inl rfl)),qe,fun it acc=>(zP rfl (zl ZJ (hr.mono (by first|decide|exact Ub _)) rfl Zg.mg Zg.fn.kp Zg.bd .nil zp (zb (pv 0) zc)))⟩))) zc))))))
     (zj (zr vw))
     zL)
   (ze (zq (i:=14) Zf.nd rfl (Or.inl rfl) (jV (pv 1) TC.cl QD.mt Q1 (hr.mono (by first|decide|exact Ub _)) QD.bd .nil zp (zb (zk zu zQ (pv 8)) zc)))
   (ze (qH (i:=15) (hN:=Zf.nd) (hy:=rfl) (hx:=rfl) (N:=["word"]) (cap:=[none]) (hc:=rfl) (hok:=(show qh ["script","desk","name","row","at","shown","early","total","behind","pairs","high","due","many","first","told","points","low"] (zh zW) ["word"] [none] _=true by decide +kernel) ) (hi:=(piL (K:=K) rfl (jo Ov RZ type_str_split zcx (zz (ixL (K:=K) rfl) (pv 14) zg (fun _ _=>rfl)) (zb zQ zc)))) (hb:=fun cl C s3 H3 fp=>⟨(zo (i:=0) (show(["word"]:List Str).Nodup by decide +kernel) rfl (Or.inl rfl)),(xm (zw dz (pv 0) zQ (zH _))),fun it acc=>(zP rfl (zJ xF (by rfl) T.b_int PyProof.Rows.Boot.«int» (zb (pv 0) zc)))⟩))
   (ze (z8 (PW.pt (kM (zw dz (zv (jh (K:=K) rfl) (by rfl) T.b_len PyProof.Rows.Boot.«len» (zb (pv 14) zc)) zg (zH _)) (kM (zw dz (zv (jh (K:=K) rfl) (by rfl) T.b_len PyProof.Rows.Boot.«len» (zb (pv 15) zc)) (zv (jh (K:=K) rfl) (by rfl) T.b_len PyProof.Rows.Boot.«len» (zb (pv 11) zc)) (zH _)) (ya (zw dz (jo Ov RA Rz gj zQ (zb (qf (N:=["one"]) (cap:=[none]) rfl (show qh ["script","desk","name","row","at","shown","early","total","behind","pairs","high","due","many","first","told","points","low"] (zh zW) ["one"] [none] _=true by decide +kernel) (piL (K:=K) rfl (pv 15)) (fun cl C s3 H3 fp=>⟨(zo (i:=0) (show(["one"]:List Str).Nodup by decide +kernel) rfl (Or.inl rfl)),qe,fun it acc=>(zP rfl (zJ zN (by rfl) T.b_str PyProof.Rows.Boot.«str» (zb (pv 0) zc)))⟩)) zc)) (zz (ixL (K:=K) rfl) (pv 14) zg (fun _ _=>rfl)) (zH _))))))
     (zj (zr vw))
     zL)
   (ze (qI U7 rfl (piL (K:=K) rfl (pv 9)) (pgT (K:=K) (n:=2) rfl rfl (zI (zo (i:=16) Zf.nd rfl (Or.inr rfl)) (zI (zo (i:=10) Zf.nd rfl (Or.inr rfl)) qm)))
     (zj (z8 (zw (zf4 (K:=K) rfl hu) (qf (N:=["one","high","low"]) (cap:=[none,some 10,some 16]) rfl (show qh ["script","desk","name","row","at","shown","early","total","behind","pairs","high","due","many","first","told","points","low"] (zh zW) ["one","high","low"] [none,some 10,some 16] _=true by decide +kernel) (piL (K:=K) rfl (pv 15)) (fun cl C s3 H3 fp=>⟨(zo (i:=0) (show(["one","high","low"]:List Str).Nodup by decide +kernel) rfl (Or.inl rfl)),(xm (PW.pt (vj (zw wC (pv 2) (pv 0) (zH _)) (jC (zw fE (pv 0) (pv 1) (zH _)))))),fun it acc=>(zP rfl (pv 0))⟩)) (zR zc) (zH _))
       (zj (zr vw))
       zL)))
   (ze (z8 (qV (jN (zl QQ (hr.mono (by first|decide|exact Ub _)) rfl ZC.mg ZC.fn.kp ZC.bd .nil zp (zb (pv 0) (zb (pv 1) (zb (pv 2) (zb (pv 3) (zb (zk zM (pv 4) zg) zc))))))))
     (zj (zr vw))
     zL)
   (zj (zr (zh0 (pv 6) (zbc (zl Zz (hr.mono (by first|decide|exact Ub _)) rfl Zc.mg Zc.fn.kp Zc.bd .nil zp (zb (pv 1) (zb (zk zu zQ (pv 2)) (zb (pv 5) zc)))))))))))))))))))))))))))),?_⟩
  refine ziw fun _ _ _ _ _ _ _ zA zB zC zD zE zF zG=>?_;refine⟨rfl,_,rfl,p,rfl,⟨_,SqT.of hs.row.1⟩,fun acc hacc=>?_⟩;refine wN (xs:=ns.map V.int) (fun i σ H'=>∃v:Option V,σ=[v]/\H' acc=some (.lst (((ns.take i).map zy).map V.str))/\Same H H') ⟨none,rfl,zd,Same.lay hacc⟩ ?_ ?_ ?_
  ·rintro i σ H1 hi ⟨v,rfl,ha,S1⟩;exact SqT.of (S1 _ _ hs.row.1)
  ·rintro i y σ H1 hx ⟨v,rfl,ha,S1⟩;obtain⟨m,hm,rfl⟩:∃m,ns[i]?=some m/\V.int m=y:=by rw[Up] at hx;exact UT.mp hx
   refine⟨_,rfl,m,rfl,qc (hsml m (Uu hm)),_,ha,zO (by rw[Ud,Ud,UA];lia),?_⟩;refine⟨_,rfl,?_,fun b o e=>by rw[zi (zf e hacc)];exact S1 _ _ e⟩;rw[zd,zV zy hm,Ux];rfl
  rintro σ H1 ⟨v,rfl,ha,S1⟩;rw[Ud,US] at ha;have hsum:=kD hsml;refine⟨blank,acc,ns.map zy,rfl,rfl,ha,by rw[Ud,show blank.length=1 from rfl];lia,by show 1<=sizeLine;lia,fun sh hsh=>?_⟩;have S2:Same H (upd H1 sh (.lst [.str (Str.join blank (ns.map zy))])):=S1.trans (Same.lay hsh);have e2:qL (upd H1 sh (.lst [.str (Str.join blank (ns.map zy))])) sh [shown ns]:=zd;dsimp only[zx];refine zU zA ?_;generalize upd H1 sh (.lst [.str (Str.join blank (ns.map zy))])=H2 at S2 e2 ⊢;have s2:=hs.same hTb S2;clear ha hacc hsh S1;refine⟨_,rfl,_,rfl,_,_,rfl,rfl,a,scr,_,rfl,s2.scr,by lia,by lia,fun r1 H3 _ _ S3=>⟨_,_,rfl,rfl,(by show(0:Int)<_;decide),rfl,?_⟩⟩;dsimp only[zx];generalize decide (V.int (r1%2)=V.int 1)=ea;have s3:=s2.same hTb S3;have e3:=nts (Nt.of S3) e2;have N3:=Nt.of (S2.trans S3);clear e2 s2 S2 S3;have lshow:∀{H':Hp},Sit K C Tb H' a x d p scr rows n ns->Asked C Tb H' x d ("show "++n) [shown ns]:=fun h=>h.asked Ask.show (by decide) (fun j hj=>nomatch hj) (zjY (xS 0 (by decide)) zew hnm) (by rw[Uo];lia) (fun zs e=>e);refine wU zB (fun σ' H'=>σ'=[some (.ref a),some (.ref x),some (.str n),some (.ref p),some (.int at'),some (.ref sh),some (.bl ea),none,none,none,none,none,none,none,none,none,none]/\Nt H3 H'/\Tb H') ?_ (fun _ rest=>?_);rotate_left
  ·refine⟨_,rfl,_,rfl,qB (fun e=>?_) (fun e=>qz (rest _ _ ⟨rfl,Nt.refl _,s3.tb⟩))⟩;exact⟨_,rfl,_,rfl,_,_,rfl,rfl,by lia,_,rfl,x,d,sh,_,_,rfl,lshow s3,e3,by show 1<=1000;decide,fun H4 n4 t4=>⟨_,rfl,zbw (rest _ _ ⟨rfl,n4,t4⟩)⟩⟩
  rintro σ H4 ⟨rfl,n4,t4⟩;refine zU zC ?_;have s4:=s3.nt n4 t4;have e4:=nts n4 e3;have N4:=N3.trans n4;clear s3 e3 n4 N3;refine⟨_,rfl,_,rfl,_,rfl,a,p,scr,at',ns,rfl,s4.scr,a0,by lia,s4.row,hl60,hfew,fun tot H5 htot S5=>?_⟩;dsimp only[zx];refine zU zD ?_;have htl:tot.natAbs<10^15:=vA (by decide) (by decide) htot;have l4:=z9 (by decide) htl;have l4':(Str.ofString (toString tot)).length<=15+1:=l4;refine⟨_,rfl,_,_,rfl,rfl,by lia,_,_,rfl,rfl,by rw[Uo];lia,_,rfl,_,rfl,qc htl,_,_,rfl,rfl,by rw[Uo,Uo];lia,?_⟩;dsimp only[zx];refine zU zE ?_;obtain⟨bh,hbh⟩:∃bh:Str," "++n++" "++zy tot=bh:=⟨_,rfl⟩;have lbh:bh.length<=30:=by rw[<-hbh,Uo,Uo,Uo];lia
  rw[show(" "++n++" "++Str.ofString (toString tot):Str)=bh from hbh];have s5:=s4.same hTb S5;have ask1:∀{H':Hp}{i:Nat}{wo:Str}{R:List Str->Prop}{due:List Str},Sit K C Tb H' a x d p scr rows n ns->wo=wd i->i<9->wo.length<=10->Ask ns i [tot] R->(∀zs,R zs->zs=due)->Asked C Tb H' x d (wo++bh) due:=fun h ew hi hw ha hR=>h.asked ha hi (fun j hj=>by rw[Uz.mp hj];exact htot) (by rw[<-hbh,ew];exact zh4 (xS _ hi) hnm) (by rw[Uo];lia) hR;refine⟨_,rfl,_,rfl,_,rfl,p,ns,tot,tot,rfl,s5.row,hl60,fun pa xs H6 _ hpa ht S6=>?_⟩;rw[zfn] at ht;dsimp only[zx];refine zU zF ?_;have s6:=s5.same hTb S6;have N6:=N4.trans (Nt.of (S5.trans S6));have e6:=nts (Nt.of (S5.trans S6)) e4;clear s4 s5 e4 N4 S5;have HO:=jg ns tot;have hitl:∀t:Int->Bool,(zm ns t).length<=1000000:=fun t=>UU (UQ _ _) plen;refine⟨_,rfl,_,rfl,_,_,rfl,rfl,by lia,_,rfl,pa,xs,_,rfl,hpa,ht,qA _ _,hitl _,fun c hc=>⟨jX hl60 hc,(vW hc).1⟩,fun d1 H7 _ hd1 S7=>⟨x,d,d1,_,_,rfl,ask1 (s6.same hTb S7) rfl (show 1<9 by decide) (by lia) (Ask.count tot) (fun zs e=>e),hd1,by show 4<=1000;decide,fun H8 n8 t8=>⟨_,rfl,zbw ?_⟩⟩⟩;subst zG;dsimp only[bS];refine ziw fun _ _ _ _ _ _ _ zA zB zC zD zE zF zG=>?_;have n68:=(Nt.of S7).trans n8;have s8:=s6.nt n68 t8;have hpa8:=n68.lst hpa;have ht8:=n68.tups ht;have e8:=nts n68 e6;have N8:=N6.trans n68;clear s6 hpa ht e6 N6 n68 n8 S7 hd1;refine⟨_,rfl,_,rfl,_,rfl,_,_,rfl,rfl,a,scr,_,rfl,s8.scr,by lia,by lia,fun r2 H9 _ _ S9=>⟨_,_,rfl,rfl,(by show(0:Int)<_;decide),_,_,rfl,rfl,_,_,rfl,rfl,?_⟩⟩;dsimp only[zx];refine zU zA ?_;refine⟨_,_,rfl,rfl,⟨by decide,by decide,by decide⟩,_,_,rfl,rfl,_,_,rfl,rfl,⟨by decide,by decide,by decide⟩,_,_,rfl,rfl,_,rfl,_,_,rfl,_,_,rfl,?_⟩;dsimp only[zx];refine zU zB ?_
  obtain⟨hi,hhi,hib⟩:∃hi:Int,(if(if tot+r2%9-1<10^toNat 14-1 then tot+r2%9-1 else 10^toNat 14-1)>1-10^toNat 14 then(if tot+r2%9-1<10^toNat 14-1 then tot+r2%9-1 else 10^toNat 14-1) else 1-10^toNat 14)=hi/\hi.natAbs<10^14:=by
   refine⟨_,rfl,?_⟩;rw[e14];obtain⟨u,hu',h1⟩:∃u:Int,(if tot+r2%9-1<100000000000000-1 then tot+r2%9-1 else 100000000000000-1)=u/\u<=99999999999999:=⟨_,rfl,by split<;>lia⟩;rw[hu'];split<;>lia
  rw[hhi];have hil:hi.natAbs<10^15:=vA (by decide) (by decide) hib;have l5:=z9 (by decide) hil;have l5':(Str.ofString (toString hi)).length<=15+1:=l5;have s9:=s8.same hTb S9;refine⟨_,rfl,_,rfl,_,rfl,p,ns,tot,hi,rfl,s9.row,hl60,fun wi ws H10 _ hwi htw S10=>⟨wi,ws,_,rfl,hwi,htw,qA _ _,hitl _,fun c hc=>⟨jX hl60 hc,(vW hc).1⟩,fun d2 H11 _ hd2 S11=>?_⟩⟩;dsimp only[zx];refine zU zC ?_;have s11:=(s9.same hTb S10).same hTb S11
  refine⟨_,rfl,_,rfl,_,_,rfl,rfl,by lia,_,_,rfl,rfl,by rw[Uo];lia,_,rfl,_,rfl,qc hil,_,_,rfl,rfl,by rw[Uo,Uo];lia,_,rfl,x,d,d2,_,_,rfl,s11.asked (Ask.within tot hi) (by decide) (fun j hj=>by
   rcases Uw.mp hj with rfl|hj
   ·exact htot
   ·rw[Uz.mp hj];exact hib) (by rw[<-hbh];exact zjZ (w:=wd 2) (xS 2 (by decide)) hnm) (by rw[Uo,Uo,Uo];lia) (fun zs e=>e),hd2,by show 4<=1000;decide,fun H12 n12 t12=>⟨_,rfl,zbw ?_⟩⟩
  dsimp only[bS];refine zU zD ?_;have n812:=(Nt.of (S9.trans (S10.trans S11))).trans n12;have s12:=s8.nt n812 t12;have hpa12:=n812.lst hpa8;have ht12:=n812.tups ht8;have e12:=nts n812 e8;have N12:=N8.trans n812;clear s8 s9 s11 hpa8 ht8 e8 N8 n812 n12 hd2 hwi htw S9 S10 S11 hhi;refine⟨_,rfl,_,rfl,p,ns,tot,rfl,s12.row,hl60,fun fq fx g H13 hB hfq hft S13=>⟨fq,rfl,⟨_,SqL.of hfq⟩,fun du hdu=>?_⟩⟩;obtain⟨c1,c2,c3⟩:=zbL HO hB;have cl:=yw HO c2 c1;obtain⟨cs,hcs⟩:∃cs,(apt g (zm ns (eqT tot))).1=cs:=⟨_,rfl⟩;rw[hcs] at c1 c2 c3 cl hft;refine qb (xs:=fx) (fun i σ H'=>∃v:Option V,σ=[v]/\H' du=some (.lst (((cs.take i).map shP).map V.str))/\Same H13 H') ⟨none,rfl,zd,Same.lay hdu⟩ ?_ ?_ ?_
  ·rintro i σ H' _ ⟨v,rfl,_,S⟩;exact SqL.of (S _ _ hfq)
  ·rintro i y σ H' hx ⟨v,rfl,hl',S⟩;have hi':i<cs.length:=by rw[<-hft.1];exact(Ue.mp hx).1
   have hc:cs[i]?=some cs[i]:=Ua hi';obtain⟨b,e1,e2⟩:=hft.2 i _ hc;rw[hx] at e1
   cases e1;refine⟨_,rfl,b,cs[i],rfl,S _ _ e2,jX hl60 (c1 _ (Of hi')),_,hl',zO (by rw[Ud,Ud,UA];lia),?_⟩;refine⟨_,rfl,?_,fun b o e=>by rw[zi (zf e hdu)];exact S _ _ e⟩;rw[zd,zV shP hc,Ux];rfl
  rintro σ H14 ⟨v,rfl,hdu14,S14⟩;rw[hft.1,US] at hdu14;dsimp only[zx];refine zU zE ?_;have hdu14:qL H14 du (cs.map shP):=hdu14;have s14:=(s12.same hTb S13).same hTb S14;refine⟨_,rfl,_,rfl,_,_,rfl,rfl,by lia,_,rfl,x,d,du,_,_,rfl,ask1 s14 rfl (show 6<9 by decide) (by lia) (Ask.apart tot) ?_,hdu14,by rw[Ud];lia,fun H15 n15 t15=>⟨_,rfl,zbw ?_⟩⟩
  ·rintro zs ⟨g',hB',rfl⟩;rw[zgH HO hB' hB,hcs]
  dsimp only[bS];refine zU zF ?_;have hdu15:=nts n15 hdu14;have n1215:=(Nt.of (S13.trans S14)).trans n15;have s15:=s12.nt n1215 t15;have hpa15:=n1215.lst hpa12;have ht15:=n1215.tups ht12;have e15':=nts n1215 e12;have N15:=N12.trans n1215;clear s12 s14 hpa12 ht12 e12 N12 n1215 n15 hdu14 hfq hft S13 S14 hdu;refine⟨_,rfl,_,rfl,p,ns,tot,rfl,s15.row,hl60,fun tp fr fy H16 htp hfr hfty S16=>⟨tp,_,rfl,SqT.of htp,rfl,_,_,rfl,_,_,rfl,rfl,?_⟩⟩;dsimp only[zx];subst zG;refine zgY fun _ _ _ _ zA zB zC zD=>?_;have s16:=s15.same hTb S16;have⟨wl,w0⟩:=zbS hl60 tot;have lw:=zd5 wl;obtain⟨ps,hps⟩:∃ps,(vt ns tot).getD []=ps:=⟨_,rfl⟩
  have hpk:(∀c∈ps,c∈zm ns (eqT tot))/\ps.length<=ns.length:=by
   cases hP:vt ns tot with
   |none=>rw[hP] at hps;subst hps;exact⟨fun c hc=>(nomatch (show c∈([]:List (Nat×Nat)) from hc)),UI _⟩
   |some q=>rw[hP] at hps;subst hps;exact zaC hP
  rw[hps] at hfty;refine⟨_,rfl,_,rfl,_,_,rfl,rfl,by lia,_,rfl,_,rfl,lw,by show 1<=sizeLine;lia,fun l1 hl1=>?_⟩;have S17:Same H16 (upd H16 l1 (.lst [.str (zy (zT ns tot 0))])):=Same.lay hl1;have e17:upd H16 l1 (.lst [.str (zy (zT ns tot 0))]) l1=some (.lst [.str (zy (zT ns tot 0))]):=zd;show zbY _ _ _ _ _ _ (upd H16 l1 (.lst [.str (zy (zT ns tot 0))])) _;generalize upd H16 l1 (.lst [.str (zy (zT ns tot 0))])=H17 at S17 e17 ⊢;have hfr17:=S17 _ _ hfr;have hft17:=hfty.mono (qi S17);refine⟨_,rfl,fr,rfl,⟨_,SqL.of hfr17⟩,fun ac hac=>?_⟩;refine qb (xs:=fy) (fun i σ H'=>∃v:Option V,σ=[v]/\H' ac=some (.lst (((ps.take i).map shP).map V.str))/\Same H17 H') ⟨none,rfl,zd,Same.lay hac⟩ ?_ ?_ ?_
  ·rintro i σ H' _ ⟨v,rfl,_,S⟩;exact SqL.of (S _ _ hfr17)
  ·rintro i y σ H' hx ⟨v,rfl,hl',S⟩;have hi':i<ps.length:=by rw[<-hft17.1];exact(Ue.mp hx).1
   have hc:ps[i]?=some ps[i]:=Ua hi';obtain⟨b,e1,e2⟩:=hft17.2 i _ hc;rw[hx] at e1
   cases e1;refine⟨_,rfl,b,ps[i],rfl,S _ _ e2,jX hl60 (hpk.1 _ (Of hi')),_,hl',zO (by rw[Ud,Ud,UA];lia),?_⟩;refine⟨_,rfl,?_,fun b o e=>by rw[zi (zf e hac)];exact S _ _ e⟩;rw[zd,zV shP hc,Ux];rfl
  rintro σ H18 ⟨v,rfl,hac18,S18⟩;rw[hft17.1,US] at hac18;refine⟨l1,ac,_,_,rfl,rfl,S18 _ _ e17,hac18,by rw[Ud,Ud];show 1+ps.length<=sizeLine;lia,fun d3 hd3=>?_⟩;have S19:Same H18 (upd H18 d3 (.lst ([.str (zy (zT ns tot 0))]++(ps.map shP).map V.str))):=Same.lay hd3
  have e19:qL (upd H18 d3 (.lst ([.str (zy (zT ns tot 0))]++(ps.map shP).map V.str))) d3 (kW ns tot):=by
   show _=some (L2.HO.lst ((kW ns tot).map V.str));unfold kW;rw[hps,zd];rfl
  have S1619:=(S17.trans S18).trans S19;have s19:=s16.same hTb S1619;refine⟨x,d,d3,_,_,rfl,ask1 s19 rfl (show 8<9 by decide) (by lia) (Ask.parted tot) (fun zs e=>e),e19,by unfold kW;rw[hps,Uk,Ud];lia,fun H20 n20 t20=>⟨_,rfl,zbw ?_⟩⟩;dsimp only[bS];refine zU zA ?_;have n1520:=(Nt.of (S16.trans S1619)).trans n20;have s20:=s15.nt n1520 t20;have hpa20:=n1520.lst hpa15;have ht20:=n1520.tups ht15;have e20:=nts n1520 e15';have hdu20:=nts n1520 hdu15;have N20:=N15.trans n1520;clear s15 s16 s19 hpa15 ht15 e15' hdu15 N15 n1520 n20 e19 hac18 hft17 hfr17 e17 S19 S18 S17 S16 S1619 hfr hfty htp hps hpk lw wl w0 hac hl1 hd3;obtain⟨dx,kvs,hx20,_⟩:=id s20.desk;refine⟨_,rfl,x,dx,_,rfl,hx20,jY (by decide +kernel),_,rfl,_,_,rfl,rfl,by lia,x,d,_,rows,rfl,by rw[Uo];lia,s20.desk,s20.ok,.inr (.inr ⟨7,n,ns,[tot],_,by rw[<-hbh];exact zh4 (w:=wd 7) (xS 7 (by decide)) hnm,s20.get,fun j hj=>by rw[Uz.mp hj];exact htot,by decide,Ask.points tot,s20.tb,?_⟩)⟩;rintro q zs H21 hq ⟨dps,hG,rfl⟩ e21 n21 t21;dsimp only[zx];have⟨pl60,psml⟩:=zeb hl60 hG;have plenE:(qT dps).length=cs.length:=by rw[<-hcs,zhK HO hB hG];unfold qT;rw[Ud]
  have phit:∀pr∈zm ns (eqT tot),∃y∈qT dps,(pr.1:Int)<=y/\y<(pr.2:Int):=fun pr hpr=>zg4 hG hpr;generalize qT dps=pts at pl60 psml plenE phit e21;have s21:=s20.nt n21 t21;have hpa21:=n21.lst hpa20;have ht21:=n21.tups ht20;have e21':=nts n21 e20;have hdu21:=nts n21 hdu20;have N21:=N20.trans n21;clear s20 hpa20 ht20 e20 hdu20 N20 n21 hx20 hG hq;have e21q:H21 q=some (.lst [.str (shown pts)]):=e21;refine wU zB (fun σ' H'=>∃pt:Addr,σ'=[some (.ref a),some (.ref x),some (.str n),some (.ref p),some (.int at'),some (.ref sh),some (.bl ea),some (.int tot),some (.str bh),some (.ref pa),some (.int hi),some (.ref du),some (.int (zT ns tot 0)),some (.ref fr),some (.ref q),some (.ref pt),none]/\H' pt=some (.lst (pts.map V.int))/\Same H21 H') ?_ (fun _ rest=>?_);rotate_left
  ·have lsh:=zeu psml;refine⟨_,rfl,q,_,0,_,rfl,rfl,SqL.of e21q,rfl,rfl,_,_,rfl,rfl,by decide,by lia,fun wl hwl=>?_⟩;have S22:Same H21 (upd H21 wl (.lst ((Txt.split (shown pts) " ").map V.str))):=Same.lay hwl;have e22:upd H21 wl (.lst ((Txt.split (shown pts) " ").map V.str)) wl=some (.lst ((Txt.split (shown pts) blank).map V.str)):=zd;generalize upd H21 wl (.lst ((Txt.split (shown pts) " ").map V.str))=H22 at S22 e22 ⊢;refine⟨wl,rfl,⟨_,SqL.of e22⟩,fun pt hpt=>?_⟩
   by_cases hp0:pts=[]
   ·subst hp0;rw[zc3] at e22;refine qb (xs:=[.str ""]) (fun i σ H'=>∃v:Option V,σ=[v]/\H' pt=some (.lst [])/\Same H22 H') ⟨none,rfl,zd,Same.lay hpt⟩ ?_ ?_ ?_
    ·rintro i σ H' _ ⟨v,rfl,_,S⟩;exact SqL.of (S _ _ e22)
    ·rintro i y σ H' hy ⟨v,rfl,ha,S⟩
     have ey:y=.str "":=by
      cases i with
      |zero=>cases hy;rfl
      |succ i=>cases hy
     subst ey;exact⟨_,rfl,rfl,_,rfl,qz ⟨_,rfl,ha,S⟩⟩
    ·rintro σ H' ⟨v,rfl,ha,S⟩;exact rest _ _ ⟨pt,rfl,ha,S22.trans S⟩
   ·rw[zb2 hp0] at e22;refine qb (xs:=(pts.map zy).map V.str) (fun i σ H'=>∃v:Option V,σ=[v]/\H' pt=some (.lst ((pts.take i).map V.int))/\Same H22 H') ⟨none,rfl,zd,Same.lay hpt⟩ ?_ ?_ ?_
    ·rintro i σ H' _ ⟨v,rfl,_,S⟩;exact SqL.of (S _ _ e22)
    ·rintro i y σ H' hy ⟨v,rfl,ha,S⟩;obtain⟨u,hu',rfl⟩:=zaS hy;rw[Up] at hu';obtain⟨m,hm,rfl⟩:=UT.mp hu';have hmb:=psml m (Uu hm);have lm:=z9 (by decide) hmb;have hne:decide (V.str (zy m)=V.str "")=false:=UE fun z=>ziT m (by injection z);refine⟨_,rfl,rfl,_,rfl,?_⟩;rw[hne];refine wm ⟨_,rfl,zy m,m,rfl,dH (by decide) (by decide) hmb,by lia,_,ha,zO (by rw[Ud,UA];lia),?_⟩;refine⟨_,rfl,?_,fun b o e=>by rw[zi (zf e hpt)];exact S _ _ e⟩;rw[zd,zV V.int hm]
    ·rintro σ H' ⟨v,rfl,ha,S⟩;rw[Ud,Ud,US] at ha;exact rest _ _ ⟨pt,rfl,ha,S22.trans S⟩
  rintro σ H22 ⟨pt,rfl,hpt,S22⟩;have s22:=s21.same hTb S22;have hpa22:=S22 _ _ hpa21;have ht22:=ht21.mono (qi S22);have e22:=nts (Nt.of S22) e21';have hdu22:qL H22 du (cs.map shP):=nts (Nt.of S22) hdu21;have e22q:=S22 _ _ e21q;have N22:=N21.trans (Nt.of S22);clear s21 hpa21 ht21 e21' hdu21 e21q e21 N21 S22;have dlen:decide (V.int ((pts.map V.int).length:Int)=V.int (((cs.map shP).map V.str).length:Int))=true:=Uy (by rw[Ud,Ud,Ud,plenE]);refine wU zC (fun σ' H'=>σ'=[some (.ref a),some (.ref x),some (.str n),some (.ref p),some (.int at'),some (.ref sh),some (.bl ea),some (.int tot),some (.str bh),some (.ref pa),some (.int hi),some (.ref du),some (.int (zT ns tot 0)),some (.ref fr),some (.ref q),some (.ref pt),none]/\Same H22 H') ?_ (fun _ rest=>?_);rotate_left
  ·refine⟨_,rfl,q,_,rfl,.inl (SqL.of e22q),rfl,_,rfl,qz ⟨_,rfl,pt,_,rfl,.inl (SqL.of hpt),_,rfl,du,_,rfl,.inl (SqL.of hdu22),rfl,_,rfl,?_⟩⟩;rw[dlen];refine qz ⟨rfl,_,rfl,pt,rfl,⟨_,SqL.of hpt⟩,fun ac hac=>?_⟩;refine qb (xs:=pts.map V.int) (fun i σ H'=>∃v:Option V,σ=[v]/\H' ac=some (.lst (((pts.take i).map zy).map V.str))/\Same H22 H') ⟨none,rfl,zd,Same.lay hac⟩ ?_ ?_ ?_
   ·rintro i σ H1 hi ⟨v,rfl,ha,S1⟩;exact SqL.of (S1 _ _ hpt)
   ·rintro i y σ H1 hx ⟨v,rfl,ha,S1⟩;obtain⟨m,hm,rfl⟩:∃m,pts[i]?=some m/\V.int m=y:=by rw[Up] at hx;exact UT.mp hx
    refine⟨_,rfl,m,rfl,qc (psml m (Uu hm)),_,ha,zO (by rw[Ud,Ud,UA];lia),?_⟩;refine⟨_,rfl,?_,fun b o e=>by rw[zi (zf e hac)];exact S1 _ _ e⟩;rw[zd,zV zy hm,Ux];rfl
   rintro σ H1 ⟨v,rfl,ha,S1⟩;rw[Ud,US] at ha;have hsum:=kD psml;refine⟨blank,ac,pts.map zy,rfl,rfl,ha,by rw[Ud,show blank.length=1 from rfl];lia,_,rfl,q,_,0,_,rfl,rfl,SqL.of (S1 _ _ e22q),rfl,rfl,_,rfl,?_⟩;rw[show decide (V.str (Str.join blank (pts.map zy))=V.str (shown pts))=true from Uy rfl];exact qz (rest _ _ ⟨rfl,S1⟩)
  rintro σ H23 ⟨rfl,S23⟩;subst zD;refine zgX (fun σ' H'=>∃v10 v16:Option V,σ'=[some (.ref a),some (.ref x),some (.str n),some (.ref p),some (.int at'),some (.ref sh),some (.bl ea),some (.int tot),some (.str bh),some (.ref pa),v10,some (.ref du),some (.int (zT ns tot 0)),some (.ref fr),some (.ref q),some (.ref pt),v16]/\Same H22 H') ?_ (fun _ rest=>?_);rotate_left
  ·refine⟨_,rfl,pa,rfl,⟨_,SqL.of (S23 _ _ hpa22)⟩,?_⟩;refine j8 (xs:=xs) (fun i σ H'=>∃v10 v16:Option V,σ=[some (.ref a),some (.ref x),some (.str n),some (.ref p),some (.int at'),some (.ref sh),some (.bl ea),some (.int tot),some (.str bh),some (.ref pa),v10,some (.ref du),some (.int (zT ns tot 0)),some (.ref fr),some (.ref q),some (.ref pt),v16]/\Same H22 H') ⟨_,_,rfl,S23⟩ ?_ ?_ ?_
   ·rintro i σ H' _ ⟨v10,v16,rfl,S⟩;exact SqL.of (S _ _ hpa22)
   ·rintro i y σ H' hy ⟨v10,v16,rfl,S⟩;have hi':i<(zm ns (eqT tot)).length:=by rw[<-ht22.1];exact(Ue.mp hy).1
    have hg:=Ua hi';obtain⟨b,e1,e2⟩:=ht22.2 i _ hg;rw[hy] at e1
    cases e1;obtain⟨⟨lo,hh⟩,hpr⟩:∃pr,(zm ns (eqT tot))[i]=pr:=⟨_,rfl⟩;rw[hpr] at e2 hg;obtain⟨y0,my0,y1,y2⟩:=phit _ (Uu hg);refine⟨b,_,rfl,SqT.of (S _ _ e2),rfl,_,_,rfl,_,_,rfl,rfl,?_⟩;have hptS:=S _ _ hpt;refine⟨_,rfl,pt,rfl,⟨_,SqL.of hptS⟩,fun ac hac=>?_⟩;refine qb (xs:=pts.map V.int) (fun j σ H2=>∃v:Option V,σ=[v,some (.int (hh:Int)),some (.int (lo:Int))]/\H2 ac=some (.lst (((pts.take j).filter fun z=>decide ((lo:Int)<=z)&&decide (z<(hh:Int))).map V.int))/\Same H' H2) ⟨none,rfl,zd,Same.lay hac⟩ ?_ ?_ ?_
    ·rintro j σ H2 _ ⟨v,rfl,_,S2⟩;exact SqL.of (S2 _ _ hptS)
    ·rintro j y' σ H2 hy' ⟨v,rfl,ha,S2⟩;obtain⟨m,hm,rfl⟩:∃m,pts[j]?=some m/\V.int m=y':=by rw[Up] at hy';exact UT.mp hy'
     have sz:(((pts.take j).filter fun z=>decide ((lo:Int)<=z)&&decide (z<(hh:Int))).map V.int).length<=1000000:=by
      rw[Ud];refine UU (UQ _ _) ?_;rw[UA];lia
     have no:(decide ((lo:Int)<=m)&&decide (m<(hh:Int)))=false->∃v':Option V,[some (V.int m),some (.int (hh:Int)),some (.int (lo:Int))]=[v',some (.int (hh:Int)),some (.int (lo:Int))]/\H2 ac=some (.lst (((pts.take (j+1)).filter fun z=>decide ((lo:Int)<=z)&&decide (z<(hh:Int))).map V.int))/\Same H' H2:=fun hf=>
      ⟨_,rfl,by rw[take_succ hm,vE,hf];simpa using ha,S2⟩
     refine⟨_,rfl,_,rfl,_,_,rfl,rfl,_,rfl,qB (fun c1=>⟨_,rfl,_,rfl,_,_,rfl,rfl,_,rfl,qB (fun c2=>?_) (fun c2=>no ?_)⟩) (fun c1=>qz (no ?_))⟩
     ·refine⟨_,rfl,_,ha,zO sz,_,rfl,?_,fun b o e=>by rw[zi (zf e hac)];exact S2 _ _ e⟩;rw[zd,take_succ hm,vE,c1,c2,Ux];rfl
     ·rw[Rt _ |>.mp c2,R7]
     ·rw[Rt _ |>.mp c1,RP]
    ·rintro σ H2 ⟨v,rfl,ha,S2⟩;rw[Ud,US] at ha;refine⟨by show 0<=sizeLine;lia,fun l0 hl0=>⟨ac,l0,_,rfl,rfl,SqL.of (Same.lay hl0 _ _ ha),SqL.of zd,_,rfl,?_⟩⟩
     have hne:((pts.filter fun z=>decide ((lo:Int)<=z)&&decide (z<(hh:Int))).map V.int).isEmpty=false:=by
      have hm:y0∈pts.filter fun z=>decide ((lo:Int)<=z)&&decide (z<(hh:Int)):=U2.mpr ⟨my0,by rw[Uy y1,Uy y2];rfl⟩
      cases hc:pts.filter fun z=>decide ((lo:Int)<=z)&&decide (z<(hh:Int)) with
      |nil=>rw[hc] at hm;cases hm
      |cons _ _=>rfl
     rw[hne];exact qz ⟨_,_,rfl,S.trans (S2.trans (Same.lay hl0))⟩
   ·rintro σ H' ⟨v10,v16,rfl,S⟩;exact rest _ _ ⟨_,_,rfl,S⟩
  rintro σ H24 ⟨v10,v16,rfl,S24⟩;refine xW fun uz hz=>?_;have s24:=s22.same hTb S24;have e24:=nts (Nt.of S24) e22;have N24:=N22.trans (Nt.of S24);refine⟨_,rfl,_,rfl,_,rfl,_,rfl,_,rfl,_,_,rfl,rfl,a,x,d,p,scr,rows,n,ns,_,rfl,s24,by lia,by lia,fun H25 n25 t25=>⟨_,rfl,zbw ?_⟩⟩;subst hz;dsimp only[bS];have s25:=s24.nt n25 t25;have e25:=nts n25 e24;have N25:=N24.trans n25;refine⟨_,rfl,_,rfl,qB (fun e=>k H25 N25 t25) (fun e=>?_)⟩;exact⟨_,rfl,_,rfl,_,_,rfl,rfl,by lia,_,rfl,x,d,sh,_,_,rfl,lshow s25,e25,by show 1<=1000;decide,fun H26 n26 t26=>k H26 (N25.trans n26) t26⟩
def zfE (K:Frag)(tabs:List Addr):Sp:=fun vs H Q _=>∃(a:Addr) (ns:List Int),vs=[.ref a]/\SqL K H a (ns.map V.int)/\ns.length<=63/\(∀P∈tabs,H P=some (.tbl #[]))/\∀H',Q (.bl true) H'
theorem TabAt.kpd {P:Addr}{o:HO}(h:TabAt pos qual P H)(k:KpD q H H')(hq:H q=some o)(h1:∀ps,o≠.tbl ps)(h2:∀c s,o≠jH c s):TabAt pos qual P H':=by
 rcases h with h|⟨c,e1,e2⟩
 ·exact .inl (k _ _ h (qE h hq fun z=>h1 _ z.symm))
 ·exact .inr ⟨c,k _ _ e1 (qE e1 hq fun z=>h1 _ z.symm),k _ _ e2 (qE e2 hq fun z=>h2 _ _ z.symm)⟩
theorem Tabs.kpd {o:HO}(h:Tabs T0 T1 T2 H)(k:KpD q H H')(hq:H q=some o)(h1:∀ps,o≠.tbl ps)(h2:∀c s,o≠jH c s):Tabs T0 T1 T2 H':=⟨TabAt.kpd h.n k hq h1 h2,TabAt.kpd h.a k hq h1 h2,TabAt.kpd h.p k hq h1 h2⟩
theorem zjs (T0 T1 T2:Addr):zgK (Tabs T0 T1 T2):=⟨fun s t=>t.same s,fun {H q xs ys} e t=>t.kpd (fun b o e' n=>by rw[zi n];exact e') e (fun ps z=>by cases z) (fun c s z=>by cases z)⟩
theorem Scr.kpd {o:HO}(h:Scr K H a scr)(k:KpD q H H')(hq:H q=some o)(h1:∀xs,o≠.lst xs)(h2:∀ob xs,o≠.frz ob (.lst xs)):Scr K H' a scr:=by
 obtain⟨g1,g2⟩:=h;refine⟨?_,g2⟩;rcases g1 with(g1|⟨ob,g1⟩)|g1
 ·exact .inl (.inl (k _ _ g1 (qE g1 hq fun z=>h1 _ z.symm)))
 ·exact .inl (.inr ⟨ob,k _ _ g1 (qE g1 hq fun z=>h2 _ _ z.symm)⟩)
 ·exact .inr g1
structure Std (K:Frag)(C T0 T1 T2:Addr)(H:Hp)(a x d t:Addr)(scr:List Int)(rows:Rows)(kvs:List (Key×V)):Prop where
 scr:Scr K H a scr
 desk:DeskAt C H x d rows
 ok:vY rows
 th:H t=some (.dK kvs)
 rat:RowsAt H kvs rows
 ne:t≠d
 tb:Tabs T0 T1 T2 H
theorem Std.same {t:Addr}(h:Std K C T0 T1 T2 H a x d t scr rows kvs)(s:Same H H'):Std K C T0 T1 T2 H' a x d t scr rows kvs:=
 ⟨h.scr.same s,h.desk.same s,h.ok,s _ _ h.th,h.rat.keep fun b zs e=>s _ _ e,h.ne,h.tb.same s⟩
structure Did (K:Frag)(C T0 T1 T2:Addr)(H:Hp)(a x d t:Addr)(scr:List Int)(rows:Rows)(kvs:List (Key×V))(z:Str)(ns:List Int)(p q:Addr):Prop where
 ex:∃Hb,Std K C T0 T1 T2 Hb a x d t scr rows kvs/\Hb q=none/\RowAt Hb p ns/\KpD d Hb H
 q:qL H q []
 desk:DeskAt C H x d (vp rows z ns)
 len:ns.length<=60
 few:Few ns
theorem zi8 {c:TT}{t:TS}(I J:Hp->Prop)(ht:∀H',I H'->t D σ H')(hu:∀H',J H'->u D σ H')(h:∀t' u':TS,(∀H',I H'->t' D σ H')->(∀H',J H'->u' D σ H')->c σ H fun b H1=>if b=true then t' D σ H1 else u' D σ H1):zio c t u D σ H:=h t u ht hu
theorem zeU:("lead ":Str).cps.toList=("lead":Str).cps.toList++[32]:=by decide +kernel
theorem zeV:32∉("lead":Str).cps.toList:=by decide +kernel
theorem zfN:32∉("row":Str).cps.toList:=by decide +kernel
theorem zgj:("lead ":Str).length=5:=by decide +kernel
theorem zg0:("row":Str).length=3:=by decide +kernel
theorem zg3 (h:vY rows)(hz:isNm z=true)(hl:ns.length<=60)(hf:Few ns)(hle:rows.length<=50):vY (vp rows z ns):=
 ⟨zdV h.uq,zci ⟨hz,hl,hf⟩ h.ok,by have:=dh z ns rows;lia⟩
theorem zez (hz:isNm z=true):Txt.split (Str.join blank (("row":Str)::z::ns.map zy)) blank=("row":Str)::z::ns.map zy:=by
 refine yR (xK zfN hz) fun e=>?_;have h1:(Str.join blank (("row":Str)::z::ns.map zy)).cps.toList=wF ((("row":Str)::z::ns.map zy).map (·.cps.toList)):=yf _;rw[e] at h1;have h2:([]:List Nat)=("row":Str).cps.toList++32::wF ((z::ns.map zy).map (·.cps.toList)):=h1;have:=O3 List.length h2;rw[UD,Uk] at this;simp only[UM] at this;lia
theorem za7 (hz:isNm z=true)(hl:ns.length<=60)(hs:Sml ns):(Str.join blank (("row":Str)::z::ns.map zy)).length<=10000/\((("row":Str)::z::ns.map zy).map (·.length)).sum+(("row":Str)::z::ns.map zy).length*blank.length<=sizeLine:=by
 have h1:=kD hs;have h2:=StrLaws.join_length_le blank (("row":Str)::z::ns.map zy);have h3:=gi hz;have h4:=zg0;have h5:blank.length=1:=rfl;have hsl:=UV;rw[h5] at h2 ⊢;simp only[UL,OH,Uk,Ud] at h2 h1 ⊢;lia
abbrev zfL:Stmt:=top 77
theorem Z9:zt ["script","desk","there","k","name","row","place","line","none","most","other"] ["script"] (zh zfL):=fsc_
def ilA (K:Frag)(C T0 T1 T2 a x d t:Addr)(scr:List Int)(i:Nat)(σ:St)(H':Hp):Prop:=∃(v3 v4 v5 v6 v7 v8 v9 v10:Option V) (rows:Rows) (kvs:List (Key×V)),σ=[some (.ref a),some (.ref x),some (.ref t),v3,v4,v5,v6,v7,v8,v9,v10]/\Std K C T0 T1 T2 H' a x d t scr rows kvs/\rows.length<=i
theorem ziP {m1 m2:Addr}{md1 md2:FuncData}(F:Fun K "law" "law" zfL f fd)(T:Txt mg)(TC:pH K mg C)(MK:Mk K C m1)(Jt:MethAt K C "__init__" "Desk.__init__" zdc ["self"] m1 md1)(Ju:FnOk P w K mg base CX0 1 m1 md1 ["self"] (zfF C))(QD:MethAt K C "ask" "Desk.ask" zcf ["self","line"] m2 md2)(Q1:FnOk P w K mg base CX0 8 m2 md2 ["self","line"] (zb8 C (Tabs T0 T1 T2)))(Za:zK K mg "_law_draw" qF ["script","k"] f1 fd1)(Zd:FnOk P w K mg base CX0 1 f1 fd1 ["script","k"] (wR K))(Z6:zK K mg "_law_name" yS ["script","i"] f2 fd2)(Jg:FnOk P w K mg base CX0 2 f2 fd2 ["script","i"] (zjH K))(Zk:zK K mg "_law_number" qO ["script","at","most"] f3 fd3)(ZZ:FnOk P w K mg base CX0 2 f3 fd3 ["script","at","most"] (zaX K))(Qh:zK K mg "_law_row" gJ ["script","at","most"] f4 fd4)(Jk:FnOk P w K mg base CX0 3 f4 fd4 ["script","at","most"] (zfx K))(Zy:zK K mg "_law_asked_right" zW ["script","desk","name","row","at"] f5 fd5)(QL:FnOk P w K mg base CX0 11 f5 fd5 ["script","desk","name","row","at"] (zb7 K C (Tabs T0 T1 T2))) :
 FnOk P w K mg base CX0 12 f fd ["script"] (zfE K [T0,T1,T2]):=by
 refine F.ok Z9 (fun vs H Q E h=>?_) (fun cdv A outer s H vs Q E hr h=>?_)
 ·obtain⟨a,ns,rfl,_⟩:=h;rfl
 ·obtain⟨a,scr,rfl,hSq,hl63,htab,k⟩:=h;have hu:=hr.units0;have hu2:=Om (Rl (show 1<=64 by decide) _) hr.units;have hsl:=UV;have hTb:=zjs T0 T1 T2;have hS:Scr K H a scr:=⟨hSq,hl63⟩;have tb0:Tabs T0 T1 T2 H:=⟨.inl (htab T0 (by simp)),.inl (htab T1 (by simp)),.inl (htab T2 (by simp))⟩
  refine⟨_,(ze (zq (i:=1) Z9.nd rfl (Or.inl rfl) (zfZ MK Ju (hr.mono (by first|decide|exact Ub _)) rfl TC.mgC Jt.bd .nil zp))
   (ze (zq (i:=2) Z9.nd rfl (Or.inl rfl) zcm)
   (ze (qI U7 rfl (jO (by rfl) T.b_range (zb zg zc)) (zo (i:=3) Z9.nd rfl (Or.inl rfl))
     (ze (zq (i:=4) Z9.nd rfl (Or.inl rfl) (zl Jg (hr.mono (by first|decide|exact Ub _)) rfl Z6.mg Z6.fn.kp Z6.bd .nil zp (zb (pv 0) (zb (zk zS (zl Zd (hr.mono (by first|decide|exact Ub _)) rfl Za.mg Za.fn.kp Za.bd .nil zp (zb (pv 0) (zb (zk zM zg (pv 3)) zc))) zg) zc))))
     (ze (z8 (PW.pt (vj (zdd (ziN hu2 (pv 4) (pv 2))) (vj (zw (oNe (K:=K) rfl true hu) (bD hu2 (pv 2) (pv 4) (fun _ _=>rfl)) (qu zc) (zH _)) (jC (zw qU (zk zS (zl Zd (hr.mono (by first|decide|exact Ub _)) rfl Za.mg Za.fn.kp Za.bd .nil zp (zb (pv 0) (zb (zk zM zg (pv 3)) zc))) zg) zg (zH _))))))
       (ze (zq (i:=5) Z9.nd rfl (Or.inl rfl) (zJ (zic (K:=K) rfl) (by rfl) T.b_list PyProof.Rows.Boot.«list» (zb (bD hu2 (pv 2) (pv 4) (fun _ _=>rfl)) zc)))
       (ze (zq (i:=6) Z9.nd rfl (Or.inl rfl) (zk zS (zl Zd (hr.mono (by first|decide|exact Ub _)) rfl Za.mg Za.fn.kp Za.bd .nil zp (zb (pv 0) (zb (zk zM zg (pv 3)) zc))) (zv (jh (K:=K) rfl) (by rfl) T.b_len PyProof.Rows.Boot.«len» (zb (pv 5) zc))))
       (ze (xB (zl ZZ (hr.mono (by first|decide|exact Ub _)) rfl Zk.mg Zk.fn.kp Zk.bd .nil zp (zb (pv 0) (zb (zk zM zg (zk wg zg (pv 3))) (zb (zz (ixT (K:=K) rfl) (qu (zb zg (zb zg zc))) (zk zS (zl Zd (hr.mono (by first|decide|exact Ub _)) rfl Za.mg Za.fn.kp Za.bd .nil zp (zb (pv 0) (zb (zk zM zg (pv 3)) zc))) zg) (fun _ _=>rfl)) zc)))) (dv (pv 5) (pv 6) set_list))
       (ze (zq (i:=5) Z9.nd rfl (Or.inl rfl) (zJ (kg (K:=K) rfl) (by rfl) T.b_tuple PyProof.Rows.Boot.«tuple» (zb (pv 5) zc)))
       (ze (zq (i:=7) Z9.nd rfl (Or.inl rfl) (zk zu (zk zu (zk zu zQ (pv 4)) zQ) (zJ zN (by rfl) T.b_str PyProof.Rows.Boot.«str» (zb (pv 6) zc))))
       (zj (zq (i:=8) Z9.nd rfl (Or.inl rfl) (jV (pv 1) TC.cl QD.mt Q1 (hr.mono (by first|decide|exact Ub _)) QD.bd .nil zp (zb (zk zu (zk zu (pv 7) zQ) (zJ zN (by rfl) T.b_str PyProof.Rows.Boot.«str» (zb (zz (ixT (K:=K) rfl) (pv 5) (pv 6) (fun _ _=>rfl)) zc))) zc)))))))))
       (ze (zq (i:=9) Z9.nd rfl (Or.inl rfl) (zz (ixT (K:=K) rfl) (qu (zb zg (zb zg (zb zg (zb zg (zb zg (zb zg (zb zg (zb zg zc))))))))) (zk zS (zl Zd (hr.mono (by first|decide|exact Ub _)) rfl Za.mg Za.fn.kp Za.bd .nil zp (zb (pv 0) (zb (zk zM zg (pv 3)) zc))) zg) (fun _ _=>rfl)))
       (ze (zq (i:=5) Z9.nd rfl (Or.inl rfl) (zl Jk (hr.mono (by first|decide|exact Ub _)) rfl Qh.mg Qh.fn.kp Qh.bd .nil zp (zb (pv 0) (zb (zk zM zg (zk wg zg (pv 3))) (zb (pv 9) zc)))))
       (zj (zq (i:=8) Z9.nd rfl (Or.inl rfl) (jV (pv 1) TC.cl QD.mt Q1 (hr.mono (by first|decide|exact Ub _)) QD.bd .nil zp (zb (jo Ov RA Rz gj zQ (zb (zk vR (zR (zb zQ (zb (pv 4) zc))) (qf (N:=["number"]) (cap:=[none]) rfl (show qh ["script","desk","there","k","name","row","place","line","none","most","other"] (zh zfL) ["number"] [none] _=true by decide +kernel) (piT (K:=K) rfl (pv 5)) (fun cl C s3 H3 fp=>⟨(zo (i:=0) (show(["number"]:List Str).Nodup by decide +kernel) rfl (Or.inl rfl)),qe,fun it acc=>(zP rfl (zJ zN (by rfl) T.b_str PyProof.Rows.Boot.«str» (zb (pv 0) zc)))⟩))) zc)) zc)))))))
     (ze (z8 (zw (oNe (K:=K) rfl false hu) (pv 8) (zR zc) (zH _))
       (zj (zr vw))
       zL)
     (ze (jd (jo Od U3 U9 qw (pv 8) (zb zQ zc)))
     (ze (za8 hu2 (pv 2) (pv 4) (pv 5) rfl)
     (zj (zg5 rfl (qI U7 rfl (zfX (pv 2)) (zo (i:=10) Z9.nd rfl (Or.inl rfl))
       (zj (z8 (qV (jN (zl QL (hr.mono (by first|decide|exact Ub _)) rfl Zy.mg Zy.fn.kp Zy.bd .nil zp (zb (pv 0) (zb (pv 1) (zb (pv 10) (zb (bD hu2 (pv 2) (pv 10) (fun _ _=>rfl)) (zb (zk zM zg (zk wg zg (pv 3))) zc))))))))
         (zj (zr vw))
         zL)))))))))))
   (zj (zr vw))))),?_⟩
  refine fun x dx hx hdx ndx=>⟨x,dx,rfl,zd,fun d H1 hd hD hk=>⟨rfl,?_⟩⟩;have S1:Same H H1:=fun b o e=>hk b o (by rw[zi (zf e hx),zi (zf e hdx)];exact e) (zf e hx);dsimp only[zx];refine fun t ht=>?_;have h0t:H t=none:=S1.free ht;have S2:Same H1 (upd H1 t (.dK [])):=Same.lay ht;have e2:upd H1 t (.dK []) t=some (.dK []):=zd
  have ntd:t≠d:=fun e=>by
   obtain⟨_,kv,_,h2,_⟩:=id hD;rw[e,h2] at ht;cases ht
  dsimp only[zx];show jJ _ _ _ _ (upd H1 t (.dK []));generalize upd H1 t (.dK [])=H2 at S2 e2 ⊢;have s2:Std K C T0 T1 T2 H2 a x d t scr [] []:=⟨(hS.same S1).same S2,hD.same S2,⟨List.nodup_nil,(fun r hr'=>nomatch hr'),by decide⟩,e2,.nil,ntd,(tb0.same S1).same S2⟩;clear hk hD S1 S2 e2 ht hd hx hdx ndx;refine⟨6,rfl,by decide,by decide,vB (n:=toNat 6) (ilA K C T0 T1 T2 a x d t scr) ⟨_,_,_,_,_,_,_,_,[],[],rfl,s2,Ub _⟩ ?_ ?_⟩;rotate_left
  ·rintro σ H' ⟨_,_,_,_,_,_,_,_,_,_,rfl,_⟩;exact k H'
  rintro i σ H3 hi ⟨v3,v4,v5,v6,v7,v8,v9,v10,rows,kvs,rfl,s3,hrl⟩;have hi6:i<6:=hi;obtain⟨kk,hkk⟩:∃kk:Int,(0:Int)+(i:Int)=kk:=⟨_,rfl⟩;have k0:0<=kk:=by lia
  have k5:kk<=5:=by lia
  dsimp only[zx];rw[hkk];refine zgY fun z0 z1 z2 z3 zA zB zC zD=>?_;refine⟨_,rfl,_,rfl,_,rfl,_,_,rfl,rfl,a,scr,_,rfl,s3.scr,by lia,by lia,fun r1 H4 _ _ S4=>⟨_,_,rfl,rfl,(by show(0:Int)<_;decide),?_⟩⟩;have⟨q0,q1⟩:=mod_lt r1 5 (by decide);obtain⟨j,hj⟩:=Og q0;refine⟨a,scr,j,(show[V.ref a,V.int (r1%5)]=[V.ref a,V.int (j:Int)] by rw[hj]),s3.scr.same S4,by lia,fun z H5 hz S5=>?_⟩;dsimp only[zx];have s5:=(s3.same S4).same S5;have hz8:=gi hz;have one:=kX;clear s3 S4 S5;refine wU zA (fun σ' H'=>∃(v6 v7 v9:Option V) (ns:List Int) (p q:Addr),σ'=[some (.ref a),some (.ref x),some (.ref t),some (.int kk),some (.str z),some (.ref p),v6,v7,some (.ref q),v9,v10]/\Did K C T0 T1 T2 H' a x d t scr rows kvs z ns p q) ?_ (fun _ rest=>?_);rotate_left
  ·refine zi8 (fun H'=>Same H5 H'/\∃ns p,wt rows z=some ns/\xH kvs (.inr z)=some (.ref p)/\RowAt H5 p ns/\0<ns.length) (fun H'=>Same H5 H') ?_ ?_ (fun _ _ lead row=>?_)
   ·
    rintro H6 ⟨S6,ns,p,hg,hv,hp,hn0⟩;have s6:=s5.same S6;obtain⟨_,hn60,hnf⟩:=s5.ok.ok _ (yg hg);have hn60:ns.length<=60:=hn60;have hlm:(ns.map V.int).length=ns.length:=Ud _
    have dg:∀{H':Hp},Same H5 H'->DGet H' t (.str z) (some (.ref p)):=fun S=>by
     have:=DGet.k (k:=.inr z) ((s5.same S).th);rw[hv] at this;exact this
    refine zgY fun y0 y1 y2 y3 yA yB yC yD=>?_;refine⟨_,rfl,_,rfl,t,.ref p,rfl,dg S6,p,_,rfl,.inr (SqT.of (S6 _ _ hp.1)),fun l1 hl1=>?_⟩;have S7:Same H6 (upd H6 l1 (.lst (ns.map V.int))):=Same.lay hl1;have e7:upd H6 l1 (.lst (ns.map V.int)) l1=some (.lst (ns.map V.int)):=zd;dsimp only[zx];show y0 _ _ (upd H6 l1 (.lst (ns.map V.int)));generalize upd H6 l1 (.lst (ns.map V.int))=H7 at S7 e7 ⊢;refine zU yA ?_;have nl:H5 l1=none:=S6.free hl1;refine⟨_,rfl,_,rfl,_,_,rfl,rfl,a,scr,_,rfl,(s6.same S7).scr,by lia,by lia,fun r2 H8 _ _ S8=>⟨_,rfl,l1,_,rfl,.inl (SqL.of (S8 _ _ e7)),_,_,rfl,rfl,(by show(0:Int)<_;lia),?_⟩⟩;have⟨p0,p1⟩:=mod_lt r2 ((ns.map V.int).length:Int) (by lia);obtain⟨pl,hpl⟩:=Og p0;dsimp only[zx];rw[hpl];refine zU yB ?_;have hpn:pl<ns.length:=by lia
    have s8:=(s6.same S7).same S8;have e8:=S8 _ _ e7;refine⟨_,rfl,_,rfl,_,_,rfl,rfl,.inl ⟨by decide,by decide⟩,_,_,rfl,rfl,by show 2<=sizeLine;lia,fun tp htp=>?_⟩;have S9:Same H8 (upd H8 tp (.tup [.int 1,.int 12])):=Same.lay htp;have e9:upd H8 tp (.tup [.int 1,.int 12]) tp=some (.tup (([1,12]:List Int).map V.int)):=zd;show tOp _ _ _ _ (upd H8 tp (.tup [.int 1,.int 12])) _;generalize upd H8 tp (.tup [.int 1,.int 12])=H9 at S9 e9 ⊢;refine⟨_,rfl,_,rfl,_,_,rfl,rfl,a,scr,_,rfl,(s8.same S9).scr,by lia,by lia,fun r3 H10 _ _ S10=>⟨_,_,rfl,rfl,(by show(0:Int)<_;decide),?_⟩⟩;have⟨w0,w1⟩:=mod_lt r3 2 (by decide);obtain⟨most,hat,hmost,_⟩:=vX [1,12] w0 (by simpa using w1)
    have hmost:0<most/\most<=12:=by
     simp only[Uw,Oq,RT] at hmost;rcases hmost with h|h<;>lia
    have s10:=(s8.same S9).same S10;refine⟨tp,_,_,_,rfl,rfl,SqT.of (S10 _ _ e9),hat,a,scr,_,most,rfl,s10.scr,by lia,by lia,hmost.1,by lia,fun m H11 hm S11=>?_⟩;have hm12:m.natAbs<10^12:=UP hm (RJ (by decide) (by lia));have S811:=(S9.trans S10).trans S11;have e11:=S811 _ _ e8;refine⟨_,rfl,_,rfl,l1,_,_,pl,rfl,rfl,e11,yt (by rw[hlm];exact hpn),?_⟩;have es:(ns.map V.int).set pl (.int m)=(ns.set pl m).map V.int:=by rw[map_set]
    rw[es];have S12:Same H5 (upd H11 l1 (.lst ((ns.set pl m).map V.int))):=fun b o e=>by rw[zi (zf e nl)];exact S811 _ _ (S8 _ _ (S7 _ _ (S6 _ _ e)))
    have e12:upd H11 l1 (.lst ((ns.set pl m).map V.int)) l1=some (.lst ((ns.set pl m).map V.int)):=zd;show y2 _ _ (upd H11 l1 (.lst ((ns.set pl m).map V.int)));generalize upd H11 l1 (.lst ((ns.set pl m).map V.int))=H12 at S12 e12 ⊢;refine zU yC ?_;refine⟨_,rfl,l1,_,rfl,.inl ⟨SqL.of e12,fun rp hrp=>?_⟩⟩;have S13:Same H5 (upd H12 rp (.tup ((ns.set pl m).map V.int))):=S12.trans (Same.lay hrp);have e13:upd H12 rp (.tup ((ns.set pl m).map V.int)) rp=some (.tup ((ns.set pl m).map V.int)):=zd;dsimp only[zx];show y3 _ _ (upd H12 rp (.tup ((ns.set pl m).map V.int)));generalize upd H12 rp (.tup ((ns.set pl m).map V.int))=H13 at S13 e13 ⊢;subst yD;have hpll:((pl:Nat):Int).natAbs<10^14:=by rw[Ow];exact UP hpn (UU hn60 (by decide))
    have hm15:=vA (k:=12) (by decide) (by decide) hm12;have l1':=z9 (by decide) hpll;have l2':(Str.ofString (toString (pl:Int))).length<=14+1:=l1';have l3':=z9 (by decide) hm15;have l4':(Str.ofString (toString m)).length<=15+1:=l3';have l5':=zgj;refine⟨_,rfl,_,_,rfl,rfl,by lia,_,_,rfl,rfl,by rw[Uo];lia,_,rfl,_,rfl,qc (vA (by decide) (by decide) hpll),_,_,rfl,rfl,by rw[Uo,Uo];lia,?_⟩;dsimp only[zx];have s13:=s5.same S13;obtain⟨dx,kv,hx13,_⟩:=id s13.desk;have atm:atI ((ns.set pl m).map V.int) (pl:Int)=some (.int m):=qa (by rw[Up,R6,Uv rfl,Uv hpn];rfl);have lset:(ns.set pl m).length=ns.length:=Ts
    have fset:Few (ns.set pl m):=fun y hy=>by
     rcases List.mem_or_eq_of_mem_set hy with h|h
     ·exact hnf y h
     ·rw[h];exact hm12
    refine⟨_,rfl,x,dx,_,rfl,hx13,jY (by decide +kernel),_,rfl,_,_,rfl,rfl,by rw[Uo,Uo,Uo];lia,_,rfl,_,rfl,rp,_,_,_,rfl,rfl,SqT.of e13,atm,_,rfl,qc hm15,_,_,rfl,rfl,by rw[Uo,Uo,Uo,Uo];lia,x,d,_,rows,rfl,by rw[Uo,Uo,Uo,Uo,Uo];lia,s13.desk,s13.ok,.inr (.inl ⟨z,ns,pl,m,zh5 zeV zeU hz,hg,hpn,hm12,fun q H14 hq e14 hD14 k14=>?_⟩)⟩;exact rest _ _ ⟨_,_,_,ns.set pl m,rp,q,rfl,⟨H13,s13,hq,⟨e13,by rw[lset];lia⟩,k14⟩,e14,hD14,by rw[lset];exact hn60,fset⟩
   ·
    rintro H6 S6;have s6:=s5.same S6;refine⟨by show 8<=sizeLine;lia,fun tp htp=>?_⟩;have S7:Same H6 (upd H6 tp (.tup [.int 6,.int 14,.int 6,.int 14,.int 60,.int 6,.int 14,.int 6])):=Same.lay htp;have e7:upd H6 tp (.tup [.int 6,.int 14,.int 6,.int 14,.int 60,.int 6,.int 14,.int 6]) tp=some (.tup (([6,14,6,14,60,6,14,6]:List Int).map V.int)):=zd;show tOp _ _ _ _ (upd H6 tp (.tup [.int 6,.int 14,.int 6,.int 14,.int 60,.int 6,.int 14,.int 6])) _;generalize upd H6 tp (.tup [.int 6,.int 14,.int 6,.int 14,.int 60,.int 6,.int 14,.int 6])=H7 at S7 e7 ⊢;refine⟨_,rfl,_,rfl,_,_,rfl,rfl,a,scr,_,rfl,(s6.same S7).scr,by lia,by lia,fun r2 H8 _ _ S8=>⟨_,_,rfl,rfl,(by show(0:Int)<_;decide),?_⟩⟩;have⟨w0,w1⟩:=mod_lt r2 8 (by decide);obtain⟨most,hat,hmost,_⟩:=vX [6,14,6,14,60,6,14,6] w0 (by simpa using w1)
    have hmost:0<=most/\most<=60:=by
     simp only[Uw,Oq,RT] at hmost;rcases hmost with h|h|h|h|h|h|h|h<;>lia
    refine⟨tp,_,_,_,rfl,rfl,SqT.of (S8 _ _ e7),hat,?_⟩;dsimp only[zx];have s8:=(s6.same S7).same S8;refine⟨_,rfl,_,rfl,_,_,rfl,rfl,.inl ⟨by decide,by decide⟩,_,_,rfl,rfl,_,rfl,a,scr,_,most,rfl,s8.scr,by lia,by lia,hmost.1,hmost.2,fun p ns H9 hp hn60 hnf S9=>?_⟩;dsimp only[zx];have s9:=s8.same S9;have hsml:=zbB hnf;obtain⟨dx,kv,hx9,_⟩:=id s9.desk;refine⟨_,rfl,x,dx,_,rfl,hx9,jY (by decide +kernel),rfl,_,rfl,by show 2<=sizeLine;lia,fun l1 hl1=>?_⟩;have S10:Same H9 (upd H9 l1 (.lst [.str "row",.str z])):=Same.lay hl1;have e10:upd H9 l1 (.lst [.str "row",.str z]) l1=some (.lst [.str "row",.str z]):=zd;show zbY _ _ _ _ _ _ (upd H9 l1 (.lst [.str "row",.str z])) _;generalize upd H9 l1 (.lst [.str "row",.str z])=H10 at S10 e10 ⊢;have hp10:=S10 _ _ hp;refine⟨_,rfl,p,rfl,⟨_,SqT.of hp10⟩,fun acc hacc=>?_⟩;refine wN (xs:=ns.map V.int) (fun i σ H'=>∃v:Option V,σ=[v]/\H' acc=some (.lst (((ns.take i).map zy).map V.str))/\Same H10 H') ⟨none,rfl,zd,Same.lay hacc⟩ ?_ ?_ ?_
    ·rintro i σ H1 hi ⟨v,rfl,ha,S1⟩;exact SqT.of (S1 _ _ hp10)
    ·rintro i y σ H1 hx ⟨v,rfl,ha,S1⟩;obtain⟨m,hm,rfl⟩:∃m,ns[i]?=some m/\V.int m=y:=by rw[Up] at hx;exact UT.mp hx
     refine⟨_,rfl,m,rfl,qc (hsml m (Uu hm)),_,ha,zO (by rw[Ud,Ud,UA];lia),?_⟩;refine⟨_,rfl,?_,fun b o e=>by rw[zi (zf e hacc)];exact S1 _ _ e⟩;rw[zd,zV zy hm,Ux];rfl
    rintro σ H11 ⟨v,rfl,ha,S11⟩;rw[Ud,US] at ha;refine⟨l1,acc,_,_,rfl,rfl,S11 _ _ e10,ha,by simp only[Uk,UM,Ud];lia,fun l2 hl2=>?_⟩;have S12:Same H11 (upd H11 l2 (.lst ([.str "row",.str z]++(ns.map zy).map V.str))):=Same.lay hl2;have e12:upd H11 l2 (.lst ([.str "row",.str z]++(ns.map zy).map V.str)) l2=some (.lst ((("row":Str)::z::ns.map zy).map V.str)):=zd;generalize upd H11 l2 (.lst ([.str "row",.str z]++(ns.map zy).map V.str))=H12 at S12 e12 ⊢;have⟨ll1,ll2⟩:=za7 hz hn60 hsml;have S912:=(S10.trans S11).trans S12;have s12:=s9.same S912;refine⟨blank,l2,_,rfl,rfl,e12,ll2,x,d,_,rows,rfl,ll1,s12.desk,s12.ok,.inl ⟨z,ns,zez hz,hz,hn60,hnf,fun q H14 hq e14 hD14 k14=>?_⟩⟩;exact rest _ _ ⟨_,_,_,ns,p,q,rfl,⟨H12,s12,hq,⟨S912 _ _ hp,by lia⟩,k14⟩,e14,hD14,hn60,hnf⟩
   ·
    refine⟨_,rfl,_,rfl,t,_,rfl,DGet.k (k:=.inr z) s5.th,_,rfl,?_⟩;rcases kG z s5.rat with⟨g1,g2⟩|⟨ns,p,g1,g2,g3⟩
    ·rw[g2];exact qz (qz (row _ (Same.refl _)))
    ·rw[g2];have dg:=DGet.k (k:=.inr z) s5.th;rw[g2] at dg;refine wm ⟨_,rfl,_,rfl,t,.ref p,rfl,dg,by show 0<=sizeLine;lia,fun e0 he0=>?_⟩;have S6:Same H5 (upd H5 e0 (.tup [])):=Same.lay he0;refine⟨p,e0,_,[],rfl,rfl,SqT.of (S6 _ _ g3.1),SqT.of zd,zaB ns,rfl,_,rfl,qB (fun e=>?_) (fun e=>qz (row _ S6))⟩;generalize upd H5 e0 (.tup [])=H6 at S6 ⊢
     have hn0:0<ns.length:=by
      cases ns with
      |nil=>exact absurd e (by decide)
      |cons _ _=>simp
     refine⟨_,rfl,_,rfl,_,_,rfl,rfl,a,scr,_,rfl,(s5.same S6).scr,by lia,by lia,fun r2 H7 _ _ S7=>⟨_,_,rfl,rfl,(by show(0:Int)<_;decide),rfl,_,rfl,qB (fun e=>lead _ ⟨S6.trans S7,ns,p,g1,g2,g3,hn0⟩) (fun e=>row _ (S6.trans S7))⟩⟩
  rintro σ H6 ⟨v6,v7,v9,ns,p,q,rfl,⟨Hb,sb,hqb,hpb,kb⟩,hq6,hD6,hn60,hnf⟩;have hq6':H6 q=some (.lst []):=hq6;refine zU zB ?_;refine⟨_,rfl,by show 0<=sizeLine;lia,fun l0 hl0=>?_⟩;have S7:Same H6 (upd H6 l0 (.lst [])):=Same.lay hl0;refine⟨q,l0,[],[],rfl,rfl,SqL.of (S7 _ _ hq6'),SqL.of zd,rfl,rfl,_,rfl,qz ?_⟩;have hq7:=S7 _ _ hq6';show z2 _ _ (upd H6 l0 (.lst []));generalize upd H6 l0 (.lst [])=H7 at S7 hq7 ⊢;refine zU zC ?_;refine⟨_,rfl,.inl ⟨rfl,_,SqL.of hq7⟩,q,_,_,rfl,rfl,hq7,by show 0<sizeLine;lia,?_⟩;have hD7:=hD6.same S7;have ktup:∀{b:Addr}{o:HO},H7 b=some o->(∀xs,o≠.lst xs)->upd H7 q (.lst ([]++[.str "x"])) b=some o:=fun {b o} e n=>by rw[zi (qE e hq7 fun z=>n _ z)];exact e
  have hD8:DeskAt C (upd H7 q (.lst ([]++[.str "x"]))) x d (vp rows z ns):=by
   obtain⟨dx,kv,h1,h2,h3,h4⟩:=hD7;exact⟨dx,kv,ktup h1 (fun xs z=>by cases z),ktup h2 (fun xs z=>by cases z),h3.keep fun b zs e=>ktup e (fun xs z=>by cases z),h4⟩
  have k8:KpD d Hb (upd H7 q (.lst ([]++[.str "x"]))):=fun b o e n=>by rw[zi (zf e hqb)];exact S7 _ _ (kb b o e n)
  show z3 _ _ (upd H7 q (.lst ([]++[.str "x"])));generalize upd H7 q (.lst ([]++[.str "x"]))=H8 at hD8 k8 ⊢;subst zD;clear hD7 ktup hq7 hq6 hq6' hD6 S7 kb;obtain⟨dxb,kvb,hxb,hdb,_⟩:=id sb.desk;have th8:H8 t=some (.dK kvs):=k8 _ _ sb.th sb.ne;have kt8:∀b zs,Hb b=some (.tup zs)->H8 b=some (.tup zs):=fun b zs e=>k8 _ _ e (qE e hdb (by intro z;cases z));have rat8:RowsAt H8 kvs rows:=sb.rat.keep kt8;have hp8:RowAt H8 p ns:=⟨kt8 _ _ hpb.1,hpb.2⟩;have scr8:Scr K H8 a scr:=sb.scr.kpd k8 hdb (fun xs z=>by cases z) (fun ob xs z=>by cases z);have tb8:Tabs T0 T1 T2 H8:=sb.tb.kpd k8 hdb (fun ps z=>by cases z) (fun c s z=>by cases z);have ok8:vY (vp rows z ns):=zg3 sb.ok hz hn60 hnf (by lia);have klen:kvs.length=rows.length:=Oa sb.rat;refine⟨_,rfl,_,rfl,_,rfl,t,_,rfl,DPut.k (k:=.inr z) th8 (zO (by lia)),?_⟩;obtain⟨rows',hrows'⟩:∃rows',vp rows z ns=rows':=⟨_,rfl⟩;obtain⟨kvs',hkvs'⟩:∃kvs',putK kvs (.inr z) (.ref p)=kvs':=⟨_,rfl⟩;rw[hkvs'];have rat9:RowsAt H8 kvs' rows':=by rw[<-hkvs',<-hrows'];exact da hp8 sb.ok.uq rat8
  have hrl':rows'.length<=i+1:=by rw[<-hrows'];have:=dh z ns rows;lia
  rw[hrows'] at hD8 ok8;have k9:KpD t H8 (upd H8 t (.dK kvs')):=fun b o e n=>by rw[zi n];exact e
  have th9:upd H8 t (.dK kvs') t=some (.dK kvs'):=zd;generalize upd H8 t (.dK kvs')=H9 at k9 th9 ⊢
  have sdesk:∀{H':Hp},KpD t H8 H'->DeskAt C H' x d rows'/\RowsAt H' kvs' rows'/\Scr K H' a scr/\Tabs T0 T1 T2 H':=fun {H'} kq=>by
   have kt:∀b zs,H8 b=some (.tup zs)->H' b=some (.tup zs):=fun b zs e=>kq _ _ e (qE e th8 (by intro z;cases z));obtain⟨dx,kv,h1,h2,h3,h4⟩:=id hD8;exact⟨⟨dx,kv,kq _ _ h1 (qE h1 th8 (by intro z;cases z)),kq _ _ h2 (OO sb.ne),h3.keep kt,h4⟩,rat9.keep kt,scr8.kpd kq th8 (fun xs z=>by cases z) (fun ob xs z=>by cases z),tb8.kpd kq th8 (fun ps z=>by cases z) (fun c s z=>by cases z)⟩
  refine⟨_,rfl,t,kvs',rfl,th9,fun ob=>?_⟩;have k10:KpD t H8 (upd H9 t (.frz ob (.dK kvs'))):=fun b o e n=>by rw[zi n];exact k9 b o e n
  have th10:upd H9 t (.frz ob (.dK kvs')) t=some (.frz ob (.dK kvs')):=zd;generalize upd H9 t (.frz ob (.dK kvs'))=H10 at k10 th10 ⊢;obtain⟨d10,r10,sc10,t10⟩:=sdesk k10;refine ze8 (fun j σ H'=>∃v10:Option V,σ=[some (.ref a),some (.ref x),some (.ref t),some (.int kk),some (.str z),some (.ref p),v6,v7,some (.ref q),v9,v10]/\Nt H10 H'/\Tabs T0 T1 T2 H') ⟨_,rfl,Nt.refl _,t10⟩ ?_ ?_ ?_
  ·rintro j σ H' _ ⟨v10,rfl,n',t'⟩;exact n' _ _ th10 (by intro ps z;cases z)
  ·rintro j ky vy σ H' hj ⟨v10,rfl,n',t'⟩;obtain⟨r,hr1,e1,p1,e2,hp1⟩:=Paired.at' r10 hj;have e1:ky=.inr r.1:=e1;subst e1;have hget:wt rows' r.1=some r.2:=zec ok8.uq (Uu hr1);have thx:=n' _ _ th10 (by intro ps z;cases z);have rx:RowsAt H' kvs' rows':=r10.keep fun b zs e=>n'.tup e;rcases kG r.1 rx with⟨g1,_⟩|⟨ns1,p2,g1,g2,g3⟩
   ·rw[hget] at g1;cases g1
   have dg:DGet H' t (.str r.1) (some (.ref p2)):=.inl ⟨kvs',.inr r.1,.inr ⟨ob,thx⟩,rfl,g2.symm⟩;refine⟨_,rfl,_,rfl,_,rfl,_,rfl,_,rfl,t,.ref p2,rfl,dg,_,rfl,_,_,rfl,rfl,.inl ⟨by decide,by decide⟩,_,_,rfl,rfl,a,x,d,p2,scr,rows',r.1,ns1,_,rfl,⟨sc10.nt n',d10.nt n',ok8,g1,g3,t'⟩,by lia,by lia,fun H'' n'' t''=>⟨_,rfl,zbw ⟨_,rfl,n'.trans n'',t''⟩⟩⟩
  ·rintro σ H' ⟨v10,rfl,n',t'⟩;have thx:=n' _ _ th10 (by intro ps z;cases z);have kz:KpD t H' (upd H' t (.dK kvs')):=fun b o e n=>by rw[zi n];exact e
   refine⟨t,ob,kvs',thx,h0t,_,_,_,_,_,_,_,_,rows',kvs',rfl,⟨?_,?_,ok8,zd,?_,sb.ne,t'.kpd kz thx (fun ps z=>by cases z) (fun c s z=>by cases z)⟩,hrl'⟩
   ·exact(sc10.nt n').kpd kz thx (fun xs z=>by cases z) (fun ob xs z=>by cases z)
   ·obtain⟨dx,kv,h1,h2,h3,h4⟩:=d10.nt n';exact⟨dx,kv,kz _ _ h1 (qE h1 thx (by intro z;cases z)),kz _ _ h2 (OO sb.ne),h3.keep fun b zs e=>kz _ _ e (qE e thx (by intro z;cases z)),h4⟩
   ·exact(r10.keep fun b zs e=>n'.tup e).keep fun b zs e=>kz _ _ e (qE e thx (by intro z;cases z))
open Kn
def fdO (x q:Str)(st:Stmt)(m:Str)(t:Tok)(c:Addr):FuncData:=fnOf x q (xr st) (qS st) (zh st) .none .none .none (.str m t) none (.ref c) .none
theorem zby {x q:Str}{st:Stmt}{m:Str}{t:Tok}{c:Addr}(l:K.lookup f=some (fO x q st m t c))(h:codeIn K (.ref c) q=true)(k:keepIn K (.ref f)=true):Fun K x q st f (fdO x q st m t c):=⟨⟨_,_,_,_,_,_,_,_,_,rfl,l,h⟩,k⟩
theorem zkM {x:Str}{st:Stmt}{ps:List Str}(X:K.In h)(G:h.Ns mainGlobals mg)(F:Fun K x x st f fd)(b:Binds K fd ps [])(e:nsIn K mainGlobals x=some (some (.ref f))):zK K mg x st ps f fd:=⟨F,OG X G e,b⟩
def zhM (Q:List Value->Prop):Nat->Prop
 |0=>Q []
 |n+1=>∀a,zhM (fun l=>Q (a::l)) n
theorem zep:∀(us:List Value){n:Nat}{Q:List Value->Prop},zhM Q n->us.length=n->Q us
 |[],_,_,h,rfl=>h
 |a::r,_,_,h,rfl=>zep r (h a) rfl
theorem zcS {x q:Str}{st:Stmt}{ps:List Str}(F:Fun K x q st f fd)(b:∀(kV doc pm:Value) (an:Option Addr) (cdv ct:Value),zhM (fun us=>bindArgs (fnOf x q (xr st) (qS st) (zh st) .none kV doc pm an cdv ct) ⟨us,[]⟩=pure (ps.zip us)) ps.length:=by intro _ _ _ _ _ _;first|exact fun _=>rfl|exact fun _ _=>rfl|exact fun _ _ _=>rfl|exact fun _ _ _ _=>rfl|exact fun _ _ _ _ _=>rfl):Binds K fd ps []:=F.binds fun a b' c d e f us=>zep us (b a b' c d e f)
def fdR (r:Rc):FuncData:=fdO r.x r.x r.st r.M.1 r.M.2 r.c
theorem dR (r:Rc){P:Params}{ps:List Str}(X:(KK P).In h)(G:h.Ns mainGlobals mg)(b:∀(kV doc pm:Value) (an:Option Addr) (cdv ct:Value),zhM (fun us=>bindArgs (fnOf r.x r.x (xr r.st) (qS r.st) (zh r.st) .none kV doc pm an cdv ct) ⟨us,[]⟩=pure (ps.zip us)) ps.length:=by intro _ _ _ _ _ _;first|exact fun _=>rfl|exact fun _ _=>rfl|exact fun _ _ _=>rfl|exact fun _ _ _ _=>rfl|exact fun _ _ _ _ _=>rfl)(l:(KK P).lookup (r.c+1)=some (fR r):=by kernel_rfl)(i:codeIn (KK P) (.ref r.c) r.x=true:=by kernel_rfl)(k:keepIn (KK P) (.ref (r.c+1))=true:=by kernel_rfl)(e:nsIn (KK P) mainGlobals r.x=some (some (.ref (r.c+1))):=by kernel_rfl):zK (KK P) mg r.x r.st ps (r.c+1) (fdR r):=zkM X G (zby l i k) (zcS (zby l i k) b) e
theorem zeS {x q:Str}{st:Stmt}{ps:List Str}(F:Fun K x q st f fd)(b:Binds K fd ps [])(e:findIn K (.ref C) x=some (some (.ref f)))(i:isFn K (.ref f)=true):MethAt K C x q st ps f fd:=⟨F,⟨e,i,F.kp⟩,b⟩
section
variable (P:Params)
abbrev wx:=fdO "nearest" "nearest" (top 31) "toldsums.orders" 418 193
theorem zfk:Fun (KK P) "nearest" "nearest" (top 31) 194 wx:=zby (by kernel_rfl) (by kernel_rfl) (by kernel_rfl)
theorem zfg:Binds (KK P) wx ["row","total"] []:=zcS (zfk P)
abbrev xN:=fdO "__init__" "Desk.__init__" (inClass (top 60) 0) "toldsums.whole" 467 323
theorem vv:Fun (KK P) "__init__" "Desk.__init__" (inClass (top 60) 0) 324 xN:=zby (by kernel_rfl) (by kernel_rfl) (by kernel_rfl)
theorem bz:Binds (KK P) xN ["self"] []:=zcS (vv P)
def bA:=zeS (C:=360) (vv P) (bz P) (by kernel_rfl) (by kernel_rfl)
abbrev fL:=fdO "ask" "Desk.ask" (inClass (top 60) 1) "toldsums.whole" 467 330
theorem ku:Fun (KK P) "ask" "Desk.ask" (inClass (top 60) 1) 331 fL:=zby (by kernel_rfl) (by kernel_rfl) (by kernel_rfl)
theorem zdy:Binds (KK P) fL ["self","line"] []:=zcS (ku P)
def kr:=zeS (C:=360) (ku P) (zdy P) (by kernel_rfl) (by kernel_rfl)
abbrev wH:=fdO "put_row" "Desk.put_row" (inClass (top 60) 2) "toldsums.whole" 467 337
theorem vZ:Fun (KK P) "put_row" "Desk.put_row" (inClass (top 60) 2) 338 wH:=zby (by kernel_rfl) (by kernel_rfl) (by kernel_rfl)
theorem pC:Binds (KK P) wH ["self","name","words"] []:=zcS (vZ P)
def pJ:=zeS (C:=360) (vZ P) (pC P) (by kernel_rfl) (by kernel_rfl)
abbrev vx:=fdO "lead_in_row" "Desk.lead_in_row" (inClass (top 60) 3) "toldsums.whole" 467 344
theorem ji:Fun (KK P) "lead_in_row" "Desk.lead_in_row" (inClass (top 60) 3) 345 vx:=zby (by kernel_rfl) (by kernel_rfl) (by kernel_rfl)
theorem kh:Binds (KK P) vx ["self","name","words"] []:=zcS (ji P)
def kj:=zeS (C:=360) (ji P) (kh P) (by kernel_rfl) (by kernel_rfl)
abbrev yh:=fdO "answer" "Desk.answer" (inClass (top 60) 4) "toldsums.whole" 467 349
theorem xG:Fun (KK P) "answer" "Desk.answer" (inClass (top 60) 4) 350 yh:=zby (by kernel_rfl) (by kernel_rfl) (by kernel_rfl)
theorem zab:Binds (KK P) yh ["self","word","name","words"] []:=zcS (xG P)
def zad:=zeS (C:=360) (xG P) (zab P) (by kernel_rfl) (by kernel_rfl)
abbrev xp:=fdO "row_named" "Desk.row_named" (inClass (top 60) 5) "toldsums.whole" 467 356
theorem jP:Fun (KK P) "row_named" "Desk.row_named" (inClass (top 60) 5) 357 xp:=zby (by kernel_rfl) (by kernel_rfl) (by kernel_rfl)
theorem fe:Binds (KK P) xp ["self","name"] []:=zcS (jP P)
def xQ:=zeS (C:=360) (jP P) (fe P) (by kernel_rfl) (by kernel_rfl)
end
section
variable {P:Params}{h:Heap}{mg:Str->Option Value}(X:(KK P).In h)(G:h.Ns mainGlobals mg)
def Z1:=dR wZ (ps:=["word"]) X G
def ZA:=dR wX (ps:=["row"]) X G
def ZW:=dR x9 (ps:=["row"]) X G
def ZL:=dR vL (ps:=["row"]) X G
def Zb:=dR jf (ps:=["row"]) X G
def ZF:=dR wY (ps:=["stretch"]) X G
def Qf:=dR yW (ps:=["stretches"]) X G
def ZX:=dR wa (ps:=["stretches"]) X G
def ZQ:=dR xy (ps:=["stretches"]) X G
def Zh:=dR yX (ps:=["row","total"]) X G
def Qa:=dR jy (ps:=["row","total"]) X G
def Z5:=dR w6 (ps:=["row","total","worth"]) X G
def ZG:=dR jM (ps:=["row","total"]) X G
def ZH:=dR vi (ps:=["row","total"]) X G
def Zo:=dR vh (ps:=["row","total"]) X G
def ZY:=dR wc (ps:=["row","low","high"]) X G
def Qs:=dR gL (ps:=["row","place","number"]) X G
def Qe:=dR yV (ps:=["row","number"]) X G
def Ql:=dR j6 (ps:=["row","total"]) X G
def ZN:=dR vN (ps:=["m","rest"]) X G
def Qg:=dR yY (ps:=["row","m","rest"]) X G
def Qt:=dR gM (ps:=["word"]) X G
def Zj:=dR xA (ps:=["word","figures"]) X G
def ZM:=dR vM (ps:=["words"]) X G
def Ze:=dR vg (ps:=["stretch"]) X G
def Zr:=dR vK (ps:=["pair"]) X G
def Zp:=dR w5 (ps:=["stretches"]) X G
def yO:=dR jR (ps:=["row","numbers"]) X G
def yk:=dR jA (ps:=["row","numbers"]) X G
def wJ:=dR q9 (ps:=["row","numbers"]) X G
def yP:=dR jS (ps:=["row","numbers"]) X G
def yj:=dR jz (ps:=["row","numbers"]) X G
def yQ:=dR jT (ps:=["row","numbers"]) X G
def ym:=dR jB (ps:=["row","numbers"]) X G
def wK:=dR ja (ps:=["row","numbers"]) X G
def wL:=dR jc (ps:=["row","numbers"]) X G
def Za:=dR fu (ps:=["script","k"]) X G
def Zk:=dR yK (ps:=["script","at","most"]) X G
def Qh:=dR de (ps:=["script","at","most"]) X G
def Zs:=dR kL (ps:=["row"]) X G
def Zi:=dR fj (ps:=["row","low_sum","high_sum"]) X G
def Zt:=dR kJ (ps:=["script","at","row"]) X G
def Z6:=dR ft (ps:=["script","i"]) X G
def Zg:=dR fm (ps:=["pair"]) X G
def Zq:=dR kK (ps:=["pairs"]) X G
def Zw:=dR vO (ps:=["row","total"]) X G
def ZI:=dR wB (ps:=["row","total"]) X G
def Zc:=dR kI (ps:=["desk","line","due"]) X G
def ZC:=dR xk (ps:=["script","desk","name","row","at"]) X G
def Zy:=dR vP (ps:=["script","desk","name","row","at"]) X G
def zkg:=dR zdU (ps:=["script"]) X G
end
theorem zaO (P:Params):FunC (KK P) "nearest" "nearest" (top 31) 194 wx 193 189:=⟨⟨.type "function",none,.none,.none,.str "toldsums.orders" 418,none,.none,#[],rfl,by kernel_rfl,by kernel_rfl⟩,by kernel_rfl,by kernel_rfl⟩
theorem zdC {P:Params}(X:(KK P).In h)(G:h.Ns mainGlobals mg):fh (KK P) mg "nearest" (top 31) ["row","total"] 194 wx 193 189:=⟨zaO P,OG X G (by kernel_rfl),zfg P⟩
theorem gw (P:Params):FunC (KK P) "most_apart" "most_apart" (top 20) 142 (fdR jy) 141 137:=⟨⟨.type "function",none,.none,.none,.str "toldsums.apart" 346,none,.none,#[],rfl,by kernel_rfl,by kernel_rfl⟩,by kernel_rfl,by kernel_rfl⟩
theorem zae {P:Params}(X:(KK P).In h)(G:h.Ns mainGlobals mg):fh (KK P) mg "most_apart" (top 20) ["row","total"] 142 (fdR jy) 141 137:=⟨gw P,OG X G (by kernel_rfl),(Qa X G).bd⟩
theorem fN (P:Params):FunC (KK P) "points_of" "points_of" (top 33) 201 (fdR j6) 200 196:=⟨⟨.type "function",none,.none,.none,.str "toldsums.papers" 438,none,.none,#[],rfl,by kernel_rfl,by kernel_rfl⟩,by kernel_rfl,by kernel_rfl⟩
theorem zbM {P:Params}(X:(KK P).In h)(G:h.Ns mainGlobals mg):fh (KK P) mg "points_of" (top 33) ["row","total"] 201 (fdR j6) 200 196:=⟨fN P,OG X G (by kernel_rfl),(Ql X G).bd⟩
theorem TC_ {P:Params}(X:(KK P).In h)(G:h.Ns mainGlobals mg):pH (KK P) mg 360:=⟨⟨by kernel_rfl,by kernel_rfl,by kernel_rfl,by kernel_rfl⟩,by unfold NoAttr;kernel_rfl,OG X G (by kernel_rfl)⟩
theorem MK_ (P:Params):Mk (KK P) 360 324:=⟨by kernel_rfl,by kernel_rfl,by kernel_rfl,by kernel_rfl⟩
theorem ze6 {P:Params}(X:(KK P).In h)(G:h.Ns mainGlobals mg):mg "FIGURES"=some (.str "0123456789" 273):=OG X G (by kernel_rfl)
theorem ze5 {P:Params}(X:(KK P).In h)(G:h.Ns mainGlobals mg):mg "LETTERS"=some (.str "abcdefghijklmnopqrstuvwxyz" 469):=OG X G (by kernel_rfl)
theorem dY {P:Params}(X:(KK P).In h)(G:h.Ns mainGlobals mg):mg "NAME_LETTERS"=some (.int 8 471):=OG X G (by kernel_rfl)
theorem p9 {P:Params}(X:(KK P).In h)(G:h.Ns mainGlobals mg):mg "ROW_NUMBERS"=some (.int 60 473):=OG X G (by kernel_rfl)
theorem yM {P:Params}(X:(KK P).In h)(G:h.Ns mainGlobals mg):mg "ROW_FIGURES"=some (.int 12 475):=OG X G (by kernel_rfl)
theorem wG {P:Params}(X:(KK P).In h)(G:h.Ns mainGlobals mg):mg "ASKED_FIGURES"=some (.int 14 477):=OG X G (by kernel_rfl)
theorem zdB:KD P w (KK w.params) 309 (([("show",592,.ref 256),("count",593,.ref 263),("within",594,.ref 270),("rest",595,.ref 277),("order",596,.ref 284),("near",597,.ref 291),("apart",598,.ref 296),("points",599,.ref 303),("parted",600,.ref 308)]:List (Str×Tok×Value)).map (fun p=>(Sum.inr p.1:Key)) |>.zip [.ref 256,.ref 263,.ref 270,.ref 277,.ref 284,.ref 291,.ref 296,.ref 303,.ref 308]):=
 zh7 (l:=[("show",592,.ref 256),("count",593,.ref 263),("within",594,.ref 270),("rest",595,.ref 277),("order",596,.ref 284),("near",597,.ref 291),("apart",598,.ref 296),("points",599,.ref 303),("parted",600,.ref 308)]) (n:=9) (by decide) (by kernel_rfl) (by decide +kernel) (.cons rfl (.cons rfl (.cons rfl (.cons rfl (.cons rfl (.cons rfl (.cons rfl (.cons rfl (.cons rfl (.nil))))))))))
theorem ze7 {P:Params}(X:(KK P).In h)(G:h.Ns mainGlobals mg):mg "ANSWERS"=some (.ref 309):=OG X G (by kernel_rfl)
theorem ff:KD P w (KK w.params) 310 (([("show",611,.int 0 612),("count",613,.int 1 614),("within",615,.int 2 616),("rest",617,.int 2 618),("order",619,.int 1 620),("near",621,.int 1 622),("apart",623,.int 1 624),("points",625,.int 1 626),("parted",627,.int 1 628)]:List (Str×Tok×Value)).map (fun p=>(Sum.inr p.1:Key)) |>.zip [.int 0,.int 1,.int 2,.int 2,.int 1,.int 1,.int 1,.int 1,.int 1]):=
 zh7 (l:=[("show",611,.int 0 612),("count",613,.int 1 614),("within",615,.int 2 616),("rest",617,.int 2 618),("order",619,.int 1 620),("near",621,.int 1 622),("apart",623,.int 1 624),("points",625,.int 1 626),("parted",627,.int 1 628)]) (n:=9) (by decide) (by kernel_rfl) (by decide +kernel) (.cons ⟨_,rfl⟩ (.cons ⟨_,rfl⟩ (.cons ⟨_,rfl⟩ (.cons ⟨_,rfl⟩ (.cons ⟨_,rfl⟩ (.cons ⟨_,rfl⟩ (.cons ⟨_,rfl⟩ (.cons ⟨_,rfl⟩ (.cons ⟨_,rfl⟩ (.nil))))))))))
theorem br {P:Params}(X:(KK P).In h)(G:h.Ns mainGlobals mg):mg "NUMBERS_ASKED"=some (.ref 310):=OG X G (by kernel_rfl)
def gR:Nat->Rc
 |0=>jR
 |1=>jA
 |2=>q9
 |3=>jS
 |4=>jz
 |5=>jT
 |6=>jB
 |7=>ja
 |_=>jc
def gA (i:Nat):Addr:=(gR i).c+1
def gD (i:Nat):FuncData:=fdR (gR i)
theorem kp_ (P:Params):∀i,i<9->keepIn (KK P) (.ref (gA i))=true:=nine (by kernel_rfl) (by kernel_rfl) (by kernel_rfl) (by kernel_rfl) (by kernel_rfl) (by kernel_rfl) (by kernel_rfl) (by kernel_rfl) (by kernel_rfl)
theorem bd_ {P:Params}(X:(KK P).In h)(G:h.Ns mainGlobals mg):∀i,i<9->Binds (KK P) (gD i) ["row","numbers"] []:=nine (yO X G).bd (yk X G).bd (wJ X G).bd (yP X G).bd (yj X G).bd (yQ X G).bd (ym X G).bd (wK X G).bd (wL X G).bd
abbrev TT:Hp->Prop:=Tabs 189 137 196
theorem zjk (X:(KK w.params).In h)(G:h.Ns mainGlobals mg)(BM:pO mg base)(T:Txt mg):Answers Pr w (KK w.params) mg base TT gA gD:=by
 have N:Tne 189 137 196:=⟨by decide,by decide,by decide⟩;have o_sum:=yy (P:=Pr) (w:=w) (base:=base) (Zb X G).fn T (ZW X G) (ZL X G);have o_all:=zcs (Zh X G).fn T (Zb X G) o_sum;have o_first:=zcr (P:=Pr) (w:=w) (base:=base) (Qf X G).fn T;have o_long:=pY (P:=Pr) (w:=w) (base:=base) (ZX X G).fn T (ZF X G);have o_short:=dA (P:=Pr) (w:=w) (base:=base) (ZQ X G).fn T (ZF X G);have o_shown:=zbk (P:=Pr) (w:=w) (base:=base) (ZA X G).fn T;have o_ss:=gT (P:=Pr) (w:=w) (base:=base) (Ze X G).fn T;have o_sms:=fY (Zr X G).fn T (Ze X G) o_ss;have o_four:=zbq (Zp X G).fn T (Ze X G) o_ss (Qf X G) o_first (ZX X G) o_long (ZQ X G) o_short;have o_ord:=zcq (Qe X G).fn T (Zb X G) o_sum;have o_look:=bf (P:=Pr) (w:=w) (base:=base) (ZN X G).fn T;have o_rest:=zct (Qg X G).fn T (Zb X G) o_sum (ZN X G) o_look;have o_win:=pZ (ZY X G).fn T (Zb X G) o_sum;have o_near:=zdi (zaO w.params) T BM (Zb X G) o_sum;have o_apart:=pX (gw w.params) T BM (Z5 X G) (Zh X G) o_all;have o_pts:=zbm (fN w.params) T BM (Zh X G) o_all;have o_pf:=gU (Zo X G).fn T (Zh X G) o_all;have o_cp:=k7 (ZG X G).fn T (Zo X G) o_pf;have o_fp:=gW (ZH X G).fn T (Zo X G) o_pf (Zh X G) o_all;exact⟨kp_ _,bd_ X G,nine ((dD (yO X G).fn T (ZA X G) o_shown).mono (by decide)) ((bo (yk X G).fn T (Zh X G) o_all (Zp X G) o_four).mono (by decide)) ((gX (wJ X G).fn T (ZY X G) o_win (Zp X G) o_four).mono (by decide)) ((dE (yP X G).fn T (Qg X G) o_rest (Zp X G) o_four).mono (by decide)) ((bj (yj X G).fn T (Qe X G) o_ord (Zr X G) o_sms).mono (by decide)) ((dF N (yQ X G).fn T (zdC X G) o_near (Zr X G) o_sms).mono (by decide)) (bp N (ym X G).fn T (zae X G) o_apart (Ze X G) o_ss) (gY N (wK X G).fn T (zbM X G) o_pts (ZA X G) o_shown) (gZ (wL X G).fn T (ZG X G) o_cp (ZH X G) o_fp (Ze X G) o_ss)⟩
theorem ziR (X:(KK w.params).In h)(G:h.Ns mainGlobals mg)(BM:pO mg base):FnOk Pr w (KK w.params) mg base CX0 12 462 (fdR zdU) ["script"] (zfE (KK w.params) [189,137,196]):=by
 have T:Txt mg:=by constructor<;>exact PySem.W.mg_none_of X G (by kernel_rfl)
 have TC:=TC_ X G;have hT:=zjs 189 137 196;have AN:=zjk (Pr:=Pr) X G BM T;have o_draw:=bE (P:=Pr) (w:=w) (base:=base) (Za X G).fn T;have o_num:=gV (P:=Pr) (w:=w) (base:=base) (Zk X G).fn T (Za X G);have o_row:=ziO (P:=Pr) (w:=w) (base:=base) (Qh X G).fn T (Za X G) (Zk X G);have o_ah:=zcu (P:=Pr) (w:=w) (base:=base) (Zs X G).fn T;have o_with:=zhh (P:=Pr) (w:=w) (base:=base) (Zi X G).fn T (Zs X G);have o_tot:=zf3 (P:=Pr) (w:=w) (base:=base) (Zt X G).fn T (Za X G) (Zk X G);have o_isn:=zbp (P:=Pr) (w:=w) (base:=base) (Z1 X G).fn T (ze6 X G);have o_name:=zdj (P:=Pr) (w:=w) (base:=base) (Qt X G).fn T (ze5 X G) (dY X G);have o_nr:=dB (Zj X G).fn T (Z1 X G) o_isn;have o_rw:=ba (ZM X G).fn T (Zj X G) o_nr (p9 X G) (yM X G);have o_led:=zdg (P:=Pr) (w:=w) (base:=base) (Qs X G).fn T;have o_init:=zhj (P:=Pr) (w:=w) (base:=base) (vv w.params) TC;have o_named:=zbl (P:=Pr) (w:=w) (base:=base) (jP w.params) TC;have o_put:=zdh (vZ w.params) TC (Qt X G) o_name (ZM X G) o_rw;have o_lead:=dC (ji w.params) T TC (xQ _) o_named (Zj X G) o_nr (Qs X G) o_led (yM X G) (wG X G);have o_ans:=zeM (Tb:=TT) (g:=gA) (gd:=gD) hT.same (xG w.params) T TC (xQ _) o_named (Zj X G) o_nr (wG X G) (ze7 X G) (br X G) (zdB (P:=Pr) (w:=w)) (ff (P:=Pr) (w:=w)) AN;have o_ask:=ziQ (Tb:=TT) hT.same (ku w.params) T TC (pJ _) o_put (kj _) o_lead (zad _) o_ans;have o_nm:=zcp (Z6 X G).fn T (Za X G) o_draw;have o_pair:=zco (P:=Pr) (w:=w) (base:=base) (Zg X G).fn T;have o_three:=zbo (Zq X G).fn T (Zg X G) o_pair;have o_fa:=y6 (Zw X G).fn T (Zi X G) o_with;have o_pa:=bg (ZI X G).fn T (Zi X G) o_with;have o_tw:=zbn (Tb:=TT) hT (Zc X G).fn T TC (kr _) o_ask;have o_su:=kZ (Tb:=TT) hT (ZC X G).fn T TC (Zs X G) o_ah (Zi X G) o_with (Zt X G) o_tot (Za X G) o_draw (Zg X G) o_pair (Zc X G) o_tw (Zq X G) o_three;have o_as:=y7 (Tb:=TT) hT (Zy X G).fn T TC (Zi X G) o_with (Zt X G) o_tot (Za X G) o_draw (Zg X G) o_pair (Zc X G) o_tw (Zq X G) o_three (Zw X G) o_fa (ZI X G) o_pa (ZC X G) o_su (kr _) o_ask;exact ziP (zkg X G).fn T TC (MK_ _) (bA _) o_init (kr _) o_ask (Za X G) o_draw (Z6 X G) o_nm (Zk X G) o_num (Qh X G) o_row (Zy X G) o_as
theorem walk {q:Program}{loose:List Str}{XP:(Str->Option Value)->Heap->Prop}{d:DefRec}(hn:d.name="law":=by rfl)(hdf:d.params.defaults=[]:=by rfl) :
 PySem.W.WalkO q loose XP (PySem.W.Hook.says HK) PySem.Challenge.rw_toldsums_k36_desk_answers.row.toRowW d [] (fun f vs=>PySem.call f vs):=by
 refine L2.walk_ofT (l:=PySem.Challenge.rw_toldsums_k36_desk_answers) (n:=63) (k:=12) (x:="script") (K:=KK) (ts:=[189,137,196]) (sp:=fun w tabs=>zfE (KK w.params) tabs) rfl (by decide) hdf ⟨rfl,by decide,by decide⟩ (fun w h Y=>⟨PySem.W.km_in_of Y,PySem.W.km_tabs_of Y⟩) ?_;intro w mg fa h KX G hmg;rw[hn] at hmg;have e:=hmg.symm.trans (OG (n:="law") (v:=.ref 462) KX G (by kernel_rfl))
 cases e;refine⟨(fdR zdU),[189,137,196],fun P hP=>?_,fun s u=>.of_eq rfl,fun base _ _ BM=>ziR KX G BM,fun H a ns hl hS hT=>⟨a,ns,rfl,hS,hl,hT,fun _=>rfl⟩⟩;refine⟨hP,?_⟩;rcases Uw.mp hP with rfl|hP
 ·exact⟨by kernel_rfl,193,by kernel_rfl⟩
 rcases Uw.mp hP with rfl|hP
 ·exact⟨by kernel_rfl,141,by kernel_rfl⟩
 rw[Uz.mp hP];exact⟨by kernel_rfl,200,by kernel_rfl⟩
section
open PySem.W
theorem zhI {γ:Type}{o:Option α}{f:α->Option β}{g:β->γ}{x:α}{y:β}(a:o=some x)(t:f x=some y):(o.bind f).map g=some (g y):=by subst a;show(f x).map g=_;rw[t];rfl
theorem hlL:LeftO pp qq ll Xt_ (Hook.obs HK) (Hook.val HK) 6990 true:=fun w=>by
 obtain⟨⟨h',gs,d,k,os⟩,a,b⟩:=UT.mp (boot_open (p:=pp) (N:=6990) op_ rfl (fun _=>rfl) w);obtain⟨rfl,rfl,rfl,rfl⟩:h'=boot_heap w.params/\gs=Array.mk []/\d=boot_drawn/\k=boot_toks:=by simpa using b
 have e:=World.withFollow_self w rw_;have h4:C4 (w.params.followText rw_):=match w.params.followText rw_ with|false=>c4F|true=>c4T
 have h5:C5 (w.params.followText rw_):=match w.params.followText rw_ with|false=>c5F|true=>c5T
 have h4:=Tn (h4 w) os;have r5:=Tn (h5 w) os;have h6:C6 (w.params.followText rw_):=match w.params.followText rw_ with|false=>c6F|true=>c6T
 have h7:C7 (w.params.followText rw_):=match w.params.followText rw_ with|false=>c7F|true=>c7T
 have h8:C8 (w.params.followText rw_):=match w.params.followText rw_ with|false=>c8F|true=>c8T
 have l1:=Tn (h6 w) os;have h9:C9 (w.params.followText rw_):=match w.params.followText rw_ with|false=>c9F|true=>c9T
 have l2:=Tn (h7 w) os;have l4:=Tn (h9 w) os;have l3:=Tn (h8 w) os;rw[e] at h4 r5 l1 l2 l3 l4;generalize sF w os=s₁ at r5 l1 l2 l3 l4
 have r:topRun treeTable pp w 11 an (12+(1+(1454+(809+(1180+(2)))))) (s0 w os) (topStub pp)=some s₁:=by
  refine go_top (Tn (c1 w) os) ?_;refine piece_block (Tn (c2 w) os) ?_;have e1:∀n s,topRun treeTable pp w 11 an n s (restOf (bb.take 23++ZR1) bw cc p0 [topFrame p0])=topRun treeTable pp w 11 an n s (restOf bb bw cc p0 [topFrame p0]):=fun n s=>by rw[Oo]
  rw[<-e1,<-Tn (c2t w) os];refine piece_app (segRun_of (Tn (zd1 w) os)) ?_;have e2:∀n s,topRun treeTable pp w 11 an n s (restOf (ZR1.take 35++ZR2) bw cc zq1 [topFrame p0])=topRun treeTable pp w 11 an n s (restOf ZR1 bw cc zq1 [topFrame p0]):=fun n s=>by rw[Oo]
  rw[<-e2];refine piece_app (segRun_of (Tn (zd2 w) os)) ?_;have ez:∀n s,topRun treeTable pp w 11 an n s (restOf (ZR2++[]) bw cc zq2 [topFrame p0])=topRun treeTable pp w 11 an n s (restOf ZR2 bw cc zq2 [topFrame p0]):=fun n s=>by rw[Ol]
  rw[<-ez];exact piece_app (segRun_of h4) (piece_nil r5)
 have r:=topRun_mono (6990-(12+(1+(1454+(809+(1180+(2))))))) _ _ _ _ r;rw[show(12+(1+(1454+(809+(1180+(2))))))+(6990-(12+(1+(1454+(809+(1180+(2)))))))=6990 by decide] at r;obtain⟨z1,z2,z3⟩:_/\_/\_:=by simpa only [Prod.mk.injEq] using c0 w
 have t:topFrom treeTable pp w 6990 (s0 w os)=some s₁:=by
  unfold topFrom s0;dsimp only;rw[z1,z2,z3];show((topRun treeTable pp w 11 an 6990 (s0 w os) (topStub pp)).bind _)=_;rw[r];show(match staticsOk (importedModules pp.main.body) (boot_heap w.params) s₁.heap&&namesBound pp s₁.heap&&gensDone s₁&&laidKept (boot_heap w.params) s₁.heap with|true=>some s₁|false=>none)=_;rw[l1]
 unfold openEnds;exact(zhI (f:=topFrom treeTable pp w 6990) a t).trans (O3 some (Prod.ext (Prod.ext l2 l4) l3))
end
end
end My
open PySem PySem.W PyProof.Rows
set_option maxRecDepth 100000 in
set_option maxHeartbeats 0 in
theorem PySem.Challenge.cw_toldsums_k36_desk_answers_holds : PySem.Challenge.rw_toldsums_k36_desk_answers.Holds := by
 w_on;refine holds_law Kn.said_ fun said=>?_;refine holds_open (q:=Kn.qq) (loose:=["ANSWERS","NUMBERS_ASKED"]) (Xt:=Kn.Xt_) (XP:=XL Kn.qq []) (Yf:=Hook.obs Kn.HK) (Ya:=Hook.val Kn.HK) (YP:=Hook.says Kn.HK) (N:=6990) ?hl (Hook.of Kn.HK) (Hook.keeps Kn.HK) (fun s e=>xl_of s (Bool.and_eq_true_iff.mp e).1) XL.keeps (by rfl) (by rfl) (by rfl) (fun s e=>recFacts_of (Bool.and_eq_true_iff.mp e).2) (by rfl) said (by kernel_rfl) ⟨rfl,rfl,rfl,rfl,rfl,by decide +kernel⟩ ?hw ?hc
 case hw=>w_witness2
 case hl=>exact My.hlL
 exact My.walk
