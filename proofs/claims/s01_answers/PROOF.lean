import PyProof.Rows.All
import Wide.All
import OpenK.AllK
import Wide.FinOn
import PyProof.EqAt
import PyProof.EqKinds
import PyProof.TupleCall
import KE.BitLaws
import Open.SpecLaws
import KE.OsHead
import KE.OsGo
import KE.KDictSum
import KE.KDictLaws
import PyProof.Rows.SortShellAny
import PyProof.ZipIter
import PyProof.Draws
import PyProof.AttrMissHeap
import PyProof.TupleIter
import PyProof.WalksMore
import PyProof.ListNew
import PyProof.CollectWalk
import PyProof.EnumMake
import PyProof.Rows.CallKwBuiltin
import PySem.Challenge.RW_quartermeters_s01_answers
set_option Elab.async false
set_option linter.all false
set_option compiler.extract_closed false
set_option maxRecDepth 100000
def Ja:=@PySem.wpAny_bind
def Jb:=@PySem.Heap.get?_push_of_some
def Jc:=@if_neg
def Jd:=@List.length_map
def Je:=@if_pos
def Jf:=@List.mem_cons
def Jg:=@PySem.wpAny_pure
def Jh:=@List.mem_cons_self
def Ji:=@List.getElem?_eq_some_iff
def Jj:=@Option.some.inj
def Jk:=@List.mem_map
def Jl:=@PySem.Heap.lt_size
def Jm:=@List.mem_cons_of_mem
def Jo:=@List.getElem?_eq_getElem
def Jp:=@Nat.le_refl
def Jq:=@List.map_cons
def Jr:=@Bool.false_ne_true
def Js:=@PySem.Heap.get?_push_size
def Jt:=@List.getElem?_map
def Ju:=@List.pairwise_cons
def Jv:=@List.map_append
def Jw:=@Bool.and_eq_true
def Jx:=@List.length_append
def Jy:=@Bool.and_true
def Jz:=@List.length_cons
def J0:=@List.mem_of_getElem?
def J1:=@Int.toNat_natCast
def J2:=@List.mem_filter
def J3:=@List.mem_singleton
def J4:=@List.mem_append
def J5:=@Nat.ne_of_gt
def J6:=@PySem.Heap.size_push
def J7:=@decide_eq_false
def J8:=@List.size_toArray
def J9:=@decide_eq_true_eq
def Xa:=@List.not_mem_nil
def Xb:=@Ne.symm
def Xc:=@List.perm_iff_count
def Xd:=@Nat.le_trans
def Xe:=@PySem.F.plainAttrs_list
def Xf:=@List.nodup_cons
def Xg:=@List.filter_cons
def Xh:=@List.take_length
def Xi:=@PySem.wpAny_holding
def Xj:=@Nat.le_of_lt
def Xk:=@Nat.lt_of_lt_of_le
def Xl:=@Nat.ne_of_lt
def Xm:=@decide_eq_true
def Xn:=@List.getElem?_zip_eq_some
def Xo:=@PySem.wpAny_field
def Xp:=@List.length_filter_le
def Xq:=@List.take_add_one
def Xr:=@Bool.false_eq_true
def Xs:=@List.count_append
def Xu:=@List.getLast?_cons_cons
def Xv:=@PySem.F.slot_list_append
def Xw:=@PySem.F.type_list_append
def Xx:=@PySem.mem_of_lookup
def Xy:=@List.map_map
def Xz:=@List.count_cons
def X0:=@List.lookup_cons
def X3:=@Nat.zero_le
def X4:=@PySem.wpAny_setField_rec
def X5:=@PySem.wpAny_call_entry
def X6:=@List.getElem?_toArray
def X7:=@PySem.wpAny_callSpecial?_slot
def X8:=@List.map_congr_left
def X9:=@if_false
def Yb:=@List.nodup_nil
def Yc:=@PySem.wpAny_seqItems
def Yd:=@Nat.lt_irrefl
def Ye:=@List.mem_append_right
def Yg:=@List.find?_cons
def Yh:=@List.count_nil
def Yi:=@List.zipWith_append
def Yj:=@Nat.le_add_right
def Yk:=@congrArg
def Yl:=@List.forIn_nil
def Ym:=@List.forIn_cons
def Yn:=@List.getElem?_eq_none
def Yo:=@PyProof.Rows.callWith_type1
def Yp:=@Array.getElem?_eq_some_iff
def Yq:=@beq_iff_eq
def Yr:=@List.length_zip
def Ys:=@PySem.PassesOwn.never
def Yt:=@decide_eq_decide
def Yu:=@beq_eq_false_iff_ne
def Yv:=@List.append_assoc
def Yw:=@PySem.wpAny_mono
def Yx:=@List.sum_cons
def Yy:=@PySem.Heap.get?_update_self
def Yz:=@PySem.F.slot_dict_keyiterator_next
def Y0:=@or_false
def Y3:=@List.length_nil
def Y4:=@List.any_cons
def Y5:=@List.getLast?_map
def Y6:=@PySem.wpAny_pyIter_list
def Y7:=@List.append_nil
def Y8:=@Array.getElem?_eq_getElem
def Y9:=@List.any_eq_true
def Za:=@Nat.add_sub_cancel
def Zb:=@decide_eq_true_iff
def Zc:=@PySem.Calls.spliced_cons
def Zd:=@Array.forIn_toList
def Ze:=@List.cons.inj
def Zf:=@List.pairwise_append
def Zg:=@List.mem_of_getLast?
def Zh:=@List.pairwise_singleton
def Zi:=@List.nodup_append
def Zj:=@not_false_eq_true
def Zk:=@List.flatten_cons
def Zl:=@of_decide_eq_true
def Zm:=@Bool.eq_iff_iff
def Zn:=@PySem.F.slot_zip_next
def Zo:=@List.filter_eq_nil_iff
def Zp:=@List.getElem?_set_self
def Zq:=@PySem.Heap.get?_update_other
def Zr:=@PySem.Paired.length
def Zs:=@List.length_take
def Zt:=@PySem.F.slot_dict_get
def Zu:=@List.range_succ
def Zv:=@List.map_nil
def Zw:=@List.getElem?_of_mem
def Zx:=@List.mem_append_left
def Zy:=@List.getElem?_set_ne
def Zz:=@PySem.wpAny_truthy_bool
def Z1:=@PySem.wpAny_typeNameOfWhole_keyiter
def Z4:=@List.Perm.refl
def Z5:=@List.filter_append
def Z6:=@PySem.tupleKind_room_in1
def Z7:=@List.sum_append
def Z8:=@PySem.wpAny_passesOwn
def Z9:=@PySem.wpAny_onRaise
def Wa:=@PySem.F.slot_tuple_iterator_next
def Wb:=@Bool.eq_false_iff
def Wc:=@PySem.Calls.spliced_nil
def Wd:=@Nat.lt_succ_of_lt
def We:=@PySem.wpAny_newObj_type
def Wf:=@Option.isSome_map
def Wg:=@List.getElem?_append_left
def Wh:=@if_true
def Wi:=@List.all_eq_true
def Wj:=@PySem.wpAny_typeNameOf_keyiter
def Wk:=@Nat.zero_lt_succ
def Wl:=@PySem.F.slot_list_extend
def Wm:=@PySem.F.type_list_extend
def Wn:=@List.filter_sublist
def Wo:=@List.flatten_append
def Wq:=@List.replicate_succ
def Wr:=@PySem.Heap.SameBut.update
def Ws:=@PySem.wpAny_attempt
def Wt:=@List.filter_map
def Wu:=@Nat.lt_of_le_of_lt
def Wv:=@of_decide_eq_false
def Ww:=@Prod.mk.inj
def Wx:=@Sum.inl.inj
def Wy:=@PySem.Calls.callWith_builtin
def Wz:=@List.take_of_length_le
def W0:=@PySem.F.entry_dict_get
def W2:=@PySem.wpAny_letGo
def W3:=@List.zipWith_cons_cons
def W4:=@PySem.F.slot_zip_getattribute
def W5:=@PySem.wpAny_newTuple
def W6:=@Bool.and_eq_true_iff
def W7:=@PySem.Calls.evalArgs_plain
def W8:=@PySem.Draws.list
def W9:=@PySem.Around.under_plainId
def Ua:=@List.map_take
def Ub:=@List.length_pos_iff
def Uc:=@List.filterMap_cons
def Ud:=@Array.length_toList
def Ue:=@PySem.F.plain_extend_loop
def Ug:=@Nat.div_add_mod
def Uh:=@List.length_set
def Ui:=@List.getLast?_eq_getElem?
def Uj:=@PySem.wpAny_updateSeq
def Uk:=@PySem.codeAny_builtin
def Ul:=@PySem.wpAny_loadPart'
def Um:=@List.drop_eq_getElem_cons
def Uo:=@List.Pairwise.imp_of_mem
def Up:=@Option.isSome_iff_exists
def Uq:=@Int.zero_add
def Ur:=@PySem.codeAny_mono
def Us:=@PySem.wpAny_Call_Name_kw
def Ut:=@PySem.Obj.data_mapFields
def Uu:=@Option.isNone_some
def Uv:=@Bool.false_and
def Uw:=@PySem.wpAny_rule
def Ux:=@List.getElem?_replicate
def Uy:=@PySem.F.plainAttrs_dict
def Uz:=@List.getElem?_cons_zero
def U0:=@List.getElem?_cons_succ
def U1:=@List.flatMap_cons
def U3:=@List.pairwise_map
def U4:=@List.length_range
def U5:=@Nat.le_of_succ_le
def U6:=@PySem.wpAny_Call_method
def U7:=@PySem.wpAny_pyIter_slot
def U8:=@PySem.wpAny_dictEntries
def U9:=@PySem.wpAny_pyIter_enum
def Qa:=@PySem.F.args_zip_next_1
def Qc:=@List.all_cons
def Qd:=@PySem.plainId_quiet
def Qe:=@Nat.lt_succ_self
def Qg:=@List.length_drop
def Qh:=@PySem.wpAny_isInstance
def Qi:=@List.zipIdx_cons
def Qj:=@PySem.Heap.IsList.push
def Qk:=@PySem.F.entry_zip_next
def Ql:=@PySem.Heap.size_update
def Qm:=@List.length_tail
def Qn:=@List.length_replicate
def Qo:=@List.set_getElem_self
def Qp:=@Nat.le_of_eq
def Qq:=@PySem.wpAny_execs_nil
def Qs:=@PySem.pushCells_keeps
def Qt:=@PySem.call_meetsIn
def Qu:=@List.zipIdx_nil
def Qv:=@List.length_zipWith
def Qw:=@Bool.and_false
def Qx:=@and_true
def Qy:=@List.map_id
def Qz:=@Bool.false_or
section
namespace HH
open PySem PySem.W PySem.Calls PyProof.Rows
set_option maxHeartbeats 0
variable (P:Params) (w:World) (os:OsState)
abbrev PG:Program:=PySem.Challenge.rw_quartermeters_s01_answers.prog
abbrev BD:List Stmt:=behindTheImports PG
abbrev EV:Env:={ scope:=PG.main.scope,locals:=mainNs,globals:=mainNs,cells:=[],code:=.ref 13,frame:=some 14 }
abbrev CD:Code:=.body BD EV
noncomputable def bd(k:Nat): Stmt:=BD.getD k (.Pass ⟨0,0,0,0⟩)
inductive It where
 |m (k t:Nat)
 |i (k t:Nat) (v:Int)
 |d (k n t:Nat) (os:List Obj)
 |f (k n t:Nat) (vs:List Str)
 |c (k n t:Nat) (vs:List Str)
noncomputable def nmS:Stmt->Str
 | .Assign [.Name x _] _ _=>x
 | .FunctionDef x ..=>x
 | .ClassDef x ..=>x
 |_=> ""
noncomputable def psS:Stmt->Pos
 | .FunctionDef _ _ _ _ _ _ _ _ _ p=>p
 | .ClassDef _ _ _ _ _ _ _ _ _ _ p=>p
 |_=>⟨0,0,0,0⟩
noncomputable def stS:Stmt->List Str
 | .ClassDef _ _ _ _ _ _ _ _ _ x _=>x
 |_=>[]
noncomputable def ky(x:Str)(t:Nat)(v:Value): DictEntry:=⟨PyData.keyHash P x,.str x t,v⟩
noncomputable def ki(i:Int)(t a:Nat): DictEntry:=⟨i,.int i t,.ref a⟩
noncomputable def oT(vs:List Value): Obj:=⟨.type "tuple",none,.seq vs.toArray 0,#[]⟩
noncomputable def oF(c:Value)(vs:List Value): Obj:=⟨c,none,.fields vs.toArray,#[]⟩
noncomputable def oD(es:List DictEntry)(n:Nat): Obj:=⟨.type "dict",none,.dict es.toArray n,#[]⟩
noncomputable def ss(t:Nat): List Str->List Value
 |[]=>[]
 |x::r=>.str x t::ss (t+1) r
noncomputable def ri(n:Nat): Value:=.int n 0
noncomputable def FL:Str:= "/claim/cut.py"
noncomputable def oC(x q:Str)(t l a b n:Nat)(z:Bool)(v1 v2 v3:Value)(u:Nat): Obj:=oF (.type "code") [.str x t,.str q (t+1),.str FL (t+2),ri l,ri a,ri 0,ri 0,ri b,.ref n,.bool z,ri 181,.ref (n+1),.none,v1,v2,v3,ri u,ri l,.str FL (u+1)]
noncomputable def o11:List Obj:=[oT [],oF .none [],oF (.type "code") [.str "<module>" 182,.str "<module>" 183,.str FL 184,ri 1,ri 0,ri 0,ri 0,ri 0,.ref 11,.bool false,ri 181,.ref 12,.none,.none,.none,.none,ri 185,ri 1,.str FL 186],⟨.type "frame",none,.plain,#[some (.ref 13),some (.ref 3),some (.ref 3),none,some (.str "__main__" 164),none,some (.ref 0)]⟩]
noncomputable def oN(p:Str)(c:Value)(g:Addr)(md cv:Value): Stmt->Obj
 | .FunctionDef x a b _ _ _ sc _ _ _=>⟨c,none,.func { name:=x,qualname:=p++x,params:=a,body:=.stmts b,scope:=sc,globals:=g,closure:=[],defaults:=.none,kwdefaults:=.none,pyModule:=md,code:=cv },#[]⟩
 |_=>default
noncomputable def oK(p:Str)(n t:Nat)(vs:List Str): Stmt->Obj
 | .FunctionDef x a _ _ _ _ _ _ _ pos=>match vs with
   |[]=>oC x (p++x) t pos.line a.args.length 3 n true .none .none (.ref (n+2)) (t+3)
   |_::_=>oC x (p++x) t pos.line a.args.length 3 n true (.ref (n+2)) (.ref (n+3)) (.ref (n+4)) (t+3+vs.length)
 |_=>default
noncomputable def fo(p:Str)(md:Value)(s:Stmt)(n t:Nat)(vs:List Str): List Obj:=match vs with
 |[]=>[oT [],oF .none [],oN p .none 0 .none .none s,oK p n t vs s,oN p (.type "function") 3 md (.ref (n+3)) s]
 |_::_=>[oT [],oF .none [],oT (ss (t+3) vs),oT [],oN p .none 0 .none .none s,oK p n t vs s,oN p (.type "function") 3 md (.ref (n+5)) s]
noncomputable def co(md:Value)(s:Stmt)(n t:Nat)(vs:List Str): List Obj:=match s with
 | .ClassDef x _ _ b _ _ _ _ _ sts pos=>
   let i:=b.headD (.Pass ⟨0,0,0,0⟩);let u:=t+18+vs.length;let em:=ky P "__module__" (t+7) md;let el:=ky P "__firstlineno__" (t+11) (.int pos.line (t+10));let ei:=ky P "__init__" (t+17+vs.length) (.ref (n+13));let es:=ky P "__static_attributes__" (u+sts.length) (.ref (n+14));let v:=u+sts.length+1
   [oT [],oF (.type "builtin_function_or_method") [.builtin "type.__prepare__",.type "type"],oD [em,ky P "__qualname__" (t+9) (.str x (t+8)),el,ei,es] 5,oT [],oF .none [ri (psS i).line,ri 4,.ref (n+12)],
    oC x x (t+2) pos.line 0 0 (n+3) false .none .none .none (t+5),⟨.type "frame",none,.plain,#[some (.ref (n+5)),some (.ref 3),some (.ref (n+2)),none,some md,none,some (.ref 0)]⟩] ++
   fo (x ++ ".") md i (n+7) (t+12) vs ++
   [oT (ss u sts),oD [em,el,ei,es,ky P "__dict__" (v+1) (.ref (n+17)),ky P "__weakref__" (v+3) (.ref (n+18)),ky P "__doc__" (v+4) .none] 4,
    ⟨.type "type",none,.cls { name:=x,bases:=[.type "object"],mro:=[.ref (n+16),.type "object"],ns:=n+15,qualname:=x },#[none,none,some (.str x t),some (.str x (t+8)),some (.builtin "object.__new__"),some (.bool true)]⟩,
    oF (.type "getset_descriptor") [.str "__dict__" v,.ref (n+16),.builtin "function.__dict__",.builtin "function.__dict__#set"],
    oF (.type "getset_descriptor") [.str "__weakref__" (v+2),.ref (n+16),.builtin "ExceptionGroup.__weakref__",.none],
    oF (.type "super") [.ref (n+16),.ref (n+16),.ref (n+16)],oF (.type "builtin_function_or_method") [.builtin "object.__init_subclass__",.ref (n+16)]]
 |_=>[]
noncomputable def mo(md:Value): It->Value
 | .m k t=>match bd k with
   | .Assign _ (.Constant (.str x) _ _) _=>.str x t
   |_=>md
 |_=>md
noncomputable def obs(P:Params)(md:Value): List It->List Obj
 |[]=>[]
 | .d _ _ _ os::r=>os++obs P md r
 | .f k n t vs::r=>fo "" md (bd k) n t vs++obs P md r
 | .c k n t vs::r=>co P md (bd k) n t vs++obs P md r
 |i::r=>obs P (mo md i) r
noncomputable def ents(P:Params): List It->List DictEntry
 |[]=>[]
 | .m _ _::r=>ents P r
 | .i k t v::r=>ky P (nmS (bd k)) (t+1) (.int v t)::ents P r
 | .d k n t _::r=>ky P (nmS (bd k)) t (.ref n)::ents P r
 | .f k n t []::r=>ky P (nmS (bd k)) (t+5) (.ref (n+4))::ents P r
 | .f k n t (_::l)::r=>ky P (nmS (bd k)) (t+6+l.length) (.ref (n+6))::ents P r
 | .c k n t vs::r=>ky P (nmS (bd k)) (t+25+vs.length+(stS (bd k)).length) (.ref (n+16))::ents P r
noncomputable def kids:List It->List Value
 |[]=>[]
 | .f k n _ []::r=>ri (psS (bd k)).line::ri 0 :: .ref (n+3)::kids r
 | .f k n _ (_::_)::r=>ri (psS (bd k)).line::ri 0 :: .ref (n+5)::kids r
 | .c k n _ _::r=>ri (psS (bd k)).line::ri 0 :: .ref (n+5)::kids r
 |_::r=>kids r
noncomputable def qmh:BT->Nat->List Obj->BT
 |t,_,[]=>t
 |t,n,o::r=>qmh (t.ins n o) (n+1) r
noncomputable def bE:List DictEntry:=match (boot_o_3 P).data with
 | .dict es _=>es.toList
 |_=>[]
noncomputable def gd(md:Value)(es:List DictEntry): Obj:=match bE P with
 |⟨h,k,_⟩::r=>oD (⟨h,k,md⟩::r++es) (9+es.length)
 |[]=>oD [] 0
noncomputable def m0:Value:=.none
noncomputable def x3:List Obj:=[oD [ky P "weights" 193 (.ref 16),ky P "kind" 197 (.ref 17),ky P "zone" 201 (.ref 18),ky P "second" 205 (.ref 19),ky P "boundary" 209 (.ref 20),ky P "digits" 213 (.ref 21),ky P "factor" 217 (.ref 22),ky P "start" 221 (.ref 23),ky P "end" 225 (.ref 24),ky P "profile" 229 (.ref 25),ky P "rate" 233 (.ref 26),ky P "meter" 237 (.ref 27),ky P "version" 241 (.ref 28),ky P "value" 245 (.ref 29),ky P "quarter" 250 (.ref 30),ky P "hand" 254 (.ref 31),ky P "from" 258 (.ref 32),ky P "to" 262 (.ref 34),ky P "most" 265 (.ref 35)] 19,oT [.int 0 194,.int 1000 195],oT [.int 0 198,.int 2 199],oT [.int 0 202,.int 7 203],oT [.int 0 206,.int 7 207],oT [.int 0 210,.int 10000 211],oT [.int 1 214,.int 9 215],oT [.int 1 218,.int 10000 219],oT [.int 0 222,.int 999999999 223],oT [.int 0 226,.int 999999999 227],oT [.int 0 230,.int 8 231],oT [.int 0 234,.int 1000000 235],oT [.int 1 238,.int 32 239],oT [.int 1 242,.int 1000000 243],oT [.int (-1) 247,.int 999999999 248],oT [.int 0 251,.int 9999 252],oT [.int 0 255,.int 32 256],oT [.int 0 259,.int 10000 260],oD [ky P "to" 262 (.ref 34),ky P "most" 265 (.ref 35)] 2,oT [.int 0 263,.int 10000 264],oT [.int 0 266,.int 1000000000000 267]]
noncomputable def x4:List Obj:=[oD [ki 1 271 37,ki 2 282 38,ki 3 288 39,ki 4 296 40,ki 5 301 41,ki 6 305 42,ki 7 310 43,ki 8 313 44,ki 9 317 45,ki 10 321 46,ki 11 325 47,ki 12 329 48,ki 13 334 49,ki 14 338 50,ki 15 342 51,ki 16 348 52,ki 17 353 53,ki 18 357 55,ki 19 359 56,ki 20 362 57,ki 21 364 58,ki 22 367 59] 22,oT (ss 272 ["kind","zone","second","boundary","digits","factor","start","profile","rate"]),oT (ss 283 ["meter","boundary","version","value"]),oT (ss 289 ["meter","boundary","end","start","digits","factor"]),oT (ss 297 ["meter","boundary","end"]),oT (ss 302 ["meter","rate"]),oT (ss 306 ["meter","quarter","hand"]),oT (ss 311 ["boundary"]),oT (ss 314 ["from","to"]),oT (ss 318 ["meter","boundary"]),oT (ss 322 ["meter","boundary"]),oT (ss 326 ["meter","quarter"]),oT (ss 330 ["meter","from","to"]),oT (ss 335 ["meter","boundary"]),oT (ss 339 ["meter","quarter"]),oT (ss 343 ["hand","zone","from","to"]),oT (ss 349 ["zone","from","to"]),oT (ss 354 ["from","to"]),oD [ki 18 357 55,ki 19 359 56,ki 20 362 57,ki 21 364 58,ki 22 367 59] 5,oT (ss 358 ["meter"]),oT (ss 360 ["meter","most"]),oT (ss 363 ["boundary"]),oT (ss 365 ["from","to"]),oT []]
noncomputable def x95:List Obj:=[oD [ki 0 1076 403,ki 1 1077 431,ki 2 1078 445,ki 3 1079 473,ki 4 1080 480,ki 5 1081 487,ki 6 1082 501,ki 7 1083 508,ki 8 1084 513] 9]
noncomputable def x117:List Obj:=[oD [ki 9 1263 554,ki 10 1264 561,ki 11 1265 568,ki 12 1266 575,ki 13 1267 582,ki 14 1268 589,ki 15 1269 594,ki 16 1270 601,ki 17 1271 608,ki 18 1272 615,ki 19 1273 620,ki 20 1274 627,ki 21 1275 634,ki 22 1276 641] 14]
noncomputable def IT:List It:=[.m 0 187,.i 1 189 0,.i 2 191 96,.d 3 15 270 (x3 P),.d 4 36 373 x4,.f 5 60 374 ["calls","at"],.f 6 67 382 ["call"],.f 7 74 389 ["name","number","limits"],.f 8 81 398 [],.f 9 86 404 [],.f 10 91 410 ["given"],.m 11 417,.i 12 420 (-1),.i 13 422 0,.i 14 424 1,.i 15 426 2,.c 16 98 428 ["self","weights"],.c 17 119 457 ["self","boundary","value","digits","factor"],.c 18 140 494 ["self","kind","zone","second","profile","rate","dial"],.c 19 161 535 ["self"],.f 20 182 568 ["numbers","sums","number"],.f 21 189 577 ["digits","power","digit"],.f 22 196 586 ["profile","boundary","count"],.f 23 203 595 ["profile","start","end"],.f 24 210 604 ["book","number"],.f 25 217 612 ["book","given"],.f 26 224 620 ["meter"],.f 27 231 627 ["meter"],.f 28 238 634 ["meter","boundary","dial"],.f 29 245 643 ["meter","boundary","versions","latest"],.f 30 252 653 [],.f 31 257 659 [],.f 32 262 665 ["meter","boundary","knots"],.f 33 269 674 [],.m 34 680,.i 35 682 0,.i 36 684 1,.i 37 686 2,.i 38 688 3,.c 39 274 690 ["self","knots","amounts","profile","tail","removed"],.f 40 295 728 [],.f 41 300 734 ["meter"],.f 42 307 741 ["meter","start","end","dial","counted"],.f 43 314 752 [],.f 44 319 758 ["meter","dial","boundary"],.f 45 326 767 [],.f 46 331 773 ["course","place","boundary","start","end","amount","weight"],.f 47 338 786 ["course","start","end"],.f 48 345 795 ["course"],.f 49 352 802 ["course","quarter"],.m 50 810,.i 51 812 33,.f 52 359 814 ["meter","start","end","parts","hand","begun","quarter"],.f 53 366 827 ["meter","quarter"],.f 54 373 835 [],.f 55 378 841 ["meter"],.f 56 385 848 ["book","start","end","nets","meter","sign","course","begun","ended","hand"],.f 57 392 864 [],.i 58 870 0,.i 59 873 (-1),.i 60 876 (-2),.i 61 879 (-3),.i 62 882 (-4),.i 63 885 (-5),.i 64 888 (-6),.i 65 891 (-7),.i 66 894 (-8),.i 67 897 (-9),.i 68 900 (-10),.i 69 903 (-11),.i 70 906 (-12),.m 71 908,.i 72 910 8,.i 73 912 32,.i 74 914 256,.i 75 916 8,.i 76 918 64,.i 77 920 16,.f 78 397 922 ["book","given"],.f 79 404 930 ["given"],.f 80 411 937 ["book","given"],.f 81 418 945 ["given"],.f 82 425 952 ["book","given","refusal","meter"],.f 83 432 962 ["book","meter","given","boundary","dial"],.f 84 439 973 ["book","given","meter","refusal","versions"],.f 85 446 984 ["book","meter","given","boundary"],.f 86 453 994 ["meter","given","dial"],.f 87 460 1003 ["book","meter","given","refusal"],.f 88 467 1013 ["book","given","meter","refusal"],.f 89 474 1023 ["book","given","meter","refusal"],.f 90 481 1033 ["book","given","meter"],.f 91 488 1042 ["book","meter","given"],.f 92 495 1051 ["book","given","meter","refusal"],.f 93 502 1061 ["book","given","boundary"],.f 94 509 1070 [],.d 95 514 1094 x95,.f 96 515 1095 ["book","number","given"],.m 97 1104,.f 98 522 1106 [],.f 99 527 1112 ["meter","zone"],.f 100 534 1120 ["book","zone","start","end","rest","meter"],.m 101 1132,.f 102 541 1134 ["book","given"],.f 103 548 1142 ["book","given","reading"],.f 104 555 1151 ["book","given","versions","answer","version"],.f 105 562 1162 ["book","given","quarter","course"],.f 106 569 1172 ["book","given"],.f 107 576 1180 ["book","given"],.f 108 583 1188 ["book","given"],.f 109 590 1196 [],.f 110 595 1202 ["book","given"],.f 111 602 1210 ["book","given"],.f 112 609 1218 ["book","given","gaps","answer","start","end","amount"],.f 113 616 1231 [],.f 114 621 1237 ["book","given","unread"],.f 115 628 1246 ["book","given","nets"],.f 116 635 1255 ["book","given"],.d 117 642 1291 x117,.f 118 643 1292 ["book","number","given"],.m 119 1301,.i 120 1303 9,.i 121 1305 21,.f 122 650 1307 ["book","call","given"],.f 123 657 1316 ["calls","book","told","at","end","answer"]]
noncomputable def T0:BT:=qmh .nil 0 ((boot_heap P).objs.toList++o11)
noncomputable def gE(k:Nat): Obj:=gd P (((IT P).take k).foldl mo m0) (ents P ((IT P).take k))
noncomputable def gK(k:Nat): Obj:=oF .none (kids ((IT P).take k))
noncomputable def T(k:Nat): BT:=((qmh (T0 P) 15 (obs P m0 ((IT P).take k))).set 3 fun _=>gE P k).set 12 fun _=>gK P k
noncomputable def SS(k n t:Nat)(w:World)(os:OsState): SharedT:=⟨T w.params k,n,(boot_heap w.params).life,Array.mk [],boot_drawn,t,os⟩
noncomputable def S0(w:World)(os:OsState): SharedT:=⟨T0 w.params,15,(boot_heap w.params).life,Array.mk [],boot_drawn,187,os⟩
abbrev ln(k m:Nat): List Stmt:=(BD.drop k).take m
noncomputable def LL:List Obj:=boot_o_0 P::boot_o_1 P::boot_o_2 P::gE P 124::boot_o_4 P::boot_o_5 P::boot_o_6 P::boot_o_7 P::boot_o_8 P::boot_o_9 P::boot_o_10 P::o11.headD default::gK P 124::(o11.drop 2++obs P m0 (IT P))
noncomputable def H1:Heap:=⟨(LL P).toArray,(boot_heap P).life⟩
noncomputable def QB:List Stmt:=ln 1 10++(ln 12 22++(ln 35 15++(ln 51 20++(ln 72 25++(ln 98 3++(ln 102 17++ln 120 4))))))
noncomputable def QG:Program:={ PG with main:={ PG.main with body:=QB } }
abbrev LO:List Str:=["LIMITS","ARGUMENTS","CHANGES","QUESTIONS"]
noncomputable abbrev SF(w:World)(os:OsState): Shared:=⟨H1 w.params,Array.mk [],boot_drawn,1328,os⟩
abbrev Pc(w:World)(os:OsState)(n k m:Nat)(s s':World->OsState->SharedT)(p p':Pos): Prop:=segRunT treeTable PG w 11 (some (.ref 6)) 1 n (s w os) (piecesOf (ln k m) EV CD p [topFrame ⟨0,0,0,0⟩])=some (.next,s' w os,CD,p')
theorem p0:∀ (w:World) (os:OsState),Pc w os 817 0 5 (S0) (SS 5 60 374) ⟨0,0,0,0⟩ ⟨5,0,5,9⟩:=byRow2 "special-get-raises" (fun w os=>by kernel_rfl) (fun w os=>by kernel_rfl)
theorem p1:Pc w os 2120 5 45 (SS 5 60 374) (SS 50 359 810) ⟨5,0,5,9⟩ ⟨168,0,175,17⟩:=by kernel_rfl
theorem p2:Pc w os 969 50 45 (SS 50 359 810) (SS 95 514 1076) ⟨168,0,175,17⟩ ⟨359,0,366,93⟩:=by kernel_rfl
theorem p3:∀ (w:World) (os:OsState),Pc w os 137 95 1 (SS 95 514 1076) (SS 96 515 1095) ⟨359,0,366,93⟩ ⟨367,0,367,7⟩:=byRow2 "special-get-raises" (fun w os=>by kernel_rfl) (fun w os=>by kernel_rfl)
theorem p4:Pc w os 595 96 21 (SS 96 515 1095) (SS 117 642 1263) ⟨367,0,367,7⟩ ⟨437,0,438,130⟩:=by kernel_rfl
theorem p5:∀ (w:World) (os:OsState),Pc w os 207 117 1 (SS 117 642 1263) (SS 118 643 1292) ⟨437,0,438,130⟩ ⟨439,0,439,9⟩:=byRow2 "special-get-raises" (fun w os=>by kernel_rfl) (fun w os=>by kernel_rfl)
theorem p6:Pc w os 124 118 6 (SS 118 643 1292) (SS 124 664 1328) ⟨439,0,439,9⟩ ⟨456,0,466,15⟩:=by kernel_rfl
theorem hb:BD=ln 0 5++(ln 5 45++(ln 50 45++(ln 95 1++(ln 96 21++(ln 117 1++(ln 118 6++[])))))):=by kernel_rfl
abbrev B1:List Frame:=[topFrame ⟨0,0,0,0⟩]
noncomputable abbrev SB(w:World)(os:OsState): Shared:=⟨boot_heap w.params,Array.mk [],boot_drawn,boot_toks,os⟩
abbrev TR(w:World)(n:Nat)(s:Shared)(t:Thread): Option Shared:=topRun treeTable PG w 11 (some (.ref 6)) n s t
theorem pre:topGo treeTable PG w 11 (some (.ref 6)) 12 (SB w os) (topStub PG)=some ((S0 w os).abs,⟨denote treeTable CD,CD,⟨0,0,0,0⟩,B1⟩):=by kernel_rfl
theorem blk:segRun treeTable PG w 11 (some (.ref 6)) 1 1 (S0 w os).abs (blockOf BD EV CD ⟨0,0,0,0⟩ B1)=some (.next,(S0 w os).abs,CD,⟨0,0,0,0⟩):=by kernel_rfl
theorem fin:TR w 2 (SS 124 664 1328 w os).abs ⟨doneF .next,CD,⟨456,0,466,15⟩,B1⟩=some (SS 124 664 1328 w os).abs:=by kernel_rfl
theorem lE:(SS 124 664 1328 w os).abs=SF w os:=by kernel_rfl
theorem run:TR w 4984 (SB w os) (topStub PG)=some (SF w os):=by
 rw[<- lE];refine go_top (n:=12) (N:=4972) (pre w os) (piece_block (n:=1) (N:=4971) (blk w os) ?_);exact(Yk (fun l=>TR w 4971 (S0 w os).abs (restOf l EV CD ⟨0,0,0,0⟩ B1)) hb).trans (piece_app (n:=817) (N:=4154) (segRun_of (p0 w os)) (piece_app (n:=2120) (N:=2034) (segRun_of (p1 w os)) (piece_app (n:=969) (N:=1065) (segRun_of (p2 w os)) (piece_app (n:=137) (N:=928) (segRun_of (p3 w os)) (piece_app (n:=595) (N:=333) (segRun_of (p4 w os)) (piece_app (n:=207) (N:=126) (segRun_of (p5 w os)) (piece_app (n:=124) (N:=2) (segRun_of (p6 w os)) (fin w os))))))))
theorem lA:(staticsOk (importedModules PG.main.body) (boot_heap w.params) (H1 w.params)&&namesBound PG (H1 w.params)&&gensDone (SF w os)&&laidKept (boot_heap w.params) (H1 w.params))=true:=by kernel_rfl
theorem b1:seen ((recsOf QG).map (·.name)) (ownsOf QG) [] { SF w os with gens:=#[] }=expectedOf QG:=by kernel_rfl
theorem b2:(H1 w.params).bltView=bltViewBooted:=by kernel_rfl
theorem c1:(H1 w.params).keysOk (looseW QG LO) ((recsOf QG).map (·.name)) ((litsOf QG).map (·.1)) ((clssOf QG (looseW QG LO)).map (·.name))=true:=by kernel_rfl
theorem c2:(H1 w.params).accountedOkI (importedModules PG.main.body)=true:=by kernel_rfl
theorem c3:(H1 w.params).isNs mainGlobals=true:=by kernel_rfl
theorem c4:(H1 w.params).isNs builtinsNs=true:=by kernel_rfl
theorem c5:tablesOk QG (H1 w.params)=true:=by kernel_rfl
theorem c6:(xlAt QG [] (SF w os)&&recOk [] (SF w os))=true:=by kernel_rfl
theorem b4:tabsOk QG (SF w os)=true:=by kernel_rfl
theorem b5:pinSeenD QG (drecsOf QG) (SF w os)=pinGoodD (drecsOf QG):=by kernel_rfl
theorem b6:plainSeenE QG (looseW QG LO) (SF w os)=plainGoodE QG (looseW QG LO):=by kernel_rfl
theorem b7:plainSeenD QG LO (SF w os)=plainGoodD QG LO:=by kernel_rfl
theorem b8:wideSeen QG (SF w os)=wideGood QG:=by kernel_rfl
theorem b9:clsSeenW QG LO (SF w os)=clsGoodW QG LO:=by kernel_rfl
noncomputable def mK(k:Nat): Value:=((IT P).take k).foldl mo m0
noncomputable def iK(k:Nat): It:=(IT P).getD k (.m 0 0)
noncomputable def fK(k:Nat): Obj:=match iK P k with
 | .f k n _ []=>oN "" (.type "function") 3 (mK P k) (.ref (n+3)) (bd k)
 | .f k n _ (_::_)=>oN "" (.type "function") 3 (mK P k) (.ref (n+5)) (bd k)
 |_=>default
noncomputable def cK(k:Nat): Obj:=match iK P k with
 | .f k n t vs=>oK "" n t vs (bd k)
 |_=>default
noncomputable def xK(k i:Nat): Obj:=match iK P k with
 | .c k n t vs=>(co P (mK P k) (bd k) n t vs).getD i default
 |_=>default
noncomputable def dK(k i:Nat): Obj:=match iK P k with
 | .d _ _ _ os=>os.getD i default
 |_=>default
noncomputable def K0:Frag:=(nat_lit 3,gE P 124)::(nat_lit 15,dK P 3 0)::(nat_lit 16,dK P 3 1)::(nat_lit 17,dK P 3 2)::(nat_lit 18,dK P 3 3)::(nat_lit 19,dK P 3 4)::(nat_lit 20,dK P 3 5)::(nat_lit 21,dK P 3 6)::(nat_lit 22,dK P 3 7)::(nat_lit 23,dK P 3 8)::(nat_lit 24,dK P 3 9)::(nat_lit 25,dK P 3 10)::(nat_lit 26,dK P 3 11)::(nat_lit 27,dK P 3 12)::(nat_lit 28,dK P 3 13)::(nat_lit 29,dK P 3 14)::(nat_lit 30,dK P 3 15)::(nat_lit 31,dK P 3 16)::(nat_lit 32,dK P 3 17)::(nat_lit 34,dK P 3 19)::(nat_lit 35,dK P 3 20)::(nat_lit 36,dK P 4 0)::(nat_lit 37,dK P 4 1)::(nat_lit 38,dK P 4 2)::(nat_lit 39,dK P 4 3)::(nat_lit 40,dK P 4 4)::(nat_lit 41,dK P 4 5)::(nat_lit 42,dK P 4 6)::(nat_lit 43,dK P 4 7)::(nat_lit 44,dK P 4 8)::(nat_lit 45,dK P 4 9)::(nat_lit 46,dK P 4 10)::(nat_lit 47,dK P 4 11)::(nat_lit 48,dK P 4 12)::(nat_lit 49,dK P 4 13)::(nat_lit 50,dK P 4 14)::(nat_lit 51,dK P 4 15)::(nat_lit 52,dK P 4 16)::(nat_lit 53,dK P 4 17)::(nat_lit 55,dK P 4 19)::(nat_lit 56,dK P 4 20)::(nat_lit 57,dK P 4 21)::(nat_lit 58,dK P 4 22)::(nat_lit 59,dK P 4 23)::(nat_lit 65,cK P 5)::(nat_lit 66,fK P 5)::(nat_lit 72,cK P 6)::(nat_lit 73,fK P 6)::(nat_lit 79,cK P 7)::(nat_lit 80,fK P 7)::(nat_lit 84,cK P 8)::(nat_lit 85,fK P 8)::(nat_lit 89,cK P 9)::(nat_lit 90,fK P 9)::(nat_lit 96,cK P 10)::(nat_lit 97,fK P 10)::(nat_lit 110,xK P 16 12)::(nat_lit 111,xK P 16 13)::(nat_lit 113,xK P 16 15)::(nat_lit 114,xK P 16 16)::(nat_lit 131,xK P 17 12)::(nat_lit 132,xK P 17 13)::(nat_lit 134,xK P 17 15)::(nat_lit 135,xK P 17 16)::(nat_lit 152,xK P 18 12)::(nat_lit 153,xK P 18 13)::(nat_lit 155,xK P 18 15)::(nat_lit 156,xK P 18 16)::(nat_lit 173,xK P 19 12)::(nat_lit 174,xK P 19 13)::(nat_lit 176,xK P 19 15)::(nat_lit 177,xK P 19 16)::(nat_lit 187,cK P 20)::(nat_lit 188,fK P 20)::(nat_lit 194,cK P 21)::(nat_lit 195,fK P 21)::(nat_lit 201,cK P 22)::(nat_lit 202,fK P 22)::(nat_lit 208,cK P 23)::(nat_lit 209,fK P 23)::(nat_lit 215,cK P 24)::(nat_lit 216,fK P 24)::(nat_lit 222,cK P 25)::(nat_lit 223,fK P 25)::(nat_lit 229,cK P 26)::(nat_lit 230,fK P 26)::(nat_lit 236,cK P 27)::(nat_lit 237,fK P 27)::(nat_lit 243,cK P 28)::(nat_lit 244,fK P 28)::(nat_lit 250,cK P 29)::(nat_lit 251,fK P 29)::(nat_lit 255,cK P 30)::(nat_lit 256,fK P 30)::(nat_lit 260,cK P 31)::(nat_lit 261,fK P 31)::(nat_lit 267,cK P 32)::(nat_lit 268,fK P 32)::(nat_lit 272,cK P 33)::(nat_lit 273,fK P 33)::(nat_lit 286,xK P 39 12)::(nat_lit 287,xK P 39 13)::(nat_lit 289,xK P 39 15)::(nat_lit 290,xK P 39 16)::(nat_lit 298,cK P 40)::(nat_lit 299,fK P 40)::(nat_lit 305,cK P 41)::(nat_lit 306,fK P 41)::(nat_lit 312,cK P 42)::(nat_lit 313,fK P 42)::(nat_lit 317,cK P 43)::(nat_lit 318,fK P 43)::(nat_lit 324,cK P 44)::(nat_lit 325,fK P 44)::(nat_lit 329,cK P 45)::(nat_lit 330,fK P 45)::(nat_lit 336,cK P 46)::(nat_lit 337,fK P 46)::(nat_lit 343,cK P 47)::(nat_lit 344,fK P 47)::(nat_lit 350,cK P 48)::(nat_lit 351,fK P 48)::(nat_lit 357,cK P 49)::(nat_lit 358,fK P 49)::(nat_lit 364,cK P 52)::(nat_lit 365,fK P 52)::(nat_lit 371,cK P 53)::(nat_lit 372,fK P 53)::(nat_lit 376,cK P 54)::(nat_lit 377,fK P 54)::(nat_lit 383,cK P 55)::(nat_lit 384,fK P 55)::(nat_lit 390,cK P 56)::(nat_lit 391,fK P 56)::(nat_lit 395,cK P 57)::(nat_lit 396,fK P 57)::(nat_lit 402,cK P 78)::(nat_lit 403,fK P 78)::(nat_lit 409,cK P 79)::(nat_lit 410,fK P 79)::(nat_lit 416,cK P 80)::(nat_lit 417,fK P 80)::(nat_lit 423,cK P 81)::(nat_lit 424,fK P 81)::(nat_lit 430,cK P 82)::(nat_lit 431,fK P 82)::(nat_lit 437,cK P 83)::(nat_lit 438,fK P 83)::(nat_lit 444,cK P 84)::(nat_lit 445,fK P 84)::(nat_lit 451,cK P 85)::(nat_lit 452,fK P 85)::(nat_lit 458,cK P 86)::(nat_lit 459,fK P 86)::(nat_lit 465,cK P 87)::(nat_lit 466,fK P 87)::(nat_lit 472,cK P 88)::(nat_lit 473,fK P 88)::(nat_lit 479,cK P 89)::(nat_lit 480,fK P 89)::(nat_lit 486,cK P 90)::(nat_lit 487,fK P 90)::(nat_lit 493,cK P 91)::(nat_lit 494,fK P 91)::(nat_lit 500,cK P 92)::(nat_lit 501,fK P 92)::(nat_lit 507,cK P 93)::(nat_lit 508,fK P 93)::(nat_lit 512,cK P 94)::(nat_lit 513,fK P 94)::(nat_lit 514,dK P 95 0)::(nat_lit 520,cK P 96)::(nat_lit 521,fK P 96)::(nat_lit 525,cK P 98)::(nat_lit 526,fK P 98)::(nat_lit 532,cK P 99)::(nat_lit 533,fK P 99)::(nat_lit 539,cK P 100)::(nat_lit 540,fK P 100)::(nat_lit 546,cK P 102)::(nat_lit 547,fK P 102)::(nat_lit 553,cK P 103)::(nat_lit 554,fK P 103)::(nat_lit 560,cK P 104)::(nat_lit 561,fK P 104)::(nat_lit 567,cK P 105)::(nat_lit 568,fK P 105)::(nat_lit 574,cK P 106)::(nat_lit 575,fK P 106)::(nat_lit 581,cK P 107)::(nat_lit 582,fK P 107)::(nat_lit 588,cK P 108)::(nat_lit 589,fK P 108)::(nat_lit 593,cK P 109)::(nat_lit 594,fK P 109)::(nat_lit 600,cK P 110)::(nat_lit 601,fK P 110)::(nat_lit 607,cK P 111)::(nat_lit 608,fK P 111)::(nat_lit 614,cK P 112)::(nat_lit 615,fK P 112)::(nat_lit 619,cK P 113)::(nat_lit 620,fK P 113)::(nat_lit 626,cK P 114)::(nat_lit 627,fK P 114)::(nat_lit 633,cK P 115)::(nat_lit 634,fK P 115)::(nat_lit 640,cK P 116)::(nat_lit 641,fK P 116)::(nat_lit 642,dK P 117 0)::(nat_lit 648,cK P 118)::(nat_lit 649,fK P 118)::(nat_lit 655,cK P 122)::(nat_lit 656,fK P 122)::(nat_lit 662,cK P 123)::(nat_lit 663,fK P 123)::[]
theorem kin:(K0 P).In (H1 P):=Frag.in_of (as:=(K0 P).map (·.1)) rfl (by kernel_rfl)
theorem pr{α β:Type}{a a':α}{b b':β}(x:a=a')(y:b=b'): (a,b)=(a',b'):=by rw[x,y]
theorem an{a b c d e f g:Bool}(h1:a=true)(h2:b=true)(h3:c=true)(h4:d=true)(h5:e=true)(h6:f=true)(h7:g=true): (a&&b&&c&&d&&e&&f&&g)=true:=by rw[h1,h2,h3,h4,h5,h6,h7];rfl
theorem sz:((boot_heap w.params).isNs mainGlobals&&(Array.mk []:Array GenState).size==0,(boot_heap w.params).objs.size,(boot_heap w.params).nsMap mainGlobals "__annotations__")=(true,11,some (.ref 6)):=by kernel_rfl
theorem op:∀ w:World,(fencedOpening treeTable PG w 10050).map (fun s=>(s.heap,s.gens,s.drawn,s.toks))=some (boot_heap w.params,Array.mk [],boot_drawn,boot_toks):=boot_open (by kernel_rfl) (by kernel_rfl) (fun _=>by kernel_rfl)
theorem left:LeftO PG QG LO (fun s=>xlAt QG [] s&&recOk [] s) Shared.heap (fun w=>H1 w.params) 10050:=
 LeftO.of_pieces (H₀:=boot_heap) (H₁:=H1) (m₀:=11) (M:=4984) op sz run (by kernel_rfl) fun w=>funext fun os=>
  pr (lA w os) (pr (pr (b1 w os) (pr (b2 w) (pr (an (c1 w) (c2 w) (c3 w) (c4 w) (c5 w) (c6 w os) rfl) (pr (b4 w os) (pr (b5 w os) (pr (b6 w os) (pr (b7 w os) (pr (b8 w os) (b9 w os))))))))) rfl)
noncomputable def DD:DefRec:=match bd 123 with
 | .FunctionDef x a b _ _ _ sc _ _ p=>⟨x,a,b,sc,p⟩
 |_=>⟨"",⟨[],[],none,[],[],none,[]⟩,[],PG.main.scope,⟨0,0,0,0⟩⟩
theorem head(h:WalkOS QG LO (XL QG []) (InK K0) PySem.Challenge.rw_quartermeters_s01_answers DD [] fun f vs=>PySem.call f vs): PySem.Challenge.rw_quartermeters_s01_answers.Holds:=
 holds_os (r:=PySem.Challenge.rw_quartermeters_s01_answers) (q:=QG) (loose:=LO) (Xt:=fun s=>xlAt QG [] s&&recOk [] s) (XP:=XL QG []) (N:=10050) (YP:=InK K0) left (fun w s e=>e ▸ kin w.params) InK.keeps (fun s e=>xl_of s (W6.mp e).1) XL.keeps (by kernel_rfl) (by kernel_rfl) (by kernel_rfl) (fun s e=>recFacts_of (W6.mp e).2) os_shapes (by decide +kernel) (by decide +kernel) ⟨rfl,rfl,rfl,rfl,rfl,by decide +kernel⟩ ⟨[.list [.int 22]],by decide +kernel,by decide +kernel⟩ h
theorem dn:DD.name = "answers":=by kernel_rfl
theorem dd:DD.params.defaults=[]:=by kernel_rfl
end HH
end
namespace QM
open Vbemai
abbrev Inc(l:List Nat): Prop:=l.Pairwise (· < ·)
theorem qql:∀ {a b:List Nat},Inc a->Inc b->(∀ x,x∈a↔x∈b)->a=b
 |[],[],_,_,_=>rfl
 |[],y::b,_,_,h=>by have:=(h y).mpr Jh;cases this
 |x::a,[],_,_,h=>by have:=(h x).mp Jh;cases this
 | x::a,y::b,ha,hb,h=>by
   rw[Inc,Ju] at ha hb;have e:x=y:=by
    have h1:=(h x).mp Jh;have h2:=(h y).mpr Jh;rcases Jf.mp h1 with q|q
    ·exact q
    ·rcases Jf.mp h2 with p|p
     ·exact p.symm
     ·have a1:=ha.1 y p;have a2:=hb.1 x q;omega
   subst e;congr 1;refine qql ha.2 hb.2 fun z=>⟨fun q=>?_,fun q=>?_⟩
   ·rcases Jf.mp ((h z).mp (Jm _ q)) with p|p
    ·subst p;exact absurd (ha.1 z q) (Yd _)
    ·exact p
   ·rcases Jf.mp ((h z).mpr (Jm _ q)) with p|p
    ·subst p;exact absurd (hb.1 z q) (Yd _)
    ·exact p
theorem qqn:∀ {a:List Nat},a.Pairwise (·<=·)->a.Nodup->Inc a
 |[],_,_=>List.Pairwise.nil
 | x::a,h,n=>by
   rw[Ju] at h;rw[Xf] at n;refine Ju.mpr ⟨fun y hy=>?_,qqn h.2 n.2⟩;have:=h.1 y hy;have ne:x≠y:=fun e=>n.1 (e ▸ hy);omega
theorem Inc.nodup{a:List Nat}(h:Inc a): a.Nodup:=h.imp fun h=>Xl h
def RLt(x y:Reading): Prop:=x.at_<y.at_\/(x.at_=y.at_/\x.version<y.version)
def qh1:Option Reading->Option Int
 |none=>none
 |some r=>if r.value<0 then none else some r.value
def atT(t:Nat)(l:List Reading): List Reading:=l.filter fun r=>r.at_==t
theorem qov{t:Nat}: ∀ {l:List Reading},(∀ r∈l,r.at_≠t)->atT t l=[]
 |[],_=>rfl
 | r::l,h=>by
   unfold atT;rw[Xg,Jc (by simpa using h r Jh)];exact qov fun q hq=>h q (Jm _ hq)
theorem qow{t:Nat}{r:Reading}{l:List Reading}(e:r.at_=t): atT t (r::l)=r::atT t l:=by
 unfold atT;rw[Xg,Je (by simpa using e)]
theorem qou{t:Nat}{r:Reading}{l:List Reading}(e:¬ r.at_=t): atT t (r::l)=atT t l:=by
 unfold atT;rw[Xg,Jc (by simpa using e)]
theorem getLast?_cons_ne{α:Type}{a:α}: ∀ {l:List α},l≠[]->(a::l).getLast?=l.getLast?
 |[],h=>absurd rfl h
 |b::l,_=>by rw[Xu]
theorem later{r q x:Reading}{l:List Reading}(h:(r::q::l).Pairwise RLt)(ne:r.at_≠q.at_)(hx:x∈q::l): r.at_<x.at_:=by
 rw[Ju,Ju] at h;have h1:=h.1 q Jh;have h2:q.at_<=x.at_:=by
  rcases Jf.mp hx with e|hx
  ·rw[e];exact Jp _
  ·rcases h.2.1 x hx with z|z
   ·omega
   ·omega
 rcases h1 with z|z
 ·omega
 ·omega
theorem qvh:∀ {l:List Reading} (t:Nat),l.Pairwise RLt->(standing l).lookup t=qh1 (atT t l).getLast?
 |[],t,_=>rfl
 | [r],t,_=>by
   by_cases e:r.at_=t
   ·rw[qow e];show _=qh1 (some r);unfold qh1 standing;by_cases hv:r.value<0
    ·simp[hv]
    ·simp[hv,e]
   ·rw[qou e];show _=none;unfold standing;by_cases hv:r.value<0
    ·simp[hv]
    ·simp only[hv,X9];rw[X0];have:(t==r.at_)=false:=by simpa using fun z:t=r.at_=>e z.symm
     simp[this]
 | r::q::l,t,h=>by
   have h':=h;rw[Ju] at h';have ih:=qvh t h'.2;by_cases e:r.at_=q.at_
   ·have e1:standing (r::q::l)=standing (q::l):=by rw[standing];simp[e]
    rw[e1,ih];by_cases et:r.at_=t
    ·have:atT t (r::q::l)=r::atT t (q::l):=by unfold atT;rw[Xg,Je (by simpa using et)]
     rw[this,getLast?_cons_ne];unfold atT;rw[Xg,Je (by simpa[e] using et)];exact List.cons_ne_nil _ _
    ·have:atT t (r::q::l)=atT t (q::l):=by unfold atT;rw[Xg,Jc (by simpa using et)]
     rw[this]
   ·by_cases et:r.at_=t
    ·have e0:atT t (q::l)=[]:=qov fun x hx=>by have:=later h e hx;omega
     have e2:atT t (r::q::l)=[r]:=by
      have:atT t (r::q::l)=r::atT t (q::l):=by unfold atT;rw[Xg,Je (by simpa using et)]
      rw[this,e0]
     rw[e2];show _=qh1 (some r);rw[e0] at ih;have ih':(standing (q::l)).lookup t=none:=ih;unfold qh1;rw[standing];by_cases hv:r.value<0
     ·rw[Jc e,Je hv];dsimp only;rw[Je hv];exact ih'
     ·rw[Jc e,Jc hv,X0];dsimp only;rw[Jc hv];simp[et]
    ·have e2:atT t (r::q::l)=atT t (q::l):=by unfold atT;rw[Xg,Jc (by simpa using et)]
     rw[e2,<- ih,standing];by_cases hv:r.value<0
     ·simp[e,hv]
     ·simp only[e,hv,X9];rw[X0];have:(t==r.at_)=false:=by simpa using fun z:t=r.at_=>et z.symm
      simp[this]
theorem qhb:∀ {l:List Reading} (x:Nat×Int),x∈standing l->∃ r∈l,r.at_=x.1
 |[],x,h=>by cases h
 | [r],x,h=>by
   unfold standing at h;split at h
   ·cases h
   ·rcases Jf.mp h with e|e
    ·exact⟨r,Jh,by rw[e]⟩
    ·cases e
 | r::q::l,x,h=>by
   have go:x∈standing (q::l)->∃ z∈r::q::l,z.at_=x.1:=fun h=>by
    obtain⟨z,hz,e⟩:=qhb x h;exact⟨z,Jm _ hz,e⟩
   rw[standing] at h;split at h
   ·exact go h
   ·split at h
    ·exact go h
    ·rcases Jf.mp h with e|e
     ·exact⟨r,Jh,by rw[e]⟩
     ·exact go e
theorem qn3:∀ {l:List Reading},l.Pairwise RLt->Inc ((standing l).map (·.1))
 |[],_=>List.Pairwise.nil
 | [r],_=>by
   unfold standing;split
   ·exact List.Pairwise.nil
   ·exact Zh _ _
 | r::q::l,h=>by
   have h':=h;rw[Ju] at h';have ih:=qn3 h'.2;rw[standing];split
   ·exact ih
   ·rename_i e;split
    ·exact ih
    ·refine Ju.mpr ⟨fun t ht=>?_,ih⟩;obtain⟨x,hx,rfl⟩:=Jk.mp ht;obtain⟨z,hz,ez⟩:=qhb x hx;have:=later h e hz;show r.at_<x.1;omega
theorem lookup_mem{β:Type}: ∀ {l:List (Nat×β)} {t:Nat} {x:β},(l.map (·.1)).Nodup->(l.lookup t=some x↔(t,x)∈l)
 |[],t,x,_=>by simp
 | (k,y)::l,t,x,h=>by
   rw[Jq,Xf] at h;rw[X0];by_cases e:t=k
   ·subst e;simp only[beq_self_eq_true,Jf];constructor
    ·intro z;exact .inl (by rw[Jj z])
    ·rintro (z|z)
     ·rw[(Ww z).2]
     ·exact absurd (Jk.mpr ⟨_,z,rfl⟩) h.1
   ·have:(t==k)=false:=by simpa using e
    rw[this];show l.lookup t=some x↔_;rw[lookup_mem h.2,Jf];constructor
    ·exact .inr
    ·rintro (z|z)
     ·exact absurd (Ww z).1 e
     ·exact z
def Chain:List Device->Prop
 |[]=>False
 |[d]=>∀ e,d.finish=some e->d.start<e.1
 |d::d'::r=>(∃ v,d.finish=some (d'.start,v))/\d.start<d'.start/\Chain (d'::r)
def InD(d:Device)(t:Nat): Prop:=d.start<t/\∀ e,d.finish=some e->t<e.1
theorem Chain.later:∀ {d:Device} {r:List Device},Chain (d::r)->∀ d'∈r,d.start<d'.start/\∃ e,d.finish=some e/\e.1<=d'.start
 |d,[],_,d',h=>by cases h
 | d,x::r,hc,d',h=>by
   obtain⟨⟨v,hv⟩,hlt,hc'⟩:=hc;rcases Jf.mp h with e|h
   ·subst e;exact⟨hlt,_,hv,Jp _⟩
   ·have:=hc'.later d' h;exact⟨by omega,_,hv,by show x.start<=_;omega⟩
theorem Chain.tail{d x:Device}{r:List Device}(h:Chain (d::x::r)): Chain (x::r):=h.2.2
theorem Chain.self:∀ {d:Device} {r:List Device},Chain (d::r)->∀ e,d.finish=some e->d.start<e.1
 |d,[],h,e,q=>h e q
 | d,x::r,h,e,q=>by
   obtain⟨⟨v,hv⟩,hlt,_⟩:=h;rw[hv] at q;cases q;exact hlt
theorem Chain.inc:∀ {ds:List Device},Chain ds->Inc (ds.map (·.start))
 |[],h=>h.elim
 |[d],_=>Zh _ _
 | d::x::r,h=>by
   refine Ju.mpr ⟨fun t ht=>?_,h.tail.inc⟩;obtain⟨d',hd',rfl⟩:=Jk.mp ht;exact(h.later d' hd').1
theorem Chain.qrn:∀ {ds:List Device},Chain ds->∀ {d d':Device} {t:Nat},d∈ds->d'∈ds->InD d t->t≠d'.start
 |[],h,_,_,_,_,_,_=>h.elim
 | [x],_,d,d',t,hd,hd',hi=>by
   have e1:=J3.mp hd;have e2:=J3.mp hd';subst e1 e2;have:=hi.1;omega
 | x::y::r,h,d,d',t,hd,hd',hi=>by
   rcases Jf.mp hd with e1|hd
   ·subst e1;rcases Jf.mp hd' with e2|hd'
    ·subst e2;have:=hi.1;omega
    ·obtain⟨_,e,he,hle⟩:=h.later d' hd';have:=hi.2 e he;omega
   ·rename d∈y::r=>hd1
    rcases Jf.mp hd' with e2|hd2
    ·subst e2;have:=(h.later d hd1).1;have:=hi.1;omega
    ·exact h.tail.qrn hd1 hd2 hi
def endOf(ds:List Device): Option (Nat×Int):=(ds.getLast?).bind (·.finish)
theorem Chain.qms:∀ {ds:List Device},Chain ds->∀ {d:Device} {t:Nat} {e:Nat×Int},d∈ds->InD d t->endOf ds=some e->t<e.1
 |[],h,_,_,_,_,_,_=>h.elim
 | [x],_,d,t,e,hd,hi,he=>by
   have e1:=J3.mp hd;subst e1;exact hi.2 e he
 | x::y::r,h,d,t,e,hd,hi,he=>by
   have he':endOf (y::r)=some e:=by rw[<- he];unfold endOf;rw[Xu]
   rcases Jf.mp hd with e1|hd
   ·subst e1;obtain⟨v,hv⟩:=h.1;have h1:=hi.2 _ hv;have h2:∀ {z:Device} {q:List Device},Chain (z::q)->endOf (z::q)=some e->z.start<e.1:=by
     intro z q;induction q generalizing z with
     |nil=>intro hz hq;exact hz e hq
     | cons z' q ih=>
       intro hz hq;have:=ih hz.tail (by rw[<- hq];unfold endOf;rw[Xu]);have:=hz.2.1;omega
    have:=h2 h.tail he';have h1':t<y.start:=h1;omega
   ·exact h.tail.qms hd hi he'
theorem Chain.qhc{e:Nat×Int}: ∀ {q:List Device},Chain q->endOf q=some e->∀ d∈q,d.start<e.1
 |[],h,_,_,_=>h.elim
 | [x],h,he,d,hd=>by
   have e1:=J3.mp hd;subst e1;exact h e he
 | x::y::r,h,he,d,hd=>by
   have he':endOf (y::r)=some e:=by rw[<- he];unfold endOf;rw[Xu]
   rcases Jf.mp hd with e1|hd
   ·subst e1;have:=h.tail.qhc he' y Jh;have:=h.2.1;omega
   ·exact h.tail.qhc he' d hd
def qdh(st:List (Nat×Int))(d:Device): List Nat:=(pointsOf st d).map (·.1)
theorem qop(m f:Int): ∀ (l:List (Nat×Int)) (c v:Int),(advance m f c v l).map (·.1)=l.map (·.1)
 |[],_,_=>rfl
 | (t,x)::l,c,v=>by
   rw[advance];show t::_=t::_;rw[qop m f l]
theorem qpe(st:List (Nat×Int)): ∀ (ds:List Device) (c:Int),(chained st c ds).map (·.1)=ds.flatMap (qdh st)
 |[],_=>rfl
 | d::r,c=>by
   rw[chained,Jv,qop,qpe st r,U1];rfl
def bounds(st:List (Nat×Int)): List Device->List Nat
 |[]=>[]
 |d::r=>d.start::(d::r).flatMap (qdh st)
theorem qq0(st:List (Nat×Int))(ds:List Device): (knots st ds).map (·.1)=bounds st ds:=by
 cases ds with
 |nil=>rfl
 | cons d r=>
   unfold knots bounds;rw[Jq,qpe]
theorem qmj{st:List (Nat×Int)}{d:Device}{t:Nat}{v:Int}(h:d.finish=some (t,v)):
  qdh st d=(st.filter fun x=>decide (d.start<x.1)&&decide (x.1<t)).map (·.1)++[t]:=by
 unfold qdh pointsOf;rw[h];simp
theorem qqw{st:List (Nat×Int)}{d:Device}(h:d.finish=none):
  qdh st d=(st.filter fun x=>decide (d.start<x.1)).map (·.1):=by
 unfold qdh pointsOf;rw[h]
theorem qd9{st:List (Nat×Int)}{d:Device}{t:Nat}: t∈qdh st d↔(t∈st.map (·.1)/\InD d t)\/∃ v,d.finish=some (t,v):=by
 cases h:d.finish with
 | none=>
   rw[qqw h];unfold InD;rw[h];constructor
   ·intro q;obtain⟨x,hx,rfl⟩:=Jk.mp q;rw[J2] at hx;exact .inl ⟨Jk.mpr ⟨x,hx.1,rfl⟩,by simpa using hx.2,by intro e he;cases he⟩
   ·rintro (⟨q,q2,_⟩|⟨v,q⟩)
    ·obtain⟨x,hx,rfl⟩:=Jk.mp q;exact Jk.mpr ⟨x,J2.mpr ⟨hx,by simpa using q2⟩,rfl⟩
    ·cases q
 | some e=>
   obtain⟨u,v⟩:=e;rw[qmj h];unfold InD;rw[h,J4];constructor
   ·rintro (q|q)
    ·obtain⟨x,hx,rfl⟩:=Jk.mp q;rw[J2] at hx;have:=hx.2;simp at this;exact .inl ⟨Jk.mpr ⟨x,hx.1,rfl⟩,this.1,by intro e he;cases he;exact this.2⟩
    ·have:=J3.mp q;subst this;exact .inr ⟨v,rfl⟩
   ·rintro (⟨q,q2,q3⟩|⟨w,q⟩)
    ·obtain⟨x,hx,rfl⟩:=Jk.mp q;have:=q3 _ rfl;exact .inl (Jk.mpr ⟨x,J2.mpr ⟨hx,by simp;exact⟨q2,this⟩⟩,rfl⟩)
    ·cases q;exact .inr Jh
theorem qqv{st:List (Nat×Int)}(hs:Inc (st.map (·.1))){d:Device}: Inc (qdh st d):=by
 have sub:∀ p:Nat×Int->Bool,Inc ((st.filter p).map (·.1)):=fun p=>by
  have:((st.filter p).map (·.1)).Sublist (st.map (·.1)):=List.Sublist.map _ Wn;exact List.Pairwise.sublist this hs
 cases h:d.finish with
 |none=>rw[qqw h];exact sub _
 | some e=>
   obtain⟨u,v⟩:=e;rw[qmj h];refine Zf.mpr ⟨sub _,Zh _ _,fun x hx y hy=>?_⟩;obtain⟨z,hz,rfl⟩:=Jk.mp hx;have:=(J2.mp hz).2;simp at this;rw[J3.mp hy];exact this.2
theorem qk8{st:List (Nat×Int)}{d:Device}{r:List Device}(hc:Chain (d::r)): ∀ t∈(d::r).flatMap (qdh st),d.start<t:=fun t ht=>by
 obtain⟨x,hx,hk⟩:=List.mem_flatMap.mp ht;have h0:d.start<=x.start:=by
  rcases Jf.mp hx with e|hx
  ·rw[e];exact Jp _
  ·exact Xj (hc.later x hx).1
 have hself:∀ e,x.finish=some e->x.start<e.1:=by
  clear hk h0 ht;revert hc hx;generalize d::r=ds;intro hc hx;induction ds with
  |nil=>cases hx
  | cons a q ih=>
    rcases Jf.mp hx with e|hx
    ·subst e;exact hc.self
    ·cases q with
     |nil=>cases hx
     |cons b q=>exact ih hc.tail hx
 rcases qd9.mp hk with ⟨_,q⟩|⟨v,q⟩
 ·have:=q.1;omega
 ·have:=hself _ q;have:x.start<t:=this;omega
theorem qk9{st:List (Nat×Int)}(hs:Inc (st.map (·.1))): ∀ {ds:List Device},Chain ds->Inc (bounds st ds)
 |[],h=>h.elim
 | [d],h=>by
   unfold bounds;refine Ju.mpr ⟨qk8 h,?_⟩;simp only[U1,List.flatMap_nil,Y7];exact qqv hs
 | d::x::r,h=>by
   have ih:=qk9 hs h.tail;unfold bounds at ih ⊢;refine Ju.mpr ⟨qk8 h,?_⟩;rw[U1];obtain⟨⟨v,hv⟩,hlt,hc⟩:=h;refine Zf.mpr ⟨qqv hs,(Ju.mp ih).2,fun a ha b hb=>?_⟩;have h1:=qk8 (st:=st) hc b hb;have h2:a<=x.start:=by
    rcases qd9.mp ha with ⟨_,q⟩|⟨w,q⟩
    ·exact Xj (q.2 _ hv)
    ·rw[hv] at q;cases q;exact Jp _
   omega
theorem qmt{st:List (Nat×Int)}: ∀ {ds:List Device},Chain ds->(∀ t∈st.map (·.1),∃ d∈ds,InD d t)->∀ t,t∈bounds st ds↔t∈ds.map (·.start)\/t∈st.map (·.1)\/∃ v,endOf ds=some (t,v):=fun {ds} hc hin t=>by
 have key:∀ (ds:List Device) (d:Device),Chain (d::ds)->∀ t,(t=d.start\/∃ x∈d::ds,t∈qdh st x)↔(t∈(d::ds).map (·.start)\/(∃ x∈d::ds,t∈st.map (·.1)/\InD x t)\/∃ v,endOf (d::ds)=some (t,v)):=by
  intro ds;induction ds with
  | nil=>
    intro d hc t;constructor
    ·rintro (e|⟨x,hx,hk⟩)
     ·exact .inl (by simp[e])
     ·have e:=J3.mp hx;subst e;rcases qd9.mp hk with q|⟨v,q⟩
      ·exact .inr (.inl ⟨x,hx,q⟩)
      ·exact .inr (.inr ⟨v,q⟩)
    ·rintro (q|⟨x,hx,q⟩|⟨v,q⟩)
     ·exact .inl (by simpa using q)
     ·exact .inr ⟨x,hx,qd9.mpr (.inl q)⟩
     ·exact .inr ⟨d,Jh,qd9.mpr (.inr ⟨v,q⟩)⟩
  | cons y r ih=>
    intro d hc t;have h:=ih y hc.tail t;have ee:endOf (d::y::r)=endOf (y::r):=by unfold endOf;rw[Xu]
    rw[ee];obtain⟨⟨v0,hv0⟩,hlt,hc'⟩:=hc;constructor
    ·rintro (e|⟨x,hx,hk⟩)
     ·exact .inl (by simp[e])
     ·rcases Jf.mp hx with e|hx
      ·subst e;rcases qd9.mp hk with q|⟨v,q⟩
       ·exact .inr (.inl ⟨x,Jh,q⟩)
       ·rw[hv0] at q;cases q;exact .inl (by simp)
      ·rcases h.mp (.inr ⟨x,hx,hk⟩) with q|⟨z,hz,q⟩|q
       ·exact .inl (by rw[Jq];exact Jm _ q)
       ·exact .inr (.inl ⟨z,Jm _ hz,q⟩)
       ·exact .inr (.inr q)
    ·rintro (q|⟨z,hz,q⟩|q)
     ·rw[Jq] at q;rcases Jf.mp q with e|q
      ·exact .inl e
      ·rcases h.mpr (.inl q) with e|⟨x,hx,hk⟩
       ·exact .inr ⟨d,Jh,qd9.mpr (.inr ⟨v0,by rw[e];exact hv0⟩)⟩
       ·exact .inr ⟨x,Jm _ hx,hk⟩
     ·exact .inr ⟨z,hz,qd9.mpr (.inl q)⟩
     ·rcases h.mpr (.inr (.inr q)) with e|⟨x,hx,hk⟩
      ·exact .inr ⟨d,Jh,qd9.mpr (.inr ⟨v0,by rw[e];exact hv0⟩)⟩
      ·exact .inr ⟨x,Jm _ hx,hk⟩
 cases ds with
 |nil=>exact hc.elim
 | cons d r=>
   unfold bounds;rw[Jf,List.mem_flatMap,key r d hc t];constructor
   ·rintro (q|⟨x,_,q,_⟩|q)
    ·exact .inl q
    ·exact .inr (.inl q)
    ·exact .inr (.inr q)
   ·rintro (q|q|q)
    ·exact .inl q
    ·obtain⟨x,hx,hi⟩:=hin t q;exact .inr (.inl ⟨x,hx,q,hi⟩)
    ·exact .inr (.inr q)
def qd6(ds:List Device)(a:Nat): Option Device:=(ds.filter fun d=>decide (d.start<=a)).getLast?
def qcf(st:List (Nat×Int))(d:Device)(t:Nat): Int:=
 if t=d.start then d.value else match d.finish with
 |some (e,v)=>if t=e then v else (st.lookup t).getD 0
 |none=>(st.lookup t).getD 0
def qcj(st:List (Nat×Int))(ds:List Device)(a b:Nat): Int:=match qd6 ds a with
 |none=>0
 |some d=>(qcf st d b-qcf st d a)%10 ^ d.digits*d.factor
def Qcu(f:Nat->Nat->Int): List (Nat×Int)->Prop
 |(a,c)::(b,d)::r=>d=c+f a b/\Qcu f ((b,d)::r)
 |_=>True
theorem Qcu.append{f:Nat->Nat->Int}: ∀ {x y:Nat×Int} {k l:List (Nat×Int)},Qcu f (x::k)->(x::k).getLast?=some y->Qcu f (y::l)->Qcu f (x::(k++l))
 | x,y,[],l,_,h,h2=>by
   have e:x=y:=Jj h;subst e;exact h2
 | x,y,z::k,l,h1,h,h2=>by
   have h':(z::k).getLast?=some y:=by rw[<- h,Xu]
   exact⟨h1.1,Qcu.append h1.2 h' h2⟩
theorem qoo{f:Nat->Nat->Int}(m g:Int): ∀ (l:List (Nat×Int)) (t0:Nat) (v0 c:Int),
  (∀ i p q,((t0,v0)::l)[i]?=some p->((t0,v0)::l)[i+1]?=some q->f p.1 q.1=(q.2-p.2)%m*g)->Qcu f ((t0,c)::advance m g c v0 l)
 |[],_,_,_,_=>trivial
 | (t,v)::l,t0,v0,c,h=>by
   rw[advance];refine⟨?_,?_⟩
   ·rw[h 0 (t0,v0) (t,v) rfl rfl]
   ·exact qoo m g l t v _ fun i p q hp hq=>h (i+1) p q (by simpa using hp) (by simpa using hq)
theorem qkx(m g:Int): ∀ (l:List (Nat×Int)) (v0 c:Int) (t0:Nat),((t0,c)::advance m g c v0 l).getLast?=some (((t0::l.map (·.1)).getLast?).getD 0,lastOf c (advance m g c v0 l))
 |[],_,_,_=>rfl
 | (t,v)::l,v0,c,t0=>by
   rw[advance];show ((t0,c)::(t,c+(v-v0)%m*g)::advance m g (c+(v-v0)%m*g) v l).getLast?=_;rw[Xu,qkx m g l v _ t];rw[Jq,Xu];congr 2;unfold lastOf;have:=qkx m g l v (c+(v-v0)%m*g) t;rw[this];unfold lastOf;rfl
theorem qpr{pre post:List Device}{d:Device}{a:Nat}(h1:d.start<=a)(h2:∀ x∈post,a<x.start): qd6 (pre++d::post) a=some d:=by
 unfold qd6;rw[Z5,Xg,Je (by simpa using h1)];have:post.filter (fun d=>decide (d.start<=a))=[]:=by
  rw[Zo];intro x hx;have:=h2 x hx;simp;omega
 rw[this];simp
theorem q5u{st:List (Nat×Int)}(hs:Inc (st.map (·.1))){d:Device}(hd:∀ e,d.finish=some e->d.start<e.1): ∀ p∈pointsOf st d,qcf st d p.1=p.2:=fun p hp=>by
 have hl:∀ x∈st,st.lookup x.1=some x.2:=fun x hx=>(lookup_mem hs.nodup).mpr hx;unfold pointsOf at hp;unfold qcf;cases h:d.finish with
 | none=>
   rw[h] at hp;have hp:p∈st.filter (fun x=>decide (d.start<x.1)):=hp;rw[J2] at hp;have:d.start<p.1:=by simpa using hp.2
   rw[Jc (by omega)];dsimp only;rw[hl p hp.1];rfl
 | some e=>
   obtain⟨u,v⟩:=e;rw[h] at hp;have hp:p∈(st.filter fun x=>decide (d.start<x.1)&&decide (x.1<u))++[(u,v)]:=hp;rcases J4.mp hp with q|q
   ·rw[J2] at q;have:=q.2;simp at this;rw[Jc (by omega)];dsimp only;rw[Jc (by omega),hl p q.1];rfl
   ·have e:=J3.mp q;subst e;have:=hd _ h;have:d.start<u:=this;rw[Jc (show ¬ u=d.start by omega)];dsimp only;rw[Je rfl]
theorem q5s{st:List (Nat×Int)}{d x:Device}{v:Int}(h:d.finish=some (x.start,v)): ∀ (i:Nat) p q,((d.start,d.value)::pointsOf st d)[i]?=some p->((d.start,d.value)::pointsOf st d)[i+1]?=some q->d.start<x.start->p.1<x.start:=by
 have e:pointsOf st d=(st.filter fun y=>decide (d.start<y.1)&&decide (y.1<x.start))++[(x.start,v)]:=by unfold pointsOf;rw[h]
 rw[e];intro i p q hp hq hlt;cases i with
 |zero=>cases hp;exact hlt
 | succ i=>
   have hp:((st.filter fun y=>decide (d.start<y.1)&&decide (y.1<x.start))++[(x.start,v)])[i]?=some p:=hp;have hq:((st.filter fun y=>decide (d.start<y.1)&&decide (y.1<x.start))++[(x.start,v)])[i+1]?=some q:=hq;have hlen:=(Ji.mp hq).1;rw[Jx,List.length_singleton] at hlen;rw[Wg (by omega)] at hp;have:=(J2.mp (J0 hp)).2;simp at this;exact this.2
theorem q5t{st:List (Nat×Int)}{d:Device}(hd:∀ e,d.finish=some e->d.start<e.1): ∀ p∈(d.start,d.value)::pointsOf st d,d.start<=p.1:=fun p hp=>by
 rcases Jf.mp hp with e|hp
 ·rw[e];exact Jp _
 ·have:p.1∈qdh st d:=Jk.mpr ⟨p,hp,rfl⟩;rcases qd9.mp this with ⟨_,q⟩|⟨v,q⟩
  ·exact Xj q.1
  ·exact Xj (show d.start<p.1 from hd (p.1,v) q)
theorem qx3{st:List (Nat×Int)}(hs:Inc (st.map (·.1))): ∀ (r:List Device) (pre:List Device) (d:Device) (c:Int),Chain (d::r) ->
  Qcu (qcj st (pre++d::r)) ((d.start,c)::chained st c (d::r)):=by
 intro r;have one:∀ (pre r:List Device) (d:Device) (c:Int),Chain (d::r)->Qcu (qcj st (pre++d::r)) ((d.start,c)::advance (10 ^ d.digits) d.factor c d.value (pointsOf st d)):=by
  intro pre r d c hc;refine qoo _ _ _ _ _ _ fun i p q hp hq=>?_;have hself:=hc.self;have hsh:∀ z∈(d.start,d.value)::pointsOf st d,qcf st d z.1=z.2:=fun z hz=>by
   rcases Jf.mp hz with e|hz
   ·rw[e];unfold qcf;rw[Je rfl]
   ·exact q5u hs hself z hz
  have h1:=hsh p (J0 hp);have h2:=hsh q (J0 hq);have hge:=q5t hself p (J0 hp);have hd:qd6 (pre++d::r) p.1=some d:=by
   refine qpr hge fun x hx=>?_;cases r with
   |nil=>cases hx
   | cons y r=>
     obtain⟨⟨v,hv⟩,hlt,hc'⟩:=hc;have h3:=q5s hv i p q hp hq hlt;rcases Jf.mp hx with e|hx
     ·rw[e];exact h3
     ·have:=(hc'.later x hx).1;omega
  unfold qcj;rw[hd,<- h1,<- h2]
 induction r with
 | nil=>
   intro pre d c hc;rw[chained,chained,Y7];exact one pre [] d c hc
 | cons y r ih=>
   intro pre d c hc;rw[chained];have h1:=one pre (y::r) d c hc;obtain⟨⟨v,hv⟩,hlt,hc'⟩:=hc;refine Qcu.append h1 (qkx _ _ _ _ _ _) ?_;have e:((d.start::(pointsOf st d).map (·.1)).getLast?).getD 0=y.start:=by
    have:(pointsOf st d).map (·.1)=qdh st d:=rfl;rw[this,qmj hv,<- List.cons_append,List.getLast?_concat];rfl
   rw[e];have:=ih (pre++[d]) y (lastOf c (advance (10 ^ d.digits) d.factor c d.value (pointsOf st d))) hc';rw[Yv] at this;exact this
theorem qq1{st:List (Nat×Int)}(hs:Inc (st.map (·.1))){ds:List Device}(hc:Chain ds): Qcu (qcj st ds) (knots st ds):=by
 cases ds with
 |nil=>exact hc.elim
 |cons d r=>exact qx3 hs r [] d 0 hc
def sums(c:Int): List Int->List Int
 |[]=>[c]
 |x::l=>c::sums (c+x) l
theorem qvm:∀ (l:List Int) (c x:Int),sums c (l++[x])=sums c l++[((sums c l).getLast?).getD 0+x]
 |[],c,x=>rfl
 | y::l,c,x=>by
   have e:=qvm l (c+y) x;have e2:∀ (l:List Int) c,∃ z r,sums c l=z::r:=by
    intro l c;cases l with
    |nil=>exact⟨_,_,rfl⟩
    |cons a l=>exact⟨_,_,rfl⟩
   obtain⟨z,r,e3⟩:=e2 l (c+y);show c::sums (c+y) (l++[x])=c::sums (c+y) l++[((c::sums (c+y) l).getLast?).getD 0+x]
   rw[e,e3,Xu];rfl
theorem qkj:∀ (l:List Int) (c:Int),(sums c l).length=l.length+1
 |[],_=>rfl
 |x::l,c=>by show (sums (c+x) l).length+1=_;rw[qkj];rfl
def qcw(f:Nat->Nat->Int): List Nat->List Int
 |a::b::r=>f a b::qcw f (b::r)
 |_=>[]
theorem qrd{f:Nat->Nat->Int}: ∀ {r:List (Nat×Int)} {a:Nat} {c:Int},Qcu f ((a,c)::r)->((a,c)::r).map (·.2)=sums c (qcw f (((a,c)::r).map (·.1)))
 |[],_,_,_=>rfl
 | (b,d)::r,a,c,h=>by
   have:=qrd h.2;show c::((b,d)::r).map (·.2)=c::sums (c+f a b) (qcw f (((b,d)::r).map (·.1)));rw[this,h.1]
theorem q3e{st:List (Nat×Int)}(hs:Inc (st.map (·.1))){ds:List Device}(hc:Chain ds): (knots st ds).map (·.2)=sums 0 (qcw (qcj st ds) (bounds st ds)):=by
 have h:=qq1 hs hc;rw[<- qq0];cases ds with
 |nil=>exact hc.elim
 |cons d r=>exact qrd h
theorem qkr(w:Nat->Nat)(a:Nat): weights w a a=0:=by unfold weights;simp
theorem qoh(w:Nat->Nat){a t:Nat}(h:a<=t): weights w a (t+1)=weights w a t+w t:=by
 unfold weights;have e:t+1-a=(t-a)+1:=by omega
 rw[e,Zu,Jv,Z7];simp only[Jq,Zv,Yx,List.sum_nil];have:a+(t-a)=t:=by omega
 rw[this];omega
theorem zax(w:Nat->Nat){a b:Nat}(h:a<=b): weights w 0 b=weights w 0 a+weights w a b:=by
 induction b with
 | zero=>
   have:a=0:=by omega
   subst this;simp[qkr]
 | succ b ih=>
   by_cases e:a=b+1
   ·subst e;rw[qkr];omega
   ·have h':a<=b:=by omega
    rw[qoh w (X3 b),qoh w h',ih h'];omega
def qbj(p:List Nat): List Nat:=if p=[] then [1] else p
theorem q5x(p:List Nat): 0<(qbj p).length:=by
 unfold qbj;split
 ·decide
 ·rename_i h;exact Ub.mpr h
theorem qwc(p:List Nat)(q:Nat): weight p q=((qbj p)[q%(qbj p).length]?).getD 0:=by
 unfold weight qbj;split
 ·rename_i h;subst h;simp;have:q%1=0:=Nat.mod_one q;simp[this]
 ·rename_i h;have hl:0<p.length:=Ub.mpr h;have:=Nat.mod_lt q hl;rw[Jo this];rfl
def wsum(p:List Nat)(t:Nat): Nat:=t / (qbj p).length*(qbj p).sum+((qbj p).take (t%(qbj p).length)).sum
theorem take_sum_succ(l:List Nat){i:Nat}(h:i<l.length): (l.take (i+1)).sum=(l.take i).sum+(l[i]?).getD 0:=by
 rw[Xq,Z7,Jo h];simp
theorem za1(p:List Nat)(t:Nat): wsum p (t+1)=wsum p t+weight p t:=by
 have hn:=q5x p;rw[qwc];unfold wsum;generalize qbj p=l at hn ⊢;have hm:=Nat.mod_lt t hn;by_cases e:t%l.length+1=l.length
 ·have hdiv:(t+1) / l.length=t / l.length+1:=by
   have h1:=Ug t l.length;have:t+1=l.length*(t / l.length+1):=by rw[Nat.mul_add,Nat.mul_one];omega
   rw[this,Nat.mul_div_cancel_left _ hn]
  have hmod:(t+1)%l.length=0:=by
   have h1:=Ug t l.length;have:t+1=l.length*(t / l.length+1):=by rw[Nat.mul_add,Nat.mul_one];omega
   rw[this,Nat.mul_mod_right]
  rw[hdiv,hmod];have:=take_sum_succ l (i:=t%l.length) (by omega);rw[e,Xh] at this;rw[List.take_zero,List.sum_nil,Nat.add_mul,Nat.one_mul];omega
 ·have hdiv:(t+1) / l.length=t / l.length:=by
   have h1:=Ug t l.length;rw[Nat.div_eq_of_lt_le]
   ·rw[Nat.mul_comm];omega
   ·rw[Nat.add_mul,Nat.one_mul,Nat.mul_comm];omega
  have hmod:(t+1)%l.length=t%l.length+1:=by
   have h1:=Ug t l.length;have h2:=Ug (t+1) l.length;rw[hdiv] at h2;omega
  rw[hdiv,hmod,take_sum_succ l (by omega)];omega
theorem qwi(p:List Nat)(t:Nat): wsum p t=weights (weight p) 0 t:=by
 induction t with
 | zero=>
   rw[qkr];unfold wsum;simp
 |succ t ih=>rw[za1,ih,qoh _ (X3 t)]
theorem qok(p:List Nat){a b:Nat}(h:a<=b): (wsum p b:Int)-(wsum p a:Int)=(weights (weight p) a b:Nat):=by
 rw[qwi,qwi,zax (weight p) h];omega
theorem q47(w:Nat->Nat)(a b:Nat)(x:Int): part w a b a x=0:=by
 unfold part;split
 ·simp
 ·rw[qkr];simp
theorem q93(w:Nat->Nat)(rate:Int){a:Nat}{c:Int}{r:List (Nat×Int)}{t:Nat}(h:t<=a): through w rate ((a,c)::r) t=c:=by
 cases r with
 | nil=>
   rw[through];have:t-a=0:=by omega
   rw[this];simp
 | cons x r=>
   obtain⟨b,d⟩:=x;rw[through,Je h]
theorem qvx(w:Nat->Nat)(rate:Int): ∀ (ks:List (Nat×Int)) {x:Nat×Int} {t:Nat},Inc (ks.map (·.1))->ks.getLast?=some x->x.1<=t->through w rate ks t=x.2+rate*(t-x.1:Nat)
 |[],_,_,_,h,_=>by cases h
 | [(a,c)],x,t,_,h,_=>by
   have:(a,c)=x:=Jj h;subst this;rw[through]
 | (a,c)::(b,d)::r,x,t,hi,h,hx=>by
   have h':((b,d)::r).getLast?=some x:=by rw[<- h,Xu]
   have hb:∀ (l:List (Nat×Int)) (b:Nat) (d:Int),Inc (((b,d)::l).map (·.1))->((b,d)::l).getLast?=some x->b<=x.1:=by
    intro l b d hl e;have hm:=Zg e;rcases Jf.mp hm with q|q
    ·rw[q];exact Jp _
    ·exact Xj ((Ju.mp hl).1 x.1 (Jk.mpr ⟨x,q,rfl⟩))
   rw[Jq] at hi;have hi2:=Ju.mp hi;have h1:=hi2.1 b (by simp);have h2:=hb r b d hi2.2 h';rw[through,Jc (by omega),Jc (by omega)];exact qvx w rate _ hi2.2 h' hx
def upTo(t:Nat)(l:List Nat): Nat:=(l.filter fun k=>decide (k<=t)).length
theorem zan{t:Nat}{l:List Nat}(h:∀ k∈l,t<k): upTo t l=0:=by
 unfold upTo;rw[List.length_eq_zero_iff,Zo];intro k hk;have:=h k hk;simp;omega
theorem qvy(w:Nat->Nat)(rate:Int): ∀ (ks:List (Nat×Int)) {x y:Nat×Int} {t:Nat},Inc (ks.map (·.1))->ks.head?=some x->x.1<=t->ks.getLast?=some y->t<y.1 ->
  ∃ p a c b d,p+1=upTo t (ks.map (·.1))/\ks[p]?=some (a,c)/\ks[p+1]?=some (b,d)/\a<=t/\t<b/\through w rate ks t=c+part w a b t (d-c)
 |[],_,_,_,_,h,_,_,_=>by cases h
 | [(a,c)],x,y,t,_,h,hx,h',hy=>by
   have e1:(a,c)=x:=Jj h;have e2:(a,c)=y:=Jj h';subst e1;subst e2;omega
 | (a,c)::(b,d)::r,x,y,t,hi,h,hx,h',hy=>by
   have e1:(a,c)=x:=Jj h;subst e1;have hy':((b,d)::r).getLast?=some y:=by rw[<- h',Xu]
   rw[Jq] at hi;have hi2:=Ju.mp hi;have hx:a<=t:=hx;have up:upTo t (((a,c)::(b,d)::r).map (·.1))=upTo t (((b,d)::r).map (·.1))+1:=by
    rw[Jq];unfold upTo;rw[Xg,Je (by simpa using hx)];rfl
   by_cases hb:t<b
   ·refine⟨0,a,c,b,d,?_,rfl,rfl,hx,hb,?_⟩
    ·rw[up,zan];intro k hk;rw[Jq] at hk;rcases Jf.mp hk with q|q
     ·rw[q];exact hb
     ·have:=(Ju.mp hi2.2).1 k q;have:b<k:=this;omega
    ·rw[through];by_cases e:t=a
     ·subst e;rw[Je (Jp _),q47];omega
     ·rw[Jc (by omega),Je hb]
   ·obtain⟨p,a',c',b',d',h1,h2,h3,h4,h5,h6⟩:=qvy w rate ((b,d)::r) (x:=(b,d)) (t:=t) hi2.2 rfl (by show b<=t;omega) hy' hy;refine⟨p+1,a',c',b',d',?_,h2,h3,h4,h5,?_⟩
    ·rw[up,<- h1]
    ·have:=hi2.1 b (by simp);rw[through,Jc (by omega),Jc hb,h6]
theorem qm2(p:List Nat){a b t:Nat}(h1:a<=t)(h2:t<=b)(x:Int): part (weight p) a b t x =
  if (wsum p b:Int)-wsum p a=0 then x*((t:Int)-a) / ((b:Int)-a) else x*((wsum p t:Int)-wsum p a) / ((wsum p b:Int)-wsum p a):=by
 unfold part;rw[qok p (by omega:a<=b),qok p h1];have e1:((t-a:Nat):Int)=(t:Int)-a:=by omega
 have e2:((b-a:Nat):Int)=(b:Int)-a:=by omega
 rw[e1,e2];by_cases hz:weights (weight p) a b=0
 ·rw[Je hz,Je (by rw[hz];rfl)]
 ·rw[Jc hz,Jc (by omega)]
def qa7(b:Nat): Nat->Nat->List (Nat×Nat)->List (Nat×Nat×Nat)
 |begun,hand,[]=>[(begun,b,hand)]
 |begun,hand,(q,h)::r=>if b<=q then [(begun,b,hand)] else if begun<q then (begun,q,hand)::qa7 b q h r else qa7 b begun h r
def qcq(l:List (Nat×Nat))(k:Nat)(q:Nat): Nat:=(((l.filter fun x=>decide (x.1<=q)).getLast?).map (·.2)).getD k
def qd7(hand:Nat->Nat)(g:Nat->Nat->Int)(h:Nat): List Nat->Nat->Int
 |[],_=>0
 |[a],b=>if hand a=h then g a b else 0
 |a::c::r,b=>(if hand a=h then g a c else 0)+qd7 hand g h (c::r) b
theorem qji{hand hand':Nat->Nat}{g:Nat->Nat->Int}{h:Nat}: ∀ {l:List Nat} {b:Nat},(∀ x∈l,hand x=hand' x)->qd7 hand g h l b=qd7 hand' g h l b
 |[],_,_=>rfl
 |[a],b,e=>by unfold qd7;rw[e a Jh]
 | a::c::r,b,e=>by
   rw[qd7,qd7,e a Jh,qji fun x hx=>e x (Jm _ hx)]
def qcb(g:Nat->Nat->Int)(h:Nat)(l:List (Nat×Nat×Nat)): Int:=(l.map fun x=>if x.2.2=h then g x.1 x.2.1 else 0).sum
theorem qmb{q k:Nat}{l:List (Nat×Nat)}{k0 t:Nat}(h:q<=t): qcq ((q,k)::l) k0 t=qcq l k t:=by
 unfold qcq;rw[Xg,Je (by simpa using h)];cases e:l.filter fun x=>decide (x.1<=t) with
 |nil=>rfl
 |cons a r=>rw[Xu,List.getLast?_cons];rfl
theorem qmc{l:List (Nat×Nat)}{k t:Nat}(h:∀ x∈l,t<x.1): qcq l k t=k:=by
 unfold qcq;have:l.filter (fun x=>decide (x.1<=t))=[]:=by
  rw[Zo];intro x hx;have:=h x hx;simp;omega
 rw[this];rfl
def qcy(l:List (Nat×Nat))(a b:Nat): List Nat:=(l.filter fun x=>decide (a<x.1)&&decide (x.1<b)).map (·.1)
theorem qpk{l:List (Nat×Nat)}{a b t:Nat}(h:t∈qcy l a b): a<t/\t<b:=by
 obtain⟨x,hx,rfl⟩:=Jk.mp h;have:=(J2.mp hx).2;simpa using this
theorem qm4(g:Nat->Nat->Int)(h b:Nat): ∀ (l:List (Nat×Nat)) (begun k:Nat),Inc (l.map (·.1))->begun<b ->
  qcb g h (qa7 b begun k l)=qd7 (qcq l k) g h (begun::qcy l begun b) b
 | [],begun,k,_,_=>by
   show (if k=h then g begun b else 0)+0=if k=h then g begun b else 0
   omega
 | (q,k')::r,begun,k,hi,hlt=>by
   rw[Jq] at hi;have hi2:=Ju.mp hi;have hr:∀ x∈r,q<x.1:=fun x hx=>hi2.1 x.1 (Jk.mpr ⟨x,hx,rfl⟩);rw[qa7];by_cases h1:b<=q
   ·rw[Je h1];have e1:qcy ((q,k')::r) begun b=[]:=by
     unfold qcy;rw[List.map_eq_nil_iff,Zo];intro x hx;have:b<=x.1:=by
      rcases Jf.mp hx with e|hx
      ·rw[e];exact h1
      ·have:=hr x hx;omega
     simp;omega
    have e2:qcq ((q,k')::r) k begun=k:=qmc fun x hx=>by
     rcases Jf.mp hx with e|hx
     ·rw[e];show begun<q;omega
     ·have:=hr x hx;omega
    rw[e1];show (if k=h then g begun b else 0)+0=if qcq ((q,k')::r) k begun=h then g begun b else 0
    rw[e2];omega
   ·rw[Jc h1];by_cases h2:begun<q
    ·rw[Je h2];have ih:=qm4 g h b r q k' hi2.2 (by omega);have e2:qcq ((q,k')::r) k begun=k:=qmc fun x hx=>by
      rcases Jf.mp hx with e|hx
      ·rw[e];exact h2
      ·have:=hr x hx;omega
     have e3:qcy ((q,k')::r) begun b=q::qcy r q b:=by
      unfold qcy;rw[Xg,Je (by simp;omega),Jq];congr 2;refine List.filter_congr fun x hx=>?_;have:=hr x hx;have a1:decide (begun<x.1)=true:=by simpa using (by omega:begun<x.1)
      have a2:decide (q<x.1)=true:=by simpa using this
      rw[a1,a2]
     rw[e3];show (if k=h then g begun q else 0)+qcb g h (qa7 b q k' r)=(if qcq ((q,k')::r) k begun=h then g begun q else 0)+qd7 (qcq ((q,k')::r) k) g h (q::qcy r q b) b;rw[e2,ih];congr 1;refine qji fun x hx=>?_;have:q<=x:=by
      rcases Jf.mp hx with e|hx
      ·omega
      ·have:=(qpk hx).1;omega
     exact(qmb this).symm
    ·rw[Jc h2];have ih:=qm4 g h b r begun k' hi2.2 hlt;have e3:qcy ((q,k')::r) begun b=qcy r begun b:=by
      unfold qcy;rw[Xg,Jc (by simp;omega)]
     rw[e3,ih];refine qji fun x hx=>?_;have:q<=x:=by
      rcases Jf.mp hx with e|hx
      ·omega
      ·have:=(qpk hx).1;omega
     exact(qmb this).symm
theorem qh8(b:Nat): ∀ (l:List (Nat×Nat)) (begun k:Nat),begun<=b->∀ x∈qa7 b begun k l,begun<=x.1/\x.1<=x.2.1/\x.2.1<=b/\(x.2.2=k\/x.2.2∈l.map (·.2))
 | [],begun,k,h,x,hx=>by
   have e:=J3.mp hx;subst e;exact⟨Jp _,h,Jp _,.inl rfl⟩
 | (q,k')::r,begun,k,h,x,hx=>by
   rw[qa7] at hx;split at hx
   ·have e:=J3.mp hx;subst e;exact⟨Jp _,h,Jp _,.inl rfl⟩
   ·split at hx
    ·rcases Jf.mp hx with e|hx
     ·subst e;exact⟨Jp _,by show begun<=q;omega,by show q<=b;omega,.inl rfl⟩
     ·have:=qh8 b r q k' (by omega) x hx;refine⟨by omega,this.2.1,this.2.2.1,?_⟩;rcases this.2.2.2 with e|e
      ·exact .inr (by rw[e];simp)
      ·exact .inr (by rw[Jq];exact Jm _ e)
    ·have:=qh8 b r begun k' h x hx;refine⟨this.1,this.2.1,this.2.2.1,?_⟩;rcases this.2.2.2 with e|e
     ·exact .inr (by rw[e];simp)
     ·exact .inr (by rw[Jq];exact Jm _ e)
def toldOf(s:State)(m:Nat): List (Nat×Nat):=(s.assigns.filter fun a=>a.meter==m).map fun a=>(a.quarter,a.hand)
theorem qqd(s:State)(m q:Nat): Vbemai.hand s m q=qcq (toldOf s m) 0 q:=by
 unfold Vbemai.hand qcq toldOf;rw[Wt,Y5,Option.map_map];rw[List.filter_filter];have:(fun a:Assign=>a.meter==m&&decide (a.quarter<=q))=fun a=>((fun x:Nat×Nat=>decide (x.1<=q)) ∘ fun a:Assign=>(a.quarter,a.hand)) a&&a.meter==m:=by
  funext a;show (a.meter==m&&decide (a.quarter<=q))=(decide (a.quarter<=q)&&a.meter==m)
  exact Bool.and_comm _ _
 rw[this];rfl
theorem qye(s:State)(m a b:Nat): cuts s m a b=a::qcy (toldOf s m) a b:=by
 unfold cuts qcy toldOf;rw[Wt,Xy,List.filter_filter];have:(fun x:Assign=>x.meter==m&&(decide (a<x.quarter)&&decide (x.quarter<b)))=fun x=>((fun x:Nat×Nat=>decide (a<x.1)&&decide (x.1<b)) ∘ fun a:Assign=>(a.quarter,a.hand)) x&&x.meter==m:=by
  funext x;exact Bool.and_comm _ _
 rw[this];rfl
theorem qqk(s:State)(m h:Nat): ∀ (l:List Nat) (b:Nat),inHands s m h l b=qd7 (Vbemai.hand s m) (between s m) h l b
 |[],_=>rfl
 |[a],_=>rfl
 |a::c::r,b=>by rw[inHands,qd7,qqk s m h (c::r) b]
theorem held_eq(s:State)(m h:Nat){a b:Nat}(hab:a<=b)(hi:Inc ((toldOf s m).map (·.1))): held s m h a b=qcb (between s m) h (qa7 b a 0 (toldOf s m)):=by
 unfold held;by_cases e:a<b
 ·rw[Je e,qqk,qye,qm4 _ _ _ _ _ _ hi e];exact qji fun x _=>qqd s m x
 ·have e:a=b:=by omega
  subst e;rw[Jc (Yd _)];unfold qcb;have z:∀ x∈qa7 a a 0 (toldOf s m),(if x.2.2=h then between s m x.1 x.2.1 else 0)=0:=fun x hx=>by
   have:=qh8 a _ a 0 (Jp _) x hx;have e1:x.1=a:=by omega
   have e2:x.2.1=a:=by omega
   rw[e1,e2];unfold between;split
   ·omega
   ·rfl
  have:∀ l:List (Nat×Nat×Nat),(∀ x∈l,(if x.2.2=h then between s m x.1 x.2.1 else 0)=0)->(l.map fun x=>if x.2.2=h then between s m x.1 x.2.1 else 0).sum=0:=by
   intro l;induction l with
   |nil=>intro _;rfl
   | cons x l ih=>
     intro hl;rw[Jq,Yx,hl x Jh,ih fun y hy=>hl y (Jm _ hy)];rfl
  exact(this _ z).symm
def signOf(k:Nat): Int:=if k=1 then 1 else if k=0 then -1 else 0
theorem sum_add{α:Type}(l:List α)(f g:α->Int): (l.map fun x=>f x+g x).sum=(l.map f).sum+(l.map g).sum:=by
 induction l with
 |nil=>rfl
 |cons x l ih=>simp only[Jq,Yx,ih];omega
theorem qn6{α:Type}(l:List α)(f g:α->Int): (l.map fun x=>f x-g x).sum=(l.map f).sum-(l.map g).sum:=by
 induction l with
 |nil=>rfl
 |cons x l ih=>simp only[Jq,Yx,ih];omega
theorem qn7{α:Type}(l:List α)(f:α->Int)(h:∀ x∈l,f x=0): (l.map f).sum=0:=by
 induction l with
 |nil=>rfl
 |cons x l ih=>rw[Jq,Yx,h x Jh,ih fun y hy=>h y (Jm _ hy)];rfl
theorem sum_filter{α:Type}(l:List α)(p:α->Bool)(f:α->Int): ((l.filter p).map f).sum=(l.map fun x=>if p x=true then f x else 0).sum:=by
 induction l with
 |nil=>rfl
 | cons x l ih=>
   rw[Xg];by_cases e:p x=true
   ·rw[Je e,Jq,Yx,ih,Jq,Yx,Je e]
   ·rw[Jc e,ih,Jq,Yx,Jc e];omega
theorem q9y{α β:Type}(l:List α)(k:List β)(f:α->β->Int): (l.map fun x=>(k.map fun y=>f x y).sum).sum=(k.map fun y=>(l.map fun x=>f x y).sum).sum:=by
 induction l with
 |nil=>simp;exact(qn7 k (fun _=>0) fun _ _=>rfl).symm
 |cons x l ih=>simp only[Jq,Yx,ih];rw[sum_add]
theorem qn5(z:Nat)(v:Int): ∀ n,((List.range n).map fun i=>if i=z then v else 0).sum=if z<n then v else 0
 | 0=>by simp
 | n+1=>by
   rw[Zu,Jv,Z7,qn5 z v n];simp only[Jq,Zv,Yx,List.sum_nil];by_cases h1:z<n
   ·rw[Je h1,Jc (by omega),Je (by omega)];omega
   ·by_cases h2:n=z
    ·rw[Jc h1,Je h2,Je (by omega)];omega
    ·rw[Jc h1,Jc h2,Jc (by omega)];rfl
theorem sum_map_congr{α:Type}{l:List α}{f g:α->Int}(h:∀ x∈l,f x=g x): (l.map f).sum=(l.map g).sum:=by
 rw[X8 h]
theorem q2n(s:State)(h a b:Nat)(hz:∀ m x,meter? s m=some x->x.zone<8):
  handNet s h a b=((numbers s).map fun m=>signOf (((meter? s m).map (·.kind)).getD 2)*held s m h a b).sum:=by
 unfold handNet sumOf handIn handOut sumOf those;have e:∀ z,(((numbers s).filter fun m=>(meter? s m).any fun x=>x.kind==1&&x.zone==z).map fun m=>held s m h a b).sum-(((numbers s).filter fun m=>(meter? s m).any fun x=>x.kind==0&&x.zone==z).map fun m=>held s m h a b).sum
   = ((numbers s).map fun m=>(if (meter? s m).any (fun x=>x.kind==1&&x.zone==z)=true then held s m h a b else 0)-(if (meter? s m).any (fun x=>x.kind==0&&x.zone==z)=true then held s m h a b else 0)).sum:=by
  intro z;rw[sum_filter,sum_filter,qn6]
 rw[sum_map_congr (fun z _=>e z),q9y];refine sum_map_congr fun m _=>?_;cases hm:meter? s m with
 | none=>
   rw[qn7]
   ·simp[signOf]
   ·intro z _;simp
 | some x=>
   have hx:x.zone<ZONES:=hz m x hm;simp only[Option.any_some,Option.map_some,Option.getD_some];have split:∀ (v:Int) (z:Nat),(if (x.zone==z)=true then v else 0)=if z=x.zone then v else 0:=fun v z=>by
    by_cases e:x.zone=z
    ·subst e;simp
    ·rw[Jc (by simpa using e),Jc (fun q=>e q.symm)]
   by_cases k1:x.kind=1
   ·have:∀ z∈List.range ZONES,((if (x.kind==1&&x.zone==z)=true then held s m h a b else 0)-(if (x.kind==0&&x.zone==z)=true then held s m h a b else 0))=if z=x.zone then held s m h a b else 0:=fun z _=>by
     rw[k1,<- split];simp
    rw[sum_map_congr this,qn5,Je hx];simp[signOf,k1]
   ·by_cases k0:x.kind=0
    ·have:∀ z∈List.range ZONES,((if (x.kind==1&&x.zone==z)=true then held s m h a b else 0)-(if (x.kind==0&&x.zone==z)=true then held s m h a b else 0))=if z=x.zone then -held s m h a b else 0:=fun z _=>by
      rw[k0,<- split];by_cases e:x.zone=z
      ·simp[e]
      ·simp[e]
     rw[sum_map_congr this,qn5,Je hx];simp[signOf,k0]
    ·rw[qn7]
     ·simp[signOf,k1,k0]
     ·intro z _;simp[k1,k0]
structure Qiy(d:Device): Prop where
 st:d.start<=10000
 v0:0<=d.value
 v1:d.value<10 ^ d.digits
 g0:1<=d.digits
 g1:d.digits<=9
 f0:1<=d.factor
 f1:d.factor<=10000
 fin:∀ e,d.finish=some e->e.1<=10000/\0<=e.2/\e.2<10 ^ d.digits
structure Qe6(P:Nat)(x:Meter): Prop where
 kind:x.kind<=2
 zone:x.zone<8
 zone2:x.zone2<8
 prof:x.profile<=P
 r0:0<=x.rate
 r1:x.rate<=1000000
 chain:Chain x.devices
 dl:x.devices.length<=8
 dev:∀ d∈x.devices,Qiy d
 zz:x.kind=2->x.zone≠x.zone2
structure Qkw(s:State)(r:Reading): Prop where
 m1:1<=r.meter
 dev:∃ x,s.meters[r.meter-1]?=some x/\∃ d∈x.devices,InD d r.at_
 tb:r.at_<=10000
 v0 : -1<=r.value
 v1:r.value<=999999999
 n0:1<=r.version
 n1:r.version<=1000000
structure AssOk(s:State)(a:Assign): Prop where
 m1:1<=a.meter
 m2:a.meter<=s.meters.length
 q:a.quarter<=9999
 h:a.hand<=32
structure Good(s:State): Prop where
 pl:s.profiles.length<=8
 pw:∀ p∈s.profiles,1<=p.length/\p.length<=96/\∀ w∈p,w<=1000
 ml:s.meters.length<=32
 mo:∀ x∈s.meters,Qe6 s.profiles.length x
 rs:s.readings.Pairwise fun x y=>before x y=true
 rl:s.readings.length<=256
 ro:∀ r∈s.readings,Qkw s r
 as:s.assigns.Pairwise fun x y=>beforeA x y=true
 al:s.assigns.length<=64
 ao:∀ a∈s.assigns,AssOk s a
 lk:s.locked<=10000
 pn:s.periods.length<=16
 pk:s.periods.Pairwise fun x y=>¬ (x.from_=y.from_/\x.to_=y.to_)
 po:∀ p∈s.periods,p.nets.length=33/\p.from_<=10000/\p.to_<=10000
theorem q2l:Good start:=
 ⟨X3 _,(fun _ h=>nomatch h),X3 _,(fun _ h=>nomatch h),List.Pairwise.nil,X3 _,(fun _ h=>nomatch h),List.Pairwise.nil,X3 _,(fun _ h=>nomatch h),X3 _,X3 _,List.Pairwise.nil,(fun _ h=>nomatch h)⟩
theorem qny(g:Meter->Meter): ∀ (i:Nat) (l:List Meter) (j:Nat),(setMeter g i l)[j]?=if j=i then (l[j]?).map g else l[j]?
 |i,[],j=>by unfold setMeter;cases i<;>simp
 | 0,x::l,0=>rfl
 | 0,x::l,j+1=>rfl
 |i+1,x::l,0=>rfl
 | i+1,x::l,j+1=>by
   show (setMeter g i l)[j]?=_;rw[qny g i l j];by_cases e:j=i
   ·simp[e]
   ·simp[e]
theorem qnz(g:Meter->Meter): ∀ (i:Nat) (l:List Meter),(setMeter g i l).length=l.length
 |i,[]=>by unfold setMeter;cases i<;>rfl
 | 0,x::l=>rfl
 |i+1,x::l=>by show (setMeter g i l).length+1=_;rw[qnz];rfl
theorem qe9(t:Nat)(v:Int)(d:Device): ∀ pre:List Device,ended t v (pre++[d])=pre++[{ d with finish:=some (t,v) }]
 |[]=>rfl
 |[x]=>rfl
 | x::y::pre=>by
   show x::ended t v ((y::pre)++[d])=_;rw[qe9 t v d (y::pre)];rfl
theorem qiq{α:Type}{l:List α}{d:α}(h:l.getLast?=some d): ∃ pre,l=pre++[d]:=by
 obtain⟨pre,e⟩:=List.getLast?_eq_some_iff.mp h;exact⟨pre,e⟩
theorem qi7{t:Nat}{v:Int}{d:Device}(ht:d.start<t): ∀ {pre:List Device},Chain (pre++[d])->Chain (pre++[{ d with finish:=some (t,v) }])
 |[],_=>by intro e he;cases he;exact ht
 |[x],h=>⟨h.1,h.2.1,qi7 (pre:=[]) ht h.2.2⟩
 |x::y::pre,h=>⟨h.1,h.2.1,qi7 (pre:=y::pre) ht h.2.2⟩
theorem qle{d n:Device}{v:Int}(hd:d.finish=some (n.start,v))(hn:n.finish=none): ∀ {pre:List Device},Chain (pre++[d])->Chain (pre++[d,n])
 |[],h=>⟨⟨v,hd⟩,h _ hd,by intro e he;rw[hn] at he;cases he⟩
 |[x],h=>⟨h.1,h.2.1,qle (pre:=[]) hd hn h.2.2⟩
 |x::y::pre,h=>⟨h.1,h.2.1,qle (pre:=y::pre) hd hn h.2.2⟩
theorem qk6{x y:Reading}: before x y=true↔x.meter<y.meter\/(x.meter=y.meter/\(x.at_<y.at_\/(x.at_=y.at_/\x.version<y.version))):=by
 unfold before;simp
theorem qw3{x y z:Reading}(h1:before x y=true)(h2:before y z=true): before x z=true:=by
 rw[qk6] at *;omega
theorem qw2{x y:Reading}(h:¬ before x y=true)(hne:¬ (y.meter=x.meter/\y.at_=x.at_/\y.version=x.version)): before y x=true:=by
 rw[qk6] at *;omega
theorem qid(x:Reading): ∀ l:List Reading,(putReading x l).Perm (x::l)
 |[]=>Z4 _
 | y::r=>by
   unfold putReading;split
   ·exact Z4 _
   ·exact((qid x r).cons y).trans (List.Perm.swap x y r)
theorem qsi(x:Reading): ∀ {l:List Reading},(l.Pairwise fun x y=>before x y=true)->(∀ y∈l,¬ (y.meter=x.meter/\y.at_=x.at_/\y.version=x.version))->(putReading x l).Pairwise fun x y=>before x y=true
 |[],_,_=>Zh _ _
 | y::r,h,hne=>by
   have h2:=Ju.mp h;unfold putReading;split
   ·rename_i e;refine Ju.mpr ⟨fun z hz=>?_,h⟩;rcases Jf.mp hz with q|q
    ·rw[q];exact e
    ·exact qw3 e (h2.1 z q)
   ·rename_i e;refine Ju.mpr ⟨fun z hz=>?_,qsi x h2.2 fun z hz=>hne z (Jm _ hz)⟩;rcases Jf.mp ((qid x r).mem_iff.mp hz) with q|q
    ·rw[q];exact qw2 e (hne y Jh)
    ·exact h2.1 z q
theorem qco{x y:Assign}: beforeA x y=true↔x.meter<y.meter\/(x.meter=y.meter/\x.quarter<y.quarter):=by
 unfold beforeA;simp
theorem qjz(x:Assign): ∀ {l:List Assign},(l.Pairwise fun x y=>beforeA x y=true)->∀ z,z∈putAssign x l↔z=x\/(z∈l/\¬ (z.meter=x.meter/\z.quarter=x.quarter))
 |[],_,z=>by unfold putAssign;simp
 | y::r,h,z=>by
   have h2:=Ju.mp h;unfold putAssign;split
   ·rename_i e;simp only[Jf];constructor
    ·rintro (q|q)
     ·exact .inl q
     ·have:=qco.mp (h2.1 z q);exact .inr ⟨.inr q,by omega⟩
    ·rintro (q|⟨q|q,n⟩)
     ·exact .inl q
     ·rw[q] at n;omega
     ·exact .inr q
   ·split
    ·rename_i e e2;have e2:=qco.mp e2;simp only[Jf];constructor
     ·rintro (q|q|q)
      ·exact .inl q
      ·exact .inr ⟨.inl q,by rw[q];omega⟩
      ·have:=qco.mp (h2.1 z q);exact .inr ⟨.inr q,by omega⟩
     ·rintro (q|⟨q|q,n⟩)
      ·exact .inl q
      ·exact .inr (.inl q)
      ·exact .inr (.inr q)
    ·rename_i e e2;simp only[Jf];rw[qjz x h2.2 z];constructor
     ·rintro (q|q|q)
      ·exact .inr ⟨.inl q,by rw[q];omega⟩
      ·exact .inl q
      ·exact .inr ⟨.inr q.1,q.2⟩
     ·rintro (q|⟨q|q,n⟩)
      ·exact .inr (.inl q)
      ·exact .inl q
      ·exact .inr (.inr ⟨q,n⟩)
theorem qsf(x:Assign): ∀ {l:List Assign},(l.Pairwise fun x y=>beforeA x y=true)->(putAssign x l).Pairwise fun x y=>beforeA x y=true
 |[],_=>Zh _ _
 | y::r,h=>by
   have h2:=Ju.mp h;unfold putAssign;split
   ·rename_i e;refine Ju.mpr ⟨fun z hz=>?_,h2.2⟩;have:=qco.mp (h2.1 z hz);rw[qco];omega
   ·split
    ·rename_i e e2;refine Ju.mpr ⟨fun z hz=>?_,h⟩;rcases Jf.mp hz with q|q
     ·rw[q];exact e2
     ·have a1:=qco.mp (h2.1 z q);have a2:=qco.mp e2;rw[qco];omega
    ·rename_i e e2;refine Ju.mpr ⟨fun z hz=>?_,qsf x h2.2⟩;rcases(qjz x h2.2 z).mp hz with q|q
     ·rw[q];rw[qco] at e2 ⊢;omega
     ·exact h2.1 z q.1
theorem qse(x:Assign): ∀ (l:List Assign),(l.Pairwise fun x y=>beforeA x y=true)->(putAssign x l).length=l.length+if l.any (fun a=>a.meter==x.meter&&a.quarter==x.quarter)=true then 0 else 1
 |[],_=>rfl
 | y::r,h=>by
   have h2:=Ju.mp h;unfold putAssign;rw[Y4];split
   ·rename_i e;have:(y.meter==x.meter&&y.quarter==x.quarter)=true:=by simp;omega
    rw[this];simp
   ·rename_i e;have ny:(y.meter==x.meter&&y.quarter==x.quarter)=false:=by
     rw[Wb];simp;omega
    rw[ny,Qz];split
    ·rename_i e2;have e2:=qco.mp e2;have:r.any (fun a=>a.meter==x.meter&&a.quarter==x.quarter)=false:=by
      rw[Wb];intro q;obtain⟨z,hz,e3⟩:=Y9.mp q;have a1:=qco.mp (h2.1 z hz);simp at e3;omega
     rw[this];simp
    ·rw[Jz,qse x r h2.2,Jz];omega
theorem Qe6.mono{P P':Nat}{x:Meter}(h:Qe6 P x)(hp:P<=P'): Qe6 P' x:=⟨h.kind,h.zone,h.zone2,Xd h.prof hp,h.r0,h.r1,h.chain,h.dl,h.dev,h.zz⟩
theorem q2g{s:State}{l:List Nat}(G:Good s)(h1:1<=l.length)(h2:l.length<=96)(h3:∀ w∈l,w<=1000)(h:s.profiles.length<8): Good { s with profiles:=s.profiles++[l] }:=by
 refine⟨by simp;omega,fun p hp=>?_,G.ml,fun x hx=>(G.mo x hx).mono (by simp),G.rs,G.rl,fun r hr=>?_,G.as,G.al,fun a ha=>?_,G.lk,G.pn,G.pk,G.po⟩
 ·rcases J4.mp hp with q|q
  ·exact G.pw p q
  ·rw[J3.mp q];exact⟨h1,h2,h3⟩
 ·have:=G.ro r hr;exact⟨this.m1,this.dev,this.tb,this.v0,this.v1,this.n0,this.n1⟩
 ·have:=G.ao a ha;exact⟨this.m1,this.m2,this.q,this.h⟩
theorem q2e{s:State}{x:Meter}(G:Good s)(hx:Qe6 s.profiles.length x)(h:s.meters.length<32): Good { s with meters:=s.meters++[x] }:=by
 refine⟨G.pl,G.pw,by simp;omega,fun y hy=>?_,G.rs,G.rl,fun r hr=>?_,G.as,G.al,fun a ha=>?_,G.lk,G.pn,G.pk,G.po⟩
 ·rcases J4.mp hy with q|q
  ·exact G.mo y q
  ·rw[J3.mp q];exact hx
 ·have:=G.ro r hr;obtain⟨y,hy,d⟩:=this.dev;refine⟨this.m1,⟨y,?_,d⟩,this.tb,this.v0,this.v1,this.n0,this.n1⟩;show (s.meters++[x])[r.meter-1]?=some y;rw[Wg (Ji.mp hy).1];exact hy
 ·have:=G.ao a ha;exact⟨this.m1,by show a.meter<=(s.meters++[x]).length;have:=this.m2;simp;omega,this.q,this.h⟩
theorem meter?_some{s:State}{m:Nat}{x:Meter}(h:meter? s m=some x): 1<=m/\s.meters[m-1]?=some x:=by
 unfold meter? at h;split at h
 ·cases h
 ·exact⟨by omega,h⟩
theorem Good.met{s:State}{m:Nat}{x:Meter}(G:Good s)(h:meter? s m=some x): Qe6 s.profiles.length x:=G.mo x (J0 (meter?_some h).2)
theorem qma{s:State}{m:Nat}{x:Meter}{g:Meter->Meter}(G:Good s)(hm:meter? s m=some x)(hx:Qe6 s.profiles.length (g x))
  (hr:∀ r∈s.readings,r.meter=m->∀ d∈x.devices,InD d r.at_->∃ d'∈(g x).devices,InD d' r.at_): Good (changed s m g):=by
 obtain⟨h1,h2⟩:=meter?_some hm;refine⟨G.pl,G.pw,by show (setMeter g (m-1) s.meters).length<=32;rw[qnz];exact G.ml,fun y hy=>?_,G.rs,G.rl,fun r hr'=>?_,G.as,G.al,fun a ha=>?_,G.lk,G.pn,G.pk,G.po⟩
 ·obtain⟨j,hj⟩:=Zw hy;have hj:(setMeter g (m-1) s.meters)[j]?=some y:=hj;rw[qny] at hj;split at hj
  ·rename_i e;rw[e,h2] at hj;cases hj;exact hx
  ·exact G.mo y (J0 hj)
 ·have R:=G.ro r hr';obtain⟨y,hy,d,hd,hi⟩:=R.dev;refine⟨R.m1,?_,R.tb,R.v0,R.v1,R.n0,R.n1⟩;show ∃ x,(setMeter g (m-1) s.meters)[r.meter-1]?=some x/\_;rw[qny];by_cases e:r.meter=m
  ·rw[Je (by omega),e,h2];rw[e,h2] at hy;cases hy;exact⟨g x,rfl,hr r hr' e d hd hi⟩
  ·have:=R.m1;rw[Jc (by omega)];exact⟨y,hy,d,hd,hi⟩
 ·have A:=G.ao a ha;exact⟨A.m1,by show a.meter<=(setMeter g (m-1) s.meters).length;rw[qnz];exact A.m2,A.q,A.h⟩
theorem q2i{s:State}{m:Nat}{x:Meter}{r:Int}(G:Good s)(hm:meter? s m=some x)(h0:0<=r)(h1:r<=1000000): Good (changed s m fun x=>{ x with rate:=r }):=by
 have X:=G.met hm;exact qma G hm ⟨X.kind,X.zone,X.zone2,X.prof,h0,h1,X.chain,X.dl,X.dev,X.zz⟩ fun _ _ _ d hd hi=>⟨d,hd,hi⟩
theorem q2j{s:State}{m t n:Nat}{v:Int}{x:Meter}{d:Device}(G:Good s)(hm:meter? s m=some x)(ht:t<=10000)(n0:1<=n)(n1:n<=1000000)(v0 : -1<=v)(v1:v<=999999999)
  (hd:x.devices.find? (within t)=some d)(hno:s.readings.any (fun r=>r.meter==m&&(r.at_==t&&r.version==n))=false)(hl:s.readings.length<256): Good { s with readings:=putReading ⟨m,t,n,v⟩ s.readings }:=by
 obtain⟨h1,h2⟩:=meter?_some hm;have hin:InD d t:=by
  have hw:=List.find?_some hd;unfold within at hw;rw[Jw] at hw;refine⟨by simpa using hw.1,fun e he=>?_⟩;have:=hw.2;rw[he] at this;simpa using this
 have hR:Qkw s ⟨m,t,n,v⟩:=⟨h1,⟨x,h2,d,List.mem_of_find?_eq_some hd,hin⟩,ht,v0,v1,n0,n1⟩
 have P:=qid ⟨m,t,n,v⟩ s.readings;refine⟨G.pl,G.pw,G.ml,G.mo,qsi _ G.rs fun y hy q=>?_,by show (putReading _ s.readings).length<=256;rw[P.length_eq];simp;omega,fun r hr=>?_,G.as,G.al,fun a ha=>?_,G.lk,G.pn,G.pk,G.po⟩
 ·rw[List.any_eq_false] at hno;exact hno y hy (by simp;exact q)
 ·have R:Qkw s r:=by
   rcases Jf.mp (P.mem_iff.mp hr) with q|q
   ·rw[q];exact hR
   ·exact G.ro r q
  exact⟨R.m1,R.dev,R.tb,R.v0,R.v1,R.n0,R.n1⟩
 ·have:=G.ao a ha;exact⟨this.m1,this.m2,this.q,this.h⟩
theorem qq8{x:Meter}(hc:Chain x.devices): ∃ pre d,x.devices=pre++[d]/\lastDevice x=some d:=by
 cases e:x.devices.getLast? with
 |none=>rw[List.getLast?_eq_none_iff] at e;rw[e] at hc;exact hc.elim
 | some d=>
   obtain⟨pre,q⟩:=qiq e;exact⟨pre,d,q,e⟩
theorem qrr{s:State}{m t:Nat}{v:Int}{x:Meter}(h:noEnd s m x t v=none)(hc:Chain x.devices):
  ∃ pre d,x.devices=pre++[d]/\d.finish=none/\d.start<t/\(∀ r∈s.readings,r.meter=m->r.at_<t)/\v<10 ^ d.digits:=by
 obtain⟨pre,d,e1,e2⟩:=qq8 hc;unfold noEnd at h;split at h
 ·cases h
 ·split at h
  ·cases h
  ·rename_i n6;split at h
   ·cases h
   ·rename_i n9;split at h
    ·cases h
    ·rename_i n7;rw[e2] at n6 n7;unfold isOut at n6;rw[e2] at n6;simp at n6 n7;refine⟨pre,d,e1,?_,by omega,fun r hr hm=>?_,?_⟩
     ·cases q:d.finish with
      |none=>rfl
      |some y=>rw[q] at n6;simp at n6
     ·simp at n9;have:=n9 r (by unfold readingsOf;rw[J2];exact⟨hr,by simpa using hm⟩);omega
     ·unfold shows at n7;simpa using n7
theorem qqj{d:Device}{t u:Nat}{v:Int}(h:InD d u)(hu:u<t): InD { d with finish:=some (t,v) } u:=⟨h.1,fun e he=>by cases he;exact hu⟩
theorem qpq{d:Device}{t:Nat}{v:Int}(D:Qiy d)(ht:t<=10000)(v0:0<=v)(hv:v<10 ^ d.digits): Qiy { d with finish:=some (t,v) }:=
 ⟨D.st,D.v0,D.v1,D.g0,D.g1,D.f0,D.f1,fun e he=>by cases he;exact⟨ht,v0,hv⟩⟩
theorem q2k{s:State}{m t:Nat}{v:Int}{x:Meter}(G:Good s)(hm:meter? s m=some x)(hn:noEnd s m x t v=none)(ht:t<=10000)(v0:0<=v):
  Good (changed s m fun x=>{ x with devices:=ended t v x.devices }):=by
 have X:=G.met hm;obtain⟨pre,d,e,hf,hlt,hr,hv⟩:=qrr hn X.chain;have hd:=X.dev d (by rw[e];simp);refine qma G hm ⟨X.kind,X.zone,X.zone2,X.prof,X.r0,X.r1,?_,?_,?_,X.zz⟩ fun r hr' hm' y hy hi=>?_
 ·show Chain (ended t v x.devices);rw[e,qe9];have:=X.chain;rw[e] at this;exact qi7 hlt this
 ·show (ended t v x.devices).length<=8;have:=X.dl;rw[e] at this ⊢;rw[qe9];simpa using this
 ·intro y hy;have hy:y∈ended t v x.devices:=hy;rw[e,qe9] at hy;rcases J4.mp hy with q|q
  ·exact X.dev y (by rw[e];exact Zx _ q)
  ·rw[J3.mp q];exact qpq hd ht v0 hv
 ·show ∃ d'∈ended t v x.devices,_;rw[e,qe9];rw[e] at hy;rcases J4.mp hy with q|q
  ·exact⟨y,Zx _ q,hi⟩
  ·refine⟨_,Ye _ (J3.mpr rfl),?_⟩;rw[J3.mp q] at hi;exact qqj hi (hr r hr' hm')
theorem q2m{s:State}{m t:Nat}{v:Int}{x:Meter}{n:Device}(G:Good s)(hm:meter? s m=some x)(hn:noEnd s m x t v=none)(ht:t<=10000)(v0:0<=v)
  (hs:n.start=t)(hnf:n.finish=none)(hN:Qiy n)(hl:x.devices.length<8):
  Good (changed s m fun x=>{ x with devices:=ended t v x.devices++[n] }):=by
 have X:=G.met hm;obtain⟨pre,d,e,hf,hlt,hr,hv⟩:=qrr hn X.chain;have hd:=X.dev d (by rw[e];simp);have ee:ended t v x.devices++[n]=pre++[{ d with finish:=some (t,v) },n]:=by rw[e,qe9,Yv];rfl
 refine qma G hm ⟨X.kind,X.zone,X.zone2,X.prof,X.r0,X.r1,?_,?_,?_,X.zz⟩ fun r hr' hm' y hy hi=>?_
 ·show Chain (ended t v x.devices++[n]);rw[ee];have:=X.chain;rw[e] at this;exact qle (v:=v) (by rw[hs]) hnf (qi7 hlt this)
 ·show (ended t v x.devices++[n]).length<=8;rw[ee];rw[e] at hl;simp at hl ⊢;omega
 ·intro y hy;have hy:y∈ended t v x.devices++[n]:=hy;rw[ee] at hy;rcases J4.mp hy with q|q
  ·exact X.dev y (by rw[e];exact Zx _ q)
  ·rcases Jf.mp q with q|q
   ·rw[q];exact qpq hd ht v0 hv
   ·rw[J3.mp q];exact hN
 ·show ∃ d'∈ended t v x.devices++[n],_;rw[ee];rw[e] at hy;rcases J4.mp hy with q|q
  ·exact⟨y,Zx _ q,hi⟩
  ·refine⟨_,Ye _ Jh,?_⟩;rw[J3.mp q] at hi;exact qqj hi (hr r hr' hm')
theorem q2c{s:State}{m q h:Nat}{x:Meter}(G:Good s)(hm:meter? s m=some x)(hq:q<=9999)(hh:h<=32)
  (hl:¬ (64<=s.assigns.length/\s.assigns.any (fun a=>a.meter==m&&a.quarter==q)=false)): Good { s with assigns:=putAssign ⟨m,q,h⟩ s.assigns }:=by
 obtain⟨h1,h2⟩:=meter?_some hm;have hlt:=(Ji.mp h2).1;refine⟨G.pl,G.pw,G.ml,G.mo,G.rs,G.rl,fun r hr=>?_,qsf _ G.as,?_,fun a ha=>?_,G.lk,G.pn,G.pk,G.po⟩
 ·have:=G.ro r hr;exact⟨this.m1,this.dev,this.tb,this.v0,this.v1,this.n0,this.n1⟩
 ·show (putAssign ⟨m,q,h⟩ s.assigns).length<=64;rw[qse _ _ G.as];have:=G.al;cases e:s.assigns.any (fun a=>a.meter==m&&a.quarter==q) with
  |true=>rw[Je rfl];omega
  | false=>
    rw[Jc (by decide)];have:s.assigns.length<64:=by
     rcases Nat.lt_or_ge s.assigns.length 64 with z|z
     ·exact z
     ·exact absurd ⟨z,e⟩ hl
    omega
 ·rcases(qjz _ G.as a).mp ha with z|z
  ·rw[z];exact⟨h1,by show m<=s.meters.length;omega,hq,hh⟩
  ·have:=G.ao a z.1;exact⟨this.m1,this.m2,this.q,this.h⟩
theorem q2f{s:State}{t:Nat}(G:Good s)(ht:t<=10000): Good { s with locked:=t }:=
 ⟨G.pl,G.pw,G.ml,G.mo,G.rs,G.rl,fun r hr=>by have:=G.ro r hr;exact⟨this.m1,this.dev,this.tb,this.v0,this.v1,this.n0,this.n1⟩,G.as,G.al,fun a ha=>by have:=G.ao a ha;exact⟨this.m1,this.m2,this.q,this.h⟩,ht,G.pn,G.pk,G.po⟩
theorem qnd(x:Period): ∀ (l:List Period),∀ z∈putPeriod x l,z=x\/z∈l
 |[],z,h=>.inl (J3.mp h)
 | y::r,z,h=>by
   unfold putPeriod at h;split at h
   ·rcases Jf.mp h with q|q
    ·exact .inl q
    ·exact .inr (Jm _ q)
   ·rcases Jf.mp h with q|q
    ·exact .inr (by rw[q];exact Jh)
    ·rcases qnd x r z q with p|p
     ·exact .inl p
     ·exact .inr (Jm _ p)
theorem qsg(x:Period): ∀ {l:List Period},(l.Pairwise fun x y=>¬ (x.from_=y.from_/\x.to_=y.to_))->(putPeriod x l).Pairwise fun x y=>¬ (x.from_=y.from_/\x.to_=y.to_)
 |[],_=>Zh _ _
 | y::r,h=>by
   have h2:=Ju.mp h;unfold putPeriod;split
   ·rename_i e;refine Ju.mpr ⟨fun z hz=>?_,h2.2⟩;rw[e.1,e.2];exact h2.1 z hz
   ·rename_i e;refine Ju.mpr ⟨fun z hz=>?_,qsg x h2.2⟩;rcases qnd x r z hz with q|q
    ·rw[q];omega
    ·exact h2.1 z q
theorem qsh(x:Period): ∀ (l:List Period),(putPeriod x l).length=l.length+if (l.find? fun p=>p.from_==x.from_&&p.to_==x.to_).isSome=true then 0 else 1
 |[]=>rfl
 | y::r=>by
   unfold putPeriod;rw[Yg];split
   ·rename_i e;have:(y.from_==x.from_&&y.to_==x.to_)=true:=by simp;omega
    rw[this];simp
   ·rename_i e;have:(y.from_==x.from_&&y.to_==x.to_)=false:=by rw[Wb];simp;omega
    rw[this];show (putPeriod x r).length+1=r.length+1+_;rw[qsh x r];dsimp only;omega
theorem q2h{s:State}{a b:Nat}{n:List Int}(G:Good s)(ha:a<=10000)(hb:b<=10000)(hn:n.length=33)(hl:¬ (16<=s.periods.length/\(lastNets s a b).isNone=true)): Good { s with periods:=putPeriod ⟨a,b,n⟩ s.periods }:=by
 refine⟨G.pl,G.pw,G.ml,G.mo,G.rs,G.rl,fun r hr=>by have:=G.ro r hr;exact⟨this.m1,this.dev,this.tb,this.v0,this.v1,this.n0,this.n1⟩,G.as,G.al,fun a ha=>by have:=G.ao a ha;exact⟨this.m1,this.m2,this.q,this.h⟩,G.lk,?_,qsg _ G.pk,fun p hp=>?_⟩
 ·show (putPeriod ⟨a,b,n⟩ s.periods).length<=16;rw[qsh];have:=G.pn;unfold lastNets at hl;cases e:s.periods.find? (fun p=>p.from_==a&&p.to_==b) with
  | none=>
    rw[e] at hl;have:s.periods.length<16:=by
     rcases Nat.lt_or_ge s.periods.length 16 with z|z
     ·exact z
     ·exact absurd ⟨z,rfl⟩ hl
    split<;>omega
  | some p=>
    rw[Je (show (some p).isSome=true from rfl)];omega
 ·rcases qnd _ _ p hp with q|q
  ·rw[q];exact⟨hn,ha,hb⟩
  ·exact G.po p q
abbrev Rds:=List (Nat×List (Nat×Int))
def qa5(rd:Rds)(t:Nat): List (Nat×Int):=(rd.lookup t).getD []
structure Qdb(rd:Rds)(l:List Reading): Prop where
 nd:(rd.map (·.1)).Nodup
 ne:∀ e∈rd,e.2≠[]
 rel:∀ t,(qa5 rd t).Perm ((atT t l).map fun r=>(r.version,r.value))
theorem qk4{l:List Reading}(h:l.Pairwise RLt)(t:Nat): ((atT t l).map (·.version)).Pairwise (· < ·):=by
 have h1:(atT t l).Pairwise RLt:=h.sublist Wn;rw[U3];refine Uo (fun {a b} ha hb hab=>?_) h1;have e1:a.at_=t:=by simpa using (J2.mp ha).2
 have e2:b.at_=t:=by simpa using (J2.mp hb).2
 rcases hab with z|z
 ·omega
 ·exact z.2
theorem qqc:∀ {l:List Reading} {m:Nat},(l.map (·.version)).Pairwise (· < ·)->m∈l.map (·.version)->(∀ k∈l.map (·.version),k<=m)->∃ r,l.getLast?=some r/\r.version=m
 |[],_,_,h,_=>by cases h
 |[r],m,_,h,_=>⟨r,rfl,by simpa using Eq.symm (J3.mp h)⟩
 | r::q::l,m,hp,h,hm=>by
   rw[Jq] at hp h hm;have hp2:=Ju.mp hp;have hq:q.version∈(q::l).map (·.version):=by simp
   have hne:m≠r.version:=fun e=>by
    have h1:=hp2.1 _ hq;have h2:=hm _ (Jm _ hq);omega
   rcases Jf.mp h with e|h
   ·exact absurd e hne
   ·obtain⟨z,e1,e2⟩:=qqc hp2.2 h fun k hk=>hm k (Jm _ hk);exact⟨z,by rw[Xu];exact e1,e2⟩
theorem q5l{vs ws:List (Nat×Int)}(h:vs.Perm ws)(n:(ws.map (·.1)).Nodup): (vs.map (·.1)).Nodup:=(h.map (·.1)).nodup_iff.mpr n
theorem qv8{rd:Rds}{l:List Reading}(R:Qdb rd l)(hl:l.Pairwise RLt)(t:Nat): ((qa5 rd t).map (·.1)).Nodup:=by
 refine q5l (R.rel t) ?_;rw[Xy];have:=qk4 hl t;exact(show ((atT t l).map (·.version)).Nodup from this.imp fun h=>Xl h)
theorem q9t{rd:Rds}{l:List Reading}(R:Qdb rd l)(hl:l.Pairwise RLt){t m:Nat}(h1:m∈(qa5 rd t).map (·.1))(h2:∀ k∈(qa5 rd t).map (·.1),k<=m):
  ∃ r,(atT t l).getLast?=some r/\r.version=m/\(qa5 rd t).lookup m=some r.value:=by
 have P:=R.rel t;have P1:=P.map (·.1);rw[Xy] at P1;have P1:((qa5 rd t).map (·.1)).Perm ((atT t l).map (·.version)):=P1;obtain⟨r,e1,e2⟩:=qqc (qk4 hl t) (P1.mem_iff.mp h1) fun k hk=>h2 k (P1.mem_iff.mpr hk);refine⟨r,e1,e2,(lookup_mem (qv8 R hl t)).mpr (P.mem_iff.mpr ?_)⟩;exact Jk.mpr ⟨r,Zg e1,by rw[e2]⟩
theorem qv9{rd:Rds}{l:List Reading}(R:Qdb rd l)(t:Nat): qa5 rd t=[]↔atT t l=[]:=by
 have P:=R.rel t;constructor
 ·intro e;rw[e] at P;simpa using P.symm.eq_nil
 ·intro e;rw[e] at P;exact P.eq_nil
theorem qjj{rd:Rds}{l:List Reading}(R:Qdb rd l)(t:Nat): t∈rd.map (·.1)↔∃ r∈l,r.at_=t:=by
 have h0:t∈rd.map (·.1)↔qa5 rd t≠[]:=by
  constructor
  ·intro h;obtain⟨e,he,rfl⟩:=Jk.mp h;have:rd.lookup e.1=some e.2:=(lookup_mem R.nd).mpr he;unfold qa5;rw[this];exact R.ne e he
  ·intro h;unfold qa5 at h;cases q:rd.lookup t with
   |none=>rw[q] at h;exact absurd rfl h
   |some vs=>exact Jk.mpr ⟨(t,vs),(lookup_mem R.nd).mp q,rfl⟩
 rw[h0,ne_eq,qv9 R t];constructor
 ·intro h;obtain⟨r,hr⟩:=List.exists_mem_of_ne_nil _ h;have:=J2.mp hr;exact⟨r,this.1,by simpa using this.2⟩
 ·rintro ⟨r,hr,e⟩ h;have:r∈atT t l:=J2.mpr ⟨hr,by simpa using e⟩;rw[h] at this;cases this
theorem q3d{rd:Rds}{l:List Reading}{ds:List Device}(R:Qdb rd l)(hl:l.Pairwise RLt)(hc:Chain ds)(hin:∀ r∈l,∃ d∈ds,InD d r.at_):
  (ds.map (·.start)++(rd.map (·.1)).filter (fun t=>((standing l).lookup t).isSome)++((endOf ds).map (·.1)).toList).Perm (bounds (standing l) ds):=by
 have hs:=qn3 hl;have hst:∀ t,t∈(standing l).map (·.1)↔t∈(rd.map (·.1)).filter (fun t=>((standing l).lookup t).isSome):=fun t=>by
  rw[J2];have hlk:((standing l).lookup t).isSome=true↔t∈(standing l).map (·.1):=by
   constructor
   ·intro h;obtain⟨x,hx⟩:=Up.mp h;exact Jk.mpr ⟨(t,x),(lookup_mem hs.nodup).mp hx,rfl⟩
   ·intro h;obtain⟨e,he,rfl⟩:=Jk.mp h;rw[(lookup_mem hs.nodup).mpr he];rfl
  constructor
  ·intro h;refine⟨(qjj R t).mpr ?_,hlk.mpr h⟩;obtain⟨e,he,rfl⟩:=Jk.mp h;exact qhb e he
  ·intro h;exact hlk.mp h.2
 have hin':∀ t∈(standing l).map (·.1),∃ d∈ds,InD d t:=fun t ht=>by
  obtain⟨e,he,rfl⟩:=Jk.mp ht;obtain⟨r,hr,er⟩:=qhb e he;obtain⟨d,hd,hi⟩:=hin r hr;exact⟨d,hd,er ▸ hi⟩
 have hnd:(ds.map (·.start)++(rd.map (·.1)).filter (fun t=>((standing l).lookup t).isSome)++((endOf ds).map (·.1)).toList).Nodup:=by
  rw[Yv,Zi];refine⟨hc.inc.nodup,?_,?_⟩
  ·rw[Zi];refine⟨R.nd.sublist Wn,?_,?_⟩
   ·cases endOf ds<;>simp
   ·intro a ha b hb e;subst e;obtain⟨d,hd,hi⟩:=hin' a ((hst a).mpr ha);cases q:endOf ds with
    |none=>rw[q] at hb;simp at hb
    | some x=>
      rw[q] at hb;have hb:a=x.1:=by simpa using hb
      have:=hc.qms hd hi q;omega
  ·intro a ha b hb e;subst e;obtain⟨d',hd',rfl⟩:=Jk.mp ha;rcases J4.mp hb with q|q
   ·obtain⟨d,hd,hi⟩:=hin' _ ((hst _).mpr q);exact hc.qrn hd hd' hi rfl
   ·cases z:endOf ds with
    |none=>rw[z] at q;simp at q
    | some x=>
      rw[z] at q;have q:d'.start=x.1:=by simpa using q
      have:=hc.qhc z d' hd';omega
 refine(List.perm_ext_iff_of_nodup hnd (qk9 hs hc).nodup).mpr fun t=>?_;rw[qmt hc hin' t,J4,J4,hst t];constructor
 ·rintro ((h|h)|h)
  ·exact .inl h
  ·exact .inr (.inl h)
  ·cases z:endOf ds with
   |none=>rw[z] at h;simp at h
   | some x=>
     rw[z] at h;have h:t=x.1:=by simpa using h
     exact .inr (.inr ⟨x.2,by rw[h]⟩)
 ·rintro (h|h|⟨v,h⟩)
  ·exact .inl (.inl h)
  ·exact .inl (.inr h)
  ·exact .inr (by rw[h];simp)
theorem qg5{s:State}(G:Good s)(m:Nat): (readingsOf s m).Pairwise RLt:=by
 unfold readingsOf;have h:=G.rs.sublist (Wn (p:=fun r:Reading=>r.meter==m));refine Uo (fun {a b} ha hb hab=>?_) h;have e1:a.meter=m:=by simpa using (J2.mp ha).2
 have e2:b.meter=m:=by simpa using (J2.mp hb).2
 have:=qk6.mp hab;unfold RLt;omega
theorem qsl{s:State}(G:Good s){m:Nat}{x:Meter}(hm:meter? s m=some x): ∀ r∈readingsOf s m,∃ d∈x.devices,InD d r.at_:=fun r hr=>by
 have h:=J2.mp hr;have e:r.meter=m:=by simpa using h.2
 obtain⟨y,hy,d⟩:=(G.ro r h.1).dev;rw[e,(meter?_some hm).2] at hy;cases hy;exact d
theorem qis{s:State}(G:Good s)(m:Nat): Inc ((toldOf s m).map (·.1)):=by
 unfold toldOf;rw[Xy,Inc,U3];have h:=G.as.sublist (Wn (p:=fun r:Assign=>r.meter==m));refine Uo (fun {a b} ha hb hab=>?_) h;have e1:a.meter=m:=by simpa using (J2.mp ha).2
 have e2:b.meter=m:=by simpa using (J2.mp hb).2
 have:=qco.mp hab;show a.quarter<b.quarter;omega
def tab(f:Nat->Int): List Int:=(List.range 33).map f
theorem qkm(f:Nat->Int): (tab f).length=33:=by unfold tab;simp
theorem qoa(f:Nat->Int){h:Nat}(hh:h<33): (tab f)[h]?=some (f h):=by
 unfold tab;rw[Jt,List.getElem?_range hh];rfl
theorem q90{f g:Nat->Int}(h:∀ k,k<33->f k=g k): tab f=tab g:=by
 unfold tab;exact X8 fun k hk=>h k (List.mem_range.mp hk)
theorem q91(f:Nat->Int){h:Nat}(hh:h<33)(v:Int): (tab f).set h (f h+v)=tab fun k=>f k+if k=h then v else 0:=by
 refine List.ext_getElem? fun i=>?_;by_cases hi:i<33
 ·rw[qoa _ hi];by_cases e:i=h
  ·subst e;rw[Zp (by rw[qkm];exact hi),Je rfl]
  ·rw[Zy (fun z=>e z.symm),qoa _ hi,Jc e];congr 1;omega
 ·rw[Yn (by rw[Uh,qkm];omega),Yn (by rw[qkm];omega)]
theorem q92:List.replicate 33 (0:Int)=tab fun _=>0:=by
 unfold tab;refine List.ext_getElem? fun i=>?_;by_cases hi:i<33
 ·rw[Jt,List.getElem?_range hi,Ux,Je hi];rfl
 ·rw[Yn (by simpa using hi),Yn (by simpa using hi)]
theorem q46(g:Nat->Nat->Int)(h:Nat)(l:List (Nat×Nat×Nat))(x:Nat×Nat×Nat): qcb g h (l++[x])=qcb g h l+if x.2.2=h then g x.1 x.2.1 else 0:=by
 unfold qcb;rw[Jv,Z7];simp
theorem q4s(f:Nat->Int)(sg:Int)(g:Nat->Nat->Int)(l:List (Nat×Nat×Nat))(x:Nat×Nat×Nat)(hx:x.2.2<33):
  (tab fun h=>f h+sg*qcb g h l).set x.2.2 (f x.2.2+sg*qcb g x.2.2 l+sg*g x.1 x.2.1)=tab fun h=>f h+sg*qcb g h (l++[x]):=by
 rw[q91 _ hx];refine q90 fun k _=>?_;rw[q46];by_cases e:k=x.2.2
 ·rw[Je e,Je e.symm,Int.mul_add];omega
 ·rw[Jc e,Jc (fun z=>e z.symm)];simp
def qc3(s:State)(a b k h:Nat): Int:=((List.range k).map fun i=>signOf (((s.meters[i]?).map (·.kind)).getD 2)*held s (i+1) h a b).sum
theorem q4r(s:State)(a b k h:Nat): qc3 s a b (k+1) h=qc3 s a b k h+signOf (((s.meters[k]?).map (·.kind)).getD 2)*held s (k+1) h a b:=by
 unfold qc3;rw[Zu,Jv,Z7];simp
theorem q4q{s:State}(G:Good s)(a b:Nat): netsOf s a b=tab (qc3 s a b s.meters.length):=by
 unfold netsOf tab;refine X8 fun h _=>?_;rw[q2n s h a b fun m x hm=>(G.met hm).zone];unfold qc3 numbers;rw[Xy];refine sum_map_congr fun i _=>?_;show signOf (((meter? s (i+1)).map (·.kind)).getD 2)*held s (i+1) h a b=_;rfl
def qew(l:List Int)(i:Nat): List Int:=(((List.range i).zip (l.take i)).filterMap fun x=>if x.2=0 then none else some [nat x.1,x.2]).flatten
theorem zbb(l:List Int): ∀ {i:Nat},i<l.length->(List.range (i+1)).zip (l.take (i+1))=(List.range i).zip (l.take i)++[(i,(l[i]?).getD 0)]:=fun {i} h=>by
 rw[Zu,Xq,Jo h];rw[List.zip_append (by simp;omega)];rfl
theorem q3n(l:List Int){i:Nat}{v:Int}(h:l[i]?=some v): qew l (i+1)=qew l i++if v=0 then [] else [(i:Int),v]:=by
 have hi:=(Ji.mp h).1;unfold qew;rw[zbb l hi,List.filterMap_append,Wo,h];by_cases e:v=0
 ·subst e;simp
 ·simp[e];rfl
theorem q96(l:List Int): told l=((l.filter fun x=>decide (x≠0)).length:Int)::qew l l.length:=by
 unfold told rows qew;rw[Xh];congr 1;have key:∀ (k:List Int) (z:List Nat),z.length=k.length->((z.zip k).filterMap fun x=>if x.2=0 then none else some [nat x.1,x.2]).length=(k.filter fun x=>decide (x≠0)).length:=by
  intro k;induction k with
  |nil=>intro z hz;cases z<;>simp
  | cons a k ih=>
    intro z hz;cases z with
    |nil=>simp at hz
    | cons b z=>
      have hz':z.length=k.length:=by simpa using hz
      rw[List.zip_cons_cons,Uc,Xg];by_cases e:a=0
      ·simp only[e,Wh];simpa using ih z hz'
      ·simp only[e,X9];have:=ih z hz';simp only[e,ne_eq,Zj,decide_true,Wh,Jz];simpa using this
 show ((_:Nat):Int)=_;rw[key l _ (by simp)]
theorem qpa{f:Nat}{p:Int}{r:List Int}{cs:List (List (List Int))}(h:PyFlat.calls PyVbemai.shape f (p::r)=some cs):
  ∃ c t cs' f',PyFlat.call PyVbemai.shape (p::r)=some (c,t)/\cs=c::cs'/\PyFlat.calls PyVbemai.shape f' t=some cs':=by
 cases f with
 |zero=>simp[PyFlat.calls] at h
 | succ f=>
   rw[PyFlat.calls] at h;cases e:PyFlat.call PyVbemai.shape (p::r) with
   |none=>rw[e] at h;simp at h
   | some x=>
     obtain⟨c,t⟩:=x;rw[e] at h;dsimp only at h;cases e2:PyFlat.calls PyVbemai.shape f t with
     |none=>rw[e2] at h;simp at h
     | some cs'=>
       rw[e2] at h;exact⟨c,t,cs',f,rfl,(Jj h).symm,e2⟩
theorem qpb{f:Nat}{cs:List (List (List Int))}(h:PyFlat.calls PyVbemai.shape f []=some cs): cs=[]:=by
 cases f<;>simp[PyFlat.calls] at h<;>exact h
theorem call_plain{p:Int}{n:Nat}{r:List Int}{c:List (List Int)}{t:List Int}(hs:PyVbemai.shape p=some (n,0))(h:PyFlat.call PyVbemai.shape (p::r)=some (c,t)): n<=r.length/\c=[p::r.take n]/\t=r.drop n:=by
 rw[PyFlat.call,hs] at h;dsimp only at h;split at h
 ·cases h
 ·rename_i hl;rw[PyFlat.rows] at h;cases h;exact⟨by omega,rfl,rfl⟩
theorem qo9{r:List Int}{c:List (List Int)}{t:List Int}(h:PyFlat.call PyVbemai.shape (0::r)=some (c,t)): ∃ (n:Nat) (r':List Int),r=(n:Int)::r'/\n<=r'.length/\c=[[0],r'.take n]/\t=r'.drop n:=by
 have hs:PyVbemai.shape 0=some (0,1):=rfl;rw[PyFlat.call,hs] at h;dsimp only at h;rw[Jc (by omega),List.drop_zero,List.take_zero] at h;rw[PyFlat.rows] at h;cases r with
 |nil=>simp[PyFlat.row] at h
 | cons z r'=>
   rw[PyFlat.row] at h;by_cases hz:0<=z/\z.toNat<=r'.length
   ·rw[Je hz] at h;simp only[PyFlat.rows] at h;cases h;refine⟨z.toNat,r',?_,hz.2,rfl,rfl⟩;congr 1;omega
   ·rw[Jc hz] at h;simp at h
theorem tk{n:Nat}{r:List Int}(h:n+1<=r.length): ∃ x r',r=x::r'/\n<=r'.length:=by
 cases r with
 |nil=>simp at h
 |cons x r'=>exact⟨x,r',rfl,by simpa using h⟩
theorem zay{l:List Int}{c:List (List Int)}{t:List Int}(h:PyFlat.call PyVbemai.shape l=some (c,t)): PyVbemai.whole c=c:=by
 cases l with
 |nil=>cases h
 | cons p r=>
   by_cases e0:p=0
   ·subst e0;obtain⟨n,r',rfl,_,rfl,rfl⟩:=qo9 h;rfl
   by_cases e1:p=1
   ·subst e1;obtain⟨hl,rfl,rfl⟩:=call_plain (n:=9) rfl h;(repeat (obtain⟨_,_,rfl,hk⟩:=tk hl;clear hl;have hl:=hk;clear hk));rfl
   by_cases e2:p=2
   ·subst e2;obtain⟨hl,rfl,rfl⟩:=call_plain (n:=4) rfl h;(repeat (obtain⟨_,_,rfl,hk⟩:=tk hl;clear hl;have hl:=hk;clear hk));rfl
   by_cases e3:p=3
   ·subst e3;obtain⟨hl,rfl,rfl⟩:=call_plain (n:=6) rfl h;(repeat (obtain⟨_,_,rfl,hk⟩:=tk hl;clear hl;have hl:=hk;clear hk));rfl
   by_cases e4:p=4
   ·subst e4;obtain⟨hl,rfl,rfl⟩:=call_plain (n:=3) rfl h;(repeat (obtain⟨_,_,rfl,hk⟩:=tk hl;clear hl;have hl:=hk;clear hk));rfl
   by_cases e5:p=5
   ·subst e5;obtain⟨hl,rfl,rfl⟩:=call_plain (n:=2) rfl h;(repeat (obtain⟨_,_,rfl,hk⟩:=tk hl;clear hl;have hl:=hk;clear hk));rfl
   by_cases e6:p=6
   ·subst e6;obtain⟨hl,rfl,rfl⟩:=call_plain (n:=3) rfl h;(repeat (obtain⟨_,_,rfl,hk⟩:=tk hl;clear hl;have hl:=hk;clear hk));rfl
   by_cases e7:p=7
   ·subst e7;obtain⟨hl,rfl,rfl⟩:=call_plain (n:=1) rfl h;(repeat (obtain⟨_,_,rfl,hk⟩:=tk hl;clear hl;have hl:=hk;clear hk));rfl
   by_cases e8:p=8
   ·subst e8;obtain⟨hl,rfl,rfl⟩:=call_plain (n:=2) rfl h;(repeat (obtain⟨_,_,rfl,hk⟩:=tk hl;clear hl;have hl:=hk;clear hk));rfl
   by_cases e9:p=9
   ·subst e9;obtain⟨hl,rfl,rfl⟩:=call_plain (n:=2) rfl h;(repeat (obtain⟨_,_,rfl,hk⟩:=tk hl;clear hl;have hl:=hk;clear hk));rfl
   by_cases e10:p=10
   ·subst e10;obtain⟨hl,rfl,rfl⟩:=call_plain (n:=2) rfl h;(repeat (obtain⟨_,_,rfl,hk⟩:=tk hl;clear hl;have hl:=hk;clear hk));rfl
   by_cases e11:p=11
   ·subst e11;obtain⟨hl,rfl,rfl⟩:=call_plain (n:=2) rfl h;(repeat (obtain⟨_,_,rfl,hk⟩:=tk hl;clear hl;have hl:=hk;clear hk));rfl
   by_cases e12:p=12
   ·subst e12;obtain⟨hl,rfl,rfl⟩:=call_plain (n:=3) rfl h;(repeat (obtain⟨_,_,rfl,hk⟩:=tk hl;clear hl;have hl:=hk;clear hk));rfl
   by_cases e13:p=13
   ·subst e13;obtain⟨hl,rfl,rfl⟩:=call_plain (n:=2) rfl h;(repeat (obtain⟨_,_,rfl,hk⟩:=tk hl;clear hl;have hl:=hk;clear hk));rfl
   by_cases e14:p=14
   ·subst e14;obtain⟨hl,rfl,rfl⟩:=call_plain (n:=2) rfl h;(repeat (obtain⟨_,_,rfl,hk⟩:=tk hl;clear hl;have hl:=hk;clear hk));rfl
   by_cases e15:p=15
   ·subst e15;obtain⟨hl,rfl,rfl⟩:=call_plain (n:=4) rfl h;(repeat (obtain⟨_,_,rfl,hk⟩:=tk hl;clear hl;have hl:=hk;clear hk));rfl
   by_cases e16:p=16
   ·subst e16;obtain⟨hl,rfl,rfl⟩:=call_plain (n:=3) rfl h;(repeat (obtain⟨_,_,rfl,hk⟩:=tk hl;clear hl;have hl:=hk;clear hk));rfl
   by_cases e17:p=17
   ·subst e17;obtain⟨hl,rfl,rfl⟩:=call_plain (n:=2) rfl h;(repeat (obtain⟨_,_,rfl,hk⟩:=tk hl;clear hl;have hl:=hk;clear hk));rfl
   by_cases e18:p=18
   ·subst e18;obtain⟨hl,rfl,rfl⟩:=call_plain (n:=1) rfl h;(repeat (obtain⟨_,_,rfl,hk⟩:=tk hl;clear hl;have hl:=hk;clear hk));rfl
   by_cases e19:p=19
   ·subst e19;obtain⟨hl,rfl,rfl⟩:=call_plain (n:=2) rfl h;(repeat (obtain⟨_,_,rfl,hk⟩:=tk hl;clear hl;have hl:=hk;clear hk));rfl
   by_cases e20:p=20
   ·subst e20;obtain⟨hl,rfl,rfl⟩:=call_plain (n:=1) rfl h;(repeat (obtain⟨_,_,rfl,hk⟩:=tk hl;clear hl;have hl:=hk;clear hk));rfl
   by_cases e21:p=21
   ·subst e21;obtain⟨hl,rfl,rfl⟩:=call_plain (n:=2) rfl h;(repeat (obtain⟨_,_,rfl,hk⟩:=tk hl;clear hl;have hl:=hk;clear hk));rfl
   by_cases e22:p=22
   ·subst e22;obtain⟨hl,rfl,rfl⟩:=call_plain (n:=0) rfl h;(repeat (obtain⟨_,_,rfl,hk⟩:=tk hl;clear hl;have hl:=hk;clear hk));rfl
   have hs:PyVbemai.shape p=none:=by
    unfold PyVbemai.shape;rw[Jc e0,Jc e1,Jc e2,Jc e3,Jc e4,Jc e5,Jc e6,Jc e7,Jc e8,Jc e9,Jc e10,Jc e11,Jc e12,Jc e13,Jc e14,Jc e15,Jc e16,Jc e17,Jc e18,Jc e19,Jc e20,Jc e21,Jc e22]
   rw[PyFlat.call,hs] at h;cases h
theorem zaz{l:List Int}{cs:List (List (List Int))}: ∀ {f:Nat},PyFlat.calls PyVbemai.shape f l=some cs->cs.map PyVbemai.whole=cs:=by
 induction cs generalizing l with
 |nil=>intro _ _;rfl
 | cons c cs ih=>
   intro f h;cases l with
   |nil=>cases qpb h
   | cons p r=>
     obtain⟨c',t,cs',f',h1,h2,h3⟩:=qpa h;cases h2;rw[Jq,zay h1,ih h3]
def Qd2:Call->Prop
 | .profile l=>1<=l.length/\l.length<=96/\∀ w∈l,w<=1000
 | .install k z y t d f v _ r=>k<=2/\z<8/\y<8/\t<=10000/\1<=d/\d<=9/\1<=f/\f<=10000/\0<=v/\0<=r/\r<=1000000
 | .read _ t n v=>t<=10000/\1<=n/\n<=1000000/\-1<=v/\v<=999999999
 | .swap _ t e v d f=>t<=10000/\0<=e/\0<=v/\1<=d/\d<=9/\1<=f/\f<=10000
 | .remove _ t e=>t<=10000/\0<=e
 | .rate _ r=>0<=r/\r<=1000000
 | .assign _ q h=>q<=9999/\h<=32
 | .lock t=>t<=10000
 | .publish a b=>a<=10000/\b<=10000
 |_=>True
theorem qgt(s:State)(a b:Nat): (netsOf s a b).length=33:=by unfold netsOf HANDS;simp
theorem q2d{s t:State}{c:Call}{l:List Int}(G:Good s)(h:Qd2 c)(e:does s c = .ok (t,l)): Good t:=by
 have c1:PROFILES=8:=rfl;have c2:METERS=32:=rfl;have c3:READINGS=256:=rfl;have c4:DEVICES=8:=rfl;have c5:ASSIGNS=64:=rfl;have c6:PERIODS=16:=rfl;cases c with
 | profile w=>
   obtain⟨h1,h2,h3⟩:=h;simp only[does] at e;split at e
   ·cases e
   ·cases e;exact q2g G h1 h2 h3 (by omega)
 | install k z y t d f v p r=>
   obtain⟨h1,h2,h3,h4,h5,h6,h7,h8,h9,h10,h11⟩:=h;simp only[does] at e;split at e
   ·cases e
   ·rename_i n12;split at e
    ·cases e
    ·rename_i n2;split at e
     ·cases e
     ·split at e
      ·cases e
      ·rename_i n7;split at e
       ·cases e
       ·cases e;refine q2e G ⟨h1,h2,h3,by show p<=_;omega,h10,h11,?_,by simp,?_,fun q=>?_⟩ (by omega)
        ·intro e he;cases he
        ·intro x hx;rw[J3.mp hx];refine⟨h4,h9,?_,h5,h6,h7,h8,fun e he=>by cases he⟩;unfold shows at n7;simpa using n7
        ·have q:k=2:=q;intro z2;exact n12 (.inl ⟨q,z2⟩)
 | read m t n v=>
   obtain⟨h1,h2,h3,h4,h5⟩:=h;simp only[does] at e;split at e
   ·cases e
   ·rename_i x hx;split at e
    ·cases e
    ·split at e
     ·cases e
     ·rename_i d hd;split at e
      ·cases e
      ·split at e
       ·cases e
       ·rename_i n8;split at e
        ·cases e
        ·cases e;exact q2j G hx h1 h2 h3 h4 h5 hd (by simpa using n8) (by omega)
 | swap m t f v d g=>
   obtain⟨h1,h2,h3,h4,h5,h6,h7⟩:=h;simp only[does] at e;split at e
   ·cases e
   ·rename_i x hx;split at e
    ·cases e
    ·rename_i hn;split at e
     ·cases e
     ·rename_i n7;split at e
      ·cases e
      ·cases e;refine q2m G hx hn h1 h2 rfl rfl ⟨h1,h3,?_,h4,h5,h6,h7,fun e he=>by cases he⟩ (by omega);unfold shows at n7;simpa using n7
 | remove m t f=>
   obtain⟨h1,h2⟩:=h;simp only[does] at e;split at e
   ·cases e
   ·rename_i x hx;split at e
    ·cases e
    ·rename_i hn;cases e;exact q2k G hx hn h1 h2
 | rate m r=>
   obtain⟨h1,h2⟩:=h;simp only[does] at e;split at e
   ·cases e
   ·rename_i hn;cases q:meter? s m with
    |none=>rw[q] at hn;simp at hn
    |some x=>cases e;exact q2i G q h1 h2
 | assign m q h'=>
   obtain⟨h1,h2⟩:=h;simp only[does] at e;split at e
   ·cases e
   ·rename_i x hx;split at e
    ·cases e
    ·split at e
     ·cases e
     ·split at e
      ·cases e
      ·rename_i hl;cases e;exact q2c G hx h1 h2 hl
 | lock t=>
   simp only[does] at e;split at e
   ·cases e
   ·split at e
    ·cases e
    ·cases e;exact q2f G h
 | publish a b=>
   obtain⟨h1,h2⟩:=h;simp only[does] at e;split at e
   ·cases e
   ·split at e
    ·cases e
    ·rename_i hl;cases e;exact q2h G h1 h2 (qgt s a b) hl
 |standing m t=>simp only[does] at e;split at e<;>cases e;exact G
 |history m t=>simp only[does] at e;split at e<;>cases e;exact G
 |value m t=>simp only[does] at e;split at e<;>cases e;exact G
 | between m a b=>
   simp only[does] at e;split at e
   ·cases e
   ·split at e<;>cases e;exact G
 |through m t=>simp only[does] at e;split at e<;>cases e;exact G
 |hand m t=>simp only[does] at e;split at e<;>cases e;exact G
 |total h z a b=>simp only[does] at e;split at e<;>cases e;exact G
 |rest z a b=>simp only[does] at e;split at e<;>cases e;exact G
 |nets a b=>simp only[does] at e;split at e<;>cases e;exact G
 |gaps m=>simp only[does] at e;split at e<;>cases e;exact G
 |doubt m r=>simp only[does] at e;split at e<;>cases e;exact G
 |unread t=>simp only[does] at e;cases e;exact G
 |published a b=>simp only[does] at e;cases e;exact G
 |state=>simp only[does] at e;cases e;exact G
theorem qes{s:State}{c:Call}(G:Good s)(h:Qd2 c): Good (step s c).1:=by
 unfold step;cases e:does s c with
 |error z=>exact G
 |ok x=>obtain⟨t,l⟩:=x;exact q2d G h e
def qa2(s:State)(k:Nat): List (Nat×Int):=standing (readingsOf s k)
def kn(s:State)(k:Nat): List Nat:=(knotsOf s k).map (·.1)
def am(s:State)(k:Nat): List Int:=match meter? s k with
 |none=>[]
 |some x=>qcw (qcj (qa2 s k) x.devices) (kn s k)
section
variable {s:State} {k:Nat} {x:Meter}
theorem qjm(hm:meter? s k=some x): knotsOf s k=knots (qa2 s k) x.devices:=by unfold knotsOf;rw[hm];rfl
theorem qgp(hm:meter? s k=some x): kn s k=bounds (qa2 s k) x.devices:=by unfold kn;rw[qjm hm,qq0]
theorem qgd(hm:meter? s k=some x): am s k=qcw (qcj (qa2 s k) x.devices) (kn s k):=by unfold am;rw[hm]
theorem qki(G:Good s): Inc ((qa2 s k).map (·.1)):=qn3 (qg5 G k)
theorem st_in(G:Good s)(hm:meter? s k=some x): ∀ t∈(qa2 s k).map (·.1),∃ d∈x.devices,InD d t:=fun t ht=>by
 obtain⟨p,hp,e⟩:=Jk.mp ht;obtain⟨r,hr,e2⟩:=qhb p hp;obtain⟨d,hd,hi⟩:=qsl G hm r hr;rw[e2,e] at hi;exact⟨d,hd,hi⟩
theorem st_le(G:Good s): ∀ t∈(qa2 s k).map (·.1),t<=10000:=fun t ht=>by
 obtain⟨p,hp,e⟩:=Jk.mp ht;obtain⟨r,hr,e2⟩:=qhb p hp;have hr':r∈s.readings:=(J2.mp hr).1;have:=(G.ro r hr').tb;omega
theorem qfx(G:Good s)(hm:meter? s k=some x): Inc (kn s k):=by
 rw[qgp hm];exact qk9 (qki G) (G.met hm).chain
theorem qjl(G:Good s)(hm:meter? s k=some x): kn s k≠[]:=by
 rw[qgp hm];have:=(G.met hm).chain;cases e:x.devices with
 |nil=>rw[e] at this;exact this.elim
 |cons d r=>unfold bounds;simp
theorem qjk(G:Good s)(hm:meter? s k=some x): ∀ t∈kn s k,t<=10000:=fun t ht=>by
 have X:=G.met hm;rw[qgp hm,qmt X.chain (st_in G hm)] at ht;rcases ht with h|h|⟨v,h⟩
 ·obtain⟨d,hd,e⟩:=Jk.mp h;have:=(X.dev d hd).st;omega
 ·exact st_le G t h
 ·unfold endOf at h;cases e:x.devices.getLast? with
  |none=>rw[e] at h;cases h
  | some d=>
    rw[e] at h;have:=((X.dev d (Zg e)).fin (t,v) h).1;exact this
theorem qqm:∀ {l:List Nat} {a N:Nat},Inc l->(∀ t∈l,a<=t/\t<=N)->l.length<=N+1-a
 |[],_,_,_,_=>X3 _
 | t::l,a,N,h,hb=>by
   obtain⟨h1,h2⟩:=Ju.mp h;have b1:=hb t Jh;have:=qqm (a:=t+1) (N:=N) h2 fun u hu=>⟨h1 u hu,(hb u (Jm _ hu)).2⟩
   rw[Jz];omega
theorem qmm(G:Good s)(hm:meter? s k=some x): (kn s k).length<=10001:=
 qqm (a:=0) (N:=10000) (qfx G hm) fun t ht=>⟨X3 _,qjk G hm t ht⟩
theorem qoq(f:Nat->Nat->Int): ∀ l:List Nat,l≠[]->(qcw f l).length+1=l.length
 |[],h=>absurd rfl h
 |[a],_=>rfl
 | a::b::r,_=>by
   show (qcw f (b::r)).length+1+1=(b::r).length+1;rw[qoq f (b::r) (by simp)]
theorem qkz(f:Nat->Nat->Int): ∀ (l:List Nat) (i a b:Nat),l[i]?=some a->l[i+1]?=some b->(qcw f l)[i]?=some (f a b)
 |[],_,_,_,h,_=>by simp at h
 |[z],i,a,b,h,h2=>by simp at h2
 | y::z::r,0,a,b,h,h2=>by
   simp at h h2;subst h;subst h2;rfl
 | y::z::r,i+1,a,b,h,h2=>by
   show (qcw f (z::r))[i]?=_;exact qkz f (z::r) i a b (by simpa using h) (by simpa using h2)
theorem qky(G:Good s)(hm:meter? s k=some x): (am s k).length+1=(kn s k).length:=by
 rw[qgd hm];exact qoq _ _ (qjl G hm)
theorem qv2(G:Good s)(hm:meter? s k=some x): (knotsOf s k).map (·.2)=sums 0 (am s k):=by
 rw[qgd hm,qgp hm,qjm hm];exact q3e (qki G) (G.met hm).chain
theorem qwm(G:Good s)(hm:meter? s k=some x)(a b:Nat): 0<=qcj (qa2 s k) x.devices a b/\qcj (qa2 s k) x.devices a b<=10000000000000:=by
 unfold qcj;cases e:qd6 x.devices a with
 |none=>exact⟨Int.le_refl 0,show (0:Int)<=10000000000000 by decide⟩
 | some d=>
   have hd:d∈x.devices:=by
    unfold qd6 at e;exact(J2.mp (Zg e)).1
   have D:=(G.met hm).dev d hd;have p0:(0:Int)<10 ^ d.digits:=Int.pow_pos (by decide);have p1:(10:Int) ^ d.digits<=10 ^ 9:=by
    have h:=Nat.pow_le_pow_right (n:=10) (by decide) D.g1;exact_mod_cast h
   have q0:=Int.emod_nonneg (qcf (qa2 s k) d b-qcf (qa2 s k) d a) (by omega:(10:Int) ^ d.digits≠0);have q1:=Int.emod_lt_of_pos (qcf (qa2 s k) d b-qcf (qa2 s k) d a) p0;have f0:=D.f0;have f1:=D.f1;refine⟨Int.mul_nonneg q0 (by omega),?_⟩;have n9:(10:Int) ^ 9=1000000000:=by decide
   have q2:(qcf (qa2 s k) d b-qcf (qa2 s k) d a)%10 ^ d.digits<=1000000000:=by omega
   have h:=Int.mul_le_mul q2 f1 (by omega) (by decide);exact Int.le_trans h (by decide)
theorem qor(f:Nat->Nat->Int): ∀ (l:List Nat) (v:Int),v∈qcw f l->∃ a b,v=f a b
 |[],v,h=>by cases h
 |[a],v,h=>by cases h
 | a::b::r,v,h=>by
   rcases Jf.mp (show v∈f a b::qcw f (b::r) from h) with e|e
   ·exact⟨a,b,e⟩
   ·exact qor f (b::r) v e
theorem qwl(G:Good s)(hm:meter? s k=some x): ∀ v∈am s k,0<=v/\v<=10000000000000:=fun v hv=>by
 rw[qgd hm] at hv;obtain⟨a,b,e⟩:=qor _ _ _ hv;rw[e];exact qwm G hm a b
theorem qhd:∀ (l:List Int) (c:Int) (i:Nat),i<=l.length->(sums c l)[i]?=some (c+(l.take i).sum)
 | [],c,i,h=>by
   have e:i=0:=by simpa using h
   subst e;show some c=some (c+0);rw[Int.add_zero]
 |x::l,c,0,_=>by show some c=some (c+0);rw[Int.add_zero]
 | x::l,c,i+1,h=>by
   show (sums (c+x) l)[i]?=_;rw[qhd l (c+x) i (by simpa using h),List.take_succ_cons,Yx,Int.add_assoc]
theorem qir(l:List Int)(c:Int): (sums c l).getLast?=some (c+l.sum):=by
 rw[Ui,qkj,Za,qhd l c l.length (Jp _),Xh]
theorem q9z(l:List Int)(z:Int): sums 0 (l++(some z).toList)=sums 0 l++[l.sum+z]:=by
 show sums 0 (l++[z])=_;rw[qvm,qir];show _++[0+l.sum+z]=_;rw[Uq]
theorem qqy{i:Nat}{p:Nat×Int}(h:(knotsOf s k)[i]?=some p): (kn s k)[i]?=some p.1/\((knotsOf s k).map (·.2))[i]?=some p.2:=by
 unfold kn;rw[Jt,Jt,h];exact⟨rfl,rfl⟩
theorem qqz(G:Good s)(hm:meter? s k=some x): ∃ a r,knotsOf s k=(a,0)::r:=by
 rw[qjm hm];have:=(G.met hm).chain;cases e:x.devices with
 |nil=>rw[e] at this;exact this.elim
 |cons d r=>exact⟨d.start,_,rfl⟩
theorem qw8(G:Good s)(hm:meter? s k=some x){a t:Nat}(ha:(kn s k).head?=some a)(h:t<=a): by_ s k t=0:=by
 obtain⟨b,r,e⟩:=qqz G hm;unfold kn at ha;unfold by_;rw[hm];show through _ _ (knotsOf s k) t=0;rw[e] at ha ⊢;have:b=a:=Jj ha;subst this;exact q93 _ _ h
theorem qw9(G:Good s)(hm:meter? s k=some x){a t:Nat}(ha:(kn s k).getLast?=some a)(h:a<=t): by_ s k t=(am s k).sum+rateOf x*((t:Int)-a):=by
 have hl:∃ p,(knotsOf s k).getLast?=some p/\p.1=a:=by
  unfold kn at ha;rw[Y5] at ha;cases e:(knotsOf s k).getLast? with
  |none=>rw[e] at ha;cases ha
  |some p=>rw[e] at ha;exact⟨p,rfl,Jj ha⟩
 obtain⟨p,hp,rfl⟩:=hl;have hi:Inc ((knotsOf s k).map (·.1)):=qfx G hm;unfold by_;rw[hm];show through _ _ (knotsOf s k) t=_;rw[qvx _ _ (knotsOf s k) hi hp h];have e2:p.2=(am s k).sum:=by
  have h2:=qv2 G hm;have h3:=Yk List.getLast? h2;rw[Y5,hp,qir] at h3;have h4:p.2=0+(am s k).sum:=Jj h3;omega
 rw[e2];congr 2;omega
theorem by_mid(G:Good s)(hm:meter? s k=some x){a b t:Nat}(ha:(kn s k).head?=some a)(h1:a<=t)(hb:(kn s k).getLast?=some b)(h2:t<b):
  ∃ p u v am',p+1=upTo t (kn s k)/\(kn s k)[p]?=some u/\(kn s k)[p+1]?=some v/\(am s k)[p]?=some am'/\u<=t/\t<v /\
    by_ s k t=((am s k).take p).sum+(if (wsum (profileOf s x) v:Int)-wsum (profileOf s x) u=0 then am' * ((t:Int)-u) / ((v:Int)-u) else am' * ((wsum (profileOf s x) t:Int)-wsum (profileOf s x) u) / ((wsum (profileOf s x) v:Int)-wsum (profileOf s x) u)):=by
 have hi:Inc ((knotsOf s k).map (·.1)):=qfx G hm;have hx:∃ q,(knotsOf s k).head?=some q/\q.1=a:=by
  unfold kn at ha;rw[List.head?_map] at ha;cases e:(knotsOf s k).head? with
  |none=>rw[e] at ha;cases ha
  |some p=>rw[e] at ha;exact⟨p,rfl,Jj ha⟩
 have hy:∃ q,(knotsOf s k).getLast?=some q/\q.1=b:=by
  unfold kn at hb;rw[Y5] at hb;cases e:(knotsOf s k).getLast? with
  |none=>rw[e] at hb;cases hb
  |some p=>rw[e] at hb;exact⟨p,rfl,Jj hb⟩
 obtain⟨qa,hqa,rfl⟩:=hx;obtain⟨qb,hqb,rfl⟩:=hy;obtain⟨p,u,c,v,d,e1,e2,e3,h3,h4,e4⟩:=qvy (weight (profileOf s x)) (rateOf x) (knotsOf s k) hi hqa h1 hqb h2;have g2:=qqy e2;have g3:=qqy e3;have hA:=qkz (qcj (qa2 s k) x.devices) (kn s k) p u v g2.1 g3.1;rw[<- qgd hm] at hA;rw[qv2 G hm] at g2 g3;have hp:p+1<=(am s k).length:=by
  have h5:=qky G hm;have h6:=(Ji.mp g3.1).1;omega
 have hc:c=((am s k).take p).sum:=by
  have:=g2.2;rw[qhd _ _ _ (by omega)] at this;have:=Jj this;show c=_;have:(0:Int)+((am s k).take p).sum=c:=this;omega
 have hd:d-c=qcj (qa2 s k) x.devices u v:=by
  have:=g3.2;rw[qhd _ _ _ hp] at this;have:(0:Int)+((am s k).take (p+1)).sum=d:=Jj this;rw[Xq,hA] at this;simp at this;omega
 refine⟨p,u,v,_,e1,g2.1,g3.1,hA,h3,h4,?_⟩;unfold by_;rw[hm];show through _ _ (knotsOf s k) t=_;rw[e4,hd,qm2 _ h3 (Xj h4),hc]
theorem q9u(G:Good s)(hm:meter? s k=some x){a b q:Nat}(ha:(kn s k).head?=some a)(hb:(kn s k).getLast?=some b):
  status s k q=if q<a then 0 else if b<=q then (if isOut x=true then 0 else 3) else if (kn s k).contains q=true/\(kn s k).contains (q+1)=true then 1 else 2:=by
 unfold status;rw[hm];show (if q<(kn s k).headD 0 then 0 else if (kn s k).contains q=true/\(kn s k).contains (q+1)=true then 1 else if q<(kn s k).getLastD 0 then 2 else if isOut x=true then 0 else 3)=_;have e1:(kn s k).headD 0=a:=by cases e:kn s k with
  |nil=>rw[e] at ha;cases ha
  |cons z r=>rw[e] at ha;exact Jj ha
 have e2:(kn s k).getLastD 0=b:=by rw[List.getLastD_eq_getLast?,hb];rfl
 rw[e1,e2];by_cases h1:q<a
 ·rw[Je h1,Je h1]
 ·rw[Jc h1,Jc h1];by_cases h2:b<=q
  ·have hn:¬ ((kn s k).contains q=true/\(kn s k).contains (q+1)=true):=by
    rintro ⟨_,h⟩;have hmem:q+1∈kn s k:=by simpa using h
    have hi:=qfx G hm;have hle:∀ t∈kn s k,t<=b:=by
     obtain⟨pre,e⟩:=qiq hb;intro t ht;rw[e] at ht hi;rcases J4.mp ht with h|h
     ·exact Xj ((Zf.mp hi).2.2 t h b (by simp))
     ·rw[J3.mp h];exact Jp _
    have:=hle _ hmem;omega
   rw[Jc hn,Jc (by omega),Je h2]
  ·rw[Jc h2];by_cases h3:(kn s k).contains q=true/\(kn s k).contains (q+1)=true
   ·rw[Je h3,Je h3]
   ·rw[Jc h3,Jc h3,Je (by omega)]
theorem qqb(f:Nat->Nat->Int): ∀ (r:List (Nat×Int)) (a:Nat) (c:Int),Qcu f ((a,c)::r)->gaps ((a,c)::r)=(((a,c)::r).map (·.1)).zip ((r.map (·.1)).zip (qcw f (((a,c)::r).map (·.1))))
 |[],a,c,_=>rfl
 | (b,d)::r,a,c,h=>by
   have h1:d=c+f a b:=h.1;show (a,b,d-c)::gaps ((b,d)::r)=(a,(b,f a b))::_;rw[qqb f r b d h.2];have:d-c=f a b:=by omega
   rw[this];rfl
theorem qje(G:Good s)(hm:meter? s k=some x): gaps (knotsOf s k)=(kn s k).zip ((kn s k).tail.zip (am s k)):=by
 obtain⟨a,r,e⟩:=qqz G hm;have L:=qq1 (qki (k:=k) G) (G.met hm).chain;rw[<- qjm hm,e] at L;rw[qgd hm];unfold kn;rw[e,qqb _ r a 0 L];rfl
end
theorem qrz(q:Nat): ∀ (l:List (Nat×Nat)) (k:Nat),Inc (l.map (·.1))->qa7 (q+1) q k l=[(q,q+1,qcq l k q)]
 |[],k,_=>rfl
 | (t,h)::r,k,hi=>by
   obtain⟨h1,h2⟩:=Ju.mp (show Inc (t::r.map (·.1)) from hi);unfold qa7;by_cases e:q+1<=t
   ·rw[Je e,qmc (l:=(t,h)::r)];intro x hx;rcases Jf.mp hx with z|z
    ·rw[z];exact e
    ·have:=h1 x.1 (Jk.mpr ⟨x,z,rfl⟩);omega
   ·rw[Jc e,Jc (by omega),qrz q r h h2,qmb (by omega)]
theorem q2o{s:State}(G:Good s)(k q:Nat): qa7 (q+1) q 0 (toldOf s k)=[(q,q+1,hand s k q)]:=by
 rw[qrz q _ _ (qis G k),qqd]
def numsTo(i:Nat): List Nat:=(List.range i).map (· + 1)
theorem numsTo_succ(i:Nat): numsTo (i+1)=numsTo i++[i+1]:=by unfold numsTo;rw[Zu,Jv];rfl
theorem qrv(s:State): numbers s=numsTo s.meters.length:=rfl
theorem meter?_at{s:State}{i:Nat}{x:Meter}(h:s.meters[i]?=some x): meter? s (i+1)=some x:=by
 unfold meter?;rw[Jc (by omega)];exact h
theorem q0t(p:Nat->Bool)(i:Nat): (numsTo (i+1)).filter p=(numsTo i).filter p++if p (i+1)=true then [i+1] else []:=by
 rw[numsTo_succ,Z5];congr 1;cases h:p (i+1)<;>simp[h]
def qf5(x:Meter)(z:Nat): Int:=if x.kind=2/\x.zone2=z then 1 else if x.zone≠z then 0 else if x.kind=1 then 1 else -1
theorem rest_eq{s:State}(G:Good s)(z a b:Nat): rest s z a b=((numbers s).map fun m=>((meter? s m).map (qf5 · z)).getD 0*between s m a b).sum:=by
 unfold rest zoneIn zoneOut arrives leaves sumOf those;rw[sum_filter,sum_filter,sum_filter,sum_filter,<- sum_add,<- qn6,<- qn6];refine sum_map_congr fun m hm=>?_;cases e:meter? s m with
 |none=>simp
 | some x=>
   have X:=G.met e;have k2:=X.kind;have zz:=X.zz;simp only[Option.any_some,Option.map_some,Option.getD_some,qf5,Jw,Yq];by_cases h2:x.kind=2
   ·have hne:=zz h2;have n1:¬ x.kind=1:=by omega
    have n0:¬ x.kind=0:=by omega
    simp only[h2,true_and,false_and,X9,show ¬ (2:Nat)=1 by decide,show ¬ (2:Nat)=0 by decide];by_cases h3:x.zone2=z
    ·have h4:¬ x.zone=z:=fun q=>hne (q.trans h3.symm);simp only[h3,Wh,h4,X9];omega
    ·by_cases h4:x.zone=z
     ·simp[h3,h4]
     ·simp[h3,h4]
   ·by_cases h1:x.kind=1
    ·simp only[h1,show ¬ (1:Nat)=2 by decide,show ¬ (1:Nat)=0 by decide,false_and,true_and,X9];by_cases h4:x.zone=z
     ·simp[h4]
     ·simp[h4]
    ·have h0:x.kind=0:=by omega
     simp only[h0,show ¬ (0:Nat)=2 by decide,show ¬ (0:Nat)=1 by decide,false_and,true_and,X9];by_cases h4:x.zone=z
     ·simp[h4]
     ·simp[h4]
def qii(s:State)(z a b i:Nat): Int:=((numsTo i).map fun m=>((meter? s m).map (qf5 · z)).getD 0*between s m a b).sum
theorem q58(s:State)(z a b i:Nat){x:Meter}(h:s.meters[i]?=some x): qii s z a b (i+1)=qii s z a b i+qf5 x z*between s (i+1) a b:=by
 unfold qii;rw[numsTo_succ,Jv,Z7];simp[meter?_at h]
def qf7(s:State)(k:Nat)(x:Meter)(t:Nat): Bool:=decide ((kn s k).headD 0<t)&&(!(kn s k).contains t && !(isOut x&&decide ((kn s k).getLastD 0<t)))
theorem zam(s:State)(t:Nat): unread s t=(numbers s).filter fun m=>(meter? s m).any fun x=>qf7 s m x t:=rfl
theorem at_eq(s:State)(m t:Nat): (s.readings.filter fun r=>r.meter==m&&r.at_==t)=atT t (readingsOf s m):=by
 unfold atT readingsOf;rw[List.filter_filter];congr 1;funext r;rw[Bool.and_comm]
def qcc(s:State)(k t:Nat): Option (Nat×Int):=((atT t (readingsOf s k)).getLast?).bind fun r=>if r.value<0 then none else some (r.version,r.value)
theorem qvg{s:State}(G:Good s)(k t:Nat): (qa2 s k).lookup t=(qcc s k t).map (·.2):=by
 unfold qa2 qcc;rw[qvh t (qg5 G k)];cases (atT t (readingsOf s k)).getLast? with
 |none=>rfl
 | some r=>
   show (if r.value<0 then none else some r.value)=Option.map (·.2) (if r.value<0 then none else some (r.version,r.value));split<;>rfl
theorem qwp(s:State)(m t n:Nat): s.readings.any (fun r=>r.meter==m&&(r.at_==t&&r.version==n))=decide (n∈(atT t (readingsOf s m)).map (·.version)):=by
 rw[Zm,Zb,Y9,Jk];simp only[Jw,Yq,atT,readingsOf,J2];constructor
 ·rintro ⟨r,h1,h2,h3,h4⟩;exact⟨r,⟨⟨h1,h2⟩,h3⟩,h4⟩
 ·rintro ⟨r,⟨⟨h1,h2⟩,h3⟩,h4⟩;exact⟨r,h1,h2,h3,h4⟩
theorem qsm(x:Reading){k:Nat}(h:x.meter≠k): ∀ l:List Reading,(putReading x l).filter (fun r=>r.meter==k)=l.filter fun r=>r.meter==k
 |[]=>by simp[putReading,h]
 | y::r=>by
   unfold putReading;split
   ·simp[Xg,h]
   ·rw[Xg,Xg,qsm x h r]
theorem qwz(x:Reading)(l:List Reading)(m t:Nat): (atT t ((putReading x l).filter fun r=>r.meter==m)).Perm (atT t (([x]++l).filter fun r=>r.meter==m)):=by
 unfold atT;exact((qid x l).filter _).filter _
def qe0(rd:Rds)(t n:Nat)(v:Int): Rds:=if t∈rd.map (·.1) then rd.map (fun e=>if e.1=t then (e.1,e.2++[(n,v)]) else e) else rd++[(t,[(n,v)])]
theorem zau(n:Nat)(v:Int)(t u:Nat): ∀ rd:Rds,(rd.map (·.1)).Nodup->qa5 (qe0 rd t n v) u=if u=t then qa5 rd t++[(n,v)] else qa5 rd u:=fun rd hn=>by
 unfold qe0;by_cases ht:t∈rd.map (·.1)
 ·rw[Je ht];unfold qa5;induction rd with
  |nil=>simp at ht
  | cons e r ih=>
    obtain⟨h1,h2⟩:=Xf.mp (show (e.1::r.map (·.1)).Nodup from hn);obtain⟨a,b⟩:=e;by_cases ea:a=t
    ·subst ea;have hr:r.map (fun e=>if e.1=a then (e.1,e.2++[(n,v)]) else e)=r:=by
      refine(X8 fun e he=>?_).trans (Qy r);rw[Jc fun q:e.1=a=>h1 (q ▸ Jk.mpr ⟨e,he,rfl⟩)];rfl
     rw[Jq,hr];simp only[Wh,X0];by_cases eu:u=a
     ·subst eu;simp
     ·have:(u==a)=false:=by simpa using eu
      simp[this,eu]
    ·rw[Jq,Jc ea];have hm:t∈r.map (·.1):=by
      rcases Jf.mp (show t∈a::r.map (·.1) from ht) with q|q
      ·exact absurd q.symm ea
      ·exact q
     have:=ih h2 hm;simp only[X0];by_cases eu:u=a
     ·subst eu;have:(u==u)=true:=by simp
      rw[this];simp[ea]
     ·have e1:(u==a)=false:=by simpa using eu
      have e2:(t==a)=false:=by simpa using fun q:t=a=>ea q.symm
      rw[e1,e2];exact this
 ·rw[Jc ht];unfold qa5;rw[List.lookup_append];by_cases eu:u=t
  ·subst eu;have:rd.lookup u=none:=by
    rw[List.lookup_eq_none_iff];intro p hp;simpa using fun q:u=p.1=>ht (q ▸ Jk.mpr ⟨p,hp,rfl⟩)
   simp[this]
  ·have:(u==t)=false:=by simpa using eu
   simp[this,eu,List.lookup]
theorem q56{rd:Rds}{s:State}{m t n:Nat}{v:Int}(R:Qdb rd (readingsOf s m)): Qdb (qe0 rd t n v) ((putReading ⟨m,t,n,v⟩ s.readings).filter fun r=>r.meter==m):=by
 refine⟨?_,?_,fun u=>?_⟩
 ·unfold qe0;by_cases ht:t∈rd.map (·.1)
  ·rw[Je ht,Xy];have:((fun x:Nat×List (Nat×Int)=>x.1) ∘ fun e=>if e.1=t then (e.1,e.2++[(n,v)]) else e)=(·.1):=by
    funext e;simp only[Function.comp];split<;>rfl
   rw[this];exact R.nd
  ·rw[Jc ht,Jv,Zi];exact⟨R.nd,by simp,fun a ha b hb=>by simp at hb;subst hb;exact fun q=>ht (q ▸ ha)⟩
 ·intro e he;unfold qe0 at he;split at he
  ·obtain⟨e0,h0,q⟩:=Jk.mp he;split at q
   ·subst q;simp
   ·subst q;exact R.ne _ h0
  ·rcases J4.mp he with q|q
   ·exact R.ne _ q
   ·rw[J3.mp q];simp
 ·rw[zau n v t u rd R.nd];have P:=(qwz ⟨m,t,n,v⟩ s.readings m u).map fun r:Reading=>(r.version,r.value)
  refine List.Perm.trans ?_ P.symm;have e1:([(⟨m,t,n,v⟩:Reading)]++s.readings).filter (fun r=>r.meter==m)=⟨m,t,n,v⟩::readingsOf s m:=by
   unfold readingsOf;simp
  rw[e1];by_cases eu:u=t
  ·subst eu;rw[Je rfl,qow (t:=u) (r:=⟨m,u,n,v⟩) rfl,Jq];exact(List.perm_append_comm).trans ((R.rel u).cons _)
  ·rw[Jc eu,qou (t:=u) (r:=⟨m,t,n,v⟩) (fun q=>eu q.symm)];exact R.rel u
def qd0(tl:List (Nat×Nat))(q h:Nat): List (Nat×Nat):=if q∈tl.map (·.1) then tl.map (fun e=>if e.1=q then (e.1,h) else e) else tl++[(q,h)]
theorem qv1(x:Assign){k:Nat}(hx:x.meter≠k): ∀ l:List Assign,(putAssign x l).filter (fun a=>a.meter==k)=l.filter fun a=>a.meter==k
 |[]=>by simp[putAssign,hx]
 | y::r=>by
   unfold putAssign;split
   ·rename_i h;have hy:¬ y.meter=k:=fun q=>hx (h.1.trans q);simp[Xg,hx,hy]
   ·split
    ·simp[Xg,hx]
    ·rw[Xg,Xg,qv1 x hx r]
theorem qoc{s:State}(G:Good s)(m:Nat): ((toldOf s m).map (·.1)).Nodup:=(qis G m).nodup
theorem qrs{α β:Type}{l:List (α×β)}(h:(l.map (·.1)).Nodup): l.Nodup:=by
 induction l with
 |nil=>exact Yb
 | cons a r ih=>
   obtain⟨h1,h2⟩:=Xf.mp (show (a.1::r.map (·.1)).Nodup from h);exact Xf.mpr ⟨fun q=>h1 (Jk.mpr ⟨a,q,rfl⟩),ih h2⟩
theorem q5m{α:Type}[DecidableEq α]{l k:List α}(h1:l.Nodup)(h2:k.Nodup)(h:∀ x,x∈l↔x∈k): l.Perm k:=(List.perm_ext_iff_of_nodup h1 h2).mpr h
theorem q52{tl:List (Nat×Nat)}{q h:Nat}(hn:(tl.map (·.1)).Nodup): ((qd0 tl q h).map (·.1)).Nodup:=by
 unfold qd0;split
 ·rw[Xy];have:((fun x:Nat×Nat=>x.1) ∘ fun e=>if e.1=q then (e.1,h) else e)=(·.1):=by
   funext e;simp only[Function.comp];split<;>rfl
  rw[this];exact hn
 ·rename_i ht;rw[Jv,Zi];exact⟨hn,by simp,fun a ha b hb=>by simp at hb;subst hb;exact fun z=>ht (z ▸ ha)⟩
theorem q53{tl:List (Nat×Nat)}{q h:Nat}(x:Nat×Nat): x∈qd0 tl q h↔x=(q,h)\/(x∈tl/\x.1≠q):=by
 unfold qd0;split
 ·rename_i ht;rw[Jk];constructor
  ·rintro ⟨e,he,z⟩;split at z
   ·rename_i hq;subst z;left;rw[hq]
   ·rename_i hq;subst z;exact .inr ⟨he,hq⟩
  ·rintro (z|⟨z1,z2⟩)
   ·obtain⟨e,he,hq⟩:=Jk.mp ht;exact⟨e,he,by rw[Je hq,hq,z]⟩
   ·exact⟨x,z1,Jc z2⟩
 ·rename_i ht;rw[J4,J3];constructor
  ·rintro (z|z)
   ·exact .inr ⟨z,fun q=>ht (q ▸ Jk.mpr ⟨x,z,rfl⟩)⟩
   ·exact .inl z
  ·rintro (z|⟨z,_⟩)
   ·exact .inr z
   ·exact .inl z
theorem q98{s:State}(G:Good s){m q h:Nat}{tl:List (Nat×Nat)}(P:tl.Perm (toldOf s m))(G':Good { s with assigns:=putAssign ⟨m,q,h⟩ s.assigns }):
  (qd0 tl q h).Perm (toldOf { s with assigns:=putAssign ⟨m,q,h⟩ s.assigns } m):=by
 have hn:(tl.map (·.1)).Nodup:=(P.map (·.1)).nodup_iff.mpr (qoc G m);refine q5m (qrs (q52 hn)) (qrs (qoc G' m)) fun x=>?_;rw[q53,P.mem_iff];unfold toldOf;simp only[Jk,J2,qjz _ G.as];constructor
 ·rintro (z|⟨⟨a,⟨h1,h2⟩,h3⟩,h4⟩)
  ·exact⟨⟨m,q,h⟩,⟨.inl rfl,by simp⟩,z.symm⟩
  ·refine⟨a,⟨.inr ⟨h1,fun z=>h4 ?_⟩,h2⟩,h3⟩;rw[<- h3];exact z.2
 ·rintro ⟨a,⟨h1,h2⟩,h3⟩;rcases h1 with z|⟨z1,z2⟩
  ·subst z;exact .inl h3.symm
  ·refine .inr ⟨⟨a,⟨z1,h2⟩,h3⟩,fun z=>z2 ⟨by simpa using h2,?_⟩⟩;rw[<- h3] at z;exact z
theorem qwo(s:State)(m q:Nat): s.assigns.any (fun a=>a.meter==m&&a.quarter==q)=decide (q∈(toldOf s m).map (·.1)):=by
 rw[Zm,Zb,Y9,Jk];simp only[Jw,Yq,Jk,toldOf,J2];constructor
 ·rintro ⟨a,h1,h2,h3⟩;exact⟨(a.quarter,a.hand),⟨a,⟨h1,h2⟩,rfl⟩,h3⟩
 ·rintro ⟨x,⟨a,⟨h1,h2⟩,h3⟩,h4⟩;exact⟨a,h1,h2,by rw[<- h3] at h4;exact h4⟩
theorem qwn(s:State)(m t:Nat){rd:Rds}(R:Qdb rd (readingsOf s m)): (readingsOf s m).any (fun r=>decide (t<=r.at_))=(rd.map (·.1)).any fun u=>decide (t<=u):=by
 rw[Zm,Y9,Y9];constructor
 ·rintro ⟨r,h1,h2⟩;exact⟨r.at_,(qjj R r.at_).mpr ⟨r,h1,rfl⟩,h2⟩
 ·rintro ⟨u,h1,h2⟩;obtain⟨r,h3,h4⟩:=(qjj R u).mp h1;exact⟨r,h3,by rw[h4];exact h2⟩
theorem qfu{c:Nat}: ∀ {l:List (List Int)},(∀ x∈l,x.length<=c)->l.flatten.length<=c*l.length
 |[],_=>by simp
 | x::l,h=>by
   have h1:=h x Jh;have h2:=qfu (l:=l) fun y hy=>h y (Jm _ hy);rw[Zk,Jx,Jz,Nat.mul_succ];omega
theorem qij{c n:Nat}{l:List (List Int)}(h:∀ x∈l,x.length<=c)(hn:l.length<=n): (rows l).length<=c*n+1:=by
 unfold rows;rw[Jz];have:=qfu h;have:=Nat.mul_le_mul_left c hn;omega
theorem qhg(l:List Int): (told l).length<=2*l.length+1:=by
 unfold told;refine qij (fun x hx=>?_) ?_
 ·obtain⟨y,_,e⟩:=List.mem_filterMap.mp hx;split at e
  ·cases e
  ·cases e;simp
 ·refine Xd (List.length_filterMap_le _ _) ?_;rw[Yr,U4];omega
theorem q3k{s:State}(G:Good s){a b:Nat}{l:List Int}(h:lastNets s a b=some l): l.length=33:=by
 unfold lastNets at h;cases e:s.periods.find? fun p=>p.from_==a&&p.to_==b with
 |none=>rw[e] at h;cases h
 |some p=>rw[e] at h;cases h;exact(G.po p (List.mem_of_find?_eq_some e)).1
theorem qjf{s:State}{k:Nat}{x:Meter}(G:Good s)(hm:meter? s k=some x): (gaps (knotsOf s k)).length<=10001:=by
 rw[qje G hm,Yr];have:=qmm G hm;omega
theorem q0q{s t:State}{c:Call}{l:List Int}(G:Good s)(e:does s c = .ok (t,l)): l.length<=30010:=by
 cases c with
 |profile w=>simp only[does] at e;split at e<;>cases e;simp
 | install k z y t d f v p r=>
   simp only[does] at e;repeat (split at e;· cases e)
   cases e;simp
 | read m t n v=>
   simp only[does] at e;split at e
   ·cases e
   ·split at e
    ·cases e
    ·split at e
     ·cases e
     ·repeat (split at e;· cases e)
      cases e;simp
 | swap m t f v d g=>
   simp only[does] at e;split at e
   ·cases e
   ·split at e
    ·cases e
    ·repeat (split at e;· cases e)
     cases e;simp
 | remove m t f=>
   simp only[does] at e;split at e
   ·cases e
   ·split at e<;>cases e;simp
 |rate m r=>simp only[does] at e;split at e<;>cases e;simp
 | assign m q h'=>
   simp only[does] at e;split at e
   ·cases e
   ·repeat (split at e;· cases e)
    cases e;simp
 | lock t=>
   simp only[does] at e;repeat (split at e;· cases e)
   cases e;simp
 | publish a b=>
   simp only[does] at e;repeat (split at e;· cases e)
   cases e;refine Xd (qhg _) ?_;cases q:lastNets s a b with
   |none=>show 2*(netsOf s a b).length+1<=_;rw[qgt];decide
   | some l=>
     show 2*(((netsOf s a b).zip l).map fun x=>x.1-x.2).length+1<=_;rw[Jd,Yr,qgt];omega
 | standing m t=>
   simp only[does] at e;split at e
   ·cases e
   ·cases e;split
    ·simp
    ·split<;>simp
 | history m t=>
   simp only[does] at e;split at e
   ·cases e
   ·cases e;refine Xd (qij (c:=2) (n:=256) (fun x hx=>?_) ?_) (by decide)
    ·obtain⟨y,_,q⟩:=Jk.mp hx;rw[<- q];simp
    ·rw[Jd];exact Xd (Xp _ _) G.rl
 |value m t=>simp only[does] at e;split at e<;>cases e;simp
 | between m a b=>
   simp only[does] at e;repeat (split at e;· cases e)
   cases e;simp
 |through m t=>simp only[does] at e;split at e<;>cases e;simp
 |hand m t=>simp only[does] at e;split at e<;>cases e;simp
 |total h z a b=>simp only[does] at e;split at e<;>cases e;simp
 |rest z a b=>simp only[does] at e;split at e<;>cases e;simp
 | nets a b=>
   simp only[does] at e;split at e
   ·cases e
   ·cases e;refine Xd (qhg _) ?_;rw[qgt];decide
 | gaps m=>
   simp only[does] at e;split at e
   ·cases e
   ·rename_i hn;cases q:meter? s m with
    |none=>rw[q] at hn;simp at hn
    | some x=>
      cases e;refine Xd (qij (c:=3) (n:=10001) (fun y hy=>?_) ?_) (by decide)
      ·obtain⟨z,_,q⟩:=Jk.mp hy;rw[<- q];simp
      ·rw[Jd];exact qjf G q
 | doubt m r=>
   simp only[does] at e;split at e
   ·cases e
   ·rename_i hn;cases q:meter? s m with
    |none=>rw[q] at hn;simp at hn
    | some x=>
      cases e;refine Xd (qij (c:=2) (n:=10001) (fun y hy=>?_) ?_) (by decide)
      ·obtain⟨z,_,q⟩:=Jk.mp hy;rw[<- q];simp
      ·rw[Jd];exact Xd (Xp _ _) (qjf G q)
 | unread t=>
   simp only[does] at e;cases e;refine Xd (qij (c:=1) (n:=32) (fun y hy=>?_) ?_) (by decide)
   ·obtain⟨z,_,q⟩:=Jk.mp hy;rw[<- q];simp
   ·rw[Jd];refine Xd (Xp _ _) ?_;unfold numbers;rw[Jd,U4];exact G.ml
 | published a b=>
   simp only[does] at e;cases e;cases q:lastNets s a b with
   |none=>simp
   | some l=>
     show (told l).length+1<=_;have:=qhg l;have:=q3k G q;omega
 |state=>simp only[does] at e;cases e;simp
theorem q9w{s:State}{c:Call}(G:Good s): (step s c).2.length<=30011:=by
 unfold step;cases e:does s c with
 |error z=>simp
 |ok x=>obtain⟨t,l⟩:=x;have:=q0q G e;simp;omega
theorem q9v{s:State}{c:List (List Int)}(G:Good s): (stepNumbers s c).2.length<=30011:=by
 unfold stepNumbers;cases decode c with
 |none=>simp
 |some c=>exact q9w G
theorem qve{a:Nat}: ∀ {ds:List Device},Chain ds->(∀ d,ds.head?=some d->d.start<=a)->∃ pre y post,ds=pre++y::post/\y.start<=a/\∀ z∈post,a<z.start
 |[],hc,_=>hc.elim
 |[d],_,h=>⟨[],d,[],rfl,h d rfl,fun _ h=>nomatch h⟩
 | d::x::r,hc,h=>by
   by_cases hx:x.start<=a
   ·obtain⟨pre,y,post,e,h1,h2⟩:=qve (ds:=x::r) hc.tail (fun d hd=>by cases hd;exact hx);exact⟨d::pre,y,post,by rw[e];rfl,h1,h2⟩
   ·refine⟨[],d,x::r,rfl,h d rfl,fun z hz=>?_⟩;have hi:=hc.tail.inc;rcases Jf.mp hz with rfl|q
    ·omega
    ·have h5:x.start<z.start:=(Ju.mp hi).1 z.start (Jk.mpr ⟨z,q,rfl⟩);omega
theorem qmg:∀ {l:List Nat} {i a b:Nat},Inc l->l[i]?=some a->l[i+1]?=some b->a<b/\∀ t∈l,t<=a\/b<=t
 |[],_,_,_,_,h,_=>by simp at h
 |[x],i,a,b,_,h,h2=>by cases i<;>simp at h2
 | x::y::l,0,a,b,hi,h,h2=>by
   simp at h h2;subst h;subst h2;have h1:=Ju.mp hi;refine⟨h1.1 y (Jh ..),fun t ht=>?_⟩;rcases Jf.mp ht with rfl|q
   ·exact .inl (Jp _)
   ·rcases Jf.mp q with rfl|q
    ·exact .inr (Jp _)
    ·exact .inr (Xj ((Ju.mp h1.2).1 t q))
 | x::y::l,i+1,a,b,hi,h,h2=>by
   have h1:=Ju.mp hi;obtain⟨h3,h4⟩:=qmg (l:=y::l) (i:=i) h1.2 (by simpa using h) (by simpa using h2);refine⟨h3,fun t ht=>?_⟩;rcases Jf.mp ht with rfl|q
   ·refine .inl (Xj (h1.1 a ?_));exact J0 (i:=i) (by simpa using h)
   ·exact h4 t q
def Shown(st:List (Nat×Int))(y:Device)(t:Nat): Prop:=t=y.start\/(∃ v,y.finish=some (t,v))\/∃ v,st.lookup t=some v
theorem qre{st:List (Nat×Int)}{t:Nat}(hs:Inc (st.map (·.1)))(h:t∈st.map (·.1)): ∃ v,st.lookup t=some v:=by
 obtain⟨e,he,rfl⟩:=Jk.mp h;exact⟨e.2,(lookup_mem hs.nodup).mpr he⟩
theorem qlf:∀ {pre:List Device} {y z:Device} {post:List Device},Chain (pre++y::z::post)->∃ v,y.finish=some (z.start,v)
 |[],_,_,_,h=>h.1
 |[p],y,z,post,h=>qlf (pre:=[]) (Chain.tail (d:=p) (x:=y) h)
 |p::p'::pre,y,z,post,h=>qlf (pre:=p'::pre) (Chain.tail (d:=p) (x:=p') h)
theorem q7r{s:State}{k:Nat}{x:Meter}(G:Good s)(hm:meter? s k=some x){i a b:Nat}(ha:(kn s k)[i]?=some a)(hb:(kn s k)[i+1]?=some b):
  ∃ y,qd6 x.devices a=some y/\y∈x.devices/\Shown (qa2 s k) y a/\Shown (qa2 s k) y b:=by
 have hc:=(G.met hm).chain;have hs:=qki (k:=k) G;have hin:=st_in G hm;obtain⟨hab,hadj⟩:=qmg (qfx G hm) ha hb;have hmem:∀ t,t∈kn s k↔t∈x.devices.map (·.start)\/t∈(qa2 s k).map (·.1)\/∃ v,endOf x.devices=some (t,v):=fun t=>by rw[qgp hm];exact qmt hc hin t
 have ha':=(hmem a).mp (J0 ha);have hb':=(hmem b).mp (J0 hb);have hle:∀ e,endOf x.devices=some e->∀ t∈kn s k,t<=e.1:=fun e he t ht=>by
  rcases(hmem t).mp ht with h|h|⟨v,h⟩
  ·obtain⟨d,hd,rfl⟩:=Jk.mp h;exact Xj (hc.qhc he d hd)
  ·obtain⟨d,hd,hi⟩:=hin t h;exact Xj (hc.qms hd hi he)
  ·rw[he] at h;cases h;exact Jp _
 have hhd:∀ d,x.devices.head?=some d->d.start<=a:=fun d hd=>by
  have hi:=hc.inc;cases e:x.devices with
  |nil=>rw[e] at hd;cases hd
  | cons d' r=>
    rw[e] at hd hi;cases hd;rcases ha' with h|h|⟨v,h⟩
    ·rw[e] at h;rcases Jf.mp h with q|q
     ·exact Qp q.symm
     ·exact Xj ((Ju.mp hi).1 a q)
    ·obtain⟨d2,hd2,hi2⟩:=hin a h;rw[e] at hd2;rcases Jf.mp hd2 with rfl|q
     ·exact Xj hi2.1
     ·have h5:d.start<d2.start:=(Ju.mp hi).1 d2.start (Jk.mpr ⟨d2,q,rfl⟩);have:=hi2.1;omega
    ·exact Xj (hc.qhc h d (by rw[e];exact Jh ..))
 obtain⟨pre,y,post,e,h1,h2⟩:=qve hc hhd;have hy:y∈x.devices:=by rw[e];simp
 refine⟨y,by rw[e];exact qpr h1 h2,hy,?_,?_⟩
 ·rcases ha' with h|h|⟨v,h⟩
  ·left
   obtain⟨d,hd,rfl⟩:=Jk.mp h;have hi:=hc.inc;rw[e,Jv,Jq] at hi;rw[e] at hd;rcases J4.mp hd with q|q
   ·have:=(Zf.mp hi).2.2 d.start (Jk.mpr ⟨d,q,rfl⟩) y.start (Jh ..);omega
   ·rcases Jf.mp q with rfl|q
    ·rfl
    ·have:=h2 d q;omega
  ·exact .inr (.inr (qre hs h))
  ·exfalso;have:=hle _ h b (J0 hb);have:b<=a:=this;omega
 ·rcases hb' with h|h|⟨v,h⟩
  ·right;left
   obtain⟨d,hd,hdb⟩:=Jk.mp h;cases post with
   | nil=>
     exfalso;have hi:=hc.inc;rw[e,Jv,Jq] at hi;rw[e] at hd;rcases J4.mp hd with q|q
     ·have:=(Zf.mp hi).2.2 d.start (Jk.mpr ⟨d,q,rfl⟩) y.start (Jh ..);omega
     ·rcases Jf.mp q with rfl|q
      ·omega
      ·cases q
   | cons z post=>
     have hz:z.start=b:=by
      have hzk:z.start∈kn s k:=(hmem _).mpr (.inl (Jk.mpr ⟨z,by rw[e];simp,rfl⟩));have h3:=h2 z (Jh ..);rcases hadj _ hzk with q|q
      ·omega
      ·have hi:=hc.inc;rw[e] at hd hi;have hd2:d=z\/d∈post:=by
        rw[Jv,Jq] at hi;rcases J4.mp hd with q|q
        ·have:=(Zf.mp hi).2.2 d.start (Jk.mpr ⟨d,q,rfl⟩) y.start (Jh ..);omega
        ·rcases Jf.mp q with rfl|q
         ·omega
         ·exact Jf.mp q
       rcases hd2 with rfl|q2
       ·exact hdb
       ·rw[Jv,Jq,Jq] at hi;have hi2:=(Zf.mp hi).2.1;have:=(Ju.mp (Ju.mp hi2).2).1 d.start (Jk.mpr ⟨d,q2,rfl⟩);omega
     rw[e] at hc;obtain⟨v,hv⟩:=qlf hc;exact⟨v,by rw[hv,hz]⟩
  ·exact .inr (.inr (qre hs h))
  ·right;left
   cases post with
   | nil=>
     refine⟨v,?_⟩;unfold endOf at h;rw[e] at h;simpa using h
   | cons z post=>
     exfalso;have hzk:z.start∈kn s k:=(hmem _).mpr (.inl (Jk.mpr ⟨z,by rw[e];simp,rfl⟩));have h3:=h2 z (Jh ..);have h4:=hc.qhc h z (by rw[e];simp);have h4:z.start<b:=h4;rcases hadj _ hzk with q|q<;>omega
def qft:Nat->Nat
 | 1=>9 | 2=>4 | 3=>6 | 4=>3 | 5=>2 | 6=>3 | 7=>1 | 8=>2 | 9=>2 | 10=>2 | 11=>2 | 12=>3 | 13=>2 | 14=>2 | 15=>4 | 16=>3 | 17=>2 | 18=>1 | 19=>2 | 20=>1 | 21=>2|_=>0
theorem q7q{p:Int}{n m:Nat}(h:PyVbemai.shape p=some (n,m)): (p=0/\n=0/\m=1)\/∃ k:Nat,p=(k:Int)/\1<=k/\k<=22/\m=0/\n=qft k:=by
 have key:∀ k:Nat,p=(k:Int)->1<=k->k<=22->some (qft k,0)=some (n,m)->∃ k:Nat,p=(k:Int)/\1<=k/\k<=22/\m=0/\n=qft k:=fun k h1 h2 h3 h4=>by
  cases h4;exact⟨k,h1,h2,h3,rfl,rfl⟩
 unfold PyVbemai.shape at h;by_cases e:p=0
 ·rw[Je e] at h;cases h;exact .inl ⟨e,rfl,rfl⟩
 rw[Jc e] at h;right
 by_cases e:p=1
 ·rw[Je e] at h;exact key 1 e (by decide) (by decide) h
 rw[Jc e] at h;by_cases e:p=2
 ·rw[Je e] at h;exact key 2 e (by decide) (by decide) h
 rw[Jc e] at h;by_cases e:p=3
 ·rw[Je e] at h;exact key 3 e (by decide) (by decide) h
 rw[Jc e] at h;by_cases e:p=4
 ·rw[Je e] at h;exact key 4 e (by decide) (by decide) h
 rw[Jc e] at h;by_cases e:p=5
 ·rw[Je e] at h;exact key 5 e (by decide) (by decide) h
 rw[Jc e] at h;by_cases e:p=6
 ·rw[Je e] at h;exact key 6 e (by decide) (by decide) h
 rw[Jc e] at h;by_cases e:p=7
 ·rw[Je e] at h;exact key 7 e (by decide) (by decide) h
 rw[Jc e] at h;by_cases e:p=8
 ·rw[Je e] at h;exact key 8 e (by decide) (by decide) h
 rw[Jc e] at h;by_cases e:p=9
 ·rw[Je e] at h;exact key 9 e (by decide) (by decide) h
 rw[Jc e] at h;by_cases e:p=10
 ·rw[Je e] at h;exact key 10 e (by decide) (by decide) h
 rw[Jc e] at h;by_cases e:p=11
 ·rw[Je e] at h;exact key 11 e (by decide) (by decide) h
 rw[Jc e] at h;by_cases e:p=12
 ·rw[Je e] at h;exact key 12 e (by decide) (by decide) h
 rw[Jc e] at h;by_cases e:p=13
 ·rw[Je e] at h;exact key 13 e (by decide) (by decide) h
 rw[Jc e] at h;by_cases e:p=14
 ·rw[Je e] at h;exact key 14 e (by decide) (by decide) h
 rw[Jc e] at h;by_cases e:p=15
 ·rw[Je e] at h;exact key 15 e (by decide) (by decide) h
 rw[Jc e] at h;by_cases e:p=16
 ·rw[Je e] at h;exact key 16 e (by decide) (by decide) h
 rw[Jc e] at h;by_cases e:p=17
 ·rw[Je e] at h;exact key 17 e (by decide) (by decide) h
 rw[Jc e] at h;by_cases e:p=18
 ·rw[Je e] at h;exact key 18 e (by decide) (by decide) h
 rw[Jc e] at h;by_cases e:p=19
 ·rw[Je e] at h;exact key 19 e (by decide) (by decide) h
 rw[Jc e] at h;by_cases e:p=20
 ·rw[Je e] at h;exact key 20 e (by decide) (by decide) h
 rw[Jc e] at h;by_cases e:p=21
 ·rw[Je e] at h;exact key 21 e (by decide) (by decide) h
 rw[Jc e] at h;by_cases e:p=22
 ·rw[Je e] at h;exact key 22 e (by decide) (by decide) h
 rw[Jc e] at h;cases h
theorem qx0{p:Int}{r:List Int}{c:List (List Int)}{t:List Int}(h:PyFlat.call PyVbemai.shape (p::r)=some (c,t)):
  (p=0/\∃ (n:Nat) (r':List Int),r=(n:Int)::r'/\n<=r'.length/\c=[[0],r'.take n]/\t=r'.drop n)\/∃ k:Nat,p=(k:Int)/\1<=k/\k<=22/\qft k<=r.length/\c=[(k:Int)::r.take (qft k)]/\t=r.drop (qft k):=by
 cases hs:PyVbemai.shape p with
 |none=>rw[PyFlat.call,hs] at h;cases h
 | some x=>
   obtain⟨n,m⟩:=x;rcases q7q hs with ⟨rfl,rfl,rfl⟩|⟨k,rfl,h1,h2,rfl,rfl⟩
   ·exact .inl ⟨rfl,qo9 h⟩
   ·obtain⟨g1,g2,g3⟩:=call_plain hs h;exact .inr ⟨k,rfl,h1,h2,g1,g2,g3⟩
theorem q95(a:List Int)(r:List (List Int)): PyFlat.told (a::r)=(a.length:Int)::(a++PyFlat.told r):=by
 unfold PyFlat.told;rw[U1];rfl
end QM
namespace L2
open PySem PySem.Spec PyProof.Rows
abbrev Key:=Sum Int Str
def qbr:Key->Value->Bool
 | .inl k,v=>Value.isInt k v
 | .inr x,v=>Value.isStrOf x v
def keyH(w:World): Key->Int
 | .inl k=>hashInt k
 | .inr x=>hashStr w x
theorem qd8:∀ {k:Key} {v:Value},qbr k v=true->(∃ i t,k=Sum.inl i/\v=Value.int i t)\/(∃ x t,k=Sum.inr x/\v=Value.str x t)
 | .inl i,v,h=>by
   obtain⟨t,e⟩:=Value.isInt_shape (k:=i) (v:=v) h;exact .inl ⟨i,t,rfl,e⟩
 | .inr x,v,h=>by
   obtain⟨t,e⟩:=Value.isStrOf_shape (x:=x) (v:=v) h;exact .inr ⟨x,t,rfl,e⟩
theorem q3b(i:Int)(t:Tok): qbr (.inl i) (.int i t)=true:=by simp[qbr,Value.isInt]
theorem q3c(x:Str)(t:Tok): qbr (.inr x) (.str x t)=true:=by simp[qbr,Value.isStrOf]
theorem key_ll(a b:Int): decide ((Sum.inl a:Key)=Sum.inl b)=(a==b):=by
 by_cases e:a=b
 ·subst e;simp
 ·have h:¬ (Sum.inl a:Key)=Sum.inl b:=fun q=>e (Wx q);rw[J7 h];exact(Yu.mpr e).symm
theorem key_rr(a b:Str): decide ((Sum.inr a:Key)=Sum.inr b)=decide (a=b):=by
 by_cases e:a=b
 ·subst e;simp
 ·have h:¬ (Sum.inr a:Key)=Sum.inr b:=fun q=>e (Sum.inr.inj q);rw[J7 h,J7 e]
theorem key_lr(a:Int)(b:Str): decide ((Sum.inl a:Key)=Sum.inr b)=false:=J7 (fun q=>nomatch q)
theorem key_rl(a:Str)(b:Int): decide ((Sum.inr a:Key)=Sum.inl b)=false:=J7 (fun q=>nomatch q)
def qao(prog:Program)(w:World): PySem.KeyKind prog w Key where
 is:=qbr
 hash:=keyH w
 inj:=fun v a b ha hb=>by
  rcases qd8 ha with ⟨i,t,rfl,rfl⟩|⟨x,t,rfl,rfl⟩
  ·rcases qd8 hb with ⟨j,u,rfl,e⟩|⟨y,u,rfl,e⟩
   ·injection e with e1 _;rw[e1]
   ·exact nomatch e
  ·rcases qd8 hb with ⟨j,u,rfl,e⟩|⟨y,u,rfl,e⟩
   ·exact nomatch e
   ·injection e with e1 _;rw[e1]
 byValue:=fun k v h=>by
  rcases qd8 h with ⟨i,t,rfl,rfl⟩|⟨x,t,rfl,rfl⟩<;>rfl
 pyHash:=fun hv h=>by
  rcases qd8 hv with ⟨i,t,rfl,rfl⟩|⟨x,t,rfl,rfl⟩
  ·exact wpAny_pyHash_int h
  ·exact wpAny_pyHash_str h
 eqBool:=fun hu hv h=>by
  rcases qd8 hu with ⟨i,t,rfl,rfl⟩|⟨x,t,rfl,rfl⟩
  ·rcases qd8 hv with ⟨j,u,rfl,rfl⟩|⟨y,u,rfl,rfl⟩
   ·rw[key_ll] at h;exact wpAny_eqBool_int h
   ·rw[key_lr] at h;exact SeqAt.EqAt.int_str i t y u _ _ _ _ h
  ·rcases qd8 hv with ⟨j,u,rfl,rfl⟩|⟨y,u,rfl,rfl⟩
   ·rw[key_rl] at h;exact SeqAt.EqAt.str_int x t j u _ _ _ _ h
   ·rw[key_rr] at h;exact wpAny_eqBool_str h
 «strs»:=fun k x t v h=>by
  rcases qd8 h with ⟨i,u,rfl,e⟩|⟨y,u,rfl,e⟩
  ·exact nomatch e
  ·injection e with e1 _;subst e1;cases v<;>rfl
theorem q33(prog:Program)(w:World)(i:Int)(t:Tok): (qao prog w).is (.inl i) (.int i t)=true:=q3b i t
theorem q34(prog:Program)(w:World)(x:Str)(t:Tok): (qao prog w).is (.inr x) (.str x t)=true:=q3c x t
inductive V where
 |non|bl (b:Bool)|int (i:Int)|str (x:Str)|byt (b:Array UInt8)|flt (b:UInt64)|ref (a:Addr)|ty (n:String)
 deriving DecidableEq
def RelV:V->Value->Prop
 | .non,u=>u=Value.none
 | .bl b,u=>u=Value.bool b
 | .int i,u=>∃ t,u=Value.int i t
 | .str x,u=>∃ t,u=Value.str x t
 | .byt b,u=>∃ t,u=Value.bytes b t
 | .flt b,u=>∃ t,u=Value.float b t
 | .ref a,u=>u=Value.ref a
 | .ty n,u=>u=Value.type n
abbrev Vals:List V->List Value->Prop:=Paired RelV
theorem Vals.length{xs:List V}{us:List Value}(r:Vals xs us): xs.length=us.length:=Zr r
theorem Vals.get:∀ {xs:List V} {us:List Value} {i:Nat} {x:V},Vals xs us->xs[i]?=some x->∃ u,us[i]?=some u/\RelV x u
 |_,_,_,_,.nil,e=>by simp at e
 |_,_,0,_,.cons r _,e=>by simp at e;subst e;exact⟨_,rfl,r⟩
 | _,_,i+1,x,.cons _ t,e=>by
   obtain⟨u,h1,h2⟩:=Vals.get (i:=i) (x:=x) t (by simpa using e);exact⟨u,by simpa using h1,h2⟩
theorem Vals.set{x:V}{u:Value}(r:RelV x u): ∀ {xs:List V} {us:List Value} (i:Nat),Vals xs us->Vals (xs.set i x) (us.set i u)
 |_,_,_,.nil=>.nil
 |_,_,0,.cons _ t=>.cons r t
 |_,_,i+1,.cons q t=>.cons q (Vals.set r i t)
theorem Vals.append:∀ {xs ys:List V} {us ws:List Value},Vals xs us->Vals ys ws->Vals (xs++ys) (us++ws)
 |_,_,_,_,.nil,s=>s
 |_,_,_,_,.cons r t,s=>.cons r (Vals.append t s)
theorem Vals.take:∀ {xs:List V} {us:List Value} (n:Nat),Vals xs us->Vals (xs.take n) (us.take n)
 |_,_,0,_=>.nil
 |_,_,_+1,.nil=>.nil
 |_,_,n+1,.cons r t=>.cons r (Vals.take n t)
theorem Vals.drop:∀ {xs:List V} {us:List Value} (n:Nat),Vals xs us->Vals (xs.drop n) (us.drop n)
 |_,_,0,r=>r
 |_,_,_+1,.nil=>.nil
 |_,_,n+1,.cons _ t=>Vals.drop n t
def Qch:Option V->Option Value->Prop
 |some v,some u=>RelV v u
 |none,none=>True
 |_,_=>False
def KV{κ:Type}: List (κ×V)->List (κ×Value)->Prop:=Paired fun (p:κ×V) (q:κ×Value)=>p.1=q.1/\RelV p.2 q.2
def kV:Key->V
 | .inl i=>.int i
 | .inr x=>.str x
inductive HO where
 |lst (xs:List V)
 |tup (xs:List V)
 |dK (kvs:List (Key×V))|dT (kvs:List (List Key×V))
 |set (S:Int->Bool) (n:Nat)
 |ins (C dx:Addr) (fs:List (Str×V))
 |own (x:Addr)
 |xd (fs:List (Str×V))
 |met (f x:Addr)
 |rng (lo hi:Int)
 |frz (o:Obj) (u:HO)
 |tbl (ps:Array Value)
 |ext (φ:Heap->Prop)
abbrev Hp:=Addr->Option HO
def upd(H:Hp)(a:Addr)(o:HO): Hp:=fun b=>if b=a then some o else H b
theorem kq{H:Hp}{a:Addr}{o:HO}: upd H a o a=some o:=by unfold upd;rw[Je rfl]
theorem qc{H:Hp}{a b:Addr}{o:HO}(h:b≠a): upd H a o b=H b:=by unfold upd;rw[Jc h]
theorem qbt{H:Hp}{a:Addr}{o u:HO}: upd (upd H a o) a u=upd H a u:=by
 funext b;unfold upd;split<;>rfl
theorem ne_of{H:Hp}{a b:Addr}{o u:HO}(h:H a=some o)(h':H b=some u)(d:o≠u): a≠b:=by
 intro e;subst e;rw[h] at h';exact d (Jj h')
theorem vz{H:Hp}{a b:Addr}{o:HO}(h:H a=some o)(h':H b=none): a≠b:=by
 intro e;subst e;rw[h] at h';cases h'
section
variable (P:Program) (w:World)
def Qaw(H:Hp)(h:Heap)(a:Addr): HO->Prop
 | .lst xs=>xs.length<=sizeLine/\∃ (its:List Value) (n:Nat),Vals xs its/\h.get? a=some { cls:=.type "list",data:=.seq its.toArray n }
 | .tup xs=>xs.length<=sizeLine/\∃ its:List Value,Vals xs its/\IsTup h a its.toArray
 | .dK kvs=>kvs.length<=sizeLine/\(a==sysModules)=false/\∃ vs,KV kvs vs/\h.DictOf (qao P w) a vs
 | .dT kvs=>kvs.length<=sizeLine/\(a==sysModules)=false/\∃ xs:List (List Key×Addr×Value),
   Paired (fun (p:List Key×V) (q:List Key×Addr×Value)=>p.1=q.1/\H q.2.1=some (.tup (p.1.map kV))/\RelV p.2 q.2.2) kvs xs /\
   ∃ o es ep,h.get? a=some o/\o.ExactDict/\o.data = .dict es ep/\es.toList=xs.map (entryOfKey (tupleKind (qao P w)))/\(xs.map (·.1)).Nodup
 | .set S n=>h.SetOf (intKind P w) a S n
 | .ins C dx fs=>H dx=some (.own a)/\fs.length<=1000/\dx≠a/\h.get? a=some (PySem.W.instObj C dx) /\
   ∃ mA,h.Ns1 dx mA/\(∀ f,Qch (fs.lookup f) (mA f))/\PySem.Within mA (fs.map (·.1))
 | .own _=>∃ o,h.get? a=some o
 | .xd fs=>∃ mA,h.Ns1 a mA/\∀ f,Qch (fs.lookup f) (mA f)
 | .rng lo hi=>∃ t u v,h.get? a=some { cls:=.type "range",data:=.fields #[.int lo t,.int hi u,.int 1 v] }
 | .frz o u=>h.get? a=some o/\Qaw H h a u
 | .tbl ps=>h.get? a=some { cls:=.none,data:=.fields ps }
 | .met f x=>h.get? a=some (PySem.W.methodObj (.ref f) (.ref x))
 | .ext φ=>φ h/\(∃ o,h.get? a=some o)/\∀ h1 h2:Heap,φ h1->(∀ o,h1.get? a=some o->h2.get? a=some o)->φ h2
def HOk(H:Hp)(h:Heap): Prop:=∀ a o,H a=some o->Qaw P w H h a o
end
section
variable {P:Program} {w:World} {H H':Hp} {h h':Heap} {a:Addr} {o:HO}
theorem Qaw.lt(x:Qaw P w H h a o): a<h.objs.size:=by
 cases o with
 |lst xs=>obtain⟨_,_,_,_,e⟩:=x;exact Jl e
 |tup xs=>obtain⟨_,_,_,p⟩:=x;exact p.lt
 |dK kvs=>obtain⟨_,_,_,_,o,_,_,e,_⟩:=x;exact Jl e
 |dT kvs=>obtain⟨_,_,_,_,o,_,_,e,_⟩:=x;exact Jl e
 |set S n=>obtain⟨o,_,_,_,e,_⟩:=x;exact Jl e
 |ins C dx fs=>obtain⟨_,_,_,e,_⟩:=x;exact Jl e
 |own y=>obtain⟨_,e⟩:=x;exact Jl e
 |xd fs=>obtain⟨_,⟨_,_,_,e,_⟩,_⟩:=x;exact Jl e
 |rng lo hi=>obtain⟨_,_,_,e⟩:=x;exact Jl e
 |frz ob u=>obtain⟨e,_⟩:=x;exact Jl e
 |tbl ps=>exact Jl (show h.get? a=some _ from x)
 |met f y=>exact Jl (show h.get? a=some _ from x)
 |ext φ=>obtain⟨_,⟨_,e⟩,_⟩:=x;exact Jl e
theorem Paired.mapP{α β:Type}{F G:α->β->Prop}: ∀ {l₁:List α} {l₂:List β},Paired F l₁ l₂->(∀ a b,F a b->G a b)->Paired G l₁ l₂
 |_,_,.nil,_=>.nil
 |_,_,.cons r t,f=>.cons (f _ _ r) (Paired.mapP t f)
theorem Qaw.stay(x:Qaw P w H h a o)(k:∀ b u,(b=a\/H b=some (.own a))->h.get? b=some u->h'.get? b=some u)
  (ho:∀ b,H b=some (.own a)->H' b=some (.own a))(ht:∀ b xs,H b=some (.tup xs)->H' b=some (.tup xs)): Qaw P w H' h' a o:=by
 induction o with
 |lst xs=>obtain⟨z,its,n,r,e⟩:=x;exact⟨z,its,n,r,k _ _ (.inl rfl) e⟩
 |tup xs=>obtain⟨z,its,r,ob,e,c⟩:=x;exact⟨z,its,r,ob,k _ _ (.inl rfl) e,c⟩
 |dK kvs=>obtain⟨z,y,vs,r,ob,es,ep,e,c⟩:=x;exact⟨z,y,vs,r,ob,es,ep,k _ _ (.inl rfl) e,c⟩
 | dT kvs=>
   obtain⟨z,y,xs,r,ob,es,ep,e,c⟩:=x;exact⟨z,y,xs,Paired.mapP r fun p q z=>⟨z.1,ht _ _ z.2.1,z.2.2⟩,ob,es,ep,k _ _ (.inl rfl) e,c⟩
 |set S n=>obtain⟨ob,es,ep,t,e,c⟩:=x;exact⟨ob,es,ep,t,k _ _ (.inl rfl) e,c⟩
 | ins C dx fs=>
   obtain⟨d,z,ne,e,mA,⟨od,es,ep,e2,c⟩,r⟩:=x;exact⟨ho _ d,z,ne,k _ _ (.inl rfl) e,mA,⟨od,es,ep,k _ _ (.inr d) e2,c⟩,r⟩
 |own y=>obtain⟨ob,e⟩:=x;exact⟨ob,k _ _ (.inl rfl) e⟩
 |xd fs=>obtain⟨mA,⟨od,es,ep,e,c⟩,r⟩:=x;exact⟨mA,⟨od,es,ep,k _ _ (.inl rfl) e,c⟩,r⟩
 |rng lo hi=>obtain⟨t,u,v,e⟩:=x;exact⟨t,u,v,k _ _ (.inl rfl) e⟩
 |frz ob u ih=>obtain⟨e,q⟩:=x;exact⟨k _ _ (.inl rfl) e,ih q⟩
 | tbl ps=>
   have e:h.get? a=some { cls:=.none,data:=.fields ps }:=x;show h'.get? a=some { cls:=.none,data:=.fields ps };exact k a _ (.inl rfl) e
 | met f y=>
   have e:h.get? a=some (PySem.W.methodObj (.ref f) (.ref y)):=x;show h'.get? a=some (PySem.W.methodObj (.ref f) (.ref y));exact k a _ (.inl rfl) e
 |ext φ=>obtain⟨p,⟨o,e⟩,st⟩:=x;exact⟨st _ _ p fun o q=>k _ _ (.inl rfl) q,⟨o,k _ _ (.inl rfl) e⟩,st⟩
theorem HOk.lt(x:HOk P w H h)(e:H a=some o): a<h.objs.size:=(x a o e).lt
theorem HOk.fresh(x:HOk P w H h)(e:h.objs.size<=a): H a=none:=by
 cases q:H a with
 |none=>rfl
 |some u=>exact absurd (Xk (x.lt q) e) (Yd _)
theorem HOk.kept(x:HOk P w H h)(k:∀ b u,h.get? b=some u->h'.get? b=some u): HOk P w H h':=fun a o e=>
 (x a o e).stay (fun b u _ q=>k b u q) (fun _ q=>q) fun _ _ q=>q
theorem HOk.laid(x:HOk P w H h)(k:∀ b u,h.get? b=some u->h'.get? b=some u)(hp:h.objs.size<=a)(new:Qaw P w (upd H a o) h' a o): HOk P w (upd H a o) h':=fun b u e=>by
 have hn:=x.fresh hp;by_cases hb:b=a
 ·subst hb;rw[kq] at e;cases e;exact new
 ·rw[qc hb] at e;exact(x b u e).stay (fun c v _ q=>k c v q) (fun c q=>by rw[qc (vz q hn)];exact q) fun c xs q=>by rw[qc (vz q hn)];exact q
end
def Rd(H:Hp)(a:Addr)(u:HO): Prop:=H a=some u\/∃ o,H a=some (.frz o u)
theorem Rd.ok{P:Program}{w:World}{H:Hp}{h:Heap}{a:Addr}{u:HO}(r:Rd H a u)(x:HOk P w H h): Qaw P w H h a u:=by
 rcases r with r|⟨o,r⟩
 ·exact x a u r
 ·obtain⟨_,q⟩:=x a _ r;exact q
def Mut:Option HO->Prop
 |some (.lst _)=>True
 |some (.dK _)=>True
 |some (.dT _)=>True
 |some (.set _ _)=>True
 |some (.ins _ _ _)=>True
 |some (.ext _)=>True
 |_=>False
section
variable {P:Program} {w:World} {H:Hp} {h h':Heap} {x e:Addr} {o':HO}
theorem HOk.write(ok:HOk P w H h)(mu:Mut (H x))(he:e=x\/H e=some (.own x))(k:∀ b u,b≠e->h.get? b=some u->h'.get? b=some u)(heo:∃ u,h'.get? e=some u)
  (new:Qaw P w (upd H x o') h' x o'): HOk P w (upd H x o') h':=fun b u q=>by
 have nown:∀ c y,H c=some (.own y)->c≠x:=fun c y r z=>by subst z;rw[r] at mu;exact mu
 have ntup:∀ c xs,H c=some (.tup xs)->c≠x:=fun c xs r z=>by subst z;rw[r] at mu;exact mu
 by_cases hb:b=x
 ·subst hb;rw[kq] at q;cases q;exact new
 ·rw[qc hb] at q;by_cases hbe:b=e
  ·have q':H b=some (.own x):=by
    rcases he with z|z
    ·exact absurd (hbe.trans z) hb
    ·rw[hbe];exact z
   rw[q] at q';cases q';obtain⟨v,hv⟩:=heo;exact⟨v,by rw[hbe];exact hv⟩
  ·refine(ok b u q).stay (fun c v hc r=>k c v ?_ r) (fun c r=>by rw[qc (nown c b r)];exact r) fun c xs r=>by rw[qc (ntup c xs r)];exact r
   rcases hc with rfl|hc
   ·exact hbe
   ·rintro rfl;rcases he with z|z
    ·exact nown c b hc z
    ·rw[hc] at z;cases z;exact hb rfl
end
structure Un(fs ex:List Addr)(H H':Hp)(h h':Heap): Prop where
 keep:∀ b o,h.get? b=some o->H b=none->b∉fs->b∉ex->h'.get? b=some o
 slot:∀ b o,h.get? b=some o->H b=none->b∈fs->b∉ex->∃ sl,h'.get? b=some { o with slots:=sl }
 free:∀ b o,h.get? b=some o->H b=none->b∉ex->H' b=none
 there:∀ b o,h.get? b=some o->b∉ex->∃ o',h'.get? b=some o'
 tups:∀ b xs,H b=some (.tup xs)->H' b=some (.tup xs)
 qdr:∀ b o u,H b=some (.frz o u)->H' b=some (.frz o u)
 qe5:∀ b ps,H b=some (.tbl ps)->∃ more,H' b=some (.tbl (ps++more))
section
variable {fs fs' ex ex':List Addr} {H H1 H2:Hp} {h h1 h2 h':Heap} {a x e:Addr} {o:HO}
theorem Un.any(u:Un fs ex H H1 h h1){b:Addr}{ob:Obj}(q:h.get? b=some ob)(n:H b=none)(hx:b∉ex): ∃ sl,h1.get? b=some { ob with slots:=sl }:=by
 by_cases hb:b∈fs
 ·exact u.slot b ob q n hb hx
 ·exact⟨ob.slots,u.keep b ob q n hb hx⟩
theorem Un.kept(k:∀ b u,h.get? b=some u->h'.get? b=some u): Un fs ex H H h h':=
 ⟨fun b ob q _ _ _=>k b ob q,fun b ob q _ _ _=>⟨ob.slots,k b ob q⟩,fun _ _ _ n _=>n,fun b ob q _=>⟨ob,k b ob q⟩,fun _ _ q=>q,fun _ _ _ q=>q,fun _ ps q=>⟨#[],by rw[q];simp⟩⟩
theorem Un.refl:Un fs ex H H h h:=Un.kept fun _ _ q=>q
theorem Un.laid(k:∀ b u,h.get? b=some u->h'.get? b=some u)(hp:h.objs.size<=a)(hn:H a=none): Un fs ex H (upd H a o) h h' where
 keep:=fun b u q _ _ _=>k b u q
 slot:=fun b u q _ _ _=>⟨u.slots,k b u q⟩
 free:=fun b u q n _=>by rw[qc (Xl (Xk (Jl q) hp))];exact n
 there:=fun b u q _=>⟨u,k b u q⟩
 tups:=fun b xs q=>by rw[qc (vz q hn)];exact q
 qdr:=fun b u xs q=>by rw[qc (vz q hn)];exact q
 qe5:=fun b ps q=>⟨#[],by rw[qc (vz q hn),q];simp⟩
theorem Un.write(mu:Mut (H x))(he:e=x\/H e=some (.own x))(k:∀ b u,b≠e->h.get? b=some u->h'.get? b=some u)(heo:∃ u,h'.get? e=some u): Un fs ex H (upd H x o) h h':=by
 have hx:∀ b,H b=none->b≠x:=fun b n z=>by subst z;rw[n] at mu;exact mu
 have hb:∀ b,H b=none->b≠e:=fun b n z=>by
  subst z;rcases he with r|r
  ·exact hx b n r
  ·rw[n] at r;cases r
 have hm:∀ b u,H b=some u->¬ Mut (some u)->b≠x:=fun b u q nm z=>by subst z;rw[q] at mu;exact nm mu
 refine⟨fun b u q n _ _=>k b u (hb b n) q,fun b u q n _ _=>⟨u.slots,k b u (hb b n) q⟩,fun b u q n _=>by rw[qc (hx b n)];exact n,fun b u q _=>?_,
  fun b xs q=>by rw[qc (hm b _ q fun z=>z)];exact q,fun b u xs q=>by rw[qc (hm b _ q fun z=>z)];exact q,fun b ps q=>⟨#[],by rw[qc (hm b _ q fun z=>z),q];simp⟩⟩
 by_cases hbe:b=e
 ·subst hbe;exact heo
 ·exact⟨u,k b u hbe q⟩
end
def trk(h:Heap)(H:Hp): List Addr:=(List.range h.objs.size).filter fun a=>(H a).isSome
def qet(h:Heap)(H:Hp): Heap:=PySem.W.hideAll h (trk h H)
theorem q2r(h:Heap)(H:Hp): (qet h H).objs.size=h.objs.size:=PySem.W.hideAll_size _ _
theorem q2q{h:Heap}{H:Hp}{b:Addr}{o:Obj}(e:h.get? b=some o)(n:H b=none): (qet h H).get? b=some o:=
 PySem.W.hideAll_get _ e fun hm=>by
  have q:(H b).isSome=true:=(J2.mp hm).2;rw[n] at q;simp at q
theorem q43{h:Heap}{H:Hp}{b:Addr}{o:Obj}(e:(qet h H).get? b=some o): h.get? b=some o/\H b=none:=by
 have e':h.get? b=some o:=PySem.W.of_hideAll (trk h H) e;refine⟨e',?_⟩;cases q:H b with
 |none=>rfl
 | some x=>
   have hm:b∈trk h H:=J2.mpr ⟨List.mem_range.mpr (Jl e'),by simp[q]⟩;have z:(qet h H).get? b=none:=PySem.W.hideAll_none (trk h H) hm;rw[z] at e;cases e
structure Mod(K:PySem.W.Frag)(mg:Str->Option Value)(base:Heap): Prop where
 kin:K.In base
 glob:base.Ns mainGlobals mg
 blt:∃ mb,base.Ns builtinsNs mb/\∀ x:Str,x≠"__name__"->mb x=bootBuiltins x
 nolimit:base.NoLimit
structure Cx where
 prog:Program
 w:World
 K:PySem.W.Frag
 mg:Str->Option Value
 base:Heap
 A:Around
 N:List Str
 s_0:Shared
 H_0:Hp
 env:Env
 outer:List Env
 stack:List Env
 ex:List Addr
 fn:Str->Bool
 calm:Bool
 pn:List (Addr×Obj)
 xe:Value->Shared->Prop
def frs(l:List Env): List Addr:=l.filterMap (·.frame)
abbrev Cx.fs(X:Cx): List Addr:=frs X.outer
def Vis(sc:Scope)(x:Str): Prop:=sc.names.lookup x=some .local\/sc.names.lookup x=some .cell\/sc.names.lookup x=some .free
def Loc(sc:Scope)(x:Str): Prop:=sc.names.lookup x=some .local\/sc.names.lookup x=some .cell
def Look(env:Env)(h:Heap)(m:Str->Option Value)(x:Str)(u:Value): Prop:=
 (env.kindOf x=some .local/\m x=some u)\/((env.kindOf x=some .cell\/env.kindOf x=some .free)/\∃ c,env.cells.lookup x=some c/\h.IsCell c (some u))
structure Cx.Ok(X:Cx): Prop where
 mod:Mod X.K X.mg X.base
 kind:X.env.scope.kind = .function
 glob:X.env.globals=mainGlobals
 blt:X.env.builtins=builtinsNs
 above:X.s_0.heap.objs.size<=X.env.locals
 inj:∀ x y c,X.env.cells.lookup x=some c->X.env.cells.lookup y=some c->x=y
 has:∀ x,(X.env.kindOf x=some .cell\/X.env.kindOf x=some .free)->∃ c,X.env.cells.lookup x=some c
 cab:∀ x c,X.fn x=true->X.env.cells.lookup x=some c->X.s_0.heap.objs.size<=c
 hd:X.calm=true->X.A.handled=none
 frames:X.A.frames=some X.stack
 stk:X.stack=X.outer\/(X.stack=X.env::X.outer/\X.env.frame=some X.env.locals)
 exf:∀ b∈X.ex,b≠X.env.locals/\∀ x c,X.env.cells.lookup x=some c->c≠b
 bs:∀ b o,X.base.get? b=some o->X.s_0.heap.get? b=some o/\X.H_0 b=none
 bsz:X.base.objs.size<=X.s_0.heap.objs.size
 noex:∀ b o,X.base.get? b=some o->b∉X.ex
 exfs:∀ b∈X.ex,b∉X.fs
 qdf:X.s_0.heap.FunFrames X.base X.outer
 frf:∀ b∈X.fs,X.H_0 b=none
structure Inv(X:Cx)(pins:List (Addr×Obj))(σ:List (Option V))(H:Hp)(s:Shared): Prop where
 ok:X.Ok
 os:s.os=X.s_0.os
 bare:AllBare s.gens
 base:Un X.fs X.ex X.H_0 H X.s_0.heap s.heap
 loc:∃ m,s.heap.Ns X.env.locals m/\∀ (i:Nat) (x:Str) (v:V),X.N[i]?=some x->σ[i]?=some (some v)->Vis X.env.scope x->∃ u,RelV v u/\Look X.env s.heap m x u
 cell:∀ x c,X.env.cells.lookup x=some c->∃ v,s.heap.IsCell c v
 free:H X.env.locals=none
 qc0:∀ x c,X.env.cells.lookup x=some c->H c=none
 pin:∀ p∈X.pn++pins,s.heap.get? p.1=some p.2/\H p.1=none/\p.1≠X.env.locals/\p.1∉X.fs/\∀ v,p.2.data≠.cell v
 hok:HOk X.prog X.w H s.heap
 len:σ.length=X.N.length
section
variable {X:Cx} {pins:List (Addr×Obj)} {σ:List (Option V)} {H H':Hp} {s:Shared} {h':Heap}
theorem Cx.Ok.nofr(ok:X.Ok){b:Addr}{o:Obj}(e:X.base.get? b=some o): b∉X.fs:=fun hb=>by
 have:=(ok.qdf.mem hb).1;rw[e] at this;cases this
theorem Inv.bs(I:Inv X pins σ H s): ∀ b o,X.base.get? b=some o->s.heap.get? b=some o/\H b=none:=fun b o e=>
 ⟨I.base.keep b o (I.ok.bs b o e).1 (I.ok.bs b o e).2 (I.ok.nofr e) (I.ok.noex b o e),I.base.free b o (I.ok.bs b o e).1 (I.ok.bs b o e).2 (I.ok.noex b o e)⟩
theorem Inv.bk(I:Inv X pins σ H s): ∀ b o,X.base.get? b=some o->s.heap.get? b=some o:=fun b o e=>(I.bs b o e).1
theorem Inv.mod(I:Inv X pins σ H s): Mod X.K X.mg X.base:=I.ok.mod
theorem Inv.kIn(I:Inv X pins σ H s): X.K.In s.heap:=I.ok.mod.kin.keeps I.bk
theorem Inv.lt(I:Inv X pins σ H s): X.env.locals<s.heap.objs.size:=let ⟨_,hn,_⟩:=I.loc;hn.lt
theorem Inv.sz(I:Inv X pins σ H s): X.s_0.heap.objs.size<=s.heap.objs.size:=Xd I.ok.above (Xj I.lt)
theorem Inv.nofs(I:Inv X pins σ H s){a:Addr}(h:s.heap.objs.size<=a): a∉X.fs:=fun hb=>by
 obtain⟨_,o,ho,_⟩:=I.ok.qdf.mem hb;exact absurd (Xk (Jl ho) (Xd I.sz h)) (Yd _)
theorem Inv.cne(I:Inv X pins σ H s): ∀ x c,X.env.cells.lookup x=some c->c≠X.env.locals:=fun x c e z=>by
 obtain⟨v,o,ho,hd⟩:=I.cell x c e;obtain⟨m,⟨o',es,ep,ho',hd',_⟩,_⟩:=I.loc;rw[z,ho'] at ho;cases ho;rw[hd'] at hd;cases hd
theorem Inv.qdf(I:Inv X pins σ H s): s.heap.FunFrames X.base X.outer:=by
 have all:∀ (l:List Env),(∀ b∈frs l,b∈X.fs)->X.s_0.heap.FunFrames X.base l->s.heap.FunFrames X.base l:=by
  intro l;induction l with
  |nil=>intro _ _;trivial
  | cons env r ih=>
    intro hs hl;obtain⟨hk,⟨L,o,hf,hn,ho,hd⟩,hr⟩:=hl;have hL:L∈X.fs:=hs L (by unfold frs;rw[Uc,hf];exact Jh);obtain⟨sl,e⟩:=I.base.slot L o ho (I.ok.frf L hL) hL fun z=>I.ok.exfs L z hL;exact⟨hk,⟨L,_,hf,hn,e,hd⟩,ih (fun b hb=>hs b (by unfold frs;rw[Uc,hf];exact Jm _ hb)) hr⟩
 exact all X.outer (fun _ hb=>hb) I.ok.qdf
theorem Inv.stack(I:Inv X pins σ H s): s.heap.FunFrames X.base X.stack:=by
 rcases I.ok.stk with e|⟨e,hf⟩
 ·rw[e];exact I.qdf
 ·rw[e];obtain⟨m,hn,_⟩:=I.loc;refine .cons (by rw[I.ok.kind];decide) hf hn ?_ I.qdf;exact Heap.get?_none_of_le (Xd I.ok.bsz I.ok.above)
theorem Inv.qn4(I:Inv X pins σ H s): ∀ b∈frs X.stack,b∈X.env.locals::X.fs:=fun b hb=>by
 rcases I.ok.stk with e|⟨e,hf⟩
 ·rw[e] at hb;exact Jm _ hb
 ·rw[e] at hb;unfold frs at hb;rw[Uc,hf] at hb;exact hb
theorem Inv.qvi(I:Inv X pins σ H s): ∀ b∈frs X.stack,H b=none:=fun b hb=>by
 rcases Jf.mp (I.qn4 b hb) with e|hb
 ·rw[e];exact I.free
 ·obtain⟨_,o,ho,_⟩:=I.ok.qdf.mem hb;exact I.base.free b o ho (I.ok.frf b hb) fun z=>I.ok.exfs b z hb
theorem Inv.step{g':Array GenState}{t':Nat}{d':Drawn}{ch:List Addr}(I:Inv X pins σ H s)
  (hch:∀ b∈ch,(b∈X.ex\/X.s_0.heap.objs.size<=b)/\b≠X.env.locals/\(∀ x c,X.env.cells.lookup x=some c->c≠b)/\∀ p∈X.pn++pins,p.1≠b)
  (keep:∀ b o,b≠X.env.locals->b∉X.fs->b∉ch->s.heap.get? b=some o->H b=none->h'.get? b=some o)
  (slot:∀ b o,b≠X.env.locals->b∈X.fs->b∉ch->s.heap.get? b=some o->H b=none->∃ sl,h'.get? b=some { o with slots:=sl })(free:∀ b o,b∉ch->s.heap.get? b=some o->H b=none->H' b=none)
  (there:∀ b o,b∉ch->s.heap.get? b=some o->∃ o',h'.get? b=some o')
  (tups:∀ b xs,H b=some (.tup xs)->H' b=some (.tup xs))(qdr:∀ b o u,H b=some (.frz o u)->H' b=some (.frz o u))(qe5:∀ b ps,H b=some (.tbl ps)->∃ more,H' b=some (.tbl (ps++more)))
  (ns:∀ m,s.heap.Ns X.env.locals m->h'.Ns X.env.locals m)(hok:HOk X.prog X.w H' h')(hg:AllBare g'):
  Inv X pins σ H' { s with heap:=h',gens:=g',drawn:=d',toks:=t' }:=by
 have neL:∀ b o,X.s_0.heap.get? b=some o->b≠X.env.locals:=fun b o e=>Xl (Xk (Jl e) I.ok.above);have neC:∀ b o,X.s_0.heap.get? b=some o->b∉X.ex->b∉ch:=fun b o e hx hb=>by
  rcases(hch b hb).1 with z|z
  ·exact hx z
  ·exact absurd (Xk (Jl e) z) (Yd _)
 have cellK:∀ x c,X.env.cells.lookup x=some c->∀ v,s.heap.IsCell c v->h'.IsCell c v:=fun x c e v ⟨o,ho,hd⟩=>by
  have nch:c∉ch:=fun z=>(hch c z).2.2.1 x c e rfl;by_cases hc:c∈X.fs
  ·obtain⟨sl,q⟩:=slot c o (I.cne x c e) hc nch ho (I.qc0 x c e);exact⟨_,q,hd⟩
  ·exact⟨o,keep c o (I.cne x c e) hc nch ho (I.qc0 x c e),hd⟩
 refine⟨I.ok,I.os,hg,⟨fun b o e n hb hx=>?_,fun b o e n hb hx=>?_,fun b o e n hx=>?_,fun b o e hx=>?_,fun b xs e=>tups b xs (I.base.tups b xs e),fun b o xs e=>qdr b o xs (I.base.qdr b o xs e),fun b ps e=>?_⟩,?_,fun x c e=>?_,?_,fun x c e=>?_,fun p hp=>?_,hok,I.len⟩
 ·exact keep b o (neL b o e) hb (neC b o e hx) (I.base.keep b o e n hb hx) (I.base.free b o e n hx)
 ·obtain⟨sl,e1⟩:=I.base.slot b o e n hb hx;obtain⟨sl',e2⟩:=slot b _ (neL b o e) hb (neC b o e hx) e1 (I.base.free b o e n hx);exact⟨sl',e2⟩
 ·obtain⟨o',e1⟩:=I.base.there b o e hx;exact free b o' (neC b o e hx) e1 (I.base.free b o e n hx)
 ·obtain⟨o',e1⟩:=I.base.there b o e hx;exact there b o' (neC b o e hx) e1
 ·obtain⟨m1,e1⟩:=I.base.qe5 b ps e;obtain⟨m2,e2⟩:=qe5 b _ e1;exact⟨m1++m2,by rw[e2,Array.append_assoc]⟩
 ·obtain⟨m,hn,hl⟩:=I.loc;refine⟨m,ns m hn,fun i x v e1 e2 e3=>?_⟩;obtain⟨u,r,l⟩:=hl i x v e1 e2 e3;refine⟨u,r,?_⟩;rcases l with l|⟨k,c,e,z⟩
  ·exact .inl l
  ·exact .inr ⟨k,c,e,cellK x c e _ z⟩
 ·obtain⟨v,z⟩:=I.cell x c e;exact⟨v,cellK x c e v z⟩
 ·obtain⟨m,⟨o,_,_,ho,_⟩,_⟩:=I.loc;exact free _ o (fun z=>(hch _ z).2.1 rfl) ho I.free
 ·obtain⟨v,o,ho,hd⟩:=I.cell x c e;exact free c o (fun z=>(hch c z).2.2.1 x c e rfl) ho (I.qc0 x c e)
 ·obtain⟨e,n,ne,nf,d⟩:=I.pin p hp;have nch:p.1∉ch:=fun z=>(hch p.1 z).2.2.2 p hp rfl;exact⟨keep p.1 p.2 ne nf nch e n,free p.1 p.2 nch e n,ne,nf,d⟩
theorem Inv.un{t':Nat}(I:Inv X pins σ H s)(u:Un X.fs [] H H' s.heap h')(hok:HOk X.prog X.w H' h'): Inv X pins σ H' { s with heap:=h',toks:=t' }:=by
 obtain⟨m,⟨o,es,ep,ho,r⟩,_⟩:=id I.loc;obtain⟨sl,hL⟩:=u.any ho I.free (by simp);exact I.step (g':=s.gens) (d':=s.drawn) (ch:=[]) (fun _ z=>nomatch z) (fun b o _ hb _ e n=>u.keep b o e n hb (by simp)) (fun b o _ hb _ e n=>u.slot b o e n hb (by simp)) (fun b o _ e n=>u.free b o e n (by simp)) (fun b o _ e=>u.there b o e (by simp)) u.tups u.qdr u.qe5 (fun m' hm=>by
  obtain⟨o',es',ep',ho',r'⟩:=hm;rw[ho] at ho';cases ho';exact⟨_,es',ep',hL,r'⟩) hok I.bare
theorem Inv.call{g':Array GenState}{t':Nat}{d':Drawn}{ch:List Addr}(I:Inv X pins σ H s)(u:Un (frs X.stack) ch H H' s.heap h')(hok:HOk X.prog X.w H' h')(hg:AllBare g')
  (hch:∀ b∈ch,(b∈X.ex\/X.s_0.heap.objs.size<=b)/\b≠X.env.locals/\(∀ x c,X.env.cells.lookup x=some c->c≠b)/\∀ p∈X.pn++pins,p.1≠b):
  Inv X pins σ H' { s with heap:=h',gens:=g',drawn:=d',toks:=t' }:=by
 obtain⟨m,⟨o,es,ep,ho,r⟩,_⟩:=id I.loc;obtain⟨sl,hL⟩:=u.any ho I.free fun z=>(hch _ z).2.1 rfl;exact I.step (ch:=ch) hch (fun b o hL hb hc e n=>u.keep b o e n (fun z=>(Jf.mp (I.qn4 b z)).elim hL hb) hc) (fun b o _ _ hc e n=>u.any e n hc) (fun b o hc e n=>u.free b o e n hc) (fun b o hc e=>u.there b o e hc) u.tups u.qdr u.qe5 (fun m' hm=>by
  obtain⟨o',es',ep',ho',r'⟩:=hm;rw[ho] at ho';cases ho';exact⟨_,es',ep',hL,r'⟩) hok hg
theorem Inv.turned{t':Nat}{it:Addr}(I:Inv X pins σ H s)(k:∀ b o,b≠it->s.heap.get? b=some o->h'.get? b=some o)(hn:H it=none)(hL:it≠X.env.locals)
  (h1:it∈X.ex\/X.s_0.heap.objs.size<=it)(h2:∀ x c,X.env.cells.lookup x=some c->c≠it)(h3:∀ p∈X.pn++pins,p.1≠it): Inv X pins σ H { s with heap:=h',toks:=t' }:=by
 have nit:∀ b u,H b=some u->b≠it:=fun b u e z=>by rw[z,hn] at e;cases e
 refine I.step (g':=s.gens) (d':=s.drawn) (ch:=[it]) (fun b hb=>?_) (fun b o _ _ hc e _=>k b o (fun z=>hc (by simp[z])) e) (fun b o _ _ hc e _=>⟨o.slots,k b o (fun z=>hc (by simp[z])) e⟩) (fun _ _ _ _ n=>n)
  (fun b o hc e=>⟨o,k b o (fun z=>hc (by simp[z])) e⟩) (fun _ _ e=>e) (fun _ _ _ e=>e) (fun b ps e=>⟨#[],by rw[e];simp⟩) (fun m hm=>?_) (fun b u e=>?_) I.bare
 ·have e:b=it:=by simpa using hb
  subst e;exact⟨h1,hL,h2,h3⟩
 ·obtain⟨o,es,ep,ho,r⟩:=hm;exact⟨o,es,ep,k _ o (Xb hL) ho,r⟩
 ·refine(I.hok b u e).stay (fun c v hc q=>k c v ?_ q) (fun _ q=>q) fun _ _ q=>q;rcases hc with z|z
  ·rw[z];exact nit b u e
  ·exact nit c _ z
theorem Inv.tok(I:Inv X pins σ H s)(t:Nat): Inv X pins σ H { s with toks:=t }:=I.un (h':=s.heap) (t':=t) Un.refl I.hok
theorem Inv.kept{t':Nat}(I:Inv X pins σ H s)(k:∀ b u,s.heap.get? b=some u->h'.get? b=some u): Inv X pins σ H { s with heap:=h',toks:=t' }:=I.un (Un.kept k) (I.hok.kept k)
theorem Inv.laid{a:Addr}{o:HO}{t':Nat}(I:Inv X pins σ H s)(k:∀ b u,s.heap.get? b=some u->h'.get? b=some u)(hp:s.heap.objs.size<=a)(new:Qaw X.prog X.w (upd H a o) h' a o):
  Inv X pins σ (upd H a o) { s with heap:=h',toks:=t' }:=I.un (Un.laid k hp (I.hok.fresh hp)) (I.hok.laid k hp new)
theorem Inv.write{x e:Addr}{o:HO}{t':Nat}(I:Inv X pins σ H s)(mu:Mut (H x))(he:e=x\/H e=some (.own x))(k:∀ b u,b≠e->s.heap.get? b=some u->h'.get? b=some u)(heo:∃ u,h'.get? e=some u)
  (new:Qaw X.prog X.w (upd H x o) h' x o): Inv X pins σ (upd H x o) { s with heap:=h',toks:=t' }:=I.un (Un.write mu he k heo) (I.hok.write mu he k heo new)
theorem Inv.weak{σ':List (Option V)}(I:Inv X pins σ H s)(hl:σ'.length=σ.length)(w:∀ (i:Nat) v,σ'[i]?=some (some v)->σ[i]?=some (some v)): Inv X pins σ' H s:=
 ⟨I.ok,I.os,I.bare,I.base,let ⟨m,hn,hl'⟩:=I.loc;⟨m,hn,fun i x v e1 e2 e3=>hl' i x v e1 (w i v e2) e3⟩,I.cell,I.free,I.qc0,I.pin,I.hok,hl.trans I.len⟩
theorem Inv.qr6{pins':List (Addr×Obj)}(I:Inv X pins σ H s)(h:∀ p∈pins',s.heap.get? p.1=some p.2/\H p.1=none/\p.1≠X.env.locals/\p.1∉X.fs/\∀ v,p.2.data≠.cell v): Inv X pins' σ H s:=
 ⟨I.ok,I.os,I.bare,I.base,I.loc,I.cell,I.free,I.qc0,fun p hp=>(J4.mp hp).elim (fun z=>I.pin p (Zx _ z)) (h p),I.hok,I.len⟩
theorem qmy{N:List Str}(hN:N.Nodup){i j:Nat}{x:Str}(a:N[i]?=some x)(b:N[j]?=some x): i=j:=by
 obtain⟨h1,e1⟩:=Ji.mp a;obtain⟨h2,e2⟩:=Ji.mp b;exact(List.getElem_inj hN).mp (e1.trans e2.symm)
theorem qvk{M:Model}{A:Around}{E:Value->Shared->Prop}{i:Nat}{x:Str}{v:V}{u:Value}{Q:Unit->Shared->Prop}(I:Inv X pins σ H s)(hN:X.N.Nodup)(hi:X.N[i]?=some x)(hx:Loc X.env.scope x)(r:RelV v u)
  (h:∀ s',Inv X pins (σ.set i (some v)) H s'->(∃ a,Heap.SameBut a s.heap s'.heap/\(a=X.env.locals\/X.env.cells.lookup x=some a))->Q () s')(hf:X.fn x=true\/X.env.scope.names.lookup x=some .local:=by first|exact .inl rfl|exact .inr rfl|assumption): wpAny M A (storeName X.env x u) Q E s:=by
 obtain⟨m,hn,hl⟩:=id I.loc;have hcls:(X.env.scope.kind == .class ||(X.env.scope.kind == .module&&X.env.locals != X.env.globals))=false:=by rw[I.ok.kind];rfl
 have hiσ:i<σ.length:=by rw[I.len];exact(Ji.mp hi).1
 have cne:=I.cne;have tracked:∀ {a:Addr} {h':Heap},(∃ o,s.heap.get? a=some o/\H a=none)->Heap.SameBut a s.heap h'->HOk X.prog X.w H h':=fun {a h'} ha hs b ob e=>by
  obtain⟨_,_,hfree⟩:=ha;refine(I.hok b ob e).stay (fun c w' hc q=>(hs.2 c ?_).trans q) (fun _ q=>q) fun _ _ q=>q;rintro rfl;rcases hc with rfl|hc
  ·rw[hfree] at e;cases e
  ·rw[hfree] at hc;cases hc
 rcases hx with hk|hk
 ·refine wpAny_storeName_local hk hn (fun h' hn' hs=>?_) hcls;obtain⟨oL,_,_,hoL,_⟩:=id hn;refine h _ ⟨I.ok,I.os,I.bare,⟨fun b o e n hb hx=>?_,fun b o e n hb hx=>?_,I.base.free,fun b o e hx=>?_,I.base.tups,I.base.qdr,I.base.qe5⟩,⟨_,hn',fun j y v' e1 e2 e3=>?_⟩,fun y c e=>?_,I.free,I.qc0,fun p hp=>?_,tracked ⟨oL,hoL,I.free⟩ hs,by simpa using I.len⟩ ⟨_,hs,.inl rfl⟩
  ·exact(hs.2 b (Xl (Xk (Jl e) I.ok.above))).trans (I.base.keep b o e n hb hx)
  ·obtain⟨sl,e1⟩:=I.base.slot b o e n hb hx;exact⟨sl,(hs.2 b (Xl (Xk (Jl e) I.ok.above))).trans e1⟩
  ·obtain⟨o',e1⟩:=I.base.there b o e hx;exact⟨o',(hs.2 b (Xl (Xk (Jl e) I.ok.above))).trans e1⟩
  ·by_cases hj:j=i
   ·subst hj;rw[hi] at e1;cases e1;rw[Zp hiσ] at e2;cases e2;exact⟨u,r,.inl ⟨hk,by simp⟩⟩
   ·rw[Zy (Xb hj)] at e2;obtain⟨u',r',q⟩:=hl j y v' e1 e2 e3;refine⟨u',r',?_⟩;rcases q with ⟨k,e⟩|⟨k,c,e,z⟩
    ·refine .inl ⟨k,?_⟩;have:y≠x:=fun e=>hj (qmy hN e1 (e ▸ hi));simp[this,e]
    ·exact .inr ⟨k,c,e,z.sameBut hs (cne y c e)⟩
  ·obtain⟨w',z⟩:=I.cell y c e;exact⟨w',z.sameBut hs (cne y c e)⟩
  ·obtain⟨e,n,ne,nf,d⟩:=I.pin p hp;exact⟨(hs.2 p.1 ne).trans e,n,ne,nf,d⟩
 ·have hfn:X.fn x=true:=by
   rcases hf with z|z
   ·exact z
   ·rw[z] at hk;cases hk
  obtain⟨c,hc⟩:=I.ok.has x (.inl hk);obtain⟨w',z⟩:=I.cell x c hc;refine wpAny_storeName_cell I.ok.kind hk hc z (fun h' hc' hs=>?_);obtain⟨oc,hoc,hocd⟩:=id z;refine h { s with heap:=h' } ⟨I.ok,I.os,I.bare,⟨fun b o e n hb hx=>?_,fun b o e n hb hx=>?_,I.base.free,fun b o e hx=>?_,I.base.tups,I.base.qdr,I.base.qe5⟩,⟨m,hn.sameBut hs (Xb (cne x c hc)),fun j y v' e1 e2 e3=>?_⟩,fun y c' e=>?_,I.free,I.qc0,fun p hp=>?_,tracked ⟨oc,hoc,I.qc0 x c hc⟩ hs,by simpa using I.len⟩ ⟨c,hs,.inr hc⟩
  ·exact(hs.2 b (Xl (Xk (Jl e) (I.ok.cab x c hfn hc)))).trans (I.base.keep b o e n hb hx)
  ·obtain⟨sl,e1⟩:=I.base.slot b o e n hb hx;exact⟨sl,(hs.2 b (Xl (Xk (Jl e) (I.ok.cab x c hfn hc)))).trans e1⟩
  ·obtain⟨o',e1⟩:=I.base.there b o e hx;exact⟨o',(hs.2 b (Xl (Xk (Jl e) (I.ok.cab x c hfn hc)))).trans e1⟩
  ·by_cases hj:j=i
   ·subst hj;rw[hi] at e1;cases e1;rw[Zp hiσ] at e2;cases e2;exact⟨u,r,.inr ⟨.inl hk,c,hc,hc'⟩⟩
   ·rw[Zy (Xb hj)] at e2;obtain⟨u',r',q⟩:=hl j y v' e1 e2 e3;refine⟨u',r',?_⟩;rcases q with q|⟨k,c',e,z'⟩
    ·exact .inl q
    ·refine .inr ⟨k,c',e,z'.sameBut hs ?_⟩;rintro rfl;exact hj (qmy hN e1 (I.ok.inj _ _ _ e hc ▸ hi))
  ·by_cases hcc:c'=c
   ·subst hcc;exact⟨_,hc'⟩
   ·obtain⟨w2,z2⟩:=I.cell y c' e;exact⟨w2,z2.sameBut hs hcc⟩
  ·obtain⟨e,n,ne,nf,d⟩:=I.pin p hp;refine⟨(hs.2 p.1 ?_).trans e,n,ne,nf,d⟩;intro q;rw[q,hoc] at e;have q':oc=p.2:=Jj e;exact d w' (by rw[<- q'];exact hocd)
theorem qvj{M:Model}{A:Around}{E:Value->Shared->Prop}{i:Nat}{x:Str}{v:V}{u:Value}{Q:Unit->Shared->Prop}(I:Inv X pins σ H s)(hN:X.N.Nodup)(hi:X.N[i]?=some x)(hx:Loc X.env.scope x)(r:RelV v u)
  (h:∀ s',Inv X pins (σ.set i (some v)) H s'->Q () s')(hf:X.fn x=true\/X.env.scope.names.lookup x=some .local:=by first|exact .inl rfl|exact .inr rfl|assumption): wpAny M A (storeName X.env x u) Q E s:=
 qvk I hN hi hx r (fun s' I' _=>h s' I') hf
theorem Inv.call'{s':Shared}{ch:List Addr}(I:Inv X pins σ H s)(ho:s'.os=s.os)(u:Un (frs X.stack) ch H H' s.heap s'.heap)(hok:HOk X.prog X.w H' s'.heap)(hg:AllBare s'.gens)
  (hch:∀ b∈ch,(b∈X.ex\/X.s_0.heap.objs.size<=b)/\b≠X.env.locals/\(∀ x c,X.env.cells.lookup x=some c->c≠b)/\∀ p∈X.pn++pins,p.1≠b): Inv X pins σ H' s':=by
 obtain⟨h',g',d',t',o'⟩:=s';have e:o'=s.os:=ho;subst e;exact I.call (g':=g') (t':=t') (d':=d') u hok hg hch
end
abbrev XK:=Value->Option Addr->Hp->Prop
abbrev St:=List (Option V)
abbrev VK:=V->Hp->Prop
abbrev TE:=St->Hp->VK->Prop
abbrev TT:=St->Hp->(Bool->Hp->Prop)->Prop
abbrev TA:=St->Hp->(List V->Hp->Prop)->Prop
structure Ends where
 nx:St->Hp->Prop
 rt:VK
 bk:St->Hp->Prop:=fun _ _=>False
 ct:St->Hp->Prop:=fun _ _=>False
abbrev TS:=Ends->St->Hp->Prop
def EP(X:Cx)(pins:List (Addr×Obj))(σ:St)(Q:VK)(u:Value)(s':Shared): Prop:=∃ v H',Inv X pins σ H' s'/\RelV v u/\Q v H'
def TP(X:Cx)(pins:List (Addr×Obj))(σ:St)(Q:Bool->Hp->Prop)(b:Bool)(s':Shared): Prop:=∃ H',Inv X pins σ H' s'/\Q b H'
def AP(X:Cx)(pins:List (Addr×Obj))(σ:St)(Q:List V->Hp->Prop)(us:List Value)(s':Shared): Prop:=∃ vs H',Inv X pins σ H' s'/\Vals vs us/\Q vs H'
def SP(X:Cx)(pins:List (Addr×Obj))(D:Ends)(f:Flow)(s':Shared): Prop:=
 match f with
 | .next=>∃ σ' H',Inv X pins σ' H' s'/\D.nx σ' H'
 | .brk=>∃ σ' H',Inv X pins σ' H' s'/\D.bk σ' H'
 | .cont=>∃ σ' H',Inv X pins σ' H' s'/\D.ct σ' H'
 | .ret u=>∃ v σ' H',Inv X pins σ' H' s'/\RelV v u/\D.rt v H'
def PE(X:Cx)(e:Expr)(t:TE): Prop:=
 ∀ (pins:List (Addr×Obj)) (s:Shared) (σ:St) (H:Hp) (Q:VK),Inv X pins σ H s->t σ H Q->wpAny (model X.prog X.w) X.A (eval e X.env) (EP X pins σ Q) X.xe s
def PT(X:Cx)(e:Expr)(t:TT): Prop:=
 ∀ (pins:List (Addr×Obj)) (s:Shared) (σ:St) (H:Hp) (Q:Bool->Hp->Prop),Inv X pins σ H s->t σ H Q->wpAny (model X.prog X.w) X.A (isTrue e X.env (eval e X.env)) (TP X pins σ Q) X.xe s
def PW(X:Cx)(e:Expr)(t:TT): Prop:=
 ∀ (whole:Sem Value) (pins:List (Addr×Obj)) (s:Shared) (σ:St) (H:Hp) (Q:Bool->Hp->Prop),Inv X pins σ H s->t σ H Q->wpAny (model X.prog X.w) X.A (isTrue e X.env whole) (TP X pins σ Q) X.xe s
theorem PW.pt{X:Cx}{e:Expr}{t:TT}(h:PW X e t): PT X e t:=h _
def PA(X:Cx)(es:List Expr)(t:TA): Prop:=
 ∀ (pos:Pos) (pins:List (Addr×Obj)) (s:Shared) (σ:St) (H:Hp) (Q:List V->Hp->Prop),Inv X pins σ H s->t σ H Q->wpAny (model X.prog X.w) X.A (spliced (backTo pos (starEach es X.env))) (AP X pins σ Q) X.xe s
def PS(X:Cx)(st:Stmt)(t:TS): Prop:=
 ∀ (pins:List (Addr×Obj)) (s:Shared) (σ:St) (H:Hp) (D:Ends),Inv X pins σ H s->t D σ H->wpAny (model X.prog X.w) X.A (exec st X.env) (SP X pins D) X.xe s
def PSs(X:Cx)(st:List Stmt)(t:TS): Prop:=
 ∀ (pins:List (Addr×Obj)) (s:Shared) (σ:St) (H:Hp) (D:Ends),Inv X pins σ H s->t D σ H->wpAny (model X.prog X.w) X.A (execs st X.env) (SP X pins D) X.xe s
theorem thn{α:Type}{t:Sem α}{Q Q':α->Shared->Prop}{M:Model}{A:Around}{E:Value->Shared->Prop}{s:Shared}(h:wpAny M A t Q E s)(hQ:∀ a s,Q a s->Q' a s): wpAny M A t Q' E s:=Yw h hQ fun _ _ x=>x
section
variable {X:Cx}
def yc(i:Nat): TE:=fun σ H Q=>∃ v,σ[i]?=some (some v)/\Q v H
def tC(v:V): TE:=fun _ H Q=>Q v H
theorem pe_var{i:Nat}{x:Str}{pos:Pos}(hN:X.N[i]?=some x)(hv:Vis X.env.scope x)(hd:(x==("__debug__" : Str))=false:=by decide)(hcd:(x==("__classdict__" : Str))=false:=by decide): PE X (.Name x pos) (yc i):=by
 intro pins s σ H Q I h;obtain⟨v,e,h⟩:=h;obtain⟨m,hn,hl⟩:=I.loc;obtain⟨u,r,l⟩:=hl i x v hN e hv;have fin:EP X pins σ Q u s:=⟨v,H,I,r,h⟩
 rcases l with ⟨hk,hm⟩|⟨hk,c,hc,hcell⟩
 ·exact wpAny_Name (wpAny_loadName_local I.ok.kind hk hn hm fin) hd
 ·rcases hk with hk|hk
  ·exact wpAny_Name (wpAny_loadName_cell I.ok.kind hk hc hcell fin) hd
  ·exact wpAny_Name (wpAny_loadName_free I.ok.kind hk hc hcell fin hcd) hd
theorem vh{i j pos}: PE X (.Constant (.int i) j pos) (tC (.int i)):=fun _ _ _ H _ I h=>wpAny_Constant_int ⟨.int i,H,I.tok _,⟨_,rfl⟩,h⟩
theorem pe_bl{b j pos}: PE X (.Constant (.bool b) j pos) (tC (.bl b)):=fun _ _ _ H _ I h=>Constant_bool ⟨.bl b,H,I,rfl,h⟩
theorem qdy{j pos}: PE X (.Constant .none j pos) (tC .non):=fun _ _ _ H _ I h=>Constant_none ⟨.non,H,I,rfl,h⟩
theorem vo{x j pos}: PE X (.Constant (.str x) j pos) (tC (.str x)):=fun _ _ _ H _ I h=>Calls.Constant_str ⟨.str x,H,I.tok _,⟨_,rfl⟩,h⟩
def Gl(X:Cx)(x:Str): Prop:=X.env.kindOf x=some .globalImplicit
theorem qh2{E:Value->Shared->Prop}{pins:List (Addr×Obj)}{s:Shared}{σ:St}{H:Hp}{x:Str}{u:Value}{pos:Pos}{Q:Value->Shared->Prop}(I:Inv X pins σ H s)(hg:Gl X x)(hm:X.mg x=some u)(h:Q u s)
  (hd:(x==("__debug__" : Str))=false:=by decide): wpAny (model X.prog X.w) X.A (eval (.Name x pos) X.env) Q E s:=
 Calls.Name_function_global I.ok.kind hg (Calls.loadGlobal_global (by rw[I.ok.glob];exact I.mod.glob.keeps I.bk) hm h) hd
theorem qev{E:Value->Shared->Prop}{pins:List (Addr×Obj)}{s:Shared}{σ:St}{H:Hp}{x:Str}{u:Value}{pos:Pos}{Q:Value->Shared->Prop}(I:Inv X pins σ H s)(hg:Gl X x)(hm:X.mg x=none)(hv:bootBuiltins x=some u)(h:Q u s)
  (hn:x≠"__name__":=by decide)(hd:(x==("__debug__" : Str))=false:=by decide): wpAny (model X.prog X.w) X.A (eval (.Name x pos) X.env) Q E s:=by
 obtain⟨mb,h1,h2⟩:=I.mod.blt;exact Calls.Name_function_global I.ok.kind hg (Calls.loadGlobal_builtin (by rw[I.ok.glob];exact I.mod.glob.keeps I.bk) hm (by rw[I.ok.blt];exact h1.keeps I.bk) ((h2 x hn).trans hv) h) hd
theorem q5g{x:Str}{v:V}{u:Value}{pos:Pos}(hg:Gl X x)(hm:X.mg x=some u)(r:RelV v u)(hd:(x==("__debug__" : Str))=false:=by decide): PE X (.Name x pos) (tC v):=
 fun _ _ _ H _ I h=>qh2 I hg hm ⟨v,H,I,r,h⟩ hd
variable {a b:Expr} {ta tb:TE} {pos:Pos}
def PC(X:Cx)(op:CmpOp)(a b:Expr)(t:TE): Prop:=
 ∀ (pins:List (Addr×Obj)) (s:Shared) (σ:St) (H:Hp) (Q:VK),Inv X pins σ H s->t σ H Q ->
   wpAny (model X.prog X.w) X.A (eval a X.env) (fun v s₁=>wpAny (model X.prog X.w) X.A (eval b X.env) (fun u s₂=>wpAny (model X.prog X.w) X.A (compareOp op v u) (EP X pins σ Q) X.xe s₂) X.xe s₁) X.xe s
def tB(t:TE): TT:=fun σ H Q=>t σ H fun x H1=>∃ c,x = .bl c/\Q c H1
theorem pe_cmp{op:CmpOp}{t:TE}(h:PC X op a b t)(h1:behindInMarks op b=false:=by first|exact q40 _ (by decide) (by decide)|rfl): PE X (.Compare a [op] [b] pos) t:=fun pins s σ H Q I hw=>wpAny_Compare1 (h pins s σ H Q I hw) h1
theorem qg1{op:CmpOp}{t:TE}(h:PC X op a b t)(h1:behindInMarks op b=false:=by first|exact q40 _ (by decide) (by decide)|rfl): PT X (.Compare a [op] [b] pos) (tB t):=by
 intro pins s σ H Q I hw;refine wpAny_isTrue_Compare1 (thn (h pins s σ H _ I hw) fun v s1 h1=>thn h1 fun u s2 h2=>thn h2 fun c s3 ⟨x,H1,I1,r1,q1⟩=>?_) h1;obtain⟨d,rfl,q⟩:=q1;cases r1;exact Zz ⟨H1,I1,q⟩
theorem qef{e:Expr}{t:TE}(h:PE X e t)(he:∀ whole,isTrue e X.env whole=(do let v <- whole;standAt e.pos;holding [v] (truthy v)):=by intro _;rfl): PT X e (tB t):=by
 intro pins s σ H Q I hw;refine isTrue_plain (thn (h pins s σ H _ I hw) fun v s1 ⟨x,H1,I1,r1,q1⟩=>?_) (he _);obtain⟨d,rfl,q⟩:=q1;cases r1;exact Zz ⟨H1,I1,q⟩
variable {tA tB':TT} {rest:List Expr}
def tAnd(t u:TT): TT:=fun σ H Q=>t σ H fun c H1=>if c=true then u σ H1 Q else Q false H1
def tOr(t u:TT): TT:=fun σ H Q=>t σ H fun c H1=>if c=true then Q true H1 else u σ H1 Q
def tNot(t:TT): TT:=fun σ H Q=>t σ H fun c H1=>Q (!c) H1
theorem qfj(ha:PT X a tA): PW X (.BoolOp .And [a] pos) tA:=by
 intro wh pins s σ H Q I h;refine isTrue_and (thn (ha pins s σ H Q I h) fun c s1 e=>?_);cases c with
 |true=>exact isTrue_and_nil e
 |false=>exact e
theorem qnf(ha:PT X a tA): PW X (.BoolOp .Or [a] pos) tA:=by
 intro wh pins s σ H Q I h;refine isTrue_or (thn (ha pins s σ H Q I h) fun c s1 e=>?_);cases c with
 |false=>exact isTrue_or_nil e
 |true=>exact e
theorem qfi(ha:PT X a tA)(hb:PW X (.BoolOp .And (b::rest) pos) tB'): PW X (.BoolOp .And (a::b::rest) pos) (tAnd tA tB'):=by
 intro wh pins s σ H Q I h;refine isTrue_and (thn (ha pins s σ H _ I h) fun c s1 ⟨H1,I1,q1⟩=>?_);cases c with
 |true=>exact hb wh pins s1 σ H1 Q I1 q1
 |false=>exact⟨H1,I1,q1⟩
theorem qne(ha:PT X a tA)(hb:PW X (.BoolOp .Or (b::rest) pos) tB'): PW X (.BoolOp .Or (a::b::rest) pos) (tOr tA tB'):=by
 intro wh pins s σ H Q I h;refine isTrue_or (thn (ha pins s σ H _ I h) fun c s1 ⟨H1,I1,q1⟩=>?_);cases c with
 |true=>exact⟨H1,I1,q1⟩
 |false=>exact hb wh pins s1 σ H1 Q I1 q1
theorem qsc(ha:PT X a tA): PT X (.UnaryOp .Not a pos) (tNot tA):=by
 intro pins s σ H Q I h;exact isTrue_not (ha pins s σ H (fun c H1=>Q (!c) H1) I h)
def tAndV(ta tb:TE): TE:=fun σ H Q=>ta σ H fun x H1=>∃ c,x = .bl c/\if c=true then tb σ H1 Q else Q (.bl false) H1
def tNotV(ta:TE): TE:=fun σ H Q=>ta σ H fun x H1=>∃ c,x = .bl c/\Q (.bl (!c)) H1
theorem qm8{op}{t:TE}(h:PE X a t): PE X (.BoolOp op [a] pos) t:=fun pins s σ H Q I hw=>BoolOp_one (h pins s σ H Q I hw)
theorem qm6(ha:PE X a ta)(hb:PE X (.BoolOp .And (b::rest) pos) tb): PE X (.BoolOp .And (a::b::rest) pos) (tAndV ta tb):=by
 intro pins s σ H Q I h;refine BoolOp_and (thn (ha pins s σ H _ I h) fun v s1 ⟨x,H1,I1,r1,q1⟩=>?_);obtain⟨c,rfl,q1⟩:=q1;cases r1;refine Zz ?_;cases c with
 |true=>exact hb pins s1 σ H1 Q I1 q1
 |false=>exact⟨.bl false,H1,I1,rfl,q1⟩
theorem pe_not(ha:PE X a ta): PE X (.UnaryOp .Not a pos) (tNotV ta):=by
 intro pins s σ H Q I h;refine UnaryOp_ (thn (ha pins s σ H _ I h) fun v s1 ⟨x,H1,I1,r1,q1⟩=>?_);obtain⟨c,rfl,q1⟩:=q1;cases r1;exact not_of (Zz ⟨.bl (!c),H1,I1,rfl,q1⟩)
def tIf(t:TT)(ta tb:TE): TE:=fun σ H Q=>t σ H fun c H1=>if c=true then ta σ H1 Q else tb σ H1 Q
theorem qr2{c:Expr}(hc:PT X c tA)(ha:PE X a ta)(hb:PE X b tb): PE X (.IfExp c a b pos) (tIf tA ta tb):=by
 intro pins s σ H Q I h;refine wpAny_IfExp (thn (hc pins s σ H _ I h) fun d s1 ⟨H1,I1,q1⟩=>?_);cases d with
 |true=>exact ha pins s1 σ H1 Q I1 q1
 |false=>exact hb pins s1 σ H1 Q I1 q1
end
def SqL(K:PySem.W.Frag)(H:Hp)(a:Addr)(xs:List V): Prop:=
 Rd H a (.lst xs) \/
  ∃ (o:Obj) (its:Array Value) (n:Nat),K.lookup a=some o/\o.cls = .type "list"/\o.dict=none/\o.data = .seq its n/\its.size<=sizeLine/\Vals xs its.toList
def SqT(K:PySem.W.Frag)(H:Hp)(a:Addr)(xs:List V): Prop:=
 Rd H a (.tup xs) \/
  ∃ (o:Obj) (its:Array Value) (n:Nat),K.lookup a=some o/\o.cls = .type "tuple"/\o.data = .seq its n/\its.size<=sizeLine/\Vals xs its.toList
def absV:Value->Option V
 | .none=>some .non
 | .bool b=>some (.bl b)
 | .int i _=>some (.int i)
 | .str x _=>some (.str x)
 | .bytes b _=>some (.byt b)
 | .float b _=>some (.flt b)
 | .ref a=>some (.ref a)
 | .type n=>some (.ty n)
 |_=>none
theorem RelV.abs{x:V}{u:Value}(r:RelV x u): absV u=some x:=by
 cases x with
 |non=>cases r;rfl
 |bl _=>cases r;rfl
 |int _=>obtain⟨t,rfl⟩:=r;rfl
 |str _=>obtain⟨t,rfl⟩:=r;rfl
 |byt _=>obtain⟨t,rfl⟩:=r;rfl
 |flt _=>obtain⟨t,rfl⟩:=r;rfl
 |ref _=>cases r;rfl
 |ty _=>cases r;rfl
theorem RelV.inj{x y:V}{u:Value}(r:RelV x u)(q:RelV y u): x=y:=Jj (r.abs.symm.trans q.abs)
theorem Vals.inj:∀ {xs ys:List V} {us:List Value},Vals xs us->Vals ys us->xs=ys
 |_,_,_,.nil,.nil=>rfl
 |_,_,_,.cons r t,.cons r' t'=>by rw[r.inj r',Vals.inj t t']
section
variable {X:Cx} {pins:List (Addr×Obj)} {σ:St} {H:Hp} {s:Shared} {a:Addr} {xs ys:List V}
theorem SqL.of{K:PySem.W.Frag}(h:H a=some (.lst xs)): SqL K H a xs:=.inl (.inl h)
theorem SqT.of{K:PySem.W.Frag}(h:H a=some (.tup xs)): SqT K H a xs:=.inl (.inl h)
theorem Inv.list(I:Inv X pins σ H s)(h:SqL X.K H a xs): ∃ its:List Value,Vals xs its/\PlainL s.heap a its.toArray/\xs.length<=sizeLine:=by
 rcases h with h|⟨o,its,n,hk,hc,hd,hs,hz,r⟩
 ·obtain⟨z,its,n,r,e⟩:=h.ok I.hok;exact⟨its,r,⟨_,n,e,rfl,rfl,rfl⟩,z⟩
 ·refine⟨its.toList,r,⟨o,n,I.kIn a o hk,hc,hd,by simpa using hs⟩,?_⟩;have e:=r.length;simp only[Ud] at e;omega
theorem Inv.tuple(I:Inv X pins σ H s)(h:SqT X.K H a xs): ∃ its:List Value,Vals xs its/\IsTup s.heap a its.toArray/\xs.length<=sizeLine:=by
 rcases h with h|⟨o,its,n,hk,hc,hs,hz,r⟩
 ·obtain⟨z,its,r,p⟩:=h.ok I.hok;exact⟨its,r,p,z⟩
 ·refine⟨its.toList,r,⟨o,I.kIn a o hk,hc,n,by simpa using hs⟩,?_⟩;have e:=r.length;simp only[Ud] at e;omega
theorem Inv.qh3(I:Inv X pins σ H s)(h:SqL X.K H a xs)(h':SqL X.K H a ys): xs=ys:=by
 obtain⟨its,r,⟨o,n,e,_,_,d⟩,_⟩:=I.list h;obtain⟨its',r',⟨o',n',e',_,_,d'⟩,_⟩:=I.list h';rw[e] at e';cases e';rw[d] at d';injection d' with d1 _;have:its=its':=by simpa using Yk Array.toList d1
 subst this;exact r.inj r'
theorem Inv.q99(I:Inv X pins σ H s)(h:SqT X.K H a xs)(h':SqT X.K H a ys): xs=ys:=by
 obtain⟨its,r,⟨o,e,_,n,d⟩,_⟩:=I.tuple h;obtain⟨its',r',⟨o',e',_,n',d'⟩,_⟩:=I.tuple h';rw[e] at e';cases e';rw[d] at d';injection d' with d1 _;have:its=its':=by simpa using Yk Array.toList d1
 subst this;exact r.inj r'
end
abbrev Cx.qel(X:Cx)(E:Value->Shared->Prop): Cx:={ X with xe:=E }
abbrev Cx.nox(X:Cx): Cx:=X.qel fun _ _=>False
theorem Cx.Ok.qel{X:Cx}(ok:X.Ok)(E:Value->Shared->Prop): (X.qel E).Ok:=
 ⟨ok.mod,ok.kind,ok.glob,ok.blt,ok.above,ok.inj,ok.has,ok.cab,ok.hd,ok.frames,ok.stk,ok.exf,ok.bs,ok.bsz,ok.noex,ok.exfs,ok.qdf,ok.frf⟩
theorem Cx.Ok.qfo{X:Cx}{E:Value->Shared->Prop}(ok:(X.qel E).Ok): X.Ok:=
 ⟨ok.mod,ok.kind,ok.glob,ok.blt,ok.above,ok.inj,ok.has,ok.cab,ok.hd,ok.frames,ok.stk,ok.exf,ok.bs,ok.bsz,ok.noex,ok.exfs,ok.qdf,ok.frf⟩
section
variable {X:Cx} {pins:List (Addr×Obj)} {σ:St} {H:Hp} {s:Shared} {E:Value->Shared->Prop}
theorem Inv.qel(I:Inv X pins σ H s)(E:Value->Shared->Prop): Inv (X.qel E) pins σ H s:=⟨I.ok.qel E,I.os,I.bare,I.base,I.loc,I.cell,I.free,I.qc0,I.pin,I.hok,I.len⟩
theorem Inv.qfo(I:Inv (X.qel E) pins σ H s): Inv X pins σ H s:=⟨I.ok.qfo,I.os,I.bare,I.base,I.loc,I.cell,I.free,I.qc0,I.pin,I.hok,I.len⟩
theorem SP.qfo{D:Ends}{f:Flow}{s':Shared}(h:SP (X.qel E) pins D f s'): SP X pins D f s':=by
 cases f with
 |next=>obtain⟨σ',H',I,q⟩:=h;exact⟨σ',H',I.qfo,q⟩
 |brk=>obtain⟨σ',H',I,q⟩:=h;exact⟨σ',H',I.qfo,q⟩
 |cont=>obtain⟨σ',H',I,q⟩:=h;exact⟨σ',H',I.qfo,q⟩
 |ret u=>obtain⟨v,σ',H',I,r,q⟩:=h;exact⟨v,σ',H',I.qfo,r,q⟩
theorem PSs.nox{st:List Stmt}{t:TS}(h:PSs X.nox st t): PSs X st t:=fun pins s σ H D I hw=>
 Yw (h pins s σ H D (I.qel _) hw) (fun _ _ q=>q.qfo) fun _ _ z=>False.elim z
end
section
variable {X:Cx} {st:Stmt} {rest:List Stmt} {t u:TS} {e:Expr} {te:TE} {pos:Pos}
def qe4:TS:=fun D σ H=>D.nx σ H
def qcn(t u:TS): TS:=fun D σ H=>t { D with nx:=u D } σ H
theorem qg0:PSs X [] qe4:=fun _ _ σ H _ I h=>Qq ⟨σ,H,I,h⟩
theorem ko(h1:PS X st t)(h2:PSs X rest u): PSs X (st::rest) (qcn t u):=by
 intro pins s σ H D I h;refine wpAny_execs_cons (thn (h1 pins s σ H { D with nx:=u D } I h) fun f s1 q=>?_);cases f with
 | next=>
   obtain⟨σ',H',I',q⟩:=q;exact h2 pins s1 σ' H' D I' q
 |ret v=>exact q
 |brk=>exact q
 |cont=>exact q
theorem qbg(h1:PS X st t): PSs X [st] t:=by
 intro pins s σ H D I h;refine wpAny_execs_cons (thn (h1 pins s σ H D I h) fun f s1 q=>?_);cases f with
 |next=>exact Qq q
 |ret v=>exact q
 |brk=>exact q
 |cont=>exact q
def qvn:TS:=fun D σ H=>D.bk σ H
theorem q5y:PS X (.Break pos) qvn:=fun _ _ σ H _ I h=>wpAny_Break ⟨σ,H,I,h⟩
theorem Inv.quiet{pins:List (Addr×Obj)}{σ:St}{H:Hp}{s:Shared}(I:Inv X pins σ H s): interactive X.env=false:=by simp[interactive,I.ok.kind]
def qkk(te:TE): TS:=fun D σ H=>te σ H fun _ H1=>D.nx σ H1
theorem qb5(he:PE X e te)(hs:swapsWith e none pos.line X.env=pure false:=by rfl): PS X (.Expr e pos) (qkk te):=by
 intro pins s σ H D I h;exact wpAny_Expr_any (thn (he pins s σ H _ I h) fun v s1 ⟨x,H1,I1,r1,q1⟩=>⟨σ,H1,I1,q1⟩) I.quiet hs
def qcg(te:TE): TS:=fun D σ H=>te σ H D.rt
theorem ps_ret(he:PE X e te): PS X (.Return (some e) pos) (qcg te):=by
 intro pins s σ H D I h;exact wpAny_Return_some (thn (he pins s σ H _ I h) fun v s1 ⟨x,H1,I1,r1,q1⟩=>⟨x,σ,H1,I1,r1,q1⟩)
def qe3(c:TT)(t u:TS): TS:=fun D σ H=>c σ H fun b H1=>if b=true then t D σ H1 else u D σ H1
theorem qgy{c:Expr}{a b:List Stmt}{tc:TT}(hc:PT X c tc)(ha:PSs X a t)(hb:PSs X b u): PS X (.If c a b pos) (qe3 tc t u):=by
 intro pins s σ H D I h;refine wpAny_If (thn (hc pins s σ H _ I h) fun d s1 ⟨H1,I1,q1⟩=>?_);cases d with
 |true=>exact ha pins s1 σ H1 D I1 q1
 |false=>exact hb pins s1 σ H1 D I1 q1
end
abbrev TG:=V->St->Hp->(St->Hp->Prop)->Prop
abbrev TGs:=List V->St->Hp->(St->Hp->Prop)->Prop
def PG(X:Cx)(target:Expr)(t:TG): Prop:=
 ∀ (pins:List (Addr×Obj)) (s:Shared) (σ:St) (H:Hp) (v:V) (u:Value) (Q:St->Hp->Prop),Inv X pins σ H s->RelV v u->t v σ H Q ->
   wpAny (model X.prog X.w) X.A (assign target X.env u) (fun _ s'=>∃ σ' H',Inv X pins σ' H' s'/\Q σ' H') X.xe s
def PGs(X:Cx)(ts:List Expr)(t:TGs): Prop:=
 ∀ (pins:List (Addr×Obj)) (s:Shared) (σ:St) (H:Hp) (vs:List V) (us:List Value) (Q:St->Hp->Prop),Inv X pins σ H s->Vals vs us->t vs σ H Q ->
   wpAny (model X.prog X.w) X.A (assignInOrder ((assignEach ts X.env).map (·.2)) us) (fun _ s'=>∃ σ' H',Inv X pins σ' H' s'/\Q σ' H') X.xe s
abbrev TSet:=V->V->V->Hp->(Hp->Prop)->Prop
def PSet(X:Cx)(t:TSet): Prop:=
 ∀ (pins:List (Addr×Obj)) (s:Shared) (σ:St) (H:Hp) (o i v:V) (ov iv u:Value) (Q:Hp->Prop),Inv X pins σ H s->RelV o ov->RelV i iv->RelV v u->t o i v H Q ->
   wpAny (model X.prog X.w) X.A (setItem ov iv u) (fun _ s'=>∃ H',Inv X pins σ H' s'/\Q H') X.xe s
section
variable {X:Cx} {pos:Pos}
def qcl(i:Nat): TG:=fun v σ H Q=>Q (σ.set i (some v)) H
theorem q5n{i:Nat}{x:Str}(hN:X.N.Nodup)(hi:X.N[i]?=some x)(hx:Loc X.env.scope x)(hf:X.fn x=true\/X.env.scope.names.lookup x=some .local:=by first|exact .inl rfl|exact .inr rfl|assumption): PG X (.Name x pos) (qcl i):=by
 intro pins s σ H v u Q I r h;exact wpAny_assign_Name (qvj I hN hi hx r (fun s' I'=>⟨_,H,I',h⟩) hf)
def gNil:TGs:=fun vs σ H Q=>vs=[]/\Q σ H
def qjc(t:TG)(u:TGs): TGs:=fun vs σ H Q=>∃ v r,vs=v::r/\t v σ H fun σ' H'=>u r σ' H' Q
theorem qff:PGs X [] gNil:=by
 intro pins s σ H vs us Q I r h;obtain⟨e,h⟩:=h;subst e;cases r;exact assignInOrder_nil ⟨σ,H,I,h⟩
theorem qb0{e:Expr}{es:List Expr}{t:TG}{u:TGs}(h1:PG X e t)(h2:PGs X es u)
  (hs:(assignEach (e::es) X.env).map (·.2)=assign e X.env::(assignEach es X.env).map (·.2):=by rfl): PGs X (e::es) (qjc t u):=by
 intro pins s σ H vs us Q I r h;obtain⟨v,vr,e1,h⟩:=h;subst e1;cases r with
 | cons r rr=>
   rw[hs];refine assignInOrder_cons (thn (h1 pins s σ H _ _ _ I r h) fun _ s1 ⟨σ1,H1,I1,q1⟩=>?_);exact h2 pins s1 σ1 H1 _ _ Q I1 rr q1
def gTup(K:PySem.W.Frag)(n:Nat)(t:TGs): TG:=fun v σ H Q=>∃ a xs,v = .ref a/\SqT K H a xs/\xs.length=n/\t xs σ H Q
theorem pg_tup{es:List Expr}{k:Nat}{t:TGs}{n:Nat}(hc:X.calm=true)(h:PGs X es t)
  (hn:(assignEach es X.env).length=n:=by rfl)(hst:(assignEach es X.env).findIdx? (·.1)=none:=by rfl): PG X (.Tuple es k pos) (gTup X.K n t):=by
 intro pins s σ H v u Q I r hw;obtain⟨a,xs,e1,hq,hl,hw⟩:=hw;subst e1;cases r;obtain⟨its,rv,ht,hz⟩:=I.tuple hq;refine assign_Tuple_tuple (I.ok.hd hc) ht (by simp[hn,<- hl,rv.length]) hst fun h' hx=>?_;have I1:Inv X pins σ H { s with heap:=h' }:=I.kept (t':=s.toks) fun b o e=>hx b o (Xl (Jl e)) e;exact h pins _ σ H xs _ Q I1 (by simpa using rv) hw
def gSub(to ti:TE)(t:TSet): TG:=fun v σ H Q=>to σ H fun o H1=>ti σ H1 fun i H2=>t o i v H2 fun H3=>Q σ H3
theorem pg_sub{o i:Expr}{to ti:TE}{t:TSet}(ho:PE X o to)(hi:PE X i ti)(hs:PSet X t)
  (ha:∀ v,assign (.Subscript o i pos) X.env v=(do
   let ov <- holding [v] (eval o X.env);let iv <- holding [v,ov] (eval i X.env);standAt pos
   holding [v,ov,iv] (setItem ov iv v)
   release [v,ov,iv] []):=by intro _;rfl): PG X (.Subscript o i pos) (gSub to ti t):=by
 intro pins s σ H v u Q I r h;rw[ha];refine Ja (Xi (thn (ho pins s σ H _ I h) fun ov s1 ⟨x,H1,I1,r1,q1⟩=>?_));refine Ja (Xi (thn (hi pins s1 σ H1 _ I1 q1) fun iv s2 ⟨y,H2,I2,r2,q2⟩=>?_));refine Ja (wpAny_standAt (Ja (Xi (thn (hs pins s2 σ H2 x y v ov iv u _ I2 r1 r2 r q2) fun _ s3 ⟨H3,I3,q3⟩=>?_))));exact wpAny_release ⟨σ,H3,I3,q3⟩
def qei(te:TE)(g:TG): TS:=fun D σ H=>te σ H fun x H1=>g x σ H1 D.nx
theorem ps_asg{tg e:Expr}{te:TE}{g:TG}(he:PE X e te)(hg:PG X tg g)(hs:swapsWithSole [tg] e pos.line X.env=pure false:=by rfl)(hw:swappedStores [tg] e X.env=pure none:=by rfl)
  (h1:(assignEach [tg] X.env).map (·.2)=[assign tg X.env]:=by rfl): PS X (.Assign [tg] e pos) (qei te g):=by
 intro pins s σ H D I h;refine wpAny_Assign_stores (thn (he pins s σ H _ I h) fun v s1 ⟨x,H1,I1,r1,q1⟩=>?_) hs hw;rw[h1];exact thn (hg pins s1 σ H1 x v _ I1 r1 q1) fun _ s2 q=>q
theorem qsb{i:Nat}{x:Str}{e:Expr}{te:TE}{pos':Pos}(hN:X.N.Nodup)(hi:X.N[i]?=some x)(hx:Loc X.env.scope x)(he:PE X e te)(hs:swapsWith e (some (.Name x pos')) pos.line X.env=pure false:=by rfl)(hf:X.fn x=true\/X.env.scope.names.lookup x=some .local:=by first|exact .inl rfl|exact .inr rfl|assumption):
  PS X (.Assign [.Name x pos'] e pos) (qei te (qcl i)):=by
 intro pins s σ H D I h;refine wpAny_Assign_Name (thn (he pins s σ H _ I h) fun v s1 ⟨y,H1,I1,r1,q1⟩=>?_) hs;exact qvj I1 hN hi hx r1 (fun s2 I2=>⟨_,H1,I2,q1⟩) hf
end
section
variable {X:Cx} {pos:Pos}
def qvw(c:TT)(tb:TS): TS:=fun D σ H=>∃ W:Nat->St->Hp->Prop,(∃ m,W m σ H)/\∀ m σ H,W m σ H ->
 c σ H fun b H1=>if b=true then ∃ N:St->Hp->Prop,(∀ σ' H',N σ' H'->∃ m',m' < m/\W m' σ' H')/\tb { D with nx:=N,ct:=N,bk:=D.nx } σ H1 else D.nx σ H1
theorem q5z{c:Expr}{body:List Stmt}{tc:TT}{tb:TS}(hp:PassesOwn (model X.prog X.w) X.A X.env X.xe)(hc:PT X c tc)(hb:PSs X body tb): PS X (.While c body [] pos) (qvw tc tb):=by
 intro pins s σ H D I h;obtain⟨W,⟨m0,w0⟩,turn⟩:=h;refine wpAny_While (codeAny_whileLoop (fun n s'=>∃ σ' H',Inv X pins σ' H' s'/\W n σ' H') ?_ m0 ⟨σ,H,I,w0⟩);rintro n s1 ⟨σ1,H1,I1,w1⟩;refine Z8 hp (thn (hc pins s1 σ1 H1 _ I1 (turn n σ1 H1 w1)) fun b s2 ⟨H2,I2,q2⟩=>?_);cases b with
 | true=>
   obtain⟨N,hN,q2⟩:=q2;rw[Je rfl];refine Z8 hp (thn (hb pins s2 σ1 H2 _ I2 q2) fun f s3 q3=>?_);cases f with
   | next=>
     obtain⟨σ3,H3,I3,n3⟩:=q3;obtain⟨m',hm,w3⟩:=hN σ3 H3 n3;exact⟨m',hm,σ3,H3,I3,w3⟩
   | cont=>
     obtain⟨σ3,H3,I3,n3⟩:=q3;obtain⟨m',hm,w3⟩:=hN σ3 H3 n3;exact⟨m',hm,σ3,H3,I3,w3⟩
   |brk=>exact q3
   |ret v=>exact q3
 | false=>
   rw[Jc Jr];exact Qq ⟨σ1,H2,I2,q2⟩
end
structure It where
 go:Nat->Hp->Prop
 yld:Nat->Hp->V->Hp->Prop
 stop:Nat->Hp->Prop
def Qc9(X:Cx)(pins:List (Addr×Obj))(H:Hp)(b:Addr): Prop:=
 H b=none/\b≠X.env.locals/\b∉X.fs/\(b∈X.ex\/X.s_0.heap.objs.size<=b)/\(∀ x c,X.env.cells.lookup x=some c->c≠b)/\∀ p∈X.pn++pins,p.1≠b
theorem Inv.qfa{X:Cx}{pins:List (Addr×Obj)}{σ:St}{H H':Hp}{s:Shared}{b:Addr}(I:Inv X pins σ H s)(hb:s.heap.objs.size<=b)(hn:H' b=none): Qc9 X pins H' b:=by
 refine⟨hn,J5 (Xk I.lt hb),I.nofs hb,.inr (Xd I.sz hb),fun x c e z=>?_,fun p hp z=>?_⟩
 ·obtain⟨v,q⟩:=I.cell x c e;exact absurd (Xk q.lt (by rw[z];exact hb)) (Yd _)
 ·exact absurd (Xk (Jl (I.pin p hp).1) (by rw[z];exact hb)) (Yd _)
structure Turn(P:Program)(w:World)(K:PySem.W.Frag)(tg:Expr)(J:It)(fp:List Addr)(it:Addr)(tn:Nat->Heap->Prop): Prop where
 mem:it∈fp
 obj:∀ i h,tn i h->∀ b∈fp,∃ o,h.get? b=some o/\∀ v,o.data≠.cell v
 keep:∀ i h h',tn i h->(∀ b∈fp,∀ o,h.get? b=some o->h'.get? b=some o)->tn i h'
 item:∀ (X:Cx),X.prog=P->X.w=w->X.K=K->X.calm=true->∀ (i:Nat) (pins:List (Addr×Obj)) (s:Shared) (σ:St) (H:Hp) (E:Value->Shared->Prop),Inv X pins σ H s->(∀ b∈fp,Qc9 X pins H b)->tn i s.heap->J.go i H ->
  wpAny (model P w) X.A (pyNext (.ref it)) (fun r s1=>∃ u,r=some u /\
   wpAny (model P w) X.A (letOwnedTupleGo tg (.ref it) u) (fun _ s2=>∃ x H',Inv X pins σ H' s2/\RelV x u/\J.yld i H x H'/\tn (i+1) s2.heap/\∀ b∈fp,H' b=none) E s1) E s
 done:∀ (X:Cx),X.prog=P->X.w=w->X.K=K->X.calm=true->∀ (i:Nat) (pins:List (Addr×Obj)) (s:Shared) (σ:St) (H:Hp) (E:Value->Shared->Prop),Inv X pins σ H s->(∀ b∈fp,Qc9 X pins H b)->tn i s.heap->J.stop i H ->
  wpAny (model P w) X.A (pyNext (.ref it)) (fun r s1=>r=none/\Inv X pins σ H s1) E s
 self:∀ (A:Around) (i:Nat) (s:Shared) (Q:Value->Shared->Prop) (E:Value->Shared->Prop),tn i s.heap->Q (.ref it) s->wpAny (model P w) A (pyIter (.ref it)) Q E s
abbrev TI:=St->Hp->(It->Hp->Prop)->Prop
def PIE(X:Cx)(pins:List (Addr×Obj))(σ:St)(tg:Expr)(R:It->Hp->Prop)(itv:Value)(s2:Shared): Prop:=
 ∃ (it:Addr) (fp:List Addr) (tn:Nat->Heap->Prop) (J:It) (H':Hp),itv = .ref it/\Inv X pins σ H' s2/\Turn X.prog X.w X.K tg J fp it tn/\tn 0 s2.heap/\(∀ b∈fp,Qc9 X pins H' b)/\R J H'
def PI(X:Cx)(tg iter:Expr)(wi:TI): Prop:=
 ∀ (pins:List (Addr×Obj)) (s:Shared) (σ:St) (H:Hp) (R:It->Hp->Prop),Inv X pins σ H s->wi σ H R ->
   wpAny (model X.prog X.w) X.A (eval iter X.env) (fun v s1=>wpAny (model X.prog X.w) X.A (pyIter v) (PIE X pins σ tg R) X.xe s1) X.xe s
theorem qhx{M:Model}{A:Around}{E:Value->Shared->Prop}{s:Shared}{tg:Expr}{it:Addr}{u:Value}{o:Obj}{n:String}{vs:Array Value}{Q:Unit->Shared->Prop}(ho:s.heap.get? it=some o)(hc:o.cls = .type n)(hd:o.data = .fields vs)
  (hn:["enumerate","zip","dict_itemiterator","dict_reverseitemiterator","odict_iterator","itertools.zip_longest","itertools.pairwise"].contains n=false)(hQ:Q () s): wpAny M A (letOwnedTupleGo tg (.ref it) u) Q E s:=by
 unfold letOwnedTupleGo;cases tg<;>first
  |exact Jg hQ
  |(cases u<;>first
    |exact Jg hQ
    |(refine Ja (wpAny_load ho ?_)
      rw[hc,hd];show wpAny M A (if (["enumerate","zip","dict_itemiterator","dict_reverseitemiterator","odict_iterator","itertools.zip_longest","itertools.pairwise"].contains n&&vs[0]? == some (rawInt _))=true then _ else _) Q E s;rw[Jc (by intro h;rw[hn,Uv] at h;cases h)];exact Jg hQ))
def Itl(K:PySem.W.Frag)(a:Addr): It:=
 ⟨fun i H=>∃ xs x,SqL K H a xs/\xs[i]?=some x,fun i H x H'=>H'=H/\∀ xs,SqL K H a xs->xs[i]?=some x,fun i H=>∃ xs,SqL K H a xs/\xs.length<=i⟩
def Itt(K:PySem.W.Frag)(a:Addr): It:=
 ⟨fun i H=>∃ xs x,SqT K H a xs/\xs[i]?=some x,fun i H x H'=>H'=H/\∀ xs,SqT K H a xs->xs[i]?=some x,fun i H=>∃ xs,SqT K H a xs/\xs.length<=i⟩
def Itr(lo:Int)(n:Nat): It:=⟨fun i _=>i<n,fun i H x H'=>H'=H/\x = .int (lo+i),fun i _=>n<=i⟩
theorem zaf{P:Program}{w:World}{K:PySem.W.Frag}{tg:Expr}(a it:Addr): Turn P w K tg (Itl K a) [it] it (fun i h=>h.IsListIter it a i) where
 mem:=by simp
 obj:=fun i h st b hb=>by
  have e:b=it:=by simpa using hb
  subst e;obtain⟨o,e,c,d⟩:=st;exact⟨o,e,fun v z=>by rw[d] at z;cases z⟩
 keep:=fun i h h' st k=>st.at fun o e=>k it (by simp) o e
 item:=by
  intro X hP hw hK hc i pins s σ H E I hf st hg;subst hP hw hK;obtain⟨xs,x,hq,hx⟩:=hg;obtain⟨its,rv,p,hz⟩:=I.list hq;obtain⟨u,hu,ru⟩:=rv.get hx;obtain⟨f0,f1,f2,f3,f4,f5⟩:=hf it (by simp);refine wpAny_pyNext_list_item st p.isList (x:=u) (by simpa using hu) fun h' st' sb=>?_;have I1:Inv X pins σ H { s with heap:=h' }:=I.turned (t':=s.toks) (fun b o hb e=>(sb.2 b hb).trans e) f0 f1 f3 f4 f5;obtain⟨o,e,c,d⟩:=id st';exact⟨u,rfl,qhx (s:={ s with heap:=h' }) e c d (by decide) ⟨x,H,I1,ru,⟨rfl,fun ys hy=>by rw[I.qh3 hy hq];exact hx⟩,st',fun b hb=>(hf b hb).1⟩⟩
 done:=by
  intro X hP hw hK hc i pins s σ H E I hf st hg;subst hP hw hK;obtain⟨xs,hq,hx⟩:=hg;obtain⟨its,rv,p,hz⟩:=I.list hq;obtain⟨f0,f1,f2,f3,f4,f5⟩:=hf it (by simp);have hl:=rv.length;exact wpAny_pyNext_list_end (I.ok.hd hc) st p.isList (by simp;omega) fun h' eb=>⟨rfl,I.turned (t':=s.toks) (fun b o hb e=>eb b o hb e) f0 f1 f3 f4 f5⟩
 self:=fun _ _ _ _ _ st h=>wpAny_pyIter_listiter st h
theorem zah{P:Program}{w:World}{K:PySem.W.Frag}{tg:Expr}(a it:Addr): Turn P w K tg (Itt K a) [it] it (fun i h=>h.IsTupleIter it a i) where
 mem:=by simp
 obj:=fun i h st b hb=>by
  have e:b=it:=by simpa using hb
  subst e;obtain⟨o,e,c,d⟩:=st;exact⟨o,e,fun v z=>by rw[d] at z;cases z⟩
 keep:=fun i h h' st k=>st.at fun o e=>k it (by simp) o e
 item:=by
  intro X hP hw hK hc i pins s σ H E I hf st hg;subst hP hw hK;obtain⟨xs,x,hq,hx⟩:=hg;obtain⟨its,rv,p,hz⟩:=I.tuple hq;obtain⟨u,hu,ru⟩:=rv.get hx;obtain⟨f0,f1,f2,f3,f4,f5⟩:=hf it (by simp);refine wpAny_pyNext_tuple_item st (show s.heap.IsTuple a its.toArray from p) (x:=u) (by simpa using hu) fun h' st' sb=>?_;have I1:Inv X pins σ H { s with heap:=h' }:=I.turned (t':=s.toks) (fun b o hb e=>(sb.2 b hb).trans e) f0 f1 f3 f4 f5;obtain⟨o,e,c,d⟩:=id st';exact⟨u,rfl,qhx (s:={ s with heap:=h' }) e c d (by decide) ⟨x,H,I1,ru,⟨rfl,fun ys hy=>by rw[I.q99 hy hq];exact hx⟩,st',fun b hb=>(hf b hb).1⟩⟩
 done:=by
  intro X hP hw hK hc i pins s σ H E I hf st hg;subst hP hw hK;obtain⟨xs,hq,hx⟩:=hg;obtain⟨its,rv,p,hz⟩:=I.tuple hq;obtain⟨f0,f1,f2,f3,f4,f5⟩:=hf it (by simp);have hl:=rv.length;exact wpAny_pyNext_tuple_end (I.ok.hd hc) st (show s.heap.IsTuple a its.toArray from p) (by simp;omega) fun h' eb=>⟨rfl,I.turned (t':=s.toks) (fun b o hb e=>eb b o hb e) f0 f1 f3 f4 f5⟩
 self:=fun _ _ _ _ _ st h=>wpAny_pyIter_tupleiter st h
theorem zag{P:Program}{w:World}{K:PySem.W.Frag}{tg:Expr}(it:Addr)(lo:Int)(n:Nat): Turn P w K tg (Itr lo n) [it] it (fun i h=>IsRangeIter h it (lo+(i:Nat)*1) ((n:Int)-(i:Nat)) 1) where
 mem:=by simp
 obj:=fun i h st b hb=>by
  have e:b=it:=by simpa using hb
  subst e;exact⟨_,st,fun v z=>by
   have z':Data.fields _=Data.cell v:=z;cases z'⟩
 keep:=fun i h h' st k=>k it (by simp) _ st
 item:=by
  intro X hP hw hK hc i pins s σ H E I hf st hg;subst hP hw hK;obtain⟨f0,f1,f2,f3,f4,f5⟩:=hf it (by simp);have W:=Walks.range (prog:=X.prog) (w:=X.w) (I.ok.hd hc) it lo 1 n;refine W.item i s _ _ hg st fun v h' tk hv st' kk=>?_;obtain⟨t,rfl⟩:=hv;have I1:Inv X pins σ H { s with heap:=h',toks:=tk }:=I.turned (fun b o hb e=>kk b o (by simpa using hb) e) f0 f1 f3 f4 f5;refine⟨_,rfl,qhx (s:={ s with heap:=h',toks:=tk }) (n:= "range_iterator") st' rfl rfl (by decide) ⟨.int (lo+i),H,I1,⟨t,?_⟩,⟨rfl,rfl⟩,st',fun b hb=>(hf b hb).1⟩⟩;rw[Int.mul_one]
 done:=by
  intro X hP hw hK hc i pins s σ H E I hf st hg;subst hP hw hK;obtain⟨f0,f1,f2,f3,f4,f5⟩:=hf it (by simp);exact wpAny_pyNext_range_end (I.ok.hd hc) st (by have:n<=i:=hg;omega) fun h' eb=>⟨rfl,I.turned (t':=s.toks) (fun b o hb e=>eb b o hb e) f0 f1 f3 f4 f5⟩
 self:=fun _ _ _ _ _ st h=>wpAny_pyIter_rangeiter st h
section
variable {X:Cx} {tg:Expr}
def iList(K:PySem.W.Frag)(tl:TE): TI:=fun σ H R=>tl σ H fun x H1=>∃ a,x = .ref a/\(∃ xs,SqL K H1 a xs)/\R (Itl K a) H1
def iTup(K:PySem.W.Frag)(tl:TE): TI:=fun σ H R=>tl σ H fun x H1=>∃ a,x = .ref a/\(∃ xs,SqT K H1 a xs)/\R (Itt K a) H1
theorem qb1{l:Expr}{tl:TE}(hl:PE X l tl): PI X tg l (iList X.K tl):=by
 intro pins s σ H R I h;refine thn (hl pins s σ H _ I h) fun v s1 ⟨x,H1,I1,r1,q1⟩=>?_;obtain⟨a,e,⟨xs,hq⟩,q⟩:=q1;subst e;cases r1;obtain⟨its,rv,p,hz⟩:=I1.list hq;refine Y6 p.isList ?_;refine⟨s1.heap.objs.size,[s1.heap.objs.size],_,_,H1,rfl,I1.kept (t':=s1.toks) fun b o e=>Jb _ e,zaf a _,⟨_,Js _ rfl,rfl,rfl⟩,fun b hb=>?_,q⟩;have e:b=s1.heap.objs.size:=by simpa using hb
 subst e;exact I1.qfa (Jp _) (I1.hok.fresh (Jp _))
theorem pi_tup{l:Expr}{tl:TE}(hl:PE X l tl): PI X tg l (iTup X.K tl):=by
 intro pins s σ H R I h;refine thn (hl pins s σ H _ I h) fun v s1 ⟨x,H1,I1,r1,q1⟩=>?_;obtain⟨a,e,⟨xs,hq⟩,q⟩:=q1;subst e;cases r1;obtain⟨its,rv,p,hz⟩:=I1.tuple hq;refine wpAny_pyIter_tuple (show s1.heap.IsTuple a its.toArray from p) ?_;refine⟨s1.heap.objs.size,[s1.heap.objs.size],_,_,H1,rfl,I1.kept (t':=s1.toks) fun b o e=>Jb _ e,zah a _,⟨_,Js _ rfl,rfl,rfl⟩,fun b hb=>?_,q⟩;have e:b=s1.heap.objs.size:=by simpa using hb
 subst e;exact I1.qfa (Jp _) (I1.hok.fresh (Jp _))
theorem q54{pins:List (Addr×Obj)}{σ:St}{H:Hp}{s:Shared}{R:It->Hp->Prop}{E:Value->Shared->Prop}{lo hi:Int}{t u v:Tok}{tk:Nat}(I:Inv X pins σ H s)(h1 : -(2 ^ 62)<=lo)(h2:lo<2 ^ 62)(h3 : -(2 ^ 62)<=hi)(h4:hi<2 ^ 62)
  (q:R (Itr lo (hi-lo).toNat) H): wpAny (model X.prog X.w) X.A (pyIter (.ref s.heap.objs.size)) (PIE X pins σ tg R) E { s with heap:=s.heap.push { cls:=.type "range",data:=.fields #[.int lo t,.int hi u,.int 1 v] },toks:=tk }:=by
 refine wpAny_pyIter_range (IsRange.new ..) (small_one h1 h2 h3 h4) ?_;have I1:Inv X pins σ H { s with heap:=s.heap.push { cls:=.type "range",data:=.fields #[.int lo t,.int hi u,.int 1 v] },toks:=tk }:=I.kept fun b o e=>Jb _ e;refine⟨(s.heap.push { cls:=.type "range",data:=.fields #[.int lo t,.int hi u,.int 1 v] }).objs.size,[(s.heap.push { cls:=.type "range",data:=.fields #[.int lo t,.int hi u,.int 1 v] }).objs.size],_,_,H,rfl,
  I1.kept (t':=tk) fun b o e=>Jb _ e,zag _ lo (hi-lo).toNat,?_,fun b hb=>?_,q⟩
 ·have e1:lo+((0:Nat):Int)*1=lo:=by simp
  have e2:(((hi-lo).toNat:Nat):Int)-((0:Nat):Int)=Builtin.Range.rangeSize lo hi 1:=by rw[rangeSize_one];split<;>omega
  show IsRangeIter _ _ (lo+((0:Nat):Int)*1) ((((hi-lo).toNat:Nat):Int)-((0:Nat):Int)) 1;rw[e1,e2];exact Js _ rfl
 ·have e:b=(s.heap.push { cls:=.type "range",data:=.fields #[.int lo t,.int hi u,.int 1 v] }).objs.size:=by simpa using hb
  subst e;exact I1.qfa (Jp _) (I1.hok.fresh (Jp _))
def iRng1(ta:TA): TI:=fun σ H R=>ta σ H fun vs H1=>∃ j:Int,vs=[.int j]/\-(2 ^ 62)<=j/\j<2 ^ 62/\R (Itr 0 j.toNat) H1
theorem q5r{a:Expr}{ta:TA}{p pos:Pos}(hg:Gl X "range")(hm:X.mg "range" = none)(ha:PA X [a] ta)(hs:starEach [a] X.env=[(false,eval a X.env)]:=by rfl): PI X tg (.Call (.Name "range" p) [a] [] pos) (iRng1 ta):=by
 intro pins s σ H R I h;refine Call_ (qev I hg hm boot_range (Yo (thn (ha pos pins s σ H _ I h) fun us s1 ⟨vs,H1,I1,r1,q1⟩=>?_) hs rfl));obtain⟨j,e,q1,q2,q⟩:=q1;subst e;cases r1 with
 | cons r rr=>
   cases rr;obtain⟨t,rfl⟩:=r;exact call_range_1 (q54 I1 (by omega) (by omega) q1 q2 (by simpa using q))
def tFor(wi:TI)(g:TG)(tb:TS): TS:=fun D σ H=>wi σ H fun J H1=>∃ W:Nat->Nat->St->Hp->Prop,(∃ m,W 0 m σ H1)/\∀ i m σ H,W i m σ H ->
 (J.stop i H/\D.nx σ H)\/(J.go i H/\∃ N:St->Hp->Prop,(∀ σ' H',N σ' H'->∃ m',m' < m/\W (i+1) m' σ' H')/\∀ x H',J.yld i H x H'->g x σ H' fun σ2 H2=>tb { D with nx:=N,ct:=N,bk:=D.nx } σ2 H2)
def qic(fp:List Addr)(h:Heap): List (Addr×Obj):=fp.filterMap fun b=>(h.get? b).map fun o=>(b,o)
theorem qmv{fp:List Addr}{h:Heap}{b:Addr}{o:Obj}(hb:b∈fp)(e:h.get? b=some o): (b,o)∈qic fp h:=List.mem_filterMap.mpr ⟨b,hb,by rw[e];rfl⟩
theorem q44{fp:List Addr}{h:Heap}{p:Addr×Obj}(hp:p∈qic fp h): p.1∈fp/\h.get? p.1=some p.2:=by
 obtain⟨b,hb,e⟩:=List.mem_filterMap.mp hp;cases q:h.get? b with
 |none=>rw[q] at e;cases e
 | some o=>
   rw[q] at e;have e':(b,o)=p:=Jj e;subst e';exact⟨hb,q⟩
theorem Inv.pinned{pins:List (Addr×Obj)}{σ:St}{H:Hp}{s:Shared}{fp:List Addr}(I:Inv X pins σ H s)(hf:∀ b∈fp,Qc9 X pins H b)(ho:∀ b∈fp,∃ o,s.heap.get? b=some o/\∀ v,o.data≠.cell v): Inv X (pins++qic fp s.heap) σ H s:=
 I.qr6 fun p hp=>(J4.mp hp).elim (fun z=>I.pin p (Ye _ z)) fun z=>by
  obtain⟨hb,e⟩:=q44 z;obtain⟨f0,f1,f2,_⟩:=hf p.1 hb;obtain⟨o,e',d⟩:=ho p.1 hb;rw[e] at e';cases e';exact⟨e,f0,f1,f2,d⟩
theorem Inv.qkp{pins pl:List (Addr×Obj)}{σ:St}{H:Hp}{s:Shared}(I:Inv X (pins++pl) σ H s): Inv X pins σ H s:=I.qr6 fun p hp=>I.pin p (Ye _ (Zx _ hp))
theorem qdz{iter:Expr}{body:List Stmt}{wi:TI}{g:TG}{tb:TS}{pos:Pos}(hp:PassesOwn (model X.prog X.w) X.A X.env X.xe)(hc:X.calm=true)(hi:PI X tg iter wi)(hg:PG X tg g)(hb:PSs X body tb)
  (hs:∀ x,foldedSetIterable iter X.env x=pure x:=by intro _;rfl): PS X (.For tg iter body [] pos) (tFor wi g tb):=by
 intro pins s σ H D I h;refine wpAny_For (thn (hi pins s σ H _ I h) fun v s1 h1=>thn h1 fun itv s2 h2=>?_) hs;obtain⟨it,fp,tn,J,H2,e,I2,T,st2,f2,W,⟨m0,w0⟩,turn⟩:=h2;subst e;have qf6:∀ {H':Hp},(∀ b∈fp,H' b=none)->∀ b∈fp,Qc9 X pins H' b:=fun hn b hb=>⟨hn b hb,(f2 b hb).2⟩
 refine codeAny_forLoop_any (fun n s'=>∃ i σ' H',Inv X pins σ' H' s'/\tn i s'.heap/\(∀ b∈fp,H' b=none)/\W i n σ' H') ?_ m0 ⟨0,σ,H2,I2,st2,fun b hb=>(f2 b hb).1,w0⟩;rintro n s3 ⟨i,σ3,H3,I3,st3,fr3,w3⟩;rcases turn i n σ3 H3 w3 with ⟨stop,qn⟩|⟨go,N,hN,step⟩
 ·refine Z8 hp (thn (T.done X rfl rfl rfl hc i pins s3 σ3 H3 X.xe I3 (qf6 fr3) st3 stop) fun r s4 ⟨hr,I4⟩=>?_);subst hr;exact Qq ⟨σ3,H3,I4,qn⟩
 ·refine Z8 hp (thn (T.item X rfl rfl rfl hc i pins s3 σ3 H3 X.xe I3 (qf6 fr3) st3 go) fun r s4 ⟨u,hr,h4⟩=>?_);subst hr;refine Z8 hp (thn h4 fun _ s5 ⟨x,H5,I5,r5,y5,st5,fr5⟩=>?_);have I5':=I5.pinned (qf6 fr5) (T.obj _ _ st5);refine Z8 hp (thn (hg _ s5 σ3 H5 x u _ I5' r5 (step x H5 y5)) fun _ s6 ⟨σ6,H6,I6,q6⟩=>?_);refine Z8 hp (thn (hb _ s6 σ6 H6 _ I6 q6) fun f s7 q7=>?_);have again:∀ {σ7:St} {H7:Hp},Inv X (pins++qic fp s5.heap) σ7 H7 s7->N σ7 H7->∃ m,m<n/\∃ i σ' H',Inv X pins σ' H' s7/\tn i s7.heap/\(∀ b∈fp,H' b=none)/\W i m σ' H':=fun {σ7 H7} I7 n7=>by
   obtain⟨m',hm,w7⟩:=hN σ7 H7 n7;refine⟨m',hm,i+1,σ7,H7,I7.qkp,T.keep _ _ _ st5 fun b hb o e=>(I7.pin (b,o) (Ye _ (Ye _ (qmv hb e)))).1,fun b hb=>?_,w7⟩;obtain⟨o,e,d⟩:=T.obj _ _ st5 b hb;exact(I7.pin (b,o) (Ye _ (Ye _ (qmv hb e)))).2.1
  cases f with
  |next=>obtain⟨σ7,H7,I7,n7⟩:=q7;exact again I7 n7
  |cont=>obtain⟨σ7,H7,I7,n7⟩:=q7;exact again I7 n7
  |brk=>obtain⟨σ7,H7,I7,q7⟩:=q7;exact⟨σ7,H7,I7.qkp,q7⟩
  |ret v=>obtain⟨x7,σ7,H7,I7,r7,q7⟩:=q7;exact⟨x7,σ7,H7,I7.qkp,r7,q7⟩
end
abbrev R2:=V->V->Hp->VK->Prop
def OpR(X:Cx)(f:Value->Value->Sem Value)(r:R2): Prop:=
 ∀ (pins:List (Addr×Obj)) (s:Shared) (σ:St) (H:Hp) (x y:V) (v u:Value) (Q:VK),Inv X pins σ H s->RelV x v->RelV y u->r x y H Q ->
   wpAny (model X.prog X.w) X.A (f v u) (EP X pins σ Q) X.xe s
def UnR(X:Cx)(f:Value->Sem Value)(r:V->Hp->VK->Prop): Prop:=
 ∀ (pins:List (Addr×Obj)) (s:Shared) (σ:St) (H:Hp) (x:V) (v:Value) (Q:VK),Inv X pins σ H s->RelV x v->r x H Q ->
   wpAny (model X.prog X.w) X.A (f v) (EP X pins σ Q) X.xe s
def Qd3(X:Cx)(f:Value)(r:List V->Hp->VK->Prop): Prop:=
 ∀ (pins:List (Addr×Obj)) (s:Shared) (σ:St) (H:Hp) (xs:List V) (us:List Value) (Q:VK),Inv X pins σ H s->Vals xs us->r xs H Q ->
   wpAny (model X.prog X.w) X.A (call f us) (EP X pins σ Q) X.xe s
def tOp(r:R2)(ta tb:TE): TE:=fun σ H Q=>ta σ H fun x H1=>tb σ H1 fun y H2=>r x y H2 Q
def tUn(r:V->Hp->VK->Prop)(ta:TE): TE:=fun σ H Q=>ta σ H fun x H1=>r x H1 Q
def rI(C:Int->Int->Prop)(g:Int->Int->V): R2:=fun x y H Q=>∃ i j,x = .int i/\y = .int j/\C i j/\Q (g i j) H
def rI0(g:Int->Int->V): R2:=fun x y H Q=>∃ i j,x = .int i/\y = .int j/\Q (g i j) H
def rU(g:Int->V): V->Hp->VK->Prop:=fun x H Q=>∃ i,x = .int i/\Q (g i) H
section
variable {X:Cx} {a b c:Expr} {ta tb tc:TE} {pos:Pos}
theorem binT(ha:PE X a ta)(hb:PE X b tb){pins:List (Addr×Obj)}{s:Shared}{σ:St}{H:Hp}{R:V->V->Hp->Prop}(I:Inv X pins σ H s)
  (h:ta σ H fun x H1=>tb σ H1 fun y H2=>R x y H2){Q:Value->Shared->Prop}{f:Value->Value->Sem Value}
  (hf:∀ v u s2 x y H2,Inv X pins σ H2 s2->RelV x v->RelV y u->R x y H2->wpAny (model X.prog X.w) X.A (f v u) Q X.xe s2):
  wpAny (model X.prog X.w) X.A (eval a X.env) (fun v s₁=>wpAny (model X.prog X.w) X.A (eval b X.env) (fun u s₂=>wpAny (model X.prog X.w) X.A (f v u) Q X.xe s₂) X.xe s₁) X.xe s:=by
 refine thn (ha pins s σ H _ I h) fun v s1 ⟨x,H1,I1,r1,q1⟩=>?_;refine thn (hb pins s1 σ H1 _ I1 q1) fun u s2 ⟨y,H2,I2,r2,q2⟩=>?_;exact hf v u s2 x y H2 I2 r1 r2 q2
theorem qaf{op:Operator}{r:R2}(ho:OpR X (binaryOp op) r)(ha:PE X a ta)(hb:PE X b tb): PE X (.BinOp a op b pos) (tOp r ta tb):=by
 intro pins s σ H Q I h;exact wpAny_BinOp (binT ha hb I h fun v u s2 x y H2 I2 rx ry q=>ho pins s2 σ H2 x y v u Q I2 rx ry q)
theorem qee{op:UnaryOp}{r:V->Hp->VK->Prop}(ho:UnR X (unaryOp op) r)(ha:PE X a ta): PE X (.UnaryOp op a pos) (tUn r ta):=by
 intro pins s σ H Q I h;exact UnaryOp_ (thn (ha pins s σ H _ I h) fun v s1 ⟨x,H1,I1,r1,q1⟩=>ho pins s1 σ H1 x v Q I1 r1 q1)
theorem opI{f:Value->Value->Sem Value}{C:Int->Int->Prop}{g:Int->Int->Int}
  (rule:∀ (i j:Int) (t u:Tok) (s:Shared) (Q:Value->Shared->Prop) (E:Value->Shared->Prop),C i j->Q (.int (g i j) s.toks) { s with toks:=s.toks+1 }->wpAny (model X.prog X.w) X.A (f (.int i t) (.int j u)) Q E s):
  OpR X f (rI C fun i j=>.int (g i j)):=by
 intro pins s σ H x y v u Q I rx ry h;obtain⟨i,j,rfl,rfl,hc,q⟩:=h;obtain⟨t,rfl⟩:=rx;obtain⟨t',rfl⟩:=ry;exact rule i j t t' s _ _ hc ⟨.int (g i j),H,I.tok _,⟨_,rfl⟩,q⟩
theorem opI0{f:Value->Value->Sem Value}{g:Int->Int->Int}
  (rule:∀ (i j:Int) (t u:Tok) (s:Shared) (Q:Value->Shared->Prop) (E:Value->Shared->Prop),Q (.int (g i j) s.toks) { s with toks:=s.toks+1 }->wpAny (model X.prog X.w) X.A (f (.int i t) (.int j u)) Q E s):
  OpR X f (rI0 fun i j=>.int (g i j)):=by
 intro pins s σ H x y v u Q I rx ry h;obtain⟨i,j,rfl,rfl,q⟩:=h;obtain⟨t,rfl⟩:=rx;obtain⟨t',rfl⟩:=ry;exact rule i j t t' s _ _ ⟨.int (g i j),H,I.tok _,⟨_,rfl⟩,q⟩
theorem opB0{f:Value->Value->Sem Value}{g:Int->Int->Bool}
  (rule:∀ (i j:Int) (t u:Tok) (s:Shared) (Q:Value->Shared->Prop) (E:Value->Shared->Prop),Q (.bool (g i j)) s->wpAny (model X.prog X.w) X.A (f (.int i t) (.int j u)) Q E s):
  OpR X f (rI0 fun i j=>.bl (g i j)):=by
 intro pins s σ H x y v u Q I rx ry h;obtain⟨i,j,rfl,rfl,q⟩:=h;obtain⟨t,rfl⟩:=rx;obtain⟨t',rfl⟩:=ry;exact rule i j t t' s _ _ ⟨.bl (g i j),H,I,rfl,q⟩
def CDiv(i j:Int): Prop:=0<j/\j<1073741824
def CMul(i j:Int): Prop:=(-(2 ^ 64)<i/\i<2 ^ 64)\/(-(2 ^ 64)<j/\j<2 ^ 64)
theorem CMul.ok{i j:Int}(h:CMul i j): IntMulOk i j:=by
 rcases h with ⟨h1,h2⟩|⟨h1,h2⟩
 ·exact .of_left (intBits_le_64 h1 h2)
 ·exact .of_right (intBits_le_64 h1 h2)
theorem qca:OpR X (binaryOp .Add) (rI0 fun i j=>.int (i+j)):=opI0 fun _ _ _ _ _ _ _ q=>add_int q
theorem qcr:OpR X (binaryOp .Sub) (rI0 fun i j=>.int (i-j)):=opI0 fun _ _ _ _ _ _ _ q=>sub_int q
theorem qec:OpR X (binaryOp .Mult) (rI CMul fun i j=>.int (i*j)):=opI fun _ _ _ _ _ _ _ hc q=>mul_int q hc.ok
theorem qm0:OpR X (binaryOp .FloorDiv) (rI CDiv fun i j=>.int (i / j)):=opI fun i j _ _ _ _ _ hc q=>by
 have h1:(0:Int)<j:=hc.1;have h2:j<1073741824:=hc.2;exact floordiv_int (by omega) (by rw[Int.fdiv_eq_ediv_of_nonneg i (by omega)];exact q) (.inl (PyProof.noPylong_small (by omega)))
theorem qrw:OpR X (binaryOp .Mod) (rI (fun _ j=>0<j) fun i j=>.int (i%j)):=opI fun i j _ _ _ _ _ hc q=>by
 have h1:(0:Int)<j:=hc;exact mod_int' (by omega) (by rw[Int.fmod_eq_emod_of_nonneg i (by omega)];exact q)
theorem unI{f:Value->Sem Value}{g:Int->Int}
  (rule:∀ (i:Int) (t:Tok) (s:Shared) (Q:Value->Shared->Prop) (E:Value->Shared->Prop),Q (.int (g i) s.toks) { s with toks:=s.toks+1 }->wpAny (model X.prog X.w) X.A (f (.int i t)) Q E s):
  UnR X f (rU fun i=>.int (g i)):=by
 intro pins s σ H x v Q I rx h;obtain⟨i,rfl,q⟩:=h;obtain⟨t,rfl⟩:=rx;exact rule i t s _ _ ⟨.int (g i),H,I.tok _,⟨_,rfl⟩,q⟩
theorem qek:UnR X (unaryOp .USub) (rU fun i=>.int (-i)):=unI fun _ _ _ _ _ q=>neg_int q
end
def scal:V->V->Bool
 | .non,.non=>true | .non,.int _=>true | .int _,.non=>true | .non,.bl _=>true | .bl _,.non=>true | .non,.str _=>true | .str _,.non=>true
 | .int _,.int _=>true | .bl _,.bl _=>true | .str _,.str _=>true | .byt _,.byt _=>true
 | .int _,.str _=>true | .str _,.int _=>true | .bl _,.str _=>true | .str _,.bl _=>true
 |_,_=>false
def rEq:R2:=fun x y H Q=>scal x y=true/\Q (.bl (decide (x=y))) H
def rNe:R2:=fun x y H Q=>scal x y=true/\Q (.bl (!decide (x=y))) H
theorem qpn{i j:Int}: decide (V.int i=V.int j)=(i==j):=by
 rw[Zm];simp
theorem qpl{i j:Bool}: decide (V.bl i=V.bl j)=(i==j):=by
 rw[Zm];simp
theorem qpo{i j:Str}: decide (V.str i=V.str j)=(i==j):=by
 rw[Zm];simp
theorem qpm{i j:Array UInt8}: decide (V.byt i=V.byt j)=(i.toList==j.toList):=by
 rw[Zm];cases i;cases j;simp
section
variable {X:Cx} {a b c:Expr} {ta tb tc:TE} {pos:Pos}
theorem qas{pins:List (Addr×Obj)}{σ:St}{H:Hp}{s:Shared}{Q:VK}{k k':Bool}(I:Inv X pins σ H s)(q:Q (.bl k) H)(e:k=k'): EP X pins σ Q (.bool k') s:=by
 subst e;exact⟨.bl k,H,I,rfl,q⟩
theorem qbf:OpR X (compareOp .Eq) rEq:=by
 intro pins s σ H x y v u Q I rx ry h;obtain⟨hs,q⟩:=h;cases x with
 | non=>
   cases rx;cases y with
   |non=>cases ry;exact PySem.EqNone.eq_none_none (qas I q (by simp))
   |bl j=>cases ry;exact PySem.EqNone.eq_none_bool (qas I q (by simp))
   |int j=>obtain⟨t',rfl⟩:=ry;exact PySem.EqNone.eq_none_int (qas I q (by simp))
   |str j=>obtain⟨t',rfl⟩:=ry;exact PySem.EqNone.eq_none_str (qas I q (by simp))
   |_=>exact absurd (show false=true from hs) Jr
 | bl i=>
   cases rx;cases y with
   |non=>cases ry;exact PySem.EqNone.eq_bool_none (qas I q (by simp))
   |bl j=>cases ry;exact eq_bool (qas I q qpl)
   |str j=>obtain⟨t',rfl⟩:=ry;exact PySem.EqMixed.eq_bool_str (qas I q (by simp))
   |_=>exact absurd (show false=true from hs) Jr
 | int i=>
   obtain⟨t,rfl⟩:=rx;cases y with
   |non=>cases ry;exact PySem.EqNone.eq_int_none (qas I q (by simp))
   |int j=>obtain⟨t',rfl⟩:=ry;exact eq_int (qas I q qpn)
   |str j=>obtain⟨t',rfl⟩:=ry;exact PySem.EqMixed.eq_int_str (qas I q (by simp))
   |_=>exact absurd (show false=true from hs) Jr
 | str i=>
   obtain⟨t,rfl⟩:=rx;cases y with
   |non=>cases ry;exact PySem.EqNone.eq_str_none (qas I q (by simp))
   |bl j=>cases ry;exact PySem.EqMixed.eq_str_bool (qas I q (by simp))
   |int j=>obtain⟨t',rfl⟩:=ry;exact PySem.EqMixed.eq_str_int (qas I q (by simp))
   |str j=>obtain⟨t',rfl⟩:=ry;exact eq_str (qas I q qpo)
   |_=>exact absurd (show false=true from hs) Jr
 | byt i=>
   obtain⟨t,rfl⟩:=rx;cases y with
   |byt j=>obtain⟨t',rfl⟩:=ry;exact PySem.W.eq_bytes (qas I q qpm)
   |_=>exact absurd (show false=true from hs) Jr
 |_=>cases y<;>exact absurd (show false=true from hs) Jr
theorem qdv:OpR X (compareOp .NotEq) rNe:=by
 intro pins s σ H x y v u Q I rx ry h;obtain⟨hs,q⟩:=h;cases x with
 | non=>
   cases rx;cases y with
   |non=>cases ry;exact PySem.EqNone.ne_none_none (qas I q (by simp))
   |bl j=>cases ry;exact PySem.EqNone.ne_none_bool (qas I q (by simp))
   |int j=>obtain⟨t',rfl⟩:=ry;exact PySem.EqNone.ne_none_int (qas I q (by simp))
   |str j=>obtain⟨t',rfl⟩:=ry;exact PySem.EqNone.ne_none_str (qas I q (by simp))
   |_=>exact absurd (show false=true from hs) Jr
 | bl i=>
   cases rx;cases y with
   |non=>cases ry;exact PySem.EqNone.ne_bool_none (qas I q (by simp))
   |bl j=>cases ry;exact ne_bool (qas I q (Yk not qpl))
   |str j=>obtain⟨t',rfl⟩:=ry;exact PySem.EqMixed.ne_bool_str (qas I q (by simp))
   |_=>exact absurd (show false=true from hs) Jr
 | int i=>
   obtain⟨t,rfl⟩:=rx;cases y with
   |non=>cases ry;exact PySem.EqNone.ne_int_none (qas I q (by simp))
   |int j=>obtain⟨t',rfl⟩:=ry;exact ne_int (qas I q (Yk not qpn))
   |str j=>obtain⟨t',rfl⟩:=ry;exact PySem.EqMixed.ne_int_str (qas I q (by simp))
   |_=>exact absurd (show false=true from hs) Jr
 | str i=>
   obtain⟨t,rfl⟩:=rx;cases y with
   |non=>cases ry;exact PySem.EqNone.ne_str_none (qas I q (by simp))
   |bl j=>cases ry;exact PySem.EqMixed.ne_str_bool (qas I q (by simp))
   |int j=>obtain⟨t',rfl⟩:=ry;exact PySem.EqMixed.ne_str_int (qas I q (by simp))
   |str j=>obtain⟨t',rfl⟩:=ry;exact ne_str (qas I q (Yk not qpo))
   |_=>exact absurd (show false=true from hs) Jr
 | byt i=>
   obtain⟨t,rfl⟩:=rx;cases y with
   |byt j=>obtain⟨t',rfl⟩:=ry;exact PySem.W.ne_bytes (qas I q (Yk not qpm))
   |_=>exact absurd (show false=true from hs) Jr
 |_=>cases y<;>exact absurd (show false=true from hs) Jr
theorem qey:OpR X (compareOp .Lt) (rI0 fun i j=>.bl (decide (i<j))):=opB0 fun _ _ _ _ _ _ _ q=>lt_int q
theorem qdu:OpR X (compareOp .LtE) (rI0 fun i j=>.bl (decide (i<=j))):=opB0 fun _ _ _ _ _ _ _ q=>le_int q
theorem qjs:OpR X (compareOp .Gt) (rI0 fun i j=>.bl (decide (j<i))):=opB0 fun _ _ _ _ _ _ _ q=>gt_int q
theorem qeb:OpR X (compareOp .GtE) (rI0 fun i j=>.bl (decide (j<=i))):=opB0 fun _ _ _ _ _ _ _ q=>ge_int q
theorem qjt:OpR X (compareOp .Is) (fun x y H Q=>y = .non/\Q (.bl (decide (x = .non))) H):=by
 intro pins s σ H x y v u Q I rx ry h;obtain⟨rfl,q⟩:=h;cases ry;refine is_none_gen (qas I q ?_);cases x<;>first
  |(cases rx;rfl)
  |(obtain⟨t,rfl⟩:=rx;rfl)
theorem qrx:OpR X (compareOp .IsNot) (fun x y H Q=>y = .non/\Q (.bl (!decide (x = .non))) H):=by
 intro pins s σ H x y v u Q I rx ry h;obtain⟨rfl,q⟩:=h;cases ry;refine isnot_none_gen (qas I q ?_);cases x<;>first
  |(cases rx;rfl)
  |(obtain⟨t,rfl⟩:=rx;rfl)
theorem qrt(b:Expr){op:CmpOp}(h:op≠.In:=by decide)(h2:op≠.NotIn:=by decide): behindInMarks op b=false:=by
 have e1:(op==CmpOp.In)=false:=by cases op<;>first|rfl|exact absurd rfl h
 have e2:(op==CmpOp.NotIn)=false:=by cases op<;>first|rfl|exact absurd rfl h2
 cases b<;>simp[behindInMarks,e1,e2]
theorem q49{op:CmpOp}{r:R2}(ho:OpR X (compareOp op) r)(ha:PE X a ta)(hb:PE X b tb)(hm:behindInMarks op b=false): PE X (.Compare a [op] [b] pos) (tOp r ta tb):=by
 intro pins s σ H Q I h;exact wpAny_Compare1 (binT ha hb I h fun v u s2 x y H2 I2 rx ry q=>ho pins s2 σ H2 x y v u Q I2 rx ry q) hm
def qd1(t:TE): TT:=fun σ H Q=>t σ H fun x H'=>∃ k,x = .bl k/\Q k H'
theorem qjy{op:CmpOp}{r:R2}(ho:OpR X (compareOp op) r)(ha:PE X a ta)(hb:PE X b tb)(hm:behindInMarks op b=false): PT X (.Compare a [op] [b] pos) (qd1 (tOp r ta tb)):=by
 intro pins s σ H Q I h;refine wpAny_isTrue_Compare1 (thn (ha pins s σ H _ I h) fun v s1 ⟨x,H1,I1,r1,q1⟩=>thn (hb pins s1 σ H1 _ I1 q1) fun u s2 ⟨y,H2,I2,r2,q2⟩=>
  thn (ho pins s2 σ H2 x y v u _ I2 r1 r2 q2) fun c s3 ⟨z,H3,I3,r3,k,e,q3⟩=>?_) hm
 subst e;cases r3;exact Zz ⟨H3,I3,q3⟩
def qvp(r r':R2)(ta tb tc:TE): TE:=fun σ H Q=>ta σ H fun x H1=>tb σ H1 fun y H2=>r x y H2 fun z H3=>∃ k,z = .bl k /\
 (if k=true then tc σ H3 fun w' H4=>r' y w' H4 Q else Q (.bl false) H3)
theorem qr1{op op':CmpOp}{r r':R2}(ho:OpR X (compareOp op) r)(ho':OpR X (compareOp op') r')(ha:PE X a ta)(hb:PE X b tb)(hc:PE X c tc)
  (hm:lastMarks [op,op'] [b,c]=false:=by with_unfolding_all rfl): PE X (.Compare a [op,op'] [b,c] pos) (qvp r r' ta tb tc):=by
 intro pins s σ H Q I h;refine Compare_chain (thn (ha pins s σ H _ I h) fun v s1 ⟨x,H1,I1,r1,q1⟩=>chain_link (thn (hb pins s1 σ H1 _ I1 q1) fun u s2 ⟨y,H2,I2,r2,q2⟩=>
  thn (ho pins s2 σ H2 x y v u _ I2 r1 r2 q2) fun d s3 ⟨z,H3,I3,r3,k,e,q3⟩=>?_)) hm
 subst e;cases r3;refine Zz ?_;cases k with
 |false=>exact ite_ff ⟨.bl false,H3,I3,rfl,q3⟩
 |true=>exact ite_tt (chain_last (thn (hc pins s3 σ H3 _ I3 q3) fun w' s4 ⟨z',H4,I4,r4,q4⟩=>ho' pins s4 σ H4 y z' u w' Q I4 r2 r4 q4))
theorem qjo:(sizeLine:Nat)<2 ^ 63:=by rw[sizeLine_eq];decide
theorem vals1{x:V}{us:List Value}(r:Vals [x] us): ∃ u,us=[u]/\RelV x u:=by
 cases r with
 |cons r1 r2=>cases r2;exact⟨_,rfl,r1⟩
end
structure Qgc(h:Heap)(x dx C:Addr)(mA:Str->Option Value): Prop where
 obj:h.get? x=some (PySem.W.instObj C dx)
 ns:h.Ns1 dx mA
 ne:dx≠x
theorem q3o{h:Heap}{dx:Addr}{mA:Str->Option Value}(n:h.Ns1 dx mA): ∃ od,h.get? dx=some od/\∀ name,PySem.W.lookIn name od=some (mA name):=by
 obtain⟨o,es,ep,ho,hd,hk,_,hm⟩:=n;refine⟨o,ho,fun name=>?_⟩;have e:=hm name;unfold nsFind findBy at e;rw[<- Array.find?_toList] at e;unfold PySem.W.lookIn;rw[hd];dsimp only;split
 ·rename_i y q;rw[q] at e;exact Yk some e
 ·rename_i q;rw[q] at e;have a:es.toList.any (·.refKey)=false:=by
   rw[List.any_eq_false];intro y hy;obtain⟨z,t,hkey⟩:=hk y (Array.mem_toList_iff.mp hy);simp[DictEntry.refKey,hkey]
  have a':¬ es.toList.any (·.refKey)=true:=by rw[a];exact Jr
  rw[Jc a'];exact Yk some e
theorem Qgc.look{h:Heap}{x dx C:Addr}{mA:Str->Option Value}(I:Qgc h x dx C mA): ∃ od,PySem.W.InstAt h x (PySem.W.instObj C dx) C (some od)/\∀ name,PySem.W.lookIn name od=some (mA name):=
 let ⟨od,ho,hl⟩:=q3o I.ns;⟨od,⟨I.obj,rfl,rfl,ho⟩,hl⟩
section
variable {prog:Program} {w:World} {A:Around} {E:Value->Shared->Prop} {s:Shared} {K:PySem.W.Frag} {x dx C f:Addr} {mA:Str->Option Value} {name:Str} {v:Value}
theorem get_map{expr:Bool}{Q:Value->Shared->Prop}(X:K.In s.heap)(I:Qgc s.heap x dx C mA)(hg:PySem.W.plainGet K C name=true)(hh:PySem.W.hasDictIn K C=true)
  (ha:PySem.W.findIn K (.ref C) name=some none)(hv:mA name=some v)(hv':PySem.W.handedIn v=true)(h:Q v { s with toks:=s.toks+1 }):
  wpAny (model prog w) A (getAttr (.ref x) name expr) Q E s:=by
 obtain⟨od,J,hl⟩:=I.look;exact PySem.W.get_value X J (PySem.W.plainGet_of hg).1 (PySem.W.findObj_own hh ha rfl (by rw[hl,hv])) hv' h
theorem q7o{ns:List Str}{Q:Unit->Shared->Prop}(X:K.In s.heap)(I:Qgc s.heap x dx C mA)
  (hs:PySem.W.findIn K (.ref C) "__setattr__" = some (some (.builtin "object.__setattr__")))(hp:PySem.W.plainOver K C=true)(ht:PySem.W.takerIn K C name=some none)(hh:PySem.W.hasDictIn K C=true)
  (hw:PySem.Within mA ns)(hsz:ns.length<=sizeLine)
  (h:∀ h',Qgc h' x dx C (fun y=>if y=name then some v else mA y)->Heap.SameBut dx s.heap h'->Q () { s with heap:=h',toks:=s.toks+2 }):
  wpAny (model prog w) A (setAttr (.ref x) name v) Q E s:=by
 obtain⟨od,J,hl⟩:=I.look;refine PySem.W.set_plain X J hs (PySem.W.osa_open (s:={ s with toks:=s.toks+1 }) (r:=none) X J hp ht fun b=>?_);obtain⟨cd,hc,hd'⟩:=PySem.W.any_some hh;have hx:s.heap.get? x=some ⟨.ref C,some dx,.plain,#[]⟩:=I.obj;refine Ja (Jg (Ja (Ja (wpAny_loadPart hx (Ja (PySem.W.Looks.here (s:={ s with toks:=s.toks+1 }) (PySem.W.looks_clsIn X hc) ?_))))));rw[hd'];refine Jg (a:=some dx) (Ja (Jg (Ja ?_)));refine wpAny_nsSet1 (s:={ s with toks:=s.toks+1 }) I.ns fun h' hn2 hs2=>?_;obtain⟨oD,esD,epD,hoD,hdD,hcD⟩:=hn2.count (PySem.Within.cons name v hw);refine Ja (wpAny_lookBehind hoD (by rw[hdD];exact pastItsLine_dict (Xd hcD (by rw[Jz];omega))) ?_);exact Jg (h _ ⟨(hs2.2 _ (Xb I.ne)).trans I.obj,hn2,I.ne⟩ hs2)
theorem q3t{R:Result->Shared->Prop}{vs:List Value}{kw:List (Str×Value)}(X:K.In s.heap)(hm:PySem.W.makesIn K C=true)
  (hi:PySem.W.findIn K (.ref C) "__init__" = some (some (.ref f)))(hf:PySem.W.typeIn K (.ref f)=some (.type "function"))
  (h:codeAny (model prog w) (A.under (.builtin "type.__call__" ⟨.ref C::vs,kw⟩)) (.call (.ref f) ⟨.ref (s.heap.objs.size+1)::vs,kw⟩) (PySem.W.InitBack (s.heap.objs.size+1) R)
   { s with heap:=(s.heap.push PySem.W.emptyDict).push (PySem.W.instObj C s.heap.objs.size) }):
  codeAny (model prog w) A (.call (.ref C) ⟨vs,kw⟩) R s:=by
 obtain⟨hh,g,d,t,os⟩:=s;exact PySem.W.make_core (PySem.W.makes_of X hm) (PySem.W.looks_findIn X hi) (fun self=>PySem.W.bind_fn X self hf) (.inl rfl) h
end
def qbs(f:Str)(v:V): List (Str×V)->List (Str×V)
 |[]=>[(f,v)]
 |(g,x)::r=>if g=f then (g,v)::r else (g,x)::qbs f v r
theorem qrf(f g:Str)(v:V): ∀ fs:List (Str×V),(qbs f v fs).lookup g=if g=f then some v else fs.lookup g
 | []=>by
   show List.lookup g [(f,v)]=_;by_cases h:g=f
   ·have hb:(g==f)=true:=Yq.mpr h;simp only[List.lookup,hb,Je h]
   ·have hb:(g==f)=false:=Yu.mpr h;simp only[List.lookup,hb,Jc h]
 | (k,x)::r=>by
   have ih:=qrf f g v r;rw[show qbs f v ((k,x)::r)=(if k=f then (k,v)::r else (k,x)::qbs f v r) from rfl];by_cases hk:k=f
   ·rw[Je hk];by_cases h:g=k
    ·have hb:(g==k)=true:=Yq.mpr h;simp only[List.lookup,hb,Je (h.trans hk)]
    ·have hb:(g==k)=false:=Yu.mpr h;simp only[List.lookup,hb,Jc (fun e:g=f=>h (e.trans hk.symm))]
   ·rw[Jc hk];by_cases h:g=k
    ·have hb:(g==k)=true:=Yq.mpr h;simp only[List.lookup,hb,Jc (fun e:g=f=>hk (h.symm.trans e))]
    ·have hb:(g==k)=false:=Yu.mpr h;simp only[List.lookup,hb];exact ih
theorem qmk(f:Str)(v:V): ∀ fs:List (Str×V),f∈(qbs f v fs).map (·.1)/\∀ g,g∈fs.map (·.1)->g∈(qbs f v fs).map (·.1)
 |[]=>⟨by simp[qbs],fun g h=>by simp at h⟩
 | (k,x)::r=>by
   obtain⟨i1,i2⟩:=qmk f v r;rw[show qbs f v ((k,x)::r)=(if k=f then (k,v)::r else (k,x)::qbs f v r) from rfl];by_cases hk:k=f
   ·rw[Je hk];subst hk;exact⟨by simp,fun g h=>by simpa using h⟩
   ·rw[Jc hk];refine⟨?_,fun g h=>?_⟩
    ·rw[Jq];exact Jm _ i1
    ·rw[Jq] at h ⊢;rcases Jf.mp h with e|e
     ·exact Jf.mpr (.inl e)
     ·exact Jm _ (i2 g e)
theorem qrb(f:Str)(v:V): ∀ fs:List (Str×V),(qbs f v fs).length<=fs.length+1
 |[]=>by simp[qbs]
 | (k,x)::r=>by
   have ih:=qrb f v r;rw[show qbs f v ((k,x)::r)=(if k=f then (k,v)::r else (k,x)::qbs f v r) from rfl];by_cases hk:k=f
   ·rw[Je hk,Jz,Jz];omega
   ·rw[Jc hk,Jz,Jz];omega
theorem Qch.some_of{v:V}{o:Option Value}(r:Qch (some v) o): ∃ u,o=some u/\RelV v u:=by
 cases o with
 |none=>exact(show False from r).elim
 |some u=>exact⟨u,rfl,r⟩
theorem q2p{v:V}{u:Value}(r:RelV v u): PySem.W.handedIn u=true:=by
 cases v with
 |non=>cases (show u=Value.none from r);rfl
 |bl b=>cases (show u=Value.bool b from r);rfl
 |int i=>obtain⟨t,e⟩:=(show ∃ t,u=Value.int i t from r);cases e;rfl
 |str x=>obtain⟨t,e⟩:=(show ∃ t,u=Value.str x t from r);cases e;rfl
 |byt b=>obtain⟨t,e⟩:=(show ∃ t,u=Value.bytes b t from r);cases e;rfl
 |flt b=>obtain⟨t,e⟩:=(show ∃ t,u=Value.float b t from r);cases e;rfl
 |ref a=>cases (show u=Value.ref a from r);rfl
 |ty n=>cases (show u=Value.type n from r);rfl
section
variable {P:Program} {w:World} {H H':Hp} {h h':Heap} {a C dx:Addr} {fs fs':List (Str×V)}
theorem qqo(hok:HOk P w H h)(e:H a=some (.ins C dx fs)): ∃ mA,Qgc h a dx C mA/\(∀ f,Qch (fs.lookup f) (mA f))/\PySem.Within mA (fs.map (·.1))/\fs.length<=1000/\H dx=some (.own a):=by
 obtain⟨d,z,ne,ob,mA,n,r,q⟩:=(show Qaw P w H h a (.ins C dx fs) from hok a _ e)
 exact⟨mA,⟨ob,n,ne⟩,r,q,z,d⟩
end
structure Cls(K:PySem.W.Frag)(C:Addr): Prop where
 pg:PySem.W.plainGet K C Str.empty=true
 hd:PySem.W.hasDictIn K C=true
 po:PySem.W.plainOver K C=true
 sa:PySem.W.findIn K (.ref C) "__setattr__" = some (some (.builtin "object.__setattr__"))
theorem Cls.get{K:PySem.W.Frag}{C:Addr}(c:Cls K C)(f:Str): PySem.W.plainGet K C f=true:=c.pg
def Qal(K:PySem.W.Frag)(C:Addr)(f:Str): Prop:=PySem.W.findIn K (.ref C) f=some none
theorem Qal.taker{K:PySem.W.Frag}{C:Addr}{f:Str}(n:Qal K C f): PySem.W.takerIn K C f=some none:=by
 unfold PySem.W.takerIn;rw[show PySem.W.findIn K (.ref C) f=some none from n];rfl
section
variable {X:Cx} {pins:List (Addr×Obj)} {σ:St} {H:Hp} {s:Shared} {a C dx:Addr} {fs:List (Str×V)} {f:Str} {v:V} {A:Around} {E:Value->Shared->Prop}
theorem q2b{b:Bool}{Q:Value->Shared->Prop}(I:Inv X pins σ H s)(e:H a=some (.ins C dx fs))(c:Cls X.K C)(n:Qal X.K C f)(l:fs.lookup f=some v)
  (h:∀ u s',Inv X pins σ H s'->RelV v u->Q u s'): wpAny (model X.prog X.w) A (getAttr (.ref a) f b) Q E s:=by
 obtain⟨mA,O,r,_,_,_⟩:=qqo I.hok e;obtain⟨u,hu,ru⟩:=Qch.some_of (v:=v) (o:=mA f) (by rw[<- l];exact r f);exact get_map I.kIn O (c.get f) c.hd n hu (q2p ru) (h u _ (I.tok _) ru)
theorem q7p{y:V}{u:Value}{Q:Unit->Shared->Prop}(I:Inv X pins σ H s)(e:H a=some (.ins C dx fs))(c:Cls X.K C)(n:Qal X.K C f)(hl:fs.length<1000)(ry:RelV y u)
  (h:∀ s',Inv X pins σ (upd H a (.ins C dx (qbs f y fs))) s'->Q () s'): wpAny (model X.prog X.w) A (setAttr (.ref a) f u) Q E s:=by
 obtain⟨mA,O,r,wi,_,ho⟩:=qqo I.hok e;have hz:(fs.map (·.1)).length<=sizeLine:=by rw[Jd,sizeLine_eq];omega
 refine q7o I.kIn O c.sa c.po n.taker c.hd wi hz fun h' O' sb=>h _ ?_;have hd:∃ o,h'.get? dx=some o:=let ⟨o,_,_,e',_⟩:=O'.ns;⟨o,e'⟩;refine I.write (x:=a) (e:=dx) (by rw[e];exact True.intro) (.inr ho) (fun b q hb z=>(sb.2 b hb).trans z) hd ?_;refine⟨by rw[qc O.ne];exact ho,?_,O.ne,O'.obj,_,O'.ns,fun g=>?_,fun g hg=>?_⟩
 ·have:=qrb f y fs;omega
 ·show Qch ((qbs f y fs).lookup g) (if g=f then some u else mA g);rw[qrf];by_cases q:g=f
  ·rw[Je q,Je q];exact ry
  ·rw[Jc q,Jc q];exact r g
 ·by_cases q:g=f
  ·rw[q];exact(qmk f y fs).1
  ·refine(qmk f y fs).2 g (wi g fun z=>hg ?_);show (if g=f then some u else mA g)=none;rw[Jc q];exact z
theorem Inv.made(I:Inv X pins σ H s): Inv X pins σ (upd (upd H s.heap.objs.size (.own (s.heap.objs.size+1))) (s.heap.objs.size+1) (.ins C s.heap.objs.size []))
  { s with heap:=(s.heap.push PySem.W.emptyDict).push (PySem.W.instObj C s.heap.objs.size) }:=by
 have e1:(s.heap.push PySem.W.emptyDict).get? s.heap.objs.size=some PySem.W.emptyDict:=Js s.heap rfl;have e2:((s.heap.push PySem.W.emptyDict).push (PySem.W.instObj C s.heap.objs.size)).get? (s.heap.objs.size+1)=some (PySem.W.instObj C s.heap.objs.size):=by
  have:=Js (s.heap.push PySem.W.emptyDict) (o:=PySem.W.instObj C s.heap.objs.size) rfl;rwa [J6] at this
 have e3:(s.heap.push PySem.W.emptyDict).Ns s.heap.objs.size (fun _=>none):=⟨PySem.W.emptyDict,#[],_,e1,rfl,(fun e he=>absurd he (by simp)),fun _=>rfl⟩
 have I1:=I.laid (a:=s.heap.objs.size) (o:=.own (s.heap.objs.size+1)) (h':=s.heap.push PySem.W.emptyDict) (t':=s.toks) (fun b u q=>Jb _ q) (Jp _) ⟨_,e1⟩;refine I1.laid (a:=s.heap.objs.size+1) (o:=.ins C s.heap.objs.size []) (t':=s.toks) (fun b u q=>Jb _ q) (Qp (J6 _ _)) ?_;have ne:s.heap.objs.size≠s.heap.objs.size+1:=Xl (Qe _);refine⟨by rw[qc ne,kq],X3 _,ne,e2,fun _=>none,(Heap.Ns1.of_empty e3).at fun o q=>Jb _ q,fun _=>True.intro,fun y hy=>absurd rfl hy⟩
theorem qw0{prog:Program}{w:World}{env:Env}{e:Expr}{f:Str}{pos:Pos}{s:Shared}{Q:Value->Shared->Prop}(hb:attributeBase e f env (eval e env)=eval e env)
  (h:wpAny (model prog w) A (eval e env) (fun o s₁=>wpAny (model prog w) A (getAttr o f true) Q E s₁) E s): wpAny (model prog w) A (eval (.Attribute e f pos) env) Q E s:=
 Attribute_any_ h (by rw[arm_eval_Attribute,hb])
end
def qfn(K:PySem.W.Frag)(ta:TE)(f:Str): TE:=fun σ H Q=>ta σ H fun x H1=>∃ a C dx fs v,x = .ref a/\H1 a=some (.ins C dx fs)/\Cls K C/\Qal K C f/\fs.lookup f=some v/\Q v H1
def sFld(K:PySem.W.Frag)(ta tv:TE)(f:Str): TS:=fun D σ H=>tv σ H fun y H1=>ta σ H1 fun x H2=>∃ a C dx fs,x = .ref a/\H2 a=some (.ins C dx fs)/\Cls K C/\Qal K C f/\fs.length<1000 /\
 D.nx σ (upd H2 a (.ins C dx (qbs f y fs)))
section
variable {X:Cx} {o e value:Expr} {f:Str} {pos pos' tpos:Pos} {ta tv:TE}
theorem pe_fld(he:PE X e ta)(hb:attributeBase e f X.env (eval e X.env)=eval e X.env): PE X (.Attribute e f pos) (qfn X.K ta f):=by
 intro pins s σ H Q I h;refine qw0 hb (thn (he pins s σ H _ I h) fun u s1 ⟨x,H1,I1,rx,a,C,dx,fs,v,ex,ea,c,n,l,q⟩=>?_);subst ex;obtain rfl:u=Value.ref a:=rx;exact q2b I1 ea c n l fun u' s2 I2 ru=>⟨v,H1,I2,ru,q⟩
theorem qaq(ha:PE X o ta)(hv:PE X value tv)(hs:swapsWith value (some (.Attribute o f pos')) pos.line X.env=pure false): PS X (.Assign [.Attribute o f pos'] value pos) (sFld X.K ta tv f):=by
 intro pins s σ H D I h;refine plainObj_wpAny_Assign_Attribute (thn (hv pins s σ H _ I h) fun u s1 ⟨y,H1,I1,ry,q⟩=>thn (ha pins s1 σ H1 _ I1 q) fun ov s2 ⟨x,H2,I2,rx,a,C,dx,fs,ex,ea,c,n,l,q2⟩=>?_) hs;subst ex;obtain rfl:ov=Value.ref a:=rx;exact q7p I2 ea c n l ry fun s3 I3=>⟨σ,_,I3,q2⟩
end
structure Qar(k:Nat)(A:Around): Prop where
 hd:A.handled=none
 dp:A.depth+3*k+5<recursionLimit
 un:A.units+16*k+200<cLine
theorem Qar.mono{j k:Nat}{A:Around}(r:Qar k A)(h:j<=k): Qar j A:=⟨r.hd,by have:=r.dp;omega,by have:=r.un;omega⟩
theorem Qar.deeper{k:Nat}{A:Around}(r:Qar (k+1) A)(env:Env): Qar k (A.deeper env):=
 ⟨r.hd,by have:=r.dp;show A.depth+1+3*k+5<_;omega,by have:=r.un;show A.units+3+16*k+200<_;omega⟩
theorem q3s{A:Around}{C:Addr}{us:List Value}{kw:List (Str×Value)}: (A.under (.builtin "type.__call__" ⟨.ref C::us,kw⟩)).depth=A.depth+1:=by
 first|rfl|simp[Around.under,Code.weight,Code.isCreation,Code.isGuard,Code.isCaller,Code.frames,Code.isFrame,guardIds]
theorem q3u{A:Around}{C:Addr}{us:List Value}{kw:List (Str×Value)}: (A.under (.builtin "type.__call__" ⟨.ref C::us,kw⟩)).units=A.units+1:=by
 first|rfl|simp[Around.under,Code.cUnits,Code.frames,Code.isFrame]
theorem Qar.make{k:Nat}{A:Around}(r:Qar (k+1) A)(C:Addr)(us:List Value)(kw:List (Str×Value)): Qar k (A.under (.builtin "type.__call__" ⟨.ref C::us,kw⟩)):=
 ⟨r.hd,by have:=r.dp;rw[q3s];omega,by have:=r.un;rw[q3u];omega⟩
theorem Qar.depth{k:Nat}{A:Around}(r:Qar k A): A.depth<recursionLimit:=by have:=r.dp;omega
theorem Qar.units{k:Nat}{A:Around}(r:Qar k A): A.units+64<cLine:=by have:=r.un;omega
def qa4:TA:=fun _ H Q=>Q [] H
def qai(ta:TE)(tr:TA): TA:=fun σ H Q=>ta σ H fun x H1=>tr σ H1 fun xs H2=>Q (x::xs) H2
section
variable {X:Cx} {e:Expr} {es:List Expr} {te:TE} {t:TA} {pos:Pos}
theorem qh7:PA X [] qa4:=fun _ _ _ _ H Q I h=>Wc ⟨[],H,I,.nil,h⟩
theorem qac(ha:PE X e te)(hr:PA X es t)(hs:starEach (e::es) X.env=(false,eval e X.env)::starEach es X.env:=by rfl): PA X (e::es) (qai te t):=by
 intro pos pins s σ H Q I h;rw[hs];show wpAny _ _ (spliced ((false,eval e X.env)::backTo pos (starEach es X.env))) _ _ s;refine Zc (thn (ha pins s σ H _ I h) fun u s1 ⟨x,H1,I1,r1,q1⟩=>?_);exact thn (hr pos pins s1 σ H1 _ I1 q1) fun us s2 ⟨xs,H2,I2,r2,q2⟩=>⟨x::xs,H2,I2,.cons r1 r2,q2⟩
def tTup(t:TA): TE:=fun σ H Q=>t σ H fun xs H1=>xs.length<=sizeLine/\∀ p,H1 p=none->Q (.ref p) (upd H1 p (.tup xs))
def tLst(t:TA): TE:=fun σ H Q=>t σ H fun xs H1=>xs.length<=sizeLine/\∀ p,H1 p=none->Q (.ref p) (upd H1 p (.lst xs))
theorem qgw{x1}(h:PA X es t): PE X (.Tuple es x1 pos) (tTup t):=by
 intro pins s σ H Q I hq;refine wpAny_Tuple_spliced (thn (h pos pins s σ H _ I hq) fun us s1 ⟨xs,H1,I1,r,z,q⟩=>⟨by rw[<- r.length];exact z,?_⟩);have hf:H1 s1.heap.objs.size=none:=I1.hok.fresh (Jp _);refine⟨.ref s1.heap.objs.size,upd H1 s1.heap.objs.size (.tup xs),I1.laid (t':=s1.toks) (fun b u e=>Jb _ e) (Jp _) ?_,rfl,q _ hf⟩;exact⟨z,us,r,⟨_,Js _ rfl,rfl,_,rfl⟩⟩
theorem qah(h:PA X es t): PE X (.List es pos) (tLst t):=by
 intro pins s σ H Q I hq;refine wpAny_List_spliced (thn (h pos pins s σ H _ I hq) fun us s1 ⟨xs,H1,I1,r,z,q⟩=>⟨by rw[<- r.length];exact z,?_⟩);have hf:H1 s1.heap.objs.size=none:=I1.hok.fresh (Jp _);refine⟨.ref s1.heap.objs.size,upd H1 s1.heap.objs.size (.lst xs),I1.laid (t':=s1.toks) (fun b u e=>Jb _ e) (Jp _) ?_,rfl,q _ hf⟩;exact⟨z,us,0,r,Js _ rfl⟩
end
abbrev Sp:=List V->Hp->VK->XK->Prop
abbrev CXT:=List Env->Hp->Shared->XK->Value->Shared->Prop
structure Qfq(P:Program)(w:World)(K:PySem.W.Frag)(mg:Str->Option Value)(base:Heap)(A:Around)(outer:List Env)(s:Shared)(H:Hp): Prop where
 frames:A.frames=some outer
 mod:Mod K mg base
 bs:∀ b o,base.get? b=some o->s.heap.get? b=some o/\H b=none
 bsz:base.objs.size<=s.heap.objs.size
 qdf:s.heap.FunFrames base outer
 frf:∀ b∈frs outer,H b=none
 hok:HOk P w H s.heap
 bare:AllBare s.gens
def CE(outer:List Env)(P:Program)(w:World)(H:Hp)(s:Shared)(Q:VK)(u:Value)(s':Shared): Prop:=
 ∃ v H',s'.os=s.os/\AllBare s'.gens/\Un (frs outer) [] H H' s.heap s'.heap/\HOk P w H' s'.heap/\RelV v u/\Q v H'
def CR(CX:CXT)(outer:List Env)(P:Program)(w:World)(H:Hp)(s:Shared)(Q:VK)(E:XK)(r:Result)(s':Shared): Prop:=
 match r with
 | .ok (.ret u)=>CE outer P w H s Q u s'
 | .ok _=>False
 | .error e=>CX outer H s E e s'
structure Qcd(P:Program)(w:World)(K:PySem.W.Frag)(mg:Str->Option Value)(base:Heap)(CX:CXT)(k:Nat)(f:Addr)(fd:FuncData)(ps:List Str)(sp:Sp): Prop where
 len:∀ vs H Q E,sp vs H Q E->vs.length=ps.length
 run:∀ (A:Around) (outer:List Env) (s:Shared) (H:Hp) (args:Args) (us:List Value) (vs:List V) (Q:VK) (E:XK),Qar k A->Qfq P w K mg base A outer s H->BindsTo s fd args (ps.zip us)->Vals vs us->sp vs H Q E ->
  codeAny (model P w) A (.call (.ref f) args) (CR CX outer P w H s Q E) s
theorem Qfq.make{P:Program}{w:World}{K:PySem.W.Frag}{mg:Str->Option Value}{base:Heap}{A:Around}{outer:List Env}{s:Shared}{H:Hp}(e:Qfq P w K mg base A outer s H)(C:Addr)(us:List Value)(kw:List (Str×Value)):
  Qfq P w K mg base (A.under (.builtin "type.__call__" ⟨.ref C::us,kw⟩)) outer s H:=⟨by first|exact e.frames|(simpa[Around.under,Code.envs,Code.isFrame,pushEnvs] using e.frames),e.mod,e.bs,e.bsz,e.qdf,e.frf,e.hok,e.bare⟩
section
variable {X:Cx} {pins:List (Addr×Obj)} {σ:St} {H:Hp} {s s':Shared}
theorem Inv.env0(I:Inv X pins σ H s): Qfq X.prog X.w X.K X.mg X.base X.A X.stack s H:=
 ⟨I.ok.frames,I.ok.mod,I.bs,Xd I.ok.bsz I.sz,I.stack,I.qvi,I.hok,I.bare⟩
theorem Inv.after{Q:VK}{u:Value}(I:Inv X pins σ H s)(h:CE X.stack X.prog X.w H s Q u s'): EP X pins σ Q u s':=by
 obtain⟨v,H',os,bare,un,hok,r,q⟩:=h;obtain⟨hh,g,d,t,os'⟩:=s';obtain rfl:os'=s.os:=os;exact⟨v,H',I.call (h':=hh) (g':=g) (d':=d) (t':=t) (ch:=[]) un hok bare (fun b z=>absurd z (by simp)),r,q⟩
end
def tCall(sp:Sp)(dvs:List V)(E:XK)(t:TA): TE:=fun σ H Q=>t σ H fun vs H1=>sp (vs++dvs) H1 Q E
def tMake(C:Addr)(sp:Sp)(dvs:List V)(E:XK)(t:TA): TE:=fun σ H Q=>t σ H fun vs H1=>∀ x dx,H1 x=none->H1 dx=none->dx≠x ->
 sp (.ref x::(vs++dvs)) (upd (upd H1 dx (.own x)) x (.ins C dx [])) (fun v H2=>v = .non/\Q (.ref x) H2) E
def Binds(K:PySem.W.Frag)(fd:FuncData)(ps:List Str)(ds:List Value): Prop:=
 ∀ (s:Shared) (us:List Value),K.In s.heap->(us++ds).length=ps.length->BindsTo s fd ⟨us,[]⟩ (ps.zip (us++ds))
theorem Binds.all{K:PySem.W.Frag}{fd:FuncData}{ps:List Str}(h:∀ us:List Value,us.length=ps.length->bindArgs fd ⟨us,[]⟩=pure (ps.zip us)): Binds K fd ps []:=fun s us _ hl=>by
 rw[Y7] at hl ⊢;exact .of_eq (h us hl)
def Passes(CX:CXT)(X:Cx)(E:XK): Prop:=∀ (pins:List (Addr×Obj)) (σ:St) (H:Hp) (s:Shared) (e:Value) (s':Shared),Inv X pins σ H s->CX X.stack H s E e s'->X.xe e s'
section
variable {X:Cx} {CX:CXT} {k:Nat} {f C:Addr} {fd:FuncData} {ps:List Str} {sp:Sp} {dvs:List V} {ds:List Value} {E:XK} {x m:Str} {p pos apos:Pos} {e o:Expr} {es:List Expr} {ta:TE} {t:TA}
theorem qso{pins:List (Addr×Obj)}{σ:St}{H:Hp}{s:Shared}{Q:VK}{us:List Value}{vs:List V}(F:Qcd X.prog X.w X.K X.mg X.base CX k f fd ps sp)(hr:Qar k X.A)(hb:Binds X.K fd ps ds)(hd:Vals dvs ds)(hx:Passes CX X E)
  (I:Inv X pins σ H s)(r:Vals vs us)(h:sp (vs++dvs) H Q E): wpAny (model X.prog X.w) X.A (call (.ref f) us) (EP X pins σ Q) X.xe s:=by
 have r2:Vals (vs++dvs) (us++ds):=r.append hd;have hl:(us++ds).length=ps.length:=by rw[<- r2.length];exact F.len _ _ _ _ h
 refine wpAny_call (Ur (F.run X.A X.stack s H ⟨us,[]⟩ (us++ds) (vs++dvs) Q E hr I.env0 (hb s us I.kIn hl) r2 h) fun r s' hq=>?_);cases r with
 |error e=>exact hx pins σ H s e s' I hq
 | ok fl=>
   cases fl with
   |ret u=>exact I.after hq
   |next=>exact False.elim hq
   |brk=>exact False.elim hq
   |cont=>exact False.elim hq
theorem q48(F:Qcd X.prog X.w X.K X.mg X.base CX k f fd ps sp)(hr:Qar k X.A)(hg:Gl X x)(hm:X.mg x=some (.ref f))(hk:PySem.W.keepIn X.K (.ref f)=true)(hb:Binds X.K fd ps ds)(hd:Vals dvs ds)(hx:Passes CX X E)
  (ha:PA X (e::es) t)(hdb:(x==("__debug__" : Str))=false:=by decide)(he:starEach (e::es) X.env=(false,eval e X.env)::starEach es X.env:=by rfl)(hpl:(backTo pos (starEach es X.env)).any (·.1)=false:=by rfl):
  PE X (.Call (.Name x p) (e::es) [] pos) (tCall sp dvs E t):=by
 intro pins s σ H Q I h;refine Us (qh2 I hg hm ?_ hdb);refine PySem.W.callWith_K (h₀:=X.base) I.ok.mod.kin hk (thn (ha pos pins s σ H _ I h) fun us s1 ⟨vs,H1,I1,r,q⟩=>⟨I1.kIn,?_⟩) he hpl;exact qso F hr hb hd hx I1 r q
structure Mk(K:PySem.W.Frag)(C f:Addr): Prop where
 makes:PySem.W.makesIn K C=true
 init:PySem.W.findIn K (.ref C) "__init__" = some (some (.ref f))
 fn:PySem.W.isFn K (.ref f)=true
 kp:PySem.W.keepIn K (.ref C)=true
theorem qsp{pins:List (Addr×Obj)}{σ:St}{H:Hp}{s:Shared}{Q:VK}{us:List Value}{vs:List V}(M:Mk X.K C f)(F:Qcd X.prog X.w X.K X.mg X.base CX k f fd ps sp)(hr:Qar (k+1) X.A)(hb:Binds X.K fd ps ds)(hd:Vals dvs ds)
  (hx:Passes CX X E)(I:Inv X pins σ H s)(r:Vals vs us)
  (h:∀ x dx,H x=none->H dx=none->dx≠x->sp (.ref x::(vs++dvs)) (upd (upd H dx (.own x)) x (.ins C dx [])) (fun v H2=>v = .non/\Q (.ref x) H2) E):
  wpAny (model X.prog X.w) X.A (call (.ref C) us) (EP X pins σ Q) X.xe s:=by
 have hq:=h (s.heap.objs.size+1) s.heap.objs.size (I.hok.fresh (Nat.le_succ _)) (I.hok.fresh (Jp _)) (Xl (Qe _));have I2:=Inv.made (C:=C) I;have r2:Vals (V.ref (s.heap.objs.size+1)::(vs++dvs)) (Value.ref (s.heap.objs.size+1)::(us++ds)):=.cons rfl (r.append hd);have hl:(Value.ref (s.heap.objs.size+1)::us++ds).length=ps.length:=by
  have e:=r2.length;rw[F.len _ _ _ _ hq] at e;exact e.symm
 refine wpAny_call (q3t (f:=f) I.kIn M.makes M.init (Yq.mp M.fn) (Ur (F.run _ X.stack _ _ ⟨Value.ref (s.heap.objs.size+1)::us,[]⟩ (Value.ref (s.heap.objs.size+1)::(us++ds)) _ _ E (hr.make C us [])
  (I2.env0.make C us []) (hb _ (Value.ref (s.heap.objs.size+1)::us) I2.kIn hl) r2 hq) fun r s' hq'=>?_))
 cases r with
 |error e=>exact hx pins σ _ _ e s' I2 hq'
 | ok fl=>
   cases fl with
   | ret u=>
     obtain⟨v,H',I3,rv,ev,q3⟩:=I2.after hq';subst ev;exact⟨rv,⟨V.ref (s.heap.objs.size+1),H',I3,rfl,q3⟩⟩
   |next=>exact False.elim hq'
   |brk=>exact False.elim hq'
   |cont=>exact False.elim hq'
theorem q5i(M:Mk X.K C f)(F:Qcd X.prog X.w X.K X.mg X.base CX k f fd ps sp)(hr:Qar (k+1) X.A)(hg:Gl X x)(hm:X.mg x=some (.ref C))(hb:Binds X.K fd ps ds)(hd:Vals dvs ds)(hx:Passes CX X E)
  (ha:PA X (e::es) t)(hdb:(x==("__debug__" : Str))=false:=by decide)(he:starEach (e::es) X.env=(false,eval e X.env)::starEach es X.env:=by rfl)(hpl:(backTo pos (starEach es X.env)).any (·.1)=false:=by rfl):
  PE X (.Call (.Name x p) (e::es) [] pos) (tMake C sp dvs E t):=by
 intro pins s σ H Q I h;refine Us (qh2 I hg hm ?_ hdb);refine PySem.W.callWith_K (h₀:=X.base) I.ok.mod.kin M.kp (thn (ha pos pins s σ H _ I h) fun us s1 ⟨vs,H1,I1,r,q⟩=>⟨I1.kIn,?_⟩) he hpl;exact qsp M F hr hb hd hx I1 r q
theorem q5j(M:Mk X.K C f)(F:Qcd X.prog X.w X.K X.mg X.base CX k f fd ps sp)(hr:Qar (k+1) X.A)(hg:Gl X x)(hm:X.mg x=some (.ref C))(hb:Binds X.K fd ps ds)(hd:Vals dvs ds)(hx:Passes CX X E)
  (hdb:(x==("__debug__" : Str))=false:=by decide): PE X (.Call (.Name x p) [] [] pos) (tMake C sp dvs E qa4):=by
 intro pins s σ H Q I h;refine Us (qh2 I hg hm ?_ hdb);exact PySem.W.callWith_K0 I.kIn M.kp (qsp (us:=[]) M F hr hb hd hx I .nil h)
end
structure Vg(N P:List Str)(sc:Scope): Prop where
 kind:sc.kind = .function
 co:sc.isCoroutine=false
 gen:sc.isGenerator=false
 nd:N.Nodup
 pre:N.take P.length=P
 par:∀ x∈P,sc.names.lookup x=some .local\/sc.names.lookup x=some .cell
 nofree:∀ y∈sc.names,y.2≠.free
theorem qo2{kindOf:Str->Option NameKind}{x:Str}: ∀ {binds:List (Str×Value)} {m:Str->Option Value},(∀ v,(x,v)∉binds)->bindL kindOf binds m x=m x
 |[],_,_=>rfl
 | (n,v)::r,m,h=>by
   unfold bindL;rw[qo2 fun w hw=>h w (Jm _ hw)];split
   ·have:x≠n:=by rintro rfl;exact h v Jh
    simp[this]
   ·rfl
theorem qo0{kindOf:Str->Option NameKind}{x:Str}: ∀ {binds:List (Str×Value)} {m:Str->Option Value},(∀ v,(x,v)∉binds)->bindC kindOf binds m x=m x
 |[],_,_=>rfl
 | (n,v)::r,m,h=>by
   unfold bindC;rw[qo0 fun w hw=>h w (Jm _ hw)];split
   ·rfl
   ·have:x≠n:=by rintro rfl;exact h v Jh
    simp[this]
theorem qo1{kindOf:Str->Option NameKind}{x:Str}{v:Value}: ∀ {P:List Str} {vs:List Value} {i:Nat} {m:Str->Option Value},P.Nodup->P[i]?=some x->vs[i]?=some v->kindOf x=some .local ->
  bindL kindOf (P.zip vs) m x=some v
 |[],_,_,_,_,h,_,_=>by simp at h
 |_::_,[],_,_,_,_,h,_=>by simp at h
 | p::P,w::vs,0,m,nd,h1,h2,hk=>by
   simp at h1 h2;subst h1;subst h2;show bindL kindOf ((p,w)::P.zip vs) m p=_;unfold bindL;rw[qo2 fun v hv=>(Xf.mp nd).1 (List.of_mem_zip hv).1,Je hk];simp
 | p::P,w::vs,i+1,m,nd,h1,h2,hk=>by
   show bindL kindOf ((p,w)::P.zip vs) m x=_;unfold bindL;exact qo1 (i:=i) (Xf.mp nd).2 (by simpa using h1) (by simpa using h2) hk
theorem qoz{kindOf:Str->Option NameKind}{x:Str}{v:Value}: ∀ {P:List Str} {vs:List Value} {i:Nat} {m:Str->Option Value},P.Nodup->P[i]?=some x->vs[i]?=some v->kindOf x≠some .local ->
  bindC kindOf (P.zip vs) m x=some v
 |[],_,_,_,_,h,_,_=>by simp at h
 |_::_,[],_,_,_,_,h,_=>by simp at h
 | p::P,w::vs,0,m,nd,h1,h2,hk=>by
   simp at h1 h2;subst h1;subst h2;show bindC kindOf ((p,w)::P.zip vs) m p=_;unfold bindC;rw[qo0 fun v hv=>(Xf.mp nd).1 (List.of_mem_zip hv).1,Jc hk];simp
 | p::P,w::vs,i+1,m,nd,h1,h2,hk=>by
   show bindC kindOf ((p,w)::P.zip vs) m x=_;unfold bindC;exact qoz (i:=i) (Xf.mp nd).2 (by simpa using h1) (by simpa using h2) hk
def start(N:List Str)(vs:List V): St:=vs.map some++List.replicate (N.length-vs.length) none
def qcp(CX:CXT)(P:Program)(w:World)(K:PySem.W.Frag)(mg:Str->Option Value)(base:Heap)(N:List Str)(qual:Str)(scope:Scope)(f:Addr)(cd:Value)(A:Around)(outer:List Env)(s:Shared)(H:Hp)(E:XK): Cx where
 prog:=P
 w:=w
 K:=K
 mg:=mg
 base:=base
 A:=A.deeper (envOfC qual scope s.heap.objs.size f cd)
 N:=N
 s_0:=s
 H_0:=H
 env:=envOfC qual scope s.heap.objs.size f cd
 outer:=outer
 stack:=envOfC qual scope s.heap.objs.size f cd::outer
 ex:=[]
 calm:=true
 fn:=fun _=>true
 pn:=[]
 xe:=fun e s'=>wpAny (model P w) (A.deeper (envOfC qual scope s.heap.objs.size f cd)) (leaving (envOfC qual scope s.heap.objs.size f cd) e) (fun _ s''=>CX outer H s E e s'') (fun e' s''=>CX outer H s E e' s'') s'
theorem qpd{sc:Scope}{n:Nat}{x:Str}(h:sc.names.lookup x=some .cell): ∃ c,(cellsFrom n sc.names []).lookup x=some c:=by
 have q:=PySem.W.cellsFrom_some sc.names n [] (.inl h);exact Up.mp q
theorem q27{CX:CXT}{P:Program}{w:World}{K:PySem.W.Frag}{mg:Str->Option Value}{base:Heap}{N ps:List Str}{qual:Str}{scope:Scope}{f:Addr}{cd:Value}{A:Around}{outer:List Env}{s s1:Shared}{H:Hp}{E:XK}{us:List Value}{vs:List V}
  (S:Vg N ps scope)(hd:A.handled=none)(e0:Qfq P w K mg base A outer s H)(hl:vs.length=ps.length)(r:Vals vs us)
  (x:InCallC s s.heap.objs.size (bindL (envOfC qual scope s.heap.objs.size f cd).kindOf (ps.zip us) fun _=>none) (cellsFrom (s.heap.objs.size+1) scope.names []) (bindC (envOfC qual scope s.heap.objs.size f cd).kindOf (ps.zip us) fun _=>none) s1):
  Inv (qcp CX P w K mg base N qual scope f cd A outer s H E) [] (start N vs) H s1:=by
 have hpl:ps.length<=N.length:=by have:=Yk List.length S.pre;rw[Zs] at this;omega
 obtain⟨h1,tk,rfl,hk⟩:=x.done;have noA:∀ b:Addr,b∉(qcp CX P w K mg base N qual scope f cd A outer s H E).ex:=fun b z=>absurd (show b∈([]:List Addr) from z) (by simp);refine⟨⟨e0.mod,S.kind,rfl,rfl,Jp _,fun y z c h1 h2=>?_,fun y hy=>?_,fun y c _ h=>?_,fun _=>hd,Around.frames_deeper e0.frames,.inr ⟨rfl,rfl⟩,fun b z=>absurd z (noA b),e0.bs,e0.bsz,fun b _ _=>noA b,fun b z=>absurd z (noA b),e0.qdf,e0.frf⟩,
  rfl,e0.bare,Un.kept hk,⟨_,x.toInCall.ns,fun i y v h1 h2 h3=>?_⟩,fun y c h=>⟨_,x.cell y c h⟩,e0.hok.fresh (Jp _),fun y c h=>?_,fun p hp=>absurd (show p∈([]:List (Addr×Obj)) from hp) (by simp),e0.hok.kept hk,?_⟩
 ·exact name_of_addr x.apart (Xx h1) (Xx h2)
 ·have hy:scope.names.lookup y=some .cell\/scope.names.lookup y=some .free:=hy;rcases hy with hy|hy
  ·exact qpd hy
  ·exact absurd rfl (S.nofree _ (Xx hy))
 ·exact Xj (x.above y c (Xx h))
 ·have hi:i<vs.length:=by
   unfold start at h2;by_cases hi:i<vs.length
   ·exact hi
   ·rw[List.getElem?_append_right (by simpa using hi)] at h2;rw[Ux] at h2;split at h2<;>cases h2
  have ha:vs[i]?=some v:=by
   unfold start at h2;rw[Wg (by simpa using hi),Jt] at h2;cases e:vs[i]? with
   |none=>rw[e] at h2;cases h2
   |some a=>rw[e] at h2;cases h2;rfl
  obtain⟨u,hu,rv⟩:=r.get ha;have hp:ps[i]?=some y:=by
   rw[<- S.pre,List.getElem?_take_of_lt (by omega)];exact h1
  have ndP:ps.Nodup:=by rw[<- S.pre];exact S.nd.sublist (List.take_sublist _ _)
  refine⟨u,rv,?_⟩;rcases S.par y (J0 hp) with k|k
  ·exact .inl ⟨k,qo1 ndP hp hu k⟩
  ·obtain⟨c,e⟩:=qpd (n:=s.heap.objs.size+1) k;refine .inr ⟨.inl k,c,e,?_⟩;have q:=x.cell y c e;rw[qoz ndP hp hu (by show scope.names.lookup y≠_;rw[k];decide)] at q;exact q
 ·exact e0.hok.fresh (Xj (x.above y c (Xx h)))
 ·unfold start;show _=N.length;rw[Jx,Jd,Qn];omega
theorem fn_of{CX:CXT}{P:Program}{w:World}{K:PySem.W.Frag}{mg:Str->Option Value}{base:Heap}{k:Nat}{f:Addr}{name qual:Str}{params:Arguments}{body:List Stmt}{scope:Scope}{dV kV doc pm cdv ct oc:Value}{an od:Option Addr}
  {osl:Array (Option Value)}{N ps:List Str}{sp:Sp}(lk:K.lookup f=some ⟨oc,od,.func (PySem.W.fnOf name qual params body scope dV kV doc pm an cdv ct),osl⟩)(hcd:PySem.W.codeIn K cdv qual=true)(S:Vg N ps scope)
  (len:∀ vs H Q E,sp vs H Q E->vs.length=ps.length)
  (hbody:∀ (A:Around) (outer:List Env) (s:Shared) (H:Hp) (vs:List V) (Q:VK) (E:XK),Qar k (A.deeper (envOfC qual scope s.heap.objs.size f cdv))->sp vs H Q E ->
   ∃ t,PSs (qcp CX P w K mg base N qual scope f cdv A outer s H E) body t/\t { nx:=fun _ H'=>Q .non H',rt:=Q } (start N vs) H):
  Qcd P w K mg base CX (k+1) f (PySem.W.fnOf name qual params body scope dV kV doc pm an cdv ct) ps sp:=by
 refine⟨len,fun A outer s H args us vs Q E hr e0 hb r hsp=>?_⟩;have hl:=len _ _ _ _ hsp;have KX:K.In s.heap:=e0.mod.kin.keeps fun b o e=>(e0.bs b o e).1;have lim:s.heap.NoLimit:=e0.mod.nolimit.keeps fun b o e=>(e0.bs b o e).1;have hkind:∀ y∈ps.zip us,scope.names.lookup y.1=some .local\/(scope.names.lookup y.1=some .cell/\((cellsFrom (s.heap.objs.size+1) scope.names []).lookup y.1).isSome=true):=fun ⟨n,v⟩ hy=>by
  rcases S.par n (List.of_mem_zip hy).1 with q|q
  ·exact .inl q
  ·exact .inr ⟨q,PySem.W.cellsFrom_some _ _ _ (.inl q)⟩
 refine codeAny_call_function hr.depth (KX _ _ lk) rfl S.co S.gen rfl (PySem.W.codeRec_of KX hcd) (hb _ _ _ _ ?_);refine wpAny_newFunctionEnv_cells S.kind hkind fun env he s1 x=>?_;subst he;refine⟨lim.keeps x.toInCall.keep,codeAny_func ?_⟩;obtain⟨t,ht,hq⟩:=hbody A outer s H vs Q E (hr.deeper _) hsp;have I:Inv (qcp CX P w K mg base N qual scope f cdv A outer s H E) [] (start N vs) H s1:=q27 S hr.hd e0 hl r x;refine Yw (ht [] s1 (start N vs) H _ I hq) (fun fl s' hs=>?_) fun e s' hs=>hs;have fin:∀ {σ':St} {H':Hp} {v:V} {u:Value},Inv (qcp CX P w K mg base N qual scope f cdv A outer s H E) [] σ' H' s'->RelV v u->Q v H'->CE outer P w H s Q u s':=
  fun {σ' H' v u} J rv q=>⟨v,H',J.os,J.bare,J.base,J.hok,rv,q⟩
 cases fl with
 | ret u=>
   obtain⟨v,σ',H',J,rv,q⟩:=hs;exact fin J rv q
 | next=>
   obtain⟨σ',H',J,q⟩:=hs;exact fin (v:=V.non) (u:=Value.none) J rfl q
 | brk=>
   obtain⟨_,_,_,q⟩:=hs;exact False.elim q
 | cont=>
   obtain⟨_,_,_,q⟩:=hs;exact False.elim q
section
variable {X:Cx} {x:Str} {p pos:Pos} {e:Expr} {es:List Expr} {t:TA} {id T:String} {r:List V->Hp->VK->Prop}
def tCB(r:List V->Hp->VK->Prop)(t:TA): TE:=fun σ H Q=>t σ H fun vs H1=>r vs H1 Q
theorem qed(hc:Qd3 X (.builtin id) r)(hg:Gl X x)(hm:X.mg x=none)(hv:bootBuiltins x=some (.builtin id))(ha:PA X (e::es) t)(hn:x≠"__name__":=by decide)(hdb:(x==("__debug__" : Str))=false:=by decide)
  (he:starEach (e::es) X.env=(false,eval e X.env)::starEach es X.env:=by rfl)(hpl:(backTo pos (starEach es X.env)).any (·.1)=false:=by rfl): PE X (.Call (.Name x p) (e::es) [] pos) (tCB r t):=by
 intro pins s σ H Q I h;refine Us (qev I hg hm hv ?_ hn hdb);exact PyProof.Rows.callWith_builtin1 (thn (ha pos pins s σ H _ I h) fun us s1 ⟨vs,H1,I1,r1,q1⟩=>hc pins s1 σ H1 vs us Q I1 r1 q1) he hpl
end
end L2
namespace HT
open PySem PyProof.Rows
section
variable {prog:Program} {w:World} {A:Around} {E:Value->Shared->Prop} {s:Shared}
def sIx(n d:Nat): Option Int->Nat
 |none=>d
 |some v=>if v<0 then (v+(n:Int)).toNat else min v.toNat n
theorem qsq(n d:Nat): sIx n d none=d:=rfl
theorem qj2(n d k:Nat): sIx n d (some (k:Int))=min k n:=by
 show (if (k:Int)<0 then ((k:Int)+(n:Int)).toNat else min (k:Int).toNat n)=min k n;rw[Jc (by omega),J1]
end
end HT
namespace L2
open PySem PySem.Spec PyProof.Rows
abbrev TO:=St->Hp->(Option Int->Hp->Prop)->Prop
def PO(X:Cx)(e:Option Expr)(t:TO): Prop:=
 ∀ (pins:List (Addr×Obj)) (s:Shared) (σ:St) (H:Hp) (Q:Option Int->Hp->Prop),Inv X pins σ H s->t σ H Q ->
   wpAny (model X.prog X.w) X.A (evalPart e X.env) (fun u s'=>∃ o H',Inv X pins σ H' s'/\IsPart u o/\Q o H') X.xe s
def qvv:TO:=fun _ H Q=>Q none H
def qkl(t:TE): TO:=fun σ H Q=>t σ H fun x H1=>∃ i,x = .int i/\Q (some i) H1
section
variable {X:Cx} {e:Expr} {te:TE} {lo hi:Option Expr} {tl th:TO} {pos p2:Pos}
theorem qjx:PO X none qvv:=by
 intro pins s σ H Q I h;rw[evalPart_none];exact Jg ⟨none,H,I,.none,h⟩
theorem qgx(h:PE X e te): PO X (some e) (qkl te):=by
 intro pins s σ H Q I hw;rw[evalPart_some];refine thn (h pins s σ H _ I hw) fun u s1 ⟨x,H1,I1,r1,q1⟩=>?_;obtain⟨i,rfl,q⟩:=q1;obtain⟨t,rfl⟩:=r1;exact⟨some i,H1,I1,.int i t,q⟩
def SlR(X:Cx)(r:V->Option Int->Option Int->Hp->VK->Prop): Prop:=
 ∀ (pins:List (Addr×Obj)) (s:Shared) (σ:St) (H:Hp) (x:V) (v vl vu:Value) (lo hi:Option Int) (sl:Addr) (Q:VK),Inv X pins σ H s->RelV x v->s.heap.IsSliceOf sl vl vu .none->IsPart vl lo->IsPart vu hi->r x lo hi H Q ->
   ∃ T id,typeLookup (.type T) "__getitem__" = pure (some (.builtin id))/\s.TypeIs v T/\wpAny (model X.prog X.w) X.A (getItem v (.ref sl)) (EP X pins σ Q) X.xe s
def tSl(r:V->Option Int->Option Int->Hp->VK->Prop)(te:TE)(tl th:TO): TE:=fun σ H Q=>te σ H fun x H1=>tl σ H1 fun l H2=>th σ H2 fun u H3=>r x l u H3 Q
theorem qib{r:V->Option Int->Option Int->Hp->VK->Prop}(hr:SlR X r)(he:PE X e te)(hl:PO X lo tl)(hu:PO X hi th): PE X (.Subscript e (.Slice lo hi none p2) pos) (tSl r te tl th):=by
 intro pins s σ H Q I h;refine Subscript_ (thn (he pins s σ H _ I h) fun v s1 ⟨x,H1,I1,r1,q1⟩=>?_);refine wpAny_Slice (thn (hl pins s1 σ H1 _ I1 q1) fun vl s2 ⟨l,H2,I2,pl,q2⟩=>thn (hu pins s2 σ H2 _ I2 q2) fun vu s3 ⟨u,H3,I3,pu,q3⟩=>?_);rw[evalPart_none];refine Jg ?_;have I4:Inv X pins σ H3 { s3 with heap:=s3.heap.push { cls:=.type "slice",data:=.fields #[vl,vu,.none] } }:=I3.kept (t':=s3.toks) fun b ob q=>Jb _ q;obtain⟨T,id,hT,ht,hg⟩:=hr pins { s3 with heap:=s3.heap.push { cls:=.type "slice",data:=.fields #[vl,vu,.none] } } σ H3 x v vl vu l u s3.heap.objs.size Q I4 r1 (Heap.IsSliceOf.new ..) pl pu q3;show wpAny (model X.prog X.w) X.A (subscriptTail e (.Slice lo hi none p2) v (.ref s3.heap.objs.size)) (EP X pins σ Q) X.xe { s3 with heap:=s3.heap.push { cls:=.type "slice",data:=.fields #[vl,vu,.none] } };exact tail_any (ops:=[.ref s3.heap.objs.size,v]) ht hT hg (by with_unfolding_all rfl)
def qcx(xs:List V)(lo hi:Option Int): List V:=(xs.drop (HT.sIx xs.length 0 lo)).take (HT.sIx xs.length xs.length hi-HT.sIx xs.length 0 lo)
theorem qyc(xs:List V)(lo hi:Option Int): (qcx xs lo hi).length<=xs.length:=by
 unfold qcx;rw[Zs,Qg];omega
end
def ixN(n:Nat)(i:Int): Option Nat:=if 0<=i then (if i<n then some i.toNat else none) else if -(n:Int)<=i then some (i+n).toNat else none
def atI{α:Type}(xs:List α)(i:Int): Option α:=(ixN xs.length i).bind fun j=>xs[j]?
theorem qqu{n:Nat}{i:Int}{j:Nat}(h:ixN n i=some j): seqIndex? i n=some j/\j<n/\-(n:Int)<=i/\i<n:=by
 unfold ixN at h;by_cases h0:0<=i
 ·rw[Je h0] at h;by_cases h1:i<n
  ·rw[Je h1] at h;have e:i.toNat=j:=Jj h;exact⟨by rw[seqIndex_of h0 h1,e],by omega,by omega,h1⟩
  ·rw[Jc h1] at h;cases h
 ·rw[Jc h0] at h;by_cases h1 : -(n:Int)<=i
  ·rw[Je h1] at h;have e:(i+n).toNat=j:=Jj h;exact⟨by rw[seqIndex_neg (by omega) h1,e],by omega,h1,by omega⟩
  ·rw[Jc h1] at h;cases h
theorem qot{α:Type}{xs:List α}{i:Int}{v:α}(h:atI xs i=some v): ∃ j,seqIndex? i xs.length=some j/\xs[j]?=some v/\j<xs.length/\-(xs.length:Int)<=i/\i<xs.length:=by
 unfold atI at h;cases e:ixN xs.length i with
 |none=>rw[e] at h;cases h
 | some j=>
   rw[e] at h;obtain⟨h1,h2,h3,h4⟩:=qqu e;exact⟨j,h1,h,h2,h3,h4⟩
theorem qap{α:Type}{xs:List α}{j:Nat}{v:α}(h:xs[j]?=some v): atI xs (j:Int)=some v:=by
 have hj:j<xs.length:=(Ji.mp h).1;have e:ixN xs.length (j:Int)=some j:=by
  unfold ixN;rw[Je (by omega),Je (by omega)];simp
 unfold atI;rw[e];exact h
theorem qwy{α:Type}(xs:List α)(v:α): atI (xs++[v]) (-1)=some v:=by
 have hl:(xs++[v]).length=xs.length+1:=by simp
 have e:ixN (xs++[v]).length (-1)=some xs.length:=by
  unfold ixN;rw[hl,Jc (by decide),Je (by omega)];congr 1;omega
 unfold atI;rw[e];show (xs++[v])[xs.length]?=some v;simp
def Qkv(b:Expr): Prop:=∀ o i,subscripted b false o i=operate [o,i] (getItem o i)
def IxR(X:Cx)(r:R2): Prop:=
 ∀ (value slice:Expr) (pins:List (Addr×Obj)) (s:Shared) (σ:St) (H:Hp) (x y:V) (v u:Value) (Q:VK),Inv X pins σ H s->RelV x v->RelV y u->r x y H Q ->
   subscripted slice false v u=operate [v,u] (getItem v u)->wpAny (model X.prog X.w) X.A (subscriptTail value slice v u) (EP X pins σ Q) X.xe s
def MtR(X:Cx)(id:String)(r:V->List V->Hp->VK->Prop): Prop:=
 ∀ (pins:List (Addr×Obj)) (s:Shared) (σ:St) (H:Hp) (x:V) (xs:List V) (v:Value) (us:List Value) (Q:VK),Inv X pins σ H s->RelV x v->Vals xs us->r x xs H Q ->
   wpAny (model X.prog X.w) X.A (call (.builtin id) (v::us)) (EP X pins σ Q) X.xe s
section
variable {X:Cx} {a b:Expr} {ta tb:TE} {pos:Pos}
theorem pe_ix{r:R2}(hr:IxR X r)(ha:PE X a ta)(hb:PE X b tb)(hs:Qkv b): PE X (.Subscript a b pos) (tOp r ta tb):=by
 intro pins s σ H Q I h;exact Subscript_ (binT ha hb I h fun v u s2 x y H2 I2 rx ry q=>hr a b pins s2 σ H2 x y v u Q I2 rx ry q (hs _ _))
def qeg(K:PySem.W.Frag): R2:=fun x y H Q=>∃ p xs i v,x = .ref p/\y = .int i/\SqL K H p xs/\atI xs i=some v/\Q v H
def rIxT(K:PySem.W.Frag): R2:=fun x y H Q=>∃ p xs i v,x = .ref p/\y = .int i/\SqT K H p xs/\atI xs i=some v/\Q v H
theorem q29:IxR X (qeg X.K):=by
 intro value slice pins s σ H x y v u Q I rx ry h hs;obtain⟨p,xs,i,z,rfl,rfl,hq,he,q⟩:=h;cases rx;obtain⟨t,rfl⟩:=ry;obtain⟨its,r,pl,hz⟩:=I.list hq;obtain⟨j,h1,h2,h3,h4,h5⟩:=qot he;obtain⟨w,ew,rw'⟩:=r.get h2;have hl:=r.length;have hn:=qjo;have fin:EP X pins σ Q w s:=⟨z,H,I,rw',q⟩
 by_cases h0:0<=i
 ·have hj:i.toNat=j:=by
   rw[seqIndex_of h0 h5] at h1;exact Jj h1
  exact item_listR pl.isList h0 (by omega) (by rw[hj];simpa using ew) fin hs
 ·have hj:(i+(its.toArray.size:Int)).toNat=j:=by
   rw[seqIndex_neg (by omega) h4] at h1;rw[J8,<- hl];exact Jj h1
  exact subscriptTail_builtinR (x:=w) pl.isList.typeIs slot_list_getitem.lookup
   (wpAny_getItem_list_neg (Q:=fun r s'=>r=w/\EP X pins σ Q r s') pl.isList (by omega) (by rw[J8]<;>omega) (by omega) (by rw[hj];simpa using ew) ⟨rfl,fin⟩) hs
theorem ix_tup:IxR X (rIxT X.K):=by
 intro value slice pins s σ H x y v u Q I rx ry h hs;obtain⟨p,xs,i,z,rfl,rfl,hq,he,q⟩:=h;cases rx;obtain⟨t,rfl⟩:=ry;obtain⟨its,r,pl,hz⟩:=I.tuple hq;obtain⟨j,h1,h2,h3,h4,h5⟩:=qot he;obtain⟨w,ew,rw'⟩:=r.get h2;have hl:=r.length;have hn:=qjo;have fin:EP X pins σ Q w s:=⟨z,H,I,rw',q⟩
 exact subscriptTail_builtinR (x:=w) pl.typeIs slot_tuple_getitem.lookup
  (getItem_tuple (j:=j) (Q:=fun r s'=>r=w/\EP X pins σ Q r s') pl (by omega) (by omega) (by rw[J8,<- hl];exact h1) (by simpa using ew) ⟨rfl,fin⟩) hs
theorem q3v(its:List Value)(n j:Nat)(u:Value): Obj.mapSeq (·.setIfInBounds j u) { cls:=.type "list",data:=.seq its.toArray n }={ cls:=.type "list",data:=.seq (its.set j u).toArray n }:=by
 simp[Obj.mapSeq]
theorem Inv.lst{pins:List (Addr×Obj)}{σ:St}{H:Hp}{s:Shared}{p:Addr}{xs:List V}(I:Inv X pins σ H s)(h:H p=some (.lst xs)):
  ∃ (its:List Value) (n:Nat),Vals xs its/\s.heap.get? p=some { cls:=.type "list",data:=.seq its.toArray n }/\xs.length<=sizeLine:=by
 obtain⟨z,its,n,r,e⟩:=I.hok p _ h;exact⟨its,n,r,e,z⟩
theorem Inv.lstUpd{pins:List (Addr×Obj)}{σ:St}{H:Hp}{s:Shared}{p:Addr}{xs ys:List V}{its its':List Value}{n n':Nat}{f:Obj->Obj}(I:Inv X pins σ H s)(h:H p=some (.lst xs))
  (ho:s.heap.get? p=some { cls:=.type "list",data:=.seq its.toArray n })(hf:f { cls:=.type "list",data:=.seq its.toArray n }={ cls:=.type "list",data:=.seq its'.toArray n' })(r:Vals ys its')(hz:ys.length<=sizeLine)(t:Nat):
  Inv X pins σ (upd H p (.lst ys)) { s with heap:=s.heap.update p f,toks:=t }:=by
 have e:(s.heap.update p f).get? p=some { cls:=.type "list",data:=.seq its'.toArray n' }:=by
  rw[Yy f ho (by rw[hf]<;>rfl),hf]
 refine I.write (x:=p) (e:=p) (by rw[h];trivial) (.inl rfl) (fun b u hb q=>(Zq _ _ (Xb hb)).trans q) ⟨_,e⟩ ?_;exact⟨hz,its',n',r,e⟩
def rSetL:V->V->V->Hp->(Hp->Prop)->Prop:=fun o i v H Q=>∃ p xs k j,o = .ref p/\i = .int k/\H p=some (.lst xs)/\ixN xs.length k=some j/\Q (upd H p (.lst (xs.set j v)))
theorem set_list:PSet X rSetL:=by
 intro pins s σ H o i v ov iv u Q I ro ri rv h;obtain⟨p,xs,k,j,rfl,rfl,hp,hj,q⟩:=h;cases ro;obtain⟨t,rfl⟩:=ri;obtain⟨its,n,r,ho,hz⟩:=I.lst hp;obtain⟨h1,h2,h3,h4⟩:=qqu hj;have hl:=r.length;have hn:=qjo;have I':Inv X pins σ (upd H p (.lst (xs.set j v))) { s with heap:=s.heap.update p (Obj.mapSeq (·.setIfInBounds j u)) }:=
  I.lstUpd hp ho (q3v its n j u) (r.set rv j) (by rw[Uh];exact hz) s.toks
 by_cases h0:0<=k
 ·have hk:k.toNat=j:=by
   rw[seqIndex_of h0 h4] at h1;exact Jj h1
  exact PySem.W.ki_setAt ho h0 (by omega) (by rw[J8,<- hl];exact h4) (by rw[hk];exact⟨_,I',q⟩)
 ·have hk:(k+(its.toArray.size:Int)).toNat=j:=by
   rw[seqIndex_neg (by omega) h3] at h1;rw[J8,<- hl];exact Jj h1
  exact PySem.W.ki_setBack ho (by omega) (by rw[J8,<- hl];exact h3) (by omega) (by rw[hk];exact⟨_,I',q⟩)
theorem q7t(lo hi:Option Int)(n:Nat): (sliceBounds lo hi none n).1=((HT.sIx n 0 lo:Nat):Int)/\(sliceBounds lo hi none n).2.1=((HT.sIx n n hi:Nat):Int)/\(sliceBounds lo hi none n).2.2=1:=by
 refine⟨?_,?_,rfl⟩
 ·cases lo with
  |none=>simp[sliceBounds,HT.sIx]
  | some i=>
    simp only[sliceBounds,HT.sIx,Option.getD_none,show (1:Int) > 0 by decide,Wh];by_cases h:i<0
    ·simp only[h,Wh]<;>omega
    ·simp only[h,X9]<;>omega
 ·cases hi with
  |none=>simp[sliceBounds,HT.sIx]
  | some i=>
    simp only[sliceBounds,HT.sIx,Option.getD_none,show (1:Int) > 0 by decide,Wh];by_cases h:i<0
    ·simp only[h,Wh]<;>omega
    ·simp only[h,X9]<;>omega
theorem q7s(its:List Value)(lo hi:Option Int): slicePick its.toArray lo hi none=((its.drop (HT.sIx its.length 0 lo)).take (HT.sIx its.length its.length hi-HT.sIx its.length 0 lo)).toArray:=by
 obtain⟨h1,h2,h3⟩:=q7t lo hi its.toArray.size;unfold slicePick;rw[h1,h2,h3];simp only[sliceRange_one,pick_run,J8]<;>rfl
def rSlL(K:PySem.W.Frag): V->Option Int->Option Int->Hp->VK->Prop:=fun x lo hi H Q=>∃ a xs,x = .ref a/\SqL K H a xs/\∀ p,H p=none->Q (.ref p) (upd H p (.lst (qcx xs lo hi)))
theorem qip:SlR X (rSlL X.K):=by
 intro pins s σ H x v vl vu lo hi sl Q I rx hs pl pu h;obtain⟨a,xs,rfl,hx,q⟩:=h;cases rx;obtain⟨its,r,ht,hz⟩:=I.list hx;have hlen:=r.length;refine⟨"list",_,slot_list_getitem.lookup,ht.isList.typeIs,?_⟩;refine wpAny_getItem_list_slice ht.isList hs pl pu .none (by simp) ?_ (by rw[J8]<;>omega);rw[q7s,<- hlen];refine⟨.ref s.heap.objs.size,_,I.laid (t':=s.toks) (o:=.lst (qcx xs lo hi)) (fun b ob q=>Jb _ q) (Jp _) ?_,rfl,q _ (I.hok.fresh (Jp _))⟩;exact⟨Xd (qyc xs lo hi) hz,_,0,(r.drop (HT.sIx xs.length 0 lo)).take (HT.sIx xs.length xs.length hi-HT.sIx xs.length 0 lo),Js _ rfl⟩
def qep:V->Bool
 | .non=>true
 | .bl _=>true
 | .int _=>true
 | .str _=>true
 |_=>false
def eqV:V->V->Bool
 | .non,.non=>true
 | .bl a,.bl b=>a==b
 | .bl a,.int b=>(if a then 1 else 0)==b
 | .int a,.bl b=>a==(if b then 1 else 0)
 | .int a,.int b=>a==b
 | .str a,.str b=>a==b
 |_,_=>false
theorem eqAt_V{A:Around}{s:Shared}{y x:V}{u v:Value}(ry:RelV y u)(rx:RelV x v)(fy:qep y=true)(fx:qep x=true): SeqAt.EqAt A s u v (eqV y x):=by
 cases y with
 | non=>
   cases ry;cases x with
   |non=>cases rx;exact SeqAt.EqAt.same _
   |bl b=>cases rx;exact SeqAt.EqAt.none_bool b
   |int b=>obtain⟨t,rfl⟩:=rx;exact SeqAt.EqAt.none_int b t
   |str b=>obtain⟨t,rfl⟩:=rx;exact SeqAt.EqAt.none_str b t
   |_=>exact absurd (show false=true from fx) Jr
 | bl a=>
   cases ry;cases x with
   |non=>cases rx;exact SeqAt.EqAt.bool_none a
   |bl b=>cases rx;exact SeqAt.EqAt.bool_bool a b
   |int b=>obtain⟨t,rfl⟩:=rx;exact SeqAt.EqAt.bool_int a b t
   |str b=>obtain⟨t,rfl⟩:=rx;exact SeqAt.EqAt.bool_str a b t
   |_=>exact absurd (show false=true from fx) Jr
 | int a=>
   obtain⟨t',rfl⟩:=ry;cases x with
   |non=>cases rx;exact SeqAt.EqAt.int_none a t'
   |bl b=>cases rx;exact SeqAt.EqAt.int_bool a t' b
   |int b=>obtain⟨t,rfl⟩:=rx;exact SeqAt.EqAt.int_int a t' b t
   |str b=>obtain⟨t,rfl⟩:=rx;exact SeqAt.EqAt.int_str a t' b t
   |_=>exact absurd (show false=true from fx) Jr
 | str a=>
   obtain⟨t',rfl⟩:=ry;cases x with
   |non=>cases rx;exact SeqAt.EqAt.str_none a t'
   |bl b=>cases rx;exact SeqAt.EqAt.str_bool a t' b
   |int b=>obtain⟨t,rfl⟩:=rx;exact SeqAt.EqAt.str_int a t' b t
   |str b=>obtain⟨t,rfl⟩:=rx;exact SeqAt.EqAt.str_str a t' b t
   |_=>exact absurd (show false=true from fx) Jr
 |_=>exact absurd (show false=true from fy) Jr
def eqU(x:V)(u:Value): Bool:=match u with
 | .none=>eqV .non x
 | .bool b=>eqV (.bl b) x
 | .int i _=>eqV (.int i) x
 | .str z _=>eqV (.str z) x
 |_=>false
theorem qpw{x y:V}{u:Value}(r:RelV y u)(f:qep y=true): eqU x u=eqV y x:=by
 cases y with
 |non=>cases r;rfl
 |bl b=>cases r;rfl
 |int i=>obtain⟨t,rfl⟩:=r;rfl
 |str z=>obtain⟨t,rfl⟩:=r;rfl
 |_=>exact absurd (show false=true from f) Jr
theorem qk0{x:V}: ∀ {xs:List V} {us:List Value},Vals xs us->xs.all qep=true->us.any (eqU x)=xs.any fun y=>eqV y x
 |_,_,.nil,_=>rfl
 | y::xs,u::us,.cons r t,f=>by
   rw[Qc,Jw] at f;rw[Y4,Y4,qpw r f.1,qk0 t f.2]
theorem qmu{A:Around}{s:Shared}{x:V}{v:Value}(rx:RelV x v)(fx:qep x=true): ∀ {xs:List V} {us:List Value},Vals xs us->xs.all qep=true->∀ u∈us,SeqAt.EqAt A s u v (eqU x u)
 |_,_,.nil,_=>fun u hu=>by cases hu
 | y::xs,u::us,.cons r t,f=>fun u' hu=>by
   rw[Qc,Jw] at f;rcases Jf.mp hu with rfl|hu
   ·rw[qpw r f.1];exact eqAt_V r rx f.1 fx
   ·exact qmu rx fx t f.2 u' hu
def inV(x:V)(xs:List V): Bool:=xs.any fun y=>eqV y x
def rIn(K:PySem.W.Frag)(neg:Bool): R2:=fun x y H Q=>∃ p xs,y = .ref p/\(SqL K H p xs\/SqT K H p xs)/\qep x=true/\xs.all qep=true/\Q (.bl (if neg then !inV x xs else inV x xs)) H
theorem qm1:OpR X (compareOp .In) (rIn X.K false):=by
 intro pins s σ H x y v u Q I rx ry h;obtain⟨p,xs,rfl,hq,fx,fs,q⟩:=h;cases ry;rcases hq with hq|hq
 ·obtain⟨its,r,pl,hz⟩:=I.list hq;refine SeqAt.in_listAt (eqU x) pl.isList (fun w hw=>qmu rx fx r fs w (by simpa using hw)) ⟨.bl _,H,I,rfl,?_⟩;rw[show its.toArray.any (eqU x)=its.any (eqU x) by simp,qk0 r fs];exact q
 ·obtain⟨its,r,pl,hz⟩:=I.tuple hq;refine SeqAt.in_tupleAt (eqU x) pl (fun w hw=>qmu rx fx r fs w (by simpa using hw)) ⟨.bl _,H,I,rfl,?_⟩;rw[show its.toArray.any (eqU x)=its.any (eqU x) by simp,qk0 r fs];exact q
theorem qxz:Qd3 X (.builtin "len") (fun xs H Q=>∃ p ys,xs=[.ref p]/\(SqL X.K H p ys\/SqT X.K H p ys)/\Q (.int ys.length) H):=by
 intro pins s σ H xs us Q I r h;obtain⟨p,ys,rfl,hq,q⟩:=h;obtain⟨u,rfl,rx⟩:=vals1 r;cases rx;have hn:=qjo;rcases hq with hq|hq
 ·obtain⟨its,r',pl,hz⟩:=I.list hq;have hlen:=r'.length;exact Calls.call_len_list pl.isList (by simp only[J8]<;>omega) ⟨.int ys.length,H,I.tok _,⟨s.toks+1,by rw[J8,hlen]⟩,q⟩
 ·obtain⟨its,r',pl,hz⟩:=I.tuple hq;have hlen:=r'.length;exact len_tuple pl (by simp only[J8]<;>omega) ⟨.int ys.length,H,I.tok _,⟨s.toks+1,by rw[J8,hlen]⟩,q⟩
def tyV(K:PySem.W.Frag)(T:String)(x:V)(H:Hp): Prop:=match x with
 | .str _=>T = "str"
 | .int _=>T = "int"
 | .ref p=>(T = "list"/\∃ xs,SqL K H p xs)\/(T = "tuple"/\∃ o,K.lookup p=some o/\o.cls = .type "tuple"/\o.dict=none) \/
   (T = "dict"/\((∃ kvs,H p=some (.dK kvs))\/∃ kvs,H p=some (.dT kvs)))\/(T = "set"/\∃ S n,H p=some (.set S n))
 |_=>False
theorem tyV_is{pins:List (Addr×Obj)}{σ:St}{H:Hp}{s:Shared}{T:String}{x:V}{v:Value}(I:Inv X pins σ H s)(r:RelV x v)(ty:tyV X.K T x H):
  s.TypeIs v T/\∀ a,v = .ref a->∃ ob,s.heap.get? a=some ob/\ob.dict=none:=by
 cases x with
 | str z=>
   obtain⟨t,rfl⟩:=r;cases (show T = "str" from ty);exact⟨typeIs_str s z t,fun _ e=>nomatch e⟩
 | int i=>
   obtain⟨t,rfl⟩:=r;cases (show T = "int" from ty);exact⟨typeIs_int s i t,fun _ e=>nomatch e⟩
 | ref p=>
   cases r;rcases ty with ⟨rfl,xs,hq⟩|⟨rfl,o,hk,hc,hd⟩|⟨rfl,hk⟩|⟨rfl,S,n,hk⟩
   ·obtain⟨its,_,pl,_⟩:=I.list hq;refine⟨pl.isList.typeIs,fun a e=>?_⟩;cases e;obtain⟨o,n,e,c,hd,_⟩:=pl;exact⟨o,e,hd⟩
   ·refine⟨⟨o,I.kIn p o hk,hc⟩,fun a e=>?_⟩;cases e;exact⟨o,I.kIn _ o hk,hd⟩
   ·have z:∃ o,s.heap.get? p=some o/\o.ExactDict:=by
     rcases hk with ⟨kvs,hk⟩|⟨kvs,hk⟩
     ·obtain⟨_,_,_,_,o,_,_,e,ex,_⟩:=I.hok p _ hk;exact⟨o,e,ex⟩
     ·obtain⟨_,_,_,_,o,_,_,e,ex,_⟩:=I.hok p _ hk;exact⟨o,e,ex⟩
    obtain⟨o,e,ex⟩:=z;refine⟨⟨o,e,ex.1⟩,fun a e2=>?_⟩;cases e2;exact⟨o,e,ex.2.1⟩
   ·obtain⟨o,_,_,_,e,ex,_⟩:=I.hok p _ hk;refine⟨⟨o,e,ex.1⟩,fun a e2=>?_⟩;cases e2;exact⟨o,e,ex.2.1⟩
 |_=>exact False.elim ty
def tBM(K:PySem.W.Frag)(T:String)(r:V->List V->Hp->VK->Prop)(to:TE)(t:TA): TE:=fun σ H Q=>to σ H fun x H1=>tyV K T x H1/\t σ H1 fun xs H2=>r x xs H2 Q
variable {o e:Expr} {es:List Expr} {to:TE} {t:TA} {name:Str} {apos cpos:Pos} {T id:String} {r:V->List V->Hp->VK->Prop}
theorem qce(pa:PlainAttrs T)(slot:Slot T name id)(hty:typeOf (.builtin id)=pure (.type "method_descriptor"))(hm:MtR X id r)(ho:PE X o to)(ha:PA X (e::es) t)
  (hbase:attributeBase o name X.env (eval o X.env)=eval o X.env:=by rfl)
  (hfew:((backTo cpos (starEach (e::es) X.env)).all (fun x=>!x.1)&&(backToKw cpos (keywordEach [] X.env)).all (fun x=>x.1.isSome)
   && decide ((e::es).length+([]:List Keyword).length+(if ([]:List Keyword).isEmpty then 0 else 1)<30))=true:=by rfl)
  (hline:(apos.endLine==cpos.line)=true:=by rfl)(hs:starEach (e::es) X.env=(false,eval e X.env)::starEach es X.env:=by rfl)(hplain:(backTo cpos (starEach es X.env)).any (·.1)=false:=by rfl):
  PE X (.Call (.Attribute o name apos) (e::es) [] cpos) (tBM X.K T r to t):=by
 intro pins s σ H Q I h;refine wpAny_Call_method_late hbase hfew hline rfl (thn (ho pins s σ H _ I h) fun v s1 ⟨x,H1,I1,r1,ty,q1⟩=>?_);obtain⟨h1,h2⟩:=tyV_is I1 r1 ty;refine⟨T,id,pa,slot,hty,h1,h2,?_⟩;have hA:=ha cpos pins s1 σ H1 _ I1 q1;rw[hs] at hA ⊢;refine Wy (by show (false ||(backTo cpos (starEach es X.env)).any (·.1))=false;rw[hplain]<;>rfl) (W7 ?_);exact thn hA fun us s2 ⟨vs,H2,I2,r2,q2⟩=>hm pins s2 σ H2 x vs v us Q I2 r1 r2 q2
end
def MtM(X:Cx)(id:String)(r:V->List V->Hp->VK->Prop): Prop:=
 ∀ (pins:List (Addr×Obj)) (s:Shared) (σ:St) (H:Hp) (x:V) (xs:List V) (v:Value) (us:List Value) (Q:VK),Inv X pins σ H s->RelV x v->Vals xs us->r x xs H Q ->
   wpAny (model X.prog X.w) X.A (call (.builtin id) (v::us)) (EP X pins σ Q) X.xe s
theorem Vals.one:∀ {x:V} {us:List Value},Vals [x] us->∃ u,us=[u]/\RelV x u
 |_,_,.cons r .nil=>⟨_,rfl,r⟩
theorem Vals.rep{xs:List V}{us:List Value}(h:Vals xs us): ∀ k:Nat,Vals (List.replicate k xs).flatten (List.replicate k us).flatten
 | 0=>.nil
 | k+1=>by
   rw[Wq,Wq,Zk,Zk];exact Vals.append h (Vals.rep h k)
theorem foldl_rep(its:List Value): ∀ (k:Nat) (acc:List Value),
  List.foldl (fun x1 x2=>x1++x2) acc.toArray (List.replicate k its.toArray)=(acc++(List.replicate k its).flatten).toArray
 | 0,acc=>by simp
 | k+1,acc=>by
   have e:acc.toArray++its.toArray=(acc++its).toArray:=by simp
   have e2:(acc++its)++(List.replicate k its).flatten=acc++(List.replicate (k+1) its).flatten:=by
    rw[Wq,Zk,Yv]
   rw[<- e2,<- foldl_rep its k (acc++its),<- e,Wq,List.foldl_cons]
section
variable {X:Cx} {pins:List (Addr×Obj)} {σ:St} {H:Hp} {s:Shared} {l b:Addr} {xs ys zs:List V}
theorem Inv.lset{its its':List Value}{n:Nat}{f:Array Value->Array Value}{t':Nat}(I:Inv X pins σ H s)(hH:H l=some (.lst xs))
  (e:s.heap.get? l=some { cls:=.type "list",data:=.seq its.toArray n })(hf:f its.toArray=its'.toArray)(hv:Vals ys its')(hz:ys.length<=sizeLine):
  Inv X pins σ (upd H l (.lst ys)) { s with heap:=s.heap.update l (Obj.mapSeq f),toks:=t' }:=by
 have q:=PySem.IsL.update e f;rw[hf] at q;refine I.write (x:=l) (e:=l) (by rw[hH];exact trivial) (.inl rfl) (fun b' u hb hu=>(Zq s.heap (Obj.mapSeq f) (Xb hb)).trans hu) ⟨_,q⟩ ?_;exact⟨hz,its',_,hv,q⟩
theorem Inv.lnew{its:List Value}{t':Nat}(I:Inv X pins σ H s)(hv:Vals ys its)(hz:ys.length<=sizeLine):
  Inv X pins σ (upd H s.heap.objs.size (.lst ys)) { s with heap:=s.heap.push { cls:=.type "list",data:=.seq its.toArray },toks:=t' }:=
 I.laid (fun _ _ q=>Jb _ q) (Jp _) ⟨hz,its,0,hv,Js _ rfl⟩
theorem Inv.fresh(I:Inv X pins σ H s): H s.heap.objs.size=none:=I.hok.fresh (Jp _)
theorem Inv.qgs(I:Inv X pins σ H s)(hH:H l=some (.lst xs)): xs.length<=sizeLine/\∃ (its:List Value) (n:Nat),Vals xs its/\xs.length=its.length/\s.heap.get? l=some { cls:=.type "list",data:=.seq its.toArray n }:=by
 obtain⟨z,its,n,r,e⟩:=I.hok l _ hH;exact⟨z,its,n,r,r.length,e⟩
theorem qru{n:Nat}(h:n<=sizeLine): Builtin.List.listTooLong n=false:=by
 unfold Builtin.List.listTooLong;exact J7 (by omega)
end
section
variable {X:Cx}
def qng:V->List V->Hp->VK->Prop:=fun x vs H Q=>∃ l xs y,x = .ref l/\vs=[y]/\H l=some (.lst xs)/\xs.length<sizeLine/\Q .non (upd H l (.lst (xs++[y])))
theorem qdk:MtM X "list.append" qng:=by
 intro pins s σ H x vs v us Q I rx rv h;obtain⟨l,xs,y,rfl,rfl,hH,hz,q⟩:=h;cases rx;obtain⟨u,rfl,ru⟩:=rv.one;obtain⟨z,its,n,r,hl,e⟩:=I.qgs hH;refine call_meets F.slot_list_append ⟨_,e,rfl⟩ F.entry_list_append (F.args_list_append_2 _ _) (PySem.list_append l its.toArray n u (by rw[J8];omega)) ⟨e,?_⟩;refine⟨.non,_,I.lset (its':=its++[u]) hH e (by simp) (r.append (.cons ru .nil)) ?_,rfl,q⟩;rw[Jx,List.length_singleton];omega
def qnh:V->List V->Hp->VK->Prop:=fun x vs H Q=>∃ l b xs zs,x = .ref l/\vs=[.ref b]/\H l=some (.lst xs)/\H b=some (.lst zs)/\xs.length+zs.length<=sizeLine/\Q .non (upd H l (.lst (xs++zs)))
theorem qjp:MtM X "list.extend" qnh:=by
 intro pins s σ H x vs v us Q I rx rv h;obtain⟨l,b,xs,zs,rfl,rfl,hH,hB,hz,q⟩:=h;cases rx;obtain⟨u,rfl,ru⟩:=rv.one;cases ru;obtain⟨z,its,n,r,hl,e⟩:=I.qgs hH;obtain⟨z2,its2,n2,r2,hl2,e2⟩:=I.qgs hB;have hsz:its.toArray.size+its2.toArray.size<=sizeLine:=by rw[J8,J8];omega
 have qmd:¬ (!its.toArray.isEmpty&&Builtin.List.listTooLong (its.toArray.size+its2.toArray.size))=true:=by
  rw[qru hsz,Qw];exact Jr
 refine call_meets F.slot_list_extend ⟨_,e,rfl⟩ F.entry_list_extend (F.args_list_extend_2 _ _)
  (AutoSeq1.list_extend_list_list_0 l its.toArray n b its2.toArray n2 qmd (by rw[J8];omega) (by omega)) ⟨e,e2,?_⟩
 refine⟨.non,_,I.lset (its':=its++its2) hH e (by simp) (r.append r2) ?_,rfl,q⟩;rw[Jx];omega
def rCat:R2:=fun x y H Q=>∃ l b xs zs,x = .ref l/\y = .ref b/\H l=some (.lst xs)/\H b=some (.lst zs)/\xs.length+zs.length<=sizeLine/\∀ p,H p=none->Q (.ref p) (upd H p (.lst (xs++zs)))
theorem qh6:OpR X (binaryOp .Add) rCat:=by
 intro pins s σ H x y v u Q I rx ry h;obtain⟨l,b,xs,zs,rfl,rfl,hH,hB,hz,q⟩:=h;cases rx;cases ry;obtain⟨z,its,n,r,hl,e⟩:=I.qgs hH;obtain⟨z2,its2,n2,r2,hl2,e2⟩:=I.qgs hB;refine PySem.P.add_list e e2 ?_ (by rw[J8,J8];omega);have ea:its.toArray++its2.toArray=(its++its2).toArray:=by simp
 rw[ea];exact⟨.ref _,_,I.lnew (t':=s.toks) (r.append r2) (by rw[Jx];omega),rfl,q _ I.fresh⟩
def rRep:R2:=fun x y H Q=>∃ l k xs,x = .ref l/\y = .int k/\H l=some (.lst xs)/\-(2 ^ 63)<=k/\k<2 ^ 63/\xs.length*k.toNat<=sizeLine /\
 ∀ p,H p=none->Q (.ref p) (upd H p (.lst (List.replicate k.toNat xs).flatten))
theorem len_rep{α:Type}(xs:List α)(k:Nat): (List.replicate k xs).flatten.length=k*xs.length:=by
 induction k with
 |zero=>simp
 |succ k ih=>rw[Wq,Zk,Jx,ih,Nat.succ_mul,Nat.add_comm]
theorem qry:OpR X (binaryOp .Mult) rRep:=by
 intro pins s σ H x y v u Q I rx ry h;obtain⟨l,k,xs,rfl,rfl,hH,h1,h2,hz,q⟩:=h;cases rx;obtain⟨t,rfl⟩:=ry;obtain⟨z,its,n,r,hl,e⟩:=I.qgs hH;have hlen:its.toArray.size*k.toNat<=sizeLine:=by rw[J8,<- hl];exact hz
 have hcap:¬ its.toArray.size*k.toNat > (2 ^ 63-1) / 8:=by
  have:(sizeLine:Nat)<=(2 ^ 63-1) / 8:=by decide
  omega
 have hfit:¬ (!Builtin.List.listFitsIndex k)=true:=by
  rw[fitsIndex_both h1 h2];exact Jr
 have qmd:¬ Builtin.List.listTooLong (its.toArray.size*k.toNat)=true:=by
  rw[qru hlen];exact Jr
 have hnew:List.foldl (fun x1 x2=>x1++x2) #[] (List.replicate (if its.toArray.isEmpty=true then 0 else k.toNat) its.toArray)=(List.replicate k.toNat its).flatten.toArray:=by
  have f0:∀ m:Nat,List.foldl (fun x1 x2=>x1++x2) #[] (List.replicate m its.toArray)=(List.replicate m its).flatten.toArray:=fun m=>by
   have:=foldl_rep its m [];rw[List.nil_append] at this;exact this
  rw[f0];cases its with
  |nil=>simp
  |cons a r'=>rw[Jc (by simp)]
 refine wpAny_binaryOp_repeat_ref (T:= "list") (U:= "int") (by decide) ⟨_,e,rfl⟩ (fun s'=>typeIs_int s' k t) noFill_list_mul F.fills_int_mul F.slot_int_rmul repeat_list F.slot_int_index.lookup
  (call_meets F.slot_int_rmul (typeIs_int s k t) F.entry_int_rmul (F.args_int_rmul_2 _ _) (int___rmul___int_list k t l its.toArray n)
   ⟨e,rfl,⟨_,e,rfl⟩,call_meets F.slot_list_mul ⟨_,e,rfl⟩ F.entry_list_mul (F.args_list_mul_2 _ _) (AutoListH.list___mul___list_int_3 l its.toArray n k t hfit hcap qmd) ⟨e,?_⟩⟩)
 rw[hnew];exact⟨.ref _,_,I.lnew (t':=s.toks) (r.rep k.toNat) (by rw[len_rep,Nat.mul_comm];exact hz),rfl,q _ I.fresh⟩
end
theorem Vals.ints:∀ {ns:List Int} {us:List Value},Vals (ns.map V.int) us->IntsAre us ns
 | [],us,h=>by
   rw[Zv] at h;cases h;exact IntsAre.nil
 | n::ns,us,h=>by
   rw[Jq] at h;cases h with
   | cons r t=>
     obtain⟨k,rfl⟩:=r;exact IntsAre.cons n k (Vals.ints t)
theorem qoe:∀ {us:List Value} {ns:List Int},IntsAre us ns->Vals (ns.map V.int) us
 |_,_,.nil=>by rw[Zv];exact Paired.nil
 |_,_,.cons n t h=>by rw[Jq];exact Paired.cons (show RelV (V.int n) (Value.int n t) from ⟨t,rfl⟩) (qoe h)
theorem Vals.bls:∀ {bs:List Bool} {us:List Value},Vals (bs.map V.bl) us->us=bs.map Value.bool
 | [],us,h=>by
   rw[Zv] at h;cases h;rfl
 | b::bs,us,h=>by
   rw[Jq] at h;cases h with
   | cons r t=>
     cases r;rw[Vals.bls t,Jq]
theorem Vals.qg6{a:Addr}{us:List Value}(r:Vals [V.ref a] us): us=[Value.ref a]:=by
 cases r with
 | cons r t=>
   cases t;cases r;rfl
section
variable {prog:Program} {w:World} {A:Around} {E:Value->Shared->Prop} {s:Shared} {l:Addr} {its:List Value} {ns:List Int} {Q:Value->Shared->Prop}
theorem q9x(hh:A.handled=none)(hl:s.heap.IsList l its.toArray)(hi:IntsAre its ns)
  (h:∀ h' tk t',(∀ b o,s.heap.get? b=some o->h'.get? b=some o)->Q (.int ns.sum t') { s with heap:=h',toks:=tk }): wpAny (model prog w) A (call (.builtin "sum") [.ref l]) Q E s:=by
 obtain⟨xs,e⟩:=hi.allInts.items;have hn:numsOf (intItems xs).toList=ns:=by rw[<- e];exact hi.numsOf
 rw[nums_intItems] at hn;rw[e] at hl;refine PySem.sum_intListG hh hl fun h' tk t' hk=>?_;have:=h h' tk t' hk;rw[preSum_eq,Wz (by simp),hn];exact this
end
section
variable {X:Cx}
def rSum(K:PySem.W.Frag): List V->Hp->VK->Prop:=fun vs H Q=>∃ (a:Addr) (ns:List Int),vs=[V.ref a]/\SqL K H a (ns.map V.int)/\Q (.int ns.sum) H
theorem qpj(hc:X.calm=true): Qd3 X (.builtin "sum") (rSum X.K):=by
 intro pins s σ H vs us Q I r h;obtain⟨a,ns,rfl,hs,q⟩:=h;obtain⟨its,rv,hl,_⟩:=I.list hs;rw[Vals.qg6 r];exact q9x (I.ok.hd hc) hl.isList rv.ints fun h' tk t' hk=>⟨.int _,H,I.kept hk,⟨_,rfl⟩,q⟩
end
theorem qqs{prog:Program}{w:World}{A:Around}{E:Value->Shared->Prop}{s:Shared}{l:Addr}{items:Array Value}{Q:Value->Shared->Prop}(hl:s.heap.IsList l items)
  (h:∀ s₂:Shared,s₂={ s with heap:=s.heap.push { cls:=.type "list_iterator",data:=.fields #[.ref l,.int 0 0] } } ->
   (s₂.heap.IsListIter s.heap.objs.size l 0/\s₂.heap.IsList l items)->l≠s.heap.objs.size->Q (.ref s.heap.objs.size) s₂): wpAny (model prog w) A (pyIter (.ref l)) Q E s:=by
 have hlt:l<s.heap.objs.size:=by obtain⟨_,e,_⟩:=hl;exact Jl e
 exact Y6 hl (h _ rfl ⟨⟨_,Js _ rfl,rfl,rfl⟩,hl.push _⟩ (Xl hlt))
theorem qv3{prog:Program}{w:World}{A:Around}{bs:List Bool}{its:List Value}(e:its=bs.map Value.bool):
  TruthOf prog w A (fun i v=>its.toArray[i]?=some v) (fun i=>bs.getD i false):=fun i v s Q E hv hq=>by
 have hv':its[i]?=some v:=by simpa using hv
 rw[e,Jt] at hv';obtain⟨b,hb,rfl⟩:=Option.map_eq_some_iff.mp hv';have hg:bs.getD i false=b:=by rw[List.getD_eq_getElem?_getD,hb]<;>rfl
 have hq':Q (bs.getD i false) s:=hq;rw[hg] at hq';exact Zz hq'
theorem any_range:∀ bs:List Bool,(List.range bs.length).any (fun i=>bs.getD i false)=bs.any id
 |[]=>rfl
 | b::bs=>by
   rw[Jz,List.range_succ_eq_map,Y4,List.any_map,Y4,<- any_range bs];all_goals rfl
theorem all_range:∀ bs:List Bool,(List.range bs.length).all (fun i=>bs.getD i false)=bs.all id
 |[]=>rfl
 | b::bs=>by
   rw[Jz,List.range_succ_eq_map,Qc,List.all_map,Qc,<- all_range bs];all_goals rfl
section
variable {X:Cx}
def rAny(K:PySem.W.Frag): List V->Hp->VK->Prop:=fun vs H Q=>∃ (a:Addr) (bs:List Bool),vs=[V.ref a]/\SqL K H a (bs.map V.bl)/\Q (.bl (bs.any id)) H
def rAll(K:PySem.W.Frag): List V->Hp->VK->Prop:=fun vs H Q=>∃ (a:Addr) (bs:List Bool),vs=[V.ref a]/\SqL K H a (bs.map V.bl)/\Q (.bl (bs.all id)) H
theorem cr_any(hc:X.calm=true): Qd3 X (.builtin "any") (rAny X.K):=by
 intro pins s σ H vs us Q I r h;obtain⟨a,bs,rfl,hs,q⟩:=h;obtain⟨its,rv,hl,_⟩:=I.list hs;rw[Vals.qg6 r];have hb:=rv.bls;refine call_any_walk (qqs hl.isList fun s₂ e2 st hne=>?_);subst e2;refine⟨_,_,_,_,_,_,_,rfl,Walks.list (A:=X.A.in1) (I.ok.hd hc) _ a hne its.toArray,st,qv3 hb,fun h' tk hk=>?_⟩;refine⟨.bl _,H,I.kept fun b o eo=>hk b o (fun hmem=>?_) (Jb _ eo),?_,q⟩
 ·rcases Jf.mp hmem with e1|hmem
  ·exact absurd (e1 ▸ Jl eo) (Yd _)
  ·cases hmem
 ·show Value.bool _=Value.bool _;rw[<- any_range,hb,J8,Jd]
theorem qph(hc:X.calm=true): Qd3 X (.builtin "all") (rAll X.K):=by
 intro pins s σ H vs us Q I r h;obtain⟨a,bs,rfl,hs,q⟩:=h;obtain⟨its,rv,hl,_⟩:=I.list hs;rw[Vals.qg6 r];have hb:=rv.bls;refine call_all_walk (qqs hl.isList fun s₂ e2 st hne=>?_);subst e2;refine⟨_,_,_,_,_,_,_,rfl,Walks.list (A:=X.A.in1) (I.ok.hd hc) _ a hne its.toArray,st,qv3 hb,fun h' tk hk=>?_⟩;refine⟨.bl _,H,I.kept fun b o eo=>hk b o (fun hmem=>?_) (Jb _ eo),?_,q⟩
 ·rcases Jf.mp hmem with e1|hmem
  ·exact absurd (e1 ▸ Jl eo) (Yd _)
  ·cases hmem
 ·show Value.bool _=Value.bool _;rw[<- all_range,hb,J8,Jd]
end
abbrev Qon(h:Heap)(c:Addr)(v:Option Value): Prop:=h.IsCell c v
def relS(scope sc:Scope): Scope:=
 { scope with names:=scope.names.map fun (n,k)=>if (k == .free&&sc.kind == .function&&sc.names.lookup n==some .cell) then (n,.cell) else (n,k) }
def qbq(cells:List (Str×Addr)): List (Str×NameKind)->List (Str×Addr)->List (Str×Addr)
 |[],acc=>acc
 |(n,k)::r,acc=>if k == .free then qbq cells r ((n,(cells.lookup n).getD 0)::acc) else qbq cells r acc
theorem qpf(env:Env)(f:Str×NameKind->List (Str×Addr)->Sem (ForInStep (List (Str×Addr))))
  (hf:∀ n k c,f (n,k) c=if k == .free then (do let a <- cellOf env n;pure (.yield ((n,a)::c))) else pure (.yield c)):
  ∀ (names:List (Str×NameKind)) (acc:List (Str×Addr)),(∀ y∈names,y.2 = .free->∃ c,env.cells.lookup y.1=some c)->forIn names acc f=pure (qbq env.cells names acc)
 |[],acc,_=>by rw[Yl];rfl
 | (n,k)::r,acc,h=>by
   rw[Ym,hf];have ih:=fun acc=>qpf env f hf r acc fun y hy=>h y (Jm _ hy);unfold qbq;by_cases hk:(k==NameKind.free)=true
   ·rw[Je hk,Je hk];obtain⟨c,hc⟩:=h (n,k) Jh (by simpa using hk);have e:cellOf env n=pure c:=by unfold cellOf;rw[hc]
    rw[e];have e2:(env.cells.lookup n).getD 0=c:=by rw[hc];rfl
    rw[e2];exact ih _
   ·rw[Jc hk,Jc hk];exact ih _
theorem qx4{scope:Scope}{env:Env}(h:∀ y∈scope.names,y.2 = .free->∃ c,env.cells.lookup y.1=some c): closureFor scope env=pure (qbq env.cells scope.names []):=by
 simp only[closureFor];rw[qpf env _ (fun n k c=>rfl) scope.names [] h];rfl
theorem mem_lookup{α:Type}: ∀ {l:List (Str×α)} {n:Str} {c:α},(n,c)∈l->∃ c',l.lookup n=some c'
 | (k,v)::r,n,c,h=>by
   rw[X0];cases hb:n==k with
   |true=>exact⟨_,rfl⟩
   | false=>
     rcases Jf.mp h with e|h
     ·cases e;simp at hb
     ·exact mem_lookup h
theorem qi8{cells:List (Str×Addr)}: ∀ {names:List (Str×NameKind)} {acc:List (Str×Addr)} {n:Str} {c:Addr},(n,c)∈qbq cells names acc->(n,c)∈acc\/((n,.free)∈names/\c=(cells.lookup n).getD 0)
 |[],_,_,_,h=>.inl h
 | (m,k)::r,acc,n,c,h=>by
   unfold qbq at h;split at h
   ·rename_i hk;have hk:k = .free:=by simpa using hk
    rcases qi8 h with h|⟨h1,h2⟩
    ·rcases Jf.mp h with e|h
     ·cases e;exact .inr ⟨hk ▸ Jh,rfl⟩
     ·exact .inl h
    ·exact .inr ⟨Jm _ h1,h2⟩
   ·rcases qi8 h with h|⟨h1,h2⟩
    ·exact .inl h
    ·exact .inr ⟨Jm _ h1,h2⟩
theorem qlg{cells:List (Str×Addr)}: ∀ {names:List (Str×NameKind)} {acc:List (Str×Addr)} {p:Str×Addr},p∈acc->p∈qbq cells names acc
 |[],_,_,h=>h
 | (m,k)::r,acc,p,h=>by
   unfold qbq;split
   ·exact qlg (Jm _ h)
   ·exact qlg h
theorem qlh{cells:List (Str×Addr)}: ∀ {names:List (Str×NameKind)} {acc:List (Str×Addr)} {n:Str},(n,.free)∈names->(n,(cells.lookup n).getD 0)∈qbq cells names acc
 | (m,k)::r,acc,n,h=>by
   unfold qbq;rcases Jf.mp h with e|h
   ·cases e;exact qlg Jh
   ·split
    ·exact qlh h
    ·exact qlh h
theorem qhs:∀ {names:List (Str×NameKind)} {h:Heap} {acc:List (Str×Addr)} {x:Str} {c:Addr},(x,c)∈cellsFrom h.objs.size names acc ->
  (x,c)∈acc\/((x,.cell)∈names/\h.objs.size<=c/\Qon (pushCells h names) c none)
 |[],_,_,_,_,h=>.inl h
 | (n,k)::r,h,acc,x,c,hm=>by
   unfold cellsFrom at hm;unfold pushCells;split at hm
   ·rename_i hk;rw[Je hk];have hk:k = .cell:=by simpa using hk
    rw[<- J6 h { cls:=.type "cell",data:=.cell none }] at hm;rcases qhs hm with hm|⟨h1,h2,h3⟩
    ·rcases Jf.mp hm with e|hm
     ·cases e;exact .inr ⟨hk ▸ Jh,Jp _,_,Qs r _ _ _ (Js _ rfl),rfl⟩
     ·exact .inl hm
    ·rw[J6] at h2;exact .inr ⟨Jm _ h1,U5 h2,h3⟩
   ·rename_i hk;rw[Jc hk];rcases qhs hm with hm|⟨h1,h2,h3⟩
    ·exact .inl hm
    ·exact .inr ⟨Jm _ h1,h2,h3⟩
theorem qi6:∀ {names:List (Str×NameKind)} {n:Nat} {acc:List (Str×Addr)} {p:Str×Addr},p∈acc->p∈cellsFrom n names acc
 |[],_,_,_,h=>h
 | (m,k)::r,n,acc,p,h=>by
   unfold cellsFrom;split
   ·exact qi6 (Jm _ h)
   ·exact qi6 h
theorem qlc:∀ {names:List (Str×NameKind)} {n:Nat} {acc:List (Str×Addr)} {x:Str},(x,.cell)∈names->∃ c,(x,c)∈cellsFrom n names acc
 | (m,k)::r,n,acc,x,h=>by
   unfold cellsFrom;rcases Jf.mp h with e|h
   ·cases e;exact⟨n,qi6 Jh⟩
   ·split
    ·exact qlc h
    ·exact qlc h
theorem qld:∀ {names:List (Str×NameKind)} {h:Heap} {acc:List (Str×Addr)} {x y:Str} {c:Addr},(∀ p∈acc,p.2<h.objs.size)->(∀ x y c,(x,c)∈acc->(y,c)∈acc->x=y) ->
  (x,c)∈cellsFrom h.objs.size names acc->(y,c)∈cellsFrom h.objs.size names acc->x=y
 |[],_,_,_,_,_,_,hi,h1,h2=>hi _ _ _ h1 h2
 | (n,k)::r,h,acc,x,y,c,hl,hi,h1,h2=>by
   unfold cellsFrom at h1 h2;split at h1
   ·rename_i hk;rw[Je hk] at h2;rw[<- J6 h { cls:=.type "cell",data:=.cell none }] at h1 h2;refine qld (h:=h.push _) (fun p hp=>?_) (fun x y c a b=>?_) h1 h2
    ·rw[J6];rcases Jf.mp hp with rfl|hp
     ·exact Qe _
     ·exact Wd (hl p hp)
    ·rcases Jf.mp a with e|a<;>rcases Jf.mp b with e'|b
     ·cases e;cases e';rfl
     ·cases e;exact absurd (hl _ b) (Yd _)
     ·cases e';exact absurd (hl _ a) (Yd _)
     ·exact hi _ _ _ a b
   ·rename_i hk;rw[Jc hk] at h2;exact qld hl hi h1 h2
theorem q4v{M:Model}{A:Around}{E:Value->Shared->Prop}{s:Shared}{scope:Scope}{globals:Addr}{closure:List (Str×Addr)}{qual:Str}{func:Option Addr}{code:Value}{around:Env}{builtins:Addr}{Q:Env->Shared->Prop}
  (h:Q (newEnv scope s.heap.objs.size globals (cellsFrom (s.heap.objs.size+1) scope.names closure) qual func code (some around) builtins)
   { s with heap:=pushCells (s.heap.push { cls:=.type "dict",data:=.dict #[] }) scope.names }):
  wpAny M A (newFunctionEnv scope globals closure [] qual func code (some around) builtins) Q E s:=by
 simp only[newFunctionEnv,Option.isSome_some,Wh];refine Ja (wpAny_alloc ?_);refine Ja (wpAny_layCells _ (fun n k c=>rfl) scope.names closure _ _ ?_);rw[show ({ s with heap:=s.heap.push { cls:=.type "dict",data:=.dict #[] } }:Shared).heap.objs.size=s.heap.objs.size+1 from J6 ..];rw[Yl];exact Ja (Jg (Jg h))
theorem qmr{sc:Scope}: ∀ {names:List (Str×NameKind)} {x:Str} {k:NameKind},
  (names.map fun (n,k)=>if (k==NameKind.free&&sc.kind == .function&&sc.names.lookup n==some .cell) then (n,NameKind.cell) else (n,k)).lookup x=some k ->
  ∃ k',names.lookup x=some k'/\(k=k'\/(k' = .free/\k = .cell))
 |[],_,_,h=>by simp at h
 | (n,k₀)::r,x,k,h=>by
   have ih:=@qmr sc r x k;have h':List.lookup x ((if (k₀==NameKind.free&&sc.kind == .function&&sc.names.lookup n==some .cell)=true then (n,NameKind.cell) else (n,k₀))::(r.map _))=some k:=h;cases hx:x==n with
   | true=>
     simp only[X0,hx];by_cases hc:(k₀==NameKind.free&&sc.kind == .function&&sc.names.lookup n==some .cell)=true
     ·rw[Je hc] at h';simp only[X0,hx] at h';cases h';simp only[Jw,Yq] at hc;exact⟨k₀,rfl,.inr ⟨hc.1.1,rfl⟩⟩
     ·rw[Jc hc] at h';simp only[X0,hx] at h';cases h';exact⟨_,rfl,.inl rfl⟩
   | false=>
     simp only[X0,hx];by_cases hc:(k₀==NameKind.free&&sc.kind == .function&&sc.names.lookup n==some .cell)=true
     ·rw[Je hc] at h';simp only[X0,hx] at h';exact ih h'
     ·rw[Jc hc] at h';simp only[X0,hx] at h';exact ih h'
structure Qhp(N:List Str)(sc scope:Scope)(own:List (Str×Nat)): Prop where
 kind:scope.kind = .function
 uniq:∀ y∈scope.names,scope.names.lookup y.1=some y.2
 ix:∀ p∈own,N[p.2]?=some p.1
 free:∀ y∈scope.names,y.2 = .free->sc.names.lookup y.1=some .cell\/sc.names.lookup y.1=some .free
 own:∀ y∈scope.names,y.2 = .local\/y.2 = .cell->y.1∈own.map (·.1)\/y.1∉N
def wipe(σ:St): List Nat->St
 |[]=>σ
 |v::vs=>(wipe σ vs).set v none
theorem qoi(σ:St): ∀ vs:List Nat,(wipe σ vs).length=σ.length
 |[]=>rfl
 |v::vs=>by unfold wipe;rw[Uh,qoi σ vs]
theorem qoj{σ:St}{i:Nat}{x:V}: ∀ {vs:List Nat},(wipe σ vs)[i]?=some (some x)->σ[i]?=some (some x)/\i∉vs
 |[],h=>⟨h,by simp⟩
 | v::vs,h=>by
   unfold wipe at h;by_cases hi:v=i
   ·subst hi;by_cases hv:v<(wipe σ vs).length
    ·rw[Zp hv] at h;cases h
    ·rw[Yn (by simpa using hv)] at h;cases h
   ·rw[Zy hi] at h;obtain⟨h1,h2⟩:=qoj h;exact⟨h1,by simp only[Jf,not_or];exact⟨fun e=>hi e.symm,h2⟩⟩
abbrev Cx.blk(X:Cx)(s:Shared)(H:Hp)(scope:Scope)(cenv:Env)(fp:List Addr): Cx:={ X with s_0:=s,H_0:=H,env:=cenv,outer:=X.stack,ex:=fp,fn:=fun x=>scope.names.lookup x==some .cell,pn:=[],xe:=fun _ _=>False }
section
variable {X:Cx} {pins:List (Addr×Obj)} {σ:St} {H:Hp} {s:Shared}
theorem qw5{scope:Scope}{own:List (Str×Nat)}{fp:List Addr}(I:Inv X pins σ H s)(ok:Qhp X.N X.env.scope scope own)(hN:X.N.Nodup)(hfp:∀ b∈fp,Qc9 X pins H b/\b<s.heap.objs.size):
  Inv (X.blk s H scope (compEnvC scope (cellsFrom (s.heap.objs.size+1) scope.names (qbq X.env.cells scope.names [])) s.heap.objs.size X.env) fp) [] (wipe σ (own.map (·.2))) H { s with heap:=pushCells (s.heap.push { cls:=.type "dict",data:=.dict #[] }) scope.names }:=by
 have hfree:∀ y∈scope.names,y.2 = .free->∃ c,X.env.cells.lookup y.1=some c:=fun y hy e=>by
  rcases ok.free y hy e with k|k
  ·exact I.ok.has _ (.inl k)
  ·exact I.ok.has _ (.inr k)
 generalize qhy:compEnvC scope (cellsFrom (s.heap.objs.size+1) scope.names (qbq X.env.cells scope.names [])) s.heap.objs.size X.env=cenv;have kp:∀ b o,s.heap.get? b=some o->(pushCells (s.heap.push { cls:=.type "dict",data:=.dict #[] }) scope.names).get? b=some o:=fun b o e=>Qs _ _ _ _ (Jb _ e);have hL:cenv.locals=s.heap.objs.size:=by rw[<- qhy];rfl
 have hcl:cenv.cells=cellsFrom (s.heap.objs.size+1) scope.names (qbq X.env.cells scope.names []):=by rw[<- qhy];rfl
 have hsc:cenv.scope=relS scope X.env.scope:=by rw[<- qhy];rfl
 rw[<- J6 s.heap { cls:=.type "dict",data:=.dict #[] }] at hcl;have cm:∀ {y c},(y,c)∈qbq X.env.cells scope.names []->X.env.cells.lookup y=some c/\c<s.heap.objs.size:=fun {y c} hm=>by
  rcases qi8 hm with hm|⟨h1,rfl⟩
  ·cases hm
  ·obtain⟨c,hc⟩:=hfree _ h1 rfl;rw[hc];obtain⟨w,z⟩:=I.cell _ _ hc;exact⟨rfl,z.lt⟩
 have mem:∀ {y c},cenv.cells.lookup y=some c->(X.env.cells.lookup y=some c/\c<s.heap.objs.size)\/(s.heap.objs.size+1<=c/\Qon (pushCells (s.heap.push { cls:=.type "dict",data:=.dict #[] }) scope.names) c none):=fun {y c} e=>by
  rw[hcl] at e;rcases qhs (Xx e) with hm|⟨_,h2,h3⟩
  ·exact .inl (cm hm)
  ·rw[J6] at h2;exact .inr ⟨h2,h3⟩
 have look:∀ {y},scope.names.lookup y=some .free->∃ c,cenv.cells.lookup y=some c/\X.env.cells.lookup y=some c:=fun {y} hl=>by
  have hy:(y,NameKind.free)∈scope.names:=Xx hl;obtain⟨c',e'⟩:=mem_lookup (qi6 (names:=scope.names) (n:=(s.heap.push { cls:=.type "dict",data:=.dict #[] }).objs.size) (qlh (cells:=X.env.cells) (acc:=[]) hy));rw[<- hcl] at e';refine⟨c',e',?_⟩;rw[hcl] at e';rcases qhs (Xx e') with hm|⟨h1,_,_⟩
  ·exact(cm hm).1
  ·have:=ok.uniq _ h1;rw[hl] at this;cases this
 have okB:(X.blk s H scope cenv fp).Ok:=by
  refine⟨I.ok.mod,by show cenv.scope.kind=_;rw[hsc];exact ok.kind,by show cenv.globals=_;rw[<- qhy];exact I.ok.glob,by show cenv.builtins=_;rw[<- qhy];exact I.ok.blt,by show s.heap.objs.size<=cenv.locals;rw[hL];exact Jp _,
   fun y z c e1 e2=>?_,fun y hy=>?_,fun y c z e=>?_,I.ok.hd,I.ok.frames,.inl rfl,fun b hb=>⟨?_,fun y c e z=>?_⟩,I.bs,Xd I.ok.bsz I.sz,fun b o e hb=>?_,fun b hb z=>?_,I.stack,I.qvi⟩
  ·have e1:cenv.cells.lookup y=some c:=e1;have e2:cenv.cells.lookup z=some c:=e2;rw[hcl] at e1 e2;refine qld (fun p hp=>?_) (fun y z c a b=>I.ok.inj y z c (cm a).1 (cm b).1) (Xx e1) (Xx e2);rw[J6];exact Wd (cm (y:=p.1) (c:=p.2) hp).2
  ·show ∃ c,cenv.cells.lookup y=some c;have key:∀ k,cenv.kindOf y=some k->(k = .cell\/k = .free)->∃ c,cenv.cells.lookup y=some c:=fun k hk hk'=>by
    unfold Env.kindOf at hk;rw[hsc] at hk;obtain⟨k',e,r⟩:=qmr hk;have:k' = .cell\/k' = .free:=by
     rcases r with rfl|⟨rfl,_⟩
     ·exact hk'
     ·exact .inr rfl
    rcases this with rfl|rfl
    ·obtain⟨c,hm⟩:=qlc (n:=(s.heap.push { cls:=.type "dict",data:=.dict #[] }).objs.size) (acc:=qbq X.env.cells scope.names []) (Xx e);obtain⟨c',e'⟩:=mem_lookup hm;exact⟨c',by rw[hcl];exact e'⟩
    ·obtain⟨c,h1,_⟩:=look e;exact⟨c,h1⟩
   rcases hy with hy|hy
   ·exact key _ hy (.inl rfl)
   ·exact key _ hy (.inr rfl)
  ·have z:(scope.names.lookup y==some NameKind.cell)=true:=z;have z:scope.names.lookup y=some .cell:=by simpa using z
   have e:cenv.cells.lookup y=some c:=e;rw[hcl] at e;rcases qhs (Xx e) with hm|⟨_,h2,_⟩
   ·rcases qi8 hm with hm|⟨h1,_⟩
    ·cases hm
    ·have q:=ok.uniq _ h1;rw[z] at q;cases q
   ·rw[J6] at h2;exact U5 h2
  ·show b≠cenv.locals;rw[hL];exact Xl (hfp b hb).2
  ·have e:cenv.cells.lookup y=some c:=e;rcases mem e with ⟨h1,_⟩|⟨h1,_⟩
   ·exact(hfp b hb).1.2.2.2.2.1 y c h1 z
   ·have h2:s.heap.objs.size+1<=b:=by rw[<- z];exact h1
    exact absurd (Xk (hfp b hb).2 (U5 h2)) (Yd _)
  ·rcases(hfp b hb).1.2.2.2.1 with z|z
   ·exact I.ok.noex b o e z
   ·exact absurd (Xk (Jl e) (Xd I.ok.bsz z)) (Yd _)
  ·rcases Jf.mp (I.qn4 b z) with z|z
   ·exact(hfp b hb).1.2.1 z
   ·exact(hfp b hb).1.2.2.1 z
 refine⟨okB,rfl,I.bare,Un.kept kp,⟨fun _=>none,?_,fun i y av e1 e2 e3=>?_⟩,fun y c e=>?_,?_,fun y c e=>?_,fun p hp=>?_,I.hok.kept kp,by rw[qoi];exact I.len⟩
 ·show Heap.Ns _ cenv.locals _;rw[hL];exact Heap.Ns.keeps (Heap.Ns.new ..) fun b o e=>Qs _ _ _ _ e
 ·obtain⟨e2,hne⟩:=qoj e2;have hfr:scope.names.lookup y=some .free/\(cenv.kindOf y=some .cell\/cenv.kindOf y=some .free):=by
   have key:∀ k,cenv.scope.names.lookup y=some k->k = .local\/k = .cell\/k = .free->scope.names.lookup y=some .free/\(cenv.kindOf y=some .cell\/cenv.kindOf y=some .free):=fun k hk hk'=>by
    have hk0:=hk;rw[hsc] at hk;obtain⟨k',e,r⟩:=qmr hk;have no:¬ (k' = .local\/k' = .cell):=fun hh=>by
     rcases ok.own _ (Xx e) hh with e'|e'
     ·obtain⟨p,hp,hpy⟩:=Jk.mp e';have e3:=ok.ix p hp;have:p.1=y:=hpy;rw[this] at e3;exact hne (Jk.mpr ⟨p,hp,qmy hN e3 e1⟩)
     ·exact e' (J0 e1)
    rcases r with rfl|⟨rfl,rfl⟩
    ·rcases hk' with rfl|rfl|rfl
     ·exact absurd (.inl rfl) no
     ·exact absurd (.inr rfl) no
     ·exact⟨e,.inr hk0⟩
    ·exact⟨e,.inl hk0⟩
   have e3:Vis cenv.scope y:=e3;rcases e3 with e3|e3|e3
   ·exact key _ e3 (.inl rfl)
   ·exact key _ e3 (.inr (.inl rfl))
   ·exact key _ e3 (.inr (.inr rfl))
  obtain⟨m,hn,hl⟩:=I.loc;have hvis:Vis X.env.scope y:=(ok.free _ (Xx hfr.1) rfl).elim (fun k=>.inr (.inl k)) (fun k=>.inr (.inr k));obtain⟨w,r,q⟩:=hl i y av e1 e2 hvis;refine⟨w,r,.inr ⟨hfr.2,?_⟩⟩;obtain⟨c,h1,h2⟩:=look hfr.1;rcases q with ⟨k,_⟩|⟨_,c',e',z⟩
  ·have k:X.env.scope.names.lookup y=some .local:=k;rcases ok.free _ (Xx hfr.1) rfl with k'|k'<;>rw[show X.env.scope.names.lookup y=_ from k'] at k<;>cases k
  ·rw[h2] at e';cases e';exact⟨c,h1,z.keeps kp⟩
 ·have e:cenv.cells.lookup y=some c:=e;rcases mem e with ⟨h1,_⟩|⟨_,z⟩
  ·obtain⟨w,z⟩:=I.cell y c h1;exact⟨w,z.keeps kp⟩
  ·exact⟨_,z⟩
 ·show H cenv.locals=none;rw[hL];exact I.hok.fresh (Jp _)
 ·have e:cenv.cells.lookup y=some c:=e;rcases mem e with ⟨h1,_⟩|⟨h1,_⟩
  ·exact I.qc0 y c h1
  ·exact I.hok.fresh (U5 h1)
 ·exact absurd (show p∈([]:List (Addr×Obj))++[] from hp) (by simp)
theorem app_ok{E:Value->Shared->Prop}{D:Addr}{xs:List V}{y:V}{v:Value}{Q:Value->Shared->Prop}(I:Inv X pins σ H s)(hD:H D=some (.lst xs))(hz:xs.length<sizeLine)(r:RelV y v)
  (h:∀ s',Inv X pins σ (upd H D (.lst (xs++[y]))) s'->Q .none s'): wpAny (model X.prog X.w) X.A (call (.builtin "list.append") [.ref D,v]) Q E s:=by
 obtain⟨hz',its,n,ri,e⟩:=I.hok D _ hD;have hl:=ri.length;refine append_at (hsz:=by rw[J8];omega) e fun h' sb ho'=>?_;refine h { s with heap:=h' } (I.write (t':=s.toks) (by rw[hD];trivial) (.inl rfl) (fun b u hb q=>(sb.2 b hb).trans q) ⟨_,ho'⟩ ⟨by rw[Jx];exact hz,its++[v],n+1,ri.append (.cons r .nil),?_⟩);rw[ho'];simp
def PTs(X:Cx)(ifs:List Expr)(t:TT): Prop:=
 ∀ (pins:List (Addr×Obj)) (s:Shared) (σ:St) (H:Hp) (Q:Bool->Hp->Prop),Inv X pins σ H s->t σ H Q ->
   wpAny (model X.prog X.w) X.A (forIn ifs true fun c r=>if r=true then do let ok <- isTrue c X.env (eval c X.env);pure (ForInStep.yield ok) else pure (ForInStep.yield r)) (TP X pins σ Q) X.xe s
def tYes:TT:=fun _ H Q=>Q true H
theorem qez:PTs X [] tYes:=fun _ _ _ H _ I h=>wpAny_tests_nil ⟨H,I,h⟩
theorem qfh{c:Expr}{t:TT}(h:PT X c t): PTs X [c] t:=fun pins s σ H Q I hw=>wpAny_tests_one (h pins s σ H Q I hw)
end
theorem qhf{α:Type}{t:Sem α}{Q Q':α->Shared->Prop}{M:Model}{A:Around}{E:Value->Shared->Prop}{s:Shared}(h:wpAny M A t Q (fun _ _=>False) s)(hQ:∀ a s,Q a s->Q' a s): wpAny M A t Q' E s:=Yw h hQ fun _ _ z=>False.elim z
theorem qx9{prog:Program}{w:World}{A:Around}{R:Result->Shared->Prop}{s:Shared}{elt target iter:Expr}{ifs:List Expr}{scope:Scope}{pos:Pos}{it acc:Value}{env:Env}(I:Nat->Shared->Prop)
  (turn:∀ n s,I n s->wpAny (model prog w) A (pyNext it) (fun r s₁=>match r with
   |none=>R (.ok .next) s₁
   |some v=>wpAny (model prog w) A (letOwnedTupleGo target it v) (fun _ s₁'=>wpAny (model prog w) A (assign target env v) (fun _ s₂=>
     wpAny (model prog w) A (forIn ifs true fun c r=>if r=true then do let ok <- isTrue c env (eval c env);pure (ForInStep.yield ok) else pure (ForInStep.yield r)) (fun ok s₃=>
      if ok=true then wpAny (model prog w) A (eval elt env) (fun x s₄=>
       wpAny (model prog w) A (call (.builtin "list.append") [acc,x]) (fun _ s₅=>∃ m,m<n/\I m s₅) (notedBy (model prog w) A env fun e s'=>R (.error e) s') s₄) (notedBy (model prog w) A env fun e s'=>R (.error e) s') s₃
      else ∃ m,m<n/\I m s₃) (notedBy (model prog w) A env fun e s'=>R (.error e) s') s₂) (notedBy (model prog w) A env fun e s'=>R (.error e) s') s₁') (notedBy (model prog w) A env fun e s'=>R (.error e) s') s₁) (notedBy (model prog w) A env fun e s'=>R (.error e) s') s)
  (n:Nat)(h:I n s):
  codeAny (model prog w) A (.compLoop (.ListComp elt [⟨target,iter,ifs,0⟩] scope pos) 0 it acc env) R s:=by
 refine codeAny_loop rfl I (fun n s hI=>?_) n h;show wpAny _ A ((compTurn (.ListComp elt [⟨target,iter,ifs,0⟩] scope pos) 0 it acc env).onRaise (fun x=>do noteFrame x env;theTreesLotGoes x)) _ _ s;refine wpAny_noted ?_;rw[compTurn_list];refine Ja (wpAny_standAt (Ja (Yw (turn n s hI) (fun r s₁ h₁=>?_) fun _ _ h'=>h')));cases r with
 |none=>exact Jg h₁
 | some v=>
   refine Ja (Yw h₁ (fun _ s₁' h₁'=>?_) fun _ _ h'=>h');refine Ja (Yw h₁' (fun _ s₂ h₂=>Ja (Yw h₂ (fun ok s₃ h₃=>?_) fun _ _ h'=>h')) fun _ _ h'=>h');cases ok with
   |false=>exact Jg ⟨rfl,h₃⟩
   | true=>
     exact Ja (Ja (Yw h₃ (fun x s₄ h₄=>Ja (Yw h₄ (fun _ s₅ h₅=>Jg (Jg ⟨rfl,h₅⟩)) fun _ _ h'=>h')) fun _ _ h'=>h'))
section
variable {X:Cx}
def tLc(wi:TI)(g:TG)(tt:TT)(te:TE)(vs:List Nat): TE:=fun σ H Q=>wi σ H fun J H1=>∀ D,H1 D=none->∃ W:Nat->Nat->Hp->Prop,(∃ m,W 0 m (upd H1 D (.lst [])))/\∀ i m H,W i m H ->
 (J.stop i H/\Q (.ref D) H)\/(J.go i H/\∃ Nx:Hp->Prop,(∀ H',Nx H'->∃ m',m' < m/\W (i+1) m' H')/\∀ x H',J.yld i H x H'->g x (wipe σ vs) H' fun σ2 H2=>wipe σ2 vs=wipe σ vs/\tt σ2 H2 fun b H3=>
  if b=true then te σ2 H3 fun y H4=>∃ acc,H4 D=some (.lst acc)/\acc.length<sizeLine/\Nx (upd H4 D (.lst (acc++[y]))) else Nx H3)
theorem qra{pins:List (Addr×Obj)}{s:Shared}{σ:St}{H:Hp}{Q:VK}{elt tg iter:Expr}{ifs:List Expr}{scope:Scope}{own:List (Str×Nat)}{pos pos':Pos}{wi:TI}{g:TG}{tt:TT}{te:TE}{use:Option (Value->Sem Unit)}{Qf:Value->Shared->Prop}
  (hc:X.calm=true)(hN:X.N.Nodup)(I:Inv X pins σ H s)(hi:PI X tg iter wi)(ok:Qhp X.N X.env.scope scope own)
  (hg:∀ (s:Shared) (H:Hp) (C:Addr) (cl:List (Str×Addr)) (fp:List Addr),PG (X.blk s H scope (compEnvC scope cl C X.env) fp) tg g)(ht:∀ (s:Shared) (H:Hp) (C:Addr) (cl:List (Str×Addr)) (fp:List Addr),PTs (X.blk s H scope (compEnvC scope cl C X.env) fp) ifs tt)
  (he:∀ (s:Shared) (H:Hp) (C:Addr) (cl:List (Str×Addr)) (fp:List Addr),PE (X.blk s H scope (compEnvC scope cl C X.env) fp) elt te)(hs:∀ x,foldedSetIterable iter X.env x=pure x)
  (h:tLc wi g tt te (own.map (·.2)) σ H Q)
  (hRR:∀ D C s' m H',Inv X pins σ H' s'->Q (.ref D) H'->s'.heap.Ns C m->Qc9 X pins H' C->compPost (model X.prog X.w) X.A X.xe use Qf (.ref D) C (.ok .next) s'):
  wpAny (model X.prog X.w) X.A (comprehension (.ListComp elt [⟨tg,iter,ifs,0⟩] scope pos) scope X.env pos' (newList []) false (eval iter X.env) use) Qf X.xe s:=by
 have hfree:∀ y∈scope.names,y.2 = .free->∃ c,X.env.cells.lookup y.1=some c:=fun y hy e=>by
  rcases ok.free y hy e with k|k
  ·exact I.ok.has _ (.inl k)
  ·exact I.ok.has _ (.inr k)
 refine wpAny_comprehension_free (use:=use) rfl hs (qx4 hfree) ok.kind (fun y hy e=>by rw[ok.uniq y hy,e])
  (thn (hi pins s σ H _ I h) fun xv s1 hx=>thn hx fun itv s2 h2=>?_)
 obtain⟨it,fp,tn,J,H2,e,I2,T,st2,f2,q⟩:=h2;subst e;refine We (q4v ?_) (by show 0<=sizeLine;decide);generalize hD:s2.heap.objs.size=D;have hDn:H2 D=none:=I2.hok.fresh (Qp hD);obtain⟨W,⟨m0,w0⟩,turn⟩:=q D hDn;generalize hs3:({ s2 with heap:=s2.heap.push { cls:=.type "list",data:=.seq ([]:List Value).toArray } }:Shared)=s3;have I3:Inv X pins σ (upd H2 D (.lst [])) s3:=by
  rw[<- hs3];refine I2.laid (t':=s2.toks) (fun b o e=>Jb _ e) (Qp hD) ⟨X3 _,[],0,.nil,?_⟩;rw[<- hD];exact Js _ rfl
 have h3:s3.heap=s2.heap.push { cls:=.type "list",data:=.seq ([]:List Value).toArray }:=by rw[<- hs3]
 have sz:∀ b∈fp,b<s2.heap.objs.size:=fun b hb=>by
  obtain⟨o,e,_⟩:=T.obj _ _ st2 b hb;exact Jl e
 have f3:∀ b∈fp,Qc9 X pins (upd H2 D (.lst [])) b/\b<s3.heap.objs.size:=fun b hb=>by
  have hlt:=sz b hb;refine⟨⟨?_,(f2 b hb).2⟩,by rw[h3,J6];exact Wd hlt⟩;rw[qc (by rw[<- hD];exact Xl hlt)];exact(f2 b hb).1
 have st3:tn 0 s3.heap:=T.keep _ _ _ st2 fun b _ o e=>by rw[h3];exact Jb _ e
 have I4:=qw5 I3 ok hN f3;have pg:=hg s3 (upd H2 D (.lst [])) s3.heap.objs.size (cellsFrom (s3.heap.objs.size+1) scope.names (qbq X.env.cells scope.names [])) fp;have pt:=ht s3 (upd H2 D (.lst [])) s3.heap.objs.size (cellsFrom (s3.heap.objs.size+1) scope.names (qbq X.env.cells scope.names [])) fp;have pe:=he s3 (upd H2 D (.lst [])) s3.heap.objs.size (cellsFrom (s3.heap.objs.size+1) scope.names (qbq X.env.cells scope.names [])) fp;show codeAny _ _ (.compStart (.ListComp elt [⟨tg,iter,ifs,0⟩] scope pos) 0 (.ref it) (.ref D) (compEnvC scope (cellsFrom (s3.heap.objs.size+1) scope.names (qbq X.env.cells scope.names [])) s3.heap.objs.size X.env)) (compPost (model X.prog X.w) X.A X.xe use Qf (.ref D) s3.heap.objs.size) { s3 with heap:=pushCells (s3.heap.push { cls:=.type "dict",data:=.dict #[] }) scope.names };have nfp:∀ b∈fp,(upd H2 D (.lst [])) b=none:=fun b hb=>(f3 b hb).1.1;generalize hce:compEnvC scope (cellsFrom (s3.heap.objs.size+1) scope.names (qbq X.env.cells scope.names [])) s3.heap.objs.size X.env=ce at I4 pg pt pe ⊢;have cL:ce.locals=s3.heap.objs.size:=by subst hce;rfl
 generalize hH3:upd H2 D (.lst [])=H3 at I3 I4 pg pt pe w0 nfp f3;generalize hs4:({ s3 with heap:=pushCells (s3.heap.push { cls:=.type "dict",data:=.dict #[] }) scope.names }:Shared)=s4 at I4 ⊢;have st4:tn 0 s4.heap:=T.keep _ _ _ st3 fun b _ o e=>by rw[<- hs4];exact Qs _ _ _ _ (Jb _ e)
 have qf6:∀ {σ':St} {H':Hp} {s':Shared},Inv (X.blk s3 H3 scope ce fp) [] σ' H' s'->(∀ b∈fp,H' b=none)->∀ b∈fp,Qc9 (X.blk s3 H3 scope ce fp) [] H' b:=fun {σ' H' s'} I' hn b hb=>
  ⟨hn b hb,(I'.ok.exf b hb).1,I'.ok.exfs b hb,.inl hb,fun x c e=>(I'.ok.exf b hb).2 x c e,fun p hp=>absurd (show p∈([]:List (Addr×Obj))++[] from hp) (by simp)⟩
 have loop:codeAny (model X.prog X.w) X.A (.compLoop (.ListComp elt [⟨tg,iter,ifs,0⟩] scope pos) 0 (.ref it) (.ref D) ce) (compPost (model X.prog X.w) X.A X.xe use Qf (.ref D) s3.heap.objs.size) s4:=by
  refine qx9 (fun n s'=>∃ i H',Inv (X.blk s3 H3 scope ce fp) [] (wipe σ (own.map (·.2))) H' s'/\tn i s'.heap/\(∀ b∈fp,H' b=none)/\W i n H') ?_ m0 ⟨0,H3,I4,st4,nfp,w0⟩;rintro n s5 ⟨i,H5,I5,st5,n5,w5⟩;rcases turn i n H5 w5 with ⟨stop,qq⟩|⟨go,Nx,hNx,step⟩
  ·have td:=T.done (X.blk s3 H3 scope ce fp) rfl rfl rfl hc i [] s5 _ H5 (fun _ _=>False) I5 (qf6 I5 n5) st5 stop;refine qhf td fun r s6 ⟨hr,I6⟩=>?_;subst hr;have I7:Inv X pins σ H5 s6:=I3.call' (ch:=fp) I6.os I6.base I6.hok I6.bare fun b hb=>⟨(f3 b hb).1.2.2.2.1,(f3 b hb).1.2.1,(f3 b hb).1.2.2.2.2.1,(f3 b hb).1.2.2.2.2.2⟩
   have nC:H5 s3.heap.objs.size=none:=by
    have z:H5 ce.locals=none:=I6.free;rw[cL] at z;exact z
   obtain⟨m,hn,_⟩:=I6.loc;have hn:s6.heap.Ns ce.locals m:=hn;rw[cL] at hn;exact hRR D s3.heap.objs.size s6 m H5 I7 qq hn (I3.qfa (Jp _) nC)
  ·have ti:=T.item (X.blk s3 H3 scope ce fp) rfl rfl rfl hc i [] s5 _ H5 (fun _ _=>False) I5 (qf6 I5 n5) st5 go;refine qhf ti fun r s6 ⟨u,hr,h6⟩=>?_;subst hr;refine qhf h6 fun _ s7 ⟨x,H7,I7,r7,y7,st7,n7⟩=>?_;have I7':=I7.pinned (qf6 I7 n7) (T.obj _ _ st7);refine qhf (pg _ s7 _ H7 x u _ I7' r7 (step x H7 y7)) fun _ s8 ⟨σ8,H8,I8,hw8,q8⟩=>?_;refine qhf (pt _ s8 σ8 H8 _ I8 q8) fun b s9 ⟨H9,I9,q9⟩=>?_;have fin:∀ {s':Shared} {H':Hp},Inv (X.blk s3 H3 scope ce fp) ([]++qic fp s7.heap) σ8 H' s'->Nx H'->∃ m,m<n/\∃ i H',Inv (X.blk s3 H3 scope ce fp) [] (wipe σ (own.map (·.2))) H' s'/\tn i s'.heap/\(∀ b∈fp,H' b=none)/\W i m H':=fun {s' H'} I' nx=>by
    obtain⟨m',hm,w'⟩:=hNx H' nx;have pin':∀ b∈fp,∀ o,s7.heap.get? b=some o->s'.heap.get? b=some o/\H' b=none:=fun b hb o e=>
     let z:=I'.pin (b,o) (Ye _ (Ye _ (qmv hb e)));⟨z.1,z.2.1⟩
    have hl:(wipe σ (own.map (·.2))).length=σ8.length:=by rw[<- hw8,qoi]
    refine⟨m',hm,i+1,H',(I'.qkp (pins:=[])).weak hl (fun j v e=>?_),T.keep _ _ _ st7 fun b hb o e=>(pin' b hb o e).1,fun b hb=>?_,w'⟩
    ·rw[<- hw8] at e;exact(qoj e).1
    ·obtain⟨o,e,_⟩:=T.obj _ _ st7 b hb;exact(pin' b hb o e).2
   cases b with
   | false=>
     simp only[Xr,X9] at q9 ⊢;exact fin I9 q9
   | true=>
     simp only[Wh] at q9 ⊢;refine qhf (pe _ s9 σ8 H9 _ I9 q9) fun z s10 ⟨yv,H10,I10,r10,acc,hD10,hz10,nx⟩=>?_;exact app_ok (X:=X.blk s3 H3 scope ce fp) I10 hD10 hz10 r10 fun s11 I11=>fin I11 nx
 exact codeAny_compStart_list loop (T.self X.A 0 _ _ _ st4 loop)
theorem qdx{elt tg iter:Expr}{ifs:List Expr}{scope:Scope}{own:List (Str×Nat)}{pos:Pos}{wi:TI}{g:TG}{tt:TT}{te:TE}(hc:X.calm=true)(hN:X.N.Nodup)(hi:PI X tg iter wi)(ok:Qhp X.N X.env.scope scope own)
  (hg:∀ (s:Shared) (H:Hp) (C:Addr) (cl:List (Str×Addr)) (fp:List Addr),PG (X.blk s H scope (compEnvC scope cl C X.env) fp) tg g)(ht:∀ (s:Shared) (H:Hp) (C:Addr) (cl:List (Str×Addr)) (fp:List Addr),PTs (X.blk s H scope (compEnvC scope cl C X.env) fp) ifs tt)
  (he:∀ (s:Shared) (H:Hp) (C:Addr) (cl:List (Str×Addr)) (fp:List Addr),PE (X.blk s H scope (compEnvC scope cl C X.env) fp) elt te)(hs:∀ x,foldedSetIterable iter X.env x=pure x:=by intro _;rfl):
  PE X (.ListComp elt [⟨tg,iter,ifs,0⟩] scope pos) (tLc wi g tt te (own.map (·.2))):=by
 intro pins s σ H Q I h;rw[eval_ListComp];refine qra hc hN I hi ok hg ht he hs h fun D C s' m H' I' q hn f=>⟨m,hn,fun h'' sb=>?_⟩
 obtain⟨f0,f1,f2,f3,f4,f5⟩:=f;exact⟨.ref D,H',I'.turned (t':=s'.toks) (fun b o hb e=>(sb.2 b hb).trans e) f0 f1 f3 f4 f5,rfl,q⟩
theorem qgz{i:Nat}{y:Str}{py:Pos}{elt tg iter:Expr}{ifs:List Expr}{scope:Scope}{own:List (Str×Nat)}{pos spos:Pos}{wi:TI}{g:TG}{tt:TT}{te:TE}(hc:X.calm=true)(hN:X.N.Nodup)(hy:X.N[i]?=some y)(hyl:X.env.scope.names.lookup y=some .local)
  (hsw:swapsWith (.ListComp elt [⟨tg,iter,ifs,0⟩] scope pos) (some (.Name y py)) spos.line X.env=pure true)(hi:PI X tg iter wi)(ok:Qhp X.N X.env.scope scope own)
  (hg:∀ (s:Shared) (H:Hp) (C:Addr) (cl:List (Str×Addr)) (fp:List Addr),PG (X.blk s H scope (compEnvC scope cl C X.env) fp) tg g)(ht:∀ (s:Shared) (H:Hp) (C:Addr) (cl:List (Str×Addr)) (fp:List Addr),PTs (X.blk s H scope (compEnvC scope cl C X.env) fp) ifs tt)
  (he:∀ (s:Shared) (H:Hp) (C:Addr) (cl:List (Str×Addr)) (fp:List Addr),PE (X.blk s H scope (compEnvC scope cl C X.env) fp) elt te)(hs:∀ x,foldedSetIterable iter X.env x=pure x:=by intro _;rfl):
  PS X (.Assign [.Name y py] (.ListComp elt [⟨tg,iter,ifs,0⟩] scope pos) spos) (qei (tLc wi g tt te (own.map (·.2))) (qcl i)):=by
 intro pins s σ H D I h;rw[exec_Assign_Name_used _ _ _ _ hsw];refine Ja (wpAny_standAt (Ja ?_));show wpAny _ X.A (do let _ <- comprehension (.ListComp elt [⟨tg,iter,ifs,0⟩] scope pos) scope X.env (firstIterPos [⟨tg,iter,ifs,0⟩] pos) (newList []) false (eval iter X.env) (some (assign (.Name y py) X.env))) _ _ s;have h:tLc wi g tt te (own.map (·.2)) σ H (fun x H1=>qcl i x σ H1 D.nx):=h;refine Ja (thn (qra (Qf:=fun _ s'=>SP X pins D .next s') hc hN I hi ok hg ht he hs h fun L C s' m H' I' q hn f=>?_) fun _ s' hq=>Jg (Jg hq));show wpAny _ _ (assign (.Name y py) X.env (.ref L)) _ _ _;refine wpAny_assign_Name (qvk (v:=V.ref L) I' hN hy (.inl hyl) rfl (fun s2 I2 ⟨a,sb,ha⟩=>?_) (.inr hyl));obtain⟨f0,f1,f2,f3,f4,f5⟩:=f;have haC:C≠a:=by
  rcases ha with z|z
  ·rw[z];exact f1
  ·exact fun e=>f4 y a z e.symm
 refine⟨m,hn.sameBut sb haC,fun h3 sb3=>?_⟩;exact⟨_,H',I2.turned (t':=s2.toks) (fun b o hb e=>(sb3.2 b hb).trans e) f0 f1 f3 f4 f5,q⟩
theorem qhe{elt:Expr}{gs:List Comprehension}{scope:Scope}{pos py:Pos}{y:Str}{l:Nat}{env:Env}(hk:env.scope.kind = .function)(hy:env.scope.names.lookup y=some .local)(hl:(py.line==pos.line)=true)
  (ha:(scope.names.any fun (n,k)=>n==y&&(k == .local ||k == .cell))=false): swapsWith (.ListComp elt gs scope pos) (some (.Name y py)) l env=pure true:=by
 have ky:env.kindOf y=some .local:=hy;have hb:env.blockKind = .function:=by unfold Env.blockKind;rw[hk];rfl
 unfold swapsWith;simp only[hb,ky,ha,Expr.pos,hl];rfl
end
def blkC(N:List Str)(sc scope:Scope)(own:List (Str×Nat)): Bool:=
 (match scope.kind with | .function=>true|_=>false)&&(scope.names.all fun y=>decide (scope.names.lookup y.1=some y.2))&&(own.all fun p=>decide (N[p.2]?=some p.1)) &&
  (scope.names.all fun y=>match y.2 with
   | .free=>(match sc.names.lookup y.1 with|some .cell=>true|some .free=>true|_=>false)
   | .local=>decide (y.1∈own.map (·.1)) ||decide (y.1∉N)
   | .cell=>decide (y.1∈own.map (·.1)) ||decide (y.1∉N)
   |_=>true)
theorem qw4{N:List Str}{sc scope:Scope}{own:List (Str×Nat)}(h:blkC N sc scope own=true): Qhp N sc scope own:=by
 unfold blkC at h;simp only[Jw,Wi,J9] at h;obtain⟨⟨⟨h1,h2⟩,h3⟩,h4⟩:=h;refine⟨?_,h2,h3,fun y hy e=>?_,fun y hy e=>?_⟩
 ·split at h1
  ·assumption
  ·cases h1
 ·have q:=h4 y hy;simp only[e] at q;split at q<;>first|exact .inl (by assumption)|exact .inr (by assumption)|cases q
 ·have q:=h4 y hy;rcases e with e|e<;>(simp only[e,Bool.or_eq_true,J9] at q;exact q)
end L2
namespace L2
open PySem PySem.Spec PyProof.Rows
section
variable {κ:Type} [DecidableEq κ]
def vj(kvs:List (κ×V))(k:κ): Option V:=(kvs.find? fun kv=>decide (kv.1=k)).map (·.2)
def putK(kvs:List (κ×V))(k:κ)(v:V): List (κ×V):=
 if (kvs.any fun kv=>decide (kv.1=k))=true then kvs.map (fun kv=>if kv.1=k then (kv.1,v) else kv) else kvs++[(k,v)]
theorem qf9{p:κ×V}{r:List (κ×V)}{k:κ}(e:p.1=k): vj (p::r) k=some p.2:=by simp[vj,Yg,e]
theorem qf8{p:κ×V}{r:List (κ×V)}{k:κ}(e:¬ p.1=k): vj (p::r) k=vj r k:=by simp[vj,Yg,e]
theorem qhi(k:κ): ∀ kvs:List (κ×V),(kvs.any fun kv=>decide (kv.1=k))=(vj kvs k).isSome
 |[]=>rfl
 | p::r=>by
   rw[Y4];by_cases e:p.1=k
   ·simp only[qf9 e,Xm e,Bool.true_or,Option.isSome_some]
   ·rw[qf8 e,J7 e,Qz];exact qhi k r
theorem qjn(kvs:List (κ×V))(k:κ)(v:V): (putK kvs k v).length<=kvs.length+1:=by
 unfold putK;split
 ·rw[Jd];omega
 ·rw[Jx,Jz,Y3];omega
theorem Qch.qh0{o:Option V}{u:Option Value}(r:Qch o u): o.isSome=u.isSome:=by
 cases o with
 | none=>cases u with
   |none=>rfl
   |some _=>exact(show False from r).elim
 | some _=>cases u with
   |none=>exact(show False from r).elim
   |some _=>rfl
theorem Qch.getD{o:Option V}{u:Option Value}{d:V}{d':Value}(r:Qch o u)(rd:RelV d d'): RelV (o.getD d) (u.getD d'):=by
 cases o with
 | none=>cases u with
   |none=>exact rd
   |some _=>exact(show False from r).elim
 | some _=>cases u with
   |none=>exact(show False from r).elim
   |some _=>exact r
theorem KV.val{kvs:List (κ×V)}{vs:List (κ×Value)}(r:KV kvs vs)(k:κ): Qch (vj kvs k) (valueAt vs k):=by
 unfold KV at r;induction r with
 |nil=>exact True.intro
 | @cons p q ps qs h t ih=>
   obtain⟨h1,h2⟩:=h;by_cases e:p.1=k
   ·have e':q.1=k:=h1.symm.trans e;have b:valueAt (q::qs) k=some q.2:=by simp[valueAt,Yg,e']
    rw[qf9 e,b];exact h2
   ·have e':¬ q.1=k:=fun z=>e (h1.trans z);have b:valueAt (q::qs) k=valueAt qs k:=by simp[valueAt,Yg,e']
    rw[qf8 e,b];exact ih
theorem KV.any{kvs:List (κ×V)}{vs:List (κ×Value)}(r:KV kvs vs)(k:κ): (kvs.any fun kv=>decide (kv.1=k))=vs.any fun kv=>decide (kv.1=k):=by
 unfold KV at r;induction r with
 |nil=>rfl
 |cons h t ih=>rw[Y4,Y4,ih,h.1]
theorem KV.repl{kvs:List (κ×V)}{vs:List (κ×Value)}(r:KV kvs vs)(k:κ){y:V}{u:Value}(ry:RelV y u):
  KV (kvs.map fun kv=>if kv.1=k then (kv.1,y) else kv) (vs.map fun kv=>if kv.1=k then (kv.1,u) else kv):=by
 unfold KV at r ⊢;induction r with
 |nil=>exact .nil
 | @cons p q ps qs h t ih=>
   rw[Jq,Jq];refine .cons ?_ ih;obtain⟨h1,h2⟩:=h;by_cases e:p.1=k
   ·rw[Je e,Je (h1.symm.trans e)];exact⟨h1,ry⟩
   ·rw[Jc e,Jc (fun z=>e (h1.trans z))];exact⟨h1,h2⟩
theorem KV.put{kvs:List (κ×V)}{vs:List (κ×Value)}(r:KV kvs vs)(k:κ){y:V}{u:Value}(ry:RelV y u): KV (putK kvs k y) (stored vs k u):=by
 unfold putK stored;rw[r.any k];by_cases e:(vs.any fun kv=>decide (kv.1=k))=true
 ·rw[Je e,Je e];exact r.repl k ry
 ·rw[Jc e,Jc e];exact Paired.snoc r ⟨rfl,ry⟩
theorem KV.keys{kvs:List (κ×V)}{vs:List (κ×Value)}(r:KV kvs vs): kvs.map (·.1)=vs.map (·.1):=by
 unfold KV at r;induction r with
 |nil=>rfl
 |cons h t ih=>rw[Jq,Jq,ih,h.1]
theorem KV.length{kvs:List (κ×V)}{vs:List (κ×Value)}(r:KV kvs vs): kvs.length=vs.length:=Zr r
end
theorem qds{P:Program}{w:World}{k:Key}{u:Value}(r:RelV (kV k) u): (qao P w).is k u=true:=by
 cases k with
 |inl i=>obtain⟨t,e⟩:=(show ∃ t,u=Value.int i t from r);subst e;exact q33 P w i t
 |inr x=>obtain⟨t,e⟩:=(show ∃ t,u=Value.str x t from r);subst e;exact q34 P w x t
theorem qqr{P:Program}{w:World}: ∀ {ks:List Key} {us:List Value},Vals (ks.map kV) us->ItemsAre (qao P w) ks us
 |[],_,r=>by rw[Zv] at r;cases r;exact .nil
 | k::ks,_,r=>by
   rw[Jq] at r;cases r with
   |cons h t=>exact .cons (qds h) (qqr t)
abbrev KT(H:Hp): List (List Key×V)->List (List Key×Addr×Value)->Prop:=Paired fun p q=>p.1=q.1/\H q.2.1=some (.tup (p.1.map kV))/\RelV p.2 q.2.2
theorem KT.val{H:Hp}{kvs:List (List Key×V)}{xs:List (List Key×Addr×Value)}(r:KT H kvs xs)(k:List Key): Qch (vj kvs k) ((atKey xs k).map (·.2)):=by
 induction r with
 |nil=>exact True.intro
 | @cons p q ps qs h t ih=>
   obtain⟨h1,_,h2⟩:=h;by_cases e:p.1=k
   ·have e':q.1=k:=h1.symm.trans e;have b:atKey (q::qs) k=some q.2:=by simp[atKey,Yg,e']
    rw[qf9 e,b];exact h2
   ·have e':¬ q.1=k:=fun z=>e (h1.trans z);have b:atKey (q::qs) k=atKey qs k:=by simp[atKey,Yg,e']
    rw[qf8 e,b];exact ih
theorem KT.repl{H:Hp}{kvs:List (List Key×V)}{xs:List (List Key×Addr×Value)}(r:KT H kvs xs)(k:List Key){y:V}{u:Value}(ry:RelV y u):
  KT H (kvs.map fun kv=>if kv.1=k then (kv.1,y) else kv) (xs.map (putAt k u)):=by
 induction r with
 |nil=>exact .nil
 | @cons p q ps qs h t ih=>
   rw[Jq,Jq];refine .cons ?_ ih;obtain⟨h1,h2,h3⟩:=h;unfold putAt;by_cases e:p.1=k
   ·rw[Je e,Je (h1.symm.trans e)];exact⟨h1,h2,ry⟩
   ·rw[Jc e,Jc (fun z=>e (h1.trans z))];exact⟨h1,h2,h3⟩
theorem KT.put{H:Hp}{kvs:List (List Key×V)}{xs:List (List Key×Addr×Value)}(r:KT H kvs xs)(k:List Key){b:Addr}{y:V}{u:Value}(hb:H b=some (.tup (k.map kV)))(ry:RelV y u):
  KT H (putK kvs k y) (storedH xs k b u):=by
 have e:(kvs.any fun kv=>decide (kv.1=k))=(atKey xs k).isSome:=by
  rw[qhi,(r.val k).qh0,Wf]
 unfold putK storedH;rw[e];by_cases q:(atKey xs k).isSome=true
 ·rw[Je q,Je q];exact r.repl k ry
 ·rw[Jc q,Jc q];exact Paired.snoc r ⟨rfl,hb,ry⟩
theorem KT.keeps{H H':Hp}{kvs:List (List Key×V)}{xs:List (List Key×Addr×Value)}(r:KT H kvs xs)(ht:∀ b ys,H b=some (.tup ys)->H' b=some (.tup ys)): KT H' kvs xs:=
 Paired.mapP r fun _ _ z=>⟨z.1,ht _ _ z.2.1,z.2.2⟩
section
variable {P:Program} {w:World} {H:Hp} {h:Heap} {a:Addr}
theorem rd_of{u:HO}(ok:HOk P w H h)(e:Rd H a u): Qaw P w H h a u:=e.ok ok
theorem qeo{kvs:List (Key×V)}(ok:HOk P w H h)(e:Rd H a (.dK kvs)): kvs.length<=sizeLine/\(a==sysModules)=false/\∃ vs,KV kvs vs/\h.DictOf (qao P w) a vs:=
 show Qaw P w H h a (.dK kvs) from rd_of ok e
theorem qht{kvs:List (Key×V)}(ok:HOk P w H h)(e:H a=some (.dK kvs)): kvs.length<=sizeLine/\(a==sysModules)=false/\∃ vs,KV kvs vs/\h.DictOf (qao P w) a vs:=qeo ok (.inl e)
theorem qfw{ks:List Key}(ok:HOk P w H h)(e:H a=some (.tup (ks.map kV))): (tupleKind (qao P w)).is h ks a:=by
 obtain⟨_,its,r,o,h1,h2,n,h3⟩:=(show Qaw P w H h a (.tup (ks.map kV)) from ok a _ e)
 exact⟨o,its.toArray,n,h1,h2,h3,by simpa using qqr r⟩
theorem qe8{kvs:List (List Key×V)}(ok:HOk P w H h)(e:Rd H a (.dT kvs)): kvs.length<=sizeLine/\(a==sysModules)=false /\
  ∃ xs,KT H kvs xs/\h.DictOfH (tupleKind (qao P w)) a xs:=by
 obtain⟨z,y,xs,r,o,es,ep,h1,h2,h3,h4,h5⟩:=(show Qaw P w H h a (.dT kvs) from rd_of ok e)
 refine⟨z,y,xs,r,o,es,ep,h1,h2,h3,h4,fun x hx=>?_,h5⟩;have all:∀ {l:List (List Key×V)} {m:List (List Key×Addr×Value)},KT H l m->∀ x∈m,(tupleKind (qao P w)).is h x.1 x.2.1:=by
  intro l m q;induction q with
  |nil=>intro x hx;exact nomatch hx
  | @cons p q ps qs hq t ih=>
    intro x hx;rcases Jf.mp hx with e|hx
    ·subst e;exact qfw ok (by rw[<- hq.1];exact hq.2.1)
    ·exact ih x hx
 exact all r x hx
theorem dt_of{kvs:List (List Key×V)}(ok:HOk P w H h)(e:H a=some (.dT kvs)): kvs.length<=sizeLine/\(a==sysModules)=false /\
  ∃ xs,KT H kvs xs/\h.DictOfH (tupleKind (qao P w)) a xs:=qe8 ok (.inl e)
end
def Qau(H:Hp)(a:Addr)(y:V)(r:Option V): Prop:=
 (∃ kvs k,Rd H a (.dK kvs)/\y=kV k/\r=vj kvs k)\/∃ kvs k b,Rd H a (.dT kvs)/\y = .ref b/\H b=some (.tup (k.map kV))/\r=vj kvs k
def Qem(H:Hp)(a:Addr)(y v:V)(H':Hp): Prop:=
 (∃ kvs k,H a=some (.dK kvs)/\y=kV k/\kvs.length<sizeLine/\H'=upd H a (.dK (putK kvs k v))) \/
 ∃ kvs k b,H a=some (.dT kvs)/\y = .ref b/\H b=some (.tup (k.map kV))/\kvs.length<sizeLine/\H'=upd H a (.dT (putK kvs k v))
theorem Qau.k{H:Hp}{a:Addr}{kvs:List (Key×V)}{k:Key}(e:H a=some (.dK kvs)): Qau H a (kV k) (vj kvs k):=.inl ⟨kvs,k,.inl e,rfl,rfl⟩
theorem Qau.t{H:Hp}{a b:Addr}{kvs:List (List Key×V)}{k:List Key}(e:H a=some (.dT kvs))(eb:H b=some (.tup (k.map kV))): Qau H a (.ref b) (vj kvs k):=.inr ⟨kvs,k,b,.inl e,rfl,eb,rfl⟩
theorem Qem.k{H:Hp}{a:Addr}{kvs:List (Key×V)}{k:Key}{v:V}(e:H a=some (.dK kvs))(hl:kvs.length<sizeLine): Qem H a (kV k) v (upd H a (.dK (putK kvs k v))):=.inl ⟨kvs,k,e,rfl,hl,rfl⟩
theorem Qem.t{H:Hp}{a b:Addr}{kvs:List (List Key×V)}{k:List Key}{v:V}(e:H a=some (.dT kvs))(eb:H b=some (.tup (k.map kV)))(hl:kvs.length<sizeLine):
  Qem H a (.ref b) v (upd H a (.dT (putK kvs k v))):=.inr ⟨kvs,k,b,e,rfl,eb,hl,rfl⟩
section
variable {X:Cx} {pins:List (Addr×Obj)} {σ:St} {H:Hp} {s:Shared} {a:Addr} {y v:V} {u r:Value} {o:Option V} {A:Around} {E:Value->Shared->Prop}
theorem Inv.big(I:Inv X pins σ H s): sysModules<s.heap.objs.size:=by
 have h:mainGlobals<s.heap.objs.size:=(I.mod.glob.keeps I.bk).lt;exact Nat.lt_trans (by decide) h
theorem qzc{Q:Value->Shared->Prop}(hu:A.units+1<cLine)(I:Inv X pins σ H s)(g:Qau H a y (some v))(ry:RelV y u)(h:∀ w' s',Inv X pins σ H s'->RelV v w'->Q w' s'):
  wpAny (model X.prog X.w) A (getItem (.ref a) u) Q E s:=by
 rcases g with ⟨kvs,k,e,ey,l⟩|⟨kvs,k,b,e,ey,eb,l⟩
 ·subst ey;obtain⟨z,hd,vs,rel,dd⟩:=qeo I.hok e;obtain⟨w',hw,rw'⟩:=Qch.some_of (v:=v) (o:=valueAt vs k) (by rw[l];exact rel.val k);exact wpAny_getItem_of (qds ry) dd.mapOf hw (h w' _ (I.tok _) rw')
 ·subst ey;cases (show u=Value.ref b from ry);obtain⟨z,hd,xs,rel,dd⟩:=qe8 I.hok e;obtain⟨w',hw,rw'⟩:=Qch.some_of (v:=v) (o:=(atKey xs k).map (·.2)) (by rw[l];exact rel.val k);obtain⟨p,hp,hp2⟩:=Option.map_eq_some_iff.mp hw;refine wpAny_getItem_heap (Z6 hu) (qfw I.hok eb) dd hp ?_;rw[hp2];exact h w' _ (I.tok _) rw'
theorem d_in{Q:Value->Shared->Prop}(hu:A.units+1<cLine)(I:Inv X pins σ H s)(g:Qau H a y o)(ry:RelV y u)(h:∀ s',Inv X pins σ H s'->Q (.bool o.isSome) s'):
  wpAny (model X.prog X.w) A (compareOp .In u (.ref a)) Q E s:=by
 rcases g with ⟨kvs,k,e,ey,l⟩|⟨kvs,k,b,e,ey,eb,l⟩
 ·subst ey;obtain⟨z,hd,vs,rel,dd⟩:=qeo I.hok e;refine wpAny_in_of (qds ry) hd dd.mapOf ?_;rw[<- (rel.val k).qh0,<- l];exact h _ (I.tok _)
 ·subst ey;cases (show u=Value.ref b from ry);obtain⟨z,hd,xs,rel,dd⟩:=qe8 I.hok e;refine wpAny_in_heap (Z6 hu) (qfw I.hok eb) hd dd ?_;have q:=(rel.val k).qh0;rw[Wf] at q;rw[<- q,<- l];exact h _ (I.tok _)
theorem qzv{Q:Value->Shared->Prop}(hu:A.units+1<cLine)(I:Inv X pins σ H s)(g:Qau H a y o)(ry:RelV y u)(h:∀ s',Inv X pins σ H s'->Q (.bool (!o.isSome)) s'):
  wpAny (model X.prog X.w) A (compareOp .NotIn u (.ref a)) Q E s:=by
 rcases g with ⟨kvs,k,e,ey,l⟩|⟨kvs,k,b,e,ey,eb,l⟩
 ·subst ey;obtain⟨z,hd,vs,rel,dd⟩:=qeo I.hok e;refine wpAny_notIn_of (qds ry) hd dd.mapOf ?_;rw[<- (rel.val k).qh0,<- l];exact h _ (I.tok _)
 ·subst ey;cases (show u=Value.ref b from ry);obtain⟨z,hd,xs,rel,dd⟩:=qe8 I.hok e;refine wpAny_notIn_heap (Z6 hu) (qfw I.hok eb) hd dd ?_;have q:=(rel.val k).qh0;rw[Wf] at q;rw[<- q,<- l];exact h _ (I.tok _)
theorem qi9{h':Heap}{t':Nat}{ob:HO}(I:Inv X pins σ H s)(mu:Mut (H a))(hs:Heap.SameBut a s.heap h')(he:∃ q,h'.get? a=some q)(new:Qaw X.prog X.w (upd H a ob) h' a ob):
  Inv X pins σ (upd H a ob) { s with heap:=h',toks:=t' }:=
 I.write (x:=a) (e:=a) mu (.inl rfl) (fun b q hb z=>(hs.2 b hb).trans z) he new
theorem ql3{P:Program}{w:World}{H':Hp}{h':Heap}{kvs:List (Key×V)}{vs:List (Key×Value)}(z:kvs.length<=sizeLine)(hd:(a==sysModules)=false)(rel:KV kvs vs)(dd:h'.DictOf (qao P w) a vs):
  Qaw P w H' h' a (.dK kvs):=⟨z,hd,vs,rel,dd⟩
theorem qz6{H':Hp}{Q:Unit->Shared->Prop}(hu:A.units+1<cLine)(I:Inv X pins σ H s)(g:Qem H a y v H')(ry:RelV y u)(rv:RelV v r)(h:∀ s',Inv X pins σ H' s'->Q () s'):
  wpAny (model X.prog X.w) A (setItem (.ref a) u r) Q E s:=by
 rcases g with ⟨kvs,k,e,ey,l,eH⟩|⟨kvs,k,b,e,ey,eb,l,eH⟩
 ·subst ey eH;obtain⟨z,hd,vs,rel,dd⟩:=qht I.hok e;have hz:vs.length<=sizeLine:=by rw[<- rel.length];exact z
  have hl:(putK kvs k v).length<=sizeLine:=by have:=qjn kvs k v;omega
  refine wpAny_setItem_pairs (hsz:=hz) (qds ry) dd fun h' dd' hs=>h _ ?_;have he:∃ q,h'.get? a=some q:=let ⟨q,_,_,hq,_⟩:=dd';⟨q,hq⟩;exact qi9 I (by rw[e];exact True.intro) hs he (ql3 hl hd (rel.put k rv) dd')
 ·subst ey eH;cases (show u=Value.ref b from ry);obtain⟨z,hd,xs,rel,dd⟩:=dt_of I.hok e;have hz:xs.length<=sizeLine:=by rw[<- Zr rel];exact z
  have hl:(putK kvs k v).length<=sizeLine:=by have:=qjn kvs k v;omega
  refine wpAny_setItem_heap (hsz:=hz) (Z6 hu) (qfw I.hok eb) dd fun h' dd' hs=>h _ ?_;obtain⟨q,es,ep,hq,h2,h3,h4,_,h5⟩:=dd';refine qi9 I (by rw[e];exact True.intro) hs ⟨q,hq⟩ ⟨hl,hd,_,(rel.put k eb rv).keeps fun c ys ec=>?_,q,es,ep,hq,h2,h3,h4,h5⟩;rw[qc (ne_of ec e (fun z=>nomatch z))];exact ec
end
section
variable {X:Cx} {pins:List (Addr×Obj)} {σ:St} {H:Hp} {s:Shared} {a:Addr} {kvs:List (Key×V)} {k:Key} {u:Value} {A:Around} {E:Value->Shared->Prop}
theorem d_len{Q:Value->Shared->Prop}(I:Inv X pins σ H s)(e:Rd H a (.dK kvs))(h:∀ t s',Inv X pins σ H s'->Q (.int kvs.length t) s'): wpAny (model X.prog X.w) A (call (.builtin "len") [.ref a]) Q E s:=by
 obtain⟨z,hd,vs,rel,dd⟩:=qeo I.hok e;refine call_len_dict hd dd (by rw[<- rel.length];rw[sizeLine_eq] at z;omega) ?_;rw[<- rel.length];exact h _ _ (I.tok _)
end
def NoSl(i:Expr): Prop:=∀ ov iv,subscripted i false ov iv=operate [ov,iv] (getItem ov iv)
theorem qvl{prog:Program}{w:World}{A:Around}{E:Value->Shared->Prop}{s:Shared}{env:Env}{value slice:Expr}{pos:Pos}{T id:String}{Q:Value->Shared->Prop}
  (hl:typeLookup (.type T) "__getitem__" = pure (some (.builtin id)))(hs:NoSl slice)
  (h:wpAny (model prog w) A (eval value env) (fun o s₁=>wpAny (model prog w) A (eval slice env) (fun i s₂=>s₂.TypeIs o T/\wpAny (model prog w) A (getItem o i) Q E s₂) E s₁) E s):
  wpAny (model prog w) A (eval (.Subscript value slice pos) env) Q E s:=by
 refine Subscript_ (Yw h (fun o s₁ h₁=>Yw h₁ (fun i s₂ h₂=>?_) fun _ _ x=>x) fun _ _ x=>x);obtain⟨hT,h₂⟩:=h₂;unfold subscriptTail;refine Ja ?_;rw[getitemInPython_of_ne hT.not_modules];refine Ja (wpAny_specialOf hT hl ?_);have fin:wpAny (model prog w) A (subscripted slice false o i) (fun r s₃=>wpAny (model prog w) A (letTemporaryGo value o r >>= fun _=>pure r) Q E s₃) E s₂:=by
  rw[hs o i];exact wpAny_operating (Yw h₂ (fun r s₃ h₃=>Ja (wpAny_letTemporaryGo (Jg h₃))) fun _ _ x=>x)
 first
  |exact Jg (Ja fin)
  |exact Ja (Jg (Ja fin))
  |exact Ja fin
theorem q0p{X:Cx}{pins:List (Addr×Obj)}{σ:St}{H:Hp}{s:Shared}{a:Addr}{y:V}{o:Option V}(I:Inv X pins σ H s)(g:Qau H a y o): s.TypeIs (.ref a) "dict":=by
 rcases g with ⟨kvs,k,e,_,_⟩|⟨kvs,k,b,e,_,_,_⟩
 ·obtain⟨_,_,vs,_,dd⟩:=qeo I.hok e;exact dd.typeIs
 ·obtain⟨_,_,xs,_,dd⟩:=qe8 I.hok e;exact dd.typeIs
def qej(td ty:TE): TE:=fun σ H Q=>td σ H fun x H1=>ty σ H1 fun y H2=>∃ a v,x = .ref a/\Qau H2 a y (some v)/\Q v H2
def tDIn(ty td:TE): TE:=fun σ H Q=>ty σ H fun y H1=>td σ H1 fun x H2=>∃ a o,x = .ref a/\Qau H2 a y o/\Q (.bl o.isSome) H2
def qvt(ty td:TE): TE:=fun σ H Q=>ty σ H fun y H1=>td σ H1 fun x H2=>∃ a o,x = .ref a/\Qau H2 a y o/\Q (.bl (!o.isSome)) H2
def qnk(td ty tv:TE): TS:=fun D σ H=>tv σ H fun v H1=>td σ H1 fun x H2=>ty σ H2 fun y H3=>∃ a H4,x = .ref a/\Qem H3 a y v H4/\D.nx σ H4
section
variable {X:Cx} {o i e value:Expr} {pos pos' tpos:Pos} {td ty tv:TE}
theorem q5a(hu:X.A.units+1<cLine)(ho:PE X o td)(hi:PE X i ty)(hs:NoSl i): PE X (.Subscript o i pos) (qej td ty):=by
 intro pins s σ H Q I h;refine qvl PySem.F.slot_dict_getitem.lookup hs (thn (ho pins s σ H _ I h) fun u s1 ⟨x,H1,I1,rx,q1⟩=>thn (hi pins s1 σ H1 _ I1 q1) fun iv s2 ⟨y,H2,I2,ry,a,v,ex,g,q2⟩=>?_);subst ex;obtain rfl:u=Value.ref a:=rx;exact⟨q0p I2 g,qzc hu I2 g ry fun w' s3 I3 rw'=>⟨v,H2,I3,rw',q2⟩⟩
theorem qjv(hu:X.A.units+1<cLine)(hi:PE X i ty)(ho:PE X o td): PC X .In i o (tDIn ty td):=by
 intro pins s σ H Q I h;refine thn (hi pins s σ H _ I h) fun iv s1 ⟨y,H1,I1,ry,q1⟩=>thn (ho pins s1 σ H1 _ I1 q1) fun u s2 ⟨x,H2,I2,rx,a,ov,ex,g,q2⟩=>?_;subst ex;obtain rfl:u=Value.ref a:=rx;exact d_in hu I2 g ry fun s3 I3=>⟨.bl ov.isSome,H2,I3,rfl,q2⟩
theorem qm5(hu:X.A.units+1<cLine)(hi:PE X i ty)(ho:PE X o td): PC X .NotIn i o (qvt ty td):=by
 intro pins s σ H Q I h;refine thn (hi pins s σ H _ I h) fun iv s1 ⟨y,H1,I1,ry,q1⟩=>thn (ho pins s1 σ H1 _ I1 q1) fun u s2 ⟨x,H2,I2,rx,a,ov,ex,g,q2⟩=>?_;subst ex;obtain rfl:u=Value.ref a:=rx;exact qzv hu I2 g ry fun s3 I3=>⟨.bl (!ov.isSome),H2,I3,rfl,q2⟩
theorem qnc(hu:X.A.units+1<cLine)(ho:PE X o td)(hi:PE X i ty)(hv:PE X value tv)(hs:swapsWith value (some (.Subscript o i pos')) pos.line X.env=pure false):
  PS X (.Assign [.Subscript o i pos'] value pos) (qnk td ty tv):=by
 intro pins s σ H D I h;refine wpAny_Assign_Subscript (thn (hv pins s σ H _ I h) fun r s1 ⟨v,H1,I1,rv,q1⟩=>thn (ho pins s1 σ H1 _ I1 q1) fun u s2 ⟨x,H2,I2,rx,q2⟩=>thn (hi pins s2 σ H2 _ I2 q2) fun iv s3 ⟨y,H3,I3,ry,a,H4,ex,g,q3⟩=>?_) hs;subst ex;obtain rfl:u=Value.ref a:=rx;exact qz6 hu I3 g ry rv fun s4 I4=>⟨σ,H4,I4,q3⟩
end
theorem qps{P:Program}{w:World}{H:Hp}(h:Heap)(hb:sysModules<h.objs.size): Qaw P w H (h.push { cls:=.type "dict",data:=.dict #[] }) h.objs.size (.dK []):=
 ⟨X3 _,Yu.mpr (Xb (Xl hb)),[],.nil,Heap.DictOf.new h⟩
theorem q0r{P:Program}{w:World}{H:Hp}(h:Heap)(hb:sysModules<h.objs.size): Qaw P w H (h.push { cls:=.type "dict",data:=.dict #[] }) h.objs.size (.dT []):=
 ⟨X3 _,Yu.mpr (Xb (Xl hb)),[],.nil,_,#[],0,Js _ rfl,⟨rfl,rfl,rfl⟩,rfl,rfl,Yb⟩
def qvr:TE:=fun _ H Q=>∀ p,H p=none->Q (.ref p) (upd H p (.dK []))
def qvs:TE:=fun _ H Q=>∀ p,H p=none->Q (.ref p) (upd H p (.dT []))
section
variable {X:Cx} {pos:Pos}
theorem qgv:PE X (.Dict [] [] pos) qvr:=fun pins s σ H Q I h=>
 wpAny_Dict_empty ⟨.ref s.heap.objs.size,_,I.laid (a:=s.heap.objs.size) (o:=.dK []) (t':=s.toks) (fun _ _ q=>Jb _ q) (Jp _) (qps s.heap I.big),rfl,h _ (I.hok.fresh (Jp _))⟩
theorem q5e:PE X (.Dict [] [] pos) qvs:=fun pins s σ H Q I h=>
 wpAny_Dict_empty ⟨.ref s.heap.objs.size,_,I.laid (a:=s.heap.objs.size) (o:=.dT []) (t':=s.toks) (fun _ _ q=>Jb _ q) (Jp _) (q0r s.heap I.big),rfl,h _ (I.hok.fresh (Jp _))⟩
end
def qn9:List (TE×TE)->St->Hp->(List (V×V)->Hp->Prop)->Prop
 |[],_,H,Q=>Q [] H
 |(tk,tv)::r,σ,H,Q=>tk σ H fun x H1=>tv σ H1 fun y H2=>qn9 r σ H2 fun ps H3=>Q ((x,y)::ps) H3
abbrev VV:List (V×V)->List (Value×Value)->Prop:=Paired fun p q=>RelV p.1 q.1/\RelV p.2 q.2
def PPs(X:Cx)(pos:Pos)(keys:List (Option Expr))(values:List Expr)(trs:List (TE×TE)): Prop:=
 ∀ (pins:List (Addr×Obj)) (s:Shared) (σ:St) (H:Hp) (Q:List (V×V)->Hp->Prop),Inv X pins σ H s->qn9 trs σ H Q ->
   wpAny (model X.prog X.w) X.A (evalPairs (pairTrees keys values X.env pos)) (fun vs s'=>∃ ps H',Inv X pins σ H' s'/\VV ps vs/\Q ps H') X.xe s
theorem q5w{X:Cx}{pos:Pos}: PPs X pos [] [] []:=fun pins s σ H Q I h=>pairTrees_nil_walk ⟨[],H,I,.nil,h⟩
theorem q5v{X:Cx}{pos:Pos}{k v:Expr}{ks:List (Option Expr)}{vs:List Expr}{tk tv:TE}{trs:List (TE×TE)}(hk:PE X k tk)(hv:PE X v tv)(hr:PPs X pos ks vs trs):
  PPs X pos (some k::ks) (v::vs) ((tk,tv)::trs):=fun pins s σ H Q I h=>
 pairTrees_cons_walk (thn (hk pins s σ H _ I h) fun u s1 ⟨x,H1,I1,rx,q1⟩=>thn (hv pins s1 σ H1 _ I1 q1) fun w2 s2 ⟨y,H2,I2,ry,q2⟩=>
  thn (hr pins s2 σ H2 _ I2 q2) fun ws s3 ⟨ps,H3,I3,rel,q3⟩=>⟨(x,y)::ps,H3,I3,.cons ⟨rx,ry⟩ rel,q3⟩)
def qdj(kvs more:List (Key×V)): List (Key×V):=more.foldl (fun acc kv=>putK acc kv.1 kv.2) kvs
theorem KV.merge:∀ {more:List (Key×V)} {rs:List (Key×Value)} {kvs:List (Key×V)} {vs:List (Key×Value)},KV more rs->KV kvs vs->KV (qdj kvs more) (merged vs rs):=by
 intro more rs kvs vs r;unfold KV at r;induction r generalizing kvs vs with
 |nil=>intro q;exact q
 | @cons p q ps qs h t ih=>
   intro r0;have e:KV (putK kvs p.1 p.2) (stored vs q.1 q.2):=by
    have:=r0.put p.1 h.2;rw[<- h.1];exact this
   exact ih e
theorem qmp:∀ (more kvs:List (Key×V)),(qdj kvs more).length<=kvs.length+more.length
 |[],kvs=>by show kvs.length<=kvs.length+0;omega
 | p::r,kvs=>by
   have h1:=qmp r (putK kvs p.1 p.2);have h2:=qjn kvs p.1 p.2;show (qdj (putK kvs p.1 p.2) r).length<=_;rw[Jz];omega
theorem qpc{P:Program}{w:World}: ∀ {kvs:List (Key×V)} {ws:List (Value×Value)},VV (kvs.map fun kv=>(kV kv.1,kv.2)) ws->∃ rs,Carries (qao P w) ws rs/\KV kvs rs
 |[],_,r=>by rw[Zv] at r;cases r;exact⟨[],True.intro,.nil⟩
 | p::kvs,_,r=>by
   rw[Jq] at r;cases r with
   | @cons a b as bs h t=>
     obtain⟨rs,c,q⟩:=qpc (P:=P) (w:=w) t;obtain⟨b1,b2⟩:=b;exact⟨(p.1,b2)::rs,⟨qds h.1,rfl,c⟩,.cons ⟨rfl,h.2⟩ q⟩
def tDisp(trs:List (TE×TE)): TE:=fun σ H Q=>∀ p,H p=none->qn9 trs σ (upd H p (.dK [])) fun ps H2=>H2 p=some (.dK [])/\∃ kvs:List (Key×V),ps=kvs.map (fun kv=>(kV kv.1,kv.2))/\kvs.length<=15/\Q (.ref p) (upd H2 p (.dK (qdj [] kvs)))
theorem q5d{X:Cx}{pos:Pos}{keys:List (Option Expr)}{values:List Expr}{trs:List (TE×TE)}(h:PPs X pos keys values trs)(hall:keys.all (·.isSome)=true)(hl:keys.length=values.length)(h0:keys≠[])
  (h15:keys.length<=15): PE X (.Dict keys values pos) (tDisp trs):=by
 intro pins s σ H Q I q;have hn:=I.hok.fresh (Jp s.heap.objs.size);have I1:=I.laid (a:=s.heap.objs.size) (o:=.dK []) (h':=s.heap.push { cls:=.type "dict",data:=.dict #[] }) (t':=s.toks) (fun _ _ q=>Jb _ q) (Jp _) (qps s.heap I.big);refine wpAny_Dict_walk (knd:=qao X.prog X.w) hall hl h0 h15 (thn (h pins _ σ _ _ I1 (q _ hn)) fun ws s2 ⟨ps,H2,I2,rel,e,kvs,ep,lk,q2⟩=>?_);subst ep;obtain⟨rs,c,rk⟩:=qpc (P:=X.prog) (w:=X.w) rel;obtain⟨z,hd,vs0,r0,dd⟩:=qht I2.hok e;cases r0;refine⟨rs,c,dd,fun h' dd' hs=>⟨.ref s.heap.objs.size,_,?_,rfl,q2⟩⟩;have hz:(qdj [] kvs).length<=sizeLine:=by
  have h1:=qmp kvs [];rw[Y3] at h1;rw[sizeLine_eq];omega
 have he:∃ q,h'.get? s.heap.objs.size=some q:=let ⟨q,_,_,hq,_⟩:=dd';⟨q,hq⟩;exact qi9 I2 (by rw[e];exact True.intro) hs he (ql3 hz hd (rk.merge .nil) dd')
structure M1(X:Cx)(o:Expr)(m:Str)(apos:Pos)(e:Expr)(cpos:Pos): Prop where
 base:attributeBase o m X.env (eval o X.env)=eval o X.env
 few:((backTo cpos (starEach [e] X.env)).all (fun x=>!x.1)&&(backToKw cpos (keywordEach [] X.env)).all (fun x=>x.1.isSome)
  && decide (([e]:List Expr).length+([]:List Keyword).length+(if ([]:List Keyword).isEmpty then 0 else 1)<30))=true
 line:(apos.endLine==cpos.line)=true
 trees:backTo cpos (starEach [e] X.env)=[(false,eval e X.env)]
structure M2(X:Cx)(o:Expr)(m:Str)(apos:Pos)(e f:Expr)(cpos:Pos): Prop where
 base:attributeBase o m X.env (eval o X.env)=eval o X.env
 few:((backTo cpos (starEach [e,f] X.env)).all (fun x=>!x.1)&&(backToKw cpos (keywordEach [] X.env)).all (fun x=>x.1.isSome)
  && decide (([e,f]:List Expr).length+([]:List Keyword).length+(if ([]:List Keyword).isEmpty then 0 else 1)<30))=true
 line:(apos.endLine==cpos.line)=true
 trees:backTo cpos (starEach [e,f] X.env)=[(false,eval e X.env),(false,eval f X.env)]
def IsD(H:Hp)(a:Addr): Prop:=(∃ kvs,Rd H a (.dK kvs))\/∃ kvs,Rd H a (.dT kvs)
theorem qmi{X:Cx}{pins:List (Addr×Obj)}{σ:St}{H:Hp}{s:Shared}{a:Addr}(I:Inv X pins σ H s)(d:IsD H a):
  s.TypeIs (.ref a) "dict"/\(∀ b,Value.ref a = .ref b->∃ ob,s.heap.get? b=some ob/\ob.dict=none)/\(a==sysModules)=false:=by
 rcases d with ⟨kvs,e⟩|⟨kvs,e⟩
 ·obtain⟨_,hd,vs,_,dd⟩:=qeo I.hok e;refine⟨dd.typeIs,fun b q=>?_,hd⟩;cases q;obtain⟨ob,_,_,h1,h2,_⟩:=dd;exact⟨ob,h1,h2.2.1⟩
 ·obtain⟨_,hd,xs,_,dd⟩:=qe8 I.hok e;refine⟨dd.typeIs,fun b q=>?_,hd⟩;cases q;obtain⟨ob,_,_,h1,h2,_⟩:=dd;exact⟨ob,h1,h2.2.1⟩
section
variable {X:Cx} {pins:List (Addr×Obj)} {σ:St} {H:Hp} {s:Shared} {a:Addr} {y d:V} {u r:Value} {o:Option V} {A:Around} {E:Value->Shared->Prop}
theorem d_get1{Q:Value->Shared->Prop}(hu:A.units+1<cLine)(I:Inv X pins σ H s)(g:Qau H a y o)(ry:RelV y u)(h:∀ w' s',Inv X pins σ H s'->RelV (o.getD .non) w'->Q w' s'):
  wpAny (model X.prog X.w) A (call (.builtin "dict.get") [.ref a,u]) Q E s:=by
 rcases g with ⟨kvs,k,e,ey,l⟩|⟨kvs,k,b,e,ey,eb,l⟩
 ·subst ey;obtain⟨z,hd,vs,rel,dd⟩:=qeo I.hok e;refine Qt Zt dd.typeIs W0 (PySem.F.args_dict_get_2 _ _) (meets_dict_get (qao X.prog X.w) a (qds ry) hd) ⟨_,dd.mapOf,h _ _ (I.tok _) ?_⟩;rw[l];exact(rel.val k).getD rfl
 ·subst ey;cases (show u=Value.ref b from ry);obtain⟨z,hd,xs,rel,dd⟩:=qe8 I.hok e;refine Qt Zt dd.typeIs W0 (PySem.F.args_dict_get_2 _ _) (meetsH_dict_get (tupleKind (qao X.prog X.w)) a b hd) ⟨Z6 hu,k,xs,qfw I.hok eb,dd,h _ _ (I.tok _) ?_⟩;rw[l];exact(rel.val k).getD rfl
theorem d_get2{Q:Value->Shared->Prop}(hu:A.units+1<cLine)(I:Inv X pins σ H s)(g:Qau H a y o)(ry:RelV y u)(rd:RelV d r)(h:∀ w' s',Inv X pins σ H s'->RelV (o.getD d) w'->Q w' s'):
  wpAny (model X.prog X.w) A (call (.builtin "dict.get") [.ref a,u,r]) Q E s:=by
 rcases g with ⟨kvs,k,e,ey,l⟩|⟨kvs,k,b,e,ey,eb,l⟩
 ·subst ey;obtain⟨z,hd,vs,rel,dd⟩:=qeo I.hok e;refine Qt Zt dd.typeIs W0 (PySem.F.args_dict_get_3 _ _ _) (meets_dict_get_default (qao X.prog X.w) a (qds ry) hd r) ⟨_,dd.mapOf,h _ _ (I.tok _) ?_⟩;rw[l];exact(rel.val k).getD rd
 ·subst ey;cases (show u=Value.ref b from ry);obtain⟨z,hd,xs,rel,dd⟩:=qe8 I.hok e;refine Qt Zt dd.typeIs W0 (PySem.F.args_dict_get_3 _ _ _) (meetsH_dict_get_default (tupleKind (qao X.prog X.w)) a b hd r) ⟨Z6 hu,k,xs,qfw I.hok eb,dd,h _ _ (I.tok _) ?_⟩;rw[l];exact(rel.val k).getD rd
end
def qvq(td ty:TE): TE:=fun σ H Q=>td σ H fun x H1=>∃ a,x = .ref a/\IsD H1 a/\ty σ H1 fun y H2=>∃ o,Qau H2 a y o/\Q (o.getD .non) H2
def qn8(td ty tx:TE): TE:=fun σ H Q=>td σ H fun x H1=>∃ a,x = .ref a/\IsD H1 a/\ty σ H1 fun y H2=>tx σ H2 fun z H3=>∃ o,Qau H3 a y o/\Q (o.getD z) H3
section
variable {X:Cx} {o e f:Expr} {apos cpos:Pos} {td ty tx:TE}
theorem q5b(hu:X.A.units+1<cLine)(ho:PE X o td)(he:PE X e ty)(m:M1 X o "get" apos e cpos): PE X (.Call (.Attribute o "get" apos) [e] [] cpos) (qvq td ty):=by
 intro pins s σ H Q I h;refine U6 m.base m.few m.line Uy Zt PySem.F.type_dict_get (thn (ho pins s σ H _ I h) fun u s1 ⟨x,H1,I1,rx,a,ex,d,q1⟩=>?_);subst ex;obtain rfl:u=Value.ref a:=rx;obtain⟨t1,t2,_⟩:=qmi I1 d;refine⟨t1,t2,?_⟩;rw[m.trees];refine Wy rfl (W7 (Zc (thn (he pins s1 σ H1 _ I1 q1) fun iv s2 ⟨y,H2,I2,ry,ov,g,q2⟩=>Wc ?_)));exact d_get1 hu I2 g ry fun w' s3 I3 rw'=>⟨_,H2,I3,rw',q2⟩
theorem qjw(hu:X.A.units+1<cLine)(ho:PE X o td)(he:PE X e ty)(hf:PE X f tx)(m:M2 X o "get" apos e f cpos): PE X (.Call (.Attribute o "get" apos) [e,f] [] cpos) (qn8 td ty tx):=by
 intro pins s σ H Q I h;refine U6 m.base m.few m.line Uy Zt PySem.F.type_dict_get (thn (ho pins s σ H _ I h) fun u s1 ⟨x,H1,I1,rx,a,ex,d,q1⟩=>?_);subst ex;obtain rfl:u=Value.ref a:=rx;obtain⟨t1,t2,_⟩:=qmi I1 d;refine⟨t1,t2,?_⟩;rw[m.trees];refine Wy rfl (W7 (Zc (thn (he pins s1 σ H1 _ I1 q1) fun iv s2 ⟨y,H2,I2,ry,q2⟩=>
  Zc (thn (hf pins s2 σ H2 _ I2 q2) fun fv s3 ⟨z,H3,I3,rz,ov,g,q3⟩=>Wc ?_))))
 exact d_get2 hu I3 g ry rz fun w' s4 I4 rw'=>⟨_,H3,I4,rw',q3⟩
end
theorem qv4:entryFor table "dict.update.loop" = some Builtin.«dict.update.loop»:=entryFor_of_tree (by kernel_rfl)
theorem qit:plainId "dict.update.loop" = true:=by decide +kernel
section
variable {X:Cx} {pins:List (Addr×Obj)} {σ:St} {H:Hp} {s:Shared} {h':Heap}
theorem Inv.zaj{t':Nat}{ch:List Addr}(I:Inv X pins σ H s)(k:∀ b o,b∉ch->s.heap.get? b=some o->h'.get? b=some o)(hf:∀ b∈ch,Qc9 X pins H b): Inv X pins σ H { s with heap:=h',toks:=t' }:=by
 have nit:∀ b u,H b=some u->b∉ch:=fun b u e z=>by
  have q:=(hf b z).1;rw[q] at e;cases e
 refine I.step (g':=s.gens) (d':=s.drawn) (ch:=ch) (fun b hb=>⟨(hf b hb).2.2.2.1,(hf b hb).2.1,(hf b hb).2.2.2.2.1,(hf b hb).2.2.2.2.2⟩) (fun b o _ _ hc e _=>k b o hc e) (fun b o _ _ hc e _=>⟨o.slots,k b o hc e⟩)
  (fun _ _ _ _ n=>n) (fun b o hc e=>⟨o,k b o hc e⟩) (fun _ _ e=>e) (fun _ _ _ e=>e) (fun b ps e=>⟨#[],by rw[e];simp⟩) (fun m hm=>?_) (fun b u e=>?_) I.bare
 ·obtain⟨o,es,ep,ho,r⟩:=hm;exact⟨o,es,ep,k _ o (fun z=>(hf _ z).2.1 rfl) ho,r⟩
 ·refine(I.hok b u e).stay (fun c v hc q=>k c v ?_ q) (fun _ q=>q) fun _ _ q=>q;rcases hc with z|z
  ·rw[z];exact nit b u e
  ·exact nit c _ z
theorem Inv.qko{t':Nat}{ch:List Addr}{T:Addr}{ob:HO}(I:Inv X pins σ H s)(k:∀ b o,b∉ch->s.heap.get? b=some o->h'.get? b=some o)(hf:∀ b∈ch,Qc9 X pins H b)(hT:s.heap.objs.size<=T)
  (new:Qaw X.prog X.w (upd H T ob) h' T ob): Inv X pins σ (upd H T ob) { s with heap:=h',toks:=t' }:=by
 have hn:H T=none:=I.hok.fresh hT;have nit:∀ b u,H b=some u->b∉ch:=fun b u e z=>by
  have q:=(hf b z).1;rw[q] at e;cases e
 refine I.step (g':=s.gens) (d':=s.drawn) (ch:=ch) (fun b hb=>⟨(hf b hb).2.2.2.1,(hf b hb).2.1,(hf b hb).2.2.2.2.1,(hf b hb).2.2.2.2.2⟩) (fun b o _ _ hc e _=>k b o hc e) (fun b o _ _ hc e _=>⟨o.slots,k b o hc e⟩)
  (fun b o _ e n=>?_) (fun b o hc e=>⟨o,k b o hc e⟩) (fun b xs e=>?_) (fun b o u e=>?_) (fun b ps e=>⟨#[],?_⟩) (fun m hm=>?_) (fun b u e=>?_) I.bare
 ·rw[qc (Xl (Xk (Jl e) hT))];exact n
 ·rw[qc (vz e hn)];exact e
 ·rw[qc (vz e hn)];exact e
 ·rw[qc (vz e hn),e];simp
 ·obtain⟨o,es,ep,ho,r⟩:=hm;exact⟨o,es,ep,k _ o (fun z=>(hf _ z).2.1 rfl) ho,r⟩
 ·by_cases hb:b=T
  ·subst hb;rw[kq] at e;cases e;exact new
  ·rw[qc hb] at e;refine(I.hok b u e).stay (fun c v hc q=>k c v ?_ q) (fun c q=>by rw[qc (vz q hn)];exact q) fun c xs q=>by rw[qc (vz q hn)];exact q
   rcases hc with z|z
   ·rw[z];exact nit b u e
   ·exact nit c _ z
theorem Inv.lock{d:Addr}{u:HO}(I:Inv X pins σ H s)(h:H d=some u)(mu:Mut (some u)): ∃ od,Inv X pins σ (upd H d (.frz od u)) s:=by
 have x:=I.hok d u h;have ex:∃ od,s.heap.get? d=some od:=by
  cases u with
  |lst xs=>obtain⟨_,_,_,_,e⟩:=x;exact⟨_,e⟩
  |dK kvs=>obtain⟨_,_,_,_,o,_,_,e,_⟩:=x;exact⟨o,e⟩
  |dT kvs=>obtain⟨_,_,_,_,o,_,_,e,_⟩:=x;exact⟨o,e⟩
  |set S n=>obtain⟨o,_,_,_,e,_⟩:=x;exact⟨o,e⟩
  |ins C dx fs=>obtain⟨_,_,_,e,_⟩:=x;exact⟨_,e⟩
  |ext φ=>obtain⟨_,⟨_,e⟩,_⟩:=x;exact⟨_,e⟩
  |_=>exact False.elim mu
 obtain⟨od,e⟩:=ex;have new:Qaw X.prog X.w (upd H d (.frz od u)) s.heap d (.frz od u):=by
  refine⟨e,x.stay (fun b v _ q=>q) (fun b q=>?_) fun b xs q=>?_⟩
  ·rw[qc (fun z=>by rw[z,h] at q;cases q;exact mu)];exact q
  ·rw[qc (fun z=>by rw[z,h] at q;cases q;exact mu)];exact q
 exact⟨od,I.write (x:=d) (e:=d) (t':=s.toks) (h':=s.heap) (by rw[h];exact mu) (.inl rfl) (fun b v _ q=>q) ⟨od,e⟩ new⟩
theorem Inv.nofrz{d:Addr}{u:HO}(I:Inv X pins σ H s)(h:H d=some u)(mu:Mut (some u)): ∀ o' u',X.H_0 d≠some (.frz o' u'):=fun o' u' e=>by
 have q:=I.base.qdr d o' u' e;rw[h] at q;cases q;exact mu
theorem Inv.unlock{d:Addr}{od:Obj}{u:HO}(I:Inv X pins σ H s)(h:H d=some (.frz od u))(hn:∀ o' u',X.H_0 d≠some (.frz o' u')): Inv X pins σ (upd H d u) s:=by
 have neH:∀ b o,H b=some o->(∀ o' u',o≠.frz o' u')->b≠d:=fun b o e hne z=>by
  rw[z,h] at e;cases e;exact hne _ _ rfl
 have neN:∀ b,H b=none->b≠d:=fun b e z=>by rw[z,h] at e;cases e
 refine⟨I.ok,I.os,I.bare,⟨I.base.keep,I.base.slot,fun b o e n hx=>?_,I.base.there,fun b xs e=>?_,fun b o x e=>?_,fun b ps e=>?_⟩,I.loc,I.cell,?_,fun x c e=>?_,fun p hp=>?_,fun b o e=>?_,I.len⟩
 ·rw[qc (neN b (I.base.free b o e n hx))];exact I.base.free b o e n hx
 ·have q:=I.base.tups b xs e;rw[qc (neH b _ q (fun _ _ z=>nomatch z))];exact q
 ·have q:=I.base.qdr b o x e;rw[qc (fun z=>by rw[z] at e;exact hn _ _ e)];exact q
 ·obtain⟨m,q⟩:=I.base.qe5 b ps e;exact⟨m,by rw[qc (neH b _ q (fun _ _ z=>nomatch z))];exact q⟩
 ·rw[qc (neN _ I.free)];exact I.free
 ·rw[qc (neN c (I.qc0 x c e))];exact I.qc0 x c e
 ·obtain⟨e,n,r⟩:=I.pin p hp;exact⟨e,by rw[qc (neN _ n)];exact n,r⟩
 ·by_cases hb:b=d
  ·rw[hb,kq] at e;cases e;rw[hb];obtain⟨_,x⟩:=I.hok d _ h;exact x.stay (fun c v _ q=>q) (fun c q=>by rw[qc (neH c _ q (fun _ _ z=>nomatch z))];exact q) fun c xs q=>by rw[qc (neH c _ q (fun _ _ z=>nomatch z))];exact q
  ·rw[qc hb] at e;exact(I.hok b o e).stay (fun c v _ q=>q) (fun c q=>by rw[qc (neH c _ q (fun _ _ z=>nomatch z))];exact q) fun c xs q=>by rw[qc (neH c _ q (fun _ _ z=>nomatch z))];exact q
end
def tLockE(t:TE): TE:=fun σ H Q=>∃ d u,H d=some u/\Mut (some u)/\∀ od,t σ (upd H d (.frz od u)) fun v H'=>H' d=some (.frz od u)/\Q v (upd H' d u)
section
variable {X:Cx}
theorem qm7{e:Expr}{t:TE}(h:PE X e t): PE X e (tLockE t):=by
 intro pins s σ H Q I hw;obtain⟨d,u,hd,mu,hw⟩:=hw;obtain⟨od,I1⟩:=I.lock hd mu;refine thn (h pins s σ _ _ I1 (hw od)) fun v s1 ⟨x,H1,I2,r,e2,q⟩=>?_;exact⟨x,_,I2.unlock e2 (I.nofrz hd mu),r,q⟩
theorem qnb{tg:Expr}{pins:List (Addr×Obj)}{σ:St}{H:Hp}{s:Shared}{R:It->Hp->Prop}{J:It}{tn:Nat->Heap->Prop}{tk:Nat}(I:Inv X pins σ H s)(o:Obj)
  (T:Turn X.prog X.w X.K tg J [s.heap.objs.size] s.heap.objs.size tn)(st:tn 0 (s.heap.push o))(q:R J H): PIE X pins σ tg R (.ref s.heap.objs.size) { s with heap:=s.heap.push o,toks:=tk }:=by
 refine⟨s.heap.objs.size,[s.heap.objs.size],tn,J,H,rfl,I.kept fun b ob e=>Jb _ e,T,st,fun b hb=>?_,q⟩;have e:b=s.heap.objs.size:=by simpa using hb
 subst e;exact I.qfa (Jp _) (I.hok.fresh (Jp _))
end
section
variable {prog:Program} {w:World} {A:Around} {E:Value->Shared->Prop} {s:Shared}
theorem qqt{d:Addr}{o:Obj}{es:Array DictEntry}{ep:Nat}{Q:Value->Shared->Prop}(hd:(d==sysModules)=false)(ho:s.heap.get? d=some o)(hc:o.ExactDict)(hdat:o.data = .dict es ep)
  (hQ:Q (.ref s.heap.objs.size) { s with heap:=s.heap.push { cls:=.type "dict_keyiterator",data:=.fields #[.ref d,.int 0 0,.int es.size 0,.int ep 0] } }):
  wpAny (model prog w) A (pyIter (.ref d)) Q E s:=by
 have hT:s.TypeIs (.ref d) "dict":=⟨o,ho,hc.1⟩
 refine U7 hT F.slot_dict_iter (X5 F.slot_dict_iter hT F.entry_dict_iter ?_ (F.args_dict_iter_1 _));unfold Builtin.«dict.__iter__»;refine Ja ?_;unfold Builtin.Dict.dictSlotNone;refine Ja (wpAny_notOrdered_dict hT ?_);show wpAny _ _ (pure (Value.ref d)) _ _ s;refine Jg ?_;show wpAny _ _ (Builtin.Dict.showsAll d >>= _) _ _ s;unfold Builtin.Dict.showsAll;rw[Jc (by rw[hd];exact Jr)];refine Ja (Jg ?_);refine Ja (U8 ho hdat ?_);refine Ja (wpAny_dictEpoch ho hdat ?_);refine Ja (We (Jg ⟨_,rfl,"dict_keyiterator",_,⟨_,Js _ rfl,rfl⟩,Yz.lookup,?_⟩));simpa[rawInt] using hQ
theorem q4y{it d:Addr}{i n ep:Nat}{od:Obj}{es:Array DictEntry}{en:DictEntry}{Q:Option Value->Shared->Prop}(hit:s.heap.IsKeyIter it d i n ep)(hod:s.heap.get? d=some od)(hdd:od.data = .dict es ep)
  (hsz:es.size=n)(hx:es[i]?=some en)(hQ:∀ h',h'.IsKeyIter it d (i+1) n ep->Heap.SameBut it s.heap h'->Q (some en.key) { s with heap:=h' }): wpAny (model prog w) A (pyNext (.ref it)) Q E s:=by
 obtain⟨o,ho,hc,hd⟩:=id hit;unfold pyNext;refine Ja (Ws (X7 (name:=Str.ofString "__next__") hit.typeIs Yz
  (X5 Yz hit.typeIs F.entry_dict_keyiterator_next ?_ (F.args_dict_keyiterator_next_1 _))))
 refine Ja (Jg ?_);refine Ja ?_;refine Ja ?_;first|refine Ja (Z1 hit.typeIs (Jg ?_))|refine Ja (Wj hit.typeIs (Jg ?_))
 refine Ja (wpAny_fieldsOf ho hd ?_);have hown:Builtin.Dict_items.ownsTuple "dict_keyiterator" = false:=by decide
 simp only[hown,Xr,X9];show wpAny _ _ (if (Value.ref d==Value.none)=true then _ else _) _ _ s;rw[Jc (show ¬ ((Value.ref d==Value.none)=true) from Jr)];refine Ja (Jg ?_);refine Ja (U8 hod hdd ?_);rw[Jc (by rw[hsz];simp)];refine Ja (Jg ?_);refine Ja (wpAny_dictEpoch hod hdd ?_);rw[Jc (by simp)];refine Jg ?_;obtain⟨hlt',hen⟩:=Yp.mp hx;simp only[show ¬ ((i:Int)<0) from by omega,X9,J1,Y8 hlt'];refine Ja ?_;first|refine Ja (Z1 hit.typeIs (Jg ?_))|refine Ja (Wj hit.typeIs (Jg ?_))
 refine Ja (wpAny_isOneOf_keyiter hit.typeIs ?_);show wpAny _ _ (setField (.ref it) 1 (rawInt ((i:Int)+1)) >>= _) _ _ s;refine Ja (wpAny_setField ho hd (by simp) ?_);have qfc:(s.heap.update it (Obj.mapFields (·.setIfInBounds 1 (rawInt ((i:Int)+1))))).IsKeyIter it d (i+1) n ep:=
  ⟨_,Yy _ ho (Obj.isFreed_of_fields (Ut hd _)),(Obj.cls_mapFields ..).trans hc,by rw[Ut hd];simp[rawInt]⟩
 refine Ja (Xi ?_);refine Ja (wpAny_isOneOf_keyiter (s:={ s with heap:=s.heap.update it (Obj.mapFields (·.setIfInBounds 1 (rawInt ((i:Int)+1)))) }) qfc.typeIs ?_);show wpAny _ _ (pure es[i].key) _ _ _;rw[hen];exact Jg (Jg ⟨_,rfl,Jg (hQ _ qfc (Wr ..))⟩)
theorem qrp{it d:Addr}{i n ep:Nat}{od:Obj}{es:Array DictEntry}{Q:Option Value->Shared->Prop}(hh:A.handled=none)(hit:s.heap.IsKeyIter it d i n ep)(hod:s.heap.get? d=some od)(hdd:od.data = .dict es ep)
  (hsz:es.size=n)(hge:n<=i)(hQ:∀ h',Heap.ExtBut it s.heap h'->Q none { s with heap:=h' }): wpAny (model prog w) A (pyNext (.ref it)) Q E s:=by
 obtain⟨o,ho,hc,hd⟩:=id hit;unfold pyNext;refine Ja (Ws (X7 (name:=Str.ofString "__next__") hit.typeIs Yz
  (X5 Yz hit.typeIs F.entry_dict_keyiterator_next ?_ (F.args_dict_keyiterator_next_1 _))))
 refine Ja (Jg ?_);refine Ja ?_;refine Ja ?_;first|refine Ja (Z1 hit.typeIs (Jg ?_))|refine Ja (Wj hit.typeIs (Jg ?_))
 refine Ja (wpAny_fieldsOf ho hd ?_);have hown:Builtin.Dict_items.ownsTuple "dict_keyiterator" = false:=by decide
 simp only[hown,Xr,X9];show wpAny _ _ (if (Value.ref d==Value.none)=true then _ else _) _ _ s;rw[Jc (show ¬ ((Value.ref d==Value.none)=true) from Jr)];refine Ja (Jg ?_);refine Ja (U8 hod hdd ?_);rw[Jc (by rw[hsz];simp)];refine Ja (Jg ?_);refine Ja (wpAny_dictEpoch hod hdd ?_);rw[Jc (by simp)];refine Jg ?_;have hge':es.size<=i:=by rw[hsz];exact hge
 simp only[show ¬ ((i:Int)<0) from by omega,X9,J1,Array.getElem?_eq_none hge'];refine Ja ?_;first|refine Ja (Z1 hit.typeIs (Jg ?_))|refine Ja (Wj hit.typeIs (Jg ?_))
 show wpAny _ _ (setField (.ref it) 0 .none >>= _) _ _ s;refine Ja (wpAny_setField ho hd (by simp) ?_);show wpAny _ _ (newExc (.type "StopIteration") [] >>= _) _ _ _;refine Ja ?_;simp only[newExc,newTuple];refine Ja (We ?_ (by size_fits));refine Ja (m:=firstArgMember _ _) (wpAny_of_eq (a:=Value.none) (by first|rfl|(simp only[firstArgMember];rfl)) ?_);refine We ?_ (by size_fits);simp only[raiseNew];refine Ja (wpAny_handled ?_);rw[show A.in1.handled=none from hh];refine Ja (Jg (wpAny_throw ?_));refine Ja (Qh (T:= "StopIteration") (b:=true) ⟨_,Js _ rfl,rfl⟩ isSubtype_stop ?_);exact Jg (hQ _ (((Wr ..).extBut.push _).push _))
end
theorem qq2{κ:Type}{kvs:List (κ×V)}{vs:List (κ×Value)}(h:KV kvs vs): ∀ {i:Nat} {k:κ} {v:V},kvs[i]?=some (k,v)->∃ u,vs[i]?=some (k,u)/\RelV v u:=by
 unfold KV at h;induction h with
 |nil=>intro i k v e;simp at e
 | @cons a b l₁ l₂ r t ih=>
   intro i k v e;cases i with
   | zero=>
     simp only[Uz,Option.some.injEq] at e;subst e;refine⟨b.2,?_,r.2⟩;simp only[Uz];exact Yk some (Prod.ext r.1.symm rfl)
   | succ j=>
     simp only[U0] at e ⊢;exact ih e
theorem q45{α β:Type}{G:α->β->Prop}{l₁:List α}{l₂:List β}(h:Paired G l₁ l₂): ∀ {i:Nat} {a:α},l₁[i]?=some a->∃ b,l₂[i]?=some b/\G a b:=by
 induction h with
 |nil=>intro i a e;simp at e
 | @cons a b l₁ l₂ r t ih=>
   intro i a' e;cases i with
   | zero=>
     simp only[Uz,Option.some.injEq] at e;subst e;exact⟨b,rfl,r⟩
   | succ j=>
     simp only[U0] at e ⊢;exact ih e
theorem qsn{k:Key}{u:Value}(h:qbr k u=true): RelV (kV k) u:=by
 rcases qd8 h with ⟨i,t,rfl,rfl⟩|⟨x,t,rfl,rfl⟩
 ·exact⟨t,rfl⟩
 ·exact⟨t,rfl⟩
section
variable {X:Cx} {pins:List (Addr×Obj)} {σ:St} {H:Hp} {s:Shared} {d:Addr} {o:Obj}
theorem Inv.qgj{kvs:List (Key×V)}(I:Inv X pins σ H s)(h:H d=some (.frz o (.dK kvs))):
  (d==sysModules)=false/\s.heap.get? d=some o/\o.ExactDict/\∃ (es:Array DictEntry) (ep:Nat) (vs:List (Key×Value)),o.data = .dict es ep/\es.size=kvs.length/\KV kvs vs/\s.heap.DictAt (qao X.prog X.w) d vs ep:=by
 obtain⟨hd,z,hs,vs,kv,o',es,ep,ho,hx,hdt,r⟩:=I.hok d _ h;rw[hd] at ho;cases ho;refine⟨hs,hd,hx,es,ep,vs,hdt,?_,kv,o,es,hd,hx,hdt,r⟩;have l1:=r.2.1.length;have l2:kvs.length=vs.length:=Zr kv;rw[Ud] at l1;omega
theorem Inv.frzT{kvs:List (List Key×V)}(I:Inv X pins σ H s)(h:H d=some (.frz o (.dT kvs))):
  (d==sysModules)=false/\s.heap.get? d=some o/\o.ExactDict/\∃ (es:Array DictEntry) (ep:Nat),o.data = .dict es ep/\es.size=kvs.length /\
   ∀ (i:Nat) (k:List Key) (v:V),kvs[i]?=some (k,v)->∃ (en:DictEntry) (q:Addr),es[i]?=some en/\en.key = .ref q/\H q=some (.tup (k.map kV)):=by
 obtain⟨hd,z,hs,xs,pr,o',es,ep,ho,hx,hdt,he,_⟩:=I.hok d _ h;rw[hd] at ho;cases ho;refine⟨hs,hd,hx,es,ep,hdt,?_,fun i k v e=>?_⟩
 ·have l1:es.size=xs.length:=size_of_entries he;have l2:kvs.length=xs.length:=Zr pr;omega
 ·obtain⟨b,hb,e1,e2,_⟩:=q45 pr e;have q:=entry_at he i;rw[hb] at q;exact⟨_,b.2.1,q,rfl,e2⟩
end
def Itk(d:Addr)(o:Obj)(kvs:List (Key×V)): It:=
 ⟨fun i H=>H d=some (.frz o (.dK kvs))/\i<kvs.length,fun i H x H'=>H'=H/\∃ k v,kvs[i]?=some (k,v)/\x=kV k,fun i H=>H d=some (.frz o (.dK kvs))/\kvs.length<=i⟩
def Itkt(d:Addr)(o:Obj)(kvs:List (List Key×V)): It:=
 ⟨fun i H=>H d=some (.frz o (.dT kvs))/\i<kvs.length,fun i H x H'=>H'=H/\∃ (k:List Key) (v:V) (q:Addr),kvs[i]?=some (k,v)/\x = .ref q/\H q=some (.tup (k.map kV)),fun i H=>H d=some (.frz o (.dT kvs))/\kvs.length<=i⟩
def Iti(d:Addr)(o:Obj)(kvs:List (Key×V)): It:=
 ⟨fun i H=>H d=some (.frz o (.dK kvs))/\i<kvs.length,fun i H x H'=>∃ T k v,kvs[i]?=some (k,v)/\x = .ref T/\H T=none/\H'=upd H T (.tup [kV k,v]),fun i H=>H d=some (.frz o (.dK kvs))/\kvs.length<=i⟩
theorem qgf{o:Obj}{es es':Array DictEntry}{ep ep':Nat}(h:o.data = .dict es ep)(h':o.data = .dict es' ep'): es'=es/\ep'=ep:=by
 rw[h] at h';cases h';exact⟨rfl,rfl⟩
section
variable {P:Program} {w:World} {K:PySem.W.Frag} {tg:Expr} {d:Addr} {o:Obj} {es:Array DictEntry} {ep:Nat}
theorem zad{kvs:List (Key×V)}(it:Addr)(hod:o.data = .dict es ep): Turn P w K tg (Itk d o kvs) [it] it (fun i h=>h.IsKeyIter it d i kvs.length ep) where
 mem:=by simp
 obj:=fun i h st b hb=>by
  have e:b=it:=by simpa using hb
  subst e;obtain⟨oi,e,c,dd⟩:=st;exact⟨oi,e,fun v z=>by rw[dd] at z;cases z⟩
 keep:=fun i h h' st k=>st.at fun oi e=>k it (by simp) oi e
 item:=by
  intro X hP hw hK hc i pins s σ H E I hf st hg;subst hP hw hK;obtain⟨hd,hi⟩:=hg;obtain⟨f0,f1,f2,f3,f4,f5⟩:=hf it (by simp);obtain⟨hs,hgd,hx,es',ep',vs,hdt,hsz,kv,hm⟩:=I.qgj hd;obtain⟨rfl,rfl⟩:=qgf hod hdt;obtain⟨⟨k,v⟩,hkv⟩:∃ p,kvs[i]?=some p:=⟨kvs[i],Jo hi⟩
  obtain⟨u,hu,ru⟩:=qq2 kv hkv;have hl:kvs.length=vs.length:=Zr kv;rw[hl] at st;refine wpAny_pyNext_dict_item st hm hu fun key h' hkey st' sb=>?_;have I1:Inv X pins σ H { s with heap:=h' }:=I.turned (t':=s.toks) (fun b ob hb e=>(sb.2 b hb).trans e) f0 f1 f3 f4 f5;obtain⟨oi,e,c,dd⟩:=id st';refine⟨key,rfl,qhx (s:={ s with heap:=h' }) e c dd (by decide) ⟨kV k,H,I1,qsn (show qbr k key=true from hkey),⟨rfl,k,v,hkv,rfl⟩,?_,fun b hb=>(hf b hb).1⟩⟩;show h'.IsKeyIter it d (i+1) kvs.length _;rw[hl];exact st'
 done:=by
  intro X hP hw hK hc i pins s σ H E I hf st hg;subst hP hw hK;obtain⟨hd,hi⟩:=hg;obtain⟨f0,f1,f2,f3,f4,f5⟩:=hf it (by simp);obtain⟨hs,hgd,hx,es',ep',vs,hdt,hsz,kv,hm⟩:=I.qgj hd;obtain⟨rfl,rfl⟩:=qgf hod hdt;exact qrp (I.ok.hd hc) st hgd hdt hsz hi fun h' eb=>⟨rfl,I.turned (t':=s.toks) (fun b ob hb e=>eb b ob hb e) f0 f1 f3 f4 f5⟩
 self:=fun A i s Q E st h=>wpAny_pyIter_keyiter st h
theorem zae{kvs:List (List Key×V)}(it:Addr)(hod:o.data = .dict es ep): Turn P w K tg (Itkt d o kvs) [it] it (fun i h=>h.IsKeyIter it d i kvs.length ep) where
 mem:=by simp
 obj:=fun i h st b hb=>by
  have e:b=it:=by simpa using hb
  subst e;obtain⟨oi,e,c,dd⟩:=st;exact⟨oi,e,fun v z=>by rw[dd] at z;cases z⟩
 keep:=fun i h h' st k=>st.at fun oi e=>k it (by simp) oi e
 item:=by
  intro X hP hw hK hc i pins s σ H E I hf st hg;subst hP hw hK;obtain⟨hd,hi⟩:=hg;obtain⟨f0,f1,f2,f3,f4,f5⟩:=hf it (by simp);obtain⟨hs,hgd,hx,es',ep',hdt,hsz,ent⟩:=I.frzT hd;obtain⟨rfl,rfl⟩:=qgf hod hdt;obtain⟨⟨k,v⟩,hkv⟩:∃ p,kvs[i]?=some p:=⟨kvs[i],Jo hi⟩
  obtain⟨en,q,hen,hkey,hq⟩:=ent i k v hkv;refine q4y st hgd hdt hsz hen fun h' st' sb=>?_;have I1:Inv X pins σ H { s with heap:=h' }:=I.turned (t':=s.toks) (fun b ob hb e=>(sb.2 b hb).trans e) f0 f1 f3 f4 f5;obtain⟨oi,e,c,dd⟩:=id st';exact⟨en.key,rfl,qhx (s:={ s with heap:=h' }) e c dd (by decide) ⟨.ref q,H,I1,hkey,⟨rfl,k,v,q,hkv,rfl,hq⟩,st',fun b hb=>(hf b hb).1⟩⟩
 done:=by
  intro X hP hw hK hc i pins s σ H E I hf st hg;subst hP hw hK;obtain⟨hd,hi⟩:=hg;obtain⟨f0,f1,f2,f3,f4,f5⟩:=hf it (by simp);obtain⟨hs,hgd,hx,es',ep',hdt,hsz,ent⟩:=I.frzT hd;obtain⟨rfl,rfl⟩:=qgf hod hdt;exact qrp (I.ok.hd hc) st hgd hdt hsz hi fun h' eb=>⟨rfl,I.turned (t':=s.toks) (fun b ob hb e=>eb b ob hb e) f0 f1 f3 f4 f5⟩
 self:=fun A i s Q E st h=>by
  refine U7 st.typeIs F.slot_dict_keyiterator_iter (X5 F.slot_dict_keyiterator_iter st.typeIs F.entry_dict_keyiterator_iter ?_ (F.args_dict_keyiterator_iter_1 _));show wpAny _ _ (ret (.ref it)) _ _ s;exact Jg ⟨_,rfl,"dict_keyiterator",_,st.typeIs,Yz.lookup,h⟩
theorem zac{kvs:List (Key×V)}{elts:List Expr}{kk:Nat}{tpos:Pos}(it:Addr)(hod:o.data = .dict es ep):
  Turn P w K (.Tuple elts kk tpos) (Iti d o kvs) [it] it (fun i h=>∃ ok ov,IsItemIter h it d i kvs.length ep ok ov) where
 mem:=by simp
 obj:=fun i h st b hb=>by
  have e:b=it:=by simpa using hb
  subst e;obtain⟨ok,ov,e⟩:=st;exact⟨_,e,fun v z=>nomatch z⟩
 keep:=fun i h h' st k=>let ⟨ok,ov,e⟩:=st;⟨ok,ov,k it (by simp) _ e⟩
 item:=by
  intro X hP hw hK hc i pins s σ H E I hf st hg;subst hP hw hK;obtain⟨hd,hi⟩:=hg;obtain⟨hs,hgd,hx,es',ep',vs,hdt,hsz,kv,hm⟩:=I.qgj hd;obtain⟨rfl,rfl⟩:=qgf hod hdt;obtain⟨⟨k,v⟩,hkv⟩:∃ p,kvs[i]?=some p:=⟨kvs[i],Jo hi⟩
  obtain⟨u,hu,ru⟩:=qq2 kv hkv;have hl:kvs.length=vs.length:=Zr kv;obtain⟨ok,ov,he⟩:=st;rw[hl] at he;have hlt:it<s.heap.objs.size:=Jl he;refine wpAny_pyNext_items_item he hm hu fun key h' hkey ho hT hz hk=>?_;refine⟨_,rfl,wpAny_letOwnedTupleGo_items (s:={ s with heap:=h' }) ho fun h'' he' sb=>?_⟩;have hT2:h''.get? s.heap.objs.size=some { cls:=.type "tuple",data:=.seq #[key,u] }:=(sb.2 _ (J5 hlt)).trans hT;have new:Qaw X.prog X.w (upd H s.heap.objs.size (.tup [kV k,v])) h'' s.heap.objs.size (.tup [kV k,v]):=
   ⟨by show 2<=sizeLine;decide,[key,u],.cons (qsn (show qbr k key=true from hkey)) (.cons ru .nil),⟨_,hT2,rfl,_,rfl⟩⟩
  have I1:Inv X pins σ (upd H s.heap.objs.size (.tup [kV k,v])) { s with heap:=h'' }:=
   I.qko (t':=s.toks) (ch:=[it]) (fun b ob hb e=>(sb.2 b (by simpa using hb)).trans (hk b ob (by simpa using hb) e)) hf (Jp _) new
  refine⟨.ref s.heap.objs.size,_,I1,rfl,⟨_,k,v,hkv,rfl,I.hok.fresh (Jp _),rfl⟩,⟨key,u,?_⟩,fun b hb=>?_⟩
  ·rw[hl];exact he'
  ·have e:b=it:=by simpa using hb
   rw[e,qc (Xl hlt)];exact(hf it (by simp)).1
 done:=by
  intro X hP hw hK hc i pins s σ H E I hf st hg;subst hP hw hK;obtain⟨hd,hi⟩:=hg;obtain⟨f0,f1,f2,f3,f4,f5⟩:=hf it (by simp);obtain⟨hs,hgd,hx,es',ep',vs,hdt,hsz,kv,hm⟩:=I.qgj hd;obtain⟨rfl,rfl⟩:=qgf hod hdt;have hl:kvs.length=vs.length:=Zr kv;obtain⟨ok,ov,he⟩:=st;rw[hl] at he;exact wpAny_pyNext_items_end (I.ok.hd hc) he hm (Yn (by omega)) fun h' eb=>⟨rfl,I.turned (t':=s.toks) (fun b ob hb e=>eb b ob hb e) f0 f1 f3 f4 f5⟩
 self:=fun A i s Q E st h=>let ⟨_,_,e⟩:=st;PySem.W.kcp_self e h
end
def iKeys(td:TE): TI:=fun σ H R=>td σ H fun x H1=>∃ d o,x = .ref d/\((∃ kvs,H1 d=some (.frz o (.dK kvs))/\R (Itk d o kvs) H1)\/∃ kvs,H1 d=some (.frz o (.dT kvs))/\R (Itkt d o kvs) H1)
def qqh(td:TE): TI:=fun σ H R=>td σ H fun x H1=>∃ d o kvs,x = .ref d/\H1 d=some (.frz o (.dK kvs))/\R (Iti d o kvs) H1
section
variable {X:Cx} {tg e:Expr} {td:TE} {apos cpos:Pos}
theorem qr4(he:PE X e td): PI X tg e (iKeys td):=by
 intro pins s σ H R I h;refine thn (he pins s σ H _ I h) fun u s1 ⟨x,H1,I1,rx,d,o,ex,q⟩=>?_;subst ex;obtain rfl:u=Value.ref d:=rx;rcases q with ⟨kvs,hd,q⟩|⟨kvs,hd,q⟩
 ·obtain⟨hs,hgd,hx,es,ep,vs,hdt,hsz,kv,hm⟩:=I1.qgj hd;refine qqt hs hgd hx hdt (qnb (tk:=s1.toks) I1 _ (zad _ hdt) ⟨_,Js _ rfl,rfl,?_⟩ q);rw[hsz]<;>rfl
 ·obtain⟨hs,hgd,hx,es,ep,hdt,hsz,ent⟩:=I1.frzT hd;refine qqt hs hgd hx hdt (qnb (tk:=s1.toks) I1 _ (zae _ hdt) ⟨_,Js _ rfl,rfl,?_⟩ q);rw[hsz]<;>rfl
theorem q5q{elts:List Expr}{kk:Nat}{tpos:Pos}(he:PE X e td)(hbase:attributeBase e "items" X.env (eval e X.env)=eval e X.env:=by rfl)(hline:(apos.endLine==cpos.line)=true:=by rfl):
  PI X (.Tuple elts kk tpos) (.Call (.Attribute e "items" apos) [] [] cpos) (qqh td):=by
 intro pins s σ H R I h;refine U6 (T:= "dict") (id:= "dict.items") hbase rfl hline F.plainAttrs_dict F.slot_dict_items F.type_dict_items (thn (he pins s σ H _ I h) fun u s1 ⟨x,H1,I1,rx,d,o,kvs,ex,hd,q⟩=>?_);subst ex;obtain rfl:u=Value.ref d:=rx;obtain⟨hs,hgd,hx,es,ep,vs,hdt,hsz,kv,hm⟩:=I1.qgj hd;have hl:kvs.length=vs.length:=Zr kv;refine⟨hm.dictOf.typeIs,hm.dictOf.mapOf.noDict,?_⟩;have I2:Inv X pins σ H1 { s1 with heap:=s1.heap.push { cls:=.type "dict_items",data:=.fields #[.ref d] } }:=I1.kept (t':=s1.toks) fun b ob q=>Jb _ q;have fin:wpAny (model X.prog X.w) X.A (pyIter (.ref s1.heap.objs.size)) (PIE X pins σ (.Tuple elts kk tpos) R) X.xe { s1 with heap:=s1.heap.push { cls:=.type "dict_items",data:=.fields #[.ref d] } }:=by
  refine wpAny_pyIter_items (d:=d) (knd:=qao X.prog X.w) ⟨_,Js _ rfl,rfl,rfl⟩ (hm.push _) (qnb (tk:=s1.toks) I2 _ (zac _ hdt) ⟨.none,.none,?_⟩ q);rw[hl];exact Js _ rfl
 show wpAny _ _ (callWith cpos (.builtin "dict.items") [.ref d] [] []) _ X.xe s1;exact method_meetsIn F.slot_dict_items F.entry_dict_items rfl (PySem.evalArgs_none ⟨rfl,hm.dictOf.typeIs,F.args_dict_items_1 _,_,meets_dict_items (qao X.prog X.w) d hs,⟨vs,hm.dictOf⟩,fin⟩)
end
def Ite(K:PySem.W.Frag)(a:Addr): It:=
 ⟨fun i H=>∃ (xs:List V) (x:V),SqL K H a xs/\xs[i]?=some x,fun i H v H'=>∃ T x,v = .ref T/\H T=none/\H'=upd H T (.tup [.int (i:Nat),x])/\∀ xs,SqL K H a xs->xs[i]?=some x,fun i H=>∃ xs:List V,SqL K H a xs/\xs.length<=i⟩
theorem zaa{P:Program}{w:World}{K:PySem.W.Frag}{elts:List Expr}{kk:Nat}{tpos:Pos}(a e it:Addr):
  Turn P w K (.Tuple elts kk tpos) (Ite K a) [e,it] e (fun i h=>(∃ old,IsEnum h e it ((i:Nat):Int) old)/\h.IsListIter it a i/\e≠it) where
 mem:=by simp
 obj:=fun i h st b hb=>by
  obtain⟨⟨old,he⟩,⟨o,ho,hc,hd⟩,_⟩:=st;have e':b=e\/b=it:=by simpa using hb
  rcases e' with z|z
  ·rw[z];exact⟨_,he,fun v q=>nomatch q⟩
  ·rw[z];exact⟨o,ho,fun v q=>by rw[hd] at q;cases q⟩
 keep:=fun i h h' st k=>let ⟨⟨old,he⟩,hi,hne⟩:=st;⟨⟨old,k e (by simp) _ he⟩,hi.at fun o q=>k it (by simp) o q,hne⟩
 item:=by
  intro X hP hw hK hc i pins s σ H E I hf st hg;subst hP hw hK;obtain⟨⟨old,he⟩,hit,hne⟩:=st;obtain⟨xs,x,hq,hx⟩:=hg;obtain⟨its,rv,p,hz⟩:=I.list hq;obtain⟨u,hu,ru⟩:=rv.get hx;have hel:e<s.heap.objs.size:=Jl he;have hil:it<s.heap.objs.size:=by obtain⟨_,q,_⟩:=hit;exact Jl q
  refine wpAny_pyNext_enum_item he hit p.isList (x:=u) (by simpa using hu) hne fun h' ho qfc hT hsz hk=>?_;refine⟨_,rfl,wpAny_letOwnedTupleGo_enum (s:={ s with heap:=h',toks:=s.toks+1 }) ho fun h'' he' sb=>?_⟩;have hT2:h''.get? s.heap.objs.size=some { cls:=.type "tuple",data:=.seq #[.int i s.toks,u] }:=(sb.2 _ (J5 hel)).trans hT;have new:Qaw X.prog X.w (upd H s.heap.objs.size (.tup [.int (i:Nat),x])) h'' s.heap.objs.size (.tup [.int (i:Nat),x]):=
   ⟨by show 2<=sizeLine;decide,[.int i s.toks,u],.cons ⟨_,rfl⟩ (.cons ru .nil),⟨_,hT2,rfl,_,rfl⟩⟩
  have I1:Inv X pins σ (upd H s.heap.objs.size (.tup [.int (i:Nat),x])) { s with heap:=h'',toks:=s.toks+1 }:=
   I.qko (ch:=[e,it]) (fun b ob hb q=>(sb.2 b (fun z=>hb (by simp[z]))).trans (hk b ob (fun z=>hb (by simp[z])) (fun z=>hb (by simp[z])) q)) hf (Jp _) new
  refine⟨.ref s.heap.objs.size,_,I1,rfl,⟨_,x,rfl,I.hok.fresh (Jp _),rfl,fun ys hy=>by rw[I.qh3 hy hq];exact hx⟩,⟨⟨u,?_⟩,qfc.at fun o q=>(sb.2 it (Xb hne)).trans q,hne⟩,fun b hb=>?_⟩
  ·have e1:((i+1:Nat):Int)=(i:Int)+1:=by omega
   rw[e1];exact he'
  ·have hb':b<s.heap.objs.size:=by
    have e':b=e\/b=it:=by simpa using hb
    rcases e' with z|z
    ·rw[z];exact hel
    ·rw[z];exact hil
   rw[qc (Xl hb')];exact(hf b hb).1
 done:=by
  intro X hP hw hK hc i pins s σ H E I hf st hg;subst hP hw hK;obtain⟨⟨old,he⟩,hit,hne⟩:=st;obtain⟨xs,hq,hx⟩:=hg;obtain⟨its,rv,p,hz⟩:=I.list hq;obtain⟨f0,f1,f2,f3,f4,f5⟩:=hf it (by simp);have hl:=rv.length;exact wpAny_pyNext_enum_end (I.ok.hd hc) he hit p.isList (by simp;omega) fun h' eb=>⟨rfl,I.turned (t':=s.toks) (fun b o hb q=>eb b o hb q) f0 f1 f3 f4 f5⟩
 self:=fun A i s Q E st h=>let ⟨⟨_,he⟩,_⟩:=st;U9 he h
def iEnum(K:PySem.W.Frag)(ta:TA): TI:=fun σ H R=>ta σ H fun vs H1=>∃ a xs,vs=[.ref a]/\SqL K H1 a xs/\R (Ite K a) H1
theorem q5o{X:Cx}{e:Expr}{ta:TA}{p pos tpos:Pos}{elts:List Expr}{kk:Nat}(hg:Gl X "enumerate")(hm:X.mg "enumerate" = none)(ha:PA X [e] ta)(hs:starEach [e] X.env=[(false,eval e X.env)]:=by rfl):
  PI X (.Tuple elts kk tpos) (.Call (.Name "enumerate" p) [e] [] pos) (iEnum X.K ta):=by
 intro pins s σ H R I h;refine Call_ (qev I hg hm boot_enumerate (Yo (thn (ha pos pins s σ H _ I h) fun us s1 ⟨vs,H1,I1,r1,q1⟩=>?_) hs rfl));obtain⟨a,xs,ex,hq,q⟩:=q1;subst ex;cases r1 with
 | cons r rr=>
   cases rr;cases r;obtain⟨its,rv,p',hz⟩:=I1.list hq;refine call_enumerate_list p'.isList fun h' he hit hsz hk=>U9 he ?_;have I2:Inv X pins σ H1 { s1 with heap:=h' }:=I1.kept (t':=s1.toks) hk;refine⟨s1.heap.objs.size+1,[s1.heap.objs.size+1,s1.heap.objs.size],_,_,H1,rfl,I2,zaa a (s1.heap.objs.size+1) s1.heap.objs.size,⟨⟨.none,he⟩,hit,Nat.succ_ne_self _⟩,fun b hb=>?_,q⟩;have e':b=s1.heap.objs.size+1\/b=s1.heap.objs.size:=by simpa using hb
   have hle:s1.heap.objs.size<=b:=by
    rcases e' with z|z
    ·rw[z];exact Yj _ _
    ·rw[z];exact Jp _
   exact I1.qfa hle (I1.hok.fresh hle)
theorem qk7:bootBuiltins "zip" = some (.type "zip"):=by decide +kernel
def Itz(K:PySem.W.Frag)(a b:Addr): It:=
 ⟨fun i H=>∃ (xs ys:List V) (x y:V),SqL K H a xs/\SqL K H b ys/\xs[i]?=some x/\ys[i]?=some y,
  fun i H v H'=>∃ T x y,v = .ref T/\H T=none/\H'=upd H T (.tup [x,y])/\(∀ xs,SqL K H a xs->xs[i]?=some x)/\∀ ys,SqL K H b ys->ys[i]?=some y,
  fun i H=>∃ xs ys:List V,SqL K H a xs/\SqL K H b ys/\(xs.length<=i\/ys.length<=i)⟩
theorem zai{P:Program}{w:World}{K:PySem.W.Frag}{elts:List Expr}{kk:Nat}{tpos:Pos}{a b z TI TO i1 i2:Addr}(D:ZipApart z TI TO i1 i2 a b):
  Turn P w K (.Tuple elts kk tpos) (Itz K a b) [z,TI,TO,i1,i2] z (fun i h=>IsZip h z TI TO .none/\IsPair h TI (.ref i1) (.ref i2)/\(∃ x y,IsPair h TO x y)/\h.IsListIter i1 a i/\h.IsListIter i2 b i) where
 mem:=by simp
 obj:=fun i h st c hc=>by
  obtain⟨hz,hTI,⟨x,y,hTO⟩,⟨o1,e1,_,d1⟩,⟨o2,e2,_,d2⟩⟩:=st;have e':c=z\/c=TI\/c=TO\/c=i1\/c=i2:=by simpa using hc
  rcases e' with q|q|q|q|q
  ·rw[q];exact⟨_,hz,fun v q=>nomatch q⟩
  ·rw[q];exact⟨_,hTI,fun v q=>nomatch q⟩
  ·rw[q];exact⟨_,hTO,fun v q=>nomatch q⟩
  ·rw[q];exact⟨o1,e1,fun v q=>by rw[d1] at q;cases q⟩
  ·rw[q];exact⟨o2,e2,fun v q=>by rw[d2] at q;cases q⟩
 keep:=fun i h h' st k=>by
  obtain⟨hz,hTI,⟨x,y,hTO⟩,h1,h2⟩:=st;exact⟨k z (by simp) _ hz,k TI (by simp) _ hTI,⟨x,y,k TO (by simp) _ hTO⟩,h1.at fun o q=>k i1 (by simp) o q,h2.at fun o q=>k i2 (by simp) o q⟩
 item:=by
  intro X hP hw hK hc i pins s σ H E I hf st hg;subst hP hw hK;obtain⟨hz,hTI,⟨x0,y0,hTO⟩,h1,h2⟩:=st;obtain⟨xs,ys,x,y,hqx,hqy,hx,hy⟩:=hg;obtain⟨its,rv,p,_⟩:=I.list hqx;obtain⟨its2,rv2,p2,_⟩:=I.list hqy;obtain⟨u,hu,ru⟩:=rv.get hx;obtain⟨u2,hu2,ru2⟩:=rv2.get hy;have hzl:z<s.heap.objs.size:=Jl hz;refine wpAny_pyNext_zip_item D hz hTI hTO h1 h2 p.isList p2.isList (x:=u) (y:=u2) (by simpa using hu) (by simpa using hu2) fun h' z' TO' h1' h2' hT hsz hk=>?_;refine⟨_,rfl,wpAny_letOwnedTupleGo_zip (s:={ s with heap:=h' }) z' fun h'' z'' sb=>?_⟩;have hT2:h''.get? s.heap.objs.size=some { cls:=.type "tuple",data:=.seq #[u,u2] }:=(sb.2 _ (J5 hzl)).trans hT;have new:Qaw X.prog X.w (upd H s.heap.objs.size (.tup [x,y])) h'' s.heap.objs.size (.tup [x,y]):=
   ⟨by show 2<=sizeLine;decide,[u,u2],.cons ru (.cons ru2 .nil),⟨_,hT2,rfl,_,rfl⟩⟩
  have I1:Inv X pins σ (upd H s.heap.objs.size (.tup [x,y])) { s with heap:=h'' }:=
   I.qko (t':=s.toks) (ch:=[z,TI,TO,i1,i2]) (fun c o hb q=>(sb.2 c (fun q'=>hb (by simp[q']))).trans (hk c o (fun q'=>hb (by simp[q'])) (fun q'=>hb (by simp[q'])) (fun q'=>hb (by simp[q'])) (fun q'=>hb (by simp[q'])) q)) hf (Jp _) new
  refine⟨.ref s.heap.objs.size,_,I1,rfl,⟨_,x,y,rfl,I.hok.fresh (Jp _),rfl,fun l hl=>by rw[I.qh3 hl hqx];exact hx,fun l hl=>by rw[I.qh3 hl hqy];exact hy⟩,⟨z'',?_,⟨u,u2,?_⟩,?_,?_⟩,fun c hcm=>?_⟩
  ·exact(sb.2 _ D.TIz).trans (hk _ _ D.TIz D.TITO D.TIi1 D.TIi2 hTI)
  ·exact(sb.2 _ D.TOz).trans TO'
  ·exact h1'.at fun o q=>(sb.2 _ D.i1z).trans q
  ·exact h2'.at fun o q=>(sb.2 _ D.i2z).trans q
  ·have hlt:c<s.heap.objs.size:=by
    have e':c=z\/c=TI\/c=TO\/c=i1\/c=i2:=by simpa using hcm
    rcases e' with q|q|q|q|q
    ·rw[q];exact hzl
    ·rw[q];exact Jl hTI
    ·rw[q];exact Jl hTO
    ·rw[q];obtain⟨_,e1,_⟩:=h1;exact Jl e1
    ·rw[q];obtain⟨_,e2,_⟩:=h2;exact Jl e2
   rw[qc (Xl hlt)];exact(hf c hcm).1
 done:=by
  intro X hP hw hK hc i pins s σ H E I hf st hg;subst hP hw hK;obtain⟨hz,hTI,⟨x0,y0,hTO⟩,h1,h2⟩:=st;obtain⟨xs,ys,hqx,hqy,hend⟩:=hg;obtain⟨its,rv,p,_⟩:=I.list hqx;obtain⟨its2,rv2,p2,_⟩:=I.list hqy;have l1:=rv.length;have l2:=rv2.length;have he:its.toArray[i]?=none\/its2.toArray[i]?=none:=by
   rcases hend with q|q
   ·exact .inl (by simp;omega)
   ·exact .inr (by simp;omega)
  exact wpAny_pyNext_zip_end (I.ok.hd hc) D hz hTI hTO h1 h2 p.isList p2.isList he fun h' hk=>⟨rfl,I.zaj (t':=s.toks) (ch:=[z,TI,TO,i1,i2]) (fun c o hb q=>
   hk c o (fun q'=>hb (by simp[q'])) (fun q'=>hb (by simp[q'])) (fun q'=>hb (by simp[q'])) (fun q'=>hb (by simp[q'])) q) hf⟩
 self:=fun A i s Q E st h=>wpAny_pyIter_zip st.1 h
def iZip(K:PySem.W.Frag)(ta:TA): TI:=fun σ H R=>ta σ H fun vs H1=>∃ a b xs ys,vs=[.ref a,.ref b]/\SqL K H1 a xs/\SqL K H1 b ys/\R (Itz K a b) H1
theorem qr5{X:Cx}{e e2:Expr}{ta:TA}{p pos tpos:Pos}{elts:List Expr}{kk:Nat}(hg:Gl X "zip")(hm:X.mg "zip" = none)(ha:PA X [e,e2] ta)
  (hs:starEach [e,e2] X.env=(false,eval e X.env)::starEach [e2] X.env:=by rfl)(hpl:(backTo pos (starEach [e2] X.env)).any (·.1)=false:=by rfl):
  PI X (.Tuple elts kk tpos) (.Call (.Name "zip" p) [e,e2] [] pos) (iZip X.K ta):=by
 intro pins s σ H R I h;refine Call_ (qev I hg hm qk7 (Yo (thn (ha pos pins s σ H _ I h) fun us s1 ⟨vs,H1,I1,r1,q1⟩=>?_) hs hpl));obtain⟨a,b,xs,ys,ex,hqx,hqy,q⟩:=q1;subst ex;cases r1 with
 | cons r rr=>
   cases rr with
   | cons r' rr=>
     cases rr;cases r;cases r';obtain⟨its,rv,p1,_⟩:=I1.list hqx;obtain⟨its2,rv2,p2,_⟩:=I1.list hqy;have la:a<s1.heap.objs.size:=p1.lt;have lb:b<s1.heap.objs.size:=p2.lt;refine call_zip_2 p1.isList p2.isList fun h' hz hTI hTO h1 h2 hsz hk=>wpAny_pyIter_zip hz ?_;have I2:Inv X pins σ H1 { s1 with heap:=h' }:=I1.kept (t':=s1.toks) hk;refine⟨s1.heap.objs.size+4,[s1.heap.objs.size+4,s1.heap.objs.size+2,s1.heap.objs.size+3,s1.heap.objs.size,s1.heap.objs.size+1],_,_,H1,rfl,I2,zai (PySem.W.ktu_apart s1.heap.objs.size a b la lb),⟨hz,hTI,⟨_,_,hTO⟩,h1,h2⟩,fun c hcm=>?_,q⟩;have e':c=s1.heap.objs.size+4\/c=s1.heap.objs.size+2\/c=s1.heap.objs.size+3\/c=s1.heap.objs.size\/c=s1.heap.objs.size+1:=by simpa using hcm
     have hle:s1.heap.objs.size<=c:=by
      rcases e' with z|z|z|z|z
      ·rw[z];exact Yj _ _
      ·rw[z];exact Yj _ _
      ·rw[z];exact Yj _ _
      ·rw[z];exact Jp _
      ·rw[z];exact Yj _ _
     exact I1.qfa hle (I1.hok.fresh hle)
end L2
section
namespace Bits
open PySem PyProof.Rows
end Bits
end
section
namespace TL
open PySem PySem.Builtin PySem.Builtin.Str PySem.StrLaws
end TL
end
namespace L2
open PySem PySem.Spec PyProof.Rows
end L2
namespace Att
open PySem PySem.W PySem.Calls PyProof.Rows
end Att
namespace L2
open PySem PySem.Spec PyProof.Rows
end L2
section
set_option maxHeartbeats 2000000
namespace L2
open PySem PySem.Spec PyProof.Rows
open PySem.W (WData Codec OpenSpec Well WellAll ReadsW ReadsAllW)
mutual
inductive Dw(K:PySem.W.Frag)(H:Hp): V->WData->Prop
 |non:Dw K H .non .none
 |bl (b:Bool):Dw K H (.bl b) (.bool b)
 |int (i:Int):Dw K H (.int i) (.int i)
 |str (x:Str):Dw K H (.str x) (.str x)
 |byt (b:Array UInt8):Dw K H (.byt b) (.bytes b.toList)
 |lst {a:Addr} {xs:List V} {ds:List WData}:SqL K H a xs->Qc8 K H xs ds->Dw K H (.ref a) (.list ds)
 |tup {a:Addr} {xs:List V} {ds:List WData}:SqT K H a xs->Qc8 K H xs ds->Dw K H (.ref a) (.tuple ds)
inductive Qc8(K:PySem.W.Frag)(H:Hp): List V->List WData->Prop
 |nil:Qc8 K H [] []
 |cons {v:V} {vs:List V} {d:WData} {ds:List WData}:Dw K H v d->Qc8 K H vs ds->Qc8 K H (v::vs) (d::ds)
end
theorem qpu{K:PySem.W.Frag}{H:Hp}: ∀ ns:List Int,Qc8 K H (ns.map V.int) (ns.map WData.int)
 |[]=>.nil
 |n::r=>.cons (.int n) (qpu r)
theorem qqq{K:PySem.W.Frag}{H:Hp}: ∀ (ns:List Int) (xs:List V),Qc8 K H xs (ns.map WData.int)->xs=ns.map V.int
 | [],xs,h=>by
   cases h;rfl
 | n::r,xs,h=>by
   cases h with
   | cons h1 h2=>
     cases h1;rw[qqq r _ h2]<;>rfl
section
variable {P:Program} {w:World} {K:PySem.W.Frag} {H:Hp} {h:Heap} {R:PySem.W.WRecords} {cl:Str->Option Addr}
theorem sqL_at{a:Addr}{xs:List V}(hok:HOk P w H h)(KX:K.In h)(q:SqL K H a xs): ∃ (its:List Value) (o:Obj) (n:Nat),Vals xs its/\h.get? a=some o/\o.cls = .type "list"/\o.data = .seq its.toArray n:=by
 rcases q with q|⟨o,its,n,e,hc,_,hd,_,hv⟩
 ·obtain⟨_,its,n,hv,e⟩:=(show Qaw P w H h a (.lst xs) from q.ok hok)
  exact⟨its,_,n,hv,e,rfl,rfl⟩
 ·exact⟨its.toList,o,n,hv,KX _ _ e,hc,by simp[hd]⟩
theorem sqT_at{a:Addr}{xs:List V}(hok:HOk P w H h)(KX:K.In h)(q:SqT K H a xs): ∃ (its:List Value) (o:Obj) (n:Nat),Vals xs its/\h.get? a=some o/\o.cls = .type "tuple"/\o.data = .seq its.toArray n:=by
 rcases q with q|⟨o,its,n,e,hc,hd,_,hv⟩
 ·obtain⟨_,its,hv,o,e,hc,n,hd⟩:=(show Qaw P w H h a (.tup xs) from q.ok hok)
  exact⟨its,o,n,hv,e,hc,hd⟩
 ·exact⟨its.toList,o,n,hv,KX _ _ e,hc,by simp[hd]⟩
mutual
theorem Dw.reads(hok:HOk P w H h)(KX:K.In h): ∀ (d:WData) (v:V) (u:Value),Dw K H v d->RelV v u->∃ as,ReadsW R cl h u d as
 | .none,_,_,x,r=>by
   cases x;cases r;exact⟨_,ReadsW.none⟩
 | .bool b,_,_,x,r=>by
   cases x;cases r;exact⟨_,ReadsW.bool b⟩
 | .int i,_,_,x,r=>by
   cases x;obtain⟨t,rfl⟩:=r;exact⟨_,ReadsW.int i t⟩
 | .str s,_,_,x,r=>by
   cases x;obtain⟨t,rfl⟩:=r;exact⟨_,ReadsW.str s t⟩
 | .bytes b,_,_,x,r=>by
   cases x;obtain⟨t,rfl⟩:=r;exact⟨_,ReadsW.bytes _ t⟩
 | .list ds,_,_,x,r=>by
   cases x with
   | lst hs ha=>
     cases r;obtain⟨its,o,n,rv,ho,hc,hd⟩:=sqL_at hok KX hs;obtain⟨as,hr⟩:=Dw.readsAll hok KX ds _ its ha rv;exact⟨_,ReadsW.list ho hc hd hr⟩
 | .tuple ds,_,_,x,r=>by
   cases x with
   | tup hs ha=>
     cases r;obtain⟨its,o,n,rv,ho,hc,hd⟩:=sqT_at hok KX hs;obtain⟨as,hr⟩:=Dw.readsAll hok KX ds _ its ha rv;exact⟨_,ReadsW.tuple ho hc hd hr⟩
 | .float _,_,_,x,_=>by cases x
 | .dict _,_,_,x,_=>by cases x
 | .bytearray _,_,_,x,_=>by cases x
 | .set _,_,_,x,_=>by cases x
 | .frozenset _,_,_,x,_=>by cases x
 | .obj _ _,_,_,x,_=>by cases x
theorem Dw.readsAll(hok:HOk P w H h)(KX:K.In h): ∀ (ds:List WData) (vs:List V) (us:List Value),Qc8 K H vs ds->Vals vs us->∃ as,ReadsAllW R cl h us ds as
 | [],_,_,x,r=>by
   cases x;cases r;exact⟨_,ReadsAllW.nil⟩
 | d::ds,_,_,x,r=>by
   cases x with
   | cons h1 h2=>
     cases r with
     | cons r1 r2=>
       obtain⟨as,q1⟩:=Dw.reads hok KX d _ _ h1 r1;obtain⟨bs,q2⟩:=Dw.readsAll hok KX ds _ _ h2 r2;exact⟨_,ReadsAllW.cons q1 q2⟩
end
end
mutual
def plW:WData->Bool
 | .none=>true
 | .bool _=>true
 | .int _=>true
 | .str _=>true
 | .bytes _=>true
 | .list xs=>qdl xs
 | .tuple xs=>qdl xs
 |_=>false
def qdl:List WData->Bool
 |[]=>true
 |x::r=>plW x&&qdl r
end
theorem qr7{α:Type}{f:α->WData}(h:∀ a,plW (f a)=true): ∀ l:List α,qdl (l.map f)=true
 |[]=>rfl
 | x::r=>by
   show (plW (f x)&&qdl (r.map f))=true;rw[h x,qr7 h r]<;>rfl
theorem qfg:∀ (c:Codec) (a:c.denote),plW (c.enc a)=true
 | .unit,_=>rfl
 | .bool,_=>rfl
 | .int _ _,_=>rfl
 | .nat _ _,_=>rfl
 | .u8,_=>rfl
 | .bytes _ _,_=>rfl
 | .text _ _ _ _,_=>rfl
 | .list _ _ c,a=>qr7 (fun x=>qfg c x) a
 | .pair c d,a=>by
   show (plW (c.enc a.1)&&(plW (d.enc a.2)&&true))=true;rw[qfg c a.1,qfg d a.2]<;>rfl
 | .triple c d e,a=>by
   show (plW (c.enc a.1)&&(plW (d.enc a.2.1)&&(plW (e.enc a.2.2)&&true)))=true;rw[qfg c a.1,qfg d a.2.1,qfg e a.2.2]<;>rfl
 | .option c,none=>rfl
 | .option c,some x=>qfg c x
theorem qr8:∀ (cs:List Codec) (a:Codec.denoteAll cs),qdl (Codec.encAll cs a)=true
 |[],_=>rfl
 | c::cs,a=>by
   show (plW (c.enc a.1)&&qdl (Codec.encAll cs a.2))=true;rw[qfg c a.1,qr8 cs a.2]<;>rfl
theorem qog:∀ {xs:List WData} {d:WData},d∈xs->d.weight<=WData.weightAll xs
 |[],d,h=>absurd h (by simp)
 | x::r,d,h=>by
   show d.weight<=x.weight+1+WData.weightAll r;rcases Jf.mp h with e|m
   ·rw[e];omega
   ·have z:=qog m;omega
def toV:Value->V
 | .none=>.non
 | .bool b=>.bl b
 | .int i _=>.int i
 | .str x _=>.str x
 | .bytes b _=>.byt b
 | .ref a=>.ref a
 |_=>.non
def OkU(A:List Addr): Value->Prop
 | .none=>True
 | .bool _=>True
 | .int _ _=>True
 | .str _ _=>True
 | .bytes _ _=>True
 | .ref a=>a∈A
 |_=>False
theorem OkU.mono{A B:List Addr}(h:∀ a∈A,a∈B): ∀ {u:Value},OkU A u->OkU B u:=fun {u} x=>by
 cases u with
 |ref a=>exact h a x
 |none=>trivial
 |bool b=>trivial
 |int i t=>trivial
 |str s t=>trivial
 |bytes b t=>trivial
 |_=>exact False.elim x
theorem q57{A:List Addr}{u:Value}(x:OkU A u): RelV (toV u) u:=by
 cases u with
 |ref a=>rfl
 |none=>rfl
 |bool b=>rfl
 |int i t=>exact⟨t,rfl⟩
 |str s t=>exact⟨t,rfl⟩
 |bytes b t=>exact⟨t,rfl⟩
 |_=>exact False.elim x
theorem qhj{A:List Addr}: ∀ {vs:List Value},(∀ u∈vs,OkU A u)->Vals (vs.map toV) vs
 |[],_=>.nil
 |u::r,h=>.cons (q57 (h u (Jh ..))) (qhj fun x hx=>h x (Jm _ hx))
def Qc7(h:Heap)(A:List Addr)(a:Addr): Prop:=∃ vs:List Value,vs.length<=sizeLine/\(∀ u∈vs,OkU A u) /\
 (h.get? a=some { cls:=.type "list",data:=.seq vs.toArray }\/h.get? a=some { cls:=.type "tuple",data:=.seq vs.toArray })
theorem Qc7.mono{h:Heap}{A B:List Addr}{a:Addr}(k:∀ a∈A,a∈B)(x:Qc7 h A a): Qc7 h B a:=by
 obtain⟨vs,h1,h2,h3⟩:=x;exact⟨vs,h1,fun u hu=>(h2 u hu).mono k,h3⟩
theorem qks{P:Params}{h:Heap}: ∀ {vs:List Value} {ds:List WData},WellAll P h vs ds->vs.length=ds.length
 |_,_,.nil=>rfl
 | _,_,.cons _ b=>by
   show _+1=_+1;rw[qks b]
theorem qwe{P:Params}{h:Heap}{v:Value}{ds:List WData}(x:Well P h v (.list ds)): ∃ (a:Addr) (vs:List Value),v = .ref a/\h.get? a=some { cls:=.type "list",data:=.seq vs.toArray }/\WellAll P h vs ds:=by
 cases x with
 |list ho hall=>exact⟨_,_,rfl,ho,hall⟩
theorem qwf{P:Params}{h:Heap}{v:Value}{ds:List WData}(x:Well P h v (.tuple ds)): ∃ (a:Addr) (vs:List Value),v = .ref a/\h.get? a=some { cls:=.type "tuple",data:=.seq vs.toArray }/\WellAll P h vs ds:=by
 cases x with
 |tuple ho hall=>exact⟨_,_,rfl,ho,hall⟩
theorem qwd{P:Params}{h:Heap}{us:List Value}{d:WData}{ds:List WData}(x:WellAll P h us (d::ds)): ∃ (v:Value) (vs:List Value),us=v::vs/\Well P h v d/\WellAll P h vs ds:=by
 cases x with
 |cons a b=>exact⟨_,_,rfl,a,b⟩
theorem qrc{n:Nat}(h:n<=1048576): n<=sizeLine:=Xd h (by decide)
section
variable {P:Params} {h:Heap}
mutual
theorem qwq:∀ (d:WData) (v:Value),Well P h v d->plW d=true->d.weight<=1048576->∃ A:List Addr,OkU A v/\∀ a∈A,Qc7 h A a
 | .none,_,x,_,_=>by
   cases x;exact⟨[],trivial,fun a m=>absurd m (by simp)⟩
 | .bool b,_,x,_,_=>by
   cases x;exact⟨[],trivial,fun a m=>absurd m (by simp)⟩
 | .int i,_,x,_,_=>by
   cases x;exact⟨[],trivial,fun a m=>absurd m (by simp)⟩
 | .str s,_,x,_,_=>by
   cases x;exact⟨[],trivial,fun a m=>absurd m (by simp)⟩
 | .bytes b,_,x,_,_=>by
   cases x;exact⟨[],trivial,fun a m=>absurd m (by simp)⟩
 | .list ds,_,x,p,z=>by
   obtain⟨a,vs,rfl,ho,hall⟩:=qwe x;have z2:WData.weightAll ds<=1048576:=z;obtain⟨A,h1,h2⟩:=qi0 ds _ hall p fun d hd=>Xd (qog hd) z2;have k:∀ b∈A,b∈a::A:=fun b hb=>Jm _ hb;refine⟨a::A,Jh ..,fun b hb=>?_⟩;rcases Jf.mp hb with e|m
   ·rw[e];exact⟨vs,qrc (by rw[qks hall];exact Xd (PySem.W.length_le_weightAllW ds) z2),fun u hu=>(h1 u hu).mono k,.inl ho⟩
   ·exact(h2 b m).mono k
 | .tuple ds,_,x,p,z=>by
   obtain⟨a,vs,rfl,ho,hall⟩:=qwf x;have z2:WData.weightAll ds<=1048576:=z;obtain⟨A,h1,h2⟩:=qi0 ds _ hall p fun d hd=>Xd (qog hd) z2;have k:∀ b∈A,b∈a::A:=fun b hb=>Jm _ hb;refine⟨a::A,Jh ..,fun b hb=>?_⟩;rcases Jf.mp hb with e|m
   ·rw[e];exact⟨vs,qrc (by rw[qks hall];exact Xd (PySem.W.length_le_weightAllW ds) z2),fun u hu=>(h1 u hu).mono k,.inr ho⟩
   ·exact(h2 b m).mono k
 | .float _,_,_,p,_=>Bool.noConfusion (show false=true from p)
 | .dict _,_,_,p,_=>Bool.noConfusion (show false=true from p)
 | .bytearray _,_,_,p,_=>Bool.noConfusion (show false=true from p)
 | .set _,_,_,p,_=>Bool.noConfusion (show false=true from p)
 | .frozenset _,_,_,p,_=>Bool.noConfusion (show false=true from p)
 | .obj _ _,_,_,p,_=>Bool.noConfusion (show false=true from p)
theorem qi0:∀ (ds:List WData) (vs:List Value),WellAll P h vs ds->qdl ds=true->(∀ d∈ds,d.weight<=1048576)->∃ A:List Addr,(∀ u∈vs,OkU A u)/\∀ a∈A,Qc7 h A a
 | [],_,x,_,_=>by
   cases x;exact⟨[],fun u m=>absurd m (by simp),fun a m=>absurd m (by simp)⟩
 | d::ds,_,x,p,z=>by
   obtain⟨v,vs,rfl,x1,x2⟩:=qwd x;have q:plW d=true/\qdl ds=true:=W6.mp p;obtain⟨A,a1,a2⟩:=qwq d v x1 q.1 (z d (Jh ..));obtain⟨B,b1,b2⟩:=qi0 ds vs x2 q.2 fun e he=>z e (Jm _ he);have kA:∀ b∈A,b∈A++B:=fun b hb=>J4.mpr (.inl hb);have kB:∀ b∈B,b∈A++B:=fun b hb=>J4.mpr (.inr hb);refine⟨A++B,fun u hu=>?_,fun b hb=>?_⟩
   ·rcases Jf.mp hu with e|m
    ·rw[e];exact a1.mono kA
    ·exact(b1 u m).mono kB
   ·rcases J4.mp hb with m|m
    ·exact(a2 b m).mono kA
    ·exact(b2 b m).mono kB
end
end
def hoOf(o:Obj): Option HO:=match o.data with
 | .seq vs _=>if (o.cls==Value.type "list")=true then some (.frz o (.lst (vs.toList.map toV))) else some (.frz o (.tup (vs.toList.map toV)))
 |_=>none
def qby(K:PySem.W.Frag)(h:Heap)(A:List Addr): Hp:=fun b=>if b∈A then (if (K.lookup b).isNone=true then (h.get? b).bind hoOf else none) else none
def Qhq(H:Hp): Prop:=∀ b,H b=none\/∃ o u,H b=some (.frz o u)
theorem qqe(vs:List Value): hoOf { cls:=.type "list",data:=.seq vs.toArray }=some (.frz { cls:=.type "list",data:=.seq vs.toArray } (.lst (vs.map toV))):=by
 show (if (Value.type "list" == Value.type "list")=true then some (HO.frz { cls:=.type "list",data:=.seq vs.toArray } (.lst (vs.toArray.toList.map toV))) else some (HO.frz { cls:=.type "list",data:=.seq vs.toArray } (.tup (vs.toArray.toList.map toV))))=_;rw[Je (beq_self_eq_true _)]
theorem qqf(vs:List Value): hoOf { cls:=.type "tuple",data:=.seq vs.toArray }=some (.frz { cls:=.type "tuple",data:=.seq vs.toArray } (.tup (vs.map toV))):=by
 show (if (Value.type "tuple" == Value.type "list")=true then some (HO.frz { cls:=.type "tuple",data:=.seq vs.toArray } (.lst (vs.toArray.toList.map toV))) else some (HO.frz { cls:=.type "tuple",data:=.seq vs.toArray } (.tup (vs.toArray.toList.map toV))))=_;rw[Jc (by decide)]
section
variable {P:Program} {w:World} {K:PySem.W.Frag} {h:Heap} {A:List Addr}
theorem qi1{b:Addr}{o:Obj}(hb:b∈A)(hk:K.lookup b=none)(e:h.get? b=some o): qby K h A b=hoOf o:=by
 unfold qby;rw[Je hb,hk,Je (show (none:Option Obj).isNone=true from rfl),e]<;>rfl
theorem q42{b:Addr}{u:HO}(q:qby K h A b=some u): b∈A/\K.lookup b=none:=by
 unfold qby at q;by_cases hb:b∈A
 ·rw[Je hb] at q;cases hk:K.lookup b with
  |none=>exact⟨hb,rfl⟩
  | some o=>
    rw[hk,Jc (by simp)] at q;cases q
 ·rw[Jc hb] at q;cases q
theorem qi2(ar:∀ a∈A,Qc7 h A a){b:Addr}{u:HO}(q:qby K h A b=some u): K.lookup b=none/\∃ vs:List Value,vs.length<=sizeLine/\(∀ u∈vs,OkU A u) /\
  ((h.get? b=some { cls:=.type "list",data:=.seq vs.toArray }/\u = .frz { cls:=.type "list",data:=.seq vs.toArray } (.lst (vs.map toV))) \/
   (h.get? b=some { cls:=.type "tuple",data:=.seq vs.toArray }/\u = .frz { cls:=.type "tuple",data:=.seq vs.toArray } (.tup (vs.map toV)))):=by
 obtain⟨hb,hk⟩:=q42 q;obtain⟨vs,h1,h2,h3⟩:=ar b hb;refine⟨hk,vs,h1,h2,?_⟩;rcases h3 with e|e
 ·rw[qi1 hb hk e,qqe] at q;exact .inl ⟨e,(Jj q).symm⟩
 ·rw[qi1 hb hk e,qqf] at q;exact .inr ⟨e,(Jj q).symm⟩
theorem qws(ar:∀ a∈A,Qc7 h A a): Qhq (qby K h A):=fun b=>by
 cases q:qby K h A b with
 |none=>exact .inl rfl
 | some u=>
   obtain⟨_,vs,_,_,⟨_,e⟩|⟨_,e⟩⟩:=qi2 ar q
   ·exact .inr ⟨_,_,by rw[e]⟩
   ·exact .inr ⟨_,_,by rw[e]⟩
theorem qwr(ar:∀ a∈A,Qc7 h A a): HOk P w (qby K h A) h:=fun b u q=>by
 obtain⟨_,vs,h1,h2,⟨e,rfl⟩|⟨e,rfl⟩⟩:=qi2 ar q
 ·exact⟨e,by rw[Jd];exact h1,vs,_,qhj h2,e⟩
 ·exact⟨e,by rw[Jd];exact h1,vs,qhj h2,_,e,rfl,_,rfl⟩
theorem qkf{c c':Value}{vs us:List Value}(e:(some { cls:=c,data:=.seq vs.toArray }:Option Obj)=some { cls:=c',data:=.seq us.toArray }): c=c'/\vs=us:=by
 have e1:=Jj e;have e2:c=c':=Yk Obj.cls e1;have e3:Data.seq vs.toArray=Data.seq us.toArray:=Yk Obj.data e1;injection e3 with e4;refine⟨e2,?_⟩;have e5:=Yk Array.toList e4;simpa using e5
theorem argL(KX:K.In h)(ar:∀ a∈A,Qc7 h A a){a:Addr}{vs:List Value}(ha:a∈A)(e:h.get? a=some { cls:=.type "list",data:=.seq vs.toArray }): (∀ u∈vs,OkU A u)/\SqL K (qby K h A) a (vs.map toV):=by
 obtain⟨us,h1,h2,h3⟩:=ar a ha;have hu:us=vs:=by
  rcases h3 with q|q
  ·rw[e] at q;exact(qkf q).2.symm
  ·rw[e] at q;exact absurd (Value.type.inj (qkf q).1) (by decide)
 subst hu;refine⟨h2,?_⟩;cases hk:K.lookup a with
 |none=>exact .inl (.inr ⟨_,by rw[qi1 ha hk e,qqe]⟩)
 | some o=>
   have e2:=KX a o hk;rw[e] at e2;obtain rfl:=Jj e2;exact .inr ⟨_,us.toArray,_,hk,rfl,rfl,rfl,by rw[J8];exact h1,by simpa using qhj h2⟩
theorem argT(KX:K.In h)(ar:∀ a∈A,Qc7 h A a){a:Addr}{vs:List Value}(ha:a∈A)(e:h.get? a=some { cls:=.type "tuple",data:=.seq vs.toArray }): (∀ u∈vs,OkU A u)/\SqT K (qby K h A) a (vs.map toV):=by
 obtain⟨us,h1,h2,h3⟩:=ar a ha;have hu:us=vs:=by
  rcases h3 with q|q
  ·rw[e] at q;exact absurd (Value.type.inj (qkf q).1) (by decide)
  ·rw[e] at q;exact(qkf q).2.symm
 subst hu;refine⟨h2,?_⟩;cases hk:K.lookup a with
 |none=>exact .inl (.inr ⟨_,by rw[qi1 ha hk e,qqf]⟩)
 | some o=>
   have e2:=KX a o hk;rw[e] at e2;obtain rfl:=Jj e2;exact .inr ⟨_,us.toArray,_,hk,rfl,rfl,by rw[J8];exact h1,by simpa using qhj h2⟩
mutual
theorem dw_one{Pm:Params}(KX:K.In h)(ar:∀ a∈A,Qc7 h A a): ∀ (d:WData) (v:Value),Well Pm h v d->plW d=true->OkU A v->Dw K (qby K h A) (toV v) d
 | .none,_,x,_,_=>by
   cases x;exact .non
 | .bool b,_,x,_,_=>by
   cases x;exact .bl b
 | .int i,_,x,_,_=>by
   cases x;exact .int i
 | .str s,_,x,_,_=>by
   cases x;exact .str s
 | .bytes b,_,x,_,_=>by
   cases x;have z:=Dw.byt (K:=K) (H:=qby K h A) b.toArray;exact z
 | .list ds,_,x,p,hu=>by
   obtain⟨a,vs,rfl,ho,hall⟩:=qwe x;obtain⟨h2,hs⟩:=argL KX ar hu ho;exact .lst hs (qja KX ar ds _ hall p h2)
 | .tuple ds,_,x,p,hu=>by
   obtain⟨a,vs,rfl,ho,hall⟩:=qwf x;obtain⟨h2,hs⟩:=argT KX ar hu ho;exact .tup hs (qja KX ar ds _ hall p h2)
 | .float _,_,_,p,_=>Bool.noConfusion (show false=true from p)
 | .dict _,_,_,p,_=>Bool.noConfusion (show false=true from p)
 | .bytearray _,_,_,p,_=>Bool.noConfusion (show false=true from p)
 | .set _,_,_,p,_=>Bool.noConfusion (show false=true from p)
 | .frozenset _,_,_,p,_=>Bool.noConfusion (show false=true from p)
 | .obj _ _,_,_,p,_=>Bool.noConfusion (show false=true from p)
theorem qja{Pm:Params}(KX:K.In h)(ar:∀ a∈A,Qc7 h A a): ∀ (ds:List WData) (vs:List Value),WellAll Pm h vs ds->qdl ds=true->(∀ u∈vs,OkU A u)->Qc8 K (qby K h A) (vs.map toV) ds
 | [],_,x,_,_=>by
   cases x;exact .nil
 | d::ds,_,x,p,hu=>by
   obtain⟨v,vs,rfl,x1,x2⟩:=qwd x;have q:plW d=true/\qdl ds=true:=W6.mp p;exact .cons (dw_one KX ar d v x1 q.1 (hu _ (Jh ..))) (qja KX ar ds vs x2 q.2 fun u m=>hu u (Jm _ m))
end
end
theorem q83{P:Program}{w:World}{K:PySem.W.Frag}{mg mb:Str->Option Value}{CX:CXT}{k:Nat}{fa:Addr}{fd:FuncData}{ps:List Str}{sp:Sp}{s₁:Shared}{vals:List Value}{ds:List WData}{R:PySem.W.WRecords}{cl:Str->Option Addr}{d0:WData}
  (KX:K.In s₁.heap)(hns:s₁.heap.Ns mainGlobals mg)(hb:s₁.heap.Ns builtinsNs mb)(hbb:∀ x:Str,x≠"__name__"->mb x=bootBuiltins x)(hlim:s₁.heap.NoLimit)(hg:s₁.gens = #[])
  (hwl:WellAll w.params s₁.heap vals ds)(hpl:qdl ds=true)(hwt:∀ d∈ds,d.weight<=1048576)(hr:Qar k callerA)
  (F:∀ base:Heap,K.In base->base.Ns mainGlobals mg->Qcd P w K mg base CX k fa fd ps sp)(hbind:∀ (s:Shared) (us:List Value),us.length=ps.length->BindsTo s fd ⟨us,[]⟩ (ps.zip us))(hlen:ds.length=ps.length)
  (hsp:∀ (H:Hp) (xs:List V),Qhq H->Qc8 K H xs ds->sp xs H (fun v H'=>Dw K H' v d0) fun _ _ _=>False)
  (hCX:∀ H e s',CX [] H s₁ (fun _ _ _=>False) e s'->False):
  codeAny (model P w) callerA (.call (.ref fa) ⟨vals,[]⟩) (fun r s'=>∃ u as,r = .ok (.ret u)/\ReadsW R cl s'.heap u d0 as/\OldK s₁.heap s'.heap/\s'.os=s₁.os/\AllBare s'.gens) s₁:=by
 obtain⟨A,ho,ar⟩:=qi0 ds vals hwl hpl hwt;have hO:Qhq (qby K s₁.heap A):=qws ar;have hok:HOk P w (qby K s₁.heap A) s₁.heap:=qwr ar;have hS:=qja KX ar ds vals hwl hpl ho;have hV:=qhj ho;have hK:∀ b u,qby K s₁.heap A b=some u->K.lookup b=none:=fun b u q=>(qi2 ar q).1;have noA:∀ {b:Addr} {o:Obj} {es:Array DictEntry} {ep:Nat},s₁.heap.get? b=some o->o.data = .dict es ep->qby K s₁.heap A b=none:=fun {b o es ep} e d=>by
  cases q:qby K s₁.heap A b with
  |none=>rfl
  | some u=>
    obtain⟨_,vs,_,_,⟨e2,_⟩|⟨e2,_⟩⟩:=qi2 ar q
    ·rw[e2] at e;cases e;have d':Data.seq vs.toArray _=Data.dict es ep:=d;cases d'
    ·rw[e2] at e;cases e;have d':Data.seq vs.toArray _=Data.dict es ep:=d;cases d'
 generalize qby K s₁.heap A=H at hO hok hS hK noA;have qoy:∀ {b:Addr} {o:Obj},s₁.heap.get? b=some o->H b=none->(qet s₁.heap H).get? b=some o:=fun e n=>q2q e n;have nsK:∀ {b:Addr} {m:Str->Option Value},s₁.heap.Ns b m->(qet s₁.heap H).Ns b m:=fun {b m} ⟨o,es,ep,e,d,r⟩=>⟨o,es,ep,qoy e (noA e d),d,r⟩
 have nK:∀ b o,K.lookup b=some o->H b=none:=fun b o e=>by
  cases q:H b with
  |none=>rfl
  | some u=>
    rw[hK b u q] at e;cases e
 have hKb:K.In (qet s₁.heap H):=fun b o e=>qoy (KX b o e) (nK b o e);have hM:Mod K mg (qet s₁.heap H):=⟨hKb,nsK hns,⟨mb,nsK hb,hbb⟩,let ⟨mc,h1,h2⟩:=hlim;⟨mc,nsK h1,h2⟩⟩
 have e0:Qfq P w K mg (qet s₁.heap H) callerA [] s₁ H:=⟨rfl,hM,fun b o e=>q43 e,Qp (q2r _ _),trivial,fun b hb=>absurd (show b∈([]:List Addr) from hb) (by simp),hok,.of_eq hg⟩
 have hl:vals.length=ps.length:=by rw[qks hwl];exact hlen
 refine Ur ((F _ hKb (nsK hns)).run callerA [] s₁ H ⟨vals,[]⟩ vals (vals.map toV) _ _ hr e0 (hbind s₁ vals hl) hV (hsp H _ hO hS)) fun r s' x=>?_;cases r with
 |error e=>exact(hCX H e s' x).elim
 | ok fl=>
   cases fl with
   |next=>exact False.elim x
   |brk=>exact False.elim x
   |cont=>exact False.elim x
   | ret u=>
     obtain⟨v,H',os,bare,un,hok',r',q⟩:=x;have kept:∀ b o,s₁.heap.get? b=some o->s'.heap.get? b=some o:=fun b o e=>by
      cases q2:H b with
      |none=>exact un.keep b o e q2 (by intro z;exact absurd (show b∈([]:List Addr) from z) (by simp)) (by simp)
      | some u2=>
        rcases hO b with z|⟨ob,u3,z⟩
        ·rw[q2] at z;cases z
        ·have z2:=un.qdr b ob _ z;obtain⟨e1,_⟩:=hok b _ z;obtain⟨e2,_⟩:=hok' b _ z2;rw[e] at e1;cases e1;exact e2
     have KX':K.In s'.heap:=fun b o e=>kept b o (KX b o e);obtain⟨as,hrd⟩:=Dw.reads (R:=R) (cl:=cl) hok' KX' d0 v u q r';exact⟨u,as,rfl,hrd,OldK.of_keep kept,os,bare⟩
theorem q3l{ds:List WData}(h:WData.layableAll ds=true): ∀ d∈ds,d.weight<=1048576:=fun d hd=>
 (PySem.W.layableW_iff.mp (Wi.mp h d hd)).2.2
theorem qpv:∀ (cs:List Codec) (a:Codec.denoteAll cs),(Codec.encAll cs a).length=cs.length
 |[],_=>rfl
 | c::cs,a=>by
   show (Codec.encAll cs a.2).length+1=cs.length+1;rw[qpv cs a.2]
theorem zav{r:OpenSpec}{k:Nat}{q:Program}{loose:List Str}{XP:(Str->Option Value)->Heap->Prop}{YP:World->Heap->Prop}{d:DefRec}{K:Params->PySem.W.Frag}{CX:World->CXT}{ps:List Str}{sp:World->Sp}
  (qme:r.wellSaid=true)(hdf:d.params.defaults=[])(hlen:r.args.length=ps.length)(hr:Qar k callerA)
  (hY:∀ (w:World) (h:Heap),YP w h->(K w.params).In h)
  (F:∀ (w:World) (mg:Str->Option Value) (fa:Addr) (h:Heap),YP w h->(K w.params).In h->h.Ns mainGlobals mg->mg d.name=some (.ref fa) ->
   ∃ fd:FuncData,(∀ (s:Shared) (us:List Value),us.length=ps.length->BindsTo s fd ⟨us,[]⟩ (ps.zip us)) /\
     ∀ base:Heap,(K w.params).In base->base.Ns mainGlobals mg->Qcd r.prog w (K w.params) mg base (CX w) k fa fd ps (sp w))
  (hsp:∀ (w:World) (H:Hp) (xs:List V) (a:Codec.denoteAll r.args),Qhq H->Codec.withinAll r.args a=true->Codec.app r.args r.asked a=true->Qc8 (K w.params) H xs (Codec.encAll r.args a) ->
   sp w xs H (fun v H'=>Dw (K w.params) H' v (r.ret.enc (Codec.app r.args r.f a))) fun _ _ _=>False)
  (hCX:∀ (w:World) (H:Hp) (s:Shared) (e:Value) (s':Shared),CX w [] H s (fun _ _ _=>False) e s'->False):
  PySem.W.WalkOS q loose XP YP r d [] (fun f vs=>PySem.call f vs):=by
 intro w s_0 s₁ mg mb G Y fa o pm cd doc dV kV ho hd hcd hD hmg hg args vals as hpre hlay hrd hwl hlo;obtain⟨a,e1,e2⟩:=PySem.W.os_pre_some hpre;obtain⟨e3,hwi⟩:=Codec.encAll_of_decAll r.args args a e1;subst e3;have KX:=hY w _ Y;obtain⟨fd,hb,hF⟩:=F w mg fa _ Y KX G.T.g hmg;refine PySem.W.enter_call (Ur (q83 (R:=[]) (cl:=classAt s_0.heap) (d0:=r.ret.enc (Codec.app r.args r.f a)) KX G.T.g G.T.b G.T.builtins G.T.nolimit hg hwl (qr8 _ _) (q3l hlay) hr hF hb (by rw[qpv];exact hlen)
  (fun H xs hO hS=>hsp w H xs a hO hwi e2 hS) fun H e s'=>hCX w H s₁ e s') fun r' s' hq=>?_)
 obtain⟨u,as',rfl,h1,h2,h3,h4⟩:=hq;exact⟨.inl ⟨u,_,as',rfl,fun _=>rfl,h1,(OpenSpec.post_iff qme hwi _ _).mpr rfl,fun z=>Bool.noConfusion (show false=true from z)⟩,h2,h3,h4⟩
theorem zaw{r:OpenSpec}{k:Nat}{q:Program}{loose:List Str}{XP:(Str->Option Value)->Heap->Prop}{YP:World->Heap->Prop}{d:DefRec}{K:Params->PySem.W.Frag}{CX:CXT}{ps:List Str}{sp:PySem.W.Frag->Sp}
  (qme:r.wellSaid=true)(hdf:d.params.defaults=[])(hlen:r.args.length=ps.length)(hr:Qar k callerA)
  (hY:∀ (w:World) (h:Heap),YP w h->(K w.params).In h)
  (F:∀ (w:World) (mg:Str->Option Value) (fa:Addr) (h:Heap),YP w h->(K w.params).In h->h.Ns mainGlobals mg->mg d.name=some (.ref fa) ->
   ∃ fd:FuncData,(∀ (s:Shared) (us:List Value),us.length=ps.length->BindsTo s fd ⟨us,[]⟩ (ps.zip us)) /\
     ∀ base:Heap,(K w.params).In base->base.Ns mainGlobals mg->Qcd r.prog w (K w.params) mg base CX k fa fd ps (sp (K w.params)))
  (hsp:∀ (K:PySem.W.Frag) (H:Hp) (xs:List V) (a:Codec.denoteAll r.args),Qhq H->Codec.withinAll r.args a=true->Codec.app r.args r.asked a=true->Qc8 K H xs (Codec.encAll r.args a) ->
   sp K xs H (fun v H'=>Dw K H' v (r.ret.enc (Codec.app r.args r.f a))) fun _ _ _=>False)
  (hCX:∀ (H:Hp) (s:Shared) (e:Value) (s':Shared),CX [] H s (fun _ _ _=>False) e s'->False):
  PySem.W.WalkOS q loose XP YP r d [] (fun f vs=>PySem.call f vs):=
 zav (K:=K) (CX:=fun _=>CX) (sp:=fun w=>sp (K w.params)) qme hdf hlen hr hY F (fun w H xs a h1 h2 h3 h4=>hsp (K w.params) H xs a h1 h2 h3 h4) fun _ H s e s'=>hCX H s e s'
end L2
end
namespace L2
open PySem PySem.Spec PyProof.Rows
def inClass(s:Stmt)(j:Nat): Stmt:=match s with
 | .ClassDef _ _ _ body _ _ _ _ _ _ _=>body.getD j (.Pass ⟨0,0,0,0⟩)
 |_=>.Pass ⟨0,0,0,0⟩
def qen(s:Stmt): Arguments:=match s with
 | .FunctionDef _ a _ _ _ _ _ _ _ _=>a
 |_=>{ posonlyargs:=[],args:=[],vararg:=none,kwonlyargs:=[],kw_defaults:=[],kwarg:=none,defaults:=[] }
def qcz(s:Stmt): List Stmt:=match s with
 | .FunctionDef _ _ b _ _ _ _ _ _ _=>b
 |_=>[]
def k7(s:Stmt): Scope:=match s with
 | .FunctionDef _ _ _ _ _ _ sc _ _ _=>sc
 |_=>{ kind:=.function,names:=[],isGenerator:=false,isCoroutine:=false }
abbrev CX0:CXT:=fun _ _ _ _ _ _=>False
abbrev E0:XK:=fun _ _ _=>False
theorem qju{X:Cx}: Passes CX0 X E0:=fun _ _ _ _ _ _ _ h=>h.elim
structure Fun(K:PySem.W.Frag)(x qual:Str)(st:Stmt)(f:Addr)(fd:FuncData): Prop where
 ex:∃ (oc:Value) (od:Option Addr) (kV doc pm:Value) (an:Option Addr) (cdv ct:Value) (osl:Array (Option Value)),
  fd=PySem.W.fnOf x qual (qen st) (qcz st) (k7 st) .none kV doc pm an cdv ct/\K.lookup f=some ⟨oc,od,.func fd,osl⟩/\PySem.W.codeIn K cdv qual=true
 kp:PySem.W.keepIn K (.ref f)=true
section
variable {P:Program} {w:World} {K:PySem.W.Frag} {mg:Str->Option Value} {base:Heap}
theorem Fun.ok{x qual:Str}{st:Stmt}{f:Addr}{fd:FuncData}{N ps:List Str}{k:Nat}{sp:Sp}(F:Fun K x qual st f fd)(S:Vg N ps (k7 st))(len:∀ vs H Q E,sp vs H Q E->vs.length=ps.length)
  (hbody:∀ (cdv:Value) (A:Around) (outer:List Env) (s:Shared) (H:Hp) (vs:List V) (Q:VK) (E:XK),Qar k (A.deeper (envOfC qual (k7 st) s.heap.objs.size f cdv))->sp vs H Q E ->
   ∃ t,PSs (qcp CX0 P w K mg base N qual (k7 st) f cdv A outer s H E).nox (qcz st) t/\t { nx:=fun _ H'=>Q .non H',rt:=Q } (start N vs) H): Qcd P w K mg base CX0 (k+1) f fd ps sp:=by
 obtain⟨oc,od,kV,doc,pm,an,cdv,ct,osl,rfl,lk,hcd⟩:=F.ex;refine fn_of lk hcd S len fun A outer s H vs Q E hr hsp=>?_;obtain⟨t,h,q⟩:=hbody cdv A outer s H vs Q E hr hsp;exact⟨t,h.nox,q⟩
theorem Fun.binds{x qual:Str}{st:Stmt}{f:Addr}{fd:FuncData}{ps:List Str}(F:Fun K x qual st f fd)
  (h:∀ (kV doc pm:Value) (an:Option Addr) (cdv ct:Value) (us:List Value),us.length=ps.length->bindArgs (PySem.W.fnOf x qual (qen st) (qcz st) (k7 st) .none kV doc pm an cdv ct) ⟨us,[]⟩=pure (ps.zip us)): Binds K fd ps []:=by
 obtain⟨oc,od,kV,doc,pm,an,cdv,ct,osl,rfl,lk,hcd⟩:=F.ex;exact .all (h kV doc pm an cdv ct)
theorem qp9{x qual:Str}{st:Stmt}{f:Addr}{oc:Value}{od an:Option Addr}{osl:Array (Option Value)}{kV doc pm cdv ct:Value}(l:K.lookup f=some ⟨oc,od,.func (PySem.W.fnOf x qual (qen st) (qcz st) (k7 st) .none kV doc pm an cdv ct),osl⟩)
  (c:PySem.W.codeIn K cdv qual=true)(k:PySem.W.keepIn K (.ref f)=true): Fun K x qual st f (PySem.W.fnOf x qual (qen st) (qcz st) (k7 st) .none kV doc pm an cdv ct):=⟨⟨oc,od,kV,doc,pm,an,cdv,ct,osl,rfl,l,c⟩,k⟩
end
theorem qan{A:Around}{k:Nat}(hr:Qar k A): A.units+1<cLine:=Wu (Nat.add_le_add_left (by decide:1<=64) _) hr.units
theorem qa8{n:Nat}(h:n<=1000): n<sizeLine:=Wu h (by decide)
section
variable {X:Cx}
theorem pv(i:Nat){x:Str}{pos:Pos}(hN:X.N[i]?=some x:=by rfl)(hv:Vis X.env.scope x:=by first|exact Or.inl rfl|exact Or.inr (Or.inl rfl)|exact Or.inr (Or.inr rfl))(hd:(x==("__debug__" : Str))=false:=by decide)
  (hcd:(x==("__classdict__" : Str))=false:=by decide): PE X (.Name x pos) (yc i):=pe_var hN hv hd hcd
theorem qxx:Qd3 X (.builtin "len") (fun xs H Q=>∃ a kvs,xs=[V.ref a]/\H a=some (.dK kvs)/\Q (.int kvs.length) H):=by
 intro pins s σ H xs us Q I r h;obtain⟨a,kvs,rfl,ha,q⟩:=h;obtain⟨u,rfl,ru⟩:=vals1 r;cases ru;exact d_len I (.inl ha) fun t s' I'=>⟨.int kvs.length,H,I',⟨t,rfl⟩,q⟩
end
theorem qa3{A B:Prop}(h:B): if false=true then A else B:=by
 rw[Jc Jr];exact h
theorem qax{A B:Prop}(h:A): if true=true then A else B:=by
 rw[Je rfl];exact h
def Kh(H H':Hp): Prop:=∀ b o,H b=some o->H' b=some o
theorem Kh.refl(H:Hp): Kh H H:=fun _ _ h=>h
theorem Kh.trans{H H1 H2:Hp}(a:Kh H H1)(b:Kh H1 H2): Kh H H2:=fun c o h=>b c o (a c o h)
theorem Kh.free{H H':Hp}(e:Kh H H'){l:Addr}(h:H' l=Option.none): H l=Option.none:=by
 cases q:H l with
 |none=>rfl
 | some o=>
   rw[e l o q] at h;cases h
theorem Kh.seq{K:PySem.W.Frag}{H H':Hp}{a:Addr}{xs:List V}(e:Kh H H')(h:SqL K H a xs): SqL K H' a xs:=by
 rcases h with (h|⟨o,h⟩)|h
 ·exact .inl (.inl (e _ _ h))
 ·exact .inl (.inr ⟨o,e _ _ h⟩)
 ·exact .inr h
section
variable {κ:Type} [DecidableEq κ]
theorem zas{kvs:List (κ×V)}{k:κ}{v:V}(h:vj kvs k=some v): k∈kvs.map (·.1):=by
 have q:(kvs.any fun kv=>decide (kv.1=k))=true:=by
  rw[qhi,h];all_goals rfl
 obtain⟨p,hp,e⟩:=Y9.mp q;exact Jk.mpr ⟨p,hp,Zl e⟩
end
end L2
namespace QZ
open PySem
open Sem (wp)
abbrev Qaj(h:Heap)(z TI TO:Addr)(f0 f1:Value): Prop:=
 h.get? z=some { cls:=.type "zip",dict:=none,data:=.fields #[f0,f1,.bool false,.ref TI,.ref TO],slots:=#[] }
abbrev IsT(h:Heap)(T:Addr)(vs:Array Value): Prop:=h.get? T=some { cls:=.type "tuple",data:=.seq vs }
section
variable {prog:Program} {w:World} {A:Around} {E:Value->Shared->Prop} {s:Shared}
theorem alive{a:Addr}{o:Obj}{Q:Option Obj->Shared->Prop}(ho:s.heap.get? a=some o)(h:Q (some o) s): wpAny (model prog w) A (loadIfAlive a) Q E s:=by
 have h':Q (s.heap.get? a) s:=by rw[ho];exact h
 exact fun _ _ _=>h'
theorem qhm{T:Addr}{vs:Array Value}{x:Value}{k:Nat}{Q:Unit->Shared->Prop}(hT:IsT s.heap T vs)
  (h:∀ h',IsT h' T (vs.setIfInBounds k x)->Heap.SameBut T s.heap h'->Q () { s with heap:=h' })(hz:vs.size<=3:=by simp):
  wpAny (model prog w) A (updateSeq T (·.setIfInBounds k x)) Q E s:=by
 have h3:(3:Nat)<=sizeLine:=by decide
 refine Uj hT rfl (h _ ?_ (Wr ..)) (hz:=by omega) (_hz':=by rw[Array.size_setIfInBounds];omega);show Heap.get? _ T=_;rw[Yy _ hT rfl];simp[Obj.mapSeq]
structure Ap2(z TI TO i1 i2:Addr)(f1 f2:List Addr): Prop where
 TIz:TI≠z
 TOz:TO≠z
 TITO:TI≠TO
 i1z:i1≠z
 TIi1:TI≠i1
 TOi1:TO≠i1
 i1i2:i1≠i2
 fp1:∀ b∈f1,b≠z/\b≠TO/\b≠i2
 i2z:i2≠z
 TIi2:TI≠i2
 TOi2:TO≠i2
 i2i1:i2≠i1
 fp2:∀ b∈f2,b≠z/\b≠TO/\b≠i1
def Own2(h:Heap)(z TO i1 i2:Addr)(f0:Value): Prop:=f0 = .none\/∃ T:Addr,f0=rawInt T/\T≠z/\T≠TO/\T≠i1/\T≠i2/\∃ o,h.get? T=some o
theorem za4{z TI TO i1 i2:Addr}{n1:Nat}{f1:List Addr}{P1:Nat->Value->Prop}{S1:Nat->Heap->Prop}(D1:Draws prog w A i1 f1 n1 P1 S1){n2:Nat}{f2:List Addr}{P2:Nat->Value->Prop}{S2:Nat->Heap->Prop}(D2:Draws prog w A i2 f2 n2 P2 S2){k:Nat}{f0:Value}{fb:Bool}{Q:Value->Shared->Prop}(Ap:Ap2 z TI TO i1 i2 f1 f2)(hz:Qaj s.heap z TI TO f0 (.bool fb))(ho:Own2 s.heap z TO i1 i2 f0)(hTI:IsT s.heap TI #[.ref i1,.ref i2])(hTO:∃ a1 a2,IsT s.heap TO #[a1,a2])(h1:S1 k s.heap)(l1:k<n1)(h2:S2 k s.heap)(l2:k<n2)
  (hQ:∀ h' tk x1 x2 f0' fb',P1 k x1->P2 k x2->Qaj h' z TI TO f0' (.bool fb')->Own2 h' z TO i1 i2 f0'->(∃ a1 a2,IsT h' TO #[a1,a2])->S1 (k+1) h'->S2 (k+1) h'->IsT h' s.heap.objs.size #[x1,x2]->h'.objs.size=s.heap.objs.size+1->(∀ c o,c≠z->c≠TO->c≠i1->c≠i2->s.heap.get? c=some o->h'.get? c=some o)->Q (.ref s.heap.objs.size) { s with heap:=h',toks:=tk }):
  wpAny (model prog w) A (Builtin.«zip.__next__» ⟨[.ref z],[]⟩) (fun fin s'=>∃ v,fin = .done (.ret v)/\Q v s') E s:=by
 obtain⟨a1,a2,hTO⟩:=hTO;have lz:z<s.heap.objs.size:=Jl hz;have lTO:TO<s.heap.objs.size:=Jl hTO;have li1:i1<s.heap.objs.size:=by obtain⟨_,e⟩:=D1.live _ _ h1;exact Jl e
 have li2:i2<s.heap.objs.size:=by obtain⟨_,e⟩:=D2.live _ _ h2;exact Jl e
 show wpAny _ _ (field (.ref z) 2 >>= _) _ _ _;refine Ja (Xo hz rfl (x:=.bool false) rfl ?_);show wpAny _ _ (field (.ref z) 3 >>= _) _ _ _;refine Ja (Xo hz rfl (x:=.ref TI) rfl ?_);refine Ja (Yc hTI rfl ?_);show wpAny _ _ (Builtin.SmallTypes.ownedTupleIsFree (.ref z) >>= _) _ _ _;refine Ja ?_;unfold Builtin.SmallTypes.ownedTupleIsFree;rcases ho with rfl|⟨T,rfl,Tz,TTO,Ti1,Ti2,oT,hT⟩
 ·refine Ja (Xo hz rfl (x:=.none) rfl (Jg ?_));simp only[Wh];refine Ja (Uw ?_);refine Ja (Xo hz rfl (x:=.ref TO) rfl ?_);refine Ja (X4 hz (by simp) fun g0 hz0 sb0=>?_);replace hz0:Qaj g0 z TI TO .ellipsis (.bool fb):=hz0;refine Ja ?_;simp only[Qi,Qu,Ym,Yl];have k0:∀ c o,c≠z->c≠TO->c≠i1->c≠i2->s.heap.get? c=some o->g0.get? c=some o:=fun c o c1 _ _ _ e=>sb0.extBut _ _ c1 e;have T0:IsT g0 TO #[a1,a2]:=sb0.extBut _ _ Ap.TOz hTO;have z0:g0.objs.size=s.heap.objs.size:=sb0.1;have Qbo:S1 k g0:=D1.frame _ _ _ h1 fun b hb o e=>sb0.extBut _ _ (Ap.fp1 b hb).1 e;have Qb8:S2 k g0:=D2.frame _ _ _ h2 fun b hb o e=>sb0.extBut _ _ (Ap.fp2 b hb).1 e;refine Ja (Ja (Z9 ?_));show wpAny _ _ (Builtin.SmallTypes.nextOf (.ref i1) >>= _) _ _ _;refine Ja (D1.item k _ _ _ l1 Qbo fun x1 g1 tk1 p1 q1 sb1=>Jg ?_);have T1:IsT g1 TO #[a1,a2]:=sb1.extBut _ _ Ap.TOi1 T0;have hz1:Qaj g1 z TI TO .ellipsis (.bool fb):=sb1.extBut _ _ (Xb Ap.i1z) hz0;have Qb9:S2 k g1:=D2.frame _ _ _ Qb8 fun b hb o e=>sb1.extBut _ _ ((Ap.fp2 b hb).2.2) e;refine Ja (Yc T1 rfl ?_);refine Ja (qhm T1 fun g2 T2 sb2=>?_);replace T2:IsT g2 TO #[x1,a2]:=T2;refine Ja (W2 (Jg ?_));have hz2:Qaj g2 z TI TO .ellipsis (.bool fb):=sb2.extBut _ _ (Xb Ap.TOz) hz1;have Qdq:S1 (k+1) g2:=D1.frame _ _ _ q1 fun b hb o e=>sb2.extBut _ _ (Ap.fp1 b hb).2.1 e;have Qcv:S2 k g2:=D2.frame _ _ _ Qb9 fun b hb o e=>sb2.extBut _ _ (Ap.fp2 b hb).2.1 e;refine Ja (Ja (Z9 ?_));show wpAny _ _ (Builtin.SmallTypes.nextOf (.ref i2) >>= _) _ _ _;refine Ja (D2.item k _ _ _ l2 Qcv fun x2 g3 tk2 p2 q2 sb3=>Jg ?_);have T3:IsT g3 TO #[x1,a2]:=sb3.extBut _ _ Ap.TOi2 T2;have hz3:Qaj g3 z TI TO .ellipsis (.bool fb):=sb3.extBut _ _ (Xb Ap.i2z) hz2;have Qfs:S1 (k+1) g3:=D1.frame _ _ _ Qdq fun b hb o e=>sb3.extBut _ _ ((Ap.fp1 b hb).2.2) e;refine Ja (Yc T3 rfl ?_);refine Ja (qhm T3 fun g4 T4 sb4=>?_);replace T4:IsT g4 TO #[x1,x2]:=T4;refine Ja (W2 (Jg (Jg ?_)));have hz4:Qaj g4 z TI TO .ellipsis (.bool fb):=sb4.extBut _ _ (Xb Ap.TOz) hz3;have S1_4:S1 (k+1) g4:=D1.frame _ _ _ Qfs fun b hb o e=>sb4.extBut _ _ (Ap.fp1 b hb).2.1 e;have S2_4:S2 (k+1) g4:=D2.frame _ _ _ q2 fun b hb o e=>sb4.extBut _ _ (Ap.fp2 b hb).2.1 e;refine Ja (Yc T4 rfl ?_);refine Ja (W5 ?_);have zg:g4.objs.size=s.heap.objs.size:=by rw[sb4.1,sb3.1,sb2.1,sb1.1,z0]
  have kg:∀ c o,c≠z->c≠TO->c≠i1->c≠i2->s.heap.get? c=some o->g4.get? c=some o:=fun c o c1 c2 d1 d2 e=>sb4.extBut _ _ c2 (sb3.extBut _ _ d2 (sb2.extBut _ _ c2 (sb1.extBut _ _ d1 (k0 c o c1 c2 d1 d2 e))));show wpAny _ _ (Builtin.SmallTypes.ownedTupleHandOut (.ref z) (.ref g4.objs.size) >>= _) _ _ _;refine Ja ?_;unfold Builtin.SmallTypes.ownedTupleHandOut;have hzp:Qaj (g4.push { cls:=.type "tuple",data:=.seq #[x1,x2] }) z TI TO .ellipsis (.bool fb):=Jb _ hz4;refine Ja (X4 hzp (by simp) fun u1 hu1 su1=>?_);replace hu1:Qaj u1 z TI TO (rawInt g4.objs.size) (.bool fb):=hu1;refine X4 hu1 (by simp) fun u2 hu2 su2=>?_;replace hu2:Qaj u2 z TI TO (rawInt g4.objs.size) (.bool false):=hu2;have up:∀ c o,c≠z->g4.get? c=some o->u2.get? c=some o:=fun c o c1 e=>su2.extBut _ _ c1 (su1.extBut _ _ c1 (Jb _ e));have hTn:IsT u2 g4.objs.size #[x1,x2]:=su2.extBut _ _ (by rw[zg];exact J5 lz) (su1.extBut _ _ (by rw[zg];exact J5 lz) (Js _ rfl));have zu:u2.objs.size=g4.objs.size+1:=by rw[su2.1,su1.1,J6]
  rw[zg] at hu2 hTn zu;refine Jg ⟨_,rfl,?_⟩;show Q (.ref g4.objs.size) _;rw[zg];exact hQ u2 _ x1 x2 _ _ p1 p2 hu2 (.inr ⟨_,rfl,J5 lz,J5 lTO,J5 li1,J5 li2,_,hTn⟩) ⟨x1,x2,up _ _ Ap.TOz T4⟩ (D1.frame _ _ _ S1_4 fun b hb o e=>up b o (Ap.fp1 b hb).1 e) (D2.frame _ _ _ S2_4 fun b hb o e=>up b o (Ap.fp2 b hb).1 e) hTn zu fun c o c1 c2 d1 d2 e=>up c o c1 (kg c o c1 c2 d1 d2 e)
 ·refine Ja (Xo hz rfl (x:=rawInt T) rfl ?_);show wpAny _ _ (loadIfAlive ((T:Int).toNat) >>= _) _ _ _;rw[J1];refine Ja (alive hT ?_);simp only[Uu,Xr,X9];refine Ja (Xo hz rfl (x:=.bool fb) rfl ?_);cases fb with
  | true=>
    rw[Jc (show ¬ ((Value.bool true != Value.bool true)=true) from Jr)];refine Jg ?_;have sr:Heap.SameBut z s.heap s.heap:=Heap.SameBut.refl _ _;have k0:∀ c o,c≠z->c≠TO->c≠i1->c≠i2->s.heap.get? c=some o->s.heap.get? c=some o:=fun c o c1 _ _ _ e=>sr.extBut _ _ c1 e;have Qbo:S1 k s.heap:=D1.frame _ _ _ h1 fun b hb o e=>sr.extBut _ _ (Ap.fp1 b hb).1 e;have Qb8:S2 k s.heap:=D2.frame _ _ _ h2 fun b hb o e=>sr.extBut _ _ (Ap.fp2 b hb).1 e;simp only[Xr,X9];refine Ja ?_;simp only[<- Zd,Ym,Yl];refine Ja (Ja (Xi ?_));show wpAny _ _ (Builtin.SmallTypes.nextOf (.ref i1) >>= _) _ _ _;refine Ja (D1.item k _ _ _ l1 Qbo fun x1 g1 tk1 p1 q1 sb1=>Jg (Jg ?_));have Qfr:S1 (k+1) g1:=q1;have Qb9:S2 k g1:=D2.frame _ _ _ Qb8 fun b hb o e=>sb1.extBut _ _ ((Ap.fp2 b hb).2.2) e;refine Ja (Ja (Xi ?_));show wpAny _ _ (Builtin.SmallTypes.nextOf (.ref i2) >>= _) _ _ _;refine Ja (D2.item k _ _ _ l2 Qb9 fun x2 g2 tk2 p2 q2 sb2=>Jg (Jg (Jg ?_)));have Qdq:S1 (k+1) g2:=D1.frame _ _ _ Qfr fun b hb o e=>sb2.extBut _ _ ((Ap.fp1 b hb).2.2) e;have Qcv:S2 (k+1) g2:=q2;refine Ja (W5 (hsz:=by show 2<=sizeLine;decide) (Jg ⟨_,rfl,?_⟩));have zg:g2.objs.size=s.heap.objs.size:=by rw[sb2.1,sb1.1,sr.1]
    have kg:∀ c o,c≠z->c≠TO->c≠i1->c≠i2->s.heap.get? c=some o->g2.get? c=some o:=fun c o c1 c2 d1 d2 e=>sb2.extBut _ _ d2 (sb1.extBut _ _ d1 (k0 c o c1 c2 d1 d2 e));have hzn:Qaj g2 z TI TO (rawInt T) (.bool true):=sb2.extBut _ _ (Xb Ap.i2z) (sb1.extBut _ _ (Xb Ap.i1z) (hz));show Q (.ref g2.objs.size) _;have hTn:IsT (g2.push { cls:=.type "tuple",data:=.seq #[x1,x2] }) g2.objs.size #[x1,x2]:=Js _ rfl;have zu:(g2.push { cls:=.type "tuple",data:=.seq #[x1,x2] }).objs.size=g2.objs.size+1:=J6 ..;rw[zg] at hTn zu ⊢;exact hQ _ _ x1 x2 _ _ p1 p2 (Jb _ hzn) (.inr ⟨T,rfl,Tz,TTO,Ti1,Ti2,oT,Jb _ (kg _ _ Tz TTO Ti1 Ti2 hT)⟩) ⟨a1,a2,Jb _ (sb2.extBut _ _ Ap.TOi2 (sb1.extBut _ _ Ap.TOi1 (sr.extBut _ _ Ap.TOz hTO)))⟩ (D1.frame _ _ _ Qdq fun b hb o e=>Jb _ e) (D2.frame _ _ _ Qcv fun b hb o e=>Jb _ e) hTn zu fun c o c1 c2 d1 d2 e=>Jb _ (kg c o c1 c2 d1 d2 e)
  | false=>
    rw[Je (show (Value.bool false != Value.bool true)=true from rfl)];refine Ja (X4 hz (by simp) fun g0 hz0 sr=>?_);replace hz0:Qaj g0 z TI TO (rawInt T) (.bool true):=hz0;refine Jg ?_;have k0:∀ c o,c≠z->c≠TO->c≠i1->c≠i2->s.heap.get? c=some o->g0.get? c=some o:=fun c o c1 _ _ _ e=>sr.extBut _ _ c1 e;have Qbo:S1 k g0:=D1.frame _ _ _ h1 fun b hb o e=>sr.extBut _ _ (Ap.fp1 b hb).1 e;have Qb8:S2 k g0:=D2.frame _ _ _ h2 fun b hb o e=>sr.extBut _ _ (Ap.fp2 b hb).1 e;simp only[Xr,X9];refine Ja ?_;simp only[<- Zd,Ym,Yl];refine Ja (Ja (Xi ?_));show wpAny _ _ (Builtin.SmallTypes.nextOf (.ref i1) >>= _) _ _ _;refine Ja (D1.item k _ _ _ l1 Qbo fun x1 g1 tk1 p1 q1 sb1=>Jg (Jg ?_));have Qfr:S1 (k+1) g1:=q1;have Qb9:S2 k g1:=D2.frame _ _ _ Qb8 fun b hb o e=>sb1.extBut _ _ ((Ap.fp2 b hb).2.2) e;refine Ja (Ja (Xi ?_));show wpAny _ _ (Builtin.SmallTypes.nextOf (.ref i2) >>= _) _ _ _;refine Ja (D2.item k _ _ _ l2 Qb9 fun x2 g2 tk2 p2 q2 sb2=>Jg (Jg (Jg ?_)));have Qdq:S1 (k+1) g2:=D1.frame _ _ _ Qfr fun b hb o e=>sb2.extBut _ _ ((Ap.fp1 b hb).2.2) e;have Qcv:S2 (k+1) g2:=q2;refine Ja (W5 (hsz:=by show 2<=sizeLine;decide) (Jg ⟨_,rfl,?_⟩));have zg:g2.objs.size=s.heap.objs.size:=by rw[sb2.1,sb1.1,sr.1]
    have kg:∀ c o,c≠z->c≠TO->c≠i1->c≠i2->s.heap.get? c=some o->g2.get? c=some o:=fun c o c1 c2 d1 d2 e=>sb2.extBut _ _ d2 (sb1.extBut _ _ d1 (k0 c o c1 c2 d1 d2 e));have hzn:Qaj g2 z TI TO (rawInt T) (.bool true):=sb2.extBut _ _ (Xb Ap.i2z) (sb1.extBut _ _ (Xb Ap.i1z) (hz0));show Q (.ref g2.objs.size) _;have hTn:IsT (g2.push { cls:=.type "tuple",data:=.seq #[x1,x2] }) g2.objs.size #[x1,x2]:=Js _ rfl;have zu:(g2.push { cls:=.type "tuple",data:=.seq #[x1,x2] }).objs.size=g2.objs.size+1:=J6 ..;rw[zg] at hTn zu ⊢;exact hQ _ _ x1 x2 _ _ p1 p2 (Jb _ hzn) (.inr ⟨T,rfl,Tz,TTO,Ti1,Ti2,oT,Jb _ (kg _ _ Tz TTO Ti1 Ti2 hT)⟩) ⟨a1,a2,Jb _ (sb2.extBut _ _ Ap.TOi2 (sb1.extBut _ _ Ap.TOi1 (sr.extBut _ _ Ap.TOz hTO)))⟩ (D1.frame _ _ _ Qdq fun b hb o e=>Jb _ e) (D2.frame _ _ _ Qcv fun b hb o e=>Jb _ e) hTn zu fun c o c1 c2 d1 d2 e=>Jb _ (kg c o c1 c2 d1 d2 e)
theorem za3{z TI TO i1 i2:Addr}{n1:Nat}{f1:List Addr}{P1:Nat->Value->Prop}{S1:Nat->Heap->Prop}(D1:Draws prog w A i1 f1 n1 P1 S1){n2:Nat}{f2:List Addr}{P2:Nat->Value->Prop}{S2:Nat->Heap->Prop}(D2:Draws prog w A i2 f2 n2 P2 S2){k:Nat}{f0:Value}{fb:Bool}{Q:Fin->Shared->Prop}(Ap:Ap2 z TI TO i1 i2 f1 f2)(hz:Qaj s.heap z TI TO f0 (.bool fb))(ho:Own2 s.heap z TO i1 i2 f0)(hTI:IsT s.heap TI #[.ref i1,.ref i2])(hTO:∃ a1 a2,IsT s.heap TO #[a1,a2])(h1:S1 k s.heap)(h2:S2 k s.heap)(e1:k=n1)
  (hE:∀ h' e,(∀ c o,c≠z->c≠TO->c≠i1->c≠i2->s.heap.get? c=some o->h'.get? c=some o)->(∃ o,h'.get? e=some o/\o.cls = .type "StopIteration")->E (.ref e) { s with heap:=h' }):
  wpAny (model prog w) A (Builtin.«zip.__next__» ⟨[.ref z],[]⟩) Q E s:=by
 subst e1;obtain⟨a1,a2,hTO⟩:=hTO;show wpAny _ _ (field (.ref z) 2 >>= _) _ _ _;refine Ja (Xo hz rfl (x:=.bool false) rfl ?_);show wpAny _ _ (field (.ref z) 3 >>= _) _ _ _;refine Ja (Xo hz rfl (x:=.ref TI) rfl ?_);refine Ja (Yc hTI rfl ?_);show wpAny _ _ (Builtin.SmallTypes.ownedTupleIsFree (.ref z) >>= _) _ _ _;refine Ja ?_;unfold Builtin.SmallTypes.ownedTupleIsFree;rcases ho with rfl|⟨T,rfl,Tz,TTO,Ti1,Ti2,oT,hT⟩
 ·refine Ja (Xo hz rfl (x:=.none) rfl (Jg ?_));simp only[Wh];refine Ja (Uw ?_);refine Ja (Xo hz rfl (x:=.ref TO) rfl ?_);refine Ja (X4 hz (by simp) fun g0 hz0 sb0=>?_);replace hz0:Qaj g0 z TI TO .ellipsis (.bool fb):=hz0;refine Ja ?_;simp only[Qi,Qu,Ym,Yl];have Qbo:S1 k g0:=D1.frame _ _ _ h1 fun b hb o e=>sb0.extBut _ _ (Ap.fp1 b hb).1 e;refine Ja (Ja (Z9 ?_));show wpAny _ _ (Builtin.SmallTypes.nextOf (.ref i1) >>= _) _ _ _;refine Ja (D1.done _ _ _ Qbo fun u e su he=>?_);obtain⟨oe,hoe,hce⟩:=he;have hzu:Qaj u z TI TO .ellipsis (.bool fb):=su _ _ (Xb Ap.i1z) hz0;have hez:e≠z:=fun q=>by subst q;rw[hzu] at hoe;cases hoe;simp at hce
  refine X4 hzu (by simp) fun u2 _ s2=>hE u2 e (fun c o c1 c2 d1 _ q=>s2.extBut _ _ c1 (su _ _ d1 (sb0.extBut _ _ c1 q))) ⟨oe,s2.extBut _ _ hez hoe,hce⟩
 ·refine Ja (Xo hz rfl (x:=rawInt T) rfl ?_);show wpAny _ _ (loadIfAlive ((T:Int).toNat) >>= _) _ _ _;rw[J1];refine Ja (alive hT ?_);simp only[Uu,Xr,X9];refine Ja (Xo hz rfl (x:=.bool fb) rfl ?_);cases fb with
  | true=>
    rw[Jc (show ¬ ((Value.bool true != Value.bool true)=true) from Jr)];refine Jg ?_;simp only[Xr,X9];refine Ja ?_;simp only[<- Zd,Ym,Yl];refine Ja (Ja (Xi ?_));show wpAny _ _ (Builtin.SmallTypes.nextOf (.ref i1) >>= _) _ _ _;exact Ja (D1.done _ _ _ h1 fun u e su he=>hE u e (fun c o c1 c2 d1 _ q=>su _ _ d1 q) he)
  | false=>
    rw[Je (show (Value.bool false != Value.bool true)=true from rfl)];refine Ja (X4 hz (by simp) fun g0 hz0 sr=>?_);refine Jg ?_;have Qbo:S1 k g0:=D1.frame _ _ _ h1 fun b hb o e=>sr.extBut _ _ (Ap.fp1 b hb).1 e;simp only[Xr,X9];refine Ja ?_;simp only[<- Zd,Ym,Yl];refine Ja (Ja (Xi ?_));show wpAny _ _ (Builtin.SmallTypes.nextOf (.ref i1) >>= _) _ _ _;exact Ja (D1.done _ _ _ Qbo fun u e su he=>hE u e (fun c o c1 c2 d1 _ q=>su _ _ d1 (sr.extBut _ _ c1 q)) he)
structure Ap3(z TI TO i1 i2 i3:Addr)(f1 f2 f3:List Addr): Prop where
 TIz:TI≠z
 TOz:TO≠z
 TITO:TI≠TO
 i1z:i1≠z
 TIi1:TI≠i1
 TOi1:TO≠i1
 i1i2:i1≠i2
 i1i3:i1≠i3
 fp1:∀ b∈f1,b≠z/\b≠TO/\b≠i2/\b≠i3
 i2z:i2≠z
 TIi2:TI≠i2
 TOi2:TO≠i2
 i2i1:i2≠i1
 i2i3:i2≠i3
 fp2:∀ b∈f2,b≠z/\b≠TO/\b≠i1/\b≠i3
 i3z:i3≠z
 TIi3:TI≠i3
 TOi3:TO≠i3
 i3i1:i3≠i1
 i3i2:i3≠i2
 fp3:∀ b∈f3,b≠z/\b≠TO/\b≠i1/\b≠i2
def Own3(h:Heap)(z TO i1 i2 i3:Addr)(f0:Value): Prop:=f0 = .none\/∃ T:Addr,f0=rawInt T/\T≠z/\T≠TO/\T≠i1/\T≠i2/\T≠i3/\∃ o,h.get? T=some o
theorem za6{z TI TO i1 i2 i3:Addr}{n1:Nat}{f1:List Addr}{P1:Nat->Value->Prop}{S1:Nat->Heap->Prop}(D1:Draws prog w A i1 f1 n1 P1 S1){n2:Nat}{f2:List Addr}{P2:Nat->Value->Prop}{S2:Nat->Heap->Prop}(D2:Draws prog w A i2 f2 n2 P2 S2){n3:Nat}{f3:List Addr}{P3:Nat->Value->Prop}{S3:Nat->Heap->Prop}(D3:Draws prog w A i3 f3 n3 P3 S3){k:Nat}{f0:Value}{fb:Bool}{Q:Value->Shared->Prop}(Ap:Ap3 z TI TO i1 i2 i3 f1 f2 f3)(hz:Qaj s.heap z TI TO f0 (.bool fb))(ho:Own3 s.heap z TO i1 i2 i3 f0)(hTI:IsT s.heap TI #[.ref i1,.ref i2,.ref i3])(hTO:∃ a1 a2 a3,IsT s.heap TO #[a1,a2,a3])(h1:S1 k s.heap)(l1:k<n1)(h2:S2 k s.heap)(l2:k<n2)(h3:S3 k s.heap)(l3:k<n3)
  (hQ:∀ h' tk x1 x2 x3 f0' fb',P1 k x1->P2 k x2->P3 k x3->Qaj h' z TI TO f0' (.bool fb')->Own3 h' z TO i1 i2 i3 f0'->(∃ a1 a2 a3,IsT h' TO #[a1,a2,a3])->S1 (k+1) h'->S2 (k+1) h'->S3 (k+1) h'->IsT h' s.heap.objs.size #[x1,x2,x3]->h'.objs.size=s.heap.objs.size+1->(∀ c o,c≠z->c≠TO->c≠i1->c≠i2->c≠i3->s.heap.get? c=some o->h'.get? c=some o)->Q (.ref s.heap.objs.size) { s with heap:=h',toks:=tk }):
  wpAny (model prog w) A (Builtin.«zip.__next__» ⟨[.ref z],[]⟩) (fun fin s'=>∃ v,fin = .done (.ret v)/\Q v s') E s:=by
 obtain⟨a1,a2,a3,hTO⟩:=hTO;have lz:z<s.heap.objs.size:=Jl hz;have lTO:TO<s.heap.objs.size:=Jl hTO;have li1:i1<s.heap.objs.size:=by obtain⟨_,e⟩:=D1.live _ _ h1;exact Jl e
 have li2:i2<s.heap.objs.size:=by obtain⟨_,e⟩:=D2.live _ _ h2;exact Jl e
 have li3:i3<s.heap.objs.size:=by obtain⟨_,e⟩:=D3.live _ _ h3;exact Jl e
 show wpAny _ _ (field (.ref z) 2 >>= _) _ _ _;refine Ja (Xo hz rfl (x:=.bool false) rfl ?_);show wpAny _ _ (field (.ref z) 3 >>= _) _ _ _;refine Ja (Xo hz rfl (x:=.ref TI) rfl ?_);refine Ja (Yc hTI rfl ?_);show wpAny _ _ (Builtin.SmallTypes.ownedTupleIsFree (.ref z) >>= _) _ _ _;refine Ja ?_;unfold Builtin.SmallTypes.ownedTupleIsFree;rcases ho with rfl|⟨T,rfl,Tz,TTO,Ti1,Ti2,Ti3,oT,hT⟩
 ·refine Ja (Xo hz rfl (x:=.none) rfl (Jg ?_));simp only[Wh];refine Ja (Uw ?_);refine Ja (Xo hz rfl (x:=.ref TO) rfl ?_);refine Ja (X4 hz (by simp) fun g0 hz0 sb0=>?_);replace hz0:Qaj g0 z TI TO .ellipsis (.bool fb):=hz0;refine Ja ?_;simp only[Qi,Qu,Ym,Yl];have k0:∀ c o,c≠z->c≠TO->c≠i1->c≠i2->c≠i3->s.heap.get? c=some o->g0.get? c=some o:=fun c o c1 _ _ _ _ e=>sb0.extBut _ _ c1 e;have T0:IsT g0 TO #[a1,a2,a3]:=sb0.extBut _ _ Ap.TOz hTO;have z0:g0.objs.size=s.heap.objs.size:=sb0.1;have Qbo:S1 k g0:=D1.frame _ _ _ h1 fun b hb o e=>sb0.extBut _ _ (Ap.fp1 b hb).1 e;have Qb8:S2 k g0:=D2.frame _ _ _ h2 fun b hb o e=>sb0.extBut _ _ (Ap.fp2 b hb).1 e;have S3_0:S3 k g0:=D3.frame _ _ _ h3 fun b hb o e=>sb0.extBut _ _ (Ap.fp3 b hb).1 e;refine Ja (Ja (Z9 ?_));show wpAny _ _ (Builtin.SmallTypes.nextOf (.ref i1) >>= _) _ _ _;refine Ja (D1.item k _ _ _ l1 Qbo fun x1 g1 tk1 p1 q1 sb1=>Jg ?_);have T1:IsT g1 TO #[a1,a2,a3]:=sb1.extBut _ _ Ap.TOi1 T0;have hz1:Qaj g1 z TI TO .ellipsis (.bool fb):=sb1.extBut _ _ (Xb Ap.i1z) hz0;have Qb9:S2 k g1:=D2.frame _ _ _ Qb8 fun b hb o e=>sb1.extBut _ _ ((Ap.fp2 b hb).2.2.1) e;have S3_1:S3 k g1:=D3.frame _ _ _ S3_0 fun b hb o e=>sb1.extBut _ _ ((Ap.fp3 b hb).2.2.1) e;refine Ja (Yc T1 rfl ?_);refine Ja (qhm T1 fun g2 T2 sb2=>?_);replace T2:IsT g2 TO #[x1,a2,a3]:=T2;refine Ja (W2 (Jg ?_));have hz2:Qaj g2 z TI TO .ellipsis (.bool fb):=sb2.extBut _ _ (Xb Ap.TOz) hz1;have Qdq:S1 (k+1) g2:=D1.frame _ _ _ q1 fun b hb o e=>sb2.extBut _ _ (Ap.fp1 b hb).2.1 e;have Qcv:S2 k g2:=D2.frame _ _ _ Qb9 fun b hb o e=>sb2.extBut _ _ (Ap.fp2 b hb).2.1 e;have S3_2:S3 k g2:=D3.frame _ _ _ S3_1 fun b hb o e=>sb2.extBut _ _ (Ap.fp3 b hb).2.1 e;refine Ja (Ja (Z9 ?_));show wpAny _ _ (Builtin.SmallTypes.nextOf (.ref i2) >>= _) _ _ _;refine Ja (D2.item k _ _ _ l2 Qcv fun x2 g3 tk2 p2 q2 sb3=>Jg ?_);have T3:IsT g3 TO #[x1,a2,a3]:=sb3.extBut _ _ Ap.TOi2 T2;have hz3:Qaj g3 z TI TO .ellipsis (.bool fb):=sb3.extBut _ _ (Xb Ap.i2z) hz2;have Qfs:S1 (k+1) g3:=D1.frame _ _ _ Qdq fun b hb o e=>sb3.extBut _ _ ((Ap.fp1 b hb).2.2.1) e;have S3_3:S3 k g3:=D3.frame _ _ _ S3_2 fun b hb o e=>sb3.extBut _ _ ((Ap.fp3 b hb).2.2.2) e;refine Ja (Yc T3 rfl ?_);refine Ja (qhm T3 fun g4 T4 sb4=>?_);replace T4:IsT g4 TO #[x1,x2,a3]:=T4;refine Ja (W2 (Jg ?_));have hz4:Qaj g4 z TI TO .ellipsis (.bool fb):=sb4.extBut _ _ (Xb Ap.TOz) hz3;have S1_4:S1 (k+1) g4:=D1.frame _ _ _ Qfs fun b hb o e=>sb4.extBut _ _ (Ap.fp1 b hb).2.1 e;have S2_4:S2 (k+1) g4:=D2.frame _ _ _ q2 fun b hb o e=>sb4.extBut _ _ (Ap.fp2 b hb).2.1 e;have S3_4:S3 k g4:=D3.frame _ _ _ S3_3 fun b hb o e=>sb4.extBut _ _ (Ap.fp3 b hb).2.1 e;refine Ja (Ja (Z9 ?_));show wpAny _ _ (Builtin.SmallTypes.nextOf (.ref i3) >>= _) _ _ _;refine Ja (D3.item k _ _ _ l3 S3_4 fun x3 g5 tk3 p3 q3 sb5=>Jg ?_);have T5:IsT g5 TO #[x1,x2,a3]:=sb5.extBut _ _ Ap.TOi3 T4;have hz5:Qaj g5 z TI TO .ellipsis (.bool fb):=sb5.extBut _ _ (Xb Ap.i3z) hz4;have S1_5:S1 (k+1) g5:=D1.frame _ _ _ S1_4 fun b hb o e=>sb5.extBut _ _ ((Ap.fp1 b hb).2.2.2) e;have S2_5:S2 (k+1) g5:=D2.frame _ _ _ S2_4 fun b hb o e=>sb5.extBut _ _ ((Ap.fp2 b hb).2.2.2) e;refine Ja (Yc T5 rfl ?_);refine Ja (qhm T5 fun g6 T6 sb6=>?_);replace T6:IsT g6 TO #[x1,x2,x3]:=T6;refine Ja (W2 (Jg (Jg ?_)));have hz6:Qaj g6 z TI TO .ellipsis (.bool fb):=sb6.extBut _ _ (Xb Ap.TOz) hz5;have S1_6:S1 (k+1) g6:=D1.frame _ _ _ S1_5 fun b hb o e=>sb6.extBut _ _ (Ap.fp1 b hb).2.1 e;have S2_6:S2 (k+1) g6:=D2.frame _ _ _ S2_5 fun b hb o e=>sb6.extBut _ _ (Ap.fp2 b hb).2.1 e;have S3_6:S3 (k+1) g6:=D3.frame _ _ _ q3 fun b hb o e=>sb6.extBut _ _ (Ap.fp3 b hb).2.1 e;refine Ja (Yc T6 rfl ?_);refine Ja (W5 ?_);have zg:g6.objs.size=s.heap.objs.size:=by rw[sb6.1,sb5.1,sb4.1,sb3.1,sb2.1,sb1.1,z0]
  have kg:∀ c o,c≠z->c≠TO->c≠i1->c≠i2->c≠i3->s.heap.get? c=some o->g6.get? c=some o:=fun c o c1 c2 d1 d2 d3 e=>sb6.extBut _ _ c2 (sb5.extBut _ _ d3 (sb4.extBut _ _ c2 (sb3.extBut _ _ d2 (sb2.extBut _ _ c2 (sb1.extBut _ _ d1 (k0 c o c1 c2 d1 d2 d3 e))))));show wpAny _ _ (Builtin.SmallTypes.ownedTupleHandOut (.ref z) (.ref g6.objs.size) >>= _) _ _ _;refine Ja ?_;unfold Builtin.SmallTypes.ownedTupleHandOut;have hzp:Qaj (g6.push { cls:=.type "tuple",data:=.seq #[x1,x2,x3] }) z TI TO .ellipsis (.bool fb):=Jb _ hz6;refine Ja (X4 hzp (by simp) fun u1 hu1 su1=>?_);replace hu1:Qaj u1 z TI TO (rawInt g6.objs.size) (.bool fb):=hu1;refine X4 hu1 (by simp) fun u2 hu2 su2=>?_;replace hu2:Qaj u2 z TI TO (rawInt g6.objs.size) (.bool false):=hu2;have up:∀ c o,c≠z->g6.get? c=some o->u2.get? c=some o:=fun c o c1 e=>su2.extBut _ _ c1 (su1.extBut _ _ c1 (Jb _ e));have hTn:IsT u2 g6.objs.size #[x1,x2,x3]:=su2.extBut _ _ (by rw[zg];exact J5 lz) (su1.extBut _ _ (by rw[zg];exact J5 lz) (Js _ rfl));have zu:u2.objs.size=g6.objs.size+1:=by rw[su2.1,su1.1,J6]
  rw[zg] at hu2 hTn zu;refine Jg ⟨_,rfl,?_⟩;show Q (.ref g6.objs.size) _;rw[zg];exact hQ u2 _ x1 x2 x3 _ _ p1 p2 p3 hu2 (.inr ⟨_,rfl,J5 lz,J5 lTO,J5 li1,J5 li2,J5 li3,_,hTn⟩) ⟨x1,x2,x3,up _ _ Ap.TOz T6⟩ (D1.frame _ _ _ S1_6 fun b hb o e=>up b o (Ap.fp1 b hb).1 e) (D2.frame _ _ _ S2_6 fun b hb o e=>up b o (Ap.fp2 b hb).1 e) (D3.frame _ _ _ S3_6 fun b hb o e=>up b o (Ap.fp3 b hb).1 e) hTn zu fun c o c1 c2 d1 d2 d3 e=>up c o c1 (kg c o c1 c2 d1 d2 d3 e)
 ·refine Ja (Xo hz rfl (x:=rawInt T) rfl ?_);show wpAny _ _ (loadIfAlive ((T:Int).toNat) >>= _) _ _ _;rw[J1];refine Ja (alive hT ?_);simp only[Uu,Xr,X9];refine Ja (Xo hz rfl (x:=.bool fb) rfl ?_);cases fb with
  | true=>
    rw[Jc (show ¬ ((Value.bool true != Value.bool true)=true) from Jr)];refine Jg ?_;have sr:Heap.SameBut z s.heap s.heap:=Heap.SameBut.refl _ _;have k0:∀ c o,c≠z->c≠TO->c≠i1->c≠i2->c≠i3->s.heap.get? c=some o->s.heap.get? c=some o:=fun c o c1 _ _ _ _ e=>sr.extBut _ _ c1 e;have Qbo:S1 k s.heap:=D1.frame _ _ _ h1 fun b hb o e=>sr.extBut _ _ (Ap.fp1 b hb).1 e;have Qb8:S2 k s.heap:=D2.frame _ _ _ h2 fun b hb o e=>sr.extBut _ _ (Ap.fp2 b hb).1 e;have S3_0:S3 k s.heap:=D3.frame _ _ _ h3 fun b hb o e=>sr.extBut _ _ (Ap.fp3 b hb).1 e;simp only[Xr,X9];refine Ja ?_;simp only[<- Zd,Ym,Yl];refine Ja (Ja (Xi ?_));show wpAny _ _ (Builtin.SmallTypes.nextOf (.ref i1) >>= _) _ _ _;refine Ja (D1.item k _ _ _ l1 Qbo fun x1 g1 tk1 p1 q1 sb1=>Jg (Jg ?_));have Qfr:S1 (k+1) g1:=q1;have Qb9:S2 k g1:=D2.frame _ _ _ Qb8 fun b hb o e=>sb1.extBut _ _ ((Ap.fp2 b hb).2.2.1) e;have S3_1:S3 k g1:=D3.frame _ _ _ S3_0 fun b hb o e=>sb1.extBut _ _ ((Ap.fp3 b hb).2.2.1) e;refine Ja (Ja (Xi ?_));show wpAny _ _ (Builtin.SmallTypes.nextOf (.ref i2) >>= _) _ _ _;refine Ja (D2.item k _ _ _ l2 Qb9 fun x2 g2 tk2 p2 q2 sb2=>Jg (Jg ?_));have Qdq:S1 (k+1) g2:=D1.frame _ _ _ Qfr fun b hb o e=>sb2.extBut _ _ ((Ap.fp1 b hb).2.2.1) e;have Qcv:S2 (k+1) g2:=q2;have S3_2:S3 k g2:=D3.frame _ _ _ S3_1 fun b hb o e=>sb2.extBut _ _ ((Ap.fp3 b hb).2.2.2) e;refine Ja (Ja (Xi ?_));show wpAny _ _ (Builtin.SmallTypes.nextOf (.ref i3) >>= _) _ _ _;refine Ja (D3.item k _ _ _ l3 S3_2 fun x3 g3 tk3 p3 q3 sb3=>Jg (Jg (Jg ?_)));have Qfs:S1 (k+1) g3:=D1.frame _ _ _ Qdq fun b hb o e=>sb3.extBut _ _ ((Ap.fp1 b hb).2.2.2) e;have S2_3:S2 (k+1) g3:=D2.frame _ _ _ Qcv fun b hb o e=>sb3.extBut _ _ ((Ap.fp2 b hb).2.2.2) e;have S3_3:S3 (k+1) g3:=q3;refine Ja (W5 (hsz:=by show 3<=sizeLine;decide) (Jg ⟨_,rfl,?_⟩));have zg:g3.objs.size=s.heap.objs.size:=by rw[sb3.1,sb2.1,sb1.1,sr.1]
    have kg:∀ c o,c≠z->c≠TO->c≠i1->c≠i2->c≠i3->s.heap.get? c=some o->g3.get? c=some o:=fun c o c1 c2 d1 d2 d3 e=>sb3.extBut _ _ d3 (sb2.extBut _ _ d2 (sb1.extBut _ _ d1 (k0 c o c1 c2 d1 d2 d3 e)));have hzn:Qaj g3 z TI TO (rawInt T) (.bool true):=sb3.extBut _ _ (Xb Ap.i3z) (sb2.extBut _ _ (Xb Ap.i2z) (sb1.extBut _ _ (Xb Ap.i1z) (hz)));show Q (.ref g3.objs.size) _;have hTn:IsT (g3.push { cls:=.type "tuple",data:=.seq #[x1,x2,x3] }) g3.objs.size #[x1,x2,x3]:=Js _ rfl;have zu:(g3.push { cls:=.type "tuple",data:=.seq #[x1,x2,x3] }).objs.size=g3.objs.size+1:=J6 ..;rw[zg] at hTn zu ⊢;exact hQ _ _ x1 x2 x3 _ _ p1 p2 p3 (Jb _ hzn) (.inr ⟨T,rfl,Tz,TTO,Ti1,Ti2,Ti3,oT,Jb _ (kg _ _ Tz TTO Ti1 Ti2 Ti3 hT)⟩) ⟨a1,a2,a3,Jb _ (sb3.extBut _ _ Ap.TOi3 (sb2.extBut _ _ Ap.TOi2 (sb1.extBut _ _ Ap.TOi1 (sr.extBut _ _ Ap.TOz hTO))))⟩ (D1.frame _ _ _ Qfs fun b hb o e=>Jb _ e) (D2.frame _ _ _ S2_3 fun b hb o e=>Jb _ e) (D3.frame _ _ _ S3_3 fun b hb o e=>Jb _ e) hTn zu fun c o c1 c2 d1 d2 d3 e=>Jb _ (kg c o c1 c2 d1 d2 d3 e)
  | false=>
    rw[Je (show (Value.bool false != Value.bool true)=true from rfl)];refine Ja (X4 hz (by simp) fun g0 hz0 sr=>?_);replace hz0:Qaj g0 z TI TO (rawInt T) (.bool true):=hz0;refine Jg ?_;have k0:∀ c o,c≠z->c≠TO->c≠i1->c≠i2->c≠i3->s.heap.get? c=some o->g0.get? c=some o:=fun c o c1 _ _ _ _ e=>sr.extBut _ _ c1 e;have Qbo:S1 k g0:=D1.frame _ _ _ h1 fun b hb o e=>sr.extBut _ _ (Ap.fp1 b hb).1 e;have Qb8:S2 k g0:=D2.frame _ _ _ h2 fun b hb o e=>sr.extBut _ _ (Ap.fp2 b hb).1 e;have S3_0:S3 k g0:=D3.frame _ _ _ h3 fun b hb o e=>sr.extBut _ _ (Ap.fp3 b hb).1 e;simp only[Xr,X9];refine Ja ?_;simp only[<- Zd,Ym,Yl];refine Ja (Ja (Xi ?_));show wpAny _ _ (Builtin.SmallTypes.nextOf (.ref i1) >>= _) _ _ _;refine Ja (D1.item k _ _ _ l1 Qbo fun x1 g1 tk1 p1 q1 sb1=>Jg (Jg ?_));have Qfr:S1 (k+1) g1:=q1;have Qb9:S2 k g1:=D2.frame _ _ _ Qb8 fun b hb o e=>sb1.extBut _ _ ((Ap.fp2 b hb).2.2.1) e;have S3_1:S3 k g1:=D3.frame _ _ _ S3_0 fun b hb o e=>sb1.extBut _ _ ((Ap.fp3 b hb).2.2.1) e;refine Ja (Ja (Xi ?_));show wpAny _ _ (Builtin.SmallTypes.nextOf (.ref i2) >>= _) _ _ _;refine Ja (D2.item k _ _ _ l2 Qb9 fun x2 g2 tk2 p2 q2 sb2=>Jg (Jg ?_));have Qdq:S1 (k+1) g2:=D1.frame _ _ _ Qfr fun b hb o e=>sb2.extBut _ _ ((Ap.fp1 b hb).2.2.1) e;have Qcv:S2 (k+1) g2:=q2;have S3_2:S3 k g2:=D3.frame _ _ _ S3_1 fun b hb o e=>sb2.extBut _ _ ((Ap.fp3 b hb).2.2.2) e;refine Ja (Ja (Xi ?_));show wpAny _ _ (Builtin.SmallTypes.nextOf (.ref i3) >>= _) _ _ _;refine Ja (D3.item k _ _ _ l3 S3_2 fun x3 g3 tk3 p3 q3 sb3=>Jg (Jg (Jg ?_)));have Qfs:S1 (k+1) g3:=D1.frame _ _ _ Qdq fun b hb o e=>sb3.extBut _ _ ((Ap.fp1 b hb).2.2.2) e;have S2_3:S2 (k+1) g3:=D2.frame _ _ _ Qcv fun b hb o e=>sb3.extBut _ _ ((Ap.fp2 b hb).2.2.2) e;have S3_3:S3 (k+1) g3:=q3;refine Ja (W5 (hsz:=by show 3<=sizeLine;decide) (Jg ⟨_,rfl,?_⟩));have zg:g3.objs.size=s.heap.objs.size:=by rw[sb3.1,sb2.1,sb1.1,sr.1]
    have kg:∀ c o,c≠z->c≠TO->c≠i1->c≠i2->c≠i3->s.heap.get? c=some o->g3.get? c=some o:=fun c o c1 c2 d1 d2 d3 e=>sb3.extBut _ _ d3 (sb2.extBut _ _ d2 (sb1.extBut _ _ d1 (k0 c o c1 c2 d1 d2 d3 e)));have hzn:Qaj g3 z TI TO (rawInt T) (.bool true):=sb3.extBut _ _ (Xb Ap.i3z) (sb2.extBut _ _ (Xb Ap.i2z) (sb1.extBut _ _ (Xb Ap.i1z) (hz0)));show Q (.ref g3.objs.size) _;have hTn:IsT (g3.push { cls:=.type "tuple",data:=.seq #[x1,x2,x3] }) g3.objs.size #[x1,x2,x3]:=Js _ rfl;have zu:(g3.push { cls:=.type "tuple",data:=.seq #[x1,x2,x3] }).objs.size=g3.objs.size+1:=J6 ..;rw[zg] at hTn zu ⊢;exact hQ _ _ x1 x2 x3 _ _ p1 p2 p3 (Jb _ hzn) (.inr ⟨T,rfl,Tz,TTO,Ti1,Ti2,Ti3,oT,Jb _ (kg _ _ Tz TTO Ti1 Ti2 Ti3 hT)⟩) ⟨a1,a2,a3,Jb _ (sb3.extBut _ _ Ap.TOi3 (sb2.extBut _ _ Ap.TOi2 (sb1.extBut _ _ Ap.TOi1 (sr.extBut _ _ Ap.TOz hTO))))⟩ (D1.frame _ _ _ Qfs fun b hb o e=>Jb _ e) (D2.frame _ _ _ S2_3 fun b hb o e=>Jb _ e) (D3.frame _ _ _ S3_3 fun b hb o e=>Jb _ e) hTn zu fun c o c1 c2 d1 d2 d3 e=>Jb _ (kg c o c1 c2 d1 d2 d3 e)
theorem za5{z TI TO i1 i2 i3:Addr}{n1:Nat}{f1:List Addr}{P1:Nat->Value->Prop}{S1:Nat->Heap->Prop}(D1:Draws prog w A i1 f1 n1 P1 S1){n2:Nat}{f2:List Addr}{P2:Nat->Value->Prop}{S2:Nat->Heap->Prop}(D2:Draws prog w A i2 f2 n2 P2 S2){n3:Nat}{f3:List Addr}{P3:Nat->Value->Prop}{S3:Nat->Heap->Prop}(D3:Draws prog w A i3 f3 n3 P3 S3){k:Nat}{f0:Value}{fb:Bool}{Q:Fin->Shared->Prop}(Ap:Ap3 z TI TO i1 i2 i3 f1 f2 f3)(hz:Qaj s.heap z TI TO f0 (.bool fb))(ho:Own3 s.heap z TO i1 i2 i3 f0)(hTI:IsT s.heap TI #[.ref i1,.ref i2,.ref i3])(hTO:∃ a1 a2 a3,IsT s.heap TO #[a1,a2,a3])(h1:S1 k s.heap)(h2:S2 k s.heap)(h3:S3 k s.heap)(l1:k<n1)(e2:k=n2)
  (hE:∀ h' tk e,(∀ c o,c≠z->c≠TO->c≠i1->c≠i2->c≠i3->s.heap.get? c=some o->h'.get? c=some o)->(∃ o,h'.get? e=some o/\o.cls = .type "StopIteration")->E (.ref e) { s with heap:=h',toks:=tk }):
  wpAny (model prog w) A (Builtin.«zip.__next__» ⟨[.ref z],[]⟩) Q E s:=by
 subst e2;obtain⟨a1,a2,a3,hTO⟩:=hTO;show wpAny _ _ (field (.ref z) 2 >>= _) _ _ _;refine Ja (Xo hz rfl (x:=.bool false) rfl ?_);show wpAny _ _ (field (.ref z) 3 >>= _) _ _ _;refine Ja (Xo hz rfl (x:=.ref TI) rfl ?_);refine Ja (Yc hTI rfl ?_);show wpAny _ _ (Builtin.SmallTypes.ownedTupleIsFree (.ref z) >>= _) _ _ _;refine Ja ?_;unfold Builtin.SmallTypes.ownedTupleIsFree;rcases ho with rfl|⟨T,rfl,Tz,TTO,Ti1,Ti2,Ti3,oT,hT⟩
 ·refine Ja (Xo hz rfl (x:=.none) rfl (Jg ?_));simp only[Wh];refine Ja (Uw ?_);refine Ja (Xo hz rfl (x:=.ref TO) rfl ?_);refine Ja (X4 hz (by simp) fun g0 hz0 sb0=>?_);replace hz0:Qaj g0 z TI TO .ellipsis (.bool fb):=hz0;refine Ja ?_;simp only[Qi,Qu,Ym,Yl];have Qbo:S1 k g0:=D1.frame _ _ _ h1 fun b hb o e=>sb0.extBut _ _ (Ap.fp1 b hb).1 e;have Qb8:S2 k g0:=D2.frame _ _ _ h2 fun b hb o e=>sb0.extBut _ _ (Ap.fp2 b hb).1 e;have T0:IsT g0 TO #[a1,a2,a3]:=sb0.extBut _ _ Ap.TOz hTO;refine Ja (Ja (Z9 ?_));show wpAny _ _ (Builtin.SmallTypes.nextOf (.ref i1) >>= _) _ _ _;refine Ja (D1.item k _ _ _ l1 Qbo fun x1 g1 tk1 p1 q1 sb1=>Jg ?_);have T1:IsT g1 TO #[a1,a2,a3]:=sb1.extBut _ _ Ap.TOi1 T0;have Qb9:S2 k g1:=D2.frame _ _ _ Qb8 fun b hb o e=>sb1.extBut _ _ ((Ap.fp2 b hb).2.2.1) e;refine Ja (Yc T1 rfl ?_);refine Ja (qhm T1 fun g2 T2 sb2=>?_);refine Ja (W2 (Jg ?_));have Qcv:S2 k g2:=D2.frame _ _ _ Qb9 fun b hb o e=>sb2.extBut _ _ (Ap.fp2 b hb).2.1 e;have hz2:Qaj g2 z TI TO .ellipsis (.bool fb):=sb2.extBut _ _ (Xb Ap.TOz) (sb1.extBut _ _ (Xb Ap.i1z) hz0);refine Ja (Ja (Z9 ?_));show wpAny _ _ (Builtin.SmallTypes.nextOf (.ref i2) >>= _) _ _ _;refine Ja (D2.done _ _ _ Qcv fun u e su he=>?_);obtain⟨oe,hoe,hce⟩:=he;have hzu:Qaj u z TI TO .ellipsis (.bool fb):=su _ _ (Xb Ap.i2z) hz2;have hez:e≠z:=fun q=>by subst q;rw[hzu] at hoe;cases hoe;simp at hce
  refine X4 hzu (by simp) fun u2 _ s2=>hE u2 _ e (fun c o c1 c2 d1 d2 d3 q=>s2.extBut _ _ c1 (su _ _ d2 (sb2.extBut _ _ c2 (sb1.extBut _ _ d1 (sb0.extBut _ _ c1 q))))) ⟨oe,s2.extBut _ _ hez hoe,hce⟩
 ·refine Ja (Xo hz rfl (x:=rawInt T) rfl ?_);show wpAny _ _ (loadIfAlive ((T:Int).toNat) >>= _) _ _ _;rw[J1];refine Ja (alive hT ?_);simp only[Uu,Xr,X9];refine Ja (Xo hz rfl (x:=.bool fb) rfl ?_);cases fb with
  | true=>
    rw[Jc (show ¬ ((Value.bool true != Value.bool true)=true) from Jr)];refine Jg ?_;have Qbo:=h1;have Qb8:=h2;have k0:∀ c o,c≠z->s.heap.get? c=some o->s.heap.get? c=some o:=fun c o _ q=>q;simp only[Xr,X9];refine Ja ?_;simp only[<- Zd,Ym,Yl];refine Ja (Ja (Xi ?_));show wpAny _ _ (Builtin.SmallTypes.nextOf (.ref i1) >>= _) _ _ _;refine Ja (D1.item k _ _ _ l1 Qbo fun x1 g1 tk1 p1 q1 sb1=>Jg (Jg ?_));have Qb9:S2 k g1:=D2.frame _ _ _ Qb8 fun b hb o e=>sb1.extBut _ _ ((Ap.fp2 b hb).2.2.1) e;refine Ja (Ja (Xi ?_));show wpAny _ _ (Builtin.SmallTypes.nextOf (.ref i2) >>= _) _ _ _;exact Ja (D2.done _ _ _ Qb9 fun u e su he=>hE u _ e (fun c o c1 c2 d1 d2 d3 q=>su _ _ d2 (sb1.extBut _ _ d1 (k0 c o c1 q))) he)
  | false=>
    rw[Je (show (Value.bool false != Value.bool true)=true from rfl)];refine Ja (X4 hz (by simp) fun g0 hz0 sr=>?_);refine Jg ?_;have Qbo:S1 k g0:=D1.frame _ _ _ h1 fun b hb o e=>sr.extBut _ _ (Ap.fp1 b hb).1 e;have Qb8:S2 k g0:=D2.frame _ _ _ h2 fun b hb o e=>sr.extBut _ _ (Ap.fp2 b hb).1 e;have k0:∀ c o,c≠z->s.heap.get? c=some o->g0.get? c=some o:=fun c o c1 q=>sr.extBut _ _ c1 q;simp only[Xr,X9];refine Ja ?_;simp only[<- Zd,Ym,Yl];refine Ja (Ja (Xi ?_));show wpAny _ _ (Builtin.SmallTypes.nextOf (.ref i1) >>= _) _ _ _;refine Ja (D1.item k _ _ _ l1 Qbo fun x1 g1 tk1 p1 q1 sb1=>Jg (Jg ?_));have Qb9:S2 k g1:=D2.frame _ _ _ Qb8 fun b hb o e=>sb1.extBut _ _ ((Ap.fp2 b hb).2.2.1) e;refine Ja (Ja (Xi ?_));show wpAny _ _ (Builtin.SmallTypes.nextOf (.ref i2) >>= _) _ _ _;exact Ja (D2.done _ _ _ Qb9 fun u e su he=>hE u _ e (fun c o c1 c2 d1 d2 d3 q=>su _ _ d2 (sb1.extBut _ _ d1 (k0 c o c1 q))) he)
end
end QZ
namespace QZ
open PySem
open Sem (wp)
theorem za8:typeLookup (.type "zip") "keys" = pure none:=am_miss_of_fast (by first|decide +kernel|rfl)
theorem za7:typeLookup (.type "zip") "__getattr__" = pure none:=by rw[typeLookup_type,builtinLookup_eq_fast];kernel_rfl
theorem q0s:entryFor table "zip.__getattribute__" = some Builtin.«object.__getattribute__»:=
 entryFor_alias (id':= "object.__getattribute__") (by kernel_rfl) (by decide +kernel) (by decide +kernel) (by kernel_rfl)
theorem q3x(a:Addr)(vs:Array Value)(name:Str)(u:Tok)(hmiss:typeLookup (.type "zip") name=pure none)(hname:(["__module__","__name__","__qualname__","__doc__","__annotations__"]:List Str).contains name=false)(hsz:name.length+100<=sizeLine:=by size_fits):
  Meets (Builtin.«object.__getattribute__» ⟨[.ref a,.str name u],[]⟩) (fun A R s=>s.heap.get? a=some { cls:=.type "zip",dict:=none,data:=.fields vs,slots:=#[] }/\raisesAttr (.ref a) name A R s):=
 Meets.of_wp fun prog w A R s hs=>by
  obtain⟨hp,g,d,tk,os⟩:=s;obtain⟨hx,hs⟩:=hs;have hT:(⟨hp,g,d,tk,os⟩:Shared).TypeIs (.ref a) "zip":=⟨_,hx,rfl⟩
  unfold Builtin.«object.__getattribute__»;repeat (any_goals (first|assumption|wp_step))
  simp only[hname,Xr,X9];repeat (any_goals (first|assumption|wp_step))
  exact wpAny_raiseAttrError hs.1 hs.2 (attrMsg_fits (by decide +kernel) hsz)
theorem q32{prog:Program}{w:World}{A:Around}{E:Value->Shared->Prop}{s:Shared}{a:Addr}{vs:Array Value}{Q:Option Value->Shared->Prop}(hx:s.heap.get? a=some { cls:=.type "zip",dict:=none,data:=.fields vs,slots:=#[] })(hA:A.handled=none)
  (h:∀ h' tk,(∀ b ob,s.heap.get? b=some ob->h'.get? b=some ob)->Q none { s with heap:=h',toks:=tk }): wpAny (model prog w) A (getAttr? (.ref a) "keys") Q E s:=by
 obtain⟨hp,g,d,tk,os⟩:=s;have hT:∀ tk',(⟨hp,g,d,tk',os⟩:Shared).TypeIs (.ref a) "zip":=fun _=>⟨_,hx,rfl⟩
 have hmiss:=za8;have hname:(["__module__","__name__","__qualname__","__doc__","__annotations__"]:List Str).contains "keys" = false:=by decide +kernel
 have hsz:("keys" : Str).length+100<=sizeLine:=by first|size_fits|decide +kernel
 have f1:=sub_AttributeError;have f3:=W4.lookup;have f4:=W4.bind (.ref a);have f5:=za7;unfold getAttr? getAttrBy? getAttrBy;repeat (any_goals (first|assumption|exact hT _|((with_reducible show wpAny _ _ (call (Value.builtin "zip.__getattribute__") _ _) _ _ _);refine call_meets W4 (hT _) q0s (PySem.F.args_zip_getattribute_2 _ _) (q3x a vs "keys" _ hmiss hname hsz) ⟨hx,hA,fun h' tk' e hx'=>?_⟩)|wp_step))
 obtain⟨t',u',he⟩:=hx'.there;show wpAny _ _ (getattributeRaised _ _ _ _ _ _ _) _ _ _;unfold getattributeRaised;repeat (any_goals (first|assumption|wp_step))
 all_goals first|exact h _ _ hx'.keeps|(dsimp only;repeat (any_goals (first|assumption|exact h _ _ hx'.keeps|wp_step)))
end QZ
namespace QZ
open PySem
open Sem (wp)
section
variable {prog:Program} {w:World} {A:Around} {E:Value->Shared->Prop} {s:Shared}
theorem q4x{it t:Addr}{i:Nat}{items}{x:Value}{Q:Value->Shared->Prop}(hit:s.heap.IsTupleIter it t i)
  (ht:s.heap.IsTuple t items)(hx:items[i]?=some x)
  (hQ:∀ h',h'.IsTupleIter it t (i+1)->Heap.SameBut it s.heap h'->Q x { s with heap:=h' }):
  wpAny (model prog w) A (Builtin.SmallTypes.nextOf (.ref it)) Q E s:=by
 obtain⟨o,ho,hc,hd⟩:=id hit;obtain⟨ol,hol,_,nl,hdl⟩:=ht;unfold Builtin.SmallTypes.nextOf;refine Ja (X7 (name:=Str.ofString "__next__") hit.typeIs Wa
  (X5 Wa hit.typeIs F.entry_tuple_iterator_next ?_ (F.args_tuple_iterator_next_1 _)))
 show wpAny _ _ (field (.ref it) 0 >>= _) _ _ s;refine Ja (Xo ho hd (x:=.ref t) rfl ?_);show wpAny _ _ (if (Value.ref t==Value.none)=true then _ else _) _ _ s;rw[Jc (show ¬ ((Value.ref t==Value.none)=true) from Jr)];show wpAny _ _ (field (.ref it) 1 >>= _) _ _ s;refine Ja (Xo ho hd (x:=.int i 0) rfl ?_);show wpAny _ _ (seqItems? (.ref t) >>= _) _ _ s;refine Ja (Yc hol hdl ?_);simp only[J1,hx];refine Ja (wpAny_setField ho hd (by simp) (Jg ⟨x,rfl,Jg (hQ _ ?_ (Wr ..))⟩));exact⟨_,Yy _ ho (Obj.isFreed_of_fields (Ut hd _)),(Obj.cls_mapFields ..).trans hc,by
  rw[Ut hd];simp[rawInt]⟩
theorem q4w{it t:Addr}{i:Nat}{items}{Q:Value->Shared->Prop}(hh:A.handled=none)
  (hit:s.heap.IsTupleIter it t i)(ht:s.heap.IsTuple t items)(hx:items[i]?=none)
  (hE:∀ h' e,Heap.ExtBut it s.heap h'->(∃ o,h'.get? e=some o/\o.cls = .type "StopIteration")->E (.ref e) { s with heap:=h' }):
  wpAny (model prog w) A (Builtin.SmallTypes.nextOf (.ref it)) Q E s:=by
 obtain⟨o,ho,hc,hd⟩:=id hit;obtain⟨ol,hol,_,nl,hdl⟩:=ht;unfold Builtin.SmallTypes.nextOf;refine Ja (X7 (name:=Str.ofString "__next__") hit.typeIs Wa
  (X5 Wa hit.typeIs F.entry_tuple_iterator_next ?_ (F.args_tuple_iterator_next_1 _)))
 show wpAny _ _ (field (.ref it) 0 >>= _) _ _ s;refine Ja (Xo ho hd (x:=.ref t) rfl ?_);show wpAny _ _ (if (Value.ref t==Value.none)=true then _ else _) _ _ s;rw[Jc (show ¬ ((Value.ref t==Value.none)=true) from Jr)];show wpAny _ _ (field (.ref it) 1 >>= _) _ _ s;refine Ja (Xo ho hd (x:=.int i 0) rfl ?_);show wpAny _ _ (seqItems? (.ref t) >>= _) _ _ s;refine Ja (Yc hol hdl ?_);simp only[J1,hx];refine Ja (Uw (Ja (wpAny_setField ho hd (by simp) ?_)));show wpAny _ _ (newExc (.type "StopIteration") [] >>= _) _ _ _;refine Ja ?_;simp only[newExc,newTuple];refine Ja (We ?_ (by size_fits));refine Ja (m:=firstArgMember _ _) (wpAny_of_eq (a:=Value.none) (by first|rfl|(simp only[firstArgMember];rfl)) ?_);refine We ?_ (by size_fits);simp only[raiseNew];refine Ja (wpAny_handled ?_);first|rw[show A.in1.handled=none from hh]|rw[hh]
 refine Ja (Jg (wpAny_throw ?_));exact hE _ _ (((Wr ..).extBut.push _).push _) ⟨_,Js _ rfl,rfl⟩
theorem qkn{h h':Heap}{t:Addr}{items:Array Value}(x:h.IsTuple t items)(e:∀ o,h.get? t=some o->h'.get? t=some o): h'.IsTuple t items:=let ⟨o,ho,r⟩:=x;⟨o,e _ ho,r⟩
theorem qpt(hh:A.handled=none)(it t:Addr)(hne:t≠it)(items:Array Value):
  Draws prog w A it [it,t] items.size (fun i v=>items[i]?=some v) (fun i h=>h.IsTupleIter it t i/\h.IsTuple t items) where
 live:=fun i h st=>let ⟨o,ho,_⟩:=st.1;⟨o,ho⟩
 frame:=fun i h h' st k=>⟨st.1.at fun o e=>k it (by simp) o e,qkn st.2 fun o e=>k t (by simp) o e⟩
 item:=fun i s Q E hi st hQ=>q4x st.1 st.2 (Y8 hi) fun h' hit sb=>hQ _ h' s.toks (Y8 hi) ⟨hit,st.2.extBut sb.extBut hne⟩ sb
 done:=fun s Q E st hE=>q4w hh st.1 st.2 (Array.getElem?_eq_none (Jp _)) hE
end
theorem zal(a b c:Value): checkTypeCall "zip" ⟨[a,b,c],[]⟩=pure ():=by kernel_rfl
theorem q4u(a b c:Value): checkBuiltinCall "zip.__new__" ⟨[.type "zip",a,b,c],[]⟩=pure ():=by kernel_rfl
theorem qww(a b c d:Value): argsOk "object.__init__" ⟨[a,b,c,d],[]⟩:=by
 unfold argsOk;rw[signature?_of (id:= "object.__init__") (n:=['_','_','t','i','n','i','_','_']) (o:=['t','c','e','j','b','o']) (by kernel_rfl) F.owner_object];kernel_rfl
abbrev tiO(t:Addr): Obj:={ cls:=.type "tuple_iterator",data:=.fields #[.ref t,.int 0 0] }
abbrev liO(t:Addr): Obj:={ cls:=.type "list_iterator",data:=.fields #[.ref t,.int 0 0] }
abbrev tuO(vs:Array Value): Obj:={ cls:=.type "tuple",data:=.seq vs }
abbrev ziO(TI TO:Addr): Obj:={ cls:=.type "zip",data:=.fields #[.none,.bool false,.bool false,.ref TI,.ref TO] }
abbrev zh2(h:Heap)(t l:Addr): Heap:=((((h.push (tiO t)).push (liO l)).push (tuO #[.ref h.objs.size,.ref (h.push (tiO t)).objs.size])).push (tuO #[.none,.none])).push
 (ziO ((h.push (tiO t)).push (liO l)).objs.size (((h.push (tiO t)).push (liO l)).push (tuO #[.ref h.objs.size,.ref (h.push (tiO t)).objs.size])).objs.size)
theorem q3z(t l:Addr)(xs ys:Array Value):
  Meets (Builtin.«zip.__new__» ⟨[.type "zip",.ref t,.ref l],[]⟩) (fun _ R s=>s.heap.IsTuple t xs/\s.heap.IsList l ys /\
   R (.ok (.ret (.ref ((((s.heap.push (tiO t)).push (liO l)).push (tuO #[.ref s.heap.objs.size,.ref (s.heap.push (tiO t)).objs.size])).push (tuO #[.none,.none])).objs.size))) { s with heap:=zh2 s.heap t l }):=
 .of_wp fun prog w A R s h=>by
  obtain⟨hp,g,d,tk,os⟩:=s;obtain⟨hl1,hl2,h⟩:=h;have hsub:=sub_zip;have hL1:Heap.IsTuple (Shared.heap ⟨hp,g,d,tk,os⟩) t xs:=hl1;have hL2:Heap.IsList (Shared.heap ⟨hp.push (tiO t),g,d,tk,os⟩) l ys:=Qj hl2 _;wp_walk using wpAny_pyIter_tuple hL1,Y6 hL2
  exact⟨_,rfl,h⟩
abbrev zi3(h:Heap)(a b c:Addr): Heap:=((h.push (liO a)).push (liO b)).push (liO c)
abbrev zj3(h:Heap)(a b c:Addr): Heap:=(zi3 h a b c).push (tuO #[.ref h.objs.size,.ref (h.push (liO a)).objs.size,.ref ((h.push (liO a)).push (liO b)).objs.size])
abbrev zk3(h:Heap)(a b c:Addr): Heap:=(zj3 h a b c).push (tuO #[.none,.none,.none])
abbrev zh3(h:Heap)(a b c:Addr): Heap:=(zk3 h a b c).push (ziO (zi3 h a b c).objs.size (zj3 h a b c).objs.size)
theorem q3y(a b c:Addr)(xs ys zs:Array Value):
  Meets (Builtin.«zip.__new__» ⟨[.type "zip",.ref a,.ref b,.ref c],[]⟩) (fun _ R s=>s.heap.IsList a xs/\s.heap.IsList b ys/\s.heap.IsList c zs /\
   R (.ok (.ret (.ref (zk3 s.heap a b c).objs.size))) { s with heap:=zh3 s.heap a b c }):=
 .of_wp fun prog w A R s h=>by
  obtain⟨hp,g,d,tk,os⟩:=s;obtain⟨hl1,hl2,hl3,h⟩:=h;have hsub:=sub_zip;have hL1:Heap.IsList (Shared.heap ⟨hp,g,d,tk,os⟩) a xs:=hl1;have hL2:Heap.IsList (Shared.heap ⟨hp.push (liO a),g,d,tk,os⟩) b ys:=Qj hl2 _;have hL3:Heap.IsList (Shared.heap ⟨(hp.push (liO a)).push (liO b),g,d,tk,os⟩) c zs:=Qj (Qj hl3 _) _;wp_walk using Y6 hL1,Y6 hL2,Y6 hL3
  exact⟨_,rfl,h⟩
section
variable {prog:Program} {w:World} {A:Around} {E:Value->Shared->Prop} {s:Shared}
theorem qx2{t l:Addr}{xs ys:Array Value}{Q:Value->Shared->Prop}(ht:s.heap.IsTuple t xs)(hl:s.heap.IsList l ys)
  (h:∀ h',Qaj h' (s.heap.objs.size+4) (s.heap.objs.size+2) (s.heap.objs.size+3) .none (.bool false)->IsT h' (s.heap.objs.size+2) #[.ref s.heap.objs.size,.ref (s.heap.objs.size+1)] ->
   IsT h' (s.heap.objs.size+3) #[.none,.none]->h'.IsTupleIter s.heap.objs.size t 0->h'.IsListIter (s.heap.objs.size+1) l 0->h'.objs.size=s.heap.objs.size+5 ->
   (∀ c o,s.heap.get? c=some o->h'.get? c=some o)->Q (.ref (s.heap.objs.size+4)) { s with heap:=h' }):
  wpAny (model prog w) A (call (.type "zip") [.ref t,.ref l]) Q E s:=by
 refine callType_new F.called_zip (by decide) (F.typeCall_zip_2 _ _) (F.newCall_zip_2 _ _) (fun obj=>F.args_object_init_3 obj _ _) F.entry_zip_new
  (q3z t l xs ys) ⟨ht,hl,?_⟩
 have z1:(s.heap.push (tiO t)).objs.size=s.heap.objs.size+1:=J6 ..;have z2:((s.heap.push (tiO t)).push (liO l)).objs.size=s.heap.objs.size+2:=by rw[J6,z1]
 have z3:(((s.heap.push (tiO t)).push (liO l)).push (tuO #[.ref s.heap.objs.size,.ref (s.heap.push (tiO t)).objs.size])).objs.size=s.heap.objs.size+3:=by rw[J6,z2]
 have z4:((((s.heap.push (tiO t)).push (liO l)).push (tuO #[.ref s.heap.objs.size,.ref (s.heap.push (tiO t)).objs.size])).push (tuO #[.none,.none])).objs.size=s.heap.objs.size+4:=by rw[J6,z3]
 have z5:(zh2 s.heap t l).objs.size=s.heap.objs.size+5:=by rw[J6,z4]
 have g5:(zh2 s.heap t l).get? ((((s.heap.push (tiO t)).push (liO l)).push (tuO #[.ref s.heap.objs.size,.ref (s.heap.push (tiO t)).objs.size])).push (tuO #[.none,.none])).objs.size=some _:=Js _ rfl;have g4:(zh2 s.heap t l).get? (((s.heap.push (tiO t)).push (liO l)).push (tuO #[.ref s.heap.objs.size,.ref (s.heap.push (tiO t)).objs.size])).objs.size=some _:=Jb _ (Js _ rfl);have g3:(zh2 s.heap t l).get? ((s.heap.push (tiO t)).push (liO l)).objs.size=some _:=Jb _ (Jb _ (Js _ rfl));have g2:(zh2 s.heap t l).get? (s.heap.push (tiO t)).objs.size=some _:=Jb _ (Jb _ (Jb _ (Js _ rfl)));have g1:(zh2 s.heap t l).get? s.heap.objs.size=some _:=Jb _ (Jb _ (Jb _ (Jb _ (Js _ rfl))));show _/\_;rw[z2,z3,z4] at g5;rw[z1,z2] at g3;rw[z3] at g4;rw[z1] at g2;rw[z4];exact⟨⟨_,g5,rfl⟩,h _ g5 g3 g4 ⟨_,g1,rfl,rfl⟩ ⟨_,g2,rfl,rfl⟩ z5 fun c o x=>
  Jb _ (Jb _ (Jb _ (Jb _ (Jb _ x))))⟩
theorem qx1{a b c:Addr}{xs ys zs:Array Value}{Q:Value->Shared->Prop}(ha:s.heap.IsList a xs)(hb:s.heap.IsList b ys)(hc:s.heap.IsList c zs)
  (h:∀ h',Qaj h' (s.heap.objs.size+5) (s.heap.objs.size+3) (s.heap.objs.size+4) .none (.bool false)->IsT h' (s.heap.objs.size+3) #[.ref s.heap.objs.size,.ref (s.heap.objs.size+1),.ref (s.heap.objs.size+2)] ->
   IsT h' (s.heap.objs.size+4) #[.none,.none,.none]->h'.IsListIter s.heap.objs.size a 0->h'.IsListIter (s.heap.objs.size+1) b 0->h'.IsListIter (s.heap.objs.size+2) c 0->h'.objs.size=s.heap.objs.size+6 ->
   (∀ c o,s.heap.get? c=some o->h'.get? c=some o)->Q (.ref (s.heap.objs.size+5)) { s with heap:=h' }):
  wpAny (model prog w) A (call (.type "zip") [.ref a,.ref b,.ref c]) Q E s:=by
 refine callType_new F.called_zip (by decide) (zal _ _ _) (q4u _ _ _) (fun obj=>qww obj _ _ _) F.entry_zip_new
  (q3y a b c xs ys zs) ⟨ha,hb,hc,?_⟩
 have z1:(s.heap.push (liO a)).objs.size=s.heap.objs.size+1:=J6 ..;have z2:((s.heap.push (liO a)).push (liO b)).objs.size=s.heap.objs.size+2:=by rw[J6,z1]
 have z3:(zi3 s.heap a b c).objs.size=s.heap.objs.size+3:=by rw[J6,z2]
 have z4:(zj3 s.heap a b c).objs.size=s.heap.objs.size+4:=by rw[J6,z3]
 have z5:(zk3 s.heap a b c).objs.size=s.heap.objs.size+5:=by rw[J6,z4]
 have z6:(zh3 s.heap a b c).objs.size=s.heap.objs.size+6:=by rw[J6,z5]
 have g6:(zh3 s.heap a b c).get? (zk3 s.heap a b c).objs.size=some _:=Js _ rfl;have g5:(zh3 s.heap a b c).get? (zj3 s.heap a b c).objs.size=some _:=Jb _ (Js _ rfl);have g4:(zh3 s.heap a b c).get? (zi3 s.heap a b c).objs.size=some _:=Jb _ (Jb _ (Js _ rfl));have g3:(zh3 s.heap a b c).get? ((s.heap.push (liO a)).push (liO b)).objs.size=some _:=Jb _ (Jb _ (Jb _ (Js _ rfl)));have g2:(zh3 s.heap a b c).get? (s.heap.push (liO a)).objs.size=some _:=Jb _ (Jb _ (Jb _ (Jb _ (Js _ rfl))));have g1:(zh3 s.heap a b c).get? s.heap.objs.size=some _:=Jb _ (Jb _ (Jb _ (Jb _ (Jb _ (Js _ rfl)))));show _/\_;rw[z3,z4,z5] at g6;rw[z1,z2,z3] at g4;rw[z4] at g5;rw[z2] at g3;rw[z1] at g2;rw[z5];exact⟨⟨_,g6,rfl⟩,h _ g6 g4 g5 ⟨_,g1,rfl,rfl⟩ ⟨_,g2,rfl,rfl⟩ ⟨_,g3,rfl,rfl⟩ z6 fun c o x=>
  Jb _ (Jb _ (Jb _ (Jb _ (Jb _ (Jb _ x)))))⟩
end
end QZ
namespace QZ
open PySem
open Sem (wp)
theorem zba:typeLookup (.type "zip") "__len__" = pure none:=am_miss_of_fast (by first|decide +kernel|rfl)
theorem za9:typeLookup (.type "zip") "__length_hint__" = pure none:=am_miss_of_fast (by first|decide +kernel|rfl)
structure Z3(h:Heap)(z TI TO i1 i2 i3 l1 l2 l3:Addr)(xs ys us:Array Value)(k:Nat): Prop where
 ex:∃ f0 fb,Qaj h z TI TO f0 (.bool fb)/\Own3 h z TO i1 i2 i3 f0
 ti:IsT h TI #[.ref i1,.ref i2,.ref i3]
 to:∃ a1 a2 a3,IsT h TO #[a1,a2,a3]
 s1:h.IsListIter i1 l1 k/\h.IsList l1 xs
 s2:h.IsListIter i2 l2 k/\h.IsList l2 ys
 s3:h.IsListIter i3 l3 k/\h.IsList l3 us
section
variable {prog:Program} {w:World} {A:Around} {E:Value->Shared->Prop} {s:Shared} {z TI TO i1 i2 i3 l1 l2 l3:Addr} {xs ys us:Array Value} {k:Nat}
theorem Z3.but{h h':Heap}{S:Addr}(Ap:Ap3 z TI TO i1 i2 i3 [i1,l1] [i2,l2] [i3,l3])(x:Z3 h z TI TO i1 i2 i3 l1 l2 l3 xs ys us k)
  (hS:S≠z/\S≠TI/\S≠TO/\S≠i1/\S≠i2/\S≠i3/\S≠l1/\S≠l2/\S≠l3)(oS:∃ o,h'.get? S=some o)
  (kp:∀ b o,b≠S->h.get? b=some o->h'.get? b=some o): Z3 h' z TI TO i1 i2 i3 l1 l2 l3 xs ys us k:=by
 obtain⟨n1,n2,n3,n4,n5,n6,n7,n8,n9⟩:=hS;obtain⟨⟨f0,fb,hz,ho⟩,ti,⟨a1,a2,a3,to⟩,s1,s2,s3⟩:=x;refine⟨⟨f0,fb,kp _ _ (Xb n1) hz,?_⟩,kp _ _ (Xb n2) ti,⟨a1,a2,a3,kp _ _ (Xb n3) to⟩,⟨s1.1.at fun o e=>kp _ o (Xb n4) e,s1.2.at fun o e=>kp _ o (Xb n7) e⟩,
  ⟨s2.1.at fun o e=>kp _ o (Xb n5) e,s2.2.at fun o e=>kp _ o (Xb n8) e⟩,⟨s3.1.at fun o e=>kp _ o (Xb n6) e,s3.2.at fun o e=>kp _ o (Xb n9) e⟩⟩
 rcases ho with rfl|⟨T,e,t1,t2,t3,t4,t5,o,hT⟩
 ·exact .inl rfl
 ·by_cases q:T=S
  ·obtain⟨o',ho'⟩:=oS;exact .inr ⟨T,e,t1,t2,t3,t4,t5,o',by rw[q];exact ho'⟩
  ·exact .inr ⟨T,e,t1,t2,t3,t4,t5,o,kp _ _ q hT⟩
theorem next3{Q:Option Value->Shared->Prop}{x y u:Value}(hh:A.handled=none)(Ap:Ap3 z TI TO i1 i2 i3 [i1,l1] [i2,l2] [i3,l3])(x0:Z3 s.heap z TI TO i1 i2 i3 l1 l2 l3 xs ys us k)
  (d1:l1≠i1)(d2:l2≠i2)(d3:l3≠i3)(hx:xs[k]?=some x)(hy:ys[k]?=some y)(hu:us[k]?=some u)
  (hQ:∀ h' tk,Z3 h' z TI TO i1 i2 i3 l1 l2 l3 xs ys us (k+1)->IsT h' s.heap.objs.size #[x,y,u]->h'.objs.size=s.heap.objs.size+1 ->
   (∀ c o,c≠z->c≠TO->c≠i1->c≠i2->c≠i3->s.heap.get? c=some o->h'.get? c=some o)->Q (some (.ref s.heap.objs.size)) { s with heap:=h',toks:=tk }):
  wpAny (model prog w) A (pyNext (.ref z)) Q E s:=by
 obtain⟨⟨f0,fb,hz,ho⟩,ti,to,s1,s2,s3⟩:=x0;have hT:s.TypeIs (.ref z) "zip":=⟨_,hz,rfl⟩
 have e1:=(Yp.mp hx).1;have e2:=(Yp.mp hy).1;have e3:=(Yp.mp hu).1;unfold pyNext;refine Ja (Ws (X7 (name:=Str.ofString "__next__") hT Zn (X5 Zn hT Qk
  (za6 (W8 (A:=A.in1) hh i1 l1 d1 xs) (W8 (A:=A.in1) hh i2 l2 d2 ys) (W8 (A:=A.in1) hh i3 l3 d3 us) Ap hz ho ti to s1 e1 s2 e2 s3 e3 fun h' tk x1 x2 x3 f0' fb' p1 p2 p3 hz' ho' to' q1 q2 q3 hn zn kp=>?_) (Qa _))))
 rw[hx] at p1;rw[hy] at p2;rw[hu] at p3;cases p1;cases p2;cases p3;refine Jg (hQ h' tk ⟨⟨f0',fb',hz',ho'⟩,kp _ _ Ap.TIz Ap.TITO Ap.TIi1 Ap.TIi2 Ap.TIi3 ti,to',q1,q2,q3⟩ hn zn kp)
theorem end3{Q:Option Value->Shared->Prop}(hh:A.handled=none)(Ap:Ap3 z TI TO i1 i2 i3 [i1,l1] [i2,l2] [i3,l3])(x0:Z3 s.heap z TI TO i1 i2 i3 l1 l2 l3 xs ys us k)
  (d1:l1≠i1)(d2:l2≠i2)(d3:l3≠i3)(h1:k<xs.size)(h2:k=ys.size)
  (hQ:∀ h' tk,(∀ c o,c≠z->c≠TO->c≠i1->c≠i2->c≠i3->s.heap.get? c=some o->h'.get? c=some o)->Q none { s with heap:=h',toks:=tk }):
  wpAny (model prog w) A (pyNext (.ref z)) Q E s:=by
 obtain⟨⟨f0,fb,hz,ho⟩,ti,to,s1,s2,s3⟩:=x0;have hT:s.TypeIs (.ref z) "zip":=⟨_,hz,rfl⟩
 unfold pyNext;refine Ja (Ws (X7 (name:=Str.ofString "__next__") hT Zn (X5 Zn hT Qk
  (za5 (W8 (A:=A.in1) hh i1 l1 d1 xs) (W8 (A:=A.in1) hh i2 l2 d2 ys) (W8 (A:=A.in1) hh i3 l3 d3 us) Ap hz ho ti to s1 s2 s3 h1 h2 fun h' tk e kp he=>?_) (Qa _))))
 obtain⟨o,ho,hc⟩:=he;refine Ja (Qh (T:= "StopIteration") (b:=true) ⟨o,ho,hc⟩ isSubtype_stop ?_);exact Jg (hQ _ _ kp)
theorem ext3{R:Result->Shared->Prop}{S:Addr}(res:Value)(hh:A.handled=none)(Ap:Ap3 z TI TO i1 i2 i3 [i1,l1] [i2,l2] [i3,l3])(d1:l1≠i1)(d2:l2≠i2)(d3:l3≠i3)
  (hS:S≠z/\S≠TI/\S≠TO/\S≠i1/\S≠i2/\S≠i3/\S≠l1/\S≠l2/\S≠l3)(n:Nat)(hn:n<=sizeLine)(z1:n<xs.size)(z2:n=ys.size)(z3:n<=us.size)(L0:Nat):
  ∀ (m k:Nat) (s:Shared) (as:List Addr) (c:Nat),n-k=m->k<=n->as.length=k->L0<=s.heap.objs.size->Z3 s.heap z TI TO i1 i2 i3 l1 l2 l3 xs ys us k ->
    s.heap.get? S=some { cls:=.type "list",dict:=none,data:=.seq (as.map Value.ref).toArray c,slots:=#[] } ->
    (∀ (j:Nat) (a:Addr),as[j]?=some a->L0<=a/\a≠S/\a≠z/\a≠TO/\a≠i1/\a≠i2/\a≠i3/\∃ x y u,xs[j]?=some x/\ys[j]?=some y/\us[j]?=some u/\IsT s.heap a #[x,y,u]) ->
    (∀ h' tk (as':List Addr) c',as'.length=n->h'.get? S=some { cls:=.type "list",dict:=none,data:=.seq (as'.map Value.ref).toArray c',slots:=#[] } ->
     (∀ (j:Nat) (a:Addr),as'[j]?=some a->L0<=a/\∃ x y u,xs[j]?=some x/\ys[j]?=some y/\us[j]?=some u/\IsT h' a #[x,y,u]) ->
     (∀ b o,b≠S->b≠z->b≠TO->b≠i1->b≠i2->b≠i3->s.heap.get? b=some o->h'.get? b=some o)->R (.ok (.ret res)) { s with heap:=h',toks:=tk }) ->
    codeAny (model prog w) A (.builtin "list.extend.loop" ⟨[.ref S,.ref z,res],[]⟩) R s:=by
 obtain⟨n1,n2,n3,n4,n5,n6,n7,n8,n9⟩:=id hS;intro m;induction m with
 | zero=>
   intro k s as c hm hk hl hL x0 hSS hA hR;have hkn:k=n:=by omega
   refine Uk F.entry_extend_loop ?_;rw[W9 Ue _];show wpAny _ A.in1 (pyNext (.ref z) >>= _) _ _ s;refine Ja (end3 (A:=A.in1) hh Ap x0 d1 d2 d3 (by omega) (by omega) fun h' tk kp=>?_);refine Jg (hR h' tk as c (by omega) (kp _ _ n1 n3 n4 n5 n6 hSS) (fun j a e=>?_) fun b o _ b1 b2 b3 b4 b5 q=>kp b o b1 b2 b3 b4 b5 q);obtain⟨q9,_,q1,q2,q3,q4,q5,x,y,u,g1,g2,g3,g4⟩:=hA j a e;exact⟨q9,x,y,u,g1,g2,g3,kp _ _ q1 q2 q3 q4 q5 g4⟩
 | succ m ih=>
   intro k s as c hm hk hl hL x0 hSS hA hR;have hlt:k<n:=by omega
   have lS:S<s.heap.objs.size:=Jl hSS;have hx:xs[k]?=some xs[k]:=Y8 (by omega);have hy:ys[k]?=some ys[k]:=Y8 (by omega);have hu:us[k]?=some us[k]:=Y8 (by omega);refine Uk F.entry_extend_loop ?_;rw[W9 Ue _];show wpAny _ A.in1 (pyNext (.ref z) >>= _) _ _ s;refine Ja (next3 (A:=A.in1) hh Ap x0 d1 d2 d3 hx hy hu fun h1 tk1 x1 hT1 zz1 kp1=>?_);have hS1:=kp1 _ _ n1 n3 n4 n5 n6 hSS;show wpAny _ A.in1 (updateSeq S (·.push (.ref s.heap.objs.size)) >>= _) _ _ _;have e2:((as++[s.heap.objs.size]).map Value.ref).toArray=(as.map Value.ref).toArray.push (.ref s.heap.objs.size):=by simp
   have up:∀ b o,b≠S->h1.get? b=some o->(h1.update S (Obj.mapSeq (·.push (Value.ref s.heap.objs.size)))).get? b=some o:=fun b o hb e=>(Zq _ _ (Xb hb)).trans e;have hS2:=Yy (Obj.mapSeq (·.push (Value.ref s.heap.objs.size))) hS1 rfl;have lz:z<s.heap.objs.size:=by obtain⟨⟨_,_,q,_⟩,_⟩:=x0;exact Jl q
   have lTO:TO<s.heap.objs.size:=by obtain⟨_,_,⟨_,_,_,q⟩,_⟩:=x0;exact Jl q
   have li1:i1<s.heap.objs.size:=by obtain⟨_,_,_,⟨⟨_,q,_⟩,_⟩,_⟩:=x0;exact Jl q
   have li2:i2<s.heap.objs.size:=by obtain⟨_,_,_,_,⟨⟨_,q,_⟩,_⟩,_⟩:=x0;exact Jl q
   have li3:i3<s.heap.objs.size:=by obtain⟨_,_,_,_,_,⟨⟨_,q,_⟩,_⟩⟩:=x0;exact Jl q
   refine Ja (Uj hS1 rfl (Jg ⟨Qd Ue _,ih (k+1) _ (as++[s.heap.objs.size]) _ (by omega) hlt (by rw[Jx,hl];rfl) (by show L0<=(h1.update S _).objs.size;rw[Ql,zz1];omega) (x1.but Ap hS ⟨_,hS2⟩ up) (by rw[e2];exact hS2) (fun j a e=>?_) fun h' tk as' c' hl' hS' hA' kp'=>?_⟩)
    (by rw[J8,Jd];omega) (by rw[Array.size_push,J8,Jd];omega))
   ·by_cases hj:j<as.length
    ·rw[Wg hj] at e;obtain⟨q9,q0,q1,q2,q3,q4,q5,x,y,u,g1,g2,g3,g4⟩:=hA j a e;exact⟨q9,q0,q1,q2,q3,q4,q5,x,y,u,g1,g2,g3,up _ _ q0 (kp1 _ _ q1 q2 q3 q4 q5 g4)⟩
    ·have hj2:j=as.length:=by
      have:=(Ji.mp e).1;rw[Jx] at this;simp at this;omega
     subst hj2;rw[List.getElem?_append_right (Jp _)] at e;simp at e;subst e;refine⟨hL,J5 lS,J5 lz,J5 lTO,J5 li1,J5 li2,J5 li3,xs[k],ys[k],us[k],by rw[hl];exact hx,by rw[hl];exact hy,by rw[hl];exact hu,up _ _ (J5 lS) hT1⟩
   ·exact hR h' tk as' c' hl' hS' hA' fun b o b0 b1 b2 b3 b4 b5 q=>kp' b o b0 b1 b2 b3 b4 b5 (up _ _ b0 (kp1 b o b1 b2 b3 b4 b5 q))
theorem list3{Q:Value->Shared->Prop}(hh:A.handled=none)(Ap:Ap3 z TI TO i1 i2 i3 [i1,l1] [i2,l2] [i3,l3])(d1:l1≠i1)(d2:l2≠i2)(d3:l3≠i3)
  (x0:Z3 s.heap z TI TO i1 i2 i3 l1 l2 l3 xs ys us 0)(n:Nat)(hn:n<=sizeLine)(z1:n<xs.size)(z2:n=ys.size)(z3:n<=us.size)
  (hQ : ∀ h' tk (as':List Addr) c',as'.length=n->h'.get? s.heap.objs.size=some { cls:=.type "list",dict:=none,data:=.seq (as'.map Value.ref).toArray c',slots:=#[] } ->
      (∀ (j:Nat) (a:Addr),as'[j]?=some a->s.heap.objs.size<=a/\∃ x y u,xs[j]?=some x/\ys[j]?=some y/\us[j]?=some u/\IsT h' a #[x,y,u]) ->
      (∀ b o,b≠z->b≠TO->b≠i1->b≠i2->b≠i3->s.heap.get? b=some o->h'.get? b=some o)->Q (.ref s.heap.objs.size) { s with heap:=h',toks:=tk }):
  wpAny (model prog w) A (call (.type "list") [.ref z]) Q E s:=by
 have lz:z<s.heap.objs.size:=by obtain⟨⟨_,_,q,_⟩,_⟩:=x0;exact Jl q
 have lTI:TI<s.heap.objs.size:=by obtain⟨_,q,_⟩:=x0;exact Jl q
 have lTO:TO<s.heap.objs.size:=by obtain⟨_,_,⟨_,_,_,q⟩,_⟩:=x0;exact Jl q
 have li1:i1<s.heap.objs.size:=by obtain⟨_,_,_,⟨⟨_,q,_⟩,_⟩,_⟩:=x0;exact Jl q
 have li2:i2<s.heap.objs.size:=by obtain⟨_,_,_,_,⟨⟨_,q,_⟩,_⟩,_⟩:=x0;exact Jl q
 have li3:i3<s.heap.objs.size:=by obtain⟨_,_,_,_,_,⟨⟨_,q,_⟩,_⟩⟩:=x0;exact Jl q
 have ll1:l1<s.heap.objs.size:=by obtain⟨_,_,_,⟨_,⟨_,q,_⟩⟩,_⟩:=x0;exact Jl q
 have ll2:l2<s.heap.objs.size:=by obtain⟨_,_,_,_,⟨_,⟨_,q,_⟩⟩,_⟩:=x0;exact Jl q
 have ll3:l3<s.heap.objs.size:=by obtain⟨_,_,_,_,_,⟨_,⟨_,q,_⟩⟩⟩:=x0;exact Jl q
 refine callType_codes (Q₁:=fun obj s₁=>obj = .ref s.heap.objs.size/\s₁={ s with heap:=s.heap.push { cls:=.type "list",data:=.seq #[] } }) PySem.F.called_list (PySem.F.typeCall_list_1 _) PySem.F.entry_list_init
  (code_list_new _ ⟨rfl,rfl⟩) fun obj s₁ h₁=>?_
 obtain⟨rfl,rfl⟩:=h₁;have hS:(s.heap.push { cls:=.type "list",data:=.seq #[] }).get? s.heap.objs.size=some { cls:=.type "list",data:=.seq #[] }:=Js _ rfl;refine⟨⟨_,hS,rfl⟩,PySem.F.args_list_init_2 _ _,?_⟩;show wpAny _ _ (do let old <- Builtin.List.listItems (.ref s.heap.objs.size);Builtin.List.listUpdate (.ref s.heap.objs.size) (fun _=>#[]);letGo old.toList.reverse;Builtin.List.listExtendWith (.ref s.heap.objs.size) (.ref z) .none) _ _ _;refine Ja ?_;unfold Builtin.List.listItems;refine Ja (Yc hS rfl (Jg ?_));show wpAny _ _ (updateSeq s.heap.objs.size (fun _=>#[]) >>= fun _=>letGo (#[]:Array Value).toList.reverse >>= fun _=>Builtin.List.listExtendWith (.ref s.heap.objs.size) (.ref z) .none) _ _ _;refine Ja (Uj hS rfl ?_);have hSa:=Yy (Obj.mapSeq (fun _=>(#[]:Array Value))) hS rfl;have otA:∀ b o,b≠s.heap.objs.size->s.heap.get? b=some o->((s.heap.push { cls:=.type "list",data:=.seq #[] }).update s.heap.objs.size (Obj.mapSeq (fun _=>(#[]:Array Value)))).get? b=some o:=
  fun b o hb e=>(Zq _ _ (Xb hb)).trans (Jb _ e)
 generalize hga:(s.heap.push { cls:=.type "list",data:=.seq #[] }).update s.heap.objs.size (Obj.mapSeq (fun _=>(#[]:Array Value)))=ga at hSa otA;have nS:s.heap.objs.size≠z/\s.heap.objs.size≠TI/\s.heap.objs.size≠TO/\s.heap.objs.size≠i1/\s.heap.objs.size≠i2/\s.heap.objs.size≠i3/\s.heap.objs.size≠l1/\s.heap.objs.size≠l2/\s.heap.objs.size≠l3:=
  ⟨J5 lz,J5 lTI,J5 lTO,J5 li1,J5 li2,J5 li3,J5 ll1,J5 ll2,J5 ll3⟩
 have xa:Z3 ga z TI TO i1 i2 i3 l1 l2 l3 xs ys us 0:=x0.but Ap nS ⟨_,hSa⟩ otA;refine Ja (W2 ?_);obtain⟨f0,fb,hz,_⟩:=xa.ex;have hT:Shared.TypeIs { s with heap:=ga } (.ref z) "zip":=⟨_,hz,rfl⟩
 unfold Builtin.List.listExtendWith;refine Ja (wpAny_typeOf hT ?_);have h1:Builtin.List.listSameRef (.ref s.heap.objs.size) (.ref z)=false:=by simp[Builtin.List.listSameRef,nS.1]
 have h2:(Value.type "zip" == Value.type "list")=false:=by decide
 have h3:(Value.type "zip" == Value.type "tuple")=false:=by decide
 simp only[h1,h2,h3,Bool.or_false,Xr,X9];refine Ja ?_;refine U7 hT F.slot_zip_iter (X5 F.slot_zip_iter hT F.entry_zip_iter ?_ (F.args_zip_iter_1 _));show wpAny _ _ (ret (.ref z)) _ _ _;refine Jg ⟨_,rfl,"zip",_,hT,Zn.lookup,?_⟩;refine Ja (Xi ?_);unfold Builtin.List.listLengthHint;refine Ja (wpAny_specialOf hT zba ?_);show wpAny _ _ (specialOf (Value.ref z) (Str.ofString "__length_hint__") >>= _) _ _ _;refine Ja (wpAny_specialOf hT za9 ?_);refine Jg ?_;show wpAny _ _ (rule "list.extend.makes-room" >>= fun _=>Builtin.List.listTouch (.ref s.heap.objs.size) >>= fun _=>
  again (.builtin "list.extend.loop" ⟨[.ref s.heap.objs.size,.ref z,.none],[]⟩)) _ _ _
 refine Ja (Uw ?_);refine Ja ?_;show wpAny _ _ (updateSeq s.heap.objs.size (·.push .none) >>= fun _=>updateSeq s.heap.objs.size (·.pop)) _ _ _;refine Ja (Uj hSa rfl ?_);have hSb:=Yy (Obj.mapSeq (·.push Value.none)) hSa rfl;refine Uj (hz:=by seq_fits) hSb rfl ?_;have hSc:=Yy (Obj.mapSeq (·.pop)) hSb rfl;have otC:∀ b o,b≠s.heap.objs.size->ga.get? b=some o->((ga.update s.heap.objs.size (Obj.mapSeq (·.push Value.none))).update s.heap.objs.size (Obj.mapSeq (·.pop))).get? b=some o:=
  fun b o hb e=>(Zq _ _ (Xb hb)).trans ((Zq _ _ (Xb hb)).trans e)
 refine Jg ⟨Qd Ue _,ext3 (A:=A.in1) .none hh Ap d1 d2 d3 nS n hn z1 z2 z3 s.heap.objs.size n 0 _ [] _ rfl (X3 _) rfl (by show s.heap.objs.size<=((ga.update s.heap.objs.size _).update s.heap.objs.size _).objs.size;rw[Ql,Ql,<- hga,Ql,J6];exact Nat.le_succ _) (xa.but Ap nS ⟨_,hSc⟩ otC) hSc (fun j a e=>by simp at e) fun h' tk as' c' hl hS' hA kp=>?_⟩;exact⟨rfl,hQ h' tk as' c' hl hS' hA fun b o b1 b2 b3 b4 b5 q=>kp b o (Xl (Jl q)) b1 b2 b3 b4 b5 (otC _ _ (Xl (Jl q)) (otA _ _ (Xl (Jl q)) q))⟩
end
end QZ
namespace L2.QP
open PySem PySem.Spec PyProof.Rows
structure Fn(P:Program)(w:World)(K:PySem.W.Frag)(mg:Str->Option Value)(base:Heap)(k:Nat)(x:Str)(ps:List Str)(sp:Sp): Prop where
 ex:∃ f fd,Qcd P w K mg base CX0 k f fd ps sp/\mg x=some (.ref f)/\PySem.W.keepIn K (.ref f)=true/\Binds K fd ps []
structure Cn(P:Program)(w:World)(K:PySem.W.Frag)(mg:Str->Option Value)(base:Heap)(k:Nat)(x:Str)(C:Addr)(ps:List Str)(sp:Sp): Prop where
 ex:∃ f fd,Qcd P w K mg base CX0 k f fd ps sp/\Mk K C f/\mg x=some (.ref C)/\Binds K fd ps []
structure Dfn(K:PySem.W.Frag)(mg:Str->Option Value)(x:Str)(st:Stmt): Prop where
 ex:∃ f fd,Fun K x x st f fd/\mg x=some (.ref f)
structure Dcl(K:PySem.W.Frag)(mg:Str->Option Value)(x q:Str)(C:Addr)(st:Stmt): Prop where
 ex:∃ f fd,Fun K "__init__" q st f fd/\Mk K C f/\mg x=some (.ref C)
section
variable {P:Program} {w:World} {K:PySem.W.Frag} {mg:Str->Option Value} {base:Heap} {k:Nat} {x q:Str} {C:Addr} {st:Stmt} {N ps:List Str} {sp:Sp}
theorem Dfn.fn(D:Dfn K mg x st)(S:Vg N ps (k7 st))
  (hb:∀ (kV doc pm:Value) (an:Option Addr) (cdv ct:Value) (us:List Value),us.length=ps.length->bindArgs (PySem.W.fnOf x x (qen st) (qcz st) (k7 st) .none kV doc pm an cdv ct) ⟨us,[]⟩=pure (ps.zip us))
  (len:∀ vs H Q E,sp vs H Q E->vs.length=ps.length)
  (hbody:∀ (f:Addr) (cdv:Value) (A:Around) (outer:List Env) (s:Shared) (H:Hp) (vs:List V) (Q:VK) (E:XK),Qar k (A.deeper (envOfC x (k7 st) s.heap.objs.size f cdv))->sp vs H Q E ->
   ∃ t,PSs (qcp CX0 P w K mg base N x (k7 st) f cdv A outer s H E).nox (qcz st) t/\t { nx:=fun _ H'=>Q .non H',rt:=Q } (start N vs) H): Fn P w K mg base (k+1) x ps sp:=by
 obtain⟨f,fd,F,hm⟩:=D.ex;exact⟨f,fd,F.ok S len (hbody f),hm,F.kp,F.binds hb⟩
theorem Dcl.cn(D:Dcl K mg x q C st)(S:Vg N ps (k7 st))
  (hb:∀ (kV doc pm:Value) (an:Option Addr) (cdv ct:Value) (us:List Value),us.length=ps.length->bindArgs (PySem.W.fnOf "__init__" q (qen st) (qcz st) (k7 st) .none kV doc pm an cdv ct) ⟨us,[]⟩=pure (ps.zip us))
  (len:∀ vs H Q E,sp vs H Q E->vs.length=ps.length)
  (hbody:∀ (f:Addr) (cdv:Value) (A:Around) (outer:List Env) (s:Shared) (H:Hp) (vs:List V) (Q:VK) (E:XK),Qar k (A.deeper (envOfC q (k7 st) s.heap.objs.size f cdv))->sp vs H Q E ->
   ∃ t,PSs (qcp CX0 P w K mg base N q (k7 st) f cdv A outer s H E).nox (qcz st) t/\t { nx:=fun _ H'=>Q .non H',rt:=Q } (start N vs) H): Cn P w K mg base (k+1) x C ps sp:=by
 obtain⟨f,fd,F,M,hm⟩:=D.ex;exact⟨f,fd,F.ok S len (hbody f),M,hm,F.binds hb⟩
end
section
variable {X:Cx} {x:Str} {p pos:Pos} {e:Expr} {es:List Expr} {t:TA} {k j:Nat} {ps:List Str} {sp:Sp} {C:Addr}
def tFn(sp:Sp)(t:TA): TE:=fun σ H Q=>t σ H fun vs H1=>sp vs H1 Q E0
theorem k8(F:Fn X.prog X.w X.K X.mg X.base k x ps sp)(hr:Qar j X.A)(ha:PA X (e::es) t)(hg:Gl X x:=by exact rfl)(hk:k<=j:=by decide)(hdb:(x==("__debug__" : Str))=false:=by decide)
  (he:starEach (e::es) X.env=(false,eval e X.env)::starEach es X.env:=by rfl)(hpl:(backTo pos (starEach es X.env)).any (·.1)=false:=by rfl):
  PE X (.Call (.Name x p) (e::es) [] pos) (tFn sp t):=by
 obtain⟨f,fd,F,hm,hkp,hb⟩:=F.ex;intro pins s σ H Q I hq;refine q48 F (hr.mono hk) hg hm hkp hb .nil qju ha hdb he hpl pins s σ H Q I ?_;show t σ H fun vs H1=>sp (vs++[]) H1 Q E0;have e1:(fun (vs:List V) (H1:Hp)=>sp (vs++[]) H1 Q E0)=fun vs H1=>sp vs H1 Q E0:=by funext vs H1;rw[Y7]
 rw[e1];exact hq
def tMk(C:Addr)(sp:Sp)(t:TA): TE:=fun σ H Q=>t σ H fun vs H1=>∀ x dx,H1 x=none->H1 dx=none->dx≠x ->
 sp (.ref x::vs) (upd (upd H1 dx (.own x)) x (.ins C dx [])) (fun v H2=>v = .non/\Q (.ref x) H2) E0
theorem qia(F:Cn X.prog X.w X.K X.mg X.base k x C ps sp)(hr:Qar j X.A)(ha:PA X (e::es) t)(hg:Gl X x:=by exact rfl)(hk:k+1<=j:=by decide)(hdb:(x==("__debug__" : Str))=false:=by decide)
  (he:starEach (e::es) X.env=(false,eval e X.env)::starEach es X.env:=by rfl)(hpl:(backTo pos (starEach es X.env)).any (·.1)=false:=by rfl):
  PE X (.Call (.Name x p) (e::es) [] pos) (tMk C sp t):=by
 obtain⟨f,fd,F,M,hm,hb⟩:=F.ex;intro pins s σ H Q I hq;refine q5i M F (hr.mono hk) hg hm hb .nil qju ha hdb he hpl pins s σ H Q I ?_;show t σ H fun vs H1=>∀ x dx,H1 x=none->H1 dx=none->dx≠x->sp (.ref x::(vs++[])) (upd (upd H1 dx (.own x)) x (.ins C dx [])) (fun v H2=>v = .non/\Q (.ref x) H2) E0;have e1:(fun (vs:List V) (H1:Hp)=>∀ x dx,H1 x=none->H1 dx=none->dx≠x->sp (.ref x::(vs++[])) (upd (upd H1 dx (.own x)) x (.ins C dx [])) (fun v H2=>v = .non/\Q (.ref x) H2) E0) =
   fun vs H1=>∀ x dx,H1 x=none->H1 dx=none->dx≠x->sp (.ref x::vs) (upd (upd H1 dx (.own x)) x (.ins C dx [])) (fun v H2=>v = .non/\Q (.ref x) H2) E0:=by funext vs H1;rw[Y7]
 rw[e1];exact hq
theorem pe_mk0(F:Cn X.prog X.w X.K X.mg X.base k x C ps sp)(hr:Qar j X.A)(hg:Gl X x:=by exact rfl)(hk:k+1<=j:=by decide)(hdb:(x==("__debug__" : Str))=false:=by decide):
  PE X (.Call (.Name x p) [] [] pos) (tMk C sp qa4):=by
 obtain⟨f,fd,F,M,hm,hb⟩:=F.ex;exact q5j M F (hr.mono hk) hg hm hb .nil qju hdb
def GI(mg:Str->Option Value)(x:Str)(i:Int): Prop:=∃ t,mg x=some (.int i t)
theorem vf{i:Int}(g:GI X.mg x i)(hg:Gl X x:=by exact rfl)(hd:(x==("__debug__" : Str))=false:=by decide): PE X (.Name x pos) (tC (.int i)):=by
 obtain⟨t,hm⟩:=g;exact q5g hg hm ⟨t,rfl⟩ hd
end
theorem boot_len:bootBuiltins "len" = some (.builtin "len"):=by decide +kernel
theorem boot_max:bootBuiltins "max" = some (.builtin "max"):=by decide +kernel
theorem boot_sorted:bootBuiltins "sorted" = some (.builtin "sorted"):=by decide +kernel
theorem boot_any:bootBuiltins "any" = some (.builtin "any"):=by decide +kernel
theorem boot_all:bootBuiltins "all" = some (.builtin "all"):=by decide +kernel
theorem boot_sum:bootBuiltins "sum" = some (.builtin "sum"):=by decide +kernel
def Vn(P:Program)(w:World)(K:PySem.W.Frag)(a:Addr)(k:Key)(u:Value): Prop:=
 ∃ (es:Array DictEntry) (n:Nat),K.lookup a=some ⟨.type "dict",none,.dict es n,#[]⟩/\KeysOf (qao P w) es/\findBy qbr es k=some u
section
variable {X:Cx} {x:Str} {p pos:Pos} {i:Expr} {ti:TE} {a:Addr}
def tGD(P:Program)(w:World)(K:PySem.W.Frag)(a:Addr)(ti:TE): TE:=fun σ H Q=>ti σ H fun y H1=>∃ k u v,y=kV k/\Vn P w K a k u/\RelV v u/\Q v H1
theorem qh9(hm:X.mg x=some (.ref a))(hg:Gl X x)(hi:PE X i ti)(hs:NoSl i)(hd:(x==("__debug__" : Str))=false:=by decide): PE X (.Subscript (.Name x p) i pos) (tGD X.prog X.w X.K a ti):=by
 intro pins s σ H Q I h;refine qvl PySem.F.slot_dict_getitem.lookup hs (qh2 I hg hm (thn (hi pins s σ H _ I h) fun iv s2 ⟨y,H2,I2,ry,k,u,v,ey,⟨es,n,hl,hk,hf⟩,rv,q⟩=>?_) hd);subst ey;have hm2:s2.heap.MapOf (qao X.prog X.w) a (fun k=>findBy qbr es k):=⟨_,es,n,I2.kIn _ _ hl,⟨rfl,rfl,rfl⟩,rfl,hk,fun _=>rfl⟩
 exact⟨hm2.typeIs,wpAny_getItem_of (qds ry) hm2 hf ⟨v,H2,I2.tok _,rv,q⟩⟩
end
structure FnV(P:Program)(w:World)(K:PySem.W.Frag)(mg:Str->Option Value)(base:Heap)(k:Nat)(f:Addr)(ps:List Str)(sp:Sp): Prop where
 ex:∃ fd,Qcd P w K mg base CX0 k f fd ps sp/\PySem.W.keepIn K (.ref f)=true/\Binds K fd ps []
section
variable {X:Cx} {fe:Expr} {tf:TE} {p pos:Pos} {e:Expr} {es:List Expr} {t:TA} {j:Nat}
def qvo(X:Cx)(j:Nat)(tf:TE)(t:TA): TE:=fun σ H Q=>tf σ H fun x H1=>∃ f k ps sp,x = .ref f/\k<=j/\FnV X.prog X.w X.K X.mg X.base k f ps sp/\t σ H1 fun vs H2=>sp vs H2 Q E0
theorem qr0(hr:Qar j X.A)(hf:PE X fe tf)(ha:PA X (e::es) t)
  (he:starEach (e::es) X.env=(false,eval e X.env)::starEach es X.env:=by rfl)(hpl:(backTo pos (starEach es X.env)).any (·.1)=false:=by rfl)
  (hc:eval (.Call fe (e::es) [] pos) X.env=(do callWith pos (<- eval fe X.env) [] (backTo pos (starEach (e::es) X.env)) (backToKw pos (keywordEach [] X.env))):=by rfl):
  PE X (.Call fe (e::es) [] pos) (qvo X j tf t):=by
 intro pins s σ H Q I h;refine Call_ (thn (hf pins s σ H _ I h) fun v s1 ⟨x,H1,I1,rx,f,k,ps,sp,ex,hk,⟨fd,F,hkp,hb⟩,q⟩=>?_) hc;subst ex;obtain rfl:v=Value.ref f:=rx;refine PySem.W.callWith_K (h₀:=X.base) I.ok.mod.kin hkp (thn (ha pos pins s1 σ H1 _ I1 q) fun us s2 ⟨vs,H2,I2,r,q2⟩=>⟨I2.kIn,?_⟩) he hpl;exact qso F (hr.mono hk) hb .nil qju I2 r (by rw[Y7];exact q2)
end
def Qgb(K:PySem.W.Frag)(H:Hp)(p:Addr)(n:Nat): Prop:=(∃ ys,(SqL K H p ys\/SqT K H p ys)/\n=ys.length)\/(∃ kvs,H p=some (.dK kvs)/\n=kvs.length)\/∃ kvs,H p=some (.dT kvs)/\n=kvs.length
section
variable {X:Cx}
def rLen(K:PySem.W.Frag): List V->Hp->VK->Prop:=fun xs H Q=>∃ p n,xs=[.ref p]/\Qgb K H p n/\Q (.int (n:Nat)) H
theorem qxy:Qd3 X (.builtin "len") (rLen X.K):=by
 intro pins s σ H xs us Q I r h;obtain⟨p,n,rfl,hl,q⟩:=h;rcases hl with ⟨ys,hy,rfl⟩|⟨kvs,hk,rfl⟩|⟨kvs,hk,rfl⟩
 ·exact qxz pins s σ H _ us Q I r ⟨p,ys,rfl,hy,q⟩
 ·exact qxx pins s σ H _ us Q I r ⟨p,kvs,rfl,hk,q⟩
 ·obtain⟨u,rfl,ru⟩:=vals1 r;cases ru;obtain⟨z,hd,ks,rel,o,es,ep,ho,hc,hdat,he,_⟩:=dt_of I.hok hk;have e1:es.size=kvs.length:=by rw[size_of_entries he];exact(Zr rel).symm
  have hT:s.TypeIs (.ref p) "dict":=⟨o,ho,hc.1⟩
  rw[sizeLine_eq] at z;refine Calls.call_function_entry kind_len plain_len entry_len (args_len1 _) ?_;unfold Builtin.«len»;refine Ja (m:=oneArg "len" _) (Jg ?_);refine Ja (m:=callSpecial? (.ref p) (Str.ofString "__len__")) (X7 (name:=Str.ofString "__len__") hT PySem.F.slot_dict_len (X5 PySem.F.slot_dict_len hT PySem.F.entry_dict_len ?_ (PySem.F.args_dict_len_1 _)));show wpAny _ _ (dictSize p >>= _) _ _ s;unfold dictSize;refine Ja (Ja (U8 ho hdat (Jg ?_)));show wpAny _ _ (Builtin.Dict.pendingCount p >>= _) _ _ s;refine Ja (wpAny_pendingCount_other hd ?_);refine wpAny_ret_mkInt ?_;have e2:((kvs.length:Nat):Int)+((0:Nat):Int)=(kvs.length:Int):=by omega
  rw[e1,e2];refine Ja (Xi (Jg ?_));refine Ja (W2 ?_);show wpAny _ _ (if ((kvs.length:Nat):Int)<0 then _ else _) _ _ _;rw[Jc (by omega)];show wpAny _ _ (if ((kvs.length:Nat):Int) ≥ 2 ^ 63 then _ else _) _ _ _;rw[Jc (by omega)];exact Ja (wpAny_mkInt (Jg ⟨_,rfl,⟨.int kvs.length,H,(I.tok _).tok _,⟨_,rfl⟩,q⟩⟩))
end
section
variable {X:Cx} {o e f:Expr} {apos cpos:Pos} {td ty tx:TE}
theorem qz8{pins:List (Addr×Obj)}{σ:St}{H:Hp}{s:Shared}{a:Addr}{kvs:List (Key×V)}{k:Key}{d:V}{u r:Value}{A:Around}{E:Value->Shared->Prop}{Q:Value->Shared->Prop}(I:Inv X pins σ H s)(ea:H a=some (.dK kvs))(hz:kvs.length<sizeLine)
  (ry:RelV (kV k) u)(rd:RelV d r)(h1:∀ v w' s',vj kvs k=some v->Inv X pins σ H s'->RelV v w'->Q w' s')(h2:vj kvs k=none->∀ s',Inv X pins σ (upd H a (.dK (putK kvs k d))) s'->Q r s'):
  wpAny (model X.prog X.w) A (call (.builtin "dict.setdefault") [.ref a,u,r]) Q E s:=by
 obtain⟨z,hd,vs,rel,dd⟩:=qht I.hok ea;have rk:=rel.val k;refine Qt PySem.F.slot_dict_setdefault dd.typeIs PySem.F.entry_dict_setdefault (PySem.F.args_dict_setdefault_3 _ _ _) (kt_meets_setdefault (qao X.prog X.w) a (qds ry) hd r)
  ⟨vs,dd,(by rw[<- rel.length];exact z),fun w' hw=>?_,fun hn h' dd' hs=>?_⟩
 ·rw[hw] at rk;cases e:vj kvs k with
  |none=>rw[e] at rk;exact rk.elim
  |some v=>rw[e] at rk;exact h1 v w' _ e (I.tok _) rk
 ·rw[hn] at rk;cases e:vj kvs k with
  |some v=>rw[e] at rk;exact rk.elim
  | none=>
    have hl:(putK kvs k d).length<=sizeLine:=by have:=qjn kvs k d;omega
    have he:∃ q,h'.get? a=some q:=let ⟨q,_,_,hq,_⟩:=dd';⟨q,hq⟩;exact h2 e _ (qi9 I (by rw[ea];exact True.intro) hs he (ql3 hl hd (rel.put k rd) dd'))
def qvu(td ty tx:TE): TE:=fun σ H Q=>td σ H fun x H1=>∃ a,x = .ref a/\IsD H1 a/\ty σ H1 fun y H2=>tx σ H2 fun z H3=>∃ kvs k,H3 a=some (.dK kvs)/\kvs.length<sizeLine/\y=kV k /\
 (∀ v,vj kvs k=some v->Q v H3)/\(vj kvs k=none->Q z (upd H3 a (.dK (putK kvs k z))))
theorem q5f(ho:PE X o td)(he:PE X e ty)(hf:PE X f tx)(m:M2 X o "setdefault" apos e f cpos): PE X (.Call (.Attribute o "setdefault" apos) [e,f] [] cpos) (qvu td ty tx):=by
 intro pins s σ H Q I h;refine U6 m.base m.few m.line Uy PySem.F.slot_dict_setdefault PySem.F.type_dict_setdefault (thn (ho pins s σ H _ I h) fun u s1 ⟨x,H1,I1,rx,a,ex,d,q1⟩=>?_);subst ex;obtain rfl:u=Value.ref a:=rx;obtain⟨t1,t2,_⟩:=qmi I1 d;refine⟨t1,t2,?_⟩;rw[m.trees];refine Wy rfl (W7 (Zc (thn (he pins s1 σ H1 _ I1 q1) fun iv s2 ⟨y,H2,I2,ry,q2⟩=>
  Zc (thn (hf pins s2 σ H2 _ I2 q2) fun fv s3 ⟨z,H3,I3,rz,kvs,k,ea,hz,ey,q3,q4⟩=>Wc ?_))))
 subst ey;exact qz8 I3 ea hz ry rz (fun v w' s4 e I4 rw'=>⟨v,H3,I4,rw',q3 v e⟩) fun e s4 I4=>⟨z,_,I4,rz,q4 e⟩
end
end L2.QP
namespace L2.QP
open PySem PySem.Spec PyProof.Rows
theorem qqp:∀ {l:List Value} {ns:List Int},l.length=ns.length->(∀ (j:Nat) (v:Value) (n:Int),l[j]?=some v->ns[j]?=some n->∃ t,v = .int n t)->IntsAre l ns
 |[],[],_,_=>.nil
 |[],_::_,h,_=>by simp at h
 |_::_,[],h,_=>by simp at h
 | v::l,n::ns,h,k=>by
   obtain⟨t,rfl⟩:=k 0 v n rfl rfl;exact .cons n t (qqp (by simpa using h) fun j v' n' h1 h2=>k (j+1) v' n' (by simpa using h1) (by simpa using h2))
section
variable {X:Cx}
def rMaxD:List V->Hp->VK->Prop:=fun vs H Q=>∃ (a:Addr) (kvs:List (Key×V)) (ns:List Int),vs=[V.ref a]/\H a=some (.dK kvs)/\kvs.map (·.1)=ns.map Sum.inl/\0<ns.length/\∀ m,m∈ns->(∀ y,y∈ns->y<=m)->Q (.int m) H
theorem qqx{kvs:List (Key×V)}{vs:List (Key×Value)}{ns:List Int}(rel:KV kvs vs)(hk:kvs.map (·.1)=ns.map Sum.inl){i:Nat}{k:Key}{x v:Value}(h:vs[i]?=some (k,x))(hv:qbr k v=true): ∃ n t,ns[i]?=some n/\v = .int n t:=by
 have e1:(vs.map (·.1))[i]?=some k:=by rw[Jt,h];rfl
 rw[<- rel.keys,hk,Jt] at e1;cases e:ns[i]? with
 |none=>rw[e] at e1;cases e1
 | some n=>
   rw[e] at e1;have e2:Sum.inl n=k:=Jj e1;subst e2;obtain⟨t,rfl⟩:=Value.isInt_shape (k:=n) (v:=v) hv;exact⟨n,t,rfl,rfl⟩
theorem qya(hc:X.calm=true): Qd3 X (.builtin "max") rMaxD:=by
 intro pins s σ H vs us Q I r h;obtain⟨a,kvs,ns,rfl,ha,hk,hne,q⟩:=h;rw[Vals.qg6 r];obtain⟨z,hd,vals,rel,dd⟩:=qht I.hok ha;obtain⟨ep,hat⟩:=dd.dictAt;have hlen:vals.length=ns.length:=by rw[<- rel.length];have:=Yk List.length hk;simpa using this
 have hh:X.A.in1.handled=none:=I.ok.hd hc;obtain⟨oI,S,hit,W,st⟩:=(PySem.W.kdl_dict (prog:=X.prog) (w:=X.w) (knd:=qao X.prog X.w) (kvs:=vals) (ep:=ep) hd).iter X.A.in1 s hh hat;have val:∀ (i:Nat) (v:Value),(∃ k x,vals[i]?=some (k,x)/\qbr k v=true)->∃ t,v = .int (ns.getD i 0) t:=fun i v ⟨k,x,h1,h2⟩=>by
  obtain⟨n,t,e1,e2⟩:=qqx rel hk h1 h2;exact⟨t,by rw[e2,List.getD_eq_getElem?_getD,e1];rfl⟩
 refine call_max_walkS (hit _ _ ⟨s.heap.objs.size,_,_,_,vals.length,_,_,fun i j=>decide (ns.getD i 0 > ns.getD j 0),rfl,W.toS,st,fun b hb=>?_,by omega,CmpOf.ints_gt (fun i=>ns.getD i 0) val,fun v s' hP hm=>?_⟩)
 ·show b<(s.heap.push oI).objs.size;rw[J6];rcases Jf.mp hb with e|hb
  ·rw[e];exact Qe _
  ·rw[J3.mp hb];exact Wd hat.lt_size
 ·obtain⟨t,rfl⟩:=val _ v hP;obtain⟨h1,h2⟩:=argBest_gt (fun i=>ns.getD i 0) (vals.length-1);have hkp:∀ b o,s.heap.get? b=some o->s'.heap.get? b=some o:=fun b o e=>
   hm.heap b o (fun hI=>absurd (Jl e) (by rw[J3.mp hI];exact Yd _)) (Jb _ e)
  rw[Moved.eq_with hm];refine⟨.int _,H,I.kept hkp,⟨t,rfl⟩,q _ ?_ fun y hy=>?_⟩
  ·exact PySem.getD_mem (by omega)
  ·obtain⟨j,hj,rfl⟩:=mem_getD hy;exact h2 j (by omega)
def qsj(K:PySem.W.Frag): List V->Hp->VK->Prop:=fun vs H Q=>∃ (a:Addr) (ns:List Int),vs=[V.ref a]/\SqL K H a (ns.map V.int) /\
 ∀ (ns':List Int) (p:Addr),ns'.Perm ns->ns'.Pairwise (·<=·)->H p=none->Q (.ref p) (upd H p (.lst (ns'.map V.int)))
theorem qyb:Qd3 X (.builtin "sorted") (qsj X.K):=by
 intro pins s σ H vs us Q I r h;obtain⟨a,ns,rfl,hs,q⟩:=h;obtain⟨its,rv,hl,hz⟩:=I.list hs;rw[Vals.qg6 r];have hi:=rv.ints;have hz2:its.length<=sizeLine:=by rw[<- rv.length];exact hz
 refine PyProof.Rows.sorted_intsAny hl.isList hi hz2 fun out ns' h1 h2 h3=>?_;obtain⟨ep,he'⟩:=PyProof.Rows.sortedAll_at s.heap its out;have hlen:(ns'.map V.int).length<=sizeLine:=by rw[Jd,h2.length_eq];rw[Jd] at hz;exact hz
 exact⟨.ref _,upd H (s.heap.objs.size+1) (.lst (ns'.map V.int)),I.laid (t':=s.toks) (fun _ _=>PyProof.Rows.sortedAll_old) (Nat.le_succ _) ⟨hlen,out.toList,ep,qoe h1,he'⟩,rfl,q ns' _ h2 h3 (I.hok.fresh (Nat.le_succ _))⟩
def rSortD:List V->Hp->VK->Prop:=fun vs H Q=>∃ (a:Addr) (kvs:List (Key×V)) (ns:List Int),vs=[V.ref a]/\H a=some (.dK kvs)/\kvs.map (·.1)=ns.map Sum.inl /\
 ∀ (ns':List Int) (p:Addr) (H':Hp),ns'.Perm ns->ns'.Pairwise (·<=·)->H p=none->H'=upd H p (.lst (ns'.map V.int))->Q (.ref p) H'
theorem qpi(hc:X.calm=true): Qd3 X (.builtin "sorted") rSortD:=by
 intro pins s σ H vs us Q I r h;obtain⟨a,kvs,ns,rfl,ha,hk,q⟩:=h;rw[Vals.qg6 r];obtain⟨z,hd,vals,rel,dd⟩:=qht I.hok ha;obtain⟨ep,hat⟩:=dd.dictAt;have hlen:vals.length=ns.length:=by rw[<- rel.length];have:=Yk List.length hk;simpa using this
 have hz:vals.length<=sizeLine:=by rw[<- rel.length];exact z
 have hh:X.A.handled=none:=I.ok.hd hc;refine Calls.call_function_entry kind_sorted plain_sorted entry_sorted (args_sorted1 _) ?_;unfold Builtin.«sorted»;refine Ja (m:=checkCount "sorted" 1 1 _) (Jg ?_);refine Ja (PySem.W.kdu_collect (A:=X.A.in1) (PySem.W.kdl_dict (prog:=X.prog) (w:=X.w) (knd:=qao X.prog X.w) (kvs:=vals) (ep:=ep) hd) hh hat hz fun h' tk acc hkp hacc=>?_);have hl:acc.toList.length=ns.length:=by rw[Ud,hacc.1,hlen]
 have hI:IntsAre acc.toList ns:=qqp hl fun j v n e1 e2=>by
  obtain⟨k,x,g1,g2⟩:=hacc.2 j v (by rw[<- Array.getElem?_toList];exact e1);obtain⟨n',t,g3,g4⟩:=qqx rel hk g1 g2;rw[e2] at g3;cases g3;exact⟨t,g4⟩
 refine Ja (wpAny_newList ?_ (by rw[hl,<- hlen];exact hz));have ho:(h'.push (seqObj "list" acc.toList.toArray 0)).get? h'.objs.size=some (seqObj "list" acc.toList.toArray 0):=Js _ rfl;refine Ja (Xi (X5 slot_list_sort ⟨_,ho,rfl⟩ entry_list_sort (list_sort_treeAny ho hI (by rw[hl,<- hlen];exact hz) fun out ns' h1 h2 h3=>⟨_,rfl,?_⟩) (args_list_sort _)));refine Jg ⟨_,rfl,?_⟩;obtain⟨ep2,he'⟩:=PyProof.Rows.sortedHeap_at (vs:=acc.toList) (out:=out) ho;have hlen2:(ns'.map V.int).length<=sizeLine:=by rw[Jd,h2.length_eq,<- hlen];exact hz
 have I1:Inv X pins σ H { s with heap:=h',toks:=tk }:=I.kept hkp;refine⟨.ref h'.objs.size,upd H h'.objs.size (.lst (ns'.map V.int)),I1.laid (t':=tk) (a:=h'.objs.size) (fun b u hb=>?_) (Jp _) ⟨hlen2,out.toList,ep2,qoe h1,he'⟩,rfl,q ns' _ _ h2 h3 (I1.hok.fresh (Jp _)) rfl⟩;rw[PyProof.Rows.sortedHeap_old (Xl (Jl hb)) (by show b<(h'.push _).objs.size;rw[J6];exact Wd (Jl hb))];exact Jb _ hb
end
end L2.QP
namespace L2.QP
open PySem PySem.Spec PyProof.Rows
section
variable {X:Cx} {pins:List (Addr×Obj)} {σ:St} {H:Hp} {s:Shared} {h':Heap}
theorem track{t':Nat}{N:Addr->Option HO}(I:Inv X pins σ H s)(k:∀ b u,s.heap.get? b=some u->h'.get? b=some u)(hN:∀ b o,N b=some o->s.heap.objs.size<=b)
  (ok:∀ b o,N b=some o->Qaw X.prog X.w (fun c=>(N c).or (H c)) h' b o): Inv X pins σ (fun c=>(N c).or (H c)) { s with heap:=h',toks:=t' }:=by
 have old:∀ b,b<s.heap.objs.size->(N b).or (H b)=H b:=fun b hb=>by
  cases e:N b with
  |none=>rfl
  |some o=>exact absurd (hN b o e) (by omega)
 have oldH:∀ b u,H b=some u->(N b).or (H b)=some u:=fun b u e=>by rw[old b (I.hok.lt e)];exact e
 refine I.un ⟨fun b o q _ _ _=>k b o q,fun b o q _ _ _=>⟨o.slots,k b o q⟩,fun b o q n _=>by rw[old b (Jl q)];exact n,fun b o q _=>⟨o,k b o q⟩,fun b xs q=>oldH b _ q,fun b o u q=>oldH b _ q,fun b ps q=>⟨#[],by rw[oldH b _ q];simp⟩⟩ fun b u e=>?_;cases q:N b with
 | some o=>
   have e2:(N b).or (H b)=some u:=e;rw[q] at e2;have e3:o=u:=Jj e2;subst e3;exact ok b o q
 | none=>
   have e2:(N b).or (H b)=some u:=e;rw[q] at e2;have e3:H b=some u:=e2;exact(I.hok b u e3).stay (fun c v _ z=>k c v z) (fun c z=>oldH c _ z) fun c xs z=>oldH c _ z
theorem qw7:bootBuiltins "list" = some (.type "list"):=by decide +kernel
def rLZ(K:PySem.W.Frag): List V->Hp->VK->Prop:=fun vs H Q=>∃ (a b c:Addr) (xs ys zs:List V) (n:Nat),vs=[V.ref a,V.ref b,V.ref c]/\SqL K H a xs/\SqL K H b ys/\SqL K H c zs/\n<xs.length/\n=ys.length/\n<=zs.length /\
 ∀ (H':Hp) (l:Addr) (as:List Addr),Kh H H'->H l=none->H' l=some (.lst (as.map V.ref))->as.length=n ->
   (∀ (j:Nat) (p:Addr),as[j]?=some p->∃ x y z,xs[j]?=some x/\ys[j]?=some y/\zs[j]?=some z/\H' p=some (.tup [x,y,z]))->Q (.ref l) H'
theorem qcm{d S:Nat}(h:d<S)(k:Nat): d≠S+k:=by omega
theorem ap3(S0 a b c:Nat)(la:a<S0)(lb:b<S0)(lc:c<S0): QZ.Ap3 (S0+5) (S0+3) (S0+4) S0 (S0+1) (S0+2) [S0,a] [S0+1,b] [S0+2,c]:=by
 have mm:∀ (u v d:Nat),d∈([u,v]:List Nat)->d=u\/d=v:=fun u v d hd=>by simpa using hd
 constructor;all_goals first
  |exact(show ((_:Nat)≠(_:Nat)) by omega)
  |(intro d hd
    have q:=mm _ _ d hd;refine⟨?_,?_,?_,?_⟩<;>exact(show ((_:Nat)≠(_:Nat)) by omega))
open Classical in
noncomputable def qc4(D:Addr)(as:List Addr)(xs ys zs:List V)(b:Addr): Option HO:=
 if b=D then some (.lst (as.map V.ref)) else if h:∃ vs:List V,∃ (j:Nat) (x y z:V),as[j]?=some b/\xs[j]?=some x/\ys[j]?=some y/\zs[j]?=some z/\vs=[x,y,z] then some (.tup (choose h)) else none
theorem q5h{e1 e2 e3:Expr}{ta:TA}{p pos p' pos':Pos}(hg:Gl X "list")(hm:X.mg "list" = none)(hg2:Gl X "zip")(hm2:X.mg "zip" = none)(ha:PA X [e1,e2,e3] ta)(hc:X.calm=true:=by rfl)
  (hs:starEach [e1,e2,e3] X.env=(false,eval e1 X.env)::starEach [e2,e3] X.env:=by rfl)(hpl:(backTo pos' (starEach [e2,e3] X.env)).any (·.1)=false:=by rfl)
  (hs2:starEach [.Call (.Name "zip" p') [e1,e2,e3] [] pos'] X.env=[(false,eval (.Call (.Name "zip" p') [e1,e2,e3] [] pos') X.env)]:=by rfl):
  PE X (.Call (.Name "list" p) [.Call (.Name "zip" p') [e1,e2,e3] [] pos'] [] pos) (tCB (rLZ X.K) ta):=by
 intro pins s σ H Q I h;refine Call_ (qev I hg hm qw7 (Yo ?_ hs2 rfl));rw[hs2];show wpAny _ _ (spliced [(false,eval (.Call (.Name "zip" p') [e1,e2,e3] [] pos') X.env)]) _ _ s;refine Zc (Yw (Call_ (qev I hg2 hm2 qk7 (Yo (thn (ha pos' pins s σ H _ I h) fun us s1 ⟨vs,H1,I1,r1,q1⟩=>?_) hs hpl))) (fun v s' hv=>Wc hv) fun _ _ q=>q);obtain⟨a,b,c,xs,ys,zs,n,ex,hqx,hqy,hqz,n1,n2,n3,q⟩:=q1;subst ex;cases r1 with
 | cons r rr=>
   cases rr with
   | cons r' rr=>
     cases rr with
     | cons r'' rr=>
       cases rr;cases r;cases r';cases r'';obtain⟨its1,rv1,p1,_⟩:=I1.list hqx;obtain⟨its2,rv2,p2,z2⟩:=I1.list hqy;obtain⟨its3,rv3,p3,_⟩:=I1.list hqz;have la:a<s1.heap.objs.size:=p1.lt;have lb:b<s1.heap.objs.size:=p2.lt;have lc:c<s1.heap.objs.size:=p3.lt;have l1:=rv1.length;have l2:=rv2.length;have l3:=rv3.length;refine QZ.qx1 p1.isList p2.isList p3.isList fun g1 hz hTI hTO hi1 hi2 hi3 hsz hk=>?_;generalize hS0:s1.heap.objs.size=S0 at hz hTI hTO hi1 hi2 hi3 hsz la lb lc;have Ap:QZ.Ap3 (S0+5) (S0+3) (S0+4) S0 (S0+1) (S0+2) [S0,a] [S0+1,b] [S0+2,c]:=by
        exact ap3 S0 a b c la lb lc
       have Z0:QZ.Z3 g1 (S0+5) (S0+3) (S0+4) S0 (S0+1) (S0+2) a b c its1.toArray its2.toArray its3.toArray 0:=
        ⟨⟨_,false,hz,.inl rfl⟩,hTI,⟨_,_,_,hTO⟩,⟨hi1,p1.isList.at fun o e=>hk _ o e⟩,⟨hi2,p2.isList.at fun o e=>hk _ o e⟩,⟨hi3,p3.isList.at fun o e=>hk _ o e⟩⟩
       refine QZ.list3 (I.ok.hd hc) Ap (qcm la 0) (qcm lb 1) (qcm lc 2) Z0 n (by omega) (by simp;omega) (by simp;omega) (by simp;omega) fun g2 tk as ce hl hD hA kp=>?_;have hgs:(show Shared from { s1 with heap:=g1 }).heap.objs.size=S0+6:=hsz;have kp2:∀ d o,s1.heap.get? d=some o->g2.get? d=some o:=fun d o e=>by
        have hd:d<S0:=by rw[<- hS0];exact Jl e
        exact kp d o (qcm hd 5) (qcm hd 4) (qcm hd 0) (qcm hd 1) (qcm hd 2) (hk d o e)
       have hDn:g1.objs.size=S0+6:=hsz;have sq:∀ {b:Addr} {vs vs':List V},(∃ (j:Nat) (x y z:V),as[j]?=some b/\xs[j]?=some x/\ys[j]?=some y/\zs[j]?=some z/\vs=[x,y,z])->(∃ (j:Nat) (x y z:V),as[j]?=some b/\xs[j]?=some x/\ys[j]?=some y/\zs[j]?=some z/\vs'=[x,y,z])->vs=vs':=by
        rintro b vs vs' ⟨j,x,y,z,e0,e1,e2,e3,rfl⟩ ⟨j',x',y',z',e0',e1',e2',e3',rfl⟩;obtain⟨_,u1,u2,u3,f1,f2,f3,f4⟩:=hA j b e0;obtain⟨_,u1',u2',u3',f1',f2',f3',f4'⟩:=hA j' b e0';obtain⟨v1,w1,w1r⟩:=rv1.get e1;obtain⟨v2,w2,w2r⟩:=rv2.get e2;obtain⟨v3,w3,w3r⟩:=rv3.get e3;obtain⟨v1',w1',w1r'⟩:=rv1.get e1';obtain⟨v2',w2',w2r'⟩:=rv2.get e2';obtain⟨v3',w3',w3r'⟩:=rv3.get e3';have g1:u1=v1:=by rw[X6,w1] at f1;exact(Jj f1).symm
        have g2:u2=v2:=by rw[X6,w2] at f2;exact(Jj f2).symm
        have g3:u3=v3:=by rw[X6,w3] at f3;exact(Jj f3).symm
        have g1':u1'=v1':=by rw[X6,w1'] at f1';exact(Jj f1').symm
        have g2':u2'=v2':=by rw[X6,w2'] at f2';exact(Jj f2').symm
        have g3':u3'=v3':=by rw[X6,w3'] at f3';exact(Jj f3').symm
        subst g1 g2 g3 g1' g2' g3';have ee:=f4.symm.trans f4';simp at ee;obtain⟨ee1,ee2,ee3⟩:=ee;subst ee1 ee2 ee3;rw[w1r.inj w1r',w2r.inj w2r',w3r.inj w3r']
       have nD:qc4 (S0+6) as xs ys zs (S0+6)=some (.lst (as.map V.ref)):=by unfold qc4;rw[Je rfl]
       have asD:∀ (j:Nat) (p:Addr),as[j]?=some p->p≠S0+6:=fun j p e z=>by
        obtain⟨_,u1,u2,u3,_,_,_,f4⟩:=hA j p e;have hD':g2.get? g1.objs.size=some _:=hD;rw[hDn,<- z,f4] at hD';have q2:Value.type "tuple" = Value.type "list":=Yk Obj.cls (Jj hD');injection q2 with q2;exact absurd q2 (by decide)
       have nT:∀ (j:Nat) (p:Addr) (x y z:V),as[j]?=some p->xs[j]?=some x->ys[j]?=some y->zs[j]?=some z->qc4 (S0+6) as xs ys zs p=some (.tup [x,y,z]):=fun j p x y z e0 e1 e2 e3=>by
        unfold qc4;rw[Jc (asD j p e0)];have hex:∃ vs:List V,∃ (j:Nat) (x y z:V),as[j]?=some p/\xs[j]?=some x/\ys[j]?=some y/\zs[j]?=some z/\vs=[x,y,z]:=⟨_,j,x,y,z,e0,e1,e2,e3,rfl⟩
        rw[dif_pos hex,sq (Classical.choose_spec hex) ⟨j,x,y,z,e0,e1,e2,e3,rfl⟩]
       have I2:Inv X pins σ (fun d=>(qc4 (S0+6) as xs ys zs d).or (H1 d)) { s1 with heap:=g2,toks:=tk }:=by
        refine track I1 kp2 (fun d o e=>?_) fun d o e=>?_
        ·unfold qc4 at e;split at e
         ·rename_i z;rw[hS0,z];exact Yj _ _
         ·split at e
          ·rename_i hex;obtain⟨vs,j,x,y,z,e0,_⟩:=hex;have z:S0+6<=d:=by rw[<- hDn];exact(hA j d e0).1
           rw[hS0];exact Xd (Yj _ _) z
          ·cases e
        ·unfold qc4 at e;split at e
         ·rename_i z;cases e;subst z;refine⟨by rw[Jd,hl];omega,as.map Value.ref,ce,?_,by rw[<- hDn];exact hD⟩;clear hA hl sq nD asD nT hD;induction as with
          |nil=>exact .nil
          |cons a0 r ih=>exact .cons rfl ih
         ·split at e
          ·rename_i hex;cases e;obtain⟨j,x,y,z,e0,e1,e2,e3,ev⟩:=Classical.choose_spec hex;rw[ev];obtain⟨_,u1,u2,u3,f1,f2,f3,f4⟩:=hA j d e0;obtain⟨v1,w1,w1r⟩:=rv1.get e1;obtain⟨v2,w2,w2r⟩:=rv2.get e2;obtain⟨v3,w3,w3r⟩:=rv3.get e3;rw[X6,w1] at f1;rw[X6,w2] at f2;rw[X6,w3] at f3;cases f1;cases f2;cases f3;exact⟨by show 3<=sizeLine;decide,[u1,u2,u3],.cons w1r (.cons w2r (.cons w3r .nil)),⟨_,f4,rfl,_,rfl⟩⟩
          ·cases e
       have sm:Kh H1 (fun d=>(qc4 (S0+6) as xs ys zs d).or (H1 d)):=fun d o e=>by
        have hd:d<S0:=by rw[<- hS0];exact I1.hok.lt e
        show (qc4 (S0+6) as xs ys zs d).or (H1 d)=some o;have:qc4 (S0+6) as xs ys zs d=none:=by
         unfold qc4;rw[Jc (qcm hd 6)];rw[dif_neg];rintro ⟨vs,j,x,y,z,e0,_⟩;have z:S0+6<=d:=by rw[<- hDn];exact(hA j d e0).1
         exact absurd (Xk hd (Xd (Yj _ _) z)) (Yd _)
        rw[this];exact e
       refine⟨.ref (S0+6),_,I2,?_,q _ (S0+6) as sm (I1.hok.fresh (by rw[hS0];exact Yj _ _)) ?_ hl fun j p0 e0=>?_⟩
       ·show Value.ref g1.objs.size=_;rw[hDn]
       ·show (qc4 (S0+6) as xs ys zs (S0+6)).or _=_;rw[nD];rfl
       ·obtain⟨_,u1,u2,u3,f1,f2,f3,f4⟩:=hA j p0 e0;have hj:=(Ji.mp e0).1;have e1:xs[j]?=some xs[j]:=Jo (by omega);have e2:ys[j]?=some ys[j]:=Jo (by omega);have e3:zs[j]?=some zs[j]:=Jo (by omega);refine⟨_,_,_,e1,e2,e3,?_⟩;show (qc4 (S0+6) as xs ys zs p0).or _=_;rw[nT j p0 _ _ _ e0 e1 e2 e3];rfl
end
end L2.QP
namespace QZ
open PySem
structure Z2(h:Heap)(z TI TO i1 i2 t l:Addr)(xs ys:Array Value)(k:Nat): Prop where
 ex:∃ f0 fb,Qaj h z TI TO f0 (.bool fb)/\Own2 h z TO i1 i2 f0
 ti:IsT h TI #[.ref i1,.ref i2]
 to:∃ a1 a2,IsT h TO #[a1,a2]
 s1:h.IsTupleIter i1 t k/\h.IsTuple t xs
 s2:h.IsListIter i2 l k/\h.IsList l ys
section
variable {prog:Program} {w:World} {A:Around} {E:Value->Shared->Prop} {s:Shared} {z TI TO i1 i2 t l:Addr} {xs ys:Array Value} {k:Nat}
theorem Z2.frame{h h':Heap}(x:Z2 h z TI TO i1 i2 t l xs ys k)(kp:∀ b o,h.get? b=some o->h'.get? b=some o): Z2 h' z TI TO i1 i2 t l xs ys k:=by
 obtain⟨⟨f0,fb,hz,ho⟩,ti,⟨a1,a2,to⟩,s1,s2⟩:=x;refine⟨⟨f0,fb,kp _ _ hz,?_⟩,kp _ _ ti,⟨a1,a2,kp _ _ to⟩,⟨s1.1.at fun o e=>kp _ o e,qkn s1.2 fun o e=>kp _ o e⟩,⟨s2.1.at fun o e=>kp _ o e,s2.2.at fun o e=>kp _ o e⟩⟩;rcases ho with rfl|⟨T,e,t1,t2,t3,t4,o,hT⟩
 ·exact .inl rfl
 ·exact .inr ⟨T,e,t1,t2,t3,t4,o,kp _ _ hT⟩
theorem Z2.but{h h':Heap}{S:Addr}(x:Z2 h z TI TO i1 i2 t l xs ys k)
  (hS:S≠z/\S≠TI/\S≠TO/\S≠i1/\S≠i2/\S≠t/\S≠l)(oS:∃ o,h'.get? S=some o)
  (kp:∀ b o,b≠S->h.get? b=some o->h'.get? b=some o): Z2 h' z TI TO i1 i2 t l xs ys k:=by
 obtain⟨n1,n2,n3,n4,n5,n6,n7⟩:=hS;obtain⟨⟨f0,fb,hz,ho⟩,ti,⟨a1,a2,to⟩,s1,s2⟩:=x;refine⟨⟨f0,fb,kp _ _ (Xb n1) hz,?_⟩,kp _ _ (Xb n2) ti,⟨a1,a2,kp _ _ (Xb n3) to⟩,⟨s1.1.at fun o e=>kp _ o (Xb n4) e,qkn s1.2 fun o e=>kp _ o (Xb n6) e⟩,
  ⟨s2.1.at fun o e=>kp _ o (Xb n5) e,s2.2.at fun o e=>kp _ o (Xb n7) e⟩⟩
 rcases ho with rfl|⟨T,e,t1,t2,t3,t4,o,hT⟩
 ·exact .inl rfl
 ·by_cases q:T=S
  ·obtain⟨o',ho'⟩:=oS;exact .inr ⟨T,e,t1,t2,t3,t4,o',by rw[q];exact ho'⟩
  ·exact .inr ⟨T,e,t1,t2,t3,t4,o,kp _ _ q hT⟩
theorem next2{Q:Option Value->Shared->Prop}{x y:Value}(hh:A.handled=none)(Ap:Ap2 z TI TO i1 i2 [i1,t] [i2,l])(x0:Z2 s.heap z TI TO i1 i2 t l xs ys k)
  (d1:t≠i1)(d2:l≠i2)(hx:xs[k]?=some x)(hy:ys[k]?=some y)
  (hQ:∀ h' tk,Z2 h' z TI TO i1 i2 t l xs ys (k+1)->IsT h' s.heap.objs.size #[x,y]->h'.objs.size=s.heap.objs.size+1 ->
   (∀ c o,c≠z->c≠TO->c≠i1->c≠i2->s.heap.get? c=some o->h'.get? c=some o)->Q (some (.ref s.heap.objs.size)) { s with heap:=h',toks:=tk }):
  wpAny (model prog w) A (pyNext (.ref z)) Q E s:=by
 obtain⟨⟨f0,fb,hz,ho⟩,ti,to,s1,s2⟩:=x0;have hT:s.TypeIs (.ref z) "zip":=⟨_,hz,rfl⟩
 have e1:=(Yp.mp hx).1;have e2:=(Yp.mp hy).1;unfold pyNext;refine Ja (Ws (X7 (name:=Str.ofString "__next__") hT Zn (X5 Zn hT Qk
  (za4 (qpt (A:=A.in1) hh i1 t d1 xs) (W8 (A:=A.in1) hh i2 l d2 ys) Ap hz ho ti to s1 e1 s2 e2 fun h' tk x1 x2 f0' fb' p1 p2 hz' ho' to' q1 q2 hn zn kp=>?_) (Qa _))))
 rw[hx] at p1;rw[hy] at p2;cases p1;cases p2;exact Jg (hQ h' tk ⟨⟨f0',fb',hz',ho'⟩,kp _ _ Ap.TIz Ap.TITO Ap.TIi1 Ap.TIi2 ti,to',q1,q2⟩ hn zn kp)
theorem end2{Q:Option Value->Shared->Prop}(hh:A.handled=none)(Ap:Ap2 z TI TO i1 i2 [i1,t] [i2,l])(x0:Z2 s.heap z TI TO i1 i2 t l xs ys k)
  (d1:t≠i1)(d2:l≠i2)(h1:k=xs.size)
  (hQ:∀ h',(∀ c o,c≠z->c≠TO->c≠i1->c≠i2->s.heap.get? c=some o->h'.get? c=some o)->Q none { s with heap:=h' }):
  wpAny (model prog w) A (pyNext (.ref z)) Q E s:=by
 obtain⟨⟨f0,fb,hz,ho⟩,ti,to,s1,s2⟩:=x0;have hT:s.TypeIs (.ref z) "zip":=⟨_,hz,rfl⟩
 unfold pyNext;refine Ja (Ws (X7 (name:=Str.ofString "__next__") hT Zn (X5 Zn hT Qk
  (za3 (qpt (A:=A.in1) hh i1 t d1 xs) (W8 (A:=A.in1) hh i2 l d2 ys) Ap hz ho ti to s1 s2 h1 fun h' e kp he=>?_) (Qa _))))
 obtain⟨o,ho,hc⟩:=he;refine Ja (Qh (T:= "StopIteration") (b:=true) ⟨o,ho,hc⟩ isSubtype_stop ?_);exact Jg (hQ _ kp)
end
end QZ
namespace L2.QP
open PySem PySem.Spec PyProof.Rows
section
variable {prog:Program} {w:World} {A:Around} {E:Value->Shared->Prop} {z TI TO i1 i2 t l S:Addr} {xs ys:Array Value}
theorem updz{R:Result->Shared->Prop}{res:Value}(hh:A.handled=none)(Ap:QZ.Ap2 z TI TO i1 i2 [i1,t] [i2,l])(d1:t≠i1)(d2:l≠i2)(hS:S≠z/\S≠TI/\S≠TO/\S≠i1/\S≠i2/\S≠t/\S≠l):
  ∀ (rest:List (Key×Value)) (i:Nat) (acc:List (Key×Value)) (ix:Int) (tt:Tok) (s:Shared),xs.size=i+rest.length->acc.length+rest.length<=sizeLine ->
    (∀ (j:Nat) (q:Key×Value),rest[j]?=some q->∃ u:Value,xs[i+j]?=some u/\ys[i+j]?=some q.2/\qbr q.1 u=true) ->
    QZ.Z2 s.heap z TI TO i1 i2 t l xs ys i->s.heap.DictOf (qao prog w) S acc ->
    (∀ h' tk,h'.DictOf (qao prog w) S (merged acc rest)->(∀ b o,b≠S->b≠z->b≠TO->b≠i1->b≠i2->s.heap.get? b=some o->h'.get? b=some o)->R (.ok (.ret res)) { s with heap:=h',toks:=tk }) ->
    codeAny (model prog w) A (.builtin "dict.update.loop" ⟨[.ref S,.ref z,.int ix tt,res],[]⟩) R s
 | [],i,acc,ix,tt,s,hsz,hln,ht,x0,hm,hR=>by
   obtain⟨n1,n2,n3,n4,n5,n6,n7⟩:=id hS;refine Uk qv4 ?_;rw[W9 qit _];show wpAny _ A.in1 (pyNext (.ref z) >>= _) _ _ s;refine Ja (QZ.end2 (A:=A.in1) hh Ap x0 d1 d2 (by simpa using hsz.symm) fun h' kp=>?_);show wpAny _ A.in1 (Builtin.Dict.addKeywords S [] >>= _) _ _ _;refine Ja (Jg (Jg ?_));exact hR h' s.toks (hm.at fun o e=>kp _ o n1 n3 n4 n5 e) fun b o _ b1 b2 b3 b4 e=>kp b o b1 b2 b3 b4 e
 | q::rest,i,acc,ix,tt,s,hsz,hln,ht,x0,hm,hR=>by
   obtain⟨n1,n2,n3,n4,n5,n6,n7⟩:=id hS;obtain⟨u,hx,hy,hk⟩:=ht 0 q rfl;rw[Jz] at hsz hln;have lS:S<s.heap.objs.size:=by obtain⟨o,_,_,e,_⟩:=hm;exact Jl e
   refine Uk qv4 ?_;rw[W9 qit _];show wpAny _ A.in1 (pyNext (.ref z) >>= _) _ _ s;refine Ja (QZ.next2 (A:=A.in1) hh Ap x0 d1 d2 (by simpa using hx) (by simpa using hy) fun h1 tk1 x1 hT1 zz1 kp1=>?_);have hm1:h1.DictOf (qao prog w) S acc:=hm.at fun o e=>kp1 _ o n1 n3 n4 n5 e;show wpAny _ A.in1 (holding [Value.ref s.heap.objs.size] _ >>= _) _ _ _;refine Ja (Xi ?_);refine Ja (wpAny_tryCatch ?_);unfold Builtin.Dict.pairItems;refine Ja (wpAny_typeOf (T:= "tuple") ⟨_,hT1,rfl⟩ ?_);rw[Je (by first|decide|rfl|simp)];refine Ja (Yc hT1 rfl (Jg ?_));show wpAny _ A.in1 (holding [u,q.2] (dictSet S u q.2)) _ _ _;refine Xi (wpAny_dictSet_pairs (knd:=qao prog w) (k:=q.1) hk hm1 (fun h2 hm2 hs2=>?_) (by omega));refine Jg ⟨Qd qit _,updz hh Ap d1 d2 hS rest (i+1) (stored acc q.1 q.2) (ix+1) 0 _ (show xs.size=i+1+rest.length by omega) ?_ (fun j q' e=>?_) ?_ hm2 fun h' tk hd' k=>?_⟩
   ·have z:=stored_length_le acc q.1 q.2;omega
   ·obtain⟨u',hx',hy',hk'⟩:=ht (j+1) q' (by simpa using e);have e9:i+1+j=i+(j+1):=by omega
    rw[e9];exact⟨u',hx',hy',hk'⟩
   ·exact x1.but hS (let ⟨o,_,_,e,_⟩:=hm2;⟨o,e⟩) fun b o hb e=>hs2.extBut b o hb e
   ·exact hR h' tk hd' fun c oc h3 b1 b2 b3 b4 e=>k c oc h3 b1 b2 b3 b4 (hs2.extBut c oc h3 (kp1 c oc b1 b2 b3 b4 e))
theorem dict2{s:Shared}{prs:List (Key×Value)}{Q:Value->Shared->Prop}(hh:A.handled=none)(Ap:QZ.Ap2 z TI TO i1 i2 [i1,t] [i2,l])(d1:t≠i1)(d2:l≠i2)(x0:QZ.Z2 s.heap z TI TO i1 i2 t l xs ys 0)
  (hsz:xs.size=prs.length)(hln:prs.length<=sizeLine)(ht:∀ (j:Nat) (q:Key×Value),prs[j]?=some q->∃ u:Value,xs[j]?=some u/\ys[j]?=some q.2/\qbr q.1 u=true)
  (h:∀ h' tk,h'.DictOf (qao prog w) s.heap.objs.size (merged [] prs)->(∀ b o,b≠z->b≠TO->b≠i1->b≠i2->s.heap.get? b=some o->h'.get? b=some o)->Q (.ref s.heap.objs.size) { s with heap:=h',toks:=tk }):
  wpAny (model prog w) A (call (.type "dict") [.ref z]) Q E s:=by
 have lz:z<s.heap.objs.size:=by obtain⟨⟨_,_,q,_⟩,_⟩:=x0;exact Jl q
 have lTI:TI<s.heap.objs.size:=by obtain⟨_,q,_⟩:=x0;exact Jl q
 have lTO:TO<s.heap.objs.size:=by obtain⟨_,_,⟨_,_,q⟩,_⟩:=x0;exact Jl q
 have li1:i1<s.heap.objs.size:=by obtain⟨_,_,_,⟨⟨_,q,_⟩,_⟩,_⟩:=x0;exact Jl q
 have li2:i2<s.heap.objs.size:=by obtain⟨_,_,_,_,⟨⟨_,q,_⟩,_⟩⟩:=x0;exact Jl q
 have lt:t<s.heap.objs.size:=by obtain⟨_,_,_,⟨_,⟨_,q,_⟩⟩,_⟩:=x0;exact Jl q
 have ll:l<s.heap.objs.size:=by obtain⟨_,_,_,_,⟨_,⟨_,q,_⟩⟩⟩:=x0;exact Jl q
 refine callType_codes (Q₁:=fun obj s₁=>obj = .ref s.heap.objs.size/\s₁={ s with heap:=s.heap.push { cls:=.type "dict",data:=.dict #[] } }) PySem.F.kt_called_dict (PySem.F.kt_typeCall_dict_1 _) PySem.F.entry_dict_init (kt_code_dict_new _ ⟨rfl,rfl⟩) ?_;rintro obj s₁ ⟨rfl,rfl⟩;have hnew:(s.heap.push { cls:=.type "dict",data:=.dict #[] }).DictOf (qao prog w) s.heap.objs.size []:=Heap.DictOf.new s.heap;have k0:∀ b o,s.heap.get? b=some o->(s.heap.push { cls:=.type "dict",data:=.dict #[] }).get? b=some o:=fun b o e=>Jb _ e;have x1:=x0.frame k0;obtain⟨f0,fb,hz,_⟩:=x1.ex;refine⟨hnew.typeIs,PySem.F.args_dict_init_2 _ _,?_⟩;unfold Builtin.«dict.__init__»;refine Ja ?_;unfold Builtin.Dict.selfAndRest;refine Ja (wpAny_notOrdered_dict hnew.typeIs ?_);show wpAny _ _ (pure (s.heap.objs.size,[Value.ref z])) _ _ _;refine Jg ?_;show wpAny _ _ (Builtin.Dict.updateFrom "dict.__init__" s.heap.objs.size (.ref z) [] .none) _ _ _;unfold Builtin.Dict.updateFrom;refine Ja (wpAny_typeOf (T:= "zip") ⟨_,hz,rfl⟩ ?_);rw[Je (by first|decide|rfl|simp)];refine Ja (QZ.q32 hz hh fun h1 tk1 hk1=>?_);rw[Je (show (none:Option Value).isNone=true from rfl)];refine Ja (Uw ?_);have x2:=x1.frame hk1;obtain⟨f0',fb',hz',_⟩:=x2.ex;have hT:Shared.TypeIs { s with heap:=h1,toks:=tk1 } (.ref z) "zip":=⟨_,hz',rfl⟩
 refine Ja ?_;refine U7 hT PySem.F.slot_zip_iter (X5 PySem.F.slot_zip_iter hT PySem.F.entry_zip_iter ?_ (PySem.F.args_zip_iter_1 _));show wpAny _ _ (ret (.ref z)) _ _ _;refine Jg ⟨_,rfl,"zip",_,hT,PySem.F.slot_zip_next.lookup,?_⟩;have key:=updz (prog:=prog) (w:=w) (A:=A.in1) (R:=wants (fun r s₂=>r = .none/\Q (.ref s.heap.objs.size) s₂) E) (S:=s.heap.objs.size) (res:=Value.none) hh Ap d1 d2
  ⟨J5 lz,J5 lTI,J5 lTO,J5 li1,J5 li2,J5 lt,J5 ll⟩ prs 0 [] 0 0
  { s with heap:=h1,toks:=tk1 } (by rw[hsz,Nat.zero_add]) (by rw[Y3,Nat.zero_add];exact hln)
  (fun j q e=>by rw[Nat.zero_add];exact ht j q e) x2 (hnew.at fun o e=>hk1 _ _ e)
  (fun h' tk hd' k=>⟨rfl,h h' tk hd' fun b o b1 b2 b3 b4 e=>k b o (Xl (Jl e)) b1 b2 b3 b4 (hk1 _ _ (k0 _ _ e))⟩)
 first
  |exact Jg ⟨Qd qit _,key⟩
  |exact Ja (Jg (Jg ⟨Qd qit _,key⟩))
end
section
variable {X:Cx}
theorem ap2(S0 t l:Nat)(lt:t<S0)(ll:l<S0): QZ.Ap2 (S0+4) (S0+2) (S0+3) S0 (S0+1) [S0,t] [S0+1,l]:=by
 have mm:∀ (u v d:Nat),d∈([u,v]:List Nat)->d=u\/d=v:=fun u v d hd=>by simpa using hd
 constructor;all_goals first
  |exact(show ((_:Nat)≠(_:Nat)) by omega)
  |(intro d hd
    have q:=mm _ _ d hd;refine⟨?_,?_,?_⟩<;>exact(show ((_:Nat)≠(_:Nat)) by omega))
theorem qw6:bootBuiltins "dict" = some (.type "dict"):=by decide +kernel
def rDZ(K:PySem.W.Frag): List V->Hp->VK->Prop:=fun vs H Q=>∃ (t l:Addr) (ks:List Key) (ys:List V),vs=[V.ref t,V.ref l]/\SqT K H t (ks.map kV)/\SqL K H l ys/\ks.length=ys.length /\
 ∀ p,H p=none->Q (.ref p) (upd H p (.dK (qdj [] (ks.zip ys))))
theorem qwj:∀ {ks:List Key} {ys:List V} {us ws:List Value},Vals ys ws->ks.length=ys.length->∃ prs:List (Key×Value),KV (ks.zip ys) prs/\prs=ks.zip ws
 |[],[],_,_,.nil,_=>⟨[],.nil,rfl⟩
 |[],_::_,_,_,_,h=>by simp at h
 |_::_,[],_,_,_,h=>by simp at h
 | k::ks,y::ys,us,_,.cons r t,h=>by
   obtain⟨prs,h1,h2⟩:=qwj (us:=us) (ks:=ks) t (by simpa using h);exact⟨(k,_)::prs,.cons ⟨rfl,r⟩ h1,by rw[h2];rfl⟩
theorem q5c{e1 e2:Expr}{ta:TA}{p pos p' pos':Pos}(hg:Gl X "dict")(hm:X.mg "dict" = none)(hg2:Gl X "zip")(hm2:X.mg "zip" = none)(ha:PA X [e1,e2] ta)(hc:X.calm=true:=by rfl)
  (hs:starEach [e1,e2] X.env=(false,eval e1 X.env)::starEach [e2] X.env:=by rfl)(hpl:(backTo pos' (starEach [e2] X.env)).any (·.1)=false:=by rfl)
  (hs2:starEach [.Call (.Name "zip" p') [e1,e2] [] pos'] X.env=[(false,eval (.Call (.Name "zip" p') [e1,e2] [] pos') X.env)]:=by rfl):
  PE X (.Call (.Name "dict" p) [.Call (.Name "zip" p') [e1,e2] [] pos'] [] pos) (tCB (rDZ X.K) ta):=by
 intro pins s σ H Q I h;refine Call_ (qev I hg hm qw6 (Yo ?_ hs2 rfl));rw[hs2];show wpAny _ _ (spliced [(false,eval (.Call (.Name "zip" p') [e1,e2] [] pos') X.env)]) _ _ s;refine Zc (Yw (Call_ (qev I hg2 hm2 qk7 (Yo (thn (ha pos' pins s σ H _ I h) fun us s1 ⟨vs,H1,I1,r1,q1⟩=>?_) hs hpl))) (fun v s' hv=>Wc hv) fun _ _ q=>q);obtain⟨t,l,ks,ys,ex,hqt,hql,hkl,q⟩:=q1;subst ex;cases r1 with
 | cons r rr=>
   cases rr with
   | cons r' rr=>
     cases rr;cases r;cases r';obtain⟨its1,rv1,p1,z1⟩:=I1.tuple hqt;obtain⟨its2,rv2,p2,z2⟩:=I1.list hql;have la:t<s1.heap.objs.size:=p1.lt;have lb:l<s1.heap.objs.size:=p2.lt;have l1:=rv1.length;have l2:=rv2.length;rw[Jd] at l1;refine QZ.qx2 p1 p2.isList fun g1 hz hTI hTO hi1 hi2 hsz hk=>?_;generalize hS0:s1.heap.objs.size=S0 at hz hTI hTO hi1 hi2 hsz la lb;have Ap:=ap2 S0 t l la lb;have Z0:QZ.Z2 g1 (S0+4) (S0+2) (S0+3) S0 (S0+1) t l its1.toArray its2.toArray 0:=
      ⟨⟨_,false,hz,.inl rfl⟩,hTI,⟨_,_,hTO⟩,⟨hi1,QZ.qkn p1 fun o e=>hk _ o e⟩,⟨hi2,p2.isList.at fun o e=>hk _ o e⟩⟩
     obtain⟨prs,kv,ep⟩:=qwj (us:=its1) rv2 hkl;have hpl2:prs.length=ks.length:=by rw[ep,Yr];omega
     have sz:prs.length<=sizeLine:=by omega
     refine dict2 (A:=X.A) (prs:=prs) (I.ok.hd hc) Ap (qcm la 0) (qcm lb 1) Z0 (by rw[J8];omega) sz (fun j q' e=>?_) fun g2 tk hd kp=>?_
     ·rw[ep,Xn] at e;obtain⟨f1,f2⟩:=e;have f3:(ks.map kV)[j]?=some (kV q'.1):=by rw[Jt,f1];rfl
      obtain⟨u,hu,ru⟩:=rv1.get f3;exact⟨u,by rw[X6];exact hu,by rw[X6];exact f2,qds (P:=X.prog) (w:=X.w) ru⟩
     ·have hDn:g1.objs.size=S0+5:=hsz;have kp2:∀ d o,s1.heap.get? d=some o->g2.get? d=some o:=fun d o e=>by
       have hd:d<S0:=by rw[<- hS0];exact Jl e
       exact kp d o (qcm hd 4) (qcm hd 3) (qcm hd 0) (qcm hd 1) (hk d o e)
      have hd2:g2.DictOf (qao X.prog X.w) (S0+5) (merged [] prs):=by rw[<- hDn];exact hd
      have hbig:=I1.big;have hne:((S0+5:Addr)==sysModules)=false:=by
       rw[hS0] at hbig;exact Yu.mpr (fun z=>absurd (show sysModules<sysModules by rw (config:={ occs:=.pos [2] }) [<- z];exact Xk hbig (Yj _ _)) (Yd _))
      have hml:=qmp (ks.zip ys) [];have new:Qaw X.prog X.w (upd H1 (S0+5) (.dK (qdj [] (ks.zip ys)))) g2 (S0+5) (.dK (qdj [] (ks.zip ys))):=
       ⟨by rw[Yr] at hml;simp at hml;omega,hne,_,KV.merge kv .nil,hd2⟩
      refine⟨.ref (S0+5),_,I1.laid (t':=tk) (h':=g2) kp2 (by rw[hS0];exact Yj _ _) new,?_,q _ (I1.hok.fresh (by rw[hS0];exact Yj _ _))⟩;show Value.ref g1.objs.size=_;rw[hDn]
end
end L2.QP
namespace PySem
open Sem (wp)
open AutoSeq1 (wpAny_loadPart')
namespace QE
theorem zak(a v:Value): checkTypeCall "enumerate" ⟨[a],[(Str.ofString "start",v)]⟩=pure ():=by kernel_rfl
theorem q4t(a v:Value): checkBuiltinCall "enumerate.__new__" ⟨[.type "enumerate",a],[(Str.ofString "start",v)]⟩=pure ():=by kernel_rfl
theorem qwv(a b v:Value): argsOk "object.__init__" ⟨[a,b],[(Str.ofString "start",v)]⟩:=by kernel_rfl
theorem q3w(l:Addr)(items:Array Value)(n:Nat)(dct:Option Addr)(sl:Array (Option Value))(t:Tok):
  Meets (Builtin.«enumerate.__new__» ⟨[.type "enumerate",.ref l],[(Str.ofString "start",.int 1 t)]⟩) (fun _ R s=>s.heap.get? l=some { cls:=.type "list",dict:=dct,data:=.seq items n,slots:=sl } /\
   R (.ok (.ret (.ref (s.heap.push { cls:=.type "list_iterator",data:=.fields #[.ref l,.int 0 0] }).objs.size)))
     { s with heap:=(s.heap.push { cls:=.type "list_iterator",data:=.fields #[.ref l,.int 0 0] }).push { cls:=.type "enumerate",data:=.fields #[.none,.bool false,.ref s.heap.objs.size,rawInt 1,.none,.none] } }):=
 .of_wp fun prog w A R s h=>by
  obtain⟨hp,g,d,tk,os⟩:=s;obtain⟨hl,h⟩:=h;have hsub:=sub_enumerate;have hL:Heap.IsList (Shared.heap ⟨hp,g,d,tk,os⟩) l items:=⟨_,hl,rfl,n,rfl⟩
  wp_walk using Ul hl
  refine wpAny_stack_any fun st=>Jg ?_;split
  ·rename_i c _ _ _ _ _;cases (c==Value.type "enumerate")
   ·wp_walk using Ul hl,Y6 hL
    exact⟨_,rfl,h⟩
   ·wp_walk using Ul hl,Y6 hL
    exact⟨_,rfl,h⟩
  ·wp_walk using Ul hl,Y6 hL
   exact⟨_,rfl,h⟩
section
variable {prog:Program} {w:World} {A:Around} {E:Value->Shared->Prop} {s:Shared}
theorem qxu{T newId initId:String}{Bn Bi:Builtin}{args:List Value}{kw:List (Str×Value)}{S:Spec}{Q Q₁:Value->Shared->Prop}(ft:TypeCalled T newId initId)
  (hct:checkTypeCall T ⟨args,kw⟩=pure ())(hcn:checkBuiltinCall newId ⟨.type T::args,kw⟩=pure ())
  (entryN:entryFor table newId=some Bn)(entryI:entryFor table initId=some Bi)(g:Meets (Bn ⟨.type T::args,kw⟩) S)
  (h:S A.in1 (wants Q₁ E) s)
  (hnext:∀ obj s₁,Q₁ obj s₁->s₁.TypeIs obj T/\argsOk initId ⟨obj::args,kw⟩/\∃ Si,Meets (Bi ⟨obj::args,kw⟩) Si/\Si A.in1 (wants (fun r s₂=>r = .none/\Q obj s₂) E) s₁):
  wpAny (model prog w) A (call (.type T) args kw) Q E s:=by
 obtain⟨c,tl,hmro⟩:=ft.mro;have hmade:=ft.made;have hsub:=ft.sub;refine wpAny_call (codeAny_of_tree ?_);show wpAny _ _ (callAny (.type T) _) _ _ _;refine Jg ⟨Code.quiet_builtin _ (by decide +kernel),Uk F.entry_type_call ?_⟩;rw[Around.under_plain (weight_type_call_type T args kw) (units_type_call_type T args kw)];have h1:=ft.notType;have h2:=ft.canCreate;repeat (any_goals (first|assumption|wp_step))
 refine Ur (codeAny_call_builtin ft.plain entryN (wpAny_of_eq hcn (g prog w A.in1 _ s h))) fun r s₁ hr=>?_;cases r with
 |error e=>exact hr
 | ok fl=>
   cases fl with
   | ret obj=>
     obtain⟨hT,hok,Si,gi,hsi⟩:=hnext _ _ hr;have hli:=ft.init.lookup;have hbi:=ft.init.bind obj;repeat (any_goals (first|assumption|wp_step))
     refine Ur (codeAny_call_builtin ft.init.plain entryI (ft.init.check _ _ _ _ _ _ _ _ hT hok (gi prog w A.in1 _ s₁ hsi))) fun r₂ s₂ hr₂=>?_;cases r₂ with
     |error e=>exact hr₂
     | ok fl₂=>
       cases fl₂ with
       | ret r=>
         obtain⟨rfl,hq⟩:=hr₂;repeat (any_goals (first|assumption|wp_step))
       |_=>exact hr₂.elim
   |_=>exact hr.elim
theorem q41{T newId:String}{self:Value}{a:Value}{rest:List Value}{kw:List (Str×Value)}(hl:typeLookup (.type T) "__init__" = pure (some (.builtin "object.__init__")))
  (hm:Bind.madeBy (.type T)=pure (some newId))(hne:(some newId != some "object.__new__")=true):
  Meets (Builtin.«object.__init__» ⟨self::a::rest,kw⟩) (fun _ R s=>s.TypeIs self T/\R (.ok (.ret .none)) s):=by
 refine Meets.of_wp fun prog w A R s hs=>?_;obtain⟨hT,hq⟩:=hs;repeat (any_goals (first|assumption|wp_step))
 exact⟨_,rfl,hq⟩
theorem qxw{l:Addr}{items:Array Value}{t:Tok}{Q:Value->Shared->Prop}(hL:s.heap.IsList l items)
  (h:∀ h',IsEnum h' (s.heap.objs.size+1) s.heap.objs.size 1 .none->h'.IsListIter s.heap.objs.size l 0->h'.objs.size=s.heap.objs.size+2 ->
   (∀ b o,s.heap.get? b=some o->h'.get? b=some o)->Q (.ref (s.heap.objs.size+1)) { s with heap:=h' }):
  wpAny (model prog w) A (call (.type "enumerate") [.ref l] [(Str.ofString "start",.int 1 t)]) Q E s:=by
 obtain⟨⟨c,dct,dt,sl⟩,hl,hc,n,hd⟩:=hL;replace hc:c = .type "list":=hc;replace hd:dt = .seq items n:=hd;subst hc hd;refine qxu (Q₁:=fun obj s₁=>s₁.TypeIs obj "enumerate"/\Q obj s₁) F.called_enumerate (zak _ _) (q4t _ _) F.entry_enumerate_new F.entry_object_init
  (q3w l items n dct sl t) ⟨hl,?_⟩ fun obj _ hq=>⟨hq.1,qwv obj _ _,_,q41 F.called_enumerate.init.lookup F.called_enumerate.made (by decide),hq.1,rfl,hq.2⟩
 have hz:(s.heap.push { cls:=.type "list_iterator",data:=.fields #[.ref l,.int 0 0] }).objs.size=s.heap.objs.size+1:=J6 ..;show _/\_;rw[hz];have he:IsEnum ((s.heap.push { cls:=.type "list_iterator",data:=.fields #[.ref l,.int 0 0] }).push
   { cls:=.type "enumerate",data:=.fields #[.none,.bool false,.ref s.heap.objs.size,rawInt 1,.none,.none] }) (s.heap.objs.size+1) s.heap.objs.size 1 .none:=by
  have:=Js (s.heap.push { cls:=.type "list_iterator",data:=.fields #[.ref l,.int 0 0] })
   (o:={ cls:=.type "enumerate",data:=.fields #[.none,.bool false,.ref s.heap.objs.size,rawInt 1,.none,.none] }) rfl
  rw[hz] at this;exact this
 refine⟨⟨_,he,rfl⟩,h _ he ⟨_,Jb _ (Js _ rfl),rfl,rfl⟩ (by rw[J6,hz]) fun b o x=>Jb _ (Jb _ x)⟩
theorem qxv{M:Model}{A:Around}{E:Value->Shared->Prop}{s:Shared}{pos:Pos}{T:String}{first:List Value}{args:List (Bool×Sem Value)}{keywords:List (Option Str×Sem Value)}{Q:Value->Shared->Prop}
  (hplain:args.any (·.1)=false)(hkw:keywords.any (·.1.isNone)=false)
  (h:wpAny M A (evalArgs (.type T) true args keywords) (fun a s₁=>wpAny M A (call (.type T) (first++a.pos) a.kw) Q E s₁) E s):
  wpAny M A (callWith pos (.type T) first args keywords) Q E s:=by
 unfold callWith;refine Ja (Xi (Yw h (fun a s₁ h₁=>Ja (wpAny_standAt ?_)) fun _ _ x=>x));simp only[hplain,hkw,Bool.or_false];refine Ja (Jg ?_);exact Ja (Yw h₁ (fun r s₂ hr=>Ja (Xi (wpAny_point (Jg hr)))) fun _ _ x=>x)
theorem Qwk{M:Model}{A:Around}{E:Value->Shared->Prop}{s:Shared}{env:Env}{func:Expr}{args:List Expr}{kws:List Keyword}{pos:Pos}{Q:Value->Shared->Prop}
  (h:wpAny M A (eval func env) (fun f s₁=>wpAny M A (callWith pos f [] (backTo pos (starEach args env)) (backToKw pos (keywordEach kws env))) Q E s₁) E s)
  (he:eval (.Call func args kws pos) env=(do callWith pos (<- eval func env) [] (backTo pos (starEach args env)) (backToKw pos (keywordEach kws env))):=by rfl):
  wpAny M A (eval (.Call func args kws pos) env) Q E s:=by
 rw[he];exact Ja h
theorem draws1(hh:A.handled=none)(it l:Addr)(hne:l≠it)(items:Array Value):
  Draws prog w A it [it,l] (items.size+1) (fun j v=>1<=j/\items[j-1]?=some v) (fun j h=>1<=j/\h.IsListIter it l (j-1)/\h.IsList l items) where
 live:=fun _ _ st=>let ⟨o,ho,_⟩:=st.2.1;⟨o,ho⟩
 frame:=fun _ _ _ st hk=>⟨st.1,st.2.1.at fun o e=>hk it (by simp) o e,st.2.2.at fun o e=>hk l (by simp) o e⟩
 item:=fun j s Q E hj st hQ=>by
  have hlt:j-1<items.size:=by have:=st.1;omega
  refine wpAny_nextOf_list_item st.2.1 st.2.2 (x:=items[j-1]) (by simp[hlt]) fun h' qfc hs'=>?_;refine hQ _ h' s.toks ⟨st.1,by simp[hlt]⟩ ⟨Nat.le_add_left _ _,?_,st.2.2.extBut hs'.extBut hne⟩ hs';have e:j+1-1=j-1+1:=by have:=st.1;omega
  rw[e];exact qfc
 done:=fun s Q E st hE=>wpAny_nextOf_list_end hh st.2.1 st.2.2 (by simp) hE
end
end QE
end PySem
namespace L2.QP
open PySem PySem.Spec PyProof.Rows
def Ite1(K:PySem.W.Frag)(a:Addr): It:=
 ⟨fun i H=>∃ (xs:List V) (x:V),SqL K H a xs/\xs[i]?=some x,fun i H v H'=>∃ T x,v = .ref T/\H T=none/\H'=upd H T (.tup [.int ((i+1:Nat):Int),x])/\∀ xs,SqL K H a xs->xs[i]?=some x,fun i H=>∃ xs:List V,SqL K H a xs/\xs.length<=i⟩
theorem zab{P:Program}{w:World}{K:PySem.W.Frag}{elts:List Expr}{kk:Nat}{tpos:Pos}(a e it:Addr):
  Turn P w K (.Tuple elts kk tpos) (Ite1 K a) [e,it] e (fun i h=>(∃ old,IsEnum h e it ((i+1:Nat):Int) old)/\h.IsListIter it a i/\e≠it) where
 mem:=by simp
 obj:=fun i h st b hb=>by
  obtain⟨⟨old,he⟩,⟨o,ho,hc,hd⟩,_⟩:=st;have e':b=e\/b=it:=by simpa using hb
  rcases e' with z|z
  ·rw[z];exact⟨_,he,fun v q=>nomatch q⟩
  ·rw[z];exact⟨o,ho,fun v q=>by rw[hd] at q;cases q⟩
 keep:=fun i h h' st k=>let ⟨⟨old,he⟩,hi,hne⟩:=st;⟨⟨old,k e (by simp) _ he⟩,hi.at fun o q=>k it (by simp) o q,hne⟩
 item:=by
  intro X hP hw hK hc i pins s σ H E I hf st hg;subst hP hw hK;obtain⟨⟨old,he⟩,hit,hne⟩:=st;obtain⟨xs,x,hq,hx⟩:=hg;obtain⟨its,rv,p,hz⟩:=I.list hq;obtain⟨u,hu,ru⟩:=rv.get hx;have hel:e<s.heap.objs.size:=Jl he;have hil:it<s.heap.objs.size:=by obtain⟨_,q,_⟩:=hit;exact Jl q
  have hal:a≠it:=by
   intro z;subst z;obtain⟨o,ho,hc1,_⟩:=hit;obtain⟨o2,ho2,hc2,_⟩:=p.isList;rw[ho] at ho2;cases ho2;rw[hc1] at hc2;injection hc2 with z;exact absurd z (by decide)
  have hea:e≠a:=by
   intro z;subst z;obtain⟨o2,ho2,hc2,_⟩:=p.isList;rw[he] at ho2;cases ho2;have hc2:Value.type "enumerate" = Value.type "list":=hc2;injection hc2 with z;exact absurd z (by decide)
  have hui:its.toArray[i]?=some u:=by simpa using hu
  have hli:i<its.toArray.size:=(Yp.mp hui).1;refine wpAny_pyNext_enum_itemD (i:=i+1) (QE.draws1 (A:=X.A.in1) (I.ok.hd hc) it a hal its.toArray) he ⟨Nat.le_add_left _ _,hit,p.isList⟩ (by omega) hne (by simp[hne,hea]) fun x' h' tk hx' ho qfc hT hsz hk=>?_;have hx'':x'=u:=by
   have:=hx'.2;rw[Za,hui] at this;exact(Jj this).symm
  subst hx'';refine⟨_,rfl,wpAny_letOwnedTupleGo_enum (s:={ s with heap:=h',toks:=tk+1 }) ho fun h'' he' sb=>?_⟩;have hT2:h''.get? s.heap.objs.size=some { cls:=.type "tuple",data:=.seq #[.int ((i+1:Nat):Int) tk,x'] }:=(sb.2 _ (J5 hel)).trans hT;have new:Qaw X.prog X.w (upd H s.heap.objs.size (.tup [.int ((i+1:Nat):Int),x])) h'' s.heap.objs.size (.tup [.int ((i+1:Nat):Int),x]):=
   ⟨by show 2<=sizeLine;decide,[.int ((i+1:Nat):Int) tk,x'],.cons ⟨_,rfl⟩ (.cons ru .nil),⟨_,hT2,rfl,_,rfl⟩⟩
  have I1:Inv X pins σ (upd H s.heap.objs.size (.tup [.int ((i+1:Nat):Int),x])) { s with heap:=h'',toks:=tk+1 }:=
   I.qko (ch:=[e,it]) (fun b ob hb q=>(sb.2 b (fun z=>hb (by simp[z]))).trans (hk b ob (fun z=>hb (by simp[z])) (fun z=>hb (by simp[z])) q)) hf (Jp _) new
  refine⟨.ref s.heap.objs.size,_,I1,rfl,⟨_,x,rfl,I.hok.fresh (Jp _),rfl,fun ys hy=>by rw[I.qh3 hy hq];exact hx⟩,⟨⟨x',?_⟩,?_,hne⟩,fun b hb=>?_⟩
  ·have e1:((i+1+1:Nat):Int)=((i+1:Nat):Int)+1:=by omega
   rw[e1];exact he'
  ·have h3:=qfc.2.1;rw[Za] at h3;exact h3.at fun o q=>(sb.2 it (Xb hne)).trans q
  ·have hb':b<s.heap.objs.size:=by
    have e':b=e\/b=it:=by simpa using hb
    rcases e' with z|z
    ·rw[z];exact hel
    ·rw[z];exact hil
   rw[qc (Xl hb')];exact(hf b hb).1
 done:=by
  intro X hP hw hK hc i pins s σ H E I hf st hg;subst hP hw hK;obtain⟨⟨old,he⟩,hit,hne⟩:=st;obtain⟨xs,hq,hx⟩:=hg;obtain⟨its,rv,p,hz⟩:=I.list hq;obtain⟨f0,f1,f2,f3,f4,f5⟩:=hf it (by simp);have hl:=rv.length;have hT:s.TypeIs (.ref e) "enumerate":=⟨_,he,rfl⟩
  unfold pyNext;refine Ja (Ws (X7 (name:=Str.ofString "__next__") hT F.slot_enumerate_next
   (X5 F.slot_enumerate_next hT F.entry_enumerate_next ?_ (F.args_enumerate_next_1 _))))
  show wpAny _ _ (field (.ref e) 2 >>= _) _ _ _;refine Ja (Xo he rfl (x:=.ref it) rfl ?_);refine Ja (wpAny_nextOf_list_end (I.ok.hd hc) hit p.isList (by simp;omega) fun h' x eb hx'=>?_);obtain⟨o,ho,hc'⟩:=hx';refine Ja (Qh (T:= "StopIteration") (b:=true) ⟨o,ho,hc'⟩ isSubtype_stop ?_);exact Jg ⟨rfl,I.turned (t':=s.toks) (fun b o hb q=>eb b o hb q) f0 f1 f3 f4 f5⟩
 self:=fun A i s Q E st h=>let ⟨⟨_,he⟩,_⟩:=st;U9 he h
def qqg(K:PySem.W.Frag)(ta:TA)(tk:TE): TI:=fun σ H R=>ta σ H fun vs H1=>tk σ H1 fun y H2=>∃ a xs,vs=[.ref a]/\y = .int 1/\SqL K H2 a xs/\R (Ite1 K a) H2
theorem q5p{X:Cx}{e kv:Expr}{ta:TA}{tk:TE}{p pos tpos kp:Pos}{elts:List Expr}{kk:Nat}(hg:Gl X "enumerate")(hm:X.mg "enumerate" = none)(ha:PA X [e] ta)(hkv:PE X kv tk)
  (hs:backTo pos (starEach [e] X.env)=(false,eval e X.env)::backTo pos (starEach [] X.env):=by rfl):
  PI X (.Tuple elts kk tpos) (.Call (.Name "enumerate" p) [e] [⟨some (Str.ofString "start"),kv,kp⟩] pos) (qqg X.K ta tk):=by
 intro pins s σ H R I h;refine QE.Qwk (qev I hg hm boot_enumerate (QE.qxv (by rw[hs];rfl) rfl ?_)) (by rfl);have hA:=ha pos pins s σ H _ I h;rw[hs] at hA ⊢;refine evalArgs_kwB rfl (thn hA fun us s1 ⟨vs,H1,I1,r1,q1⟩=>kws_cons (thn (hkv pins s1 σ H1 _ I1 q1) fun kvv s2 ⟨y,H2,I2,ry,a,xs,ex,ey,hq,q⟩=>kws_nil ?_));subst ex ey;cases r1 with
 | cons r rr=>
   cases rr;cases r;obtain⟨t,rfl⟩:=ry;obtain⟨its,rv,p',hz⟩:=I2.list hq;refine QE.qxw p'.isList fun h' he hit hsz hk=>U9 he ?_;have I3:Inv X pins σ H2 { s2 with heap:=h' }:=I2.kept (t':=s2.toks) hk;refine⟨s2.heap.objs.size+1,[s2.heap.objs.size+1,s2.heap.objs.size],_,_,H2,rfl,I3,zab a (s2.heap.objs.size+1) s2.heap.objs.size,⟨⟨.none,he⟩,hit,Nat.succ_ne_self _⟩,fun b hb=>?_,q⟩;have e':b=s2.heap.objs.size+1\/b=s2.heap.objs.size:=by simpa using hb
   have hle:s2.heap.objs.size<=b:=by
    rcases e' with z|z
    ·rw[z];exact Yj _ _
    ·rw[z];exact Jp _
   exact I2.qfa hle (I2.hok.fresh hle)
theorem q21{K:PySem.W.Frag}{tl:TA}{te:TE}{σ:St}{H:Hp}{R:It->Hp->Prop}(h:tl σ H fun vs H1=>te σ H1 fun y H2=>∃ a xs,vs=[.ref a]/\y = .int 1/\SqL K H2 a xs/\R (Ite1 K a) H2): qqg K tl te σ H R:=h
end L2.QP
namespace L2.QP
open PySem PySem.Spec PyProof.Rows
structure Ads where
 CP:Addr
 CD:Addr
 CM:Addr
 CB:Addr
 CC:Addr
 qbp:Addr
 qbc:Addr
 qd4:Addr
 qci:Addr
structure Qfp where
 a:Addr
 dx:Addr
structure Qdc where
 t:Nat
 a:Addr
 vs:List (Nat×Int)
structure Qaa where
 a:Addr
 dx:Addr
 aD:Addr
 aR:Addr
 aT:Addr
 ds:List Qfp
 rd:List Qdc
 tl:List (Nat×Nat)
structure ProA where
 a:Addr
 dx:Addr
 aS:Addr
structure Qad where
 a:Addr
 dx:Addr
 aP:Addr
 aM:Addr
 aQ:Addr
 ps:List ProA
 ms:List Qaa
 qs:List Addr
abbrev Dev:=Vbemai.Device
abbrev Met:=Vbemai.Meter
abbrev Sta:=Vbemai.State
def eB(d:Dev): V:=match d.finish with
 |none=>.non
 |some e=>.int (e.1:Int)
def eV(d:Dev): V:=match d.finish with
 |none=>.non
 |some e=>.int e.2
def qbe(d:Dev): List (Str×V):=[("start_boundary",.int (d.start:Int)),("start_value",.int d.value),("size",.int (10 ^ d.digits)),("factor",.int d.factor),("end_boundary",eB d),("end_value",eV d)]
def qdt(x:Met)(m:Qaa): List (Str×V):=[("kind",.int (x.kind:Int)),("zone",.int (x.zone:Int)),("second",.int (x.zone2:Int)),("profile",.int (x.profile:Int)),("rate",.int x.rate),("dials",.ref m.aD),("readings",.ref m.aR),("told",.ref m.aT)]
def qbm(s:Sta)(b:Qad): List (Str×V):=[("profiles",.ref b.aP),("meters",.ref b.aM),("reading_count",.int (s.readings.length:Int)),("told_count",.int (s.assigns.length:Int)),("lock",.int (s.locked:Int)),("periods",.ref b.aQ)]
def rdK(rd:List Qdc): List (Key×V):=rd.map fun e=>(Sum.inl (e.t:Int),.ref e.a)
def vsK(vs:List (Nat×Int)): List (Key×V):=vs.map fun e=>(Sum.inl (e.1:Int),.int e.2)
def tlK(tl:List (Nat×Nat)): List (Key×V):=tl.map fun e=>(Sum.inl (e.1:Int),.int (e.2:Int))
def vI(l:List Int): List V:=l.map V.int
def vN(l:List Nat): List V:=l.map fun (n:Nat)=>V.int (n:Int)
abbrev Cell:=Addr×HO
def qbn(A:Ads)(d:Qfp)(y:Dev): Cell:=(d.a,.ins A.CD d.dx (qbe y))
def qb2(e:Qdc): Cell:=(e.a,.dK (vsK e.vs))
def qa6(A:Ads)(x:Met)(m:Qaa): List Cell:=
 (m.a,.ins A.CM m.dx (qdt x m))::(m.aD,.lst (m.ds.map fun d=>.ref d.a))::(m.aR,.dK (rdK m.rd))::(m.aT,.dK (tlK m.tl))::(List.zipWith (qbn A) m.ds x.devices++m.rd.map qb2)
def wts(w:List Nat): List Int:=w.map fun (n:Nat)=>(n:Int)
def qfy(A:Ads)(w:List Nat)(p:ProA): List Cell:=[(p.a,.ins A.CP p.dx [("sums",.ref p.aS)]),(p.aS,.lst (vI (QM.sums 0 (wts w))))]
def qaz(ps:List Vbemai.Period)(qs:List Addr): List (List Key×V):=List.zipWith (fun p a=>([Sum.inl (p.from_:Int),Sum.inl (p.to_:Int)],V.ref a)) ps qs
def qb4(p:Vbemai.Period)(a:Addr): Cell:=(a,.lst (vI p.nets))
def qck(A:Ads)(s:Sta)(b:Qad): List Cell:=
 (b.a,.ins A.CB b.dx (qbm s b))::(b.aP,.lst (b.ps.map fun p=>.ref p.a))::(b.aM,.lst (b.ms.map fun m=>.ref m.a))::(b.aQ,.dT (qaz s.periods b.qs)) ::
  ((List.zipWith (qfy A) ([1]::s.profiles) b.ps).flatten++((List.zipWith (qa6 A) s.meters b.ms).flatten++List.zipWith qb4 s.periods b.qs))
def Has(H:Hp)(l:List Cell): Prop:=∀ p∈l,H p.1=some p.2
theorem Has.same{H H':Hp}{l:List Cell}(h:Has H l)(e:Kh H H'): Has H' l:=fun p hp=>e _ _ (h p hp)
structure Qda(s:Sta)(k:Nat)(x:Met)(m:Qaa): Prop where
 dl:m.ds.length=x.devices.length
 rd:QM.Qdb (m.rd.map fun e=>(e.t,e.vs)) (Vbemai.readingsOf s k)
 tl:m.tl.Perm (QM.toldOf s k)
structure MAt(A:Ads)(H:Hp)(s:Sta)(k:Nat)(x:Met)(m:Qaa): Prop where
 good:QM.Good s
 hx:Vbemai.meter? s k=some x
 rel:Qda s k x m
 has:Has H (qa6 A x m)
structure BAt(A:Ads)(H:Hp)(s:Sta)(b:Qad): Prop where
 good:QM.Good s
 has:Has H (qck A s b)
 nd:((qck A s b).map (·.1)).Nodup
 lp:b.ps.length=s.profiles.length+1
 lm:b.ms.length=s.meters.length
 lq:b.qs.length=s.periods.length
 mr:∀ (i:Nat) (x:Met) (m:Qaa),s.meters[i]?=some x->b.ms[i]?=some m->Qda s (i+1) x m
section
variable {A:Ads} {H H':Hp} {s:Sta} {k:Nat} {x:Met} {m:Qaa} {b:Qad}
theorem MAt.same(h:MAt A H s k x m)(e:Kh H H'): MAt A H' s k x m:=⟨h.good,h.hx,h.rel,h.has.same e⟩
theorem BAt.same(h:BAt A H s b)(e:Kh H H'): BAt A H' s b:=⟨h.good,h.has.same e,h.nd,h.lp,h.lm,h.lq,h.mr⟩
theorem MAt.o(h:MAt A H s k x m): H m.a=some (.ins A.CM m.dx (qdt x m)):=h.has (m.a,_) (by unfold qa6;simp)
theorem MAt.oD(h:MAt A H s k x m): H m.aD=some (.lst (m.ds.map fun d=>.ref d.a)):=h.has (m.aD,_) (by unfold qa6;simp)
theorem MAt.oR(h:MAt A H s k x m): H m.aR=some (.dK (rdK m.rd)):=h.has (m.aR,_) (by unfold qa6;simp)
theorem MAt.oT(h:MAt A H s k x m): H m.aT=some (.dK (tlK m.tl)):=h.has (m.aT,_) (by unfold qa6;simp)
theorem qho{α β γ:Type}{f:α->β->γ}: ∀ {l:List α} {r:List β} {i:Nat} {a:α} {c:β},l[i]?=some a->r[i]?=some c->f a c∈List.zipWith f l r
 |[],_,_,_,_,h,_=>by simp at h
 |_::_,[],_,_,_,_,h=>by simp at h
 |y::l,z::r,0,a,c,h,h2=>by simp at h h2;subst h;subst h2;simp
 | y::l,z::r,i+1,a,c,h,h2=>by
   rw[W3];exact Jm _ (qho (i:=i) (by simpa using h) (by simpa using h2))
theorem MAt.qh5(h:MAt A H s k x m){i:Nat}{d:Qfp}{y:Dev}(h1:m.ds[i]?=some d)(h2:x.devices[i]?=some y): H d.a=some (.ins A.CD d.dx (qbe y)):=
 h.has (qbn A d y) (by
  unfold qa6;have:=qho (f:=qbn A) h1 h2;simp[this])
theorem MAt.qgu(h:MAt A H s k x m){e:Qdc}(he:e∈m.rd): H e.a=some (.dK (vsK e.vs)):=
 h.has (qb2 e) (by
  unfold qa6;have:qb2 e∈m.rd.map qb2:=Jk.mpr ⟨e,he,rfl⟩;simp[this])
theorem BAt.o(h:BAt A H s b): H b.a=some (.ins A.CB b.dx (qbm s b)):=h.has (b.a,_) (by unfold qck;simp)
theorem BAt.oP(h:BAt A H s b): H b.aP=some (.lst (b.ps.map fun p=>.ref p.a)):=h.has (b.aP,_) (by unfold qck;simp)
theorem BAt.oM(h:BAt A H s b): H b.aM=some (.lst (b.ms.map fun m=>.ref m.a)):=h.has (b.aM,_) (by unfold qck;simp)
theorem BAt.oQ(h:BAt A H s b): H b.aQ=some (.dT (qaz s.periods b.qs)):=h.has (b.aQ,_) (by unfold qck;simp)
theorem BAt.pro(h:BAt A H s b){i:Nat}{w:List Nat}{p:ProA}(h1:(([1]:List Nat)::s.profiles)[i]?=some w)(h2:b.ps[i]?=some p): Has H (qfy A w p):=fun c hc=>
 h.has c (by
  unfold qck;have:=qho (f:=qfy A) h1 h2;have:c∈(List.zipWith (qfy A) ([1]::s.profiles) b.ps).flatten:=List.mem_flatten.mpr ⟨_,this,hc⟩;simp only[Jf,J4];exact .inr (.inr (.inr (.inr (.inl this)))))
theorem BAt.met(h:BAt A H s b){i:Nat}{x:Met}{m:Qaa}(h1:s.meters[i]?=some x)(h2:b.ms[i]?=some m): MAt A H s (i+1) x m:=
 ⟨h.good,QM.meter?_at h1,h.mr i x m h1 h2,fun c hc=>h.has c (by
  unfold qck;have:=qho (f:=qa6 A) h1 h2;have:c∈(List.zipWith (qa6 A) s.meters b.ms).flatten:=List.mem_flatten.mpr ⟨_,this,hc⟩;simp only[Jf,J4];exact .inr (.inr (.inr (.inr (.inr (.inl this))))))⟩
theorem BAt.net(h:BAt A H s b){i:Nat}{p:Vbemai.Period}{a:Addr}(h1:s.periods[i]?=some p)(h2:b.qs[i]?=some a): H a=some (.lst (vI p.nets)):=
 h.has (qb4 p a) (by
  unfold qck;have:=qho (f:=qb4) h1 h2;simp only[Jf,J4];exact .inr (.inr (.inr (.inr (.inr (.inr this))))))
end
theorem qkq{ns:List Int}{i:Nat}{x:V}(h:(vI ns)[i]?=some x): ∃ z,ns[i]?=some z/\x = .int z:=by
 unfold vI at h;rw[Jt] at h;cases e:ns[i]? with
 |none=>rw[e] at h;cases h
 |some z=>rw[e] at h;exact⟨z,rfl,(Jj h).symm⟩
theorem qc6{ns:List Int}{i:Nat}{z:Int}(h:ns[i]?=some z): (vI ns)[i]?=some (.int z):=by unfold vI;rw[Jt,h];rfl
theorem qv5(a b:List Int): vI (a++b)=vI a++vI b:=Jv
theorem qiw{ns:List Nat}{i:Nat}{x:V}(h:(vN ns)[i]?=some x): ∃ z:Nat,ns[i]?=some z/\x = .int (z:Int):=by
 unfold vN at h;rw[Jt] at h;cases e:ns[i]? with
 |none=>rw[e] at h;cases h
 |some z=>rw[e] at h;exact⟨z,rfl,(Jj h).symm⟩
theorem qhh{ns:List Nat}{i:Nat}{z:Nat}(h:ns[i]?=some z): (vN ns)[i]?=some (.int (z:Int)):=by unfold vN;rw[Jt,h];rfl
theorem qa9(ns:List Int): (vI ns).length=ns.length:=Jd ..
theorem qct(ns:List Nat): (vN ns).length=ns.length:=Jd ..
theorem qi3{α:Type}{xs:List α}{v:α}(h:xs.getLast?=some v): atI xs (-1)=some v:=by
 obtain⟨pre,rfl⟩:=QM.qiq h;exact qwy pre v
theorem qk2{ns:List Int}{z:Int}(h:ns.getLast?=some z): atI (vI ns) (-1)=some (.int z):=qi3 (by unfold vI;rw[Y5,h];rfl)
theorem qk3{ns:List Nat}{z:Nat}(h:ns.getLast?=some z): atI (vN ns) (-1)=some (.int (z:Int)):=qi3 (by unfold vN;rw[Y5,h];rfl)
theorem qwx{α:Type}{xs:List α}{v:α}(h:xs.head?=some v): atI xs 0=some v:=by
 cases xs with
 |nil=>cases h
 |cons a r=>exact qap (j:=0) (by simpa using h)
theorem qk1{ns:List Nat}{z:Nat}(h:ns.head?=some z): atI (vN ns) 0=some (.int (z:Int)):=qwx (by unfold vN;rw[List.head?_map,h];rfl)
structure CAt(A:Ads)(H:Hp)(s:Sta)(k:Nat)(x:Met)(c:Addr): Prop where
 good:QM.Good s
 hx:Vbemai.meter? s k=some x
 ex:∃ dx aK aA aO p pdx aS,H c=some (.ins A.CC dx [("knots",.ref aK),("amounts",.ref aA),("totals",.ref aO),("profile",.ref p),("tail",.int (Vbemai.rateOf x)),("removed",.bl (Vbemai.isOut x))]) /\
  H aK=some (.lst (vN (QM.kn s k)))/\H aA=some (.lst (vI (QM.am s k)))/\H aO=some (.lst (vI (QM.sums 0 (QM.am s k)))) /\
  H p=some (.ins A.CP pdx [("sums",.ref aS)])/\H aS=some (.lst (vI (QM.sums 0 (wts (QM.qbj (Vbemai.profileOf s x))))))
theorem CAt.same{A:Ads}{H H':Hp}{s:Sta}{k:Nat}{x:Met}{c:Addr}(h:CAt A H s k x c)(e:Kh H H'): CAt A H' s k x c:=by
 obtain⟨g,hx,dx,aK,aA,aO,p,pdx,aS,h1,h2,h3,h4,h5,h6⟩:=h;exact⟨g,hx,dx,aK,aA,aO,p,pdx,aS,e _ _ h1,e _ _ h2,e _ _ h3,e _ _ h4,e _ _ h5,e _ _ h6⟩
def Qe7(H:Hp)(l:Addr)(xs:List (List V)): Prop:=∃ as:List Addr,H l=some (.lst (as.map V.ref))/\as.length=xs.length/\∀ (i:Nat) (a:Addr) (x:List V),as[i]?=some a->xs[i]?=some x->H a=some (.tup x)
theorem Kh.upd{H H1:Hp}{p:Addr}{o:HO}(e:Kh H H1)(h:H p=none): Kh H (upd H1 p o):=fun b u q=>by
 rw[qc (vz q h)];exact e b u q
theorem Kh.new{H:Hp}{p:Addr}{o:HO}(h:H p=none): Kh H (L2.upd H p o):=Kh.upd (Kh.refl H) h
end L2.QP
namespace L2.QP
open PySem PySem.Spec PyProof.Rows
section
variable {X:Cx} {K:PySem.W.Frag} {D:Ends} {σ:St} {H:Hp} {Q:VK} {QT:Bool->Hp->Prop} {QA:List V->Hp->Prop} {QG:St->Hp->Prop} {t u:TS} {te ta tb:TE} {tt tt':TT} {tl:TA} {g:TG} {v:V} {f:Str}
theorem i_seq(h:t { D with nx:=u D } σ H): qcn t u D σ H:=h
theorem i_asg(h:te σ H fun x H1=>g x σ H1 D.nx): qei te g D σ H:=h
theorem qmf(h:te σ H D.rt): qcg te D σ H:=h
theorem i_drop(h:te σ H fun _ H1=>D.nx σ H1): qkk te D σ H:=h
theorem i_ifs(h:tt σ H fun b H1=>if b=true then t D σ H1 else u D σ H1): qe3 tt t u D σ H:=h
theorem i_next(h:D.nx σ H): qe4 D σ H:=h
theorem i_brk(h:D.bk σ H): qvn D σ H:=h
theorem i_var{i:Nat}(e:σ[i]?=some (some v))(h:Q v H): yc i σ H Q:=⟨v,e,h⟩
theorem i_c(h:Q v H): tC v σ H Q:=h
theorem i_op{r:R2}(h:ta σ H fun x H1=>tb σ H1 fun y H2=>r x y H2 Q): tOp r ta tb σ H Q:=h
theorem i_un{r:V->Hp->VK->Prop}(h:ta σ H fun x H1=>r x H1 Q): tUn r ta σ H Q:=h
def rFld(K:PySem.W.Frag)(f:Str)(x:V)(H:Hp)(Q:VK): Prop:=∃ a C dx fs v,x = .ref a/\H a=some (.ins C dx fs)/\Cls K C/\Qal K C f/\fs.lookup f=some v/\Q v H
theorem i_fld(h:ta σ H fun x H1=>rFld K f x H1 Q): qfn K ta f σ H Q:=h
theorem qfz{p C dx:Addr}{fs:List (Str×V)}(e:H p=some (.ins C dx fs))(c:Cls K C)(n:Qal K C f)(l:fs.lookup f=some v)(q:Q v H): rFld K f (.ref p) H Q:=⟨p,C,dx,fs,v,rfl,e,c,n,l,q⟩
theorem i_fn{sp:Sp}(h:tl σ H fun vs H1=>sp vs H1 Q E0): tFn sp tl σ H Q:=h
theorem i_mk{sp:Sp}{C:Addr}(h:tl σ H fun vs H1=>∀ x dx,H1 x=none->H1 dx=none->dx≠x->sp (.ref x::vs) (upd (upd H1 dx (.own x)) x (.ins C dx [])) (fun v H2=>v = .non/\Q (.ref x) H2) E0): tMk C sp tl σ H Q:=h
def rLst(xs:List V)(H:Hp)(Q:VK): Prop:=xs.length<=sizeLine/\∀ p,H p=none->Q (.ref p) (upd H p (.lst xs))
def rTup(xs:List V)(H:Hp)(Q:VK): Prop:=xs.length<=sizeLine/\∀ p,H p=none->Q (.ref p) (upd H p (.tup xs))
theorem i_lst(h:tl σ H fun xs H1=>rLst xs H1 Q): tLst tl σ H Q:=h
theorem i_tup(h:tl σ H fun xs H1=>rTup xs H1 Q): tTup tl σ H Q:=h
theorem r_lst{xs:List V}(z:xs.length<=sizeLine)(h:∀ p,H p=none->Q (.ref p) (upd H p (.lst xs))): rLst xs H Q:=⟨z,h⟩
theorem r_tup{xs:List V}(z:xs.length<=sizeLine)(h:∀ p,H p=none->Q (.ref p) (upd H p (.tup xs))): rTup xs H Q:=⟨z,h⟩
theorem i_nil(h:QA [] H): qa4 σ H QA:=h
theorem i_cons(h:te σ H fun x H1=>tl σ H1 fun xs H2=>QA (x::xs) H2): qai te tl σ H QA:=h
def rB(x:V)(H:Hp)(Q:Bool->Hp->Prop): Prop:=∃ k,x = .bl k/\Q k H
theorem i_test(h:te σ H fun x H1=>rB x H1 QT): qd1 te σ H QT:=h
theorem i_tB(h:te σ H fun x H1=>rB x H1 QT): tB te σ H QT:=h
theorem r_b{k:Bool}(h:QT k H): rB (.bl k) H QT:=⟨k,rfl,h⟩
theorem i_and(h:tt σ H fun c H1=>if c=true then tt' σ H1 QT else QT false H1): tAnd tt tt' σ H QT:=h
theorem i_or(h:tt σ H fun c H1=>if c=true then QT true H1 else tt' σ H1 QT): tOr tt tt' σ H QT:=h
theorem i_not(h:tt σ H fun c H1=>QT (!c) H1): tNot tt σ H QT:=h
def rAV(tb:TE)(σ:St)(Q:VK)(x:V)(H1:Hp): Prop:=∃ c,x = .bl c/\if c=true then tb σ H1 Q else Q (.bl false) H1
theorem i_andV(h:ta σ H fun x H1=>rAV tb σ Q x H1): tAndV ta tb σ H Q:=h
theorem r_av{k:Bool}(h:if k=true then tb σ H Q else Q (.bl false) H): rAV tb σ Q (.bl k) H:=⟨k,rfl,h⟩
def rNV(Q:VK)(x:V)(H1:Hp): Prop:=∃ c,x = .bl c/\Q (.bl (!c)) H1
theorem i_notV(h:ta σ H fun x H1=>rNV Q x H1): tNotV ta σ H Q:=h
theorem r_nv{k:Bool}(h:Q (.bl (!k)) H): rNV Q (.bl k) H:=⟨k,rfl,h⟩
theorem i_if(h:tt σ H fun c H1=>if c=true then ta σ H1 Q else tb σ H1 Q): tIf tt ta tb σ H Q:=h
theorem i_name{i:Nat}(h:QG (σ.set i (some v)) H): qcl i v σ H QG:=h
theorem i_cb{r:List V->Hp->VK->Prop}(h:tl σ H fun vs H1=>r vs H1 Q): tCB r tl σ H Q:=h
theorem r_I0{gg:Int->Int->V}{i j:Int}(h:Q (gg i j) H): rI0 gg (.int i) (.int j) H Q:=⟨i,j,rfl,rfl,h⟩
theorem r_I{C:Int->Int->Prop}{gg:Int->Int->V}{i j:Int}(c:C i j)(h:Q (gg i j) H): rI C gg (.int i) (.int j) H Q:=⟨i,j,rfl,rfl,c,h⟩
theorem r_U{gg:Int->V}{i:Int}(h:Q (gg i) H): rU gg (.int i) H Q:=⟨i,rfl,h⟩
theorem qpp{i j:Int}: decide (V.int i=V.int j)=decide (i=j):=by
 by_cases h:i=j
 ·subst h;simp
 ·rw[J7 h,J7 fun q=>h (V.int.inj q)]
theorem r_eqI{i j:Int}(h:Q (.bl (decide (i=j))) H): rEq (.int i) (.int j) H Q:=⟨rfl,by rw[qpp];exact h⟩
theorem r_neI{i j:Int}(h:Q (.bl (!decide (i=j))) H): rNe (.int i) (.int j) H Q:=⟨rfl,by rw[qpp];exact h⟩
theorem qat{p:Addr}{xs:List V}{i:Int}(e:SqL K H p xs)(a:atI xs i=some v)(h:Q v H): qeg K (.ref p) (.int i) H Q:=⟨p,xs,i,v,rfl,rfl,e,a,h⟩
theorem qdm{p:Addr}{xs:List V}{i:Int}(e:SqT K H p xs)(a:atI xs i=some v)(h:Q v H): rIxT K (.ref p) (.int i) H Q:=⟨p,xs,i,v,rfl,rfl,e,a,h⟩
end
theorem ifD{c A B:Prop}[Decidable c](h1:c->A)(h2:¬ c->B): if decide c=true then A else B:=by
 by_cases h:c
 ·rw[Je (Xm h)];exact h1 h
 ·rw[Jc (by rw[J7 h];exact Jr)];exact h2 h
theorem ifN{c A B:Prop}[Decidable c](h1:¬ c->A)(h2:c->B): if (!decide c)=true then A else B:=by
 by_cases h:c
 ·rw[Xm h];exact qa3 (h2 h)
 ·rw[J7 h];exact qax (h1 h)
theorem ifB{b:Bool}{A B:Prop}(h1:b=true->A)(h2:b=false->B): if b=true then A else B:=by
 cases b
 ·exact qa3 (h2 rfl)
 ·exact qax (h1 rfl)
end L2.QP
namespace L2.QP
open PySem PySem.Spec PyProof.Rows
section
variable {X:Cx} {K:PySem.W.Frag} {D:Ends} {σ:St} {H:Hp} {Q:VK} {QT:Bool->Hp->Prop} {QA:List V->Hp->Prop} {QG:St->Hp->Prop} {t u:TS} {te ta tb tc:TE} {tt tt':TT} {tl:TA} {g:TG} {v:V} {f:Str}
def rFor(g:TG)(tb:TS)(D:Ends)(σ:St)(J:It)(H1:Hp): Prop:=∃ W:Nat->Nat->St->Hp->Prop,(∃ m,W 0 m σ H1)/\∀ i m σ H,W i m σ H ->
 (J.stop i H/\D.nx σ H)\/(J.go i H/\∃ N:St->Hp->Prop,(∀ σ' H',N σ' H'->∃ m',m' < m/\W (i+1) m' σ' H')/\∀ x H',J.yld i H x H'->g x σ H' fun σ2 H2=>tb { D with nx:=N,ct:=N,bk:=D.nx } σ2 H2)
theorem i_for{wi:TI}{ts:TS}(h:wi σ H fun J H1=>rFor g ts D σ J H1): tFor wi g ts D σ H:=h
theorem qni{ts:TS}{J:It}(n:Nat)(Pv:Nat->St->Hp->Prop)(h0:Pv 0 σ H)(hgo:∀ i σ H,i<n->Pv i σ H->J.go i H)(hst:∀ σ H,Pv n σ H->J.stop n H/\D.nx σ H)
  (hs:∀ i σ H x H',i<n->Pv i σ H->J.yld i H x H'->g x σ H' fun σ2 H2=>ts { D with nx:=Pv (i+1),ct:=Pv (i+1),bk:=D.nx } σ2 H2): rFor g ts D σ J H:=by
 refine⟨fun i m σ H=>m=n-i/\i<=n/\Pv i σ H,⟨n,by simp,X3 _,h0⟩,?_⟩;rintro i m σ H ⟨rfl,hi,p⟩;by_cases hlt:i<n
 ·exact .inr ⟨hgo i σ H hlt p,Pv (i+1),fun σ' H' p'=>⟨n-(i+1),by omega,rfl,hlt,p'⟩,fun x H' y=>hs i σ H x H' hlt p y⟩
 ·have e:i=n:=by omega
  subst e;exact .inl (hst σ H p)
theorem qe2{ts:TS}{a:Addr}(xs:List V)(Pv:Nat->St->Hp->Prop)(h0:Pv 0 σ H)(hl:∀ i σ H,Pv i σ H->SqL K H a xs)(hst:∀ σ H,Pv xs.length σ H->D.nx σ H)
  (hs:∀ i σ H x,xs[i]?=some x->Pv i σ H->g x σ H fun σ2 H2=>ts { D with nx:=Pv (i+1),ct:=Pv (i+1),bk:=D.nx } σ2 H2): rFor g ts D σ (Itl K a) H:=
 qni xs.length Pv h0 (fun i σ H hi p=>⟨xs,xs[i],hl i σ H p,by simp[hi]⟩) (fun σ H p=>⟨⟨xs,hl _ σ H p,Jp _⟩,hst σ H p⟩)
  fun i σ H x H' hi p y=>by
   obtain⟨rfl,y⟩:=y;exact hs i σ _ x (y xs (hl i σ _ p)) p
def rRng1(R:It->Hp->Prop)(vs:List V)(H1:Hp): Prop:=∃ j:Int,vs=[.int j]/\-(2 ^ 62)<=j/\j<2 ^ 62/\R (Itr 0 j.toNat) H1
theorem i_rng1{R:It->Hp->Prop}(h:tl σ H fun vs H1=>rRng1 R vs H1): iRng1 tl σ H R:=h
theorem r_rng1{R:It->Hp->Prop}{n:Nat}(hn:n<2 ^ 62)(h:R (Itr 0 n) H): rRng1 R [.int (n:Int)] H:=⟨n,rfl,by omega,by omega,by rw[J1];exact h⟩
theorem r_forR{ts:TS}{lo:Int}(n:Nat)(Pv:Nat->St->Hp->Prop)(h0:Pv 0 σ H)(hst:∀ σ H,Pv n σ H->D.nx σ H)
  (hs:∀ i σ H,i<n->Pv i σ H->g (.int (lo+i)) σ H fun σ2 H2=>ts { D with nx:=Pv (i+1),ct:=Pv (i+1),bk:=D.nx } σ2 H2): rFor g ts D σ (Itr lo n) H:=
 qni n Pv h0 (fun i σ H hi p=>hi) (fun σ H p=>⟨Jp _,hst σ H p⟩) fun i σ H x H' hi p y=>by
  obtain⟨rfl,rfl⟩:=y;exact hs i σ _ hi p
def rIL(K:PySem.W.Frag)(R:It->Hp->Prop)(x:V)(H1:Hp): Prop:=∃ a,x = .ref a/\(∃ xs,SqL K H1 a xs)/\R (Itl K a) H1
theorem q24{R:It->Hp->Prop}(h:te σ H fun x H1=>rIL K R x H1): iList K te σ H R:=h
theorem r_il{R:It->Hp->Prop}{a:Addr}{xs:List V}(e:SqL K H a xs)(h:R (Itl K a) H): rIL K R (.ref a) H:=⟨a,rfl,⟨xs,e⟩,h⟩
def rIT(K:PySem.W.Frag)(R:It->Hp->Prop)(x:V)(H1:Hp): Prop:=∃ a,x = .ref a/\(∃ xs,SqT K H1 a xs)/\R (Itt K a) H1
theorem i_itup{R:It->Hp->Prop}(h:te σ H fun x H1=>rIT K R x H1): iTup K te σ H R:=h
theorem r_it{R:It->Hp->Prop}{a:Addr}{xs:List V}(e:SqT K H a xs)(h:R (Itt K a) H): rIT K R (.ref a) H:=⟨a,rfl,⟨xs,e⟩,h⟩
def rIE(K:PySem.W.Frag)(R:It->Hp->Prop)(vs:List V)(H1:Hp): Prop:=∃ a xs,vs=[.ref a]/\SqL K H1 a xs/\R (Ite K a) H1
theorem q20{R:It->Hp->Prop}(h:tl σ H fun vs H1=>rIE K R vs H1): iEnum K tl σ H R:=h
theorem r_ie{R:It->Hp->Prop}{a:Addr}{xs:List V}(e:SqL K H a xs)(h:R (Ite K a) H): rIE K R [.ref a] H:=⟨a,xs,rfl,e,h⟩
def rIZ(K:PySem.W.Frag)(R:It->Hp->Prop)(vs:List V)(H1:Hp): Prop:=∃ a b xs ys,vs=[.ref a,.ref b]/\SqL K H1 a xs/\SqL K H1 b ys/\R (Itz K a b) H1
theorem i_izip{R:It->Hp->Prop}(h:tl σ H fun vs H1=>rIZ K R vs H1): iZip K tl σ H R:=h
theorem r_iz{R:It->Hp->Prop}{a b:Addr}{xs ys:List V}(e:SqL K H a xs)(e2:SqL K H b ys)(h:R (Itz K a b) H): rIZ K R [.ref a,.ref b] H:=⟨a,b,xs,ys,rfl,e,e2,h⟩
def rIK(R:It->Hp->Prop)(x:V)(H1:Hp): Prop:=∃ d o,x = .ref d/\((∃ kvs,H1 d=some (.frz o (.dK kvs))/\R (Itk d o kvs) H1)\/∃ kvs,H1 d=some (.frz o (.dT kvs))/\R (Itkt d o kvs) H1)
theorem q23{R:It->Hp->Prop}(h:te σ H fun x H1=>rIK R x H1): iKeys te σ H R:=h
theorem r_ik{R:It->Hp->Prop}{d:Addr}{o:Obj}{kvs:List (Key×V)}(e:H d=some (.frz o (.dK kvs)))(h:R (Itk d o kvs) H): rIK R (.ref d) H:=⟨d,o,rfl,.inl ⟨kvs,e,h⟩⟩
def rII(R:It->Hp->Prop)(x:V)(H1:Hp): Prop:=∃ d o kvs,x = .ref d/\H1 d=some (.frz o (.dK kvs))/\R (Iti d o kvs) H1
theorem q22{R:It->Hp->Prop}(h:te σ H fun x H1=>rII R x H1): qqh te σ H R:=h
theorem r_ii{R:It->Hp->Prop}{d:Addr}{o:Obj}{kvs:List (Key×V)}(e:H d=some (.frz o (.dK kvs)))(h:R (Iti d o kvs) H): rII R (.ref d) H:=⟨d,o,kvs,rfl,e,h⟩
def rLc(g:TG)(tt:TT)(te:TE)(vs:List Nat)(σ:St)(Q:VK)(J:It)(H1:Hp): Prop:=∀ D,H1 D=none->∃ W:Nat->Nat->Hp->Prop,(∃ m,W 0 m (upd H1 D (.lst [])))/\∀ i m H,W i m H ->
 (J.stop i H/\Q (.ref D) H)\/(J.go i H/\∃ Nx:Hp->Prop,(∀ H',Nx H'->∃ m',m' < m/\W (i+1) m' H')/\∀ x H',J.yld i H x H'->g x (wipe σ vs) H' fun σ2 H2=>wipe σ2 vs=wipe σ vs/\tt σ2 H2 fun b H3=>
  if b=true then te σ2 H3 fun y H4=>∃ acc,H4 D=some (.lst acc)/\acc.length<sizeLine/\Nx (upd H4 D (.lst (acc++[y]))) else Nx H3)
theorem i_lc{wi:TI}{vs:List Nat}(h:wi σ H fun J H1=>rLc g tt te vs σ Q J H1): tLc wi g tt te vs σ H Q:=h
structure LcP(H1:Hp)(D:Addr)(acc:Nat->List V)(i:Nat)(H:Hp): Prop where
 same:Kh H1 H
 at_:H D=some (.lst (acc i))
 len:(acc i).length<=i
 new:H1 D=none
def Qiz(H1:Hp)(D:Addr)(acc:Nat->List V)(i:Nat)(H4:Hp)(y:V): Prop:=∃ ac,H4 D=some (.lst ac)/\ac.length<sizeLine/\LcP H1 D acc (i+1) (upd H4 D (.lst (ac++[y])))
theorem LcP.yes{H1 H H4:Hp}{D:Addr}{acc:Nat->List V}{i:Nat}{y:V}(h:LcP H1 D acc i H)(hi:i<sizeLine)(s:Kh H H4)(e:acc (i+1)=acc i++[y]): Qiz H1 D acc i H4 y:=by
 refine⟨acc i,s _ _ h.at_,Wu h.len hi,Kh.upd (h.same.trans s) h.new,by rw[kq,e],?_,h.new⟩;rw[e,Jx];exact Nat.succ_le_succ h.len
theorem LcP.no{H1 H H4:Hp}{D:Addr}{acc:Nat->List V}{i:Nat}(h:LcP H1 D acc i H)(s:Kh H H4)(e:acc (i+1)=acc i): LcP H1 D acc (i+1) H4:=
 ⟨h.same.trans s,by rw[e];exact s _ _ h.at_,by rw[e];exact Nat.le_succ_of_le h.len,h.new⟩
theorem qfl{vs:List Nat}{J:It}(n:Nat)(acc:Nat->List V)(acc0:acc 0=[])(hgo:∀ i H',i<n->Kh H H'->J.go i H')(hst:∀ H',Kh H H'->J.stop n H')
  (hs:∀ D i H1 x H',i<n->LcP H D acc i H1->J.yld i H1 x H'->g x (wipe σ vs) H' fun σ2 H2=>wipe σ2 vs=wipe σ vs/\tt σ2 H2 fun b H3=>
   if b=true then te σ2 H3 fun y H4=>Qiz H D acc i H4 y else LcP H D acc (i+1) H3)
  (hd:∀ D H',H D=none->Kh H H'->H' D=some (.lst (acc n))->Q (.ref D) H'): rLc g tt te vs σ Q J H:=by
 intro D hD;refine⟨fun i m H1=>m=n-i/\i<=n/\LcP H D acc i H1,⟨n,by simp,X3 _,Kh.new hD,by rw[kq,acc0],by rw[acc0];exact Jp _,hD⟩,?_⟩;rintro i m H1 ⟨rfl,hi,p⟩;by_cases hlt:i<n
 ·exact .inr ⟨hgo i H1 hlt p.same,LcP H D acc (i+1),fun H' p'=>⟨n-(i+1),by omega,rfl,hlt,p'⟩,fun x H' y=>hs D i H1 x H' hlt p y⟩
 ·have e:i=n:=by omega
  subst e;exact .inl ⟨hst H1 p.same,hd D H1 hD p.same p.at_⟩
theorem qeh{vs:List Nat}{a:Addr}{xs:List V}(e:SqL K H a xs)(acc:Nat->List V)(acc0:acc 0=[])
  (hs:∀ D i H1 x,xs[i]?=some x->LcP H D acc i H1->g x (wipe σ vs) H1 fun σ2 H2=>wipe σ2 vs=wipe σ vs/\tt σ2 H2 fun b H3=>
   if b=true then te σ2 H3 fun y H4=>Qiz H D acc i H4 y else LcP H D acc (i+1) H3)
  (hd:∀ D H',H D=none->Kh H H'->H' D=some (.lst (acc xs.length))->Q (.ref D) H'): rLc g tt te vs σ Q (Itl K a) H:=
 qfl xs.length acc acc0 (fun i H' hi s=>⟨xs,xs[i],s.seq e,by simp[hi]⟩) (fun H' s=>⟨xs,s.seq e,Jp _⟩)
  (fun D i H1 x H' hi p y=>by
   obtain⟨rfl,y⟩:=y;exact hs D i _ x (y xs (p.same.seq e)) p) hd
def rBM(K:PySem.W.Frag)(T:String)(r:V->List V->Hp->VK->Prop)(t:TA)(σ:St)(Q:VK)(x:V)(H1:Hp): Prop:=tyV K T x H1/\t σ H1 fun xs H2=>r x xs H2 Q
theorem i_bm{T:String}{r:V->List V->Hp->VK->Prop}(h:te σ H fun x H1=>rBM K T r tl σ Q x H1): tBM K T r te tl σ H Q:=h
theorem r_bmL{r:V->List V->Hp->VK->Prop}{p:Addr}{xs:List V}(e:SqL K H p xs)(h:tl σ H fun ys H2=>r (.ref p) ys H2 Q): rBM K "list" r tl σ Q (.ref p) H:=⟨.inl ⟨rfl,xs,e⟩,h⟩
theorem qc5{l:Addr}{xs:List V}{y:V}(e:H l=some (.lst xs))(z:xs.length<sizeLine)(h:Q .non (upd H l (.lst (xs++[y])))): qng (.ref l) [y] H Q:=⟨l,xs,y,rfl,rfl,e,z,h⟩
theorem qj1{l b:Addr}{xs zs:List V}(e:H l=some (.lst xs))(e2:H b=some (.lst zs))(z:xs.length+zs.length<=sizeLine)(h:Q .non (upd H l (.lst (xs++zs)))): qnh (.ref l) [.ref b] H Q:=⟨l,b,xs,zs,rfl,rfl,e,e2,z,h⟩
theorem qie{l b:Addr}{xs zs:List V}(e:H l=some (.lst xs))(e2:H b=some (.lst zs))(z:xs.length+zs.length<=sizeLine)(h:∀ p,H p=none->Q (.ref p) (upd H p (.lst (xs++zs)))): rCat (.ref l) (.ref b) H Q:=⟨l,b,xs,zs,rfl,rfl,e,e2,z,h⟩
theorem qbb{p:Addr}{n:Nat}(e:Qgb K H p n)(h:Q (.int (n:Nat)) H): rLen K [.ref p] H Q:=⟨p,n,rfl,e,h⟩
theorem qbz{p:Addr}{xs:List V}(e:SqL K H p xs): Qgb K H p xs.length:=.inl ⟨xs,.inl e,rfl⟩
theorem lenT{p:Addr}{xs:List V}(e:SqT K H p xs): Qgb K H p xs.length:=.inl ⟨xs,.inr e,rfl⟩
theorem lenK{p:Addr}{kvs:List (Key×V)}(e:H p=some (.dK kvs)): Qgb K H p kvs.length:=.inr (.inl ⟨kvs,e,rfl⟩)
theorem lenTT{p:Addr}{kvs:List (List Key×V)}(e:H p=some (.dT kvs)): Qgb K H p kvs.length:=.inr (.inr ⟨kvs,e,rfl⟩)
def rDG(x y:V)(H2:Hp)(Q:VK): Prop:=∃ a v,x = .ref a/\Qau H2 a y (some v)/\Q v H2
theorem i_dget(h:ta σ H fun x H1=>tb σ H1 fun y H2=>rDG x y H2 Q): qej ta tb σ H Q:=h
theorem vp{a:Addr}{kvs:List (Key×V)}{k:Str}(e:H a=some (.dK kvs))(l:vj kvs (Sum.inr k)=some v)(h:Q v H): rDG (.ref a) (.str k) H Q:=⟨a,v,rfl,by rw[<- l];exact Qau.k (k:=Sum.inr k) e,h⟩
theorem qif{a:Addr}{kvs:List (Key×V)}{k:Int}(e:H a=some (.dK kvs))(l:vj kvs (Sum.inl k)=some v)(h:Q v H): rDG (.ref a) (.int k) H Q:=⟨a,v,rfl,by rw[<- l];exact Qau.k (k:=Sum.inl k) e,h⟩
def rDI(y x:V)(H2:Hp)(Q:VK): Prop:=∃ a o,x = .ref a/\Qau H2 a y o/\Q (.bl o.isSome) H2
def rDN(y x:V)(H2:Hp)(Q:VK): Prop:=∃ a o,x = .ref a/\Qau H2 a y o/\Q (.bl (!o.isSome)) H2
theorem i_din(h:ta σ H fun y H1=>tb σ H1 fun x H2=>rDI y x H2 Q): tDIn ta tb σ H Q:=h
theorem q2x(h:ta σ H fun y H1=>tb σ H1 fun x H2=>rDN y x H2 Q): qvt ta tb σ H Q:=h
theorem qg3{a:Addr}{kvs:List (Key×V)}{k:Str}(e:H a=some (.dK kvs))(h:Q (.bl (vj kvs (Sum.inr k)).isSome) H): rDI (.str k) (.ref a) H Q:=⟨a,_,rfl,Qau.k (k:=Sum.inr k) e,h⟩
theorem r_diI{a:Addr}{kvs:List (Key×V)}{k:Int}(e:H a=some (.dK kvs))(h:Q (.bl (vj kvs (Sum.inl k)).isSome) H): rDI (.int k) (.ref a) H Q:=⟨a,_,rfl,Qau.k (k:=Sum.inl k) e,h⟩
theorem r_dnI{a:Addr}{kvs:List (Key×V)}{k:Int}(e:H a=some (.dK kvs))(h:Q (.bl (!(vj kvs (Sum.inl k)).isSome)) H): rDN (.int k) (.ref a) H Q:=⟨a,_,rfl,Qau.k (k:=Sum.inl k) e,h⟩
theorem r_dnT{a b:Addr}{kvs:List (List Key×V)}{k:List Key}(e:H a=some (.dT kvs))(eb:H b=some (.tup (k.map kV)))(h:Q (.bl (!(vj kvs k).isSome)) H): rDN (.ref b) (.ref a) H Q:=⟨a,_,rfl,Qau.t e eb,h⟩
def rD1(ty:TE)(σ:St)(Q:VK)(x:V)(H1:Hp): Prop:=∃ a,x = .ref a/\IsD H1 a/\ty σ H1 fun y H2=>∃ o,Qau H2 a y o/\Q (o.getD .non) H2
def rD1b(a:Addr)(y:V)(H2:Hp)(Q:VK): Prop:=∃ o,Qau H2 a y o/\Q (o.getD .non) H2
theorem q2t(h:ta σ H fun x H1=>rD1 tb σ Q x H1): qvq ta tb σ H Q:=h
theorem r_d1T{a:Addr}{kvs:List (List Key×V)}(e:H a=some (.dT kvs))(h:tb σ H fun y H2=>rD1b a y H2 Q): rD1 tb σ Q (.ref a) H:=⟨a,rfl,.inr ⟨kvs,.inl e⟩,h⟩
theorem r_d1Tb{a b:Addr}{kvs:List (List Key×V)}{k:List Key}(e:H a=some (.dT kvs))(eb:H b=some (.tup (k.map kV)))(h:Q ((vj kvs k).getD .non) H): rD1b a (.ref b) H Q:=⟨_,Qau.t e eb,h⟩
def rD2(ty tx:TE)(σ:St)(Q:VK)(x:V)(H1:Hp): Prop:=∃ a,x = .ref a/\IsD H1 a/\ty σ H1 fun y H2=>tx σ H2 fun z H3=>∃ o,Qau H3 a y o/\Q (o.getD z) H3
def qg2(a:Addr)(y z:V)(H3:Hp)(Q:VK): Prop:=∃ o,Qau H3 a y o/\Q (o.getD z) H3
theorem q2u(h:ta σ H fun x H1=>rD2 tb tc σ Q x H1): qn8 ta tb tc σ H Q:=h
theorem r_d2K{a:Addr}{kvs:List (Key×V)}(e:H a=some (.dK kvs))(h:tb σ H fun y H2=>tc σ H2 fun z H3=>qg2 a y z H3 Q): rD2 tb tc σ Q (.ref a) H:=⟨a,rfl,.inl ⟨kvs,.inl e⟩,h⟩
theorem r_d2T{a:Addr}{kvs:List (List Key×V)}(e:H a=some (.dT kvs))(h:tb σ H fun y H2=>tc σ H2 fun z H3=>qg2 a y z H3 Q): rD2 tb tc σ Q (.ref a) H:=⟨a,rfl,.inr ⟨kvs,.inl e⟩,h⟩
theorem r_d2I{a:Addr}{kvs:List (Key×V)}{k:Int}{z:V}(e:H a=some (.dK kvs))(h:Q ((vj kvs (Sum.inl k)).getD z) H): qg2 a (.int k) z H Q:=⟨_,Qau.k (k:=Sum.inl k) e,h⟩
theorem r_d2Tb{a b:Addr}{kvs:List (List Key×V)}{k:List Key}{z:V}(e:H a=some (.dT kvs))(eb:H b=some (.tup (k.map kV)))(h:Q ((vj kvs k).getD z) H): qg2 a (.ref b) z H Q:=⟨_,Qau.t e eb,h⟩
theorem qgl(h:∀ p,H p=none->Q (.ref p) (upd H p (.dK []))): qvr σ H Q:=h
theorem q2w(h:∀ p,H p=none->Q (.ref p) (upd H p (.dT []))): qvs σ H Q:=h
def rDP(D:Ends)(σ:St)(v x y:V)(H3:Hp): Prop:=∃ a H4,x = .ref a/\Qem H3 a y v H4/\D.nx σ H4
theorem i_dput(h:tc σ H fun v H1=>ta σ H1 fun x H2=>tb σ H2 fun y H3=>rDP D σ v x y H3): qnk ta tb tc D σ H:=h
theorem qj0{a:Addr}{kvs:List (Key×V)}{k:Int}(e:H a=some (.dK kvs))(z:kvs.length<sizeLine)(h:D.nx σ (upd H a (.dK (putK kvs (Sum.inl k) v)))): rDP D σ v (.ref a) (.int k) H:=⟨a,_,rfl,Qem.k (k:=Sum.inl k) e z,h⟩
theorem r_dpT{a b:Addr}{kvs:List (List Key×V)}{k:List Key}(e:H a=some (.dT kvs))(eb:H b=some (.tup (k.map kV)))(z:kvs.length<sizeLine)(h:D.nx σ (upd H a (.dT (putK kvs k v)))): rDP D σ v (.ref a) (.ref b) H:=⟨a,_,rfl,Qem.t e eb z,h⟩
theorem i_sl{r:V->Option Int->Option Int->Hp->VK->Prop}{t1 t2:TO}(h:te σ H fun x H1=>t1 σ H1 fun l H2=>t2 σ H2 fun u H3=>r x l u H3 Q): tSl r te t1 t2 σ H Q:=h
def rPt(Q:Option Int->Hp->Prop)(x:V)(H1:Hp): Prop:=∃ i,x = .int i/\Q (some i) H1
theorem i_part{QO:Option Int->Hp->Prop}(h:te σ H fun x H1=>rPt QO x H1): qkl te σ H QO:=h
theorem r_pt{QO:Option Int->Hp->Prop}{i:Int}(h:QO (some i) H): rPt QO (.int i) H:=⟨i,rfl,h⟩
theorem q25{QO:Option Int->Hp->Prop}(h:QO none H): qvv σ H QO:=h
theorem qig{a:Addr}{xs:List V}{lo hi:Option Int}(e:SqL K H a xs)(h:∀ p,H p=none->Q (.ref p) (upd H p (.lst (qcx xs lo hi)))): rSlL K (.ref a) lo hi H Q:=⟨a,xs,rfl,e,h⟩
def rCh(r':R2)(tc:TE)(σ:St)(Q:VK)(y z:V)(H3:Hp): Prop:=∃ k,z = .bl k/\(if k=true then tc σ H3 fun w' H4=>r' y w' H4 Q else Q (.bl false) H3)
theorem q2s{r r':R2}(h:ta σ H fun x H1=>tb σ H1 fun y H2=>r x y H2 fun z H3=>rCh r' tc σ Q y z H3): qvp r r' ta tb tc σ H Q:=h
theorem r_ch{r':R2}{y:V}{k:Bool}(h:if k=true then tc σ H fun w' H4=>r' y w' H4 Q else Q (.bl false) H): rCh r' tc σ Q y (.bl k) H:=⟨k,rfl,h⟩
def rGD(P:Program)(w:World)(K:PySem.W.Frag)(a:Addr)(y:V)(H1:Hp)(Q:VK): Prop:=∃ k u v,y=kV k/\Vn P w K a k u/\RelV v u/\Q v H1
theorem i_gd{P:Program}{w:World}{a:Addr}(h:te σ H fun y H1=>rGD P w K a y H1 Q): tGD P w K a te σ H Q:=h
def rSF(K:PySem.W.Frag)(f:Str)(D:Ends)(σ:St)(y x:V)(H2:Hp): Prop:=∃ a C dx fs,x = .ref a/\H2 a=some (.ins C dx fs)/\Cls K C/\Qal K C f/\fs.length<1000/\D.nx σ (upd H2 a (.ins C dx (qbs f y fs)))
theorem i_sfld(h:tb σ H fun y H1=>ta σ H1 fun x H2=>rSF K f D σ y x H2): sFld K ta tb f D σ H:=h
theorem qf0{a C dx:Addr}{fs:List (Str×V)}{y:V}(e:H a=some (.ins C dx fs))(c:Cls K C)(n:Qal K C f)(z:fs.length<1000)(h:D.nx σ (upd H a (.ins C dx (qbs f y fs)))): rSF K f D σ y (.ref a) H:=⟨a,C,dx,fs,rfl,e,c,n,z,h⟩
def rGT(K:PySem.W.Frag)(n:Nat)(t:TGs)(v:V)(σ:St)(H:Hp)(Q:St->Hp->Prop): Prop:=∃ a xs,v = .ref a/\SqT K H a xs/\xs.length=n/\t xs σ H Q
theorem i_gtup{n:Nat}{t:TGs}(h:rGT K n t v σ H QG): gTup K n t v σ H QG:=h
theorem qfk{n:Nat}{t:TGs}{a:Addr}{xs:List V}(e:SqT K H a xs)(z:xs.length=n)(h:t xs σ H QG): rGT K n t (.ref a) σ H QG:=⟨a,xs,rfl,e,z,h⟩
theorem q2z{t:TG}{u:TGs}{r:List V}(h:t v σ H fun σ' H'=>u r σ' H' QG): qjc t u (v::r) σ H QG:=⟨v,r,rfl,h⟩
theorem i_gnil(h:QG σ H): gNil [] σ H QG:=⟨rfl,h⟩
theorem i_yes(h:QT true H): tYes σ H QT:=h
end
end L2.QP
namespace L2.QP
open PySem PySem.Spec PyProof.Rows
local macro_rules | `(tactic|walk_at "sc")=>`(tactic|exact⟨rfl,rfl,rfl,by decide +kernel,rfl,by decide +kernel,by decide +kernel⟩)
section
variable {X:Cx}
theorem qfe{es:List Expr}{k:Nat}{t:TGs}{n:Nat}{pos:Pos}{K':PySem.W.Frag}(hK:X.K=K')(hc:X.calm=true)(h:PGs X es t)
  (hn:(assignEach es X.env).length=n:=by rfl)(hst:(assignEach es X.env).findIdx? (·.1)=none:=by rfl): PG X (.Tuple es k pos) (gTup K' n t):=by subst hK;exact pg_tup hc h hn hst
end
section
variable {X:Cx} {a b e:Expr} {ta tb te:TE} {x:Str} {pos p:Pos}
def k9(K:PySem.W.Frag)(he:PE X e te)(hK:X.K=K:=by exact rfl)(hb:attributeBase e x X.env (eval e X.env)=eval e X.env:=by exact rfl): PE X (.Attribute e x pos) (qfn K te x):=by subst hK;exact pe_fld he hb
def qa1(K:PySem.W.Frag)(ha:PE X a ta)(hb:PE X b tb)(hK:X.K=K:=by exact rfl)(hs:Qkv b:=by exact fun _ _=>rfl): PE X (.Subscript a b pos) (tOp (qeg K) ta tb):=by subst hK;exact pe_ix q29 ha hb hs
def qdo(K:PySem.W.Frag)(ha:PE X a ta)(hb:PE X b tb)(hK:X.K=K:=by exact rfl)(hs:Qkv b:=by exact fun _ _=>rfl): PE X (.Subscript a b pos) (tOp (rIxT K) ta tb):=by subst hK;exact pe_ix ix_tup ha hb hs
def vq(hu:X.A.units+1<cLine)(ha:PE X a ta)(hb:PE X b tb)(hs:NoSl b:=by exact fun _ _=>rfl): PE X (.Subscript a b pos) (qej ta tb):=q5a hu ha hb hs
def yb{op:CmpOp}{r:R2}(ho:OpR X (compareOp op) r)(ha:PE X a ta)(hb:PE X b tb)(hm:behindInMarks op b=false:=by exact qrt _): PT X (.Compare a [op] [b] pos) (qd1 (tOp r ta tb)):=qjy ho ha hb hm
def qga{op:CmpOp}{r:R2}(ho:OpR X (compareOp op) r)(ha:PE X a ta)(hb:PE X b tb)(hm:behindInMarks op b=false:=by exact qrt _): PE X (.Compare a [op] [b] pos) (tOp r ta tb):=q49 ho ha hb hm
def vt(i:Nat)(hN:X.N.Nodup)(he:PE X e te)(hi:X.N[i]?=some x:=by exact rfl)(hx:Loc X.env.scope x:=by exact Or.inl rfl)(hs:swapsWith e (some (.Name x p)) pos.line X.env=pure false:=by rfl)
    (hf:X.fn x=true\/X.env.scope.names.lookup x=some .local:=by first|exact .inl rfl|exact .inr rfl|assumption): PS X (.Assign [.Name x p] e pos) (qei te (qcl i)):=qsb hN hi hx he hs hf
def qak(i:Nat)(hN:X.N.Nodup)(hi:X.N[i]?=some x:=by exact rfl)(hx:Loc X.env.scope x:=by exact Or.inl rfl)
    (hf:X.fn x=true\/X.env.scope.names.lookup x=some .local:=by first|exact .inl rfl|exact .inr rfl|assumption): PG X (.Name x pos) (qcl i):=q5n hN hi hx hf
def x_len(hm:X.mg "len" = none)(he:PE X e te)(hg:Gl X "len":=by exact rfl)(hs:starEach [e] X.env=(false,eval e X.env)::starEach [] X.env:=by exact rfl): PE X (.Call (.Name "len" p) [e] [] pos) (tCB (rLen X.K) (qai te qa4)):=
 qed qxy hg hm QP.boot_len (qac he qh7 hs) (he:=hs)
def vd(he:PE X e te)(hs:starEach [e] X.env=(false,eval e X.env)::starEach [] X.env:=by exact rfl): PA X [e] (qai te qa4):=qac he qh7 hs
def k6(ha:PE X a ta)(he:PE X e te)(h1:starEach [a,e] X.env=(false,eval a X.env)::starEach [e] X.env:=by exact rfl)(hs:starEach [e] X.env=(false,eval e X.env)::starEach [] X.env:=by exact rfl): PA X [a,e] (qai ta (qai te qa4)):=qac ha (vd he hs) h1
def vm(he:PE X e te): PSs X [.Return (some e) pos] (qcg te):=qbg (ps_ret he)
def qab{c:Expr}{tc:TT}(hc:PT X c tc)(he:PE X e te): PS X (.If c [.Return (some e) p] [] pos) (qe3 tc (qcg te) qe4):=qgy hc (vm he) qg0
end
def kj{X:Cx}:=@pv X 0
def kr{X:Cx}:=@pv X 1
def ku{X:Cx}:=@pv X 2
def ya{X:Cx}:=@pv X 3
def qa0{X:Cx}:=@pv X 4
def qb6{X:Cx}:=@pv X 5
def qcs{X:Cx}:=@pv X 6
def qe1{X:Cx}:=@pv X 7
def pvz8{X:Cx}:=@pv X 8
def pvz9{X:Cx}:=@pv X 9
theorem i_gsub{to ti:TE}{t:TSet}{v:V}{σ:St}{H:Hp}{QG:St->Hp->Prop}(h:to σ H fun o H1=>ti σ H1 fun i H2=>t o i v H2 fun H3=>QG σ H3): gSub to ti t v σ H QG:=h
def top(i:Nat): Stmt:=PySem.Challenge.pw_quartermeters_s01_answers.main.body.getD i (.Pass ⟨0,0,0,0⟩)
abbrev qtd:Stmt:=top 5
theorem q63:Vg ["calls","at"] ["calls","at"] (k7 qtd):=by walk_at "sc"
abbrev qtz:Stmt:=top 6
theorem q7e:Vg ["call"] ["call"] (k7 qtz):=by walk_at "sc"
abbrev qtt:Stmt:=top 7
theorem qu0:Vg ["name","number","limits"] ["name","number"] (k7 qtt):=by walk_at "sc"
abbrev qsv:Stmt:=top 8
theorem qnm:Vg ["row","weight"] ["row"] (k7 qsv):=by walk_at "sc"
abbrev qss:Stmt:=top 9
theorem qj9:Vg ["given","name","number"] ["given"] (k7 qss):=by walk_at "sc"
abbrev qtp:Stmt:=top 10
theorem q69:Vg ["given"] ["given"] (k7 qtp):=by walk_at "sc"
abbrev qj7:Stmt:=inClass (top 16) 0
theorem q6t:Vg ["self","weights"] ["self","weights"] (k7 qj7):=by walk_at "sc"
abbrev qj5:Stmt:=inClass (top 17) 0
theorem q6r:Vg ["self","boundary","value","digits","factor"] ["self","boundary","value","digits","factor"] (k7 qj5):=by walk_at "sc"
abbrev qj6:Stmt:=inClass (top 18) 0
theorem q6s:Vg ["self","kind","zone","second","profile","rate","dial"] ["self","kind","zone","second","profile","rate","dial"] (k7 qj6):=by walk_at "sc"
abbrev qj3:Stmt:=inClass (top 19) 0
theorem q6p:Vg ["self"] ["self"] (k7 qj3):=by walk_at "sc"
abbrev qub:Stmt:=top 20
theorem qnv:Vg ["numbers","sums","number"] ["numbers"] (k7 qub):=by walk_at "sc"
abbrev qt3:Stmt:=top 21
theorem qkb:Vg ["digits","power","digit"] ["digits"] (k7 qt3):=by walk_at "sc"
abbrev quq:Stmt:=top 22
theorem qu5:Vg ["profile","boundary","count"] ["profile","boundary"] (k7 quq):=by walk_at "sc"
abbrev qur:Stmt:=top 23
theorem q7m:Vg ["profile","start","end"] ["profile","start","end"] (k7 qur):=by walk_at "sc"
abbrev qtq:Stmt:=top 24
theorem q7a:Vg ["book","number"] ["book","number"] (k7 qtq):=by walk_at "sc"
abbrev qtx:Stmt:=top 25
theorem q7d:Vg ["book","given"] ["book","given"] (k7 qtx):=by walk_at "sc"
abbrev qtv:Stmt:=top 26
theorem q7c:Vg ["meter"] ["meter"] (k7 qtv):=by walk_at "sc"
abbrev qtr:Stmt:=top 27
theorem q7b:Vg ["meter"] ["meter"] (k7 qtr):=by walk_at "sc"
abbrev qt8:Stmt:=top 28
theorem qu2:Vg ["meter","boundary","dial"] ["meter","boundary"] (k7 qt8):=by walk_at "sc"
abbrev qug:Stmt:=top 29
theorem qnw:Vg ["meter","boundary","versions","latest"] ["meter","boundary"] (k7 qug):=by walk_at "sc"
abbrev qtl:Stmt:=top 30
theorem qnr:Vg ["meter","boundary","read_at"] ["meter","boundary"] (k7 qtl):=by walk_at "sc"
abbrev qtu:Stmt:=top 31
theorem qil:Vg ["meter","knots","dial","boundary"] ["meter"] (k7 qtu):=by walk_at "sc"
abbrev qts:Stmt:=top 32
theorem quz:Vg ["meter","boundary","knots"] ["meter","boundary"] (k7 qts):=by walk_at "sc"
abbrev qup:Stmt:=top 33
theorem qke:Vg ["book","boundary","number","meter"] ["book","boundary"] (k7 qup):=by walk_at "sc"
abbrev qj4:Stmt:=inClass (top 39) 0
theorem q6q:Vg ["self","knots","amounts","profile","tail","removed"] ["self","knots","amounts","profile","tail","removed"] (k7 qj4):=by walk_at "sc"
abbrev qtf:Stmt:=top 40
theorem qik:Vg ["book","meter","knots","amounts","start","end"] ["book","meter"] (k7 qtf):=by walk_at "sc"
abbrev quj:Stmt:=top 41
theorem q7k:Vg ["meter"] ["meter"] (k7 quj):=by walk_at "sc"
abbrev qst:Stmt:=top 42
theorem qnl:Vg ["meter","start","end","dial","counted"] ["meter","start","end"] (k7 qst):=by walk_at "sc"
abbrev qtg:Stmt:=top 43
theorem qnq:Vg ["meter","boundary","dial"] ["meter","boundary"] (k7 qtg):=by walk_at "sc"
abbrev qud:Stmt:=top 44
theorem q7h:Vg ["meter","dial","boundary"] ["meter","dial","boundary"] (k7 qud):=by walk_at "sc"
abbrev qul:Stmt:=top 45
theorem qim:Vg ["course","boundary","last","place","knot"] ["course","boundary"] (k7 qul):=by walk_at "sc"
abbrev qun:Stmt:=top 46
theorem qin:Vg ["course","place","boundary","start","end","amount","weight"] ["course","place","boundary"] (k7 qun):=by walk_at "sc"
abbrev quk:Stmt:=top 47
theorem q7l:Vg ["course","start","end"] ["course","start","end"] (k7 quk):=by walk_at "sc"
abbrev qtj:Stmt:=top 48
theorem q65:Vg ["course"] ["course"] (k7 qtj):=by walk_at "sc"
abbrev qtm:Stmt:=top 49
theorem q67:Vg ["course","quarter"] ["course","quarter"] (k7 qtm):=by walk_at "sc"
abbrev qt2:Stmt:=top 52
theorem qf3:Vg ["meter","start","end","parts","hand","begun","quarter"] ["meter","start","end"] (k7 qt2):=by walk_at "sc"
abbrev qtk:Stmt:=top 53
theorem q66:Vg ["meter","quarter"] ["meter","quarter"] (k7 qtk):=by walk_at "sc"
abbrev qum:Stmt:=top 54
theorem qg9:Vg ["book","meter","hand","start","end","course","parts","part"] ["book","meter","hand","start","end"] (k7 qum):=by walk_at "sc"
abbrev quf:Stmt:=top 55
theorem q7j:Vg ["meter"] ["meter"] (k7 quf):=by walk_at "sc"
abbrev qt0:Stmt:=top 56
theorem qfm:Vg ["book","start","end","nets","meter","sign","course","begun","ended","hand"] ["book","start","end"] (k7 qt0):=by walk_at "sc"
abbrev qtw:Stmt:=top 57
theorem qg8:Vg ["numbers","listed","number","hand"] ["numbers"] (k7 qtw):=by walk_at "sc"
abbrev qsr:Stmt:=top 78
theorem q6u:Vg ["book","given"] ["book","given"] (k7 qsr):=by walk_at "sc"
abbrev qus:Stmt:=top 79
theorem q7n:Vg ["given"] ["given"] (k7 qus):=by walk_at "sc"
abbrev qto:Stmt:=top 80
theorem q68:Vg ["book","given"] ["book","given"] (k7 qto):=by walk_at "sc"
abbrev qt1:Stmt:=top 81
theorem q7f:Vg ["given"] ["given"] (k7 qt1):=by walk_at "sc"
abbrev qtn:Stmt:=top 82
theorem qns:Vg ["book","given","refusal","meter"] ["book","given"] (k7 qtn):=by walk_at "sc"
abbrev qt7:Stmt:=top 83
theorem qnt:Vg ["book","meter","given","boundary","dial"] ["book","meter","given"] (k7 qt7):=by walk_at "sc"
abbrev qt6:Stmt:=top 84
theorem qkc:Vg ["book","given","meter","refusal","versions"] ["book","given"] (k7 qt6):=by walk_at "sc"
abbrev qti:Stmt:=top 85
theorem quy:Vg ["book","meter","given","boundary"] ["book","meter","given"] (k7 qti):=by walk_at "sc"
abbrev qth:Stmt:=top 86
theorem qux:Vg ["meter","given","dial"] ["meter","given"] (k7 qth):=by walk_at "sc"
abbrev qui:Stmt:=top 87
theorem qu4:Vg ["book","meter","given","refusal"] ["book","meter","given"] (k7 qui):=by walk_at "sc"
abbrev quh:Stmt:=top 88
theorem qnx:Vg ["book","given","meter","refusal"] ["book","given"] (k7 quh):=by walk_at "sc"
abbrev qt9:Stmt:=top 89
theorem qnu:Vg ["book","given","meter","refusal"] ["book","given"] (k7 qt9):=by walk_at "sc"
abbrev quc:Stmt:=top 90
theorem qu3:Vg ["book","given","meter"] ["book","given"] (k7 quc):=by walk_at "sc"
abbrev qtc:Stmt:=top 91
theorem q62:Vg ["book","meter","given"] ["book","meter","given"] (k7 qtc):=by walk_at "sc"
abbrev qtb:Stmt:=top 92
theorem qnp:Vg ["book","given","meter","refusal"] ["book","given"] (k7 qtb):=by walk_at "sc"
abbrev qty:Stmt:=top 93
theorem qu1:Vg ["book","given","boundary"] ["book","given"] (k7 qty):=by walk_at "sc"
abbrev qt4:Stmt:=top 94
theorem qf4:Vg ["book","given","period","nets","before","net","earlier"] ["book","given"] (k7 qt4):=by walk_at "sc"
abbrev qte:Stmt:=top 96
theorem q64:Vg ["book","number","given"] ["book","number","given"] (k7 qte):=by walk_at "sc"
abbrev quo:Stmt:=top 98
theorem qio:Vg ["book","kind","zone","hand","start","end","meters","meter"] ["book","kind","zone","hand","start","end"] (k7 quo):=by walk_at "sc"
abbrev que:Stmt:=top 99
theorem q7i:Vg ["meter","zone"] ["meter","zone"] (k7 que):=by walk_at "sc"
abbrev qua:Stmt:=top 100
theorem qkd:Vg ["book","zone","start","end","rest","meter"] ["book","zone","start","end"] (k7 qua):=by walk_at "sc"
abbrev qta:Stmt:=top 102
theorem q61:Vg ["book","given"] ["book","given"] (k7 qta):=by walk_at "sc"
abbrev qs4:Stmt:=top 103
theorem quv:Vg ["book","given","reading"] ["book","given"] (k7 qs4):=by walk_at "sc"
abbrev qs0:Stmt:=top 104
theorem qka:Vg ["book","given","versions","answer","version"] ["book","given"] (k7 qs0):=by walk_at "sc"
abbrev qs9:Stmt:=top 105
theorem qno:Vg ["book","given","quarter","course"] ["book","given"] (k7 qs9):=by walk_at "sc"
abbrev qsw:Stmt:=top 106
theorem q6v:Vg ["book","given"] ["book","given"] (k7 qsw):=by walk_at "sc"
abbrev qs6:Stmt:=top 107
theorem q60:Vg ["book","given"] ["book","given"] (k7 qs6):=by walk_at "sc"
abbrev qsz:Stmt:=top 108
theorem q6w:Vg ["book","given"] ["book","given"] (k7 qsz):=by walk_at "sc"
abbrev qs7:Stmt:=top 109
theorem qnn:Vg ["book","given","totals","kind"] ["book","given"] (k7 qs7):=by walk_at "sc"
abbrev qs3:Stmt:=top 110
theorem q6y:Vg ["book","given"] ["book","given"] (k7 qs3):=by walk_at "sc"
abbrev qs1:Stmt:=top 111
theorem q6x:Vg ["book","given"] ["book","given"] (k7 qs1):=by walk_at "sc"
abbrev qsy:Stmt:=top 112
theorem qg7:Vg ["book","given","gaps","answer","start","end","amount"] ["book","given"] (k7 qsy):=by walk_at "sc"
abbrev qsx:Stmt:=top 113
theorem qf2:Vg ["book","given","doubtful","gap","answer","start","end","amount"] ["book","given"] (k7 qsx):=by walk_at "sc"
abbrev qs8:Stmt:=top 114
theorem quw:Vg ["book","given","unread"] ["book","given"] (k7 qs8):=by walk_at "sc"
abbrev qs2:Stmt:=top 115
theorem quu:Vg ["book","given","nets"] ["book","given"] (k7 qs2):=by walk_at "sc"
abbrev qs5:Stmt:=top 116
theorem q6z:Vg ["book","given"] ["book","given"] (k7 qs5):=by walk_at "sc"
abbrev qt5:Stmt:=top 118
theorem q7g:Vg ["book","number","given"] ["book","number","given"] (k7 qt5):=by walk_at "sc"
abbrev qsu:Stmt:=top 122
theorem qut:Vg ["book","call","given"] ["book","call"] (k7 qsu):=by walk_at "sc"
abbrev qj8:Stmt:=top 123
theorem qf1:Vg ["calls","book","told","at","end","answer"] ["calls"] (k7 qj8):=by walk_at "sc"
structure Txt(P:Program)(w:World)(K:PySem.W.Frag)(mg:Str->Option Value)(A:Ads): Prop where
 qo7:GI mg "PROFILE" (0)
 qxk:GI mg "MOST_WEIGHTS" (96)
 qxs:GI mg "STRUCK" (-1)
 qo6:GI mg "OUT_OF_ZONE" (0)
 qla:GI mg "INTO_ZONE" (1)
 qlb:GI mg "ZONE_TO_ZONE" (2)
 qo5:GI mg "NOT_THERE" (0)
 qxd:GI mg "MEASURED" (1)
 qxr:GI mg "SPREAD" (2)
 qxb:GI mg "ESTIMATED" (3)
 qo3:GI mg "HAND_COUNT" (33)
 qam:GI mg "ACCEPTED" (0)
 qxn:GI mg "OUT_OF_RANGE" (-1)
 qxm:GI mg "NO_PROFILE" (-2)
 qxl:GI mg "NO_METER" (-3)
 qge:GI mg "FULL" (-4)
 qhr:GI mg "LOCKED" (-5)
 qo4:GI mg "NOT_COUNTING" (-6)
 qi5:GI mg "CANNOT_SHOW" (-7)
 qxq:GI mg "SAME_VERSION" (-8)
 qxp:GI mg "READ_LATER" (-9)
 qxt:GI mg "UNREAD" (-10)
 qxa:GI mg "BACKWARDS" (-11)
 qo8:GI mg "WRONG_KIND" (-12)
 qxh:GI mg "MOST_PROFILES" (8)
 qxf:GI mg "MOST_METERS" (32)
 qxi:GI mg "MOST_READINGS" (256)
 qxe:GI mg "MOST_DIALS" (8)
 qxj:GI mg "MOST_TOLD" (64)
 qxg:GI mg "MOST_PERIODS" (16)
 qxc:GI mg "FIRST_QUESTION" (9)
 qxo:GI mg "PUBLISHED" (21)
 qbd:mg "len" = none
 b_max:mg "max" = none
 qk5:mg "sorted" = none
 b_any:mg "any" = none
 b_all:mg "all" = none
 b_sum:mg "sum" = none
 b_list:mg "list" = none
 qi4:mg "zip" = none
 b_dict:mg "dict" = none
 qw1:mg "range" = none
 qox:mg "enumerate" = none
 qy5:Dfn K mg "call_end" qtd
 qzs:Dfn K mg "named_arguments" qtz
 qzm:Dfn K mg "is_within" qtt
 qyn:Dfn K mg "are_weights" qsv
 qyj:Dfn K mg "all_within" qss
 qzi:Dfn K mg "is_backwards" qtp
 qyh:Dcl K mg "Profile" "Profile.__init__" A.CP qj7
 d_Dial:Dcl K mg "Dial" "Dial.__init__" A.CD qj5
 qyg:Dcl K mg "Meter" "Meter.__init__" A.CM qj6
 d_Book:Dcl K mg "Book" "Book.__init__" A.CB qj3
 qz5:Dfn K mg "running_sums" qub
 qzx:Dfn K mg "power_of_ten" qt3
 q0m:Dfn K mg "weight_before" quq
 q0n:Dfn K mg "weight_between" qur
 qzj:Dfn K mg "is_missing" qtq
 qzq:Dfn K mg "meter_of" qtx
 qzo:Dfn K mg "last_dial" qtv
 qzk:Dfn K mg "is_removed" qtr
 qz2:Dfn K mg "readable_dial" qt8
 q0c:Dfn K mg "standing_reading" qug
 qze:Dfn K mg "has_reading_from" qtl
 qzn:Dfn K mg "knots_of" qtu
 qzl:Dfn K mg "is_unread" qts
 q0l:Dfn K mg "unread_meters" qup
 qyf:Dcl K mg "Course" "Course.__init__" A.CC qj4
 qy7:Dfn K mg "course_of" qtf
 q0f:Dfn K mg "tail_of" quj
 qyk:Dfn K mg "amount_between" qst
 qy8:Dfn K mg "dial_from" qtg
 qz9:Dfn K mg "shown_value" qud
 q0h:Dfn K mg "through_by" qul
 q0j:Dfn K mg "through_within" qun
 q0g:Dfn K mg "through_between" quk
 qzb:Dfn K mg "gaps_of" qtj
 qzf:Dfn K mg "how_known" qtm
 qzw:Dfn K mg "parts_by_hand" qt2
 qzd:Dfn K mg "hand_at" qtk
 q0i:Dfn K mg "through_in_hand" qum
 q0b:Dfn K mg "sign_of" quf
 qzt:Dfn K mg "nets_between" qt0
 qzp:Dfn K mg "listed_by_hand" qtw
 qyi:Dfn K mg "add_profile" qsr
 q0o:Dfn K mg "zones_fit" qus
 qzh:Dfn K mg "install_refusal" qto
 qzu:Dfn K mg "new_dial" qt1
 qzg:Dfn K mg "install_meter" qtn
 qz1:Dfn K mg "read_refusal" qt7
 qz0:Dfn K mg "read_meter" qt6
 qza:Dfn K mg "end_refusal" qti
 qy9:Dfn K mg "end_last_dial" qth
 q0e:Dfn K mg "swap_refusal" qui
 q0d:Dfn K mg "swap_dial" quh
 qz3:Dfn K mg "remove_meter" qt9
 qz7:Dfn K mg "set_rate" quc
 qy4:Dfn K mg "assign_refusal" qtc
 qy3:Dfn K mg "assign_hand" qtb
 qzr:Dfn K mg "move_lock" qty
 qzy:Dfn K mg "publish_period" qt4
 qy6:Dfn K mg "change" qte
 q0k:Dfn K mg "total_of_kind" quo
 q0a:Dfn K mg "sign_in_zone" que
 qz4:Dfn K mg "rest_between" qua
 qy2:Dfn K mg "asked_course" qta
 qyw:Dfn K mg "ask_standing" qs4
 qys:Dfn K mg "ask_history" qs0
 qy1:Dfn K mg "ask_value" qs9
 qyo:Dfn K mg "ask_between" qsw
 qyy:Dfn K mg "ask_through" qs6
 qyr:Dfn K mg "ask_hand" qsz
 qyz:Dfn K mg "ask_total" qs7
 qyv:Dfn K mg "ask_rest" qs3
 qyt:Dfn K mg "ask_nets" qs1
 qyq:Dfn K mg "ask_gaps" qsy
 qyp:Dfn K mg "ask_doubt" qsx
 qy0:Dfn K mg "ask_unread" qs8
 qyu:Dfn K mg "ask_published" qs2
 qyx:Dfn K mg "ask_state" qs5
 qzz:Dfn K mg "question" qt5
 qyl:Dfn K mg "answer_call" qsu
 qym:Dfn K mg "answers" qj8
 clP:Cls K A.CP
 q4p:Qal K A.CP "sums"
 clD:Cls K A.CD
 q4i:Qal K A.CD "start_boundary"
 q4j:Qal K A.CD "start_value"
 q4h:Qal K A.CD "size"
 q4g:Qal K A.CD "factor"
 q4e:Qal K A.CD "end_boundary"
 q4f:Qal K A.CD "end_value"
 clM:Cls K A.CM
 q4k:Qal K A.CM "kind"
 q4o:Qal K A.CM "zone"
 q4n:Qal K A.CM "second"
 q4l:Qal K A.CM "profile"
 q4m:Qal K A.CM "rate"
 qrl:Qal K A.CM "dials"
 qh4:Qal K A.CM "readings"
 qrm:Qal K A.CM "told"
 clB:Cls K A.CB
 qmw:Qal K A.CB "profiles"
 qjq:Qal K A.CB "meters"
 q36:Qal K A.CB "reading_count"
 q37:Qal K A.CB "told_count"
 q35:Qal K A.CB "lock"
 qrk:Qal K A.CB "periods"
 clC:Cls K A.CC
 q39:Qal K A.CC "knots"
 q38:Qal K A.CC "amounts"
 q4d:Qal K A.CC "totals"
 q4a:Qal K A.CC "profile"
 q4c:Qal K A.CC "tail"
 q4b:Qal K A.CC "removed"
 q3q:mg "LIMITS" = some (.ref A.qbp)
 qrg:mg "ARGUMENTS" = some (.ref A.qbc)
 q3p:mg "CHANGES" = some (.ref A.qd4)
 q3r:mg "QUESTIONS" = some (.ref A.qci)
 q3j:∃ u,Vn P w K A.qbp (Sum.inr "weights") (.ref u)/\∀ H,SqT K H u [.int (0),.int 1000]
 l_kind:∃ u,Vn P w K A.qbp (Sum.inr "kind") (.ref u)/\∀ H,SqT K H u [.int (0),.int 2]
 qmo:∃ u,Vn P w K A.qbp (Sum.inr "zone") (.ref u)/\∀ H,SqT K H u [.int (0),.int 7]
 q3g:∃ u,Vn P w K A.qbp (Sum.inr "second") (.ref u)/\∀ H,SqT K H u [.int (0),.int 7]
 qeu:∃ u,Vn P w K A.qbp (Sum.inr "boundary") (.ref u)/\∀ H,SqT K H u [.int (0),.int 10000]
 qq3:∃ u,Vn P w K A.qbp (Sum.inr "digits") (.ref u)/\∀ H,SqT K H u [.int (1),.int 9]
 qq4:∃ u,Vn P w K A.qbp (Sum.inr "factor") (.ref u)/\∀ H,SqT K H u [.int (1),.int 10000]
 qq7:∃ u,Vn P w K A.qbp (Sum.inr "start") (.ref u)/\∀ H,SqT K H u [.int (0),.int 999999999]
 l_end:∃ u,Vn P w K A.qbp (Sum.inr "end") (.ref u)/\∀ H,SqT K H u [.int (0),.int 999999999]
 q3f:∃ u,Vn P w K A.qbp (Sum.inr "profile") (.ref u)/\∀ H,SqT K H u [.int (0),.int 8]
 qq6:∃ u,Vn P w K A.qbp (Sum.inr "rate") (.ref u)/\∀ H,SqT K H u [.int (0),.int 1000000]
 qc2:∃ u,Vn P w K A.qbp (Sum.inr "meter") (.ref u)/\∀ H,SqT K H u [.int (1),.int 32]
 q3i:∃ u,Vn P w K A.qbp (Sum.inr "version") (.ref u)/\∀ H,SqT K H u [.int (1),.int 1000000]
 q3h:∃ u,Vn P w K A.qbp (Sum.inr "value") (.ref u)/\∀ H,SqT K H u [.int (-1),.int 999999999]
 qmn:∃ u,Vn P w K A.qbp (Sum.inr "quarter") (.ref u)/\∀ H,SqT K H u [.int (0),.int 9999]
 qq5:∃ u,Vn P w K A.qbp (Sum.inr "hand") (.ref u)/\∀ H,SqT K H u [.int (0),.int 32]
 qgq:∃ u,Vn P w K A.qbp (Sum.inr "from") (.ref u)/\∀ H,SqT K H u [.int (0),.int 10000]
 qgr:∃ u,Vn P w K A.qbp (Sum.inr "to") (.ref u)/\∀ H,SqT K H u [.int (0),.int 10000]
 l_most:∃ u,Vn P w K A.qbp (Sum.inr "most") (.ref u)/\∀ H,SqT K H u [.int (0),.int 1000000000000]
 a_1:∃ u,Vn P w K A.qbc (Sum.inl 1) (.ref u)/\∀ H,SqT K H u [.str "kind",.str "zone",.str "second",.str "boundary",.str "digits",.str "factor",.str "start",.str "profile",.str "rate"]
 a_2:∃ u,Vn P w K A.qbc (Sum.inl 2) (.ref u)/\∀ H,SqT K H u [.str "meter",.str "boundary",.str "version",.str "value"]
 a_3:∃ u,Vn P w K A.qbc (Sum.inl 3) (.ref u)/\∀ H,SqT K H u [.str "meter",.str "boundary",.str "end",.str "start",.str "digits",.str "factor"]
 a_4:∃ u,Vn P w K A.qbc (Sum.inl 4) (.ref u)/\∀ H,SqT K H u [.str "meter",.str "boundary",.str "end"]
 a_5:∃ u,Vn P w K A.qbc (Sum.inl 5) (.ref u)/\∀ H,SqT K H u [.str "meter",.str "rate"]
 a_6:∃ u,Vn P w K A.qbc (Sum.inl 6) (.ref u)/\∀ H,SqT K H u [.str "meter",.str "quarter",.str "hand"]
 a_7:∃ u,Vn P w K A.qbc (Sum.inl 7) (.ref u)/\∀ H,SqT K H u [.str "boundary"]
 a_8:∃ u,Vn P w K A.qbc (Sum.inl 8) (.ref u)/\∀ H,SqT K H u [.str "from",.str "to"]
 a_9:∃ u,Vn P w K A.qbc (Sum.inl 9) (.ref u)/\∀ H,SqT K H u [.str "meter",.str "boundary"]
 a_10:∃ u,Vn P w K A.qbc (Sum.inl 10) (.ref u)/\∀ H,SqT K H u [.str "meter",.str "boundary"]
 a_11:∃ u,Vn P w K A.qbc (Sum.inl 11) (.ref u)/\∀ H,SqT K H u [.str "meter",.str "quarter"]
 a_12:∃ u,Vn P w K A.qbc (Sum.inl 12) (.ref u)/\∀ H,SqT K H u [.str "meter",.str "from",.str "to"]
 a_13:∃ u,Vn P w K A.qbc (Sum.inl 13) (.ref u)/\∀ H,SqT K H u [.str "meter",.str "boundary"]
 a_14:∃ u,Vn P w K A.qbc (Sum.inl 14) (.ref u)/\∀ H,SqT K H u [.str "meter",.str "quarter"]
 a_15:∃ u,Vn P w K A.qbc (Sum.inl 15) (.ref u)/\∀ H,SqT K H u [.str "hand",.str "zone",.str "from",.str "to"]
 a_16:∃ u,Vn P w K A.qbc (Sum.inl 16) (.ref u)/\∀ H,SqT K H u [.str "zone",.str "from",.str "to"]
 a_17:∃ u,Vn P w K A.qbc (Sum.inl 17) (.ref u)/\∀ H,SqT K H u [.str "from",.str "to"]
 a_18:∃ u,Vn P w K A.qbc (Sum.inl 18) (.ref u)/\∀ H,SqT K H u [.str "meter"]
 a_19:∃ u,Vn P w K A.qbc (Sum.inl 19) (.ref u)/\∀ H,SqT K H u [.str "meter",.str "most"]
 a_20:∃ u,Vn P w K A.qbc (Sum.inl 20) (.ref u)/\∀ H,SqT K H u [.str "boundary"]
 a_21:∃ u,Vn P w K A.qbc (Sum.inl 21) (.ref u)/\∀ H,SqT K H u [.str "from",.str "to"]
 a_22:∃ u,Vn P w K A.qbc (Sum.inl 22) (.ref u)/\∀ H,SqT K H u []
 c_0:∃ u,Vn P w K A.qd4 (Sum.inl 0) (.ref u)/\mg "add_profile" = some (.ref u)
 c_1:∃ u,Vn P w K A.qd4 (Sum.inl 1) (.ref u)/\mg "install_meter" = some (.ref u)
 c_2:∃ u,Vn P w K A.qd4 (Sum.inl 2) (.ref u)/\mg "read_meter" = some (.ref u)
 c_3:∃ u,Vn P w K A.qd4 (Sum.inl 3) (.ref u)/\mg "swap_dial" = some (.ref u)
 c_4:∃ u,Vn P w K A.qd4 (Sum.inl 4) (.ref u)/\mg "remove_meter" = some (.ref u)
 c_5:∃ u,Vn P w K A.qd4 (Sum.inl 5) (.ref u)/\mg "set_rate" = some (.ref u)
 c_6:∃ u,Vn P w K A.qd4 (Sum.inl 6) (.ref u)/\mg "assign_hand" = some (.ref u)
 c_7:∃ u,Vn P w K A.qd4 (Sum.inl 7) (.ref u)/\mg "move_lock" = some (.ref u)
 c_8:∃ u,Vn P w K A.qd4 (Sum.inl 8) (.ref u)/\mg "publish_period" = some (.ref u)
 q_9:∃ u,Vn P w K A.qci (Sum.inl 9) (.ref u)/\mg "ask_standing" = some (.ref u)
 q_10:∃ u,Vn P w K A.qci (Sum.inl 10) (.ref u)/\mg "ask_history" = some (.ref u)
 q_11:∃ u,Vn P w K A.qci (Sum.inl 11) (.ref u)/\mg "ask_value" = some (.ref u)
 q_12:∃ u,Vn P w K A.qci (Sum.inl 12) (.ref u)/\mg "ask_between" = some (.ref u)
 q_13:∃ u,Vn P w K A.qci (Sum.inl 13) (.ref u)/\mg "ask_through" = some (.ref u)
 q_14:∃ u,Vn P w K A.qci (Sum.inl 14) (.ref u)/\mg "ask_hand" = some (.ref u)
 q_15:∃ u,Vn P w K A.qci (Sum.inl 15) (.ref u)/\mg "ask_total" = some (.ref u)
 q_16:∃ u,Vn P w K A.qci (Sum.inl 16) (.ref u)/\mg "ask_rest" = some (.ref u)
 q_17:∃ u,Vn P w K A.qci (Sum.inl 17) (.ref u)/\mg "ask_nets" = some (.ref u)
 q_18:∃ u,Vn P w K A.qci (Sum.inl 18) (.ref u)/\mg "ask_gaps" = some (.ref u)
 q_19:∃ u,Vn P w K A.qci (Sum.inl 19) (.ref u)/\mg "ask_doubt" = some (.ref u)
 q_20:∃ u,Vn P w K A.qci (Sum.inl 20) (.ref u)/\mg "ask_unread" = some (.ref u)
 q_21:∃ u,Vn P w K A.qci (Sum.inl 21) (.ref u)/\mg "ask_published" = some (.ref u)
 q_22:∃ u,Vn P w K A.qci (Sum.inl 22) (.ref u)/\mg "ask_state" = some (.ref u)
theorem pf1{f:Str}{v:V}{n:Nat}: ∀ {fs:List (Str×V)},fs.length<n->(qbs f v fs).length<n+1
 |[],h=>Nat.succ_lt_succ h
 | (g,x)::r,h=>by
   unfold qbs;split
   ·exact Wd h
   ·cases n with
    |zero=>exact absurd h (Nat.not_lt_zero _)
    |succ n=>exact Nat.succ_lt_succ (pf1 (n:=n) (Nat.lt_of_succ_lt_succ h))
local macro_rules | `(tactic|walk_at "hp")=>`(tactic|exact BAt.oQ (by assumption))
local macro_rules | `(tactic|walk_at "hp")=>`(tactic|exact BAt.oM (by assumption))
local macro_rules | `(tactic|walk_at "hp")=>`(tactic|exact BAt.oP (by assumption))
local macro_rules | `(tactic|walk_at "hp")=>`(tactic|exact BAt.o (by assumption))
local macro_rules | `(tactic|walk_at "hp")=>`(tactic|exact MAt.oT (by assumption))
local macro_rules | `(tactic|walk_at "hp")=>`(tactic|exact MAt.oR (by assumption))
local macro_rules | `(tactic|walk_at "hp")=>`(tactic|exact MAt.oD (by assumption))
local macro_rules | `(tactic|walk_at "hp")=>`(tactic|exact MAt.o (by assumption))
local macro_rules | `(tactic|walk_at "hp")=>`(tactic|exact kq)
local macro_rules | `(tactic|walk_at "hp")=>`(tactic|assumption)
local macro_rules | `(tactic|walk_at "sq")=>`(tactic|exact SqT.of (by walk_at "hp"))
local macro_rules | `(tactic|walk_at "sq")=>`(tactic|exact SqL.of (by walk_at "hp"))
local macro_rules | `(tactic|walk_at "sq")=>`(tactic|assumption)
local macro_rules | `(tactic|walk_at "cls")=>`(tactic|with_reducible exact Txt.clC (by assumption))
local macro_rules | `(tactic|walk_at "cls")=>`(tactic|with_reducible exact Txt.clB (by assumption))
local macro_rules | `(tactic|walk_at "cls")=>`(tactic|with_reducible exact Txt.clM (by assumption))
local macro_rules | `(tactic|walk_at "cls")=>`(tactic|with_reducible exact Txt.clD (by assumption))
local macro_rules | `(tactic|walk_at "cls")=>`(tactic|with_reducible exact Txt.clP (by assumption))
local macro_rules | `(tactic|walk_at "noa")=>`(tactic|first
 |with_reducible exact Txt.q4p (by assumption)
 |with_reducible exact Txt.q4i (by assumption)
 |with_reducible exact Txt.q4j (by assumption)
 |with_reducible exact Txt.q4h (by assumption)
 |with_reducible exact Txt.q4g (by assumption)
 |with_reducible exact Txt.q4e (by assumption)
 |with_reducible exact Txt.q4f (by assumption)
 |with_reducible exact Txt.q4k (by assumption)
 |with_reducible exact Txt.q4o (by assumption)
 |with_reducible exact Txt.q4n (by assumption)
 |with_reducible exact Txt.q4l (by assumption)
 |with_reducible exact Txt.q4m (by assumption)
 |with_reducible exact Txt.qrl (by assumption)
 |with_reducible exact Txt.qh4 (by assumption)
 |with_reducible exact Txt.qrm (by assumption)
 |with_reducible exact Txt.qmw (by assumption)
 |with_reducible exact Txt.qjq (by assumption)
 |with_reducible exact Txt.q36 (by assumption)
 |with_reducible exact Txt.q37 (by assumption)
 |with_reducible exact Txt.q35 (by assumption)
 |with_reducible exact Txt.qrk (by assumption)
 |with_reducible exact Txt.q39 (by assumption)
 |with_reducible exact Txt.q38 (by assumption)
 |with_reducible exact Txt.q4d (by assumption)
 |with_reducible exact Txt.q4a (by assumption)
 |with_reducible exact Txt.q4c (by assumption)
 |with_reducible exact Txt.q4b (by assumption))
local macro_rules | `(tactic|walk_at "st")=>`(tactic|((with_reducible refine' r_tup ?e ?_);(case e=>(exact Xd (m:=1000) (by simp) (by decide)))))
local macro_rules | `(tactic|walk_at "st")=>`(tactic|((with_reducible refine' r_lst ?e ?_);(case e=>(exact Xd (m:=1000) (by simp) (by decide)))))
local macro_rules | `(tactic|walk_at "st")=>`(tactic|((with_reducible refine' qf0 ?e ?c ?n ?z ?_);(case e=>walk_at "hp");(case c=>walk_at "cls");(case n=>walk_at "noa");(case z=>((repeat with_reducible refine' pf1 ?_);(first|(exact Wk _)|(exact Wu (m:=20) (by simp[qbe,qdt,qbm]) (by decide)))))))
local macro_rules | `(tactic|walk_at "st")=>`(tactic|with_reducible refine' q21 ?_)
local macro_rules | `(tactic|walk_at "st")=>`(tactic|with_reducible refine' i_gsub ?_)
local macro_rules | `(tactic|walk_at "st")=>`(tactic|with_reducible refine' i_yes ?_)
local macro_rules | `(tactic|walk_at "st")=>`(tactic|with_reducible refine' i_gnil ?_)
local macro_rules | `(tactic|walk_at "st")=>`(tactic|with_reducible refine' q2z ?_)
local macro_rules | `(tactic|walk_at "st")=>`(tactic|with_reducible refine' i_gtup ?_)
local macro_rules | `(tactic|walk_at "st")=>`(tactic|with_reducible refine' i_sfld ?_)
local macro_rules | `(tactic|walk_at "st")=>`(tactic|with_reducible refine' i_gd ?_)
local macro_rules | `(tactic|walk_at "st")=>`(tactic|with_reducible refine' r_ch ?_)
local macro_rules | `(tactic|walk_at "st")=>`(tactic|with_reducible refine' q2s ?_)
local macro_rules | `(tactic|walk_at "st")=>`(tactic|with_reducible refine' q25 ?_)
local macro_rules | `(tactic|walk_at "st")=>`(tactic|with_reducible refine' r_pt ?_)
local macro_rules | `(tactic|walk_at "st")=>`(tactic|with_reducible refine' i_part ?_)
local macro_rules | `(tactic|walk_at "st")=>`(tactic|with_reducible refine' i_sl ?_)
local macro_rules | `(tactic|walk_at "st")=>`(tactic|with_reducible refine' i_dput ?_)
local macro_rules | `(tactic|walk_at "st")=>`(tactic|((with_reducible refine' r_d1T ?e ?_);(case e=>walk_at "hp")))
local macro_rules | `(tactic|walk_at "st")=>`(tactic|((with_reducible refine' r_d2T ?e ?_);(case e=>walk_at "hp")))
local macro_rules | `(tactic|walk_at "st")=>`(tactic|((with_reducible refine' r_d2K ?e ?_);(case e=>walk_at "hp")))
local macro_rules | `(tactic|walk_at "st")=>`(tactic|with_reducible refine' q2u ?_)
local macro_rules | `(tactic|walk_at "st")=>`(tactic|with_reducible refine' q2t ?_)
local macro_rules | `(tactic|walk_at "st")=>`(tactic|with_reducible refine' q2x ?_)
local macro_rules | `(tactic|walk_at "st")=>`(tactic|with_reducible refine' i_din ?_)
local macro_rules | `(tactic|walk_at "st")=>`(tactic|with_reducible refine' i_dget ?_)
local macro_rules | `(tactic|walk_at "st")=>`(tactic|((with_reducible refine' r_bmL ?e ?_);(case e=>walk_at "sq")))
local macro_rules | `(tactic|walk_at "st")=>`(tactic|with_reducible refine' i_bm ?_)
local macro_rules | `(tactic|walk_at "st")=>`(tactic|with_reducible refine' i_lc ?_)
local macro_rules | `(tactic|walk_at "st")=>`(tactic|((with_reducible refine' r_ii ?e ?_);(case e=>walk_at "hp")))
local macro_rules | `(tactic|walk_at "st")=>`(tactic|with_reducible refine' q22 ?_)
local macro_rules | `(tactic|walk_at "st")=>`(tactic|((with_reducible refine' r_ik ?e ?_);(case e=>walk_at "hp")))
local macro_rules | `(tactic|walk_at "st")=>`(tactic|with_reducible refine' q23 ?_)
local macro_rules | `(tactic|walk_at "st")=>`(tactic|with_reducible refine' i_izip ?_)
local macro_rules | `(tactic|walk_at "st")=>`(tactic|((with_reducible refine' r_ie ?e ?_);(case e=>walk_at "sq")))
local macro_rules | `(tactic|walk_at "st")=>`(tactic|with_reducible refine' q20 ?_)
local macro_rules | `(tactic|walk_at "st")=>`(tactic|((with_reducible refine' r_it ?e ?_);(case e=>walk_at "sq")))
local macro_rules | `(tactic|walk_at "st")=>`(tactic|with_reducible refine' i_itup ?_)
local macro_rules | `(tactic|walk_at "st")=>`(tactic|((with_reducible refine' r_il ?e ?_);(case e=>walk_at "sq")))
local macro_rules | `(tactic|walk_at "st")=>`(tactic|with_reducible refine' q24 ?_)
local macro_rules | `(tactic|walk_at "st")=>`(tactic|with_reducible refine' i_rng1 ?_)
local macro_rules | `(tactic|walk_at "st")=>`(tactic|with_reducible refine' i_for ?_)
local macro_rules | `(tactic|walk_at "st")=>`(tactic|with_reducible refine' r_neI ?_)
local macro_rules | `(tactic|walk_at "st")=>`(tactic|with_reducible refine' r_eqI ?_)
local macro_rules | `(tactic|walk_at "st")=>`(tactic|with_reducible refine' r_U ?_)
local macro_rules | `(tactic|walk_at "st")=>`(tactic|with_reducible refine' i_cb ?_)
local macro_rules | `(tactic|walk_at "st")=>`(tactic|with_reducible refine' i_if ?_)
local macro_rules | `(tactic|walk_at "st")=>`(tactic|with_reducible refine' r_nv ?_)
local macro_rules | `(tactic|walk_at "st")=>`(tactic|with_reducible refine' i_notV ?_)
local macro_rules | `(tactic|walk_at "st")=>`(tactic|with_reducible refine' r_av ?_)
local macro_rules | `(tactic|walk_at "st")=>`(tactic|with_reducible refine' i_andV ?_)
local macro_rules | `(tactic|walk_at "st")=>`(tactic|with_reducible refine' i_not ?_)
local macro_rules | `(tactic|walk_at "st")=>`(tactic|with_reducible refine' i_or ?_)
local macro_rules | `(tactic|walk_at "st")=>`(tactic|with_reducible refine' i_and ?_)
local macro_rules | `(tactic|walk_at "st")=>`(tactic|with_reducible refine' i_tup ?_)
local macro_rules | `(tactic|walk_at "st")=>`(tactic|with_reducible refine' i_lst ?_)
local macro_rules | `(tactic|walk_at "st")=>`(tactic|with_reducible refine' i_mk ?_)
local macro_rules | `(tactic|walk_at "st")=>`(tactic|with_reducible refine' i_un ?_)
local macro_rules | `(tactic|walk_at "st")=>`(tactic|with_reducible refine' i_brk ?_)
local macro_rules | `(tactic|walk_at "st")=>`(tactic|with_reducible refine' i_next ?_)
local macro_rules | `(tactic|walk_at "st")=>`(tactic|with_reducible refine' i_drop ?_)
local macro_rules | `(tactic|walk_at "st")=>`(tactic|with_reducible refine' r_I0 ?_)
local macro_rules | `(tactic|walk_at "st")=>`(tactic|with_reducible refine' r_b ?_)
local macro_rules | `(tactic|walk_at "st")=>`(tactic|with_reducible refine' i_tB ?_)
local macro_rules | `(tactic|walk_at "st")=>`(tactic|with_reducible refine' i_fn ?_)
local macro_rules | `(tactic|walk_at "st")=>`(tactic|with_reducible refine' i_name ?_)
local macro_rules | `(tactic|walk_at "st")=>`(tactic|with_reducible refine' i_asg ?_)
local macro_rules | `(tactic|walk_at "st")=>`(tactic|with_reducible refine' i_test ?_)
local macro_rules | `(tactic|walk_at "st")=>`(tactic|with_reducible refine' i_ifs ?_)
local macro_rules | `(tactic|walk_at "st")=>`(tactic|with_reducible refine' qmf ?_)
local macro_rules | `(tactic|walk_at "st")=>`(tactic|with_reducible refine' i_nil ?_)
local macro_rules | `(tactic|walk_at "st")=>`(tactic|with_reducible refine' i_seq ?_)
local macro_rules | `(tactic|walk_at "st")=>`(tactic|with_reducible refine' i_op ?_)
local macro_rules | `(tactic|walk_at "st")=>`(tactic|with_reducible refine' i_c ?_)
local macro_rules | `(tactic|walk_at "st")=>`(tactic|with_reducible refine' i_fld ?_)
local macro_rules | `(tactic|walk_at "st")=>`(tactic|with_reducible refine' i_cons ?_)
local macro_rules | `(tactic|walk_at "st")=>`(tactic|((with_reducible refine' i_var ?e ?_);(case e=>exact rfl)))
local macro_rules | `(tactic|walk_at "st")=>`(tactic|((with_reducible refine' qfz ?e ?c ?n ?l ?_);(case e=>walk_at "hp");(case c=>walk_at "cls");(case n=>walk_at "noa");(case l=>exact rfl)))
local macro_rules | `(tactic|walk_at "in")=>`(tactic|((try dsimp only[qcp]);walk_at ""))
local macro_rules | `(tactic|walk_at "")=>`(tactic|(repeat walk_at "st"))
local macro_rules | `(tactic|walk_at "bk")=>`(tactic|exact qw4 (by dsimp only[qcp,Cx.nox,envOfC];decide +kernel))
local macro_rules | `(tactic|walk_at "hb")=>`(tactic|first|(exact fun _ _ _ _ _ _ us hl=>match us,hl with|[_],_=>rfl)|(exact fun _ _ _ _ _ _ us hl=>match us,hl with|[_,_],_=>rfl)|(exact fun _ _ _ _ _ _ us hl=>match us,hl with|[_,_,_],_=>rfl)|(exact fun _ _ _ _ _ _ us hl=>match us,hl with|[_,_,_,_],_=>rfl)|(exact fun _ _ _ _ _ _ us hl=>match us,hl with|[_,_,_,_,_],_=>rfl)|(exact fun _ _ _ _ _ _ us hl=>match us,hl with|[_,_,_,_,_,_],_=>rfl)|(exact fun _ _ _ _ _ _ us hl=>match us,hl with|[_,_,_,_,_,_,_],_=>rfl))
theorem Dfn.go{P:Program}{w:World}{K:PySem.W.Frag}{mg:Str->Option Value}{base:Heap}{k:Nat}{x:Str}{st:Stmt}{N ps:List Str}{sp:Sp}(D:Dfn K mg x st)(S:Vg N ps (k7 st))(len:∀ vs H Q E,sp vs H Q E->vs.length=ps.length)
  (hbody:∀ (f:Addr) (cdv:Value) (A:Around) (outer:List Env) (s:Shared) (H:Hp) (vs:List V) (Q:VK) (E:XK),Qar k (A.deeper (envOfC x (k7 st) s.heap.objs.size f cdv))->sp vs H Q E ->
   ∃ t,PSs (qcp CX0 P w K mg base N x (k7 st) f cdv A outer s H E).nox (qcz st) t/\t { nx:=fun _ H'=>Q .non H',rt:=Q } (start N vs) H)
  (hb:∀ (kV doc pm:Value) (an:Option Addr) (cdv ct:Value) (us:List Value),us.length=ps.length->bindArgs (PySem.W.fnOf x x (qen st) (qcz st) (k7 st) .none kV doc pm an cdv ct) ⟨us,[]⟩=pure (ps.zip us):=by walk_at "hb"): Fn P w K mg base (k+1) x ps sp:=D.fn S hb len hbody
variable {P:Program} {w:World} {K:PySem.W.Frag} {mg:Str->Option Value} {base:Heap} {A:Ads}
def q8l:Sp:=fun vs H Q _=>∃ n:Nat,vs=[.int (n:Int)]/\n<=100/\Q (.int (10 ^ n)) H
theorem ql7(T:Txt P w K mg A): Fn P w K mg base 1 "power_of_ten" ["digits"] q8l:=by
 refine T.qzx.go qkb (fun _ _ _ _ h=>?_) (fun _ _ _ _ _ H _ Q _ hr h=>?_)
 ·obtain⟨n,rfl,_⟩:=h;rfl
 ·obtain⟨n,rfl,hn,q⟩:=h;refine⟨_,(ko (vt 1 qkb.nd vh) (ko (qdz Ys rfl (q5r rfl T.qw1 (vd kj)) (qak 2 qkb.nd) (qbg (vt 1 qkb.nd (qaf qec kr vh)))) (vm kr))),?_⟩;walk_at "in";refine r_rng1 (n:=n) (by omega) ?_;refine r_forR n (fun i σ H'=>H'=H/\∃ v,σ=[some (.int (n:Int)),some (.int (10 ^ i)),v]) ⟨rfl,none,rfl⟩ ?_ ?_
  ·rintro σ H' ⟨rfl,v,rfl⟩;walk_at "";exact q
  ·rintro i σ H' hi ⟨rfl,v,rfl⟩;walk_at "";refine r_I (.inr ⟨by decide,by decide⟩) ?_;walk_at "";exact⟨rfl,_,by rw[Int.pow_succ];rfl⟩
def q8p(K:PySem.W.Frag): Sp:=fun vs H Q _=>∃ (a:Addr) (ns:List Int),vs=[.ref a]/\SqL K H a (vI ns)/\ns.length<sizeLine/\∀ H' l,Kh H H'->H l=none->H' l=some (.lst (vI (QM.sums 0 ns)))->Q (.ref l) H'
theorem qp4(T:Txt P w K mg A): Fn P w K mg base 1 "running_sums" ["numbers"] (q8p K):=by
 refine T.qz5.go qnv (fun _ _ _ _ h=>?_) (fun _ _ _ _ _ H _ Q _ hr h=>?_)
 ·obtain⟨a,ns,rfl,_⟩:=h;rfl
 ·obtain⟨a,ns,rfl,hs,hn,q⟩:=h;refine⟨_,(ko (vt 1 qnv.nd (qah (vd vh))) (ko (qdz Ys rfl (qb1 kj) (qak 2 qnv.nd) (qbg (qb5 (qce Xe Xv Xw qdk kr (vd (qaf qca (qa1 K kr (qee qek vh)) ku)))))) (vm kr))),?_⟩;walk_at "in";intro l hl;have s1:=Kh.new (o:=.lst [V.int 0]) hl;have hs1:=s1.seq hs;walk_at "";refine qe2 (vI ns) (fun i σ H'=>Kh H H'/\H' l=some (.lst (vI (QM.sums 0 (ns.take i))))/\∃ v,σ=[some (.ref a),some (.ref l),v]) ⟨s1,kq,none,rfl⟩ (fun i σ H' ⟨s2,_⟩=>s2.seq hs) ?_ ?_
  ·rintro σ H' ⟨s2,h2,v,rfl⟩;walk_at "";refine q _ l s2 hl ?_;rw[h2,qa9,Xh]
  ·rintro i σ H' x hx ⟨s2,h2,v,rfl⟩;obtain⟨z,hz,rfl⟩:=qkq hx;have hi:=(Ji.mp hz).1;walk_at "";refine qat (SqL.of h2) (v:=.int ((ns.take i).sum)) ?_ ?_
   ·have e:=QM.qir (ns.take i) 0;rw[Uq] at e;exact qk2 e
   walk_at "";refine qc5 h2 ?_ ?_
   ·rw[vI,Jd,QM.qkj,Zs];omega
   walk_at "";refine⟨Kh.upd s2 hl,?_,_,rfl⟩;rw[kq,Xq,hz,QM.q9z,qv5];rfl
structure PAt(A:Ads)(H:Hp)(p:Addr)(l:List Nat): Prop where
 ex:∃ dx aS,H p=some (.ins A.CP dx [("sums",.ref aS)])/\H aS=some (.lst (vI (QM.sums 0 (wts l))))
theorem qku(l:List Nat): (wts l).length=l.length:=Jd ..
theorem qom:∀ l:List Nat,(wts l).sum=((l.sum:Nat):Int)
 |[]=>rfl
 | x::l=>by
   show (x:Int)+(wts l).sum=_;rw[qom l,Yx];omega
theorem za2(l:List Nat)(i:Nat): (wts l).take i=wts (l.take i):=(Ua ..).symm
def qhn(l:List Nat)(t:Nat): Int:=((t / l.length*l.sum+(l.take (t%l.length)).sum:Nat):Int)
def q80(A:Ads): Sp:=fun vs H Q _=>∃ (p:Addr) (l:List Nat) (t:Nat),vs=[.ref p,.int (t:Int)]/\PAt A H p l/\1<=l.length/\l.length<=1000/\t<=100000/\Q (.int (qhn l t)) H
theorem qp7(T:Txt P w K mg A): Fn P w K mg base 1 "weight_before" ["profile","boundary"] (q80 A):=by
 refine T.q0m.go qu5 (fun _ _ _ _ h=>?_) (fun _ _ _ _ _ H _ Q _ hr h=>?_)
 ·obtain⟨p,l,t,rfl,_⟩:=h;rfl
 ·obtain⟨p,l,t,rfl,⟨dx,aS,h1,h2⟩,hl1,hl2,ht,q⟩:=h;refine⟨_,(ko (vt 2 qu5.nd (qaf qcr (x_len T.qbd (k9 K kj)) vh)) (vm (qaf qca (qaf qec (qaf qm0 kr ku) (qa1 K (k9 K kj) (qee qek vh))) (qa1 K (k9 K kj) (qaf qrw kr ku))))),?_⟩;walk_at "in";refine qbb (qbz (SqL.of h2)) ?_;have e1:(((vI (QM.sums 0 (wts l))).length:Nat):Int)-1=(l.length:Int):=by rw[qa9,QM.qkj,qku];omega
  walk_at "";rw[e1];refine r_I ⟨by omega,by omega⟩ ?_;walk_at "";refine qat (SqL.of h2) (qk2 (QM.qir _ _)) ?_;walk_at "";refine r_I (.inl ⟨?_,?_⟩) ?_
  ·have:=Int.ediv_nonneg (show (0:Int)<=(t:Int) by omega) (show (0:Int)<=(l.length:Int) by omega);omega
  ·have:=Int.ediv_le_self (a:=(t:Int)) (l.length:Int) (by omega);omega
  walk_at "";refine r_I (show (0:Int)<(l.length:Int) by omega) ?_;have hm:t%l.length<l.length:=Nat.mod_lt _ hl1;have e2:(t:Int)%(l.length:Int)=((t%l.length:Nat):Int):=by omega
  rw[e2];refine qat (SqL.of h2) (qap (qc6 (QM.qhd (wts l) 0 (t%l.length) (by rw[qku];omega)))) ?_;walk_at "";have e3:(t:Int) / (l.length:Int)*(0+(wts l).sum)+(0+((wts l).take (t%l.length)).sum)=qhn l t:=by
   unfold qhn;rw[qom,za2,qom,Uq,Uq];simp
  rw[e3];exact q
def q81(A:Ads): Sp:=fun vs H Q _=>∃ (p:Addr) (l:List Nat) (a b:Nat),vs=[.ref p,.int (a:Int),.int (b:Int)]/\PAt A H p l/\1<=l.length/\l.length<=1000/\a<=100000/\b<=100000/\Q (.int (qhn l b-qhn l a)) H
theorem qp8(T:Txt P w K mg A):
  Fn P w K mg base 2 "weight_between" ["profile","start","end"] (q81 A):=by
 refine T.q0n.go q7m (fun _ _ _ _ h=>?_) (fun _ _ _ _ _ H _ Q _ hr h=>?_)
 ·obtain⟨p,l,a,b,rfl,_⟩:=h;rfl
 ·obtain⟨p,l,a,b,rfl,hp,hl1,hl2,ha,hb,q⟩:=h;refine⟨_,(vm (qaf qcr (k8 (qp7 T) hr (k6 kj ku)) (k8 (qp7 T) hr (k6 kj kr)))),?_⟩;walk_at "in";refine⟨p,l,b,rfl,hp,hl1,hl2,hb,?_⟩;walk_at "";refine⟨p,l,a,rfl,hp,hl1,hl2,ha,?_⟩;walk_at "";exact q
def q8c(A:Ads): Sp:=fun vs H Q _=>∃ (s:Sta) (b:Qad) (n:Int),vs=[.ref b.a,.int n]/\BAt A H s b/\Q (.bl (decide ((s.meters.length:Int)<n))) H
theorem q1q(T:Txt P w K mg A): Fn P w K mg base 1 "is_missing" ["book","number"] (q8c A):=by
 refine T.qzj.go q7a (fun _ _ _ _ h=>?_) (fun _ _ _ _ _ H _ Q _ hr h=>?_)
 ·obtain⟨st,b,n,rfl,_⟩:=h;rfl
 ·obtain⟨st,b,n,rfl,B,q⟩:=h;refine⟨_,(vm (qga qjs kr (x_len T.qbd (k9 K kj)))),?_⟩;walk_at "in";refine qbb (qbz (SqL.of B.oM)) ?_;walk_at "";rw[Jd,B.lm];exact q
def GL(H:Hp)(g:Addr)(k:Str)(v:V): Prop:=∃ kvs,H g=some (.dK kvs)/\vj kvs (Sum.inr k)=some v
theorem r_dgG{H:Hp}{g:Addr}{k:Str}{v:V}{Q:VK}(e:GL H g k v)(h:Q v H): rDG (.ref g) (.str k) H Q:=by obtain⟨kvs,h1,h2⟩:=e;exact vp h1 h2 h
def q8h(A:Ads): Sp:=fun vs H Q _=>∃ (s:Sta) (b:Qad) (g:Addr) (n:Nat) (x:Met) (m:Qaa),vs=[.ref b.a,.ref g]/\BAt A H s b/\GL H g "meter" (.int ((n+1:Nat):Int))/\s.meters[n]?=some x/\b.ms[n]?=some m/\Q (.ref m.a) H
theorem qeq(T:Txt P w K mg A): Fn P w K mg base 1 "meter_of" ["book","given"] (q8h A):=by
 refine T.qzq.go q7d (fun _ _ _ _ h=>?_) (fun _ _ _ _ _ H _ Q _ hr h=>?_)
 ·obtain⟨st,b,g,n,x,m,rfl,_⟩:=h;rfl
 ·obtain⟨st,b,g,n,x,m,rfl,B,hg,hx,hm,q⟩:=h;have hu:=qan hr;refine⟨_,(vm (qa1 K (k9 K kj) (qaf qcr (vq hu kr vo) vh))),?_⟩;walk_at "in";refine r_dgG hg ?_;walk_at "";have e:((n+1:Nat):Int)-1=(n:Int):=by omega
  rw[e];exact qat (SqL.of B.oM) (qap (by rw[Jt,hm];rfl)) q
def qu9(A:Ads): Sp:=fun vs H Q _=>∃ (s:Sta) (k:Nat) (x:Met) (m:Qaa),vs=[.ref m.a]/\MAt A H s k x m/\∀ d y,m.ds.getLast?=some d->x.devices.getLast?=some y->H d.a=some (.ins A.CD d.dx (qbe y))->Q (.ref d.a) H
theorem MAt.last{H:Hp}{s:Sta}{k:Nat}{x:Met}{m:Qaa}(M:MAt A H s k x m): ∃ d y,m.ds.getLast?=some d/\x.devices.getLast?=some y/\H d.a=some (.ins A.CD d.dx (qbe y)):=by
 have hc:=(M.good.met M.hx).chain;obtain⟨pre,y,e1,e2⟩:=QM.qq8 hc;have hl:=M.rel.dl;have hne:m.ds.length≠0:=by rw[hl,e1];simp
 have h1:m.ds[m.ds.length-1]?=some m.ds[m.ds.length-1]:=Jo (by omega);have e3:x.devices.getLast?=some y:=e2;have h2:x.devices[m.ds.length-1]?=some y:=by
  rw[Ui,<- hl] at e3;exact e3
 exact⟨_,y,(Ui).trans h1,e3,M.qh5 h1 h2⟩
theorem qgi(T:Txt P w K mg A): Fn P w K mg base 1 "last_dial" ["meter"] (qu9 A):=by
 refine T.qzo.go q7c (fun _ _ _ _ h=>?_) (fun _ _ _ _ _ H _ Q _ hr h=>?_)
 ·obtain⟨st,k,x,m,rfl,_⟩:=h;rfl
 ·obtain⟨st,k,x,m,rfl,M,q⟩:=h;obtain⟨d,y,h1,h2,h3⟩:=M.last;refine⟨_,(vm (qa1 K (k9 K kj) (qee qek vh))),?_⟩;walk_at "in";exact qat (SqL.of M.oD) (qi3 (by rw[Y5,h1];rfl)) (q d y h1 h2 h3)
theorem qgm{x:Met}{y:Dev}(h:x.devices.getLast?=some y): Vbemai.isOut x=y.finish.isSome:=by
 unfold Vbemai.isOut Vbemai.lastDevice;rw[h];rfl
def q8d(A:Ads): Sp:=fun vs H Q _=>∃ (s:Sta) (k:Nat) (x:Met) (m:Qaa),vs=[.ref m.a]/\MAt A H s k x m/\Q (.bl (Vbemai.isOut x)) H
theorem qhv(T:Txt P w K mg A): Fn P w K mg base 2 "is_removed" ["meter"] (q8d A):=by
 refine T.qzk.go q7b (fun _ _ _ _ h=>?_) (fun _ _ _ _ _ H _ Q _ hr h=>?_)
 ·obtain⟨st,k,x,m,rfl,_⟩:=h;rfl
 ·obtain⟨st,k,x,m,rfl,M,q⟩:=h;refine⟨_,(vm (qga qrx (k9 K (k8 (qgi T) hr (vd kj))) qdy)),?_⟩;walk_at "in";refine⟨st,k,x,m,rfl,M,fun d y h1 h2 h3=>?_⟩;walk_at "";refine⟨rfl,?_⟩;rw[qgm h2] at q;have e:(!decide (eB y=V.non))=y.finish.isSome:=by unfold eB;cases y.finish<;>rfl
  rw[e];exact q
structure RAt(A:Ads)(H:Hp)(s:Sta)(k:Nat)(x:Met)(m:Qaa): Prop where
 good:QM.Good s
 hx:Vbemai.meter? s k=some x
 rel:Qda s k x m
 o:H m.a=some (.ins A.CM m.dx (qdt x m))
 oR:Rd H m.aR (.dK (rdK m.rd))
 ver:∀ e∈m.rd,H e.a=some (.dK (vsK e.vs))
theorem Rd.same{H H':Hp}{a:Addr}{u:HO}(h:Rd H a u)(e:Kh H H'): Rd H' a u:=by
 rcases h with h|⟨o,h⟩
 ·exact .inl (e _ _ h)
 ·exact .inr ⟨o,e _ _ h⟩
theorem RAt.same{H H':Hp}{s:Sta}{k:Nat}{x:Met}{m:Qaa}(h:RAt A H s k x m)(e:Kh H H'): RAt A H' s k x m:=
 ⟨h.good,h.hx,h.rel,e _ _ h.o,Rd.same h.oR e,fun v hv=>e _ _ (h.ver v hv)⟩
theorem MAt.r{H:Hp}{s:Sta}{k:Nat}{x:Met}{m:Qaa}(h:MAt A H s k x m): RAt A H s k x m:=⟨h.good,h.hx,h.rel,h.o,.inl h.oR,fun e he=>h.qgu he⟩
theorem qay{H:Hp}{a b:Addr}{o u:HO}(h:H a=some o)(h':H b=some u)(n:o≠u): a≠b:=by
 intro e;subst e;rw[h] at h';exact n (Jj h')
theorem MAt.lockR{H:Hp}{s:Sta}{k:Nat}{x:Met}{m:Qaa}(h:MAt A H s k x m)(od:Obj): RAt A (upd H m.aR (.frz od (.dK (rdK m.rd)))) s k x m:=
 ⟨h.good,h.hx,h.rel,by rw[qc (qay h.o h.oR (by intro q;cases q))];exact h.o,.inr ⟨od,kq⟩,fun e he=>by
  rw[qc (qay (h.qgu he) h.oR ?_)]
  ·exact h.qgu he
  ·intro q;have q:vsK e.vs=rdK m.rd:=HO.dK.inj q;have hne:e.vs≠[]:=h.rel.rd.ne (e.t,e.vs) (Jk.mpr ⟨e,he,rfl⟩);cases ev:e.vs with
   |nil=>exact hne ev
   | cons p r=>
     rw[ev] at q;cases er:m.rd with
     |nil=>rw[er] at q;cases q
     | cons p' r'=>
       rw[er] at q;have q2:=(Ww (Ze q).1).2;cases q2⟩
theorem qmq{H H':Hp}{d D:Addr}{u f o:HO}(hd:H d=some u)(s:Kh (upd H d f) H')(hD:upd H d f D=none)(e:H' D=some o):
  Kh H (upd H' d u)/\H D=none/\upd H' d u D=some o/\H' d=some f:=by
 have hne:D≠d:=by intro q;subst q;rw[kq] at hD;cases hD
 rw[qc hne] at hD;refine⟨fun b q hb=>?_,hD,by rw[qc hne];exact e,s _ _ kq⟩;by_cases hbd:b=d
 ·subst hbd;rw[kq,<- hd];exact hb
 ·rw[qc hbd];exact s _ _ (by rw[qc hbd];exact hb)
theorem qg4(t:Nat): ∀ rd:List Qdc,(∃ e∈rd,e.t=t/\vj (rdK rd) (Sum.inl (t:Int))=some (.ref e.a)/\(rd.map fun e=>(e.t,e.vs)).lookup t=some e.vs) \/
  (vj (rdK rd) (Sum.inl (t:Int))=none/\(rd.map fun e=>(e.t,e.vs)).lookup t=none/\∀ e∈rd,e.t≠t)
 |[]=>.inr ⟨rfl,rfl,fun _ h=>nomatch h⟩
 | e::r=>by
   by_cases h:e.t=t
   ·subst h;refine .inl ⟨e,Jh ..,rfl,?_,?_⟩
    ·show vj ((Sum.inl (e.t:Int),V.ref e.a)::rdK r) _=_;exact qf9 rfl
    ·simp
   ·have hv:vj (rdK (e::r)) (Sum.inl (t:Int))=vj (rdK r) (Sum.inl (t:Int)):=by
     show vj ((Sum.inl (e.t:Int),V.ref e.a)::rdK r) _=_;refine qf8 fun q=>h ?_;have q:(e.t:Int)=t:=Wx q;omega
    have hl:((e::r).map fun e=>(e.t,e.vs)).lookup t=(r.map fun e=>(e.t,e.vs)).lookup t:=by
     rw[Jq,X0];have:(t==e.t)=false:=by simpa using fun q:t=e.t=>h q.symm
     rw[this]
    rw[hv,hl];rcases qg4 t r with ⟨e',h1,h2,h3,h4⟩|⟨h1,h2,h3⟩
    ·exact .inl ⟨e',Jm _ h1,h2,h3,h4⟩
    ·refine .inr ⟨h1,h2,fun e' he'=>?_⟩;rcases Jf.mp he' with rfl|q
     ·exact h
     ·exact h3 e' q
theorem qod{β:Type}(f:β->V)(n:Nat): ∀ l:List (Nat×β),vj (l.map fun e=>((Sum.inl (e.1:Int):Key),f e.2)) (Sum.inl (n:Int))=(l.lookup n).map f
 |[]=>rfl
 | e::r=>by
   rw[Jq,X0];by_cases h:n=e.1
   ·subst h;rw[qf9 rfl];simp
   ·rw[qf8 fun q=>h (by have q:(e.1:Int)=n:=Wx q;omega)];have:(n==e.1)=false:=by simpa using h
    rw[this];exact qod f n r
theorem qof(vs:List (Nat×Int))(n:Nat): vj (vsK vs) (Sum.inl (n:Int))=(vs.lookup n).map V.int:=qod V.int n vs
theorem qob(tl:List (Nat×Nat))(n:Nat): vj (tlK tl) (Sum.inl (n:Int))=(tl.lookup n).map fun (h:Nat)=>V.int (h:Int):=qod (fun h:Nat=>V.int (h:Int)) n tl
theorem qwa(vs:List (Nat×Int)): (vsK vs).map (·.1)=(wts (vs.map (·.1))).map Sum.inl:=by simp[vsK,wts]
theorem q94(tl:List (Nat×Nat)): (tlK tl).map (·.1)=(wts (tl.map (·.1))).map Sum.inl:=by simp[tlK,wts]
theorem qiu(l:List Nat): vI (wts l)=vN l:=by simp[vI,wts,vN]
theorem qrh{l:List Nat}{z:Int}(h:z∈wts l): ∃ n:Nat,n∈l/\z=(n:Int):=by
 obtain⟨n,hn,rfl⟩:=Jk.mp h;exact⟨n,hn,rfl⟩
theorem qna:∀ {ns:List Int} {l:List Nat},ns.Perm (wts l)->∃ l':List Nat,ns=wts l'/\l'.Perm l:=fun {ns l} h=>by
 have e:wts (ns.map Int.toNat)=ns:=by
  unfold wts;rw[Xy];refine(X8 (g:=id) fun z hz=>?_).trans (Qy _);obtain⟨n,_,rfl⟩:=qrh (h.mem_iff.mp hz);simp
 refine⟨ns.map Int.toNat,e.symm,?_⟩;have:=h.map Int.toNat;have e2:(wts l).map Int.toNat=l:=by
  unfold wts;rw[Xy];exact(X8 (g:=id) fun z _=>by simp).trans (Qy _)
 rw[e2] at this;exact this
theorem qol{l:List Nat}(h:(wts l).Pairwise (·<=·)): l.Pairwise (·<=·):=by
 unfold wts at h;rw[U3] at h;exact h.imp fun q=>by omega
theorem qn0{l k:List Nat}(h:l.Pairwise (·<=·))(p:l.Perm k)(hk:QM.Inc k): l=k:=
 QM.qql (QM.qqn h (p.nodup_iff.mpr hk.nodup)) hk fun x=>p.mem_iff
def q8n(A:Ads): Sp:=fun vs H Q _=>∃ (s:Sta) (k:Nat) (x:Met) (m:Qaa) (t:Nat),vs=[.ref m.a,.int (t:Int)]/\MAt A H s k x m/\(x.devices.find? (Vbemai.within t)=none->Q .non H) /\
 ∀ (i:Nat) (y:Dev) (d:Qfp),x.devices.find? (Vbemai.within t)=some y->x.devices[i]?=some y->m.ds[i]?=some d->Q (.ref d.a) H
def qvc(A:Ads): Sp:=fun vs H Q _=>∃ (s:Sta) (k:Nat) (x:Met) (m:Qaa) (t:Nat),vs=[.ref m.a,.int (t:Int)]/\RAt A H s k x m/\∀ H',Kh H H'->(QM.qcc s k t=none->Q .non H') /\
 ∀ (p:Nat×Int) (a:Addr),QM.qcc s k t=some p->H a=none->H' a=some (.tup [.int (p.1:Int),.int p.2])->Q (.ref a) H'
def qu7(A:Ads): Sp:=fun vs H Q _=>∃ (s:Sta) (k:Nat) (x:Met) (m:Qaa) (t:Nat),vs=[.ref m.a,.int (t:Int)]/\MAt A H s k x m/\∀ H',Kh H H'->Q (.bl ((Vbemai.readingsOf s k).any fun r=>decide (t<=r.at_))) H'
def q8g(A:Ads): Sp:=fun vs H Q _=>∃ (s:Sta) (k:Nat) (x:Met) (m:Qaa),vs=[.ref m.a]/\MAt A H s k x m/\∀ H' l,Kh H H'->H l=none->H' l=some (.lst (vN (QM.kn s k)))->Q (.ref l) H'
def q8e(A:Ads): Sp:=fun vs H Q _=>∃ (s:Sta) (k:Nat) (x:Met) (m:Qaa) (t:Nat),vs=[.ref m.a,.int (t:Int)]/\MAt A H s k x m/\∀ H',Kh H H'->Q (.bl (QM.qf7 s k x t)) H'
def q8z(A:Ads): Sp:=fun vs H Q _=>∃ (s:Sta) (b:Qad) (t:Nat),vs=[.ref b.a,.int (t:Int)]/\BAt A H s b/\∀ H' l,Kh H H'->H l=none->H' l=some (.lst (vN (Vbemai.unread s t)))->Q (.ref l) H'
def But(p:Addr)(H H':Hp): Prop:=∀ b o,b≠p->H b=some o->H' b=some o
theorem But.refl(p:Addr)(H:Hp): But p H H:=fun _ _ _ h=>h
theorem But.upd{p:Addr}{H H1:Hp}{o:HO}(h:But p H H1): But p H (upd H1 p o):=fun b u n q=>by rw[qc n];exact h b u n q
theorem But.new{p a:Addr}{H H1:Hp}{o:HO}(h:But p H H1)(e:H a=none): But p H (L2.upd H1 a o):=fun b u n q=>by rw[qc (vz q e)];exact h b u n q
theorem But.same{p:Addr}{H H1 H2:Hp}(h:But p H H1)(e:Kh H1 H2): But p H H2:=fun b u n q=>e _ _ (h b u n q)
def q7y(A:Ads)(K:PySem.W.Frag): Sp:=fun vs H Q _=>∃ (p dx a:Addr) (ns:List Int),vs=[.ref p,.ref a]/\H p=some (.ins A.CP dx [])/\SqL K H a (vI ns)/\ns.length<sizeLine /\
 ∀ H' aS,But p H H'->H aS=none->H' p=some (.ins A.CP dx [("sums",.ref aS)])->H' aS=some (.lst (vI (QM.sums 0 ns)))->Q .non H'
def q7w(A:Ads): Sp:=fun vs H Q _=>∃ (p dx:Addr) (y:Dev),vs=[.ref p,.int (y.start:Int),.int y.value,.int (y.digits:Int),.int y.factor]/\y.finish=none/\y.digits<=100/\H p=some (.ins A.CD dx [])/\Q .non (upd H p (.ins A.CD dx (qbe y)))
def q7x(A:Ads): Sp:=fun vs H Q _=>∃ (p dx d:Addr) (x:Met) ,vs=[.ref p,.int (x.kind:Int),.int (x.zone:Int),.int (x.zone2:Int),.int (x.profile:Int),.int x.rate,.ref d]/\H p=some (.ins A.CM dx []) /\
 ∀ H' aD aR aT,But p H H'->H aD=none->H aR=none->H aT=none->aD≠aR->aD≠aT->aR≠aT->H' p=some (.ins A.CM dx (qdt x ⟨p,dx,aD,aR,aT,[],[],[]⟩))->H' aD=some (.lst [.ref d])->H' aR=some (.dK [])->H' aT=some (.dK [])->Q .non H'
def q7u(A:Ads): Sp:=fun vs H Q _=>∃ (p dx:Addr),vs=[.ref p]/\H p=some (.ins A.CB dx []) /\
 ∀ H' b,But p H H'->b.a=p->BAt A H' Vbemai.start b->(∀ c∈qck A Vbemai.start b,c.1=p\/H c.1=none)->Q .non H'
def q7v(A:Ads)(K:PySem.W.Frag): Sp:=fun vs H Q _=>∃ (c dx aK aA p:Addr) (ns:List Int) (tl:Int) (rm:Bool),vs=[.ref c,.ref aK,.ref aA,.ref p,.int tl,.bl rm]/\H c=some (.ins A.CC dx [])/\H aA=some (.lst (vI ns))/\ns.length<sizeLine /\
 ∀ H' aO,But c H H'->H aO=none->H' c=some (.ins A.CC dx [("knots",.ref aK),("amounts",.ref aA),("totals",.ref aO),("profile",.ref p),("tail",.int tl),("removed",.bl rm)])->H' aO=some (.lst (vI (QM.sums 0 ns)))->Q .non H'
theorem qr9{H:Hp}{s:Sta}{b:Qad}(B:BAt A H s b){x:Met}(hx:QM.Qe6 s.profiles.length x): ∃ p:ProA,b.ps[x.profile]?=some p/\H p.a=some (.ins A.CP p.dx [("sums",.ref p.aS)])/\H p.aS=some (.lst (vI (QM.sums 0 (wts (QM.qbj (Vbemai.profileOf s x)))))):=by
 have h1:=hx.prof;have h0:x.profile<b.ps.length:=by rw[B.lp];omega
 have h2:b.ps[x.profile]?=some b.ps[x.profile]:=Jo h0;refine⟨_,h2,?_⟩;have h3:(([1]:List Nat)::s.profiles)[x.profile]?=some (QM.qbj (Vbemai.profileOf s x)):=by
  unfold Vbemai.profileOf;cases e:x.profile with
  |zero=>rfl
  | succ n=>
    have hn:n<s.profiles.length:=by omega
    have hg:s.profiles[n]?=some s.profiles[n]:=Jo hn;rw[U0,Jc (Nat.succ_ne_zero n),Za,hg];have hp:=(B.good.pw _ (List.getElem_mem hn)).1;show _=some (QM.qbj s.profiles[n]);unfold QM.qbj;rw[Jc];intro z;rw[z] at hp;exact absurd hp (by decide)
 have hh:=B.pro h3 h2;exact⟨hh _ (Jh ..),hh _ (Jm _ (Jh ..))⟩
def Qdp(A:Ads)(H H':Hp)(s:Sta)(b:Qad)(n:Nat)(x:Met)(c:Addr): Prop:=∃ dx aK aA aO pr,b.ps[x.profile]?=some pr/\H c=none/\H aK=none/\H aA=none/\H aO=none /\
 H' c=some (.ins A.CC dx [("knots",.ref aK),("amounts",.ref aA),("totals",.ref aO),("profile",.ref pr.a),("tail",.int (Vbemai.rateOf x)),("removed",.bl (Vbemai.isOut x))]) /\
 H' aK=some (.lst (vN (QM.kn s (n+1))))/\H' aA=some (.lst (vI (QM.am s (n+1))))/\H' aO=some (.lst (vI (QM.sums 0 (QM.am s (n+1)))))
theorem Qdp.same{H H' H2:Hp}{s:Sta}{b:Qad}{n:Nat}{x:Met}{c:Addr}(h:Qdp A H H' s b n x c)(e:Kh H' H2): Qdp A H H2 s b n x c:=by
 obtain⟨dx,aK,aA,aO,pr,h0,h1,h2,h3,h4,h5,h6,h7,h8⟩:=h;exact⟨dx,aK,aA,aO,pr,h0,h1,h2,h3,h4,e _ _ h5,e _ _ h6,e _ _ h7,e _ _ h8⟩
theorem Qdp.upd{H H':Hp}{s:Sta}{b:Qad}{n:Nat}{x:Met}{c N:Addr}{u o:HO}(h:Qdp A H H' s b n x c)(e:H N=some u): Qdp A H (L2.upd H' N o) s b n x c:=by
 obtain⟨dx,aK,aA,aO,pr,h0,h1,h2,h3,h4,h5,h6,h7,h8⟩:=h;exact⟨dx,aK,aA,aO,pr,h0,h1,h2,h3,h4,by rw[qc (vz e h1).symm];exact h5,by rw[qc (vz e h2).symm];exact h6,by rw[qc (vz e h3).symm];exact h7,by rw[qc (vz e h4).symm];exact h8⟩
theorem Qdp.cat{H H':Hp}{s:Sta}{b:Qad}{n:Nat}{x:Met}{c:Addr}(h:Qdp A H H' s b n x c)(B:BAt A H' s b)(hx:s.meters[n]?=some x): CAt A H' s (n+1) x c:=by
 obtain⟨dx,aK,aA,aO,pr,h0,h1,h2,h3,h4,h5,h6,h7,h8⟩:=h;have hm:=QM.meter?_at hx;obtain⟨p,g1,g2,g3⟩:=qr9 B (B.good.met hm);rw[h0] at g1;cases g1;exact⟨B.good,hm,dx,aK,aA,aO,pr.a,pr.dx,pr.aS,h5,h6,h7,h8,g2,g3⟩
def q74(A:Ads): Sp:=fun vs H Q _=>∃ (s:Sta) (b:Qad) (n:Nat) (x:Met) (m:Qaa),vs=[.ref b.a,.ref m.a]/\BAt A H s b/\s.meters[n]?=some x/\b.ms[n]?=some m/\∀ H' c,Kh H H'->Qdp A H H' s b n x c->Q (.ref c) H'
def q8u(A:Ads): Sp:=fun vs H Q _=>∃ (s:Sta) (k:Nat) (x:Met) (m:Qaa),vs=[.ref m.a]/\MAt A H s k x m/\Q (.int (Vbemai.rateOf x)) H
def q70(A:Ads): Sp:=fun vs H Q _=>∃ (s:Sta) (k:Nat) (x:Met) (m:Qaa) (i a b:Nat),vs=[.ref m.a,.int (a:Int),.int (b:Int)]/\MAt A H s k x m/\(QM.kn s k)[i]?=some a/\(QM.kn s k)[i+1]?=some b/\∀ H',Kh H H'->Q (.int (QM.qcj (QM.qa2 s k) x.devices a b)) H'
def q75(A:Ads): Sp:=fun vs H Q _=>∃ (s:Sta) (k:Nat) (x:Met) (m:Qaa) (t:Nat),vs=[.ref m.a,.int (t:Int)]/\MAt A H s k x m/\(∃ y,QM.qd6 x.devices t=some y)/\∀ H' y (d:Qfp),Kh H H'->QM.qd6 x.devices t=some y->H d.a=some (.ins A.CD d.dx (qbe y))->Q (.ref d.a) H'
def q8q(A:Ads): Sp:=fun vs H Q _=>∃ (s:Sta) (k:Nat) (x:Met) (m:Qaa) (y:Dev) (d:Qfp) (t:Nat),vs=[.ref m.a,.ref d.a,.int (t:Int)]/\MAt A H s k x m/\H d.a=some (.ins A.CD d.dx (qbe y))/\(t=y.start\/(∃ v,y.finish=some (t,v))\/∃ v,(QM.qa2 s k).lookup t=some v)/\∀ H',Kh H H'->Q (.int (QM.qcf (QM.qa2 s k) y t)) H'
def q8w(A:Ads): Sp:=fun vs H Q _=>∃ (s:Sta) (k:Nat) (x:Met) (c:Addr) (t:Nat),vs=[.ref c,.int (t:Int)]/\CAt A H s k x c/\t<=10000/\∀ H',Kh H H'->Q (.int (Vbemai.by_ s k t)) H'
def q8y(A:Ads): Sp:=fun vs H Q _=>∃ (s:Sta) (k:Nat) (x:Met) (c:Addr) (i a b t:Nat) (v:Int),vs=[.ref c,.int (i:Int),.int (t:Int)]/\CAt A H s k x c/\(QM.kn s k)[i]?=some a/\(QM.kn s k)[i+1]?=some b/\(QM.am s k)[i]?=some v/\a<=t/\t<=b/\a<b /\
 Q (.int (Vbemai.part (Vbemai.weight (Vbemai.profileOf s x)) a b t v)) H
def q8v(A:Ads): Sp:=fun vs H Q _=>∃ (s:Sta) (k:Nat) (x:Met) (c:Addr) (t u:Nat),vs=[.ref c,.int (t:Int),.int (u:Int)]/\CAt A H s k x c/\t<=10000/\u<=10000/\∀ H',Kh H H'->Q (.int (Vbemai.between s k t u)) H'
def qer(g:Nat×Nat×Int): List V:=[.int (g.1:Int),.int (g.2.1:Int),.int g.2.2]
def q78(A:Ads): Sp:=fun vs H Q _=>∃ (s:Sta) (k:Nat) (x:Met) (c:Addr),vs=[.ref c]/\CAt A H s k x c/\∀ H' l,Kh H H'->H l=none->Qe7 H' l ((Vbemai.gaps (Vbemai.knotsOf s k)).map qer)->Q (.ref l) H'
def q8a(A:Ads): Sp:=fun vs H Q _=>∃ (s:Sta) (k:Nat) (x:Met) (c:Addr) (q:Nat),vs=[.ref c,.int (q:Int)]/\CAt A H s k x c/\Q (.int (Vbemai.status s k q:Int)) H
def qdw(g:Nat×Nat×Nat): List V:=[.int (g.1:Int),.int (g.2.1:Int),.int (g.2.2:Int)]
def q8k(A:Ads): Sp:=fun vs H Q _=>∃ (s:Sta) (k:Nat) (x:Met) (m:Qaa) (a b:Nat),vs=[.ref m.a,.int (a:Int),.int (b:Int)]/\MAt A H s k x m/\∀ H' l,Kh H H'->H l=none->Qe7 H' l ((QM.qa7 b a 0 (QM.toldOf s k)).map qdw)->Q (.ref l) H'
def q79(A:Ads): Sp:=fun vs H Q _=>∃ (s:Sta) (k:Nat) (x:Met) (m:Qaa) (q:Nat),vs=[.ref m.a,.int (q:Int)]/\MAt A H s k x m/\∀ H',Kh H H'->Q (.int (Vbemai.hand s k q:Int)) H'
def q8x(A:Ads): Sp:=fun vs H Q _=>∃ (s:Sta) (b:Qad) (n:Nat) (x:Met) (m:Qaa) (h t u:Nat),vs=[.ref b.a,.ref m.a,.int (h:Int),.int (t:Int),.int (u:Int)]/\BAt A H s b/\s.meters[n]?=some x/\b.ms[n]?=some m/\t<=u/\u<=10000 /\
 ∀ H',Kh H H'->Q (.int (Vbemai.held s (n+1) h t u)) H'
def q8s(A:Ads): Sp:=fun vs H Q _=>∃ (s:Sta) (k:Nat) (x:Met) (m:Qaa),vs=[.ref m.a]/\MAt A H s k x m/\Q (.int (QM.signOf x.kind)) H
def qvb(A:Ads): Sp:=fun vs H Q _=>∃ (s:Sta) (b:Qad) (t u:Nat),vs=[.ref b.a,.int (t:Int),.int (u:Int)]/\BAt A H s b/\t<=u/\u<=10000/\∀ H' l,Kh H H'->H l=none->H' l=some (.lst (vI (Vbemai.netsOf s t u)))->Q (.ref l) H'
def qva(K:PySem.W.Frag): Sp:=fun vs H Q _=>∃ (a:Addr) (ns:List Int),vs=[.ref a]/\SqL K H a (vI ns)/\ns.length<=1000/\∀ H' l,Kh H H'->H l=none->H' l=some (.lst (vI (Vbemai.told ns)))->Q (.ref l) H'
def qvd(A:Ads): Sp:=fun vs H Q _=>∃ (s:Sta) (b:Qad) (kd z h t u:Nat),vs=[.ref b.a,.int (kd:Int),.int (z:Int),.int (h:Int),.int (t:Int),.int (u:Int)]/\BAt A H s b/\t<=u/\u<=10000 /\
 ∀ H',Kh H H'->Q (.int (Vbemai.sumOf (Vbemai.those s fun x=>x.kind==kd&&x.zone==z) fun m=>Vbemai.held s m h t u)) H'
def q8r(A:Ads): Sp:=fun vs H Q _=>∃ (s:Sta) (k:Nat) (x:Met) (m:Qaa) (z:Nat),vs=[.ref m.a,.int (z:Int)]/\MAt A H s k x m/\Q (.int (QM.qf5 x z)) H
def q8o(A:Ads): Sp:=fun vs H Q _=>∃ (s:Sta) (b:Qad) (z t u:Nat),vs=[.ref b.a,.int (z:Int),.int (t:Int),.int (u:Int)]/\BAt A H s b/\t<=10000/\u<=10000/\∀ H',Kh H H'->Q (.int (Vbemai.rest s z t u)) H'
theorem r_d2Kr{σ:St}{H:Hp}{Q:VK}{tb tc:TE}{a:Addr}{kvs:List (Key×V)}(e:Rd H a (.dK kvs))(h:tb σ H fun y H2=>tc σ H2 fun z H3=>qg2 a y z H3 Q): rD2 tb tc σ Q (.ref a) H:=⟨a,rfl,.inl ⟨kvs,e⟩,h⟩
theorem r_d2Ir{H:Hp}{Q:VK}{a:Addr}{kvs:List (Key×V)}{k:Int}{z:V}(e:Rd H a (.dK kvs))(h:Q ((vj kvs (Sum.inl k)).getD z) H): qg2 a (.int k) z H Q:=⟨_,.inl ⟨kvs,Sum.inl k,e,rfl,rfl⟩,h⟩
theorem qwg{t:Nat}{y:Dev}{e:Nat×Int}(ef:y.finish=some e): Vbemai.within t y=(decide (y.start<t)&&decide (t<e.1)):=by unfold Vbemai.within;rw[ef]
theorem q1y(T:Txt P w K mg A): Fn P w K mg base 1 "readable_dial" ["meter","boundary"] (q8n A):=by
 refine T.qz2.go qu2 (fun _ _ _ _ h=>?_) (fun _ _ _ _ _ H _ Q _ hr h=>?_)
 ·obtain⟨st,k,x,m,t,rfl,_⟩:=h;rfl
 ·obtain⟨st,k,x,m,t,rfl,M,q1,q2⟩:=h;refine⟨_,(ko (qdz Ys rfl (qb1 (k9 K kj)) (qak 2 qu2.nd) (qbg (qab (PW.pt (qfi (yb qey (k9 K ku) kr) (qfj (PW.pt (qne (yb qjt (k9 K ku) qdy) (qnf (yb qey kr (k9 K ku)))))))) ku))) (vm qdy)),?_⟩;walk_at "in";refine qe2 (m.ds.map fun d=>.ref d.a) (fun i σ H'=>H'=H/\(x.devices.take i).find? (Vbemai.within t)=none/\∃ v,σ=[some (.ref m.a),some (.int (t:Int)),v]) ⟨rfl,rfl,none,rfl⟩ (fun i σ H' ⟨e,_⟩=>by rw[e];exact SqL.of M.oD) ?_ ?_
  ·rintro σ H' ⟨rfl,h2,v,rfl⟩;walk_at "";refine q1 ?_;rw[Jd,M.rel.dl,Xh] at h2;exact h2
  ·rintro i σ H' v hv ⟨rfl,h2,v',rfl⟩;rw[Jt] at hv;cases hd:m.ds[i]? with
   |none=>rw[hd] at hv;cases hv
   | some d=>
     rw[hd] at hv;obtain rfl:V.ref d.a=v:=Jj hv;have hi:i<x.devices.length:=by rw[<- M.rel.dl];exact(Ji.mp hd).1
     have hy:x.devices[i]?=some x.devices[i]:=Jo hi;generalize x.devices[i]=y at hy;have ho:=M.qh5 hd hy;have hk:∀ c:Bool,Vbemai.within t y=c->(x.devices.take (i+1)).find? (Vbemai.within t)=if c=true then some y else none:=fun c hc=>by
      rw[Xq,hy,List.find?_append,h2];simp only[Option.toList,Yg,List.find?_nil,hc];cases c<;>rfl
     have hno:Vbemai.within t y=false->(H'=H'/\(x.devices.take (i+1)).find? (Vbemai.within t)=none/\∃ v,[some (V.ref m.a),some (V.int (t:Int)),some (V.ref d.a)]=[some (V.ref m.a),some (V.int (t:Int)),v]):=fun hc=>⟨rfl,hk false hc,_,rfl⟩
     have hyes:Vbemai.within t y=true->Q (.ref d.a) H':=fun hc=>by
      refine q2 i y d ?_ hy hd;have e:=hk true hc;rw[<- List.take_append_drop (i+1) x.devices,List.find?_append,e];rfl
     walk_at "";refine ifD (fun c1=>?_) (fun c1=>?_)
     ·walk_at "";refine⟨rfl,?_⟩;walk_at "";refine ifB (fun c2=>?_) (fun c2=>?_)
      ·refine qax ?_;walk_at "";refine hyes ?_;unfold Vbemai.within;have e:y.finish=none:=by unfold eB at c2;cases ef:y.finish with
        |none=>rfl
        |some e=>rw[ef] at c2;cases c2
       rw[e,Xm (show y.start<t by omega)];rfl
      ·cases ef:y.finish with
       |none=>unfold eB at c2;rw[ef] at c2;cases c2
       | some e=>
         walk_at "";have e2:eB y = .int (e.1:Int):=by unfold eB;rw[ef]
         rw[e2];walk_at "";refine ifD (fun c3=>?_) (fun c3=>?_)
         ·walk_at "";refine hyes ?_;rw[qwg ef,Xm (show y.start<t by omega),Xm (show t<e.1 by omega)];rfl
         ·walk_at "";refine hno ?_;rw[qwg ef,J7 (show ¬ t<e.1 by omega),Qw]
     ·refine qa3 ?_;walk_at "";refine hno ?_;unfold Vbemai.within;rw[J7 (show ¬ y.start<t by omega)];rfl
theorem ql8(T:Txt P w K mg A): Fn P w K mg base 1 "standing_reading" ["meter","boundary"] (qvc A):=by
 refine T.q0c.go qnw (fun _ _ _ _ h=>?_) (fun _ _ _ _ _ H _ Q _ hr h=>?_)
 ·obtain⟨st,k,x,m,t,rfl,_⟩:=h;rfl
 ·obtain⟨st,k,x,m,t,rfl,R,q⟩:=h;have hu:=qan hr;refine⟨_,(ko (vt 2 qnw.nd (qjw hu (k9 K kj) kr qgv ⟨rfl,rfl,rfl,rfl⟩)) (ko (qab (yb qbf (x_len T.qbd ku) vh) qdy) (ko (vt 3 qnw.nd (qed (qya rfl) rfl T.b_max QP.boot_max (vd ku))) (ko (qab (yb qbf (vq hu ku ya) (vf T.qxs)) qdy) (vm (qgw (k6 ya (vq hu ku ya)))))))),?_⟩;walk_at "in";refine qfz R.o T.clM T.qh4 rfl ?_;refine r_d2Kr R.oR ?_;walk_at "";refine qgl fun p hp=>?_;have s1:=Kh.new (o:=.dK []) hp;have R1:=R.same s1;refine r_d2Ir R1.oR ?_;rcases qg4 t m.rd with ⟨e,he,rfl,hv,hl⟩|⟨hv,hl,hn⟩
  ·rw[hv];have hver:=R1.ver e he;have hve:QM.qa5 (m.rd.map fun e=>(e.t,e.vs)) e.t=e.vs:=by unfold QM.qa5;rw[hl];rfl
   have hne:e.vs≠[]:=R.rel.rd.ne (e.t,e.vs) (Jk.mpr ⟨e,he,rfl⟩);have hpos:0<e.vs.length:=Ub.mpr hne;walk_at "";refine qbb (lenK hver) ?_;walk_at "";refine ifD (fun c=>?_) (fun _=>?_)
   ·exfalso;have:(vsK e.vs).length=e.vs.length:=Jd ..;omega
   walk_at "";refine⟨e.a,vsK e.vs,wts (e.vs.map (·.1)),rfl,hver,qwa _,by rw[qku,Jd];exact hpos,fun mx h1 h2=>?_⟩;obtain⟨n,hn,rfl⟩:=qrh h1;obtain⟨r,hr1,hr2,hr3⟩:=QM.q9t R.rel.rd (QM.qg5 R.good k) (t:=e.t) (m:=n) (by rw[hve];exact hn) (fun j hj=>by
    rw[hve] at hj;have:=h2 (j:Int) (Jk.mpr ⟨j,hj,rfl⟩);omega)
   rw[hve] at hr3;have hg:vj (vsK e.vs) (Sum.inl (n:Int))=some (.int r.value):=by rw[qof,hr3];rfl
   have hro : -1<=r.value:=by
    have hmem:r∈Vbemai.readingsOf st k:=(J2.mp (Zg hr1)).1;exact(R.good.ro r (J2.mp hmem).1).v0
   have hst:QM.qcc st k e.t=if r.value<0 then none else some (n,r.value):=by
    unfold QM.qcc;rw[hr1];show (if r.value<0 then none else some (r.version,r.value))=_;rw[hr2]
   walk_at "";refine qif hver hg ?_;walk_at "";refine ifD (fun c=>?_) (fun c=>?_)
   ·walk_at "";refine(q _ s1).1 ?_;rw[hst,Je (by omega)]
   ·walk_at "";refine qif hver hg ?_;walk_at "";intro a ha;exact(q _ (Kh.upd s1 (s1.free ha))).2 (n,r.value) a (by rw[hst,Jc (by omega)]) (s1.free ha) kq
  ·rw[hv];have hve:QM.qa5 (m.rd.map fun e=>(e.t,e.vs)) t=[]:=by unfold QM.qa5;rw[hl];rfl
   have hat:=(QM.qv9 R.rel.rd t).mp hve;walk_at "";refine qbb (lenK (kvs:=[]) kq) ?_;walk_at "";refine(q _ s1).1 ?_;unfold QM.qcc;rw[hat];rfl
theorem qmz:∀ (N:Nat) {l:List Nat},l.Nodup->(∀ x∈l,x<N)->l.length<=N
 | 0,l,_,h=>by
   cases l with
   |nil=>exact Jp _
   |cons a r=>exact absurd (h a (Jh ..)) (Nat.not_lt_zero _)
 | N+1,l,hn,h=>by
   by_cases hm:N∈l
   ·have h1:=qmz N (hn.erase N) fun x hx=>by
     have:=(hn.mem_erase_iff).mp hx;have h2:=h x this.2;have:=this.1;omega
    rw[List.length_erase_of_mem hm] at h1;omega
   ·have h1:=qmz N hn fun x hx=>by
     have h2:=h x hx;have:x≠N:=by intro q;subst q;exact hm hx
     omega
    omega
section
variable {H:Hp} {s:Sta} {k:Nat} {x:Met} {m:Qaa}
theorem qih(G:QM.Good s)(R:Qda s k x m): m.rd.length<=10001:=by
 have h:=qmz 10001 R.rd.nd fun t ht=>by
  obtain⟨r,hr,rfl⟩:=(QM.qjj R.rd t).mp ht;have:=(G.ro r (J2.mp hr).1).tb;omega
 rw[Jd,Jd] at h;exact h
theorem vs_len(G:QM.Good s)(R:Qda s k x m){e:Qdc}(he:e∈m.rd): e.vs.length<=256:=by
 have h1:QM.qa5 (m.rd.map fun e=>(e.t,e.vs)) e.t=e.vs:=by
  unfold QM.qa5;have:=(QM.lookup_mem R.rd.nd).mpr (Jk.mpr ⟨e,he,rfl⟩:(e.t,e.vs)∈m.rd.map fun e=>(e.t,e.vs));rw[this];rfl
 have h2:=(R.rd.rel e.t).length_eq;rw[h1,Jd] at h2;have h3:(QM.atT e.t (Vbemai.readingsOf s k)).length<=(Vbemai.readingsOf s k).length:=Xp ..;have h4:(Vbemai.readingsOf s k).length<=s.readings.length:=Xp ..;have:=G.rl;omega
theorem qvz(G:QM.Good s)(R:Qda s k x m): m.tl.length<=64:=by
 have h1:=R.tl.length_eq;have h2:(QM.toldOf s k).length<=s.assigns.length:=by
  unfold QM.toldOf;rw[Jd];exact Xp ..
 have:=G.al;omega
end
theorem small(n:Nat){m:Nat}(h:m<=n)(hn:n<sizeLine:=by decide): m<sizeLine:=Wu h hn
theorem qsk{rd:List Qdc}{i:Nat}{k:Key}{v:V}(h:(rdK rd)[i]?=some (k,v)): ∃ e,rd[i]?=some e/\k=Sum.inl (e.t:Int)/\v = .ref e.a:=by
 unfold rdK at h;rw[Jt] at h;cases q:rd[i]? with
 |none=>rw[q] at h;cases h
 |some e=>rw[q] at h;cases h;exact⟨e,rfl,rfl,rfl⟩
theorem q1l(T:Txt P w K mg A): Fn P w K mg base 1 "has_reading_from" ["meter","boundary"] (qu7 A):=by
 refine T.qze.go qnr (fun _ _ _ _ h=>?_) (fun _ _ _ _ _ H _ Q _ hr h=>?_)
 ·obtain⟨st,k,x,m,t,rfl,_⟩:=h;rfl
 ·obtain⟨st,k,x,m,t,rfl,M,q⟩:=h;have hu:=qan hr;refine⟨_,(vm (qed (cr_any rfl) rfl T.b_any QP.boot_any (vd (qm7 (qdx rfl qnr.nd (own:=[("read_at",2)]) (qr4 (k9 K kj)) (by walk_at "bk") (fun _ _ _ _ _=>(qak 2 qnr.nd)) (fun _ _ _ _ _=>qez) (fun _ _ _ _ _=>(qga qeb ku kr))))))),?_⟩;walk_at "in";refine⟨m.aR,_,M.oR,True.intro,fun od=>?_⟩;have hl:=M.lockR od;have e0:upd H m.aR (.frz od (.dK (rdK m.rd))) m.aR=some (.frz od (.dK (rdK m.rd))):=kq;walk_at "";refine qfz hl.o T.clM T.qh4 rfl ?_;refine r_ik e0 ?_;refine qfl m.rd.length (fun i=>((m.rd.take i).map fun e=>decide (t<=e.t)).map V.bl) rfl (fun i H' hi s2=>⟨s2 _ _ e0,by rw[rdK,Jd];exact hi⟩) (fun H' s2=>⟨s2 _ _ e0,by rw[rdK,Jd];exact Jp _⟩) ?_ ?_
  ·rintro D i H1 v H' hi p ⟨rfl,kk,vv,h1,rfl⟩;obtain⟨e,he,rfl,_⟩:=qsk h1;dsimp only[kV];walk_at "";refine⟨rfl,?_⟩;walk_at "";refine qax ?_;walk_at "";refine p.yes (small 10001 (by have:=qih M.good M.rel;omega)) (Kh.refl _) ?_
   ·show List.map V.bl (List.map _ (m.rd.take (i+1)))=_;rw[Xq,he];simp only[Jv,Option.toList,Jq,Zv];congr 3;exact Yt.mpr (by omega)
  ·intro D H' hD s2 hD2;obtain⟨s3,hD3,hD4,hd⟩:=qmq M.oR s2 hD hD2;refine⟨hd,?_⟩;walk_at "";refine⟨D,_,rfl,SqL.of hD4,?_⟩;have e:=QM.qwn st k t M.rel.rd;rw[Xh];have e2:((m.rd.map fun e=>decide (t<=e.t)).any id)=(Vbemai.readingsOf st k).any fun r=>decide (t<=r.at_):=by
    rw[e,Xy,List.any_map,List.any_map];rfl
   rw[e2];exact q _ s3
theorem MAt.dial{H:Hp}{s:Sta}{k:Nat}{x:Met}{m:Qaa}(M:MAt A H s k x m){i:Nat}{v:V}(hv:(m.ds.map fun d=>V.ref d.a)[i]?=some v): ∃ d y,m.ds[i]?=some d/\x.devices[i]?=some y/\v = .ref d.a/\H d.a=some (.ins A.CD d.dx (qbe y)):=by
 rw[Jt] at hv;cases hd:m.ds[i]? with
 |none=>rw[hd] at hv;cases hv
 | some d=>
   rw[hd] at hv;have hi:i<x.devices.length:=by rw[<- M.rel.dl];exact(Ji.mp hd).1
   have hy:x.devices[i]?=some x.devices[i]:=Jo hi;exact⟨d,_,rfl,hy,(Jj hv).symm,M.qh5 hd hy⟩
theorem zar{α:Type}(f:α->Nat){l:List α}{i:Nat}{y:α}(h:l[i]?=some y): vN ((l.take (i+1)).map f)=vN ((l.take i).map f)++[.int (f y:Int)]:=by
 rw[Xq,h];simp[vN]
theorem qgh{α:Type}(p:α->Bool){l:List α}{i:Nat}{y:α}(h:l[i]?=some y)(hp:p y=true): (l.take (i+1)).filter p=(l.take i).filter p++[y]:=by
 rw[Xq,h,Z5];simp[hp]
theorem qgg{α:Type}(p:α->Bool){l:List α}{i:Nat}{y:α}(h:l[i]?=some y)(hp:p y=false): (l.take (i+1)).filter p=(l.take i).filter p:=by
 rw[Xq,h,Z5];simp[hp]
theorem qiv(a b:List Nat): vN (a++b)=vN a++vN b:=Jv
theorem dl8{H:Hp}{s:Sta}{k:Nat}{x:Met}{m:Qaa}(M:MAt A H s k x m): x.devices.length<=8:=(M.good.met M.hx).dl
theorem qp1(T:Txt P w K mg A): Fn P w K mg base 3 "knots_of" ["meter"] (q8g A):=by
 refine T.qzn.go qil (fun _ _ _ _ h=>?_) (fun _ _ _ _ _ H _ Q _ hr h=>?_)
 ·obtain⟨st,k,x,m,rfl,_⟩:=h;rfl
 ·obtain⟨st,k,x,m,rfl,M,q⟩:=h;have hu:=qan hr;refine⟨_,(ko (qgz (i:=1) rfl qil.nd rfl rfl (by exact qhe rfl rfl rfl rfl) (own:=[("dial",2)]) (qb1 (k9 K kj)) (by walk_at "bk") (fun _ _ _ _ _=>(qak 2 qil.nd)) (fun _ _ _ _ _=>qez) (fun _ _ _ _ _=>(k9 K ku))) (ko (qb5 (qce Xe Wl Wm qjp kr (vd (qm7 (qdx rfl qil.nd (own:=[("boundary",3)]) (qr4 (k9 K kj)) (by walk_at "bk") (fun _ _ _ _ _=>(qak 3 qil.nd)) (fun _ _ _ _ _=>(qfh (yb qrx (k8 (ql8 T) hr (k6 kj ya)) qdy))) (fun _ _ _ _ _=>ya)))))) (ko (qgy (qef (k8 (qhv T) hr (vd kj))) (qbg (qb5 (qce Xe Xv Xw qdk kr (vd (k9 K (k8 (qgi T) hr (vd kj))))))) qg0) (vm (qed (qyb) rfl T.qk5 QP.boot_sorted (vd kr)))))),?_⟩;walk_at "in";refine qeh (SqL.of M.oD) (fun i=>vN ((x.devices.take i).map (·.start))) rfl ?_ ?_
  ·intro D i H1 v hv p;obtain⟨d,y,hd,hy,rfl,ho⟩:=M.dial hv;have ho:=p.same _ _ ho;have hi:=(Ji.mp hy).1;walk_at "";refine⟨rfl,?_⟩;walk_at "";refine qax ?_;walk_at "";exact p.yes (small 8 (by have:=dl8 M;omega)) (Kh.refl _) (zar _ hy)
  ·intro L H1 hL s1 hL1;rw[Jd,M.rel.dl,Xh] at hL1;have M1:=M.same s1;walk_at "";refine⟨m.aR,_,M1.oR,True.intro,fun od=>?_⟩;have hl:=M1.lockR od;have e0:upd H1 m.aR (.frz od (.dK (rdK m.rd))) m.aR=some (.frz od (.dK (rdK m.rd))):=kq;walk_at "";refine qfz hl.o T.clM T.qh4 rfl ?_;refine r_ik e0 ?_;refine qfl m.rd.length (fun i=>vN (((m.rd.take i).map (·.t)).filter fun t=>(QM.qcc st k t).isSome)) rfl (fun i H' hi s2=>⟨s2 _ _ e0,by rw[rdK,Jd];exact hi⟩) (fun H' s2=>⟨s2 _ _ e0,by rw[rdK,Jd];exact Jp _⟩) ?_ ?_
   ·rintro D i H2 v H2' hi p ⟨rfl,kk,vv,h1,rfl⟩;obtain⟨e,he,rfl,_⟩:=qsk h1;dsimp only[kV];have R2:=hl.same p.same;have het:(m.rd.map (·.t))[i]?=some e.t:=by rw[Jt,he];rfl
    walk_at "";refine⟨rfl,?_⟩;walk_at "";refine⟨st,k,x,m,e.t,rfl,R2,fun H3 s3=>⟨fun hn=>?_,fun pr a hp ha ha2=>?_⟩⟩
    ·walk_at "";refine⟨rfl,?_⟩;walk_at "";refine qa3 (p.no s3 ?_);show vN (((m.rd.take (i+1)).map (·.t)).filter _)=_;rw[Ua,Ua,qgg _ het (by rw[hn];rfl)]
    ·walk_at "";refine⟨rfl,?_⟩;walk_at "";refine qax ?_;walk_at "";refine p.yes (small 10001 (by have:=qih M.good M.rel;omega)) s3 ?_;show vN (((m.rd.take (i+1)).map (·.t)).filter _)=_;rw[Ua,Ua,qgh _ het (by rw[hp];rfl),qiv];rfl
   ·intro D H2 hD s2 hD2;obtain⟨s3,hD3,hD4,hd⟩:=qmq M1.oR s2 hD hD2;rw[Xh] at hD4;refine⟨hd,?_⟩;have s4:=s1.trans s3;have hL3:=s3 _ _ hL1;have M3:=M1.same s3;generalize upd H2 m.aR (.dK (rdK m.rd))=H3 at *
    walk_at "";refine qj1 hL3 hD4 ?_ ?_
    ·have h1:=dl8 M;have h2:=qih M.good M.rel;have h3:(((m.rd.map (·.t)).filter fun t=>(QM.qcc st k t).isSome)).length<=(m.rd.map (·.t)).length:=Xp ..;rw[Jd] at h3;rw[qct,qct,Jd];exact Xj (small 10009 (by omega))
    rw[<- qiv];have hlen:(x.devices.map (·.start)++(m.rd.map (·.t)).filter fun t=>(QM.qcc st k t).isSome).length<=10009:=by
     have h1:=dl8 M;have h2:=qih M.good M.rel;have h3:(((m.rd.map (·.t)).filter fun t=>(QM.qcc st k t).isSome)).length<=(m.rd.map (·.t)).length:=Xp ..;rw[Jd] at h3;rw[Jx,Jd];omega
    have hP:(x.devices.map (·.start)++((m.rd.map (·.t)).filter fun t=>(QM.qcc st k t).isSome)++((QM.endOf x.devices).map (·.1)).toList).Perm (QM.kn st k):=by
     have h:=QM.q3d M.rel.rd (QM.qg5 M.good k) (M.good.met M.hx).chain (QM.qsl M.good M.hx);rw[QM.qgp M.hx];have e1:(m.rd.map fun e=>(e.t,e.vs)).map (·.1)=m.rd.map (·.t):=by rw[Xy];rfl
     have e2:(fun t=>((Vbemai.standing (Vbemai.readingsOf st k)).lookup t).isSome)=fun t=>(QM.qcc st k t).isSome:=by
      funext t;have:=QM.qvg M.good k t;unfold QM.qa2 at this;rw[this];cases QM.qcc st k t<;>rfl
     rw[e1,e2] at h;exact h
    have hInc:=QM.qfx M.good M.hx;generalize (x.devices.map (·.start)++(m.rd.map (·.t)).filter fun t=>(QM.qcc st k t).isSome)=pre at hlen hP ⊢;have fin:∀ (H4:Hp) (l:List Nat),Kh H H4->H4 L=some (.lst (vN l))->l.Perm (QM.kn st k)->∀ Q',(∀ H' l,Kh H H'->H l=none->H' l=some (.lst (vN (QM.kn st k)))->Q' (.ref l) H')->qsj K [.ref L] H4 Q':=by
     intro H4 l hs hL4 hp Q' q';refine⟨L,wts l,rfl,?_,fun ns' p h1 h2 h3=>?_⟩
     ·exact SqL.of (by rw[hL4];exact Yk (fun z=>some (HO.lst z)) (qiu l).symm)
     ·obtain⟨l',rfl,hp'⟩:=qna h1;have e:=qn0 (qol h2) (hp'.trans hp) hInc;subst e;refine q' _ p (Kh.upd hs (hs.free h3)) (hs.free h3) ?_;rw[kq];exact Yk (fun z=>some (HO.lst z)) (qiu _)
    have hu5:∀ v,Kh H (upd H3 L v):=fun v=>Kh.upd s4 hL;walk_at "";have M5:MAt A (upd H3 L (.lst (vN pre))) st k x m:=M.same (hu5 _);refine⟨st,k,x,m,rfl,M5,?_⟩;walk_at "";refine ifB (fun ho=>?_) (fun ho=>?_)
    ·walk_at "";refine⟨st,k,x,m,rfl,M5,fun d y h1 h2 h3=>?_⟩;walk_at "";refine qc5 kq (by rw[qct];exact small 10009 hlen) ?_;walk_at "";rw[qgm h2] at ho;obtain⟨e,he⟩:=Up.mp ho;have e1:eB y = .int (e.1:Int):=by unfold eB;rw[he]
     have e2:QM.endOf x.devices=some e:=by unfold QM.endOf;rw[h2];exact he
     rw[qbt,e1];rw[e2] at hP;refine fin _ (pre++[e.1]) (hu5 _) ?_ hP _ q;rw[kq,qiv];rfl
    ·walk_at "";have e2:QM.endOf x.devices=none:=by
      obtain⟨d,y,h1,h2,h3⟩:=M.last;rw[qgm h2] at ho;unfold QM.endOf;rw[h2];show y.finish=none;cases hy:y.finish with
      |none=>rfl
      |some e=>rw[hy] at ho;cases ho
     rw[e2] at hP;refine fin _ pre (hu5 _) kq (by simpa using hP) _ q
theorem q0u(l:List Nat): (vN l).all qep=true:=by
 rw[Wi];intro v hv;obtain⟨n,_,rfl⟩:=Jk.mp hv;rfl
theorem inV_vN(t:Nat)(l:List Nat): inV (.int (t:Int)) (vN l)=l.contains t:=by
 rw[Zm,List.contains_iff_mem];unfold inV vN;rw[Y9];constructor
 ·rintro ⟨v,hv,e⟩;obtain⟨n,hn,rfl⟩:=Jk.mp hv;have e:((n:Int)==(t:Int))=true:=e;have e:(n:Int)=t:=by simpa using e
  have:n=t:=by omega
  subst this;exact hn
 ·intro h;refine⟨_,Jk.mpr ⟨t,h,rfl⟩,?_⟩;show ((t:Int)==(t:Int))=true;simp
theorem qnj{H:Hp}{Q:VK}{l:Addr}{ns:List Nat}{t:Nat}(e:H l=some (.lst (vN ns)))(q:Q (.bl (ns.contains t)) H): rIn K false (.int (t:Int)) (.ref l) H Q:=
 ⟨l,vN ns,rfl,.inl (SqL.of e),rfl,q0u ns,by rw[Jc (by simp),inV_vN];exact q⟩
theorem qml{s:Sta}{k:Nat}{x:Met}(G:QM.Good s)(hm:Vbemai.meter? s k=some x): ∃ a b,(QM.kn s k).head?=some a/\(QM.kn s k).getLast?=some b:=by
 have h:=QM.qjl G hm;exact⟨_,_,List.head?_eq_some_head h,List.getLast?_eq_some_getLast h⟩
theorem q1r(T:Txt P w K mg A):
  Fn P w K mg base 4 "is_unread" ["meter","boundary"] (q8e A):=by
 refine T.qzl.go quz (fun _ _ _ _ h=>?_) (fun _ _ _ _ _ H _ Q _ hr h=>?_)
 ·obtain⟨st,k,x,m,t,rfl,_⟩:=h;rfl
 ·obtain⟨st,k,x,m,t,rfl,M,q⟩:=h;refine⟨_,(ko (vt 2 quz.nd (k8 (qp1 T) hr (vd kj))) (ko (qab (PW.pt (qne (yb qeb (qa1 K ku vh) kr) (qnf (qjy qm1 kr ku (by with_unfolding_all rfl))))) pe_bl) (vm (pe_not (qm6 (k8 (qhv T) hr (vd kj)) (qm8 (qga qey (qa1 K ku (qee qek vh)) kr))))))),?_⟩;walk_at "in";refine⟨st,k,x,m,rfl,M,fun H1 l s1 hl hl1=>?_⟩;have M1:=M.same s1;obtain⟨a,b,ha,hb⟩:=qml M.good M.hx;have ea:(QM.kn st k).headD 0=a:=by rw[List.headD_eq_head?_getD,ha];rfl
  have eb:(QM.kn st k).getLastD 0=b:=by rw[List.getLastD_eq_getLast?,hb];rfl
  have q:=q H1 s1;unfold QM.qf7 at q;rw[ea,eb] at q;walk_at "";refine qat (SqL.of hl1) (qk1 ha) ?_;walk_at "";refine ifD (fun c=>?_) (fun c=>?_)
  ·refine qax ?_;walk_at "";rw[J7 (by omega)] at q;exact q
  ·walk_at "";refine qnj hl1 ?_;rw[Xm (show a<t by omega)] at q;walk_at "";refine ifB (fun c2=>?_) (fun c2=>?_)
   ·walk_at "";rw[c2] at q;exact q
   ·rw[c2] at q;walk_at "";refine⟨st,k,x,m,rfl,M1,?_⟩;walk_at "";refine ifB (fun c3=>?_) (fun c3=>?_)
    ·rw[c3] at q;walk_at "";refine qat (SqL.of hl1) (qk3 hb) ?_;walk_at "";have e:decide ((b:Int)<(t:Int))=decide (b<t):=Yt.mpr (by omega);rw[e];exact q
    ·rw[c3] at q;walk_at "";exact q
theorem qx7(T:Txt P w K mg A): Cn P w K mg base 2 "Dial" A.CD ["self","boundary","value","digits","factor"] (q7w A):=by
 refine T.d_Dial.cn q6r (fun _ _ _ _ _ _ us hl=>match us,hl with|[_,_,_,_,_],_=>rfl) (fun vs H Q E h=>?_) (fun f cdv Ar outer s H vs Q E hr h=>?_)
 ·obtain⟨p,dx,y,rfl,_⟩:=h;rfl
 ·obtain⟨p,dx,y,rfl,hf,hd,hp,q⟩:=h;refine⟨_,(ko (qaq kj kr rfl) (ko (qaq kj ku rfl) (ko (qaq kj (k8 (ql7 T) hr (vd ya)) rfl) (ko (qaq kj qa0 rfl) (ko (qaq kj qdy rfl) (qbg (qaq kj qdy rfl))))))),?_⟩;walk_at "in";refine⟨y.digits,rfl,hd,?_⟩;walk_at "";rw[qbt,qbt,qbt,qbt,qbt];have e:qbe y=([("start_boundary",.int (y.start:Int)),("start_value",.int y.value),("size",.int (10 ^ y.digits)),("factor",.int y.factor),("end_boundary",.non),("end_value",.non)]:List (Str×V)):=by
   unfold qbe eB eV;rw[hf]
  rw[e] at q;exact q
theorem qpg(T:Txt P w K mg A): Cn P w K mg base 2 "Profile" A.CP ["self","weights"] (q7y A K):=by
 refine T.qyh.cn q6t (fun _ _ _ _ _ _ us hl=>match us,hl with|[_,_],_=>rfl) (fun vs H Q E h=>?_) (fun f cdv Ar outer s H vs Q E hr h=>?_)
 ·obtain⟨p,dx,a,ns,rfl,_⟩:=h;rfl
 ·obtain⟨p,dx,a,ns,rfl,hp,ha,hn,q⟩:=h;refine⟨_,(qbg (qaq kj (k8 (qp4 T) hr (vd kr)) rfl)),?_⟩;walk_at "in";refine⟨a,ns,rfl,ha,hn,fun H1 l s1 hl hl1=>?_⟩;have hp1:=s1 _ _ hp;walk_at "";refine q _ l (But.upd ((But.refl p H).same s1)) hl kq ?_;rw[qc (vz hp hl).symm];exact hl1
theorem qx6(T:Txt P w K mg A): Cn P w K mg base 2 "Course" A.CC ["self","knots","amounts","profile","tail","removed"] (q7v A K):=by
 refine T.qyf.cn q6q (fun _ _ _ _ _ _ us hl=>match us,hl with|[_,_,_,_,_,_],_=>rfl) (fun vs H Q E h=>?_) (fun f cdv Ar outer s H vs Q E hr h=>?_)
 ·obtain⟨c,dx,aK,aA,p,ns,tl,rm,rfl,_⟩:=h;rfl
 ·obtain⟨c,dx,aK,aA,p,ns,tl,rm,rfl,hc,ha,hn,q⟩:=h;refine⟨_,(ko (qaq kj kr rfl) (ko (qaq kj ku rfl) (ko (qaq kj (k8 (qp4 T) hr (vd ku)) rfl) (ko (qaq kj ya rfl) (ko (qaq kj qa0 rfl) (qbg (qaq kj qb6 rfl))))))),?_⟩;walk_at "in";have hne:aA≠c:=qay ha hc (by intro q;cases q);refine⟨aA,ns,rfl,SqL.of (by rw[qc hne,qc hne];exact ha),hn,fun H1 l s1 hl hl1=>?_⟩;have hc1:=s1 _ _ kq;have hlc:l≠c:=by intro e;subst e;rw[kq] at hl;cases hl
  rw[qc hlc,qc hlc] at hl;walk_at "";rw[qbt,qbt,qbt];refine q _ l (But.upd (((But.refl c H).upd.upd).same s1)) hl kq ?_;rw[qc hlc];exact hl1
theorem qx8(T:Txt P w K mg A): Cn P w K mg base 1 "Meter" A.CM ["self","kind","zone","second","profile","rate","dial"] (q7x A):=by
 refine T.qyg.cn q6s (fun _ _ _ _ _ _ us hl=>match us,hl with|[_,_,_,_,_,_,_],_=>rfl) (fun vs H Q E h=>?_) (fun f cdv Ar outer s H vs Q E hr h=>?_)
 ·obtain⟨p,dx,d,x,rfl,_⟩:=h;rfl
 ·obtain⟨p,dx,d,x,rfl,hp,q⟩:=h;refine⟨_,(ko (qaq kj kr rfl) (ko (qaq kj ku rfl) (ko (qaq kj ya rfl) (ko (qaq kj qa0 rfl) (ko (qaq kj qb6 rfl) (ko (qaq kj (qah (vd qcs)) rfl) (ko (qaq kj qgv rfl) (qbg (qaq kj qgv rfl))))))))),?_⟩;walk_at "in";rw[qbt,qbt,qbt,qbt];intro aD hD;have n1:aD≠p:=by intro e;subst e;rw[kq] at hD;cases hD
  rw[qc n1] at hD;walk_at "";refine qf0 (by rw[qc n1.symm];exact kq) T.clM T.qrl (by (repeat with_reducible refine' pf1 ?_);exact Wk _) ?_;walk_at "";refine qgl fun aR hR=>?_;have n2:aR≠p:=by intro e;subst e;rw[kq] at hR;cases hR
  rw[qc n2] at hR;have n3:aR≠aD:=by intro e;subst e;rw[kq] at hR;cases hR
  rw[qc n3,qc n2] at hR;walk_at "";refine qf0 (by rw[qc n2.symm];exact kq) T.clM T.qh4 (by (repeat with_reducible refine' pf1 ?_);exact Wk _) ?_;walk_at "";refine qgl fun aT hT=>?_;have n4:aT≠p:=by intro e;subst e;rw[kq] at hT;cases hT
  rw[qc n4] at hT;have n5:aT≠aR:=by intro e;subst e;rw[kq] at hT;cases hT
  rw[qc n5,qc n4] at hT;have n6:aT≠aD:=by intro e;subst e;rw[kq] at hT;cases hT
  rw[qc n6,qc n4] at hT;walk_at "";refine qf0 (by rw[qc n4.symm];exact kq) T.clM T.qrm (by (repeat with_reducible refine' pf1 ?_);exact Wk _) ?_;refine q _ aD aR aT ((((((((But.refl p H).upd.new hD).upd).new hR).upd).new hT).upd)) hD hR hT n3.symm n6.symm n5.symm kq ?_ ?_ ?_
  ·rw[qc n1,qc n6.symm,qc n1,qc n3.symm,qc n1,kq]
  ·rw[qc n2,qc n5.symm,qc n2,kq]
  ·rw[qc n4,kq]
theorem qx5(T:Txt P w K mg A): Cn P w K mg base 4 "Book" A.CB ["self"] (q7u A):=by
 refine T.d_Book.cn q6p (fun _ _ _ _ _ _ us hl=>match us,hl with|[_],_=>rfl) (fun vs H Q E h=>?_) (fun f cdv Ar outer s H vs Q E hr h=>?_)
 ·obtain⟨p,dx,rfl,_⟩:=h;rfl
 ·obtain⟨p,dx,rfl,hp,q⟩:=h;refine⟨_,(ko (qaq kj (qah (vd (qia (qpg T) hr (vd (qah (vd vh)))))) rfl) (ko (qaq kj (qah qh7) rfl) (ko (qaq kj vh rfl) (ko (qaq kj vh rfl) (ko (qaq kj vh rfl) (qbg (qaq kj q5e rfl))))))),?_⟩;walk_at "in";intro a1 ha1;walk_at "";intro x xd hx hxd hxx;have n0:x≠p:=by intro e;subst e;rw[qc (vz hp ha1)] at hx;rw[hp] at hx;cases hx
  have n0':xd≠p:=by intro e;subst e;rw[qc (vz hp ha1)] at hxd;rw[hp] at hxd;cases hxd
  have nx1:a1≠x:=by intro e;subst e;rw[kq] at hx;cases hx
  have nx2:a1≠xd:=by intro e;subst e;rw[kq] at hxd;cases hxd
  refine⟨x,xd,a1,[1],rfl,kq,SqL.of (by rw[qc nx1,qc nx2];exact kq),qa8 (by simp),fun H3 aS b3 haS hx3 hS3=>⟨rfl,?_⟩⟩;have nS:aS≠x:=by intro e;subst e;rw[kq] at haS;cases haS
  rw[qc nS] at haS;have nS2:aS≠xd:=by intro e;subst e;rw[kq] at haS;cases haS
  rw[qc nS2] at haS;have nS1:aS≠a1:=by intro e;subst e;rw[kq] at haS;cases haS
  have nSp:aS≠p:=by intro e;subst e;rw[qc nS1] at haS;rw[hp] at haS;cases haS
  have hp3:H3 p=some (.ins A.CB dx []):=b3 p _ n0.symm (by rw[qc n0.symm,qc n0'.symm,qc (vz hp ha1)];exact hp);have hxH:H x=none:=by rw[qc nx1.symm] at hx;exact hx
  have B3:But p H H3:=fun b o hb e=>b3 b o (vz e hxH) (by
   rw[qc (vz e hxH),qc,qc (vz e ha1)]
   ·exact e
   ·intro z;subst z;rw[qc (vz e ha1)] at hxd;rw[e] at hxd;cases hxd)
  have hSH:H aS=none:=by rw[qc nS1] at haS;exact haS
  clear b3 haS hx hxd;walk_at "";intro aP haP;have m1:aP≠p:=by intro e;subst e;rw[hp3] at haP;cases haP
  have m2:aP≠x:=by intro e;subst e;rw[hx3] at haP;cases haP
  have m3:aP≠aS:=by intro e;subst e;rw[hS3] at haP;cases haP
  walk_at "";refine qf0 (by rw[qc m1.symm];exact hp3) T.clB T.qmw (by simp) ?_;walk_at "";intro aM haM;have k1:aM≠p:=by intro e;subst e;rw[kq] at haM;cases haM
  rw[qc k1] at haM;have k2:aM≠aP:=by intro e;subst e;rw[kq] at haM;cases haM
  rw[qc k2] at haM;have k3:aM≠x:=by intro e;subst e;rw[hx3] at haM;cases haM
  have k4:aM≠aS:=by intro e;subst e;rw[hS3] at haM;cases haM
  walk_at "";refine qf0 (by rw[qc k1.symm];exact kq) T.clB T.qjq (by (repeat with_reducible refine' pf1 ?_);exact Wk _) ?_;walk_at "";rw[qbt,qbt,qbt];refine q2w fun aQ haQ=>?_;have j1:aQ≠p:=by intro e;subst e;rw[kq] at haQ;cases haQ
  rw[qc j1] at haQ;have j2:aQ≠aM:=by intro e;subst e;rw[kq] at haQ;cases haQ
  rw[qc j2,qc j1] at haQ;have j3:aQ≠aP:=by intro e;subst e;rw[kq] at haQ;cases haQ
  rw[qc j3] at haQ;have j4:aQ≠x:=by intro e;subst e;rw[hx3] at haQ;cases haQ
  have j5:aQ≠aS:=by intro e;subst e;rw[hS3] at haQ;cases haQ
  walk_at "";refine qf0 (by rw[qc j1.symm];exact kq) T.clB T.qrk (by (repeat with_reducible refine' pf1 ?_);exact Wk _) ?_;have new:∀ {b:Addr} {o:HO},b≠p->H3 b=none->H b=some o->False:=fun hb h1 h2=>by rw[B3 _ _ hb h2] at h1;cases h1
  refine q _ ⟨p,dx,aP,aM,aQ,[⟨x,xd,aS⟩],[],[]⟩ (fun b o hb e=>?_) rfl ⟨QM.q2l,?_,?_,rfl,rfl,rfl,fun i x m h=>by cases h⟩ ?_
  ·have z1:b≠aQ:=by intro z;subst z;exact new hb haQ e
   have z2:b≠aM:=by intro z;subst z;exact new hb haM e
   have z3:b≠aP:=by intro z;subst z;exact new hb haP e
   rw[qc hb,qc z1,qc hb,qc z2,qc hb,qc z3];exact B3 b o hb e
  ·intro c hc;have hc:c∈[(p,HO.ins A.CB dx (qbm Vbemai.start ⟨p,dx,aP,aM,aQ,[⟨x,xd,aS⟩],[],[]⟩)),(aP,HO.lst [V.ref x]),(aM,HO.lst []),(aQ,HO.dT []),(x,HO.ins A.CP xd [("sums",.ref aS)]),(aS,HO.lst (vI (QM.sums 0 (wts [1]))))]:=hc;simp only[Jf,Xa,Y0] at hc;rcases hc with rfl|rfl|rfl|rfl|rfl|rfl
   ·exact kq
   ·show upd _ _ _ aP=_;rw[qc m1,qc j3.symm,qc m1,qc k2.symm,qc m1,kq]
   ·show upd _ _ _ aM=_;rw[qc k1,qc j2.symm,qc k1,kq]
   ·show upd _ _ _ aQ=_;rw[qc j1,kq]
   ·show upd _ _ _ x=_;rw[qc n0,qc j4.symm,qc n0,qc k3.symm,qc n0,qc m2.symm];exact hx3
   ·show upd _ _ _ aS=_;rw[qc nSp,qc j5.symm,qc nSp,qc k4.symm,qc nSp,qc m3.symm];exact hS3
  ·show [p,aP,aM,aQ,x,aS].Nodup;simp only[Xf,Jf,Xa,Y0,not_or,Yb,Qx,Zj];exact⟨⟨m1.symm,k1.symm,j1.symm,n0.symm,nSp.symm⟩,⟨k2.symm,j3.symm,m2,m3⟩,⟨j2.symm,k3,k4⟩,⟨j4,j5⟩,nS.symm⟩
  ·have old:∀ {b:Addr},b≠p->H3 b=none->H b=none:=fun {b} hb h1=>by
    cases e:H b with
    |none=>rfl
    |some o=>exact(new hb h1 e).elim
   intro c hc;have hc:c∈[(p,HO.ins A.CB dx (qbm Vbemai.start ⟨p,dx,aP,aM,aQ,[⟨x,xd,aS⟩],[],[]⟩)),(aP,HO.lst [V.ref x]),(aM,HO.lst []),(aQ,HO.dT []),(x,HO.ins A.CP xd [("sums",.ref aS)]),(aS,HO.lst (vI (QM.sums 0 (wts [1]))))]:=hc;simp only[Jf,Xa,Y0] at hc;rcases hc with rfl|rfl|rfl|rfl|rfl|rfl
   ·exact .inl rfl
   ·exact .inr (old m1 haP)
   ·exact .inr (old k1 haM)
   ·exact .inr (old j1 haQ)
   ·exact .inr hxH
   ·exact .inr hSH
theorem q16(T:Txt P w K mg A):
  Fn P w K mg base 3 "tail_of" ["meter"] (q8u A):=by
 refine T.q0f.go q7k (fun _ _ _ _ h=>?_) (fun _ _ _ _ _ H _ Q _ hr h=>?_)
 ·obtain⟨st,k,x,m,rfl,_⟩:=h;rfl
 ·obtain⟨st,k,x,m,rfl,M,q⟩:=h;refine⟨_,(ko (qab (qef (k8 (qhv T) hr (vd kj))) vh) (vm (qaf qec (k9 K kj) (k9 K (k8 (qgi T) hr (vd kj)))))),?_⟩;obtain⟨d0,y0,h01,h02,h03⟩:=M.last;have er:Vbemai.rateOf x=if y0.finish.isSome=true then 0 else x.rate*y0.factor:=by unfold Vbemai.rateOf Vbemai.lastDevice;rw[h02]
  walk_at "in";refine⟨st,k,x,m,rfl,M,?_⟩;rw[qgm h02];walk_at "";refine ifB (fun ho=>?_) (fun ho=>?_)
  ·walk_at "";rw[er,Je ho] at q;exact q
  ·rw[er,Jc (by rw[ho];exact Jr)] at q;walk_at "";refine⟨st,k,x,m,rfl,M,fun d y h1 h2 h3=>?_⟩;rw[h02] at h2;cases h2;walk_at "";have hm:=M.good.met M.hx;exact r_I (.inl ⟨by have:=hm.r0;omega,by have:=hm.r1;omega⟩) q
theorem q1j(T:Txt P w K mg A): Fn P w K mg base 1 "dial_from" ["meter","boundary"] (q75 A):=by
 refine T.qy8.go qnq (fun _ _ _ _ h=>?_) (fun _ _ _ _ _ H _ Q _ hr h=>?_)
 ·obtain⟨st,k,x,m,t,rfl,_⟩:=h;rfl
 ·obtain⟨st,k,x,m,t,rfl,M,⟨y0,hy0⟩,q⟩:=h;refine⟨_,(vm (qa1 K (qdx rfl qnq.nd (own:=[("dial",2)]) (qb1 (k9 K kj)) (by walk_at "bk") (fun _ _ _ _ _=>(qak 2 qnq.nd)) (fun _ _ _ _ _=>(qfh (yb qdu (k9 K ku) kr))) (fun _ _ _ _ _=>ku)) (qee qek vh))),?_⟩;walk_at "in";refine qeh (SqL.of M.oD) (fun i=>(((m.ds.zip x.devices).take i).filter fun p=>decide (p.2.start<=t)).map fun p=>V.ref p.1.a) rfl ?_ ?_
  ·intro D i H1 v hv p;obtain⟨d,y,hd,hy,rfl,ho⟩:=M.dial hv;have ho:=p.same _ _ ho;have hz:(m.ds.zip x.devices)[i]?=some (d,y):=by rw[Xn];exact⟨hd,hy⟩
   have hi:=(Ji.mp hy).1;walk_at "";refine⟨rfl,?_⟩;walk_at "";refine ifD (fun c=>?_) (fun c=>?_)
   ·walk_at "";refine p.yes (small 8 (by have:=dl8 M;omega)) (Kh.refl _) ?_;show List.map _ _=_;rw[qgh _ hz (Xm (by show y.start<=t;omega)),Jv];rfl
   ·refine p.no (Kh.refl _) ?_;show List.map _ _=_;rw[qgg _ hz (J7 (by show ¬ y.start<=t;omega))]
  ·intro L H1 hL s1 hL1;have hlz:(m.ds.zip x.devices).length=m.ds.length:=by rw[Yr,M.rel.dl];omega
   rw[Jd,<- hlz,Xh] at hL1;have e1:((m.ds.zip x.devices).filter fun p=>decide (p.2.start<=t)).map (·.2)=x.devices.filter fun d=>decide (d.start<=t):=by
    have e2:(m.ds.zip x.devices).map (·.2)=x.devices:=List.map_snd_zip (by rw[M.rel.dl];exact Jp _);have:=Wt (f:=fun p:Qfp×Dev=>p.2) (p:=fun d:Dev=>decide (d.start<=t)) (l:=m.ds.zip x.devices);rw[e2] at this;rw[this];rfl
   have hy1:=hy0;unfold QM.qd6 at hy1;rw[<- e1,Y5] at hy1;cases hg:((m.ds.zip x.devices).filter fun p=>decide (p.2.start<=t)).getLast? with
   |none=>rw[hg] at hy1;cases hy1
   | some dy=>
     rw[hg] at hy1;have hy1:dy.2=y0:=Jj hy1;have hmem:=(J2.mp (Zg hg)).1;obtain⟨i,hi⟩:=Zw hmem;have hi2:=Xn.mp hi;walk_at "";refine qat (SqL.of hL1) (qi3 (by rw[Y5,hg];rfl)) ?_;refine q _ y0 dy.1 s1 hy0 ?_;rw[<- hy1];exact M.qh5 hi2.1 hi2.2
theorem qp5(T:Txt P w K mg A):
  Fn P w K mg base 2 "shown_value" ["meter","dial","boundary"] (q8q A):=by
 refine T.qz9.go q7h (fun _ _ _ _ h=>?_) (fun _ _ _ _ _ H _ Q _ hr h=>?_)
 ·obtain⟨st,k,x,m,y,d,t,rfl,_⟩:=h;rfl
 ·obtain⟨st,k,x,m,y,d,t,rfl,M,hd,hk,q⟩:=h;refine⟨_,(ko (qab (yb qbf ku (k9 K kr)) (k9 K kr)) (ko (qab (yb qbf ku (k9 K kr)) (k9 K kr)) (vm (qdo K (k8 (ql8 T) hr (k6 kj ku)) vh)))),?_⟩;walk_at "in";refine ifD (fun c=>?_) (fun c=>?_)
  ·walk_at "";have q:=q H (Kh.refl H);unfold QM.qcf at q;rw[Je (by omega)] at q;exact q
  ·have c:¬ t=y.start:=by omega
   walk_at "";have last:(∀ v,y.finish≠some (t,v))->tOp (rIxT K) (tFn (qvc A) (qai (yc 0) (qai (yc 2) qa4))) (tC (V.int 1)) [some (V.ref m.a),some (V.ref d.a),some (V.int (t:Int))] H Q:=fun hno=>by
    have hl:∃ v,(QM.qa2 st k).lookup t=some v:=by
     rcases hk with h|⟨v,h⟩|h
     ·exact absurd h c
     ·exact absurd h (hno v)
     ·exact h
    obtain⟨v,hv⟩:=hl;have hs:=QM.qvg M.good k t;rw[hv] at hs;walk_at "";refine⟨st,k,x,m,t,rfl,M.r,fun H1 s1=>⟨fun hn=>?_,fun pr a hp ha ha1=>?_⟩⟩
    ·rw[hn] at hs;cases hs
    ·rw[hp] at hs;have hs:v=pr.2:=Jj hs;walk_at "";refine qdm (SqT.of ha1) (qap (j:=1) rfl) ?_;have q:=q H1 s1;unfold QM.qcf at q;rw[Jc c,hv] at q;cases hf:y.finish with
     |none=>rw[hf] at q;rw[<- hs];exact q
     | some e=>
       obtain⟨e1,e2⟩:=e;rw[hf] at q;have:¬ t=e1:=fun z=>hno e2 (by rw[hf,z]);have q:Q (.int (if t=e1 then e2 else v)) H1:=q;rw[Jc this] at q;rw[<- hs];exact q
   cases hf:y.finish with
   | none=>
     have e1:eB y = .non:=by unfold eB;rw[hf]
     rw[e1];refine⟨rfl,?_⟩;walk_at "";refine qa3 ?_;exact last fun v h=>by rw[hf] at h;cases h
   | some e=>
     have e1:eB y = .int (e.1:Int):=by unfold eB;rw[hf]
     rw[e1];walk_at "";refine ifD (fun c2=>?_) (fun c2=>?_)
     ·walk_at "";have e2:eV y = .int e.2:=by unfold eV;rw[hf]
      have q:=q H (Kh.refl H);unfold QM.qcf at q;rw[Jc c,hf] at q;have q:Q (.int (if t=e.1 then e.2 else _)) H:=q;rw[Je (by omega)] at q;rw[e2];exact q
     ·exact last fun v h=>by rw[hf] at h;cases h;omega
theorem q0x(T:Txt P w K mg A):
  Fn P w K mg base 3 "amount_between" ["meter","start","end"] (q70 A):=by
 refine T.qyk.go qnl (fun _ _ _ _ h=>?_) (fun _ _ _ _ _ H _ Q _ hr h=>?_)
 ·obtain⟨st,k,x,m,i,a,b,rfl,_⟩:=h;rfl
 ·obtain⟨st,k,x,m,i,a,b,rfl,M,ha,hb,q⟩:=h;obtain⟨y,hy,hym,sa,sb⟩:=QM.q7r M.good M.hx ha hb;have hD:=(M.good.met M.hx).dev y hym;refine⟨_,(ko (vt 3 qnl.nd (k8 (q1j T) hr (k6 kj kr))) (ko (vt 4 qnl.nd (qaf qcr (k8 (qp5 T) hr (qac kj (k6 ya ku))) (k8 (qp5 T) hr (qac kj (k6 ya kr))))) (vm (qaf qec (qaf qrw qa0 (k9 K ya)) (k9 K ya))))),?_⟩;walk_at "in";refine⟨st,k,x,m,a,rfl,M,⟨y,hy⟩,fun H1 y' d s1 hy' hd=>?_⟩;rw[hy] at hy';cases hy';have hd1:=s1 _ _ hd;walk_at "";refine⟨st,k,x,m,y,d,b,rfl,M.same s1,hd1,sb,fun H2 s2=>?_⟩;have hd2:=s2 _ _ hd1;walk_at "";refine⟨st,k,x,m,y,d,a,rfl,(M.same s1).same s2,hd2,sa,fun H3 s3=>?_⟩;have hd3:=s3 _ _ hd2;walk_at "";have hp:(0:Int)<10 ^ y.digits:=Int.pow_pos (by decide);refine r_I hp ?_;walk_at "";refine r_I (.inr ⟨by have:=hD.f0;omega,by have:=hD.f1;omega⟩) ?_;have q:=q H3 ((s1.trans s2).trans s3);unfold QM.qcj at q;rw[hy] at q;exact q
theorem cut1(xs:List V): qcx xs (some 1) none=xs.tail:=by
 unfold qcx;have e1:HT.sIx xs.length 0 (some 1)=min 1 xs.length:=HT.qj2 xs.length 0 1;rw[e1,HT.qsq];cases xs with
 |nil=>rfl
 | cons x r=>
   have e2:min 1 (x::r).length=1:=by simp
   rw[e2,List.drop_one,List.tail_cons,Jz,Za,Xh]
theorem qv6(l:List Nat): (vN l).tail=vN l.tail:=by unfold vN;rw[List.map_tail]
structure CP(A:Ads)(H:Hp)(s:Sta)(k:Nat)(x:Met)(c dx aK aA aO p:Addr): Prop where
 oC:H c=some (.ins A.CC dx [("knots",.ref aK),("amounts",.ref aA),("totals",.ref aO),("profile",.ref p),("tail",.int (Vbemai.rateOf x)),("removed",.bl (Vbemai.isOut x))])
 oK:H aK=some (.lst (vN (QM.kn s k)))
 oA:H aA=some (.lst (vI (QM.am s k)))
 oO:H aO=some (.lst (vI (QM.sums 0 (QM.am s k))))
 oP:PAt A H p (QM.qbj (Vbemai.profileOf s x))
theorem CAt.parts{H:Hp}{s:Sta}{k:Nat}{x:Met}{c:Addr}(C:CAt A H s k x c): ∃ dx aK aA aO p,CP A H s k x c dx aK aA aO p:=by
 obtain⟨g,hx,dx,aK,aA,aO,p,pdx,aS,h1,h2,h3,h4,h5,h6⟩:=C;exact⟨dx,aK,aA,aO,p,h1,h2,h3,h4,⟨pdx,aS,h5,h6⟩⟩
theorem qkt(p:List Nat)(t:Nat): qhn (QM.qbj p) t=(QM.wsum p t:Int):=rfl
theorem qsa{s:Sta}(G:QM.Good s)(x:Met): 1<=(QM.qbj (Vbemai.profileOf s x)).length/\(QM.qbj (Vbemai.profileOf s x)).length<=96/\∀ w∈QM.qbj (Vbemai.profileOf s x),w<=1000:=by
 unfold QM.qbj;split
 ·exact⟨by decide,by decide,by simp⟩
 ·rename_i h;unfold Vbemai.profileOf at h ⊢;split
  ·rename_i h2;rw[Je h2] at h;exact absurd rfl h
  ·rename_i h2;rw[Jc h2] at h;cases e:s.profiles[x.profile-1]? with
   |none=>rw[e] at h;exact absurd rfl h
   |some p=>exact G.pw p (J0 e)
theorem za0{s:Sta}(G:QM.Good s)(x:Met){a b:Nat}(h:a<=b)(hb:b<=10000): (0:Int)<=(QM.wsum (Vbemai.profileOf s x) b:Int)-QM.wsum (Vbemai.profileOf s x) a/\(QM.wsum (Vbemai.profileOf s x) b:Int)-QM.wsum (Vbemai.profileOf s x) a<=10000000:=by
 rw[QM.qok _ h];refine⟨by omega,?_⟩;have hw:∀ q,Vbemai.weight (Vbemai.profileOf s x) q<=1000:=fun q=>by
  rw[QM.qwc];cases e:(QM.qbj (Vbemai.profileOf s x))[q%(QM.qbj (Vbemai.profileOf s x)).length]? with
  |none=>exact X3 _
  |some v=>exact(qsa G x).2.2 v (J0 e)
 have hl:∀ n,((List.range n).map fun i=>Vbemai.weight (Vbemai.profileOf s x) (a+i)).sum<=1000*n:=fun n=>by
  induction n with
  |zero=>simp
  | succ n ih=>
    rw[Zu,Jv,Z7,Jq,Zv,Yx,List.sum_nil];have:=hw (a+n);omega
 have:=hl (b-a);unfold Vbemai.weights;have h2:b-a<=10000:=by omega
 have h3:1000*(b-a)<=10000000:=by omega
 omega
theorem q18(T:Txt P w K mg A):
  Fn P w K mg base 3 "through_within" ["course","place","boundary"] (q8y A):=by
 refine T.q0j.go qin (fun _ _ _ _ h=>?_) (fun _ _ _ _ _ H _ Q _ hr h=>?_)
 ·obtain⟨st,k,x,c,i,a,b,t,v,rfl,_⟩:=h;rfl
 ·obtain⟨st,k,x,c,i,a,b,t,v,rfl,C,ha,hb,hv,h1,h2,hab,q⟩:=h;obtain⟨dx,aK,aA,aO,p,CC⟩:=C.parts;have oC:=CC.oC;have oK:=CC.oK;have hbb:=QM.qjk C.good C.hx b (J0 hb);obtain⟨p1,p2,p3⟩:=qsa C.good x;obtain⟨w1,w2⟩:=za0 C.good x (Xj hab) hbb;have hav:=QM.qwl C.good C.hx v (J0 hv);rw[QM.qm2 _ h1 h2] at q;refine⟨_,(ko (vt 3 qin.nd (qa1 K (k9 K kj) kr)) (ko (vt 4 qin.nd (qa1 K (k9 K kj) (qaf qca kr vh))) (ko (vt 5 qin.nd (qa1 K (k9 K kj) kr)) (ko (vt 6 qin.nd (k8 (qp8 T) hr (qac (k9 K kj) (k6 ya qa0)))) (ko (qab (yb qbf qcs vh) (qaf qm0 (qaf qec qb6 (qaf qcr ku ya)) (qaf qcr qa0 ya))) (vm (qaf qm0 (qaf qec qb6 (k8 (qp8 T) hr (qac (k9 K kj) (k6 ya ku)))) qcs))))))),?_⟩;walk_at "in";refine qat (SqL.of CC.oK) (qap (qhh ha)) ?_;walk_at "";refine qat (SqL.of CC.oK) (show atI _ ((i:Int)+1)=_ from qap (j:=i+1) (qhh hb)) ?_;walk_at "";refine qat (SqL.of CC.oA) (qap (qc6 hv)) ?_;walk_at "";refine⟨p,_,a,b,rfl,CC.oP,p1,by omega,by omega,by omega,?_⟩;walk_at "";rw[qkt,qkt];refine ifD (fun c0=>?_) (fun c0=>?_)
  ·rw[Je c0] at q;walk_at "";refine r_I (.inl ⟨by omega,by omega⟩) ?_;walk_at "";exact r_I ⟨by omega,by omega⟩ q
  ·rw[Jc c0] at q;walk_at "";refine⟨p,_,a,t,rfl,CC.oP,p1,by omega,by omega,by omega,?_⟩;rw[qkt,qkt];walk_at "";refine r_I (.inl ⟨by omega,by omega⟩) ?_;walk_at "";exact r_I ⟨by omega,by omega⟩ q
theorem ql9(T:Txt P w K mg A):
  Fn P w K mg base 4 "through_by" ["course","boundary"] (q8w A):=by
 refine T.q0h.go qim (fun _ _ _ _ h=>?_) (fun _ _ _ _ _ H _ Q _ hr h=>?_)
 ·obtain⟨st,k,x,c,t,rfl,_⟩:=h;rfl
 ·obtain⟨st,k,x,c,t,rfl,C,ht,q⟩:=h;obtain⟨dx,aK,aA,aO,p,CC⟩:=C.parts;have oC:=CC.oC;have oK:=CC.oK;obtain⟨a,b,ha,hb⟩:=qml C.good C.hx;have hm:=C.good.met C.hx;refine⟨_,(ko (vt 2 qim.nd (qa1 K (k9 K kj) (qee qek vh))) (ko (qab (yb qdu kr (qa1 K (k9 K kj) vh)) vh) (ko (qab (yb qeb kr ku) (qaf qca (qa1 K (k9 K kj) (qee qek vh)) (qaf qec (k9 K kj) (qaf qcr kr ku)))) (ko (vt 3 qim.nd (qaf qcr (x_len T.qbd (qdx rfl qim.nd (own:=[("knot",4)]) (qb1 (k9 K kj)) (by walk_at "bk") (fun _ _ _ _ _=>(qak 4 qim.nd)) (fun _ _ _ _ _=>(qfh (yb qdu qa0 kr))) (fun _ _ _ _ _=>qa0))) vh)) (vm (qaf qca (qa1 K (k9 K kj) ya) (k8 (q18 T) hr (qac kj (k6 ya kr))))))))),?_⟩;walk_at "in";refine qat (SqL.of CC.oK) (qk3 hb) ?_;walk_at "";refine qat (SqL.of CC.oK) (qk1 ha) ?_;walk_at "";refine ifD (fun c1=>?_) (fun c1=>?_)
  ·walk_at "";have q:=q H (Kh.refl H);rw[QM.qw8 C.good C.hx ha (by omega)] at q;exact q
  walk_at "";refine ifD (fun c2=>?_) (fun c2=>?_)
  ·walk_at "";refine qat (SqL.of CC.oO) (qk2 (QM.qir _ _)) ?_;walk_at "";have hb2:=QM.qjk C.good C.hx b (Zg hb);refine r_I (.inr ⟨by omega,by omega⟩) ?_;walk_at "";have q:=q H (Kh.refl H);rw[QM.qw9 C.good C.hx hb (by omega)] at q;rw[Uq];exact q
  walk_at "";refine qeh (SqL.of CC.oK) (fun i=>vN (((QM.kn st k).take i).filter fun u=>decide (u<=t))) rfl ?_ ?_
  ·intro D i H1 v hv pp;obtain⟨z,hz,rfl⟩:=qiw hv;have hi:=(Ji.mp hz).1;walk_at "";refine⟨rfl,?_⟩;walk_at "";refine ifD (fun c=>?_) (fun c=>?_)
   ·walk_at "";refine pp.yes (small 10001 (by have:=QM.qmm C.good C.hx;omega)) (Kh.refl _) ?_;show vN _=_;rw[qgh _ hz (Xm (by omega)),qiv];rfl
   ·refine pp.no (Kh.refl _) ?_;show vN _=_;rw[qgg _ hz (J7 (by omega))]
  ·intro L H1 hL s1 hL1;rw[qct,Xh] at hL1;obtain⟨pl,u,v,am',e1,e2,e3,e4,e5,e6,e7⟩:=QM.by_mid C.good C.hx ha (by omega) hb (show t<b by omega);have C1:=C.same s1;obtain⟨dx,aK,aA,aO,p,CC⟩:=C1.parts;have oC:=CC.oC;walk_at "";refine qbb (qbz (SqL.of hL1)) ?_;have e8:((vN ((QM.kn st k).filter fun u=>decide (u<=t))).length:Int)-1=(pl:Int):=by
    rw[qct];unfold QM.upTo at e1;omega
   walk_at "";rw[e8];have hpl:pl<=(QM.am st k).length:=by have:=(Ji.mp e4).1;omega
   refine qat (SqL.of CC.oO) (qap (qc6 (QM.qhd _ 0 pl hpl))) ?_;walk_at "";refine⟨st,k,x,c,pl,u,v,t,am',rfl,C1,e2,e3,e4,e5,by omega,by omega,?_⟩;walk_at "";have q:=q H1 s1;rw[e7,<- QM.qm2 _ e5 (by omega)] at q;rw[Uq];exact q
theorem qhw(T:Txt P w K mg A):
  Fn P w K mg base 5 "through_between" ["course","start","end"] (q8v A):=by
 refine T.q0g.go q7l (fun _ _ _ _ h=>?_) (fun _ _ _ _ _ H _ Q _ hr h=>?_)
 ·obtain⟨st,k,x,c,t,u,rfl,_⟩:=h;rfl
 ·obtain⟨st,k,x,c,t,u,rfl,C,ht,hu,q⟩:=h;refine⟨_,(vm (qaf qcr (k8 (ql9 T) hr (k6 kj ku)) (k8 (ql9 T) hr (k6 kj kr)))),?_⟩;walk_at "in";refine⟨st,k,x,c,u,rfl,C,hu,fun H1 s1=>?_⟩;walk_at "";refine⟨st,k,x,c,t,rfl,C.same s1,ht,fun H2 s2=>?_⟩;walk_at "";exact q H2 (s1.trans s2)
theorem q1m(T:Txt P w K mg A): Fn P w K mg base 1 "how_known" ["course","quarter"] (q8a A):=by
 refine T.qzf.go q67 (fun _ _ _ _ h=>?_) (fun _ _ _ _ _ H _ Q _ hr h=>?_)
 ·obtain⟨st,k,x,c,t,rfl,_⟩:=h;rfl
 ·obtain⟨st,k,x,c,t,rfl,C,q⟩:=h;obtain⟨dx,aK,aA,aO,p,CC⟩:=C.parts;have oC:=CC.oC;have oK:=CC.oK;obtain⟨a,b,ha,hb⟩:=qml C.good C.hx;rw[QM.q9u C.good C.hx ha hb] at q;refine⟨_,(ko (qab (yb qey kr (qa1 K (k9 K kj) vh)) (vf T.qo5)) (ko (qab (yb qeb kr (qa1 K (k9 K kj) (qee qek vh))) (qr2 (qef (k9 K kj)) (vf T.qo5) (vf T.qxb))) (ko (qab (PW.pt (qfi (qjy qm1 kr (k9 K kj) (by with_unfolding_all rfl)) (qfj (qjy qm1 (qaf qca kr vh) (k9 K kj) (by with_unfolding_all rfl))))) (vf T.qxd)) (vm (vf T.qxr))))),?_⟩;walk_at "in";refine qat (SqL.of CC.oK) (qk1 ha) ?_;walk_at "";refine ifD (fun c1=>?_) (fun c1=>?_)
  ·rw[Je (by omega)] at q;walk_at "";exact q
  rw[Jc (by omega)] at q;walk_at "";refine qat (SqL.of CC.oK) (qk3 hb) ?_;walk_at "";refine ifD (fun c2=>?_) (fun c2=>?_)
  ·rw[Je (by omega)] at q;walk_at "";refine ifB (fun c3=>?_) (fun c3=>?_)
   ·rw[Je c3] at q;walk_at "";exact q
   ·rw[Jc (by rw[c3];exact Jr)] at q;walk_at "";exact q
  rw[Jc (by omega)] at q;walk_at "";refine qnj CC.oK ?_;walk_at "";refine ifB (fun c3=>?_) (fun c3=>?_)
  ·walk_at "";refine qnj (t:=t+1) CC.oK ?_;walk_at "";refine ifB (fun c4=>?_) (fun c4=>?_)
   ·rw[Je ⟨c3,c4⟩] at q;walk_at "";exact q
   ·rw[Jc (by rw[c4];exact fun z=>nomatch z.2)] at q;walk_at "";exact q
  ·rw[Jc (by rw[c3];exact fun z=>nomatch z.1)] at q;refine qa3 ?_;walk_at "";exact q
theorem qpz(T:Txt P w K mg A): Fn P w K mg base 1 "gaps_of" ["course"] (q78 A):=by
 refine T.qzb.go q65 (fun _ _ _ _ h=>?_) (fun _ _ _ _ _ H _ Q _ hr h=>?_)
 ·obtain⟨st,k,x,c,rfl,_⟩:=h;rfl
 ·obtain⟨st,k,x,c,rfl,C,q⟩:=h;obtain⟨dx,aK,aA,aO,p,CC⟩:=C.parts;have oC:=CC.oC;have oK:=CC.oK;refine⟨_,(vm (q5h rfl T.b_list rfl T.qi4 (qac (k9 K kj) (k6 (qib qip (k9 K kj) (qgx vh) qjx) (k9 K kj))))),?_⟩;walk_at "in";refine qig (SqL.of CC.oK) fun p2 hp2=>?_;rw[cut1,qv6];have s1:=Kh.new (o:=.lst (vN (QM.kn st k).tail)) hp2;have oC1:=s1 _ _ oC;walk_at "";have hne:=QM.qjl C.good C.hx;have hal:=QM.qky C.good C.hx;refine⟨aK,p2,aA,_,_,_,(QM.kn st k).tail.length,rfl,SqL.of (s1 _ _ CC.oK),SqL.of kq,SqL.of (s1 _ _ CC.oA),?_,?_,?_,fun H' l as s2 hl hl2 hlen hget=>?_⟩
  ·rw[qct,Qm];have:=Ub.mpr hne;omega
  ·rw[qct]
  ·rw[qa9,Qm];omega
  refine q H' l (s1.trans s2) (s1.free hl) ⟨as,hl2,?_,fun i ad y h1 h2=>?_⟩
  ·rw[hlen,Jd,QM.qje C.good C.hx,Yr,Yr,Qm];omega
  ·obtain⟨v1,v2,v3,g1,g2,g3,g4⟩:=hget i ad h1;rw[Jt,QM.qje C.good C.hx] at h2;obtain⟨n1,k1,rfl⟩:=qiw g1;obtain⟨n2,k2,rfl⟩:=qiw g2;obtain⟨n3,k3,rfl⟩:=qkq g3;have hz:((QM.kn st k).zip ((QM.kn st k).tail.zip (QM.am st k)))[i]?=some (n1,n2,n3):=by
    rw[Xn];refine⟨k1,?_⟩;rw[Xn];exact⟨k2,k3⟩
   rw[hz] at h2;cases h2;exact g4
theorem zao{l:List Int}{i:Nat}{y:Int}(h:l[i]?=some y): vI (l.take (i+1))=vI (l.take i)++[.int y]:=by
 rw[Xq,h];simp[vI]
theorem qjb(T:Txt P w K mg A):
  Fn P w K mg base 4 "course_of" ["book","meter"] (q74 A):=by
 refine T.qy7.go qik (fun _ _ _ _ h=>?_) (fun _ _ _ _ _ H _ Q _ hr h=>?_)
 ·obtain⟨st,b,n,x,m,rfl,_⟩:=h;rfl
 ·obtain⟨st,b,n,x,m,rfl,B,hx,hm,q⟩:=h;refine⟨_,(ko (vt 2 qik.nd (k8 (qp1 T) hr (vd kr))) (ko (qgz (i:=3) rfl qik.nd rfl rfl (by exact qhe rfl rfl rfl rfl) (own:=[("start",4),("end",5)]) (qr5 rfl T.qi4 (k6 ku (qib qip ku (qgx vh) qjx))) (by walk_at "bk") (fun _ _ _ _ _=>(qfe (K':=K) (n:=2) rfl rfl (qb0 (qak 4 qik.nd) (qb0 (qak 5 qik.nd) qff)))) (fun _ _ _ _ _=>qez) (fun _ _ _ _ _=>(k8 (q0x T) hr (qac kr (k6 qa0 qb6))))) (vm (qia (qx6 T) hr (qac ku (qac ya (qac (qa1 K (k9 K kj) (k9 K kr)) (k6 (k8 (q16 T) hr (vd kr)) (k8 (qhv T) hr (vd kr)))))))))),?_⟩;have M:=B.met hx hm;have hne:=QM.qjl M.good M.hx;have hal:=QM.qky M.good M.hx;have hkl:=QM.qmm M.good M.hx;walk_at "in";refine⟨st,n+1,x,m,rfl,M,fun H1 aK s1 hK hK1=>?_⟩;walk_at "";refine qig (SqL.of hK1) fun p2 hp2=>?_;rw[cut1,qv6];have s2:=s1.trans (Kh.new (o:=.lst (vN (QM.kn st (n+1)).tail)) hp2);have hK2:=Kh.new (o:=.lst (vN (QM.kn st (n+1)).tail)) hp2 _ _ hK1;have hp2':upd H1 p2 (.lst (vN (QM.kn st (n+1)).tail)) p2=some (.lst (vN (QM.kn st (n+1)).tail)):=kq;generalize upd H1 p2 (.lst (vN (QM.kn st (n+1)).tail))=H2 at *
  walk_at "";refine r_iz (SqL.of hK2) (SqL.of hp2') ?_;have get:∀ i,i<(QM.am st (n+1)).length->∃ a b v,(QM.kn st (n+1))[i]?=some a/\(QM.kn st (n+1))[i+1]?=some b/\(QM.kn st (n+1)).tail[i]?=some b/\(QM.am st (n+1))[i]?=some v/\v=QM.qcj (QM.qa2 st (n+1)) x.devices a b:=fun i hi=>by
   have h1:(QM.kn st (n+1))[i]?=some (QM.kn st (n+1))[i]:=Jo (by omega);have h2:(QM.kn st (n+1))[i+1]?=some (QM.kn st (n+1))[i+1]:=Jo (by omega);refine⟨_,_,_,h1,h2,by rw[List.getElem?_tail];exact h2,?_,rfl⟩;rw[QM.qgd M.hx];exact QM.qkz _ _ i _ _ h1 h2
  refine qfl (QM.am st (n+1)).length (fun i=>vI ((QM.am st (n+1)).take i)) rfl (fun i H' hi s3=>?_) (fun H' s3=>?_) ?_ ?_
  ·obtain⟨a,bb,v,h1,h2,h3,_⟩:=get i hi;exact⟨_,_,_,_,SqL.of (s3 _ _ hK2),SqL.of (s3 _ _ hp2'),qhh h1,qhh h3⟩
  ·exact⟨_,_,SqL.of (s3 _ _ hK2),SqL.of (s3 _ _ hp2'),.inr (by rw[qct,Qm];omega)⟩
  ·rintro D i H3 v H3' hi p ⟨t,x1,y1,rfl,ht,rfl,hx1,hy1⟩;obtain⟨a,bb,vv,h1,h2,h3,h4,h5⟩:=get i hi;have e1:=hx1 _ (SqL.of (p.same _ _ hK2));rw[qhh h1] at e1;have e2:=hy1 _ (SqL.of (p.same _ _ hp2'));rw[qhh h3] at e2;cases e1;cases e2;have s4:=Kh.new (o:=.tup [.int (a:Int),.int (bb:Int)]) ht;walk_at "";refine qfk (SqT.of kq) rfl ?_;walk_at "";refine⟨rfl,?_⟩;walk_at "";refine qax ?_;walk_at "";refine⟨st,n+1,x,m,i,a,bb,rfl,((M.same s2).same p.same).same s4,h1,h2,fun H4 s5=>?_⟩;refine p.yes (small 10001 (by omega)) (s4.trans s5) ?_;show vI _=_;rw[zao h4,h5]
  ·intro aA H5 hA s5 hA5;rw[Xh] at hA5;have S5:=s2.trans s5;have B5:=B.same S5;have M5:=M.same S5;have hK5:=s5 _ _ hK2;obtain⟨pr,hpr,_,_⟩:=qr9 B5 (M.good.met M.hx);walk_at "";refine qat (SqL.of B5.oP) (qap (by rw[Jt,hpr];rfl)) ?_;walk_at "";refine⟨st,n+1,x,m,rfl,M5,?_⟩;walk_at "";refine⟨st,n+1,x,m,rfl,M5,?_⟩;walk_at "";intro c dx hc hdx hcd;have hnA:aA≠c:=vz hA5 hc;have hnA2:aA≠dx:=vz hA5 hdx;refine⟨c,dx,aK,aA,pr.a,QM.am st (n+1),Vbemai.rateOf x,Vbemai.isOut x,rfl,kq,by rw[qc hnA,qc hnA2];exact hA5,small 10001 (by omega),fun H6 aO b6 hO hc6 hO6=>⟨rfl,?_⟩⟩;have S6:Kh H5 H6:=fun b o hb=>b6 b o (vz hb hc) (by rw[qc (vz hb hc),qc (vz hb hdx)];exact hb);have hOc:aO≠c:=by intro z;subst z;rw[kq] at hO;cases hO
   rw[qc hOc] at hO;have hOd:aO≠dx:=by intro z;subst z;rw[kq] at hO;cases hO
   rw[qc hOd] at hO;exact q H6 c (S5.trans S6) ⟨dx,aK,aA,aO,pr,hpr,S5.free hc,hK,s2.free hA,S5.free hO,hc6,S6 _ _ hK5,S6 _ _ hA5,hO6⟩
theorem q13(T:Txt P w K mg A): Fn P w K mg base 1 "sign_of" ["meter"] (q8s A):=by
 refine T.q0b.go q7j (fun _ _ _ _ h=>?_) (fun _ _ _ _ _ H _ Q _ hr h=>?_)
 ·obtain⟨st,k,x,m,rfl,_⟩:=h;rfl
 ·obtain⟨st,k,x,m,rfl,M,q⟩:=h;refine⟨_,(ko (qab (yb qbf (k9 K kj) (vf T.qla)) vh) (ko (qab (yb qbf (k9 K kj) (vf T.qo6)) (qee qek vh)) (vm vh))),?_⟩;unfold QM.signOf at q;walk_at "in";refine ifD (fun c=>?_) (fun c=>?_)
  ·rw[Je (by omega)] at q;walk_at "";exact q
  ·rw[Jc (by omega)] at q;walk_at "";refine ifD (fun c=>?_) (fun c=>?_)
   ·rw[Je (by omega)] at q;walk_at "";exact q
   ·rw[Jc (by omega)] at q;walk_at "";exact q
theorem q12(T:Txt P w K mg A): Fn P w K mg base 1 "sign_in_zone" ["meter","zone"] (q8r A):=by
 refine T.q0a.go q7i (fun _ _ _ _ h=>?_) (fun _ _ _ _ _ H _ Q _ hr h=>?_)
 ·obtain⟨st,k,x,m,z,rfl,_⟩:=h;rfl
 ·obtain⟨st,k,x,m,z,rfl,M,q⟩:=h;refine⟨_,(ko (qab (PW.pt (qfi (yb qbf (k9 K kj) (vf T.qlb)) (qfj (yb qbf (k9 K kj) kr)))) vh) (ko (qab (yb qdv (k9 K kj) kr) vh) (vm (qr2 (yb qbf (k9 K kj) (vf T.qla)) vh (qee qek vh))))),?_⟩;unfold QM.qf5 at q;have rest:(¬ (x.kind=2/\x.zone2=z))->qcn (qe3 (qd1 (tOp rNe (qfn K (yc 0) "zone") (yc 1))) (qcg (tC (.int 0))) qe4) (qcg (tIf (qd1 (tOp rEq (qfn K (yc 0) "kind") (tC (.int 1)))) (tC (.int 1)) (tUn (rU fun i=>.int (-i)) (tC (.int 1))))) { nx:=fun _ H'=>Q .non H',rt:=Q } (start ["meter","zone"] [.ref m.a,.int (z:Int)]) H:=fun hc=>by
   rw[Jc hc] at q;walk_at "";refine ifN (fun c=>?_) (fun c=>?_)
   ·rw[Je (by omega)] at q;walk_at "";exact q
   ·rw[Jc (by omega)] at q;walk_at "";refine ifD (fun c=>?_) (fun c=>?_)
    ·rw[Je (by omega)] at q;walk_at "";exact q
    ·rw[Jc (by omega)] at q;walk_at "";exact q
  walk_at "in";refine ifD (fun c=>?_) (fun c=>?_)
  ·walk_at "";refine ifD (fun c2=>?_) (fun c2=>?_)
   ·rw[Je ⟨by omega,by omega⟩] at q;walk_at "";exact q
   ·exact rest (by omega)
  ·refine qa3 ?_;exact rest (by omega)
theorem tl_at{H:Hp}{s:Sta}{k:Nat}{x:Met}{m:Qaa}(M:MAt A H s k x m){i:Nat}{e:Nat×Nat}(h:(QM.toldOf s k)[i]?=some e): vj (tlK m.tl) (Sum.inl (e.1:Int))=some (.int (e.2:Int)):=by
 have hn:(m.tl.map (·.1)).Nodup:=(M.rel.tl.map (·.1)).nodup_iff.mpr (QM.qoc M.good k);have:m.tl.lookup e.1=some e.2:=(QM.lookup_mem hn).mpr (M.rel.tl.mem_iff.mpr (J0 h));rw[qob,this];rfl
theorem Qe7.app{H:Hp}{l t:Addr}{as:List Addr}{xs:List (List V)}{y:List V}(h1:H l=some (.lst (as.map V.ref)))(h2:as.length=xs.length)(h3:∀ (i:Nat) (a:Addr) (x:List V),as[i]?=some a->xs[i]?=some x->H a=some (.tup x))(ht:H t=none):
  upd H t (.tup y) l=some (.lst (as.map V.ref))/\Qe7 (upd (upd H t (.tup y)) l (.lst (as.map V.ref++[.ref t]))) l (xs++[y]):=by
 have hne:l≠t:=vz h1 ht;refine⟨by rw[qc hne];exact h1,as++[t],by rw[kq,Jv];rfl,by rw[Jx,Jx,h2];rfl,fun i a x q1 q2=>?_⟩;rw[List.getElem?_append] at q1 q2;by_cases hi:i<as.length
 ·rw[Je hi] at q1;rw[Je (by omega)] at q2;have h4:=h3 i a x q1 q2;rw[qc (qay h4 h1 (by intro z;cases z)),qc (vz h4 ht)];exact h4
 ·rw[Jc hi] at q1;rw[Jc (by omega)] at q2;cases hz:i-as.length with
  | zero=>
    rw[hz] at q1;rw[<- h2,hz] at q2;cases q1;cases q2;rw[qc hne.symm,kq]
  |succ j=>rw[hz] at q1;simp at q1
theorem ql6(T:Txt P w K mg A): Fn P w K mg base 1 "parts_by_hand" ["meter","start","end"] (q8k A):=by
 refine T.qzw.go qf3 (fun _ _ _ _ h=>?_) (fun _ _ _ _ _ H _ Q _ hr h=>?_)
 ·obtain⟨st,k,x,m,a,b,rfl,_⟩:=h;rfl
 ·obtain⟨st,k,x,m,a,b,rfl,M,q⟩:=h;have hu:=qan hr;refine⟨_,(ko (vt 3 qf3.nd (qah qh7)) (ko (vt 4 qf3.nd vh) (ko (vt 5 qf3.nd kr) (ko (qdz Ys rfl (qb1 (qed (qpi rfl) rfl T.qk5 QP.boot_sorted (vd (k9 K kj)))) (qak 6 qf3.nd) (ko (qgy (yb qeb qcs ku) (qbg q5y) qg0) (ko (qgy (yb qjs qcs qb6) (ko (qb5 (qce Xe Xv Xw qdk ya (vd (qgw (qac qb6 (k6 qcs qa0)))))) (qbg (vt 5 qf3.nd qcs))) qg0) (qbg (vt 4 qf3.nd (vq hu (k9 K kj) qcs)))))) (ko (qb5 (qce Xe Xv Xw qdk ya (vd (qgw (qac qb6 (k6 ku qa0)))))) (vm ya)))))),?_⟩;walk_at "in";intro L hL;have s1:=Kh.new (o:=.lst []) hL;have hL1:upd H L (.lst []) L=some (.lst []):=kq;have M1:=M.same s1;generalize upd H L (.lst [])=H1 at *
  walk_at "";refine⟨m.aT,_,wts (m.tl.map (·.1)),rfl,M1.oT,q94 _,fun ns' p H2 h1 h2 h3 eH2=>?_⟩;obtain⟨l',rfl,hp'⟩:=qna h1;have e:=qn0 (qol h2) (hp'.trans (M.rel.tl.map (·.1))) (QM.qis M.good k);subst e;have s2:Kh H1 H2:=by rw[eH2];exact Kh.new h3
  have hp2:H2 p=some (.lst (vN ((QM.toldOf st k).map (·.1)))):=by rw[eH2,kq];exact Yk (fun z=>some (HO.lst z)) (qiu _)
  have hL2:=s2 _ _ hL1;have M2:=M1.same s2;have hpL:p≠L:=(vz hL1 h3).symm;have S2:=s1.trans s2;clear eH2 h1 h2;have hlen:(QM.toldOf st k).length<=64:=by rw[<- M.rel.tl.length_eq];exact qvz M.good M.rel
  walk_at "";refine qe2 (vN ((QM.toldOf st k).map (·.1))) (fun i σ H'=>∃ (bg h:Nat) (dn:List (Nat×Nat×Nat)) (as:List Addr) (v:Option V),Kh H H'/\H' p=some (.lst (vN ((QM.toldOf st k).map (·.1))))/\H' L=some (.lst (as.map V.ref))/\as.length=(dn.map qdw).length/\(∀ (i:Nat) (a:Addr) (x:List V),as[i]?=some a->(dn.map qdw)[i]?=some x->H' a=some (.tup x))/\as.length<=i /\
    dn++QM.qa7 b bg h ((QM.toldOf st k).drop i)=QM.qa7 b a 0 (QM.toldOf st k)/\σ=[some (.ref m.a),some (.int (a:Int)),some (.int (b:Int)),some (.ref L),some (.int (h:Int)),some (.int (bg:Int)),v])
    ⟨a,0,[],[],none,S2,hp2,hL2,rfl,fun i a x h=>by simp at h,X3 _,rfl,rfl⟩ (fun i σ H' ⟨bg,h,dn,as,v,g1,g2,_⟩=>SqL.of g2) ?_ ?_
  ·rintro σ H' ⟨bg,h,dn,as,v,g1,g2,g3,g4,g5,g6,g7,rfl⟩;rw[qct,Jd,List.drop_length] at g7;walk_at "";intro t ht;obtain⟨g8,g9⟩:=Qe7.app (y:=qdw (bg,b,h)) g3 g4 g5 ht;walk_at "";refine qc5 g8 (by rw[Jd];rw[qct,Jd] at g6;exact small 64 (by omega)) ?_;walk_at "";refine q _ L ?_ hL ?_
   ·exact Kh.upd (Kh.upd g1 (g1.free ht)) hL
   ·rw[<- g7,Jv];exact g9
  ·rintro i σ H' v0 hv ⟨bg,h,dn,as,v,g1,g2,g3,g4,g5,g6,g7,rfl⟩;obtain⟨z,hz,rfl⟩:=qiw hv;rw[Jt] at hz;cases he:(QM.toldOf st k)[i]? with
   |none=>rw[he] at hz;cases hz
   | some e=>
     rw[he] at hz;obtain rfl:e.1=z:=Jj hz;have hi:=(Ji.mp he).1;have hdrop:(QM.toldOf st k).drop i=e::(QM.toldOf st k).drop (i+1):=by
      rw[Um hi];rw[Jo hi] at he;cases he;rfl
     rw[hdrop] at g7;have M':=M.same g1;have hg:=tl_at M' he;walk_at "";refine ifD (fun c=>?_) (fun c=>?_)
     ·have e7:QM.qa7 b bg h (e::(QM.toldOf st k).drop (i+1))=[(bg,b,h)]:=by
       obtain⟨e1,e2⟩:=e;unfold QM.qa7;rw[Je (by omega)]
      rw[e7] at g7;walk_at "";intro t ht;obtain⟨g8,g9⟩:=Qe7.app (y:=qdw (bg,b,h)) g3 g4 g5 ht;walk_at "";refine qc5 g8 (by rw[Jd];exact small 64 (by omega)) ?_;walk_at "";refine q _ L ?_ hL ?_
      ·exact Kh.upd (Kh.upd g1 (g1.free ht)) hL
      ·rw[<- g7,Jv];exact g9
     walk_at "";refine ifD (fun c2=>?_) (fun c2=>?_)
     ·have e7:QM.qa7 b bg h (e::(QM.toldOf st k).drop (i+1))=(bg,e.1,h)::QM.qa7 b e.1 e.2 ((QM.toldOf st k).drop (i+1)):=by
       obtain⟨e1,e2⟩:=e;show (if b<=e1 then _ else if bg<e1 then _ else _)=_;rw[Jc (by omega),Je (by omega)]
      rw[e7] at g7;walk_at "";intro t ht;obtain⟨g8,g9⟩:=Qe7.app (y:=qdw (bg,e.1,h)) g3 g4 g5 ht;walk_at "";refine qc5 g8 (by rw[Jd];exact small 64 (by omega)) ?_;have g10:Kh H (upd (upd H' t (.tup [.int (bg:Int),.int (e.1:Int),.int (h:Int)])) L (.lst (as.map V.ref++[.ref t]))):=Kh.upd (Kh.upd g1 (g1.free ht)) hL;have M3:=M.same g10;have hg3:=tl_at M3 he;have g11:upd (upd H' t (.tup [.int (bg:Int),.int (e.1:Int),.int (h:Int)])) L (.lst (as.map V.ref++[.ref t])) p=some (.lst (vN ((QM.toldOf st k).map (·.1)))):=by
       rw[qc hpL,qc (vz g2 ht)];exact g2
      have g9:Qe7 (upd (upd H' t (.tup [.int (bg:Int),.int (e.1:Int),.int (h:Int)])) L (.lst (as.map V.ref++[.ref t]))) L _:=g9;obtain⟨as',a1,a2,a3⟩:=g9;generalize upd (upd H' t (.tup [.int (bg:Int),.int (e.1:Int),.int (h:Int)])) L (.lst (as.map V.ref++[.ref t]))=H5 at *
      walk_at "";refine qif M3.oT hg3 ?_;walk_at "";refine⟨e.1,e.2,dn++[(bg,e.1,h)],as',_,g10,g11,a1,by rw[a2,Jv];rfl,fun i a x q1 q2=>a3 i a x q1 (by rw[Jv] at q2;exact q2),?_,by rw[Yv];exact g7,rfl⟩;rw[a2,Jx,<- g4];exact Nat.succ_le_succ g6
     ·have e7:QM.qa7 b bg h (e::(QM.toldOf st k).drop (i+1))=QM.qa7 b bg e.2 ((QM.toldOf st k).drop (i+1)):=by
       obtain⟨e1,e2⟩:=e;show (if b<=e1 then _ else if bg<e1 then _ else _)=_;rw[Jc (by omega),Jc (by omega)]
      rw[e7] at g7;walk_at "";refine qif M'.oT hg ?_;walk_at "";exact⟨bg,e.2,dn,as,_,g1,g2,g3,g4,g5,Nat.le_succ_of_le g6,g7,rfl⟩
theorem q1k(T:Txt P w K mg A): Fn P w K mg base 2 "hand_at" ["meter","quarter"] (q79 A):=by
 refine T.qzd.go q66 (fun _ _ _ _ h=>?_) (fun _ _ _ _ _ H _ Q _ hr h=>?_)
 ·obtain⟨st,k,x,m,t,rfl,_⟩:=h;rfl
 ·obtain⟨st,k,x,m,t,rfl,M,q⟩:=h;refine⟨_,(vm (qdo K (qa1 K (k8 (ql6 T) hr (qac kj (k6 kr (qaf qca kr vh)))) vh) vh)),?_⟩;walk_at "in";refine⟨st,k,x,m,t,t+1,rfl,M,fun H1 l s1 hl ⟨as,h1,h2,h3⟩=>?_⟩;rw[QM.q2o M.good] at h2 h3;match as,h2 with
  | [a0],_=>
    have h4:=h3 0 a0 _ rfl rfl;walk_at "";refine qat (SqL.of h1) (qap (j:=0) rfl) ?_;walk_at "";exact qdm (SqT.of h4) (qap (j:=2) rfl) (q H1 s1)
theorem zap{l:List Int}{i:Nat}{y:Int}(h:l[i]?=some y): vI (l.take (i+1))=vI (l.take i)++[.int y]:=by
 rw[Xq,h];simp[vI]
theorem qm3(b:Nat): ∀ (l:List (Nat×Nat)) (bg k:Nat),(QM.qa7 b bg k l).length<=l.length+1
 |[],_,_=>Jp _
 | (q,h)::r,bg,k=>by
   unfold QM.qa7;split
   ·simp
   ·split
    ·have:=qm3 b r q h;simp only[Jz];omega
    ·have:=qm3 b r bg h;simp only[Jz];omega
theorem told64{s:Sta}(G:QM.Good s)(k:Nat): (QM.toldOf s k).length<=64:=by
 unfold QM.toldOf;rw[Jd];exact Xd (Xp ..) G.al
theorem q97{s:Sta}(G:QM.Good s)(k:Nat): ∀ h∈(QM.toldOf s k).map (·.2),h<=32:=fun h hh=>by
 obtain⟨e,he,rfl⟩:=Jk.mp hh;obtain⟨a,ha,rfl⟩:=Jk.mp he;exact(G.ao a (J2.mp ha).1).h
theorem q17(T:Txt P w K mg A):
  Fn P w K mg base 6 "through_in_hand" ["book","meter","hand","start","end"] (q8x A):=by
 refine T.q0i.go qg9 (fun _ _ _ _ h=>?_) (fun _ _ _ _ _ H _ Q _ hr h=>?_)
 ·obtain⟨st,b,n,x,m,h,t,u,rfl,_⟩:=h;rfl
 ·obtain⟨st,b,n,x,m,h,t,u,rfl,B,hx,hm,htu,hu,q⟩:=h;have M:=B.met hx hm;refine⟨_,(ko (qsb (i:=5) qg9.nd rfl (Or.inr rfl) (k8 (qjb T) hr (k6 kj kr))) (ko (qgz (i:=6) rfl qg9.nd rfl rfl (by exact qhe rfl rfl rfl rfl) (own:=[("part",7)]) (qb1 (k8 (ql6 T) hr (qac kr (k6 ya qa0)))) (by walk_at "bk") (fun _ _ _ _ _=>(qak 7 qg9.nd)) (fun _ _ _ _ _=>(qfh (yb qbf (qdo K qe1 vh) ku))) (fun _ _ _ _ _=>qe1)) (vm (qed (qpj rfl) rfl T.b_sum QP.boot_sum (vd (qdx rfl qg9.nd (own:=[("part",7)]) (qb1 qcs) (by walk_at "bk") (fun _ _ _ _ _=>(qak 7 qg9.nd)) (fun _ _ _ _ _=>qez) (fun _ _ _ _ _=>(k8 (qhw T) hr (qac qb6 (k6 (qdo K qe1 vh) (qdo K qe1 vh))))))))))),?_⟩;walk_at "in";refine⟨st,b,n,x,m,rfl,B,hx,hm,fun H1 c s1 cn=>?_⟩;have C1:=cn.cat (B.same s1) hx;walk_at "";refine⟨st,n+1,x,m,t,u,rfl,M.same s1,fun H2 l s2 hl ⟨as,h1,h2,h3⟩=>?_⟩;have C2:=C1.same s2;rw[Jd] at h2;have hpl:(QM.qa7 u t 0 (QM.toldOf st (n+1))).length<=65:=by have:=qm3 u (QM.toldOf st (n+1)) t 0;have:=told64 B.good (n+1);omega
  have hin:=QM.qh8 u (QM.toldOf st (n+1)) t 0 htu;have hheld:=QM.held_eq st (n+1) h htu (QM.qis B.good (n+1));generalize QM.qa7 u t 0 (QM.toldOf st (n+1))=ps at *
  have S2:=s1.trans s2;walk_at "";have hz:∀ i a g,as[i]?=some a->ps[i]?=some g->(as.zip ps)[i]?=some (a,g):=fun i a g q1 q2=>by rw[Xn];exact⟨q1,q2⟩
  refine qeh (SqL.of h1) (fun i=>(((as.zip ps).take i).filter fun p=>decide (p.2.2.2=h)).map fun p=>V.ref p.1) rfl ?_ ?_
  ·intro D i H3 v hv p;rw[Jt] at hv;cases ha:as[i]? with
   |none=>rw[ha] at hv;cases hv
   | some a=>
     rw[ha] at hv;obtain rfl:V.ref a=v:=Jj hv;have hi:=(Ji.mp ha).1;have hg:ps[i]?=some ps[i]:=Jo (by omega);generalize ps[i]=g at hg;have ht:=p.same _ _ (h3 i a (qdw g) ha (by rw[Jt,hg];rfl));have hzz:=hz i a g ha hg;walk_at "";refine⟨rfl,?_⟩;walk_at "";refine qdm (SqT.of ht) (qap (j:=2) rfl) ?_;walk_at "";refine ifD (fun c=>?_) (fun c=>?_)
     ·walk_at "";refine p.yes (small 65 (by omega)) (Kh.refl _) ?_;show List.map _ _=_;rw[qgh _ hzz (Xm (by show g.2.2=h;omega)),Jv];rfl
     ·refine p.no (Kh.refl _) ?_;show List.map _ _=_;rw[qgg _ hzz (J7 (by show ¬ g.2.2=h;omega))]
  ·intro L H3 hL s3 hL3;have C3:=C2.same s3;have hlz:(as.zip ps).length=as.length:=by rw[Yr];omega
   rw[Jd,<- hlz,Xh] at hL3;generalize hF:(as.zip ps).filter (fun p=>decide (p.2.2.2=h))=F at hL3;have hFm:∀ y∈F,H3 y.1=some (.tup (qdw y.2))/\y.2∈ps:=fun y hy=>by
    rw[<- hF] at hy;obtain⟨i,hi⟩:=Zw (J2.mp hy).1;have h5:=Xn.mp hi;exact⟨s3 _ _ (h3 i y.1 (qdw y.2) h5.1 (by rw[Jt,h5.2];rfl)),J0 h5.2⟩
   have hFl:F.length<=65:=by
    rw[<- hF];have:((as.zip ps).filter fun p=>decide (p.2.2.2=h)).length<=(as.zip ps).length:=Xp ..;omega
   have hsum:(F.map fun y=>Vbemai.between st (n+1) y.2.1 y.2.2.1).sum=Vbemai.held st (n+1) h t u:=by
    rw[hheld];unfold QM.qcb;have e2:(as.zip ps).map (·.2)=ps:=List.map_snd_zip (by omega);have e3:=QM.sum_filter ps (fun y=>decide (y.2.2=h)) (fun y=>Vbemai.between st (n+1) y.1 y.2.1);have e4:F.map (fun y=>Vbemai.between st (n+1) y.2.1 y.2.2.1)=(ps.filter fun y=>decide (y.2.2=h)).map fun y=>Vbemai.between st (n+1) y.1 y.2.1:=by
     rw[<- hF];conv=>rhs;rw[<- e2]
     rw[Wt,Xy];rfl
    rw[e4,e3];congr 1;refine X8 fun y _=>?_;by_cases hy:y.2.2=h
    ·rw[Je (Xm hy),Je hy]
    ·rw[Jc (by rw[J7 hy];exact Jr),Jc hy]
   walk_at "";refine qeh (SqL.of hL3) (fun i=>vI ((F.map fun y=>Vbemai.between st (n+1) y.2.1 y.2.2.1).take i)) rfl ?_ ?_
   ·intro D i H4 v hv p;rw[Jt] at hv;cases ha:F[i]? with
    |none=>rw[ha] at hv;cases hv
    | some y=>
      rw[ha] at hv;obtain rfl:V.ref y.1=v:=Jj hv;have hi:=(Ji.mp ha).1;obtain⟨ht,hym⟩:=hFm y (J0 ha);have ht:=p.same _ _ ht;have hb:=hin _ hym;walk_at "";refine⟨rfl,?_⟩;walk_at "";refine qax ?_;walk_at "";refine qdm (SqT.of ht) (qap (j:=0) rfl) ?_;walk_at "";refine qdm (SqT.of ht) (qap (j:=1) rfl) ?_;walk_at "";refine⟨st,n+1,x,c,y.2.1,y.2.2.1,rfl,C3.same p.same,by omega,by omega,fun H5 s5=>?_⟩;refine p.yes (small 65 (by omega)) s5 ?_;show vI _=_;rw[zap (y:=Vbemai.between st (n+1) y.2.1 y.2.2.1) (by rw[Jt,ha];rfl)]
   ·intro D H4 hD s4 hD4;walk_at "";refine⟨D,_,rfl,SqL.of hD4,?_⟩;rw[Jd,<- Jd (f:=fun y:Addr×Nat×Nat×Nat=>Vbemai.between st (n+1) y.2.1 y.2.2.1),Xh,hsum];exact q _ ((S2.trans s3).trans s4)
theorem q28{n k:Nat}(h:k<n): ixN n (k:Int)=some k:=by
 unfold ixN;rw[Je (by omega),Je (by omega),J1]
theorem vI_set(l:List Int)(i:Nat)(z:Int): (vI l).set i (.int z)=vI (l.set i z):=by unfold vI;rw[List.map_set]
theorem qp2(T:Txt P w K mg A):
  Fn P w K mg base 6 "nets_between" ["book","start","end"] (qvb A):=by
 refine T.qzt.go qfm (fun _ _ _ _ h=>?_) (fun _ _ _ _ _ H _ Q _ hr h=>?_)
 ·obtain⟨st,b,t,u,rfl,_⟩:=h;rfl
 ·obtain⟨st,b,t,u,rfl,B,htu,hu,q⟩:=h;refine⟨_,(ko (vt 3 qfm.nd (qaf qry (qah (vd vh)) (vf T.qo3))) (ko (qdz Ys rfl (qb1 (k9 K kj)) (qak 4 qfm.nd) (ko (vt 5 qfm.nd (k8 (q13 T) hr (vd qa0))) (ko (vt 6 qfm.nd (k8 (qjb T) hr (k6 kj qa0))) (qbg (qdz Ys rfl (qb1 (k8 (ql6 T) hr (qac qa0 (k6 kr ku)))) (qfe (K':=K) (n:=3) rfl rfl (qb0 (qak 7 qfm.nd) (qb0 (qak 8 qfm.nd) (qb0 (qak 9 qfm.nd) qff)))) (qbg (ps_asg (qaf qca (qa1 K ya pvz9) (qaf qec qb6 (k8 (qhw T) hr (qac qcs (k6 qe1 pvz8))))) (pg_sub ya pvz9 set_list)))))))) (vm ya))),?_⟩;walk_at "in";intro z0 hz0;have s0:=Kh.new (o:=.lst [.int 0]) hz0;have hz1:upd H z0 (.lst [.int 0]) z0=some (.lst [.int 0]):=kq;generalize upd H z0 (.lst [.int 0])=H0 at *
  walk_at "";refine⟨z0,33,_,rfl,rfl,hz1,by decide,by decide,by decide,fun N hN=>?_⟩;have S1:Kh H (upd H0 N (.lst (vI (QM.tab fun _=>0)))):=s0.trans (Kh.new hN);have hNN:=s0.free hN;have e0:(List.replicate (Int.toNat 33) [V.int 0]).flatten=vI (QM.tab fun _=>0):=by
   rw[<- QM.q92];rfl
  rw[e0];have hN1:upd H0 N (.lst (vI (QM.tab fun _=>0))) N=some (.lst (vI (QM.tab fun _=>0))):=kq;generalize upd H0 N (.lst (vI (QM.tab fun _=>0)))=H1 at *
  have B1:=B.same S1;walk_at "";refine qe2 (b.ms.map fun m=>.ref m.a) (fun i σ H'=>Kh H H'/\H' N=some (.lst (vI (QM.tab (QM.qc3 st t u i))))/\∃ v4 v5 v6 v7 v8 v9,σ=[some (.ref b.a),some (.int (t:Int)),some (.int (u:Int)),some (.ref N),v4,v5,v6,v7,v8,v9])
   ⟨S1,hN1,_,_,_,_,_,_,rfl⟩ (fun i σ H' ⟨g,_⟩=>SqL.of (B.same g).oM) ?_ ?_
  ·rintro σ H' ⟨g1,g2,v4,v5,v6,v7,v8,v9,rfl⟩;rw[Jd,B.lm,<- QM.q4q B.good] at g2;walk_at "";exact q H' N g1 hNN g2
  ·rintro i σ H2 v hv ⟨g1,g2,v4,v5,v6,v7,v8,v9,rfl⟩;rw[Jt] at hv;cases hm:b.ms[i]? with
   |none=>rw[hm] at hv;cases hv
   | some m=>
     rw[hm] at hv;obtain rfl:V.ref m.a=v:=Jj hv;have hi:=(Ji.mp hm).1;have hi2:i<st.meters.length:=by rw[<- B.lm];exact hi
     have hx:st.meters[i]?=some st.meters[i]:=Jo hi2;generalize st.meters[i]=x at hx;have B2:=B.same g1;have M2:=B2.met hx hm;walk_at "";refine⟨st,i+1,x,m,rfl,M2,?_⟩;walk_at "";refine⟨st,b,i,x,m,rfl,B2,hx,hm,fun H3 c s3 C3=>?_⟩;have hN3:=s3 _ _ g2;have S3:=g1.trans s3;walk_at "";refine⟨st,i+1,x,m,t,u,rfl,M2.same s3,fun H4 l s4 hl ⟨as,h1,h2,h3⟩=>?_⟩;have hN4:=s4 _ _ hN3;have C4:=C3.same s4;have S4:=S3.trans s4;rw[Jd] at h2;have hin:=QM.qh8 u (QM.toldOf st (i+1)) t 0 htu;have hheld:=fun h=>QM.held_eq st (i+1) h htu (QM.qis B.good (i+1));have hth:=q97 B.good (i+1);generalize QM.qa7 u t 0 (QM.toldOf st (i+1))=ps at *
     have hsg:QM.signOf x.kind=1\/QM.signOf x.kind = -1\/QM.signOf x.kind=0:=by
      unfold QM.signOf;split
      ·exact .inl rfl
      ·split
       ·exact .inr (.inl rfl)
       ·exact .inr (.inr rfl)
     walk_at "";have hlN:l≠N:=(vz hN3 hl).symm;refine qe2 (as.map V.ref) (fun j σ H'=>Kh H H'/\Qdp A H2 H' st b i x c/\H' l=some (.lst (as.map V.ref))/\(∀ (i:Nat) (a:Addr) (x:List V),as[i]?=some a->(ps.map qdw)[i]?=some x->H' a=some (.tup x)) /\
      H' N=some (.lst (vI (QM.tab fun h=>QM.qc3 st t u i h+QM.signOf x.kind*QM.qcb (Vbemai.between st (i+1)) h (ps.take j))))/\∃ v7 v8 v9,σ=[some (.ref b.a),some (.int (t:Int)),some (.int (u:Int)),some (.ref N),some (.ref m.a),some (.int (QM.signOf x.kind)),some (.ref c),v7,v8,v9])
      ⟨S4,C4,h1,h3,?_,_,_,_,rfl⟩ (fun j σ H' ⟨_,_,g,_⟩=>SqL.of g) ?_ ?_
     ·rw[hN4];have e:(fun h=>QM.qc3 st t u i h+QM.signOf x.kind*QM.qcb (Vbemai.between st (i+1)) h (ps.take 0))=QM.qc3 st t u i:=by
       funext h;have:QM.qcb (Vbemai.between st (i+1)) h (ps.take 0)=0:=rfl;rw[this,Int.mul_zero,Int.add_zero]
      rw[e]
     ·rintro σ H5 ⟨k1,k2,k3,k4,k5,v7,v8,v9,rfl⟩;rw[Jd,h2,Xh] at k5;refine⟨k1,?_,_,_,_,_,_,_,rfl⟩;rw[k5];have e:(fun h=>QM.qc3 st t u i h+QM.signOf x.kind*QM.qcb (Vbemai.between st (i+1)) h ps)=QM.qc3 st t u (i+1):=by
       funext h;rw[QM.q4r,hx,hheld];rfl
      rw[e]
     ·rintro j σ H5 v hv ⟨k1,k2,k3,k4,k5,v7,v8,v9,rfl⟩;rw[Jt] at hv;cases ha:as[j]? with
      |none=>rw[ha] at hv;cases hv
      | some a=>
        rw[ha] at hv;obtain rfl:V.ref a=v:=Jj hv;have hj:=(Ji.mp ha).1;have hg:ps[j]?=some ps[j]:=Jo (by omega);generalize ps[j]=g at hg;have ht:=k4 j a (qdw g) ha (by rw[Jt,hg];rfl);have hb:=hin _ (J0 hg);have hh:g.2.2<33:=by
         rcases hb.2.2.2 with e|e
         ·omega
         ·have:=hth _ e;omega
        walk_at "";refine qfk (xs:=[.int (g.1:Int),.int (g.2.1:Int),.int (g.2.2:Int)]) (SqT.of ht) rfl ?_;walk_at "";refine qat (SqL.of k5) (qap (qc6 (QM.qoa _ hh))) ?_;walk_at "";refine⟨st,i+1,x,c,g.1,g.2.1,rfl,k2.cat (B.same k1) hx,by omega,by omega,fun H6 s6=>?_⟩;have k56:=s6 _ _ k5;walk_at "";refine r_I (.inl ⟨by omega,by omega⟩) ?_;walk_at "";refine⟨N,_,g.2.2,g.2.2,rfl,rfl,k56,q28 (by rw[qa9,QM.qkm];exact hh),?_⟩;have S6:Kh H (upd H6 N (.lst (vI (QM.tab fun h=>QM.qc3 st t u i h+QM.signOf x.kind*QM.qcb (Vbemai.between st (i+1)) h (ps.take (j+1)))))):=Kh.upd (k1.trans s6) hNN;rw[vI_set,QM.q4s _ _ _ _ g hh];have e9:ps.take j++[g]=ps.take (j+1):=by rw[Xq,hg];rfl
        rw[e9];have keep:∀ b o,b≠N->H5 b=some o->upd H6 N (.lst (vI (QM.tab fun h=>QM.qc3 st t u i h+QM.signOf x.kind*QM.qcb (Vbemai.between st (i+1)) h (ps.take (j+1))))) b=some o:=fun b o hb e=>by rw[qc hb];exact s6 _ _ e
        refine⟨S6,(k2.same s6).upd g2,keep _ _ hlN k3,fun i a y q1 q2=>?_,kq,_,_,_,rfl⟩
        ·have:=k4 i a y q1 q2;exact keep _ _ (qay this k5 (by intro z;cases z)) this
theorem zaq{l:List Int}{i:Nat}{y:Int}(h:l[i]?=some y): vI (l.take (i+1))=vI (l.take i)++[.int y]:=by
 rw[Xq,h];simp[vI]
theorem ql5(T:Txt P w K mg A): Fn P w K mg base 1 "listed_by_hand" ["numbers"] (qva K):=by
 refine T.qzp.go qg8 (fun _ _ _ _ h=>?_) (fun _ _ _ _ _ H _ Q _ hr h=>?_)
 ·obtain⟨a,ns,rfl,_⟩:=h;rfl
 ·obtain⟨a,ns,rfl,hs,hn,q⟩:=h;refine⟨_,(ko (vt 1 qg8.nd (qah (vd (x_len T.qbd (qdx rfl qg8.nd (own:=[("number",2)]) (qb1 kj) (by walk_at "bk") (fun _ _ _ _ _=>(qak 2 qg8.nd)) (fun _ _ _ _ _=>(qfh (yb qdv ku vh))) (fun _ _ _ _ _=>ku)))))) (ko (qdz Ys rfl (q5o rfl T.qox (vd kj)) (qfe (K':=K) (n:=2) rfl rfl (qb0 (qak 3 qg8.nd) (qb0 (qak 2 qg8.nd) qff))) (qbg (qgy (yb qdv ku vh) (ko (qb5 (qce Xe Xv Xw qdk kr (vd ya))) (qbg (qb5 (qce Xe Xv Xw qdk kr (vd ku))))) qg0))) (vm kr))),?_⟩;walk_at "in";refine qeh hs (fun i=>vI ((ns.take i).filter fun x=>decide (x≠0))) rfl ?_ ?_
  ·intro D i H1 v hv p;obtain⟨z,hz,rfl⟩:=qkq hv;have hi:=(Ji.mp hz).1;walk_at "";refine⟨rfl,?_⟩;walk_at "";refine ifN (fun c=>?_) (fun c=>?_)
   ·walk_at "";refine p.yes (qa8 (by omega)) (Kh.refl _) ?_;show vI _=_;rw[qgh _ hz (Xm c),qv5];rfl
   ·refine p.no (Kh.refl _) ?_;show vI _=_;rw[qgg _ hz (J7 (fun z=>z c))]
  ·intro D H1 hD s1 hD1;rw[qa9,Xh] at hD1;walk_at "";refine qbb (qbz (SqL.of hD1)) ?_;rw[qa9];walk_at "";intro L hL;have S2:=s1.trans (Kh.new (o:=.lst [.int ((ns.filter fun x=>decide (x≠0)).length:Int)]) hL);have hL0:=s1.free hL;have hL2:upd H1 L (.lst [.int ((ns.filter fun x=>decide (x≠0)).length:Int)]) L=some (.lst (vI (((ns.filter fun x=>decide (x≠0)).length:Int)::QM.qew ns 0))):=kq;generalize upd H1 L (.lst [.int ((ns.filter fun x=>decide (x≠0)).length:Int)])=H2 at *
   have hs2:=S2.seq hs;walk_at "";refine qni ns.length (fun i σ H'=>Kh H H'/\H' L=some (.lst (vI (((ns.filter fun x=>decide (x≠0)).length:Int)::QM.qew ns i)))/\(QM.qew ns i).length<=2*i/\∃ v1 v2,σ=[some (.ref a),some (.ref L),v1,v2])
    ⟨S2,hL2,Jp _,_,_,rfl⟩ (fun i σ H' hi ⟨g,_⟩=>⟨_,.int ns[i],g.seq hs,qc6 (Jo hi)⟩) (fun σ H' ⟨g1,g2,g3,v1,v2,e⟩=>⟨⟨_,g1.seq hs,by rw[qa9];exact Jp _⟩,?_⟩) ?_
   ·subst e;walk_at "";refine q H' L g1 hL0 ?_;rw[QM.q96];exact g2
   ·rintro i σ H3 v H3' hi ⟨g1,g2,g3,v1,v2,rfl⟩ ⟨t,y,rfl,ht,rfl,hy⟩;have hz:ns[i]?=some ns[i]:=Jo hi;have e1:=hy _ (g1.seq hs);rw[qc6 hz] at e1;cases e1;generalize ns[i]=z at hz;have g4:Kh H (upd H3 t (.tup [.int ((i:Nat):Int),.int z])):=g1.trans (Kh.new ht);have g5:upd H3 t (.tup [.int ((i:Nat):Int),.int z]) L=some (.lst (vI (((ns.filter fun x=>decide (x≠0)).length:Int)::QM.qew ns i))):=by rw[qc (vz g2 ht)];exact g2
    have g6:upd H3 t (.tup [.int ((i:Nat):Int),.int z]) t=some (.tup [.int ((i:Nat):Int),.int z]):=kq;generalize upd H3 t (.tup [.int ((i:Nat):Int),.int z])=H4 at *
    have hk:=QM.q3n ns hz;walk_at "";refine qfk (SqT.of g6) rfl ?_;walk_at "";refine ifN (fun c=>?_) (fun c=>?_)
    ·rw[Jc c] at hk;walk_at "";refine qc5 g5 (small 3000 ?_) ?_
     ·rw[qa9,Jz];omega
     walk_at "";refine qc5 kq (small 3000 ?_) ?_
     ·rw[Jx,qa9,Jz];simp only[Jz,Y3];omega
     walk_at "";refine⟨?_,?_,?_,_,_,rfl⟩
     ·rw[qbt];exact Kh.upd g4 hL0
     ·rw[kq,hk];simp[vI]
     ·rw[hk,Jx];simp only[Jz,Y3];omega
    ·rw[Je c,Y7] at hk;walk_at "";exact⟨g4,by rw[hk];exact g5,by rw[hk];omega,_,_,rfl⟩
theorem q10(T:Txt P w K mg A):
  Fn P w K mg base 6 "rest_between" ["book","zone","start","end"] (q8o A):=by
 refine T.qz4.go qkd (fun _ _ _ _ h=>?_) (fun _ _ _ _ _ H _ Q _ hr h=>?_)
 ·obtain⟨st,b,z,t,u,rfl,_⟩:=h;rfl
 ·obtain⟨st,b,z,t,u,rfl,B,ht,hu,q⟩:=h;refine⟨_,(ko (vt 4 qkd.nd vh) (ko (qdz Ys rfl (qb1 (k9 K kj)) (qak 5 qkd.nd) (qbg (vt 4 qkd.nd (qaf qca qa0 (qaf qec (k8 (q12 T) hr (k6 qb6 kr)) (k8 (qhw T) hr (qac (k8 (qjb T) hr (k6 kj qb6)) (k6 ku ya)))))))) (vm qa0))),?_⟩;walk_at "in";refine qe2 (b.ms.map fun m=>.ref m.a) (fun i σ H'=>Kh H H'/\∃ v,σ=[some (.ref b.a),some (.int (z:Int)),some (.int (t:Int)),some (.int (u:Int)),some (.int (QM.qii st z t u i)),v]) ⟨Kh.refl H,none,rfl⟩ (fun i σ H' ⟨g,_⟩=>SqL.of (B.same g).oM) ?_ ?_
  ·rintro σ H' ⟨g1,v,rfl⟩;walk_at "";have e:QM.qii st z t u (b.ms.map fun m=>V.ref m.a).length=Vbemai.rest st z t u:=by
    rw[Jd,B.lm,QM.rest_eq B.good,QM.qrv];rfl
   rw[e];exact q H' g1
  ·rintro i σ H2 v hv ⟨g1,v0,rfl⟩;rw[Jt] at hv;cases hm:b.ms[i]? with
   |none=>rw[hm] at hv;cases hv
   | some m=>
     rw[hm] at hv;obtain rfl:V.ref m.a=v:=Jj hv;have hi2:i<st.meters.length:=by rw[<- B.lm];exact(Ji.mp hm).1
     have hx:st.meters[i]?=some st.meters[i]:=Jo hi2;generalize st.meters[i]=x at hx;have B2:=B.same g1;have M2:=B2.met hx hm;walk_at "";refine⟨st,i+1,x,m,z,rfl,M2,?_⟩;walk_at "";refine⟨st,b,i,x,m,rfl,B2,hx,hm,fun H3 c s3 cn=>?_⟩;walk_at "";refine⟨st,i+1,x,c,t,u,rfl,cn.cat (B2.same s3) hx,ht,hu,fun H4 s4=>?_⟩;walk_at "";refine r_I (.inl ?_) ?_
     ·unfold QM.qf5;split
      ·exact⟨by decide,by decide⟩
      ·split
       ·exact⟨by decide,by decide⟩
       ·split
        ·exact⟨by decide,by decide⟩
        ·exact⟨by decide,by decide⟩
     walk_at "";refine⟨(g1.trans s3).trans s4,some (.ref m.a),?_⟩;rw[QM.q58 _ _ _ _ _ hx];rfl
def pick(s:Sta)(kd z i:Nat): Bool:=(s.meters[i]?).any fun x=>x.kind==kd&&x.zone==z
def qfd(b:Qad)(i:Nat): V:=match b.ms[i]? with
 |none=>.non
 |some m=>.ref m.a
theorem q19(T:Txt P w K mg A):
  Fn P w K mg base 7 "total_of_kind" ["book","kind","zone","hand","start","end"] (qvd A):=by
 refine T.q0k.go qio (fun _ _ _ _ h=>?_) (fun _ _ _ _ _ H _ Q _ hr h=>?_)
 ·obtain⟨st,b,kd,z,h,t,u,rfl,_⟩:=h;rfl
 ·obtain⟨st,b,kd,z,h,t,u,rfl,B,htu,hu,q⟩:=h;have hml:=B.good.ml;have hbl:=B.lm;refine⟨_,(ko (qgz (i:=6) rfl qio.nd rfl rfl (by exact qhe rfl rfl rfl rfl) (own:=[("meter",7)]) (qb1 (k9 K kj)) (by walk_at "bk") (fun _ _ _ _ _=>(qak 7 qio.nd)) (fun _ _ _ _ _=>(qfh (PW.pt (qfi (yb qbf (k9 K qe1) kr) (qfj (yb qbf (k9 K qe1) ku)))))) (fun _ _ _ _ _=>qe1)) (vm (qed (qpj rfl) rfl T.b_sum QP.boot_sum (vd (qdx rfl qio.nd (own:=[("meter",7)]) (qb1 qcs) (by walk_at "bk") (fun _ _ _ _ _=>(qak 7 qio.nd)) (fun _ _ _ _ _=>qez) (fun _ _ _ _ _=>(k8 (q17 T) hr (qac kj (qac qe1 (qac ya (k6 qa0 qb6))))))))))),?_⟩;have geti:∀ i,i<st.meters.length->∃ x m,st.meters[i]?=some x/\b.ms[i]?=some m/\qfd b i = .ref m.a/\pick st kd z i=(x.kind==kd&&x.zone==z):=fun i hi=>by
   have h1:st.meters[i]?=some st.meters[i]:=Jo hi;have hi2:i<b.ms.length:=by omega
   have h2:b.ms[i]?=some b.ms[i]:=Jo hi2;refine⟨_,_,h1,h2,by unfold qfd;rw[h2],by unfold pick;rw[h1];rfl⟩
  walk_at "in";refine qeh (SqL.of B.oM) (fun i=>((List.range i).filter (pick st kd z)).map (qfd b)) rfl ?_ ?_
  ·intro D i H1 v hv p;rw[Jt] at hv;have hi:i<b.ms.length:=by
    cases hm:b.ms[i]? with
    |none=>rw[hm] at hv;cases hv
    |some m=>exact(Ji.mp hm).1
   obtain⟨x,m,hx,hm,hr1,hp⟩:=geti i (by omega);rw[hm] at hv;obtain rfl:V.ref m.a=v:=Jj hv;have M1:=(B.same p.same).met hx hm;have yes:pick st kd z i=true->((List.range (i+1)).filter (pick st kd z)).map (qfd b)=((List.range i).filter (pick st kd z)).map (qfd b)++[.ref m.a]:=fun hc=>by
    rw[Zu,Z5,Jv];simp[hc,hr1]
   have no:pick st kd z i=false->((List.range (i+1)).filter (pick st kd z)).map (qfd b)=((List.range i).filter (pick st kd z)).map (qfd b):=fun hc=>by
    rw[Zu,Z5,Jv];simp[hc]
   walk_at "";refine⟨rfl,?_⟩;walk_at "";refine ifD (fun c=>?_) (fun c=>?_)
   ·walk_at "";refine ifD (fun c2=>?_) (fun c2=>?_)
    ·walk_at "";refine p.yes (qa8 (by omega)) (Kh.refl _) (yes ?_);rw[hp,Jw,Yq,Yq];omega
    ·refine p.no (Kh.refl _) (no ?_);rw[hp];have:(x.zone==z)=false:=by rw[Yu];omega
     rw[this,Qw]
   ·refine qa3 ?_;refine p.no (Kh.refl _) (no ?_);rw[hp];have:(x.kind==kd)=false:=by rw[Yu];omega
    rw[this,Uv]
  ·intro L H1 hL s1 hL1;rw[Jd,B.lm] at hL1;have hth:Vbemai.those st (fun x=>x.kind==kd&&x.zone==z)=((List.range st.meters.length).filter (pick st kd z)).map (· + 1):=by
    unfold Vbemai.those Vbemai.numbers;rw[Wt];congr 1
   have hmemF:∀ i∈(List.range st.meters.length).filter (pick st kd z),i<st.meters.length:=fun i hi=>List.mem_range.mp (J2.mp hi).1;have hFl:((List.range st.meters.length).filter (pick st kd z)).length<=32:=by
    have:=Xp (pick st kd z) (List.range st.meters.length);rw[U4] at this;omega
   unfold Vbemai.sumOf at q;rw[hth,Xy] at q;generalize (List.range st.meters.length).filter (pick st kd z)=F at *
   walk_at "";refine qeh (SqL.of hL1) (fun i=>vI ((F.map fun j=>Vbemai.held st (j+1) h t u).take i)) rfl ?_ ?_
   ·intro D i H2 v hv p;rw[Jt] at hv;cases hj:F[i]? with
    |none=>rw[hj] at hv;cases hv
    | some j=>
      rw[hj] at hv;have hi:=(Ji.mp hj).1;obtain⟨x,m,hx,hm,hr1,_⟩:=geti j (hmemF j (J0 hj));have hv:qfd b j=v:=Jj hv;rw[hr1] at hv;subst hv;walk_at "";refine⟨rfl,?_⟩;walk_at "";refine qax ?_;walk_at "";refine⟨st,b,j,x,m,h,t,u,rfl,(B.same s1).same p.same,hx,hm,htu,hu,fun H3 s3=>?_⟩;refine p.yes (qa8 (by omega)) s3 ?_;show vI _=_;rw[zaq (y:=Vbemai.held st (j+1) h t u) (by rw[Jt,hj];rfl)]
   ·intro D H2 hD s2 hD2;walk_at "";refine⟨D,_,rfl,SqL.of hD2,?_⟩;rw[Jd,<- Jd (f:=fun j=>Vbemai.held st (j+1) h t u),Xh];exact q _ (s1.trans s2)
theorem qp6(T:Txt P w K mg A):
  Fn P w K mg base 5 "unread_meters" ["book","boundary"] (q8z A):=by
 refine T.q0l.go qke (fun _ _ _ _ h=>?_) (fun _ _ _ _ _ H _ Q _ hr h=>?_)
 ·obtain⟨st,b,t,rfl,_⟩:=h;rfl
 ·obtain⟨st,b,t,rfl,B,q⟩:=h;have hml:=B.good.ml;have hbl:=B.lm;refine⟨_,(vm (qdx rfl qke.nd (own:=[("number",2),("meter",3)]) (q5p rfl T.qox (vd (k9 K kj)) vh) (by walk_at "bk") (fun _ _ _ _ _=>(qfe (K':=K) (n:=2) rfl rfl (qb0 (qak 2 qke.nd) (qb0 (qak 3 qke.nd) qff)))) (fun _ _ _ _ _=>(qfh (qef (k8 (q1r T) hr (k6 ya kr))))) (fun _ _ _ _ _=>ku))),?_⟩;walk_at "in";refine⟨b.aM,_,rfl,rfl,SqL.of B.oM,?_⟩;refine qfl b.ms.length (fun i=>vN ((QM.numsTo i).filter fun m=>(Vbemai.meter? st m).any fun x=>QM.qf7 st m x t)) rfl (fun i H' hi s1=>⟨_,.ref b.ms[i].a,SqL.of (B.same s1).oM,by rw[Jt,Jo hi];rfl⟩) (fun H' s1=>⟨_,SqL.of (B.same s1).oM,by rw[Jd];exact Jp _⟩) ?_ ?_
  ·rintro D i H1 v H1' hi p ⟨tt,y,rfl,htt,rfl,hy⟩;have e1:=hy _ (SqL.of (B.same p.same).oM);have hm:b.ms[i]?=some b.ms[i]:=Jo hi;rw[Jt,hm] at e1;generalize b.ms[i]=m at *
   obtain rfl:V.ref m.a=y:=Jj e1;have hx:st.meters[i]?=some (st.meters[i]'(by omega)):=Jo _;generalize st.meters[i]'(by omega)=x at hx;have s2:=Kh.new (o:=.tup [.int ((i+1:Nat):Int),.ref m.a]) htt;have M1:=((B.same p.same).same s2).met hx hm;have hmx:=QM.meter?_at hx;have e9:upd H1 tt (.tup [.int ((i+1:Nat):Int),.ref m.a]) tt=some (.tup [.int ((i+1:Nat):Int),.ref m.a]):=kq;generalize upd H1 tt (.tup [.int ((i+1:Nat):Int),.ref m.a])=H2 at *
   walk_at "";refine qfk (SqT.of e9) rfl ?_;walk_at "";refine⟨rfl,?_⟩;walk_at "";refine⟨st,i+1,x,m,t,rfl,M1,fun H3 s3=>?_⟩;have hf:=QM.q0t (fun m=>(Vbemai.meter? st m).any fun x=>QM.qf7 st m x t) i;have hp:((Vbemai.meter? st (i+1)).any fun x=>QM.qf7 st (i+1) x t)=QM.qf7 st (i+1) x t:=by rw[hmx];rfl
   rw[hp] at hf;walk_at "";refine ifB (fun c=>?_) (fun c=>?_)
   ·rw[Je c] at hf;walk_at "";refine p.yes (qa8 (by omega)) (s2.trans s3) ?_;show vN _=_;rw[hf,qiv];rfl
   ·rw[Jc (by rw[c];exact Jr),Y7] at hf;refine p.no (s2.trans s3) ?_;show vN _=_;rw[hf]
  ·intro D H1 hD s1 hD1;refine q H1 D s1 hD ?_;rw[hD1,QM.zam,QM.qrv,<- hbl]
def qag:Nat->List Str
 | 1=>["kind","zone","second","boundary","digits","factor","start","profile","rate"]
 | 2=>["meter","boundary","version","value"]
 | 3=>["meter","boundary","end","start","digits","factor"]
 | 4=>["meter","boundary","end"]
 | 5=>["meter","rate"]
 | 6=>["meter","quarter","hand"]
 | 7=>["boundary"]
 | 8=>["from","to"]
 | 9=>["meter","boundary"]
 | 10=>["meter","boundary"]
 | 11=>["meter","quarter"]
 | 12=>["meter","from","to"]
 | 13=>["meter","boundary"]
 | 14=>["meter","quarter"]
 | 15=>["hand","zone","from","to"]
 | 16=>["zone","from","to"]
 | 17=>["from","to"]
 | 18=>["meter"]
 | 19=>["meter","most"]
 | 20=>["boundary"]
 | 21=>["from","to"]
 | 22=>[]
 |_=>[]
def ve:Nat->List (Int×Int)
 | 1=>[(0,2),(0,7),(0,7),(0,10000),(1,9),(1,10000),(0,999999999),(0,8),(0,1000000)]
 | 2=>[(1,32),(0,10000),(1,1000000),(-1,999999999)]
 | 3=>[(1,32),(0,10000),(0,999999999),(0,999999999),(1,9),(1,10000)]
 | 4=>[(1,32),(0,10000),(0,999999999)]
 | 5=>[(1,32),(0,1000000)]
 | 6=>[(1,32),(0,9999),(0,32)]
 | 7=>[(0,10000)]
 | 8=>[(0,10000),(0,10000)]
 | 9=>[(1,32),(0,10000)]
 | 10=>[(1,32),(0,10000)]
 | 11=>[(1,32),(0,9999)]
 | 12=>[(1,32),(0,10000),(0,10000)]
 | 13=>[(1,32),(0,10000)]
 | 14=>[(1,32),(0,9999)]
 | 15=>[(0,32),(0,7),(0,10000),(0,10000)]
 | 16=>[(0,7),(0,10000),(0,10000)]
 | 17=>[(0,10000),(0,10000)]
 | 18=>[(1,32)]
 | 19=>[(1,32),(0,1000000000000)]
 | 20=>[(0,10000)]
 | 21=>[(0,10000),(0,10000)]
 | 22=>[]
 |_=>[]
def Lim(P:Program)(w:World)(K:PySem.W.Frag)(A:Ads)(nm:Str)(l:Int×Int): Prop:=∃ u,Vn P w K A.qbp (Sum.inr nm) (.ref u)/\∀ H,SqT K H u [.int l.1,.int l.2]
inductive LL(R:Str->Int×Int->Prop): List Str->List (Int×Int)->Prop
 |nil:LL R [] []
 |cons {a b as bs}:R a b->LL R as bs->LL R (a::as) (b::bs)
theorem q3m(T:Txt P w K mg A): ∀ n:Nat,LL (Lim P w K A) (qag n) (ve n)
 | 1=>(LL.cons T.l_kind (LL.cons T.qmo (LL.cons T.q3g (LL.cons T.qeu (LL.cons T.qq3 (LL.cons T.qq4 (LL.cons T.qq7 (LL.cons T.q3f (LL.cons T.qq6 LL.nil)))))))))
 | 2=>(LL.cons T.qc2 (LL.cons T.qeu (LL.cons T.q3i (LL.cons T.q3h LL.nil))))
 | 3=>(LL.cons T.qc2 (LL.cons T.qeu (LL.cons T.l_end (LL.cons T.qq7 (LL.cons T.qq3 (LL.cons T.qq4 LL.nil))))))
 | 4=>(LL.cons T.qc2 (LL.cons T.qeu (LL.cons T.l_end LL.nil)))
 | 5=>(LL.cons T.qc2 (LL.cons T.qq6 LL.nil))
 | 6=>(LL.cons T.qc2 (LL.cons T.qmn (LL.cons T.qq5 LL.nil)))
 | 7=>(LL.cons T.qeu LL.nil)
 | 8=>(LL.cons T.qgq (LL.cons T.qgr LL.nil))
 | 9=>(LL.cons T.qc2 (LL.cons T.qeu LL.nil))
 | 10=>(LL.cons T.qc2 (LL.cons T.qeu LL.nil))
 | 11=>(LL.cons T.qc2 (LL.cons T.qmn LL.nil))
 | 12=>(LL.cons T.qc2 (LL.cons T.qgq (LL.cons T.qgr LL.nil)))
 | 13=>(LL.cons T.qc2 (LL.cons T.qeu LL.nil))
 | 14=>(LL.cons T.qc2 (LL.cons T.qmn LL.nil))
 | 15=>(LL.cons T.qq5 (LL.cons T.qmo (LL.cons T.qgq (LL.cons T.qgr LL.nil))))
 | 16=>(LL.cons T.qmo (LL.cons T.qgq (LL.cons T.qgr LL.nil)))
 | 17=>(LL.cons T.qgq (LL.cons T.qgr LL.nil))
 | 18=>(LL.cons T.qc2 LL.nil)
 | 19=>(LL.cons T.qc2 (LL.cons T.l_most LL.nil))
 | 20=>(LL.cons T.qeu LL.nil)
 | 21=>(LL.cons T.qgq (LL.cons T.qgr LL.nil))
 | 22=>LL.nil
 | 0=>LL.nil
 |n+23=>LL.nil
theorem qos(T:Txt P w K mg A): ∀ n:Nat,1<=n->n<=22->∃ u,Vn P w K A.qbc (Sum.inl (n:Int)) (.ref u)/\∀ H,SqT K H u ((qag n).map V.str)
 | 1,_,_=>T.a_1
 | 2,_,_=>T.a_2
 | 3,_,_=>T.a_3
 | 4,_,_=>T.a_4
 | 5,_,_=>T.a_5
 | 6,_,_=>T.a_6
 | 7,_,_=>T.a_7
 | 8,_,_=>T.a_8
 | 9,_,_=>T.a_9
 | 10,_,_=>T.a_10
 | 11,_,_=>T.a_11
 | 12,_,_=>T.a_12
 | 13,_,_=>T.a_13
 | 14,_,_=>T.a_14
 | 15,_,_=>T.a_15
 | 16,_,_=>T.a_16
 | 17,_,_=>T.a_17
 | 18,_,_=>T.a_18
 | 19,_,_=>T.a_19
 | 20,_,_=>T.a_20
 | 21,_,_=>T.a_21
 | 22,_,_=>T.a_22
 | 0,h,_=>absurd h (by decide)
 |n+23,_,h=>absurd h (by omega)
theorem qwu:∀ n:Nat,(qag n).Nodup
 | 1=>by decide +kernel
 | 2=>by decide +kernel
 | 3=>by decide +kernel
 | 4=>by decide +kernel
 | 5=>by decide +kernel
 | 6=>by decide +kernel
 | 7=>by decide +kernel
 | 8=>by decide +kernel
 | 9=>by decide +kernel
 | 10=>by decide +kernel
 | 11=>by decide +kernel
 | 12=>by decide +kernel
 | 13=>by decide +kernel
 | 14=>by decide +kernel
 | 15=>by decide +kernel
 | 16=>by decide +kernel
 | 17=>by decide +kernel
 | 18=>by decide +kernel
 | 19=>by decide +kernel
 | 20=>by decide +kernel
 | 21=>by decide +kernel
 | 22=>by decide +kernel
 | 0=>by decide +kernel
 |n+23=>Yb
theorem argN_w:∀ n:Nat,Str.ofString "weights"∉qag n
 | 1=>by decide +kernel
 | 2=>by decide +kernel
 | 3=>by decide +kernel
 | 4=>by decide +kernel
 | 5=>by decide +kernel
 | 6=>by decide +kernel
 | 7=>by decide +kernel
 | 8=>by decide +kernel
 | 9=>by decide +kernel
 | 10=>by decide +kernel
 | 11=>by decide +kernel
 | 12=>by decide +kernel
 | 13=>by decide +kernel
 | 14=>by decide +kernel
 | 15=>by decide +kernel
 | 16=>by decide +kernel
 | 17=>by decide +kernel
 | 18=>by decide +kernel
 | 19=>by decide +kernel
 | 20=>by decide +kernel
 | 21=>by decide +kernel
 | 22=>by decide +kernel
 | 0=>by decide +kernel
 |n+23=>Xa
def gK:List Str->List Int->List (Key×V)
 |k::ks,v::vs=>(Sum.inr k,.int v)::gK ks vs
 |_,_=>[]
theorem qqa:∀ (ks:List Str) (vs:List Int),(ks.map (Sum.inr:Str->Key)).zip (vI vs)=gK ks vs
 |[],_=>by simp[gK]
 |_::_,[]=>by simp[gK,vI]
 | k::ks,v::vs=>by
   show (Sum.inr k,V.int v)::(ks.map (Sum.inr:Str->Key)).zip (vI vs)=_;rw[qqa ks vs];rfl
theorem qri:∀ (l acc:List (Key×V)),((acc++l).map (·.1)).Nodup->qdj acc l=acc++l
 |[],acc,_=>(Y7 acc).symm
 | (k,v)::l,acc,h=>by
   have e:putK acc k v=acc++[(k,v)]:=by
    unfold putK;rw[Jc];intro q;obtain⟨e,he,hk⟩:=Y9.mp q;have hk:e.1=k:=Zl hk;rw[Jv,Zi] at h;exact h.2.2 e.1 (Jk.mpr ⟨e,he,rfl⟩) k (by simp) hk
   show qdj (putK acc k v) l=_;rw[e,qri l (acc++[(k,v)]) (by rw[Yv];exact h),Yv];rfl
theorem qjd:∀ (ks:List Str) (vs:List Int),ks.length=vs.length->(gK ks vs).map (·.1)=ks.map (Sum.inr:Str->Key)
 |[],_,_=>rfl
 |_::_,[],h=>by cases h
 | k::ks,v::vs,h=>by
   show Sum.inr k::(gK ks vs).map (·.1)=_;rw[qjd ks vs (by simpa using h)];rfl
theorem q30{ks:List Str}{vs:List Int}(hn:ks.Nodup)(hl:ks.length=vs.length): qdj [] ((ks.map (Sum.inr:Str->Key)).zip (vI vs))=gK ks vs:=by
 rw[qqa];refine qri _ [] ?_;rw[List.nil_append,qjd ks vs hl];unfold List.Nodup at hn ⊢;rw[U3];exact hn.imp fun h z=>h (Sum.inr.inj z)
def qn1(K:PySem.W.Frag): Sp:=fun vs H Q _=>∃ (a:Addr) (l:List Int) (i:Nat) (p:Int),vs=[.ref a,.int (i:Int)]/\SqL K H a (vI l)/\l[i]?=some p /\
 ((p=0/\∃ n:Nat,l[i+1]?=some (n:Int)/\Q (.int ((i+2+n:Nat):Int)) H)\/∃ k:Nat,p=(k:Int)/\1<=k/\k<=22/\Q (.int ((i+1+(qag k).length:Nat):Int)) H)
def q8i(K:PySem.W.Frag): Sp:=fun vs H Q _=>∃ (a:Addr) (c:List Int),vs=[.ref a]/\SqL K H a (vI c) /\
 ((∃ n row,c=0::n::row/\∀ H' g l,Kh H H'->H g=none->H' g=some (.dK [(Sum.inr "weights",.ref l)])->H' l=some (.lst (vI row))->Q (.ref g) H') \/
  ∃ (k:Nat) (as:List Int),c=(k:Int)::as/\1<=k/\k<=22/\as.length=(qag k).length/\∀ H' g,Kh H H'->H g=none->H' g=some (.dK (gK (qag k) as))->Q (.ref g) H')
def q8f(P:Program)(w:World)(K:PySem.W.Frag)(A:Ads): Sp:=fun vs H Q _=>∃ (nm:Str) (l:Int×Int) (z:Int),vs=[.str nm,.int z]/\Lim P w K A nm l/\Q (.bl (Vbemai.inside z l.1 l.2)) H
def q71(K:PySem.W.Frag): Sp:=fun vs H Q _=>∃ (a:Addr) (l:List Int),vs=[.ref a]/\SqL K H a (vI l)/\l.length<=1000/\∀ H',Kh H H'->Q (.bl (decide (1<=l.length)&&(decide (l.length<=96)&&l.all fun w=>Vbemai.inside w 0 1000))) H'
def vc:List (Int×Int)->List Int->Bool
 |l::ls,z::zs=>Vbemai.inside z l.1 l.2&&vc ls zs
 |_,_=>true
def q7z(P:Program)(w:World)(K:PySem.W.Frag)(A:Ads): Sp:=fun vs H Q _=>∃ g:Addr,vs=[.ref g] /\
 ((∃ l row,H g=some (.dK [(Sum.inr "weights",.ref l)])/\H l=some (.lst (vI row))/\row.length<=1000/\∀ H',Kh H H'->Q (.bl (decide (1<=row.length)&&(decide (row.length<=96)&&row.all fun w=>Vbemai.inside w 0 1000))) H') \/
  ∃ (ks:List Str) (ls:List (Int×Int)) (as:List Int),H g=some (.dK (gK ks as))/\LL (Lim P w K A) ks ls/\as.length=ks.length/\Str.ofString "weights"∉ks/\ks.length<=100/\∀ H',Kh H H'->Q (.bl (vc ls as)) H')
def qu8:Sp:=fun vs H Q _=>∃ (g:Addr) (kvs:List (Key×V)),vs=[.ref g]/\H g=some (.dK kvs) /\
 ((vj kvs (Sum.inr (Str.ofString "to"))=none/\Q (.bl false) H)\/∃ a b:Int,vj kvs (Sum.inr (Str.ofString "to"))=some (.int b)/\vj kvs (Sum.inr (Str.ofString "from"))=some (.int a)/\Q (.bl (decide (b<a))) H)
abbrev ads(A:Ads)(s:Sta)(b:Qad): List Addr:=(qck A s b).map (·.1)
def Qav(H H':Hp): Prop:=∀ a o,H a=some o->∃ o',H' a=some o'
theorem Qav.of_same{H H':Hp}(e:Kh H H'): Qav H H':=fun a o h=>⟨o,e _ _ h⟩
theorem Qav.trans{H H1 H2:Hp}(h1:Qav H H1)(h2:Qav H1 H2): Qav H H2:=fun a o h=>by obtain⟨o',h'⟩:=h1 a o h;exact h2 a o' h'
theorem Qav.upd{H H1:Hp}{p:Addr}{o:HO}(h:Qav H H1): Qav H (L2.upd H1 p o):=fun a u q=>by
 by_cases e:a=p
 ·subst e;exact⟨o,kq⟩
 ·rw[qc e];exact h a u q
theorem Qav.free{H H':Hp}(h:Qav H H'){l:Addr}(e:H' l=none): H l=none:=by
 cases q:H l with
 |none=>rfl
 |some o=>obtain⟨o',h'⟩:=h l o q;rw[h'] at e;cases e
structure Qae(A:Ads)(H:Hp)(s:Sta)(b:Qad)(H':Hp)(s':Sta)(b':Qad): Prop where
 bat:BAt A H' s' b'
 ba:b'.a=b.a
 fr:∀ a o,a∉ads A s b->H a=some o->H' a=some o
 nw:∀ a∈ads A s' b',a∈ads A s b\/H a=none
 lv:Qav H H'
theorem Qae.of_same{H H':Hp}{s:Sta}{b:Qad}(B:BAt A H s b)(e:Kh H H'): Qae A H s b H' s b:=⟨B.same e,rfl,fun a o _ h=>e _ _ h,fun a h=>.inl h,Qav.of_same e⟩
def GV(H:Hp)(g:Addr)(n:Nat)(as:List Int): Prop:=H g=some (.dK (gK (qag n) as))
theorem GV.same{H H':Hp}{g:Addr}{n:Nat}{as:List Int}(h:GV H g n as)(e:Kh H H'): GV H' g n as:=e _ _ h
abbrev GQ:=Hp->Addr->Sta->Vbemai.Call->Prop
def qbl(A:Ads)(G:GQ): Sp:=fun vs H Q _=>∃ (s:Sta) (b:Qad) (g:Addr) (c:Vbemai.Call),vs=[.ref b.a,.ref g]/\BAt A H s b/\g∉ads A s b/\G H g s c /\
 ∀ H' b' l,Qae A H s b H' (Vbemai.step s c).1 b'->H l=none->H' l=some (.lst (vI (Vbemai.step s c).2))->Q (.ref l) H'
def gq0:GQ:=fun H g s c=>∃ (l:Addr) (row:List Nat),c = .profile row/\H g=some (.dK [(Sum.inr "weights",.ref l)])/\H l=some (.lst (vI (wts row)))/\QM.Qd2 c
def gq1:GQ:=fun H g s c=>∃ (k z y t d:Nat) (f v:Int) (p:Nat) (r:Int),c = .install k z y t d f v p r/\GV H g 1 [(k:Int),z,y,t,d,f,v,p,r]/\QM.Qd2 c/\p<=8
def gq2:GQ:=fun H g s c=>∃ (i t n:Nat) (v:Int) (x:Met),c = .read (i+1) t n v/\GV H g 2 [((i+1:Nat):Int),t,n,v]/\QM.Qd2 c/\s.meters[i]?=some x
def gq3:GQ:=fun H g s c=>∃ (i t:Nat) (e v:Int) (d:Nat) (f:Int) (x:Met),c = .swap (i+1) t e v d f/\GV H g 3 [((i+1:Nat):Int),t,e,v,d,f]/\QM.Qd2 c/\s.meters[i]?=some x
def gq4:GQ:=fun H g s c=>∃ (i t:Nat) (e:Int) (x:Met),c = .remove (i+1) t e/\GV H g 4 [((i+1:Nat):Int),t,e]/\QM.Qd2 c/\s.meters[i]?=some x
def gq5:GQ:=fun H g s c=>∃ (i:Nat) (r:Int) (x:Met),c = .rate (i+1) r/\GV H g 5 [((i+1:Nat):Int),r]/\QM.Qd2 c/\s.meters[i]?=some x
def gq6:GQ:=fun H g s c=>∃ (i q h:Nat) (x:Met),c = .assign (i+1) q h/\GV H g 6 [((i+1:Nat):Int),q,h]/\QM.Qd2 c/\s.meters[i]?=some x
def gq7:GQ:=fun H g s c=>∃ t:Nat,c = .lock t/\GV H g 7 [(t:Int)]/\QM.Qd2 c
def gq8:GQ:=fun H g s c=>∃ a b:Nat,c = .publish a b/\GV H g 8 [(a:Int),b]/\a<=b/\b<=10000
def gq9:GQ:=fun H g s c=>∃ (i t:Nat) (x:Met),c = .standing (i+1) t/\GV H g 9 [((i+1:Nat):Int),t]/\s.meters[i]?=some x
def gq10:GQ:=fun H g s c=>∃ (i t:Nat) (x:Met),c = .history (i+1) t/\GV H g 10 [((i+1:Nat):Int),t]/\s.meters[i]?=some x
def gq11:GQ:=fun H g s c=>∃ (i q:Nat) (x:Met),c = .value (i+1) q/\GV H g 11 [((i+1:Nat):Int),q]/\q<=9999/\s.meters[i]?=some x
def gq12:GQ:=fun H g s c=>∃ (i a b:Nat) (x:Met),c = .between (i+1) a b/\GV H g 12 [((i+1:Nat):Int),a,b]/\a<=b/\b<=10000/\s.meters[i]?=some x
def gq13:GQ:=fun H g s c=>∃ (i t:Nat) (x:Met),c = .through (i+1) t/\GV H g 13 [((i+1:Nat):Int),t]/\t<=10000/\s.meters[i]?=some x
def gq14:GQ:=fun H g s c=>∃ (i q:Nat) (x:Met),c = .hand (i+1) q/\GV H g 14 [((i+1:Nat):Int),q]/\s.meters[i]?=some x
def gq15:GQ:=fun H g s c=>∃ h z a b:Nat,c = .total h z a b/\GV H g 15 [(h:Int),z,a,b]/\a<=b/\b<=10000
def gq16:GQ:=fun H g s c=>∃ z a b:Nat,c = .rest z a b/\GV H g 16 [(z:Int),a,b]/\a<=b/\b<=10000
def gq17:GQ:=fun H g s c=>∃ a b:Nat,c = .nets a b/\GV H g 17 [(a:Int),b]/\a<=b/\b<=10000
def gq18:GQ:=fun H g s c=>∃ (i:Nat) (x:Met),c = .gaps (i+1)/\GV H g 18 [((i+1:Nat):Int)]/\s.meters[i]?=some x
def gq19:GQ:=fun H g s c=>∃ (i:Nat) (r:Int) (x:Met),c = .doubt (i+1) r/\GV H g 19 [((i+1:Nat):Int),r]/\0<=r/\r<=1000000000000/\s.meters[i]?=some x
def gq20:GQ:=fun H g s c=>∃ t:Nat,c = .unread t/\GV H g 20 [(t:Int)]
def gq21:GQ:=fun H g s c=>∃ a b:Nat,c = .published a b/\GV H g 21 [(a:Int),b]
def gq22:GQ:=fun H g s c=>c = .state/\GV H g 22 []
def gqN:Nat->GQ
 | 0=>gq0 | 1=>gq1 | 2=>gq2 | 3=>gq3 | 4=>gq4 | 5=>gq5 | 6=>gq6 | 7=>gq7 | 8=>gq8 | 9=>gq9 | 10=>gq10 | 11=>gq11 | 12=>gq12 | 13=>gq13 | 14=>gq14 | 15=>gq15 | 16=>gq16 | 17=>gq17 | 18=>gq18 | 19=>gq19 | 20=>gq20 | 21=>gq21|_=>gq22
def qha(A:Ads)(lo hi:Nat): Sp:=fun vs H Q _=>∃ (s:Sta) (b:Qad) (g:Addr) (c:Vbemai.Call) (n:Nat),vs=[.ref b.a,.int (n:Int),.ref g]/\lo<=n/\n<=hi/\BAt A H s b/\g∉ads A s b/\gqN n H g s c /\
 ∀ H' b' l,Qae A H s b H' (Vbemai.step s c).1 b'->H l=none->H' l=some (.lst (vI (Vbemai.step s c).2))->Q (.ref l) H'
theorem qba{H:Hp}{Q:VK}{a u:Addr}{i:Int}(e:Vn P w K a (Sum.inl i) (.ref u))(h:Q (.ref u) H): rGD P w K a (.int i) H Q:=⟨Sum.inl i,_,.ref u,rfl,e,rfl,h⟩
theorem r_gdS{H:Hp}{Q:VK}{a u:Addr}{x:Str}(e:Vn P w K a (Sum.inr x) (.ref u))(h:Q (.ref u) H): rGD P w K a (.str x) H Q:=⟨Sum.inr x,_,.ref u,rfl,e,rfl,h⟩
theorem q1h(T:Txt P w K mg A): Fn P w K mg base 1 "call_end" ["calls","at"] (qn1 K):=by
 refine T.qy5.go q63 (fun _ _ _ _ h=>?_) (fun _ _ _ _ _ H _ Q _ hr h=>?_)
 ·obtain⟨a,l,i,p,rfl,_⟩:=h;rfl
 ·obtain⟨a,l,i,p,rfl,hs,hp,q⟩:=h;refine⟨_,(ko (qab (yb qbf (qa1 K kj kr) (vf T.qo7)) (qaf qca (qaf qca kr vh) (qa1 K kj (qaf qca kr vh)))) (vm (qaf qca (qaf qca kr vh) (x_len T.qbd (qh9 T.qrg rfl (qa1 K kj kr) (fun _ _=>rfl)))))),?_⟩;walk_at "in";refine qat hs (qap (qc6 hp)) ?_;walk_at "";rcases q with ⟨rfl,n,hn,q⟩|⟨k,rfl,h1,h2,q⟩
  ·refine qax ?_;walk_at "";refine qat hs (show atI _ ((i:Int)+1)=_ from qap (j:=i+1) (qc6 hn)) ?_;walk_at "";have e:(i:Int)+2+n=((i+2+n:Nat):Int):=by omega
   rw[e];exact q
  ·refine ifD (fun c=>by omega) (fun c=>?_);walk_at "";refine qat hs (qap (qc6 hp)) ?_;walk_at "";obtain⟨u,hu,hsu⟩:=qos T k h1 h2;refine qba hu ?_;walk_at "";refine qbb (lenT (hsu H)) ?_;walk_at "";rw[Jd];have e:(i:Int)+1+((qag k).length:Int)=((i+1+(qag k).length:Nat):Int):=by omega
   rw[e];exact q
theorem cutK(xs:List V)(k:Nat)(h:k<=xs.length): qcx xs (some (k:Int)) none=xs.drop k:=by
 unfold qcx;rw[HT.qj2,HT.qsq,Nat.min_eq_left h,Wz];rw[Qg];exact Jp _
theorem q2v{tk tv:TE}{σ:St}{H:Hp}{Q:VK}(h:∀ p,H p=none->tk σ (upd H p (.dK [])) fun x H1=>tv σ H1 fun y H2=>H2 p=some (.dK [])/\∃ k:Key,x=kV k/\Q (.ref p) (upd H2 p (.dK [(k,y)]))): tDisp [(tk,tv)] σ H Q:=by
 intro p hp;show tk σ _ fun x H1=>tv σ H1 fun y H2=>H2 p=some (.dK [])/\_;have:(fun (x:V) (H1:Hp)=>tv σ H1 fun y H2=>H2 p=some (.dK [])/\∃ k:Key,x=kV k/\Q (.ref p) (upd H2 p (.dK [(k,y)])))=fun x H1=>tv σ H1 fun y H2=>H2 p=some (.dK [])/\∃ kvs:List (Key×V),[(x,y)]=kvs.map (fun kv=>(kV kv.1,kv.2))/\kvs.length<=15/\Q (.ref p) (upd H2 p (.dK (qdj [] kvs))):=by
  funext x H1;congr 1;funext y H2;refine propext ⟨fun ⟨h1,k,hk,hq⟩=>⟨h1,[(k,y)],by rw[hk];rfl,by simp,hq⟩,fun ⟨h1,kvs,hk,_,hq⟩=>⟨h1,?_⟩⟩;match kvs,hk with
  | [(k,y')],hk=>
    have hk:=Ze hk;have e1:=(Ww hk.1).1;have e2:=(Ww hk.1).2;subst e2;exact⟨k,e1,hq⟩
 rw[<- this];exact h p hp
theorem q1t(T:Txt P w K mg A): Fn P w K mg base 1 "named_arguments" ["call"] (q8i K):=by
 refine T.qzs.go q7e (fun _ _ _ _ h=>?_) (fun _ _ _ _ _ H _ Q _ hr h=>?_)
 ·obtain⟨a,c,rfl,_⟩:=h;rfl
 ·obtain⟨a,c,rfl,hs,q⟩:=h;refine⟨_,(ko (qab (yb qbf (qa1 K kj vh) (vf T.qo7)) (q5d (q5v vo (qib qip kj (qgx vh) qjx) q5w) rfl rfl (fun q=>nomatch q) (by decide))) (vm (q5c rfl T.b_dict rfl T.qi4 (k6 (qh9 T.qrg rfl (qa1 K kj vh) (fun _ _=>rfl)) (qib qip kj (qgx vh) qjx))))),?_⟩;walk_at "in";rcases q with ⟨n,row,rfl,q⟩|⟨k,as,rfl,h1,h2,hl,q⟩
  ·refine qat hs (qap (j:=0) rfl) ?_;walk_at "";refine qax ?_;walk_at "";refine q2v fun g hg=>?_;have s1:=Kh.new (o:=.dK []) hg;walk_at "";refine qig (s1.seq hs) fun l hl=>?_;have e1:qcx (vI (0::n::row)) (some 2) none=vI row:=cutK _ 2 (by simp[vI]);rw[e1];have hgl:g≠l:=by intro z;subst z;rw[kq] at hl;cases hl
   refine⟨by rw[qc hgl];exact kq,Sum.inr "weights",rfl,?_⟩;refine q _ g l ?_ hg kq (by rw[qc hgl.symm,kq]);exact Kh.upd (s1.trans (Kh.new hl)) hg
  ·refine qat hs (qap (j:=0) rfl) ?_;walk_at "";refine ifD (fun c=>by omega) (fun c=>?_);walk_at "";refine qat hs (qap (j:=0) rfl) ?_;walk_at "";obtain⟨u,hu,hsu⟩:=qos T k h1 h2;refine qba hu ?_;walk_at "";refine qig hs fun l hl2=>?_;have e1:qcx (vI ((k:Int)::as)) (some 1) none=vI as:=cutK _ 1 (by simp[vI]);rw[e1];have s1:=Kh.new (o:=.lst (vI as)) hl2;walk_at "";refine⟨u,l,(qag k).map Sum.inr,vI as,rfl,?_,SqL.of kq,by rw[Jd,qa9,hl],fun g hg=>?_⟩
   ·have e2:((qag k).map (Sum.inr:Str->Key)).map kV=(qag k).map V.str:=by rw[Xy];rfl
    rw[e2];exact hsu _
   ·rw[q30 (qwu k) hl.symm];exact q _ g (s1.trans (Kh.new hg)) (s1.free hg) kq
theorem qp0(T:Txt P w K mg A): Fn P w K mg base 1 "is_within" ["name","number"] (q8f P w K A):=by
 refine T.qzm.go qu0 (fun _ _ _ _ h=>?_) (fun _ _ _ _ _ H _ Q _ hr h=>?_)
 ·obtain⟨nm,l,z,rfl,_⟩:=h;rfl
 ·obtain⟨nm,l,z,rfl,⟨u,hu,hsu⟩,q⟩:=h;refine⟨_,(ko (vt 2 qu0.nd (qh9 T.q3q rfl kj (fun _ _=>rfl))) (vm (qr1 qdu qdu (qdo K ku vh) kr (qdo K ku vh)))),?_⟩;walk_at "in";refine r_gdS hu ?_;walk_at "";refine qdm (hsu H) (qap (j:=0) rfl) ?_;walk_at "";unfold Vbemai.inside at q;refine ifD (fun c=>?_) (fun c=>?_)
  ·rw[Xm c,Bool.true_and] at q;walk_at "";refine qdm (hsu H) (qap (j:=1) rfl) ?_;walk_at "";exact q
  ·rw[J7 c,Uv] at q;exact q
theorem q00(T:Txt P w K mg A): Fn P w K mg base 2 "are_weights" ["row"] (q71 K):=by
 refine T.qyn.go qnm (fun _ _ _ _ h=>?_) (fun _ _ _ _ _ H _ Q _ hr h=>?_)
 ·obtain⟨a,l,rfl,_⟩:=h;rfl
 ·obtain⟨a,l,rfl,hs,hl,q⟩:=h;refine⟨_,(vm (qm6 (qr1 qdu qdu vh (x_len T.qbd kj) (vf T.qxk)) (qm8 (qed (qph rfl) rfl T.b_all QP.boot_all (vd (qdx rfl qnm.nd (own:=[("weight",1)]) (qb1 kj) (by walk_at "bk") (fun _ _ _ _ _=>(qak 1 qnm.nd)) (fun _ _ _ _ _=>qez) (fun _ _ _ _ _=>(k8 (qp0 T) hr (k6 vo kr))))))))),?_⟩;walk_at "in";refine qbb (qbz hs) ?_;rw[qa9];walk_at "";refine ifD (fun c=>?_) (fun c=>?_)
  ·rw[Xm (show 1<=l.length by omega),Bool.true_and] at q;walk_at "";refine ifD (fun c2=>?_) (fun c2=>?_)
   ·rw[Xm (show l.length<=96 by omega),Bool.true_and] at q;walk_at "";refine qeh hs (fun i=>((l.take i).map fun w=>Vbemai.inside w 0 1000).map V.bl) rfl ?_ ?_
    ·intro D i H1 v hv p;obtain⟨z,hz,rfl⟩:=qkq hv;have hi:=(Ji.mp hz).1;walk_at "";refine⟨rfl,?_⟩;walk_at "";refine qax ?_;walk_at "";refine⟨_,(0,1000),z,rfl,T.q3j,?_⟩;refine p.yes (qa8 (by omega)) (Kh.refl _) ?_;show List.map V.bl (List.map _ (l.take (i+1)))=_;rw[Xq,hz];simp only[Jv,Option.toList,Jq,Zv]
    ·intro D H1 hD s1 hD1;rw[qa9,Xh] at hD1;walk_at "";refine⟨D,_,rfl,SqL.of hD1,?_⟩;have e9:(l.map fun w=>Vbemai.inside w 0 1000).all id=l.all fun w=>Vbemai.inside w 0 1000:=by rw[List.all_map];rfl
     rw[e9];exact q H1 s1
   ·rw[J7 (show ¬ l.length<=96 by omega),Uv] at q;walk_at "";exact q H (Kh.refl H)
  ·rw[J7 (show ¬ 1<=l.length by omega),Uv] at q;walk_at "";exact q H (Kh.refl H)
theorem gK_at:∀ {ks:List Str} {vs:List Int} {i:Nat} {k:Key} {v:V},(gK ks vs)[i]?=some (k,v)->∃ x z,ks[i]?=some x/\vs[i]?=some z/\k=Sum.inr x/\v = .int z
 |[],_,_,_,_,h=>by simp[gK] at h
 |_::_,[],_,_,_,h=>by simp[gK] at h
 | k::ks,z::vs,0,_,_,h=>by
   simp[gK] at h;exact⟨k,z,rfl,rfl,h.1.symm,h.2.symm⟩
 | k::ks,z::vs,i+1,_,_,h=>by
   simp[gK] at h;obtain⟨x,z',h1,h2,h3,h4⟩:=gK_at h;exact⟨x,z',by simpa using h1,by simpa using h2,h3,h4⟩
theorem LL.at{R:Str->Int×Int->Prop}{ks:List Str}{ls:List (Int×Int)}(h:LL R ks ls): ks.length=ls.length/\∀ (i:Nat) (k:Str),ks[i]?=some k->∃ l,ls[i]?=some l/\R k l:=by
 induction h with
 |nil=>exact⟨rfl,fun i k h=>by simp at h⟩
 | cons hr _ ih=>
   refine⟨by simp[ih.1],fun i k hk=>?_⟩;cases i with
   |zero=>simp at hk;subst hk;exact⟨_,rfl,hr⟩
   |succ i=>exact ih.2 i k (by simpa using hk)
def wl(ls:List (Int×Int))(as:List Int)(i:Nat): List Bool:=(List.zipWith (fun (l:Int×Int) z=>Vbemai.inside z l.1 l.2) ls as).take i
theorem qwh:∀ (ls:List (Int×Int)) (as:List Int),(List.zipWith (fun (l:Int×Int) z=>Vbemai.inside z l.1 l.2) ls as).all id=vc ls as
 |[],_=>by simp[vc]
 |_::_,[]=>by simp[vc]
 | l::ls,z::as=>by
   rw[W3,Qc,qwh ls as];rfl
theorem zat{ks:List Str}{as:List Int}{x:Str}(h:x∉ks)(hl:as.length=ks.length): vj (gK ks as) (Sum.inr x)=none:=by
 cases e:vj (gK ks as) (Sum.inr x) with
 |none=>rfl
 | some v=>
   have:=zas e;rw[qjd ks as hl.symm] at this;obtain⟨y,hy,hxy⟩:=Jk.mp this;cases hxy;exact absurd hy h
theorem q0w(T:Txt P w K mg A):
  Fn P w K mg base 3 "all_within" ["given"] (q7z P w K A):=by
 refine T.qyj.go qj9 (fun _ _ _ _ h=>?_) (fun _ _ _ _ _ H _ Q _ hr h=>?_)
 ·obtain⟨g,rfl,_⟩:=h;rfl
 ·obtain⟨g,rfl,h⟩:=h;have hu:=qan hr;refine⟨_,(ko (qab (qg1 (qjv hu vo kj)) (k8 (q00 T) hr (vd (vq hu kj vo)))) (vm (qed (qph rfl) rfl T.b_all QP.boot_all (vd (qm7 (qdx rfl qj9.nd (own:=[("name",1),("number",2)]) (q5q kj) (by walk_at "bk") (fun _ _ _ _ _=>(qfe (K':=K) (n:=2) rfl rfl (qb0 (qak 1 qj9.nd) (qb0 (qak 2 qj9.nd) qff)))) (fun _ _ _ _ _=>qez) (fun _ _ _ _ _=>(k8 (qp0 T) hr (k6 kr ku))))))))),?_⟩;rcases h with ⟨l,row,hg,hl,hlen,q⟩|⟨ks,ls,as,hg,hL,hal,hnw,hkl,q⟩
  ·walk_at "in";refine qg3 hg ?_;walk_at "";refine qax ?_;walk_at "";refine vp hg (v:=.ref l) rfl ?_;walk_at "";exact⟨l,row,rfl,SqL.of hl,hlen,q⟩
  ·walk_at "in";refine qg3 hg ?_;rw[zat hnw hal];walk_at "";refine qa3 ?_;walk_at "";refine⟨g,_,hg,True.intro,fun od=>?_⟩;have e0:upd H g (.frz od (.dK (gK ks as))) g=some (.frz od (.dK (gK ks as))):=kq;walk_at "";have hgl:(gK ks as).length=ks.length:=by have:=Yk List.length (qjd ks as hal.symm);rw[Jd,Jd] at this;exact this
   refine qfl ks.length (fun i=>(wl ls as i).map V.bl) (by simp[wl]) (fun i H' hi s2=>⟨s2 _ _ e0,by rw[hgl];exact hi⟩) (fun H' s2=>⟨s2 _ _ e0,by rw[hgl];exact Jp _⟩) ?_ ?_
   ·rintro D i H1 v H' hi p ⟨t,kk,vv,h1,rfl,ht,rfl⟩;obtain⟨x,z,hx,hz,rfl,rfl⟩:=gK_at h1;obtain⟨lm,hlm,hLim⟩:=hL.at.2 i x hx;have s2:=Kh.new (o:=.tup [kV (Sum.inr x),.int z]) ht;walk_at "";refine qfk (xs:=[.str x,.int z]) (SqT.of kq) rfl ?_;walk_at "";refine⟨rfl,?_⟩;walk_at "";refine qax ?_;walk_at "";refine⟨x,lm,z,rfl,hLim,?_⟩;refine p.yes (qa8 (by omega)) s2 ?_;show List.map V.bl (wl ls as (i+1))=_;unfold wl;have e5:(List.zipWith (fun (l:Int×Int) z=>Vbemai.inside z l.1 l.2) ls as)[i]?=some (Vbemai.inside z lm.1 lm.2):=by
     rw[List.getElem?_zipWith,hlm,hz]
    rw[Xq,e5];simp
   ·intro D H' hD s2 hD2;obtain⟨s3,hD3,hD4,hd⟩:=qmq hg s2 hD hD2;refine⟨hd,?_⟩;walk_at "";refine⟨D,_,rfl,SqL.of hD4,?_⟩;have e6:wl ls as ks.length=List.zipWith (fun (l:Int×Int) z=>Vbemai.inside z l.1 l.2) ls as:=by
     unfold wl;rw[Wz];rw[Qv,<- hL.at.1];omega
    rw[e6,qwh];exact q _ s3
theorem q1p(T:Txt P w K mg A): Fn P w K mg base 1 "is_backwards" ["given"] qu8:=by
 refine T.qzi.go q69 (fun _ _ _ _ h=>?_) (fun _ _ _ _ _ H _ Q _ hr h=>?_)
 ·obtain⟨g,kvs,rfl,_⟩:=h;rfl
 ·obtain⟨g,kvs,rfl,hg,h⟩:=h;have hu:=qan hr;refine⟨_,(vm (qm6 (pe_cmp (qjv hu vo kj)) (qm8 (qga qey (vq hu kj vo) (vq hu kj vo))))),?_⟩;walk_at "in";refine qg3 hg ?_;rcases h with ⟨hn,q⟩|⟨a,b,hb,ha,q⟩
  ·rw[hn];walk_at "";refine qa3 ?_;exact q
  ·rw[hb];walk_at "";refine qax ?_;walk_at "";refine vp hg hb ?_;walk_at "";refine vp hg ha ?_;walk_at "";exact q
theorem BAt.qex{H:Hp}{s:Sta}{b:Qad}(B:BAt A H s b){i:Nat}{x:Met}(h:s.meters[i]?=some x): ∃ m,b.ms[i]?=some m:=by
 have hi:=(Ji.mp h).1;have hi2:i<b.ms.length:=by rw[B.lm];exact hi
 exact⟨_,Jo hi2⟩
section
variable {s:Sta} {i:Nat} {x:Met}
theorem q9m(h:s.meters[i]?=some x)(t:Nat): Vbemai.step s (.standing (i+1) t)=(s,0::match QM.qcc s (i+1) t with|none=>[0]|some p=>[(p.1:Int),p.2]):=by
 unfold Vbemai.step;simp only[Vbemai.does,QM.meter?_at h,QM.at_eq];show (s,0::_)=_;unfold QM.qcc;cases (QM.atT t (Vbemai.readingsOf s (i+1))).getLast? with
 |none=>rfl
 | some r=>
   show (s,0::if r.value<0 then [0] else [Vbemai.nat r.version,r.value])=(s,0::match (if r.value<0 then none else some (r.version,r.value)) with|none=>[0]|some p=>[(p.1:Int),p.2])
   by_cases hv:r.value<0
   ·rw[Je hv,Je hv]
   ·rw[Jc hv,Jc hv];rfl
theorem q9a(h:s.meters[i]?=some x)(t:Nat): Vbemai.step s (.history (i+1) t)=(s,0::((QM.atT t (Vbemai.readingsOf s (i+1))).length:Int)::((QM.atT t (Vbemai.readingsOf s (i+1))).map fun r=>[(r.version:Int),r.value]).flatten):=by
 unfold Vbemai.step;simp only[Vbemai.does,QM.meter?_at h,QM.at_eq];show (s,0::Vbemai.rows _)=_;unfold Vbemai.rows;rw[Jd];rfl
theorem q9s(h:s.meters[i]?=some x)(q:Nat): Vbemai.step s (.value (i+1) q)=(s,[0,(Vbemai.status s (i+1) q:Int),Vbemai.between s (i+1) q (q+1)]):=by
 unfold Vbemai.step;simp only[Vbemai.does,QM.meter?_at h];rfl
theorem q86(h:s.meters[i]?=some x){a b:Nat}(hab:a<=b): Vbemai.step s (.between (i+1) a b)=(s,[0,Vbemai.between s (i+1) a b]):=by
 unfold Vbemai.step;simp only[Vbemai.does,QM.meter?_at h];rw[Jc (by simp),Jc (by omega)]
theorem q9p(h:s.meters[i]?=some x)(t:Nat): Vbemai.step s (.through (i+1) t)=(s,[0,Vbemai.by_ s (i+1) t]):=by
 unfold Vbemai.step;simp only[Vbemai.does,QM.meter?_at h];rfl
theorem q89(h:s.meters[i]?=some x)(q:Nat): Vbemai.step s (.hand (i+1) q)=(s,[0,(Vbemai.hand s (i+1) q:Int)]):=by
 unfold Vbemai.step;simp only[Vbemai.does,QM.meter?_at h];rfl
theorem q9q{h z a b:Nat}(hab:a<=b): Vbemai.step s (.total h z a b)=(s,[0,Vbemai.handIn s h z a b,Vbemai.handOut s h z a b]):=by
 unfold Vbemai.step;simp only[Vbemai.does];rw[Jc (by omega)]
theorem q9l{z a b:Nat}(hab:a<=b): Vbemai.step s (.rest z a b)=(s,[0,Vbemai.rest s z a b]):=by
 unfold Vbemai.step;simp only[Vbemai.does];rw[Jc (by omega)]
theorem q9d{a b:Nat}(hab:a<=b): Vbemai.step s (.nets a b)=(s,0::Vbemai.told (Vbemai.netsOf s a b)):=by
 unfold Vbemai.step;simp only[Vbemai.does];rw[Jc (by omega)]
theorem q88(h:s.meters[i]?=some x): Vbemai.step s (.gaps (i+1))=(s,0::((Vbemai.gaps (Vbemai.knotsOf s (i+1))).length:Int)::((Vbemai.gaps (Vbemai.knotsOf s (i+1))).map fun g=>[(g.1:Int),(g.2.1:Int),g.2.2]).flatten):=by
 unfold Vbemai.step;simp only[Vbemai.does,QM.meter?_at h];show (s,0::Vbemai.rows _)=_;unfold Vbemai.rows;rw[Jd];rfl
theorem q87(h:s.meters[i]?=some x)(r:Int): Vbemai.step s (.doubt (i+1) r)=(s,0::(((Vbemai.gaps (Vbemai.knotsOf s (i+1))).filter fun g=>decide (r*(g.2.1-g.1:Nat)<g.2.2)).length:Int)::(((Vbemai.gaps (Vbemai.knotsOf s (i+1))).filter fun g=>decide (r*(g.2.1-g.1:Nat)<g.2.2)).map fun g=>[(g.1:Int),(g.2.1:Int)]).flatten):=by
 unfold Vbemai.step;simp only[Vbemai.does,QM.meter?_at h];show (s,0::Vbemai.rows _)=_;unfold Vbemai.rows;rw[Jd];rfl
theorem flat1:∀ l:List Nat,(l.map fun m=>[Vbemai.nat m]).flatten=wts l
 |[]=>rfl
 | a::l=>by
   show Vbemai.nat a::(l.map fun m=>[Vbemai.nat m]).flatten=(a:Int)::wts l;rw[flat1 l];rfl
theorem q9r(t:Nat): Vbemai.step s (.unread t)=(s,0::((Vbemai.unread s t).length:Int)::wts (Vbemai.unread s t)):=by
 unfold Vbemai.step;simp only[Vbemai.does];unfold Vbemai.rows;rw[Jd,flat1];rfl
theorem q9h(a b:Nat): Vbemai.step s (.published a b)=(s,match Vbemai.lastNets s a b with|none=>[0,0]|some l=>0::1::Vbemai.told l):=by
 unfold Vbemai.step;simp only[Vbemai.does];cases Vbemai.lastNets s a b<;>rfl
theorem q9n:Vbemai.step s .state=(s,[0,(s.profiles.length:Int),(s.meters.length:Int),(s.readings.length:Int),(s.assigns.length:Int),(s.locked:Int),(s.periods.length:Int)]):=rfl
end
def q72(A:Ads): Sp:=fun vs H Q _=>∃ (s:Sta) (b:Qad) (g:Addr) (i:Nat) (x:Met),vs=[.ref b.a,.ref g]/\BAt A H s b/\GL H g "meter" (.int ((i+1:Nat):Int))/\s.meters[i]?=some x/\∀ H' c,Kh H H'->Qdp A H H' s b i x c->Q (.ref c) H'
theorem qr3(a b:Nat): ∀ (ps:List Vbemai.Period) (qs:List Addr),qs.length=ps.length->(∃ (i:Nat) (p:Vbemai.Period) (ad:Addr),ps[i]?=some p/\qs[i]?=some ad/\(ps.find? fun p=>p.from_==a&&p.to_==b)=some p/\vj (qaz ps qs) [Sum.inl (a:Int),Sum.inl (b:Int)]=some (.ref ad)) \/
  ((ps.find? fun p=>p.from_==a&&p.to_==b)=none/\vj (qaz ps qs) [Sum.inl (a:Int),Sum.inl (b:Int)]=none)
 |[],[],_=>.inr ⟨rfl,rfl⟩
 |[],_::_,h=>by cases h
 |_::_,[],h=>by cases h
 | p::ps,ad::qs,h=>by
   have e:qaz (p::ps) (ad::qs)=([Sum.inl (p.from_:Int),Sum.inl (p.to_:Int)],V.ref ad)::qaz ps qs:=rfl;rw[e];by_cases hp:p.from_=a/\p.to_=b
   ·left
    refine⟨0,p,ad,rfl,rfl,?_,?_⟩
    ·rw[Yg,hp.1,hp.2];simp
    ·exact qf9 (by rw[hp.1,hp.2])
   ·have h1:(p.from_==a&&p.to_==b)=false:=by
     rw[Wb];intro q;rw[Jw,Yq,Yq] at q;exact hp q
    have h2:¬ ([Sum.inl (p.from_:Int),Sum.inl (p.to_:Int)]:List Key)=[Sum.inl (a:Int),Sum.inl (b:Int)]:=fun q=>by
     have q1:(p.from_:Int)=a:=Wx (Ze q).1;have q2:(p.to_:Int)=b:=Wx (Ze (Ze q).2).1;exact hp ⟨by omega,by omega⟩
    rw[Yg,h1,qf8 h2];rcases qr3 a b ps qs (by simpa using h) with ⟨i,p',ad',g1,g2,g3,g4⟩|⟨g1,g2⟩
    ·exact .inl ⟨i+1,p',ad',by simpa using g1,by simpa using g2,g3,g4⟩
    ·exact .inr ⟨g1,g2⟩
theorem qhu(T:Txt P w K mg A):
  Fn P w K mg base 5 "asked_course" ["book","given"] (q72 A):=by
 refine T.qy2.go q61 (fun _ _ _ _ h=>?_) (fun _ _ _ _ _ H _ Q _ hr h=>?_)
 ·obtain⟨st,b,g,i,x,rfl,_⟩:=h;rfl
 ·obtain⟨st,b,g,i,x,rfl,B,hg,hx,q⟩:=h;obtain⟨m,hm⟩:=B.qex hx;refine⟨_,(vm (k8 (qjb T) hr (k6 kj (k8 (qeq T) hr (k6 kj kr))))),?_⟩;walk_at "in";refine⟨st,b,g,i,x,m,rfl,B,hg,hx,hm,?_⟩;walk_at "";exact⟨st,b,i,x,m,rfl,B,hx,hm,q⟩
theorem q09(T:Txt P w K mg A):
  Fn P w K mg base 2 "ask_standing" ["book","given"] (qbl A gq9):=by
 refine T.qyw.go quv (fun _ _ _ _ h=>?_) (fun _ _ _ _ _ H _ Q _ hr h=>?_)
 ·obtain⟨st,b,g,c,rfl,_⟩:=h;rfl
 ·obtain⟨st,b,g,c,rfl,B,hga,⟨i,t,x,rfl,hg,hx⟩,q⟩:=h;obtain⟨m,hm⟩:=B.qex hx;have hu:=qan hr;rw[q9m hx] at q;refine⟨_,(ko (vt 2 quv.nd (k8 (ql8 T) hr (k6 (k8 (qeq T) hr (k6 kj kr)) (vq hu kr vo)))) (ko (qab (yb qjt ku qdy) (qah (k6 (vf T.qam) vh))) (vm (qah (qac (vf T.qam) (k6 (qdo K ku vh) (qdo K ku vh))))))),?_⟩;walk_at "in";refine⟨st,b,g,i,x,m,rfl,B,⟨_,hg,rfl⟩,hx,hm,?_⟩;walk_at "";refine vp hg (v:=.int (t:Int)) rfl ?_;walk_at "";refine⟨st,i+1,x,m,t,rfl,(B.met hx hm).r,fun H1 s1=>⟨fun hn=>?_,fun p a hp ha ha1=>?_⟩⟩
  ·rw[hn] at q;walk_at "";refine⟨rfl,?_⟩;walk_at "";refine qax ?_;walk_at "";intro l hl;exact q _ b l (Qae.of_same B (s1.trans (Kh.new hl))) (s1.free hl) kq
  ·rw[hp] at q;walk_at "";refine⟨rfl,?_⟩;walk_at "";refine qa3 ?_;walk_at "";refine qdm (SqT.of ha1) (qap (j:=0) rfl) ?_;walk_at "";refine qdm (SqT.of ha1) (qap (j:=1) rfl) ?_;walk_at "";intro l hl;exact q _ b l (Qae.of_same B (s1.trans (Kh.new hl))) (s1.free hl) kq
theorem q1e(T:Txt P w K mg A):
  Fn P w K mg base 6 "ask_value" ["book","given"] (qbl A gq11):=by
 refine T.qy1.go qno (fun _ _ _ _ h=>?_) (fun _ _ _ _ _ H _ Q _ hr h=>?_)
 ·obtain⟨st,b,g,c,rfl,_⟩:=h;rfl
 ·obtain⟨st,b,g,c,rfl,B,hga,⟨i,t,x,rfl,hg,ht,hx⟩,q⟩:=h;have hu:=qan hr;rw[q9s hx] at q;refine⟨_,(ko (vt 2 qno.nd (vq hu kr vo)) (ko (vt 3 qno.nd (k8 (qhu T) hr (k6 kj kr))) (vm (qah (qac (vf T.qam) (k6 (k8 (q1m T) hr (k6 ya ku)) (k8 (qhw T) hr (qac ya (k6 ku (qaf qca ku vh)))))))))),?_⟩;walk_at "in";refine vp hg (v:=.int (t:Int)) rfl ?_;walk_at "";refine⟨st,b,g,i,x,rfl,B,⟨_,hg,rfl⟩,hx,fun H1 c s1 cn=>?_⟩;have C1:=cn.cat (B.same s1) hx;walk_at "";refine⟨st,i+1,x,c,t,rfl,C1,?_⟩;walk_at "";refine⟨st,i+1,x,c,t,t+1,rfl,C1,by omega,by omega,fun H2 s2=>?_⟩;walk_at "";intro l hl;have S2:=s1.trans s2;exact q _ b l (Qae.of_same B (S2.trans (Kh.new hl))) (S2.free hl) kq
theorem q01(T:Txt P w K mg A):
  Fn P w K mg base 6 "ask_between" ["book","given"] (qbl A gq12):=by
 refine T.qyo.go q6v (fun _ _ _ _ h=>?_) (fun _ _ _ _ _ H _ Q _ hr h=>?_)
 ·obtain⟨st,b,g,c,rfl,_⟩:=h;rfl
 ·obtain⟨st,b,g,c,rfl,B,hga,⟨i,t,u,x,rfl,hg,htu,hu2,hx⟩,q⟩:=h;have hu:=qan hr;rw[q86 hx htu] at q;refine⟨_,(vm (qah (k6 (vf T.qam) (k8 (qhw T) hr (qac (k8 (qhu T) hr (k6 kj kr)) (k6 (vq hu kr vo) (vq hu kr vo))))))),?_⟩;walk_at "in";refine⟨st,b,g,i,x,rfl,B,⟨_,hg,rfl⟩,hx,fun H1 c s1 cn=>?_⟩;have hg1:=hg.same s1;walk_at "";refine vp hg1 (v:=.int (t:Int)) rfl ?_;walk_at "";refine vp hg1 (v:=.int (u:Int)) rfl ?_;walk_at "";refine⟨st,i+1,x,c,t,u,rfl,cn.cat (B.same s1) hx,by omega,by omega,fun H2 s2=>?_⟩;walk_at "";intro l hl;have S2:=s1.trans s2;exact q _ b l (Qae.of_same B (S2.trans (Kh.new hl))) (S2.free hl) kq
theorem q1b(T:Txt P w K mg A):
  Fn P w K mg base 6 "ask_through" ["book","given"] (qbl A gq13):=by
 refine T.qyy.go q60 (fun _ _ _ _ h=>?_) (fun _ _ _ _ _ H _ Q _ hr h=>?_)
 ·obtain⟨st,b,g,c,rfl,_⟩:=h;rfl
 ·obtain⟨st,b,g,c,rfl,B,hga,⟨i,t,x,rfl,hg,ht,hx⟩,q⟩:=h;have hu:=qan hr;rw[q9p hx] at q;refine⟨_,(vm (qah (k6 (vf T.qam) (k8 (ql9 T) hr (k6 (k8 (qhu T) hr (k6 kj kr)) (vq hu kr vo)))))),?_⟩;walk_at "in";refine⟨st,b,g,i,x,rfl,B,⟨_,hg,rfl⟩,hx,fun H1 c s1 cn=>?_⟩;have hg1:=hg.same s1;walk_at "";refine vp hg1 (v:=.int (t:Int)) rfl ?_;walk_at "";refine⟨st,i+1,x,c,t,rfl,cn.cat (B.same s1) hx,ht,fun H2 s2=>?_⟩;walk_at "";intro l hl;have S2:=s1.trans s2;exact q _ b l (Qae.of_same B (S2.trans (Kh.new hl))) (S2.free hl) kq
theorem q04(T:Txt P w K mg A):
  Fn P w K mg base 3 "ask_hand" ["book","given"] (qbl A gq14):=by
 refine T.qyr.go q6w (fun _ _ _ _ h=>?_) (fun _ _ _ _ _ H _ Q _ hr h=>?_)
 ·obtain⟨st,b,g,c,rfl,_⟩:=h;rfl
 ·obtain⟨st,b,g,c,rfl,B,hga,⟨i,t,x,rfl,hg,hx⟩,q⟩:=h;obtain⟨m,hm⟩:=B.qex hx;have hu:=qan hr;rw[q89 hx] at q;refine⟨_,(vm (qah (k6 (vf T.qam) (k8 (q1k T) hr (k6 (k8 (qeq T) hr (k6 kj kr)) (vq hu kr vo)))))),?_⟩;walk_at "in";refine⟨st,b,g,i,x,m,rfl,B,⟨_,hg,rfl⟩,hx,hm,?_⟩;walk_at "";refine vp hg (v:=.int (t:Int)) rfl ?_;walk_at "";refine⟨st,i+1,x,m,t,rfl,B.met hx hm,fun H1 s1=>?_⟩;walk_at "";intro l hl;exact q _ b l (Qae.of_same B (s1.trans (Kh.new hl))) (s1.free hl) kq
theorem q08(T:Txt P w K mg A):
  Fn P w K mg base 7 "ask_rest" ["book","given"] (qbl A gq16):=by
 refine T.qyv.go q6y (fun _ _ _ _ h=>?_) (fun _ _ _ _ _ H _ Q _ hr h=>?_)
 ·obtain⟨st,b,g,c,rfl,_⟩:=h;rfl
 ·obtain⟨st,b,g,c,rfl,B,hga,⟨z,t,u,rfl,hg,htu,hu2⟩,q⟩:=h;have hu:=qan hr;rw[q9l htu] at q;refine⟨_,(vm (qah (k6 (vf T.qam) (k8 (q10 T) hr (qac kj (qac (vq hu kr vo) (k6 (vq hu kr vo) (vq hu kr vo)))))))),?_⟩;walk_at "in";refine vp hg (v:=.int (z:Int)) rfl ?_;walk_at "";refine vp hg (v:=.int (t:Int)) rfl ?_;walk_at "";refine vp hg (v:=.int (u:Int)) rfl ?_;walk_at "";refine⟨st,b,z,t,u,rfl,B,by omega,by omega,fun H1 s1=>?_⟩;walk_at "";intro l hl;exact q _ b l (Qae.of_same B (s1.trans (Kh.new hl))) (s1.free hl) kq
theorem qro(s:Sta)(a b:Nat): (Vbemai.netsOf s a b).length=33:=QM.qgt s a b
theorem q06(T:Txt P w K mg A):
  Fn P w K mg base 7 "ask_nets" ["book","given"] (qbl A gq17):=by
 refine T.qyt.go q6x (fun _ _ _ _ h=>?_) (fun _ _ _ _ _ H _ Q _ hr h=>?_)
 ·obtain⟨st,b,g,c,rfl,_⟩:=h;rfl
 ·obtain⟨st,b,g,c,rfl,B,hga,⟨t,u,rfl,hg,htu,hu2⟩,q⟩:=h;have hu:=qan hr;rw[q9d htu] at q;refine⟨_,(vm (qaf qh6 (qah (vd (vf T.qam))) (k8 (ql5 T) hr (vd (k8 (qp2 T) hr (qac kj (k6 (vq hu kr vo) (vq hu kr vo)))))))),?_⟩;walk_at "in";intro z hz;have s0:=Kh.new (o:=.lst [.int 0]) hz;have hz0:upd H z (.lst [.int 0]) z=some (.lst [.int 0]):=kq;generalize upd H z (.lst [.int 0])=H0 at *
  have hg0:=hg.same s0;walk_at "";refine vp hg0 (v:=.int (t:Int)) rfl ?_;walk_at "";refine vp hg0 (v:=.int (u:Int)) rfl ?_;walk_at "";refine⟨st,b,t,u,rfl,B.same s0,htu,hu2,fun H1 l1 s1 hl1 qgk=>?_⟩;walk_at "";refine⟨l1,_,rfl,SqL.of qgk,by rw[qro];decide,fun H2 l2 s2 hl2 hl2'=>?_⟩;walk_at "";have S2:=(s0.trans s1).trans s2;have hlen:=QM.qhg (Vbemai.netsOf st t u);rw[qro] at hlen;refine qie ((s1.trans s2) _ _ hz0) hl2' (by rw[qa9];exact Xj (qa8 (by simp;omega))) fun l hl=>?_;exact q _ b l (Qae.of_same B (S2.trans (Kh.new hl))) (S2.free hl) kq
theorem q1d(T:Txt P w K mg A):
  Fn P w K mg base 6 "ask_unread" ["book","given"] (qbl A gq20):=by
 refine T.qy0.go quw (fun _ _ _ _ h=>?_) (fun _ _ _ _ _ H _ Q _ hr h=>?_)
 ·obtain⟨st,b,g,c,rfl,_⟩:=h;rfl
 ·obtain⟨st,b,g,c,rfl,B,hga,⟨t,rfl,hg⟩,q⟩:=h;have hu:=qan hr;rw[q9r] at q;refine⟨_,(ko (vt 2 quw.nd (k8 (qp6 T) hr (k6 kj (vq hu kr vo)))) (vm (qaf qh6 (qah (k6 (vf T.qam) (x_len T.qbd ku))) ku))),?_⟩;walk_at "in";refine vp hg (v:=.int (t:Int)) rfl ?_;walk_at "";refine⟨st,b,t,rfl,B,fun H1 l1 s1 hl1 qgk=>?_⟩;walk_at "";refine qbb (qbz (SqL.of qgk)) ?_;walk_at "";intro z hz;have s2:=Kh.new (o:=.lst [.int 0,.int ((vN (Vbemai.unread st t)).length:Int)]) hz;have S2:=s1.trans s2;walk_at "";have hlen:(Vbemai.unread st t).length<=32:=by
   unfold Vbemai.unread Vbemai.numbers;refine Xd (Xp ..) ?_;rw[Jd,U4];exact B.good.ml
  refine qie kq (s2 _ _ qgk) (by rw[qct];exact Xj (qa8 (by simp;omega))) fun l hl=>?_;refine q _ b l (Qae.of_same B (S2.trans (Kh.new hl))) (S2.free hl) ?_;rw[kq,qct];show _=some (HO.lst (V.int 0::V.int _::vI (wts _)));rw[qiu];rfl
theorem q1a(T:Txt P w K mg A): Fn P w K mg base 1 "ask_state" ["book","given"] (qbl A gq22):=by
 refine T.qyx.go q6z (fun _ _ _ _ h=>?_) (fun _ _ _ _ _ H _ Q _ hr h=>?_)
 ·obtain⟨st,b,g,c,rfl,_⟩:=h;rfl
 ·obtain⟨st,b,g,c,rfl,B,hga,⟨rfl,hg⟩,q⟩:=h;rw[q9n] at q;refine⟨_,(vm (qah (qac (vf T.qam) (qac (qaf qcr (x_len T.qbd (k9 K kj)) vh) (qac (x_len T.qbd (k9 K kj)) (qac (k9 K kj) (qac (k9 K kj) (k6 (k9 K kj) (x_len T.qbd (k9 K kj)))))))))),?_⟩;walk_at "in";refine qbb (qbz (SqL.of B.oP)) ?_;walk_at "";refine qbb (qbz (SqL.of B.oM)) ?_;walk_at "";refine qbb (lenTT B.oQ) ?_;walk_at "";intro l hl;refine q _ b l (Qae.of_same B (Kh.new hl)) hl ?_;rw[kq,Jd,B.lp,Jd,B.lm];have e1:(qaz st.periods b.qs).length=st.periods.length:=by
   unfold qaz;rw[Qv,B.lq];omega
  have e2:((st.profiles.length+1:Nat):Int)-1=(st.profiles.length:Int):=by omega
  rw[e1,e2];rfl
theorem ql4{α:Type}(f:α->List Int){l:List α}{i:Nat}{y:α}(h:l[i]?=some y): ((l.take (i+1)).map f).flatten=((l.take i).map f).flatten++f y:=by
 rw[Xq,h];simp
theorem qfu{α:Type}(f:α->List Int)(c:Nat)(hf:∀ y,(f y).length=c): ∀ l:List α,(l.map f).flatten.length=c*l.length
 |[]=>by simp
 |a::l=>by rw[Jq,Zk,Jx,hf,qfu f c hf l,Jz,Nat.mul_succ];omega
theorem q05(T:Txt P w K mg A):
  Fn P w K mg base 2 "ask_history" ["book","given"] (qbl A gq10):=by
 refine T.qys.go qka (fun _ _ _ _ h=>?_) (fun _ _ _ _ _ H _ Q _ hr h=>?_)
 ·obtain⟨st,b,g,c,rfl,_⟩:=h;rfl
 ·obtain⟨st,b,g,c,rfl,B,hga,⟨i,t,x,rfl,hg,hx⟩,q⟩:=h;obtain⟨m,hm⟩:=B.qex hx;have M:=B.met hx hm;have hu:=qan hr;rw[q9a hx] at q;have hsrt:=QM.qk4 (QM.qg5 M.good (i+1)) t;have hR:=M.rel.rd.rel t;have hk:=QM.qv8 M.rel.rd (QM.qg5 M.good (i+1)) t;have hl256:(QM.atT t (Vbemai.readingsOf st (i+1))).length<=256:=by
   have h3:(QM.atT t (Vbemai.readingsOf st (i+1))).length<=(Vbemai.readingsOf st (i+1)).length:=Xp ..;have h4:(Vbemai.readingsOf st (i+1)).length<=st.readings.length:=Xp ..;have:=M.good.rl;omega
  refine⟨_,(ko (vt 2 qka.nd (qjw hu (k9 K (k8 (qeq T) hr (k6 kj kr))) (vq hu kr vo) qgv ⟨rfl,rfl,rfl,rfl⟩)) (ko (vt 3 qka.nd (qah (k6 (vf T.qam) (x_len T.qbd ku)))) (ko (qdz Ys rfl (qb1 (qed (qpi rfl) rfl T.qk5 QP.boot_sorted (vd ku))) (qak 4 qka.nd) (ko (qb5 (qce Xe Xv Xw qdk ya (vd qa0))) (qbg (qb5 (qce Xe Xv Xw qdk ya (vd (vq hu ku qa0))))))) (vm ya)))),?_⟩;walk_at "in";refine⟨st,b,g,i,x,m,rfl,B,⟨_,hg,rfl⟩,hx,hm,?_⟩;walk_at "";refine vp hg (v:=.int (t:Int)) rfl ?_;walk_at "";refine qgl fun p hp=>?_;have s1:=Kh.new (o:=.dK []) hp;have M1:=M.same s1;refine r_d2I M1.oR ?_;have dv:∃ (d:Addr) (vs:List (Nat×Int)),(vj (rdK m.rd) (Sum.inl (t:Int))).getD (.ref p) = .ref d/\upd H p (.dK []) d=some (.dK (vsK vs))/\QM.qa5 (m.rd.map fun e=>(e.t,e.vs)) t=vs:=by
   rcases qg4 t m.rd with ⟨e,he,rfl,hv,hl⟩|⟨hv,hl,hn⟩
   ·exact⟨e.a,e.vs,by rw[hv];rfl,M1.qgu he,by unfold QM.qa5;rw[hl];rfl⟩
   ·exact⟨p,[],by rw[hv];rfl,kq,by unfold QM.qa5;rw[hl];rfl⟩
  obtain⟨d,vs,e1,hd,e2⟩:=dv;rw[e1];rw[e2] at hR hk;generalize upd H p (.dK [])=H1 at *
  have hlv:(vsK vs).length=(QM.atT t (Vbemai.readingsOf st (i+1))).length:=by
   have:=hR.length_eq;rw[Jd] at this;unfold vsK;rw[Jd];exact this
  walk_at "";refine qbb (lenK hd) ?_;rw[hlv];generalize hLt:QM.atT t (Vbemai.readingsOf st (i+1))=L at *
  walk_at "";intro ans qdg;have s2:=Kh.new (o:=.lst [.int 0,.int (L.length:Int)]) qdg;have S2:=s1.trans s2;have qfb:=s1.free qdg;have ha2:upd H1 ans (.lst [.int 0,.int (L.length:Int)]) ans=some (.lst (vI (0::(L.length:Int)::((L.take 0).map fun r=>[(r.version:Int),r.value]).flatten))):=kq;have hd2:=s2 _ _ hd;generalize upd H1 ans (.lst [.int 0,.int (L.length:Int)])=H2 at *
  walk_at "";refine⟨d,_,wts (vs.map (·.1)),rfl,hd2,qwa _,fun ns' p3 H3 h1 h2 h3 eH3=>?_⟩;obtain⟨l',rfl,hp'⟩:=qna h1;have hPk:(vs.map (·.1)).Perm (L.map (·.version)):=by
   have:=hR.map (·.1);rw[Xy] at this;exact this
  have e:=qn0 (qol h2) (hp'.trans hPk) hsrt;subst e;have s3:Kh H2 H3:=by rw[eH3];exact Kh.new h3
  have hp3:H3 p3=some (.lst (vN (L.map (·.version)))):=by rw[eH3,kq];exact Yk (fun z=>some (HO.lst z)) (qiu _)
  have hp3a:p3≠ans:=(vz ha2 h3).symm;have hda:d≠ans:=qay hd2 ha2 (by intro z;cases z);clear eH3 h1 h2;have ha3:=s3 _ _ ha2;have hd3:=s3 _ _ hd2;walk_at "";refine qe2 (vN (L.map (·.version))) (fun j σ H'=>Kh H H'/\H' p3=some (.lst (vN (L.map (·.version))))/\H' d=some (.dK (vsK vs))/\H' ans=some (.lst (vI (0::(L.length:Int)::((L.take j).map fun r=>[(r.version:Int),r.value]).flatten)))/\∃ v,σ=[some (.ref b.a),some (.ref g),some (.ref d),some (.ref ans),v])
   ⟨S2.trans s3,hp3,hd3,ha3,_,rfl⟩ (fun j σ H' ⟨_,g2,_⟩=>SqL.of g2) ?_ ?_
  ·rintro σ H' ⟨g1,g2,g3,g4,v,rfl⟩;rw[qct,Jd,Xh] at g4;walk_at "";exact q H' b ans (Qae.of_same B g1) qfb g4
  ·rintro j σ H' v hv ⟨g1,g2,g3,g4,v0,rfl⟩;obtain⟨z,hz,rfl⟩:=qiw hv;rw[Jt] at hz;cases hr1:L[j]? with
   |none=>rw[hr1] at hz;cases hz
   | some r=>
     rw[hr1] at hz;obtain rfl:r.version=z:=Jj hz;have hj:=(Ji.mp hr1).1;have hlk:vj (vsK vs) (Sum.inl (r.version:Int))=some (.int r.value):=by
      rw[qof];have:vs.lookup r.version=some r.value:=(QM.lookup_mem hk).mpr (hR.mem_iff.mpr (Jk.mpr ⟨r,J0 hr1,rfl⟩));rw[this];rfl
     have hfl:=qfu (fun r:Vbemai.Reading=>[(r.version:Int),r.value]) 2 (fun _=>rfl) (L.take j);have htl:(L.take j).length<=L.length:=by rw[Zs];omega
     walk_at "";refine qc5 g4 (qa8 (by rw[qa9];simp only[Jz];omega)) ?_;walk_at "";refine qif (by rw[qc hda];exact g3) hlk ?_;walk_at "";refine qc5 kq (qa8 (by rw[Jx,qa9];simp only[Jz,Y3];omega)) ?_;walk_at "";rw[qbt];refine⟨Kh.upd g1 qfb,by rw[qc hp3a];exact g2,by rw[qc hda];exact g3,?_,_,rfl⟩;rw[kq,ql4 _ hr1];simp[vI]
theorem q1c(T:Txt P w K mg A):
  Fn P w K mg base 8 "ask_total" ["book","given"] (qbl A gq15):=by
 refine T.qyz.go qnn (fun _ _ _ _ h=>?_) (fun _ _ _ _ _ H _ Q _ hr h=>?_)
 ·obtain⟨st,b,g,c,rfl,_⟩:=h;rfl
 ·obtain⟨st,b,g,c,rfl,B,hga,⟨hh,z,t,u,rfl,hg,htu,hu2⟩,q⟩:=h;have hu:=qan hr;rw[q9q htu] at q;refine⟨_,(ko (qgz (i:=2) rfl qnn.nd rfl rfl (by exact qhe rfl rfl rfl rfl) (own:=[("kind",3)]) (pi_tup (qgw (k6 (vf T.qla) (vf T.qo6)))) (by walk_at "bk") (fun _ _ _ _ _=>(qak 3 qnn.nd)) (fun _ _ _ _ _=>qez) (fun _ _ _ _ _=>(k8 (q19 T) hr (qac kj (qac ya (qac (vq hu kr vo) (qac (vq hu kr vo) (k6 (vq hu kr vo) (vq hu kr vo))))))))) (vm (qaf qh6 (qah (vd (vf T.qam))) ku))),?_⟩;walk_at "in";intro tp htp;have s1:=Kh.new (o:=.tup [.int 1,.int 0]) htp;have ht1:upd H tp (.tup [.int 1,.int 0]) tp=some (.tup [.int 1,.int 0]):=kq;generalize upd H tp (.tup [.int 1,.int 0])=H1 at *
  walk_at "";refine qfl 2 (fun i=>vI ([Vbemai.handIn st hh z t u,Vbemai.handOut st hh z t u].take i)) rfl (fun i H' hi s2=>?_) (fun H' s2=>⟨_,SqT.of (s2 _ _ ht1),by decide⟩) ?_ ?_
  ·match i,hi with
   | 0,_=>exact⟨_,_,SqT.of (s2 _ _ ht1),rfl⟩
   | 1,_=>exact⟨_,_,SqT.of (s2 _ _ ht1),rfl⟩
  ·rintro D i H2 v H2' hi p ⟨rfl,hy⟩;have hy:=hy _ (SqT.of (p.same _ _ ht1));have S:=s1.trans p.same;have hg2:=hg.same S;have key:∀ (kd:Nat) (val:Int),v = .int (kd:Int)->Vbemai.sumOf (Vbemai.those st fun x=>x.kind==kd&&x.zone==z) (fun m=>Vbemai.held st m hh t u)=val->[Vbemai.handIn st hh z t u,Vbemai.handOut st hh z t u][i]?=some val ->
     qcl 3 v (wipe [some (.ref b.a),some (.ref g),none,none] [3]) H2' fun σ2 H2=>wipe σ2 [3]=wipe [some (.ref b.a),some (.ref g),none,none] [3]/\tYes σ2 H2 fun b0 H3=>if b0=true then tFn (qvd A) (qai (yc 0) (qai (yc 3) (qai (qej (yc 1) (tC (.str "zone"))) (qai (qej (yc 1) (tC (.str "hand"))) (qai (qej (yc 1) (tC (.str "from"))) (qai (qej (yc 1) (tC (.str "to"))) qa4)))))) σ2 H3 fun y H4=>Qiz H1 D (fun i=>vI ([Vbemai.handIn st hh z t u,Vbemai.handOut st hh z t u].take i)) i H4 y else LcP H1 D (fun i=>vI ([Vbemai.handIn st hh z t u,Vbemai.handOut st hh z t u].take i)) (i+1) H3:=by
    intro kd val hv hval hget;subst hv;walk_at "";refine⟨rfl,?_⟩;walk_at "";refine qax ?_;walk_at "";refine vp hg2 (v:=.int (z:Int)) rfl ?_;walk_at "";refine vp hg2 (v:=.int (hh:Int)) rfl ?_;walk_at "";refine vp hg2 (v:=.int (t:Int)) rfl ?_;walk_at "";refine vp hg2 (v:=.int (u:Int)) rfl ?_;walk_at "";refine⟨st,b,kd,z,hh,t,u,rfl,B.same S,htu,hu2,fun H4 s4=>?_⟩;rw[hval];refine p.yes (qa8 (by omega)) s4 ?_;show vI (List.take (i+1) _)=_;rw[Xq,hget];simp[vI]
   match i,hi with
   | 0,_=>exact key 1 _ (Jj hy).symm rfl rfl
   | 1,_=>exact key 0 _ (Jj hy).symm rfl rfl
  ·intro D H2 hD s2 hD2;walk_at "";intro z1 hz1;have s3:=Kh.new (o:=.lst [.int 0]) hz1;have S3:=(s1.trans s2).trans s3;walk_at "";refine qie kq (s3 _ _ hD2) (Xj (qa8 (by simp[vI]))) fun l hl=>?_;exact q _ b l (Qae.of_same B (S3.trans (Kh.new hl))) (S3.free hl) kq
theorem q03(T:Txt P w K mg A):
  Fn P w K mg base 6 "ask_gaps" ["book","given"] (qbl A gq18):=by
 refine T.qyq.go qg7 (fun _ _ _ _ h=>?_) (fun _ _ _ _ _ H _ Q _ hr h=>?_)
 ·obtain⟨st,b,g,c,rfl,_⟩:=h;rfl
 ·obtain⟨st,b,g,c,rfl,B,hga,⟨i,x,rfl,hg,hx⟩,q⟩:=h;rw[q88 hx] at q;have hglen:=QM.qjf B.good (QM.meter?_at hx);refine⟨_,(ko (vt 2 qg7.nd (k8 (qpz T) hr (vd (k8 (qhu T) hr (k6 kj kr))))) (ko (vt 3 qg7.nd (qah (k6 (vf T.qam) (x_len T.qbd ku)))) (ko (qdz Ys rfl (qb1 ku) (qfe (K':=K) (n:=3) rfl rfl (qb0 (qak 4 qg7.nd) (qb0 (qak 5 qg7.nd) (qb0 (qak 6 qg7.nd) qff)))) (qbg (qb5 (qce Xe Wl Wm qjp ya (vd (qah (qac qa0 (k6 qb6 qcs)))))))) (vm ya)))),?_⟩;walk_at "in";refine⟨st,b,g,i,x,rfl,B,⟨_,hg,rfl⟩,hx,fun H1 c s1 cn=>?_⟩;walk_at "";refine⟨st,i+1,x,c,rfl,cn.cat (B.same s1) hx,fun H2 l s2 hl ⟨as,h1,h2,h3⟩=>?_⟩;rw[Jd] at h2;generalize Vbemai.gaps (Vbemai.knotsOf st (i+1))=gs at *
  walk_at "";refine qbb (qbz (SqL.of h1)) ?_;rw[Jd,h2];have S2:=s1.trans s2;walk_at "";intro ans qdg;have qfb:=S2.free qdg;have s3:=Kh.new (o:=.lst [.int 0,.int (gs.length:Int)]) qdg;have ha3:upd H2 ans (.lst [.int 0,.int (gs.length:Int)]) ans=some (.lst (vI (0::(gs.length:Int)::((gs.take 0).map fun g=>[(g.1:Int),(g.2.1:Int),g.2.2]).flatten))):=kq;have h13:=s3 _ _ h1;have h33:∀ (i:Nat) (a:Addr) (x:List V),as[i]?=some a->(gs.map qer)[i]?=some x->upd H2 ans (.lst [.int 0,.int (gs.length:Int)]) a=some (.tup x):=fun i a x q1 q2=>s3 _ _ (h3 i a x q1 q2);have hla:l≠ans:=vz h1 qdg;have S3:=S2.trans s3;generalize upd H2 ans (.lst [.int 0,.int (gs.length:Int)])=H3 at *
  walk_at "";refine qe2 (as.map V.ref) (fun j σ H'=>Kh H H'/\H' l=some (.lst (as.map V.ref))/\(∀ (i:Nat) (a:Addr) (x:List V),as[i]?=some a->(gs.map qer)[i]?=some x->H' a=some (.tup x))/\H' ans=some (.lst (vI (0::(gs.length:Int)::((gs.take j).map fun g=>[(g.1:Int),(g.2.1:Int),g.2.2]).flatten)))/\∃ v1 v2 v3,σ=[some (.ref b.a),some (.ref g),some (.ref l),some (.ref ans),v1,v2,v3])
   ⟨S3,h13,h33,ha3,_,_,_,rfl⟩ (fun j σ H' ⟨_,g2,_⟩=>SqL.of g2) ?_ ?_
  ·rintro σ H' ⟨g1,g2,g3,g4,v1,v2,v3,rfl⟩;rw[Jd,h2,Xh] at g4;walk_at "";exact q H' b ans (Qae.of_same B g1) qfb g4
  ·rintro j σ H' v hv ⟨g1,g2,g3,g4,v1,v2,v3,rfl⟩;rw[Jt] at hv;cases ha:as[j]? with
   |none=>rw[ha] at hv;cases hv
   | some a=>
     rw[ha] at hv;obtain rfl:V.ref a=v:=Jj hv;have hj:=(Ji.mp ha).1;have hy:gs[j]?=some gs[j]:=Jo (by omega);generalize gs[j]=y at hy;have ht:=g3 j a (qer y) ha (by rw[Jt,hy];rfl);have hfl:=qfu (fun g:Nat×Nat×Int=>[(g.1:Int),(g.2.1:Int),g.2.2]) 3 (fun _=>rfl) (gs.take j);have htl:(gs.take j).length<=gs.length:=by rw[Zs];omega
     walk_at "";refine qfk (xs:=[.int (y.1:Int),.int (y.2.1:Int),.int y.2.2]) (SqT.of ht) rfl ?_;walk_at "";intro nl hnl;have s5:=Kh.new (o:=.lst [.int (y.1:Int),.int (y.2.1:Int),.int y.2.2]) hnl;walk_at "";refine qj1 (s5 _ _ g4) kq (Xj (small 40000 (by rw[qa9];simp only[Jz,Y3];omega))) ?_;walk_at "";have keep:∀ a o,H' a=some o->a≠ans->upd (upd H' nl (.lst [.int (y.1:Int),.int (y.2.1:Int),.int y.2.2])) ans (.lst (vI (0::(gs.length:Int)::((gs.take j).map fun g=>[(g.1:Int),(g.2.1:Int),g.2.2]).flatten)++[.int (y.1:Int),.int (y.2.1:Int),.int y.2.2])) a=some o:=fun a o h1 h2=>by rw[qc h2];exact s5 _ _ h1
     refine⟨Kh.upd (g1.trans s5) qfb,keep _ _ g2 hla,fun i a x q1 q2=>?_,?_,_,_,_,rfl⟩
     ·have:=g3 i a x q1 q2;exact keep _ _ this (qay this g4 (by intro z;cases z))
     ·rw[kq,ql4 _ hy];simp[vI]
theorem q02(T:Txt P w K mg A):
  Fn P w K mg base 6 "ask_doubt" ["book","given"] (qbl A gq19):=by
 refine T.qyp.go qf2 (fun _ _ _ _ h=>?_) (fun _ _ _ _ _ H _ Q _ hr h=>?_)
 ·obtain⟨st,b,g,c,rfl,_⟩:=h;rfl
 ·obtain⟨st,b,g,c,rfl,B,hga,⟨i,r,x,rfl,hg,hr0,hr1,hx⟩,q⟩:=h;have hu:=qan hr;rw[q87 hx] at q;have hm:=QM.meter?_at hx;have hglen:=QM.qjf B.good hm;have hinc:∀ y∈Vbemai.gaps (Vbemai.knotsOf st (i+1)),y.1<=y.2.1/\y.2.1<=10000:=fun y hy=>by
   rw[QM.qje B.good hm] at hy;obtain⟨j,hj⟩:=Zw hy;have h1:=Xn.mp hj;have h2:=Xn.mp h1.2;have h3:(QM.kn st (i+1))[j+1]?=some y.2.1:=by have:=h2.1;rw[List.getElem?_tail] at this;exact this
   exact⟨Xj (QM.qmg (QM.qfx B.good hm) h1.1 h3).1,QM.qjk B.good hm _ (J0 h3)⟩
  refine⟨_,(ko (qgz (i:=2) rfl qf2.nd rfl rfl (by exact qhe rfl rfl rfl rfl) (own:=[("gap",3)]) (qb1 (k8 (qpz T) hr (vd (k8 (qhu T) hr (k6 kj kr))))) (by walk_at "bk") (fun _ _ _ _ _=>(qak 3 qf2.nd)) (fun _ _ _ _ _=>(qfh (yb qjs (qdo K ya vh) (qaf qec (vq hu kr vo) (qaf qcr (qdo K ya vh) (qdo K ya vh)))))) (fun _ _ _ _ _=>ya)) (ko (vt 4 qf2.nd (qah (k6 (vf T.qam) (x_len T.qbd ku)))) (ko (qdz Ys rfl (qb1 ku) (qfe (K':=K) (n:=3) rfl rfl (qb0 (qak 5 qf2.nd) (qb0 (qak 6 qf2.nd) (qb0 (qak 7 qf2.nd) qff)))) (qbg (qb5 (qce Xe Wl Wm qjp qa0 (vd (qah (k6 qb6 qcs))))))) (vm qa0)))),?_⟩;walk_at "in";refine⟨st,b,g,i,x,rfl,B,⟨_,hg,rfl⟩,hx,fun H1 c s1 cn=>?_⟩;walk_at "";refine⟨st,i+1,x,c,rfl,cn.cat (B.same s1) hx,fun H2 l s2 hl ⟨as,h1,h2,h3⟩=>?_⟩;rw[Jd] at h2;generalize Vbemai.gaps (Vbemai.knotsOf st (i+1))=gs at *
  have S2:=s1.trans s2;have hg2:=hg.same S2;walk_at "";refine qeh (SqL.of h1) (fun j=>(((as.zip gs).take j).filter fun p=>decide (r*(p.2.2.1-p.2.1:Nat)<p.2.2.2)).map fun p=>V.ref p.1) rfl ?_ ?_
  ·intro D j H3 v hv p;rw[Jt] at hv;cases ha:as[j]? with
   |none=>rw[ha] at hv;cases hv
   | some a=>
     rw[ha] at hv;obtain rfl:V.ref a=v:=Jj hv;have hj:=(Ji.mp ha).1;have hy:gs[j]?=some gs[j]:=Jo (by omega);generalize gs[j]=y at hy;have ht:=p.same _ _ (h3 j a (qer y) ha (by rw[Jt,hy];rfl));have hz:(as.zip gs)[j]?=some (a,y):=by rw[Xn];exact⟨ha,hy⟩
     have hyi:=hinc y (J0 hy);have hg3:=hg2.same p.same;have e:(y.2.1:Int)-y.1=((y.2.1-y.1:Nat):Int):=by omega
     walk_at "";refine⟨rfl,?_⟩;walk_at "";refine qdm (SqT.of ht) (qap (j:=2) rfl) ?_;walk_at "";refine vp hg3 (v:=.int r) rfl ?_;walk_at "";refine qdm (SqT.of ht) (qap (j:=1) rfl) ?_;walk_at "";refine qdm (SqT.of ht) (qap (j:=0) rfl) ?_;walk_at "";refine r_I (.inr ⟨by omega,by omega⟩) ?_;walk_at "";rw[e];refine ifD (fun c=>?_) (fun c=>?_)
     ·walk_at "";refine p.yes (small 10001 (by omega)) (Kh.refl _) ?_;show List.map _ _=_;rw[qgh _ hz (Xm c),Jv];rfl
     ·refine p.no (Kh.refl _) ?_;show List.map _ _=_;rw[qgg _ hz (J7 c)]
  ·intro L H3 hL s3 hL3;have hlz:(as.zip gs).length=as.length:=by rw[Yr];omega
   rw[Jd,<- hlz,Xh] at hL3;have e2:(as.zip gs).map (·.2)=gs:=List.map_snd_zip (by omega);have e1:((as.zip gs).filter fun p=>decide (r*(p.2.2.1-p.2.1:Nat)<p.2.2.2)).map (·.2)=gs.filter fun g=>decide (r*(g.2.1-g.1:Nat)<g.2.2):=by
    conv=>rhs;rw[<- e2]
    rw[Wt];rfl
   rw[<- e1] at q;have hF:∀ y∈(as.zip gs).filter (fun p=>decide (r*(p.2.2.1-p.2.1:Nat)<p.2.2.2)),H3 y.1=some (.tup (qer y.2)):=fun y hy=>by
    obtain⟨j,hj⟩:=Zw (J2.mp hy).1;have h5:=Xn.mp hj;exact s3 _ _ (h3 j y.1 (qer y.2) h5.1 (by rw[Jt,h5.2];rfl))
   have hFl:((as.zip gs).filter fun p=>decide (r*(p.2.2.1-p.2.1:Nat)<p.2.2.2)).length<=10001:=by
    have:=Xp (fun p:Addr×Nat×Nat×Int=>decide (r*(p.2.2.1-p.2.1:Nat)<p.2.2.2)) (as.zip gs);omega
   generalize (as.zip gs).filter (fun p=>decide (r*(p.2.2.1-p.2.1:Nat)<p.2.2.2))=F at *
   rw[Jd,Xy] at q;have S3:=S2.trans s3;walk_at "";refine qbb (qbz (SqL.of hL3)) ?_;rw[Jd];walk_at "";intro ans qdg;have qfb:=S3.free qdg;have s4:=Kh.new (o:=.lst [.int 0,.int (F.length:Int)]) qdg;have ha4:upd H3 ans (.lst [.int 0,.int (F.length:Int)]) ans=some (.lst (vI (0::(F.length:Int)::((F.take 0).map fun g=>[(g.2.1:Int),(g.2.2.1:Int)]).flatten))):=kq;have hL4:=s4 _ _ hL3;have hF4:∀ y∈F,upd H3 ans (.lst [.int 0,.int (F.length:Int)]) y.1=some (.tup (qer y.2)):=fun y hy=>s4 _ _ (hF y hy);have hLa:L≠ans:=vz hL3 qdg;have S4:=S3.trans s4;generalize upd H3 ans (.lst [.int 0,.int (F.length:Int)])=H4 at *
   walk_at "";refine qe2 (F.map fun p=>V.ref p.1) (fun j σ H'=>Kh H H'/\H' L=some (.lst (F.map fun p=>V.ref p.1))/\(∀ y∈F,H' y.1=some (.tup (qer y.2)))/\H' ans=some (.lst (vI (0::(F.length:Int)::((F.take j).map fun g=>[(g.2.1:Int),(g.2.2.1:Int)]).flatten)))/\∃ v1 v2 v3 v4,σ=[some (.ref b.a),some (.ref g),some (.ref L),v1,some (.ref ans),v2,v3,v4])
    ⟨S4,hL4,hF4,ha4,_,_,_,_,rfl⟩ (fun j σ H' ⟨_,g2,_⟩=>SqL.of g2) ?_ ?_
   ·rintro σ H' ⟨g1,g2,g3,g4,v1,v2,v3,v4,rfl⟩;rw[Jd,Xh] at g4;walk_at "";exact q H' b ans (Qae.of_same B g1) qfb g4
   ·rintro j σ H' v hv ⟨g1,g2,g3,g4,v1,v2,v3,v4,rfl⟩;rw[Jt] at hv;cases ha:F[j]? with
    |none=>rw[ha] at hv;cases hv
    | some y=>
      rw[ha] at hv;obtain rfl:V.ref y.1=v:=Jj hv;have ht:=g3 y (J0 ha);have hfl:=qfu (fun g:Addr×Nat×Nat×Int=>[(g.2.1:Int),(g.2.2.1:Int)]) 2 (fun _=>rfl) (F.take j);have htl:(F.take j).length<=F.length:=by rw[Zs];omega
      walk_at "";refine qfk (xs:=[.int (y.2.1:Int),.int (y.2.2.1:Int),.int y.2.2.2]) (SqT.of ht) rfl ?_;walk_at "";intro nl hnl;have s5:=Kh.new (o:=.lst [.int (y.2.1:Int),.int (y.2.2.1:Int)]) hnl;walk_at "";refine qj1 (s5 _ _ g4) kq (Xj (small 40000 (by rw[qa9];simp only[Jz,Y3];omega))) ?_;walk_at "";have keep:∀ a o,H' a=some o->a≠ans->upd (upd H' nl (.lst [.int (y.2.1:Int),.int (y.2.2.1:Int)])) ans (.lst (vI (0::(F.length:Int)::((F.take j).map fun g=>[(g.2.1:Int),(g.2.2.1:Int)]).flatten)++[.int (y.2.1:Int),.int (y.2.2.1:Int)])) a=some o:=fun a o h1 h2=>by rw[qc h2];exact s5 _ _ h1
      refine⟨Kh.upd (g1.trans s5) qfb,keep _ _ g2 hLa,fun y' q1=>?_,?_,_,_,_,_,rfl⟩
      ·have:=g3 y' q1;exact keep _ _ this (qay this g4 (by intro z;cases z))
      ·rw[kq,ql4 _ ha];simp[vI]
theorem q07(T:Txt P w K mg A):
  Fn P w K mg base 2 "ask_published" ["book","given"] (qbl A gq21):=by
 refine T.qyu.go quu (fun _ _ _ _ h=>?_) (fun _ _ _ _ _ H _ Q _ hr h=>?_)
 ·obtain⟨st,b,g,c,rfl,_⟩:=h;rfl
 ·obtain⟨st,b,g,c,rfl,B,hga,⟨t,u,rfl,hg⟩,q⟩:=h;have hu:=qan hr;rw[q9h] at q;unfold Vbemai.lastNets at q;refine⟨_,(ko (vt 2 quu.nd (q5b hu (k9 K kj) (qgw (k6 (vq hu kr vo) (vq hu kr vo))) ⟨rfl,rfl,rfl,rfl⟩)) (ko (qab (yb qjt ku qdy) (qah (k6 (vf T.qam) vh))) (vm (qaf qh6 (qah (k6 (vf T.qam) vh)) (k8 (ql5 T) hr (vd ku)))))),?_⟩;walk_at "in";refine vp hg (v:=.int (t:Int)) rfl ?_;walk_at "";refine vp hg (v:=.int (u:Int)) rfl ?_;walk_at "";intro tp htp;have s1:=Kh.new (o:=.tup [.int (t:Int),.int (u:Int)]) htp;refine r_d1Tb (k:=[Sum.inl (t:Int),Sum.inl (u:Int)]) (B.same s1).oQ kq ?_;rcases qr3 t u st.periods b.qs B.lq with ⟨i,p,ad,h1,h2,h3,h4⟩|⟨h1,h2⟩
  ·rw[h3] at q;rw[h4];have hn:=(B.same s1).net h1 h2;have hpl:=(B.good.po p (J0 h1)).1;generalize upd H tp (.tup [.int (t:Int),.int (u:Int)])=H1 at *
   walk_at "";refine⟨rfl,?_⟩;walk_at "";refine qa3 ?_;walk_at "";intro z hz;have s2:=Kh.new (o:=.lst [.int 0,.int 1]) hz;have hz2:upd H1 z (.lst [.int 0,.int 1]) z=some (.lst [.int 0,.int 1]):=kq;generalize upd H1 z (.lst [.int 0,.int 1])=H2 at *
   walk_at "";refine⟨ad,p.nets,rfl,SqL.of (s2 _ _ hn),by omega,fun H3 l s3 hl hl3=>?_⟩;walk_at "";have hlen:=QM.qhg p.nets;have S3:=(s1.trans s2).trans s3;refine qie (s3 _ _ hz2) hl3 (by rw[qa9];exact Xj (qa8 (by simp;omega))) fun l2 hl2=>?_;exact q _ b l2 (Qae.of_same B (S3.trans (Kh.new hl2))) (S3.free hl2) kq
  ·rw[h1] at q;rw[h2];walk_at "";refine⟨rfl,?_⟩;walk_at "";refine qax ?_;walk_at "";intro l hl;exact q _ b l (Qae.of_same B (s1.trans (Kh.new hl))) (s1.free hl) kq
theorem Qae.same{H H' H2:Hp}{s s':Sta}{b b':Qad}(k:Qae A H s b H' s' b')(e:Kh H' H2): Qae A H s b H2 s' b':=⟨k.bat.same e,k.ba,fun a o h1 h2=>e _ _ (k.fr a o h1 h2),k.nw,k.lv.trans (Qav.of_same e)⟩
def qb3(l:List Cell): List Addr:=l.map (·.1)
theorem qgo{H H':Hp}{s s':Sta}{b b':Qad}(B:BAt A H s b){c0 c0':Cell}{N N' R:List Cell}(p:(qck A s b).Perm (c0::(N++R)))(p':(qck A s' b').Perm (c0'::(N'++R)))(h0:c0'.1=c0.1)
  (e0:H' c0'.1=some c0'.2)(hN:Has H' N')(nd:(qb3 N').Nodup)(new:∀ a∈qb3 N',a∈qb3 N\/H a=none)(fr:∀ a o,a≠c0.1->a∉qb3 N->H a=some o->H' a=some o)
  (good:QM.Good s')(ba:b'.a=b.a)(lp:b'.ps.length=s'.profiles.length+1)(lm:b'.ms.length=s'.meters.length)(lq:b'.qs.length=s'.periods.length)
  (mr:∀ (i:Nat) (x:Met) (m:Qaa),s'.meters[i]?=some x->b'.ms[i]?=some m->Qda s' (i+1) x m)(lv:Qav H H'): Qae A H s b H' s' b':=by
 have hh:Has H (c0::(N++R)):=fun c hc=>B.has c (p.mem_iff.mpr hc);have hn:(qb3 (c0::(N++R))).Nodup:=(p.map (fun c:Cell=>c.1)).nodup_iff.mp B.nd;unfold qb3 at hn;rw[Jq,Xf,Jv,J4,Zi] at hn;obtain⟨hn0,hnN,hnR,hNR⟩:=hn;have hR:∀ c∈R,c.1≠c0.1/\c.1∉qb3 N/\H c.1=some c.2:=fun c hc=>by
  have hm:c.1∈R.map (·.1):=Jk.mpr ⟨c,hc,rfl⟩;refine⟨fun z=>hn0 (.inr (z ▸ hm)),fun z=>hNR c.1 z c.1 hm rfl,hh c (Jm _ (J4.mpr (.inr hc)))⟩
 have hN2:∀ c∈N,H c.1=some c.2:=fun c hc=>hh c (Jm _ (J4.mpr (.inl hc)));have hc0:H c0.1=some c0.2:=hh c0 (Jh ..);have hhas:Has H' (c0'::(N'++R)):=fun c hc=>by
  rcases Jf.mp hc with rfl|hc
  ·exact e0
  ·rcases J4.mp hc with hc|hc
   ·exact hN c hc
   ·obtain⟨r1,r2,r3⟩:=hR c hc;exact fr _ _ r1 r2 r3
 have hnd:(qb3 (c0'::(N'++R))).Nodup:=by
  unfold qb3;rw[Jq,Xf,Jv,J4,Zi];refine⟨?_,nd,hnR,fun a ha c hc e=>?_⟩
  ·rw[h0];rintro (z|z)
   ·rcases new _ z with q|q
    ·exact hn0 (.inl q)
    ·rw[hc0] at q;cases q
   ·exact hn0 (.inr z)
  ·subst e;rcases new _ ha with q|q
   ·exact hNR a q a hc rfl
   ·obtain⟨c',hc',rfl⟩:=Jk.mp hc;rw[(hR c' hc').2.2] at q;cases q
 refine⟨⟨good,fun c hc=>hhas c (p'.mem_iff.mp hc),(p'.map (fun c:Cell=>c.1)).nodup_iff.mpr hnd,lp,lm,lq,mr⟩,ba,fun a o h1 h2=>?_,fun a ha=>?_,lv⟩
 ·have h3:a∉qb3 (c0::(N++R)):=fun z=>h1 ((p.map (fun c:Cell=>c.1)).mem_iff.mpr z);unfold qb3 at h3;rw[Jq,Jf,Jv,J4,not_or,not_or] at h3;exact fr a o h3.1 h3.2.1 h2
 ·have h3:a∈qb3 (c0'::(N'++R)):=(p'.map (fun c:Cell=>c.1)).mem_iff.mp ha;have back:a∈qb3 (c0::(N++R))->a∈ads A s b:=fun z=>(p.map (fun c:Cell=>c.1)).mem_iff.mpr z;unfold qb3 at h3 back;rw[Jq,Jf,Jv,J4] at h3 back;rcases h3 with h3|h3|h3
  ·exact .inl (back (.inl (h3.trans h0)))
  ·rcases new a h3 with q|q
   ·exact .inl (back (.inr (.inl q)))
   ·exact .inr q
  ·exact .inl (back (.inr (.inr h3)))
def bC(A:Ads)(s:Sta)(b:Qad): Cell:=(b.a,.ins A.CB b.dx (qbm s b))
def pC(b:Qad): Cell:=(b.aP,.lst (b.ps.map fun p=>.ref p.a))
def mC(b:Qad): Cell:=(b.aM,.lst (b.ms.map fun m=>.ref m.a))
def qC(s:Sta)(b:Qad): Cell:=(b.aQ,.dT (qaz s.periods b.qs))
def qbw(A:Ads)(s:Sta)(b:Qad): List Cell:=(List.zipWith (qfy A) ([1]::s.profiles) b.ps).flatten
def qbu(A:Ads)(s:Sta)(b:Qad): List Cell:=(List.zipWith (qa6 A) s.meters b.ms).flatten
def nets(s:Sta)(b:Qad): List Cell:=List.zipWith qb4 s.periods b.qs
theorem qd5(s:Sta)(b:Qad): qck A s b=bC A s b::pC b::mC b::qC s b::(qbw A s b++(qbu A s b++nets s b)):=rfl
def xC(A:Ads)(x:Met)(m:Qaa): Cell:=(m.a,.ins A.CM m.dx (qdt x m))
def dC(m:Qaa): Cell:=(m.aD,.lst (m.ds.map fun d=>.ref d.a))
def rC(m:Qaa): Cell:=(m.aR,.dK (rdK m.rd))
def tC'(m:Qaa): Cell:=(m.aT,.dK (tlK m.tl))
def dis(A:Ads)(x:Met)(m:Qaa): List Cell:=List.zipWith (qbn A) m.ds x.devices
def vrs(m:Qaa): List Cell:=m.rd.map qb2
theorem qea(x:Met)(m:Qaa): qa6 A x m=xC A x m::dC m::rC m::tC' m::(dis A x m++vrs m):=rfl
theorem qn2{α:Type}{l:List α}{i:Nat}{x:α}(h:l[i]?=some x): ∃ p q,l=p++x::q/\p.length=i:=by
 have hi:=(Ji.mp h).1;have hx:=(Ji.mp h).2;refine⟨l.take i,l.drop (i+1),?_,by rw[Zs];omega⟩;rw[<- hx,<- Um hi,List.take_append_drop]
theorem q31{s s':Sta}{b b':Qad}{p1 p2:List Met}{q1 q2:List Qaa}{x x':Met}{m m':Qaa}(e1:s.meters=p1++x::p2)(e2:b.ms=q1++m::q2)(e1':s'.meters=p1++x'::p2)(e2':b'.ms=q1++m'::q2)(hl:p1.length=q1.length):
  ∃ X Y,qbu A s b=X++(qa6 A x m++Y)/\qbu A s' b'=X++(qa6 A x' m'++Y):=by
 refine⟨(List.zipWith (qa6 A) p1 q1).flatten,(List.zipWith (qa6 A) p2 q2).flatten,?_,?_⟩
 ·unfold qbu;rw[e1,e2,Yi hl,W3,Wo,Zk]
 ·unfold qbu;rw[e1',e2',Yi hl,W3,Wo,Zk]
theorem qgn{H H':Hp}{s s':Sta}{b:Qad}(B:BAt A H s b){i:Nat}{x x':Met}{m m':Qaa}(hx:s.meters[i]?=some x)(hm:b.ms[i]?=some m)(hs':s'.meters=s.meters.set i x')(ma:m'.a=m.a)
  (hp:s'.profiles=s.profiles)(hq:s'.periods=s.periods){N N' R:List Cell}(p:(qa6 A x m).Perm (N++R))(p':(qa6 A x' m').Perm (N'++R))
  (e0:H' b.a=some (.ins A.CB b.dx (qbm s' b)))(hN:Has H' N')(nd:(qb3 N').Nodup)(new:∀ a∈qb3 N',a∈qb3 N\/H a=none)(fr:∀ a o,a≠b.a->a∉qb3 N->H a=some o->H' a=some o)
  (good:QM.Good s')(mr:Qda s' (i+1) x' m')(mo:∀ (j:Nat) (y:Met) (n:Qaa),j≠i->Qda s (j+1) y n->Qda s' (j+1) y n)(lv:Qav H H'): Qae A H s b H' s' { b with ms:=b.ms.set i m' }:=by
 obtain⟨p1,p2,e1,l1⟩:=qn2 hx;obtain⟨q1,q2,e2,l2⟩:=qn2 hm;have e1':s'.meters=p1++x'::p2:=by rw[hs',e1,List.set_append_right _ _ (by omega),l1,Nat.sub_self];rfl
 have e2':b.ms.set i m'=q1++m'::q2:=by rw[e2,List.set_append_right _ _ (by omega),l2,Nat.sub_self];rfl
 obtain⟨X,Y,g1,g2⟩:=q31 (A:=A) (b:=b) (b':={ b with ms:=b.ms.set i m' }) e1 e2 e1' e2' (by omega);have hmC:mC { b with ms:=b.ms.set i m' }=mC b:=by
  unfold mC;show (b.aM,HO.lst ((b.ms.set i m').map fun m=>V.ref m.a))=_;rw[List.map_set,ma];have:(b.ms.map fun m=>V.ref m.a)[i]?=some (.ref m.a):=by rw[Jt,hm];rfl
  have hi:i<(b.ms.map fun m=>V.ref m.a).length:=(Ji.mp this).1;have e:V.ref m.a=(b.ms.map fun m=>V.ref m.a)[i]:=(Ji.mp this).2.symm;rw[e,Qo]
 have hpros:qbw A s' { b with ms:=b.ms.set i m' }=qbw A s b:=by unfold qbw;rw[hp]
 have hnets:nets s' { b with ms:=b.ms.set i m' }=nets s b:=by unfold nets;rw[hq]
 have hqC:qC s' { b with ms:=b.ms.set i m' }=qC s b:=by unfold qC;rw[hq]
 refine qgo B (c0:=bC A s b) (c0':=bC A s' { b with ms:=b.ms.set i m' }) (N:=N) (N':=N') (R:=R++(pC b::mC b::qC s b::(qbw A s b++((X++Y)++nets s b)))) ?_ ?_ rfl e0 hN nd new fr good rfl
  (by show b.ps.length=_;rw[hp];exact B.lp) (by show (b.ms.set i m').length=_;rw[Uh,hs',Uh];exact B.lm) (by show b.qs.length=_;rw[hq];exact B.lq) (fun j y n h1 h2=>?_) lv
 ·rw[qd5,g1];classical
  refine List.Perm.cons _ ?_;refine Xc.mpr fun a=>?_;have:=Xc.mp p a;simp only[Xs,Xz] at this ⊢;omega
 ·rw[qd5,g2,hmC,hpros,hnets,hqC];classical
  refine List.Perm.cons _ ?_;refine Xc.mpr fun a=>?_;have:=Xc.mp p' a;show List.count a (pC b::_)=_;simp only[Xs,Xz] at this ⊢;omega
 ·by_cases hj:j=i
  ·subst hj;have hi:j<s.meters.length:=(Ji.mp hx).1;have hi2:j<b.ms.length:=(Ji.mp hm).1;rw[hs',Zp hi] at h1;have h2:(b.ms.set j m')[j]?=some n:=h2;rw[Zp hi2] at h2;cases h1;cases h2;exact mr
  ·rw[hs',Zy (fun z=>hj z.symm)] at h1;have h2:(b.ms.set i m')[j]?=some n:=h2;rw[Zy (fun z=>hj z.symm)] at h2;exact mo j y n hj (B.mr j y n h1 h2)
theorem q3a{H H':Hp}{s s':Sta}{b:Qad}(B:BAt A H s b)(hm:s'.meters=s.meters)(hp:s'.profiles=s.profiles)(hq:s'.periods=s.periods)(hr:s'.readings=s.readings)(ha:s'.assigns=s.assigns)
  (e0:H' b.a=some (.ins A.CB b.dx (qbm s' b)))(fr:∀ a o,a≠b.a->H a=some o->H' a=some o)(good:QM.Good s')(lv:Qav H H'): Qae A H s b H' s' b:=by
 refine qgo B (c0:=bC A s b) (c0':=bC A s' b) (N:=[]) (N':=[]) (R:=pC b::mC b::qC s b::(qbw A s b++(qbu A s b++nets s b))) (Z4 _) ?_ rfl e0 (fun _ h=>nomatch h) Yb (fun _ h=>nomatch h) (fun a o h1 _ h2=>fr a o h1 h2) good rfl
  (by rw[hp];exact B.lp) (by rw[hm];exact B.lm) (by rw[hq];exact B.lq) (fun j y n h1 h2=>?_) lv
 ·rw[qd5];have h1:qC s' b=qC s b:=by unfold qC;rw[hq]
  have h2:qbw A s' b=qbw A s b:=by unfold qbw;rw[hp]
  have h3:qbu A s' b=qbu A s b:=by unfold qbu;rw[hm]
  have h4:nets s' b=nets s b:=by unfold nets;rw[hq]
  rw[h1,h2,h3,h4];exact Z4 _
 ·rw[hm] at h1;obtain⟨r1,r2,r3⟩:=B.mr j y n h1 h2;refine⟨r1,?_,?_⟩
  ·unfold Vbemai.readingsOf;rw[hr];exact r2
  ·unfold QM.toldOf;rw[ha];exact r3
theorem qkg(g:Met->Met): ∀ {l:List Met} {i:Nat} {x:Met},l[i]?=some x->Vbemai.setMeter g i l=l.set i (g x)
 |[],_,_,h=>by simp at h
 |y::l,0,x,h=>by simp at h;subst h;rfl
 | y::l,i+1,x,h=>by
   show y::Vbemai.setMeter g i l=y::l.set i (g x);rw[qkg g (by simpa using h)]
def qhz(s:Sta)(k z y t d:Nat)(v:Int)(p:Nat): Int:=if (k=2/\z=y)\/(k≠2/\y≠0) then -12 else if s.profiles.length<p then -2 else if t<s.locked then -5 else if Vbemai.shows d v=false then -7 else if 32<=s.meters.length then -4 else 0
def q82:Sp:=fun vs H Q _=>∃ (g:Addr) (k z y t d:Nat) (f v:Int) (p:Nat) (r:Int),vs=[.ref g]/\GV H g 1 [(k:Int),z,y,t,d,f,v,p,r]/\Q (.bl (!decide ((k=2/\z=y)\/(k≠2/\y≠0)))) H
def q8b(A:Ads): Sp:=fun vs H Q _=>∃ (s:Sta) (b:Qad) (g:Addr) (k z y t d:Nat) (f v:Int) (p:Nat) (r:Int),vs=[.ref b.a,.ref g]/\BAt A H s b/\GV H g 1 [(k:Int),z,y,t,d,f,v,p,r]/\d<=9/\Q (.int (qhz s k z y t d v p)) H
def q8j(A:Ads): Sp:=fun vs H Q _=>∃ (g:Addr) (kvs:List (Key×V)) (y:Dev),vs=[.ref g]/\H g=some (.dK kvs)/\y.finish=none/\y.digits<=9/\vj kvs (Sum.inr (Str.ofString "boundary"))=some (.int (y.start:Int))/\vj kvs (Sum.inr (Str.ofString "start"))=some (.int y.value)/\vj kvs (Sum.inr (Str.ofString "digits"))=some (.int (y.digits:Int))/\vj kvs (Sum.inr (Str.ofString "factor"))=some (.int y.factor) /\
 ∀ H' p dx,Kh H H'->H p=none->H' p=some (.ins A.CD dx (qbe y))->Q (.ref p) H'
theorem q9f{s:Sta}{row:List Nat}(h:8<=s.profiles.length): Vbemai.step s (.profile row)=(s,[-4]):=by
 unfold Vbemai.step;simp only[Vbemai.does];rw[Je (show Vbemai.PROFILES<=_ from h)]
theorem q9e{s:Sta}{row:List Nat}(h:¬ 8<=s.profiles.length): Vbemai.step s (.profile row)=({ s with profiles:=s.profiles++[row] },[0,((s.profiles.length+1:Nat):Int)]):=by
 unfold Vbemai.step;simp only[Vbemai.does];rw[Jc (show ¬ Vbemai.PROFILES<=_ from h)];rfl
theorem q0v(T:Txt P w K mg A): Fn P w K mg base 4 "add_profile" ["book","given"] (qbl A gq0):=by
 refine T.qyi.go q6u (fun _ _ _ _ h=>?_) (fun _ _ _ _ _ H _ Q _ hr h=>?_)
 ·obtain⟨st,b,g,c,rfl,_⟩:=h;rfl
 ·obtain⟨st,b,g,c,rfl,B,hga,⟨lr,row,rfl,hg,hlr,hok⟩,q⟩:=h;have hu:=qan hr;have hpl:=B.good.pl;refine⟨_,(ko (qab (yb qbf (qaf qcr (x_len T.qbd (k9 K kj)) vh) (vf T.qxh)) (qah (vd (vf T.qge)))) (ko (qb5 (qce Xe Xv Xw qdk (k9 K kj) (vd (qia (qpg T) hr (vd (vq hu kr vo)))))) (vm (qah (k6 (vf T.qam) (qaf qcr (x_len T.qbd (k9 K kj)) vh)))))),?_⟩;walk_at "in";refine qbb (qbz (SqL.of B.oP)) ?_;rw[Jd,B.lp];walk_at "";refine ifD (fun c=>?_) (fun c=>?_)
  ·rw[q9f (by omega)] at q;walk_at "";intro l hl;exact q _ b l (Qae.of_same B (Kh.new hl)) hl kq
  have hgs:=QM.qes B.good hok;rw[q9e (by omega)] at q hgs;walk_at "";refine vp hg (v:=.ref lr) rfl ?_;walk_at "";intro x xd hx hxd hxx;have nl1:lr≠x:=vz hlr hx;have nl2:lr≠xd:=vz hlr hxd;refine⟨x,xd,lr,wts row,rfl,kq,SqL.of (by rw[qc nl1,qc nl2];exact hlr),qa8 (by rw[qku];have:=hok.2.1;omega),fun H1 aS b1 hS hx1 hS1=>⟨rfl,?_⟩⟩;have nSx:aS≠x:=by intro e;subst e;rw[kq] at hS;cases hS
  rw[qc nSx] at hS;have nSd:aS≠xd:=by intro e;subst e;rw[kq] at hS;cases hS
  rw[qc nSd] at hS;have S1:Kh H H1:=fun a o h=>b1 a o (vz h hx) (by rw[qc (vz h hx),qc (vz h hxd)];exact h);walk_at "";refine qc5 (S1 _ _ B.oP) (qa8 (by rw[Jd,B.lp];omega)) ?_;have hPx:b.aP≠x:=vz B.oP hx;have hPS:b.aP≠aS:=vz B.oP hS;have hba:b.a≠b.aP:=qay B.o B.oP (by intro z;cases z);have K1:Qae A H st b (upd H1 b.aP (.lst ((b.ps.map fun p=>.ref p.a)++[.ref x]))) { st with profiles:=st.profiles++[row] } { b with ps:=b.ps++[⟨x,xd,aS⟩] }:=by
   refine qgo B (c0:=bC A st b) (c0':=bC A st b) (N:=[pC b]) (N':=[pC { b with ps:=b.ps++[⟨x,xd,aS⟩] },(x,.ins A.CP xd [("sums",.ref aS)]),(aS,.lst (vI (QM.sums 0 (wts row))))]) (R:=mC b::qC st b::(qbw A st b++(qbu A st b++nets st b))) (Z4 _) ?_ rfl ?_ ?_ ?_ ?_ ?_ hgs rfl ?_ B.lm B.lq ?_ (Qav.of_same S1).upd
   ·have e1:qbw A { st with profiles:=st.profiles++[row] } { b with ps:=b.ps++[⟨x,xd,aS⟩] }=qbw A st b++qfy A row ⟨x,xd,aS⟩:=by
     unfold qbw;show (List.zipWith (qfy A) ([1]::(st.profiles++[row])) (b.ps++[⟨x,xd,aS⟩])).flatten=_;rw[<- List.cons_append,Yi (by rw[Jz,B.lp]),Wo];simp
    rw[qd5,e1];classical
    refine List.Perm.cons _ ?_;refine Xc.mpr fun a=>?_;show List.count a (pC { b with ps:=b.ps++[⟨x,xd,aS⟩] }::mC b::qC st b::((qbw A st b++[(x,.ins A.CP xd [("sums",.ref aS)]),(aS,.lst (vI (QM.sums 0 (wts row))))])++(qbu A st b++nets st b)))=_;simp only[Xs,Xz,Yh];omega
   ·show upd H1 b.aP _ b.a=_;rw[qc hba];exact S1 _ _ B.o
   ·intro c hc;simp only[Jf,Xa,Y0] at hc;rcases hc with rfl|rfl|rfl
    ·show upd H1 b.aP _ b.aP=_;rw[kq];unfold pC;simp
    ·show upd H1 b.aP _ x=_;rw[qc hPx.symm];exact hx1
    ·show upd H1 b.aP _ aS=_;rw[qc hPS.symm];exact hS1
   ·show [b.aP,x,aS].Nodup;simp only[Xf,Jf,Xa,Y0,not_or,Yb,Qx,Zj];exact⟨⟨hPx,hPS⟩,nSx.symm⟩
   ·intro a ha;have ha:a∈[b.aP,x,aS]:=ha;simp only[Jf,Xa,Y0] at ha;rcases ha with rfl|rfl|rfl
    ·exact .inl (Jh ..)
    ·exact .inr hx
    ·exact .inr hS
   ·intro a o h1 h2 h3;have h2:a≠b.aP:=fun z=>h2 (by rw[z];exact Jh ..);rw[qc h2];exact S1 _ _ h3
   ·show (b.ps++[_]).length=(st.profiles++[row]).length+1;rw[Jx,Jx,B.lp];rfl
   ·intro j y n h1 h2;obtain⟨r1,r2,r3⟩:=B.mr j y n h1 h2;exact⟨r1,r2,r3⟩
  have B1:=K1.bat;generalize upd H1 b.aP (.lst ((b.ps.map fun p=>.ref p.a)++[.ref x]))=H2 at *
  walk_at "";refine qfz B1.o T.clB T.qmw rfl ?_;walk_at "";refine qbb (qbz (SqL.of B1.oP)) ?_;rw[Jd,B1.lp];walk_at "";intro l hl;have hl0:=K1.lv.free hl;refine q _ _ l (K1.same (Kh.new hl)) hl0 ?_;rw[kq];have e:(((st.profiles++[row]).length+1:Nat):Int)-1=((st.profiles.length+1:Nat):Int):=by rw[Jx];simp only[Jz,Y3];omega
  rw[e];rfl
theorem q2a(T:Txt P w K mg A): Fn P w K mg base 1 "zones_fit" ["given"] q82:=by
 refine T.q0o.go q7n (fun _ _ _ _ h=>?_) (fun _ _ _ _ _ H _ Q _ hr h=>?_)
 ·obtain⟨g,k,z,y,t,d,ff,v,p,r,rfl,_⟩:=h;rfl
 ·obtain⟨g,k,z,y,t,d,ff,v,p,r,rfl,hg,q⟩:=h;have hu:=qan hr;refine⟨_,(ko (qab (yb qbf (vq hu kj vo) (vf T.qlb)) (qga qdv (vq hu kj vo) (vq hu kj vo))) (vm (qga qbf (vq hu kj vo) vh))),?_⟩;walk_at "in";refine vp hg (v:=.int (k:Int)) rfl ?_;walk_at "";refine ifD (fun c=>?_) (fun c=>?_)
  ·walk_at "";refine vp hg (v:=.int (z:Int)) rfl ?_;walk_at "";refine vp hg (v:=.int (y:Int)) rfl ?_;walk_at "";have e:decide ((k=2/\z=y)\/(k≠2/\y≠0))=decide ((z:Int)=(y:Int)):=Yt.mpr (by omega);rw[e] at q;exact q
  ·walk_at "";refine vp hg (v:=.int (y:Int)) rfl ?_;walk_at "";have e:(!decide ((k=2/\z=y)\/(k≠2/\y≠0)))=decide ((y:Int)=0):=by
    rw[Zm,Bool.not_eq_true',decide_eq_false_iff_not,Zb];omega
   rw[e] at q;exact q
theorem q1o(T:Txt P w K mg A):
  Fn P w K mg base 2 "install_refusal" ["book","given"] (q8b A):=by
 refine T.qzh.go q68 (fun _ _ _ _ h=>?_) (fun _ _ _ _ _ H _ Q _ hr h=>?_)
 ·obtain⟨st,b,g,k,z,y,t,d,ff,v,p,r,rfl,_⟩:=h;rfl
 ·obtain⟨st,b,g,k,z,y,t,d,ff,v,p,r,rfl,B,hg,hd,q⟩:=h;have hu:=qan hr;have hml:=B.good.ml;unfold qhz at q;refine⟨_,(ko (qab (qsc (qef (k8 (q2a T) hr (vd kr)))) (vf T.qo8)) (ko (qab (yb qeb (vq hu kr vo) (x_len T.qbd (k9 K kj))) (vf T.qxm)) (ko (qab (yb qey (vq hu kr vo) (k9 K kj)) (vf T.qhr)) (ko (qab (yb qeb (vq hu kr vo) (k8 (ql7 T) hr (vd (vq hu kr vo)))) (vf T.qi5)) (ko (qab (yb qbf (x_len T.qbd (k9 K kj)) (vf T.qxf)) (vf T.qge)) (vm (vf T.qam))))))),?_⟩;walk_at "in";refine⟨g,k,z,y,t,d,ff,v,p,r,rfl,hg,?_⟩;walk_at "";rw[Bool.not_not];refine ifD (fun c=>?_) (fun c=>?_)
  ·rw[Je c] at q;walk_at "";exact q
  rw[Jc c] at q;walk_at "";refine vp hg (v:=.int (p:Int)) rfl ?_;walk_at "";refine qbb (qbz (SqL.of B.oP)) ?_;rw[Jd,B.lp];walk_at "";refine ifD (fun c=>?_) (fun c=>?_)
  ·rw[Je (by omega)] at q;walk_at "";exact q
  rw[Jc (by omega)] at q;walk_at "";refine vp hg (v:=.int (t:Int)) rfl ?_;walk_at "";refine ifD (fun c=>?_) (fun c=>?_)
  ·rw[Je (by omega)] at q;walk_at "";exact q
  rw[Jc (by omega)] at q;walk_at "";refine vp hg (v:=.int v) rfl ?_;walk_at "";refine vp hg (v:=.int (d:Int)) rfl ?_;walk_at "";refine⟨d,rfl,by omega,?_⟩;walk_at "";refine ifD (fun c=>?_) (fun c=>?_)
  ·rw[Je (by unfold Vbemai.shows;exact J7 (by omega))] at q;walk_at "";exact q
  rw[Jc (by unfold Vbemai.shows;rw[Xm (by omega)];exact fun z=>nomatch z)] at q;walk_at "";refine qbb (qbz (SqL.of B.oM)) ?_;rw[Jd,B.lm];walk_at "";refine ifD (fun c=>?_) (fun c=>?_)
  ·rw[Je (by omega)] at q;walk_at "";exact q
  rw[Jc (by omega)] at q;walk_at "";exact q
theorem qp3(T:Txt P w K mg A): Fn P w K mg base 4 "new_dial" ["given"] (q8j A):=by
 refine T.qzu.go q7f (fun _ _ _ _ h=>?_) (fun _ _ _ _ _ H _ Q _ hr h=>?_)
 ·obtain⟨g,kvs,y,rfl,_⟩:=h;rfl
 ·obtain⟨g,kvs,y,rfl,hg,hf,hd,h1,h2,h3,h4,q⟩:=h;have hu:=qan hr;refine⟨_,(vm (qia (qx7 T) hr (qac (vq hu kj vo) (qac (vq hu kj vo) (k6 (vq hu kj vo) (vq hu kj vo)))))),?_⟩;walk_at "in";refine vp hg h1 ?_;walk_at "";refine vp hg h2 ?_;walk_at "";refine vp hg h3 ?_;walk_at "";refine vp hg h4 ?_;walk_at "";intro p dx hp hdx hne;refine⟨p,dx,y,rfl,hf,by omega,kq,rfl,?_⟩;rw[qbt];refine q _ p dx ?_ hp kq;exact Kh.upd (Kh.upd (Kh.refl H) hdx) hp
theorem q9b{s:Sta}{k z y t d:Nat}{f v:Int}{p:Nat}{r:Int}: Vbemai.step s (.install k z y t d f v p r)=if qhz s k z y t d v p=0 then ({ s with meters:=s.meters++[{ kind:=k,zone:=z,zone2:=y,profile:=p,rate:=r,devices:=[{ start:=t,value:=v,digits:=d,factor:=f }] }] },[0,((s.meters.length+1:Nat):Int)]) else (s,[qhz s k z y t d v p]):=by
 unfold Vbemai.step qhz;have c2:Vbemai.METERS=32:=rfl;simp only[Vbemai.does,c2];by_cases h1:(k=2/\z=y)\/(k≠2/\y≠0)
 ·rw[Je h1,Je h1,Jc (by decide)]
 rw[Jc h1,Jc h1];by_cases h2:s.profiles.length<p
 ·rw[Je h2,Je h2,Jc (by decide)]
 rw[Jc h2,Jc h2];by_cases h3:t<s.locked
 ·rw[Je h3,Je h3,Jc (by decide)]
 rw[Jc h3,Jc h3];by_cases h4:Vbemai.shows d v=false
 ·rw[Je h4,Je h4,Jc (by decide)]
 rw[Jc h4,Jc h4];by_cases h5:32<=s.meters.length
 ·rw[Je h5,Je h5,Jc (by decide)]
 rw[Jc h5,Jc h5,Je rfl];rfl
theorem q1n(T:Txt P w K mg A): Fn P w K mg base 5 "install_meter" ["book","given"] (qbl A gq1):=by
 refine T.qzg.go qns (fun _ _ _ _ h=>?_) (fun _ _ _ _ _ H _ Q _ hr h=>?_)
 ·obtain⟨st,b,g,c,rfl,_⟩:=h;rfl
 ·obtain⟨st,b,g,c,rfl,B,hga,⟨k,z,y,t,d,ff,v,p,r,rfl,hg,hok,hp8⟩,q⟩:=h;have hu:=qan hr;have hml:=B.good.ml;have hgs:=QM.qes B.good hok;rw[q9b] at q hgs;refine⟨_,(ko (vt 2 qns.nd (k8 (q1o T) hr (k6 kj kr))) (ko (qab (yb qdv ku (vf T.qam)) (qah (vd ku))) (ko (vt 3 qns.nd (qia (qx8 T) hr (qac (vq hu kr vo) (qac (vq hu kr vo) (qac (vq hu kr vo) (qac (vq hu kr vo) (k6 (vq hu kr vo) (k8 (qp3 T) hr (vd kr))))))))) (ko (qb5 (qce Xe Xv Xw qdk (k9 K kj) (vd ya))) (vm (qah (k6 (vf T.qam) (x_len T.qbd (k9 K kj))))))))),?_⟩;walk_at "in";refine⟨st,b,g,k,z,y,t,d,ff,v,p,r,rfl,B,hg,hok.2.2.2.2.2.1,?_⟩;walk_at "";refine ifN (fun c=>?_) (fun c=>?_)
  ·rw[Jc c] at q;walk_at "";intro l hl;exact q _ b l (Qae.of_same B (Kh.new hl)) hl kq
  rw[Je c] at q hgs;walk_at "";refine vp hg (v:=.int (k:Int)) rfl ?_;walk_at "";refine vp hg (v:=.int (z:Int)) rfl ?_;walk_at "";refine vp hg (v:=.int (y:Int)) rfl ?_;walk_at "";refine vp hg (v:=.int (p:Int)) rfl ?_;walk_at "";refine vp hg (v:=.int r) rfl ?_;walk_at "";generalize hyd:({ start:=t,value:=v,digits:=d,factor:=ff }:Dev)=yd at *
  refine⟨g,_,yd,rfl,hg,by rw[<- hyd],by rw[<- hyd];exact hok.2.2.2.2.2.1,by rw[<- hyd];rfl,by rw[<- hyd];rfl,by rw[<- hyd];rfl,by rw[<- hyd];rfl,fun H1 da ddx s1 hda hd1=>?_⟩;walk_at "";intro mx mdx hmx hmdx hmm;generalize hx:({ kind:=k,zone:=z,zone2:=y,profile:=p,rate:=r,devices:=[yd] }:Met)=xx at *
  refine⟨mx,mdx,da,xx,by rw[<- hx],kq,fun H2 aD aR aT b2 gD gR gT nDR nDT nRT hmx2 hD2 hR2 hT2=>⟨rfl,?_⟩⟩;have S2:Kh H1 H2:=fun a o h=>b2 a o (vz h hmx) (by rw[qc (vz h hmx),qc (vz h hmdx)];exact h);have fresh:∀ {a:Addr},upd (upd H1 mdx (.own mx)) mx (.ins A.CM mdx []) a=none->a≠mx/\H1 a=none:=fun {a} h=>by
   have n1:a≠mx:=by intro e;subst e;rw[kq] at h;cases h
   rw[qc n1] at h;have n2:a≠mdx:=by intro e;subst e;rw[kq] at h;cases h
   rw[qc n2] at h;exact⟨n1,h⟩
  obtain⟨nD1,gD⟩:=fresh gD;obtain⟨nR1,gR⟩:=fresh gR;obtain⟨nT1,gT⟩:=fresh gT;have ndx:da≠mx:=vz hd1 hmx;have ndD:da≠aD:=vz hd1 gD;have ndR:da≠aR:=vz hd1 gR;have ndT:da≠aT:=vz hd1 gT;have S02:=s1.trans S2;walk_at "";have B2:=B.same S02;refine qfz B2.o T.clB T.qjq rfl ?_;walk_at "";refine qc5 B2.oM (qa8 (by rw[Jd,B.lm];omega)) ?_;have hbM:b.a≠b.aM:=qay B.o B.oM (by intro z;cases z);have qdi:∀ {a:Addr},H1 a=none->H a=none:=fun h=>s1.free h;have nM:∀ {a:Addr},H a=none->b.aM≠a:=fun h=>vz B.oM h;have K1:Qae A H st b (upd H2 b.aM (.lst ((b.ms.map fun m=>.ref m.a)++[.ref mx]))) { st with meters:=st.meters++[xx] } { b with ms:=b.ms++[⟨mx,mdx,aD,aR,aT,[⟨da,ddx⟩],[],[]⟩] }:=by
   have eN:qa6 A xx ⟨mx,mdx,aD,aR,aT,[⟨da,ddx⟩],[],[]⟩=[(mx,.ins A.CM mdx (qdt xx ⟨mx,mdx,aD,aR,aT,[⟨da,ddx⟩],[],[]⟩)),(aD,.lst [.ref da]),(aR,.dK []),(aT,.dK []),(da,.ins A.CD ddx (qbe yd))]:=by
    rw[<- hx];rfl
   refine qgo B (c0:=bC A st b) (c0':=bC A st b) (N:=[mC b]) (N':=mC { b with ms:=b.ms++[⟨mx,mdx,aD,aR,aT,[⟨da,ddx⟩],[],[]⟩] }::qa6 A xx ⟨mx,mdx,aD,aR,aT,[⟨da,ddx⟩],[],[]⟩) (R:=pC b::qC st b::(qbw A st b++(qbu A st b++nets st b))) ?_ ?_ rfl ?_ ?_ ?_ ?_ ?_ hgs rfl B.lp ?_ B.lq ?_ (Qav.of_same S02).upd
   ·rw[qd5];refine List.Perm.cons _ ?_;exact List.Perm.swap ..
   ·have e1:qbu A { st with meters:=st.meters++[xx] } { b with ms:=b.ms++[⟨mx,mdx,aD,aR,aT,[⟨da,ddx⟩],[],[]⟩] }=qbu A st b++qa6 A xx ⟨mx,mdx,aD,aR,aT,[⟨da,ddx⟩],[],[]⟩:=by
     unfold qbu;show (List.zipWith (qa6 A) (st.meters++[xx]) (b.ms++[_])).flatten=_;rw[Yi B.lm.symm,Wo];simp
    rw[qd5,e1];classical
    refine List.Perm.cons _ ?_;refine Xc.mpr fun a=>?_;show List.count a (pC b::mC { b with ms:=b.ms++[⟨mx,mdx,aD,aR,aT,[⟨da,ddx⟩],[],[]⟩] }::qC st b::(qbw A st b++((qbu A st b++qa6 A xx ⟨mx,mdx,aD,aR,aT,[⟨da,ddx⟩],[],[]⟩)++nets st b)))=_;simp only[Xs,Xz];omega
   ·show upd H2 b.aM _ b.a=_;rw[qc hbM];exact S02 _ _ B.o
   ·rw[eN];intro c hc;simp only[Jf,Xa,Y0] at hc;rcases hc with rfl|rfl|rfl|rfl|rfl|rfl
    ·show upd H2 b.aM _ b.aM=_;rw[kq];unfold mC;simp
    ·show upd H2 b.aM _ mx=_;rw[qc (nM (qdi hmx)).symm];exact hmx2
    ·show upd H2 b.aM _ aD=_;rw[qc (nM (qdi gD)).symm];exact hD2
    ·show upd H2 b.aM _ aR=_;rw[qc (nM (qdi gR)).symm];exact hR2
    ·show upd H2 b.aM _ aT=_;rw[qc (nM (qdi gT)).symm];exact hT2
    ·show upd H2 b.aM _ da=_;rw[qc (nM hda).symm];exact S2 _ _ hd1
   ·rw[eN];show [b.aM,mx,aD,aR,aT,da].Nodup;simp only[Xf,Jf,Xa,Y0,not_or,Yb,Qx,Zj];exact⟨⟨nM (qdi hmx),nM (qdi gD),nM (qdi gR),nM (qdi gT),nM hda⟩,⟨nD1.symm,nR1.symm,nT1.symm,ndx.symm⟩,⟨nDR,nDT,ndD.symm⟩,⟨nRT,ndR.symm⟩,ndT.symm⟩
   ·rw[eN];intro a ha;have ha:a∈[b.aM,mx,aD,aR,aT,da]:=ha;simp only[Jf,Xa,Y0] at ha;rcases ha with rfl|rfl|rfl|rfl|rfl|rfl
    ·exact .inl (Jh ..)
    ·exact .inr (qdi hmx)
    ·exact .inr (qdi gD)
    ·exact .inr (qdi gR)
    ·exact .inr (qdi gT)
    ·exact .inr hda
   ·intro a o h1 h2 h3;have h2:a≠b.aM:=fun z=>h2 (by rw[z];exact Jh ..);rw[qc h2];exact S02 _ _ h3
   ·show (b.ms++[_]).length=(st.meters++[xx]).length;rw[Jx,Jx,B.lm];rfl
   ·intro j y' n h1 h2;have h1:(st.meters++[xx])[j]?=some y':=h1;have h2:(b.ms++[_])[j]?=some n:=h2;rw[List.getElem?_append] at h1 h2;by_cases hj:j<st.meters.length
    ·rw[Je hj] at h1;rw[Je (by rw[B.lm];exact hj)] at h2;obtain⟨r1,r2,r3⟩:=B.mr j y' n h1 h2;exact⟨r1,r2,r3⟩
    ·rw[Jc hj] at h1;rw[Jc (by rw[B.lm];exact hj),B.lm] at h2;cases hz:j-st.meters.length with
     |succ jj=>rw[hz] at h1;simp at h1
     | zero=>
       rw[hz] at h1 h2;cases h1;cases h2;have hj2:j=st.meters.length:=by omega
       have hro:Vbemai.readingsOf st (j+1)=[]:=by
        unfold Vbemai.readingsOf;rw[Zo];intro rr hrr hm;have hm:rr.meter=j+1:=by simpa using hm
        obtain⟨x0,hx0,_⟩:=(B.good.ro rr hrr).dev;have:=(Ji.mp hx0).1;omega
       have hto:QM.toldOf st (j+1)=[]:=by
        unfold QM.toldOf;rw[List.map_eq_nil_iff,Zo];intro aa haa hm;have hm:aa.meter=j+1:=by simpa using hm
        have:=(B.good.ao aa haa).m2;omega
       refine⟨?_,?_,?_⟩
       ·rw[<- hx];rfl
       ·show QM.Qdb [] (Vbemai.readingsOf st (j+1));rw[hro];exact⟨Yb,(fun _ h=>nomatch h),fun t=>Z4 _⟩
       ·show List.Perm [] (QM.toldOf st (j+1));rw[hto]
  have B1:=K1.bat;generalize upd H2 b.aM (.lst ((b.ms.map fun m=>.ref m.a)++[.ref mx]))=H3 at *
  walk_at "";refine qfz B1.o T.clB T.qjq rfl ?_;walk_at "";refine qbb (qbz (SqL.of B1.oM)) ?_;rw[Jd,B1.lm];walk_at "";intro l hl;refine q _ _ l (K1.same (Kh.new hl)) (K1.lv.free hl) ?_;rw[kq];show some (HO.lst [V.int 0,V.int (((st.meters++[xx]).length:Nat):Int)])=_;rw[Jx];rfl
theorem qmx{H:Hp}{s:Sta}{b:Qad}(B:BAt A H s b){k:Nat}{x:Met}{m:Qaa}(M:MAt A H s k x m): b.a≠m.a:=qay B.o M.o (by
 intro z;injection z with _ _ z;have:=Yk List.length z;simp[qbm,qdt] at this)
theorem q9i{s:Sta}{i:Nat}{x:Met}(h:s.meters[i]?=some x)(r:Int): Vbemai.step s (.rate (i+1) r)=({ s with meters:=s.meters.set i { x with rate:=r } },[0]):=by
 unfold Vbemai.step;simp only[Vbemai.does,QM.meter?_at h];show (Vbemai.changed s (i+1) _,[0])=_;unfold Vbemai.changed;rw[Za,qkg _ h]
theorem q11(T:Txt P w K mg A): Fn P w K mg base 2 "set_rate" ["book","given"] (qbl A gq5):=by
 refine T.qz7.go qu3 (fun _ _ _ _ h=>?_) (fun _ _ _ _ _ H _ Q _ hr h=>?_)
 ·obtain⟨st,b,g,c,rfl,_⟩:=h;rfl
 ·obtain⟨st,b,g,c,rfl,B,hga,⟨i,r,x,rfl,hg,hok,hx⟩,q⟩:=h;obtain⟨m,hm⟩:=B.qex hx;have M:=B.met hx hm;have hu:=qan hr;have hgs:=QM.qes B.good hok;rw[q9i hx] at q hgs;refine⟨_,(ko (vt 2 qu3.nd (k8 (qeq T) hr (k6 kj kr))) (ko (qaq ku (vq hu kr vo) rfl) (vm (qah (vd (vf T.qam)))))),?_⟩;walk_at "in";refine⟨st,b,g,i,x,m,rfl,B,⟨_,hg,rfl⟩,hx,hm,?_⟩;walk_at "";refine vp hg (v:=.int r) rfl ?_;walk_at "";intro l hl;have hba:=qmx B M;have K1:Qae A H st b (upd H m.a (.ins A.CM m.dx (qdt { x with rate:=r } m))) { st with meters:=st.meters.set i { x with rate:=r } } { b with ms:=b.ms.set i m }:=by
   refine qgn B hx hm rfl rfl rfl rfl (N:=[xC A x m]) (N':=[xC A { x with rate:=r } m]) (R:=dC m::rC m::tC' m::(dis A x m++vrs m)) (Z4 _) (Z4 _) ?_ ?_ ?_ ?_ ?_ hgs ?_ ?_ (Qav.of_same (Kh.refl H)).upd
   ·rw[qc hba];exact B.o
   ·intro c hc;obtain rfl:=J3.mp hc;exact kq
   ·exact Xf.mpr ⟨Xa,Yb⟩
   ·exact fun a ha=>.inl ha
   ·intro a o h1 h2 h3;have h2:a≠m.a:=fun z=>h2 (by rw[z];exact Jh ..);rw[qc h2];exact h3
   ·obtain⟨r1,r2,r3⟩:=M.rel;exact⟨r1,r2,r3⟩
   ·rintro j y n _ ⟨r1,r2,r3⟩;exact⟨r1,r2,r3⟩
  exact q _ _ l (K1.same (Kh.new hl)) (K1.lv.free hl) kq
theorem q1s(T:Txt P w K mg A): Fn P w K mg base 6 "move_lock" ["book","given"] (qbl A gq7):=by
 refine T.qzr.go qu1 (fun _ _ _ _ h=>?_) (fun _ _ _ _ _ H _ Q _ hr h=>?_)
 ·obtain⟨st,b,g,c,rfl,_⟩:=h;rfl
 ·obtain⟨st,b,g,c,rfl,B,hga,⟨t,rfl,hg,hok⟩,q⟩:=h;have hu:=qan hr;have hgs:=QM.qes B.good hok;have e:Vbemai.step st (.lock t)=if t<=st.locked then (st,[-5]) else if (Vbemai.unread st t).isEmpty=false then (st,[-10]) else ({ st with locked:=t },[0]):=by
   unfold Vbemai.step;simp only[Vbemai.does];by_cases h1:t<=st.locked
   ·rw[Je h1,Je h1]
   ·rw[Jc h1,Jc h1];by_cases h2:(Vbemai.unread st t).isEmpty=false
    ·rw[Je h2,Je h2]
    ·rw[Jc h2,Jc h2]
  rw[e] at q hgs;refine⟨_,(ko (vt 2 qu1.nd (vq hu kr vo)) (ko (qab (yb qdu ku (k9 K kj)) (qah (vd (vf T.qhr)))) (ko (qab (yb qjs (x_len T.qbd (k8 (qp6 T) hr (k6 kj ku))) vh) (qah (vd (vf T.qxt)))) (ko (qaq kj ku rfl) (vm (qah (vd (vf T.qam)))))))),?_⟩;walk_at "in";refine vp hg (v:=.int (t:Int)) rfl ?_;walk_at "";refine ifD (fun c=>?_) (fun c=>?_)
  ·rw[Je (by omega)] at q;walk_at "";intro l hl;exact q _ b l (Qae.of_same B (Kh.new hl)) hl kq
  rw[Jc (by omega)] at q hgs;walk_at "";refine⟨st,b,t,rfl,B,fun H1 l1 s1 hl1 qgk=>?_⟩;walk_at "";refine qbb (qbz (SqL.of qgk)) ?_;rw[qct];walk_at "";refine ifD (fun c=>?_) (fun c=>?_)
  ·have h2:(Vbemai.unread st t).isEmpty=false:=by
    cases hu2:Vbemai.unread st t with
    |nil=>rw[hu2] at c;exact absurd c (by decide)
    |cons a r=>rfl
   rw[Je h2] at q;walk_at "";intro l hl;exact q _ b l (Qae.of_same B (s1.trans (Kh.new hl))) (s1.free hl) kq
  have h2:¬ (Vbemai.unread st t).isEmpty=false:=by
   cases hu2:Vbemai.unread st t with
   |nil=>exact fun z=>nomatch z
   |cons a r=>rw[hu2] at c;simp only[Jz] at c;omega
  rw[Jc h2] at q hgs;have B1:=B.same s1;walk_at "";intro l hl;have K1:Qae A H st b (upd H1 b.a (.ins A.CB b.dx (qbm { st with locked:=t } b))) { st with locked:=t } b:=by
   refine q3a B rfl rfl rfl rfl rfl kq (fun a o h1 h2=>?_) hgs (Qav.of_same s1).upd;rw[qc h1];exact s1 _ _ h2
  exact q _ b l (K1.same (Kh.new hl)) (K1.lv.free hl) kq
def qb7(s:Sta)(x:Met)(k t n:Nat)(v:Int): Int:=if t<=s.locked then -5 else match x.devices.find? (Vbemai.within t) with
 |none=>-6
 |some d=>if Vbemai.shows d.digits v=false then -7 else if s.readings.any (fun r=>r.meter==k&&(r.at_==t&&r.version==n))=true then -8 else if 256<=s.readings.length then -4 else 0
def q8m(A:Ads): Sp:=fun vs H Q _=>∃ (s:Sta) (b:Qad) (g:Addr) (i t n:Nat) (v:Int) (x:Met) (m:Qaa),vs=[.ref b.a,.ref m.a,.ref g]/\BAt A H s b/\s.meters[i]?=some x/\b.ms[i]?=some m/\GV H g 2 [((i+1:Nat):Int),t,n,v]/\∀ H',Kh H H'->Q (.int (qb7 s x (i+1) t n v)) H'
theorem lookup_isSome{β:Type}(n:Nat): ∀ l:List (Nat×β),(l.lookup n).isSome=decide (n∈l.map (·.1))
 |[]=>by simp
 | e::l=>by
   rw[X0];by_cases h:n=e.1
   ·subst h;simp
   ·have:(n==e.1)=false:=by simpa using h
    rw[this,Jq];show (List.lookup n l).isSome=_;rw[lookup_isSome n l];exact Yt.mpr (by simp[h])
theorem qv7{H:Hp}{s:Sta}{k:Nat}{x:Met}{m:Qaa}(M:MAt A H s k x m)(t n:Nat){p:Addr}(hp:H p=some (.dK [])): ∃ (d:Addr) (vs:List (Nat×Int)),(vj (rdK m.rd) (Sum.inl (t:Int))).getD (.ref p) = .ref d/\H d=some (.dK (vsK vs))/\(vj (vsK vs) (Sum.inl (n:Int))).isSome=s.readings.any (fun r=>r.meter==k&&(r.at_==t&&r.version==n)):=by
 have key:∀ vs,QM.qa5 (m.rd.map fun e=>(e.t,e.vs)) t=vs->(vj (vsK vs) (Sum.inl (n:Int))).isSome=s.readings.any (fun r=>r.meter==k&&(r.at_==t&&r.version==n)):=fun vs e=>by
  rw[QM.qwp,qof,Wf,lookup_isSome];have hR:=(M.rel.rd.rel t).map (·.1);rw[e,Xy] at hR;exact Yt.mpr hR.mem_iff
 rcases qg4 t m.rd with ⟨e,he,rfl,hv,hl⟩|⟨hv,hl,hn⟩
 ·exact⟨e.a,e.vs,by rw[hv];rfl,M.qgu he,key _ (by unfold QM.qa5;rw[hl];rfl)⟩
 ·exact⟨p,[],by rw[hv];rfl,hp,key _ (by unfold QM.qa5;rw[hl];rfl)⟩
theorem q1x(T:Txt P w K mg A): Fn P w K mg base 2 "read_refusal" ["book","meter","given"] (q8m A):=by
 refine T.qz1.go qnt (fun _ _ _ _ h=>?_) (fun _ _ _ _ _ H _ Q _ hr h=>?_)
 ·obtain⟨st,b,g,i,t,n,v,x,m,rfl,_⟩:=h;rfl
 ·obtain⟨st,b,g,i,t,n,v,x,m,rfl,B,hx,hm,hg,q⟩:=h;have hu:=qan hr;have M:=B.met hx hm;have hrl:=B.good.rl;unfold qb7 at q;refine⟨_,(ko (vt 3 qnt.nd (vq hu ku vo)) (ko (qab (yb qdu ya (k9 K kj)) (vf T.qhr)) (ko (vt 4 qnt.nd (k8 (q1y T) hr (k6 kr ya))) (ko (qab (yb qjt qa0 qdy) (vf T.qo4)) (ko (qab (yb qeb (vq hu ku vo) (k9 K qa0)) (vf T.qi5)) (ko (qab (qg1 (qjv hu (vq hu ku vo) (qjw hu (k9 K kr) ya qgv ⟨rfl,rfl,rfl,rfl⟩))) (vf T.qxq)) (ko (qab (yb qbf (k9 K kj) (vf T.qxi)) (vf T.qge)) (vm (vf T.qam))))))))),?_⟩;walk_at "in";refine vp hg (v:=.int (t:Int)) rfl ?_;walk_at "";refine ifD (fun c=>?_) (fun c=>?_)
  ·rw[Je (by omega)] at q;walk_at "";exact q H (Kh.refl H)
  rw[Jc (by omega)] at q;walk_at "";refine⟨st,i+1,x,m,t,rfl,M,fun hn=>?_,fun j y d hy hj hd=>?_⟩
  ·rw[hn] at q;walk_at "";refine⟨rfl,?_⟩;walk_at "";refine qax ?_;walk_at "";exact q H (Kh.refl H)
  have hod:=M.qh5 hd hj;have q:∀ H',Kh H H'->Q (.int (if Vbemai.shows y.digits v=false then -7 else if st.readings.any (fun r=>r.meter==i+1&&(r.at_==t&&r.version==n))=true then -8 else if 256<=st.readings.length then -4 else 0)) H':=by
   rw[hy] at q;exact q
  walk_at "";refine⟨rfl,?_⟩;walk_at "";refine qa3 ?_;walk_at "";refine vp hg (v:=.int v) rfl ?_;walk_at "";refine ifD (fun c=>?_) (fun c=>?_)
  ·rw[Je (by unfold Vbemai.shows;exact J7 (by omega))] at q;walk_at "";exact q H (Kh.refl H)
  rw[Jc (by unfold Vbemai.shows;rw[Xm (by omega)];exact fun z=>nomatch z)] at q;walk_at "";refine vp hg (v:=.int (n:Int)) rfl ?_;walk_at "";refine qgl fun p hp=>?_;have s1:=Kh.new (o:=.dK []) hp;have B1:=B.same s1;have M1:=M.same s1;obtain⟨dv,vs,e1,e2,e3⟩:=qv7 M1 t n kq;refine r_d2I M1.oR ?_;rw[e1];generalize upd H p (.dK [])=H1 at *
  walk_at "";refine r_diI e2 ?_;rw[e3];walk_at "";refine ifB (fun c=>?_) (fun c=>?_)
  ·rw[Je c] at q;walk_at "";exact q _ s1
  rw[Jc (by rw[c];exact Jr)] at q;walk_at "";refine ifD (fun c=>?_) (fun c=>?_)
  ·rw[Je (by omega)] at q;walk_at "";exact q _ s1
  rw[Jc (by omega)] at q;walk_at "";exact q _ s1
theorem q9j{s:Sta}{i t n:Nat}{v:Int}{x:Met}(h:s.meters[i]?=some x): Vbemai.step s (.read (i+1) t n v)=if qb7 s x (i+1) t n v=0 then ({ s with readings:=Vbemai.putReading ⟨i+1,t,n,v⟩ s.readings },[0]) else (s,[qb7 s x (i+1) t n v]):=by
 unfold Vbemai.step;have c2:Vbemai.READINGS=256:=rfl;simp only[Vbemai.does,QM.meter?_at h,c2];by_cases h1:t<=s.locked
 ·have e:qb7 s x (i+1) t n v = -5:=by unfold qb7;exact Je h1
  rw[e,Je h1];rfl
 rw[Jc h1];cases hf:x.devices.find? (Vbemai.within t) with
 | none=>
   have e:qb7 s x (i+1) t n v = -6:=by unfold qb7;rw[Jc h1,hf]
   rw[e];rfl
 | some d=>
   dsimp only;by_cases h2:Vbemai.shows d.digits v=false
   ·have e:qb7 s x (i+1) t n v = -7:=by unfold qb7;rw[Jc h1,hf];exact Je h2
    rw[e,Je h2];rfl
   rw[Jc h2];by_cases h3:s.readings.any (fun r=>r.meter==i+1&&(r.at_==t&&r.version==n))=true
   ·have e:qb7 s x (i+1) t n v = -8:=by unfold qb7;rw[Jc h1,hf];exact(Jc h2).trans (Je h3)
    rw[e,Je h3];rfl
   rw[Jc h3];by_cases h4:256<=s.readings.length
   ·have e:qb7 s x (i+1) t n v = -4:=by unfold qb7;rw[Jc h1,hf];exact(Jc h2).trans ((Jc h3).trans (Je h4))
    rw[e,Je h4];rfl
   have e:qb7 s x (i+1) t n v=0:=by unfold qb7;rw[Jc h1,hf];exact(Jc h2).trans ((Jc h3).trans (Jc h4))
   rw[e,Jc h4,Je rfl]
theorem q55{s:Sta}{i t n:Nat}{v:Int}{x:Met}(h:qb7 s x (i+1) t n v=0): s.readings.any (fun r=>r.meter==i+1&&(r.at_==t&&r.version==n))=false/\s.readings.length<256:=by
 unfold qb7 at h;split at h
 ·cases h
 ·split at h
  ·cases h
  ·split at h
   ·cases h
   ·split at h
    ·cases h
    ·split at h
     ·cases h
     ·rename_i h3 h4;refine⟨?_,by omega⟩;cases e:s.readings.any (fun r=>r.meter==i+1&&(r.at_==t&&r.version==n)) with
      |true=>exact absurd e h3
      |false=>rfl
def rDS(ty tx:TE)(σ:St)(Q:VK)(x:V)(H1:Hp): Prop:=∃ a,x = .ref a/\IsD H1 a/\ty σ H1 fun y H2=>tx σ H2 fun z H3=>∃ kvs k,H3 a=some (.dK kvs)/\kvs.length<sizeLine/\y=kV k/\(∀ v,vj kvs k=some v->Q v H3)/\(vj kvs k=none->Q z (upd H3 a (.dK (putK kvs k z))))
def rDSb(a:Addr)(y z:V)(H3:Hp)(Q:VK): Prop:=∃ kvs k,H3 a=some (.dK kvs)/\kvs.length<sizeLine/\y=kV k/\(∀ v,vj kvs k=some v->Q v H3)/\(vj kvs k=none->Q z (upd H3 a (.dK (putK kvs k z))))
theorem q2y{td ty tx:TE}{σ:St}{H:Hp}{Q:VK}(h:td σ H fun x H1=>rDS ty tx σ Q x H1): qvu td ty tx σ H Q:=h
theorem r_ds{ty tx:TE}{σ:St}{H:Hp}{Q:VK}{a:Addr}{kvs:List (Key×V)}(e:H a=some (.dK kvs))(h:ty σ H fun y H2=>tx σ H2 fun z H3=>rDSb a y z H3 Q): rDS ty tx σ Q (.ref a) H:=⟨a,rfl,.inl ⟨kvs,.inl e⟩,h⟩
theorem qwb{vs:List (Nat×Int)}{n:Nat}{v:Int}(h:(vj (vsK vs) (Sum.inl (n:Int))).isSome=false): putK (vsK vs) (Sum.inl (n:Int)) (.int v)=vsK (vs++[(n,v)]):=by
 unfold putK;rw[qhi,h,Jc Jr];unfold vsK;rw[Jv];rfl
theorem rd_put{rd:List Qdc}{t:Nat}{p:Addr}{vs:List (Nat×Int)}(h:vj (rdK rd) (Sum.inl (t:Int))=none): putK (rdK rd) (Sum.inl (t:Int)) (.ref p)=rdK (rd++[⟨t,p,vs⟩]):=by
 unfold putK;rw[qhi,h,Jc (by exact Jr)];unfold rdK;rw[Jv];rfl
theorem q51(x:Vbemai.Reading)(l:List Vbemai.Reading): (Vbemai.putReading x l).length=l.length+1:=(QM.qid x l).length_eq
theorem qrj{s:Sta}{i t n j:Nat}{v:Int}{y:Met}{m:Qaa}(hj:j≠i)(h:Qda s (j+1) y m): Qda { s with readings:=Vbemai.putReading ⟨i+1,t,n,v⟩ s.readings } (j+1) y m:=by
 obtain⟨r1,r2,r3⟩:=h;refine⟨r1,?_,r3⟩;unfold Vbemai.readingsOf;rw[QM.qsm _ (by show i+1≠j+1;omega)];exact r2
theorem q1w(T:Txt P w K mg A): Fn P w K mg base 3 "read_meter" ["book","given"] (qbl A gq2):=by
 refine T.qz0.go qkc (fun _ _ _ _ h=>?_) (fun _ _ _ _ _ H _ Q _ hr h=>?_)
 ·obtain⟨st,b,g,c,rfl,_⟩:=h;rfl
 ·obtain⟨st,b,g,c,rfl,B,hga,⟨i,t,n,v,x,rfl,hg,hok,hx⟩,q⟩:=h;obtain⟨m,hm⟩:=B.qex hx;have M:=B.met hx hm;have hu:=qan hr;have hgs:=QM.qes B.good hok;rw[q9j hx] at q hgs;refine⟨_,(ko (vt 2 qkc.nd (k8 (qeq T) hr (k6 kj kr))) (ko (vt 3 qkc.nd (k8 (q1x T) hr (qac kj (k6 ku kr)))) (ko (qab (yb qdv ya (vf T.qam)) (qah (vd ya))) (ko (vt 4 qkc.nd (q5f (k9 K ku) (vq hu kr vo) qgv ⟨rfl,rfl,rfl,rfl⟩)) (ko (qnc hu qa0 (vq hu kr vo) (vq hu kr vo) rfl) (ko (qaq kj (qaf qca (k9 K kj) vh) rfl) (vm (qah (vd (vf T.qam)))))))))),?_⟩;walk_at "in";refine⟨st,b,g,i,x,m,rfl,B,⟨_,hg,rfl⟩,hx,hm,?_⟩;walk_at "";refine⟨st,b,g,i,t,n,v,x,m,rfl,B,hx,hm,hg,fun H1 s1=>?_⟩;walk_at "";refine ifN (fun c=>?_) (fun c=>?_)
  ·rw[Jc c] at q;walk_at "";intro l hl;exact q _ b l (Qae.of_same B (s1.trans (Kh.new hl))) (s1.free hl) kq
  rw[Je c] at q hgs;obtain⟨hnv,hlt⟩:=q55 c;have hg1:=hg.same s1;have M1:=M.same s1;walk_at "";refine q2y ?_;walk_at "";refine r_ds M1.oR ?_;walk_at "";refine vp hg1 (v:=.int (t:Int)) rfl ?_;walk_at "";refine qgl fun p hp=>?_;have s2:=Kh.new (o:=.dK []) hp;have S2:=s1.trans s2;have hp0:=s1.free hp;have B2:=B.same S2;have M2:=M.same S2;have hg2:=hg.same S2;have hpp:upd H1 p (.dK []) p=some (.dK []):=kq;obtain⟨dv,vs,e1,e2,e3⟩:=qv7 M2 t n hpp;rw[hnv] at e3;have hput:=qwb (v:=v) e3;have hba:=qmx B M;have hcnt:((st.readings.length:Int)+1)=((Vbemai.putReading ⟨i+1,t,n,v⟩ st.readings).length:Int):=by rw[q51];rfl
  generalize upd H1 p (.dK [])=H2 at *
  have hrl:=qih M.good M.rel;have hsx:st.meters=st.meters.set i x:=by
   have hi:=(Ji.mp hx).1;have e:=(Ji.mp hx).2;rw[<- e,Qo]
  have hRp:=QM.q56 (s:=st) (m:=i+1) (t:=t) (n:=n) (v:=v) M.rel.rd;refine⟨rdK m.rd,Sum.inl (t:Int),M2.oR,small 10001 (by unfold rdK;rw[Jd];exact hrl),rfl,fun v0 hv0=>?_,fun hv0=>?_⟩
  ·rw[hv0] at e1;obtain rfl:v0 = .ref dv:=e1;have hfound:∃ e∈m.rd,e.t=t/\vj (rdK m.rd) (Sum.inl (t:Int))=some (.ref e.a):=by
    rcases qg4 t m.rd with ⟨e,he,het,hv1,hl1⟩|⟨hv1,_,_⟩
    ·exact⟨e,he,het,hv1⟩
    ·rw[hv1] at hv0;cases hv0
   obtain⟨e,he,het,hv1⟩:=hfound;rw[hv1] at hv0;obtain rfl:e.a=dv:=V.ref.inj (Jj hv0);have hev:=M2.qgu he;rw[hev] at e2;have hvs:vsK e.vs=vsK vs:=HO.dK.inj (Jj e2);obtain⟨k1,hk1⟩:=Zw he;obtain⟨r1,r2,er,_⟩:=qn2 hk1;have hnd:=M.rel.rd.nd;have hbe:b.a≠e.a:=qay B2.o hev (by intro z;cases z);have hvl:=vs_len M.good M.rel he;have e2':H2 e.a=some (.dK (vsK e.vs)):=hev;rw[<- hvs] at e3;have hput:=qwb (v:=v) e3;walk_at "";refine vp hg2 (v:=.int v) rfl ?_;walk_at "";refine vp hg2 (v:=.int (n:Int)) rfl ?_;walk_at "";refine qj0 hev (qa8 (by unfold vsK;rw[Jd];omega)) ?_;rw[hput];have o3:upd H2 e.a (.dK (vsK (e.vs++[(n,v)]))) b.a=some (.ins A.CB b.dx (qbm st b)):=by rw[qc hbe];exact B2.o
   walk_at "";intro l hl;have K1:Qae A H st b (upd (upd H2 e.a (.dK (vsK (e.vs++[(n,v)])))) b.a (.ins A.CB b.dx (qbm { st with readings:=Vbemai.putReading ⟨i+1,t,n,v⟩ st.readings } b))) { st with readings:=Vbemai.putReading ⟨i+1,t,n,v⟩ st.readings } { b with ms:=b.ms.set i { m with rd:=r1++⟨e.t,e.a,e.vs++[(n,v)]⟩::r2 } }:=by
    refine qgn B hx hm hsx rfl rfl rfl (N:=[qb2 e]) (N':=[qb2 ⟨e.t,e.a,e.vs++[(n,v)]⟩]) (R:=xC A x m::dC m::rC m::tC' m::(dis A x m++(r1.map qb2++r2.map qb2))) ?_ ?_ kq ?_ ?_ ?_ ?_ hgs ?_ (fun j y' n' hj hr=>qrj hj hr) ((Qav.of_same S2).upd).upd
    ·rw[qea];have e5:vrs m=r1.map qb2++qb2 e::r2.map qb2:=by unfold vrs;rw[er,Jv,Jq]
     rw[e5];classical
     refine Xc.mpr fun a=>?_;simp only[Xs,Xz,Yh];omega
    ·rw[qea];have e5:vrs { m with rd:=r1++⟨e.t,e.a,e.vs++[(n,v)]⟩::r2 }=r1.map qb2++qb2 ⟨e.t,e.a,e.vs++[(n,v)]⟩::r2.map qb2:=by
      show (r1++_::r2).map qb2=_;rw[Jv,Jq]
     have e6:rC { m with rd:=r1++⟨e.t,e.a,e.vs++[(n,v)]⟩::r2 }=rC m:=by
      show (m.aR,HO.dK (rdK (r1++_::r2)))=(m.aR,HO.dK (rdK m.rd))
      rw[er];unfold rdK;rw[Jv,Jq,Jv,Jq]
     rw[e5,e6];classical
     refine Xc.mpr fun a=>?_;show List.count a (xC A x m::dC m::rC m::tC' m::(dis A x m++_))=_;simp only[Xs,Xz,Yh];omega
    ·intro c hc;obtain rfl:=J3.mp hc;show upd _ b.a _ e.a=_;rw[qc hbe.symm,kq];rfl
    ·exact Xf.mpr ⟨Xa,Yb⟩
    ·exact fun a ha=>.inl ha
    ·intro a o h1 h2 h3;have h2:a≠e.a:=fun z=>h2 (by rw[z];exact Jh ..);rw[qc h1,qc h2];exact S2 _ _ h3
    ·refine⟨M.rel.dl,?_,M.rel.tl⟩;have e7:((r1++(⟨e.t,e.a,e.vs++[(n,v)]⟩:Qdc)::r2).map fun e=>(e.t,e.vs))=QM.qe0 (m.rd.map fun e=>(e.t,e.vs)) t n v:=by
      unfold QM.qe0;have hmem:t∈(m.rd.map fun e=>(e.t,e.vs)).map (·.1):=by
       rw[Xy];exact Jk.mpr ⟨e,he,het⟩
      rw[Je hmem,er];rw[er] at hnd;simp only[Jv,Jq,Xy] at hnd ⊢;rw[Zi,Xf] at hnd;rw[Je het];congr 1
      ·refine(X8 fun a ha=>?_);show (a.t,a.vs)=if a.t=t then _ else _
       rw[Jc];intro z;refine hnd.2.2 a.t (Jk.mpr ⟨a,ha,rfl⟩) e.t (Jh ..) ?_;rw[z,het]
      ·congr 1;refine(X8 fun a ha=>?_);show (a.t,a.vs)=if a.t=t then _ else _
       rw[Jc];intro z;exact hnd.2.1.1 (Jk.mpr ⟨a,ha,by show a.t=e.t;rw[z,het]⟩)
     show QM.Qdb ((r1++(⟨e.t,e.a,e.vs++[(n,v)]⟩:Qdc)::r2).map fun e=>(e.t,e.vs)) _;rw[e7];exact hRp
   rw[hcnt] at hl ⊢;exact q _ _ l (K1.same (Kh.new hl)) (K1.lv.free hl) kq
  ·rw[hv0] at e1;obtain rfl:p=dv:=V.ref.inj e1;rw[rd_put (vs:=[(n,v)]) hv0];have hvs:vs=[]:=by
    rw[hpp] at e2;have:([]:List (Key×V))=vsK vs:=HO.dK.inj (Jj e2);cases vs with
    |nil=>rfl
    |cons a r=>cases this
   rw[hvs] at hput;have hmR:H m.aR=some (.dK (rdK m.rd)):=M.oR;have hpR:p≠m.aR:=(vz hmR hp0).symm;have hbR:b.a≠m.aR:=qay B.o hmR (by intro z;cases z);have hbp:b.a≠p:=vz B.o hp0;have hg3:upd H2 m.aR (.dK (rdK (m.rd++[⟨t,p,[(n,v)]⟩]))) g=H2 g:=qc (by
    intro z;exact hga (z ▸ Jk.mpr ⟨(m.aR,.dK (rdK m.rd)),by
     unfold qck;have h1:=qho (f:=qa6 A) hx hm;have:(m.aR,HO.dK (rdK m.rd))∈(List.zipWith (qa6 A) st.meters b.ms).flatten:=List.mem_flatten.mpr ⟨_,h1,by unfold qa6;simp⟩;simp only[Jf,J4];exact .inr (.inr (.inr (.inr (.inr (.inl this))))),rfl⟩))
   have hg4:GV (upd H2 m.aR (.dK (rdK (m.rd++[⟨t,p,[(n,v)]⟩])))) g 2 [((i+1:Nat):Int),t,n,v]:=hg3.trans hg2;have hp4:upd H2 m.aR (.dK (rdK (m.rd++[⟨t,p,[(n,v)]⟩]))) p=some (.dK (vsK [])):=by rw[qc hpR];exact hpp
   walk_at "";refine vp hg4 (v:=.int v) rfl ?_;walk_at "";refine vp hg4 (v:=.int (n:Int)) rfl ?_;walk_at "";refine qj0 hp4 (qa8 (by simp[vsK])) ?_;rw[hput];have o3:upd (upd H2 m.aR (.dK (rdK (m.rd++[⟨t,p,[(n,v)]⟩])))) p (.dK (vsK ([]++[(n,v)]))) b.a=some (.ins A.CB b.dx (qbm st b)):=by rw[qc hbp,qc hbR];exact B2.o
   walk_at "";intro l hl;have K1:Qae A H st b (upd (upd (upd H2 m.aR (.dK (rdK (m.rd++[⟨t,p,[(n,v)]⟩])))) p (.dK (vsK ([]++[(n,v)])))) b.a (.ins A.CB b.dx (qbm { st with readings:=Vbemai.putReading ⟨i+1,t,n,v⟩ st.readings } b))) { st with readings:=Vbemai.putReading ⟨i+1,t,n,v⟩ st.readings } { b with ms:=b.ms.set i { m with rd:=m.rd++[⟨t,p,[(n,v)]⟩] } }:=by
    refine qgn B hx hm hsx rfl rfl rfl (N:=[rC m]) (N':=[rC { m with rd:=m.rd++[⟨t,p,[(n,v)]⟩] },qb2 ⟨t,p,[(n,v)]⟩]) (R:=xC A x m::dC m::tC' m::(dis A x m++vrs m)) ?_ ?_ kq ?_ ?_ ?_ ?_ hgs ?_ (fun j y' n' hj hr=>qrj hj hr) (((Qav.of_same S2).upd).upd).upd
    ·rw[qea];classical
     refine Xc.mpr fun a=>?_;simp only[Xs,Xz,Yh];omega
    ·rw[qea];have e5:vrs { m with rd:=m.rd++[⟨t,p,[(n,v)]⟩] }=vrs m++[qb2 ⟨t,p,[(n,v)]⟩]:=by
      show (m.rd++[_]).map qb2=_;rw[Jv];rfl
     rw[e5];classical
     refine Xc.mpr fun a=>?_;show List.count a (xC A x m::dC m::rC { m with rd:=m.rd++[⟨t,p,[(n,v)]⟩] }::tC' m::(dis A x m++_))=_;simp only[Xs,Xz,Yh];omega
    ·intro c hc;simp only[Jf,Xa,Y0] at hc;rcases hc with rfl|rfl
     ·show upd _ b.a _ m.aR=_;rw[qc hbR.symm,qc hpR.symm,kq];rfl
     ·show upd _ b.a _ p=_;rw[qc hbp.symm,kq];rfl
    ·show [m.aR,p].Nodup;simp only[Xf,Jf,Xa,Y0,Yb,Qx,Zj];exact hpR.symm
    ·intro a ha;have ha:a∈[m.aR,p]:=ha;simp only[Jf,Xa,Y0] at ha;rcases ha with rfl|rfl
     ·exact .inl (Jh ..)
     ·exact .inr hp0
    ·intro a o h1 h2 h3;have h2:a≠m.aR:=fun z=>h2 (by rw[z];exact Jh ..);rw[qc h1,qc (vz h3 hp0),qc h2];exact S2 _ _ h3
    ·refine⟨M.rel.dl,?_,M.rel.tl⟩;have e7:((m.rd++[(⟨t,p,[(n,v)]⟩:Qdc)]).map fun e=>(e.t,e.vs))=QM.qe0 (m.rd.map fun e=>(e.t,e.vs)) t n v:=by
      unfold QM.qe0;rw[Jc,Jv];rfl;intro z;rw[Xy] at z;obtain⟨e,he,het⟩:=Jk.mp z;rcases qg4 t m.rd with ⟨e',_,_,hv1,_⟩|⟨_,_,hn⟩
      ·rw[hv1] at hv0;cases hv0
      ·exact hn e he het
     show QM.Qdb ((m.rd++[(⟨t,p,[(n,v)]⟩:Qdc)]).map fun e=>(e.t,e.vs)) _;rw[e7];exact hRp
   rw[hcnt] at hl ⊢;exact q _ _ l (K1.same (Kh.new hl)) (K1.lv.free hl) kq
def qdd(s:Sta)(x:Met)(k q:Nat): Int:=if x.kind=2 then -12 else if q<s.locked then -5 else if 64<=s.assigns.length/\s.assigns.any (fun a=>a.meter==k&&a.quarter==q)=false then -4 else 0
def q73(A:Ads): Sp:=fun vs H Q _=>∃ (s:Sta) (b:Qad) (g:Addr) (i t h:Nat) (x:Met) (m:Qaa),vs=[.ref b.a,.ref m.a,.ref g]/\BAt A H s b/\s.meters[i]?=some x/\b.ms[i]?=some m/\GV H g 6 [((i+1:Nat):Int),t,h]/\Q (.int (qdd s x (i+1) t)) H
theorem tl_in{H:Hp}{s:Sta}{k:Nat}{x:Met}{m:Qaa}(M:MAt A H s k x m)(q:Nat): (vj (tlK m.tl) (Sum.inl (q:Int))).isSome=s.assigns.any (fun a=>a.meter==k&&a.quarter==q):=by
 rw[QM.qwo,qob,Wf,lookup_isSome];exact Yt.mpr (M.rel.tl.map (·.1)).mem_iff
theorem q1g(T:Txt P w K mg A): Fn P w K mg base 1 "assign_refusal" ["book","meter","given"] (q73 A):=by
 refine T.qy4.go q62 (fun _ _ _ _ h=>?_) (fun _ _ _ _ _ H _ Q _ hr h=>?_)
 ·obtain⟨st,b,g,i,t,h,x,m,rfl,_⟩:=h;rfl
 ·obtain⟨st,b,g,i,t,h,x,m,rfl,B,hx,hm,hg,q⟩:=h;have hu:=qan hr;have M:=B.met hx hm;have hal:=B.good.al;unfold qdd at q;refine⟨_,(ko (qab (yb qbf (k9 K kr) (vf T.qlb)) (vf T.qo8)) (ko (qab (yb qey (vq hu ku vo) (k9 K kj)) (vf T.qhr)) (ko (qab (PW.pt (qfi (qg1 (qm5 hu (vq hu ku vo) (k9 K kr))) (qfj (yb qbf (k9 K kj) (vf T.qxj))))) (vf T.qge)) (vm (vf T.qam))))),?_⟩;walk_at "in";refine ifD (fun c=>?_) (fun c=>?_)
  ·rw[Je (by omega)] at q;walk_at "";exact q
  rw[Jc (by omega)] at q;walk_at "";refine vp hg (v:=.int (t:Int)) rfl ?_;walk_at "";refine ifD (fun c=>?_) (fun c=>?_)
  ·rw[Je (by omega)] at q;walk_at "";exact q
  rw[Jc (by omega)] at q;walk_at "";refine vp hg (v:=.int (t:Int)) rfl ?_;walk_at "";refine r_dnI M.oT ?_;rw[tl_in M];walk_at "";cases ha:st.assigns.any (fun a=>a.meter==i+1&&a.quarter==t) with
  | true=>
    rw[Jc (by rw[ha];exact fun z=>nomatch z.2)] at q;refine qa3 ?_;walk_at "";exact q
  | false=>
    refine qax ?_;walk_at "";refine ifD (fun c=>?_) (fun c=>?_)
    ·rw[Je ⟨by omega,ha⟩] at q;walk_at "";exact q
    ·rw[Jc (fun z=>by have:=z.1;omega)] at q;walk_at "";exact q
theorem q84{s:Sta}{i q h:Nat}{x:Met}(hx:s.meters[i]?=some x): Vbemai.step s (.assign (i+1) q h)=if qdd s x (i+1) q=0 then ({ s with assigns:=Vbemai.putAssign ⟨i+1,q,h⟩ s.assigns },[0]) else (s,[qdd s x (i+1) q]):=by
 unfold Vbemai.step;have c2:Vbemai.ASSIGNS=64:=rfl;simp only[Vbemai.does,QM.meter?_at hx,c2];by_cases h1:x.kind=2
 ·have e:qdd s x (i+1) q = -12:=by unfold qdd;exact Je h1
  rw[e,Je h1];rfl
 rw[Jc h1];by_cases h2:q<s.locked
 ·have e:qdd s x (i+1) q = -5:=by unfold qdd;exact(Jc h1).trans (Je h2)
  rw[e,Je h2];rfl
 rw[Jc h2];by_cases h3:64<=s.assigns.length/\s.assigns.any (fun a=>a.meter==i+1&&a.quarter==q)=false
 ·have e:qdd s x (i+1) q = -4:=by unfold qdd;exact(Jc h1).trans ((Jc h2).trans (Je h3))
  rw[e,Je h3];rfl
 have e:qdd s x (i+1) q=0:=by unfold qdd;exact(Jc h1).trans ((Jc h2).trans (Jc h3))
 rw[e,Jc h3,Je rfl]
theorem qsd(x:Vbemai.Assign): ∀ {l:List Vbemai.Assign},(l.Pairwise fun x y=>Vbemai.beforeA x y=true)->(Vbemai.putAssign x l).length=if l.any (fun a=>a.meter==x.meter&&a.quarter==x.quarter)=true then l.length else l.length+1
 |[],_=>rfl
 | y::r,hp=>by
   have hp2:=Ju.mp hp;unfold Vbemai.putAssign;by_cases h1:x.meter=y.meter/\x.quarter=y.quarter
   ·rw[Je h1,Je];rfl;rw[Y4,h1.1,h1.2];simp
   ·rw[Jc h1];have hy:(y.meter==x.meter&&y.quarter==x.quarter)=false:=by
     rw[Wb];intro z;rw[Jw,Yq,Yq] at z;exact h1 ⟨z.1.symm,z.2.symm⟩
    rw[Y4,hy,Qz];by_cases h2:Vbemai.beforeA x y=true
    ·rw[Je h2,Jc];rfl;intro z;obtain⟨a,ha,hz⟩:=Y9.mp z;rw[Jw,Yq,Yq] at hz;have h3:=QM.qco.mp (hp2.1 a ha);have h4:=QM.qco.mp h2;omega
    ·rw[Jc h2,Jz,qsd x hp2.2];split<;>rfl
theorem qv0(tl:List (Nat×Nat))(q h:Nat): putK (tlK tl) (Sum.inl (q:Int)) (.int (h:Int))=tlK (QM.qd0 tl q h):=by
 unfold putK QM.qd0;rw[qhi,qob,Wf,lookup_isSome];by_cases hq:q∈tl.map (·.1)
 ·rw[Xm hq,Je rfl,Je hq];unfold tlK;rw[Xy,Xy];refine X8 fun e _=>?_;show (if (Sum.inl (e.1:Int):Key)=Sum.inl (q:Int) then ((Sum.inl (e.1:Int):Key),V.int (h:Int)) else (Sum.inl (e.1:Int),V.int (e.2:Int)))=_;by_cases he:e.1=q
  ·rw[Je (by rw[he])];show _=((Sum.inl (((if e.1=q then (e.1,h) else e).1:Nat):Int):Key),V.int (((if e.1=q then (e.1,h) else e).2:Nat):Int))
   rw[Je he]
  ·rw[Jc (fun z=>he (by have:=Wx z;omega))];show _=((Sum.inl (((if e.1=q then (e.1,h) else e).1:Nat):Int):Key),V.int (((if e.1=q then (e.1,h) else e).2:Nat):Int))
   rw[Jc he]
 ·rw[J7 hq,Jc Jr,Jc hq];unfold tlK;rw[Jv];rfl
theorem q1f(T:Txt P w K mg A): Fn P w K mg base 2 "assign_hand" ["book","given"] (qbl A gq6):=by
 refine T.qy3.go qnp (fun _ _ _ _ h=>?_) (fun _ _ _ _ _ H _ Q _ hr h=>?_)
 ·obtain⟨st,b,g,c,rfl,_⟩:=h;rfl
 ·obtain⟨st,b,g,c,rfl,B,hga,⟨i,t,h,x,rfl,hg,hok,hx⟩,q⟩:=h;obtain⟨m,hm⟩:=B.qex hx;have M:=B.met hx hm;have hu:=qan hr;have hgs:=QM.qes B.good hok;rw[q84 hx] at q hgs;refine⟨_,(ko (vt 2 qnp.nd (k8 (qeq T) hr (k6 kj kr))) (ko (vt 3 qnp.nd (k8 (q1g T) hr (qac kj (k6 ku kr)))) (ko (qab (yb qdv ya (vf T.qam)) (qah (vd ya))) (ko (qgy (qg1 (qm5 hu (vq hu kr vo) (k9 K ku))) (qbg (qaq kj (qaf qca (k9 K kj) vh) rfl)) qg0) (ko (qnc hu (k9 K ku) (vq hu kr vo) (vq hu kr vo) rfl) (vm (qah (vd (vf T.qam))))))))),?_⟩;walk_at "in";refine⟨st,b,g,i,x,m,rfl,B,⟨_,hg,rfl⟩,hx,hm,?_⟩;walk_at "";refine⟨st,b,g,i,t,h,x,m,rfl,B,hx,hm,hg,?_⟩;walk_at "";refine ifN (fun c=>?_) (fun c=>?_)
  ·rw[Jc c] at q;walk_at "";intro l hl;exact q _ b l (Qae.of_same B (Kh.new hl)) hl kq
  rw[Je c] at q hgs;have hba:=qmx B M;have hbT:b.a≠m.aT:=qay B.o M.oT (by intro z;cases z);have hmT:m.a≠m.aT:=qay M.o M.oT (by intro z;cases z);have hbg:g≠b.a:=qay hg B.o (by intro z;cases z);have hsx:st.meters=st.meters.set i x:=by
   have e:=(Ji.mp hx).2;rw[<- e,Qo]
  have htl:=qvz M.good M.rel;have hlen:=qsd ⟨i+1,t,h⟩ B.good.as;have KK:Qae A H st b (upd (upd H b.a (.ins A.CB b.dx (qbm { st with assigns:=Vbemai.putAssign ⟨i+1,t,h⟩ st.assigns } b))) m.aT (.dK (tlK (QM.qd0 m.tl t h)))) { st with assigns:=Vbemai.putAssign ⟨i+1,t,h⟩ st.assigns } { b with ms:=b.ms.set i { m with tl:=QM.qd0 m.tl t h } }:=by
   refine qgn B hx hm hsx rfl rfl rfl (N:=[tC' m]) (N':=[tC' { m with tl:=QM.qd0 m.tl t h }]) (R:=xC A x m::dC m::rC m::(dis A x m++vrs m)) ?_ ?_ ?_ ?_ ?_ ?_ ?_ hgs ?_ ?_ ((Qav.of_same (Kh.refl H)).upd).upd
   ·rw[qea];classical
    refine Xc.mpr fun a=>?_;simp only[Xs,Xz,Yh];omega
   ·rw[qea];classical
    refine Xc.mpr fun a=>?_;show List.count a (xC A x m::dC m::rC m::tC' { m with tl:=QM.qd0 m.tl t h }::(dis A x m++vrs m))=_;simp only[Xs,Xz,Yh];omega
   ·rw[qc hbT,kq]
   ·intro c hc;obtain rfl:=J3.mp hc;exact kq
   ·exact Xf.mpr ⟨Xa,Yb⟩
   ·exact fun a ha=>.inl ha
   ·intro a o h1 h2 h3;have h2:a≠m.aT:=fun z=>h2 (by rw[z];exact Jh ..);rw[qc h2,qc h1];exact h3
   ·exact⟨M.rel.dl,M.rel.rd,QM.q98 M.good M.rel.tl hgs⟩
   ·rintro j y n hj ⟨r1,r2,r3⟩;refine⟨r1,r2,?_⟩;unfold QM.toldOf;show n.tl.Perm (((Vbemai.putAssign ⟨i+1,t,h⟩ st.assigns).filter fun a=>a.meter==j+1).map _);rw[QM.qv1 _ (by show i+1≠j+1;omega)];exact r3
  walk_at "";refine vp hg (v:=.int (t:Int)) rfl ?_;walk_at "";refine r_dnI M.oT ?_;rw[tl_in M];walk_at "";cases ha:st.assigns.any (fun a=>a.meter==i+1&&a.quarter==t) with
  | true=>
    rw[Je ha] at hlen;have hbk:upd H b.a (.ins A.CB b.dx (qbm { st with assigns:=Vbemai.putAssign ⟨i+1,t,h⟩ st.assigns } b))=H:=by
     funext a;by_cases e:a=b.a
     ·subst e;rw[kq,B.o];unfold qbm;show some (HO.ins A.CB b.dx [_,_,_,("told_count",V.int ((Vbemai.putAssign ⟨i+1,t,h⟩ st.assigns).length:Int)),_,_])=_;rw[hlen]
     ·rw[qc e]
    rw[hbk] at KK;refine qa3 ?_;walk_at "";refine vp hg (v:=.int (h:Int)) rfl ?_;walk_at "";refine vp hg (v:=.int (t:Int)) rfl ?_;walk_at "";refine qj0 M.oT (qa8 (by unfold tlK;rw[Jd];omega)) ?_;rw[qv0];walk_at "";intro l hl;exact q _ _ l (KK.same (Kh.new hl)) (KK.lv.free hl) kq
  | false=>
    rw[Jc (by rw[ha];exact Jr)] at hlen;have hbk:qbs "told_count" (.int ((st.assigns.length:Int)+1)) (qbm st b)=qbm { st with assigns:=Vbemai.putAssign ⟨i+1,t,h⟩ st.assigns } b:=by
     show ([_,_,_,("told_count",V.int ((st.assigns.length:Int)+1)),_,_]:List (Str×V))=([_,_,_,("told_count",V.int ((Vbemai.putAssign ⟨i+1,t,h⟩ st.assigns).length:Int)),_,_]:List (Str×V));rw[hlen];rfl
    refine qax ?_;walk_at "";rw[hbk];have o1:upd H b.a (.ins A.CB b.dx (qbm { st with assigns:=Vbemai.putAssign ⟨i+1,t,h⟩ st.assigns } b)) m.a=some (.ins A.CM m.dx (qdt x m)):=by rw[qc hba.symm];exact M.o
    have oT:upd H b.a (.ins A.CB b.dx (qbm { st with assigns:=Vbemai.putAssign ⟨i+1,t,h⟩ st.assigns } b)) m.aT=some (.dK (tlK m.tl)):=by rw[qc hbT.symm];exact M.oT
    have hg1:GV (upd H b.a (.ins A.CB b.dx (qbm { st with assigns:=Vbemai.putAssign ⟨i+1,t,h⟩ st.assigns } b))) g 6 [((i+1:Nat):Int),t,h]:=(qc hbg).trans hg;walk_at "";refine vp hg1 (v:=.int (h:Int)) rfl ?_;walk_at "";refine vp hg1 (v:=.int (t:Int)) rfl ?_;walk_at "";refine qj0 oT (qa8 (by unfold tlK;rw[Jd];omega)) ?_;rw[qv0];walk_at "";intro l hl;exact q _ _ l (KK.same (Kh.new hl)) (KK.lv.free hl) kq
def qde(s:Sta)(k:Nat)(x:Met)(t:Nat)(e:Int): Int:=(Vbemai.noEnd s k x t e).getD 0
def GE(H:Hp)(g:Addr)(t:Nat)(e:Int): Prop:=∃ kvs,H g=some (.dK kvs)/\vj kvs (Sum.inr (Str.ofString "boundary"))=some (.int (t:Int))/\vj kvs (Sum.inr (Str.ofString "end"))=some (.int e)
def q77(A:Ads): Sp:=fun vs H Q _=>∃ (s:Sta) (b:Qad) (g:Addr) (i t:Nat) (e:Int) (x:Met) (m:Qaa),vs=[.ref b.a,.ref m.a,.ref g]/\BAt A H s b/\s.meters[i]?=some x/\b.ms[i]?=some m/\GE H g t e/\∀ H',Kh H H'->Q (.int (qde s (i+1) x t e)) H'
def q76(A:Ads): Sp:=fun vs H Q _=>∃ (s:Sta) (k:Nat) (g:Addr) (t:Nat) (e:Int) (x:Met) (m:Qaa),vs=[.ref m.a,.ref g]/\MAt A H s k x m/\GE H g t e/\∀ d y,m.ds.getLast?=some d->x.devices.getLast?=some y->Q .non (upd H d.a (.ins A.CD d.dx (qbe { y with finish:=some (t,e) })))
def qdn(s:Sta)(k:Nat)(x:Met)(t:Nat)(e v:Int)(d:Nat): Int:=if qde s k x t e=0 then (if Vbemai.shows d v=false then -7 else if 8<=x.devices.length then -4 else 0) else qde s k x t e
def q8t(A:Ads): Sp:=fun vs H Q _=>∃ (s:Sta) (b:Qad) (g:Addr) (i t:Nat) (e v:Int) (d:Nat) (f:Int) (x:Met) (m:Qaa),vs=[.ref b.a,.ref m.a,.ref g]/\BAt A H s b/\s.meters[i]?=some x/\b.ms[i]?=some m/\GV H g 3 [((i+1:Nat):Int),t,e,v,d,f]/\d<=9/\∀ H',Kh H H'->Q (.int (qdn s (i+1) x t e v d)) H'
theorem q4z{s:Sta}{k:Nat}{x:Met}{y:Dev}(h:x.devices.getLast?=some y)(t:Nat)(e:Int): Vbemai.noEnd s k x t e=if t<=s.locked then some (-5) else if y.finish.isSome=true\/t<=y.start then some (-6) else if (Vbemai.readingsOf s k).any (fun r=>decide (t<=r.at_))=true then some (-9) else if Vbemai.shows y.digits e=false then some (-7) else none:=by
 unfold Vbemai.noEnd;rw[qgm h];unfold Vbemai.lastDevice;rw[h];simp only[Option.any_some,J9,Bool.not_eq_true']
theorem qpy(T:Txt P w K mg A):
  Fn P w K mg base 3 "end_refusal" ["book","meter","given"] (q77 A):=by
 refine T.qza.go quy (fun _ _ _ _ h=>?_) (fun _ _ _ _ _ H _ Q _ hr h=>?_)
 ·obtain⟨st,b,g,i,t,e,x,m,rfl,_⟩:=h;rfl
 ·obtain⟨st,b,g,i,t,e,x,m,rfl,B,hx,hm,⟨kvs,hg,hg1,hg2⟩,q⟩:=h;have hu:=qan hr;have M:=B.met hx hm;obtain⟨d0,y0,h01,h02,h03⟩:=M.last;unfold qde at q;rw[q4z h02] at q;refine⟨_,(ko (vt 3 quy.nd (vq hu ku vo)) (ko (qab (yb qdu ya (k9 K kj)) (vf T.qhr)) (ko (qab (PW.pt (qne (qef (k8 (qhv T) hr (vd kr))) (qnf (yb qdu ya (k9 K (k8 (qgi T) hr (vd kr))))))) (vf T.qo4)) (ko (qab (qef (k8 (q1l T) hr (k6 kr ya))) (vf T.qxp)) (ko (qab (yb qeb (vq hu ku vo) (k9 K (k8 (qgi T) hr (vd kr)))) (vf T.qi5)) (vm (vf T.qam))))))),?_⟩;walk_at "in";refine vp hg hg1 ?_;walk_at "";refine ifD (fun c=>?_) (fun c=>?_)
  ·rw[Je (by omega)] at q;walk_at "";exact q H (Kh.refl H)
  rw[Jc (by omega)] at q;have rest:¬ (y0.finish.isSome=true\/t<=y0.start)->qcn (qe3 (qd1 (tFn (qu7 A) (qai (yc 1) (qai (yc 3) qa4)))) (qcg (tC (.int (-9)))) qe4) (qcn (qe3 (qd1 (tOp (rI0 fun i j=>.bl (decide (j<=i))) (qej (yc 2) (tC (.str "end"))) (qfn K (tFn (qu9 A) (qai (yc 1) qa4)) "size"))) (qcg (tC (.int (-7)))) qe4) (qcg (tC (.int 0)))) { nx:=fun _ H'=>Q .non H',rt:=Q } [some (.ref b.a),some (.ref m.a),some (.ref g),some (.int (t:Int))] H:=fun hc=>by
   rw[Jc hc] at q;walk_at "";refine⟨st,i+1,x,m,t,rfl,M,fun H1 s1=>?_⟩;walk_at "";refine ifB (fun c=>?_) (fun c=>?_)
   ·rw[Je c] at q;walk_at "";exact q H1 s1
   rw[Jc (by rw[c];exact Jr)] at q;walk_at "";refine vp (s1 _ _ hg) hg2 ?_;walk_at "";refine⟨st,i+1,x,m,rfl,M.same s1,fun d y h1 h2 h3=>?_⟩;rw[h02] at h2;cases h2;walk_at "";refine ifD (fun c=>?_) (fun c=>?_)
   ·rw[Je (by unfold Vbemai.shows;exact J7 (by omega))] at q;walk_at "";exact q H1 s1
   rw[Jc (by unfold Vbemai.shows;rw[Xm (by omega)];exact fun z=>nomatch z)] at q;walk_at "";exact q H1 s1
  walk_at "";refine⟨st,i+1,x,m,rfl,M,?_⟩;rw[qgm h02];walk_at "";refine ifB (fun c=>?_) (fun c=>?_)
  ·rw[Je (.inl c)] at q;refine qax ?_;walk_at "";exact q H (Kh.refl H)
  walk_at "";refine⟨st,i+1,x,m,rfl,M,fun d y h1 h2 h3=>?_⟩;rw[h02] at h2;cases h2;walk_at "";refine ifD (fun c2=>?_) (fun c2=>?_)
  ·rw[Je (.inr (by omega))] at q;walk_at "";exact q H (Kh.refl H)
  ·exact rest (by rw[c];exact fun z=>z.elim (fun z=>nomatch z) (fun z=>by omega))
theorem qpx(T:Txt P w K mg A): Fn P w K mg base 2 "end_last_dial" ["meter","given"] (q76 A):=by
 refine T.qy9.go qux (fun _ _ _ _ h=>?_) (fun _ _ _ _ _ H _ Q _ hr h=>?_)
 ·obtain⟨st,k,g,t,e,x,m,rfl,_⟩:=h;rfl
 ·obtain⟨st,k,g,t,e,x,m,rfl,M,⟨kvs,hg,hg1,hg2⟩,q⟩:=h;have hu:=qan hr;refine⟨_,(ko (vt 2 qux.nd (k8 (qgi T) hr (vd kj))) (ko (qaq ku (vq hu kr vo) rfl) (qbg (qaq ku (vq hu kr vo) rfl)))),?_⟩;walk_at "in";refine⟨st,k,x,m,rfl,M,fun d y h1 h2 h3=>?_⟩;have hgd:g≠d.a:=qay hg h3 (by intro z;cases z);walk_at "";refine vp hg hg1 ?_;walk_at "";refine vp ((qc hgd).trans hg) hg2 ?_;walk_at "";rw[qbt];exact q d y h1 h2
theorem q15(T:Txt P w K mg A):
  Fn P w K mg base 4 "swap_refusal" ["book","meter","given"] (q8t A):=by
 refine T.q0e.go qu4 (fun _ _ _ _ h=>?_) (fun _ _ _ _ _ H _ Q _ hr h=>?_)
 ·obtain⟨st,b,g,i,t,e,v,d,ff,x,m,rfl,_⟩:=h;rfl
 ·obtain⟨st,b,g,i,t,e,v,d,ff,x,m,rfl,B,hx,hm,hg,hd,q⟩:=h;have hu:=qan hr;have M:=B.met hx hm;have hdl:=dl8 M;unfold qdn at q;refine⟨_,(ko (vt 3 qu4.nd (k8 (qpy T) hr (qac kj (k6 kr ku)))) (ko (qab (yb qdv ya (vf T.qam)) ya) (ko (qab (yb qeb (vq hu ku vo) (k8 (ql7 T) hr (vd (vq hu ku vo)))) (vf T.qi5)) (ko (qab (yb qbf (x_len T.qbd (k9 K kr)) (vf T.qxe)) (vf T.qge)) (vm (vf T.qam)))))),?_⟩;walk_at "in";refine⟨st,b,g,i,t,e,x,m,rfl,B,hx,hm,⟨_,hg,rfl,rfl⟩,fun H1 s1=>?_⟩;walk_at "";refine ifN (fun c=>?_) (fun c=>?_)
  ·rw[Jc c] at q;walk_at "";exact q H1 s1
  rw[Je c] at q;have hg1:=hg.same s1;have M1:=M.same s1;walk_at "";refine vp hg1 (v:=.int v) rfl ?_;walk_at "";refine vp hg1 (v:=.int (d:Int)) rfl ?_;walk_at "";refine⟨d,rfl,by omega,?_⟩;walk_at "";refine ifD (fun c=>?_) (fun c=>?_)
  ·rw[Je (by unfold Vbemai.shows;exact J7 (by omega))] at q;walk_at "";exact q H1 s1
  rw[Jc (by unfold Vbemai.shows;rw[Xm (by omega)];exact fun z=>nomatch z)] at q;walk_at "";refine qbb (qbz (SqL.of M1.oD)) ?_;rw[Jd,M.rel.dl];walk_at "";refine ifD (fun c=>?_) (fun c=>?_)
  ·rw[Je (by omega)] at q;walk_at "";exact q H1 s1
  rw[Jc (by omega)] at q;walk_at "";exact q H1 s1
theorem qrq{s:Sta}{k:Nat}{x:Met}{t:Nat}{e z:Int}(h:Vbemai.noEnd s k x t e=some z): qde s k x t e=z/\z≠0:=by
 refine⟨by unfold qde;rw[h];rfl,?_⟩;unfold Vbemai.noEnd at h;split at h
 ·cases h;decide
 ·split at h
  ·cases h;decide
  ·split at h
   ·cases h;decide
   ·split at h
    ·cases h;decide
    ·cases h
theorem q9k{s:Sta}{i t:Nat}{e:Int}{x:Met}(hx:s.meters[i]?=some x): Vbemai.step s (.remove (i+1) t e)=if qde s (i+1) x t e=0 then ({ s with meters:=s.meters.set i { x with devices:=Vbemai.ended t e x.devices } },[0]) else (s,[qde s (i+1) x t e]):=by
 unfold Vbemai.step;simp only[Vbemai.does,QM.meter?_at hx];cases hn:Vbemai.noEnd s (i+1) x t e with
 | some z=>
   obtain⟨h1,h2⟩:=qrq hn;rw[h1,Jc h2]
 | none=>
   have:qde s (i+1) x t e=0:=by unfold qde;rw[hn];rfl
   rw[Je this];show (Vbemai.changed s (i+1) _,[0])=_;unfold Vbemai.changed;rw[Za,qkg _ hx]
theorem q9o{s:Sta}{i t:Nat}{e v:Int}{d:Nat}{f:Int}{x:Met}(hx:s.meters[i]?=some x): Vbemai.step s (.swap (i+1) t e v d f)=if qdn s (i+1) x t e v d=0 then ({ s with meters:=s.meters.set i { x with devices:=Vbemai.ended t e x.devices++[{ start:=t,value:=v,digits:=d,factor:=f }] } },[0]) else (s,[qdn s (i+1) x t e v d]):=by
 unfold Vbemai.step;have c2:Vbemai.DEVICES=8:=rfl;simp only[Vbemai.does,QM.meter?_at hx,c2];cases hn:Vbemai.noEnd s (i+1) x t e with
 | some z=>
   obtain⟨h1,h2⟩:=qrq hn;have h3:qdn s (i+1) x t e v d=z:=by unfold qdn;rw[h1,Jc h2]
   rw[h3,Jc h2]
 | none=>
   have h0:qde s (i+1) x t e=0:=by unfold qde;rw[hn];rfl
   dsimp only;by_cases h1:Vbemai.shows d v=false
   ·have h3:qdn s (i+1) x t e v d = -7:=by unfold qdn;rw[Je h0,Je h1]
    rw[h3,Je h1];rfl
   rw[Jc h1];by_cases h2:8<=x.devices.length
   ·have h3:qdn s (i+1) x t e v d = -4:=by unfold qdn;rw[Je h0,Jc h1,Je h2]
    rw[h3,Je h2];rfl
   have h3:qdn s (i+1) x t e v d=0:=by unfold qdn;rw[Je h0,Jc h1,Jc h2]
   rw[h3,Jc h2,Je rfl];show (Vbemai.changed s (i+1) _,[0])=_;unfold Vbemai.changed;rw[Za,qkg _ hx]
theorem qq9{H:Hp}{s:Sta}{k:Nat}{x:Met}{m:Qaa}(M:MAt A H s k x m): ∃ dp d pp y,m.ds=dp++[d]/\x.devices=pp++[y]/\dp.length=pp.length/\m.ds.getLast?=some d/\x.devices.getLast?=some y/\H d.a=some (.ins A.CD d.dx (qbe y)):=by
 obtain⟨d,y,h1,h2,h3⟩:=M.last;obtain⟨dp,e1⟩:=QM.qiq h1;obtain⟨pp,e2⟩:=QM.qiq h2;refine⟨dp,d,pp,y,e1,e2,?_,h1,h2,h3⟩;have:=M.rel.dl;rw[e1,e2,Jx,Jx] at this;simpa using this
theorem q1z(T:Txt P w K mg A):
  Fn P w K mg base 4 "remove_meter" ["book","given"] (qbl A gq4):=by
 refine T.qz3.go qnu (fun _ _ _ _ h=>?_) (fun _ _ _ _ _ H _ Q _ hr h=>?_)
 ·obtain⟨st,b,g,c,rfl,_⟩:=h;rfl
 ·obtain⟨st,b,g,c,rfl,B,hga,⟨i,t,e,x,rfl,hg,hok,hx⟩,q⟩:=h;obtain⟨m,hm⟩:=B.qex hx;have M:=B.met hx hm;have hgs:=QM.qes B.good hok;rw[q9k hx] at q hgs;refine⟨_,(ko (vt 2 qnu.nd (k8 (qeq T) hr (k6 kj kr))) (ko (vt 3 qnu.nd (k8 (qpy T) hr (qac kj (k6 ku kr)))) (ko (qab (yb qdv ya (vf T.qam)) (qah (vd ya))) (ko (qb5 (k8 (qpx T) hr (k6 ku kr))) (vm (qah (vd (vf T.qam)))))))),?_⟩;walk_at "in";refine⟨st,b,g,i,x,m,rfl,B,⟨_,hg,rfl⟩,hx,hm,?_⟩;walk_at "";refine⟨st,b,g,i,t,e,x,m,rfl,B,hx,hm,⟨_,hg,rfl,rfl⟩,fun H1 s1=>?_⟩;walk_at "";refine ifN (fun c=>?_) (fun c=>?_)
  ·rw[Jc c] at q;walk_at "";intro l hl;exact q _ b l (Qae.of_same B (s1.trans (Kh.new hl))) (s1.free hl) kq
  rw[Je c] at q hgs;obtain⟨dp,d,pp,y,ed,ex,hlen,hd1,hy1,hdo⟩:=qq9 M;walk_at "";refine⟨st,i+1,g,t,e,x,m,rfl,M.same s1,⟨_,hg.same s1,rfl,rfl⟩,fun d' y' h1 h2=>?_⟩;rw[hd1] at h1;rw[hy1] at h2;cases h1;cases h2;have hbd:b.a≠d.a:=qay B.o hdo (by
   intro z;injection z with _ _ z;have h2:=(Ww (Ze z).1).1;revert h2;decide)
  walk_at "";intro l hl;rw[ex,QM.qe9] at q hgs;have K1:Qae A H st b (upd H1 d.a (.ins A.CD d.dx (qbe { y with finish:=some (t,e) }))) { st with meters:=st.meters.set i { x with devices:=pp++[{ y with finish:=some (t,e) }] } } { b with ms:=b.ms.set i m }:=by
   have e5:dis A x m=List.zipWith (qbn A) dp pp++[qbn A d y]:=by unfold dis;rw[ed,ex,Yi hlen];rfl
   have e6:dis A { x with devices:=pp++[{ y with finish:=some (t,e) }] } m=List.zipWith (qbn A) dp pp++[qbn A d { y with finish:=some (t,e) }]:=by
    unfold dis;rw[ed];show List.zipWith (qbn A) (dp++[d]) (pp++[_])=_;rw[Yi hlen];rfl
   refine qgn B hx hm rfl rfl rfl rfl (N:=[qbn A d y]) (N':=[qbn A d { y with finish:=some (t,e) }]) (R:=xC A x m::dC m::rC m::tC' m::(List.zipWith (qbn A) dp pp++vrs m)) ?_ ?_ ?_ ?_ ?_ ?_ ?_ hgs ?_ ?_ (Qav.of_same s1).upd
   ·rw[qea,e5];classical
    refine Xc.mpr fun a=>?_;simp only[Xs,Xz,Yh];omega
   ·rw[qea,e6];classical
    refine Xc.mpr fun a=>?_;show List.count a (xC A x m::dC m::rC m::tC' m::_)=_;simp only[Xs,Xz,Yh];omega
   ·rw[qc hbd];exact s1 _ _ B.o
   ·intro c hc;obtain rfl:=J3.mp hc;exact kq
   ·exact Xf.mpr ⟨Xa,Yb⟩
   ·exact fun a ha=>.inl ha
   ·intro a o h1 h2 h3;have h2:a≠d.a:=fun z=>h2 (by rw[z];exact Jh ..);rw[qc h2];exact s1 _ _ h3
   ·refine⟨?_,M.rel.rd,M.rel.tl⟩;show m.ds.length=(pp++[_]).length;rw[ed,Jx,Jx,hlen];rfl
   ·rintro j y' n _ ⟨r1,r2,r3⟩;exact⟨r1,r2,r3⟩
  exact q _ _ l (K1.same (Kh.new hl)) (K1.lv.free hl) kq
theorem q14(T:Txt P w K mg A):
  Fn P w K mg base 5 "swap_dial" ["book","given"] (qbl A gq3):=by
 refine T.q0d.go qnx (fun _ _ _ _ h=>?_) (fun _ _ _ _ _ H _ Q _ hr h=>?_)
 ·obtain⟨st,b,g,c,rfl,_⟩:=h;rfl
 ·obtain⟨st,b,g,c,rfl,B,hga,⟨i,t,e,v,dg,ff,x,rfl,hg,hok,hx⟩,q⟩:=h;obtain⟨m,hm⟩:=B.qex hx;have M:=B.met hx hm;have hgs:=QM.qes B.good hok;have hdg:dg<=9:=hok.2.2.2.2.1;rw[q9o hx] at q hgs;have hdl:=dl8 M;refine⟨_,(ko (vt 2 qnx.nd (k8 (qeq T) hr (k6 kj kr))) (ko (vt 3 qnx.nd (k8 (q15 T) hr (qac kj (k6 ku kr)))) (ko (qab (yb qdv ya (vf T.qam)) (qah (vd ya))) (ko (qb5 (k8 (qpx T) hr (k6 ku kr))) (ko (qb5 (qce Xe Xv Xw qdk (k9 K ku) (vd (k8 (qp3 T) hr (vd kr))))) (vm (qah (vd (vf T.qam))))))))),?_⟩;walk_at "in";refine⟨st,b,g,i,x,m,rfl,B,⟨_,hg,rfl⟩,hx,hm,?_⟩;walk_at "";refine⟨st,b,g,i,t,e,v,dg,ff,x,m,rfl,B,hx,hm,hg,hdg,fun H1 s1=>?_⟩;walk_at "";refine ifN (fun c=>?_) (fun c=>?_)
  ·rw[Jc c] at q;walk_at "";intro l hl;exact q _ b l (Qae.of_same B (s1.trans (Kh.new hl))) (s1.free hl) kq
  rw[Je c] at q hgs;obtain⟨dp,d,pp,y,ed,ex,hlen,hd1,hy1,hdo⟩:=qq9 M;walk_at "";refine⟨st,i+1,g,t,e,x,m,rfl,M.same s1,⟨_,hg.same s1,rfl,rfl⟩,fun d' y' h1 h2=>?_⟩;rw[hd1] at h1;rw[hy1] at h2;cases h1;cases h2;have hbd:b.a≠d.a:=qay B.o hdo (by
   intro z;injection z with _ _ z;have h2:=(Ww (Ze z).1).1;revert h2;decide)
  have hmd:m.a≠d.a:=qay M.o hdo (by
   intro z;injection z with _ _ z;have h2:=(Ww (Ze z).1).1;revert h2;decide)
  have hDd:m.aD≠d.a:=qay M.oD hdo (by intro z;cases z);have hbD:b.a≠m.aD:=qay B.o M.oD (by intro z;cases z);have hgd:g≠d.a:=qay hg hdo (by intro z;cases z);have hmD:m.a≠m.aD:=qay M.o M.oD (by intro z;cases z);have o2:upd H1 d.a (.ins A.CD d.dx (qbe { y with finish:=some (t,e) })) m.a=some (.ins A.CM m.dx (qdt x m)):=by rw[qc hmd];exact s1 _ _ M.o
  have oD2:upd H1 d.a (.ins A.CD d.dx (qbe { y with finish:=some (t,e) })) m.aD=some (.lst (m.ds.map fun d=>.ref d.a)):=by rw[qc hDd];exact s1 _ _ M.oD
  have hg2:GV (upd H1 d.a (.ins A.CD d.dx (qbe { y with finish:=some (t,e) }))) g 3 [((i+1:Nat):Int),t,e,v,dg,ff]:=(qc hgd).trans (hg.same s1);have hd2:upd H1 d.a (.ins A.CD d.dx (qbe { y with finish:=some (t,e) })) d.a=some (.ins A.CD d.dx (qbe { y with finish:=some (t,e) })):=kq;have lv2:Qav H (upd H1 d.a (.ins A.CD d.dx (qbe { y with finish:=some (t,e) }))):=(Qav.of_same s1).upd;have fr2:∀ a o,a≠d.a->H a=some o->upd H1 d.a (.ins A.CD d.dx (qbe { y with finish:=some (t,e) })) a=some o:=fun a o h1 h2=>by rw[qc h1];exact s1 _ _ h2
  generalize upd H1 d.a (.ins A.CD d.dx (qbe { y with finish:=some (t,e) }))=H2 at *
  walk_at "";generalize hyd:({ start:=t,value:=v,digits:=dg,factor:=ff }:Dev)=yd at *
  refine⟨g,_,yd,rfl,hg2,by rw[<- hyd],by rw[<- hyd];exact hdg,by rw[<- hyd];rfl,by rw[<- hyd];rfl,by rw[<- hyd];rfl,by rw[<- hyd];rfl,fun H3 na ndx s3 hna hn3=>?_⟩;walk_at "";refine qc5 (s3 _ _ oD2) (qa8 (by rw[Jd,M.rel.dl];omega)) ?_;have hna0:=lv2.free hna;have hnD:na≠m.aD:=(vz oD2 hna).symm;have hnd:na≠d.a:=(vz hd2 hna).symm;walk_at "";intro l hl;rw[ex,QM.qe9,Yv] at q hgs;have K1:Qae A H st b (upd H3 m.aD (.lst ((m.ds.map fun d=>.ref d.a)++[.ref na]))) { st with meters:=st.meters.set i { x with devices:=pp++([{ y with finish:=some (t,e) }]++[yd]) } } { b with ms:=b.ms.set i { m with ds:=m.ds++[⟨na,ndx⟩] } }:=by
   have e5:dis A x m=List.zipWith (qbn A) dp pp++[qbn A d y]:=by unfold dis;rw[ed,ex,Yi hlen];rfl
   have e6:dis A { x with devices:=pp++([{ y with finish:=some (t,e) }]++[yd]) } { m with ds:=m.ds++[⟨na,ndx⟩] }=List.zipWith (qbn A) dp pp++[qbn A d { y with finish:=some (t,e) },qbn A ⟨na,ndx⟩ yd]:=by
    unfold dis;show List.zipWith (qbn A) (m.ds++[_]) (pp++_)=_;rw[ed,Yv,Yi hlen];rfl
   refine qgn B hx hm rfl rfl rfl rfl (N:=[dC m,qbn A d y]) (N':=[dC { m with ds:=m.ds++[⟨na,ndx⟩] },qbn A d { y with finish:=some (t,e) },qbn A ⟨na,ndx⟩ yd]) (R:=xC A x m::rC m::tC' m::(List.zipWith (qbn A) dp pp++vrs m)) ?_ ?_ ?_ ?_ ?_ ?_ ?_ hgs ?_ ?_ ((lv2.trans (Qav.of_same s3)).upd)
   ·rw[qea,e5];classical
    refine Xc.mpr fun a=>?_;simp only[Xs,Xz,Yh];omega
   ·rw[qea,e6];classical
    refine Xc.mpr fun a=>?_;show List.count a (xC A x m::dC { m with ds:=m.ds++[⟨na,ndx⟩] }::rC m::tC' m::(_++vrs m))=_;simp only[Xs,Xz,Yh];omega
   ·rw[qc hbD];exact s3 _ _ (fr2 _ _ hbd B.o)
   ·intro c hc;simp only[Jf,Xa,Y0] at hc;rcases hc with rfl|rfl|rfl
    ·show upd H3 m.aD _ m.aD=_;rw[kq];unfold dC;simp
    ·show upd H3 m.aD _ d.a=_;rw[qc hDd.symm];exact s3 _ _ hd2
    ·show upd H3 m.aD _ na=_;rw[qc hnD];exact hn3
   ·show [m.aD,d.a,na].Nodup;simp only[Xf,Jf,Xa,Y0,not_or,Yb,Qx,Zj];exact⟨⟨hDd,hnD.symm⟩,hnd.symm⟩
   ·intro a ha;have ha:a∈[m.aD,d.a,na]:=ha;simp only[Jf,Xa,Y0] at ha;rcases ha with rfl|rfl|rfl
    ·exact .inl (Jh ..)
    ·exact .inl (Jm _ (Jh ..))
    ·exact .inr hna0
   ·intro a o h1 h2 h3;have h4:a≠m.aD:=fun z=>h2 (by rw[z];exact Jh ..);have h5:a≠d.a:=fun z=>h2 (by rw[z];exact Jm _ (Jh ..));rw[qc h4];exact s3 _ _ (fr2 _ _ h5 h3)
   ·refine⟨?_,M.rel.rd,M.rel.tl⟩;show (m.ds++[_]).length=(pp++([_]++[_])).length;rw[ed];simp[hlen]
   ·rintro j y' n _ ⟨r1,r2,r3⟩;exact⟨r1,r2,r3⟩
  exact q _ _ l (K1.same (Kh.new hl)) (K1.lv.free hl) kq
def pk(a b:Nat): List Key:=[Sum.inl (a:Int),Sum.inl (b:Int)]
theorem pk_ne{p:Vbemai.Period}{a b:Nat}(h:¬ (p.from_=a/\p.to_=b)): ¬ (pk p.from_ p.to_=pk a b):=fun q=>by
 have q1:(p.from_:Int)=a:=Wx (Ze q).1;have q2:(p.to_:Int)=b:=Wx (Ze (Ze q).2).1;exact h ⟨by omega,by omega⟩
theorem q5k(p:Vbemai.Period)(ps:List Vbemai.Period)(ad:Addr)(qs:List Addr): qaz (p::ps) (ad::qs)=(pk p.from_ p.to_,V.ref ad)::qaz ps qs:=rfl
theorem q50{k0 k:List Key}{v0 v:V}{r:List (List Key×V)}(h:¬ k0=k): putK ((k0,v0)::r) k v=(k0,v0)::putK r k v:=by
 unfold putK;rw[Y4];have:decide (k0=k)=false:=J7 h;rw[this,Qz];by_cases hc:(r.any fun kv=>decide (kv.1=k))=true
 ·rw[Je hc,Je hc,Jq,Jc h]
 ·rw[Jc hc,Jc hc];rfl
theorem qm9{a b:Nat}{n:List Int}{nl:Addr}: ∀ {ps:List Vbemai.Period} {qs:List Addr},qs.length=ps.length->(ps.Pairwise fun x y=>¬ (x.from_=y.from_/\x.to_=y.to_)) ->
  ((ps.find? fun p=>p.from_==a&&p.to_==b)=none/\vj (qaz ps qs) (pk a b)=none/\Vbemai.putPeriod ⟨a,b,n⟩ ps=ps++[⟨a,b,n⟩]/\putK (qaz ps qs) (pk a b) (.ref nl)=qaz (ps++[⟨a,b,n⟩]) (qs++[nl])) \/
  ∃ p1 p p2 q1 ad q2,ps=p1++p::p2/\qs=q1++ad::q2/\p1.length=q1.length/\(ps.find? fun p=>p.from_==a&&p.to_==b)=some p/\vj (qaz ps qs) (pk a b)=some (.ref ad)/\Vbemai.putPeriod ⟨a,b,n⟩ ps=p1++⟨a,b,n⟩::p2/\putK (qaz ps qs) (pk a b) (.ref nl)=qaz (p1++⟨a,b,n⟩::p2) (q1++nl::q2)
 |[],[],_,_=>.inl ⟨rfl,rfl,rfl,rfl⟩
 |[],_::_,h,_=>by cases h
 |_::_,[],h,_=>by cases h
 | p::ps,ad::qs,h,hp=>by
   have hp2:=Ju.mp hp;rw[q5k];by_cases hc:p.from_=a/\p.to_=b
   ·right
    have e1:pk p.from_ p.to_=pk a b:=by rw[hc.1,hc.2]
    refine⟨[],p,ps,[],ad,qs,rfl,rfl,rfl,?_,qf9 e1,?_,?_⟩
    ·rw[Yg,hc.1,hc.2];simp
    ·show (if a=p.from_/\b=p.to_ then _ else _)=_;rw[Je ⟨hc.1.symm,hc.2.symm⟩];rfl
    ·unfold putK;rw[Y4,Xm e1,Bool.true_or,Je rfl,Jq,Je e1];show (pk p.from_ p.to_,V.ref nl)::_=(pk a b,V.ref nl)::qaz ps qs;rw[e1];congr 1;refine(X8 fun kv hkv=>?_).trans (Qy _);show (if kv.1=pk a b then _ else kv)=kv;rw[Jc];intro z;unfold qaz at hkv;rw[List.mem_iff_getElem?] at hkv;obtain⟨j,hj⟩:=hkv;rw[List.getElem?_zipWith] at hj;cases hj1:ps[j]? with
     |none=>rw[hj1] at hj;cases hj
     | some p'=>
       cases hj2:qs[j]? with
       |none=>rw[hj1,hj2] at hj;cases hj
       | some a'=>
         rw[hj1,hj2] at hj;have hj:=(Jj hj).symm;have h3:=hp2.1 p' (J0 hj1);rw[hj] at z;exact pk_ne (p:=p') (a:=a) (b:=b) (by rw[<- hc.1,<- hc.2];exact fun q=>h3 ⟨q.1.symm,q.2.symm⟩) z
   ·have h1:(p.from_==a&&p.to_==b)=false:=by
     rw[Wb];intro q;rw[Jw,Yq,Yq] at q;exact hc q
    have h2:=pk_ne hc;have h3:Vbemai.putPeriod ⟨a,b,n⟩ (p::ps)=p::Vbemai.putPeriod ⟨a,b,n⟩ ps:=by
     show (if a=p.from_/\b=p.to_ then _ else _)=_;rw[Jc (fun q=>hc ⟨q.1.symm,q.2.symm⟩)]
    rw[Yg,h1,qf8 h2,h3,q50 h2];rcases qm9 (a:=a) (b:=b) (n:=n) (nl:=nl) (ps:=ps) (qs:=qs) (by simpa using h) hp2.2 with ⟨g1,g2,g3,g4⟩|⟨p1,p',p2,q1,ad',q2,g1,g2,g3,g4,g5,g6,g7⟩
    ·exact .inl ⟨g1,g2,by rw[g3];rfl,by rw[g4];rfl⟩
    ·exact .inr ⟨p::p1,p',p2,ad::q1,ad',q2,by rw[g1];rfl,by rw[g2];rfl,by simp[g3],g4,g5,by rw[g6];rfl,by rw[g7];rfl⟩
def diffO(N:List Int): Option (List Int)->List Int
 |none=>N
 |some l=>(N.zip l).map fun x=>x.1-x.2
theorem q9g{s:Sta}{a b:Nat}(hab:a<=b): Vbemai.step s (.publish a b)=if 16<=s.periods.length/\(Vbemai.lastNets s a b).isNone=true then (s,[-4]) else ({ s with periods:=Vbemai.putPeriod ⟨a,b,Vbemai.netsOf s a b⟩ s.periods },0::Vbemai.told (diffO (Vbemai.netsOf s a b) (Vbemai.lastNets s a b))):=by
 unfold Vbemai.step;have c2:Vbemai.PERIODS=16:=rfl;simp only[Vbemai.does,c2];rw[Jc (by omega)];by_cases h:16<=s.periods.length/\(Vbemai.lastNets s a b).isNone=true
 ·rw[Je h,Je h]
 ·rw[Jc h,Jc h];cases Vbemai.lastNets s a b<;>rfl
theorem sub_zero(n:List Int)(h:n.length=33): (n.zip (List.replicate 33 (0:Int))).map (fun x=>x.1-x.2)=n:=by
 refine List.ext_getElem? fun i=>?_;rw[Jt];by_cases hi:i<33
 ·have h1:n[i]?=some n[i]:=Jo (by omega);have h2:(List.replicate 33 (0:Int))[i]?=some 0:=by rw[Ux];simp[hi]
  have:(n.zip (List.replicate 33 (0:Int)))[i]?=some (n[i],0):=by rw[Xn];exact⟨h1,h2⟩
  rw[this,h1];show some (n[i]-0)=_;rw[Int.sub_zero]
 ·rw[Yn (by omega:n.length<=i),Yn (by rw[Yr,Qn];omega)];rfl
theorem q1u(T:Txt P w K mg A):
  Fn P w K mg base 7 "publish_period" ["book","given"] (qbl A gq8):=by
 refine T.qzy.go qf4 (fun _ _ _ _ h=>?_) (fun _ _ _ _ _ H _ Q _ hr h=>?_)
 ·obtain⟨st,b,g,c,rfl,_⟩:=h;rfl
 ·obtain⟨st,b,g,c,rfl,B,hga,⟨t,u,rfl,hg,htu,hu2⟩,q⟩:=h;have hu:=qan hr;have hgs:=QM.qes (c:=.publish t u) B.good ⟨by omega,hu2⟩;rw[q9g htu] at q hgs;have hpn:=B.good.pn;refine⟨_,(ko (vt 2 qf4.nd (qgw (k6 (vq hu kr vo) (vq hu kr vo)))) (ko (qab (PW.pt (qfi (qg1 (qm5 hu ku (k9 K kj))) (qfj (yb qbf (x_len T.qbd (k9 K kj)) (vf T.qxg))))) (qah (vd (vf T.qge)))) (ko (vt 3 qf4.nd (k8 (qp2 T) hr (qac kj (k6 (vq hu kr vo) (vq hu kr vo))))) (ko (vt 4 qf4.nd (qjw hu (k9 K kj) ku (qaf qry (qah (vd vh)) (vf T.qo3)) ⟨rfl,rfl,rfl,rfl⟩)) (ko (qnc hu (k9 K kj) ku ya rfl) (vm (qaf qh6 (qah (vd (vf T.qam))) (k8 (ql5 T) hr (vd (qdx rfl qf4.nd (own:=[("net",5),("earlier",6)]) (qr5 rfl T.qi4 (k6 ya qa0)) (by walk_at "bk") (fun _ _ _ _ _=>(qfe (K':=K) (n:=2) rfl rfl (qb0 (qak 5 qf4.nd) (qb0 (qak 6 qf4.nd) qff)))) (fun _ _ _ _ _=>qez) (fun _ _ _ _ _=>(qaf qcr qb6 qcs)))))))))))),?_⟩;walk_at "in";refine vp hg (v:=.int (t:Int)) rfl ?_;walk_at "";refine vp hg (v:=.int (u:Int)) rfl ?_;walk_at "";intro tp htp;have s1:=Kh.new (o:=.tup [.int (t:Int),.int (u:Int)]) htp;have ht1:upd H tp (.tup [.int (t:Int),.int (u:Int)]) tp=some (.tup ((pk t u).map kV)):=kq;have B1:=B.same s1;have hg1:=hg.same s1;generalize upd H tp (.tup [.int (t:Int),.int (u:Int)])=H1 at *
  have hql:(qaz st.periods b.qs).length=st.periods.length:=by unfold qaz;rw[Qv,B.lq];omega
  have hcase:∃ (o:Option (List Int)),Vbemai.lastNets st t u=o/\(vj (qaz st.periods b.qs) (pk t u)).isSome=o.isSome:=by
   refine⟨_,rfl,?_⟩;unfold Vbemai.lastNets;rcases qm9 (a:=t) (b:=u) (n:=[]) (nl:=0) B.lq B.good.pk with ⟨g1,g2,_⟩|⟨p1,p,p2,q1,ad,q2,_,_,_,g4,g5,_⟩
   ·rw[g1,g2];rfl
   ·rw[g4,g5];rfl
  obtain⟨o,ho,hoi⟩:=hcase;rw[ho] at q hgs;have go:¬ (16<=st.periods.length/\o.isNone=true)->qcn (qei (tFn (qvb A) (qai (yc 0) (qai (qej (yc 1) (tC (.str "from"))) (qai (qej (yc 1) (tC (.str "to"))) qa4)))) (qcl 3)) (qcn (qei (qn8 (qfn K (yc 0) "periods") (yc 2) (tOp rRep (tLst (qai (tC (.int 0)) qa4)) (tC (.int 33)))) (qcl 4)) (qcn (qnk (qfn K (yc 0) "periods") (yc 2) (yc 3)) (qcg (tOp rCat (tLst (qai (tC (.int 0)) qa4)) (tFn (qva K) (qai (tLc (iZip K (qai (yc 3) (qai (yc 4) qa4))) (gTup K 2 (qjc (qcl 5) (qjc (qcl 6) gNil))) tYes (tOp (rI0 fun i j=>.int (i-j)) (yc 5) (yc 6)) [5,6]) qa4)))))) { nx:=fun _ H'=>Q .non H',rt:=Q } [some (.ref b.a),some (.ref g),some (.ref tp),none,none,none,none] H1:=fun hc=>by
   rw[Jc hc] at q hgs;walk_at "";refine vp hg1 (v:=.int (t:Int)) rfl ?_;walk_at "";refine vp hg1 (v:=.int (u:Int)) rfl ?_;walk_at "";refine⟨st,b,t,u,rfl,B1,htu,hu2,fun H2 nl s2 hnl hnl2=>?_⟩;have S2:=s1.trans s2;have B2:=B1.same s2;have ht2:=s2 _ _ ht1;have hnl0:=s1.free hnl;have hn33:(Vbemai.netsOf st t u).length=33:=QM.qgt st t u;have hsp:=qm9 (a:=t) (b:=u) (n:=Vbemai.netsOf st t u) (nl:=nl) B.lq B.good.pk;generalize hN:Vbemai.netsOf st t u=N at *
   walk_at "";intro z0 hz0;have s3:=Kh.new (o:=.lst [.int 0]) hz0;have hz1:upd H2 z0 (.lst [.int 0]) z0=some (.lst [.int 0]):=kq;generalize upd H2 z0 (.lst [.int 0])=H3 at *
   walk_at "";refine⟨z0,33,_,rfl,rfl,hz1,by decide,by decide,by decide,fun zl hzl=>?_⟩;have e0:(List.replicate (Int.toNat 33) [V.int 0]).flatten=vI (List.replicate 33 0):=rfl;rw[e0];have s4:=Kh.new (o:=.lst (vI (List.replicate 33 0))) hzl;have hzl4:upd H3 zl (.lst (vI (List.replicate 33 0))) zl=some (.lst (vI (List.replicate 33 0))):=kq;generalize upd H3 zl (.lst (vI (List.replicate 33 0)))=H4 at *
   have S24:Kh H2 H4:=s3.trans s4;have S4:=S2.trans S24;have B4:=B.same S4;have ht4:=S24 _ _ ht2;have hnl4:=S24 _ _ hnl2;refine r_d2Tb (k:=pk t u) B4.oQ ht4 ?_;have hbef:∃ (ba:Addr) (bl:List Int) (qs':List Addr),(vj (qaz st.periods b.qs) (pk t u)).getD (.ref zl) = .ref ba/\H4 ba=some (.lst (vI bl))/\bl.length=33/\ba≠b.aQ/\((N.zip bl).map fun x=>x.1-x.2)=diffO N o /\
     putK (qaz st.periods b.qs) (pk t u) (.ref nl)=qaz (Vbemai.putPeriod ⟨t,u,N⟩ st.periods) qs' /\
     ∀ H5,H5=upd H4 b.aQ (.dT (qaz (Vbemai.putPeriod ⟨t,u,N⟩ st.periods) qs'))->Qae A H st b H5 { st with periods:=Vbemai.putPeriod ⟨t,u,N⟩ st.periods } { b with qs:=qs' }:=by
    have hQb:b.a≠b.aQ:=qay B.o B.oQ (by intro z;cases z);have hQn:b.aQ≠nl:=vz B.oQ hnl0;unfold Vbemai.lastNets at ho;rcases hsp with ⟨g1,g2,g3,g4⟩|⟨p1,p,p2,q1,ad,q2,g1,g2,g3,g4,g5,g6,g7⟩
    ·rw[g1] at ho;refine⟨zl,List.replicate 33 0,b.qs++[nl],by rw[g2];rfl,hzl4,Qn,qay hzl4 B4.oQ (by intro z;cases z),?_,by rw[g3];exact g4,fun H5 hH5=>?_⟩
     ·rw[<- ho];exact sub_zero N hn33
     ·subst hH5;rw[g3] at hgs ⊢;refine qgo B (c0:=bC A st b) (c0':=bC A { st with periods:=st.periods++[⟨t,u,N⟩] } { b with qs:=b.qs++[nl] }) (N:=[qC st b]) (N':=[qC { st with periods:=st.periods++[⟨t,u,N⟩] } { b with qs:=b.qs++[nl] },qb4 ⟨t,u,N⟩ nl]) (R:=pC b::mC b::(qbw A st b++(qbu A st b++nets st b))) ?_ ?_ rfl ?_ ?_ ?_ ?_ ?_ hgs rfl B.lp B.lm ?_ ?_ (Qav.of_same S4).upd
      ·rw[qd5];classical
       refine List.Perm.cons _ ?_;refine Xc.mpr fun a=>?_;simp only[Xs,Xz,Yh];omega
      ·have e1:nets { st with periods:=st.periods++[⟨t,u,N⟩] } { b with qs:=b.qs++[nl] }=nets st b++[qb4 ⟨t,u,N⟩ nl]:=by
        unfold nets;show List.zipWith qb4 (st.periods++[_]) (b.qs++[_])=_;rw[Yi B.lq.symm];rfl
       rw[qd5,e1];classical
       refine List.Perm.cons _ ?_;refine Xc.mpr fun a=>?_;show List.count a (pC b::mC b::qC _ _::(qbw A st b++(qbu A st b++_)))=_;simp only[Xs,Xz,Yh];omega
      ·show upd H4 b.aQ _ b.a=_;rw[qc hQb];exact S4 _ _ B.o
      ·intro c hc;simp only[Jf,Xa,Y0] at hc;rcases hc with rfl|rfl
       ·exact kq
       ·show upd H4 b.aQ _ nl=_;rw[qc hQn.symm];exact hnl4
      ·show [b.aQ,nl].Nodup;simp only[Xf,Jf,Xa,Y0,Yb,Qx,Zj];exact hQn
      ·intro a ha;have ha:a∈[b.aQ,nl]:=ha;simp only[Jf,Xa,Y0] at ha;rcases ha with rfl|rfl
       ·exact .inl (Jh ..)
       ·exact .inr hnl0
      ·intro a o h1 h2 h3;have h2:a≠b.aQ:=fun z=>h2 (by rw[z];exact Jh ..);rw[qc h2];exact S4 _ _ h3
      ·show (b.qs++[_]).length=(st.periods++[_]).length;rw[Jx,Jx,B.lq];rfl
      ·intro j y n h1 h2;obtain⟨r1,r2,r3⟩:=B.mr j y n h1 h2;exact⟨r1,r2,r3⟩
    ·rw[g4] at ho;have hpi:st.periods[p1.length]?=some p:=by rw[g1];simp
     have hqi:b.qs[p1.length]?=some ad:=by rw[g2,g3];simp
     have had:=B4.net hpi hqi;have hadl:=(B.good.po p (J0 hpi)).1;refine⟨ad,p.nets,q1++nl::q2,by rw[g5];rfl,had,hadl,qay had B4.oQ (by intro z;cases z),?_,by rw[g6];exact g7,fun H5 hH5=>?_⟩
     ·rw[<- ho];rfl
     ·subst hH5;rw[g6] at hgs ⊢;have hne:b.aQ≠ad:=qay B4.oQ had (by intro z;cases z);have hnad:nl≠ad:=(vz (B.net hpi hqi) hnl0).symm;refine qgo B (c0:=bC A st b) (c0':=bC A { st with periods:=p1++⟨t,u,N⟩::p2 } { b with qs:=q1++nl::q2 }) (N:=[qC st b,qb4 p ad]) (N':=[qC { st with periods:=p1++⟨t,u,N⟩::p2 } { b with qs:=q1++nl::q2 },qb4 ⟨t,u,N⟩ nl]) (R:=pC b::mC b::(qbw A st b++(qbu A st b++(List.zipWith qb4 p1 q1++List.zipWith qb4 p2 q2)))) ?_ ?_ rfl ?_ ?_ ?_ ?_ ?_ hgs rfl B.lp B.lm ?_ ?_ (Qav.of_same S4).upd
      ·have e1:nets st b=List.zipWith qb4 p1 q1++qb4 p ad::List.zipWith qb4 p2 q2:=by
        unfold nets;rw[g1,g2,Yi g3];rfl
       rw[qd5,e1];classical
       refine List.Perm.cons _ ?_;refine Xc.mpr fun a=>?_;simp only[Xs,Xz,Yh];omega
      ·have e1:nets { st with periods:=p1++⟨t,u,N⟩::p2 } { b with qs:=q1++nl::q2 }=List.zipWith qb4 p1 q1++qb4 ⟨t,u,N⟩ nl::List.zipWith qb4 p2 q2:=by
        unfold nets;show List.zipWith qb4 (p1++_::p2) (q1++nl::q2)=_;rw[Yi g3];rfl
       rw[qd5,e1];classical
       refine List.Perm.cons _ ?_;refine Xc.mpr fun a=>?_;show List.count a (pC b::mC b::qC _ _::(qbw A st b++(qbu A st b++_)))=_;simp only[Xs,Xz,Yh];omega
      ·show upd H4 b.aQ _ b.a=_;rw[qc hQb];exact S4 _ _ B.o
      ·intro c hc;simp only[Jf,Xa,Y0] at hc;rcases hc with rfl|rfl
       ·exact kq
       ·show upd H4 b.aQ _ nl=_;rw[qc hQn.symm];exact hnl4
      ·show [b.aQ,nl].Nodup;simp only[Xf,Jf,Xa,Y0,Yb,Qx,Zj];exact hQn
      ·intro a ha;have ha:a∈[b.aQ,nl]:=ha;simp only[Jf,Xa,Y0] at ha;rcases ha with rfl|rfl
       ·exact .inl (Jh ..)
       ·exact .inr hnl0
      ·intro a o h1 h2 h3;have h2:a≠b.aQ:=fun z=>h2 (by rw[z];exact Jh ..);rw[qc h2];exact S4 _ _ h3
      ·show (q1++nl::q2).length=(p1++_::p2).length;have:=B.lq;rw[g1,g2] at this;simp at this ⊢;omega
      ·intro j y n h1 h2;obtain⟨r1,r2,r3⟩:=B.mr j y n h1 h2;exact⟨r1,r2,r3⟩
   obtain⟨ba,bl,qs',f1,f2,f3,f4,f5,f6,f7⟩:=hbef;rw[f1];rw[<- f5] at q;walk_at "";refine r_dpT (k:=pk t u) B4.oQ ht4 (qa8 (by rw[hql];omega)) ?_;rw[f6];have KK:=f7 _ rfl;have hba5:upd H4 b.aQ (.dT (qaz (Vbemai.putPeriod ⟨t,u,N⟩ st.periods) qs')) ba=some (.lst (vI bl)):=by rw[qc f4];exact f2
   have hnl5:upd H4 b.aQ (.dT (qaz (Vbemai.putPeriod ⟨t,u,N⟩ st.periods) qs')) nl=some (.lst (vI N)):=by rw[qc (qay hnl4 B4.oQ (by intro z;cases z))];exact hnl4
   generalize upd H4 b.aQ (.dT (qaz (Vbemai.putPeriod ⟨t,u,N⟩ st.periods) qs'))=H5 at *
   walk_at "";intro z5 hz5;have s6:=Kh.new (o:=.lst [.int 0]) hz5;have hz6:upd H5 z5 (.lst [.int 0]) z5=some (.lst [.int 0]):=kq;have hba6:=s6 _ _ hba5;have hnl6:=s6 _ _ hnl5;generalize upd H5 z5 (.lst [.int 0])=H6 at *
   walk_at "";refine r_iz (SqL.of hnl6) (SqL.of hba6) ?_;refine qfl 33 (fun i=>vI (((N.zip bl).map fun x=>x.1-x.2).take i)) rfl (fun i H' hi s7=>?_) (fun H' s7=>⟨_,_,SqL.of (s7 _ _ hnl6),SqL.of (s7 _ _ hba6),.inl (by rw[qa9];omega)⟩) ?_ ?_
   ·exact⟨_,_,.int (N[i]'(by omega)),.int (bl[i]'(by omega)),SqL.of (s7 _ _ hnl6),SqL.of (s7 _ _ hba6),qc6 (Jo _),qc6 (Jo _)⟩
   ·rintro D i H7 v H7' hi p ⟨tt,x1,y1,rfl,htt,rfl,hx1,hy1⟩;have h1:N[i]?=some (N[i]'(by omega)):=Jo _;have h2:bl[i]?=some (bl[i]'(by omega)):=Jo _;generalize N[i]'(by omega)=n1 at h1;generalize bl[i]'(by omega)=n2 at h2;have e1:=hx1 _ (SqL.of (p.same _ _ hnl6));rw[qc6 h1] at e1;have e2:=hy1 _ (SqL.of (p.same _ _ hba6));rw[qc6 h2] at e2;cases e1;cases e2;have s8:=Kh.new (o:=.tup [.int n1,.int n2]) htt;walk_at "";refine qfk (SqT.of kq) rfl ?_;walk_at "";refine⟨rfl,?_⟩;walk_at "";refine qax ?_;walk_at "";refine p.yes (qa8 (by omega)) s8 ?_;show vI (List.take (i+1) _)=_;have e3:((N.zip bl).map fun x=>x.1-x.2)[i]?=some (n1-n2):=by
     rw[Jt];have:(N.zip bl)[i]?=some (n1,n2):=by rw[Xn];exact⟨h1,h2⟩
     rw[this];rfl
    rw[Xq,e3];simp[vI]
   ·intro D H7 hD s7 hD7;have hdl:((N.zip bl).map fun x=>x.1-x.2).length=33:=by rw[Jd,Yr];omega
    rw[Wz (by omega)] at hD7;walk_at "";refine⟨D,_,rfl,SqL.of hD7,by omega,fun H8 l8 s8 hl8 hl8'=>?_⟩;walk_at "";have htl:=QM.qhg ((N.zip bl).map fun x=>x.1-x.2);refine qie ((s7.trans s8) _ _ hz6) hl8' (by rw[qa9];exact Xj (qa8 (by simp only[Jz,Y3];omega))) fun l hl=>?_;have K8:=(KK.same (s6.trans (s7.trans s8)))
    exact q _ _ l (K8.same (Kh.new hl)) (K8.lv.free hl) kq
  walk_at "";refine r_dnT (k:=pk t u) B1.oQ ht1 ?_;rw[hoi];walk_at "";cases o with
  | some l0=>
    refine qa3 ?_;exact go (fun z=>nomatch z.2)
  | none=>
    refine qax ?_;walk_at "";refine qbb (lenTT B1.oQ) ?_;rw[hql];walk_at "";refine ifD (fun c=>?_) (fun c=>?_)
    ·rw[Je ⟨by omega,rfl⟩] at q;walk_at "";intro l hl;exact q _ b l (Qae.of_same B (s1.trans (Kh.new hl))) (s1.free hl) kq
    ·exact go (fun z=>by have:=z.1;omega)
def mtr:Vbemai.Call->Option Nat
 | .read m _ _ _=>some m | .swap m _ _ _ _ _=>some m | .remove m _ _=>some m | .rate m _=>some m | .assign m _ _=>some m
 | .standing m _=>some m | .history m _=>some m | .value m _=>some m | .between m _ _=>some m | .through m _=>some m | .hand m _=>some m | .gaps m=>some m | .doubt m _=>some m
 |_=>none
def back:Vbemai.Call->Bool
 | .publish a b=>decide (b<a) | .between _ a b=>decide (b<a) | .total _ _ a b=>decide (b<a) | .rest _ a b=>decide (b<a) | .nets a b=>decide (b<a)
 |_=>false
theorem q9c{s:Sta}{c:Vbemai.Call}{m:Nat}(h:mtr c=some m)(hm:Vbemai.meter? s m=none): Vbemai.step s c=(s,[-3]):=by
 cases c<;>simp only[mtr,Option.some.injEq,reduceCtorEq] at h<;>subst h<;>simp only[Vbemai.step,Vbemai.does,hm]<;>rfl
theorem q85{s:Sta}{c:Vbemai.Call}(h:back c=true)(hm:∀ m,mtr c=some m->∃ x,Vbemai.meter? s m=some x): Vbemai.step s c=(s,[-11]):=by
 cases c with
 |publish a b=>have h:=Zl h;simp only[Vbemai.step,Vbemai.does];rw[Je h]
 | between m a b=>
   have h:=Zl h;obtain⟨x,hx⟩:=hm m rfl;simp only[Vbemai.step,Vbemai.does,hx];rw[Jc (by simp),Je h]
 |total x y a b=>have h:=Zl h;simp only[Vbemai.step,Vbemai.does];rw[Je h]
 |rest x a b=>have h:=Zl h;simp only[Vbemai.step,Vbemai.does];rw[Je h]
 |nets a b=>have h:=Zl h;simp only[Vbemai.step,Vbemai.does];rw[Je h]
 |_=>cases h
structure RowOk(k:Nat)(as:List Int)(c:Vbemai.Call): Prop where
 dec:Vbemai.decode [(k:Int)::as]=some c
 m:(mtr c=none/\vj (gK (qag k) as) (Sum.inr (Str.ofString "meter"))=none)\/∃ n:Nat,mtr c=some n/\1<=n/\vj (gK (qag k) as) (Sum.inr (Str.ofString "meter"))=some (.int (n:Int))
 t:(vj (gK (qag k) as) (Sum.inr (Str.ofString "to"))=none/\back c=false)\/∃ a b:Int,vj (gK (qag k) as) (Sum.inr (Str.ofString "to"))=some (.int b)/\vj (gK (qag k) as) (Sum.inr (Str.ofString "from"))=some (.int a)/\back c=(decide (b<a) && !decide (k=21))
 g:∀ (s:Sta) (H:Hp) (g:Addr),GV H g k as->(∀ n,mtr c=some n->∃ i x,n=i+1/\s.meters[i]?=some x)->back c=false->gqN k H g s c
def Qbi(k:Nat)(as:List Int): Prop:=(vc (ve k) as=false/\Vbemai.decode [(k:Int)::as]=none)\/∃ c,RowOk k as c
theorem qli(k z y t d f v p r:Int): Vbemai.decode [[1,k,z,y,t,d,f,v,p,r]]=Vbemai.guard (vc (ve 1) [k,z,y,t,d,f,v,p,r]) (.install k.toNat z.toNat y.toNat t.toNat d.toNat f v p.toNat r):=by
 simp only[vc,ve,Jy];rfl
theorem rows_1(as:List Int)(hl:as.length=(qag 1).length): Qbi 1 as:=by
 match as,hl with
 | [k,z,y,t,d,f,v,p,r],_=>
   cases hb:vc (ve 1) [k,z,y,t,d,f,v,p,r] with
   |false=>exact .inl ⟨hb,by show Vbemai.decode [[1,k,z,y,t,d,f,v,p,r]]=none;rw[qli,hb];rfl⟩
   | true=>
     have hb2:=hb;simp only[vc,ve,Jy,Jw,Vbemai.inside,J9] at hb2;obtain⟨⟨l0,u0⟩,⟨l1,u1⟩,⟨l2,u2⟩,⟨l3,u3⟩,⟨l4,u4⟩,⟨l5,u5⟩,⟨l6,u6⟩,⟨l7,u7⟩,⟨l8,u8⟩⟩:=hb2;obtain⟨k,rfl⟩:∃ nn:Nat,k=(nn:Int):=⟨k.toNat,by omega⟩
     obtain⟨z,rfl⟩:∃ nn:Nat,z=(nn:Int):=⟨z.toNat,by omega⟩
     obtain⟨y,rfl⟩:∃ nn:Nat,y=(nn:Int):=⟨y.toNat,by omega⟩
     obtain⟨t,rfl⟩:∃ nn:Nat,t=(nn:Int):=⟨t.toNat,by omega⟩
     obtain⟨d,rfl⟩:∃ nn:Nat,d=(nn:Int):=⟨d.toNat,by omega⟩
     obtain⟨p,rfl⟩:∃ nn:Nat,p=(nn:Int):=⟨p.toNat,by omega⟩
     refine .inr ⟨.install k z y t d f v p r,?_,?_,?_,fun s H g hg hm hbk=>?_⟩
     ·show Vbemai.decode [[1,k,z,y,t,d,f,v,p,r]]=_;rw[qli,hb];simp only[J1];rfl
     ·exact .inl ⟨rfl,rfl⟩
     ·exact .inl ⟨rfl,rfl⟩
     ·skip;exact⟨k,z,y,t,d,f,v,p,r,rfl,hg,⟨by omega,by omega,by omega,by omega,by omega,by omega,by omega,by omega,by omega,by omega,by omega⟩,by omega⟩
theorem qlt(m t n v:Int): Vbemai.decode [[2,m,t,n,v]]=Vbemai.guard (vc (ve 2) [m,t,n,v]) (.read m.toNat t.toNat n.toNat v):=by
 simp only[vc,ve,Jy];rfl
theorem rows_2(as:List Int)(hl:as.length=(qag 2).length): Qbi 2 as:=by
 match as,hl with
 | [m,t,n,v],_=>
   cases hb:vc (ve 2) [m,t,n,v] with
   |false=>exact .inl ⟨hb,by show Vbemai.decode [[2,m,t,n,v]]=none;rw[qlt,hb];rfl⟩
   | true=>
     have hb2:=hb;simp only[vc,ve,Jy,Jw,Vbemai.inside,J9] at hb2;obtain⟨⟨l0,u0⟩,⟨l1,u1⟩,⟨l2,u2⟩,⟨l3,u3⟩⟩:=hb2;obtain⟨m,rfl⟩:∃ nn:Nat,m=(nn:Int):=⟨m.toNat,by omega⟩
     obtain⟨t,rfl⟩:∃ nn:Nat,t=(nn:Int):=⟨t.toNat,by omega⟩
     obtain⟨n,rfl⟩:∃ nn:Nat,n=(nn:Int):=⟨n.toNat,by omega⟩
     refine .inr ⟨.read m t n v,?_,?_,?_,fun s H g hg hm hbk=>?_⟩
     ·show Vbemai.decode [[2,m,t,n,v]]=_;rw[qlt,hb];simp only[J1];rfl
     ·exact .inr ⟨m,rfl,by omega,rfl⟩
     ·exact .inl ⟨rfl,rfl⟩
     ·obtain⟨i,x,e,hx⟩:=hm m rfl;subst e;exact⟨i,t,n,v,x,rfl,hg,⟨by omega,by omega,by omega,by omega,by omega⟩,hx⟩
theorem qlw(m t e v d f:Int): Vbemai.decode [[3,m,t,e,v,d,f]]=Vbemai.guard (vc (ve 3) [m,t,e,v,d,f]) (.swap m.toNat t.toNat e v d.toNat f):=by
 simp only[vc,ve,Jy];rfl
theorem rows_3(as:List Int)(hl:as.length=(qag 3).length): Qbi 3 as:=by
 match as,hl with
 | [m,t,e,v,d,f],_=>
   cases hb:vc (ve 3) [m,t,e,v,d,f] with
   |false=>exact .inl ⟨hb,by show Vbemai.decode [[3,m,t,e,v,d,f]]=none;rw[qlw,hb];rfl⟩
   | true=>
     have hb2:=hb;simp only[vc,ve,Jy,Jw,Vbemai.inside,J9] at hb2;obtain⟨⟨l0,u0⟩,⟨l1,u1⟩,⟨l2,u2⟩,⟨l3,u3⟩,⟨l4,u4⟩,⟨l5,u5⟩⟩:=hb2;obtain⟨m,rfl⟩:∃ nn:Nat,m=(nn:Int):=⟨m.toNat,by omega⟩
     obtain⟨t,rfl⟩:∃ nn:Nat,t=(nn:Int):=⟨t.toNat,by omega⟩
     obtain⟨d,rfl⟩:∃ nn:Nat,d=(nn:Int):=⟨d.toNat,by omega⟩
     refine .inr ⟨.swap m t e v d f,?_,?_,?_,fun s H g hg hm hbk=>?_⟩
     ·show Vbemai.decode [[3,m,t,e,v,d,f]]=_;rw[qlw,hb];simp only[J1];rfl
     ·exact .inr ⟨m,rfl,by omega,rfl⟩
     ·exact .inl ⟨rfl,rfl⟩
     ·obtain⟨i,x,e,hx⟩:=hm m rfl;subst e;exact⟨i,t,e,v,d,f,x,rfl,hg,⟨by omega,by omega,by omega,by omega,by omega,by omega,by omega⟩,hx⟩
theorem qlx(m t e:Int): Vbemai.decode [[4,m,t,e]]=Vbemai.guard (vc (ve 4) [m,t,e]) (.remove m.toNat t.toNat e):=by
 simp only[vc,ve,Jy];rfl
theorem rows_4(as:List Int)(hl:as.length=(qag 4).length): Qbi 4 as:=by
 match as,hl with
 | [m,t,e],_=>
   cases hb:vc (ve 4) [m,t,e] with
   |false=>exact .inl ⟨hb,by show Vbemai.decode [[4,m,t,e]]=none;rw[qlx,hb];rfl⟩
   | true=>
     have hb2:=hb;simp only[vc,ve,Jy,Jw,Vbemai.inside,J9] at hb2;obtain⟨⟨l0,u0⟩,⟨l1,u1⟩,⟨l2,u2⟩⟩:=hb2;obtain⟨m,rfl⟩:∃ nn:Nat,m=(nn:Int):=⟨m.toNat,by omega⟩
     obtain⟨t,rfl⟩:∃ nn:Nat,t=(nn:Int):=⟨t.toNat,by omega⟩
     refine .inr ⟨.remove m t e,?_,?_,?_,fun s H g hg hm hbk=>?_⟩
     ·show Vbemai.decode [[4,m,t,e]]=_;rw[qlx,hb];simp only[J1];rfl
     ·exact .inr ⟨m,rfl,by omega,rfl⟩
     ·exact .inl ⟨rfl,rfl⟩
     ·obtain⟨i,x,e,hx⟩:=hm m rfl;subst e;exact⟨i,t,e,x,rfl,hg,⟨by omega,by omega⟩,hx⟩
theorem qly(m r:Int): Vbemai.decode [[5,m,r]]=Vbemai.guard (vc (ve 5) [m,r]) (.rate m.toNat r):=by
 simp only[vc,ve,Jy];rfl
theorem rows_5(as:List Int)(hl:as.length=(qag 5).length): Qbi 5 as:=by
 match as,hl with
 | [m,r],_=>
   cases hb:vc (ve 5) [m,r] with
   |false=>exact .inl ⟨hb,by show Vbemai.decode [[5,m,r]]=none;rw[qly,hb];rfl⟩
   | true=>
     have hb2:=hb;simp only[vc,ve,Jy,Jw,Vbemai.inside,J9] at hb2;obtain⟨⟨l0,u0⟩,⟨l1,u1⟩⟩:=hb2;obtain⟨m,rfl⟩:∃ nn:Nat,m=(nn:Int):=⟨m.toNat,by omega⟩
     refine .inr ⟨.rate m r,?_,?_,?_,fun s H g hg hm hbk=>?_⟩
     ·show Vbemai.decode [[5,m,r]]=_;rw[qly,hb];simp only[J1];rfl
     ·exact .inr ⟨m,rfl,by omega,rfl⟩
     ·exact .inl ⟨rfl,rfl⟩
     ·obtain⟨i,x,e,hx⟩:=hm m rfl;subst e;exact⟨i,r,x,rfl,hg,⟨by omega,by omega⟩,hx⟩
theorem qlz(m q h:Int): Vbemai.decode [[6,m,q,h]]=Vbemai.guard (vc (ve 6) [m,q,h]) (.assign m.toNat q.toNat h.toNat):=by
 simp only[vc,ve,Jy];rfl
theorem rows_6(as:List Int)(hl:as.length=(qag 6).length): Qbi 6 as:=by
 match as,hl with
 | [m,q,h],_=>
   cases hb:vc (ve 6) [m,q,h] with
   |false=>exact .inl ⟨hb,by show Vbemai.decode [[6,m,q,h]]=none;rw[qlz,hb];rfl⟩
   | true=>
     have hb2:=hb;simp only[vc,ve,Jy,Jw,Vbemai.inside,J9] at hb2;obtain⟨⟨l0,u0⟩,⟨l1,u1⟩,⟨l2,u2⟩⟩:=hb2;obtain⟨m,rfl⟩:∃ nn:Nat,m=(nn:Int):=⟨m.toNat,by omega⟩
     obtain⟨q,rfl⟩:∃ nn:Nat,q=(nn:Int):=⟨q.toNat,by omega⟩
     obtain⟨h,rfl⟩:∃ nn:Nat,h=(nn:Int):=⟨h.toNat,by omega⟩
     refine .inr ⟨.assign m q h,?_,?_,?_,fun s H g hg hm hbk=>?_⟩
     ·show Vbemai.decode [[6,m,q,h]]=_;rw[qlz,hb];simp only[J1];rfl
     ·exact .inr ⟨m,rfl,by omega,rfl⟩
     ·exact .inl ⟨rfl,rfl⟩
     ·obtain⟨i,x,e,hx⟩:=hm m rfl;subst e;exact⟨i,q,h,x,rfl,hg,⟨by omega,by omega⟩,hx⟩
theorem ql0(t:Int): Vbemai.decode [[7,t]]=Vbemai.guard (vc (ve 7) [t]) (.lock t.toNat):=by
 simp only[vc,ve,Jy];rfl
theorem rows_7(as:List Int)(hl:as.length=(qag 7).length): Qbi 7 as:=by
 match as,hl with
 | [t],_=>
   cases hb:vc (ve 7) [t] with
   |false=>exact .inl ⟨hb,by show Vbemai.decode [[7,t]]=none;rw[ql0,hb];rfl⟩
   | true=>
     have hb2:=hb;simp only[vc,ve,Jy,Jw,Vbemai.inside,J9] at hb2;obtain⟨l0,u0⟩:=hb2;obtain⟨t,rfl⟩:∃ nn:Nat,t=(nn:Int):=⟨t.toNat,by omega⟩
     refine .inr ⟨.lock t,?_,?_,?_,fun s H g hg hm hbk=>?_⟩
     ·show Vbemai.decode [[7,t]]=_;rw[ql0,hb];simp only[J1];rfl
     ·exact .inl ⟨rfl,rfl⟩
     ·exact .inl ⟨rfl,rfl⟩
     ·skip;exact⟨t,rfl,hg,(show (_:Nat)<=10000 by omega)⟩
theorem ql1(a b:Int): Vbemai.decode [[8,a,b]]=Vbemai.guard (vc (ve 8) [a,b]) (.publish a.toNat b.toNat):=by
 simp only[vc,ve,Jy];rfl
theorem rows_8(as:List Int)(hl:as.length=(qag 8).length): Qbi 8 as:=by
 match as,hl with
 | [a,b],_=>
   cases hb:vc (ve 8) [a,b] with
   |false=>exact .inl ⟨hb,by show Vbemai.decode [[8,a,b]]=none;rw[ql1,hb];rfl⟩
   | true=>
     have hb2:=hb;simp only[vc,ve,Jy,Jw,Vbemai.inside,J9] at hb2;obtain⟨⟨l0,u0⟩,⟨l1,u1⟩⟩:=hb2;obtain⟨a,rfl⟩:∃ nn:Nat,a=(nn:Int):=⟨a.toNat,by omega⟩
     obtain⟨b,rfl⟩:∃ nn:Nat,b=(nn:Int):=⟨b.toNat,by omega⟩
     refine .inr ⟨.publish a b,?_,?_,?_,fun s H g hg hm hbk=>?_⟩
     ·show Vbemai.decode [[8,a,b]]=_;rw[ql1,hb];simp only[J1];rfl
     ·exact .inl ⟨rfl,rfl⟩
     ·exact .inr ⟨a,b,rfl,rfl,(by show _=(decide (_:Prop)&&true);rw[Jy];exact Yt.mpr (by omega))⟩
     ·skip;have hbk:decide (b<a)=false:=hbk;have hab:=Wv hbk;exact⟨a,b,rfl,hg,by omega,by omega⟩
theorem ql2(m t:Int): Vbemai.decode [[9,m,t]]=Vbemai.guard (vc (ve 9) [m,t]) (.standing m.toNat t.toNat):=by
 simp only[vc,ve,Jy];rfl
theorem rows_9(as:List Int)(hl:as.length=(qag 9).length): Qbi 9 as:=by
 match as,hl with
 | [m,t],_=>
   cases hb:vc (ve 9) [m,t] with
   |false=>exact .inl ⟨hb,by show Vbemai.decode [[9,m,t]]=none;rw[ql2,hb];rfl⟩
   | true=>
     have hb2:=hb;simp only[vc,ve,Jy,Jw,Vbemai.inside,J9] at hb2;obtain⟨⟨l0,u0⟩,⟨l1,u1⟩⟩:=hb2;obtain⟨m,rfl⟩:∃ nn:Nat,m=(nn:Int):=⟨m.toNat,by omega⟩
     obtain⟨t,rfl⟩:∃ nn:Nat,t=(nn:Int):=⟨t.toNat,by omega⟩
     refine .inr ⟨.standing m t,?_,?_,?_,fun s H g hg hm hbk=>?_⟩
     ·show Vbemai.decode [[9,m,t]]=_;rw[ql2,hb];simp only[J1];rfl
     ·exact .inr ⟨m,rfl,by omega,rfl⟩
     ·exact .inl ⟨rfl,rfl⟩
     ·obtain⟨i,x,e,hx⟩:=hm m rfl;subst e;exact⟨i,t,x,rfl,hg,hx⟩
theorem qlj(m t:Int): Vbemai.decode [[10,m,t]]=Vbemai.guard (vc (ve 10) [m,t]) (.history m.toNat t.toNat):=by
 simp only[vc,ve,Jy];rfl
theorem q6a(as:List Int)(hl:as.length=(qag 10).length): Qbi 10 as:=by
 match as,hl with
 | [m,t],_=>
   cases hb:vc (ve 10) [m,t] with
   |false=>exact .inl ⟨hb,by show Vbemai.decode [[10,m,t]]=none;rw[qlj,hb];rfl⟩
   | true=>
     have hb2:=hb;simp only[vc,ve,Jy,Jw,Vbemai.inside,J9] at hb2;obtain⟨⟨l0,u0⟩,⟨l1,u1⟩⟩:=hb2;obtain⟨m,rfl⟩:∃ nn:Nat,m=(nn:Int):=⟨m.toNat,by omega⟩
     obtain⟨t,rfl⟩:∃ nn:Nat,t=(nn:Int):=⟨t.toNat,by omega⟩
     refine .inr ⟨.history m t,?_,?_,?_,fun s H g hg hm hbk=>?_⟩
     ·show Vbemai.decode [[10,m,t]]=_;rw[qlj,hb];simp only[J1];rfl
     ·exact .inr ⟨m,rfl,by omega,rfl⟩
     ·exact .inl ⟨rfl,rfl⟩
     ·obtain⟨i,x,e,hx⟩:=hm m rfl;subst e;exact⟨i,t,x,rfl,hg,hx⟩
theorem qlk(m q:Int): Vbemai.decode [[11,m,q]]=Vbemai.guard (vc (ve 11) [m,q]) (.value m.toNat q.toNat):=by
 simp only[vc,ve,Jy];rfl
theorem q6b(as:List Int)(hl:as.length=(qag 11).length): Qbi 11 as:=by
 match as,hl with
 | [m,q],_=>
   cases hb:vc (ve 11) [m,q] with
   |false=>exact .inl ⟨hb,by show Vbemai.decode [[11,m,q]]=none;rw[qlk,hb];rfl⟩
   | true=>
     have hb2:=hb;simp only[vc,ve,Jy,Jw,Vbemai.inside,J9] at hb2;obtain⟨⟨l0,u0⟩,⟨l1,u1⟩⟩:=hb2;obtain⟨m,rfl⟩:∃ nn:Nat,m=(nn:Int):=⟨m.toNat,by omega⟩
     obtain⟨q,rfl⟩:∃ nn:Nat,q=(nn:Int):=⟨q.toNat,by omega⟩
     refine .inr ⟨.value m q,?_,?_,?_,fun s H g hg hm hbk=>?_⟩
     ·show Vbemai.decode [[11,m,q]]=_;rw[qlk,hb];simp only[J1];rfl
     ·exact .inr ⟨m,rfl,by omega,rfl⟩
     ·exact .inl ⟨rfl,rfl⟩
     ·obtain⟨i,x,e,hx⟩:=hm m rfl;subst e;exact⟨i,q,x,rfl,hg,by omega,hx⟩
theorem qll(m a b:Int): Vbemai.decode [[12,m,a,b]]=Vbemai.guard (vc (ve 12) [m,a,b]) (.between m.toNat a.toNat b.toNat):=by
 simp only[vc,ve,Jy];rfl
theorem q6c(as:List Int)(hl:as.length=(qag 12).length): Qbi 12 as:=by
 match as,hl with
 | [m,a,b],_=>
   cases hb:vc (ve 12) [m,a,b] with
   |false=>exact .inl ⟨hb,by show Vbemai.decode [[12,m,a,b]]=none;rw[qll,hb];rfl⟩
   | true=>
     have hb2:=hb;simp only[vc,ve,Jy,Jw,Vbemai.inside,J9] at hb2;obtain⟨⟨l0,u0⟩,⟨l1,u1⟩,⟨l2,u2⟩⟩:=hb2;obtain⟨m,rfl⟩:∃ nn:Nat,m=(nn:Int):=⟨m.toNat,by omega⟩
     obtain⟨a,rfl⟩:∃ nn:Nat,a=(nn:Int):=⟨a.toNat,by omega⟩
     obtain⟨b,rfl⟩:∃ nn:Nat,b=(nn:Int):=⟨b.toNat,by omega⟩
     refine .inr ⟨.between m a b,?_,?_,?_,fun s H g hg hm hbk=>?_⟩
     ·show Vbemai.decode [[12,m,a,b]]=_;rw[qll,hb];simp only[J1];rfl
     ·exact .inr ⟨m,rfl,by omega,rfl⟩
     ·exact .inr ⟨a,b,rfl,rfl,(by show _=(decide (_:Prop)&&true);rw[Jy];exact Yt.mpr (by omega))⟩
     ·obtain⟨i,x,e,hx⟩:=hm m rfl;subst e;have hbk:decide (b<a)=false:=hbk;have hab:=Wv hbk;exact⟨i,a,b,x,rfl,hg,by omega,by omega,hx⟩
theorem qlm(m t:Int): Vbemai.decode [[13,m,t]]=Vbemai.guard (vc (ve 13) [m,t]) (.through m.toNat t.toNat):=by
 simp only[vc,ve,Jy];rfl
theorem q6d(as:List Int)(hl:as.length=(qag 13).length): Qbi 13 as:=by
 match as,hl with
 | [m,t],_=>
   cases hb:vc (ve 13) [m,t] with
   |false=>exact .inl ⟨hb,by show Vbemai.decode [[13,m,t]]=none;rw[qlm,hb];rfl⟩
   | true=>
     have hb2:=hb;simp only[vc,ve,Jy,Jw,Vbemai.inside,J9] at hb2;obtain⟨⟨l0,u0⟩,⟨l1,u1⟩⟩:=hb2;obtain⟨m,rfl⟩:∃ nn:Nat,m=(nn:Int):=⟨m.toNat,by omega⟩
     obtain⟨t,rfl⟩:∃ nn:Nat,t=(nn:Int):=⟨t.toNat,by omega⟩
     refine .inr ⟨.through m t,?_,?_,?_,fun s H g hg hm hbk=>?_⟩
     ·show Vbemai.decode [[13,m,t]]=_;rw[qlm,hb];simp only[J1];rfl
     ·exact .inr ⟨m,rfl,by omega,rfl⟩
     ·exact .inl ⟨rfl,rfl⟩
     ·obtain⟨i,x,e,hx⟩:=hm m rfl;subst e;exact⟨i,t,x,rfl,hg,by omega,hx⟩
theorem qln(m q:Int): Vbemai.decode [[14,m,q]]=Vbemai.guard (vc (ve 14) [m,q]) (.hand m.toNat q.toNat):=by
 simp only[vc,ve,Jy];rfl
theorem q6e(as:List Int)(hl:as.length=(qag 14).length): Qbi 14 as:=by
 match as,hl with
 | [m,q],_=>
   cases hb:vc (ve 14) [m,q] with
   |false=>exact .inl ⟨hb,by show Vbemai.decode [[14,m,q]]=none;rw[qln,hb];rfl⟩
   | true=>
     have hb2:=hb;simp only[vc,ve,Jy,Jw,Vbemai.inside,J9] at hb2;obtain⟨⟨l0,u0⟩,⟨l1,u1⟩⟩:=hb2;obtain⟨m,rfl⟩:∃ nn:Nat,m=(nn:Int):=⟨m.toNat,by omega⟩
     obtain⟨q,rfl⟩:∃ nn:Nat,q=(nn:Int):=⟨q.toNat,by omega⟩
     refine .inr ⟨.hand m q,?_,?_,?_,fun s H g hg hm hbk=>?_⟩
     ·show Vbemai.decode [[14,m,q]]=_;rw[qln,hb];simp only[J1];rfl
     ·exact .inr ⟨m,rfl,by omega,rfl⟩
     ·exact .inl ⟨rfl,rfl⟩
     ·obtain⟨i,x,e,hx⟩:=hm m rfl;subst e;exact⟨i,q,x,rfl,hg,hx⟩
theorem qlo(h z a b:Int): Vbemai.decode [[15,h,z,a,b]]=Vbemai.guard (vc (ve 15) [h,z,a,b]) (.total h.toNat z.toNat a.toNat b.toNat):=by
 simp only[vc,ve,Jy];rfl
theorem q6f(as:List Int)(hl:as.length=(qag 15).length): Qbi 15 as:=by
 match as,hl with
 | [h,z,a,b],_=>
   cases hb:vc (ve 15) [h,z,a,b] with
   |false=>exact .inl ⟨hb,by show Vbemai.decode [[15,h,z,a,b]]=none;rw[qlo,hb];rfl⟩
   | true=>
     have hb2:=hb;simp only[vc,ve,Jy,Jw,Vbemai.inside,J9] at hb2;obtain⟨⟨l0,u0⟩,⟨l1,u1⟩,⟨l2,u2⟩,⟨l3,u3⟩⟩:=hb2;obtain⟨h,rfl⟩:∃ nn:Nat,h=(nn:Int):=⟨h.toNat,by omega⟩
     obtain⟨z,rfl⟩:∃ nn:Nat,z=(nn:Int):=⟨z.toNat,by omega⟩
     obtain⟨a,rfl⟩:∃ nn:Nat,a=(nn:Int):=⟨a.toNat,by omega⟩
     obtain⟨b,rfl⟩:∃ nn:Nat,b=(nn:Int):=⟨b.toNat,by omega⟩
     refine .inr ⟨.total h z a b,?_,?_,?_,fun s H g hg hm hbk=>?_⟩
     ·show Vbemai.decode [[15,h,z,a,b]]=_;rw[qlo,hb];simp only[J1];rfl
     ·exact .inl ⟨rfl,rfl⟩
     ·exact .inr ⟨a,b,rfl,rfl,(by show _=(decide (_:Prop)&&true);rw[Jy];exact Yt.mpr (by omega))⟩
     ·skip;have hbk:decide (b<a)=false:=hbk;have hab:=Wv hbk;exact⟨h,z,a,b,rfl,hg,by omega,by omega⟩
theorem qlp(z a b:Int): Vbemai.decode [[16,z,a,b]]=Vbemai.guard (vc (ve 16) [z,a,b]) (.rest z.toNat a.toNat b.toNat):=by
 simp only[vc,ve,Jy];rfl
theorem q6g(as:List Int)(hl:as.length=(qag 16).length): Qbi 16 as:=by
 match as,hl with
 | [z,a,b],_=>
   cases hb:vc (ve 16) [z,a,b] with
   |false=>exact .inl ⟨hb,by show Vbemai.decode [[16,z,a,b]]=none;rw[qlp,hb];rfl⟩
   | true=>
     have hb2:=hb;simp only[vc,ve,Jy,Jw,Vbemai.inside,J9] at hb2;obtain⟨⟨l0,u0⟩,⟨l1,u1⟩,⟨l2,u2⟩⟩:=hb2;obtain⟨z,rfl⟩:∃ nn:Nat,z=(nn:Int):=⟨z.toNat,by omega⟩
     obtain⟨a,rfl⟩:∃ nn:Nat,a=(nn:Int):=⟨a.toNat,by omega⟩
     obtain⟨b,rfl⟩:∃ nn:Nat,b=(nn:Int):=⟨b.toNat,by omega⟩
     refine .inr ⟨.rest z a b,?_,?_,?_,fun s H g hg hm hbk=>?_⟩
     ·show Vbemai.decode [[16,z,a,b]]=_;rw[qlp,hb];simp only[J1];rfl
     ·exact .inl ⟨rfl,rfl⟩
     ·exact .inr ⟨a,b,rfl,rfl,(by show _=(decide (_:Prop)&&true);rw[Jy];exact Yt.mpr (by omega))⟩
     ·skip;have hbk:decide (b<a)=false:=hbk;have hab:=Wv hbk;exact⟨z,a,b,rfl,hg,by omega,by omega⟩
theorem qlq(a b:Int): Vbemai.decode [[17,a,b]]=Vbemai.guard (vc (ve 17) [a,b]) (.nets a.toNat b.toNat):=by
 simp only[vc,ve,Jy];rfl
theorem q6h(as:List Int)(hl:as.length=(qag 17).length): Qbi 17 as:=by
 match as,hl with
 | [a,b],_=>
   cases hb:vc (ve 17) [a,b] with
   |false=>exact .inl ⟨hb,by show Vbemai.decode [[17,a,b]]=none;rw[qlq,hb];rfl⟩
   | true=>
     have hb2:=hb;simp only[vc,ve,Jy,Jw,Vbemai.inside,J9] at hb2;obtain⟨⟨l0,u0⟩,⟨l1,u1⟩⟩:=hb2;obtain⟨a,rfl⟩:∃ nn:Nat,a=(nn:Int):=⟨a.toNat,by omega⟩
     obtain⟨b,rfl⟩:∃ nn:Nat,b=(nn:Int):=⟨b.toNat,by omega⟩
     refine .inr ⟨.nets a b,?_,?_,?_,fun s H g hg hm hbk=>?_⟩
     ·show Vbemai.decode [[17,a,b]]=_;rw[qlq,hb];simp only[J1];rfl
     ·exact .inl ⟨rfl,rfl⟩
     ·exact .inr ⟨a,b,rfl,rfl,(by show _=(decide (_:Prop)&&true);rw[Jy];exact Yt.mpr (by omega))⟩
     ·skip;have hbk:decide (b<a)=false:=hbk;have hab:=Wv hbk;exact⟨a,b,rfl,hg,by omega,by omega⟩
theorem qlr(m:Int): Vbemai.decode [[18,m]]=Vbemai.guard (vc (ve 18) [m]) (.gaps m.toNat):=by
 simp only[vc,ve,Jy];rfl
theorem q6i(as:List Int)(hl:as.length=(qag 18).length): Qbi 18 as:=by
 match as,hl with
 | [m],_=>
   cases hb:vc (ve 18) [m] with
   |false=>exact .inl ⟨hb,by show Vbemai.decode [[18,m]]=none;rw[qlr,hb];rfl⟩
   | true=>
     have hb2:=hb;simp only[vc,ve,Jy,Jw,Vbemai.inside,J9] at hb2;obtain⟨l0,u0⟩:=hb2;obtain⟨m,rfl⟩:∃ nn:Nat,m=(nn:Int):=⟨m.toNat,by omega⟩
     refine .inr ⟨.gaps m,?_,?_,?_,fun s H g hg hm hbk=>?_⟩
     ·show Vbemai.decode [[18,m]]=_;rw[qlr,hb];simp only[J1];rfl
     ·exact .inr ⟨m,rfl,by omega,rfl⟩
     ·exact .inl ⟨rfl,rfl⟩
     ·obtain⟨i,x,e,hx⟩:=hm m rfl;subst e;exact⟨i,x,rfl,hg,hx⟩
theorem qls(m r:Int): Vbemai.decode [[19,m,r]]=Vbemai.guard (vc (ve 19) [m,r]) (.doubt m.toNat r):=by
 simp only[vc,ve,Jy];rfl
theorem q6j(as:List Int)(hl:as.length=(qag 19).length): Qbi 19 as:=by
 match as,hl with
 | [m,r],_=>
   cases hb:vc (ve 19) [m,r] with
   |false=>exact .inl ⟨hb,by show Vbemai.decode [[19,m,r]]=none;rw[qls,hb];rfl⟩
   | true=>
     have hb2:=hb;simp only[vc,ve,Jy,Jw,Vbemai.inside,J9] at hb2;obtain⟨⟨l0,u0⟩,⟨l1,u1⟩⟩:=hb2;obtain⟨m,rfl⟩:∃ nn:Nat,m=(nn:Int):=⟨m.toNat,by omega⟩
     refine .inr ⟨.doubt m r,?_,?_,?_,fun s H g hg hm hbk=>?_⟩
     ·show Vbemai.decode [[19,m,r]]=_;rw[qls,hb];simp only[J1];rfl
     ·exact .inr ⟨m,rfl,by omega,rfl⟩
     ·exact .inl ⟨rfl,rfl⟩
     ·obtain⟨i,x,e,hx⟩:=hm m rfl;subst e;exact⟨i,r,x,rfl,hg,by omega,by omega,hx⟩
theorem qlu(t:Int): Vbemai.decode [[20,t]]=Vbemai.guard (vc (ve 20) [t]) (.unread t.toNat):=by
 simp only[vc,ve,Jy];rfl
theorem q6k(as:List Int)(hl:as.length=(qag 20).length): Qbi 20 as:=by
 match as,hl with
 | [t],_=>
   cases hb:vc (ve 20) [t] with
   |false=>exact .inl ⟨hb,by show Vbemai.decode [[20,t]]=none;rw[qlu,hb];rfl⟩
   | true=>
     have hb2:=hb;simp only[vc,ve,Jy,Jw,Vbemai.inside,J9] at hb2;obtain⟨l0,u0⟩:=hb2;obtain⟨t,rfl⟩:∃ nn:Nat,t=(nn:Int):=⟨t.toNat,by omega⟩
     refine .inr ⟨.unread t,?_,?_,?_,fun s H g hg hm hbk=>?_⟩
     ·show Vbemai.decode [[20,t]]=_;rw[qlu,hb];simp only[J1];rfl
     ·exact .inl ⟨rfl,rfl⟩
     ·exact .inl ⟨rfl,rfl⟩
     ·skip;exact⟨t,rfl,hg⟩
theorem qlv(a b:Int): Vbemai.decode [[21,a,b]]=Vbemai.guard (vc (ve 21) [a,b]) (.published a.toNat b.toNat):=by
 simp only[vc,ve,Jy];rfl
theorem q6l(as:List Int)(hl:as.length=(qag 21).length): Qbi 21 as:=by
 match as,hl with
 | [a,b],_=>
   cases hb:vc (ve 21) [a,b] with
   |false=>exact .inl ⟨hb,by show Vbemai.decode [[21,a,b]]=none;rw[qlv,hb];rfl⟩
   | true=>
     have hb2:=hb;simp only[vc,ve,Jy,Jw,Vbemai.inside,J9] at hb2;obtain⟨⟨l0,u0⟩,⟨l1,u1⟩⟩:=hb2;obtain⟨a,rfl⟩:∃ nn:Nat,a=(nn:Int):=⟨a.toNat,by omega⟩
     obtain⟨b,rfl⟩:∃ nn:Nat,b=(nn:Int):=⟨b.toNat,by omega⟩
     refine .inr ⟨.published a b,?_,?_,?_,fun s H g hg hm hbk=>?_⟩
     ·show Vbemai.decode [[21,a,b]]=_;rw[qlv,hb];simp only[J1];rfl
     ·exact .inl ⟨rfl,rfl⟩
     ·exact .inr ⟨a,b,rfl,rfl,(by show false=(_&&false);rw[Qw])⟩
     ·skip;exact⟨a,b,rfl,hg⟩
theorem row_22:RowOk 22 [] .state:=⟨rfl,.inl ⟨rfl,rfl⟩,.inl ⟨rfl,rfl⟩,fun s H g hg _ _=>⟨rfl,hg⟩⟩
theorem q6m(as:List Int)(hl:as.length=(qag 22).length): Qbi 22 as:=by
 match as,hl with
 |[],_=>exact .inr ⟨_,row_22⟩
theorem q6n(k:Nat)(as:List Int)(h1:1<=k)(h2:k<=22)(hl:as.length=(qag k).length): Qbi k as:=by
 match k,h1,h2,hl with
 | 1,_,_,hl=>exact rows_1 as hl
 | 2,_,_,hl=>exact rows_2 as hl
 | 3,_,_,hl=>exact rows_3 as hl
 | 4,_,_,hl=>exact rows_4 as hl
 | 5,_,_,hl=>exact rows_5 as hl
 | 6,_,_,hl=>exact rows_6 as hl
 | 7,_,_,hl=>exact rows_7 as hl
 | 8,_,_,hl=>exact rows_8 as hl
 | 9,_,_,hl=>exact rows_9 as hl
 | 10,_,_,hl=>exact q6a as hl
 | 11,_,_,hl=>exact q6b as hl
 | 12,_,_,hl=>exact q6c as hl
 | 13,_,_,hl=>exact q6d as hl
 | 14,_,_,hl=>exact q6e as hl
 | 15,_,_,hl=>exact q6f as hl
 | 16,_,_,hl=>exact q6g as hl
 | 17,_,_,hl=>exact q6h as hl
 | 18,_,_,hl=>exact q6i as hl
 | 19,_,_,hl=>exact q6j as hl
 | 20,_,_,hl=>exact q6k as hl
 | 21,_,_,hl=>exact q6l as hl
 | 22,_,_,hl=>exact q6m as hl
 |n+23,_,h,_=>omega
theorem q6o(k:Nat)(as:List Int)(h1:1<=k)(h2:k<=22)(hl:as.length=(qag k).length)(hw:vc (ve k) as=false): Vbemai.decode [(k:Int)::as]=none:=by
 match k,h1,h2,hl,hw with
 | 1,_,_,hl,hw=>
   match as,hl with
   | [k,z,y,t,d,f,v,p,r],_=>
     show Vbemai.decode [[1,k,z,y,t,d,f,v,p,r]]=none;rw[qli,hw];rfl
 | 2,_,_,hl,hw=>
   match as,hl with
   | [m,t,n,v],_=>
     show Vbemai.decode [[2,m,t,n,v]]=none;rw[qlt,hw];rfl
 | 3,_,_,hl,hw=>
   match as,hl with
   | [m,t,e,v,d,f],_=>
     show Vbemai.decode [[3,m,t,e,v,d,f]]=none;rw[qlw,hw];rfl
 | 4,_,_,hl,hw=>
   match as,hl with
   | [m,t,e],_=>
     show Vbemai.decode [[4,m,t,e]]=none;rw[qlx,hw];rfl
 | 5,_,_,hl,hw=>
   match as,hl with
   | [m,r],_=>
     show Vbemai.decode [[5,m,r]]=none;rw[qly,hw];rfl
 | 6,_,_,hl,hw=>
   match as,hl with
   | [m,q,h],_=>
     show Vbemai.decode [[6,m,q,h]]=none;rw[qlz,hw];rfl
 | 7,_,_,hl,hw=>
   match as,hl with
   | [t],_=>
     show Vbemai.decode [[7,t]]=none;rw[ql0,hw];rfl
 | 8,_,_,hl,hw=>
   match as,hl with
   | [a,b],_=>
     show Vbemai.decode [[8,a,b]]=none;rw[ql1,hw];rfl
 | 9,_,_,hl,hw=>
   match as,hl with
   | [m,t],_=>
     show Vbemai.decode [[9,m,t]]=none;rw[ql2,hw];rfl
 | 10,_,_,hl,hw=>
   match as,hl with
   | [m,t],_=>
     show Vbemai.decode [[10,m,t]]=none;rw[qlj,hw];rfl
 | 11,_,_,hl,hw=>
   match as,hl with
   | [m,q],_=>
     show Vbemai.decode [[11,m,q]]=none;rw[qlk,hw];rfl
 | 12,_,_,hl,hw=>
   match as,hl with
   | [m,a,b],_=>
     show Vbemai.decode [[12,m,a,b]]=none;rw[qll,hw];rfl
 | 13,_,_,hl,hw=>
   match as,hl with
   | [m,t],_=>
     show Vbemai.decode [[13,m,t]]=none;rw[qlm,hw];rfl
 | 14,_,_,hl,hw=>
   match as,hl with
   | [m,q],_=>
     show Vbemai.decode [[14,m,q]]=none;rw[qln,hw];rfl
 | 15,_,_,hl,hw=>
   match as,hl with
   | [h,z,a,b],_=>
     show Vbemai.decode [[15,h,z,a,b]]=none;rw[qlo,hw];rfl
 | 16,_,_,hl,hw=>
   match as,hl with
   | [z,a,b],_=>
     show Vbemai.decode [[16,z,a,b]]=none;rw[qlp,hw];rfl
 | 17,_,_,hl,hw=>
   match as,hl with
   | [a,b],_=>
     show Vbemai.decode [[17,a,b]]=none;rw[qlq,hw];rfl
 | 18,_,_,hl,hw=>
   match as,hl with
   | [m],_=>
     show Vbemai.decode [[18,m]]=none;rw[qlr,hw];rfl
 | 19,_,_,hl,hw=>
   match as,hl with
   | [m,r],_=>
     show Vbemai.decode [[19,m,r]]=none;rw[qls,hw];rfl
 | 20,_,_,hl,hw=>
   match as,hl with
   | [t],_=>
     show Vbemai.decode [[20,t]]=none;rw[qlu,hw];rfl
 | 21,_,_,hl,hw=>
   match as,hl with
   | [a,b],_=>
     show Vbemai.decode [[21,a,b]]=none;rw[qlv,hw];rfl
 | 22,_,_,hl,hw=>
   match as,hl with
   |[],_=>exact nomatch hw
 |n+23,_,h,_,_=>omega
theorem dec_0(r:List Int): Vbemai.decode [[0],r]=Vbemai.guard (decide (1<=r.length)&&(decide (r.length<=96)&&r.all fun w=>Vbemai.inside w 0 1000)) (.profile (r.map Int.toNat)):=rfl
theorem Fn.v{k:Nat}{x:Str}{ps:List Str}{sp:Sp}{u:Addr}(F:Fn P w K mg base k x ps sp)(h:mg x=some (.ref u)): FnV P w K mg base k u ps sp:=by
 obtain⟨f,fd,h1,h2,h3,h4⟩:=F.ex;rw[h] at h2;cases h2;exact⟨fd,h1,h3,h4⟩
def rCV(X:Cx)(j:Nat)(t:TA)(σ:St)(Q:VK)(x:V)(H1:Hp): Prop:=∃ f k ps sp,x = .ref f/\k<=j/\FnV X.prog X.w X.K X.mg X.base k f ps sp/\t σ H1 fun vs H2=>sp vs H2 Q E0
theorem qqi{X:Cx}{j:Nat}{tf:TE}{t:TA}{σ:St}{H:Hp}{Q:VK}(h:tf σ H fun x H1=>rCV X j t σ Q x H1): qvo X j tf t σ H Q:=h
theorem qbk{X:Cx}{j k:Nat}{t:TA}{σ:St}{Q:VK}{u:Addr}{H1:Hp}{ps:List Str}{sp:Sp}(hk:k<=j)(F:FnV X.prog X.w X.K X.mg X.base k u ps sp)(h:t σ H1 fun vs H2=>sp vs H2 Q E0): rCV X j t σ Q (.ref u) H1:=⟨u,k,ps,sp,rfl,hk,F,h⟩
theorem q1i(T:Txt P w K mg A):
  Fn P w K mg base 8 "change" ["book","number","given"] (qha A 0 8):=by
 refine T.qy6.go q64 (fun _ _ _ _ h=>?_) (fun _ _ _ _ _ H _ Q _ hr h=>?_)
 ·obtain⟨st,b,g,c,n,rfl,_⟩:=h;rfl
 ·obtain⟨st,b,g,c,n,rfl,h1,h2,B,hga,hG,q⟩:=h;refine⟨_,(vm (qr0 hr (qh9 T.q3p rfl kr (fun _ _=>rfl)) (k6 kj ku))),?_⟩;dsimp only[qcp];refine qmf ?_;refine qqi ?_;walk_at "";match n,h1,h2,hG with
  | 0,_,_,hG=>
    obtain⟨u,hu,hmu⟩:=T.c_0;refine qba hu (qbk (by decide:3+1<=7) ((q0v T).v hmu) ?_);walk_at "";exact⟨st,b,g,c,rfl,B,hga,hG,q⟩
  | 1,_,_,hG=>
    obtain⟨u,hu,hmu⟩:=T.c_1;refine qba hu (qbk (by decide:4+1<=7) ((q1n T).v hmu) ?_);walk_at "";exact⟨st,b,g,c,rfl,B,hga,hG,q⟩
  | 2,_,_,hG=>
    obtain⟨u,hu,hmu⟩:=T.c_2;refine qba hu (qbk (by decide:2+1<=7) ((q1w T).v hmu) ?_);walk_at "";exact⟨st,b,g,c,rfl,B,hga,hG,q⟩
  | 3,_,_,hG=>
    obtain⟨u,hu,hmu⟩:=T.c_3;refine qba hu (qbk (by decide:4+1<=7) ((q14 T).v hmu) ?_);walk_at "";exact⟨st,b,g,c,rfl,B,hga,hG,q⟩
  | 4,_,_,hG=>
    obtain⟨u,hu,hmu⟩:=T.c_4;refine qba hu (qbk (by decide:3+1<=7) ((q1z T).v hmu) ?_);walk_at "";exact⟨st,b,g,c,rfl,B,hga,hG,q⟩
  | 5,_,_,hG=>
    obtain⟨u,hu,hmu⟩:=T.c_5;refine qba hu (qbk (by decide:1+1<=7) ((q11 T).v hmu) ?_);walk_at "";exact⟨st,b,g,c,rfl,B,hga,hG,q⟩
  | 6,_,_,hG=>
    obtain⟨u,hu,hmu⟩:=T.c_6;refine qba hu (qbk (by decide:1+1<=7) ((q1f T).v hmu) ?_);walk_at "";exact⟨st,b,g,c,rfl,B,hga,hG,q⟩
  | 7,_,_,hG=>
    obtain⟨u,hu,hmu⟩:=T.c_7;refine qba hu (qbk (by decide:5+1<=7) ((q1s T).v hmu) ?_);walk_at "";exact⟨st,b,g,c,rfl,B,hga,hG,q⟩
  | 8,_,_,hG=>
    obtain⟨u,hu,hmu⟩:=T.c_8;refine qba hu (qbk (by decide:6+1<=7) ((q1u T).v hmu) ?_);walk_at "";exact⟨st,b,g,c,rfl,B,hga,hG,q⟩
  |n+9,_,h,_=>omega
theorem q1v(T:Txt P w K mg A):
  Fn P w K mg base 9 "question" ["book","number","given"] (qha A 9 22):=by
 refine T.qzz.go q7g (fun _ _ _ _ h=>?_) (fun _ _ _ _ _ H _ Q _ hr h=>?_)
 ·obtain⟨st,b,g,c,n,rfl,_⟩:=h;rfl
 ·obtain⟨st,b,g,c,n,rfl,h1,h2,B,hga,hG,q⟩:=h;refine⟨_,(vm (qr0 hr (qh9 T.q3r rfl kr (fun _ _=>rfl)) (k6 kj ku))),?_⟩;dsimp only[qcp];refine qmf ?_;refine qqi ?_;walk_at "";match n,h1,h2,hG with
  | 9,_,_,hG=>
    obtain⟨u,hu,hmu⟩:=T.q_9;refine qba hu (qbk (by decide:1+1<=8) ((q09 T).v hmu) ?_);walk_at "";exact⟨st,b,g,c,rfl,B,hga,hG,q⟩
  | 10,_,_,hG=>
    obtain⟨u,hu,hmu⟩:=T.q_10;refine qba hu (qbk (by decide:1+1<=8) ((q05 T).v hmu) ?_);walk_at "";exact⟨st,b,g,c,rfl,B,hga,hG,q⟩
  | 11,_,_,hG=>
    obtain⟨u,hu,hmu⟩:=T.q_11;refine qba hu (qbk (by decide:5+1<=8) ((q1e T).v hmu) ?_);walk_at "";exact⟨st,b,g,c,rfl,B,hga,hG,q⟩
  | 12,_,_,hG=>
    obtain⟨u,hu,hmu⟩:=T.q_12;refine qba hu (qbk (by decide:5+1<=8) ((q01 T).v hmu) ?_);walk_at "";exact⟨st,b,g,c,rfl,B,hga,hG,q⟩
  | 13,_,_,hG=>
    obtain⟨u,hu,hmu⟩:=T.q_13;refine qba hu (qbk (by decide:5+1<=8) ((q1b T).v hmu) ?_);walk_at "";exact⟨st,b,g,c,rfl,B,hga,hG,q⟩
  | 14,_,_,hG=>
    obtain⟨u,hu,hmu⟩:=T.q_14;refine qba hu (qbk (by decide:2+1<=8) ((q04 T).v hmu) ?_);walk_at "";exact⟨st,b,g,c,rfl,B,hga,hG,q⟩
  | 15,_,_,hG=>
    obtain⟨u,hu,hmu⟩:=T.q_15;refine qba hu (qbk (by decide:7+1<=8) ((q1c T).v hmu) ?_);walk_at "";exact⟨st,b,g,c,rfl,B,hga,hG,q⟩
  | 16,_,_,hG=>
    obtain⟨u,hu,hmu⟩:=T.q_16;refine qba hu (qbk (by decide:6+1<=8) ((q08 T).v hmu) ?_);walk_at "";exact⟨st,b,g,c,rfl,B,hga,hG,q⟩
  | 17,_,_,hG=>
    obtain⟨u,hu,hmu⟩:=T.q_17;refine qba hu (qbk (by decide:6+1<=8) ((q06 T).v hmu) ?_);walk_at "";exact⟨st,b,g,c,rfl,B,hga,hG,q⟩
  | 18,_,_,hG=>
    obtain⟨u,hu,hmu⟩:=T.q_18;refine qba hu (qbk (by decide:5+1<=8) ((q03 T).v hmu) ?_);walk_at "";exact⟨st,b,g,c,rfl,B,hga,hG,q⟩
  | 19,_,_,hG=>
    obtain⟨u,hu,hmu⟩:=T.q_19;refine qba hu (qbk (by decide:5+1<=8) ((q02 T).v hmu) ?_);walk_at "";exact⟨st,b,g,c,rfl,B,hga,hG,q⟩
  | 20,_,_,hG=>
    obtain⟨u,hu,hmu⟩:=T.q_20;refine qba hu (qbk (by decide:5+1<=8) ((q1d T).v hmu) ?_);walk_at "";exact⟨st,b,g,c,rfl,B,hga,hG,q⟩
  | 21,_,_,hG=>
    obtain⟨u,hu,hmu⟩:=T.q_21;refine qba hu (qbk (by decide:1+1<=8) ((q07 T).v hmu) ?_);walk_at "";exact⟨st,b,g,c,rfl,B,hga,hG,q⟩
  | 22,_,_,hG=>
    obtain⟨u,hu,hmu⟩:=T.q_22;refine qba hu (qbk (by decide:0+1<=8) ((q1a T).v hmu) ?_);walk_at "";exact⟨st,b,g,c,rfl,B,hga,hG,q⟩
  |n+23,_,h,_=>omega
  | 0,h,_,_=>omega
  | 1,h,_,_=>omega
  | 2,h,_,_=>omega
  | 3,h,_,_=>omega
  | 4,h,_,_=>omega
  | 5,h,_,_=>omega
  | 6,h,_,_=>omega
  | 7,h,_,_=>omega
  | 8,h,_,_=>omega
def Flat(c:List (List Int))(ns:List Int): Prop:=(∃ n row,c=[[0],row]/\ns=0::n::row/\row.length<=1000)\/∃ (k:Nat) (as:List Int),c=[(k:Int)::as]/\ns=(k:Int)::as/\1<=k/\k<=22/\as.length=(qag k).length
def qu6(A:Ads): Sp:=fun vs H Q _=>∃ (s:Sta) (b:Qad) (cl:Addr) (ns:List Int) (c:List (List Int)),vs=[.ref b.a,.ref cl]/\BAt A H s b/\H cl=some (.lst (vI ns))/\Flat c ns /\
 ∀ H' b' l,Qae A H s b H' (Vbemai.stepNumbers s c).1 b'->H l=none->H' l=some (.lst (vI (Vbemai.stepNumbers s c).2))->Q (.ref l) H'
theorem qjr{H:Hp}{s:Sta}{b:Qad}(B:BAt A H s b){g:Addr}(h:H g=none): g∉ads A s b:=fun z=>by
 obtain⟨c,hc,rfl⟩:=Jk.mp z;rw[B.has c hc] at h;cases h
theorem q59{row:List Int}(h:(row.all fun w=>Vbemai.inside w 0 1000)=true): wts (row.map Int.toNat)=row:=by
 unfold wts;rw[Xy];refine(X8 (g:=id) fun z hz=>?_).trans (Qy _);have:=Wi.mp h z hz;unfold Vbemai.inside at this;rw[Jw,Zb,Zb] at this;show ((z.toNat:Nat):Int)=z;omega
theorem Qae.pre{H H1 H':Hp}{s s':Sta}{b b':Qad}(e:Kh H H1)(k:Qae A H1 s b H' s' b'): Qae A H s b H' s' b':=⟨k.bat,k.ba,fun a o h1 h2=>k.fr a o h1 (e _ _ h2),fun a h=>(k.nw a h).imp id (fun z=>e.free z),(Qav.of_same e).trans k.lv⟩
theorem q0y(T:Txt P w K mg A):
  Fn P w K mg base 10 "answer_call" ["book","call"] (qu6 A):=by
 refine T.qyl.go qut (fun _ _ _ _ h=>?_) (fun _ _ _ _ _ H _ Q _ hr h=>?_)
 ·obtain⟨st,b,cl,ns,c,rfl,_⟩:=h;rfl
 ·obtain⟨st,b,cl,ns,c,rfl,B,hcl,hfl,q⟩:=h;have hu:=qan hr;refine⟨_,(ko (vt 2 qut.nd (k8 (q1t T) hr (vd kr))) (ko (qab (qsc (qef (k8 (q0w T) hr (vd ku)))) (qah (vd (vf T.qxn)))) (ko (qab (PW.pt (qfi (qg1 (qjv hu vo ku)) (qfj (qef (k8 (q1q T) hr (k6 kj (vq hu ku vo))))))) (qah (vd (vf T.qxl)))) (ko (qab (PW.pt (qfi (qef (k8 (q1p T) hr (vd ku))) (qfj (yb qdv (qa1 K kr vh) (vf T.qxo))))) (qah (vd (vf T.qxa)))) (ko (qab (yb qey (qa1 K kr vh) (vf T.qxc)) (k8 (q1i T) hr (qac kj (k6 (qa1 K kr vh) ku)))) (vm (k8 (q1v T) hr (qac kj (k6 (qa1 K kr vh) ku))))))))),?_⟩;rcases hfl with ⟨n,row,rfl,rfl,hrl⟩|⟨k,as,rfl,rfl,hk1,hk2,hal⟩
  ·have hst:Vbemai.stepNumbers st [[0],row]=if (decide (1<=row.length)&&(decide (row.length<=96)&&row.all fun w=>Vbemai.inside w 0 1000))=true then Vbemai.step st (.profile (row.map Int.toNat)) else (st,[-1]):=by
    unfold Vbemai.stepNumbers;rw[dec_0];unfold Vbemai.guard;cases (decide (1<=row.length)&&(decide (row.length<=96)&&row.all fun w=>Vbemai.inside w 0 1000))<;>rfl
   rw[hst] at q;walk_at "in";refine⟨cl,_,rfl,SqL.of hcl,.inl ⟨n,row,rfl,fun H1 g l s1 hg0 hg hl=>?_⟩⟩;have B1:=B.same s1;have hcl1:=s1 _ _ hcl;walk_at "";refine⟨g,rfl,.inl ⟨l,row,hg,hl,hrl,fun H2 s2=>?_⟩⟩;have S2:=s1.trans s2;have B2:=B.same S2;have hg2:=s2 _ _ hg;have hl2:=s2 _ _ hl;have qfv:=s2 _ _ hcl1;walk_at "";cases hin:(decide (1<=row.length)&&(decide (row.length<=96)&&row.all fun w=>Vbemai.inside w 0 1000)) with
   | false=>
     rw[Jc (by rw[hin];exact Jr)] at q;refine qax ?_;walk_at "";intro ll hll;exact q _ b ll (Qae.of_same B (S2.trans (Kh.new hll))) (S2.free hll) kq
   | true=>
     rw[Je hin] at q;refine qa3 ?_;walk_at "";refine qg3 hg2 ?_;walk_at "";refine qa3 ?_;refine qa3 ?_;walk_at "";refine⟨g,_,rfl,hg2,.inl ⟨rfl,?_⟩⟩;walk_at "";refine qa3 ?_;refine qa3 ?_;walk_at "";refine qat (SqL.of qfv) (qap (j:=0) rfl) ?_;walk_at "";refine qax ?_;walk_at "";refine qat (SqL.of qfv) (qap (j:=0) rfl) ?_;walk_at "";simp only[Jw,J9] at hin;have hrn:=q59 hin.2.2;refine⟨st,b,g,.profile (row.map Int.toNat),0,rfl,X3 _,by decide,B2,fun z=>qjr B1 (by
      exfalso;exact qjr B hg0 z) z,⟨l,row.map Int.toNat,rfl,hg2,by rw[hrn];exact hl2,?_⟩,fun H3 b3 l3 k3 hl3 hl3'=>?_⟩
     ·refine⟨by rw[Jd];exact hin.1,by rw[Jd];exact hin.2.1,fun w hw=>?_⟩;obtain⟨z,hz,rfl⟩:=Jk.mp hw;have:=Wi.mp hin.2.2 z hz;unfold Vbemai.inside at this;rw[Jw,Zb,Zb] at this;omega
     ·exact q H3 b3 l3 (k3.pre S2) (S2.free hl3) hl3'
  ·walk_at "in";refine⟨cl,_,rfl,SqL.of hcl,.inr ⟨k,as,rfl,hk1,hk2,hal,fun H1 g s1 hg0 hg=>?_⟩⟩;have B1:=B.same s1;have hcl1:=s1 _ _ hcl;walk_at "";refine⟨g,rfl,.inr ⟨qag k,ve k,as,hg,q3m T k,hal,argN_w k,?_,fun H2 s2=>?_⟩⟩
   ·match k,hk1,hk2 with
    | 1,_,_=>exact(by decide +kernel)
    | 2,_,_=>exact(by decide +kernel)
    | 3,_,_=>exact(by decide +kernel)
    | 4,_,_=>exact(by decide +kernel)
    | 5,_,_=>exact(by decide +kernel)
    | 6,_,_=>exact(by decide +kernel)
    | 7,_,_=>exact(by decide +kernel)
    | 8,_,_=>exact(by decide +kernel)
    | 9,_,_=>exact(by decide +kernel)
    | 10,_,_=>exact(by decide +kernel)
    | 11,_,_=>exact(by decide +kernel)
    | 12,_,_=>exact(by decide +kernel)
    | 13,_,_=>exact(by decide +kernel)
    | 14,_,_=>exact(by decide +kernel)
    | 15,_,_=>exact(by decide +kernel)
    | 16,_,_=>exact(by decide +kernel)
    | 17,_,_=>exact(by decide +kernel)
    | 18,_,_=>exact(by decide +kernel)
    | 19,_,_=>exact(by decide +kernel)
    | 20,_,_=>exact(by decide +kernel)
    | 21,_,_=>exact(by decide +kernel)
    | 22,_,_=>exact(by decide +kernel)
    |n+23,_,h=>omega
   have S2:=s1.trans s2;have B2:=B.same S2;have hg2:GV H2 g k as:=s2 _ _ hg;have qfv:=s2 _ _ hcl1;have hgn:g∉ads A st b:=qjr B hg0;walk_at "";rcases q6n k as hk1 hk2 hal with ⟨hw,hd⟩|⟨c,R⟩
   ·have hst:Vbemai.stepNumbers st [(k:Int)::as]=(st,[-1]):=by unfold Vbemai.stepNumbers;rw[hd]
    rw[hst] at q;rw[hw];refine qax ?_;walk_at "";intro ll hll;exact q _ b ll (Qae.of_same B (S2.trans (Kh.new hll))) (S2.free hll) kq
   have hst:Vbemai.stepNumbers st [(k:Int)::as]=Vbemai.step st c:=by unfold Vbemai.stepNumbers;rw[R.dec]
   rw[hst] at q;have hw:vc (ve k) as=true:=by
    cases e:vc (ve k) as with
    |true=>rfl
    |false=>exact absurd R.dec (by rw[q6o k as hk1 hk2 hal e];exact fun z=>nomatch z)
   rw[hw];refine qa3 ?_;have rest:(∀ n,mtr c=some n->∃ i x,n=i+1/\st.meters[i]?=some x)->qcn (qe3 (tAnd (qd1 (tFn qu8 (qai (yc 2) qa4))) (qd1 (tOp rNe (tOp (qeg K) (yc 1) (tC (.int 0))) (tC (.int 21))))) (qcg (tLst (qai (tC (.int (-11))) qa4))) qe4) (qcn (qe3 (qd1 (tOp (rI0 fun i j=>.bl (decide (i<j))) (tOp (qeg K) (yc 1) (tC (.int 0))) (tC (.int 9)))) (qcg (tFn (qha A 0 8) (qai (yc 0) (qai (tOp (qeg K) (yc 1) (tC (.int 0))) (qai (yc 2) qa4))))) qe4) (qcg (tFn (qha A 9 22) (qai (yc 0) (qai (tOp (qeg K) (yc 1) (tC (.int 0))) (qai (yc 2) qa4)))))) { nx:=fun _ H'=>Q .non H',rt:=Q } [some (.ref b.a),some (.ref cl),some (.ref g)] H2:=fun hm=>by
    have last:back c=false->qcn (qe3 (qd1 (tOp (rI0 fun i j=>.bl (decide (i<j))) (tOp (qeg K) (yc 1) (tC (.int 0))) (tC (.int 9)))) (qcg (tFn (qha A 0 8) (qai (yc 0) (qai (tOp (qeg K) (yc 1) (tC (.int 0))) (qai (yc 2) qa4))))) qe4) (qcg (tFn (qha A 9 22) (qai (yc 0) (qai (tOp (qeg K) (yc 1) (tC (.int 0))) (qai (yc 2) qa4))))) { nx:=fun _ H'=>Q .non H',rt:=Q } [some (.ref b.a),some (.ref cl),some (.ref g)] H2:=fun hb=>by
     have hG:=R.g st H2 g hg2 hm hb;walk_at "";refine qat (SqL.of qfv) (qap (j:=0) rfl) ?_;walk_at "";refine ifD (fun c9=>?_) (fun c9=>?_)
     ·walk_at "";refine qat (SqL.of qfv) (qap (j:=0) rfl) ?_;walk_at "";exact⟨st,b,g,c,k,rfl,X3 _,by omega,B2,hgn,hG,fun H3 b3 l3 k3 hl3 hl3'=>q H3 b3 l3 (k3.pre S2) (S2.free hl3) hl3'⟩
     ·walk_at "";refine qat (SqL.of qfv) (qap (j:=0) rfl) ?_;walk_at "";exact⟨st,b,g,c,k,rfl,by omega,hk2,B2,hgn,hG,fun H3 b3 l3 k3 hl3 hl3'=>q H3 b3 l3 (k3.pre S2) (S2.free hl3) hl3'⟩
    rcases R.t with ⟨ht,hb⟩|⟨a0,b0,ht,hf,hb⟩
    ·walk_at "";refine⟨g,_,rfl,hg2,.inl ⟨ht,?_⟩⟩;walk_at "";refine qa3 ?_;refine qa3 ?_;exact last hb
    ·walk_at "";refine⟨g,_,rfl,hg2,.inr ⟨a0,b0,ht,hf,?_⟩⟩;walk_at "";refine ifD (fun cb=>?_) (fun cb=>?_)
     ·walk_at "";refine qat (SqL.of qfv) (qap (j:=0) rfl) ?_;walk_at "";refine ifN (fun c21=>?_) (fun c21=>?_)
      ·have hbt:back c=true:=by rw[hb,Xm cb,J7 (by omega)];rfl
       have hsb:Vbemai.step st c=(st,[-11]):=q85 hbt fun m hmm=>by
        obtain⟨i,x,e,hx⟩:=hm m hmm;subst e;exact⟨x,QM.meter?_at hx⟩
       rw[hsb] at q;walk_at "";intro ll hll;exact q _ b ll (Qae.of_same B (S2.trans (Kh.new hll))) (S2.free hll) kq
      ·exact last (by rw[hb,Xm (show k=21 by omega)];simp)
     ·refine qa3 ?_;exact last (by rw[hb,J7 cb];rfl)
   rcases R.m with ⟨hm,hv⟩|⟨n,hm,hn1,hv⟩
   ·walk_at "";refine qg3 hg2 ?_;rw[hv];walk_at "";refine qa3 ?_;refine qa3 ?_;exact rest (fun n hn=>by rw[hm] at hn;cases hn)
   ·walk_at "";refine qg3 hg2 ?_;rw[hv];walk_at "";refine qax ?_;walk_at "";refine vp hg2 hv ?_;walk_at "";refine⟨st,b,n,rfl,B2,?_⟩;walk_at "";refine ifD (fun cm=>?_) (fun cm=>?_)
    ·have hsm:Vbemai.step st c=(st,[-3]):=q9c hm (by
      unfold Vbemai.meter?;rw[Jc (by omega)];exact Yn (by omega))
     rw[hsm] at q;walk_at "";intro ll hll;exact q _ b ll (Qae.of_same B (S2.trans (Kh.new hll))) (S2.free hll) kq
    ·refine rest (fun n' hn'=>?_);rw[hm] at hn';cases hn';have hi:n-1<st.meters.length:=by omega
     exact⟨n-1,_,by omega,Jo hi⟩
theorem qwt:∀ k:Nat,QM.qft k=(qag k).length
 | 0=>rfl
 | 1=>rfl
 | 2=>rfl
 | 3=>rfl
 | 4=>rfl
 | 5=>rfl
 | 6=>rfl
 | 7=>rfl
 | 8=>rfl
 | 9=>rfl
 | 10=>rfl
 | 11=>rfl
 | 12=>rfl
 | 13=>rfl
 | 14=>rfl
 | 15=>rfl
 | 16=>rfl
 | 17=>rfl
 | 18=>rfl
 | 19=>rfl
 | 20=>rfl
 | 21=>rfl
 | 22=>rfl
 |n+23=>rfl
def rWh(c:TT)(tb:TS)(D:Ends)(σ:St)(H:Hp): Prop:=∃ W:Nat->St->Hp->Prop,(∃ m,W m σ H)/\∀ m σ H,W m σ H ->
 c σ H fun b H1=>if b=true then ∃ N:St->Hp->Prop,(∀ σ' H',N σ' H'->∃ m',m' < m/\W m' σ' H')/\tb { D with nx:=N,ct:=N,bk:=D.nx } σ H1 else D.nx σ H1
theorem q26{c:TT}{tb:TS}{D:Ends}{σ:St}{H:Hp}(h:rWh c tb D σ H): qvw c tb D σ H:=h
def OnlyFz(H:Hp): Prop:=∀ b,H b=none\/∃ o u,H b=some (.frz o u)
def qkh(K:PySem.W.Frag): Sp:=fun vs H Q _=>∃ (a:Addr) (l:List Int),vs=[.ref a]/\SqL K H a (vI l)/\OnlyFz H/\PyVbemai.answers_asked l=true/\∀ H' r,H' r=some (.lst (vI (PyVbemai.answers l)))->Q (.ref r) H'
def Arg(K:PySem.W.Frag)(A:Ads)(H:Hp)(s:Sta)(b:Qad)(a tl:Addr)(xs:List V): Prop:=(∀ H,SqL K H a xs)\/(Rd H a (.lst xs)/\a∉ads A s b/\a≠tl)
theorem Arg.sq{H:Hp}{s:Sta}{b:Qad}{a tl:Addr}{xs:List V}(h:Arg K A H s b a tl xs): SqL K H a xs:=h.elim (fun z=>z H) fun z=>.inl z.1
theorem Arg.same{H H':Hp}{s:Sta}{b:Qad}{a tl:Addr}{xs:List V}(h:Arg K A H s b a tl xs)(e:Kh H H'): Arg K A H' s b a tl xs:=h.imp id fun z=>⟨Rd.same z.1 e,z.2⟩
theorem Arg.upd{H:Hp}{s:Sta}{b:Qad}{a tl:Addr}{xs:List V}{o:HO}(h:Arg K A H s b a tl xs): Arg K A (L2.upd H tl o) s b a tl xs:=h.imp id fun ⟨z,z1,z2⟩=>⟨by
 rcases z with z|⟨u,z⟩
 ·exact .inl (by rw[qc z2];exact z)
 ·exact .inr ⟨u,by rw[qc z2];exact z⟩,z1,z2⟩
theorem Arg.keep{H H':Hp}{s s':Sta}{b b':Qad}{a tl:Addr}{xs:List V}(h:Arg K A H s b a tl xs)(k:Qae A H s b H' s' b'): Arg K A H' s' b' a tl xs:=h.imp id fun ⟨z,z1,z2⟩=>by
 have hz:∃ o,H a=some o:=by
  rcases z with z|⟨u,z⟩
  ·exact⟨_,z⟩
  ·exact⟨_,z⟩
 refine⟨?_,fun q=>?_,z2⟩
 ·rcases z with z|⟨u,z⟩
  ·exact .inl (k.fr _ _ z1 z)
  ·exact .inr ⟨u,k.fr _ _ z1 z⟩
 ·rcases k.nw a q with q|q
  ·exact z1 q
  ·obtain⟨o,ho⟩:=hz;rw[ho] at q;cases q
theorem qyd(l:List Int)(i e:Nat)(h1:i<=e)(h2:e<=l.length): qcx (vI l) (some (i:Int)) (some (e:Int))=vI ((l.drop i).take (e-i)):=by
 unfold qcx;rw[HT.qj2,HT.qj2,qa9,Nat.min_eq_left (show i<=l.length by omega),Nat.min_eq_left h2];unfold vI;rw[<- List.map_drop,<- Ua]
structure Go(K:PySem.W.Frag)(A:Ads)(l:List Int)(a ba tl:Addr)(H:Hp)(i:Nat)(s:Sta)(b:Qad)(f:Nat)(cs:List (List (List Int)))(acc:List Int)(dn:Nat): Prop where
 le:i<=l.length
 sq:Arg K A H s b a tl (vI l)
 at_:H tl=some (.lst (vI acc))
 tn:tl∉ads A s b
 B:BAt A H s b
 ba:b.a=ba
 pr:PyFlat.calls PyVbemai.shape f (l.drop i)=some cs
 ask:∀ c∈cs,VbemaiNeutral.asked1 c=true
 eq:acc++PyFlat.told (PyFlat.played VbemaiNeutral.step s cs)=PyVbemai.answers l
 len:acc.length<=30012*dn
 few:dn+cs.length<=400
theorem q0z(T:Txt P w K mg A):
  ∀ {f:Addr} {fd:FuncData},Fun K "answers" "answers" qj8 f fd->Qcd P w K mg base CX0 (10+1) f fd ["calls"] (qkh K):=by
 intro f fd F;refine F.ok qf1 (fun vs H Q E h=>?_) (fun cdv Ar outer s H vs Q E hr h=>?_)
 ·obtain⟨a,l,rfl,_⟩:=h;rfl
 ·obtain⟨a,l,rfl,hs,hO,qc1,q⟩:=h;have hcs:∃ f0 cs0,PyFlat.calls PyVbemai.shape f0 l=some cs0/\(∀ c∈cs0,VbemaiNeutral.asked1 c=true)/\cs0.length<=400/\PyVbemai.answers l=PyFlat.told (PyFlat.played VbemaiNeutral.step VbemaiNeutral.start cs0):=by
   unfold PyVbemai.answers_asked at qc1;unfold PyVbemai.answers;cases hc:PyVbemai.calls l with
   |none=>rw[hc] at qc1;cases qc1
   | some cs=>
     rw[hc] at qc1;unfold PyVbemai.calls at hc;cases hc2:PyFlat.calls PyVbemai.shape l.length l with
     |none=>rw[hc2] at hc;cases hc
     | some cs0=>
       rw[hc2] at hc;have hc:cs0.map PyVbemai.whole=cs:=Jj hc;have e:cs0.map PyVbemai.whole=cs0:=QM.zaz hc2;rw[e] at hc;subst hc;have qc1:(PyFlat.atMost 400 cs0&&VbemaiNeutral.asked cs0)=true:=qc1;rw[Jw] at qc1;unfold VbemaiNeutral.asked at qc1;rw[Jw,Wi] at qc1;exact⟨_,cs0,hc2,qc1.2.1,Zl qc1.1,rfl⟩
  obtain⟨f0,cs0,hc0,hal0,hlen0,qdg⟩:=hcs;refine⟨_,(ko (vt 1 qf1.nd (pe_mk0 (qx5 T) hr)) (ko (vt 2 qf1.nd (qah qh7)) (ko (vt 3 qf1.nd vh) (ko (q5z Ys (yb qey ya (x_len T.qbd kj)) (ko (vt 4 qf1.nd (k8 (q1h T) hr (k6 kj ya))) (ko (vt 5 qf1.nd (k8 (q0y T) hr (k6 kr (qib qip kj (qgx ya) (qgx qa0))))) (ko (qb5 (qce Xe Xv Xw qdk ku (vd (x_len T.qbd qb6)))) (ko (qb5 (qce Xe Wl Wm qjp ku (vd qb6))) (qbg (vt 3 qf1.nd qa0))))))) (vm ku))))),?_⟩;dsimp only[qcp];refine i_seq ?_;refine i_asg ?_;refine i_mk ?_;refine i_nil ?_;intro p pdx hp hpdx hpp;refine⟨p,pdx,rfl,kq,fun H1 b0 b1 hba B1 hnew=>⟨rfl,?_⟩⟩;have S1:Kh H H1:=fun b o h=>b1 b o (vz h hp) (by rw[qc (vz h hp),qc (vz h hpdx)];exact h);walk_at "";intro tl htl;have s2:=Kh.new (o:=.lst []) htl;have B2:=B1.same s2;have htl2:upd H1 tl (.lst []) tl=some (.lst (vI [])):=kq;have hS2:=(S1.trans s2).seq hs;have hArg:Arg K A (upd H1 tl (.lst [])) Vbemai.start b0 a tl (vI l):=by
   rcases hs with hs|hs
   ·right
    have hso:∃ o,H a=some o:=by
     rcases hs with z|⟨u,z⟩
     ·exact⟨_,z⟩
     ·exact⟨_,z⟩
    obtain⟨o,ho⟩:=hso;have hatl:a≠tl:=vz (S1 _ _ ho) htl;refine⟨Rd.same (Rd.same hs S1) s2,fun hz=>?_,hatl⟩;obtain⟨c,hc,hca⟩:=Jk.mp hz;rcases hnew c hc with z|z
    ·rw[<- hca,z] at ho;rw[hp] at ho;cases ho
    ·have n1:c.1≠p:=by intro e;rw[e,kq] at z;cases z
     rw[qc n1] at z;have n2:c.1≠pdx:=by intro e;rw[e,kq] at z;cases z
     rw[qc n2] at z;rw[<- hca,z] at ho;cases ho
   ·exact .inl fun H=>.inr hs
  have htn:tl∉ads A Vbemai.start b0:=qjr B1 htl;generalize upd H1 tl (.lst [])=H2 at *
  walk_at "";refine q26 ?_;refine⟨fun m σ H'=>∃ i s b f cs acc dn v4 v5,m=l.length-i/\Go K A l a b0.a tl H' i s b f cs acc dn/\σ=[some (.ref a),some (.ref b0.a),some (.ref tl),some (.int (i:Int)),v4,v5],⟨l.length,0,Vbemai.start,b0,f0,cs0,[],0,none,none,rfl,?_,by rw[hba];rfl⟩,?_⟩
  ·exact⟨X3 _,hArg,htl2,htn,B2,rfl,by rw[List.drop_zero];exact hc0,hal0,by rw[qdg];rfl,X3 _,by omega⟩
  ·rintro m σ H' ⟨i,s,b,f,cs,acc,dn,v4,v5,rfl,g,rfl⟩;have hsq:=g.sq.sq;walk_at "";refine qbb (qbz hsq) ?_;rw[qa9];walk_at "";refine ifD (fun c=>?_) (fun c=>?_)
   ·have hi:i<l.length:=by omega
    have hdr:l.drop i=l[i]::l.drop (i+1):=Um hi;have hpi:l[i]?=some l[i]:=Jo hi;have hpr:=g.pr;rw[hdr] at hpr;obtain⟨cc,t,cs',f',hcall,qjh,hcs'⟩:=QM.qpa hpr;have hstep:=QM.q9v (c:=cc) g.B.good;have qjg:=g.ask cc (by rw[qjh];exact Jh ..);have key:∀ (e:Nat) (ns:List Int),i<e->e<=l.length->(l.drop i).take (e-i)=ns->Flat cc ns->t=l.drop e ->
      (∀ Q':VK,Q' (.int (e:Int)) H'->qn1 K [.ref a,.int (i:Int)] H' Q' E0) ->
      ∃ N:St->Hp->Prop,(∀ σ' H'',N σ' H''->∃ m',m' < l.length-i/\∃ i s b f cs acc dn v4 v5,m'=l.length-i/\Go K A l a b0.a tl H'' i s b f cs acc dn/\σ'=[some (.ref a),some (.ref b0.a),some (.ref tl),some (.int (i:Int)),v4,v5]) /\
        qcn (qei (tFn (qn1 K) (qai (yc 0) (qai (yc 3) qa4))) (qcl 4)) (qcn (qei (tFn (qu6 A) (qai (yc 1) (qai (tSl (rSlL K) (yc 0) (qkl (yc 3)) (qkl (yc 4))) qa4))) (qcl 5)) (qcn (qkk (tBM K "list" qng (yc 2) (qai (tCB (rLen K) (qai (yc 5) qa4)) qa4))) (qcn (qkk (tBM K "list" qnh (yc 2) (qai (yc 5) qa4))) (qei (yc 4) (qcl 3)))))
         { nx:=N,rt:=Q,ct:=N,bk:=qcg (yc 2) { nx:=fun _ H'=>Q .non H',rt:=Q } } [some (.ref a),some (.ref b0.a),some (.ref tl),some (.int (i:Int)),v4,v5] H':=by
     intro e ns hie hel hns hfl ht hce;refine⟨fun σ' H''=>∃ b' v5,Go K A l a b0.a tl H'' e (Vbemai.stepNumbers s cc).1 b' f' cs' (acc++((Vbemai.stepNumbers s cc).2.length:Int)::(Vbemai.stepNumbers s cc).2) (dn+1)/\σ'=[some (.ref a),some (.ref b0.a),some (.ref tl),some (.int (e:Int)),some (.int (e:Int)),v5],?_,?_⟩
     ·rintro σ' H'' ⟨b',v5',g',rfl⟩;exact⟨l.length-e,by omega,e,_,b',f',cs',_,dn+1,_,v5',rfl,g',rfl⟩
     ·walk_at "";refine hce _ ?_;walk_at "";refine qig hsq fun cl hcl=>?_;rw[qyd l i e (by omega) hel,hns];have s3:=Kh.new (o:=.lst (vI ns)) hcl;have hcl3:upd H' cl (.lst (vI ns)) cl=some (.lst (vI ns)):=kq;have B3:=g.B.same s3;have at3:=s3 _ _ g.at_;have sq3:=g.sq.same s3;generalize upd H' cl (.lst (vI ns))=H3 at *
      walk_at "";refine⟨s,b,cl,ns,cc,by rw[g.ba],B3,hcl3,hfl,fun H4 b' ll k4 hll hll4=>?_⟩;have at4:=k4.fr _ _ g.tn at3;have sq4:=sq3.keep k4;have hlt:ll≠tl:=(vz at3 hll).symm;have tn4:tl∉ads A (Vbemai.stepNumbers s cc).1 b':=fun z=>by
       rcases k4.nw _ z with z|z
       ·exact g.tn z
       ·rw[at3] at z;cases z
      have hlen:=g.len;have hfew:=g.few;rw[qjh,Jz] at hfew;walk_at "";refine qbb (qbz (SqL.of hll4)) ?_;rw[qa9];walk_at "";refine qc5 at4 (small 13000000 (by rw[qa9];omega)) ?_;walk_at "";refine qj1 kq (by rw[qc hlt];exact hll4) (Xj (small 13000000 (by rw[Jx,qa9,qa9];simp only[Jz,Y3];omega))) ?_;rw[qbt];walk_at "";refine⟨b',_,⟨hel,sq4.upd,?_,tn4,?_,by rw[k4.ba];exact g.ba,by rw[<- ht];exact hcs',fun c hc=>g.ask c (by rw[qjh];exact Jm _ hc),?_,?_,by omega⟩,rfl⟩
      ·rw[kq];simp[vI]
      ·refine⟨k4.bat.good,fun c hc=>?_,k4.bat.nd,k4.bat.lp,k4.bat.lm,k4.bat.lq,k4.bat.mr⟩;have:c.1≠tl:=fun z=>tn4 (z ▸ Jk.mpr ⟨c,hc,rfl⟩);rw[qc this];exact k4.bat.has c hc
      ·rw[<- g.eq,qjh,Yv];exact Yk (acc ++ ·) (QM.q95 _ _).symm
      ·rw[Jx,Jz];omega
    rcases QM.qx0 hcall with ⟨hp0,n,r',hr,hnl,hcc,ht⟩|⟨k,hpk,hk1,hk2,hkl,hcc,ht⟩
    ·have hl1:l[i+1]?=some (n:Int):=by
      have:(l.drop (i+1))[0]?=some (n:Int):=by rw[hr];rfl
      rw[List.getElem?_drop] at this;exact this
     have hdl:(l.drop (i+1)).length=l.length-(i+1):=Qg;rw[hr,Jz] at hdl;refine key (i+2+n) (0::(n:Int)::r'.take n) (by omega) (by omega) ?_ (.inl ⟨n,r'.take n,hcc,rfl,?_⟩) ?_ ?_
     ·rw[hdr,hp0,hr];have e:i+2+n-i=n+1+1:=by omega
      rw[e];rfl
     ·rw[hcc] at qjg;have qjg:((r'.take n).all (fun (z:Int)=>VbemaiNeutral.whole60 z)&&decide ((r'.take n).length<=200))=true:=qjg;rw[Jw,Zb] at qjg;omega
     ·rw[ht];have:l.drop (i+2+n)=((l.drop (i+1)).drop 1).drop n:=by rw[List.drop_drop,List.drop_drop];congr 1;omega
      rw[this,hr];rfl
     ·intro Q' hq';exact⟨a,l,i,_,rfl,hsq,hpi,.inl ⟨hp0,n,hl1,hq'⟩⟩
    ·have hdl:(l.drop (i+1)).length=l.length-(i+1):=Qg;rw[qwt] at hkl hcc ht;refine key (i+1+(qag k).length) ((k:Int)::(l.drop (i+1)).take (qag k).length) (by omega) (by omega) ?_ (.inr ⟨k,_,hcc,rfl,hk1,hk2,by rw[Zs];omega⟩) ?_ ?_
     ·rw[hdr,hpk];have e:i+1+(qag k).length-i=(qag k).length+1:=by omega
      rw[e];rfl
     ·rw[ht,List.drop_drop]
     ·intro Q' hq';exact⟨a,l,i,_,rfl,hsq,hpi,.inr ⟨k,hpk,hk1,hk2,hq'⟩⟩
   ·walk_at "";have hi:i=l.length:=by have:=g.le;omega
    have hpr:=g.pr;rw[hi,List.drop_length] at hpr;have hcs:=QM.qpb hpr;have heq:=g.eq;rw[hcs] at heq;have heq:acc++[]=PyVbemai.answers l:=heq;rw[Y7] at heq;refine q H' tl ?_;rw[<- heq];exact g.at_
section
variable {P:Program} {w:World} {K:PySem.W.Frag} {mg:Str->Option Value} {A:Ads}
theorem tree(T:Txt P w K mg A){f:Addr}{fd:FuncData}(F:Fun K "answers" "answers" qj8 f fd)(base:Heap): Qcd P w K mg base CX0 (10+1) f fd ["calls"] (qkh K):=by
 exact q0z T F
end
section
open PySem.W (nsIn findIn isFn codeIn keepIn makesIn plainGet hasDictIn plainOver mg_of mg_none_of)
variable {P:Program} {w:World} {K:PySem.W.Frag} {h:Heap} {mg:Str->Option Value} {A:Ads} {Go:Prop}
theorem w_int{n:Str}{i:Int}{t:Tok}(X:K.In h)(G:h.Ns mainGlobals mg)(e:nsIn K mainGlobals n=some (some (.int i t))): GI mg n i:=⟨t,mg_of X G e⟩
theorem w_no{n:Str}(X:K.In h)(G:h.Ns mainGlobals mg)(e:nsIn K mainGlobals n=some none): mg n=none:=mg_none_of X G e
theorem w_fn{x:Str}{st:Stmt}{f:Addr}{oc:Value}{od an:Option Addr}{osl:Array (Option Value)}{kV doc pm cdv ct:Value}(X:K.In h)(G:h.Ns mainGlobals mg)(a:nsIn K mainGlobals x=some (some (.ref f)))
  (l:K.lookup f=some ⟨oc,od,.func (PySem.W.fnOf x x (qen st) (qcz st) (k7 st) .none kV doc pm an cdv ct),osl⟩)(cd:codeIn K cdv x=true)(k:keepIn K (.ref f)=true): Dfn K mg x st:=⟨f,_,qp9 (st:=st) l cd k,mg_of X G a⟩
theorem qhk{x q:Str}{st:Stmt}{C f:Addr}{oc:Value}{od an:Option Addr}{osl:Array (Option Value)}{kV doc pm cdv ct:Value}(X:K.In h)(G:h.Ns mainGlobals mg)(aC:nsIn K mainGlobals x=some (some (.ref C)))
  (a1:findIn K (.ref C) "__init__" = some (some (.ref f)))(i1:isFn K (.ref f)=true)(l:K.lookup f=some ⟨oc,od,.func (PySem.W.fnOf "__init__" q (qen st) (qcz st) (k7 st) .none kV doc pm an cdv ct),osl⟩)(cd:codeIn K cdv q=true)(k:keepIn K (.ref f)=true)
  (pg:plainGet K C Str.empty=true)(hd:hasDictIn K C=true)(po:plainOver K C=true)(sa:findIn K (.ref C) "__setattr__" = some (some (.builtin "object.__setattr__")))(mk:makesIn K C=true)(kc:keepIn K (.ref C)=true)(c:Dcl K mg x q C st->Cls K C->Go): Go:=
 c ⟨f,_,qp9 (st:=st) l cd k,⟨mk,a1,i1,kc⟩,mg_of X G aC⟩ ⟨pg,hd,po,sa⟩
theorem qhl{C D:Addr}{f:Str}(_:Cls K C)(hc:D=C)(e:findIn K (.ref C) f=some none): Qal K D f:=by rw[hc];exact e
def KL(w:World): List DictEntry->List Key->Prop
 |[],[]=>True
 |e::es,k::ks=>(qbr k e.key=true/\e.hash=keyH w k)/\KL w es ks
 |_,_=>False
theorem KL.mem{w:World}: ∀ {es:List DictEntry} {ks:List Key},KL w es ks->∀ e∈es,∃ k,qbr k e.key=true/\e.hash=keyH w k
 |[],_,_,_,h=>by cases h
 |e::es,[],h,_,_=>h.elim
 | e::es,k::ks,h,e',he=>by
   rcases Jf.mp he with rfl|he
   ·exact⟨k,h.1⟩
   ·exact KL.mem h.2 e' he
theorem KL.find{w:World}: ∀ {es:List DictEntry} {ks:List Key} {i:Nat} {k:Key} {e:DictEntry},KL w es ks->ks.Nodup->ks[i]?=some k->es[i]?=some e->es.find? (fun e=>qbr k e.key)=some e
 |[],_,i,k,e,_,_,_,h=>by simp at h
 |e0::es,[],_,_,_,h,_,_,_=>h.elim
 | e0::es,k0::ks,0,k,e,h,hn,hk,he=>by
   simp at hk he;subst hk;subst he;rw[Yg,h.1.1]
 | e0::es,k0::ks,i+1,k,e,h,hn,hk,he=>by
   have hn2:=Xf.mp hn;have hk2:ks[i]?=some k:=by simpa using hk
   have h0:qbr k e0.key=false:=by
    cases q:qbr k e0.key with
    |false=>rfl
    | true=>
      have:=(qao default w).inj e0.key k k0 q h.1.1;subst this;exact absurd (J0 hk2) hn2.1
   rw[Yg,h0];exact KL.find h.2 hn2.2 hk2 (by simpa using he)
structure GDs(w:World)(K:PySem.W.Frag)(a:Addr)(es:Array DictEntry)(ks:List Key): Prop where
 l:∃ n,K.lookup a=some ⟨.type "dict",none,.dict es n,#[]⟩
 k:KL w es.toList ks
 n:ks.Nodup
theorem GDs.at{a:Addr}{es:Array DictEntry}{ks:List Key}(g:GDs w K a es ks)(i:Nat){k:Key}{hh:Int}{kv u:Value}(h1:ks[i]?=some k)(h2:es.toList[i]?=some ⟨hh,kv,u⟩): Vn P w K a k u:=by
 obtain⟨n,hl⟩:=g.l;refine⟨es,n,hl,fun e he=>g.k.mem e (Array.mem_toList_iff.mpr he),?_⟩;unfold findBy;obtain⟨l⟩:=es;have h:=g.k.find g.n h1 h2;rw[List.find?_toArray];have h:l.find? (fun e=>qbr k e.key)=some ⟨hh,kv,u⟩:=h;rw[h];rfl
theorem qix{x:Str}{a:Addr}{es:Array DictEntry}{n:Nat}(ks:List Key)(X:K.In h)(G:h.Ns mainGlobals mg)(e:nsIn K mainGlobals x=some (some (.ref a)))(l:K.lookup a=some ⟨.type "dict",none,.dict es n,#[]⟩)(k:KL w es.toList ks)(nd:ks.Nodup)
  (c:mg x=some (.ref a)->GDs w K a es ks->Go): Go:=c (mg_of X G e) ⟨⟨n,l⟩,k,nd⟩
theorem qvf{u:Addr}{od:Option Addr}{its:Array Value}{n:Nat}{sl:Array (Option Value)}{xs:List V}(l:K.lookup u=some ⟨.type "tuple",od,.seq its n,sl⟩)(hz:its.size<=1000)(hv:Vals xs its.toList): ∀ H,SqT K H u xs:=
 fun H=>.inr ⟨_,its,n,l,rfl,rfl,Xj (qa8 hz),hv⟩
theorem qbx{x:Str}{lo hi:Int}{a u:Addr}{es:Array DictEntry}{ks:List Key}(i:Nat){hh:Int}{kv:Value}{od:Option Addr}{n:Nat}{sl:Array (Option Value)}{t1 t2:Tok}(g:GDs w K a es ks)(h1:ks[i]?=some (Sum.inr x))(h2:es.toList[i]?=some ⟨hh,kv,.ref u⟩)
  (l:K.lookup u=some ⟨.type "tuple",od,.seq #[.int lo t1,.int hi t2] n,sl⟩): ∃ u,Vn P w K a (Sum.inr x) (.ref u)/\∀ H,SqT K H u [.int lo,.int hi]:=
 ⟨u,g.at i h1 h2,qvf l (by simp) (.cons ⟨_,rfl⟩ (.cons ⟨_,rfl⟩ .nil))⟩
theorem w_arg{k:Int}{a u:Addr}{es:Array DictEntry}{ks:List Key}(i:Nat){hh:Int}{kv:Value}{od:Option Addr}{its:Array Value}{n:Nat}{sl:Array (Option Value)}{xs:List V}(g:GDs w K a es ks)(h1:ks[i]?=some (Sum.inl k))(h2:es.toList[i]?=some ⟨hh,kv,.ref u⟩)
  (l:K.lookup u=some ⟨.type "tuple",od,.seq its n,sl⟩)(hv:Vals xs its.toList)(hz:its.toList.length<=1000): ∃ u,Vn P w K a (Sum.inl k) (.ref u)/\∀ H,SqT K H u xs:=
 ⟨u,g.at i h1 h2,qvf l (by simpa using hz) hv⟩
theorem qbh{k:Int}{x:Str}{a u:Addr}{es:Array DictEntry}{ks:List Key}(i:Nat){hh:Int}{kv:Value}(X:K.In h)(G:h.Ns mainGlobals mg)(g:GDs w K a es ks)(h1:ks[i]?=some (Sum.inl k))(h2:es.toList[i]?=some ⟨hh,kv,.ref u⟩)(m:nsIn K mainGlobals x=some (some (.ref u))):
  ∃ u,Vn P w K a (Sum.inl k) (.ref u)/\mg x=some (.ref u):=⟨u,g.at i h1 h2,mg_of X G m⟩
theorem fin(T:Txt P w K mg A){fa:Addr}(hmg:mg "answers" = some (.ref fa)): ∃ fd:FuncData,(∀ (s:Shared) (us:List Value),us.length=(["calls"]:List Str).length->BindsTo s fd ⟨us,[]⟩ ((["calls"]:List Str).zip us))/\∀ base:Heap,K.In base->base.Ns mainGlobals mg->Qcd P w K mg base CX0 (10+1) fa fd ["calls"] (qkh K):=by
 obtain⟨f,fd,F,hm⟩:=T.qym.ex;rw[hmg] at hm;cases hm;refine⟨fd,?_,fun base _ _=>tree T F base⟩;obtain⟨oc,od,kV,doc,pm,an,cdv,ct,osl,rfl,lk,hcd⟩:=F.ex;exact fun s us hu=>match us,hu with|[_],_=>.of_eq rfl
end
end L2.QP
open PySem PySem.W PyProof.Rows
local macro_rules | `(tactic|walk_at "e1")=>`(tactic|any_goals k_is)
local macro_rules | `(tactic|walk_at "e3")=>`(tactic|any_goals (first|k_is|exact rfl))
local macro_rules | `(tactic|walk_at "e5")=>`(tactic|any_goals (first|k_is|((refine⟨⟨rfl,rfl⟩,?_⟩);(repeat (first|exact True.intro|refine⟨⟨rfl,rfl⟩,?_⟩)))|decide +kernel))
local macro_rules | `(tactic|walk_at "e6")=>`(tactic|any_goals (first|k_is|exact rfl|((refine .cons ⟨_,rfl⟩ ?_);(repeat (first|exact .nil|refine .cons ⟨_,rfl⟩ ?_)))|exact .nil|exact Nat.le_of_ble_eq_true rfl))
open L2.QP (w_int w_no w_fn qhk qhl qix qbx w_arg qbh qj7 qj5 qj6 qj3 qj4)
set_option maxRecDepth 100000 in
set_option maxHeartbeats 0 in
theorem PySem.Challenge.cw_quartermeters_s01_answers_holds : PySem.Challenge.rw_quartermeters_s01_answers.Holds := by
 refine HH.head ?_;k_fillS
 refine L2.zaw (r:=PySem.Challenge.rw_quartermeters_s01_answers) (K:=HH.K0) (k:=11) (CX:=L2.CX0) (ps:=["calls"]) (sp:=L2.QP.qkh) (by decide +kernel) HH.dd rfl ⟨rfl,by decide,by decide⟩ (fun _ _ Y=>Y) ?F ?S (fun _ _ _ _ z=>z);case S=>
  intro K H xs a hO hwi qc1 hx;cases hx with
  | cons h1 h2=>
    cases h2;cases h1 with
    | lst hs ha=>
      have e:=L2.qqq a.1 _ ha;subst e;exact⟨_,a.1,rfl,hs,hO,qc1,fun H' p hp=>.lst (L2.SqL.of hp) (L2.qpu _)⟩
 case F=>
  intro w mg fa h Y KX G hmg;rw[HH.dn] at hmg;refine' qhk (x:= "Profile") (q:= "Profile.__init__") (st:=qj7) KX G ?_ ?_ ?_ ?_ ?_ ?_ ?_ ?_ ?_ ?_ ?_ ?_ (fun _ c1=>?_);walk_at "e1";refine' qhk (x:= "Dial") (q:= "Dial.__init__") (st:=qj5) KX G ?_ ?_ ?_ ?_ ?_ ?_ ?_ ?_ ?_ ?_ ?_ ?_ (fun _ c2=>?_);walk_at "e1";refine' qhk (x:= "Meter") (q:= "Meter.__init__") (st:=qj6) KX G ?_ ?_ ?_ ?_ ?_ ?_ ?_ ?_ ?_ ?_ ?_ ?_ (fun _ c3=>?_);walk_at "e1";refine' qhk (x:= "Book") (q:= "Book.__init__") (st:=qj3) KX G ?_ ?_ ?_ ?_ ?_ ?_ ?_ ?_ ?_ ?_ ?_ ?_ (fun _ c4=>?_);walk_at "e1";refine' qhk (x:= "Course") (q:= "Course.__init__") (st:=qj4) KX G ?_ ?_ ?_ ?_ ?_ ?_ ?_ ?_ ?_ ?_ ?_ ?_ (fun _ c5=>?_);walk_at "e1";refine' qix (w:=w) (x:= "LIMITS") [Sum.inr "weights",Sum.inr "kind",Sum.inr "zone",Sum.inr "second",Sum.inr "boundary",Sum.inr "digits",Sum.inr "factor",Sum.inr "start",Sum.inr "end",Sum.inr "profile",Sum.inr "rate",Sum.inr "meter",Sum.inr "version",Sum.inr "value",Sum.inr "quarter",Sum.inr "hand",Sum.inr "from",Sum.inr "to",Sum.inr "most"] KX G ?_ ?_ ?_ ?_ (fun _ g1=>?_);walk_at "e5";refine' qix (w:=w) (x:= "ARGUMENTS") [Sum.inl 1,Sum.inl 2,Sum.inl 3,Sum.inl 4,Sum.inl 5,Sum.inl 6,Sum.inl 7,Sum.inl 8,Sum.inl 9,Sum.inl 10,Sum.inl 11,Sum.inl 12,Sum.inl 13,Sum.inl 14,Sum.inl 15,Sum.inl 16,Sum.inl 17,Sum.inl 18,Sum.inl 19,Sum.inl 20,Sum.inl 21,Sum.inl 22] KX G ?_ ?_ ?_ ?_ (fun _ g2=>?_);walk_at "e5";refine' qix (w:=w) (x:= "CHANGES") [Sum.inl 0,Sum.inl 1,Sum.inl 2,Sum.inl 3,Sum.inl 4,Sum.inl 5,Sum.inl 6,Sum.inl 7,Sum.inl 8] KX G ?_ ?_ ?_ ?_ (fun _ g3=>?_);walk_at "e5";refine' qix (w:=w) (x:= "QUESTIONS") [Sum.inl 9,Sum.inl 10,Sum.inl 11,Sum.inl 12,Sum.inl 13,Sum.inl 14,Sum.inl 15,Sum.inl 16,Sum.inl 17,Sum.inl 18,Sum.inl 19,Sum.inl 20,Sum.inl 21,Sum.inl 22] KX G ?_ ?_ ?_ ?_ (fun _ g4=>?_);walk_at "e5";refine' L2.QP.fin (A:=⟨_,_,_,_,_,_,_,_,_⟩) ?T hmg;case T=>
   constructor;all_goals first|with_reducible assumption|(refine' w_int KX G ?_;walk_at "e1";done)|(refine' w_no KX G ?_;k_is)|(refine' w_fn KX G ?_ ?_ ?_ ?_;walk_at "e1";done)|((first|refine' qhl c1 rfl ?_|refine' qhl c2 rfl ?_|refine' qhl c3 rfl ?_|refine' qhl c4 rfl ?_|refine' qhl c5 rfl ?_);k_is)|skip
   ·refine' qbx 0 g1 ?_ ?_ ?_;walk_at "e3"
   ·refine' qbx 1 g1 ?_ ?_ ?_;walk_at "e3"
   ·refine' qbx 2 g1 ?_ ?_ ?_;walk_at "e3"
   ·refine' qbx 3 g1 ?_ ?_ ?_;walk_at "e3"
   ·refine' qbx 4 g1 ?_ ?_ ?_;walk_at "e3"
   ·refine' qbx 5 g1 ?_ ?_ ?_;walk_at "e3"
   ·refine' qbx 6 g1 ?_ ?_ ?_;walk_at "e3"
   ·refine' qbx 7 g1 ?_ ?_ ?_;walk_at "e3"
   ·refine' qbx 8 g1 ?_ ?_ ?_;walk_at "e3"
   ·refine' qbx 9 g1 ?_ ?_ ?_;walk_at "e3"
   ·refine' qbx 10 g1 ?_ ?_ ?_;walk_at "e3"
   ·refine' qbx 11 g1 ?_ ?_ ?_;walk_at "e3"
   ·refine' qbx 12 g1 ?_ ?_ ?_;walk_at "e3"
   ·refine' qbx 13 g1 ?_ ?_ ?_;walk_at "e3"
   ·refine' qbx 14 g1 ?_ ?_ ?_;walk_at "e3"
   ·refine' qbx 15 g1 ?_ ?_ ?_;walk_at "e3"
   ·refine' qbx 16 g1 ?_ ?_ ?_;walk_at "e3"
   ·refine' qbx 17 g1 ?_ ?_ ?_;walk_at "e3"
   ·refine' qbx 18 g1 ?_ ?_ ?_;walk_at "e3"
   ·refine' w_arg 0 g2 ?_ ?_ ?_ ?_ ?_;walk_at "e6"
   ·refine' w_arg 1 g2 ?_ ?_ ?_ ?_ ?_;walk_at "e6"
   ·refine' w_arg 2 g2 ?_ ?_ ?_ ?_ ?_;walk_at "e6"
   ·refine' w_arg 3 g2 ?_ ?_ ?_ ?_ ?_;walk_at "e6"
   ·refine' w_arg 4 g2 ?_ ?_ ?_ ?_ ?_;walk_at "e6"
   ·refine' w_arg 5 g2 ?_ ?_ ?_ ?_ ?_;walk_at "e6"
   ·refine' w_arg 6 g2 ?_ ?_ ?_ ?_ ?_;walk_at "e6"
   ·refine' w_arg 7 g2 ?_ ?_ ?_ ?_ ?_;walk_at "e6"
   ·refine' w_arg 8 g2 ?_ ?_ ?_ ?_ ?_;walk_at "e6"
   ·refine' w_arg 9 g2 ?_ ?_ ?_ ?_ ?_;walk_at "e6"
   ·refine' w_arg 10 g2 ?_ ?_ ?_ ?_ ?_;walk_at "e6"
   ·refine' w_arg 11 g2 ?_ ?_ ?_ ?_ ?_;walk_at "e6"
   ·refine' w_arg 12 g2 ?_ ?_ ?_ ?_ ?_;walk_at "e6"
   ·refine' w_arg 13 g2 ?_ ?_ ?_ ?_ ?_;walk_at "e6"
   ·refine' w_arg 14 g2 ?_ ?_ ?_ ?_ ?_;walk_at "e6"
   ·refine' w_arg 15 g2 ?_ ?_ ?_ ?_ ?_;walk_at "e6"
   ·refine' w_arg 16 g2 ?_ ?_ ?_ ?_ ?_;walk_at "e6"
   ·refine' w_arg 17 g2 ?_ ?_ ?_ ?_ ?_;walk_at "e6"
   ·refine' w_arg 18 g2 ?_ ?_ ?_ ?_ ?_;walk_at "e6"
   ·refine' w_arg 19 g2 ?_ ?_ ?_ ?_ ?_;walk_at "e6"
   ·refine' w_arg 20 g2 ?_ ?_ ?_ ?_ ?_;walk_at "e6"
   ·refine' w_arg 21 g2 ?_ ?_ ?_ ?_ ?_;walk_at "e6"
   ·refine' qbh 0 KX G g3 ?_ ?_ ?_;walk_at "e3"
   ·refine' qbh 1 KX G g3 ?_ ?_ ?_;walk_at "e3"
   ·refine' qbh 2 KX G g3 ?_ ?_ ?_;walk_at "e3"
   ·refine' qbh 3 KX G g3 ?_ ?_ ?_;walk_at "e3"
   ·refine' qbh 4 KX G g3 ?_ ?_ ?_;walk_at "e3"
   ·refine' qbh 5 KX G g3 ?_ ?_ ?_;walk_at "e3"
   ·refine' qbh 6 KX G g3 ?_ ?_ ?_;walk_at "e3"
   ·refine' qbh 7 KX G g3 ?_ ?_ ?_;walk_at "e3"
   ·refine' qbh 8 KX G g3 ?_ ?_ ?_;walk_at "e3"
   ·refine' qbh 0 KX G g4 ?_ ?_ ?_;walk_at "e3"
   ·refine' qbh 1 KX G g4 ?_ ?_ ?_;walk_at "e3"
   ·refine' qbh 2 KX G g4 ?_ ?_ ?_;walk_at "e3"
   ·refine' qbh 3 KX G g4 ?_ ?_ ?_;walk_at "e3"
   ·refine' qbh 4 KX G g4 ?_ ?_ ?_;walk_at "e3"
   ·refine' qbh 5 KX G g4 ?_ ?_ ?_;walk_at "e3"
   ·refine' qbh 6 KX G g4 ?_ ?_ ?_;walk_at "e3"
   ·refine' qbh 7 KX G g4 ?_ ?_ ?_;walk_at "e3"
   ·refine' qbh 8 KX G g4 ?_ ?_ ?_;walk_at "e3"
   ·refine' qbh 9 KX G g4 ?_ ?_ ?_;walk_at "e3"
   ·refine' qbh 10 KX G g4 ?_ ?_ ?_;walk_at "e3"
   ·refine' qbh 11 KX G g4 ?_ ?_ ?_;walk_at "e3"
   ·refine' qbh 12 KX G g4 ?_ ?_ ?_;walk_at "e3"
   ·refine' qbh 13 KX G g4 ?_ ?_ ?_;walk_at "e3"
