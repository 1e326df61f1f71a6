import PyProof.Rows.All
import Wide.All
import OpenK.AllK
import Wide.FinOn
import PyProof.EqAt
import PyProof.EqKinds
import PyProof.TupleCall
import KE.BitLaws
import Open.SpecLaws
import KE.OsHead
import KE.OsGo
import KE.KDictSum
import KE.KDictLaws
import PyProof.Rows.SortShellAny
import PyProof.ZipIter
import PyProof.Draws
import PyProof.AttrMissHeap
import PyProof.TupleIter
import PyProof.WalksMore
import PyProof.ListNew
import PyProof.CollectWalk
import PyProof.EnumMake
import PyProof.Rows.CallKwBuiltin
import PySem.Challenge.RW_quartermeters_s01_answers
set_option Elab.async false
set_option linter.all false
set_option maxRecDepth 100000
def Ja:=@PySem.wpAny_bind
def Jb:=@PySem.Heap.get?_push_of_some
def Jc:=@if_neg
def Jd:=@List.length_map
def Je:=@if_pos
def Jf:=@List.mem_cons
def Jg:=@PySem.wpAny_pure
def Jh:=@List.mem_cons_self
def Ji:=@List.getElem?_eq_some_iff
def Jj:=@Option.some.inj
def Jk:=@List.mem_map
def Jl:=@PySem.Heap.lt_size
def Jm:=@List.mem_cons_of_mem
def Jo:=@List.getElem?_eq_getElem
def Jp:=@Nat.le_refl
def Jq:=@List.map_cons
def Jr:=@Bool.false_ne_true
def Js:=@PySem.Heap.get?_push_size
def Jt:=@List.getElem?_map
def Ju:=@List.pairwise_cons
def Jv:=@List.map_append
def Jw:=@Bool.and_eq_true
def Jx:=@List.length_append
def Jy:=@Bool.and_true
def Jz:=@List.length_cons
def J0:=@List.mem_of_getElem?
def J1:=@Int.toNat_natCast
def J2:=@List.mem_filter
def J3:=@List.mem_singleton
def J4:=@List.mem_append
def J5:=@Nat.ne_of_gt
def J6:=@PySem.Heap.size_push
def J7:=@decide_eq_false
def J8:=@List.size_toArray
def J9:=@decide_eq_true_eq
def Xa:=@List.not_mem_nil
def Xb:=@Ne.symm
def Xc:=@List.perm_iff_count
def Xd:=@Nat.le_trans
def Xe:=@PySem.F.plainAttrs_list
def Xf:=@List.nodup_cons
def Xg:=@List.filter_cons
def Xh:=@List.take_length
def Xi:=@PySem.wpAny_holding
def Xj:=@Nat.le_of_lt
def Xk:=@Nat.lt_of_lt_of_le
def Xl:=@Nat.ne_of_lt
def Xm:=@decide_eq_true
def Xn:=@List.getElem?_zip_eq_some
def Xo:=@PySem.wpAny_field
def Xp:=@List.length_filter_le
def Xq:=@List.take_add_one
def Xr:=@Bool.false_eq_true
def Xs:=@List.count_append
def Xu:=@List.getLast?_cons_cons
def Xv:=@PySem.F.slot_list_append
def Xw:=@PySem.F.type_list_append
def Xx:=@PySem.mem_of_lookup
def Xy:=@List.map_map
def Xz:=@List.count_cons
def X0:=@List.lookup_cons
def X3:=@Nat.zero_le
def X4:=@PySem.wpAny_setField_rec
def X5:=@List.map_congr_left
def X6:=@PySem.wpAny_call_entry
def X7:=@List.getElem?_toArray
def X8:=@PySem.wpAny_callSpecial?_slot
def X9:=@if_false
def Yb:=@List.nodup_nil
def Yc:=@PySem.wpAny_seqItems
def Yd:=@Nat.lt_irrefl
def Ye:=@List.mem_append_right
def Yg:=@List.find?_cons
def Yh:=@List.count_nil
def Yi:=@List.zipWith_append
def Yj:=@Nat.le_add_right
def Yk:=@List.forIn_nil
def Yl:=@List.forIn_cons
def Ym:=@congrArg
def Yn:=@List.getElem?_eq_none
def Yo:=@PyProof.Rows.callWith_type1
def Yp:=@Array.getElem?_eq_some_iff
def Yq:=@beq_iff_eq
def Yr:=@List.length_zip
def Ys:=@PySem.PassesOwn.never
def Yt:=@decide_eq_decide
def Yu:=@beq_eq_false_iff_ne
def Yv:=@List.append_assoc
def Yw:=@PySem.wpAny_mono
def Yx:=@List.sum_cons
def Yy:=@PySem.Heap.get?_update_self
def Yz:=@PySem.F.slot_dict_keyiterator_next
def Y0:=@or_false
def Y3:=@List.length_nil
def Y4:=@List.any_cons
def Y5:=@List.getLast?_map
def Y6:=@PySem.wpAny_pyIter_list
def Y7:=@List.append_nil
def Y8:=@Array.getElem?_eq_getElem
def Y9:=@List.any_eq_true
def Za:=@Nat.add_sub_cancel
def Zb:=@decide_eq_true_iff
def Zc:=@PySem.Calls.spliced_cons
def Zd:=@Array.forIn_toList
def Ze:=@List.cons.inj
def Zf:=@List.pairwise_append
def Zg:=@List.mem_of_getLast?
def Zh:=@List.pairwise_singleton
def Zi:=@List.nodup_append
def Zj:=@not_false_eq_true
def Zk:=@List.flatten_cons
def Zl:=@of_decide_eq_true
def Zm:=@Bool.eq_iff_iff
def Zn:=@PySem.F.slot_zip_next
def Zo:=@List.filter_eq_nil_iff
def Zp:=@List.getElem?_set_self
def Zq:=@PySem.Heap.get?_update_other
def Zr:=@PySem.Paired.length
def Zs:=@List.length_take
def Zt:=@PySem.F.slot_dict_get
def Zu:=@List.range_succ
def Zv:=@List.map_nil
def Zw:=@List.getElem?_of_mem
def Zx:=@List.mem_append_left
def Zy:=@List.getElem?_set_ne
def Zz:=@PySem.wpAny_truthy_bool
def Z1:=@PySem.wpAny_typeNameOfWhole_keyiter
def Z4:=@List.Perm.refl
def Z5:=@List.filter_append
def Z6:=@PySem.tupleKind_room_in1
def Z7:=@List.sum_append
def Z8:=@PySem.wpAny_passesOwn
def Z9:=@PySem.wpAny_onRaise
def Wa:=@PySem.F.slot_tuple_iterator_next
def Wb:=@Bool.eq_false_iff
def Wc:=@PySem.Calls.spliced_nil
def Wd:=@Nat.lt_succ_of_lt
def We:=@PySem.wpAny_newObj_type
def Wf:=@Option.isSome_map
def Wg:=@List.getElem?_append_left
def Wh:=@if_true
def Wi:=@List.all_eq_true
def Wj:=@PySem.wpAny_typeNameOf_keyiter
def Wk:=@Nat.zero_lt_succ
def Wl:=@PySem.F.slot_list_extend
def Wm:=@PySem.F.type_list_extend
def Wn:=@List.filter_sublist
def Wo:=@List.flatten_append
def Wq:=@List.replicate_succ
def Wr:=@PySem.Heap.SameBut.update
def Ws:=@PySem.wpAny_attempt
def Wt:=@List.filter_map
def Wu:=@Nat.lt_of_le_of_lt
def Wv:=@of_decide_eq_false
def Ww:=@Prod.mk.inj
def Wx:=@Sum.inl.inj
def Wy:=@PySem.Calls.callWith_builtin
def Wz:=@List.take_of_length_le
def W0:=@PySem.F.entry_dict_get
def W2:=@PySem.wpAny_letGo
def W3:=@List.zipWith_cons_cons
def W4:=@PySem.F.slot_zip_getattribute
def W5:=@PySem.wpAny_newTuple
def W6:=@PySem.Calls.evalArgs_plain
def W7:=@PySem.Draws.list
def W8:=@PySem.Around.under_plainId
def W9:=@List.map_take
def Ua:=@List.length_pos_iff
def Ub:=@List.filterMap_cons
def Uc:=@Array.length_toList
def Ud:=@PySem.F.plain_extend_loop
def Ue:=@Nat.div_add_mod
def Ug:=@List.length_set
def Uh:=@List.getLast?_eq_getElem?
def Ui:=@PySem.wpAny_updateSeq
def Uj:=@PySem.codeAny_builtin
def Uk:=@PySem.wpAny_loadPart'
def Ul:=@List.drop_eq_getElem_cons
def Um:=@List.Pairwise.imp_of_mem
def Uo:=@Option.isSome_iff_exists
def Up:=@Int.zero_add
def Uq:=@PySem.codeAny_mono
def Ur:=@PySem.wpAny_Call_Name_kw
def Us:=@PySem.Obj.data_mapFields
def Ut:=@Option.isNone_some
def Uu:=@Bool.false_and
def Uv:=@PySem.wpAny_rule
def Uw:=@List.getElem?_replicate
def Ux:=@PySem.F.plainAttrs_dict
def Uy:=@List.getElem?_cons_zero
def Uz:=@List.getElem?_cons_succ
def U0:=@List.flatMap_cons
def U1:=@List.pairwise_map
def U3:=@List.length_range
def U4:=@Nat.le_of_succ_le
def U5:=@PySem.wpAny_Call_method
def U6:=@PySem.wpAny_pyIter_slot
def U7:=@PySem.wpAny_dictEntries
def U8:=@PySem.wpAny_pyIter_enum
def U9:=@PySem.F.args_zip_next_1
def Qa:=@List.map_id
def Qc:=@List.all_cons
def Qd:=@PySem.plainId_quiet
def Qe:=@Nat.lt_succ_self
def Qg:=@List.length_drop
def Qh:=@PySem.wpAny_isInstance
def Qi:=@List.zipIdx_cons
def Qj:=@PySem.Heap.IsList.push
def Qk:=@PySem.F.entry_zip_next
def Ql:=@PySem.Heap.size_update
def Qm:=@List.length_tail
def Qn:=@List.length_replicate
def Qo:=@List.set_getElem_self
def Qp:=@Nat.le_of_eq
def Qq:=@PySem.wpAny_execs_nil
def Qs:=@PySem.pushCells_keeps
def Qt:=@PySem.call_meetsIn
def Qu:=@List.zipIdx_nil
def Qv:=@List.length_zipWith
def Qw:=@Bool.and_false
def Qx:=@and_true
def Qy:=@Bool.false_or
namespace QM
open Vbemai
abbrev Inc(l:List Nat): Prop:=l.Pairwise (· < ·)
theorem qp0:∀ {a b:List Nat},Inc a->Inc b->(∀ x,x∈a↔x∈b)->a=b
 |[],[],_,_,_=>rfl
 |[],y::b,_,_,h=>by have:=(h y).mpr Jh;cases this
 |x::a,[],_,_,h=>by have:=(h x).mp Jh;cases this
 | x::a,y::b,ha,hb,h=>by
   rw[Inc,Ju] at ha hb
   have e:x=y:=by
    have h1:=(h x).mp Jh
    have h2:=(h y).mpr Jh
    rcases Jf.mp h1 with q|q
    ·exact q
    ·rcases Jf.mp h2 with p|p
     ·exact p.symm
     ·have a1:=ha.1 y p;have a2:=hb.1 x q;omega
   subst e
   congr 1
   refine qp0 ha.2 hb.2 fun z=>⟨fun q=>?_,fun q=>?_⟩
   ·rcases Jf.mp ((h z).mp (Jm _ q)) with p|p
    ·subst p;exact absurd (ha.1 z q) (Yd _)
    ·exact p
   ·rcases Jf.mp ((h z).mpr (Jm _ q)) with p|p
    ·subst p;exact absurd (hb.1 z q) (Yd _)
    ·exact p
theorem qp2:∀ {a:List Nat},a.Pairwise (·<=·)->a.Nodup->Inc a
 |[],_,_=>List.Pairwise.nil
 | x::a,h,n=>by
   rw[Ju] at h
   rw[Xf] at n
   refine Ju.mpr ⟨fun y hy=>?_,qp2 h.2 n.2⟩
   have:=h.1 y hy
   have ne:x≠y:=fun e=>n.1 (e ▸ hy)
   omega
theorem Inc.nodup{a:List Nat}(h:Inc a): a.Nodup:=h.imp fun h=>Xl h
def RLt(x y:Reading): Prop:=x.at_<y.at_\/(x.at_=y.at_/\x.version<y.version)
def qhk:Option Reading->Option Int
 |none=>none
 |some r=>if r.value<0 then none else some r.value
def atT(t:Nat)(l:List Reading): List Reading:=l.filter fun r=>r.at_==t
theorem qod{t:Nat}: ∀ {l:List Reading},(∀ r∈l,r.at_≠t)->atT t l=[]
 |[],_=>rfl
 | r::l,h=>by
   unfold atT
   rw[Xg,Jc (by simpa using h r Jh)]
   exact qod fun q hq=>h q (Jm _ hq)
theorem qoe{t:Nat}{r:Reading}{l:List Reading}(e:r.at_=t): atT t (r::l)=r::atT t l:=by
 unfold atT;rw[Xg,Je (by simpa using e)]
theorem qoc{t:Nat}{r:Reading}{l:List Reading}(e:¬ r.at_=t): atT t (r::l)=atT t l:=by
 unfold atT;rw[Xg,Jc (by simpa using e)]
theorem getLast?_cons_ne{α:Type}{a:α}: ∀ {l:List α},l≠[]->(a::l).getLast?=l.getLast?
 |[],h=>absurd rfl h
 |b::l,_=>by rw[Xu]
theorem later{r q x:Reading}{l:List Reading}(h:(r::q::l).Pairwise RLt)(ne:r.at_≠q.at_)(hx:x∈q::l): r.at_<x.at_:=by
 rw[Ju,Ju] at h
 have h1:=h.1 q Jh
 have h2:q.at_<=x.at_:=by
  rcases Jf.mp hx with e|hx
  ·rw[e];exact Jp _
  ·rcases h.2.1 x hx with z|z
   ·omega
   ·omega
 rcases h1 with z|z
 ·omega
 ·omega
theorem quw:∀ {l:List Reading} (t:Nat),l.Pairwise RLt->(standing l).lookup t=qhk (atT t l).getLast?
 |[],t,_=>rfl
 | [r],t,_=>by
   by_cases e:r.at_=t
   ·rw[qoe e]
    show _=qhk (some r)
    unfold qhk standing
    by_cases hv:r.value<0
    ·simp[hv]
    ·simp[hv,e]
   ·rw[qoc e]
    show _=none
    unfold standing
    by_cases hv:r.value<0
    ·simp[hv]
    ·simp only[hv,X9]
     rw[X0]
     have:(t==r.at_)=false:=by simpa using fun z:t=r.at_=>e z.symm
     simp[this]
 | r::q::l,t,h=>by
   have h':=h
   rw[Ju] at h'
   have ih:=quw t h'.2
   by_cases e:r.at_=q.at_
   ·have e1:standing (r::q::l)=standing (q::l):=by rw[standing];simp[e]
    rw[e1,ih]
    by_cases et:r.at_=t
    ·have:atT t (r::q::l)=r::atT t (q::l):=by unfold atT;rw[Xg,Je (by simpa using et)]
     rw[this,getLast?_cons_ne]
     unfold atT
     rw[Xg,Je (by simpa[e] using et)]
     exact List.cons_ne_nil _ _
    ·have:atT t (r::q::l)=atT t (q::l):=by unfold atT;rw[Xg,Jc (by simpa using et)]
     rw[this]
   ·by_cases et:r.at_=t
    ·have e0:atT t (q::l)=[]:=qod fun x hx=>by have:=later h e hx;omega
     have e2:atT t (r::q::l)=[r]:=by
      have:atT t (r::q::l)=r::atT t (q::l):=by unfold atT;rw[Xg,Je (by simpa using et)]
      rw[this,e0]
     rw[e2]
     show _=qhk (some r)
     rw[e0] at ih
     have ih':(standing (q::l)).lookup t=none:=ih
     unfold qhk
     rw[standing]
     by_cases hv:r.value<0
     ·rw[Jc e,Je hv];dsimp only;rw[Je hv];exact ih'
     ·rw[Jc e,Jc hv,X0];dsimp only;rw[Jc hv];simp[et]
    ·have e2:atT t (r::q::l)=atT t (q::l):=by unfold atT;rw[Xg,Jc (by simpa using et)]
     rw[e2,<- ih,standing]
     by_cases hv:r.value<0
     ·simp[e,hv]
     ·simp only[e,hv,X9]
      rw[X0]
      have:(t==r.at_)=false:=by simpa using fun z:t=r.at_=>et z.symm
      simp[this]
theorem qgu:∀ {l:List Reading} (x:Nat×Int),x∈standing l->∃ r∈l,r.at_=x.1
 |[],x,h=>by cases h
 | [r],x,h=>by
   unfold standing at h
   split at h
   ·cases h
   ·rcases Jf.mp h with e|e
    ·exact⟨r,Jh,by rw[e]⟩
    ·cases e
 | r::q::l,x,h=>by
   have go:x∈standing (q::l)->∃ z∈r::q::l,z.at_=x.1:=fun h=>by
    obtain⟨z,hz,e⟩:=qgu x h
    exact⟨z,Jm _ hz,e⟩
   rw[standing] at h
   split at h
   ·exact go h
   ·split at h
    ·exact go h
    ·rcases Jf.mp h with e|e
     ·exact⟨r,Jh,by rw[e]⟩
     ·exact go e
theorem qnl:∀ {l:List Reading},l.Pairwise RLt->Inc ((standing l).map (·.1))
 |[],_=>List.Pairwise.nil
 | [r],_=>by
   unfold standing
   split
   ·exact List.Pairwise.nil
   ·exact Zh _ _
 | r::q::l,h=>by
   have h':=h
   rw[Ju] at h'
   have ih:=qnl h'.2
   rw[standing]
   split
   ·exact ih
   ·rename_i e
    split
    ·exact ih
    ·refine Ju.mpr ⟨fun t ht=>?_,ih⟩
     obtain⟨x,hx,rfl⟩:=Jk.mp ht
     obtain⟨z,hz,ez⟩:=qgu x hx
     have:=later h e hz
     show r.at_<x.1
     omega
theorem lookup_mem{β:Type}: ∀ {l:List (Nat×β)} {t:Nat} {x:β},(l.map (·.1)).Nodup->(l.lookup t=some x↔(t,x)∈l)
 |[],t,x,_=>by simp
 | (k,y)::l,t,x,h=>by
   rw[Jq,Xf] at h
   rw[X0]
   by_cases e:t=k
   ·subst e
    simp only[beq_self_eq_true,Jf]
    constructor
    ·intro z;exact .inl (by rw[Jj z])
    ·rintro (z|z)
     ·rw[(Ww z).2]
     ·exact absurd (Jk.mpr ⟨_,z,rfl⟩) h.1
   ·have:(t==k)=false:=by simpa using e
    rw[this]
    show l.lookup t=some x↔_
    rw[lookup_mem h.2,Jf]
    constructor
    ·exact .inr
    ·rintro (z|z)
     ·exact absurd (Ww z).1 e
     ·exact z
def Chain:List Device->Prop
 |[]=>False
 |[d]=>∀ e,d.finish=some e->d.start<e.1
 |d::d'::r=>(∃ v,d.finish=some (d'.start,v))/\d.start<d'.start/\Chain (d'::r)
def InD(d:Device)(t:Nat): Prop:=d.start<t/\∀ e,d.finish=some e->t<e.1
theorem Chain.later:∀ {d:Device} {r:List Device},Chain (d::r)->∀ d'∈r,d.start<d'.start/\∃ e,d.finish=some e/\e.1<=d'.start
 |d,[],_,d',h=>by cases h
 | d,x::r,hc,d',h=>by
   obtain⟨⟨v,hv⟩,hlt,hc'⟩:=hc
   rcases Jf.mp h with e|h
   ·subst e;exact⟨hlt,_,hv,Jp _⟩
   ·have:=hc'.later d' h
    exact⟨by omega,_,hv,by show x.start<=_;omega⟩
theorem Chain.tail{d x:Device}{r:List Device}(h:Chain (d::x::r)): Chain (x::r):=h.2.2
theorem Chain.self:∀ {d:Device} {r:List Device},Chain (d::r)->∀ e,d.finish=some e->d.start<e.1
 |d,[],h,e,q=>h e q
 | d,x::r,h,e,q=>by
   obtain⟨⟨v,hv⟩,hlt,_⟩:=h
   rw[hv] at q;cases q;exact hlt
theorem Chain.inc:∀ {ds:List Device},Chain ds->Inc (ds.map (·.start))
 |[],h=>h.elim
 |[d],_=>Zh _ _
 | d::x::r,h=>by
   refine Ju.mpr ⟨fun t ht=>?_,h.tail.inc⟩
   obtain⟨d',hd',rfl⟩:=Jk.mp ht
   exact(h.later d' hd').1
theorem Chain.qq2:∀ {ds:List Device},Chain ds->∀ {d d':Device} {t:Nat},d∈ds->d'∈ds->InD d t->t≠d'.start
 |[],h,_,_,_,_,_,_=>h.elim
 | [x],_,d,d',t,hd,hd',hi=>by
   have e1:=J3.mp hd;have e2:=J3.mp hd'
   subst e1 e2
   have:=hi.1;omega
 | x::y::r,h,d,d',t,hd,hd',hi=>by
   rcases Jf.mp hd with e1|hd
   ·subst e1
    rcases Jf.mp hd' with e2|hd'
    ·subst e2;have:=hi.1;omega
    ·obtain⟨_,e,he,hle⟩:=h.later d' hd'
     have:=hi.2 e he;omega
   ·rename d∈y::r=>hd1
    rcases Jf.mp hd' with e2|hd2
    ·subst e2
     have:=(h.later d hd1).1;have:=hi.1;omega
    ·exact h.tail.qq2 hd1 hd2 hi
def endOf(ds:List Device): Option (Nat×Int):=(ds.getLast?).bind (·.finish)
theorem Chain.qma:∀ {ds:List Device},Chain ds->∀ {d:Device} {t:Nat} {e:Nat×Int},d∈ds->InD d t->endOf ds=some e->t<e.1
 |[],h,_,_,_,_,_,_=>h.elim
 | [x],_,d,t,e,hd,hi,he=>by
   have e1:=J3.mp hd
   subst e1
   exact hi.2 e he
 | x::y::r,h,d,t,e,hd,hi,he=>by
   have he':endOf (y::r)=some e:=by rw[<- he];unfold endOf;rw[Xu]
   rcases Jf.mp hd with e1|hd
   ·subst e1
    obtain⟨v,hv⟩:=h.1
    have h1:=hi.2 _ hv
    have h2:∀ {z:Device} {q:List Device},Chain (z::q)->endOf (z::q)=some e->z.start<e.1:=by
     intro z q
     induction q generalizing z with
     |nil=>intro hz hq;exact hz e hq
     | cons z' q ih=>
       intro hz hq
       have:=ih hz.tail (by rw[<- hq];unfold endOf;rw[Xu])
       have:=hz.2.1
       omega
    have:=h2 h.tail he'
    have h1':t<y.start:=h1
    omega
   ·exact h.tail.qma hd hi he'
theorem Chain.qgv{e:Nat×Int}: ∀ {q:List Device},Chain q->endOf q=some e->∀ d∈q,d.start<e.1
 |[],h,_,_,_=>h.elim
 | [x],h,he,d,hd=>by
   have e1:=J3.mp hd
   subst e1;exact h e he
 | x::y::r,h,he,d,hd=>by
   have he':endOf (y::r)=some e:=by rw[<- he];unfold endOf;rw[Xu]
   rcases Jf.mp hd with e1|hd
   ·subst e1
    have:=h.tail.qgv he' y Jh
    have:=h.2.1
    omega
   ·exact h.tail.qgv he' d hd
def qc0(st:List (Nat×Int))(d:Device): List Nat:=(pointsOf st d).map (·.1)
theorem qn7(m f:Int): ∀ (l:List (Nat×Int)) (c v:Int),(advance m f c v l).map (·.1)=l.map (·.1)
 |[],_,_=>rfl
 | (t,x)::l,c,v=>by
   rw[advance]
   show t::_=t::_
   rw[qn7 m f l]
theorem qot(st:List (Nat×Int)): ∀ (ds:List Device) (c:Int),(chained st c ds).map (·.1)=ds.flatMap (qc0 st)
 |[],_=>rfl
 | d::r,c=>by
   rw[chained,Jv,qn7,qot st r,U0]
   rfl
def bounds(st:List (Nat×Int)): List Device->List Nat
 |[]=>[]
 |d::r=>d.start::(d::r).flatMap (qc0 st)
theorem qqf(st:List (Nat×Int))(ds:List Device): (knots st ds).map (·.1)=bounds st ds:=by
 cases ds with
 |nil=>rfl
 | cons d r=>
   unfold knots bounds
   rw[Jq,qot]
theorem ql1{st:List (Nat×Int)}{d:Device}{t:Nat}{v:Int}(h:d.finish=some (t,v)):
  qc0 st d=(st.filter fun x=>decide (d.start<x.1)&&decide (x.1<t)).map (·.1)++[t]:=by
 unfold qc0 pointsOf
 rw[h]
 simp
theorem qqb{st:List (Nat×Int)}{d:Device}(h:d.finish=none):
  qc0 st d=(st.filter fun x=>decide (d.start<x.1)).map (·.1):=by
 unfold qc0 pointsOf
 rw[h]
theorem qds{st:List (Nat×Int)}{d:Device}{t:Nat}: t∈qc0 st d↔(t∈st.map (·.1)/\InD d t)\/∃ v,d.finish=some (t,v):=by
 cases h:d.finish with
 | none=>
   rw[qqb h]
   unfold InD
   rw[h]
   constructor
   ·intro q
    obtain⟨x,hx,rfl⟩:=Jk.mp q
    rw[J2] at hx
    exact .inl ⟨Jk.mpr ⟨x,hx.1,rfl⟩,by simpa using hx.2,by intro e he;cases he⟩
   ·rintro (⟨q,q2,_⟩|⟨v,q⟩)
    ·obtain⟨x,hx,rfl⟩:=Jk.mp q
     exact Jk.mpr ⟨x,J2.mpr ⟨hx,by simpa using q2⟩,rfl⟩
    ·cases q
 | some e=>
   obtain⟨u,v⟩:=e
   rw[ql1 h]
   unfold InD
   rw[h,J4]
   constructor
   ·rintro (q|q)
    ·obtain⟨x,hx,rfl⟩:=Jk.mp q
     rw[J2] at hx
     have:=hx.2
     simp at this
     exact .inl ⟨Jk.mpr ⟨x,hx.1,rfl⟩,this.1,by intro e he;cases he;exact this.2⟩
    ·have:=J3.mp q
     subst this
     exact .inr ⟨v,rfl⟩
   ·rintro (⟨q,q2,q3⟩|⟨w,q⟩)
    ·obtain⟨x,hx,rfl⟩:=Jk.mp q
     have:=q3 _ rfl
     exact .inl (Jk.mpr ⟨x,J2.mpr ⟨hx,by simp;exact⟨q2,this⟩⟩,rfl⟩)
    ·cases q
     exact .inr Jh
theorem qqa{st:List (Nat×Int)}(hs:Inc (st.map (·.1))){d:Device}: Inc (qc0 st d):=by
 have sub:∀ p:Nat×Int->Bool,Inc ((st.filter p).map (·.1)):=fun p=>by
  have:((st.filter p).map (·.1)).Sublist (st.map (·.1)):=List.Sublist.map _ Wn
  exact List.Pairwise.sublist this hs
 cases h:d.finish with
 |none=>rw[qqb h];exact sub _
 | some e=>
   obtain⟨u,v⟩:=e
   rw[ql1 h]
   refine Zf.mpr ⟨sub _,Zh _ _,fun x hx y hy=>?_⟩
   obtain⟨z,hz,rfl⟩:=Jk.mp hx
   have:=(J2.mp hz).2
   simp at this
   rw[J3.mp hy]
   exact this.2
theorem qkr{st:List (Nat×Int)}{d:Device}{r:List Device}(hc:Chain (d::r)): ∀ t∈(d::r).flatMap (qc0 st),d.start<t:=fun t ht=>by
 obtain⟨x,hx,hk⟩:=List.mem_flatMap.mp ht
 have h0:d.start<=x.start:=by
  rcases Jf.mp hx with e|hx
  ·rw[e];exact Jp _
  ·exact Xj (hc.later x hx).1
 have hself:∀ e,x.finish=some e->x.start<e.1:=by
  clear hk h0 ht
  revert hc hx
  generalize d::r=ds
  intro hc hx
  induction ds with
  |nil=>cases hx
  | cons a q ih=>
    rcases Jf.mp hx with e|hx
    ·subst e;exact hc.self
    ·cases q with
     |nil=>cases hx
     |cons b q=>exact ih hc.tail hx
 rcases qds.mp hk with ⟨_,q⟩|⟨v,q⟩
 ·have:=q.1;omega
 ·have:=hself _ q
  have:x.start<t:=this
  omega
theorem qks{st:List (Nat×Int)}(hs:Inc (st.map (·.1))): ∀ {ds:List Device},Chain ds->Inc (bounds st ds)
 |[],h=>h.elim
 | [d],h=>by
   unfold bounds
   refine Ju.mpr ⟨qkr h,?_⟩
   simp only[U0,List.flatMap_nil,Y7]
   exact qqa hs
 | d::x::r,h=>by
   have ih:=qks hs h.tail
   unfold bounds at ih ⊢
   refine Ju.mpr ⟨qkr h,?_⟩
   rw[U0]
   obtain⟨⟨v,hv⟩,hlt,hc⟩:=h
   refine Zf.mpr ⟨qqa hs,(Ju.mp ih).2,fun a ha b hb=>?_⟩
   have h1:=qkr (st:=st) hc b hb
   have h2:a<=x.start:=by
    rcases qds.mp ha with ⟨_,q⟩|⟨w,q⟩
    ·exact Xj (q.2 _ hv)
    ·rw[hv] at q;cases q;exact Jp _
   omega
theorem qmb{st:List (Nat×Int)}: ∀ {ds:List Device},Chain ds->(∀ t∈st.map (·.1),∃ d∈ds,InD d t)->∀ t,t∈bounds st ds↔t∈ds.map (·.start)\/t∈st.map (·.1)\/∃ v,endOf ds=some (t,v):=fun {ds} hc hin t=>by
 have key:∀ (ds:List Device) (d:Device),Chain (d::ds)->∀ t,(t=d.start\/∃ x∈d::ds,t∈qc0 st x)↔(t∈(d::ds).map (·.start)\/(∃ x∈d::ds,t∈st.map (·.1)/\InD x t)\/∃ v,endOf (d::ds)=some (t,v)):=by
  intro ds
  induction ds with
  | nil=>
    intro d hc t
    constructor
    ·rintro (e|⟨x,hx,hk⟩)
     ·exact .inl (by simp[e])
     ·have e:=J3.mp hx;subst e
      rcases qds.mp hk with q|⟨v,q⟩
      ·exact .inr (.inl ⟨x,hx,q⟩)
      ·exact .inr (.inr ⟨v,q⟩)
    ·rintro (q|⟨x,hx,q⟩|⟨v,q⟩)
     ·exact .inl (by simpa using q)
     ·exact .inr ⟨x,hx,qds.mpr (.inl q)⟩
     ·exact .inr ⟨d,Jh,qds.mpr (.inr ⟨v,q⟩)⟩
  | cons y r ih=>
    intro d hc t
    have h:=ih y hc.tail t
    have ee:endOf (d::y::r)=endOf (y::r):=by unfold endOf;rw[Xu]
    rw[ee]
    obtain⟨⟨v0,hv0⟩,hlt,hc'⟩:=hc
    constructor
    ·rintro (e|⟨x,hx,hk⟩)
     ·exact .inl (by simp[e])
     ·rcases Jf.mp hx with e|hx
      ·subst e
       rcases qds.mp hk with q|⟨v,q⟩
       ·exact .inr (.inl ⟨x,Jh,q⟩)
       ·rw[hv0] at q;cases q
        exact .inl (by simp)
      ·rcases h.mp (.inr ⟨x,hx,hk⟩) with q|⟨z,hz,q⟩|q
       ·exact .inl (by rw[Jq];exact Jm _ q)
       ·exact .inr (.inl ⟨z,Jm _ hz,q⟩)
       ·exact .inr (.inr q)
    ·rintro (q|⟨z,hz,q⟩|q)
     ·rw[Jq] at q
      rcases Jf.mp q with e|q
      ·exact .inl e
      ·rcases h.mpr (.inl q) with e|⟨x,hx,hk⟩
       ·exact .inr ⟨d,Jh,qds.mpr (.inr ⟨v0,by rw[e];exact hv0⟩)⟩
       ·exact .inr ⟨x,Jm _ hx,hk⟩
     ·exact .inr ⟨z,hz,qds.mpr (.inl q)⟩
     ·rcases h.mpr (.inr (.inr q)) with e|⟨x,hx,hk⟩
      ·exact .inr ⟨d,Jh,qds.mpr (.inr ⟨v0,by rw[e];exact hv0⟩)⟩
      ·exact .inr ⟨x,Jm _ hx,hk⟩
 cases ds with
 |nil=>exact hc.elim
 | cons d r=>
   unfold bounds
   rw[Jf,List.mem_flatMap,key r d hc t]
   constructor
   ·rintro (q|⟨x,_,q,_⟩|q)
    ·exact .inl q
    ·exact .inr (.inl q)
    ·exact .inr (.inr q)
   ·rintro (q|q|q)
    ·exact .inl q
    ·obtain⟨x,hx,hi⟩:=hin t q
     exact .inr (.inl ⟨x,hx,q,hi⟩)
    ·exact .inr (.inr q)
def qdp(ds:List Device)(a:Nat): Option Device:=(ds.filter fun d=>decide (d.start<=a)).getLast?
def qby(st:List (Nat×Int))(d:Device)(t:Nat): Int:=
 if t=d.start then d.value else match d.finish with
 |some (e,v)=>if t=e then v else (st.lookup t).getD 0
 |none=>(st.lookup t).getD 0
def qb2(st:List (Nat×Int))(ds:List Device)(a b:Nat): Int:=match qdp ds a with
 |none=>0
 |some d=>(qby st d b-qby st d a)%10 ^ d.digits*d.factor
def Qcd(f:Nat->Nat->Int): List (Nat×Int)->Prop
 |(a,c)::(b,d)::r=>d=c+f a b/\Qcd f ((b,d)::r)
 |_=>True
theorem Qcd.append{f:Nat->Nat->Int}: ∀ {x y:Nat×Int} {k l:List (Nat×Int)},Qcd f (x::k)->(x::k).getLast?=some y->Qcd f (y::l)->Qcd f (x::(k++l))
 | x,y,[],l,_,h,h2=>by
   have e:x=y:=Jj h
   subst e;exact h2
 | x,y,z::k,l,h1,h,h2=>by
   have h':(z::k).getLast?=some y:=by rw[<- h,Xu]
   exact⟨h1.1,Qcd.append h1.2 h' h2⟩
theorem qn6{f:Nat->Nat->Int}(m g:Int): ∀ (l:List (Nat×Int)) (t0:Nat) (v0 c:Int),
  (∀ i p q,((t0,v0)::l)[i]?=some p->((t0,v0)::l)[i+1]?=some q->f p.1 q.1=(q.2-p.2)%m*g)->Qcd f ((t0,c)::advance m g c v0 l)
 |[],_,_,_,_=>trivial
 | (t,v)::l,t0,v0,c,h=>by
   rw[advance]
   refine⟨?_,?_⟩
   ·rw[h 0 (t0,v0) (t,v) rfl rfl]
   ·exact qn6 m g l t v _ fun i p q hp hq=>h (i+1) p q (by simpa using hp) (by simpa using hq)
theorem qkg(m g:Int): ∀ (l:List (Nat×Int)) (v0 c:Int) (t0:Nat),((t0,c)::advance m g c v0 l).getLast?=some (((t0::l.map (·.1)).getLast?).getD 0,lastOf c (advance m g c v0 l))
 |[],_,_,_=>rfl
 | (t,v)::l,v0,c,t0=>by
   rw[advance]
   show ((t0,c)::(t,c+(v-v0)%m*g)::advance m g (c+(v-v0)%m*g) v l).getLast?=_
   rw[Xu,qkg m g l v _ t]
   rw[Jq,Xu]
   congr 2
   unfold lastOf
   have:=qkg m g l v (c+(v-v0)%m*g) t
   rw[this]
   unfold lastOf
   rfl
theorem qo6{pre post:List Device}{d:Device}{a:Nat}(h1:d.start<=a)(h2:∀ x∈post,a<x.start): qdp (pre++d::post) a=some d:=by
 unfold qdp
 rw[Z5,Xg,Je (by simpa using h1)]
 have:post.filter (fun d=>decide (d.start<=a))=[]:=by
  rw[Zo]
  intro x hx
  have:=h2 x hx
  simp;omega
 rw[this]
 simp
theorem q5c{st:List (Nat×Int)}(hs:Inc (st.map (·.1))){d:Device}(hd:∀ e,d.finish=some e->d.start<e.1): ∀ p∈pointsOf st d,qby st d p.1=p.2:=fun p hp=>by
 have hl:∀ x∈st,st.lookup x.1=some x.2:=fun x hx=>(lookup_mem hs.nodup).mpr hx
 unfold pointsOf at hp
 unfold qby
 cases h:d.finish with
 | none=>
   rw[h] at hp
   have hp:p∈st.filter (fun x=>decide (d.start<x.1)):=hp
   rw[J2] at hp
   have:d.start<p.1:=by simpa using hp.2
   rw[Jc (by omega)]
   dsimp only
   rw[hl p hp.1];rfl
 | some e=>
   obtain⟨u,v⟩:=e
   rw[h] at hp
   have hp:p∈(st.filter fun x=>decide (d.start<x.1)&&decide (x.1<u))++[(u,v)]:=hp
   rcases J4.mp hp with q|q
   ·rw[J2] at q
    have:=q.2
    simp at this
    rw[Jc (by omega)]
    dsimp only
    rw[Jc (by omega),hl p q.1];rfl
   ·have e:=J3.mp q
    subst e
    have:=hd _ h
    have:d.start<u:=this
    rw[Jc (show ¬ u=d.start by omega)]
    dsimp only
    rw[Je rfl]
theorem q5a{st:List (Nat×Int)}{d x:Device}{v:Int}(h:d.finish=some (x.start,v)): ∀ (i:Nat) p q,((d.start,d.value)::pointsOf st d)[i]?=some p->((d.start,d.value)::pointsOf st d)[i+1]?=some q->d.start<x.start->p.1<x.start:=by
 have e:pointsOf st d=(st.filter fun y=>decide (d.start<y.1)&&decide (y.1<x.start))++[(x.start,v)]:=by unfold pointsOf;rw[h]
 rw[e]
 intro i p q hp hq hlt
 cases i with
 |zero=>cases hp;exact hlt
 | succ i=>
   have hp:((st.filter fun y=>decide (d.start<y.1)&&decide (y.1<x.start))++[(x.start,v)])[i]?=some p:=hp
   have hq:((st.filter fun y=>decide (d.start<y.1)&&decide (y.1<x.start))++[(x.start,v)])[i+1]?=some q:=hq
   have hlen:=(Ji.mp hq).1
   rw[Jx,List.length_singleton] at hlen
   rw[Wg (by omega)] at hp
   have:=(J2.mp (J0 hp)).2
   simp at this
   exact this.2
theorem q5b{st:List (Nat×Int)}{d:Device}(hd:∀ e,d.finish=some e->d.start<e.1): ∀ p∈(d.start,d.value)::pointsOf st d,d.start<=p.1:=fun p hp=>by
 rcases Jf.mp hp with e|hp
 ·rw[e];exact Jp _
 ·have:p.1∈qc0 st d:=Jk.mpr ⟨p,hp,rfl⟩
  rcases qds.mp this with ⟨_,q⟩|⟨v,q⟩
  ·exact Xj q.1
  ·exact Xj (show d.start<p.1 from hd (p.1,v) q)
theorem qxl{st:List (Nat×Int)}(hs:Inc (st.map (·.1))): ∀ (r:List Device) (pre:List Device) (d:Device) (c:Int),Chain (d::r) ->
  Qcd (qb2 st (pre++d::r)) ((d.start,c)::chained st c (d::r)):=by
 intro r
 have one:∀ (pre r:List Device) (d:Device) (c:Int),Chain (d::r)->Qcd (qb2 st (pre++d::r)) ((d.start,c)::advance (10 ^ d.digits) d.factor c d.value (pointsOf st d)):=by
  intro pre r d c hc
  refine qn6 _ _ _ _ _ _ fun i p q hp hq=>?_
  have hself:=hc.self
  have hsh:∀ z∈(d.start,d.value)::pointsOf st d,qby st d z.1=z.2:=fun z hz=>by
   rcases Jf.mp hz with e|hz
   ·rw[e];unfold qby;rw[Je rfl]
   ·exact q5c hs hself z hz
  have h1:=hsh p (J0 hp)
  have h2:=hsh q (J0 hq)
  have hge:=q5b hself p (J0 hp)
  have hd:qdp (pre++d::r) p.1=some d:=by
   refine qo6 hge fun x hx=>?_
   cases r with
   |nil=>cases hx
   | cons y r=>
     obtain⟨⟨v,hv⟩,hlt,hc'⟩:=hc
     have h3:=q5a hv i p q hp hq hlt
     rcases Jf.mp hx with e|hx
     ·rw[e];exact h3
     ·have:=(hc'.later x hx).1;omega
  unfold qb2
  rw[hd,<- h1,<- h2]
 induction r with
 | nil=>
   intro pre d c hc
   rw[chained,chained,Y7]
   exact one pre [] d c hc
 | cons y r ih=>
   intro pre d c hc
   rw[chained]
   have h1:=one pre (y::r) d c hc
   obtain⟨⟨v,hv⟩,hlt,hc'⟩:=hc
   refine Qcd.append h1 (qkg _ _ _ _ _ _) ?_
   have e:((d.start::(pointsOf st d).map (·.1)).getLast?).getD 0=y.start:=by
    have:(pointsOf st d).map (·.1)=qc0 st d:=rfl
    rw[this,ql1 hv,<- List.cons_append,List.getLast?_concat];rfl
   rw[e]
   have:=ih (pre++[d]) y (lastOf c (advance (10 ^ d.digits) d.factor c d.value (pointsOf st d))) hc'
   rw[Yv] at this
   exact this
theorem qqg{st:List (Nat×Int)}(hs:Inc (st.map (·.1))){ds:List Device}(hc:Chain ds): Qcd (qb2 st ds) (knots st ds):=by
 cases ds with
 |nil=>exact hc.elim
 |cons d r=>exact qxl hs r [] d 0 hc
def sums(c:Int): List Int->List Int
 |[]=>[c]
 |x::l=>c::sums (c+x) l
theorem qu1:∀ (l:List Int) (c x:Int),sums c (l++[x])=sums c l++[((sums c l).getLast?).getD 0+x]
 |[],c,x=>rfl
 | y::l,c,x=>by
   have e:=qu1 l (c+y) x
   have e2:∀ (l:List Int) c,∃ z r,sums c l=z::r:=by
    intro l c
    cases l with
    |nil=>exact⟨_,_,rfl⟩
    |cons a l=>exact⟨_,_,rfl⟩
   obtain⟨z,r,e3⟩:=e2 l (c+y)
   show c::sums (c+y) (l++[x])=c::sums (c+y) l++[((c::sums (c+y) l).getLast?).getD 0+x]
   rw[e,e3,Xu]
   rfl
theorem qj2:∀ (l:List Int) (c:Int),(sums c l).length=l.length+1
 |[],_=>rfl
 |x::l,c=>by show (sums (c+x) l).length+1=_;rw[qj2];rfl
def qcf(f:Nat->Nat->Int): List Nat->List Int
 |a::b::r=>f a b::qcf f (b::r)
 |_=>[]
theorem qqs{f:Nat->Nat->Int}: ∀ {r:List (Nat×Int)} {a:Nat} {c:Int},Qcd f ((a,c)::r)->((a,c)::r).map (·.2)=sums c (qcf f (((a,c)::r).map (·.1)))
 |[],_,_,_=>rfl
 | (b,d)::r,a,c,h=>by
   have:=qqs h.2
   show c::((b,d)::r).map (·.2)=c::sums (c+f a b) (qcf f (((b,d)::r).map (·.1)))
   rw[this,h.1]
theorem q2w{st:List (Nat×Int)}(hs:Inc (st.map (·.1))){ds:List Device}(hc:Chain ds): (knots st ds).map (·.2)=sums 0 (qcf (qb2 st ds) (bounds st ds)):=by
 have h:=qqg hs hc
 rw[<- qqf]
 cases ds with
 |nil=>exact hc.elim
 |cons d r=>exact qqs h
theorem qka(w:Nat->Nat)(a:Nat): weights w a a=0:=by unfold weights;simp
theorem qnz(w:Nat->Nat){a t:Nat}(h:a<=t): weights w a (t+1)=weights w a t+w t:=by
 unfold weights
 have e:t+1-a=(t-a)+1:=by omega
 rw[e,Zu,Jv,Z7]
 simp only[Jq,Zv,Yx,List.sum_nil]
 have:a+(t-a)=t:=by omega
 rw[this];omega
theorem zaf(w:Nat->Nat){a b:Nat}(h:a<=b): weights w 0 b=weights w 0 a+weights w a b:=by
 induction b with
 | zero=>
   have:a=0:=by omega
   subst this;simp[qka]
 | succ b ih=>
   by_cases e:a=b+1
   ·subst e;rw[qka];omega
   ·have h':a<=b:=by omega
    rw[qnz w (X3 b),qnz w h',ih h'];omega
def qa2(p:List Nat): List Nat:=if p=[] then [1] else p
theorem q5f(p:List Nat): 0<(qa2 p).length:=by
 unfold qa2
 split
 ·decide
 ·rename_i h
  exact Ua.mpr h
theorem qvr(p:List Nat)(q:Nat): weight p q=((qa2 p)[q%(qa2 p).length]?).getD 0:=by
 unfold weight qa2
 split
 ·rename_i h
  subst h
  simp
  have:q%1=0:=Nat.mod_one q
  simp[this]
 ·rename_i h
  have hl:0<p.length:=Ua.mpr h
  have:=Nat.mod_lt q hl
  rw[Jo this];rfl
def wsum(p:List Nat)(t:Nat): Nat:=t / (qa2 p).length*(qa2 p).sum+((qa2 p).take (t%(qa2 p).length)).sum
theorem take_sum_succ(l:List Nat){i:Nat}(h:i<l.length): (l.take (i+1)).sum=(l.take i).sum+(l[i]?).getD 0:=by
 rw[Xq,Z7,Jo h]
 simp
theorem zai(p:List Nat)(t:Nat): wsum p (t+1)=wsum p t+weight p t:=by
 have hn:=q5f p
 rw[qvr]
 unfold wsum
 generalize qa2 p=l at hn ⊢
 have hm:=Nat.mod_lt t hn
 by_cases e:t%l.length+1=l.length
 ·have hdiv:(t+1) / l.length=t / l.length+1:=by
   have h1:=Ue t l.length
   have:t+1=l.length*(t / l.length+1):=by rw[Nat.mul_add,Nat.mul_one];omega
   rw[this,Nat.mul_div_cancel_left _ hn]
  have hmod:(t+1)%l.length=0:=by
   have h1:=Ue t l.length
   have:t+1=l.length*(t / l.length+1):=by rw[Nat.mul_add,Nat.mul_one];omega
   rw[this,Nat.mul_mod_right]
  rw[hdiv,hmod]
  have:=take_sum_succ l (i:=t%l.length) (by omega)
  rw[e,Xh] at this
  rw[List.take_zero,List.sum_nil,Nat.add_mul,Nat.one_mul]
  omega
 ·have hdiv:(t+1) / l.length=t / l.length:=by
   have h1:=Ue t l.length
   rw[Nat.div_eq_of_lt_le]
   ·rw[Nat.mul_comm];omega
   ·rw[Nat.add_mul,Nat.one_mul,Nat.mul_comm];omega
  have hmod:(t+1)%l.length=t%l.length+1:=by
   have h1:=Ue t l.length
   have h2:=Ue (t+1) l.length
   rw[hdiv] at h2
   omega
  rw[hdiv,hmod,take_sum_succ l (by omega)]
  omega
theorem qvx(p:List Nat)(t:Nat): wsum p t=weights (weight p) 0 t:=by
 induction t with
 | zero=>
   rw[qka]
   unfold wsum
   simp
 |succ t ih=>rw[zai,ih,qnz _ (X3 t)]
theorem qn2(p:List Nat){a b:Nat}(h:a<=b): (wsum p b:Int)-(wsum p a:Int)=(weights (weight p) a b:Nat):=by
 rw[qvx,qvx,zaf (weight p) h];omega
theorem q4p(w:Nat->Nat)(a b:Nat)(x:Int): part w a b a x=0:=by
 unfold part
 split
 ·simp
 ·rw[qka];simp
theorem q9l(w:Nat->Nat)(rate:Int){a:Nat}{c:Int}{r:List (Nat×Int)}{t:Nat}(h:t<=a): through w rate ((a,c)::r) t=c:=by
 cases r with
 | nil=>
   rw[through]
   have:t-a=0:=by omega
   rw[this];simp
 | cons x r=>
   obtain⟨b,d⟩:=x
   rw[through,Je h]
theorem qvc(w:Nat->Nat)(rate:Int): ∀ (ks:List (Nat×Int)) {x:Nat×Int} {t:Nat},Inc (ks.map (·.1))->ks.getLast?=some x->x.1<=t->through w rate ks t=x.2+rate*(t-x.1:Nat)
 |[],_,_,_,h,_=>by cases h
 | [(a,c)],x,t,_,h,_=>by
   have:(a,c)=x:=Jj h
   subst this
   rw[through]
 | (a,c)::(b,d)::r,x,t,hi,h,hx=>by
   have h':((b,d)::r).getLast?=some x:=by rw[<- h,Xu]
   have hb:∀ (l:List (Nat×Int)) (b:Nat) (d:Int),Inc (((b,d)::l).map (·.1))->((b,d)::l).getLast?=some x->b<=x.1:=by
    intro l b d hl e
    have hm:=Zg e
    rcases Jf.mp hm with q|q
    ·rw[q];exact Jp _
    ·exact Xj ((Ju.mp hl).1 x.1 (Jk.mpr ⟨x,q,rfl⟩))
   rw[Jq] at hi
   have hi2:=Ju.mp hi
   have h1:=hi2.1 b (by simp)
   have h2:=hb r b d hi2.2 h'
   rw[through,Jc (by omega),Jc (by omega)]
   exact qvc w rate _ hi2.2 h' hx
def upTo(t:Nat)(l:List Nat): Nat:=(l.filter fun k=>decide (k<=t)).length
theorem q95{t:Nat}{l:List Nat}(h:∀ k∈l,t<k): upTo t l=0:=by
 unfold upTo
 rw[List.length_eq_zero_iff,Zo]
 intro k hk
 have:=h k hk
 simp;omega
theorem qvd(w:Nat->Nat)(rate:Int): ∀ (ks:List (Nat×Int)) {x y:Nat×Int} {t:Nat},Inc (ks.map (·.1))->ks.head?=some x->x.1<=t->ks.getLast?=some y->t<y.1 ->
  ∃ p a c b d,p+1=upTo t (ks.map (·.1))/\ks[p]?=some (a,c)/\ks[p+1]?=some (b,d)/\a<=t/\t<b/\through w rate ks t=c+part w a b t (d-c)
 |[],_,_,_,_,h,_,_,_=>by cases h
 | [(a,c)],x,y,t,_,h,hx,h',hy=>by
   have e1:(a,c)=x:=Jj h
   have e2:(a,c)=y:=Jj h'
   subst e1;subst e2;omega
 | (a,c)::(b,d)::r,x,y,t,hi,h,hx,h',hy=>by
   have e1:(a,c)=x:=Jj h
   subst e1
   have hy':((b,d)::r).getLast?=some y:=by rw[<- h',Xu]
   rw[Jq] at hi
   have hi2:=Ju.mp hi
   have hx:a<=t:=hx
   have up:upTo t (((a,c)::(b,d)::r).map (·.1))=upTo t (((b,d)::r).map (·.1))+1:=by
    rw[Jq]
    unfold upTo
    rw[Xg,Je (by simpa using hx)]
    rfl
   by_cases hb:t<b
   ·refine⟨0,a,c,b,d,?_,rfl,rfl,hx,hb,?_⟩
    ·rw[up,q95]
     intro k hk
     rw[Jq] at hk
     rcases Jf.mp hk with q|q
     ·rw[q];exact hb
     ·have:=(Ju.mp hi2.2).1 k q
      have:b<k:=this
      omega
    ·rw[through]
     by_cases e:t=a
     ·subst e;rw[Je (Jp _),q4p];omega
     ·rw[Jc (by omega),Je hb]
   ·obtain⟨p,a',c',b',d',h1,h2,h3,h4,h5,h6⟩:=qvd w rate ((b,d)::r) (x:=(b,d)) (t:=t) hi2.2 rfl (by show b<=t;omega) hy' hy
    refine⟨p+1,a',c',b',d',?_,h2,h3,h4,h5,?_⟩
    ·rw[up,<- h1]
    ·have:=hi2.1 b (by simp)
     rw[through,Jc (by omega),Jc hb,h6]
theorem qmk(p:List Nat){a b t:Nat}(h1:a<=t)(h2:t<=b)(x:Int): part (weight p) a b t x =
  if (wsum p b:Int)-wsum p a=0 then x*((t:Int)-a) / ((b:Int)-a) else x*((wsum p t:Int)-wsum p a) / ((wsum p b:Int)-wsum p a):=by
 unfold part
 rw[qn2 p (by omega:a<=b),qn2 p h1]
 have e1:((t-a:Nat):Int)=(t:Int)-a:=by omega
 have e2:((b-a:Nat):Int)=(b:Int)-a:=by omega
 rw[e1,e2]
 by_cases hz:weights (weight p) a b=0
 ·rw[Je hz,Je (by rw[hz];rfl)]
 ·rw[Jc hz,Jc (by omega)]
def qaq(b:Nat): Nat->Nat->List (Nat×Nat)->List (Nat×Nat×Nat)
 |begun,hand,[]=>[(begun,b,hand)]
 |begun,hand,(q,h)::r=>if b<=q then [(begun,b,hand)] else if begun<q then (begun,q,hand)::qaq b q h r else qaq b begun h r
def qb9(l:List (Nat×Nat))(k:Nat)(q:Nat): Nat:=(((l.filter fun x=>decide (x.1<=q)).getLast?).map (·.2)).getD k
def qdq(hand:Nat->Nat)(g:Nat->Nat->Int)(h:Nat): List Nat->Nat->Int
 |[],_=>0
 |[a],b=>if hand a=h then g a b else 0
 |a::c::r,b=>(if hand a=h then g a c else 0)+qdq hand g h (c::r) b
theorem qi1{hand hand':Nat->Nat}{g:Nat->Nat->Int}{h:Nat}: ∀ {l:List Nat} {b:Nat},(∀ x∈l,hand x=hand' x)->qdq hand g h l b=qdq hand' g h l b
 |[],_,_=>rfl
 |[a],b,e=>by unfold qdq;rw[e a Jh]
 | a::c::r,b,e=>by
   rw[qdq,qdq,e a Jh,qi1 fun x hx=>e x (Jm _ hx)]
def qbt(g:Nat->Nat->Int)(h:Nat)(l:List (Nat×Nat×Nat)): Int:=(l.map fun x=>if x.2.2=h then g x.1 x.2.1 else 0).sum
theorem qlu{q k:Nat}{l:List (Nat×Nat)}{k0 t:Nat}(h:q<=t): qb9 ((q,k)::l) k0 t=qb9 l k t:=by
 unfold qb9
 rw[Xg,Je (by simpa using h)]
 cases e:l.filter fun x=>decide (x.1<=t) with
 |nil=>rfl
 |cons a r=>rw[Xu,List.getLast?_cons];rfl
theorem qlv{l:List (Nat×Nat)}{k t:Nat}(h:∀ x∈l,t<x.1): qb9 l k t=k:=by
 unfold qb9
 have:l.filter (fun x=>decide (x.1<=t))=[]:=by
  rw[Zo]
  intro x hx
  have:=h x hx
  simp;omega
 rw[this];rfl
def qch(l:List (Nat×Nat))(a b:Nat): List Nat:=(l.filter fun x=>decide (a<x.1)&&decide (x.1<b)).map (·.1)
theorem qoz{l:List (Nat×Nat)}{a b t:Nat}(h:t∈qch l a b): a<t/\t<b:=by
 obtain⟨x,hx,rfl⟩:=Jk.mp h
 have:=(J2.mp hx).2
 simpa using this
theorem qmm(g:Nat->Nat->Int)(h b:Nat): ∀ (l:List (Nat×Nat)) (begun k:Nat),Inc (l.map (·.1))->begun<b ->
  qbt g h (qaq b begun k l)=qdq (qb9 l k) g h (begun::qch l begun b) b
 | [],begun,k,_,_=>by
   show (if k=h then g begun b else 0)+0=if k=h then g begun b else 0
   omega
 | (q,k')::r,begun,k,hi,hlt=>by
   rw[Jq] at hi
   have hi2:=Ju.mp hi
   have hr:∀ x∈r,q<x.1:=fun x hx=>hi2.1 x.1 (Jk.mpr ⟨x,hx,rfl⟩)
   rw[qaq]
   by_cases h1:b<=q
   ·rw[Je h1]
    have e1:qch ((q,k')::r) begun b=[]:=by
     unfold qch
     rw[List.map_eq_nil_iff,Zo]
     intro x hx
     have:b<=x.1:=by
      rcases Jf.mp hx with e|hx
      ·rw[e];exact h1
      ·have:=hr x hx;omega
     simp;omega
    have e2:qb9 ((q,k')::r) k begun=k:=qlv fun x hx=>by
     rcases Jf.mp hx with e|hx
     ·rw[e];show begun<q;omega
     ·have:=hr x hx;omega
    rw[e1]
    show (if k=h then g begun b else 0)+0=if qb9 ((q,k')::r) k begun=h then g begun b else 0
    rw[e2];omega
   ·rw[Jc h1]
    by_cases h2:begun<q
    ·rw[Je h2]
     have ih:=qmm g h b r q k' hi2.2 (by omega)
     have e2:qb9 ((q,k')::r) k begun=k:=qlv fun x hx=>by
      rcases Jf.mp hx with e|hx
      ·rw[e];exact h2
      ·have:=hr x hx;omega
     have e3:qch ((q,k')::r) begun b=q::qch r q b:=by
      unfold qch
      rw[Xg,Je (by simp;omega),Jq]
      congr 2
      refine List.filter_congr fun x hx=>?_
      have:=hr x hx
      have a1:decide (begun<x.1)=true:=by simpa using (by omega:begun<x.1)
      have a2:decide (q<x.1)=true:=by simpa using this
      rw[a1,a2]
     rw[e3]
     show (if k=h then g begun q else 0)+qbt g h (qaq b q k' r)=(if qb9 ((q,k')::r) k begun=h then g begun q else 0)+qdq (qb9 ((q,k')::r) k) g h (q::qch r q b) b
     rw[e2,ih]
     congr 1
     refine qi1 fun x hx=>?_
     have:q<=x:=by
      rcases Jf.mp hx with e|hx
      ·omega
      ·have:=(qoz hx).1;omega
     exact(qlu this).symm
    ·rw[Jc h2]
     have ih:=qmm g h b r begun k' hi2.2 hlt
     have e3:qch ((q,k')::r) begun b=qch r begun b:=by
      unfold qch
      rw[Xg,Jc (by simp;omega)]
     rw[e3,ih]
     refine qi1 fun x hx=>?_
     have:q<=x:=by
      rcases Jf.mp hx with e|hx
      ·omega
      ·have:=(qoz hx).1;omega
     exact(qlu this).symm
theorem qhr(b:Nat): ∀ (l:List (Nat×Nat)) (begun k:Nat),begun<=b->∀ x∈qaq b begun k l,begun<=x.1/\x.1<=x.2.1/\x.2.1<=b/\(x.2.2=k\/x.2.2∈l.map (·.2))
 | [],begun,k,h,x,hx=>by
   have e:=J3.mp hx
   subst e;exact⟨Jp _,h,Jp _,.inl rfl⟩
 | (q,k')::r,begun,k,h,x,hx=>by
   rw[qaq] at hx
   split at hx
   ·have e:=J3.mp hx
    subst e;exact⟨Jp _,h,Jp _,.inl rfl⟩
   ·split at hx
    ·rcases Jf.mp hx with e|hx
     ·subst e;exact⟨Jp _,by show begun<=q;omega,by show q<=b;omega,.inl rfl⟩
     ·have:=qhr b r q k' (by omega) x hx
      refine⟨by omega,this.2.1,this.2.2.1,?_⟩
      rcases this.2.2.2 with e|e
      ·exact .inr (by rw[e];simp)
      ·exact .inr (by rw[Jq];exact Jm _ e)
    ·have:=qhr b r begun k' h x hx
     refine⟨this.1,this.2.1,this.2.2.1,?_⟩
     rcases this.2.2.2 with e|e
     ·exact .inr (by rw[e];simp)
     ·exact .inr (by rw[Jq];exact Jm _ e)
def toldOf(s:State)(m:Nat): List (Nat×Nat):=(s.assigns.filter fun a=>a.meter==m).map fun a=>(a.quarter,a.hand)
theorem qps(s:State)(m q:Nat): Vbemai.hand s m q=qb9 (toldOf s m) 0 q:=by
 unfold Vbemai.hand qb9 toldOf
 rw[Wt,Y5,Option.map_map]
 rw[List.filter_filter]
 have:(fun a:Assign=>a.meter==m&&decide (a.quarter<=q))=fun a=>((fun x:Nat×Nat=>decide (x.1<=q)) ∘ fun a:Assign=>(a.quarter,a.hand)) a&&a.meter==m:=by
  funext a
  show (a.meter==m&&decide (a.quarter<=q))=(decide (a.quarter<=q)&&a.meter==m)
  exact Bool.and_comm _ _
 rw[this]
 rfl
theorem qxw(s:State)(m a b:Nat): cuts s m a b=a::qch (toldOf s m) a b:=by
 unfold cuts qch toldOf
 rw[Wt,Xy,List.filter_filter]
 have:(fun x:Assign=>x.meter==m&&(decide (a<x.quarter)&&decide (x.quarter<b)))=fun x=>((fun x:Nat×Nat=>decide (a<x.1)&&decide (x.1<b)) ∘ fun a:Assign=>(a.quarter,a.hand)) x&&x.meter==m:=by
  funext x
  exact Bool.and_comm _ _
 rw[this]
 rfl
theorem qpz(s:State)(m h:Nat): ∀ (l:List Nat) (b:Nat),inHands s m h l b=qdq (Vbemai.hand s m) (between s m) h l b
 |[],_=>rfl
 |[a],_=>rfl
 |a::c::r,b=>by rw[inHands,qdq,qpz s m h (c::r) b]
theorem held_eq(s:State)(m h:Nat){a b:Nat}(hab:a<=b)(hi:Inc ((toldOf s m).map (·.1))): held s m h a b=qbt (between s m) h (qaq b a 0 (toldOf s m)):=by
 unfold held
 by_cases e:a<b
 ·rw[Je e,qpz,qxw,qmm _ _ _ _ _ _ hi e]
  exact qi1 fun x _=>qps s m x
 ·have e:a=b:=by omega
  subst e
  rw[Jc (Yd _)]
  unfold qbt
  have z:∀ x∈qaq a a 0 (toldOf s m),(if x.2.2=h then between s m x.1 x.2.1 else 0)=0:=fun x hx=>by
   have:=qhr a _ a 0 (Jp _) x hx
   have e1:x.1=a:=by omega
   have e2:x.2.1=a:=by omega
   rw[e1,e2]
   unfold between
   split
   ·omega
   ·rfl
  have:∀ l:List (Nat×Nat×Nat),(∀ x∈l,(if x.2.2=h then between s m x.1 x.2.1 else 0)=0)->(l.map fun x=>if x.2.2=h then between s m x.1 x.2.1 else 0).sum=0:=by
   intro l
   induction l with
   |nil=>intro _;rfl
   | cons x l ih=>
     intro hl
     rw[Jq,Yx,hl x Jh,ih fun y hy=>hl y (Jm _ hy)]
     rfl
  exact(this _ z).symm
def signOf(k:Nat): Int:=if k=1 then 1 else if k=0 then -1 else 0
theorem sum_add{α:Type}(l:List α)(f g:α->Int): (l.map fun x=>f x+g x).sum=(l.map f).sum+(l.map g).sum:=by
 induction l with
 |nil=>rfl
 |cons x l ih=>simp only[Jq,Yx,ih];omega
theorem qno{α:Type}(l:List α)(f g:α->Int): (l.map fun x=>f x-g x).sum=(l.map f).sum-(l.map g).sum:=by
 induction l with
 |nil=>rfl
 |cons x l ih=>simp only[Jq,Yx,ih];omega
theorem qnp{α:Type}(l:List α)(f:α->Int)(h:∀ x∈l,f x=0): (l.map f).sum=0:=by
 induction l with
 |nil=>rfl
 |cons x l ih=>rw[Jq,Yx,h x Jh,ih fun y hy=>h y (Jm _ hy)];rfl
theorem sum_filter{α:Type}(l:List α)(p:α->Bool)(f:α->Int): ((l.filter p).map f).sum=(l.map fun x=>if p x=true then f x else 0).sum:=by
 induction l with
 |nil=>rfl
 | cons x l ih=>
   rw[Xg]
   by_cases e:p x=true
   ·rw[Je e,Jq,Yx,ih,Jq,Yx,Je e]
   ·rw[Jc e,ih,Jq,Yx,Jc e];omega
theorem q9g{α β:Type}(l:List α)(k:List β)(f:α->β->Int): (l.map fun x=>(k.map fun y=>f x y).sum).sum=(k.map fun y=>(l.map fun x=>f x y).sum).sum:=by
 induction l with
 |nil=>simp;exact(qnp k (fun _=>0) fun _ _=>rfl).symm
 |cons x l ih=>simp only[Jq,Yx,ih];rw[sum_add]
theorem qnn(z:Nat)(v:Int): ∀ n,((List.range n).map fun i=>if i=z then v else 0).sum=if z<n then v else 0
 | 0=>by simp
 | n+1=>by
   rw[Zu,Jv,Z7,qnn z v n]
   simp only[Jq,Zv,Yx,List.sum_nil]
   by_cases h1:z<n
   ·rw[Je h1,Jc (by omega),Je (by omega)];omega
   ·by_cases h2:n=z
    ·rw[Jc h1,Je h2,Je (by omega)];omega
    ·rw[Jc h1,Jc h2,Jc (by omega)];rfl
theorem sum_map_congr{α:Type}{l:List α}{f g:α->Int}(h:∀ x∈l,f x=g x): (l.map f).sum=(l.map g).sum:=by
 rw[X5 h]
theorem q15(s:State)(h a b:Nat)(hz:∀ m x,meter? s m=some x->x.zone<8):
  handNet s h a b=((numbers s).map fun m=>signOf (((meter? s m).map (·.kind)).getD 2)*held s m h a b).sum:=by
 unfold handNet sumOf handIn handOut sumOf those
 have e:∀ z,(((numbers s).filter fun m=>(meter? s m).any fun x=>x.kind==1&&x.zone==z).map fun m=>held s m h a b).sum-(((numbers s).filter fun m=>(meter? s m).any fun x=>x.kind==0&&x.zone==z).map fun m=>held s m h a b).sum
   = ((numbers s).map fun m=>(if (meter? s m).any (fun x=>x.kind==1&&x.zone==z)=true then held s m h a b else 0)-(if (meter? s m).any (fun x=>x.kind==0&&x.zone==z)=true then held s m h a b else 0)).sum:=by
  intro z
  rw[sum_filter,sum_filter,qno]
 rw[sum_map_congr (fun z _=>e z),q9g]
 refine sum_map_congr fun m _=>?_
 cases hm:meter? s m with
 | none=>
   rw[qnp]
   ·simp[signOf]
   ·intro z _
    simp
 | some x=>
   have hx:x.zone<ZONES:=hz m x hm
   simp only[Option.any_some,Option.map_some,Option.getD_some]
   have split:∀ (v:Int) (z:Nat),(if (x.zone==z)=true then v else 0)=if z=x.zone then v else 0:=fun v z=>by
    by_cases e:x.zone=z
    ·subst e;simp
    ·rw[Jc (by simpa using e),Jc (fun q=>e q.symm)]
   by_cases k1:x.kind=1
   ·have:∀ z∈List.range ZONES,((if (x.kind==1&&x.zone==z)=true then held s m h a b else 0)-(if (x.kind==0&&x.zone==z)=true then held s m h a b else 0))=if z=x.zone then held s m h a b else 0:=fun z _=>by
     rw[k1,<- split]
     simp
    rw[sum_map_congr this,qnn,Je hx]
    simp[signOf,k1]
   ·by_cases k0:x.kind=0
    ·have:∀ z∈List.range ZONES,((if (x.kind==1&&x.zone==z)=true then held s m h a b else 0)-(if (x.kind==0&&x.zone==z)=true then held s m h a b else 0))=if z=x.zone then -held s m h a b else 0:=fun z _=>by
      rw[k0,<- split]
      by_cases e:x.zone=z
      ·simp[e]
      ·simp[e]
     rw[sum_map_congr this,qnn,Je hx]
     simp[signOf,k0]
    ·rw[qnp]
     ·simp[signOf,k1,k0]
     ·intro z _
      simp[k1,k0]
structure Qih(d:Device): Prop where
 st:d.start<=10000
 v0:0<=d.value
 v1:d.value<10 ^ d.digits
 g0:1<=d.digits
 g1:d.digits<=9
 f0:1<=d.factor
 f1:d.factor<=10000
 fin:∀ e,d.finish=some e->e.1<=10000/\0<=e.2/\e.2<10 ^ d.digits
structure Qep(P:Nat)(x:Meter): Prop where
 kind:x.kind<=2
 zone:x.zone<8
 zone2:x.zone2<8
 prof:x.profile<=P
 r0:0<=x.rate
 r1:x.rate<=1000000
 chain:Chain x.devices
 dl:x.devices.length<=8
 dev:∀ d∈x.devices,Qih d
 zz:x.kind=2->x.zone≠x.zone2
structure Qkf(s:State)(r:Reading): Prop where
 m1:1<=r.meter
 dev:∃ x,s.meters[r.meter-1]?=some x/\∃ d∈x.devices,InD d r.at_
 tb:r.at_<=10000
 v0 : -1<=r.value
 v1:r.value<=999999999
 n0:1<=r.version
 n1:r.version<=1000000
structure AssOk(s:State)(a:Assign): Prop where
 m1:1<=a.meter
 m2:a.meter<=s.meters.length
 q:a.quarter<=9999
 h:a.hand<=32
structure Good(s:State): Prop where
 pl:s.profiles.length<=8
 pw:∀ p∈s.profiles,1<=p.length/\p.length<=96/\∀ w∈p,w<=1000
 ml:s.meters.length<=32
 mo:∀ x∈s.meters,Qep s.profiles.length x
 rs:s.readings.Pairwise fun x y=>before x y=true
 rl:s.readings.length<=256
 ro:∀ r∈s.readings,Qkf s r
 as:s.assigns.Pairwise fun x y=>beforeA x y=true
 al:s.assigns.length<=64
 ao:∀ a∈s.assigns,AssOk s a
 lk:s.locked<=10000
 pn:s.periods.length<=16
 pk:s.periods.Pairwise fun x y=>¬ (x.from_=y.from_/\x.to_=y.to_)
 po:∀ p∈s.periods,p.nets.length=33/\p.from_<=10000/\p.to_<=10000
theorem q13:Good start:=
 ⟨X3 _,(fun _ h=>nomatch h),X3 _,(fun _ h=>nomatch h),List.Pairwise.nil,X3 _,(fun _ h=>nomatch h),List.Pairwise.nil,X3 _,(fun _ h=>nomatch h),X3 _,X3 _,List.Pairwise.nil,(fun _ h=>nomatch h)⟩
theorem qng(g:Meter->Meter): ∀ (i:Nat) (l:List Meter) (j:Nat),(setMeter g i l)[j]?=if j=i then (l[j]?).map g else l[j]?
 |i,[],j=>by unfold setMeter;cases i<;>simp
 | 0,x::l,0=>rfl
 | 0,x::l,j+1=>rfl
 |i+1,x::l,0=>rfl
 | i+1,x::l,j+1=>by
   show (setMeter g i l)[j]?=_
   rw[qng g i l j]
   by_cases e:j=i
   ·simp[e]
   ·simp[e]
theorem qnh(g:Meter->Meter): ∀ (i:Nat) (l:List Meter),(setMeter g i l).length=l.length
 |i,[]=>by unfold setMeter;cases i<;>rfl
 | 0,x::l=>rfl
 |i+1,x::l=>by show (setMeter g i l).length+1=_;rw[qnh];rfl
theorem qes(t:Nat)(v:Int)(d:Device): ∀ pre:List Device,ended t v (pre++[d])=pre++[{ d with finish:=some (t,v) }]
 |[]=>rfl
 |[x]=>rfl
 | x::y::pre=>by
   show x::ended t v ((y::pre)++[d])=_
   rw[qes t v d (y::pre)];rfl
theorem qh9{α:Type}{l:List α}{d:α}(h:l.getLast?=some d): ∃ pre,l=pre++[d]:=by
 obtain⟨pre,e⟩:=List.getLast?_eq_some_iff.mp h
 exact⟨pre,e⟩
theorem qiq{t:Nat}{v:Int}{d:Device}(ht:d.start<t): ∀ {pre:List Device},Chain (pre++[d])->Chain (pre++[{ d with finish:=some (t,v) }])
 |[],_=>by intro e he;cases he;exact ht
 |[x],h=>⟨h.1,h.2.1,qiq (pre:=[]) ht h.2.2⟩
 |x::y::pre,h=>⟨h.1,h.2.1,qiq (pre:=y::pre) ht h.2.2⟩
theorem qkx{d n:Device}{v:Int}(hd:d.finish=some (n.start,v))(hn:n.finish=none): ∀ {pre:List Device},Chain (pre++[d])->Chain (pre++[d,n])
 |[],h=>⟨⟨v,hd⟩,h _ hd,by intro e he;rw[hn] at he;cases he⟩
 |[x],h=>⟨h.1,h.2.1,qkx (pre:=[]) hd hn h.2.2⟩
 |x::y::pre,h=>⟨h.1,h.2.1,qkx (pre:=y::pre) hd hn h.2.2⟩
theorem qkp{x y:Reading}: before x y=true↔x.meter<y.meter\/(x.meter=y.meter/\(x.at_<y.at_\/(x.at_=y.at_/\x.version<y.version))):=by
 unfold before;simp
theorem qwi{x y z:Reading}(h1:before x y=true)(h2:before y z=true): before x z=true:=by
 rw[qkp] at *;omega
theorem qwh{x y:Reading}(h:¬ before x y=true)(hne:¬ (y.meter=x.meter/\y.at_=x.at_/\y.version=x.version)): before y x=true:=by
 rw[qkp] at *;omega
theorem qhw(x:Reading): ∀ l:List Reading,(putReading x l).Perm (x::l)
 |[]=>Z4 _
 | y::r=>by
   unfold putReading
   split
   ·exact Z4 _
   ·exact((qhw x r).cons y).trans (List.Perm.swap x y r)
theorem qrx(x:Reading): ∀ {l:List Reading},(l.Pairwise fun x y=>before x y=true)->(∀ y∈l,¬ (y.meter=x.meter/\y.at_=x.at_/\y.version=x.version))->(putReading x l).Pairwise fun x y=>before x y=true
 |[],_,_=>Zh _ _
 | y::r,h,hne=>by
   have h2:=Ju.mp h
   unfold putReading
   split
   ·rename_i e
    refine Ju.mpr ⟨fun z hz=>?_,h⟩
    rcases Jf.mp hz with q|q
    ·rw[q];exact e
    ·exact qwi e (h2.1 z q)
   ·rename_i e
    refine Ju.mpr ⟨fun z hz=>?_,qrx x h2.2 fun z hz=>hne z (Jm _ hz)⟩
    rcases Jf.mp ((qhw x r).mem_iff.mp hz) with q|q
    ·rw[q];exact qwh e (hne y Jh)
    ·exact h2.1 z q
theorem qb7{x y:Assign}: beforeA x y=true↔x.meter<y.meter\/(x.meter=y.meter/\x.quarter<y.quarter):=by
 unfold beforeA;simp
theorem qji(x:Assign): ∀ {l:List Assign},(l.Pairwise fun x y=>beforeA x y=true)->∀ z,z∈putAssign x l↔z=x\/(z∈l/\¬ (z.meter=x.meter/\z.quarter=x.quarter))
 |[],_,z=>by unfold putAssign;simp
 | y::r,h,z=>by
   have h2:=Ju.mp h
   unfold putAssign
   split
   ·rename_i e
    simp only[Jf]
    constructor
    ·rintro (q|q)
     ·exact .inl q
     ·have:=qb7.mp (h2.1 z q)
      exact .inr ⟨.inr q,by omega⟩
    ·rintro (q|⟨q|q,n⟩)
     ·exact .inl q
     ·rw[q] at n;omega
     ·exact .inr q
   ·split
    ·rename_i e e2
     have e2:=qb7.mp e2
     simp only[Jf]
     constructor
     ·rintro (q|q|q)
      ·exact .inl q
      ·exact .inr ⟨.inl q,by rw[q];omega⟩
      ·have:=qb7.mp (h2.1 z q)
       exact .inr ⟨.inr q,by omega⟩
     ·rintro (q|⟨q|q,n⟩)
      ·exact .inl q
      ·exact .inr (.inl q)
      ·exact .inr (.inr q)
    ·rename_i e e2
     simp only[Jf]
     rw[qji x h2.2 z]
     constructor
     ·rintro (q|q|q)
      ·exact .inr ⟨.inl q,by rw[q];omega⟩
      ·exact .inl q
      ·exact .inr ⟨.inr q.1,q.2⟩
     ·rintro (q|⟨q|q,n⟩)
      ·exact .inr (.inl q)
      ·exact .inl q
      ·exact .inr (.inr ⟨q,n⟩)
theorem qru(x:Assign): ∀ {l:List Assign},(l.Pairwise fun x y=>beforeA x y=true)->(putAssign x l).Pairwise fun x y=>beforeA x y=true
 |[],_=>Zh _ _
 | y::r,h=>by
   have h2:=Ju.mp h
   unfold putAssign
   split
   ·rename_i e
    refine Ju.mpr ⟨fun z hz=>?_,h2.2⟩
    have:=qb7.mp (h2.1 z hz)
    rw[qb7];omega
   ·split
    ·rename_i e e2
     refine Ju.mpr ⟨fun z hz=>?_,h⟩
     rcases Jf.mp hz with q|q
     ·rw[q];exact e2
     ·have a1:=qb7.mp (h2.1 z q)
      have a2:=qb7.mp e2
      rw[qb7];omega
    ·rename_i e e2
     refine Ju.mpr ⟨fun z hz=>?_,qru x h2.2⟩
     rcases(qji x h2.2 z).mp hz with q|q
     ·rw[q]
      rw[qb7] at e2 ⊢
      omega
     ·exact h2.1 z q.1
theorem qrt(x:Assign): ∀ (l:List Assign),(l.Pairwise fun x y=>beforeA x y=true)->(putAssign x l).length=l.length+if l.any (fun a=>a.meter==x.meter&&a.quarter==x.quarter)=true then 0 else 1
 |[],_=>rfl
 | y::r,h=>by
   have h2:=Ju.mp h
   unfold putAssign
   rw[Y4]
   split
   ·rename_i e
    have:(y.meter==x.meter&&y.quarter==x.quarter)=true:=by simp;omega
    rw[this]
    simp
   ·rename_i e
    have ny:(y.meter==x.meter&&y.quarter==x.quarter)=false:=by
     rw[Wb];simp;omega
    rw[ny,Qy]
    split
    ·rename_i e2
     have e2:=qb7.mp e2
     have:r.any (fun a=>a.meter==x.meter&&a.quarter==x.quarter)=false:=by
      rw[Wb]
      intro q
      obtain⟨z,hz,e3⟩:=Y9.mp q
      have a1:=qb7.mp (h2.1 z hz)
      simp at e3
      omega
     rw[this]
     simp
    ·rw[Jz,qrt x r h2.2,Jz];omega
theorem Qep.mono{P P':Nat}{x:Meter}(h:Qep P x)(hp:P<=P'): Qep P' x:=⟨h.kind,h.zone,h.zone2,Xd h.prof hp,h.r0,h.r1,h.chain,h.dl,h.dev,h.zz⟩
theorem q1y{s:State}{l:List Nat}(G:Good s)(h1:1<=l.length)(h2:l.length<=96)(h3:∀ w∈l,w<=1000)(h:s.profiles.length<8): Good { s with profiles:=s.profiles++[l] }:=by
 refine⟨by simp;omega,fun p hp=>?_,G.ml,fun x hx=>(G.mo x hx).mono (by simp),G.rs,G.rl,fun r hr=>?_,G.as,G.al,fun a ha=>?_,G.lk,G.pn,G.pk,G.po⟩
 ·rcases J4.mp hp with q|q
  ·exact G.pw p q
  ·rw[J3.mp q];exact⟨h1,h2,h3⟩
 ·have:=G.ro r hr;exact⟨this.m1,this.dev,this.tb,this.v0,this.v1,this.n0,this.n1⟩
 ·have:=G.ao a ha;exact⟨this.m1,this.m2,this.q,this.h⟩
theorem q1w{s:State}{x:Meter}(G:Good s)(hx:Qep s.profiles.length x)(h:s.meters.length<32): Good { s with meters:=s.meters++[x] }:=by
 refine⟨G.pl,G.pw,by simp;omega,fun y hy=>?_,G.rs,G.rl,fun r hr=>?_,G.as,G.al,fun a ha=>?_,G.lk,G.pn,G.pk,G.po⟩
 ·rcases J4.mp hy with q|q
  ·exact G.mo y q
  ·rw[J3.mp q];exact hx
 ·have:=G.ro r hr
  obtain⟨y,hy,d⟩:=this.dev
  refine⟨this.m1,⟨y,?_,d⟩,this.tb,this.v0,this.v1,this.n0,this.n1⟩
  show (s.meters++[x])[r.meter-1]?=some y
  rw[Wg (Ji.mp hy).1];exact hy
 ·have:=G.ao a ha;exact⟨this.m1,by show a.meter<=(s.meters++[x]).length;have:=this.m2;simp;omega,this.q,this.h⟩
theorem meter?_some{s:State}{m:Nat}{x:Meter}(h:meter? s m=some x): 1<=m/\s.meters[m-1]?=some x:=by
 unfold meter? at h
 split at h
 ·cases h
 ·exact⟨by omega,h⟩
theorem Good.met{s:State}{m:Nat}{x:Meter}(G:Good s)(h:meter? s m=some x): Qep s.profiles.length x:=G.mo x (J0 (meter?_some h).2)
theorem qlt{s:State}{m:Nat}{x:Meter}{g:Meter->Meter}(G:Good s)(hm:meter? s m=some x)(hx:Qep s.profiles.length (g x))
  (hr:∀ r∈s.readings,r.meter=m->∀ d∈x.devices,InD d r.at_->∃ d'∈(g x).devices,InD d' r.at_): Good (changed s m g):=by
 obtain⟨h1,h2⟩:=meter?_some hm
 refine⟨G.pl,G.pw,by show (setMeter g (m-1) s.meters).length<=32;rw[qnh];exact G.ml,fun y hy=>?_,G.rs,G.rl,fun r hr'=>?_,G.as,G.al,fun a ha=>?_,G.lk,G.pn,G.pk,G.po⟩
 ·obtain⟨j,hj⟩:=Zw hy
  have hj:(setMeter g (m-1) s.meters)[j]?=some y:=hj
  rw[qng] at hj
  split at hj
  ·rename_i e
   rw[e,h2] at hj
   cases hj;exact hx
  ·exact G.mo y (J0 hj)
 ·have R:=G.ro r hr'
  obtain⟨y,hy,d,hd,hi⟩:=R.dev
  refine⟨R.m1,?_,R.tb,R.v0,R.v1,R.n0,R.n1⟩
  show ∃ x,(setMeter g (m-1) s.meters)[r.meter-1]?=some x/\_
  rw[qng]
  by_cases e:r.meter=m
  ·rw[Je (by omega),e,h2]
   rw[e,h2] at hy
   cases hy
   exact⟨g x,rfl,hr r hr' e d hd hi⟩
  ·have:=R.m1
   rw[Jc (by omega)]
   exact⟨y,hy,d,hd,hi⟩
 ·have A:=G.ao a ha
  exact⟨A.m1,by show a.meter<=(setMeter g (m-1) s.meters).length;rw[qnh];exact A.m2,A.q,A.h⟩
theorem q10{s:State}{m:Nat}{x:Meter}{r:Int}(G:Good s)(hm:meter? s m=some x)(h0:0<=r)(h1:r<=1000000): Good (changed s m fun x=>{ x with rate:=r }):=by
 have X:=G.met hm
 exact qlt G hm ⟨X.kind,X.zone,X.zone2,X.prof,h0,h1,X.chain,X.dl,X.dev,X.zz⟩ fun _ _ _ d hd hi=>⟨d,hd,hi⟩
theorem q11{s:State}{m t n:Nat}{v:Int}{x:Meter}{d:Device}(G:Good s)(hm:meter? s m=some x)(ht:t<=10000)(n0:1<=n)(n1:n<=1000000)(v0 : -1<=v)(v1:v<=999999999)
  (hd:x.devices.find? (within t)=some d)(hno:s.readings.any (fun r=>r.meter==m&&(r.at_==t&&r.version==n))=false)(hl:s.readings.length<256): Good { s with readings:=putReading ⟨m,t,n,v⟩ s.readings }:=by
 obtain⟨h1,h2⟩:=meter?_some hm
 have hin:InD d t:=by
  have hw:=List.find?_some hd
  unfold within at hw
  rw[Jw] at hw
  refine⟨by simpa using hw.1,fun e he=>?_⟩
  have:=hw.2
  rw[he] at this
  simpa using this
 have hR:Qkf s ⟨m,t,n,v⟩:=⟨h1,⟨x,h2,d,List.mem_of_find?_eq_some hd,hin⟩,ht,v0,v1,n0,n1⟩
 have P:=qhw ⟨m,t,n,v⟩ s.readings
 refine⟨G.pl,G.pw,G.ml,G.mo,qrx _ G.rs fun y hy q=>?_,by show (putReading _ s.readings).length<=256;rw[P.length_eq];simp;omega,fun r hr=>?_,G.as,G.al,fun a ha=>?_,G.lk,G.pn,G.pk,G.po⟩
 ·rw[List.any_eq_false] at hno
  exact hno y hy (by simp;exact q)
 ·have R:Qkf s r:=by
   rcases Jf.mp (P.mem_iff.mp hr) with q|q
   ·rw[q];exact hR
   ·exact G.ro r q
  exact⟨R.m1,R.dev,R.tb,R.v0,R.v1,R.n0,R.n1⟩
 ·have:=G.ao a ha;exact⟨this.m1,this.m2,this.q,this.h⟩
theorem qqn{x:Meter}(hc:Chain x.devices): ∃ pre d,x.devices=pre++[d]/\lastDevice x=some d:=by
 cases e:x.devices.getLast? with
 |none=>rw[List.getLast?_eq_none_iff] at e;rw[e] at hc;exact hc.elim
 | some d=>
   obtain⟨pre,q⟩:=qh9 e
   exact⟨pre,d,q,e⟩
theorem qq6{s:State}{m t:Nat}{v:Int}{x:Meter}(h:noEnd s m x t v=none)(hc:Chain x.devices):
  ∃ pre d,x.devices=pre++[d]/\d.finish=none/\d.start<t/\(∀ r∈s.readings,r.meter=m->r.at_<t)/\v<10 ^ d.digits:=by
 obtain⟨pre,d,e1,e2⟩:=qqn hc
 unfold noEnd at h
 split at h
 ·cases h
 ·split at h
  ·cases h
  ·rename_i n6
   split at h
   ·cases h
   ·rename_i n9
    split at h
    ·cases h
    ·rename_i n7
     rw[e2] at n6 n7
     unfold isOut at n6
     rw[e2] at n6
     simp at n6 n7
     refine⟨pre,d,e1,?_,by omega,fun r hr hm=>?_,?_⟩
     ·cases q:d.finish with
      |none=>rfl
      |some y=>rw[q] at n6;simp at n6
     ·simp at n9
      have:=n9 r (by unfold readingsOf;rw[J2];exact⟨hr,by simpa using hm⟩)
      omega
     ·unfold shows at n7
      simpa using n7
theorem qpy{d:Device}{t u:Nat}{v:Int}(h:InD d u)(hu:u<t): InD { d with finish:=some (t,v) } u:=⟨h.1,fun e he=>by cases he;exact hu⟩
theorem qo5{d:Device}{t:Nat}{v:Int}(D:Qih d)(ht:t<=10000)(v0:0<=v)(hv:v<10 ^ d.digits): Qih { d with finish:=some (t,v) }:=
 ⟨D.st,D.v0,D.v1,D.g0,D.g1,D.f0,D.f1,fun e he=>by cases he;exact⟨ht,v0,hv⟩⟩
theorem q12{s:State}{m t:Nat}{v:Int}{x:Meter}(G:Good s)(hm:meter? s m=some x)(hn:noEnd s m x t v=none)(ht:t<=10000)(v0:0<=v):
  Good (changed s m fun x=>{ x with devices:=ended t v x.devices }):=by
 have X:=G.met hm
 obtain⟨pre,d,e,hf,hlt,hr,hv⟩:=qq6 hn X.chain
 have hd:=X.dev d (by rw[e];simp)
 refine qlt G hm ⟨X.kind,X.zone,X.zone2,X.prof,X.r0,X.r1,?_,?_,?_,X.zz⟩ fun r hr' hm' y hy hi=>?_
 ·show Chain (ended t v x.devices)
  rw[e,qes]
  have:=X.chain
  rw[e] at this
  exact qiq hlt this
 ·show (ended t v x.devices).length<=8
  have:=X.dl
  rw[e] at this ⊢
  rw[qes];simpa using this
 ·intro y hy
  have hy:y∈ended t v x.devices:=hy
  rw[e,qes] at hy
  rcases J4.mp hy with q|q
  ·exact X.dev y (by rw[e];exact Zx _ q)
  ·rw[J3.mp q];exact qo5 hd ht v0 hv
 ·show ∃ d'∈ended t v x.devices,_
  rw[e,qes]
  rw[e] at hy
  rcases J4.mp hy with q|q
  ·exact⟨y,Zx _ q,hi⟩
  ·refine⟨_,Ye _ (J3.mpr rfl),?_⟩
   rw[J3.mp q] at hi
   exact qpy hi (hr r hr' hm')
theorem q14{s:State}{m t:Nat}{v:Int}{x:Meter}{n:Device}(G:Good s)(hm:meter? s m=some x)(hn:noEnd s m x t v=none)(ht:t<=10000)(v0:0<=v)
  (hs:n.start=t)(hnf:n.finish=none)(hN:Qih n)(hl:x.devices.length<8):
  Good (changed s m fun x=>{ x with devices:=ended t v x.devices++[n] }):=by
 have X:=G.met hm
 obtain⟨pre,d,e,hf,hlt,hr,hv⟩:=qq6 hn X.chain
 have hd:=X.dev d (by rw[e];simp)
 have ee:ended t v x.devices++[n]=pre++[{ d with finish:=some (t,v) },n]:=by rw[e,qes,Yv];rfl
 refine qlt G hm ⟨X.kind,X.zone,X.zone2,X.prof,X.r0,X.r1,?_,?_,?_,X.zz⟩ fun r hr' hm' y hy hi=>?_
 ·show Chain (ended t v x.devices++[n])
  rw[ee]
  have:=X.chain
  rw[e] at this
  exact qkx (v:=v) (by rw[hs]) hnf (qiq hlt this)
 ·show (ended t v x.devices++[n]).length<=8
  rw[ee]
  rw[e] at hl
  simp at hl ⊢;omega
 ·intro y hy
  have hy:y∈ended t v x.devices++[n]:=hy
  rw[ee] at hy
  rcases J4.mp hy with q|q
  ·exact X.dev y (by rw[e];exact Zx _ q)
  ·rcases Jf.mp q with q|q
   ·rw[q];exact qo5 hd ht v0 hv
   ·rw[J3.mp q];exact hN
 ·show ∃ d'∈ended t v x.devices++[n],_
  rw[ee]
  rw[e] at hy
  rcases J4.mp hy with q|q
  ·exact⟨y,Zx _ q,hi⟩
  ·refine⟨_,Ye _ Jh,?_⟩
   rw[J3.mp q] at hi
   exact qpy hi (hr r hr' hm')
theorem q1u{s:State}{m q h:Nat}{x:Meter}(G:Good s)(hm:meter? s m=some x)(hq:q<=9999)(hh:h<=32)
  (hl:¬ (64<=s.assigns.length/\s.assigns.any (fun a=>a.meter==m&&a.quarter==q)=false)): Good { s with assigns:=putAssign ⟨m,q,h⟩ s.assigns }:=by
 obtain⟨h1,h2⟩:=meter?_some hm
 have hlt:=(Ji.mp h2).1
 refine⟨G.pl,G.pw,G.ml,G.mo,G.rs,G.rl,fun r hr=>?_,qru _ G.as,?_,fun a ha=>?_,G.lk,G.pn,G.pk,G.po⟩
 ·have:=G.ro r hr;exact⟨this.m1,this.dev,this.tb,this.v0,this.v1,this.n0,this.n1⟩
 ·show (putAssign ⟨m,q,h⟩ s.assigns).length<=64
  rw[qrt _ _ G.as]
  have:=G.al
  cases e:s.assigns.any (fun a=>a.meter==m&&a.quarter==q) with
  |true=>rw[Je rfl];omega
  | false=>
    rw[Jc (by decide)]
    have:s.assigns.length<64:=by
     rcases Nat.lt_or_ge s.assigns.length 64 with z|z
     ·exact z
     ·exact absurd ⟨z,e⟩ hl
    omega
 ·rcases(qji _ G.as a).mp ha with z|z
  ·rw[z];exact⟨h1,by show m<=s.meters.length;omega,hq,hh⟩
  ·have:=G.ao a z.1;exact⟨this.m1,this.m2,this.q,this.h⟩
theorem q1x{s:State}{t:Nat}(G:Good s)(ht:t<=10000): Good { s with locked:=t }:=
 ⟨G.pl,G.pw,G.ml,G.mo,G.rs,G.rl,fun r hr=>by have:=G.ro r hr;exact⟨this.m1,this.dev,this.tb,this.v0,this.v1,this.n0,this.n1⟩,G.as,G.al,fun a ha=>by have:=G.ao a ha;exact⟨this.m1,this.m2,this.q,this.h⟩,ht,G.pn,G.pk,G.po⟩
theorem qmv(x:Period): ∀ (l:List Period),∀ z∈putPeriod x l,z=x\/z∈l
 |[],z,h=>.inl (J3.mp h)
 | y::r,z,h=>by
   unfold putPeriod at h
   split at h
   ·rcases Jf.mp h with q|q
    ·exact .inl q
    ·exact .inr (Jm _ q)
   ·rcases Jf.mp h with q|q
    ·exact .inr (by rw[q];exact Jh)
    ·rcases qmv x r z q with p|p
     ·exact .inl p
     ·exact .inr (Jm _ p)
theorem qrv(x:Period): ∀ {l:List Period},(l.Pairwise fun x y=>¬ (x.from_=y.from_/\x.to_=y.to_))->(putPeriod x l).Pairwise fun x y=>¬ (x.from_=y.from_/\x.to_=y.to_)
 |[],_=>Zh _ _
 | y::r,h=>by
   have h2:=Ju.mp h
   unfold putPeriod
   split
   ·rename_i e
    refine Ju.mpr ⟨fun z hz=>?_,h2.2⟩
    rw[e.1,e.2];exact h2.1 z hz
   ·rename_i e
    refine Ju.mpr ⟨fun z hz=>?_,qrv x h2.2⟩
    rcases qmv x r z hz with q|q
    ·rw[q];omega
    ·exact h2.1 z q
theorem qrw(x:Period): ∀ (l:List Period),(putPeriod x l).length=l.length+if (l.find? fun p=>p.from_==x.from_&&p.to_==x.to_).isSome=true then 0 else 1
 |[]=>rfl
 | y::r=>by
   unfold putPeriod
   rw[Yg]
   split
   ·rename_i e
    have:(y.from_==x.from_&&y.to_==x.to_)=true:=by simp;omega
    rw[this];simp
   ·rename_i e
    have:(y.from_==x.from_&&y.to_==x.to_)=false:=by rw[Wb];simp;omega
    rw[this]
    show (putPeriod x r).length+1=r.length+1+_
    rw[qrw x r]
    dsimp only
    omega
theorem q1z{s:State}{a b:Nat}{n:List Int}(G:Good s)(ha:a<=10000)(hb:b<=10000)(hn:n.length=33)(hl:¬ (16<=s.periods.length/\(lastNets s a b).isNone=true)): Good { s with periods:=putPeriod ⟨a,b,n⟩ s.periods }:=by
 refine⟨G.pl,G.pw,G.ml,G.mo,G.rs,G.rl,fun r hr=>by have:=G.ro r hr;exact⟨this.m1,this.dev,this.tb,this.v0,this.v1,this.n0,this.n1⟩,G.as,G.al,fun a ha=>by have:=G.ao a ha;exact⟨this.m1,this.m2,this.q,this.h⟩,G.lk,?_,qrv _ G.pk,fun p hp=>?_⟩
 ·show (putPeriod ⟨a,b,n⟩ s.periods).length<=16
  rw[qrw]
  have:=G.pn
  unfold lastNets at hl
  cases e:s.periods.find? (fun p=>p.from_==a&&p.to_==b) with
  | none=>
    rw[e] at hl
    have:s.periods.length<16:=by
     rcases Nat.lt_or_ge s.periods.length 16 with z|z
     ·exact z
     ·exact absurd ⟨z,rfl⟩ hl
    split<;>omega
  | some p=>
    rw[Je (show (some p).isSome=true from rfl)];omega
 ·rcases qmv _ _ p hp with q|q
  ·rw[q];exact⟨hn,ha,hb⟩
  ·exact G.po p q
abbrev Rds:=List (Nat×List (Nat×Int))
def qao(rd:Rds)(t:Nat): List (Nat×Int):=(rd.lookup t).getD []
structure Qcu(rd:Rds)(l:List Reading): Prop where
 nd:(rd.map (·.1)).Nodup
 ne:∀ e∈rd,e.2≠[]
 rel:∀ t,(qao rd t).Perm ((atT t l).map fun r=>(r.version,r.value))
theorem qkn{l:List Reading}(h:l.Pairwise RLt)(t:Nat): ((atT t l).map (·.version)).Pairwise (· < ·):=by
 have h1:(atT t l).Pairwise RLt:=h.sublist Wn
 rw[U1]
 refine Um (fun {a b} ha hb hab=>?_) h1
 have e1:a.at_=t:=by simpa using (J2.mp ha).2
 have e2:b.at_=t:=by simpa using (J2.mp hb).2
 rcases hab with z|z
 ·omega
 ·exact z.2
theorem qpr:∀ {l:List Reading} {m:Nat},(l.map (·.version)).Pairwise (· < ·)->m∈l.map (·.version)->(∀ k∈l.map (·.version),k<=m)->∃ r,l.getLast?=some r/\r.version=m
 |[],_,_,h,_=>by cases h
 |[r],m,_,h,_=>⟨r,rfl,by simpa using Eq.symm (J3.mp h)⟩
 | r::q::l,m,hp,h,hm=>by
   rw[Jq] at hp h hm
   have hp2:=Ju.mp hp
   have hq:q.version∈(q::l).map (·.version):=by simp
   have hne:m≠r.version:=fun e=>by
    have h1:=hp2.1 _ hq
    have h2:=hm _ (Jm _ hq)
    omega
   rcases Jf.mp h with e|h
   ·exact absurd e hne
   ·obtain⟨z,e1,e2⟩:=qpr hp2.2 h fun k hk=>hm k (Jm _ hk)
    exact⟨z,by rw[Xu];exact e1,e2⟩
theorem q43{vs ws:List (Nat×Int)}(h:vs.Perm ws)(n:(ws.map (·.1)).Nodup): (vs.map (·.1)).Nodup:=(h.map (·.1)).nodup_iff.mpr n
theorem qvn{rd:Rds}{l:List Reading}(R:Qcu rd l)(hl:l.Pairwise RLt)(t:Nat): ((qao rd t).map (·.1)).Nodup:=by
 refine q43 (R.rel t) ?_
 rw[Xy]
 have:=qkn hl t
 exact(show ((atT t l).map (·.version)).Nodup from this.imp fun h=>Xl h)
theorem q9b{rd:Rds}{l:List Reading}(R:Qcu rd l)(hl:l.Pairwise RLt){t m:Nat}(h1:m∈(qao rd t).map (·.1))(h2:∀ k∈(qao rd t).map (·.1),k<=m):
  ∃ r,(atT t l).getLast?=some r/\r.version=m/\(qao rd t).lookup m=some r.value:=by
 have P:=R.rel t
 have P1:=P.map (·.1)
 rw[Xy] at P1
 have P1:((qao rd t).map (·.1)).Perm ((atT t l).map (·.version)):=P1
 obtain⟨r,e1,e2⟩:=qpr (qkn hl t) (P1.mem_iff.mp h1) fun k hk=>h2 k (P1.mem_iff.mpr hk)
 refine⟨r,e1,e2,(lookup_mem (qvn R hl t)).mpr (P.mem_iff.mpr ?_)⟩
 exact Jk.mpr ⟨r,Zg e1,by rw[e2]⟩
theorem qvo{rd:Rds}{l:List Reading}(R:Qcu rd l)(t:Nat): qao rd t=[]↔atT t l=[]:=by
 have P:=R.rel t
 constructor
 ·intro e
  rw[e] at P
  simpa using P.symm.eq_nil
 ·intro e
  rw[e] at P
  exact P.eq_nil
theorem qi2{rd:Rds}{l:List Reading}(R:Qcu rd l)(t:Nat): t∈rd.map (·.1)↔∃ r∈l,r.at_=t:=by
 have h0:t∈rd.map (·.1)↔qao rd t≠[]:=by
  constructor
  ·intro h
   obtain⟨e,he,rfl⟩:=Jk.mp h
   have:rd.lookup e.1=some e.2:=(lookup_mem R.nd).mpr he
   unfold qao
   rw[this]
   exact R.ne e he
  ·intro h
   unfold qao at h
   cases q:rd.lookup t with
   |none=>rw[q] at h;exact absurd rfl h
   |some vs=>exact Jk.mpr ⟨(t,vs),(lookup_mem R.nd).mp q,rfl⟩
 rw[h0,ne_eq,qvo R t]
 constructor
 ·intro h
  obtain⟨r,hr⟩:=List.exists_mem_of_ne_nil _ h
  have:=J2.mp hr
  exact⟨r,this.1,by simpa using this.2⟩
 ·rintro ⟨r,hr,e⟩ h
  have:r∈atT t l:=J2.mpr ⟨hr,by simpa using e⟩
  rw[h] at this;cases this
theorem q2v{rd:Rds}{l:List Reading}{ds:List Device}(R:Qcu rd l)(hl:l.Pairwise RLt)(hc:Chain ds)(hin:∀ r∈l,∃ d∈ds,InD d r.at_):
  (ds.map (·.start)++(rd.map (·.1)).filter (fun t=>((standing l).lookup t).isSome)++((endOf ds).map (·.1)).toList).Perm (bounds (standing l) ds):=by
 have hs:=qnl hl
 have hst:∀ t,t∈(standing l).map (·.1)↔t∈(rd.map (·.1)).filter (fun t=>((standing l).lookup t).isSome):=fun t=>by
  rw[J2]
  have hlk:((standing l).lookup t).isSome=true↔t∈(standing l).map (·.1):=by
   constructor
   ·intro h
    obtain⟨x,hx⟩:=Uo.mp h
    exact Jk.mpr ⟨(t,x),(lookup_mem hs.nodup).mp hx,rfl⟩
   ·intro h
    obtain⟨e,he,rfl⟩:=Jk.mp h
    rw[(lookup_mem hs.nodup).mpr he];rfl
  constructor
  ·intro h
   refine⟨(qi2 R t).mpr ?_,hlk.mpr h⟩
   obtain⟨e,he,rfl⟩:=Jk.mp h
   exact qgu e he
  ·intro h
   exact hlk.mp h.2
 have hin':∀ t∈(standing l).map (·.1),∃ d∈ds,InD d t:=fun t ht=>by
  obtain⟨e,he,rfl⟩:=Jk.mp ht
  obtain⟨r,hr,er⟩:=qgu e he
  obtain⟨d,hd,hi⟩:=hin r hr
  exact⟨d,hd,er ▸ hi⟩
 have hnd:(ds.map (·.start)++(rd.map (·.1)).filter (fun t=>((standing l).lookup t).isSome)++((endOf ds).map (·.1)).toList).Nodup:=by
  rw[Yv,Zi]
  refine⟨hc.inc.nodup,?_,?_⟩
  ·rw[Zi]
   refine⟨R.nd.sublist Wn,?_,?_⟩
   ·cases endOf ds<;>simp
   ·intro a ha b hb e
    subst e
    obtain⟨d,hd,hi⟩:=hin' a ((hst a).mpr ha)
    cases q:endOf ds with
    |none=>rw[q] at hb;simp at hb
    | some x=>
      rw[q] at hb
      have hb:a=x.1:=by simpa using hb
      have:=hc.qma hd hi q
      omega
  ·intro a ha b hb e
   subst e
   obtain⟨d',hd',rfl⟩:=Jk.mp ha
   rcases J4.mp hb with q|q
   ·obtain⟨d,hd,hi⟩:=hin' _ ((hst _).mpr q)
    exact hc.qq2 hd hd' hi rfl
   ·cases z:endOf ds with
    |none=>rw[z] at q;simp at q
    | some x=>
      rw[z] at q
      have q:d'.start=x.1:=by simpa using q
      have:=hc.qgv z d' hd'
      omega
 refine(List.perm_ext_iff_of_nodup hnd (qks hs hc).nodup).mpr fun t=>?_
 rw[qmb hc hin' t,J4,J4,hst t]
 constructor
 ·rintro ((h|h)|h)
  ·exact .inl h
  ·exact .inr (.inl h)
  ·cases z:endOf ds with
   |none=>rw[z] at h;simp at h
   | some x=>
     rw[z] at h
     have h:t=x.1:=by simpa using h
     exact .inr (.inr ⟨x.2,by rw[h]⟩)
 ·rintro (h|h|⟨v,h⟩)
  ·exact .inl (.inl h)
  ·exact .inl (.inr h)
  ·exact .inr (by rw[h];simp)
theorem qgo{s:State}(G:Good s)(m:Nat): (readingsOf s m).Pairwise RLt:=by
 unfold readingsOf
 have h:=G.rs.sublist (Wn (p:=fun r:Reading=>r.meter==m))
 refine Um (fun {a b} ha hb hab=>?_) h
 have e1:a.meter=m:=by simpa using (J2.mp ha).2
 have e2:b.meter=m:=by simpa using (J2.mp hb).2
 have:=qkp.mp hab
 unfold RLt
 omega
theorem qr0{s:State}(G:Good s){m:Nat}{x:Meter}(hm:meter? s m=some x): ∀ r∈readingsOf s m,∃ d∈x.devices,InD d r.at_:=fun r hr=>by
 have h:=J2.mp hr
 have e:r.meter=m:=by simpa using h.2
 obtain⟨y,hy,d⟩:=(G.ro r h.1).dev
 rw[e,(meter?_some hm).2] at hy
 cases hy
 exact d
theorem qib{s:State}(G:Good s)(m:Nat): Inc ((toldOf s m).map (·.1)):=by
 unfold toldOf
 rw[Xy,Inc,U1]
 have h:=G.as.sublist (Wn (p:=fun r:Assign=>r.meter==m))
 refine Um (fun {a b} ha hb hab=>?_) h
 have e1:a.meter=m:=by simpa using (J2.mp ha).2
 have e2:b.meter=m:=by simpa using (J2.mp hb).2
 have:=qb7.mp hab
 show a.quarter<b.quarter
 omega
def tab(f:Nat->Int): List Int:=(List.range 33).map f
theorem qj5(f:Nat->Int): (tab f).length=33:=by unfold tab;simp
theorem qns(f:Nat->Int){h:Nat}(hh:h<33): (tab f)[h]?=some (f h):=by
 unfold tab
 rw[Jt,List.getElem?_range hh];rfl
theorem q9i{f g:Nat->Int}(h:∀ k,k<33->f k=g k): tab f=tab g:=by
 unfold tab
 exact X5 fun k hk=>h k (List.mem_range.mp hk)
theorem q9j(f:Nat->Int){h:Nat}(hh:h<33)(v:Int): (tab f).set h (f h+v)=tab fun k=>f k+if k=h then v else 0:=by
 refine List.ext_getElem? fun i=>?_
 by_cases hi:i<33
 ·rw[qns _ hi]
  by_cases e:i=h
  ·subst e
   rw[Zp (by rw[qj5];exact hi),Je rfl]
  ·rw[Zy (fun z=>e z.symm),qns _ hi,Jc e]
   congr 1;omega
 ·rw[Yn (by rw[Ug,qj5];omega),Yn (by rw[qj5];omega)]
theorem q9k:List.replicate 33 (0:Int)=tab fun _=>0:=by
 unfold tab
 refine List.ext_getElem? fun i=>?_
 by_cases hi:i<33
 ·rw[Jt,List.getElem?_range hi,Uw,Je hi];rfl
 ·rw[Yn (by simpa using hi),Yn (by simpa using hi)]
theorem q4o(g:Nat->Nat->Int)(h:Nat)(l:List (Nat×Nat×Nat))(x:Nat×Nat×Nat): qbt g h (l++[x])=qbt g h l+if x.2.2=h then g x.1 x.2.1 else 0:=by
 unfold qbt
 rw[Jv,Z7]
 simp
theorem q4a(f:Nat->Int)(sg:Int)(g:Nat->Nat->Int)(l:List (Nat×Nat×Nat))(x:Nat×Nat×Nat)(hx:x.2.2<33):
  (tab fun h=>f h+sg*qbt g h l).set x.2.2 (f x.2.2+sg*qbt g x.2.2 l+sg*g x.1 x.2.1)=tab fun h=>f h+sg*qbt g h (l++[x]):=by
 rw[q9j _ hx]
 refine q9i fun k _=>?_
 rw[q4o]
 by_cases e:k=x.2.2
 ·rw[Je e,Je e.symm,Int.mul_add];omega
 ·rw[Jc e,Jc (fun z=>e z.symm)];simp
def qcm(s:State)(a b k h:Nat): Int:=((List.range k).map fun i=>signOf (((s.meters[i]?).map (·.kind)).getD 2)*held s (i+1) h a b).sum
theorem q39(s:State)(a b k h:Nat): qcm s a b (k+1) h=qcm s a b k h+signOf (((s.meters[k]?).map (·.kind)).getD 2)*held s (k+1) h a b:=by
 unfold qcm
 rw[Zu,Jv,Z7];simp
theorem q38{s:State}(G:Good s)(a b:Nat): netsOf s a b=tab (qcm s a b s.meters.length):=by
 unfold netsOf tab
 refine X5 fun h _=>?_
 rw[q15 s h a b fun m x hm=>(G.met hm).zone]
 unfold qcm numbers
 rw[Xy]
 refine sum_map_congr fun i _=>?_
 show signOf (((meter? s (i+1)).map (·.kind)).getD 2)*held s (i+1) h a b=_
 rfl
def qef(l:List Int)(i:Nat): List Int:=(((List.range i).zip (l.take i)).filterMap fun x=>if x.2=0 then none else some [nat x.1,x.2]).flatten
theorem zas(l:List Int): ∀ {i:Nat},i<l.length->(List.range (i+1)).zip (l.take (i+1))=(List.range i).zip (l.take i)++[(i,(l[i]?).getD 0)]:=fun {i} h=>by
 rw[Zu,Xq,Jo h]
 rw[List.zip_append (by simp;omega)]
 rfl
theorem q25(l:List Int){i:Nat}{v:Int}(h:l[i]?=some v): qef l (i+1)=qef l i++if v=0 then [] else [(i:Int),v]:=by
 have hi:=(Ji.mp h).1
 unfold qef
 rw[zas l hi,List.filterMap_append,Wo,h]
 by_cases e:v=0
 ·subst e;simp
 ·simp[e];rfl
theorem q9o(l:List Int): told l=((l.filter fun x=>decide (x≠0)).length:Int)::qef l l.length:=by
 unfold told rows qef
 rw[Xh]
 congr 1
 have key:∀ (k:List Int) (z:List Nat),z.length=k.length->((z.zip k).filterMap fun x=>if x.2=0 then none else some [nat x.1,x.2]).length=(k.filter fun x=>decide (x≠0)).length:=by
  intro k
  induction k with
  |nil=>intro z hz;cases z<;>simp
  | cons a k ih=>
    intro z hz
    cases z with
    |nil=>simp at hz
    | cons b z=>
      have hz':z.length=k.length:=by simpa using hz
      rw[List.zip_cons_cons,Ub,Xg]
      by_cases e:a=0
      ·simp only[e,Wh]
       simpa using ih z hz'
      ·simp only[e,X9]
       have:=ih z hz'
       simp only[e,ne_eq,Zj,decide_true,Wh,Jz]
       simpa using this
 show ((_:Nat):Int)=_
 rw[key l _ (by simp)]
theorem zag(c:List (List Int)): PyVbemai.whole c=c:=by
 unfold PyVbemai.whole
 split<;>rfl
theorem qxj{f:Nat}{p:Int}{r:List Int}{cs:List (List (List Int))}(h:PyFlat.calls PyVbemai.shape f (p::r)=some cs):
  ∃ c t cs' f',PyFlat.call PyVbemai.shape (p::r)=some (c,t)/\cs=c::cs'/\PyFlat.calls PyVbemai.shape f' t=some cs':=by
 cases f with
 |zero=>simp[PyFlat.calls] at h
 | succ f=>
   rw[PyFlat.calls] at h
   cases e:PyFlat.call PyVbemai.shape (p::r) with
   |none=>rw[e] at h;simp at h
   | some x=>
     obtain⟨c,t⟩:=x
     rw[e] at h
     dsimp only at h
     cases e2:PyFlat.calls PyVbemai.shape f t with
     |none=>rw[e2] at h;simp at h
     | some cs'=>
       rw[e2] at h
       exact⟨c,t,cs',f,rfl,(Jj h).symm,e2⟩
theorem qxk{f:Nat}{cs:List (List (List Int))}(h:PyFlat.calls PyVbemai.shape f []=some cs): cs=[]:=by
 cases f<;>simp[PyFlat.calls] at h<;>exact h
theorem call_plain{p:Int}{n:Nat}{r:List Int}{c:List (List Int)}{t:List Int}(hs:PyVbemai.shape p=some (n,0))(h:PyFlat.call PyVbemai.shape (p::r)=some (c,t)): n<=r.length/\c=[p::r.take n]/\t=r.drop n:=by
 rw[PyFlat.call,hs] at h
 dsimp only at h
 split at h
 ·cases h
 ·rename_i hl
  rw[PyFlat.rows] at h
  cases h
  exact⟨by omega,rfl,rfl⟩
theorem qxg{r:List Int}{c:List (List Int)}{t:List Int}(h:PyFlat.call PyVbemai.shape (0::r)=some (c,t)): ∃ (n:Nat) (r':List Int),r=(n:Int)::r'/\n<=r'.length/\c=[[0],r'.take n]/\t=r'.drop n:=by
 have hs:PyVbemai.shape 0=some (0,1):=rfl
 rw[PyFlat.call,hs] at h
 dsimp only at h
 rw[Jc (by omega),List.drop_zero,List.take_zero] at h
 rw[PyFlat.rows] at h
 cases r with
 |nil=>simp[PyFlat.row] at h
 | cons z r'=>
   rw[PyFlat.row] at h
   by_cases hz:0<=z/\z.toNat<=r'.length
   ·rw[Je hz] at h
    simp only[PyFlat.rows] at h
    cases h
    refine⟨z.toNat,r',?_,hz.2,rfl,rfl⟩
    congr 1
    omega
   ·rw[Jc hz] at h
    simp at h
def Qdl:Call->Prop
 | .profile l=>1<=l.length/\l.length<=96/\∀ w∈l,w<=1000
 | .install k z y t d f v _ r=>k<=2/\z<8/\y<8/\t<=10000/\1<=d/\d<=9/\1<=f/\f<=10000/\0<=v/\0<=r/\r<=1000000
 | .read _ t n v=>t<=10000/\1<=n/\n<=1000000/\-1<=v/\v<=999999999
 | .swap _ t e v d f=>t<=10000/\0<=e/\0<=v/\1<=d/\d<=9/\1<=f/\f<=10000
 | .remove _ t e=>t<=10000/\0<=e
 | .rate _ r=>0<=r/\r<=1000000
 | .assign _ q h=>q<=9999/\h<=32
 | .lock t=>t<=10000
 | .publish a b=>a<=10000/\b<=10000
 |_=>True
theorem qgc(s:State)(a b:Nat): (netsOf s a b).length=33:=by unfold netsOf HANDS;simp
theorem q1v{s t:State}{c:Call}{l:List Int}(G:Good s)(h:Qdl c)(e:does s c = .ok (t,l)): Good t:=by
 have c1:PROFILES=8:=rfl
 have c2:METERS=32:=rfl
 have c3:READINGS=256:=rfl
 have c4:DEVICES=8:=rfl
 have c5:ASSIGNS=64:=rfl
 have c6:PERIODS=16:=rfl
 cases c with
 | profile w=>
   obtain⟨h1,h2,h3⟩:=h
   simp only[does] at e
   split at e
   ·cases e
   ·cases e;exact q1y G h1 h2 h3 (by omega)
 | install k z y t d f v p r=>
   obtain⟨h1,h2,h3,h4,h5,h6,h7,h8,h9,h10,h11⟩:=h
   simp only[does] at e
   split at e
   ·cases e
   ·rename_i n12
    split at e
    ·cases e
    ·rename_i n2
     split at e
     ·cases e
     ·split at e
      ·cases e
      ·rename_i n7
       split at e
       ·cases e
       ·cases e
        refine q1w G ⟨h1,h2,h3,by show p<=_;omega,h10,h11,?_,by simp,?_,fun q=>?_⟩ (by omega)
        ·intro e he;cases he
        ·intro x hx
         rw[J3.mp hx]
         refine⟨h4,h9,?_,h5,h6,h7,h8,fun e he=>by cases he⟩
         unfold shows at n7
         simpa using n7
        ·have q:k=2:=q
         intro z2
         exact n12 (.inl ⟨q,z2⟩)
 | read m t n v=>
   obtain⟨h1,h2,h3,h4,h5⟩:=h
   simp only[does] at e
   split at e
   ·cases e
   ·rename_i x hx
    split at e
    ·cases e
    ·split at e
     ·cases e
     ·rename_i d hd
      split at e
      ·cases e
      ·split at e
       ·cases e
       ·rename_i n8
        split at e
        ·cases e
        ·cases e
         exact q11 G hx h1 h2 h3 h4 h5 hd (by simpa using n8) (by omega)
 | swap m t f v d g=>
   obtain⟨h1,h2,h3,h4,h5,h6,h7⟩:=h
   simp only[does] at e
   split at e
   ·cases e
   ·rename_i x hx
    split at e
    ·cases e
    ·rename_i hn
     split at e
     ·cases e
     ·rename_i n7
      split at e
      ·cases e
      ·cases e
       refine q14 G hx hn h1 h2 rfl rfl ⟨h1,h3,?_,h4,h5,h6,h7,fun e he=>by cases he⟩ (by omega)
       unfold shows at n7
       simpa using n7
 | remove m t f=>
   obtain⟨h1,h2⟩:=h
   simp only[does] at e
   split at e
   ·cases e
   ·rename_i x hx
    split at e
    ·cases e
    ·rename_i hn
     cases e
     exact q12 G hx hn h1 h2
 | rate m r=>
   obtain⟨h1,h2⟩:=h
   simp only[does] at e
   split at e
   ·cases e
   ·rename_i hn
    cases q:meter? s m with
    |none=>rw[q] at hn;simp at hn
    |some x=>cases e;exact q10 G q h1 h2
 | assign m q h'=>
   obtain⟨h1,h2⟩:=h
   simp only[does] at e
   split at e
   ·cases e
   ·rename_i x hx
    split at e
    ·cases e
    ·split at e
     ·cases e
     ·split at e
      ·cases e
      ·rename_i hl
       cases e
       exact q1u G hx h1 h2 hl
 | lock t=>
   simp only[does] at e
   split at e
   ·cases e
   ·split at e
    ·cases e
    ·cases e;exact q1x G h
 | publish a b=>
   obtain⟨h1,h2⟩:=h
   simp only[does] at e
   split at e
   ·cases e
   ·split at e
    ·cases e
    ·rename_i hl
     cases e
     exact q1z G h1 h2 (qgc s a b) hl
 |standing m t=>simp only[does] at e;split at e<;>cases e;exact G
 |history m t=>simp only[does] at e;split at e<;>cases e;exact G
 |value m t=>simp only[does] at e;split at e<;>cases e;exact G
 | between m a b=>
   simp only[does] at e
   split at e
   ·cases e
   ·split at e<;>cases e;exact G
 |through m t=>simp only[does] at e;split at e<;>cases e;exact G
 |hand m t=>simp only[does] at e;split at e<;>cases e;exact G
 |total h z a b=>simp only[does] at e;split at e<;>cases e;exact G
 |rest z a b=>simp only[does] at e;split at e<;>cases e;exact G
 |nets a b=>simp only[does] at e;split at e<;>cases e;exact G
 |gaps m=>simp only[does] at e;split at e<;>cases e;exact G
 |doubt m r=>simp only[does] at e;split at e<;>cases e;exact G
 |unread t=>simp only[does] at e;cases e;exact G
 |published a b=>simp only[does] at e;cases e;exact G
 |state=>simp only[does] at e;cases e;exact G
theorem qeb{s:State}{c:Call}(G:Good s)(h:Qdl c): Good (step s c).1:=by
 unfold step
 cases e:does s c with
 |error z=>exact G
 |ok x=>obtain⟨t,l⟩:=x;exact q1v G h e
def qal(s:State)(k:Nat): List (Nat×Int):=standing (readingsOf s k)
def kn(s:State)(k:Nat): List Nat:=(knotsOf s k).map (·.1)
def am(s:State)(k:Nat): List Int:=match meter? s k with
 |none=>[]
 |some x=>qcf (qb2 (qal s k) x.devices) (kn s k)
section
variable {s:State} {k:Nat} {x:Meter}
theorem qi5(hm:meter? s k=some x): knotsOf s k=knots (qal s k) x.devices:=by unfold knotsOf;rw[hm];rfl
theorem qf8(hm:meter? s k=some x): kn s k=bounds (qal s k) x.devices:=by unfold kn;rw[qi5 hm,qqf]
theorem qfw(hm:meter? s k=some x): am s k=qcf (qb2 (qal s k) x.devices) (kn s k):=by unfold am;rw[hm]
theorem qj1(G:Good s): Inc ((qal s k).map (·.1)):=qnl (qgo G k)
theorem st_in(G:Good s)(hm:meter? s k=some x): ∀ t∈(qal s k).map (·.1),∃ d∈x.devices,InD d t:=fun t ht=>by
 obtain⟨p,hp,e⟩:=Jk.mp ht
 obtain⟨r,hr,e2⟩:=qgu p hp
 obtain⟨d,hd,hi⟩:=qr0 G hm r hr
 rw[e2,e] at hi
 exact⟨d,hd,hi⟩
theorem st_le(G:Good s): ∀ t∈(qal s k).map (·.1),t<=10000:=fun t ht=>by
 obtain⟨p,hp,e⟩:=Jk.mp ht
 obtain⟨r,hr,e2⟩:=qgu p hp
 have hr':r∈s.readings:=(J2.mp hr).1
 have:=(G.ro r hr').tb
 omega
theorem qfg(G:Good s)(hm:meter? s k=some x): Inc (kn s k):=by
 rw[qf8 hm];exact qks (qj1 G) (G.met hm).chain
theorem qi4(G:Good s)(hm:meter? s k=some x): kn s k≠[]:=by
 rw[qf8 hm]
 have:=(G.met hm).chain
 cases e:x.devices with
 |nil=>rw[e] at this;exact this.elim
 |cons d r=>unfold bounds;simp
theorem qi3(G:Good s)(hm:meter? s k=some x): ∀ t∈kn s k,t<=10000:=fun t ht=>by
 have X:=G.met hm
 rw[qf8 hm,qmb X.chain (st_in G hm)] at ht
 rcases ht with h|h|⟨v,h⟩
 ·obtain⟨d,hd,e⟩:=Jk.mp h
  have:=(X.dev d hd).st
  omega
 ·exact st_le G t h
 ·unfold endOf at h
  cases e:x.devices.getLast? with
  |none=>rw[e] at h;cases h
  | some d=>
    rw[e] at h
    have:=((X.dev d (Zg e)).fin (t,v) h).1
    exact this
theorem qp1:∀ {l:List Nat} {a N:Nat},Inc l->(∀ t∈l,a<=t/\t<=N)->l.length<=N+1-a
 |[],_,_,_,_=>X3 _
 | t::l,a,N,h,hb=>by
   obtain⟨h1,h2⟩:=Ju.mp h
   have b1:=hb t Jh
   have:=qp1 (a:=t+1) (N:=N) h2 fun u hu=>⟨h1 u hu,(hb u (Jm _ hu)).2⟩
   rw[Jz]
   omega
theorem ql4(G:Good s)(hm:meter? s k=some x): (kn s k).length<=10001:=
 qp1 (a:=0) (N:=10000) (qfg G hm) fun t ht=>⟨X3 _,qi3 G hm t ht⟩
theorem qn8(f:Nat->Nat->Int): ∀ l:List Nat,l≠[]->(qcf f l).length+1=l.length
 |[],h=>absurd rfl h
 |[a],_=>rfl
 | a::b::r,_=>by
   show (qcf f (b::r)).length+1+1=(b::r).length+1
   rw[qn8 f (b::r) (by simp)]
theorem qki(f:Nat->Nat->Int): ∀ (l:List Nat) (i a b:Nat),l[i]?=some a->l[i+1]?=some b->(qcf f l)[i]?=some (f a b)
 |[],_,_,_,h,_=>by simp at h
 |[z],i,a,b,h,h2=>by simp at h2
 | y::z::r,0,a,b,h,h2=>by
   simp at h h2;subst h;subst h2;rfl
 | y::z::r,i+1,a,b,h,h2=>by
   show (qcf f (z::r))[i]?=_
   exact qki f (z::r) i a b (by simpa using h) (by simpa using h2)
theorem qkh(G:Good s)(hm:meter? s k=some x): (am s k).length+1=(kn s k).length:=by
 rw[qfw hm];exact qn8 _ _ (qi4 G hm)
theorem qvh(G:Good s)(hm:meter? s k=some x): (knotsOf s k).map (·.2)=sums 0 (am s k):=by
 rw[qfw hm,qf8 hm,qi5 hm]
 exact q2w (qj1 G) (G.met hm).chain
theorem qv1(G:Good s)(hm:meter? s k=some x)(a b:Nat): 0<=qb2 (qal s k) x.devices a b/\qb2 (qal s k) x.devices a b<=10000000000000:=by
 unfold qb2
 cases e:qdp x.devices a with
 |none=>exact⟨Int.le_refl 0,show (0:Int)<=10000000000000 by decide⟩
 | some d=>
   have hd:d∈x.devices:=by
    unfold qdp at e
    exact(J2.mp (Zg e)).1
   have D:=(G.met hm).dev d hd
   have p0:(0:Int)<10 ^ d.digits:=Int.pow_pos (by decide)
   have p1:(10:Int) ^ d.digits<=10 ^ 9:=by
    have h:=Nat.pow_le_pow_right (n:=10) (by decide) D.g1
    exact_mod_cast h
   have q0:=Int.emod_nonneg (qby (qal s k) d b-qby (qal s k) d a) (by omega:(10:Int) ^ d.digits≠0)
   have q1:=Int.emod_lt_of_pos (qby (qal s k) d b-qby (qal s k) d a) p0
   have f0:=D.f0
   have f1:=D.f1
   refine⟨Int.mul_nonneg q0 (by omega),?_⟩
   have n9:(10:Int) ^ 9=1000000000:=by decide
   have q2:(qby (qal s k) d b-qby (qal s k) d a)%10 ^ d.digits<=1000000000:=by omega
   have h:=Int.mul_le_mul q2 f1 (by omega) (by decide)
   exact Int.le_trans h (by decide)
theorem qn9(f:Nat->Nat->Int): ∀ (l:List Nat) (v:Int),v∈qcf f l->∃ a b,v=f a b
 |[],v,h=>by cases h
 |[a],v,h=>by cases h
 | a::b::r,v,h=>by
   rcases Jf.mp (show v∈f a b::qcf f (b::r) from h) with e|e
   ·exact⟨a,b,e⟩
   ·exact qn9 f (b::r) v e
theorem qv0(G:Good s)(hm:meter? s k=some x): ∀ v∈am s k,0<=v/\v<=10000000000000:=fun v hv=>by
 rw[qfw hm] at hv
 obtain⟨a,b,e⟩:=qn9 _ _ _ hv
 rw[e];exact qv1 G hm a b
theorem qgw:∀ (l:List Int) (c:Int) (i:Nat),i<=l.length->(sums c l)[i]?=some (c+(l.take i).sum)
 | [],c,i,h=>by
   have e:i=0:=by simpa using h
   subst e;show some c=some (c+0);rw[Int.add_zero]
 |x::l,c,0,_=>by show some c=some (c+0);rw[Int.add_zero]
 | x::l,c,i+1,h=>by
   show (sums (c+x) l)[i]?=_
   rw[qgw l (c+x) i (by simpa using h),List.take_succ_cons,Yx,Int.add_assoc]
theorem qia(l:List Int)(c:Int): (sums c l).getLast?=some (c+l.sum):=by
 rw[Uh,qj2,Za,qgw l c l.length (Jp _),Xh]
theorem q9h(l:List Int)(z:Int): sums 0 (l++(some z).toList)=sums 0 l++[l.sum+z]:=by
 show sums 0 (l++[z])=_
 rw[qu1,qia]
 show _++[0+l.sum+z]=_
 rw[Up]
theorem qqd{i:Nat}{p:Nat×Int}(h:(knotsOf s k)[i]?=some p): (kn s k)[i]?=some p.1/\((knotsOf s k).map (·.2))[i]?=some p.2:=by
 unfold kn
 rw[Jt,Jt,h]
 exact⟨rfl,rfl⟩
theorem qqe(G:Good s)(hm:meter? s k=some x): ∃ a r,knotsOf s k=(a,0)::r:=by
 rw[qi5 hm]
 have:=(G.met hm).chain
 cases e:x.devices with
 |nil=>rw[e] at this;exact this.elim
 |cons d r=>exact⟨d.start,_,rfl⟩
theorem qwn(G:Good s)(hm:meter? s k=some x){a t:Nat}(ha:(kn s k).head?=some a)(h:t<=a): by_ s k t=0:=by
 obtain⟨b,r,e⟩:=qqe G hm
 unfold kn at ha
 unfold by_
 rw[hm]
 show through _ _ (knotsOf s k) t=0
 rw[e] at ha ⊢
 have:b=a:=Jj ha
 subst this
 exact q9l _ _ h
theorem qwo(G:Good s)(hm:meter? s k=some x){a t:Nat}(ha:(kn s k).getLast?=some a)(h:a<=t): by_ s k t=(am s k).sum+rateOf x*((t:Int)-a):=by
 have hl:∃ p,(knotsOf s k).getLast?=some p/\p.1=a:=by
  unfold kn at ha
  rw[Y5] at ha
  cases e:(knotsOf s k).getLast? with
  |none=>rw[e] at ha;cases ha
  |some p=>rw[e] at ha;exact⟨p,rfl,Jj ha⟩
 obtain⟨p,hp,rfl⟩:=hl
 have hi:Inc ((knotsOf s k).map (·.1)):=qfg G hm
 unfold by_
 rw[hm]
 show through _ _ (knotsOf s k) t=_
 rw[qvc _ _ (knotsOf s k) hi hp h]
 have e2:p.2=(am s k).sum:=by
  have h2:=qvh G hm
  have h3:=Ym List.getLast? h2
  rw[Y5,hp,qia] at h3
  have h4:p.2=0+(am s k).sum:=Jj h3
  omega
 rw[e2]
 congr 2
 omega
theorem by_mid(G:Good s)(hm:meter? s k=some x){a b t:Nat}(ha:(kn s k).head?=some a)(h1:a<=t)(hb:(kn s k).getLast?=some b)(h2:t<b):
  ∃ p u v am',p+1=upTo t (kn s k)/\(kn s k)[p]?=some u/\(kn s k)[p+1]?=some v/\(am s k)[p]?=some am'/\u<=t/\t<v /\
    by_ s k t=((am s k).take p).sum+(if (wsum (profileOf s x) v:Int)-wsum (profileOf s x) u=0 then am' * ((t:Int)-u) / ((v:Int)-u) else am' * ((wsum (profileOf s x) t:Int)-wsum (profileOf s x) u) / ((wsum (profileOf s x) v:Int)-wsum (profileOf s x) u)):=by
 have hi:Inc ((knotsOf s k).map (·.1)):=qfg G hm
 have hx:∃ q,(knotsOf s k).head?=some q/\q.1=a:=by
  unfold kn at ha
  rw[List.head?_map] at ha
  cases e:(knotsOf s k).head? with
  |none=>rw[e] at ha;cases ha
  |some p=>rw[e] at ha;exact⟨p,rfl,Jj ha⟩
 have hy:∃ q,(knotsOf s k).getLast?=some q/\q.1=b:=by
  unfold kn at hb
  rw[Y5] at hb
  cases e:(knotsOf s k).getLast? with
  |none=>rw[e] at hb;cases hb
  |some p=>rw[e] at hb;exact⟨p,rfl,Jj hb⟩
 obtain⟨qa,hqa,rfl⟩:=hx
 obtain⟨qb,hqb,rfl⟩:=hy
 obtain⟨p,u,c,v,d,e1,e2,e3,h3,h4,e4⟩:=qvd (weight (profileOf s x)) (rateOf x) (knotsOf s k) hi hqa h1 hqb h2
 have g2:=qqd e2
 have g3:=qqd e3
 have hA:=qki (qb2 (qal s k) x.devices) (kn s k) p u v g2.1 g3.1
 rw[<- qfw hm] at hA
 rw[qvh G hm] at g2 g3
 have hp:p+1<=(am s k).length:=by
  have h5:=qkh G hm
  have h6:=(Ji.mp g3.1).1
  omega
 have hc:c=((am s k).take p).sum:=by
  have:=g2.2
  rw[qgw _ _ _ (by omega)] at this
  have:=Jj this
  show c=_
  have:(0:Int)+((am s k).take p).sum=c:=this
  omega
 have hd:d-c=qb2 (qal s k) x.devices u v:=by
  have:=g3.2
  rw[qgw _ _ _ hp] at this
  have:(0:Int)+((am s k).take (p+1)).sum=d:=Jj this
  rw[Xq,hA] at this
  simp at this
  omega
 refine⟨p,u,v,_,e1,g2.1,g3.1,hA,h3,h4,?_⟩
 unfold by_
 rw[hm]
 show through _ _ (knotsOf s k) t=_
 rw[e4,hd,qmk _ h3 (Xj h4),hc]
theorem q9c(G:Good s)(hm:meter? s k=some x){a b q:Nat}(ha:(kn s k).head?=some a)(hb:(kn s k).getLast?=some b):
  status s k q=if q<a then 0 else if b<=q then (if isOut x=true then 0 else 3) else if (kn s k).contains q=true/\(kn s k).contains (q+1)=true then 1 else 2:=by
 unfold status
 rw[hm]
 show (if q<(kn s k).headD 0 then 0 else if (kn s k).contains q=true/\(kn s k).contains (q+1)=true then 1 else if q<(kn s k).getLastD 0 then 2 else if isOut x=true then 0 else 3)=_
 have e1:(kn s k).headD 0=a:=by cases e:kn s k with
  |nil=>rw[e] at ha;cases ha
  |cons z r=>rw[e] at ha;exact Jj ha
 have e2:(kn s k).getLastD 0=b:=by rw[List.getLastD_eq_getLast?,hb];rfl
 rw[e1,e2]
 by_cases h1:q<a
 ·rw[Je h1,Je h1]
 ·rw[Jc h1,Jc h1]
  by_cases h2:b<=q
  ·have hn:¬ ((kn s k).contains q=true/\(kn s k).contains (q+1)=true):=by
    rintro ⟨_,h⟩
    have hmem:q+1∈kn s k:=by simpa using h
    have hi:=qfg G hm
    have hle:∀ t∈kn s k,t<=b:=by
     obtain⟨pre,e⟩:=qh9 hb
     intro t ht
     rw[e] at ht hi
     rcases J4.mp ht with h|h
     ·exact Xj ((Zf.mp hi).2.2 t h b (by simp))
     ·rw[J3.mp h];exact Jp _
    have:=hle _ hmem
    omega
   rw[Jc hn,Jc (by omega),Je h2]
  ·rw[Jc h2]
   by_cases h3:(kn s k).contains q=true/\(kn s k).contains (q+1)=true
   ·rw[Je h3,Je h3]
   ·rw[Jc h3,Jc h3,Je (by omega)]
theorem qpq(f:Nat->Nat->Int): ∀ (r:List (Nat×Int)) (a:Nat) (c:Int),Qcd f ((a,c)::r)->gaps ((a,c)::r)=(((a,c)::r).map (·.1)).zip ((r.map (·.1)).zip (qcf f (((a,c)::r).map (·.1))))
 |[],a,c,_=>rfl
 | (b,d)::r,a,c,h=>by
   have h1:d=c+f a b:=h.1
   show (a,b,d-c)::gaps ((b,d)::r)=(a,(b,f a b))::_
   rw[qpq f r b d h.2]
   have:d-c=f a b:=by omega
   rw[this]
   rfl
theorem qix(G:Good s)(hm:meter? s k=some x): gaps (knotsOf s k)=(kn s k).zip ((kn s k).tail.zip (am s k)):=by
 obtain⟨a,r,e⟩:=qqe G hm
 have L:=qqg (qj1 (k:=k) G) (G.met hm).chain
 rw[<- qi5 hm,e] at L
 rw[qfw hm]
 unfold kn
 rw[e,qpq _ r a 0 L]
 rfl
end
theorem qre(q:Nat): ∀ (l:List (Nat×Nat)) (k:Nat),Inc (l.map (·.1))->qaq (q+1) q k l=[(q,q+1,qb9 l k q)]
 |[],k,_=>rfl
 | (t,h)::r,k,hi=>by
   obtain⟨h1,h2⟩:=Ju.mp (show Inc (t::r.map (·.1)) from hi)
   unfold qaq
   by_cases e:q+1<=t
   ·rw[Je e,qlv (l:=(t,h)::r)]
    intro x hx
    rcases Jf.mp hx with z|z
    ·rw[z];exact e
    ·have:=h1 x.1 (Jk.mpr ⟨x,z,rfl⟩)
     omega
   ·rw[Jc e,Jc (by omega),qre q r h h2,qlu (by omega)]
theorem q16{s:State}(G:Good s)(k q:Nat): qaq (q+1) q 0 (toldOf s k)=[(q,q+1,hand s k q)]:=by
 rw[qre q _ _ (qib G k),qps]
def numsTo(i:Nat): List Nat:=(List.range i).map (· + 1)
theorem numsTo_succ(i:Nat): numsTo (i+1)=numsTo i++[i+1]:=by unfold numsTo;rw[Zu,Jv];rfl
theorem qra(s:State): numbers s=numsTo s.meters.length:=rfl
theorem meter?_at{s:State}{i:Nat}{x:Meter}(h:s.meters[i]?=some x): meter? s (i+1)=some x:=by
 unfold meter?;rw[Jc (by omega)];exact h
theorem q0b(p:Nat->Bool)(i:Nat): (numsTo (i+1)).filter p=(numsTo i).filter p++if p (i+1)=true then [i+1] else []:=by
 rw[numsTo_succ,Z5]
 congr 1
 cases h:p (i+1)<;>simp[h]
def qfo(x:Meter)(z:Nat): Int:=if x.kind=2/\x.zone2=z then 1 else if x.zone≠z then 0 else if x.kind=1 then 1 else -1
theorem rest_eq{s:State}(G:Good s)(z a b:Nat): rest s z a b=((numbers s).map fun m=>((meter? s m).map (qfo · z)).getD 0*between s m a b).sum:=by
 unfold rest zoneIn zoneOut arrives leaves sumOf those
 rw[sum_filter,sum_filter,sum_filter,sum_filter,<- sum_add,<- qno,<- qno]
 refine sum_map_congr fun m hm=>?_
 cases e:meter? s m with
 |none=>simp
 | some x=>
   have X:=G.met e
   have k2:=X.kind
   have zz:=X.zz
   simp only[Option.any_some,Option.map_some,Option.getD_some,qfo,Jw,Yq]
   by_cases h2:x.kind=2
   ·have hne:=zz h2
    have n1:¬ x.kind=1:=by omega
    have n0:¬ x.kind=0:=by omega
    simp only[h2,true_and,false_and,X9,show ¬ (2:Nat)=1 by decide,show ¬ (2:Nat)=0 by decide]
    by_cases h3:x.zone2=z
    ·have h4:¬ x.zone=z:=fun q=>hne (q.trans h3.symm)
     simp only[h3,Wh,h4,X9];omega
    ·by_cases h4:x.zone=z
     ·simp[h3,h4]
     ·simp[h3,h4]
   ·by_cases h1:x.kind=1
    ·simp only[h1,show ¬ (1:Nat)=2 by decide,show ¬ (1:Nat)=0 by decide,false_and,true_and,X9]
     by_cases h4:x.zone=z
     ·simp[h4]
     ·simp[h4]
    ·have h0:x.kind=0:=by omega
     simp only[h0,show ¬ (0:Nat)=2 by decide,show ¬ (0:Nat)=1 by decide,false_and,true_and,X9]
     by_cases h4:x.zone=z
     ·simp[h4]
     ·simp[h4]
def qh1(s:State)(z a b i:Nat): Int:=((numsTo i).map fun m=>((meter? s m).map (qfo · z)).getD 0*between s m a b).sum
theorem q5q(s:State)(z a b i:Nat){x:Meter}(h:s.meters[i]?=some x): qh1 s z a b (i+1)=qh1 s z a b i+qfo x z*between s (i+1) a b:=by
 unfold qh1
 rw[numsTo_succ,Jv,Z7]
 simp[meter?_at h]
def qfq(s:State)(k:Nat)(x:Meter)(t:Nat): Bool:=decide ((kn s k).headD 0<t)&&(!(kn s k).contains t && !(isOut x&&decide ((kn s k).getLastD 0<t)))
theorem q94(s:State)(t:Nat): unread s t=(numbers s).filter fun m=>(meter? s m).any fun x=>qfq s m x t:=rfl
theorem at_eq(s:State)(m t:Nat): (s.readings.filter fun r=>r.meter==m&&r.at_==t)=atT t (readingsOf s m):=by
 unfold atT readingsOf
 rw[List.filter_filter]
 congr 1;funext r;rw[Bool.and_comm]
def qbu(s:State)(k t:Nat): Option (Nat×Int):=((atT t (readingsOf s k)).getLast?).bind fun r=>if r.value<0 then none else some (r.version,r.value)
theorem quv{s:State}(G:Good s)(k t:Nat): (qal s k).lookup t=(qbu s k t).map (·.2):=by
 unfold qal qbu
 rw[quw t (qgo G k)]
 cases (atT t (readingsOf s k)).getLast? with
 |none=>rfl
 | some r=>
   show (if r.value<0 then none else some r.value)=Option.map (·.2) (if r.value<0 then none else some (r.version,r.value))
   split<;>rfl
theorem qv4(s:State)(m t n:Nat): s.readings.any (fun r=>r.meter==m&&(r.at_==t&&r.version==n))=decide (n∈(atT t (readingsOf s m)).map (·.version)):=by
 rw[Zm,Zb,Y9,Jk]
 simp only[Jw,Yq,atT,readingsOf,J2]
 constructor
 ·rintro ⟨r,h1,h2,h3,h4⟩;exact⟨r,⟨⟨h1,h2⟩,h3⟩,h4⟩
 ·rintro ⟨r,⟨⟨h1,h2⟩,h3⟩,h4⟩;exact⟨r,h1,h2,h3,h4⟩
theorem qr1(x:Reading){k:Nat}(h:x.meter≠k): ∀ l:List Reading,(putReading x l).filter (fun r=>r.meter==k)=l.filter fun r=>r.meter==k
 |[]=>by simp[putReading,h]
 | y::r=>by
   unfold putReading
   split
   ·simp[Xg,h]
   ·rw[Xg,Xg,qr1 x h r]
theorem qwe(x:Reading)(l:List Reading)(m t:Nat): (atT t ((putReading x l).filter fun r=>r.meter==m)).Perm (atT t (([x]++l).filter fun r=>r.meter==m)):=by
 unfold atT
 exact((qhw x l).filter _).filter _
def qej(rd:Rds)(t n:Nat)(v:Int): Rds:=if t∈rd.map (·.1) then rd.map (fun e=>if e.1=t then (e.1,e.2++[(n,v)]) else e) else rd++[(t,[(n,v)])]
theorem zac(n:Nat)(v:Int)(t u:Nat): ∀ rd:Rds,(rd.map (·.1)).Nodup->qao (qej rd t n v) u=if u=t then qao rd t++[(n,v)] else qao rd u:=fun rd hn=>by
 unfold qej
 by_cases ht:t∈rd.map (·.1)
 ·rw[Je ht]
  unfold qao
  induction rd with
  |nil=>simp at ht
  | cons e r ih=>
    obtain⟨h1,h2⟩:=Xf.mp (show (e.1::r.map (·.1)).Nodup from hn)
    obtain⟨a,b⟩:=e
    by_cases ea:a=t
    ·subst ea
     have hr:r.map (fun e=>if e.1=a then (e.1,e.2++[(n,v)]) else e)=r:=by
      refine(X5 fun e he=>?_).trans (Qa r)
      rw[Jc fun q:e.1=a=>h1 (q ▸ Jk.mpr ⟨e,he,rfl⟩)]
      rfl
     rw[Jq,hr]
     simp only[Wh,X0]
     by_cases eu:u=a
     ·subst eu;simp
     ·have:(u==a)=false:=by simpa using eu
      simp[this,eu]
    ·rw[Jq,Jc ea]
     have hm:t∈r.map (·.1):=by
      rcases Jf.mp (show t∈a::r.map (·.1) from ht) with q|q
      ·exact absurd q.symm ea
      ·exact q
     have:=ih h2 hm
     simp only[X0]
     by_cases eu:u=a
     ·subst eu
      have:(u==u)=true:=by simp
      rw[this]
      simp[ea]
     ·have e1:(u==a)=false:=by simpa using eu
      have e2:(t==a)=false:=by simpa using fun q:t=a=>ea q.symm
      rw[e1,e2]
      exact this
 ·rw[Jc ht]
  unfold qao
  rw[List.lookup_append]
  by_cases eu:u=t
  ·subst eu
   have:rd.lookup u=none:=by
    rw[List.lookup_eq_none_iff]
    intro p hp
    simpa using fun q:u=p.1=>ht (q ▸ Jk.mpr ⟨p,hp,rfl⟩)
   simp[this]
  ·have:(u==t)=false:=by simpa using eu
   simp[this,eu,List.lookup]
theorem q5o{rd:Rds}{s:State}{m t n:Nat}{v:Int}(R:Qcu rd (readingsOf s m)): Qcu (qej rd t n v) ((putReading ⟨m,t,n,v⟩ s.readings).filter fun r=>r.meter==m):=by
 refine⟨?_,?_,fun u=>?_⟩
 ·unfold qej
  by_cases ht:t∈rd.map (·.1)
  ·rw[Je ht,Xy]
   have:((fun x:Nat×List (Nat×Int)=>x.1) ∘ fun e=>if e.1=t then (e.1,e.2++[(n,v)]) else e)=(·.1):=by
    funext e;simp only[Function.comp];split<;>rfl
   rw[this];exact R.nd
  ·rw[Jc ht,Jv,Zi]
   exact⟨R.nd,by simp,fun a ha b hb=>by simp at hb;subst hb;exact fun q=>ht (q ▸ ha)⟩
 ·intro e he
  unfold qej at he
  split at he
  ·obtain⟨e0,h0,q⟩:=Jk.mp he
   split at q
   ·subst q;simp
   ·subst q;exact R.ne _ h0
  ·rcases J4.mp he with q|q
   ·exact R.ne _ q
   ·rw[J3.mp q];simp
 ·rw[zac n v t u rd R.nd]
  have P:=(qwe ⟨m,t,n,v⟩ s.readings m u).map fun r:Reading=>(r.version,r.value)
  refine List.Perm.trans ?_ P.symm
  have e1:([(⟨m,t,n,v⟩:Reading)]++s.readings).filter (fun r=>r.meter==m)=⟨m,t,n,v⟩::readingsOf s m:=by
   unfold readingsOf;simp
  rw[e1]
  by_cases eu:u=t
  ·subst eu
   rw[Je rfl,qoe (t:=u) (r:=⟨m,u,n,v⟩) rfl,Jq]
   exact(List.perm_append_comm).trans ((R.rel u).cons _)
  ·rw[Jc eu,qoc (t:=u) (r:=⟨m,t,n,v⟩) (fun q=>eu q.symm)]
   exact R.rel u
def qdj(tl:List (Nat×Nat))(q h:Nat): List (Nat×Nat):=if q∈tl.map (·.1) then tl.map (fun e=>if e.1=q then (e.1,h) else e) else tl++[(q,h)]
theorem qvg(x:Assign){k:Nat}(hx:x.meter≠k): ∀ l:List Assign,(putAssign x l).filter (fun a=>a.meter==k)=l.filter fun a=>a.meter==k
 |[]=>by simp[putAssign,hx]
 | y::r=>by
   unfold putAssign
   split
   ·rename_i h
    have hy:¬ y.meter=k:=fun q=>hx (h.1.trans q)
    simp[Xg,hx,hy]
   ·split
    ·simp[Xg,hx]
    ·rw[Xg,Xg,qvg x hx r]
theorem qnu{s:State}(G:Good s)(m:Nat): ((toldOf s m).map (·.1)).Nodup:=(qib G m).nodup
theorem qq7{α β:Type}{l:List (α×β)}(h:(l.map (·.1)).Nodup): l.Nodup:=by
 induction l with
 |nil=>exact Yb
 | cons a r ih=>
   obtain⟨h1,h2⟩:=Xf.mp (show (a.1::r.map (·.1)).Nodup from h)
   exact Xf.mpr ⟨fun q=>h1 (Jk.mpr ⟨a,q,rfl⟩),ih h2⟩
theorem q44{α:Type}[DecidableEq α]{l k:List α}(h1:l.Nodup)(h2:k.Nodup)(h:∀ x,x∈l↔x∈k): l.Perm k:=(List.perm_ext_iff_of_nodup h1 h2).mpr h
theorem q5k{tl:List (Nat×Nat)}{q h:Nat}(hn:(tl.map (·.1)).Nodup): ((qdj tl q h).map (·.1)).Nodup:=by
 unfold qdj
 split
 ·rw[Xy]
  have:((fun x:Nat×Nat=>x.1) ∘ fun e=>if e.1=q then (e.1,h) else e)=(·.1):=by
   funext e;simp only[Function.comp];split<;>rfl
  rw[this];exact hn
 ·rename_i ht
  rw[Jv,Zi]
  exact⟨hn,by simp,fun a ha b hb=>by simp at hb;subst hb;exact fun z=>ht (z ▸ ha)⟩
theorem q5l{tl:List (Nat×Nat)}{q h:Nat}(x:Nat×Nat): x∈qdj tl q h↔x=(q,h)\/(x∈tl/\x.1≠q):=by
 unfold qdj
 split
 ·rename_i ht
  rw[Jk]
  constructor
  ·rintro ⟨e,he,z⟩
   split at z
   ·rename_i hq;subst z;left;rw[hq]
   ·rename_i hq;subst z;exact .inr ⟨he,hq⟩
  ·rintro (z|⟨z1,z2⟩)
   ·obtain⟨e,he,hq⟩:=Jk.mp ht
    exact⟨e,he,by rw[Je hq,hq,z]⟩
   ·exact⟨x,z1,Jc z2⟩
 ·rename_i ht
  rw[J4,J3]
  constructor
  ·rintro (z|z)
   ·exact .inr ⟨z,fun q=>ht (q ▸ Jk.mpr ⟨x,z,rfl⟩)⟩
   ·exact .inl z
  ·rintro (z|⟨z,_⟩)
   ·exact .inr z
   ·exact .inl z
theorem q9q{s:State}(G:Good s){m q h:Nat}{tl:List (Nat×Nat)}(P:tl.Perm (toldOf s m))(G':Good { s with assigns:=putAssign ⟨m,q,h⟩ s.assigns }):
  (qdj tl q h).Perm (toldOf { s with assigns:=putAssign ⟨m,q,h⟩ s.assigns } m):=by
 have hn:(tl.map (·.1)).Nodup:=(P.map (·.1)).nodup_iff.mpr (qnu G m)
 refine q44 (qq7 (q5k hn)) (qq7 (qnu G' m)) fun x=>?_
 rw[q5l,P.mem_iff]
 unfold toldOf
 simp only[Jk,J2,qji _ G.as]
 constructor
 ·rintro (z|⟨⟨a,⟨h1,h2⟩,h3⟩,h4⟩)
  ·exact⟨⟨m,q,h⟩,⟨.inl rfl,by simp⟩,z.symm⟩
  ·refine⟨a,⟨.inr ⟨h1,fun z=>h4 ?_⟩,h2⟩,h3⟩
   rw[<- h3];exact z.2
 ·rintro ⟨a,⟨h1,h2⟩,h3⟩
  rcases h1 with z|⟨z1,z2⟩
  ·subst z;exact .inl h3.symm
  ·refine .inr ⟨⟨a,⟨z1,h2⟩,h3⟩,fun z=>z2 ⟨by simpa using h2,?_⟩⟩
   rw[<- h3] at z;exact z
theorem qv3(s:State)(m q:Nat): s.assigns.any (fun a=>a.meter==m&&a.quarter==q)=decide (q∈(toldOf s m).map (·.1)):=by
 rw[Zm,Zb,Y9,Jk]
 simp only[Jw,Yq,Jk,toldOf,J2]
 constructor
 ·rintro ⟨a,h1,h2,h3⟩;exact⟨(a.quarter,a.hand),⟨a,⟨h1,h2⟩,rfl⟩,h3⟩
 ·rintro ⟨x,⟨a,⟨h1,h2⟩,h3⟩,h4⟩;exact⟨a,h1,h2,by rw[<- h3] at h4;exact h4⟩
theorem qv2(s:State)(m t:Nat){rd:Rds}(R:Qcu rd (readingsOf s m)): (readingsOf s m).any (fun r=>decide (t<=r.at_))=(rd.map (·.1)).any fun u=>decide (t<=u):=by
 rw[Zm,Y9,Y9]
 constructor
 ·rintro ⟨r,h1,h2⟩;exact⟨r.at_,(qi2 R r.at_).mpr ⟨r,h1,rfl⟩,h2⟩
 ·rintro ⟨u,h1,h2⟩
  obtain⟨r,h3,h4⟩:=(qi2 R u).mp h1
  exact⟨r,h3,by rw[h4];exact h2⟩
theorem qfd{c:Nat}: ∀ {l:List (List Int)},(∀ x∈l,x.length<=c)->l.flatten.length<=c*l.length
 |[],_=>by simp
 | x::l,h=>by
   have h1:=h x Jh
   have h2:=qfd (l:=l) fun y hy=>h y (Jm _ hy)
   rw[Zk,Jx,Jz,Nat.mul_succ]
   omega
theorem qh2{c n:Nat}{l:List (List Int)}(h:∀ x∈l,x.length<=c)(hn:l.length<=n): (rows l).length<=c*n+1:=by
 unfold rows
 rw[Jz]
 have:=qfd h
 have:=Nat.mul_le_mul_left c hn
 omega
theorem qgz(l:List Int): (told l).length<=2*l.length+1:=by
 unfold told
 refine qh2 (fun x hx=>?_) ?_
 ·obtain⟨y,_,e⟩:=List.mem_filterMap.mp hx
  split at e
  ·cases e
  ·cases e;simp
 ·refine Xd (List.length_filterMap_le _ _) ?_
  rw[Yr,U3]
  omega
theorem q22{s:State}(G:Good s){a b:Nat}{l:List Int}(h:lastNets s a b=some l): l.length=33:=by
 unfold lastNets at h
 cases e:s.periods.find? fun p=>p.from_==a&&p.to_==b with
 |none=>rw[e] at h;cases h
 |some p=>rw[e] at h;cases h;exact(G.po p (List.mem_of_find?_eq_some e)).1
theorem qiy{s:State}{k:Nat}{x:Meter}(G:Good s)(hm:meter? s k=some x): (gaps (knotsOf s k)).length<=10001:=by
 rw[qix G hm,Yr]
 have:=ql4 G hm
 omega
theorem qz8{s t:State}{c:Call}{l:List Int}(G:Good s)(e:does s c = .ok (t,l)): l.length<=30010:=by
 cases c with
 |profile w=>simp only[does] at e;split at e<;>cases e;simp
 | install k z y t d f v p r=>
   simp only[does] at e
   repeat (split at e;· cases e)
   cases e;simp
 | read m t n v=>
   simp only[does] at e
   split at e
   ·cases e
   ·split at e
    ·cases e
    ·split at e
     ·cases e
     ·repeat (split at e;· cases e)
      cases e;simp
 | swap m t f v d g=>
   simp only[does] at e
   split at e
   ·cases e
   ·split at e
    ·cases e
    ·repeat (split at e;· cases e)
     cases e;simp
 | remove m t f=>
   simp only[does] at e
   split at e
   ·cases e
   ·split at e<;>cases e;simp
 |rate m r=>simp only[does] at e;split at e<;>cases e;simp
 | assign m q h'=>
   simp only[does] at e
   split at e
   ·cases e
   ·repeat (split at e;· cases e)
    cases e;simp
 | lock t=>
   simp only[does] at e
   repeat (split at e;· cases e)
   cases e;simp
 | publish a b=>
   simp only[does] at e
   repeat (split at e;· cases e)
   cases e
   refine Xd (qgz _) ?_
   cases q:lastNets s a b with
   |none=>show 2*(netsOf s a b).length+1<=_;rw[qgc];decide
   | some l=>
     show 2*(((netsOf s a b).zip l).map fun x=>x.1-x.2).length+1<=_
     rw[Jd,Yr,qgc];omega
 | standing m t=>
   simp only[does] at e
   split at e
   ·cases e
   ·cases e
    split
    ·simp
    ·split<;>simp
 | history m t=>
   simp only[does] at e
   split at e
   ·cases e
   ·cases e
    refine Xd (qh2 (c:=2) (n:=256) (fun x hx=>?_) ?_) (by decide)
    ·obtain⟨y,_,q⟩:=Jk.mp hx
     rw[<- q];simp
    ·rw[Jd]
     exact Xd (Xp _ _) G.rl
 |value m t=>simp only[does] at e;split at e<;>cases e;simp
 | between m a b=>
   simp only[does] at e
   repeat (split at e;· cases e)
   cases e;simp
 |through m t=>simp only[does] at e;split at e<;>cases e;simp
 |hand m t=>simp only[does] at e;split at e<;>cases e;simp
 |total h z a b=>simp only[does] at e;split at e<;>cases e;simp
 |rest z a b=>simp only[does] at e;split at e<;>cases e;simp
 | nets a b=>
   simp only[does] at e
   split at e
   ·cases e
   ·cases e
    refine Xd (qgz _) ?_
    rw[qgc];decide
 | gaps m=>
   simp only[does] at e
   split at e
   ·cases e
   ·rename_i hn
    cases q:meter? s m with
    |none=>rw[q] at hn;simp at hn
    | some x=>
      cases e
      refine Xd (qh2 (c:=3) (n:=10001) (fun y hy=>?_) ?_) (by decide)
      ·obtain⟨z,_,q⟩:=Jk.mp hy
       rw[<- q];simp
      ·rw[Jd];exact qiy G q
 | doubt m r=>
   simp only[does] at e
   split at e
   ·cases e
   ·rename_i hn
    cases q:meter? s m with
    |none=>rw[q] at hn;simp at hn
    | some x=>
      cases e
      refine Xd (qh2 (c:=2) (n:=10001) (fun y hy=>?_) ?_) (by decide)
      ·obtain⟨z,_,q⟩:=Jk.mp hy
       rw[<- q];simp
      ·rw[Jd];exact Xd (Xp _ _) (qiy G q)
 | unread t=>
   simp only[does] at e
   cases e
   refine Xd (qh2 (c:=1) (n:=32) (fun y hy=>?_) ?_) (by decide)
   ·obtain⟨z,_,q⟩:=Jk.mp hy
    rw[<- q];simp
   ·rw[Jd]
    refine Xd (Xp _ _) ?_
    unfold numbers
    rw[Jd,U3]
    exact G.ml
 | published a b=>
   simp only[does] at e
   cases e
   cases q:lastNets s a b with
   |none=>simp
   | some l=>
     show (told l).length+1<=_
     have:=qgz l
     have:=q22 G q
     omega
 |state=>simp only[does] at e;cases e;simp
theorem q9e{s:State}{c:Call}(G:Good s): (step s c).2.length<=30011:=by
 unfold step
 cases e:does s c with
 |error z=>simp
 |ok x=>obtain⟨t,l⟩:=x;have:=qz8 G e;simp;omega
theorem q9d{s:State}{c:List (List Int)}(G:Good s): (stepNumbers s c).2.length<=30011:=by
 unfold stepNumbers
 cases decode c with
 |none=>simp
 |some c=>exact q9e G
theorem qut{a:Nat}: ∀ {ds:List Device},Chain ds->(∀ d,ds.head?=some d->d.start<=a)->∃ pre y post,ds=pre++y::post/\y.start<=a/\∀ z∈post,a<z.start
 |[],hc,_=>hc.elim
 |[d],_,h=>⟨[],d,[],rfl,h d rfl,fun _ h=>nomatch h⟩
 | d::x::r,hc,h=>by
   by_cases hx:x.start<=a
   ·obtain⟨pre,y,post,e,h1,h2⟩:=qut (ds:=x::r) hc.tail (fun d hd=>by cases hd;exact hx)
    exact⟨d::pre,y,post,by rw[e];rfl,h1,h2⟩
   ·refine⟨[],d,x::r,rfl,h d rfl,fun z hz=>?_⟩
    have hi:=hc.tail.inc
    rcases Jf.mp hz with rfl|q
    ·omega
    ·have h5:x.start<z.start:=(Ju.mp hi).1 z.start (Jk.mpr ⟨z,q,rfl⟩)
     omega
theorem qlz:∀ {l:List Nat} {i a b:Nat},Inc l->l[i]?=some a->l[i+1]?=some b->a<b/\∀ t∈l,t<=a\/b<=t
 |[],_,_,_,_,h,_=>by simp at h
 |[x],i,a,b,_,h,h2=>by cases i<;>simp at h2
 | x::y::l,0,a,b,hi,h,h2=>by
   simp at h h2
   subst h;subst h2
   have h1:=Ju.mp hi
   refine⟨h1.1 y (Jh ..),fun t ht=>?_⟩
   rcases Jf.mp ht with rfl|q
   ·exact .inl (Jp _)
   ·rcases Jf.mp q with rfl|q
    ·exact .inr (Jp _)
    ·exact .inr (Xj ((Ju.mp h1.2).1 t q))
 | x::y::l,i+1,a,b,hi,h,h2=>by
   have h1:=Ju.mp hi
   obtain⟨h3,h4⟩:=qlz (l:=y::l) (i:=i) h1.2 (by simpa using h) (by simpa using h2)
   refine⟨h3,fun t ht=>?_⟩
   rcases Jf.mp ht with rfl|q
   ·refine .inl (Xj (h1.1 a ?_))
    exact J0 (i:=i) (by simpa using h)
   ·exact h4 t q
def Shown(st:List (Nat×Int))(y:Device)(t:Nat): Prop:=t=y.start\/(∃ v,y.finish=some (t,v))\/∃ v,st.lookup t=some v
theorem qqt{st:List (Nat×Int)}{t:Nat}(hs:Inc (st.map (·.1)))(h:t∈st.map (·.1)): ∃ v,st.lookup t=some v:=by
 obtain⟨e,he,rfl⟩:=Jk.mp h
 exact⟨e.2,(lookup_mem hs.nodup).mpr he⟩
theorem qky:∀ {pre:List Device} {y z:Device} {post:List Device},Chain (pre++y::z::post)->∃ v,y.finish=some (z.start,v)
 |[],_,_,_,h=>h.1
 |[p],y,z,post,h=>qky (pre:=[]) (Chain.tail (d:=p) (x:=y) h)
 |p::p'::pre,y,z,post,h=>qky (pre:=p'::pre) (Chain.tail (d:=p) (x:=p') h)
theorem q69{s:State}{k:Nat}{x:Meter}(G:Good s)(hm:meter? s k=some x){i a b:Nat}(ha:(kn s k)[i]?=some a)(hb:(kn s k)[i+1]?=some b):
  ∃ y,qdp x.devices a=some y/\y∈x.devices/\Shown (qal s k) y a/\Shown (qal s k) y b:=by
 have hc:=(G.met hm).chain
 have hs:=qj1 (k:=k) G
 have hin:=st_in G hm
 obtain⟨hab,hadj⟩:=qlz (qfg G hm) ha hb
 have hmem:∀ t,t∈kn s k↔t∈x.devices.map (·.start)\/t∈(qal s k).map (·.1)\/∃ v,endOf x.devices=some (t,v):=fun t=>by rw[qf8 hm];exact qmb hc hin t
 have ha':=(hmem a).mp (J0 ha)
 have hb':=(hmem b).mp (J0 hb)
 have hle:∀ e,endOf x.devices=some e->∀ t∈kn s k,t<=e.1:=fun e he t ht=>by
  rcases(hmem t).mp ht with h|h|⟨v,h⟩
  ·obtain⟨d,hd,rfl⟩:=Jk.mp h
   exact Xj (hc.qgv he d hd)
  ·obtain⟨d,hd,hi⟩:=hin t h
   exact Xj (hc.qma hd hi he)
  ·rw[he] at h;cases h;exact Jp _
 have hhd:∀ d,x.devices.head?=some d->d.start<=a:=fun d hd=>by
  have hi:=hc.inc
  cases e:x.devices with
  |nil=>rw[e] at hd;cases hd
  | cons d' r=>
    rw[e] at hd hi;cases hd
    rcases ha' with h|h|⟨v,h⟩
    ·rw[e] at h
     rcases Jf.mp h with q|q
     ·exact Qp q.symm
     ·exact Xj ((Ju.mp hi).1 a q)
    ·obtain⟨d2,hd2,hi2⟩:=hin a h
     rw[e] at hd2
     rcases Jf.mp hd2 with rfl|q
     ·exact Xj hi2.1
     ·have h5:d.start<d2.start:=(Ju.mp hi).1 d2.start (Jk.mpr ⟨d2,q,rfl⟩)
      have:=hi2.1
      omega
    ·exact Xj (hc.qgv h d (by rw[e];exact Jh ..))
 obtain⟨pre,y,post,e,h1,h2⟩:=qut hc hhd
 have hy:y∈x.devices:=by rw[e];simp
 refine⟨y,by rw[e];exact qo6 h1 h2,hy,?_,?_⟩
 ·rcases ha' with h|h|⟨v,h⟩
  ·left
   obtain⟨d,hd,rfl⟩:=Jk.mp h
   have hi:=hc.inc
   rw[e,Jv,Jq] at hi
   rw[e] at hd
   rcases J4.mp hd with q|q
   ·have:=(Zf.mp hi).2.2 d.start (Jk.mpr ⟨d,q,rfl⟩) y.start (Jh ..)
    omega
   ·rcases Jf.mp q with rfl|q
    ·rfl
    ·have:=h2 d q;omega
  ·exact .inr (.inr (qqt hs h))
  ·exfalso
   have:=hle _ h b (J0 hb)
   have:b<=a:=this
   omega
 ·rcases hb' with h|h|⟨v,h⟩
  ·right;left
   obtain⟨d,hd,hdb⟩:=Jk.mp h
   cases post with
   | nil=>
     exfalso
     have hi:=hc.inc
     rw[e,Jv,Jq] at hi
     rw[e] at hd
     rcases J4.mp hd with q|q
     ·have:=(Zf.mp hi).2.2 d.start (Jk.mpr ⟨d,q,rfl⟩) y.start (Jh ..)
      omega
     ·rcases Jf.mp q with rfl|q
      ·omega
      ·cases q
   | cons z post=>
     have hz:z.start=b:=by
      have hzk:z.start∈kn s k:=(hmem _).mpr (.inl (Jk.mpr ⟨z,by rw[e];simp,rfl⟩))
      have h3:=h2 z (Jh ..)
      rcases hadj _ hzk with q|q
      ·omega
      ·have hi:=hc.inc
       rw[e] at hd hi
       have hd2:d=z\/d∈post:=by
        rw[Jv,Jq] at hi
        rcases J4.mp hd with q|q
        ·have:=(Zf.mp hi).2.2 d.start (Jk.mpr ⟨d,q,rfl⟩) y.start (Jh ..)
         omega
        ·rcases Jf.mp q with rfl|q
         ·omega
         ·exact Jf.mp q
       rcases hd2 with rfl|q2
       ·exact hdb
       ·rw[Jv,Jq,Jq] at hi
        have hi2:=(Zf.mp hi).2.1
        have:=(Ju.mp (Ju.mp hi2).2).1 d.start (Jk.mpr ⟨d,q2,rfl⟩)
        omega
     rw[e] at hc
     obtain⟨v,hv⟩:=qky hc
     exact⟨v,by rw[hv,hz]⟩
  ·exact .inr (.inr (qqt hs h))
  ·right;left
   cases post with
   | nil=>
     refine⟨v,?_⟩
     unfold endOf at h
     rw[e] at h
     simpa using h
   | cons z post=>
     exfalso
     have hzk:z.start∈kn s k:=(hmem _).mpr (.inl (Jk.mpr ⟨z,by rw[e];simp,rfl⟩))
     have h3:=h2 z (Jh ..)
     have h4:=hc.qgv h z (by rw[e];simp)
     have h4:z.start<b:=h4
     rcases hadj _ hzk with q|q<;>omega
def qfc:Nat->Nat
 | 1=>9 | 2=>4 | 3=>6 | 4=>3 | 5=>2 | 6=>3 | 7=>1 | 8=>2 | 9=>2 | 10=>2 | 11=>2 | 12=>3 | 13=>2 | 14=>2 | 15=>4 | 16=>3 | 17=>2 | 18=>1 | 19=>2 | 20=>1 | 21=>2|_=>0
theorem q68{p:Int}{n m:Nat}(h:PyVbemai.shape p=some (n,m)): (p=0/\n=0/\m=1)\/∃ k:Nat,p=(k:Int)/\1<=k/\k<=22/\m=0/\n=qfc k:=by
 have key:∀ k:Nat,p=(k:Int)->1<=k->k<=22->some (qfc k,0)=some (n,m)->∃ k:Nat,p=(k:Int)/\1<=k/\k<=22/\m=0/\n=qfc k:=fun k h1 h2 h3 h4=>by
  cases h4;exact⟨k,h1,h2,h3,rfl,rfl⟩
 unfold PyVbemai.shape at h
 by_cases e:p=0
 ·rw[Je e] at h;cases h;exact .inl ⟨e,rfl,rfl⟩
 rw[Jc e] at h
 right
 by_cases e:p=1
 ·rw[Je e] at h;exact key 1 e (by decide) (by decide) h
 rw[Jc e] at h
 by_cases e:p=2
 ·rw[Je e] at h;exact key 2 e (by decide) (by decide) h
 rw[Jc e] at h
 by_cases e:p=3
 ·rw[Je e] at h;exact key 3 e (by decide) (by decide) h
 rw[Jc e] at h
 by_cases e:p=4
 ·rw[Je e] at h;exact key 4 e (by decide) (by decide) h
 rw[Jc e] at h
 by_cases e:p=5
 ·rw[Je e] at h;exact key 5 e (by decide) (by decide) h
 rw[Jc e] at h
 by_cases e:p=6
 ·rw[Je e] at h;exact key 6 e (by decide) (by decide) h
 rw[Jc e] at h
 by_cases e:p=7
 ·rw[Je e] at h;exact key 7 e (by decide) (by decide) h
 rw[Jc e] at h
 by_cases e:p=8
 ·rw[Je e] at h;exact key 8 e (by decide) (by decide) h
 rw[Jc e] at h
 by_cases e:p=9
 ·rw[Je e] at h;exact key 9 e (by decide) (by decide) h
 rw[Jc e] at h
 by_cases e:p=10
 ·rw[Je e] at h;exact key 10 e (by decide) (by decide) h
 rw[Jc e] at h
 by_cases e:p=11
 ·rw[Je e] at h;exact key 11 e (by decide) (by decide) h
 rw[Jc e] at h
 by_cases e:p=12
 ·rw[Je e] at h;exact key 12 e (by decide) (by decide) h
 rw[Jc e] at h
 by_cases e:p=13
 ·rw[Je e] at h;exact key 13 e (by decide) (by decide) h
 rw[Jc e] at h
 by_cases e:p=14
 ·rw[Je e] at h;exact key 14 e (by decide) (by decide) h
 rw[Jc e] at h
 by_cases e:p=15
 ·rw[Je e] at h;exact key 15 e (by decide) (by decide) h
 rw[Jc e] at h
 by_cases e:p=16
 ·rw[Je e] at h;exact key 16 e (by decide) (by decide) h
 rw[Jc e] at h
 by_cases e:p=17
 ·rw[Je e] at h;exact key 17 e (by decide) (by decide) h
 rw[Jc e] at h
 by_cases e:p=18
 ·rw[Je e] at h;exact key 18 e (by decide) (by decide) h
 rw[Jc e] at h
 by_cases e:p=19
 ·rw[Je e] at h;exact key 19 e (by decide) (by decide) h
 rw[Jc e] at h
 by_cases e:p=20
 ·rw[Je e] at h;exact key 20 e (by decide) (by decide) h
 rw[Jc e] at h
 by_cases e:p=21
 ·rw[Je e] at h;exact key 21 e (by decide) (by decide) h
 rw[Jc e] at h
 by_cases e:p=22
 ·rw[Je e] at h;exact key 22 e (by decide) (by decide) h
 rw[Jc e] at h
 cases h
theorem qxf{p:Int}{r:List Int}{c:List (List Int)}{t:List Int}(h:PyFlat.call PyVbemai.shape (p::r)=some (c,t)):
  (p=0/\∃ (n:Nat) (r':List Int),r=(n:Int)::r'/\n<=r'.length/\c=[[0],r'.take n]/\t=r'.drop n)\/∃ k:Nat,p=(k:Int)/\1<=k/\k<=22/\qfc k<=r.length/\c=[(k:Int)::r.take (qfc k)]/\t=r.drop (qfc k):=by
 cases hs:PyVbemai.shape p with
 |none=>rw[PyFlat.call,hs] at h;cases h
 | some x=>
   obtain⟨n,m⟩:=x
   rcases q68 hs with ⟨rfl,rfl,rfl⟩|⟨k,rfl,h1,h2,rfl,rfl⟩
   ·exact .inl ⟨rfl,qxg h⟩
   ·obtain⟨g1,g2,g3⟩:=call_plain hs h
    exact .inr ⟨k,rfl,h1,h2,g1,g2,g3⟩
theorem q9n(a:List Int)(r:List (List Int)): PyFlat.told (a::r)=(a.length:Int)::(a++PyFlat.told r):=by
 unfold PyFlat.told;rw[U0];rfl
end QM
namespace L2
open PySem PySem.Spec PyProof.Rows
abbrev Key:=Sum Int Str
def qba:Key->Value->Bool
 | .inl k,v=>Value.isInt k v
 | .inr x,v=>Value.isStrOf x v
def keyH(w:World): Key->Int
 | .inl k=>hashInt k
 | .inr x=>hashStr w x
theorem qdr:∀ {k:Key} {v:Value},qba k v=true->(∃ i t,k=Sum.inl i/\v=Value.int i t)\/(∃ x t,k=Sum.inr x/\v=Value.str x t)
 | .inl i,v,h=>by
   obtain⟨t,e⟩:=Value.isInt_shape (k:=i) (v:=v) h
   exact .inl ⟨i,t,rfl,e⟩
 | .inr x,v,h=>by
   obtain⟨t,e⟩:=Value.isStrOf_shape (x:=x) (v:=v) h
   exact .inr ⟨x,t,rfl,e⟩
theorem q2t(i:Int)(t:Tok): qba (.inl i) (.int i t)=true:=by simp[qba,Value.isInt]
theorem q2u(x:Str)(t:Tok): qba (.inr x) (.str x t)=true:=by simp[qba,Value.isStrOf]
theorem key_ll(a b:Int): decide ((Sum.inl a:Key)=Sum.inl b)=(a==b):=by
 by_cases e:a=b
 ·subst e;simp
 ·have h:¬ (Sum.inl a:Key)=Sum.inl b:=fun q=>e (Wx q)
  rw[J7 h]
  exact(Yu.mpr e).symm
theorem key_rr(a b:Str): decide ((Sum.inr a:Key)=Sum.inr b)=decide (a=b):=by
 by_cases e:a=b
 ·subst e;simp
 ·have h:¬ (Sum.inr a:Key)=Sum.inr b:=fun q=>e (Sum.inr.inj q)
  rw[J7 h,J7 e]
theorem key_lr(a:Int)(b:Str): decide ((Sum.inl a:Key)=Sum.inr b)=false:=J7 (fun q=>nomatch q)
theorem key_rl(a:Str)(b:Int): decide ((Sum.inr a:Key)=Sum.inl b)=false:=J7 (fun q=>nomatch q)
def yc(prog:Program)(w:World): PySem.KeyKind prog w Key where
 is:=qba
 hash:=keyH w
 inj:=fun v a b ha hb=>by
  rcases qdr ha with ⟨i,t,rfl,rfl⟩|⟨x,t,rfl,rfl⟩
  ·rcases qdr hb with ⟨j,u,rfl,e⟩|⟨y,u,rfl,e⟩
   ·injection e with e1 _;rw[e1]
   ·exact nomatch e
  ·rcases qdr hb with ⟨j,u,rfl,e⟩|⟨y,u,rfl,e⟩
   ·exact nomatch e
   ·injection e with e1 _;rw[e1]
 byValue:=fun k v h=>by
  rcases qdr h with ⟨i,t,rfl,rfl⟩|⟨x,t,rfl,rfl⟩<;>rfl
 pyHash:=fun hv h=>by
  rcases qdr hv with ⟨i,t,rfl,rfl⟩|⟨x,t,rfl,rfl⟩
  ·exact wpAny_pyHash_int h
  ·exact wpAny_pyHash_str h
 eqBool:=fun hu hv h=>by
  rcases qdr hu with ⟨i,t,rfl,rfl⟩|⟨x,t,rfl,rfl⟩
  ·rcases qdr hv with ⟨j,u,rfl,rfl⟩|⟨y,u,rfl,rfl⟩
   ·rw[key_ll] at h;exact wpAny_eqBool_int h
   ·rw[key_lr] at h;exact SeqAt.EqAt.int_str i t y u _ _ _ _ h
  ·rcases qdr hv with ⟨j,u,rfl,rfl⟩|⟨y,u,rfl,rfl⟩
   ·rw[key_rl] at h;exact SeqAt.EqAt.str_int x t j u _ _ _ _ h
   ·rw[key_rr] at h;exact wpAny_eqBool_str h
 «strs»:=fun k x t v h=>by
  rcases qdr h with ⟨i,u,rfl,e⟩|⟨y,u,rfl,e⟩
  ·exact nomatch e
  ·injection e with e1 _
   subst e1
   cases v<;>rfl
theorem q3l(prog:Program)(w:World)(i:Int)(t:Tok): (yc prog w).is (.inl i) (.int i t)=true:=q2t i t
theorem q3m(prog:Program)(w:World)(x:Str)(t:Tok): (yc prog w).is (.inr x) (.str x t)=true:=q2u x t
inductive V where
 |non|bl (b:Bool)|int (i:Int)|str (x:Str)|byt (b:Array UInt8)|flt (b:UInt64)|ref (a:Addr)|ty (n:String)
 deriving DecidableEq
def RelV:V->Value->Prop
 | .non,u=>u=Value.none
 | .bl b,u=>u=Value.bool b
 | .int i,u=>∃ t,u=Value.int i t
 | .str x,u=>∃ t,u=Value.str x t
 | .byt b,u=>∃ t,u=Value.bytes b t
 | .flt b,u=>∃ t,u=Value.float b t
 | .ref a,u=>u=Value.ref a
 | .ty n,u=>u=Value.type n
abbrev Vals:List V->List Value->Prop:=Paired RelV
theorem Vals.length{xs:List V}{us:List Value}(r:Vals xs us): xs.length=us.length:=Zr r
theorem Vals.get:∀ {xs:List V} {us:List Value} {i:Nat} {x:V},Vals xs us->xs[i]?=some x->∃ u,us[i]?=some u/\RelV x u
 |_,_,_,_,.nil,e=>by simp at e
 |_,_,0,_,.cons r _,e=>by simp at e;subst e;exact⟨_,rfl,r⟩
 | _,_,i+1,x,.cons _ t,e=>by
   obtain⟨u,h1,h2⟩:=Vals.get (i:=i) (x:=x) t (by simpa using e)
   exact⟨u,by simpa using h1,h2⟩
theorem Vals.set{x:V}{u:Value}(r:RelV x u): ∀ {xs:List V} {us:List Value} (i:Nat),Vals xs us->Vals (xs.set i x) (us.set i u)
 |_,_,_,.nil=>.nil
 |_,_,0,.cons _ t=>.cons r t
 |_,_,i+1,.cons q t=>.cons q (Vals.set r i t)
theorem Vals.append:∀ {xs ys:List V} {us ws:List Value},Vals xs us->Vals ys ws->Vals (xs++ys) (us++ws)
 |_,_,_,_,.nil,s=>s
 |_,_,_,_,.cons r t,s=>.cons r (Vals.append t s)
theorem Vals.take:∀ {xs:List V} {us:List Value} (n:Nat),Vals xs us->Vals (xs.take n) (us.take n)
 |_,_,0,_=>.nil
 |_,_,_+1,.nil=>.nil
 |_,_,n+1,.cons r t=>.cons r (Vals.take n t)
theorem Vals.drop:∀ {xs:List V} {us:List Value} (n:Nat),Vals xs us->Vals (xs.drop n) (us.drop n)
 |_,_,0,r=>r
 |_,_,_+1,.nil=>.nil
 |_,_,n+1,.cons _ t=>Vals.drop n t
def Qb0:Option V->Option Value->Prop
 |some v,some u=>RelV v u
 |none,none=>True
 |_,_=>False
def KV{κ:Type}: List (κ×V)->List (κ×Value)->Prop:=Paired fun (p:κ×V) (q:κ×Value)=>p.1=q.1/\RelV p.2 q.2
def kV:Key->V
 | .inl i=>.int i
 | .inr x=>.str x
inductive HO where
 |lst (xs:List V)
 |tup (xs:List V)
 |dK (kvs:List (Key×V))|dT (kvs:List (List Key×V))
 |set (S:Int->Bool) (n:Nat)
 |ins (C dx:Addr) (fs:List (Str×V))
 |own (x:Addr)
 |xd (fs:List (Str×V))
 |met (f x:Addr)
 |rng (lo hi:Int)
 |frz (o:Obj) (u:HO)
 |tbl (ps:Array Value)
 |ext (φ:Heap->Prop)
abbrev Hp:=Addr->Option HO
def upd(H:Hp)(a:Addr)(o:HO): Hp:=fun b=>if b=a then some o else H b
theorem zc{H:Hp}{a:Addr}{o:HO}: upd H a o a=some o:=by unfold upd;rw[Je rfl]
theorem qc{H:Hp}{a b:Addr}{o:HO}(h:b≠a): upd H a o b=H b:=by unfold upd;rw[Jc h]
theorem qbc{H:Hp}{a:Addr}{o u:HO}: upd (upd H a o) a u=upd H a u:=by
 funext b;unfold upd;split<;>rfl
theorem ne_of{H:Hp}{a b:Addr}{o u:HO}(h:H a=some o)(h':H b=some u)(d:o≠u): a≠b:=by
 intro e;subst e;rw[h] at h';exact d (Jj h')
theorem k8{H:Hp}{a b:Addr}{o:HO}(h:H a=some o)(h':H b=none): a≠b:=by
 intro e;subst e;rw[h] at h';cases h'
section
variable (P:Program) (w:World)
def Qaf(H:Hp)(h:Heap)(a:Addr): HO->Prop
 | .lst xs=>xs.length<=sizeLine/\∃ (its:List Value) (n:Nat),Vals xs its/\h.get? a=some { cls:=.type "list",data:=.seq its.toArray n }
 | .tup xs=>xs.length<=sizeLine/\∃ its:List Value,Vals xs its/\IsTup h a its.toArray
 | .dK kvs=>kvs.length<=sizeLine/\(a==sysModules)=false/\∃ vs,KV kvs vs/\h.DictOf (yc P w) a vs
 | .dT kvs=>kvs.length<=sizeLine/\(a==sysModules)=false/\∃ xs:List (List Key×Addr×Value),
   Paired (fun (p:List Key×V) (q:List Key×Addr×Value)=>p.1=q.1/\H q.2.1=some (.tup (p.1.map kV))/\RelV p.2 q.2.2) kvs xs /\
   ∃ o es ep,h.get? a=some o/\o.ExactDict/\o.data = .dict es ep/\es.toList=xs.map (entryOfKey (tupleKind (yc P w)))/\(xs.map (·.1)).Nodup
 | .set S n=>h.SetOf (intKind P w) a S n
 | .ins C dx fs=>H dx=some (.own a)/\fs.length<=1000/\dx≠a/\h.get? a=some (PySem.W.instObj C dx) /\
   ∃ mA,h.Ns1 dx mA/\(∀ f,Qb0 (fs.lookup f) (mA f))/\PySem.Within mA (fs.map (·.1))
 | .own _=>∃ o,h.get? a=some o
 | .xd fs=>∃ mA,h.Ns1 a mA/\∀ f,Qb0 (fs.lookup f) (mA f)
 | .rng lo hi=>∃ t u v,h.get? a=some { cls:=.type "range",data:=.fields #[.int lo t,.int hi u,.int 1 v] }
 | .frz o u=>h.get? a=some o/\Qaf H h a u
 | .tbl ps=>h.get? a=some { cls:=.none,data:=.fields ps }
 | .met f x=>h.get? a=some (PySem.W.methodObj (.ref f) (.ref x))
 | .ext φ=>φ h/\(∃ o,h.get? a=some o)/\∀ h1 h2:Heap,φ h1->(∀ o,h1.get? a=some o->h2.get? a=some o)->φ h2
def HOk(H:Hp)(h:Heap): Prop:=∀ a o,H a=some o->Qaf P w H h a o
end
section
variable {P:Program} {w:World} {H H':Hp} {h h':Heap} {a:Addr} {o:HO}
theorem Qaf.lt(x:Qaf P w H h a o): a<h.objs.size:=by
 cases o with
 |lst xs=>obtain⟨_,_,_,_,e⟩:=x;exact Jl e
 |tup xs=>obtain⟨_,_,_,p⟩:=x;exact p.lt
 |dK kvs=>obtain⟨_,_,_,_,o,_,_,e,_⟩:=x;exact Jl e
 |dT kvs=>obtain⟨_,_,_,_,o,_,_,e,_⟩:=x;exact Jl e
 |set S n=>obtain⟨o,_,_,_,e,_⟩:=x;exact Jl e
 |ins C dx fs=>obtain⟨_,_,_,e,_⟩:=x;exact Jl e
 |own y=>obtain⟨_,e⟩:=x;exact Jl e
 |xd fs=>obtain⟨_,⟨_,_,_,e,_⟩,_⟩:=x;exact Jl e
 |rng lo hi=>obtain⟨_,_,_,e⟩:=x;exact Jl e
 |frz ob u=>obtain⟨e,_⟩:=x;exact Jl e
 |tbl ps=>exact Jl (show h.get? a=some _ from x)
 |met f y=>exact Jl (show h.get? a=some _ from x)
 |ext φ=>obtain⟨_,⟨_,e⟩,_⟩:=x;exact Jl e
theorem Paired.mapP{α β:Type}{F G:α->β->Prop}: ∀ {l₁:List α} {l₂:List β},Paired F l₁ l₂->(∀ a b,F a b->G a b)->Paired G l₁ l₂
 |_,_,.nil,_=>.nil
 |_,_,.cons r t,f=>.cons (f _ _ r) (Paired.mapP t f)
theorem Qaf.stay(x:Qaf P w H h a o)(k:∀ b u,(b=a\/H b=some (.own a))->h.get? b=some u->h'.get? b=some u)
  (ho:∀ b,H b=some (.own a)->H' b=some (.own a))(ht:∀ b xs,H b=some (.tup xs)->H' b=some (.tup xs)): Qaf P w H' h' a o:=by
 induction o with
 |lst xs=>obtain⟨z,its,n,r,e⟩:=x;exact⟨z,its,n,r,k _ _ (.inl rfl) e⟩
 |tup xs=>obtain⟨z,its,r,ob,e,c⟩:=x;exact⟨z,its,r,ob,k _ _ (.inl rfl) e,c⟩
 |dK kvs=>obtain⟨z,y,vs,r,ob,es,ep,e,c⟩:=x;exact⟨z,y,vs,r,ob,es,ep,k _ _ (.inl rfl) e,c⟩
 | dT kvs=>
   obtain⟨z,y,xs,r,ob,es,ep,e,c⟩:=x
   exact⟨z,y,xs,Paired.mapP r fun p q z=>⟨z.1,ht _ _ z.2.1,z.2.2⟩,ob,es,ep,k _ _ (.inl rfl) e,c⟩
 |set S n=>obtain⟨ob,es,ep,t,e,c⟩:=x;exact⟨ob,es,ep,t,k _ _ (.inl rfl) e,c⟩
 | ins C dx fs=>
   obtain⟨d,z,ne,e,mA,⟨od,es,ep,e2,c⟩,r⟩:=x
   exact⟨ho _ d,z,ne,k _ _ (.inl rfl) e,mA,⟨od,es,ep,k _ _ (.inr d) e2,c⟩,r⟩
 |own y=>obtain⟨ob,e⟩:=x;exact⟨ob,k _ _ (.inl rfl) e⟩
 |xd fs=>obtain⟨mA,⟨od,es,ep,e,c⟩,r⟩:=x;exact⟨mA,⟨od,es,ep,k _ _ (.inl rfl) e,c⟩,r⟩
 |rng lo hi=>obtain⟨t,u,v,e⟩:=x;exact⟨t,u,v,k _ _ (.inl rfl) e⟩
 |frz ob u ih=>obtain⟨e,q⟩:=x;exact⟨k _ _ (.inl rfl) e,ih q⟩
 | tbl ps=>
   have e:h.get? a=some { cls:=.none,data:=.fields ps }:=x
   show h'.get? a=some { cls:=.none,data:=.fields ps }
   exact k a _ (.inl rfl) e
 | met f y=>
   have e:h.get? a=some (PySem.W.methodObj (.ref f) (.ref y)):=x
   show h'.get? a=some (PySem.W.methodObj (.ref f) (.ref y))
   exact k a _ (.inl rfl) e
 |ext φ=>obtain⟨p,⟨o,e⟩,st⟩:=x;exact⟨st _ _ p fun o q=>k _ _ (.inl rfl) q,⟨o,k _ _ (.inl rfl) e⟩,st⟩
theorem HOk.lt(x:HOk P w H h)(e:H a=some o): a<h.objs.size:=(x a o e).lt
theorem HOk.fresh(x:HOk P w H h)(e:h.objs.size<=a): H a=none:=by
 cases q:H a with
 |none=>rfl
 |some u=>exact absurd (Xk (x.lt q) e) (Yd _)
theorem HOk.kept(x:HOk P w H h)(k:∀ b u,h.get? b=some u->h'.get? b=some u): HOk P w H h':=fun a o e=>
 (x a o e).stay (fun b u _ q=>k b u q) (fun _ q=>q) fun _ _ q=>q
theorem HOk.laid(x:HOk P w H h)(k:∀ b u,h.get? b=some u->h'.get? b=some u)(hp:h.objs.size<=a)(new:Qaf P w (upd H a o) h' a o): HOk P w (upd H a o) h':=fun b u e=>by
 have hn:=x.fresh hp
 by_cases hb:b=a
 ·subst hb;rw[zc] at e;cases e;exact new
 ·rw[qc hb] at e
  exact(x b u e).stay (fun c v _ q=>k c v q) (fun c q=>by rw[qc (k8 q hn)];exact q) fun c xs q=>by rw[qc (k8 q hn)];exact q
end
def Rd(H:Hp)(a:Addr)(u:HO): Prop:=H a=some u\/∃ o,H a=some (.frz o u)
theorem Rd.ok{P:Program}{w:World}{H:Hp}{h:Heap}{a:Addr}{u:HO}(r:Rd H a u)(x:HOk P w H h): Qaf P w H h a u:=by
 rcases r with r|⟨o,r⟩
 ·exact x a u r
 ·obtain⟨_,q⟩:=x a _ r
  exact q
def Mut:Option HO->Prop
 |some (.lst _)=>True
 |some (.dK _)=>True
 |some (.dT _)=>True
 |some (.set _ _)=>True
 |some (.ins _ _ _)=>True
 |some (.ext _)=>True
 |_=>False
section
variable {P:Program} {w:World} {H:Hp} {h h':Heap} {x e:Addr} {o':HO}
theorem HOk.write(ok:HOk P w H h)(mu:Mut (H x))(he:e=x\/H e=some (.own x))(k:∀ b u,b≠e->h.get? b=some u->h'.get? b=some u)(heo:∃ u,h'.get? e=some u)
  (new:Qaf P w (upd H x o') h' x o'): HOk P w (upd H x o') h':=fun b u q=>by
 have nown:∀ c y,H c=some (.own y)->c≠x:=fun c y r z=>by subst z;rw[r] at mu;exact mu
 have ntup:∀ c xs,H c=some (.tup xs)->c≠x:=fun c xs r z=>by subst z;rw[r] at mu;exact mu
 by_cases hb:b=x
 ·subst hb;rw[zc] at q;cases q;exact new
 ·rw[qc hb] at q
  by_cases hbe:b=e
  ·have q':H b=some (.own x):=by
    rcases he with z|z
    ·exact absurd (hbe.trans z) hb
    ·rw[hbe];exact z
   rw[q] at q';cases q'
   obtain⟨v,hv⟩:=heo
   exact⟨v,by rw[hbe];exact hv⟩
  ·refine(ok b u q).stay (fun c v hc r=>k c v ?_ r) (fun c r=>by rw[qc (nown c b r)];exact r) fun c xs r=>by rw[qc (ntup c xs r)];exact r
   rcases hc with rfl|hc
   ·exact hbe
   ·rintro rfl
    rcases he with z|z
    ·exact nown c b hc z
    ·rw[hc] at z;cases z;exact hb rfl
end
structure Un(fs ex:List Addr)(H H':Hp)(h h':Heap): Prop where
 keep:∀ b o,h.get? b=some o->H b=none->b∉fs->b∉ex->h'.get? b=some o
 slot:∀ b o,h.get? b=some o->H b=none->b∈fs->b∉ex->∃ sl,h'.get? b=some { o with slots:=sl }
 free:∀ b o,h.get? b=some o->H b=none->b∉ex->H' b=none
 there:∀ b o,h.get? b=some o->b∉ex->∃ o',h'.get? b=some o'
 tups:∀ b xs,H b=some (.tup xs)->H' b=some (.tup xs)
 qda:∀ b o u,H b=some (.frz o u)->H' b=some (.frz o u)
 qeo:∀ b ps,H b=some (.tbl ps)->∃ more,H' b=some (.tbl (ps++more))
section
variable {fs fs' ex ex':List Addr} {H H1 H2:Hp} {h h1 h2 h':Heap} {a x e:Addr} {o:HO}
theorem Un.any(u:Un fs ex H H1 h h1){b:Addr}{ob:Obj}(q:h.get? b=some ob)(n:H b=none)(hx:b∉ex): ∃ sl,h1.get? b=some { ob with slots:=sl }:=by
 by_cases hb:b∈fs
 ·exact u.slot b ob q n hb hx
 ·exact⟨ob.slots,u.keep b ob q n hb hx⟩
theorem Un.kept(k:∀ b u,h.get? b=some u->h'.get? b=some u): Un fs ex H H h h':=
 ⟨fun b ob q _ _ _=>k b ob q,fun b ob q _ _ _=>⟨ob.slots,k b ob q⟩,fun _ _ _ n _=>n,fun b ob q _=>⟨ob,k b ob q⟩,fun _ _ q=>q,fun _ _ _ q=>q,fun _ ps q=>⟨#[],by rw[q];simp⟩⟩
theorem Un.refl:Un fs ex H H h h:=Un.kept fun _ _ q=>q
theorem Un.laid(k:∀ b u,h.get? b=some u->h'.get? b=some u)(hp:h.objs.size<=a)(hn:H a=none): Un fs ex H (upd H a o) h h' where
 keep:=fun b u q _ _ _=>k b u q
 slot:=fun b u q _ _ _=>⟨u.slots,k b u q⟩
 free:=fun b u q n _=>by rw[qc (Xl (Xk (Jl q) hp))];exact n
 there:=fun b u q _=>⟨u,k b u q⟩
 tups:=fun b xs q=>by rw[qc (k8 q hn)];exact q
 qda:=fun b u xs q=>by rw[qc (k8 q hn)];exact q
 qeo:=fun b ps q=>⟨#[],by rw[qc (k8 q hn),q];simp⟩
theorem Un.write(mu:Mut (H x))(he:e=x\/H e=some (.own x))(k:∀ b u,b≠e->h.get? b=some u->h'.get? b=some u)(heo:∃ u,h'.get? e=some u): Un fs ex H (upd H x o) h h':=by
 have hx:∀ b,H b=none->b≠x:=fun b n z=>by subst z;rw[n] at mu;exact mu
 have hb:∀ b,H b=none->b≠e:=fun b n z=>by
  subst z
  rcases he with r|r
  ·exact hx b n r
  ·rw[n] at r;cases r
 have hm:∀ b u,H b=some u->¬ Mut (some u)->b≠x:=fun b u q nm z=>by subst z;rw[q] at mu;exact nm mu
 refine⟨fun b u q n _ _=>k b u (hb b n) q,fun b u q n _ _=>⟨u.slots,k b u (hb b n) q⟩,fun b u q n _=>by rw[qc (hx b n)];exact n,fun b u q _=>?_,
  fun b xs q=>by rw[qc (hm b _ q fun z=>z)];exact q,fun b u xs q=>by rw[qc (hm b _ q fun z=>z)];exact q,fun b ps q=>⟨#[],by rw[qc (hm b _ q fun z=>z),q];simp⟩⟩
 by_cases hbe:b=e
 ·subst hbe;exact heo
 ·exact⟨u,k b u hbe q⟩
end
def trk(h:Heap)(H:Hp): List Addr:=(List.range h.objs.size).filter fun a=>(H a).isSome
def qec(h:Heap)(H:Hp): Heap:=PySem.W.hideAll h (trk h H)
theorem q19(h:Heap)(H:Hp): (qec h H).objs.size=h.objs.size:=PySem.W.hideAll_size _ _
theorem q18{h:Heap}{H:Hp}{b:Addr}{o:Obj}(e:h.get? b=some o)(n:H b=none): (qec h H).get? b=some o:=
 PySem.W.hideAll_get _ e fun hm=>by
  have q:(H b).isSome=true:=(J2.mp hm).2
  rw[n] at q;simp at q
theorem q4l{h:Heap}{H:Hp}{b:Addr}{o:Obj}(e:(qec h H).get? b=some o): h.get? b=some o/\H b=none:=by
 have e':h.get? b=some o:=PySem.W.of_hideAll (trk h H) e
 refine⟨e',?_⟩
 cases q:H b with
 |none=>rfl
 | some x=>
   have hm:b∈trk h H:=J2.mpr ⟨List.mem_range.mpr (Jl e'),by simp[q]⟩
   have z:(qec h H).get? b=none:=PySem.W.hideAll_none (trk h H) hm
   rw[z] at e;cases e
structure Mod(K:PySem.W.Frag)(mg:Str->Option Value)(base:Heap): Prop where
 kin:K.In base
 glob:base.Ns mainGlobals mg
 blt:∃ mb,base.Ns builtinsNs mb/\∀ x:Str,x≠"__name__"->mb x=bootBuiltins x
 nolimit:base.NoLimit
structure Cx where
 prog:Program
 w:World
 K:PySem.W.Frag
 mg:Str->Option Value
 base:Heap
 A:Around
 N:List Str
 s_0:Shared
 H_0:Hp
 env:Env
 outer:List Env
 stack:List Env
 ex:List Addr
 fn:Str->Bool
 calm:Bool
 pn:List (Addr×Obj)
 xe:Value->Shared->Prop
def frs(l:List Env): List Addr:=l.filterMap (·.frame)
abbrev Cx.fs(X:Cx): List Addr:=frs X.outer
def Vis(sc:Scope)(x:Str): Prop:=sc.names.lookup x=some .local\/sc.names.lookup x=some .cell\/sc.names.lookup x=some .free
def Loc(sc:Scope)(x:Str): Prop:=sc.names.lookup x=some .local\/sc.names.lookup x=some .cell
def Look(env:Env)(h:Heap)(m:Str->Option Value)(x:Str)(u:Value): Prop:=
 (env.kindOf x=some .local/\m x=some u)\/((env.kindOf x=some .cell\/env.kindOf x=some .free)/\∃ c,env.cells.lookup x=some c/\h.IsCell c (some u))
structure Cx.Ok(X:Cx): Prop where
 mod:Mod X.K X.mg X.base
 kind:X.env.scope.kind = .function
 glob:X.env.globals=mainGlobals
 blt:X.env.builtins=builtinsNs
 above:X.s_0.heap.objs.size<=X.env.locals
 inj:∀ x y c,X.env.cells.lookup x=some c->X.env.cells.lookup y=some c->x=y
 has:∀ x,(X.env.kindOf x=some .cell\/X.env.kindOf x=some .free)->∃ c,X.env.cells.lookup x=some c
 cab:∀ x c,X.fn x=true->X.env.cells.lookup x=some c->X.s_0.heap.objs.size<=c
 hd:X.calm=true->X.A.handled=none
 frames:X.A.frames=some X.stack
 stk:X.stack=X.outer\/(X.stack=X.env::X.outer/\X.env.frame=some X.env.locals)
 exf:∀ b∈X.ex,b≠X.env.locals/\∀ x c,X.env.cells.lookup x=some c->c≠b
 bs:∀ b o,X.base.get? b=some o->X.s_0.heap.get? b=some o/\X.H_0 b=none
 bsz:X.base.objs.size<=X.s_0.heap.objs.size
 noex:∀ b o,X.base.get? b=some o->b∉X.ex
 exfs:∀ b∈X.ex,b∉X.fs
 qcy:X.s_0.heap.FunFrames X.base X.outer
 frf:∀ b∈X.fs,X.H_0 b=none
structure Inv(X:Cx)(pins:List (Addr×Obj))(σ:List (Option V))(H:Hp)(s:Shared): Prop where
 ok:X.Ok
 os:s.os=X.s_0.os
 bare:AllBare s.gens
 base:Un X.fs X.ex X.H_0 H X.s_0.heap s.heap
 loc:∃ m,s.heap.Ns X.env.locals m/\∀ (i:Nat) (x:Str) (v:V),X.N[i]?=some x->σ[i]?=some (some v)->Vis X.env.scope x->∃ u,RelV v u/\Look X.env s.heap m x u
 cell:∀ x c,X.env.cells.lookup x=some c->∃ v,s.heap.IsCell c v
 free:H X.env.locals=none
 qcj:∀ x c,X.env.cells.lookup x=some c->H c=none
 pin:∀ p∈X.pn++pins,s.heap.get? p.1=some p.2/\H p.1=none/\p.1≠X.env.locals/\p.1∉X.fs/\∀ v,p.2.data≠.cell v
 hok:HOk X.prog X.w H s.heap
 len:σ.length=X.N.length
section
variable {X:Cx} {pins:List (Addr×Obj)} {σ:List (Option V)} {H H':Hp} {s:Shared} {h':Heap}
theorem Cx.Ok.nofr(ok:X.Ok){b:Addr}{o:Obj}(e:X.base.get? b=some o): b∉X.fs:=fun hb=>by
 have:=(ok.qcy.mem hb).1
 rw[e] at this;cases this
theorem Inv.bs(I:Inv X pins σ H s): ∀ b o,X.base.get? b=some o->s.heap.get? b=some o/\H b=none:=fun b o e=>
 ⟨I.base.keep b o (I.ok.bs b o e).1 (I.ok.bs b o e).2 (I.ok.nofr e) (I.ok.noex b o e),I.base.free b o (I.ok.bs b o e).1 (I.ok.bs b o e).2 (I.ok.noex b o e)⟩
theorem Inv.bk(I:Inv X pins σ H s): ∀ b o,X.base.get? b=some o->s.heap.get? b=some o:=fun b o e=>(I.bs b o e).1
theorem Inv.mod(I:Inv X pins σ H s): Mod X.K X.mg X.base:=I.ok.mod
theorem Inv.kIn(I:Inv X pins σ H s): X.K.In s.heap:=I.ok.mod.kin.keeps I.bk
theorem Inv.lt(I:Inv X pins σ H s): X.env.locals<s.heap.objs.size:=let ⟨_,hn,_⟩:=I.loc;hn.lt
theorem Inv.sz(I:Inv X pins σ H s): X.s_0.heap.objs.size<=s.heap.objs.size:=Xd I.ok.above (Xj I.lt)
theorem Inv.nofs(I:Inv X pins σ H s){a:Addr}(h:s.heap.objs.size<=a): a∉X.fs:=fun hb=>by
 obtain⟨_,o,ho,_⟩:=I.ok.qcy.mem hb
 exact absurd (Xk (Jl ho) (Xd I.sz h)) (Yd _)
theorem Inv.cne(I:Inv X pins σ H s): ∀ x c,X.env.cells.lookup x=some c->c≠X.env.locals:=fun x c e z=>by
 obtain⟨v,o,ho,hd⟩:=I.cell x c e
 obtain⟨m,⟨o',es,ep,ho',hd',_⟩,_⟩:=I.loc
 rw[z,ho'] at ho;cases ho;rw[hd'] at hd;cases hd
theorem Inv.qcy(I:Inv X pins σ H s): s.heap.FunFrames X.base X.outer:=by
 have all:∀ (l:List Env),(∀ b∈frs l,b∈X.fs)->X.s_0.heap.FunFrames X.base l->s.heap.FunFrames X.base l:=by
  intro l
  induction l with
  |nil=>intro _ _;trivial
  | cons env r ih=>
    intro hs hl
    obtain⟨hk,⟨L,o,hf,hn,ho,hd⟩,hr⟩:=hl
    have hL:L∈X.fs:=hs L (by unfold frs;rw[Ub,hf];exact Jh)
    obtain⟨sl,e⟩:=I.base.slot L o ho (I.ok.frf L hL) hL fun z=>I.ok.exfs L z hL
    exact⟨hk,⟨L,_,hf,hn,e,hd⟩,ih (fun b hb=>hs b (by unfold frs;rw[Ub,hf];exact Jm _ hb)) hr⟩
 exact all X.outer (fun _ hb=>hb) I.ok.qcy
theorem Inv.stack(I:Inv X pins σ H s): s.heap.FunFrames X.base X.stack:=by
 rcases I.ok.stk with e|⟨e,hf⟩
 ·rw[e];exact I.qcy
 ·rw[e]
  obtain⟨m,hn,_⟩:=I.loc
  refine .cons (by rw[I.ok.kind];decide) hf hn ?_ I.qcy
  exact Heap.get?_none_of_le (Xd I.ok.bsz I.ok.above)
theorem Inv.qnm(I:Inv X pins σ H s): ∀ b∈frs X.stack,b∈X.env.locals::X.fs:=fun b hb=>by
 rcases I.ok.stk with e|⟨e,hf⟩
 ·rw[e] at hb;exact Jm _ hb
 ·rw[e] at hb
  unfold frs at hb
  rw[Ub,hf] at hb
  exact hb
theorem Inv.qux(I:Inv X pins σ H s): ∀ b∈frs X.stack,H b=none:=fun b hb=>by
 rcases Jf.mp (I.qnm b hb) with e|hb
 ·rw[e];exact I.free
 ·obtain⟨_,o,ho,_⟩:=I.ok.qcy.mem hb
  exact I.base.free b o ho (I.ok.frf b hb) fun z=>I.ok.exfs b z hb
theorem Inv.step{g':Array GenState}{t':Nat}{d':Drawn}{ch:List Addr}(I:Inv X pins σ H s)
  (hch:∀ b∈ch,(b∈X.ex\/X.s_0.heap.objs.size<=b)/\b≠X.env.locals/\(∀ x c,X.env.cells.lookup x=some c->c≠b)/\∀ p∈X.pn++pins,p.1≠b)
  (keep:∀ b o,b≠X.env.locals->b∉X.fs->b∉ch->s.heap.get? b=some o->H b=none->h'.get? b=some o)
  (slot:∀ b o,b≠X.env.locals->b∈X.fs->b∉ch->s.heap.get? b=some o->H b=none->∃ sl,h'.get? b=some { o with slots:=sl })(free:∀ b o,b∉ch->s.heap.get? b=some o->H b=none->H' b=none)
  (there:∀ b o,b∉ch->s.heap.get? b=some o->∃ o',h'.get? b=some o')
  (tups:∀ b xs,H b=some (.tup xs)->H' b=some (.tup xs))(qda:∀ b o u,H b=some (.frz o u)->H' b=some (.frz o u))(qeo:∀ b ps,H b=some (.tbl ps)->∃ more,H' b=some (.tbl (ps++more)))
  (ns:∀ m,s.heap.Ns X.env.locals m->h'.Ns X.env.locals m)(hok:HOk X.prog X.w H' h')(hg:AllBare g'):
  Inv X pins σ H' { s with heap:=h',gens:=g',drawn:=d',toks:=t' }:=by
 have neL:∀ b o,X.s_0.heap.get? b=some o->b≠X.env.locals:=fun b o e=>Xl (Xk (Jl e) I.ok.above)
 have neC:∀ b o,X.s_0.heap.get? b=some o->b∉X.ex->b∉ch:=fun b o e hx hb=>by
  rcases(hch b hb).1 with z|z
  ·exact hx z
  ·exact absurd (Xk (Jl e) z) (Yd _)
 have cellK:∀ x c,X.env.cells.lookup x=some c->∀ v,s.heap.IsCell c v->h'.IsCell c v:=fun x c e v ⟨o,ho,hd⟩=>by
  have nch:c∉ch:=fun z=>(hch c z).2.2.1 x c e rfl
  by_cases hc:c∈X.fs
  ·obtain⟨sl,q⟩:=slot c o (I.cne x c e) hc nch ho (I.qcj x c e)
   exact⟨_,q,hd⟩
  ·exact⟨o,keep c o (I.cne x c e) hc nch ho (I.qcj x c e),hd⟩
 refine⟨I.ok,I.os,hg,⟨fun b o e n hb hx=>?_,fun b o e n hb hx=>?_,fun b o e n hx=>?_,fun b o e hx=>?_,fun b xs e=>tups b xs (I.base.tups b xs e),fun b o xs e=>qda b o xs (I.base.qda b o xs e),fun b ps e=>?_⟩,?_,fun x c e=>?_,?_,fun x c e=>?_,fun p hp=>?_,hok,I.len⟩
 ·exact keep b o (neL b o e) hb (neC b o e hx) (I.base.keep b o e n hb hx) (I.base.free b o e n hx)
 ·obtain⟨sl,e1⟩:=I.base.slot b o e n hb hx
  obtain⟨sl',e2⟩:=slot b _ (neL b o e) hb (neC b o e hx) e1 (I.base.free b o e n hx)
  exact⟨sl',e2⟩
 ·obtain⟨o',e1⟩:=I.base.there b o e hx
  exact free b o' (neC b o e hx) e1 (I.base.free b o e n hx)
 ·obtain⟨o',e1⟩:=I.base.there b o e hx
  exact there b o' (neC b o e hx) e1
 ·obtain⟨m1,e1⟩:=I.base.qeo b ps e
  obtain⟨m2,e2⟩:=qeo b _ e1
  exact⟨m1++m2,by rw[e2,Array.append_assoc]⟩
 ·obtain⟨m,hn,hl⟩:=I.loc
  refine⟨m,ns m hn,fun i x v e1 e2 e3=>?_⟩
  obtain⟨u,r,l⟩:=hl i x v e1 e2 e3
  refine⟨u,r,?_⟩
  rcases l with l|⟨k,c,e,z⟩
  ·exact .inl l
  ·exact .inr ⟨k,c,e,cellK x c e _ z⟩
 ·obtain⟨v,z⟩:=I.cell x c e
  exact⟨v,cellK x c e v z⟩
 ·obtain⟨m,⟨o,_,_,ho,_⟩,_⟩:=I.loc
  exact free _ o (fun z=>(hch _ z).2.1 rfl) ho I.free
 ·obtain⟨v,o,ho,hd⟩:=I.cell x c e
  exact free c o (fun z=>(hch c z).2.2.1 x c e rfl) ho (I.qcj x c e)
 ·obtain⟨e,n,ne,nf,d⟩:=I.pin p hp
  have nch:p.1∉ch:=fun z=>(hch p.1 z).2.2.2 p hp rfl
  exact⟨keep p.1 p.2 ne nf nch e n,free p.1 p.2 nch e n,ne,nf,d⟩
theorem Inv.un{t':Nat}(I:Inv X pins σ H s)(u:Un X.fs [] H H' s.heap h')(hok:HOk X.prog X.w H' h'): Inv X pins σ H' { s with heap:=h',toks:=t' }:=by
 obtain⟨m,⟨o,es,ep,ho,r⟩,_⟩:=id I.loc
 obtain⟨sl,hL⟩:=u.any ho I.free (by simp)
 exact I.step (g':=s.gens) (d':=s.drawn) (ch:=[]) (fun _ z=>nomatch z) (fun b o _ hb _ e n=>u.keep b o e n hb (by simp)) (fun b o _ hb _ e n=>u.slot b o e n hb (by simp)) (fun b o _ e n=>u.free b o e n (by simp)) (fun b o _ e=>u.there b o e (by simp)) u.tups u.qda u.qeo (fun m' hm=>by
  obtain⟨o',es',ep',ho',r'⟩:=hm
  rw[ho] at ho';cases ho'
  exact⟨_,es',ep',hL,r'⟩) hok I.bare
theorem Inv.call{g':Array GenState}{t':Nat}{d':Drawn}{ch:List Addr}(I:Inv X pins σ H s)(u:Un (frs X.stack) ch H H' s.heap h')(hok:HOk X.prog X.w H' h')(hg:AllBare g')
  (hch:∀ b∈ch,(b∈X.ex\/X.s_0.heap.objs.size<=b)/\b≠X.env.locals/\(∀ x c,X.env.cells.lookup x=some c->c≠b)/\∀ p∈X.pn++pins,p.1≠b):
  Inv X pins σ H' { s with heap:=h',gens:=g',drawn:=d',toks:=t' }:=by
 obtain⟨m,⟨o,es,ep,ho,r⟩,_⟩:=id I.loc
 obtain⟨sl,hL⟩:=u.any ho I.free fun z=>(hch _ z).2.1 rfl
 exact I.step (ch:=ch) hch (fun b o hL hb hc e n=>u.keep b o e n (fun z=>(Jf.mp (I.qnm b z)).elim hL hb) hc) (fun b o _ _ hc e n=>u.any e n hc) (fun b o hc e n=>u.free b o e n hc) (fun b o hc e=>u.there b o e hc) u.tups u.qda u.qeo (fun m' hm=>by
  obtain⟨o',es',ep',ho',r'⟩:=hm
  rw[ho] at ho';cases ho'
  exact⟨_,es',ep',hL,r'⟩) hok hg
theorem Inv.turned{t':Nat}{it:Addr}(I:Inv X pins σ H s)(k:∀ b o,b≠it->s.heap.get? b=some o->h'.get? b=some o)(hn:H it=none)(hL:it≠X.env.locals)
  (h1:it∈X.ex\/X.s_0.heap.objs.size<=it)(h2:∀ x c,X.env.cells.lookup x=some c->c≠it)(h3:∀ p∈X.pn++pins,p.1≠it): Inv X pins σ H { s with heap:=h',toks:=t' }:=by
 have nit:∀ b u,H b=some u->b≠it:=fun b u e z=>by rw[z,hn] at e;cases e
 refine I.step (g':=s.gens) (d':=s.drawn) (ch:=[it]) (fun b hb=>?_) (fun b o _ _ hc e _=>k b o (fun z=>hc (by simp[z])) e) (fun b o _ _ hc e _=>⟨o.slots,k b o (fun z=>hc (by simp[z])) e⟩) (fun _ _ _ _ n=>n)
  (fun b o hc e=>⟨o,k b o (fun z=>hc (by simp[z])) e⟩) (fun _ _ e=>e) (fun _ _ _ e=>e) (fun b ps e=>⟨#[],by rw[e];simp⟩) (fun m hm=>?_) (fun b u e=>?_) I.bare
 ·have e:b=it:=by simpa using hb
  subst e
  exact⟨h1,hL,h2,h3⟩
 ·obtain⟨o,es,ep,ho,r⟩:=hm
  exact⟨o,es,ep,k _ o (Xb hL) ho,r⟩
 ·refine(I.hok b u e).stay (fun c v hc q=>k c v ?_ q) (fun _ q=>q) fun _ _ q=>q
  rcases hc with z|z
  ·rw[z];exact nit b u e
  ·exact nit c _ z
theorem Inv.tok(I:Inv X pins σ H s)(t:Nat): Inv X pins σ H { s with toks:=t }:=I.un (h':=s.heap) (t':=t) Un.refl I.hok
theorem Inv.kept{t':Nat}(I:Inv X pins σ H s)(k:∀ b u,s.heap.get? b=some u->h'.get? b=some u): Inv X pins σ H { s with heap:=h',toks:=t' }:=I.un (Un.kept k) (I.hok.kept k)
theorem Inv.laid{a:Addr}{o:HO}{t':Nat}(I:Inv X pins σ H s)(k:∀ b u,s.heap.get? b=some u->h'.get? b=some u)(hp:s.heap.objs.size<=a)(new:Qaf X.prog X.w (upd H a o) h' a o):
  Inv X pins σ (upd H a o) { s with heap:=h',toks:=t' }:=I.un (Un.laid k hp (I.hok.fresh hp)) (I.hok.laid k hp new)
theorem Inv.write{x e:Addr}{o:HO}{t':Nat}(I:Inv X pins σ H s)(mu:Mut (H x))(he:e=x\/H e=some (.own x))(k:∀ b u,b≠e->s.heap.get? b=some u->h'.get? b=some u)(heo:∃ u,h'.get? e=some u)
  (new:Qaf X.prog X.w (upd H x o) h' x o): Inv X pins σ (upd H x o) { s with heap:=h',toks:=t' }:=I.un (Un.write mu he k heo) (I.hok.write mu he k heo new)
theorem Inv.weak{σ':List (Option V)}(I:Inv X pins σ H s)(hl:σ'.length=σ.length)(w:∀ (i:Nat) v,σ'[i]?=some (some v)->σ[i]?=some (some v)): Inv X pins σ' H s:=
 ⟨I.ok,I.os,I.bare,I.base,let ⟨m,hn,hl'⟩:=I.loc;⟨m,hn,fun i x v e1 e2 e3=>hl' i x v e1 (w i v e2) e3⟩,I.cell,I.free,I.qcj,I.pin,I.hok,hl.trans I.len⟩
theorem Inv.qrl{pins':List (Addr×Obj)}(I:Inv X pins σ H s)(h:∀ p∈pins',s.heap.get? p.1=some p.2/\H p.1=none/\p.1≠X.env.locals/\p.1∉X.fs/\∀ v,p.2.data≠.cell v): Inv X pins' σ H s:=
 ⟨I.ok,I.os,I.bare,I.base,I.loc,I.cell,I.free,I.qcj,fun p hp=>(J4.mp hp).elim (fun z=>I.pin p (Zx _ z)) (h p),I.hok,I.len⟩
theorem qmg{N:List Str}(hN:N.Nodup){i j:Nat}{x:Str}(a:N[i]?=some x)(b:N[j]?=some x): i=j:=by
 obtain⟨h1,e1⟩:=Ji.mp a
 obtain⟨h2,e2⟩:=Ji.mp b
 exact(List.getElem_inj hN).mp (e1.trans e2.symm)
theorem quz{M:Model}{A:Around}{E:Value->Shared->Prop}{i:Nat}{x:Str}{v:V}{u:Value}{Q:Unit->Shared->Prop}(I:Inv X pins σ H s)(hN:X.N.Nodup)(hi:X.N[i]?=some x)(hx:Loc X.env.scope x)(r:RelV v u)
  (h:∀ s',Inv X pins (σ.set i (some v)) H s'->(∃ a,Heap.SameBut a s.heap s'.heap/\(a=X.env.locals\/X.env.cells.lookup x=some a))->Q () s')(hf:X.fn x=true\/X.env.scope.names.lookup x=some .local:=by first|exact .inl rfl|exact .inr rfl|assumption): wpAny M A (storeName X.env x u) Q E s:=by
 obtain⟨m,hn,hl⟩:=id I.loc
 have hcls:(X.env.scope.kind == .class ||(X.env.scope.kind == .module&&X.env.locals != X.env.globals))=false:=by rw[I.ok.kind];rfl
 have hiσ:i<σ.length:=by rw[I.len];exact(Ji.mp hi).1
 have cne:=I.cne
 have tracked:∀ {a:Addr} {h':Heap},(∃ o,s.heap.get? a=some o/\H a=none)->Heap.SameBut a s.heap h'->HOk X.prog X.w H h':=fun {a h'} ha hs b ob e=>by
  obtain⟨_,_,hfree⟩:=ha
  refine(I.hok b ob e).stay (fun c w' hc q=>(hs.2 c ?_).trans q) (fun _ q=>q) fun _ _ q=>q
  rintro rfl
  rcases hc with rfl|hc
  ·rw[hfree] at e;cases e
  ·rw[hfree] at hc;cases hc
 rcases hx with hk|hk
 ·refine wpAny_storeName_local hk hn (fun h' hn' hs=>?_) hcls
  obtain⟨oL,_,_,hoL,_⟩:=id hn
  refine h _ ⟨I.ok,I.os,I.bare,⟨fun b o e n hb hx=>?_,fun b o e n hb hx=>?_,I.base.free,fun b o e hx=>?_,I.base.tups,I.base.qda,I.base.qeo⟩,⟨_,hn',fun j y v' e1 e2 e3=>?_⟩,fun y c e=>?_,I.free,I.qcj,fun p hp=>?_,tracked ⟨oL,hoL,I.free⟩ hs,by simpa using I.len⟩ ⟨_,hs,.inl rfl⟩
  ·exact(hs.2 b (Xl (Xk (Jl e) I.ok.above))).trans (I.base.keep b o e n hb hx)
  ·obtain⟨sl,e1⟩:=I.base.slot b o e n hb hx
   exact⟨sl,(hs.2 b (Xl (Xk (Jl e) I.ok.above))).trans e1⟩
  ·obtain⟨o',e1⟩:=I.base.there b o e hx
   exact⟨o',(hs.2 b (Xl (Xk (Jl e) I.ok.above))).trans e1⟩
  ·by_cases hj:j=i
   ·subst hj
    rw[hi] at e1;cases e1
    rw[Zp hiσ] at e2
    cases e2
    exact⟨u,r,.inl ⟨hk,by simp⟩⟩
   ·rw[Zy (Xb hj)] at e2
    obtain⟨u',r',q⟩:=hl j y v' e1 e2 e3
    refine⟨u',r',?_⟩
    rcases q with ⟨k,e⟩|⟨k,c,e,z⟩
    ·refine .inl ⟨k,?_⟩
     have:y≠x:=fun e=>hj (qmg hN e1 (e ▸ hi))
     simp[this,e]
    ·exact .inr ⟨k,c,e,z.sameBut hs (cne y c e)⟩
  ·obtain⟨w',z⟩:=I.cell y c e
   exact⟨w',z.sameBut hs (cne y c e)⟩
  ·obtain⟨e,n,ne,nf,d⟩:=I.pin p hp
   exact⟨(hs.2 p.1 ne).trans e,n,ne,nf,d⟩
 ·have hfn:X.fn x=true:=by
   rcases hf with z|z
   ·exact z
   ·rw[z] at hk;cases hk
  obtain⟨c,hc⟩:=I.ok.has x (.inl hk)
  obtain⟨w',z⟩:=I.cell x c hc
  refine wpAny_storeName_cell I.ok.kind hk hc z (fun h' hc' hs=>?_)
  obtain⟨oc,hoc,hocd⟩:=id z
  refine h { s with heap:=h' } ⟨I.ok,I.os,I.bare,⟨fun b o e n hb hx=>?_,fun b o e n hb hx=>?_,I.base.free,fun b o e hx=>?_,I.base.tups,I.base.qda,I.base.qeo⟩,⟨m,hn.sameBut hs (Xb (cne x c hc)),fun j y v' e1 e2 e3=>?_⟩,fun y c' e=>?_,I.free,I.qcj,fun p hp=>?_,tracked ⟨oc,hoc,I.qcj x c hc⟩ hs,by simpa using I.len⟩ ⟨c,hs,.inr hc⟩
  ·exact(hs.2 b (Xl (Xk (Jl e) (I.ok.cab x c hfn hc)))).trans (I.base.keep b o e n hb hx)
  ·obtain⟨sl,e1⟩:=I.base.slot b o e n hb hx
   exact⟨sl,(hs.2 b (Xl (Xk (Jl e) (I.ok.cab x c hfn hc)))).trans e1⟩
  ·obtain⟨o',e1⟩:=I.base.there b o e hx
   exact⟨o',(hs.2 b (Xl (Xk (Jl e) (I.ok.cab x c hfn hc)))).trans e1⟩
  ·by_cases hj:j=i
   ·subst hj
    rw[hi] at e1;cases e1
    rw[Zp hiσ] at e2
    cases e2
    exact⟨u,r,.inr ⟨.inl hk,c,hc,hc'⟩⟩
   ·rw[Zy (Xb hj)] at e2
    obtain⟨u',r',q⟩:=hl j y v' e1 e2 e3
    refine⟨u',r',?_⟩
    rcases q with q|⟨k,c',e,z'⟩
    ·exact .inl q
    ·refine .inr ⟨k,c',e,z'.sameBut hs ?_⟩
     rintro rfl
     exact hj (qmg hN e1 (I.ok.inj _ _ _ e hc ▸ hi))
  ·by_cases hcc:c'=c
   ·subst hcc;exact⟨_,hc'⟩
   ·obtain⟨w2,z2⟩:=I.cell y c' e
    exact⟨w2,z2.sameBut hs hcc⟩
  ·obtain⟨e,n,ne,nf,d⟩:=I.pin p hp
   refine⟨(hs.2 p.1 ?_).trans e,n,ne,nf,d⟩
   intro q
   rw[q,hoc] at e
   have q':oc=p.2:=Jj e
   exact d w' (by rw[<- q'];exact hocd)
theorem quy{M:Model}{A:Around}{E:Value->Shared->Prop}{i:Nat}{x:Str}{v:V}{u:Value}{Q:Unit->Shared->Prop}(I:Inv X pins σ H s)(hN:X.N.Nodup)(hi:X.N[i]?=some x)(hx:Loc X.env.scope x)(r:RelV v u)
  (h:∀ s',Inv X pins (σ.set i (some v)) H s'->Q () s')(hf:X.fn x=true\/X.env.scope.names.lookup x=some .local:=by first|exact .inl rfl|exact .inr rfl|assumption): wpAny M A (storeName X.env x u) Q E s:=
 quz I hN hi hx r (fun s' I' _=>h s' I') hf
theorem Inv.call'{s':Shared}{ch:List Addr}(I:Inv X pins σ H s)(ho:s'.os=s.os)(u:Un (frs X.stack) ch H H' s.heap s'.heap)(hok:HOk X.prog X.w H' s'.heap)(hg:AllBare s'.gens)
  (hch:∀ b∈ch,(b∈X.ex\/X.s_0.heap.objs.size<=b)/\b≠X.env.locals/\(∀ x c,X.env.cells.lookup x=some c->c≠b)/\∀ p∈X.pn++pins,p.1≠b): Inv X pins σ H' s':=by
 obtain⟨h',g',d',t',o'⟩:=s'
 have e:o'=s.os:=ho
 subst e
 exact I.call (g':=g') (t':=t') (d':=d') u hok hg hch
end
abbrev XK:=Value->Option Addr->Hp->Prop
abbrev St:=List (Option V)
abbrev VK:=V->Hp->Prop
abbrev TE:=St->Hp->VK->Prop
abbrev TT:=St->Hp->(Bool->Hp->Prop)->Prop
abbrev TA:=St->Hp->(List V->Hp->Prop)->Prop
structure Ends where
 nx:St->Hp->Prop
 rt:VK
 bk:St->Hp->Prop:=fun _ _=>False
 ct:St->Hp->Prop:=fun _ _=>False
abbrev TS:=Ends->St->Hp->Prop
def EP(X:Cx)(pins:List (Addr×Obj))(σ:St)(Q:VK)(u:Value)(s':Shared): Prop:=∃ v H',Inv X pins σ H' s'/\RelV v u/\Q v H'
def TP(X:Cx)(pins:List (Addr×Obj))(σ:St)(Q:Bool->Hp->Prop)(b:Bool)(s':Shared): Prop:=∃ H',Inv X pins σ H' s'/\Q b H'
def AP(X:Cx)(pins:List (Addr×Obj))(σ:St)(Q:List V->Hp->Prop)(us:List Value)(s':Shared): Prop:=∃ vs H',Inv X pins σ H' s'/\Vals vs us/\Q vs H'
def SP(X:Cx)(pins:List (Addr×Obj))(D:Ends)(f:Flow)(s':Shared): Prop:=
 match f with
 | .next=>∃ σ' H',Inv X pins σ' H' s'/\D.nx σ' H'
 | .brk=>∃ σ' H',Inv X pins σ' H' s'/\D.bk σ' H'
 | .cont=>∃ σ' H',Inv X pins σ' H' s'/\D.ct σ' H'
 | .ret u=>∃ v σ' H',Inv X pins σ' H' s'/\RelV v u/\D.rt v H'
def PE(X:Cx)(e:Expr)(t:TE): Prop:=
 ∀ (pins:List (Addr×Obj)) (s:Shared) (σ:St) (H:Hp) (Q:VK),Inv X pins σ H s->t σ H Q->wpAny (model X.prog X.w) X.A (eval e X.env) (EP X pins σ Q) X.xe s
def PT(X:Cx)(e:Expr)(t:TT): Prop:=
 ∀ (pins:List (Addr×Obj)) (s:Shared) (σ:St) (H:Hp) (Q:Bool->Hp->Prop),Inv X pins σ H s->t σ H Q->wpAny (model X.prog X.w) X.A (isTrue e X.env (eval e X.env)) (TP X pins σ Q) X.xe s
def PW(X:Cx)(e:Expr)(t:TT): Prop:=
 ∀ (whole:Sem Value) (pins:List (Addr×Obj)) (s:Shared) (σ:St) (H:Hp) (Q:Bool->Hp->Prop),Inv X pins σ H s->t σ H Q->wpAny (model X.prog X.w) X.A (isTrue e X.env whole) (TP X pins σ Q) X.xe s
theorem PW.pt{X:Cx}{e:Expr}{t:TT}(h:PW X e t): PT X e t:=h _
def PA(X:Cx)(es:List Expr)(t:TA): Prop:=
 ∀ (pos:Pos) (pins:List (Addr×Obj)) (s:Shared) (σ:St) (H:Hp) (Q:List V->Hp->Prop),Inv X pins σ H s->t σ H Q->wpAny (model X.prog X.w) X.A (spliced (backTo pos (starEach es X.env))) (AP X pins σ Q) X.xe s
def PS(X:Cx)(st:Stmt)(t:TS): Prop:=
 ∀ (pins:List (Addr×Obj)) (s:Shared) (σ:St) (H:Hp) (D:Ends),Inv X pins σ H s->t D σ H->wpAny (model X.prog X.w) X.A (exec st X.env) (SP X pins D) X.xe s
def PSs(X:Cx)(st:List Stmt)(t:TS): Prop:=
 ∀ (pins:List (Addr×Obj)) (s:Shared) (σ:St) (H:Hp) (D:Ends),Inv X pins σ H s->t D σ H->wpAny (model X.prog X.w) X.A (execs st X.env) (SP X pins D) X.xe s
theorem thn{α:Type}{t:Sem α}{Q Q':α->Shared->Prop}{M:Model}{A:Around}{E:Value->Shared->Prop}{s:Shared}(h:wpAny M A t Q E s)(hQ:∀ a s,Q a s->Q' a s): wpAny M A t Q' E s:=Yw h hQ fun _ _ x=>x
section
variable {X:Cx}
def vd(i:Nat): TE:=fun σ H Q=>∃ v,σ[i]?=some (some v)/\Q v H
def tC(v:V): TE:=fun _ H Q=>Q v H
theorem pe_var{i:Nat}{x:Str}{pos:Pos}(hN:X.N[i]?=some x)(hv:Vis X.env.scope x)(hd:(x==("__debug__" : Str))=false:=by decide)(hcd:(x==("__classdict__" : Str))=false:=by decide): PE X (.Name x pos) (vd i):=by
 intro pins s σ H Q I h
 obtain⟨v,e,h⟩:=h
 obtain⟨m,hn,hl⟩:=I.loc
 obtain⟨u,r,l⟩:=hl i x v hN e hv
 have fin:EP X pins σ Q u s:=⟨v,H,I,r,h⟩
 rcases l with ⟨hk,hm⟩|⟨hk,c,hc,hcell⟩
 ·exact wpAny_Name (wpAny_loadName_local I.ok.kind hk hn hm fin) hd
 ·rcases hk with hk|hk
  ·exact wpAny_Name (wpAny_loadName_cell I.ok.kind hk hc hcell fin) hd
  ·exact wpAny_Name (wpAny_loadName_free I.ok.kind hk hc hcell fin hcd) hd
theorem ki{i j pos}: PE X (.Constant (.int i) j pos) (tC (.int i)):=fun _ _ _ H _ I h=>wpAny_Constant_int ⟨.int i,H,I.tok _,⟨_,rfl⟩,h⟩
theorem pe_bl{b j pos}: PE X (.Constant (.bool b) j pos) (tC (.bl b)):=fun _ _ _ H _ I h=>Constant_bool ⟨.bl b,H,I,rfl,h⟩
theorem qdh{j pos}: PE X (.Constant .none j pos) (tC .non):=fun _ _ _ H _ I h=>Constant_none ⟨.non,H,I,rfl,h⟩
theorem kr{x j pos}: PE X (.Constant (.str x) j pos) (tC (.str x)):=fun _ _ _ H _ I h=>Calls.Constant_str ⟨.str x,H,I.tok _,⟨_,rfl⟩,h⟩
def Gl(X:Cx)(x:Str): Prop:=X.env.kindOf x=some .globalImplicit
theorem qhl{E:Value->Shared->Prop}{pins:List (Addr×Obj)}{s:Shared}{σ:St}{H:Hp}{x:Str}{u:Value}{pos:Pos}{Q:Value->Shared->Prop}(I:Inv X pins σ H s)(hg:Gl X x)(hm:X.mg x=some u)(h:Q u s)
  (hd:(x==("__debug__" : Str))=false:=by decide): wpAny (model X.prog X.w) X.A (eval (.Name x pos) X.env) Q E s:=
 Calls.Name_function_global I.ok.kind hg (Calls.loadGlobal_global (by rw[I.ok.glob];exact I.mod.glob.keeps I.bk) hm h) hd
theorem qee{E:Value->Shared->Prop}{pins:List (Addr×Obj)}{s:Shared}{σ:St}{H:Hp}{x:Str}{u:Value}{pos:Pos}{Q:Value->Shared->Prop}(I:Inv X pins σ H s)(hg:Gl X x)(hm:X.mg x=none)(hv:bootBuiltins x=some u)(h:Q u s)
  (hn:x≠"__name__":=by decide)(hd:(x==("__debug__" : Str))=false:=by decide): wpAny (model X.prog X.w) X.A (eval (.Name x pos) X.env) Q E s:=by
 obtain⟨mb,h1,h2⟩:=I.mod.blt
 exact Calls.Name_function_global I.ok.kind hg (Calls.loadGlobal_builtin (by rw[I.ok.glob];exact I.mod.glob.keeps I.bk) hm (by rw[I.ok.blt];exact h1.keeps I.bk) ((h2 x hn).trans hv) h) hd
theorem q4y{x:Str}{v:V}{u:Value}{pos:Pos}(hg:Gl X x)(hm:X.mg x=some u)(r:RelV v u)(hd:(x==("__debug__" : Str))=false:=by decide): PE X (.Name x pos) (tC v):=
 fun _ _ _ H _ I h=>qhl I hg hm ⟨v,H,I,r,h⟩ hd
variable {a b:Expr} {ta tb:TE} {pos:Pos}
def PC(X:Cx)(op:CmpOp)(a b:Expr)(t:TE): Prop:=
 ∀ (pins:List (Addr×Obj)) (s:Shared) (σ:St) (H:Hp) (Q:VK),Inv X pins σ H s->t σ H Q ->
   wpAny (model X.prog X.w) X.A (eval a X.env) (fun v s₁=>wpAny (model X.prog X.w) X.A (eval b X.env) (fun u s₂=>wpAny (model X.prog X.w) X.A (compareOp op v u) (EP X pins σ Q) X.xe s₂) X.xe s₁) X.xe s
def tB(t:TE): TT:=fun σ H Q=>t σ H fun x H1=>∃ c,x = .bl c/\Q c H1
theorem pe_cmp{op:CmpOp}{t:TE}(h:PC X op a b t)(h1:behindInMarks op b=false:=by first|exact q4i _ (by decide) (by decide)|rfl): PE X (.Compare a [op] [b] pos) t:=fun pins s σ H Q I hw=>wpAny_Compare1 (h pins s σ H Q I hw) h1
theorem qgk{op:CmpOp}{t:TE}(h:PC X op a b t)(h1:behindInMarks op b=false:=by first|exact q4i _ (by decide) (by decide)|rfl): PT X (.Compare a [op] [b] pos) (tB t):=by
 intro pins s σ H Q I hw
 refine wpAny_isTrue_Compare1 (thn (h pins s σ H _ I hw) fun v s1 h1=>thn h1 fun u s2 h2=>thn h2 fun c s3 ⟨x,H1,I1,r1,q1⟩=>?_) h1
 obtain⟨d,rfl,q⟩:=q1
 cases r1
 exact Zz ⟨H1,I1,q⟩
theorem qdy{e:Expr}{t:TE}(h:PE X e t)(he:∀ whole,isTrue e X.env whole=(do let v <- whole;standAt e.pos;holding [v] (truthy v)):=by intro _;rfl): PT X e (tB t):=by
 intro pins s σ H Q I hw
 refine isTrue_plain (thn (h pins s σ H _ I hw) fun v s1 ⟨x,H1,I1,r1,q1⟩=>?_) (he _)
 obtain⟨d,rfl,q⟩:=q1
 cases r1
 exact Zz ⟨H1,I1,q⟩
variable {tA tB':TT} {rest:List Expr}
def tAnd(t u:TT): TT:=fun σ H Q=>t σ H fun c H1=>if c=true then u σ H1 Q else Q false H1
def tOr(t u:TT): TT:=fun σ H Q=>t σ H fun c H1=>if c=true then Q true H1 else u σ H1 Q
def tNot(t:TT): TT:=fun σ H Q=>t σ H fun c H1=>Q (!c) H1
theorem qe2(ha:PT X a tA): PW X (.BoolOp .And [a] pos) tA:=by
 intro wh pins s σ H Q I h
 refine isTrue_and (thn (ha pins s σ H Q I h) fun c s1 e=>?_)
 cases c with
 |true=>exact isTrue_and_nil e
 |false=>exact e
theorem qmx(ha:PT X a tA): PW X (.BoolOp .Or [a] pos) tA:=by
 intro wh pins s σ H Q I h
 refine isTrue_or (thn (ha pins s σ H Q I h) fun c s1 e=>?_)
 cases c with
 |false=>exact isTrue_or_nil e
 |true=>exact e
theorem qe1(ha:PT X a tA)(hb:PW X (.BoolOp .And (b::rest) pos) tB'): PW X (.BoolOp .And (a::b::rest) pos) (tAnd tA tB'):=by
 intro wh pins s σ H Q I h
 refine isTrue_and (thn (ha pins s σ H _ I h) fun c s1 ⟨H1,I1,q1⟩=>?_)
 cases c with
 |true=>exact hb wh pins s1 σ H1 Q I1 q1
 |false=>exact⟨H1,I1,q1⟩
theorem qmw(ha:PT X a tA)(hb:PW X (.BoolOp .Or (b::rest) pos) tB'): PW X (.BoolOp .Or (a::b::rest) pos) (tOr tA tB'):=by
 intro wh pins s σ H Q I h
 refine isTrue_or (thn (ha pins s σ H _ I h) fun c s1 ⟨H1,I1,q1⟩=>?_)
 cases c with
 |true=>exact⟨H1,I1,q1⟩
 |false=>exact hb wh pins s1 σ H1 Q I1 q1
theorem qrr(ha:PT X a tA): PT X (.UnaryOp .Not a pos) (tNot tA):=by
 intro pins s σ H Q I h
 exact isTrue_not (ha pins s σ H (fun c H1=>Q (!c) H1) I h)
def tAndV(ta tb:TE): TE:=fun σ H Q=>ta σ H fun x H1=>∃ c,x = .bl c/\if c=true then tb σ H1 Q else Q (.bl false) H1
def tNotV(ta:TE): TE:=fun σ H Q=>ta σ H fun x H1=>∃ c,x = .bl c/\Q (.bl (!c)) H1
theorem qmq{op}{t:TE}(h:PE X a t): PE X (.BoolOp op [a] pos) t:=fun pins s σ H Q I hw=>BoolOp_one (h pins s σ H Q I hw)
theorem qmo(ha:PE X a ta)(hb:PE X (.BoolOp .And (b::rest) pos) tb): PE X (.BoolOp .And (a::b::rest) pos) (tAndV ta tb):=by
 intro pins s σ H Q I h
 refine BoolOp_and (thn (ha pins s σ H _ I h) fun v s1 ⟨x,H1,I1,r1,q1⟩=>?_)
 obtain⟨c,rfl,q1⟩:=q1
 cases r1
 refine Zz ?_
 cases c with
 |true=>exact hb pins s1 σ H1 Q I1 q1
 |false=>exact⟨.bl false,H1,I1,rfl,q1⟩
theorem pe_not(ha:PE X a ta): PE X (.UnaryOp .Not a pos) (tNotV ta):=by
 intro pins s σ H Q I h
 refine UnaryOp_ (thn (ha pins s σ H _ I h) fun v s1 ⟨x,H1,I1,r1,q1⟩=>?_)
 obtain⟨c,rfl,q1⟩:=q1
 cases r1
 exact not_of (Zz ⟨.bl (!c),H1,I1,rfl,q1⟩)
def tIf(t:TT)(ta tb:TE): TE:=fun σ H Q=>t σ H fun c H1=>if c=true then ta σ H1 Q else tb σ H1 Q
theorem qrh{c:Expr}(hc:PT X c tA)(ha:PE X a ta)(hb:PE X b tb): PE X (.IfExp c a b pos) (tIf tA ta tb):=by
 intro pins s σ H Q I h
 refine wpAny_IfExp (thn (hc pins s σ H _ I h) fun d s1 ⟨H1,I1,q1⟩=>?_)
 cases d with
 |true=>exact ha pins s1 σ H1 Q I1 q1
 |false=>exact hb pins s1 σ H1 Q I1 q1
end
def SqL(K:PySem.W.Frag)(H:Hp)(a:Addr)(xs:List V): Prop:=
 Rd H a (.lst xs) \/
  ∃ (o:Obj) (its:Array Value) (n:Nat),K.lookup a=some o/\o.cls = .type "list"/\o.dict=none/\o.data = .seq its n/\its.size<=sizeLine/\Vals xs its.toList
def SqT(K:PySem.W.Frag)(H:Hp)(a:Addr)(xs:List V): Prop:=
 Rd H a (.tup xs) \/
  ∃ (o:Obj) (its:Array Value) (n:Nat),K.lookup a=some o/\o.cls = .type "tuple"/\o.data = .seq its n/\its.size<=sizeLine/\Vals xs its.toList
def absV:Value->Option V
 | .none=>some .non
 | .bool b=>some (.bl b)
 | .int i _=>some (.int i)
 | .str x _=>some (.str x)
 | .bytes b _=>some (.byt b)
 | .float b _=>some (.flt b)
 | .ref a=>some (.ref a)
 | .type n=>some (.ty n)
 |_=>none
theorem RelV.abs{x:V}{u:Value}(r:RelV x u): absV u=some x:=by
 cases x with
 |non=>cases r;rfl
 |bl _=>cases r;rfl
 |int _=>obtain⟨t,rfl⟩:=r;rfl
 |str _=>obtain⟨t,rfl⟩:=r;rfl
 |byt _=>obtain⟨t,rfl⟩:=r;rfl
 |flt _=>obtain⟨t,rfl⟩:=r;rfl
 |ref _=>cases r;rfl
 |ty _=>cases r;rfl
theorem RelV.inj{x y:V}{u:Value}(r:RelV x u)(q:RelV y u): x=y:=Jj (r.abs.symm.trans q.abs)
theorem Vals.inj:∀ {xs ys:List V} {us:List Value},Vals xs us->Vals ys us->xs=ys
 |_,_,_,.nil,.nil=>rfl
 |_,_,_,.cons r t,.cons r' t'=>by rw[r.inj r',Vals.inj t t']
section
variable {X:Cx} {pins:List (Addr×Obj)} {σ:St} {H:Hp} {s:Shared} {a:Addr} {xs ys:List V}
theorem SqL.of{K:PySem.W.Frag}(h:H a=some (.lst xs)): SqL K H a xs:=.inl (.inl h)
theorem SqT.of{K:PySem.W.Frag}(h:H a=some (.tup xs)): SqT K H a xs:=.inl (.inl h)
theorem Inv.list(I:Inv X pins σ H s)(h:SqL X.K H a xs): ∃ its:List Value,Vals xs its/\PlainL s.heap a its.toArray/\xs.length<=sizeLine:=by
 rcases h with h|⟨o,its,n,hk,hc,hd,hs,hz,r⟩
 ·obtain⟨z,its,n,r,e⟩:=h.ok I.hok
  exact⟨its,r,⟨_,n,e,rfl,rfl,rfl⟩,z⟩
 ·refine⟨its.toList,r,⟨o,n,I.kIn a o hk,hc,hd,by simpa using hs⟩,?_⟩
  have e:=r.length
  simp only[Uc] at e
  omega
theorem Inv.tuple(I:Inv X pins σ H s)(h:SqT X.K H a xs): ∃ its:List Value,Vals xs its/\IsTup s.heap a its.toArray/\xs.length<=sizeLine:=by
 rcases h with h|⟨o,its,n,hk,hc,hs,hz,r⟩
 ·obtain⟨z,its,r,p⟩:=h.ok I.hok
  exact⟨its,r,p,z⟩
 ·refine⟨its.toList,r,⟨o,I.kIn a o hk,hc,n,by simpa using hs⟩,?_⟩
  have e:=r.length
  simp only[Uc] at e
  omega
theorem Inv.qhm(I:Inv X pins σ H s)(h:SqL X.K H a xs)(h':SqL X.K H a ys): xs=ys:=by
 obtain⟨its,r,⟨o,n,e,_,_,d⟩,_⟩:=I.list h
 obtain⟨its',r',⟨o',n',e',_,_,d'⟩,_⟩:=I.list h'
 rw[e] at e';cases e'
 rw[d] at d'
 injection d' with d1 _
 have:its=its':=by simpa using Ym Array.toList d1
 subst this
 exact r.inj r'
theorem Inv.q9r(I:Inv X pins σ H s)(h:SqT X.K H a xs)(h':SqT X.K H a ys): xs=ys:=by
 obtain⟨its,r,⟨o,e,_,n,d⟩,_⟩:=I.tuple h
 obtain⟨its',r',⟨o',e',_,n',d'⟩,_⟩:=I.tuple h'
 rw[e] at e';cases e'
 rw[d] at d'
 injection d' with d1 _
 have:its=its':=by simpa using Ym Array.toList d1
 subst this
 exact r.inj r'
end
abbrev Cx.qd4(X:Cx)(E:Value->Shared->Prop): Cx:={ X with xe:=E }
abbrev Cx.nox(X:Cx): Cx:=X.qd4 fun _ _=>False
theorem Cx.Ok.qd4{X:Cx}(ok:X.Ok)(E:Value->Shared->Prop): (X.qd4 E).Ok:=
 ⟨ok.mod,ok.kind,ok.glob,ok.blt,ok.above,ok.inj,ok.has,ok.cab,ok.hd,ok.frames,ok.stk,ok.exf,ok.bs,ok.bsz,ok.noex,ok.exfs,ok.qcy,ok.frf⟩
theorem Cx.Ok.qe7{X:Cx}{E:Value->Shared->Prop}(ok:(X.qd4 E).Ok): X.Ok:=
 ⟨ok.mod,ok.kind,ok.glob,ok.blt,ok.above,ok.inj,ok.has,ok.cab,ok.hd,ok.frames,ok.stk,ok.exf,ok.bs,ok.bsz,ok.noex,ok.exfs,ok.qcy,ok.frf⟩
section
variable {X:Cx} {pins:List (Addr×Obj)} {σ:St} {H:Hp} {s:Shared} {E:Value->Shared->Prop}
theorem Inv.qd4(I:Inv X pins σ H s)(E:Value->Shared->Prop): Inv (X.qd4 E) pins σ H s:=⟨I.ok.qd4 E,I.os,I.bare,I.base,I.loc,I.cell,I.free,I.qcj,I.pin,I.hok,I.len⟩
theorem Inv.qe7(I:Inv (X.qd4 E) pins σ H s): Inv X pins σ H s:=⟨I.ok.qe7,I.os,I.bare,I.base,I.loc,I.cell,I.free,I.qcj,I.pin,I.hok,I.len⟩
theorem SP.qe7{D:Ends}{f:Flow}{s':Shared}(h:SP (X.qd4 E) pins D f s'): SP X pins D f s':=by
 cases f with
 |next=>obtain⟨σ',H',I,q⟩:=h;exact⟨σ',H',I.qe7,q⟩
 |brk=>obtain⟨σ',H',I,q⟩:=h;exact⟨σ',H',I.qe7,q⟩
 |cont=>obtain⟨σ',H',I,q⟩:=h;exact⟨σ',H',I.qe7,q⟩
 |ret u=>obtain⟨v,σ',H',I,r,q⟩:=h;exact⟨v,σ',H',I.qe7,r,q⟩
theorem PSs.nox{st:List Stmt}{t:TS}(h:PSs X.nox st t): PSs X st t:=fun pins s σ H D I hw=>
 Yw (h pins s σ H D (I.qd4 _) hw) (fun _ _ q=>q.qe7) fun _ _ z=>False.elim z
end
section
variable {X:Cx} {st:Stmt} {rest:List Stmt} {t u:TS} {e:Expr} {te:TE} {pos:Pos}
def qen:TS:=fun D σ H=>D.nx σ H
def qb6(t u:TS): TS:=fun D σ H=>t { D with nx:=u D } σ H
theorem qgj:PSs X [] qen:=fun _ _ σ H _ I h=>Qq ⟨σ,H,I,h⟩
theorem zb(h1:PS X st t)(h2:PSs X rest u): PSs X (st::rest) (qb6 t u):=by
 intro pins s σ H D I h
 refine wpAny_execs_cons (thn (h1 pins s σ H { D with nx:=u D } I h) fun f s1 q=>?_)
 cases f with
 | next=>
   obtain⟨σ',H',I',q⟩:=q
   exact h2 pins s1 σ' H' D I' q
 |ret v=>exact q
 |brk=>exact q
 |cont=>exact q
theorem qaz(h1:PS X st t): PSs X [st] t:=by
 intro pins s σ H D I h
 refine wpAny_execs_cons (thn (h1 pins s σ H D I h) fun f s1 q=>?_)
 cases f with
 |next=>exact Qq q
 |ret v=>exact q
 |brk=>exact q
 |cont=>exact q
def qu2:TS:=fun D σ H=>D.bk σ H
theorem q5g:PS X (.Break pos) qu2:=fun _ _ σ H _ I h=>wpAny_Break ⟨σ,H,I,h⟩
theorem Inv.quiet{pins:List (Addr×Obj)}{σ:St}{H:Hp}{s:Shared}(I:Inv X pins σ H s): interactive X.env=false:=by simp[interactive,I.ok.kind]
def qj3(te:TE): TS:=fun D σ H=>te σ H fun _ H1=>D.nx σ H1
theorem qbn(he:PE X e te)(hs:swapsWith e none pos.line X.env=pure false:=by rfl): PS X (.Expr e pos) (qj3 te):=by
 intro pins s σ H D I h
 exact wpAny_Expr_any (thn (he pins s σ H _ I h) fun v s1 ⟨x,H1,I1,r1,q1⟩=>⟨σ,H1,I1,q1⟩) I.quiet hs
def qbz(te:TE): TS:=fun D σ H=>te σ H D.rt
theorem ps_ret(he:PE X e te): PS X (.Return (some e) pos) (qbz te):=by
 intro pins s σ H D I h
 exact wpAny_Return_some (thn (he pins s σ H _ I h) fun v s1 ⟨x,H1,I1,r1,q1⟩=>⟨x,σ,H1,I1,r1,q1⟩)
def qem(c:TT)(t u:TS): TS:=fun D σ H=>c σ H fun b H1=>if b=true then t D σ H1 else u D σ H1
theorem qgh{c:Expr}{a b:List Stmt}{tc:TT}(hc:PT X c tc)(ha:PSs X a t)(hb:PSs X b u): PS X (.If c a b pos) (qem tc t u):=by
 intro pins s σ H D I h
 refine wpAny_If (thn (hc pins s σ H _ I h) fun d s1 ⟨H1,I1,q1⟩=>?_)
 cases d with
 |true=>exact ha pins s1 σ H1 D I1 q1
 |false=>exact hb pins s1 σ H1 D I1 q1
end
abbrev TG:=V->St->Hp->(St->Hp->Prop)->Prop
abbrev TGs:=List V->St->Hp->(St->Hp->Prop)->Prop
def PG(X:Cx)(target:Expr)(t:TG): Prop:=
 ∀ (pins:List (Addr×Obj)) (s:Shared) (σ:St) (H:Hp) (v:V) (u:Value) (Q:St->Hp->Prop),Inv X pins σ H s->RelV v u->t v σ H Q ->
   wpAny (model X.prog X.w) X.A (assign target X.env u) (fun _ s'=>∃ σ' H',Inv X pins σ' H' s'/\Q σ' H') X.xe s
def PGs(X:Cx)(ts:List Expr)(t:TGs): Prop:=
 ∀ (pins:List (Addr×Obj)) (s:Shared) (σ:St) (H:Hp) (vs:List V) (us:List Value) (Q:St->Hp->Prop),Inv X pins σ H s->Vals vs us->t vs σ H Q ->
   wpAny (model X.prog X.w) X.A (assignInOrder ((assignEach ts X.env).map (·.2)) us) (fun _ s'=>∃ σ' H',Inv X pins σ' H' s'/\Q σ' H') X.xe s
abbrev TSet:=V->V->V->Hp->(Hp->Prop)->Prop
def PSet(X:Cx)(t:TSet): Prop:=
 ∀ (pins:List (Addr×Obj)) (s:Shared) (σ:St) (H:Hp) (o i v:V) (ov iv u:Value) (Q:Hp->Prop),Inv X pins σ H s->RelV o ov->RelV i iv->RelV v u->t o i v H Q ->
   wpAny (model X.prog X.w) X.A (setItem ov iv u) (fun _ s'=>∃ H',Inv X pins σ H' s'/\Q H') X.xe s
section
variable {X:Cx} {pos:Pos}
def qb4(i:Nat): TG:=fun v σ H Q=>Q (σ.set i (some v)) H
theorem q45{i:Nat}{x:Str}(hN:X.N.Nodup)(hi:X.N[i]?=some x)(hx:Loc X.env.scope x)(hf:X.fn x=true\/X.env.scope.names.lookup x=some .local:=by first|exact .inl rfl|exact .inr rfl|assumption): PG X (.Name x pos) (qb4 i):=by
 intro pins s σ H v u Q I r h
 exact wpAny_assign_Name (quy I hN hi hx r (fun s' I'=>⟨_,H,I',h⟩) hf)
def gNil:TGs:=fun vs σ H Q=>vs=[]/\Q σ H
def qiv(t:TG)(u:TGs): TGs:=fun vs σ H Q=>∃ v r,vs=v::r/\t v σ H fun σ' H'=>u r σ' H' Q
theorem qey:PGs X [] gNil:=by
 intro pins s σ H vs us Q I r h
 obtain⟨e,h⟩:=h
 subst e
 cases r
 exact assignInOrder_nil ⟨σ,H,I,h⟩
theorem qbi{e:Expr}{es:List Expr}{t:TG}{u:TGs}(h1:PG X e t)(h2:PGs X es u)
  (hs:(assignEach (e::es) X.env).map (·.2)=assign e X.env::(assignEach es X.env).map (·.2):=by rfl): PGs X (e::es) (qiv t u):=by
 intro pins s σ H vs us Q I r h
 obtain⟨v,vr,e1,h⟩:=h
 subst e1
 cases r with
 | cons r rr=>
   rw[hs]
   refine assignInOrder_cons (thn (h1 pins s σ H _ _ _ I r h) fun _ s1 ⟨σ1,H1,I1,q1⟩=>?_)
   exact h2 pins s1 σ1 H1 _ _ Q I1 rr q1
def gTup(K:PySem.W.Frag)(n:Nat)(t:TGs): TG:=fun v σ H Q=>∃ a xs,v = .ref a/\SqT K H a xs/\xs.length=n/\t xs σ H Q
theorem pg_tup{es:List Expr}{k:Nat}{t:TGs}{n:Nat}(hc:X.calm=true)(h:PGs X es t)
  (hn:(assignEach es X.env).length=n:=by rfl)(hst:(assignEach es X.env).findIdx? (·.1)=none:=by rfl): PG X (.Tuple es k pos) (gTup X.K n t):=by
 intro pins s σ H v u Q I r hw
 obtain⟨a,xs,e1,hq,hl,hw⟩:=hw
 subst e1
 cases r
 obtain⟨its,rv,ht,hz⟩:=I.tuple hq
 refine assign_Tuple_tuple (I.ok.hd hc) ht (by simp[hn,<- hl,rv.length]) hst fun h' hx=>?_
 have I1:Inv X pins σ H { s with heap:=h' }:=I.kept (t':=s.toks) fun b o e=>hx b o (Xl (Jl e)) e
 exact h pins _ σ H xs _ Q I1 (by simpa using rv) hw
def gSub(to ti:TE)(t:TSet): TG:=fun v σ H Q=>to σ H fun o H1=>ti σ H1 fun i H2=>t o i v H2 fun H3=>Q σ H3
theorem pg_sub{o i:Expr}{to ti:TE}{t:TSet}(ho:PE X o to)(hi:PE X i ti)(hs:PSet X t)
  (ha:∀ v,assign (.Subscript o i pos) X.env v=(do
   let ov <- holding [v] (eval o X.env)
   let iv <- holding [v,ov] (eval i X.env)
   standAt pos
   holding [v,ov,iv] (setItem ov iv v)
   release [v,ov,iv] []):=by intro _;rfl): PG X (.Subscript o i pos) (gSub to ti t):=by
 intro pins s σ H v u Q I r h
 rw[ha]
 refine Ja (Xi (thn (ho pins s σ H _ I h) fun ov s1 ⟨x,H1,I1,r1,q1⟩=>?_))
 refine Ja (Xi (thn (hi pins s1 σ H1 _ I1 q1) fun iv s2 ⟨y,H2,I2,r2,q2⟩=>?_))
 refine Ja (wpAny_standAt (Ja (Xi (thn (hs pins s2 σ H2 x y v ov iv u _ I2 r1 r2 r q2) fun _ s3 ⟨H3,I3,q3⟩=>?_))))
 exact wpAny_release ⟨σ,H3,I3,q3⟩
def qd1(te:TE)(g:TG): TS:=fun D σ H=>te σ H fun x H1=>g x σ H1 D.nx
theorem ps_asg{tg e:Expr}{te:TE}{g:TG}(he:PE X e te)(hg:PG X tg g)(hs:swapsWithSole [tg] e pos.line X.env=pure false:=by rfl)(hw:swappedStores [tg] e X.env=pure none:=by rfl)
  (h1:(assignEach [tg] X.env).map (·.2)=[assign tg X.env]:=by rfl): PS X (.Assign [tg] e pos) (qd1 te g):=by
 intro pins s σ H D I h
 refine wpAny_Assign_stores (thn (he pins s σ H _ I h) fun v s1 ⟨x,H1,I1,r1,q1⟩=>?_) hs hw
 rw[h1]
 exact thn (hg pins s1 σ H1 x v _ I1 r1 q1) fun _ s2 q=>q
theorem qrq{i:Nat}{x:Str}{e:Expr}{te:TE}{pos':Pos}(hN:X.N.Nodup)(hi:X.N[i]?=some x)(hx:Loc X.env.scope x)(he:PE X e te)(hs:swapsWith e (some (.Name x pos')) pos.line X.env=pure false:=by rfl)(hf:X.fn x=true\/X.env.scope.names.lookup x=some .local:=by first|exact .inl rfl|exact .inr rfl|assumption):
  PS X (.Assign [.Name x pos'] e pos) (qd1 te (qb4 i)):=by
 intro pins s σ H D I h
 refine wpAny_Assign_Name (thn (he pins s σ H _ I h) fun v s1 ⟨y,H1,I1,r1,q1⟩=>?_) hs
 exact quy I1 hN hi hx r1 (fun s2 I2=>⟨_,H1,I2,q1⟩) hf
end
section
variable {X:Cx} {pos:Pos}
def qvb(c:TT)(tb:TS): TS:=fun D σ H=>∃ W:Nat->St->Hp->Prop,(∃ m,W m σ H)/\∀ m σ H,W m σ H ->
 c σ H fun b H1=>if b=true then ∃ N:St->Hp->Prop,(∀ σ' H',N σ' H'->∃ m',m' < m/\W m' σ' H')/\tb { D with nx:=N,ct:=N,bk:=D.nx } σ H1 else D.nx σ H1
theorem q5h{c:Expr}{body:List Stmt}{tc:TT}{tb:TS}(hp:PassesOwn (model X.prog X.w) X.A X.env X.xe)(hc:PT X c tc)(hb:PSs X body tb): PS X (.While c body [] pos) (qvb tc tb):=by
 intro pins s σ H D I h
 obtain⟨W,⟨m0,w0⟩,turn⟩:=h
 refine wpAny_While (codeAny_whileLoop (fun n s'=>∃ σ' H',Inv X pins σ' H' s'/\W n σ' H') ?_ m0 ⟨σ,H,I,w0⟩)
 rintro n s1 ⟨σ1,H1,I1,w1⟩
 refine Z8 hp (thn (hc pins s1 σ1 H1 _ I1 (turn n σ1 H1 w1)) fun b s2 ⟨H2,I2,q2⟩=>?_)
 cases b with
 | true=>
   obtain⟨N,hN,q2⟩:=q2
   rw[Je rfl]
   refine Z8 hp (thn (hb pins s2 σ1 H2 _ I2 q2) fun f s3 q3=>?_)
   cases f with
   | next=>
     obtain⟨σ3,H3,I3,n3⟩:=q3
     obtain⟨m',hm,w3⟩:=hN σ3 H3 n3
     exact⟨m',hm,σ3,H3,I3,w3⟩
   | cont=>
     obtain⟨σ3,H3,I3,n3⟩:=q3
     obtain⟨m',hm,w3⟩:=hN σ3 H3 n3
     exact⟨m',hm,σ3,H3,I3,w3⟩
   |brk=>exact q3
   |ret v=>exact q3
 | false=>
   rw[Jc Jr]
   exact Qq ⟨σ1,H2,I2,q2⟩
end
structure It where
 go:Nat->Hp->Prop
 yld:Nat->Hp->V->Hp->Prop
 stop:Nat->Hp->Prop
def Qcs(X:Cx)(pins:List (Addr×Obj))(H:Hp)(b:Addr): Prop:=
 H b=none/\b≠X.env.locals/\b∉X.fs/\(b∈X.ex\/X.s_0.heap.objs.size<=b)/\(∀ x c,X.env.cells.lookup x=some c->c≠b)/\∀ p∈X.pn++pins,p.1≠b
theorem Inv.qet{X:Cx}{pins:List (Addr×Obj)}{σ:St}{H H':Hp}{s:Shared}{b:Addr}(I:Inv X pins σ H s)(hb:s.heap.objs.size<=b)(hn:H' b=none): Qcs X pins H' b:=by
 refine⟨hn,J5 (Xk I.lt hb),I.nofs hb,.inr (Xd I.sz hb),fun x c e z=>?_,fun p hp z=>?_⟩
 ·obtain⟨v,q⟩:=I.cell x c e
  exact absurd (Xk q.lt (by rw[z];exact hb)) (Yd _)
 ·exact absurd (Xk (Jl (I.pin p hp).1) (by rw[z];exact hb)) (Yd _)
structure Turn(P:Program)(w:World)(K:PySem.W.Frag)(tg:Expr)(J:It)(fp:List Addr)(it:Addr)(tn:Nat->Heap->Prop): Prop where
 mem:it∈fp
 obj:∀ i h,tn i h->∀ b∈fp,∃ o,h.get? b=some o/\∀ v,o.data≠.cell v
 keep:∀ i h h',tn i h->(∀ b∈fp,∀ o,h.get? b=some o->h'.get? b=some o)->tn i h'
 item:∀ (X:Cx),X.prog=P->X.w=w->X.K=K->X.calm=true->∀ (i:Nat) (pins:List (Addr×Obj)) (s:Shared) (σ:St) (H:Hp) (E:Value->Shared->Prop),Inv X pins σ H s->(∀ b∈fp,Qcs X pins H b)->tn i s.heap->J.go i H ->
  wpAny (model P w) X.A (pyNext (.ref it)) (fun r s1=>∃ u,r=some u /\
   wpAny (model P w) X.A (letOwnedTupleGo tg (.ref it) u) (fun _ s2=>∃ x H',Inv X pins σ H' s2/\RelV x u/\J.yld i H x H'/\tn (i+1) s2.heap/\∀ b∈fp,H' b=none) E s1) E s
 done:∀ (X:Cx),X.prog=P->X.w=w->X.K=K->X.calm=true->∀ (i:Nat) (pins:List (Addr×Obj)) (s:Shared) (σ:St) (H:Hp) (E:Value->Shared->Prop),Inv X pins σ H s->(∀ b∈fp,Qcs X pins H b)->tn i s.heap->J.stop i H ->
  wpAny (model P w) X.A (pyNext (.ref it)) (fun r s1=>r=none/\Inv X pins σ H s1) E s
 self:∀ (A:Around) (i:Nat) (s:Shared) (Q:Value->Shared->Prop) (E:Value->Shared->Prop),tn i s.heap->Q (.ref it) s->wpAny (model P w) A (pyIter (.ref it)) Q E s
abbrev TI:=St->Hp->(It->Hp->Prop)->Prop
def PIE(X:Cx)(pins:List (Addr×Obj))(σ:St)(tg:Expr)(R:It->Hp->Prop)(itv:Value)(s2:Shared): Prop:=
 ∃ (it:Addr) (fp:List Addr) (tn:Nat->Heap->Prop) (J:It) (H':Hp),itv = .ref it/\Inv X pins σ H' s2/\Turn X.prog X.w X.K tg J fp it tn/\tn 0 s2.heap/\(∀ b∈fp,Qcs X pins H' b)/\R J H'
def PI(X:Cx)(tg iter:Expr)(wi:TI): Prop:=
 ∀ (pins:List (Addr×Obj)) (s:Shared) (σ:St) (H:Hp) (R:It->Hp->Prop),Inv X pins σ H s->wi σ H R ->
   wpAny (model X.prog X.w) X.A (eval iter X.env) (fun v s1=>wpAny (model X.prog X.w) X.A (pyIter v) (PIE X pins σ tg R) X.xe s1) X.xe s
theorem qhg{M:Model}{A:Around}{E:Value->Shared->Prop}{s:Shared}{tg:Expr}{it:Addr}{u:Value}{o:Obj}{n:String}{vs:Array Value}{Q:Unit->Shared->Prop}(ho:s.heap.get? it=some o)(hc:o.cls = .type n)(hd:o.data = .fields vs)
  (hn:["enumerate","zip","dict_itemiterator","dict_reverseitemiterator","odict_iterator","itertools.zip_longest","itertools.pairwise"].contains n=false)(hQ:Q () s): wpAny M A (letOwnedTupleGo tg (.ref it) u) Q E s:=by
 unfold letOwnedTupleGo
 cases tg<;>first
  |exact Jg hQ
  |(cases u<;>first
    |exact Jg hQ
    |(refine Ja (wpAny_load ho ?_)
      rw[hc,hd]
      show wpAny M A (if (["enumerate","zip","dict_itemiterator","dict_reverseitemiterator","odict_iterator","itertools.zip_longest","itertools.pairwise"].contains n&&vs[0]? == some (rawInt _))=true then _ else _) Q E s
      rw[Jc (by intro h;rw[hn,Uu] at h;cases h)]
      exact Jg hQ))
def Itl(K:PySem.W.Frag)(a:Addr): It:=
 ⟨fun i H=>∃ xs x,SqL K H a xs/\xs[i]?=some x,fun i H x H'=>H'=H/\∀ xs,SqL K H a xs->xs[i]?=some x,fun i H=>∃ xs,SqL K H a xs/\xs.length<=i⟩
def Itt(K:PySem.W.Frag)(a:Addr): It:=
 ⟨fun i H=>∃ xs x,SqT K H a xs/\xs[i]?=some x,fun i H x H'=>H'=H/\∀ xs,SqT K H a xs->xs[i]?=some x,fun i H=>∃ xs,SqT K H a xs/\xs.length<=i⟩
def Itr(lo:Int)(n:Nat): It:=⟨fun i _=>i<n,fun i H x H'=>H'=H/\x = .int (lo+i),fun i _=>n<=i⟩
theorem q9x{P:Program}{w:World}{K:PySem.W.Frag}{tg:Expr}(a it:Addr): Turn P w K tg (Itl K a) [it] it (fun i h=>h.IsListIter it a i) where
 mem:=by simp
 obj:=fun i h st b hb=>by
  have e:b=it:=by simpa using hb
  subst e
  obtain⟨o,e,c,d⟩:=st
  exact⟨o,e,fun v z=>by rw[d] at z;cases z⟩
 keep:=fun i h h' st k=>st.at fun o e=>k it (by simp) o e
 item:=by
  intro X hP hw hK hc i pins s σ H E I hf st hg
  subst hP hw hK
  obtain⟨xs,x,hq,hx⟩:=hg
  obtain⟨its,rv,p,hz⟩:=I.list hq
  obtain⟨u,hu,ru⟩:=rv.get hx
  obtain⟨f0,f1,f2,f3,f4,f5⟩:=hf it (by simp)
  refine wpAny_pyNext_list_item st p.isList (x:=u) (by simpa using hu) fun h' st' sb=>?_
  have I1:Inv X pins σ H { s with heap:=h' }:=I.turned (t':=s.toks) (fun b o hb e=>(sb.2 b hb).trans e) f0 f1 f3 f4 f5
  obtain⟨o,e,c,d⟩:=id st'
  exact⟨u,rfl,qhg (s:={ s with heap:=h' }) e c d (by decide) ⟨x,H,I1,ru,⟨rfl,fun ys hy=>by rw[I.qhm hy hq];exact hx⟩,st',fun b hb=>(hf b hb).1⟩⟩
 done:=by
  intro X hP hw hK hc i pins s σ H E I hf st hg
  subst hP hw hK
  obtain⟨xs,hq,hx⟩:=hg
  obtain⟨its,rv,p,hz⟩:=I.list hq
  obtain⟨f0,f1,f2,f3,f4,f5⟩:=hf it (by simp)
  have hl:=rv.length
  exact wpAny_pyNext_list_end (I.ok.hd hc) st p.isList (by simp;omega) fun h' eb=>⟨rfl,I.turned (t':=s.toks) (fun b o hb e=>eb b o hb e) f0 f1 f3 f4 f5⟩
 self:=fun _ _ _ _ _ st h=>wpAny_pyIter_listiter st h
theorem q9z{P:Program}{w:World}{K:PySem.W.Frag}{tg:Expr}(a it:Addr): Turn P w K tg (Itt K a) [it] it (fun i h=>h.IsTupleIter it a i) where
 mem:=by simp
 obj:=fun i h st b hb=>by
  have e:b=it:=by simpa using hb
  subst e
  obtain⟨o,e,c,d⟩:=st
  exact⟨o,e,fun v z=>by rw[d] at z;cases z⟩
 keep:=fun i h h' st k=>st.at fun o e=>k it (by simp) o e
 item:=by
  intro X hP hw hK hc i pins s σ H E I hf st hg
  subst hP hw hK
  obtain⟨xs,x,hq,hx⟩:=hg
  obtain⟨its,rv,p,hz⟩:=I.tuple hq
  obtain⟨u,hu,ru⟩:=rv.get hx
  obtain⟨f0,f1,f2,f3,f4,f5⟩:=hf it (by simp)
  refine wpAny_pyNext_tuple_item st (show s.heap.IsTuple a its.toArray from p) (x:=u) (by simpa using hu) fun h' st' sb=>?_
  have I1:Inv X pins σ H { s with heap:=h' }:=I.turned (t':=s.toks) (fun b o hb e=>(sb.2 b hb).trans e) f0 f1 f3 f4 f5
  obtain⟨o,e,c,d⟩:=id st'
  exact⟨u,rfl,qhg (s:={ s with heap:=h' }) e c d (by decide) ⟨x,H,I1,ru,⟨rfl,fun ys hy=>by rw[I.q9r hy hq];exact hx⟩,st',fun b hb=>(hf b hb).1⟩⟩
 done:=by
  intro X hP hw hK hc i pins s σ H E I hf st hg
  subst hP hw hK
  obtain⟨xs,hq,hx⟩:=hg
  obtain⟨its,rv,p,hz⟩:=I.tuple hq
  obtain⟨f0,f1,f2,f3,f4,f5⟩:=hf it (by simp)
  have hl:=rv.length
  exact wpAny_pyNext_tuple_end (I.ok.hd hc) st (show s.heap.IsTuple a its.toArray from p) (by simp;omega) fun h' eb=>⟨rfl,I.turned (t':=s.toks) (fun b o hb e=>eb b o hb e) f0 f1 f3 f4 f5⟩
 self:=fun _ _ _ _ _ st h=>wpAny_pyIter_tupleiter st h
theorem q9y{P:Program}{w:World}{K:PySem.W.Frag}{tg:Expr}(it:Addr)(lo:Int)(n:Nat): Turn P w K tg (Itr lo n) [it] it (fun i h=>IsRangeIter h it (lo+(i:Nat)*1) ((n:Int)-(i:Nat)) 1) where
 mem:=by simp
 obj:=fun i h st b hb=>by
  have e:b=it:=by simpa using hb
  subst e
  exact⟨_,st,fun v z=>by
   have z':Data.fields _=Data.cell v:=z
   cases z'⟩
 keep:=fun i h h' st k=>k it (by simp) _ st
 item:=by
  intro X hP hw hK hc i pins s σ H E I hf st hg
  subst hP hw hK
  obtain⟨f0,f1,f2,f3,f4,f5⟩:=hf it (by simp)
  have W:=Walks.range (prog:=X.prog) (w:=X.w) (I.ok.hd hc) it lo 1 n
  refine W.item i s _ _ hg st fun v h' tk hv st' kk=>?_
  obtain⟨t,rfl⟩:=hv
  have I1:Inv X pins σ H { s with heap:=h',toks:=tk }:=I.turned (fun b o hb e=>kk b o (by simpa using hb) e) f0 f1 f3 f4 f5
  refine⟨_,rfl,qhg (s:={ s with heap:=h',toks:=tk }) (n:= "range_iterator") st' rfl rfl (by decide) ⟨.int (lo+i),H,I1,⟨t,?_⟩,⟨rfl,rfl⟩,st',fun b hb=>(hf b hb).1⟩⟩
  rw[Int.mul_one]
 done:=by
  intro X hP hw hK hc i pins s σ H E I hf st hg
  subst hP hw hK
  obtain⟨f0,f1,f2,f3,f4,f5⟩:=hf it (by simp)
  exact wpAny_pyNext_range_end (I.ok.hd hc) st (by have:n<=i:=hg;omega) fun h' eb=>⟨rfl,I.turned (t':=s.toks) (fun b o hb e=>eb b o hb e) f0 f1 f3 f4 f5⟩
 self:=fun _ _ _ _ _ st h=>wpAny_pyIter_rangeiter st h
section
variable {X:Cx} {tg:Expr}
def iList(K:PySem.W.Frag)(tl:TE): TI:=fun σ H R=>tl σ H fun x H1=>∃ a,x = .ref a/\(∃ xs,SqL K H1 a xs)/\R (Itl K a) H1
def iTup(K:PySem.W.Frag)(tl:TE): TI:=fun σ H R=>tl σ H fun x H1=>∃ a,x = .ref a/\(∃ xs,SqT K H1 a xs)/\R (Itt K a) H1
theorem qbj{l:Expr}{tl:TE}(hl:PE X l tl): PI X tg l (iList X.K tl):=by
 intro pins s σ H R I h
 refine thn (hl pins s σ H _ I h) fun v s1 ⟨x,H1,I1,r1,q1⟩=>?_
 obtain⟨a,e,⟨xs,hq⟩,q⟩:=q1
 subst e
 cases r1
 obtain⟨its,rv,p,hz⟩:=I1.list hq
 refine Y6 p.isList ?_
 refine⟨s1.heap.objs.size,[s1.heap.objs.size],_,_,H1,rfl,I1.kept (t':=s1.toks) fun b o e=>Jb _ e,q9x a _,⟨_,Js _ rfl,rfl,rfl⟩,fun b hb=>?_,q⟩
 have e:b=s1.heap.objs.size:=by simpa using hb
 subst e
 exact I1.qet (Jp _) (I1.hok.fresh (Jp _))
theorem pi_tup{l:Expr}{tl:TE}(hl:PE X l tl): PI X tg l (iTup X.K tl):=by
 intro pins s σ H R I h
 refine thn (hl pins s σ H _ I h) fun v s1 ⟨x,H1,I1,r1,q1⟩=>?_
 obtain⟨a,e,⟨xs,hq⟩,q⟩:=q1
 subst e
 cases r1
 obtain⟨its,rv,p,hz⟩:=I1.tuple hq
 refine wpAny_pyIter_tuple (show s1.heap.IsTuple a its.toArray from p) ?_
 refine⟨s1.heap.objs.size,[s1.heap.objs.size],_,_,H1,rfl,I1.kept (t':=s1.toks) fun b o e=>Jb _ e,q9z a _,⟨_,Js _ rfl,rfl,rfl⟩,fun b hb=>?_,q⟩
 have e:b=s1.heap.objs.size:=by simpa using hb
 subst e
 exact I1.qet (Jp _) (I1.hok.fresh (Jp _))
theorem q5m{pins:List (Addr×Obj)}{σ:St}{H:Hp}{s:Shared}{R:It->Hp->Prop}{E:Value->Shared->Prop}{lo hi:Int}{t u v:Tok}{tk:Nat}(I:Inv X pins σ H s)(h1 : -(2 ^ 62)<=lo)(h2:lo<2 ^ 62)(h3 : -(2 ^ 62)<=hi)(h4:hi<2 ^ 62)
  (q:R (Itr lo (hi-lo).toNat) H): wpAny (model X.prog X.w) X.A (pyIter (.ref s.heap.objs.size)) (PIE X pins σ tg R) E { s with heap:=s.heap.push { cls:=.type "range",data:=.fields #[.int lo t,.int hi u,.int 1 v] },toks:=tk }:=by
 refine wpAny_pyIter_range (IsRange.new ..) (small_one h1 h2 h3 h4) ?_
 have I1:Inv X pins σ H { s with heap:=s.heap.push { cls:=.type "range",data:=.fields #[.int lo t,.int hi u,.int 1 v] },toks:=tk }:=I.kept fun b o e=>Jb _ e
 refine⟨(s.heap.push { cls:=.type "range",data:=.fields #[.int lo t,.int hi u,.int 1 v] }).objs.size,[(s.heap.push { cls:=.type "range",data:=.fields #[.int lo t,.int hi u,.int 1 v] }).objs.size],_,_,H,rfl,
  I1.kept (t':=tk) fun b o e=>Jb _ e,q9y _ lo (hi-lo).toNat,?_,fun b hb=>?_,q⟩
 ·have e1:lo+((0:Nat):Int)*1=lo:=by simp
  have e2:(((hi-lo).toNat:Nat):Int)-((0:Nat):Int)=Builtin.Range.rangeSize lo hi 1:=by rw[rangeSize_one];split<;>omega
  show IsRangeIter _ _ (lo+((0:Nat):Int)*1) ((((hi-lo).toNat:Nat):Int)-((0:Nat):Int)) 1
  rw[e1,e2]
  exact Js _ rfl
 ·have e:b=(s.heap.push { cls:=.type "range",data:=.fields #[.int lo t,.int hi u,.int 1 v] }).objs.size:=by simpa using hb
  subst e
  exact I1.qet (Jp _) (I1.hok.fresh (Jp _))
def iRng1(ta:TA): TI:=fun σ H R=>ta σ H fun vs H1=>∃ j:Int,vs=[.int j]/\-(2 ^ 62)<=j/\j<2 ^ 62/\R (Itr 0 j.toNat) H1
theorem q49{a:Expr}{ta:TA}{p pos:Pos}(hg:Gl X "range")(hm:X.mg "range" = none)(ha:PA X [a] ta)(hs:starEach [a] X.env=[(false,eval a X.env)]:=by rfl): PI X tg (.Call (.Name "range" p) [a] [] pos) (iRng1 ta):=by
 intro pins s σ H R I h
 refine Call_ (qee I hg hm boot_range (Yo (thn (ha pos pins s σ H _ I h) fun us s1 ⟨vs,H1,I1,r1,q1⟩=>?_) hs rfl))
 obtain⟨j,e,q1,q2,q⟩:=q1
 subst e
 cases r1 with
 | cons r rr=>
   cases rr
   obtain⟨t,rfl⟩:=r
   exact call_range_1 (q5m I1 (by omega) (by omega) q1 q2 (by simpa using q))
def tFor(wi:TI)(g:TG)(tb:TS): TS:=fun D σ H=>wi σ H fun J H1=>∃ W:Nat->Nat->St->Hp->Prop,(∃ m,W 0 m σ H1)/\∀ i m σ H,W i m σ H ->
 (J.stop i H/\D.nx σ H)\/(J.go i H/\∃ N:St->Hp->Prop,(∀ σ' H',N σ' H'->∃ m',m' < m/\W (i+1) m' σ' H')/\∀ x H',J.yld i H x H'->g x σ H' fun σ2 H2=>tb { D with nx:=N,ct:=N,bk:=D.nx } σ2 H2)
def qhv(fp:List Addr)(h:Heap): List (Addr×Obj):=fp.filterMap fun b=>(h.get? b).map fun o=>(b,o)
theorem qmd{fp:List Addr}{h:Heap}{b:Addr}{o:Obj}(hb:b∈fp)(e:h.get? b=some o): (b,o)∈qhv fp h:=List.mem_filterMap.mpr ⟨b,hb,by rw[e];rfl⟩
theorem q4m{fp:List Addr}{h:Heap}{p:Addr×Obj}(hp:p∈qhv fp h): p.1∈fp/\h.get? p.1=some p.2:=by
 obtain⟨b,hb,e⟩:=List.mem_filterMap.mp hp
 cases q:h.get? b with
 |none=>rw[q] at e;cases e
 | some o=>
   rw[q] at e
   have e':(b,o)=p:=Jj e
   subst e'
   exact⟨hb,q⟩
theorem Inv.pinned{pins:List (Addr×Obj)}{σ:St}{H:Hp}{s:Shared}{fp:List Addr}(I:Inv X pins σ H s)(hf:∀ b∈fp,Qcs X pins H b)(ho:∀ b∈fp,∃ o,s.heap.get? b=some o/\∀ v,o.data≠.cell v): Inv X (pins++qhv fp s.heap) σ H s:=
 I.qrl fun p hp=>(J4.mp hp).elim (fun z=>I.pin p (Ye _ z)) fun z=>by
  obtain⟨hb,e⟩:=q4m z
  obtain⟨f0,f1,f2,_⟩:=hf p.1 hb
  obtain⟨o,e',d⟩:=ho p.1 hb
  rw[e] at e';cases e'
  exact⟨e,f0,f1,f2,d⟩
theorem Inv.qj8{pins pl:List (Addr×Obj)}{σ:St}{H:Hp}{s:Shared}(I:Inv X (pins++pl) σ H s): Inv X pins σ H s:=I.qrl fun p hp=>I.pin p (Ye _ (Zx _ hp))
theorem qdi{iter:Expr}{body:List Stmt}{wi:TI}{g:TG}{tb:TS}{pos:Pos}(hp:PassesOwn (model X.prog X.w) X.A X.env X.xe)(hc:X.calm=true)(hi:PI X tg iter wi)(hg:PG X tg g)(hb:PSs X body tb)
  (hs:∀ x,foldedSetIterable iter X.env x=pure x:=by intro _;rfl): PS X (.For tg iter body [] pos) (tFor wi g tb):=by
 intro pins s σ H D I h
 refine wpAny_For (thn (hi pins s σ H _ I h) fun v s1 h1=>thn h1 fun itv s2 h2=>?_) hs
 obtain⟨it,fp,tn,J,H2,e,I2,T,st2,f2,W,⟨m0,w0⟩,turn⟩:=h2
 subst e
 have qfp:∀ {H':Hp},(∀ b∈fp,H' b=none)->∀ b∈fp,Qcs X pins H' b:=fun hn b hb=>⟨hn b hb,(f2 b hb).2⟩
 refine codeAny_forLoop_any (fun n s'=>∃ i σ' H',Inv X pins σ' H' s'/\tn i s'.heap/\(∀ b∈fp,H' b=none)/\W i n σ' H') ?_ m0 ⟨0,σ,H2,I2,st2,fun b hb=>(f2 b hb).1,w0⟩
 rintro n s3 ⟨i,σ3,H3,I3,st3,fr3,w3⟩
 rcases turn i n σ3 H3 w3 with ⟨stop,qn⟩|⟨go,N,hN,step⟩
 ·refine Z8 hp (thn (T.done X rfl rfl rfl hc i pins s3 σ3 H3 X.xe I3 (qfp fr3) st3 stop) fun r s4 ⟨hr,I4⟩=>?_)
  subst hr
  exact Qq ⟨σ3,H3,I4,qn⟩
 ·refine Z8 hp (thn (T.item X rfl rfl rfl hc i pins s3 σ3 H3 X.xe I3 (qfp fr3) st3 go) fun r s4 ⟨u,hr,h4⟩=>?_)
  subst hr
  refine Z8 hp (thn h4 fun _ s5 ⟨x,H5,I5,r5,y5,st5,fr5⟩=>?_)
  have I5':=I5.pinned (qfp fr5) (T.obj _ _ st5)
  refine Z8 hp (thn (hg _ s5 σ3 H5 x u _ I5' r5 (step x H5 y5)) fun _ s6 ⟨σ6,H6,I6,q6⟩=>?_)
  refine Z8 hp (thn (hb _ s6 σ6 H6 _ I6 q6) fun f s7 q7=>?_)
  have again:∀ {σ7:St} {H7:Hp},Inv X (pins++qhv fp s5.heap) σ7 H7 s7->N σ7 H7->∃ m,m<n/\∃ i σ' H',Inv X pins σ' H' s7/\tn i s7.heap/\(∀ b∈fp,H' b=none)/\W i m σ' H':=fun {σ7 H7} I7 n7=>by
   obtain⟨m',hm,w7⟩:=hN σ7 H7 n7
   refine⟨m',hm,i+1,σ7,H7,I7.qj8,T.keep _ _ _ st5 fun b hb o e=>(I7.pin (b,o) (Ye _ (Ye _ (qmd hb e)))).1,fun b hb=>?_,w7⟩
   obtain⟨o,e,d⟩:=T.obj _ _ st5 b hb
   exact(I7.pin (b,o) (Ye _ (Ye _ (qmd hb e)))).2.1
  cases f with
  |next=>obtain⟨σ7,H7,I7,n7⟩:=q7;exact again I7 n7
  |cont=>obtain⟨σ7,H7,I7,n7⟩:=q7;exact again I7 n7
  |brk=>obtain⟨σ7,H7,I7,q7⟩:=q7;exact⟨σ7,H7,I7.qj8,q7⟩
  |ret v=>obtain⟨x7,σ7,H7,I7,r7,q7⟩:=q7;exact⟨x7,σ7,H7,I7.qj8,r7,q7⟩
end
abbrev R2:=V->V->Hp->VK->Prop
def OpR(X:Cx)(f:Value->Value->Sem Value)(r:R2): Prop:=
 ∀ (pins:List (Addr×Obj)) (s:Shared) (σ:St) (H:Hp) (x y:V) (v u:Value) (Q:VK),Inv X pins σ H s->RelV x v->RelV y u->r x y H Q ->
   wpAny (model X.prog X.w) X.A (f v u) (EP X pins σ Q) X.xe s
def UnR(X:Cx)(f:Value->Sem Value)(r:V->Hp->VK->Prop): Prop:=
 ∀ (pins:List (Addr×Obj)) (s:Shared) (σ:St) (H:Hp) (x:V) (v:Value) (Q:VK),Inv X pins σ H s->RelV x v->r x H Q ->
   wpAny (model X.prog X.w) X.A (f v) (EP X pins σ Q) X.xe s
def Qdm(X:Cx)(f:Value)(r:List V->Hp->VK->Prop): Prop:=
 ∀ (pins:List (Addr×Obj)) (s:Shared) (σ:St) (H:Hp) (xs:List V) (us:List Value) (Q:VK),Inv X pins σ H s->Vals xs us->r xs H Q ->
   wpAny (model X.prog X.w) X.A (call f us) (EP X pins σ Q) X.xe s
def tOp(r:R2)(ta tb:TE): TE:=fun σ H Q=>ta σ H fun x H1=>tb σ H1 fun y H2=>r x y H2 Q
def tUn(r:V->Hp->VK->Prop)(ta:TE): TE:=fun σ H Q=>ta σ H fun x H1=>r x H1 Q
def rI(C:Int->Int->Prop)(g:Int->Int->V): R2:=fun x y H Q=>∃ i j,x = .int i/\y = .int j/\C i j/\Q (g i j) H
def rI0(g:Int->Int->V): R2:=fun x y H Q=>∃ i j,x = .int i/\y = .int j/\Q (g i j) H
def rU(g:Int->V): V->Hp->VK->Prop:=fun x H Q=>∃ i,x = .int i/\Q (g i) H
section
variable {X:Cx} {a b c:Expr} {ta tb tc:TE} {pos:Pos}
theorem binT(ha:PE X a ta)(hb:PE X b tb){pins:List (Addr×Obj)}{s:Shared}{σ:St}{H:Hp}{R:V->V->Hp->Prop}(I:Inv X pins σ H s)
  (h:ta σ H fun x H1=>tb σ H1 fun y H2=>R x y H2){Q:Value->Shared->Prop}{f:Value->Value->Sem Value}
  (hf:∀ v u s2 x y H2,Inv X pins σ H2 s2->RelV x v->RelV y u->R x y H2->wpAny (model X.prog X.w) X.A (f v u) Q X.xe s2):
  wpAny (model X.prog X.w) X.A (eval a X.env) (fun v s₁=>wpAny (model X.prog X.w) X.A (eval b X.env) (fun u s₂=>wpAny (model X.prog X.w) X.A (f v u) Q X.xe s₂) X.xe s₁) X.xe s:=by
 refine thn (ha pins s σ H _ I h) fun v s1 ⟨x,H1,I1,r1,q1⟩=>?_
 refine thn (hb pins s1 σ H1 _ I1 q1) fun u s2 ⟨y,H2,I2,r2,q2⟩=>?_
 exact hf v u s2 x y H2 I2 r1 r2 q2
theorem vm{op:Operator}{r:R2}(ho:OpR X (binaryOp op) r)(ha:PE X a ta)(hb:PE X b tb): PE X (.BinOp a op b pos) (tOp r ta tb):=by
 intro pins s σ H Q I h
 exact wpAny_BinOp (binT ha hb I h fun v u s2 x y H2 I2 rx ry q=>ho pins s2 σ H2 x y v u Q I2 rx ry q)
theorem qdx{op:UnaryOp}{r:V->Hp->VK->Prop}(ho:UnR X (unaryOp op) r)(ha:PE X a ta): PE X (.UnaryOp op a pos) (tUn r ta):=by
 intro pins s σ H Q I h
 exact UnaryOp_ (thn (ha pins s σ H _ I h) fun v s1 ⟨x,H1,I1,r1,q1⟩=>ho pins s1 σ H1 x v Q I1 r1 q1)
theorem opI{f:Value->Value->Sem Value}{C:Int->Int->Prop}{g:Int->Int->Int}
  (rule:∀ (i j:Int) (t u:Tok) (s:Shared) (Q:Value->Shared->Prop) (E:Value->Shared->Prop),C i j->Q (.int (g i j) s.toks) { s with toks:=s.toks+1 }->wpAny (model X.prog X.w) X.A (f (.int i t) (.int j u)) Q E s):
  OpR X f (rI C fun i j=>.int (g i j)):=by
 intro pins s σ H x y v u Q I rx ry h
 obtain⟨i,j,rfl,rfl,hc,q⟩:=h
 obtain⟨t,rfl⟩:=rx
 obtain⟨t',rfl⟩:=ry
 exact rule i j t t' s _ _ hc ⟨.int (g i j),H,I.tok _,⟨_,rfl⟩,q⟩
theorem opI0{f:Value->Value->Sem Value}{g:Int->Int->Int}
  (rule:∀ (i j:Int) (t u:Tok) (s:Shared) (Q:Value->Shared->Prop) (E:Value->Shared->Prop),Q (.int (g i j) s.toks) { s with toks:=s.toks+1 }->wpAny (model X.prog X.w) X.A (f (.int i t) (.int j u)) Q E s):
  OpR X f (rI0 fun i j=>.int (g i j)):=by
 intro pins s σ H x y v u Q I rx ry h
 obtain⟨i,j,rfl,rfl,q⟩:=h
 obtain⟨t,rfl⟩:=rx
 obtain⟨t',rfl⟩:=ry
 exact rule i j t t' s _ _ ⟨.int (g i j),H,I.tok _,⟨_,rfl⟩,q⟩
theorem opB0{f:Value->Value->Sem Value}{g:Int->Int->Bool}
  (rule:∀ (i j:Int) (t u:Tok) (s:Shared) (Q:Value->Shared->Prop) (E:Value->Shared->Prop),Q (.bool (g i j)) s->wpAny (model X.prog X.w) X.A (f (.int i t) (.int j u)) Q E s):
  OpR X f (rI0 fun i j=>.bl (g i j)):=by
 intro pins s σ H x y v u Q I rx ry h
 obtain⟨i,j,rfl,rfl,q⟩:=h
 obtain⟨t,rfl⟩:=rx
 obtain⟨t',rfl⟩:=ry
 exact rule i j t t' s _ _ ⟨.bl (g i j),H,I,rfl,q⟩
def CDiv(i j:Int): Prop:=0<j/\j<1073741824
def CMul(i j:Int): Prop:=(-(2 ^ 64)<i/\i<2 ^ 64)\/(-(2 ^ 64)<j/\j<2 ^ 64)
theorem CMul.ok{i j:Int}(h:CMul i j): IntMulOk i j:=by
 rcases h with ⟨h1,h2⟩|⟨h1,h2⟩
 ·exact .of_left (intBits_le_64 h1 h2)
 ·exact .of_right (intBits_le_64 h1 h2)
theorem qbs:OpR X (binaryOp .Add) (rI0 fun i j=>.int (i+j)):=opI0 fun _ _ _ _ _ _ _ q=>add_int q
theorem qca:OpR X (binaryOp .Sub) (rI0 fun i j=>.int (i-j)):=opI0 fun _ _ _ _ _ _ _ q=>sub_int q
theorem qdv:OpR X (binaryOp .Mult) (rI CMul fun i j=>.int (i*j)):=opI fun _ _ _ _ _ _ _ hc q=>mul_int q hc.ok
theorem qmi:OpR X (binaryOp .FloorDiv) (rI CDiv fun i j=>.int (i / j)):=opI fun i j _ _ _ _ _ hc q=>by
 have h1:(0:Int)<j:=hc.1
 have h2:j<1073741824:=hc.2
 exact floordiv_int (by omega) (by rw[Int.fdiv_eq_ediv_of_nonneg i (by omega)];exact q) (.inl (PyProof.noPylong_small (by omega)))
theorem qrb:OpR X (binaryOp .Mod) (rI (fun _ j=>0<j) fun i j=>.int (i%j)):=opI fun i j _ _ _ _ _ hc q=>by
 have h1:(0:Int)<j:=hc
 exact mod_int' (by omega) (by rw[Int.fmod_eq_emod_of_nonneg i (by omega)];exact q)
theorem unI{f:Value->Sem Value}{g:Int->Int}
  (rule:∀ (i:Int) (t:Tok) (s:Shared) (Q:Value->Shared->Prop) (E:Value->Shared->Prop),Q (.int (g i) s.toks) { s with toks:=s.toks+1 }->wpAny (model X.prog X.w) X.A (f (.int i t)) Q E s):
  UnR X f (rU fun i=>.int (g i)):=by
 intro pins s σ H x v Q I rx h
 obtain⟨i,rfl,q⟩:=h
 obtain⟨t,rfl⟩:=rx
 exact rule i t s _ _ ⟨.int (g i),H,I.tok _,⟨_,rfl⟩,q⟩
theorem qd3:UnR X (unaryOp .USub) (rU fun i=>.int (-i)):=unI fun _ _ _ _ _ q=>neg_int q
end
def scal:V->V->Bool
 | .non,.non=>true | .non,.int _=>true | .int _,.non=>true | .non,.bl _=>true | .bl _,.non=>true | .non,.str _=>true | .str _,.non=>true
 | .int _,.int _=>true | .bl _,.bl _=>true | .str _,.str _=>true | .byt _,.byt _=>true
 | .int _,.str _=>true | .str _,.int _=>true | .bl _,.str _=>true | .str _,.bl _=>true
 |_,_=>false
def rEq:R2:=fun x y H Q=>scal x y=true/\Q (.bl (decide (x=y))) H
def rNe:R2:=fun x y H Q=>scal x y=true/\Q (.bl (!decide (x=y))) H
theorem qo2{i j:Int}: decide (V.int i=V.int j)=(i==j):=by
 rw[Zm]
 simp
theorem qo0{i j:Bool}: decide (V.bl i=V.bl j)=(i==j):=by
 rw[Zm]
 simp
theorem qo3{i j:Str}: decide (V.str i=V.str j)=(i==j):=by
 rw[Zm]
 simp
theorem qo1{i j:Array UInt8}: decide (V.byt i=V.byt j)=(i.toList==j.toList):=by
 rw[Zm]
 cases i
 cases j
 simp
section
variable {X:Cx} {a b c:Expr} {ta tb tc:TE} {pos:Pos}
theorem qab{pins:List (Addr×Obj)}{σ:St}{H:Hp}{s:Shared}{Q:VK}{k k':Bool}(I:Inv X pins σ H s)(q:Q (.bl k) H)(e:k=k'): EP X pins σ Q (.bool k') s:=by
 subst e
 exact⟨.bl k,H,I,rfl,q⟩
theorem qay:OpR X (compareOp .Eq) rEq:=by
 intro pins s σ H x y v u Q I rx ry h
 obtain⟨hs,q⟩:=h
 cases x with
 | non=>
   cases rx
   cases y with
   |non=>cases ry;exact PySem.EqNone.eq_none_none (qab I q (by simp))
   |bl j=>cases ry;exact PySem.EqNone.eq_none_bool (qab I q (by simp))
   |int j=>obtain⟨t',rfl⟩:=ry;exact PySem.EqNone.eq_none_int (qab I q (by simp))
   |str j=>obtain⟨t',rfl⟩:=ry;exact PySem.EqNone.eq_none_str (qab I q (by simp))
   |_=>exact absurd (show false=true from hs) Jr
 | bl i=>
   cases rx
   cases y with
   |non=>cases ry;exact PySem.EqNone.eq_bool_none (qab I q (by simp))
   |bl j=>cases ry;exact eq_bool (qab I q qo0)
   |str j=>obtain⟨t',rfl⟩:=ry;exact PySem.EqMixed.eq_bool_str (qab I q (by simp))
   |_=>exact absurd (show false=true from hs) Jr
 | int i=>
   obtain⟨t,rfl⟩:=rx
   cases y with
   |non=>cases ry;exact PySem.EqNone.eq_int_none (qab I q (by simp))
   |int j=>obtain⟨t',rfl⟩:=ry;exact eq_int (qab I q qo2)
   |str j=>obtain⟨t',rfl⟩:=ry;exact PySem.EqMixed.eq_int_str (qab I q (by simp))
   |_=>exact absurd (show false=true from hs) Jr
 | str i=>
   obtain⟨t,rfl⟩:=rx
   cases y with
   |non=>cases ry;exact PySem.EqNone.eq_str_none (qab I q (by simp))
   |bl j=>cases ry;exact PySem.EqMixed.eq_str_bool (qab I q (by simp))
   |int j=>obtain⟨t',rfl⟩:=ry;exact PySem.EqMixed.eq_str_int (qab I q (by simp))
   |str j=>obtain⟨t',rfl⟩:=ry;exact eq_str (qab I q qo3)
   |_=>exact absurd (show false=true from hs) Jr
 | byt i=>
   obtain⟨t,rfl⟩:=rx
   cases y with
   |byt j=>obtain⟨t',rfl⟩:=ry;exact PySem.W.eq_bytes (qab I q qo1)
   |_=>exact absurd (show false=true from hs) Jr
 |_=>cases y<;>exact absurd (show false=true from hs) Jr
theorem qde:OpR X (compareOp .NotEq) rNe:=by
 intro pins s σ H x y v u Q I rx ry h
 obtain⟨hs,q⟩:=h
 cases x with
 | non=>
   cases rx
   cases y with
   |non=>cases ry;exact PySem.EqNone.ne_none_none (qab I q (by simp))
   |bl j=>cases ry;exact PySem.EqNone.ne_none_bool (qab I q (by simp))
   |int j=>obtain⟨t',rfl⟩:=ry;exact PySem.EqNone.ne_none_int (qab I q (by simp))
   |str j=>obtain⟨t',rfl⟩:=ry;exact PySem.EqNone.ne_none_str (qab I q (by simp))
   |_=>exact absurd (show false=true from hs) Jr
 | bl i=>
   cases rx
   cases y with
   |non=>cases ry;exact PySem.EqNone.ne_bool_none (qab I q (by simp))
   |bl j=>cases ry;exact ne_bool (qab I q (Ym not qo0))
   |str j=>obtain⟨t',rfl⟩:=ry;exact PySem.EqMixed.ne_bool_str (qab I q (by simp))
   |_=>exact absurd (show false=true from hs) Jr
 | int i=>
   obtain⟨t,rfl⟩:=rx
   cases y with
   |non=>cases ry;exact PySem.EqNone.ne_int_none (qab I q (by simp))
   |int j=>obtain⟨t',rfl⟩:=ry;exact ne_int (qab I q (Ym not qo2))
   |str j=>obtain⟨t',rfl⟩:=ry;exact PySem.EqMixed.ne_int_str (qab I q (by simp))
   |_=>exact absurd (show false=true from hs) Jr
 | str i=>
   obtain⟨t,rfl⟩:=rx
   cases y with
   |non=>cases ry;exact PySem.EqNone.ne_str_none (qab I q (by simp))
   |bl j=>cases ry;exact PySem.EqMixed.ne_str_bool (qab I q (by simp))
   |int j=>obtain⟨t',rfl⟩:=ry;exact PySem.EqMixed.ne_str_int (qab I q (by simp))
   |str j=>obtain⟨t',rfl⟩:=ry;exact ne_str (qab I q (Ym not qo3))
   |_=>exact absurd (show false=true from hs) Jr
 | byt i=>
   obtain⟨t,rfl⟩:=rx
   cases y with
   |byt j=>obtain⟨t',rfl⟩:=ry;exact PySem.W.ne_bytes (qab I q (Ym not qo1))
   |_=>exact absurd (show false=true from hs) Jr
 |_=>cases y<;>exact absurd (show false=true from hs) Jr
theorem qeh:OpR X (compareOp .Lt) (rI0 fun i j=>.bl (decide (i<j))):=opB0 fun _ _ _ _ _ _ _ q=>lt_int q
theorem qdd:OpR X (compareOp .LtE) (rI0 fun i j=>.bl (decide (i<=j))):=opB0 fun _ _ _ _ _ _ _ q=>le_int q
theorem qjb:OpR X (compareOp .Gt) (rI0 fun i j=>.bl (decide (j<i))):=opB0 fun _ _ _ _ _ _ _ q=>gt_int q
theorem qdu:OpR X (compareOp .GtE) (rI0 fun i j=>.bl (decide (j<=i))):=opB0 fun _ _ _ _ _ _ _ q=>ge_int q
theorem qjc:OpR X (compareOp .Is) (fun x y H Q=>y = .non/\Q (.bl (decide (x = .non))) H):=by
 intro pins s σ H x y v u Q I rx ry h
 obtain⟨rfl,q⟩:=h
 cases ry
 refine is_none_gen (qab I q ?_)
 cases x<;>first
  |(cases rx;rfl)
  |(obtain⟨t,rfl⟩:=rx;rfl)
theorem qrc:OpR X (compareOp .IsNot) (fun x y H Q=>y = .non/\Q (.bl (!decide (x = .non))) H):=by
 intro pins s σ H x y v u Q I rx ry h
 obtain⟨rfl,q⟩:=h
 cases ry
 refine isnot_none_gen (qab I q ?_)
 cases x<;>first
  |(cases rx;rfl)
  |(obtain⟨t,rfl⟩:=rx;rfl)
theorem qq8(b:Expr){op:CmpOp}(h:op≠.In:=by decide)(h2:op≠.NotIn:=by decide): behindInMarks op b=false:=by
 have e1:(op==CmpOp.In)=false:=by cases op<;>first|rfl|exact absurd rfl h
 have e2:(op==CmpOp.NotIn)=false:=by cases op<;>first|rfl|exact absurd rfl h2
 cases b<;>simp[behindInMarks,e1,e2]
theorem q4r{op:CmpOp}{r:R2}(ho:OpR X (compareOp op) r)(ha:PE X a ta)(hb:PE X b tb)(hm:behindInMarks op b=false): PE X (.Compare a [op] [b] pos) (tOp r ta tb):=by
 intro pins s σ H Q I h
 exact wpAny_Compare1 (binT ha hb I h fun v u s2 x y H2 I2 rx ry q=>ho pins s2 σ H2 x y v u Q I2 rx ry q) hm
def qdk(t:TE): TT:=fun σ H Q=>t σ H fun x H'=>∃ k,x = .bl k/\Q k H'
theorem qjh{op:CmpOp}{r:R2}(ho:OpR X (compareOp op) r)(ha:PE X a ta)(hb:PE X b tb)(hm:behindInMarks op b=false): PT X (.Compare a [op] [b] pos) (qdk (tOp r ta tb)):=by
 intro pins s σ H Q I h
 refine wpAny_isTrue_Compare1 (thn (ha pins s σ H _ I h) fun v s1 ⟨x,H1,I1,r1,q1⟩=>thn (hb pins s1 σ H1 _ I1 q1) fun u s2 ⟨y,H2,I2,r2,q2⟩=>
  thn (ho pins s2 σ H2 x y v u _ I2 r1 r2 q2) fun c s3 ⟨z,H3,I3,r3,k,e,q3⟩=>?_) hm
 subst e
 cases r3
 exact Zz ⟨H3,I3,q3⟩
def qu4(r r':R2)(ta tb tc:TE): TE:=fun σ H Q=>ta σ H fun x H1=>tb σ H1 fun y H2=>r x y H2 fun z H3=>∃ k,z = .bl k /\
 (if k=true then tc σ H3 fun w' H4=>r' y w' H4 Q else Q (.bl false) H3)
theorem qrg{op op':CmpOp}{r r':R2}(ho:OpR X (compareOp op) r)(ho':OpR X (compareOp op') r')(ha:PE X a ta)(hb:PE X b tb)(hc:PE X c tc)
  (hm:lastMarks [op,op'] [b,c]=false:=by with_unfolding_all rfl): PE X (.Compare a [op,op'] [b,c] pos) (qu4 r r' ta tb tc):=by
 intro pins s σ H Q I h
 refine Compare_chain (thn (ha pins s σ H _ I h) fun v s1 ⟨x,H1,I1,r1,q1⟩=>chain_link (thn (hb pins s1 σ H1 _ I1 q1) fun u s2 ⟨y,H2,I2,r2,q2⟩=>
  thn (ho pins s2 σ H2 x y v u _ I2 r1 r2 q2) fun d s3 ⟨z,H3,I3,r3,k,e,q3⟩=>?_)) hm
 subst e
 cases r3
 refine Zz ?_
 cases k with
 |false=>exact ite_ff ⟨.bl false,H3,I3,rfl,q3⟩
 |true=>exact ite_tt (chain_last (thn (hc pins s3 σ H3 _ I3 q3) fun w' s4 ⟨z',H4,I4,r4,q4⟩=>ho' pins s4 σ H4 y z' u w' Q I4 r2 r4 q4))
theorem qi7:(sizeLine:Nat)<2 ^ 63:=by rw[sizeLine_eq];decide
theorem vals1{x:V}{us:List Value}(r:Vals [x] us): ∃ u,us=[u]/\RelV x u:=by
 cases r with
 |cons r1 r2=>cases r2;exact⟨_,rfl,r1⟩
end
structure Qfv(h:Heap)(x dx C:Addr)(mA:Str->Option Value): Prop where
 obj:h.get? x=some (PySem.W.instObj C dx)
 ns:h.Ns1 dx mA
 ne:dx≠x
theorem q26{h:Heap}{dx:Addr}{mA:Str->Option Value}(n:h.Ns1 dx mA): ∃ od,h.get? dx=some od/\∀ name,PySem.W.lookIn name od=some (mA name):=by
 obtain⟨o,es,ep,ho,hd,hk,_,hm⟩:=n
 refine⟨o,ho,fun name=>?_⟩
 have e:=hm name
 unfold nsFind findBy at e
 rw[<- Array.find?_toList] at e
 unfold PySem.W.lookIn
 rw[hd]
 dsimp only
 split
 ·rename_i y q
  rw[q] at e
  exact Ym some e
 ·rename_i q
  rw[q] at e
  have a:es.toList.any (·.refKey)=false:=by
   rw[List.any_eq_false]
   intro y hy
   obtain⟨z,t,hkey⟩:=hk y (Array.mem_toList_iff.mp hy)
   simp[DictEntry.refKey,hkey]
  have a':¬ es.toList.any (·.refKey)=true:=by rw[a];exact Jr
  rw[Jc a']
  exact Ym some e
theorem Qfv.look{h:Heap}{x dx C:Addr}{mA:Str->Option Value}(I:Qfv h x dx C mA): ∃ od,PySem.W.InstAt h x (PySem.W.instObj C dx) C (some od)/\∀ name,PySem.W.lookIn name od=some (mA name):=
 let ⟨od,ho,hl⟩:=q26 I.ns
 ⟨od,⟨I.obj,rfl,rfl,ho⟩,hl⟩
section
variable {prog:Program} {w:World} {A:Around} {E:Value->Shared->Prop} {s:Shared} {K:PySem.W.Frag} {x dx C f:Addr} {mA:Str->Option Value} {name:Str} {v:Value}
theorem get_map{expr:Bool}{Q:Value->Shared->Prop}(X:K.In s.heap)(I:Qfv s.heap x dx C mA)(hg:PySem.W.plainGet K C name=true)(hh:PySem.W.hasDictIn K C=true)
  (ha:PySem.W.findIn K (.ref C) name=some none)(hv:mA name=some v)(hv':PySem.W.handedIn v=true)(h:Q v { s with toks:=s.toks+1 }):
  wpAny (model prog w) A (getAttr (.ref x) name expr) Q E s:=by
 obtain⟨od,J,hl⟩:=I.look
 exact PySem.W.get_value X J (PySem.W.plainGet_of hg).1 (PySem.W.findObj_own hh ha rfl (by rw[hl,hv])) hv' h
theorem q66{ns:List Str}{Q:Unit->Shared->Prop}(X:K.In s.heap)(I:Qfv s.heap x dx C mA)
  (hs:PySem.W.findIn K (.ref C) "__setattr__" = some (some (.builtin "object.__setattr__")))(hp:PySem.W.plainOver K C=true)(ht:PySem.W.takerIn K C name=some none)(hh:PySem.W.hasDictIn K C=true)
  (hw:PySem.Within mA ns)(hsz:ns.length<=sizeLine)
  (h:∀ h',Qfv h' x dx C (fun y=>if y=name then some v else mA y)->Heap.SameBut dx s.heap h'->Q () { s with heap:=h',toks:=s.toks+2 }):
  wpAny (model prog w) A (setAttr (.ref x) name v) Q E s:=by
 obtain⟨od,J,hl⟩:=I.look
 refine PySem.W.set_plain X J hs (PySem.W.osa_open (s:={ s with toks:=s.toks+1 }) (r:=none) X J hp ht fun b=>?_)
 obtain⟨cd,hc,hd'⟩:=PySem.W.any_some hh
 have hx:s.heap.get? x=some ⟨.ref C,some dx,.plain,#[]⟩:=I.obj
 refine Ja (Jg (Ja (Ja (wpAny_loadPart hx (Ja (PySem.W.Looks.here (s:={ s with toks:=s.toks+1 }) (PySem.W.looks_clsIn X hc) ?_))))))
 rw[hd']
 refine Jg (a:=some dx) (Ja (Jg (Ja ?_)))
 refine wpAny_nsSet1 (s:={ s with toks:=s.toks+1 }) I.ns fun h' hn2 hs2=>?_
 obtain⟨oD,esD,epD,hoD,hdD,hcD⟩:=hn2.count (PySem.Within.cons name v hw)
 refine Ja (wpAny_lookBehind hoD (by rw[hdD];exact pastItsLine_dict (Xd hcD (by rw[Jz];omega))) ?_)
 exact Jg (h _ ⟨(hs2.2 _ (Xb I.ne)).trans I.obj,hn2,I.ne⟩ hs2)
theorem q3b{R:Result->Shared->Prop}{vs:List Value}{kw:List (Str×Value)}(X:K.In s.heap)(hm:PySem.W.makesIn K C=true)
  (hi:PySem.W.findIn K (.ref C) "__init__" = some (some (.ref f)))(hf:PySem.W.typeIn K (.ref f)=some (.type "function"))
  (h:codeAny (model prog w) (A.under (.builtin "type.__call__" ⟨.ref C::vs,kw⟩)) (.call (.ref f) ⟨.ref (s.heap.objs.size+1)::vs,kw⟩) (PySem.W.InitBack (s.heap.objs.size+1) R)
   { s with heap:=(s.heap.push PySem.W.emptyDict).push (PySem.W.instObj C s.heap.objs.size) }):
  codeAny (model prog w) A (.call (.ref C) ⟨vs,kw⟩) R s:=by
 obtain⟨hh,g,d,t,os⟩:=s
 exact PySem.W.make_core (PySem.W.makes_of X hm) (PySem.W.looks_findIn X hi) (fun self=>PySem.W.bind_fn X self hf) (.inl rfl) h
end
def qbb(f:Str)(v:V): List (Str×V)->List (Str×V)
 |[]=>[(f,v)]
 |(g,x)::r=>if g=f then (g,v)::r else (g,x)::qbb f v r
theorem qqu(f g:Str)(v:V): ∀ fs:List (Str×V),(qbb f v fs).lookup g=if g=f then some v else fs.lookup g
 | []=>by
   show List.lookup g [(f,v)]=_
   by_cases h:g=f
   ·have hb:(g==f)=true:=Yq.mpr h
    simp only[List.lookup,hb,Je h]
   ·have hb:(g==f)=false:=Yu.mpr h
    simp only[List.lookup,hb,Jc h]
 | (k,x)::r=>by
   have ih:=qqu f g v r
   rw[show qbb f v ((k,x)::r)=(if k=f then (k,v)::r else (k,x)::qbb f v r) from rfl]
   by_cases hk:k=f
   ·rw[Je hk]
    by_cases h:g=k
    ·have hb:(g==k)=true:=Yq.mpr h
     simp only[List.lookup,hb,Je (h.trans hk)]
    ·have hb:(g==k)=false:=Yu.mpr h
     simp only[List.lookup,hb,Jc (fun e:g=f=>h (e.trans hk.symm))]
   ·rw[Jc hk]
    by_cases h:g=k
    ·have hb:(g==k)=true:=Yq.mpr h
     simp only[List.lookup,hb,Jc (fun e:g=f=>hk (h.symm.trans e))]
    ·have hb:(g==k)=false:=Yu.mpr h
     simp only[List.lookup,hb]
     exact ih
theorem ql2(f:Str)(v:V): ∀ fs:List (Str×V),f∈(qbb f v fs).map (·.1)/\∀ g,g∈fs.map (·.1)->g∈(qbb f v fs).map (·.1)
 |[]=>⟨by simp[qbb],fun g h=>by simp at h⟩
 | (k,x)::r=>by
   obtain⟨i1,i2⟩:=ql2 f v r
   rw[show qbb f v ((k,x)::r)=(if k=f then (k,v)::r else (k,x)::qbb f v r) from rfl]
   by_cases hk:k=f
   ·rw[Je hk]
    subst hk
    exact⟨by simp,fun g h=>by simpa using h⟩
   ·rw[Jc hk]
    refine⟨?_,fun g h=>?_⟩
    ·rw[Jq]
     exact Jm _ i1
    ·rw[Jq] at h ⊢
     rcases Jf.mp h with e|e
     ·exact Jf.mpr (.inl e)
     ·exact Jm _ (i2 g e)
theorem qqq(f:Str)(v:V): ∀ fs:List (Str×V),(qbb f v fs).length<=fs.length+1
 |[]=>by simp[qbb]
 | (k,x)::r=>by
   have ih:=qqq f v r
   rw[show qbb f v ((k,x)::r)=(if k=f then (k,v)::r else (k,x)::qbb f v r) from rfl]
   by_cases hk:k=f
   ·rw[Je hk,Jz,Jz];omega
   ·rw[Jc hk,Jz,Jz];omega
theorem Qb0.some_of{v:V}{o:Option Value}(r:Qb0 (some v) o): ∃ u,o=some u/\RelV v u:=by
 cases o with
 |none=>exact(show False from r).elim
 |some u=>exact⟨u,rfl,r⟩
theorem q17{v:V}{u:Value}(r:RelV v u): PySem.W.handedIn u=true:=by
 cases v with
 |non=>cases (show u=Value.none from r);rfl
 |bl b=>cases (show u=Value.bool b from r);rfl
 |int i=>obtain⟨t,e⟩:=(show ∃ t,u=Value.int i t from r);cases e;rfl
 |str x=>obtain⟨t,e⟩:=(show ∃ t,u=Value.str x t from r);cases e;rfl
 |byt b=>obtain⟨t,e⟩:=(show ∃ t,u=Value.bytes b t from r);cases e;rfl
 |flt b=>obtain⟨t,e⟩:=(show ∃ t,u=Value.float b t from r);cases e;rfl
 |ref a=>cases (show u=Value.ref a from r);rfl
 |ty n=>cases (show u=Value.type n from r);rfl
section
variable {P:Program} {w:World} {H H':Hp} {h h':Heap} {a C dx:Addr} {fs fs':List (Str×V)}
theorem qp3(hok:HOk P w H h)(e:H a=some (.ins C dx fs)): ∃ mA,Qfv h a dx C mA/\(∀ f,Qb0 (fs.lookup f) (mA f))/\PySem.Within mA (fs.map (·.1))/\fs.length<=1000/\H dx=some (.own a):=by
 obtain⟨d,z,ne,ob,mA,n,r,q⟩:=(show Qaf P w H h a (.ins C dx fs) from hok a _ e)
 exact⟨mA,⟨ob,n,ne⟩,r,q,z,d⟩
end
structure Cls(K:PySem.W.Frag)(C:Addr): Prop where
 pg:PySem.W.plainGet K C Str.empty=true
 hd:PySem.W.hasDictIn K C=true
 po:PySem.W.plainOver K C=true
 sa:PySem.W.findIn K (.ref C) "__setattr__" = some (some (.builtin "object.__setattr__"))
theorem Cls.get{K:PySem.W.Frag}{C:Addr}(c:Cls K C)(f:Str): PySem.W.plainGet K C f=true:=c.pg
def Vz(K:PySem.W.Frag)(C:Addr)(f:Str): Prop:=PySem.W.findIn K (.ref C) f=some none
theorem Vz.taker{K:PySem.W.Frag}{C:Addr}{f:Str}(n:Vz K C f): PySem.W.takerIn K C f=some none:=by
 unfold PySem.W.takerIn
 rw[show PySem.W.findIn K (.ref C) f=some none from n]
 rfl
section
variable {X:Cx} {pins:List (Addr×Obj)} {σ:St} {H:Hp} {s:Shared} {a C dx:Addr} {fs:List (Str×V)} {f:Str} {v:V} {A:Around} {E:Value->Shared->Prop}
theorem q1t{b:Bool}{Q:Value->Shared->Prop}(I:Inv X pins σ H s)(e:H a=some (.ins C dx fs))(c:Cls X.K C)(n:Vz X.K C f)(l:fs.lookup f=some v)
  (h:∀ u s',Inv X pins σ H s'->RelV v u->Q u s'): wpAny (model X.prog X.w) A (getAttr (.ref a) f b) Q E s:=by
 obtain⟨mA,O,r,_,_,_⟩:=qp3 I.hok e
 obtain⟨u,hu,ru⟩:=Qb0.some_of (v:=v) (o:=mA f) (by rw[<- l];exact r f)
 exact get_map I.kIn O (c.get f) c.hd n hu (q17 ru) (h u _ (I.tok _) ru)
theorem q67{y:V}{u:Value}{Q:Unit->Shared->Prop}(I:Inv X pins σ H s)(e:H a=some (.ins C dx fs))(c:Cls X.K C)(n:Vz X.K C f)(hl:fs.length<1000)(ry:RelV y u)
  (h:∀ s',Inv X pins σ (upd H a (.ins C dx (qbb f y fs))) s'->Q () s'): wpAny (model X.prog X.w) A (setAttr (.ref a) f u) Q E s:=by
 obtain⟨mA,O,r,wi,_,ho⟩:=qp3 I.hok e
 have hz:(fs.map (·.1)).length<=sizeLine:=by rw[Jd,sizeLine_eq];omega
 refine q66 I.kIn O c.sa c.po n.taker c.hd wi hz fun h' O' sb=>h _ ?_
 have hd:∃ o,h'.get? dx=some o:=let ⟨o,_,_,e',_⟩:=O'.ns;⟨o,e'⟩
 refine I.write (x:=a) (e:=dx) (by rw[e];exact True.intro) (.inr ho) (fun b q hb z=>(sb.2 b hb).trans z) hd ?_
 refine⟨by rw[qc O.ne];exact ho,?_,O.ne,O'.obj,_,O'.ns,fun g=>?_,fun g hg=>?_⟩
 ·have:=qqq f y fs;omega
 ·show Qb0 ((qbb f y fs).lookup g) (if g=f then some u else mA g)
  rw[qqu]
  by_cases q:g=f
  ·rw[Je q,Je q];exact ry
  ·rw[Jc q,Jc q];exact r g
 ·by_cases q:g=f
  ·rw[q];exact(ql2 f y fs).1
  ·refine(ql2 f y fs).2 g (wi g fun z=>hg ?_)
   show (if g=f then some u else mA g)=none
   rw[Jc q];exact z
theorem Inv.made(I:Inv X pins σ H s): Inv X pins σ (upd (upd H s.heap.objs.size (.own (s.heap.objs.size+1))) (s.heap.objs.size+1) (.ins C s.heap.objs.size []))
  { s with heap:=(s.heap.push PySem.W.emptyDict).push (PySem.W.instObj C s.heap.objs.size) }:=by
 have e1:(s.heap.push PySem.W.emptyDict).get? s.heap.objs.size=some PySem.W.emptyDict:=Js s.heap rfl
 have e2:((s.heap.push PySem.W.emptyDict).push (PySem.W.instObj C s.heap.objs.size)).get? (s.heap.objs.size+1)=some (PySem.W.instObj C s.heap.objs.size):=by
  have:=Js (s.heap.push PySem.W.emptyDict) (o:=PySem.W.instObj C s.heap.objs.size) rfl
  rwa [J6] at this
 have e3:(s.heap.push PySem.W.emptyDict).Ns s.heap.objs.size (fun _=>none):=⟨PySem.W.emptyDict,#[],_,e1,rfl,(fun e he=>absurd he (by simp)),fun _=>rfl⟩
 have I1:=I.laid (a:=s.heap.objs.size) (o:=.own (s.heap.objs.size+1)) (h':=s.heap.push PySem.W.emptyDict) (t':=s.toks) (fun b u q=>Jb _ q) (Jp _) ⟨_,e1⟩
 refine I1.laid (a:=s.heap.objs.size+1) (o:=.ins C s.heap.objs.size []) (t':=s.toks) (fun b u q=>Jb _ q) (Qp (J6 _ _)) ?_
 have ne:s.heap.objs.size≠s.heap.objs.size+1:=Xl (Qe _)
 refine⟨by rw[qc ne,zc],X3 _,ne,e2,fun _=>none,(Heap.Ns1.of_empty e3).at fun o q=>Jb _ q,fun _=>True.intro,fun y hy=>absurd rfl hy⟩
theorem qwf{prog:Program}{w:World}{env:Env}{e:Expr}{f:Str}{pos:Pos}{s:Shared}{Q:Value->Shared->Prop}(hb:attributeBase e f env (eval e env)=eval e env)
  (h:wpAny (model prog w) A (eval e env) (fun o s₁=>wpAny (model prog w) A (getAttr o f true) Q E s₁) E s): wpAny (model prog w) A (eval (.Attribute e f pos) env) Q E s:=
 Attribute_any_ h (by rw[arm_eval_Attribute,hb])
end
def qe6(K:PySem.W.Frag)(ta:TE)(f:Str): TE:=fun σ H Q=>ta σ H fun x H1=>∃ a C dx fs v,x = .ref a/\H1 a=some (.ins C dx fs)/\Cls K C/\Vz K C f/\fs.lookup f=some v/\Q v H1
def sFld(K:PySem.W.Frag)(ta tv:TE)(f:Str): TS:=fun D σ H=>tv σ H fun y H1=>ta σ H1 fun x H2=>∃ a C dx fs,x = .ref a/\H2 a=some (.ins C dx fs)/\Cls K C/\Vz K C f/\fs.length<1000 /\
 D.nx σ (upd H2 a (.ins C dx (qbb f y fs)))
section
variable {X:Cx} {o e value:Expr} {f:Str} {pos pos' tpos:Pos} {ta tv:TE}
theorem pe_fld(he:PE X e ta)(hb:attributeBase e f X.env (eval e X.env)=eval e X.env): PE X (.Attribute e f pos) (qe6 X.K ta f):=by
 intro pins s σ H Q I h
 refine qwf hb (thn (he pins s σ H _ I h) fun u s1 ⟨x,H1,I1,rx,a,C,dx,fs,v,ex,ea,c,n,l,q⟩=>?_)
 subst ex
 obtain rfl:u=Value.ref a:=rx
 exact q1t I1 ea c n l fun u' s2 I2 ru=>⟨v,H1,I2,ru,q⟩
theorem yf(ha:PE X o ta)(hv:PE X value tv)(hs:swapsWith value (some (.Attribute o f pos')) pos.line X.env=pure false): PS X (.Assign [.Attribute o f pos'] value pos) (sFld X.K ta tv f):=by
 intro pins s σ H D I h
 refine plainObj_wpAny_Assign_Attribute (thn (hv pins s σ H _ I h) fun u s1 ⟨y,H1,I1,ry,q⟩=>thn (ha pins s1 σ H1 _ I1 q) fun ov s2 ⟨x,H2,I2,rx,a,C,dx,fs,ex,ea,c,n,l,q2⟩=>?_) hs
 subst ex
 obtain rfl:ov=Value.ref a:=rx
 exact q67 I2 ea c n l ry fun s3 I3=>⟨σ,_,I3,q2⟩
end
structure Qaa(k:Nat)(A:Around): Prop where
 hd:A.handled=none
 dp:A.depth+3*k+5<recursionLimit
 un:A.units+16*k+200<cLine
theorem Qaa.mono{j k:Nat}{A:Around}(r:Qaa k A)(h:j<=k): Qaa j A:=⟨r.hd,by have:=r.dp;omega,by have:=r.un;omega⟩
theorem Qaa.deeper{k:Nat}{A:Around}(r:Qaa (k+1) A)(env:Env): Qaa k (A.deeper env):=
 ⟨r.hd,by have:=r.dp;show A.depth+1+3*k+5<_;omega,by have:=r.un;show A.units+3+16*k+200<_;omega⟩
theorem q3a{A:Around}{C:Addr}{us:List Value}{kw:List (Str×Value)}: (A.under (.builtin "type.__call__" ⟨.ref C::us,kw⟩)).depth=A.depth+1:=by
 first|rfl|simp[Around.under,Code.weight,Code.isCreation,Code.isGuard,Code.isCaller,Code.frames,Code.isFrame,guardIds]
theorem q3c{A:Around}{C:Addr}{us:List Value}{kw:List (Str×Value)}: (A.under (.builtin "type.__call__" ⟨.ref C::us,kw⟩)).units=A.units+1:=by
 first|rfl|simp[Around.under,Code.cUnits,Code.frames,Code.isFrame]
theorem Qaa.make{k:Nat}{A:Around}(r:Qaa (k+1) A)(C:Addr)(us:List Value)(kw:List (Str×Value)): Qaa k (A.under (.builtin "type.__call__" ⟨.ref C::us,kw⟩)):=
 ⟨r.hd,by have:=r.dp;rw[q3a];omega,by have:=r.un;rw[q3c];omega⟩
theorem Qaa.depth{k:Nat}{A:Around}(r:Qaa k A): A.depth<recursionLimit:=by have:=r.dp;omega
theorem Qaa.units{k:Nat}{A:Around}(r:Qaa k A): A.units+64<cLine:=by have:=r.un;omega
def qan:TA:=fun _ H Q=>Q [] H
def vp(ta:TE)(tr:TA): TA:=fun σ H Q=>ta σ H fun x H1=>tr σ H1 fun xs H2=>Q (x::xs) H2
section
variable {X:Cx} {e:Expr} {es:List Expr} {te:TE} {t:TA} {pos:Pos}
theorem qhq:PA X [] qan:=fun _ _ _ _ H Q I h=>Wc ⟨[],H,I,.nil,h⟩
theorem vg(ha:PE X e te)(hr:PA X es t)(hs:starEach (e::es) X.env=(false,eval e X.env)::starEach es X.env:=by rfl): PA X (e::es) (vp te t):=by
 intro pos pins s σ H Q I h
 rw[hs]
 show wpAny _ _ (spliced ((false,eval e X.env)::backTo pos (starEach es X.env))) _ _ s
 refine Zc (thn (ha pins s σ H _ I h) fun u s1 ⟨x,H1,I1,r1,q1⟩=>?_)
 exact thn (hr pos pins s1 σ H1 _ I1 q1) fun us s2 ⟨xs,H2,I2,r2,q2⟩=>⟨x::xs,H2,I2,.cons r1 r2,q2⟩
def tTup(t:TA): TE:=fun σ H Q=>t σ H fun xs H1=>xs.length<=sizeLine/\∀ p,H1 p=none->Q (.ref p) (upd H1 p (.tup xs))
def tLst(t:TA): TE:=fun σ H Q=>t σ H fun xs H1=>xs.length<=sizeLine/\∀ p,H1 p=none->Q (.ref p) (upd H1 p (.lst xs))
theorem qgf{x1}(h:PA X es t): PE X (.Tuple es x1 pos) (tTup t):=by
 intro pins s σ H Q I hq
 refine wpAny_Tuple_spliced (thn (h pos pins s σ H _ I hq) fun us s1 ⟨xs,H1,I1,r,z,q⟩=>⟨by rw[<- r.length];exact z,?_⟩)
 have hf:H1 s1.heap.objs.size=none:=I1.hok.fresh (Jp _)
 refine⟨.ref s1.heap.objs.size,upd H1 s1.heap.objs.size (.tup xs),I1.laid (t':=s1.toks) (fun b u e=>Jb _ e) (Jp _) ?_,rfl,q _ hf⟩
 exact⟨z,us,r,⟨_,Js _ rfl,rfl,_,rfl⟩⟩
theorem vo(h:PA X es t): PE X (.List es pos) (tLst t):=by
 intro pins s σ H Q I hq
 refine wpAny_List_spliced (thn (h pos pins s σ H _ I hq) fun us s1 ⟨xs,H1,I1,r,z,q⟩=>⟨by rw[<- r.length];exact z,?_⟩)
 have hf:H1 s1.heap.objs.size=none:=I1.hok.fresh (Jp _)
 refine⟨.ref s1.heap.objs.size,upd H1 s1.heap.objs.size (.lst xs),I1.laid (t':=s1.toks) (fun b u e=>Jb _ e) (Jp _) ?_,rfl,q _ hf⟩
 exact⟨z,us,0,r,Js _ rfl⟩
end
abbrev Sp:=List V->Hp->VK->XK->Prop
abbrev CXT:=List Env->Hp->Shared->XK->Value->Shared->Prop
structure Qe9(P:Program)(w:World)(K:PySem.W.Frag)(mg:Str->Option Value)(base:Heap)(A:Around)(outer:List Env)(s:Shared)(H:Hp): Prop where
 frames:A.frames=some outer
 mod:Mod K mg base
 bs:∀ b o,base.get? b=some o->s.heap.get? b=some o/\H b=none
 bsz:base.objs.size<=s.heap.objs.size
 qcy:s.heap.FunFrames base outer
 frf:∀ b∈frs outer,H b=none
 hok:HOk P w H s.heap
 bare:AllBare s.gens
def CE(outer:List Env)(P:Program)(w:World)(H:Hp)(s:Shared)(Q:VK)(u:Value)(s':Shared): Prop:=
 ∃ v H',s'.os=s.os/\AllBare s'.gens/\Un (frs outer) [] H H' s.heap s'.heap/\HOk P w H' s'.heap/\RelV v u/\Q v H'
def CR(CX:CXT)(outer:List Env)(P:Program)(w:World)(H:Hp)(s:Shared)(Q:VK)(E:XK)(r:Result)(s':Shared): Prop:=
 match r with
 | .ok (.ret u)=>CE outer P w H s Q u s'
 | .ok _=>False
 | .error e=>CX outer H s E e s'
structure Qbw(P:Program)(w:World)(K:PySem.W.Frag)(mg:Str->Option Value)(base:Heap)(CX:CXT)(k:Nat)(f:Addr)(fd:FuncData)(ps:List Str)(sp:Sp): Prop where
 len:∀ vs H Q E,sp vs H Q E->vs.length=ps.length
 run:∀ (A:Around) (outer:List Env) (s:Shared) (H:Hp) (args:Args) (us:List Value) (vs:List V) (Q:VK) (E:XK),Qaa k A->Qe9 P w K mg base A outer s H->BindsTo s fd args (ps.zip us)->Vals vs us->sp vs H Q E ->
  codeAny (model P w) A (.call (.ref f) args) (CR CX outer P w H s Q E) s
theorem Qe9.make{P:Program}{w:World}{K:PySem.W.Frag}{mg:Str->Option Value}{base:Heap}{A:Around}{outer:List Env}{s:Shared}{H:Hp}(e:Qe9 P w K mg base A outer s H)(C:Addr)(us:List Value)(kw:List (Str×Value)):
  Qe9 P w K mg base (A.under (.builtin "type.__call__" ⟨.ref C::us,kw⟩)) outer s H:=⟨by first|exact e.frames|(simpa[Around.under,Code.envs,Code.isFrame,pushEnvs] using e.frames),e.mod,e.bs,e.bsz,e.qcy,e.frf,e.hok,e.bare⟩
section
variable {X:Cx} {pins:List (Addr×Obj)} {σ:St} {H:Hp} {s s':Shared}
theorem Inv.env0(I:Inv X pins σ H s): Qe9 X.prog X.w X.K X.mg X.base X.A X.stack s H:=
 ⟨I.ok.frames,I.ok.mod,I.bs,Xd I.ok.bsz I.sz,I.stack,I.qux,I.hok,I.bare⟩
theorem Inv.after{Q:VK}{u:Value}(I:Inv X pins σ H s)(h:CE X.stack X.prog X.w H s Q u s'): EP X pins σ Q u s':=by
 obtain⟨v,H',os,bare,un,hok,r,q⟩:=h
 obtain⟨hh,g,d,t,os'⟩:=s'
 obtain rfl:os'=s.os:=os
 exact⟨v,H',I.call (h':=hh) (g':=g) (d':=d) (t':=t) (ch:=[]) un hok bare (fun b z=>absurd z (by simp)),r,q⟩
end
def tCall(sp:Sp)(dvs:List V)(E:XK)(t:TA): TE:=fun σ H Q=>t σ H fun vs H1=>sp (vs++dvs) H1 Q E
def tMake(C:Addr)(sp:Sp)(dvs:List V)(E:XK)(t:TA): TE:=fun σ H Q=>t σ H fun vs H1=>∀ x dx,H1 x=none->H1 dx=none->dx≠x ->
 sp (.ref x::(vs++dvs)) (upd (upd H1 dx (.own x)) x (.ins C dx [])) (fun v H2=>v = .non/\Q (.ref x) H2) E
def Binds(K:PySem.W.Frag)(fd:FuncData)(ps:List Str)(ds:List Value): Prop:=
 ∀ (s:Shared) (us:List Value),K.In s.heap->(us++ds).length=ps.length->BindsTo s fd ⟨us,[]⟩ (ps.zip (us++ds))
theorem Binds.all{K:PySem.W.Frag}{fd:FuncData}{ps:List Str}(h:∀ us:List Value,us.length=ps.length->bindArgs fd ⟨us,[]⟩=pure (ps.zip us)): Binds K fd ps []:=fun s us _ hl=>by
 rw[Y7] at hl ⊢
 exact .of_eq (h us hl)
def Passes(CX:CXT)(X:Cx)(E:XK): Prop:=∀ (pins:List (Addr×Obj)) (σ:St) (H:Hp) (s:Shared) (e:Value) (s':Shared),Inv X pins σ H s->CX X.stack H s E e s'->X.xe e s'
section
variable {X:Cx} {CX:CXT} {k:Nat} {f C:Addr} {fd:FuncData} {ps:List Str} {sp:Sp} {dvs:List V} {ds:List Value} {E:XK} {x m:Str} {p pos apos:Pos} {e o:Expr} {es:List Expr} {ta:TE} {t:TA}
theorem qr3{pins:List (Addr×Obj)}{σ:St}{H:Hp}{s:Shared}{Q:VK}{us:List Value}{vs:List V}(F:Qbw X.prog X.w X.K X.mg X.base CX k f fd ps sp)(hr:Qaa k X.A)(hb:Binds X.K fd ps ds)(hd:Vals dvs ds)(hx:Passes CX X E)
  (I:Inv X pins σ H s)(r:Vals vs us)(h:sp (vs++dvs) H Q E): wpAny (model X.prog X.w) X.A (call (.ref f) us) (EP X pins σ Q) X.xe s:=by
 have r2:Vals (vs++dvs) (us++ds):=r.append hd
 have hl:(us++ds).length=ps.length:=by rw[<- r2.length];exact F.len _ _ _ _ h
 refine wpAny_call (Uq (F.run X.A X.stack s H ⟨us,[]⟩ (us++ds) (vs++dvs) Q E hr I.env0 (hb s us I.kIn hl) r2 h) fun r s' hq=>?_)
 cases r with
 |error e=>exact hx pins σ H s e s' I hq
 | ok fl=>
   cases fl with
   |ret u=>exact I.after hq
   |next=>exact False.elim hq
   |brk=>exact False.elim hq
   |cont=>exact False.elim hq
theorem q4q(F:Qbw X.prog X.w X.K X.mg X.base CX k f fd ps sp)(hr:Qaa k X.A)(hg:Gl X x)(hm:X.mg x=some (.ref f))(hk:PySem.W.keepIn X.K (.ref f)=true)(hb:Binds X.K fd ps ds)(hd:Vals dvs ds)(hx:Passes CX X E)
  (ha:PA X (e::es) t)(hdb:(x==("__debug__" : Str))=false:=by decide)(he:starEach (e::es) X.env=(false,eval e X.env)::starEach es X.env:=by rfl)(hpl:(backTo pos (starEach es X.env)).any (·.1)=false:=by rfl):
  PE X (.Call (.Name x p) (e::es) [] pos) (tCall sp dvs E t):=by
 intro pins s σ H Q I h
 refine Ur (qhl I hg hm ?_ hdb)
 refine PySem.W.callWith_K (h₀:=X.base) I.ok.mod.kin hk (thn (ha pos pins s σ H _ I h) fun us s1 ⟨vs,H1,I1,r,q⟩=>⟨I1.kIn,?_⟩) he hpl
 exact qr3 F hr hb hd hx I1 r q
structure Mk(K:PySem.W.Frag)(C f:Addr): Prop where
 makes:PySem.W.makesIn K C=true
 init:PySem.W.findIn K (.ref C) "__init__" = some (some (.ref f))
 fn:PySem.W.isFn K (.ref f)=true
 kp:PySem.W.keepIn K (.ref C)=true
theorem qr4{pins:List (Addr×Obj)}{σ:St}{H:Hp}{s:Shared}{Q:VK}{us:List Value}{vs:List V}(M:Mk X.K C f)(F:Qbw X.prog X.w X.K X.mg X.base CX k f fd ps sp)(hr:Qaa (k+1) X.A)(hb:Binds X.K fd ps ds)(hd:Vals dvs ds)
  (hx:Passes CX X E)(I:Inv X pins σ H s)(r:Vals vs us)
  (h:∀ x dx,H x=none->H dx=none->dx≠x->sp (.ref x::(vs++dvs)) (upd (upd H dx (.own x)) x (.ins C dx [])) (fun v H2=>v = .non/\Q (.ref x) H2) E):
  wpAny (model X.prog X.w) X.A (call (.ref C) us) (EP X pins σ Q) X.xe s:=by
 have hq:=h (s.heap.objs.size+1) s.heap.objs.size (I.hok.fresh (Nat.le_succ _)) (I.hok.fresh (Jp _)) (Xl (Qe _))
 have I2:=Inv.made (C:=C) I
 have r2:Vals (V.ref (s.heap.objs.size+1)::(vs++dvs)) (Value.ref (s.heap.objs.size+1)::(us++ds)):=.cons rfl (r.append hd)
 have hl:(Value.ref (s.heap.objs.size+1)::us++ds).length=ps.length:=by
  have e:=r2.length
  rw[F.len _ _ _ _ hq] at e
  exact e.symm
 refine wpAny_call (q3b (f:=f) I.kIn M.makes M.init (Yq.mp M.fn) (Uq (F.run _ X.stack _ _ ⟨Value.ref (s.heap.objs.size+1)::us,[]⟩ (Value.ref (s.heap.objs.size+1)::(us++ds)) _ _ E (hr.make C us [])
  (I2.env0.make C us []) (hb _ (Value.ref (s.heap.objs.size+1)::us) I2.kIn hl) r2 hq) fun r s' hq'=>?_))
 cases r with
 |error e=>exact hx pins σ _ _ e s' I2 hq'
 | ok fl=>
   cases fl with
   | ret u=>
     obtain⟨v,H',I3,rv,ev,q3⟩:=I2.after hq'
     subst ev
     exact⟨rv,⟨V.ref (s.heap.objs.size+1),H',I3,rfl,q3⟩⟩
   |next=>exact False.elim hq'
   |brk=>exact False.elim hq'
   |cont=>exact False.elim hq'
theorem q40(M:Mk X.K C f)(F:Qbw X.prog X.w X.K X.mg X.base CX k f fd ps sp)(hr:Qaa (k+1) X.A)(hg:Gl X x)(hm:X.mg x=some (.ref C))(hb:Binds X.K fd ps ds)(hd:Vals dvs ds)(hx:Passes CX X E)
  (ha:PA X (e::es) t)(hdb:(x==("__debug__" : Str))=false:=by decide)(he:starEach (e::es) X.env=(false,eval e X.env)::starEach es X.env:=by rfl)(hpl:(backTo pos (starEach es X.env)).any (·.1)=false:=by rfl):
  PE X (.Call (.Name x p) (e::es) [] pos) (tMake C sp dvs E t):=by
 intro pins s σ H Q I h
 refine Ur (qhl I hg hm ?_ hdb)
 refine PySem.W.callWith_K (h₀:=X.base) I.ok.mod.kin M.kp (thn (ha pos pins s σ H _ I h) fun us s1 ⟨vs,H1,I1,r,q⟩=>⟨I1.kIn,?_⟩) he hpl
 exact qr4 M F hr hb hd hx I1 r q
theorem q41(M:Mk X.K C f)(F:Qbw X.prog X.w X.K X.mg X.base CX k f fd ps sp)(hr:Qaa (k+1) X.A)(hg:Gl X x)(hm:X.mg x=some (.ref C))(hb:Binds X.K fd ps ds)(hd:Vals dvs ds)(hx:Passes CX X E)
  (hdb:(x==("__debug__" : Str))=false:=by decide): PE X (.Call (.Name x p) [] [] pos) (tMake C sp dvs E qan):=by
 intro pins s σ H Q I h
 refine Ur (qhl I hg hm ?_ hdb)
 exact PySem.W.callWith_K0 I.kIn M.kp (qr4 (us:=[]) M F hr hb hd hx I .nil h)
end
structure Kh(N P:List Str)(sc:Scope): Prop where
 kind:sc.kind = .function
 co:sc.isCoroutine=false
 gen:sc.isGenerator=false
 nd:N.Nodup
 pre:N.take P.length=P
 par:∀ x∈P,sc.names.lookup x=some .local\/sc.names.lookup x=some .cell
 nofree:∀ y∈sc.names,y.2≠.free
theorem qok{kindOf:Str->Option NameKind}{x:Str}: ∀ {binds:List (Str×Value)} {m:Str->Option Value},(∀ v,(x,v)∉binds)->bindL kindOf binds m x=m x
 |[],_,_=>rfl
 | (n,v)::r,m,h=>by
   unfold bindL
   rw[qok fun w hw=>h w (Jm _ hw)]
   split
   ·have:x≠n:=by rintro rfl;exact h v Jh
    simp[this]
   ·rfl
theorem qoi{kindOf:Str->Option NameKind}{x:Str}: ∀ {binds:List (Str×Value)} {m:Str->Option Value},(∀ v,(x,v)∉binds)->bindC kindOf binds m x=m x
 |[],_,_=>rfl
 | (n,v)::r,m,h=>by
   unfold bindC
   rw[qoi fun w hw=>h w (Jm _ hw)]
   split
   ·rfl
   ·have:x≠n:=by rintro rfl;exact h v Jh
    simp[this]
theorem qoj{kindOf:Str->Option NameKind}{x:Str}{v:Value}: ∀ {P:List Str} {vs:List Value} {i:Nat} {m:Str->Option Value},P.Nodup->P[i]?=some x->vs[i]?=some v->kindOf x=some .local ->
  bindL kindOf (P.zip vs) m x=some v
 |[],_,_,_,_,h,_,_=>by simp at h
 |_::_,[],_,_,_,_,h,_=>by simp at h
 | p::P,w::vs,0,m,nd,h1,h2,hk=>by
   simp at h1 h2;subst h1;subst h2
   show bindL kindOf ((p,w)::P.zip vs) m p=_
   unfold bindL
   rw[qok fun v hv=>(Xf.mp nd).1 (List.of_mem_zip hv).1,Je hk]
   simp
 | p::P,w::vs,i+1,m,nd,h1,h2,hk=>by
   show bindL kindOf ((p,w)::P.zip vs) m x=_
   unfold bindL
   exact qoj (i:=i) (Xf.mp nd).2 (by simpa using h1) (by simpa using h2) hk
theorem qoh{kindOf:Str->Option NameKind}{x:Str}{v:Value}: ∀ {P:List Str} {vs:List Value} {i:Nat} {m:Str->Option Value},P.Nodup->P[i]?=some x->vs[i]?=some v->kindOf x≠some .local ->
  bindC kindOf (P.zip vs) m x=some v
 |[],_,_,_,_,h,_,_=>by simp at h
 |_::_,[],_,_,_,_,h,_=>by simp at h
 | p::P,w::vs,0,m,nd,h1,h2,hk=>by
   simp at h1 h2;subst h1;subst h2
   show bindC kindOf ((p,w)::P.zip vs) m p=_
   unfold bindC
   rw[qoi fun v hv=>(Xf.mp nd).1 (List.of_mem_zip hv).1,Jc hk]
   simp
 | p::P,w::vs,i+1,m,nd,h1,h2,hk=>by
   show bindC kindOf ((p,w)::P.zip vs) m x=_
   unfold bindC
   exact qoh (i:=i) (Xf.mp nd).2 (by simpa using h1) (by simpa using h2) hk
def start(N:List Str)(vs:List V): St:=vs.map some++List.replicate (N.length-vs.length) none
def qb8(CX:CXT)(P:Program)(w:World)(K:PySem.W.Frag)(mg:Str->Option Value)(base:Heap)(N:List Str)(qual:Str)(scope:Scope)(f:Addr)(cd:Value)(A:Around)(outer:List Env)(s:Shared)(H:Hp)(E:XK): Cx where
 prog:=P
 w:=w
 K:=K
 mg:=mg
 base:=base
 A:=A.deeper (envOfC qual scope s.heap.objs.size f cd)
 N:=N
 s_0:=s
 H_0:=H
 env:=envOfC qual scope s.heap.objs.size f cd
 outer:=outer
 stack:=envOfC qual scope s.heap.objs.size f cd::outer
 ex:=[]
 calm:=true
 fn:=fun _=>true
 pn:=[]
 xe:=fun e s'=>wpAny (model P w) (A.deeper (envOfC qual scope s.heap.objs.size f cd)) (leaving (envOfC qual scope s.heap.objs.size f cd) e) (fun _ s''=>CX outer H s E e s'') (fun e' s''=>CX outer H s E e' s'') s'
theorem qos{sc:Scope}{n:Nat}{x:Str}(h:sc.names.lookup x=some .cell): ∃ c,(cellsFrom n sc.names []).lookup x=some c:=by
 have q:=PySem.W.cellsFrom_some sc.names n [] (.inl h)
 exact Uo.mp q
theorem q2p{CX:CXT}{P:Program}{w:World}{K:PySem.W.Frag}{mg:Str->Option Value}{base:Heap}{N ps:List Str}{qual:Str}{scope:Scope}{f:Addr}{cd:Value}{A:Around}{outer:List Env}{s s1:Shared}{H:Hp}{E:XK}{us:List Value}{vs:List V}
  (S:Kh N ps scope)(hd:A.handled=none)(e0:Qe9 P w K mg base A outer s H)(hl:vs.length=ps.length)(r:Vals vs us)
  (x:InCallC s s.heap.objs.size (bindL (envOfC qual scope s.heap.objs.size f cd).kindOf (ps.zip us) fun _=>none) (cellsFrom (s.heap.objs.size+1) scope.names []) (bindC (envOfC qual scope s.heap.objs.size f cd).kindOf (ps.zip us) fun _=>none) s1):
  Inv (qb8 CX P w K mg base N qual scope f cd A outer s H E) [] (start N vs) H s1:=by
 have hpl:ps.length<=N.length:=by have:=Ym List.length S.pre;rw[Zs] at this;omega
 obtain⟨h1,tk,rfl,hk⟩:=x.done
 have noA:∀ b:Addr,b∉(qb8 CX P w K mg base N qual scope f cd A outer s H E).ex:=fun b z=>absurd (show b∈([]:List Addr) from z) (by simp)
 refine⟨⟨e0.mod,S.kind,rfl,rfl,Jp _,fun y z c h1 h2=>?_,fun y hy=>?_,fun y c _ h=>?_,fun _=>hd,Around.frames_deeper e0.frames,.inr ⟨rfl,rfl⟩,fun b z=>absurd z (noA b),e0.bs,e0.bsz,fun b _ _=>noA b,fun b z=>absurd z (noA b),e0.qcy,e0.frf⟩,
  rfl,e0.bare,Un.kept hk,⟨_,x.toInCall.ns,fun i y v h1 h2 h3=>?_⟩,fun y c h=>⟨_,x.cell y c h⟩,e0.hok.fresh (Jp _),fun y c h=>?_,fun p hp=>absurd (show p∈([]:List (Addr×Obj)) from hp) (by simp),e0.hok.kept hk,?_⟩
 ·exact name_of_addr x.apart (Xx h1) (Xx h2)
 ·have hy:scope.names.lookup y=some .cell\/scope.names.lookup y=some .free:=hy
  rcases hy with hy|hy
  ·exact qos hy
  ·exact absurd rfl (S.nofree _ (Xx hy))
 ·exact Xj (x.above y c (Xx h))
 ·have hi:i<vs.length:=by
   unfold start at h2
   by_cases hi:i<vs.length
   ·exact hi
   ·rw[List.getElem?_append_right (by simpa using hi)] at h2
    rw[Uw] at h2
    split at h2<;>cases h2
  have ha:vs[i]?=some v:=by
   unfold start at h2
   rw[Wg (by simpa using hi),Jt] at h2
   cases e:vs[i]? with
   |none=>rw[e] at h2;cases h2
   |some a=>rw[e] at h2;cases h2;rfl
  obtain⟨u,hu,rv⟩:=r.get ha
  have hp:ps[i]?=some y:=by
   rw[<- S.pre,List.getElem?_take_of_lt (by omega)];exact h1
  have ndP:ps.Nodup:=by rw[<- S.pre];exact S.nd.sublist (List.take_sublist _ _)
  refine⟨u,rv,?_⟩
  rcases S.par y (J0 hp) with k|k
  ·exact .inl ⟨k,qoj ndP hp hu k⟩
  ·obtain⟨c,e⟩:=qos (n:=s.heap.objs.size+1) k
   refine .inr ⟨.inl k,c,e,?_⟩
   have q:=x.cell y c e
   rw[qoh ndP hp hu (by show scope.names.lookup y≠_;rw[k];decide)] at q
   exact q
 ·exact e0.hok.fresh (Xj (x.above y c (Xx h)))
 ·unfold start
  show _=N.length
  rw[Jx,Jd,Qn]
  omega
theorem fn_of{CX:CXT}{P:Program}{w:World}{K:PySem.W.Frag}{mg:Str->Option Value}{base:Heap}{k:Nat}{f:Addr}{name qual:Str}{params:Arguments}{body:List Stmt}{scope:Scope}{dV kV doc pm cdv ct oc:Value}{an od:Option Addr}
  {osl:Array (Option Value)}{N ps:List Str}{sp:Sp}(lk:K.lookup f=some ⟨oc,od,.func (PySem.W.fnOf name qual params body scope dV kV doc pm an cdv ct),osl⟩)(hcd:PySem.W.codeIn K cdv qual=true)(S:Kh N ps scope)
  (len:∀ vs H Q E,sp vs H Q E->vs.length=ps.length)
  (hbody:∀ (A:Around) (outer:List Env) (s:Shared) (H:Hp) (vs:List V) (Q:VK) (E:XK),Qaa k (A.deeper (envOfC qual scope s.heap.objs.size f cdv))->sp vs H Q E ->
   ∃ t,PSs (qb8 CX P w K mg base N qual scope f cdv A outer s H E) body t/\t { nx:=fun _ H'=>Q .non H',rt:=Q } (start N vs) H):
  Qbw P w K mg base CX (k+1) f (PySem.W.fnOf name qual params body scope dV kV doc pm an cdv ct) ps sp:=by
 refine⟨len,fun A outer s H args us vs Q E hr e0 hb r hsp=>?_⟩
 have hl:=len _ _ _ _ hsp
 have KX:K.In s.heap:=e0.mod.kin.keeps fun b o e=>(e0.bs b o e).1
 have lim:s.heap.NoLimit:=e0.mod.nolimit.keeps fun b o e=>(e0.bs b o e).1
 have hkind:∀ y∈ps.zip us,scope.names.lookup y.1=some .local\/(scope.names.lookup y.1=some .cell/\((cellsFrom (s.heap.objs.size+1) scope.names []).lookup y.1).isSome=true):=fun ⟨n,v⟩ hy=>by
  rcases S.par n (List.of_mem_zip hy).1 with q|q
  ·exact .inl q
  ·exact .inr ⟨q,PySem.W.cellsFrom_some _ _ _ (.inl q)⟩
 refine codeAny_call_function hr.depth (KX _ _ lk) rfl S.co S.gen rfl (PySem.W.codeRec_of KX hcd) (hb _ _ _ _ ?_)
 refine wpAny_newFunctionEnv_cells S.kind hkind fun env he s1 x=>?_
 subst he
 refine⟨lim.keeps x.toInCall.keep,codeAny_func ?_⟩
 obtain⟨t,ht,hq⟩:=hbody A outer s H vs Q E (hr.deeper _) hsp
 have I:Inv (qb8 CX P w K mg base N qual scope f cdv A outer s H E) [] (start N vs) H s1:=q2p S hr.hd e0 hl r x
 refine Yw (ht [] s1 (start N vs) H _ I hq) (fun fl s' hs=>?_) fun e s' hs=>hs
 have fin:∀ {σ':St} {H':Hp} {v:V} {u:Value},Inv (qb8 CX P w K mg base N qual scope f cdv A outer s H E) [] σ' H' s'->RelV v u->Q v H'->CE outer P w H s Q u s':=
  fun {σ' H' v u} J rv q=>⟨v,H',J.os,J.bare,J.base,J.hok,rv,q⟩
 cases fl with
 | ret u=>
   obtain⟨v,σ',H',J,rv,q⟩:=hs
   exact fin J rv q
 | next=>
   obtain⟨σ',H',J,q⟩:=hs
   exact fin (v:=V.non) (u:=Value.none) J rfl q
 | brk=>
   obtain⟨_,_,_,q⟩:=hs
   exact False.elim q
 | cont=>
   obtain⟨_,_,_,q⟩:=hs
   exact False.elim q
section
variable {X:Cx} {x:Str} {p pos:Pos} {e:Expr} {es:List Expr} {t:TA} {id T:String} {r:List V->Hp->VK->Prop}
def tCB(r:List V->Hp->VK->Prop)(t:TA): TE:=fun σ H Q=>t σ H fun vs H1=>r vs H1 Q
theorem qdw(hc:Qdm X (.builtin id) r)(hg:Gl X x)(hm:X.mg x=none)(hv:bootBuiltins x=some (.builtin id))(ha:PA X (e::es) t)(hn:x≠"__name__":=by decide)(hdb:(x==("__debug__" : Str))=false:=by decide)
  (he:starEach (e::es) X.env=(false,eval e X.env)::starEach es X.env:=by rfl)(hpl:(backTo pos (starEach es X.env)).any (·.1)=false:=by rfl): PE X (.Call (.Name x p) (e::es) [] pos) (tCB r t):=by
 intro pins s σ H Q I h
 refine Ur (qee I hg hm hv ?_ hn hdb)
 exact PyProof.Rows.callWith_builtin1 (thn (ha pos pins s σ H _ I h) fun us s1 ⟨vs,H1,I1,r1,q1⟩=>hc pins s1 σ H1 vs us Q I1 r1 q1) he hpl
end
end L2
namespace HT
open PySem PyProof.Rows
section
variable {prog:Program} {w:World} {A:Around} {E:Value->Shared->Prop} {s:Shared}
def sIx(n d:Nat): Option Int->Nat
 |none=>d
 |some v=>if v<0 then (v+(n:Int)).toNat else min v.toNat n
theorem qr5(n d:Nat): sIx n d none=d:=rfl
theorem qjl(n d k:Nat): sIx n d (some (k:Int))=min k n:=by
 show (if (k:Int)<0 then ((k:Int)+(n:Int)).toNat else min (k:Int).toNat n)=min k n
 rw[Jc (by omega),J1]
end
end HT
namespace L2
open PySem PySem.Spec PyProof.Rows
abbrev TO:=St->Hp->(Option Int->Hp->Prop)->Prop
def PO(X:Cx)(e:Option Expr)(t:TO): Prop:=
 ∀ (pins:List (Addr×Obj)) (s:Shared) (σ:St) (H:Hp) (Q:Option Int->Hp->Prop),Inv X pins σ H s->t σ H Q ->
   wpAny (model X.prog X.w) X.A (evalPart e X.env) (fun u s'=>∃ o H',Inv X pins σ H' s'/\IsPart u o/\Q o H') X.xe s
def qva:TO:=fun _ H Q=>Q none H
def qj4(t:TE): TO:=fun σ H Q=>t σ H fun x H1=>∃ i,x = .int i/\Q (some i) H1
section
variable {X:Cx} {e:Expr} {te:TE} {lo hi:Option Expr} {tl th:TO} {pos p2:Pos}
theorem qjg:PO X none qva:=by
 intro pins s σ H Q I h
 rw[evalPart_none]
 exact Jg ⟨none,H,I,.none,h⟩
theorem qgg(h:PE X e te): PO X (some e) (qj4 te):=by
 intro pins s σ H Q I hw
 rw[evalPart_some]
 refine thn (h pins s σ H _ I hw) fun u s1 ⟨x,H1,I1,r1,q1⟩=>?_
 obtain⟨i,rfl,q⟩:=q1
 obtain⟨t,rfl⟩:=r1
 exact⟨some i,H1,I1,.int i t,q⟩
def SlR(X:Cx)(r:V->Option Int->Option Int->Hp->VK->Prop): Prop:=
 ∀ (pins:List (Addr×Obj)) (s:Shared) (σ:St) (H:Hp) (x:V) (v vl vu:Value) (lo hi:Option Int) (sl:Addr) (Q:VK),Inv X pins σ H s->RelV x v->s.heap.IsSliceOf sl vl vu .none->IsPart vl lo->IsPart vu hi->r x lo hi H Q ->
   ∃ T id,typeLookup (.type T) "__getitem__" = pure (some (.builtin id))/\s.TypeIs v T/\wpAny (model X.prog X.w) X.A (getItem v (.ref sl)) (EP X pins σ Q) X.xe s
def tSl(r:V->Option Int->Option Int->Hp->VK->Prop)(te:TE)(tl th:TO): TE:=fun σ H Q=>te σ H fun x H1=>tl σ H1 fun l H2=>th σ H2 fun u H3=>r x l u H3 Q
theorem qhu{r:V->Option Int->Option Int->Hp->VK->Prop}(hr:SlR X r)(he:PE X e te)(hl:PO X lo tl)(hu:PO X hi th): PE X (.Subscript e (.Slice lo hi none p2) pos) (tSl r te tl th):=by
 intro pins s σ H Q I h
 refine Subscript_ (thn (he pins s σ H _ I h) fun v s1 ⟨x,H1,I1,r1,q1⟩=>?_)
 refine wpAny_Slice (thn (hl pins s1 σ H1 _ I1 q1) fun vl s2 ⟨l,H2,I2,pl,q2⟩=>thn (hu pins s2 σ H2 _ I2 q2) fun vu s3 ⟨u,H3,I3,pu,q3⟩=>?_)
 rw[evalPart_none]
 refine Jg ?_
 have I4:Inv X pins σ H3 { s3 with heap:=s3.heap.push { cls:=.type "slice",data:=.fields #[vl,vu,.none] } }:=I3.kept (t':=s3.toks) fun b ob q=>Jb _ q
 obtain⟨T,id,hT,ht,hg⟩:=hr pins { s3 with heap:=s3.heap.push { cls:=.type "slice",data:=.fields #[vl,vu,.none] } } σ H3 x v vl vu l u s3.heap.objs.size Q I4 r1 (Heap.IsSliceOf.new ..) pl pu q3
 show wpAny (model X.prog X.w) X.A (subscriptTail e (.Slice lo hi none p2) v (.ref s3.heap.objs.size)) (EP X pins σ Q) X.xe { s3 with heap:=s3.heap.push { cls:=.type "slice",data:=.fields #[vl,vu,.none] } }
 exact tail_any (ops:=[.ref s3.heap.objs.size,v]) ht hT hg (by with_unfolding_all rfl)
def qcg(xs:List V)(lo hi:Option Int): List V:=(xs.drop (HT.sIx xs.length 0 lo)).take (HT.sIx xs.length xs.length hi-HT.sIx xs.length 0 lo)
theorem qxu(xs:List V)(lo hi:Option Int): (qcg xs lo hi).length<=xs.length:=by
 unfold qcg
 rw[Zs,Qg]
 omega
end
def ixN(n:Nat)(i:Int): Option Nat:=if 0<=i then (if i<n then some i.toNat else none) else if -(n:Int)<=i then some (i+n).toNat else none
def atI{α:Type}(xs:List α)(i:Int): Option α:=(ixN xs.length i).bind fun j=>xs[j]?
theorem qp9{n:Nat}{i:Int}{j:Nat}(h:ixN n i=some j): seqIndex? i n=some j/\j<n/\-(n:Int)<=i/\i<n:=by
 unfold ixN at h
 by_cases h0:0<=i
 ·rw[Je h0] at h
  by_cases h1:i<n
  ·rw[Je h1] at h
   have e:i.toNat=j:=Jj h
   exact⟨by rw[seqIndex_of h0 h1,e],by omega,by omega,h1⟩
  ·rw[Jc h1] at h;cases h
 ·rw[Jc h0] at h
  by_cases h1 : -(n:Int)<=i
  ·rw[Je h1] at h
   have e:(i+n).toNat=j:=Jj h
   exact⟨by rw[seqIndex_neg (by omega) h1,e],by omega,h1,by omega⟩
  ·rw[Jc h1] at h;cases h
theorem qob{α:Type}{xs:List α}{i:Int}{v:α}(h:atI xs i=some v): ∃ j,seqIndex? i xs.length=some j/\xs[j]?=some v/\j<xs.length/\-(xs.length:Int)<=i/\i<xs.length:=by
 unfold atI at h
 cases e:ixN xs.length i with
 |none=>rw[e] at h;cases h
 | some j=>
   rw[e] at h
   obtain⟨h1,h2,h3,h4⟩:=qp9 e
   exact⟨j,h1,h,h2,h3,h4⟩
theorem ye{α:Type}{xs:List α}{j:Nat}{v:α}(h:xs[j]?=some v): atI xs (j:Int)=some v:=by
 have hj:j<xs.length:=(Ji.mp h).1
 have e:ixN xs.length (j:Int)=some j:=by
  unfold ixN
  rw[Je (by omega),Je (by omega)];simp
 unfold atI;rw[e];exact h
theorem qwd{α:Type}(xs:List α)(v:α): atI (xs++[v]) (-1)=some v:=by
 have hl:(xs++[v]).length=xs.length+1:=by simp
 have e:ixN (xs++[v]).length (-1)=some xs.length:=by
  unfold ixN
  rw[hl,Jc (by decide),Je (by omega)]
  congr 1
  omega
 unfold atI
 rw[e]
 show (xs++[v])[xs.length]?=some v
 simp
def Qke(b:Expr): Prop:=∀ o i,subscripted b false o i=operate [o,i] (getItem o i)
def IxR(X:Cx)(r:R2): Prop:=
 ∀ (value slice:Expr) (pins:List (Addr×Obj)) (s:Shared) (σ:St) (H:Hp) (x y:V) (v u:Value) (Q:VK),Inv X pins σ H s->RelV x v->RelV y u->r x y H Q ->
   subscripted slice false v u=operate [v,u] (getItem v u)->wpAny (model X.prog X.w) X.A (subscriptTail value slice v u) (EP X pins σ Q) X.xe s
def MtR(X:Cx)(id:String)(r:V->List V->Hp->VK->Prop): Prop:=
 ∀ (pins:List (Addr×Obj)) (s:Shared) (σ:St) (H:Hp) (x:V) (xs:List V) (v:Value) (us:List Value) (Q:VK),Inv X pins σ H s->RelV x v->Vals xs us->r x xs H Q ->
   wpAny (model X.prog X.w) X.A (call (.builtin id) (v::us)) (EP X pins σ Q) X.xe s
section
variable {X:Cx} {a b:Expr} {ta tb:TE} {pos:Pos}
theorem pe_ix{r:R2}(hr:IxR X r)(ha:PE X a ta)(hb:PE X b tb)(hs:Qke b): PE X (.Subscript a b pos) (tOp r ta tb):=by
 intro pins s σ H Q I h
 exact Subscript_ (binT ha hb I h fun v u s2 x y H2 I2 rx ry q=>hr a b pins s2 σ H2 x y v u Q I2 rx ry q (hs _ _))
def qdz(K:PySem.W.Frag): R2:=fun x y H Q=>∃ p xs i v,x = .ref p/\y = .int i/\SqL K H p xs/\atI xs i=some v/\Q v H
def rIxT(K:PySem.W.Frag): R2:=fun x y H Q=>∃ p xs i v,x = .ref p/\y = .int i/\SqT K H p xs/\atI xs i=some v/\Q v H
theorem q2r:IxR X (qdz X.K):=by
 intro value slice pins s σ H x y v u Q I rx ry h hs
 obtain⟨p,xs,i,z,rfl,rfl,hq,he,q⟩:=h
 cases rx
 obtain⟨t,rfl⟩:=ry
 obtain⟨its,r,pl,hz⟩:=I.list hq
 obtain⟨j,h1,h2,h3,h4,h5⟩:=qob he
 obtain⟨w,ew,rw'⟩:=r.get h2
 have hl:=r.length
 have hn:=qi7
 have fin:EP X pins σ Q w s:=⟨z,H,I,rw',q⟩
 by_cases h0:0<=i
 ·have hj:i.toNat=j:=by
   rw[seqIndex_of h0 h5] at h1
   exact Jj h1
  exact item_listR pl.isList h0 (by omega) (by rw[hj];simpa using ew) fin hs
 ·have hj:(i+(its.toArray.size:Int)).toNat=j:=by
   rw[seqIndex_neg (by omega) h4] at h1
   rw[J8,<- hl]
   exact Jj h1
  exact subscriptTail_builtinR (x:=w) pl.isList.typeIs slot_list_getitem.lookup
   (wpAny_getItem_list_neg (Q:=fun r s'=>r=w/\EP X pins σ Q r s') pl.isList (by omega) (by rw[J8]<;>omega) (by omega) (by rw[hj];simpa using ew) ⟨rfl,fin⟩) hs
theorem ix_tup:IxR X (rIxT X.K):=by
 intro value slice pins s σ H x y v u Q I rx ry h hs
 obtain⟨p,xs,i,z,rfl,rfl,hq,he,q⟩:=h
 cases rx
 obtain⟨t,rfl⟩:=ry
 obtain⟨its,r,pl,hz⟩:=I.tuple hq
 obtain⟨j,h1,h2,h3,h4,h5⟩:=qob he
 obtain⟨w,ew,rw'⟩:=r.get h2
 have hl:=r.length
 have hn:=qi7
 have fin:EP X pins σ Q w s:=⟨z,H,I,rw',q⟩
 exact subscriptTail_builtinR (x:=w) pl.typeIs slot_tuple_getitem.lookup
  (getItem_tuple (j:=j) (Q:=fun r s'=>r=w/\EP X pins σ Q r s') pl (by omega) (by omega) (by rw[J8,<- hl];exact h1) (by simpa using ew) ⟨rfl,fin⟩) hs
theorem q3d(its:List Value)(n j:Nat)(u:Value): Obj.mapSeq (·.setIfInBounds j u) { cls:=.type "list",data:=.seq its.toArray n }={ cls:=.type "list",data:=.seq (its.set j u).toArray n }:=by
 simp[Obj.mapSeq]
theorem Inv.lst{pins:List (Addr×Obj)}{σ:St}{H:Hp}{s:Shared}{p:Addr}{xs:List V}(I:Inv X pins σ H s)(h:H p=some (.lst xs)):
  ∃ (its:List Value) (n:Nat),Vals xs its/\s.heap.get? p=some { cls:=.type "list",data:=.seq its.toArray n }/\xs.length<=sizeLine:=by
 obtain⟨z,its,n,r,e⟩:=I.hok p _ h
 exact⟨its,n,r,e,z⟩
theorem Inv.lstUpd{pins:List (Addr×Obj)}{σ:St}{H:Hp}{s:Shared}{p:Addr}{xs ys:List V}{its its':List Value}{n n':Nat}{f:Obj->Obj}(I:Inv X pins σ H s)(h:H p=some (.lst xs))
  (ho:s.heap.get? p=some { cls:=.type "list",data:=.seq its.toArray n })(hf:f { cls:=.type "list",data:=.seq its.toArray n }={ cls:=.type "list",data:=.seq its'.toArray n' })(r:Vals ys its')(hz:ys.length<=sizeLine)(t:Nat):
  Inv X pins σ (upd H p (.lst ys)) { s with heap:=s.heap.update p f,toks:=t }:=by
 have e:(s.heap.update p f).get? p=some { cls:=.type "list",data:=.seq its'.toArray n' }:=by
  rw[Yy f ho (by rw[hf]<;>rfl),hf]
 refine I.write (x:=p) (e:=p) (by rw[h];trivial) (.inl rfl) (fun b u hb q=>(Zq _ _ (Xb hb)).trans q) ⟨_,e⟩ ?_
 exact⟨hz,its',n',r,e⟩
def rSetL:V->V->V->Hp->(Hp->Prop)->Prop:=fun o i v H Q=>∃ p xs k j,o = .ref p/\i = .int k/\H p=some (.lst xs)/\ixN xs.length k=some j/\Q (upd H p (.lst (xs.set j v)))
theorem set_list:PSet X rSetL:=by
 intro pins s σ H o i v ov iv u Q I ro ri rv h
 obtain⟨p,xs,k,j,rfl,rfl,hp,hj,q⟩:=h
 cases ro
 obtain⟨t,rfl⟩:=ri
 obtain⟨its,n,r,ho,hz⟩:=I.lst hp
 obtain⟨h1,h2,h3,h4⟩:=qp9 hj
 have hl:=r.length
 have hn:=qi7
 have I':Inv X pins σ (upd H p (.lst (xs.set j v))) { s with heap:=s.heap.update p (Obj.mapSeq (·.setIfInBounds j u)) }:=
  I.lstUpd hp ho (q3d its n j u) (r.set rv j) (by rw[Ug];exact hz) s.toks
 by_cases h0:0<=k
 ·have hk:k.toNat=j:=by
   rw[seqIndex_of h0 h4] at h1
   exact Jj h1
  exact PySem.W.ki_setAt ho h0 (by omega) (by rw[J8,<- hl];exact h4) (by rw[hk];exact⟨_,I',q⟩)
 ·have hk:(k+(its.toArray.size:Int)).toNat=j:=by
   rw[seqIndex_neg (by omega) h3] at h1
   rw[J8,<- hl]
   exact Jj h1
  exact PySem.W.ki_setBack ho (by omega) (by rw[J8,<- hl];exact h3) (by omega) (by rw[hk];exact⟨_,I',q⟩)
theorem q7b(lo hi:Option Int)(n:Nat): (sliceBounds lo hi none n).1=((HT.sIx n 0 lo:Nat):Int)/\(sliceBounds lo hi none n).2.1=((HT.sIx n n hi:Nat):Int)/\(sliceBounds lo hi none n).2.2=1:=by
 refine⟨?_,?_,rfl⟩
 ·cases lo with
  |none=>simp[sliceBounds,HT.sIx]
  | some i=>
    simp only[sliceBounds,HT.sIx,Option.getD_none,show (1:Int) > 0 by decide,Wh]
    by_cases h:i<0
    ·simp only[h,Wh]<;>omega
    ·simp only[h,X9]<;>omega
 ·cases hi with
  |none=>simp[sliceBounds,HT.sIx]
  | some i=>
    simp only[sliceBounds,HT.sIx,Option.getD_none,show (1:Int) > 0 by decide,Wh]
    by_cases h:i<0
    ·simp only[h,Wh]<;>omega
    ·simp only[h,X9]<;>omega
theorem q7a(its:List Value)(lo hi:Option Int): slicePick its.toArray lo hi none=((its.drop (HT.sIx its.length 0 lo)).take (HT.sIx its.length its.length hi-HT.sIx its.length 0 lo)).toArray:=by
 obtain⟨h1,h2,h3⟩:=q7b lo hi its.toArray.size
 unfold slicePick
 rw[h1,h2,h3]
 simp only[sliceRange_one,pick_run,J8]<;>rfl
def rSlL(K:PySem.W.Frag): V->Option Int->Option Int->Hp->VK->Prop:=fun x lo hi H Q=>∃ a xs,x = .ref a/\SqL K H a xs/\∀ p,H p=none->Q (.ref p) (upd H p (.lst (qcg xs lo hi)))
theorem qh8:SlR X (rSlL X.K):=by
 intro pins s σ H x v vl vu lo hi sl Q I rx hs pl pu h
 obtain⟨a,xs,rfl,hx,q⟩:=h
 cases rx
 obtain⟨its,r,ht,hz⟩:=I.list hx
 have hlen:=r.length
 refine⟨"list",_,slot_list_getitem.lookup,ht.isList.typeIs,?_⟩
 refine wpAny_getItem_list_slice ht.isList hs pl pu .none (by simp) ?_ (by rw[J8]<;>omega)
 rw[q7a,<- hlen]
 refine⟨.ref s.heap.objs.size,_,I.laid (t':=s.toks) (o:=.lst (qcg xs lo hi)) (fun b ob q=>Jb _ q) (Jp _) ?_,rfl,q _ (I.hok.fresh (Jp _))⟩
 exact⟨Xd (qxu xs lo hi) hz,_,0,(r.drop (HT.sIx xs.length 0 lo)).take (HT.sIx xs.length xs.length hi-HT.sIx xs.length 0 lo),Js _ rfl⟩
def qd8:V->Bool
 | .non=>true
 | .bl _=>true
 | .int _=>true
 | .str _=>true
 |_=>false
def eqV:V->V->Bool
 | .non,.non=>true
 | .bl a,.bl b=>a==b
 | .bl a,.int b=>(if a then 1 else 0)==b
 | .int a,.bl b=>a==(if b then 1 else 0)
 | .int a,.int b=>a==b
 | .str a,.str b=>a==b
 |_,_=>false
theorem eqAt_V{A:Around}{s:Shared}{y x:V}{u v:Value}(ry:RelV y u)(rx:RelV x v)(fy:qd8 y=true)(fx:qd8 x=true): SeqAt.EqAt A s u v (eqV y x):=by
 cases y with
 | non=>
   cases ry
   cases x with
   |non=>cases rx;exact SeqAt.EqAt.same _
   |bl b=>cases rx;exact SeqAt.EqAt.none_bool b
   |int b=>obtain⟨t,rfl⟩:=rx;exact SeqAt.EqAt.none_int b t
   |str b=>obtain⟨t,rfl⟩:=rx;exact SeqAt.EqAt.none_str b t
   |_=>exact absurd (show false=true from fx) Jr
 | bl a=>
   cases ry
   cases x with
   |non=>cases rx;exact SeqAt.EqAt.bool_none a
   |bl b=>cases rx;exact SeqAt.EqAt.bool_bool a b
   |int b=>obtain⟨t,rfl⟩:=rx;exact SeqAt.EqAt.bool_int a b t
   |str b=>obtain⟨t,rfl⟩:=rx;exact SeqAt.EqAt.bool_str a b t
   |_=>exact absurd (show false=true from fx) Jr
 | int a=>
   obtain⟨t',rfl⟩:=ry
   cases x with
   |non=>cases rx;exact SeqAt.EqAt.int_none a t'
   |bl b=>cases rx;exact SeqAt.EqAt.int_bool a t' b
   |int b=>obtain⟨t,rfl⟩:=rx;exact SeqAt.EqAt.int_int a t' b t
   |str b=>obtain⟨t,rfl⟩:=rx;exact SeqAt.EqAt.int_str a t' b t
   |_=>exact absurd (show false=true from fx) Jr
 | str a=>
   obtain⟨t',rfl⟩:=ry
   cases x with
   |non=>cases rx;exact SeqAt.EqAt.str_none a t'
   |bl b=>cases rx;exact SeqAt.EqAt.str_bool a t' b
   |int b=>obtain⟨t,rfl⟩:=rx;exact SeqAt.EqAt.str_int a t' b t
   |str b=>obtain⟨t,rfl⟩:=rx;exact SeqAt.EqAt.str_str a t' b t
   |_=>exact absurd (show false=true from fx) Jr
 |_=>exact absurd (show false=true from fy) Jr
def eqU(x:V)(u:Value): Bool:=match u with
 | .none=>eqV .non x
 | .bool b=>eqV (.bl b) x
 | .int i _=>eqV (.int i) x
 | .str z _=>eqV (.str z) x
 |_=>false
theorem qpb{x y:V}{u:Value}(r:RelV y u)(f:qd8 y=true): eqU x u=eqV y x:=by
 cases y with
 |non=>cases r;rfl
 |bl b=>cases r;rfl
 |int i=>obtain⟨t,rfl⟩:=r;rfl
 |str z=>obtain⟨t,rfl⟩:=r;rfl
 |_=>exact absurd (show false=true from f) Jr
theorem qkj{x:V}: ∀ {xs:List V} {us:List Value},Vals xs us->xs.all qd8=true->us.any (eqU x)=xs.any fun y=>eqV y x
 |_,_,.nil,_=>rfl
 | y::xs,u::us,.cons r t,f=>by
   rw[Qc,Jw] at f
   rw[Y4,Y4,qpb r f.1,qkj t f.2]
theorem qmc{A:Around}{s:Shared}{x:V}{v:Value}(rx:RelV x v)(fx:qd8 x=true): ∀ {xs:List V} {us:List Value},Vals xs us->xs.all qd8=true->∀ u∈us,SeqAt.EqAt A s u v (eqU x u)
 |_,_,.nil,_=>fun u hu=>by cases hu
 | y::xs,u::us,.cons r t,f=>fun u' hu=>by
   rw[Qc,Jw] at f
   rcases Jf.mp hu with rfl|hu
   ·rw[qpb r f.1];exact eqAt_V r rx f.1 fx
   ·exact qmc rx fx t f.2 u' hu
def inV(x:V)(xs:List V): Bool:=xs.any fun y=>eqV y x
def rIn(K:PySem.W.Frag)(neg:Bool): R2:=fun x y H Q=>∃ p xs,y = .ref p/\(SqL K H p xs\/SqT K H p xs)/\qd8 x=true/\xs.all qd8=true/\Q (.bl (if neg then !inV x xs else inV x xs)) H
theorem qmj:OpR X (compareOp .In) (rIn X.K false):=by
 intro pins s σ H x y v u Q I rx ry h
 obtain⟨p,xs,rfl,hq,fx,fs,q⟩:=h
 cases ry
 rcases hq with hq|hq
 ·obtain⟨its,r,pl,hz⟩:=I.list hq
  refine SeqAt.in_listAt (eqU x) pl.isList (fun w hw=>qmc rx fx r fs w (by simpa using hw)) ⟨.bl _,H,I,rfl,?_⟩
  rw[show its.toArray.any (eqU x)=its.any (eqU x) by simp,qkj r fs]
  exact q
 ·obtain⟨its,r,pl,hz⟩:=I.tuple hq
  refine SeqAt.in_tupleAt (eqU x) pl (fun w hw=>qmc rx fx r fs w (by simpa using hw)) ⟨.bl _,H,I,rfl,?_⟩
  rw[show its.toArray.any (eqU x)=its.any (eqU x) by simp,qkj r fs]
  exact q
theorem qxe:Qdm X (.builtin "len") (fun xs H Q=>∃ p ys,xs=[.ref p]/\(SqL X.K H p ys\/SqT X.K H p ys)/\Q (.int ys.length) H):=by
 intro pins s σ H xs us Q I r h
 obtain⟨p,ys,rfl,hq,q⟩:=h
 obtain⟨u,rfl,rx⟩:=vals1 r
 cases rx
 have hn:=qi7
 rcases hq with hq|hq
 ·obtain⟨its,r',pl,hz⟩:=I.list hq
  have hlen:=r'.length
  exact Calls.call_len_list pl.isList (by simp only[J8]<;>omega) ⟨.int ys.length,H,I.tok _,⟨s.toks+1,by rw[J8,hlen]⟩,q⟩
 ·obtain⟨its,r',pl,hz⟩:=I.tuple hq
  have hlen:=r'.length
  exact len_tuple pl (by simp only[J8]<;>omega) ⟨.int ys.length,H,I.tok _,⟨s.toks+1,by rw[J8,hlen]⟩,q⟩
def tyV(K:PySem.W.Frag)(T:String)(x:V)(H:Hp): Prop:=match x with
 | .str _=>T = "str"
 | .int _=>T = "int"
 | .ref p=>(T = "list"/\∃ xs,SqL K H p xs)\/(T = "tuple"/\∃ o,K.lookup p=some o/\o.cls = .type "tuple"/\o.dict=none) \/
   (T = "dict"/\((∃ kvs,H p=some (.dK kvs))\/∃ kvs,H p=some (.dT kvs)))\/(T = "set"/\∃ S n,H p=some (.set S n))
 |_=>False
theorem tyV_is{pins:List (Addr×Obj)}{σ:St}{H:Hp}{s:Shared}{T:String}{x:V}{v:Value}(I:Inv X pins σ H s)(r:RelV x v)(ty:tyV X.K T x H):
  s.TypeIs v T/\∀ a,v = .ref a->∃ ob,s.heap.get? a=some ob/\ob.dict=none:=by
 cases x with
 | str z=>
   obtain⟨t,rfl⟩:=r
   cases (show T = "str" from ty)
   exact⟨typeIs_str s z t,fun _ e=>nomatch e⟩
 | int i=>
   obtain⟨t,rfl⟩:=r
   cases (show T = "int" from ty)
   exact⟨typeIs_int s i t,fun _ e=>nomatch e⟩
 | ref p=>
   cases r
   rcases ty with ⟨rfl,xs,hq⟩|⟨rfl,o,hk,hc,hd⟩|⟨rfl,hk⟩|⟨rfl,S,n,hk⟩
   ·obtain⟨its,_,pl,_⟩:=I.list hq
    refine⟨pl.isList.typeIs,fun a e=>?_⟩
    cases e
    obtain⟨o,n,e,c,hd,_⟩:=pl
    exact⟨o,e,hd⟩
   ·refine⟨⟨o,I.kIn p o hk,hc⟩,fun a e=>?_⟩
    cases e
    exact⟨o,I.kIn _ o hk,hd⟩
   ·have z:∃ o,s.heap.get? p=some o/\o.ExactDict:=by
     rcases hk with ⟨kvs,hk⟩|⟨kvs,hk⟩
     ·obtain⟨_,_,_,_,o,_,_,e,ex,_⟩:=I.hok p _ hk
      exact⟨o,e,ex⟩
     ·obtain⟨_,_,_,_,o,_,_,e,ex,_⟩:=I.hok p _ hk
      exact⟨o,e,ex⟩
    obtain⟨o,e,ex⟩:=z
    refine⟨⟨o,e,ex.1⟩,fun a e2=>?_⟩
    cases e2
    exact⟨o,e,ex.2.1⟩
   ·obtain⟨o,_,_,_,e,ex,_⟩:=I.hok p _ hk
    refine⟨⟨o,e,ex.1⟩,fun a e2=>?_⟩
    cases e2
    exact⟨o,e,ex.2.1⟩
 |_=>exact False.elim ty
def tBM(K:PySem.W.Frag)(T:String)(r:V->List V->Hp->VK->Prop)(to:TE)(t:TA): TE:=fun σ H Q=>to σ H fun x H1=>tyV K T x H1/\t σ H1 fun xs H2=>r x xs H2 Q
variable {o e:Expr} {es:List Expr} {to:TE} {t:TA} {name:Str} {apos cpos:Pos} {T id:String} {r:V->List V->Hp->VK->Prop}
theorem qbx(pa:PlainAttrs T)(slot:Slot T name id)(hty:typeOf (.builtin id)=pure (.type "method_descriptor"))(hm:MtR X id r)(ho:PE X o to)(ha:PA X (e::es) t)
  (hbase:attributeBase o name X.env (eval o X.env)=eval o X.env:=by rfl)
  (hfew:((backTo cpos (starEach (e::es) X.env)).all (fun x=>!x.1)&&(backToKw cpos (keywordEach [] X.env)).all (fun x=>x.1.isSome)
   && decide ((e::es).length+([]:List Keyword).length+(if ([]:List Keyword).isEmpty then 0 else 1)<30))=true:=by rfl)
  (hline:(apos.endLine==cpos.line)=true:=by rfl)(hs:starEach (e::es) X.env=(false,eval e X.env)::starEach es X.env:=by rfl)(hplain:(backTo cpos (starEach es X.env)).any (·.1)=false:=by rfl):
  PE X (.Call (.Attribute o name apos) (e::es) [] cpos) (tBM X.K T r to t):=by
 intro pins s σ H Q I h
 refine wpAny_Call_method_late hbase hfew hline rfl (thn (ho pins s σ H _ I h) fun v s1 ⟨x,H1,I1,r1,ty,q1⟩=>?_)
 obtain⟨h1,h2⟩:=tyV_is I1 r1 ty
 refine⟨T,id,pa,slot,hty,h1,h2,?_⟩
 have hA:=ha cpos pins s1 σ H1 _ I1 q1
 rw[hs] at hA ⊢
 refine Wy (by show (false ||(backTo cpos (starEach es X.env)).any (·.1))=false;rw[hplain]<;>rfl) (W6 ?_)
 exact thn hA fun us s2 ⟨vs,H2,I2,r2,q2⟩=>hm pins s2 σ H2 x vs v us Q I2 r1 r2 q2
end
def MtM(X:Cx)(id:String)(r:V->List V->Hp->VK->Prop): Prop:=
 ∀ (pins:List (Addr×Obj)) (s:Shared) (σ:St) (H:Hp) (x:V) (xs:List V) (v:Value) (us:List Value) (Q:VK),Inv X pins σ H s->RelV x v->Vals xs us->r x xs H Q ->
   wpAny (model X.prog X.w) X.A (call (.builtin id) (v::us)) (EP X pins σ Q) X.xe s
theorem Vals.one:∀ {x:V} {us:List Value},Vals [x] us->∃ u,us=[u]/\RelV x u
 |_,_,.cons r .nil=>⟨_,rfl,r⟩
theorem Vals.rep{xs:List V}{us:List Value}(h:Vals xs us): ∀ k:Nat,Vals (List.replicate k xs).flatten (List.replicate k us).flatten
 | 0=>.nil
 | k+1=>by
   rw[Wq,Wq,Zk,Zk]
   exact Vals.append h (Vals.rep h k)
theorem foldl_rep(its:List Value): ∀ (k:Nat) (acc:List Value),
  List.foldl (fun x1 x2=>x1++x2) acc.toArray (List.replicate k its.toArray)=(acc++(List.replicate k its).flatten).toArray
 | 0,acc=>by simp
 | k+1,acc=>by
   have e:acc.toArray++its.toArray=(acc++its).toArray:=by simp
   have e2:(acc++its)++(List.replicate k its).flatten=acc++(List.replicate (k+1) its).flatten:=by
    rw[Wq,Zk,Yv]
   rw[<- e2,<- foldl_rep its k (acc++its),<- e,Wq,List.foldl_cons]
section
variable {X:Cx} {pins:List (Addr×Obj)} {σ:St} {H:Hp} {s:Shared} {l b:Addr} {xs ys zs:List V}
theorem Inv.lset{its its':List Value}{n:Nat}{f:Array Value->Array Value}{t':Nat}(I:Inv X pins σ H s)(hH:H l=some (.lst xs))
  (e:s.heap.get? l=some { cls:=.type "list",data:=.seq its.toArray n })(hf:f its.toArray=its'.toArray)(hv:Vals ys its')(hz:ys.length<=sizeLine):
  Inv X pins σ (upd H l (.lst ys)) { s with heap:=s.heap.update l (Obj.mapSeq f),toks:=t' }:=by
 have q:=PySem.IsL.update e f
 rw[hf] at q
 refine I.write (x:=l) (e:=l) (by rw[hH];exact trivial) (.inl rfl) (fun b' u hb hu=>(Zq s.heap (Obj.mapSeq f) (Xb hb)).trans hu) ⟨_,q⟩ ?_
 exact⟨hz,its',_,hv,q⟩
theorem Inv.lnew{its:List Value}{t':Nat}(I:Inv X pins σ H s)(hv:Vals ys its)(hz:ys.length<=sizeLine):
  Inv X pins σ (upd H s.heap.objs.size (.lst ys)) { s with heap:=s.heap.push { cls:=.type "list",data:=.seq its.toArray },toks:=t' }:=
 I.laid (fun _ _ q=>Jb _ q) (Jp _) ⟨hz,its,0,hv,Js _ rfl⟩
theorem Inv.fresh(I:Inv X pins σ H s): H s.heap.objs.size=none:=I.hok.fresh (Jp _)
theorem Inv.qgb(I:Inv X pins σ H s)(hH:H l=some (.lst xs)): xs.length<=sizeLine/\∃ (its:List Value) (n:Nat),Vals xs its/\xs.length=its.length/\s.heap.get? l=some { cls:=.type "list",data:=.seq its.toArray n }:=by
 obtain⟨z,its,n,r,e⟩:=I.hok l _ hH
 exact⟨z,its,n,r,r.length,e⟩
theorem qq9{n:Nat}(h:n<=sizeLine): Builtin.List.listTooLong n=false:=by
 unfold Builtin.List.listTooLong
 exact J7 (by omega)
end
section
variable {X:Cx}
def qmy:V->List V->Hp->VK->Prop:=fun x vs H Q=>∃ l xs y,x = .ref l/\vs=[y]/\H l=some (.lst xs)/\xs.length<sizeLine/\Q .non (upd H l (.lst (xs++[y])))
theorem qc3:MtM X "list.append" qmy:=by
 intro pins s σ H x vs v us Q I rx rv h
 obtain⟨l,xs,y,rfl,rfl,hH,hz,q⟩:=h
 cases rx
 obtain⟨u,rfl,ru⟩:=rv.one
 obtain⟨z,its,n,r,hl,e⟩:=I.qgb hH
 refine call_meets F.slot_list_append ⟨_,e,rfl⟩ F.entry_list_append (F.args_list_append_2 _ _) (PySem.list_append l its.toArray n u (by rw[J8];omega)) ⟨e,?_⟩
 refine⟨.non,_,I.lset (its':=its++[u]) hH e (by simp) (r.append (.cons ru .nil)) ?_,rfl,q⟩
 rw[Jx,List.length_singleton]
 omega
def qmz:V->List V->Hp->VK->Prop:=fun x vs H Q=>∃ l b xs zs,x = .ref l/\vs=[.ref b]/\H l=some (.lst xs)/\H b=some (.lst zs)/\xs.length+zs.length<=sizeLine/\Q .non (upd H l (.lst (xs++zs)))
theorem qi8:MtM X "list.extend" qmz:=by
 intro pins s σ H x vs v us Q I rx rv h
 obtain⟨l,b,xs,zs,rfl,rfl,hH,hB,hz,q⟩:=h
 cases rx
 obtain⟨u,rfl,ru⟩:=rv.one
 cases ru
 obtain⟨z,its,n,r,hl,e⟩:=I.qgb hH
 obtain⟨z2,its2,n2,r2,hl2,e2⟩:=I.qgb hB
 have hsz:its.toArray.size+its2.toArray.size<=sizeLine:=by rw[J8,J8];omega
 have qlw:¬ (!its.toArray.isEmpty&&Builtin.List.listTooLong (its.toArray.size+its2.toArray.size))=true:=by
  rw[qq9 hsz,Qw]
  exact Jr
 refine call_meets F.slot_list_extend ⟨_,e,rfl⟩ F.entry_list_extend (F.args_list_extend_2 _ _)
  (AutoSeq1.list_extend_list_list_0 l its.toArray n b its2.toArray n2 qlw (by rw[J8];omega) (by omega)) ⟨e,e2,?_⟩
 refine⟨.non,_,I.lset (its':=its++its2) hH e (by simp) (r.append r2) ?_,rfl,q⟩
 rw[Jx]
 omega
def rCat:R2:=fun x y H Q=>∃ l b xs zs,x = .ref l/\y = .ref b/\H l=some (.lst xs)/\H b=some (.lst zs)/\xs.length+zs.length<=sizeLine/\∀ p,H p=none->Q (.ref p) (upd H p (.lst (xs++zs)))
theorem qhp:OpR X (binaryOp .Add) rCat:=by
 intro pins s σ H x y v u Q I rx ry h
 obtain⟨l,b,xs,zs,rfl,rfl,hH,hB,hz,q⟩:=h
 cases rx
 cases ry
 obtain⟨z,its,n,r,hl,e⟩:=I.qgb hH
 obtain⟨z2,its2,n2,r2,hl2,e2⟩:=I.qgb hB
 refine PySem.P.add_list e e2 ?_ (by rw[J8,J8];omega)
 have ea:its.toArray++its2.toArray=(its++its2).toArray:=by simp
 rw[ea]
 exact⟨.ref _,_,I.lnew (t':=s.toks) (r.append r2) (by rw[Jx];omega),rfl,q _ I.fresh⟩
def rRep:R2:=fun x y H Q=>∃ l k xs,x = .ref l/\y = .int k/\H l=some (.lst xs)/\-(2 ^ 63)<=k/\k<2 ^ 63/\xs.length*k.toNat<=sizeLine /\
 ∀ p,H p=none->Q (.ref p) (upd H p (.lst (List.replicate k.toNat xs).flatten))
theorem len_rep{α:Type}(xs:List α)(k:Nat): (List.replicate k xs).flatten.length=k*xs.length:=by
 induction k with
 |zero=>simp
 |succ k ih=>rw[Wq,Zk,Jx,ih,Nat.succ_mul,Nat.add_comm]
theorem qrd:OpR X (binaryOp .Mult) rRep:=by
 intro pins s σ H x y v u Q I rx ry h
 obtain⟨l,k,xs,rfl,rfl,hH,h1,h2,hz,q⟩:=h
 cases rx
 obtain⟨t,rfl⟩:=ry
 obtain⟨z,its,n,r,hl,e⟩:=I.qgb hH
 have hlen:its.toArray.size*k.toNat<=sizeLine:=by rw[J8,<- hl];exact hz
 have hcap:¬ its.toArray.size*k.toNat > (2 ^ 63-1) / 8:=by
  have:(sizeLine:Nat)<=(2 ^ 63-1) / 8:=by decide
  omega
 have hfit:¬ (!Builtin.List.listFitsIndex k)=true:=by
  rw[fitsIndex_both h1 h2]
  exact Jr
 have qlw:¬ Builtin.List.listTooLong (its.toArray.size*k.toNat)=true:=by
  rw[qq9 hlen]
  exact Jr
 have hnew:List.foldl (fun x1 x2=>x1++x2) #[] (List.replicate (if its.toArray.isEmpty=true then 0 else k.toNat) its.toArray)=(List.replicate k.toNat its).flatten.toArray:=by
  have f0:∀ m:Nat,List.foldl (fun x1 x2=>x1++x2) #[] (List.replicate m its.toArray)=(List.replicate m its).flatten.toArray:=fun m=>by
   have:=foldl_rep its m []
   rw[List.nil_append] at this
   exact this
  rw[f0]
  cases its with
  |nil=>simp
  |cons a r'=>rw[Jc (by simp)]
 refine wpAny_binaryOp_repeat_ref (T:= "list") (U:= "int") (by decide) ⟨_,e,rfl⟩ (fun s'=>typeIs_int s' k t) noFill_list_mul F.fills_int_mul F.slot_int_rmul repeat_list F.slot_int_index.lookup
  (call_meets F.slot_int_rmul (typeIs_int s k t) F.entry_int_rmul (F.args_int_rmul_2 _ _) (int___rmul___int_list k t l its.toArray n)
   ⟨e,rfl,⟨_,e,rfl⟩,call_meets F.slot_list_mul ⟨_,e,rfl⟩ F.entry_list_mul (F.args_list_mul_2 _ _) (AutoListH.list___mul___list_int_3 l its.toArray n k t hfit hcap qlw) ⟨e,?_⟩⟩)
 rw[hnew]
 exact⟨.ref _,_,I.lnew (t':=s.toks) (r.rep k.toNat) (by rw[len_rep,Nat.mul_comm];exact hz),rfl,q _ I.fresh⟩
end
theorem Vals.ints:∀ {ns:List Int} {us:List Value},Vals (ns.map V.int) us->IntsAre us ns
 | [],us,h=>by
   rw[Zv] at h
   cases h
   exact IntsAre.nil
 | n::ns,us,h=>by
   rw[Jq] at h
   cases h with
   | cons r t=>
     obtain⟨k,rfl⟩:=r
     exact IntsAre.cons n k (Vals.ints t)
theorem qnw:∀ {us:List Value} {ns:List Int},IntsAre us ns->Vals (ns.map V.int) us
 |_,_,.nil=>by rw[Zv];exact Paired.nil
 |_,_,.cons n t h=>by rw[Jq];exact Paired.cons (show RelV (V.int n) (Value.int n t) from ⟨t,rfl⟩) (qnw h)
theorem Vals.bls:∀ {bs:List Bool} {us:List Value},Vals (bs.map V.bl) us->us=bs.map Value.bool
 | [],us,h=>by
   rw[Zv] at h
   cases h
   rfl
 | b::bs,us,h=>by
   rw[Jq] at h
   cases h with
   | cons r t=>
     cases r
     rw[Vals.bls t,Jq]
theorem Vals.qgp{a:Addr}{us:List Value}(r:Vals [V.ref a] us): us=[Value.ref a]:=by
 cases r with
 | cons r t=>
   cases t
   cases r
   rfl
section
variable {prog:Program} {w:World} {A:Around} {E:Value->Shared->Prop} {s:Shared} {l:Addr} {its:List Value} {ns:List Int} {Q:Value->Shared->Prop}
theorem q9f(hh:A.handled=none)(hl:s.heap.IsList l its.toArray)(hi:IntsAre its ns)
  (h:∀ h' tk t',(∀ b o,s.heap.get? b=some o->h'.get? b=some o)->Q (.int ns.sum t') { s with heap:=h',toks:=tk }): wpAny (model prog w) A (call (.builtin "sum") [.ref l]) Q E s:=by
 obtain⟨xs,e⟩:=hi.allInts.items
 have hn:numsOf (intItems xs).toList=ns:=by rw[<- e];exact hi.numsOf
 rw[nums_intItems] at hn
 rw[e] at hl
 refine PySem.sum_intListG hh hl fun h' tk t' hk=>?_
 have:=h h' tk t' hk
 rw[preSum_eq,Wz (by simp),hn];exact this
end
section
variable {X:Cx}
def rSum(K:PySem.W.Frag): List V->Hp->VK->Prop:=fun vs H Q=>∃ (a:Addr) (ns:List Int),vs=[V.ref a]/\SqL K H a (ns.map V.int)/\Q (.int ns.sum) H
theorem qoy(hc:X.calm=true): Qdm X (.builtin "sum") (rSum X.K):=by
 intro pins s σ H vs us Q I r h
 obtain⟨a,ns,rfl,hs,q⟩:=h
 obtain⟨its,rv,hl,_⟩:=I.list hs
 rw[Vals.qgp r]
 exact q9f (I.ok.hd hc) hl.isList rv.ints fun h' tk t' hk=>⟨.int _,H,I.kept hk,⟨_,rfl⟩,q⟩
end
theorem qp7{prog:Program}{w:World}{A:Around}{E:Value->Shared->Prop}{s:Shared}{l:Addr}{items:Array Value}{Q:Value->Shared->Prop}(hl:s.heap.IsList l items)
  (h:∀ s₂:Shared,s₂={ s with heap:=s.heap.push { cls:=.type "list_iterator",data:=.fields #[.ref l,.int 0 0] } } ->
   (s₂.heap.IsListIter s.heap.objs.size l 0/\s₂.heap.IsList l items)->l≠s.heap.objs.size->Q (.ref s.heap.objs.size) s₂): wpAny (model prog w) A (pyIter (.ref l)) Q E s:=by
 have hlt:l<s.heap.objs.size:=by obtain⟨_,e,_⟩:=hl;exact Jl e
 exact Y6 hl (h _ rfl ⟨⟨_,Js _ rfl,rfl,rfl⟩,hl.push _⟩ (Xl hlt))
theorem qvi{prog:Program}{w:World}{A:Around}{bs:List Bool}{its:List Value}(e:its=bs.map Value.bool):
  TruthOf prog w A (fun i v=>its.toArray[i]?=some v) (fun i=>bs.getD i false):=fun i v s Q E hv hq=>by
 have hv':its[i]?=some v:=by simpa using hv
 rw[e,Jt] at hv'
 obtain⟨b,hb,rfl⟩:=Option.map_eq_some_iff.mp hv'
 have hg:bs.getD i false=b:=by rw[List.getD_eq_getElem?_getD,hb]<;>rfl
 have hq':Q (bs.getD i false) s:=hq
 rw[hg] at hq'
 exact Zz hq'
theorem any_range:∀ bs:List Bool,(List.range bs.length).any (fun i=>bs.getD i false)=bs.any id
 |[]=>rfl
 | b::bs=>by
   rw[Jz,List.range_succ_eq_map,Y4,List.any_map,Y4,<- any_range bs]
   all_goals rfl
theorem all_range:∀ bs:List Bool,(List.range bs.length).all (fun i=>bs.getD i false)=bs.all id
 |[]=>rfl
 | b::bs=>by
   rw[Jz,List.range_succ_eq_map,Qc,List.all_map,Qc,<- all_range bs]
   all_goals rfl
section
variable {X:Cx}
def rAny(K:PySem.W.Frag): List V->Hp->VK->Prop:=fun vs H Q=>∃ (a:Addr) (bs:List Bool),vs=[V.ref a]/\SqL K H a (bs.map V.bl)/\Q (.bl (bs.any id)) H
def rAll(K:PySem.W.Frag): List V->Hp->VK->Prop:=fun vs H Q=>∃ (a:Addr) (bs:List Bool),vs=[V.ref a]/\SqL K H a (bs.map V.bl)/\Q (.bl (bs.all id)) H
theorem cr_any(hc:X.calm=true): Qdm X (.builtin "any") (rAny X.K):=by
 intro pins s σ H vs us Q I r h
 obtain⟨a,bs,rfl,hs,q⟩:=h
 obtain⟨its,rv,hl,_⟩:=I.list hs
 rw[Vals.qgp r]
 have hb:=rv.bls
 refine call_any_walk (qp7 hl.isList fun s₂ e2 st hne=>?_)
 subst e2
 refine⟨_,_,_,_,_,_,_,rfl,Walks.list (A:=X.A.in1) (I.ok.hd hc) _ a hne its.toArray,st,qvi hb,fun h' tk hk=>?_⟩
 refine⟨.bl _,H,I.kept fun b o eo=>hk b o (fun hmem=>?_) (Jb _ eo),?_,q⟩
 ·rcases Jf.mp hmem with e1|hmem
  ·exact absurd (e1 ▸ Jl eo) (Yd _)
  ·cases hmem
 ·show Value.bool _=Value.bool _
  rw[<- any_range,hb,J8,Jd]
theorem qow(hc:X.calm=true): Qdm X (.builtin "all") (rAll X.K):=by
 intro pins s σ H vs us Q I r h
 obtain⟨a,bs,rfl,hs,q⟩:=h
 obtain⟨its,rv,hl,_⟩:=I.list hs
 rw[Vals.qgp r]
 have hb:=rv.bls
 refine call_all_walk (qp7 hl.isList fun s₂ e2 st hne=>?_)
 subst e2
 refine⟨_,_,_,_,_,_,_,rfl,Walks.list (A:=X.A.in1) (I.ok.hd hc) _ a hne its.toArray,st,qvi hb,fun h' tk hk=>?_⟩
 refine⟨.bl _,H,I.kept fun b o eo=>hk b o (fun hmem=>?_) (Jb _ eo),?_,q⟩
 ·rcases Jf.mp hmem with e1|hmem
  ·exact absurd (e1 ▸ Jl eo) (Yd _)
  ·cases hmem
 ·show Value.bool _=Value.bool _
  rw[<- all_range,hb,J8,Jd]
end
abbrev Qn5(h:Heap)(c:Addr)(v:Option Value): Prop:=h.IsCell c v
def relS(scope sc:Scope): Scope:=
 { scope with names:=scope.names.map fun (n,k)=>if (k == .free&&sc.kind == .function&&sc.names.lookup n==some .cell) then (n,.cell) else (n,k) }
def qa9(cells:List (Str×Addr)): List (Str×NameKind)->List (Str×Addr)->List (Str×Addr)
 |[],acc=>acc
 |(n,k)::r,acc=>if k == .free then qa9 cells r ((n,(cells.lookup n).getD 0)::acc) else qa9 cells r acc
theorem qou(env:Env)(f:Str×NameKind->List (Str×Addr)->Sem (ForInStep (List (Str×Addr))))
  (hf:∀ n k c,f (n,k) c=if k == .free then (do let a <- cellOf env n;pure (.yield ((n,a)::c))) else pure (.yield c)):
  ∀ (names:List (Str×NameKind)) (acc:List (Str×Addr)),(∀ y∈names,y.2 = .free->∃ c,env.cells.lookup y.1=some c)->forIn names acc f=pure (qa9 env.cells names acc)
 |[],acc,_=>by rw[Yk];rfl
 | (n,k)::r,acc,h=>by
   rw[Yl,hf]
   have ih:=fun acc=>qou env f hf r acc fun y hy=>h y (Jm _ hy)
   unfold qa9
   by_cases hk:(k==NameKind.free)=true
   ·rw[Je hk,Je hk]
    obtain⟨c,hc⟩:=h (n,k) Jh (by simpa using hk)
    have e:cellOf env n=pure c:=by unfold cellOf;rw[hc]
    rw[e]
    have e2:(env.cells.lookup n).getD 0=c:=by rw[hc];rfl
    rw[e2]
    exact ih _
   ·rw[Jc hk,Jc hk]
    exact ih _
theorem qxm{scope:Scope}{env:Env}(h:∀ y∈scope.names,y.2 = .free->∃ c,env.cells.lookup y.1=some c): closureFor scope env=pure (qa9 env.cells scope.names []):=by
 simp only[closureFor]
 rw[qou env _ (fun n k c=>rfl) scope.names [] h]
 rfl
theorem mem_lookup{α:Type}: ∀ {l:List (Str×α)} {n:Str} {c:α},(n,c)∈l->∃ c',l.lookup n=some c'
 | (k,v)::r,n,c,h=>by
   rw[X0]
   cases hb:n==k with
   |true=>exact⟨_,rfl⟩
   | false=>
     rcases Jf.mp h with e|h
     ·cases e;simp at hb
     ·exact mem_lookup h
theorem qir{cells:List (Str×Addr)}: ∀ {names:List (Str×NameKind)} {acc:List (Str×Addr)} {n:Str} {c:Addr},(n,c)∈qa9 cells names acc->(n,c)∈acc\/((n,.free)∈names/\c=(cells.lookup n).getD 0)
 |[],_,_,_,h=>.inl h
 | (m,k)::r,acc,n,c,h=>by
   unfold qa9 at h
   split at h
   ·rename_i hk
    have hk:k = .free:=by simpa using hk
    rcases qir h with h|⟨h1,h2⟩
    ·rcases Jf.mp h with e|h
     ·cases e;exact .inr ⟨hk ▸ Jh,rfl⟩
     ·exact .inl h
    ·exact .inr ⟨Jm _ h1,h2⟩
   ·rcases qir h with h|⟨h1,h2⟩
    ·exact .inl h
    ·exact .inr ⟨Jm _ h1,h2⟩
theorem qkz{cells:List (Str×Addr)}: ∀ {names:List (Str×NameKind)} {acc:List (Str×Addr)} {p:Str×Addr},p∈acc->p∈qa9 cells names acc
 |[],_,_,h=>h
 | (m,k)::r,acc,p,h=>by
   unfold qa9
   split
   ·exact qkz (Jm _ h)
   ·exact qkz h
theorem qk0{cells:List (Str×Addr)}: ∀ {names:List (Str×NameKind)} {acc:List (Str×Addr)} {n:Str},(n,.free)∈names->(n,(cells.lookup n).getD 0)∈qa9 cells names acc
 | (m,k)::r,acc,n,h=>by
   unfold qa9
   rcases Jf.mp h with e|h
   ·cases e
    exact qkz Jh
   ·split
    ·exact qk0 h
    ·exact qk0 h
theorem qhb:∀ {names:List (Str×NameKind)} {h:Heap} {acc:List (Str×Addr)} {x:Str} {c:Addr},(x,c)∈cellsFrom h.objs.size names acc ->
  (x,c)∈acc\/((x,.cell)∈names/\h.objs.size<=c/\Qn5 (pushCells h names) c none)
 |[],_,_,_,_,h=>.inl h
 | (n,k)::r,h,acc,x,c,hm=>by
   unfold cellsFrom at hm
   unfold pushCells
   split at hm
   ·rename_i hk
    rw[Je hk]
    have hk:k = .cell:=by simpa using hk
    rw[<- J6 h { cls:=.type "cell",data:=.cell none }] at hm
    rcases qhb hm with hm|⟨h1,h2,h3⟩
    ·rcases Jf.mp hm with e|hm
     ·cases e
      exact .inr ⟨hk ▸ Jh,Jp _,_,Qs r _ _ _ (Js _ rfl),rfl⟩
     ·exact .inl hm
    ·rw[J6] at h2
     exact .inr ⟨Jm _ h1,U4 h2,h3⟩
   ·rename_i hk
    rw[Jc hk]
    rcases qhb hm with hm|⟨h1,h2,h3⟩
    ·exact .inl hm
    ·exact .inr ⟨Jm _ h1,h2,h3⟩
theorem qip:∀ {names:List (Str×NameKind)} {n:Nat} {acc:List (Str×Addr)} {p:Str×Addr},p∈acc->p∈cellsFrom n names acc
 |[],_,_,_,h=>h
 | (m,k)::r,n,acc,p,h=>by
   unfold cellsFrom
   split
   ·exact qip (Jm _ h)
   ·exact qip h
theorem qkv:∀ {names:List (Str×NameKind)} {n:Nat} {acc:List (Str×Addr)} {x:Str},(x,.cell)∈names->∃ c,(x,c)∈cellsFrom n names acc
 | (m,k)::r,n,acc,x,h=>by
   unfold cellsFrom
   rcases Jf.mp h with e|h
   ·cases e
    exact⟨n,qip Jh⟩
   ·split
    ·exact qkv h
    ·exact qkv h
theorem qkw:∀ {names:List (Str×NameKind)} {h:Heap} {acc:List (Str×Addr)} {x y:Str} {c:Addr},(∀ p∈acc,p.2<h.objs.size)->(∀ x y c,(x,c)∈acc->(y,c)∈acc->x=y) ->
  (x,c)∈cellsFrom h.objs.size names acc->(y,c)∈cellsFrom h.objs.size names acc->x=y
 |[],_,_,_,_,_,_,hi,h1,h2=>hi _ _ _ h1 h2
 | (n,k)::r,h,acc,x,y,c,hl,hi,h1,h2=>by
   unfold cellsFrom at h1 h2
   split at h1
   ·rename_i hk
    rw[Je hk] at h2
    rw[<- J6 h { cls:=.type "cell",data:=.cell none }] at h1 h2
    refine qkw (h:=h.push _) (fun p hp=>?_) (fun x y c a b=>?_) h1 h2
    ·rw[J6]
     rcases Jf.mp hp with rfl|hp
     ·exact Qe _
     ·exact Wd (hl p hp)
    ·rcases Jf.mp a with e|a<;>rcases Jf.mp b with e'|b
     ·cases e;cases e';rfl
     ·cases e;exact absurd (hl _ b) (Yd _)
     ·cases e';exact absurd (hl _ a) (Yd _)
     ·exact hi _ _ _ a b
   ·rename_i hk
    rw[Jc hk] at h2
    exact qkw hl hi h1 h2
theorem q4d{M:Model}{A:Around}{E:Value->Shared->Prop}{s:Shared}{scope:Scope}{globals:Addr}{closure:List (Str×Addr)}{qual:Str}{func:Option Addr}{code:Value}{around:Env}{builtins:Addr}{Q:Env->Shared->Prop}
  (h:Q (newEnv scope s.heap.objs.size globals (cellsFrom (s.heap.objs.size+1) scope.names closure) qual func code (some around) builtins)
   { s with heap:=pushCells (s.heap.push { cls:=.type "dict",data:=.dict #[] }) scope.names }):
  wpAny M A (newFunctionEnv scope globals closure [] qual func code (some around) builtins) Q E s:=by
 simp only[newFunctionEnv,Option.isSome_some,Wh]
 refine Ja (wpAny_alloc ?_)
 refine Ja (wpAny_layCells _ (fun n k c=>rfl) scope.names closure _ _ ?_)
 rw[show ({ s with heap:=s.heap.push { cls:=.type "dict",data:=.dict #[] } }:Shared).heap.objs.size=s.heap.objs.size+1 from J6 ..]
 rw[Yk]
 exact Ja (Jg (Jg h))
theorem ql9{sc:Scope}: ∀ {names:List (Str×NameKind)} {x:Str} {k:NameKind},
  (names.map fun (n,k)=>if (k==NameKind.free&&sc.kind == .function&&sc.names.lookup n==some .cell) then (n,NameKind.cell) else (n,k)).lookup x=some k ->
  ∃ k',names.lookup x=some k'/\(k=k'\/(k' = .free/\k = .cell))
 |[],_,_,h=>by simp at h
 | (n,k₀)::r,x,k,h=>by
   have ih:=@ql9 sc r x k
   have h':List.lookup x ((if (k₀==NameKind.free&&sc.kind == .function&&sc.names.lookup n==some .cell)=true then (n,NameKind.cell) else (n,k₀))::(r.map _))=some k:=h
   cases hx:x==n with
   | true=>
     simp only[X0,hx]
     by_cases hc:(k₀==NameKind.free&&sc.kind == .function&&sc.names.lookup n==some .cell)=true
     ·rw[Je hc] at h'
      simp only[X0,hx] at h'
      cases h'
      simp only[Jw,Yq] at hc
      exact⟨k₀,rfl,.inr ⟨hc.1.1,rfl⟩⟩
     ·rw[Jc hc] at h'
      simp only[X0,hx] at h'
      cases h'
      exact⟨_,rfl,.inl rfl⟩
   | false=>
     simp only[X0,hx]
     by_cases hc:(k₀==NameKind.free&&sc.kind == .function&&sc.names.lookup n==some .cell)=true
     ·rw[Je hc] at h'
      simp only[X0,hx] at h'
      exact ih h'
     ·rw[Jc hc] at h'
      simp only[X0,hx] at h'
      exact ih h'
structure Qg8(N:List Str)(sc scope:Scope)(own:List (Str×Nat)): Prop where
 kind:scope.kind = .function
 uniq:∀ y∈scope.names,scope.names.lookup y.1=some y.2
 ix:∀ p∈own,N[p.2]?=some p.1
 free:∀ y∈scope.names,y.2 = .free->sc.names.lookup y.1=some .cell\/sc.names.lookup y.1=some .free
 own:∀ y∈scope.names,y.2 = .local\/y.2 = .cell->y.1∈own.map (·.1)\/y.1∉N
def wipe(σ:St): List Nat->St
 |[]=>σ
 |v::vs=>(wipe σ vs).set v none
theorem qn0(σ:St): ∀ vs:List Nat,(wipe σ vs).length=σ.length
 |[]=>rfl
 |v::vs=>by unfold wipe;rw[Ug,qn0 σ vs]
theorem qn1{σ:St}{i:Nat}{x:V}: ∀ {vs:List Nat},(wipe σ vs)[i]?=some (some x)->σ[i]?=some (some x)/\i∉vs
 |[],h=>⟨h,by simp⟩
 | v::vs,h=>by
   unfold wipe at h
   by_cases hi:v=i
   ·subst hi
    by_cases hv:v<(wipe σ vs).length
    ·rw[Zp hv] at h;cases h
    ·rw[Yn (by simpa using hv)] at h;cases h
   ·rw[Zy hi] at h
    obtain⟨h1,h2⟩:=qn1 h
    exact⟨h1,by simp only[Jf,not_or];exact⟨fun e=>hi e.symm,h2⟩⟩
abbrev Cx.blk(X:Cx)(s:Shared)(H:Hp)(scope:Scope)(cenv:Env)(fp:List Addr): Cx:={ X with s_0:=s,H_0:=H,env:=cenv,outer:=X.stack,ex:=fp,fn:=fun x=>scope.names.lookup x==some .cell,pn:=[],xe:=fun _ _=>False }
section
variable {X:Cx} {pins:List (Addr×Obj)} {σ:St} {H:Hp} {s:Shared}
theorem qwk{scope:Scope}{own:List (Str×Nat)}{fp:List Addr}(I:Inv X pins σ H s)(ok:Qg8 X.N X.env.scope scope own)(hN:X.N.Nodup)(hfp:∀ b∈fp,Qcs X pins H b/\b<s.heap.objs.size):
  Inv (X.blk s H scope (compEnvC scope (cellsFrom (s.heap.objs.size+1) scope.names (qa9 X.env.cells scope.names [])) s.heap.objs.size X.env) fp) [] (wipe σ (own.map (·.2))) H { s with heap:=pushCells (s.heap.push { cls:=.type "dict",data:=.dict #[] }) scope.names }:=by
 have hfree:∀ y∈scope.names,y.2 = .free->∃ c,X.env.cells.lookup y.1=some c:=fun y hy e=>by
  rcases ok.free y hy e with k|k
  ·exact I.ok.has _ (.inl k)
  ·exact I.ok.has _ (.inr k)
 generalize qhh:compEnvC scope (cellsFrom (s.heap.objs.size+1) scope.names (qa9 X.env.cells scope.names [])) s.heap.objs.size X.env=cenv
 have kp:∀ b o,s.heap.get? b=some o->(pushCells (s.heap.push { cls:=.type "dict",data:=.dict #[] }) scope.names).get? b=some o:=fun b o e=>Qs _ _ _ _ (Jb _ e)
 have hL:cenv.locals=s.heap.objs.size:=by rw[<- qhh];rfl
 have hcl:cenv.cells=cellsFrom (s.heap.objs.size+1) scope.names (qa9 X.env.cells scope.names []):=by rw[<- qhh];rfl
 have hsc:cenv.scope=relS scope X.env.scope:=by rw[<- qhh];rfl
 rw[<- J6 s.heap { cls:=.type "dict",data:=.dict #[] }] at hcl
 have cm:∀ {y c},(y,c)∈qa9 X.env.cells scope.names []->X.env.cells.lookup y=some c/\c<s.heap.objs.size:=fun {y c} hm=>by
  rcases qir hm with hm|⟨h1,rfl⟩
  ·cases hm
  ·obtain⟨c,hc⟩:=hfree _ h1 rfl
   rw[hc]
   obtain⟨w,z⟩:=I.cell _ _ hc
   exact⟨rfl,z.lt⟩
 have mem:∀ {y c},cenv.cells.lookup y=some c->(X.env.cells.lookup y=some c/\c<s.heap.objs.size)\/(s.heap.objs.size+1<=c/\Qn5 (pushCells (s.heap.push { cls:=.type "dict",data:=.dict #[] }) scope.names) c none):=fun {y c} e=>by
  rw[hcl] at e
  rcases qhb (Xx e) with hm|⟨_,h2,h3⟩
  ·exact .inl (cm hm)
  ·rw[J6] at h2;exact .inr ⟨h2,h3⟩
 have look:∀ {y},scope.names.lookup y=some .free->∃ c,cenv.cells.lookup y=some c/\X.env.cells.lookup y=some c:=fun {y} hl=>by
  have hy:(y,NameKind.free)∈scope.names:=Xx hl
  obtain⟨c',e'⟩:=mem_lookup (qip (names:=scope.names) (n:=(s.heap.push { cls:=.type "dict",data:=.dict #[] }).objs.size) (qk0 (cells:=X.env.cells) (acc:=[]) hy))
  rw[<- hcl] at e'
  refine⟨c',e',?_⟩
  rw[hcl] at e'
  rcases qhb (Xx e') with hm|⟨h1,_,_⟩
  ·exact(cm hm).1
  ·have:=ok.uniq _ h1
   rw[hl] at this;cases this
 have okB:(X.blk s H scope cenv fp).Ok:=by
  refine⟨I.ok.mod,by show cenv.scope.kind=_;rw[hsc];exact ok.kind,by show cenv.globals=_;rw[<- qhh];exact I.ok.glob,by show cenv.builtins=_;rw[<- qhh];exact I.ok.blt,by show s.heap.objs.size<=cenv.locals;rw[hL];exact Jp _,
   fun y z c e1 e2=>?_,fun y hy=>?_,fun y c z e=>?_,I.ok.hd,I.ok.frames,.inl rfl,fun b hb=>⟨?_,fun y c e z=>?_⟩,I.bs,Xd I.ok.bsz I.sz,fun b o e hb=>?_,fun b hb z=>?_,I.stack,I.qux⟩
  ·have e1:cenv.cells.lookup y=some c:=e1
   have e2:cenv.cells.lookup z=some c:=e2
   rw[hcl] at e1 e2
   refine qkw (fun p hp=>?_) (fun y z c a b=>I.ok.inj y z c (cm a).1 (cm b).1) (Xx e1) (Xx e2)
   rw[J6]
   exact Wd (cm (y:=p.1) (c:=p.2) hp).2
  ·show ∃ c,cenv.cells.lookup y=some c
   have key:∀ k,cenv.kindOf y=some k->(k = .cell\/k = .free)->∃ c,cenv.cells.lookup y=some c:=fun k hk hk'=>by
    unfold Env.kindOf at hk
    rw[hsc] at hk
    obtain⟨k',e,r⟩:=ql9 hk
    have:k' = .cell\/k' = .free:=by
     rcases r with rfl|⟨rfl,_⟩
     ·exact hk'
     ·exact .inr rfl
    rcases this with rfl|rfl
    ·obtain⟨c,hm⟩:=qkv (n:=(s.heap.push { cls:=.type "dict",data:=.dict #[] }).objs.size) (acc:=qa9 X.env.cells scope.names []) (Xx e)
     obtain⟨c',e'⟩:=mem_lookup hm
     exact⟨c',by rw[hcl];exact e'⟩
    ·obtain⟨c,h1,_⟩:=look e
     exact⟨c,h1⟩
   rcases hy with hy|hy
   ·exact key _ hy (.inl rfl)
   ·exact key _ hy (.inr rfl)
  ·have z:(scope.names.lookup y==some NameKind.cell)=true:=z
   have z:scope.names.lookup y=some .cell:=by simpa using z
   have e:cenv.cells.lookup y=some c:=e
   rw[hcl] at e
   rcases qhb (Xx e) with hm|⟨_,h2,_⟩
   ·rcases qir hm with hm|⟨h1,_⟩
    ·cases hm
    ·have q:=ok.uniq _ h1
     rw[z] at q;cases q
   ·rw[J6] at h2
    exact U4 h2
  ·show b≠cenv.locals
   rw[hL];exact Xl (hfp b hb).2
  ·have e:cenv.cells.lookup y=some c:=e
   rcases mem e with ⟨h1,_⟩|⟨h1,_⟩
   ·exact(hfp b hb).1.2.2.2.2.1 y c h1 z
   ·have h2:s.heap.objs.size+1<=b:=by rw[<- z];exact h1
    exact absurd (Xk (hfp b hb).2 (U4 h2)) (Yd _)
  ·rcases(hfp b hb).1.2.2.2.1 with z|z
   ·exact I.ok.noex b o e z
   ·exact absurd (Xk (Jl e) (Xd I.ok.bsz z)) (Yd _)
  ·rcases Jf.mp (I.qnm b z) with z|z
   ·exact(hfp b hb).1.2.1 z
   ·exact(hfp b hb).1.2.2.1 z
 refine⟨okB,rfl,I.bare,Un.kept kp,⟨fun _=>none,?_,fun i y av e1 e2 e3=>?_⟩,fun y c e=>?_,?_,fun y c e=>?_,fun p hp=>?_,I.hok.kept kp,by rw[qn0];exact I.len⟩
 ·show Heap.Ns _ cenv.locals _
  rw[hL]
  exact Heap.Ns.keeps (Heap.Ns.new ..) fun b o e=>Qs _ _ _ _ e
 ·obtain⟨e2,hne⟩:=qn1 e2
  have hfr:scope.names.lookup y=some .free/\(cenv.kindOf y=some .cell\/cenv.kindOf y=some .free):=by
   have key:∀ k,cenv.scope.names.lookup y=some k->k = .local\/k = .cell\/k = .free->scope.names.lookup y=some .free/\(cenv.kindOf y=some .cell\/cenv.kindOf y=some .free):=fun k hk hk'=>by
    have hk0:=hk
    rw[hsc] at hk
    obtain⟨k',e,r⟩:=ql9 hk
    have no:¬ (k' = .local\/k' = .cell):=fun hh=>by
     rcases ok.own _ (Xx e) hh with e'|e'
     ·obtain⟨p,hp,hpy⟩:=Jk.mp e'
      have e3:=ok.ix p hp
      have:p.1=y:=hpy
      rw[this] at e3
      exact hne (Jk.mpr ⟨p,hp,qmg hN e3 e1⟩)
     ·exact e' (J0 e1)
    rcases r with rfl|⟨rfl,rfl⟩
    ·rcases hk' with rfl|rfl|rfl
     ·exact absurd (.inl rfl) no
     ·exact absurd (.inr rfl) no
     ·exact⟨e,.inr hk0⟩
    ·exact⟨e,.inl hk0⟩
   have e3:Vis cenv.scope y:=e3
   rcases e3 with e3|e3|e3
   ·exact key _ e3 (.inl rfl)
   ·exact key _ e3 (.inr (.inl rfl))
   ·exact key _ e3 (.inr (.inr rfl))
  obtain⟨m,hn,hl⟩:=I.loc
  have hvis:Vis X.env.scope y:=(ok.free _ (Xx hfr.1) rfl).elim (fun k=>.inr (.inl k)) (fun k=>.inr (.inr k))
  obtain⟨w,r,q⟩:=hl i y av e1 e2 hvis
  refine⟨w,r,.inr ⟨hfr.2,?_⟩⟩
  obtain⟨c,h1,h2⟩:=look hfr.1
  rcases q with ⟨k,_⟩|⟨_,c',e',z⟩
  ·have k:X.env.scope.names.lookup y=some .local:=k
   rcases ok.free _ (Xx hfr.1) rfl with k'|k'<;>rw[show X.env.scope.names.lookup y=_ from k'] at k<;>cases k
  ·rw[h2] at e';cases e'
   exact⟨c,h1,z.keeps kp⟩
 ·have e:cenv.cells.lookup y=some c:=e
  rcases mem e with ⟨h1,_⟩|⟨_,z⟩
  ·obtain⟨w,z⟩:=I.cell y c h1
   exact⟨w,z.keeps kp⟩
  ·exact⟨_,z⟩
 ·show H cenv.locals=none
  rw[hL];exact I.hok.fresh (Jp _)
 ·have e:cenv.cells.lookup y=some c:=e
  rcases mem e with ⟨h1,_⟩|⟨h1,_⟩
  ·exact I.qcj y c h1
  ·exact I.hok.fresh (U4 h1)
 ·exact absurd (show p∈([]:List (Addr×Obj))++[] from hp) (by simp)
theorem app_ok{E:Value->Shared->Prop}{D:Addr}{xs:List V}{y:V}{v:Value}{Q:Value->Shared->Prop}(I:Inv X pins σ H s)(hD:H D=some (.lst xs))(hz:xs.length<sizeLine)(r:RelV y v)
  (h:∀ s',Inv X pins σ (upd H D (.lst (xs++[y]))) s'->Q .none s'): wpAny (model X.prog X.w) X.A (call (.builtin "list.append") [.ref D,v]) Q E s:=by
 obtain⟨hz',its,n,ri,e⟩:=I.hok D _ hD
 have hl:=ri.length
 refine append_at (hsz:=by rw[J8];omega) e fun h' sb ho'=>?_
 refine h { s with heap:=h' } (I.write (t':=s.toks) (by rw[hD];trivial) (.inl rfl) (fun b u hb q=>(sb.2 b hb).trans q) ⟨_,ho'⟩ ⟨by rw[Jx];exact hz,its++[v],n+1,ri.append (.cons r .nil),?_⟩)
 rw[ho']
 simp
def PTs(X:Cx)(ifs:List Expr)(t:TT): Prop:=
 ∀ (pins:List (Addr×Obj)) (s:Shared) (σ:St) (H:Hp) (Q:Bool->Hp->Prop),Inv X pins σ H s->t σ H Q ->
   wpAny (model X.prog X.w) X.A (forIn ifs true fun c r=>if r=true then do let ok <- isTrue c X.env (eval c X.env);pure (ForInStep.yield ok) else pure (ForInStep.yield r)) (TP X pins σ Q) X.xe s
def tYes:TT:=fun _ H Q=>Q true H
theorem qei:PTs X [] tYes:=fun _ _ _ H _ I h=>wpAny_tests_nil ⟨H,I,h⟩
theorem qe0{c:Expr}{t:TT}(h:PT X c t): PTs X [c] t:=fun pins s σ H Q I hw=>wpAny_tests_one (h pins s σ H Q I hw)
end
theorem qgy{α:Type}{t:Sem α}{Q Q':α->Shared->Prop}{M:Model}{A:Around}{E:Value->Shared->Prop}{s:Shared}(h:wpAny M A t Q (fun _ _=>False) s)(hQ:∀ a s,Q a s->Q' a s): wpAny M A t Q' E s:=Yw h hQ fun _ _ z=>False.elim z
theorem qxr{prog:Program}{w:World}{A:Around}{R:Result->Shared->Prop}{s:Shared}{elt target iter:Expr}{ifs:List Expr}{scope:Scope}{pos:Pos}{it acc:Value}{env:Env}(I:Nat->Shared->Prop)
  (turn:∀ n s,I n s->wpAny (model prog w) A (pyNext it) (fun r s₁=>match r with
   |none=>R (.ok .next) s₁
   |some v=>wpAny (model prog w) A (letOwnedTupleGo target it v) (fun _ s₁'=>wpAny (model prog w) A (assign target env v) (fun _ s₂=>
     wpAny (model prog w) A (forIn ifs true fun c r=>if r=true then do let ok <- isTrue c env (eval c env);pure (ForInStep.yield ok) else pure (ForInStep.yield r)) (fun ok s₃=>
      if ok=true then wpAny (model prog w) A (eval elt env) (fun x s₄=>
       wpAny (model prog w) A (call (.builtin "list.append") [acc,x]) (fun _ s₅=>∃ m,m<n/\I m s₅) (notedBy (model prog w) A env fun e s'=>R (.error e) s') s₄) (notedBy (model prog w) A env fun e s'=>R (.error e) s') s₃
      else ∃ m,m<n/\I m s₃) (notedBy (model prog w) A env fun e s'=>R (.error e) s') s₂) (notedBy (model prog w) A env fun e s'=>R (.error e) s') s₁') (notedBy (model prog w) A env fun e s'=>R (.error e) s') s₁) (notedBy (model prog w) A env fun e s'=>R (.error e) s') s)
  (n:Nat)(h:I n s):
  codeAny (model prog w) A (.compLoop (.ListComp elt [⟨target,iter,ifs,0⟩] scope pos) 0 it acc env) R s:=by
 refine codeAny_loop rfl I (fun n s hI=>?_) n h
 show wpAny _ A ((compTurn (.ListComp elt [⟨target,iter,ifs,0⟩] scope pos) 0 it acc env).onRaise (fun x=>do noteFrame x env;theTreesLotGoes x)) _ _ s
 refine wpAny_noted ?_
 rw[compTurn_list]
 refine Ja (wpAny_standAt (Ja (Yw (turn n s hI) (fun r s₁ h₁=>?_) fun _ _ h'=>h')))
 cases r with
 |none=>exact Jg h₁
 | some v=>
   refine Ja (Yw h₁ (fun _ s₁' h₁'=>?_) fun _ _ h'=>h')
   refine Ja (Yw h₁' (fun _ s₂ h₂=>Ja (Yw h₂ (fun ok s₃ h₃=>?_) fun _ _ h'=>h')) fun _ _ h'=>h')
   cases ok with
   |false=>exact Jg ⟨rfl,h₃⟩
   | true=>
     exact Ja (Ja (Yw h₃ (fun x s₄ h₄=>Ja (Yw h₄ (fun _ s₅ h₅=>Jg (Jg ⟨rfl,h₅⟩)) fun _ _ h'=>h')) fun _ _ h'=>h'))
section
variable {X:Cx}
def tLc(wi:TI)(g:TG)(tt:TT)(te:TE)(vs:List Nat): TE:=fun σ H Q=>wi σ H fun J H1=>∀ D,H1 D=none->∃ W:Nat->Nat->Hp->Prop,(∃ m,W 0 m (upd H1 D (.lst [])))/\∀ i m H,W i m H ->
 (J.stop i H/\Q (.ref D) H)\/(J.go i H/\∃ Nx:Hp->Prop,(∀ H',Nx H'->∃ m',m' < m/\W (i+1) m' H')/\∀ x H',J.yld i H x H'->g x (wipe σ vs) H' fun σ2 H2=>wipe σ2 vs=wipe σ vs/\tt σ2 H2 fun b H3=>
  if b=true then te σ2 H3 fun y H4=>∃ acc,H4 D=some (.lst acc)/\acc.length<sizeLine/\Nx (upd H4 D (.lst (acc++[y]))) else Nx H3)
theorem qqp{pins:List (Addr×Obj)}{s:Shared}{σ:St}{H:Hp}{Q:VK}{elt tg iter:Expr}{ifs:List Expr}{scope:Scope}{own:List (Str×Nat)}{pos pos':Pos}{wi:TI}{g:TG}{tt:TT}{te:TE}{use:Option (Value->Sem Unit)}{Qf:Value->Shared->Prop}
  (hc:X.calm=true)(hN:X.N.Nodup)(I:Inv X pins σ H s)(hi:PI X tg iter wi)(ok:Qg8 X.N X.env.scope scope own)
  (hg:∀ (s:Shared) (H:Hp) (C:Addr) (cl:List (Str×Addr)) (fp:List Addr),PG (X.blk s H scope (compEnvC scope cl C X.env) fp) tg g)(ht:∀ (s:Shared) (H:Hp) (C:Addr) (cl:List (Str×Addr)) (fp:List Addr),PTs (X.blk s H scope (compEnvC scope cl C X.env) fp) ifs tt)
  (he:∀ (s:Shared) (H:Hp) (C:Addr) (cl:List (Str×Addr)) (fp:List Addr),PE (X.blk s H scope (compEnvC scope cl C X.env) fp) elt te)(hs:∀ x,foldedSetIterable iter X.env x=pure x)
  (h:tLc wi g tt te (own.map (·.2)) σ H Q)
  (hRR:∀ D C s' m H',Inv X pins σ H' s'->Q (.ref D) H'->s'.heap.Ns C m->Qcs X pins H' C->compPost (model X.prog X.w) X.A X.xe use Qf (.ref D) C (.ok .next) s'):
  wpAny (model X.prog X.w) X.A (comprehension (.ListComp elt [⟨tg,iter,ifs,0⟩] scope pos) scope X.env pos' (newList []) false (eval iter X.env) use) Qf X.xe s:=by
 have hfree:∀ y∈scope.names,y.2 = .free->∃ c,X.env.cells.lookup y.1=some c:=fun y hy e=>by
  rcases ok.free y hy e with k|k
  ·exact I.ok.has _ (.inl k)
  ·exact I.ok.has _ (.inr k)
 refine wpAny_comprehension_free (use:=use) rfl hs (qxm hfree) ok.kind (fun y hy e=>by rw[ok.uniq y hy,e])
  (thn (hi pins s σ H _ I h) fun xv s1 hx=>thn hx fun itv s2 h2=>?_)
 obtain⟨it,fp,tn,J,H2,e,I2,T,st2,f2,q⟩:=h2
 subst e
 refine We (q4d ?_) (by show 0<=sizeLine;decide)
 generalize hD:s2.heap.objs.size=D
 have hDn:H2 D=none:=I2.hok.fresh (Qp hD)
 obtain⟨W,⟨m0,w0⟩,turn⟩:=q D hDn
 generalize hs3:({ s2 with heap:=s2.heap.push { cls:=.type "list",data:=.seq ([]:List Value).toArray } }:Shared)=s3
 have I3:Inv X pins σ (upd H2 D (.lst [])) s3:=by
  rw[<- hs3]
  refine I2.laid (t':=s2.toks) (fun b o e=>Jb _ e) (Qp hD) ⟨X3 _,[],0,.nil,?_⟩
  rw[<- hD]
  exact Js _ rfl
 have h3:s3.heap=s2.heap.push { cls:=.type "list",data:=.seq ([]:List Value).toArray }:=by rw[<- hs3]
 have sz:∀ b∈fp,b<s2.heap.objs.size:=fun b hb=>by
  obtain⟨o,e,_⟩:=T.obj _ _ st2 b hb
  exact Jl e
 have f3:∀ b∈fp,Qcs X pins (upd H2 D (.lst [])) b/\b<s3.heap.objs.size:=fun b hb=>by
  have hlt:=sz b hb
  refine⟨⟨?_,(f2 b hb).2⟩,by rw[h3,J6];exact Wd hlt⟩
  rw[qc (by rw[<- hD];exact Xl hlt)]
  exact(f2 b hb).1
 have st3:tn 0 s3.heap:=T.keep _ _ _ st2 fun b _ o e=>by rw[h3];exact Jb _ e
 have I4:=qwk I3 ok hN f3
 have pg:=hg s3 (upd H2 D (.lst [])) s3.heap.objs.size (cellsFrom (s3.heap.objs.size+1) scope.names (qa9 X.env.cells scope.names [])) fp
 have pt:=ht s3 (upd H2 D (.lst [])) s3.heap.objs.size (cellsFrom (s3.heap.objs.size+1) scope.names (qa9 X.env.cells scope.names [])) fp
 have pe:=he s3 (upd H2 D (.lst [])) s3.heap.objs.size (cellsFrom (s3.heap.objs.size+1) scope.names (qa9 X.env.cells scope.names [])) fp
 show codeAny _ _ (.compStart (.ListComp elt [⟨tg,iter,ifs,0⟩] scope pos) 0 (.ref it) (.ref D) (compEnvC scope (cellsFrom (s3.heap.objs.size+1) scope.names (qa9 X.env.cells scope.names [])) s3.heap.objs.size X.env)) (compPost (model X.prog X.w) X.A X.xe use Qf (.ref D) s3.heap.objs.size) { s3 with heap:=pushCells (s3.heap.push { cls:=.type "dict",data:=.dict #[] }) scope.names }
 have nfp:∀ b∈fp,(upd H2 D (.lst [])) b=none:=fun b hb=>(f3 b hb).1.1
 generalize hce:compEnvC scope (cellsFrom (s3.heap.objs.size+1) scope.names (qa9 X.env.cells scope.names [])) s3.heap.objs.size X.env=ce at I4 pg pt pe ⊢
 have cL:ce.locals=s3.heap.objs.size:=by subst hce;rfl
 generalize hH3:upd H2 D (.lst [])=H3 at I3 I4 pg pt pe w0 nfp f3
 generalize hs4:({ s3 with heap:=pushCells (s3.heap.push { cls:=.type "dict",data:=.dict #[] }) scope.names }:Shared)=s4 at I4 ⊢
 have st4:tn 0 s4.heap:=T.keep _ _ _ st3 fun b _ o e=>by rw[<- hs4];exact Qs _ _ _ _ (Jb _ e)
 have qfp:∀ {σ':St} {H':Hp} {s':Shared},Inv (X.blk s3 H3 scope ce fp) [] σ' H' s'->(∀ b∈fp,H' b=none)->∀ b∈fp,Qcs (X.blk s3 H3 scope ce fp) [] H' b:=fun {σ' H' s'} I' hn b hb=>
  ⟨hn b hb,(I'.ok.exf b hb).1,I'.ok.exfs b hb,.inl hb,fun x c e=>(I'.ok.exf b hb).2 x c e,fun p hp=>absurd (show p∈([]:List (Addr×Obj))++[] from hp) (by simp)⟩
 have loop:codeAny (model X.prog X.w) X.A (.compLoop (.ListComp elt [⟨tg,iter,ifs,0⟩] scope pos) 0 (.ref it) (.ref D) ce) (compPost (model X.prog X.w) X.A X.xe use Qf (.ref D) s3.heap.objs.size) s4:=by
  refine qxr (fun n s'=>∃ i H',Inv (X.blk s3 H3 scope ce fp) [] (wipe σ (own.map (·.2))) H' s'/\tn i s'.heap/\(∀ b∈fp,H' b=none)/\W i n H') ?_ m0 ⟨0,H3,I4,st4,nfp,w0⟩
  rintro n s5 ⟨i,H5,I5,st5,n5,w5⟩
  rcases turn i n H5 w5 with ⟨stop,qq⟩|⟨go,Nx,hNx,step⟩
  ·have td:=T.done (X.blk s3 H3 scope ce fp) rfl rfl rfl hc i [] s5 _ H5 (fun _ _=>False) I5 (qfp I5 n5) st5 stop
   refine qgy td fun r s6 ⟨hr,I6⟩=>?_
   subst hr
   have I7:Inv X pins σ H5 s6:=I3.call' (ch:=fp) I6.os I6.base I6.hok I6.bare fun b hb=>⟨(f3 b hb).1.2.2.2.1,(f3 b hb).1.2.1,(f3 b hb).1.2.2.2.2.1,(f3 b hb).1.2.2.2.2.2⟩
   have nC:H5 s3.heap.objs.size=none:=by
    have z:H5 ce.locals=none:=I6.free
    rw[cL] at z
    exact z
   obtain⟨m,hn,_⟩:=I6.loc
   have hn:s6.heap.Ns ce.locals m:=hn
   rw[cL] at hn
   exact hRR D s3.heap.objs.size s6 m H5 I7 qq hn (I3.qet (Jp _) nC)
  ·have ti:=T.item (X.blk s3 H3 scope ce fp) rfl rfl rfl hc i [] s5 _ H5 (fun _ _=>False) I5 (qfp I5 n5) st5 go
   refine qgy ti fun r s6 ⟨u,hr,h6⟩=>?_
   subst hr
   refine qgy h6 fun _ s7 ⟨x,H7,I7,r7,y7,st7,n7⟩=>?_
   have I7':=I7.pinned (qfp I7 n7) (T.obj _ _ st7)
   refine qgy (pg _ s7 _ H7 x u _ I7' r7 (step x H7 y7)) fun _ s8 ⟨σ8,H8,I8,hw8,q8⟩=>?_
   refine qgy (pt _ s8 σ8 H8 _ I8 q8) fun b s9 ⟨H9,I9,q9⟩=>?_
   have fin:∀ {s':Shared} {H':Hp},Inv (X.blk s3 H3 scope ce fp) ([]++qhv fp s7.heap) σ8 H' s'->Nx H'->∃ m,m<n/\∃ i H',Inv (X.blk s3 H3 scope ce fp) [] (wipe σ (own.map (·.2))) H' s'/\tn i s'.heap/\(∀ b∈fp,H' b=none)/\W i m H':=fun {s' H'} I' nx=>by
    obtain⟨m',hm,w'⟩:=hNx H' nx
    have pin':∀ b∈fp,∀ o,s7.heap.get? b=some o->s'.heap.get? b=some o/\H' b=none:=fun b hb o e=>
     let z:=I'.pin (b,o) (Ye _ (Ye _ (qmd hb e)))
     ⟨z.1,z.2.1⟩
    have hl:(wipe σ (own.map (·.2))).length=σ8.length:=by rw[<- hw8,qn0]
    refine⟨m',hm,i+1,H',(I'.qj8 (pins:=[])).weak hl (fun j v e=>?_),T.keep _ _ _ st7 fun b hb o e=>(pin' b hb o e).1,fun b hb=>?_,w'⟩
    ·rw[<- hw8] at e
     exact(qn1 e).1
    ·obtain⟨o,e,_⟩:=T.obj _ _ st7 b hb
     exact(pin' b hb o e).2
   cases b with
   | false=>
     simp only[Xr,X9] at q9 ⊢
     exact fin I9 q9
   | true=>
     simp only[Wh] at q9 ⊢
     refine qgy (pe _ s9 σ8 H9 _ I9 q9) fun z s10 ⟨yv,H10,I10,r10,acc,hD10,hz10,nx⟩=>?_
     exact app_ok (X:=X.blk s3 H3 scope ce fp) I10 hD10 hz10 r10 fun s11 I11=>fin I11 nx
 exact codeAny_compStart_list loop (T.self X.A 0 _ _ _ st4 loop)
theorem qdg{elt tg iter:Expr}{ifs:List Expr}{scope:Scope}{own:List (Str×Nat)}{pos:Pos}{wi:TI}{g:TG}{tt:TT}{te:TE}(hc:X.calm=true)(hN:X.N.Nodup)(hi:PI X tg iter wi)(ok:Qg8 X.N X.env.scope scope own)
  (hg:∀ (s:Shared) (H:Hp) (C:Addr) (cl:List (Str×Addr)) (fp:List Addr),PG (X.blk s H scope (compEnvC scope cl C X.env) fp) tg g)(ht:∀ (s:Shared) (H:Hp) (C:Addr) (cl:List (Str×Addr)) (fp:List Addr),PTs (X.blk s H scope (compEnvC scope cl C X.env) fp) ifs tt)
  (he:∀ (s:Shared) (H:Hp) (C:Addr) (cl:List (Str×Addr)) (fp:List Addr),PE (X.blk s H scope (compEnvC scope cl C X.env) fp) elt te)(hs:∀ x,foldedSetIterable iter X.env x=pure x:=by intro _;rfl):
  PE X (.ListComp elt [⟨tg,iter,ifs,0⟩] scope pos) (tLc wi g tt te (own.map (·.2))):=by
 intro pins s σ H Q I h
 rw[eval_ListComp]
 refine qqp hc hN I hi ok hg ht he hs h fun D C s' m H' I' q hn f=>⟨m,hn,fun h'' sb=>?_⟩
 obtain⟨f0,f1,f2,f3,f4,f5⟩:=f
 exact⟨.ref D,H',I'.turned (t':=s'.toks) (fun b o hb e=>(sb.2 b hb).trans e) f0 f1 f3 f4 f5,rfl,q⟩
theorem qgi{i:Nat}{y:Str}{py:Pos}{elt tg iter:Expr}{ifs:List Expr}{scope:Scope}{own:List (Str×Nat)}{pos spos:Pos}{wi:TI}{g:TG}{tt:TT}{te:TE}(hc:X.calm=true)(hN:X.N.Nodup)(hy:X.N[i]?=some y)(hyl:X.env.scope.names.lookup y=some .local)
  (hsw:swapsWith (.ListComp elt [⟨tg,iter,ifs,0⟩] scope pos) (some (.Name y py)) spos.line X.env=pure true)(hi:PI X tg iter wi)(ok:Qg8 X.N X.env.scope scope own)
  (hg:∀ (s:Shared) (H:Hp) (C:Addr) (cl:List (Str×Addr)) (fp:List Addr),PG (X.blk s H scope (compEnvC scope cl C X.env) fp) tg g)(ht:∀ (s:Shared) (H:Hp) (C:Addr) (cl:List (Str×Addr)) (fp:List Addr),PTs (X.blk s H scope (compEnvC scope cl C X.env) fp) ifs tt)
  (he:∀ (s:Shared) (H:Hp) (C:Addr) (cl:List (Str×Addr)) (fp:List Addr),PE (X.blk s H scope (compEnvC scope cl C X.env) fp) elt te)(hs:∀ x,foldedSetIterable iter X.env x=pure x:=by intro _;rfl):
  PS X (.Assign [.Name y py] (.ListComp elt [⟨tg,iter,ifs,0⟩] scope pos) spos) (qd1 (tLc wi g tt te (own.map (·.2))) (qb4 i)):=by
 intro pins s σ H D I h
 rw[exec_Assign_Name_used _ _ _ _ hsw]
 refine Ja (wpAny_standAt (Ja ?_))
 show wpAny _ X.A (do let _ <- comprehension (.ListComp elt [⟨tg,iter,ifs,0⟩] scope pos) scope X.env (firstIterPos [⟨tg,iter,ifs,0⟩] pos) (newList []) false (eval iter X.env) (some (assign (.Name y py) X.env))) _ _ s
 have h:tLc wi g tt te (own.map (·.2)) σ H (fun x H1=>qb4 i x σ H1 D.nx):=h
 refine Ja (thn (qqp (Qf:=fun _ s'=>SP X pins D .next s') hc hN I hi ok hg ht he hs h fun L C s' m H' I' q hn f=>?_) fun _ s' hq=>Jg (Jg hq))
 show wpAny _ _ (assign (.Name y py) X.env (.ref L)) _ _ _
 refine wpAny_assign_Name (quz (v:=V.ref L) I' hN hy (.inl hyl) rfl (fun s2 I2 ⟨a,sb,ha⟩=>?_) (.inr hyl))
 obtain⟨f0,f1,f2,f3,f4,f5⟩:=f
 have haC:C≠a:=by
  rcases ha with z|z
  ·rw[z];exact f1
  ·exact fun e=>f4 y a z e.symm
 refine⟨m,hn.sameBut sb haC,fun h3 sb3=>?_⟩
 exact⟨_,H',I2.turned (t':=s2.toks) (fun b o hb e=>(sb3.2 b hb).trans e) f0 f1 f3 f4 f5,q⟩
theorem qgx{elt:Expr}{gs:List Comprehension}{scope:Scope}{pos py:Pos}{y:Str}{l:Nat}{env:Env}(hk:env.scope.kind = .function)(hy:env.scope.names.lookup y=some .local)(hl:(py.line==pos.line)=true)
  (ha:(scope.names.any fun (n,k)=>n==y&&(k == .local ||k == .cell))=false): swapsWith (.ListComp elt gs scope pos) (some (.Name y py)) l env=pure true:=by
 have ky:env.kindOf y=some .local:=hy
 have hb:env.blockKind = .function:=by unfold Env.blockKind;rw[hk];rfl
 unfold swapsWith
 simp only[hb,ky,ha,Expr.pos,hl]
 rfl
end
def blkC(N:List Str)(sc scope:Scope)(own:List (Str×Nat)): Bool:=
 (match scope.kind with | .function=>true|_=>false)&&(scope.names.all fun y=>decide (scope.names.lookup y.1=some y.2))&&(own.all fun p=>decide (N[p.2]?=some p.1)) &&
  (scope.names.all fun y=>match y.2 with
   | .free=>(match sc.names.lookup y.1 with|some .cell=>true|some .free=>true|_=>false)
   | .local=>decide (y.1∈own.map (·.1)) ||decide (y.1∉N)
   | .cell=>decide (y.1∈own.map (·.1)) ||decide (y.1∉N)
   |_=>true)
theorem qwj{N:List Str}{sc scope:Scope}{own:List (Str×Nat)}(h:blkC N sc scope own=true): Qg8 N sc scope own:=by
 unfold blkC at h
 simp only[Jw,Wi,J9] at h
 obtain⟨⟨⟨h1,h2⟩,h3⟩,h4⟩:=h
 refine⟨?_,h2,h3,fun y hy e=>?_,fun y hy e=>?_⟩
 ·split at h1
  ·assumption
  ·cases h1
 ·have q:=h4 y hy
  simp only[e] at q
  split at q<;>first|exact .inl (by assumption)|exact .inr (by assumption)|cases q
 ·have q:=h4 y hy
  rcases e with e|e<;>(simp only[e,Bool.or_eq_true,J9] at q;exact q)
end L2
namespace L2
open PySem PySem.Spec PyProof.Rows
section
variable {κ:Type} [DecidableEq κ]
def kj(kvs:List (κ×V))(k:κ): Option V:=(kvs.find? fun kv=>decide (kv.1=k)).map (·.2)
def putK(kvs:List (κ×V))(k:κ)(v:V): List (κ×V):=
 if (kvs.any fun kv=>decide (kv.1=k))=true then kvs.map (fun kv=>if kv.1=k then (kv.1,v) else kv) else kvs++[(k,v)]
theorem qfs{p:κ×V}{r:List (κ×V)}{k:κ}(e:p.1=k): kj (p::r) k=some p.2:=by simp[kj,Yg,e]
theorem qfr{p:κ×V}{r:List (κ×V)}{k:κ}(e:¬ p.1=k): kj (p::r) k=kj r k:=by simp[kj,Yg,e]
theorem qg1(k:κ): ∀ kvs:List (κ×V),(kvs.any fun kv=>decide (kv.1=k))=(kj kvs k).isSome
 |[]=>rfl
 | p::r=>by
   rw[Y4]
   by_cases e:p.1=k
   ·simp only[qfs e,Xm e,Bool.true_or,Option.isSome_some]
   ·rw[qfr e,J7 e,Qy];exact qg1 k r
theorem qi6(kvs:List (κ×V))(k:κ)(v:V): (putK kvs k v).length<=kvs.length+1:=by
 unfold putK
 split
 ·rw[Jd];omega
 ·rw[Jx,Jz,Y3];omega
theorem Qb0.qhj{o:Option V}{u:Option Value}(r:Qb0 o u): o.isSome=u.isSome:=by
 cases o with
 | none=>cases u with
   |none=>rfl
   |some _=>exact(show False from r).elim
 | some _=>cases u with
   |none=>exact(show False from r).elim
   |some _=>rfl
theorem Qb0.getD{o:Option V}{u:Option Value}{d:V}{d':Value}(r:Qb0 o u)(rd:RelV d d'): RelV (o.getD d) (u.getD d'):=by
 cases o with
 | none=>cases u with
   |none=>exact rd
   |some _=>exact(show False from r).elim
 | some _=>cases u with
   |none=>exact(show False from r).elim
   |some _=>exact r
theorem KV.val{kvs:List (κ×V)}{vs:List (κ×Value)}(r:KV kvs vs)(k:κ): Qb0 (kj kvs k) (valueAt vs k):=by
 unfold KV at r
 induction r with
 |nil=>exact True.intro
 | @cons p q ps qs h t ih=>
   obtain⟨h1,h2⟩:=h
   by_cases e:p.1=k
   ·have e':q.1=k:=h1.symm.trans e
    have b:valueAt (q::qs) k=some q.2:=by simp[valueAt,Yg,e']
    rw[qfs e,b];exact h2
   ·have e':¬ q.1=k:=fun z=>e (h1.trans z)
    have b:valueAt (q::qs) k=valueAt qs k:=by simp[valueAt,Yg,e']
    rw[qfr e,b];exact ih
theorem KV.any{kvs:List (κ×V)}{vs:List (κ×Value)}(r:KV kvs vs)(k:κ): (kvs.any fun kv=>decide (kv.1=k))=vs.any fun kv=>decide (kv.1=k):=by
 unfold KV at r
 induction r with
 |nil=>rfl
 |cons h t ih=>rw[Y4,Y4,ih,h.1]
theorem KV.repl{kvs:List (κ×V)}{vs:List (κ×Value)}(r:KV kvs vs)(k:κ){y:V}{u:Value}(ry:RelV y u):
  KV (kvs.map fun kv=>if kv.1=k then (kv.1,y) else kv) (vs.map fun kv=>if kv.1=k then (kv.1,u) else kv):=by
 unfold KV at r ⊢
 induction r with
 |nil=>exact .nil
 | @cons p q ps qs h t ih=>
   rw[Jq,Jq]
   refine .cons ?_ ih
   obtain⟨h1,h2⟩:=h
   by_cases e:p.1=k
   ·rw[Je e,Je (h1.symm.trans e)];exact⟨h1,ry⟩
   ·rw[Jc e,Jc (fun z=>e (h1.trans z))];exact⟨h1,h2⟩
theorem KV.put{kvs:List (κ×V)}{vs:List (κ×Value)}(r:KV kvs vs)(k:κ){y:V}{u:Value}(ry:RelV y u): KV (putK kvs k y) (stored vs k u):=by
 unfold putK stored
 rw[r.any k]
 by_cases e:(vs.any fun kv=>decide (kv.1=k))=true
 ·rw[Je e,Je e];exact r.repl k ry
 ·rw[Jc e,Jc e];exact Paired.snoc r ⟨rfl,ry⟩
theorem KV.keys{kvs:List (κ×V)}{vs:List (κ×Value)}(r:KV kvs vs): kvs.map (·.1)=vs.map (·.1):=by
 unfold KV at r
 induction r with
 |nil=>rfl
 |cons h t ih=>rw[Jq,Jq,ih,h.1]
theorem KV.length{kvs:List (κ×V)}{vs:List (κ×Value)}(r:KV kvs vs): kvs.length=vs.length:=Zr r
end
theorem qdb{P:Program}{w:World}{k:Key}{u:Value}(r:RelV (kV k) u): (yc P w).is k u=true:=by
 cases k with
 |inl i=>obtain⟨t,e⟩:=(show ∃ t,u=Value.int i t from r);subst e;exact q3l P w i t
 |inr x=>obtain⟨t,e⟩:=(show ∃ t,u=Value.str x t from r);subst e;exact q3m P w x t
theorem qp6{P:Program}{w:World}: ∀ {ks:List Key} {us:List Value},Vals (ks.map kV) us->ItemsAre (yc P w) ks us
 |[],_,r=>by rw[Zv] at r;cases r;exact .nil
 | k::ks,_,r=>by
   rw[Jq] at r
   cases r with
   |cons h t=>exact .cons (qdb h) (qp6 t)
abbrev KT(H:Hp): List (List Key×V)->List (List Key×Addr×Value)->Prop:=Paired fun p q=>p.1=q.1/\H q.2.1=some (.tup (p.1.map kV))/\RelV p.2 q.2.2
theorem KT.val{H:Hp}{kvs:List (List Key×V)}{xs:List (List Key×Addr×Value)}(r:KT H kvs xs)(k:List Key): Qb0 (kj kvs k) ((atKey xs k).map (·.2)):=by
 induction r with
 |nil=>exact True.intro
 | @cons p q ps qs h t ih=>
   obtain⟨h1,_,h2⟩:=h
   by_cases e:p.1=k
   ·have e':q.1=k:=h1.symm.trans e
    have b:atKey (q::qs) k=some q.2:=by simp[atKey,Yg,e']
    rw[qfs e,b];exact h2
   ·have e':¬ q.1=k:=fun z=>e (h1.trans z)
    have b:atKey (q::qs) k=atKey qs k:=by simp[atKey,Yg,e']
    rw[qfr e,b];exact ih
theorem KT.repl{H:Hp}{kvs:List (List Key×V)}{xs:List (List Key×Addr×Value)}(r:KT H kvs xs)(k:List Key){y:V}{u:Value}(ry:RelV y u):
  KT H (kvs.map fun kv=>if kv.1=k then (kv.1,y) else kv) (xs.map (putAt k u)):=by
 induction r with
 |nil=>exact .nil
 | @cons p q ps qs h t ih=>
   rw[Jq,Jq]
   refine .cons ?_ ih
   obtain⟨h1,h2,h3⟩:=h
   unfold putAt
   by_cases e:p.1=k
   ·rw[Je e,Je (h1.symm.trans e)];exact⟨h1,h2,ry⟩
   ·rw[Jc e,Jc (fun z=>e (h1.trans z))];exact⟨h1,h2,h3⟩
theorem KT.put{H:Hp}{kvs:List (List Key×V)}{xs:List (List Key×Addr×Value)}(r:KT H kvs xs)(k:List Key){b:Addr}{y:V}{u:Value}(hb:H b=some (.tup (k.map kV)))(ry:RelV y u):
  KT H (putK kvs k y) (storedH xs k b u):=by
 have e:(kvs.any fun kv=>decide (kv.1=k))=(atKey xs k).isSome:=by
  rw[qg1,(r.val k).qhj,Wf]
 unfold putK storedH
 rw[e]
 by_cases q:(atKey xs k).isSome=true
 ·rw[Je q,Je q];exact r.repl k ry
 ·rw[Jc q,Jc q];exact Paired.snoc r ⟨rfl,hb,ry⟩
theorem KT.keeps{H H':Hp}{kvs:List (List Key×V)}{xs:List (List Key×Addr×Value)}(r:KT H kvs xs)(ht:∀ b ys,H b=some (.tup ys)->H' b=some (.tup ys)): KT H' kvs xs:=
 Paired.mapP r fun _ _ z=>⟨z.1,ht _ _ z.2.1,z.2.2⟩
section
variable {P:Program} {w:World} {H:Hp} {h:Heap} {a:Addr}
theorem rd_of{u:HO}(ok:HOk P w H h)(e:Rd H a u): Qaf P w H h a u:=e.ok ok
theorem qd7{kvs:List (Key×V)}(ok:HOk P w H h)(e:Rd H a (.dK kvs)): kvs.length<=sizeLine/\(a==sysModules)=false/\∃ vs,KV kvs vs/\h.DictOf (yc P w) a vs:=
 show Qaf P w H h a (.dK kvs) from rd_of ok e
theorem qhc{kvs:List (Key×V)}(ok:HOk P w H h)(e:H a=some (.dK kvs)): kvs.length<=sizeLine/\(a==sysModules)=false/\∃ vs,KV kvs vs/\h.DictOf (yc P w) a vs:=qd7 ok (.inl e)
theorem qff{ks:List Key}(ok:HOk P w H h)(e:H a=some (.tup (ks.map kV))): (tupleKind (yc P w)).is h ks a:=by
 obtain⟨_,its,r,o,h1,h2,n,h3⟩:=(show Qaf P w H h a (.tup (ks.map kV)) from ok a _ e)
 exact⟨o,its.toArray,n,h1,h2,h3,by simpa using qp6 r⟩
theorem qer{kvs:List (List Key×V)}(ok:HOk P w H h)(e:Rd H a (.dT kvs)): kvs.length<=sizeLine/\(a==sysModules)=false /\
  ∃ xs,KT H kvs xs/\h.DictOfH (tupleKind (yc P w)) a xs:=by
 obtain⟨z,y,xs,r,o,es,ep,h1,h2,h3,h4,h5⟩:=(show Qaf P w H h a (.dT kvs) from rd_of ok e)
 refine⟨z,y,xs,r,o,es,ep,h1,h2,h3,h4,fun x hx=>?_,h5⟩
 have all:∀ {l:List (List Key×V)} {m:List (List Key×Addr×Value)},KT H l m->∀ x∈m,(tupleKind (yc P w)).is h x.1 x.2.1:=by
  intro l m q
  induction q with
  |nil=>intro x hx;exact nomatch hx
  | @cons p q ps qs hq t ih=>
    intro x hx
    rcases Jf.mp hx with e|hx
    ·subst e
     exact qff ok (by rw[<- hq.1];exact hq.2.1)
    ·exact ih x hx
 exact all r x hx
theorem dt_of{kvs:List (List Key×V)}(ok:HOk P w H h)(e:H a=some (.dT kvs)): kvs.length<=sizeLine/\(a==sysModules)=false /\
  ∃ xs,KT H kvs xs/\h.DictOfH (tupleKind (yc P w)) a xs:=qer ok (.inl e)
end
def Qad(H:Hp)(a:Addr)(y:V)(r:Option V): Prop:=
 (∃ kvs k,Rd H a (.dK kvs)/\y=kV k/\r=kj kvs k)\/∃ kvs k b,Rd H a (.dT kvs)/\y = .ref b/\H b=some (.tup (k.map kV))/\r=kj kvs k
def Qd5(H:Hp)(a:Addr)(y v:V)(H':Hp): Prop:=
 (∃ kvs k,H a=some (.dK kvs)/\y=kV k/\kvs.length<sizeLine/\H'=upd H a (.dK (putK kvs k v))) \/
 ∃ kvs k b,H a=some (.dT kvs)/\y = .ref b/\H b=some (.tup (k.map kV))/\kvs.length<sizeLine/\H'=upd H a (.dT (putK kvs k v))
theorem Qad.k{H:Hp}{a:Addr}{kvs:List (Key×V)}{k:Key}(e:H a=some (.dK kvs)): Qad H a (kV k) (kj kvs k):=.inl ⟨kvs,k,.inl e,rfl,rfl⟩
theorem Qad.t{H:Hp}{a b:Addr}{kvs:List (List Key×V)}{k:List Key}(e:H a=some (.dT kvs))(eb:H b=some (.tup (k.map kV))): Qad H a (.ref b) (kj kvs k):=.inr ⟨kvs,k,b,.inl e,rfl,eb,rfl⟩
theorem Qd5.k{H:Hp}{a:Addr}{kvs:List (Key×V)}{k:Key}{v:V}(e:H a=some (.dK kvs))(hl:kvs.length<sizeLine): Qd5 H a (kV k) v (upd H a (.dK (putK kvs k v))):=.inl ⟨kvs,k,e,rfl,hl,rfl⟩
theorem Qd5.t{H:Hp}{a b:Addr}{kvs:List (List Key×V)}{k:List Key}{v:V}(e:H a=some (.dT kvs))(eb:H b=some (.tup (k.map kV)))(hl:kvs.length<sizeLine):
  Qd5 H a (.ref b) v (upd H a (.dT (putK kvs k v))):=.inr ⟨kvs,k,b,e,rfl,eb,hl,rfl⟩
section
variable {X:Cx} {pins:List (Addr×Obj)} {σ:St} {H:Hp} {s:Shared} {a:Addr} {y v:V} {u r:Value} {o:Option V} {A:Around} {E:Value->Shared->Prop}
theorem Inv.big(I:Inv X pins σ H s): sysModules<s.heap.objs.size:=by
 have h:mainGlobals<s.heap.objs.size:=(I.mod.glob.keeps I.bk).lt
 exact Nat.lt_trans (by decide) h
theorem qyu{Q:Value->Shared->Prop}(hu:A.units+1<cLine)(I:Inv X pins σ H s)(g:Qad H a y (some v))(ry:RelV y u)(h:∀ w' s',Inv X pins σ H s'->RelV v w'->Q w' s'):
  wpAny (model X.prog X.w) A (getItem (.ref a) u) Q E s:=by
 rcases g with ⟨kvs,k,e,ey,l⟩|⟨kvs,k,b,e,ey,eb,l⟩
 ·subst ey
  obtain⟨z,hd,vs,rel,dd⟩:=qd7 I.hok e
  obtain⟨w',hw,rw'⟩:=Qb0.some_of (v:=v) (o:=valueAt vs k) (by rw[l];exact rel.val k)
  exact wpAny_getItem_of (qdb ry) dd.mapOf hw (h w' _ (I.tok _) rw')
 ·subst ey
  cases (show u=Value.ref b from ry)
  obtain⟨z,hd,xs,rel,dd⟩:=qer I.hok e
  obtain⟨w',hw,rw'⟩:=Qb0.some_of (v:=v) (o:=(atKey xs k).map (·.2)) (by rw[l];exact rel.val k)
  obtain⟨p,hp,hp2⟩:=Option.map_eq_some_iff.mp hw
  refine wpAny_getItem_heap (Z6 hu) (qff I.hok eb) dd hp ?_
  rw[hp2]
  exact h w' _ (I.tok _) rw'
theorem d_in{Q:Value->Shared->Prop}(hu:A.units+1<cLine)(I:Inv X pins σ H s)(g:Qad H a y o)(ry:RelV y u)(h:∀ s',Inv X pins σ H s'->Q (.bool o.isSome) s'):
  wpAny (model X.prog X.w) A (compareOp .In u (.ref a)) Q E s:=by
 rcases g with ⟨kvs,k,e,ey,l⟩|⟨kvs,k,b,e,ey,eb,l⟩
 ·subst ey
  obtain⟨z,hd,vs,rel,dd⟩:=qd7 I.hok e
  refine wpAny_in_of (qdb ry) hd dd.mapOf ?_
  rw[<- (rel.val k).qhj,<- l]
  exact h _ (I.tok _)
 ·subst ey
  cases (show u=Value.ref b from ry)
  obtain⟨z,hd,xs,rel,dd⟩:=qer I.hok e
  refine wpAny_in_heap (Z6 hu) (qff I.hok eb) hd dd ?_
  have q:=(rel.val k).qhj
  rw[Wf] at q
  rw[<- q,<- l]
  exact h _ (I.tok _)
theorem qzd{Q:Value->Shared->Prop}(hu:A.units+1<cLine)(I:Inv X pins σ H s)(g:Qad H a y o)(ry:RelV y u)(h:∀ s',Inv X pins σ H s'->Q (.bool (!o.isSome)) s'):
  wpAny (model X.prog X.w) A (compareOp .NotIn u (.ref a)) Q E s:=by
 rcases g with ⟨kvs,k,e,ey,l⟩|⟨kvs,k,b,e,ey,eb,l⟩
 ·subst ey
  obtain⟨z,hd,vs,rel,dd⟩:=qd7 I.hok e
  refine wpAny_notIn_of (qdb ry) hd dd.mapOf ?_
  rw[<- (rel.val k).qhj,<- l]
  exact h _ (I.tok _)
 ·subst ey
  cases (show u=Value.ref b from ry)
  obtain⟨z,hd,xs,rel,dd⟩:=qer I.hok e
  refine wpAny_notIn_heap (Z6 hu) (qff I.hok eb) hd dd ?_
  have q:=(rel.val k).qhj
  rw[Wf] at q
  rw[<- q,<- l]
  exact h _ (I.tok _)
theorem qis{h':Heap}{t':Nat}{ob:HO}(I:Inv X pins σ H s)(mu:Mut (H a))(hs:Heap.SameBut a s.heap h')(he:∃ q,h'.get? a=some q)(new:Qaf X.prog X.w (upd H a ob) h' a ob):
  Inv X pins σ (upd H a ob) { s with heap:=h',toks:=t' }:=
 I.write (x:=a) (e:=a) mu (.inl rfl) (fun b q hb z=>(hs.2 b hb).trans z) he new
theorem qlm{P:Program}{w:World}{H':Hp}{h':Heap}{kvs:List (Key×V)}{vs:List (Key×Value)}(z:kvs.length<=sizeLine)(hd:(a==sysModules)=false)(rel:KV kvs vs)(dd:h'.DictOf (yc P w) a vs):
  Qaf P w H' h' a (.dK kvs):=⟨z,hd,vs,rel,dd⟩
theorem qzo{H':Hp}{Q:Unit->Shared->Prop}(hu:A.units+1<cLine)(I:Inv X pins σ H s)(g:Qd5 H a y v H')(ry:RelV y u)(rv:RelV v r)(h:∀ s',Inv X pins σ H' s'->Q () s'):
  wpAny (model X.prog X.w) A (setItem (.ref a) u r) Q E s:=by
 rcases g with ⟨kvs,k,e,ey,l,eH⟩|⟨kvs,k,b,e,ey,eb,l,eH⟩
 ·subst ey eH
  obtain⟨z,hd,vs,rel,dd⟩:=qhc I.hok e
  have hz:vs.length<=sizeLine:=by rw[<- rel.length];exact z
  have hl:(putK kvs k v).length<=sizeLine:=by have:=qi6 kvs k v;omega
  refine wpAny_setItem_pairs (hsz:=hz) (qdb ry) dd fun h' dd' hs=>h _ ?_
  have he:∃ q,h'.get? a=some q:=let ⟨q,_,_,hq,_⟩:=dd';⟨q,hq⟩
  exact qis I (by rw[e];exact True.intro) hs he (qlm hl hd (rel.put k rv) dd')
 ·subst ey eH
  cases (show u=Value.ref b from ry)
  obtain⟨z,hd,xs,rel,dd⟩:=dt_of I.hok e
  have hz:xs.length<=sizeLine:=by rw[<- Zr rel];exact z
  have hl:(putK kvs k v).length<=sizeLine:=by have:=qi6 kvs k v;omega
  refine wpAny_setItem_heap (hsz:=hz) (Z6 hu) (qff I.hok eb) dd fun h' dd' hs=>h _ ?_
  obtain⟨q,es,ep,hq,h2,h3,h4,_,h5⟩:=dd'
  refine qis I (by rw[e];exact True.intro) hs ⟨q,hq⟩ ⟨hl,hd,_,(rel.put k eb rv).keeps fun c ys ec=>?_,q,es,ep,hq,h2,h3,h4,h5⟩
  rw[qc (ne_of ec e (fun z=>nomatch z))]
  exact ec
end
section
variable {X:Cx} {pins:List (Addr×Obj)} {σ:St} {H:Hp} {s:Shared} {a:Addr} {kvs:List (Key×V)} {k:Key} {u:Value} {A:Around} {E:Value->Shared->Prop}
theorem d_len{Q:Value->Shared->Prop}(I:Inv X pins σ H s)(e:Rd H a (.dK kvs))(h:∀ t s',Inv X pins σ H s'->Q (.int kvs.length t) s'): wpAny (model X.prog X.w) A (call (.builtin "len") [.ref a]) Q E s:=by
 obtain⟨z,hd,vs,rel,dd⟩:=qd7 I.hok e
 refine call_len_dict hd dd (by rw[<- rel.length];rw[sizeLine_eq] at z;omega) ?_
 rw[<- rel.length]
 exact h _ _ (I.tok _)
end
def NoSl(i:Expr): Prop:=∀ ov iv,subscripted i false ov iv=operate [ov,iv] (getItem ov iv)
theorem qu0{prog:Program}{w:World}{A:Around}{E:Value->Shared->Prop}{s:Shared}{env:Env}{value slice:Expr}{pos:Pos}{T id:String}{Q:Value->Shared->Prop}
  (hl:typeLookup (.type T) "__getitem__" = pure (some (.builtin id)))(hs:NoSl slice)
  (h:wpAny (model prog w) A (eval value env) (fun o s₁=>wpAny (model prog w) A (eval slice env) (fun i s₂=>s₂.TypeIs o T/\wpAny (model prog w) A (getItem o i) Q E s₂) E s₁) E s):
  wpAny (model prog w) A (eval (.Subscript value slice pos) env) Q E s:=by
 refine Subscript_ (Yw h (fun o s₁ h₁=>Yw h₁ (fun i s₂ h₂=>?_) fun _ _ x=>x) fun _ _ x=>x)
 obtain⟨hT,h₂⟩:=h₂
 unfold subscriptTail
 refine Ja ?_
 rw[getitemInPython_of_ne hT.not_modules]
 refine Ja (wpAny_specialOf hT hl ?_)
 have fin:wpAny (model prog w) A (subscripted slice false o i) (fun r s₃=>wpAny (model prog w) A (letTemporaryGo value o r >>= fun _=>pure r) Q E s₃) E s₂:=by
  rw[hs o i]
  exact wpAny_operating (Yw h₂ (fun r s₃ h₃=>Ja (wpAny_letTemporaryGo (Jg h₃))) fun _ _ x=>x)
 first
  |exact Jg (Ja fin)
  |exact Ja (Jg (Ja fin))
  |exact Ja fin
theorem qz7{X:Cx}{pins:List (Addr×Obj)}{σ:St}{H:Hp}{s:Shared}{a:Addr}{y:V}{o:Option V}(I:Inv X pins σ H s)(g:Qad H a y o): s.TypeIs (.ref a) "dict":=by
 rcases g with ⟨kvs,k,e,_,_⟩|⟨kvs,k,b,e,_,_,_⟩
 ·obtain⟨_,_,vs,_,dd⟩:=qd7 I.hok e
  exact dd.typeIs
 ·obtain⟨_,_,xs,_,dd⟩:=qer I.hok e
  exact dd.typeIs
def qd2(td ty:TE): TE:=fun σ H Q=>td σ H fun x H1=>ty σ H1 fun y H2=>∃ a v,x = .ref a/\Qad H2 a y (some v)/\Q v H2
def tDIn(ty td:TE): TE:=fun σ H Q=>ty σ H fun y H1=>td σ H1 fun x H2=>∃ a o,x = .ref a/\Qad H2 a y o/\Q (.bl o.isSome) H2
def qu8(ty td:TE): TE:=fun σ H Q=>ty σ H fun y H1=>td σ H1 fun x H2=>∃ a o,x = .ref a/\Qad H2 a y o/\Q (.bl (!o.isSome)) H2
def qm2(td ty tv:TE): TS:=fun D σ H=>tv σ H fun v H1=>td σ H1 fun x H2=>ty σ H2 fun y H3=>∃ a H4,x = .ref a/\Qd5 H3 a y v H4/\D.nx σ H4
section
variable {X:Cx} {o i e value:Expr} {pos pos' tpos:Pos} {td ty tv:TE}
theorem q4s(hu:X.A.units+1<cLine)(ho:PE X o td)(hi:PE X i ty)(hs:NoSl i): PE X (.Subscript o i pos) (qd2 td ty):=by
 intro pins s σ H Q I h
 refine qu0 PySem.F.slot_dict_getitem.lookup hs (thn (ho pins s σ H _ I h) fun u s1 ⟨x,H1,I1,rx,q1⟩=>thn (hi pins s1 σ H1 _ I1 q1) fun iv s2 ⟨y,H2,I2,ry,a,v,ex,g,q2⟩=>?_)
 subst ex
 obtain rfl:u=Value.ref a:=rx
 exact⟨qz7 I2 g,qyu hu I2 g ry fun w' s3 I3 rw'=>⟨v,H2,I3,rw',q2⟩⟩
theorem qje(hu:X.A.units+1<cLine)(hi:PE X i ty)(ho:PE X o td): PC X .In i o (tDIn ty td):=by
 intro pins s σ H Q I h
 refine thn (hi pins s σ H _ I h) fun iv s1 ⟨y,H1,I1,ry,q1⟩=>thn (ho pins s1 σ H1 _ I1 q1) fun u s2 ⟨x,H2,I2,rx,a,ov,ex,g,q2⟩=>?_
 subst ex
 obtain rfl:u=Value.ref a:=rx
 exact d_in hu I2 g ry fun s3 I3=>⟨.bl ov.isSome,H2,I3,rfl,q2⟩
theorem qmn(hu:X.A.units+1<cLine)(hi:PE X i ty)(ho:PE X o td): PC X .NotIn i o (qu8 ty td):=by
 intro pins s σ H Q I h
 refine thn (hi pins s σ H _ I h) fun iv s1 ⟨y,H1,I1,ry,q1⟩=>thn (ho pins s1 σ H1 _ I1 q1) fun u s2 ⟨x,H2,I2,rx,a,ov,ex,g,q2⟩=>?_
 subst ex
 obtain rfl:u=Value.ref a:=rx
 exact qzd hu I2 g ry fun s3 I3=>⟨.bl (!ov.isSome),H2,I3,rfl,q2⟩
theorem qmu(hu:X.A.units+1<cLine)(ho:PE X o td)(hi:PE X i ty)(hv:PE X value tv)(hs:swapsWith value (some (.Subscript o i pos')) pos.line X.env=pure false):
  PS X (.Assign [.Subscript o i pos'] value pos) (qm2 td ty tv):=by
 intro pins s σ H D I h
 refine wpAny_Assign_Subscript (thn (hv pins s σ H _ I h) fun r s1 ⟨v,H1,I1,rv,q1⟩=>thn (ho pins s1 σ H1 _ I1 q1) fun u s2 ⟨x,H2,I2,rx,q2⟩=>thn (hi pins s2 σ H2 _ I2 q2) fun iv s3 ⟨y,H3,I3,ry,a,H4,ex,g,q3⟩=>?_) hs
 subst ex
 obtain rfl:u=Value.ref a:=rx
 exact qzo hu I3 g ry rv fun s4 I4=>⟨σ,H4,I4,q3⟩
end
theorem qo7{P:Program}{w:World}{H:Hp}(h:Heap)(hb:sysModules<h.objs.size): Qaf P w H (h.push { cls:=.type "dict",data:=.dict #[] }) h.objs.size (.dK []):=
 ⟨X3 _,Yu.mpr (Xb (Xl hb)),[],.nil,Heap.DictOf.new h⟩
theorem qz9{P:Program}{w:World}{H:Hp}(h:Heap)(hb:sysModules<h.objs.size): Qaf P w H (h.push { cls:=.type "dict",data:=.dict #[] }) h.objs.size (.dT []):=
 ⟨X3 _,Yu.mpr (Xb (Xl hb)),[],.nil,_,#[],0,Js _ rfl,⟨rfl,rfl,rfl⟩,rfl,rfl,Yb⟩
def qu6:TE:=fun _ H Q=>∀ p,H p=none->Q (.ref p) (upd H p (.dK []))
def qu7:TE:=fun _ H Q=>∀ p,H p=none->Q (.ref p) (upd H p (.dT []))
section
variable {X:Cx} {pos:Pos}
theorem qge:PE X (.Dict [] [] pos) qu6:=fun pins s σ H Q I h=>
 wpAny_Dict_empty ⟨.ref s.heap.objs.size,_,I.laid (a:=s.heap.objs.size) (o:=.dK []) (t':=s.toks) (fun _ _ q=>Jb _ q) (Jp _) (qo7 s.heap I.big),rfl,h _ (I.hok.fresh (Jp _))⟩
theorem q4w:PE X (.Dict [] [] pos) qu7:=fun pins s σ H Q I h=>
 wpAny_Dict_empty ⟨.ref s.heap.objs.size,_,I.laid (a:=s.heap.objs.size) (o:=.dT []) (t':=s.toks) (fun _ _ q=>Jb _ q) (Jp _) (qz9 s.heap I.big),rfl,h _ (I.hok.fresh (Jp _))⟩
end
def qnr:List (TE×TE)->St->Hp->(List (V×V)->Hp->Prop)->Prop
 |[],_,H,Q=>Q [] H
 |(tk,tv)::r,σ,H,Q=>tk σ H fun x H1=>tv σ H1 fun y H2=>qnr r σ H2 fun ps H3=>Q ((x,y)::ps) H3
abbrev VV:List (V×V)->List (Value×Value)->Prop:=Paired fun p q=>RelV p.1 q.1/\RelV p.2 q.2
def PPs(X:Cx)(pos:Pos)(keys:List (Option Expr))(values:List Expr)(trs:List (TE×TE)): Prop:=
 ∀ (pins:List (Addr×Obj)) (s:Shared) (σ:St) (H:Hp) (Q:List (V×V)->Hp->Prop),Inv X pins σ H s->qnr trs σ H Q ->
   wpAny (model X.prog X.w) X.A (evalPairs (pairTrees keys values X.env pos)) (fun vs s'=>∃ ps H',Inv X pins σ H' s'/\VV ps vs/\Q ps H') X.xe s
theorem q5e{X:Cx}{pos:Pos}: PPs X pos [] [] []:=fun pins s σ H Q I h=>pairTrees_nil_walk ⟨[],H,I,.nil,h⟩
theorem q5d{X:Cx}{pos:Pos}{k v:Expr}{ks:List (Option Expr)}{vs:List Expr}{tk tv:TE}{trs:List (TE×TE)}(hk:PE X k tk)(hv:PE X v tv)(hr:PPs X pos ks vs trs):
  PPs X pos (some k::ks) (v::vs) ((tk,tv)::trs):=fun pins s σ H Q I h=>
 pairTrees_cons_walk (thn (hk pins s σ H _ I h) fun u s1 ⟨x,H1,I1,rx,q1⟩=>thn (hv pins s1 σ H1 _ I1 q1) fun w2 s2 ⟨y,H2,I2,ry,q2⟩=>
  thn (hr pins s2 σ H2 _ I2 q2) fun ws s3 ⟨ps,H3,I3,rel,q3⟩=>⟨(x,y)::ps,H3,I3,.cons ⟨rx,ry⟩ rel,q3⟩)
def qc2(kvs more:List (Key×V)): List (Key×V):=more.foldl (fun acc kv=>putK acc kv.1 kv.2) kvs
theorem KV.merge:∀ {more:List (Key×V)} {rs:List (Key×Value)} {kvs:List (Key×V)} {vs:List (Key×Value)},KV more rs->KV kvs vs->KV (qc2 kvs more) (merged vs rs):=by
 intro more rs kvs vs r
 unfold KV at r
 induction r generalizing kvs vs with
 |nil=>intro q;exact q
 | @cons p q ps qs h t ih=>
   intro r0
   have e:KV (putK kvs p.1 p.2) (stored vs q.1 q.2):=by
    have:=r0.put p.1 h.2
    rw[<- h.1];exact this
   exact ih e
theorem ql7:∀ (more kvs:List (Key×V)),(qc2 kvs more).length<=kvs.length+more.length
 |[],kvs=>by show kvs.length<=kvs.length+0;omega
 | p::r,kvs=>by
   have h1:=ql7 r (putK kvs p.1 p.2)
   have h2:=qi6 kvs p.1 p.2
   show (qc2 (putK kvs p.1 p.2) r).length<=_
   rw[Jz];omega
theorem qor{P:Program}{w:World}: ∀ {kvs:List (Key×V)} {ws:List (Value×Value)},VV (kvs.map fun kv=>(kV kv.1,kv.2)) ws->∃ rs,Carries (yc P w) ws rs/\KV kvs rs
 |[],_,r=>by rw[Zv] at r;cases r;exact⟨[],True.intro,.nil⟩
 | p::kvs,_,r=>by
   rw[Jq] at r
   cases r with
   | @cons a b as bs h t=>
     obtain⟨rs,c,q⟩:=qor (P:=P) (w:=w) t
     obtain⟨b1,b2⟩:=b
     exact⟨(p.1,b2)::rs,⟨qdb h.1,rfl,c⟩,.cons ⟨rfl,h.2⟩ q⟩
def tDisp(trs:List (TE×TE)): TE:=fun σ H Q=>∀ p,H p=none->qnr trs σ (upd H p (.dK [])) fun ps H2=>H2 p=some (.dK [])/\∃ kvs:List (Key×V),ps=kvs.map (fun kv=>(kV kv.1,kv.2))/\kvs.length<=15/\Q (.ref p) (upd H2 p (.dK (qc2 [] kvs)))
theorem q4v{X:Cx}{pos:Pos}{keys:List (Option Expr)}{values:List Expr}{trs:List (TE×TE)}(h:PPs X pos keys values trs)(hall:keys.all (·.isSome)=true)(hl:keys.length=values.length)(h0:keys≠[])
  (h15:keys.length<=15): PE X (.Dict keys values pos) (tDisp trs):=by
 intro pins s σ H Q I q
 have hn:=I.hok.fresh (Jp s.heap.objs.size)
 have I1:=I.laid (a:=s.heap.objs.size) (o:=.dK []) (h':=s.heap.push { cls:=.type "dict",data:=.dict #[] }) (t':=s.toks) (fun _ _ q=>Jb _ q) (Jp _) (qo7 s.heap I.big)
 refine wpAny_Dict_walk (knd:=yc X.prog X.w) hall hl h0 h15 (thn (h pins _ σ _ _ I1 (q _ hn)) fun ws s2 ⟨ps,H2,I2,rel,e,kvs,ep,lk,q2⟩=>?_)
 subst ep
 obtain⟨rs,c,rk⟩:=qor (P:=X.prog) (w:=X.w) rel
 obtain⟨z,hd,vs0,r0,dd⟩:=qhc I2.hok e
 cases r0
 refine⟨rs,c,dd,fun h' dd' hs=>⟨.ref s.heap.objs.size,_,?_,rfl,q2⟩⟩
 have hz:(qc2 [] kvs).length<=sizeLine:=by
  have h1:=ql7 kvs []
  rw[Y3] at h1
  rw[sizeLine_eq];omega
 have he:∃ q,h'.get? s.heap.objs.size=some q:=let ⟨q,_,_,hq,_⟩:=dd';⟨q,hq⟩
 exact qis I2 (by rw[e];exact True.intro) hs he (qlm hz hd (rk.merge .nil) dd')
structure M1(X:Cx)(o:Expr)(m:Str)(apos:Pos)(e:Expr)(cpos:Pos): Prop where
 base:attributeBase o m X.env (eval o X.env)=eval o X.env
 few:((backTo cpos (starEach [e] X.env)).all (fun x=>!x.1)&&(backToKw cpos (keywordEach [] X.env)).all (fun x=>x.1.isSome)
  && decide (([e]:List Expr).length+([]:List Keyword).length+(if ([]:List Keyword).isEmpty then 0 else 1)<30))=true
 line:(apos.endLine==cpos.line)=true
 trees:backTo cpos (starEach [e] X.env)=[(false,eval e X.env)]
structure M2(X:Cx)(o:Expr)(m:Str)(apos:Pos)(e f:Expr)(cpos:Pos): Prop where
 base:attributeBase o m X.env (eval o X.env)=eval o X.env
 few:((backTo cpos (starEach [e,f] X.env)).all (fun x=>!x.1)&&(backToKw cpos (keywordEach [] X.env)).all (fun x=>x.1.isSome)
  && decide (([e,f]:List Expr).length+([]:List Keyword).length+(if ([]:List Keyword).isEmpty then 0 else 1)<30))=true
 line:(apos.endLine==cpos.line)=true
 trees:backTo cpos (starEach [e,f] X.env)=[(false,eval e X.env),(false,eval f X.env)]
def IsD(H:Hp)(a:Addr): Prop:=(∃ kvs,Rd H a (.dK kvs))\/∃ kvs,Rd H a (.dT kvs)
theorem ql0{X:Cx}{pins:List (Addr×Obj)}{σ:St}{H:Hp}{s:Shared}{a:Addr}(I:Inv X pins σ H s)(d:IsD H a):
  s.TypeIs (.ref a) "dict"/\(∀ b,Value.ref a = .ref b->∃ ob,s.heap.get? b=some ob/\ob.dict=none)/\(a==sysModules)=false:=by
 rcases d with ⟨kvs,e⟩|⟨kvs,e⟩
 ·obtain⟨_,hd,vs,_,dd⟩:=qd7 I.hok e
  refine⟨dd.typeIs,fun b q=>?_,hd⟩
  cases q
  obtain⟨ob,_,_,h1,h2,_⟩:=dd
  exact⟨ob,h1,h2.2.1⟩
 ·obtain⟨_,hd,xs,_,dd⟩:=qer I.hok e
  refine⟨dd.typeIs,fun b q=>?_,hd⟩
  cases q
  obtain⟨ob,_,_,h1,h2,_⟩:=dd
  exact⟨ob,h1,h2.2.1⟩
section
variable {X:Cx} {pins:List (Addr×Obj)} {σ:St} {H:Hp} {s:Shared} {a:Addr} {y d:V} {u r:Value} {o:Option V} {A:Around} {E:Value->Shared->Prop}
theorem d_get1{Q:Value->Shared->Prop}(hu:A.units+1<cLine)(I:Inv X pins σ H s)(g:Qad H a y o)(ry:RelV y u)(h:∀ w' s',Inv X pins σ H s'->RelV (o.getD .non) w'->Q w' s'):
  wpAny (model X.prog X.w) A (call (.builtin "dict.get") [.ref a,u]) Q E s:=by
 rcases g with ⟨kvs,k,e,ey,l⟩|⟨kvs,k,b,e,ey,eb,l⟩
 ·subst ey
  obtain⟨z,hd,vs,rel,dd⟩:=qd7 I.hok e
  refine Qt Zt dd.typeIs W0 (PySem.F.args_dict_get_2 _ _) (meets_dict_get (yc X.prog X.w) a (qdb ry) hd) ⟨_,dd.mapOf,h _ _ (I.tok _) ?_⟩
  rw[l]
  exact(rel.val k).getD rfl
 ·subst ey
  cases (show u=Value.ref b from ry)
  obtain⟨z,hd,xs,rel,dd⟩:=qer I.hok e
  refine Qt Zt dd.typeIs W0 (PySem.F.args_dict_get_2 _ _) (meetsH_dict_get (tupleKind (yc X.prog X.w)) a b hd) ⟨Z6 hu,k,xs,qff I.hok eb,dd,h _ _ (I.tok _) ?_⟩
  rw[l]
  exact(rel.val k).getD rfl
theorem d_get2{Q:Value->Shared->Prop}(hu:A.units+1<cLine)(I:Inv X pins σ H s)(g:Qad H a y o)(ry:RelV y u)(rd:RelV d r)(h:∀ w' s',Inv X pins σ H s'->RelV (o.getD d) w'->Q w' s'):
  wpAny (model X.prog X.w) A (call (.builtin "dict.get") [.ref a,u,r]) Q E s:=by
 rcases g with ⟨kvs,k,e,ey,l⟩|⟨kvs,k,b,e,ey,eb,l⟩
 ·subst ey
  obtain⟨z,hd,vs,rel,dd⟩:=qd7 I.hok e
  refine Qt Zt dd.typeIs W0 (PySem.F.args_dict_get_3 _ _ _) (meets_dict_get_default (yc X.prog X.w) a (qdb ry) hd r) ⟨_,dd.mapOf,h _ _ (I.tok _) ?_⟩
  rw[l]
  exact(rel.val k).getD rd
 ·subst ey
  cases (show u=Value.ref b from ry)
  obtain⟨z,hd,xs,rel,dd⟩:=qer I.hok e
  refine Qt Zt dd.typeIs W0 (PySem.F.args_dict_get_3 _ _ _) (meetsH_dict_get_default (tupleKind (yc X.prog X.w)) a b hd r) ⟨Z6 hu,k,xs,qff I.hok eb,dd,h _ _ (I.tok _) ?_⟩
  rw[l]
  exact(rel.val k).getD rd
end
def qu5(td ty:TE): TE:=fun σ H Q=>td σ H fun x H1=>∃ a,x = .ref a/\IsD H1 a/\ty σ H1 fun y H2=>∃ o,Qad H2 a y o/\Q (o.getD .non) H2
def qnq(td ty tx:TE): TE:=fun σ H Q=>td σ H fun x H1=>∃ a,x = .ref a/\IsD H1 a/\ty σ H1 fun y H2=>tx σ H2 fun z H3=>∃ o,Qad H3 a y o/\Q (o.getD z) H3
section
variable {X:Cx} {o e f:Expr} {apos cpos:Pos} {td ty tx:TE}
theorem q4t(hu:X.A.units+1<cLine)(ho:PE X o td)(he:PE X e ty)(m:M1 X o "get" apos e cpos): PE X (.Call (.Attribute o "get" apos) [e] [] cpos) (qu5 td ty):=by
 intro pins s σ H Q I h
 refine U5 m.base m.few m.line Ux Zt PySem.F.type_dict_get (thn (ho pins s σ H _ I h) fun u s1 ⟨x,H1,I1,rx,a,ex,d,q1⟩=>?_)
 subst ex
 obtain rfl:u=Value.ref a:=rx
 obtain⟨t1,t2,_⟩:=ql0 I1 d
 refine⟨t1,t2,?_⟩
 rw[m.trees]
 refine Wy rfl (W6 (Zc (thn (he pins s1 σ H1 _ I1 q1) fun iv s2 ⟨y,H2,I2,ry,ov,g,q2⟩=>Wc ?_)))
 exact d_get1 hu I2 g ry fun w' s3 I3 rw'=>⟨_,H2,I3,rw',q2⟩
theorem qjf(hu:X.A.units+1<cLine)(ho:PE X o td)(he:PE X e ty)(hf:PE X f tx)(m:M2 X o "get" apos e f cpos): PE X (.Call (.Attribute o "get" apos) [e,f] [] cpos) (qnq td ty tx):=by
 intro pins s σ H Q I h
 refine U5 m.base m.few m.line Ux Zt PySem.F.type_dict_get (thn (ho pins s σ H _ I h) fun u s1 ⟨x,H1,I1,rx,a,ex,d,q1⟩=>?_)
 subst ex
 obtain rfl:u=Value.ref a:=rx
 obtain⟨t1,t2,_⟩:=ql0 I1 d
 refine⟨t1,t2,?_⟩
 rw[m.trees]
 refine Wy rfl (W6 (Zc (thn (he pins s1 σ H1 _ I1 q1) fun iv s2 ⟨y,H2,I2,ry,q2⟩=>
  Zc (thn (hf pins s2 σ H2 _ I2 q2) fun fv s3 ⟨z,H3,I3,rz,ov,g,q3⟩=>Wc ?_))))
 exact d_get2 hu I3 g ry rz fun w' s4 I4 rw'=>⟨_,H3,I4,rw',q3⟩
end
theorem qvj:entryFor table "dict.update.loop" = some Builtin.«dict.update.loop»:=entryFor_of_tree (by kernel_rfl)
theorem qic:plainId "dict.update.loop" = true:=by decide +kernel
section
variable {X:Cx} {pins:List (Addr×Obj)} {σ:St} {H:Hp} {s:Shared} {h':Heap}
theorem Inv.q91{t':Nat}{ch:List Addr}(I:Inv X pins σ H s)(k:∀ b o,b∉ch->s.heap.get? b=some o->h'.get? b=some o)(hf:∀ b∈ch,Qcs X pins H b): Inv X pins σ H { s with heap:=h',toks:=t' }:=by
 have nit:∀ b u,H b=some u->b∉ch:=fun b u e z=>by
  have q:=(hf b z).1
  rw[q] at e;cases e
 refine I.step (g':=s.gens) (d':=s.drawn) (ch:=ch) (fun b hb=>⟨(hf b hb).2.2.2.1,(hf b hb).2.1,(hf b hb).2.2.2.2.1,(hf b hb).2.2.2.2.2⟩) (fun b o _ _ hc e _=>k b o hc e) (fun b o _ _ hc e _=>⟨o.slots,k b o hc e⟩)
  (fun _ _ _ _ n=>n) (fun b o hc e=>⟨o,k b o hc e⟩) (fun _ _ e=>e) (fun _ _ _ e=>e) (fun b ps e=>⟨#[],by rw[e];simp⟩) (fun m hm=>?_) (fun b u e=>?_) I.bare
 ·obtain⟨o,es,ep,ho,r⟩:=hm
  exact⟨o,es,ep,k _ o (fun z=>(hf _ z).2.1 rfl) ho,r⟩
 ·refine(I.hok b u e).stay (fun c v hc q=>k c v ?_ q) (fun _ q=>q) fun _ _ q=>q
  rcases hc with z|z
  ·rw[z];exact nit b u e
  ·exact nit c _ z
theorem Inv.qj7{t':Nat}{ch:List Addr}{T:Addr}{ob:HO}(I:Inv X pins σ H s)(k:∀ b o,b∉ch->s.heap.get? b=some o->h'.get? b=some o)(hf:∀ b∈ch,Qcs X pins H b)(hT:s.heap.objs.size<=T)
  (new:Qaf X.prog X.w (upd H T ob) h' T ob): Inv X pins σ (upd H T ob) { s with heap:=h',toks:=t' }:=by
 have hn:H T=none:=I.hok.fresh hT
 have nit:∀ b u,H b=some u->b∉ch:=fun b u e z=>by
  have q:=(hf b z).1
  rw[q] at e;cases e
 refine I.step (g':=s.gens) (d':=s.drawn) (ch:=ch) (fun b hb=>⟨(hf b hb).2.2.2.1,(hf b hb).2.1,(hf b hb).2.2.2.2.1,(hf b hb).2.2.2.2.2⟩) (fun b o _ _ hc e _=>k b o hc e) (fun b o _ _ hc e _=>⟨o.slots,k b o hc e⟩)
  (fun b o _ e n=>?_) (fun b o hc e=>⟨o,k b o hc e⟩) (fun b xs e=>?_) (fun b o u e=>?_) (fun b ps e=>⟨#[],?_⟩) (fun m hm=>?_) (fun b u e=>?_) I.bare
 ·rw[qc (Xl (Xk (Jl e) hT))];exact n
 ·rw[qc (k8 e hn)];exact e
 ·rw[qc (k8 e hn)];exact e
 ·rw[qc (k8 e hn),e];simp
 ·obtain⟨o,es,ep,ho,r⟩:=hm
  exact⟨o,es,ep,k _ o (fun z=>(hf _ z).2.1 rfl) ho,r⟩
 ·by_cases hb:b=T
  ·subst hb
   rw[zc] at e
   cases e
   exact new
  ·rw[qc hb] at e
   refine(I.hok b u e).stay (fun c v hc q=>k c v ?_ q) (fun c q=>by rw[qc (k8 q hn)];exact q) fun c xs q=>by rw[qc (k8 q hn)];exact q
   rcases hc with z|z
   ·rw[z];exact nit b u e
   ·exact nit c _ z
theorem Inv.lock{d:Addr}{u:HO}(I:Inv X pins σ H s)(h:H d=some u)(mu:Mut (some u)): ∃ od,Inv X pins σ (upd H d (.frz od u)) s:=by
 have x:=I.hok d u h
 have ex:∃ od,s.heap.get? d=some od:=by
  cases u with
  |lst xs=>obtain⟨_,_,_,_,e⟩:=x;exact⟨_,e⟩
  |dK kvs=>obtain⟨_,_,_,_,o,_,_,e,_⟩:=x;exact⟨o,e⟩
  |dT kvs=>obtain⟨_,_,_,_,o,_,_,e,_⟩:=x;exact⟨o,e⟩
  |set S n=>obtain⟨o,_,_,_,e,_⟩:=x;exact⟨o,e⟩
  |ins C dx fs=>obtain⟨_,_,_,e,_⟩:=x;exact⟨_,e⟩
  |ext φ=>obtain⟨_,⟨_,e⟩,_⟩:=x;exact⟨_,e⟩
  |_=>exact False.elim mu
 obtain⟨od,e⟩:=ex
 have new:Qaf X.prog X.w (upd H d (.frz od u)) s.heap d (.frz od u):=by
  refine⟨e,x.stay (fun b v _ q=>q) (fun b q=>?_) fun b xs q=>?_⟩
  ·rw[qc (fun z=>by rw[z,h] at q;cases q;exact mu)];exact q
  ·rw[qc (fun z=>by rw[z,h] at q;cases q;exact mu)];exact q
 exact⟨od,I.write (x:=d) (e:=d) (t':=s.toks) (h':=s.heap) (by rw[h];exact mu) (.inl rfl) (fun b v _ q=>q) ⟨od,e⟩ new⟩
theorem Inv.nofrz{d:Addr}{u:HO}(I:Inv X pins σ H s)(h:H d=some u)(mu:Mut (some u)): ∀ o' u',X.H_0 d≠some (.frz o' u'):=fun o' u' e=>by
 have q:=I.base.qda d o' u' e
 rw[h] at q
 cases q
 exact mu
theorem Inv.unlock{d:Addr}{od:Obj}{u:HO}(I:Inv X pins σ H s)(h:H d=some (.frz od u))(hn:∀ o' u',X.H_0 d≠some (.frz o' u')): Inv X pins σ (upd H d u) s:=by
 have neH:∀ b o,H b=some o->(∀ o' u',o≠.frz o' u')->b≠d:=fun b o e hne z=>by
  rw[z,h] at e
  cases e
  exact hne _ _ rfl
 have neN:∀ b,H b=none->b≠d:=fun b e z=>by rw[z,h] at e;cases e
 refine⟨I.ok,I.os,I.bare,⟨I.base.keep,I.base.slot,fun b o e n hx=>?_,I.base.there,fun b xs e=>?_,fun b o x e=>?_,fun b ps e=>?_⟩,I.loc,I.cell,?_,fun x c e=>?_,fun p hp=>?_,fun b o e=>?_,I.len⟩
 ·rw[qc (neN b (I.base.free b o e n hx))];exact I.base.free b o e n hx
 ·have q:=I.base.tups b xs e
  rw[qc (neH b _ q (fun _ _ z=>nomatch z))];exact q
 ·have q:=I.base.qda b o x e
  rw[qc (fun z=>by rw[z] at e;exact hn _ _ e)];exact q
 ·obtain⟨m,q⟩:=I.base.qeo b ps e
  exact⟨m,by rw[qc (neH b _ q (fun _ _ z=>nomatch z))];exact q⟩
 ·rw[qc (neN _ I.free)];exact I.free
 ·rw[qc (neN c (I.qcj x c e))];exact I.qcj x c e
 ·obtain⟨e,n,r⟩:=I.pin p hp
  exact⟨e,by rw[qc (neN _ n)];exact n,r⟩
 ·by_cases hb:b=d
  ·rw[hb,zc] at e
   cases e
   rw[hb]
   obtain⟨_,x⟩:=I.hok d _ h
   exact x.stay (fun c v _ q=>q) (fun c q=>by rw[qc (neH c _ q (fun _ _ z=>nomatch z))];exact q) fun c xs q=>by rw[qc (neH c _ q (fun _ _ z=>nomatch z))];exact q
  ·rw[qc hb] at e
   exact(I.hok b o e).stay (fun c v _ q=>q) (fun c q=>by rw[qc (neH c _ q (fun _ _ z=>nomatch z))];exact q) fun c xs q=>by rw[qc (neH c _ q (fun _ _ z=>nomatch z))];exact q
end
def tLockE(t:TE): TE:=fun σ H Q=>∃ d u,H d=some u/\Mut (some u)/\∀ od,t σ (upd H d (.frz od u)) fun v H'=>H' d=some (.frz od u)/\Q v (upd H' d u)
section
variable {X:Cx}
theorem qmp{e:Expr}{t:TE}(h:PE X e t): PE X e (tLockE t):=by
 intro pins s σ H Q I hw
 obtain⟨d,u,hd,mu,hw⟩:=hw
 obtain⟨od,I1⟩:=I.lock hd mu
 refine thn (h pins s σ _ _ I1 (hw od)) fun v s1 ⟨x,H1,I2,r,e2,q⟩=>?_
 exact⟨x,_,I2.unlock e2 (I.nofrz hd mu),r,q⟩
theorem qmt{tg:Expr}{pins:List (Addr×Obj)}{σ:St}{H:Hp}{s:Shared}{R:It->Hp->Prop}{J:It}{tn:Nat->Heap->Prop}{tk:Nat}(I:Inv X pins σ H s)(o:Obj)
  (T:Turn X.prog X.w X.K tg J [s.heap.objs.size] s.heap.objs.size tn)(st:tn 0 (s.heap.push o))(q:R J H): PIE X pins σ tg R (.ref s.heap.objs.size) { s with heap:=s.heap.push o,toks:=tk }:=by
 refine⟨s.heap.objs.size,[s.heap.objs.size],tn,J,H,rfl,I.kept fun b ob e=>Jb _ e,T,st,fun b hb=>?_,q⟩
 have e:b=s.heap.objs.size:=by simpa using hb
 subst e
 exact I.qet (Jp _) (I.hok.fresh (Jp _))
end
section
variable {prog:Program} {w:World} {A:Around} {E:Value->Shared->Prop} {s:Shared}
theorem qp8{d:Addr}{o:Obj}{es:Array DictEntry}{ep:Nat}{Q:Value->Shared->Prop}(hd:(d==sysModules)=false)(ho:s.heap.get? d=some o)(hc:o.ExactDict)(hdat:o.data = .dict es ep)
  (hQ:Q (.ref s.heap.objs.size) { s with heap:=s.heap.push { cls:=.type "dict_keyiterator",data:=.fields #[.ref d,.int 0 0,.int es.size 0,.int ep 0] } }):
  wpAny (model prog w) A (pyIter (.ref d)) Q E s:=by
 have hT:s.TypeIs (.ref d) "dict":=⟨o,ho,hc.1⟩
 refine U6 hT F.slot_dict_iter (X6 F.slot_dict_iter hT F.entry_dict_iter ?_ (F.args_dict_iter_1 _))
 unfold Builtin.«dict.__iter__»
 refine Ja ?_
 unfold Builtin.Dict.dictSlotNone
 refine Ja (wpAny_notOrdered_dict hT ?_)
 show wpAny _ _ (pure (Value.ref d)) _ _ s
 refine Jg ?_
 show wpAny _ _ (Builtin.Dict.showsAll d >>= _) _ _ s
 unfold Builtin.Dict.showsAll
 rw[Jc (by rw[hd];exact Jr)]
 refine Ja (Jg ?_)
 refine Ja (U7 ho hdat ?_)
 refine Ja (wpAny_dictEpoch ho hdat ?_)
 refine Ja (We (Jg ⟨_,rfl,"dict_keyiterator",_,⟨_,Js _ rfl,rfl⟩,Yz.lookup,?_⟩))
 simpa[rawInt] using hQ
theorem q4g{it d:Addr}{i n ep:Nat}{od:Obj}{es:Array DictEntry}{en:DictEntry}{Q:Option Value->Shared->Prop}(hit:s.heap.IsKeyIter it d i n ep)(hod:s.heap.get? d=some od)(hdd:od.data = .dict es ep)
  (hsz:es.size=n)(hx:es[i]?=some en)(hQ:∀ h',h'.IsKeyIter it d (i+1) n ep->Heap.SameBut it s.heap h'->Q (some en.key) { s with heap:=h' }): wpAny (model prog w) A (pyNext (.ref it)) Q E s:=by
 obtain⟨o,ho,hc,hd⟩:=id hit
 unfold pyNext
 refine Ja (Ws (X8 (name:=Str.ofString "__next__") hit.typeIs Yz
  (X6 Yz hit.typeIs F.entry_dict_keyiterator_next ?_ (F.args_dict_keyiterator_next_1 _))))
 refine Ja (Jg ?_)
 refine Ja ?_
 refine Ja ?_
 first|refine Ja (Z1 hit.typeIs (Jg ?_))|refine Ja (Wj hit.typeIs (Jg ?_))
 refine Ja (wpAny_fieldsOf ho hd ?_)
 have hown:Builtin.Dict_items.ownsTuple "dict_keyiterator" = false:=by decide
 simp only[hown,Xr,X9]
 show wpAny _ _ (if (Value.ref d==Value.none)=true then _ else _) _ _ s
 rw[Jc (show ¬ ((Value.ref d==Value.none)=true) from Jr)]
 refine Ja (Jg ?_)
 refine Ja (U7 hod hdd ?_)
 rw[Jc (by rw[hsz];simp)]
 refine Ja (Jg ?_)
 refine Ja (wpAny_dictEpoch hod hdd ?_)
 rw[Jc (by simp)]
 refine Jg ?_
 obtain⟨hlt',hen⟩:=Yp.mp hx
 simp only[show ¬ ((i:Int)<0) from by omega,X9,J1,Y8 hlt']
 refine Ja ?_
 first|refine Ja (Z1 hit.typeIs (Jg ?_))|refine Ja (Wj hit.typeIs (Jg ?_))
 refine Ja (wpAny_isOneOf_keyiter hit.typeIs ?_)
 show wpAny _ _ (setField (.ref it) 1 (rawInt ((i:Int)+1)) >>= _) _ _ s
 refine Ja (wpAny_setField ho hd (by simp) ?_)
 have qev:(s.heap.update it (Obj.mapFields (·.setIfInBounds 1 (rawInt ((i:Int)+1))))).IsKeyIter it d (i+1) n ep:=
  ⟨_,Yy _ ho (Obj.isFreed_of_fields (Us hd _)),(Obj.cls_mapFields ..).trans hc,by rw[Us hd];simp[rawInt]⟩
 refine Ja (Xi ?_)
 refine Ja (wpAny_isOneOf_keyiter (s:={ s with heap:=s.heap.update it (Obj.mapFields (·.setIfInBounds 1 (rawInt ((i:Int)+1)))) }) qev.typeIs ?_)
 show wpAny _ _ (pure es[i].key) _ _ _
 rw[hen]
 exact Jg (Jg ⟨_,rfl,Jg (hQ _ qev (Wr ..))⟩)
theorem qq4{it d:Addr}{i n ep:Nat}{od:Obj}{es:Array DictEntry}{Q:Option Value->Shared->Prop}(hh:A.handled=none)(hit:s.heap.IsKeyIter it d i n ep)(hod:s.heap.get? d=some od)(hdd:od.data = .dict es ep)
  (hsz:es.size=n)(hge:n<=i)(hQ:∀ h',Heap.ExtBut it s.heap h'->Q none { s with heap:=h' }): wpAny (model prog w) A (pyNext (.ref it)) Q E s:=by
 obtain⟨o,ho,hc,hd⟩:=id hit
 unfold pyNext
 refine Ja (Ws (X8 (name:=Str.ofString "__next__") hit.typeIs Yz
  (X6 Yz hit.typeIs F.entry_dict_keyiterator_next ?_ (F.args_dict_keyiterator_next_1 _))))
 refine Ja (Jg ?_)
 refine Ja ?_
 refine Ja ?_
 first|refine Ja (Z1 hit.typeIs (Jg ?_))|refine Ja (Wj hit.typeIs (Jg ?_))
 refine Ja (wpAny_fieldsOf ho hd ?_)
 have hown:Builtin.Dict_items.ownsTuple "dict_keyiterator" = false:=by decide
 simp only[hown,Xr,X9]
 show wpAny _ _ (if (Value.ref d==Value.none)=true then _ else _) _ _ s
 rw[Jc (show ¬ ((Value.ref d==Value.none)=true) from Jr)]
 refine Ja (Jg ?_)
 refine Ja (U7 hod hdd ?_)
 rw[Jc (by rw[hsz];simp)]
 refine Ja (Jg ?_)
 refine Ja (wpAny_dictEpoch hod hdd ?_)
 rw[Jc (by simp)]
 refine Jg ?_
 have hge':es.size<=i:=by rw[hsz];exact hge
 simp only[show ¬ ((i:Int)<0) from by omega,X9,J1,Array.getElem?_eq_none hge']
 refine Ja ?_
 first|refine Ja (Z1 hit.typeIs (Jg ?_))|refine Ja (Wj hit.typeIs (Jg ?_))
 show wpAny _ _ (setField (.ref it) 0 .none >>= _) _ _ s
 refine Ja (wpAny_setField ho hd (by simp) ?_)
 show wpAny _ _ (newExc (.type "StopIteration") [] >>= _) _ _ _
 refine Ja ?_
 simp only[newExc,newTuple]
 refine Ja (We ?_ (by size_fits))
 refine Ja (m:=firstArgMember _ _) (wpAny_of_eq (a:=Value.none) (by first|rfl|(simp only[firstArgMember];rfl)) ?_)
 refine We ?_ (by size_fits)
 simp only[raiseNew]
 refine Ja (wpAny_handled ?_)
 rw[show A.in1.handled=none from hh]
 refine Ja (Jg (wpAny_throw ?_))
 refine Ja (Qh (T:= "StopIteration") (b:=true) ⟨_,Js _ rfl,rfl⟩ isSubtype_stop ?_)
 exact Jg (hQ _ (((Wr ..).extBut.push _).push _))
end
theorem qqh{κ:Type}{kvs:List (κ×V)}{vs:List (κ×Value)}(h:KV kvs vs): ∀ {i:Nat} {k:κ} {v:V},kvs[i]?=some (k,v)->∃ u,vs[i]?=some (k,u)/\RelV v u:=by
 unfold KV at h
 induction h with
 |nil=>intro i k v e;simp at e
 | @cons a b l₁ l₂ r t ih=>
   intro i k v e
   cases i with
   | zero=>
     simp only[Uy,Option.some.injEq] at e
     subst e
     refine⟨b.2,?_,r.2⟩
     simp only[Uy]
     exact Ym some (Prod.ext r.1.symm rfl)
   | succ j=>
     simp only[Uz] at e ⊢
     exact ih e
theorem q4n{α β:Type}{G:α->β->Prop}{l₁:List α}{l₂:List β}(h:Paired G l₁ l₂): ∀ {i:Nat} {a:α},l₁[i]?=some a->∃ b,l₂[i]?=some b/\G a b:=by
 induction h with
 |nil=>intro i a e;simp at e
 | @cons a b l₁ l₂ r t ih=>
   intro i a' e
   cases i with
   | zero=>
     simp only[Uy,Option.some.injEq] at e
     subst e
     exact⟨b,rfl,r⟩
   | succ j=>
     simp only[Uz] at e ⊢
     exact ih e
theorem qr2{k:Key}{u:Value}(h:qba k u=true): RelV (kV k) u:=by
 rcases qdr h with ⟨i,t,rfl,rfl⟩|⟨x,t,rfl,rfl⟩
 ·exact⟨t,rfl⟩
 ·exact⟨t,rfl⟩
section
variable {X:Cx} {pins:List (Addr×Obj)} {σ:St} {H:Hp} {s:Shared} {d:Addr} {o:Obj}
theorem Inv.qf2{kvs:List (Key×V)}(I:Inv X pins σ H s)(h:H d=some (.frz o (.dK kvs))):
  (d==sysModules)=false/\s.heap.get? d=some o/\o.ExactDict/\∃ (es:Array DictEntry) (ep:Nat) (vs:List (Key×Value)),o.data = .dict es ep/\es.size=kvs.length/\KV kvs vs/\s.heap.DictAt (yc X.prog X.w) d vs ep:=by
 obtain⟨hd,z,hs,vs,kv,o',es,ep,ho,hx,hdt,r⟩:=I.hok d _ h
 rw[hd] at ho
 cases ho
 refine⟨hs,hd,hx,es,ep,vs,hdt,?_,kv,o,es,hd,hx,hdt,r⟩
 have l1:=r.2.1.length
 have l2:kvs.length=vs.length:=Zr kv
 rw[Uc] at l1
 omega
theorem Inv.frzT{kvs:List (List Key×V)}(I:Inv X pins σ H s)(h:H d=some (.frz o (.dT kvs))):
  (d==sysModules)=false/\s.heap.get? d=some o/\o.ExactDict/\∃ (es:Array DictEntry) (ep:Nat),o.data = .dict es ep/\es.size=kvs.length /\
   ∀ (i:Nat) (k:List Key) (v:V),kvs[i]?=some (k,v)->∃ (en:DictEntry) (q:Addr),es[i]?=some en/\en.key = .ref q/\H q=some (.tup (k.map kV)):=by
 obtain⟨hd,z,hs,xs,pr,o',es,ep,ho,hx,hdt,he,_⟩:=I.hok d _ h
 rw[hd] at ho
 cases ho
 refine⟨hs,hd,hx,es,ep,hdt,?_,fun i k v e=>?_⟩
 ·have l1:es.size=xs.length:=size_of_entries he
  have l2:kvs.length=xs.length:=Zr pr
  omega
 ·obtain⟨b,hb,e1,e2,_⟩:=q4n pr e
  have q:=entry_at he i
  rw[hb] at q
  exact⟨_,b.2.1,q,rfl,e2⟩
end
def Itk(d:Addr)(o:Obj)(kvs:List (Key×V)): It:=
 ⟨fun i H=>H d=some (.frz o (.dK kvs))/\i<kvs.length,fun i H x H'=>H'=H/\∃ k v,kvs[i]?=some (k,v)/\x=kV k,fun i H=>H d=some (.frz o (.dK kvs))/\kvs.length<=i⟩
def Itkt(d:Addr)(o:Obj)(kvs:List (List Key×V)): It:=
 ⟨fun i H=>H d=some (.frz o (.dT kvs))/\i<kvs.length,fun i H x H'=>H'=H/\∃ (k:List Key) (v:V) (q:Addr),kvs[i]?=some (k,v)/\x = .ref q/\H q=some (.tup (k.map kV)),fun i H=>H d=some (.frz o (.dT kvs))/\kvs.length<=i⟩
def Iti(d:Addr)(o:Obj)(kvs:List (Key×V)): It:=
 ⟨fun i H=>H d=some (.frz o (.dK kvs))/\i<kvs.length,fun i H x H'=>∃ T k v,kvs[i]?=some (k,v)/\x = .ref T/\H T=none/\H'=upd H T (.tup [kV k,v]),fun i H=>H d=some (.frz o (.dK kvs))/\kvs.length<=i⟩
theorem qfy{o:Obj}{es es':Array DictEntry}{ep ep':Nat}(h:o.data = .dict es ep)(h':o.data = .dict es' ep'): es'=es/\ep'=ep:=by
 rw[h] at h'
 cases h'
 exact⟨rfl,rfl⟩
section
variable {P:Program} {w:World} {K:PySem.W.Frag} {tg:Expr} {d:Addr} {o:Obj} {es:Array DictEntry} {ep:Nat}
theorem q9v{kvs:List (Key×V)}(it:Addr)(hod:o.data = .dict es ep): Turn P w K tg (Itk d o kvs) [it] it (fun i h=>h.IsKeyIter it d i kvs.length ep) where
 mem:=by simp
 obj:=fun i h st b hb=>by
  have e:b=it:=by simpa using hb
  subst e
  obtain⟨oi,e,c,dd⟩:=st
  exact⟨oi,e,fun v z=>by rw[dd] at z;cases z⟩
 keep:=fun i h h' st k=>st.at fun oi e=>k it (by simp) oi e
 item:=by
  intro X hP hw hK hc i pins s σ H E I hf st hg
  subst hP hw hK
  obtain⟨hd,hi⟩:=hg
  obtain⟨f0,f1,f2,f3,f4,f5⟩:=hf it (by simp)
  obtain⟨hs,hgd,hx,es',ep',vs,hdt,hsz,kv,hm⟩:=I.qf2 hd
  obtain⟨rfl,rfl⟩:=qfy hod hdt
  obtain⟨⟨k,v⟩,hkv⟩:∃ p,kvs[i]?=some p:=⟨kvs[i],Jo hi⟩
  obtain⟨u,hu,ru⟩:=qqh kv hkv
  have hl:kvs.length=vs.length:=Zr kv
  rw[hl] at st
  refine wpAny_pyNext_dict_item st hm hu fun key h' hkey st' sb=>?_
  have I1:Inv X pins σ H { s with heap:=h' }:=I.turned (t':=s.toks) (fun b ob hb e=>(sb.2 b hb).trans e) f0 f1 f3 f4 f5
  obtain⟨oi,e,c,dd⟩:=id st'
  refine⟨key,rfl,qhg (s:={ s with heap:=h' }) e c dd (by decide) ⟨kV k,H,I1,qr2 (show qba k key=true from hkey),⟨rfl,k,v,hkv,rfl⟩,?_,fun b hb=>(hf b hb).1⟩⟩
  show h'.IsKeyIter it d (i+1) kvs.length _
  rw[hl]
  exact st'
 done:=by
  intro X hP hw hK hc i pins s σ H E I hf st hg
  subst hP hw hK
  obtain⟨hd,hi⟩:=hg
  obtain⟨f0,f1,f2,f3,f4,f5⟩:=hf it (by simp)
  obtain⟨hs,hgd,hx,es',ep',vs,hdt,hsz,kv,hm⟩:=I.qf2 hd
  obtain⟨rfl,rfl⟩:=qfy hod hdt
  exact qq4 (I.ok.hd hc) st hgd hdt hsz hi fun h' eb=>⟨rfl,I.turned (t':=s.toks) (fun b ob hb e=>eb b ob hb e) f0 f1 f3 f4 f5⟩
 self:=fun A i s Q E st h=>wpAny_pyIter_keyiter st h
theorem q9w{kvs:List (List Key×V)}(it:Addr)(hod:o.data = .dict es ep): Turn P w K tg (Itkt d o kvs) [it] it (fun i h=>h.IsKeyIter it d i kvs.length ep) where
 mem:=by simp
 obj:=fun i h st b hb=>by
  have e:b=it:=by simpa using hb
  subst e
  obtain⟨oi,e,c,dd⟩:=st
  exact⟨oi,e,fun v z=>by rw[dd] at z;cases z⟩
 keep:=fun i h h' st k=>st.at fun oi e=>k it (by simp) oi e
 item:=by
  intro X hP hw hK hc i pins s σ H E I hf st hg
  subst hP hw hK
  obtain⟨hd,hi⟩:=hg
  obtain⟨f0,f1,f2,f3,f4,f5⟩:=hf it (by simp)
  obtain⟨hs,hgd,hx,es',ep',hdt,hsz,ent⟩:=I.frzT hd
  obtain⟨rfl,rfl⟩:=qfy hod hdt
  obtain⟨⟨k,v⟩,hkv⟩:∃ p,kvs[i]?=some p:=⟨kvs[i],Jo hi⟩
  obtain⟨en,q,hen,hkey,hq⟩:=ent i k v hkv
  refine q4g st hgd hdt hsz hen fun h' st' sb=>?_
  have I1:Inv X pins σ H { s with heap:=h' }:=I.turned (t':=s.toks) (fun b ob hb e=>(sb.2 b hb).trans e) f0 f1 f3 f4 f5
  obtain⟨oi,e,c,dd⟩:=id st'
  exact⟨en.key,rfl,qhg (s:={ s with heap:=h' }) e c dd (by decide) ⟨.ref q,H,I1,hkey,⟨rfl,k,v,q,hkv,rfl,hq⟩,st',fun b hb=>(hf b hb).1⟩⟩
 done:=by
  intro X hP hw hK hc i pins s σ H E I hf st hg
  subst hP hw hK
  obtain⟨hd,hi⟩:=hg
  obtain⟨f0,f1,f2,f3,f4,f5⟩:=hf it (by simp)
  obtain⟨hs,hgd,hx,es',ep',hdt,hsz,ent⟩:=I.frzT hd
  obtain⟨rfl,rfl⟩:=qfy hod hdt
  exact qq4 (I.ok.hd hc) st hgd hdt hsz hi fun h' eb=>⟨rfl,I.turned (t':=s.toks) (fun b ob hb e=>eb b ob hb e) f0 f1 f3 f4 f5⟩
 self:=fun A i s Q E st h=>by
  refine U6 st.typeIs F.slot_dict_keyiterator_iter (X6 F.slot_dict_keyiterator_iter st.typeIs F.entry_dict_keyiterator_iter ?_ (F.args_dict_keyiterator_iter_1 _))
  show wpAny _ _ (ret (.ref it)) _ _ s
  exact Jg ⟨_,rfl,"dict_keyiterator",_,st.typeIs,Yz.lookup,h⟩
theorem q9u{kvs:List (Key×V)}{elts:List Expr}{kk:Nat}{tpos:Pos}(it:Addr)(hod:o.data = .dict es ep):
  Turn P w K (.Tuple elts kk tpos) (Iti d o kvs) [it] it (fun i h=>∃ ok ov,IsItemIter h it d i kvs.length ep ok ov) where
 mem:=by simp
 obj:=fun i h st b hb=>by
  have e:b=it:=by simpa using hb
  subst e
  obtain⟨ok,ov,e⟩:=st
  exact⟨_,e,fun v z=>nomatch z⟩
 keep:=fun i h h' st k=>let ⟨ok,ov,e⟩:=st;⟨ok,ov,k it (by simp) _ e⟩
 item:=by
  intro X hP hw hK hc i pins s σ H E I hf st hg
  subst hP hw hK
  obtain⟨hd,hi⟩:=hg
  obtain⟨hs,hgd,hx,es',ep',vs,hdt,hsz,kv,hm⟩:=I.qf2 hd
  obtain⟨rfl,rfl⟩:=qfy hod hdt
  obtain⟨⟨k,v⟩,hkv⟩:∃ p,kvs[i]?=some p:=⟨kvs[i],Jo hi⟩
  obtain⟨u,hu,ru⟩:=qqh kv hkv
  have hl:kvs.length=vs.length:=Zr kv
  obtain⟨ok,ov,he⟩:=st
  rw[hl] at he
  have hlt:it<s.heap.objs.size:=Jl he
  refine wpAny_pyNext_items_item he hm hu fun key h' hkey ho hT hz hk=>?_
  refine⟨_,rfl,wpAny_letOwnedTupleGo_items (s:={ s with heap:=h' }) ho fun h'' he' sb=>?_⟩
  have hT2:h''.get? s.heap.objs.size=some { cls:=.type "tuple",data:=.seq #[key,u] }:=(sb.2 _ (J5 hlt)).trans hT
  have new:Qaf X.prog X.w (upd H s.heap.objs.size (.tup [kV k,v])) h'' s.heap.objs.size (.tup [kV k,v]):=
   ⟨by show 2<=sizeLine;decide,[key,u],.cons (qr2 (show qba k key=true from hkey)) (.cons ru .nil),⟨_,hT2,rfl,_,rfl⟩⟩
  have I1:Inv X pins σ (upd H s.heap.objs.size (.tup [kV k,v])) { s with heap:=h'' }:=
   I.qj7 (t':=s.toks) (ch:=[it]) (fun b ob hb e=>(sb.2 b (by simpa using hb)).trans (hk b ob (by simpa using hb) e)) hf (Jp _) new
  refine⟨.ref s.heap.objs.size,_,I1,rfl,⟨_,k,v,hkv,rfl,I.hok.fresh (Jp _),rfl⟩,⟨key,u,?_⟩,fun b hb=>?_⟩
  ·rw[hl];exact he'
  ·have e:b=it:=by simpa using hb
   rw[e,qc (Xl hlt)]
   exact(hf it (by simp)).1
 done:=by
  intro X hP hw hK hc i pins s σ H E I hf st hg
  subst hP hw hK
  obtain⟨hd,hi⟩:=hg
  obtain⟨f0,f1,f2,f3,f4,f5⟩:=hf it (by simp)
  obtain⟨hs,hgd,hx,es',ep',vs,hdt,hsz,kv,hm⟩:=I.qf2 hd
  obtain⟨rfl,rfl⟩:=qfy hod hdt
  have hl:kvs.length=vs.length:=Zr kv
  obtain⟨ok,ov,he⟩:=st
  rw[hl] at he
  exact wpAny_pyNext_items_end (I.ok.hd hc) he hm (Yn (by omega)) fun h' eb=>⟨rfl,I.turned (t':=s.toks) (fun b ob hb e=>eb b ob hb e) f0 f1 f3 f4 f5⟩
 self:=fun A i s Q E st h=>let ⟨_,_,e⟩:=st;PySem.W.kcp_self e h
end
def iKeys(td:TE): TI:=fun σ H R=>td σ H fun x H1=>∃ d o,x = .ref d/\((∃ kvs,H1 d=some (.frz o (.dK kvs))/\R (Itk d o kvs) H1)\/∃ kvs,H1 d=some (.frz o (.dT kvs))/\R (Itkt d o kvs) H1)
def qpw(td:TE): TI:=fun σ H R=>td σ H fun x H1=>∃ d o kvs,x = .ref d/\H1 d=some (.frz o (.dK kvs))/\R (Iti d o kvs) H1
section
variable {X:Cx} {tg e:Expr} {td:TE} {apos cpos:Pos}
theorem qrj(he:PE X e td): PI X tg e (iKeys td):=by
 intro pins s σ H R I h
 refine thn (he pins s σ H _ I h) fun u s1 ⟨x,H1,I1,rx,d,o,ex,q⟩=>?_
 subst ex
 obtain rfl:u=Value.ref d:=rx
 rcases q with ⟨kvs,hd,q⟩|⟨kvs,hd,q⟩
 ·obtain⟨hs,hgd,hx,es,ep,vs,hdt,hsz,kv,hm⟩:=I1.qf2 hd
  refine qp8 hs hgd hx hdt (qmt (tk:=s1.toks) I1 _ (q9v _ hdt) ⟨_,Js _ rfl,rfl,?_⟩ q)
  rw[hsz]<;>rfl
 ·obtain⟨hs,hgd,hx,es,ep,hdt,hsz,ent⟩:=I1.frzT hd
  refine qp8 hs hgd hx hdt (qmt (tk:=s1.toks) I1 _ (q9w _ hdt) ⟨_,Js _ rfl,rfl,?_⟩ q)
  rw[hsz]<;>rfl
theorem q48{elts:List Expr}{kk:Nat}{tpos:Pos}(he:PE X e td)(hbase:attributeBase e "items" X.env (eval e X.env)=eval e X.env:=by rfl)(hline:(apos.endLine==cpos.line)=true:=by rfl):
  PI X (.Tuple elts kk tpos) (.Call (.Attribute e "items" apos) [] [] cpos) (qpw td):=by
 intro pins s σ H R I h
 refine U5 (T:= "dict") (id:= "dict.items") hbase rfl hline F.plainAttrs_dict F.slot_dict_items F.type_dict_items (thn (he pins s σ H _ I h) fun u s1 ⟨x,H1,I1,rx,d,o,kvs,ex,hd,q⟩=>?_)
 subst ex
 obtain rfl:u=Value.ref d:=rx
 obtain⟨hs,hgd,hx,es,ep,vs,hdt,hsz,kv,hm⟩:=I1.qf2 hd
 have hl:kvs.length=vs.length:=Zr kv
 refine⟨hm.dictOf.typeIs,hm.dictOf.mapOf.noDict,?_⟩
 have I2:Inv X pins σ H1 { s1 with heap:=s1.heap.push { cls:=.type "dict_items",data:=.fields #[.ref d] } }:=I1.kept (t':=s1.toks) fun b ob q=>Jb _ q
 have fin:wpAny (model X.prog X.w) X.A (pyIter (.ref s1.heap.objs.size)) (PIE X pins σ (.Tuple elts kk tpos) R) X.xe { s1 with heap:=s1.heap.push { cls:=.type "dict_items",data:=.fields #[.ref d] } }:=by
  refine wpAny_pyIter_items (d:=d) (knd:=yc X.prog X.w) ⟨_,Js _ rfl,rfl,rfl⟩ (hm.push _) (qmt (tk:=s1.toks) I2 _ (q9u _ hdt) ⟨.none,.none,?_⟩ q)
  rw[hl]
  exact Js _ rfl
 show wpAny _ _ (callWith cpos (.builtin "dict.items") [.ref d] [] []) _ X.xe s1
 exact method_meetsIn F.slot_dict_items F.entry_dict_items rfl (PySem.evalArgs_none ⟨rfl,hm.dictOf.typeIs,F.args_dict_items_1 _,_,meets_dict_items (yc X.prog X.w) d hs,⟨vs,hm.dictOf⟩,fin⟩)
end
def Ite(K:PySem.W.Frag)(a:Addr): It:=
 ⟨fun i H=>∃ (xs:List V) (x:V),SqL K H a xs/\xs[i]?=some x,fun i H v H'=>∃ T x,v = .ref T/\H T=none/\H'=upd H T (.tup [.int (i:Nat),x])/\∀ xs,SqL K H a xs->xs[i]?=some x,fun i H=>∃ xs:List V,SqL K H a xs/\xs.length<=i⟩
theorem q9s{P:Program}{w:World}{K:PySem.W.Frag}{elts:List Expr}{kk:Nat}{tpos:Pos}(a e it:Addr):
  Turn P w K (.Tuple elts kk tpos) (Ite K a) [e,it] e (fun i h=>(∃ old,IsEnum h e it ((i:Nat):Int) old)/\h.IsListIter it a i/\e≠it) where
 mem:=by simp
 obj:=fun i h st b hb=>by
  obtain⟨⟨old,he⟩,⟨o,ho,hc,hd⟩,_⟩:=st
  have e':b=e\/b=it:=by simpa using hb
  rcases e' with z|z
  ·rw[z];exact⟨_,he,fun v q=>nomatch q⟩
  ·rw[z];exact⟨o,ho,fun v q=>by rw[hd] at q;cases q⟩
 keep:=fun i h h' st k=>let ⟨⟨old,he⟩,hi,hne⟩:=st;⟨⟨old,k e (by simp) _ he⟩,hi.at fun o q=>k it (by simp) o q,hne⟩
 item:=by
  intro X hP hw hK hc i pins s σ H E I hf st hg
  subst hP hw hK
  obtain⟨⟨old,he⟩,hit,hne⟩:=st
  obtain⟨xs,x,hq,hx⟩:=hg
  obtain⟨its,rv,p,hz⟩:=I.list hq
  obtain⟨u,hu,ru⟩:=rv.get hx
  have hel:e<s.heap.objs.size:=Jl he
  have hil:it<s.heap.objs.size:=by obtain⟨_,q,_⟩:=hit;exact Jl q
  refine wpAny_pyNext_enum_item he hit p.isList (x:=u) (by simpa using hu) hne fun h' ho qev hT hsz hk=>?_
  refine⟨_,rfl,wpAny_letOwnedTupleGo_enum (s:={ s with heap:=h',toks:=s.toks+1 }) ho fun h'' he' sb=>?_⟩
  have hT2:h''.get? s.heap.objs.size=some { cls:=.type "tuple",data:=.seq #[.int i s.toks,u] }:=(sb.2 _ (J5 hel)).trans hT
  have new:Qaf X.prog X.w (upd H s.heap.objs.size (.tup [.int (i:Nat),x])) h'' s.heap.objs.size (.tup [.int (i:Nat),x]):=
   ⟨by show 2<=sizeLine;decide,[.int i s.toks,u],.cons ⟨_,rfl⟩ (.cons ru .nil),⟨_,hT2,rfl,_,rfl⟩⟩
  have I1:Inv X pins σ (upd H s.heap.objs.size (.tup [.int (i:Nat),x])) { s with heap:=h'',toks:=s.toks+1 }:=
   I.qj7 (ch:=[e,it]) (fun b ob hb q=>(sb.2 b (fun z=>hb (by simp[z]))).trans (hk b ob (fun z=>hb (by simp[z])) (fun z=>hb (by simp[z])) q)) hf (Jp _) new
  refine⟨.ref s.heap.objs.size,_,I1,rfl,⟨_,x,rfl,I.hok.fresh (Jp _),rfl,fun ys hy=>by rw[I.qhm hy hq];exact hx⟩,⟨⟨u,?_⟩,qev.at fun o q=>(sb.2 it (Xb hne)).trans q,hne⟩,fun b hb=>?_⟩
  ·have e1:((i+1:Nat):Int)=(i:Int)+1:=by omega
   rw[e1];exact he'
  ·have hb':b<s.heap.objs.size:=by
    have e':b=e\/b=it:=by simpa using hb
    rcases e' with z|z
    ·rw[z];exact hel
    ·rw[z];exact hil
   rw[qc (Xl hb')]
   exact(hf b hb).1
 done:=by
  intro X hP hw hK hc i pins s σ H E I hf st hg
  subst hP hw hK
  obtain⟨⟨old,he⟩,hit,hne⟩:=st
  obtain⟨xs,hq,hx⟩:=hg
  obtain⟨its,rv,p,hz⟩:=I.list hq
  obtain⟨f0,f1,f2,f3,f4,f5⟩:=hf it (by simp)
  have hl:=rv.length
  exact wpAny_pyNext_enum_end (I.ok.hd hc) he hit p.isList (by simp;omega) fun h' eb=>⟨rfl,I.turned (t':=s.toks) (fun b o hb q=>eb b o hb q) f0 f1 f3 f4 f5⟩
 self:=fun A i s Q E st h=>let ⟨⟨_,he⟩,_⟩:=st;U8 he h
def iEnum(K:PySem.W.Frag)(ta:TA): TI:=fun σ H R=>ta σ H fun vs H1=>∃ a xs,vs=[.ref a]/\SqL K H1 a xs/\R (Ite K a) H1
theorem q46{X:Cx}{e:Expr}{ta:TA}{p pos tpos:Pos}{elts:List Expr}{kk:Nat}(hg:Gl X "enumerate")(hm:X.mg "enumerate" = none)(ha:PA X [e] ta)(hs:starEach [e] X.env=[(false,eval e X.env)]:=by rfl):
  PI X (.Tuple elts kk tpos) (.Call (.Name "enumerate" p) [e] [] pos) (iEnum X.K ta):=by
 intro pins s σ H R I h
 refine Call_ (qee I hg hm boot_enumerate (Yo (thn (ha pos pins s σ H _ I h) fun us s1 ⟨vs,H1,I1,r1,q1⟩=>?_) hs rfl))
 obtain⟨a,xs,ex,hq,q⟩:=q1
 subst ex
 cases r1 with
 | cons r rr=>
   cases rr
   cases r
   obtain⟨its,rv,p',hz⟩:=I1.list hq
   refine call_enumerate_list p'.isList fun h' he hit hsz hk=>U8 he ?_
   have I2:Inv X pins σ H1 { s1 with heap:=h' }:=I1.kept (t':=s1.toks) hk
   refine⟨s1.heap.objs.size+1,[s1.heap.objs.size+1,s1.heap.objs.size],_,_,H1,rfl,I2,q9s a (s1.heap.objs.size+1) s1.heap.objs.size,⟨⟨.none,he⟩,hit,Nat.succ_ne_self _⟩,fun b hb=>?_,q⟩
   have e':b=s1.heap.objs.size+1\/b=s1.heap.objs.size:=by simpa using hb
   have hle:s1.heap.objs.size<=b:=by
    rcases e' with z|z
    ·rw[z];exact Yj _ _
    ·rw[z];exact Jp _
   exact I1.qet hle (I1.hok.fresh hle)
theorem qkq:bootBuiltins "zip" = some (.type "zip"):=by decide +kernel
def Itz(K:PySem.W.Frag)(a b:Addr): It:=
 ⟨fun i H=>∃ (xs ys:List V) (x y:V),SqL K H a xs/\SqL K H b ys/\xs[i]?=some x/\ys[i]?=some y,
  fun i H v H'=>∃ T x y,v = .ref T/\H T=none/\H'=upd H T (.tup [x,y])/\(∀ xs,SqL K H a xs->xs[i]?=some x)/\∀ ys,SqL K H b ys->ys[i]?=some y,
  fun i H=>∃ xs ys:List V,SqL K H a xs/\SqL K H b ys/\(xs.length<=i\/ys.length<=i)⟩
theorem q90{P:Program}{w:World}{K:PySem.W.Frag}{elts:List Expr}{kk:Nat}{tpos:Pos}{a b z TI TO i1 i2:Addr}(D:ZipApart z TI TO i1 i2 a b):
  Turn P w K (.Tuple elts kk tpos) (Itz K a b) [z,TI,TO,i1,i2] z (fun i h=>IsZip h z TI TO .none/\IsPair h TI (.ref i1) (.ref i2)/\(∃ x y,IsPair h TO x y)/\h.IsListIter i1 a i/\h.IsListIter i2 b i) where
 mem:=by simp
 obj:=fun i h st c hc=>by
  obtain⟨hz,hTI,⟨x,y,hTO⟩,⟨o1,e1,_,d1⟩,⟨o2,e2,_,d2⟩⟩:=st
  have e':c=z\/c=TI\/c=TO\/c=i1\/c=i2:=by simpa using hc
  rcases e' with q|q|q|q|q
  ·rw[q];exact⟨_,hz,fun v q=>nomatch q⟩
  ·rw[q];exact⟨_,hTI,fun v q=>nomatch q⟩
  ·rw[q];exact⟨_,hTO,fun v q=>nomatch q⟩
  ·rw[q];exact⟨o1,e1,fun v q=>by rw[d1] at q;cases q⟩
  ·rw[q];exact⟨o2,e2,fun v q=>by rw[d2] at q;cases q⟩
 keep:=fun i h h' st k=>by
  obtain⟨hz,hTI,⟨x,y,hTO⟩,h1,h2⟩:=st
  exact⟨k z (by simp) _ hz,k TI (by simp) _ hTI,⟨x,y,k TO (by simp) _ hTO⟩,h1.at fun o q=>k i1 (by simp) o q,h2.at fun o q=>k i2 (by simp) o q⟩
 item:=by
  intro X hP hw hK hc i pins s σ H E I hf st hg
  subst hP hw hK
  obtain⟨hz,hTI,⟨x0,y0,hTO⟩,h1,h2⟩:=st
  obtain⟨xs,ys,x,y,hqx,hqy,hx,hy⟩:=hg
  obtain⟨its,rv,p,_⟩:=I.list hqx
  obtain⟨its2,rv2,p2,_⟩:=I.list hqy
  obtain⟨u,hu,ru⟩:=rv.get hx
  obtain⟨u2,hu2,ru2⟩:=rv2.get hy
  have hzl:z<s.heap.objs.size:=Jl hz
  refine wpAny_pyNext_zip_item D hz hTI hTO h1 h2 p.isList p2.isList (x:=u) (y:=u2) (by simpa using hu) (by simpa using hu2) fun h' z' TO' h1' h2' hT hsz hk=>?_
  refine⟨_,rfl,wpAny_letOwnedTupleGo_zip (s:={ s with heap:=h' }) z' fun h'' z'' sb=>?_⟩
  have hT2:h''.get? s.heap.objs.size=some { cls:=.type "tuple",data:=.seq #[u,u2] }:=(sb.2 _ (J5 hzl)).trans hT
  have new:Qaf X.prog X.w (upd H s.heap.objs.size (.tup [x,y])) h'' s.heap.objs.size (.tup [x,y]):=
   ⟨by show 2<=sizeLine;decide,[u,u2],.cons ru (.cons ru2 .nil),⟨_,hT2,rfl,_,rfl⟩⟩
  have I1:Inv X pins σ (upd H s.heap.objs.size (.tup [x,y])) { s with heap:=h'' }:=
   I.qj7 (t':=s.toks) (ch:=[z,TI,TO,i1,i2]) (fun c o hb q=>(sb.2 c (fun q'=>hb (by simp[q']))).trans (hk c o (fun q'=>hb (by simp[q'])) (fun q'=>hb (by simp[q'])) (fun q'=>hb (by simp[q'])) (fun q'=>hb (by simp[q'])) q)) hf (Jp _) new
  refine⟨.ref s.heap.objs.size,_,I1,rfl,⟨_,x,y,rfl,I.hok.fresh (Jp _),rfl,fun l hl=>by rw[I.qhm hl hqx];exact hx,fun l hl=>by rw[I.qhm hl hqy];exact hy⟩,⟨z'',?_,⟨u,u2,?_⟩,?_,?_⟩,fun c hcm=>?_⟩
  ·exact(sb.2 _ D.TIz).trans (hk _ _ D.TIz D.TITO D.TIi1 D.TIi2 hTI)
  ·exact(sb.2 _ D.TOz).trans TO'
  ·exact h1'.at fun o q=>(sb.2 _ D.i1z).trans q
  ·exact h2'.at fun o q=>(sb.2 _ D.i2z).trans q
  ·have hlt:c<s.heap.objs.size:=by
    have e':c=z\/c=TI\/c=TO\/c=i1\/c=i2:=by simpa using hcm
    rcases e' with q|q|q|q|q
    ·rw[q];exact hzl
    ·rw[q];exact Jl hTI
    ·rw[q];exact Jl hTO
    ·rw[q];obtain⟨_,e1,_⟩:=h1;exact Jl e1
    ·rw[q];obtain⟨_,e2,_⟩:=h2;exact Jl e2
   rw[qc (Xl hlt)]
   exact(hf c hcm).1
 done:=by
  intro X hP hw hK hc i pins s σ H E I hf st hg
  subst hP hw hK
  obtain⟨hz,hTI,⟨x0,y0,hTO⟩,h1,h2⟩:=st
  obtain⟨xs,ys,hqx,hqy,hend⟩:=hg
  obtain⟨its,rv,p,_⟩:=I.list hqx
  obtain⟨its2,rv2,p2,_⟩:=I.list hqy
  have l1:=rv.length
  have l2:=rv2.length
  have he:its.toArray[i]?=none\/its2.toArray[i]?=none:=by
   rcases hend with q|q
   ·exact .inl (by simp;omega)
   ·exact .inr (by simp;omega)
  exact wpAny_pyNext_zip_end (I.ok.hd hc) D hz hTI hTO h1 h2 p.isList p2.isList he fun h' hk=>⟨rfl,I.q91 (t':=s.toks) (ch:=[z,TI,TO,i1,i2]) (fun c o hb q=>
   hk c o (fun q'=>hb (by simp[q'])) (fun q'=>hb (by simp[q'])) (fun q'=>hb (by simp[q'])) (fun q'=>hb (by simp[q'])) q) hf⟩
 self:=fun A i s Q E st h=>wpAny_pyIter_zip st.1 h
def iZip(K:PySem.W.Frag)(ta:TA): TI:=fun σ H R=>ta σ H fun vs H1=>∃ a b xs ys,vs=[.ref a,.ref b]/\SqL K H1 a xs/\SqL K H1 b ys/\R (Itz K a b) H1
theorem qrk{X:Cx}{e e2:Expr}{ta:TA}{p pos tpos:Pos}{elts:List Expr}{kk:Nat}(hg:Gl X "zip")(hm:X.mg "zip" = none)(ha:PA X [e,e2] ta)
  (hs:starEach [e,e2] X.env=(false,eval e X.env)::starEach [e2] X.env:=by rfl)(hpl:(backTo pos (starEach [e2] X.env)).any (·.1)=false:=by rfl):
  PI X (.Tuple elts kk tpos) (.Call (.Name "zip" p) [e,e2] [] pos) (iZip X.K ta):=by
 intro pins s σ H R I h
 refine Call_ (qee I hg hm qkq (Yo (thn (ha pos pins s σ H _ I h) fun us s1 ⟨vs,H1,I1,r1,q1⟩=>?_) hs hpl))
 obtain⟨a,b,xs,ys,ex,hqx,hqy,q⟩:=q1
 subst ex
 cases r1 with
 | cons r rr=>
   cases rr with
   | cons r' rr=>
     cases rr
     cases r
     cases r'
     obtain⟨its,rv,p1,_⟩:=I1.list hqx
     obtain⟨its2,rv2,p2,_⟩:=I1.list hqy
     have la:a<s1.heap.objs.size:=p1.lt
     have lb:b<s1.heap.objs.size:=p2.lt
     refine call_zip_2 p1.isList p2.isList fun h' hz hTI hTO h1 h2 hsz hk=>wpAny_pyIter_zip hz ?_
     have I2:Inv X pins σ H1 { s1 with heap:=h' }:=I1.kept (t':=s1.toks) hk
     refine⟨s1.heap.objs.size+4,[s1.heap.objs.size+4,s1.heap.objs.size+2,s1.heap.objs.size+3,s1.heap.objs.size,s1.heap.objs.size+1],_,_,H1,rfl,I2,q90 (PySem.W.ktu_apart s1.heap.objs.size a b la lb),⟨hz,hTI,⟨_,_,hTO⟩,h1,h2⟩,fun c hcm=>?_,q⟩
     have e':c=s1.heap.objs.size+4\/c=s1.heap.objs.size+2\/c=s1.heap.objs.size+3\/c=s1.heap.objs.size\/c=s1.heap.objs.size+1:=by simpa using hcm
     have hle:s1.heap.objs.size<=c:=by
      rcases e' with z|z|z|z|z
      ·rw[z];exact Yj _ _
      ·rw[z];exact Yj _ _
      ·rw[z];exact Yj _ _
      ·rw[z];exact Jp _
      ·rw[z];exact Yj _ _
     exact I1.qet hle (I1.hok.fresh hle)
end L2
section
namespace Bits
open PySem PyProof.Rows
end Bits
end
section
namespace TL
open PySem PySem.Builtin PySem.Builtin.Str PySem.StrLaws
end TL
end
namespace L2
open PySem PySem.Spec PyProof.Rows
end L2
namespace Att
open PySem PySem.W PySem.Calls PyProof.Rows
end Att
namespace L2
open PySem PySem.Spec PyProof.Rows
end L2
section
set_option maxHeartbeats 2000000
namespace L2
open PySem PySem.Spec PyProof.Rows
open PySem.W (WData Codec OpenSpec Well WellAll ReadsW ReadsAllW)
mutual
inductive Dw(K:PySem.W.Frag)(H:Hp): V->WData->Prop
 |non:Dw K H .non .none
 |bl (b:Bool):Dw K H (.bl b) (.bool b)
 |int (i:Int):Dw K H (.int i) (.int i)
 |str (x:Str):Dw K H (.str x) (.str x)
 |byt (b:Array UInt8):Dw K H (.byt b) (.bytes b.toList)
 |lst {a:Addr} {xs:List V} {ds:List WData}:SqL K H a xs->Qcr K H xs ds->Dw K H (.ref a) (.list ds)
 |tup {a:Addr} {xs:List V} {ds:List WData}:SqT K H a xs->Qcr K H xs ds->Dw K H (.ref a) (.tuple ds)
inductive Qcr(K:PySem.W.Frag)(H:Hp): List V->List WData->Prop
 |nil:Qcr K H [] []
 |cons {v:V} {vs:List V} {d:WData} {ds:List WData}:Dw K H v d->Qcr K H vs ds->Qcr K H (v::vs) (d::ds)
end
theorem qo9{K:PySem.W.Frag}{H:Hp}: ∀ ns:List Int,Qcr K H (ns.map V.int) (ns.map WData.int)
 |[]=>.nil
 |n::r=>.cons (.int n) (qo9 r)
theorem qp5{K:PySem.W.Frag}{H:Hp}: ∀ (ns:List Int) (xs:List V),Qcr K H xs (ns.map WData.int)->xs=ns.map V.int
 | [],xs,h=>by
   cases h
   rfl
 | n::r,xs,h=>by
   cases h with
   | cons h1 h2=>
     cases h1
     rw[qp5 r _ h2]<;>rfl
section
variable {P:Program} {w:World} {K:PySem.W.Frag} {H:Hp} {h:Heap} {R:PySem.W.WRecords} {cl:Str->Option Addr}
theorem sqL_at{a:Addr}{xs:List V}(hok:HOk P w H h)(KX:K.In h)(q:SqL K H a xs): ∃ (its:List Value) (o:Obj) (n:Nat),Vals xs its/\h.get? a=some o/\o.cls = .type "list"/\o.data = .seq its.toArray n:=by
 rcases q with q|⟨o,its,n,e,hc,_,hd,_,hv⟩
 ·obtain⟨_,its,n,hv,e⟩:=(show Qaf P w H h a (.lst xs) from q.ok hok)
  exact⟨its,_,n,hv,e,rfl,rfl⟩
 ·exact⟨its.toList,o,n,hv,KX _ _ e,hc,by simp[hd]⟩
theorem sqT_at{a:Addr}{xs:List V}(hok:HOk P w H h)(KX:K.In h)(q:SqT K H a xs): ∃ (its:List Value) (o:Obj) (n:Nat),Vals xs its/\h.get? a=some o/\o.cls = .type "tuple"/\o.data = .seq its.toArray n:=by
 rcases q with q|⟨o,its,n,e,hc,hd,_,hv⟩
 ·obtain⟨_,its,hv,o,e,hc,n,hd⟩:=(show Qaf P w H h a (.tup xs) from q.ok hok)
  exact⟨its,o,n,hv,e,hc,hd⟩
 ·exact⟨its.toList,o,n,hv,KX _ _ e,hc,by simp[hd]⟩
mutual
theorem Dw.reads(hok:HOk P w H h)(KX:K.In h): ∀ (d:WData) (v:V) (u:Value),Dw K H v d->RelV v u->∃ as,ReadsW R cl h u d as
 | .none,_,_,x,r=>by
   cases x
   cases r
   exact⟨_,ReadsW.none⟩
 | .bool b,_,_,x,r=>by
   cases x
   cases r
   exact⟨_,ReadsW.bool b⟩
 | .int i,_,_,x,r=>by
   cases x
   obtain⟨t,rfl⟩:=r
   exact⟨_,ReadsW.int i t⟩
 | .str s,_,_,x,r=>by
   cases x
   obtain⟨t,rfl⟩:=r
   exact⟨_,ReadsW.str s t⟩
 | .bytes b,_,_,x,r=>by
   cases x
   obtain⟨t,rfl⟩:=r
   exact⟨_,ReadsW.bytes _ t⟩
 | .list ds,_,_,x,r=>by
   cases x with
   | lst hs ha=>
     cases r
     obtain⟨its,o,n,rv,ho,hc,hd⟩:=sqL_at hok KX hs
     obtain⟨as,hr⟩:=Dw.readsAll hok KX ds _ its ha rv
     exact⟨_,ReadsW.list ho hc hd hr⟩
 | .tuple ds,_,_,x,r=>by
   cases x with
   | tup hs ha=>
     cases r
     obtain⟨its,o,n,rv,ho,hc,hd⟩:=sqT_at hok KX hs
     obtain⟨as,hr⟩:=Dw.readsAll hok KX ds _ its ha rv
     exact⟨_,ReadsW.tuple ho hc hd hr⟩
 | .float _,_,_,x,_=>by cases x
 | .dict _,_,_,x,_=>by cases x
 | .bytearray _,_,_,x,_=>by cases x
 | .set _,_,_,x,_=>by cases x
 | .frozenset _,_,_,x,_=>by cases x
 | .obj _ _,_,_,x,_=>by cases x
theorem Dw.readsAll(hok:HOk P w H h)(KX:K.In h): ∀ (ds:List WData) (vs:List V) (us:List Value),Qcr K H vs ds->Vals vs us->∃ as,ReadsAllW R cl h us ds as
 | [],_,_,x,r=>by
   cases x
   cases r
   exact⟨_,ReadsAllW.nil⟩
 | d::ds,_,_,x,r=>by
   cases x with
   | cons h1 h2=>
     cases r with
     | cons r1 r2=>
       obtain⟨as,q1⟩:=Dw.reads hok KX d _ _ h1 r1
       obtain⟨bs,q2⟩:=Dw.readsAll hok KX ds _ _ h2 r2
       exact⟨_,ReadsAllW.cons q1 q2⟩
end
end
mutual
def plW:WData->Bool
 | .none=>true
 | .bool _=>true
 | .int _=>true
 | .str _=>true
 | .bytes _=>true
 | .list xs=>qc4 xs
 | .tuple xs=>qc4 xs
 |_=>false
def qc4:List WData->Bool
 |[]=>true
 |x::r=>plW x&&qc4 r
end
theorem qrm{α:Type}{f:α->WData}(h:∀ a,plW (f a)=true): ∀ l:List α,qc4 (l.map f)=true
 |[]=>rfl
 | x::r=>by
   show (plW (f x)&&qc4 (r.map f))=true
   rw[h x,qrm h r]<;>rfl
theorem qez:∀ (c:Codec) (a:c.denote),plW (c.enc a)=true
 | .unit,_=>rfl
 | .bool,_=>rfl
 | .int _ _,_=>rfl
 | .nat _ _,_=>rfl
 | .u8,_=>rfl
 | .bytes _ _,_=>rfl
 | .text _ _ _ _,_=>rfl
 | .list _ _ c,a=>qrm (fun x=>qez c x) a
 | .pair c d,a=>by
   show (plW (c.enc a.1)&&(plW (d.enc a.2)&&true))=true
   rw[qez c a.1,qez d a.2]<;>rfl
 | .triple c d e,a=>by
   show (plW (c.enc a.1)&&(plW (d.enc a.2.1)&&(plW (e.enc a.2.2)&&true)))=true
   rw[qez c a.1,qez d a.2.1,qez e a.2.2]<;>rfl
 | .option c,none=>rfl
 | .option c,some x=>qez c x
theorem qrn:∀ (cs:List Codec) (a:Codec.denoteAll cs),qc4 (Codec.encAll cs a)=true
 |[],_=>rfl
 | c::cs,a=>by
   show (plW (c.enc a.1)&&qc4 (Codec.encAll cs a.2))=true
   rw[qez c a.1,qrn cs a.2]<;>rfl
theorem qny:∀ {xs:List WData} {d:WData},d∈xs->d.weight<=WData.weightAll xs
 |[],d,h=>absurd h (by simp)
 | x::r,d,h=>by
   show d.weight<=x.weight+1+WData.weightAll r
   rcases Jf.mp h with e|m
   ·rw[e]
    omega
   ·have z:=qny m
    omega
def toV:Value->V
 | .none=>.non
 | .bool b=>.bl b
 | .int i _=>.int i
 | .str x _=>.str x
 | .bytes b _=>.byt b
 | .ref a=>.ref a
 |_=>.non
def OkU(A:List Addr): Value->Prop
 | .none=>True
 | .bool _=>True
 | .int _ _=>True
 | .str _ _=>True
 | .bytes _ _=>True
 | .ref a=>a∈A
 |_=>False
theorem OkU.mono{A B:List Addr}(h:∀ a∈A,a∈B): ∀ {u:Value},OkU A u->OkU B u:=fun {u} x=>by
 cases u with
 |ref a=>exact h a x
 |none=>trivial
 |bool b=>trivial
 |int i t=>trivial
 |str s t=>trivial
 |bytes b t=>trivial
 |_=>exact False.elim x
theorem q5p{A:List Addr}{u:Value}(x:OkU A u): RelV (toV u) u:=by
 cases u with
 |ref a=>rfl
 |none=>rfl
 |bool b=>rfl
 |int i t=>exact⟨t,rfl⟩
 |str s t=>exact⟨t,rfl⟩
 |bytes b t=>exact⟨t,rfl⟩
 |_=>exact False.elim x
theorem qg2{A:List Addr}: ∀ {vs:List Value},(∀ u∈vs,OkU A u)->Vals (vs.map toV) vs
 |[],_=>.nil
 |u::r,h=>.cons (q5p (h u (Jh ..))) (qg2 fun x hx=>h x (Jm _ hx))
def Qcq(h:Heap)(A:List Addr)(a:Addr): Prop:=∃ vs:List Value,vs.length<=sizeLine/\(∀ u∈vs,OkU A u) /\
 (h.get? a=some { cls:=.type "list",data:=.seq vs.toArray }\/h.get? a=some { cls:=.type "tuple",data:=.seq vs.toArray })
theorem Qcq.mono{h:Heap}{A B:List Addr}{a:Addr}(k:∀ a∈A,a∈B)(x:Qcq h A a): Qcq h B a:=by
 obtain⟨vs,h1,h2,h3⟩:=x
 exact⟨vs,h1,fun u hu=>(h2 u hu).mono k,h3⟩
theorem qkb{P:Params}{h:Heap}: ∀ {vs:List Value} {ds:List WData},WellAll P h vs ds->vs.length=ds.length
 |_,_,.nil=>rfl
 | _,_,.cons _ b=>by
   show _+1=_+1
   rw[qkb b]
theorem qvt{P:Params}{h:Heap}{v:Value}{ds:List WData}(x:Well P h v (.list ds)): ∃ (a:Addr) (vs:List Value),v = .ref a/\h.get? a=some { cls:=.type "list",data:=.seq vs.toArray }/\WellAll P h vs ds:=by
 cases x with
 |list ho hall=>exact⟨_,_,rfl,ho,hall⟩
theorem qvu{P:Params}{h:Heap}{v:Value}{ds:List WData}(x:Well P h v (.tuple ds)): ∃ (a:Addr) (vs:List Value),v = .ref a/\h.get? a=some { cls:=.type "tuple",data:=.seq vs.toArray }/\WellAll P h vs ds:=by
 cases x with
 |tuple ho hall=>exact⟨_,_,rfl,ho,hall⟩
theorem qvs{P:Params}{h:Heap}{us:List Value}{d:WData}{ds:List WData}(x:WellAll P h us (d::ds)): ∃ (v:Value) (vs:List Value),us=v::vs/\Well P h v d/\WellAll P h vs ds:=by
 cases x with
 |cons a b=>exact⟨_,_,rfl,a,b⟩
theorem qqr{n:Nat}(h:n<=1048576): n<=sizeLine:=Xd h (by decide)
section
variable {P:Params} {h:Heap}
mutual
theorem qv5:∀ (d:WData) (v:Value),Well P h v d->plW d=true->d.weight<=1048576->∃ A:List Addr,OkU A v/\∀ a∈A,Qcq h A a
 | .none,_,x,_,_=>by
   cases x
   exact⟨[],trivial,fun a m=>absurd m (by simp)⟩
 | .bool b,_,x,_,_=>by
   cases x
   exact⟨[],trivial,fun a m=>absurd m (by simp)⟩
 | .int i,_,x,_,_=>by
   cases x
   exact⟨[],trivial,fun a m=>absurd m (by simp)⟩
 | .str s,_,x,_,_=>by
   cases x
   exact⟨[],trivial,fun a m=>absurd m (by simp)⟩
 | .bytes b,_,x,_,_=>by
   cases x
   exact⟨[],trivial,fun a m=>absurd m (by simp)⟩
 | .list ds,_,x,p,z=>by
   obtain⟨a,vs,rfl,ho,hall⟩:=qvt x
   have z2:WData.weightAll ds<=1048576:=z
   obtain⟨A,h1,h2⟩:=qij ds _ hall p fun d hd=>Xd (qny hd) z2
   have k:∀ b∈A,b∈a::A:=fun b hb=>Jm _ hb
   refine⟨a::A,Jh ..,fun b hb=>?_⟩
   rcases Jf.mp hb with e|m
   ·rw[e]
    exact⟨vs,qqr (by rw[qkb hall];exact Xd (PySem.W.length_le_weightAllW ds) z2),fun u hu=>(h1 u hu).mono k,.inl ho⟩
   ·exact(h2 b m).mono k
 | .tuple ds,_,x,p,z=>by
   obtain⟨a,vs,rfl,ho,hall⟩:=qvu x
   have z2:WData.weightAll ds<=1048576:=z
   obtain⟨A,h1,h2⟩:=qij ds _ hall p fun d hd=>Xd (qny hd) z2
   have k:∀ b∈A,b∈a::A:=fun b hb=>Jm _ hb
   refine⟨a::A,Jh ..,fun b hb=>?_⟩
   rcases Jf.mp hb with e|m
   ·rw[e]
    exact⟨vs,qqr (by rw[qkb hall];exact Xd (PySem.W.length_le_weightAllW ds) z2),fun u hu=>(h1 u hu).mono k,.inr ho⟩
   ·exact(h2 b m).mono k
 | .float _,_,_,p,_=>Bool.noConfusion (show false=true from p)
 | .dict _,_,_,p,_=>Bool.noConfusion (show false=true from p)
 | .bytearray _,_,_,p,_=>Bool.noConfusion (show false=true from p)
 | .set _,_,_,p,_=>Bool.noConfusion (show false=true from p)
 | .frozenset _,_,_,p,_=>Bool.noConfusion (show false=true from p)
 | .obj _ _,_,_,p,_=>Bool.noConfusion (show false=true from p)
theorem qij:∀ (ds:List WData) (vs:List Value),WellAll P h vs ds->qc4 ds=true->(∀ d∈ds,d.weight<=1048576)->∃ A:List Addr,(∀ u∈vs,OkU A u)/\∀ a∈A,Qcq h A a
 | [],_,x,_,_=>by
   cases x
   exact⟨[],fun u m=>absurd m (by simp),fun a m=>absurd m (by simp)⟩
 | d::ds,_,x,p,z=>by
   obtain⟨v,vs,rfl,x1,x2⟩:=qvs x
   have q:plW d=true/\qc4 ds=true:=Bool.and_eq_true_iff.mp p
   obtain⟨A,a1,a2⟩:=qv5 d v x1 q.1 (z d (Jh ..))
   obtain⟨B,b1,b2⟩:=qij ds vs x2 q.2 fun e he=>z e (Jm _ he)
   have kA:∀ b∈A,b∈A++B:=fun b hb=>J4.mpr (.inl hb)
   have kB:∀ b∈B,b∈A++B:=fun b hb=>J4.mpr (.inr hb)
   refine⟨A++B,fun u hu=>?_,fun b hb=>?_⟩
   ·rcases Jf.mp hu with e|m
    ·rw[e]
     exact a1.mono kA
    ·exact(b1 u m).mono kB
   ·rcases J4.mp hb with m|m
    ·exact(a2 b m).mono kA
    ·exact(b2 b m).mono kB
end
end
def hoOf(o:Obj): Option HO:=match o.data with
 | .seq vs _=>if (o.cls==Value.type "list")=true then some (.frz o (.lst (vs.toList.map toV))) else some (.frz o (.tup (vs.toList.map toV)))
 |_=>none
def qbg(K:PySem.W.Frag)(h:Heap)(A:List Addr): Hp:=fun b=>if b∈A then (if (K.lookup b).isNone=true then (h.get? b).bind hoOf else none) else none
def Qg9(H:Hp): Prop:=∀ b,H b=none\/∃ o u,H b=some (.frz o u)
theorem qpt(vs:List Value): hoOf { cls:=.type "list",data:=.seq vs.toArray }=some (.frz { cls:=.type "list",data:=.seq vs.toArray } (.lst (vs.map toV))):=by
 show (if (Value.type "list" == Value.type "list")=true then some (HO.frz { cls:=.type "list",data:=.seq vs.toArray } (.lst (vs.toArray.toList.map toV))) else some (HO.frz { cls:=.type "list",data:=.seq vs.toArray } (.tup (vs.toArray.toList.map toV))))=_
 rw[Je (beq_self_eq_true _)]
theorem qpu(vs:List Value): hoOf { cls:=.type "tuple",data:=.seq vs.toArray }=some (.frz { cls:=.type "tuple",data:=.seq vs.toArray } (.tup (vs.map toV))):=by
 show (if (Value.type "tuple" == Value.type "list")=true then some (HO.frz { cls:=.type "tuple",data:=.seq vs.toArray } (.lst (vs.toArray.toList.map toV))) else some (HO.frz { cls:=.type "tuple",data:=.seq vs.toArray } (.tup (vs.toArray.toList.map toV))))=_
 rw[Jc (by decide)]
section
variable {P:Program} {w:World} {K:PySem.W.Frag} {h:Heap} {A:List Addr}
theorem qik{b:Addr}{o:Obj}(hb:b∈A)(hk:K.lookup b=none)(e:h.get? b=some o): qbg K h A b=hoOf o:=by
 unfold qbg
 rw[Je hb,hk,Je (show (none:Option Obj).isNone=true from rfl),e]<;>rfl
theorem q4k{b:Addr}{u:HO}(q:qbg K h A b=some u): b∈A/\K.lookup b=none:=by
 unfold qbg at q
 by_cases hb:b∈A
 ·rw[Je hb] at q
  cases hk:K.lookup b with
  |none=>exact⟨hb,rfl⟩
  | some o=>
    rw[hk,Jc (by simp)] at q
    cases q
 ·rw[Jc hb] at q
  cases q
theorem qil(ar:∀ a∈A,Qcq h A a){b:Addr}{u:HO}(q:qbg K h A b=some u): K.lookup b=none/\∃ vs:List Value,vs.length<=sizeLine/\(∀ u∈vs,OkU A u) /\
  ((h.get? b=some { cls:=.type "list",data:=.seq vs.toArray }/\u = .frz { cls:=.type "list",data:=.seq vs.toArray } (.lst (vs.map toV))) \/
   (h.get? b=some { cls:=.type "tuple",data:=.seq vs.toArray }/\u = .frz { cls:=.type "tuple",data:=.seq vs.toArray } (.tup (vs.map toV)))):=by
 obtain⟨hb,hk⟩:=q4k q
 obtain⟨vs,h1,h2,h3⟩:=ar b hb
 refine⟨hk,vs,h1,h2,?_⟩
 rcases h3 with e|e
 ·rw[qik hb hk e,qpt] at q
  exact .inl ⟨e,(Jj q).symm⟩
 ·rw[qik hb hk e,qpu] at q
  exact .inr ⟨e,(Jj q).symm⟩
theorem qv7(ar:∀ a∈A,Qcq h A a): Qg9 (qbg K h A):=fun b=>by
 cases q:qbg K h A b with
 |none=>exact .inl rfl
 | some u=>
   obtain⟨_,vs,_,_,⟨_,e⟩|⟨_,e⟩⟩:=qil ar q
   ·exact .inr ⟨_,_,by rw[e]⟩
   ·exact .inr ⟨_,_,by rw[e]⟩
theorem qv6(ar:∀ a∈A,Qcq h A a): HOk P w (qbg K h A) h:=fun b u q=>by
 obtain⟨_,vs,h1,h2,⟨e,rfl⟩|⟨e,rfl⟩⟩:=qil ar q
 ·exact⟨e,by rw[Jd];exact h1,vs,_,qg2 h2,e⟩
 ·exact⟨e,by rw[Jd];exact h1,vs,qg2 h2,_,e,rfl,_,rfl⟩
theorem qjy{c c':Value}{vs us:List Value}(e:(some { cls:=c,data:=.seq vs.toArray }:Option Obj)=some { cls:=c',data:=.seq us.toArray }): c=c'/\vs=us:=by
 have e1:=Jj e
 have e2:c=c':=Ym Obj.cls e1
 have e3:Data.seq vs.toArray=Data.seq us.toArray:=Ym Obj.data e1
 injection e3 with e4
 refine⟨e2,?_⟩
 have e5:=Ym Array.toList e4
 simpa using e5
theorem argL(KX:K.In h)(ar:∀ a∈A,Qcq h A a){a:Addr}{vs:List Value}(ha:a∈A)(e:h.get? a=some { cls:=.type "list",data:=.seq vs.toArray }): (∀ u∈vs,OkU A u)/\SqL K (qbg K h A) a (vs.map toV):=by
 obtain⟨us,h1,h2,h3⟩:=ar a ha
 have hu:us=vs:=by
  rcases h3 with q|q
  ·rw[e] at q
   exact(qjy q).2.symm
  ·rw[e] at q
   exact absurd (Value.type.inj (qjy q).1) (by decide)
 subst hu
 refine⟨h2,?_⟩
 cases hk:K.lookup a with
 |none=>exact .inl (.inr ⟨_,by rw[qik ha hk e,qpt]⟩)
 | some o=>
   have e2:=KX a o hk
   rw[e] at e2
   obtain rfl:=Jj e2
   exact .inr ⟨_,us.toArray,_,hk,rfl,rfl,rfl,by rw[J8];exact h1,by simpa using qg2 h2⟩
theorem argT(KX:K.In h)(ar:∀ a∈A,Qcq h A a){a:Addr}{vs:List Value}(ha:a∈A)(e:h.get? a=some { cls:=.type "tuple",data:=.seq vs.toArray }): (∀ u∈vs,OkU A u)/\SqT K (qbg K h A) a (vs.map toV):=by
 obtain⟨us,h1,h2,h3⟩:=ar a ha
 have hu:us=vs:=by
  rcases h3 with q|q
  ·rw[e] at q
   exact absurd (Value.type.inj (qjy q).1) (by decide)
  ·rw[e] at q
   exact(qjy q).2.symm
 subst hu
 refine⟨h2,?_⟩
 cases hk:K.lookup a with
 |none=>exact .inl (.inr ⟨_,by rw[qik ha hk e,qpu]⟩)
 | some o=>
   have e2:=KX a o hk
   rw[e] at e2
   obtain rfl:=Jj e2
   exact .inr ⟨_,us.toArray,_,hk,rfl,rfl,by rw[J8];exact h1,by simpa using qg2 h2⟩
mutual
theorem dw_one{Pm:Params}(KX:K.In h)(ar:∀ a∈A,Qcq h A a): ∀ (d:WData) (v:Value),Well Pm h v d->plW d=true->OkU A v->Dw K (qbg K h A) (toV v) d
 | .none,_,x,_,_=>by
   cases x
   exact .non
 | .bool b,_,x,_,_=>by
   cases x
   exact .bl b
 | .int i,_,x,_,_=>by
   cases x
   exact .int i
 | .str s,_,x,_,_=>by
   cases x
   exact .str s
 | .bytes b,_,x,_,_=>by
   cases x
   have z:=Dw.byt (K:=K) (H:=qbg K h A) b.toArray
   exact z
 | .list ds,_,x,p,hu=>by
   obtain⟨a,vs,rfl,ho,hall⟩:=qvt x
   obtain⟨h2,hs⟩:=argL KX ar hu ho
   exact .lst hs (qit KX ar ds _ hall p h2)
 | .tuple ds,_,x,p,hu=>by
   obtain⟨a,vs,rfl,ho,hall⟩:=qvu x
   obtain⟨h2,hs⟩:=argT KX ar hu ho
   exact .tup hs (qit KX ar ds _ hall p h2)
 | .float _,_,_,p,_=>Bool.noConfusion (show false=true from p)
 | .dict _,_,_,p,_=>Bool.noConfusion (show false=true from p)
 | .bytearray _,_,_,p,_=>Bool.noConfusion (show false=true from p)
 | .set _,_,_,p,_=>Bool.noConfusion (show false=true from p)
 | .frozenset _,_,_,p,_=>Bool.noConfusion (show false=true from p)
 | .obj _ _,_,_,p,_=>Bool.noConfusion (show false=true from p)
theorem qit{Pm:Params}(KX:K.In h)(ar:∀ a∈A,Qcq h A a): ∀ (ds:List WData) (vs:List Value),WellAll Pm h vs ds->qc4 ds=true->(∀ u∈vs,OkU A u)->Qcr K (qbg K h A) (vs.map toV) ds
 | [],_,x,_,_=>by
   cases x
   exact .nil
 | d::ds,_,x,p,hu=>by
   obtain⟨v,vs,rfl,x1,x2⟩:=qvs x
   have q:plW d=true/\qc4 ds=true:=Bool.and_eq_true_iff.mp p
   exact .cons (dw_one KX ar d v x1 q.1 (hu _ (Jh ..))) (qit KX ar ds vs x2 q.2 fun u m=>hu u (Jm _ m))
end
end
theorem q8l{P:Program}{w:World}{K:PySem.W.Frag}{mg mb:Str->Option Value}{CX:CXT}{k:Nat}{fa:Addr}{fd:FuncData}{ps:List Str}{sp:Sp}{s₁:Shared}{vals:List Value}{ds:List WData}{R:PySem.W.WRecords}{cl:Str->Option Addr}{d0:WData}
  (KX:K.In s₁.heap)(hns:s₁.heap.Ns mainGlobals mg)(hb:s₁.heap.Ns builtinsNs mb)(hbb:∀ x:Str,x≠"__name__"->mb x=bootBuiltins x)(hlim:s₁.heap.NoLimit)(hg:s₁.gens = #[])
  (hwl:WellAll w.params s₁.heap vals ds)(hpl:qc4 ds=true)(hwt:∀ d∈ds,d.weight<=1048576)(hr:Qaa k callerA)
  (F:∀ base:Heap,K.In base->base.Ns mainGlobals mg->Qbw P w K mg base CX k fa fd ps sp)(hbind:∀ (s:Shared) (us:List Value),us.length=ps.length->BindsTo s fd ⟨us,[]⟩ (ps.zip us))(hlen:ds.length=ps.length)
  (hsp:∀ (H:Hp) (xs:List V),Qg9 H->Qcr K H xs ds->sp xs H (fun v H'=>Dw K H' v d0) fun _ _ _=>False)
  (hCX:∀ H e s',CX [] H s₁ (fun _ _ _=>False) e s'->False):
  codeAny (model P w) callerA (.call (.ref fa) ⟨vals,[]⟩) (fun r s'=>∃ u as,r = .ok (.ret u)/\ReadsW R cl s'.heap u d0 as/\OldK s₁.heap s'.heap/\s'.os=s₁.os/\AllBare s'.gens) s₁:=by
 obtain⟨A,ho,ar⟩:=qij ds vals hwl hpl hwt
 have hO:Qg9 (qbg K s₁.heap A):=qv7 ar
 have hok:HOk P w (qbg K s₁.heap A) s₁.heap:=qv6 ar
 have hS:=qit KX ar ds vals hwl hpl ho
 have hV:=qg2 ho
 have hK:∀ b u,qbg K s₁.heap A b=some u->K.lookup b=none:=fun b u q=>(qil ar q).1
 have noA:∀ {b:Addr} {o:Obj} {es:Array DictEntry} {ep:Nat},s₁.heap.get? b=some o->o.data = .dict es ep->qbg K s₁.heap A b=none:=fun {b o es ep} e d=>by
  cases q:qbg K s₁.heap A b with
  |none=>rfl
  | some u=>
    obtain⟨_,vs,_,_,⟨e2,_⟩|⟨e2,_⟩⟩:=qil ar q
    ·rw[e2] at e
     cases e
     have d':Data.seq vs.toArray _=Data.dict es ep:=d
     cases d'
    ·rw[e2] at e
     cases e
     have d':Data.seq vs.toArray _=Data.dict es ep:=d
     cases d'
 generalize qbg K s₁.heap A=H at hO hok hS hK noA
 have qog:∀ {b:Addr} {o:Obj},s₁.heap.get? b=some o->H b=none->(qec s₁.heap H).get? b=some o:=fun e n=>q18 e n
 have nsK:∀ {b:Addr} {m:Str->Option Value},s₁.heap.Ns b m->(qec s₁.heap H).Ns b m:=fun {b m} ⟨o,es,ep,e,d,r⟩=>⟨o,es,ep,qog e (noA e d),d,r⟩
 have nK:∀ b o,K.lookup b=some o->H b=none:=fun b o e=>by
  cases q:H b with
  |none=>rfl
  | some u=>
    rw[hK b u q] at e
    cases e
 have hKb:K.In (qec s₁.heap H):=fun b o e=>qog (KX b o e) (nK b o e)
 have hM:Mod K mg (qec s₁.heap H):=⟨hKb,nsK hns,⟨mb,nsK hb,hbb⟩,let ⟨mc,h1,h2⟩:=hlim;⟨mc,nsK h1,h2⟩⟩
 have e0:Qe9 P w K mg (qec s₁.heap H) callerA [] s₁ H:=⟨rfl,hM,fun b o e=>q4l e,Qp (q19 _ _),trivial,fun b hb=>absurd (show b∈([]:List Addr) from hb) (by simp),hok,.of_eq hg⟩
 have hl:vals.length=ps.length:=by rw[qkb hwl];exact hlen
 refine Uq ((F _ hKb (nsK hns)).run callerA [] s₁ H ⟨vals,[]⟩ vals (vals.map toV) _ _ hr e0 (hbind s₁ vals hl) hV (hsp H _ hO hS)) fun r s' x=>?_
 cases r with
 |error e=>exact(hCX H e s' x).elim
 | ok fl=>
   cases fl with
   |next=>exact False.elim x
   |brk=>exact False.elim x
   |cont=>exact False.elim x
   | ret u=>
     obtain⟨v,H',os,bare,un,hok',r',q⟩:=x
     have kept:∀ b o,s₁.heap.get? b=some o->s'.heap.get? b=some o:=fun b o e=>by
      cases q2:H b with
      |none=>exact un.keep b o e q2 (by intro z;exact absurd (show b∈([]:List Addr) from z) (by simp)) (by simp)
      | some u2=>
        rcases hO b with z|⟨ob,u3,z⟩
        ·rw[q2] at z
         cases z
        ·have z2:=un.qda b ob _ z
         obtain⟨e1,_⟩:=hok b _ z
         obtain⟨e2,_⟩:=hok' b _ z2
         rw[e] at e1
         cases e1
         exact e2
     have KX':K.In s'.heap:=fun b o e=>kept b o (KX b o e)
     obtain⟨as,hrd⟩:=Dw.reads (R:=R) (cl:=cl) hok' KX' d0 v u q r'
     exact⟨u,as,rfl,hrd,OldK.of_keep kept,os,bare⟩
theorem q23{ds:List WData}(h:WData.layableAll ds=true): ∀ d∈ds,d.weight<=1048576:=fun d hd=>
 (PySem.W.layableW_iff.mp (Wi.mp h d hd)).2.2
theorem qpa:∀ (cs:List Codec) (a:Codec.denoteAll cs),(Codec.encAll cs a).length=cs.length
 |[],_=>rfl
 | c::cs,a=>by
   show (Codec.encAll cs a.2).length+1=cs.length+1
   rw[qpa cs a.2]
theorem zad{r:OpenSpec}{k:Nat}{q:Program}{loose:List Str}{XP:(Str->Option Value)->Heap->Prop}{YP:World->Heap->Prop}{d:DefRec}{K:Params->PySem.W.Frag}{CX:World->CXT}{ps:List Str}{sp:World->Sp}
  (qlx:r.wellSaid=true)(hdf:d.params.defaults=[])(hlen:r.args.length=ps.length)(hr:Qaa k callerA)
  (hY:∀ (w:World) (h:Heap),YP w h->(K w.params).In h)
  (F:∀ (w:World) (mg:Str->Option Value) (fa:Addr) (h:Heap),YP w h->(K w.params).In h->h.Ns mainGlobals mg->mg d.name=some (.ref fa) ->
   ∃ fd:FuncData,(∀ (s:Shared) (us:List Value),us.length=ps.length->BindsTo s fd ⟨us,[]⟩ (ps.zip us)) /\
     ∀ base:Heap,(K w.params).In base->base.Ns mainGlobals mg->Qbw r.prog w (K w.params) mg base (CX w) k fa fd ps (sp w))
  (hsp:∀ (w:World) (H:Hp) (xs:List V) (a:Codec.denoteAll r.args),Qg9 H->Codec.withinAll r.args a=true->Codec.app r.args r.asked a=true->Qcr (K w.params) H xs (Codec.encAll r.args a) ->
   sp w xs H (fun v H'=>Dw (K w.params) H' v (r.ret.enc (Codec.app r.args r.f a))) fun _ _ _=>False)
  (hCX:∀ (w:World) (H:Hp) (s:Shared) (e:Value) (s':Shared),CX w [] H s (fun _ _ _=>False) e s'->False):
  PySem.W.WalkOS q loose XP YP r d [] (fun f vs=>PySem.call f vs):=by
 intro w s_0 s₁ mg mb G Y fa o pm cd doc dV kV ho hd hcd hD hmg hg args vals as hpre hlay hrd hwl hlo
 obtain⟨a,e1,e2⟩:=PySem.W.os_pre_some hpre
 obtain⟨e3,hwi⟩:=Codec.encAll_of_decAll r.args args a e1
 subst e3
 have KX:=hY w _ Y
 obtain⟨fd,hb,hF⟩:=F w mg fa _ Y KX G.T.g hmg
 refine PySem.W.enter_call (Uq (q8l (R:=[]) (cl:=classAt s_0.heap) (d0:=r.ret.enc (Codec.app r.args r.f a)) KX G.T.g G.T.b G.T.builtins G.T.nolimit hg hwl (qrn _ _) (q23 hlay) hr hF hb (by rw[qpa];exact hlen)
  (fun H xs hO hS=>hsp w H xs a hO hwi e2 hS) fun H e s'=>hCX w H s₁ e s') fun r' s' hq=>?_)
 obtain⟨u,as',rfl,h1,h2,h3,h4⟩:=hq
 exact⟨.inl ⟨u,_,as',rfl,fun _=>rfl,h1,(OpenSpec.post_iff qlx hwi _ _).mpr rfl,fun z=>Bool.noConfusion (show false=true from z)⟩,h2,h3,h4⟩
theorem zae{r:OpenSpec}{k:Nat}{q:Program}{loose:List Str}{XP:(Str->Option Value)->Heap->Prop}{YP:World->Heap->Prop}{d:DefRec}{K:Params->PySem.W.Frag}{CX:CXT}{ps:List Str}{sp:PySem.W.Frag->Sp}
  (qlx:r.wellSaid=true)(hdf:d.params.defaults=[])(hlen:r.args.length=ps.length)(hr:Qaa k callerA)
  (hY:∀ (w:World) (h:Heap),YP w h->(K w.params).In h)
  (F:∀ (w:World) (mg:Str->Option Value) (fa:Addr) (h:Heap),YP w h->(K w.params).In h->h.Ns mainGlobals mg->mg d.name=some (.ref fa) ->
   ∃ fd:FuncData,(∀ (s:Shared) (us:List Value),us.length=ps.length->BindsTo s fd ⟨us,[]⟩ (ps.zip us)) /\
     ∀ base:Heap,(K w.params).In base->base.Ns mainGlobals mg->Qbw r.prog w (K w.params) mg base CX k fa fd ps (sp (K w.params)))
  (hsp:∀ (K:PySem.W.Frag) (H:Hp) (xs:List V) (a:Codec.denoteAll r.args),Qg9 H->Codec.withinAll r.args a=true->Codec.app r.args r.asked a=true->Qcr K H xs (Codec.encAll r.args a) ->
   sp K xs H (fun v H'=>Dw K H' v (r.ret.enc (Codec.app r.args r.f a))) fun _ _ _=>False)
  (hCX:∀ (H:Hp) (s:Shared) (e:Value) (s':Shared),CX [] H s (fun _ _ _=>False) e s'->False):
  PySem.W.WalkOS q loose XP YP r d [] (fun f vs=>PySem.call f vs):=
 zad (K:=K) (CX:=fun _=>CX) (sp:=fun w=>sp (K w.params)) qlx hdf hlen hr hY F (fun w H xs a h1 h2 h3 h4=>hsp (K w.params) H xs a h1 h2 h3 h4) fun _ H s e s'=>hCX H s e s'
end L2
end
namespace L2
open PySem PySem.Spec PyProof.Rows
def inClass(s:Stmt)(j:Nat): Stmt:=match s with
 | .ClassDef _ _ _ body _ _ _ _ _ _ _=>body.getD j (.Pass ⟨0,0,0,0⟩)
 |_=>.Pass ⟨0,0,0,0⟩
def qd6(s:Stmt): Arguments:=match s with
 | .FunctionDef _ a _ _ _ _ _ _ _ _=>a
 |_=>{ posonlyargs:=[],args:=[],vararg:=none,kwonlyargs:=[],kw_defaults:=[],kwarg:=none,defaults:=[] }
def qci(s:Stmt): List Stmt:=match s with
 | .FunctionDef _ _ b _ _ _ _ _ _ _=>b
 |_=>[]
def zh(s:Stmt): Scope:=match s with
 | .FunctionDef _ _ _ _ _ _ sc _ _ _=>sc
 |_=>{ kind:=.function,names:=[],isGenerator:=false,isCoroutine:=false }
abbrev CX0:CXT:=fun _ _ _ _ _ _=>False
abbrev E0:XK:=fun _ _ _=>False
theorem qjd{X:Cx}: Passes CX0 X E0:=fun _ _ _ _ _ _ _ h=>h.elim
structure Fun(K:PySem.W.Frag)(x qual:Str)(st:Stmt)(f:Addr)(fd:FuncData): Prop where
 ex:∃ (oc:Value) (od:Option Addr) (kV doc pm:Value) (an:Option Addr) (cdv ct:Value) (osl:Array (Option Value)),
  fd=PySem.W.fnOf x qual (qd6 st) (qci st) (zh st) .none kV doc pm an cdv ct/\K.lookup f=some ⟨oc,od,.func fd,osl⟩/\PySem.W.codeIn K cdv qual=true
 kp:PySem.W.keepIn K (.ref f)=true
section
variable {P:Program} {w:World} {K:PySem.W.Frag} {mg:Str->Option Value} {base:Heap}
theorem Fun.ok{x qual:Str}{st:Stmt}{f:Addr}{fd:FuncData}{N ps:List Str}{k:Nat}{sp:Sp}(F:Fun K x qual st f fd)(S:Kh N ps (zh st))(len:∀ vs H Q E,sp vs H Q E->vs.length=ps.length)
  (hbody:∀ (cdv:Value) (A:Around) (outer:List Env) (s:Shared) (H:Hp) (vs:List V) (Q:VK) (E:XK),Qaa k (A.deeper (envOfC qual (zh st) s.heap.objs.size f cdv))->sp vs H Q E ->
   ∃ t,PSs (qb8 CX0 P w K mg base N qual (zh st) f cdv A outer s H E).nox (qci st) t/\t { nx:=fun _ H'=>Q .non H',rt:=Q } (start N vs) H): Qbw P w K mg base CX0 (k+1) f fd ps sp:=by
 obtain⟨oc,od,kV,doc,pm,an,cdv,ct,osl,rfl,lk,hcd⟩:=F.ex
 refine fn_of lk hcd S len fun A outer s H vs Q E hr hsp=>?_
 obtain⟨t,h,q⟩:=hbody cdv A outer s H vs Q E hr hsp
 exact⟨t,h.nox,q⟩
theorem Fun.binds{x qual:Str}{st:Stmt}{f:Addr}{fd:FuncData}{ps:List Str}(F:Fun K x qual st f fd)
  (h:∀ (kV doc pm:Value) (an:Option Addr) (cdv ct:Value) (us:List Value),us.length=ps.length->bindArgs (PySem.W.fnOf x qual (qd6 st) (qci st) (zh st) .none kV doc pm an cdv ct) ⟨us,[]⟩=pure (ps.zip us)): Binds K fd ps []:=by
 obtain⟨oc,od,kV,doc,pm,an,cdv,ct,osl,rfl,lk,hcd⟩:=F.ex
 exact .all (h kV doc pm an cdv ct)
theorem qpo{x qual:Str}{st:Stmt}{f:Addr}{oc:Value}{od an:Option Addr}{osl:Array (Option Value)}{kV doc pm cdv ct:Value}(l:K.lookup f=some ⟨oc,od,.func (PySem.W.fnOf x qual (qd6 st) (qci st) (zh st) .none kV doc pm an cdv ct),osl⟩)
  (c:PySem.W.codeIn K cdv qual=true)(k:PySem.W.keepIn K (.ref f)=true): Fun K x qual st f (PySem.W.fnOf x qual (qd6 st) (qci st) (zh st) .none kV doc pm an cdv ct):=⟨⟨oc,od,kV,doc,pm,an,cdv,ct,osl,rfl,l,c⟩,k⟩
end
theorem yb{A:Around}{k:Nat}(hr:Qaa k A): A.units+1<cLine:=Wu (Nat.add_le_add_left (by decide:1<=64) _) hr.units
theorem qar{n:Nat}(h:n<=1000): n<sizeLine:=Wu h (by decide)
section
variable {X:Cx}
theorem pv(i:Nat){x:Str}{pos:Pos}(hN:X.N[i]?=some x:=by rfl)(hv:Vis X.env.scope x:=by first|exact Or.inl rfl|exact Or.inr (Or.inl rfl)|exact Or.inr (Or.inr rfl))(hd:(x==("__debug__" : Str))=false:=by decide)
  (hcd:(x==("__classdict__" : Str))=false:=by decide): PE X (.Name x pos) (vd i):=pe_var hN hv hd hcd
theorem qxc:Qdm X (.builtin "len") (fun xs H Q=>∃ a kvs,xs=[V.ref a]/\H a=some (.dK kvs)/\Q (.int kvs.length) H):=by
 intro pins s σ H xs us Q I r h
 obtain⟨a,kvs,rfl,ha,q⟩:=h
 obtain⟨u,rfl,ru⟩:=vals1 r
 cases ru
 exact d_len I (.inl ha) fun t s' I'=>⟨.int kvs.length,H,I',⟨t,rfl⟩,q⟩
end
theorem qam{A B:Prop}(h:B): if false=true then A else B:=by
 rw[Jc Jr]
 exact h
theorem qag{A B:Prop}(h:A): if true=true then A else B:=by
 rw[Je rfl]
 exact h
def Qz(H H':Hp): Prop:=∀ b o,H b=some o->H' b=some o
theorem Qz.refl(H:Hp): Qz H H:=fun _ _ h=>h
theorem Qz.trans{H H1 H2:Hp}(a:Qz H H1)(b:Qz H1 H2): Qz H H2:=fun c o h=>b c o (a c o h)
theorem Qz.free{H H':Hp}(e:Qz H H'){l:Addr}(h:H' l=Option.none): H l=Option.none:=by
 cases q:H l with
 |none=>rfl
 | some o=>
   rw[e l o q] at h
   cases h
theorem Qz.seq{K:PySem.W.Frag}{H H':Hp}{a:Addr}{xs:List V}(e:Qz H H')(h:SqL K H a xs): SqL K H' a xs:=by
 rcases h with (h|⟨o,h⟩)|h
 ·exact .inl (.inl (e _ _ h))
 ·exact .inl (.inr ⟨o,e _ _ h⟩)
 ·exact .inr h
section
variable {κ:Type} [DecidableEq κ]
theorem zaa{kvs:List (κ×V)}{k:κ}{v:V}(h:kj kvs k=some v): k∈kvs.map (·.1):=by
 have q:(kvs.any fun kv=>decide (kv.1=k))=true:=by
  rw[qg1,h]
  all_goals rfl
 obtain⟨p,hp,e⟩:=Y9.mp q
 exact Jk.mpr ⟨p,hp,Zl e⟩
end
end L2
namespace QZ
open PySem
open Sem (wp)
abbrev Vq(h:Heap)(z TI TO:Addr)(f0 f1:Value): Prop:=
 h.get? z=some { cls:=.type "zip",dict:=none,data:=.fields #[f0,f1,.bool false,.ref TI,.ref TO],slots:=#[] }
abbrev IsT(h:Heap)(T:Addr)(vs:Array Value): Prop:=h.get? T=some { cls:=.type "tuple",data:=.seq vs }
section
variable {prog:Program} {w:World} {A:Around} {E:Value->Shared->Prop} {s:Shared}
theorem alive{a:Addr}{o:Obj}{Q:Option Obj->Shared->Prop}(ho:s.heap.get? a=some o)(h:Q (some o) s): wpAny (model prog w) A (loadIfAlive a) Q E s:=by
 have h':Q (s.heap.get? a) s:=by rw[ho];exact h
 exact fun _ _ _=>h'
theorem qg5{T:Addr}{vs:Array Value}{x:Value}{k:Nat}{Q:Unit->Shared->Prop}(hT:IsT s.heap T vs)
  (h:∀ h',IsT h' T (vs.setIfInBounds k x)->Heap.SameBut T s.heap h'->Q () { s with heap:=h' })(hz:vs.size<=3:=by simp):
  wpAny (model prog w) A (updateSeq T (·.setIfInBounds k x)) Q E s:=by
 have h3:(3:Nat)<=sizeLine:=by decide
 refine Ui hT rfl (h _ ?_ (Wr ..)) (hz:=by omega) (_hz':=by rw[Array.size_setIfInBounds];omega)
 show Heap.get? _ T=_
 rw[Yy _ hT rfl]
 simp[Obj.mapSeq]
structure Ap2(z TI TO i1 i2:Addr)(f1 f2:List Addr): Prop where
 TIz:TI≠z
 TOz:TO≠z
 TITO:TI≠TO
 i1z:i1≠z
 TIi1:TI≠i1
 TOi1:TO≠i1
 i1i2:i1≠i2
 fp1:∀ b∈f1,b≠z/\b≠TO/\b≠i2
 i2z:i2≠z
 TIi2:TI≠i2
 TOi2:TO≠i2
 i2i1:i2≠i1
 fp2:∀ b∈f2,b≠z/\b≠TO/\b≠i1
def Own2(h:Heap)(z TO i1 i2:Addr)(f0:Value): Prop:=f0 = .none\/∃ T:Addr,f0=rawInt T/\T≠z/\T≠TO/\T≠i1/\T≠i2/\∃ o,h.get? T=some o
theorem zal{z TI TO i1 i2:Addr}{n1:Nat}{f1:List Addr}{P1:Nat->Value->Prop}{S1:Nat->Heap->Prop}(D1:Draws prog w A i1 f1 n1 P1 S1){n2:Nat}{f2:List Addr}{P2:Nat->Value->Prop}{S2:Nat->Heap->Prop}(D2:Draws prog w A i2 f2 n2 P2 S2){k:Nat}{f0:Value}{fb:Bool}{Q:Value->Shared->Prop}(Ap:Ap2 z TI TO i1 i2 f1 f2)(hz:Vq s.heap z TI TO f0 (.bool fb))(ho:Own2 s.heap z TO i1 i2 f0)(hTI:IsT s.heap TI #[.ref i1,.ref i2])(hTO:∃ a1 a2,IsT s.heap TO #[a1,a2])(h1:S1 k s.heap)(l1:k<n1)(h2:S2 k s.heap)(l2:k<n2)
  (hQ:∀ h' tk x1 x2 f0' fb',P1 k x1->P2 k x2->Vq h' z TI TO f0' (.bool fb')->Own2 h' z TO i1 i2 f0'->(∃ a1 a2,IsT h' TO #[a1,a2])->S1 (k+1) h'->S2 (k+1) h'->IsT h' s.heap.objs.size #[x1,x2]->h'.objs.size=s.heap.objs.size+1->(∀ c o,c≠z->c≠TO->c≠i1->c≠i2->s.heap.get? c=some o->h'.get? c=some o)->Q (.ref s.heap.objs.size) { s with heap:=h',toks:=tk }):
  wpAny (model prog w) A (Builtin.«zip.__next__» ⟨[.ref z],[]⟩) (fun fin s'=>∃ v,fin = .done (.ret v)/\Q v s') E s:=by
 obtain⟨a1,a2,hTO⟩:=hTO
 have lz:z<s.heap.objs.size:=Jl hz
 have lTO:TO<s.heap.objs.size:=Jl hTO
 have li1:i1<s.heap.objs.size:=by obtain⟨_,e⟩:=D1.live _ _ h1;exact Jl e
 have li2:i2<s.heap.objs.size:=by obtain⟨_,e⟩:=D2.live _ _ h2;exact Jl e
 show wpAny _ _ (field (.ref z) 2 >>= _) _ _ _
 refine Ja (Xo hz rfl (x:=.bool false) rfl ?_)
 show wpAny _ _ (field (.ref z) 3 >>= _) _ _ _
 refine Ja (Xo hz rfl (x:=.ref TI) rfl ?_)
 refine Ja (Yc hTI rfl ?_)
 show wpAny _ _ (Builtin.SmallTypes.ownedTupleIsFree (.ref z) >>= _) _ _ _
 refine Ja ?_
 unfold Builtin.SmallTypes.ownedTupleIsFree
 rcases ho with rfl|⟨T,rfl,Tz,TTO,Ti1,Ti2,oT,hT⟩
 ·refine Ja (Xo hz rfl (x:=.none) rfl (Jg ?_))
  simp only[Wh]
  refine Ja (Uv ?_)
  refine Ja (Xo hz rfl (x:=.ref TO) rfl ?_)
  refine Ja (X4 hz (by simp) fun g0 hz0 sb0=>?_)
  replace hz0:Vq g0 z TI TO .ellipsis (.bool fb):=hz0
  refine Ja ?_
  simp only[Qi,Qu,Yl,Yk]
  have k0:∀ c o,c≠z->c≠TO->c≠i1->c≠i2->s.heap.get? c=some o->g0.get? c=some o:=fun c o c1 _ _ _ e=>sb0.extBut _ _ c1 e
  have T0:IsT g0 TO #[a1,a2]:=sb0.extBut _ _ Ap.TOz hTO
  have z0:g0.objs.size=s.heap.objs.size:=sb0.1
  have Qa7:S1 k g0:=D1.frame _ _ _ h1 fun b hb o e=>sb0.extBut _ _ (Ap.fp1 b hb).1 e
  have Qbq:S2 k g0:=D2.frame _ _ _ h2 fun b hb o e=>sb0.extBut _ _ (Ap.fp2 b hb).1 e
  refine Ja (Ja (Z9 ?_))
  show wpAny _ _ (Builtin.SmallTypes.nextOf (.ref i1) >>= _) _ _ _
  refine Ja (D1.item k _ _ _ l1 Qa7 fun x1 g1 tk1 p1 q1 sb1=>Jg ?_)
  have T1:IsT g1 TO #[a1,a2]:=sb1.extBut _ _ Ap.TOi1 T0
  have hz1:Vq g1 z TI TO .ellipsis (.bool fb):=sb1.extBut _ _ (Xb Ap.i1z) hz0
  have Qbr:S2 k g1:=D2.frame _ _ _ Qbq fun b hb o e=>sb1.extBut _ _ ((Ap.fp2 b hb).2.2) e
  refine Ja (Yc T1 rfl ?_)
  refine Ja (qg5 T1 fun g2 T2 sb2=>?_)
  replace T2:IsT g2 TO #[x1,a2]:=T2
  refine Ja (W2 (Jg ?_))
  have hz2:Vq g2 z TI TO .ellipsis (.bool fb):=sb2.extBut _ _ (Xb Ap.TOz) hz1
  have Qc9:S1 (k+1) g2:=D1.frame _ _ _ q1 fun b hb o e=>sb2.extBut _ _ (Ap.fp1 b hb).2.1 e
  have Qce:S2 k g2:=D2.frame _ _ _ Qbr fun b hb o e=>sb2.extBut _ _ (Ap.fp2 b hb).2.1 e
  refine Ja (Ja (Z9 ?_))
  show wpAny _ _ (Builtin.SmallTypes.nextOf (.ref i2) >>= _) _ _ _
  refine Ja (D2.item k _ _ _ l2 Qce fun x2 g3 tk2 p2 q2 sb3=>Jg ?_)
  have T3:IsT g3 TO #[x1,a2]:=sb3.extBut _ _ Ap.TOi2 T2
  have hz3:Vq g3 z TI TO .ellipsis (.bool fb):=sb3.extBut _ _ (Xb Ap.i2z) hz2
  have Qfb:S1 (k+1) g3:=D1.frame _ _ _ Qc9 fun b hb o e=>sb3.extBut _ _ ((Ap.fp1 b hb).2.2) e
  refine Ja (Yc T3 rfl ?_)
  refine Ja (qg5 T3 fun g4 T4 sb4=>?_)
  replace T4:IsT g4 TO #[x1,x2]:=T4
  refine Ja (W2 (Jg (Jg ?_)))
  have hz4:Vq g4 z TI TO .ellipsis (.bool fb):=sb4.extBut _ _ (Xb Ap.TOz) hz3
  have S1_4:S1 (k+1) g4:=D1.frame _ _ _ Qfb fun b hb o e=>sb4.extBut _ _ (Ap.fp1 b hb).2.1 e
  have S2_4:S2 (k+1) g4:=D2.frame _ _ _ q2 fun b hb o e=>sb4.extBut _ _ (Ap.fp2 b hb).2.1 e
  refine Ja (Yc T4 rfl ?_)
  refine Ja (W5 ?_)
  have zg:g4.objs.size=s.heap.objs.size:=by rw[sb4.1,sb3.1,sb2.1,sb1.1,z0]
  have kg:∀ c o,c≠z->c≠TO->c≠i1->c≠i2->s.heap.get? c=some o->g4.get? c=some o:=fun c o c1 c2 d1 d2 e=>sb4.extBut _ _ c2 (sb3.extBut _ _ d2 (sb2.extBut _ _ c2 (sb1.extBut _ _ d1 (k0 c o c1 c2 d1 d2 e))))
  show wpAny _ _ (Builtin.SmallTypes.ownedTupleHandOut (.ref z) (.ref g4.objs.size) >>= _) _ _ _
  refine Ja ?_
  unfold Builtin.SmallTypes.ownedTupleHandOut
  have hzp:Vq (g4.push { cls:=.type "tuple",data:=.seq #[x1,x2] }) z TI TO .ellipsis (.bool fb):=Jb _ hz4
  refine Ja (X4 hzp (by simp) fun u1 hu1 su1=>?_)
  replace hu1:Vq u1 z TI TO (rawInt g4.objs.size) (.bool fb):=hu1
  refine X4 hu1 (by simp) fun u2 hu2 su2=>?_
  replace hu2:Vq u2 z TI TO (rawInt g4.objs.size) (.bool false):=hu2
  have up:∀ c o,c≠z->g4.get? c=some o->u2.get? c=some o:=fun c o c1 e=>su2.extBut _ _ c1 (su1.extBut _ _ c1 (Jb _ e))
  have hTn:IsT u2 g4.objs.size #[x1,x2]:=su2.extBut _ _ (by rw[zg];exact J5 lz) (su1.extBut _ _ (by rw[zg];exact J5 lz) (Js _ rfl))
  have zu:u2.objs.size=g4.objs.size+1:=by rw[su2.1,su1.1,J6]
  rw[zg] at hu2 hTn zu
  refine Jg ⟨_,rfl,?_⟩
  show Q (.ref g4.objs.size) _
  rw[zg]
  exact hQ u2 _ x1 x2 _ _ p1 p2 hu2 (.inr ⟨_,rfl,J5 lz,J5 lTO,J5 li1,J5 li2,_,hTn⟩) ⟨x1,x2,up _ _ Ap.TOz T4⟩ (D1.frame _ _ _ S1_4 fun b hb o e=>up b o (Ap.fp1 b hb).1 e) (D2.frame _ _ _ S2_4 fun b hb o e=>up b o (Ap.fp2 b hb).1 e) hTn zu fun c o c1 c2 d1 d2 e=>up c o c1 (kg c o c1 c2 d1 d2 e)
 ·refine Ja (Xo hz rfl (x:=rawInt T) rfl ?_)
  show wpAny _ _ (loadIfAlive ((T:Int).toNat) >>= _) _ _ _
  rw[J1]
  refine Ja (alive hT ?_)
  simp only[Ut,Xr,X9]
  refine Ja (Xo hz rfl (x:=.bool fb) rfl ?_)
  cases fb with
  | true=>
    rw[Jc (show ¬ ((Value.bool true != Value.bool true)=true) from Jr)]
    refine Jg ?_
    have sr:Heap.SameBut z s.heap s.heap:=Heap.SameBut.refl _ _
    have k0:∀ c o,c≠z->c≠TO->c≠i1->c≠i2->s.heap.get? c=some o->s.heap.get? c=some o:=fun c o c1 _ _ _ e=>sr.extBut _ _ c1 e
    have Qa7:S1 k s.heap:=D1.frame _ _ _ h1 fun b hb o e=>sr.extBut _ _ (Ap.fp1 b hb).1 e
    have Qbq:S2 k s.heap:=D2.frame _ _ _ h2 fun b hb o e=>sr.extBut _ _ (Ap.fp2 b hb).1 e
    simp only[Xr,X9]
    refine Ja ?_
    simp only[<- Zd,Yl,Yk]
    refine Ja (Ja (Xi ?_))
    show wpAny _ _ (Builtin.SmallTypes.nextOf (.ref i1) >>= _) _ _ _
    refine Ja (D1.item k _ _ _ l1 Qa7 fun x1 g1 tk1 p1 q1 sb1=>Jg (Jg ?_))
    have Qfa:S1 (k+1) g1:=q1
    have Qbr:S2 k g1:=D2.frame _ _ _ Qbq fun b hb o e=>sb1.extBut _ _ ((Ap.fp2 b hb).2.2) e
    refine Ja (Ja (Xi ?_))
    show wpAny _ _ (Builtin.SmallTypes.nextOf (.ref i2) >>= _) _ _ _
    refine Ja (D2.item k _ _ _ l2 Qbr fun x2 g2 tk2 p2 q2 sb2=>Jg (Jg (Jg ?_)))
    have Qc9:S1 (k+1) g2:=D1.frame _ _ _ Qfa fun b hb o e=>sb2.extBut _ _ ((Ap.fp1 b hb).2.2) e
    have Qce:S2 (k+1) g2:=q2
    refine Ja (W5 (hsz:=by show 2<=sizeLine;decide) (Jg ⟨_,rfl,?_⟩))
    have zg:g2.objs.size=s.heap.objs.size:=by rw[sb2.1,sb1.1,sr.1]
    have kg:∀ c o,c≠z->c≠TO->c≠i1->c≠i2->s.heap.get? c=some o->g2.get? c=some o:=fun c o c1 c2 d1 d2 e=>sb2.extBut _ _ d2 (sb1.extBut _ _ d1 (k0 c o c1 c2 d1 d2 e))
    have hzn:Vq g2 z TI TO (rawInt T) (.bool true):=sb2.extBut _ _ (Xb Ap.i2z) (sb1.extBut _ _ (Xb Ap.i1z) (hz))
    show Q (.ref g2.objs.size) _
    have hTn:IsT (g2.push { cls:=.type "tuple",data:=.seq #[x1,x2] }) g2.objs.size #[x1,x2]:=Js _ rfl
    have zu:(g2.push { cls:=.type "tuple",data:=.seq #[x1,x2] }).objs.size=g2.objs.size+1:=J6 ..
    rw[zg] at hTn zu ⊢
    exact hQ _ _ x1 x2 _ _ p1 p2 (Jb _ hzn) (.inr ⟨T,rfl,Tz,TTO,Ti1,Ti2,oT,Jb _ (kg _ _ Tz TTO Ti1 Ti2 hT)⟩) ⟨a1,a2,Jb _ (sb2.extBut _ _ Ap.TOi2 (sb1.extBut _ _ Ap.TOi1 (sr.extBut _ _ Ap.TOz hTO)))⟩ (D1.frame _ _ _ Qc9 fun b hb o e=>Jb _ e) (D2.frame _ _ _ Qce fun b hb o e=>Jb _ e) hTn zu fun c o c1 c2 d1 d2 e=>Jb _ (kg c o c1 c2 d1 d2 e)
  | false=>
    rw[Je (show (Value.bool false != Value.bool true)=true from rfl)]
    refine Ja (X4 hz (by simp) fun g0 hz0 sr=>?_)
    replace hz0:Vq g0 z TI TO (rawInt T) (.bool true):=hz0
    refine Jg ?_
    have k0:∀ c o,c≠z->c≠TO->c≠i1->c≠i2->s.heap.get? c=some o->g0.get? c=some o:=fun c o c1 _ _ _ e=>sr.extBut _ _ c1 e
    have Qa7:S1 k g0:=D1.frame _ _ _ h1 fun b hb o e=>sr.extBut _ _ (Ap.fp1 b hb).1 e
    have Qbq:S2 k g0:=D2.frame _ _ _ h2 fun b hb o e=>sr.extBut _ _ (Ap.fp2 b hb).1 e
    simp only[Xr,X9]
    refine Ja ?_
    simp only[<- Zd,Yl,Yk]
    refine Ja (Ja (Xi ?_))
    show wpAny _ _ (Builtin.SmallTypes.nextOf (.ref i1) >>= _) _ _ _
    refine Ja (D1.item k _ _ _ l1 Qa7 fun x1 g1 tk1 p1 q1 sb1=>Jg (Jg ?_))
    have Qfa:S1 (k+1) g1:=q1
    have Qbr:S2 k g1:=D2.frame _ _ _ Qbq fun b hb o e=>sb1.extBut _ _ ((Ap.fp2 b hb).2.2) e
    refine Ja (Ja (Xi ?_))
    show wpAny _ _ (Builtin.SmallTypes.nextOf (.ref i2) >>= _) _ _ _
    refine Ja (D2.item k _ _ _ l2 Qbr fun x2 g2 tk2 p2 q2 sb2=>Jg (Jg (Jg ?_)))
    have Qc9:S1 (k+1) g2:=D1.frame _ _ _ Qfa fun b hb o e=>sb2.extBut _ _ ((Ap.fp1 b hb).2.2) e
    have Qce:S2 (k+1) g2:=q2
    refine Ja (W5 (hsz:=by show 2<=sizeLine;decide) (Jg ⟨_,rfl,?_⟩))
    have zg:g2.objs.size=s.heap.objs.size:=by rw[sb2.1,sb1.1,sr.1]
    have kg:∀ c o,c≠z->c≠TO->c≠i1->c≠i2->s.heap.get? c=some o->g2.get? c=some o:=fun c o c1 c2 d1 d2 e=>sb2.extBut _ _ d2 (sb1.extBut _ _ d1 (k0 c o c1 c2 d1 d2 e))
    have hzn:Vq g2 z TI TO (rawInt T) (.bool true):=sb2.extBut _ _ (Xb Ap.i2z) (sb1.extBut _ _ (Xb Ap.i1z) (hz0))
    show Q (.ref g2.objs.size) _
    have hTn:IsT (g2.push { cls:=.type "tuple",data:=.seq #[x1,x2] }) g2.objs.size #[x1,x2]:=Js _ rfl
    have zu:(g2.push { cls:=.type "tuple",data:=.seq #[x1,x2] }).objs.size=g2.objs.size+1:=J6 ..
    rw[zg] at hTn zu ⊢
    exact hQ _ _ x1 x2 _ _ p1 p2 (Jb _ hzn) (.inr ⟨T,rfl,Tz,TTO,Ti1,Ti2,oT,Jb _ (kg _ _ Tz TTO Ti1 Ti2 hT)⟩) ⟨a1,a2,Jb _ (sb2.extBut _ _ Ap.TOi2 (sb1.extBut _ _ Ap.TOi1 (sr.extBut _ _ Ap.TOz hTO)))⟩ (D1.frame _ _ _ Qc9 fun b hb o e=>Jb _ e) (D2.frame _ _ _ Qce fun b hb o e=>Jb _ e) hTn zu fun c o c1 c2 d1 d2 e=>Jb _ (kg c o c1 c2 d1 d2 e)
theorem zak{z TI TO i1 i2:Addr}{n1:Nat}{f1:List Addr}{P1:Nat->Value->Prop}{S1:Nat->Heap->Prop}(D1:Draws prog w A i1 f1 n1 P1 S1){n2:Nat}{f2:List Addr}{P2:Nat->Value->Prop}{S2:Nat->Heap->Prop}(D2:Draws prog w A i2 f2 n2 P2 S2){k:Nat}{f0:Value}{fb:Bool}{Q:Fin->Shared->Prop}(Ap:Ap2 z TI TO i1 i2 f1 f2)(hz:Vq s.heap z TI TO f0 (.bool fb))(ho:Own2 s.heap z TO i1 i2 f0)(hTI:IsT s.heap TI #[.ref i1,.ref i2])(hTO:∃ a1 a2,IsT s.heap TO #[a1,a2])(h1:S1 k s.heap)(h2:S2 k s.heap)(e1:k=n1)
  (hE:∀ h' e,(∀ c o,c≠z->c≠TO->c≠i1->c≠i2->s.heap.get? c=some o->h'.get? c=some o)->(∃ o,h'.get? e=some o/\o.cls = .type "StopIteration")->E (.ref e) { s with heap:=h' }):
  wpAny (model prog w) A (Builtin.«zip.__next__» ⟨[.ref z],[]⟩) Q E s:=by
 subst e1
 obtain⟨a1,a2,hTO⟩:=hTO
 show wpAny _ _ (field (.ref z) 2 >>= _) _ _ _
 refine Ja (Xo hz rfl (x:=.bool false) rfl ?_)
 show wpAny _ _ (field (.ref z) 3 >>= _) _ _ _
 refine Ja (Xo hz rfl (x:=.ref TI) rfl ?_)
 refine Ja (Yc hTI rfl ?_)
 show wpAny _ _ (Builtin.SmallTypes.ownedTupleIsFree (.ref z) >>= _) _ _ _
 refine Ja ?_
 unfold Builtin.SmallTypes.ownedTupleIsFree
 rcases ho with rfl|⟨T,rfl,Tz,TTO,Ti1,Ti2,oT,hT⟩
 ·refine Ja (Xo hz rfl (x:=.none) rfl (Jg ?_))
  simp only[Wh]
  refine Ja (Uv ?_)
  refine Ja (Xo hz rfl (x:=.ref TO) rfl ?_)
  refine Ja (X4 hz (by simp) fun g0 hz0 sb0=>?_)
  replace hz0:Vq g0 z TI TO .ellipsis (.bool fb):=hz0
  refine Ja ?_
  simp only[Qi,Qu,Yl,Yk]
  have Qa7:S1 k g0:=D1.frame _ _ _ h1 fun b hb o e=>sb0.extBut _ _ (Ap.fp1 b hb).1 e
  refine Ja (Ja (Z9 ?_))
  show wpAny _ _ (Builtin.SmallTypes.nextOf (.ref i1) >>= _) _ _ _
  refine Ja (D1.done _ _ _ Qa7 fun u e su he=>?_)
  obtain⟨oe,hoe,hce⟩:=he
  have hzu:Vq u z TI TO .ellipsis (.bool fb):=su _ _ (Xb Ap.i1z) hz0
  have hez:e≠z:=fun q=>by subst q;rw[hzu] at hoe;cases hoe;simp at hce
  refine X4 hzu (by simp) fun u2 _ s2=>hE u2 e (fun c o c1 c2 d1 _ q=>s2.extBut _ _ c1 (su _ _ d1 (sb0.extBut _ _ c1 q))) ⟨oe,s2.extBut _ _ hez hoe,hce⟩
 ·refine Ja (Xo hz rfl (x:=rawInt T) rfl ?_)
  show wpAny _ _ (loadIfAlive ((T:Int).toNat) >>= _) _ _ _
  rw[J1]
  refine Ja (alive hT ?_)
  simp only[Ut,Xr,X9]
  refine Ja (Xo hz rfl (x:=.bool fb) rfl ?_)
  cases fb with
  | true=>
    rw[Jc (show ¬ ((Value.bool true != Value.bool true)=true) from Jr)]
    refine Jg ?_
    simp only[Xr,X9]
    refine Ja ?_
    simp only[<- Zd,Yl,Yk]
    refine Ja (Ja (Xi ?_))
    show wpAny _ _ (Builtin.SmallTypes.nextOf (.ref i1) >>= _) _ _ _
    exact Ja (D1.done _ _ _ h1 fun u e su he=>hE u e (fun c o c1 c2 d1 _ q=>su _ _ d1 q) he)
  | false=>
    rw[Je (show (Value.bool false != Value.bool true)=true from rfl)]
    refine Ja (X4 hz (by simp) fun g0 hz0 sr=>?_)
    refine Jg ?_
    have Qa7:S1 k g0:=D1.frame _ _ _ h1 fun b hb o e=>sr.extBut _ _ (Ap.fp1 b hb).1 e
    simp only[Xr,X9]
    refine Ja ?_
    simp only[<- Zd,Yl,Yk]
    refine Ja (Ja (Xi ?_))
    show wpAny _ _ (Builtin.SmallTypes.nextOf (.ref i1) >>= _) _ _ _
    exact Ja (D1.done _ _ _ Qa7 fun u e su he=>hE u e (fun c o c1 c2 d1 _ q=>su _ _ d1 (sr.extBut _ _ c1 q)) he)
structure Ap3(z TI TO i1 i2 i3:Addr)(f1 f2 f3:List Addr): Prop where
 TIz:TI≠z
 TOz:TO≠z
 TITO:TI≠TO
 i1z:i1≠z
 TIi1:TI≠i1
 TOi1:TO≠i1
 i1i2:i1≠i2
 i1i3:i1≠i3
 fp1:∀ b∈f1,b≠z/\b≠TO/\b≠i2/\b≠i3
 i2z:i2≠z
 TIi2:TI≠i2
 TOi2:TO≠i2
 i2i1:i2≠i1
 i2i3:i2≠i3
 fp2:∀ b∈f2,b≠z/\b≠TO/\b≠i1/\b≠i3
 i3z:i3≠z
 TIi3:TI≠i3
 TOi3:TO≠i3
 i3i1:i3≠i1
 i3i2:i3≠i2
 fp3:∀ b∈f3,b≠z/\b≠TO/\b≠i1/\b≠i2
def Own3(h:Heap)(z TO i1 i2 i3:Addr)(f0:Value): Prop:=f0 = .none\/∃ T:Addr,f0=rawInt T/\T≠z/\T≠TO/\T≠i1/\T≠i2/\T≠i3/\∃ o,h.get? T=some o
theorem zan{z TI TO i1 i2 i3:Addr}{n1:Nat}{f1:List Addr}{P1:Nat->Value->Prop}{S1:Nat->Heap->Prop}(D1:Draws prog w A i1 f1 n1 P1 S1){n2:Nat}{f2:List Addr}{P2:Nat->Value->Prop}{S2:Nat->Heap->Prop}(D2:Draws prog w A i2 f2 n2 P2 S2){n3:Nat}{f3:List Addr}{P3:Nat->Value->Prop}{S3:Nat->Heap->Prop}(D3:Draws prog w A i3 f3 n3 P3 S3){k:Nat}{f0:Value}{fb:Bool}{Q:Value->Shared->Prop}(Ap:Ap3 z TI TO i1 i2 i3 f1 f2 f3)(hz:Vq s.heap z TI TO f0 (.bool fb))(ho:Own3 s.heap z TO i1 i2 i3 f0)(hTI:IsT s.heap TI #[.ref i1,.ref i2,.ref i3])(hTO:∃ a1 a2 a3,IsT s.heap TO #[a1,a2,a3])(h1:S1 k s.heap)(l1:k<n1)(h2:S2 k s.heap)(l2:k<n2)(h3:S3 k s.heap)(l3:k<n3)
  (hQ:∀ h' tk x1 x2 x3 f0' fb',P1 k x1->P2 k x2->P3 k x3->Vq h' z TI TO f0' (.bool fb')->Own3 h' z TO i1 i2 i3 f0'->(∃ a1 a2 a3,IsT h' TO #[a1,a2,a3])->S1 (k+1) h'->S2 (k+1) h'->S3 (k+1) h'->IsT h' s.heap.objs.size #[x1,x2,x3]->h'.objs.size=s.heap.objs.size+1->(∀ c o,c≠z->c≠TO->c≠i1->c≠i2->c≠i3->s.heap.get? c=some o->h'.get? c=some o)->Q (.ref s.heap.objs.size) { s with heap:=h',toks:=tk }):
  wpAny (model prog w) A (Builtin.«zip.__next__» ⟨[.ref z],[]⟩) (fun fin s'=>∃ v,fin = .done (.ret v)/\Q v s') E s:=by
 obtain⟨a1,a2,a3,hTO⟩:=hTO
 have lz:z<s.heap.objs.size:=Jl hz
 have lTO:TO<s.heap.objs.size:=Jl hTO
 have li1:i1<s.heap.objs.size:=by obtain⟨_,e⟩:=D1.live _ _ h1;exact Jl e
 have li2:i2<s.heap.objs.size:=by obtain⟨_,e⟩:=D2.live _ _ h2;exact Jl e
 have li3:i3<s.heap.objs.size:=by obtain⟨_,e⟩:=D3.live _ _ h3;exact Jl e
 show wpAny _ _ (field (.ref z) 2 >>= _) _ _ _
 refine Ja (Xo hz rfl (x:=.bool false) rfl ?_)
 show wpAny _ _ (field (.ref z) 3 >>= _) _ _ _
 refine Ja (Xo hz rfl (x:=.ref TI) rfl ?_)
 refine Ja (Yc hTI rfl ?_)
 show wpAny _ _ (Builtin.SmallTypes.ownedTupleIsFree (.ref z) >>= _) _ _ _
 refine Ja ?_
 unfold Builtin.SmallTypes.ownedTupleIsFree
 rcases ho with rfl|⟨T,rfl,Tz,TTO,Ti1,Ti2,Ti3,oT,hT⟩
 ·refine Ja (Xo hz rfl (x:=.none) rfl (Jg ?_))
  simp only[Wh]
  refine Ja (Uv ?_)
  refine Ja (Xo hz rfl (x:=.ref TO) rfl ?_)
  refine Ja (X4 hz (by simp) fun g0 hz0 sb0=>?_)
  replace hz0:Vq g0 z TI TO .ellipsis (.bool fb):=hz0
  refine Ja ?_
  simp only[Qi,Qu,Yl,Yk]
  have k0:∀ c o,c≠z->c≠TO->c≠i1->c≠i2->c≠i3->s.heap.get? c=some o->g0.get? c=some o:=fun c o c1 _ _ _ _ e=>sb0.extBut _ _ c1 e
  have T0:IsT g0 TO #[a1,a2,a3]:=sb0.extBut _ _ Ap.TOz hTO
  have z0:g0.objs.size=s.heap.objs.size:=sb0.1
  have Qa7:S1 k g0:=D1.frame _ _ _ h1 fun b hb o e=>sb0.extBut _ _ (Ap.fp1 b hb).1 e
  have Qbq:S2 k g0:=D2.frame _ _ _ h2 fun b hb o e=>sb0.extBut _ _ (Ap.fp2 b hb).1 e
  have S3_0:S3 k g0:=D3.frame _ _ _ h3 fun b hb o e=>sb0.extBut _ _ (Ap.fp3 b hb).1 e
  refine Ja (Ja (Z9 ?_))
  show wpAny _ _ (Builtin.SmallTypes.nextOf (.ref i1) >>= _) _ _ _
  refine Ja (D1.item k _ _ _ l1 Qa7 fun x1 g1 tk1 p1 q1 sb1=>Jg ?_)
  have T1:IsT g1 TO #[a1,a2,a3]:=sb1.extBut _ _ Ap.TOi1 T0
  have hz1:Vq g1 z TI TO .ellipsis (.bool fb):=sb1.extBut _ _ (Xb Ap.i1z) hz0
  have Qbr:S2 k g1:=D2.frame _ _ _ Qbq fun b hb o e=>sb1.extBut _ _ ((Ap.fp2 b hb).2.2.1) e
  have S3_1:S3 k g1:=D3.frame _ _ _ S3_0 fun b hb o e=>sb1.extBut _ _ ((Ap.fp3 b hb).2.2.1) e
  refine Ja (Yc T1 rfl ?_)
  refine Ja (qg5 T1 fun g2 T2 sb2=>?_)
  replace T2:IsT g2 TO #[x1,a2,a3]:=T2
  refine Ja (W2 (Jg ?_))
  have hz2:Vq g2 z TI TO .ellipsis (.bool fb):=sb2.extBut _ _ (Xb Ap.TOz) hz1
  have Qc9:S1 (k+1) g2:=D1.frame _ _ _ q1 fun b hb o e=>sb2.extBut _ _ (Ap.fp1 b hb).2.1 e
  have Qce:S2 k g2:=D2.frame _ _ _ Qbr fun b hb o e=>sb2.extBut _ _ (Ap.fp2 b hb).2.1 e
  have S3_2:S3 k g2:=D3.frame _ _ _ S3_1 fun b hb o e=>sb2.extBut _ _ (Ap.fp3 b hb).2.1 e
  refine Ja (Ja (Z9 ?_))
  show wpAny _ _ (Builtin.SmallTypes.nextOf (.ref i2) >>= _) _ _ _
  refine Ja (D2.item k _ _ _ l2 Qce fun x2 g3 tk2 p2 q2 sb3=>Jg ?_)
  have T3:IsT g3 TO #[x1,a2,a3]:=sb3.extBut _ _ Ap.TOi2 T2
  have hz3:Vq g3 z TI TO .ellipsis (.bool fb):=sb3.extBut _ _ (Xb Ap.i2z) hz2
  have Qfb:S1 (k+1) g3:=D1.frame _ _ _ Qc9 fun b hb o e=>sb3.extBut _ _ ((Ap.fp1 b hb).2.2.1) e
  have S3_3:S3 k g3:=D3.frame _ _ _ S3_2 fun b hb o e=>sb3.extBut _ _ ((Ap.fp3 b hb).2.2.2) e
  refine Ja (Yc T3 rfl ?_)
  refine Ja (qg5 T3 fun g4 T4 sb4=>?_)
  replace T4:IsT g4 TO #[x1,x2,a3]:=T4
  refine Ja (W2 (Jg ?_))
  have hz4:Vq g4 z TI TO .ellipsis (.bool fb):=sb4.extBut _ _ (Xb Ap.TOz) hz3
  have S1_4:S1 (k+1) g4:=D1.frame _ _ _ Qfb fun b hb o e=>sb4.extBut _ _ (Ap.fp1 b hb).2.1 e
  have S2_4:S2 (k+1) g4:=D2.frame _ _ _ q2 fun b hb o e=>sb4.extBut _ _ (Ap.fp2 b hb).2.1 e
  have S3_4:S3 k g4:=D3.frame _ _ _ S3_3 fun b hb o e=>sb4.extBut _ _ (Ap.fp3 b hb).2.1 e
  refine Ja (Ja (Z9 ?_))
  show wpAny _ _ (Builtin.SmallTypes.nextOf (.ref i3) >>= _) _ _ _
  refine Ja (D3.item k _ _ _ l3 S3_4 fun x3 g5 tk3 p3 q3 sb5=>Jg ?_)
  have T5:IsT g5 TO #[x1,x2,a3]:=sb5.extBut _ _ Ap.TOi3 T4
  have hz5:Vq g5 z TI TO .ellipsis (.bool fb):=sb5.extBut _ _ (Xb Ap.i3z) hz4
  have S1_5:S1 (k+1) g5:=D1.frame _ _ _ S1_4 fun b hb o e=>sb5.extBut _ _ ((Ap.fp1 b hb).2.2.2) e
  have S2_5:S2 (k+1) g5:=D2.frame _ _ _ S2_4 fun b hb o e=>sb5.extBut _ _ ((Ap.fp2 b hb).2.2.2) e
  refine Ja (Yc T5 rfl ?_)
  refine Ja (qg5 T5 fun g6 T6 sb6=>?_)
  replace T6:IsT g6 TO #[x1,x2,x3]:=T6
  refine Ja (W2 (Jg (Jg ?_)))
  have hz6:Vq g6 z TI TO .ellipsis (.bool fb):=sb6.extBut _ _ (Xb Ap.TOz) hz5
  have S1_6:S1 (k+1) g6:=D1.frame _ _ _ S1_5 fun b hb o e=>sb6.extBut _ _ (Ap.fp1 b hb).2.1 e
  have S2_6:S2 (k+1) g6:=D2.frame _ _ _ S2_5 fun b hb o e=>sb6.extBut _ _ (Ap.fp2 b hb).2.1 e
  have S3_6:S3 (k+1) g6:=D3.frame _ _ _ q3 fun b hb o e=>sb6.extBut _ _ (Ap.fp3 b hb).2.1 e
  refine Ja (Yc T6 rfl ?_)
  refine Ja (W5 ?_)
  have zg:g6.objs.size=s.heap.objs.size:=by rw[sb6.1,sb5.1,sb4.1,sb3.1,sb2.1,sb1.1,z0]
  have kg:∀ c o,c≠z->c≠TO->c≠i1->c≠i2->c≠i3->s.heap.get? c=some o->g6.get? c=some o:=fun c o c1 c2 d1 d2 d3 e=>sb6.extBut _ _ c2 (sb5.extBut _ _ d3 (sb4.extBut _ _ c2 (sb3.extBut _ _ d2 (sb2.extBut _ _ c2 (sb1.extBut _ _ d1 (k0 c o c1 c2 d1 d2 d3 e))))))
  show wpAny _ _ (Builtin.SmallTypes.ownedTupleHandOut (.ref z) (.ref g6.objs.size) >>= _) _ _ _
  refine Ja ?_
  unfold Builtin.SmallTypes.ownedTupleHandOut
  have hzp:Vq (g6.push { cls:=.type "tuple",data:=.seq #[x1,x2,x3] }) z TI TO .ellipsis (.bool fb):=Jb _ hz6
  refine Ja (X4 hzp (by simp) fun u1 hu1 su1=>?_)
  replace hu1:Vq u1 z TI TO (rawInt g6.objs.size) (.bool fb):=hu1
  refine X4 hu1 (by simp) fun u2 hu2 su2=>?_
  replace hu2:Vq u2 z TI TO (rawInt g6.objs.size) (.bool false):=hu2
  have up:∀ c o,c≠z->g6.get? c=some o->u2.get? c=some o:=fun c o c1 e=>su2.extBut _ _ c1 (su1.extBut _ _ c1 (Jb _ e))
  have hTn:IsT u2 g6.objs.size #[x1,x2,x3]:=su2.extBut _ _ (by rw[zg];exact J5 lz) (su1.extBut _ _ (by rw[zg];exact J5 lz) (Js _ rfl))
  have zu:u2.objs.size=g6.objs.size+1:=by rw[su2.1,su1.1,J6]
  rw[zg] at hu2 hTn zu
  refine Jg ⟨_,rfl,?_⟩
  show Q (.ref g6.objs.size) _
  rw[zg]
  exact hQ u2 _ x1 x2 x3 _ _ p1 p2 p3 hu2 (.inr ⟨_,rfl,J5 lz,J5 lTO,J5 li1,J5 li2,J5 li3,_,hTn⟩) ⟨x1,x2,x3,up _ _ Ap.TOz T6⟩ (D1.frame _ _ _ S1_6 fun b hb o e=>up b o (Ap.fp1 b hb).1 e) (D2.frame _ _ _ S2_6 fun b hb o e=>up b o (Ap.fp2 b hb).1 e) (D3.frame _ _ _ S3_6 fun b hb o e=>up b o (Ap.fp3 b hb).1 e) hTn zu fun c o c1 c2 d1 d2 d3 e=>up c o c1 (kg c o c1 c2 d1 d2 d3 e)
 ·refine Ja (Xo hz rfl (x:=rawInt T) rfl ?_)
  show wpAny _ _ (loadIfAlive ((T:Int).toNat) >>= _) _ _ _
  rw[J1]
  refine Ja (alive hT ?_)
  simp only[Ut,Xr,X9]
  refine Ja (Xo hz rfl (x:=.bool fb) rfl ?_)
  cases fb with
  | true=>
    rw[Jc (show ¬ ((Value.bool true != Value.bool true)=true) from Jr)]
    refine Jg ?_
    have sr:Heap.SameBut z s.heap s.heap:=Heap.SameBut.refl _ _
    have k0:∀ c o,c≠z->c≠TO->c≠i1->c≠i2->c≠i3->s.heap.get? c=some o->s.heap.get? c=some o:=fun c o c1 _ _ _ _ e=>sr.extBut _ _ c1 e
    have Qa7:S1 k s.heap:=D1.frame _ _ _ h1 fun b hb o e=>sr.extBut _ _ (Ap.fp1 b hb).1 e
    have Qbq:S2 k s.heap:=D2.frame _ _ _ h2 fun b hb o e=>sr.extBut _ _ (Ap.fp2 b hb).1 e
    have S3_0:S3 k s.heap:=D3.frame _ _ _ h3 fun b hb o e=>sr.extBut _ _ (Ap.fp3 b hb).1 e
    simp only[Xr,X9]
    refine Ja ?_
    simp only[<- Zd,Yl,Yk]
    refine Ja (Ja (Xi ?_))
    show wpAny _ _ (Builtin.SmallTypes.nextOf (.ref i1) >>= _) _ _ _
    refine Ja (D1.item k _ _ _ l1 Qa7 fun x1 g1 tk1 p1 q1 sb1=>Jg (Jg ?_))
    have Qfa:S1 (k+1) g1:=q1
    have Qbr:S2 k g1:=D2.frame _ _ _ Qbq fun b hb o e=>sb1.extBut _ _ ((Ap.fp2 b hb).2.2.1) e
    have S3_1:S3 k g1:=D3.frame _ _ _ S3_0 fun b hb o e=>sb1.extBut _ _ ((Ap.fp3 b hb).2.2.1) e
    refine Ja (Ja (Xi ?_))
    show wpAny _ _ (Builtin.SmallTypes.nextOf (.ref i2) >>= _) _ _ _
    refine Ja (D2.item k _ _ _ l2 Qbr fun x2 g2 tk2 p2 q2 sb2=>Jg (Jg ?_))
    have Qc9:S1 (k+1) g2:=D1.frame _ _ _ Qfa fun b hb o e=>sb2.extBut _ _ ((Ap.fp1 b hb).2.2.1) e
    have Qce:S2 (k+1) g2:=q2
    have S3_2:S3 k g2:=D3.frame _ _ _ S3_1 fun b hb o e=>sb2.extBut _ _ ((Ap.fp3 b hb).2.2.2) e
    refine Ja (Ja (Xi ?_))
    show wpAny _ _ (Builtin.SmallTypes.nextOf (.ref i3) >>= _) _ _ _
    refine Ja (D3.item k _ _ _ l3 S3_2 fun x3 g3 tk3 p3 q3 sb3=>Jg (Jg (Jg ?_)))
    have Qfb:S1 (k+1) g3:=D1.frame _ _ _ Qc9 fun b hb o e=>sb3.extBut _ _ ((Ap.fp1 b hb).2.2.2) e
    have S2_3:S2 (k+1) g3:=D2.frame _ _ _ Qce fun b hb o e=>sb3.extBut _ _ ((Ap.fp2 b hb).2.2.2) e
    have S3_3:S3 (k+1) g3:=q3
    refine Ja (W5 (hsz:=by show 3<=sizeLine;decide) (Jg ⟨_,rfl,?_⟩))
    have zg:g3.objs.size=s.heap.objs.size:=by rw[sb3.1,sb2.1,sb1.1,sr.1]
    have kg:∀ c o,c≠z->c≠TO->c≠i1->c≠i2->c≠i3->s.heap.get? c=some o->g3.get? c=some o:=fun c o c1 c2 d1 d2 d3 e=>sb3.extBut _ _ d3 (sb2.extBut _ _ d2 (sb1.extBut _ _ d1 (k0 c o c1 c2 d1 d2 d3 e)))
    have hzn:Vq g3 z TI TO (rawInt T) (.bool true):=sb3.extBut _ _ (Xb Ap.i3z) (sb2.extBut _ _ (Xb Ap.i2z) (sb1.extBut _ _ (Xb Ap.i1z) (hz)))
    show Q (.ref g3.objs.size) _
    have hTn:IsT (g3.push { cls:=.type "tuple",data:=.seq #[x1,x2,x3] }) g3.objs.size #[x1,x2,x3]:=Js _ rfl
    have zu:(g3.push { cls:=.type "tuple",data:=.seq #[x1,x2,x3] }).objs.size=g3.objs.size+1:=J6 ..
    rw[zg] at hTn zu ⊢
    exact hQ _ _ x1 x2 x3 _ _ p1 p2 p3 (Jb _ hzn) (.inr ⟨T,rfl,Tz,TTO,Ti1,Ti2,Ti3,oT,Jb _ (kg _ _ Tz TTO Ti1 Ti2 Ti3 hT)⟩) ⟨a1,a2,a3,Jb _ (sb3.extBut _ _ Ap.TOi3 (sb2.extBut _ _ Ap.TOi2 (sb1.extBut _ _ Ap.TOi1 (sr.extBut _ _ Ap.TOz hTO))))⟩ (D1.frame _ _ _ Qfb fun b hb o e=>Jb _ e) (D2.frame _ _ _ S2_3 fun b hb o e=>Jb _ e) (D3.frame _ _ _ S3_3 fun b hb o e=>Jb _ e) hTn zu fun c o c1 c2 d1 d2 d3 e=>Jb _ (kg c o c1 c2 d1 d2 d3 e)
  | false=>
    rw[Je (show (Value.bool false != Value.bool true)=true from rfl)]
    refine Ja (X4 hz (by simp) fun g0 hz0 sr=>?_)
    replace hz0:Vq g0 z TI TO (rawInt T) (.bool true):=hz0
    refine Jg ?_
    have k0:∀ c o,c≠z->c≠TO->c≠i1->c≠i2->c≠i3->s.heap.get? c=some o->g0.get? c=some o:=fun c o c1 _ _ _ _ e=>sr.extBut _ _ c1 e
    have Qa7:S1 k g0:=D1.frame _ _ _ h1 fun b hb o e=>sr.extBut _ _ (Ap.fp1 b hb).1 e
    have Qbq:S2 k g0:=D2.frame _ _ _ h2 fun b hb o e=>sr.extBut _ _ (Ap.fp2 b hb).1 e
    have S3_0:S3 k g0:=D3.frame _ _ _ h3 fun b hb o e=>sr.extBut _ _ (Ap.fp3 b hb).1 e
    simp only[Xr,X9]
    refine Ja ?_
    simp only[<- Zd,Yl,Yk]
    refine Ja (Ja (Xi ?_))
    show wpAny _ _ (Builtin.SmallTypes.nextOf (.ref i1) >>= _) _ _ _
    refine Ja (D1.item k _ _ _ l1 Qa7 fun x1 g1 tk1 p1 q1 sb1=>Jg (Jg ?_))
    have Qfa:S1 (k+1) g1:=q1
    have Qbr:S2 k g1:=D2.frame _ _ _ Qbq fun b hb o e=>sb1.extBut _ _ ((Ap.fp2 b hb).2.2.1) e
    have S3_1:S3 k g1:=D3.frame _ _ _ S3_0 fun b hb o e=>sb1.extBut _ _ ((Ap.fp3 b hb).2.2.1) e
    refine Ja (Ja (Xi ?_))
    show wpAny _ _ (Builtin.SmallTypes.nextOf (.ref i2) >>= _) _ _ _
    refine Ja (D2.item k _ _ _ l2 Qbr fun x2 g2 tk2 p2 q2 sb2=>Jg (Jg ?_))
    have Qc9:S1 (k+1) g2:=D1.frame _ _ _ Qfa fun b hb o e=>sb2.extBut _ _ ((Ap.fp1 b hb).2.2.1) e
    have Qce:S2 (k+1) g2:=q2
    have S3_2:S3 k g2:=D3.frame _ _ _ S3_1 fun b hb o e=>sb2.extBut _ _ ((Ap.fp3 b hb).2.2.2) e
    refine Ja (Ja (Xi ?_))
    show wpAny _ _ (Builtin.SmallTypes.nextOf (.ref i3) >>= _) _ _ _
    refine Ja (D3.item k _ _ _ l3 S3_2 fun x3 g3 tk3 p3 q3 sb3=>Jg (Jg (Jg ?_)))
    have Qfb:S1 (k+1) g3:=D1.frame _ _ _ Qc9 fun b hb o e=>sb3.extBut _ _ ((Ap.fp1 b hb).2.2.2) e
    have S2_3:S2 (k+1) g3:=D2.frame _ _ _ Qce fun b hb o e=>sb3.extBut _ _ ((Ap.fp2 b hb).2.2.2) e
    have S3_3:S3 (k+1) g3:=q3
    refine Ja (W5 (hsz:=by show 3<=sizeLine;decide) (Jg ⟨_,rfl,?_⟩))
    have zg:g3.objs.size=s.heap.objs.size:=by rw[sb3.1,sb2.1,sb1.1,sr.1]
    have kg:∀ c o,c≠z->c≠TO->c≠i1->c≠i2->c≠i3->s.heap.get? c=some o->g3.get? c=some o:=fun c o c1 c2 d1 d2 d3 e=>sb3.extBut _ _ d3 (sb2.extBut _ _ d2 (sb1.extBut _ _ d1 (k0 c o c1 c2 d1 d2 d3 e)))
    have hzn:Vq g3 z TI TO (rawInt T) (.bool true):=sb3.extBut _ _ (Xb Ap.i3z) (sb2.extBut _ _ (Xb Ap.i2z) (sb1.extBut _ _ (Xb Ap.i1z) (hz0)))
    show Q (.ref g3.objs.size) _
    have hTn:IsT (g3.push { cls:=.type "tuple",data:=.seq #[x1,x2,x3] }) g3.objs.size #[x1,x2,x3]:=Js _ rfl
    have zu:(g3.push { cls:=.type "tuple",data:=.seq #[x1,x2,x3] }).objs.size=g3.objs.size+1:=J6 ..
    rw[zg] at hTn zu ⊢
    exact hQ _ _ x1 x2 x3 _ _ p1 p2 p3 (Jb _ hzn) (.inr ⟨T,rfl,Tz,TTO,Ti1,Ti2,Ti3,oT,Jb _ (kg _ _ Tz TTO Ti1 Ti2 Ti3 hT)⟩) ⟨a1,a2,a3,Jb _ (sb3.extBut _ _ Ap.TOi3 (sb2.extBut _ _ Ap.TOi2 (sb1.extBut _ _ Ap.TOi1 (sr.extBut _ _ Ap.TOz hTO))))⟩ (D1.frame _ _ _ Qfb fun b hb o e=>Jb _ e) (D2.frame _ _ _ S2_3 fun b hb o e=>Jb _ e) (D3.frame _ _ _ S3_3 fun b hb o e=>Jb _ e) hTn zu fun c o c1 c2 d1 d2 d3 e=>Jb _ (kg c o c1 c2 d1 d2 d3 e)
theorem zam{z TI TO i1 i2 i3:Addr}{n1:Nat}{f1:List Addr}{P1:Nat->Value->Prop}{S1:Nat->Heap->Prop}(D1:Draws prog w A i1 f1 n1 P1 S1){n2:Nat}{f2:List Addr}{P2:Nat->Value->Prop}{S2:Nat->Heap->Prop}(D2:Draws prog w A i2 f2 n2 P2 S2){n3:Nat}{f3:List Addr}{P3:Nat->Value->Prop}{S3:Nat->Heap->Prop}(D3:Draws prog w A i3 f3 n3 P3 S3){k:Nat}{f0:Value}{fb:Bool}{Q:Fin->Shared->Prop}(Ap:Ap3 z TI TO i1 i2 i3 f1 f2 f3)(hz:Vq s.heap z TI TO f0 (.bool fb))(ho:Own3 s.heap z TO i1 i2 i3 f0)(hTI:IsT s.heap TI #[.ref i1,.ref i2,.ref i3])(hTO:∃ a1 a2 a3,IsT s.heap TO #[a1,a2,a3])(h1:S1 k s.heap)(h2:S2 k s.heap)(h3:S3 k s.heap)(l1:k<n1)(e2:k=n2)
  (hE:∀ h' tk e,(∀ c o,c≠z->c≠TO->c≠i1->c≠i2->c≠i3->s.heap.get? c=some o->h'.get? c=some o)->(∃ o,h'.get? e=some o/\o.cls = .type "StopIteration")->E (.ref e) { s with heap:=h',toks:=tk }):
  wpAny (model prog w) A (Builtin.«zip.__next__» ⟨[.ref z],[]⟩) Q E s:=by
 subst e2
 obtain⟨a1,a2,a3,hTO⟩:=hTO
 show wpAny _ _ (field (.ref z) 2 >>= _) _ _ _
 refine Ja (Xo hz rfl (x:=.bool false) rfl ?_)
 show wpAny _ _ (field (.ref z) 3 >>= _) _ _ _
 refine Ja (Xo hz rfl (x:=.ref TI) rfl ?_)
 refine Ja (Yc hTI rfl ?_)
 show wpAny _ _ (Builtin.SmallTypes.ownedTupleIsFree (.ref z) >>= _) _ _ _
 refine Ja ?_
 unfold Builtin.SmallTypes.ownedTupleIsFree
 rcases ho with rfl|⟨T,rfl,Tz,TTO,Ti1,Ti2,Ti3,oT,hT⟩
 ·refine Ja (Xo hz rfl (x:=.none) rfl (Jg ?_))
  simp only[Wh]
  refine Ja (Uv ?_)
  refine Ja (Xo hz rfl (x:=.ref TO) rfl ?_)
  refine Ja (X4 hz (by simp) fun g0 hz0 sb0=>?_)
  replace hz0:Vq g0 z TI TO .ellipsis (.bool fb):=hz0
  refine Ja ?_
  simp only[Qi,Qu,Yl,Yk]
  have Qa7:S1 k g0:=D1.frame _ _ _ h1 fun b hb o e=>sb0.extBut _ _ (Ap.fp1 b hb).1 e
  have Qbq:S2 k g0:=D2.frame _ _ _ h2 fun b hb o e=>sb0.extBut _ _ (Ap.fp2 b hb).1 e
  have T0:IsT g0 TO #[a1,a2,a3]:=sb0.extBut _ _ Ap.TOz hTO
  refine Ja (Ja (Z9 ?_))
  show wpAny _ _ (Builtin.SmallTypes.nextOf (.ref i1) >>= _) _ _ _
  refine Ja (D1.item k _ _ _ l1 Qa7 fun x1 g1 tk1 p1 q1 sb1=>Jg ?_)
  have T1:IsT g1 TO #[a1,a2,a3]:=sb1.extBut _ _ Ap.TOi1 T0
  have Qbr:S2 k g1:=D2.frame _ _ _ Qbq fun b hb o e=>sb1.extBut _ _ ((Ap.fp2 b hb).2.2.1) e
  refine Ja (Yc T1 rfl ?_)
  refine Ja (qg5 T1 fun g2 T2 sb2=>?_)
  refine Ja (W2 (Jg ?_))
  have Qce:S2 k g2:=D2.frame _ _ _ Qbr fun b hb o e=>sb2.extBut _ _ (Ap.fp2 b hb).2.1 e
  have hz2:Vq g2 z TI TO .ellipsis (.bool fb):=sb2.extBut _ _ (Xb Ap.TOz) (sb1.extBut _ _ (Xb Ap.i1z) hz0)
  refine Ja (Ja (Z9 ?_))
  show wpAny _ _ (Builtin.SmallTypes.nextOf (.ref i2) >>= _) _ _ _
  refine Ja (D2.done _ _ _ Qce fun u e su he=>?_)
  obtain⟨oe,hoe,hce⟩:=he
  have hzu:Vq u z TI TO .ellipsis (.bool fb):=su _ _ (Xb Ap.i2z) hz2
  have hez:e≠z:=fun q=>by subst q;rw[hzu] at hoe;cases hoe;simp at hce
  refine X4 hzu (by simp) fun u2 _ s2=>hE u2 _ e (fun c o c1 c2 d1 d2 d3 q=>s2.extBut _ _ c1 (su _ _ d2 (sb2.extBut _ _ c2 (sb1.extBut _ _ d1 (sb0.extBut _ _ c1 q))))) ⟨oe,s2.extBut _ _ hez hoe,hce⟩
 ·refine Ja (Xo hz rfl (x:=rawInt T) rfl ?_)
  show wpAny _ _ (loadIfAlive ((T:Int).toNat) >>= _) _ _ _
  rw[J1]
  refine Ja (alive hT ?_)
  simp only[Ut,Xr,X9]
  refine Ja (Xo hz rfl (x:=.bool fb) rfl ?_)
  cases fb with
  | true=>
    rw[Jc (show ¬ ((Value.bool true != Value.bool true)=true) from Jr)]
    refine Jg ?_
    have Qa7:=h1
    have Qbq:=h2
    have k0:∀ c o,c≠z->s.heap.get? c=some o->s.heap.get? c=some o:=fun c o _ q=>q
    simp only[Xr,X9]
    refine Ja ?_
    simp only[<- Zd,Yl,Yk]
    refine Ja (Ja (Xi ?_))
    show wpAny _ _ (Builtin.SmallTypes.nextOf (.ref i1) >>= _) _ _ _
    refine Ja (D1.item k _ _ _ l1 Qa7 fun x1 g1 tk1 p1 q1 sb1=>Jg (Jg ?_))
    have Qbr:S2 k g1:=D2.frame _ _ _ Qbq fun b hb o e=>sb1.extBut _ _ ((Ap.fp2 b hb).2.2.1) e
    refine Ja (Ja (Xi ?_))
    show wpAny _ _ (Builtin.SmallTypes.nextOf (.ref i2) >>= _) _ _ _
    exact Ja (D2.done _ _ _ Qbr fun u e su he=>hE u _ e (fun c o c1 c2 d1 d2 d3 q=>su _ _ d2 (sb1.extBut _ _ d1 (k0 c o c1 q))) he)
  | false=>
    rw[Je (show (Value.bool false != Value.bool true)=true from rfl)]
    refine Ja (X4 hz (by simp) fun g0 hz0 sr=>?_)
    refine Jg ?_
    have Qa7:S1 k g0:=D1.frame _ _ _ h1 fun b hb o e=>sr.extBut _ _ (Ap.fp1 b hb).1 e
    have Qbq:S2 k g0:=D2.frame _ _ _ h2 fun b hb o e=>sr.extBut _ _ (Ap.fp2 b hb).1 e
    have k0:∀ c o,c≠z->s.heap.get? c=some o->g0.get? c=some o:=fun c o c1 q=>sr.extBut _ _ c1 q
    simp only[Xr,X9]
    refine Ja ?_
    simp only[<- Zd,Yl,Yk]
    refine Ja (Ja (Xi ?_))
    show wpAny _ _ (Builtin.SmallTypes.nextOf (.ref i1) >>= _) _ _ _
    refine Ja (D1.item k _ _ _ l1 Qa7 fun x1 g1 tk1 p1 q1 sb1=>Jg (Jg ?_))
    have Qbr:S2 k g1:=D2.frame _ _ _ Qbq fun b hb o e=>sb1.extBut _ _ ((Ap.fp2 b hb).2.2.1) e
    refine Ja (Ja (Xi ?_))
    show wpAny _ _ (Builtin.SmallTypes.nextOf (.ref i2) >>= _) _ _ _
    exact Ja (D2.done _ _ _ Qbr fun u e su he=>hE u _ e (fun c o c1 c2 d1 d2 d3 q=>su _ _ d2 (sb1.extBut _ _ d1 (k0 c o c1 q))) he)
end
end QZ
namespace QZ
open PySem
open Sem (wp)
theorem zap:typeLookup (.type "zip") "keys" = pure none:=am_miss_of_fast (by first|decide +kernel|rfl)
theorem zao:typeLookup (.type "zip") "__getattr__" = pure none:=by rw[typeLookup_type,builtinLookup_eq_fast];kernel_rfl
theorem q0a:entryFor table "zip.__getattribute__" = some Builtin.«object.__getattribute__»:=
 entryFor_alias (id':= "object.__getattribute__") (by kernel_rfl) (by decide +kernel) (by decide +kernel) (by kernel_rfl)
theorem q3f(a:Addr)(vs:Array Value)(name:Str)(u:Tok)(hmiss:typeLookup (.type "zip") name=pure none)(hname:(["__module__","__name__","__qualname__","__doc__","__annotations__"]:List Str).contains name=false)(hsz:name.length+100<=sizeLine:=by size_fits):
  Meets (Builtin.«object.__getattribute__» ⟨[.ref a,.str name u],[]⟩) (fun A R s=>s.heap.get? a=some { cls:=.type "zip",dict:=none,data:=.fields vs,slots:=#[] }/\raisesAttr (.ref a) name A R s):=
 Meets.of_wp fun prog w A R s hs=>by
  obtain⟨hp,g,d,tk,os⟩:=s
  obtain⟨hx,hs⟩:=hs
  have hT:(⟨hp,g,d,tk,os⟩:Shared).TypeIs (.ref a) "zip":=⟨_,hx,rfl⟩
  unfold Builtin.«object.__getattribute__»
  repeat (any_goals (first|assumption|wp_step))
  simp only[hname,Xr,X9]
  repeat (any_goals (first|assumption|wp_step))
  exact wpAny_raiseAttrError hs.1 hs.2 (attrMsg_fits (by decide +kernel) hsz)
theorem q3k{prog:Program}{w:World}{A:Around}{E:Value->Shared->Prop}{s:Shared}{a:Addr}{vs:Array Value}{Q:Option Value->Shared->Prop}(hx:s.heap.get? a=some { cls:=.type "zip",dict:=none,data:=.fields vs,slots:=#[] })(hA:A.handled=none)
  (h:∀ h' tk,(∀ b ob,s.heap.get? b=some ob->h'.get? b=some ob)->Q none { s with heap:=h',toks:=tk }): wpAny (model prog w) A (getAttr? (.ref a) "keys") Q E s:=by
 obtain⟨hp,g,d,tk,os⟩:=s
 have hT:∀ tk',(⟨hp,g,d,tk',os⟩:Shared).TypeIs (.ref a) "zip":=fun _=>⟨_,hx,rfl⟩
 have hmiss:=zap
 have hname:(["__module__","__name__","__qualname__","__doc__","__annotations__"]:List Str).contains "keys" = false:=by decide +kernel
 have hsz:("keys" : Str).length+100<=sizeLine:=by first|size_fits|decide +kernel
 have f1:=sub_AttributeError
 have f3:=W4.lookup
 have f4:=W4.bind (.ref a)
 have f5:=zao
 unfold getAttr? getAttrBy? getAttrBy
 repeat (any_goals (first|assumption|exact hT _|((with_reducible show wpAny _ _ (call (Value.builtin "zip.__getattribute__") _ _) _ _ _);refine call_meets W4 (hT _) q0a (PySem.F.args_zip_getattribute_2 _ _) (q3f a vs "keys" _ hmiss hname hsz) ⟨hx,hA,fun h' tk' e hx'=>?_⟩)|wp_step))
 obtain⟨t',u',he⟩:=hx'.there
 show wpAny _ _ (getattributeRaised _ _ _ _ _ _ _) _ _ _
 unfold getattributeRaised
 repeat (any_goals (first|assumption|wp_step))
 all_goals first|exact h _ _ hx'.keeps|(dsimp only;repeat (any_goals (first|assumption|exact h _ _ hx'.keeps|wp_step)))
end QZ
namespace QZ
open PySem
open Sem (wp)
section
variable {prog:Program} {w:World} {A:Around} {E:Value->Shared->Prop} {s:Shared}
theorem q4f{it t:Addr}{i:Nat}{items}{x:Value}{Q:Value->Shared->Prop}(hit:s.heap.IsTupleIter it t i)
  (ht:s.heap.IsTuple t items)(hx:items[i]?=some x)
  (hQ:∀ h',h'.IsTupleIter it t (i+1)->Heap.SameBut it s.heap h'->Q x { s with heap:=h' }):
  wpAny (model prog w) A (Builtin.SmallTypes.nextOf (.ref it)) Q E s:=by
 obtain⟨o,ho,hc,hd⟩:=id hit
 obtain⟨ol,hol,_,nl,hdl⟩:=ht
 unfold Builtin.SmallTypes.nextOf
 refine Ja (X8 (name:=Str.ofString "__next__") hit.typeIs Wa
  (X6 Wa hit.typeIs F.entry_tuple_iterator_next ?_ (F.args_tuple_iterator_next_1 _)))
 show wpAny _ _ (field (.ref it) 0 >>= _) _ _ s
 refine Ja (Xo ho hd (x:=.ref t) rfl ?_)
 show wpAny _ _ (if (Value.ref t==Value.none)=true then _ else _) _ _ s
 rw[Jc (show ¬ ((Value.ref t==Value.none)=true) from Jr)]
 show wpAny _ _ (field (.ref it) 1 >>= _) _ _ s
 refine Ja (Xo ho hd (x:=.int i 0) rfl ?_)
 show wpAny _ _ (seqItems? (.ref t) >>= _) _ _ s
 refine Ja (Yc hol hdl ?_)
 simp only[J1,hx]
 refine Ja (wpAny_setField ho hd (by simp) (Jg ⟨x,rfl,Jg (hQ _ ?_ (Wr ..))⟩))
 exact⟨_,Yy _ ho (Obj.isFreed_of_fields (Us hd _)),(Obj.cls_mapFields ..).trans hc,by
  rw[Us hd];simp[rawInt]⟩
theorem q4e{it t:Addr}{i:Nat}{items}{Q:Value->Shared->Prop}(hh:A.handled=none)
  (hit:s.heap.IsTupleIter it t i)(ht:s.heap.IsTuple t items)(hx:items[i]?=none)
  (hE:∀ h' e,Heap.ExtBut it s.heap h'->(∃ o,h'.get? e=some o/\o.cls = .type "StopIteration")->E (.ref e) { s with heap:=h' }):
  wpAny (model prog w) A (Builtin.SmallTypes.nextOf (.ref it)) Q E s:=by
 obtain⟨o,ho,hc,hd⟩:=id hit
 obtain⟨ol,hol,_,nl,hdl⟩:=ht
 unfold Builtin.SmallTypes.nextOf
 refine Ja (X8 (name:=Str.ofString "__next__") hit.typeIs Wa
  (X6 Wa hit.typeIs F.entry_tuple_iterator_next ?_ (F.args_tuple_iterator_next_1 _)))
 show wpAny _ _ (field (.ref it) 0 >>= _) _ _ s
 refine Ja (Xo ho hd (x:=.ref t) rfl ?_)
 show wpAny _ _ (if (Value.ref t==Value.none)=true then _ else _) _ _ s
 rw[Jc (show ¬ ((Value.ref t==Value.none)=true) from Jr)]
 show wpAny _ _ (field (.ref it) 1 >>= _) _ _ s
 refine Ja (Xo ho hd (x:=.int i 0) rfl ?_)
 show wpAny _ _ (seqItems? (.ref t) >>= _) _ _ s
 refine Ja (Yc hol hdl ?_)
 simp only[J1,hx]
 refine Ja (Uv (Ja (wpAny_setField ho hd (by simp) ?_)))
 show wpAny _ _ (newExc (.type "StopIteration") [] >>= _) _ _ _
 refine Ja ?_
 simp only[newExc,newTuple]
 refine Ja (We ?_ (by size_fits))
 refine Ja (m:=firstArgMember _ _) (wpAny_of_eq (a:=Value.none) (by first|rfl|(simp only[firstArgMember];rfl)) ?_)
 refine We ?_ (by size_fits)
 simp only[raiseNew]
 refine Ja (wpAny_handled ?_)
 first|rw[show A.in1.handled=none from hh]|rw[hh]
 refine Ja (Jg (wpAny_throw ?_))
 exact hE _ _ (((Wr ..).extBut.push _).push _) ⟨_,Js _ rfl,rfl⟩
theorem qj6{h h':Heap}{t:Addr}{items:Array Value}(x:h.IsTuple t items)(e:∀ o,h.get? t=some o->h'.get? t=some o): h'.IsTuple t items:=let ⟨o,ho,r⟩:=x;⟨o,e _ ho,r⟩
theorem qo8(hh:A.handled=none)(it t:Addr)(hne:t≠it)(items:Array Value):
  Draws prog w A it [it,t] items.size (fun i v=>items[i]?=some v) (fun i h=>h.IsTupleIter it t i/\h.IsTuple t items) where
 live:=fun i h st=>let ⟨o,ho,_⟩:=st.1;⟨o,ho⟩
 frame:=fun i h h' st k=>⟨st.1.at fun o e=>k it (by simp) o e,qj6 st.2 fun o e=>k t (by simp) o e⟩
 item:=fun i s Q E hi st hQ=>q4f st.1 st.2 (Y8 hi) fun h' hit sb=>hQ _ h' s.toks (Y8 hi) ⟨hit,st.2.extBut sb.extBut hne⟩ sb
 done:=fun s Q E st hE=>q4e hh st.1 st.2 (Array.getElem?_eq_none (Jp _)) hE
end
theorem q93(a b c:Value): checkTypeCall "zip" ⟨[a,b,c],[]⟩=pure ():=by kernel_rfl
theorem q4c(a b c:Value): checkBuiltinCall "zip.__new__" ⟨[.type "zip",a,b,c],[]⟩=pure ():=by kernel_rfl
theorem qwb(a b c d:Value): argsOk "object.__init__" ⟨[a,b,c,d],[]⟩:=by
 unfold argsOk;rw[signature?_of (id:= "object.__init__") (n:=['_','_','t','i','n','i','_','_']) (o:=['t','c','e','j','b','o']) (by kernel_rfl) F.owner_object];kernel_rfl
abbrev tiO(t:Addr): Obj:={ cls:=.type "tuple_iterator",data:=.fields #[.ref t,.int 0 0] }
abbrev liO(t:Addr): Obj:={ cls:=.type "list_iterator",data:=.fields #[.ref t,.int 0 0] }
abbrev tuO(vs:Array Value): Obj:={ cls:=.type "tuple",data:=.seq vs }
abbrev ziO(TI TO:Addr): Obj:={ cls:=.type "zip",data:=.fields #[.none,.bool false,.bool false,.ref TI,.ref TO] }
abbrev zh2(h:Heap)(t l:Addr): Heap:=((((h.push (tiO t)).push (liO l)).push (tuO #[.ref h.objs.size,.ref (h.push (tiO t)).objs.size])).push (tuO #[.none,.none])).push
 (ziO ((h.push (tiO t)).push (liO l)).objs.size (((h.push (tiO t)).push (liO l)).push (tuO #[.ref h.objs.size,.ref (h.push (tiO t)).objs.size])).objs.size)
theorem q3h(t l:Addr)(xs ys:Array Value):
  Meets (Builtin.«zip.__new__» ⟨[.type "zip",.ref t,.ref l],[]⟩) (fun _ R s=>s.heap.IsTuple t xs/\s.heap.IsList l ys /\
   R (.ok (.ret (.ref ((((s.heap.push (tiO t)).push (liO l)).push (tuO #[.ref s.heap.objs.size,.ref (s.heap.push (tiO t)).objs.size])).push (tuO #[.none,.none])).objs.size))) { s with heap:=zh2 s.heap t l }):=
 .of_wp fun prog w A R s h=>by
  obtain⟨hp,g,d,tk,os⟩:=s;obtain⟨hl1,hl2,h⟩:=h
  have hsub:=sub_zip
  have hL1:Heap.IsTuple (Shared.heap ⟨hp,g,d,tk,os⟩) t xs:=hl1
  have hL2:Heap.IsList (Shared.heap ⟨hp.push (tiO t),g,d,tk,os⟩) l ys:=Qj hl2 _
  wp_walk using wpAny_pyIter_tuple hL1,Y6 hL2
  exact⟨_,rfl,h⟩
abbrev zi3(h:Heap)(a b c:Addr): Heap:=((h.push (liO a)).push (liO b)).push (liO c)
abbrev zj3(h:Heap)(a b c:Addr): Heap:=(zi3 h a b c).push (tuO #[.ref h.objs.size,.ref (h.push (liO a)).objs.size,.ref ((h.push (liO a)).push (liO b)).objs.size])
abbrev zk3(h:Heap)(a b c:Addr): Heap:=(zj3 h a b c).push (tuO #[.none,.none,.none])
abbrev zh3(h:Heap)(a b c:Addr): Heap:=(zk3 h a b c).push (ziO (zi3 h a b c).objs.size (zj3 h a b c).objs.size)
theorem q3g(a b c:Addr)(xs ys zs:Array Value):
  Meets (Builtin.«zip.__new__» ⟨[.type "zip",.ref a,.ref b,.ref c],[]⟩) (fun _ R s=>s.heap.IsList a xs/\s.heap.IsList b ys/\s.heap.IsList c zs /\
   R (.ok (.ret (.ref (zk3 s.heap a b c).objs.size))) { s with heap:=zh3 s.heap a b c }):=
 .of_wp fun prog w A R s h=>by
  obtain⟨hp,g,d,tk,os⟩:=s;obtain⟨hl1,hl2,hl3,h⟩:=h
  have hsub:=sub_zip
  have hL1:Heap.IsList (Shared.heap ⟨hp,g,d,tk,os⟩) a xs:=hl1
  have hL2:Heap.IsList (Shared.heap ⟨hp.push (liO a),g,d,tk,os⟩) b ys:=Qj hl2 _
  have hL3:Heap.IsList (Shared.heap ⟨(hp.push (liO a)).push (liO b),g,d,tk,os⟩) c zs:=Qj (Qj hl3 _) _
  wp_walk using Y6 hL1,Y6 hL2,Y6 hL3
  exact⟨_,rfl,h⟩
section
variable {prog:Program} {w:World} {A:Around} {E:Value->Shared->Prop} {s:Shared}
theorem qxi{t l:Addr}{xs ys:Array Value}{Q:Value->Shared->Prop}(ht:s.heap.IsTuple t xs)(hl:s.heap.IsList l ys)
  (h:∀ h',Vq h' (s.heap.objs.size+4) (s.heap.objs.size+2) (s.heap.objs.size+3) .none (.bool false)->IsT h' (s.heap.objs.size+2) #[.ref s.heap.objs.size,.ref (s.heap.objs.size+1)] ->
   IsT h' (s.heap.objs.size+3) #[.none,.none]->h'.IsTupleIter s.heap.objs.size t 0->h'.IsListIter (s.heap.objs.size+1) l 0->h'.objs.size=s.heap.objs.size+5 ->
   (∀ c o,s.heap.get? c=some o->h'.get? c=some o)->Q (.ref (s.heap.objs.size+4)) { s with heap:=h' }):
  wpAny (model prog w) A (call (.type "zip") [.ref t,.ref l]) Q E s:=by
 refine callType_new F.called_zip (by decide) (F.typeCall_zip_2 _ _) (F.newCall_zip_2 _ _) (fun obj=>F.args_object_init_3 obj _ _) F.entry_zip_new
  (q3h t l xs ys) ⟨ht,hl,?_⟩
 have z1:(s.heap.push (tiO t)).objs.size=s.heap.objs.size+1:=J6 ..
 have z2:((s.heap.push (tiO t)).push (liO l)).objs.size=s.heap.objs.size+2:=by rw[J6,z1]
 have z3:(((s.heap.push (tiO t)).push (liO l)).push (tuO #[.ref s.heap.objs.size,.ref (s.heap.push (tiO t)).objs.size])).objs.size=s.heap.objs.size+3:=by rw[J6,z2]
 have z4:((((s.heap.push (tiO t)).push (liO l)).push (tuO #[.ref s.heap.objs.size,.ref (s.heap.push (tiO t)).objs.size])).push (tuO #[.none,.none])).objs.size=s.heap.objs.size+4:=by rw[J6,z3]
 have z5:(zh2 s.heap t l).objs.size=s.heap.objs.size+5:=by rw[J6,z4]
 have g5:(zh2 s.heap t l).get? ((((s.heap.push (tiO t)).push (liO l)).push (tuO #[.ref s.heap.objs.size,.ref (s.heap.push (tiO t)).objs.size])).push (tuO #[.none,.none])).objs.size=some _:=Js _ rfl
 have g4:(zh2 s.heap t l).get? (((s.heap.push (tiO t)).push (liO l)).push (tuO #[.ref s.heap.objs.size,.ref (s.heap.push (tiO t)).objs.size])).objs.size=some _:=Jb _ (Js _ rfl)
 have g3:(zh2 s.heap t l).get? ((s.heap.push (tiO t)).push (liO l)).objs.size=some _:=Jb _ (Jb _ (Js _ rfl))
 have g2:(zh2 s.heap t l).get? (s.heap.push (tiO t)).objs.size=some _:=Jb _ (Jb _ (Jb _ (Js _ rfl)))
 have g1:(zh2 s.heap t l).get? s.heap.objs.size=some _:=Jb _ (Jb _ (Jb _ (Jb _ (Js _ rfl))))
 show _/\_
 rw[z2,z3,z4] at g5
 rw[z1,z2] at g3
 rw[z3] at g4
 rw[z1] at g2
 rw[z4]
 exact⟨⟨_,g5,rfl⟩,h _ g5 g3 g4 ⟨_,g1,rfl,rfl⟩ ⟨_,g2,rfl,rfl⟩ z5 fun c o x=>
  Jb _ (Jb _ (Jb _ (Jb _ (Jb _ x))))⟩
theorem qxh{a b c:Addr}{xs ys zs:Array Value}{Q:Value->Shared->Prop}(ha:s.heap.IsList a xs)(hb:s.heap.IsList b ys)(hc:s.heap.IsList c zs)
  (h:∀ h',Vq h' (s.heap.objs.size+5) (s.heap.objs.size+3) (s.heap.objs.size+4) .none (.bool false)->IsT h' (s.heap.objs.size+3) #[.ref s.heap.objs.size,.ref (s.heap.objs.size+1),.ref (s.heap.objs.size+2)] ->
   IsT h' (s.heap.objs.size+4) #[.none,.none,.none]->h'.IsListIter s.heap.objs.size a 0->h'.IsListIter (s.heap.objs.size+1) b 0->h'.IsListIter (s.heap.objs.size+2) c 0->h'.objs.size=s.heap.objs.size+6 ->
   (∀ c o,s.heap.get? c=some o->h'.get? c=some o)->Q (.ref (s.heap.objs.size+5)) { s with heap:=h' }):
  wpAny (model prog w) A (call (.type "zip") [.ref a,.ref b,.ref c]) Q E s:=by
 refine callType_new F.called_zip (by decide) (q93 _ _ _) (q4c _ _ _) (fun obj=>qwb obj _ _ _) F.entry_zip_new
  (q3g a b c xs ys zs) ⟨ha,hb,hc,?_⟩
 have z1:(s.heap.push (liO a)).objs.size=s.heap.objs.size+1:=J6 ..
 have z2:((s.heap.push (liO a)).push (liO b)).objs.size=s.heap.objs.size+2:=by rw[J6,z1]
 have z3:(zi3 s.heap a b c).objs.size=s.heap.objs.size+3:=by rw[J6,z2]
 have z4:(zj3 s.heap a b c).objs.size=s.heap.objs.size+4:=by rw[J6,z3]
 have z5:(zk3 s.heap a b c).objs.size=s.heap.objs.size+5:=by rw[J6,z4]
 have z6:(zh3 s.heap a b c).objs.size=s.heap.objs.size+6:=by rw[J6,z5]
 have g6:(zh3 s.heap a b c).get? (zk3 s.heap a b c).objs.size=some _:=Js _ rfl
 have g5:(zh3 s.heap a b c).get? (zj3 s.heap a b c).objs.size=some _:=Jb _ (Js _ rfl)
 have g4:(zh3 s.heap a b c).get? (zi3 s.heap a b c).objs.size=some _:=Jb _ (Jb _ (Js _ rfl))
 have g3:(zh3 s.heap a b c).get? ((s.heap.push (liO a)).push (liO b)).objs.size=some _:=Jb _ (Jb _ (Jb _ (Js _ rfl)))
 have g2:(zh3 s.heap a b c).get? (s.heap.push (liO a)).objs.size=some _:=Jb _ (Jb _ (Jb _ (Jb _ (Js _ rfl))))
 have g1:(zh3 s.heap a b c).get? s.heap.objs.size=some _:=Jb _ (Jb _ (Jb _ (Jb _ (Jb _ (Js _ rfl)))))
 show _/\_
 rw[z3,z4,z5] at g6
 rw[z1,z2,z3] at g4
 rw[z4] at g5
 rw[z2] at g3
 rw[z1] at g2
 rw[z5]
 exact⟨⟨_,g6,rfl⟩,h _ g6 g4 g5 ⟨_,g1,rfl,rfl⟩ ⟨_,g2,rfl,rfl⟩ ⟨_,g3,rfl,rfl⟩ z6 fun c o x=>
  Jb _ (Jb _ (Jb _ (Jb _ (Jb _ (Jb _ x)))))⟩
end
end QZ
namespace QZ
open PySem
open Sem (wp)
theorem zar:typeLookup (.type "zip") "__len__" = pure none:=am_miss_of_fast (by first|decide +kernel|rfl)
theorem zaq:typeLookup (.type "zip") "__length_hint__" = pure none:=am_miss_of_fast (by first|decide +kernel|rfl)
structure Z3(h:Heap)(z TI TO i1 i2 i3 l1 l2 l3:Addr)(xs ys us:Array Value)(k:Nat): Prop where
 ex:∃ f0 fb,Vq h z TI TO f0 (.bool fb)/\Own3 h z TO i1 i2 i3 f0
 ti:IsT h TI #[.ref i1,.ref i2,.ref i3]
 to:∃ a1 a2 a3,IsT h TO #[a1,a2,a3]
 s1:h.IsListIter i1 l1 k/\h.IsList l1 xs
 s2:h.IsListIter i2 l2 k/\h.IsList l2 ys
 s3:h.IsListIter i3 l3 k/\h.IsList l3 us
section
variable {prog:Program} {w:World} {A:Around} {E:Value->Shared->Prop} {s:Shared} {z TI TO i1 i2 i3 l1 l2 l3:Addr} {xs ys us:Array Value} {k:Nat}
theorem Z3.but{h h':Heap}{S:Addr}(Ap:Ap3 z TI TO i1 i2 i3 [i1,l1] [i2,l2] [i3,l3])(x:Z3 h z TI TO i1 i2 i3 l1 l2 l3 xs ys us k)
  (hS:S≠z/\S≠TI/\S≠TO/\S≠i1/\S≠i2/\S≠i3/\S≠l1/\S≠l2/\S≠l3)(oS:∃ o,h'.get? S=some o)
  (kp:∀ b o,b≠S->h.get? b=some o->h'.get? b=some o): Z3 h' z TI TO i1 i2 i3 l1 l2 l3 xs ys us k:=by
 obtain⟨n1,n2,n3,n4,n5,n6,n7,n8,n9⟩:=hS
 obtain⟨⟨f0,fb,hz,ho⟩,ti,⟨a1,a2,a3,to⟩,s1,s2,s3⟩:=x
 refine⟨⟨f0,fb,kp _ _ (Xb n1) hz,?_⟩,kp _ _ (Xb n2) ti,⟨a1,a2,a3,kp _ _ (Xb n3) to⟩,⟨s1.1.at fun o e=>kp _ o (Xb n4) e,s1.2.at fun o e=>kp _ o (Xb n7) e⟩,
  ⟨s2.1.at fun o e=>kp _ o (Xb n5) e,s2.2.at fun o e=>kp _ o (Xb n8) e⟩,⟨s3.1.at fun o e=>kp _ o (Xb n6) e,s3.2.at fun o e=>kp _ o (Xb n9) e⟩⟩
 rcases ho with rfl|⟨T,e,t1,t2,t3,t4,t5,o,hT⟩
 ·exact .inl rfl
 ·by_cases q:T=S
  ·obtain⟨o',ho'⟩:=oS
   exact .inr ⟨T,e,t1,t2,t3,t4,t5,o',by rw[q];exact ho'⟩
  ·exact .inr ⟨T,e,t1,t2,t3,t4,t5,o,kp _ _ q hT⟩
theorem next3{Q:Option Value->Shared->Prop}{x y u:Value}(hh:A.handled=none)(Ap:Ap3 z TI TO i1 i2 i3 [i1,l1] [i2,l2] [i3,l3])(x0:Z3 s.heap z TI TO i1 i2 i3 l1 l2 l3 xs ys us k)
  (d1:l1≠i1)(d2:l2≠i2)(d3:l3≠i3)(hx:xs[k]?=some x)(hy:ys[k]?=some y)(hu:us[k]?=some u)
  (hQ:∀ h' tk,Z3 h' z TI TO i1 i2 i3 l1 l2 l3 xs ys us (k+1)->IsT h' s.heap.objs.size #[x,y,u]->h'.objs.size=s.heap.objs.size+1 ->
   (∀ c o,c≠z->c≠TO->c≠i1->c≠i2->c≠i3->s.heap.get? c=some o->h'.get? c=some o)->Q (some (.ref s.heap.objs.size)) { s with heap:=h',toks:=tk }):
  wpAny (model prog w) A (pyNext (.ref z)) Q E s:=by
 obtain⟨⟨f0,fb,hz,ho⟩,ti,to,s1,s2,s3⟩:=x0
 have hT:s.TypeIs (.ref z) "zip":=⟨_,hz,rfl⟩
 have e1:=(Yp.mp hx).1
 have e2:=(Yp.mp hy).1
 have e3:=(Yp.mp hu).1
 unfold pyNext
 refine Ja (Ws (X8 (name:=Str.ofString "__next__") hT Zn (X6 Zn hT Qk
  (zan (W7 (A:=A.in1) hh i1 l1 d1 xs) (W7 (A:=A.in1) hh i2 l2 d2 ys) (W7 (A:=A.in1) hh i3 l3 d3 us) Ap hz ho ti to s1 e1 s2 e2 s3 e3 fun h' tk x1 x2 x3 f0' fb' p1 p2 p3 hz' ho' to' q1 q2 q3 hn zn kp=>?_) (U9 _))))
 rw[hx] at p1;rw[hy] at p2;rw[hu] at p3
 cases p1;cases p2;cases p3
 refine Jg (hQ h' tk ⟨⟨f0',fb',hz',ho'⟩,kp _ _ Ap.TIz Ap.TITO Ap.TIi1 Ap.TIi2 Ap.TIi3 ti,to',q1,q2,q3⟩ hn zn kp)
theorem end3{Q:Option Value->Shared->Prop}(hh:A.handled=none)(Ap:Ap3 z TI TO i1 i2 i3 [i1,l1] [i2,l2] [i3,l3])(x0:Z3 s.heap z TI TO i1 i2 i3 l1 l2 l3 xs ys us k)
  (d1:l1≠i1)(d2:l2≠i2)(d3:l3≠i3)(h1:k<xs.size)(h2:k=ys.size)
  (hQ:∀ h' tk,(∀ c o,c≠z->c≠TO->c≠i1->c≠i2->c≠i3->s.heap.get? c=some o->h'.get? c=some o)->Q none { s with heap:=h',toks:=tk }):
  wpAny (model prog w) A (pyNext (.ref z)) Q E s:=by
 obtain⟨⟨f0,fb,hz,ho⟩,ti,to,s1,s2,s3⟩:=x0
 have hT:s.TypeIs (.ref z) "zip":=⟨_,hz,rfl⟩
 unfold pyNext
 refine Ja (Ws (X8 (name:=Str.ofString "__next__") hT Zn (X6 Zn hT Qk
  (zam (W7 (A:=A.in1) hh i1 l1 d1 xs) (W7 (A:=A.in1) hh i2 l2 d2 ys) (W7 (A:=A.in1) hh i3 l3 d3 us) Ap hz ho ti to s1 s2 s3 h1 h2 fun h' tk e kp he=>?_) (U9 _))))
 obtain⟨o,ho,hc⟩:=he
 refine Ja (Qh (T:= "StopIteration") (b:=true) ⟨o,ho,hc⟩ isSubtype_stop ?_)
 exact Jg (hQ _ _ kp)
theorem ext3{R:Result->Shared->Prop}{S:Addr}(res:Value)(hh:A.handled=none)(Ap:Ap3 z TI TO i1 i2 i3 [i1,l1] [i2,l2] [i3,l3])(d1:l1≠i1)(d2:l2≠i2)(d3:l3≠i3)
  (hS:S≠z/\S≠TI/\S≠TO/\S≠i1/\S≠i2/\S≠i3/\S≠l1/\S≠l2/\S≠l3)(n:Nat)(hn:n<=sizeLine)(z1:n<xs.size)(z2:n=ys.size)(z3:n<=us.size)(L0:Nat):
  ∀ (m k:Nat) (s:Shared) (as:List Addr) (c:Nat),n-k=m->k<=n->as.length=k->L0<=s.heap.objs.size->Z3 s.heap z TI TO i1 i2 i3 l1 l2 l3 xs ys us k ->
    s.heap.get? S=some { cls:=.type "list",dict:=none,data:=.seq (as.map Value.ref).toArray c,slots:=#[] } ->
    (∀ (j:Nat) (a:Addr),as[j]?=some a->L0<=a/\a≠S/\a≠z/\a≠TO/\a≠i1/\a≠i2/\a≠i3/\∃ x y u,xs[j]?=some x/\ys[j]?=some y/\us[j]?=some u/\IsT s.heap a #[x,y,u]) ->
    (∀ h' tk (as':List Addr) c',as'.length=n->h'.get? S=some { cls:=.type "list",dict:=none,data:=.seq (as'.map Value.ref).toArray c',slots:=#[] } ->
     (∀ (j:Nat) (a:Addr),as'[j]?=some a->L0<=a/\∃ x y u,xs[j]?=some x/\ys[j]?=some y/\us[j]?=some u/\IsT h' a #[x,y,u]) ->
     (∀ b o,b≠S->b≠z->b≠TO->b≠i1->b≠i2->b≠i3->s.heap.get? b=some o->h'.get? b=some o)->R (.ok (.ret res)) { s with heap:=h',toks:=tk }) ->
    codeAny (model prog w) A (.builtin "list.extend.loop" ⟨[.ref S,.ref z,res],[]⟩) R s:=by
 obtain⟨n1,n2,n3,n4,n5,n6,n7,n8,n9⟩:=id hS
 intro m
 induction m with
 | zero=>
   intro k s as c hm hk hl hL x0 hSS hA hR
   have hkn:k=n:=by omega
   refine Uj F.entry_extend_loop ?_
   rw[W8 Ud _]
   show wpAny _ A.in1 (pyNext (.ref z) >>= _) _ _ s
   refine Ja (end3 (A:=A.in1) hh Ap x0 d1 d2 d3 (by omega) (by omega) fun h' tk kp=>?_)
   refine Jg (hR h' tk as c (by omega) (kp _ _ n1 n3 n4 n5 n6 hSS) (fun j a e=>?_) fun b o _ b1 b2 b3 b4 b5 q=>kp b o b1 b2 b3 b4 b5 q)
   obtain⟨q9,_,q1,q2,q3,q4,q5,x,y,u,g1,g2,g3,g4⟩:=hA j a e
   exact⟨q9,x,y,u,g1,g2,g3,kp _ _ q1 q2 q3 q4 q5 g4⟩
 | succ m ih=>
   intro k s as c hm hk hl hL x0 hSS hA hR
   have hlt:k<n:=by omega
   have lS:S<s.heap.objs.size:=Jl hSS
   have hx:xs[k]?=some xs[k]:=Y8 (by omega)
   have hy:ys[k]?=some ys[k]:=Y8 (by omega)
   have hu:us[k]?=some us[k]:=Y8 (by omega)
   refine Uj F.entry_extend_loop ?_
   rw[W8 Ud _]
   show wpAny _ A.in1 (pyNext (.ref z) >>= _) _ _ s
   refine Ja (next3 (A:=A.in1) hh Ap x0 d1 d2 d3 hx hy hu fun h1 tk1 x1 hT1 zz1 kp1=>?_)
   have hS1:=kp1 _ _ n1 n3 n4 n5 n6 hSS
   show wpAny _ A.in1 (updateSeq S (·.push (.ref s.heap.objs.size)) >>= _) _ _ _
   have e2:((as++[s.heap.objs.size]).map Value.ref).toArray=(as.map Value.ref).toArray.push (.ref s.heap.objs.size):=by simp
   have up:∀ b o,b≠S->h1.get? b=some o->(h1.update S (Obj.mapSeq (·.push (Value.ref s.heap.objs.size)))).get? b=some o:=fun b o hb e=>(Zq _ _ (Xb hb)).trans e
   have hS2:=Yy (Obj.mapSeq (·.push (Value.ref s.heap.objs.size))) hS1 rfl
   have lz:z<s.heap.objs.size:=by obtain⟨⟨_,_,q,_⟩,_⟩:=x0;exact Jl q
   have lTO:TO<s.heap.objs.size:=by obtain⟨_,_,⟨_,_,_,q⟩,_⟩:=x0;exact Jl q
   have li1:i1<s.heap.objs.size:=by obtain⟨_,_,_,⟨⟨_,q,_⟩,_⟩,_⟩:=x0;exact Jl q
   have li2:i2<s.heap.objs.size:=by obtain⟨_,_,_,_,⟨⟨_,q,_⟩,_⟩,_⟩:=x0;exact Jl q
   have li3:i3<s.heap.objs.size:=by obtain⟨_,_,_,_,_,⟨⟨_,q,_⟩,_⟩⟩:=x0;exact Jl q
   refine Ja (Ui hS1 rfl (Jg ⟨Qd Ud _,ih (k+1) _ (as++[s.heap.objs.size]) _ (by omega) hlt (by rw[Jx,hl];rfl) (by show L0<=(h1.update S _).objs.size;rw[Ql,zz1];omega) (x1.but Ap hS ⟨_,hS2⟩ up) (by rw[e2];exact hS2) (fun j a e=>?_) fun h' tk as' c' hl' hS' hA' kp'=>?_⟩)
    (by rw[J8,Jd];omega) (by rw[Array.size_push,J8,Jd];omega))
   ·by_cases hj:j<as.length
    ·rw[Wg hj] at e
     obtain⟨q9,q0,q1,q2,q3,q4,q5,x,y,u,g1,g2,g3,g4⟩:=hA j a e
     exact⟨q9,q0,q1,q2,q3,q4,q5,x,y,u,g1,g2,g3,up _ _ q0 (kp1 _ _ q1 q2 q3 q4 q5 g4)⟩
    ·have hj2:j=as.length:=by
      have:=(Ji.mp e).1
      rw[Jx] at this
      simp at this
      omega
     subst hj2
     rw[List.getElem?_append_right (Jp _)] at e
     simp at e
     subst e
     refine⟨hL,J5 lS,J5 lz,J5 lTO,J5 li1,J5 li2,J5 li3,xs[k],ys[k],us[k],by rw[hl];exact hx,by rw[hl];exact hy,by rw[hl];exact hu,up _ _ (J5 lS) hT1⟩
   ·exact hR h' tk as' c' hl' hS' hA' fun b o b0 b1 b2 b3 b4 b5 q=>kp' b o b0 b1 b2 b3 b4 b5 (up _ _ b0 (kp1 b o b1 b2 b3 b4 b5 q))
theorem list3{Q:Value->Shared->Prop}(hh:A.handled=none)(Ap:Ap3 z TI TO i1 i2 i3 [i1,l1] [i2,l2] [i3,l3])(d1:l1≠i1)(d2:l2≠i2)(d3:l3≠i3)
  (x0:Z3 s.heap z TI TO i1 i2 i3 l1 l2 l3 xs ys us 0)(n:Nat)(hn:n<=sizeLine)(z1:n<xs.size)(z2:n=ys.size)(z3:n<=us.size)
  (hQ : ∀ h' tk (as':List Addr) c',as'.length=n->h'.get? s.heap.objs.size=some { cls:=.type "list",dict:=none,data:=.seq (as'.map Value.ref).toArray c',slots:=#[] } ->
      (∀ (j:Nat) (a:Addr),as'[j]?=some a->s.heap.objs.size<=a/\∃ x y u,xs[j]?=some x/\ys[j]?=some y/\us[j]?=some u/\IsT h' a #[x,y,u]) ->
      (∀ b o,b≠z->b≠TO->b≠i1->b≠i2->b≠i3->s.heap.get? b=some o->h'.get? b=some o)->Q (.ref s.heap.objs.size) { s with heap:=h',toks:=tk }):
  wpAny (model prog w) A (call (.type "list") [.ref z]) Q E s:=by
 have lz:z<s.heap.objs.size:=by obtain⟨⟨_,_,q,_⟩,_⟩:=x0;exact Jl q
 have lTI:TI<s.heap.objs.size:=by obtain⟨_,q,_⟩:=x0;exact Jl q
 have lTO:TO<s.heap.objs.size:=by obtain⟨_,_,⟨_,_,_,q⟩,_⟩:=x0;exact Jl q
 have li1:i1<s.heap.objs.size:=by obtain⟨_,_,_,⟨⟨_,q,_⟩,_⟩,_⟩:=x0;exact Jl q
 have li2:i2<s.heap.objs.size:=by obtain⟨_,_,_,_,⟨⟨_,q,_⟩,_⟩,_⟩:=x0;exact Jl q
 have li3:i3<s.heap.objs.size:=by obtain⟨_,_,_,_,_,⟨⟨_,q,_⟩,_⟩⟩:=x0;exact Jl q
 have ll1:l1<s.heap.objs.size:=by obtain⟨_,_,_,⟨_,⟨_,q,_⟩⟩,_⟩:=x0;exact Jl q
 have ll2:l2<s.heap.objs.size:=by obtain⟨_,_,_,_,⟨_,⟨_,q,_⟩⟩,_⟩:=x0;exact Jl q
 have ll3:l3<s.heap.objs.size:=by obtain⟨_,_,_,_,_,⟨_,⟨_,q,_⟩⟩⟩:=x0;exact Jl q
 refine callType_codes (Q₁:=fun obj s₁=>obj = .ref s.heap.objs.size/\s₁={ s with heap:=s.heap.push { cls:=.type "list",data:=.seq #[] } }) PySem.F.called_list (PySem.F.typeCall_list_1 _) PySem.F.entry_list_init
  (code_list_new _ ⟨rfl,rfl⟩) fun obj s₁ h₁=>?_
 obtain⟨rfl,rfl⟩:=h₁
 have hS:(s.heap.push { cls:=.type "list",data:=.seq #[] }).get? s.heap.objs.size=some { cls:=.type "list",data:=.seq #[] }:=Js _ rfl
 refine⟨⟨_,hS,rfl⟩,PySem.F.args_list_init_2 _ _,?_⟩
 show wpAny _ _ (do let old <- Builtin.List.listItems (.ref s.heap.objs.size);Builtin.List.listUpdate (.ref s.heap.objs.size) (fun _=>#[]);letGo old.toList.reverse;Builtin.List.listExtendWith (.ref s.heap.objs.size) (.ref z) .none) _ _ _
 refine Ja ?_
 unfold Builtin.List.listItems
 refine Ja (Yc hS rfl (Jg ?_))
 show wpAny _ _ (updateSeq s.heap.objs.size (fun _=>#[]) >>= fun _=>letGo (#[]:Array Value).toList.reverse >>= fun _=>Builtin.List.listExtendWith (.ref s.heap.objs.size) (.ref z) .none) _ _ _
 refine Ja (Ui hS rfl ?_)
 have hSa:=Yy (Obj.mapSeq (fun _=>(#[]:Array Value))) hS rfl
 have otA:∀ b o,b≠s.heap.objs.size->s.heap.get? b=some o->((s.heap.push { cls:=.type "list",data:=.seq #[] }).update s.heap.objs.size (Obj.mapSeq (fun _=>(#[]:Array Value)))).get? b=some o:=
  fun b o hb e=>(Zq _ _ (Xb hb)).trans (Jb _ e)
 generalize hga:(s.heap.push { cls:=.type "list",data:=.seq #[] }).update s.heap.objs.size (Obj.mapSeq (fun _=>(#[]:Array Value)))=ga at hSa otA
 have nS:s.heap.objs.size≠z/\s.heap.objs.size≠TI/\s.heap.objs.size≠TO/\s.heap.objs.size≠i1/\s.heap.objs.size≠i2/\s.heap.objs.size≠i3/\s.heap.objs.size≠l1/\s.heap.objs.size≠l2/\s.heap.objs.size≠l3:=
  ⟨J5 lz,J5 lTI,J5 lTO,J5 li1,J5 li2,J5 li3,J5 ll1,J5 ll2,J5 ll3⟩
 have xa:Z3 ga z TI TO i1 i2 i3 l1 l2 l3 xs ys us 0:=x0.but Ap nS ⟨_,hSa⟩ otA
 refine Ja (W2 ?_)
 obtain⟨f0,fb,hz,_⟩:=xa.ex
 have hT:Shared.TypeIs { s with heap:=ga } (.ref z) "zip":=⟨_,hz,rfl⟩
 unfold Builtin.List.listExtendWith
 refine Ja (wpAny_typeOf hT ?_)
 have h1:Builtin.List.listSameRef (.ref s.heap.objs.size) (.ref z)=false:=by simp[Builtin.List.listSameRef,nS.1]
 have h2:(Value.type "zip" == Value.type "list")=false:=by decide
 have h3:(Value.type "zip" == Value.type "tuple")=false:=by decide
 simp only[h1,h2,h3,Bool.or_false,Xr,X9]
 refine Ja ?_
 refine U6 hT F.slot_zip_iter (X6 F.slot_zip_iter hT F.entry_zip_iter ?_ (F.args_zip_iter_1 _))
 show wpAny _ _ (ret (.ref z)) _ _ _
 refine Jg ⟨_,rfl,"zip",_,hT,Zn.lookup,?_⟩
 refine Ja (Xi ?_)
 unfold Builtin.List.listLengthHint
 refine Ja (wpAny_specialOf hT zar ?_)
 show wpAny _ _ (specialOf (Value.ref z) (Str.ofString "__length_hint__") >>= _) _ _ _
 refine Ja (wpAny_specialOf hT zaq ?_)
 refine Jg ?_
 show wpAny _ _ (rule "list.extend.makes-room" >>= fun _=>Builtin.List.listTouch (.ref s.heap.objs.size) >>= fun _=>
  again (.builtin "list.extend.loop" ⟨[.ref s.heap.objs.size,.ref z,.none],[]⟩)) _ _ _
 refine Ja (Uv ?_)
 refine Ja ?_
 show wpAny _ _ (updateSeq s.heap.objs.size (·.push .none) >>= fun _=>updateSeq s.heap.objs.size (·.pop)) _ _ _
 refine Ja (Ui hSa rfl ?_)
 have hSb:=Yy (Obj.mapSeq (·.push Value.none)) hSa rfl
 refine Ui (hz:=by seq_fits) hSb rfl ?_
 have hSc:=Yy (Obj.mapSeq (·.pop)) hSb rfl
 have otC:∀ b o,b≠s.heap.objs.size->ga.get? b=some o->((ga.update s.heap.objs.size (Obj.mapSeq (·.push Value.none))).update s.heap.objs.size (Obj.mapSeq (·.pop))).get? b=some o:=
  fun b o hb e=>(Zq _ _ (Xb hb)).trans ((Zq _ _ (Xb hb)).trans e)
 refine Jg ⟨Qd Ud _,ext3 (A:=A.in1) .none hh Ap d1 d2 d3 nS n hn z1 z2 z3 s.heap.objs.size n 0 _ [] _ rfl (X3 _) rfl (by show s.heap.objs.size<=((ga.update s.heap.objs.size _).update s.heap.objs.size _).objs.size;rw[Ql,Ql,<- hga,Ql,J6];exact Nat.le_succ _) (xa.but Ap nS ⟨_,hSc⟩ otC) hSc (fun j a e=>by simp at e) fun h' tk as' c' hl hS' hA kp=>?_⟩
 exact⟨rfl,hQ h' tk as' c' hl hS' hA fun b o b1 b2 b3 b4 b5 q=>kp b o (Xl (Jl q)) b1 b2 b3 b4 b5 (otC _ _ (Xl (Jl q)) (otA _ _ (Xl (Jl q)) q))⟩
end
end QZ
namespace L2.QP
open PySem PySem.Spec PyProof.Rows
structure Fn(P:Program)(w:World)(K:PySem.W.Frag)(mg:Str->Option Value)(base:Heap)(k:Nat)(x:Str)(ps:List Str)(sp:Sp): Prop where
 ex:∃ f fd,Qbw P w K mg base CX0 k f fd ps sp/\mg x=some (.ref f)/\PySem.W.keepIn K (.ref f)=true/\Binds K fd ps []
structure Cn(P:Program)(w:World)(K:PySem.W.Frag)(mg:Str->Option Value)(base:Heap)(k:Nat)(x:Str)(C:Addr)(ps:List Str)(sp:Sp): Prop where
 ex:∃ f fd,Qbw P w K mg base CX0 k f fd ps sp/\Mk K C f/\mg x=some (.ref C)/\Binds K fd ps []
structure Dfn(K:PySem.W.Frag)(mg:Str->Option Value)(x:Str)(st:Stmt): Prop where
 ex:∃ f fd,Fun K x x st f fd/\mg x=some (.ref f)
structure Dcl(K:PySem.W.Frag)(mg:Str->Option Value)(x q:Str)(C:Addr)(st:Stmt): Prop where
 ex:∃ f fd,Fun K "__init__" q st f fd/\Mk K C f/\mg x=some (.ref C)
section
variable {P:Program} {w:World} {K:PySem.W.Frag} {mg:Str->Option Value} {base:Heap} {k:Nat} {x q:Str} {C:Addr} {st:Stmt} {N ps:List Str} {sp:Sp}
theorem Dfn.fn(D:Dfn K mg x st)(S:Kh N ps (zh st))
  (hb:∀ (kV doc pm:Value) (an:Option Addr) (cdv ct:Value) (us:List Value),us.length=ps.length->bindArgs (PySem.W.fnOf x x (qd6 st) (qci st) (zh st) .none kV doc pm an cdv ct) ⟨us,[]⟩=pure (ps.zip us))
  (len:∀ vs H Q E,sp vs H Q E->vs.length=ps.length)
  (hbody:∀ (f:Addr) (cdv:Value) (A:Around) (outer:List Env) (s:Shared) (H:Hp) (vs:List V) (Q:VK) (E:XK),Qaa k (A.deeper (envOfC x (zh st) s.heap.objs.size f cdv))->sp vs H Q E ->
   ∃ t,PSs (qb8 CX0 P w K mg base N x (zh st) f cdv A outer s H E).nox (qci st) t/\t { nx:=fun _ H'=>Q .non H',rt:=Q } (start N vs) H): Fn P w K mg base (k+1) x ps sp:=by
 obtain⟨f,fd,F,hm⟩:=D.ex
 exact⟨f,fd,F.ok S len (hbody f),hm,F.kp,F.binds hb⟩
theorem Dcl.cn(D:Dcl K mg x q C st)(S:Kh N ps (zh st))
  (hb:∀ (kV doc pm:Value) (an:Option Addr) (cdv ct:Value) (us:List Value),us.length=ps.length->bindArgs (PySem.W.fnOf "__init__" q (qd6 st) (qci st) (zh st) .none kV doc pm an cdv ct) ⟨us,[]⟩=pure (ps.zip us))
  (len:∀ vs H Q E,sp vs H Q E->vs.length=ps.length)
  (hbody:∀ (f:Addr) (cdv:Value) (A:Around) (outer:List Env) (s:Shared) (H:Hp) (vs:List V) (Q:VK) (E:XK),Qaa k (A.deeper (envOfC q (zh st) s.heap.objs.size f cdv))->sp vs H Q E ->
   ∃ t,PSs (qb8 CX0 P w K mg base N q (zh st) f cdv A outer s H E).nox (qci st) t/\t { nx:=fun _ H'=>Q .non H',rt:=Q } (start N vs) H): Cn P w K mg base (k+1) x C ps sp:=by
 obtain⟨f,fd,F,M,hm⟩:=D.ex
 exact⟨f,fd,F.ok S len (hbody f),M,hm,F.binds hb⟩
end
section
variable {X:Cx} {x:Str} {p pos:Pos} {e:Expr} {es:List Expr} {t:TA} {k j:Nat} {ps:List Str} {sp:Sp} {C:Addr}
def tFn(sp:Sp)(t:TA): TE:=fun σ H Q=>t σ H fun vs H1=>sp vs H1 Q E0
theorem zj(F:Fn X.prog X.w X.K X.mg X.base k x ps sp)(hr:Qaa j X.A)(ha:PA X (e::es) t)(hg:Gl X x:=by exact rfl)(hk:k<=j:=by decide)(hdb:(x==("__debug__" : Str))=false:=by decide)
  (he:starEach (e::es) X.env=(false,eval e X.env)::starEach es X.env:=by rfl)(hpl:(backTo pos (starEach es X.env)).any (·.1)=false:=by rfl):
  PE X (.Call (.Name x p) (e::es) [] pos) (tFn sp t):=by
 obtain⟨f,fd,F,hm,hkp,hb⟩:=F.ex
 intro pins s σ H Q I hq
 refine q4q F (hr.mono hk) hg hm hkp hb .nil qjd ha hdb he hpl pins s σ H Q I ?_
 show t σ H fun vs H1=>sp (vs++[]) H1 Q E0
 have e1:(fun (vs:List V) (H1:Hp)=>sp (vs++[]) H1 Q E0)=fun vs H1=>sp vs H1 Q E0:=by funext vs H1;rw[Y7]
 rw[e1]
 exact hq
def tMk(C:Addr)(sp:Sp)(t:TA): TE:=fun σ H Q=>t σ H fun vs H1=>∀ x dx,H1 x=none->H1 dx=none->dx≠x ->
 sp (.ref x::vs) (upd (upd H1 dx (.own x)) x (.ins C dx [])) (fun v H2=>v = .non/\Q (.ref x) H2) E0
theorem qht(F:Cn X.prog X.w X.K X.mg X.base k x C ps sp)(hr:Qaa j X.A)(ha:PA X (e::es) t)(hg:Gl X x:=by exact rfl)(hk:k+1<=j:=by decide)(hdb:(x==("__debug__" : Str))=false:=by decide)
  (he:starEach (e::es) X.env=(false,eval e X.env)::starEach es X.env:=by rfl)(hpl:(backTo pos (starEach es X.env)).any (·.1)=false:=by rfl):
  PE X (.Call (.Name x p) (e::es) [] pos) (tMk C sp t):=by
 obtain⟨f,fd,F,M,hm,hb⟩:=F.ex
 intro pins s σ H Q I hq
 refine q40 M F (hr.mono hk) hg hm hb .nil qjd ha hdb he hpl pins s σ H Q I ?_
 show t σ H fun vs H1=>∀ x dx,H1 x=none->H1 dx=none->dx≠x->sp (.ref x::(vs++[])) (upd (upd H1 dx (.own x)) x (.ins C dx [])) (fun v H2=>v = .non/\Q (.ref x) H2) E0
 have e1:(fun (vs:List V) (H1:Hp)=>∀ x dx,H1 x=none->H1 dx=none->dx≠x->sp (.ref x::(vs++[])) (upd (upd H1 dx (.own x)) x (.ins C dx [])) (fun v H2=>v = .non/\Q (.ref x) H2) E0) =
   fun vs H1=>∀ x dx,H1 x=none->H1 dx=none->dx≠x->sp (.ref x::vs) (upd (upd H1 dx (.own x)) x (.ins C dx [])) (fun v H2=>v = .non/\Q (.ref x) H2) E0:=by funext vs H1;rw[Y7]
 rw[e1]
 exact hq
theorem pe_mk0(F:Cn X.prog X.w X.K X.mg X.base k x C ps sp)(hr:Qaa j X.A)(hg:Gl X x:=by exact rfl)(hk:k+1<=j:=by decide)(hdb:(x==("__debug__" : Str))=false:=by decide):
  PE X (.Call (.Name x p) [] [] pos) (tMk C sp qan):=by
 obtain⟨f,fd,F,M,hm,hb⟩:=F.ex
 exact q41 M F (hr.mono hk) hg hm hb .nil qjd hdb
def GI(mg:Str->Option Value)(x:Str)(i:Int): Prop:=∃ t,mg x=some (.int i t)
theorem zq{i:Int}(g:GI X.mg x i)(hg:Gl X x:=by exact rfl)(hd:(x==("__debug__" : Str))=false:=by decide): PE X (.Name x pos) (tC (.int i)):=by
 obtain⟨t,hm⟩:=g
 exact q4y hg hm ⟨t,rfl⟩ hd
end
theorem boot_len:bootBuiltins "len" = some (.builtin "len"):=by decide +kernel
theorem boot_max:bootBuiltins "max" = some (.builtin "max"):=by decide +kernel
theorem boot_sorted:bootBuiltins "sorted" = some (.builtin "sorted"):=by decide +kernel
theorem boot_any:bootBuiltins "any" = some (.builtin "any"):=by decide +kernel
theorem boot_all:bootBuiltins "all" = some (.builtin "all"):=by decide +kernel
theorem boot_sum:bootBuiltins "sum" = some (.builtin "sum"):=by decide +kernel
def Kq(P:Program)(w:World)(K:PySem.W.Frag)(a:Addr)(k:Key)(u:Value): Prop:=
 ∃ (es:Array DictEntry) (n:Nat),K.lookup a=some ⟨.type "dict",none,.dict es n,#[]⟩/\KeysOf (yc P w) es/\findBy qba es k=some u
section
variable {X:Cx} {x:Str} {p pos:Pos} {i:Expr} {ti:TE} {a:Addr}
def tGD(P:Program)(w:World)(K:PySem.W.Frag)(a:Addr)(ti:TE): TE:=fun σ H Q=>ti σ H fun y H1=>∃ k u v,y=kV k/\Kq P w K a k u/\RelV v u/\Q v H1
theorem qhs(hm:X.mg x=some (.ref a))(hg:Gl X x)(hi:PE X i ti)(hs:NoSl i)(hd:(x==("__debug__" : Str))=false:=by decide): PE X (.Subscript (.Name x p) i pos) (tGD X.prog X.w X.K a ti):=by
 intro pins s σ H Q I h
 refine qu0 PySem.F.slot_dict_getitem.lookup hs (qhl I hg hm (thn (hi pins s σ H _ I h) fun iv s2 ⟨y,H2,I2,ry,k,u,v,ey,⟨es,n,hl,hk,hf⟩,rv,q⟩=>?_) hd)
 subst ey
 have hm2:s2.heap.MapOf (yc X.prog X.w) a (fun k=>findBy qba es k):=⟨_,es,n,I2.kIn _ _ hl,⟨rfl,rfl,rfl⟩,rfl,hk,fun _=>rfl⟩
 exact⟨hm2.typeIs,wpAny_getItem_of (qdb ry) hm2 hf ⟨v,H2,I2.tok _,rv,q⟩⟩
end
structure FnV(P:Program)(w:World)(K:PySem.W.Frag)(mg:Str->Option Value)(base:Heap)(k:Nat)(f:Addr)(ps:List Str)(sp:Sp): Prop where
 ex:∃ fd,Qbw P w K mg base CX0 k f fd ps sp/\PySem.W.keepIn K (.ref f)=true/\Binds K fd ps []
section
variable {X:Cx} {fe:Expr} {tf:TE} {p pos:Pos} {e:Expr} {es:List Expr} {t:TA} {j:Nat}
def qu3(X:Cx)(j:Nat)(tf:TE)(t:TA): TE:=fun σ H Q=>tf σ H fun x H1=>∃ f k ps sp,x = .ref f/\k<=j/\FnV X.prog X.w X.K X.mg X.base k f ps sp/\t σ H1 fun vs H2=>sp vs H2 Q E0
theorem qrf(hr:Qaa j X.A)(hf:PE X fe tf)(ha:PA X (e::es) t)
  (he:starEach (e::es) X.env=(false,eval e X.env)::starEach es X.env:=by rfl)(hpl:(backTo pos (starEach es X.env)).any (·.1)=false:=by rfl)
  (hc:eval (.Call fe (e::es) [] pos) X.env=(do callWith pos (<- eval fe X.env) [] (backTo pos (starEach (e::es) X.env)) (backToKw pos (keywordEach [] X.env))):=by rfl):
  PE X (.Call fe (e::es) [] pos) (qu3 X j tf t):=by
 intro pins s σ H Q I h
 refine Call_ (thn (hf pins s σ H _ I h) fun v s1 ⟨x,H1,I1,rx,f,k,ps,sp,ex,hk,⟨fd,F,hkp,hb⟩,q⟩=>?_) hc
 subst ex
 obtain rfl:v=Value.ref f:=rx
 refine PySem.W.callWith_K (h₀:=X.base) I.ok.mod.kin hkp (thn (ha pos pins s1 σ H1 _ I1 q) fun us s2 ⟨vs,H2,I2,r,q2⟩=>⟨I2.kIn,?_⟩) he hpl
 exact qr3 F (hr.mono hk) hb .nil qjd I2 r (by rw[Y7];exact q2)
end
def Qfu(K:PySem.W.Frag)(H:Hp)(p:Addr)(n:Nat): Prop:=(∃ ys,(SqL K H p ys\/SqT K H p ys)/\n=ys.length)\/(∃ kvs,H p=some (.dK kvs)/\n=kvs.length)\/∃ kvs,H p=some (.dT kvs)/\n=kvs.length
section
variable {X:Cx}
def rLen(K:PySem.W.Frag): List V->Hp->VK->Prop:=fun xs H Q=>∃ p n,xs=[.ref p]/\Qfu K H p n/\Q (.int (n:Nat)) H
theorem qxd:Qdm X (.builtin "len") (rLen X.K):=by
 intro pins s σ H xs us Q I r h
 obtain⟨p,n,rfl,hl,q⟩:=h
 rcases hl with ⟨ys,hy,rfl⟩|⟨kvs,hk,rfl⟩|⟨kvs,hk,rfl⟩
 ·exact qxe pins s σ H _ us Q I r ⟨p,ys,rfl,hy,q⟩
 ·exact qxc pins s σ H _ us Q I r ⟨p,kvs,rfl,hk,q⟩
 ·obtain⟨u,rfl,ru⟩:=vals1 r
  cases ru
  obtain⟨z,hd,ks,rel,o,es,ep,ho,hc,hdat,he,_⟩:=dt_of I.hok hk
  have e1:es.size=kvs.length:=by rw[size_of_entries he];exact(Zr rel).symm
  have hT:s.TypeIs (.ref p) "dict":=⟨o,ho,hc.1⟩
  rw[sizeLine_eq] at z
  refine Calls.call_function_entry kind_len plain_len entry_len (args_len1 _) ?_
  unfold Builtin.«len»
  refine Ja (m:=oneArg "len" _) (Jg ?_)
  refine Ja (m:=callSpecial? (.ref p) (Str.ofString "__len__")) (X8 (name:=Str.ofString "__len__") hT PySem.F.slot_dict_len (X6 PySem.F.slot_dict_len hT PySem.F.entry_dict_len ?_ (PySem.F.args_dict_len_1 _)))
  show wpAny _ _ (dictSize p >>= _) _ _ s
  unfold dictSize
  refine Ja (Ja (U7 ho hdat (Jg ?_)))
  show wpAny _ _ (Builtin.Dict.pendingCount p >>= _) _ _ s
  refine Ja (wpAny_pendingCount_other hd ?_)
  refine wpAny_ret_mkInt ?_
  have e2:((kvs.length:Nat):Int)+((0:Nat):Int)=(kvs.length:Int):=by omega
  rw[e1,e2]
  refine Ja (Xi (Jg ?_))
  refine Ja (W2 ?_)
  show wpAny _ _ (if ((kvs.length:Nat):Int)<0 then _ else _) _ _ _
  rw[Jc (by omega)]
  show wpAny _ _ (if ((kvs.length:Nat):Int) ≥ 2 ^ 63 then _ else _) _ _ _
  rw[Jc (by omega)]
  exact Ja (wpAny_mkInt (Jg ⟨_,rfl,⟨.int kvs.length,H,(I.tok _).tok _,⟨_,rfl⟩,q⟩⟩))
end
section
variable {X:Cx} {o e f:Expr} {apos cpos:Pos} {td ty tx:TE}
theorem qzq{pins:List (Addr×Obj)}{σ:St}{H:Hp}{s:Shared}{a:Addr}{kvs:List (Key×V)}{k:Key}{d:V}{u r:Value}{A:Around}{E:Value->Shared->Prop}{Q:Value->Shared->Prop}(I:Inv X pins σ H s)(ea:H a=some (.dK kvs))(hz:kvs.length<sizeLine)
  (ry:RelV (kV k) u)(rd:RelV d r)(h1:∀ v w' s',kj kvs k=some v->Inv X pins σ H s'->RelV v w'->Q w' s')(h2:kj kvs k=none->∀ s',Inv X pins σ (upd H a (.dK (putK kvs k d))) s'->Q r s'):
  wpAny (model X.prog X.w) A (call (.builtin "dict.setdefault") [.ref a,u,r]) Q E s:=by
 obtain⟨z,hd,vs,rel,dd⟩:=qhc I.hok ea
 have rk:=rel.val k
 refine Qt PySem.F.slot_dict_setdefault dd.typeIs PySem.F.entry_dict_setdefault (PySem.F.args_dict_setdefault_3 _ _ _) (kt_meets_setdefault (yc X.prog X.w) a (qdb ry) hd r)
  ⟨vs,dd,(by rw[<- rel.length];exact z),fun w' hw=>?_,fun hn h' dd' hs=>?_⟩
 ·rw[hw] at rk
  cases e:kj kvs k with
  |none=>rw[e] at rk;exact rk.elim
  |some v=>rw[e] at rk;exact h1 v w' _ e (I.tok _) rk
 ·rw[hn] at rk
  cases e:kj kvs k with
  |some v=>rw[e] at rk;exact rk.elim
  | none=>
    have hl:(putK kvs k d).length<=sizeLine:=by have:=qi6 kvs k d;omega
    have he:∃ q,h'.get? a=some q:=let ⟨q,_,_,hq,_⟩:=dd';⟨q,hq⟩
    exact h2 e _ (qis I (by rw[ea];exact True.intro) hs he (qlm hl hd (rel.put k rd) dd'))
def qu9(td ty tx:TE): TE:=fun σ H Q=>td σ H fun x H1=>∃ a,x = .ref a/\IsD H1 a/\ty σ H1 fun y H2=>tx σ H2 fun z H3=>∃ kvs k,H3 a=some (.dK kvs)/\kvs.length<sizeLine/\y=kV k /\
 (∀ v,kj kvs k=some v->Q v H3)/\(kj kvs k=none->Q z (upd H3 a (.dK (putK kvs k z))))
theorem q4x(ho:PE X o td)(he:PE X e ty)(hf:PE X f tx)(m:M2 X o "setdefault" apos e f cpos): PE X (.Call (.Attribute o "setdefault" apos) [e,f] [] cpos) (qu9 td ty tx):=by
 intro pins s σ H Q I h
 refine U5 m.base m.few m.line Ux PySem.F.slot_dict_setdefault PySem.F.type_dict_setdefault (thn (ho pins s σ H _ I h) fun u s1 ⟨x,H1,I1,rx,a,ex,d,q1⟩=>?_)
 subst ex
 obtain rfl:u=Value.ref a:=rx
 obtain⟨t1,t2,_⟩:=ql0 I1 d
 refine⟨t1,t2,?_⟩
 rw[m.trees]
 refine Wy rfl (W6 (Zc (thn (he pins s1 σ H1 _ I1 q1) fun iv s2 ⟨y,H2,I2,ry,q2⟩=>
  Zc (thn (hf pins s2 σ H2 _ I2 q2) fun fv s3 ⟨z,H3,I3,rz,kvs,k,ea,hz,ey,q3,q4⟩=>Wc ?_))))
 subst ey
 exact qzq I3 ea hz ry rz (fun v w' s4 e I4 rw'=>⟨v,H3,I4,rw',q3 v e⟩) fun e s4 I4=>⟨z,_,I4,rz,q4 e⟩
end
end L2.QP
namespace L2.QP
open PySem PySem.Spec PyProof.Rows
theorem qp4:∀ {l:List Value} {ns:List Int},l.length=ns.length->(∀ (j:Nat) (v:Value) (n:Int),l[j]?=some v->ns[j]?=some n->∃ t,v = .int n t)->IntsAre l ns
 |[],[],_,_=>.nil
 |[],_::_,h,_=>by simp at h
 |_::_,[],h,_=>by simp at h
 | v::l,n::ns,h,k=>by
   obtain⟨t,rfl⟩:=k 0 v n rfl rfl
   exact .cons n t (qp4 (by simpa using h) fun j v' n' h1 h2=>k (j+1) v' n' (by simpa using h1) (by simpa using h2))
section
variable {X:Cx}
def rMaxD:List V->Hp->VK->Prop:=fun vs H Q=>∃ (a:Addr) (kvs:List (Key×V)) (ns:List Int),vs=[V.ref a]/\H a=some (.dK kvs)/\kvs.map (·.1)=ns.map Sum.inl/\0<ns.length/\∀ m,m∈ns->(∀ y,y∈ns->y<=m)->Q (.int m) H
theorem qqc{kvs:List (Key×V)}{vs:List (Key×Value)}{ns:List Int}(rel:KV kvs vs)(hk:kvs.map (·.1)=ns.map Sum.inl){i:Nat}{k:Key}{x v:Value}(h:vs[i]?=some (k,x))(hv:qba k v=true): ∃ n t,ns[i]?=some n/\v = .int n t:=by
 have e1:(vs.map (·.1))[i]?=some k:=by rw[Jt,h];rfl
 rw[<- rel.keys,hk,Jt] at e1
 cases e:ns[i]? with
 |none=>rw[e] at e1;cases e1
 | some n=>
   rw[e] at e1
   have e2:Sum.inl n=k:=Jj e1
   subst e2
   obtain⟨t,rfl⟩:=Value.isInt_shape (k:=n) (v:=v) hv
   exact⟨n,t,rfl,rfl⟩
theorem qxs(hc:X.calm=true): Qdm X (.builtin "max") rMaxD:=by
 intro pins s σ H vs us Q I r h
 obtain⟨a,kvs,ns,rfl,ha,hk,hne,q⟩:=h
 rw[Vals.qgp r]
 obtain⟨z,hd,vals,rel,dd⟩:=qhc I.hok ha
 obtain⟨ep,hat⟩:=dd.dictAt
 have hlen:vals.length=ns.length:=by rw[<- rel.length];have:=Ym List.length hk;simpa using this
 have hh:X.A.in1.handled=none:=I.ok.hd hc
 obtain⟨oI,S,hit,W,st⟩:=(PySem.W.kdl_dict (prog:=X.prog) (w:=X.w) (knd:=yc X.prog X.w) (kvs:=vals) (ep:=ep) hd).iter X.A.in1 s hh hat
 have val:∀ (i:Nat) (v:Value),(∃ k x,vals[i]?=some (k,x)/\qba k v=true)->∃ t,v = .int (ns.getD i 0) t:=fun i v ⟨k,x,h1,h2⟩=>by
  obtain⟨n,t,e1,e2⟩:=qqc rel hk h1 h2
  exact⟨t,by rw[e2,List.getD_eq_getElem?_getD,e1];rfl⟩
 refine call_max_walkS (hit _ _ ⟨s.heap.objs.size,_,_,_,vals.length,_,_,fun i j=>decide (ns.getD i 0 > ns.getD j 0),rfl,W.toS,st,fun b hb=>?_,by omega,CmpOf.ints_gt (fun i=>ns.getD i 0) val,fun v s' hP hm=>?_⟩)
 ·show b<(s.heap.push oI).objs.size
  rw[J6]
  rcases Jf.mp hb with e|hb
  ·rw[e];exact Qe _
  ·rw[J3.mp hb];exact Wd hat.lt_size
 ·obtain⟨t,rfl⟩:=val _ v hP
  obtain⟨h1,h2⟩:=argBest_gt (fun i=>ns.getD i 0) (vals.length-1)
  have hkp:∀ b o,s.heap.get? b=some o->s'.heap.get? b=some o:=fun b o e=>
   hm.heap b o (fun hI=>absurd (Jl e) (by rw[J3.mp hI];exact Yd _)) (Jb _ e)
  rw[Moved.eq_with hm]
  refine⟨.int _,H,I.kept hkp,⟨t,rfl⟩,q _ ?_ fun y hy=>?_⟩
  ·exact PySem.getD_mem (by omega)
  ·obtain⟨j,hj,rfl⟩:=mem_getD hy
   exact h2 j (by omega)
def qry(K:PySem.W.Frag): List V->Hp->VK->Prop:=fun vs H Q=>∃ (a:Addr) (ns:List Int),vs=[V.ref a]/\SqL K H a (ns.map V.int) /\
 ∀ (ns':List Int) (p:Addr),ns'.Perm ns->ns'.Pairwise (·<=·)->H p=none->Q (.ref p) (upd H p (.lst (ns'.map V.int)))
theorem qxt:Qdm X (.builtin "sorted") (qry X.K):=by
 intro pins s σ H vs us Q I r h
 obtain⟨a,ns,rfl,hs,q⟩:=h
 obtain⟨its,rv,hl,hz⟩:=I.list hs
 rw[Vals.qgp r]
 have hi:=rv.ints
 have hz2:its.length<=sizeLine:=by rw[<- rv.length];exact hz
 refine PyProof.Rows.sorted_intsAny hl.isList hi hz2 fun out ns' h1 h2 h3=>?_
 obtain⟨ep,he'⟩:=PyProof.Rows.sortedAll_at s.heap its out
 have hlen:(ns'.map V.int).length<=sizeLine:=by rw[Jd,h2.length_eq];rw[Jd] at hz;exact hz
 exact⟨.ref _,upd H (s.heap.objs.size+1) (.lst (ns'.map V.int)),I.laid (t':=s.toks) (fun _ _=>PyProof.Rows.sortedAll_old) (Nat.le_succ _) ⟨hlen,out.toList,ep,qnw h1,he'⟩,rfl,q ns' _ h2 h3 (I.hok.fresh (Nat.le_succ _))⟩
def rSortD:List V->Hp->VK->Prop:=fun vs H Q=>∃ (a:Addr) (kvs:List (Key×V)) (ns:List Int),vs=[V.ref a]/\H a=some (.dK kvs)/\kvs.map (·.1)=ns.map Sum.inl /\
 ∀ (ns':List Int) (p:Addr) (H':Hp),ns'.Perm ns->ns'.Pairwise (·<=·)->H p=none->H'=upd H p (.lst (ns'.map V.int))->Q (.ref p) H'
theorem qox(hc:X.calm=true): Qdm X (.builtin "sorted") rSortD:=by
 intro pins s σ H vs us Q I r h
 obtain⟨a,kvs,ns,rfl,ha,hk,q⟩:=h
 rw[Vals.qgp r]
 obtain⟨z,hd,vals,rel,dd⟩:=qhc I.hok ha
 obtain⟨ep,hat⟩:=dd.dictAt
 have hlen:vals.length=ns.length:=by rw[<- rel.length];have:=Ym List.length hk;simpa using this
 have hz:vals.length<=sizeLine:=by rw[<- rel.length];exact z
 have hh:X.A.handled=none:=I.ok.hd hc
 refine Calls.call_function_entry kind_sorted plain_sorted entry_sorted (args_sorted1 _) ?_
 unfold Builtin.«sorted»
 refine Ja (m:=checkCount "sorted" 1 1 _) (Jg ?_)
 refine Ja (PySem.W.kdu_collect (A:=X.A.in1) (PySem.W.kdl_dict (prog:=X.prog) (w:=X.w) (knd:=yc X.prog X.w) (kvs:=vals) (ep:=ep) hd) hh hat hz fun h' tk acc hkp hacc=>?_)
 have hl:acc.toList.length=ns.length:=by rw[Uc,hacc.1,hlen]
 have hI:IntsAre acc.toList ns:=qp4 hl fun j v n e1 e2=>by
  obtain⟨k,x,g1,g2⟩:=hacc.2 j v (by rw[<- Array.getElem?_toList];exact e1)
  obtain⟨n',t,g3,g4⟩:=qqc rel hk g1 g2
  rw[e2] at g3
  cases g3
  exact⟨t,g4⟩
 refine Ja (wpAny_newList ?_ (by rw[hl,<- hlen];exact hz))
 have ho:(h'.push (seqObj "list" acc.toList.toArray 0)).get? h'.objs.size=some (seqObj "list" acc.toList.toArray 0):=Js _ rfl
 refine Ja (Xi (X6 slot_list_sort ⟨_,ho,rfl⟩ entry_list_sort (list_sort_treeAny ho hI (by rw[hl,<- hlen];exact hz) fun out ns' h1 h2 h3=>⟨_,rfl,?_⟩) (args_list_sort _)))
 refine Jg ⟨_,rfl,?_⟩
 obtain⟨ep2,he'⟩:=PyProof.Rows.sortedHeap_at (vs:=acc.toList) (out:=out) ho
 have hlen2:(ns'.map V.int).length<=sizeLine:=by rw[Jd,h2.length_eq,<- hlen];exact hz
 have I1:Inv X pins σ H { s with heap:=h',toks:=tk }:=I.kept hkp
 refine⟨.ref h'.objs.size,upd H h'.objs.size (.lst (ns'.map V.int)),I1.laid (t':=tk) (a:=h'.objs.size) (fun b u hb=>?_) (Jp _) ⟨hlen2,out.toList,ep2,qnw h1,he'⟩,rfl,q ns' _ _ h2 h3 (I1.hok.fresh (Jp _)) rfl⟩
 rw[PyProof.Rows.sortedHeap_old (Xl (Jl hb)) (by show b<(h'.push _).objs.size;rw[J6];exact Wd (Jl hb))]
 exact Jb _ hb
end
end L2.QP
namespace L2.QP
open PySem PySem.Spec PyProof.Rows
section
variable {X:Cx} {pins:List (Addr×Obj)} {σ:St} {H:Hp} {s:Shared} {h':Heap}
theorem track{t':Nat}{N:Addr->Option HO}(I:Inv X pins σ H s)(k:∀ b u,s.heap.get? b=some u->h'.get? b=some u)(hN:∀ b o,N b=some o->s.heap.objs.size<=b)
  (ok:∀ b o,N b=some o->Qaf X.prog X.w (fun c=>(N c).or (H c)) h' b o): Inv X pins σ (fun c=>(N c).or (H c)) { s with heap:=h',toks:=t' }:=by
 have old:∀ b,b<s.heap.objs.size->(N b).or (H b)=H b:=fun b hb=>by
  cases e:N b with
  |none=>rfl
  |some o=>exact absurd (hN b o e) (by omega)
 have oldH:∀ b u,H b=some u->(N b).or (H b)=some u:=fun b u e=>by rw[old b (I.hok.lt e)];exact e
 refine I.un ⟨fun b o q _ _ _=>k b o q,fun b o q _ _ _=>⟨o.slots,k b o q⟩,fun b o q n _=>by rw[old b (Jl q)];exact n,fun b o q _=>⟨o,k b o q⟩,fun b xs q=>oldH b _ q,fun b o u q=>oldH b _ q,fun b ps q=>⟨#[],by rw[oldH b _ q];simp⟩⟩ fun b u e=>?_
 cases q:N b with
 | some o=>
   have e2:(N b).or (H b)=some u:=e
   rw[q] at e2
   have e3:o=u:=Jj e2
   subst e3
   exact ok b o q
 | none=>
   have e2:(N b).or (H b)=some u:=e
   rw[q] at e2
   have e3:H b=some u:=e2
   exact(I.hok b u e3).stay (fun c v _ z=>k c v z) (fun c z=>oldH c _ z) fun c xs z=>oldH c _ z
theorem qwm:bootBuiltins "list" = some (.type "list"):=by decide +kernel
def rLZ(K:PySem.W.Frag): List V->Hp->VK->Prop:=fun vs H Q=>∃ (a b c:Addr) (xs ys zs:List V) (n:Nat),vs=[V.ref a,V.ref b,V.ref c]/\SqL K H a xs/\SqL K H b ys/\SqL K H c zs/\n<xs.length/\n=ys.length/\n<=zs.length /\
 ∀ (H':Hp) (l:Addr) (as:List Addr),Qz H H'->H l=none->H' l=some (.lst (as.map V.ref))->as.length=n ->
   (∀ (j:Nat) (p:Addr),as[j]?=some p->∃ x y z,xs[j]?=some x/\ys[j]?=some y/\zs[j]?=some z/\H' p=some (.tup [x,y,z]))->Q (.ref l) H'
theorem qb5{d S:Nat}(h:d<S)(k:Nat): d≠S+k:=by omega
theorem ap3(S0 a b c:Nat)(la:a<S0)(lb:b<S0)(lc:c<S0): QZ.Ap3 (S0+5) (S0+3) (S0+4) S0 (S0+1) (S0+2) [S0,a] [S0+1,b] [S0+2,c]:=by
 have mm:∀ (u v d:Nat),d∈([u,v]:List Nat)->d=u\/d=v:=fun u v d hd=>by simpa using hd
 constructor
 all_goals first
  |exact(show ((_:Nat)≠(_:Nat)) by omega)
  |(intro d hd
    have q:=mm _ _ d hd
    refine⟨?_,?_,?_,?_⟩<;>exact(show ((_:Nat)≠(_:Nat)) by omega))
open Classical in
noncomputable def qcn(D:Addr)(as:List Addr)(xs ys zs:List V)(b:Addr): Option HO:=
 if b=D then some (.lst (as.map V.ref)) else if h:∃ vs:List V,∃ (j:Nat) (x y z:V),as[j]?=some b/\xs[j]?=some x/\ys[j]?=some y/\zs[j]?=some z/\vs=[x,y,z] then some (.tup (choose h)) else none
theorem q4z{e1 e2 e3:Expr}{ta:TA}{p pos p' pos':Pos}(hg:Gl X "list")(hm:X.mg "list" = none)(hg2:Gl X "zip")(hm2:X.mg "zip" = none)(ha:PA X [e1,e2,e3] ta)(hc:X.calm=true:=by rfl)
  (hs:starEach [e1,e2,e3] X.env=(false,eval e1 X.env)::starEach [e2,e3] X.env:=by rfl)(hpl:(backTo pos' (starEach [e2,e3] X.env)).any (·.1)=false:=by rfl)
  (hs2:starEach [.Call (.Name "zip" p') [e1,e2,e3] [] pos'] X.env=[(false,eval (.Call (.Name "zip" p') [e1,e2,e3] [] pos') X.env)]:=by rfl):
  PE X (.Call (.Name "list" p) [.Call (.Name "zip" p') [e1,e2,e3] [] pos'] [] pos) (tCB (rLZ X.K) ta):=by
 intro pins s σ H Q I h
 refine Call_ (qee I hg hm qwm (Yo ?_ hs2 rfl))
 rw[hs2]
 show wpAny _ _ (spliced [(false,eval (.Call (.Name "zip" p') [e1,e2,e3] [] pos') X.env)]) _ _ s
 refine Zc (Yw (Call_ (qee I hg2 hm2 qkq (Yo (thn (ha pos' pins s σ H _ I h) fun us s1 ⟨vs,H1,I1,r1,q1⟩=>?_) hs hpl))) (fun v s' hv=>Wc hv) fun _ _ q=>q)
 obtain⟨a,b,c,xs,ys,zs,n,ex,hqx,hqy,hqz,n1,n2,n3,q⟩:=q1
 subst ex
 cases r1 with
 | cons r rr=>
   cases rr with
   | cons r' rr=>
     cases rr with
     | cons r'' rr=>
       cases rr
       cases r
       cases r'
       cases r''
       obtain⟨its1,rv1,p1,_⟩:=I1.list hqx
       obtain⟨its2,rv2,p2,z2⟩:=I1.list hqy
       obtain⟨its3,rv3,p3,_⟩:=I1.list hqz
       have la:a<s1.heap.objs.size:=p1.lt
       have lb:b<s1.heap.objs.size:=p2.lt
       have lc:c<s1.heap.objs.size:=p3.lt
       have l1:=rv1.length
       have l2:=rv2.length
       have l3:=rv3.length
       refine QZ.qxh p1.isList p2.isList p3.isList fun g1 hz hTI hTO hi1 hi2 hi3 hsz hk=>?_
       generalize hS0:s1.heap.objs.size=S0 at hz hTI hTO hi1 hi2 hi3 hsz la lb lc
       have Ap:QZ.Ap3 (S0+5) (S0+3) (S0+4) S0 (S0+1) (S0+2) [S0,a] [S0+1,b] [S0+2,c]:=by
        exact ap3 S0 a b c la lb lc
       have Z0:QZ.Z3 g1 (S0+5) (S0+3) (S0+4) S0 (S0+1) (S0+2) a b c its1.toArray its2.toArray its3.toArray 0:=
        ⟨⟨_,false,hz,.inl rfl⟩,hTI,⟨_,_,_,hTO⟩,⟨hi1,p1.isList.at fun o e=>hk _ o e⟩,⟨hi2,p2.isList.at fun o e=>hk _ o e⟩,⟨hi3,p3.isList.at fun o e=>hk _ o e⟩⟩
       refine QZ.list3 (I.ok.hd hc) Ap (qb5 la 0) (qb5 lb 1) (qb5 lc 2) Z0 n (by omega) (by simp;omega) (by simp;omega) (by simp;omega) fun g2 tk as ce hl hD hA kp=>?_
       have hgs:(show Shared from { s1 with heap:=g1 }).heap.objs.size=S0+6:=hsz
       have kp2:∀ d o,s1.heap.get? d=some o->g2.get? d=some o:=fun d o e=>by
        have hd:d<S0:=by rw[<- hS0];exact Jl e
        exact kp d o (qb5 hd 5) (qb5 hd 4) (qb5 hd 0) (qb5 hd 1) (qb5 hd 2) (hk d o e)
       have hDn:g1.objs.size=S0+6:=hsz
       have sq:∀ {b:Addr} {vs vs':List V},(∃ (j:Nat) (x y z:V),as[j]?=some b/\xs[j]?=some x/\ys[j]?=some y/\zs[j]?=some z/\vs=[x,y,z])->(∃ (j:Nat) (x y z:V),as[j]?=some b/\xs[j]?=some x/\ys[j]?=some y/\zs[j]?=some z/\vs'=[x,y,z])->vs=vs':=by
        rintro b vs vs' ⟨j,x,y,z,e0,e1,e2,e3,rfl⟩ ⟨j',x',y',z',e0',e1',e2',e3',rfl⟩
        obtain⟨_,u1,u2,u3,f1,f2,f3,f4⟩:=hA j b e0
        obtain⟨_,u1',u2',u3',f1',f2',f3',f4'⟩:=hA j' b e0'
        obtain⟨v1,w1,w1r⟩:=rv1.get e1
        obtain⟨v2,w2,w2r⟩:=rv2.get e2
        obtain⟨v3,w3,w3r⟩:=rv3.get e3
        obtain⟨v1',w1',w1r'⟩:=rv1.get e1'
        obtain⟨v2',w2',w2r'⟩:=rv2.get e2'
        obtain⟨v3',w3',w3r'⟩:=rv3.get e3'
        have g1:u1=v1:=by rw[X7,w1] at f1;exact(Jj f1).symm
        have g2:u2=v2:=by rw[X7,w2] at f2;exact(Jj f2).symm
        have g3:u3=v3:=by rw[X7,w3] at f3;exact(Jj f3).symm
        have g1':u1'=v1':=by rw[X7,w1'] at f1';exact(Jj f1').symm
        have g2':u2'=v2':=by rw[X7,w2'] at f2';exact(Jj f2').symm
        have g3':u3'=v3':=by rw[X7,w3'] at f3';exact(Jj f3').symm
        subst g1 g2 g3 g1' g2' g3'
        have ee:=f4.symm.trans f4'
        simp at ee
        obtain⟨ee1,ee2,ee3⟩:=ee
        subst ee1 ee2 ee3
        rw[w1r.inj w1r',w2r.inj w2r',w3r.inj w3r']
       have nD:qcn (S0+6) as xs ys zs (S0+6)=some (.lst (as.map V.ref)):=by unfold qcn;rw[Je rfl]
       have asD:∀ (j:Nat) (p:Addr),as[j]?=some p->p≠S0+6:=fun j p e z=>by
        obtain⟨_,u1,u2,u3,_,_,_,f4⟩:=hA j p e
        have hD':g2.get? g1.objs.size=some _:=hD
        rw[hDn,<- z,f4] at hD'
        have q2:Value.type "tuple" = Value.type "list":=Ym Obj.cls (Jj hD')
        injection q2 with q2
        exact absurd q2 (by decide)
       have nT:∀ (j:Nat) (p:Addr) (x y z:V),as[j]?=some p->xs[j]?=some x->ys[j]?=some y->zs[j]?=some z->qcn (S0+6) as xs ys zs p=some (.tup [x,y,z]):=fun j p x y z e0 e1 e2 e3=>by
        unfold qcn
        rw[Jc (asD j p e0)]
        have hex:∃ vs:List V,∃ (j:Nat) (x y z:V),as[j]?=some p/\xs[j]?=some x/\ys[j]?=some y/\zs[j]?=some z/\vs=[x,y,z]:=⟨_,j,x,y,z,e0,e1,e2,e3,rfl⟩
        rw[dif_pos hex,sq (Classical.choose_spec hex) ⟨j,x,y,z,e0,e1,e2,e3,rfl⟩]
       have I2:Inv X pins σ (fun d=>(qcn (S0+6) as xs ys zs d).or (H1 d)) { s1 with heap:=g2,toks:=tk }:=by
        refine track I1 kp2 (fun d o e=>?_) fun d o e=>?_
        ·unfold qcn at e
         split at e
         ·rename_i z;rw[hS0,z];exact Yj _ _
         ·split at e
          ·rename_i hex
           obtain⟨vs,j,x,y,z,e0,_⟩:=hex
           have z:S0+6<=d:=by rw[<- hDn];exact(hA j d e0).1
           rw[hS0]
           exact Xd (Yj _ _) z
          ·cases e
        ·unfold qcn at e
         split at e
         ·rename_i z
          cases e
          subst z
          refine⟨by rw[Jd,hl];omega,as.map Value.ref,ce,?_,by rw[<- hDn];exact hD⟩
          clear hA hl sq nD asD nT hD
          induction as with
          |nil=>exact .nil
          |cons a0 r ih=>exact .cons rfl ih
         ·split at e
          ·rename_i hex
           cases e
           obtain⟨j,x,y,z,e0,e1,e2,e3,ev⟩:=Classical.choose_spec hex
           rw[ev]
           obtain⟨_,u1,u2,u3,f1,f2,f3,f4⟩:=hA j d e0
           obtain⟨v1,w1,w1r⟩:=rv1.get e1
           obtain⟨v2,w2,w2r⟩:=rv2.get e2
           obtain⟨v3,w3,w3r⟩:=rv3.get e3
           rw[X7,w1] at f1
           rw[X7,w2] at f2
           rw[X7,w3] at f3
           cases f1;cases f2;cases f3
           exact⟨by show 3<=sizeLine;decide,[u1,u2,u3],.cons w1r (.cons w2r (.cons w3r .nil)),⟨_,f4,rfl,_,rfl⟩⟩
          ·cases e
       have sm:Qz H1 (fun d=>(qcn (S0+6) as xs ys zs d).or (H1 d)):=fun d o e=>by
        have hd:d<S0:=by rw[<- hS0];exact I1.hok.lt e
        show (qcn (S0+6) as xs ys zs d).or (H1 d)=some o
        have:qcn (S0+6) as xs ys zs d=none:=by
         unfold qcn
         rw[Jc (qb5 hd 6)]
         rw[dif_neg]
         rintro ⟨vs,j,x,y,z,e0,_⟩
         have z:S0+6<=d:=by rw[<- hDn];exact(hA j d e0).1
         exact absurd (Xk hd (Xd (Yj _ _) z)) (Yd _)
        rw[this]
        exact e
       refine⟨.ref (S0+6),_,I2,?_,q _ (S0+6) as sm (I1.hok.fresh (by rw[hS0];exact Yj _ _)) ?_ hl fun j p0 e0=>?_⟩
       ·show Value.ref g1.objs.size=_
        rw[hDn]
       ·show (qcn (S0+6) as xs ys zs (S0+6)).or _=_
        rw[nD];rfl
       ·obtain⟨_,u1,u2,u3,f1,f2,f3,f4⟩:=hA j p0 e0
        have hj:=(Ji.mp e0).1
        have e1:xs[j]?=some xs[j]:=Jo (by omega)
        have e2:ys[j]?=some ys[j]:=Jo (by omega)
        have e3:zs[j]?=some zs[j]:=Jo (by omega)
        refine⟨_,_,_,e1,e2,e3,?_⟩
        show (qcn (S0+6) as xs ys zs p0).or _=_
        rw[nT j p0 _ _ _ e0 e1 e2 e3];rfl
end
end L2.QP
namespace QZ
open PySem
structure Z2(h:Heap)(z TI TO i1 i2 t l:Addr)(xs ys:Array Value)(k:Nat): Prop where
 ex:∃ f0 fb,Vq h z TI TO f0 (.bool fb)/\Own2 h z TO i1 i2 f0
 ti:IsT h TI #[.ref i1,.ref i2]
 to:∃ a1 a2,IsT h TO #[a1,a2]
 s1:h.IsTupleIter i1 t k/\h.IsTuple t xs
 s2:h.IsListIter i2 l k/\h.IsList l ys
section
variable {prog:Program} {w:World} {A:Around} {E:Value->Shared->Prop} {s:Shared} {z TI TO i1 i2 t l:Addr} {xs ys:Array Value} {k:Nat}
theorem Z2.frame{h h':Heap}(x:Z2 h z TI TO i1 i2 t l xs ys k)(kp:∀ b o,h.get? b=some o->h'.get? b=some o): Z2 h' z TI TO i1 i2 t l xs ys k:=by
 obtain⟨⟨f0,fb,hz,ho⟩,ti,⟨a1,a2,to⟩,s1,s2⟩:=x
 refine⟨⟨f0,fb,kp _ _ hz,?_⟩,kp _ _ ti,⟨a1,a2,kp _ _ to⟩,⟨s1.1.at fun o e=>kp _ o e,qj6 s1.2 fun o e=>kp _ o e⟩,⟨s2.1.at fun o e=>kp _ o e,s2.2.at fun o e=>kp _ o e⟩⟩
 rcases ho with rfl|⟨T,e,t1,t2,t3,t4,o,hT⟩
 ·exact .inl rfl
 ·exact .inr ⟨T,e,t1,t2,t3,t4,o,kp _ _ hT⟩
theorem Z2.but{h h':Heap}{S:Addr}(x:Z2 h z TI TO i1 i2 t l xs ys k)
  (hS:S≠z/\S≠TI/\S≠TO/\S≠i1/\S≠i2/\S≠t/\S≠l)(oS:∃ o,h'.get? S=some o)
  (kp:∀ b o,b≠S->h.get? b=some o->h'.get? b=some o): Z2 h' z TI TO i1 i2 t l xs ys k:=by
 obtain⟨n1,n2,n3,n4,n5,n6,n7⟩:=hS
 obtain⟨⟨f0,fb,hz,ho⟩,ti,⟨a1,a2,to⟩,s1,s2⟩:=x
 refine⟨⟨f0,fb,kp _ _ (Xb n1) hz,?_⟩,kp _ _ (Xb n2) ti,⟨a1,a2,kp _ _ (Xb n3) to⟩,⟨s1.1.at fun o e=>kp _ o (Xb n4) e,qj6 s1.2 fun o e=>kp _ o (Xb n6) e⟩,
  ⟨s2.1.at fun o e=>kp _ o (Xb n5) e,s2.2.at fun o e=>kp _ o (Xb n7) e⟩⟩
 rcases ho with rfl|⟨T,e,t1,t2,t3,t4,o,hT⟩
 ·exact .inl rfl
 ·by_cases q:T=S
  ·obtain⟨o',ho'⟩:=oS
   exact .inr ⟨T,e,t1,t2,t3,t4,o',by rw[q];exact ho'⟩
  ·exact .inr ⟨T,e,t1,t2,t3,t4,o,kp _ _ q hT⟩
theorem next2{Q:Option Value->Shared->Prop}{x y:Value}(hh:A.handled=none)(Ap:Ap2 z TI TO i1 i2 [i1,t] [i2,l])(x0:Z2 s.heap z TI TO i1 i2 t l xs ys k)
  (d1:t≠i1)(d2:l≠i2)(hx:xs[k]?=some x)(hy:ys[k]?=some y)
  (hQ:∀ h' tk,Z2 h' z TI TO i1 i2 t l xs ys (k+1)->IsT h' s.heap.objs.size #[x,y]->h'.objs.size=s.heap.objs.size+1 ->
   (∀ c o,c≠z->c≠TO->c≠i1->c≠i2->s.heap.get? c=some o->h'.get? c=some o)->Q (some (.ref s.heap.objs.size)) { s with heap:=h',toks:=tk }):
  wpAny (model prog w) A (pyNext (.ref z)) Q E s:=by
 obtain⟨⟨f0,fb,hz,ho⟩,ti,to,s1,s2⟩:=x0
 have hT:s.TypeIs (.ref z) "zip":=⟨_,hz,rfl⟩
 have e1:=(Yp.mp hx).1
 have e2:=(Yp.mp hy).1
 unfold pyNext
 refine Ja (Ws (X8 (name:=Str.ofString "__next__") hT Zn (X6 Zn hT Qk
  (zal (qo8 (A:=A.in1) hh i1 t d1 xs) (W7 (A:=A.in1) hh i2 l d2 ys) Ap hz ho ti to s1 e1 s2 e2 fun h' tk x1 x2 f0' fb' p1 p2 hz' ho' to' q1 q2 hn zn kp=>?_) (U9 _))))
 rw[hx] at p1;rw[hy] at p2
 cases p1;cases p2
 exact Jg (hQ h' tk ⟨⟨f0',fb',hz',ho'⟩,kp _ _ Ap.TIz Ap.TITO Ap.TIi1 Ap.TIi2 ti,to',q1,q2⟩ hn zn kp)
theorem end2{Q:Option Value->Shared->Prop}(hh:A.handled=none)(Ap:Ap2 z TI TO i1 i2 [i1,t] [i2,l])(x0:Z2 s.heap z TI TO i1 i2 t l xs ys k)
  (d1:t≠i1)(d2:l≠i2)(h1:k=xs.size)
  (hQ:∀ h',(∀ c o,c≠z->c≠TO->c≠i1->c≠i2->s.heap.get? c=some o->h'.get? c=some o)->Q none { s with heap:=h' }):
  wpAny (model prog w) A (pyNext (.ref z)) Q E s:=by
 obtain⟨⟨f0,fb,hz,ho⟩,ti,to,s1,s2⟩:=x0
 have hT:s.TypeIs (.ref z) "zip":=⟨_,hz,rfl⟩
 unfold pyNext
 refine Ja (Ws (X8 (name:=Str.ofString "__next__") hT Zn (X6 Zn hT Qk
  (zak (qo8 (A:=A.in1) hh i1 t d1 xs) (W7 (A:=A.in1) hh i2 l d2 ys) Ap hz ho ti to s1 s2 h1 fun h' e kp he=>?_) (U9 _))))
 obtain⟨o,ho,hc⟩:=he
 refine Ja (Qh (T:= "StopIteration") (b:=true) ⟨o,ho,hc⟩ isSubtype_stop ?_)
 exact Jg (hQ _ kp)
end
end QZ
namespace L2.QP
open PySem PySem.Spec PyProof.Rows
section
variable {prog:Program} {w:World} {A:Around} {E:Value->Shared->Prop} {z TI TO i1 i2 t l S:Addr} {xs ys:Array Value}
theorem updz{R:Result->Shared->Prop}{res:Value}(hh:A.handled=none)(Ap:QZ.Ap2 z TI TO i1 i2 [i1,t] [i2,l])(d1:t≠i1)(d2:l≠i2)(hS:S≠z/\S≠TI/\S≠TO/\S≠i1/\S≠i2/\S≠t/\S≠l):
  ∀ (rest:List (Key×Value)) (i:Nat) (acc:List (Key×Value)) (ix:Int) (tt:Tok) (s:Shared),xs.size=i+rest.length->acc.length+rest.length<=sizeLine ->
    (∀ (j:Nat) (q:Key×Value),rest[j]?=some q->∃ u:Value,xs[i+j]?=some u/\ys[i+j]?=some q.2/\qba q.1 u=true) ->
    QZ.Z2 s.heap z TI TO i1 i2 t l xs ys i->s.heap.DictOf (yc prog w) S acc ->
    (∀ h' tk,h'.DictOf (yc prog w) S (merged acc rest)->(∀ b o,b≠S->b≠z->b≠TO->b≠i1->b≠i2->s.heap.get? b=some o->h'.get? b=some o)->R (.ok (.ret res)) { s with heap:=h',toks:=tk }) ->
    codeAny (model prog w) A (.builtin "dict.update.loop" ⟨[.ref S,.ref z,.int ix tt,res],[]⟩) R s
 | [],i,acc,ix,tt,s,hsz,hln,ht,x0,hm,hR=>by
   obtain⟨n1,n2,n3,n4,n5,n6,n7⟩:=id hS
   refine Uj qvj ?_
   rw[W8 qic _]
   show wpAny _ A.in1 (pyNext (.ref z) >>= _) _ _ s
   refine Ja (QZ.end2 (A:=A.in1) hh Ap x0 d1 d2 (by simpa using hsz.symm) fun h' kp=>?_)
   show wpAny _ A.in1 (Builtin.Dict.addKeywords S [] >>= _) _ _ _
   refine Ja (Jg (Jg ?_))
   exact hR h' s.toks (hm.at fun o e=>kp _ o n1 n3 n4 n5 e) fun b o _ b1 b2 b3 b4 e=>kp b o b1 b2 b3 b4 e
 | q::rest,i,acc,ix,tt,s,hsz,hln,ht,x0,hm,hR=>by
   obtain⟨n1,n2,n3,n4,n5,n6,n7⟩:=id hS
   obtain⟨u,hx,hy,hk⟩:=ht 0 q rfl
   rw[Jz] at hsz hln
   have lS:S<s.heap.objs.size:=by obtain⟨o,_,_,e,_⟩:=hm;exact Jl e
   refine Uj qvj ?_
   rw[W8 qic _]
   show wpAny _ A.in1 (pyNext (.ref z) >>= _) _ _ s
   refine Ja (QZ.next2 (A:=A.in1) hh Ap x0 d1 d2 (by simpa using hx) (by simpa using hy) fun h1 tk1 x1 hT1 zz1 kp1=>?_)
   have hm1:h1.DictOf (yc prog w) S acc:=hm.at fun o e=>kp1 _ o n1 n3 n4 n5 e
   show wpAny _ A.in1 (holding [Value.ref s.heap.objs.size] _ >>= _) _ _ _
   refine Ja (Xi ?_)
   refine Ja (wpAny_tryCatch ?_)
   unfold Builtin.Dict.pairItems
   refine Ja (wpAny_typeOf (T:= "tuple") ⟨_,hT1,rfl⟩ ?_)
   rw[Je (by first|decide|rfl|simp)]
   refine Ja (Yc hT1 rfl (Jg ?_))
   show wpAny _ A.in1 (holding [u,q.2] (dictSet S u q.2)) _ _ _
   refine Xi (wpAny_dictSet_pairs (knd:=yc prog w) (k:=q.1) hk hm1 (fun h2 hm2 hs2=>?_) (by omega))
   refine Jg ⟨Qd qic _,updz hh Ap d1 d2 hS rest (i+1) (stored acc q.1 q.2) (ix+1) 0 _ (show xs.size=i+1+rest.length by omega) ?_ (fun j q' e=>?_) ?_ hm2 fun h' tk hd' k=>?_⟩
   ·have z:=stored_length_le acc q.1 q.2
    omega
   ·obtain⟨u',hx',hy',hk'⟩:=ht (j+1) q' (by simpa using e)
    have e9:i+1+j=i+(j+1):=by omega
    rw[e9]
    exact⟨u',hx',hy',hk'⟩
   ·exact x1.but hS (let ⟨o,_,_,e,_⟩:=hm2;⟨o,e⟩) fun b o hb e=>hs2.extBut b o hb e
   ·exact hR h' tk hd' fun c oc h3 b1 b2 b3 b4 e=>k c oc h3 b1 b2 b3 b4 (hs2.extBut c oc h3 (kp1 c oc b1 b2 b3 b4 e))
theorem dict2{s:Shared}{prs:List (Key×Value)}{Q:Value->Shared->Prop}(hh:A.handled=none)(Ap:QZ.Ap2 z TI TO i1 i2 [i1,t] [i2,l])(d1:t≠i1)(d2:l≠i2)(x0:QZ.Z2 s.heap z TI TO i1 i2 t l xs ys 0)
  (hsz:xs.size=prs.length)(hln:prs.length<=sizeLine)(ht:∀ (j:Nat) (q:Key×Value),prs[j]?=some q->∃ u:Value,xs[j]?=some u/\ys[j]?=some q.2/\qba q.1 u=true)
  (h:∀ h' tk,h'.DictOf (yc prog w) s.heap.objs.size (merged [] prs)->(∀ b o,b≠z->b≠TO->b≠i1->b≠i2->s.heap.get? b=some o->h'.get? b=some o)->Q (.ref s.heap.objs.size) { s with heap:=h',toks:=tk }):
  wpAny (model prog w) A (call (.type "dict") [.ref z]) Q E s:=by
 have lz:z<s.heap.objs.size:=by obtain⟨⟨_,_,q,_⟩,_⟩:=x0;exact Jl q
 have lTI:TI<s.heap.objs.size:=by obtain⟨_,q,_⟩:=x0;exact Jl q
 have lTO:TO<s.heap.objs.size:=by obtain⟨_,_,⟨_,_,q⟩,_⟩:=x0;exact Jl q
 have li1:i1<s.heap.objs.size:=by obtain⟨_,_,_,⟨⟨_,q,_⟩,_⟩,_⟩:=x0;exact Jl q
 have li2:i2<s.heap.objs.size:=by obtain⟨_,_,_,_,⟨⟨_,q,_⟩,_⟩⟩:=x0;exact Jl q
 have lt:t<s.heap.objs.size:=by obtain⟨_,_,_,⟨_,⟨_,q,_⟩⟩,_⟩:=x0;exact Jl q
 have ll:l<s.heap.objs.size:=by obtain⟨_,_,_,_,⟨_,⟨_,q,_⟩⟩⟩:=x0;exact Jl q
 refine callType_codes (Q₁:=fun obj s₁=>obj = .ref s.heap.objs.size/\s₁={ s with heap:=s.heap.push { cls:=.type "dict",data:=.dict #[] } }) PySem.F.kt_called_dict (PySem.F.kt_typeCall_dict_1 _) PySem.F.entry_dict_init (kt_code_dict_new _ ⟨rfl,rfl⟩) ?_
 rintro obj s₁ ⟨rfl,rfl⟩
 have hnew:(s.heap.push { cls:=.type "dict",data:=.dict #[] }).DictOf (yc prog w) s.heap.objs.size []:=Heap.DictOf.new s.heap
 have k0:∀ b o,s.heap.get? b=some o->(s.heap.push { cls:=.type "dict",data:=.dict #[] }).get? b=some o:=fun b o e=>Jb _ e
 have x1:=x0.frame k0
 obtain⟨f0,fb,hz,_⟩:=x1.ex
 refine⟨hnew.typeIs,PySem.F.args_dict_init_2 _ _,?_⟩
 unfold Builtin.«dict.__init__»
 refine Ja ?_
 unfold Builtin.Dict.selfAndRest
 refine Ja (wpAny_notOrdered_dict hnew.typeIs ?_)
 show wpAny _ _ (pure (s.heap.objs.size,[Value.ref z])) _ _ _
 refine Jg ?_
 show wpAny _ _ (Builtin.Dict.updateFrom "dict.__init__" s.heap.objs.size (.ref z) [] .none) _ _ _
 unfold Builtin.Dict.updateFrom
 refine Ja (wpAny_typeOf (T:= "zip") ⟨_,hz,rfl⟩ ?_)
 rw[Je (by first|decide|rfl|simp)]
 refine Ja (QZ.q3k hz hh fun h1 tk1 hk1=>?_)
 rw[Je (show (none:Option Value).isNone=true from rfl)]
 refine Ja (Uv ?_)
 have x2:=x1.frame hk1
 obtain⟨f0',fb',hz',_⟩:=x2.ex
 have hT:Shared.TypeIs { s with heap:=h1,toks:=tk1 } (.ref z) "zip":=⟨_,hz',rfl⟩
 refine Ja ?_
 refine U6 hT PySem.F.slot_zip_iter (X6 PySem.F.slot_zip_iter hT PySem.F.entry_zip_iter ?_ (PySem.F.args_zip_iter_1 _))
 show wpAny _ _ (ret (.ref z)) _ _ _
 refine Jg ⟨_,rfl,"zip",_,hT,PySem.F.slot_zip_next.lookup,?_⟩
 have key:=updz (prog:=prog) (w:=w) (A:=A.in1) (R:=wants (fun r s₂=>r = .none/\Q (.ref s.heap.objs.size) s₂) E) (S:=s.heap.objs.size) (res:=Value.none) hh Ap d1 d2
  ⟨J5 lz,J5 lTI,J5 lTO,J5 li1,J5 li2,J5 lt,J5 ll⟩ prs 0 [] 0 0
  { s with heap:=h1,toks:=tk1 } (by rw[hsz,Nat.zero_add]) (by rw[Y3,Nat.zero_add];exact hln)
  (fun j q e=>by rw[Nat.zero_add];exact ht j q e) x2 (hnew.at fun o e=>hk1 _ _ e)
  (fun h' tk hd' k=>⟨rfl,h h' tk hd' fun b o b1 b2 b3 b4 e=>k b o (Xl (Jl e)) b1 b2 b3 b4 (hk1 _ _ (k0 _ _ e))⟩)
 first
  |exact Jg ⟨Qd qic _,key⟩
  |exact Ja (Jg (Jg ⟨Qd qic _,key⟩))
end
section
variable {X:Cx}
theorem ap2(S0 t l:Nat)(lt:t<S0)(ll:l<S0): QZ.Ap2 (S0+4) (S0+2) (S0+3) S0 (S0+1) [S0,t] [S0+1,l]:=by
 have mm:∀ (u v d:Nat),d∈([u,v]:List Nat)->d=u\/d=v:=fun u v d hd=>by simpa using hd
 constructor
 all_goals first
  |exact(show ((_:Nat)≠(_:Nat)) by omega)
  |(intro d hd
    have q:=mm _ _ d hd
    refine⟨?_,?_,?_⟩<;>exact(show ((_:Nat)≠(_:Nat)) by omega))
theorem qwl:bootBuiltins "dict" = some (.type "dict"):=by decide +kernel
def rDZ(K:PySem.W.Frag): List V->Hp->VK->Prop:=fun vs H Q=>∃ (t l:Addr) (ks:List Key) (ys:List V),vs=[V.ref t,V.ref l]/\SqT K H t (ks.map kV)/\SqL K H l ys/\ks.length=ys.length /\
 ∀ p,H p=none->Q (.ref p) (upd H p (.dK (qc2 [] (ks.zip ys))))
theorem qvy:∀ {ks:List Key} {ys:List V} {us ws:List Value},Vals ys ws->ks.length=ys.length->∃ prs:List (Key×Value),KV (ks.zip ys) prs/\prs=ks.zip ws
 |[],[],_,_,.nil,_=>⟨[],.nil,rfl⟩
 |[],_::_,_,_,_,h=>by simp at h
 |_::_,[],_,_,_,h=>by simp at h
 | k::ks,y::ys,us,_,.cons r t,h=>by
   obtain⟨prs,h1,h2⟩:=qvy (us:=us) (ks:=ks) t (by simpa using h)
   exact⟨(k,_)::prs,.cons ⟨rfl,r⟩ h1,by rw[h2];rfl⟩
theorem q4u{e1 e2:Expr}{ta:TA}{p pos p' pos':Pos}(hg:Gl X "dict")(hm:X.mg "dict" = none)(hg2:Gl X "zip")(hm2:X.mg "zip" = none)(ha:PA X [e1,e2] ta)(hc:X.calm=true:=by rfl)
  (hs:starEach [e1,e2] X.env=(false,eval e1 X.env)::starEach [e2] X.env:=by rfl)(hpl:(backTo pos' (starEach [e2] X.env)).any (·.1)=false:=by rfl)
  (hs2:starEach [.Call (.Name "zip" p') [e1,e2] [] pos'] X.env=[(false,eval (.Call (.Name "zip" p') [e1,e2] [] pos') X.env)]:=by rfl):
  PE X (.Call (.Name "dict" p) [.Call (.Name "zip" p') [e1,e2] [] pos'] [] pos) (tCB (rDZ X.K) ta):=by
 intro pins s σ H Q I h
 refine Call_ (qee I hg hm qwl (Yo ?_ hs2 rfl))
 rw[hs2]
 show wpAny _ _ (spliced [(false,eval (.Call (.Name "zip" p') [e1,e2] [] pos') X.env)]) _ _ s
 refine Zc (Yw (Call_ (qee I hg2 hm2 qkq (Yo (thn (ha pos' pins s σ H _ I h) fun us s1 ⟨vs,H1,I1,r1,q1⟩=>?_) hs hpl))) (fun v s' hv=>Wc hv) fun _ _ q=>q)
 obtain⟨t,l,ks,ys,ex,hqt,hql,hkl,q⟩:=q1
 subst ex
 cases r1 with
 | cons r rr=>
   cases rr with
   | cons r' rr=>
     cases rr
     cases r
     cases r'
     obtain⟨its1,rv1,p1,z1⟩:=I1.tuple hqt
     obtain⟨its2,rv2,p2,z2⟩:=I1.list hql
     have la:t<s1.heap.objs.size:=p1.lt
     have lb:l<s1.heap.objs.size:=p2.lt
     have l1:=rv1.length
     have l2:=rv2.length
     rw[Jd] at l1
     refine QZ.qxi p1 p2.isList fun g1 hz hTI hTO hi1 hi2 hsz hk=>?_
     generalize hS0:s1.heap.objs.size=S0 at hz hTI hTO hi1 hi2 hsz la lb
     have Ap:=ap2 S0 t l la lb
     have Z0:QZ.Z2 g1 (S0+4) (S0+2) (S0+3) S0 (S0+1) t l its1.toArray its2.toArray 0:=
      ⟨⟨_,false,hz,.inl rfl⟩,hTI,⟨_,_,hTO⟩,⟨hi1,QZ.qj6 p1 fun o e=>hk _ o e⟩,⟨hi2,p2.isList.at fun o e=>hk _ o e⟩⟩
     obtain⟨prs,kv,ep⟩:=qvy (us:=its1) rv2 hkl
     have hpl2:prs.length=ks.length:=by rw[ep,Yr];omega
     have sz:prs.length<=sizeLine:=by omega
     refine dict2 (A:=X.A) (prs:=prs) (I.ok.hd hc) Ap (qb5 la 0) (qb5 lb 1) Z0 (by rw[J8];omega) sz (fun j q' e=>?_) fun g2 tk hd kp=>?_
     ·rw[ep,Xn] at e
      obtain⟨f1,f2⟩:=e
      have f3:(ks.map kV)[j]?=some (kV q'.1):=by rw[Jt,f1];rfl
      obtain⟨u,hu,ru⟩:=rv1.get f3
      exact⟨u,by rw[X7];exact hu,by rw[X7];exact f2,qdb (P:=X.prog) (w:=X.w) ru⟩
     ·have hDn:g1.objs.size=S0+5:=hsz
      have kp2:∀ d o,s1.heap.get? d=some o->g2.get? d=some o:=fun d o e=>by
       have hd:d<S0:=by rw[<- hS0];exact Jl e
       exact kp d o (qb5 hd 4) (qb5 hd 3) (qb5 hd 0) (qb5 hd 1) (hk d o e)
      have hd2:g2.DictOf (yc X.prog X.w) (S0+5) (merged [] prs):=by rw[<- hDn];exact hd
      have hbig:=I1.big
      have hne:((S0+5:Addr)==sysModules)=false:=by
       rw[hS0] at hbig
       exact Yu.mpr (fun z=>absurd (show sysModules<sysModules by rw (config:={ occs:=.pos [2] }) [<- z];exact Xk hbig (Yj _ _)) (Yd _))
      have hml:=ql7 (ks.zip ys) []
      have new:Qaf X.prog X.w (upd H1 (S0+5) (.dK (qc2 [] (ks.zip ys)))) g2 (S0+5) (.dK (qc2 [] (ks.zip ys))):=
       ⟨by rw[Yr] at hml;simp at hml;omega,hne,_,KV.merge kv .nil,hd2⟩
      refine⟨.ref (S0+5),_,I1.laid (t':=tk) (h':=g2) kp2 (by rw[hS0];exact Yj _ _) new,?_,q _ (I1.hok.fresh (by rw[hS0];exact Yj _ _))⟩
      show Value.ref g1.objs.size=_
      rw[hDn]
end
end L2.QP
namespace PySem
open Sem (wp)
open AutoSeq1 (wpAny_loadPart')
namespace QE
theorem q92(a v:Value): checkTypeCall "enumerate" ⟨[a],[(Str.ofString "start",v)]⟩=pure ():=by kernel_rfl
theorem q4b(a v:Value): checkBuiltinCall "enumerate.__new__" ⟨[.type "enumerate",a],[(Str.ofString "start",v)]⟩=pure ():=by kernel_rfl
theorem qwa(a b v:Value): argsOk "object.__init__" ⟨[a,b],[(Str.ofString "start",v)]⟩:=by kernel_rfl
theorem q3e(l:Addr)(items:Array Value)(n:Nat)(dct:Option Addr)(sl:Array (Option Value))(t:Tok):
  Meets (Builtin.«enumerate.__new__» ⟨[.type "enumerate",.ref l],[(Str.ofString "start",.int 1 t)]⟩) (fun _ R s=>s.heap.get? l=some { cls:=.type "list",dict:=dct,data:=.seq items n,slots:=sl } /\
   R (.ok (.ret (.ref (s.heap.push { cls:=.type "list_iterator",data:=.fields #[.ref l,.int 0 0] }).objs.size)))
     { s with heap:=(s.heap.push { cls:=.type "list_iterator",data:=.fields #[.ref l,.int 0 0] }).push { cls:=.type "enumerate",data:=.fields #[.none,.bool false,.ref s.heap.objs.size,rawInt 1,.none,.none] } }):=
 .of_wp fun prog w A R s h=>by
  obtain⟨hp,g,d,tk,os⟩:=s;obtain⟨hl,h⟩:=h
  have hsub:=sub_enumerate
  have hL:Heap.IsList (Shared.heap ⟨hp,g,d,tk,os⟩) l items:=⟨_,hl,rfl,n,rfl⟩
  wp_walk using Uk hl
  refine wpAny_stack_any fun st=>Jg ?_
  split
  ·rename_i c _ _ _ _ _
   cases (c==Value.type "enumerate")
   ·wp_walk using Uk hl,Y6 hL
    exact⟨_,rfl,h⟩
   ·wp_walk using Uk hl,Y6 hL
    exact⟨_,rfl,h⟩
  ·wp_walk using Uk hl,Y6 hL
   exact⟨_,rfl,h⟩
section
variable {prog:Program} {w:World} {A:Around} {E:Value->Shared->Prop} {s:Shared}
theorem qw9{T newId initId:String}{Bn Bi:Builtin}{args:List Value}{kw:List (Str×Value)}{S:Spec}{Q Q₁:Value->Shared->Prop}(ft:TypeCalled T newId initId)
  (hct:checkTypeCall T ⟨args,kw⟩=pure ())(hcn:checkBuiltinCall newId ⟨.type T::args,kw⟩=pure ())
  (entryN:entryFor table newId=some Bn)(entryI:entryFor table initId=some Bi)(g:Meets (Bn ⟨.type T::args,kw⟩) S)
  (h:S A.in1 (wants Q₁ E) s)
  (hnext:∀ obj s₁,Q₁ obj s₁->s₁.TypeIs obj T/\argsOk initId ⟨obj::args,kw⟩/\∃ Si,Meets (Bi ⟨obj::args,kw⟩) Si/\Si A.in1 (wants (fun r s₂=>r = .none/\Q obj s₂) E) s₁):
  wpAny (model prog w) A (call (.type T) args kw) Q E s:=by
 obtain⟨c,tl,hmro⟩:=ft.mro
 have hmade:=ft.made
 have hsub:=ft.sub
 refine wpAny_call (codeAny_of_tree ?_)
 show wpAny _ _ (callAny (.type T) _) _ _ _
 refine Jg ⟨Code.quiet_builtin _ (by decide +kernel),Uj F.entry_type_call ?_⟩
 rw[Around.under_plain (weight_type_call_type T args kw) (units_type_call_type T args kw)]
 have h1:=ft.notType
 have h2:=ft.canCreate
 repeat (any_goals (first|assumption|wp_step))
 refine Uq (codeAny_call_builtin ft.plain entryN (wpAny_of_eq hcn (g prog w A.in1 _ s h))) fun r s₁ hr=>?_
 cases r with
 |error e=>exact hr
 | ok fl=>
   cases fl with
   | ret obj=>
     obtain⟨hT,hok,Si,gi,hsi⟩:=hnext _ _ hr
     have hli:=ft.init.lookup
     have hbi:=ft.init.bind obj
     repeat (any_goals (first|assumption|wp_step))
     refine Uq (codeAny_call_builtin ft.init.plain entryI (ft.init.check _ _ _ _ _ _ _ _ hT hok (gi prog w A.in1 _ s₁ hsi))) fun r₂ s₂ hr₂=>?_
     cases r₂ with
     |error e=>exact hr₂
     | ok fl₂=>
       cases fl₂ with
       | ret r=>
         obtain⟨rfl,hq⟩:=hr₂
         repeat (any_goals (first|assumption|wp_step))
       |_=>exact hr₂.elim
   |_=>exact hr.elim
theorem q4j{T newId:String}{self:Value}{a:Value}{rest:List Value}{kw:List (Str×Value)}(hl:typeLookup (.type T) "__init__" = pure (some (.builtin "object.__init__")))
  (hm:Bind.madeBy (.type T)=pure (some newId))(hne:(some newId != some "object.__new__")=true):
  Meets (Builtin.«object.__init__» ⟨self::a::rest,kw⟩) (fun _ R s=>s.TypeIs self T/\R (.ok (.ret .none)) s):=by
 refine Meets.of_wp fun prog w A R s hs=>?_
 obtain⟨hT,hq⟩:=hs
 repeat (any_goals (first|assumption|wp_step))
 exact⟨_,rfl,hq⟩
theorem qxb{l:Addr}{items:Array Value}{t:Tok}{Q:Value->Shared->Prop}(hL:s.heap.IsList l items)
  (h:∀ h',IsEnum h' (s.heap.objs.size+1) s.heap.objs.size 1 .none->h'.IsListIter s.heap.objs.size l 0->h'.objs.size=s.heap.objs.size+2 ->
   (∀ b o,s.heap.get? b=some o->h'.get? b=some o)->Q (.ref (s.heap.objs.size+1)) { s with heap:=h' }):
  wpAny (model prog w) A (call (.type "enumerate") [.ref l] [(Str.ofString "start",.int 1 t)]) Q E s:=by
 obtain⟨⟨c,dct,dt,sl⟩,hl,hc,n,hd⟩:=hL
 replace hc:c = .type "list":=hc
 replace hd:dt = .seq items n:=hd
 subst hc hd
 refine qw9 (Q₁:=fun obj s₁=>s₁.TypeIs obj "enumerate"/\Q obj s₁) F.called_enumerate (q92 _ _) (q4b _ _) F.entry_enumerate_new F.entry_object_init
  (q3e l items n dct sl t) ⟨hl,?_⟩ fun obj _ hq=>⟨hq.1,qwa obj _ _,_,q4j F.called_enumerate.init.lookup F.called_enumerate.made (by decide),hq.1,rfl,hq.2⟩
 have hz:(s.heap.push { cls:=.type "list_iterator",data:=.fields #[.ref l,.int 0 0] }).objs.size=s.heap.objs.size+1:=J6 ..
 show _/\_
 rw[hz]
 have he:IsEnum ((s.heap.push { cls:=.type "list_iterator",data:=.fields #[.ref l,.int 0 0] }).push
   { cls:=.type "enumerate",data:=.fields #[.none,.bool false,.ref s.heap.objs.size,rawInt 1,.none,.none] }) (s.heap.objs.size+1) s.heap.objs.size 1 .none:=by
  have:=Js (s.heap.push { cls:=.type "list_iterator",data:=.fields #[.ref l,.int 0 0] })
   (o:={ cls:=.type "enumerate",data:=.fields #[.none,.bool false,.ref s.heap.objs.size,rawInt 1,.none,.none] }) rfl
  rw[hz] at this;exact this
 refine⟨⟨_,he,rfl⟩,h _ he ⟨_,Jb _ (Js _ rfl),rfl,rfl⟩ (by rw[J6,hz]) fun b o x=>Jb _ (Jb _ x)⟩
theorem qxa{M:Model}{A:Around}{E:Value->Shared->Prop}{s:Shared}{pos:Pos}{T:String}{first:List Value}{args:List (Bool×Sem Value)}{keywords:List (Option Str×Sem Value)}{Q:Value->Shared->Prop}
  (hplain:args.any (·.1)=false)(hkw:keywords.any (·.1.isNone)=false)
  (h:wpAny M A (evalArgs (.type T) true args keywords) (fun a s₁=>wpAny M A (call (.type T) (first++a.pos) a.kw) Q E s₁) E s):
  wpAny M A (callWith pos (.type T) first args keywords) Q E s:=by
 unfold callWith
 refine Ja (Xi (Yw h (fun a s₁ h₁=>Ja (wpAny_standAt ?_)) fun _ _ x=>x))
 simp only[hplain,hkw,Bool.or_false]
 refine Ja (Jg ?_)
 exact Ja (Yw h₁ (fun r s₂ hr=>Ja (Xi (wpAny_point (Jg hr)))) fun _ _ x=>x)
theorem Qvz{M:Model}{A:Around}{E:Value->Shared->Prop}{s:Shared}{env:Env}{func:Expr}{args:List Expr}{kws:List Keyword}{pos:Pos}{Q:Value->Shared->Prop}
  (h:wpAny M A (eval func env) (fun f s₁=>wpAny M A (callWith pos f [] (backTo pos (starEach args env)) (backToKw pos (keywordEach kws env))) Q E s₁) E s)
  (he:eval (.Call func args kws pos) env=(do callWith pos (<- eval func env) [] (backTo pos (starEach args env)) (backToKw pos (keywordEach kws env))):=by rfl):
  wpAny M A (eval (.Call func args kws pos) env) Q E s:=by
 rw[he];exact Ja h
theorem draws1(hh:A.handled=none)(it l:Addr)(hne:l≠it)(items:Array Value):
  Draws prog w A it [it,l] (items.size+1) (fun j v=>1<=j/\items[j-1]?=some v) (fun j h=>1<=j/\h.IsListIter it l (j-1)/\h.IsList l items) where
 live:=fun _ _ st=>let ⟨o,ho,_⟩:=st.2.1;⟨o,ho⟩
 frame:=fun _ _ _ st hk=>⟨st.1,st.2.1.at fun o e=>hk it (by simp) o e,st.2.2.at fun o e=>hk l (by simp) o e⟩
 item:=fun j s Q E hj st hQ=>by
  have hlt:j-1<items.size:=by have:=st.1;omega
  refine wpAny_nextOf_list_item st.2.1 st.2.2 (x:=items[j-1]) (by simp[hlt]) fun h' qev hs'=>?_
  refine hQ _ h' s.toks ⟨st.1,by simp[hlt]⟩ ⟨Nat.le_add_left _ _,?_,st.2.2.extBut hs'.extBut hne⟩ hs'
  have e:j+1-1=j-1+1:=by have:=st.1;omega
  rw[e];exact qev
 done:=fun s Q E st hE=>wpAny_nextOf_list_end hh st.2.1 st.2.2 (by simp) hE
end
end QE
end PySem
namespace L2.QP
open PySem PySem.Spec PyProof.Rows
def Ite1(K:PySem.W.Frag)(a:Addr): It:=
 ⟨fun i H=>∃ (xs:List V) (x:V),SqL K H a xs/\xs[i]?=some x,fun i H v H'=>∃ T x,v = .ref T/\H T=none/\H'=upd H T (.tup [.int ((i+1:Nat):Int),x])/\∀ xs,SqL K H a xs->xs[i]?=some x,fun i H=>∃ xs:List V,SqL K H a xs/\xs.length<=i⟩
theorem q9t{P:Program}{w:World}{K:PySem.W.Frag}{elts:List Expr}{kk:Nat}{tpos:Pos}(a e it:Addr):
  Turn P w K (.Tuple elts kk tpos) (Ite1 K a) [e,it] e (fun i h=>(∃ old,IsEnum h e it ((i+1:Nat):Int) old)/\h.IsListIter it a i/\e≠it) where
 mem:=by simp
 obj:=fun i h st b hb=>by
  obtain⟨⟨old,he⟩,⟨o,ho,hc,hd⟩,_⟩:=st
  have e':b=e\/b=it:=by simpa using hb
  rcases e' with z|z
  ·rw[z];exact⟨_,he,fun v q=>nomatch q⟩
  ·rw[z];exact⟨o,ho,fun v q=>by rw[hd] at q;cases q⟩
 keep:=fun i h h' st k=>let ⟨⟨old,he⟩,hi,hne⟩:=st;⟨⟨old,k e (by simp) _ he⟩,hi.at fun o q=>k it (by simp) o q,hne⟩
 item:=by
  intro X hP hw hK hc i pins s σ H E I hf st hg
  subst hP hw hK
  obtain⟨⟨old,he⟩,hit,hne⟩:=st
  obtain⟨xs,x,hq,hx⟩:=hg
  obtain⟨its,rv,p,hz⟩:=I.list hq
  obtain⟨u,hu,ru⟩:=rv.get hx
  have hel:e<s.heap.objs.size:=Jl he
  have hil:it<s.heap.objs.size:=by obtain⟨_,q,_⟩:=hit;exact Jl q
  have hal:a≠it:=by
   intro z;subst z
   obtain⟨o,ho,hc1,_⟩:=hit
   obtain⟨o2,ho2,hc2,_⟩:=p.isList
   rw[ho] at ho2;cases ho2
   rw[hc1] at hc2
   injection hc2 with z
   exact absurd z (by decide)
  have hea:e≠a:=by
   intro z;subst z
   obtain⟨o2,ho2,hc2,_⟩:=p.isList
   rw[he] at ho2;cases ho2
   have hc2:Value.type "enumerate" = Value.type "list":=hc2
   injection hc2 with z
   exact absurd z (by decide)
  have hui:its.toArray[i]?=some u:=by simpa using hu
  have hli:i<its.toArray.size:=(Yp.mp hui).1
  refine wpAny_pyNext_enum_itemD (i:=i+1) (QE.draws1 (A:=X.A.in1) (I.ok.hd hc) it a hal its.toArray) he ⟨Nat.le_add_left _ _,hit,p.isList⟩ (by omega) hne (by simp[hne,hea]) fun x' h' tk hx' ho qev hT hsz hk=>?_
  have hx'':x'=u:=by
   have:=hx'.2
   rw[Za,hui] at this
   exact(Jj this).symm
  subst hx''
  refine⟨_,rfl,wpAny_letOwnedTupleGo_enum (s:={ s with heap:=h',toks:=tk+1 }) ho fun h'' he' sb=>?_⟩
  have hT2:h''.get? s.heap.objs.size=some { cls:=.type "tuple",data:=.seq #[.int ((i+1:Nat):Int) tk,x'] }:=(sb.2 _ (J5 hel)).trans hT
  have new:Qaf X.prog X.w (upd H s.heap.objs.size (.tup [.int ((i+1:Nat):Int),x])) h'' s.heap.objs.size (.tup [.int ((i+1:Nat):Int),x]):=
   ⟨by show 2<=sizeLine;decide,[.int ((i+1:Nat):Int) tk,x'],.cons ⟨_,rfl⟩ (.cons ru .nil),⟨_,hT2,rfl,_,rfl⟩⟩
  have I1:Inv X pins σ (upd H s.heap.objs.size (.tup [.int ((i+1:Nat):Int),x])) { s with heap:=h'',toks:=tk+1 }:=
   I.qj7 (ch:=[e,it]) (fun b ob hb q=>(sb.2 b (fun z=>hb (by simp[z]))).trans (hk b ob (fun z=>hb (by simp[z])) (fun z=>hb (by simp[z])) q)) hf (Jp _) new
  refine⟨.ref s.heap.objs.size,_,I1,rfl,⟨_,x,rfl,I.hok.fresh (Jp _),rfl,fun ys hy=>by rw[I.qhm hy hq];exact hx⟩,⟨⟨x',?_⟩,?_,hne⟩,fun b hb=>?_⟩
  ·have e1:((i+1+1:Nat):Int)=((i+1:Nat):Int)+1:=by omega
   rw[e1];exact he'
  ·have h3:=qev.2.1
   rw[Za] at h3
   exact h3.at fun o q=>(sb.2 it (Xb hne)).trans q
  ·have hb':b<s.heap.objs.size:=by
    have e':b=e\/b=it:=by simpa using hb
    rcases e' with z|z
    ·rw[z];exact hel
    ·rw[z];exact hil
   rw[qc (Xl hb')]
   exact(hf b hb).1
 done:=by
  intro X hP hw hK hc i pins s σ H E I hf st hg
  subst hP hw hK
  obtain⟨⟨old,he⟩,hit,hne⟩:=st
  obtain⟨xs,hq,hx⟩:=hg
  obtain⟨its,rv,p,hz⟩:=I.list hq
  obtain⟨f0,f1,f2,f3,f4,f5⟩:=hf it (by simp)
  have hl:=rv.length
  have hT:s.TypeIs (.ref e) "enumerate":=⟨_,he,rfl⟩
  unfold pyNext
  refine Ja (Ws (X8 (name:=Str.ofString "__next__") hT F.slot_enumerate_next
   (X6 F.slot_enumerate_next hT F.entry_enumerate_next ?_ (F.args_enumerate_next_1 _))))
  show wpAny _ _ (field (.ref e) 2 >>= _) _ _ _
  refine Ja (Xo he rfl (x:=.ref it) rfl ?_)
  refine Ja (wpAny_nextOf_list_end (I.ok.hd hc) hit p.isList (by simp;omega) fun h' x eb hx'=>?_)
  obtain⟨o,ho,hc'⟩:=hx'
  refine Ja (Qh (T:= "StopIteration") (b:=true) ⟨o,ho,hc'⟩ isSubtype_stop ?_)
  exact Jg ⟨rfl,I.turned (t':=s.toks) (fun b o hb q=>eb b o hb q) f0 f1 f3 f4 f5⟩
 self:=fun A i s Q E st h=>let ⟨⟨_,he⟩,_⟩:=st;U8 he h
def qpv(K:PySem.W.Frag)(ta:TA)(tk:TE): TI:=fun σ H R=>ta σ H fun vs H1=>tk σ H1 fun y H2=>∃ a xs,vs=[.ref a]/\y = .int 1/\SqL K H2 a xs/\R (Ite1 K a) H2
theorem q47{X:Cx}{e kv:Expr}{ta:TA}{tk:TE}{p pos tpos kp:Pos}{elts:List Expr}{kk:Nat}(hg:Gl X "enumerate")(hm:X.mg "enumerate" = none)(ha:PA X [e] ta)(hkv:PE X kv tk)
  (hs:backTo pos (starEach [e] X.env)=(false,eval e X.env)::backTo pos (starEach [] X.env):=by rfl):
  PI X (.Tuple elts kk tpos) (.Call (.Name "enumerate" p) [e] [⟨some (Str.ofString "start"),kv,kp⟩] pos) (qpv X.K ta tk):=by
 intro pins s σ H R I h
 refine QE.Qvz (qee I hg hm boot_enumerate (QE.qxa (by rw[hs];rfl) rfl ?_)) (by rfl)
 have hA:=ha pos pins s σ H _ I h
 rw[hs] at hA ⊢
 refine evalArgs_kwB rfl (thn hA fun us s1 ⟨vs,H1,I1,r1,q1⟩=>kws_cons (thn (hkv pins s1 σ H1 _ I1 q1) fun kvv s2 ⟨y,H2,I2,ry,a,xs,ex,ey,hq,q⟩=>kws_nil ?_))
 subst ex ey
 cases r1 with
 | cons r rr=>
   cases rr
   cases r
   obtain⟨t,rfl⟩:=ry
   obtain⟨its,rv,p',hz⟩:=I2.list hq
   refine QE.qxb p'.isList fun h' he hit hsz hk=>U8 he ?_
   have I3:Inv X pins σ H2 { s2 with heap:=h' }:=I2.kept (t':=s2.toks) hk
   refine⟨s2.heap.objs.size+1,[s2.heap.objs.size+1,s2.heap.objs.size],_,_,H2,rfl,I3,q9t a (s2.heap.objs.size+1) s2.heap.objs.size,⟨⟨.none,he⟩,hit,Nat.succ_ne_self _⟩,fun b hb=>?_,q⟩
   have e':b=s2.heap.objs.size+1\/b=s2.heap.objs.size:=by simpa using hb
   have hle:s2.heap.objs.size<=b:=by
    rcases e' with z|z
    ·rw[z];exact Yj _ _
    ·rw[z];exact Jp _
   exact I2.qet hle (I2.hok.fresh hle)
theorem q2j{K:PySem.W.Frag}{tl:TA}{te:TE}{σ:St}{H:Hp}{R:It->Hp->Prop}(h:tl σ H fun vs H1=>te σ H1 fun y H2=>∃ a xs,vs=[.ref a]/\y = .int 1/\SqL K H2 a xs/\R (Ite1 K a) H2): qpv K tl te σ H R:=h
end L2.QP
namespace L2.QP
open PySem PySem.Spec PyProof.Rows
structure Ads where
 CP:Addr
 CD:Addr
 CM:Addr
 CB:Addr
 CC:Addr
 qa8:Addr
 qav:Addr
 qdn:Addr
 qb1:Addr
structure Qe8 where
 a:Addr
 dx:Addr
structure Qcv where
 t:Nat
 a:Addr
 vs:List (Nat×Int)
structure Ve where
 a:Addr
 dx:Addr
 aD:Addr
 aR:Addr
 aT:Addr
 ds:List Qe8
 rd:List Qcv
 tl:List (Nat×Nat)
structure ProA where
 a:Addr
 dx:Addr
 aS:Addr
structure Vh where
 a:Addr
 dx:Addr
 aP:Addr
 aM:Addr
 aQ:Addr
 ps:List ProA
 ms:List Ve
 qs:List Addr
abbrev Dev:=Vbemai.Device
abbrev Met:=Vbemai.Meter
abbrev Sta:=Vbemai.State
def eB(d:Dev): V:=match d.finish with
 |none=>.non
 |some e=>.int (e.1:Int)
def eV(d:Dev): V:=match d.finish with
 |none=>.non
 |some e=>.int e.2
def qax(d:Dev): List (Str×V):=[("start_boundary",.int (d.start:Int)),("start_value",.int d.value),("size",.int (10 ^ d.digits)),("factor",.int d.factor),("end_boundary",eB d),("end_value",eV d)]
def qdc(x:Met)(m:Ve): List (Str×V):=[("kind",.int (x.kind:Int)),("zone",.int (x.zone:Int)),("second",.int (x.zone2:Int)),("profile",.int (x.profile:Int)),("rate",.int x.rate),("dials",.ref m.aD),("readings",.ref m.aR),("told",.ref m.aT)]
def qa5(s:Sta)(b:Vh): List (Str×V):=[("profiles",.ref b.aP),("meters",.ref b.aM),("reading_count",.int (s.readings.length:Int)),("told_count",.int (s.assigns.length:Int)),("lock",.int (s.locked:Int)),("periods",.ref b.aQ)]
def rdK(rd:List Qcv): List (Key×V):=rd.map fun e=>(Sum.inl (e.t:Int),.ref e.a)
def vsK(vs:List (Nat×Int)): List (Key×V):=vs.map fun e=>(Sum.inl (e.1:Int),.int e.2)
def tlK(tl:List (Nat×Nat)): List (Key×V):=tl.map fun e=>(Sum.inl (e.1:Int),.int (e.2:Int))
def vI(l:List Int): List V:=l.map V.int
def vN(l:List Nat): List V:=l.map fun (n:Nat)=>V.int (n:Int)
abbrev Cell:=Addr×HO
def qa6(A:Ads)(d:Qe8)(y:Dev): Cell:=(d.a,.ins A.CD d.dx (qax y))
def qbk(e:Qcv): Cell:=(e.a,.dK (vsK e.vs))
def qap(A:Ads)(x:Met)(m:Ve): List Cell:=
 (m.a,.ins A.CM m.dx (qdc x m))::(m.aD,.lst (m.ds.map fun d=>.ref d.a))::(m.aR,.dK (rdK m.rd))::(m.aT,.dK (tlK m.tl))::(List.zipWith (qa6 A) m.ds x.devices++m.rd.map qbk)
def wts(w:List Nat): List Int:=w.map fun (n:Nat)=>(n:Int)
def qfh(A:Ads)(w:List Nat)(p:ProA): List Cell:=[(p.a,.ins A.CP p.dx [("sums",.ref p.aS)]),(p.aS,.lst (vI (QM.sums 0 (wts w))))]
def qai(ps:List Vbemai.Period)(qs:List Addr): List (List Key×V):=List.zipWith (fun p a=>([Sum.inl (p.from_:Int),Sum.inl (p.to_:Int)],V.ref a)) ps qs
def qbm(p:Vbemai.Period)(a:Addr): Cell:=(a,.lst (vI p.nets))
def qb3(A:Ads)(s:Sta)(b:Vh): List Cell:=
 (b.a,.ins A.CB b.dx (qa5 s b))::(b.aP,.lst (b.ps.map fun p=>.ref p.a))::(b.aM,.lst (b.ms.map fun m=>.ref m.a))::(b.aQ,.dT (qai s.periods b.qs)) ::
  ((List.zipWith (qfh A) ([1]::s.profiles) b.ps).flatten++((List.zipWith (qap A) s.meters b.ms).flatten++List.zipWith qbm s.periods b.qs))
def Has(H:Hp)(l:List Cell): Prop:=∀ p∈l,H p.1=some p.2
theorem Has.same{H H':Hp}{l:List Cell}(h:Has H l)(e:Qz H H'): Has H' l:=fun p hp=>e _ _ (h p hp)
structure Qct(s:Sta)(k:Nat)(x:Met)(m:Ve): Prop where
 dl:m.ds.length=x.devices.length
 rd:QM.Qcu (m.rd.map fun e=>(e.t,e.vs)) (Vbemai.readingsOf s k)
 tl:m.tl.Perm (QM.toldOf s k)
structure MAt(A:Ads)(H:Hp)(s:Sta)(k:Nat)(x:Met)(m:Ve): Prop where
 good:QM.Good s
 hx:Vbemai.meter? s k=some x
 rel:Qct s k x m
 has:Has H (qap A x m)
structure BAt(A:Ads)(H:Hp)(s:Sta)(b:Vh): Prop where
 good:QM.Good s
 has:Has H (qb3 A s b)
 nd:((qb3 A s b).map (·.1)).Nodup
 lp:b.ps.length=s.profiles.length+1
 lm:b.ms.length=s.meters.length
 lq:b.qs.length=s.periods.length
 mr:∀ (i:Nat) (x:Met) (m:Ve),s.meters[i]?=some x->b.ms[i]?=some m->Qct s (i+1) x m
section
variable {A:Ads} {H H':Hp} {s:Sta} {k:Nat} {x:Met} {m:Ve} {b:Vh}
theorem MAt.same(h:MAt A H s k x m)(e:Qz H H'): MAt A H' s k x m:=⟨h.good,h.hx,h.rel,h.has.same e⟩
theorem BAt.same(h:BAt A H s b)(e:Qz H H'): BAt A H' s b:=⟨h.good,h.has.same e,h.nd,h.lp,h.lm,h.lq,h.mr⟩
theorem MAt.o(h:MAt A H s k x m): H m.a=some (.ins A.CM m.dx (qdc x m)):=h.has (m.a,_) (by unfold qap;simp)
theorem MAt.oD(h:MAt A H s k x m): H m.aD=some (.lst (m.ds.map fun d=>.ref d.a)):=h.has (m.aD,_) (by unfold qap;simp)
theorem MAt.oR(h:MAt A H s k x m): H m.aR=some (.dK (rdK m.rd)):=h.has (m.aR,_) (by unfold qap;simp)
theorem MAt.oT(h:MAt A H s k x m): H m.aT=some (.dK (tlK m.tl)):=h.has (m.aT,_) (by unfold qap;simp)
theorem qg7{α β γ:Type}{f:α->β->γ}: ∀ {l:List α} {r:List β} {i:Nat} {a:α} {c:β},l[i]?=some a->r[i]?=some c->f a c∈List.zipWith f l r
 |[],_,_,_,_,h,_=>by simp at h
 |_::_,[],_,_,_,_,h=>by simp at h
 |y::l,z::r,0,a,c,h,h2=>by simp at h h2;subst h;subst h2;simp
 | y::l,z::r,i+1,a,c,h,h2=>by
   rw[W3]
   exact Jm _ (qg7 (i:=i) (by simpa using h) (by simpa using h2))
theorem MAt.qho(h:MAt A H s k x m){i:Nat}{d:Qe8}{y:Dev}(h1:m.ds[i]?=some d)(h2:x.devices[i]?=some y): H d.a=some (.ins A.CD d.dx (qax y)):=
 h.has (qa6 A d y) (by
  unfold qap
  have:=qg7 (f:=qa6 A) h1 h2
  simp[this])
theorem MAt.qgd(h:MAt A H s k x m){e:Qcv}(he:e∈m.rd): H e.a=some (.dK (vsK e.vs)):=
 h.has (qbk e) (by
  unfold qap
  have:qbk e∈m.rd.map qbk:=Jk.mpr ⟨e,he,rfl⟩
  simp[this])
theorem BAt.o(h:BAt A H s b): H b.a=some (.ins A.CB b.dx (qa5 s b)):=h.has (b.a,_) (by unfold qb3;simp)
theorem BAt.oP(h:BAt A H s b): H b.aP=some (.lst (b.ps.map fun p=>.ref p.a)):=h.has (b.aP,_) (by unfold qb3;simp)
theorem BAt.oM(h:BAt A H s b): H b.aM=some (.lst (b.ms.map fun m=>.ref m.a)):=h.has (b.aM,_) (by unfold qb3;simp)
theorem BAt.oQ(h:BAt A H s b): H b.aQ=some (.dT (qai s.periods b.qs)):=h.has (b.aQ,_) (by unfold qb3;simp)
theorem BAt.pro(h:BAt A H s b){i:Nat}{w:List Nat}{p:ProA}(h1:(([1]:List Nat)::s.profiles)[i]?=some w)(h2:b.ps[i]?=some p): Has H (qfh A w p):=fun c hc=>
 h.has c (by
  unfold qb3
  have:=qg7 (f:=qfh A) h1 h2
  have:c∈(List.zipWith (qfh A) ([1]::s.profiles) b.ps).flatten:=List.mem_flatten.mpr ⟨_,this,hc⟩
  simp only[Jf,J4]
  exact .inr (.inr (.inr (.inr (.inl this)))))
theorem BAt.met(h:BAt A H s b){i:Nat}{x:Met}{m:Ve}(h1:s.meters[i]?=some x)(h2:b.ms[i]?=some m): MAt A H s (i+1) x m:=
 ⟨h.good,QM.meter?_at h1,h.mr i x m h1 h2,fun c hc=>h.has c (by
  unfold qb3
  have:=qg7 (f:=qap A) h1 h2
  have:c∈(List.zipWith (qap A) s.meters b.ms).flatten:=List.mem_flatten.mpr ⟨_,this,hc⟩
  simp only[Jf,J4]
  exact .inr (.inr (.inr (.inr (.inr (.inl this))))))⟩
theorem BAt.net(h:BAt A H s b){i:Nat}{p:Vbemai.Period}{a:Addr}(h1:s.periods[i]?=some p)(h2:b.qs[i]?=some a): H a=some (.lst (vI p.nets)):=
 h.has (qbm p a) (by
  unfold qb3
  have:=qg7 (f:=qbm) h1 h2
  simp only[Jf,J4]
  exact .inr (.inr (.inr (.inr (.inr (.inr this))))))
end
theorem qj9{ns:List Int}{i:Nat}{x:V}(h:(vI ns)[i]?=some x): ∃ z,ns[i]?=some z/\x = .int z:=by
 unfold vI at h
 rw[Jt] at h
 cases e:ns[i]? with
 |none=>rw[e] at h;cases h
 |some z=>rw[e] at h;exact⟨z,rfl,(Jj h).symm⟩
theorem qcp{ns:List Int}{i:Nat}{z:Int}(h:ns[i]?=some z): (vI ns)[i]?=some (.int z):=by unfold vI;rw[Jt,h];rfl
theorem qvk(a b:List Int): vI (a++b)=vI a++vI b:=Jv
theorem qif{ns:List Nat}{i:Nat}{x:V}(h:(vN ns)[i]?=some x): ∃ z:Nat,ns[i]?=some z/\x = .int (z:Int):=by
 unfold vN at h
 rw[Jt] at h
 cases e:ns[i]? with
 |none=>rw[e] at h;cases h
 |some z=>rw[e] at h;exact⟨z,rfl,(Jj h).symm⟩
theorem qg0{ns:List Nat}{i:Nat}{z:Nat}(h:ns[i]?=some z): (vN ns)[i]?=some (.int (z:Int)):=by unfold vN;rw[Jt,h];rfl
theorem qas(ns:List Int): (vI ns).length=ns.length:=Jd ..
theorem qcc(ns:List Nat): (vN ns).length=ns.length:=Jd ..
theorem qim{α:Type}{xs:List α}{v:α}(h:xs.getLast?=some v): atI xs (-1)=some v:=by
 obtain⟨pre,rfl⟩:=QM.qh9 h
 exact qwd pre v
theorem qkl{ns:List Int}{z:Int}(h:ns.getLast?=some z): atI (vI ns) (-1)=some (.int z):=qim (by unfold vI;rw[Y5,h];rfl)
theorem qkm{ns:List Nat}{z:Nat}(h:ns.getLast?=some z): atI (vN ns) (-1)=some (.int (z:Int)):=qim (by unfold vN;rw[Y5,h];rfl)
theorem qwc{α:Type}{xs:List α}{v:α}(h:xs.head?=some v): atI xs 0=some v:=by
 cases xs with
 |nil=>cases h
 |cons a r=>exact ye (j:=0) (by simpa using h)
theorem qkk{ns:List Nat}{z:Nat}(h:ns.head?=some z): atI (vN ns) 0=some (.int (z:Int)):=qwc (by unfold vN;rw[List.head?_map,h];rfl)
structure CAt(A:Ads)(H:Hp)(s:Sta)(k:Nat)(x:Met)(c:Addr): Prop where
 good:QM.Good s
 hx:Vbemai.meter? s k=some x
 ex:∃ dx aK aA aO p pdx aS,H c=some (.ins A.CC dx [("knots",.ref aK),("amounts",.ref aA),("totals",.ref aO),("profile",.ref p),("tail",.int (Vbemai.rateOf x)),("removed",.bl (Vbemai.isOut x))]) /\
  H aK=some (.lst (vN (QM.kn s k)))/\H aA=some (.lst (vI (QM.am s k)))/\H aO=some (.lst (vI (QM.sums 0 (QM.am s k)))) /\
  H p=some (.ins A.CP pdx [("sums",.ref aS)])/\H aS=some (.lst (vI (QM.sums 0 (wts (QM.qa2 (Vbemai.profileOf s x))))))
theorem CAt.same{A:Ads}{H H':Hp}{s:Sta}{k:Nat}{x:Met}{c:Addr}(h:CAt A H s k x c)(e:Qz H H'): CAt A H' s k x c:=by
 obtain⟨g,hx,dx,aK,aA,aO,p,pdx,aS,h1,h2,h3,h4,h5,h6⟩:=h
 exact⟨g,hx,dx,aK,aA,aO,p,pdx,aS,e _ _ h1,e _ _ h2,e _ _ h3,e _ _ h4,e _ _ h5,e _ _ h6⟩
def Qeq(H:Hp)(l:Addr)(xs:List (List V)): Prop:=∃ as:List Addr,H l=some (.lst (as.map V.ref))/\as.length=xs.length/\∀ (i:Nat) (a:Addr) (x:List V),as[i]?=some a->xs[i]?=some x->H a=some (.tup x)
theorem Qz.upd{H H1:Hp}{p:Addr}{o:HO}(e:Qz H H1)(h:H p=none): Qz H (upd H1 p o):=fun b u q=>by
 rw[qc (k8 q h)];exact e b u q
theorem Qz.new{H:Hp}{p:Addr}{o:HO}(h:H p=none): Qz H (L2.upd H p o):=Qz.upd (Qz.refl H) h
end L2.QP
namespace L2.QP
open PySem PySem.Spec PyProof.Rows
section
variable {X:Cx} {K:PySem.W.Frag} {D:Ends} {σ:St} {H:Hp} {Q:VK} {QT:Bool->Hp->Prop} {QA:List V->Hp->Prop} {QG:St->Hp->Prop} {t u:TS} {te ta tb:TE} {tt tt':TT} {tl:TA} {g:TG} {v:V} {f:Str}
theorem i_seq(h:t { D with nx:=u D } σ H): qb6 t u D σ H:=h
theorem i_asg(h:te σ H fun x H1=>g x σ H1 D.nx): qd1 te g D σ H:=h
theorem qly(h:te σ H D.rt): qbz te D σ H:=h
theorem i_drop(h:te σ H fun _ H1=>D.nx σ H1): qj3 te D σ H:=h
theorem i_ifs(h:tt σ H fun b H1=>if b=true then t D σ H1 else u D σ H1): qem tt t u D σ H:=h
theorem i_next(h:D.nx σ H): qen D σ H:=h
theorem i_brk(h:D.bk σ H): qu2 D σ H:=h
theorem i_var{i:Nat}(e:σ[i]?=some (some v))(h:Q v H): vd i σ H Q:=⟨v,e,h⟩
theorem i_c(h:Q v H): tC v σ H Q:=h
theorem i_op{r:R2}(h:ta σ H fun x H1=>tb σ H1 fun y H2=>r x y H2 Q): tOp r ta tb σ H Q:=h
theorem i_un{r:V->Hp->VK->Prop}(h:ta σ H fun x H1=>r x H1 Q): tUn r ta σ H Q:=h
def rFld(K:PySem.W.Frag)(f:Str)(x:V)(H:Hp)(Q:VK): Prop:=∃ a C dx fs v,x = .ref a/\H a=some (.ins C dx fs)/\Cls K C/\Vz K C f/\fs.lookup f=some v/\Q v H
theorem i_fld(h:ta σ H fun x H1=>rFld K f x H1 Q): qe6 K ta f σ H Q:=h
theorem qfi{p C dx:Addr}{fs:List (Str×V)}(e:H p=some (.ins C dx fs))(c:Cls K C)(n:Vz K C f)(l:fs.lookup f=some v)(q:Q v H): rFld K f (.ref p) H Q:=⟨p,C,dx,fs,v,rfl,e,c,n,l,q⟩
theorem i_fn{sp:Sp}(h:tl σ H fun vs H1=>sp vs H1 Q E0): tFn sp tl σ H Q:=h
theorem i_mk{sp:Sp}{C:Addr}(h:tl σ H fun vs H1=>∀ x dx,H1 x=none->H1 dx=none->dx≠x->sp (.ref x::vs) (upd (upd H1 dx (.own x)) x (.ins C dx [])) (fun v H2=>v = .non/\Q (.ref x) H2) E0): tMk C sp tl σ H Q:=h
def rLst(xs:List V)(H:Hp)(Q:VK): Prop:=xs.length<=sizeLine/\∀ p,H p=none->Q (.ref p) (upd H p (.lst xs))
def rTup(xs:List V)(H:Hp)(Q:VK): Prop:=xs.length<=sizeLine/\∀ p,H p=none->Q (.ref p) (upd H p (.tup xs))
theorem i_lst(h:tl σ H fun xs H1=>rLst xs H1 Q): tLst tl σ H Q:=h
theorem i_tup(h:tl σ H fun xs H1=>rTup xs H1 Q): tTup tl σ H Q:=h
theorem r_lst{xs:List V}(z:xs.length<=sizeLine)(h:∀ p,H p=none->Q (.ref p) (upd H p (.lst xs))): rLst xs H Q:=⟨z,h⟩
theorem r_tup{xs:List V}(z:xs.length<=sizeLine)(h:∀ p,H p=none->Q (.ref p) (upd H p (.tup xs))): rTup xs H Q:=⟨z,h⟩
theorem i_nil(h:QA [] H): qan σ H QA:=h
theorem i_cons(h:te σ H fun x H1=>tl σ H1 fun xs H2=>QA (x::xs) H2): vp te tl σ H QA:=h
def rB(x:V)(H:Hp)(Q:Bool->Hp->Prop): Prop:=∃ k,x = .bl k/\Q k H
theorem i_test(h:te σ H fun x H1=>rB x H1 QT): qdk te σ H QT:=h
theorem i_tB(h:te σ H fun x H1=>rB x H1 QT): tB te σ H QT:=h
theorem r_b{k:Bool}(h:QT k H): rB (.bl k) H QT:=⟨k,rfl,h⟩
theorem i_and(h:tt σ H fun c H1=>if c=true then tt' σ H1 QT else QT false H1): tAnd tt tt' σ H QT:=h
theorem i_or(h:tt σ H fun c H1=>if c=true then QT true H1 else tt' σ H1 QT): tOr tt tt' σ H QT:=h
theorem i_not(h:tt σ H fun c H1=>QT (!c) H1): tNot tt σ H QT:=h
def rAV(tb:TE)(σ:St)(Q:VK)(x:V)(H1:Hp): Prop:=∃ c,x = .bl c/\if c=true then tb σ H1 Q else Q (.bl false) H1
theorem i_andV(h:ta σ H fun x H1=>rAV tb σ Q x H1): tAndV ta tb σ H Q:=h
theorem r_av{k:Bool}(h:if k=true then tb σ H Q else Q (.bl false) H): rAV tb σ Q (.bl k) H:=⟨k,rfl,h⟩
def rNV(Q:VK)(x:V)(H1:Hp): Prop:=∃ c,x = .bl c/\Q (.bl (!c)) H1
theorem i_notV(h:ta σ H fun x H1=>rNV Q x H1): tNotV ta σ H Q:=h
theorem r_nv{k:Bool}(h:Q (.bl (!k)) H): rNV Q (.bl k) H:=⟨k,rfl,h⟩
theorem i_if(h:tt σ H fun c H1=>if c=true then ta σ H1 Q else tb σ H1 Q): tIf tt ta tb σ H Q:=h
theorem i_name{i:Nat}(h:QG (σ.set i (some v)) H): qb4 i v σ H QG:=h
theorem i_cb{r:List V->Hp->VK->Prop}(h:tl σ H fun vs H1=>r vs H1 Q): tCB r tl σ H Q:=h
theorem r_I0{gg:Int->Int->V}{i j:Int}(h:Q (gg i j) H): rI0 gg (.int i) (.int j) H Q:=⟨i,j,rfl,rfl,h⟩
theorem r_I{C:Int->Int->Prop}{gg:Int->Int->V}{i j:Int}(c:C i j)(h:Q (gg i j) H): rI C gg (.int i) (.int j) H Q:=⟨i,j,rfl,rfl,c,h⟩
theorem r_U{gg:Int->V}{i:Int}(h:Q (gg i) H): rU gg (.int i) H Q:=⟨i,rfl,h⟩
theorem qo4{i j:Int}: decide (V.int i=V.int j)=decide (i=j):=by
 by_cases h:i=j
 ·subst h;simp
 ·rw[J7 h,J7 fun q=>h (V.int.inj q)]
theorem r_eqI{i j:Int}(h:Q (.bl (decide (i=j))) H): rEq (.int i) (.int j) H Q:=⟨rfl,by rw[qo4];exact h⟩
theorem r_neI{i j:Int}(h:Q (.bl (!decide (i=j))) H): rNe (.int i) (.int j) H Q:=⟨rfl,by rw[qo4];exact h⟩
theorem qac{p:Addr}{xs:List V}{i:Int}(e:SqL K H p xs)(a:atI xs i=some v)(h:Q v H): qdz K (.ref p) (.int i) H Q:=⟨p,xs,i,v,rfl,rfl,e,a,h⟩
theorem qc5{p:Addr}{xs:List V}{i:Int}(e:SqT K H p xs)(a:atI xs i=some v)(h:Q v H): rIxT K (.ref p) (.int i) H Q:=⟨p,xs,i,v,rfl,rfl,e,a,h⟩
end
theorem ifD{c A B:Prop}[Decidable c](h1:c->A)(h2:¬ c->B): if decide c=true then A else B:=by
 by_cases h:c
 ·rw[Je (Xm h)];exact h1 h
 ·rw[Jc (by rw[J7 h];exact Jr)];exact h2 h
theorem ifN{c A B:Prop}[Decidable c](h1:¬ c->A)(h2:c->B): if (!decide c)=true then A else B:=by
 by_cases h:c
 ·rw[Xm h];exact qam (h2 h)
 ·rw[J7 h];exact qag (h1 h)
theorem ifB{b:Bool}{A B:Prop}(h1:b=true->A)(h2:b=false->B): if b=true then A else B:=by
 cases b
 ·exact qam (h2 rfl)
 ·exact qag (h1 rfl)
end L2.QP
namespace L2.QP
open PySem PySem.Spec PyProof.Rows
section
variable {X:Cx} {K:PySem.W.Frag} {D:Ends} {σ:St} {H:Hp} {Q:VK} {QT:Bool->Hp->Prop} {QA:List V->Hp->Prop} {QG:St->Hp->Prop} {t u:TS} {te ta tb tc:TE} {tt tt':TT} {tl:TA} {g:TG} {v:V} {f:Str}
def rFor(g:TG)(tb:TS)(D:Ends)(σ:St)(J:It)(H1:Hp): Prop:=∃ W:Nat->Nat->St->Hp->Prop,(∃ m,W 0 m σ H1)/\∀ i m σ H,W i m σ H ->
 (J.stop i H/\D.nx σ H)\/(J.go i H/\∃ N:St->Hp->Prop,(∀ σ' H',N σ' H'->∃ m',m' < m/\W (i+1) m' σ' H')/\∀ x H',J.yld i H x H'->g x σ H' fun σ2 H2=>tb { D with nx:=N,ct:=N,bk:=D.nx } σ2 H2)
theorem i_for{wi:TI}{ts:TS}(h:wi σ H fun J H1=>rFor g ts D σ J H1): tFor wi g ts D σ H:=h
theorem qm0{ts:TS}{J:It}(n:Nat)(Pv:Nat->St->Hp->Prop)(h0:Pv 0 σ H)(hgo:∀ i σ H,i<n->Pv i σ H->J.go i H)(hst:∀ σ H,Pv n σ H->J.stop n H/\D.nx σ H)
  (hs:∀ i σ H x H',i<n->Pv i σ H->J.yld i H x H'->g x σ H' fun σ2 H2=>ts { D with nx:=Pv (i+1),ct:=Pv (i+1),bk:=D.nx } σ2 H2): rFor g ts D σ J H:=by
 refine⟨fun i m σ H=>m=n-i/\i<=n/\Pv i σ H,⟨n,by simp,X3 _,h0⟩,?_⟩
 rintro i m σ H ⟨rfl,hi,p⟩
 by_cases hlt:i<n
 ·exact .inr ⟨hgo i σ H hlt p,Pv (i+1),fun σ' H' p'=>⟨n-(i+1),by omega,rfl,hlt,p'⟩,fun x H' y=>hs i σ H x H' hlt p y⟩
 ·have e:i=n:=by omega
  subst e
  exact .inl (hst σ H p)
theorem qel{ts:TS}{a:Addr}(xs:List V)(Pv:Nat->St->Hp->Prop)(h0:Pv 0 σ H)(hl:∀ i σ H,Pv i σ H->SqL K H a xs)(hst:∀ σ H,Pv xs.length σ H->D.nx σ H)
  (hs:∀ i σ H x,xs[i]?=some x->Pv i σ H->g x σ H fun σ2 H2=>ts { D with nx:=Pv (i+1),ct:=Pv (i+1),bk:=D.nx } σ2 H2): rFor g ts D σ (Itl K a) H:=
 qm0 xs.length Pv h0 (fun i σ H hi p=>⟨xs,xs[i],hl i σ H p,by simp[hi]⟩) (fun σ H p=>⟨⟨xs,hl _ σ H p,Jp _⟩,hst σ H p⟩)
  fun i σ H x H' hi p y=>by
   obtain⟨rfl,y⟩:=y
   exact hs i σ _ x (y xs (hl i σ _ p)) p
def rRng1(R:It->Hp->Prop)(vs:List V)(H1:Hp): Prop:=∃ j:Int,vs=[.int j]/\-(2 ^ 62)<=j/\j<2 ^ 62/\R (Itr 0 j.toNat) H1
theorem i_rng1{R:It->Hp->Prop}(h:tl σ H fun vs H1=>rRng1 R vs H1): iRng1 tl σ H R:=h
theorem r_rng1{R:It->Hp->Prop}{n:Nat}(hn:n<2 ^ 62)(h:R (Itr 0 n) H): rRng1 R [.int (n:Int)] H:=⟨n,rfl,by omega,by omega,by rw[J1];exact h⟩
theorem r_forR{ts:TS}{lo:Int}(n:Nat)(Pv:Nat->St->Hp->Prop)(h0:Pv 0 σ H)(hst:∀ σ H,Pv n σ H->D.nx σ H)
  (hs:∀ i σ H,i<n->Pv i σ H->g (.int (lo+i)) σ H fun σ2 H2=>ts { D with nx:=Pv (i+1),ct:=Pv (i+1),bk:=D.nx } σ2 H2): rFor g ts D σ (Itr lo n) H:=
 qm0 n Pv h0 (fun i σ H hi p=>hi) (fun σ H p=>⟨Jp _,hst σ H p⟩) fun i σ H x H' hi p y=>by
  obtain⟨rfl,rfl⟩:=y
  exact hs i σ _ hi p
def rIL(K:PySem.W.Frag)(R:It->Hp->Prop)(x:V)(H1:Hp): Prop:=∃ a,x = .ref a/\(∃ xs,SqL K H1 a xs)/\R (Itl K a) H1
theorem q2m{R:It->Hp->Prop}(h:te σ H fun x H1=>rIL K R x H1): iList K te σ H R:=h
theorem r_il{R:It->Hp->Prop}{a:Addr}{xs:List V}(e:SqL K H a xs)(h:R (Itl K a) H): rIL K R (.ref a) H:=⟨a,rfl,⟨xs,e⟩,h⟩
def rIT(K:PySem.W.Frag)(R:It->Hp->Prop)(x:V)(H1:Hp): Prop:=∃ a,x = .ref a/\(∃ xs,SqT K H1 a xs)/\R (Itt K a) H1
theorem i_itup{R:It->Hp->Prop}(h:te σ H fun x H1=>rIT K R x H1): iTup K te σ H R:=h
theorem r_it{R:It->Hp->Prop}{a:Addr}{xs:List V}(e:SqT K H a xs)(h:R (Itt K a) H): rIT K R (.ref a) H:=⟨a,rfl,⟨xs,e⟩,h⟩
def rIE(K:PySem.W.Frag)(R:It->Hp->Prop)(vs:List V)(H1:Hp): Prop:=∃ a xs,vs=[.ref a]/\SqL K H1 a xs/\R (Ite K a) H1
theorem q2i{R:It->Hp->Prop}(h:tl σ H fun vs H1=>rIE K R vs H1): iEnum K tl σ H R:=h
theorem r_ie{R:It->Hp->Prop}{a:Addr}{xs:List V}(e:SqL K H a xs)(h:R (Ite K a) H): rIE K R [.ref a] H:=⟨a,xs,rfl,e,h⟩
def rIZ(K:PySem.W.Frag)(R:It->Hp->Prop)(vs:List V)(H1:Hp): Prop:=∃ a b xs ys,vs=[.ref a,.ref b]/\SqL K H1 a xs/\SqL K H1 b ys/\R (Itz K a b) H1
theorem i_izip{R:It->Hp->Prop}(h:tl σ H fun vs H1=>rIZ K R vs H1): iZip K tl σ H R:=h
theorem r_iz{R:It->Hp->Prop}{a b:Addr}{xs ys:List V}(e:SqL K H a xs)(e2:SqL K H b ys)(h:R (Itz K a b) H): rIZ K R [.ref a,.ref b] H:=⟨a,b,xs,ys,rfl,e,e2,h⟩
def rIK(R:It->Hp->Prop)(x:V)(H1:Hp): Prop:=∃ d o,x = .ref d/\((∃ kvs,H1 d=some (.frz o (.dK kvs))/\R (Itk d o kvs) H1)\/∃ kvs,H1 d=some (.frz o (.dT kvs))/\R (Itkt d o kvs) H1)
theorem q2l{R:It->Hp->Prop}(h:te σ H fun x H1=>rIK R x H1): iKeys te σ H R:=h
theorem r_ik{R:It->Hp->Prop}{d:Addr}{o:Obj}{kvs:List (Key×V)}(e:H d=some (.frz o (.dK kvs)))(h:R (Itk d o kvs) H): rIK R (.ref d) H:=⟨d,o,rfl,.inl ⟨kvs,e,h⟩⟩
def rII(R:It->Hp->Prop)(x:V)(H1:Hp): Prop:=∃ d o kvs,x = .ref d/\H1 d=some (.frz o (.dK kvs))/\R (Iti d o kvs) H1
theorem q2k{R:It->Hp->Prop}(h:te σ H fun x H1=>rII R x H1): qpw te σ H R:=h
theorem r_ii{R:It->Hp->Prop}{d:Addr}{o:Obj}{kvs:List (Key×V)}(e:H d=some (.frz o (.dK kvs)))(h:R (Iti d o kvs) H): rII R (.ref d) H:=⟨d,o,kvs,rfl,e,h⟩
def rLc(g:TG)(tt:TT)(te:TE)(vs:List Nat)(σ:St)(Q:VK)(J:It)(H1:Hp): Prop:=∀ D,H1 D=none->∃ W:Nat->Nat->Hp->Prop,(∃ m,W 0 m (upd H1 D (.lst [])))/\∀ i m H,W i m H ->
 (J.stop i H/\Q (.ref D) H)\/(J.go i H/\∃ Nx:Hp->Prop,(∀ H',Nx H'->∃ m',m' < m/\W (i+1) m' H')/\∀ x H',J.yld i H x H'->g x (wipe σ vs) H' fun σ2 H2=>wipe σ2 vs=wipe σ vs/\tt σ2 H2 fun b H3=>
  if b=true then te σ2 H3 fun y H4=>∃ acc,H4 D=some (.lst acc)/\acc.length<sizeLine/\Nx (upd H4 D (.lst (acc++[y]))) else Nx H3)
theorem i_lc{wi:TI}{vs:List Nat}(h:wi σ H fun J H1=>rLc g tt te vs σ Q J H1): tLc wi g tt te vs σ H Q:=h
structure LcP(H1:Hp)(D:Addr)(acc:Nat->List V)(i:Nat)(H:Hp): Prop where
 same:Qz H1 H
 at_:H D=some (.lst (acc i))
 len:(acc i).length<=i
 new:H1 D=none
def Qii(H1:Hp)(D:Addr)(acc:Nat->List V)(i:Nat)(H4:Hp)(y:V): Prop:=∃ ac,H4 D=some (.lst ac)/\ac.length<sizeLine/\LcP H1 D acc (i+1) (upd H4 D (.lst (ac++[y])))
theorem LcP.yes{H1 H H4:Hp}{D:Addr}{acc:Nat->List V}{i:Nat}{y:V}(h:LcP H1 D acc i H)(hi:i<sizeLine)(s:Qz H H4)(e:acc (i+1)=acc i++[y]): Qii H1 D acc i H4 y:=by
 refine⟨acc i,s _ _ h.at_,Wu h.len hi,Qz.upd (h.same.trans s) h.new,by rw[zc,e],?_,h.new⟩
 rw[e,Jx]
 exact Nat.succ_le_succ h.len
theorem LcP.no{H1 H H4:Hp}{D:Addr}{acc:Nat->List V}{i:Nat}(h:LcP H1 D acc i H)(s:Qz H H4)(e:acc (i+1)=acc i): LcP H1 D acc (i+1) H4:=
 ⟨h.same.trans s,by rw[e];exact s _ _ h.at_,by rw[e];exact Nat.le_succ_of_le h.len,h.new⟩
theorem qe4{vs:List Nat}{J:It}(n:Nat)(acc:Nat->List V)(acc0:acc 0=[])(hgo:∀ i H',i<n->Qz H H'->J.go i H')(hst:∀ H',Qz H H'->J.stop n H')
  (hs:∀ D i H1 x H',i<n->LcP H D acc i H1->J.yld i H1 x H'->g x (wipe σ vs) H' fun σ2 H2=>wipe σ2 vs=wipe σ vs/\tt σ2 H2 fun b H3=>
   if b=true then te σ2 H3 fun y H4=>Qii H D acc i H4 y else LcP H D acc (i+1) H3)
  (hd:∀ D H',H D=none->Qz H H'->H' D=some (.lst (acc n))->Q (.ref D) H'): rLc g tt te vs σ Q J H:=by
 intro D hD
 refine⟨fun i m H1=>m=n-i/\i<=n/\LcP H D acc i H1,⟨n,by simp,X3 _,Qz.new hD,by rw[zc,acc0],by rw[acc0];exact Jp _,hD⟩,?_⟩
 rintro i m H1 ⟨rfl,hi,p⟩
 by_cases hlt:i<n
 ·exact .inr ⟨hgo i H1 hlt p.same,LcP H D acc (i+1),fun H' p'=>⟨n-(i+1),by omega,rfl,hlt,p'⟩,fun x H' y=>hs D i H1 x H' hlt p y⟩
 ·have e:i=n:=by omega
  subst e
  exact .inl ⟨hst H1 p.same,hd D H1 hD p.same p.at_⟩
theorem qd0{vs:List Nat}{a:Addr}{xs:List V}(e:SqL K H a xs)(acc:Nat->List V)(acc0:acc 0=[])
  (hs:∀ D i H1 x,xs[i]?=some x->LcP H D acc i H1->g x (wipe σ vs) H1 fun σ2 H2=>wipe σ2 vs=wipe σ vs/\tt σ2 H2 fun b H3=>
   if b=true then te σ2 H3 fun y H4=>Qii H D acc i H4 y else LcP H D acc (i+1) H3)
  (hd:∀ D H',H D=none->Qz H H'->H' D=some (.lst (acc xs.length))->Q (.ref D) H'): rLc g tt te vs σ Q (Itl K a) H:=
 qe4 xs.length acc acc0 (fun i H' hi s=>⟨xs,xs[i],s.seq e,by simp[hi]⟩) (fun H' s=>⟨xs,s.seq e,Jp _⟩)
  (fun D i H1 x H' hi p y=>by
   obtain⟨rfl,y⟩:=y
   exact hs D i _ x (y xs (p.same.seq e)) p) hd
def rBM(K:PySem.W.Frag)(T:String)(r:V->List V->Hp->VK->Prop)(t:TA)(σ:St)(Q:VK)(x:V)(H1:Hp): Prop:=tyV K T x H1/\t σ H1 fun xs H2=>r x xs H2 Q
theorem i_bm{T:String}{r:V->List V->Hp->VK->Prop}(h:te σ H fun x H1=>rBM K T r tl σ Q x H1): tBM K T r te tl σ H Q:=h
theorem r_bmL{r:V->List V->Hp->VK->Prop}{p:Addr}{xs:List V}(e:SqL K H p xs)(h:tl σ H fun ys H2=>r (.ref p) ys H2 Q): rBM K "list" r tl σ Q (.ref p) H:=⟨.inl ⟨rfl,xs,e⟩,h⟩
theorem qco{l:Addr}{xs:List V}{y:V}(e:H l=some (.lst xs))(z:xs.length<sizeLine)(h:Q .non (upd H l (.lst (xs++[y])))): qmy (.ref l) [y] H Q:=⟨l,xs,y,rfl,rfl,e,z,h⟩
theorem qjk{l b:Addr}{xs zs:List V}(e:H l=some (.lst xs))(e2:H b=some (.lst zs))(z:xs.length+zs.length<=sizeLine)(h:Q .non (upd H l (.lst (xs++zs)))): qmz (.ref l) [.ref b] H Q:=⟨l,b,xs,zs,rfl,rfl,e,e2,z,h⟩
theorem qhx{l b:Addr}{xs zs:List V}(e:H l=some (.lst xs))(e2:H b=some (.lst zs))(z:xs.length+zs.length<=sizeLine)(h:∀ p,H p=none->Q (.ref p) (upd H p (.lst (xs++zs)))): rCat (.ref l) (.ref b) H Q:=⟨l,b,xs,zs,rfl,rfl,e,e2,z,h⟩
theorem qau{p:Addr}{n:Nat}(e:Qfu K H p n)(h:Q (.int (n:Nat)) H): rLen K [.ref p] H Q:=⟨p,n,rfl,e,h⟩
theorem qbh{p:Addr}{xs:List V}(e:SqL K H p xs): Qfu K H p xs.length:=.inl ⟨xs,.inl e,rfl⟩
theorem lenT{p:Addr}{xs:List V}(e:SqT K H p xs): Qfu K H p xs.length:=.inl ⟨xs,.inr e,rfl⟩
theorem lenK{p:Addr}{kvs:List (Key×V)}(e:H p=some (.dK kvs)): Qfu K H p kvs.length:=.inr (.inl ⟨kvs,e,rfl⟩)
theorem lenTT{p:Addr}{kvs:List (List Key×V)}(e:H p=some (.dT kvs)): Qfu K H p kvs.length:=.inr (.inr ⟨kvs,e,rfl⟩)
def rDG(x y:V)(H2:Hp)(Q:VK): Prop:=∃ a v,x = .ref a/\Qad H2 a y (some v)/\Q v H2
theorem i_dget(h:ta σ H fun x H1=>tb σ H1 fun y H2=>rDG x y H2 Q): qd2 ta tb σ H Q:=h
theorem ku{a:Addr}{kvs:List (Key×V)}{k:Str}(e:H a=some (.dK kvs))(l:kj kvs (Sum.inr k)=some v)(h:Q v H): rDG (.ref a) (.str k) H Q:=⟨a,v,rfl,by rw[<- l];exact Qad.k (k:=Sum.inr k) e,h⟩
theorem qhy{a:Addr}{kvs:List (Key×V)}{k:Int}(e:H a=some (.dK kvs))(l:kj kvs (Sum.inl k)=some v)(h:Q v H): rDG (.ref a) (.int k) H Q:=⟨a,v,rfl,by rw[<- l];exact Qad.k (k:=Sum.inl k) e,h⟩
def rDI(y x:V)(H2:Hp)(Q:VK): Prop:=∃ a o,x = .ref a/\Qad H2 a y o/\Q (.bl o.isSome) H2
def rDN(y x:V)(H2:Hp)(Q:VK): Prop:=∃ a o,x = .ref a/\Qad H2 a y o/\Q (.bl (!o.isSome)) H2
theorem i_din(h:ta σ H fun y H1=>tb σ H1 fun x H2=>rDI y x H2 Q): tDIn ta tb σ H Q:=h
theorem q2f(h:ta σ H fun y H1=>tb σ H1 fun x H2=>rDN y x H2 Q): qu8 ta tb σ H Q:=h
theorem qgm{a:Addr}{kvs:List (Key×V)}{k:Str}(e:H a=some (.dK kvs))(h:Q (.bl (kj kvs (Sum.inr k)).isSome) H): rDI (.str k) (.ref a) H Q:=⟨a,_,rfl,Qad.k (k:=Sum.inr k) e,h⟩
theorem r_diI{a:Addr}{kvs:List (Key×V)}{k:Int}(e:H a=some (.dK kvs))(h:Q (.bl (kj kvs (Sum.inl k)).isSome) H): rDI (.int k) (.ref a) H Q:=⟨a,_,rfl,Qad.k (k:=Sum.inl k) e,h⟩
theorem r_dnI{a:Addr}{kvs:List (Key×V)}{k:Int}(e:H a=some (.dK kvs))(h:Q (.bl (!(kj kvs (Sum.inl k)).isSome)) H): rDN (.int k) (.ref a) H Q:=⟨a,_,rfl,Qad.k (k:=Sum.inl k) e,h⟩
theorem r_dnT{a b:Addr}{kvs:List (List Key×V)}{k:List Key}(e:H a=some (.dT kvs))(eb:H b=some (.tup (k.map kV)))(h:Q (.bl (!(kj kvs k).isSome)) H): rDN (.ref b) (.ref a) H Q:=⟨a,_,rfl,Qad.t e eb,h⟩
def rD1(ty:TE)(σ:St)(Q:VK)(x:V)(H1:Hp): Prop:=∃ a,x = .ref a/\IsD H1 a/\ty σ H1 fun y H2=>∃ o,Qad H2 a y o/\Q (o.getD .non) H2
def rD1b(a:Addr)(y:V)(H2:Hp)(Q:VK): Prop:=∃ o,Qad H2 a y o/\Q (o.getD .non) H2
theorem q2b(h:ta σ H fun x H1=>rD1 tb σ Q x H1): qu5 ta tb σ H Q:=h
theorem r_d1T{a:Addr}{kvs:List (List Key×V)}(e:H a=some (.dT kvs))(h:tb σ H fun y H2=>rD1b a y H2 Q): rD1 tb σ Q (.ref a) H:=⟨a,rfl,.inr ⟨kvs,.inl e⟩,h⟩
theorem r_d1Tb{a b:Addr}{kvs:List (List Key×V)}{k:List Key}(e:H a=some (.dT kvs))(eb:H b=some (.tup (k.map kV)))(h:Q ((kj kvs k).getD .non) H): rD1b a (.ref b) H Q:=⟨_,Qad.t e eb,h⟩
def rD2(ty tx:TE)(σ:St)(Q:VK)(x:V)(H1:Hp): Prop:=∃ a,x = .ref a/\IsD H1 a/\ty σ H1 fun y H2=>tx σ H2 fun z H3=>∃ o,Qad H3 a y o/\Q (o.getD z) H3
def qgl(a:Addr)(y z:V)(H3:Hp)(Q:VK): Prop:=∃ o,Qad H3 a y o/\Q (o.getD z) H3
theorem q2c(h:ta σ H fun x H1=>rD2 tb tc σ Q x H1): qnq ta tb tc σ H Q:=h
theorem r_d2K{a:Addr}{kvs:List (Key×V)}(e:H a=some (.dK kvs))(h:tb σ H fun y H2=>tc σ H2 fun z H3=>qgl a y z H3 Q): rD2 tb tc σ Q (.ref a) H:=⟨a,rfl,.inl ⟨kvs,.inl e⟩,h⟩
theorem r_d2T{a:Addr}{kvs:List (List Key×V)}(e:H a=some (.dT kvs))(h:tb σ H fun y H2=>tc σ H2 fun z H3=>qgl a y z H3 Q): rD2 tb tc σ Q (.ref a) H:=⟨a,rfl,.inr ⟨kvs,.inl e⟩,h⟩
theorem r_d2I{a:Addr}{kvs:List (Key×V)}{k:Int}{z:V}(e:H a=some (.dK kvs))(h:Q ((kj kvs (Sum.inl k)).getD z) H): qgl a (.int k) z H Q:=⟨_,Qad.k (k:=Sum.inl k) e,h⟩
theorem r_d2Tb{a b:Addr}{kvs:List (List Key×V)}{k:List Key}{z:V}(e:H a=some (.dT kvs))(eb:H b=some (.tup (k.map kV)))(h:Q ((kj kvs k).getD z) H): qgl a (.ref b) z H Q:=⟨_,Qad.t e eb,h⟩
theorem qf4(h:∀ p,H p=none->Q (.ref p) (upd H p (.dK []))): qu6 σ H Q:=h
theorem q2e(h:∀ p,H p=none->Q (.ref p) (upd H p (.dT []))): qu7 σ H Q:=h
def rDP(D:Ends)(σ:St)(v x y:V)(H3:Hp): Prop:=∃ a H4,x = .ref a/\Qd5 H3 a y v H4/\D.nx σ H4
theorem i_dput(h:tc σ H fun v H1=>ta σ H1 fun x H2=>tb σ H2 fun y H3=>rDP D σ v x y H3): qm2 ta tb tc D σ H:=h
theorem qjj{a:Addr}{kvs:List (Key×V)}{k:Int}(e:H a=some (.dK kvs))(z:kvs.length<sizeLine)(h:D.nx σ (upd H a (.dK (putK kvs (Sum.inl k) v)))): rDP D σ v (.ref a) (.int k) H:=⟨a,_,rfl,Qd5.k (k:=Sum.inl k) e z,h⟩
theorem r_dpT{a b:Addr}{kvs:List (List Key×V)}{k:List Key}(e:H a=some (.dT kvs))(eb:H b=some (.tup (k.map kV)))(z:kvs.length<sizeLine)(h:D.nx σ (upd H a (.dT (putK kvs k v)))): rDP D σ v (.ref a) (.ref b) H:=⟨a,_,rfl,Qd5.t e eb z,h⟩
theorem i_sl{r:V->Option Int->Option Int->Hp->VK->Prop}{t1 t2:TO}(h:te σ H fun x H1=>t1 σ H1 fun l H2=>t2 σ H2 fun u H3=>r x l u H3 Q): tSl r te t1 t2 σ H Q:=h
def rPt(Q:Option Int->Hp->Prop)(x:V)(H1:Hp): Prop:=∃ i,x = .int i/\Q (some i) H1
theorem i_part{QO:Option Int->Hp->Prop}(h:te σ H fun x H1=>rPt QO x H1): qj4 te σ H QO:=h
theorem r_pt{QO:Option Int->Hp->Prop}{i:Int}(h:QO (some i) H): rPt QO (.int i) H:=⟨i,rfl,h⟩
theorem q2n{QO:Option Int->Hp->Prop}(h:QO none H): qva σ H QO:=h
theorem qhz{a:Addr}{xs:List V}{lo hi:Option Int}(e:SqL K H a xs)(h:∀ p,H p=none->Q (.ref p) (upd H p (.lst (qcg xs lo hi)))): rSlL K (.ref a) lo hi H Q:=⟨a,xs,rfl,e,h⟩
def rCh(r':R2)(tc:TE)(σ:St)(Q:VK)(y z:V)(H3:Hp): Prop:=∃ k,z = .bl k/\(if k=true then tc σ H3 fun w' H4=>r' y w' H4 Q else Q (.bl false) H3)
theorem q2a{r r':R2}(h:ta σ H fun x H1=>tb σ H1 fun y H2=>r x y H2 fun z H3=>rCh r' tc σ Q y z H3): qu4 r r' ta tb tc σ H Q:=h
theorem r_ch{r':R2}{y:V}{k:Bool}(h:if k=true then tc σ H fun w' H4=>r' y w' H4 Q else Q (.bl false) H): rCh r' tc σ Q y (.bl k) H:=⟨k,rfl,h⟩
def rGD(P:Program)(w:World)(K:PySem.W.Frag)(a:Addr)(y:V)(H1:Hp)(Q:VK): Prop:=∃ k u v,y=kV k/\Kq P w K a k u/\RelV v u/\Q v H1
theorem i_gd{P:Program}{w:World}{a:Addr}(h:te σ H fun y H1=>rGD P w K a y H1 Q): tGD P w K a te σ H Q:=h
def rSF(K:PySem.W.Frag)(f:Str)(D:Ends)(σ:St)(y x:V)(H2:Hp): Prop:=∃ a C dx fs,x = .ref a/\H2 a=some (.ins C dx fs)/\Cls K C/\Vz K C f/\fs.length<1000/\D.nx σ (upd H2 a (.ins C dx (qbb f y fs)))
theorem i_sfld(h:tb σ H fun y H1=>ta σ H1 fun x H2=>rSF K f D σ y x H2): sFld K ta tb f D σ H:=h
theorem qfj{a C dx:Addr}{fs:List (Str×V)}{y:V}(e:H a=some (.ins C dx fs))(c:Cls K C)(n:Vz K C f)(z:fs.length<1000)(h:D.nx σ (upd H a (.ins C dx (qbb f y fs)))): rSF K f D σ y (.ref a) H:=⟨a,C,dx,fs,rfl,e,c,n,z,h⟩
def rGT(K:PySem.W.Frag)(n:Nat)(t:TGs)(v:V)(σ:St)(H:Hp)(Q:St->Hp->Prop): Prop:=∃ a xs,v = .ref a/\SqT K H a xs/\xs.length=n/\t xs σ H Q
theorem i_gtup{n:Nat}{t:TGs}(h:rGT K n t v σ H QG): gTup K n t v σ H QG:=h
theorem qe3{n:Nat}{t:TGs}{a:Addr}{xs:List V}(e:SqT K H a xs)(z:xs.length=n)(h:t xs σ H QG): rGT K n t (.ref a) σ H QG:=⟨a,xs,rfl,e,z,h⟩
theorem q2h{t:TG}{u:TGs}{r:List V}(h:t v σ H fun σ' H'=>u r σ' H' QG): qiv t u (v::r) σ H QG:=⟨v,r,rfl,h⟩
theorem i_gnil(h:QG σ H): gNil [] σ H QG:=⟨rfl,h⟩
theorem i_yes(h:QT true H): tYes σ H QT:=h
end
end L2.QP
namespace L2.QP
open PySem PySem.Spec PyProof.Rows
local macro_rules | `(tactic|walk_at "sc")=>`(tactic|exact⟨rfl,rfl,rfl,by decide +kernel,rfl,by decide +kernel,by decide +kernel⟩)
section
variable {X:Cx}
theorem qex{es:List Expr}{k:Nat}{t:TGs}{n:Nat}{pos:Pos}{K':PySem.W.Frag}(hK:X.K=K')(hc:X.calm=true)(h:PGs X es t)
  (hn:(assignEach es X.env).length=n:=by rfl)(hst:(assignEach es X.env).findIdx? (·.1)=none:=by rfl): PG X (.Tuple es k pos) (gTup K' n t):=by subst hK;exact pg_tup hc h hn hst
end
section
variable {X:Cx} {a b e:Expr} {ta tb te:TE} {x:Str} {pos p:Pos}
def zk(K:PySem.W.Frag)(he:PE X e te)(hK:X.K=K:=by exact rfl)(hb:attributeBase e x X.env (eval e X.env)=eval e X.env:=by exact rfl): PE X (.Attribute e x pos) (qe6 K te x):=by subst hK;exact pe_fld he hb
def qak(K:PySem.W.Frag)(ha:PE X a ta)(hb:PE X b tb)(hK:X.K=K:=by exact rfl)(hs:Qke b:=by exact fun _ _=>rfl): PE X (.Subscript a b pos) (tOp (qdz K) ta tb):=by subst hK;exact pe_ix q2r ha hb hs
def qc7(K:PySem.W.Frag)(ha:PE X a ta)(hb:PE X b tb)(hK:X.K=K:=by exact rfl)(hs:Qke b:=by exact fun _ _=>rfl): PE X (.Subscript a b pos) (tOp (rIxT K) ta tb):=by subst hK;exact pe_ix ix_tup ha hb hs
def k6(hu:X.A.units+1<cLine)(ha:PE X a ta)(hb:PE X b tb)(hs:NoSl b:=by exact fun _ _=>rfl): PE X (.Subscript a b pos) (qd2 ta tb):=q4s hu ha hb hs
def vc{op:CmpOp}{r:R2}(ho:OpR X (compareOp op) r)(ha:PE X a ta)(hb:PE X b tb)(hm:behindInMarks op b=false:=by exact qq8 _): PT X (.Compare a [op] [b] pos) (qdk (tOp r ta tb)):=qjh ho ha hb hm
def qft{op:CmpOp}{r:R2}(ho:OpR X (compareOp op) r)(ha:PE X a ta)(hb:PE X b tb)(hm:behindInMarks op b=false:=by exact qq8 _): PE X (.Compare a [op] [b] pos) (tOp r ta tb):=q4r ho ha hb hm
def k7(i:Nat)(hN:X.N.Nodup)(he:PE X e te)(hi:X.N[i]?=some x:=by exact rfl)(hx:Loc X.env.scope x:=by exact Or.inl rfl)(hs:swapsWith e (some (.Name x p)) pos.line X.env=pure false:=by rfl)
    (hf:X.fn x=true\/X.env.scope.names.lookup x=some .local:=by first|exact .inl rfl|exact .inr rfl|assumption): PS X (.Assign [.Name x p] e pos) (qd1 te (qb4 i)):=qrq hN hi hx he hs hf
def vt(i:Nat)(hN:X.N.Nodup)(hi:X.N[i]?=some x:=by exact rfl)(hx:Loc X.env.scope x:=by exact Or.inl rfl)
    (hf:X.fn x=true\/X.env.scope.names.lookup x=some .local:=by first|exact .inl rfl|exact .inr rfl|assumption): PG X (.Name x pos) (qb4 i):=q45 hN hi hx hf
def x_len(hm:X.mg "len" = none)(he:PE X e te)(hg:Gl X "len":=by exact rfl)(hs:starEach [e] X.env=(false,eval e X.env)::starEach [] X.env:=by exact rfl): PE X (.Call (.Name "len" p) [e] [] pos) (tCB (rLen X.K) (vp te qan)):=
 qdw qxd hg hm QP.boot_len (vg he qhq hs) (he:=hs)
def zo(he:PE X e te)(hs:starEach [e] X.env=(false,eval e X.env)::starEach [] X.env:=by exact rfl): PA X [e] (vp te qan):=vg he qhq hs
def zf(ha:PE X a ta)(he:PE X e te)(h1:starEach [a,e] X.env=(false,eval a X.env)::starEach [e] X.env:=by exact rfl)(hs:starEach [e] X.env=(false,eval e X.env)::starEach [] X.env:=by exact rfl): PA X [a,e] (vp ta (vp te qan)):=vg ha (zo he hs) h1
def ko(he:PE X e te): PSs X [.Return (some e) pos] (qbz te):=qaz (ps_ret he)
def vf{c:Expr}{tc:TT}(hc:PT X c tc)(he:PE X e te): PS X (.If c [.Return (some e) p] [] pos) (qem tc (qbz te) qen):=qgh hc (ko he) qgj
end
def za{X:Cx}:=@pv X 0
def zd{X:Cx}:=@pv X 1
def ze{X:Cx}:=@pv X 2
def k9{X:Cx}:=@pv X 3
def qaj{X:Cx}:=@pv X 4
def qbo{X:Cx}:=@pv X 5
def qcb{X:Cx}:=@pv X 6
def qek{X:Cx}:=@pv X 7
def pvz8{X:Cx}:=@pv X 8
def pvz9{X:Cx}:=@pv X 9
theorem i_gsub{to ti:TE}{t:TSet}{v:V}{σ:St}{H:Hp}{QG:St->Hp->Prop}(h:to σ H fun o H1=>ti σ H1 fun i H2=>t o i v H2 fun H3=>QG σ H3): gSub to ti t v σ H QG:=h
def top(i:Nat): Stmt:=PySem.Challenge.pw_quartermeters_s01_answers.main.body.getD i (.Pass ⟨0,0,0,0⟩)
abbrev qss:Stmt:=top 5
theorem q6l:Kh ["calls","at"] ["calls","at"] (zh qss):=by walk_at "sc"
abbrev qte:Stmt:=top 6
theorem q6w:Kh ["call"] ["call"] (zh qte):=by walk_at "sc"
abbrev qs8:Stmt:=top 7
theorem quf:Kh ["name","number","limits"] ["name","number"] (zh qs8):=by walk_at "sc"
abbrev qsa:Stmt:=top 8
theorem qm4:Kh ["row","weight"] ["row"] (zh qsa):=by walk_at "sc"
abbrev qr7:Stmt:=top 9
theorem qjs:Kh ["given","name","number"] ["given"] (zh qr7):=by walk_at "sc"
abbrev qs4:Stmt:=top 10
theorem q6r:Kh ["given"] ["given"] (zh qs4):=by walk_at "sc"
abbrev qjq:Stmt:=inClass (top 16) 0
theorem q6b:Kh ["self","weights"] ["self","weights"] (zh qjq):=by walk_at "sc"
abbrev qjo:Stmt:=inClass (top 17) 0
theorem q59:Kh ["self","boundary","value","digits","factor"] ["self","boundary","value","digits","factor"] (zh qjo):=by walk_at "sc"
abbrev qjp:Stmt:=inClass (top 18) 0
theorem q6a:Kh ["self","kind","zone","second","profile","rate","dial"] ["self","kind","zone","second","profile","rate","dial"] (zh qjp):=by walk_at "sc"
abbrev qjm:Stmt:=inClass (top 19) 0
theorem q57:Kh ["self"] ["self"] (zh qjm):=by walk_at "sc"
abbrev qtq:Stmt:=top 20
theorem qnd:Kh ["numbers","sums","number"] ["numbers"] (zh qtq):=by walk_at "sc"
abbrev qti:Stmt:=top 21
theorem qju:Kh ["digits","power","digit"] ["digits"] (zh qti):=by walk_at "sc"
abbrev qt5:Stmt:=top 22
theorem quk:Kh ["profile","boundary","count"] ["profile","boundary"] (zh qt5):=by walk_at "sc"
abbrev qt6:Stmt:=top 23
theorem q64:Kh ["profile","start","end"] ["profile","start","end"] (zh qt6):=by walk_at "sc"
abbrev qs5:Stmt:=top 24
theorem q6s:Kh ["book","number"] ["book","number"] (zh qs5):=by walk_at "sc"
abbrev qtc:Stmt:=top 25
theorem q6v:Kh ["book","given"] ["book","given"] (zh qtc):=by walk_at "sc"
abbrev qta:Stmt:=top 26
theorem q6u:Kh ["meter"] ["meter"] (zh qta):=by walk_at "sc"
abbrev qs6:Stmt:=top 27
theorem q6t:Kh ["meter"] ["meter"] (zh qs6):=by walk_at "sc"
abbrev qtn:Stmt:=top 28
theorem quh:Kh ["meter","boundary","dial"] ["meter","boundary"] (zh qtn):=by walk_at "sc"
abbrev qtv:Stmt:=top 29
theorem qne:Kh ["meter","boundary","versions","latest"] ["meter","boundary"] (zh qtv):=by walk_at "sc"
abbrev qs0:Stmt:=top 30
theorem qm9:Kh ["meter","boundary","read_at"] ["meter","boundary"] (zh qs0):=by walk_at "sc"
abbrev qs9:Stmt:=top 31
theorem qh4:Kh ["meter","knots","dial","boundary"] ["meter"] (zh qs9):=by walk_at "sc"
abbrev qs7:Stmt:=top 32
theorem que:Kh ["meter","boundary","knots"] ["meter","boundary"] (zh qs7):=by walk_at "sc"
abbrev qt4:Stmt:=top 33
theorem qjx:Kh ["book","boundary","number","meter"] ["book","boundary"] (zh qt4):=by walk_at "sc"
abbrev qjn:Stmt:=inClass (top 39) 0
theorem q58:Kh ["self","knots","amounts","profile","tail","removed"] ["self","knots","amounts","profile","tail","removed"] (zh qjn):=by walk_at "sc"
abbrev qsu:Stmt:=top 40
theorem qh3:Kh ["book","meter","knots","amounts","start","end"] ["book","meter"] (zh qsu):=by walk_at "sc"
abbrev qty:Stmt:=top 41
theorem q62:Kh ["meter"] ["meter"] (zh qty):=by walk_at "sc"
abbrev qr8:Stmt:=top 42
theorem qm3:Kh ["meter","start","end","dial","counted"] ["meter","start","end"] (zh qr8):=by walk_at "sc"
abbrev qsv:Stmt:=top 43
theorem qm8:Kh ["meter","boundary","dial"] ["meter","boundary"] (zh qsv):=by walk_at "sc"
abbrev qts:Stmt:=top 44
theorem q6z:Kh ["meter","dial","boundary"] ["meter","dial","boundary"] (zh qts):=by walk_at "sc"
abbrev qt0:Stmt:=top 45
theorem qh5:Kh ["course","boundary","last","place","knot"] ["course","boundary"] (zh qt0):=by walk_at "sc"
abbrev qt2:Stmt:=top 46
theorem qh6:Kh ["course","place","boundary","start","end","amount","weight"] ["course","place","boundary"] (zh qt2):=by walk_at "sc"
abbrev qtz:Stmt:=top 47
theorem q63:Kh ["course","start","end"] ["course","start","end"] (zh qtz):=by walk_at "sc"
abbrev qsy:Stmt:=top 48
theorem q6n:Kh ["course"] ["course"] (zh qsy):=by walk_at "sc"
abbrev qs1:Stmt:=top 49
theorem q6p:Kh ["course","quarter"] ["course","quarter"] (zh qs1):=by walk_at "sc"
abbrev qth:Stmt:=top 52
theorem qfm:Kh ["meter","start","end","parts","hand","begun","quarter"] ["meter","start","end"] (zh qth):=by walk_at "sc"
abbrev qsz:Stmt:=top 53
theorem q6o:Kh ["meter","quarter"] ["meter","quarter"] (zh qsz):=by walk_at "sc"
abbrev qt1:Stmt:=top 54
theorem qgs:Kh ["book","meter","hand","start","end","course","parts","part"] ["book","meter","hand","start","end"] (zh qt1):=by walk_at "sc"
abbrev qtu:Stmt:=top 55
theorem q61:Kh ["meter"] ["meter"] (zh qtu):=by walk_at "sc"
abbrev qtf:Stmt:=top 56
theorem qe5:Kh ["book","start","end","nets","meter","sign","course","begun","ended","hand"] ["book","start","end"] (zh qtf):=by walk_at "sc"
abbrev qtb:Stmt:=top 57
theorem qgr:Kh ["numbers","listed","number","hand"] ["numbers"] (zh qtb):=by walk_at "sc"
abbrev qr6:Stmt:=top 78
theorem q6c:Kh ["book","given"] ["book","given"] (zh qr6):=by walk_at "sc"
abbrev qt7:Stmt:=top 79
theorem q65:Kh ["given"] ["given"] (zh qt7):=by walk_at "sc"
abbrev qs3:Stmt:=top 80
theorem q6q:Kh ["book","given"] ["book","given"] (zh qs3):=by walk_at "sc"
abbrev qtg:Stmt:=top 81
theorem q6x:Kh ["given"] ["given"] (zh qtg):=by walk_at "sc"
abbrev qs2:Stmt:=top 82
theorem qna:Kh ["book","given","refusal","meter"] ["book","given"] (zh qs2):=by walk_at "sc"
abbrev qtm:Stmt:=top 83
theorem qnb:Kh ["book","meter","given","boundary","dial"] ["book","meter","given"] (zh qtm):=by walk_at "sc"
abbrev qtl:Stmt:=top 84
theorem qjv:Kh ["book","given","meter","refusal","versions"] ["book","given"] (zh qtl):=by walk_at "sc"
abbrev qsx:Stmt:=top 85
theorem qud:Kh ["book","meter","given","boundary"] ["book","meter","given"] (zh qsx):=by walk_at "sc"
abbrev qsw:Stmt:=top 86
theorem quc:Kh ["meter","given","dial"] ["meter","given"] (zh qsw):=by walk_at "sc"
abbrev qtx:Stmt:=top 87
theorem quj:Kh ["book","meter","given","refusal"] ["book","meter","given"] (zh qtx):=by walk_at "sc"
abbrev qtw:Stmt:=top 88
theorem qnf:Kh ["book","given","meter","refusal"] ["book","given"] (zh qtw):=by walk_at "sc"
abbrev qto:Stmt:=top 89
theorem qnc:Kh ["book","given","meter","refusal"] ["book","given"] (zh qto):=by walk_at "sc"
abbrev qtr:Stmt:=top 90
theorem qui:Kh ["book","given","meter"] ["book","given"] (zh qtr):=by walk_at "sc"
abbrev qsr:Stmt:=top 91
theorem q6k:Kh ["book","meter","given"] ["book","meter","given"] (zh qsr):=by walk_at "sc"
abbrev qsq:Stmt:=top 92
theorem qm7:Kh ["book","given","meter","refusal"] ["book","given"] (zh qsq):=by walk_at "sc"
abbrev qtd:Stmt:=top 93
theorem qug:Kh ["book","given","boundary"] ["book","given"] (zh qtd):=by walk_at "sc"
abbrev qtj:Stmt:=top 94
theorem qfn:Kh ["book","given","period","nets","before","net","earlier"] ["book","given"] (zh qtj):=by walk_at "sc"
abbrev qst:Stmt:=top 96
theorem q6m:Kh ["book","number","given"] ["book","number","given"] (zh qst):=by walk_at "sc"
abbrev qt3:Stmt:=top 98
theorem qh7:Kh ["book","kind","zone","hand","start","end","meters","meter"] ["book","kind","zone","hand","start","end"] (zh qt3):=by walk_at "sc"
abbrev qtt:Stmt:=top 99
theorem q60:Kh ["meter","zone"] ["meter","zone"] (zh qtt):=by walk_at "sc"
abbrev qtp:Stmt:=top 100
theorem qjw:Kh ["book","zone","start","end","rest","meter"] ["book","zone","start","end"] (zh qtp):=by walk_at "sc"
abbrev qsp:Stmt:=top 102
theorem q6j:Kh ["book","given"] ["book","given"] (zh qsp):=by walk_at "sc"
abbrev qsj:Stmt:=top 103
theorem qua:Kh ["book","given","reading"] ["book","given"] (zh qsj):=by walk_at "sc"
abbrev qsf:Stmt:=top 104
theorem qjt:Kh ["book","given","versions","answer","version"] ["book","given"] (zh qsf):=by walk_at "sc"
abbrev qso:Stmt:=top 105
theorem qm6:Kh ["book","given","quarter","course"] ["book","given"] (zh qso):=by walk_at "sc"
abbrev qsb:Stmt:=top 106
theorem q6d:Kh ["book","given"] ["book","given"] (zh qsb):=by walk_at "sc"
abbrev qsl:Stmt:=top 107
theorem q6i:Kh ["book","given"] ["book","given"] (zh qsl):=by walk_at "sc"
abbrev qse:Stmt:=top 108
theorem q6e:Kh ["book","given"] ["book","given"] (zh qse):=by walk_at "sc"
abbrev qsm:Stmt:=top 109
theorem qm5:Kh ["book","given","totals","kind"] ["book","given"] (zh qsm):=by walk_at "sc"
abbrev qsi:Stmt:=top 110
theorem q6g:Kh ["book","given"] ["book","given"] (zh qsi):=by walk_at "sc"
abbrev qsg:Stmt:=top 111
theorem q6f:Kh ["book","given"] ["book","given"] (zh qsg):=by walk_at "sc"
abbrev qsd:Stmt:=top 112
theorem qgq:Kh ["book","given","gaps","answer","start","end","amount"] ["book","given"] (zh qsd):=by walk_at "sc"
abbrev qsc:Stmt:=top 113
theorem qfl:Kh ["book","given","doubtful","gap","answer","start","end","amount"] ["book","given"] (zh qsc):=by walk_at "sc"
abbrev qsn:Stmt:=top 114
theorem qub:Kh ["book","given","unread"] ["book","given"] (zh qsn):=by walk_at "sc"
abbrev qsh:Stmt:=top 115
theorem qt9:Kh ["book","given","nets"] ["book","given"] (zh qsh):=by walk_at "sc"
abbrev qsk:Stmt:=top 116
theorem q6h:Kh ["book","given"] ["book","given"] (zh qsk):=by walk_at "sc"
abbrev qtk:Stmt:=top 118
theorem q6y:Kh ["book","number","given"] ["book","number","given"] (zh qtk):=by walk_at "sc"
abbrev qr9:Stmt:=top 122
theorem qt8:Kh ["book","call","given"] ["book","call"] (zh qr9):=by walk_at "sc"
abbrev qjr:Stmt:=top 123
theorem qfk:Kh ["calls","book","told","at","end","answer"] ["calls"] (zh qjr):=by walk_at "sc"
structure Txt(P:Program)(w:World)(K:PySem.W.Frag)(mg:Str->Option Value)(A:Ads): Prop where
 qop:GI mg "PROFILE" (0)
 qwz:GI mg "MOST_WEIGHTS" (96)
 qw7:GI mg "STRUCK" (-1)
 qoo:GI mg "OUT_OF_ZONE" (0)
 qkt:GI mg "INTO_ZONE" (1)
 qku:GI mg "ZONE_TO_ZONE" (2)
 qon:GI mg "NOT_THERE" (0)
 qws:GI mg "MEASURED" (1)
 qw6:GI mg "SPREAD" (2)
 qwq:GI mg "ESTIMATED" (3)
 qol:GI mg "HAND_COUNT" (33)
 ya:GI mg "ACCEPTED" (0)
 qw2:GI mg "OUT_OF_RANGE" (-1)
 qw1:GI mg "NO_PROFILE" (-2)
 qw0:GI mg "NO_METER" (-3)
 qfx:GI mg "FULL" (-4)
 qha:GI mg "LOCKED" (-5)
 qom:GI mg "NOT_COUNTING" (-6)
 qio:GI mg "CANNOT_SHOW" (-7)
 qw5:GI mg "SAME_VERSION" (-8)
 qw4:GI mg "READ_LATER" (-9)
 qw8:GI mg "UNREAD" (-10)
 qwp:GI mg "BACKWARDS" (-11)
 qoq:GI mg "WRONG_KIND" (-12)
 qww:GI mg "MOST_PROFILES" (8)
 qwu:GI mg "MOST_METERS" (32)
 qwx:GI mg "MOST_READINGS" (256)
 qwt:GI mg "MOST_DIALS" (8)
 qwy:GI mg "MOST_TOLD" (64)
 qwv:GI mg "MOST_PERIODS" (16)
 qwr:GI mg "FIRST_QUESTION" (9)
 qw3:GI mg "PUBLISHED" (21)
 qaw:mg "len" = none
 b_max:mg "max" = none
 qko:mg "sorted" = none
 b_any:mg "any" = none
 b_all:mg "all" = none
 b_sum:mg "sum" = none
 b_list:mg "list" = none
 qin:mg "zip" = none
 b_dict:mg "dict" = none
 qwg:mg "range" = none
 qof:mg "enumerate" = none
 qyn:Dfn K mg "call_end" qss
 qza:Dfn K mg "named_arguments" qte
 qy4:Dfn K mg "is_within" qs8
 qx5:Dfn K mg "are_weights" qsa
 qx1:Dfn K mg "all_within" qr7
 qy0:Dfn K mg "is_backwards" qs4
 qxz:Dcl K mg "Profile" "Profile.__init__" A.CP qjq
 d_Dial:Dcl K mg "Dial" "Dial.__init__" A.CD qjo
 qxy:Dcl K mg "Meter" "Meter.__init__" A.CM qjp
 d_Book:Dcl K mg "Book" "Book.__init__" A.CB qjm
 qzn:Dfn K mg "running_sums" qtq
 qzf:Dfn K mg "power_of_ten" qti
 qz4:Dfn K mg "weight_before" qt5
 qz5:Dfn K mg "weight_between" qt6
 qy1:Dfn K mg "is_missing" qs5
 qy8:Dfn K mg "meter_of" qtc
 qy6:Dfn K mg "last_dial" qta
 qy2:Dfn K mg "is_removed" qs6
 qzk:Dfn K mg "readable_dial" qtn
 qzu:Dfn K mg "standing_reading" qtv
 qyw:Dfn K mg "has_reading_from" qs0
 qy5:Dfn K mg "knots_of" qs9
 qy3:Dfn K mg "is_unread" qs7
 qz3:Dfn K mg "unread_meters" qt4
 qxx:Dcl K mg "Course" "Course.__init__" A.CC qjn
 qyp:Dfn K mg "course_of" qsu
 qzx:Dfn K mg "tail_of" qty
 qx2:Dfn K mg "amount_between" qr8
 qyq:Dfn K mg "dial_from" qsv
 qzr:Dfn K mg "shown_value" qts
 qzz:Dfn K mg "through_by" qt0
 qz1:Dfn K mg "through_within" qt2
 qzy:Dfn K mg "through_between" qtz
 qyt:Dfn K mg "gaps_of" qsy
 qyx:Dfn K mg "how_known" qs1
 qze:Dfn K mg "parts_by_hand" qth
 qyv:Dfn K mg "hand_at" qsz
 qz0:Dfn K mg "through_in_hand" qt1
 qzt:Dfn K mg "sign_of" qtu
 qzb:Dfn K mg "nets_between" qtf
 qy7:Dfn K mg "listed_by_hand" qtb
 qx0:Dfn K mg "add_profile" qr6
 qz6:Dfn K mg "zones_fit" qt7
 qyz:Dfn K mg "install_refusal" qs3
 qzc:Dfn K mg "new_dial" qtg
 qyy:Dfn K mg "install_meter" qs2
 qzj:Dfn K mg "read_refusal" qtm
 qzi:Dfn K mg "read_meter" qtl
 qys:Dfn K mg "end_refusal" qsx
 qyr:Dfn K mg "end_last_dial" qsw
 qzw:Dfn K mg "swap_refusal" qtx
 qzv:Dfn K mg "swap_dial" qtw
 qzl:Dfn K mg "remove_meter" qto
 qzp:Dfn K mg "set_rate" qtr
 qym:Dfn K mg "assign_refusal" qsr
 qyl:Dfn K mg "assign_hand" qsq
 qy9:Dfn K mg "move_lock" qtd
 qzg:Dfn K mg "publish_period" qtj
 qyo:Dfn K mg "change" qst
 qz2:Dfn K mg "total_of_kind" qt3
 qzs:Dfn K mg "sign_in_zone" qtt
 qzm:Dfn K mg "rest_between" qtp
 qyk:Dfn K mg "asked_course" qsp
 qye:Dfn K mg "ask_standing" qsj
 qya:Dfn K mg "ask_history" qsf
 qyj:Dfn K mg "ask_value" qso
 qx6:Dfn K mg "ask_between" qsb
 qyg:Dfn K mg "ask_through" qsl
 qx9:Dfn K mg "ask_hand" qse
 qyh:Dfn K mg "ask_total" qsm
 qyd:Dfn K mg "ask_rest" qsi
 qyb:Dfn K mg "ask_nets" qsg
 qx8:Dfn K mg "ask_gaps" qsd
 qx7:Dfn K mg "ask_doubt" qsc
 qyi:Dfn K mg "ask_unread" qsn
 qyc:Dfn K mg "ask_published" qsh
 qyf:Dfn K mg "ask_state" qsk
 qzh:Dfn K mg "question" qtk
 qx3:Dfn K mg "answer_call" qr9
 qx4:Dfn K mg "answers" qjr
 clP:Cls K A.CP
 q37:Vz K A.CP "sums"
 clD:Cls K A.CD
 q30:Vz K A.CD "start_boundary"
 q31:Vz K A.CD "start_value"
 q3z:Vz K A.CD "size"
 q3y:Vz K A.CD "factor"
 q3w:Vz K A.CD "end_boundary"
 q3x:Vz K A.CD "end_value"
 clM:Cls K A.CM
 q32:Vz K A.CM "kind"
 q36:Vz K A.CM "zone"
 q35:Vz K A.CM "second"
 q33:Vz K A.CM "profile"
 q34:Vz K A.CM "rate"
 qq0:Vz K A.CM "dials"
 qhn:Vz K A.CM "readings"
 qq1:Vz K A.CM "told"
 clB:Cls K A.CB
 qme:Vz K A.CB "profiles"
 qi9:Vz K A.CB "meters"
 q3o:Vz K A.CB "reading_count"
 q3p:Vz K A.CB "told_count"
 q3n:Vz K A.CB "lock"
 qqz:Vz K A.CB "periods"
 clC:Cls K A.CC
 q3r:Vz K A.CC "knots"
 q3q:Vz K A.CC "amounts"
 q3v:Vz K A.CC "totals"
 q3s:Vz K A.CC "profile"
 q3u:Vz K A.CC "tail"
 q3t:Vz K A.CC "removed"
 q28:mg "LIMITS" = some (.ref A.qa8)
 qqv:mg "ARGUMENTS" = some (.ref A.qav)
 q27:mg "CHANGES" = some (.ref A.qdn)
 q29:mg "QUESTIONS" = some (.ref A.qb1)
 q21:∃ u,Kq P w K A.qa8 (Sum.inr "weights") (.ref u)/\∀ H,SqT K H u [.int (0),.int 1000]
 l_kind:∃ u,Kq P w K A.qa8 (Sum.inr "kind") (.ref u)/\∀ H,SqT K H u [.int (0),.int 2]
 ql6:∃ u,Kq P w K A.qa8 (Sum.inr "zone") (.ref u)/\∀ H,SqT K H u [.int (0),.int 7]
 q2y:∃ u,Kq P w K A.qa8 (Sum.inr "second") (.ref u)/\∀ H,SqT K H u [.int (0),.int 7]
 qed:∃ u,Kq P w K A.qa8 (Sum.inr "boundary") (.ref u)/\∀ H,SqT K H u [.int (0),.int 10000]
 qqi:∃ u,Kq P w K A.qa8 (Sum.inr "digits") (.ref u)/\∀ H,SqT K H u [.int (1),.int 9]
 qqj:∃ u,Kq P w K A.qa8 (Sum.inr "factor") (.ref u)/\∀ H,SqT K H u [.int (1),.int 10000]
 qqm:∃ u,Kq P w K A.qa8 (Sum.inr "start") (.ref u)/\∀ H,SqT K H u [.int (0),.int 999999999]
 l_end:∃ u,Kq P w K A.qa8 (Sum.inr "end") (.ref u)/\∀ H,SqT K H u [.int (0),.int 999999999]
 q2x:∃ u,Kq P w K A.qa8 (Sum.inr "profile") (.ref u)/\∀ H,SqT K H u [.int (0),.int 8]
 qql:∃ u,Kq P w K A.qa8 (Sum.inr "rate") (.ref u)/\∀ H,SqT K H u [.int (0),.int 1000000]
 qcl:∃ u,Kq P w K A.qa8 (Sum.inr "meter") (.ref u)/\∀ H,SqT K H u [.int (1),.int 32]
 q20:∃ u,Kq P w K A.qa8 (Sum.inr "version") (.ref u)/\∀ H,SqT K H u [.int (1),.int 1000000]
 q2z:∃ u,Kq P w K A.qa8 (Sum.inr "value") (.ref u)/\∀ H,SqT K H u [.int (-1),.int 999999999]
 ql5:∃ u,Kq P w K A.qa8 (Sum.inr "quarter") (.ref u)/\∀ H,SqT K H u [.int (0),.int 9999]
 qqk:∃ u,Kq P w K A.qa8 (Sum.inr "hand") (.ref u)/\∀ H,SqT K H u [.int (0),.int 32]
 qf9:∃ u,Kq P w K A.qa8 (Sum.inr "from") (.ref u)/\∀ H,SqT K H u [.int (0),.int 10000]
 qga:∃ u,Kq P w K A.qa8 (Sum.inr "to") (.ref u)/\∀ H,SqT K H u [.int (0),.int 10000]
 l_most:∃ u,Kq P w K A.qa8 (Sum.inr "most") (.ref u)/\∀ H,SqT K H u [.int (0),.int 1000000000000]
 a_1:∃ u,Kq P w K A.qav (Sum.inl 1) (.ref u)/\∀ H,SqT K H u [.str "kind",.str "zone",.str "second",.str "boundary",.str "digits",.str "factor",.str "start",.str "profile",.str "rate"]
 a_2:∃ u,Kq P w K A.qav (Sum.inl 2) (.ref u)/\∀ H,SqT K H u [.str "meter",.str "boundary",.str "version",.str "value"]
 a_3:∃ u,Kq P w K A.qav (Sum.inl 3) (.ref u)/\∀ H,SqT K H u [.str "meter",.str "boundary",.str "end",.str "start",.str "digits",.str "factor"]
 a_4:∃ u,Kq P w K A.qav (Sum.inl 4) (.ref u)/\∀ H,SqT K H u [.str "meter",.str "boundary",.str "end"]
 a_5:∃ u,Kq P w K A.qav (Sum.inl 5) (.ref u)/\∀ H,SqT K H u [.str "meter",.str "rate"]
 a_6:∃ u,Kq P w K A.qav (Sum.inl 6) (.ref u)/\∀ H,SqT K H u [.str "meter",.str "quarter",.str "hand"]
 a_7:∃ u,Kq P w K A.qav (Sum.inl 7) (.ref u)/\∀ H,SqT K H u [.str "boundary"]
 a_8:∃ u,Kq P w K A.qav (Sum.inl 8) (.ref u)/\∀ H,SqT K H u [.str "from",.str "to"]
 a_9:∃ u,Kq P w K A.qav (Sum.inl 9) (.ref u)/\∀ H,SqT K H u [.str "meter",.str "boundary"]
 a_10:∃ u,Kq P w K A.qav (Sum.inl 10) (.ref u)/\∀ H,SqT K H u [.str "meter",.str "boundary"]
 a_11:∃ u,Kq P w K A.qav (Sum.inl 11) (.ref u)/\∀ H,SqT K H u [.str "meter",.str "quarter"]
 a_12:∃ u,Kq P w K A.qav (Sum.inl 12) (.ref u)/\∀ H,SqT K H u [.str "meter",.str "from",.str "to"]
 a_13:∃ u,Kq P w K A.qav (Sum.inl 13) (.ref u)/\∀ H,SqT K H u [.str "meter",.str "boundary"]
 a_14:∃ u,Kq P w K A.qav (Sum.inl 14) (.ref u)/\∀ H,SqT K H u [.str "meter",.str "quarter"]
 a_15:∃ u,Kq P w K A.qav (Sum.inl 15) (.ref u)/\∀ H,SqT K H u [.str "hand",.str "zone",.str "from",.str "to"]
 a_16:∃ u,Kq P w K A.qav (Sum.inl 16) (.ref u)/\∀ H,SqT K H u [.str "zone",.str "from",.str "to"]
 a_17:∃ u,Kq P w K A.qav (Sum.inl 17) (.ref u)/\∀ H,SqT K H u [.str "from",.str "to"]
 a_18:∃ u,Kq P w K A.qav (Sum.inl 18) (.ref u)/\∀ H,SqT K H u [.str "meter"]
 a_19:∃ u,Kq P w K A.qav (Sum.inl 19) (.ref u)/\∀ H,SqT K H u [.str "meter",.str "most"]
 a_20:∃ u,Kq P w K A.qav (Sum.inl 20) (.ref u)/\∀ H,SqT K H u [.str "boundary"]
 a_21:∃ u,Kq P w K A.qav (Sum.inl 21) (.ref u)/\∀ H,SqT K H u [.str "from",.str "to"]
 a_22:∃ u,Kq P w K A.qav (Sum.inl 22) (.ref u)/\∀ H,SqT K H u []
 c_0:∃ u,Kq P w K A.qdn (Sum.inl 0) (.ref u)/\mg "add_profile" = some (.ref u)
 c_1:∃ u,Kq P w K A.qdn (Sum.inl 1) (.ref u)/\mg "install_meter" = some (.ref u)
 c_2:∃ u,Kq P w K A.qdn (Sum.inl 2) (.ref u)/\mg "read_meter" = some (.ref u)
 c_3:∃ u,Kq P w K A.qdn (Sum.inl 3) (.ref u)/\mg "swap_dial" = some (.ref u)
 c_4:∃ u,Kq P w K A.qdn (Sum.inl 4) (.ref u)/\mg "remove_meter" = some (.ref u)
 c_5:∃ u,Kq P w K A.qdn (Sum.inl 5) (.ref u)/\mg "set_rate" = some (.ref u)
 c_6:∃ u,Kq P w K A.qdn (Sum.inl 6) (.ref u)/\mg "assign_hand" = some (.ref u)
 c_7:∃ u,Kq P w K A.qdn (Sum.inl 7) (.ref u)/\mg "move_lock" = some (.ref u)
 c_8:∃ u,Kq P w K A.qdn (Sum.inl 8) (.ref u)/\mg "publish_period" = some (.ref u)
 q_9:∃ u,Kq P w K A.qb1 (Sum.inl 9) (.ref u)/\mg "ask_standing" = some (.ref u)
 q_10:∃ u,Kq P w K A.qb1 (Sum.inl 10) (.ref u)/\mg "ask_history" = some (.ref u)
 q_11:∃ u,Kq P w K A.qb1 (Sum.inl 11) (.ref u)/\mg "ask_value" = some (.ref u)
 q_12:∃ u,Kq P w K A.qb1 (Sum.inl 12) (.ref u)/\mg "ask_between" = some (.ref u)
 q_13:∃ u,Kq P w K A.qb1 (Sum.inl 13) (.ref u)/\mg "ask_through" = some (.ref u)
 q_14:∃ u,Kq P w K A.qb1 (Sum.inl 14) (.ref u)/\mg "ask_hand" = some (.ref u)
 q_15:∃ u,Kq P w K A.qb1 (Sum.inl 15) (.ref u)/\mg "ask_total" = some (.ref u)
 q_16:∃ u,Kq P w K A.qb1 (Sum.inl 16) (.ref u)/\mg "ask_rest" = some (.ref u)
 q_17:∃ u,Kq P w K A.qb1 (Sum.inl 17) (.ref u)/\mg "ask_nets" = some (.ref u)
 q_18:∃ u,Kq P w K A.qb1 (Sum.inl 18) (.ref u)/\mg "ask_gaps" = some (.ref u)
 q_19:∃ u,Kq P w K A.qb1 (Sum.inl 19) (.ref u)/\mg "ask_doubt" = some (.ref u)
 q_20:∃ u,Kq P w K A.qb1 (Sum.inl 20) (.ref u)/\mg "ask_unread" = some (.ref u)
 q_21:∃ u,Kq P w K A.qb1 (Sum.inl 21) (.ref u)/\mg "ask_published" = some (.ref u)
 q_22:∃ u,Kq P w K A.qb1 (Sum.inl 22) (.ref u)/\mg "ask_state" = some (.ref u)
theorem pf1{f:Str}{v:V}{n:Nat}: ∀ {fs:List (Str×V)},fs.length<n->(qbb f v fs).length<n+1
 |[],h=>Nat.succ_lt_succ h
 | (g,x)::r,h=>by
   unfold qbb
   split
   ·exact Wd h
   ·cases n with
    |zero=>exact absurd h (Nat.not_lt_zero _)
    |succ n=>exact Nat.succ_lt_succ (pf1 (n:=n) (Nat.lt_of_succ_lt_succ h))
local macro_rules | `(tactic|walk_at "hp")=>`(tactic|exact BAt.oQ (by assumption))
local macro_rules | `(tactic|walk_at "hp")=>`(tactic|exact BAt.oM (by assumption))
local macro_rules | `(tactic|walk_at "hp")=>`(tactic|exact BAt.oP (by assumption))
local macro_rules | `(tactic|walk_at "hp")=>`(tactic|exact BAt.o (by assumption))
local macro_rules | `(tactic|walk_at "hp")=>`(tactic|exact MAt.oT (by assumption))
local macro_rules | `(tactic|walk_at "hp")=>`(tactic|exact MAt.oR (by assumption))
local macro_rules | `(tactic|walk_at "hp")=>`(tactic|exact MAt.oD (by assumption))
local macro_rules | `(tactic|walk_at "hp")=>`(tactic|exact MAt.o (by assumption))
local macro_rules | `(tactic|walk_at "hp")=>`(tactic|exact zc)
local macro_rules | `(tactic|walk_at "hp")=>`(tactic|assumption)
local macro_rules | `(tactic|walk_at "sq")=>`(tactic|exact SqT.of (by walk_at "hp"))
local macro_rules | `(tactic|walk_at "sq")=>`(tactic|exact SqL.of (by walk_at "hp"))
local macro_rules | `(tactic|walk_at "sq")=>`(tactic|assumption)
local macro_rules | `(tactic|walk_at "cls")=>`(tactic|with_reducible exact Txt.clC (by assumption))
local macro_rules | `(tactic|walk_at "cls")=>`(tactic|with_reducible exact Txt.clB (by assumption))
local macro_rules | `(tactic|walk_at "cls")=>`(tactic|with_reducible exact Txt.clM (by assumption))
local macro_rules | `(tactic|walk_at "cls")=>`(tactic|with_reducible exact Txt.clD (by assumption))
local macro_rules | `(tactic|walk_at "cls")=>`(tactic|with_reducible exact Txt.clP (by assumption))
local macro_rules | `(tactic|walk_at "noa")=>`(tactic|with_reducible exact Txt.q3t (by assumption))
local macro_rules | `(tactic|walk_at "noa")=>`(tactic|with_reducible exact Txt.q3u (by assumption))
local macro_rules | `(tactic|walk_at "noa")=>`(tactic|with_reducible exact Txt.q3s (by assumption))
local macro_rules | `(tactic|walk_at "noa")=>`(tactic|with_reducible exact Txt.q3v (by assumption))
local macro_rules | `(tactic|walk_at "noa")=>`(tactic|with_reducible exact Txt.q3q (by assumption))
local macro_rules | `(tactic|walk_at "noa")=>`(tactic|with_reducible exact Txt.q3r (by assumption))
local macro_rules | `(tactic|walk_at "noa")=>`(tactic|with_reducible exact Txt.qqz (by assumption))
local macro_rules | `(tactic|walk_at "noa")=>`(tactic|with_reducible exact Txt.q3n (by assumption))
local macro_rules | `(tactic|walk_at "noa")=>`(tactic|with_reducible exact Txt.q3p (by assumption))
local macro_rules | `(tactic|walk_at "noa")=>`(tactic|with_reducible exact Txt.q3o (by assumption))
local macro_rules | `(tactic|walk_at "noa")=>`(tactic|with_reducible exact Txt.qi9 (by assumption))
local macro_rules | `(tactic|walk_at "noa")=>`(tactic|with_reducible exact Txt.qme (by assumption))
local macro_rules | `(tactic|walk_at "noa")=>`(tactic|with_reducible exact Txt.qq1 (by assumption))
local macro_rules | `(tactic|walk_at "noa")=>`(tactic|with_reducible exact Txt.qhn (by assumption))
local macro_rules | `(tactic|walk_at "noa")=>`(tactic|with_reducible exact Txt.qq0 (by assumption))
local macro_rules | `(tactic|walk_at "noa")=>`(tactic|with_reducible exact Txt.q34 (by assumption))
local macro_rules | `(tactic|walk_at "noa")=>`(tactic|with_reducible exact Txt.q33 (by assumption))
local macro_rules | `(tactic|walk_at "noa")=>`(tactic|with_reducible exact Txt.q35 (by assumption))
local macro_rules | `(tactic|walk_at "noa")=>`(tactic|with_reducible exact Txt.q36 (by assumption))
local macro_rules | `(tactic|walk_at "noa")=>`(tactic|with_reducible exact Txt.q32 (by assumption))
local macro_rules | `(tactic|walk_at "noa")=>`(tactic|with_reducible exact Txt.q3x (by assumption))
local macro_rules | `(tactic|walk_at "noa")=>`(tactic|with_reducible exact Txt.q3w (by assumption))
local macro_rules | `(tactic|walk_at "noa")=>`(tactic|with_reducible exact Txt.q3y (by assumption))
local macro_rules | `(tactic|walk_at "noa")=>`(tactic|with_reducible exact Txt.q3z (by assumption))
local macro_rules | `(tactic|walk_at "noa")=>`(tactic|with_reducible exact Txt.q31 (by assumption))
local macro_rules | `(tactic|walk_at "noa")=>`(tactic|with_reducible exact Txt.q30 (by assumption))
local macro_rules | `(tactic|walk_at "noa")=>`(tactic|with_reducible exact Txt.q37 (by assumption))
local macro_rules | `(tactic|walk_at "st")=>`(tactic|((with_reducible refine' r_tup ?e ?_);(case e=>(exact Xd (m:=1000) (by simp) (by decide)))))
local macro_rules | `(tactic|walk_at "st")=>`(tactic|((with_reducible refine' r_lst ?e ?_);(case e=>(exact Xd (m:=1000) (by simp) (by decide)))))
local macro_rules | `(tactic|walk_at "st")=>`(tactic|((with_reducible refine' qfj ?e ?c ?n ?z ?_);(case e=>walk_at "hp");(case c=>walk_at "cls");(case n=>walk_at "noa");(case z=>((repeat with_reducible refine' pf1 ?_);(first|(exact Wk _)|(exact Wu (m:=20) (by simp[qax,qdc,qa5]) (by decide)))))))
local macro_rules | `(tactic|walk_at "st")=>`(tactic|with_reducible refine' q2j ?_)
local macro_rules | `(tactic|walk_at "st")=>`(tactic|with_reducible refine' i_gsub ?_)
local macro_rules | `(tactic|walk_at "st")=>`(tactic|with_reducible refine' i_yes ?_)
local macro_rules | `(tactic|walk_at "st")=>`(tactic|with_reducible refine' i_gnil ?_)
local macro_rules | `(tactic|walk_at "st")=>`(tactic|with_reducible refine' q2h ?_)
local macro_rules | `(tactic|walk_at "st")=>`(tactic|with_reducible refine' i_gtup ?_)
local macro_rules | `(tactic|walk_at "st")=>`(tactic|with_reducible refine' i_sfld ?_)
local macro_rules | `(tactic|walk_at "st")=>`(tactic|with_reducible refine' i_gd ?_)
local macro_rules | `(tactic|walk_at "st")=>`(tactic|with_reducible refine' r_ch ?_)
local macro_rules | `(tactic|walk_at "st")=>`(tactic|with_reducible refine' q2a ?_)
local macro_rules | `(tactic|walk_at "st")=>`(tactic|with_reducible refine' q2n ?_)
local macro_rules | `(tactic|walk_at "st")=>`(tactic|with_reducible refine' r_pt ?_)
local macro_rules | `(tactic|walk_at "st")=>`(tactic|with_reducible refine' i_part ?_)
local macro_rules | `(tactic|walk_at "st")=>`(tactic|with_reducible refine' i_sl ?_)
local macro_rules | `(tactic|walk_at "st")=>`(tactic|with_reducible refine' i_dput ?_)
local macro_rules | `(tactic|walk_at "st")=>`(tactic|((with_reducible refine' r_d1T ?e ?_);(case e=>walk_at "hp")))
local macro_rules | `(tactic|walk_at "st")=>`(tactic|((with_reducible refine' r_d2T ?e ?_);(case e=>walk_at "hp")))
local macro_rules | `(tactic|walk_at "st")=>`(tactic|((with_reducible refine' r_d2K ?e ?_);(case e=>walk_at "hp")))
local macro_rules | `(tactic|walk_at "st")=>`(tactic|with_reducible refine' q2c ?_)
local macro_rules | `(tactic|walk_at "st")=>`(tactic|with_reducible refine' q2b ?_)
local macro_rules | `(tactic|walk_at "st")=>`(tactic|with_reducible refine' q2f ?_)
local macro_rules | `(tactic|walk_at "st")=>`(tactic|with_reducible refine' i_din ?_)
local macro_rules | `(tactic|walk_at "st")=>`(tactic|with_reducible refine' i_dget ?_)
local macro_rules | `(tactic|walk_at "st")=>`(tactic|((with_reducible refine' r_bmL ?e ?_);(case e=>walk_at "sq")))
local macro_rules | `(tactic|walk_at "st")=>`(tactic|with_reducible refine' i_bm ?_)
local macro_rules | `(tactic|walk_at "st")=>`(tactic|with_reducible refine' i_lc ?_)
local macro_rules | `(tactic|walk_at "st")=>`(tactic|((with_reducible refine' r_ii ?e ?_);(case e=>walk_at "hp")))
local macro_rules | `(tactic|walk_at "st")=>`(tactic|with_reducible refine' q2k ?_)
local macro_rules | `(tactic|walk_at "st")=>`(tactic|((with_reducible refine' r_ik ?e ?_);(case e=>walk_at "hp")))
local macro_rules | `(tactic|walk_at "st")=>`(tactic|with_reducible refine' q2l ?_)
local macro_rules | `(tactic|walk_at "st")=>`(tactic|with_reducible refine' i_izip ?_)
local macro_rules | `(tactic|walk_at "st")=>`(tactic|((with_reducible refine' r_ie ?e ?_);(case e=>walk_at "sq")))
local macro_rules | `(tactic|walk_at "st")=>`(tactic|with_reducible refine' q2i ?_)
local macro_rules | `(tactic|walk_at "st")=>`(tactic|((with_reducible refine' r_it ?e ?_);(case e=>walk_at "sq")))
local macro_rules | `(tactic|walk_at "st")=>`(tactic|with_reducible refine' i_itup ?_)
local macro_rules | `(tactic|walk_at "st")=>`(tactic|((with_reducible refine' r_il ?e ?_);(case e=>walk_at "sq")))
local macro_rules | `(tactic|walk_at "st")=>`(tactic|with_reducible refine' q2m ?_)
local macro_rules | `(tactic|walk_at "st")=>`(tactic|with_reducible refine' i_rng1 ?_)
local macro_rules | `(tactic|walk_at "st")=>`(tactic|with_reducible refine' i_for ?_)
local macro_rules | `(tactic|walk_at "st")=>`(tactic|with_reducible refine' r_neI ?_)
local macro_rules | `(tactic|walk_at "st")=>`(tactic|with_reducible refine' r_eqI ?_)
local macro_rules | `(tactic|walk_at "st")=>`(tactic|with_reducible refine' r_U ?_)
local macro_rules | `(tactic|walk_at "st")=>`(tactic|with_reducible refine' i_cb ?_)
local macro_rules | `(tactic|walk_at "st")=>`(tactic|with_reducible refine' i_if ?_)
local macro_rules | `(tactic|walk_at "st")=>`(tactic|with_reducible refine' r_nv ?_)
local macro_rules | `(tactic|walk_at "st")=>`(tactic|with_reducible refine' i_notV ?_)
local macro_rules | `(tactic|walk_at "st")=>`(tactic|with_reducible refine' r_av ?_)
local macro_rules | `(tactic|walk_at "st")=>`(tactic|with_reducible refine' i_andV ?_)
local macro_rules | `(tactic|walk_at "st")=>`(tactic|with_reducible refine' i_not ?_)
local macro_rules | `(tactic|walk_at "st")=>`(tactic|with_reducible refine' i_or ?_)
local macro_rules | `(tactic|walk_at "st")=>`(tactic|with_reducible refine' i_and ?_)
local macro_rules | `(tactic|walk_at "st")=>`(tactic|with_reducible refine' i_tup ?_)
local macro_rules | `(tactic|walk_at "st")=>`(tactic|with_reducible refine' i_lst ?_)
local macro_rules | `(tactic|walk_at "st")=>`(tactic|with_reducible refine' i_mk ?_)
local macro_rules | `(tactic|walk_at "st")=>`(tactic|with_reducible refine' i_un ?_)
local macro_rules | `(tactic|walk_at "st")=>`(tactic|with_reducible refine' i_brk ?_)
local macro_rules | `(tactic|walk_at "st")=>`(tactic|with_reducible refine' i_next ?_)
local macro_rules | `(tactic|walk_at "st")=>`(tactic|with_reducible refine' i_drop ?_)
local macro_rules | `(tactic|walk_at "st")=>`(tactic|with_reducible refine' r_I0 ?_)
local macro_rules | `(tactic|walk_at "st")=>`(tactic|with_reducible refine' r_b ?_)
local macro_rules | `(tactic|walk_at "st")=>`(tactic|with_reducible refine' i_tB ?_)
local macro_rules | `(tactic|walk_at "st")=>`(tactic|with_reducible refine' i_fn ?_)
local macro_rules | `(tactic|walk_at "st")=>`(tactic|with_reducible refine' i_name ?_)
local macro_rules | `(tactic|walk_at "st")=>`(tactic|with_reducible refine' i_asg ?_)
local macro_rules | `(tactic|walk_at "st")=>`(tactic|with_reducible refine' i_test ?_)
local macro_rules | `(tactic|walk_at "st")=>`(tactic|with_reducible refine' i_ifs ?_)
local macro_rules | `(tactic|walk_at "st")=>`(tactic|with_reducible refine' qly ?_)
local macro_rules | `(tactic|walk_at "st")=>`(tactic|with_reducible refine' i_nil ?_)
local macro_rules | `(tactic|walk_at "st")=>`(tactic|with_reducible refine' i_seq ?_)
local macro_rules | `(tactic|walk_at "st")=>`(tactic|with_reducible refine' i_op ?_)
local macro_rules | `(tactic|walk_at "st")=>`(tactic|with_reducible refine' i_c ?_)
local macro_rules | `(tactic|walk_at "st")=>`(tactic|with_reducible refine' i_fld ?_)
local macro_rules | `(tactic|walk_at "st")=>`(tactic|with_reducible refine' i_cons ?_)
local macro_rules | `(tactic|walk_at "st")=>`(tactic|((with_reducible refine' i_var ?e ?_);(case e=>exact rfl)))
local macro_rules | `(tactic|walk_at "st")=>`(tactic|((with_reducible refine' qfi ?e ?c ?n ?l ?_);(case e=>walk_at "hp");(case c=>walk_at "cls");(case n=>walk_at "noa");(case l=>exact rfl)))
local macro_rules | `(tactic|walk_at "in")=>`(tactic|((try dsimp only[qb8]);walk_at ""))
local macro_rules | `(tactic|walk_at "")=>`(tactic|(repeat walk_at "st"))
local macro_rules | `(tactic|walk_at "bk")=>`(tactic|exact qwj (by dsimp only[qb8,Cx.nox,envOfC];decide +kernel))
local macro_rules | `(tactic|walk_at "hb")=>`(tactic|first|(exact fun _ _ _ _ _ _ us hl=>match us,hl with|[_],_=>rfl)|(exact fun _ _ _ _ _ _ us hl=>match us,hl with|[_,_],_=>rfl)|(exact fun _ _ _ _ _ _ us hl=>match us,hl with|[_,_,_],_=>rfl)|(exact fun _ _ _ _ _ _ us hl=>match us,hl with|[_,_,_,_],_=>rfl)|(exact fun _ _ _ _ _ _ us hl=>match us,hl with|[_,_,_,_,_],_=>rfl)|(exact fun _ _ _ _ _ _ us hl=>match us,hl with|[_,_,_,_,_,_],_=>rfl)|(exact fun _ _ _ _ _ _ us hl=>match us,hl with|[_,_,_,_,_,_,_],_=>rfl))
theorem Dfn.go{P:Program}{w:World}{K:PySem.W.Frag}{mg:Str->Option Value}{base:Heap}{k:Nat}{x:Str}{st:Stmt}{N ps:List Str}{sp:Sp}(D:Dfn K mg x st)(S:Kh N ps (zh st))(len:∀ vs H Q E,sp vs H Q E->vs.length=ps.length)
  (hbody:∀ (f:Addr) (cdv:Value) (A:Around) (outer:List Env) (s:Shared) (H:Hp) (vs:List V) (Q:VK) (E:XK),Qaa k (A.deeper (envOfC x (zh st) s.heap.objs.size f cdv))->sp vs H Q E ->
   ∃ t,PSs (qb8 CX0 P w K mg base N x (zh st) f cdv A outer s H E).nox (qci st) t/\t { nx:=fun _ H'=>Q .non H',rt:=Q } (start N vs) H)
  (hb:∀ (kV doc pm:Value) (an:Option Addr) (cdv ct:Value) (us:List Value),us.length=ps.length->bindArgs (PySem.W.fnOf x x (qd6 st) (qci st) (zh st) .none kV doc pm an cdv ct) ⟨us,[]⟩=pure (ps.zip us):=by walk_at "hb"): Fn P w K mg base (k+1) x ps sp:=D.fn S hb len hbody
variable {P:Program} {w:World} {K:PySem.W.Frag} {mg:Str->Option Value} {base:Heap} {A:Ads}
def q73:Sp:=fun vs H Q _=>∃ n:Nat,vs=[.int (n:Int)]/\n<=100/\Q (.int (10 ^ n)) H
theorem qlq(T:Txt P w K mg A): Fn P w K mg base 1 "power_of_ten" ["digits"] q73:=by
 refine T.qzf.go qju (fun _ _ _ _ h=>?_) (fun _ _ _ _ _ H _ Q _ hr h=>?_)
 ·obtain⟨n,rfl,_⟩:=h;rfl
 ·obtain⟨n,rfl,hn,q⟩:=h
  refine⟨_,(zb (k7 1 qju.nd ki) (zb (qdi Ys rfl (q49 rfl T.qwg (zo za)) (vt 2 qju.nd) (qaz (k7 1 qju.nd (vm qdv zd ki)))) (ko zd))),?_⟩
  walk_at "in"
  refine r_rng1 (n:=n) (by omega) ?_
  refine r_forR n (fun i σ H'=>H'=H/\∃ v,σ=[some (.int (n:Int)),some (.int (10 ^ i)),v]) ⟨rfl,none,rfl⟩ ?_ ?_
  ·rintro σ H' ⟨rfl,v,rfl⟩
   walk_at ""
   exact q
  ·rintro i σ H' hi ⟨rfl,v,rfl⟩
   walk_at ""
   refine r_I (.inr ⟨by decide,by decide⟩) ?_
   walk_at ""
   exact⟨rfl,_,by rw[Int.pow_succ];rfl⟩
def q77(K:PySem.W.Frag): Sp:=fun vs H Q _=>∃ (a:Addr) (ns:List Int),vs=[.ref a]/\SqL K H a (vI ns)/\ns.length<sizeLine/\∀ H' l,Qz H H'->H l=none->H' l=some (.lst (vI (QM.sums 0 ns)))->Q (.ref l) H'
theorem qpj(T:Txt P w K mg A): Fn P w K mg base 1 "running_sums" ["numbers"] (q77 K):=by
 refine T.qzn.go qnd (fun _ _ _ _ h=>?_) (fun _ _ _ _ _ H _ Q _ hr h=>?_)
 ·obtain⟨a,ns,rfl,_⟩:=h;rfl
 ·obtain⟨a,ns,rfl,hs,hn,q⟩:=h
  refine⟨_,(zb (k7 1 qnd.nd (vo (zo ki))) (zb (qdi Ys rfl (qbj za) (vt 2 qnd.nd) (qaz (qbn (qbx Xe Xv Xw qc3 zd (zo (vm qbs (qak K zd (qdx qd3 ki)) ze)))))) (ko zd))),?_⟩
  walk_at "in"
  intro l hl
  have s1:=Qz.new (o:=.lst [V.int 0]) hl
  have hs1:=s1.seq hs
  walk_at ""
  refine qel (vI ns) (fun i σ H'=>Qz H H'/\H' l=some (.lst (vI (QM.sums 0 (ns.take i))))/\∃ v,σ=[some (.ref a),some (.ref l),v]) ⟨s1,zc,none,rfl⟩ (fun i σ H' ⟨s2,_⟩=>s2.seq hs) ?_ ?_
  ·rintro σ H' ⟨s2,h2,v,rfl⟩
   walk_at ""
   refine q _ l s2 hl ?_
   rw[h2,qas,Xh]
  ·rintro i σ H' x hx ⟨s2,h2,v,rfl⟩
   obtain⟨z,hz,rfl⟩:=qj9 hx
   have hi:=(Ji.mp hz).1
   walk_at ""
   refine qac (SqL.of h2) (v:=.int ((ns.take i).sum)) ?_ ?_
   ·have e:=QM.qia (ns.take i) 0
    rw[Up] at e
    exact qkl e
   walk_at ""
   refine qco h2 ?_ ?_
   ·rw[vI,Jd,QM.qj2,Zs];omega
   walk_at ""
   refine⟨Qz.upd s2 hl,?_,_,rfl⟩
   rw[zc,Xq,hz,QM.q9h,qvk]
   rfl
structure PAt(A:Ads)(H:Hp)(p:Addr)(l:List Nat): Prop where
 ex:∃ dx aS,H p=some (.ins A.CP dx [("sums",.ref aS)])/\H aS=some (.lst (vI (QM.sums 0 (wts l))))
theorem qkd(l:List Nat): (wts l).length=l.length:=Jd ..
theorem qn4:∀ l:List Nat,(wts l).sum=((l.sum:Nat):Int)
 |[]=>rfl
 | x::l=>by
   show (x:Int)+(wts l).sum=_
   rw[qn4 l,Yx];omega
theorem zaj(l:List Nat)(i:Nat): (wts l).take i=wts (l.take i):=(W9 ..).symm
def qg6(l:List Nat)(t:Nat): Int:=((t / l.length*l.sum+(l.take (t%l.length)).sum:Nat):Int)
def q8i(A:Ads): Sp:=fun vs H Q _=>∃ (p:Addr) (l:List Nat) (t:Nat),vs=[.ref p,.int (t:Int)]/\PAt A H p l/\1<=l.length/\l.length<=1000/\t<=100000/\Q (.int (qg6 l t)) H
theorem qpm(T:Txt P w K mg A): Fn P w K mg base 1 "weight_before" ["profile","boundary"] (q8i A):=by
 refine T.qz4.go quk (fun _ _ _ _ h=>?_) (fun _ _ _ _ _ H _ Q _ hr h=>?_)
 ·obtain⟨p,l,t,rfl,_⟩:=h;rfl
 ·obtain⟨p,l,t,rfl,⟨dx,aS,h1,h2⟩,hl1,hl2,ht,q⟩:=h
  refine⟨_,(zb (k7 2 quk.nd (vm qca (x_len T.qaw (zk K za)) ki)) (ko (vm qbs (vm qdv (vm qmi zd ze) (qak K (zk K za) (qdx qd3 ki))) (qak K (zk K za) (vm qrb zd ze))))),?_⟩
  walk_at "in"
  refine qau (qbh (SqL.of h2)) ?_
  have e1:(((vI (QM.sums 0 (wts l))).length:Nat):Int)-1=(l.length:Int):=by rw[qas,QM.qj2,qkd];omega
  walk_at ""
  rw[e1]
  refine r_I ⟨by omega,by omega⟩ ?_
  walk_at ""
  refine qac (SqL.of h2) (qkl (QM.qia _ _)) ?_
  walk_at ""
  refine r_I (.inl ⟨?_,?_⟩) ?_
  ·have:=Int.ediv_nonneg (show (0:Int)<=(t:Int) by omega) (show (0:Int)<=(l.length:Int) by omega);omega
  ·have:=Int.ediv_le_self (a:=(t:Int)) (l.length:Int) (by omega);omega
  walk_at ""
  refine r_I (show (0:Int)<(l.length:Int) by omega) ?_
  have hm:t%l.length<l.length:=Nat.mod_lt _ hl1
  have e2:(t:Int)%(l.length:Int)=((t%l.length:Nat):Int):=by omega
  rw[e2]
  refine qac (SqL.of h2) (ye (qcp (QM.qgw (wts l) 0 (t%l.length) (by rw[qkd];omega)))) ?_
  walk_at ""
  have e3:(t:Int) / (l.length:Int)*(0+(wts l).sum)+(0+((wts l).take (t%l.length)).sum)=qg6 l t:=by
   unfold qg6
   rw[qn4,zaj,qn4,Up,Up]
   simp
  rw[e3]
  exact q
def q8j(A:Ads): Sp:=fun vs H Q _=>∃ (p:Addr) (l:List Nat) (a b:Nat),vs=[.ref p,.int (a:Int),.int (b:Int)]/\PAt A H p l/\1<=l.length/\l.length<=1000/\a<=100000/\b<=100000/\Q (.int (qg6 l b-qg6 l a)) H
theorem qpn(T:Txt P w K mg A):
  Fn P w K mg base 2 "weight_between" ["profile","start","end"] (q8j A):=by
 refine T.qz5.go q64 (fun _ _ _ _ h=>?_) (fun _ _ _ _ _ H _ Q _ hr h=>?_)
 ·obtain⟨p,l,a,b,rfl,_⟩:=h;rfl
 ·obtain⟨p,l,a,b,rfl,hp,hl1,hl2,ha,hb,q⟩:=h
  refine⟨_,(ko (vm qca (zj (qpm T) hr (zf za ze)) (zj (qpm T) hr (zf za zd)))),?_⟩
  walk_at "in"
  refine⟨p,l,b,rfl,hp,hl1,hl2,hb,?_⟩
  walk_at ""
  refine⟨p,l,a,rfl,hp,hl1,hl2,ha,?_⟩
  walk_at ""
  exact q
def q7u(A:Ads): Sp:=fun vs H Q _=>∃ (s:Sta) (b:Vh) (n:Int),vs=[.ref b.a,.int n]/\BAt A H s b/\Q (.bl (decide ((s.meters.length:Int)<n))) H
theorem q08(T:Txt P w K mg A): Fn P w K mg base 1 "is_missing" ["book","number"] (q7u A):=by
 refine T.qy1.go q6s (fun _ _ _ _ h=>?_) (fun _ _ _ _ _ H _ Q _ hr h=>?_)
 ·obtain⟨st,b,n,rfl,_⟩:=h;rfl
 ·obtain⟨st,b,n,rfl,B,q⟩:=h
  refine⟨_,(ko (qft qjb zd (x_len T.qaw (zk K za)))),?_⟩
  walk_at "in"
  refine qau (qbh (SqL.of B.oM)) ?_
  walk_at ""
  rw[Jd,B.lm]
  exact q
def GL(H:Hp)(g:Addr)(k:Str)(v:V): Prop:=∃ kvs,H g=some (.dK kvs)/\kj kvs (Sum.inr k)=some v
theorem r_dgG{H:Hp}{g:Addr}{k:Str}{v:V}{Q:VK}(e:GL H g k v)(h:Q v H): rDG (.ref g) (.str k) H Q:=by obtain⟨kvs,h1,h2⟩:=e;exact ku h1 h2 h
def q7z(A:Ads): Sp:=fun vs H Q _=>∃ (s:Sta) (b:Vh) (g:Addr) (n:Nat) (x:Met) (m:Ve),vs=[.ref b.a,.ref g]/\BAt A H s b/\GL H g "meter" (.int ((n+1:Nat):Int))/\s.meters[n]?=some x/\b.ms[n]?=some m/\Q (.ref m.a) H
theorem qd9(T:Txt P w K mg A): Fn P w K mg base 1 "meter_of" ["book","given"] (q7z A):=by
 refine T.qy8.go q6v (fun _ _ _ _ h=>?_) (fun _ _ _ _ _ H _ Q _ hr h=>?_)
 ·obtain⟨st,b,g,n,x,m,rfl,_⟩:=h;rfl
 ·obtain⟨st,b,g,n,x,m,rfl,B,hg,hx,hm,q⟩:=h
  have hu:=yb hr
  refine⟨_,(ko (qak K (zk K za) (vm qca (k6 hu zd kr) ki))),?_⟩
  walk_at "in"
  refine r_dgG hg ?_
  walk_at ""
  have e:((n+1:Nat):Int)-1=(n:Int):=by omega
  rw[e]
  exact qac (SqL.of B.oM) (ye (by rw[Jt,hm];rfl)) q
def quo(A:Ads): Sp:=fun vs H Q _=>∃ (s:Sta) (k:Nat) (x:Met) (m:Ve),vs=[.ref m.a]/\MAt A H s k x m/\∀ d y,m.ds.getLast?=some d->x.devices.getLast?=some y->H d.a=some (.ins A.CD d.dx (qax y))->Q (.ref d.a) H
theorem MAt.last{H:Hp}{s:Sta}{k:Nat}{x:Met}{m:Ve}(M:MAt A H s k x m): ∃ d y,m.ds.getLast?=some d/\x.devices.getLast?=some y/\H d.a=some (.ins A.CD d.dx (qax y)):=by
 have hc:=(M.good.met M.hx).chain
 obtain⟨pre,y,e1,e2⟩:=QM.qqn hc
 have hl:=M.rel.dl
 have hne:m.ds.length≠0:=by rw[hl,e1];simp
 have h1:m.ds[m.ds.length-1]?=some m.ds[m.ds.length-1]:=Jo (by omega)
 have e3:x.devices.getLast?=some y:=e2
 have h2:x.devices[m.ds.length-1]?=some y:=by
  rw[Uh,<- hl] at e3
  exact e3
 exact⟨_,y,(Uh).trans h1,e3,M.qho h1 h2⟩
theorem qf1(T:Txt P w K mg A): Fn P w K mg base 1 "last_dial" ["meter"] (quo A):=by
 refine T.qy6.go q6u (fun _ _ _ _ h=>?_) (fun _ _ _ _ _ H _ Q _ hr h=>?_)
 ·obtain⟨st,k,x,m,rfl,_⟩:=h;rfl
 ·obtain⟨st,k,x,m,rfl,M,q⟩:=h
  obtain⟨d,y,h1,h2,h3⟩:=M.last
  refine⟨_,(ko (qak K (zk K za) (qdx qd3 ki))),?_⟩
  walk_at "in"
  exact qac (SqL.of M.oD) (qim (by rw[Y5,h1];rfl)) (q d y h1 h2 h3)
theorem qf5{x:Met}{y:Dev}(h:x.devices.getLast?=some y): Vbemai.isOut x=y.finish.isSome:=by
 unfold Vbemai.isOut Vbemai.lastDevice;rw[h];rfl
def q7v(A:Ads): Sp:=fun vs H Q _=>∃ (s:Sta) (k:Nat) (x:Met) (m:Ve),vs=[.ref m.a]/\MAt A H s k x m/\Q (.bl (Vbemai.isOut x)) H
theorem qhe(T:Txt P w K mg A): Fn P w K mg base 2 "is_removed" ["meter"] (q7v A):=by
 refine T.qy2.go q6t (fun _ _ _ _ h=>?_) (fun _ _ _ _ _ H _ Q _ hr h=>?_)
 ·obtain⟨st,k,x,m,rfl,_⟩:=h;rfl
 ·obtain⟨st,k,x,m,rfl,M,q⟩:=h
  refine⟨_,(ko (qft qrc (zk K (zj (qf1 T) hr (zo za))) qdh)),?_⟩
  walk_at "in"
  refine⟨st,k,x,m,rfl,M,fun d y h1 h2 h3=>?_⟩
  walk_at ""
  refine⟨rfl,?_⟩
  rw[qf5 h2] at q
  have e:(!decide (eB y=V.non))=y.finish.isSome:=by unfold eB;cases y.finish<;>rfl
  rw[e]
  exact q
structure RAt(A:Ads)(H:Hp)(s:Sta)(k:Nat)(x:Met)(m:Ve): Prop where
 good:QM.Good s
 hx:Vbemai.meter? s k=some x
 rel:Qct s k x m
 o:H m.a=some (.ins A.CM m.dx (qdc x m))
 oR:Rd H m.aR (.dK (rdK m.rd))
 ver:∀ e∈m.rd,H e.a=some (.dK (vsK e.vs))
theorem Rd.same{H H':Hp}{a:Addr}{u:HO}(h:Rd H a u)(e:Qz H H'): Rd H' a u:=by
 rcases h with h|⟨o,h⟩
 ·exact .inl (e _ _ h)
 ·exact .inr ⟨o,e _ _ h⟩
theorem RAt.same{H H':Hp}{s:Sta}{k:Nat}{x:Met}{m:Ve}(h:RAt A H s k x m)(e:Qz H H'): RAt A H' s k x m:=
 ⟨h.good,h.hx,h.rel,e _ _ h.o,Rd.same h.oR e,fun v hv=>e _ _ (h.ver v hv)⟩
theorem MAt.r{H:Hp}{s:Sta}{k:Nat}{x:Met}{m:Ve}(h:MAt A H s k x m): RAt A H s k x m:=⟨h.good,h.hx,h.rel,h.o,.inl h.oR,fun e he=>h.qgd he⟩
theorem qah{H:Hp}{a b:Addr}{o u:HO}(h:H a=some o)(h':H b=some u)(n:o≠u): a≠b:=by
 intro e;subst e;rw[h] at h';exact n (Jj h')
theorem MAt.lockR{H:Hp}{s:Sta}{k:Nat}{x:Met}{m:Ve}(h:MAt A H s k x m)(od:Obj): RAt A (upd H m.aR (.frz od (.dK (rdK m.rd)))) s k x m:=
 ⟨h.good,h.hx,h.rel,by rw[qc (qah h.o h.oR (by intro q;cases q))];exact h.o,.inr ⟨od,zc⟩,fun e he=>by
  rw[qc (qah (h.qgd he) h.oR ?_)]
  ·exact h.qgd he
  ·intro q
   have q:vsK e.vs=rdK m.rd:=HO.dK.inj q
   have hne:e.vs≠[]:=h.rel.rd.ne (e.t,e.vs) (Jk.mpr ⟨e,he,rfl⟩)
   cases ev:e.vs with
   |nil=>exact hne ev
   | cons p r=>
     rw[ev] at q
     cases er:m.rd with
     |nil=>rw[er] at q;cases q
     | cons p' r'=>
       rw[er] at q
       have q2:=(Ww (Ze q).1).2
       cases q2⟩
theorem ql8{H H':Hp}{d D:Addr}{u f o:HO}(hd:H d=some u)(s:Qz (upd H d f) H')(hD:upd H d f D=none)(e:H' D=some o):
  Qz H (upd H' d u)/\H D=none/\upd H' d u D=some o/\H' d=some f:=by
 have hne:D≠d:=by intro q;subst q;rw[zc] at hD;cases hD
 rw[qc hne] at hD
 refine⟨fun b q hb=>?_,hD,by rw[qc hne];exact e,s _ _ zc⟩
 by_cases hbd:b=d
 ·subst hbd
  rw[zc,<- hd];exact hb
 ·rw[qc hbd]
  exact s _ _ (by rw[qc hbd];exact hb)
theorem qgn(t:Nat): ∀ rd:List Qcv,(∃ e∈rd,e.t=t/\kj (rdK rd) (Sum.inl (t:Int))=some (.ref e.a)/\(rd.map fun e=>(e.t,e.vs)).lookup t=some e.vs) \/
  (kj (rdK rd) (Sum.inl (t:Int))=none/\(rd.map fun e=>(e.t,e.vs)).lookup t=none/\∀ e∈rd,e.t≠t)
 |[]=>.inr ⟨rfl,rfl,fun _ h=>nomatch h⟩
 | e::r=>by
   by_cases h:e.t=t
   ·subst h
    refine .inl ⟨e,Jh ..,rfl,?_,?_⟩
    ·show kj ((Sum.inl (e.t:Int),V.ref e.a)::rdK r) _=_
     exact qfs rfl
    ·simp
   ·have hv:kj (rdK (e::r)) (Sum.inl (t:Int))=kj (rdK r) (Sum.inl (t:Int)):=by
     show kj ((Sum.inl (e.t:Int),V.ref e.a)::rdK r) _=_
     refine qfr fun q=>h ?_
     have q:(e.t:Int)=t:=Wx q
     omega
    have hl:((e::r).map fun e=>(e.t,e.vs)).lookup t=(r.map fun e=>(e.t,e.vs)).lookup t:=by
     rw[Jq,X0]
     have:(t==e.t)=false:=by simpa using fun q:t=e.t=>h q.symm
     rw[this]
    rw[hv,hl]
    rcases qgn t r with ⟨e',h1,h2,h3,h4⟩|⟨h1,h2,h3⟩
    ·exact .inl ⟨e',Jm _ h1,h2,h3,h4⟩
    ·refine .inr ⟨h1,h2,fun e' he'=>?_⟩
     rcases Jf.mp he' with rfl|q
     ·exact h
     ·exact h3 e' q
theorem qnv{β:Type}(f:β->V)(n:Nat): ∀ l:List (Nat×β),kj (l.map fun e=>((Sum.inl (e.1:Int):Key),f e.2)) (Sum.inl (n:Int))=(l.lookup n).map f
 |[]=>rfl
 | e::r=>by
   rw[Jq,X0]
   by_cases h:n=e.1
   ·subst h
    rw[qfs rfl]
    simp
   ·rw[qfr fun q=>h (by have q:(e.1:Int)=n:=Wx q;omega)]
    have:(n==e.1)=false:=by simpa using h
    rw[this]
    exact qnv f n r
theorem qnx(vs:List (Nat×Int))(n:Nat): kj (vsK vs) (Sum.inl (n:Int))=(vs.lookup n).map V.int:=qnv V.int n vs
theorem qnt(tl:List (Nat×Nat))(n:Nat): kj (tlK tl) (Sum.inl (n:Int))=(tl.lookup n).map fun (h:Nat)=>V.int (h:Int):=qnv (fun h:Nat=>V.int (h:Int)) n tl
theorem qvp(vs:List (Nat×Int)): (vsK vs).map (·.1)=(wts (vs.map (·.1))).map Sum.inl:=by simp[vsK,wts]
theorem q9m(tl:List (Nat×Nat)): (tlK tl).map (·.1)=(wts (tl.map (·.1))).map Sum.inl:=by simp[tlK,wts]
theorem qid(l:List Nat): vI (wts l)=vN l:=by simp[vI,wts,vN]
theorem qqw{l:List Nat}{z:Int}(h:z∈wts l): ∃ n:Nat,n∈l/\z=(n:Int):=by
 obtain⟨n,hn,rfl⟩:=Jk.mp h;exact⟨n,hn,rfl⟩
theorem qms:∀ {ns:List Int} {l:List Nat},ns.Perm (wts l)->∃ l':List Nat,ns=wts l'/\l'.Perm l:=fun {ns l} h=>by
 have e:wts (ns.map Int.toNat)=ns:=by
  unfold wts
  rw[Xy]
  refine(X5 (g:=id) fun z hz=>?_).trans (Qa _)
  obtain⟨n,_,rfl⟩:=qqw (h.mem_iff.mp hz)
  simp
 refine⟨ns.map Int.toNat,e.symm,?_⟩
 have:=h.map Int.toNat
 have e2:(wts l).map Int.toNat=l:=by
  unfold wts;rw[Xy]
  exact(X5 (g:=id) fun z _=>by simp).trans (Qa _)
 rw[e2] at this
 exact this
theorem qn3{l:List Nat}(h:(wts l).Pairwise (·<=·)): l.Pairwise (·<=·):=by
 unfold wts at h
 rw[U1] at h
 exact h.imp fun q=>by omega
theorem qni{l k:List Nat}(h:l.Pairwise (·<=·))(p:l.Perm k)(hk:QM.Inc k): l=k:=
 QM.qp0 (QM.qp2 h (p.nodup_iff.mpr hk.nodup)) hk fun x=>p.mem_iff
def q75(A:Ads): Sp:=fun vs H Q _=>∃ (s:Sta) (k:Nat) (x:Met) (m:Ve) (t:Nat),vs=[.ref m.a,.int (t:Int)]/\MAt A H s k x m/\(x.devices.find? (Vbemai.within t)=none->Q .non H) /\
 ∀ (i:Nat) (y:Dev) (d:Qe8),x.devices.find? (Vbemai.within t)=some y->x.devices[i]?=some y->m.ds[i]?=some d->Q (.ref d.a) H
def qur(A:Ads): Sp:=fun vs H Q _=>∃ (s:Sta) (k:Nat) (x:Met) (m:Ve) (t:Nat),vs=[.ref m.a,.int (t:Int)]/\RAt A H s k x m/\∀ H',Qz H H'->(QM.qbu s k t=none->Q .non H') /\
 ∀ (p:Nat×Int) (a:Addr),QM.qbu s k t=some p->H a=none->H' a=some (.tup [.int (p.1:Int),.int p.2])->Q (.ref a) H'
def qum(A:Ads): Sp:=fun vs H Q _=>∃ (s:Sta) (k:Nat) (x:Met) (m:Ve) (t:Nat),vs=[.ref m.a,.int (t:Int)]/\MAt A H s k x m/\∀ H',Qz H H'->Q (.bl ((Vbemai.readingsOf s k).any fun r=>decide (t<=r.at_))) H'
def q7y(A:Ads): Sp:=fun vs H Q _=>∃ (s:Sta) (k:Nat) (x:Met) (m:Ve),vs=[.ref m.a]/\MAt A H s k x m/\∀ H' l,Qz H H'->H l=none->H' l=some (.lst (vN (QM.kn s k)))->Q (.ref l) H'
def q7w(A:Ads): Sp:=fun vs H Q _=>∃ (s:Sta) (k:Nat) (x:Met) (m:Ve) (t:Nat),vs=[.ref m.a,.int (t:Int)]/\MAt A H s k x m/\∀ H',Qz H H'->Q (.bl (QM.qfq s k x t)) H'
def q8h(A:Ads): Sp:=fun vs H Q _=>∃ (s:Sta) (b:Vh) (t:Nat),vs=[.ref b.a,.int (t:Int)]/\BAt A H s b/\∀ H' l,Qz H H'->H l=none->H' l=some (.lst (vN (Vbemai.unread s t)))->Q (.ref l) H'
def But(p:Addr)(H H':Hp): Prop:=∀ b o,b≠p->H b=some o->H' b=some o
theorem But.refl(p:Addr)(H:Hp): But p H H:=fun _ _ _ h=>h
theorem But.upd{p:Addr}{H H1:Hp}{o:HO}(h:But p H H1): But p H (upd H1 p o):=fun b u n q=>by rw[qc n];exact h b u n q
theorem But.new{p a:Addr}{H H1:Hp}{o:HO}(h:But p H H1)(e:H a=none): But p H (L2.upd H1 a o):=fun b u n q=>by rw[qc (k8 q e)];exact h b u n q
theorem But.same{p:Addr}{H H1 H2:Hp}(h:But p H H1)(e:Qz H1 H2): But p H H2:=fun b u n q=>e _ _ (h b u n q)
def q7g(A:Ads)(K:PySem.W.Frag): Sp:=fun vs H Q _=>∃ (p dx a:Addr) (ns:List Int),vs=[.ref p,.ref a]/\H p=some (.ins A.CP dx [])/\SqL K H a (vI ns)/\ns.length<sizeLine /\
 ∀ H' aS,But p H H'->H aS=none->H' p=some (.ins A.CP dx [("sums",.ref aS)])->H' aS=some (.lst (vI (QM.sums 0 ns)))->Q .non H'
def q7e(A:Ads): Sp:=fun vs H Q _=>∃ (p dx:Addr) (y:Dev),vs=[.ref p,.int (y.start:Int),.int y.value,.int (y.digits:Int),.int y.factor]/\y.finish=none/\y.digits<=100/\H p=some (.ins A.CD dx [])/\Q .non (upd H p (.ins A.CD dx (qax y)))
def q7f(A:Ads): Sp:=fun vs H Q _=>∃ (p dx d:Addr) (x:Met) ,vs=[.ref p,.int (x.kind:Int),.int (x.zone:Int),.int (x.zone2:Int),.int (x.profile:Int),.int x.rate,.ref d]/\H p=some (.ins A.CM dx []) /\
 ∀ H' aD aR aT,But p H H'->H aD=none->H aR=none->H aT=none->aD≠aR->aD≠aT->aR≠aT->H' p=some (.ins A.CM dx (qdc x ⟨p,dx,aD,aR,aT,[],[],[]⟩))->H' aD=some (.lst [.ref d])->H' aR=some (.dK [])->H' aT=some (.dK [])->Q .non H'
def q7c(A:Ads): Sp:=fun vs H Q _=>∃ (p dx:Addr),vs=[.ref p]/\H p=some (.ins A.CB dx []) /\
 ∀ H' b,But p H H'->b.a=p->BAt A H' Vbemai.start b->(∀ c∈qb3 A Vbemai.start b,c.1=p\/H c.1=none)->Q .non H'
def q7d(A:Ads)(K:PySem.W.Frag): Sp:=fun vs H Q _=>∃ (c dx aK aA p:Addr) (ns:List Int) (tl:Int) (rm:Bool),vs=[.ref c,.ref aK,.ref aA,.ref p,.int tl,.bl rm]/\H c=some (.ins A.CC dx [])/\H aA=some (.lst (vI ns))/\ns.length<sizeLine /\
 ∀ H' aO,But c H H'->H aO=none->H' c=some (.ins A.CC dx [("knots",.ref aK),("amounts",.ref aA),("totals",.ref aO),("profile",.ref p),("tail",.int tl),("removed",.bl rm)])->H' aO=some (.lst (vI (QM.sums 0 ns)))->Q .non H'
theorem qro{H:Hp}{s:Sta}{b:Vh}(B:BAt A H s b){x:Met}(hx:QM.Qep s.profiles.length x): ∃ p:ProA,b.ps[x.profile]?=some p/\H p.a=some (.ins A.CP p.dx [("sums",.ref p.aS)])/\H p.aS=some (.lst (vI (QM.sums 0 (wts (QM.qa2 (Vbemai.profileOf s x)))))):=by
 have h1:=hx.prof
 have h0:x.profile<b.ps.length:=by rw[B.lp];omega
 have h2:b.ps[x.profile]?=some b.ps[x.profile]:=Jo h0
 refine⟨_,h2,?_⟩
 have h3:(([1]:List Nat)::s.profiles)[x.profile]?=some (QM.qa2 (Vbemai.profileOf s x)):=by
  unfold Vbemai.profileOf
  cases e:x.profile with
  |zero=>rfl
  | succ n=>
    have hn:n<s.profiles.length:=by omega
    have hg:s.profiles[n]?=some s.profiles[n]:=Jo hn
    rw[Uz,Jc (Nat.succ_ne_zero n),Za,hg]
    have hp:=(B.good.pw _ (List.getElem_mem hn)).1
    show _=some (QM.qa2 s.profiles[n])
    unfold QM.qa2
    rw[Jc]
    intro z
    rw[z] at hp
    exact absurd hp (by decide)
 have hh:=B.pro h3 h2
 exact⟨hh _ (Jh ..),hh _ (Jm _ (Jh ..))⟩
def Qc8(A:Ads)(H H':Hp)(s:Sta)(b:Vh)(n:Nat)(x:Met)(c:Addr): Prop:=∃ dx aK aA aO pr,b.ps[x.profile]?=some pr/\H c=none/\H aK=none/\H aA=none/\H aO=none /\
 H' c=some (.ins A.CC dx [("knots",.ref aK),("amounts",.ref aA),("totals",.ref aO),("profile",.ref pr.a),("tail",.int (Vbemai.rateOf x)),("removed",.bl (Vbemai.isOut x))]) /\
 H' aK=some (.lst (vN (QM.kn s (n+1))))/\H' aA=some (.lst (vI (QM.am s (n+1))))/\H' aO=some (.lst (vI (QM.sums 0 (QM.am s (n+1)))))
theorem Qc8.same{H H' H2:Hp}{s:Sta}{b:Vh}{n:Nat}{x:Met}{c:Addr}(h:Qc8 A H H' s b n x c)(e:Qz H' H2): Qc8 A H H2 s b n x c:=by
 obtain⟨dx,aK,aA,aO,pr,h0,h1,h2,h3,h4,h5,h6,h7,h8⟩:=h
 exact⟨dx,aK,aA,aO,pr,h0,h1,h2,h3,h4,e _ _ h5,e _ _ h6,e _ _ h7,e _ _ h8⟩
theorem Qc8.upd{H H':Hp}{s:Sta}{b:Vh}{n:Nat}{x:Met}{c N:Addr}{u o:HO}(h:Qc8 A H H' s b n x c)(e:H N=some u): Qc8 A H (L2.upd H' N o) s b n x c:=by
 obtain⟨dx,aK,aA,aO,pr,h0,h1,h2,h3,h4,h5,h6,h7,h8⟩:=h
 exact⟨dx,aK,aA,aO,pr,h0,h1,h2,h3,h4,by rw[qc (k8 e h1).symm];exact h5,by rw[qc (k8 e h2).symm];exact h6,by rw[qc (k8 e h3).symm];exact h7,by rw[qc (k8 e h4).symm];exact h8⟩
theorem Qc8.cat{H H':Hp}{s:Sta}{b:Vh}{n:Nat}{x:Met}{c:Addr}(h:Qc8 A H H' s b n x c)(B:BAt A H' s b)(hx:s.meters[n]?=some x): CAt A H' s (n+1) x c:=by
 obtain⟨dx,aK,aA,aO,pr,h0,h1,h2,h3,h4,h5,h6,h7,h8⟩:=h
 have hm:=QM.meter?_at hx
 obtain⟨p,g1,g2,g3⟩:=qro B (B.good.met hm)
 rw[h0] at g1
 cases g1
 exact⟨B.good,hm,dx,aK,aA,aO,pr.a,pr.dx,pr.aS,h5,h6,h7,h8,g2,g3⟩
def q7m(A:Ads): Sp:=fun vs H Q _=>∃ (s:Sta) (b:Vh) (n:Nat) (x:Met) (m:Ve),vs=[.ref b.a,.ref m.a]/\BAt A H s b/\s.meters[n]?=some x/\b.ms[n]?=some m/\∀ H' c,Qz H H'->Qc8 A H H' s b n x c->Q (.ref c) H'
def q8c(A:Ads): Sp:=fun vs H Q _=>∃ (s:Sta) (k:Nat) (x:Met) (m:Ve),vs=[.ref m.a]/\MAt A H s k x m/\Q (.int (Vbemai.rateOf x)) H
def q7i(A:Ads): Sp:=fun vs H Q _=>∃ (s:Sta) (k:Nat) (x:Met) (m:Ve) (i a b:Nat),vs=[.ref m.a,.int (a:Int),.int (b:Int)]/\MAt A H s k x m/\(QM.kn s k)[i]?=some a/\(QM.kn s k)[i+1]?=some b/\∀ H',Qz H H'->Q (.int (QM.qb2 (QM.qal s k) x.devices a b)) H'
def q7n(A:Ads): Sp:=fun vs H Q _=>∃ (s:Sta) (k:Nat) (x:Met) (m:Ve) (t:Nat),vs=[.ref m.a,.int (t:Int)]/\MAt A H s k x m/\(∃ y,QM.qdp x.devices t=some y)/\∀ H' y (d:Qe8),Qz H H'->QM.qdp x.devices t=some y->H d.a=some (.ins A.CD d.dx (qax y))->Q (.ref d.a) H'
def q78(A:Ads): Sp:=fun vs H Q _=>∃ (s:Sta) (k:Nat) (x:Met) (m:Ve) (y:Dev) (d:Qe8) (t:Nat),vs=[.ref m.a,.ref d.a,.int (t:Int)]/\MAt A H s k x m/\H d.a=some (.ins A.CD d.dx (qax y))/\(t=y.start\/(∃ v,y.finish=some (t,v))\/∃ v,(QM.qal s k).lookup t=some v)/\∀ H',Qz H H'->Q (.int (QM.qby (QM.qal s k) y t)) H'
def q8e(A:Ads): Sp:=fun vs H Q _=>∃ (s:Sta) (k:Nat) (x:Met) (c:Addr) (t:Nat),vs=[.ref c,.int (t:Int)]/\CAt A H s k x c/\t<=10000/\∀ H',Qz H H'->Q (.int (Vbemai.by_ s k t)) H'
def q8g(A:Ads): Sp:=fun vs H Q _=>∃ (s:Sta) (k:Nat) (x:Met) (c:Addr) (i a b t:Nat) (v:Int),vs=[.ref c,.int (i:Int),.int (t:Int)]/\CAt A H s k x c/\(QM.kn s k)[i]?=some a/\(QM.kn s k)[i+1]?=some b/\(QM.am s k)[i]?=some v/\a<=t/\t<=b/\a<b /\
 Q (.int (Vbemai.part (Vbemai.weight (Vbemai.profileOf s x)) a b t v)) H
def q8d(A:Ads): Sp:=fun vs H Q _=>∃ (s:Sta) (k:Nat) (x:Met) (c:Addr) (t u:Nat),vs=[.ref c,.int (t:Int),.int (u:Int)]/\CAt A H s k x c/\t<=10000/\u<=10000/\∀ H',Qz H H'->Q (.int (Vbemai.between s k t u)) H'
def qea(g:Nat×Nat×Int): List V:=[.int (g.1:Int),.int (g.2.1:Int),.int g.2.2]
def q7q(A:Ads): Sp:=fun vs H Q _=>∃ (s:Sta) (k:Nat) (x:Met) (c:Addr),vs=[.ref c]/\CAt A H s k x c/\∀ H' l,Qz H H'->H l=none->Qeq H' l ((Vbemai.gaps (Vbemai.knotsOf s k)).map qea)->Q (.ref l) H'
def q7s(A:Ads): Sp:=fun vs H Q _=>∃ (s:Sta) (k:Nat) (x:Met) (c:Addr) (q:Nat),vs=[.ref c,.int (q:Int)]/\CAt A H s k x c/\Q (.int (Vbemai.status s k q:Int)) H
def qdf(g:Nat×Nat×Nat): List V:=[.int (g.1:Int),.int (g.2.1:Int),.int (g.2.2:Int)]
def q72(A:Ads): Sp:=fun vs H Q _=>∃ (s:Sta) (k:Nat) (x:Met) (m:Ve) (a b:Nat),vs=[.ref m.a,.int (a:Int),.int (b:Int)]/\MAt A H s k x m/\∀ H' l,Qz H H'->H l=none->Qeq H' l ((QM.qaq b a 0 (QM.toldOf s k)).map qdf)->Q (.ref l) H'
def q7r(A:Ads): Sp:=fun vs H Q _=>∃ (s:Sta) (k:Nat) (x:Met) (m:Ve) (q:Nat),vs=[.ref m.a,.int (q:Int)]/\MAt A H s k x m/\∀ H',Qz H H'->Q (.int (Vbemai.hand s k q:Int)) H'
def q8f(A:Ads): Sp:=fun vs H Q _=>∃ (s:Sta) (b:Vh) (n:Nat) (x:Met) (m:Ve) (h t u:Nat),vs=[.ref b.a,.ref m.a,.int (h:Int),.int (t:Int),.int (u:Int)]/\BAt A H s b/\s.meters[n]?=some x/\b.ms[n]?=some m/\t<=u/\u<=10000 /\
 ∀ H',Qz H H'->Q (.int (Vbemai.held s (n+1) h t u)) H'
def q8a(A:Ads): Sp:=fun vs H Q _=>∃ (s:Sta) (k:Nat) (x:Met) (m:Ve),vs=[.ref m.a]/\MAt A H s k x m/\Q (.int (QM.signOf x.kind)) H
def quq(A:Ads): Sp:=fun vs H Q _=>∃ (s:Sta) (b:Vh) (t u:Nat),vs=[.ref b.a,.int (t:Int),.int (u:Int)]/\BAt A H s b/\t<=u/\u<=10000/\∀ H' l,Qz H H'->H l=none->H' l=some (.lst (vI (Vbemai.netsOf s t u)))->Q (.ref l) H'
def qup(K:PySem.W.Frag): Sp:=fun vs H Q _=>∃ (a:Addr) (ns:List Int),vs=[.ref a]/\SqL K H a (vI ns)/\ns.length<=1000/\∀ H' l,Qz H H'->H l=none->H' l=some (.lst (vI (Vbemai.told ns)))->Q (.ref l) H'
def qus(A:Ads): Sp:=fun vs H Q _=>∃ (s:Sta) (b:Vh) (kd z h t u:Nat),vs=[.ref b.a,.int (kd:Int),.int (z:Int),.int (h:Int),.int (t:Int),.int (u:Int)]/\BAt A H s b/\t<=u/\u<=10000 /\
 ∀ H',Qz H H'->Q (.int (Vbemai.sumOf (Vbemai.those s fun x=>x.kind==kd&&x.zone==z) fun m=>Vbemai.held s m h t u)) H'
def q79(A:Ads): Sp:=fun vs H Q _=>∃ (s:Sta) (k:Nat) (x:Met) (m:Ve) (z:Nat),vs=[.ref m.a,.int (z:Int)]/\MAt A H s k x m/\Q (.int (QM.qfo x z)) H
def q76(A:Ads): Sp:=fun vs H Q _=>∃ (s:Sta) (b:Vh) (z t u:Nat),vs=[.ref b.a,.int (z:Int),.int (t:Int),.int (u:Int)]/\BAt A H s b/\t<=10000/\u<=10000/\∀ H',Qz H H'->Q (.int (Vbemai.rest s z t u)) H'
theorem r_d2Kr{σ:St}{H:Hp}{Q:VK}{tb tc:TE}{a:Addr}{kvs:List (Key×V)}(e:Rd H a (.dK kvs))(h:tb σ H fun y H2=>tc σ H2 fun z H3=>qgl a y z H3 Q): rD2 tb tc σ Q (.ref a) H:=⟨a,rfl,.inl ⟨kvs,e⟩,h⟩
theorem r_d2Ir{H:Hp}{Q:VK}{a:Addr}{kvs:List (Key×V)}{k:Int}{z:V}(e:Rd H a (.dK kvs))(h:Q ((kj kvs (Sum.inl k)).getD z) H): qgl a (.int k) z H Q:=⟨_,.inl ⟨kvs,Sum.inl k,e,rfl,rfl⟩,h⟩
theorem qvv{t:Nat}{y:Dev}{e:Nat×Int}(ef:y.finish=some e): Vbemai.within t y=(decide (y.start<t)&&decide (t<e.1)):=by unfold Vbemai.within;rw[ef]
theorem q1g(T:Txt P w K mg A): Fn P w K mg base 1 "readable_dial" ["meter","boundary"] (q75 A):=by
 refine T.qzk.go quh (fun _ _ _ _ h=>?_) (fun _ _ _ _ _ H _ Q _ hr h=>?_)
 ·obtain⟨st,k,x,m,t,rfl,_⟩:=h;rfl
 ·obtain⟨st,k,x,m,t,rfl,M,q1,q2⟩:=h
  refine⟨_,(zb (qdi Ys rfl (qbj (zk K za)) (vt 2 quh.nd) (qaz (vf (PW.pt (qe1 (vc qeh (zk K ze) zd) (qe2 (PW.pt (qmw (vc qjc (zk K ze) qdh) (qmx (vc qeh zd (zk K ze)))))))) ze))) (ko qdh)),?_⟩
  walk_at "in"
  refine qel (m.ds.map fun d=>.ref d.a) (fun i σ H'=>H'=H/\(x.devices.take i).find? (Vbemai.within t)=none/\∃ v,σ=[some (.ref m.a),some (.int (t:Int)),v]) ⟨rfl,rfl,none,rfl⟩ (fun i σ H' ⟨e,_⟩=>by rw[e];exact SqL.of M.oD) ?_ ?_
  ·rintro σ H' ⟨rfl,h2,v,rfl⟩
   walk_at ""
   refine q1 ?_
   rw[Jd,M.rel.dl,Xh] at h2
   exact h2
  ·rintro i σ H' v hv ⟨rfl,h2,v',rfl⟩
   rw[Jt] at hv
   cases hd:m.ds[i]? with
   |none=>rw[hd] at hv;cases hv
   | some d=>
     rw[hd] at hv
     obtain rfl:V.ref d.a=v:=Jj hv
     have hi:i<x.devices.length:=by rw[<- M.rel.dl];exact(Ji.mp hd).1
     have hy:x.devices[i]?=some x.devices[i]:=Jo hi
     generalize x.devices[i]=y at hy
     have ho:=M.qho hd hy
     have hk:∀ c:Bool,Vbemai.within t y=c->(x.devices.take (i+1)).find? (Vbemai.within t)=if c=true then some y else none:=fun c hc=>by
      rw[Xq,hy,List.find?_append,h2]
      simp only[Option.toList,Yg,List.find?_nil,hc]
      cases c<;>rfl
     have hno:Vbemai.within t y=false->(H'=H'/\(x.devices.take (i+1)).find? (Vbemai.within t)=none/\∃ v,[some (V.ref m.a),some (V.int (t:Int)),some (V.ref d.a)]=[some (V.ref m.a),some (V.int (t:Int)),v]):=fun hc=>⟨rfl,hk false hc,_,rfl⟩
     have hyes:Vbemai.within t y=true->Q (.ref d.a) H':=fun hc=>by
      refine q2 i y d ?_ hy hd
      have e:=hk true hc
      rw[<- List.take_append_drop (i+1) x.devices,List.find?_append,e];rfl
     walk_at ""
     refine ifD (fun c1=>?_) (fun c1=>?_)
     ·walk_at ""
      refine⟨rfl,?_⟩
      walk_at ""
      refine ifB (fun c2=>?_) (fun c2=>?_)
      ·refine qag ?_
       walk_at ""
       refine hyes ?_
       unfold Vbemai.within
       have e:y.finish=none:=by unfold eB at c2;cases ef:y.finish with
        |none=>rfl
        |some e=>rw[ef] at c2;cases c2
       rw[e,Xm (show y.start<t by omega)];rfl
      ·cases ef:y.finish with
       |none=>unfold eB at c2;rw[ef] at c2;cases c2
       | some e=>
         walk_at ""
         have e2:eB y = .int (e.1:Int):=by unfold eB;rw[ef]
         rw[e2]
         walk_at ""
         refine ifD (fun c3=>?_) (fun c3=>?_)
         ·walk_at ""
          refine hyes ?_
          rw[qvv ef,Xm (show y.start<t by omega),Xm (show t<e.1 by omega)];rfl
         ·walk_at ""
          refine hno ?_
          rw[qvv ef,J7 (show ¬ t<e.1 by omega),Qw]
     ·refine qam ?_
      walk_at ""
      refine hno ?_
      unfold Vbemai.within
      rw[J7 (show ¬ y.start<t by omega)];rfl
theorem qlr(T:Txt P w K mg A): Fn P w K mg base 1 "standing_reading" ["meter","boundary"] (qur A):=by
 refine T.qzu.go qne (fun _ _ _ _ h=>?_) (fun _ _ _ _ _ H _ Q _ hr h=>?_)
 ·obtain⟨st,k,x,m,t,rfl,_⟩:=h;rfl
 ·obtain⟨st,k,x,m,t,rfl,R,q⟩:=h
  have hu:=yb hr
  refine⟨_,(zb (k7 2 qne.nd (qjf hu (zk K za) zd qge ⟨rfl,rfl,rfl,rfl⟩)) (zb (vf (vc qay (x_len T.qaw ze) ki) qdh) (zb (k7 3 qne.nd (qdw (qxs rfl) rfl T.b_max QP.boot_max (zo ze))) (zb (vf (vc qay (k6 hu ze k9) (zq T.qw7)) qdh) (ko (qgf (zf k9 (k6 hu ze k9)))))))),?_⟩
  walk_at "in"
  refine qfi R.o T.clM T.qhn rfl ?_
  refine r_d2Kr R.oR ?_
  walk_at ""
  refine qf4 fun p hp=>?_
  have s1:=Qz.new (o:=.dK []) hp
  have R1:=R.same s1
  refine r_d2Ir R1.oR ?_
  rcases qgn t m.rd with ⟨e,he,rfl,hv,hl⟩|⟨hv,hl,hn⟩
  ·rw[hv]
   have hver:=R1.ver e he
   have hve:QM.qao (m.rd.map fun e=>(e.t,e.vs)) e.t=e.vs:=by unfold QM.qao;rw[hl];rfl
   have hne:e.vs≠[]:=R.rel.rd.ne (e.t,e.vs) (Jk.mpr ⟨e,he,rfl⟩)
   have hpos:0<e.vs.length:=Ua.mpr hne
   walk_at ""
   refine qau (lenK hver) ?_
   walk_at ""
   refine ifD (fun c=>?_) (fun _=>?_)
   ·exfalso
    have:(vsK e.vs).length=e.vs.length:=Jd ..
    omega
   walk_at ""
   refine⟨e.a,vsK e.vs,wts (e.vs.map (·.1)),rfl,hver,qvp _,by rw[qkd,Jd];exact hpos,fun mx h1 h2=>?_⟩
   obtain⟨n,hn,rfl⟩:=qqw h1
   obtain⟨r,hr1,hr2,hr3⟩:=QM.q9b R.rel.rd (QM.qgo R.good k) (t:=e.t) (m:=n) (by rw[hve];exact hn) (fun j hj=>by
    rw[hve] at hj
    have:=h2 (j:Int) (Jk.mpr ⟨j,hj,rfl⟩)
    omega)
   rw[hve] at hr3
   have hg:kj (vsK e.vs) (Sum.inl (n:Int))=some (.int r.value):=by rw[qnx,hr3];rfl
   have hro : -1<=r.value:=by
    have hmem:r∈Vbemai.readingsOf st k:=(J2.mp (Zg hr1)).1
    exact(R.good.ro r (J2.mp hmem).1).v0
   have hst:QM.qbu st k e.t=if r.value<0 then none else some (n,r.value):=by
    unfold QM.qbu;rw[hr1];show (if r.value<0 then none else some (r.version,r.value))=_;rw[hr2]
   walk_at ""
   refine qhy hver hg ?_
   walk_at ""
   refine ifD (fun c=>?_) (fun c=>?_)
   ·walk_at ""
    refine(q _ s1).1 ?_
    rw[hst,Je (by omega)]
   ·walk_at ""
    refine qhy hver hg ?_
    walk_at ""
    intro a ha
    exact(q _ (Qz.upd s1 (s1.free ha))).2 (n,r.value) a (by rw[hst,Jc (by omega)]) (s1.free ha) zc
  ·rw[hv]
   have hve:QM.qao (m.rd.map fun e=>(e.t,e.vs)) t=[]:=by unfold QM.qao;rw[hl];rfl
   have hat:=(QM.qvo R.rel.rd t).mp hve
   walk_at ""
   refine qau (lenK (kvs:=[]) zc) ?_
   walk_at ""
   refine(q _ s1).1 ?_
   unfold QM.qbu;rw[hat];rfl
theorem qmh:∀ (N:Nat) {l:List Nat},l.Nodup->(∀ x∈l,x<N)->l.length<=N
 | 0,l,_,h=>by
   cases l with
   |nil=>exact Jp _
   |cons a r=>exact absurd (h a (Jh ..)) (Nat.not_lt_zero _)
 | N+1,l,hn,h=>by
   by_cases hm:N∈l
   ·have h1:=qmh N (hn.erase N) fun x hx=>by
     have:=(hn.mem_erase_iff).mp hx
     have h2:=h x this.2
     have:=this.1
     omega
    rw[List.length_erase_of_mem hm] at h1
    omega
   ·have h1:=qmh N hn fun x hx=>by
     have h2:=h x hx
     have:x≠N:=by intro q;subst q;exact hm hx
     omega
    omega
section
variable {H:Hp} {s:Sta} {k:Nat} {x:Met} {m:Ve}
theorem qh0(G:QM.Good s)(R:Qct s k x m): m.rd.length<=10001:=by
 have h:=qmh 10001 R.rd.nd fun t ht=>by
  obtain⟨r,hr,rfl⟩:=(QM.qi2 R.rd t).mp ht
  have:=(G.ro r (J2.mp hr).1).tb
  omega
 rw[Jd,Jd] at h
 exact h
theorem vs_len(G:QM.Good s)(R:Qct s k x m){e:Qcv}(he:e∈m.rd): e.vs.length<=256:=by
 have h1:QM.qao (m.rd.map fun e=>(e.t,e.vs)) e.t=e.vs:=by
  unfold QM.qao
  have:=(QM.lookup_mem R.rd.nd).mpr (Jk.mpr ⟨e,he,rfl⟩:(e.t,e.vs)∈m.rd.map fun e=>(e.t,e.vs))
  rw[this];rfl
 have h2:=(R.rd.rel e.t).length_eq
 rw[h1,Jd] at h2
 have h3:(QM.atT e.t (Vbemai.readingsOf s k)).length<=(Vbemai.readingsOf s k).length:=Xp ..
 have h4:(Vbemai.readingsOf s k).length<=s.readings.length:=Xp ..
 have:=G.rl
 omega
theorem qve(G:QM.Good s)(R:Qct s k x m): m.tl.length<=64:=by
 have h1:=R.tl.length_eq
 have h2:(QM.toldOf s k).length<=s.assigns.length:=by
  unfold QM.toldOf;rw[Jd];exact Xp ..
 have:=G.al
 omega
end
theorem small(n:Nat){m:Nat}(h:m<=n)(hn:n<sizeLine:=by decide): m<sizeLine:=Wu h hn
theorem qrz{rd:List Qcv}{i:Nat}{k:Key}{v:V}(h:(rdK rd)[i]?=some (k,v)): ∃ e,rd[i]?=some e/\k=Sum.inl (e.t:Int)/\v = .ref e.a:=by
 unfold rdK at h
 rw[Jt] at h
 cases q:rd[i]? with
 |none=>rw[q] at h;cases h
 |some e=>rw[q] at h;cases h;exact⟨e,rfl,rfl,rfl⟩
theorem q03(T:Txt P w K mg A): Fn P w K mg base 1 "has_reading_from" ["meter","boundary"] (qum A):=by
 refine T.qyw.go qm9 (fun _ _ _ _ h=>?_) (fun _ _ _ _ _ H _ Q _ hr h=>?_)
 ·obtain⟨st,k,x,m,t,rfl,_⟩:=h;rfl
 ·obtain⟨st,k,x,m,t,rfl,M,q⟩:=h
  have hu:=yb hr
  refine⟨_,(ko (qdw (cr_any rfl) rfl T.b_any QP.boot_any (zo (qmp (qdg rfl qm9.nd (own:=[("read_at",2)]) (qrj (zk K za)) (by walk_at "bk") (fun _ _ _ _ _=>(vt 2 qm9.nd)) (fun _ _ _ _ _=>qei) (fun _ _ _ _ _=>(qft qdu ze zd))))))),?_⟩
  walk_at "in"
  refine⟨m.aR,_,M.oR,True.intro,fun od=>?_⟩
  have hl:=M.lockR od
  have e0:upd H m.aR (.frz od (.dK (rdK m.rd))) m.aR=some (.frz od (.dK (rdK m.rd))):=zc
  walk_at ""
  refine qfi hl.o T.clM T.qhn rfl ?_
  refine r_ik e0 ?_
  refine qe4 m.rd.length (fun i=>((m.rd.take i).map fun e=>decide (t<=e.t)).map V.bl) rfl (fun i H' hi s2=>⟨s2 _ _ e0,by rw[rdK,Jd];exact hi⟩) (fun H' s2=>⟨s2 _ _ e0,by rw[rdK,Jd];exact Jp _⟩) ?_ ?_
  ·rintro D i H1 v H' hi p ⟨rfl,kk,vv,h1,rfl⟩
   obtain⟨e,he,rfl,_⟩:=qrz h1
   dsimp only[kV]
   walk_at ""
   refine⟨rfl,?_⟩
   walk_at ""
   refine qag ?_
   walk_at ""
   refine p.yes (small 10001 (by have:=qh0 M.good M.rel;omega)) (Qz.refl _) ?_
   ·show List.map V.bl (List.map _ (m.rd.take (i+1)))=_
    rw[Xq,he]
    simp only[Jv,Option.toList,Jq,Zv]
    congr 3
    exact Yt.mpr (by omega)
  ·intro D H' hD s2 hD2
   obtain⟨s3,hD3,hD4,hd⟩:=ql8 M.oR s2 hD hD2
   refine⟨hd,?_⟩
   walk_at ""
   refine⟨D,_,rfl,SqL.of hD4,?_⟩
   have e:=QM.qv2 st k t M.rel.rd
   rw[Xh]
   have e2:((m.rd.map fun e=>decide (t<=e.t)).any id)=(Vbemai.readingsOf st k).any fun r=>decide (t<=r.at_):=by
    rw[e,Xy,List.any_map,List.any_map];rfl
   rw[e2]
   exact q _ s3
theorem MAt.dial{H:Hp}{s:Sta}{k:Nat}{x:Met}{m:Ve}(M:MAt A H s k x m){i:Nat}{v:V}(hv:(m.ds.map fun d=>V.ref d.a)[i]?=some v): ∃ d y,m.ds[i]?=some d/\x.devices[i]?=some y/\v = .ref d.a/\H d.a=some (.ins A.CD d.dx (qax y)):=by
 rw[Jt] at hv
 cases hd:m.ds[i]? with
 |none=>rw[hd] at hv;cases hv
 | some d=>
   rw[hd] at hv
   have hi:i<x.devices.length:=by rw[<- M.rel.dl];exact(Ji.mp hd).1
   have hy:x.devices[i]?=some x.devices[i]:=Jo hi
   exact⟨d,_,rfl,hy,(Jj hv).symm,M.qho hd hy⟩
theorem q99{α:Type}(f:α->Nat){l:List α}{i:Nat}{y:α}(h:l[i]?=some y): vN ((l.take (i+1)).map f)=vN ((l.take i).map f)++[.int (f y:Int)]:=by
 rw[Xq,h];simp[vN]
theorem qf0{α:Type}(p:α->Bool){l:List α}{i:Nat}{y:α}(h:l[i]?=some y)(hp:p y=true): (l.take (i+1)).filter p=(l.take i).filter p++[y]:=by
 rw[Xq,h,Z5];simp[hp]
theorem qfz{α:Type}(p:α->Bool){l:List α}{i:Nat}{y:α}(h:l[i]?=some y)(hp:p y=false): (l.take (i+1)).filter p=(l.take i).filter p:=by
 rw[Xq,h,Z5];simp[hp]
theorem qie(a b:List Nat): vN (a++b)=vN a++vN b:=Jv
theorem dl8{H:Hp}{s:Sta}{k:Nat}{x:Met}{m:Ve}(M:MAt A H s k x m): x.devices.length<=8:=(M.good.met M.hx).dl
theorem qpg(T:Txt P w K mg A): Fn P w K mg base 3 "knots_of" ["meter"] (q7y A):=by
 refine T.qy5.go qh4 (fun _ _ _ _ h=>?_) (fun _ _ _ _ _ H _ Q _ hr h=>?_)
 ·obtain⟨st,k,x,m,rfl,_⟩:=h;rfl
 ·obtain⟨st,k,x,m,rfl,M,q⟩:=h
  have hu:=yb hr
  refine⟨_,(zb (qgi (i:=1) rfl qh4.nd rfl rfl (by exact qgx rfl rfl rfl rfl) (own:=[("dial",2)]) (qbj (zk K za)) (by walk_at "bk") (fun _ _ _ _ _=>(vt 2 qh4.nd)) (fun _ _ _ _ _=>qei) (fun _ _ _ _ _=>(zk K ze))) (zb (qbn (qbx Xe Wl Wm qi8 zd (zo (qmp (qdg rfl qh4.nd (own:=[("boundary",3)]) (qrj (zk K za)) (by walk_at "bk") (fun _ _ _ _ _=>(vt 3 qh4.nd)) (fun _ _ _ _ _=>(qe0 (vc qrc (zj (qlr T) hr (zf za k9)) qdh))) (fun _ _ _ _ _=>k9)))))) (zb (qgh (qdy (zj (qhe T) hr (zo za))) (qaz (qbn (qbx Xe Xv Xw qc3 zd (zo (zk K (zj (qf1 T) hr (zo za))))))) qgj) (ko (qdw (qxt) rfl T.qko QP.boot_sorted (zo zd)))))),?_⟩
  walk_at "in"
  refine qd0 (SqL.of M.oD) (fun i=>vN ((x.devices.take i).map (·.start))) rfl ?_ ?_
  ·intro D i H1 v hv p
   obtain⟨d,y,hd,hy,rfl,ho⟩:=M.dial hv
   have ho:=p.same _ _ ho
   have hi:=(Ji.mp hy).1
   walk_at ""
   refine⟨rfl,?_⟩
   walk_at ""
   refine qag ?_
   walk_at ""
   exact p.yes (small 8 (by have:=dl8 M;omega)) (Qz.refl _) (q99 _ hy)
  ·intro L H1 hL s1 hL1
   rw[Jd,M.rel.dl,Xh] at hL1
   have M1:=M.same s1
   walk_at ""
   refine⟨m.aR,_,M1.oR,True.intro,fun od=>?_⟩
   have hl:=M1.lockR od
   have e0:upd H1 m.aR (.frz od (.dK (rdK m.rd))) m.aR=some (.frz od (.dK (rdK m.rd))):=zc
   walk_at ""
   refine qfi hl.o T.clM T.qhn rfl ?_
   refine r_ik e0 ?_
   refine qe4 m.rd.length (fun i=>vN (((m.rd.take i).map (·.t)).filter fun t=>(QM.qbu st k t).isSome)) rfl (fun i H' hi s2=>⟨s2 _ _ e0,by rw[rdK,Jd];exact hi⟩) (fun H' s2=>⟨s2 _ _ e0,by rw[rdK,Jd];exact Jp _⟩) ?_ ?_
   ·rintro D i H2 v H2' hi p ⟨rfl,kk,vv,h1,rfl⟩
    obtain⟨e,he,rfl,_⟩:=qrz h1
    dsimp only[kV]
    have R2:=hl.same p.same
    have het:(m.rd.map (·.t))[i]?=some e.t:=by rw[Jt,he];rfl
    walk_at ""
    refine⟨rfl,?_⟩
    walk_at ""
    refine⟨st,k,x,m,e.t,rfl,R2,fun H3 s3=>⟨fun hn=>?_,fun pr a hp ha ha2=>?_⟩⟩
    ·walk_at ""
     refine⟨rfl,?_⟩
     walk_at ""
     refine qam (p.no s3 ?_)
     show vN (((m.rd.take (i+1)).map (·.t)).filter _)=_
     rw[W9,W9,qfz _ het (by rw[hn];rfl)]
    ·walk_at ""
     refine⟨rfl,?_⟩
     walk_at ""
     refine qag ?_
     walk_at ""
     refine p.yes (small 10001 (by have:=qh0 M.good M.rel;omega)) s3 ?_
     show vN (((m.rd.take (i+1)).map (·.t)).filter _)=_
     rw[W9,W9,qf0 _ het (by rw[hp];rfl),qie];rfl
   ·intro D H2 hD s2 hD2
    obtain⟨s3,hD3,hD4,hd⟩:=ql8 M1.oR s2 hD hD2
    rw[Xh] at hD4
    refine⟨hd,?_⟩
    have s4:=s1.trans s3
    have hL3:=s3 _ _ hL1
    have M3:=M1.same s3
    generalize upd H2 m.aR (.dK (rdK m.rd))=H3 at *
    walk_at ""
    refine qjk hL3 hD4 ?_ ?_
    ·have h1:=dl8 M
     have h2:=qh0 M.good M.rel
     have h3:(((m.rd.map (·.t)).filter fun t=>(QM.qbu st k t).isSome)).length<=(m.rd.map (·.t)).length:=Xp ..
     rw[Jd] at h3
     rw[qcc,qcc,Jd]
     exact Xj (small 10009 (by omega))
    rw[<- qie]
    have hlen:(x.devices.map (·.start)++(m.rd.map (·.t)).filter fun t=>(QM.qbu st k t).isSome).length<=10009:=by
     have h1:=dl8 M
     have h2:=qh0 M.good M.rel
     have h3:(((m.rd.map (·.t)).filter fun t=>(QM.qbu st k t).isSome)).length<=(m.rd.map (·.t)).length:=Xp ..
     rw[Jd] at h3
     rw[Jx,Jd]
     omega
    have hP:(x.devices.map (·.start)++((m.rd.map (·.t)).filter fun t=>(QM.qbu st k t).isSome)++((QM.endOf x.devices).map (·.1)).toList).Perm (QM.kn st k):=by
     have h:=QM.q2v M.rel.rd (QM.qgo M.good k) (M.good.met M.hx).chain (QM.qr0 M.good M.hx)
     rw[QM.qf8 M.hx]
     have e1:(m.rd.map fun e=>(e.t,e.vs)).map (·.1)=m.rd.map (·.t):=by rw[Xy];rfl
     have e2:(fun t=>((Vbemai.standing (Vbemai.readingsOf st k)).lookup t).isSome)=fun t=>(QM.qbu st k t).isSome:=by
      funext t
      have:=QM.quv M.good k t
      unfold QM.qal at this
      rw[this];cases QM.qbu st k t<;>rfl
     rw[e1,e2] at h
     exact h
    have hInc:=QM.qfg M.good M.hx
    generalize (x.devices.map (·.start)++(m.rd.map (·.t)).filter fun t=>(QM.qbu st k t).isSome)=pre at hlen hP ⊢
    have fin:∀ (H4:Hp) (l:List Nat),Qz H H4->H4 L=some (.lst (vN l))->l.Perm (QM.kn st k)->∀ Q',(∀ H' l,Qz H H'->H l=none->H' l=some (.lst (vN (QM.kn st k)))->Q' (.ref l) H')->qry K [.ref L] H4 Q':=by
     intro H4 l hs hL4 hp Q' q'
     refine⟨L,wts l,rfl,?_,fun ns' p h1 h2 h3=>?_⟩
     ·exact SqL.of (by rw[hL4];exact Ym (fun z=>some (HO.lst z)) (qid l).symm)
     ·obtain⟨l',rfl,hp'⟩:=qms h1
      have e:=qni (qn3 h2) (hp'.trans hp) hInc
      subst e
      refine q' _ p (Qz.upd hs (hs.free h3)) (hs.free h3) ?_
      rw[zc];exact Ym (fun z=>some (HO.lst z)) (qid _)
    have hu5:∀ v,Qz H (upd H3 L v):=fun v=>Qz.upd s4 hL
    walk_at ""
    have M5:MAt A (upd H3 L (.lst (vN pre))) st k x m:=M.same (hu5 _)
    refine⟨st,k,x,m,rfl,M5,?_⟩
    walk_at ""
    refine ifB (fun ho=>?_) (fun ho=>?_)
    ·walk_at ""
     refine⟨st,k,x,m,rfl,M5,fun d y h1 h2 h3=>?_⟩
     walk_at ""
     refine qco zc (by rw[qcc];exact small 10009 hlen) ?_
     walk_at ""
     rw[qf5 h2] at ho
     obtain⟨e,he⟩:=Uo.mp ho
     have e1:eB y = .int (e.1:Int):=by unfold eB;rw[he]
     have e2:QM.endOf x.devices=some e:=by unfold QM.endOf;rw[h2];exact he
     rw[qbc,e1]
     rw[e2] at hP
     refine fin _ (pre++[e.1]) (hu5 _) ?_ hP _ q
     rw[zc,qie];rfl
    ·walk_at ""
     have e2:QM.endOf x.devices=none:=by
      obtain⟨d,y,h1,h2,h3⟩:=M.last
      rw[qf5 h2] at ho
      unfold QM.endOf;rw[h2]
      show y.finish=none
      cases hy:y.finish with
      |none=>rfl
      |some e=>rw[hy] at ho;cases ho
     rw[e2] at hP
     refine fin _ pre (hu5 _) zc (by simpa using hP) _ q
theorem q0c(l:List Nat): (vN l).all qd8=true:=by
 rw[Wi]
 intro v hv
 obtain⟨n,_,rfl⟩:=Jk.mp hv
 rfl
theorem inV_vN(t:Nat)(l:List Nat): inV (.int (t:Int)) (vN l)=l.contains t:=by
 rw[Zm,List.contains_iff_mem]
 unfold inV vN
 rw[Y9]
 constructor
 ·rintro ⟨v,hv,e⟩
  obtain⟨n,hn,rfl⟩:=Jk.mp hv
  have e:((n:Int)==(t:Int))=true:=e
  have e:(n:Int)=t:=by simpa using e
  have:n=t:=by omega
  subst this;exact hn
 ·intro h
  refine⟨_,Jk.mpr ⟨t,h,rfl⟩,?_⟩
  show ((t:Int)==(t:Int))=true
  simp
theorem qm1{H:Hp}{Q:VK}{l:Addr}{ns:List Nat}{t:Nat}(e:H l=some (.lst (vN ns)))(q:Q (.bl (ns.contains t)) H): rIn K false (.int (t:Int)) (.ref l) H Q:=
 ⟨l,vN ns,rfl,.inl (SqL.of e),rfl,q0c ns,by rw[Jc (by simp),inV_vN];exact q⟩
theorem ql3{s:Sta}{k:Nat}{x:Met}(G:QM.Good s)(hm:Vbemai.meter? s k=some x): ∃ a b,(QM.kn s k).head?=some a/\(QM.kn s k).getLast?=some b:=by
 have h:=QM.qi4 G hm
 exact⟨_,_,List.head?_eq_some_head h,List.getLast?_eq_some_getLast h⟩
theorem q09(T:Txt P w K mg A):
  Fn P w K mg base 4 "is_unread" ["meter","boundary"] (q7w A):=by
 refine T.qy3.go que (fun _ _ _ _ h=>?_) (fun _ _ _ _ _ H _ Q _ hr h=>?_)
 ·obtain⟨st,k,x,m,t,rfl,_⟩:=h;rfl
 ·obtain⟨st,k,x,m,t,rfl,M,q⟩:=h
  refine⟨_,(zb (k7 2 que.nd (zj (qpg T) hr (zo za))) (zb (vf (PW.pt (qmw (vc qdu (qak K ze ki) zd) (qmx (qjh qmj zd ze (by with_unfolding_all rfl))))) pe_bl) (ko (pe_not (qmo (zj (qhe T) hr (zo za)) (qmq (qft qeh (qak K ze (qdx qd3 ki)) zd))))))),?_⟩
  walk_at "in"
  refine⟨st,k,x,m,rfl,M,fun H1 l s1 hl hl1=>?_⟩
  have M1:=M.same s1
  obtain⟨a,b,ha,hb⟩:=ql3 M.good M.hx
  have ea:(QM.kn st k).headD 0=a:=by rw[List.headD_eq_head?_getD,ha];rfl
  have eb:(QM.kn st k).getLastD 0=b:=by rw[List.getLastD_eq_getLast?,hb];rfl
  have q:=q H1 s1
  unfold QM.qfq at q
  rw[ea,eb] at q
  walk_at ""
  refine qac (SqL.of hl1) (qkk ha) ?_
  walk_at ""
  refine ifD (fun c=>?_) (fun c=>?_)
  ·refine qag ?_
   walk_at ""
   rw[J7 (by omega)] at q
   exact q
  ·walk_at ""
   refine qm1 hl1 ?_
   rw[Xm (show a<t by omega)] at q
   walk_at ""
   refine ifB (fun c2=>?_) (fun c2=>?_)
   ·walk_at ""
    rw[c2] at q
    exact q
   ·rw[c2] at q
    walk_at ""
    refine⟨st,k,x,m,rfl,M1,?_⟩
    walk_at ""
    refine ifB (fun c3=>?_) (fun c3=>?_)
    ·rw[c3] at q
     walk_at ""
     refine qac (SqL.of hl1) (qkm hb) ?_
     walk_at ""
     have e:decide ((b:Int)<(t:Int))=decide (b<t):=Yt.mpr (by omega)
     rw[e]
     exact q
    ·rw[c3] at q
     walk_at ""
     exact q
theorem qxp(T:Txt P w K mg A): Cn P w K mg base 2 "Dial" A.CD ["self","boundary","value","digits","factor"] (q7e A):=by
 refine T.d_Dial.cn q59 (fun _ _ _ _ _ _ us hl=>match us,hl with|[_,_,_,_,_],_=>rfl) (fun vs H Q E h=>?_) (fun f cdv Ar outer s H vs Q E hr h=>?_)
 ·obtain⟨p,dx,y,rfl,_⟩:=h;rfl
 ·obtain⟨p,dx,y,rfl,hf,hd,hp,q⟩:=h
  refine⟨_,(zb (yf za zd rfl) (zb (yf za ze rfl) (zb (yf za (zj (qlq T) hr (zo k9)) rfl) (zb (yf za qaj rfl) (zb (yf za qdh rfl) (qaz (yf za qdh rfl))))))),?_⟩
  walk_at "in"
  refine⟨y.digits,rfl,hd,?_⟩
  walk_at ""
  rw[qbc,qbc,qbc,qbc,qbc]
  have e:qax y=([("start_boundary",.int (y.start:Int)),("start_value",.int y.value),("size",.int (10 ^ y.digits)),("factor",.int y.factor),("end_boundary",.non),("end_value",.non)]:List (Str×V)):=by
   unfold qax eB eV;rw[hf]
  rw[e] at q
  exact q
theorem qov(T:Txt P w K mg A): Cn P w K mg base 2 "Profile" A.CP ["self","weights"] (q7g A K):=by
 refine T.qxz.cn q6b (fun _ _ _ _ _ _ us hl=>match us,hl with|[_,_],_=>rfl) (fun vs H Q E h=>?_) (fun f cdv Ar outer s H vs Q E hr h=>?_)
 ·obtain⟨p,dx,a,ns,rfl,_⟩:=h;rfl
 ·obtain⟨p,dx,a,ns,rfl,hp,ha,hn,q⟩:=h
  refine⟨_,(qaz (yf za (zj (qpj T) hr (zo zd)) rfl)),?_⟩
  walk_at "in"
  refine⟨a,ns,rfl,ha,hn,fun H1 l s1 hl hl1=>?_⟩
  have hp1:=s1 _ _ hp
  walk_at ""
  refine q _ l (But.upd ((But.refl p H).same s1)) hl zc ?_
  rw[qc (k8 hp hl).symm];exact hl1
theorem qxo(T:Txt P w K mg A): Cn P w K mg base 2 "Course" A.CC ["self","knots","amounts","profile","tail","removed"] (q7d A K):=by
 refine T.qxx.cn q58 (fun _ _ _ _ _ _ us hl=>match us,hl with|[_,_,_,_,_,_],_=>rfl) (fun vs H Q E h=>?_) (fun f cdv Ar outer s H vs Q E hr h=>?_)
 ·obtain⟨c,dx,aK,aA,p,ns,tl,rm,rfl,_⟩:=h;rfl
 ·obtain⟨c,dx,aK,aA,p,ns,tl,rm,rfl,hc,ha,hn,q⟩:=h
  refine⟨_,(zb (yf za zd rfl) (zb (yf za ze rfl) (zb (yf za (zj (qpj T) hr (zo ze)) rfl) (zb (yf za k9 rfl) (zb (yf za qaj rfl) (qaz (yf za qbo rfl))))))),?_⟩
  walk_at "in"
  have hne:aA≠c:=qah ha hc (by intro q;cases q)
  refine⟨aA,ns,rfl,SqL.of (by rw[qc hne,qc hne];exact ha),hn,fun H1 l s1 hl hl1=>?_⟩
  have hc1:=s1 _ _ zc
  have hlc:l≠c:=by intro e;subst e;rw[zc] at hl;cases hl
  rw[qc hlc,qc hlc] at hl
  walk_at ""
  rw[qbc,qbc,qbc]
  refine q _ l (But.upd (((But.refl c H).upd.upd).same s1)) hl zc ?_
  rw[qc hlc];exact hl1
theorem qxq(T:Txt P w K mg A): Cn P w K mg base 1 "Meter" A.CM ["self","kind","zone","second","profile","rate","dial"] (q7f A):=by
 refine T.qxy.cn q6a (fun _ _ _ _ _ _ us hl=>match us,hl with|[_,_,_,_,_,_,_],_=>rfl) (fun vs H Q E h=>?_) (fun f cdv Ar outer s H vs Q E hr h=>?_)
 ·obtain⟨p,dx,d,x,rfl,_⟩:=h;rfl
 ·obtain⟨p,dx,d,x,rfl,hp,q⟩:=h
  refine⟨_,(zb (yf za zd rfl) (zb (yf za ze rfl) (zb (yf za k9 rfl) (zb (yf za qaj rfl) (zb (yf za qbo rfl) (zb (yf za (vo (zo qcb)) rfl) (zb (yf za qge rfl) (qaz (yf za qge rfl))))))))),?_⟩
  walk_at "in"
  rw[qbc,qbc,qbc,qbc]
  intro aD hD
  have n1:aD≠p:=by intro e;subst e;rw[zc] at hD;cases hD
  rw[qc n1] at hD
  walk_at ""
  refine qfj (by rw[qc n1.symm];exact zc) T.clM T.qq0 (by (repeat with_reducible refine' pf1 ?_);exact Wk _) ?_
  walk_at ""
  refine qf4 fun aR hR=>?_
  have n2:aR≠p:=by intro e;subst e;rw[zc] at hR;cases hR
  rw[qc n2] at hR
  have n3:aR≠aD:=by intro e;subst e;rw[zc] at hR;cases hR
  rw[qc n3,qc n2] at hR
  walk_at ""
  refine qfj (by rw[qc n2.symm];exact zc) T.clM T.qhn (by (repeat with_reducible refine' pf1 ?_);exact Wk _) ?_
  walk_at ""
  refine qf4 fun aT hT=>?_
  have n4:aT≠p:=by intro e;subst e;rw[zc] at hT;cases hT
  rw[qc n4] at hT
  have n5:aT≠aR:=by intro e;subst e;rw[zc] at hT;cases hT
  rw[qc n5,qc n4] at hT
  have n6:aT≠aD:=by intro e;subst e;rw[zc] at hT;cases hT
  rw[qc n6,qc n4] at hT
  walk_at ""
  refine qfj (by rw[qc n4.symm];exact zc) T.clM T.qq1 (by (repeat with_reducible refine' pf1 ?_);exact Wk _) ?_
  refine q _ aD aR aT ((((((((But.refl p H).upd.new hD).upd).new hR).upd).new hT).upd)) hD hR hT n3.symm n6.symm n5.symm zc ?_ ?_ ?_
  ·rw[qc n1,qc n6.symm,qc n1,qc n3.symm,qc n1,zc]
  ·rw[qc n2,qc n5.symm,qc n2,zc]
  ·rw[qc n4,zc]
theorem qxn(T:Txt P w K mg A): Cn P w K mg base 4 "Book" A.CB ["self"] (q7c A):=by
 refine T.d_Book.cn q57 (fun _ _ _ _ _ _ us hl=>match us,hl with|[_],_=>rfl) (fun vs H Q E h=>?_) (fun f cdv Ar outer s H vs Q E hr h=>?_)
 ·obtain⟨p,dx,rfl,_⟩:=h;rfl
 ·obtain⟨p,dx,rfl,hp,q⟩:=h
  refine⟨_,(zb (yf za (vo (zo (qht (qov T) hr (zo (vo (zo ki)))))) rfl) (zb (yf za (vo qhq) rfl) (zb (yf za ki rfl) (zb (yf za ki rfl) (zb (yf za ki rfl) (qaz (yf za q4w rfl))))))),?_⟩
  walk_at "in"
  intro a1 ha1
  walk_at ""
  intro x xd hx hxd hxx
  have n0:x≠p:=by intro e;subst e;rw[qc (k8 hp ha1)] at hx;rw[hp] at hx;cases hx
  have n0':xd≠p:=by intro e;subst e;rw[qc (k8 hp ha1)] at hxd;rw[hp] at hxd;cases hxd
  have nx1:a1≠x:=by intro e;subst e;rw[zc] at hx;cases hx
  have nx2:a1≠xd:=by intro e;subst e;rw[zc] at hxd;cases hxd
  refine⟨x,xd,a1,[1],rfl,zc,SqL.of (by rw[qc nx1,qc nx2];exact zc),qar (by simp),fun H3 aS b3 haS hx3 hS3=>⟨rfl,?_⟩⟩
  have nS:aS≠x:=by intro e;subst e;rw[zc] at haS;cases haS
  rw[qc nS] at haS
  have nS2:aS≠xd:=by intro e;subst e;rw[zc] at haS;cases haS
  rw[qc nS2] at haS
  have nS1:aS≠a1:=by intro e;subst e;rw[zc] at haS;cases haS
  have nSp:aS≠p:=by intro e;subst e;rw[qc nS1] at haS;rw[hp] at haS;cases haS
  have hp3:H3 p=some (.ins A.CB dx []):=b3 p _ n0.symm (by rw[qc n0.symm,qc n0'.symm,qc (k8 hp ha1)];exact hp)
  have hxH:H x=none:=by rw[qc nx1.symm] at hx;exact hx
  have B3:But p H H3:=fun b o hb e=>b3 b o (k8 e hxH) (by
   rw[qc (k8 e hxH),qc,qc (k8 e ha1)]
   ·exact e
   ·intro z;subst z;rw[qc (k8 e ha1)] at hxd;rw[e] at hxd;cases hxd)
  have hSH:H aS=none:=by rw[qc nS1] at haS;exact haS
  clear b3 haS hx hxd
  walk_at ""
  intro aP haP
  have m1:aP≠p:=by intro e;subst e;rw[hp3] at haP;cases haP
  have m2:aP≠x:=by intro e;subst e;rw[hx3] at haP;cases haP
  have m3:aP≠aS:=by intro e;subst e;rw[hS3] at haP;cases haP
  walk_at ""
  refine qfj (by rw[qc m1.symm];exact hp3) T.clB T.qme (by simp) ?_
  walk_at ""
  intro aM haM
  have k1:aM≠p:=by intro e;subst e;rw[zc] at haM;cases haM
  rw[qc k1] at haM
  have k2:aM≠aP:=by intro e;subst e;rw[zc] at haM;cases haM
  rw[qc k2] at haM
  have k3:aM≠x:=by intro e;subst e;rw[hx3] at haM;cases haM
  have k4:aM≠aS:=by intro e;subst e;rw[hS3] at haM;cases haM
  walk_at ""
  refine qfj (by rw[qc k1.symm];exact zc) T.clB T.qi9 (by (repeat with_reducible refine' pf1 ?_);exact Wk _) ?_
  walk_at ""
  rw[qbc,qbc,qbc]
  refine q2e fun aQ haQ=>?_
  have j1:aQ≠p:=by intro e;subst e;rw[zc] at haQ;cases haQ
  rw[qc j1] at haQ
  have j2:aQ≠aM:=by intro e;subst e;rw[zc] at haQ;cases haQ
  rw[qc j2,qc j1] at haQ
  have j3:aQ≠aP:=by intro e;subst e;rw[zc] at haQ;cases haQ
  rw[qc j3] at haQ
  have j4:aQ≠x:=by intro e;subst e;rw[hx3] at haQ;cases haQ
  have j5:aQ≠aS:=by intro e;subst e;rw[hS3] at haQ;cases haQ
  walk_at ""
  refine qfj (by rw[qc j1.symm];exact zc) T.clB T.qqz (by (repeat with_reducible refine' pf1 ?_);exact Wk _) ?_
  have new:∀ {b:Addr} {o:HO},b≠p->H3 b=none->H b=some o->False:=fun hb h1 h2=>by rw[B3 _ _ hb h2] at h1;cases h1
  refine q _ ⟨p,dx,aP,aM,aQ,[⟨x,xd,aS⟩],[],[]⟩ (fun b o hb e=>?_) rfl ⟨QM.q13,?_,?_,rfl,rfl,rfl,fun i x m h=>by cases h⟩ ?_
  ·have z1:b≠aQ:=by intro z;subst z;exact new hb haQ e
   have z2:b≠aM:=by intro z;subst z;exact new hb haM e
   have z3:b≠aP:=by intro z;subst z;exact new hb haP e
   rw[qc hb,qc z1,qc hb,qc z2,qc hb,qc z3]
   exact B3 b o hb e
  ·intro c hc
   have hc:c∈[(p,HO.ins A.CB dx (qa5 Vbemai.start ⟨p,dx,aP,aM,aQ,[⟨x,xd,aS⟩],[],[]⟩)),(aP,HO.lst [V.ref x]),(aM,HO.lst []),(aQ,HO.dT []),(x,HO.ins A.CP xd [("sums",.ref aS)]),(aS,HO.lst (vI (QM.sums 0 (wts [1]))))]:=hc
   simp only[Jf,Xa,Y0] at hc
   rcases hc with rfl|rfl|rfl|rfl|rfl|rfl
   ·exact zc
   ·show upd _ _ _ aP=_
    rw[qc m1,qc j3.symm,qc m1,qc k2.symm,qc m1,zc]
   ·show upd _ _ _ aM=_
    rw[qc k1,qc j2.symm,qc k1,zc]
   ·show upd _ _ _ aQ=_
    rw[qc j1,zc]
   ·show upd _ _ _ x=_
    rw[qc n0,qc j4.symm,qc n0,qc k3.symm,qc n0,qc m2.symm];exact hx3
   ·show upd _ _ _ aS=_
    rw[qc nSp,qc j5.symm,qc nSp,qc k4.symm,qc nSp,qc m3.symm];exact hS3
  ·show [p,aP,aM,aQ,x,aS].Nodup
   simp only[Xf,Jf,Xa,Y0,not_or,Yb,Qx,Zj]
   exact⟨⟨m1.symm,k1.symm,j1.symm,n0.symm,nSp.symm⟩,⟨k2.symm,j3.symm,m2,m3⟩,⟨j2.symm,k3,k4⟩,⟨j4,j5⟩,nS.symm⟩
  ·have old:∀ {b:Addr},b≠p->H3 b=none->H b=none:=fun {b} hb h1=>by
    cases e:H b with
    |none=>rfl
    |some o=>exact(new hb h1 e).elim
   intro c hc
   have hc:c∈[(p,HO.ins A.CB dx (qa5 Vbemai.start ⟨p,dx,aP,aM,aQ,[⟨x,xd,aS⟩],[],[]⟩)),(aP,HO.lst [V.ref x]),(aM,HO.lst []),(aQ,HO.dT []),(x,HO.ins A.CP xd [("sums",.ref aS)]),(aS,HO.lst (vI (QM.sums 0 (wts [1]))))]:=hc
   simp only[Jf,Xa,Y0] at hc
   rcases hc with rfl|rfl|rfl|rfl|rfl|rfl
   ·exact .inl rfl
   ·exact .inr (old m1 haP)
   ·exact .inr (old k1 haM)
   ·exact .inr (old j1 haQ)
   ·exact .inr hxH
   ·exact .inr hSH
theorem q1o(T:Txt P w K mg A):
  Fn P w K mg base 3 "tail_of" ["meter"] (q8c A):=by
 refine T.qzx.go q62 (fun _ _ _ _ h=>?_) (fun _ _ _ _ _ H _ Q _ hr h=>?_)
 ·obtain⟨st,k,x,m,rfl,_⟩:=h;rfl
 ·obtain⟨st,k,x,m,rfl,M,q⟩:=h
  refine⟨_,(zb (vf (qdy (zj (qhe T) hr (zo za))) ki) (ko (vm qdv (zk K za) (zk K (zj (qf1 T) hr (zo za)))))),?_⟩
  obtain⟨d0,y0,h01,h02,h03⟩:=M.last
  have er:Vbemai.rateOf x=if y0.finish.isSome=true then 0 else x.rate*y0.factor:=by unfold Vbemai.rateOf Vbemai.lastDevice;rw[h02]
  walk_at "in"
  refine⟨st,k,x,m,rfl,M,?_⟩
  rw[qf5 h02]
  walk_at ""
  refine ifB (fun ho=>?_) (fun ho=>?_)
  ·walk_at ""
   rw[er,Je ho] at q
   exact q
  ·rw[er,Jc (by rw[ho];exact Jr)] at q
   walk_at ""
   refine⟨st,k,x,m,rfl,M,fun d y h1 h2 h3=>?_⟩
   rw[h02] at h2
   cases h2
   walk_at ""
   have hm:=M.good.met M.hx
   exact r_I (.inl ⟨by have:=hm.r0;omega,by have:=hm.r1;omega⟩) q
theorem q01(T:Txt P w K mg A): Fn P w K mg base 1 "dial_from" ["meter","boundary"] (q7n A):=by
 refine T.qyq.go qm8 (fun _ _ _ _ h=>?_) (fun _ _ _ _ _ H _ Q _ hr h=>?_)
 ·obtain⟨st,k,x,m,t,rfl,_⟩:=h;rfl
 ·obtain⟨st,k,x,m,t,rfl,M,⟨y0,hy0⟩,q⟩:=h
  refine⟨_,(ko (qak K (qdg rfl qm8.nd (own:=[("dial",2)]) (qbj (zk K za)) (by walk_at "bk") (fun _ _ _ _ _=>(vt 2 qm8.nd)) (fun _ _ _ _ _=>(qe0 (vc qdd (zk K ze) zd))) (fun _ _ _ _ _=>ze)) (qdx qd3 ki))),?_⟩
  walk_at "in"
  refine qd0 (SqL.of M.oD) (fun i=>(((m.ds.zip x.devices).take i).filter fun p=>decide (p.2.start<=t)).map fun p=>V.ref p.1.a) rfl ?_ ?_
  ·intro D i H1 v hv p
   obtain⟨d,y,hd,hy,rfl,ho⟩:=M.dial hv
   have ho:=p.same _ _ ho
   have hz:(m.ds.zip x.devices)[i]?=some (d,y):=by rw[Xn];exact⟨hd,hy⟩
   have hi:=(Ji.mp hy).1
   walk_at ""
   refine⟨rfl,?_⟩
   walk_at ""
   refine ifD (fun c=>?_) (fun c=>?_)
   ·walk_at ""
    refine p.yes (small 8 (by have:=dl8 M;omega)) (Qz.refl _) ?_
    show List.map _ _=_
    rw[qf0 _ hz (Xm (by show y.start<=t;omega)),Jv];rfl
   ·refine p.no (Qz.refl _) ?_
    show List.map _ _=_
    rw[qfz _ hz (J7 (by show ¬ y.start<=t;omega))]
  ·intro L H1 hL s1 hL1
   have hlz:(m.ds.zip x.devices).length=m.ds.length:=by rw[Yr,M.rel.dl];omega
   rw[Jd,<- hlz,Xh] at hL1
   have e1:((m.ds.zip x.devices).filter fun p=>decide (p.2.start<=t)).map (·.2)=x.devices.filter fun d=>decide (d.start<=t):=by
    have e2:(m.ds.zip x.devices).map (·.2)=x.devices:=List.map_snd_zip (by rw[M.rel.dl];exact Jp _)
    have:=Wt (f:=fun p:Qe8×Dev=>p.2) (p:=fun d:Dev=>decide (d.start<=t)) (l:=m.ds.zip x.devices)
    rw[e2] at this
    rw[this];rfl
   have hy1:=hy0
   unfold QM.qdp at hy1
   rw[<- e1,Y5] at hy1
   cases hg:((m.ds.zip x.devices).filter fun p=>decide (p.2.start<=t)).getLast? with
   |none=>rw[hg] at hy1;cases hy1
   | some dy=>
     rw[hg] at hy1
     have hy1:dy.2=y0:=Jj hy1
     have hmem:=(J2.mp (Zg hg)).1
     obtain⟨i,hi⟩:=Zw hmem
     have hi2:=Xn.mp hi
     walk_at ""
     refine qac (SqL.of hL1) (qim (by rw[Y5,hg];rfl)) ?_
     refine q _ y0 dy.1 s1 hy0 ?_
     rw[<- hy1]
     exact M.qho hi2.1 hi2.2
theorem qpk(T:Txt P w K mg A):
  Fn P w K mg base 2 "shown_value" ["meter","dial","boundary"] (q78 A):=by
 refine T.qzr.go q6z (fun _ _ _ _ h=>?_) (fun _ _ _ _ _ H _ Q _ hr h=>?_)
 ·obtain⟨st,k,x,m,y,d,t,rfl,_⟩:=h;rfl
 ·obtain⟨st,k,x,m,y,d,t,rfl,M,hd,hk,q⟩:=h
  refine⟨_,(zb (vf (vc qay ze (zk K zd)) (zk K zd)) (zb (vf (vc qay ze (zk K zd)) (zk K zd)) (ko (qc7 K (zj (qlr T) hr (zf za ze)) ki)))),?_⟩
  walk_at "in"
  refine ifD (fun c=>?_) (fun c=>?_)
  ·walk_at ""
   have q:=q H (Qz.refl H)
   unfold QM.qby at q
   rw[Je (by omega)] at q
   exact q
  ·have c:¬ t=y.start:=by omega
   walk_at ""
   have last:(∀ v,y.finish≠some (t,v))->tOp (rIxT K) (tFn (qur A) (vp (vd 0) (vp (vd 2) qan))) (tC (V.int 1)) [some (V.ref m.a),some (V.ref d.a),some (V.int (t:Int))] H Q:=fun hno=>by
    have hl:∃ v,(QM.qal st k).lookup t=some v:=by
     rcases hk with h|⟨v,h⟩|h
     ·exact absurd h c
     ·exact absurd h (hno v)
     ·exact h
    obtain⟨v,hv⟩:=hl
    have hs:=QM.quv M.good k t
    rw[hv] at hs
    walk_at ""
    refine⟨st,k,x,m,t,rfl,M.r,fun H1 s1=>⟨fun hn=>?_,fun pr a hp ha ha1=>?_⟩⟩
    ·rw[hn] at hs;cases hs
    ·rw[hp] at hs
     have hs:v=pr.2:=Jj hs
     walk_at ""
     refine qc5 (SqT.of ha1) (ye (j:=1) rfl) ?_
     have q:=q H1 s1
     unfold QM.qby at q
     rw[Jc c,hv] at q
     cases hf:y.finish with
     |none=>rw[hf] at q;rw[<- hs];exact q
     | some e=>
       obtain⟨e1,e2⟩:=e
       rw[hf] at q
       have:¬ t=e1:=fun z=>hno e2 (by rw[hf,z])
       have q:Q (.int (if t=e1 then e2 else v)) H1:=q
       rw[Jc this] at q
       rw[<- hs];exact q
   cases hf:y.finish with
   | none=>
     have e1:eB y = .non:=by unfold eB;rw[hf]
     rw[e1]
     refine⟨rfl,?_⟩
     walk_at ""
     refine qam ?_
     exact last fun v h=>by rw[hf] at h;cases h
   | some e=>
     have e1:eB y = .int (e.1:Int):=by unfold eB;rw[hf]
     rw[e1]
     walk_at ""
     refine ifD (fun c2=>?_) (fun c2=>?_)
     ·walk_at ""
      have e2:eV y = .int e.2:=by unfold eV;rw[hf]
      have q:=q H (Qz.refl H)
      unfold QM.qby at q
      rw[Jc c,hf] at q
      have q:Q (.int (if t=e.1 then e.2 else _)) H:=q
      rw[Je (by omega)] at q
      rw[e2]
      exact q
     ·exact last fun v h=>by rw[hf] at h;cases h;omega
theorem q0f(T:Txt P w K mg A):
  Fn P w K mg base 3 "amount_between" ["meter","start","end"] (q7i A):=by
 refine T.qx2.go qm3 (fun _ _ _ _ h=>?_) (fun _ _ _ _ _ H _ Q _ hr h=>?_)
 ·obtain⟨st,k,x,m,i,a,b,rfl,_⟩:=h;rfl
 ·obtain⟨st,k,x,m,i,a,b,rfl,M,ha,hb,q⟩:=h
  obtain⟨y,hy,hym,sa,sb⟩:=QM.q69 M.good M.hx ha hb
  have hD:=(M.good.met M.hx).dev y hym
  refine⟨_,(zb (k7 3 qm3.nd (zj (q01 T) hr (zf za zd))) (zb (k7 4 qm3.nd (vm qca (zj (qpk T) hr (vg za (zf k9 ze))) (zj (qpk T) hr (vg za (zf k9 zd))))) (ko (vm qdv (vm qrb qaj (zk K k9)) (zk K k9))))),?_⟩
  walk_at "in"
  refine⟨st,k,x,m,a,rfl,M,⟨y,hy⟩,fun H1 y' d s1 hy' hd=>?_⟩
  rw[hy] at hy'
  cases hy'
  have hd1:=s1 _ _ hd
  walk_at ""
  refine⟨st,k,x,m,y,d,b,rfl,M.same s1,hd1,sb,fun H2 s2=>?_⟩
  have hd2:=s2 _ _ hd1
  walk_at ""
  refine⟨st,k,x,m,y,d,a,rfl,(M.same s1).same s2,hd2,sa,fun H3 s3=>?_⟩
  have hd3:=s3 _ _ hd2
  walk_at ""
  have hp:(0:Int)<10 ^ y.digits:=Int.pow_pos (by decide)
  refine r_I hp ?_
  walk_at ""
  refine r_I (.inr ⟨by have:=hD.f0;omega,by have:=hD.f1;omega⟩) ?_
  have q:=q H3 ((s1.trans s2).trans s3)
  unfold QM.qb2 at q
  rw[hy] at q
  exact q
theorem cut1(xs:List V): qcg xs (some 1) none=xs.tail:=by
 unfold qcg
 have e1:HT.sIx xs.length 0 (some 1)=min 1 xs.length:=HT.qjl xs.length 0 1
 rw[e1,HT.qr5]
 cases xs with
 |nil=>rfl
 | cons x r=>
   have e2:min 1 (x::r).length=1:=by simp
   rw[e2,List.drop_one,List.tail_cons,Jz,Za,Xh]
theorem qvl(l:List Nat): (vN l).tail=vN l.tail:=by unfold vN;rw[List.map_tail]
structure CP(A:Ads)(H:Hp)(s:Sta)(k:Nat)(x:Met)(c dx aK aA aO p:Addr): Prop where
 oC:H c=some (.ins A.CC dx [("knots",.ref aK),("amounts",.ref aA),("totals",.ref aO),("profile",.ref p),("tail",.int (Vbemai.rateOf x)),("removed",.bl (Vbemai.isOut x))])
 oK:H aK=some (.lst (vN (QM.kn s k)))
 oA:H aA=some (.lst (vI (QM.am s k)))
 oO:H aO=some (.lst (vI (QM.sums 0 (QM.am s k))))
 oP:PAt A H p (QM.qa2 (Vbemai.profileOf s x))
theorem CAt.parts{H:Hp}{s:Sta}{k:Nat}{x:Met}{c:Addr}(C:CAt A H s k x c): ∃ dx aK aA aO p,CP A H s k x c dx aK aA aO p:=by
 obtain⟨g,hx,dx,aK,aA,aO,p,pdx,aS,h1,h2,h3,h4,h5,h6⟩:=C
 exact⟨dx,aK,aA,aO,p,h1,h2,h3,h4,⟨pdx,aS,h5,h6⟩⟩
theorem qkc(p:List Nat)(t:Nat): qg6 (QM.qa2 p) t=(QM.wsum p t:Int):=rfl
theorem qrp{s:Sta}(G:QM.Good s)(x:Met): 1<=(QM.qa2 (Vbemai.profileOf s x)).length/\(QM.qa2 (Vbemai.profileOf s x)).length<=96/\∀ w∈QM.qa2 (Vbemai.profileOf s x),w<=1000:=by
 unfold QM.qa2
 split
 ·exact⟨by decide,by decide,by simp⟩
 ·rename_i h
  unfold Vbemai.profileOf at h ⊢
  split
  ·rename_i h2;rw[Je h2] at h;exact absurd rfl h
  ·rename_i h2
   rw[Jc h2] at h
   cases e:s.profiles[x.profile-1]? with
   |none=>rw[e] at h;exact absurd rfl h
   |some p=>exact G.pw p (J0 e)
theorem zah{s:Sta}(G:QM.Good s)(x:Met){a b:Nat}(h:a<=b)(hb:b<=10000): (0:Int)<=(QM.wsum (Vbemai.profileOf s x) b:Int)-QM.wsum (Vbemai.profileOf s x) a/\(QM.wsum (Vbemai.profileOf s x) b:Int)-QM.wsum (Vbemai.profileOf s x) a<=10000000:=by
 rw[QM.qn2 _ h]
 refine⟨by omega,?_⟩
 have hw:∀ q,Vbemai.weight (Vbemai.profileOf s x) q<=1000:=fun q=>by
  rw[QM.qvr]
  cases e:(QM.qa2 (Vbemai.profileOf s x))[q%(QM.qa2 (Vbemai.profileOf s x)).length]? with
  |none=>exact X3 _
  |some v=>exact(qrp G x).2.2 v (J0 e)
 have hl:∀ n,((List.range n).map fun i=>Vbemai.weight (Vbemai.profileOf s x) (a+i)).sum<=1000*n:=fun n=>by
  induction n with
  |zero=>simp
  | succ n ih=>
    rw[Zu,Jv,Z7,Jq,Zv,Yx,List.sum_nil]
    have:=hw (a+n)
    omega
 have:=hl (b-a)
 unfold Vbemai.weights
 have h2:b-a<=10000:=by omega
 have h3:1000*(b-a)<=10000000:=by omega
 omega
theorem q1q(T:Txt P w K mg A):
  Fn P w K mg base 3 "through_within" ["course","place","boundary"] (q8g A):=by
 refine T.qz1.go qh6 (fun _ _ _ _ h=>?_) (fun _ _ _ _ _ H _ Q _ hr h=>?_)
 ·obtain⟨st,k,x,c,i,a,b,t,v,rfl,_⟩:=h;rfl
 ·obtain⟨st,k,x,c,i,a,b,t,v,rfl,C,ha,hb,hv,h1,h2,hab,q⟩:=h
  obtain⟨dx,aK,aA,aO,p,CC⟩:=C.parts
  have oC:=CC.oC
  have oK:=CC.oK
  have hbb:=QM.qi3 C.good C.hx b (J0 hb)
  obtain⟨p1,p2,p3⟩:=qrp C.good x
  obtain⟨w1,w2⟩:=zah C.good x (Xj hab) hbb
  have hav:=QM.qv0 C.good C.hx v (J0 hv)
  rw[QM.qmk _ h1 h2] at q
  refine⟨_,(zb (k7 3 qh6.nd (qak K (zk K za) zd)) (zb (k7 4 qh6.nd (qak K (zk K za) (vm qbs zd ki))) (zb (k7 5 qh6.nd (qak K (zk K za) zd)) (zb (k7 6 qh6.nd (zj (qpn T) hr (vg (zk K za) (zf k9 qaj)))) (zb (vf (vc qay qcb ki) (vm qmi (vm qdv qbo (vm qca ze k9)) (vm qca qaj k9))) (ko (vm qmi (vm qdv qbo (zj (qpn T) hr (vg (zk K za) (zf k9 ze)))) qcb))))))),?_⟩
  walk_at "in"
  refine qac (SqL.of CC.oK) (ye (qg0 ha)) ?_
  walk_at ""
  refine qac (SqL.of CC.oK) (show atI _ ((i:Int)+1)=_ from ye (j:=i+1) (qg0 hb)) ?_
  walk_at ""
  refine qac (SqL.of CC.oA) (ye (qcp hv)) ?_
  walk_at ""
  refine⟨p,_,a,b,rfl,CC.oP,p1,by omega,by omega,by omega,?_⟩
  walk_at ""
  rw[qkc,qkc]
  refine ifD (fun c0=>?_) (fun c0=>?_)
  ·rw[Je c0] at q
   walk_at ""
   refine r_I (.inl ⟨by omega,by omega⟩) ?_
   walk_at ""
   exact r_I ⟨by omega,by omega⟩ q
  ·rw[Jc c0] at q
   walk_at ""
   refine⟨p,_,a,t,rfl,CC.oP,p1,by omega,by omega,by omega,?_⟩
   rw[qkc,qkc]
   walk_at ""
   refine r_I (.inl ⟨by omega,by omega⟩) ?_
   walk_at ""
   exact r_I ⟨by omega,by omega⟩ q
theorem qls(T:Txt P w K mg A):
  Fn P w K mg base 4 "through_by" ["course","boundary"] (q8e A):=by
 refine T.qzz.go qh5 (fun _ _ _ _ h=>?_) (fun _ _ _ _ _ H _ Q _ hr h=>?_)
 ·obtain⟨st,k,x,c,t,rfl,_⟩:=h;rfl
 ·obtain⟨st,k,x,c,t,rfl,C,ht,q⟩:=h
  obtain⟨dx,aK,aA,aO,p,CC⟩:=C.parts
  have oC:=CC.oC
  have oK:=CC.oK
  obtain⟨a,b,ha,hb⟩:=ql3 C.good C.hx
  have hm:=C.good.met C.hx
  refine⟨_,(zb (k7 2 qh5.nd (qak K (zk K za) (qdx qd3 ki))) (zb (vf (vc qdd zd (qak K (zk K za) ki)) ki) (zb (vf (vc qdu zd ze) (vm qbs (qak K (zk K za) (qdx qd3 ki)) (vm qdv (zk K za) (vm qca zd ze)))) (zb (k7 3 qh5.nd (vm qca (x_len T.qaw (qdg rfl qh5.nd (own:=[("knot",4)]) (qbj (zk K za)) (by walk_at "bk") (fun _ _ _ _ _=>(vt 4 qh5.nd)) (fun _ _ _ _ _=>(qe0 (vc qdd qaj zd))) (fun _ _ _ _ _=>qaj))) ki)) (ko (vm qbs (qak K (zk K za) k9) (zj (q1q T) hr (vg za (zf k9 zd))))))))),?_⟩
  walk_at "in"
  refine qac (SqL.of CC.oK) (qkm hb) ?_
  walk_at ""
  refine qac (SqL.of CC.oK) (qkk ha) ?_
  walk_at ""
  refine ifD (fun c1=>?_) (fun c1=>?_)
  ·walk_at ""
   have q:=q H (Qz.refl H)
   rw[QM.qwn C.good C.hx ha (by omega)] at q
   exact q
  walk_at ""
  refine ifD (fun c2=>?_) (fun c2=>?_)
  ·walk_at ""
   refine qac (SqL.of CC.oO) (qkl (QM.qia _ _)) ?_
   walk_at ""
   have hb2:=QM.qi3 C.good C.hx b (Zg hb)
   refine r_I (.inr ⟨by omega,by omega⟩) ?_
   walk_at ""
   have q:=q H (Qz.refl H)
   rw[QM.qwo C.good C.hx hb (by omega)] at q
   rw[Up]
   exact q
  walk_at ""
  refine qd0 (SqL.of CC.oK) (fun i=>vN (((QM.kn st k).take i).filter fun u=>decide (u<=t))) rfl ?_ ?_
  ·intro D i H1 v hv pp
   obtain⟨z,hz,rfl⟩:=qif hv
   have hi:=(Ji.mp hz).1
   walk_at ""
   refine⟨rfl,?_⟩
   walk_at ""
   refine ifD (fun c=>?_) (fun c=>?_)
   ·walk_at ""
    refine pp.yes (small 10001 (by have:=QM.ql4 C.good C.hx;omega)) (Qz.refl _) ?_
    show vN _=_
    rw[qf0 _ hz (Xm (by omega)),qie];rfl
   ·refine pp.no (Qz.refl _) ?_
    show vN _=_
    rw[qfz _ hz (J7 (by omega))]
  ·intro L H1 hL s1 hL1
   rw[qcc,Xh] at hL1
   obtain⟨pl,u,v,am',e1,e2,e3,e4,e5,e6,e7⟩:=QM.by_mid C.good C.hx ha (by omega) hb (show t<b by omega)
   have C1:=C.same s1
   obtain⟨dx,aK,aA,aO,p,CC⟩:=C1.parts
   have oC:=CC.oC
   walk_at ""
   refine qau (qbh (SqL.of hL1)) ?_
   have e8:((vN ((QM.kn st k).filter fun u=>decide (u<=t))).length:Int)-1=(pl:Int):=by
    rw[qcc];unfold QM.upTo at e1;omega
   walk_at ""
   rw[e8]
   have hpl:pl<=(QM.am st k).length:=by have:=(Ji.mp e4).1;omega
   refine qac (SqL.of CC.oO) (ye (qcp (QM.qgw _ 0 pl hpl))) ?_
   walk_at ""
   refine⟨st,k,x,c,pl,u,v,t,am',rfl,C1,e2,e3,e4,e5,by omega,by omega,?_⟩
   walk_at ""
   have q:=q H1 s1
   rw[e7,<- QM.qmk _ e5 (by omega)] at q
   rw[Up]
   exact q
theorem qhf(T:Txt P w K mg A):
  Fn P w K mg base 5 "through_between" ["course","start","end"] (q8d A):=by
 refine T.qzy.go q63 (fun _ _ _ _ h=>?_) (fun _ _ _ _ _ H _ Q _ hr h=>?_)
 ·obtain⟨st,k,x,c,t,u,rfl,_⟩:=h;rfl
 ·obtain⟨st,k,x,c,t,u,rfl,C,ht,hu,q⟩:=h
  refine⟨_,(ko (vm qca (zj (qls T) hr (zf za ze)) (zj (qls T) hr (zf za zd)))),?_⟩
  walk_at "in"
  refine⟨st,k,x,c,u,rfl,C,hu,fun H1 s1=>?_⟩
  walk_at ""
  refine⟨st,k,x,c,t,rfl,C.same s1,ht,fun H2 s2=>?_⟩
  walk_at ""
  exact q H2 (s1.trans s2)
theorem q04(T:Txt P w K mg A): Fn P w K mg base 1 "how_known" ["course","quarter"] (q7s A):=by
 refine T.qyx.go q6p (fun _ _ _ _ h=>?_) (fun _ _ _ _ _ H _ Q _ hr h=>?_)
 ·obtain⟨st,k,x,c,t,rfl,_⟩:=h;rfl
 ·obtain⟨st,k,x,c,t,rfl,C,q⟩:=h
  obtain⟨dx,aK,aA,aO,p,CC⟩:=C.parts
  have oC:=CC.oC
  have oK:=CC.oK
  obtain⟨a,b,ha,hb⟩:=ql3 C.good C.hx
  rw[QM.q9c C.good C.hx ha hb] at q
  refine⟨_,(zb (vf (vc qeh zd (qak K (zk K za) ki)) (zq T.qon)) (zb (vf (vc qdu zd (qak K (zk K za) (qdx qd3 ki))) (qrh (qdy (zk K za)) (zq T.qon) (zq T.qwq))) (zb (vf (PW.pt (qe1 (qjh qmj zd (zk K za) (by with_unfolding_all rfl)) (qe2 (qjh qmj (vm qbs zd ki) (zk K za) (by with_unfolding_all rfl))))) (zq T.qws)) (ko (zq T.qw6))))),?_⟩
  walk_at "in"
  refine qac (SqL.of CC.oK) (qkk ha) ?_
  walk_at ""
  refine ifD (fun c1=>?_) (fun c1=>?_)
  ·rw[Je (by omega)] at q
   walk_at ""
   exact q
  rw[Jc (by omega)] at q
  walk_at ""
  refine qac (SqL.of CC.oK) (qkm hb) ?_
  walk_at ""
  refine ifD (fun c2=>?_) (fun c2=>?_)
  ·rw[Je (by omega)] at q
   walk_at ""
   refine ifB (fun c3=>?_) (fun c3=>?_)
   ·rw[Je c3] at q
    walk_at ""
    exact q
   ·rw[Jc (by rw[c3];exact Jr)] at q
    walk_at ""
    exact q
  rw[Jc (by omega)] at q
  walk_at ""
  refine qm1 CC.oK ?_
  walk_at ""
  refine ifB (fun c3=>?_) (fun c3=>?_)
  ·walk_at ""
   refine qm1 (t:=t+1) CC.oK ?_
   walk_at ""
   refine ifB (fun c4=>?_) (fun c4=>?_)
   ·rw[Je ⟨c3,c4⟩] at q
    walk_at ""
    exact q
   ·rw[Jc (by rw[c4];exact fun z=>nomatch z.2)] at q
    walk_at ""
    exact q
  ·rw[Jc (by rw[c3];exact fun z=>nomatch z.1)] at q
   refine qam ?_
   walk_at ""
   exact q
theorem qpe(T:Txt P w K mg A): Fn P w K mg base 1 "gaps_of" ["course"] (q7q A):=by
 refine T.qyt.go q6n (fun _ _ _ _ h=>?_) (fun _ _ _ _ _ H _ Q _ hr h=>?_)
 ·obtain⟨st,k,x,c,rfl,_⟩:=h;rfl
 ·obtain⟨st,k,x,c,rfl,C,q⟩:=h
  obtain⟨dx,aK,aA,aO,p,CC⟩:=C.parts
  have oC:=CC.oC
  have oK:=CC.oK
  refine⟨_,(ko (q4z rfl T.b_list rfl T.qin (vg (zk K za) (zf (qhu qh8 (zk K za) (qgg ki) qjg) (zk K za))))),?_⟩
  walk_at "in"
  refine qhz (SqL.of CC.oK) fun p2 hp2=>?_
  rw[cut1,qvl]
  have s1:=Qz.new (o:=.lst (vN (QM.kn st k).tail)) hp2
  have oC1:=s1 _ _ oC
  walk_at ""
  have hne:=QM.qi4 C.good C.hx
  have hal:=QM.qkh C.good C.hx
  refine⟨aK,p2,aA,_,_,_,(QM.kn st k).tail.length,rfl,SqL.of (s1 _ _ CC.oK),SqL.of zc,SqL.of (s1 _ _ CC.oA),?_,?_,?_,fun H' l as s2 hl hl2 hlen hget=>?_⟩
  ·rw[qcc,Qm];have:=Ua.mpr hne;omega
  ·rw[qcc]
  ·rw[qas,Qm];omega
  refine q H' l (s1.trans s2) (s1.free hl) ⟨as,hl2,?_,fun i ad y h1 h2=>?_⟩
  ·rw[hlen,Jd,QM.qix C.good C.hx,Yr,Yr,Qm];omega
  ·obtain⟨v1,v2,v3,g1,g2,g3,g4⟩:=hget i ad h1
   rw[Jt,QM.qix C.good C.hx] at h2
   obtain⟨n1,k1,rfl⟩:=qif g1
   obtain⟨n2,k2,rfl⟩:=qif g2
   obtain⟨n3,k3,rfl⟩:=qj9 g3
   have hz:((QM.kn st k).zip ((QM.kn st k).tail.zip (QM.am st k)))[i]?=some (n1,n2,n3):=by
    rw[Xn];refine⟨k1,?_⟩
    rw[Xn];exact⟨k2,k3⟩
   rw[hz] at h2
   cases h2
   exact g4
theorem q96{l:List Int}{i:Nat}{y:Int}(h:l[i]?=some y): vI (l.take (i+1))=vI (l.take i)++[.int y]:=by
 rw[Xq,h];simp[vI]
theorem qiu(T:Txt P w K mg A):
  Fn P w K mg base 4 "course_of" ["book","meter"] (q7m A):=by
 refine T.qyp.go qh3 (fun _ _ _ _ h=>?_) (fun _ _ _ _ _ H _ Q _ hr h=>?_)
 ·obtain⟨st,b,n,x,m,rfl,_⟩:=h;rfl
 ·obtain⟨st,b,n,x,m,rfl,B,hx,hm,q⟩:=h
  refine⟨_,(zb (k7 2 qh3.nd (zj (qpg T) hr (zo zd))) (zb (qgi (i:=3) rfl qh3.nd rfl rfl (by exact qgx rfl rfl rfl rfl) (own:=[("start",4),("end",5)]) (qrk rfl T.qin (zf ze (qhu qh8 ze (qgg ki) qjg))) (by walk_at "bk") (fun _ _ _ _ _=>(qex (K':=K) (n:=2) rfl rfl (qbi (vt 4 qh3.nd) (qbi (vt 5 qh3.nd) qey)))) (fun _ _ _ _ _=>qei) (fun _ _ _ _ _=>(zj (q0f T) hr (vg zd (zf qaj qbo))))) (ko (qht (qxo T) hr (vg ze (vg k9 (vg (qak K (zk K za) (zk K zd)) (zf (zj (q1o T) hr (zo zd)) (zj (qhe T) hr (zo zd)))))))))),?_⟩
  have M:=B.met hx hm
  have hne:=QM.qi4 M.good M.hx
  have hal:=QM.qkh M.good M.hx
  have hkl:=QM.ql4 M.good M.hx
  walk_at "in"
  refine⟨st,n+1,x,m,rfl,M,fun H1 aK s1 hK hK1=>?_⟩
  walk_at ""
  refine qhz (SqL.of hK1) fun p2 hp2=>?_
  rw[cut1,qvl]
  have s2:=s1.trans (Qz.new (o:=.lst (vN (QM.kn st (n+1)).tail)) hp2)
  have hK2:=Qz.new (o:=.lst (vN (QM.kn st (n+1)).tail)) hp2 _ _ hK1
  have hp2':upd H1 p2 (.lst (vN (QM.kn st (n+1)).tail)) p2=some (.lst (vN (QM.kn st (n+1)).tail)):=zc
  generalize upd H1 p2 (.lst (vN (QM.kn st (n+1)).tail))=H2 at *
  walk_at ""
  refine r_iz (SqL.of hK2) (SqL.of hp2') ?_
  have get:∀ i,i<(QM.am st (n+1)).length->∃ a b v,(QM.kn st (n+1))[i]?=some a/\(QM.kn st (n+1))[i+1]?=some b/\(QM.kn st (n+1)).tail[i]?=some b/\(QM.am st (n+1))[i]?=some v/\v=QM.qb2 (QM.qal st (n+1)) x.devices a b:=fun i hi=>by
   have h1:(QM.kn st (n+1))[i]?=some (QM.kn st (n+1))[i]:=Jo (by omega)
   have h2:(QM.kn st (n+1))[i+1]?=some (QM.kn st (n+1))[i+1]:=Jo (by omega)
   refine⟨_,_,_,h1,h2,by rw[List.getElem?_tail];exact h2,?_,rfl⟩
   rw[QM.qfw M.hx]
   exact QM.qki _ _ i _ _ h1 h2
  refine qe4 (QM.am st (n+1)).length (fun i=>vI ((QM.am st (n+1)).take i)) rfl (fun i H' hi s3=>?_) (fun H' s3=>?_) ?_ ?_
  ·obtain⟨a,bb,v,h1,h2,h3,_⟩:=get i hi
   exact⟨_,_,_,_,SqL.of (s3 _ _ hK2),SqL.of (s3 _ _ hp2'),qg0 h1,qg0 h3⟩
  ·exact⟨_,_,SqL.of (s3 _ _ hK2),SqL.of (s3 _ _ hp2'),.inr (by rw[qcc,Qm];omega)⟩
  ·rintro D i H3 v H3' hi p ⟨t,x1,y1,rfl,ht,rfl,hx1,hy1⟩
   obtain⟨a,bb,vv,h1,h2,h3,h4,h5⟩:=get i hi
   have e1:=hx1 _ (SqL.of (p.same _ _ hK2))
   rw[qg0 h1] at e1
   have e2:=hy1 _ (SqL.of (p.same _ _ hp2'))
   rw[qg0 h3] at e2
   cases e1
   cases e2
   have s4:=Qz.new (o:=.tup [.int (a:Int),.int (bb:Int)]) ht
   walk_at ""
   refine qe3 (SqT.of zc) rfl ?_
   walk_at ""
   refine⟨rfl,?_⟩
   walk_at ""
   refine qag ?_
   walk_at ""
   refine⟨st,n+1,x,m,i,a,bb,rfl,((M.same s2).same p.same).same s4,h1,h2,fun H4 s5=>?_⟩
   refine p.yes (small 10001 (by omega)) (s4.trans s5) ?_
   show vI _=_
   rw[q96 h4,h5]
  ·intro aA H5 hA s5 hA5
   rw[Xh] at hA5
   have S5:=s2.trans s5
   have B5:=B.same S5
   have M5:=M.same S5
   have hK5:=s5 _ _ hK2
   obtain⟨pr,hpr,_,_⟩:=qro B5 (M.good.met M.hx)
   walk_at ""
   refine qac (SqL.of B5.oP) (ye (by rw[Jt,hpr];rfl)) ?_
   walk_at ""
   refine⟨st,n+1,x,m,rfl,M5,?_⟩
   walk_at ""
   refine⟨st,n+1,x,m,rfl,M5,?_⟩
   walk_at ""
   intro c dx hc hdx hcd
   have hnA:aA≠c:=k8 hA5 hc
   have hnA2:aA≠dx:=k8 hA5 hdx
   refine⟨c,dx,aK,aA,pr.a,QM.am st (n+1),Vbemai.rateOf x,Vbemai.isOut x,rfl,zc,by rw[qc hnA,qc hnA2];exact hA5,small 10001 (by omega),fun H6 aO b6 hO hc6 hO6=>⟨rfl,?_⟩⟩
   have S6:Qz H5 H6:=fun b o hb=>b6 b o (k8 hb hc) (by rw[qc (k8 hb hc),qc (k8 hb hdx)];exact hb)
   have hOc:aO≠c:=by intro z;subst z;rw[zc] at hO;cases hO
   rw[qc hOc] at hO
   have hOd:aO≠dx:=by intro z;subst z;rw[zc] at hO;cases hO
   rw[qc hOd] at hO
   exact q H6 c (S5.trans S6) ⟨dx,aK,aA,aO,pr,hpr,S5.free hc,hK,s2.free hA,S5.free hO,hc6,S6 _ _ hK5,S6 _ _ hA5,hO6⟩
theorem q1l(T:Txt P w K mg A): Fn P w K mg base 1 "sign_of" ["meter"] (q8a A):=by
 refine T.qzt.go q61 (fun _ _ _ _ h=>?_) (fun _ _ _ _ _ H _ Q _ hr h=>?_)
 ·obtain⟨st,k,x,m,rfl,_⟩:=h;rfl
 ·obtain⟨st,k,x,m,rfl,M,q⟩:=h
  refine⟨_,(zb (vf (vc qay (zk K za) (zq T.qkt)) ki) (zb (vf (vc qay (zk K za) (zq T.qoo)) (qdx qd3 ki)) (ko ki))),?_⟩
  unfold QM.signOf at q
  walk_at "in"
  refine ifD (fun c=>?_) (fun c=>?_)
  ·rw[Je (by omega)] at q
   walk_at ""
   exact q
  ·rw[Jc (by omega)] at q
   walk_at ""
   refine ifD (fun c=>?_) (fun c=>?_)
   ·rw[Je (by omega)] at q
    walk_at ""
    exact q
   ·rw[Jc (by omega)] at q
    walk_at ""
    exact q
theorem q1k(T:Txt P w K mg A): Fn P w K mg base 1 "sign_in_zone" ["meter","zone"] (q79 A):=by
 refine T.qzs.go q60 (fun _ _ _ _ h=>?_) (fun _ _ _ _ _ H _ Q _ hr h=>?_)
 ·obtain⟨st,k,x,m,z,rfl,_⟩:=h;rfl
 ·obtain⟨st,k,x,m,z,rfl,M,q⟩:=h
  refine⟨_,(zb (vf (PW.pt (qe1 (vc qay (zk K za) (zq T.qku)) (qe2 (vc qay (zk K za) zd)))) ki) (zb (vf (vc qde (zk K za) zd) ki) (ko (qrh (vc qay (zk K za) (zq T.qkt)) ki (qdx qd3 ki))))),?_⟩
  unfold QM.qfo at q
  have rest:(¬ (x.kind=2/\x.zone2=z))->qb6 (qem (qdk (tOp rNe (qe6 K (vd 0) "zone") (vd 1))) (qbz (tC (.int 0))) qen) (qbz (tIf (qdk (tOp rEq (qe6 K (vd 0) "kind") (tC (.int 1)))) (tC (.int 1)) (tUn (rU fun i=>.int (-i)) (tC (.int 1))))) { nx:=fun _ H'=>Q .non H',rt:=Q } (start ["meter","zone"] [.ref m.a,.int (z:Int)]) H:=fun hc=>by
   rw[Jc hc] at q
   walk_at ""
   refine ifN (fun c=>?_) (fun c=>?_)
   ·rw[Je (by omega)] at q
    walk_at ""
    exact q
   ·rw[Jc (by omega)] at q
    walk_at ""
    refine ifD (fun c=>?_) (fun c=>?_)
    ·rw[Je (by omega)] at q
     walk_at ""
     exact q
    ·rw[Jc (by omega)] at q
     walk_at ""
     exact q
  walk_at "in"
  refine ifD (fun c=>?_) (fun c=>?_)
  ·walk_at ""
   refine ifD (fun c2=>?_) (fun c2=>?_)
   ·rw[Je ⟨by omega,by omega⟩] at q
    walk_at ""
    exact q
   ·exact rest (by omega)
  ·refine qam ?_
   exact rest (by omega)
theorem tl_at{H:Hp}{s:Sta}{k:Nat}{x:Met}{m:Ve}(M:MAt A H s k x m){i:Nat}{e:Nat×Nat}(h:(QM.toldOf s k)[i]?=some e): kj (tlK m.tl) (Sum.inl (e.1:Int))=some (.int (e.2:Int)):=by
 have hn:(m.tl.map (·.1)).Nodup:=(M.rel.tl.map (·.1)).nodup_iff.mpr (QM.qnu M.good k)
 have:m.tl.lookup e.1=some e.2:=(QM.lookup_mem hn).mpr (M.rel.tl.mem_iff.mpr (J0 h))
 rw[qnt,this];rfl
theorem Qeq.app{H:Hp}{l t:Addr}{as:List Addr}{xs:List (List V)}{y:List V}(h1:H l=some (.lst (as.map V.ref)))(h2:as.length=xs.length)(h3:∀ (i:Nat) (a:Addr) (x:List V),as[i]?=some a->xs[i]?=some x->H a=some (.tup x))(ht:H t=none):
  upd H t (.tup y) l=some (.lst (as.map V.ref))/\Qeq (upd (upd H t (.tup y)) l (.lst (as.map V.ref++[.ref t]))) l (xs++[y]):=by
 have hne:l≠t:=k8 h1 ht
 refine⟨by rw[qc hne];exact h1,as++[t],by rw[zc,Jv];rfl,by rw[Jx,Jx,h2];rfl,fun i a x q1 q2=>?_⟩
 rw[List.getElem?_append] at q1 q2
 by_cases hi:i<as.length
 ·rw[Je hi] at q1
  rw[Je (by omega)] at q2
  have h4:=h3 i a x q1 q2
  rw[qc (qah h4 h1 (by intro z;cases z)),qc (k8 h4 ht)]
  exact h4
 ·rw[Jc hi] at q1
  rw[Jc (by omega)] at q2
  cases hz:i-as.length with
  | zero=>
    rw[hz] at q1
    rw[<- h2,hz] at q2
    cases q1;cases q2
    rw[qc hne.symm,zc]
  |succ j=>rw[hz] at q1;simp at q1
theorem qlp(T:Txt P w K mg A): Fn P w K mg base 1 "parts_by_hand" ["meter","start","end"] (q72 A):=by
 refine T.qze.go qfm (fun _ _ _ _ h=>?_) (fun _ _ _ _ _ H _ Q _ hr h=>?_)
 ·obtain⟨st,k,x,m,a,b,rfl,_⟩:=h;rfl
 ·obtain⟨st,k,x,m,a,b,rfl,M,q⟩:=h
  have hu:=yb hr
  refine⟨_,(zb (k7 3 qfm.nd (vo qhq)) (zb (k7 4 qfm.nd ki) (zb (k7 5 qfm.nd zd) (zb (qdi Ys rfl (qbj (qdw (qox rfl) rfl T.qko QP.boot_sorted (zo (zk K za)))) (vt 6 qfm.nd) (zb (qgh (vc qdu qcb ze) (qaz q5g) qgj) (zb (qgh (vc qjb qcb qbo) (zb (qbn (qbx Xe Xv Xw qc3 k9 (zo (qgf (vg qbo (zf qcb qaj)))))) (qaz (k7 5 qfm.nd qcb))) qgj) (qaz (k7 4 qfm.nd (k6 hu (zk K za) qcb)))))) (zb (qbn (qbx Xe Xv Xw qc3 k9 (zo (qgf (vg qbo (zf ze qaj)))))) (ko k9)))))),?_⟩
  walk_at "in"
  intro L hL
  have s1:=Qz.new (o:=.lst []) hL
  have hL1:upd H L (.lst []) L=some (.lst []):=zc
  have M1:=M.same s1
  generalize upd H L (.lst [])=H1 at *
  walk_at ""
  refine⟨m.aT,_,wts (m.tl.map (·.1)),rfl,M1.oT,q9m _,fun ns' p H2 h1 h2 h3 eH2=>?_⟩
  obtain⟨l',rfl,hp'⟩:=qms h1
  have e:=qni (qn3 h2) (hp'.trans (M.rel.tl.map (·.1))) (QM.qib M.good k)
  subst e
  have s2:Qz H1 H2:=by rw[eH2];exact Qz.new h3
  have hp2:H2 p=some (.lst (vN ((QM.toldOf st k).map (·.1)))):=by rw[eH2,zc];exact Ym (fun z=>some (HO.lst z)) (qid _)
  have hL2:=s2 _ _ hL1
  have M2:=M1.same s2
  have hpL:p≠L:=(k8 hL1 h3).symm
  have S2:=s1.trans s2
  clear eH2 h1 h2
  have hlen:(QM.toldOf st k).length<=64:=by rw[<- M.rel.tl.length_eq];exact qve M.good M.rel
  walk_at ""
  refine qel (vN ((QM.toldOf st k).map (·.1))) (fun i σ H'=>∃ (bg h:Nat) (dn:List (Nat×Nat×Nat)) (as:List Addr) (v:Option V),Qz H H'/\H' p=some (.lst (vN ((QM.toldOf st k).map (·.1))))/\H' L=some (.lst (as.map V.ref))/\as.length=(dn.map qdf).length/\(∀ (i:Nat) (a:Addr) (x:List V),as[i]?=some a->(dn.map qdf)[i]?=some x->H' a=some (.tup x))/\as.length<=i /\
    dn++QM.qaq b bg h ((QM.toldOf st k).drop i)=QM.qaq b a 0 (QM.toldOf st k)/\σ=[some (.ref m.a),some (.int (a:Int)),some (.int (b:Int)),some (.ref L),some (.int (h:Int)),some (.int (bg:Int)),v])
    ⟨a,0,[],[],none,S2,hp2,hL2,rfl,fun i a x h=>by simp at h,X3 _,rfl,rfl⟩ (fun i σ H' ⟨bg,h,dn,as,v,g1,g2,_⟩=>SqL.of g2) ?_ ?_
  ·rintro σ H' ⟨bg,h,dn,as,v,g1,g2,g3,g4,g5,g6,g7,rfl⟩
   rw[qcc,Jd,List.drop_length] at g7
   walk_at ""
   intro t ht
   obtain⟨g8,g9⟩:=Qeq.app (y:=qdf (bg,b,h)) g3 g4 g5 ht
   walk_at ""
   refine qco g8 (by rw[Jd];rw[qcc,Jd] at g6;exact small 64 (by omega)) ?_
   walk_at ""
   refine q _ L ?_ hL ?_
   ·exact Qz.upd (Qz.upd g1 (g1.free ht)) hL
   ·rw[<- g7,Jv];exact g9
  ·rintro i σ H' v0 hv ⟨bg,h,dn,as,v,g1,g2,g3,g4,g5,g6,g7,rfl⟩
   obtain⟨z,hz,rfl⟩:=qif hv
   rw[Jt] at hz
   cases he:(QM.toldOf st k)[i]? with
   |none=>rw[he] at hz;cases hz
   | some e=>
     rw[he] at hz
     obtain rfl:e.1=z:=Jj hz
     have hi:=(Ji.mp he).1
     have hdrop:(QM.toldOf st k).drop i=e::(QM.toldOf st k).drop (i+1):=by
      rw[Ul hi]
      rw[Jo hi] at he
      cases he;rfl
     rw[hdrop] at g7
     have M':=M.same g1
     have hg:=tl_at M' he
     walk_at ""
     refine ifD (fun c=>?_) (fun c=>?_)
     ·have e7:QM.qaq b bg h (e::(QM.toldOf st k).drop (i+1))=[(bg,b,h)]:=by
       obtain⟨e1,e2⟩:=e
       unfold QM.qaq
       rw[Je (by omega)]
      rw[e7] at g7
      walk_at ""
      intro t ht
      obtain⟨g8,g9⟩:=Qeq.app (y:=qdf (bg,b,h)) g3 g4 g5 ht
      walk_at ""
      refine qco g8 (by rw[Jd];exact small 64 (by omega)) ?_
      walk_at ""
      refine q _ L ?_ hL ?_
      ·exact Qz.upd (Qz.upd g1 (g1.free ht)) hL
      ·rw[<- g7,Jv];exact g9
     walk_at ""
     refine ifD (fun c2=>?_) (fun c2=>?_)
     ·have e7:QM.qaq b bg h (e::(QM.toldOf st k).drop (i+1))=(bg,e.1,h)::QM.qaq b e.1 e.2 ((QM.toldOf st k).drop (i+1)):=by
       obtain⟨e1,e2⟩:=e
       show (if b<=e1 then _ else if bg<e1 then _ else _)=_
       rw[Jc (by omega),Je (by omega)]
      rw[e7] at g7
      walk_at ""
      intro t ht
      obtain⟨g8,g9⟩:=Qeq.app (y:=qdf (bg,e.1,h)) g3 g4 g5 ht
      walk_at ""
      refine qco g8 (by rw[Jd];exact small 64 (by omega)) ?_
      have g10:Qz H (upd (upd H' t (.tup [.int (bg:Int),.int (e.1:Int),.int (h:Int)])) L (.lst (as.map V.ref++[.ref t]))):=Qz.upd (Qz.upd g1 (g1.free ht)) hL
      have M3:=M.same g10
      have hg3:=tl_at M3 he
      have g11:upd (upd H' t (.tup [.int (bg:Int),.int (e.1:Int),.int (h:Int)])) L (.lst (as.map V.ref++[.ref t])) p=some (.lst (vN ((QM.toldOf st k).map (·.1)))):=by
       rw[qc hpL,qc (k8 g2 ht)];exact g2
      have g9:Qeq (upd (upd H' t (.tup [.int (bg:Int),.int (e.1:Int),.int (h:Int)])) L (.lst (as.map V.ref++[.ref t]))) L _:=g9
      obtain⟨as',a1,a2,a3⟩:=g9
      generalize upd (upd H' t (.tup [.int (bg:Int),.int (e.1:Int),.int (h:Int)])) L (.lst (as.map V.ref++[.ref t]))=H5 at *
      walk_at ""
      refine qhy M3.oT hg3 ?_
      walk_at ""
      refine⟨e.1,e.2,dn++[(bg,e.1,h)],as',_,g10,g11,a1,by rw[a2,Jv];rfl,fun i a x q1 q2=>a3 i a x q1 (by rw[Jv] at q2;exact q2),?_,by rw[Yv];exact g7,rfl⟩
      rw[a2,Jx,<- g4];exact Nat.succ_le_succ g6
     ·have e7:QM.qaq b bg h (e::(QM.toldOf st k).drop (i+1))=QM.qaq b bg e.2 ((QM.toldOf st k).drop (i+1)):=by
       obtain⟨e1,e2⟩:=e
       show (if b<=e1 then _ else if bg<e1 then _ else _)=_
       rw[Jc (by omega),Jc (by omega)]
      rw[e7] at g7
      walk_at ""
      refine qhy M'.oT hg ?_
      walk_at ""
      exact⟨bg,e.2,dn,as,_,g1,g2,g3,g4,g5,Nat.le_succ_of_le g6,g7,rfl⟩
theorem q02(T:Txt P w K mg A): Fn P w K mg base 2 "hand_at" ["meter","quarter"] (q7r A):=by
 refine T.qyv.go q6o (fun _ _ _ _ h=>?_) (fun _ _ _ _ _ H _ Q _ hr h=>?_)
 ·obtain⟨st,k,x,m,t,rfl,_⟩:=h;rfl
 ·obtain⟨st,k,x,m,t,rfl,M,q⟩:=h
  refine⟨_,(ko (qc7 K (qak K (zj (qlp T) hr (vg za (zf zd (vm qbs zd ki)))) ki) ki)),?_⟩
  walk_at "in"
  refine⟨st,k,x,m,t,t+1,rfl,M,fun H1 l s1 hl ⟨as,h1,h2,h3⟩=>?_⟩
  rw[QM.q16 M.good] at h2 h3
  match as,h2 with
  | [a0],_=>
    have h4:=h3 0 a0 _ rfl rfl
    walk_at ""
    refine qac (SqL.of h1) (ye (j:=0) rfl) ?_
    walk_at ""
    exact qc5 (SqT.of h4) (ye (j:=2) rfl) (q H1 s1)
theorem q97{l:List Int}{i:Nat}{y:Int}(h:l[i]?=some y): vI (l.take (i+1))=vI (l.take i)++[.int y]:=by
 rw[Xq,h];simp[vI]
theorem qml(b:Nat): ∀ (l:List (Nat×Nat)) (bg k:Nat),(QM.qaq b bg k l).length<=l.length+1
 |[],_,_=>Jp _
 | (q,h)::r,bg,k=>by
   unfold QM.qaq
   split
   ·simp
   ·split
    ·have:=qml b r q h;simp only[Jz];omega
    ·have:=qml b r bg h;simp only[Jz];omega
theorem told64{s:Sta}(G:QM.Good s)(k:Nat): (QM.toldOf s k).length<=64:=by
 unfold QM.toldOf;rw[Jd]
 exact Xd (Xp ..) G.al
theorem q9p{s:Sta}(G:QM.Good s)(k:Nat): ∀ h∈(QM.toldOf s k).map (·.2),h<=32:=fun h hh=>by
 obtain⟨e,he,rfl⟩:=Jk.mp hh
 obtain⟨a,ha,rfl⟩:=Jk.mp he
 exact(G.ao a (J2.mp ha).1).h
theorem q1p(T:Txt P w K mg A):
  Fn P w K mg base 6 "through_in_hand" ["book","meter","hand","start","end"] (q8f A):=by
 refine T.qz0.go qgs (fun _ _ _ _ h=>?_) (fun _ _ _ _ _ H _ Q _ hr h=>?_)
 ·obtain⟨st,b,n,x,m,h,t,u,rfl,_⟩:=h;rfl
 ·obtain⟨st,b,n,x,m,h,t,u,rfl,B,hx,hm,htu,hu,q⟩:=h
  have M:=B.met hx hm
  refine⟨_,(zb (qrq (i:=5) qgs.nd rfl (Or.inr rfl) (zj (qiu T) hr (zf za zd))) (zb (qgi (i:=6) rfl qgs.nd rfl rfl (by exact qgx rfl rfl rfl rfl) (own:=[("part",7)]) (qbj (zj (qlp T) hr (vg zd (zf k9 qaj)))) (by walk_at "bk") (fun _ _ _ _ _=>(vt 7 qgs.nd)) (fun _ _ _ _ _=>(qe0 (vc qay (qc7 K qek ki) ze))) (fun _ _ _ _ _=>qek)) (ko (qdw (qoy rfl) rfl T.b_sum QP.boot_sum (zo (qdg rfl qgs.nd (own:=[("part",7)]) (qbj qcb) (by walk_at "bk") (fun _ _ _ _ _=>(vt 7 qgs.nd)) (fun _ _ _ _ _=>qei) (fun _ _ _ _ _=>(zj (qhf T) hr (vg qbo (zf (qc7 K qek ki) (qc7 K qek ki))))))))))),?_⟩
  walk_at "in"
  refine⟨st,b,n,x,m,rfl,B,hx,hm,fun H1 c s1 cn=>?_⟩
  have C1:=cn.cat (B.same s1) hx
  walk_at ""
  refine⟨st,n+1,x,m,t,u,rfl,M.same s1,fun H2 l s2 hl ⟨as,h1,h2,h3⟩=>?_⟩
  have C2:=C1.same s2
  rw[Jd] at h2
  have hpl:(QM.qaq u t 0 (QM.toldOf st (n+1))).length<=65:=by have:=qml u (QM.toldOf st (n+1)) t 0;have:=told64 B.good (n+1);omega
  have hin:=QM.qhr u (QM.toldOf st (n+1)) t 0 htu
  have hheld:=QM.held_eq st (n+1) h htu (QM.qib B.good (n+1))
  generalize QM.qaq u t 0 (QM.toldOf st (n+1))=ps at *
  have S2:=s1.trans s2
  walk_at ""
  have hz:∀ i a g,as[i]?=some a->ps[i]?=some g->(as.zip ps)[i]?=some (a,g):=fun i a g q1 q2=>by rw[Xn];exact⟨q1,q2⟩
  refine qd0 (SqL.of h1) (fun i=>(((as.zip ps).take i).filter fun p=>decide (p.2.2.2=h)).map fun p=>V.ref p.1) rfl ?_ ?_
  ·intro D i H3 v hv p
   rw[Jt] at hv
   cases ha:as[i]? with
   |none=>rw[ha] at hv;cases hv
   | some a=>
     rw[ha] at hv
     obtain rfl:V.ref a=v:=Jj hv
     have hi:=(Ji.mp ha).1
     have hg:ps[i]?=some ps[i]:=Jo (by omega)
     generalize ps[i]=g at hg
     have ht:=p.same _ _ (h3 i a (qdf g) ha (by rw[Jt,hg];rfl))
     have hzz:=hz i a g ha hg
     walk_at ""
     refine⟨rfl,?_⟩
     walk_at ""
     refine qc5 (SqT.of ht) (ye (j:=2) rfl) ?_
     walk_at ""
     refine ifD (fun c=>?_) (fun c=>?_)
     ·walk_at ""
      refine p.yes (small 65 (by omega)) (Qz.refl _) ?_
      show List.map _ _=_
      rw[qf0 _ hzz (Xm (by show g.2.2=h;omega)),Jv];rfl
     ·refine p.no (Qz.refl _) ?_
      show List.map _ _=_
      rw[qfz _ hzz (J7 (by show ¬ g.2.2=h;omega))]
  ·intro L H3 hL s3 hL3
   have C3:=C2.same s3
   have hlz:(as.zip ps).length=as.length:=by rw[Yr];omega
   rw[Jd,<- hlz,Xh] at hL3
   generalize hF:(as.zip ps).filter (fun p=>decide (p.2.2.2=h))=F at hL3
   have hFm:∀ y∈F,H3 y.1=some (.tup (qdf y.2))/\y.2∈ps:=fun y hy=>by
    rw[<- hF] at hy
    obtain⟨i,hi⟩:=Zw (J2.mp hy).1
    have h5:=Xn.mp hi
    exact⟨s3 _ _ (h3 i y.1 (qdf y.2) h5.1 (by rw[Jt,h5.2];rfl)),J0 h5.2⟩
   have hFl:F.length<=65:=by
    rw[<- hF]
    have:((as.zip ps).filter fun p=>decide (p.2.2.2=h)).length<=(as.zip ps).length:=Xp ..
    omega
   have hsum:(F.map fun y=>Vbemai.between st (n+1) y.2.1 y.2.2.1).sum=Vbemai.held st (n+1) h t u:=by
    rw[hheld]
    unfold QM.qbt
    have e2:(as.zip ps).map (·.2)=ps:=List.map_snd_zip (by omega)
    have e3:=QM.sum_filter ps (fun y=>decide (y.2.2=h)) (fun y=>Vbemai.between st (n+1) y.1 y.2.1)
    have e4:F.map (fun y=>Vbemai.between st (n+1) y.2.1 y.2.2.1)=(ps.filter fun y=>decide (y.2.2=h)).map fun y=>Vbemai.between st (n+1) y.1 y.2.1:=by
     rw[<- hF]
     conv=>rhs;rw[<- e2]
     rw[Wt,Xy];rfl
    rw[e4,e3]
    congr 1
    refine X5 fun y _=>?_
    by_cases hy:y.2.2=h
    ·rw[Je (Xm hy),Je hy]
    ·rw[Jc (by rw[J7 hy];exact Jr),Jc hy]
   walk_at ""
   refine qd0 (SqL.of hL3) (fun i=>vI ((F.map fun y=>Vbemai.between st (n+1) y.2.1 y.2.2.1).take i)) rfl ?_ ?_
   ·intro D i H4 v hv p
    rw[Jt] at hv
    cases ha:F[i]? with
    |none=>rw[ha] at hv;cases hv
    | some y=>
      rw[ha] at hv
      obtain rfl:V.ref y.1=v:=Jj hv
      have hi:=(Ji.mp ha).1
      obtain⟨ht,hym⟩:=hFm y (J0 ha)
      have ht:=p.same _ _ ht
      have hb:=hin _ hym
      walk_at ""
      refine⟨rfl,?_⟩
      walk_at ""
      refine qag ?_
      walk_at ""
      refine qc5 (SqT.of ht) (ye (j:=0) rfl) ?_
      walk_at ""
      refine qc5 (SqT.of ht) (ye (j:=1) rfl) ?_
      walk_at ""
      refine⟨st,n+1,x,c,y.2.1,y.2.2.1,rfl,C3.same p.same,by omega,by omega,fun H5 s5=>?_⟩
      refine p.yes (small 65 (by omega)) s5 ?_
      show vI _=_
      rw[q97 (y:=Vbemai.between st (n+1) y.2.1 y.2.2.1) (by rw[Jt,ha];rfl)]
   ·intro D H4 hD s4 hD4
    walk_at ""
    refine⟨D,_,rfl,SqL.of hD4,?_⟩
    rw[Jd,<- Jd (f:=fun y:Addr×Nat×Nat×Nat=>Vbemai.between st (n+1) y.2.1 y.2.2.1),Xh,hsum]
    exact q _ ((S2.trans s3).trans s4)
theorem q2q{n k:Nat}(h:k<n): ixN n (k:Int)=some k:=by
 unfold ixN;rw[Je (by omega),Je (by omega),J1]
theorem vI_set(l:List Int)(i:Nat)(z:Int): (vI l).set i (.int z)=vI (l.set i z):=by unfold vI;rw[List.map_set]
theorem qph(T:Txt P w K mg A):
  Fn P w K mg base 6 "nets_between" ["book","start","end"] (quq A):=by
 refine T.qzb.go qe5 (fun _ _ _ _ h=>?_) (fun _ _ _ _ _ H _ Q _ hr h=>?_)
 ·obtain⟨st,b,t,u,rfl,_⟩:=h;rfl
 ·obtain⟨st,b,t,u,rfl,B,htu,hu,q⟩:=h
  refine⟨_,(zb (k7 3 qe5.nd (vm qrd (vo (zo ki)) (zq T.qol))) (zb (qdi Ys rfl (qbj (zk K za)) (vt 4 qe5.nd) (zb (k7 5 qe5.nd (zj (q1l T) hr (zo qaj))) (zb (k7 6 qe5.nd (zj (qiu T) hr (zf za qaj))) (qaz (qdi Ys rfl (qbj (zj (qlp T) hr (vg qaj (zf zd ze)))) (qex (K':=K) (n:=3) rfl rfl (qbi (vt 7 qe5.nd) (qbi (vt 8 qe5.nd) (qbi (vt 9 qe5.nd) qey)))) (qaz (ps_asg (vm qbs (qak K k9 pvz9) (vm qdv qbo (zj (qhf T) hr (vg qcb (zf qek pvz8))))) (pg_sub k9 pvz9 set_list)))))))) (ko k9))),?_⟩
  walk_at "in"
  intro z0 hz0
  have s0:=Qz.new (o:=.lst [.int 0]) hz0
  have hz1:upd H z0 (.lst [.int 0]) z0=some (.lst [.int 0]):=zc
  generalize upd H z0 (.lst [.int 0])=H0 at *
  walk_at ""
  refine⟨z0,33,_,rfl,rfl,hz1,by decide,by decide,by decide,fun N hN=>?_⟩
  have S1:Qz H (upd H0 N (.lst (vI (QM.tab fun _=>0)))):=s0.trans (Qz.new hN)
  have hNN:=s0.free hN
  have e0:(List.replicate (Int.toNat 33) [V.int 0]).flatten=vI (QM.tab fun _=>0):=by
   rw[<- QM.q9k];rfl
  rw[e0]
  have hN1:upd H0 N (.lst (vI (QM.tab fun _=>0))) N=some (.lst (vI (QM.tab fun _=>0))):=zc
  generalize upd H0 N (.lst (vI (QM.tab fun _=>0)))=H1 at *
  have B1:=B.same S1
  walk_at ""
  refine qel (b.ms.map fun m=>.ref m.a) (fun i σ H'=>Qz H H'/\H' N=some (.lst (vI (QM.tab (QM.qcm st t u i))))/\∃ v4 v5 v6 v7 v8 v9,σ=[some (.ref b.a),some (.int (t:Int)),some (.int (u:Int)),some (.ref N),v4,v5,v6,v7,v8,v9])
   ⟨S1,hN1,_,_,_,_,_,_,rfl⟩ (fun i σ H' ⟨g,_⟩=>SqL.of (B.same g).oM) ?_ ?_
  ·rintro σ H' ⟨g1,g2,v4,v5,v6,v7,v8,v9,rfl⟩
   rw[Jd,B.lm,<- QM.q38 B.good] at g2
   walk_at ""
   exact q H' N g1 hNN g2
  ·rintro i σ H2 v hv ⟨g1,g2,v4,v5,v6,v7,v8,v9,rfl⟩
   rw[Jt] at hv
   cases hm:b.ms[i]? with
   |none=>rw[hm] at hv;cases hv
   | some m=>
     rw[hm] at hv
     obtain rfl:V.ref m.a=v:=Jj hv
     have hi:=(Ji.mp hm).1
     have hi2:i<st.meters.length:=by rw[<- B.lm];exact hi
     have hx:st.meters[i]?=some st.meters[i]:=Jo hi2
     generalize st.meters[i]=x at hx
     have B2:=B.same g1
     have M2:=B2.met hx hm
     walk_at ""
     refine⟨st,i+1,x,m,rfl,M2,?_⟩
     walk_at ""
     refine⟨st,b,i,x,m,rfl,B2,hx,hm,fun H3 c s3 C3=>?_⟩
     have hN3:=s3 _ _ g2
     have S3:=g1.trans s3
     walk_at ""
     refine⟨st,i+1,x,m,t,u,rfl,M2.same s3,fun H4 l s4 hl ⟨as,h1,h2,h3⟩=>?_⟩
     have hN4:=s4 _ _ hN3
     have C4:=C3.same s4
     have S4:=S3.trans s4
     rw[Jd] at h2
     have hin:=QM.qhr u (QM.toldOf st (i+1)) t 0 htu
     have hheld:=fun h=>QM.held_eq st (i+1) h htu (QM.qib B.good (i+1))
     have hth:=q9p B.good (i+1)
     generalize QM.qaq u t 0 (QM.toldOf st (i+1))=ps at *
     have hsg:QM.signOf x.kind=1\/QM.signOf x.kind = -1\/QM.signOf x.kind=0:=by
      unfold QM.signOf
      split
      ·exact .inl rfl
      ·split
       ·exact .inr (.inl rfl)
       ·exact .inr (.inr rfl)
     walk_at ""
     have hlN:l≠N:=(k8 hN3 hl).symm
     refine qel (as.map V.ref) (fun j σ H'=>Qz H H'/\Qc8 A H2 H' st b i x c/\H' l=some (.lst (as.map V.ref))/\(∀ (i:Nat) (a:Addr) (x:List V),as[i]?=some a->(ps.map qdf)[i]?=some x->H' a=some (.tup x)) /\
      H' N=some (.lst (vI (QM.tab fun h=>QM.qcm st t u i h+QM.signOf x.kind*QM.qbt (Vbemai.between st (i+1)) h (ps.take j))))/\∃ v7 v8 v9,σ=[some (.ref b.a),some (.int (t:Int)),some (.int (u:Int)),some (.ref N),some (.ref m.a),some (.int (QM.signOf x.kind)),some (.ref c),v7,v8,v9])
      ⟨S4,C4,h1,h3,?_,_,_,_,rfl⟩ (fun j σ H' ⟨_,_,g,_⟩=>SqL.of g) ?_ ?_
     ·rw[hN4]
      have e:(fun h=>QM.qcm st t u i h+QM.signOf x.kind*QM.qbt (Vbemai.between st (i+1)) h (ps.take 0))=QM.qcm st t u i:=by
       funext h
       have:QM.qbt (Vbemai.between st (i+1)) h (ps.take 0)=0:=rfl
       rw[this,Int.mul_zero,Int.add_zero]
      rw[e]
     ·rintro σ H5 ⟨k1,k2,k3,k4,k5,v7,v8,v9,rfl⟩
      rw[Jd,h2,Xh] at k5
      refine⟨k1,?_,_,_,_,_,_,_,rfl⟩
      rw[k5]
      have e:(fun h=>QM.qcm st t u i h+QM.signOf x.kind*QM.qbt (Vbemai.between st (i+1)) h ps)=QM.qcm st t u (i+1):=by
       funext h
       rw[QM.q39,hx,hheld];rfl
      rw[e]
     ·rintro j σ H5 v hv ⟨k1,k2,k3,k4,k5,v7,v8,v9,rfl⟩
      rw[Jt] at hv
      cases ha:as[j]? with
      |none=>rw[ha] at hv;cases hv
      | some a=>
        rw[ha] at hv
        obtain rfl:V.ref a=v:=Jj hv
        have hj:=(Ji.mp ha).1
        have hg:ps[j]?=some ps[j]:=Jo (by omega)
        generalize ps[j]=g at hg
        have ht:=k4 j a (qdf g) ha (by rw[Jt,hg];rfl)
        have hb:=hin _ (J0 hg)
        have hh:g.2.2<33:=by
         rcases hb.2.2.2 with e|e
         ·omega
         ·have:=hth _ e;omega
        walk_at ""
        refine qe3 (xs:=[.int (g.1:Int),.int (g.2.1:Int),.int (g.2.2:Int)]) (SqT.of ht) rfl ?_
        walk_at ""
        refine qac (SqL.of k5) (ye (qcp (QM.qns _ hh))) ?_
        walk_at ""
        refine⟨st,i+1,x,c,g.1,g.2.1,rfl,k2.cat (B.same k1) hx,by omega,by omega,fun H6 s6=>?_⟩
        have k56:=s6 _ _ k5
        walk_at ""
        refine r_I (.inl ⟨by omega,by omega⟩) ?_
        walk_at ""
        refine⟨N,_,g.2.2,g.2.2,rfl,rfl,k56,q2q (by rw[qas,QM.qj5];exact hh),?_⟩
        have S6:Qz H (upd H6 N (.lst (vI (QM.tab fun h=>QM.qcm st t u i h+QM.signOf x.kind*QM.qbt (Vbemai.between st (i+1)) h (ps.take (j+1)))))):=Qz.upd (k1.trans s6) hNN
        rw[vI_set,QM.q4a _ _ _ _ g hh]
        have e9:ps.take j++[g]=ps.take (j+1):=by rw[Xq,hg];rfl
        rw[e9]
        have keep:∀ b o,b≠N->H5 b=some o->upd H6 N (.lst (vI (QM.tab fun h=>QM.qcm st t u i h+QM.signOf x.kind*QM.qbt (Vbemai.between st (i+1)) h (ps.take (j+1))))) b=some o:=fun b o hb e=>by rw[qc hb];exact s6 _ _ e
        refine⟨S6,(k2.same s6).upd g2,keep _ _ hlN k3,fun i a y q1 q2=>?_,zc,_,_,_,rfl⟩
        ·have:=k4 i a y q1 q2
         exact keep _ _ (qah this k5 (by intro z;cases z)) this
theorem q98{l:List Int}{i:Nat}{y:Int}(h:l[i]?=some y): vI (l.take (i+1))=vI (l.take i)++[.int y]:=by
 rw[Xq,h];simp[vI]
theorem qlo(T:Txt P w K mg A): Fn P w K mg base 1 "listed_by_hand" ["numbers"] (qup K):=by
 refine T.qy7.go qgr (fun _ _ _ _ h=>?_) (fun _ _ _ _ _ H _ Q _ hr h=>?_)
 ·obtain⟨a,ns,rfl,_⟩:=h;rfl
 ·obtain⟨a,ns,rfl,hs,hn,q⟩:=h
  refine⟨_,(zb (k7 1 qgr.nd (vo (zo (x_len T.qaw (qdg rfl qgr.nd (own:=[("number",2)]) (qbj za) (by walk_at "bk") (fun _ _ _ _ _=>(vt 2 qgr.nd)) (fun _ _ _ _ _=>(qe0 (vc qde ze ki))) (fun _ _ _ _ _=>ze)))))) (zb (qdi Ys rfl (q46 rfl T.qof (zo za)) (qex (K':=K) (n:=2) rfl rfl (qbi (vt 3 qgr.nd) (qbi (vt 2 qgr.nd) qey))) (qaz (qgh (vc qde ze ki) (zb (qbn (qbx Xe Xv Xw qc3 zd (zo k9))) (qaz (qbn (qbx Xe Xv Xw qc3 zd (zo ze))))) qgj))) (ko zd))),?_⟩
  walk_at "in"
  refine qd0 hs (fun i=>vI ((ns.take i).filter fun x=>decide (x≠0))) rfl ?_ ?_
  ·intro D i H1 v hv p
   obtain⟨z,hz,rfl⟩:=qj9 hv
   have hi:=(Ji.mp hz).1
   walk_at ""
   refine⟨rfl,?_⟩
   walk_at ""
   refine ifN (fun c=>?_) (fun c=>?_)
   ·walk_at ""
    refine p.yes (qar (by omega)) (Qz.refl _) ?_
    show vI _=_
    rw[qf0 _ hz (Xm c),qvk];rfl
   ·refine p.no (Qz.refl _) ?_
    show vI _=_
    rw[qfz _ hz (J7 (fun z=>z c))]
  ·intro D H1 hD s1 hD1
   rw[qas,Xh] at hD1
   walk_at ""
   refine qau (qbh (SqL.of hD1)) ?_
   rw[qas]
   walk_at ""
   intro L hL
   have S2:=s1.trans (Qz.new (o:=.lst [.int ((ns.filter fun x=>decide (x≠0)).length:Int)]) hL)
   have hL0:=s1.free hL
   have hL2:upd H1 L (.lst [.int ((ns.filter fun x=>decide (x≠0)).length:Int)]) L=some (.lst (vI (((ns.filter fun x=>decide (x≠0)).length:Int)::QM.qef ns 0))):=zc
   generalize upd H1 L (.lst [.int ((ns.filter fun x=>decide (x≠0)).length:Int)])=H2 at *
   have hs2:=S2.seq hs
   walk_at ""
   refine qm0 ns.length (fun i σ H'=>Qz H H'/\H' L=some (.lst (vI (((ns.filter fun x=>decide (x≠0)).length:Int)::QM.qef ns i)))/\(QM.qef ns i).length<=2*i/\∃ v1 v2,σ=[some (.ref a),some (.ref L),v1,v2])
    ⟨S2,hL2,Jp _,_,_,rfl⟩ (fun i σ H' hi ⟨g,_⟩=>⟨_,.int ns[i],g.seq hs,qcp (Jo hi)⟩) (fun σ H' ⟨g1,g2,g3,v1,v2,e⟩=>⟨⟨_,g1.seq hs,by rw[qas];exact Jp _⟩,?_⟩) ?_
   ·subst e
    walk_at ""
    refine q H' L g1 hL0 ?_
    rw[QM.q9o];exact g2
   ·rintro i σ H3 v H3' hi ⟨g1,g2,g3,v1,v2,rfl⟩ ⟨t,y,rfl,ht,rfl,hy⟩
    have hz:ns[i]?=some ns[i]:=Jo hi
    have e1:=hy _ (g1.seq hs)
    rw[qcp hz] at e1
    cases e1
    generalize ns[i]=z at hz
    have g4:Qz H (upd H3 t (.tup [.int ((i:Nat):Int),.int z])):=g1.trans (Qz.new ht)
    have g5:upd H3 t (.tup [.int ((i:Nat):Int),.int z]) L=some (.lst (vI (((ns.filter fun x=>decide (x≠0)).length:Int)::QM.qef ns i))):=by rw[qc (k8 g2 ht)];exact g2
    have g6:upd H3 t (.tup [.int ((i:Nat):Int),.int z]) t=some (.tup [.int ((i:Nat):Int),.int z]):=zc
    generalize upd H3 t (.tup [.int ((i:Nat):Int),.int z])=H4 at *
    have hk:=QM.q25 ns hz
    walk_at ""
    refine qe3 (SqT.of g6) rfl ?_
    walk_at ""
    refine ifN (fun c=>?_) (fun c=>?_)
    ·rw[Jc c] at hk
     walk_at ""
     refine qco g5 (small 3000 ?_) ?_
     ·rw[qas,Jz];omega
     walk_at ""
     refine qco zc (small 3000 ?_) ?_
     ·rw[Jx,qas,Jz];simp only[Jz,Y3];omega
     walk_at ""
     refine⟨?_,?_,?_,_,_,rfl⟩
     ·rw[qbc];exact Qz.upd g4 hL0
     ·rw[zc,hk];simp[vI]
     ·rw[hk,Jx];simp only[Jz,Y3];omega
    ·rw[Je c,Y7] at hk
     walk_at ""
     exact⟨g4,by rw[hk];exact g5,by rw[hk];omega,_,_,rfl⟩
theorem q1i(T:Txt P w K mg A):
  Fn P w K mg base 6 "rest_between" ["book","zone","start","end"] (q76 A):=by
 refine T.qzm.go qjw (fun _ _ _ _ h=>?_) (fun _ _ _ _ _ H _ Q _ hr h=>?_)
 ·obtain⟨st,b,z,t,u,rfl,_⟩:=h;rfl
 ·obtain⟨st,b,z,t,u,rfl,B,ht,hu,q⟩:=h
  refine⟨_,(zb (k7 4 qjw.nd ki) (zb (qdi Ys rfl (qbj (zk K za)) (vt 5 qjw.nd) (qaz (k7 4 qjw.nd (vm qbs qaj (vm qdv (zj (q1k T) hr (zf qbo zd)) (zj (qhf T) hr (vg (zj (qiu T) hr (zf za qbo)) (zf ze k9)))))))) (ko qaj))),?_⟩
  walk_at "in"
  refine qel (b.ms.map fun m=>.ref m.a) (fun i σ H'=>Qz H H'/\∃ v,σ=[some (.ref b.a),some (.int (z:Int)),some (.int (t:Int)),some (.int (u:Int)),some (.int (QM.qh1 st z t u i)),v]) ⟨Qz.refl H,none,rfl⟩ (fun i σ H' ⟨g,_⟩=>SqL.of (B.same g).oM) ?_ ?_
  ·rintro σ H' ⟨g1,v,rfl⟩
   walk_at ""
   have e:QM.qh1 st z t u (b.ms.map fun m=>V.ref m.a).length=Vbemai.rest st z t u:=by
    rw[Jd,B.lm,QM.rest_eq B.good,QM.qra];rfl
   rw[e]
   exact q H' g1
  ·rintro i σ H2 v hv ⟨g1,v0,rfl⟩
   rw[Jt] at hv
   cases hm:b.ms[i]? with
   |none=>rw[hm] at hv;cases hv
   | some m=>
     rw[hm] at hv
     obtain rfl:V.ref m.a=v:=Jj hv
     have hi2:i<st.meters.length:=by rw[<- B.lm];exact(Ji.mp hm).1
     have hx:st.meters[i]?=some st.meters[i]:=Jo hi2
     generalize st.meters[i]=x at hx
     have B2:=B.same g1
     have M2:=B2.met hx hm
     walk_at ""
     refine⟨st,i+1,x,m,z,rfl,M2,?_⟩
     walk_at ""
     refine⟨st,b,i,x,m,rfl,B2,hx,hm,fun H3 c s3 cn=>?_⟩
     walk_at ""
     refine⟨st,i+1,x,c,t,u,rfl,cn.cat (B2.same s3) hx,ht,hu,fun H4 s4=>?_⟩
     walk_at ""
     refine r_I (.inl ?_) ?_
     ·unfold QM.qfo
      split
      ·exact⟨by decide,by decide⟩
      ·split
       ·exact⟨by decide,by decide⟩
       ·split
        ·exact⟨by decide,by decide⟩
        ·exact⟨by decide,by decide⟩
     walk_at ""
     refine⟨(g1.trans s3).trans s4,some (.ref m.a),?_⟩
     rw[QM.q5q _ _ _ _ _ hx]
     rfl
def pick(s:Sta)(kd z i:Nat): Bool:=(s.meters[i]?).any fun x=>x.kind==kd&&x.zone==z
def qew(b:Vh)(i:Nat): V:=match b.ms[i]? with
 |none=>.non
 |some m=>.ref m.a
theorem q1r(T:Txt P w K mg A):
  Fn P w K mg base 7 "total_of_kind" ["book","kind","zone","hand","start","end"] (qus A):=by
 refine T.qz2.go qh7 (fun _ _ _ _ h=>?_) (fun _ _ _ _ _ H _ Q _ hr h=>?_)
 ·obtain⟨st,b,kd,z,h,t,u,rfl,_⟩:=h;rfl
 ·obtain⟨st,b,kd,z,h,t,u,rfl,B,htu,hu,q⟩:=h
  have hml:=B.good.ml
  have hbl:=B.lm
  refine⟨_,(zb (qgi (i:=6) rfl qh7.nd rfl rfl (by exact qgx rfl rfl rfl rfl) (own:=[("meter",7)]) (qbj (zk K za)) (by walk_at "bk") (fun _ _ _ _ _=>(vt 7 qh7.nd)) (fun _ _ _ _ _=>(qe0 (PW.pt (qe1 (vc qay (zk K qek) zd) (qe2 (vc qay (zk K qek) ze)))))) (fun _ _ _ _ _=>qek)) (ko (qdw (qoy rfl) rfl T.b_sum QP.boot_sum (zo (qdg rfl qh7.nd (own:=[("meter",7)]) (qbj qcb) (by walk_at "bk") (fun _ _ _ _ _=>(vt 7 qh7.nd)) (fun _ _ _ _ _=>qei) (fun _ _ _ _ _=>(zj (q1p T) hr (vg za (vg qek (vg k9 (zf qaj qbo))))))))))),?_⟩
  have geti:∀ i,i<st.meters.length->∃ x m,st.meters[i]?=some x/\b.ms[i]?=some m/\qew b i = .ref m.a/\pick st kd z i=(x.kind==kd&&x.zone==z):=fun i hi=>by
   have h1:st.meters[i]?=some st.meters[i]:=Jo hi
   have hi2:i<b.ms.length:=by omega
   have h2:b.ms[i]?=some b.ms[i]:=Jo hi2
   refine⟨_,_,h1,h2,by unfold qew;rw[h2],by unfold pick;rw[h1];rfl⟩
  walk_at "in"
  refine qd0 (SqL.of B.oM) (fun i=>((List.range i).filter (pick st kd z)).map (qew b)) rfl ?_ ?_
  ·intro D i H1 v hv p
   rw[Jt] at hv
   have hi:i<b.ms.length:=by
    cases hm:b.ms[i]? with
    |none=>rw[hm] at hv;cases hv
    |some m=>exact(Ji.mp hm).1
   obtain⟨x,m,hx,hm,hr1,hp⟩:=geti i (by omega)
   rw[hm] at hv
   obtain rfl:V.ref m.a=v:=Jj hv
   have M1:=(B.same p.same).met hx hm
   have yes:pick st kd z i=true->((List.range (i+1)).filter (pick st kd z)).map (qew b)=((List.range i).filter (pick st kd z)).map (qew b)++[.ref m.a]:=fun hc=>by
    rw[Zu,Z5,Jv];simp[hc,hr1]
   have no:pick st kd z i=false->((List.range (i+1)).filter (pick st kd z)).map (qew b)=((List.range i).filter (pick st kd z)).map (qew b):=fun hc=>by
    rw[Zu,Z5,Jv];simp[hc]
   walk_at ""
   refine⟨rfl,?_⟩
   walk_at ""
   refine ifD (fun c=>?_) (fun c=>?_)
   ·walk_at ""
    refine ifD (fun c2=>?_) (fun c2=>?_)
    ·walk_at ""
     refine p.yes (qar (by omega)) (Qz.refl _) (yes ?_)
     rw[hp,Jw,Yq,Yq];omega
    ·refine p.no (Qz.refl _) (no ?_)
     rw[hp]
     have:(x.zone==z)=false:=by rw[Yu];omega
     rw[this,Qw]
   ·refine qam ?_
    refine p.no (Qz.refl _) (no ?_)
    rw[hp]
    have:(x.kind==kd)=false:=by rw[Yu];omega
    rw[this,Uu]
  ·intro L H1 hL s1 hL1
   rw[Jd,B.lm] at hL1
   have hth:Vbemai.those st (fun x=>x.kind==kd&&x.zone==z)=((List.range st.meters.length).filter (pick st kd z)).map (· + 1):=by
    unfold Vbemai.those Vbemai.numbers
    rw[Wt]
    congr 1
   have hmemF:∀ i∈(List.range st.meters.length).filter (pick st kd z),i<st.meters.length:=fun i hi=>List.mem_range.mp (J2.mp hi).1
   have hFl:((List.range st.meters.length).filter (pick st kd z)).length<=32:=by
    have:=Xp (pick st kd z) (List.range st.meters.length)
    rw[U3] at this
    omega
   unfold Vbemai.sumOf at q
   rw[hth,Xy] at q
   generalize (List.range st.meters.length).filter (pick st kd z)=F at *
   walk_at ""
   refine qd0 (SqL.of hL1) (fun i=>vI ((F.map fun j=>Vbemai.held st (j+1) h t u).take i)) rfl ?_ ?_
   ·intro D i H2 v hv p
    rw[Jt] at hv
    cases hj:F[i]? with
    |none=>rw[hj] at hv;cases hv
    | some j=>
      rw[hj] at hv
      have hi:=(Ji.mp hj).1
      obtain⟨x,m,hx,hm,hr1,_⟩:=geti j (hmemF j (J0 hj))
      have hv:qew b j=v:=Jj hv
      rw[hr1] at hv
      subst hv
      walk_at ""
      refine⟨rfl,?_⟩
      walk_at ""
      refine qag ?_
      walk_at ""
      refine⟨st,b,j,x,m,h,t,u,rfl,(B.same s1).same p.same,hx,hm,htu,hu,fun H3 s3=>?_⟩
      refine p.yes (qar (by omega)) s3 ?_
      show vI _=_
      rw[q98 (y:=Vbemai.held st (j+1) h t u) (by rw[Jt,hj];rfl)]
   ·intro D H2 hD s2 hD2
    walk_at ""
    refine⟨D,_,rfl,SqL.of hD2,?_⟩
    rw[Jd,<- Jd (f:=fun j=>Vbemai.held st (j+1) h t u),Xh]
    exact q _ (s1.trans s2)
theorem qpl(T:Txt P w K mg A):
  Fn P w K mg base 5 "unread_meters" ["book","boundary"] (q8h A):=by
 refine T.qz3.go qjx (fun _ _ _ _ h=>?_) (fun _ _ _ _ _ H _ Q _ hr h=>?_)
 ·obtain⟨st,b,t,rfl,_⟩:=h;rfl
 ·obtain⟨st,b,t,rfl,B,q⟩:=h
  have hml:=B.good.ml
  have hbl:=B.lm
  refine⟨_,(ko (qdg rfl qjx.nd (own:=[("number",2),("meter",3)]) (q47 rfl T.qof (zo (zk K za)) ki) (by walk_at "bk") (fun _ _ _ _ _=>(qex (K':=K) (n:=2) rfl rfl (qbi (vt 2 qjx.nd) (qbi (vt 3 qjx.nd) qey)))) (fun _ _ _ _ _=>(qe0 (qdy (zj (q09 T) hr (zf k9 zd))))) (fun _ _ _ _ _=>ze))),?_⟩
  walk_at "in"
  refine⟨b.aM,_,rfl,rfl,SqL.of B.oM,?_⟩
  refine qe4 b.ms.length (fun i=>vN ((QM.numsTo i).filter fun m=>(Vbemai.meter? st m).any fun x=>QM.qfq st m x t)) rfl (fun i H' hi s1=>⟨_,.ref b.ms[i].a,SqL.of (B.same s1).oM,by rw[Jt,Jo hi];rfl⟩) (fun H' s1=>⟨_,SqL.of (B.same s1).oM,by rw[Jd];exact Jp _⟩) ?_ ?_
  ·rintro D i H1 v H1' hi p ⟨tt,y,rfl,htt,rfl,hy⟩
   have e1:=hy _ (SqL.of (B.same p.same).oM)
   have hm:b.ms[i]?=some b.ms[i]:=Jo hi
   rw[Jt,hm] at e1
   generalize b.ms[i]=m at *
   obtain rfl:V.ref m.a=y:=Jj e1
   have hx:st.meters[i]?=some (st.meters[i]'(by omega)):=Jo _
   generalize st.meters[i]'(by omega)=x at hx
   have s2:=Qz.new (o:=.tup [.int ((i+1:Nat):Int),.ref m.a]) htt
   have M1:=((B.same p.same).same s2).met hx hm
   have hmx:=QM.meter?_at hx
   have e9:upd H1 tt (.tup [.int ((i+1:Nat):Int),.ref m.a]) tt=some (.tup [.int ((i+1:Nat):Int),.ref m.a]):=zc
   generalize upd H1 tt (.tup [.int ((i+1:Nat):Int),.ref m.a])=H2 at *
   walk_at ""
   refine qe3 (SqT.of e9) rfl ?_
   walk_at ""
   refine⟨rfl,?_⟩
   walk_at ""
   refine⟨st,i+1,x,m,t,rfl,M1,fun H3 s3=>?_⟩
   have hf:=QM.q0b (fun m=>(Vbemai.meter? st m).any fun x=>QM.qfq st m x t) i
   have hp:((Vbemai.meter? st (i+1)).any fun x=>QM.qfq st (i+1) x t)=QM.qfq st (i+1) x t:=by rw[hmx];rfl
   rw[hp] at hf
   walk_at ""
   refine ifB (fun c=>?_) (fun c=>?_)
   ·rw[Je c] at hf
    walk_at ""
    refine p.yes (qar (by omega)) (s2.trans s3) ?_
    show vN _=_
    rw[hf,qie];rfl
   ·rw[Jc (by rw[c];exact Jr),Y7] at hf
    refine p.no (s2.trans s3) ?_
    show vN _=_
    rw[hf]
  ·intro D H1 hD s1 hD1
   refine q H1 D s1 hD ?_
   rw[hD1,QM.q94,QM.qra,<- hbl]
def vn:Nat->List Str
 | 1=>["kind","zone","second","boundary","digits","factor","start","profile","rate"]
 | 2=>["meter","boundary","version","value"]
 | 3=>["meter","boundary","end","start","digits","factor"]
 | 4=>["meter","boundary","end"]
 | 5=>["meter","rate"]
 | 6=>["meter","quarter","hand"]
 | 7=>["boundary"]
 | 8=>["from","to"]
 | 9=>["meter","boundary"]
 | 10=>["meter","boundary"]
 | 11=>["meter","quarter"]
 | 12=>["meter","from","to"]
 | 13=>["meter","boundary"]
 | 14=>["meter","quarter"]
 | 15=>["hand","zone","from","to"]
 | 16=>["zone","from","to"]
 | 17=>["from","to"]
 | 18=>["meter"]
 | 19=>["meter","most"]
 | 20=>["boundary"]
 | 21=>["from","to"]
 | 22=>[]
 |_=>[]
def zp:Nat->List (Int×Int)
 | 1=>[(0,2),(0,7),(0,7),(0,10000),(1,9),(1,10000),(0,999999999),(0,8),(0,1000000)]
 | 2=>[(1,32),(0,10000),(1,1000000),(-1,999999999)]
 | 3=>[(1,32),(0,10000),(0,999999999),(0,999999999),(1,9),(1,10000)]
 | 4=>[(1,32),(0,10000),(0,999999999)]
 | 5=>[(1,32),(0,1000000)]
 | 6=>[(1,32),(0,9999),(0,32)]
 | 7=>[(0,10000)]
 | 8=>[(0,10000),(0,10000)]
 | 9=>[(1,32),(0,10000)]
 | 10=>[(1,32),(0,10000)]
 | 11=>[(1,32),(0,9999)]
 | 12=>[(1,32),(0,10000),(0,10000)]
 | 13=>[(1,32),(0,10000)]
 | 14=>[(1,32),(0,9999)]
 | 15=>[(0,32),(0,7),(0,10000),(0,10000)]
 | 16=>[(0,7),(0,10000),(0,10000)]
 | 17=>[(0,10000),(0,10000)]
 | 18=>[(1,32)]
 | 19=>[(1,32),(0,1000000000000)]
 | 20=>[(0,10000)]
 | 21=>[(0,10000),(0,10000)]
 | 22=>[]
 |_=>[]
def Lim(P:Program)(w:World)(K:PySem.W.Frag)(A:Ads)(nm:Str)(l:Int×Int): Prop:=∃ u,Kq P w K A.qa8 (Sum.inr nm) (.ref u)/\∀ H,SqT K H u [.int l.1,.int l.2]
inductive LL(R:Str->Int×Int->Prop): List Str->List (Int×Int)->Prop
 |nil:LL R [] []
 |cons {a b as bs}:R a b->LL R as bs->LL R (a::as) (b::bs)
theorem q24(T:Txt P w K mg A): ∀ n:Nat,LL (Lim P w K A) (vn n) (zp n)
 | 1=>(LL.cons T.l_kind (LL.cons T.ql6 (LL.cons T.q2y (LL.cons T.qed (LL.cons T.qqi (LL.cons T.qqj (LL.cons T.qqm (LL.cons T.q2x (LL.cons T.qql LL.nil)))))))))
 | 2=>(LL.cons T.qcl (LL.cons T.qed (LL.cons T.q20 (LL.cons T.q2z LL.nil))))
 | 3=>(LL.cons T.qcl (LL.cons T.qed (LL.cons T.l_end (LL.cons T.qqm (LL.cons T.qqi (LL.cons T.qqj LL.nil))))))
 | 4=>(LL.cons T.qcl (LL.cons T.qed (LL.cons T.l_end LL.nil)))
 | 5=>(LL.cons T.qcl (LL.cons T.qql LL.nil))
 | 6=>(LL.cons T.qcl (LL.cons T.ql5 (LL.cons T.qqk LL.nil)))
 | 7=>(LL.cons T.qed LL.nil)
 | 8=>(LL.cons T.qf9 (LL.cons T.qga LL.nil))
 | 9=>(LL.cons T.qcl (LL.cons T.qed LL.nil))
 | 10=>(LL.cons T.qcl (LL.cons T.qed LL.nil))
 | 11=>(LL.cons T.qcl (LL.cons T.ql5 LL.nil))
 | 12=>(LL.cons T.qcl (LL.cons T.qf9 (LL.cons T.qga LL.nil)))
 | 13=>(LL.cons T.qcl (LL.cons T.qed LL.nil))
 | 14=>(LL.cons T.qcl (LL.cons T.ql5 LL.nil))
 | 15=>(LL.cons T.qqk (LL.cons T.ql6 (LL.cons T.qf9 (LL.cons T.qga LL.nil))))
 | 16=>(LL.cons T.ql6 (LL.cons T.qf9 (LL.cons T.qga LL.nil)))
 | 17=>(LL.cons T.qf9 (LL.cons T.qga LL.nil))
 | 18=>(LL.cons T.qcl LL.nil)
 | 19=>(LL.cons T.qcl (LL.cons T.l_most LL.nil))
 | 20=>(LL.cons T.qed LL.nil)
 | 21=>(LL.cons T.qf9 (LL.cons T.qga LL.nil))
 | 22=>LL.nil
 | 0=>LL.nil
 |n+23=>LL.nil
theorem qoa(T:Txt P w K mg A): ∀ n:Nat,1<=n->n<=22->∃ u,Kq P w K A.qav (Sum.inl (n:Int)) (.ref u)/\∀ H,SqT K H u ((vn n).map V.str)
 | 1,_,_=>T.a_1
 | 2,_,_=>T.a_2
 | 3,_,_=>T.a_3
 | 4,_,_=>T.a_4
 | 5,_,_=>T.a_5
 | 6,_,_=>T.a_6
 | 7,_,_=>T.a_7
 | 8,_,_=>T.a_8
 | 9,_,_=>T.a_9
 | 10,_,_=>T.a_10
 | 11,_,_=>T.a_11
 | 12,_,_=>T.a_12
 | 13,_,_=>T.a_13
 | 14,_,_=>T.a_14
 | 15,_,_=>T.a_15
 | 16,_,_=>T.a_16
 | 17,_,_=>T.a_17
 | 18,_,_=>T.a_18
 | 19,_,_=>T.a_19
 | 20,_,_=>T.a_20
 | 21,_,_=>T.a_21
 | 22,_,_=>T.a_22
 | 0,h,_=>absurd h (by decide)
 |n+23,_,h=>absurd h (by omega)
theorem qv9:∀ n:Nat,(vn n).Nodup
 | 1=>by decide +kernel
 | 2=>by decide +kernel
 | 3=>by decide +kernel
 | 4=>by decide +kernel
 | 5=>by decide +kernel
 | 6=>by decide +kernel
 | 7=>by decide +kernel
 | 8=>by decide +kernel
 | 9=>by decide +kernel
 | 10=>by decide +kernel
 | 11=>by decide +kernel
 | 12=>by decide +kernel
 | 13=>by decide +kernel
 | 14=>by decide +kernel
 | 15=>by decide +kernel
 | 16=>by decide +kernel
 | 17=>by decide +kernel
 | 18=>by decide +kernel
 | 19=>by decide +kernel
 | 20=>by decide +kernel
 | 21=>by decide +kernel
 | 22=>by decide +kernel
 | 0=>by decide +kernel
 |n+23=>Yb
theorem argN_w:∀ n:Nat,Str.ofString "weights"∉vn n
 | 1=>by decide +kernel
 | 2=>by decide +kernel
 | 3=>by decide +kernel
 | 4=>by decide +kernel
 | 5=>by decide +kernel
 | 6=>by decide +kernel
 | 7=>by decide +kernel
 | 8=>by decide +kernel
 | 9=>by decide +kernel
 | 10=>by decide +kernel
 | 11=>by decide +kernel
 | 12=>by decide +kernel
 | 13=>by decide +kernel
 | 14=>by decide +kernel
 | 15=>by decide +kernel
 | 16=>by decide +kernel
 | 17=>by decide +kernel
 | 18=>by decide +kernel
 | 19=>by decide +kernel
 | 20=>by decide +kernel
 | 21=>by decide +kernel
 | 22=>by decide +kernel
 | 0=>by decide +kernel
 |n+23=>Xa
def gK:List Str->List Int->List (Key×V)
 |k::ks,v::vs=>(Sum.inr k,.int v)::gK ks vs
 |_,_=>[]
theorem qpp:∀ (ks:List Str) (vs:List Int),(ks.map (Sum.inr:Str->Key)).zip (vI vs)=gK ks vs
 |[],_=>by simp[gK]
 |_::_,[]=>by simp[gK,vI]
 | k::ks,v::vs=>by
   show (Sum.inr k,V.int v)::(ks.map (Sum.inr:Str->Key)).zip (vI vs)=_
   rw[qpp ks vs];rfl
theorem qqx:∀ (l acc:List (Key×V)),((acc++l).map (·.1)).Nodup->qc2 acc l=acc++l
 |[],acc,_=>(Y7 acc).symm
 | (k,v)::l,acc,h=>by
   have e:putK acc k v=acc++[(k,v)]:=by
    unfold putK
    rw[Jc]
    intro q
    obtain⟨e,he,hk⟩:=Y9.mp q
    have hk:e.1=k:=Zl hk
    rw[Jv,Zi] at h
    exact h.2.2 e.1 (Jk.mpr ⟨e,he,rfl⟩) k (by simp) hk
   show qc2 (putK acc k v) l=_
   rw[e,qqx l (acc++[(k,v)]) (by rw[Yv];exact h),Yv];rfl
theorem qiw:∀ (ks:List Str) (vs:List Int),ks.length=vs.length->(gK ks vs).map (·.1)=ks.map (Sum.inr:Str->Key)
 |[],_,_=>rfl
 |_::_,[],h=>by cases h
 | k::ks,v::vs,h=>by
   show Sum.inr k::(gK ks vs).map (·.1)=_
   rw[qiw ks vs (by simpa using h)];rfl
theorem q3i{ks:List Str}{vs:List Int}(hn:ks.Nodup)(hl:ks.length=vs.length): qc2 [] ((ks.map (Sum.inr:Str->Key)).zip (vI vs))=gK ks vs:=by
 rw[qpp]
 refine qqx _ [] ?_
 rw[List.nil_append,qiw ks vs hl]
 unfold List.Nodup at hn ⊢
 rw[U1]
 exact hn.imp fun h z=>h (Sum.inr.inj z)
def qnj(K:PySem.W.Frag): Sp:=fun vs H Q _=>∃ (a:Addr) (l:List Int) (i:Nat) (p:Int),vs=[.ref a,.int (i:Int)]/\SqL K H a (vI l)/\l[i]?=some p /\
 ((p=0/\∃ n:Nat,l[i+1]?=some (n:Int)/\Q (.int ((i+2+n:Nat):Int)) H)\/∃ k:Nat,p=(k:Int)/\1<=k/\k<=22/\Q (.int ((i+1+(vn k).length:Nat):Int)) H)
def q70(K:PySem.W.Frag): Sp:=fun vs H Q _=>∃ (a:Addr) (c:List Int),vs=[.ref a]/\SqL K H a (vI c) /\
 ((∃ n row,c=0::n::row/\∀ H' g l,Qz H H'->H g=none->H' g=some (.dK [(Sum.inr "weights",.ref l)])->H' l=some (.lst (vI row))->Q (.ref g) H') \/
  ∃ (k:Nat) (as:List Int),c=(k:Int)::as/\1<=k/\k<=22/\as.length=(vn k).length/\∀ H' g,Qz H H'->H g=none->H' g=some (.dK (gK (vn k) as))->Q (.ref g) H')
def q7x(P:Program)(w:World)(K:PySem.W.Frag)(A:Ads): Sp:=fun vs H Q _=>∃ (nm:Str) (l:Int×Int) (z:Int),vs=[.str nm,.int z]/\Lim P w K A nm l/\Q (.bl (Vbemai.inside z l.1 l.2)) H
def q7j(K:PySem.W.Frag): Sp:=fun vs H Q _=>∃ (a:Addr) (l:List Int),vs=[.ref a]/\SqL K H a (vI l)/\l.length<=1000/\∀ H',Qz H H'->Q (.bl (decide (1<=l.length)&&(decide (l.length<=96)&&l.all fun w=>Vbemai.inside w 0 1000))) H'
def zm:List (Int×Int)->List Int->Bool
 |l::ls,z::zs=>Vbemai.inside z l.1 l.2&&zm ls zs
 |_,_=>true
def q7h(P:Program)(w:World)(K:PySem.W.Frag)(A:Ads): Sp:=fun vs H Q _=>∃ g:Addr,vs=[.ref g] /\
 ((∃ l row,H g=some (.dK [(Sum.inr "weights",.ref l)])/\H l=some (.lst (vI row))/\row.length<=1000/\∀ H',Qz H H'->Q (.bl (decide (1<=row.length)&&(decide (row.length<=96)&&row.all fun w=>Vbemai.inside w 0 1000))) H') \/
  ∃ (ks:List Str) (ls:List (Int×Int)) (as:List Int),H g=some (.dK (gK ks as))/\LL (Lim P w K A) ks ls/\as.length=ks.length/\Str.ofString "weights"∉ks/\ks.length<=100/\∀ H',Qz H H'->Q (.bl (zm ls as)) H')
def qun:Sp:=fun vs H Q _=>∃ (g:Addr) (kvs:List (Key×V)),vs=[.ref g]/\H g=some (.dK kvs) /\
 ((kj kvs (Sum.inr (Str.ofString "to"))=none/\Q (.bl false) H)\/∃ a b:Int,kj kvs (Sum.inr (Str.ofString "to"))=some (.int b)/\kj kvs (Sum.inr (Str.ofString "from"))=some (.int a)/\Q (.bl (decide (b<a))) H)
abbrev ads(A:Ads)(s:Sta)(b:Vh): List Addr:=(qb3 A s b).map (·.1)
def Qae(H H':Hp): Prop:=∀ a o,H a=some o->∃ o',H' a=some o'
theorem Qae.of_same{H H':Hp}(e:Qz H H'): Qae H H':=fun a o h=>⟨o,e _ _ h⟩
theorem Qae.trans{H H1 H2:Hp}(h1:Qae H H1)(h2:Qae H1 H2): Qae H H2:=fun a o h=>by obtain⟨o',h'⟩:=h1 a o h;exact h2 a o' h'
theorem Qae.upd{H H1:Hp}{p:Addr}{o:HO}(h:Qae H H1): Qae H (L2.upd H1 p o):=fun a u q=>by
 by_cases e:a=p
 ·subst e;exact⟨o,zc⟩
 ·rw[qc e];exact h a u q
theorem Qae.free{H H':Hp}(h:Qae H H'){l:Addr}(e:H' l=none): H l=none:=by
 cases q:H l with
 |none=>rfl
 |some o=>obtain⟨o',h'⟩:=h l o q;rw[h'] at e;cases e
structure Vj(A:Ads)(H:Hp)(s:Sta)(b:Vh)(H':Hp)(s':Sta)(b':Vh): Prop where
 bat:BAt A H' s' b'
 ba:b'.a=b.a
 fr:∀ a o,a∉ads A s b->H a=some o->H' a=some o
 nw:∀ a∈ads A s' b',a∈ads A s b\/H a=none
 lv:Qae H H'
theorem Vj.of_same{H H':Hp}{s:Sta}{b:Vh}(B:BAt A H s b)(e:Qz H H'): Vj A H s b H' s b:=⟨B.same e,rfl,fun a o _ h=>e _ _ h,fun a h=>.inl h,Qae.of_same e⟩
def GV(H:Hp)(g:Addr)(n:Nat)(as:List Int): Prop:=H g=some (.dK (gK (vn n) as))
theorem GV.same{H H':Hp}{g:Addr}{n:Nat}{as:List Int}(h:GV H g n as)(e:Qz H H'): GV H' g n as:=e _ _ h
abbrev GQ:=Hp->Addr->Sta->Vbemai.Call->Prop
def qa4(A:Ads)(G:GQ): Sp:=fun vs H Q _=>∃ (s:Sta) (b:Vh) (g:Addr) (c:Vbemai.Call),vs=[.ref b.a,.ref g]/\BAt A H s b/\g∉ads A s b/\G H g s c /\
 ∀ H' b' l,Vj A H s b H' (Vbemai.step s c).1 b'->H l=none->H' l=some (.lst (vI (Vbemai.step s c).2))->Q (.ref l) H'
def gq0:GQ:=fun H g s c=>∃ (l:Addr) (row:List Nat),c = .profile row/\H g=some (.dK [(Sum.inr "weights",.ref l)])/\H l=some (.lst (vI (wts row)))/\QM.Qdl c
def gq1:GQ:=fun H g s c=>∃ (k z y t d:Nat) (f v:Int) (p:Nat) (r:Int),c = .install k z y t d f v p r/\GV H g 1 [(k:Int),z,y,t,d,f,v,p,r]/\QM.Qdl c/\p<=8
def gq2:GQ:=fun H g s c=>∃ (i t n:Nat) (v:Int) (x:Met),c = .read (i+1) t n v/\GV H g 2 [((i+1:Nat):Int),t,n,v]/\QM.Qdl c/\s.meters[i]?=some x
def gq3:GQ:=fun H g s c=>∃ (i t:Nat) (e v:Int) (d:Nat) (f:Int) (x:Met),c = .swap (i+1) t e v d f/\GV H g 3 [((i+1:Nat):Int),t,e,v,d,f]/\QM.Qdl c/\s.meters[i]?=some x
def gq4:GQ:=fun H g s c=>∃ (i t:Nat) (e:Int) (x:Met),c = .remove (i+1) t e/\GV H g 4 [((i+1:Nat):Int),t,e]/\QM.Qdl c/\s.meters[i]?=some x
def gq5:GQ:=fun H g s c=>∃ (i:Nat) (r:Int) (x:Met),c = .rate (i+1) r/\GV H g 5 [((i+1:Nat):Int),r]/\QM.Qdl c/\s.meters[i]?=some x
def gq6:GQ:=fun H g s c=>∃ (i q h:Nat) (x:Met),c = .assign (i+1) q h/\GV H g 6 [((i+1:Nat):Int),q,h]/\QM.Qdl c/\s.meters[i]?=some x
def gq7:GQ:=fun H g s c=>∃ t:Nat,c = .lock t/\GV H g 7 [(t:Int)]/\QM.Qdl c
def gq8:GQ:=fun H g s c=>∃ a b:Nat,c = .publish a b/\GV H g 8 [(a:Int),b]/\a<=b/\b<=10000
def gq9:GQ:=fun H g s c=>∃ (i t:Nat) (x:Met),c = .standing (i+1) t/\GV H g 9 [((i+1:Nat):Int),t]/\s.meters[i]?=some x
def gq10:GQ:=fun H g s c=>∃ (i t:Nat) (x:Met),c = .history (i+1) t/\GV H g 10 [((i+1:Nat):Int),t]/\s.meters[i]?=some x
def gq11:GQ:=fun H g s c=>∃ (i q:Nat) (x:Met),c = .value (i+1) q/\GV H g 11 [((i+1:Nat):Int),q]/\q<=9999/\s.meters[i]?=some x
def gq12:GQ:=fun H g s c=>∃ (i a b:Nat) (x:Met),c = .between (i+1) a b/\GV H g 12 [((i+1:Nat):Int),a,b]/\a<=b/\b<=10000/\s.meters[i]?=some x
def gq13:GQ:=fun H g s c=>∃ (i t:Nat) (x:Met),c = .through (i+1) t/\GV H g 13 [((i+1:Nat):Int),t]/\t<=10000/\s.meters[i]?=some x
def gq14:GQ:=fun H g s c=>∃ (i q:Nat) (x:Met),c = .hand (i+1) q/\GV H g 14 [((i+1:Nat):Int),q]/\s.meters[i]?=some x
def gq15:GQ:=fun H g s c=>∃ h z a b:Nat,c = .total h z a b/\GV H g 15 [(h:Int),z,a,b]/\a<=b/\b<=10000
def gq16:GQ:=fun H g s c=>∃ z a b:Nat,c = .rest z a b/\GV H g 16 [(z:Int),a,b]/\a<=b/\b<=10000
def gq17:GQ:=fun H g s c=>∃ a b:Nat,c = .nets a b/\GV H g 17 [(a:Int),b]/\a<=b/\b<=10000
def gq18:GQ:=fun H g s c=>∃ (i:Nat) (x:Met),c = .gaps (i+1)/\GV H g 18 [((i+1:Nat):Int)]/\s.meters[i]?=some x
def gq19:GQ:=fun H g s c=>∃ (i:Nat) (r:Int) (x:Met),c = .doubt (i+1) r/\GV H g 19 [((i+1:Nat):Int),r]/\0<=r/\r<=1000000000000/\s.meters[i]?=some x
def gq20:GQ:=fun H g s c=>∃ t:Nat,c = .unread t/\GV H g 20 [(t:Int)]
def gq21:GQ:=fun H g s c=>∃ a b:Nat,c = .published a b/\GV H g 21 [(a:Int),b]
def gq22:GQ:=fun H g s c=>c = .state/\GV H g 22 []
def gqN:Nat->GQ
 | 0=>gq0 | 1=>gq1 | 2=>gq2 | 3=>gq3 | 4=>gq4 | 5=>gq5 | 6=>gq6 | 7=>gq7 | 8=>gq8 | 9=>gq9 | 10=>gq10 | 11=>gq11 | 12=>gq12 | 13=>gq13 | 14=>gq14 | 15=>gq15 | 16=>gq16 | 17=>gq17 | 18=>gq18 | 19=>gq19 | 20=>gq20 | 21=>gq21|_=>gq22
def qgt(A:Ads)(lo hi:Nat): Sp:=fun vs H Q _=>∃ (s:Sta) (b:Vh) (g:Addr) (c:Vbemai.Call) (n:Nat),vs=[.ref b.a,.int (n:Int),.ref g]/\lo<=n/\n<=hi/\BAt A H s b/\g∉ads A s b/\gqN n H g s c /\
 ∀ H' b' l,Vj A H s b H' (Vbemai.step s c).1 b'->H l=none->H' l=some (.lst (vI (Vbemai.step s c).2))->Q (.ref l) H'
theorem qat{H:Hp}{Q:VK}{a u:Addr}{i:Int}(e:Kq P w K a (Sum.inl i) (.ref u))(h:Q (.ref u) H): rGD P w K a (.int i) H Q:=⟨Sum.inl i,_,.ref u,rfl,e,rfl,h⟩
theorem r_gdS{H:Hp}{Q:VK}{a u:Addr}{x:Str}(e:Kq P w K a (Sum.inr x) (.ref u))(h:Q (.ref u) H): rGD P w K a (.str x) H Q:=⟨Sum.inr x,_,.ref u,rfl,e,rfl,h⟩
theorem q0z(T:Txt P w K mg A): Fn P w K mg base 1 "call_end" ["calls","at"] (qnj K):=by
 refine T.qyn.go q6l (fun _ _ _ _ h=>?_) (fun _ _ _ _ _ H _ Q _ hr h=>?_)
 ·obtain⟨a,l,i,p,rfl,_⟩:=h;rfl
 ·obtain⟨a,l,i,p,rfl,hs,hp,q⟩:=h
  refine⟨_,(zb (vf (vc qay (qak K za zd) (zq T.qop)) (vm qbs (vm qbs zd ki) (qak K za (vm qbs zd ki)))) (ko (vm qbs (vm qbs zd ki) (x_len T.qaw (qhs T.qqv rfl (qak K za zd) (fun _ _=>rfl)))))),?_⟩
  walk_at "in"
  refine qac hs (ye (qcp hp)) ?_
  walk_at ""
  rcases q with ⟨rfl,n,hn,q⟩|⟨k,rfl,h1,h2,q⟩
  ·refine qag ?_
   walk_at ""
   refine qac hs (show atI _ ((i:Int)+1)=_ from ye (j:=i+1) (qcp hn)) ?_
   walk_at ""
   have e:(i:Int)+2+n=((i+2+n:Nat):Int):=by omega
   rw[e];exact q
  ·refine ifD (fun c=>by omega) (fun c=>?_)
   walk_at ""
   refine qac hs (ye (qcp hp)) ?_
   walk_at ""
   obtain⟨u,hu,hsu⟩:=qoa T k h1 h2
   refine qat hu ?_
   walk_at ""
   refine qau (lenT (hsu H)) ?_
   walk_at ""
   rw[Jd]
   have e:(i:Int)+1+((vn k).length:Int)=((i+1+(vn k).length:Nat):Int):=by omega
   rw[e];exact q
theorem cutK(xs:List V)(k:Nat)(h:k<=xs.length): qcg xs (some (k:Int)) none=xs.drop k:=by
 unfold qcg
 rw[HT.qjl,HT.qr5,Nat.min_eq_left h,Wz]
 rw[Qg];exact Jp _
theorem q2d{tk tv:TE}{σ:St}{H:Hp}{Q:VK}(h:∀ p,H p=none->tk σ (upd H p (.dK [])) fun x H1=>tv σ H1 fun y H2=>H2 p=some (.dK [])/\∃ k:Key,x=kV k/\Q (.ref p) (upd H2 p (.dK [(k,y)]))): tDisp [(tk,tv)] σ H Q:=by
 intro p hp
 show tk σ _ fun x H1=>tv σ H1 fun y H2=>H2 p=some (.dK [])/\_
 have:(fun (x:V) (H1:Hp)=>tv σ H1 fun y H2=>H2 p=some (.dK [])/\∃ k:Key,x=kV k/\Q (.ref p) (upd H2 p (.dK [(k,y)])))=fun x H1=>tv σ H1 fun y H2=>H2 p=some (.dK [])/\∃ kvs:List (Key×V),[(x,y)]=kvs.map (fun kv=>(kV kv.1,kv.2))/\kvs.length<=15/\Q (.ref p) (upd H2 p (.dK (qc2 [] kvs))):=by
  funext x H1
  congr 1
  funext y H2
  refine propext ⟨fun ⟨h1,k,hk,hq⟩=>⟨h1,[(k,y)],by rw[hk];rfl,by simp,hq⟩,fun ⟨h1,kvs,hk,_,hq⟩=>⟨h1,?_⟩⟩
  match kvs,hk with
  | [(k,y')],hk=>
    have hk:=Ze hk
    have e1:=(Ww hk.1).1
    have e2:=(Ww hk.1).2
    subst e2
    exact⟨k,e1,hq⟩
 rw[<- this]
 exact h p hp
theorem q1b(T:Txt P w K mg A): Fn P w K mg base 1 "named_arguments" ["call"] (q70 K):=by
 refine T.qza.go q6w (fun _ _ _ _ h=>?_) (fun _ _ _ _ _ H _ Q _ hr h=>?_)
 ·obtain⟨a,c,rfl,_⟩:=h;rfl
 ·obtain⟨a,c,rfl,hs,q⟩:=h
  refine⟨_,(zb (vf (vc qay (qak K za ki) (zq T.qop)) (q4v (q5d kr (qhu qh8 za (qgg ki) qjg) q5e) rfl rfl (fun q=>nomatch q) (by decide))) (ko (q4u rfl T.b_dict rfl T.qin (zf (qhs T.qqv rfl (qak K za ki) (fun _ _=>rfl)) (qhu qh8 za (qgg ki) qjg))))),?_⟩
  walk_at "in"
  rcases q with ⟨n,row,rfl,q⟩|⟨k,as,rfl,h1,h2,hl,q⟩
  ·refine qac hs (ye (j:=0) rfl) ?_
   walk_at ""
   refine qag ?_
   walk_at ""
   refine q2d fun g hg=>?_
   have s1:=Qz.new (o:=.dK []) hg
   walk_at ""
   refine qhz (s1.seq hs) fun l hl=>?_
   have e1:qcg (vI (0::n::row)) (some 2) none=vI row:=cutK _ 2 (by simp[vI])
   rw[e1]
   have hgl:g≠l:=by intro z;subst z;rw[zc] at hl;cases hl
   refine⟨by rw[qc hgl];exact zc,Sum.inr "weights",rfl,?_⟩
   refine q _ g l ?_ hg zc (by rw[qc hgl.symm,zc])
   exact Qz.upd (s1.trans (Qz.new hl)) hg
  ·refine qac hs (ye (j:=0) rfl) ?_
   walk_at ""
   refine ifD (fun c=>by omega) (fun c=>?_)
   walk_at ""
   refine qac hs (ye (j:=0) rfl) ?_
   walk_at ""
   obtain⟨u,hu,hsu⟩:=qoa T k h1 h2
   refine qat hu ?_
   walk_at ""
   refine qhz hs fun l hl2=>?_
   have e1:qcg (vI ((k:Int)::as)) (some 1) none=vI as:=cutK _ 1 (by simp[vI])
   rw[e1]
   have s1:=Qz.new (o:=.lst (vI as)) hl2
   walk_at ""
   refine⟨u,l,(vn k).map Sum.inr,vI as,rfl,?_,SqL.of zc,by rw[Jd,qas,hl],fun g hg=>?_⟩
   ·have e2:((vn k).map (Sum.inr:Str->Key)).map kV=(vn k).map V.str:=by rw[Xy];rfl
    rw[e2];exact hsu _
   ·rw[q3i (qv9 k) hl.symm]
    exact q _ g (s1.trans (Qz.new hg)) (s1.free hg) zc
theorem qpf(T:Txt P w K mg A): Fn P w K mg base 1 "is_within" ["name","number"] (q7x P w K A):=by
 refine T.qy4.go quf (fun _ _ _ _ h=>?_) (fun _ _ _ _ _ H _ Q _ hr h=>?_)
 ·obtain⟨nm,l,z,rfl,_⟩:=h;rfl
 ·obtain⟨nm,l,z,rfl,⟨u,hu,hsu⟩,q⟩:=h
  refine⟨_,(zb (k7 2 quf.nd (qhs T.q28 rfl za (fun _ _=>rfl))) (ko (qrg qdd qdd (qc7 K ze ki) zd (qc7 K ze ki)))),?_⟩
  walk_at "in"
  refine r_gdS hu ?_
  walk_at ""
  refine qc5 (hsu H) (ye (j:=0) rfl) ?_
  walk_at ""
  unfold Vbemai.inside at q
  refine ifD (fun c=>?_) (fun c=>?_)
  ·rw[Xm c,Bool.true_and] at q
   walk_at ""
   refine qc5 (hsu H) (ye (j:=1) rfl) ?_
   walk_at ""
   exact q
  ·rw[J7 c,Uu] at q
   exact q
theorem q0i(T:Txt P w K mg A): Fn P w K mg base 2 "are_weights" ["row"] (q7j K):=by
 refine T.qx5.go qm4 (fun _ _ _ _ h=>?_) (fun _ _ _ _ _ H _ Q _ hr h=>?_)
 ·obtain⟨a,l,rfl,_⟩:=h;rfl
 ·obtain⟨a,l,rfl,hs,hl,q⟩:=h
  refine⟨_,(ko (qmo (qrg qdd qdd ki (x_len T.qaw za) (zq T.qwz)) (qmq (qdw (qow rfl) rfl T.b_all QP.boot_all (zo (qdg rfl qm4.nd (own:=[("weight",1)]) (qbj za) (by walk_at "bk") (fun _ _ _ _ _=>(vt 1 qm4.nd)) (fun _ _ _ _ _=>qei) (fun _ _ _ _ _=>(zj (qpf T) hr (zf kr zd))))))))),?_⟩
  walk_at "in"
  refine qau (qbh hs) ?_
  rw[qas]
  walk_at ""
  refine ifD (fun c=>?_) (fun c=>?_)
  ·rw[Xm (show 1<=l.length by omega),Bool.true_and] at q
   walk_at ""
   refine ifD (fun c2=>?_) (fun c2=>?_)
   ·rw[Xm (show l.length<=96 by omega),Bool.true_and] at q
    walk_at ""
    refine qd0 hs (fun i=>((l.take i).map fun w=>Vbemai.inside w 0 1000).map V.bl) rfl ?_ ?_
    ·intro D i H1 v hv p
     obtain⟨z,hz,rfl⟩:=qj9 hv
     have hi:=(Ji.mp hz).1
     walk_at ""
     refine⟨rfl,?_⟩
     walk_at ""
     refine qag ?_
     walk_at ""
     refine⟨_,(0,1000),z,rfl,T.q21,?_⟩
     refine p.yes (qar (by omega)) (Qz.refl _) ?_
     show List.map V.bl (List.map _ (l.take (i+1)))=_
     rw[Xq,hz]
     simp only[Jv,Option.toList,Jq,Zv]
    ·intro D H1 hD s1 hD1
     rw[qas,Xh] at hD1
     walk_at ""
     refine⟨D,_,rfl,SqL.of hD1,?_⟩
     have e9:(l.map fun w=>Vbemai.inside w 0 1000).all id=l.all fun w=>Vbemai.inside w 0 1000:=by rw[List.all_map];rfl
     rw[e9]
     exact q H1 s1
   ·rw[J7 (show ¬ l.length<=96 by omega),Uu] at q
    walk_at ""
    exact q H (Qz.refl H)
  ·rw[J7 (show ¬ 1<=l.length by omega),Uu] at q
   walk_at ""
   exact q H (Qz.refl H)
theorem gK_at:∀ {ks:List Str} {vs:List Int} {i:Nat} {k:Key} {v:V},(gK ks vs)[i]?=some (k,v)->∃ x z,ks[i]?=some x/\vs[i]?=some z/\k=Sum.inr x/\v = .int z
 |[],_,_,_,_,h=>by simp[gK] at h
 |_::_,[],_,_,_,h=>by simp[gK] at h
 | k::ks,z::vs,0,_,_,h=>by
   simp[gK] at h
   exact⟨k,z,rfl,rfl,h.1.symm,h.2.symm⟩
 | k::ks,z::vs,i+1,_,_,h=>by
   simp[gK] at h
   obtain⟨x,z',h1,h2,h3,h4⟩:=gK_at h
   exact⟨x,z',by simpa using h1,by simpa using h2,h3,h4⟩
theorem LL.at{R:Str->Int×Int->Prop}{ks:List Str}{ls:List (Int×Int)}(h:LL R ks ls): ks.length=ls.length/\∀ (i:Nat) (k:Str),ks[i]?=some k->∃ l,ls[i]?=some l/\R k l:=by
 induction h with
 |nil=>exact⟨rfl,fun i k h=>by simp at h⟩
 | cons hr _ ih=>
   refine⟨by simp[ih.1],fun i k hk=>?_⟩
   cases i with
   |zero=>simp at hk;subst hk;exact⟨_,rfl,hr⟩
   |succ i=>exact ih.2 i k (by simpa using hk)
def wl(ls:List (Int×Int))(as:List Int)(i:Nat): List Bool:=(List.zipWith (fun (l:Int×Int) z=>Vbemai.inside z l.1 l.2) ls as).take i
theorem qvw:∀ (ls:List (Int×Int)) (as:List Int),(List.zipWith (fun (l:Int×Int) z=>Vbemai.inside z l.1 l.2) ls as).all id=zm ls as
 |[],_=>by simp[zm]
 |_::_,[]=>by simp[zm]
 | l::ls,z::as=>by
   rw[W3,Qc,qvw ls as];rfl
theorem zab{ks:List Str}{as:List Int}{x:Str}(h:x∉ks)(hl:as.length=ks.length): kj (gK ks as) (Sum.inr x)=none:=by
 cases e:kj (gK ks as) (Sum.inr x) with
 |none=>rfl
 | some v=>
   have:=zaa e
   rw[qiw ks as hl.symm] at this
   obtain⟨y,hy,hxy⟩:=Jk.mp this
   cases hxy
   exact absurd hy h
theorem q0e(T:Txt P w K mg A):
  Fn P w K mg base 3 "all_within" ["given"] (q7h P w K A):=by
 refine T.qx1.go qjs (fun _ _ _ _ h=>?_) (fun _ _ _ _ _ H _ Q _ hr h=>?_)
 ·obtain⟨g,rfl,_⟩:=h;rfl
 ·obtain⟨g,rfl,h⟩:=h
  have hu:=yb hr
  refine⟨_,(zb (vf (qgk (qje hu kr za)) (zj (q0i T) hr (zo (k6 hu za kr)))) (ko (qdw (qow rfl) rfl T.b_all QP.boot_all (zo (qmp (qdg rfl qjs.nd (own:=[("name",1),("number",2)]) (q48 za) (by walk_at "bk") (fun _ _ _ _ _=>(qex (K':=K) (n:=2) rfl rfl (qbi (vt 1 qjs.nd) (qbi (vt 2 qjs.nd) qey)))) (fun _ _ _ _ _=>qei) (fun _ _ _ _ _=>(zj (qpf T) hr (zf zd ze))))))))),?_⟩
  rcases h with ⟨l,row,hg,hl,hlen,q⟩|⟨ks,ls,as,hg,hL,hal,hnw,hkl,q⟩
  ·walk_at "in"
   refine qgm hg ?_
   walk_at ""
   refine qag ?_
   walk_at ""
   refine ku hg (v:=.ref l) rfl ?_
   walk_at ""
   exact⟨l,row,rfl,SqL.of hl,hlen,q⟩
  ·walk_at "in"
   refine qgm hg ?_
   rw[zab hnw hal]
   walk_at ""
   refine qam ?_
   walk_at ""
   refine⟨g,_,hg,True.intro,fun od=>?_⟩
   have e0:upd H g (.frz od (.dK (gK ks as))) g=some (.frz od (.dK (gK ks as))):=zc
   walk_at ""
   have hgl:(gK ks as).length=ks.length:=by have:=Ym List.length (qiw ks as hal.symm);rw[Jd,Jd] at this;exact this
   refine qe4 ks.length (fun i=>(wl ls as i).map V.bl) (by simp[wl]) (fun i H' hi s2=>⟨s2 _ _ e0,by rw[hgl];exact hi⟩) (fun H' s2=>⟨s2 _ _ e0,by rw[hgl];exact Jp _⟩) ?_ ?_
   ·rintro D i H1 v H' hi p ⟨t,kk,vv,h1,rfl,ht,rfl⟩
    obtain⟨x,z,hx,hz,rfl,rfl⟩:=gK_at h1
    obtain⟨lm,hlm,hLim⟩:=hL.at.2 i x hx
    have s2:=Qz.new (o:=.tup [kV (Sum.inr x),.int z]) ht
    walk_at ""
    refine qe3 (xs:=[.str x,.int z]) (SqT.of zc) rfl ?_
    walk_at ""
    refine⟨rfl,?_⟩
    walk_at ""
    refine qag ?_
    walk_at ""
    refine⟨x,lm,z,rfl,hLim,?_⟩
    refine p.yes (qar (by omega)) s2 ?_
    show List.map V.bl (wl ls as (i+1))=_
    unfold wl
    have e5:(List.zipWith (fun (l:Int×Int) z=>Vbemai.inside z l.1 l.2) ls as)[i]?=some (Vbemai.inside z lm.1 lm.2):=by
     rw[List.getElem?_zipWith,hlm,hz]
    rw[Xq,e5]
    simp
   ·intro D H' hD s2 hD2
    obtain⟨s3,hD3,hD4,hd⟩:=ql8 hg s2 hD hD2
    refine⟨hd,?_⟩
    walk_at ""
    refine⟨D,_,rfl,SqL.of hD4,?_⟩
    have e6:wl ls as ks.length=List.zipWith (fun (l:Int×Int) z=>Vbemai.inside z l.1 l.2) ls as:=by
     unfold wl
     rw[Wz]
     rw[Qv,<- hL.at.1];omega
    rw[e6,qvw]
    exact q _ s3
theorem q07(T:Txt P w K mg A): Fn P w K mg base 1 "is_backwards" ["given"] qun:=by
 refine T.qy0.go q6r (fun _ _ _ _ h=>?_) (fun _ _ _ _ _ H _ Q _ hr h=>?_)
 ·obtain⟨g,kvs,rfl,_⟩:=h;rfl
 ·obtain⟨g,kvs,rfl,hg,h⟩:=h
  have hu:=yb hr
  refine⟨_,(ko (qmo (pe_cmp (qje hu kr za)) (qmq (qft qeh (k6 hu za kr) (k6 hu za kr))))),?_⟩
  walk_at "in"
  refine qgm hg ?_
  rcases h with ⟨hn,q⟩|⟨a,b,hb,ha,q⟩
  ·rw[hn]
   walk_at ""
   refine qam ?_
   exact q
  ·rw[hb]
   walk_at ""
   refine qag ?_
   walk_at ""
   refine ku hg hb ?_
   walk_at ""
   refine ku hg ha ?_
   walk_at ""
   exact q
theorem BAt.qeg{H:Hp}{s:Sta}{b:Vh}(B:BAt A H s b){i:Nat}{x:Met}(h:s.meters[i]?=some x): ∃ m,b.ms[i]?=some m:=by
 have hi:=(Ji.mp h).1
 have hi2:i<b.ms.length:=by rw[B.lm];exact hi
 exact⟨_,Jo hi2⟩
section
variable {s:Sta} {i:Nat} {x:Met}
theorem q84(h:s.meters[i]?=some x)(t:Nat): Vbemai.step s (.standing (i+1) t)=(s,0::match QM.qbu s (i+1) t with|none=>[0]|some p=>[(p.1:Int),p.2]):=by
 unfold Vbemai.step
 simp only[Vbemai.does,QM.meter?_at h,QM.at_eq]
 show (s,0::_)=_
 unfold QM.qbu
 cases (QM.atT t (Vbemai.readingsOf s (i+1))).getLast? with
 |none=>rfl
 | some r=>
   show (s,0::if r.value<0 then [0] else [Vbemai.nat r.version,r.value])=(s,0::match (if r.value<0 then none else some (r.version,r.value)) with|none=>[0]|some p=>[(p.1:Int),p.2])
   by_cases hv:r.value<0
   ·rw[Je hv,Je hv]
   ·rw[Jc hv,Jc hv];rfl
theorem q8s(h:s.meters[i]?=some x)(t:Nat): Vbemai.step s (.history (i+1) t)=(s,0::((QM.atT t (Vbemai.readingsOf s (i+1))).length:Int)::((QM.atT t (Vbemai.readingsOf s (i+1))).map fun r=>[(r.version:Int),r.value]).flatten):=by
 unfold Vbemai.step
 simp only[Vbemai.does,QM.meter?_at h,QM.at_eq]
 show (s,0::Vbemai.rows _)=_
 unfold Vbemai.rows
 rw[Jd];rfl
theorem q9a(h:s.meters[i]?=some x)(q:Nat): Vbemai.step s (.value (i+1) q)=(s,[0,(Vbemai.status s (i+1) q:Int),Vbemai.between s (i+1) q (q+1)]):=by
 unfold Vbemai.step
 simp only[Vbemai.does,QM.meter?_at h];rfl
theorem q8o(h:s.meters[i]?=some x){a b:Nat}(hab:a<=b): Vbemai.step s (.between (i+1) a b)=(s,[0,Vbemai.between s (i+1) a b]):=by
 unfold Vbemai.step
 simp only[Vbemai.does,QM.meter?_at h]
 rw[Jc (by simp),Jc (by omega)]
theorem q87(h:s.meters[i]?=some x)(t:Nat): Vbemai.step s (.through (i+1) t)=(s,[0,Vbemai.by_ s (i+1) t]):=by
 unfold Vbemai.step
 simp only[Vbemai.does,QM.meter?_at h];rfl
theorem q8r(h:s.meters[i]?=some x)(q:Nat): Vbemai.step s (.hand (i+1) q)=(s,[0,(Vbemai.hand s (i+1) q:Int)]):=by
 unfold Vbemai.step
 simp only[Vbemai.does,QM.meter?_at h];rfl
theorem q88{h z a b:Nat}(hab:a<=b): Vbemai.step s (.total h z a b)=(s,[0,Vbemai.handIn s h z a b,Vbemai.handOut s h z a b]):=by
 unfold Vbemai.step
 simp only[Vbemai.does]
 rw[Jc (by omega)]
theorem q83{z a b:Nat}(hab:a<=b): Vbemai.step s (.rest z a b)=(s,[0,Vbemai.rest s z a b]):=by
 unfold Vbemai.step
 simp only[Vbemai.does]
 rw[Jc (by omega)]
theorem q8v{a b:Nat}(hab:a<=b): Vbemai.step s (.nets a b)=(s,0::Vbemai.told (Vbemai.netsOf s a b)):=by
 unfold Vbemai.step
 simp only[Vbemai.does]
 rw[Jc (by omega)]
theorem q8q(h:s.meters[i]?=some x): Vbemai.step s (.gaps (i+1))=(s,0::((Vbemai.gaps (Vbemai.knotsOf s (i+1))).length:Int)::((Vbemai.gaps (Vbemai.knotsOf s (i+1))).map fun g=>[(g.1:Int),(g.2.1:Int),g.2.2]).flatten):=by
 unfold Vbemai.step
 simp only[Vbemai.does,QM.meter?_at h]
 show (s,0::Vbemai.rows _)=_
 unfold Vbemai.rows
 rw[Jd];rfl
theorem q8p(h:s.meters[i]?=some x)(r:Int): Vbemai.step s (.doubt (i+1) r)=(s,0::(((Vbemai.gaps (Vbemai.knotsOf s (i+1))).filter fun g=>decide (r*(g.2.1-g.1:Nat)<g.2.2)).length:Int)::(((Vbemai.gaps (Vbemai.knotsOf s (i+1))).filter fun g=>decide (r*(g.2.1-g.1:Nat)<g.2.2)).map fun g=>[(g.1:Int),(g.2.1:Int)]).flatten):=by
 unfold Vbemai.step
 simp only[Vbemai.does,QM.meter?_at h]
 show (s,0::Vbemai.rows _)=_
 unfold Vbemai.rows
 rw[Jd];rfl
theorem flat1:∀ l:List Nat,(l.map fun m=>[Vbemai.nat m]).flatten=wts l
 |[]=>rfl
 | a::l=>by
   show Vbemai.nat a::(l.map fun m=>[Vbemai.nat m]).flatten=(a:Int)::wts l
   rw[flat1 l];rfl
theorem q89(t:Nat): Vbemai.step s (.unread t)=(s,0::((Vbemai.unread s t).length:Int)::wts (Vbemai.unread s t)):=by
 unfold Vbemai.step
 simp only[Vbemai.does]
 unfold Vbemai.rows
 rw[Jd,flat1];rfl
theorem q8z(a b:Nat): Vbemai.step s (.published a b)=(s,match Vbemai.lastNets s a b with|none=>[0,0]|some l=>0::1::Vbemai.told l):=by
 unfold Vbemai.step
 simp only[Vbemai.does]
 cases Vbemai.lastNets s a b<;>rfl
theorem q85:Vbemai.step s .state=(s,[0,(s.profiles.length:Int),(s.meters.length:Int),(s.readings.length:Int),(s.assigns.length:Int),(s.locked:Int),(s.periods.length:Int)]):=rfl
end
def q7k(A:Ads): Sp:=fun vs H Q _=>∃ (s:Sta) (b:Vh) (g:Addr) (i:Nat) (x:Met),vs=[.ref b.a,.ref g]/\BAt A H s b/\GL H g "meter" (.int ((i+1:Nat):Int))/\s.meters[i]?=some x/\∀ H' c,Qz H H'->Qc8 A H H' s b i x c->Q (.ref c) H'
theorem qri(a b:Nat): ∀ (ps:List Vbemai.Period) (qs:List Addr),qs.length=ps.length->(∃ (i:Nat) (p:Vbemai.Period) (ad:Addr),ps[i]?=some p/\qs[i]?=some ad/\(ps.find? fun p=>p.from_==a&&p.to_==b)=some p/\kj (qai ps qs) [Sum.inl (a:Int),Sum.inl (b:Int)]=some (.ref ad)) \/
  ((ps.find? fun p=>p.from_==a&&p.to_==b)=none/\kj (qai ps qs) [Sum.inl (a:Int),Sum.inl (b:Int)]=none)
 |[],[],_=>.inr ⟨rfl,rfl⟩
 |[],_::_,h=>by cases h
 |_::_,[],h=>by cases h
 | p::ps,ad::qs,h=>by
   have e:qai (p::ps) (ad::qs)=([Sum.inl (p.from_:Int),Sum.inl (p.to_:Int)],V.ref ad)::qai ps qs:=rfl
   rw[e]
   by_cases hp:p.from_=a/\p.to_=b
   ·left
    refine⟨0,p,ad,rfl,rfl,?_,?_⟩
    ·rw[Yg,hp.1,hp.2];simp
    ·exact qfs (by rw[hp.1,hp.2])
   ·have h1:(p.from_==a&&p.to_==b)=false:=by
     rw[Wb]
     intro q
     rw[Jw,Yq,Yq] at q
     exact hp q
    have h2:¬ ([Sum.inl (p.from_:Int),Sum.inl (p.to_:Int)]:List Key)=[Sum.inl (a:Int),Sum.inl (b:Int)]:=fun q=>by
     have q1:(p.from_:Int)=a:=Wx (Ze q).1
     have q2:(p.to_:Int)=b:=Wx (Ze (Ze q).2).1
     exact hp ⟨by omega,by omega⟩
    rw[Yg,h1,qfr h2]
    rcases qri a b ps qs (by simpa using h) with ⟨i,p',ad',g1,g2,g3,g4⟩|⟨g1,g2⟩
    ·exact .inl ⟨i+1,p',ad',by simpa using g1,by simpa using g2,g3,g4⟩
    ·exact .inr ⟨g1,g2⟩
theorem qhd(T:Txt P w K mg A):
  Fn P w K mg base 5 "asked_course" ["book","given"] (q7k A):=by
 refine T.qyk.go q6j (fun _ _ _ _ h=>?_) (fun _ _ _ _ _ H _ Q _ hr h=>?_)
 ·obtain⟨st,b,g,i,x,rfl,_⟩:=h;rfl
 ·obtain⟨st,b,g,i,x,rfl,B,hg,hx,q⟩:=h
  obtain⟨m,hm⟩:=B.qeg hx
  refine⟨_,(ko (zj (qiu T) hr (zf za (zj (qd9 T) hr (zf za zd))))),?_⟩
  walk_at "in"
  refine⟨st,b,g,i,x,m,rfl,B,hg,hx,hm,?_⟩
  walk_at ""
  exact⟨st,b,i,x,m,rfl,B,hx,hm,q⟩
theorem q0r(T:Txt P w K mg A):
  Fn P w K mg base 2 "ask_standing" ["book","given"] (qa4 A gq9):=by
 refine T.qye.go qua (fun _ _ _ _ h=>?_) (fun _ _ _ _ _ H _ Q _ hr h=>?_)
 ·obtain⟨st,b,g,c,rfl,_⟩:=h;rfl
 ·obtain⟨st,b,g,c,rfl,B,hga,⟨i,t,x,rfl,hg,hx⟩,q⟩:=h
  obtain⟨m,hm⟩:=B.qeg hx
  have hu:=yb hr
  rw[q84 hx] at q
  refine⟨_,(zb (k7 2 qua.nd (zj (qlr T) hr (zf (zj (qd9 T) hr (zf za zd)) (k6 hu zd kr)))) (zb (vf (vc qjc ze qdh) (vo (zf (zq T.ya) ki))) (ko (vo (vg (zq T.ya) (zf (qc7 K ze ki) (qc7 K ze ki))))))),?_⟩
  walk_at "in"
  refine⟨st,b,g,i,x,m,rfl,B,⟨_,hg,rfl⟩,hx,hm,?_⟩
  walk_at ""
  refine ku hg (v:=.int (t:Int)) rfl ?_
  walk_at ""
  refine⟨st,i+1,x,m,t,rfl,(B.met hx hm).r,fun H1 s1=>⟨fun hn=>?_,fun p a hp ha ha1=>?_⟩⟩
  ·rw[hn] at q
   walk_at ""
   refine⟨rfl,?_⟩
   walk_at ""
   refine qag ?_
   walk_at ""
   intro l hl
   exact q _ b l (Vj.of_same B (s1.trans (Qz.new hl))) (s1.free hl) zc
  ·rw[hp] at q
   walk_at ""
   refine⟨rfl,?_⟩
   walk_at ""
   refine qam ?_
   walk_at ""
   refine qc5 (SqT.of ha1) (ye (j:=0) rfl) ?_
   walk_at ""
   refine qc5 (SqT.of ha1) (ye (j:=1) rfl) ?_
   walk_at ""
   intro l hl
   exact q _ b l (Vj.of_same B (s1.trans (Qz.new hl))) (s1.free hl) zc
theorem q0w(T:Txt P w K mg A):
  Fn P w K mg base 6 "ask_value" ["book","given"] (qa4 A gq11):=by
 refine T.qyj.go qm6 (fun _ _ _ _ h=>?_) (fun _ _ _ _ _ H _ Q _ hr h=>?_)
 ·obtain⟨st,b,g,c,rfl,_⟩:=h;rfl
 ·obtain⟨st,b,g,c,rfl,B,hga,⟨i,t,x,rfl,hg,ht,hx⟩,q⟩:=h
  have hu:=yb hr
  rw[q9a hx] at q
  refine⟨_,(zb (k7 2 qm6.nd (k6 hu zd kr)) (zb (k7 3 qm6.nd (zj (qhd T) hr (zf za zd))) (ko (vo (vg (zq T.ya) (zf (zj (q04 T) hr (zf k9 ze)) (zj (qhf T) hr (vg k9 (zf ze (vm qbs ze ki)))))))))),?_⟩
  walk_at "in"
  refine ku hg (v:=.int (t:Int)) rfl ?_
  walk_at ""
  refine⟨st,b,g,i,x,rfl,B,⟨_,hg,rfl⟩,hx,fun H1 c s1 cn=>?_⟩
  have C1:=cn.cat (B.same s1) hx
  walk_at ""
  refine⟨st,i+1,x,c,t,rfl,C1,?_⟩
  walk_at ""
  refine⟨st,i+1,x,c,t,t+1,rfl,C1,by omega,by omega,fun H2 s2=>?_⟩
  walk_at ""
  intro l hl
  have S2:=s1.trans s2
  exact q _ b l (Vj.of_same B (S2.trans (Qz.new hl))) (S2.free hl) zc
theorem q0j(T:Txt P w K mg A):
  Fn P w K mg base 6 "ask_between" ["book","given"] (qa4 A gq12):=by
 refine T.qx6.go q6d (fun _ _ _ _ h=>?_) (fun _ _ _ _ _ H _ Q _ hr h=>?_)
 ·obtain⟨st,b,g,c,rfl,_⟩:=h;rfl
 ·obtain⟨st,b,g,c,rfl,B,hga,⟨i,t,u,x,rfl,hg,htu,hu2,hx⟩,q⟩:=h
  have hu:=yb hr
  rw[q8o hx htu] at q
  refine⟨_,(ko (vo (zf (zq T.ya) (zj (qhf T) hr (vg (zj (qhd T) hr (zf za zd)) (zf (k6 hu zd kr) (k6 hu zd kr))))))),?_⟩
  walk_at "in"
  refine⟨st,b,g,i,x,rfl,B,⟨_,hg,rfl⟩,hx,fun H1 c s1 cn=>?_⟩
  have hg1:=hg.same s1
  walk_at ""
  refine ku hg1 (v:=.int (t:Int)) rfl ?_
  walk_at ""
  refine ku hg1 (v:=.int (u:Int)) rfl ?_
  walk_at ""
  refine⟨st,i+1,x,c,t,u,rfl,cn.cat (B.same s1) hx,by omega,by omega,fun H2 s2=>?_⟩
  walk_at ""
  intro l hl
  have S2:=s1.trans s2
  exact q _ b l (Vj.of_same B (S2.trans (Qz.new hl))) (S2.free hl) zc
theorem q0t(T:Txt P w K mg A):
  Fn P w K mg base 6 "ask_through" ["book","given"] (qa4 A gq13):=by
 refine T.qyg.go q6i (fun _ _ _ _ h=>?_) (fun _ _ _ _ _ H _ Q _ hr h=>?_)
 ·obtain⟨st,b,g,c,rfl,_⟩:=h;rfl
 ·obtain⟨st,b,g,c,rfl,B,hga,⟨i,t,x,rfl,hg,ht,hx⟩,q⟩:=h
  have hu:=yb hr
  rw[q87 hx] at q
  refine⟨_,(ko (vo (zf (zq T.ya) (zj (qls T) hr (zf (zj (qhd T) hr (zf za zd)) (k6 hu zd kr)))))),?_⟩
  walk_at "in"
  refine⟨st,b,g,i,x,rfl,B,⟨_,hg,rfl⟩,hx,fun H1 c s1 cn=>?_⟩
  have hg1:=hg.same s1
  walk_at ""
  refine ku hg1 (v:=.int (t:Int)) rfl ?_
  walk_at ""
  refine⟨st,i+1,x,c,t,rfl,cn.cat (B.same s1) hx,ht,fun H2 s2=>?_⟩
  walk_at ""
  intro l hl
  have S2:=s1.trans s2
  exact q _ b l (Vj.of_same B (S2.trans (Qz.new hl))) (S2.free hl) zc
theorem q0m(T:Txt P w K mg A):
  Fn P w K mg base 3 "ask_hand" ["book","given"] (qa4 A gq14):=by
 refine T.qx9.go q6e (fun _ _ _ _ h=>?_) (fun _ _ _ _ _ H _ Q _ hr h=>?_)
 ·obtain⟨st,b,g,c,rfl,_⟩:=h;rfl
 ·obtain⟨st,b,g,c,rfl,B,hga,⟨i,t,x,rfl,hg,hx⟩,q⟩:=h
  obtain⟨m,hm⟩:=B.qeg hx
  have hu:=yb hr
  rw[q8r hx] at q
  refine⟨_,(ko (vo (zf (zq T.ya) (zj (q02 T) hr (zf (zj (qd9 T) hr (zf za zd)) (k6 hu zd kr)))))),?_⟩
  walk_at "in"
  refine⟨st,b,g,i,x,m,rfl,B,⟨_,hg,rfl⟩,hx,hm,?_⟩
  walk_at ""
  refine ku hg (v:=.int (t:Int)) rfl ?_
  walk_at ""
  refine⟨st,i+1,x,m,t,rfl,B.met hx hm,fun H1 s1=>?_⟩
  walk_at ""
  intro l hl
  exact q _ b l (Vj.of_same B (s1.trans (Qz.new hl))) (s1.free hl) zc
theorem q0q(T:Txt P w K mg A):
  Fn P w K mg base 7 "ask_rest" ["book","given"] (qa4 A gq16):=by
 refine T.qyd.go q6g (fun _ _ _ _ h=>?_) (fun _ _ _ _ _ H _ Q _ hr h=>?_)
 ·obtain⟨st,b,g,c,rfl,_⟩:=h;rfl
 ·obtain⟨st,b,g,c,rfl,B,hga,⟨z,t,u,rfl,hg,htu,hu2⟩,q⟩:=h
  have hu:=yb hr
  rw[q83 htu] at q
  refine⟨_,(ko (vo (zf (zq T.ya) (zj (q1i T) hr (vg za (vg (k6 hu zd kr) (zf (k6 hu zd kr) (k6 hu zd kr)))))))),?_⟩
  walk_at "in"
  refine ku hg (v:=.int (z:Int)) rfl ?_
  walk_at ""
  refine ku hg (v:=.int (t:Int)) rfl ?_
  walk_at ""
  refine ku hg (v:=.int (u:Int)) rfl ?_
  walk_at ""
  refine⟨st,b,z,t,u,rfl,B,by omega,by omega,fun H1 s1=>?_⟩
  walk_at ""
  intro l hl
  exact q _ b l (Vj.of_same B (s1.trans (Qz.new hl))) (s1.free hl) zc
theorem qq3(s:Sta)(a b:Nat): (Vbemai.netsOf s a b).length=33:=QM.qgc s a b
theorem q0o(T:Txt P w K mg A):
  Fn P w K mg base 7 "ask_nets" ["book","given"] (qa4 A gq17):=by
 refine T.qyb.go q6f (fun _ _ _ _ h=>?_) (fun _ _ _ _ _ H _ Q _ hr h=>?_)
 ·obtain⟨st,b,g,c,rfl,_⟩:=h;rfl
 ·obtain⟨st,b,g,c,rfl,B,hga,⟨t,u,rfl,hg,htu,hu2⟩,q⟩:=h
  have hu:=yb hr
  rw[q8v htu] at q
  refine⟨_,(ko (vm qhp (vo (zo (zq T.ya))) (zj (qlo T) hr (zo (zj (qph T) hr (vg za (zf (k6 hu zd kr) (k6 hu zd kr)))))))),?_⟩
  walk_at "in"
  intro z hz
  have s0:=Qz.new (o:=.lst [.int 0]) hz
  have hz0:upd H z (.lst [.int 0]) z=some (.lst [.int 0]):=zc
  generalize upd H z (.lst [.int 0])=H0 at *
  have hg0:=hg.same s0
  walk_at ""
  refine ku hg0 (v:=.int (t:Int)) rfl ?_
  walk_at ""
  refine ku hg0 (v:=.int (u:Int)) rfl ?_
  walk_at ""
  refine⟨st,b,t,u,rfl,B.same s0,htu,hu2,fun H1 l1 s1 hl1 qf3=>?_⟩
  walk_at ""
  refine⟨l1,_,rfl,SqL.of qf3,by rw[qq3];decide,fun H2 l2 s2 hl2 hl2'=>?_⟩
  walk_at ""
  have S2:=(s0.trans s1).trans s2
  have hlen:=QM.qgz (Vbemai.netsOf st t u)
  rw[qq3] at hlen
  refine qhx ((s1.trans s2) _ _ hz0) hl2' (by rw[qas];exact Xj (qar (by simp;omega))) fun l hl=>?_
  exact q _ b l (Vj.of_same B (S2.trans (Qz.new hl))) (S2.free hl) zc
theorem q0v(T:Txt P w K mg A):
  Fn P w K mg base 6 "ask_unread" ["book","given"] (qa4 A gq20):=by
 refine T.qyi.go qub (fun _ _ _ _ h=>?_) (fun _ _ _ _ _ H _ Q _ hr h=>?_)
 ·obtain⟨st,b,g,c,rfl,_⟩:=h;rfl
 ·obtain⟨st,b,g,c,rfl,B,hga,⟨t,rfl,hg⟩,q⟩:=h
  have hu:=yb hr
  rw[q89] at q
  refine⟨_,(zb (k7 2 qub.nd (zj (qpl T) hr (zf za (k6 hu zd kr)))) (ko (vm qhp (vo (zf (zq T.ya) (x_len T.qaw ze))) ze))),?_⟩
  walk_at "in"
  refine ku hg (v:=.int (t:Int)) rfl ?_
  walk_at ""
  refine⟨st,b,t,rfl,B,fun H1 l1 s1 hl1 qf3=>?_⟩
  walk_at ""
  refine qau (qbh (SqL.of qf3)) ?_
  walk_at ""
  intro z hz
  have s2:=Qz.new (o:=.lst [.int 0,.int ((vN (Vbemai.unread st t)).length:Int)]) hz
  have S2:=s1.trans s2
  walk_at ""
  have hlen:(Vbemai.unread st t).length<=32:=by
   unfold Vbemai.unread Vbemai.numbers
   refine Xd (Xp ..) ?_
   rw[Jd,U3]
   exact B.good.ml
  refine qhx zc (s2 _ _ qf3) (by rw[qcc];exact Xj (qar (by simp;omega))) fun l hl=>?_
  refine q _ b l (Vj.of_same B (S2.trans (Qz.new hl))) (S2.free hl) ?_
  rw[zc,qcc]
  show _=some (HO.lst (V.int 0::V.int _::vI (wts _)))
  rw[qid];rfl
theorem q0s(T:Txt P w K mg A): Fn P w K mg base 1 "ask_state" ["book","given"] (qa4 A gq22):=by
 refine T.qyf.go q6h (fun _ _ _ _ h=>?_) (fun _ _ _ _ _ H _ Q _ hr h=>?_)
 ·obtain⟨st,b,g,c,rfl,_⟩:=h;rfl
 ·obtain⟨st,b,g,c,rfl,B,hga,⟨rfl,hg⟩,q⟩:=h
  rw[q85] at q
  refine⟨_,(ko (vo (vg (zq T.ya) (vg (vm qca (x_len T.qaw (zk K za)) ki) (vg (x_len T.qaw (zk K za)) (vg (zk K za) (vg (zk K za) (zf (zk K za) (x_len T.qaw (zk K za)))))))))),?_⟩
  walk_at "in"
  refine qau (qbh (SqL.of B.oP)) ?_
  walk_at ""
  refine qau (qbh (SqL.of B.oM)) ?_
  walk_at ""
  refine qau (lenTT B.oQ) ?_
  walk_at ""
  intro l hl
  refine q _ b l (Vj.of_same B (Qz.new hl)) hl ?_
  rw[zc,Jd,B.lp,Jd,B.lm]
  have e1:(qai st.periods b.qs).length=st.periods.length:=by
   unfold qai;rw[Qv,B.lq];omega
  have e2:((st.profiles.length+1:Nat):Int)-1=(st.profiles.length:Int):=by omega
  rw[e1,e2];rfl
theorem qln{α:Type}(f:α->List Int){l:List α}{i:Nat}{y:α}(h:l[i]?=some y): ((l.take (i+1)).map f).flatten=((l.take i).map f).flatten++f y:=by
 rw[Xq,h];simp
theorem qfd{α:Type}(f:α->List Int)(c:Nat)(hf:∀ y,(f y).length=c): ∀ l:List α,(l.map f).flatten.length=c*l.length
 |[]=>by simp
 |a::l=>by rw[Jq,Zk,Jx,hf,qfd f c hf l,Jz,Nat.mul_succ];omega
theorem q0n(T:Txt P w K mg A):
  Fn P w K mg base 2 "ask_history" ["book","given"] (qa4 A gq10):=by
 refine T.qya.go qjt (fun _ _ _ _ h=>?_) (fun _ _ _ _ _ H _ Q _ hr h=>?_)
 ·obtain⟨st,b,g,c,rfl,_⟩:=h;rfl
 ·obtain⟨st,b,g,c,rfl,B,hga,⟨i,t,x,rfl,hg,hx⟩,q⟩:=h
  obtain⟨m,hm⟩:=B.qeg hx
  have M:=B.met hx hm
  have hu:=yb hr
  rw[q8s hx] at q
  have hsrt:=QM.qkn (QM.qgo M.good (i+1)) t
  have hR:=M.rel.rd.rel t
  have hk:=QM.qvn M.rel.rd (QM.qgo M.good (i+1)) t
  have hl256:(QM.atT t (Vbemai.readingsOf st (i+1))).length<=256:=by
   have h3:(QM.atT t (Vbemai.readingsOf st (i+1))).length<=(Vbemai.readingsOf st (i+1)).length:=Xp ..
   have h4:(Vbemai.readingsOf st (i+1)).length<=st.readings.length:=Xp ..
   have:=M.good.rl
   omega
  refine⟨_,(zb (k7 2 qjt.nd (qjf hu (zk K (zj (qd9 T) hr (zf za zd))) (k6 hu zd kr) qge ⟨rfl,rfl,rfl,rfl⟩)) (zb (k7 3 qjt.nd (vo (zf (zq T.ya) (x_len T.qaw ze)))) (zb (qdi Ys rfl (qbj (qdw (qox rfl) rfl T.qko QP.boot_sorted (zo ze))) (vt 4 qjt.nd) (zb (qbn (qbx Xe Xv Xw qc3 k9 (zo qaj))) (qaz (qbn (qbx Xe Xv Xw qc3 k9 (zo (k6 hu ze qaj))))))) (ko k9)))),?_⟩
  walk_at "in"
  refine⟨st,b,g,i,x,m,rfl,B,⟨_,hg,rfl⟩,hx,hm,?_⟩
  walk_at ""
  refine ku hg (v:=.int (t:Int)) rfl ?_
  walk_at ""
  refine qf4 fun p hp=>?_
  have s1:=Qz.new (o:=.dK []) hp
  have M1:=M.same s1
  refine r_d2I M1.oR ?_
  have dv:∃ (d:Addr) (vs:List (Nat×Int)),(kj (rdK m.rd) (Sum.inl (t:Int))).getD (.ref p) = .ref d/\upd H p (.dK []) d=some (.dK (vsK vs))/\QM.qao (m.rd.map fun e=>(e.t,e.vs)) t=vs:=by
   rcases qgn t m.rd with ⟨e,he,rfl,hv,hl⟩|⟨hv,hl,hn⟩
   ·exact⟨e.a,e.vs,by rw[hv];rfl,M1.qgd he,by unfold QM.qao;rw[hl];rfl⟩
   ·exact⟨p,[],by rw[hv];rfl,zc,by unfold QM.qao;rw[hl];rfl⟩
  obtain⟨d,vs,e1,hd,e2⟩:=dv
  rw[e1]
  rw[e2] at hR hk
  generalize upd H p (.dK [])=H1 at *
  have hlv:(vsK vs).length=(QM.atT t (Vbemai.readingsOf st (i+1))).length:=by
   have:=hR.length_eq
   rw[Jd] at this
   unfold vsK;rw[Jd];exact this
  walk_at ""
  refine qau (lenK hd) ?_
  rw[hlv]
  generalize hLt:QM.atT t (Vbemai.readingsOf st (i+1))=L at *
  walk_at ""
  intro ans qcz
  have s2:=Qz.new (o:=.lst [.int 0,.int (L.length:Int)]) qcz
  have S2:=s1.trans s2
  have qeu:=s1.free qcz
  have ha2:upd H1 ans (.lst [.int 0,.int (L.length:Int)]) ans=some (.lst (vI (0::(L.length:Int)::((L.take 0).map fun r=>[(r.version:Int),r.value]).flatten))):=zc
  have hd2:=s2 _ _ hd
  generalize upd H1 ans (.lst [.int 0,.int (L.length:Int)])=H2 at *
  walk_at ""
  refine⟨d,_,wts (vs.map (·.1)),rfl,hd2,qvp _,fun ns' p3 H3 h1 h2 h3 eH3=>?_⟩
  obtain⟨l',rfl,hp'⟩:=qms h1
  have hPk:(vs.map (·.1)).Perm (L.map (·.version)):=by
   have:=hR.map (·.1)
   rw[Xy] at this
   exact this
  have e:=qni (qn3 h2) (hp'.trans hPk) hsrt
  subst e
  have s3:Qz H2 H3:=by rw[eH3];exact Qz.new h3
  have hp3:H3 p3=some (.lst (vN (L.map (·.version)))):=by rw[eH3,zc];exact Ym (fun z=>some (HO.lst z)) (qid _)
  have hp3a:p3≠ans:=(k8 ha2 h3).symm
  have hda:d≠ans:=qah hd2 ha2 (by intro z;cases z)
  clear eH3 h1 h2
  have ha3:=s3 _ _ ha2
  have hd3:=s3 _ _ hd2
  walk_at ""
  refine qel (vN (L.map (·.version))) (fun j σ H'=>Qz H H'/\H' p3=some (.lst (vN (L.map (·.version))))/\H' d=some (.dK (vsK vs))/\H' ans=some (.lst (vI (0::(L.length:Int)::((L.take j).map fun r=>[(r.version:Int),r.value]).flatten)))/\∃ v,σ=[some (.ref b.a),some (.ref g),some (.ref d),some (.ref ans),v])
   ⟨S2.trans s3,hp3,hd3,ha3,_,rfl⟩ (fun j σ H' ⟨_,g2,_⟩=>SqL.of g2) ?_ ?_
  ·rintro σ H' ⟨g1,g2,g3,g4,v,rfl⟩
   rw[qcc,Jd,Xh] at g4
   walk_at ""
   exact q H' b ans (Vj.of_same B g1) qeu g4
  ·rintro j σ H' v hv ⟨g1,g2,g3,g4,v0,rfl⟩
   obtain⟨z,hz,rfl⟩:=qif hv
   rw[Jt] at hz
   cases hr1:L[j]? with
   |none=>rw[hr1] at hz;cases hz
   | some r=>
     rw[hr1] at hz
     obtain rfl:r.version=z:=Jj hz
     have hj:=(Ji.mp hr1).1
     have hlk:kj (vsK vs) (Sum.inl (r.version:Int))=some (.int r.value):=by
      rw[qnx]
      have:vs.lookup r.version=some r.value:=(QM.lookup_mem hk).mpr (hR.mem_iff.mpr (Jk.mpr ⟨r,J0 hr1,rfl⟩))
      rw[this];rfl
     have hfl:=qfd (fun r:Vbemai.Reading=>[(r.version:Int),r.value]) 2 (fun _=>rfl) (L.take j)
     have htl:(L.take j).length<=L.length:=by rw[Zs];omega
     walk_at ""
     refine qco g4 (qar (by rw[qas];simp only[Jz];omega)) ?_
     walk_at ""
     refine qhy (by rw[qc hda];exact g3) hlk ?_
     walk_at ""
     refine qco zc (qar (by rw[Jx,qas];simp only[Jz,Y3];omega)) ?_
     walk_at ""
     rw[qbc]
     refine⟨Qz.upd g1 qeu,by rw[qc hp3a];exact g2,by rw[qc hda];exact g3,?_,_,rfl⟩
     rw[zc,qln _ hr1]
     simp[vI]
theorem q0u(T:Txt P w K mg A):
  Fn P w K mg base 8 "ask_total" ["book","given"] (qa4 A gq15):=by
 refine T.qyh.go qm5 (fun _ _ _ _ h=>?_) (fun _ _ _ _ _ H _ Q _ hr h=>?_)
 ·obtain⟨st,b,g,c,rfl,_⟩:=h;rfl
 ·obtain⟨st,b,g,c,rfl,B,hga,⟨hh,z,t,u,rfl,hg,htu,hu2⟩,q⟩:=h
  have hu:=yb hr
  rw[q88 htu] at q
  refine⟨_,(zb (qgi (i:=2) rfl qm5.nd rfl rfl (by exact qgx rfl rfl rfl rfl) (own:=[("kind",3)]) (pi_tup (qgf (zf (zq T.qkt) (zq T.qoo)))) (by walk_at "bk") (fun _ _ _ _ _=>(vt 3 qm5.nd)) (fun _ _ _ _ _=>qei) (fun _ _ _ _ _=>(zj (q1r T) hr (vg za (vg k9 (vg (k6 hu zd kr) (vg (k6 hu zd kr) (zf (k6 hu zd kr) (k6 hu zd kr))))))))) (ko (vm qhp (vo (zo (zq T.ya))) ze))),?_⟩
  walk_at "in"
  intro tp htp
  have s1:=Qz.new (o:=.tup [.int 1,.int 0]) htp
  have ht1:upd H tp (.tup [.int 1,.int 0]) tp=some (.tup [.int 1,.int 0]):=zc
  generalize upd H tp (.tup [.int 1,.int 0])=H1 at *
  walk_at ""
  refine qe4 2 (fun i=>vI ([Vbemai.handIn st hh z t u,Vbemai.handOut st hh z t u].take i)) rfl (fun i H' hi s2=>?_) (fun H' s2=>⟨_,SqT.of (s2 _ _ ht1),by decide⟩) ?_ ?_
  ·match i,hi with
   | 0,_=>exact⟨_,_,SqT.of (s2 _ _ ht1),rfl⟩
   | 1,_=>exact⟨_,_,SqT.of (s2 _ _ ht1),rfl⟩
  ·rintro D i H2 v H2' hi p ⟨rfl,hy⟩
   have hy:=hy _ (SqT.of (p.same _ _ ht1))
   have S:=s1.trans p.same
   have hg2:=hg.same S
   have key:∀ (kd:Nat) (val:Int),v = .int (kd:Int)->Vbemai.sumOf (Vbemai.those st fun x=>x.kind==kd&&x.zone==z) (fun m=>Vbemai.held st m hh t u)=val->[Vbemai.handIn st hh z t u,Vbemai.handOut st hh z t u][i]?=some val ->
     qb4 3 v (wipe [some (.ref b.a),some (.ref g),none,none] [3]) H2' fun σ2 H2=>wipe σ2 [3]=wipe [some (.ref b.a),some (.ref g),none,none] [3]/\tYes σ2 H2 fun b0 H3=>if b0=true then tFn (qus A) (vp (vd 0) (vp (vd 3) (vp (qd2 (vd 1) (tC (.str "zone"))) (vp (qd2 (vd 1) (tC (.str "hand"))) (vp (qd2 (vd 1) (tC (.str "from"))) (vp (qd2 (vd 1) (tC (.str "to"))) qan)))))) σ2 H3 fun y H4=>Qii H1 D (fun i=>vI ([Vbemai.handIn st hh z t u,Vbemai.handOut st hh z t u].take i)) i H4 y else LcP H1 D (fun i=>vI ([Vbemai.handIn st hh z t u,Vbemai.handOut st hh z t u].take i)) (i+1) H3:=by
    intro kd val hv hval hget
    subst hv
    walk_at ""
    refine⟨rfl,?_⟩
    walk_at ""
    refine qag ?_
    walk_at ""
    refine ku hg2 (v:=.int (z:Int)) rfl ?_
    walk_at ""
    refine ku hg2 (v:=.int (hh:Int)) rfl ?_
    walk_at ""
    refine ku hg2 (v:=.int (t:Int)) rfl ?_
    walk_at ""
    refine ku hg2 (v:=.int (u:Int)) rfl ?_
    walk_at ""
    refine⟨st,b,kd,z,hh,t,u,rfl,B.same S,htu,hu2,fun H4 s4=>?_⟩
    rw[hval]
    refine p.yes (qar (by omega)) s4 ?_
    show vI (List.take (i+1) _)=_
    rw[Xq,hget];simp[vI]
   match i,hi with
   | 0,_=>exact key 1 _ (Jj hy).symm rfl rfl
   | 1,_=>exact key 0 _ (Jj hy).symm rfl rfl
  ·intro D H2 hD s2 hD2
   walk_at ""
   intro z1 hz1
   have s3:=Qz.new (o:=.lst [.int 0]) hz1
   have S3:=(s1.trans s2).trans s3
   walk_at ""
   refine qhx zc (s3 _ _ hD2) (Xj (qar (by simp[vI]))) fun l hl=>?_
   exact q _ b l (Vj.of_same B (S3.trans (Qz.new hl))) (S3.free hl) zc
theorem q0l(T:Txt P w K mg A):
  Fn P w K mg base 6 "ask_gaps" ["book","given"] (qa4 A gq18):=by
 refine T.qx8.go qgq (fun _ _ _ _ h=>?_) (fun _ _ _ _ _ H _ Q _ hr h=>?_)
 ·obtain⟨st,b,g,c,rfl,_⟩:=h;rfl
 ·obtain⟨st,b,g,c,rfl,B,hga,⟨i,x,rfl,hg,hx⟩,q⟩:=h
  rw[q8q hx] at q
  have hglen:=QM.qiy B.good (QM.meter?_at hx)
  refine⟨_,(zb (k7 2 qgq.nd (zj (qpe T) hr (zo (zj (qhd T) hr (zf za zd))))) (zb (k7 3 qgq.nd (vo (zf (zq T.ya) (x_len T.qaw ze)))) (zb (qdi Ys rfl (qbj ze) (qex (K':=K) (n:=3) rfl rfl (qbi (vt 4 qgq.nd) (qbi (vt 5 qgq.nd) (qbi (vt 6 qgq.nd) qey)))) (qaz (qbn (qbx Xe Wl Wm qi8 k9 (zo (vo (vg qaj (zf qbo qcb)))))))) (ko k9)))),?_⟩
  walk_at "in"
  refine⟨st,b,g,i,x,rfl,B,⟨_,hg,rfl⟩,hx,fun H1 c s1 cn=>?_⟩
  walk_at ""
  refine⟨st,i+1,x,c,rfl,cn.cat (B.same s1) hx,fun H2 l s2 hl ⟨as,h1,h2,h3⟩=>?_⟩
  rw[Jd] at h2
  generalize Vbemai.gaps (Vbemai.knotsOf st (i+1))=gs at *
  walk_at ""
  refine qau (qbh (SqL.of h1)) ?_
  rw[Jd,h2]
  have S2:=s1.trans s2
  walk_at ""
  intro ans qcz
  have qeu:=S2.free qcz
  have s3:=Qz.new (o:=.lst [.int 0,.int (gs.length:Int)]) qcz
  have ha3:upd H2 ans (.lst [.int 0,.int (gs.length:Int)]) ans=some (.lst (vI (0::(gs.length:Int)::((gs.take 0).map fun g=>[(g.1:Int),(g.2.1:Int),g.2.2]).flatten))):=zc
  have h13:=s3 _ _ h1
  have h33:∀ (i:Nat) (a:Addr) (x:List V),as[i]?=some a->(gs.map qea)[i]?=some x->upd H2 ans (.lst [.int 0,.int (gs.length:Int)]) a=some (.tup x):=fun i a x q1 q2=>s3 _ _ (h3 i a x q1 q2)
  have hla:l≠ans:=k8 h1 qcz
  have S3:=S2.trans s3
  generalize upd H2 ans (.lst [.int 0,.int (gs.length:Int)])=H3 at *
  walk_at ""
  refine qel (as.map V.ref) (fun j σ H'=>Qz H H'/\H' l=some (.lst (as.map V.ref))/\(∀ (i:Nat) (a:Addr) (x:List V),as[i]?=some a->(gs.map qea)[i]?=some x->H' a=some (.tup x))/\H' ans=some (.lst (vI (0::(gs.length:Int)::((gs.take j).map fun g=>[(g.1:Int),(g.2.1:Int),g.2.2]).flatten)))/\∃ v1 v2 v3,σ=[some (.ref b.a),some (.ref g),some (.ref l),some (.ref ans),v1,v2,v3])
   ⟨S3,h13,h33,ha3,_,_,_,rfl⟩ (fun j σ H' ⟨_,g2,_⟩=>SqL.of g2) ?_ ?_
  ·rintro σ H' ⟨g1,g2,g3,g4,v1,v2,v3,rfl⟩
   rw[Jd,h2,Xh] at g4
   walk_at ""
   exact q H' b ans (Vj.of_same B g1) qeu g4
  ·rintro j σ H' v hv ⟨g1,g2,g3,g4,v1,v2,v3,rfl⟩
   rw[Jt] at hv
   cases ha:as[j]? with
   |none=>rw[ha] at hv;cases hv
   | some a=>
     rw[ha] at hv
     obtain rfl:V.ref a=v:=Jj hv
     have hj:=(Ji.mp ha).1
     have hy:gs[j]?=some gs[j]:=Jo (by omega)
     generalize gs[j]=y at hy
     have ht:=g3 j a (qea y) ha (by rw[Jt,hy];rfl)
     have hfl:=qfd (fun g:Nat×Nat×Int=>[(g.1:Int),(g.2.1:Int),g.2.2]) 3 (fun _=>rfl) (gs.take j)
     have htl:(gs.take j).length<=gs.length:=by rw[Zs];omega
     walk_at ""
     refine qe3 (xs:=[.int (y.1:Int),.int (y.2.1:Int),.int y.2.2]) (SqT.of ht) rfl ?_
     walk_at ""
     intro nl hnl
     have s5:=Qz.new (o:=.lst [.int (y.1:Int),.int (y.2.1:Int),.int y.2.2]) hnl
     walk_at ""
     refine qjk (s5 _ _ g4) zc (Xj (small 40000 (by rw[qas];simp only[Jz,Y3];omega))) ?_
     walk_at ""
     have keep:∀ a o,H' a=some o->a≠ans->upd (upd H' nl (.lst [.int (y.1:Int),.int (y.2.1:Int),.int y.2.2])) ans (.lst (vI (0::(gs.length:Int)::((gs.take j).map fun g=>[(g.1:Int),(g.2.1:Int),g.2.2]).flatten)++[.int (y.1:Int),.int (y.2.1:Int),.int y.2.2])) a=some o:=fun a o h1 h2=>by rw[qc h2];exact s5 _ _ h1
     refine⟨Qz.upd (g1.trans s5) qeu,keep _ _ g2 hla,fun i a x q1 q2=>?_,?_,_,_,_,rfl⟩
     ·have:=g3 i a x q1 q2
      exact keep _ _ this (qah this g4 (by intro z;cases z))
     ·rw[zc,qln _ hy];simp[vI]
theorem q0k(T:Txt P w K mg A):
  Fn P w K mg base 6 "ask_doubt" ["book","given"] (qa4 A gq19):=by
 refine T.qx7.go qfl (fun _ _ _ _ h=>?_) (fun _ _ _ _ _ H _ Q _ hr h=>?_)
 ·obtain⟨st,b,g,c,rfl,_⟩:=h;rfl
 ·obtain⟨st,b,g,c,rfl,B,hga,⟨i,r,x,rfl,hg,hr0,hr1,hx⟩,q⟩:=h
  have hu:=yb hr
  rw[q8p hx] at q
  have hm:=QM.meter?_at hx
  have hglen:=QM.qiy B.good hm
  have hinc:∀ y∈Vbemai.gaps (Vbemai.knotsOf st (i+1)),y.1<=y.2.1/\y.2.1<=10000:=fun y hy=>by
   rw[QM.qix B.good hm] at hy
   obtain⟨j,hj⟩:=Zw hy
   have h1:=Xn.mp hj
   have h2:=Xn.mp h1.2
   have h3:(QM.kn st (i+1))[j+1]?=some y.2.1:=by have:=h2.1;rw[List.getElem?_tail] at this;exact this
   exact⟨Xj (QM.qlz (QM.qfg B.good hm) h1.1 h3).1,QM.qi3 B.good hm _ (J0 h3)⟩
  refine⟨_,(zb (qgi (i:=2) rfl qfl.nd rfl rfl (by exact qgx rfl rfl rfl rfl) (own:=[("gap",3)]) (qbj (zj (qpe T) hr (zo (zj (qhd T) hr (zf za zd))))) (by walk_at "bk") (fun _ _ _ _ _=>(vt 3 qfl.nd)) (fun _ _ _ _ _=>(qe0 (vc qjb (qc7 K k9 ki) (vm qdv (k6 hu zd kr) (vm qca (qc7 K k9 ki) (qc7 K k9 ki)))))) (fun _ _ _ _ _=>k9)) (zb (k7 4 qfl.nd (vo (zf (zq T.ya) (x_len T.qaw ze)))) (zb (qdi Ys rfl (qbj ze) (qex (K':=K) (n:=3) rfl rfl (qbi (vt 5 qfl.nd) (qbi (vt 6 qfl.nd) (qbi (vt 7 qfl.nd) qey)))) (qaz (qbn (qbx Xe Wl Wm qi8 qaj (zo (vo (zf qbo qcb))))))) (ko qaj)))),?_⟩
  walk_at "in"
  refine⟨st,b,g,i,x,rfl,B,⟨_,hg,rfl⟩,hx,fun H1 c s1 cn=>?_⟩
  walk_at ""
  refine⟨st,i+1,x,c,rfl,cn.cat (B.same s1) hx,fun H2 l s2 hl ⟨as,h1,h2,h3⟩=>?_⟩
  rw[Jd] at h2
  generalize Vbemai.gaps (Vbemai.knotsOf st (i+1))=gs at *
  have S2:=s1.trans s2
  have hg2:=hg.same S2
  walk_at ""
  refine qd0 (SqL.of h1) (fun j=>(((as.zip gs).take j).filter fun p=>decide (r*(p.2.2.1-p.2.1:Nat)<p.2.2.2)).map fun p=>V.ref p.1) rfl ?_ ?_
  ·intro D j H3 v hv p
   rw[Jt] at hv
   cases ha:as[j]? with
   |none=>rw[ha] at hv;cases hv
   | some a=>
     rw[ha] at hv
     obtain rfl:V.ref a=v:=Jj hv
     have hj:=(Ji.mp ha).1
     have hy:gs[j]?=some gs[j]:=Jo (by omega)
     generalize gs[j]=y at hy
     have ht:=p.same _ _ (h3 j a (qea y) ha (by rw[Jt,hy];rfl))
     have hz:(as.zip gs)[j]?=some (a,y):=by rw[Xn];exact⟨ha,hy⟩
     have hyi:=hinc y (J0 hy)
     have hg3:=hg2.same p.same
     have e:(y.2.1:Int)-y.1=((y.2.1-y.1:Nat):Int):=by omega
     walk_at ""
     refine⟨rfl,?_⟩
     walk_at ""
     refine qc5 (SqT.of ht) (ye (j:=2) rfl) ?_
     walk_at ""
     refine ku hg3 (v:=.int r) rfl ?_
     walk_at ""
     refine qc5 (SqT.of ht) (ye (j:=1) rfl) ?_
     walk_at ""
     refine qc5 (SqT.of ht) (ye (j:=0) rfl) ?_
     walk_at ""
     refine r_I (.inr ⟨by omega,by omega⟩) ?_
     walk_at ""
     rw[e]
     refine ifD (fun c=>?_) (fun c=>?_)
     ·walk_at ""
      refine p.yes (small 10001 (by omega)) (Qz.refl _) ?_
      show List.map _ _=_
      rw[qf0 _ hz (Xm c),Jv];rfl
     ·refine p.no (Qz.refl _) ?_
      show List.map _ _=_
      rw[qfz _ hz (J7 c)]
  ·intro L H3 hL s3 hL3
   have hlz:(as.zip gs).length=as.length:=by rw[Yr];omega
   rw[Jd,<- hlz,Xh] at hL3
   have e2:(as.zip gs).map (·.2)=gs:=List.map_snd_zip (by omega)
   have e1:((as.zip gs).filter fun p=>decide (r*(p.2.2.1-p.2.1:Nat)<p.2.2.2)).map (·.2)=gs.filter fun g=>decide (r*(g.2.1-g.1:Nat)<g.2.2):=by
    conv=>rhs;rw[<- e2]
    rw[Wt];rfl
   rw[<- e1] at q
   have hF:∀ y∈(as.zip gs).filter (fun p=>decide (r*(p.2.2.1-p.2.1:Nat)<p.2.2.2)),H3 y.1=some (.tup (qea y.2)):=fun y hy=>by
    obtain⟨j,hj⟩:=Zw (J2.mp hy).1
    have h5:=Xn.mp hj
    exact s3 _ _ (h3 j y.1 (qea y.2) h5.1 (by rw[Jt,h5.2];rfl))
   have hFl:((as.zip gs).filter fun p=>decide (r*(p.2.2.1-p.2.1:Nat)<p.2.2.2)).length<=10001:=by
    have:=Xp (fun p:Addr×Nat×Nat×Int=>decide (r*(p.2.2.1-p.2.1:Nat)<p.2.2.2)) (as.zip gs)
    omega
   generalize (as.zip gs).filter (fun p=>decide (r*(p.2.2.1-p.2.1:Nat)<p.2.2.2))=F at *
   rw[Jd,Xy] at q
   have S3:=S2.trans s3
   walk_at ""
   refine qau (qbh (SqL.of hL3)) ?_
   rw[Jd]
   walk_at ""
   intro ans qcz
   have qeu:=S3.free qcz
   have s4:=Qz.new (o:=.lst [.int 0,.int (F.length:Int)]) qcz
   have ha4:upd H3 ans (.lst [.int 0,.int (F.length:Int)]) ans=some (.lst (vI (0::(F.length:Int)::((F.take 0).map fun g=>[(g.2.1:Int),(g.2.2.1:Int)]).flatten))):=zc
   have hL4:=s4 _ _ hL3
   have hF4:∀ y∈F,upd H3 ans (.lst [.int 0,.int (F.length:Int)]) y.1=some (.tup (qea y.2)):=fun y hy=>s4 _ _ (hF y hy)
   have hLa:L≠ans:=k8 hL3 qcz
   have S4:=S3.trans s4
   generalize upd H3 ans (.lst [.int 0,.int (F.length:Int)])=H4 at *
   walk_at ""
   refine qel (F.map fun p=>V.ref p.1) (fun j σ H'=>Qz H H'/\H' L=some (.lst (F.map fun p=>V.ref p.1))/\(∀ y∈F,H' y.1=some (.tup (qea y.2)))/\H' ans=some (.lst (vI (0::(F.length:Int)::((F.take j).map fun g=>[(g.2.1:Int),(g.2.2.1:Int)]).flatten)))/\∃ v1 v2 v3 v4,σ=[some (.ref b.a),some (.ref g),some (.ref L),v1,some (.ref ans),v2,v3,v4])
    ⟨S4,hL4,hF4,ha4,_,_,_,_,rfl⟩ (fun j σ H' ⟨_,g2,_⟩=>SqL.of g2) ?_ ?_
   ·rintro σ H' ⟨g1,g2,g3,g4,v1,v2,v3,v4,rfl⟩
    rw[Jd,Xh] at g4
    walk_at ""
    exact q H' b ans (Vj.of_same B g1) qeu g4
   ·rintro j σ H' v hv ⟨g1,g2,g3,g4,v1,v2,v3,v4,rfl⟩
    rw[Jt] at hv
    cases ha:F[j]? with
    |none=>rw[ha] at hv;cases hv
    | some y=>
      rw[ha] at hv
      obtain rfl:V.ref y.1=v:=Jj hv
      have ht:=g3 y (J0 ha)
      have hfl:=qfd (fun g:Addr×Nat×Nat×Int=>[(g.2.1:Int),(g.2.2.1:Int)]) 2 (fun _=>rfl) (F.take j)
      have htl:(F.take j).length<=F.length:=by rw[Zs];omega
      walk_at ""
      refine qe3 (xs:=[.int (y.2.1:Int),.int (y.2.2.1:Int),.int y.2.2.2]) (SqT.of ht) rfl ?_
      walk_at ""
      intro nl hnl
      have s5:=Qz.new (o:=.lst [.int (y.2.1:Int),.int (y.2.2.1:Int)]) hnl
      walk_at ""
      refine qjk (s5 _ _ g4) zc (Xj (small 40000 (by rw[qas];simp only[Jz,Y3];omega))) ?_
      walk_at ""
      have keep:∀ a o,H' a=some o->a≠ans->upd (upd H' nl (.lst [.int (y.2.1:Int),.int (y.2.2.1:Int)])) ans (.lst (vI (0::(F.length:Int)::((F.take j).map fun g=>[(g.2.1:Int),(g.2.2.1:Int)]).flatten)++[.int (y.2.1:Int),.int (y.2.2.1:Int)])) a=some o:=fun a o h1 h2=>by rw[qc h2];exact s5 _ _ h1
      refine⟨Qz.upd (g1.trans s5) qeu,keep _ _ g2 hLa,fun y' q1=>?_,?_,_,_,_,_,rfl⟩
      ·have:=g3 y' q1
       exact keep _ _ this (qah this g4 (by intro z;cases z))
      ·rw[zc,qln _ ha];simp[vI]
theorem q0p(T:Txt P w K mg A):
  Fn P w K mg base 2 "ask_published" ["book","given"] (qa4 A gq21):=by
 refine T.qyc.go qt9 (fun _ _ _ _ h=>?_) (fun _ _ _ _ _ H _ Q _ hr h=>?_)
 ·obtain⟨st,b,g,c,rfl,_⟩:=h;rfl
 ·obtain⟨st,b,g,c,rfl,B,hga,⟨t,u,rfl,hg⟩,q⟩:=h
  have hu:=yb hr
  rw[q8z] at q
  unfold Vbemai.lastNets at q
  refine⟨_,(zb (k7 2 qt9.nd (q4t hu (zk K za) (qgf (zf (k6 hu zd kr) (k6 hu zd kr))) ⟨rfl,rfl,rfl,rfl⟩)) (zb (vf (vc qjc ze qdh) (vo (zf (zq T.ya) ki))) (ko (vm qhp (vo (zf (zq T.ya) ki)) (zj (qlo T) hr (zo ze)))))),?_⟩
  walk_at "in"
  refine ku hg (v:=.int (t:Int)) rfl ?_
  walk_at ""
  refine ku hg (v:=.int (u:Int)) rfl ?_
  walk_at ""
  intro tp htp
  have s1:=Qz.new (o:=.tup [.int (t:Int),.int (u:Int)]) htp
  refine r_d1Tb (k:=[Sum.inl (t:Int),Sum.inl (u:Int)]) (B.same s1).oQ zc ?_
  rcases qri t u st.periods b.qs B.lq with ⟨i,p,ad,h1,h2,h3,h4⟩|⟨h1,h2⟩
  ·rw[h3] at q
   rw[h4]
   have hn:=(B.same s1).net h1 h2
   have hpl:=(B.good.po p (J0 h1)).1
   generalize upd H tp (.tup [.int (t:Int),.int (u:Int)])=H1 at *
   walk_at ""
   refine⟨rfl,?_⟩
   walk_at ""
   refine qam ?_
   walk_at ""
   intro z hz
   have s2:=Qz.new (o:=.lst [.int 0,.int 1]) hz
   have hz2:upd H1 z (.lst [.int 0,.int 1]) z=some (.lst [.int 0,.int 1]):=zc
   generalize upd H1 z (.lst [.int 0,.int 1])=H2 at *
   walk_at ""
   refine⟨ad,p.nets,rfl,SqL.of (s2 _ _ hn),by omega,fun H3 l s3 hl hl3=>?_⟩
   walk_at ""
   have hlen:=QM.qgz p.nets
   have S3:=(s1.trans s2).trans s3
   refine qhx (s3 _ _ hz2) hl3 (by rw[qas];exact Xj (qar (by simp;omega))) fun l2 hl2=>?_
   exact q _ b l2 (Vj.of_same B (S3.trans (Qz.new hl2))) (S3.free hl2) zc
  ·rw[h1] at q
   rw[h2]
   walk_at ""
   refine⟨rfl,?_⟩
   walk_at ""
   refine qag ?_
   walk_at ""
   intro l hl
   exact q _ b l (Vj.of_same B (s1.trans (Qz.new hl))) (s1.free hl) zc
theorem Vj.same{H H' H2:Hp}{s s':Sta}{b b':Vh}(k:Vj A H s b H' s' b')(e:Qz H' H2): Vj A H s b H2 s' b':=⟨k.bat.same e,k.ba,fun a o h1 h2=>e _ _ (k.fr a o h1 h2),k.nw,k.lv.trans (Qae.of_same e)⟩
def qbl(l:List Cell): List Addr:=l.map (·.1)
theorem qf7{H H':Hp}{s s':Sta}{b b':Vh}(B:BAt A H s b){c0 c0':Cell}{N N' R:List Cell}(p:(qb3 A s b).Perm (c0::(N++R)))(p':(qb3 A s' b').Perm (c0'::(N'++R)))(h0:c0'.1=c0.1)
  (e0:H' c0'.1=some c0'.2)(hN:Has H' N')(nd:(qbl N').Nodup)(new:∀ a∈qbl N',a∈qbl N\/H a=none)(fr:∀ a o,a≠c0.1->a∉qbl N->H a=some o->H' a=some o)
  (good:QM.Good s')(ba:b'.a=b.a)(lp:b'.ps.length=s'.profiles.length+1)(lm:b'.ms.length=s'.meters.length)(lq:b'.qs.length=s'.periods.length)
  (mr:∀ (i:Nat) (x:Met) (m:Ve),s'.meters[i]?=some x->b'.ms[i]?=some m->Qct s' (i+1) x m)(lv:Qae H H'): Vj A H s b H' s' b':=by
 have hh:Has H (c0::(N++R)):=fun c hc=>B.has c (p.mem_iff.mpr hc)
 have hn:(qbl (c0::(N++R))).Nodup:=(p.map (fun c:Cell=>c.1)).nodup_iff.mp B.nd
 unfold qbl at hn
 rw[Jq,Xf,Jv,J4,Zi] at hn
 obtain⟨hn0,hnN,hnR,hNR⟩:=hn
 have hR:∀ c∈R,c.1≠c0.1/\c.1∉qbl N/\H c.1=some c.2:=fun c hc=>by
  have hm:c.1∈R.map (·.1):=Jk.mpr ⟨c,hc,rfl⟩
  refine⟨fun z=>hn0 (.inr (z ▸ hm)),fun z=>hNR c.1 z c.1 hm rfl,hh c (Jm _ (J4.mpr (.inr hc)))⟩
 have hN2:∀ c∈N,H c.1=some c.2:=fun c hc=>hh c (Jm _ (J4.mpr (.inl hc)))
 have hc0:H c0.1=some c0.2:=hh c0 (Jh ..)
 have hhas:Has H' (c0'::(N'++R)):=fun c hc=>by
  rcases Jf.mp hc with rfl|hc
  ·exact e0
  ·rcases J4.mp hc with hc|hc
   ·exact hN c hc
   ·obtain⟨r1,r2,r3⟩:=hR c hc
    exact fr _ _ r1 r2 r3
 have hnd:(qbl (c0'::(N'++R))).Nodup:=by
  unfold qbl
  rw[Jq,Xf,Jv,J4,Zi]
  refine⟨?_,nd,hnR,fun a ha c hc e=>?_⟩
  ·rw[h0]
   rintro (z|z)
   ·rcases new _ z with q|q
    ·exact hn0 (.inl q)
    ·rw[hc0] at q;cases q
   ·exact hn0 (.inr z)
  ·subst e
   rcases new _ ha with q|q
   ·exact hNR a q a hc rfl
   ·obtain⟨c',hc',rfl⟩:=Jk.mp hc
    rw[(hR c' hc').2.2] at q;cases q
 refine⟨⟨good,fun c hc=>hhas c (p'.mem_iff.mp hc),(p'.map (fun c:Cell=>c.1)).nodup_iff.mpr hnd,lp,lm,lq,mr⟩,ba,fun a o h1 h2=>?_,fun a ha=>?_,lv⟩
 ·have h3:a∉qbl (c0::(N++R)):=fun z=>h1 ((p.map (fun c:Cell=>c.1)).mem_iff.mpr z)
  unfold qbl at h3
  rw[Jq,Jf,Jv,J4,not_or,not_or] at h3
  exact fr a o h3.1 h3.2.1 h2
 ·have h3:a∈qbl (c0'::(N'++R)):=(p'.map (fun c:Cell=>c.1)).mem_iff.mp ha
  have back:a∈qbl (c0::(N++R))->a∈ads A s b:=fun z=>(p.map (fun c:Cell=>c.1)).mem_iff.mpr z
  unfold qbl at h3 back
  rw[Jq,Jf,Jv,J4] at h3 back
  rcases h3 with h3|h3|h3
  ·exact .inl (back (.inl (h3.trans h0)))
  ·rcases new a h3 with q|q
   ·exact .inl (back (.inr (.inl q)))
   ·exact .inr q
  ·exact .inl (back (.inr (.inr h3)))
def bC(A:Ads)(s:Sta)(b:Vh): Cell:=(b.a,.ins A.CB b.dx (qa5 s b))
def pC(b:Vh): Cell:=(b.aP,.lst (b.ps.map fun p=>.ref p.a))
def mC(b:Vh): Cell:=(b.aM,.lst (b.ms.map fun m=>.ref m.a))
def qC(s:Sta)(b:Vh): Cell:=(b.aQ,.dT (qai s.periods b.qs))
def qbe(A:Ads)(s:Sta)(b:Vh): List Cell:=(List.zipWith (qfh A) ([1]::s.profiles) b.ps).flatten
def qbd(A:Ads)(s:Sta)(b:Vh): List Cell:=(List.zipWith (qap A) s.meters b.ms).flatten
def nets(s:Sta)(b:Vh): List Cell:=List.zipWith qbm s.periods b.qs
theorem qdo(s:Sta)(b:Vh): qb3 A s b=bC A s b::pC b::mC b::qC s b::(qbe A s b++(qbd A s b++nets s b)):=rfl
def xC(A:Ads)(x:Met)(m:Ve): Cell:=(m.a,.ins A.CM m.dx (qdc x m))
def dC(m:Ve): Cell:=(m.aD,.lst (m.ds.map fun d=>.ref d.a))
def rC(m:Ve): Cell:=(m.aR,.dK (rdK m.rd))
def tC'(m:Ve): Cell:=(m.aT,.dK (tlK m.tl))
def dis(A:Ads)(x:Met)(m:Ve): List Cell:=List.zipWith (qa6 A) m.ds x.devices
def vrs(m:Ve): List Cell:=m.rd.map qbk
theorem qdt(x:Met)(m:Ve): qap A x m=xC A x m::dC m::rC m::tC' m::(dis A x m++vrs m):=rfl
theorem qnk{α:Type}{l:List α}{i:Nat}{x:α}(h:l[i]?=some x): ∃ p q,l=p++x::q/\p.length=i:=by
 have hi:=(Ji.mp h).1
 have hx:=(Ji.mp h).2
 refine⟨l.take i,l.drop (i+1),?_,by rw[Zs];omega⟩
 rw[<- hx,<- Ul hi,List.take_append_drop]
theorem q3j{s s':Sta}{b b':Vh}{p1 p2:List Met}{q1 q2:List Ve}{x x':Met}{m m':Ve}(e1:s.meters=p1++x::p2)(e2:b.ms=q1++m::q2)(e1':s'.meters=p1++x'::p2)(e2':b'.ms=q1++m'::q2)(hl:p1.length=q1.length):
  ∃ X Y,qbd A s b=X++(qap A x m++Y)/\qbd A s' b'=X++(qap A x' m'++Y):=by
 refine⟨(List.zipWith (qap A) p1 q1).flatten,(List.zipWith (qap A) p2 q2).flatten,?_,?_⟩
 ·unfold qbd;rw[e1,e2,Yi hl,W3,Wo,Zk]
 ·unfold qbd;rw[e1',e2',Yi hl,W3,Wo,Zk]
theorem qf6{H H':Hp}{s s':Sta}{b:Vh}(B:BAt A H s b){i:Nat}{x x':Met}{m m':Ve}(hx:s.meters[i]?=some x)(hm:b.ms[i]?=some m)(hs':s'.meters=s.meters.set i x')(ma:m'.a=m.a)
  (hp:s'.profiles=s.profiles)(hq:s'.periods=s.periods){N N' R:List Cell}(p:(qap A x m).Perm (N++R))(p':(qap A x' m').Perm (N'++R))
  (e0:H' b.a=some (.ins A.CB b.dx (qa5 s' b)))(hN:Has H' N')(nd:(qbl N').Nodup)(new:∀ a∈qbl N',a∈qbl N\/H a=none)(fr:∀ a o,a≠b.a->a∉qbl N->H a=some o->H' a=some o)
  (good:QM.Good s')(mr:Qct s' (i+1) x' m')(mo:∀ (j:Nat) (y:Met) (n:Ve),j≠i->Qct s (j+1) y n->Qct s' (j+1) y n)(lv:Qae H H'): Vj A H s b H' s' { b with ms:=b.ms.set i m' }:=by
 obtain⟨p1,p2,e1,l1⟩:=qnk hx
 obtain⟨q1,q2,e2,l2⟩:=qnk hm
 have e1':s'.meters=p1++x'::p2:=by rw[hs',e1,List.set_append_right _ _ (by omega),l1,Nat.sub_self];rfl
 have e2':b.ms.set i m'=q1++m'::q2:=by rw[e2,List.set_append_right _ _ (by omega),l2,Nat.sub_self];rfl
 obtain⟨X,Y,g1,g2⟩:=q3j (A:=A) (b:=b) (b':={ b with ms:=b.ms.set i m' }) e1 e2 e1' e2' (by omega)
 have hmC:mC { b with ms:=b.ms.set i m' }=mC b:=by
  unfold mC
  show (b.aM,HO.lst ((b.ms.set i m').map fun m=>V.ref m.a))=_
  rw[List.map_set,ma]
  have:(b.ms.map fun m=>V.ref m.a)[i]?=some (.ref m.a):=by rw[Jt,hm];rfl
  have hi:i<(b.ms.map fun m=>V.ref m.a).length:=(Ji.mp this).1
  have e:V.ref m.a=(b.ms.map fun m=>V.ref m.a)[i]:=(Ji.mp this).2.symm
  rw[e,Qo]
 have hpros:qbe A s' { b with ms:=b.ms.set i m' }=qbe A s b:=by unfold qbe;rw[hp]
 have hnets:nets s' { b with ms:=b.ms.set i m' }=nets s b:=by unfold nets;rw[hq]
 have hqC:qC s' { b with ms:=b.ms.set i m' }=qC s b:=by unfold qC;rw[hq]
 refine qf7 B (c0:=bC A s b) (c0':=bC A s' { b with ms:=b.ms.set i m' }) (N:=N) (N':=N') (R:=R++(pC b::mC b::qC s b::(qbe A s b++((X++Y)++nets s b)))) ?_ ?_ rfl e0 hN nd new fr good rfl
  (by show b.ps.length=_;rw[hp];exact B.lp) (by show (b.ms.set i m').length=_;rw[Ug,hs',Ug];exact B.lm) (by show b.qs.length=_;rw[hq];exact B.lq) (fun j y n h1 h2=>?_) lv
 ·rw[qdo,g1]
  classical
  refine List.Perm.cons _ ?_
  refine Xc.mpr fun a=>?_
  have:=Xc.mp p a
  simp only[Xs,Xz] at this ⊢
  omega
 ·rw[qdo,g2,hmC,hpros,hnets,hqC]
  classical
  refine List.Perm.cons _ ?_
  refine Xc.mpr fun a=>?_
  have:=Xc.mp p' a
  show List.count a (pC b::_)=_
  simp only[Xs,Xz] at this ⊢
  omega
 ·by_cases hj:j=i
  ·subst hj
   have hi:j<s.meters.length:=(Ji.mp hx).1
   have hi2:j<b.ms.length:=(Ji.mp hm).1
   rw[hs',Zp hi] at h1
   have h2:(b.ms.set j m')[j]?=some n:=h2
   rw[Zp hi2] at h2
   cases h1;cases h2
   exact mr
  ·rw[hs',Zy (fun z=>hj z.symm)] at h1
   have h2:(b.ms.set i m')[j]?=some n:=h2
   rw[Zy (fun z=>hj z.symm)] at h2
   exact mo j y n hj (B.mr j y n h1 h2)
theorem q2s{H H':Hp}{s s':Sta}{b:Vh}(B:BAt A H s b)(hm:s'.meters=s.meters)(hp:s'.profiles=s.profiles)(hq:s'.periods=s.periods)(hr:s'.readings=s.readings)(ha:s'.assigns=s.assigns)
  (e0:H' b.a=some (.ins A.CB b.dx (qa5 s' b)))(fr:∀ a o,a≠b.a->H a=some o->H' a=some o)(good:QM.Good s')(lv:Qae H H'): Vj A H s b H' s' b:=by
 refine qf7 B (c0:=bC A s b) (c0':=bC A s' b) (N:=[]) (N':=[]) (R:=pC b::mC b::qC s b::(qbe A s b++(qbd A s b++nets s b))) (Z4 _) ?_ rfl e0 (fun _ h=>nomatch h) Yb (fun _ h=>nomatch h) (fun a o h1 _ h2=>fr a o h1 h2) good rfl
  (by rw[hp];exact B.lp) (by rw[hm];exact B.lm) (by rw[hq];exact B.lq) (fun j y n h1 h2=>?_) lv
 ·rw[qdo]
  have h1:qC s' b=qC s b:=by unfold qC;rw[hq]
  have h2:qbe A s' b=qbe A s b:=by unfold qbe;rw[hp]
  have h3:qbd A s' b=qbd A s b:=by unfold qbd;rw[hm]
  have h4:nets s' b=nets s b:=by unfold nets;rw[hq]
  rw[h1,h2,h3,h4]
  exact Z4 _
 ·rw[hm] at h1
  obtain⟨r1,r2,r3⟩:=B.mr j y n h1 h2
  refine⟨r1,?_,?_⟩
  ·unfold Vbemai.readingsOf;rw[hr];exact r2
  ·unfold QM.toldOf;rw[ha];exact r3
theorem qjz(g:Met->Met): ∀ {l:List Met} {i:Nat} {x:Met},l[i]?=some x->Vbemai.setMeter g i l=l.set i (g x)
 |[],_,_,h=>by simp at h
 |y::l,0,x,h=>by simp at h;subst h;rfl
 | y::l,i+1,x,h=>by
   show y::Vbemai.setMeter g i l=y::l.set i (g x)
   rw[qjz g (by simpa using h)]
def qhi(s:Sta)(k z y t d:Nat)(v:Int)(p:Nat): Int:=if (k=2/\z=y)\/(k≠2/\y≠0) then -12 else if s.profiles.length<p then -2 else if t<s.locked then -5 else if Vbemai.shows d v=false then -7 else if 32<=s.meters.length then -4 else 0
def q8k:Sp:=fun vs H Q _=>∃ (g:Addr) (k z y t d:Nat) (f v:Int) (p:Nat) (r:Int),vs=[.ref g]/\GV H g 1 [(k:Int),z,y,t,d,f,v,p,r]/\Q (.bl (!decide ((k=2/\z=y)\/(k≠2/\y≠0)))) H
def q7t(A:Ads): Sp:=fun vs H Q _=>∃ (s:Sta) (b:Vh) (g:Addr) (k z y t d:Nat) (f v:Int) (p:Nat) (r:Int),vs=[.ref b.a,.ref g]/\BAt A H s b/\GV H g 1 [(k:Int),z,y,t,d,f,v,p,r]/\d<=9/\Q (.int (qhi s k z y t d v p)) H
def q71(A:Ads): Sp:=fun vs H Q _=>∃ (g:Addr) (kvs:List (Key×V)) (y:Dev),vs=[.ref g]/\H g=some (.dK kvs)/\y.finish=none/\y.digits<=9/\kj kvs (Sum.inr (Str.ofString "boundary"))=some (.int (y.start:Int))/\kj kvs (Sum.inr (Str.ofString "start"))=some (.int y.value)/\kj kvs (Sum.inr (Str.ofString "digits"))=some (.int (y.digits:Int))/\kj kvs (Sum.inr (Str.ofString "factor"))=some (.int y.factor) /\
 ∀ H' p dx,Qz H H'->H p=none->H' p=some (.ins A.CD dx (qax y))->Q (.ref p) H'
theorem q8x{s:Sta}{row:List Nat}(h:8<=s.profiles.length): Vbemai.step s (.profile row)=(s,[-4]):=by
 unfold Vbemai.step
 simp only[Vbemai.does]
 rw[Je (show Vbemai.PROFILES<=_ from h)]
theorem q8w{s:Sta}{row:List Nat}(h:¬ 8<=s.profiles.length): Vbemai.step s (.profile row)=({ s with profiles:=s.profiles++[row] },[0,((s.profiles.length+1:Nat):Int)]):=by
 unfold Vbemai.step
 simp only[Vbemai.does]
 rw[Jc (show ¬ Vbemai.PROFILES<=_ from h)];rfl
theorem q0d(T:Txt P w K mg A): Fn P w K mg base 4 "add_profile" ["book","given"] (qa4 A gq0):=by
 refine T.qx0.go q6c (fun _ _ _ _ h=>?_) (fun _ _ _ _ _ H _ Q _ hr h=>?_)
 ·obtain⟨st,b,g,c,rfl,_⟩:=h;rfl
 ·obtain⟨st,b,g,c,rfl,B,hga,⟨lr,row,rfl,hg,hlr,hok⟩,q⟩:=h
  have hu:=yb hr
  have hpl:=B.good.pl
  refine⟨_,(zb (vf (vc qay (vm qca (x_len T.qaw (zk K za)) ki) (zq T.qww)) (vo (zo (zq T.qfx)))) (zb (qbn (qbx Xe Xv Xw qc3 (zk K za) (zo (qht (qov T) hr (zo (k6 hu zd kr)))))) (ko (vo (zf (zq T.ya) (vm qca (x_len T.qaw (zk K za)) ki)))))),?_⟩
  walk_at "in"
  refine qau (qbh (SqL.of B.oP)) ?_
  rw[Jd,B.lp]
  walk_at ""
  refine ifD (fun c=>?_) (fun c=>?_)
  ·rw[q8x (by omega)] at q
   walk_at ""
   intro l hl
   exact q _ b l (Vj.of_same B (Qz.new hl)) hl zc
  have hgs:=QM.qeb B.good hok
  rw[q8w (by omega)] at q hgs
  walk_at ""
  refine ku hg (v:=.ref lr) rfl ?_
  walk_at ""
  intro x xd hx hxd hxx
  have nl1:lr≠x:=k8 hlr hx
  have nl2:lr≠xd:=k8 hlr hxd
  refine⟨x,xd,lr,wts row,rfl,zc,SqL.of (by rw[qc nl1,qc nl2];exact hlr),qar (by rw[qkd];have:=hok.2.1;omega),fun H1 aS b1 hS hx1 hS1=>⟨rfl,?_⟩⟩
  have nSx:aS≠x:=by intro e;subst e;rw[zc] at hS;cases hS
  rw[qc nSx] at hS
  have nSd:aS≠xd:=by intro e;subst e;rw[zc] at hS;cases hS
  rw[qc nSd] at hS
  have S1:Qz H H1:=fun a o h=>b1 a o (k8 h hx) (by rw[qc (k8 h hx),qc (k8 h hxd)];exact h)
  walk_at ""
  refine qco (S1 _ _ B.oP) (qar (by rw[Jd,B.lp];omega)) ?_
  have hPx:b.aP≠x:=k8 B.oP hx
  have hPS:b.aP≠aS:=k8 B.oP hS
  have hba:b.a≠b.aP:=qah B.o B.oP (by intro z;cases z)
  have K1:Vj A H st b (upd H1 b.aP (.lst ((b.ps.map fun p=>.ref p.a)++[.ref x]))) { st with profiles:=st.profiles++[row] } { b with ps:=b.ps++[⟨x,xd,aS⟩] }:=by
   refine qf7 B (c0:=bC A st b) (c0':=bC A st b) (N:=[pC b]) (N':=[pC { b with ps:=b.ps++[⟨x,xd,aS⟩] },(x,.ins A.CP xd [("sums",.ref aS)]),(aS,.lst (vI (QM.sums 0 (wts row))))]) (R:=mC b::qC st b::(qbe A st b++(qbd A st b++nets st b))) (Z4 _) ?_ rfl ?_ ?_ ?_ ?_ ?_ hgs rfl ?_ B.lm B.lq ?_ (Qae.of_same S1).upd
   ·have e1:qbe A { st with profiles:=st.profiles++[row] } { b with ps:=b.ps++[⟨x,xd,aS⟩] }=qbe A st b++qfh A row ⟨x,xd,aS⟩:=by
     unfold qbe
     show (List.zipWith (qfh A) ([1]::(st.profiles++[row])) (b.ps++[⟨x,xd,aS⟩])).flatten=_
     rw[<- List.cons_append,Yi (by rw[Jz,B.lp]),Wo];simp
    rw[qdo,e1]
    classical
    refine List.Perm.cons _ ?_
    refine Xc.mpr fun a=>?_
    show List.count a (pC { b with ps:=b.ps++[⟨x,xd,aS⟩] }::mC b::qC st b::((qbe A st b++[(x,.ins A.CP xd [("sums",.ref aS)]),(aS,.lst (vI (QM.sums 0 (wts row))))])++(qbd A st b++nets st b)))=_
    simp only[Xs,Xz,Yh]
    omega
   ·show upd H1 b.aP _ b.a=_
    rw[qc hba];exact S1 _ _ B.o
   ·intro c hc
    simp only[Jf,Xa,Y0] at hc
    rcases hc with rfl|rfl|rfl
    ·show upd H1 b.aP _ b.aP=_
     rw[zc];unfold pC;simp
    ·show upd H1 b.aP _ x=_
     rw[qc hPx.symm];exact hx1
    ·show upd H1 b.aP _ aS=_
     rw[qc hPS.symm];exact hS1
   ·show [b.aP,x,aS].Nodup
    simp only[Xf,Jf,Xa,Y0,not_or,Yb,Qx,Zj]
    exact⟨⟨hPx,hPS⟩,nSx.symm⟩
   ·intro a ha
    have ha:a∈[b.aP,x,aS]:=ha
    simp only[Jf,Xa,Y0] at ha
    rcases ha with rfl|rfl|rfl
    ·exact .inl (Jh ..)
    ·exact .inr hx
    ·exact .inr hS
   ·intro a o h1 h2 h3
    have h2:a≠b.aP:=fun z=>h2 (by rw[z];exact Jh ..)
    rw[qc h2];exact S1 _ _ h3
   ·show (b.ps++[_]).length=(st.profiles++[row]).length+1
    rw[Jx,Jx,B.lp];rfl
   ·intro j y n h1 h2
    obtain⟨r1,r2,r3⟩:=B.mr j y n h1 h2
    exact⟨r1,r2,r3⟩
  have B1:=K1.bat
  generalize upd H1 b.aP (.lst ((b.ps.map fun p=>.ref p.a)++[.ref x]))=H2 at *
  walk_at ""
  refine qfi B1.o T.clB T.qme rfl ?_
  walk_at ""
  refine qau (qbh (SqL.of B1.oP)) ?_
  rw[Jd,B1.lp]
  walk_at ""
  intro l hl
  have hl0:=K1.lv.free hl
  refine q _ _ l (K1.same (Qz.new hl)) hl0 ?_
  rw[zc]
  have e:(((st.profiles++[row]).length+1:Nat):Int)-1=((st.profiles.length+1:Nat):Int):=by rw[Jx];simp only[Jz,Y3];omega
  rw[e];rfl
theorem q1s(T:Txt P w K mg A): Fn P w K mg base 1 "zones_fit" ["given"] q8k:=by
 refine T.qz6.go q65 (fun _ _ _ _ h=>?_) (fun _ _ _ _ _ H _ Q _ hr h=>?_)
 ·obtain⟨g,k,z,y,t,d,ff,v,p,r,rfl,_⟩:=h;rfl
 ·obtain⟨g,k,z,y,t,d,ff,v,p,r,rfl,hg,q⟩:=h
  have hu:=yb hr
  refine⟨_,(zb (vf (vc qay (k6 hu za kr) (zq T.qku)) (qft qde (k6 hu za kr) (k6 hu za kr))) (ko (qft qay (k6 hu za kr) ki))),?_⟩
  walk_at "in"
  refine ku hg (v:=.int (k:Int)) rfl ?_
  walk_at ""
  refine ifD (fun c=>?_) (fun c=>?_)
  ·walk_at ""
   refine ku hg (v:=.int (z:Int)) rfl ?_
   walk_at ""
   refine ku hg (v:=.int (y:Int)) rfl ?_
   walk_at ""
   have e:decide ((k=2/\z=y)\/(k≠2/\y≠0))=decide ((z:Int)=(y:Int)):=Yt.mpr (by omega)
   rw[e] at q
   exact q
  ·walk_at ""
   refine ku hg (v:=.int (y:Int)) rfl ?_
   walk_at ""
   have e:(!decide ((k=2/\z=y)\/(k≠2/\y≠0)))=decide ((y:Int)=0):=by
    rw[Zm,Bool.not_eq_true',decide_eq_false_iff_not,Zb];omega
   rw[e] at q
   exact q
theorem q06(T:Txt P w K mg A):
  Fn P w K mg base 2 "install_refusal" ["book","given"] (q7t A):=by
 refine T.qyz.go q6q (fun _ _ _ _ h=>?_) (fun _ _ _ _ _ H _ Q _ hr h=>?_)
 ·obtain⟨st,b,g,k,z,y,t,d,ff,v,p,r,rfl,_⟩:=h;rfl
 ·obtain⟨st,b,g,k,z,y,t,d,ff,v,p,r,rfl,B,hg,hd,q⟩:=h
  have hu:=yb hr
  have hml:=B.good.ml
  unfold qhi at q
  refine⟨_,(zb (vf (qrr (qdy (zj (q1s T) hr (zo zd)))) (zq T.qoq)) (zb (vf (vc qdu (k6 hu zd kr) (x_len T.qaw (zk K za))) (zq T.qw1)) (zb (vf (vc qeh (k6 hu zd kr) (zk K za)) (zq T.qha)) (zb (vf (vc qdu (k6 hu zd kr) (zj (qlq T) hr (zo (k6 hu zd kr)))) (zq T.qio)) (zb (vf (vc qay (x_len T.qaw (zk K za)) (zq T.qwu)) (zq T.qfx)) (ko (zq T.ya))))))),?_⟩
  walk_at "in"
  refine⟨g,k,z,y,t,d,ff,v,p,r,rfl,hg,?_⟩
  walk_at ""
  rw[Bool.not_not]
  refine ifD (fun c=>?_) (fun c=>?_)
  ·rw[Je c] at q
   walk_at ""
   exact q
  rw[Jc c] at q
  walk_at ""
  refine ku hg (v:=.int (p:Int)) rfl ?_
  walk_at ""
  refine qau (qbh (SqL.of B.oP)) ?_
  rw[Jd,B.lp]
  walk_at ""
  refine ifD (fun c=>?_) (fun c=>?_)
  ·rw[Je (by omega)] at q
   walk_at ""
   exact q
  rw[Jc (by omega)] at q
  walk_at ""
  refine ku hg (v:=.int (t:Int)) rfl ?_
  walk_at ""
  refine ifD (fun c=>?_) (fun c=>?_)
  ·rw[Je (by omega)] at q
   walk_at ""
   exact q
  rw[Jc (by omega)] at q
  walk_at ""
  refine ku hg (v:=.int v) rfl ?_
  walk_at ""
  refine ku hg (v:=.int (d:Int)) rfl ?_
  walk_at ""
  refine⟨d,rfl,by omega,?_⟩
  walk_at ""
  refine ifD (fun c=>?_) (fun c=>?_)
  ·rw[Je (by unfold Vbemai.shows;exact J7 (by omega))] at q
   walk_at ""
   exact q
  rw[Jc (by unfold Vbemai.shows;rw[Xm (by omega)];exact fun z=>nomatch z)] at q
  walk_at ""
  refine qau (qbh (SqL.of B.oM)) ?_
  rw[Jd,B.lm]
  walk_at ""
  refine ifD (fun c=>?_) (fun c=>?_)
  ·rw[Je (by omega)] at q
   walk_at ""
   exact q
  rw[Jc (by omega)] at q
  walk_at ""
  exact q
theorem qpi(T:Txt P w K mg A): Fn P w K mg base 4 "new_dial" ["given"] (q71 A):=by
 refine T.qzc.go q6x (fun _ _ _ _ h=>?_) (fun _ _ _ _ _ H _ Q _ hr h=>?_)
 ·obtain⟨g,kvs,y,rfl,_⟩:=h;rfl
 ·obtain⟨g,kvs,y,rfl,hg,hf,hd,h1,h2,h3,h4,q⟩:=h
  have hu:=yb hr
  refine⟨_,(ko (qht (qxp T) hr (vg (k6 hu za kr) (vg (k6 hu za kr) (zf (k6 hu za kr) (k6 hu za kr)))))),?_⟩
  walk_at "in"
  refine ku hg h1 ?_
  walk_at ""
  refine ku hg h2 ?_
  walk_at ""
  refine ku hg h3 ?_
  walk_at ""
  refine ku hg h4 ?_
  walk_at ""
  intro p dx hp hdx hne
  refine⟨p,dx,y,rfl,hf,by omega,zc,rfl,?_⟩
  rw[qbc]
  refine q _ p dx ?_ hp zc
  exact Qz.upd (Qz.upd (Qz.refl H) hdx) hp
theorem q8t{s:Sta}{k z y t d:Nat}{f v:Int}{p:Nat}{r:Int}: Vbemai.step s (.install k z y t d f v p r)=if qhi s k z y t d v p=0 then ({ s with meters:=s.meters++[{ kind:=k,zone:=z,zone2:=y,profile:=p,rate:=r,devices:=[{ start:=t,value:=v,digits:=d,factor:=f }] }] },[0,((s.meters.length+1:Nat):Int)]) else (s,[qhi s k z y t d v p]):=by
 unfold Vbemai.step qhi
 have c2:Vbemai.METERS=32:=rfl
 simp only[Vbemai.does,c2]
 by_cases h1:(k=2/\z=y)\/(k≠2/\y≠0)
 ·rw[Je h1,Je h1,Jc (by decide)]
 rw[Jc h1,Jc h1]
 by_cases h2:s.profiles.length<p
 ·rw[Je h2,Je h2,Jc (by decide)]
 rw[Jc h2,Jc h2]
 by_cases h3:t<s.locked
 ·rw[Je h3,Je h3,Jc (by decide)]
 rw[Jc h3,Jc h3]
 by_cases h4:Vbemai.shows d v=false
 ·rw[Je h4,Je h4,Jc (by decide)]
 rw[Jc h4,Jc h4]
 by_cases h5:32<=s.meters.length
 ·rw[Je h5,Je h5,Jc (by decide)]
 rw[Jc h5,Jc h5,Je rfl];rfl
theorem q05(T:Txt P w K mg A): Fn P w K mg base 5 "install_meter" ["book","given"] (qa4 A gq1):=by
 refine T.qyy.go qna (fun _ _ _ _ h=>?_) (fun _ _ _ _ _ H _ Q _ hr h=>?_)
 ·obtain⟨st,b,g,c,rfl,_⟩:=h;rfl
 ·obtain⟨st,b,g,c,rfl,B,hga,⟨k,z,y,t,d,ff,v,p,r,rfl,hg,hok,hp8⟩,q⟩:=h
  have hu:=yb hr
  have hml:=B.good.ml
  have hgs:=QM.qeb B.good hok
  rw[q8t] at q hgs
  refine⟨_,(zb (k7 2 qna.nd (zj (q06 T) hr (zf za zd))) (zb (vf (vc qde ze (zq T.ya)) (vo (zo ze))) (zb (k7 3 qna.nd (qht (qxq T) hr (vg (k6 hu zd kr) (vg (k6 hu zd kr) (vg (k6 hu zd kr) (vg (k6 hu zd kr) (zf (k6 hu zd kr) (zj (qpi T) hr (zo zd))))))))) (zb (qbn (qbx Xe Xv Xw qc3 (zk K za) (zo k9))) (ko (vo (zf (zq T.ya) (x_len T.qaw (zk K za))))))))),?_⟩
  walk_at "in"
  refine⟨st,b,g,k,z,y,t,d,ff,v,p,r,rfl,B,hg,hok.2.2.2.2.2.1,?_⟩
  walk_at ""
  refine ifN (fun c=>?_) (fun c=>?_)
  ·rw[Jc c] at q
   walk_at ""
   intro l hl
   exact q _ b l (Vj.of_same B (Qz.new hl)) hl zc
  rw[Je c] at q hgs
  walk_at ""
  refine ku hg (v:=.int (k:Int)) rfl ?_
  walk_at ""
  refine ku hg (v:=.int (z:Int)) rfl ?_
  walk_at ""
  refine ku hg (v:=.int (y:Int)) rfl ?_
  walk_at ""
  refine ku hg (v:=.int (p:Int)) rfl ?_
  walk_at ""
  refine ku hg (v:=.int r) rfl ?_
  walk_at ""
  generalize hyd:({ start:=t,value:=v,digits:=d,factor:=ff }:Dev)=yd at *
  refine⟨g,_,yd,rfl,hg,by rw[<- hyd],by rw[<- hyd];exact hok.2.2.2.2.2.1,by rw[<- hyd];rfl,by rw[<- hyd];rfl,by rw[<- hyd];rfl,by rw[<- hyd];rfl,fun H1 da ddx s1 hda hd1=>?_⟩
  walk_at ""
  intro mx mdx hmx hmdx hmm
  generalize hx:({ kind:=k,zone:=z,zone2:=y,profile:=p,rate:=r,devices:=[yd] }:Met)=xx at *
  refine⟨mx,mdx,da,xx,by rw[<- hx],zc,fun H2 aD aR aT b2 gD gR gT nDR nDT nRT hmx2 hD2 hR2 hT2=>⟨rfl,?_⟩⟩
  have S2:Qz H1 H2:=fun a o h=>b2 a o (k8 h hmx) (by rw[qc (k8 h hmx),qc (k8 h hmdx)];exact h)
  have fresh:∀ {a:Addr},upd (upd H1 mdx (.own mx)) mx (.ins A.CM mdx []) a=none->a≠mx/\H1 a=none:=fun {a} h=>by
   have n1:a≠mx:=by intro e;subst e;rw[zc] at h;cases h
   rw[qc n1] at h
   have n2:a≠mdx:=by intro e;subst e;rw[zc] at h;cases h
   rw[qc n2] at h
   exact⟨n1,h⟩
  obtain⟨nD1,gD⟩:=fresh gD
  obtain⟨nR1,gR⟩:=fresh gR
  obtain⟨nT1,gT⟩:=fresh gT
  have ndx:da≠mx:=k8 hd1 hmx
  have ndD:da≠aD:=k8 hd1 gD
  have ndR:da≠aR:=k8 hd1 gR
  have ndT:da≠aT:=k8 hd1 gT
  have S02:=s1.trans S2
  walk_at ""
  have B2:=B.same S02
  refine qfi B2.o T.clB T.qi9 rfl ?_
  walk_at ""
  refine qco B2.oM (qar (by rw[Jd,B.lm];omega)) ?_
  have hbM:b.a≠b.aM:=qah B.o B.oM (by intro z;cases z)
  have qc1:∀ {a:Addr},H1 a=none->H a=none:=fun h=>s1.free h
  have nM:∀ {a:Addr},H a=none->b.aM≠a:=fun h=>k8 B.oM h
  have K1:Vj A H st b (upd H2 b.aM (.lst ((b.ms.map fun m=>.ref m.a)++[.ref mx]))) { st with meters:=st.meters++[xx] } { b with ms:=b.ms++[⟨mx,mdx,aD,aR,aT,[⟨da,ddx⟩],[],[]⟩] }:=by
   have eN:qap A xx ⟨mx,mdx,aD,aR,aT,[⟨da,ddx⟩],[],[]⟩=[(mx,.ins A.CM mdx (qdc xx ⟨mx,mdx,aD,aR,aT,[⟨da,ddx⟩],[],[]⟩)),(aD,.lst [.ref da]),(aR,.dK []),(aT,.dK []),(da,.ins A.CD ddx (qax yd))]:=by
    rw[<- hx];rfl
   refine qf7 B (c0:=bC A st b) (c0':=bC A st b) (N:=[mC b]) (N':=mC { b with ms:=b.ms++[⟨mx,mdx,aD,aR,aT,[⟨da,ddx⟩],[],[]⟩] }::qap A xx ⟨mx,mdx,aD,aR,aT,[⟨da,ddx⟩],[],[]⟩) (R:=pC b::qC st b::(qbe A st b++(qbd A st b++nets st b))) ?_ ?_ rfl ?_ ?_ ?_ ?_ ?_ hgs rfl B.lp ?_ B.lq ?_ (Qae.of_same S02).upd
   ·rw[qdo]
    refine List.Perm.cons _ ?_
    exact List.Perm.swap ..
   ·have e1:qbd A { st with meters:=st.meters++[xx] } { b with ms:=b.ms++[⟨mx,mdx,aD,aR,aT,[⟨da,ddx⟩],[],[]⟩] }=qbd A st b++qap A xx ⟨mx,mdx,aD,aR,aT,[⟨da,ddx⟩],[],[]⟩:=by
     unfold qbd
     show (List.zipWith (qap A) (st.meters++[xx]) (b.ms++[_])).flatten=_
     rw[Yi B.lm.symm,Wo];simp
    rw[qdo,e1]
    classical
    refine List.Perm.cons _ ?_
    refine Xc.mpr fun a=>?_
    show List.count a (pC b::mC { b with ms:=b.ms++[⟨mx,mdx,aD,aR,aT,[⟨da,ddx⟩],[],[]⟩] }::qC st b::(qbe A st b++((qbd A st b++qap A xx ⟨mx,mdx,aD,aR,aT,[⟨da,ddx⟩],[],[]⟩)++nets st b)))=_
    simp only[Xs,Xz]
    omega
   ·show upd H2 b.aM _ b.a=_
    rw[qc hbM];exact S02 _ _ B.o
   ·rw[eN]
    intro c hc
    simp only[Jf,Xa,Y0] at hc
    rcases hc with rfl|rfl|rfl|rfl|rfl|rfl
    ·show upd H2 b.aM _ b.aM=_
     rw[zc];unfold mC;simp
    ·show upd H2 b.aM _ mx=_
     rw[qc (nM (qc1 hmx)).symm];exact hmx2
    ·show upd H2 b.aM _ aD=_
     rw[qc (nM (qc1 gD)).symm];exact hD2
    ·show upd H2 b.aM _ aR=_
     rw[qc (nM (qc1 gR)).symm];exact hR2
    ·show upd H2 b.aM _ aT=_
     rw[qc (nM (qc1 gT)).symm];exact hT2
    ·show upd H2 b.aM _ da=_
     rw[qc (nM hda).symm];exact S2 _ _ hd1
   ·rw[eN]
    show [b.aM,mx,aD,aR,aT,da].Nodup
    simp only[Xf,Jf,Xa,Y0,not_or,Yb,Qx,Zj]
    exact⟨⟨nM (qc1 hmx),nM (qc1 gD),nM (qc1 gR),nM (qc1 gT),nM hda⟩,⟨nD1.symm,nR1.symm,nT1.symm,ndx.symm⟩,⟨nDR,nDT,ndD.symm⟩,⟨nRT,ndR.symm⟩,ndT.symm⟩
   ·rw[eN]
    intro a ha
    have ha:a∈[b.aM,mx,aD,aR,aT,da]:=ha
    simp only[Jf,Xa,Y0] at ha
    rcases ha with rfl|rfl|rfl|rfl|rfl|rfl
    ·exact .inl (Jh ..)
    ·exact .inr (qc1 hmx)
    ·exact .inr (qc1 gD)
    ·exact .inr (qc1 gR)
    ·exact .inr (qc1 gT)
    ·exact .inr hda
   ·intro a o h1 h2 h3
    have h2:a≠b.aM:=fun z=>h2 (by rw[z];exact Jh ..)
    rw[qc h2];exact S02 _ _ h3
   ·show (b.ms++[_]).length=(st.meters++[xx]).length
    rw[Jx,Jx,B.lm];rfl
   ·intro j y' n h1 h2
    have h1:(st.meters++[xx])[j]?=some y':=h1
    have h2:(b.ms++[_])[j]?=some n:=h2
    rw[List.getElem?_append] at h1 h2
    by_cases hj:j<st.meters.length
    ·rw[Je hj] at h1
     rw[Je (by rw[B.lm];exact hj)] at h2
     obtain⟨r1,r2,r3⟩:=B.mr j y' n h1 h2
     exact⟨r1,r2,r3⟩
    ·rw[Jc hj] at h1
     rw[Jc (by rw[B.lm];exact hj),B.lm] at h2
     cases hz:j-st.meters.length with
     |succ jj=>rw[hz] at h1;simp at h1
     | zero=>
       rw[hz] at h1 h2
       cases h1;cases h2
       have hj2:j=st.meters.length:=by omega
       have hro:Vbemai.readingsOf st (j+1)=[]:=by
        unfold Vbemai.readingsOf
        rw[Zo]
        intro rr hrr hm
        have hm:rr.meter=j+1:=by simpa using hm
        obtain⟨x0,hx0,_⟩:=(B.good.ro rr hrr).dev
        have:=(Ji.mp hx0).1
        omega
       have hto:QM.toldOf st (j+1)=[]:=by
        unfold QM.toldOf
        rw[List.map_eq_nil_iff,Zo]
        intro aa haa hm
        have hm:aa.meter=j+1:=by simpa using hm
        have:=(B.good.ao aa haa).m2
        omega
       refine⟨?_,?_,?_⟩
       ·rw[<- hx];rfl
       ·show QM.Qcu [] (Vbemai.readingsOf st (j+1))
        rw[hro]
        exact⟨Yb,(fun _ h=>nomatch h),fun t=>Z4 _⟩
       ·show List.Perm [] (QM.toldOf st (j+1))
        rw[hto]
  have B1:=K1.bat
  generalize upd H2 b.aM (.lst ((b.ms.map fun m=>.ref m.a)++[.ref mx]))=H3 at *
  walk_at ""
  refine qfi B1.o T.clB T.qi9 rfl ?_
  walk_at ""
  refine qau (qbh (SqL.of B1.oM)) ?_
  rw[Jd,B1.lm]
  walk_at ""
  intro l hl
  refine q _ _ l (K1.same (Qz.new hl)) (K1.lv.free hl) ?_
  rw[zc]
  show some (HO.lst [V.int 0,V.int (((st.meters++[xx]).length:Nat):Int)])=_
  rw[Jx];rfl
theorem qmf{H:Hp}{s:Sta}{b:Vh}(B:BAt A H s b){k:Nat}{x:Met}{m:Ve}(M:MAt A H s k x m): b.a≠m.a:=qah B.o M.o (by
 intro z
 injection z with _ _ z
 have:=Ym List.length z
 simp[qa5,qdc] at this)
theorem q80{s:Sta}{i:Nat}{x:Met}(h:s.meters[i]?=some x)(r:Int): Vbemai.step s (.rate (i+1) r)=({ s with meters:=s.meters.set i { x with rate:=r } },[0]):=by
 unfold Vbemai.step
 simp only[Vbemai.does,QM.meter?_at h]
 show (Vbemai.changed s (i+1) _,[0])=_
 unfold Vbemai.changed
 rw[Za,qjz _ h]
theorem q1j(T:Txt P w K mg A): Fn P w K mg base 2 "set_rate" ["book","given"] (qa4 A gq5):=by
 refine T.qzp.go qui (fun _ _ _ _ h=>?_) (fun _ _ _ _ _ H _ Q _ hr h=>?_)
 ·obtain⟨st,b,g,c,rfl,_⟩:=h;rfl
 ·obtain⟨st,b,g,c,rfl,B,hga,⟨i,r,x,rfl,hg,hok,hx⟩,q⟩:=h
  obtain⟨m,hm⟩:=B.qeg hx
  have M:=B.met hx hm
  have hu:=yb hr
  have hgs:=QM.qeb B.good hok
  rw[q80 hx] at q hgs
  refine⟨_,(zb (k7 2 qui.nd (zj (qd9 T) hr (zf za zd))) (zb (yf ze (k6 hu zd kr) rfl) (ko (vo (zo (zq T.ya)))))),?_⟩
  walk_at "in"
  refine⟨st,b,g,i,x,m,rfl,B,⟨_,hg,rfl⟩,hx,hm,?_⟩
  walk_at ""
  refine ku hg (v:=.int r) rfl ?_
  walk_at ""
  intro l hl
  have hba:=qmf B M
  have K1:Vj A H st b (upd H m.a (.ins A.CM m.dx (qdc { x with rate:=r } m))) { st with meters:=st.meters.set i { x with rate:=r } } { b with ms:=b.ms.set i m }:=by
   refine qf6 B hx hm rfl rfl rfl rfl (N:=[xC A x m]) (N':=[xC A { x with rate:=r } m]) (R:=dC m::rC m::tC' m::(dis A x m++vrs m)) (Z4 _) (Z4 _) ?_ ?_ ?_ ?_ ?_ hgs ?_ ?_ (Qae.of_same (Qz.refl H)).upd
   ·rw[qc hba];exact B.o
   ·intro c hc
    obtain rfl:=J3.mp hc
    exact zc
   ·exact Xf.mpr ⟨Xa,Yb⟩
   ·exact fun a ha=>.inl ha
   ·intro a o h1 h2 h3
    have h2:a≠m.a:=fun z=>h2 (by rw[z];exact Jh ..)
    rw[qc h2];exact h3
   ·obtain⟨r1,r2,r3⟩:=M.rel
    exact⟨r1,r2,r3⟩
   ·rintro j y n _ ⟨r1,r2,r3⟩
    exact⟨r1,r2,r3⟩
  exact q _ _ l (K1.same (Qz.new hl)) (K1.lv.free hl) zc
theorem q1a(T:Txt P w K mg A): Fn P w K mg base 6 "move_lock" ["book","given"] (qa4 A gq7):=by
 refine T.qy9.go qug (fun _ _ _ _ h=>?_) (fun _ _ _ _ _ H _ Q _ hr h=>?_)
 ·obtain⟨st,b,g,c,rfl,_⟩:=h;rfl
 ·obtain⟨st,b,g,c,rfl,B,hga,⟨t,rfl,hg,hok⟩,q⟩:=h
  have hu:=yb hr
  have hgs:=QM.qeb B.good hok
  have e:Vbemai.step st (.lock t)=if t<=st.locked then (st,[-5]) else if (Vbemai.unread st t).isEmpty=false then (st,[-10]) else ({ st with locked:=t },[0]):=by
   unfold Vbemai.step
   simp only[Vbemai.does]
   by_cases h1:t<=st.locked
   ·rw[Je h1,Je h1]
   ·rw[Jc h1,Jc h1]
    by_cases h2:(Vbemai.unread st t).isEmpty=false
    ·rw[Je h2,Je h2]
    ·rw[Jc h2,Jc h2]
  rw[e] at q hgs
  refine⟨_,(zb (k7 2 qug.nd (k6 hu zd kr)) (zb (vf (vc qdd ze (zk K za)) (vo (zo (zq T.qha)))) (zb (vf (vc qjb (x_len T.qaw (zj (qpl T) hr (zf za ze))) ki) (vo (zo (zq T.qw8)))) (zb (yf za ze rfl) (ko (vo (zo (zq T.ya)))))))),?_⟩
  walk_at "in"
  refine ku hg (v:=.int (t:Int)) rfl ?_
  walk_at ""
  refine ifD (fun c=>?_) (fun c=>?_)
  ·rw[Je (by omega)] at q
   walk_at ""
   intro l hl
   exact q _ b l (Vj.of_same B (Qz.new hl)) hl zc
  rw[Jc (by omega)] at q hgs
  walk_at ""
  refine⟨st,b,t,rfl,B,fun H1 l1 s1 hl1 qf3=>?_⟩
  walk_at ""
  refine qau (qbh (SqL.of qf3)) ?_
  rw[qcc]
  walk_at ""
  refine ifD (fun c=>?_) (fun c=>?_)
  ·have h2:(Vbemai.unread st t).isEmpty=false:=by
    cases hu2:Vbemai.unread st t with
    |nil=>rw[hu2] at c;exact absurd c (by decide)
    |cons a r=>rfl
   rw[Je h2] at q
   walk_at ""
   intro l hl
   exact q _ b l (Vj.of_same B (s1.trans (Qz.new hl))) (s1.free hl) zc
  have h2:¬ (Vbemai.unread st t).isEmpty=false:=by
   cases hu2:Vbemai.unread st t with
   |nil=>exact fun z=>nomatch z
   |cons a r=>rw[hu2] at c;simp only[Jz] at c;omega
  rw[Jc h2] at q hgs
  have B1:=B.same s1
  walk_at ""
  intro l hl
  have K1:Vj A H st b (upd H1 b.a (.ins A.CB b.dx (qa5 { st with locked:=t } b))) { st with locked:=t } b:=by
   refine q2s B rfl rfl rfl rfl rfl zc (fun a o h1 h2=>?_) hgs (Qae.of_same s1).upd
   rw[qc h1];exact s1 _ _ h2
  exact q _ b l (K1.same (Qz.new hl)) (K1.lv.free hl) zc
def qbp(s:Sta)(x:Met)(k t n:Nat)(v:Int): Int:=if t<=s.locked then -5 else match x.devices.find? (Vbemai.within t) with
 |none=>-6
 |some d=>if Vbemai.shows d.digits v=false then -7 else if s.readings.any (fun r=>r.meter==k&&(r.at_==t&&r.version==n))=true then -8 else if 256<=s.readings.length then -4 else 0
def q74(A:Ads): Sp:=fun vs H Q _=>∃ (s:Sta) (b:Vh) (g:Addr) (i t n:Nat) (v:Int) (x:Met) (m:Ve),vs=[.ref b.a,.ref m.a,.ref g]/\BAt A H s b/\s.meters[i]?=some x/\b.ms[i]?=some m/\GV H g 2 [((i+1:Nat):Int),t,n,v]/\∀ H',Qz H H'->Q (.int (qbp s x (i+1) t n v)) H'
theorem lookup_isSome{β:Type}(n:Nat): ∀ l:List (Nat×β),(l.lookup n).isSome=decide (n∈l.map (·.1))
 |[]=>by simp
 | e::l=>by
   rw[X0]
   by_cases h:n=e.1
   ·subst h;simp
   ·have:(n==e.1)=false:=by simpa using h
    rw[this,Jq]
    show (List.lookup n l).isSome=_
    rw[lookup_isSome n l]
    exact Yt.mpr (by simp[h])
theorem qvm{H:Hp}{s:Sta}{k:Nat}{x:Met}{m:Ve}(M:MAt A H s k x m)(t n:Nat){p:Addr}(hp:H p=some (.dK [])): ∃ (d:Addr) (vs:List (Nat×Int)),(kj (rdK m.rd) (Sum.inl (t:Int))).getD (.ref p) = .ref d/\H d=some (.dK (vsK vs))/\(kj (vsK vs) (Sum.inl (n:Int))).isSome=s.readings.any (fun r=>r.meter==k&&(r.at_==t&&r.version==n)):=by
 have key:∀ vs,QM.qao (m.rd.map fun e=>(e.t,e.vs)) t=vs->(kj (vsK vs) (Sum.inl (n:Int))).isSome=s.readings.any (fun r=>r.meter==k&&(r.at_==t&&r.version==n)):=fun vs e=>by
  rw[QM.qv4,qnx,Wf,lookup_isSome]
  have hR:=(M.rel.rd.rel t).map (·.1)
  rw[e,Xy] at hR
  exact Yt.mpr hR.mem_iff
 rcases qgn t m.rd with ⟨e,he,rfl,hv,hl⟩|⟨hv,hl,hn⟩
 ·exact⟨e.a,e.vs,by rw[hv];rfl,M.qgd he,key _ (by unfold QM.qao;rw[hl];rfl)⟩
 ·exact⟨p,[],by rw[hv];rfl,hp,key _ (by unfold QM.qao;rw[hl];rfl)⟩
theorem q1f(T:Txt P w K mg A): Fn P w K mg base 2 "read_refusal" ["book","meter","given"] (q74 A):=by
 refine T.qzj.go qnb (fun _ _ _ _ h=>?_) (fun _ _ _ _ _ H _ Q _ hr h=>?_)
 ·obtain⟨st,b,g,i,t,n,v,x,m,rfl,_⟩:=h;rfl
 ·obtain⟨st,b,g,i,t,n,v,x,m,rfl,B,hx,hm,hg,q⟩:=h
  have hu:=yb hr
  have M:=B.met hx hm
  have hrl:=B.good.rl
  unfold qbp at q
  refine⟨_,(zb (k7 3 qnb.nd (k6 hu ze kr)) (zb (vf (vc qdd k9 (zk K za)) (zq T.qha)) (zb (k7 4 qnb.nd (zj (q1g T) hr (zf zd k9))) (zb (vf (vc qjc qaj qdh) (zq T.qom)) (zb (vf (vc qdu (k6 hu ze kr) (zk K qaj)) (zq T.qio)) (zb (vf (qgk (qje hu (k6 hu ze kr) (qjf hu (zk K zd) k9 qge ⟨rfl,rfl,rfl,rfl⟩))) (zq T.qw5)) (zb (vf (vc qay (zk K za) (zq T.qwx)) (zq T.qfx)) (ko (zq T.ya))))))))),?_⟩
  walk_at "in"
  refine ku hg (v:=.int (t:Int)) rfl ?_
  walk_at ""
  refine ifD (fun c=>?_) (fun c=>?_)
  ·rw[Je (by omega)] at q
   walk_at ""
   exact q H (Qz.refl H)
  rw[Jc (by omega)] at q
  walk_at ""
  refine⟨st,i+1,x,m,t,rfl,M,fun hn=>?_,fun j y d hy hj hd=>?_⟩
  ·rw[hn] at q
   walk_at ""
   refine⟨rfl,?_⟩
   walk_at ""
   refine qag ?_
   walk_at ""
   exact q H (Qz.refl H)
  have hod:=M.qho hd hj
  have q:∀ H',Qz H H'->Q (.int (if Vbemai.shows y.digits v=false then -7 else if st.readings.any (fun r=>r.meter==i+1&&(r.at_==t&&r.version==n))=true then -8 else if 256<=st.readings.length then -4 else 0)) H':=by
   rw[hy] at q;exact q
  walk_at ""
  refine⟨rfl,?_⟩
  walk_at ""
  refine qam ?_
  walk_at ""
  refine ku hg (v:=.int v) rfl ?_
  walk_at ""
  refine ifD (fun c=>?_) (fun c=>?_)
  ·rw[Je (by unfold Vbemai.shows;exact J7 (by omega))] at q
   walk_at ""
   exact q H (Qz.refl H)
  rw[Jc (by unfold Vbemai.shows;rw[Xm (by omega)];exact fun z=>nomatch z)] at q
  walk_at ""
  refine ku hg (v:=.int (n:Int)) rfl ?_
  walk_at ""
  refine qf4 fun p hp=>?_
  have s1:=Qz.new (o:=.dK []) hp
  have B1:=B.same s1
  have M1:=M.same s1
  obtain⟨dv,vs,e1,e2,e3⟩:=qvm M1 t n zc
  refine r_d2I M1.oR ?_
  rw[e1]
  generalize upd H p (.dK [])=H1 at *
  walk_at ""
  refine r_diI e2 ?_
  rw[e3]
  walk_at ""
  refine ifB (fun c=>?_) (fun c=>?_)
  ·rw[Je c] at q
   walk_at ""
   exact q _ s1
  rw[Jc (by rw[c];exact Jr)] at q
  walk_at ""
  refine ifD (fun c=>?_) (fun c=>?_)
  ·rw[Je (by omega)] at q
   walk_at ""
   exact q _ s1
  rw[Jc (by omega)] at q
  walk_at ""
  exact q _ s1
theorem q81{s:Sta}{i t n:Nat}{v:Int}{x:Met}(h:s.meters[i]?=some x): Vbemai.step s (.read (i+1) t n v)=if qbp s x (i+1) t n v=0 then ({ s with readings:=Vbemai.putReading ⟨i+1,t,n,v⟩ s.readings },[0]) else (s,[qbp s x (i+1) t n v]):=by
 unfold Vbemai.step
 have c2:Vbemai.READINGS=256:=rfl
 simp only[Vbemai.does,QM.meter?_at h,c2]
 by_cases h1:t<=s.locked
 ·have e:qbp s x (i+1) t n v = -5:=by unfold qbp;exact Je h1
  rw[e,Je h1];rfl
 rw[Jc h1]
 cases hf:x.devices.find? (Vbemai.within t) with
 | none=>
   have e:qbp s x (i+1) t n v = -6:=by unfold qbp;rw[Jc h1,hf]
   rw[e];rfl
 | some d=>
   dsimp only
   by_cases h2:Vbemai.shows d.digits v=false
   ·have e:qbp s x (i+1) t n v = -7:=by unfold qbp;rw[Jc h1,hf];exact Je h2
    rw[e,Je h2];rfl
   rw[Jc h2]
   by_cases h3:s.readings.any (fun r=>r.meter==i+1&&(r.at_==t&&r.version==n))=true
   ·have e:qbp s x (i+1) t n v = -8:=by unfold qbp;rw[Jc h1,hf];exact(Jc h2).trans (Je h3)
    rw[e,Je h3];rfl
   rw[Jc h3]
   by_cases h4:256<=s.readings.length
   ·have e:qbp s x (i+1) t n v = -4:=by unfold qbp;rw[Jc h1,hf];exact(Jc h2).trans ((Jc h3).trans (Je h4))
    rw[e,Je h4];rfl
   have e:qbp s x (i+1) t n v=0:=by unfold qbp;rw[Jc h1,hf];exact(Jc h2).trans ((Jc h3).trans (Jc h4))
   rw[e,Jc h4,Je rfl]
theorem q5n{s:Sta}{i t n:Nat}{v:Int}{x:Met}(h:qbp s x (i+1) t n v=0): s.readings.any (fun r=>r.meter==i+1&&(r.at_==t&&r.version==n))=false/\s.readings.length<256:=by
 unfold qbp at h
 split at h
 ·cases h
 ·split at h
  ·cases h
  ·split at h
   ·cases h
   ·split at h
    ·cases h
    ·split at h
     ·cases h
     ·rename_i h3 h4
      refine⟨?_,by omega⟩
      cases e:s.readings.any (fun r=>r.meter==i+1&&(r.at_==t&&r.version==n)) with
      |true=>exact absurd e h3
      |false=>rfl
def rDS(ty tx:TE)(σ:St)(Q:VK)(x:V)(H1:Hp): Prop:=∃ a,x = .ref a/\IsD H1 a/\ty σ H1 fun y H2=>tx σ H2 fun z H3=>∃ kvs k,H3 a=some (.dK kvs)/\kvs.length<sizeLine/\y=kV k/\(∀ v,kj kvs k=some v->Q v H3)/\(kj kvs k=none->Q z (upd H3 a (.dK (putK kvs k z))))
def rDSb(a:Addr)(y z:V)(H3:Hp)(Q:VK): Prop:=∃ kvs k,H3 a=some (.dK kvs)/\kvs.length<sizeLine/\y=kV k/\(∀ v,kj kvs k=some v->Q v H3)/\(kj kvs k=none->Q z (upd H3 a (.dK (putK kvs k z))))
theorem q2g{td ty tx:TE}{σ:St}{H:Hp}{Q:VK}(h:td σ H fun x H1=>rDS ty tx σ Q x H1): qu9 td ty tx σ H Q:=h
theorem r_ds{ty tx:TE}{σ:St}{H:Hp}{Q:VK}{a:Addr}{kvs:List (Key×V)}(e:H a=some (.dK kvs))(h:ty σ H fun y H2=>tx σ H2 fun z H3=>rDSb a y z H3 Q): rDS ty tx σ Q (.ref a) H:=⟨a,rfl,.inl ⟨kvs,.inl e⟩,h⟩
theorem qvq{vs:List (Nat×Int)}{n:Nat}{v:Int}(h:(kj (vsK vs) (Sum.inl (n:Int))).isSome=false): putK (vsK vs) (Sum.inl (n:Int)) (.int v)=vsK (vs++[(n,v)]):=by
 unfold putK
 rw[qg1,h,Jc Jr]
 unfold vsK;rw[Jv];rfl
theorem rd_put{rd:List Qcv}{t:Nat}{p:Addr}{vs:List (Nat×Int)}(h:kj (rdK rd) (Sum.inl (t:Int))=none): putK (rdK rd) (Sum.inl (t:Int)) (.ref p)=rdK (rd++[⟨t,p,vs⟩]):=by
 unfold putK
 rw[qg1,h,Jc (by exact Jr)]
 unfold rdK;rw[Jv];rfl
theorem q5j(x:Vbemai.Reading)(l:List Vbemai.Reading): (Vbemai.putReading x l).length=l.length+1:=(QM.qhw x l).length_eq
theorem qqy{s:Sta}{i t n j:Nat}{v:Int}{y:Met}{m:Ve}(hj:j≠i)(h:Qct s (j+1) y m): Qct { s with readings:=Vbemai.putReading ⟨i+1,t,n,v⟩ s.readings } (j+1) y m:=by
 obtain⟨r1,r2,r3⟩:=h
 refine⟨r1,?_,r3⟩
 unfold Vbemai.readingsOf
 rw[QM.qr1 _ (by show i+1≠j+1;omega)]
 exact r2
theorem q1e(T:Txt P w K mg A): Fn P w K mg base 3 "read_meter" ["book","given"] (qa4 A gq2):=by
 refine T.qzi.go qjv (fun _ _ _ _ h=>?_) (fun _ _ _ _ _ H _ Q _ hr h=>?_)
 ·obtain⟨st,b,g,c,rfl,_⟩:=h;rfl
 ·obtain⟨st,b,g,c,rfl,B,hga,⟨i,t,n,v,x,rfl,hg,hok,hx⟩,q⟩:=h
  obtain⟨m,hm⟩:=B.qeg hx
  have M:=B.met hx hm
  have hu:=yb hr
  have hgs:=QM.qeb B.good hok
  rw[q81 hx] at q hgs
  refine⟨_,(zb (k7 2 qjv.nd (zj (qd9 T) hr (zf za zd))) (zb (k7 3 qjv.nd (zj (q1f T) hr (vg za (zf ze zd)))) (zb (vf (vc qde k9 (zq T.ya)) (vo (zo k9))) (zb (k7 4 qjv.nd (q4x (zk K ze) (k6 hu zd kr) qge ⟨rfl,rfl,rfl,rfl⟩)) (zb (qmu hu qaj (k6 hu zd kr) (k6 hu zd kr) rfl) (zb (yf za (vm qbs (zk K za) ki) rfl) (ko (vo (zo (zq T.ya)))))))))),?_⟩
  walk_at "in"
  refine⟨st,b,g,i,x,m,rfl,B,⟨_,hg,rfl⟩,hx,hm,?_⟩
  walk_at ""
  refine⟨st,b,g,i,t,n,v,x,m,rfl,B,hx,hm,hg,fun H1 s1=>?_⟩
  walk_at ""
  refine ifN (fun c=>?_) (fun c=>?_)
  ·rw[Jc c] at q
   walk_at ""
   intro l hl
   exact q _ b l (Vj.of_same B (s1.trans (Qz.new hl))) (s1.free hl) zc
  rw[Je c] at q hgs
  obtain⟨hnv,hlt⟩:=q5n c
  have hg1:=hg.same s1
  have M1:=M.same s1
  walk_at ""
  refine q2g ?_
  walk_at ""
  refine r_ds M1.oR ?_
  walk_at ""
  refine ku hg1 (v:=.int (t:Int)) rfl ?_
  walk_at ""
  refine qf4 fun p hp=>?_
  have s2:=Qz.new (o:=.dK []) hp
  have S2:=s1.trans s2
  have hp0:=s1.free hp
  have B2:=B.same S2
  have M2:=M.same S2
  have hg2:=hg.same S2
  have hpp:upd H1 p (.dK []) p=some (.dK []):=zc
  obtain⟨dv,vs,e1,e2,e3⟩:=qvm M2 t n hpp
  rw[hnv] at e3
  have hput:=qvq (v:=v) e3
  have hba:=qmf B M
  have hcnt:((st.readings.length:Int)+1)=((Vbemai.putReading ⟨i+1,t,n,v⟩ st.readings).length:Int):=by rw[q5j];rfl
  generalize upd H1 p (.dK [])=H2 at *
  have hrl:=qh0 M.good M.rel
  have hsx:st.meters=st.meters.set i x:=by
   have hi:=(Ji.mp hx).1
   have e:=(Ji.mp hx).2
   rw[<- e,Qo]
  have hRp:=QM.q5o (s:=st) (m:=i+1) (t:=t) (n:=n) (v:=v) M.rel.rd
  refine⟨rdK m.rd,Sum.inl (t:Int),M2.oR,small 10001 (by unfold rdK;rw[Jd];exact hrl),rfl,fun v0 hv0=>?_,fun hv0=>?_⟩
  ·rw[hv0] at e1
   obtain rfl:v0 = .ref dv:=e1
   have hfound:∃ e∈m.rd,e.t=t/\kj (rdK m.rd) (Sum.inl (t:Int))=some (.ref e.a):=by
    rcases qgn t m.rd with ⟨e,he,het,hv1,hl1⟩|⟨hv1,_,_⟩
    ·exact⟨e,he,het,hv1⟩
    ·rw[hv1] at hv0;cases hv0
   obtain⟨e,he,het,hv1⟩:=hfound
   rw[hv1] at hv0
   obtain rfl:e.a=dv:=V.ref.inj (Jj hv0)
   have hev:=M2.qgd he
   rw[hev] at e2
   have hvs:vsK e.vs=vsK vs:=HO.dK.inj (Jj e2)
   obtain⟨k1,hk1⟩:=Zw he
   obtain⟨r1,r2,er,_⟩:=qnk hk1
   have hnd:=M.rel.rd.nd
   have hbe:b.a≠e.a:=qah B2.o hev (by intro z;cases z)
   have hvl:=vs_len M.good M.rel he
   have e2':H2 e.a=some (.dK (vsK e.vs)):=hev
   rw[<- hvs] at e3
   have hput:=qvq (v:=v) e3
   walk_at ""
   refine ku hg2 (v:=.int v) rfl ?_
   walk_at ""
   refine ku hg2 (v:=.int (n:Int)) rfl ?_
   walk_at ""
   refine qjj hev (qar (by unfold vsK;rw[Jd];omega)) ?_
   rw[hput]
   have o3:upd H2 e.a (.dK (vsK (e.vs++[(n,v)]))) b.a=some (.ins A.CB b.dx (qa5 st b)):=by rw[qc hbe];exact B2.o
   walk_at ""
   intro l hl
   have K1:Vj A H st b (upd (upd H2 e.a (.dK (vsK (e.vs++[(n,v)])))) b.a (.ins A.CB b.dx (qa5 { st with readings:=Vbemai.putReading ⟨i+1,t,n,v⟩ st.readings } b))) { st with readings:=Vbemai.putReading ⟨i+1,t,n,v⟩ st.readings } { b with ms:=b.ms.set i { m with rd:=r1++⟨e.t,e.a,e.vs++[(n,v)]⟩::r2 } }:=by
    refine qf6 B hx hm hsx rfl rfl rfl (N:=[qbk e]) (N':=[qbk ⟨e.t,e.a,e.vs++[(n,v)]⟩]) (R:=xC A x m::dC m::rC m::tC' m::(dis A x m++(r1.map qbk++r2.map qbk))) ?_ ?_ zc ?_ ?_ ?_ ?_ hgs ?_ (fun j y' n' hj hr=>qqy hj hr) ((Qae.of_same S2).upd).upd
    ·rw[qdt]
     have e5:vrs m=r1.map qbk++qbk e::r2.map qbk:=by unfold vrs;rw[er,Jv,Jq]
     rw[e5]
     classical
     refine Xc.mpr fun a=>?_
     simp only[Xs,Xz,Yh]
     omega
    ·rw[qdt]
     have e5:vrs { m with rd:=r1++⟨e.t,e.a,e.vs++[(n,v)]⟩::r2 }=r1.map qbk++qbk ⟨e.t,e.a,e.vs++[(n,v)]⟩::r2.map qbk:=by
      show (r1++_::r2).map qbk=_
      rw[Jv,Jq]
     have e6:rC { m with rd:=r1++⟨e.t,e.a,e.vs++[(n,v)]⟩::r2 }=rC m:=by
      show (m.aR,HO.dK (rdK (r1++_::r2)))=(m.aR,HO.dK (rdK m.rd))
      rw[er];unfold rdK;rw[Jv,Jq,Jv,Jq]
     rw[e5,e6]
     classical
     refine Xc.mpr fun a=>?_
     show List.count a (xC A x m::dC m::rC m::tC' m::(dis A x m++_))=_
     simp only[Xs,Xz,Yh]
     omega
    ·intro c hc
     obtain rfl:=J3.mp hc
     show upd _ b.a _ e.a=_
     rw[qc hbe.symm,zc];rfl
    ·exact Xf.mpr ⟨Xa,Yb⟩
    ·exact fun a ha=>.inl ha
    ·intro a o h1 h2 h3
     have h2:a≠e.a:=fun z=>h2 (by rw[z];exact Jh ..)
     rw[qc h1,qc h2];exact S2 _ _ h3
    ·refine⟨M.rel.dl,?_,M.rel.tl⟩
     have e7:((r1++(⟨e.t,e.a,e.vs++[(n,v)]⟩:Qcv)::r2).map fun e=>(e.t,e.vs))=QM.qej (m.rd.map fun e=>(e.t,e.vs)) t n v:=by
      unfold QM.qej
      have hmem:t∈(m.rd.map fun e=>(e.t,e.vs)).map (·.1):=by
       rw[Xy];exact Jk.mpr ⟨e,he,het⟩
      rw[Je hmem,er]
      rw[er] at hnd
      simp only[Jv,Jq,Xy] at hnd ⊢
      rw[Zi,Xf] at hnd
      rw[Je het]
      congr 1
      ·refine(X5 fun a ha=>?_)
       show (a.t,a.vs)=if a.t=t then _ else _
       rw[Jc]
       intro z
       refine hnd.2.2 a.t (Jk.mpr ⟨a,ha,rfl⟩) e.t (Jh ..) ?_
       rw[z,het]
      ·congr 1
       refine(X5 fun a ha=>?_)
       show (a.t,a.vs)=if a.t=t then _ else _
       rw[Jc]
       intro z
       exact hnd.2.1.1 (Jk.mpr ⟨a,ha,by show a.t=e.t;rw[z,het]⟩)
     show QM.Qcu ((r1++(⟨e.t,e.a,e.vs++[(n,v)]⟩:Qcv)::r2).map fun e=>(e.t,e.vs)) _
     rw[e7]
     exact hRp
   rw[hcnt] at hl ⊢
   exact q _ _ l (K1.same (Qz.new hl)) (K1.lv.free hl) zc
  ·rw[hv0] at e1
   obtain rfl:p=dv:=V.ref.inj e1
   rw[rd_put (vs:=[(n,v)]) hv0]
   have hvs:vs=[]:=by
    rw[hpp] at e2
    have:([]:List (Key×V))=vsK vs:=HO.dK.inj (Jj e2)
    cases vs with
    |nil=>rfl
    |cons a r=>cases this
   rw[hvs] at hput
   have hmR:H m.aR=some (.dK (rdK m.rd)):=M.oR
   have hpR:p≠m.aR:=(k8 hmR hp0).symm
   have hbR:b.a≠m.aR:=qah B.o hmR (by intro z;cases z)
   have hbp:b.a≠p:=k8 B.o hp0
   have hg3:upd H2 m.aR (.dK (rdK (m.rd++[⟨t,p,[(n,v)]⟩]))) g=H2 g:=qc (by
    intro z
    exact hga (z ▸ Jk.mpr ⟨(m.aR,.dK (rdK m.rd)),by
     unfold qb3
     have h1:=qg7 (f:=qap A) hx hm
     have:(m.aR,HO.dK (rdK m.rd))∈(List.zipWith (qap A) st.meters b.ms).flatten:=List.mem_flatten.mpr ⟨_,h1,by unfold qap;simp⟩
     simp only[Jf,J4]
     exact .inr (.inr (.inr (.inr (.inr (.inl this))))),rfl⟩))
   have hg4:GV (upd H2 m.aR (.dK (rdK (m.rd++[⟨t,p,[(n,v)]⟩])))) g 2 [((i+1:Nat):Int),t,n,v]:=hg3.trans hg2
   have hp4:upd H2 m.aR (.dK (rdK (m.rd++[⟨t,p,[(n,v)]⟩]))) p=some (.dK (vsK [])):=by rw[qc hpR];exact hpp
   walk_at ""
   refine ku hg4 (v:=.int v) rfl ?_
   walk_at ""
   refine ku hg4 (v:=.int (n:Int)) rfl ?_
   walk_at ""
   refine qjj hp4 (qar (by simp[vsK])) ?_
   rw[hput]
   have o3:upd (upd H2 m.aR (.dK (rdK (m.rd++[⟨t,p,[(n,v)]⟩])))) p (.dK (vsK ([]++[(n,v)]))) b.a=some (.ins A.CB b.dx (qa5 st b)):=by rw[qc hbp,qc hbR];exact B2.o
   walk_at ""
   intro l hl
   have K1:Vj A H st b (upd (upd (upd H2 m.aR (.dK (rdK (m.rd++[⟨t,p,[(n,v)]⟩])))) p (.dK (vsK ([]++[(n,v)])))) b.a (.ins A.CB b.dx (qa5 { st with readings:=Vbemai.putReading ⟨i+1,t,n,v⟩ st.readings } b))) { st with readings:=Vbemai.putReading ⟨i+1,t,n,v⟩ st.readings } { b with ms:=b.ms.set i { m with rd:=m.rd++[⟨t,p,[(n,v)]⟩] } }:=by
    refine qf6 B hx hm hsx rfl rfl rfl (N:=[rC m]) (N':=[rC { m with rd:=m.rd++[⟨t,p,[(n,v)]⟩] },qbk ⟨t,p,[(n,v)]⟩]) (R:=xC A x m::dC m::tC' m::(dis A x m++vrs m)) ?_ ?_ zc ?_ ?_ ?_ ?_ hgs ?_ (fun j y' n' hj hr=>qqy hj hr) (((Qae.of_same S2).upd).upd).upd
    ·rw[qdt]
     classical
     refine Xc.mpr fun a=>?_
     simp only[Xs,Xz,Yh]
     omega
    ·rw[qdt]
     have e5:vrs { m with rd:=m.rd++[⟨t,p,[(n,v)]⟩] }=vrs m++[qbk ⟨t,p,[(n,v)]⟩]:=by
      show (m.rd++[_]).map qbk=_
      rw[Jv];rfl
     rw[e5]
     classical
     refine Xc.mpr fun a=>?_
     show List.count a (xC A x m::dC m::rC { m with rd:=m.rd++[⟨t,p,[(n,v)]⟩] }::tC' m::(dis A x m++_))=_
     simp only[Xs,Xz,Yh]
     omega
    ·intro c hc
     simp only[Jf,Xa,Y0] at hc
     rcases hc with rfl|rfl
     ·show upd _ b.a _ m.aR=_
      rw[qc hbR.symm,qc hpR.symm,zc];rfl
     ·show upd _ b.a _ p=_
      rw[qc hbp.symm,zc];rfl
    ·show [m.aR,p].Nodup
     simp only[Xf,Jf,Xa,Y0,Yb,Qx,Zj]
     exact hpR.symm
    ·intro a ha
     have ha:a∈[m.aR,p]:=ha
     simp only[Jf,Xa,Y0] at ha
     rcases ha with rfl|rfl
     ·exact .inl (Jh ..)
     ·exact .inr hp0
    ·intro a o h1 h2 h3
     have h2:a≠m.aR:=fun z=>h2 (by rw[z];exact Jh ..)
     rw[qc h1,qc (k8 h3 hp0),qc h2];exact S2 _ _ h3
    ·refine⟨M.rel.dl,?_,M.rel.tl⟩
     have e7:((m.rd++[(⟨t,p,[(n,v)]⟩:Qcv)]).map fun e=>(e.t,e.vs))=QM.qej (m.rd.map fun e=>(e.t,e.vs)) t n v:=by
      unfold QM.qej
      rw[Jc,Jv];rfl
      intro z
      rw[Xy] at z
      obtain⟨e,he,het⟩:=Jk.mp z
      rcases qgn t m.rd with ⟨e',_,_,hv1,_⟩|⟨_,_,hn⟩
      ·rw[hv1] at hv0;cases hv0
      ·exact hn e he het
     show QM.Qcu ((m.rd++[(⟨t,p,[(n,v)]⟩:Qcv)]).map fun e=>(e.t,e.vs)) _
     rw[e7]
     exact hRp
   rw[hcnt] at hl ⊢
   exact q _ _ l (K1.same (Qz.new hl)) (K1.lv.free hl) zc
def qcw(s:Sta)(x:Met)(k q:Nat): Int:=if x.kind=2 then -12 else if q<s.locked then -5 else if 64<=s.assigns.length/\s.assigns.any (fun a=>a.meter==k&&a.quarter==q)=false then -4 else 0
def q7l(A:Ads): Sp:=fun vs H Q _=>∃ (s:Sta) (b:Vh) (g:Addr) (i t h:Nat) (x:Met) (m:Ve),vs=[.ref b.a,.ref m.a,.ref g]/\BAt A H s b/\s.meters[i]?=some x/\b.ms[i]?=some m/\GV H g 6 [((i+1:Nat):Int),t,h]/\Q (.int (qcw s x (i+1) t)) H
theorem tl_in{H:Hp}{s:Sta}{k:Nat}{x:Met}{m:Ve}(M:MAt A H s k x m)(q:Nat): (kj (tlK m.tl) (Sum.inl (q:Int))).isSome=s.assigns.any (fun a=>a.meter==k&&a.quarter==q):=by
 rw[QM.qv3,qnt,Wf,lookup_isSome]
 exact Yt.mpr (M.rel.tl.map (·.1)).mem_iff
theorem q0y(T:Txt P w K mg A): Fn P w K mg base 1 "assign_refusal" ["book","meter","given"] (q7l A):=by
 refine T.qym.go q6k (fun _ _ _ _ h=>?_) (fun _ _ _ _ _ H _ Q _ hr h=>?_)
 ·obtain⟨st,b,g,i,t,h,x,m,rfl,_⟩:=h;rfl
 ·obtain⟨st,b,g,i,t,h,x,m,rfl,B,hx,hm,hg,q⟩:=h
  have hu:=yb hr
  have M:=B.met hx hm
  have hal:=B.good.al
  unfold qcw at q
  refine⟨_,(zb (vf (vc qay (zk K zd) (zq T.qku)) (zq T.qoq)) (zb (vf (vc qeh (k6 hu ze kr) (zk K za)) (zq T.qha)) (zb (vf (PW.pt (qe1 (qgk (qmn hu (k6 hu ze kr) (zk K zd))) (qe2 (vc qay (zk K za) (zq T.qwy))))) (zq T.qfx)) (ko (zq T.ya))))),?_⟩
  walk_at "in"
  refine ifD (fun c=>?_) (fun c=>?_)
  ·rw[Je (by omega)] at q
   walk_at ""
   exact q
  rw[Jc (by omega)] at q
  walk_at ""
  refine ku hg (v:=.int (t:Int)) rfl ?_
  walk_at ""
  refine ifD (fun c=>?_) (fun c=>?_)
  ·rw[Je (by omega)] at q
   walk_at ""
   exact q
  rw[Jc (by omega)] at q
  walk_at ""
  refine ku hg (v:=.int (t:Int)) rfl ?_
  walk_at ""
  refine r_dnI M.oT ?_
  rw[tl_in M]
  walk_at ""
  cases ha:st.assigns.any (fun a=>a.meter==i+1&&a.quarter==t) with
  | true=>
    rw[Jc (by rw[ha];exact fun z=>nomatch z.2)] at q
    refine qam ?_
    walk_at ""
    exact q
  | false=>
    refine qag ?_
    walk_at ""
    refine ifD (fun c=>?_) (fun c=>?_)
    ·rw[Je ⟨by omega,ha⟩] at q
     walk_at ""
     exact q
    ·rw[Jc (fun z=>by have:=z.1;omega)] at q
     walk_at ""
     exact q
theorem q8m{s:Sta}{i q h:Nat}{x:Met}(hx:s.meters[i]?=some x): Vbemai.step s (.assign (i+1) q h)=if qcw s x (i+1) q=0 then ({ s with assigns:=Vbemai.putAssign ⟨i+1,q,h⟩ s.assigns },[0]) else (s,[qcw s x (i+1) q]):=by
 unfold Vbemai.step
 have c2:Vbemai.ASSIGNS=64:=rfl
 simp only[Vbemai.does,QM.meter?_at hx,c2]
 by_cases h1:x.kind=2
 ·have e:qcw s x (i+1) q = -12:=by unfold qcw;exact Je h1
  rw[e,Je h1];rfl
 rw[Jc h1]
 by_cases h2:q<s.locked
 ·have e:qcw s x (i+1) q = -5:=by unfold qcw;exact(Jc h1).trans (Je h2)
  rw[e,Je h2];rfl
 rw[Jc h2]
 by_cases h3:64<=s.assigns.length/\s.assigns.any (fun a=>a.meter==i+1&&a.quarter==q)=false
 ·have e:qcw s x (i+1) q = -4:=by unfold qcw;exact(Jc h1).trans ((Jc h2).trans (Je h3))
  rw[e,Je h3];rfl
 have e:qcw s x (i+1) q=0:=by unfold qcw;exact(Jc h1).trans ((Jc h2).trans (Jc h3))
 rw[e,Jc h3,Je rfl]
theorem qrs(x:Vbemai.Assign): ∀ {l:List Vbemai.Assign},(l.Pairwise fun x y=>Vbemai.beforeA x y=true)->(Vbemai.putAssign x l).length=if l.any (fun a=>a.meter==x.meter&&a.quarter==x.quarter)=true then l.length else l.length+1
 |[],_=>rfl
 | y::r,hp=>by
   have hp2:=Ju.mp hp
   unfold Vbemai.putAssign
   by_cases h1:x.meter=y.meter/\x.quarter=y.quarter
   ·rw[Je h1,Je];rfl
    rw[Y4,h1.1,h1.2];simp
   ·rw[Jc h1]
    have hy:(y.meter==x.meter&&y.quarter==x.quarter)=false:=by
     rw[Wb];intro z
     rw[Jw,Yq,Yq] at z
     exact h1 ⟨z.1.symm,z.2.symm⟩
    rw[Y4,hy,Qy]
    by_cases h2:Vbemai.beforeA x y=true
    ·rw[Je h2,Jc];rfl
     intro z
     obtain⟨a,ha,hz⟩:=Y9.mp z
     rw[Jw,Yq,Yq] at hz
     have h3:=QM.qb7.mp (hp2.1 a ha)
     have h4:=QM.qb7.mp h2
     omega
    ·rw[Jc h2,Jz,qrs x hp2.2]
     split<;>rfl
theorem qvf(tl:List (Nat×Nat))(q h:Nat): putK (tlK tl) (Sum.inl (q:Int)) (.int (h:Int))=tlK (QM.qdj tl q h):=by
 unfold putK QM.qdj
 rw[qg1,qnt,Wf,lookup_isSome]
 by_cases hq:q∈tl.map (·.1)
 ·rw[Xm hq,Je rfl,Je hq]
  unfold tlK
  rw[Xy,Xy]
  refine X5 fun e _=>?_
  show (if (Sum.inl (e.1:Int):Key)=Sum.inl (q:Int) then ((Sum.inl (e.1:Int):Key),V.int (h:Int)) else (Sum.inl (e.1:Int),V.int (e.2:Int)))=_
  by_cases he:e.1=q
  ·rw[Je (by rw[he])]
   show _=((Sum.inl (((if e.1=q then (e.1,h) else e).1:Nat):Int):Key),V.int (((if e.1=q then (e.1,h) else e).2:Nat):Int))
   rw[Je he]
  ·rw[Jc (fun z=>he (by have:=Wx z;omega))]
   show _=((Sum.inl (((if e.1=q then (e.1,h) else e).1:Nat):Int):Key),V.int (((if e.1=q then (e.1,h) else e).2:Nat):Int))
   rw[Jc he]
 ·rw[J7 hq,Jc Jr,Jc hq]
  unfold tlK
  rw[Jv];rfl
theorem q0x(T:Txt P w K mg A): Fn P w K mg base 2 "assign_hand" ["book","given"] (qa4 A gq6):=by
 refine T.qyl.go qm7 (fun _ _ _ _ h=>?_) (fun _ _ _ _ _ H _ Q _ hr h=>?_)
 ·obtain⟨st,b,g,c,rfl,_⟩:=h;rfl
 ·obtain⟨st,b,g,c,rfl,B,hga,⟨i,t,h,x,rfl,hg,hok,hx⟩,q⟩:=h
  obtain⟨m,hm⟩:=B.qeg hx
  have M:=B.met hx hm
  have hu:=yb hr
  have hgs:=QM.qeb B.good hok
  rw[q8m hx] at q hgs
  refine⟨_,(zb (k7 2 qm7.nd (zj (qd9 T) hr (zf za zd))) (zb (k7 3 qm7.nd (zj (q0y T) hr (vg za (zf ze zd)))) (zb (vf (vc qde k9 (zq T.ya)) (vo (zo k9))) (zb (qgh (qgk (qmn hu (k6 hu zd kr) (zk K ze))) (qaz (yf za (vm qbs (zk K za) ki) rfl)) qgj) (zb (qmu hu (zk K ze) (k6 hu zd kr) (k6 hu zd kr) rfl) (ko (vo (zo (zq T.ya))))))))),?_⟩
  walk_at "in"
  refine⟨st,b,g,i,x,m,rfl,B,⟨_,hg,rfl⟩,hx,hm,?_⟩
  walk_at ""
  refine⟨st,b,g,i,t,h,x,m,rfl,B,hx,hm,hg,?_⟩
  walk_at ""
  refine ifN (fun c=>?_) (fun c=>?_)
  ·rw[Jc c] at q
   walk_at ""
   intro l hl
   exact q _ b l (Vj.of_same B (Qz.new hl)) hl zc
  rw[Je c] at q hgs
  have hba:=qmf B M
  have hbT:b.a≠m.aT:=qah B.o M.oT (by intro z;cases z)
  have hmT:m.a≠m.aT:=qah M.o M.oT (by intro z;cases z)
  have hbg:g≠b.a:=qah hg B.o (by intro z;cases z)
  have hsx:st.meters=st.meters.set i x:=by
   have e:=(Ji.mp hx).2
   rw[<- e,Qo]
  have htl:=qve M.good M.rel
  have hlen:=qrs ⟨i+1,t,h⟩ B.good.as
  have KK:Vj A H st b (upd (upd H b.a (.ins A.CB b.dx (qa5 { st with assigns:=Vbemai.putAssign ⟨i+1,t,h⟩ st.assigns } b))) m.aT (.dK (tlK (QM.qdj m.tl t h)))) { st with assigns:=Vbemai.putAssign ⟨i+1,t,h⟩ st.assigns } { b with ms:=b.ms.set i { m with tl:=QM.qdj m.tl t h } }:=by
   refine qf6 B hx hm hsx rfl rfl rfl (N:=[tC' m]) (N':=[tC' { m with tl:=QM.qdj m.tl t h }]) (R:=xC A x m::dC m::rC m::(dis A x m++vrs m)) ?_ ?_ ?_ ?_ ?_ ?_ ?_ hgs ?_ ?_ ((Qae.of_same (Qz.refl H)).upd).upd
   ·rw[qdt]
    classical
    refine Xc.mpr fun a=>?_
    simp only[Xs,Xz,Yh]
    omega
   ·rw[qdt]
    classical
    refine Xc.mpr fun a=>?_
    show List.count a (xC A x m::dC m::rC m::tC' { m with tl:=QM.qdj m.tl t h }::(dis A x m++vrs m))=_
    simp only[Xs,Xz,Yh]
    omega
   ·rw[qc hbT,zc]
   ·intro c hc
    obtain rfl:=J3.mp hc
    exact zc
   ·exact Xf.mpr ⟨Xa,Yb⟩
   ·exact fun a ha=>.inl ha
   ·intro a o h1 h2 h3
    have h2:a≠m.aT:=fun z=>h2 (by rw[z];exact Jh ..)
    rw[qc h2,qc h1];exact h3
   ·exact⟨M.rel.dl,M.rel.rd,QM.q9q M.good M.rel.tl hgs⟩
   ·rintro j y n hj ⟨r1,r2,r3⟩
    refine⟨r1,r2,?_⟩
    unfold QM.toldOf
    show n.tl.Perm (((Vbemai.putAssign ⟨i+1,t,h⟩ st.assigns).filter fun a=>a.meter==j+1).map _)
    rw[QM.qvg _ (by show i+1≠j+1;omega)]
    exact r3
  walk_at ""
  refine ku hg (v:=.int (t:Int)) rfl ?_
  walk_at ""
  refine r_dnI M.oT ?_
  rw[tl_in M]
  walk_at ""
  cases ha:st.assigns.any (fun a=>a.meter==i+1&&a.quarter==t) with
  | true=>
    rw[Je ha] at hlen
    have hbk:upd H b.a (.ins A.CB b.dx (qa5 { st with assigns:=Vbemai.putAssign ⟨i+1,t,h⟩ st.assigns } b))=H:=by
     funext a
     by_cases e:a=b.a
     ·subst e
      rw[zc,B.o]
      unfold qa5
      show some (HO.ins A.CB b.dx [_,_,_,("told_count",V.int ((Vbemai.putAssign ⟨i+1,t,h⟩ st.assigns).length:Int)),_,_])=_
      rw[hlen]
     ·rw[qc e]
    rw[hbk] at KK
    refine qam ?_
    walk_at ""
    refine ku hg (v:=.int (h:Int)) rfl ?_
    walk_at ""
    refine ku hg (v:=.int (t:Int)) rfl ?_
    walk_at ""
    refine qjj M.oT (qar (by unfold tlK;rw[Jd];omega)) ?_
    rw[qvf]
    walk_at ""
    intro l hl
    exact q _ _ l (KK.same (Qz.new hl)) (KK.lv.free hl) zc
  | false=>
    rw[Jc (by rw[ha];exact Jr)] at hlen
    have hbk:qbb "told_count" (.int ((st.assigns.length:Int)+1)) (qa5 st b)=qa5 { st with assigns:=Vbemai.putAssign ⟨i+1,t,h⟩ st.assigns } b:=by
     show ([_,_,_,("told_count",V.int ((st.assigns.length:Int)+1)),_,_]:List (Str×V))=([_,_,_,("told_count",V.int ((Vbemai.putAssign ⟨i+1,t,h⟩ st.assigns).length:Int)),_,_]:List (Str×V))
     rw[hlen];rfl
    refine qag ?_
    walk_at ""
    rw[hbk]
    have o1:upd H b.a (.ins A.CB b.dx (qa5 { st with assigns:=Vbemai.putAssign ⟨i+1,t,h⟩ st.assigns } b)) m.a=some (.ins A.CM m.dx (qdc x m)):=by rw[qc hba.symm];exact M.o
    have oT:upd H b.a (.ins A.CB b.dx (qa5 { st with assigns:=Vbemai.putAssign ⟨i+1,t,h⟩ st.assigns } b)) m.aT=some (.dK (tlK m.tl)):=by rw[qc hbT.symm];exact M.oT
    have hg1:GV (upd H b.a (.ins A.CB b.dx (qa5 { st with assigns:=Vbemai.putAssign ⟨i+1,t,h⟩ st.assigns } b))) g 6 [((i+1:Nat):Int),t,h]:=(qc hbg).trans hg
    walk_at ""
    refine ku hg1 (v:=.int (h:Int)) rfl ?_
    walk_at ""
    refine ku hg1 (v:=.int (t:Int)) rfl ?_
    walk_at ""
    refine qjj oT (qar (by unfold tlK;rw[Jd];omega)) ?_
    rw[qvf]
    walk_at ""
    intro l hl
    exact q _ _ l (KK.same (Qz.new hl)) (KK.lv.free hl) zc
def qcx(s:Sta)(k:Nat)(x:Met)(t:Nat)(e:Int): Int:=(Vbemai.noEnd s k x t e).getD 0
def GE(H:Hp)(g:Addr)(t:Nat)(e:Int): Prop:=∃ kvs,H g=some (.dK kvs)/\kj kvs (Sum.inr (Str.ofString "boundary"))=some (.int (t:Int))/\kj kvs (Sum.inr (Str.ofString "end"))=some (.int e)
def q7p(A:Ads): Sp:=fun vs H Q _=>∃ (s:Sta) (b:Vh) (g:Addr) (i t:Nat) (e:Int) (x:Met) (m:Ve),vs=[.ref b.a,.ref m.a,.ref g]/\BAt A H s b/\s.meters[i]?=some x/\b.ms[i]?=some m/\GE H g t e/\∀ H',Qz H H'->Q (.int (qcx s (i+1) x t e)) H'
def q7o(A:Ads): Sp:=fun vs H Q _=>∃ (s:Sta) (k:Nat) (g:Addr) (t:Nat) (e:Int) (x:Met) (m:Ve),vs=[.ref m.a,.ref g]/\MAt A H s k x m/\GE H g t e/\∀ d y,m.ds.getLast?=some d->x.devices.getLast?=some y->Q .non (upd H d.a (.ins A.CD d.dx (qax { y with finish:=some (t,e) })))
def qc6(s:Sta)(k:Nat)(x:Met)(t:Nat)(e v:Int)(d:Nat): Int:=if qcx s k x t e=0 then (if Vbemai.shows d v=false then -7 else if 8<=x.devices.length then -4 else 0) else qcx s k x t e
def q8b(A:Ads): Sp:=fun vs H Q _=>∃ (s:Sta) (b:Vh) (g:Addr) (i t:Nat) (e v:Int) (d:Nat) (f:Int) (x:Met) (m:Ve),vs=[.ref b.a,.ref m.a,.ref g]/\BAt A H s b/\s.meters[i]?=some x/\b.ms[i]?=some m/\GV H g 3 [((i+1:Nat):Int),t,e,v,d,f]/\d<=9/\∀ H',Qz H H'->Q (.int (qc6 s (i+1) x t e v d)) H'
theorem q4h{s:Sta}{k:Nat}{x:Met}{y:Dev}(h:x.devices.getLast?=some y)(t:Nat)(e:Int): Vbemai.noEnd s k x t e=if t<=s.locked then some (-5) else if y.finish.isSome=true\/t<=y.start then some (-6) else if (Vbemai.readingsOf s k).any (fun r=>decide (t<=r.at_))=true then some (-9) else if Vbemai.shows y.digits e=false then some (-7) else none:=by
 unfold Vbemai.noEnd
 rw[qf5 h]
 unfold Vbemai.lastDevice
 rw[h]
 simp only[Option.any_some,J9,Bool.not_eq_true']
theorem qpd(T:Txt P w K mg A):
  Fn P w K mg base 3 "end_refusal" ["book","meter","given"] (q7p A):=by
 refine T.qys.go qud (fun _ _ _ _ h=>?_) (fun _ _ _ _ _ H _ Q _ hr h=>?_)
 ·obtain⟨st,b,g,i,t,e,x,m,rfl,_⟩:=h;rfl
 ·obtain⟨st,b,g,i,t,e,x,m,rfl,B,hx,hm,⟨kvs,hg,hg1,hg2⟩,q⟩:=h
  have hu:=yb hr
  have M:=B.met hx hm
  obtain⟨d0,y0,h01,h02,h03⟩:=M.last
  unfold qcx at q
  rw[q4h h02] at q
  refine⟨_,(zb (k7 3 qud.nd (k6 hu ze kr)) (zb (vf (vc qdd k9 (zk K za)) (zq T.qha)) (zb (vf (PW.pt (qmw (qdy (zj (qhe T) hr (zo zd))) (qmx (vc qdd k9 (zk K (zj (qf1 T) hr (zo zd))))))) (zq T.qom)) (zb (vf (qdy (zj (q03 T) hr (zf zd k9))) (zq T.qw4)) (zb (vf (vc qdu (k6 hu ze kr) (zk K (zj (qf1 T) hr (zo zd)))) (zq T.qio)) (ko (zq T.ya))))))),?_⟩
  walk_at "in"
  refine ku hg hg1 ?_
  walk_at ""
  refine ifD (fun c=>?_) (fun c=>?_)
  ·rw[Je (by omega)] at q
   walk_at ""
   exact q H (Qz.refl H)
  rw[Jc (by omega)] at q
  have rest:¬ (y0.finish.isSome=true\/t<=y0.start)->qb6 (qem (qdk (tFn (qum A) (vp (vd 1) (vp (vd 3) qan)))) (qbz (tC (.int (-9)))) qen) (qb6 (qem (qdk (tOp (rI0 fun i j=>.bl (decide (j<=i))) (qd2 (vd 2) (tC (.str "end"))) (qe6 K (tFn (quo A) (vp (vd 1) qan)) "size"))) (qbz (tC (.int (-7)))) qen) (qbz (tC (.int 0)))) { nx:=fun _ H'=>Q .non H',rt:=Q } [some (.ref b.a),some (.ref m.a),some (.ref g),some (.int (t:Int))] H:=fun hc=>by
   rw[Jc hc] at q
   walk_at ""
   refine⟨st,i+1,x,m,t,rfl,M,fun H1 s1=>?_⟩
   walk_at ""
   refine ifB (fun c=>?_) (fun c=>?_)
   ·rw[Je c] at q
    walk_at ""
    exact q H1 s1
   rw[Jc (by rw[c];exact Jr)] at q
   walk_at ""
   refine ku (s1 _ _ hg) hg2 ?_
   walk_at ""
   refine⟨st,i+1,x,m,rfl,M.same s1,fun d y h1 h2 h3=>?_⟩
   rw[h02] at h2
   cases h2
   walk_at ""
   refine ifD (fun c=>?_) (fun c=>?_)
   ·rw[Je (by unfold Vbemai.shows;exact J7 (by omega))] at q
    walk_at ""
    exact q H1 s1
   rw[Jc (by unfold Vbemai.shows;rw[Xm (by omega)];exact fun z=>nomatch z)] at q
   walk_at ""
   exact q H1 s1
  walk_at ""
  refine⟨st,i+1,x,m,rfl,M,?_⟩
  rw[qf5 h02]
  walk_at ""
  refine ifB (fun c=>?_) (fun c=>?_)
  ·rw[Je (.inl c)] at q
   refine qag ?_
   walk_at ""
   exact q H (Qz.refl H)
  walk_at ""
  refine⟨st,i+1,x,m,rfl,M,fun d y h1 h2 h3=>?_⟩
  rw[h02] at h2
  cases h2
  walk_at ""
  refine ifD (fun c2=>?_) (fun c2=>?_)
  ·rw[Je (.inr (by omega))] at q
   walk_at ""
   exact q H (Qz.refl H)
  ·exact rest (by rw[c];exact fun z=>z.elim (fun z=>nomatch z) (fun z=>by omega))
theorem qpc(T:Txt P w K mg A): Fn P w K mg base 2 "end_last_dial" ["meter","given"] (q7o A):=by
 refine T.qyr.go quc (fun _ _ _ _ h=>?_) (fun _ _ _ _ _ H _ Q _ hr h=>?_)
 ·obtain⟨st,k,g,t,e,x,m,rfl,_⟩:=h;rfl
 ·obtain⟨st,k,g,t,e,x,m,rfl,M,⟨kvs,hg,hg1,hg2⟩,q⟩:=h
  have hu:=yb hr
  refine⟨_,(zb (k7 2 quc.nd (zj (qf1 T) hr (zo za))) (zb (yf ze (k6 hu zd kr) rfl) (qaz (yf ze (k6 hu zd kr) rfl)))),?_⟩
  walk_at "in"
  refine⟨st,k,x,m,rfl,M,fun d y h1 h2 h3=>?_⟩
  have hgd:g≠d.a:=qah hg h3 (by intro z;cases z)
  walk_at ""
  refine ku hg hg1 ?_
  walk_at ""
  refine ku ((qc hgd).trans hg) hg2 ?_
  walk_at ""
  rw[qbc]
  exact q d y h1 h2
theorem q1n(T:Txt P w K mg A):
  Fn P w K mg base 4 "swap_refusal" ["book","meter","given"] (q8b A):=by
 refine T.qzw.go quj (fun _ _ _ _ h=>?_) (fun _ _ _ _ _ H _ Q _ hr h=>?_)
 ·obtain⟨st,b,g,i,t,e,v,d,ff,x,m,rfl,_⟩:=h;rfl
 ·obtain⟨st,b,g,i,t,e,v,d,ff,x,m,rfl,B,hx,hm,hg,hd,q⟩:=h
  have hu:=yb hr
  have M:=B.met hx hm
  have hdl:=dl8 M
  unfold qc6 at q
  refine⟨_,(zb (k7 3 quj.nd (zj (qpd T) hr (vg za (zf zd ze)))) (zb (vf (vc qde k9 (zq T.ya)) k9) (zb (vf (vc qdu (k6 hu ze kr) (zj (qlq T) hr (zo (k6 hu ze kr)))) (zq T.qio)) (zb (vf (vc qay (x_len T.qaw (zk K zd)) (zq T.qwt)) (zq T.qfx)) (ko (zq T.ya)))))),?_⟩
  walk_at "in"
  refine⟨st,b,g,i,t,e,x,m,rfl,B,hx,hm,⟨_,hg,rfl,rfl⟩,fun H1 s1=>?_⟩
  walk_at ""
  refine ifN (fun c=>?_) (fun c=>?_)
  ·rw[Jc c] at q
   walk_at ""
   exact q H1 s1
  rw[Je c] at q
  have hg1:=hg.same s1
  have M1:=M.same s1
  walk_at ""
  refine ku hg1 (v:=.int v) rfl ?_
  walk_at ""
  refine ku hg1 (v:=.int (d:Int)) rfl ?_
  walk_at ""
  refine⟨d,rfl,by omega,?_⟩
  walk_at ""
  refine ifD (fun c=>?_) (fun c=>?_)
  ·rw[Je (by unfold Vbemai.shows;exact J7 (by omega))] at q
   walk_at ""
   exact q H1 s1
  rw[Jc (by unfold Vbemai.shows;rw[Xm (by omega)];exact fun z=>nomatch z)] at q
  walk_at ""
  refine qau (qbh (SqL.of M1.oD)) ?_
  rw[Jd,M.rel.dl]
  walk_at ""
  refine ifD (fun c=>?_) (fun c=>?_)
  ·rw[Je (by omega)] at q
   walk_at ""
   exact q H1 s1
  rw[Jc (by omega)] at q
  walk_at ""
  exact q H1 s1
theorem qq5{s:Sta}{k:Nat}{x:Met}{t:Nat}{e z:Int}(h:Vbemai.noEnd s k x t e=some z): qcx s k x t e=z/\z≠0:=by
 refine⟨by unfold qcx;rw[h];rfl,?_⟩
 unfold Vbemai.noEnd at h
 split at h
 ·cases h;decide
 ·split at h
  ·cases h;decide
  ·split at h
   ·cases h;decide
   ·split at h
    ·cases h;decide
    ·cases h
theorem q82{s:Sta}{i t:Nat}{e:Int}{x:Met}(hx:s.meters[i]?=some x): Vbemai.step s (.remove (i+1) t e)=if qcx s (i+1) x t e=0 then ({ s with meters:=s.meters.set i { x with devices:=Vbemai.ended t e x.devices } },[0]) else (s,[qcx s (i+1) x t e]):=by
 unfold Vbemai.step
 simp only[Vbemai.does,QM.meter?_at hx]
 cases hn:Vbemai.noEnd s (i+1) x t e with
 | some z=>
   obtain⟨h1,h2⟩:=qq5 hn
   rw[h1,Jc h2]
 | none=>
   have:qcx s (i+1) x t e=0:=by unfold qcx;rw[hn];rfl
   rw[Je this]
   show (Vbemai.changed s (i+1) _,[0])=_
   unfold Vbemai.changed
   rw[Za,qjz _ hx]
theorem q86{s:Sta}{i t:Nat}{e v:Int}{d:Nat}{f:Int}{x:Met}(hx:s.meters[i]?=some x): Vbemai.step s (.swap (i+1) t e v d f)=if qc6 s (i+1) x t e v d=0 then ({ s with meters:=s.meters.set i { x with devices:=Vbemai.ended t e x.devices++[{ start:=t,value:=v,digits:=d,factor:=f }] } },[0]) else (s,[qc6 s (i+1) x t e v d]):=by
 unfold Vbemai.step
 have c2:Vbemai.DEVICES=8:=rfl
 simp only[Vbemai.does,QM.meter?_at hx,c2]
 cases hn:Vbemai.noEnd s (i+1) x t e with
 | some z=>
   obtain⟨h1,h2⟩:=qq5 hn
   have h3:qc6 s (i+1) x t e v d=z:=by unfold qc6;rw[h1,Jc h2]
   rw[h3,Jc h2]
 | none=>
   have h0:qcx s (i+1) x t e=0:=by unfold qcx;rw[hn];rfl
   dsimp only
   by_cases h1:Vbemai.shows d v=false
   ·have h3:qc6 s (i+1) x t e v d = -7:=by unfold qc6;rw[Je h0,Je h1]
    rw[h3,Je h1];rfl
   rw[Jc h1]
   by_cases h2:8<=x.devices.length
   ·have h3:qc6 s (i+1) x t e v d = -4:=by unfold qc6;rw[Je h0,Jc h1,Je h2]
    rw[h3,Je h2];rfl
   have h3:qc6 s (i+1) x t e v d=0:=by unfold qc6;rw[Je h0,Jc h1,Jc h2]
   rw[h3,Jc h2,Je rfl]
   show (Vbemai.changed s (i+1) _,[0])=_
   unfold Vbemai.changed
   rw[Za,qjz _ hx]
theorem qqo{H:Hp}{s:Sta}{k:Nat}{x:Met}{m:Ve}(M:MAt A H s k x m): ∃ dp d pp y,m.ds=dp++[d]/\x.devices=pp++[y]/\dp.length=pp.length/\m.ds.getLast?=some d/\x.devices.getLast?=some y/\H d.a=some (.ins A.CD d.dx (qax y)):=by
 obtain⟨d,y,h1,h2,h3⟩:=M.last
 obtain⟨dp,e1⟩:=QM.qh9 h1
 obtain⟨pp,e2⟩:=QM.qh9 h2
 refine⟨dp,d,pp,y,e1,e2,?_,h1,h2,h3⟩
 have:=M.rel.dl
 rw[e1,e2,Jx,Jx] at this
 simpa using this
theorem q1h(T:Txt P w K mg A):
  Fn P w K mg base 4 "remove_meter" ["book","given"] (qa4 A gq4):=by
 refine T.qzl.go qnc (fun _ _ _ _ h=>?_) (fun _ _ _ _ _ H _ Q _ hr h=>?_)
 ·obtain⟨st,b,g,c,rfl,_⟩:=h;rfl
 ·obtain⟨st,b,g,c,rfl,B,hga,⟨i,t,e,x,rfl,hg,hok,hx⟩,q⟩:=h
  obtain⟨m,hm⟩:=B.qeg hx
  have M:=B.met hx hm
  have hgs:=QM.qeb B.good hok
  rw[q82 hx] at q hgs
  refine⟨_,(zb (k7 2 qnc.nd (zj (qd9 T) hr (zf za zd))) (zb (k7 3 qnc.nd (zj (qpd T) hr (vg za (zf ze zd)))) (zb (vf (vc qde k9 (zq T.ya)) (vo (zo k9))) (zb (qbn (zj (qpc T) hr (zf ze zd))) (ko (vo (zo (zq T.ya)))))))),?_⟩
  walk_at "in"
  refine⟨st,b,g,i,x,m,rfl,B,⟨_,hg,rfl⟩,hx,hm,?_⟩
  walk_at ""
  refine⟨st,b,g,i,t,e,x,m,rfl,B,hx,hm,⟨_,hg,rfl,rfl⟩,fun H1 s1=>?_⟩
  walk_at ""
  refine ifN (fun c=>?_) (fun c=>?_)
  ·rw[Jc c] at q
   walk_at ""
   intro l hl
   exact q _ b l (Vj.of_same B (s1.trans (Qz.new hl))) (s1.free hl) zc
  rw[Je c] at q hgs
  obtain⟨dp,d,pp,y,ed,ex,hlen,hd1,hy1,hdo⟩:=qqo M
  walk_at ""
  refine⟨st,i+1,g,t,e,x,m,rfl,M.same s1,⟨_,hg.same s1,rfl,rfl⟩,fun d' y' h1 h2=>?_⟩
  rw[hd1] at h1;rw[hy1] at h2
  cases h1;cases h2
  have hbd:b.a≠d.a:=qah B.o hdo (by
   intro z
   injection z with _ _ z
   have h2:=(Ww (Ze z).1).1
   revert h2;decide)
  walk_at ""
  intro l hl
  rw[ex,QM.qes] at q hgs
  have K1:Vj A H st b (upd H1 d.a (.ins A.CD d.dx (qax { y with finish:=some (t,e) }))) { st with meters:=st.meters.set i { x with devices:=pp++[{ y with finish:=some (t,e) }] } } { b with ms:=b.ms.set i m }:=by
   have e5:dis A x m=List.zipWith (qa6 A) dp pp++[qa6 A d y]:=by unfold dis;rw[ed,ex,Yi hlen];rfl
   have e6:dis A { x with devices:=pp++[{ y with finish:=some (t,e) }] } m=List.zipWith (qa6 A) dp pp++[qa6 A d { y with finish:=some (t,e) }]:=by
    unfold dis;rw[ed]
    show List.zipWith (qa6 A) (dp++[d]) (pp++[_])=_
    rw[Yi hlen];rfl
   refine qf6 B hx hm rfl rfl rfl rfl (N:=[qa6 A d y]) (N':=[qa6 A d { y with finish:=some (t,e) }]) (R:=xC A x m::dC m::rC m::tC' m::(List.zipWith (qa6 A) dp pp++vrs m)) ?_ ?_ ?_ ?_ ?_ ?_ ?_ hgs ?_ ?_ (Qae.of_same s1).upd
   ·rw[qdt,e5]
    classical
    refine Xc.mpr fun a=>?_
    simp only[Xs,Xz,Yh]
    omega
   ·rw[qdt,e6]
    classical
    refine Xc.mpr fun a=>?_
    show List.count a (xC A x m::dC m::rC m::tC' m::_)=_
    simp only[Xs,Xz,Yh]
    omega
   ·rw[qc hbd];exact s1 _ _ B.o
   ·intro c hc
    obtain rfl:=J3.mp hc
    exact zc
   ·exact Xf.mpr ⟨Xa,Yb⟩
   ·exact fun a ha=>.inl ha
   ·intro a o h1 h2 h3
    have h2:a≠d.a:=fun z=>h2 (by rw[z];exact Jh ..)
    rw[qc h2];exact s1 _ _ h3
   ·refine⟨?_,M.rel.rd,M.rel.tl⟩
    show m.ds.length=(pp++[_]).length
    rw[ed,Jx,Jx,hlen];rfl
   ·rintro j y' n _ ⟨r1,r2,r3⟩
    exact⟨r1,r2,r3⟩
  exact q _ _ l (K1.same (Qz.new hl)) (K1.lv.free hl) zc
theorem q1m(T:Txt P w K mg A):
  Fn P w K mg base 5 "swap_dial" ["book","given"] (qa4 A gq3):=by
 refine T.qzv.go qnf (fun _ _ _ _ h=>?_) (fun _ _ _ _ _ H _ Q _ hr h=>?_)
 ·obtain⟨st,b,g,c,rfl,_⟩:=h;rfl
 ·obtain⟨st,b,g,c,rfl,B,hga,⟨i,t,e,v,dg,ff,x,rfl,hg,hok,hx⟩,q⟩:=h
  obtain⟨m,hm⟩:=B.qeg hx
  have M:=B.met hx hm
  have hgs:=QM.qeb B.good hok
  have hdg:dg<=9:=hok.2.2.2.2.1
  rw[q86 hx] at q hgs
  have hdl:=dl8 M
  refine⟨_,(zb (k7 2 qnf.nd (zj (qd9 T) hr (zf za zd))) (zb (k7 3 qnf.nd (zj (q1n T) hr (vg za (zf ze zd)))) (zb (vf (vc qde k9 (zq T.ya)) (vo (zo k9))) (zb (qbn (zj (qpc T) hr (zf ze zd))) (zb (qbn (qbx Xe Xv Xw qc3 (zk K ze) (zo (zj (qpi T) hr (zo zd))))) (ko (vo (zo (zq T.ya))))))))),?_⟩
  walk_at "in"
  refine⟨st,b,g,i,x,m,rfl,B,⟨_,hg,rfl⟩,hx,hm,?_⟩
  walk_at ""
  refine⟨st,b,g,i,t,e,v,dg,ff,x,m,rfl,B,hx,hm,hg,hdg,fun H1 s1=>?_⟩
  walk_at ""
  refine ifN (fun c=>?_) (fun c=>?_)
  ·rw[Jc c] at q
   walk_at ""
   intro l hl
   exact q _ b l (Vj.of_same B (s1.trans (Qz.new hl))) (s1.free hl) zc
  rw[Je c] at q hgs
  obtain⟨dp,d,pp,y,ed,ex,hlen,hd1,hy1,hdo⟩:=qqo M
  walk_at ""
  refine⟨st,i+1,g,t,e,x,m,rfl,M.same s1,⟨_,hg.same s1,rfl,rfl⟩,fun d' y' h1 h2=>?_⟩
  rw[hd1] at h1;rw[hy1] at h2
  cases h1;cases h2
  have hbd:b.a≠d.a:=qah B.o hdo (by
   intro z
   injection z with _ _ z
   have h2:=(Ww (Ze z).1).1
   revert h2;decide)
  have hmd:m.a≠d.a:=qah M.o hdo (by
   intro z
   injection z with _ _ z
   have h2:=(Ww (Ze z).1).1
   revert h2;decide)
  have hDd:m.aD≠d.a:=qah M.oD hdo (by intro z;cases z)
  have hbD:b.a≠m.aD:=qah B.o M.oD (by intro z;cases z)
  have hgd:g≠d.a:=qah hg hdo (by intro z;cases z)
  have hmD:m.a≠m.aD:=qah M.o M.oD (by intro z;cases z)
  have o2:upd H1 d.a (.ins A.CD d.dx (qax { y with finish:=some (t,e) })) m.a=some (.ins A.CM m.dx (qdc x m)):=by rw[qc hmd];exact s1 _ _ M.o
  have oD2:upd H1 d.a (.ins A.CD d.dx (qax { y with finish:=some (t,e) })) m.aD=some (.lst (m.ds.map fun d=>.ref d.a)):=by rw[qc hDd];exact s1 _ _ M.oD
  have hg2:GV (upd H1 d.a (.ins A.CD d.dx (qax { y with finish:=some (t,e) }))) g 3 [((i+1:Nat):Int),t,e,v,dg,ff]:=(qc hgd).trans (hg.same s1)
  have hd2:upd H1 d.a (.ins A.CD d.dx (qax { y with finish:=some (t,e) })) d.a=some (.ins A.CD d.dx (qax { y with finish:=some (t,e) })):=zc
  have lv2:Qae H (upd H1 d.a (.ins A.CD d.dx (qax { y with finish:=some (t,e) }))):=(Qae.of_same s1).upd
  have fr2:∀ a o,a≠d.a->H a=some o->upd H1 d.a (.ins A.CD d.dx (qax { y with finish:=some (t,e) })) a=some o:=fun a o h1 h2=>by rw[qc h1];exact s1 _ _ h2
  generalize upd H1 d.a (.ins A.CD d.dx (qax { y with finish:=some (t,e) }))=H2 at *
  walk_at ""
  generalize hyd:({ start:=t,value:=v,digits:=dg,factor:=ff }:Dev)=yd at *
  refine⟨g,_,yd,rfl,hg2,by rw[<- hyd],by rw[<- hyd];exact hdg,by rw[<- hyd];rfl,by rw[<- hyd];rfl,by rw[<- hyd];rfl,by rw[<- hyd];rfl,fun H3 na ndx s3 hna hn3=>?_⟩
  walk_at ""
  refine qco (s3 _ _ oD2) (qar (by rw[Jd,M.rel.dl];omega)) ?_
  have hna0:=lv2.free hna
  have hnD:na≠m.aD:=(k8 oD2 hna).symm
  have hnd:na≠d.a:=(k8 hd2 hna).symm
  walk_at ""
  intro l hl
  rw[ex,QM.qes,Yv] at q hgs
  have K1:Vj A H st b (upd H3 m.aD (.lst ((m.ds.map fun d=>.ref d.a)++[.ref na]))) { st with meters:=st.meters.set i { x with devices:=pp++([{ y with finish:=some (t,e) }]++[yd]) } } { b with ms:=b.ms.set i { m with ds:=m.ds++[⟨na,ndx⟩] } }:=by
   have e5:dis A x m=List.zipWith (qa6 A) dp pp++[qa6 A d y]:=by unfold dis;rw[ed,ex,Yi hlen];rfl
   have e6:dis A { x with devices:=pp++([{ y with finish:=some (t,e) }]++[yd]) } { m with ds:=m.ds++[⟨na,ndx⟩] }=List.zipWith (qa6 A) dp pp++[qa6 A d { y with finish:=some (t,e) },qa6 A ⟨na,ndx⟩ yd]:=by
    unfold dis
    show List.zipWith (qa6 A) (m.ds++[_]) (pp++_)=_
    rw[ed,Yv,Yi hlen];rfl
   refine qf6 B hx hm rfl rfl rfl rfl (N:=[dC m,qa6 A d y]) (N':=[dC { m with ds:=m.ds++[⟨na,ndx⟩] },qa6 A d { y with finish:=some (t,e) },qa6 A ⟨na,ndx⟩ yd]) (R:=xC A x m::rC m::tC' m::(List.zipWith (qa6 A) dp pp++vrs m)) ?_ ?_ ?_ ?_ ?_ ?_ ?_ hgs ?_ ?_ ((lv2.trans (Qae.of_same s3)).upd)
   ·rw[qdt,e5]
    classical
    refine Xc.mpr fun a=>?_
    simp only[Xs,Xz,Yh]
    omega
   ·rw[qdt,e6]
    classical
    refine Xc.mpr fun a=>?_
    show List.count a (xC A x m::dC { m with ds:=m.ds++[⟨na,ndx⟩] }::rC m::tC' m::(_++vrs m))=_
    simp only[Xs,Xz,Yh]
    omega
   ·rw[qc hbD];exact s3 _ _ (fr2 _ _ hbd B.o)
   ·intro c hc
    simp only[Jf,Xa,Y0] at hc
    rcases hc with rfl|rfl|rfl
    ·show upd H3 m.aD _ m.aD=_
     rw[zc];unfold dC;simp
    ·show upd H3 m.aD _ d.a=_
     rw[qc hDd.symm];exact s3 _ _ hd2
    ·show upd H3 m.aD _ na=_
     rw[qc hnD];exact hn3
   ·show [m.aD,d.a,na].Nodup
    simp only[Xf,Jf,Xa,Y0,not_or,Yb,Qx,Zj]
    exact⟨⟨hDd,hnD.symm⟩,hnd.symm⟩
   ·intro a ha
    have ha:a∈[m.aD,d.a,na]:=ha
    simp only[Jf,Xa,Y0] at ha
    rcases ha with rfl|rfl|rfl
    ·exact .inl (Jh ..)
    ·exact .inl (Jm _ (Jh ..))
    ·exact .inr hna0
   ·intro a o h1 h2 h3
    have h4:a≠m.aD:=fun z=>h2 (by rw[z];exact Jh ..)
    have h5:a≠d.a:=fun z=>h2 (by rw[z];exact Jm _ (Jh ..))
    rw[qc h4];exact s3 _ _ (fr2 _ _ h5 h3)
   ·refine⟨?_,M.rel.rd,M.rel.tl⟩
    show (m.ds++[_]).length=(pp++([_]++[_])).length
    rw[ed];simp[hlen]
   ·rintro j y' n _ ⟨r1,r2,r3⟩
    exact⟨r1,r2,r3⟩
  exact q _ _ l (K1.same (Qz.new hl)) (K1.lv.free hl) zc
def pk(a b:Nat): List Key:=[Sum.inl (a:Int),Sum.inl (b:Int)]
theorem pk_ne{p:Vbemai.Period}{a b:Nat}(h:¬ (p.from_=a/\p.to_=b)): ¬ (pk p.from_ p.to_=pk a b):=fun q=>by
 have q1:(p.from_:Int)=a:=Wx (Ze q).1
 have q2:(p.to_:Int)=b:=Wx (Ze (Ze q).2).1
 exact h ⟨by omega,by omega⟩
theorem q42(p:Vbemai.Period)(ps:List Vbemai.Period)(ad:Addr)(qs:List Addr): qai (p::ps) (ad::qs)=(pk p.from_ p.to_,V.ref ad)::qai ps qs:=rfl
theorem q5i{k0 k:List Key}{v0 v:V}{r:List (List Key×V)}(h:¬ k0=k): putK ((k0,v0)::r) k v=(k0,v0)::putK r k v:=by
 unfold putK
 rw[Y4]
 have:decide (k0=k)=false:=J7 h
 rw[this,Qy]
 by_cases hc:(r.any fun kv=>decide (kv.1=k))=true
 ·rw[Je hc,Je hc,Jq,Jc h]
 ·rw[Jc hc,Jc hc];rfl
theorem qmr{a b:Nat}{n:List Int}{nl:Addr}: ∀ {ps:List Vbemai.Period} {qs:List Addr},qs.length=ps.length->(ps.Pairwise fun x y=>¬ (x.from_=y.from_/\x.to_=y.to_)) ->
  ((ps.find? fun p=>p.from_==a&&p.to_==b)=none/\kj (qai ps qs) (pk a b)=none/\Vbemai.putPeriod ⟨a,b,n⟩ ps=ps++[⟨a,b,n⟩]/\putK (qai ps qs) (pk a b) (.ref nl)=qai (ps++[⟨a,b,n⟩]) (qs++[nl])) \/
  ∃ p1 p p2 q1 ad q2,ps=p1++p::p2/\qs=q1++ad::q2/\p1.length=q1.length/\(ps.find? fun p=>p.from_==a&&p.to_==b)=some p/\kj (qai ps qs) (pk a b)=some (.ref ad)/\Vbemai.putPeriod ⟨a,b,n⟩ ps=p1++⟨a,b,n⟩::p2/\putK (qai ps qs) (pk a b) (.ref nl)=qai (p1++⟨a,b,n⟩::p2) (q1++nl::q2)
 |[],[],_,_=>.inl ⟨rfl,rfl,rfl,rfl⟩
 |[],_::_,h,_=>by cases h
 |_::_,[],h,_=>by cases h
 | p::ps,ad::qs,h,hp=>by
   have hp2:=Ju.mp hp
   rw[q42]
   by_cases hc:p.from_=a/\p.to_=b
   ·right
    have e1:pk p.from_ p.to_=pk a b:=by rw[hc.1,hc.2]
    refine⟨[],p,ps,[],ad,qs,rfl,rfl,rfl,?_,qfs e1,?_,?_⟩
    ·rw[Yg,hc.1,hc.2];simp
    ·show (if a=p.from_/\b=p.to_ then _ else _)=_
     rw[Je ⟨hc.1.symm,hc.2.symm⟩];rfl
    ·unfold putK
     rw[Y4,Xm e1,Bool.true_or,Je rfl,Jq,Je e1]
     show (pk p.from_ p.to_,V.ref nl)::_=(pk a b,V.ref nl)::qai ps qs
     rw[e1]
     congr 1
     refine(X5 fun kv hkv=>?_).trans (Qa _)
     show (if kv.1=pk a b then _ else kv)=kv
     rw[Jc]
     intro z
     unfold qai at hkv
     rw[List.mem_iff_getElem?] at hkv
     obtain⟨j,hj⟩:=hkv
     rw[List.getElem?_zipWith] at hj
     cases hj1:ps[j]? with
     |none=>rw[hj1] at hj;cases hj
     | some p'=>
       cases hj2:qs[j]? with
       |none=>rw[hj1,hj2] at hj;cases hj
       | some a'=>
         rw[hj1,hj2] at hj
         have hj:=(Jj hj).symm
         have h3:=hp2.1 p' (J0 hj1)
         rw[hj] at z
         exact pk_ne (p:=p') (a:=a) (b:=b) (by rw[<- hc.1,<- hc.2];exact fun q=>h3 ⟨q.1.symm,q.2.symm⟩) z
   ·have h1:(p.from_==a&&p.to_==b)=false:=by
     rw[Wb]
     intro q
     rw[Jw,Yq,Yq] at q
     exact hc q
    have h2:=pk_ne hc
    have h3:Vbemai.putPeriod ⟨a,b,n⟩ (p::ps)=p::Vbemai.putPeriod ⟨a,b,n⟩ ps:=by
     show (if a=p.from_/\b=p.to_ then _ else _)=_
     rw[Jc (fun q=>hc ⟨q.1.symm,q.2.symm⟩)]
    rw[Yg,h1,qfr h2,h3,q5i h2]
    rcases qmr (a:=a) (b:=b) (n:=n) (nl:=nl) (ps:=ps) (qs:=qs) (by simpa using h) hp2.2 with ⟨g1,g2,g3,g4⟩|⟨p1,p',p2,q1,ad',q2,g1,g2,g3,g4,g5,g6,g7⟩
    ·exact .inl ⟨g1,g2,by rw[g3];rfl,by rw[g4];rfl⟩
    ·exact .inr ⟨p::p1,p',p2,ad::q1,ad',q2,by rw[g1];rfl,by rw[g2];rfl,by simp[g3],g4,g5,by rw[g6];rfl,by rw[g7];rfl⟩
def diffO(N:List Int): Option (List Int)->List Int
 |none=>N
 |some l=>(N.zip l).map fun x=>x.1-x.2
theorem q8y{s:Sta}{a b:Nat}(hab:a<=b): Vbemai.step s (.publish a b)=if 16<=s.periods.length/\(Vbemai.lastNets s a b).isNone=true then (s,[-4]) else ({ s with periods:=Vbemai.putPeriod ⟨a,b,Vbemai.netsOf s a b⟩ s.periods },0::Vbemai.told (diffO (Vbemai.netsOf s a b) (Vbemai.lastNets s a b))):=by
 unfold Vbemai.step
 have c2:Vbemai.PERIODS=16:=rfl
 simp only[Vbemai.does,c2]
 rw[Jc (by omega)]
 by_cases h:16<=s.periods.length/\(Vbemai.lastNets s a b).isNone=true
 ·rw[Je h,Je h]
 ·rw[Jc h,Jc h]
  cases Vbemai.lastNets s a b<;>rfl
theorem sub_zero(n:List Int)(h:n.length=33): (n.zip (List.replicate 33 (0:Int))).map (fun x=>x.1-x.2)=n:=by
 refine List.ext_getElem? fun i=>?_
 rw[Jt]
 by_cases hi:i<33
 ·have h1:n[i]?=some n[i]:=Jo (by omega)
  have h2:(List.replicate 33 (0:Int))[i]?=some 0:=by rw[Uw];simp[hi]
  have:(n.zip (List.replicate 33 (0:Int)))[i]?=some (n[i],0):=by rw[Xn];exact⟨h1,h2⟩
  rw[this,h1]
  show some (n[i]-0)=_
  rw[Int.sub_zero]
 ·rw[Yn (by omega:n.length<=i),Yn (by rw[Yr,Qn];omega)];rfl
theorem q1c(T:Txt P w K mg A):
  Fn P w K mg base 7 "publish_period" ["book","given"] (qa4 A gq8):=by
 refine T.qzg.go qfn (fun _ _ _ _ h=>?_) (fun _ _ _ _ _ H _ Q _ hr h=>?_)
 ·obtain⟨st,b,g,c,rfl,_⟩:=h;rfl
 ·obtain⟨st,b,g,c,rfl,B,hga,⟨t,u,rfl,hg,htu,hu2⟩,q⟩:=h
  have hu:=yb hr
  have hgs:=QM.qeb (c:=.publish t u) B.good ⟨by omega,hu2⟩
  rw[q8y htu] at q hgs
  have hpn:=B.good.pn
  refine⟨_,(zb (k7 2 qfn.nd (qgf (zf (k6 hu zd kr) (k6 hu zd kr)))) (zb (vf (PW.pt (qe1 (qgk (qmn hu ze (zk K za))) (qe2 (vc qay (x_len T.qaw (zk K za)) (zq T.qwv))))) (vo (zo (zq T.qfx)))) (zb (k7 3 qfn.nd (zj (qph T) hr (vg za (zf (k6 hu zd kr) (k6 hu zd kr))))) (zb (k7 4 qfn.nd (qjf hu (zk K za) ze (vm qrd (vo (zo ki)) (zq T.qol)) ⟨rfl,rfl,rfl,rfl⟩)) (zb (qmu hu (zk K za) ze k9 rfl) (ko (vm qhp (vo (zo (zq T.ya))) (zj (qlo T) hr (zo (qdg rfl qfn.nd (own:=[("net",5),("earlier",6)]) (qrk rfl T.qin (zf k9 qaj)) (by walk_at "bk") (fun _ _ _ _ _=>(qex (K':=K) (n:=2) rfl rfl (qbi (vt 5 qfn.nd) (qbi (vt 6 qfn.nd) qey)))) (fun _ _ _ _ _=>qei) (fun _ _ _ _ _=>(vm qca qbo qcb)))))))))))),?_⟩
  walk_at "in"
  refine ku hg (v:=.int (t:Int)) rfl ?_
  walk_at ""
  refine ku hg (v:=.int (u:Int)) rfl ?_
  walk_at ""
  intro tp htp
  have s1:=Qz.new (o:=.tup [.int (t:Int),.int (u:Int)]) htp
  have ht1:upd H tp (.tup [.int (t:Int),.int (u:Int)]) tp=some (.tup ((pk t u).map kV)):=zc
  have B1:=B.same s1
  have hg1:=hg.same s1
  generalize upd H tp (.tup [.int (t:Int),.int (u:Int)])=H1 at *
  have hql:(qai st.periods b.qs).length=st.periods.length:=by unfold qai;rw[Qv,B.lq];omega
  have hcase:∃ (o:Option (List Int)),Vbemai.lastNets st t u=o/\(kj (qai st.periods b.qs) (pk t u)).isSome=o.isSome:=by
   refine⟨_,rfl,?_⟩
   unfold Vbemai.lastNets
   rcases qmr (a:=t) (b:=u) (n:=[]) (nl:=0) B.lq B.good.pk with ⟨g1,g2,_⟩|⟨p1,p,p2,q1,ad,q2,_,_,_,g4,g5,_⟩
   ·rw[g1,g2];rfl
   ·rw[g4,g5];rfl
  obtain⟨o,ho,hoi⟩:=hcase
  rw[ho] at q hgs
  have go:¬ (16<=st.periods.length/\o.isNone=true)->qb6 (qd1 (tFn (quq A) (vp (vd 0) (vp (qd2 (vd 1) (tC (.str "from"))) (vp (qd2 (vd 1) (tC (.str "to"))) qan)))) (qb4 3)) (qb6 (qd1 (qnq (qe6 K (vd 0) "periods") (vd 2) (tOp rRep (tLst (vp (tC (.int 0)) qan)) (tC (.int 33)))) (qb4 4)) (qb6 (qm2 (qe6 K (vd 0) "periods") (vd 2) (vd 3)) (qbz (tOp rCat (tLst (vp (tC (.int 0)) qan)) (tFn (qup K) (vp (tLc (iZip K (vp (vd 3) (vp (vd 4) qan))) (gTup K 2 (qiv (qb4 5) (qiv (qb4 6) gNil))) tYes (tOp (rI0 fun i j=>.int (i-j)) (vd 5) (vd 6)) [5,6]) qan)))))) { nx:=fun _ H'=>Q .non H',rt:=Q } [some (.ref b.a),some (.ref g),some (.ref tp),none,none,none,none] H1:=fun hc=>by
   rw[Jc hc] at q hgs
   walk_at ""
   refine ku hg1 (v:=.int (t:Int)) rfl ?_
   walk_at ""
   refine ku hg1 (v:=.int (u:Int)) rfl ?_
   walk_at ""
   refine⟨st,b,t,u,rfl,B1,htu,hu2,fun H2 nl s2 hnl hnl2=>?_⟩
   have S2:=s1.trans s2
   have B2:=B1.same s2
   have ht2:=s2 _ _ ht1
   have hnl0:=s1.free hnl
   have hn33:(Vbemai.netsOf st t u).length=33:=QM.qgc st t u
   have hsp:=qmr (a:=t) (b:=u) (n:=Vbemai.netsOf st t u) (nl:=nl) B.lq B.good.pk
   generalize hN:Vbemai.netsOf st t u=N at *
   walk_at ""
   intro z0 hz0
   have s3:=Qz.new (o:=.lst [.int 0]) hz0
   have hz1:upd H2 z0 (.lst [.int 0]) z0=some (.lst [.int 0]):=zc
   generalize upd H2 z0 (.lst [.int 0])=H3 at *
   walk_at ""
   refine⟨z0,33,_,rfl,rfl,hz1,by decide,by decide,by decide,fun zl hzl=>?_⟩
   have e0:(List.replicate (Int.toNat 33) [V.int 0]).flatten=vI (List.replicate 33 0):=rfl
   rw[e0]
   have s4:=Qz.new (o:=.lst (vI (List.replicate 33 0))) hzl
   have hzl4:upd H3 zl (.lst (vI (List.replicate 33 0))) zl=some (.lst (vI (List.replicate 33 0))):=zc
   generalize upd H3 zl (.lst (vI (List.replicate 33 0)))=H4 at *
   have S24:Qz H2 H4:=s3.trans s4
   have S4:=S2.trans S24
   have B4:=B.same S4
   have ht4:=S24 _ _ ht2
   have hnl4:=S24 _ _ hnl2
   refine r_d2Tb (k:=pk t u) B4.oQ ht4 ?_
   have hbef:∃ (ba:Addr) (bl:List Int) (qs':List Addr),(kj (qai st.periods b.qs) (pk t u)).getD (.ref zl) = .ref ba/\H4 ba=some (.lst (vI bl))/\bl.length=33/\ba≠b.aQ/\((N.zip bl).map fun x=>x.1-x.2)=diffO N o /\
     putK (qai st.periods b.qs) (pk t u) (.ref nl)=qai (Vbemai.putPeriod ⟨t,u,N⟩ st.periods) qs' /\
     ∀ H5,H5=upd H4 b.aQ (.dT (qai (Vbemai.putPeriod ⟨t,u,N⟩ st.periods) qs'))->Vj A H st b H5 { st with periods:=Vbemai.putPeriod ⟨t,u,N⟩ st.periods } { b with qs:=qs' }:=by
    have hQb:b.a≠b.aQ:=qah B.o B.oQ (by intro z;cases z)
    have hQn:b.aQ≠nl:=k8 B.oQ hnl0
    unfold Vbemai.lastNets at ho
    rcases hsp with ⟨g1,g2,g3,g4⟩|⟨p1,p,p2,q1,ad,q2,g1,g2,g3,g4,g5,g6,g7⟩
    ·rw[g1] at ho
     refine⟨zl,List.replicate 33 0,b.qs++[nl],by rw[g2];rfl,hzl4,Qn,qah hzl4 B4.oQ (by intro z;cases z),?_,by rw[g3];exact g4,fun H5 hH5=>?_⟩
     ·rw[<- ho];exact sub_zero N hn33
     ·subst hH5
      rw[g3] at hgs ⊢
      refine qf7 B (c0:=bC A st b) (c0':=bC A { st with periods:=st.periods++[⟨t,u,N⟩] } { b with qs:=b.qs++[nl] }) (N:=[qC st b]) (N':=[qC { st with periods:=st.periods++[⟨t,u,N⟩] } { b with qs:=b.qs++[nl] },qbm ⟨t,u,N⟩ nl]) (R:=pC b::mC b::(qbe A st b++(qbd A st b++nets st b))) ?_ ?_ rfl ?_ ?_ ?_ ?_ ?_ hgs rfl B.lp B.lm ?_ ?_ (Qae.of_same S4).upd
      ·rw[qdo]
       classical
       refine List.Perm.cons _ ?_
       refine Xc.mpr fun a=>?_
       simp only[Xs,Xz,Yh]
       omega
      ·have e1:nets { st with periods:=st.periods++[⟨t,u,N⟩] } { b with qs:=b.qs++[nl] }=nets st b++[qbm ⟨t,u,N⟩ nl]:=by
        unfold nets
        show List.zipWith qbm (st.periods++[_]) (b.qs++[_])=_
        rw[Yi B.lq.symm];rfl
       rw[qdo,e1]
       classical
       refine List.Perm.cons _ ?_
       refine Xc.mpr fun a=>?_
       show List.count a (pC b::mC b::qC _ _::(qbe A st b++(qbd A st b++_)))=_
       simp only[Xs,Xz,Yh]
       omega
      ·show upd H4 b.aQ _ b.a=_
       rw[qc hQb];exact S4 _ _ B.o
      ·intro c hc
       simp only[Jf,Xa,Y0] at hc
       rcases hc with rfl|rfl
       ·exact zc
       ·show upd H4 b.aQ _ nl=_
        rw[qc hQn.symm];exact hnl4
      ·show [b.aQ,nl].Nodup
       simp only[Xf,Jf,Xa,Y0,Yb,Qx,Zj]
       exact hQn
      ·intro a ha
       have ha:a∈[b.aQ,nl]:=ha
       simp only[Jf,Xa,Y0] at ha
       rcases ha with rfl|rfl
       ·exact .inl (Jh ..)
       ·exact .inr hnl0
      ·intro a o h1 h2 h3
       have h2:a≠b.aQ:=fun z=>h2 (by rw[z];exact Jh ..)
       rw[qc h2];exact S4 _ _ h3
      ·show (b.qs++[_]).length=(st.periods++[_]).length
       rw[Jx,Jx,B.lq];rfl
      ·intro j y n h1 h2
       obtain⟨r1,r2,r3⟩:=B.mr j y n h1 h2
       exact⟨r1,r2,r3⟩
    ·rw[g4] at ho
     have hpi:st.periods[p1.length]?=some p:=by rw[g1];simp
     have hqi:b.qs[p1.length]?=some ad:=by rw[g2,g3];simp
     have had:=B4.net hpi hqi
     have hadl:=(B.good.po p (J0 hpi)).1
     refine⟨ad,p.nets,q1++nl::q2,by rw[g5];rfl,had,hadl,qah had B4.oQ (by intro z;cases z),?_,by rw[g6];exact g7,fun H5 hH5=>?_⟩
     ·rw[<- ho];rfl
     ·subst hH5
      rw[g6] at hgs ⊢
      have hne:b.aQ≠ad:=qah B4.oQ had (by intro z;cases z)
      have hnad:nl≠ad:=(k8 (B.net hpi hqi) hnl0).symm
      refine qf7 B (c0:=bC A st b) (c0':=bC A { st with periods:=p1++⟨t,u,N⟩::p2 } { b with qs:=q1++nl::q2 }) (N:=[qC st b,qbm p ad]) (N':=[qC { st with periods:=p1++⟨t,u,N⟩::p2 } { b with qs:=q1++nl::q2 },qbm ⟨t,u,N⟩ nl]) (R:=pC b::mC b::(qbe A st b++(qbd A st b++(List.zipWith qbm p1 q1++List.zipWith qbm p2 q2)))) ?_ ?_ rfl ?_ ?_ ?_ ?_ ?_ hgs rfl B.lp B.lm ?_ ?_ (Qae.of_same S4).upd
      ·have e1:nets st b=List.zipWith qbm p1 q1++qbm p ad::List.zipWith qbm p2 q2:=by
        unfold nets
        rw[g1,g2,Yi g3];rfl
       rw[qdo,e1]
       classical
       refine List.Perm.cons _ ?_
       refine Xc.mpr fun a=>?_
       simp only[Xs,Xz,Yh]
       omega
      ·have e1:nets { st with periods:=p1++⟨t,u,N⟩::p2 } { b with qs:=q1++nl::q2 }=List.zipWith qbm p1 q1++qbm ⟨t,u,N⟩ nl::List.zipWith qbm p2 q2:=by
        unfold nets
        show List.zipWith qbm (p1++_::p2) (q1++nl::q2)=_
        rw[Yi g3];rfl
       rw[qdo,e1]
       classical
       refine List.Perm.cons _ ?_
       refine Xc.mpr fun a=>?_
       show List.count a (pC b::mC b::qC _ _::(qbe A st b++(qbd A st b++_)))=_
       simp only[Xs,Xz,Yh]
       omega
      ·show upd H4 b.aQ _ b.a=_
       rw[qc hQb];exact S4 _ _ B.o
      ·intro c hc
       simp only[Jf,Xa,Y0] at hc
       rcases hc with rfl|rfl
       ·exact zc
       ·show upd H4 b.aQ _ nl=_
        rw[qc hQn.symm];exact hnl4
      ·show [b.aQ,nl].Nodup
       simp only[Xf,Jf,Xa,Y0,Yb,Qx,Zj]
       exact hQn
      ·intro a ha
       have ha:a∈[b.aQ,nl]:=ha
       simp only[Jf,Xa,Y0] at ha
       rcases ha with rfl|rfl
       ·exact .inl (Jh ..)
       ·exact .inr hnl0
      ·intro a o h1 h2 h3
       have h2:a≠b.aQ:=fun z=>h2 (by rw[z];exact Jh ..)
       rw[qc h2];exact S4 _ _ h3
      ·show (q1++nl::q2).length=(p1++_::p2).length
       have:=B.lq
       rw[g1,g2] at this
       simp at this ⊢
       omega
      ·intro j y n h1 h2
       obtain⟨r1,r2,r3⟩:=B.mr j y n h1 h2
       exact⟨r1,r2,r3⟩
   obtain⟨ba,bl,qs',f1,f2,f3,f4,f5,f6,f7⟩:=hbef
   rw[f1]
   rw[<- f5] at q
   walk_at ""
   refine r_dpT (k:=pk t u) B4.oQ ht4 (qar (by rw[hql];omega)) ?_
   rw[f6]
   have KK:=f7 _ rfl
   have hba5:upd H4 b.aQ (.dT (qai (Vbemai.putPeriod ⟨t,u,N⟩ st.periods) qs')) ba=some (.lst (vI bl)):=by rw[qc f4];exact f2
   have hnl5:upd H4 b.aQ (.dT (qai (Vbemai.putPeriod ⟨t,u,N⟩ st.periods) qs')) nl=some (.lst (vI N)):=by rw[qc (qah hnl4 B4.oQ (by intro z;cases z))];exact hnl4
   generalize upd H4 b.aQ (.dT (qai (Vbemai.putPeriod ⟨t,u,N⟩ st.periods) qs'))=H5 at *
   walk_at ""
   intro z5 hz5
   have s6:=Qz.new (o:=.lst [.int 0]) hz5
   have hz6:upd H5 z5 (.lst [.int 0]) z5=some (.lst [.int 0]):=zc
   have hba6:=s6 _ _ hba5
   have hnl6:=s6 _ _ hnl5
   generalize upd H5 z5 (.lst [.int 0])=H6 at *
   walk_at ""
   refine r_iz (SqL.of hnl6) (SqL.of hba6) ?_
   refine qe4 33 (fun i=>vI (((N.zip bl).map fun x=>x.1-x.2).take i)) rfl (fun i H' hi s7=>?_) (fun H' s7=>⟨_,_,SqL.of (s7 _ _ hnl6),SqL.of (s7 _ _ hba6),.inl (by rw[qas];omega)⟩) ?_ ?_
   ·exact⟨_,_,.int (N[i]'(by omega)),.int (bl[i]'(by omega)),SqL.of (s7 _ _ hnl6),SqL.of (s7 _ _ hba6),qcp (Jo _),qcp (Jo _)⟩
   ·rintro D i H7 v H7' hi p ⟨tt,x1,y1,rfl,htt,rfl,hx1,hy1⟩
    have h1:N[i]?=some (N[i]'(by omega)):=Jo _
    have h2:bl[i]?=some (bl[i]'(by omega)):=Jo _
    generalize N[i]'(by omega)=n1 at h1
    generalize bl[i]'(by omega)=n2 at h2
    have e1:=hx1 _ (SqL.of (p.same _ _ hnl6))
    rw[qcp h1] at e1
    have e2:=hy1 _ (SqL.of (p.same _ _ hba6))
    rw[qcp h2] at e2
    cases e1;cases e2
    have s8:=Qz.new (o:=.tup [.int n1,.int n2]) htt
    walk_at ""
    refine qe3 (SqT.of zc) rfl ?_
    walk_at ""
    refine⟨rfl,?_⟩
    walk_at ""
    refine qag ?_
    walk_at ""
    refine p.yes (qar (by omega)) s8 ?_
    show vI (List.take (i+1) _)=_
    have e3:((N.zip bl).map fun x=>x.1-x.2)[i]?=some (n1-n2):=by
     rw[Jt]
     have:(N.zip bl)[i]?=some (n1,n2):=by rw[Xn];exact⟨h1,h2⟩
     rw[this];rfl
    rw[Xq,e3];simp[vI]
   ·intro D H7 hD s7 hD7
    have hdl:((N.zip bl).map fun x=>x.1-x.2).length=33:=by rw[Jd,Yr];omega
    rw[Wz (by omega)] at hD7
    walk_at ""
    refine⟨D,_,rfl,SqL.of hD7,by omega,fun H8 l8 s8 hl8 hl8'=>?_⟩
    walk_at ""
    have htl:=QM.qgz ((N.zip bl).map fun x=>x.1-x.2)
    refine qhx ((s7.trans s8) _ _ hz6) hl8' (by rw[qas];exact Xj (qar (by simp only[Jz,Y3];omega))) fun l hl=>?_
    have K8:=(KK.same (s6.trans (s7.trans s8)))
    exact q _ _ l (K8.same (Qz.new hl)) (K8.lv.free hl) zc
  walk_at ""
  refine r_dnT (k:=pk t u) B1.oQ ht1 ?_
  rw[hoi]
  walk_at ""
  cases o with
  | some l0=>
    refine qam ?_
    exact go (fun z=>nomatch z.2)
  | none=>
    refine qag ?_
    walk_at ""
    refine qau (lenTT B1.oQ) ?_
    rw[hql]
    walk_at ""
    refine ifD (fun c=>?_) (fun c=>?_)
    ·rw[Je ⟨by omega,rfl⟩] at q
     walk_at ""
     intro l hl
     exact q _ b l (Vj.of_same B (s1.trans (Qz.new hl))) (s1.free hl) zc
    ·exact go (fun z=>by have:=z.1;omega)
def mtr:Vbemai.Call->Option Nat
 | .read m _ _ _=>some m | .swap m _ _ _ _ _=>some m | .remove m _ _=>some m | .rate m _=>some m | .assign m _ _=>some m
 | .standing m _=>some m | .history m _=>some m | .value m _=>some m | .between m _ _=>some m | .through m _=>some m | .hand m _=>some m | .gaps m=>some m | .doubt m _=>some m
 |_=>none
def back:Vbemai.Call->Bool
 | .publish a b=>decide (b<a) | .between _ a b=>decide (b<a) | .total _ _ a b=>decide (b<a) | .rest _ a b=>decide (b<a) | .nets a b=>decide (b<a)
 |_=>false
theorem q8u{s:Sta}{c:Vbemai.Call}{m:Nat}(h:mtr c=some m)(hm:Vbemai.meter? s m=none): Vbemai.step s c=(s,[-3]):=by
 cases c<;>simp only[mtr,Option.some.injEq,reduceCtorEq] at h<;>subst h<;>simp only[Vbemai.step,Vbemai.does,hm]<;>rfl
theorem q8n{s:Sta}{c:Vbemai.Call}(h:back c=true)(hm:∀ m,mtr c=some m->∃ x,Vbemai.meter? s m=some x): Vbemai.step s c=(s,[-11]):=by
 cases c with
 |publish a b=>have h:=Zl h;simp only[Vbemai.step,Vbemai.does];rw[Je h]
 | between m a b=>
   have h:=Zl h
   obtain⟨x,hx⟩:=hm m rfl
   simp only[Vbemai.step,Vbemai.does,hx]
   rw[Jc (by simp),Je h]
 |total x y a b=>have h:=Zl h;simp only[Vbemai.step,Vbemai.does];rw[Je h]
 |rest x a b=>have h:=Zl h;simp only[Vbemai.step,Vbemai.does];rw[Je h]
 |nets a b=>have h:=Zl h;simp only[Vbemai.step,Vbemai.does];rw[Je h]
 |_=>cases h
structure RowOk(k:Nat)(as:List Int)(c:Vbemai.Call): Prop where
 dec:Vbemai.decode [(k:Int)::as]=some c
 m:(mtr c=none/\kj (gK (vn k) as) (Sum.inr (Str.ofString "meter"))=none)\/∃ n:Nat,mtr c=some n/\1<=n/\kj (gK (vn k) as) (Sum.inr (Str.ofString "meter"))=some (.int (n:Int))
 t:(kj (gK (vn k) as) (Sum.inr (Str.ofString "to"))=none/\back c=false)\/∃ a b:Int,kj (gK (vn k) as) (Sum.inr (Str.ofString "to"))=some (.int b)/\kj (gK (vn k) as) (Sum.inr (Str.ofString "from"))=some (.int a)/\back c=(decide (b<a) && !decide (k=21))
 g:∀ (s:Sta) (H:Hp) (g:Addr),GV H g k as->(∀ n,mtr c=some n->∃ i x,n=i+1/\s.meters[i]?=some x)->back c=false->gqN k H g s c
def Qa1(k:Nat)(as:List Int): Prop:=(zm (zp k) as=false/\Vbemai.decode [(k:Int)::as]=none)\/∃ c,RowOk k as c
theorem qk1(k z y t d f v p r:Int): Vbemai.decode [[1,k,z,y,t,d,f,v,p,r]]=Vbemai.guard (zm (zp 1) [k,z,y,t,d,f,v,p,r]) (.install k.toNat z.toNat y.toNat t.toNat d.toNat f v p.toNat r):=by
 simp only[zm,zp,Jy];rfl
theorem rows_1(as:List Int)(hl:as.length=(vn 1).length): Qa1 1 as:=by
 match as,hl with
 | [k,z,y,t,d,f,v,p,r],_=>
   cases hb:zm (zp 1) [k,z,y,t,d,f,v,p,r] with
   |false=>exact .inl ⟨hb,by show Vbemai.decode [[1,k,z,y,t,d,f,v,p,r]]=none;rw[qk1,hb];rfl⟩
   | true=>
     have hb2:=hb
     simp only[zm,zp,Jy,Jw,Vbemai.inside,J9] at hb2
     obtain⟨⟨l0,u0⟩,⟨l1,u1⟩,⟨l2,u2⟩,⟨l3,u3⟩,⟨l4,u4⟩,⟨l5,u5⟩,⟨l6,u6⟩,⟨l7,u7⟩,⟨l8,u8⟩⟩:=hb2
     obtain⟨k,rfl⟩:∃ nn:Nat,k=(nn:Int):=⟨k.toNat,by omega⟩
     obtain⟨z,rfl⟩:∃ nn:Nat,z=(nn:Int):=⟨z.toNat,by omega⟩
     obtain⟨y,rfl⟩:∃ nn:Nat,y=(nn:Int):=⟨y.toNat,by omega⟩
     obtain⟨t,rfl⟩:∃ nn:Nat,t=(nn:Int):=⟨t.toNat,by omega⟩
     obtain⟨d,rfl⟩:∃ nn:Nat,d=(nn:Int):=⟨d.toNat,by omega⟩
     obtain⟨p,rfl⟩:∃ nn:Nat,p=(nn:Int):=⟨p.toNat,by omega⟩
     refine .inr ⟨.install k z y t d f v p r,?_,?_,?_,fun s H g hg hm hbk=>?_⟩
     ·show Vbemai.decode [[1,k,z,y,t,d,f,v,p,r]]=_
      rw[qk1,hb];simp only[J1];rfl
     ·exact .inl ⟨rfl,rfl⟩
     ·exact .inl ⟨rfl,rfl⟩
     ·skip
      exact⟨k,z,y,t,d,f,v,p,r,rfl,hg,⟨by omega,by omega,by omega,by omega,by omega,by omega,by omega,by omega,by omega,by omega,by omega⟩,by omega⟩
theorem qlc(m t n v:Int): Vbemai.decode [[2,m,t,n,v]]=Vbemai.guard (zm (zp 2) [m,t,n,v]) (.read m.toNat t.toNat n.toNat v):=by
 simp only[zm,zp,Jy];rfl
theorem rows_2(as:List Int)(hl:as.length=(vn 2).length): Qa1 2 as:=by
 match as,hl with
 | [m,t,n,v],_=>
   cases hb:zm (zp 2) [m,t,n,v] with
   |false=>exact .inl ⟨hb,by show Vbemai.decode [[2,m,t,n,v]]=none;rw[qlc,hb];rfl⟩
   | true=>
     have hb2:=hb
     simp only[zm,zp,Jy,Jw,Vbemai.inside,J9] at hb2
     obtain⟨⟨l0,u0⟩,⟨l1,u1⟩,⟨l2,u2⟩,⟨l3,u3⟩⟩:=hb2
     obtain⟨m,rfl⟩:∃ nn:Nat,m=(nn:Int):=⟨m.toNat,by omega⟩
     obtain⟨t,rfl⟩:∃ nn:Nat,t=(nn:Int):=⟨t.toNat,by omega⟩
     obtain⟨n,rfl⟩:∃ nn:Nat,n=(nn:Int):=⟨n.toNat,by omega⟩
     refine .inr ⟨.read m t n v,?_,?_,?_,fun s H g hg hm hbk=>?_⟩
     ·show Vbemai.decode [[2,m,t,n,v]]=_
      rw[qlc,hb];simp only[J1];rfl
     ·exact .inr ⟨m,rfl,by omega,rfl⟩
     ·exact .inl ⟨rfl,rfl⟩
     ·obtain⟨i,x,e,hx⟩:=hm m rfl
      subst e
      exact⟨i,t,n,v,x,rfl,hg,⟨by omega,by omega,by omega,by omega,by omega⟩,hx⟩
theorem qlf(m t e v d f:Int): Vbemai.decode [[3,m,t,e,v,d,f]]=Vbemai.guard (zm (zp 3) [m,t,e,v,d,f]) (.swap m.toNat t.toNat e v d.toNat f):=by
 simp only[zm,zp,Jy];rfl
theorem rows_3(as:List Int)(hl:as.length=(vn 3).length): Qa1 3 as:=by
 match as,hl with
 | [m,t,e,v,d,f],_=>
   cases hb:zm (zp 3) [m,t,e,v,d,f] with
   |false=>exact .inl ⟨hb,by show Vbemai.decode [[3,m,t,e,v,d,f]]=none;rw[qlf,hb];rfl⟩
   | true=>
     have hb2:=hb
     simp only[zm,zp,Jy,Jw,Vbemai.inside,J9] at hb2
     obtain⟨⟨l0,u0⟩,⟨l1,u1⟩,⟨l2,u2⟩,⟨l3,u3⟩,⟨l4,u4⟩,⟨l5,u5⟩⟩:=hb2
     obtain⟨m,rfl⟩:∃ nn:Nat,m=(nn:Int):=⟨m.toNat,by omega⟩
     obtain⟨t,rfl⟩:∃ nn:Nat,t=(nn:Int):=⟨t.toNat,by omega⟩
     obtain⟨d,rfl⟩:∃ nn:Nat,d=(nn:Int):=⟨d.toNat,by omega⟩
     refine .inr ⟨.swap m t e v d f,?_,?_,?_,fun s H g hg hm hbk=>?_⟩
     ·show Vbemai.decode [[3,m,t,e,v,d,f]]=_
      rw[qlf,hb];simp only[J1];rfl
     ·exact .inr ⟨m,rfl,by omega,rfl⟩
     ·exact .inl ⟨rfl,rfl⟩
     ·obtain⟨i,x,e,hx⟩:=hm m rfl
      subst e
      exact⟨i,t,e,v,d,f,x,rfl,hg,⟨by omega,by omega,by omega,by omega,by omega,by omega,by omega⟩,hx⟩
theorem qlg(m t e:Int): Vbemai.decode [[4,m,t,e]]=Vbemai.guard (zm (zp 4) [m,t,e]) (.remove m.toNat t.toNat e):=by
 simp only[zm,zp,Jy];rfl
theorem rows_4(as:List Int)(hl:as.length=(vn 4).length): Qa1 4 as:=by
 match as,hl with
 | [m,t,e],_=>
   cases hb:zm (zp 4) [m,t,e] with
   |false=>exact .inl ⟨hb,by show Vbemai.decode [[4,m,t,e]]=none;rw[qlg,hb];rfl⟩
   | true=>
     have hb2:=hb
     simp only[zm,zp,Jy,Jw,Vbemai.inside,J9] at hb2
     obtain⟨⟨l0,u0⟩,⟨l1,u1⟩,⟨l2,u2⟩⟩:=hb2
     obtain⟨m,rfl⟩:∃ nn:Nat,m=(nn:Int):=⟨m.toNat,by omega⟩
     obtain⟨t,rfl⟩:∃ nn:Nat,t=(nn:Int):=⟨t.toNat,by omega⟩
     refine .inr ⟨.remove m t e,?_,?_,?_,fun s H g hg hm hbk=>?_⟩
     ·show Vbemai.decode [[4,m,t,e]]=_
      rw[qlg,hb];simp only[J1];rfl
     ·exact .inr ⟨m,rfl,by omega,rfl⟩
     ·exact .inl ⟨rfl,rfl⟩
     ·obtain⟨i,x,e,hx⟩:=hm m rfl
      subst e
      exact⟨i,t,e,x,rfl,hg,⟨by omega,by omega⟩,hx⟩
theorem qlh(m r:Int): Vbemai.decode [[5,m,r]]=Vbemai.guard (zm (zp 5) [m,r]) (.rate m.toNat r):=by
 simp only[zm,zp,Jy];rfl
theorem rows_5(as:List Int)(hl:as.length=(vn 5).length): Qa1 5 as:=by
 match as,hl with
 | [m,r],_=>
   cases hb:zm (zp 5) [m,r] with
   |false=>exact .inl ⟨hb,by show Vbemai.decode [[5,m,r]]=none;rw[qlh,hb];rfl⟩
   | true=>
     have hb2:=hb
     simp only[zm,zp,Jy,Jw,Vbemai.inside,J9] at hb2
     obtain⟨⟨l0,u0⟩,⟨l1,u1⟩⟩:=hb2
     obtain⟨m,rfl⟩:∃ nn:Nat,m=(nn:Int):=⟨m.toNat,by omega⟩
     refine .inr ⟨.rate m r,?_,?_,?_,fun s H g hg hm hbk=>?_⟩
     ·show Vbemai.decode [[5,m,r]]=_
      rw[qlh,hb];simp only[J1];rfl
     ·exact .inr ⟨m,rfl,by omega,rfl⟩
     ·exact .inl ⟨rfl,rfl⟩
     ·obtain⟨i,x,e,hx⟩:=hm m rfl
      subst e
      exact⟨i,r,x,rfl,hg,⟨by omega,by omega⟩,hx⟩
theorem qli(m q h:Int): Vbemai.decode [[6,m,q,h]]=Vbemai.guard (zm (zp 6) [m,q,h]) (.assign m.toNat q.toNat h.toNat):=by
 simp only[zm,zp,Jy];rfl
theorem rows_6(as:List Int)(hl:as.length=(vn 6).length): Qa1 6 as:=by
 match as,hl with
 | [m,q,h],_=>
   cases hb:zm (zp 6) [m,q,h] with
   |false=>exact .inl ⟨hb,by show Vbemai.decode [[6,m,q,h]]=none;rw[qli,hb];rfl⟩
   | true=>
     have hb2:=hb
     simp only[zm,zp,Jy,Jw,Vbemai.inside,J9] at hb2
     obtain⟨⟨l0,u0⟩,⟨l1,u1⟩,⟨l2,u2⟩⟩:=hb2
     obtain⟨m,rfl⟩:∃ nn:Nat,m=(nn:Int):=⟨m.toNat,by omega⟩
     obtain⟨q,rfl⟩:∃ nn:Nat,q=(nn:Int):=⟨q.toNat,by omega⟩
     obtain⟨h,rfl⟩:∃ nn:Nat,h=(nn:Int):=⟨h.toNat,by omega⟩
     refine .inr ⟨.assign m q h,?_,?_,?_,fun s H g hg hm hbk=>?_⟩
     ·show Vbemai.decode [[6,m,q,h]]=_
      rw[qli,hb];simp only[J1];rfl
     ·exact .inr ⟨m,rfl,by omega,rfl⟩
     ·exact .inl ⟨rfl,rfl⟩
     ·obtain⟨i,x,e,hx⟩:=hm m rfl
      subst e
      exact⟨i,q,h,x,rfl,hg,⟨by omega,by omega⟩,hx⟩
theorem qlj(t:Int): Vbemai.decode [[7,t]]=Vbemai.guard (zm (zp 7) [t]) (.lock t.toNat):=by
 simp only[zm,zp,Jy];rfl
theorem rows_7(as:List Int)(hl:as.length=(vn 7).length): Qa1 7 as:=by
 match as,hl with
 | [t],_=>
   cases hb:zm (zp 7) [t] with
   |false=>exact .inl ⟨hb,by show Vbemai.decode [[7,t]]=none;rw[qlj,hb];rfl⟩
   | true=>
     have hb2:=hb
     simp only[zm,zp,Jy,Jw,Vbemai.inside,J9] at hb2
     obtain⟨l0,u0⟩:=hb2
     obtain⟨t,rfl⟩:∃ nn:Nat,t=(nn:Int):=⟨t.toNat,by omega⟩
     refine .inr ⟨.lock t,?_,?_,?_,fun s H g hg hm hbk=>?_⟩
     ·show Vbemai.decode [[7,t]]=_
      rw[qlj,hb];simp only[J1];rfl
     ·exact .inl ⟨rfl,rfl⟩
     ·exact .inl ⟨rfl,rfl⟩
     ·skip
      exact⟨t,rfl,hg,(show (_:Nat)<=10000 by omega)⟩
theorem qlk(a b:Int): Vbemai.decode [[8,a,b]]=Vbemai.guard (zm (zp 8) [a,b]) (.publish a.toNat b.toNat):=by
 simp only[zm,zp,Jy];rfl
theorem rows_8(as:List Int)(hl:as.length=(vn 8).length): Qa1 8 as:=by
 match as,hl with
 | [a,b],_=>
   cases hb:zm (zp 8) [a,b] with
   |false=>exact .inl ⟨hb,by show Vbemai.decode [[8,a,b]]=none;rw[qlk,hb];rfl⟩
   | true=>
     have hb2:=hb
     simp only[zm,zp,Jy,Jw,Vbemai.inside,J9] at hb2
     obtain⟨⟨l0,u0⟩,⟨l1,u1⟩⟩:=hb2
     obtain⟨a,rfl⟩:∃ nn:Nat,a=(nn:Int):=⟨a.toNat,by omega⟩
     obtain⟨b,rfl⟩:∃ nn:Nat,b=(nn:Int):=⟨b.toNat,by omega⟩
     refine .inr ⟨.publish a b,?_,?_,?_,fun s H g hg hm hbk=>?_⟩
     ·show Vbemai.decode [[8,a,b]]=_
      rw[qlk,hb];simp only[J1];rfl
     ·exact .inl ⟨rfl,rfl⟩
     ·exact .inr ⟨a,b,rfl,rfl,(by show _=(decide (_:Prop)&&true);rw[Jy];exact Yt.mpr (by omega))⟩
     ·skip
      have hbk:decide (b<a)=false:=hbk
      have hab:=Wv hbk
      exact⟨a,b,rfl,hg,by omega,by omega⟩
theorem qll(m t:Int): Vbemai.decode [[9,m,t]]=Vbemai.guard (zm (zp 9) [m,t]) (.standing m.toNat t.toNat):=by
 simp only[zm,zp,Jy];rfl
theorem rows_9(as:List Int)(hl:as.length=(vn 9).length): Qa1 9 as:=by
 match as,hl with
 | [m,t],_=>
   cases hb:zm (zp 9) [m,t] with
   |false=>exact .inl ⟨hb,by show Vbemai.decode [[9,m,t]]=none;rw[qll,hb];rfl⟩
   | true=>
     have hb2:=hb
     simp only[zm,zp,Jy,Jw,Vbemai.inside,J9] at hb2
     obtain⟨⟨l0,u0⟩,⟨l1,u1⟩⟩:=hb2
     obtain⟨m,rfl⟩:∃ nn:Nat,m=(nn:Int):=⟨m.toNat,by omega⟩
     obtain⟨t,rfl⟩:∃ nn:Nat,t=(nn:Int):=⟨t.toNat,by omega⟩
     refine .inr ⟨.standing m t,?_,?_,?_,fun s H g hg hm hbk=>?_⟩
     ·show Vbemai.decode [[9,m,t]]=_
      rw[qll,hb];simp only[J1];rfl
     ·exact .inr ⟨m,rfl,by omega,rfl⟩
     ·exact .inl ⟨rfl,rfl⟩
     ·obtain⟨i,x,e,hx⟩:=hm m rfl
      subst e
      exact⟨i,t,x,rfl,hg,hx⟩
theorem qk2(m t:Int): Vbemai.decode [[10,m,t]]=Vbemai.guard (zm (zp 10) [m,t]) (.history m.toNat t.toNat):=by
 simp only[zm,zp,Jy];rfl
theorem q5s(as:List Int)(hl:as.length=(vn 10).length): Qa1 10 as:=by
 match as,hl with
 | [m,t],_=>
   cases hb:zm (zp 10) [m,t] with
   |false=>exact .inl ⟨hb,by show Vbemai.decode [[10,m,t]]=none;rw[qk2,hb];rfl⟩
   | true=>
     have hb2:=hb
     simp only[zm,zp,Jy,Jw,Vbemai.inside,J9] at hb2
     obtain⟨⟨l0,u0⟩,⟨l1,u1⟩⟩:=hb2
     obtain⟨m,rfl⟩:∃ nn:Nat,m=(nn:Int):=⟨m.toNat,by omega⟩
     obtain⟨t,rfl⟩:∃ nn:Nat,t=(nn:Int):=⟨t.toNat,by omega⟩
     refine .inr ⟨.history m t,?_,?_,?_,fun s H g hg hm hbk=>?_⟩
     ·show Vbemai.decode [[10,m,t]]=_
      rw[qk2,hb];simp only[J1];rfl
     ·exact .inr ⟨m,rfl,by omega,rfl⟩
     ·exact .inl ⟨rfl,rfl⟩
     ·obtain⟨i,x,e,hx⟩:=hm m rfl
      subst e
      exact⟨i,t,x,rfl,hg,hx⟩
theorem qk3(m q:Int): Vbemai.decode [[11,m,q]]=Vbemai.guard (zm (zp 11) [m,q]) (.value m.toNat q.toNat):=by
 simp only[zm,zp,Jy];rfl
theorem q5t(as:List Int)(hl:as.length=(vn 11).length): Qa1 11 as:=by
 match as,hl with
 | [m,q],_=>
   cases hb:zm (zp 11) [m,q] with
   |false=>exact .inl ⟨hb,by show Vbemai.decode [[11,m,q]]=none;rw[qk3,hb];rfl⟩
   | true=>
     have hb2:=hb
     simp only[zm,zp,Jy,Jw,Vbemai.inside,J9] at hb2
     obtain⟨⟨l0,u0⟩,⟨l1,u1⟩⟩:=hb2
     obtain⟨m,rfl⟩:∃ nn:Nat,m=(nn:Int):=⟨m.toNat,by omega⟩
     obtain⟨q,rfl⟩:∃ nn:Nat,q=(nn:Int):=⟨q.toNat,by omega⟩
     refine .inr ⟨.value m q,?_,?_,?_,fun s H g hg hm hbk=>?_⟩
     ·show Vbemai.decode [[11,m,q]]=_
      rw[qk3,hb];simp only[J1];rfl
     ·exact .inr ⟨m,rfl,by omega,rfl⟩
     ·exact .inl ⟨rfl,rfl⟩
     ·obtain⟨i,x,e,hx⟩:=hm m rfl
      subst e
      exact⟨i,q,x,rfl,hg,by omega,hx⟩
theorem qk4(m a b:Int): Vbemai.decode [[12,m,a,b]]=Vbemai.guard (zm (zp 12) [m,a,b]) (.between m.toNat a.toNat b.toNat):=by
 simp only[zm,zp,Jy];rfl
theorem q5u(as:List Int)(hl:as.length=(vn 12).length): Qa1 12 as:=by
 match as,hl with
 | [m,a,b],_=>
   cases hb:zm (zp 12) [m,a,b] with
   |false=>exact .inl ⟨hb,by show Vbemai.decode [[12,m,a,b]]=none;rw[qk4,hb];rfl⟩
   | true=>
     have hb2:=hb
     simp only[zm,zp,Jy,Jw,Vbemai.inside,J9] at hb2
     obtain⟨⟨l0,u0⟩,⟨l1,u1⟩,⟨l2,u2⟩⟩:=hb2
     obtain⟨m,rfl⟩:∃ nn:Nat,m=(nn:Int):=⟨m.toNat,by omega⟩
     obtain⟨a,rfl⟩:∃ nn:Nat,a=(nn:Int):=⟨a.toNat,by omega⟩
     obtain⟨b,rfl⟩:∃ nn:Nat,b=(nn:Int):=⟨b.toNat,by omega⟩
     refine .inr ⟨.between m a b,?_,?_,?_,fun s H g hg hm hbk=>?_⟩
     ·show Vbemai.decode [[12,m,a,b]]=_
      rw[qk4,hb];simp only[J1];rfl
     ·exact .inr ⟨m,rfl,by omega,rfl⟩
     ·exact .inr ⟨a,b,rfl,rfl,(by show _=(decide (_:Prop)&&true);rw[Jy];exact Yt.mpr (by omega))⟩
     ·obtain⟨i,x,e,hx⟩:=hm m rfl
      subst e
      have hbk:decide (b<a)=false:=hbk
      have hab:=Wv hbk
      exact⟨i,a,b,x,rfl,hg,by omega,by omega,hx⟩
theorem qk5(m t:Int): Vbemai.decode [[13,m,t]]=Vbemai.guard (zm (zp 13) [m,t]) (.through m.toNat t.toNat):=by
 simp only[zm,zp,Jy];rfl
theorem q5v(as:List Int)(hl:as.length=(vn 13).length): Qa1 13 as:=by
 match as,hl with
 | [m,t],_=>
   cases hb:zm (zp 13) [m,t] with
   |false=>exact .inl ⟨hb,by show Vbemai.decode [[13,m,t]]=none;rw[qk5,hb];rfl⟩
   | true=>
     have hb2:=hb
     simp only[zm,zp,Jy,Jw,Vbemai.inside,J9] at hb2
     obtain⟨⟨l0,u0⟩,⟨l1,u1⟩⟩:=hb2
     obtain⟨m,rfl⟩:∃ nn:Nat,m=(nn:Int):=⟨m.toNat,by omega⟩
     obtain⟨t,rfl⟩:∃ nn:Nat,t=(nn:Int):=⟨t.toNat,by omega⟩
     refine .inr ⟨.through m t,?_,?_,?_,fun s H g hg hm hbk=>?_⟩
     ·show Vbemai.decode [[13,m,t]]=_
      rw[qk5,hb];simp only[J1];rfl
     ·exact .inr ⟨m,rfl,by omega,rfl⟩
     ·exact .inl ⟨rfl,rfl⟩
     ·obtain⟨i,x,e,hx⟩:=hm m rfl
      subst e
      exact⟨i,t,x,rfl,hg,by omega,hx⟩
theorem qk6(m q:Int): Vbemai.decode [[14,m,q]]=Vbemai.guard (zm (zp 14) [m,q]) (.hand m.toNat q.toNat):=by
 simp only[zm,zp,Jy];rfl
theorem q5w(as:List Int)(hl:as.length=(vn 14).length): Qa1 14 as:=by
 match as,hl with
 | [m,q],_=>
   cases hb:zm (zp 14) [m,q] with
   |false=>exact .inl ⟨hb,by show Vbemai.decode [[14,m,q]]=none;rw[qk6,hb];rfl⟩
   | true=>
     have hb2:=hb
     simp only[zm,zp,Jy,Jw,Vbemai.inside,J9] at hb2
     obtain⟨⟨l0,u0⟩,⟨l1,u1⟩⟩:=hb2
     obtain⟨m,rfl⟩:∃ nn:Nat,m=(nn:Int):=⟨m.toNat,by omega⟩
     obtain⟨q,rfl⟩:∃ nn:Nat,q=(nn:Int):=⟨q.toNat,by omega⟩
     refine .inr ⟨.hand m q,?_,?_,?_,fun s H g hg hm hbk=>?_⟩
     ·show Vbemai.decode [[14,m,q]]=_
      rw[qk6,hb];simp only[J1];rfl
     ·exact .inr ⟨m,rfl,by omega,rfl⟩
     ·exact .inl ⟨rfl,rfl⟩
     ·obtain⟨i,x,e,hx⟩:=hm m rfl
      subst e
      exact⟨i,q,x,rfl,hg,hx⟩
theorem qk7(h z a b:Int): Vbemai.decode [[15,h,z,a,b]]=Vbemai.guard (zm (zp 15) [h,z,a,b]) (.total h.toNat z.toNat a.toNat b.toNat):=by
 simp only[zm,zp,Jy];rfl
theorem q5x(as:List Int)(hl:as.length=(vn 15).length): Qa1 15 as:=by
 match as,hl with
 | [h,z,a,b],_=>
   cases hb:zm (zp 15) [h,z,a,b] with
   |false=>exact .inl ⟨hb,by show Vbemai.decode [[15,h,z,a,b]]=none;rw[qk7,hb];rfl⟩
   | true=>
     have hb2:=hb
     simp only[zm,zp,Jy,Jw,Vbemai.inside,J9] at hb2
     obtain⟨⟨l0,u0⟩,⟨l1,u1⟩,⟨l2,u2⟩,⟨l3,u3⟩⟩:=hb2
     obtain⟨h,rfl⟩:∃ nn:Nat,h=(nn:Int):=⟨h.toNat,by omega⟩
     obtain⟨z,rfl⟩:∃ nn:Nat,z=(nn:Int):=⟨z.toNat,by omega⟩
     obtain⟨a,rfl⟩:∃ nn:Nat,a=(nn:Int):=⟨a.toNat,by omega⟩
     obtain⟨b,rfl⟩:∃ nn:Nat,b=(nn:Int):=⟨b.toNat,by omega⟩
     refine .inr ⟨.total h z a b,?_,?_,?_,fun s H g hg hm hbk=>?_⟩
     ·show Vbemai.decode [[15,h,z,a,b]]=_
      rw[qk7,hb];simp only[J1];rfl
     ·exact .inl ⟨rfl,rfl⟩
     ·exact .inr ⟨a,b,rfl,rfl,(by show _=(decide (_:Prop)&&true);rw[Jy];exact Yt.mpr (by omega))⟩
     ·skip
      have hbk:decide (b<a)=false:=hbk
      have hab:=Wv hbk
      exact⟨h,z,a,b,rfl,hg,by omega,by omega⟩
theorem qk8(z a b:Int): Vbemai.decode [[16,z,a,b]]=Vbemai.guard (zm (zp 16) [z,a,b]) (.rest z.toNat a.toNat b.toNat):=by
 simp only[zm,zp,Jy];rfl
theorem q5y(as:List Int)(hl:as.length=(vn 16).length): Qa1 16 as:=by
 match as,hl with
 | [z,a,b],_=>
   cases hb:zm (zp 16) [z,a,b] with
   |false=>exact .inl ⟨hb,by show Vbemai.decode [[16,z,a,b]]=none;rw[qk8,hb];rfl⟩
   | true=>
     have hb2:=hb
     simp only[zm,zp,Jy,Jw,Vbemai.inside,J9] at hb2
     obtain⟨⟨l0,u0⟩,⟨l1,u1⟩,⟨l2,u2⟩⟩:=hb2
     obtain⟨z,rfl⟩:∃ nn:Nat,z=(nn:Int):=⟨z.toNat,by omega⟩
     obtain⟨a,rfl⟩:∃ nn:Nat,a=(nn:Int):=⟨a.toNat,by omega⟩
     obtain⟨b,rfl⟩:∃ nn:Nat,b=(nn:Int):=⟨b.toNat,by omega⟩
     refine .inr ⟨.rest z a b,?_,?_,?_,fun s H g hg hm hbk=>?_⟩
     ·show Vbemai.decode [[16,z,a,b]]=_
      rw[qk8,hb];simp only[J1];rfl
     ·exact .inl ⟨rfl,rfl⟩
     ·exact .inr ⟨a,b,rfl,rfl,(by show _=(decide (_:Prop)&&true);rw[Jy];exact Yt.mpr (by omega))⟩
     ·skip
      have hbk:decide (b<a)=false:=hbk
      have hab:=Wv hbk
      exact⟨z,a,b,rfl,hg,by omega,by omega⟩
theorem qk9(a b:Int): Vbemai.decode [[17,a,b]]=Vbemai.guard (zm (zp 17) [a,b]) (.nets a.toNat b.toNat):=by
 simp only[zm,zp,Jy];rfl
theorem q5z(as:List Int)(hl:as.length=(vn 17).length): Qa1 17 as:=by
 match as,hl with
 | [a,b],_=>
   cases hb:zm (zp 17) [a,b] with
   |false=>exact .inl ⟨hb,by show Vbemai.decode [[17,a,b]]=none;rw[qk9,hb];rfl⟩
   | true=>
     have hb2:=hb
     simp only[zm,zp,Jy,Jw,Vbemai.inside,J9] at hb2
     obtain⟨⟨l0,u0⟩,⟨l1,u1⟩⟩:=hb2
     obtain⟨a,rfl⟩:∃ nn:Nat,a=(nn:Int):=⟨a.toNat,by omega⟩
     obtain⟨b,rfl⟩:∃ nn:Nat,b=(nn:Int):=⟨b.toNat,by omega⟩
     refine .inr ⟨.nets a b,?_,?_,?_,fun s H g hg hm hbk=>?_⟩
     ·show Vbemai.decode [[17,a,b]]=_
      rw[qk9,hb];simp only[J1];rfl
     ·exact .inl ⟨rfl,rfl⟩
     ·exact .inr ⟨a,b,rfl,rfl,(by show _=(decide (_:Prop)&&true);rw[Jy];exact Yt.mpr (by omega))⟩
     ·skip
      have hbk:decide (b<a)=false:=hbk
      have hab:=Wv hbk
      exact⟨a,b,rfl,hg,by omega,by omega⟩
theorem qla(m:Int): Vbemai.decode [[18,m]]=Vbemai.guard (zm (zp 18) [m]) (.gaps m.toNat):=by
 simp only[zm,zp,Jy];rfl
theorem q50(as:List Int)(hl:as.length=(vn 18).length): Qa1 18 as:=by
 match as,hl with
 | [m],_=>
   cases hb:zm (zp 18) [m] with
   |false=>exact .inl ⟨hb,by show Vbemai.decode [[18,m]]=none;rw[qla,hb];rfl⟩
   | true=>
     have hb2:=hb
     simp only[zm,zp,Jy,Jw,Vbemai.inside,J9] at hb2
     obtain⟨l0,u0⟩:=hb2
     obtain⟨m,rfl⟩:∃ nn:Nat,m=(nn:Int):=⟨m.toNat,by omega⟩
     refine .inr ⟨.gaps m,?_,?_,?_,fun s H g hg hm hbk=>?_⟩
     ·show Vbemai.decode [[18,m]]=_
      rw[qla,hb];simp only[J1];rfl
     ·exact .inr ⟨m,rfl,by omega,rfl⟩
     ·exact .inl ⟨rfl,rfl⟩
     ·obtain⟨i,x,e,hx⟩:=hm m rfl
      subst e
      exact⟨i,x,rfl,hg,hx⟩
theorem qlb(m r:Int): Vbemai.decode [[19,m,r]]=Vbemai.guard (zm (zp 19) [m,r]) (.doubt m.toNat r):=by
 simp only[zm,zp,Jy];rfl
theorem q51(as:List Int)(hl:as.length=(vn 19).length): Qa1 19 as:=by
 match as,hl with
 | [m,r],_=>
   cases hb:zm (zp 19) [m,r] with
   |false=>exact .inl ⟨hb,by show Vbemai.decode [[19,m,r]]=none;rw[qlb,hb];rfl⟩
   | true=>
     have hb2:=hb
     simp only[zm,zp,Jy,Jw,Vbemai.inside,J9] at hb2
     obtain⟨⟨l0,u0⟩,⟨l1,u1⟩⟩:=hb2
     obtain⟨m,rfl⟩:∃ nn:Nat,m=(nn:Int):=⟨m.toNat,by omega⟩
     refine .inr ⟨.doubt m r,?_,?_,?_,fun s H g hg hm hbk=>?_⟩
     ·show Vbemai.decode [[19,m,r]]=_
      rw[qlb,hb];simp only[J1];rfl
     ·exact .inr ⟨m,rfl,by omega,rfl⟩
     ·exact .inl ⟨rfl,rfl⟩
     ·obtain⟨i,x,e,hx⟩:=hm m rfl
      subst e
      exact⟨i,r,x,rfl,hg,by omega,by omega,hx⟩
theorem qld(t:Int): Vbemai.decode [[20,t]]=Vbemai.guard (zm (zp 20) [t]) (.unread t.toNat):=by
 simp only[zm,zp,Jy];rfl
theorem q52(as:List Int)(hl:as.length=(vn 20).length): Qa1 20 as:=by
 match as,hl with
 | [t],_=>
   cases hb:zm (zp 20) [t] with
   |false=>exact .inl ⟨hb,by show Vbemai.decode [[20,t]]=none;rw[qld,hb];rfl⟩
   | true=>
     have hb2:=hb
     simp only[zm,zp,Jy,Jw,Vbemai.inside,J9] at hb2
     obtain⟨l0,u0⟩:=hb2
     obtain⟨t,rfl⟩:∃ nn:Nat,t=(nn:Int):=⟨t.toNat,by omega⟩
     refine .inr ⟨.unread t,?_,?_,?_,fun s H g hg hm hbk=>?_⟩
     ·show Vbemai.decode [[20,t]]=_
      rw[qld,hb];simp only[J1];rfl
     ·exact .inl ⟨rfl,rfl⟩
     ·exact .inl ⟨rfl,rfl⟩
     ·skip
      exact⟨t,rfl,hg⟩
theorem qle(a b:Int): Vbemai.decode [[21,a,b]]=Vbemai.guard (zm (zp 21) [a,b]) (.published a.toNat b.toNat):=by
 simp only[zm,zp,Jy];rfl
theorem q53(as:List Int)(hl:as.length=(vn 21).length): Qa1 21 as:=by
 match as,hl with
 | [a,b],_=>
   cases hb:zm (zp 21) [a,b] with
   |false=>exact .inl ⟨hb,by show Vbemai.decode [[21,a,b]]=none;rw[qle,hb];rfl⟩
   | true=>
     have hb2:=hb
     simp only[zm,zp,Jy,Jw,Vbemai.inside,J9] at hb2
     obtain⟨⟨l0,u0⟩,⟨l1,u1⟩⟩:=hb2
     obtain⟨a,rfl⟩:∃ nn:Nat,a=(nn:Int):=⟨a.toNat,by omega⟩
     obtain⟨b,rfl⟩:∃ nn:Nat,b=(nn:Int):=⟨b.toNat,by omega⟩
     refine .inr ⟨.published a b,?_,?_,?_,fun s H g hg hm hbk=>?_⟩
     ·show Vbemai.decode [[21,a,b]]=_
      rw[qle,hb];simp only[J1];rfl
     ·exact .inl ⟨rfl,rfl⟩
     ·exact .inr ⟨a,b,rfl,rfl,(by show false=(_&&false);rw[Qw])⟩
     ·skip
      exact⟨a,b,rfl,hg⟩
theorem row_22:RowOk 22 [] .state:=⟨rfl,.inl ⟨rfl,rfl⟩,.inl ⟨rfl,rfl⟩,fun s H g hg _ _=>⟨rfl,hg⟩⟩
theorem q54(as:List Int)(hl:as.length=(vn 22).length): Qa1 22 as:=by
 match as,hl with
 |[],_=>exact .inr ⟨_,row_22⟩
theorem q55(k:Nat)(as:List Int)(h1:1<=k)(h2:k<=22)(hl:as.length=(vn k).length): Qa1 k as:=by
 match k,h1,h2,hl with
 | 1,_,_,hl=>exact rows_1 as hl
 | 2,_,_,hl=>exact rows_2 as hl
 | 3,_,_,hl=>exact rows_3 as hl
 | 4,_,_,hl=>exact rows_4 as hl
 | 5,_,_,hl=>exact rows_5 as hl
 | 6,_,_,hl=>exact rows_6 as hl
 | 7,_,_,hl=>exact rows_7 as hl
 | 8,_,_,hl=>exact rows_8 as hl
 | 9,_,_,hl=>exact rows_9 as hl
 | 10,_,_,hl=>exact q5s as hl
 | 11,_,_,hl=>exact q5t as hl
 | 12,_,_,hl=>exact q5u as hl
 | 13,_,_,hl=>exact q5v as hl
 | 14,_,_,hl=>exact q5w as hl
 | 15,_,_,hl=>exact q5x as hl
 | 16,_,_,hl=>exact q5y as hl
 | 17,_,_,hl=>exact q5z as hl
 | 18,_,_,hl=>exact q50 as hl
 | 19,_,_,hl=>exact q51 as hl
 | 20,_,_,hl=>exact q52 as hl
 | 21,_,_,hl=>exact q53 as hl
 | 22,_,_,hl=>exact q54 as hl
 |n+23,_,h,_=>omega
theorem q56(k:Nat)(as:List Int)(h1:1<=k)(h2:k<=22)(hl:as.length=(vn k).length)(hw:zm (zp k) as=false): Vbemai.decode [(k:Int)::as]=none:=by
 match k,h1,h2,hl,hw with
 | 1,_,_,hl,hw=>
   match as,hl with
   | [k,z,y,t,d,f,v,p,r],_=>
     show Vbemai.decode [[1,k,z,y,t,d,f,v,p,r]]=none
     rw[qk1,hw];rfl
 | 2,_,_,hl,hw=>
   match as,hl with
   | [m,t,n,v],_=>
     show Vbemai.decode [[2,m,t,n,v]]=none
     rw[qlc,hw];rfl
 | 3,_,_,hl,hw=>
   match as,hl with
   | [m,t,e,v,d,f],_=>
     show Vbemai.decode [[3,m,t,e,v,d,f]]=none
     rw[qlf,hw];rfl
 | 4,_,_,hl,hw=>
   match as,hl with
   | [m,t,e],_=>
     show Vbemai.decode [[4,m,t,e]]=none
     rw[qlg,hw];rfl
 | 5,_,_,hl,hw=>
   match as,hl with
   | [m,r],_=>
     show Vbemai.decode [[5,m,r]]=none
     rw[qlh,hw];rfl
 | 6,_,_,hl,hw=>
   match as,hl with
   | [m,q,h],_=>
     show Vbemai.decode [[6,m,q,h]]=none
     rw[qli,hw];rfl
 | 7,_,_,hl,hw=>
   match as,hl with
   | [t],_=>
     show Vbemai.decode [[7,t]]=none
     rw[qlj,hw];rfl
 | 8,_,_,hl,hw=>
   match as,hl with
   | [a,b],_=>
     show Vbemai.decode [[8,a,b]]=none
     rw[qlk,hw];rfl
 | 9,_,_,hl,hw=>
   match as,hl with
   | [m,t],_=>
     show Vbemai.decode [[9,m,t]]=none
     rw[qll,hw];rfl
 | 10,_,_,hl,hw=>
   match as,hl with
   | [m,t],_=>
     show Vbemai.decode [[10,m,t]]=none
     rw[qk2,hw];rfl
 | 11,_,_,hl,hw=>
   match as,hl with
   | [m,q],_=>
     show Vbemai.decode [[11,m,q]]=none
     rw[qk3,hw];rfl
 | 12,_,_,hl,hw=>
   match as,hl with
   | [m,a,b],_=>
     show Vbemai.decode [[12,m,a,b]]=none
     rw[qk4,hw];rfl
 | 13,_,_,hl,hw=>
   match as,hl with
   | [m,t],_=>
     show Vbemai.decode [[13,m,t]]=none
     rw[qk5,hw];rfl
 | 14,_,_,hl,hw=>
   match as,hl with
   | [m,q],_=>
     show Vbemai.decode [[14,m,q]]=none
     rw[qk6,hw];rfl
 | 15,_,_,hl,hw=>
   match as,hl with
   | [h,z,a,b],_=>
     show Vbemai.decode [[15,h,z,a,b]]=none
     rw[qk7,hw];rfl
 | 16,_,_,hl,hw=>
   match as,hl with
   | [z,a,b],_=>
     show Vbemai.decode [[16,z,a,b]]=none
     rw[qk8,hw];rfl
 | 17,_,_,hl,hw=>
   match as,hl with
   | [a,b],_=>
     show Vbemai.decode [[17,a,b]]=none
     rw[qk9,hw];rfl
 | 18,_,_,hl,hw=>
   match as,hl with
   | [m],_=>
     show Vbemai.decode [[18,m]]=none
     rw[qla,hw];rfl
 | 19,_,_,hl,hw=>
   match as,hl with
   | [m,r],_=>
     show Vbemai.decode [[19,m,r]]=none
     rw[qlb,hw];rfl
 | 20,_,_,hl,hw=>
   match as,hl with
   | [t],_=>
     show Vbemai.decode [[20,t]]=none
     rw[qld,hw];rfl
 | 21,_,_,hl,hw=>
   match as,hl with
   | [a,b],_=>
     show Vbemai.decode [[21,a,b]]=none
     rw[qle,hw];rfl
 | 22,_,_,hl,hw=>
   match as,hl with
   |[],_=>exact nomatch hw
 |n+23,_,h,_,_=>omega
theorem dec_0(r:List Int): Vbemai.decode [[0],r]=Vbemai.guard (decide (1<=r.length)&&(decide (r.length<=96)&&r.all fun w=>Vbemai.inside w 0 1000)) (.profile (r.map Int.toNat)):=rfl
theorem Fn.v{k:Nat}{x:Str}{ps:List Str}{sp:Sp}{u:Addr}(F:Fn P w K mg base k x ps sp)(h:mg x=some (.ref u)): FnV P w K mg base k u ps sp:=by
 obtain⟨f,fd,h1,h2,h3,h4⟩:=F.ex
 rw[h] at h2
 cases h2
 exact⟨fd,h1,h3,h4⟩
def rCV(X:Cx)(j:Nat)(t:TA)(σ:St)(Q:VK)(x:V)(H1:Hp): Prop:=∃ f k ps sp,x = .ref f/\k<=j/\FnV X.prog X.w X.K X.mg X.base k f ps sp/\t σ H1 fun vs H2=>sp vs H2 Q E0
theorem qpx{X:Cx}{j:Nat}{tf:TE}{t:TA}{σ:St}{H:Hp}{Q:VK}(h:tf σ H fun x H1=>rCV X j t σ Q x H1): qu3 X j tf t σ H Q:=h
theorem qa3{X:Cx}{j k:Nat}{t:TA}{σ:St}{Q:VK}{u:Addr}{H1:Hp}{ps:List Str}{sp:Sp}(hk:k<=j)(F:FnV X.prog X.w X.K X.mg X.base k u ps sp)(h:t σ H1 fun vs H2=>sp vs H2 Q E0): rCV X j t σ Q (.ref u) H1:=⟨u,k,ps,sp,rfl,hk,F,h⟩
theorem q00(T:Txt P w K mg A):
  Fn P w K mg base 8 "change" ["book","number","given"] (qgt A 0 8):=by
 refine T.qyo.go q6m (fun _ _ _ _ h=>?_) (fun _ _ _ _ _ H _ Q _ hr h=>?_)
 ·obtain⟨st,b,g,c,n,rfl,_⟩:=h;rfl
 ·obtain⟨st,b,g,c,n,rfl,h1,h2,B,hga,hG,q⟩:=h
  refine⟨_,(ko (qrf hr (qhs T.q27 rfl zd (fun _ _=>rfl)) (zf za ze))),?_⟩
  dsimp only[qb8]
  refine qly ?_
  refine qpx ?_
  walk_at ""
  match n,h1,h2,hG with
  | 0,_,_,hG=>
    obtain⟨u,hu,hmu⟩:=T.c_0
    refine qat hu (qa3 (by decide:3+1<=7) ((q0d T).v hmu) ?_)
    walk_at ""
    exact⟨st,b,g,c,rfl,B,hga,hG,q⟩
  | 1,_,_,hG=>
    obtain⟨u,hu,hmu⟩:=T.c_1
    refine qat hu (qa3 (by decide:4+1<=7) ((q05 T).v hmu) ?_)
    walk_at ""
    exact⟨st,b,g,c,rfl,B,hga,hG,q⟩
  | 2,_,_,hG=>
    obtain⟨u,hu,hmu⟩:=T.c_2
    refine qat hu (qa3 (by decide:2+1<=7) ((q1e T).v hmu) ?_)
    walk_at ""
    exact⟨st,b,g,c,rfl,B,hga,hG,q⟩
  | 3,_,_,hG=>
    obtain⟨u,hu,hmu⟩:=T.c_3
    refine qat hu (qa3 (by decide:4+1<=7) ((q1m T).v hmu) ?_)
    walk_at ""
    exact⟨st,b,g,c,rfl,B,hga,hG,q⟩
  | 4,_,_,hG=>
    obtain⟨u,hu,hmu⟩:=T.c_4
    refine qat hu (qa3 (by decide:3+1<=7) ((q1h T).v hmu) ?_)
    walk_at ""
    exact⟨st,b,g,c,rfl,B,hga,hG,q⟩
  | 5,_,_,hG=>
    obtain⟨u,hu,hmu⟩:=T.c_5
    refine qat hu (qa3 (by decide:1+1<=7) ((q1j T).v hmu) ?_)
    walk_at ""
    exact⟨st,b,g,c,rfl,B,hga,hG,q⟩
  | 6,_,_,hG=>
    obtain⟨u,hu,hmu⟩:=T.c_6
    refine qat hu (qa3 (by decide:1+1<=7) ((q0x T).v hmu) ?_)
    walk_at ""
    exact⟨st,b,g,c,rfl,B,hga,hG,q⟩
  | 7,_,_,hG=>
    obtain⟨u,hu,hmu⟩:=T.c_7
    refine qat hu (qa3 (by decide:5+1<=7) ((q1a T).v hmu) ?_)
    walk_at ""
    exact⟨st,b,g,c,rfl,B,hga,hG,q⟩
  | 8,_,_,hG=>
    obtain⟨u,hu,hmu⟩:=T.c_8
    refine qat hu (qa3 (by decide:6+1<=7) ((q1c T).v hmu) ?_)
    walk_at ""
    exact⟨st,b,g,c,rfl,B,hga,hG,q⟩
  |n+9,_,h,_=>omega
theorem q1d(T:Txt P w K mg A):
  Fn P w K mg base 9 "question" ["book","number","given"] (qgt A 9 22):=by
 refine T.qzh.go q6y (fun _ _ _ _ h=>?_) (fun _ _ _ _ _ H _ Q _ hr h=>?_)
 ·obtain⟨st,b,g,c,n,rfl,_⟩:=h;rfl
 ·obtain⟨st,b,g,c,n,rfl,h1,h2,B,hga,hG,q⟩:=h
  refine⟨_,(ko (qrf hr (qhs T.q29 rfl zd (fun _ _=>rfl)) (zf za ze))),?_⟩
  dsimp only[qb8]
  refine qly ?_
  refine qpx ?_
  walk_at ""
  match n,h1,h2,hG with
  | 9,_,_,hG=>
    obtain⟨u,hu,hmu⟩:=T.q_9
    refine qat hu (qa3 (by decide:1+1<=8) ((q0r T).v hmu) ?_)
    walk_at ""
    exact⟨st,b,g,c,rfl,B,hga,hG,q⟩
  | 10,_,_,hG=>
    obtain⟨u,hu,hmu⟩:=T.q_10
    refine qat hu (qa3 (by decide:1+1<=8) ((q0n T).v hmu) ?_)
    walk_at ""
    exact⟨st,b,g,c,rfl,B,hga,hG,q⟩
  | 11,_,_,hG=>
    obtain⟨u,hu,hmu⟩:=T.q_11
    refine qat hu (qa3 (by decide:5+1<=8) ((q0w T).v hmu) ?_)
    walk_at ""
    exact⟨st,b,g,c,rfl,B,hga,hG,q⟩
  | 12,_,_,hG=>
    obtain⟨u,hu,hmu⟩:=T.q_12
    refine qat hu (qa3 (by decide:5+1<=8) ((q0j T).v hmu) ?_)
    walk_at ""
    exact⟨st,b,g,c,rfl,B,hga,hG,q⟩
  | 13,_,_,hG=>
    obtain⟨u,hu,hmu⟩:=T.q_13
    refine qat hu (qa3 (by decide:5+1<=8) ((q0t T).v hmu) ?_)
    walk_at ""
    exact⟨st,b,g,c,rfl,B,hga,hG,q⟩
  | 14,_,_,hG=>
    obtain⟨u,hu,hmu⟩:=T.q_14
    refine qat hu (qa3 (by decide:2+1<=8) ((q0m T).v hmu) ?_)
    walk_at ""
    exact⟨st,b,g,c,rfl,B,hga,hG,q⟩
  | 15,_,_,hG=>
    obtain⟨u,hu,hmu⟩:=T.q_15
    refine qat hu (qa3 (by decide:7+1<=8) ((q0u T).v hmu) ?_)
    walk_at ""
    exact⟨st,b,g,c,rfl,B,hga,hG,q⟩
  | 16,_,_,hG=>
    obtain⟨u,hu,hmu⟩:=T.q_16
    refine qat hu (qa3 (by decide:6+1<=8) ((q0q T).v hmu) ?_)
    walk_at ""
    exact⟨st,b,g,c,rfl,B,hga,hG,q⟩
  | 17,_,_,hG=>
    obtain⟨u,hu,hmu⟩:=T.q_17
    refine qat hu (qa3 (by decide:6+1<=8) ((q0o T).v hmu) ?_)
    walk_at ""
    exact⟨st,b,g,c,rfl,B,hga,hG,q⟩
  | 18,_,_,hG=>
    obtain⟨u,hu,hmu⟩:=T.q_18
    refine qat hu (qa3 (by decide:5+1<=8) ((q0l T).v hmu) ?_)
    walk_at ""
    exact⟨st,b,g,c,rfl,B,hga,hG,q⟩
  | 19,_,_,hG=>
    obtain⟨u,hu,hmu⟩:=T.q_19
    refine qat hu (qa3 (by decide:5+1<=8) ((q0k T).v hmu) ?_)
    walk_at ""
    exact⟨st,b,g,c,rfl,B,hga,hG,q⟩
  | 20,_,_,hG=>
    obtain⟨u,hu,hmu⟩:=T.q_20
    refine qat hu (qa3 (by decide:5+1<=8) ((q0v T).v hmu) ?_)
    walk_at ""
    exact⟨st,b,g,c,rfl,B,hga,hG,q⟩
  | 21,_,_,hG=>
    obtain⟨u,hu,hmu⟩:=T.q_21
    refine qat hu (qa3 (by decide:1+1<=8) ((q0p T).v hmu) ?_)
    walk_at ""
    exact⟨st,b,g,c,rfl,B,hga,hG,q⟩
  | 22,_,_,hG=>
    obtain⟨u,hu,hmu⟩:=T.q_22
    refine qat hu (qa3 (by decide:0+1<=8) ((q0s T).v hmu) ?_)
    walk_at ""
    exact⟨st,b,g,c,rfl,B,hga,hG,q⟩
  |n+23,_,h,_=>omega
  | 0,h,_,_=>omega
  | 1,h,_,_=>omega
  | 2,h,_,_=>omega
  | 3,h,_,_=>omega
  | 4,h,_,_=>omega
  | 5,h,_,_=>omega
  | 6,h,_,_=>omega
  | 7,h,_,_=>omega
  | 8,h,_,_=>omega
def Flat(c:List (List Int))(ns:List Int): Prop:=(∃ n row,c=[[0],row]/\ns=0::n::row/\row.length<=1000)\/∃ (k:Nat) (as:List Int),c=[(k:Int)::as]/\ns=(k:Int)::as/\1<=k/\k<=22/\as.length=(vn k).length
def qul(A:Ads): Sp:=fun vs H Q _=>∃ (s:Sta) (b:Vh) (cl:Addr) (ns:List Int) (c:List (List Int)),vs=[.ref b.a,.ref cl]/\BAt A H s b/\H cl=some (.lst (vI ns))/\Flat c ns /\
 ∀ H' b' l,Vj A H s b H' (Vbemai.stepNumbers s c).1 b'->H l=none->H' l=some (.lst (vI (Vbemai.stepNumbers s c).2))->Q (.ref l) H'
theorem qja{H:Hp}{s:Sta}{b:Vh}(B:BAt A H s b){g:Addr}(h:H g=none): g∉ads A s b:=fun z=>by
 obtain⟨c,hc,rfl⟩:=Jk.mp z
 rw[B.has c hc] at h;cases h
theorem q5r{row:List Int}(h:(row.all fun w=>Vbemai.inside w 0 1000)=true): wts (row.map Int.toNat)=row:=by
 unfold wts
 rw[Xy]
 refine(X5 (g:=id) fun z hz=>?_).trans (Qa _)
 have:=Wi.mp h z hz
 unfold Vbemai.inside at this
 rw[Jw,Zb,Zb] at this
 show ((z.toNat:Nat):Int)=z
 omega
theorem Vj.pre{H H1 H':Hp}{s s':Sta}{b b':Vh}(e:Qz H H1)(k:Vj A H1 s b H' s' b'): Vj A H s b H' s' b':=⟨k.bat,k.ba,fun a o h1 h2=>k.fr a o h1 (e _ _ h2),fun a h=>(k.nw a h).imp id (fun z=>e.free z),(Qae.of_same e).trans k.lv⟩
theorem q0g(T:Txt P w K mg A):
  Fn P w K mg base 10 "answer_call" ["book","call"] (qul A):=by
 refine T.qx3.go qt8 (fun _ _ _ _ h=>?_) (fun _ _ _ _ _ H _ Q _ hr h=>?_)
 ·obtain⟨st,b,cl,ns,c,rfl,_⟩:=h;rfl
 ·obtain⟨st,b,cl,ns,c,rfl,B,hcl,hfl,q⟩:=h
  have hu:=yb hr
  refine⟨_,(zb (k7 2 qt8.nd (zj (q1b T) hr (zo zd))) (zb (vf (qrr (qdy (zj (q0e T) hr (zo ze)))) (vo (zo (zq T.qw2)))) (zb (vf (PW.pt (qe1 (qgk (qje hu kr ze)) (qe2 (qdy (zj (q08 T) hr (zf za (k6 hu ze kr))))))) (vo (zo (zq T.qw0)))) (zb (vf (PW.pt (qe1 (qdy (zj (q07 T) hr (zo ze))) (qe2 (vc qde (qak K zd ki) (zq T.qw3))))) (vo (zo (zq T.qwp)))) (zb (vf (vc qeh (qak K zd ki) (zq T.qwr)) (zj (q00 T) hr (vg za (zf (qak K zd ki) ze)))) (ko (zj (q1d T) hr (vg za (zf (qak K zd ki) ze))))))))),?_⟩
  rcases hfl with ⟨n,row,rfl,rfl,hrl⟩|⟨k,as,rfl,rfl,hk1,hk2,hal⟩
  ·have hst:Vbemai.stepNumbers st [[0],row]=if (decide (1<=row.length)&&(decide (row.length<=96)&&row.all fun w=>Vbemai.inside w 0 1000))=true then Vbemai.step st (.profile (row.map Int.toNat)) else (st,[-1]):=by
    unfold Vbemai.stepNumbers
    rw[dec_0]
    unfold Vbemai.guard
    cases (decide (1<=row.length)&&(decide (row.length<=96)&&row.all fun w=>Vbemai.inside w 0 1000))<;>rfl
   rw[hst] at q
   walk_at "in"
   refine⟨cl,_,rfl,SqL.of hcl,.inl ⟨n,row,rfl,fun H1 g l s1 hg0 hg hl=>?_⟩⟩
   have B1:=B.same s1
   have hcl1:=s1 _ _ hcl
   walk_at ""
   refine⟨g,rfl,.inl ⟨l,row,hg,hl,hrl,fun H2 s2=>?_⟩⟩
   have S2:=s1.trans s2
   have B2:=B.same S2
   have hg2:=s2 _ _ hg
   have hl2:=s2 _ _ hl
   have qfe:=s2 _ _ hcl1
   walk_at ""
   cases hin:(decide (1<=row.length)&&(decide (row.length<=96)&&row.all fun w=>Vbemai.inside w 0 1000)) with
   | false=>
     rw[Jc (by rw[hin];exact Jr)] at q
     refine qag ?_
     walk_at ""
     intro ll hll
     exact q _ b ll (Vj.of_same B (S2.trans (Qz.new hll))) (S2.free hll) zc
   | true=>
     rw[Je hin] at q
     refine qam ?_
     walk_at ""
     refine qgm hg2 ?_
     walk_at ""
     refine qam ?_
     refine qam ?_
     walk_at ""
     refine⟨g,_,rfl,hg2,.inl ⟨rfl,?_⟩⟩
     walk_at ""
     refine qam ?_
     refine qam ?_
     walk_at ""
     refine qac (SqL.of qfe) (ye (j:=0) rfl) ?_
     walk_at ""
     refine qag ?_
     walk_at ""
     refine qac (SqL.of qfe) (ye (j:=0) rfl) ?_
     walk_at ""
     simp only[Jw,J9] at hin
     have hrn:=q5r hin.2.2
     refine⟨st,b,g,.profile (row.map Int.toNat),0,rfl,X3 _,by decide,B2,fun z=>qja B1 (by
      exfalso;exact qja B hg0 z) z,⟨l,row.map Int.toNat,rfl,hg2,by rw[hrn];exact hl2,?_⟩,fun H3 b3 l3 k3 hl3 hl3'=>?_⟩
     ·refine⟨by rw[Jd];exact hin.1,by rw[Jd];exact hin.2.1,fun w hw=>?_⟩
      obtain⟨z,hz,rfl⟩:=Jk.mp hw
      have:=Wi.mp hin.2.2 z hz
      unfold Vbemai.inside at this
      rw[Jw,Zb,Zb] at this
      omega
     ·exact q H3 b3 l3 (k3.pre S2) (S2.free hl3) hl3'
  ·walk_at "in"
   refine⟨cl,_,rfl,SqL.of hcl,.inr ⟨k,as,rfl,hk1,hk2,hal,fun H1 g s1 hg0 hg=>?_⟩⟩
   have B1:=B.same s1
   have hcl1:=s1 _ _ hcl
   walk_at ""
   refine⟨g,rfl,.inr ⟨vn k,zp k,as,hg,q24 T k,hal,argN_w k,?_,fun H2 s2=>?_⟩⟩
   ·match k,hk1,hk2 with
    | 1,_,_=>exact(by decide +kernel)
    | 2,_,_=>exact(by decide +kernel)
    | 3,_,_=>exact(by decide +kernel)
    | 4,_,_=>exact(by decide +kernel)
    | 5,_,_=>exact(by decide +kernel)
    | 6,_,_=>exact(by decide +kernel)
    | 7,_,_=>exact(by decide +kernel)
    | 8,_,_=>exact(by decide +kernel)
    | 9,_,_=>exact(by decide +kernel)
    | 10,_,_=>exact(by decide +kernel)
    | 11,_,_=>exact(by decide +kernel)
    | 12,_,_=>exact(by decide +kernel)
    | 13,_,_=>exact(by decide +kernel)
    | 14,_,_=>exact(by decide +kernel)
    | 15,_,_=>exact(by decide +kernel)
    | 16,_,_=>exact(by decide +kernel)
    | 17,_,_=>exact(by decide +kernel)
    | 18,_,_=>exact(by decide +kernel)
    | 19,_,_=>exact(by decide +kernel)
    | 20,_,_=>exact(by decide +kernel)
    | 21,_,_=>exact(by decide +kernel)
    | 22,_,_=>exact(by decide +kernel)
    |n+23,_,h=>omega
   have S2:=s1.trans s2
   have B2:=B.same S2
   have hg2:GV H2 g k as:=s2 _ _ hg
   have qfe:=s2 _ _ hcl1
   have hgn:g∉ads A st b:=qja B hg0
   walk_at ""
   rcases q55 k as hk1 hk2 hal with ⟨hw,hd⟩|⟨c,R⟩
   ·have hst:Vbemai.stepNumbers st [(k:Int)::as]=(st,[-1]):=by unfold Vbemai.stepNumbers;rw[hd]
    rw[hst] at q
    rw[hw]
    refine qag ?_
    walk_at ""
    intro ll hll
    exact q _ b ll (Vj.of_same B (S2.trans (Qz.new hll))) (S2.free hll) zc
   have hst:Vbemai.stepNumbers st [(k:Int)::as]=Vbemai.step st c:=by unfold Vbemai.stepNumbers;rw[R.dec]
   rw[hst] at q
   have hw:zm (zp k) as=true:=by
    cases e:zm (zp k) as with
    |true=>rfl
    |false=>exact absurd R.dec (by rw[q56 k as hk1 hk2 hal e];exact fun z=>nomatch z)
   rw[hw]
   refine qam ?_
   have rest:(∀ n,mtr c=some n->∃ i x,n=i+1/\st.meters[i]?=some x)->qb6 (qem (tAnd (qdk (tFn qun (vp (vd 2) qan))) (qdk (tOp rNe (tOp (qdz K) (vd 1) (tC (.int 0))) (tC (.int 21))))) (qbz (tLst (vp (tC (.int (-11))) qan))) qen) (qb6 (qem (qdk (tOp (rI0 fun i j=>.bl (decide (i<j))) (tOp (qdz K) (vd 1) (tC (.int 0))) (tC (.int 9)))) (qbz (tFn (qgt A 0 8) (vp (vd 0) (vp (tOp (qdz K) (vd 1) (tC (.int 0))) (vp (vd 2) qan))))) qen) (qbz (tFn (qgt A 9 22) (vp (vd 0) (vp (tOp (qdz K) (vd 1) (tC (.int 0))) (vp (vd 2) qan)))))) { nx:=fun _ H'=>Q .non H',rt:=Q } [some (.ref b.a),some (.ref cl),some (.ref g)] H2:=fun hm=>by
    have last:back c=false->qb6 (qem (qdk (tOp (rI0 fun i j=>.bl (decide (i<j))) (tOp (qdz K) (vd 1) (tC (.int 0))) (tC (.int 9)))) (qbz (tFn (qgt A 0 8) (vp (vd 0) (vp (tOp (qdz K) (vd 1) (tC (.int 0))) (vp (vd 2) qan))))) qen) (qbz (tFn (qgt A 9 22) (vp (vd 0) (vp (tOp (qdz K) (vd 1) (tC (.int 0))) (vp (vd 2) qan))))) { nx:=fun _ H'=>Q .non H',rt:=Q } [some (.ref b.a),some (.ref cl),some (.ref g)] H2:=fun hb=>by
     have hG:=R.g st H2 g hg2 hm hb
     walk_at ""
     refine qac (SqL.of qfe) (ye (j:=0) rfl) ?_
     walk_at ""
     refine ifD (fun c9=>?_) (fun c9=>?_)
     ·walk_at ""
      refine qac (SqL.of qfe) (ye (j:=0) rfl) ?_
      walk_at ""
      exact⟨st,b,g,c,k,rfl,X3 _,by omega,B2,hgn,hG,fun H3 b3 l3 k3 hl3 hl3'=>q H3 b3 l3 (k3.pre S2) (S2.free hl3) hl3'⟩
     ·walk_at ""
      refine qac (SqL.of qfe) (ye (j:=0) rfl) ?_
      walk_at ""
      exact⟨st,b,g,c,k,rfl,by omega,hk2,B2,hgn,hG,fun H3 b3 l3 k3 hl3 hl3'=>q H3 b3 l3 (k3.pre S2) (S2.free hl3) hl3'⟩
    rcases R.t with ⟨ht,hb⟩|⟨a0,b0,ht,hf,hb⟩
    ·walk_at ""
     refine⟨g,_,rfl,hg2,.inl ⟨ht,?_⟩⟩
     walk_at ""
     refine qam ?_
     refine qam ?_
     exact last hb
    ·walk_at ""
     refine⟨g,_,rfl,hg2,.inr ⟨a0,b0,ht,hf,?_⟩⟩
     walk_at ""
     refine ifD (fun cb=>?_) (fun cb=>?_)
     ·walk_at ""
      refine qac (SqL.of qfe) (ye (j:=0) rfl) ?_
      walk_at ""
      refine ifN (fun c21=>?_) (fun c21=>?_)
      ·have hbt:back c=true:=by rw[hb,Xm cb,J7 (by omega)];rfl
       have hsb:Vbemai.step st c=(st,[-11]):=q8n hbt fun m hmm=>by
        obtain⟨i,x,e,hx⟩:=hm m hmm
        subst e
        exact⟨x,QM.meter?_at hx⟩
       rw[hsb] at q
       walk_at ""
       intro ll hll
       exact q _ b ll (Vj.of_same B (S2.trans (Qz.new hll))) (S2.free hll) zc
      ·exact last (by rw[hb,Xm (show k=21 by omega)];simp)
     ·refine qam ?_
      exact last (by rw[hb,J7 cb];rfl)
   rcases R.m with ⟨hm,hv⟩|⟨n,hm,hn1,hv⟩
   ·walk_at ""
    refine qgm hg2 ?_
    rw[hv]
    walk_at ""
    refine qam ?_
    refine qam ?_
    exact rest (fun n hn=>by rw[hm] at hn;cases hn)
   ·walk_at ""
    refine qgm hg2 ?_
    rw[hv]
    walk_at ""
    refine qag ?_
    walk_at ""
    refine ku hg2 hv ?_
    walk_at ""
    refine⟨st,b,n,rfl,B2,?_⟩
    walk_at ""
    refine ifD (fun cm=>?_) (fun cm=>?_)
    ·have hsm:Vbemai.step st c=(st,[-3]):=q8u hm (by
      unfold Vbemai.meter?
      rw[Jc (by omega)]
      exact Yn (by omega))
     rw[hsm] at q
     walk_at ""
     intro ll hll
     exact q _ b ll (Vj.of_same B (S2.trans (Qz.new hll))) (S2.free hll) zc
    ·refine rest (fun n' hn'=>?_)
     rw[hm] at hn'
     cases hn'
     have hi:n-1<st.meters.length:=by omega
     exact⟨n-1,_,by omega,Jo hi⟩
theorem qv8:∀ k:Nat,QM.qfc k=(vn k).length
 | 0=>rfl
 | 1=>rfl
 | 2=>rfl
 | 3=>rfl
 | 4=>rfl
 | 5=>rfl
 | 6=>rfl
 | 7=>rfl
 | 8=>rfl
 | 9=>rfl
 | 10=>rfl
 | 11=>rfl
 | 12=>rfl
 | 13=>rfl
 | 14=>rfl
 | 15=>rfl
 | 16=>rfl
 | 17=>rfl
 | 18=>rfl
 | 19=>rfl
 | 20=>rfl
 | 21=>rfl
 | 22=>rfl
 |n+23=>rfl
def rWh(c:TT)(tb:TS)(D:Ends)(σ:St)(H:Hp): Prop:=∃ W:Nat->St->Hp->Prop,(∃ m,W m σ H)/\∀ m σ H,W m σ H ->
 c σ H fun b H1=>if b=true then ∃ N:St->Hp->Prop,(∀ σ' H',N σ' H'->∃ m',m' < m/\W m' σ' H')/\tb { D with nx:=N,ct:=N,bk:=D.nx } σ H1 else D.nx σ H1
theorem q2o{c:TT}{tb:TS}{D:Ends}{σ:St}{H:Hp}(h:rWh c tb D σ H): qvb c tb D σ H:=h
def OnlyFz(H:Hp): Prop:=∀ b,H b=none\/∃ o u,H b=some (.frz o u)
def qj0(K:PySem.W.Frag): Sp:=fun vs H Q _=>∃ (a:Addr) (l:List Int),vs=[.ref a]/\SqL K H a (vI l)/\OnlyFz H/\PyVbemai.answers_asked l=true/\∀ H' r,H' r=some (.lst (vI (PyVbemai.answers l)))->Q (.ref r) H'
def Arg(K:PySem.W.Frag)(A:Ads)(H:Hp)(s:Sta)(b:Vh)(a tl:Addr)(xs:List V): Prop:=(∀ H,SqL K H a xs)\/(Rd H a (.lst xs)/\a∉ads A s b/\a≠tl)
theorem Arg.sq{H:Hp}{s:Sta}{b:Vh}{a tl:Addr}{xs:List V}(h:Arg K A H s b a tl xs): SqL K H a xs:=h.elim (fun z=>z H) fun z=>.inl z.1
theorem Arg.same{H H':Hp}{s:Sta}{b:Vh}{a tl:Addr}{xs:List V}(h:Arg K A H s b a tl xs)(e:Qz H H'): Arg K A H' s b a tl xs:=h.imp id fun z=>⟨Rd.same z.1 e,z.2⟩
theorem Arg.upd{H:Hp}{s:Sta}{b:Vh}{a tl:Addr}{xs:List V}{o:HO}(h:Arg K A H s b a tl xs): Arg K A (L2.upd H tl o) s b a tl xs:=h.imp id fun ⟨z,z1,z2⟩=>⟨by
 rcases z with z|⟨u,z⟩
 ·exact .inl (by rw[qc z2];exact z)
 ·exact .inr ⟨u,by rw[qc z2];exact z⟩,z1,z2⟩
theorem Arg.keep{H H':Hp}{s s':Sta}{b b':Vh}{a tl:Addr}{xs:List V}(h:Arg K A H s b a tl xs)(k:Vj A H s b H' s' b'): Arg K A H' s' b' a tl xs:=h.imp id fun ⟨z,z1,z2⟩=>by
 have hz:∃ o,H a=some o:=by
  rcases z with z|⟨u,z⟩
  ·exact⟨_,z⟩
  ·exact⟨_,z⟩
 refine⟨?_,fun q=>?_,z2⟩
 ·rcases z with z|⟨u,z⟩
  ·exact .inl (k.fr _ _ z1 z)
  ·exact .inr ⟨u,k.fr _ _ z1 z⟩
 ·rcases k.nw a q with q|q
  ·exact z1 q
  ·obtain⟨o,ho⟩:=hz;rw[ho] at q;cases q
theorem qxv(l:List Int)(i e:Nat)(h1:i<=e)(h2:e<=l.length): qcg (vI l) (some (i:Int)) (some (e:Int))=vI ((l.drop i).take (e-i)):=by
 unfold qcg
 rw[HT.qjl,HT.qjl,qas,Nat.min_eq_left (show i<=l.length by omega),Nat.min_eq_left h2]
 unfold vI
 rw[<- List.map_drop,<- W9]
structure Go(K:PySem.W.Frag)(A:Ads)(l:List Int)(a ba tl:Addr)(H:Hp)(i:Nat)(s:Sta)(b:Vh)(f:Nat)(cs:List (List (List Int)))(acc:List Int)(dn:Nat): Prop where
 le:i<=l.length
 sq:Arg K A H s b a tl (vI l)
 at_:H tl=some (.lst (vI acc))
 tn:tl∉ads A s b
 B:BAt A H s b
 ba:b.a=ba
 pr:PyFlat.calls PyVbemai.shape f (l.drop i)=some cs
 ask:∀ c∈cs,VbemaiNeutral.asked1 c=true
 eq:acc++PyFlat.told (PyFlat.played VbemaiNeutral.step s cs)=PyVbemai.answers l
 len:acc.length<=30012*dn
 few:dn+cs.length<=400
theorem q0h(T:Txt P w K mg A):
  ∀ {f:Addr} {fd:FuncData},Fun K "answers" "answers" qjr f fd->Qbw P w K mg base CX0 (10+1) f fd ["calls"] (qj0 K):=by
 intro f fd F
 refine F.ok qfk (fun vs H Q E h=>?_) (fun cdv Ar outer s H vs Q E hr h=>?_)
 ·obtain⟨a,l,rfl,_⟩:=h;rfl
 ·obtain⟨a,l,rfl,hs,hO,qck,q⟩:=h
  have hcs:∃ f0 cs0,PyFlat.calls PyVbemai.shape f0 l=some cs0/\(∀ c∈cs0,VbemaiNeutral.asked1 c=true)/\cs0.length<=400/\PyVbemai.answers l=PyFlat.told (PyFlat.played VbemaiNeutral.step VbemaiNeutral.start cs0):=by
   unfold PyVbemai.answers_asked at qck
   unfold PyVbemai.answers
   cases hc:PyVbemai.calls l with
   |none=>rw[hc] at qck;cases qck
   | some cs=>
     rw[hc] at qck
     unfold PyVbemai.calls at hc
     cases hc2:PyFlat.calls PyVbemai.shape l.length l with
     |none=>rw[hc2] at hc;cases hc
     | some cs0=>
       rw[hc2] at hc
       have hc:cs0.map PyVbemai.whole=cs:=Jj hc
       have e:cs0.map PyVbemai.whole=cs0:=(X5 (g:=id) fun c _=>QM.zag c).trans (Qa _)
       rw[e] at hc
       subst hc
       have qck:(PyFlat.atMost 400 cs0&&VbemaiNeutral.asked cs0)=true:=qck
       rw[Jw] at qck
       unfold VbemaiNeutral.asked at qck
       rw[Jw,Wi] at qck
       exact⟨_,cs0,hc2,qck.2.1,Zl qck.1,rfl⟩
  obtain⟨f0,cs0,hc0,hal0,hlen0,qcz⟩:=hcs
  refine⟨_,(zb (k7 1 qfk.nd (pe_mk0 (qxn T) hr)) (zb (k7 2 qfk.nd (vo qhq)) (zb (k7 3 qfk.nd ki) (zb (q5h Ys (vc qeh k9 (x_len T.qaw za)) (zb (k7 4 qfk.nd (zj (q0z T) hr (zf za k9))) (zb (k7 5 qfk.nd (zj (q0g T) hr (zf zd (qhu qh8 za (qgg k9) (qgg qaj))))) (zb (qbn (qbx Xe Xv Xw qc3 ze (zo (x_len T.qaw qbo)))) (zb (qbn (qbx Xe Wl Wm qi8 ze (zo qbo))) (qaz (k7 3 qfk.nd qaj))))))) (ko ze))))),?_⟩
  dsimp only[qb8]
  refine i_seq ?_
  refine i_asg ?_
  refine i_mk ?_
  refine i_nil ?_
  intro p pdx hp hpdx hpp
  refine⟨p,pdx,rfl,zc,fun H1 b0 b1 hba B1 hnew=>⟨rfl,?_⟩⟩
  have S1:Qz H H1:=fun b o h=>b1 b o (k8 h hp) (by rw[qc (k8 h hp),qc (k8 h hpdx)];exact h)
  walk_at ""
  intro tl htl
  have s2:=Qz.new (o:=.lst []) htl
  have B2:=B1.same s2
  have htl2:upd H1 tl (.lst []) tl=some (.lst (vI [])):=zc
  have hS2:=(S1.trans s2).seq hs
  have hArg:Arg K A (upd H1 tl (.lst [])) Vbemai.start b0 a tl (vI l):=by
   rcases hs with hs|hs
   ·right
    have hso:∃ o,H a=some o:=by
     rcases hs with z|⟨u,z⟩
     ·exact⟨_,z⟩
     ·exact⟨_,z⟩
    obtain⟨o,ho⟩:=hso
    have hatl:a≠tl:=k8 (S1 _ _ ho) htl
    refine⟨Rd.same (Rd.same hs S1) s2,fun hz=>?_,hatl⟩
    obtain⟨c,hc,hca⟩:=Jk.mp hz
    rcases hnew c hc with z|z
    ·rw[<- hca,z] at ho;rw[hp] at ho;cases ho
    ·have n1:c.1≠p:=by intro e;rw[e,zc] at z;cases z
     rw[qc n1] at z
     have n2:c.1≠pdx:=by intro e;rw[e,zc] at z;cases z
     rw[qc n2] at z
     rw[<- hca,z] at ho;cases ho
   ·exact .inl fun H=>.inr hs
  have htn:tl∉ads A Vbemai.start b0:=qja B1 htl
  generalize upd H1 tl (.lst [])=H2 at *
  walk_at ""
  refine q2o ?_
  refine⟨fun m σ H'=>∃ i s b f cs acc dn v4 v5,m=l.length-i/\Go K A l a b0.a tl H' i s b f cs acc dn/\σ=[some (.ref a),some (.ref b0.a),some (.ref tl),some (.int (i:Int)),v4,v5],⟨l.length,0,Vbemai.start,b0,f0,cs0,[],0,none,none,rfl,?_,by rw[hba];rfl⟩,?_⟩
  ·exact⟨X3 _,hArg,htl2,htn,B2,rfl,by rw[List.drop_zero];exact hc0,hal0,by rw[qcz];rfl,X3 _,by omega⟩
  ·rintro m σ H' ⟨i,s,b,f,cs,acc,dn,v4,v5,rfl,g,rfl⟩
   have hsq:=g.sq.sq
   walk_at ""
   refine qau (qbh hsq) ?_
   rw[qas]
   walk_at ""
   refine ifD (fun c=>?_) (fun c=>?_)
   ·have hi:i<l.length:=by omega
    have hdr:l.drop i=l[i]::l.drop (i+1):=Ul hi
    have hpi:l[i]?=some l[i]:=Jo hi
    have hpr:=g.pr
    rw[hdr] at hpr
    obtain⟨cc,t,cs',f',hcall,qi0,hcs'⟩:=QM.qxj hpr
    have hstep:=QM.q9d (c:=cc) g.B.good
    have qiz:=g.ask cc (by rw[qi0];exact Jh ..)
    have key:∀ (e:Nat) (ns:List Int),i<e->e<=l.length->(l.drop i).take (e-i)=ns->Flat cc ns->t=l.drop e ->
      (∀ Q':VK,Q' (.int (e:Int)) H'->qnj K [.ref a,.int (i:Int)] H' Q' E0) ->
      ∃ N:St->Hp->Prop,(∀ σ' H'',N σ' H''->∃ m',m' < l.length-i/\∃ i s b f cs acc dn v4 v5,m'=l.length-i/\Go K A l a b0.a tl H'' i s b f cs acc dn/\σ'=[some (.ref a),some (.ref b0.a),some (.ref tl),some (.int (i:Int)),v4,v5]) /\
        qb6 (qd1 (tFn (qnj K) (vp (vd 0) (vp (vd 3) qan))) (qb4 4)) (qb6 (qd1 (tFn (qul A) (vp (vd 1) (vp (tSl (rSlL K) (vd 0) (qj4 (vd 3)) (qj4 (vd 4))) qan))) (qb4 5)) (qb6 (qj3 (tBM K "list" qmy (vd 2) (vp (tCB (rLen K) (vp (vd 5) qan)) qan))) (qb6 (qj3 (tBM K "list" qmz (vd 2) (vp (vd 5) qan))) (qd1 (vd 4) (qb4 3)))))
         { nx:=N,rt:=Q,ct:=N,bk:=qbz (vd 2) { nx:=fun _ H'=>Q .non H',rt:=Q } } [some (.ref a),some (.ref b0.a),some (.ref tl),some (.int (i:Int)),v4,v5] H':=by
     intro e ns hie hel hns hfl ht hce
     refine⟨fun σ' H''=>∃ b' v5,Go K A l a b0.a tl H'' e (Vbemai.stepNumbers s cc).1 b' f' cs' (acc++((Vbemai.stepNumbers s cc).2.length:Int)::(Vbemai.stepNumbers s cc).2) (dn+1)/\σ'=[some (.ref a),some (.ref b0.a),some (.ref tl),some (.int (e:Int)),some (.int (e:Int)),v5],?_,?_⟩
     ·rintro σ' H'' ⟨b',v5',g',rfl⟩
      exact⟨l.length-e,by omega,e,_,b',f',cs',_,dn+1,_,v5',rfl,g',rfl⟩
     ·walk_at ""
      refine hce _ ?_
      walk_at ""
      refine qhz hsq fun cl hcl=>?_
      rw[qxv l i e (by omega) hel,hns]
      have s3:=Qz.new (o:=.lst (vI ns)) hcl
      have hcl3:upd H' cl (.lst (vI ns)) cl=some (.lst (vI ns)):=zc
      have B3:=g.B.same s3
      have at3:=s3 _ _ g.at_
      have sq3:=g.sq.same s3
      generalize upd H' cl (.lst (vI ns))=H3 at *
      walk_at ""
      refine⟨s,b,cl,ns,cc,by rw[g.ba],B3,hcl3,hfl,fun H4 b' ll k4 hll hll4=>?_⟩
      have at4:=k4.fr _ _ g.tn at3
      have sq4:=sq3.keep k4
      have hlt:ll≠tl:=(k8 at3 hll).symm
      have tn4:tl∉ads A (Vbemai.stepNumbers s cc).1 b':=fun z=>by
       rcases k4.nw _ z with z|z
       ·exact g.tn z
       ·rw[at3] at z;cases z
      have hlen:=g.len
      have hfew:=g.few
      rw[qi0,Jz] at hfew
      walk_at ""
      refine qau (qbh (SqL.of hll4)) ?_
      rw[qas]
      walk_at ""
      refine qco at4 (small 13000000 (by rw[qas];omega)) ?_
      walk_at ""
      refine qjk zc (by rw[qc hlt];exact hll4) (Xj (small 13000000 (by rw[Jx,qas,qas];simp only[Jz,Y3];omega))) ?_
      rw[qbc]
      walk_at ""
      refine⟨b',_,⟨hel,sq4.upd,?_,tn4,?_,by rw[k4.ba];exact g.ba,by rw[<- ht];exact hcs',fun c hc=>g.ask c (by rw[qi0];exact Jm _ hc),?_,?_,by omega⟩,rfl⟩
      ·rw[zc];simp[vI]
      ·refine⟨k4.bat.good,fun c hc=>?_,k4.bat.nd,k4.bat.lp,k4.bat.lm,k4.bat.lq,k4.bat.mr⟩
       have:c.1≠tl:=fun z=>tn4 (z ▸ Jk.mpr ⟨c,hc,rfl⟩)
       rw[qc this];exact k4.bat.has c hc
      ·rw[<- g.eq,qi0,Yv]
       exact Ym (acc ++ ·) (QM.q9n _ _).symm
      ·rw[Jx,Jz];omega
    rcases QM.qxf hcall with ⟨hp0,n,r',hr,hnl,hcc,ht⟩|⟨k,hpk,hk1,hk2,hkl,hcc,ht⟩
    ·have hl1:l[i+1]?=some (n:Int):=by
      have:(l.drop (i+1))[0]?=some (n:Int):=by rw[hr];rfl
      rw[List.getElem?_drop] at this
      exact this
     have hdl:(l.drop (i+1)).length=l.length-(i+1):=Qg
     rw[hr,Jz] at hdl
     refine key (i+2+n) (0::(n:Int)::r'.take n) (by omega) (by omega) ?_ (.inl ⟨n,r'.take n,hcc,rfl,?_⟩) ?_ ?_
     ·rw[hdr,hp0,hr]
      have e:i+2+n-i=n+1+1:=by omega
      rw[e];rfl
     ·rw[hcc] at qiz
      have qiz:((r'.take n).all (fun (z:Int)=>VbemaiNeutral.whole60 z)&&decide ((r'.take n).length<=200))=true:=qiz
      rw[Jw,Zb] at qiz
      omega
     ·rw[ht]
      have:l.drop (i+2+n)=((l.drop (i+1)).drop 1).drop n:=by rw[List.drop_drop,List.drop_drop];congr 1;omega
      rw[this,hr];rfl
     ·intro Q' hq'
      exact⟨a,l,i,_,rfl,hsq,hpi,.inl ⟨hp0,n,hl1,hq'⟩⟩
    ·have hdl:(l.drop (i+1)).length=l.length-(i+1):=Qg
     rw[qv8] at hkl hcc ht
     refine key (i+1+(vn k).length) ((k:Int)::(l.drop (i+1)).take (vn k).length) (by omega) (by omega) ?_ (.inr ⟨k,_,hcc,rfl,hk1,hk2,by rw[Zs];omega⟩) ?_ ?_
     ·rw[hdr,hpk]
      have e:i+1+(vn k).length-i=(vn k).length+1:=by omega
      rw[e];rfl
     ·rw[ht,List.drop_drop]
     ·intro Q' hq'
      exact⟨a,l,i,_,rfl,hsq,hpi,.inr ⟨k,hpk,hk1,hk2,hq'⟩⟩
   ·walk_at ""
    have hi:i=l.length:=by have:=g.le;omega
    have hpr:=g.pr
    rw[hi,List.drop_length] at hpr
    have hcs:=QM.qxk hpr
    have heq:=g.eq
    rw[hcs] at heq
    have heq:acc++[]=PyVbemai.answers l:=heq
    rw[Y7] at heq
    refine q H' tl ?_
    rw[<- heq];exact g.at_
section
variable {P:Program} {w:World} {K:PySem.W.Frag} {mg:Str->Option Value} {A:Ads}
theorem tree(T:Txt P w K mg A){f:Addr}{fd:FuncData}(F:Fun K "answers" "answers" qjr f fd)(base:Heap): Qbw P w K mg base CX0 (10+1) f fd ["calls"] (qj0 K):=by
 exact q0h T F
end
section
open PySem.W (nsIn findIn isFn codeIn keepIn makesIn plainGet hasDictIn plainOver mg_of mg_none_of)
variable {P:Program} {w:World} {K:PySem.W.Frag} {h:Heap} {mg:Str->Option Value} {A:Ads} {Go:Prop}
theorem w_int{n:Str}{i:Int}{t:Tok}(X:K.In h)(G:h.Ns mainGlobals mg)(e:nsIn K mainGlobals n=some (some (.int i t))): GI mg n i:=⟨t,mg_of X G e⟩
theorem w_no{n:Str}(X:K.In h)(G:h.Ns mainGlobals mg)(e:nsIn K mainGlobals n=some none): mg n=none:=mg_none_of X G e
theorem w_fn{x:Str}{st:Stmt}{f:Addr}{oc:Value}{od an:Option Addr}{osl:Array (Option Value)}{kV doc pm cdv ct:Value}(X:K.In h)(G:h.Ns mainGlobals mg)(a:nsIn K mainGlobals x=some (some (.ref f)))
  (l:K.lookup f=some ⟨oc,od,.func (PySem.W.fnOf x x (qd6 st) (qci st) (zh st) .none kV doc pm an cdv ct),osl⟩)(cd:codeIn K cdv x=true)(k:keepIn K (.ref f)=true): Dfn K mg x st:=⟨f,_,qpo (st:=st) l cd k,mg_of X G a⟩
theorem qg3{x q:Str}{st:Stmt}{C f:Addr}{oc:Value}{od an:Option Addr}{osl:Array (Option Value)}{kV doc pm cdv ct:Value}(X:K.In h)(G:h.Ns mainGlobals mg)(aC:nsIn K mainGlobals x=some (some (.ref C)))
  (a1:findIn K (.ref C) "__init__" = some (some (.ref f)))(i1:isFn K (.ref f)=true)(l:K.lookup f=some ⟨oc,od,.func (PySem.W.fnOf "__init__" q (qd6 st) (qci st) (zh st) .none kV doc pm an cdv ct),osl⟩)(cd:codeIn K cdv q=true)(k:keepIn K (.ref f)=true)
  (pg:plainGet K C Str.empty=true)(hd:hasDictIn K C=true)(po:plainOver K C=true)(sa:findIn K (.ref C) "__setattr__" = some (some (.builtin "object.__setattr__")))(mk:makesIn K C=true)(kc:keepIn K (.ref C)=true)(c:Dcl K mg x q C st->Cls K C->Go): Go:=
 c ⟨f,_,qpo (st:=st) l cd k,⟨mk,a1,i1,kc⟩,mg_of X G aC⟩ ⟨pg,hd,po,sa⟩
theorem qg4{C D:Addr}{f:Str}(_:Cls K C)(hc:D=C)(e:findIn K (.ref C) f=some none): Vz K D f:=by rw[hc];exact e
def KL(w:World): List DictEntry->List Key->Prop
 |[],[]=>True
 |e::es,k::ks=>(qba k e.key=true/\e.hash=keyH w k)/\KL w es ks
 |_,_=>False
theorem KL.mem{w:World}: ∀ {es:List DictEntry} {ks:List Key},KL w es ks->∀ e∈es,∃ k,qba k e.key=true/\e.hash=keyH w k
 |[],_,_,_,h=>by cases h
 |e::es,[],h,_,_=>h.elim
 | e::es,k::ks,h,e',he=>by
   rcases Jf.mp he with rfl|he
   ·exact⟨k,h.1⟩
   ·exact KL.mem h.2 e' he
theorem KL.find{w:World}: ∀ {es:List DictEntry} {ks:List Key} {i:Nat} {k:Key} {e:DictEntry},KL w es ks->ks.Nodup->ks[i]?=some k->es[i]?=some e->es.find? (fun e=>qba k e.key)=some e
 |[],_,i,k,e,_,_,_,h=>by simp at h
 |e0::es,[],_,_,_,h,_,_,_=>h.elim
 | e0::es,k0::ks,0,k,e,h,hn,hk,he=>by
   simp at hk he
   subst hk;subst he
   rw[Yg,h.1.1]
 | e0::es,k0::ks,i+1,k,e,h,hn,hk,he=>by
   have hn2:=Xf.mp hn
   have hk2:ks[i]?=some k:=by simpa using hk
   have h0:qba k e0.key=false:=by
    cases q:qba k e0.key with
    |false=>rfl
    | true=>
      have:=(yc default w).inj e0.key k k0 q h.1.1
      subst this
      exact absurd (J0 hk2) hn2.1
   rw[Yg,h0]
   exact KL.find h.2 hn2.2 hk2 (by simpa using he)
structure GDs(w:World)(K:PySem.W.Frag)(a:Addr)(es:Array DictEntry)(ks:List Key): Prop where
 l:∃ n,K.lookup a=some ⟨.type "dict",none,.dict es n,#[]⟩
 k:KL w es.toList ks
 n:ks.Nodup
theorem GDs.at{a:Addr}{es:Array DictEntry}{ks:List Key}(g:GDs w K a es ks)(i:Nat){k:Key}{hh:Int}{kv u:Value}(h1:ks[i]?=some k)(h2:es.toList[i]?=some ⟨hh,kv,u⟩): Kq P w K a k u:=by
 obtain⟨n,hl⟩:=g.l
 refine⟨es,n,hl,fun e he=>g.k.mem e (Array.mem_toList_iff.mpr he),?_⟩
 unfold findBy
 obtain⟨l⟩:=es
 have h:=g.k.find g.n h1 h2
 rw[List.find?_toArray]
 have h:l.find? (fun e=>qba k e.key)=some ⟨hh,kv,u⟩:=h
 rw[h];rfl
theorem qig{x:Str}{a:Addr}{es:Array DictEntry}{n:Nat}(ks:List Key)(X:K.In h)(G:h.Ns mainGlobals mg)(e:nsIn K mainGlobals x=some (some (.ref a)))(l:K.lookup a=some ⟨.type "dict",none,.dict es n,#[]⟩)(k:KL w es.toList ks)(nd:ks.Nodup)
  (c:mg x=some (.ref a)->GDs w K a es ks->Go): Go:=c (mg_of X G e) ⟨⟨n,l⟩,k,nd⟩
theorem quu{u:Addr}{od:Option Addr}{its:Array Value}{n:Nat}{sl:Array (Option Value)}{xs:List V}(l:K.lookup u=some ⟨.type "tuple",od,.seq its n,sl⟩)(hz:its.size<=1000)(hv:Vals xs its.toList): ∀ H,SqT K H u xs:=
 fun H=>.inr ⟨_,its,n,l,rfl,rfl,Xj (qar hz),hv⟩
theorem qbf{x:Str}{lo hi:Int}{a u:Addr}{es:Array DictEntry}{ks:List Key}(i:Nat){hh:Int}{kv:Value}{od:Option Addr}{n:Nat}{sl:Array (Option Value)}{t1 t2:Tok}(g:GDs w K a es ks)(h1:ks[i]?=some (Sum.inr x))(h2:es.toList[i]?=some ⟨hh,kv,.ref u⟩)
  (l:K.lookup u=some ⟨.type "tuple",od,.seq #[.int lo t1,.int hi t2] n,sl⟩): ∃ u,Kq P w K a (Sum.inr x) (.ref u)/\∀ H,SqT K H u [.int lo,.int hi]:=
 ⟨u,g.at i h1 h2,quu l (by simp) (.cons ⟨_,rfl⟩ (.cons ⟨_,rfl⟩ .nil))⟩
theorem w_arg{k:Int}{a u:Addr}{es:Array DictEntry}{ks:List Key}(i:Nat){hh:Int}{kv:Value}{od:Option Addr}{its:Array Value}{n:Nat}{sl:Array (Option Value)}{xs:List V}(g:GDs w K a es ks)(h1:ks[i]?=some (Sum.inl k))(h2:es.toList[i]?=some ⟨hh,kv,.ref u⟩)
  (l:K.lookup u=some ⟨.type "tuple",od,.seq its n,sl⟩)(hv:Vals xs its.toList)(hz:its.toList.length<=1000): ∃ u,Kq P w K a (Sum.inl k) (.ref u)/\∀ H,SqT K H u xs:=
 ⟨u,g.at i h1 h2,quu l (by simpa using hz) hv⟩
theorem qa0{k:Int}{x:Str}{a u:Addr}{es:Array DictEntry}{ks:List Key}(i:Nat){hh:Int}{kv:Value}(X:K.In h)(G:h.Ns mainGlobals mg)(g:GDs w K a es ks)(h1:ks[i]?=some (Sum.inl k))(h2:es.toList[i]?=some ⟨hh,kv,.ref u⟩)(m:nsIn K mainGlobals x=some (some (.ref u))):
  ∃ u,Kq P w K a (Sum.inl k) (.ref u)/\mg x=some (.ref u):=⟨u,g.at i h1 h2,mg_of X G m⟩
theorem fin(T:Txt P w K mg A){fa:Addr}(hmg:mg "answers" = some (.ref fa)): ∃ fd:FuncData,(∀ (s:Shared) (us:List Value),us.length=(["calls"]:List Str).length->BindsTo s fd ⟨us,[]⟩ ((["calls"]:List Str).zip us))/\∀ base:Heap,K.In base->base.Ns mainGlobals mg->Qbw P w K mg base CX0 (10+1) fa fd ["calls"] (qj0 K):=by
 obtain⟨f,fd,F,hm⟩:=T.qx4.ex
 rw[hmg] at hm
 cases hm
 refine⟨fd,?_,fun base _ _=>tree T F base⟩
 obtain⟨oc,od,kV,doc,pm,an,cdv,ct,osl,rfl,lk,hcd⟩:=F.ex
 exact fun s us hu=>match us,hu with|[_],_=>.of_eq rfl
end
end L2.QP
open PySem PySem.W PyProof.Rows
local macro_rules | `(tactic|walk_at "e1")=>`(tactic|any_goals k_is)
local macro_rules | `(tactic|walk_at "e3")=>`(tactic|any_goals (first|k_is|exact rfl))
local macro_rules | `(tactic|walk_at "e5")=>`(tactic|any_goals (first|k_is|((refine⟨⟨rfl,rfl⟩,?_⟩);(repeat (first|exact True.intro|refine⟨⟨rfl,rfl⟩,?_⟩)))|decide +kernel))
local macro_rules | `(tactic|walk_at "e6")=>`(tactic|any_goals (first|k_is|exact rfl|((refine .cons ⟨_,rfl⟩ ?_);(repeat (first|exact .nil|refine .cons ⟨_,rfl⟩ ?_)))|exact .nil|exact Nat.le_of_ble_eq_true rfl))
open L2.QP (w_int w_no w_fn qg3 qg4 qig qbf w_arg qa0 qjq qjo qjp qjm qjn)
set_option maxRecDepth 100000 in
set_option maxHeartbeats 0 in
theorem PySem.Challenge.cw_quartermeters_s01_answers_holds : PySem.Challenge.rw_quartermeters_s01_answers.Holds := by
 w_on;k_headS;(case hw=>exact⟨[.list [.int 22]],by decide +kernel,by decide +kernel⟩)
 k_fillS
 refine L2.zae (r:=PySem.Challenge.rw_quartermeters_s01_answers) (k:=11) (CX:=L2.CX0) (ps:=["calls"]) (sp:=L2.QP.qj0) (by decide +kernel) rfl rfl ⟨rfl,by decide,by decide⟩ (fun w h Y=>PySem.W.kIn_of Y) ?F ?S (fun _ _ _ _ z=>z)
 case S=>
  intro K H xs a hO hwi qck hx
  cases hx with
  | cons h1 h2=>
    cases h2
    cases h1 with
    | lst hs ha=>
      have e:=L2.qp5 a.1 _ ha
      subst e
      exact⟨_,a.1,rfl,hs,hO,qck,fun H' p hp=>.lst (L2.SqL.of hp) (L2.qo9 _)⟩
 case F=>
  intro w mg fa h Y KX G hmg
  refine' qg3 (x:= "Profile") (q:= "Profile.__init__") (st:=qjq) KX G ?_ ?_ ?_ ?_ ?_ ?_ ?_ ?_ ?_ ?_ ?_ ?_ (fun _ c1=>?_);walk_at "e1"
  refine' qg3 (x:= "Dial") (q:= "Dial.__init__") (st:=qjo) KX G ?_ ?_ ?_ ?_ ?_ ?_ ?_ ?_ ?_ ?_ ?_ ?_ (fun _ c2=>?_);walk_at "e1"
  refine' qg3 (x:= "Meter") (q:= "Meter.__init__") (st:=qjp) KX G ?_ ?_ ?_ ?_ ?_ ?_ ?_ ?_ ?_ ?_ ?_ ?_ (fun _ c3=>?_);walk_at "e1"
  refine' qg3 (x:= "Book") (q:= "Book.__init__") (st:=qjm) KX G ?_ ?_ ?_ ?_ ?_ ?_ ?_ ?_ ?_ ?_ ?_ ?_ (fun _ c4=>?_);walk_at "e1"
  refine' qg3 (x:= "Course") (q:= "Course.__init__") (st:=qjn) KX G ?_ ?_ ?_ ?_ ?_ ?_ ?_ ?_ ?_ ?_ ?_ ?_ (fun _ c5=>?_);walk_at "e1"
  refine' qig (w:=w) (x:= "LIMITS") [Sum.inr "weights",Sum.inr "kind",Sum.inr "zone",Sum.inr "second",Sum.inr "boundary",Sum.inr "digits",Sum.inr "factor",Sum.inr "start",Sum.inr "end",Sum.inr "profile",Sum.inr "rate",Sum.inr "meter",Sum.inr "version",Sum.inr "value",Sum.inr "quarter",Sum.inr "hand",Sum.inr "from",Sum.inr "to",Sum.inr "most"] KX G ?_ ?_ ?_ ?_ (fun _ g1=>?_);walk_at "e5"
  refine' qig (w:=w) (x:= "ARGUMENTS") [Sum.inl 1,Sum.inl 2,Sum.inl 3,Sum.inl 4,Sum.inl 5,Sum.inl 6,Sum.inl 7,Sum.inl 8,Sum.inl 9,Sum.inl 10,Sum.inl 11,Sum.inl 12,Sum.inl 13,Sum.inl 14,Sum.inl 15,Sum.inl 16,Sum.inl 17,Sum.inl 18,Sum.inl 19,Sum.inl 20,Sum.inl 21,Sum.inl 22] KX G ?_ ?_ ?_ ?_ (fun _ g2=>?_);walk_at "e5"
  refine' qig (w:=w) (x:= "CHANGES") [Sum.inl 0,Sum.inl 1,Sum.inl 2,Sum.inl 3,Sum.inl 4,Sum.inl 5,Sum.inl 6,Sum.inl 7,Sum.inl 8] KX G ?_ ?_ ?_ ?_ (fun _ g3=>?_);walk_at "e5"
  refine' qig (w:=w) (x:= "QUESTIONS") [Sum.inl 9,Sum.inl 10,Sum.inl 11,Sum.inl 12,Sum.inl 13,Sum.inl 14,Sum.inl 15,Sum.inl 16,Sum.inl 17,Sum.inl 18,Sum.inl 19,Sum.inl 20,Sum.inl 21,Sum.inl 22] KX G ?_ ?_ ?_ ?_ (fun _ g4=>?_);walk_at "e5"
  refine' L2.QP.fin (A:=⟨_,_,_,_,_,_,_,_,_⟩) ?T hmg
  case T=>
   constructor
   all_goals first|with_reducible assumption|(refine' w_int KX G ?_;walk_at "e1";done)|(refine' w_no KX G ?_;k_is)|(refine' w_fn KX G ?_ ?_ ?_ ?_;walk_at "e1";done)|((first|refine' qg4 c1 rfl ?_|refine' qg4 c2 rfl ?_|refine' qg4 c3 rfl ?_|refine' qg4 c4 rfl ?_|refine' qg4 c5 rfl ?_);k_is)|skip
   ·refine' qbf 0 g1 ?_ ?_ ?_;walk_at "e3"
   ·refine' qbf 1 g1 ?_ ?_ ?_;walk_at "e3"
   ·refine' qbf 2 g1 ?_ ?_ ?_;walk_at "e3"
   ·refine' qbf 3 g1 ?_ ?_ ?_;walk_at "e3"
   ·refine' qbf 4 g1 ?_ ?_ ?_;walk_at "e3"
   ·refine' qbf 5 g1 ?_ ?_ ?_;walk_at "e3"
   ·refine' qbf 6 g1 ?_ ?_ ?_;walk_at "e3"
   ·refine' qbf 7 g1 ?_ ?_ ?_;walk_at "e3"
   ·refine' qbf 8 g1 ?_ ?_ ?_;walk_at "e3"
   ·refine' qbf 9 g1 ?_ ?_ ?_;walk_at "e3"
   ·refine' qbf 10 g1 ?_ ?_ ?_;walk_at "e3"
   ·refine' qbf 11 g1 ?_ ?_ ?_;walk_at "e3"
   ·refine' qbf 12 g1 ?_ ?_ ?_;walk_at "e3"
   ·refine' qbf 13 g1 ?_ ?_ ?_;walk_at "e3"
   ·refine' qbf 14 g1 ?_ ?_ ?_;walk_at "e3"
   ·refine' qbf 15 g1 ?_ ?_ ?_;walk_at "e3"
   ·refine' qbf 16 g1 ?_ ?_ ?_;walk_at "e3"
   ·refine' qbf 17 g1 ?_ ?_ ?_;walk_at "e3"
   ·refine' qbf 18 g1 ?_ ?_ ?_;walk_at "e3"
   ·refine' w_arg 0 g2 ?_ ?_ ?_ ?_ ?_;walk_at "e6"
   ·refine' w_arg 1 g2 ?_ ?_ ?_ ?_ ?_;walk_at "e6"
   ·refine' w_arg 2 g2 ?_ ?_ ?_ ?_ ?_;walk_at "e6"
   ·refine' w_arg 3 g2 ?_ ?_ ?_ ?_ ?_;walk_at "e6"
   ·refine' w_arg 4 g2 ?_ ?_ ?_ ?_ ?_;walk_at "e6"
   ·refine' w_arg 5 g2 ?_ ?_ ?_ ?_ ?_;walk_at "e6"
   ·refine' w_arg 6 g2 ?_ ?_ ?_ ?_ ?_;walk_at "e6"
   ·refine' w_arg 7 g2 ?_ ?_ ?_ ?_ ?_;walk_at "e6"
   ·refine' w_arg 8 g2 ?_ ?_ ?_ ?_ ?_;walk_at "e6"
   ·refine' w_arg 9 g2 ?_ ?_ ?_ ?_ ?_;walk_at "e6"
   ·refine' w_arg 10 g2 ?_ ?_ ?_ ?_ ?_;walk_at "e6"
   ·refine' w_arg 11 g2 ?_ ?_ ?_ ?_ ?_;walk_at "e6"
   ·refine' w_arg 12 g2 ?_ ?_ ?_ ?_ ?_;walk_at "e6"
   ·refine' w_arg 13 g2 ?_ ?_ ?_ ?_ ?_;walk_at "e6"
   ·refine' w_arg 14 g2 ?_ ?_ ?_ ?_ ?_;walk_at "e6"
   ·refine' w_arg 15 g2 ?_ ?_ ?_ ?_ ?_;walk_at "e6"
   ·refine' w_arg 16 g2 ?_ ?_ ?_ ?_ ?_;walk_at "e6"
   ·refine' w_arg 17 g2 ?_ ?_ ?_ ?_ ?_;walk_at "e6"
   ·refine' w_arg 18 g2 ?_ ?_ ?_ ?_ ?_;walk_at "e6"
   ·refine' w_arg 19 g2 ?_ ?_ ?_ ?_ ?_;walk_at "e6"
   ·refine' w_arg 20 g2 ?_ ?_ ?_ ?_ ?_;walk_at "e6"
   ·refine' w_arg 21 g2 ?_ ?_ ?_ ?_ ?_;walk_at "e6"
   ·refine' qa0 0 KX G g3 ?_ ?_ ?_;walk_at "e3"
   ·refine' qa0 1 KX G g3 ?_ ?_ ?_;walk_at "e3"
   ·refine' qa0 2 KX G g3 ?_ ?_ ?_;walk_at "e3"
   ·refine' qa0 3 KX G g3 ?_ ?_ ?_;walk_at "e3"
   ·refine' qa0 4 KX G g3 ?_ ?_ ?_;walk_at "e3"
   ·refine' qa0 5 KX G g3 ?_ ?_ ?_;walk_at "e3"
   ·refine' qa0 6 KX G g3 ?_ ?_ ?_;walk_at "e3"
   ·refine' qa0 7 KX G g3 ?_ ?_ ?_;walk_at "e3"
   ·refine' qa0 8 KX G g3 ?_ ?_ ?_;walk_at "e3"
   ·refine' qa0 0 KX G g4 ?_ ?_ ?_;walk_at "e3"
   ·refine' qa0 1 KX G g4 ?_ ?_ ?_;walk_at "e3"
   ·refine' qa0 2 KX G g4 ?_ ?_ ?_;walk_at "e3"
   ·refine' qa0 3 KX G g4 ?_ ?_ ?_;walk_at "e3"
   ·refine' qa0 4 KX G g4 ?_ ?_ ?_;walk_at "e3"
   ·refine' qa0 5 KX G g4 ?_ ?_ ?_;walk_at "e3"
   ·refine' qa0 6 KX G g4 ?_ ?_ ?_;walk_at "e3"
   ·refine' qa0 7 KX G g4 ?_ ?_ ?_;walk_at "e3"
   ·refine' qa0 8 KX G g4 ?_ ?_ ?_;walk_at "e3"
   ·refine' qa0 9 KX G g4 ?_ ?_ ?_;walk_at "e3"
   ·refine' qa0 10 KX G g4 ?_ ?_ ?_;walk_at "e3"
   ·refine' qa0 11 KX G g4 ?_ ?_ ?_;walk_at "e3"
   ·refine' qa0 12 KX G g4 ?_ ?_ ?_;walk_at "e3"
   ·refine' qa0 13 KX G g4 ?_ ?_ ?_;walk_at "e3"
