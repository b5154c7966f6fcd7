import PyProof.Rows.All
import Wide.All
import OpenK.AllK
import Wide.FinOn
import Lean
import PyProof.EqAt
import PyProof.EqKinds
import PyProof.TupleCall
import PyProof.ZipIter
import PyProof.AttrMissHeap
import PyProof.Walks
import PyProof.WalksS
import PySem.SetTable
import KE.KSortTup
import KE.KRevIter
import PyProof.Rows.SetFrom
import PyProof.CollectWalk
import PyProof.DictWalks
import PyProof.DictItems
import KE.KDictList
import PyProof.ListRange
import PyProof.EqAt
import PyProof.WalkInts
import PyProof.StrBlockG
import PyProof.SumWalk
import PyProof.Rows.TupIter
import PyProof.StrLawsIdx
import PyProof.CallStr
import PyProof.StrCalls2
import PyProof.StrWalks
import KE.KIntText
import PyProof.SetRoads
import PyProof.StrLawsTight
import PyProof.Rows.FStr
import PyProof.SumAny
import PyProof.MinMaxWalk
import PyProof.DefCall
import KE.KMinKey
import KE.KEqDict
import PyProof.DictFindH
import PyProof.Rows.CallKw2
import PyProof.Rows.CallKwBuiltin
import KE.KDictOf
import PyProof.ExcArgsOwn
import PyProof.Draws
import PyProof.EnumMake
import PyProof.ConsumeWalk
import PySem.Challenge.RW_callwalk_k32_forward_is_closed
section
open PySem PySem.W PyProof.Rows
def PySem.W.Vw:Program:={PySem.Challenge.pw_callwalk_k32_forward_is_closed with main:={PySem.Challenge.pw_callwalk_k32_forward_is_closed.main with body:=PySem.Challenge.pw_callwalk_k32_forward_is_closed.main.body.filter fun s=>match s with|.FunctionDef ..=>true|.ClassDef ..=>true|_=>false}}
local macro_rules | `(tactic| o_head $H) => `(tactic| refine holds_open (q := PySem.W.Vw) (loose := []) (Xt := fun s => xlAt PySem.W.Vw [] s && recOk (RowW.records PySem.Challenge.rw_callwalk_k32_forward_is_closed.row.toRowW) s) (XP := XL PySem.W.Vw []) (Yf := Hook.obs $H) (Ya := Hook.val $H) (YP := Hook.says $H) (N := 2998) (fun w => by kernel_rfl) (Hook.of $H) (Hook.keeps $H) (fun s e => xl_of s (Bool.and_eq_true_iff.mp e).1) XL.keeps (by rfl) (by rfl) (by rfl) (fun s e => recFacts_of (Bool.and_eq_true_iff.mp e).2) (by rfl) (by first | assumption | decide +kernel) (by decide +kernel) ⟨rfl, rfl, rfl, rfl, rfl, by decide +kernel⟩ ?_ ?_)
set_option Elab.async false
set_option maxRecDepth 100000
set_option maxHeartbeats 0
theorem PySem.W.Ew:PySem.Challenge.rw_callwalk_k32_forward_is_closed.wellSaid=true:=by kernel_rfl
def PySem.W.Ea:=fun hc=>(by
 w_on;refine holds_law PySem.W.Ew fun said=>?_;k_head;(· w_witness2)
 exact hc:PySem.Challenge.rw_callwalk_k32_forward_is_closed.Holds)
end
set_option autoImplicit true
set_option Elab.async false
set_option linter.all false
set_option genSizeOf false
set_option genSizeOfSpec false
set_option compiler.extract_closed false
set_option maxRecDepth 100000
set_option maxHeartbeats 4000000
set_option bootstrap.genMatcherCode false
noncomputable section
abbrev KE:=@PySem.wpAny_bind
abbrev L_:=@PySem.wpAny_pure
abbrev Mb:=@PySem.Heap.get?_push_of_some
abbrev Mc:=@Nat.le_refl
abbrev Md:=@List.mem_map
abbrev Me:=@List.length_map
abbrev Mg:=@List.getElem?_eq_some_iff
abbrev Mh:=@if_pos
abbrev Mi:=@List.size_toArray
abbrev Mj:=@if_neg
abbrev Ml:=@List.getElem?_eq_getElem
abbrev Mm:=@PySem.Heap.get?_push_size
abbrev Mn:=@Array.getElem?_toList
abbrev Mo:=@List.append_assoc
abbrev Mp:=@decide_eq_true
abbrev Mq:=@Nat.le_trans
abbrev Mr:=@List.mem_cons_self
abbrev Ms:=@List.mem_cons_of_mem
abbrev Mv:=@List.mem_cons
abbrev Mw:=@List.getElem?_append_right
abbrev Mx:=@PySem.Heap.lt_size
abbrev My:=@decide_eq_false
abbrev Mz:=@Bool.false_eq_true
abbrev MA:=@PyProof.Rows.wpS_bind
abbrev MB:=@List.length_append
abbrev MC:=@List.map_cons
abbrev ME:=@List.getElem?_map
abbrev MF:=@Bool.false_ne_true
abbrev MG:=@List.pairwise_iff_getElem
abbrev MH:=@List.mem_singleton
abbrev MJ:=@List.mem_iff_getElem?
abbrev ML:=@Nat.zero_le
abbrev MM:=@List.getElem?_append_left
abbrev MN:=@PyProof.Rows.wpS_pure
abbrev MO:=@List.mem_append
abbrev MP:=@List.take_append_drop
abbrev MQ:=@List.pairwise_map
abbrev MR:=@Array.length_toList
abbrev MS:=@Nat.ne_of_lt
abbrev MT:=@congrArg
abbrev MU:=@List.length_take
abbrev MV:=@PySem.sizeLine_eq
abbrev MW:=@List.mem_of_getElem?
abbrev MX:=@List.mem_append_right
abbrev MY:=@Nat.lt_of_lt_of_le
abbrev MZ:=@List.mem_range
abbrev M0:=@List.map_congr_left
abbrev M3:=@PySem.wpAny_call_entry
abbrev M5:=@Option.map_eq_some_iff
abbrev M8:=@List.map_append
abbrev M_:=@PySem.Heap.SameBut.update
abbrev Na:=@List.mem_append_left
abbrev Nb:=@PySem.wpAny_holding
abbrev Nc:=@PySem.wpAny_newObj_type
abbrev Nd:=@Nat.le_of_lt
abbrev Nf:=@List.map_map
abbrev Ng:=@List.take_length
abbrev Nh:=@PySem.W.mg_none_of
abbrev Ni:=@Array.toList_append
abbrev Nj:=@PySem.PassesOwn.never
abbrev Nk:=@List.mem_of_mem_take
abbrev Nl:=@List.length_cons
abbrev Nm:=@if_false
abbrev Nn:=@Nat.lt_of_le_of_lt
abbrev Np:=@List.pairwise_cons
abbrev Nq:=@PySem.F.slot_dict_setdefault
abbrev Nr:=@List.drop_of_length_le
abbrev Nt:=@List.take_of_length_le
abbrev Nu:=@List.length_eq_one_iff
abbrev Nv:=@Bool.and_eq_true
abbrev Nw:=@PyProof.Rows.slot_tuple_getitem
abbrev Nx:=@Nat.exists_eq_add_of_le'
abbrev Ny:=@List.length_singleton
abbrev Nz:=@List.getElem?_eq_none
abbrev NA:=@PySem.wpAny_callSpecial?_slot
abbrev NB:=@PySem.F.slot_dict_itemiterator_next
abbrev NC:=@PySem.wpAny_mono
abbrev ND:=@of_decide_eq_true
abbrev NE:=@PySem.wpAny_setState_of
abbrev NF:=@List.take_add_one
abbrev NG:=@List.mem_of_mem_drop
abbrev NH:=@List.pairwise_append
abbrev NI:=@PySem.Heap.get?_update_other
abbrev NJ:=@Bool.not_true
abbrev NL:=@List.getElem?_take
abbrev NM:=@Option.some.inj
abbrev NN:=@PySem.W.kia_one
abbrev NO:=@PySem.Heap.get?_update_self
abbrev NP:=@PyProof.Rows.wpS_forRange
abbrev NQ:=@List.mem_map_of_mem
abbrev NR:=@List.mem_flatMap
abbrev NS:=@PySem.F.plainAttrs_dict
abbrev NT:=@List.nodup_append
abbrev NU:=@PyProof.Rows.wpS_mono
abbrev NV:=@List.drop_eq_getElem_cons
abbrev NW:=@PyProof.Rows.F.plain_set_update_loop
abbrev NY:=@List.not_mem_nil
abbrev NZ:=@List.all_eq_true
abbrev N0:=@PySem.wpAny_truthy_bool
abbrev N1:=@List.Pairwise.imp_of_mem
abbrev N2:=@List.ext_getElem?
abbrev N3:=@PySem.F.type_dict_setdefault
abbrev N4:=@PySem.codeAny_builtin
abbrev N5:=@List.pairwise_singleton
abbrev N6:=@Array.getElem?_eq_some_iff
abbrev N7:=@PySem.mem_of_lookup
abbrev N8:=@List.take_sublist
abbrev N9:=@Classical.byContradiction
abbrev N_:=@PySem.boot_len
abbrev Oa:=@Bool.eq_iff_iff
abbrev Ob:=@List.append_nil
abbrev Oc:=@List.perm_append_comm
abbrev Od:=@PySem.wpAny_typeNameOfWhole_itemiter
abbrev Oe:=@Nat.le_of_ble_eq_true
abbrev Of:=@Option.isSome_iff_exists
abbrev Og:=@PySem.tupleKind_room_in1
abbrev Oh:=@List.length_drop
abbrev Oi:=@PySem.Around.under_plainId
abbrev Oj:=@Nat.lt_irrefl
abbrev Ol:=@Ne.symm
abbrev Om:=@PySem.F.slot_tuple_hash
abbrev On:=@List.length_eq_zero_iff
abbrev Oo:=@PySem.F.plainAttrs_list
abbrev Oq:=@PySem.wpAny_dictEntries
abbrev Os:=@List.find?_cons
abbrev Ot:=@beq_eq_false_iff_ne
abbrev Ou:=@beq_self_eq_true
abbrev Ov:=@PySem.wpAny_notOrdered_dict
abbrev Ow:=@PySem.Calls.call_function_entry
abbrev Ox:=@List.drop_zero
abbrev Oy:=@PySem.wpAny_typeNameOf_itemiter
abbrev Oz:=@List.take_succ_eq_append_getElem
abbrev OA:=@PySem.wpAny_passesOwn
abbrev OB:=@List.nodup_cons
abbrev OC:=@PySem.wpAny_specialOf
abbrev OD:=@List.drop_sublist
abbrev OE:=@Array.toList_push
abbrev OF:=@bne_self_eq_false
abbrev OG:=@Nat.not_lt_zero
abbrev OH:=@Nat.ne_of_gt
abbrev OI:=@List.filterMap_cons
abbrev OJ:=@List.any_cons
abbrev OL:=@Int.toNat_of_nonneg
abbrev OM:=@PySem.wpAny_forIn_list
abbrev ON:=@PySem.wpAny_isInstance
abbrev OO:=@Nat.le_of_not_lt
abbrev OP:=@List.lookup_cons
abbrev OQ:=@PySem.wpAny_typeNameOfWhole_keyiter
abbrev OR:=@List.nodup_nil
abbrev OS:=@PySem.Calls.callWith_builtin
abbrev OT:=@List.mem_filterMap
abbrev OU:=@PySem.wpAny_Call_Name_kw
abbrev OV:=@Array.forIn_toList
abbrev OW:=@PySem.wpAny_setField_rec
abbrev OX:=@PySem.wpAny_execs_nil
abbrev OY:=@List.length_replicate
abbrev OZ:=@PySem.wpAny_typeOf
abbrev O0:=@List.pairwise_flatMap
abbrev O1:=@PySem.Paired.length
abbrev O2:=@PySem.wpAny_pyIter_list
abbrev O3:=@Int.toNat_natCast
abbrev O4:=@Option.isSome_map
abbrev O5:=@PySem.wpAny_pyIter_slot
abbrev O6:=@PySem.wpAny_newList
abbrev O7:=@Nat.add_assoc
abbrev O8:=@PySem.SeqAt.RcAt.tuples
abbrev O9:=@List.length_range
abbrev O_:=@if_true
abbrev Pa:=@PySem.Obj.data_mapDictKeys
abbrev Pb:=@List.mem_iff_getElem
abbrev Pc:=@Array.toList_extract
abbrev Pd:=@Array.toList_reverse
abbrev Pe:=@PySem.Heap.size_push
abbrev Pf:=@List.getElem?_zip_eq_some
abbrev Pg:=@PyProof.Rows.F.entry_set_update_loop
abbrev Ph:=@PySem.wpAny_setField
abbrev Pi:=@List.getLast?_eq_some_iff
abbrev Pj:=@Nat.lt_succ_self
abbrev Pk:=@List.nodup_range
abbrev Pl:=@List.filter_cons
abbrev Po:=@List.getElem_mem
abbrev Pp:=@PySem.Heap.SameBut.extBut
abbrev Pq:=@beq_iff_eq
abbrev Ps:=@PySem.codeAny_mono
abbrev Pt:=@PySem.wpAny_rule
abbrev Pu:=@Nat.zero_add
abbrev Pw:=@PySem.wpAny_typeNameOf_keyiter
abbrev Px:=@PySem.W.callWith_K
abbrev Py:=@PySem.SeqAt.EqAt.same
abbrev PB:=@PySem.plainId_quiet
abbrev PC:=@Nat.lt_or_gt_of_ne
abbrev PD:=@PySem.W.KasT.kasWp_bind
abbrev PF:=@PySem.wpAny_attempt
abbrev PH:=@PySem.Obj.data_mapFields
abbrev PJ:=@PyProof.Rows.listUpdate_at
abbrev PK:=@PyProof.Rows.get?_update_seq
abbrev PL:=@List.getElem?_drop
abbrev PM:=@Nat.min_eq_left
abbrev PN:=@List.foldl_cons
abbrev PP:=@List.getElem?_cons_succ
abbrev PQ:=@PySem.wpAny_dictEpoch
abbrev PR:=@PySem.SeqAt.EqAt.of_refs
abbrev PU:=@Nat.add_sub_cancel_left
abbrev PV:=@PySem.wpAny_isOneOf_itemiter
abbrev PX:=@Option.map_eq_none_iff
abbrev PY:=@PySem.wpAny_field
abbrev PZ:=@Nat.lt_trichotomy
abbrev P6:=@PySem.wpAny_storeSet_of
abbrev P7:=@Nat.lt_succ_of_lt
abbrev P8:=@Sum.inl.inj
abbrev P9:=@List.foldl_append
abbrev P_:=@Bool.and_false
abbrev Qa:=@PySem.wpAny_seqItems
abbrev Qb:=@Nat.mul_le_mul
abbrev Qc:=@PySem.F.slot_dict_get
abbrev Qd:=@PySem.F.args_dict_setdefault_3
abbrev Qe:=@List.Perm.append_left
abbrev Qf:=@PySem.Obj.isFreed_of_fields
abbrev Qg:=@List.pairwise_reverse
abbrev Qh:=@List.any_eq_true
abbrev Qi:=@PySem.F.entry_dict_setdefault
abbrev Qj:=@List.drop_append_of_le_length
abbrev Qk:=@List.take_append_of_le_length
abbrev Ql:=@List.cons_append
abbrev Qm:=@PySem.Calls.evalArgs_plain
abbrev Qn:=@Array.getElem?_setIfInBounds
abbrev Qo:=@PySem.W.plainGet_of
abbrev Qp:=@List.length_nil
abbrev Qq:=@PyProof.Rows.seqEpoch_at
abbrev Qr:=@PySem.W.of_hideAll
abbrev Qs:=@Prod.ext
abbrev Qu:=@or_false
abbrev Qw:=@Nat.add_sub_cancel
abbrev Qx:=@Bool.false_and
abbrev Qy:=@List.Perm.refl
abbrev Qz:=@PySem.wpAny_fieldsOf
abbrev QA:=@PySem.W.kitx_dict
abbrev QB:=@Nat.le_of_lt_succ
abbrev QC:=@ite_congr
abbrev QD:=@Option.some.injEq
abbrev QE:=@decide_eq_true_eq
abbrev QF:=@Bool.and_self
abbrev QI:=@Option.getD_none
abbrev QJ:=@Nat.le_add_right
abbrev QK:=@List.mem_reverse
abbrev QL:=@Nat.max_eq_right
abbrev QM:=@List.map_nil
abbrev QN:=@Int.ne_of_lt
abbrev QO:=@Nat.not_lt
abbrev QP:=PySem.Shared
abbrev QQ:=PySem.W.Frag
abbrev QR:=PySem.Program
abbrev QS:=PySem.Value
abbrev QT:=PySem.Around
theorem QZ (h : True := by rfl) : True := h
theorem QU (h : True := by decide) : True := h
theorem QX (h : ∀ u : Unit, u = u := by intro _; rfl) : True := True.intro
theorem QV (h : True := by first|exact .inl rfl|exact .inr rfl|assumption) : True := h
theorem QW (h : True := by first|exact Or.inl rfl|exact Or.inr (Or.inl rfl)|exact Or.inr (Or.inr rfl)) : True := h
theorem QY (h : True := by intro _ _; rfl) : True := h

namespace L2
open PySem PySem.Spec PyProof.Rows
noncomputable abbrev bh:=Sum Int Str
noncomputable def fO:bh->QS->Bool
 | .inl k,v=>Value.isInt k v
 | .inr x,v=>Value.isStrOf x v
noncomputable def FA (w:World):bh->Int
 | .inl k=>hashInt k
 | .inr x=>hashStr w x
theorem aT:∀{k:bh}{v:QS},fO k v=true->(∃ i t,k=Sum.inl i/\v=Value.int i t)\/(∃ x t,k=Sum.inr x/\v=Value.str x t)
 | .inl i,v,h=>by obtain⟨t,e⟩:=Value.isInt_shape (k:=i) (v:=v) h;exact .inl ⟨i,t,rfl,e⟩
 | .inr x,v,h=>by obtain⟨t,e⟩:=Value.isStrOf_shape (x:=x) (v:=v) h;exact .inr ⟨x,t,rfl,e⟩
theorem mC (i:Int)(t:Tok):fO (.inl i) (.int i t)=true:=by simp[fO,Value.isInt]
theorem uR (x:Str)(t:Tok):fO (.inr x) (.str x t)=true:=by simp[fO,Value.isStrOf]
theorem CF (a b:Int):decide ((Sum.inl a:bh)=Sum.inl b)=(a==b):=by grind
theorem CG (a b:Str):decide ((Sum.inr a:bh)=Sum.inr b)=decide (a=b):=by grind
theorem CH (a:Int)(b:Str):decide ((Sum.inl a:bh)=Sum.inr b)=false:=My (fun q=>nomatch q)
theorem CI (a:Str)(b:Int):decide ((Sum.inr a:bh)=Sum.inl b)=false:=My (fun q=>nomatch q)
def ay (prog:QR)(w:World):PySem.KeyKind prog w bh where
 is:=fO
 hash:=FA w
 inj:=fun v a b ha hb=>by
  rcases aT ha with⟨i,t,rfl,rfl⟩|⟨x,t,rfl,rfl⟩
  .rcases aT hb with⟨j,u,rfl,e⟩|⟨y,u,rfl,e⟩
   .injection e with e1 _;rw[e1]
   .exact nomatch e
  .rcases aT hb with⟨j,u,rfl,e⟩|⟨y,u,rfl,e⟩
   .exact nomatch e
   .injection e with e1 _;rw[e1]
 byValue:=fun k v h=>by rcases aT h with⟨i,t,rfl,rfl⟩|⟨x,t,rfl,rfl⟩<;>rfl
 pyHash:=fun hv h=>by
  rcases aT hv with⟨i,t,rfl,rfl⟩|⟨x,t,rfl,rfl⟩
  .exact wpAny_pyHash_int h
  .exact wpAny_pyHash_str h
 eqBool:=fun hu hv h=>by
  rcases aT hu with⟨i,t,rfl,rfl⟩|⟨x,t,rfl,rfl⟩
  .rcases aT hv with⟨j,u,rfl,rfl⟩|⟨y,u,rfl,rfl⟩
   .rw[CF]at h;exact wpAny_eqBool_int h
   .rw[CH]at h;exact SeqAt.EqAt.int_str i t y u _ _ _ _ h
  .rcases aT hv with⟨j,u,rfl,rfl⟩|⟨y,u,rfl,rfl⟩
   .rw[CI]at h;exact SeqAt.EqAt.str_int x t j u _ _ _ _ h
   .rw[CG]at h;exact wpAny_eqBool_str h
 «strs»:=fun k x t v h=>by
  rcases aT h with⟨i,u,rfl,e⟩|⟨y,u,rfl,e⟩
  .exact nomatch e
  .injection e with e1 _;subst e1;cases v<;>rfl
theorem pd (prog:QR)(w:World)(i:Int)(t:Tok):(ay prog w).is (.inl i) (.int i t)=true:=mC i t
theorem ph (prog:QR)(w:World)(x:Str)(t:Tok):(ay prog w).is (.inr x) (.str x t)=true:=uR x t
inductive V where
 |bS|bl (b:Bool)|int (i:Int)|str (x:Str)|uP (b:Array UInt8)|Fa (b:UInt64)|ref (a:Addr)|ty (n:String)
 deriving DecidableEq
noncomputable def RelV:V->QS->Prop
 | .bS,u=>u=Value.none
 | .bl b,u=>u=Value.bool b
 | .int i,u=>∃ t,u=Value.int i t
 | .str x,u=>∃ t,u=Value.str x t
 | .uP b,u=>∃ t,u=Value.bytes b t
 | .Fa b,u=>∃ t,u=Value.float b t
 | .ref a,u=>u=Value.ref a
 | .ty n,u=>u=Value.type n
abbrev Vals:List V->List QS->Prop:=Paired RelV
theorem Vals.length (r:Vals xs us):xs.length=us.length:=O1 r
theorem Vals.get:∀{xs:List V}{us:List QS}{i:Nat}{x:V},Vals xs us->xs[i]?=some x->∃ u,us[i]?=some u/\RelV x u
 |_,_,_,_,.nil,e=>by simp at e
 |_,_,0,_,.cons r _,e=>by simp at e;subst e;exact⟨_,rfl,r⟩
 |_,_,i+1,x,.cons _ t,e=>by obtain⟨u,h1,h2⟩:=Vals.get (i:=i) (x:=x) t (by simpa using e);exact⟨u,by simpa using h1,h2⟩
theorem Vals.append:∀{xs ys:List V}{us ws:List QS},Vals xs us->Vals ys ws->Vals (xs++ys) (us++ws)
 |_,_,_,_,.nil,s=>s
 |_,_,_,_,.cons r t,s=>.cons r (Vals.append t s)
theorem Vals.take:∀{xs:List V}{us:List QS}(n:Nat),Vals xs us->Vals (xs.take n) (us.take n)
 |_,_,0,_=>.nil
 |_,_,_+1,.nil=>.nil
 |_,_,n+1,.cons r t=>.cons r (Vals.take n t)
theorem Vals.drop:∀{xs:List V}{us:List QS}(n:Nat),Vals xs us->Vals (xs.drop n) (us.drop n)
 |_,_,0,r=>r
 |_,_,_+1,.nil=>.nil
 |_,_,n+1,.cons _ t=>Vals.drop n t
def RelO:Option V->Option QS->Prop
 |some v,some u=>RelV v u
 |none,none=>True
 |_,_=>False
def KV {κ:Type}:List (κ×V)->List (κ×QS)->Prop:=Paired fun(p:κ×V)(q:κ×QS)=>p.1=q.1/\RelV p.2 q.2
noncomputable def kV:bh->V
 | .inl i=>.int i
 | .inr x=>.str x
inductive HO where
  
 |lst (xs:List V)
  
 |tup (xs:List V)
  
 |dK (kvs:List (bh×V))|dT (kvs:List (List bh×V))
  
 |set (S:Int->Bool) (n:Nat)
  
 |ins (C dx:Addr) (fs:List (Str×V))
  
 |own (x:Addr)
  
 |xd (fs:List (Str×V))
  
 |met (f x:Addr)
  
 |Il (lo hi:Int)
  
 |bQ (o:Obj) (u:HO)
  
 |pc (ps:Array QS)
  
 |ext (φ:Heap->Prop)
noncomputable abbrev Hp:=Addr->Option HO
noncomputable def upd (H:Hp)(a:Addr)(o:HO):Hp:=fun b=>if b=a then some o else H b
theorem ah:upd H a o a=some o:=by unfold upd;rw[Mh rfl]
theorem aA (h:b≠a):upd H a o b=H b:=by unfold upd;rw[Mj h]
theorem wB {H:Hp}(h:H a=some o)(h':H b=some u)(d:o≠u):a≠b:=by intro e;subst e;rw[h]at h';exact d (NM h')
theorem aB {H:Hp}(h:H a=some o)(h':H b=none):a≠b:=by intro e;subst e;rw[h]at h';cases h'
section
variable (P:QR)(w:World)
def ObjOk (H:Hp)(h:Heap)(a:Addr):HO->Prop
 | .lst xs=>xs.length<=sizeLine/\∃(its:List QS)(n:Nat),Vals xs its/\h.get? a=some { cls:=.type "list",data:=.seq its.toArray n }
 | .tup xs=>xs.length<=sizeLine/\∃ its:List QS,Vals xs its/\IsTup h a its.toArray
 | .dK kvs=>kvs.length<=sizeLine/\(a==sysModules)=false/\∃ vs,KV kvs vs/\h.DictOf (ay P w) a vs
 | .dT kvs=>kvs.length<=sizeLine/\(a==sysModules)=false/\∃ xs:List (List bh×Addr×QS),
  Paired (fun(p:List bh×V)(q:List bh×Addr×QS)=>p.1=q.1/\H q.2.1=some (.tup (p.1.map kV))/\RelV p.2 q.2.2) kvs xs/\
  ∃ o es ep,h.get? a=some o/\o.ExactDict/\o.data=.dict es ep/\es.toList=xs.map (entryOfKey (tupleKind (ay P w)))/\(xs.map (·.1)).Nodup
 | .set S n=>h.SetOf (intKind P w) a S n
 | .ins C dx fs=>H dx=some (.own a)/\fs.length<=1000/\dx≠a/\h.get? a=some (PySem.W.instObj C dx)/\
  ∃ mA,h.Ns1 dx mA/\(∀ f,RelO (fs.lookup f) (mA f))/\PySem.Within mA (fs.map (·.1))
 | .own _=>∃ o,h.get? a=some o
 | .xd fs=>∃ mA,h.Ns1 a mA/\∀ f,RelO (fs.lookup f) (mA f)
 | .Il lo hi=>∃ t u v,h.get? a=some { cls:=.type "range",data:=.fields #[.int lo t,.int hi u,.int 1 v] }
 | .bQ o u=>h.get? a=some o/\ObjOk H h a u
 | .pc ps=>h.get? a=some { cls:=.none,data:=.fields ps }
 | .met f x=>h.get? a=some (PySem.W.methodObj (.ref f) (.ref x))
 | .ext φ=>φ h/\(∃ o,h.get? a=some o)/\∀ h1 h2:Heap,φ h1->(∀ o,h1.get? a=some o->h2.get? a=some o)->φ h2
def HOk (H:Hp)(h:Heap):Prop:=∀ a o,H a=some o->ObjOk P w H h a o
end
section
theorem ObjOk.lt (x:ObjOk P w H h a o):a<h.objs.size:=by
 cases o with
 |lst xs=>obtain⟨_,_,_,_,e⟩:=x;exact Mx e
 |tup xs=>obtain⟨_,_,_,p⟩:=x;exact p.lt
 |dK kvs=>obtain⟨_,_,_,_,o,_,_,e,_⟩:=x;exact Mx e
 |dT kvs=>obtain⟨_,_,_,_,o,_,_,e,_⟩:=x;exact Mx e
 |set S n=>obtain⟨o,_,_,_,e,_⟩:=x;exact Mx e
 |ins C dx fs=>obtain⟨_,_,_,e,_⟩:=x;exact Mx e
 |own y=>obtain⟨_,e⟩:=x;exact Mx e
 |xd fs=>obtain⟨_,⟨_,_,_,e,_⟩,_⟩:=x;exact Mx e
 |Il lo hi=>obtain⟨_,_,_,e⟩:=x;exact Mx e
 |bQ ob u=>obtain⟨e,_⟩:=x;exact Mx e
 |pc ps=>exact Mx (show h.get? a=some _ from x)
 |met f y=>exact Mx (show h.get? a=some _ from x)
 |ext φ=>obtain⟨_,⟨_,e⟩,_⟩:=x;exact Mx e
theorem Paired.BV {α β:Type}{F G:α->β->Prop}{l₁:List α}{l₂:List β}(h:Paired F l₁ l₂)(f:∀ a b,F a b->G a b):Paired G l₁ l₂:=by
 induction h with
 |nil=>exact .nil
 |cons r _ ih=>exact .cons (f _ _ r) ih
theorem Paired.imp' {α β:Type}{F G:α->β->Prop}(f:∀ a b,F a b->G a b){l₁:List α}{l₂:List β}(r:Paired F l₁ l₂):Paired G l₁ l₂:=Paired.BV r f
theorem ObjOk.stay (x:ObjOk P w H h a o)(k:∀ b u,(b=a\/H b=some (.own a))->h.get? b=some u->h'.get? b=some u)
 (ho:∀ b,H b=some (.own a)->H' b=some (.own a)) (ht:∀ b xs,H b=some (.tup xs)->H' b=some (.tup xs)):ObjOk P w H' h' a o:=by
 induction o with
 |lst xs=>obtain⟨z,its,n,r,e⟩:=x;exact⟨z,its,n,r,k _ _ (.inl rfl) e⟩
 |tup xs=>obtain⟨z,its,r,ob,e,c⟩:=x;exact⟨z,its,r,ob,k _ _ (.inl rfl) e,c⟩
 |dK kvs=>obtain⟨z,y,vs,r,ob,es,ep,e,c⟩:=x;exact⟨z,y,vs,r,ob,es,ep,k _ _ (.inl rfl) e,c⟩
 |dT kvs=>obtain⟨z,y,xs,r,ob,es,ep,e,c⟩:=x;exact⟨z,y,xs,Paired.BV r fun p q z=>⟨z.1,ht _ _ z.2.1,z.2.2⟩,ob,es,ep,k _ _ (.inl rfl) e,c⟩
 |set S n=>obtain⟨ob,es,ep,t,e,c⟩:=x;exact⟨ob,es,ep,t,k _ _ (.inl rfl) e,c⟩
 |ins C dx fs=>obtain⟨d,z,ne,e,mA,⟨od,es,ep,e2,c⟩,r⟩:=x;exact⟨ho _ d,z,ne,k _ _ (.inl rfl) e,mA,⟨od,es,ep,k _ _ (.inr d) e2,c⟩,r⟩
 |own y=>obtain⟨ob,e⟩:=x;exact⟨ob,k _ _ (.inl rfl) e⟩
 |xd fs=>obtain⟨mA,⟨od,es,ep,e,c⟩,r⟩:=x;exact⟨mA,⟨od,es,ep,k _ _ (.inl rfl) e,c⟩,r⟩
 |Il lo hi=>obtain⟨t,u,v,e⟩:=x;exact⟨t,u,v,k _ _ (.inl rfl) e⟩
 |bQ ob u ih=>obtain⟨e,q⟩:=x;exact⟨k _ _ (.inl rfl) e,ih q⟩
 |pc ps=>have e:h.get? a=some { cls:=.none,data:=.fields ps }:=x;show h'.get? a=some { cls:=.none,data:=.fields ps };exact k a _ (.inl rfl) e
 |met f y=>have e:h.get? a=some (PySem.W.methodObj (.ref f) (.ref y)):=x;show h'.get? a=some (PySem.W.methodObj (.ref f) (.ref y));exact k a _ (.inl rfl) e
 |ext φ=>obtain⟨p,⟨o,e⟩,st⟩:=x;exact⟨st _ _ p fun o q=>k _ _ (.inl rfl) q,⟨o,k _ _ (.inl rfl) e⟩,st⟩
theorem HOk.lt (x:HOk P w H h)(e:H a=some o):a<h.objs.size:=(x a o e).lt
theorem HOk.fresh (x:HOk P w H h)(e:h.objs.size<=a):H a=none:=by
 cases q:H a with
 |none=>rfl
 |some u=>exact absurd (MY (x.lt q) e) (Oj _)
theorem HOk.kept (x:HOk P w H h)(k:∀ b u,h.get? b=some u->h'.get? b=some u):HOk P w H h':=fun a o e=>(x a o e).stay (fun b u _ q=>k b u q) (fun _ q=>q) fun _ _ q=>q
theorem HOk.laid (x:HOk P w H h)(k:∀ b u,h.get? b=some u->h'.get? b=some u)(hp:h.objs.size<=a)(new:ObjOk P w (upd H a o) h' a o):HOk P w (upd H a o) h':=fun b u e=>by
 have hn:=x.fresh hp;by_cases hb:b=a
 .subst hb;rw[ah]at e;cases e;exact new
 .rw[aA hb]at e;exact(x b u e).stay (fun c v _ q=>k c v q) (fun c q=>by rw[aA (aB q hn)];exact q) fun c xs q=>by rw[aA (aB q hn)];exact q
end
def Rd (H:Hp)(a:Addr)(u:HO):Prop:=H a=some u\/∃ o,H a=some (.bQ o u)
theorem Rd.ok (r:Rd H a u)(x:HOk P w H h):ObjOk P w H h a u:=by
 rcases r with r|⟨o,r⟩
 .exact x a u r
 .obtain⟨_,q⟩:=x a _ r;exact q
noncomputable def Fe:Option HO->Prop
 |some (.lst _)=>True
 |some (.dK _)=>True
 |some (.dT _)=>True
 |some (.set _ _)=>True
 |some (.ins _ _ _)=>True
 |some (.ext _)=>True
 |_=>False
section
theorem HOk.write (ok:HOk P w H h)(mu:Fe (H x))(he:e=x\/H e=some (.own x))(k:∀ b u,b≠e->h.get? b=some u->h'.get? b=some u)(heo:∃ u,h'.get? e=some u)
 (new:ObjOk P w (upd H x o') h' x o'):HOk P w (upd H x o') h':=fun b u q=>by
 have nown:∀ c y,H c=some (.own y)->c≠x:=fun c y r z=>by subst z;rw[r]at mu;exact mu
 have ntup:∀ c xs,H c=some (.tup xs)->c≠x:=fun c xs r z=>by subst z;rw[r]at mu;exact mu
 by_cases hb:b=x
 .subst hb;rw[ah]at q;cases q;exact new
 .rw[aA hb]at q;by_cases hbe:b=e
  .have q':H b=some (.own x):=by
    grind
   rw[q]at q';cases q';obtain⟨v,hv⟩:=heo;exact⟨v,by rw[hbe];exact hv⟩
  .refine(ok b u q).stay (fun c v hc r=>k c v ?_ r) (fun c r=>by rw[aA (nown c b r)];exact r) fun c xs r=>by rw[aA (ntup c xs r)];exact r
   grind
end
def Qt (H:Hp)(b:Addr):Prop:=H b=none\/∃ xs,H b=some (.tup xs)
structure Un (fs ex:List Addr) (H H':Hp) (h h':Heap):Prop where
 keep:∀ b o,h.get? b=some o->Qt H b->b∉fs->b∉ex->h'.get? b=some o
 slot:∀ b o,h.get? b=some o->H b=none->b∈fs->b∉ex->∃ sl,h'.get? b=some { o with slots:=sl }
 free:∀ b o,h.get? b=some o->H b=none->b∉ex->H' b=none
 there:∀ b o,h.get? b=some o->b∉ex->∃ o',h'.get? b=some o'
 gv:∀ b xs,H b=some (.tup xs)->H' b=some (.tup xs)
 gA:∀ b o u,H b=some (.bQ o u)->H' b=some (.bQ o u)
 jO:∀ b ps,H b=some (.pc ps)->∃ more,H' b=some (.pc (ps++more))
section
theorem Un.any (u:Un fs ex H H1 h h1)(q:h.get? b=some ob)(n:H b=none)(hx:b∉ex):∃ sl,h1.get? b=some { ob with slots:=sl }:=by
 by_cases hb:b∈fs
 .exact u.slot b ob q n hb hx
 .exact⟨ob.slots,u.keep b ob q (.inl n) hb hx⟩
theorem Un.kept (k:∀ b u,h.get? b=some u->h'.get? b=some u):Un fs ex H H h h':=⟨fun b ob q _ _ _=>k b ob q,fun b ob q _ _ _=>⟨ob.slots,k b ob q⟩,fun _ _ _ n _=>n,fun b ob q _=>⟨ob,k b ob q⟩,fun _ _ q=>q,fun _ _ _ q=>q,fun _ ps q=>⟨#[],by rw[q];simp⟩⟩
theorem Un.refl:Un fs ex H H h h:=Un.kept fun _ _ q=>q
theorem Un.laid (k:∀ b u,h.get? b=some u->h'.get? b=some u)(hp:h.objs.size<=a)(hn:H a=none):Un fs ex H (upd H a o) h h' where
 keep:=fun b u q _ _ _=>k b u q
 slot:=fun b u q _ _ _=>⟨u.slots,k b u q⟩
 free:=fun b u q n _=>by rw[aA (MS (MY (Mx q) hp))];exact n
 there:=fun b u q _=>⟨u,k b u q⟩
 gv:=fun b xs q=>by rw[aA (aB q hn)];exact q
 gA:=fun b u xs q=>by rw[aA (aB q hn)];exact q
 jO:=fun b ps q=>⟨#[],by rw[aA (aB q hn),q];simp⟩
theorem Un.write (mu:Fe (H x))(he:e=x\/H e=some (.own x))(k:∀ b u,b≠e->h.get? b=some u->h'.get? b=some u)(heo:∃ u,h'.get? e=some u):Un fs ex H (upd H x o) h h':=by
 have hx:∀ b,H b=none->b≠x:=fun b n z=>by subst z;rw[n]at mu;exact mu
 have hb:∀ b,H b=none->b≠e:=fun b n z=>by grind
 have hm:∀ b u,H b=some u->¬ Fe (some u)->b≠x:=fun b u q nm z=>by subst z;rw[q]at mu;exact nm mu
 refine⟨fun b u q n _ _=>k b u (n.elim (hb b) fun⟨xs,ee⟩ z=>by rcases he with r|r;(·rw[<- r,<- z,ee]at mu;exact mu);(·rw[<- z,ee]at r;cases r)) q,fun b u q n _ _=>⟨u.slots,k b u (hb b n) q⟩,fun b u q n _=>by rw[aA (hx b n)];exact n,fun b u q _=>?_,
  fun b xs q=>by rw[aA (hm b _ q fun z=>z)];exact q,fun b u xs q=>by rw[aA (hm b _ q fun z=>z)];exact q,fun b ps q=>⟨#[],by rw[aA (hm b _ q fun z=>z),q];simp⟩⟩
 by_cases hbe:b=e
 .subst hbe;exact heo
 .exact⟨u,k b u hbe q⟩
end
noncomputable def px (h:Heap)(H:Hp):List Addr:=(List.range h.objs.size).filter fun a=>(H a).isSome
def pz (h:Heap)(H:Hp):Heap:=PySem.W.hideAll h (px h H)
theorem uS (h:Heap)(H:Hp):(pz h H).objs.size=h.objs.size:=PySem.W.hideAll_size _ _
theorem pA (e:h.get? b=some o)(n:H b=none):(pz h H).get? b=some o:=PySem.W.hideAll_get _ e fun hm=>by have q:(H b).isSome=true:=(List.mem_filter.mp hm).2;rw[n]at q;simp at q
theorem Ag (e:(pz h H).get? b=some o):h.get? b=some o/\H b=none:=by
 have e':h.get? b=some o:=Qr (px h H) e;refine⟨e',?_⟩;cases q:H b with
 |none=>rfl
 |some x=>have hm:b∈px h H:=List.mem_filter.mpr ⟨MZ.mpr (Mx e'),by simp[q]⟩;have z:(pz h H).get? b=none:=PySem.W.hideAll_none (px h H) hm;rw[z]at e;cases e
noncomputable def Ah (g h:Heap)(L:Addr):List (Addr×Obj):=(List.range h.objs.size).filterMap fun a=>if a=L\/(g.get? a).isSome=true then none else (h.get? a).map fun o=>(a,o)
def rest (g h:Heap)(L d:Addr):List (Addr×Obj):=(Ah g h L).filter fun p=>decide (p.1≠d)
noncomputable def KN:QS->V
 | .str x _=>.str x
 | .ref a=>.ref a
 |_=>.bS
def CJ (o:Obj):Option (Addr×List V):=match o.cls with
 | .type n=>if n=="kt" then (match o.data with
  | .seq its _=>(match its.toList with
   | .ref a::r=>some (a,r.map KN)
   |_=>none)
  |_=>none) else none
 |_=>none
def Ip (K:QQ)(H:Hp):Prop:=∀ p∈K,∀ a xs,CJ p.2=some (a,xs)->H a=some (.tup xs)
structure Mod (K:QQ) (mg:Str->Option QS) (base:Heap):Prop where
 EO:K.In base
 glob:base.Ns mainGlobals mg
 blt:∃ mb,base.Ns builtinsNs mb/\∀ x:Str,x≠"__name__"->mb x=bootBuiltins x
 nolimit:base.NoLimit
structure Cx where
 prog:QR
 w:World
 K:QQ
 mg:Str->Option QS
 base:Heap
 A:QT
 N:List Str
 s₀:QP
 H₀:Hp
 env:Env
 outer:List Env
 stack:List Env
 ex:List Addr
 fn:Str->Bool
 calm:Bool
 pn:List (Addr×Obj)
 xe:QS->QP->Prop
abbrev wX (X:Cx){α:Type}(m:Sem α):(α->QP->Prop)->(QS->QP->Prop)->QP->Prop:=wpAny (model X.prog X.w) X.A m
abbrev sE (X:Cx)(e:Expr)(es:List Expr):Prop:=starEach (e::es) X.env=(false,eval e X.env)::starEach es X.env
abbrev bT (X:Cx)(p:Pos)(es:List Expr):Prop:=(backTo p (starEach es X.env)).any (·.1)=false
abbrev dB (x:Str):Prop:=(x==("__debug__" : Str))=false
noncomputable def f7 (l:List Env):List Addr:=l.filterMap (·.frame)
abbrev Cx.fs (X:Cx):List Addr:=f7 X.outer
def Iq (sc:Scope)(x:Str):Prop:=sc.names.lookup x=some .local\/sc.names.lookup x=some .cell\/sc.names.lookup x=some .free
def HI (sc:Scope)(x:Str):Prop:=sc.names.lookup x=some .local\/sc.names.lookup x=some .cell
def Ir (env:Env)(h:Heap)(m:Str->Option QS)(x:Str)(u:QS):Prop:=(env.kindOf x=some .local/\m x=some u)\/((env.kindOf x=some .cell\/env.kindOf x=some .free)/\∃ c,env.cells.lookup x=some c/\h.IsCell c (some u))
structure Cx.Ok (X:Cx):Prop where
 mod:Mod X.K X.mg X.base
 kind:X.env.scope.kind=.function
 glob:X.env.globals=mainGlobals
 blt:X.env.builtins=builtinsNs
 above:X.s₀.heap.objs.size<=X.env.locals
 inj:∀ x y c,X.env.cells.lookup x=some c->X.env.cells.lookup y=some c->x=y
 has:∀ x,(X.env.kindOf x=some .cell\/X.env.kindOf x=some .free)->∃ c,X.env.cells.lookup x=some c
 E_:∀ x c,X.fn x=true->X.env.cells.lookup x=some c->X.s₀.heap.objs.size<=c
 hd:X.calm=true->X.A.handled=none
 frames:X.A.frames=some X.stack
 wA:X.stack=X.outer\/(X.stack=X.env::X.outer/\X.env.frame=some X.env.locals)
 Im:∀ b∈X.ex,b≠X.env.locals/\∀ x c,X.env.cells.lookup x=some c->c≠b
 bs:∀ b o,X.base.get? b=some o->X.s₀.heap.get? b=some o/\X.H₀ b=none
 zE:X.base.objs.size<=X.s₀.heap.objs.size
 tw:∀ b o,X.base.get? b=some o->b∉X.ex
 wq:∀ b∈X.ex,b∉X.fs
 iZ:X.s₀.heap.FunFrames X.base X.outer
 BQ:∀ b∈X.fs,X.H₀ b=none
 kt:Ip X.K X.H₀
structure Inv (X:Cx) (ac:List (Addr×Obj)) (σ:List (Option V)) (H:Hp) (s:QP):Prop where
 ok:X.Ok
 os:s.os=X.s₀.os
 bare:AllBare s.gens
 base:Un X.fs X.ex X.H₀ H X.s₀.heap s.heap
 loc:∃ m,s.heap.Ns X.env.locals m/\∀(i:Nat)(x:Str)(v:V),X.N[i]?=some x->σ[i]?=some (some v)->Iq X.env.scope x->∃ u,RelV v u/\Ir X.env s.heap m x u
 cell:∀ x c,X.env.cells.lookup x=some c->∃ v,s.heap.IsCell c v
 free:H X.env.locals=none
 d5:∀ x c,X.env.cells.lookup x=some c->H c=none
 pin:∀ p∈X.pn++ac,s.heap.get? p.1=some p.2/\H p.1=none/\p.1≠X.env.locals/\p.1∉X.fs/\∀ v,p.2.data≠.cell v
 aJ:HOk X.prog X.w H s.heap
 len:σ.length=X.N.length
section
variable {X:Cx}{ac:List (Addr×Obj)}{σ:List (Option V)}{H H':Hp}{s:QP}
theorem Cx.Ok.J5 (ok:X.Ok)(e:X.base.get? b=some o):b∉X.fs:=fun hb=>by have:=(ok.iZ.mem hb).1;rw[e]at this;cases this
theorem Inv.bs (I:Inv X ac σ H s):∀ b o,X.base.get? b=some o->s.heap.get? b=some o/\H b=none:=fun b o e=>⟨I.base.keep b o (I.ok.bs b o e).1 (.inl (I.ok.bs b o e).2) (I.ok.J5 e) (I.ok.tw b o e),I.base.free b o (I.ok.bs b o e).1 (I.ok.bs b o e).2 (I.ok.tw b o e)⟩
theorem Inv.kt (I:Inv X ac σ H s):Ip X.K H:=fun p hp a xs e=>I.base.gv a xs (I.ok.kt p hp a xs e)
theorem Inv.bk (I:Inv X ac σ H s):∀ b o,X.base.get? b=some o->s.heap.get? b=some o:=fun b o e=>(I.bs b o e).1
theorem Inv.mod (I:Inv X ac σ H s):Mod X.K X.mg X.base:=I.ok.mod
theorem Inv.f6 (I:Inv X ac σ H s):X.K.In s.heap:=I.ok.mod.EO.keeps I.bk
theorem Inv.lt (I:Inv X ac σ H s):X.env.locals<s.heap.objs.size:=let ⟨_,hn,_⟩:=I.loc;hn.lt
theorem Inv.sz (I:Inv X ac σ H s):X.s₀.heap.objs.size<=s.heap.objs.size:=Mq I.ok.above (Nd I.lt)
theorem Inv.J1 (I:Inv X ac σ H s)(h:s.heap.objs.size<=a):a∉X.fs:=fun hb=>by obtain⟨_,o,ho,_⟩:=I.ok.iZ.mem hb;exact absurd (MY (Mx ho) (Mq I.sz h)) (Oj _)
theorem Inv.EZ (I:Inv X ac σ H s):∀ x c,X.env.cells.lookup x=some c->c≠X.env.locals:=fun x c e z=>by obtain⟨v,o,ho,hd⟩:=I.cell x c e;obtain⟨m,⟨o',es,ep,ho',hd',_⟩,_⟩:=I.loc;rw[z,ho']at ho;cases ho;rw[hd']at hd;cases hd
theorem Inv.iZ (I:Inv X ac σ H s):s.heap.FunFrames X.base X.outer:=by
 have all:∀(l:List Env),(∀ b∈f7 l,b∈X.fs)->X.s₀.heap.FunFrames X.base l->s.heap.FunFrames X.base l:=by
  intro l;induction l with
  |nil=>intro _ _;trivial
  |cons env r ih=>intro hs hl;obtain⟨hk,⟨L,o,hf,hn,ho,hd⟩,hr⟩:=hl;have hL:L∈X.fs:=hs L (by unfold f7;rw[OI,hf];exact Mr);obtain⟨sl,e⟩:=I.base.slot L o ho (I.ok.BQ L hL) hL fun z=>I.ok.wq L z hL;exact⟨hk,⟨L,_,hf,hn,e,hd⟩,ih (fun b hb=>hs b (by unfold f7;rw[OI,hf];exact Ms _ hb)) hr⟩
 exact all X.outer (fun _ hb=>hb) I.ok.iZ
theorem Inv.stack (I:Inv X ac σ H s):s.heap.FunFrames X.base X.stack:=by
 rcases I.ok.wA with e|⟨e,hf⟩
 .rw[e];exact I.iZ
 .rw[e];obtain⟨m,hn,_⟩:=I.loc;refine .cons (by rw[I.ok.kind];decide) hf hn ?_ I.iZ;exact Heap.get?_none_of_le (Mq I.ok.zE I.ok.above)
theorem Inv.lL (I:Inv X ac σ H s):∀ b∈f7 X.stack,b∈X.env.locals::X.fs:=fun b hb=>by
 rcases I.ok.wA with e|⟨e,hf⟩
 .rw[e]at hb;exact Ms _ hb
 .rw[e]at hb;unfold f7 at hb;rw[OI,hf]at hb;exact hb
theorem Inv.oZ (I:Inv X ac σ H s):∀ b∈f7 X.stack,H b=none:=fun b hb=>by
 rcases Mv.mp (I.lL b hb) with e|hb
 .rw[e];exact I.free
 .obtain⟨_,o,ho,_⟩:=I.ok.iZ.mem hb;exact I.base.free b o ho (I.ok.BQ b hb) fun z=>I.ok.wq b z hb
theorem Inv.step {d':Drawn}{ch:List Addr}(I:Inv X ac σ H s)
 (hch:∀ b∈ch,(b∈X.ex\/X.s₀.heap.objs.size<=b)/\b≠X.env.locals/\(∀ x c,X.env.cells.lookup x=some c->c≠b)/\∀ p∈X.pn++ac,p.1≠b)
 (keep:∀ b o,b≠X.env.locals->b∉X.fs->b∉ch->s.heap.get? b=some o->Qt H b->h'.get? b=some o)
 (slot:∀ b o,b≠X.env.locals->b∈X.fs->b∉ch->s.heap.get? b=some o->H b=none->∃ sl,h'.get? b=some { o with slots:=sl }) (free:∀ b o,b∉ch->s.heap.get? b=some o->H b=none->H' b=none)
 (there:∀ b o,b∉ch->s.heap.get? b=some o->∃ o',h'.get? b=some o')
 (gv:∀ b xs,H b=some (.tup xs)->H' b=some (.tup xs)) (gA:∀ b o u,H b=some (.bQ o u)->H' b=some (.bQ o u)) (jO:∀ b ps,H b=some (.pc ps)->∃ more,H' b=some (.pc (ps++more)))
 (ns:∀ m,s.heap.Ns X.env.locals m->h'.Ns X.env.locals m) (aJ:HOk X.prog X.w H' h') (hg:AllBare g') :
 Inv X ac σ H' { s with heap:=h',gens:=g',drawn:=d',toks:=t' }:=by
 have neL:∀ b o,X.s₀.heap.get? b=some o->b≠X.env.locals:=fun b o e=>MS (MY (Mx e) I.ok.above);have neC:∀ b o,X.s₀.heap.get? b=some o->b∉X.ex->b∉ch:=fun b o e hx hb=>by
  rcases (hch b hb).1 with z|z
  .exact hx z
  .exact absurd (MY (Mx e) z) (Oj _)
 have cellK:∀ x c,X.env.cells.lookup x=some c->∀ v,s.heap.IsCell c v->h'.IsCell c v:=fun x c e v ⟨o,ho,hd⟩=>by
  have nch:c∉ch:=fun z=>(hch c z).2.2.1 x c e rfl;by_cases hc:c∈X.fs
  .obtain⟨sl,q⟩:=slot c o (I.EZ x c e) hc nch ho (I.d5 x c e);exact⟨_,q,hd⟩
  .exact⟨o,keep c o (I.EZ x c e) hc nch ho (.inl (I.d5 x c e)),hd⟩
 refine⟨I.ok,I.os,hg,⟨fun b o e n hb hx=>?_,fun b o e n hb hx=>?_,fun b o e n hx=>?_,fun b o e hx=>?_,fun b xs e=>gv b xs (I.base.gv b xs e),fun b o xs e=>gA b o xs (I.base.gA b o xs e),fun b ps e=>?_⟩,?_,fun x c e=>?_,?_,fun x c e=>?_,fun p hp=>?_,aJ,I.len⟩
 .exact keep b o (neL b o e) hb (neC b o e hx) (I.base.keep b o e n hb hx) (n.imp (fun n=>I.base.free b o e n hx) fun⟨xs,q⟩=>⟨xs,I.base.gv b xs q⟩)
 .obtain⟨sl,e1⟩:=I.base.slot b o e n hb hx;obtain⟨sl',e2⟩:=slot b _ (neL b o e) hb (neC b o e hx) e1 (I.base.free b o e n hx);exact⟨sl',e2⟩
 .obtain⟨o',e1⟩:=I.base.there b o e hx;exact free b o' (neC b o e hx) e1 (I.base.free b o e n hx)
 .obtain⟨o',e1⟩:=I.base.there b o e hx;exact there b o' (neC b o e hx) e1
 .obtain⟨m1,e1⟩:=I.base.jO b ps e
  grind
 .obtain⟨m,hn,hl⟩:=I.loc;refine⟨m,ns m hn,fun i x v e1 e2 e3=>?_⟩;obtain⟨u,r,l⟩:=hl i x v e1 e2 e3;refine⟨u,r,?_⟩;rcases l with l|⟨k,c,e,z⟩
  .exact .inl l
  .exact .inr ⟨k,c,e,cellK x c e _ z⟩
 .obtain⟨v,z⟩:=I.cell x c e;exact⟨v,cellK x c e v z⟩
 .obtain⟨m,⟨o,_,_,ho,_⟩,_⟩:=I.loc;exact free _ o (fun z=>(hch _ z).2.1 rfl) ho I.free
 .obtain⟨v,o,ho,hd⟩:=I.cell x c e;exact free c o (fun z=>(hch c z).2.2.1 x c e rfl) ho (I.d5 x c e)
 .obtain⟨e,n,ne,nf,d⟩:=I.pin p hp;have nch:p.1∉ch:=fun z=>(hch p.1 z).2.2.2 p hp rfl;exact⟨keep p.1 p.2 ne nf nch e (.inl n),free p.1 p.2 nch e n,ne,nf,d⟩
theorem Inv.un {t':Nat}(I:Inv X ac σ H s)(u:Un X.fs [] H H' s.heap h')(aJ:HOk X.prog X.w H' h'):Inv X ac σ H' { s with heap:=h',toks:=t' }:=by obtain⟨m,⟨o,es,ep,ho,r⟩,_⟩:=id I.loc;obtain⟨sl,hL⟩:=u.any ho I.free (by simp);exact I.step (g':=s.gens) (d':=s.drawn) (ch:=[]) (fun _ z=>nomatch z) (fun b o _ hb _ e n=>u.keep b o e n hb (by simp)) (fun b o _ hb _ e n=>u.slot b o e n hb (by simp)) (fun b o _ e n=>u.free b o e n (by simp)) (fun b o _ e=>u.there b o e (by simp)) u.gv u.gA u.jO (fun m' hm=>by obtain⟨o',es',ep',ho',r'⟩:=hm;rw[ho]at ho';cases ho';exact⟨_,es',ep',hL,r'⟩) aJ I.bare
theorem Inv.call {d':Drawn}{ch:List Addr}(I:Inv X ac σ H s)(u:Un (f7 X.stack) ch H H' s.heap h')(aJ:HOk X.prog X.w H' h')(hg:AllBare g')
 (hch:∀ b∈ch,(b∈X.ex\/X.s₀.heap.objs.size<=b)/\b≠X.env.locals/\(∀ x c,X.env.cells.lookup x=some c->c≠b)/\∀ p∈X.pn++ac,p.1≠b) :
 Inv X ac σ H' { s with heap:=h',gens:=g',drawn:=d',toks:=t' }:=by
 obtain⟨m,⟨o,es,ep,ho,r⟩,_⟩:=id I.loc;obtain⟨sl,hL⟩:=u.any ho I.free fun z=>(hch _ z).2.1 rfl;exact I.step (ch:=ch) hch (fun b o hL hb hc e n=>u.keep b o e n (fun z=>(Mv.mp (I.lL b z)).elim hL hb) hc) (fun b o _ _ hc e n=>u.any e n hc) (fun b o hc e n=>u.free b o e n hc) (fun b o hc e=>u.there b o e hc) u.gv u.gA u.jO (fun m' hm=>by obtain⟨o',es',ep',ho',r'⟩:=hm;rw[ho]at ho';cases ho';exact⟨_,es',ep',hL,r'⟩) aJ hg
theorem Inv.turned {it:Addr}(I:Inv X ac σ H s)(k:∀ b o,b≠it->s.heap.get? b=some o->h'.get? b=some o)(hn:H it=none)(hL:it≠X.env.locals)
 (h1:it∈X.ex\/X.s₀.heap.objs.size<=it) (h2:∀ x c,X.env.cells.lookup x=some c->c≠it) (h3:∀ p∈X.pn++ac,p.1≠it):Inv X ac σ H { s with heap:=h',toks:=t' }:=by
 have nit:∀ b u,H b=some u->b≠it:=fun b u e z=>by rw[z,hn]at e;cases e
 refine I.step (g':=s.gens) (d':=s.drawn) (ch:=[it]) (fun b hb=>?_) (fun b o _ _ hc e _=>k b o (fun z=>hc (by simp[z])) e) (fun b o _ _ hc e _=>⟨o.slots,k b o (fun z=>hc (by simp[z])) e⟩) (fun _ _ _ _ n=>n)
  (fun b o hc e=>⟨o,k b o (fun z=>hc (by simp[z])) e⟩) (fun _ _ e=>e) (fun _ _ _ e=>e) (fun b ps e=>⟨#[],by rw[e];simp⟩) (fun m hm=>?_) (fun b u e=>?_) I.bare
 .have e:b=it:=by simpa using hb
  subst e;exact⟨h1,hL,h2,h3⟩
 .obtain⟨o,es,ep,ho,r⟩:=hm;exact⟨o,es,ep,k _ o (Ol hL) ho,r⟩
 .refine(I.aJ b u e).stay (fun c v hc q=>k c v ?_ q) (fun _ q=>q) fun _ _ q=>q;rcases hc with z|z
  .rw[z];exact nit b u e
  .exact nit c _ z
theorem Inv.tok (I:Inv X ac σ H s)(t:Nat):Inv X ac σ H { s with toks:=t }:=I.un (h':=s.heap) (t':=t) Un.refl I.aJ
theorem Inv.kept (I:Inv X ac σ H s)(k:∀ b u,s.heap.get? b=some u->h'.get? b=some u):Inv X ac σ H { s with heap:=h',toks:=t' }:=I.un (Un.kept k) (I.aJ.kept k)
theorem Inv.laid (I:Inv X ac σ H s)(k:∀ b u,s.heap.get? b=some u->h'.get? b=some u)(hp:s.heap.objs.size<=a)(new:ObjOk X.prog X.w (upd H a o) h' a o) :
 Inv X ac σ (upd H a o) { s with heap:=h',toks:=t' }:=I.un (Un.laid k hp (I.aJ.fresh hp)) (I.aJ.laid k hp new)
theorem Inv.write (I:Inv X ac σ H s)(mu:Fe (H x))(he:e=x\/H e=some (.own x))(k:∀ b u,b≠e->s.heap.get? b=some u->h'.get? b=some u)(heo:∃ u,h'.get? e=some u)
 (new:ObjOk X.prog X.w (upd H x o) h' x o):Inv X ac σ (upd H x o) { s with heap:=h',toks:=t' }:=I.un (Un.write mu he k heo) (I.aJ.write mu he k heo new)
theorem Inv.uO (I:Inv X ac σ H s)(h:∀ p∈pins',s.heap.get? p.1=some p.2/\H p.1=none/\p.1≠X.env.locals/\p.1∉X.fs/\∀ v,p.2.data≠.cell v):Inv X pins' σ H s:=⟨I.ok,I.os,I.bare,I.base,I.loc,I.cell,I.free,I.d5,fun p hp=>(MO.mp hp).elim (fun z=>I.pin p (Na _ z)) (h p),I.aJ,I.len⟩
theorem pB {N:List Str}(hN:N.Nodup){i j:Nat}{x:Str}(a:N[i]?=some x)(b:N[j]?=some x):i=j:=by obtain⟨h1,e1⟩:=Mg.mp a;obtain⟨h2,e2⟩:=Mg.mp b;exact(List.getElem_inj hN).mp (e1.trans e2.symm)
theorem mE {E:QS->QP->Prop}{x:Str}{v:V}{u:QS}{Q:Unit->QP->Prop}(I:Inv X ac σ H s)(hN:X.N.Nodup)(hi:X.N[i]?=some x)(hx:HI X.env.scope x)(r:RelV v u)
 (h:∀ s',Inv X ac (σ.set i (some v)) H s'->(∃ a,Heap.SameBut a s.heap s'.heap/\(a=X.env.locals\/X.env.cells.lookup x=some a))->Q () s') (hf:autoParam (X.fn x=true\/X.env.scope.names.lookup x=some .local) QV._auto_1):wpAny M A (storeName X.env x u) Q E s:=by
 obtain⟨m,hn,hl⟩:=id I.loc;have hcls:(X.env.scope.kind==.class || (X.env.scope.kind==.module&&X.env.locals != X.env.globals))=false:=by rw[I.ok.kind];rfl
 have hiσ:i<σ.length:=by rw[I.len];exact(Mg.mp hi).1
 have EZ:=I.EZ;have tracked:∀{a:Addr}{h':Heap},(∃ o,s.heap.get? a=some o/\H a=none)->Heap.SameBut a s.heap h'->HOk X.prog X.w H h':=fun{a h'} ha hs b ob e=>by
  obtain⟨_,_,hfree⟩:=ha;refine(I.aJ b ob e).stay (fun c w' hc q=>(hs.2 c ?_).trans q) (fun _ q=>q) fun _ _ q=>q
  grind
 rcases hx with hk|hk
 .refine wpAny_storeName_local hk hn (fun h' hn' hs=>?_) hcls;obtain⟨oL,_,_,hoL,_⟩:=id hn;refine h _ ⟨I.ok,I.os,I.bare,⟨fun b o e n hb hx=>?_,fun b o e n hb hx=>?_,I.base.free,fun b o e hx=>?_,I.base.gv,I.base.gA,I.base.jO⟩,⟨_,hn',fun j y v' e1 e2 e3=>?_⟩,fun y c e=>?_,I.free,I.d5,fun p hp=>?_,tracked ⟨oL,hoL,I.free⟩ hs,by simpa using I.len⟩ ⟨_,hs,.inl rfl⟩
  .exact(hs.2 b (MS (MY (Mx e) I.ok.above))).trans (I.base.keep b o e n hb hx)
  .obtain⟨sl,e1⟩:=I.base.slot b o e n hb hx;exact⟨sl,(hs.2 b (MS (MY (Mx e) I.ok.above))).trans e1⟩
  .obtain⟨o',e1⟩:=I.base.there b o e hx;exact⟨o',(hs.2 b (MS (MY (Mx e) I.ok.above))).trans e1⟩
  .by_cases hj:j=i
   .subst hj;rw[hi]at e1;cases e1;rw[List.getElem?_set_self hiσ]at e2;cases e2;exact⟨u,r,.inl ⟨hk,by simp⟩⟩
   .rw[List.getElem?_set_ne (Ol hj)]at e2;obtain⟨u',r',q⟩:=hl j y v' e1 e2 e3;refine⟨u',r',?_⟩;rcases q with⟨k,e⟩|⟨k,c,e,z⟩
    .refine .inl ⟨k,?_⟩;have:y≠x:=fun e=>hj (pB hN e1 (e▸hi));simp[this,e]
    .exact .inr ⟨k,c,e,z.sameBut hs (EZ y c e)⟩
  .obtain⟨w',z⟩:=I.cell y c e;exact⟨w',z.sameBut hs (EZ y c e)⟩
  .obtain⟨e,n,ne,nf,d⟩:=I.pin p hp;exact⟨(hs.2 p.1 ne).trans e,n,ne,nf,d⟩
 .have hfn:X.fn x=true:=by
   rcases hf with z|z
   .exact z
   .rw[z]at hk;cases hk
  obtain⟨c,hc⟩:=I.ok.has x (.inl hk);obtain⟨w',z⟩:=I.cell x c hc;refine wpAny_storeName_cell I.ok.kind hk hc z (fun h' hc' hs=>?_);obtain⟨oc,hoc,hocd⟩:=id z;refine h { s with heap:=h' } ⟨I.ok,I.os,I.bare,⟨fun b o e n hb hx=>?_,fun b o e n hb hx=>?_,I.base.free,fun b o e hx=>?_,I.base.gv,I.base.gA,I.base.jO⟩,⟨m,hn.sameBut hs (Ol (EZ x c hc)),fun j y v' e1 e2 e3=>?_⟩,fun y c' e=>?_,I.free,I.d5,fun p hp=>?_,tracked ⟨oc,hoc,I.d5 x c hc⟩ hs,by simpa using I.len⟩ ⟨c,hs,.inr hc⟩
  .exact(hs.2 b (MS (MY (Mx e) (I.ok.E_ x c hfn hc)))).trans (I.base.keep b o e n hb hx)
  .obtain⟨sl,e1⟩:=I.base.slot b o e n hb hx;exact⟨sl,(hs.2 b (MS (MY (Mx e) (I.ok.E_ x c hfn hc)))).trans e1⟩
  .obtain⟨o',e1⟩:=I.base.there b o e hx;exact⟨o',(hs.2 b (MS (MY (Mx e) (I.ok.E_ x c hfn hc)))).trans e1⟩
  .by_cases hj:j=i
   .subst hj;rw[hi]at e1;cases e1;rw[List.getElem?_set_self hiσ]at e2;cases e2;exact⟨u,r,.inr ⟨.inl hk,c,hc,hc'⟩⟩
   .rw[List.getElem?_set_ne (Ol hj)]at e2;obtain⟨u',r',q⟩:=hl j y v' e1 e2 e3;refine⟨u',r',?_⟩;rcases q with q|⟨k,c',e,z'⟩
    .exact .inl q
    .refine .inr ⟨k,c',e,z'.sameBut hs ?_⟩;rintro rfl;exact hj (pB hN e1 (I.ok.inj _ _ _ e hc▸hi))
  .by_cases hcc:c'=c
   .subst hcc;exact⟨_,hc'⟩
   .obtain⟨w2,z2⟩:=I.cell y c' e;exact⟨w2,z2.sameBut hs hcc⟩
  .obtain⟨e,n,ne,nf,d⟩:=I.pin p hp;refine⟨(hs.2 p.1 ?_).trans e,n,ne,nf,d⟩
   grind
theorem pC (I:Inv X ac σ H s)(hN:X.N.Nodup)(hi:X.N[i]?=some x)(hx:HI X.env.scope x)(r:RelV v u)
 (h:∀ s',Inv X ac (σ.set i (some v)) H s'->Q () s') (hf:autoParam (X.fn x=true\/X.env.scope.names.lookup x=some .local) QV._auto_1):wpAny M A (storeName X.env x u) Q E s:=
 mE I hN hi hx r (fun s' I' _=>h s' I') hf
theorem Inv.CD (I:Inv X ac σ H s)(ho:s'.os=s.os)(u:Un (f7 X.stack) ch H H' s.heap s'.heap)(aJ:HOk X.prog X.w H' s'.heap)(hg:AllBare s'.gens)
 (hch:∀ b∈ch,(b∈X.ex\/X.s₀.heap.objs.size<=b)/\b≠X.env.locals/\(∀ x c,X.env.cells.lookup x=some c->c≠b)/\∀ p∈X.pn++ac,p.1≠b):Inv X ac σ H' s':=by
 obtain⟨h',g',d',t',o'⟩:=s';have e:o'=s.os:=ho;subst e;exact I.call (g':=g') (t':=t') (d':=d') u aJ hg hch
end
abbrev XK:=QS->Option Addr->Hp->Prop
noncomputable abbrev St:=List (Option V)
abbrev VK:=V->Hp->Prop
abbrev TE:=St->Hp->VK->Prop
abbrev TT:=St->Hp->(Bool->Hp->Prop)->Prop
abbrev TA:=St->Hp->(List V->Hp->Prop)->Prop
structure Ends where
 nx:St->Hp->Prop
 rt:VK
 bk:St->Hp->Prop:=fun _ _=>False
 ct:St->Hp->Prop:=fun _ _=>False
abbrev TS:=Ends->St->Hp->Prop
def EP (X:Cx)(ac:List (Addr×Obj))(σ:St)(Q:VK)(u:QS)(s':QP):Prop:=∃ v H',Inv X ac σ H' s'/\RelV v u/\Q v H'
def TP (X:Cx)(ac:List (Addr×Obj))(σ:St)(Q:Bool->Hp->Prop)(b:Bool)(s':QP):Prop:=∃ H',Inv X ac σ H' s'/\Q b H'
def AP (X:Cx)(ac:List (Addr×Obj))(σ:St)(Q:List V->Hp->Prop)(us:List QS)(s':QP):Prop:=∃ vs H',Inv X ac σ H' s'/\Vals vs us/\Q vs H'
def SP (X:Cx)(ac:List (Addr×Obj))(D:Ends)(f:Flow)(s':QP):Prop:=
 match f with
 | .next=>∃ σ' H',Inv X ac σ' H' s'/\D.nx σ' H'
 | .brk=>∃ σ' H',Inv X ac σ' H' s'/\D.bk σ' H'
 | .cont=>∃ σ' H',Inv X ac σ' H' s'/\D.ct σ' H'
 | .ret u=>∃ v σ' H',Inv X ac σ' H' s'/\RelV v u/\D.rt v H'
def PE (X:Cx)(e:Expr)(t:TE):Prop:=∀(ac:List (Addr×Obj))(s:QP)(σ:St)(H:Hp)(Q:VK),Inv X ac σ H s->t σ H Q->wpAny (model X.prog X.w) X.A (eval e X.env) (EP X ac σ Q) X.xe s
def PT (X:Cx)(e:Expr)(t:TT):Prop:=∀(ac:List (Addr×Obj))(s:QP)(σ:St)(H:Hp)(Q:Bool->Hp->Prop),Inv X ac σ H s->t σ H Q->wpAny (model X.prog X.w) X.A (isTrue e X.env (eval e X.env)) (TP X ac σ Q) X.xe s
def PW (X:Cx)(e:Expr)(t:TT):Prop:=∀(whole:Sem QS)(ac:List (Addr×Obj))(s:QP)(σ:St)(H:Hp)(Q:Bool->Hp->Prop),Inv X ac σ H s->t σ H Q->wpAny (model X.prog X.w) X.A (isTrue e X.env whole) (TP X ac σ Q) X.xe s
theorem PW.pt (h:PW X e t):PT X e t:=h _
def PA (X:Cx)(es:List Expr)(t:TA):Prop:=∀(pos:Pos)(ac:List (Addr×Obj))(s:QP)(σ:St)(H:Hp)(Q:List V->Hp->Prop),Inv X ac σ H s->t σ H Q->wpAny (model X.prog X.w) X.A (spliced (backTo pos (starEach es X.env))) (AP X ac σ Q) X.xe s
def PS (X:Cx)(st:Stmt)(t:TS):Prop:=∀(ac:List (Addr×Obj))(s:QP)(σ:St)(H:Hp)(D:Ends),Inv X ac σ H s->t D σ H->wpAny (model X.prog X.w) X.A (exec st X.env) (SP X ac D) X.xe s
def PSs (X:Cx)(st:List Stmt)(t:TS):Prop:=∀(ac:List (Addr×Obj))(s:QP)(σ:St)(H:Hp)(D:Ends),Inv X ac σ H s->t D σ H->wpAny (model X.prog X.w) X.A (execs st X.env) (SP X ac D) X.xe s
theorem bO {α:Type}{t:Sem α}{Q Q':α->QP->Prop}{M:Model}{A:QT}{E:QS->QP->Prop}{s:QP}(h:wpAny M A t Q E s)(hQ:∀ a s,Q a s->Q' a s):wpAny M A t Q' E s:=NC h hQ fun _ _ x=>x
section
variable {X:Cx}
noncomputable def aj (i:Nat):TE:=fun σ H Q=>∃ v,σ[i]?=some (some v)/\Q v H
noncomputable def tC (v:V):TE:=fun _ H Q=>Q v H
theorem CL (hN:X.N[i]?=some x) (hv:Iq X.env.scope x) (hd:autoParam (dB x) QU._auto_1) (hcd:autoParam ((x==("__classdict__" : Str))=false) QU._auto_1):PE X (.Name x pos) (aj i):=by
 intro ac s σ H Q I h;obtain⟨v,e,h⟩:=h;obtain⟨m,hn,hl⟩:=I.loc;obtain⟨u,r,l⟩:=hl i x v hN e hv;have fin:EP X ac σ Q u s:=⟨v,H,I,r,h⟩;rcases l with⟨hk,hm⟩|⟨hk,c,hc,hcell⟩
 .exact wpAny_Name (wpAny_loadName_local I.ok.kind hk hn hm fin) hd
 .rcases hk with hk|hk
  .exact wpAny_Name (wpAny_loadName_cell I.ok.kind hk hc hcell fin) hd
  .exact wpAny_Name (wpAny_loadName_free I.ok.kind hk hc hcell fin hcd) hd
theorem ak {i j pos}:PE X (.Constant (.int i) j pos) (tC (.int i)):=fun _ _ _ H _ I h=>wpAny_Constant_int ⟨.int i,H,I.tok _,⟨_,rfl⟩,h⟩
theorem bW {b j pos}:PE X (.Constant (.bool b) j pos) (tC (.bl b)):=fun _ _ _ H _ I h=>Constant_bool ⟨.bl b,H,I,rfl,h⟩
theorem CM {x j pos}:PE X (.Constant (.str x) j pos) (tC (.str x)):=fun _ _ _ H _ I h=>Calls.Constant_str ⟨.str x,H,I.tok _,⟨_,rfl⟩,h⟩
def Gl (X:Cx)(x:Str):Prop:=X.env.kindOf x=some .globalImplicit
theorem h9 (I:Inv X ac σ H s)(hg:Gl X x)(hm:X.mg x=some u)(h:Q u s)
 (hd:autoParam (dB x) QU._auto_1):wX X (eval (.Name x pos) X.env) Q E s:=
 Calls.Name_function_global I.ok.kind hg (Calls.loadGlobal_global (by rw[I.ok.glob];exact I.mod.glob.keeps I.bk) hm h) hd
theorem nK (I:Inv X ac σ H s)(hg:Gl X x)(hm:X.mg x=none)(hv:bootBuiltins x=some u)(h:Q u s)
 (hn:autoParam (x≠"__name__") QU._auto_1) (hd:autoParam (dB x) QU._auto_1):wX X (eval (.Name x pos) X.env) Q E s:=by
 obtain⟨mb,h1,h2⟩:=I.mod.blt;exact Calls.Name_function_global I.ok.kind hg (Calls.loadGlobal_builtin (by rw[I.ok.glob];exact I.mod.glob.keeps I.bk) hm (by rw[I.ok.blt];exact h1.keeps I.bk) ((h2 x hn).trans hv) h) hd
theorem gC (hg:Gl X x) (hm:X.mg x=none) (hv:bootBuiltins x=some u) (r:RelV v u) (hn:autoParam (x≠"__name__") QU._auto_1) (hd:autoParam (dB x) QU._auto_1):PE X (.Name x pos) (tC v):=fun _ _ _ H _ I h=>nK I hg hm hv ⟨v,H,I,r,h⟩ hn hd
variable {a b:Expr}{ta tb:TE}{pos:Pos}
noncomputable def tB (t:TE):TT:=fun σ H Q=>t σ H fun x H1=>∃ c,x=.bl c/\Q c H1
theorem cF (h:PE X e t)(he:autoParam (∀ whole,isTrue e X.env whole=(do let v <- whole;standAt e.pos;holding [v] (truthy v))) QX._auto_1):PT X e (tB t):=by intro ac s σ H Q I hw;refine isTrue_plain (bO (h ac s σ H _ I hw) fun v s1 ⟨x,H1,I1,r1,q1⟩=>?_) (he _);obtain⟨d,rfl,q⟩:=q1;cases r1;exact N0 ⟨H1,I1,q⟩
variable {tA tB':TT}{rest:List Expr}
noncomputable def Ai (t u:TT):TT:=fun σ H Q=>t σ H fun c H1=>if c=true then u σ H1 Q else Q false H1
noncomputable def tF (t u:TT):TT:=fun σ H Q=>t σ H fun c H1=>if c=true then Q true H1 else u σ H1 Q
noncomputable def gX (t:TT):TT:=fun σ H Q=>t σ H fun c H1=>Q (!c) H1
theorem nL (ha:PT X a tA):PW X (.BoolOp .And [a] pos) tA:=by
 intro wh ac s σ H Q I h;refine isTrue_and (bO (ha ac s σ H Q I h) fun c s1 e=>?_);cases c with
 |true=>exact isTrue_and_nil e
 |false=>exact e
theorem gY (ha:PT X a tA):PW X (.BoolOp .Or [a] pos) tA:=by
 intro wh ac s σ H Q I h;refine isTrue_or (bO (ha ac s σ H Q I h) fun c s1 e=>?_);cases c with
 |false=>exact isTrue_or_nil e
 |true=>exact e
theorem rh (ha:PT X a tA)(hb:PW X (.BoolOp .And (b::rest) pos) tB'):PW X (.BoolOp .And (a::b::rest) pos) (Ai tA tB'):=by
 intro wh ac s σ H Q I h;refine isTrue_and (bO (ha ac s σ H _ I h) fun c s1 ⟨H1,I1,q1⟩=>?_);cases c with
 |true=>exact hb wh ac s1 σ H1 Q I1 q1
 |false=>exact⟨H1,I1,q1⟩
theorem fP (ha:PT X a tA)(hb:PW X (.BoolOp .Or (b::rest) pos) tB'):PW X (.BoolOp .Or (a::b::rest) pos) (tF tA tB'):=by
 intro wh ac s σ H Q I h;refine isTrue_or (bO (ha ac s σ H _ I h) fun c s1 ⟨H1,I1,q1⟩=>?_);cases c with
 |true=>exact⟨H1,I1,q1⟩
 |false=>exact hb wh ac s1 σ H1 Q I1 q1
theorem bU (ha:PT X a tA):PT X (.UnaryOp .Not a pos) (gX tA):=by intro ac s σ H Q I h;exact isTrue_not (ha ac s σ H (fun c H1=>Q (!c) H1) I h)
noncomputable def wC (ta tb:TE):TE:=fun σ H Q=>ta σ H fun x H1=>∃ c,x=.bl c/\if c=true then tb σ H1 Q else Q (.bl false) H1
noncomputable def FC (ta tb:TE):TE:=fun σ H Q=>ta σ H fun x H1=>∃ c,x=.bl c/\if c=true then Q (.bl true) H1 else tb σ H1 Q
noncomputable def BW (ta:TE):TE:=fun σ H Q=>ta σ H fun x H1=>∃ c,x=.bl c/\Q (.bl (!c)) H1
theorem ri {op}(h:PE X a t):PE X (.BoolOp op [a] pos) t:=fun ac s σ H Q I hw=>BoolOp_one (h ac s σ H Q I hw)
theorem wD (ha:PE X a ta)(hb:PE X (.BoolOp .And (b::rest) pos) tb):PE X (.BoolOp .And (a::b::rest) pos) (wC ta tb):=by
 intro ac s σ H Q I h;refine BoolOp_and (bO (ha ac s σ H _ I h) fun v s1 ⟨x,H1,I1,r1,q1⟩=>?_);obtain⟨c,rfl,q1⟩:=q1;cases r1;refine N0 ?_;cases c with
 |true=>exact hb ac s1 σ H1 Q I1 q1
 |false=>exact⟨.bl false,H1,I1,rfl,q1⟩
theorem FD (ha:PE X a ta)(hb:PE X (.BoolOp .Or (b::rest) pos) tb):PE X (.BoolOp .Or (a::b::rest) pos) (FC ta tb):=by
 intro ac s σ H Q I h;refine BoolOp_or (bO (ha ac s σ H _ I h) fun v s1 ⟨x,H1,I1,r1,q1⟩=>?_);obtain⟨c,rfl,q1⟩:=q1;cases r1;refine N0 ?_;cases c with
 |false=>exact hb ac s1 σ H1 Q I1 q1
 |true=>exact⟨.bl true,H1,I1,rfl,q1⟩
theorem CO (ha:PE X a ta):PE X (.UnaryOp .Not a pos) (BW ta):=by intro ac s σ H Q I h;refine UnaryOp_ (bO (ha ac s σ H _ I h) fun v s1 ⟨x,H1,I1,r1,q1⟩=>?_);obtain⟨c,rfl,q1⟩:=q1;cases r1;exact not_of (N0 ⟨.bl (!c),H1,I1,rfl,q1⟩)
end
def SqL (K:QQ)(H:Hp)(a:Addr)(xs:List V):Prop:=
 Rd H a (.lst xs)\/
  ∃(o:Obj)(its:Array QS)(n:Nat),K.lookup a=some o/\o.cls=.type "list"/\o.dict=none/\o.data=.seq its n/\its.size<=sizeLine/\Vals xs its.toList
def SqT (K:QQ)(H:Hp)(a:Addr)(xs:List V):Prop:=
 Rd H a (.tup xs)\/
  ∃(o:Obj)(its:Array QS)(n:Nat),K.lookup a=some o/\o.cls=.type "tuple"/\o.data=.seq its n/\its.size<=sizeLine/\Vals xs its.toList
noncomputable def Iu:QS->Option V
 | .none=>some .bS
 | .bool b=>some (.bl b)
 | .int i _=>some (.int i)
 | .str x _=>some (.str x)
 | .bytes b _=>some (.uP b)
 | .float b _=>some (.Fa b)
 | .ref a=>some (.ref a)
 | .type n=>some (.ty n)
 |_=>none
theorem RelV.abs (r:RelV x u):Iu u=some x:=by
 cases x with
 |bS=>cases r;rfl
 |bl _=>cases r;rfl
 |int _=>obtain⟨t,rfl⟩:=r;rfl
 |str _=>obtain⟨t,rfl⟩:=r;rfl
 |uP _=>obtain⟨t,rfl⟩:=r;rfl
 |Fa _=>obtain⟨t,rfl⟩:=r;rfl
 |ref _=>cases r;rfl
 |ty _=>cases r;rfl
theorem RelV.inj (r:RelV x u)(q:RelV y u):x=y:=NM (r.abs.symm.trans q.abs)
theorem Vals.inj {xs ys:List V}{us:List QS}(h:Vals xs us)(k:Vals ys us):xs=ys:=by
 induction h generalizing ys with
 |nil=>cases k;rfl
 |cons r _ ih=>
  cases k with
  |cons r' t'=>rw[r.inj r',ih t']
section
theorem SqL.of {K:QQ}(h:H a=some (.lst xs)):SqL K H a xs:=.inl (.inl h)
theorem SqT.of {K:QQ}(h:H a=some (.tup xs)):SqT K H a xs:=.inl (.inl h)
theorem Inv.list (I:Inv X ac σ H s)(h:SqL X.K H a xs):∃ its:List QS,Vals xs its/\PlainL s.heap a its.toArray/\xs.length<=sizeLine:=by
 rcases h with h|⟨o,its,n,hk,hc,hd,hs,hz,r⟩
 .obtain⟨z,its,n,r,e⟩:=h.ok I.aJ;exact⟨its,r,⟨_,n,e,rfl,rfl,rfl⟩,z⟩
 .refine⟨its.toList,r,⟨o,n,I.f6 a o hk,hc,hd,by simpa using hs⟩,?_⟩;have e:=r.length;simp only[MR]at e;lia
theorem Inv.tuple (I:Inv X ac σ H s)(h:SqT X.K H a xs):∃ its:List QS,Vals xs its/\IsTup s.heap a its.toArray/\xs.length<=sizeLine:=by
 rcases h with h|⟨o,its,n,hk,hc,hs,hz,r⟩
 .obtain⟨z,its,r,p⟩:=h.ok I.aJ;exact⟨its,r,p,z⟩
 .refine⟨its.toList,r,⟨o,I.f6 a o hk,hc,n,by simpa using hs⟩,?_⟩;have e:=r.length;simp only[MR]at e;lia
theorem Inv.zJ (I:Inv X ac σ H s)(h:SqL X.K H a xs)(h':SqL X.K H a ys):xs=ys:=by
 obtain⟨its,r,⟨o,n,e,_,_,d⟩,_⟩:=I.list h;obtain⟨its',r',⟨o',n',e',_,_,d'⟩,_⟩:=I.list h';rw[e]at e';cases e';rw[d]at d';injection d' with d1 _;have:its=its':=by simpa using MT Array.toList d1
 subst this;exact r.inj r'
theorem Inv.wj (I:Inv X ac σ H s)(h:SqT X.K H a xs)(h':SqT X.K H a ys):xs=ys:=by
 obtain⟨its,r,⟨o,e,_,n,d⟩,_⟩:=I.tuple h;obtain⟨its',r',⟨o',e',_,n',d'⟩,_⟩:=I.tuple h';rw[e]at e';cases e';rw[d]at d';injection d' with d1 _;have:its=its':=by simpa using MT Array.toList d1
 subst this;exact r.inj r'
end
noncomputable abbrev Cx.lN (X:Cx)(E:QS->QP->Prop):Cx:={ X with xe:=E }
abbrev Cx.Hy (X:Cx):Cx:=X.lN fun _ _=>False
theorem Cx.Ok.lN {X:Cx}(ok:X.Ok)(E:QS->QP->Prop):(X.lN E).Ok:=⟨ok.mod,ok.kind,ok.glob,ok.blt,ok.above,ok.inj,ok.has,ok.E_,ok.hd,ok.frames,ok.wA,ok.Im,ok.bs,ok.zE,ok.tw,ok.wq,ok.iZ,ok.BQ,ok.kt⟩
theorem Cx.Ok.fM {X:Cx}{E:QS->QP->Prop}(ok:(X.lN E).Ok):X.Ok:=⟨ok.mod,ok.kind,ok.glob,ok.blt,ok.above,ok.inj,ok.has,ok.E_,ok.hd,ok.frames,ok.wA,ok.Im,ok.bs,ok.zE,ok.tw,ok.wq,ok.iZ,ok.BQ,ok.kt⟩
section
theorem Inv.lN (I:Inv X ac σ H s)(E:QS->QP->Prop):Inv (X.lN E) ac σ H s:=⟨I.ok.lN E,I.os,I.bare,I.base,I.loc,I.cell,I.free,I.d5,I.pin,I.aJ,I.len⟩
theorem Inv.fM (I:Inv (X.lN E) ac σ H s):Inv X ac σ H s:=⟨I.ok.fM,I.os,I.bare,I.base,I.loc,I.cell,I.free,I.d5,I.pin,I.aJ,I.len⟩
theorem SP.fM (h:SP (X.lN E) ac D f s'):SP X ac D f s':=by
 cases f with
 |next=>obtain⟨σ',H',I,q⟩:=h;exact⟨σ',H',I.fM,q⟩
 |brk=>obtain⟨σ',H',I,q⟩:=h;exact⟨σ',H',I.fM,q⟩
 |cont=>obtain⟨σ',H',I,q⟩:=h;exact⟨σ',H',I.fM,q⟩
 |ret u=>obtain⟨v,σ',H',I,r,q⟩:=h;exact⟨v,σ',H',I.fM,r,q⟩
theorem PSs.Hy {st:List Stmt}(h:PSs X.Hy st t):PSs X st t:=fun ac s σ H D I hw=>NC (h ac s σ H D (I.lN _) hw) (fun _ _ q=>q.fM) fun _ _ z=>False.elim z
end
section
variable {X:Cx}{st:Stmt}{rest:List Stmt}{t u:TS}
noncomputable def bH:TS:=fun D σ H=>D.nx σ H
noncomputable def aN (t u:TS):TS:=fun D σ H=>t { D with nx:=u D } σ H
theorem ba:PSs X [] bH:=fun _ _ σ H _ I h=>OX ⟨σ,H,I,h⟩
theorem ao (h1:PS X st t)(h2:PSs X rest u):PSs X (st::rest) (aN t u):=by
 intro ac s σ H D I h;refine wpAny_execs_cons (bO (h1 ac s σ H { D with nx:=u D } I h) fun f s1 q=>?_);cases f with
 |next=>obtain⟨σ',H',I',q⟩:=q;exact h2 ac s1 σ' H' D I' q
 |ret v=>exact q
 |brk=>exact q
 |cont=>exact q
theorem az (h1:PS X st t):PSs X [st] t:=by
 intro ac s σ H D I h;refine wpAny_execs_cons (bO (h1 ac s σ H D I h) fun f s1 q=>?_);cases f with
 |next=>exact OX q
 |ret v=>exact q
 |brk=>exact q
 |cont=>exact q
theorem Inv.quiet (I:Inv X ac σ H s):interactive X.env=false:=by simp[interactive,I.ok.kind]
noncomputable def cZ (te:TE):TS:=fun D σ H=>te σ H fun _ H1=>D.nx σ H1
theorem bX (he:PE X e te)(hs:autoParam (swapsWith e none pos.line X.env=pure false) QZ._auto_1):PS X (.Expr e pos) (cZ te):=by intro ac s σ H D I h;exact wpAny_Expr_any (bO (he ac s σ H _ I h) fun v s1 ⟨x,H1,I1,r1,q1⟩=>⟨σ,H1,I1,q1⟩) I.quiet hs
noncomputable def cV (te:TE):TS:=fun D σ H=>te σ H D.rt
theorem aW (he:PE X e te):PS X (.Return (some e) pos) (cV te):=by intro ac s σ H D I h;exact wpAny_Return_some (bO (he ac s σ H _ I h) fun v s1 ⟨x,H1,I1,r1,q1⟩=>⟨x,σ,H1,I1,r1,q1⟩)
noncomputable def BX:TS:=fun D _ H=>D.rt .bS H
theorem Aj:PS X (.Return none pos) BX:=fun _ _ σ H _ I h=>wpAny_Return_none ⟨.bS,σ,H,I,rfl,h⟩
noncomputable def cm (c:TT)(t u:TS):TS:=fun D σ H=>c σ H fun b H1=>if b=true then t D σ H1 else u D σ H1
theorem bY (hc:PT X c tc)(ha:PSs X a t)(hb:PSs X b u):PS X (.If c a b pos) (cm tc t u):=by
 intro ac s σ H D I h;refine wpAny_If (bO (hc ac s σ H _ I h) fun d s1 ⟨H1,I1,q1⟩=>?_);cases d with
 |true=>exact ha ac s1 σ H1 D I1 q1
 |false=>exact hb ac s1 σ H1 D I1 q1
end
abbrev TG:=V->St->Hp->(St->Hp->Prop)->Prop
abbrev FE:=List V->St->Hp->(St->Hp->Prop)->Prop
def PG (X:Cx)(target:Expr)(t:TG):Prop:=
 ∀(ac:List (Addr×Obj))(s:QP)(σ:St)(H:Hp)(v:V)(u:QS)(Q:St->Hp->Prop),Inv X ac σ H s->RelV v u->t v σ H Q->
  wpAny (model X.prog X.w) X.A (assign target X.env u) (fun _ s'=>∃ σ' H',Inv X ac σ' H' s'/\Q σ' H') X.xe s
def HJ (X:Cx)(ts:List Expr)(t:FE):Prop:=
 ∀(ac:List (Addr×Obj))(s:QP)(σ:St)(H:Hp)(vs:List V)(us:List QS)(Q:St->Hp->Prop),Inv X ac σ H s->Vals vs us->t vs σ H Q->
  wpAny (model X.prog X.w) X.A (assignInOrder ((assignEach ts X.env).map (·.2)) us) (fun _ s'=>∃ σ' H',Inv X ac σ' H' s'/\Q σ' H') X.xe s
section
noncomputable def aE (i:Nat):TG:=fun v σ H Q=>Q (σ.set i (some v)) H
theorem aS (hN:X.N.Nodup)(hi:X.N[i]?=some x)(hx:HI X.env.scope x)(hf:autoParam (X.fn x=true\/X.env.scope.names.lookup x=some .local) QV._auto_1):PG X (.Name x pos) (aE i):=by intro ac s σ H v u Q I r h;exact wpAny_assign_Name (pC I hN hi hx r (fun s' I'=>⟨_,H,I',h⟩) hf)
noncomputable def wF:FE:=fun vs σ H Q=>vs=[]/\Q σ H
noncomputable def f9 (t:TG)(u:FE):FE:=fun vs σ H Q=>∃ v r,vs=v::r/\t v σ H fun σ' H'=>u r σ' H' Q
theorem tG:HJ X [] wF:=by intro ac s σ H vs us Q I r h;obtain⟨e,h⟩:=h;subst e;cases r;exact assignInOrder_nil ⟨σ,H,I,h⟩
theorem f_ (h1:PG X e t)(h2:HJ X es u)
 (hs:autoParam ((assignEach (e::es) X.env).map (·.2)=assign e X.env::(assignEach es X.env).map (·.2)) QZ._auto_1):HJ X (e::es) (f9 t u):=by
 intro ac s σ H vs us Q I r h;obtain⟨v,vr,e1,h⟩:=h;subst e1;cases r with
 |cons r rr=>rw[hs];refine assignInOrder_cons (bO (h1 ac s σ H _ _ _ I r h) fun _ s1 ⟨σ1,H1,I1,q1⟩=>?_);exact h2 ac s1 σ1 H1 _ _ Q I1 rr q1
noncomputable def wG (K:QQ)(n:Nat)(t:FE):TG:=fun v σ H Q=>∃ a xs,v=.ref a/\SqT K H a xs/\xs.length=n/\t xs σ H Q
theorem wH (hc:X.calm=true)(h:HJ X es t)
 (hn:autoParam ((assignEach es X.env).length=n) QZ._auto_1) (hst:autoParam ((assignEach es X.env).findIdx? (·.1)=none) QZ._auto_1):PG X (.Tuple es k pos) (wG X.K n t):=by
 intro ac s σ H v u Q I r hw;obtain⟨a,xs,e1,hq,hl,hw⟩:=hw;subst e1;cases r;obtain⟨its,rv,ht,hz⟩:=I.tuple hq;refine assign_Tuple_tuple (I.ok.hd hc) ht (by simp[hn,<- hl,rv.length]) hst fun h' hx=>?_;have I1:Inv X ac σ H { s with heap:=h' }:=I.kept (t':=s.toks) fun b o e=>hx b o (MS (Mx e)) e;exact h ac _ σ H xs _ Q I1 (by simpa using rv) hw
noncomputable def bq (te:TE)(g:TG):TS:=fun D σ H=>te σ H fun x H1=>g x σ H1 D.nx
theorem aO (hN:X.N.Nodup)(hi:X.N[i]?=some x)(hx:HI X.env.scope x)(he:PE X e te)(hs:autoParam (swapsWith e (some (.Name x pos')) pos.line X.env=pure false) QZ._auto_1)(hf:autoParam (X.fn x=true\/X.env.scope.names.lookup x=some .local) QV._auto_1) :
 PS X (.Assign [.Name x pos'] e pos) (bq te (aE i)):=by
 intro ac s σ H D I h;refine wpAny_Assign_Name (bO (he ac s σ H _ I h) fun v s1 ⟨y,H1,I1,r1,q1⟩=>?_) hs;exact pC I1 hN hi hx r1 (fun s2 I2=>⟨_,H1,I2,q1⟩) hf
end
section
def wI (c:TT)(tb:TS):TS:=fun D σ H=>∃ W:Nat->St->Hp->Prop,(∃ m,W m σ H)/\∀ m σ H,W m σ H->
 c σ H fun b H1=>if b=true then ∃ N:St->Hp->Prop,(∀ σ' H',N σ' H'->∃ m',m'<m/\W m' σ' H')/\tb { D with nx:=N,ct:=N,bk:=D.nx } σ H1 else D.nx σ H1
theorem wJ (hp:PassesOwn (model X.prog X.w) X.A X.env X.xe)(hc:PT X c tc)(hb:PSs X body tb):PS X (.While c body [] pos) (wI tc tb):=by
 intro ac s σ H D I h;obtain⟨W,⟨m0,w0⟩,turn⟩:=h;refine wpAny_While (codeAny_whileLoop (fun n s'=>∃ σ' H',Inv X ac σ' H' s'/\W n σ' H') ?_ m0 ⟨σ,H,I,w0⟩);rintro n s1 ⟨σ1,H1,I1,w1⟩;refine OA hp (bO (hc ac s1 σ1 H1 _ I1 (turn n σ1 H1 w1)) fun b s2 ⟨H2,I2,q2⟩=>?_);cases b with
 |true=>
  obtain⟨N,hN,q2⟩:=q2;rw[Mh rfl];refine OA hp (bO (hb ac s2 σ1 H2 _ I2 q2) fun f s3 q3=>?_);cases f with
  |next=>obtain⟨σ3,H3,I3,n3⟩:=q3;obtain⟨m',hm,w3⟩:=hN σ3 H3 n3;exact⟨m',hm,σ3,H3,I3,w3⟩
  |cont=>obtain⟨σ3,H3,I3,n3⟩:=q3;obtain⟨m',hm,w3⟩:=hN σ3 H3 n3;exact⟨m',hm,σ3,H3,I3,w3⟩
  |brk=>exact q3
  |ret v=>exact q3
 |false=>rw[Mj MF];exact OX ⟨σ1,H2,I2,q2⟩
end
structure It where
 go:Nat->Hp->Prop
 tD:Nat->Hp->V->Hp->Prop
 stop:Nat->Hp->Prop
def gN (X:Cx)(ac:List (Addr×Obj))(H:Hp)(b:Addr):Prop:=H b=none/\b≠X.env.locals/\b∉X.fs/\(b∈X.ex\/X.s₀.heap.objs.size<=b)/\(∀ x c,X.env.cells.lookup x=some c->c≠b)/\∀ p∈X.pn++ac,p.1≠b
theorem Inv.oY (I:Inv X ac σ H s)(hb:s.heap.objs.size<=b)(hn:H' b=none):gN X ac H' b:=by
 refine⟨hn,OH (MY I.lt hb),I.J1 hb,.inr (Mq I.sz hb),fun x c e z=>?_,fun p hp z=>?_⟩
 .obtain⟨v,q⟩:=I.cell x c e;exact absurd (MY q.lt (by rw[z];exact hb)) (Oj _)
 .exact absurd (MY (Mx (I.pin p hp).1) (by rw[z];exact hb)) (Oj _)
structure Turn (P:QR) (w:World) (K:QQ) (tg:Expr) (J:It) (fp:List Addr) (it:Addr) (tn:Nat->Heap->Prop):Prop where
 mem:it∈fp
 obj:∀ i h,tn i h->∀ b∈fp,∃ o,h.get? b=some o/\∀ v,o.data≠.cell v
 keep:∀ i h h',tn i h->(∀ b∈fp,∀ o,h.get? b=some o->h'.get? b=some o)->tn i h'
 item:∀(X:Cx),X.prog=P->X.w=w->X.K=K->X.calm=true->∀(i:Nat)(ac:List (Addr×Obj))(s:QP)(σ:St)(H:Hp)(E:QS->QP->Prop),Inv X ac σ H s->(∀ b∈fp,gN X ac H b)->tn i s.heap->J.go i H->
  wpAny (model P w) X.A (pyNext (.ref it)) (fun r s1=>∃ u,r=some u/\
   wpAny (model P w) X.A (letOwnedTupleGo tg (.ref it) u) (fun _ s2=>∃ x H',Inv X ac σ H' s2/\RelV x u/\J.tD i H x H'/\tn (i+1) s2.heap/\∀ b∈fp,H' b=none) E s1) E s
 done:∀(X:Cx),X.prog=P->X.w=w->X.K=K->X.calm=true->∀(i:Nat)(ac:List (Addr×Obj))(s:QP)(σ:St)(H:Hp)(E:QS->QP->Prop),Inv X ac σ H s->(∀ b∈fp,gN X ac H b)->tn i s.heap->J.stop i H->
  wpAny (model P w) X.A (pyNext (.ref it)) (fun r s1=>r=none/\Inv X ac σ H s1) E s
 self:∀(A:QT)(i:Nat)(s:QP)(Q:QS->QP->Prop)(E:QS->QP->Prop),tn i s.heap->Q (.ref it) s->wpAny (model P w) A (pyIter (.ref it)) Q E s
abbrev TI:=St->Hp->(It->Hp->Prop)->Prop
def FG (X:Cx)(ac:List (Addr×Obj))(σ:St)(tg:Expr)(R:It->Hp->Prop)(itv:QS)(s2:QP):Prop:=∃(it:Addr)(fp:List Addr)(tn:Nat->Heap->Prop)(J:It)(H':Hp),itv=.ref it/\Inv X ac σ H' s2/\Turn X.prog X.w X.K tg J fp it tn/\tn 0 s2.heap/\(∀ b∈fp,gN X ac H' b)/\R J H'
def PI (X:Cx)(tg iter:Expr)(wi:TI):Prop:=
 ∀(ac:List (Addr×Obj))(s:QP)(σ:St)(H:Hp)(R:It->Hp->Prop),Inv X ac σ H s->wi σ H R->
  wpAny (model X.prog X.w) X.A (eval iter X.env) (fun v s1=>wpAny (model X.prog X.w) X.A (pyIter v) (FG X ac σ tg R) X.xe s1) X.xe s
theorem pE (ho:s.heap.get? it=some o)(hc:o.cls=.type n)(hd:o.data=.fields vs)
 (hn:["enumerate", "zip", "dict_itemiterator", "dict_reverseitemiterator", "odict_iterator", "itertools.zip_longest", "itertools.pairwise"].contains n=false) (hQ:Q () s):wpAny M A (letOwnedTupleGo tg (.ref it) u) Q E s:=by
 unfold letOwnedTupleGo;cases tg<;>first
  |exact L_ hQ
  |(cases u<;>first
     |exact L_ hQ
     |(refine KE (wpAny_load ho ?_)
       rw[hc,hd];show wpAny M A (if (["enumerate", "zip", "dict_itemiterator", "dict_reverseitemiterator", "odict_iterator", "itertools.zip_longest", "itertools.pairwise"].contains n&&vs[0]?==some (rawInt _))=true then _ else _) Q E s;rw[Mj (by intro h;rw[hn,Qx]at h;cases h)];exact L_ hQ))
noncomputable def zQ (K:QQ)(a:Addr):It:=⟨fun i H=>∃ xs x,SqL K H a xs/\xs[i]?=some x,fun i H x H'=>H'=H/\∀ xs,SqL K H a xs->xs[i]?=some x,fun i H=>∃ xs,SqL K H a xs/\xs.length<=i⟩
noncomputable def J7 (K:QQ)(a:Addr):It:=⟨fun i H=>∃ xs x,SqT K H a xs/\xs[i]?=some x,fun i H x H'=>H'=H/\∀ xs,SqT K H a xs->xs[i]?=some x,fun i H=>∃ xs,SqT K H a xs/\xs.length<=i⟩
noncomputable def Ff (lo:Int)(n:Nat):It:=⟨fun i _=>i<n,fun i H x H'=>H'=H/\x=.int (lo+i),fun i _=>n<=i⟩
theorem mF {K:QQ}{tg:Expr}(a it:Addr):Turn P w K tg (zQ K a) [it] it (fun i h=>h.IsListIter it a i) where
 mem:=by simp
 obj:=fun i h st b hb=>by
  have e:b=it:=by simpa using hb
  subst e;obtain⟨o,e,c,d⟩:=st;exact⟨o,e,fun v z=>by rw[d]at z;cases z⟩
 keep:=fun i h h' st k=>st.at fun o e=>k it (by simp) o e
 item:=by intro X hP hw hK hc i ac s σ H E I hf st hg;subst hP hw hK;obtain⟨xs,x,hq,hx⟩:=hg;obtain⟨its,rv,p,hz⟩:=I.list hq;obtain⟨u,hu,ru⟩:=rv.get hx;obtain⟨f0,f1,f2,f3,f4,f5⟩:=hf it (by simp);refine wpAny_pyNext_list_item st p.isList (x:=u) (by simpa using hu) fun h' st' sb=>?_;have I1:Inv X ac σ H { s with heap:=h' }:=I.turned (t':=s.toks) (fun b o hb e=>(sb.2 b hb).trans e) f0 f1 f3 f4 f5;obtain⟨o,e,c,d⟩:=id st';exact⟨u,rfl,pE (s:={ s with heap:=h' }) e c d (by decide) ⟨x,H,I1,ru,⟨rfl,fun ys hy=>by rw[I.zJ hy hq];exact hx⟩,st',fun b hb=>(hf b hb).1⟩⟩
 done:=by intro X hP hw hK hc i ac s σ H E I hf st hg;subst hP hw hK;obtain⟨xs,hq,hx⟩:=hg;obtain⟨its,rv,p,hz⟩:=I.list hq;obtain⟨f0,f1,f2,f3,f4,f5⟩:=hf it (by simp);have hl:=rv.length;exact wpAny_pyNext_list_end (I.ok.hd hc) st p.isList (by simp;lia) fun h' eb=>⟨rfl,I.turned (t':=s.toks) (fun b o hb e=>eb b o hb e) f0 f1 f3 f4 f5⟩
 self:=fun _ _ _ _ _ st h=>wpAny_pyIter_listiter st h
theorem rj {K:QQ}{tg:Expr}(a it:Addr):Turn P w K tg (J7 K a) [it] it (fun i h=>h.IsTupleIter it a i) where
 mem:=by simp
 obj:=fun i h st b hb=>by
  have e:b=it:=by simpa using hb
  subst e;obtain⟨o,e,c,d⟩:=st;exact⟨o,e,fun v z=>by rw[d]at z;cases z⟩
 keep:=fun i h h' st k=>st.at fun o e=>k it (by simp) o e
 item:=by intro X hP hw hK hc i ac s σ H E I hf st hg;subst hP hw hK;obtain⟨xs,x,hq,hx⟩:=hg;obtain⟨its,rv,p,hz⟩:=I.tuple hq;obtain⟨u,hu,ru⟩:=rv.get hx;obtain⟨f0,f1,f2,f3,f4,f5⟩:=hf it (by simp);refine wpAny_pyNext_tuple_item st (show s.heap.IsTuple a its.toArray from p) (x:=u) (by simpa using hu) fun h' st' sb=>?_;have I1:Inv X ac σ H { s with heap:=h' }:=I.turned (t':=s.toks) (fun b o hb e=>(sb.2 b hb).trans e) f0 f1 f3 f4 f5;obtain⟨o,e,c,d⟩:=id st';exact⟨u,rfl,pE (s:={ s with heap:=h' }) e c d (by decide) ⟨x,H,I1,ru,⟨rfl,fun ys hy=>by rw[I.wj hy hq];exact hx⟩,st',fun b hb=>(hf b hb).1⟩⟩
 done:=by intro X hP hw hK hc i ac s σ H E I hf st hg;subst hP hw hK;obtain⟨xs,hq,hx⟩:=hg;obtain⟨its,rv,p,hz⟩:=I.tuple hq;obtain⟨f0,f1,f2,f3,f4,f5⟩:=hf it (by simp);have hl:=rv.length;exact wpAny_pyNext_tuple_end (I.ok.hd hc) st (show s.heap.IsTuple a its.toArray from p) (by simp;lia) fun h' eb=>⟨rfl,I.turned (t':=s.toks) (fun b o hb e=>eb b o hb e) f0 f1 f3 f4 f5⟩
 self:=fun _ _ _ _ _ st h=>wpAny_pyIter_tupleiter st h
theorem rn {K:QQ}{tg:Expr}(it:Addr)(lo:Int)(n:Nat):Turn P w K tg (Ff lo n) [it] it (fun i h=>IsRangeIter h it (lo+(i:Nat)*1) ((n:Int)-(i:Nat)) 1) where
 mem:=by simp
 obj:=fun i h st b hb=>by grind
 keep:=fun i h h' st k=>k it (by simp) _ st
 item:=by intro X hP hw hK hc i ac s σ H E I hf st hg;subst hP hw hK;obtain⟨f0,f1,f2,f3,f4,f5⟩:=hf it (by simp);have W:=Walks.range (prog:=X.prog) (w:=X.w) (I.ok.hd hc) it lo 1 n;refine W.item i s _ _ hg st fun v h' tk hv st' kk=>?_;obtain⟨t,rfl⟩:=hv;have I1:Inv X ac σ H { s with heap:=h',toks:=tk }:=I.turned (fun b o hb e=>kk b o (by simpa using hb) e) f0 f1 f3 f4 f5;refine⟨_,rfl,pE (s:={ s with heap:=h',toks:=tk }) (n:="range_iterator") st' rfl rfl (by decide) ⟨.int (lo+i),H,I1,⟨t,?_⟩,⟨rfl,rfl⟩,st',fun b hb=>(hf b hb).1⟩⟩;rw[Int.mul_one]
 done:=by intro X hP hw hK hc i ac s σ H E I hf st hg;subst hP hw hK;obtain⟨f0,f1,f2,f3,f4,f5⟩:=hf it (by simp);exact wpAny_pyNext_range_end (I.ok.hd hc) st (by have:n<=i:=hg;lia) fun h' eb=>⟨rfl,I.turned (t':=s.toks) (fun b o hb e=>eb b o hb e) f0 f1 f3 f4 f5⟩
 self:=fun _ _ _ _ _ st h=>wpAny_pyIter_rangeiter st h
section
def b8 (K:QQ)(tl:TE):TI:=fun σ H R=>tl σ H fun x H1=>∃ a,x=.ref a/\(∃ xs,SqL K H1 a xs)/\R (zQ K a) H1
theorem bv {tl:TE}(hl:PE X l tl):PI X tg l (b8 X.K tl):=by
 intro ac s σ H R I h;refine bO (hl ac s σ H _ I h) fun v s1 ⟨x,H1,I1,r1,q1⟩=>?_;obtain⟨a,e,⟨xs,hq⟩,q⟩:=q1;subst e;cases r1;obtain⟨its,rv,p,hz⟩:=I1.list hq;refine O2 p.isList ?_;refine⟨s1.heap.objs.size,[s1.heap.objs.size],_,_,H1,rfl,I1.kept (t':=s1.toks) fun b o e=>Mb _ e,mF a _,⟨_,Mm _ rfl,rfl,rfl⟩,fun b hb=>?_,q⟩;have e:b=s1.heap.objs.size:=by simpa using hb
 subst e;exact I1.oY (Mc _) (I1.aJ.fresh (Mc _))
theorem wK {s:QP}{R:It->Hp->Prop}{E:QS->QP->Prop}{lo hi:Int}{t u v:Tok}{tk:Nat}(I:Inv X ac σ H s)(h1:-(2 ^ 62)<=lo)(h2:lo<2 ^ 62)(h3:-(2 ^ 62)<=hi)(h4:hi<2 ^ 62)
 (q:R (Ff lo (hi-lo).toNat) H):wX X (pyIter (.ref s.heap.objs.size)) (FG X ac σ tg R) E { s with heap:=s.heap.push { cls:=.type "range",data:=.fields #[.int lo t,.int hi u,.int 1 v] },toks:=tk }:=by
 refine wpAny_pyIter_range (IsRange.new ..) (small_one h1 h2 h3 h4) ?_;have I1:Inv X ac σ H { s with heap:=s.heap.push { cls:=.type "range",data:=.fields #[.int lo t,.int hi u,.int 1 v] },toks:=tk }:=I.kept fun b o e=>Mb _ e;refine⟨(s.heap.push { cls:=.type "range",data:=.fields #[.int lo t,.int hi u,.int 1 v] }).objs.size,[(s.heap.push { cls:=.type "range",data:=.fields #[.int lo t,.int hi u,.int 1 v] }).objs.size],_,_,H,rfl,
  I1.kept (t':=tk) fun b o e=>Mb _ e,rn _ lo (hi-lo).toNat,?_,fun b hb=>?_,q⟩
 .have e1:lo+((0:Nat):Int)*1=lo:=by simp
  have e2:(((hi-lo).toNat:Nat):Int)-((0:Nat):Int)=Builtin.Range.rangeSize lo hi 1:=by rw[rangeSize_one];split<;>lia
  show IsRangeIter _ _ (lo+((0:Nat):Int)*1) ((((hi-lo).toNat:Nat):Int)-((0:Nat):Int)) 1;rw[e1,e2];exact Mm _ rfl
 .have e:b=(s.heap.push { cls:=.type "range",data:=.fields #[.int lo t,.int hi u,.int 1 v] }).objs.size:=by simpa using hb
  subst e;exact I1.oY (Mc _) (I1.aJ.fresh (Mc _))
def wL (ta:TA):TI:=fun σ H R=>ta σ H fun vs H1=>∃ j:Int,vs=[.int j]/\-(2 ^ 62)<=j/\j<2 ^ 62/\R (Ff 0 j.toNat) H1
theorem mG {a:Expr} {ta:TA} {p pos:Pos} (hg:Gl X "range") (hm:X.mg "range"=none) (ha:PA X [a] ta) (hs:autoParam (starEach [a] X.env=[(false,eval a X.env)]) QZ._auto_1):PI X tg (.Call (.Name "range" p) [a] [] pos) (wL ta):=by
 intro ac s σ H R I h;refine Call_ (nK I hg hm boot_range (PyProof.Rows.callWith_type1 (bO (ha pos ac s σ H _ I h) fun us s1 ⟨vs,H1,I1,r1,q1⟩=>?_) hs rfl));obtain⟨j,e,q1,q2,q⟩:=q1;subst e;cases r1 with
 |cons r rr=>cases rr;obtain⟨t,rfl⟩:=r;exact call_range_1 (wK I1 (by lia) (by lia) q1 q2 (by simpa using q))
def dJ (wi:TI)(g:TG)(tb:TS):TS:=fun D σ H=>wi σ H fun J H1=>∃ W:Nat->Nat->St->Hp->Prop,(∃ m,W 0 m σ H1)/\∀ i m σ H,W i m σ H->
 (J.stop i H/\D.nx σ H)\/(J.go i H/\∃ N:St->Hp->Prop,(∀ σ' H',N σ' H'->∃ m',m'<m/\W (i+1) m' σ' H')/\∀ x H',J.tD i H x H'->g x σ H' fun σ2 H2=>tb { D with nx:=N,ct:=N,bk:=D.nx } σ2 H2)
noncomputable def kf (fp:List Addr)(h:Heap):List (Addr×Obj):=fp.filterMap fun b=>(h.get? b).map fun o=>(b,o)
theorem fm (hb:b∈fp)(e:h.get? b=some o):(b,o)∈kf fp h:=OT.mpr ⟨b,hb,by rw[e];rfl⟩
theorem uT (hp:p∈kf fp h):p.1∈fp/\h.get? p.1=some p.2:=by
 obtain⟨b,hb,e⟩:=OT.mp hp;cases q:h.get? b with
 |none=>rw[q]at e;cases e
 |some o=>rw[q]at e;have e':(b,o)=p:=NM e;subst e';exact⟨hb,q⟩
theorem Inv.pinned (I:Inv X ac σ H s)(hf:∀ b∈fp,gN X ac H b)(ho:∀ b∈fp,∃ o,s.heap.get? b=some o/\∀ v,o.data≠.cell v):Inv X (ac++kf fp s.heap) σ H s:=
 I.uO fun p hp=>(MO.mp hp).elim (fun z=>I.pin p (MX _ z)) fun z=>by
  obtain⟨hb,e⟩:=uT z;obtain⟨f0,f1,f2,_⟩:=hf p.1 hb
  grind
theorem Inv.i3 (I:Inv X (ac++pl) σ H s):Inv X ac σ H s:=I.uO fun p hp=>I.pin p (MX _ (Na _ hp))
theorem ci (hp:PassesOwn (model X.prog X.w) X.A X.env X.xe)(hc:X.calm=true)(hi:PI X tg iter wi)(hg:PG X tg g)(hb:PSs X body tb)
 (hs:autoParam (∀ x,foldedSetIterable iter X.env x=pure x) QX._auto_1):PS X (.For tg iter body [] pos) (dJ wi g tb):=by
 intro ac s σ H D I h;refine wpAny_For (bO (hi ac s σ H _ I h) fun v s1 h1=>bO h1 fun itv s2 h2=>?_) hs;obtain⟨it,fp,tn,J,H2,e,I2,T,st2,f2,W,⟨m0,w0⟩,turn⟩:=h2;subst e;have stat:∀{H':Hp},(∀ b∈fp,H' b=none)->∀ b∈fp,gN X ac H' b:=fun hn b hb=>⟨hn b hb,(f2 b hb).2⟩;refine codeAny_forLoop_any (fun n s'=>∃ i σ' H',Inv X ac σ' H' s'/\tn i s'.heap/\(∀ b∈fp,H' b=none)/\W i n σ' H') ?_ m0 ⟨0,σ,H2,I2,st2,fun b hb=>(f2 b hb).1,w0⟩;rintro n s3 ⟨i,σ3,H3,I3,st3,fr3,w3⟩;rcases turn i n σ3 H3 w3 with⟨stop,qn⟩|⟨go,N,hN,step⟩
 .refine OA hp (bO (T.done X rfl rfl rfl hc i ac s3 σ3 H3 X.xe I3 (stat fr3) st3 stop) fun r s4 ⟨hr,I4⟩=>?_);subst hr;exact OX ⟨σ3,H3,I4,qn⟩
 .refine OA hp (bO (T.item X rfl rfl rfl hc i ac s3 σ3 H3 X.xe I3 (stat fr3) st3 go) fun r s4 ⟨u,hr,h4⟩=>?_);subst hr;refine OA hp (bO h4 fun _ s5 ⟨x,H5,I5,r5,y5,st5,fr5⟩=>?_);have I5':=I5.pinned (stat fr5) (T.obj _ _ st5);refine OA hp (bO (hg _ s5 σ3 H5 x u _ I5' r5 (step x H5 y5)) fun _ s6 ⟨σ6,H6,I6,q6⟩=>?_);refine OA hp (bO (hb _ s6 σ6 H6 _ I6 q6) fun f s7 q7=>?_);have again:∀{σ7:St}{H7:Hp},Inv X (ac++kf fp s5.heap) σ7 H7 s7->N σ7 H7->∃ m,m<n/\∃ i σ' H',Inv X ac σ' H' s7/\tn i s7.heap/\(∀ b∈fp,H' b=none)/\W i m σ' H':=fun{σ7 H7} I7 n7=>by obtain⟨m',hm,w7⟩:=hN σ7 H7 n7;refine⟨m',hm,i+1,σ7,H7,I7.i3,T.keep _ _ _ st5 fun b hb o e=>(I7.pin (b,o) (MX _ (MX _ (fm hb e)))).1,fun b hb=>?_,w7⟩;obtain⟨o,e,d⟩:=T.obj _ _ st5 b hb;exact(I7.pin (b,o) (MX _ (MX _ (fm hb e)))).2.1
  cases f with
  |next=>obtain⟨σ7,H7,I7,n7⟩:=q7;exact again I7 n7
  |cont=>obtain⟨σ7,H7,I7,n7⟩:=q7;exact again I7 n7
  |brk=>obtain⟨σ7,H7,I7,q7⟩:=q7;exact⟨σ7,H7,I7.i3,q7⟩
  |ret v=>obtain⟨x7,σ7,H7,I7,r7,q7⟩:=q7;exact⟨x7,σ7,H7,I7.i3,r7,q7⟩
end
theorem b9 {K:QQ}{a:Addr}{xs:List V}{g:TG}{tb:TS}{D:Ends}{σ:St}{H:Hp}(Pv:Nat->St->Hp->Prop)(h0:Pv 0 σ H)(hl:∀ i σ H,i<=xs.length->Pv i σ H->SqL K H a xs)
 (hs:∀ i x σ H,xs[i]?=some x->Pv i σ H->g x σ H fun σ2 H2=>tb { D with nx:=Pv (i+1),ct:=Pv (i+1),bk:=D.nx } σ2 H2) (hd:∀ σ H,Pv xs.length σ H->D.nx σ H) :
 ∃ W:Nat->Nat->St->Hp->Prop,(∃ m,W 0 m σ H)/\∀ i m σ H,W i m σ H->
  ((zQ K a).stop i H/\D.nx σ H)\/((zQ K a).go i H/\∃ N:St->Hp->Prop,(∀ σ' H',N σ' H'->∃ m',m'<m/\W (i+1) m' σ' H')/\∀ x H',(zQ K a).tD i H x H'->g x σ H' fun σ2 H2=>tb { D with nx:=N,ct:=N,bk:=D.nx } σ2 H2):=by
 refine⟨fun i m σ H=>m=xs.length-i/\i<=xs.length/\Pv i σ H,⟨xs.length,by simp,ML _,h0⟩,?_⟩;rintro i m σ H ⟨rfl,hi,p⟩;have q:=hl i σ H hi p;by_cases hlt:i<xs.length
 .refine .inr ⟨⟨xs,xs[i],q,by simp[hlt]⟩,Pv (i+1),fun σ' H' p'=>⟨xs.length-(i+1),by lia,rfl,hlt,p'⟩,fun x H' y=>?_⟩;obtain⟨e,y⟩:=y;subst e;exact hs i x σ _ (y xs q) p
 .have e:i=xs.length:=by lia
  subst e;exact .inl ⟨⟨xs,q,Mc _⟩,hd σ H p⟩
theorem uU {lo:Int}{n:Nat}{g:TG}{tb:TS}{D:Ends}{σ:St}{H:Hp}(Pv:Nat->St->Hp->Prop)(h0:Pv 0 σ H)
 (hs:∀ i σ H,i<n->Pv i σ H->g (.int (lo+i)) σ H fun σ2 H2=>tb { D with nx:=Pv (i+1),ct:=Pv (i+1),bk:=D.nx } σ2 H2) (hd:∀ σ H,Pv n σ H->D.nx σ H) :
 ∃ W:Nat->Nat->St->Hp->Prop,(∃ m,W 0 m σ H)/\∀ i m σ H,W i m σ H->
  ((Ff lo n).stop i H/\D.nx σ H)\/((Ff lo n).go i H/\∃ N:St->Hp->Prop,(∀ σ' H',N σ' H'->∃ m',m'<m/\W (i+1) m' σ' H')/\∀ x H',(Ff lo n).tD i H x H'->g x σ H' fun σ2 H2=>tb { D with nx:=N,ct:=N,bk:=D.nx } σ2 H2):=by
 refine⟨fun i m σ H=>m=n-i/\i<=n/\Pv i σ H,⟨n,by simp,ML _,h0⟩,?_⟩;rintro i m σ H ⟨rfl,hi,p⟩;by_cases hlt:i<n
 .refine .inr ⟨hlt,Pv (i+1),fun σ' H' p'=>⟨n-(i+1),by lia,rfl,hlt,p'⟩,fun x H' y=>?_⟩;obtain⟨e,y⟩:=y;subst e y;exact hs i σ _ hlt p
 .have e:i=n:=by lia
  subst e;exact .inl ⟨Mc _,hd σ H p⟩
abbrev R2:=V->V->Hp->VK->Prop
def hW (X:Cx)(f:QS->QS->Sem QS)(r:R2):Prop:=
 ∀(ac:List (Addr×Obj))(s:QP)(σ:St)(H:Hp)(x y:V)(v u:QS)(Q:VK),Inv X ac σ H s->RelV x v->RelV y u->r x y H Q->
  wpAny (model X.prog X.w) X.A (f v u) (EP X ac σ Q) X.xe s
def bn (X:Cx)(f:QS)(r:List V->Hp->VK->Prop):Prop:=
 ∀(ac:List (Addr×Obj))(s:QP)(σ:St)(H:Hp)(xs:List V)(us:List QS)(Q:VK),Inv X ac σ H s->Vals xs us->r xs H Q->
  wpAny (model X.prog X.w) X.A (call f us) (EP X ac σ Q) X.xe s
def Iv (X:Cx)(r:V->Hp->(Bool->Hp->Prop)->Prop):Prop:=
 ∀(ac:List (Addr×Obj))(s:QP)(σ:St)(H:Hp)(x:V)(v:QS)(Q:Bool->Hp->Prop),Inv X ac σ H s->RelV x v->r x H Q->
  wpAny (model X.prog X.w) X.A (truthy v) (TP X ac σ Q) X.xe s
noncomputable def bg (r:R2)(ta tb:TE):TE:=fun σ H Q=>ta σ H fun x H1=>tb σ H1 fun y H2=>r x y H2 Q
noncomputable def rI (C:Int->Int->Prop)(g:Int->Int->V):R2:=fun x y H Q=>∃ i j,x=.int i/\y=.int j/\C i j/\Q (g i j) H
noncomputable def qT (g:Int->Int->V):R2:=fun x y H Q=>∃ i j,x=.int i/\y=.int j/\Q (g i j) H
section
theorem CP (ha:PE X a ta)(hb:PE X b tb){R:V->V->Hp->Prop}(I:Inv X ac σ H s)
 (h:ta σ H fun x H1=>tb σ H1 fun y H2=>R x y H2) {Q:QS->QP->Prop} {f:QS->QS->Sem QS}
 (hf:∀ v u s2 x y H2,Inv X ac σ H2 s2->RelV x v->RelV y u->R x y H2->wX X (f v u) Q X.xe s2) :
 wX X (eval a X.env) (fun v s₁=>wX X (eval b X.env) (fun u s₂=>wX X (f v u) Q X.xe s₂) X.xe s₁) X.xe s:=by
 refine bO (ha ac s σ H _ I h) fun v s1 ⟨x,H1,I1,r1,q1⟩=>?_;refine bO (hb ac s1 σ H1 _ I1 q1) fun u s2 ⟨y,H2,I2,r2,q2⟩=>?_;exact hf v u s2 x y H2 I2 r1 r2 q2
theorem aI {op:Operator}(ho:hW X (binaryOp op) r)(ha:PE X a ta)(hb:PE X b tb):PE X (.BinOp a op b pos) (bg r ta tb):=by intro ac s σ H Q I h;exact wpAny_BinOp (CP ha hb I h fun v u s2 x y H2 I2 rx ry q=>ho ac s2 σ H2 x y v u Q I2 rx ry q)
theorem HK {f:QS->QS->Sem QS}{C:Int->Int->Prop}{g:Int->Int->Int}
 (rule:∀(i j:Int)(t u:Tok)(s:QP)(Q:QS->QP->Prop)(E:QS->QP->Prop),C i j->Q (.int (g i j) s.toks) { s with toks:=s.toks+1 }->wX X (f (.int i t) (.int j u)) Q E s) :
 hW X f (rI C fun i j=>.int (g i j)):=by
 intro ac s σ H x y v u Q I rx ry h;obtain⟨i,j,rfl,rfl,hc,q⟩:=h;obtain⟨t,rfl⟩:=rx;obtain⟨t',rfl⟩:=ry;exact rule i j t t' s _ _ hc ⟨.int (g i j),H,I.tok _,⟨_,rfl⟩,q⟩
theorem CQ {f:QS->QS->Sem QS}{g:Int->Int->Int}
 (rule:∀(i j:Int)(t u:Tok)(s:QP)(Q:QS->QP->Prop)(E:QS->QP->Prop),Q (.int (g i j) s.toks) { s with toks:=s.toks+1 }->wX X (f (.int i t) (.int j u)) Q E s) :
 hW X f (qT fun i j=>.int (g i j)):=by
 intro ac s σ H x y v u Q I rx ry h;obtain⟨i,j,rfl,rfl,q⟩:=h;obtain⟨t,rfl⟩:=rx;obtain⟨t',rfl⟩:=ry;exact rule i j t t' s _ _ ⟨.int (g i j),H,I.tok _,⟨_,rfl⟩,q⟩
theorem Ak {f:QS->QS->Sem QS}{g:Int->Int->Bool}
 (rule:∀(i j:Int)(t u:Tok)(s:QP)(Q:QS->QP->Prop)(E:QS->QP->Prop),Q (.bool (g i j)) s->wX X (f (.int i t) (.int j u)) Q E s) :
 hW X f (qT fun i j=>.bl (g i j)):=by
 intro ac s σ H x y v u Q I rx ry h;obtain⟨i,j,rfl,rfl,q⟩:=h;obtain⟨t,rfl⟩:=rx;obtain⟨t',rfl⟩:=ry;exact rule i j t t' s _ _ ⟨.bl (g i j),H,I,rfl,q⟩
def FH (i j:Int):Prop:=0<j/\j<1073741824
def CMul (i j:Int):Prop:=(-(2 ^ 64)<i/\i<2 ^ 64)\/(-(2 ^ 64)<j/\j<2 ^ 64)
theorem CMul.ok (h:CMul i j):IntMulOk i j:=by
 rcases h with⟨h1,h2⟩|⟨h1,h2⟩
 .exact .of_left (intBits_le_64 h1 h2)
 .exact .of_right (intBits_le_64 h1 h2)
theorem rA (k:Nat):(0:Int)<=2 ^ k:=by rw[two_pow_cast];exact Int.natCast_nonneg _
theorem cj:hW X (binaryOp .Add) (qT fun i j=>.int (i+j)):=CQ fun _ _ _ _ _ _ _ q=>add_int q
theorem CT:hW X (binaryOp .Sub) (qT fun i j=>.int (i-j)):=CQ fun _ _ _ _ _ _ _ q=>sub_int q
theorem kg:hW X (binaryOp .Mult) (rI CMul fun i j=>.int (i*j)):=HK fun _ _ _ _ _ _ _ hc q=>mul_int q hc.ok
theorem bZ:hW X (binaryOp .FloorDiv) (rI FH fun i j=>.int (i / j)):=HK fun i j _ _ _ _ _ hc q=>by have h1:(0:Int)<j:=hc.1;have h2:j<1073741824:=hc.2;exact floordiv_int (by lia) (by rw[Int.fdiv_eq_ediv_of_nonneg i (by lia)];exact q) (.inl (PyProof.noPylong_small (by lia)))
theorem br:hW X (binaryOp .Mod) (rI (fun _ j=>0<j) fun i j=>.int (i % j)):=HK fun i j _ _ _ _ _ hc q=>by have h1:(0:Int)<j:=hc;exact mod_int' (by lia) (by rw[Int.fmod_eq_emod_of_nonneg i (by lia)];exact q)
theorem CU:hW X (binaryOp .RShift) (rI (fun _ j=>0<=j) fun i j=>.int (i / 2 ^ j.toNat)):=HK fun i j _ _ _ _ _ hc q=>rshift_int hc (by rw[Int.fdiv_eq_ediv_of_nonneg i (rA _)];exact q)
theorem CV:hW X (binaryOp .BitAnd) (qT fun i j=>.int (Builtin.bitAnd i j)):=CQ fun _ _ _ _ _ _ _ q=>and_int q
end
noncomputable def FI:V->V->Bool
 | .bS,.bS=>true|.bS,.int _=>true|.int _,.bS=>true|.bS,.bl _=>true|.bl _,.bS=>true|.bS,.str _=>true|.str _,.bS=>true
 | .int _,.int _=>true|.bl _,.bl _=>true|.str _,.str _=>true|.uP _,.uP _=>true
 | .int _,.str _=>true|.str _,.int _=>true|.bl _,.str _=>true|.str _,.bl _=>true
 |_,_=>false
def Al:R2:=fun x y H Q=>FI x y=true/\Q (.bl (decide (x=y))) H
def Iw:R2:=fun x y H Q=>FI x y=true/\Q (.bl (!decide (x=y))) H
theorem tH:decide (V.int i=V.int j)=(i==j):=by rw[Oa];simp
theorem wM:decide (V.bl i=V.bl j)=(i==j):=by rw[Oa];simp
theorem tJ:decide (V.str i=V.str j)=(i==j):=by rw[Oa];simp
theorem tL:decide (V.uP i=V.uP j)=(i.toList==j.toList):=by rw[Oa];cases i;cases j;simp
section
theorem aY (I:Inv X ac σ H s)(q:Q (.bl k) H)(e:k=k'):EP X ac σ Q (.bool k') s:=by subst e;exact⟨.bl k,H,I,rfl,q⟩
theorem kh:hW X (compareOp .Eq) Al:=by
 intro ac s σ H x y v u Q I rx ry h;obtain⟨hs,q⟩:=h;cases x with
 |bS=>
  cases rx;cases y with
  |bS=>cases ry;exact PySem.EqNone.eq_none_none (aY I q (by simp))
  |bl j=>cases ry;exact PySem.EqNone.eq_none_bool (aY I q (by simp))
  |int j=>obtain⟨t',rfl⟩:=ry;exact PySem.EqNone.eq_none_int (aY I q (by simp))
  |str j=>obtain⟨t',rfl⟩:=ry;exact PySem.EqNone.eq_none_str (aY I q (by simp))
  |_=>exact absurd (show false=true from hs) MF
 |bl i=>
  cases rx;cases y with
  |bS=>cases ry;exact PySem.EqNone.eq_bool_none (aY I q (by simp))
  |bl j=>cases ry;exact eq_bool (aY I q wM)
  |str j=>obtain⟨t',rfl⟩:=ry;exact PySem.EqMixed.eq_bool_str (aY I q (by simp))
  |_=>exact absurd (show false=true from hs) MF
 |int i=>
  obtain⟨t,rfl⟩:=rx;cases y with
  |bS=>cases ry;exact PySem.EqNone.eq_int_none (aY I q (by simp))
  |int j=>obtain⟨t',rfl⟩:=ry;exact eq_int (aY I q tH)
  |str j=>obtain⟨t',rfl⟩:=ry;exact PySem.EqMixed.eq_int_str (aY I q (by simp))
  |_=>exact absurd (show false=true from hs) MF
 |str i=>
  obtain⟨t,rfl⟩:=rx;cases y with
  |bS=>cases ry;exact PySem.EqNone.eq_str_none (aY I q (by simp))
  |bl j=>cases ry;exact PySem.EqMixed.eq_str_bool (aY I q (by simp))
  |int j=>obtain⟨t',rfl⟩:=ry;exact PySem.EqMixed.eq_str_int (aY I q (by simp))
  |str j=>obtain⟨t',rfl⟩:=ry;exact eq_str (aY I q tJ)
  |_=>exact absurd (show false=true from hs) MF
 |uP i=>
  obtain⟨t,rfl⟩:=rx;cases y with
  |uP j=>obtain⟨t',rfl⟩:=ry;exact PySem.W.eq_bytes (aY I q tL)
  |_=>exact absurd (show false=true from hs) MF
 |_=>cases y<;>exact absurd (show false=true from hs) MF
theorem BY:hW X (compareOp .NotEq) Iw:=by
 intro ac s σ H x y v u Q I rx ry h;obtain⟨hs,q⟩:=h;cases x with
 |bS=>
  cases rx;cases y with
  |bS=>cases ry;exact PySem.EqNone.ne_none_none (aY I q (by simp))
  |bl j=>cases ry;exact PySem.EqNone.ne_none_bool (aY I q (by simp))
  |int j=>obtain⟨t',rfl⟩:=ry;exact PySem.EqNone.ne_none_int (aY I q (by simp))
  |str j=>obtain⟨t',rfl⟩:=ry;exact PySem.EqNone.ne_none_str (aY I q (by simp))
  |_=>exact absurd (show false=true from hs) MF
 |bl i=>
  cases rx;cases y with
  |bS=>cases ry;exact PySem.EqNone.ne_bool_none (aY I q (by simp))
  |bl j=>cases ry;exact ne_bool (aY I q (MT not wM))
  |str j=>obtain⟨t',rfl⟩:=ry;exact PySem.EqMixed.ne_bool_str (aY I q (by simp))
  |_=>exact absurd (show false=true from hs) MF
 |int i=>
  obtain⟨t,rfl⟩:=rx;cases y with
  |bS=>cases ry;exact PySem.EqNone.ne_int_none (aY I q (by simp))
  |int j=>obtain⟨t',rfl⟩:=ry;exact ne_int (aY I q (MT not tH))
  |str j=>obtain⟨t',rfl⟩:=ry;exact PySem.EqMixed.ne_int_str (aY I q (by simp))
  |_=>exact absurd (show false=true from hs) MF
 |str i=>
  obtain⟨t,rfl⟩:=rx;cases y with
  |bS=>cases ry;exact PySem.EqNone.ne_str_none (aY I q (by simp))
  |bl j=>cases ry;exact PySem.EqMixed.ne_str_bool (aY I q (by simp))
  |int j=>obtain⟨t',rfl⟩:=ry;exact PySem.EqMixed.ne_str_int (aY I q (by simp))
  |str j=>obtain⟨t',rfl⟩:=ry;exact ne_str (aY I q (MT not tJ))
  |_=>exact absurd (show false=true from hs) MF
 |uP i=>
  obtain⟨t,rfl⟩:=rx;cases y with
  |uP j=>obtain⟨t',rfl⟩:=ry;exact PySem.W.ne_bytes (aY I q (MT not tL))
  |_=>exact absurd (show false=true from hs) MF
 |_=>cases y<;>exact absurd (show false=true from hs) MF
theorem mH:hW X (compareOp .Lt) (qT fun i j=>.bl (decide (i<j))):=Ak fun _ _ _ _ _ _ _ q=>lt_int q
theorem tM:hW X (compareOp .LtE) (qT fun i j=>.bl (decide (i<=j))):=Ak fun _ _ _ _ _ _ _ q=>le_int q
theorem FJ:hW X (compareOp .Gt) (qT fun i j=>.bl (decide (j<i))):=Ak fun _ _ _ _ _ _ _ q=>gt_int q
theorem FL:hW X (compareOp .GtE) (qT fun i j=>.bl (decide (j<=i))):=Ak fun _ _ _ _ _ _ _ q=>ge_int q
theorem bL (b:Expr)(h:autoParam (op≠.In) QU._auto_1)(h2:autoParam (op≠.NotIn) QU._auto_1):behindInMarks op b=false:=by
 have e1:(op==CmpOp.In)=false:=by cases op<;>first|rfl|exact absurd rfl h
 have e2:(op==CmpOp.NotIn)=false:=by cases op<;>first|rfl|exact absurd rfl h2
 cases b<;>simp[behindInMarks,e1,e2]
theorem d8 (ho:hW X (compareOp op) r)(ha:PE X a ta)(hb:PE X b tb)(hm:behindInMarks op b=false):PE X (.Compare a [op] [b] pos) (bg r ta tb):=by intro ac s σ H Q I h;exact wpAny_Compare1 (CP ha hb I h fun v u s2 x y H2 I2 rx ry q=>ho ac s2 σ H2 x y v u Q I2 rx ry q) hm
noncomputable def bK (t:TE):TT:=fun σ H Q=>t σ H fun x H'=>∃ k,x=.bl k/\Q k H'
theorem bc (ho:hW X (compareOp op) r)(ha:PE X a ta)(hb:PE X b tb)(hm:behindInMarks op b=false):PT X (.Compare a [op] [b] pos) (bK (bg r ta tb)):=by intro ac s σ H Q I h;refine wpAny_isTrue_Compare1 (bO (ha ac s σ H _ I h) fun v s1 ⟨x,H1,I1,r1,q1⟩=>bO (hb ac s1 σ H1 _ I1 q1) fun u s2 ⟨y,H2,I2,r2,q2⟩=>bO (ho ac s2 σ H2 x y v u _ I2 r1 r2 q2) fun c s3 ⟨z,H3,I3,r3,k,e,q3⟩=>?_) hm;subst e;cases r3;exact N0 ⟨H3,I3,q3⟩
noncomputable def wN (r r':R2)(ta tb tc:TE):TE:=fun σ H Q=>ta σ H fun x H1=>tb σ H1 fun y H2=>r x y H2 fun z H3=>∃ k,z=.bl k/\
 (if k=true then tc σ H3 fun w' H4=>r' y w' H4 Q else Q (.bl false) H3)
theorem h_ (ho:hW X (compareOp op) r)(ho':hW X (compareOp op') r')(ha:PE X a ta)(hb:PE X b tb)(hc:PE X c tc)
 (hm:lastMarks [op,op'] [b,c]=false:=by with_unfolding_all rfl):PT X (.Compare a [op,op'] [b,c] pos) (bK (wN r r' ta tb tc)):=by
 intro ac s σ H Q I h;refine isTrue_chain (bO (ha ac s σ H _ I h) fun v s1 ⟨x,H1,I1,r1,q1⟩=>test_link (bO (hb ac s1 σ H1 _ I1 q1) fun u s2 ⟨y,H2,I2,r2,q2⟩=>bO (ho ac s2 σ H2 x y v u _ I2 r1 r2 q2) fun d s3 ⟨z,H3,I3,r3,k,e,q3⟩=>?_)) hm;subst e;cases r3;refine N0 ?_;cases k with
 |false=>obtain⟨k',e',q'⟩:=q3;cases e';exact ite_ff ⟨H3,I3,q'⟩
 |true=>refine ite_tt (test_last (bO (hc ac s3 σ H3 _ I3 q3) fun w' s4 ⟨z',H4,I4,r4,q4⟩=>bO (ho' ac s4 σ H4 y z' u w' _ I4 r2 r4 q4) fun d' s5 ⟨z2,H5,I5,r5,k2,e2,q5⟩=>?_));subst e2;cases r5;exact N0 ⟨H5,I5,q5⟩
def CW (K:QQ)(x:V)(H:Hp)(k:Bool):Prop:=
 match x with
 | .bS=>k=false
 | .bl b=>k=b
 | .int i=>k=(i != 0)
 | .str y=>y.length<=sizeLine/\k=((y.length:Int) != 0)
 | .uP y=>y.size<=sizeLine/\k=((y.size:Int) != 0)
 | .ref p=>(∃ xs,SqL K H p xs/\k=!xs.isEmpty)\/(∃ xs,SqT K H p xs/\k=!xs.isEmpty)\/∃ kvs,H p=some (.dK kvs)/\k=!kvs.isEmpty
 |_=>False
theorem rB {κ:Type}{kvs:List (κ×V)}{vs:List (κ×QS)}(r:KV kvs vs):(!vs.isEmpty)=!kvs.isEmpty:=by cases r<;>rfl
theorem ki (r:Vals xs its):(!its.toArray.isEmpty)=!xs.isEmpty:=by cases r<;>simp
theorem nM:(sizeLine:Nat)<2 ^ 63:=by rw[MV];decide
theorem CY:Iv X (fun x H Q=>∃ k,CW X.K x H k/\Q k H):=by
 intro ac s σ H x v Q I rx h;obtain⟨k,e,q⟩:=h;have hl:=nM;have hs:sizeLine=16777216:=MV;cases x with
 |bS=>cases rx;have e':k=false:=e;subst e';exact truthy_none ⟨H,I,q⟩
 |bl b=>cases rx;have e':k=b:=e;subst e';exact N0 ⟨H,I,q⟩
 |int i=>obtain⟨t,rfl⟩:=rx;have e':k=(i != 0):=e;subst e';exact PySem.P.truthy_int ⟨H,I,q⟩
 |str y=>obtain⟨t,rfl⟩:=rx;obtain⟨hy,e'⟩ : y.length<=sizeLine/\k=((y.length:Int) != 0):=e;subst e';exact PySem.P.truthy_str (by lia) ⟨H,I.tok _,q⟩
 |uP y=>obtain⟨t,rfl⟩:=rx;obtain⟨hy,e'⟩ : y.size<=sizeLine/\k=((y.size:Int) != 0):=e;subst e';exact PySem.W.truthy_bytes (by lia) ⟨H,I.tok _,q⟩
 |ref p=>
  cases rx;have e':(∃ xs,SqL X.K H p xs/\k=!xs.isEmpty)\/(∃ xs,SqT X.K H p xs/\k=!xs.isEmpty)\/∃ kvs,H p=some (.dK kvs)/\k=!kvs.isEmpty:=e;rcases e' with⟨xs,hx,e'⟩|⟨xs,hx,e'⟩|⟨kvs,hx,e'⟩
  .subst e';obtain⟨its,r,pl,hz⟩:=I.list hx;have bJ:=r.length;exact wpAny_truthy_list pl.isList (by simp only[Mi];lia) ⟨H,I.tok _,by rw[ki r];exact q⟩
  .subst e';obtain⟨its,r,pl,hz⟩:=I.tuple hx;have bJ:=r.length;exact truthy_tuple pl (by simp only[Mi];lia) ⟨H,I.tok _,by rw[ki r];exact q⟩
  .subst e';obtain⟨hz,hS,vs,r,m⟩ : kvs.length<=sizeLine/\(p==sysModules)=false/\∃ vs,KV kvs vs/\s.heap.DictOf (ay X.prog X.w) p vs:=I.aJ p _ hx;have bJ:kvs.length=vs.length:=O1 r;exact wpAny_truthy_dict hS m (by lia) ⟨H,I.tok _,by rw[rB r];exact q⟩
 |_=>exact(show False from e).elim
theorem wO (ha:PE X a ta)(he:∀ whole,isTrue a X.env whole=(do let v <- whole;standAt a.pos;holding [v] (truthy v))) :
 PT X a (fun σ H Q=>ta σ H fun x H'=>∃ k,CW X.K x H' k/\Q k H'):=by
 intro ac s σ H Q I h;exact isTrue_plain (bO (ha ac s σ H _ I h) fun v s1 ⟨x,H1,I1,r1,q1⟩=>CY ac s1 σ H1 x v Q I1 r1 q1) (he _)
theorem fQ (r:Vals [x] us):∃ u,us=[u]/\RelV x u:=by
 cases r with
 |cons r1 r2=>cases r2;exact⟨_,rfl,r1⟩
theorem mI (r:Vals [x,y] us):∃ u w',us=[u,w']/\RelV x u/\RelV y w':=by
 cases r with
 |cons r1 r2=>
  cases r2 with
  |cons r3 r4=>cases r4;exact⟨_,_,rfl,r1,r3⟩
theorem uV (hc:X.calm=true):bn X (.builtin "max") (fun xs H Q=>∃ i j,xs=[.int i,.int j]/\Q (.int (if j>i then j else i)) H):=by
 intro ac s σ H xs us Q I r h;obtain⟨i,j,rfl,q⟩:=h;obtain⟨u,w',rfl,⟨t,rfl⟩,⟨t',rfl⟩⟩:=mI r;refine max_two_ints (I.ok.hd hc) fun h' tk k=>⟨_,H,I.kept k,?_,q⟩;by_cases hj:j>i
 .rw[Mh hj,Mh hj];exact⟨_,rfl⟩
 .rw[Mj hj,Mj hj];exact⟨_,rfl⟩
theorem uW (hc:X.calm=true):bn X (.builtin "min") (fun xs H Q=>∃ i j,xs=[.int i,.int j]/\Q (.int (if j<i then j else i)) H):=by
 intro ac s σ H xs us Q I r h;obtain⟨i,j,rfl,q⟩:=h;obtain⟨u,w',rfl,⟨t,rfl⟩,⟨t',rfl⟩⟩:=mI r;refine min_two_ints (I.ok.hd hc) fun h' tk k=>⟨_,H,I.kept k,?_,q⟩;by_cases hj:j<i
 .rw[Mh hj,Mh hj];exact⟨_,rfl⟩
 .rw[Mj hj,Mj hj];exact⟨_,rfl⟩
end
structure tj (h:Heap) (x dx C:Addr) (mA:Str->Option QS):Prop where
 obj:h.get? x=some (PySem.W.instObj C dx)
 ns:h.Ns1 dx mA
 ne:dx≠x
theorem uX {h:Heap}{mA:Str->Option QS}(n:h.Ns1 dx mA):∃ od,h.get? dx=some od/\∀ name,PySem.W.lookIn name od=some (mA name):=by
 obtain⟨o,es,ep,ho,hd,hk,_,hm⟩:=n;refine⟨o,ho,fun name=>?_⟩;have e:=hm name;unfold nsFind findBy at e;rw[<- Array.find?_toList]at e;unfold PySem.W.lookIn;rw[hd];dsimp only;split
 .rename_i y q;rw[q]at e;exact MT some e
 .rename_i q;rw[q]at e;have a:es.toList.any (·.refKey)=false:=by rw[List.any_eq_false];intro y hy;obtain⟨z,t,d7⟩:=hk y (Array.mem_toList_iff.mp hy);simp[DictEntry.refKey,d7]
  have a':¬ es.toList.any (·.refKey)=true:=by rw[a];exact MF
  rw[Mj a'];exact MT some e
theorem tj.look (I:tj h x dx C mA):∃ od,PySem.W.InstAt h x (PySem.W.instObj C dx) C (some od)/\∀ name,PySem.W.lookIn name od=some (mA name):=
 let ⟨od,ho,hl⟩:=uX I.ns
 ⟨od,⟨I.obj,rfl,rfl,ho⟩,hl⟩
section
variable {prog:QR}{w:World}{A:QT}{E:QS->QP->Prop}{s:QP}{K:QQ}{x dx C f:Addr}{mA:Str->Option QS}{name:Str}{v:QS}
theorem Am (X:K.In s.heap)(I:tj s.heap x dx C mA)(hg:PySem.W.plainGet K C name=true)(hh:PySem.W.hasDictIn K C=true)
 (ha:PySem.W.findIn K (.ref C) name=some none) (hv:mA name=some v) (hv':PySem.W.handedIn v=true) (h:Q v { s with toks:=s.toks+1 }) :
 wpAny (model prog w) A (getAttr (.ref x) name expr) Q E s:=by
 obtain⟨od,J,hl⟩:=I.look;exact PySem.W.get_value X J (Qo hg).1 (PySem.W.findObj_own hh ha rfl (by rw[hl,hv])) hv' h
theorem wQ (X:K.In s.heap)(I:tj s.heap x dx C mA)(hg:PySem.W.plainGet K C name=true)
 (hf:PySem.W.findIn K (.ref C) name=some (some (.ref f))) (ht:PySem.W.isFn K (.ref f)=true) (hv:mA name=none) (h:Q (.ref f,[.ref x]) s) :
 wpAny (model prog w) A (getMethod (.ref x) name pl) Q E s:=by
 obtain⟨od,J,hl⟩:=I.look;exact PySem.W.method_fn X J (Qo hg).1 (Qo hg).2 hf (Pq.mp ht) (by show(PySem.W.lookIn name od).map (·.isSome)=some false;rw[hl,hv];rfl) h
theorem An (X:K.In s.heap)(I:tj s.heap x dx C mA)
 (hs:PySem.W.findIn K (.ref C) "__setattr__"=some (some (.builtin "object.__setattr__"))) (hp:PySem.W.plainOver K C=true) (ht:PySem.W.takerIn K C name=some none) (hh:PySem.W.hasDictIn K C=true)
 (hw:PySem.Within mA ns) (hsz:ns.length<=sizeLine)
 (h:∀ h',tj h' x dx C (fun y=>if y=name then some v else mA y)->Heap.SameBut dx s.heap h'->Q () { s with heap:=h',toks:=s.toks+2 }) :
 wpAny (model prog w) A (setAttr (.ref x) name v) Q E s:=by
 obtain⟨od,J,hl⟩:=I.look;refine PySem.W.set_plain X J hs (PySem.W.osa_open (s:={ s with toks:=s.toks+1 }) (r:=none) X J hp ht fun b=>?_);obtain⟨cd,hc,hd'⟩:=PySem.W.any_some hh;have hx:s.heap.get? x=some ⟨.ref C,some dx,.plain,#[]⟩:=I.obj;refine KE (L_ (KE (KE (wpAny_loadPart hx (KE (PySem.W.Looks.here (s:={ s with toks:=s.toks+1 }) (PySem.W.looks_clsIn X hc) ?_))))));rw[hd'];refine L_ (a:=some dx) (KE (L_ (KE ?_)));refine wpAny_nsSet1 (s:={ s with toks:=s.toks+1 }) I.ns fun h' hn2 hs2=>?_;obtain⟨oD,esD,epD,hoD,hdD,hcD⟩:=hn2.count (PySem.Within.cons name v hw);refine KE (wpAny_lookBehind hoD (by rw[hdD];exact pastItsLine_dict (Mq hcD (by rw[Nl];lia))) ?_);exact L_ (h _ ⟨(hs2.2 _ (Ol I.ne)).trans I.obj,hn2,I.ne⟩ hs2)
theorem wR (X:K.In s.heap)(hm:PySem.W.makesIn K C=true)
 (hi:PySem.W.findIn K (.ref C) "__init__"=some (some (.ref f))) (hf:PySem.W.typeIn K (.ref f)=some (.type "function"))
 (h:codeAny (model prog w) (A.under (.builtin "type.__call__" ⟨.ref C::vs,kw⟩)) (.call (.ref f) ⟨.ref (s.heap.objs.size+1)::vs,kw⟩) (PySem.W.InitBack (s.heap.objs.size+1) R)
   { s with heap:=(s.heap.push PySem.W.emptyDict).push (PySem.W.instObj C s.heap.objs.size) }) :
 codeAny (model prog w) A (.call (.ref C) ⟨vs,kw⟩) R s:=by
 obtain⟨hh,g,d,t,os⟩:=s;exact PySem.W.make_core (PySem.W.makes_of X hm) (PySem.W.looks_findIn X hi) (fun self=>PySem.W.bind_fn X self hf) (.inl rfl) h
end
noncomputable def fU (f:Str)(v:V):List (Str×V)->List (Str×V)
 | []=>[(f,v)]
 |(g,x)::r=>if g=f then (g,v)::r else (g,x)::fU f v r
theorem jv (f g:Str)(v:V):∀ fs:List (Str×V),(fU f v fs).lookup g=if g=f then some v else fs.lookup g
 | []=>by
  show List.lookup g [(f,v)]=_
  grind
 |(k,x)::r=>by
  have ih:=jv f g v r
  grind [fU]
theorem i5 (f:Str)(v:V):∀ fs:List (Str×V),f∈(fU f v fs).map (·.1)/\∀ g,g∈fs.map (·.1)->g∈(fU f v fs).map (·.1)
 | []=>⟨by simp[fU],fun g h=>by simp at h⟩
 |(k,x)::r=>by
  obtain⟨i1,i2⟩:=i5 f v r
  grind [fU]
theorem jw (f:Str)(v:V):∀ fs:List (Str×V),(fU f v fs).length<=fs.length+1
 | []=>by simp[fU]
 |(k,x)::r=>by
  have ih:=jw f v r;rw[show fU f v ((k,x)::r)=(if k=f then (k,v)::r else (k,x)::fU f v r) from rfl];by_cases hk:k=f
  .rw[Mh hk,Nl,Nl];lia
  .rw[Mj hk,Nl,Nl];lia
theorem RelO.some_of (r:RelO (some v) o):∃ u,o=some u/\RelV v u:=by
 cases o with
 |none=>exact(show False from r).elim
 |some u=>exact⟨u,rfl,r⟩
theorem RelO.none_of (r:RelO none o):o=none:=by
 cases o with
 |none=>rfl
 |some u=>exact(show False from r).elim
theorem uY (r:RelV v u):PySem.W.handedIn u=true:=by
 cases v with
 |bS=>cases (show u=Value.none from r);rfl
 |bl b=>cases (show u=Value.bool b from r);rfl
 |int i=>obtain⟨t,e⟩:=(show ∃ t,u=Value.int i t from r);cases e;rfl
 |str x=>obtain⟨t,e⟩:=(show ∃ t,u=Value.str x t from r);cases e;rfl
 |uP b=>obtain⟨t,e⟩:=(show ∃ t,u=Value.bytes b t from r);cases e;rfl
 |Fa b=>obtain⟨t,e⟩:=(show ∃ t,u=Value.float b t from r);cases e;rfl
 |ref a=>cases (show u=Value.ref a from r);rfl
 |ty n=>cases (show u=Value.type n from r);rfl
section
theorem jP (aJ:HOk P w H h)(e:H a=some (.ins C dx fs)):∃ mA,tj h a dx C mA/\(∀ f,RelO (fs.lookup f) (mA f))/\PySem.Within mA (fs.map (·.1))/\fs.length<=1000/\H dx=some (.own a):=by obtain⟨d,z,ne,ob,mA,n,r,q⟩:=(show ObjOk P w H h a (.ins C dx fs) from aJ a _ e);exact⟨mA,⟨ob,n,ne⟩,r,q,z,d⟩
end
structure rb (K:QQ) (C:Addr):Prop where
 pg:PySem.W.plainGet K C Str.empty=true
 hd:PySem.W.hasDictIn K C=true
 po:PySem.W.plainOver K C=true
 sa:PySem.W.findIn K (.ref C) "__setattr__"=some (some (.builtin "object.__setattr__"))
theorem rb.get {K:QQ}(c:rb K C)(f:Str):PySem.W.plainGet K C f=true:=c.pg
def NoAttr (K:QQ)(C:Addr)(f:Str):Prop:=PySem.W.findIn K (.ref C) f=some none
theorem NoAttr.taker {K:QQ}(n:NoAttr K C f):PySem.W.takerIn K C f=some none:=by unfold PySem.W.takerIn;rw[show PySem.W.findIn K (.ref C) f=some none from n];rfl
structure Meth (K:QQ) (C:Addr) (m:Str) (f:Addr):Prop where
 at_:PySem.W.findIn K (.ref C) m=some (some (.ref f))
 fn:PySem.W.isFn K (.ref f)=true
 kp:PySem.W.keepIn K (.ref f)=true
section
theorem rC (I:Inv X ac σ H s)(e:H a=some (.ins C dx fs))(c:rb X.K C)(n:NoAttr X.K C f)(l:fs.lookup f=some v)
 (h:∀ u s',Inv X ac σ H s'->RelV v u->Q u s'):wpAny (model X.prog X.w) A (getAttr (.ref a) f b) Q E s:=by
 obtain⟨mA,O,r,_,_,_⟩:=jP I.aJ e;obtain⟨u,hu,ru⟩:=RelO.some_of (v:=v) (o:=mA f) (by rw[<- l];exact r f);exact Am I.f6 O (c.get f) c.hd n hu (uY ru) (h u _ (I.tok _) ru)
theorem kj (I:Inv X ac σ H s)(e:H a=some (.ins C dx fs))(c:rb X.K C)(k:Meth X.K C m g)(l:fs.lookup m=none)
 (h:Q (.ref g,[.ref a]) s):wpAny (model X.prog X.w) A (getMethod (.ref a) m pl) Q E s:=by
 obtain⟨mA,O,r,_,_,_⟩:=jP I.aJ e;have hn:mA m=none:=RelO.none_of (by rw[<- l];exact r m);exact wQ I.f6 O (c.get m) k.at_ k.fn hn h
theorem rD (I:Inv X ac σ H s)(e:H a=some (.ins C dx fs))(c:rb X.K C)(n:NoAttr X.K C f)(hl:fs.length<1000)(ry:RelV y u)
 (h:∀ s',Inv X ac σ (upd H a (.ins C dx (fU f y fs))) s'->Q () s'):wpAny (model X.prog X.w) A (setAttr (.ref a) f u) Q E s:=by
 obtain⟨mA,O,r,wi,_,ho⟩:=jP I.aJ e;have hz:(fs.map (·.1)).length<=sizeLine:=by rw[Me,MV];lia
 refine An I.f6 O c.sa c.po n.taker c.hd wi hz fun h' O' sb=>h _ ?_;have hd:∃ o,h'.get? dx=some o:=let ⟨o,_,_,e',_⟩:=O'.ns;⟨o,e'⟩;refine I.write (x:=a) (e:=dx) (by rw[e];exact True.intro) (.inr ho) (fun b q hb z=>(sb.2 b hb).trans z) hd ?_;refine⟨by rw[aA O.ne];exact ho,?_,O.ne,O'.obj,_,O'.ns,fun g=>?_,fun g hg=>?_⟩
 .have:=jw f y fs;lia
 .grind [RelO,fU,jv]
 .by_cases q:g=f
  .rw[q];exact(i5 f y fs).1
  .refine(i5 f y fs).2 g (wi g fun z=>hg ?_);show(if g=f then some u else mA g)=none;rw[Mj q];exact z
theorem Inv.made (I:Inv X ac σ H s):Inv X ac σ (upd (upd H s.heap.objs.size (.own (s.heap.objs.size+1))) (s.heap.objs.size+1) (.ins C s.heap.objs.size []))
 { s with heap:=(s.heap.push PySem.W.emptyDict).push (PySem.W.instObj C s.heap.objs.size) }:=by
 have e1:(s.heap.push PySem.W.emptyDict).get? s.heap.objs.size=some PySem.W.emptyDict:=Mm s.heap rfl;have e2:((s.heap.push PySem.W.emptyDict).push (PySem.W.instObj C s.heap.objs.size)).get? (s.heap.objs.size+1)=some (PySem.W.instObj C s.heap.objs.size):=by
  have:=Mm (s.heap.push PySem.W.emptyDict) (o:=PySem.W.instObj C s.heap.objs.size) rfl
  rwa [Pe]at this
 have e3:(s.heap.push PySem.W.emptyDict).Ns s.heap.objs.size (fun _=>none):=⟨PySem.W.emptyDict,#[],_,e1,rfl,(fun e he=>absurd he (by simp)),fun _=>rfl⟩;have I1:=I.laid (a:=s.heap.objs.size) (o:=.own (s.heap.objs.size+1)) (h':=s.heap.push PySem.W.emptyDict) (t':=s.toks) (fun b u q=>Mb _ q) (Mc _) ⟨_,e1⟩;refine I1.laid (a:=s.heap.objs.size+1) (o:=.ins C s.heap.objs.size []) (t':=s.toks) (fun b u q=>Mb _ q) (Nat.le_of_eq (Pe _ _)) ?_;have ne:s.heap.objs.size≠s.heap.objs.size+1:=MS (Pj _);refine⟨by rw[aA ne,ah],ML _,ne,e2,fun _=>none,(Heap.Ns1.of_empty e3).at fun o q=>Mb _ q,fun _=>True.intro,fun y hy=>absurd rfl hy⟩
theorem Ao (hb:attributeBase e f env (eval e env)=eval e env)
 (h:wpAny (model prog w) A (eval e env) (fun o s₁=>wpAny (model prog w) A (getAttr o f true) Q E s₁) E s):wpAny (model prog w) A (eval (.Attribute e f pos) env) Q E s:=
 Attribute_any_ h (by rw[arm_eval_Attribute,hb])
end
def eS (K:QQ)(ta:TE)(f:Str):TE:=fun σ H Q=>ta σ H fun x H1=>∃ a C dx fs v,x=.ref a/\H1 a=some (.ins C dx fs)/\rb K C/\NoAttr K C f/\fs.lookup f=some v/\Q v H1
def pF (K:QQ)(ta tv:TE)(f:Str):TS:=fun D σ H=>tv σ H fun y H1=>ta σ H1 fun x H2=>∃ a C dx fs,x=.ref a/\H2 a=some (.ins C dx fs)/\rb K C/\NoAttr K C f/\fs.length<1000/\
 D.nx σ (upd H2 a (.ins C dx (fU f y fs)))
section
theorem bM (he:PE X e ta)(hb:attributeBase e f X.env (eval e X.env)=eval e X.env):PE X (.Attribute e f pos) (eS X.K ta f):=by intro ac s σ H Q I h;refine Ao hb (bO (he ac s σ H _ I h) fun u s1 z=>?_);obtain⟨x,H1,I1,rx,a,C,dx,fs,v,rfl,ea,c,n,l,q⟩:=z;obtain rfl:u=Value.ref a:=rx;exact rC I1 ea c n l fun u' s2 I2 ru=>⟨v,H1,I2,ru,q⟩
theorem gZ (ha:PE X o ta)(hv:PE X value tv)(hs:swapsWith value (some (.Attribute o f pos')) pos.line X.env=pure false):PS X (.Assign [.Attribute o f pos'] value pos) (pF X.K ta tv f):=by intro ac s σ H D I h;refine plainObj_wpAny_Assign_Attribute (bO (hv ac s σ H _ I h) fun u s1 ⟨y,H1,I1,ry,q⟩=>bO (ha ac s1 σ H1 _ I1 q) fun ov s2 z=>?_) hs;obtain⟨x,H2,I2,rx,a,C,dx,fs,rfl,ea,c,n,l,q2⟩:=z;obtain rfl:ov=Value.ref a:=rx;exact rD I2 ea c n l ry fun s3 I3=>⟨σ,_,I3,q2⟩
end
section
inductive jt (K:QQ) (H:Hp):V->QS->Prop where
 |bS:jt K H .bS (.type "NoneType")
 |bl (x:Bool):jt K H (.bl x) (.type "bool")
 |int (i:Int):jt K H (.int i) (.type "int")
 |str (x:Str):jt K H (.str x) (.type "str")
 |Fa (x:UInt64):jt K H (.Fa x) (.type "float")
 |lst {a:Addr} {xs:List V} (e:H a=some (.lst xs)):jt K H (.ref a) (.type "list")
 |bQ {a:Addr} {o:Obj} {xs:List V} (e:H a=some (.bQ o (.lst xs))):jt K H (.ref a) (.type "list")
 |tup {a:Addr} {xs:List V} (e:H a=some (.tup xs)):jt K H (.ref a) (.type "tuple")
 |dK {a:Addr} {kvs:List (bh×V)} (e:H a=some (.dK kvs)):jt K H (.ref a) (.type "dict")
 |dT {a:Addr} {kvs:List (List bh×V)} (e:H a=some (.dT kvs)):jt K H (.ref a) (.type "dict")
 |ins {a C dx:Addr} {fs:List (Str×V)} (e:H a=some (.ins C dx fs)) (cl:rb K C) (ha:PySem.W.findIn K (.ref C) "__class__"=some (some (.builtin "object.__class__")))
  (hn:PySem.W.specialIn K (.builtin "object.__class__") "__get__"=some (some (.builtin "getset_descriptor.__get__"))) (htk:PySem.W.takesIn K (.builtin "object.__class__")=some true)
  (hm:PySem.W.mroIn K C (.type "object")=some true):jt K H (.ref a) (.ref C)
theorem uZ (I:Inv X ac σ H s)(rx:RelV x u)(ty:jt X.K H x t)(e:PySem.W.kitOne X.K t c=some b)(h:∀ tk,Q (.bool b) { s with toks:=tk }) :
 wpAny (model X.prog X.w) A (call (.builtin "isinstance") [u,c]) Q E s:=by
 cases ty with
 |bS=>cases (show u=Value.none from rx);exact NN PySem.W.kitx_none I.f6 True.intro e (fun z=>nomatch z) h
 |bl y=>cases (show u=Value.bool y from rx);exact NN PySem.W.kitx_bool I.f6 True.intro e (fun z=>nomatch z) h
 |int i=>obtain⟨t,q⟩:=(show ∃ t,u=Value.int i t from rx);cases q;exact NN PySem.W.kitx_int I.f6 True.intro e (fun z=>nomatch z) h
 |str y=>obtain⟨t,q⟩:=(show ∃ t,u=Value.str y t from rx);cases q;exact NN PySem.W.kitx_str I.f6 True.intro e (fun z=>nomatch z) h
 |Fa y=>obtain⟨t,q⟩:=(show ∃ t,u=Value.float y t from rx);cases q;exact NN PySem.W.kitx_float I.f6 True.intro e (fun z=>nomatch z) h
 | @lst a xs ea=>cases (show u=Value.ref a from rx);obtain⟨_,_,n,_,h1⟩:=(show ObjOk X.prog X.w H s.heap a (.lst xs) from I.aJ a _ ea);exact NN PySem.W.kitx_list I.f6 ⟨_,h1,rfl⟩ e (fun z=>nomatch z) h
 | @bQ a ob xs ea=>cases (show u=Value.ref a from rx);obtain⟨_,_,_,n,_,h1⟩:=(show ObjOk X.prog X.w H s.heap a (.bQ ob (.lst xs)) from I.aJ a _ ea);exact NN PySem.W.kitx_list I.f6 ⟨_,h1,rfl⟩ e (fun z=>nomatch z) h
 | @tup a xs ea=>cases (show u=Value.ref a from rx);obtain⟨_,_,_,p⟩:=(show ObjOk X.prog X.w H s.heap a (.tup xs) from I.aJ a _ ea);obtain⟨o,h1,h2,_⟩:=p;exact NN PySem.W.kitx_tuple I.f6 ⟨o,h1,h2⟩ e (fun z=>nomatch z) h
 | @dK a kvs ea=>cases (show u=Value.ref a from rx);obtain⟨_,_,vs,_,p⟩:=(show ObjOk X.prog X.w H s.heap a (.dK kvs) from I.aJ a _ ea);obtain⟨o,es,ep,h1,h2,_⟩:=p;exact NN QA I.f6 ⟨o,h1,h2.1⟩ e (fun z=>nomatch z) h
 | @dT a kvs ea=>cases (show u=Value.ref a from rx);obtain⟨_,_,xs,_,o,es,ep,h1,h2,_⟩:=(show ObjOk X.prog X.w H s.heap a (.dT kvs) from I.aJ a _ ea);exact NN QA I.f6 ⟨o,h1,h2.1⟩ e (fun z=>nomatch z) h
 | @ins a C dx fs ea cl ha hn htk hm=>cases (show u=Value.ref a from rx);obtain⟨mA,O,_⟩:=jP I.aJ ea;obtain⟨od,J,_⟩:=O.look;exact NN (PySem.W.kitx_own (cl.get _) cl.hd ha hn htk hm) I.f6 J e (fun z=>nomatch z) h
end
structure cP (k:Nat) (A:QT):Prop where
 hd:A.handled=none
 dp:A.depth+3*k+5<recursionLimit
 un:A.units+16*k+200<cLine
theorem cP.mono (r:cP k A)(h:j<=k):cP j A:=⟨r.hd,by have:=r.dp;lia,by have:=r.un;lia⟩
theorem cP.deeper (r:cP (k+1) A)(env:Env):cP k (A.deeper env):=⟨r.hd,by have:=r.dp;show A.depth+1+3*k+5<_;lia,by have:=r.un;show A.units+3+16*k+200<_;lia⟩
theorem rE {A:QT} {C:Addr}:(A.under (.builtin "type.__call__" ⟨.ref C::us,kw⟩)).depth=A.depth+1:=by
 first|rfl|simp[Around.under,Code.weight,Code.isCreation,Code.isGuard,Code.isCaller,Code.frames,Code.isFrame,guardIds]
theorem rF {A:QT} {C:Addr}:(A.under (.builtin "type.__call__" ⟨.ref C::us,kw⟩)).units=A.units+1:=by
 first|rfl|simp[Around.under,Code.cUnits,Code.frames,Code.isFrame]
theorem cP.make (r:cP (k+1) A) (C:Addr) (us:List QS) (kw:List (Str×QS)):cP k (A.under (.builtin "type.__call__" ⟨.ref C::us,kw⟩)):=⟨r.hd,by have:=r.dp;rw[rE];lia,by have:=r.un;rw[rF];lia⟩
theorem cP.depth (r:cP k A):A.depth<recursionLimit:=by have:=r.dp;lia
theorem cP.units (r:cP k A):A.units+64<cLine:=by have:=r.un;lia
noncomputable def aF:TA:=fun _ H Q=>Q [] H
noncomputable def ag (ta:TE)(tr:TA):TA:=fun σ H Q=>ta σ H fun x H1=>tr σ H1 fun xs H2=>Q (x::xs) H2
section
theorem aw:PA X [] aF:=fun _ _ _ _ H Q I h=>Calls.spliced_nil ⟨[],H,I,.nil,h⟩
theorem af (ha:PE X e te)(hr:PA X es t)(hs:autoParam (starEach (e::es) X.env=(false,eval e X.env)::starEach es X.env) QZ._auto_1):PA X (e::es) (ag te t):=by intro pos ac s σ H Q I h;rw[hs];show wpAny _ _ (spliced ((false,eval e X.env)::backTo pos (starEach es X.env))) _ _ s;refine Calls.spliced_cons (bO (ha ac s σ H _ I h) fun u s1 ⟨x,H1,I1,r1,q1⟩=>?_);exact bO (hr pos ac s1 σ H1 _ I1 q1) fun us s2 ⟨xs,H2,I2,r2,q2⟩=>⟨x::xs,H2,I2,.cons r1 r2,q2⟩
def cD (t:TA):TE:=fun σ H Q=>t σ H fun xs H1=>xs.length<=sizeLine/\∀ p,H1 p=none->Q (.ref p) (upd H1 p (.tup xs))
def wU (t:TA):TE:=fun σ H Q=>t σ H fun xs H1=>xs.length<=sizeLine/\∀ p,H1 p=none->Q (.ref p) (upd H1 p (.lst xs))
theorem bI {x1}(h:PA X es t):PE X (.Tuple es x1 pos) (cD t):=by intro ac s σ H Q I hq;refine wpAny_Tuple_spliced (bO (h pos ac s σ H _ I hq) fun us s1 ⟨xs,H1,I1,r,z,q⟩=>⟨by rw[<- r.length];exact z,?_⟩);have hf:H1 s1.heap.objs.size=none:=I1.aJ.fresh (Mc _);refine⟨.ref s1.heap.objs.size,upd H1 s1.heap.objs.size (.tup xs),I1.laid (t':=s1.toks) (fun b u e=>Mb _ e) (Mc _) ?_,rfl,q _ hf⟩;exact⟨z,us,r,⟨_,Mm _ rfl,rfl,_,rfl⟩⟩
theorem nN (h:PA X es t):PE X (.List es pos) (wU t):=by intro ac s σ H Q I hq;refine wpAny_List_spliced (bO (h pos ac s σ H _ I hq) fun us s1 ⟨xs,H1,I1,r,z,q⟩=>⟨by rw[<- r.length];exact z,?_⟩);have hf:H1 s1.heap.objs.size=none:=I1.aJ.fresh (Mc _);refine⟨.ref s1.heap.objs.size,upd H1 s1.heap.objs.size (.lst xs),I1.laid (t':=s1.toks) (fun b u e=>Mb _ e) (Mc _) ?_,rfl,q _ hf⟩;exact⟨z,us,0,r,Mm _ rfl⟩
end
abbrev Sp:=List V->Hp->VK->XK->Prop
abbrev wV:=List Env->Hp->QP->XK->QS->QP->Prop
structure tq (P:QR) (w:World) (K:QQ) (mg:Str->Option QS) (base:Heap) (A:QT) (outer:List Env) (s:QP) (H:Hp):Prop where
 frames:A.frames=some outer
 mod:Mod K mg base
 bs:∀ b o,base.get? b=some o->s.heap.get? b=some o/\H b=none
 zE:base.objs.size<=s.heap.objs.size
 iZ:s.heap.FunFrames base outer
 BQ:∀ b∈f7 outer,H b=none
 aJ:HOk P w H s.heap
 bare:AllBare s.gens
 kt:Ip K H
def CE (outer:List Env)(P:QR)(w:World)(H:Hp)(s:QP)(Q:VK)(u:QS)(s':QP):Prop:=∃ v H',s'.os=s.os/\AllBare s'.gens/\Un (f7 outer) [] H H' s.heap s'.heap/\HOk P w H' s'.heap/\RelV v u/\Q v H'
def CR (CX:wV)(outer:List Env)(P:QR)(w:World)(H:Hp)(s:QP)(Q:VK)(E:XK)(r:Result)(s':QP):Prop:=
 match r with
 | .ok (.ret u)=>CE outer P w H s Q u s'
 | .ok _=>False
 | .error e=>CX outer H s E e s'
structure bD (P:QR) (w:World) (K:QQ) (mg:Str->Option QS) (base:Heap) (CX:wV) (k:Nat) (f:Addr) (fd:FuncData) (ps:List Str) (sp:Sp):Prop where
 len:∀ vs H Q E,sp vs H Q E->vs.length=ps.length
 run:∀(A:QT)(outer:List Env)(s:QP)(H:Hp)(args:Args)(us:List QS)(vs:List V)(Q:VK)(E:XK),cP k A->tq P w K mg base A outer s H->BindsTo s fd args (ps.zip us)->Vals vs us->sp vs H Q E->
  codeAny (model P w) A (.call (.ref f) args) (CR CX outer P w H s Q E) s
theorem bD.imp {P:QR}{w:World}{K:QQ}{mg:Str->Option QS}{base:Heap}{CX:wV}(F:bD P w K mg base CX k f fd ps sp)
 (h:∀ vs H Q E,sp' vs H Q E->sp vs H Q E):bD P w K mg base CX k f fd ps sp':=
 ⟨fun vs H Q E q=>F.len vs H Q E (h _ _ _ _ q),fun A outer s H args us vs Q E hr he hb hv hs=>F.run A outer s H args us vs Q E hr he hb hv (h _ _ _ _ hs)⟩
theorem tq.make {P:QR}{w:World}{K:QQ}{mg:Str->Option QS}{base:Heap}(e:tq P w K mg base A outer s H)(C:Addr)(us:List QS)(kw:List (Str×QS)) :
 tq P w K mg base (A.under (.builtin "type.__call__" ⟨.ref C::us,kw⟩)) outer s H:=⟨by first|exact e.frames|(simpa[Around.under,Code.envs,Code.isFrame,pushEnvs] using e.frames),e.mod,e.bs,e.zE,e.iZ,e.BQ,e.aJ,e.bare,e.kt⟩
section
theorem Inv.E5 (I:Inv X ac σ H s):tq X.prog X.w X.K X.mg X.base X.A X.stack s H:=⟨I.ok.frames,I.ok.mod,I.bs,Mq I.ok.zE I.sz,I.stack,I.oZ,I.aJ,I.bare,I.kt⟩
theorem Inv.after (I:Inv X ac σ H s)(h:CE X.stack X.prog X.w H s Q u s'):EP X ac σ Q u s':=by obtain⟨v,H',os,bare,un,aJ,r,q⟩:=h;obtain⟨hh,g,d,t,os'⟩:=s';obtain rfl:os'=s.os:=os;exact⟨v,H',I.call (h':=hh) (g':=g) (d':=d) (t':=t) (ch:=[]) un aJ bare (fun b z=>absurd z (by simp)),r,q⟩
end
noncomputable def cn (sp:Sp)(dvs:List V)(E:XK)(t:TA):TE:=fun σ H Q=>t σ H fun vs H1=>sp (vs++dvs) H1 Q E
def dL (C:Addr)(m:Str)(sp:Sp)(dvs:List V)(E:XK)(ta:TE)(t:TA):TE:=fun σ H Q=>ta σ H fun x H1=>∃ a dx fs,x=.ref a/\H1 a=some (.ins C dx fs)/\fs.lookup m=none/\
 t σ H1 fun vs H2=>sp (x::(vs++dvs)) H2 Q E
def BZ (C:Addr)(sp:Sp)(dvs:List V)(E:XK)(t:TA):TE:=fun σ H Q=>t σ H fun vs H1=>∀ x dx,H1 x=none->H1 dx=none->dx≠x->
 sp (.ref x::(vs++dvs)) (upd (upd H1 dx (.own x)) x (.ins C dx [])) (fun v H2=>v=.bS/\Q (.ref x) H2) E
def Binds (K:QQ)(fd:FuncData)(ps:List Str)(ds:List QS):Prop:=∀(s:QP)(us:List QS),K.In s.heap->(us++ds).length=ps.length->BindsTo s fd ⟨us,[]⟩ (ps.zip (us++ds))
theorem Binds.all {K:QQ}(h:∀ us:List QS,us.length=ps.length->bindArgs fd ⟨us,[]⟩=pure (ps.zip us)):Binds K fd ps []:=fun s us _ hl=>by rw[Ob]at hl ⊢;exact .of_eq (h us hl)
def ga (CX:wV)(X:Cx)(E:XK):Prop:=∀(ac:List (Addr×Obj))(σ:St)(H:Hp)(s:QP)(e:QS)(s':QP),Inv X ac σ H s->CX X.stack H s E e s'->X.xe e s'
section
theorem rG (F:bD X.prog X.w X.K X.mg X.base CX k f fd ps sp)(hr:cP k X.A)(hb:Binds X.K fd ps ds)(hd:Vals dvs ds)(hx:ga CX X E)
 (I:Inv X ac σ H s) (r:Vals vs us) (h:sp (vs++dvs) H Q E):wX X (call (.ref f) us) (EP X ac σ Q) X.xe s:=by
 have r2:Vals (vs++dvs) (us++ds):=r.append hd;have hl:(us++ds).length=ps.length:=by rw[<- r2.length];exact F.len _ _ _ _ h
 refine wpAny_call (Ps (F.run X.A X.stack s H ⟨us,[]⟩ (us++ds) (vs++dvs) Q E hr I.E5 (hb s us I.f6 hl) r2 h) fun r s' hq=>?_);cases r with
 |error e=>exact hx ac σ H s e s' I hq
 |ok fl=>
  cases fl with
  |ret u=>exact I.after hq
  |next=>exact False.elim hq
  |brk=>exact False.elim hq
  |cont=>exact False.elim hq
theorem be (F:bD X.prog X.w X.K X.mg X.base CX k f fd ps sp)(hr:cP k X.A)(hg:Gl X x)(hm:X.mg x=some (.ref f))(hk:PySem.W.keepIn X.K (.ref f)=true)(hb:Binds X.K fd ps ds)(hd:Vals dvs ds)(hx:ga CX X E)
 (ha:PA X (e::es) t) (hdb:autoParam (dB x) QU._auto_1) (he:autoParam (sE X e es) QZ._auto_1) (hpl:autoParam (bT X pos es) QZ._auto_1) :
 PE X (.Call (.Name x p) (e::es) [] pos) (cn sp dvs E t):=by
 intro ac s σ H Q I h;refine OU (h9 I hg hm ?_ hdb);refine Px (h₀:=X.base) I.ok.mod.EO hk (bO (ha pos ac s σ H _ I h) fun us s1 ⟨vs,H1,I1,r,q⟩=>⟨I1.f6,?_⟩) he hpl;exact rG F hr hb hd hx I1 r q
theorem dq (he:PE X o ta)(c:rb X.K C)(hm:Meth X.K C m f)(F:bD X.prog X.w X.K X.mg X.base CX k f fd ps sp)(hr:cP k X.A)(hb:Binds X.K fd ps ds)(hd:Vals dvs ds)(hx:ga CX X E)(ha:PA X (e::es) t)
 (hst:autoParam (starEach (e::es) X.env=(false,eval e X.env)::starEach es X.env) QZ._auto_1) (hpl:autoParam (bT X pos es) QZ._auto_1)
 (ht:autoParam (eval (.Call (.Attribute o m apos) (e::es) [] pos) X.env=(do
   let ov <- eval o X.env
   standAt apos.atName
   let (f,first) <- holding [ov] (getMethod ov m pl)
   callWith pos f first (backTo pos (starEach (e::es) X.env)) (backToKw pos (keywordEach [] X.env)))) QZ._auto_1) :
 PE X (.Call (.Attribute o m apos) (e::es) [] pos) (dL C m sp dvs E ta t):=by
 intro ac s σ H Q I h;refine PySem.W.methodCall_KW (pl:=pl) (bO (he ac s σ H _ I h) fun u s1 z=>?_) ht;obtain⟨x,H1,I1,rx,a,dx,fs,rfl,ea,l,q⟩:=z;obtain rfl:u=Value.ref a:=rx;refine kj I1 ea c hm l ?_;refine Px (first:=[.ref a]) (h₀:=X.base) I.ok.mod.EO hm.kp (bO (ha pos ac s1 σ H1 _ I1 q) fun us s2 ⟨vs,H2,I2,r,q2⟩=>⟨I2.f6,?_⟩) hst hpl;exact rG (us:=.ref a::us) (vs:=.ref a::vs) F hr hb hd hx I2 (.cons rfl r) q2
theorem pG (he:PE X o ta)(c:rb X.K C)(hm:Meth X.K C m f)(F:bD X.prog X.w X.K X.mg X.base CX k f fd ps sp)(hr:cP k X.A)(hb:Binds X.K fd ps ds)(hd:Vals dvs ds)(hx:ga CX X E)
 (ht:autoParam (eval (.Call (.Attribute o m apos) [] [] pos) X.env=(do
   let ov <- eval o X.env
   standAt apos.atName
   let (f,first) <- holding [ov] (getMethod ov m pl)
   callWith pos f first (backTo pos (starEach [] X.env)) (backToKw pos (keywordEach [] X.env)))) QZ._auto_1) :
 PE X (.Call (.Attribute o m apos) [] [] pos) (dL C m sp dvs E ta aF):=by
 intro ac s σ H Q I h;refine PySem.W.methodCall_KW (pl:=pl) (bO (he ac s σ H _ I h) fun u s1 z=>?_) ht;obtain⟨x,H1,I1,rx,a,dx,fs,rfl,ea,l,q⟩:=z;obtain rfl:u=Value.ref a:=rx;refine kj I1 ea c hm l ?_;exact PySem.W.callWith_K0 (first:=[.ref a]) I1.f6 hm.kp (rG (us:=[.ref a]) (vs:=[.ref a]) F hr hb hd hx I1 (.cons rfl .nil) q)
structure Mk (K:QQ) (C f:Addr):Prop where
 makes:PySem.W.makesIn K C=true
 init:PySem.W.findIn K (.ref C) "__init__"=some (some (.ref f))
 fn:PySem.W.isFn K (.ref f)=true
 kp:PySem.W.keepIn K (.ref C)=true
theorem wW (M:Mk X.K C f)(F:bD X.prog X.w X.K X.mg X.base CX k f fd ps sp)(hr:cP (k+1) X.A)(hb:Binds X.K fd ps ds)(hd:Vals dvs ds)
 (hx:ga CX X E) (I:Inv X ac σ H s) (r:Vals vs us)
 (h:∀ x dx,H x=none->H dx=none->dx≠x->sp (.ref x::(vs++dvs)) (upd (upd H dx (.own x)) x (.ins C dx [])) (fun v H2=>v=.bS/\Q (.ref x) H2) E) :
 wX X (call (.ref C) us) (EP X ac σ Q) X.xe s:=by
 have hq:=h (s.heap.objs.size+1) s.heap.objs.size (I.aJ.fresh (Nat.le_succ _)) (I.aJ.fresh (Mc _)) (MS (Pj _));have I2:=Inv.made (C:=C) I;have r2:Vals (V.ref (s.heap.objs.size+1)::(vs++dvs)) (Value.ref (s.heap.objs.size+1)::(us++ds)):=.cons rfl (r.append hd);have hl:(Value.ref (s.heap.objs.size+1)::us++ds).length=ps.length:=by have e:=r2.length;rw[F.len _ _ _ _ hq]at e;exact e.symm
 refine wpAny_call (wR (f:=f) I.f6 M.makes M.init (Pq.mp M.fn) (Ps (F.run _ X.stack _ _ ⟨Value.ref (s.heap.objs.size+1)::us,[]⟩ (Value.ref (s.heap.objs.size+1)::(us++ds)) _ _ E (hr.make C us [])
  (I2.E5.make C us []) (hb _ (Value.ref (s.heap.objs.size+1)::us) I2.f6 hl) r2 hq) fun r s' hq'=>?_))
 cases r with
 |error e=>exact hx ac σ _ _ e s' I2 hq'
 |ok fl=>
  cases fl with
  |ret u=>obtain⟨v,H',I3,rv,ev,q3⟩:=I2.after hq';subst ev;exact⟨rv,⟨V.ref (s.heap.objs.size+1),H',I3,rfl,q3⟩⟩
  |next=>exact False.elim hq'
  |brk=>exact False.elim hq'
  |cont=>exact False.elim hq'
theorem Ap (M:Mk X.K C f)(F:bD X.prog X.w X.K X.mg X.base CX k f fd ps sp)(hr:cP (k+1) X.A)(hg:Gl X x)(hm:X.mg x=some (.ref C))(hb:Binds X.K fd ps ds)(hd:Vals dvs ds)(hx:ga CX X E)
 (ha:PA X (e::es) t) (hdb:autoParam (dB x) QU._auto_1) (he:autoParam (sE X e es) QZ._auto_1) (hpl:autoParam (bT X pos es) QZ._auto_1) :
 PE X (.Call (.Name x p) (e::es) [] pos) (BZ C sp dvs E t):=by
 intro ac s σ H Q I h;refine OU (h9 I hg hm ?_ hdb);refine Px (h₀:=X.base) I.ok.mod.EO M.kp (bO (ha pos ac s σ H _ I h) fun us s1 ⟨vs,H1,I1,r,q⟩=>⟨I1.f6,?_⟩) he hpl;exact wW M F hr hb hd hx I1 r q
end
structure aR (N P:List Str) (sc:Scope):Prop where
 kind:sc.kind=.function
 co:sc.isCoroutine=false
 gen:sc.isGenerator=false
 nd:N.Nodup
 pre:N.take P.length=P
 par:∀ x∈P,sc.names.lookup x=some .local\/sc.names.lookup x=some .cell
 E3:∀ y∈sc.names,y.2≠.free
theorem mJ {kindOf:Str->Option NameKind}:∀{binds:List (Str×QS)}{m:Str->Option QS},(∀ v,(x,v)∉binds)->bindL kindOf binds m x=m x
 | [],_,_=>rfl
 |(n,v)::r,m,h=>by
  unfold bindL;rw[mJ fun w hw=>h w (Ms _ hw)];split
  .have:x≠n:=by rintro rfl;exact h v Mr
   simp[this]
  .rfl
theorem mK {kindOf:Str->Option NameKind}:∀{binds:List (Str×QS)}{m:Str->Option QS},(∀ v,(x,v)∉binds)->bindC kindOf binds m x=m x
 | [],_,_=>rfl
 |(n,v)::r,m,h=>by
  unfold bindC;rw[mK fun w hw=>h w (Ms _ hw)];split
  .rfl
  .have:x≠n:=by rintro rfl;exact h v Mr
   simp[this]
theorem mL {kindOf:Str->Option NameKind}:∀{P:List Str}{vs:List QS}{i:Nat}{m:Str->Option QS},P.Nodup->P[i]?=some x->vs[i]?=some v->kindOf x=some .local->
 bindL kindOf (P.zip vs) m x=some v
 | [],_,_,_,_,h,_,_=>by simp at h
 |_::_,[],_,_,_,_,h,_=>by simp at h
 |p::P,w::vs,0,m,nd,h1,h2,hk=>by simp at h1 h2;subst h1;subst h2;show bindL kindOf ((p,w)::P.zip vs) m p=_;unfold bindL;rw[mJ fun v hv=>(OB.mp nd).1 (List.of_mem_zip hv).1,Mh hk];simp
 |p::P,w::vs,i+1,m,nd,h1,h2,hk=>by show bindL kindOf ((p,w)::P.zip vs) m x=_;unfold bindL;exact mL (i:=i) (OB.mp nd).2 (by simpa using h1) (by simpa using h2) hk
theorem mM {kindOf:Str->Option NameKind}:∀{P:List Str}{vs:List QS}{i:Nat}{m:Str->Option QS},P.Nodup->P[i]?=some x->vs[i]?=some v->kindOf x≠some .local->
 bindC kindOf (P.zip vs) m x=some v
 | [],_,_,_,_,h,_,_=>by simp at h
 |_::_,[],_,_,_,_,h,_=>by simp at h
 |p::P,w::vs,0,m,nd,h1,h2,hk=>by simp at h1 h2;subst h1;subst h2;show bindC kindOf ((p,w)::P.zip vs) m p=_;unfold bindC;rw[mK fun v hv=>(OB.mp nd).1 (List.of_mem_zip hv).1,Mj hk];simp
 |p::P,w::vs,i+1,m,nd,h1,h2,hk=>by show bindC kindOf ((p,w)::P.zip vs) m x=_;unfold bindC;exact mM (i:=i) (OB.mp nd).2 (by simpa using h1) (by simpa using h2) hk
abbrev nS (n:Nat):List Str:=List.replicate n ""
noncomputable def start (N:List Str)(vs:List V):St:=vs.map some++List.replicate (N.length-vs.length) none
noncomputable def rH (CX:wV)(P:QR)(w:World)(K:QQ)(mg:Str->Option QS)(base:Heap)(N:List Str)(qual:Str)(scope:Scope)(f:Addr)(cd:QS)(A:QT)(outer:List Env)(s:QP)(H:Hp)(E:XK):Cx where
 prog:=P
 w:=w
 K:=K
 mg:=mg
 base:=base
 A:=A.deeper (envOfC qual scope s.heap.objs.size f cd)
 N:=N
 s₀:=s
 H₀:=H
 env:=envOfC qual scope s.heap.objs.size f cd
 outer:=outer
 stack:=envOfC qual scope s.heap.objs.size f cd::outer
 ex:=[]
 calm:=true
 fn:=fun _=>true
 pn:=[]
 xe:=fun e s'=>wpAny (model P w) (A.deeper (envOfC qual scope s.heap.objs.size f cd)) (leaving (envOfC qual scope s.heap.objs.size f cd) e) (fun _ s''=>CX outer H s E e s'') (fun e' s''=>CX outer H s E e' s'') s'
theorem pH {sc:Scope}(h:sc.names.lookup x=some .cell):∃ c,(cellsFrom n sc.names []).lookup x=some c:=by have q:=PySem.W.cellsFrom_some sc.names n [] (.inl h);exact Of.mp q
theorem u3 {CX:wV}{P:QR}{w:World}{K:QQ}{mg:Str->Option QS}{base:Heap}{N ps:List Str}{qual:Str}{scope:Scope}
 (S:aR N ps scope) (hd:A.handled=none) (e0:tq P w K mg base A outer s H) (hl:vs.length=ps.length) (r:Vals vs us)
 (x:InCallC s s.heap.objs.size (bindL (envOfC qual scope s.heap.objs.size f cd).kindOf (ps.zip us) fun _=>none) (cellsFrom (s.heap.objs.size+1) scope.names []) (bindC (envOfC qual scope s.heap.objs.size f cd).kindOf (ps.zip us) fun _=>none) s1) :
 Inv (rH CX P w K mg base N qual scope f cd A outer s H E) [] (start N vs) H s1:=by
 have hpl:ps.length<=N.length:=by have:=MT List.length S.pre;rw[MU]at this;lia
 obtain⟨h1,tk,rfl,hk⟩:=x.done;have noA:∀ b:Addr,b∉(rH CX P w K mg base N qual scope f cd A outer s H E).ex:=fun b z=>absurd (show b∈([]:List Addr) from z) (by simp);refine⟨⟨e0.mod,S.kind,rfl,rfl,Mc _,fun y z c h1 h2=>?_,fun y hy=>?_,fun y c _ h=>?_,fun _=>hd,Around.frames_deeper e0.frames,.inr ⟨rfl,rfl⟩,fun b z=>absurd z (noA b),e0.bs,e0.zE,fun b _ _=>noA b,fun b z=>absurd z (noA b),e0.iZ,e0.BQ,e0.kt⟩,
  rfl,e0.bare,Un.kept hk,⟨_,x.toInCall.ns,fun i y v h1 h2 h3=>?_⟩,fun y c h=>⟨_,x.cell y c h⟩,e0.aJ.fresh (Mc _),fun y c h=>?_,fun p hp=>absurd (show p∈([]:List (Addr×Obj)) from hp) (by simp),e0.aJ.kept hk,?_⟩
 .exact name_of_addr x.apart (N7 h1) (N7 h2)
 .have hy:scope.names.lookup y=some .cell\/scope.names.lookup y=some .free:=hy;rcases hy with hy|hy
  .exact pH hy
  .exact absurd rfl (S.E3 _ (N7 hy))
 .exact Nd (x.above y c (N7 h))
 .have hi:i<vs.length:=by
   grind [start]
  have ha:vs[i]?=some v:=by grind [start]
  obtain⟨u,hu,rv⟩:=r.get ha;have hp:ps[i]?=some y:=by rw[<- S.pre,List.getElem?_take_of_lt (by lia)];exact h1
  have ndP:ps.Nodup:=by rw[<- S.pre];exact S.nd.sublist (N8 _ _)
  refine⟨u,rv,?_⟩;rcases S.par y (MW hp) with k|k
  .exact .inl ⟨k,mL ndP hp hu k⟩
  .obtain⟨c,e⟩:=pH (n:=s.heap.objs.size+1) k;refine .inr ⟨.inl k,c,e,?_⟩;have q:=x.cell y c e;rw[mM ndP hp hu (by show scope.names.lookup y≠_;rw[k];decide)]at q;exact q
 .exact e0.aJ.fresh (Nd (x.above y c (N7 h)))
 .unfold start;show _=N.length;rw[MB,Me,OY];lia
abbrev eQ (Q:VK):Ends:={ nx:=fun _ H'=>Q .bS H',rt:=Q }
theorem B5 {CX:wV}{P:QR}{w:World}{K:QQ}{mg:Str->Option QS}{base:Heap}{k:Nat}{f:Addr}{name qual:Str}{params:Arguments}{body:List Stmt}{scope:Scope}{dV kV doc pm cdv ct oc:QS}{an od:Option Addr}
 {osl:Array (Option QS)} {N ps:List Str} {sp:Sp} (lk:K.lookup f=some ⟨oc,od,.func (PySem.W.fnOf name qual params body scope dV kV doc pm an cdv ct),osl⟩) (hcd:PySem.W.codeIn K cdv qual=true) (S:aR N ps scope)
 (len:∀ vs H Q E,sp vs H Q E->vs.length=ps.length)
 (hbody:∀(A:QT)(outer:List Env)(s:QP)(H:Hp)(vs:List V)(Q:VK)(E:XK),cP k (A.deeper (envOfC qual scope s.heap.objs.size f cdv))->sp vs H Q E->
   ∃ t,PSs (rH CX P w K mg base N qual scope f cdv A outer s H E) body t/\t (eQ Q) (start N vs) H) :
 bD P w K mg base CX (k+1) f (PySem.W.fnOf name qual params body scope dV kV doc pm an cdv ct) ps sp:=by
 refine⟨len,fun A outer s H args us vs Q E hr e0 hb r hsp=>?_⟩;have hl:=len _ _ _ _ hsp;have KX:K.In s.heap:=e0.mod.EO.keeps fun b o e=>(e0.bs b o e).1;have lim:s.heap.NoLimit:=e0.mod.nolimit.keeps fun b o e=>(e0.bs b o e).1;have hkind:∀ y∈ps.zip us,scope.names.lookup y.1=some .local\/(scope.names.lookup y.1=some .cell/\((cellsFrom (s.heap.objs.size+1) scope.names []).lookup y.1).isSome=true):=fun⟨n,v⟩ hy=>by
  rcases S.par n (List.of_mem_zip hy).1 with q|q
  .exact .inl q
  .exact .inr ⟨q,PySem.W.cellsFrom_some _ _ _ (.inl q)⟩
 refine codeAny_call_function hr.depth (KX _ _ lk) rfl S.co S.gen rfl (PySem.W.codeRec_of KX hcd) (hb _ _ _ _ ?_);refine wpAny_newFunctionEnv_cells S.kind hkind fun env he s1 x=>?_;subst he;refine⟨lim.keeps x.toInCall.keep,codeAny_func ?_⟩;obtain⟨t,ht,hq⟩:=hbody A outer s H vs Q E (hr.deeper _) hsp;have I:Inv (rH CX P w K mg base N qual scope f cdv A outer s H E) [] (start N vs) H s1:=u3 S hr.hd e0 hl r x;refine NC (ht [] s1 (start N vs) H _ I hq) (fun fl s' hs=>?_) fun e s' hs=>hs;have fin:∀{σ':St}{H':Hp}{v:V}{u:QS},Inv (rH CX P w K mg base N qual scope f cdv A outer s H E) [] σ' H' s'->RelV v u->Q v H'->CE outer P w H s Q u s':=fun{σ' H' v u} J rv q=>⟨v,H',J.os,J.bare,J.base,J.aJ,rv,q⟩;cases fl with
 |ret u=>obtain⟨v,σ',H',J,rv,q⟩:=hs;exact fin J rv q
 |next=>obtain⟨σ',H',J,q⟩:=hs;exact fin (v:=V.bS) (u:=Value.none) J rfl q
 |brk=>obtain⟨_,_,_,q⟩:=hs;exact False.elim q
 |cont=>obtain⟨_,_,_,q⟩:=hs;exact False.elim q
section
variable {X:Cx}{x:Str}{p pos:Pos}{e:Expr}{es:List Expr}{t:TA}{id T:String}{r:List V->Hp->VK->Prop}
noncomputable def eR (r:List V->Hp->VK->Prop)(t:TA):TE:=fun σ H Q=>t σ H fun vs H1=>r vs H1 Q
theorem aK (hc:bn X (.builtin id) r) (hg:Gl X x) (hm:X.mg x=none) (hv:bootBuiltins x=some (.builtin id)) (ha:PA X (e::es) t) (hn:autoParam (x≠"__name__") QU._auto_1) (hdb:autoParam (dB x) QU._auto_1)
 (he:autoParam (starEach (e::es) X.env=(false,eval e X.env)::starEach es X.env) QZ._auto_1) (hpl:autoParam (bT X pos es) QZ._auto_1):PE X (.Call (.Name x p) (e::es) [] pos) (eR r t):=by
 intro ac s σ H Q I h;refine OU (nK I hg hm hv ?_ hn hdb);exact PyProof.Rows.callWith_builtin1 (bO (ha pos ac s σ H _ I h) fun us s1 ⟨vs,H1,I1,r1,q1⟩=>hc ac s1 σ H1 vs us Q I1 r1 q1) he hpl
theorem cz (hc:bn X (.type T) r) (hg:Gl X x) (hm:X.mg x=none) (hv:bootBuiltins x=some (.type T)) (ha:PA X (e::es) t) (hn:autoParam (x≠"__name__") QU._auto_1) (hdb:autoParam (dB x) QU._auto_1)
 (he:autoParam (starEach (e::es) X.env=(false,eval e X.env)::starEach es X.env) QZ._auto_1) (hpl:autoParam (bT X pos es) QZ._auto_1):PE X (.Call (.Name x p) (e::es) [] pos) (eR r t):=by
 intro ac s σ H Q I h;refine OU (nK I hg hm hv ?_ hn hdb);exact PyProof.Rows.callWith_type1 (bO (ha pos ac s σ H _ I h) fun us s1 ⟨vs,H1,I1,r1,q1⟩=>hc ac s1 σ H1 vs us Q I1 r1 q1) he hpl
end
end L2
namespace HT
open PySem PyProof.Rows
section
open PySem.SeqAt
open PySem.AutoSeq1 (wpAny_loadPart')
open PySem.MeetsSeq PySem.MeetsSeq2 PySem.MeetsSeq3
end
section
noncomputable def sIx (n d:Nat):Option Int->Nat
 |none=>d
 |some v=>if v<0 then (v+(n:Int)).toNat else min v.toNat n
theorem sIx_nat (n d k:Nat):sIx n d (some (k:Int))=min k n:=by show(if (k:Int)<0 then ((k:Int)+(n:Int)).toNat else min (k:Int).toNat n)=min k n;rw[Mj (by lia),O3]
theorem CZ (n d:Nat)(hd:d<=n)(o:Option Int):sIx n d o<=n:=by
 cases o with
 |none=>exact hd
 |some v=>
  show(if v<0 then (v+(n:Int)).toNat else min v.toNat n)<=n
  grind
theorem tO (v:Int)(n d:Nat):(if v<0 then max (v+(n:Int)) 0 else min v (n:Int))=((sIx n d (some v):Nat):Int):=by
 show(if v<0 then max (v+(n:Int)) 0 else min v (n:Int))=(((if v<0 then (v+(n:Int)).toNat else min v.toNat n):Nat):Int)
 grind
theorem rJ (lo hi:Option Int)(n:Nat):Builtin.Slice.sliceAdjust lo hi 1 (n:Int)=(((sIx n 0 lo:Nat):Int),((sIx n n hi:Nat):Int)):=by
 have h1:¬ ((1:Int)<0):=by lia
 unfold Builtin.Slice.sliceAdjust;simp only[h1,Nm];refine Qs ?_ ?_
 .cases lo with
  |none=>rfl
  |some v=>exact tO v n 0
 .cases hi with
  |none=>rfl
  |some v=>exact tO v n n
theorem rK (i j:Nat):Builtin.Slice.slicePlaces (i:Int) (j:Int) 1=j-i:=by
 unfold Builtin.Slice.slicePlaces
 grind
theorem kl (p:IsPart v o)(h:Q o s):wpAny (model prog w) A (Builtin.Slice.slicePartIndex v) Q E s:=by
 cases p with
 |none=>exact slicePart_none h
 |int i t=>exact slicePart_int h
theorem sliceApplied_gen {lo hi:Option Int}{n:Nat}{Q:Int×Int×Nat->QP->Prop}(hs:s.heap.IsSliceOf sl vl vu .none)(pl:IsPart vl lo)(pu:IsPart vu hi)
 (h:Q (((sIx n 0 lo:Nat):Int),1,sIx n n hi-sIx n 0 lo) s):wpAny (model prog w) A (Builtin.Slice.sliceApplied (.ref sl) (pure (n:Int))) Q E s:=by
 obtain⟨os,hos,hcs,hds⟩:=id hs;unfold Builtin.Slice.sliceApplied Builtin.Slice.sliceFields;refine KE (KE (PY hos hds (x:=vl) rfl (KE (PY hos hds (x:=vu) rfl (KE (PY hos hds (x:=.none) rfl (L_ ?_)))))));refine KE (slicePart_none ?_);show wpAny _ _ (if ((1:Int)==0)=true then _ else _) _ _ s;rw[Mj (by decide)];refine KE (kl pl (KE (kl pu (KE (L_ ?_)))));show wpAny _ _ (match Builtin.Slice.sliceAdjust lo hi 1 (n:Int) with|(lo,hi)=>pure (lo,(1:Int),Builtin.Slice.slicePlaces lo hi 1)) _ _ s;rw[rJ lo hi n];show wpAny _ _ (pure (((sIx n 0 lo:Nat):Int),(1:Int),Builtin.Slice.slicePlaces ((sIx n 0 lo:Nat):Int) ((sIx n n hi:Nat):Int) 1)) _ _ s;rw[rK];exact L_ h
theorem wY (xs:Array QS)(i k:Nat):((List.range k).filterMap fun(m:Nat)=>xs[((i:Int)+(m:Int)*1).toNat]?).toArray=((xs.toList.drop i).take k).toArray:=by
 have e:(fun(m:Nat)=>xs[((i:Int)+(m:Int)*1).toNat]?)=fun m=>xs[i+m]?:=by grind
 rw[e];have:=pick_run xs i k;rw[List.filterMap_map]at this;have e2:((fun x=>xs[x]?) ∘ fun x=>i+x)=fun m=>xs[i+m]?:=rfl;rw[e2]at this;rw[this]
theorem getItem_tuple_cut {vl vu:QS}{lo hi:Option Int}{Q:QS->QP->Prop}(ht:IsTup s.heap t items)(hs:s.heap.IsSliceOf sl vl vu .none)(pl:IsPart vl lo)(pu:IsPart vu hi)
 (hw:¬ (sIx items.size 0 lo=0/\sIx items.size items.size hi=items.size))
 (h:Q (.ref s.heap.objs.size) { s with heap:=s.heap.push { cls:=.type "tuple",data:=.seq ((items.toList.drop (sIx items.size 0 lo)).take (sIx items.size items.size hi-sIx items.size 0 lo)).toArray } })
 (hsz:items.size<=sizeLine):wpAny (model prog w) A (getItem (.ref t) (.ref sl)) Q E s:=by
 have htake:sizeOk (.seq ((items.toList.drop (sIx items.size 0 lo)).take (sIx items.size items.size hi-sIx items.size 0 lo)).toArray):=by
  show((items.toList.drop (sIx items.size 0 lo)).take (sIx items.size items.size hi-sIx items.size 0 lo)).toArray.size<=sizeLine
  grind
 have hj:sIx items.size items.size hi<=items.size:=CZ _ _ (Mc _) hi;obtain⟨os,hos,hcs,hds⟩:=id hs;have hTs:s.TypeIs (.ref sl) "slice":=⟨os,hos,hcs⟩;unfold getItem
 try with_reducible refine Nb ?_
 first|refine KE (L_ ?_)|skip
 refine KE (wpAny_sequenceKey ht.typeIs (by decide) ?_);refine KE (NA (name:=Str.ofString "__getitem__") ht.typeIs Nw
  (M3 Nw ht.typeIs entry_tuple_getitem ?_ (args_tuple_getitem _ _)))
 show wpAny _ _ (Builtin.Tuple.tupleItemsOf (.ref t) >>= _) _ _ s;refine KE (tupleItemsOf_ ht ?_);refine KE (OZ hTs ?_);rw[Mh (by decide)];refine KE (sliceApplied_gen hs pl pu ?_);have hno:¬ ((((sIx items.size 0 lo:Nat):Int)==0&&(1:Int)==1&&(sIx items.size items.size hi-sIx items.size 0 lo)==items.size)=true):=by grind
 show wpAny _ _ (if (((sIx items.size 0 lo:Nat):Int)==0&&(1:Int)==1&&(sIx items.size items.size hi-sIx items.size 0 lo)==items.size)=true then _ else _) _ _ s;rw[Mj hno,wY]
 first
  |exact KE (m:=Builtin.Tuple.tupleExact _) (Nc (L_ ⟨_,rfl,L_ h⟩) htake)
  |exact KE (m:=Builtin.Tuple.tupleExact _) (Nc (KE (L_ (L_ ⟨_,rfl,L_ h⟩))) htake)
  |exact KE (KE (m:=Builtin.Tuple.tupleExact _) (Nc (L_ (L_ ⟨_,rfl,L_ h⟩)) htake))
  |exact KE (KE (m:=Builtin.Tuple.tupleExact _) (Nc (L_ ⟨_,rfl,L_ h⟩) htake))
end
end HT
namespace L2
open PySem PySem.Spec PyProof.Rows
abbrev TO:=St->Hp->(Option Int->Hp->Prop)->Prop
def PO (X:Cx)(e:Option Expr)(t:TO):Prop:=
 ∀(ac:List (Addr×Obj))(s:QP)(σ:St)(H:Hp)(Q:Option Int->Hp->Prop),Inv X ac σ H s->t σ H Q->
  wpAny (model X.prog X.w) X.A (evalPart e X.env) (fun u s'=>∃ o H',Inv X ac σ H' s'/\IsPart u o/\Q o H') X.xe s
noncomputable def nO:TO:=fun _ H Q=>Q none H
noncomputable def km (t:TE):TO:=fun σ H Q=>t σ H fun x H1=>∃ i,x=.int i/\Q (some i) H1
section
variable {X:Cx}{e:Expr}{te:TE}{lo hi:Option Expr}{tl th:TO}{pos p2:Pos}
theorem nP:PO X none nO:=by intro ac s σ H Q I h;rw[evalPart_none];exact L_ ⟨none,H,I,.none,h⟩
theorem fq (h:PE X e te):PO X (some e) (km te):=by intro ac s σ H Q I hw;rw[evalPart_some];refine bO (h ac s σ H _ I hw) fun u s1 ⟨x,H1,I1,r1,q1⟩=>?_;obtain⟨i,rfl,q⟩:=q1;obtain⟨t,rfl⟩:=r1;exact⟨some i,H1,I1,.int i t,q⟩
def FM (X:Cx)(r:V->Option Int->Option Int->Hp->VK->Prop):Prop:=
 ∀(ac:List (Addr×Obj))(s:QP)(σ:St)(H:Hp)(x:V)(v vl vu:QS)(lo hi:Option Int)(sl:Addr)(Q:VK),Inv X ac σ H s->RelV x v->s.heap.IsSliceOf sl vl vu .none->IsPart vl lo->IsPart vu hi->r x lo hi H Q->
  ∃ T id,typeLookup (.type T) "__getitem__"=pure (some (.builtin id))/\s.TypeIs v T/\wpAny (model X.prog X.w) X.A (getItem v (.ref sl)) (EP X ac σ Q) X.xe s
noncomputable def Fg (r:V->Option Int->Option Int->Hp->VK->Prop)(te:TE)(tl th:TO):TE:=fun σ H Q=>te σ H fun x H1=>tl σ H1 fun l H2=>th σ H2 fun u H3=>r x l u H3 Q
theorem gb (hr:FM X r)(he:PE X e te)(hl:PO X lo tl)(hu:PO X hi th):PE X (.Subscript e (.Slice lo hi none p2) pos) (Fg r te tl th):=by intro ac s σ H Q I h;refine Subscript_ (bO (he ac s σ H _ I h) fun v s1 ⟨x,H1,I1,r1,q1⟩=>?_);refine wpAny_Slice (bO (hl ac s1 σ H1 _ I1 q1) fun vl s2 ⟨l,H2,I2,pl,q2⟩=>bO (hu ac s2 σ H2 _ I2 q2) fun vu s3 ⟨u,H3,I3,pu,q3⟩=>?_);rw[evalPart_none];refine L_ ?_;have I4:Inv X ac σ H3 { s3 with heap:=s3.heap.push { cls:=.type "slice",data:=.fields #[vl,vu,.none] } }:=I3.kept (t':=s3.toks) fun b ob q=>Mb _ q;obtain⟨T,id,hT,ht,hg⟩:=hr ac { s3 with heap:=s3.heap.push { cls:=.type "slice",data:=.fields #[vl,vu,.none] } } σ H3 x v vl vu l u s3.heap.objs.size Q I4 r1 (Heap.IsSliceOf.new ..) pl pu q3;show wX X (subscriptTail e (.Slice lo hi none p2) v (.ref s3.heap.objs.size)) (EP X ac σ Q) X.xe { s3 with heap:=s3.heap.push { cls:=.type "slice",data:=.fields #[vl,vu,.none] } };exact tail_any (ops:=[.ref s3.heap.objs.size,v]) ht hT hg (by with_unfolding_all rfl)
def ib (xs:List V)(lo hi:Option Int):List V:=(xs.drop (HT.sIx xs.length 0 lo)).take (HT.sIx xs.length xs.length hi-HT.sIx xs.length 0 lo)
theorem jx (xs:List V)(lo hi:Option Int):(ib xs lo hi).length<=xs.length:=by unfold ib;rw[MU,Oh];lia
def Iy (K:QQ):V->Option Int->Option Int->Hp->VK->Prop:=fun x lo hi H Q=>∃ a xs,x=.ref a/\SqT K H a xs/\
 ¬ (HT.sIx xs.length 0 lo=0/\HT.sIx xs.length xs.length hi=xs.length)/\∀ p,H p=none->Q (.ref p) (upd H p (.tup (ib xs lo hi)))
theorem C1:FM X (Iy X.K):=by
 intro ac s σ H x v vl vu lo hi sl Q I rx hs pl pu h;obtain⟨a,xs,rfl,hx,hw,q⟩:=h;cases rx;obtain⟨its,r,ht,hz⟩:=I.tuple hx;have bJ:its.toArray.size=xs.length:=by rw[Mi];exact r.length.symm
 refine⟨"tuple",_,Nw.lookup,ht.typeIs,?_⟩;refine HT.getItem_tuple_cut ht hs pl pu (by rw[bJ];exact hw) ?_ (by rw[bJ];exact hz);rw[bJ];refine⟨.ref s.heap.objs.size,_,I.laid (t':=s.toks) (o:=.tup (ib xs lo hi)) (fun b ob q=>Mb _ q) (Mc _) ?_,rfl,q _ (I.aJ.fresh (Mc _))⟩;exact⟨Mq (jx xs lo hi) hz,_,(r.drop (HT.sIx xs.length 0 lo)).take (HT.sIx xs.length xs.length hi-HT.sIx xs.length 0 lo),IsTup.new _ _⟩
end
noncomputable def B6 (n:Nat)(i:Int):Option Nat:=if 0<=i then (if i<n then some i.toNat else none) else if -(n:Int)<=i then some (i+n).toNat else none
def u4 {α:Type}(xs:List α)(i:Int):Option α:=(B6 xs.length i).bind fun j=>xs[j]?
theorem Aq (h:B6 n i=some j):seqIndex? i n=some j/\j<n/\-(n:Int)<=i/\i<n:=by
 unfold B6 at h;by_cases h0:0<=i
 .rw[Mh h0]at h;by_cases h1:i<n
  .rw[Mh h1]at h;have e:i.toNat=j:=NM h;exact⟨by rw[seqIndex_of h0 h1,e],by lia,by lia,h1⟩
  .rw[Mj h1]at h;cases h
 .rw[Mj h0]at h;by_cases h1:-(n:Int)<=i
  .rw[Mh h1]at h;have e:(i+n).toNat=j:=NM h;exact⟨by rw[seqIndex_neg (by lia) h1,e],by lia,h1,by lia⟩
  .rw[Mj h1]at h;cases h
theorem tP {α:Type}{xs:List α}{i:Int}{v:α}(h:u4 xs i=some v):∃ j,seqIndex? i xs.length=some j/\xs[j]?=some v/\j<xs.length/\-(xs.length:Int)<=i/\i<xs.length:=by
 unfold u4 at h;cases e:B6 xs.length i with
 |none=>rw[e]at h;cases h
 |some j=>rw[e]at h;obtain⟨h1,h2,h3,h4⟩:=Aq e;exact⟨j,h1,h,h2,h3,h4⟩
theorem fw {α:Type}{xs:List α}{j:Nat}{v:α}(h:xs[j]?=some v):u4 xs (j:Int)=some v:=by grind [B6,u4]
def Ar (b:Expr):Prop:=∀ o i,subscripted b false o i=operate [o,i] (getItem o i)
def Iz (X:Cx)(r:R2):Prop:=
 ∀(value slice:Expr)(ac:List (Addr×Obj))(s:QP)(σ:St)(H:Hp)(x y:V)(v u:QS)(Q:VK),Inv X ac σ H s->RelV x v->RelV y u->r x y H Q->
  subscripted slice false v u=operate [v,u] (getItem v u)->wpAny (model X.prog X.w) X.A (subscriptTail value slice v u) (EP X ac σ Q) X.xe s
def FN (X:Cx)(id:String)(r:V->List V->Hp->VK->Prop):Prop:=
 ∀(ac:List (Addr×Obj))(s:QP)(σ:St)(H:Hp)(x:V)(xs:List V)(v:QS)(us:List QS)(Q:VK),Inv X ac σ H s->RelV x v->Vals xs us->r x xs H Q->
  wpAny (model X.prog X.w) X.A (call (.builtin id) (v::us)) (EP X ac σ Q) X.xe s
section
variable {X:Cx}
theorem aH (hr:Iz X r)(ha:PE X a ta)(hb:PE X b tb)(hs:Ar b):PE X (.Subscript a b pos) (bg r ta tb):=by intro ac s σ H Q I h;exact Subscript_ (CP ha hb I h fun v u s2 x y H2 I2 rx ry q=>hr a b ac s2 σ H2 x y v u Q I2 rx ry q (hs _ _))
def C2 (K:QQ):R2:=fun x y H Q=>∃ p xs i v,x=.ref p/\y=.int i/\SqL K H p xs/\u4 xs i=some v/\Q v H
def C3 (K:QQ):R2:=fun x y H Q=>∃ p xs i v,x=.ref p/\y=.int i/\SqT K H p xs/\u4 xs i=some v/\Q v H
theorem As:Iz X (C2 X.K):=by
 intro value slice ac s σ H x y v u Q I rx ry h hs;obtain⟨p,xs,i,z,rfl,rfl,hq,he,q⟩:=h;cases rx;obtain⟨t,rfl⟩:=ry;obtain⟨its,r,pl,hz⟩:=I.list hq;obtain⟨j,h1,h2,h3,h4,h5⟩:=tP he;obtain⟨w,ew,rw'⟩:=r.get h2;have hl:=r.length;have hn:=nM;have fin:EP X ac σ Q w s:=⟨z,H,I,rw',q⟩;by_cases h0:0<=i
 .have hj:i.toNat=j:=by rw[seqIndex_of h0 h5]at h1;exact NM h1
  exact item_listR pl.isList h0 (by lia) (by rw[hj];simpa using ew) fin hs
 .have hj:(i+(its.toArray.size:Int)).toNat=j:=by rw[seqIndex_neg (by lia) h4]at h1;rw[Mi,<- hl];exact NM h1
  exact subscriptTail_builtinR (x:=w) pl.isList.typeIs slot_list_getitem.lookup
   (wpAny_getItem_list_neg (Q:=fun r s'=>r=w/\EP X ac σ Q r s') pl.isList (by lia) (by rw[Mi]<;>lia) (by lia) (by rw[hj];simpa using ew) ⟨rfl,fin⟩) hs
theorem aD:Iz X (C3 X.K):=by
 intro value slice ac s σ H x y v u Q I rx ry h hs;obtain⟨p,xs,i,z,rfl,rfl,hq,he,q⟩:=h;cases rx;obtain⟨t,rfl⟩:=ry;obtain⟨its,r,pl,hz⟩:=I.tuple hq;obtain⟨j,h1,h2,h3,h4,h5⟩:=tP he;obtain⟨w,ew,rw'⟩:=r.get h2;have hl:=r.length;have hn:=nM;have fin:EP X ac σ Q w s:=⟨z,H,I,rw',q⟩;exact subscriptTail_builtinR (x:=w) pl.typeIs slot_tuple_getitem.lookup
  (getItem_tuple (j:=j) (Q:=fun r s'=>r=w/\EP X ac σ Q r s') pl (by lia) (by lia) (by rw[Mi,<- hl];exact h1) (by simpa using ew) ⟨rfl,fin⟩) hs
theorem nQ (lo hi:Option Int)(n:Nat):(sliceBounds lo hi none n).1=((HT.sIx n 0 lo:Nat):Int)/\(sliceBounds lo hi none n).2.1=((HT.sIx n n hi:Nat):Int)/\(sliceBounds lo hi none n).2.2=1:=by
 refine⟨?_,?_,rfl⟩
 .cases lo with
  |none=>simp[sliceBounds,HT.sIx]
  |some i=>
   simp only[sliceBounds,HT.sIx,QI,show(1:Int)>0 by decide,O_]
   grind
 .cases hi with
  |none=>simp[sliceBounds,HT.sIx]
  |some i=>
   simp only[sliceBounds,HT.sIx,QI,show(1:Int)>0 by decide,O_]
   grind
theorem lS (its:List QS)(lo hi:Option Int):slicePick its.toArray lo hi none=((its.drop (HT.sIx its.length 0 lo)).take (HT.sIx its.length its.length hi-HT.sIx its.length 0 lo)).toArray:=by obtain⟨h1,h2,h3⟩:=nQ lo hi its.toArray.size;unfold slicePick;rw[h1,h2,h3];simp only[sliceRange_one,pick_run,Mi]<;>rfl
def C4 (K:QQ):V->Option Int->Option Int->Hp->VK->Prop:=fun x lo hi H Q=>∃ a xs,x=.ref a/\SqL K H a xs/\∀ p,H p=none->Q (.ref p) (upd H p (.lst (ib xs lo hi)))
theorem tQ:FM X (C4 X.K):=by intro ac s σ H x v vl vu lo hi sl Q I rx hs pl pu h;obtain⟨a,xs,rfl,hx,q⟩:=h;cases rx;obtain⟨its,r,ht,hz⟩:=I.list hx;have bJ:=r.length;refine⟨"list",_,slot_list_getitem.lookup,ht.isList.typeIs,?_⟩;refine wpAny_getItem_list_slice ht.isList hs pl pu .none (by simp) ?_ (by rw[Mi]<;>lia);rw[lS,<- bJ];refine⟨.ref s.heap.objs.size,_,I.laid (t':=s.toks) (o:=.lst (ib xs lo hi)) (fun b ob q=>Mb _ q) (Mc _) ?_,rfl,q _ (I.aJ.fresh (Mc _))⟩;exact⟨Mq (jx xs lo hi) hz,_,0,(r.drop (HT.sIx xs.length 0 lo)).take (HT.sIx xs.length xs.length hi-HT.sIx xs.length 0 lo),Mm _ rfl⟩
noncomputable def jy:V->Bool
 | .bS=>true
 | .bl _=>true
 | .int _=>true
 | .str _=>true
 |_=>false
noncomputable def Au:V->V->Bool
 | .bS,.bS=>true
 | .bl a,.bl b=>a==b
 | .bl a,.int b=>(if a then 1 else 0)==b
 | .int a,.bl b=>a==(if b then 1 else 0)
 | .int a,.int b=>a==b
 | .str a,.str b=>a==b
 |_,_=>false
theorem C5 (ry:RelV y u)(rx:RelV x v)(fy:jy y=true)(fx:jy x=true):SeqAt.EqAt A s u v (Au y x):=by
 cases y with
 |bS=>
  cases ry;cases x with
  |bS=>cases rx;exact Py _
  |bl b=>cases rx;exact SeqAt.EqAt.none_bool b
  |int b=>obtain⟨t,rfl⟩:=rx;exact SeqAt.EqAt.none_int b t
  |str b=>obtain⟨t,rfl⟩:=rx;exact SeqAt.EqAt.none_str b t
  |_=>exact absurd (show false=true from fx) MF
 |bl a=>
  cases ry;cases x with
  |bS=>cases rx;exact SeqAt.EqAt.bool_none a
  |bl b=>cases rx;exact SeqAt.EqAt.bool_bool a b
  |int b=>obtain⟨t,rfl⟩:=rx;exact SeqAt.EqAt.bool_int a b t
  |str b=>obtain⟨t,rfl⟩:=rx;exact SeqAt.EqAt.bool_str a b t
  |_=>exact absurd (show false=true from fx) MF
 |int a=>
  obtain⟨t',rfl⟩:=ry;cases x with
  |bS=>cases rx;exact SeqAt.EqAt.int_none a t'
  |bl b=>cases rx;exact SeqAt.EqAt.int_bool a t' b
  |int b=>obtain⟨t,rfl⟩:=rx;exact SeqAt.EqAt.int_int a t' b t
  |str b=>obtain⟨t,rfl⟩:=rx;exact SeqAt.EqAt.int_str a t' b t
  |_=>exact absurd (show false=true from fx) MF
 |str a=>
  obtain⟨t',rfl⟩:=ry;cases x with
  |bS=>cases rx;exact SeqAt.EqAt.str_none a t'
  |bl b=>cases rx;exact SeqAt.EqAt.str_bool a t' b
  |int b=>obtain⟨t,rfl⟩:=rx;exact SeqAt.EqAt.str_int a t' b t
  |str b=>obtain⟨t,rfl⟩:=rx;exact SeqAt.EqAt.str_str a t' b t
  |_=>exact absurd (show false=true from fx) MF
 |_=>exact absurd (show false=true from fy) MF
def Av (x:V)(u:QS):Bool:=match u with
 | .none=>Au .bS x
 | .bool b=>Au (.bl b) x
 | .int i _=>Au (.int i) x
 | .str z _=>Au (.str z) x
 |_=>false
theorem wZ (r:RelV y u)(f:jy y=true):Av x u=Au y x:=by
 cases y with
 |bS=>cases r;rfl
 |bl b=>cases r;rfl
 |int i=>obtain⟨t,rfl⟩:=r;rfl
 |str z=>obtain⟨t,rfl⟩:=r;rfl
 |_=>exact absurd (show false=true from f) MF
theorem nR:∀{xs:List V}{us:List QS},Vals xs us->xs.all jy=true->us.any (Av x)=xs.any fun y=>Au y x
 |_,_,.nil,_=>rfl
 |y::xs,u::us,.cons r t,f=>by rw[List.all_cons,Nv]at f;rw[OJ,OJ,wZ r f.1,nR t f.2]
theorem kn (rx:RelV x v)(fx:jy x=true):∀{xs:List V}{us:List QS},Vals xs us->xs.all jy=true->∀ u∈us,SeqAt.EqAt A s u v (Av x u)
 |_,_,.nil,_=>fun u hu=>by cases hu
 |y::xs,u::us,.cons r t,f=>fun u' hu=>by
  rw[List.all_cons,Nv]at f;rcases Mv.mp hu with rfl|hu
  .rw[wZ r f.1];exact C5 r rx f.1 fx
  .exact kn rx fx t f.2 u' hu
def HL (x:V)(xs:List V):Bool:=xs.any fun y=>Au y x
def J8 (K:QQ)(neg:Bool):R2:=fun x y H Q=>∃ p xs,y=.ref p/\(SqL K H p xs\/SqT K H p xs)/\jy x=true/\xs.all jy=true/\Q (.bl (if neg then !HL x xs else HL x xs)) H
theorem u5:hW X (compareOp .In) (J8 X.K false):=by
 intro ac s σ H x y v u Q I rx ry h;obtain⟨p,xs,rfl,hq,fx,fs,q⟩:=h;cases ry;rcases hq with hq|hq
 .obtain⟨its,r,pl,hz⟩:=I.list hq;refine SeqAt.in_listAt (Av x) pl.isList (fun w hw=>kn rx fx r fs w (by simpa using hw)) ⟨.bl _,H,I,rfl,?_⟩;rw[show its.toArray.any (Av x)=its.any (Av x) by simp,nR r fs];exact q
 .obtain⟨its,r,pl,hz⟩:=I.tuple hq;refine SeqAt.in_tupleAt (Av x) pl (fun w hw=>kn rx fx r fs w (by simpa using hw)) ⟨.bl _,H,I,rfl,?_⟩;rw[show its.toArray.any (Av x)=its.any (Av x) by simp,nR r fs];exact q
theorem nT:bn X (.builtin "len") (fun xs H Q=>∃ p ys,xs=[.ref p]/\(SqL X.K H p ys\/SqT X.K H p ys)/\Q (.int ys.length) H):=by
 intro ac s σ H xs us Q I r h;obtain⟨p,ys,rfl,hq,q⟩:=h;obtain⟨u,rfl,rx⟩:=fQ r;cases rx;have hn:=nM;rcases hq with hq|hq
 .obtain⟨its,r',pl,hz⟩:=I.list hq;have bJ:=r'.length;exact Calls.call_len_list pl.isList (by simp only[Mi]<;>lia) ⟨.int ys.length,H,I.tok _,⟨s.toks+1,by rw[Mi,bJ]⟩,q⟩
 .obtain⟨its,r',pl,hz⟩:=I.tuple hq;have bJ:=r'.length;exact len_tuple pl (by simp only[Mi]<;>lia) ⟨.int ys.length,H,I.tok _,⟨s.toks+1,by rw[Mi,bJ]⟩,q⟩
theorem nU:bn X (.type "list") (fun xs H Q=>∃ p ys,xs=[.ref p]/\(SqL X.K H p ys\/SqT X.K H p ys)/\∀ l,H l=none->Q (.ref l) (upd H l (.lst ys))):=by
 intro ac s σ H xs us Q I r h;obtain⟨p,ys,rfl,hq,q⟩:=h;obtain⟨u,rfl,rx⟩:=fQ r;cases rx;have fin:∀(its:List QS),Vals ys its->ys.length<=sizeLine->∀(h':Heap)(c':Nat),(∀ b o',s.heap.get? b=some o'->h'.get? b=some o')->
  h'.get? s.heap.objs.size=some { cls:=.type "list",dict:=none,data:=.seq its.toArray c',slots:=#[] }->EP X ac σ Q (.ref s.heap.objs.size) { s with heap:=h' }:=fun its r' hz h' c' kp e=>
  ⟨.ref s.heap.objs.size,_,I.laid (t':=s.toks) kp (Mc _) (show ObjOk X.prog X.w _ h' _ (.lst ys) from⟨hz,its,c',r',e⟩),rfl,q _ (I.aJ.fresh (Mc _))⟩
 rcases hq with hq|hq
 .obtain⟨its,r',pl,hz⟩:=I.list hq;have bJ:=r'.length;obtain⟨o,ho,hc,n,hd⟩:=pl.isList;exact call_list_seq p (.inl rfl) ho hc hd (fun h' c' kp e=>fin its r' hz h' c' kp e) (by simp only[Mi]<;>lia)
 .obtain⟨its,r',pl,hz⟩:=I.tuple hq;have bJ:=r'.length;obtain⟨o,ho,hc,n,hd⟩:=pl;exact call_list_seq p (.inr rfl) ho hc hd (fun h' c' kp e=>fin its r' hz h' c' kp e) (by simp only[Mi]<;>lia)
def FO (K:QQ)(T:String)(x:V)(H:Hp):Prop:=match x with
 | .str _=>T="str"
 | .int _=>T="int"
 | .ref p=>(T="list"/\∃ xs,SqL K H p xs)\/(T="tuple"/\∃ o,K.lookup p=some o/\o.cls=.type "tuple"/\o.dict=none)\/
  (T="dict"/\((∃ kvs,H p=some (.dK kvs))\/∃ kvs,H p=some (.dT kvs)))\/(T="set"/\∃ S n,H p=some (.set S n))
 |_=>False
theorem w4 (I:Inv X ac σ H s)(r:RelV x v)(ty:FO X.K T x H) :
 s.TypeIs v T/\∀ a,v=.ref a->∃ ob,s.heap.get? a=some ob/\ob.dict=none:=by
 cases x with
 |str z=>obtain⟨t,rfl⟩:=r;cases (show T="str" from ty);exact⟨typeIs_str s z t,fun _ e=>nomatch e⟩
 |int i=>obtain⟨t,rfl⟩:=r;cases (show T="int" from ty);exact⟨typeIs_int s i t,fun _ e=>nomatch e⟩
 |ref p=>
  cases r;rcases ty with⟨rfl,xs,hq⟩|⟨rfl,o,hk,hc,hd⟩|⟨rfl,hk⟩|⟨rfl,S,n,hk⟩
  .obtain⟨its,_,pl,_⟩:=I.list hq;refine⟨pl.isList.typeIs,fun a e=>?_⟩;cases e;obtain⟨o,n,e,c,hd,_⟩:=pl;exact⟨o,e,hd⟩
  .refine⟨⟨o,I.f6 p o hk,hc⟩,fun a e=>?_⟩;cases e;exact⟨o,I.f6 _ o hk,hd⟩
  .have z:∃ o,s.heap.get? p=some o/\o.ExactDict:=by
    rcases hk with⟨kvs,hk⟩|⟨kvs,hk⟩
    .obtain⟨_,_,_,_,o,_,_,e,ex,_⟩:=I.aJ p _ hk;exact⟨o,e,ex⟩
    .obtain⟨_,_,_,_,o,_,_,e,ex,_⟩:=I.aJ p _ hk;exact⟨o,e,ex⟩
   obtain⟨o,e,ex⟩:=z;refine⟨⟨o,e,ex.1⟩,fun a e2=>?_⟩;cases e2;exact⟨o,e,ex.2.1⟩
  .obtain⟨o,_,_,_,e,ex,_⟩:=I.aJ p _ hk;refine⟨⟨o,e,ex.1⟩,fun a e2=>?_⟩;cases e2;exact⟨o,e,ex.2.1⟩
 |_=>exact False.elim ty
noncomputable def w8 (K:QQ)(T:String)(r:V->List V->Hp->VK->Prop)(to:TE):TE:=fun σ H Q=>to σ H fun x H1=>FO K T x H1/\r x [] H1 Q
noncomputable def wu (K:QQ)(T:String)(r:V->List V->Hp->VK->Prop)(to:TE)(t:TA):TE:=fun σ H Q=>to σ H fun x H1=>FO K T x H1/\t σ H1 fun xs H2=>r x xs H2 Q
variable {o e:Expr}{es:List Expr}{to:TE}{t:TA}{name:Str}{apos cpos:Pos}{T id:String}{r:V->List V->Hp->VK->Prop}
theorem rL (pa:PlainAttrs T) (slot:Slot T name id) (hty:typeOf (.builtin id)=pure (.type "method_descriptor")) (hm:FN X id r) (ho:PE X o to)
 (hbase:autoParam (attributeBase o name X.env (eval o X.env)=eval o X.env) QZ._auto_1) (hline:autoParam ((apos.endLine==cpos.line)=true) QZ._auto_1):PE X (.Call (.Attribute o name apos) [] [] cpos) (w8 X.K T r to):=by
 intro ac s σ H Q I h;refine wpAny_Call_method0_late hbase hline (bO (ho ac s σ H _ I h) fun v s1 ⟨x,H1,I1,r1,ty,q1⟩=>?_);obtain⟨h1,h2⟩:=w4 I1 r1 ty;exact⟨T,id,pa,slot,hty,h1,h2,OS rfl (PySem.evalArgs_none (hm ac s1 σ H1 x [] v [] Q I1 r1 .nil q1))⟩
theorem ko (pa:PlainAttrs T) (slot:Slot T name id) (hty:typeOf (.builtin id)=pure (.type "method_descriptor")) (hm:FN X id r) (ho:PE X o to) (ha:PA X (e::es) t)
 (hbase:autoParam (attributeBase o name X.env (eval o X.env)=eval o X.env) QZ._auto_1)
 (hfew:autoParam (((backTo cpos (starEach (e::es) X.env)).all (fun x=>!x.1)&&(backToKw cpos (keywordEach [] X.env)).all (fun x=>x.1.isSome)
   && decide ((e::es).length+([]:List Keyword).length+(if ([]:List Keyword).isEmpty then 0 else 1)<30))=true) QZ._auto_1)
 (hline:autoParam ((apos.endLine==cpos.line)=true) QZ._auto_1) (hs:autoParam (starEach (e::es) X.env=(false,eval e X.env)::starEach es X.env) QZ._auto_1) (hplain:autoParam (bT X cpos es) QZ._auto_1) :
 PE X (.Call (.Attribute o name apos) (e::es) [] cpos) (wu X.K T r to t):=by
 intro ac s σ H Q I h;refine wpAny_Call_method_late hbase hfew hline rfl (bO (ho ac s σ H _ I h) fun v s1 ⟨x,H1,I1,r1,ty,q1⟩=>?_);obtain⟨h1,h2⟩:=w4 I1 r1 ty;refine⟨T,id,pa,slot,hty,h1,h2,?_⟩;have hA:=ha cpos ac s1 σ H1 _ I1 q1;rw[hs]at hA ⊢;refine OS (by show(false || (backTo cpos (starEach es X.env)).any (·.1))=false;rw[hplain]<;>rfl) (Qm ?_);exact bO hA fun us s2 ⟨vs,H2,I2,r2,q2⟩=>hm ac s2 σ H2 x vs v us Q I2 r1 r2 q2
end
def HM (X:Cx)(id:String)(r:V->List V->Hp->VK->Prop):Prop:=
 ∀(ac:List (Addr×Obj))(s:QP)(σ:St)(H:Hp)(x:V)(xs:List V)(v:QS)(us:List QS)(Q:VK),Inv X ac σ H s->RelV x v->Vals xs us->r x xs H Q->
  wpAny (model X.prog X.w) X.A (call (.builtin id) (v::us)) (EP X ac σ Q) X.xe s
theorem Vals.one {x:V}{us:List QS}(h:Vals [x] us):∃ u,us=[u]/\RelV x u:=fQ h
theorem Vals.zero:∀{us:List QS},Vals [] us->us=[]
 |_,.nil=>rfl
theorem Vals.dropLast (h:Vals xs us):Vals xs.dropLast us.dropLast:=by
 induction h with
 |nil=>exact .nil
 |cons r t ih=>
  cases t with
  |nil=>exact .nil
  |cons q t'=>exact .cons r ih
theorem rM {α:Type}(l:List α):l.eraseIdx (l.length-1)=l.dropLast:=by
 induction l with
 |nil=>rfl
 |cons a r ih=>
  cases r with
  |nil=>rfl
  |cons b r=>
   have e:(a::b::r).length-1=((b::r).length-1)+1:=by have h1:(a::b::r).length=r.length+2:=rfl;have h2:(b::r).length=r.length+1:=rfl;lia
   rw[e,List.eraseIdx_cons_succ,ih]
   all_goals rfl
section
theorem Inv.BS {its its':List QS}{f:Array QS->Array QS}(I:Inv X ac σ H s)(hH:H l=some (.lst xs))
 (e:s.heap.get? l=some { cls:=.type "list",data:=.seq its.toArray n }) (hf:f its.toArray=its'.toArray) (hv:Vals ys its') (hz:ys.length<=sizeLine) :
 Inv X ac σ (upd H l (.lst ys)) { s with heap:=s.heap.update l (Obj.mapSeq f),toks:=t' }:=by
 have q:=PySem.IsL.update e f;rw[hf]at q;refine I.write (x:=l) (e:=l) (by rw[hH];exact trivial) (.inl rfl) (fun b' u hb hu=>(NI s.heap (Obj.mapSeq f) (Ol hb)).trans hu) ⟨_,q⟩ ?_;exact⟨hz,its',_,hv,q⟩
theorem Inv.JQ (I:Inv X ac σ H s)(hv:Vals ys its)(hz:ys.length<=sizeLine) :
 Inv X ac σ (upd H s.heap.objs.size (.lst ys)) { s with heap:=s.heap.push { cls:=.type "list",data:=.seq its.toArray },toks:=t' }:=
 I.laid (fun _ _ q=>Mb _ q) (Mc _) ⟨hz,its,0,hv,Mm _ rfl⟩
theorem Inv.fresh (I:Inv X ac σ H s):H s.heap.objs.size=none:=I.aJ.fresh (Mc _)
theorem Inv.tp (I:Inv X ac σ H s) (hH:H l=some (.lst xs)):xs.length<=sizeLine/\∃(its:List QS)(n:Nat),Vals xs its/\xs.length=its.length/\s.heap.get? l=some { cls:=.type "list",data:=.seq its.toArray n }:=by obtain⟨z,its,n,r,e⟩:=I.aJ l _ hH;exact⟨z,its,n,r,r.length,e⟩
theorem w_ (h:n<=sizeLine):Builtin.List.listTooLong n=false:=by unfold Builtin.List.listTooLong;exact My (by lia)
end
section
def tR:V->List V->Hp->VK->Prop:=fun x vs H Q=>∃ l xs y,x=.ref l/\vs=[y]/\H l=some (.lst xs)/\xs.length<sizeLine/\Q .bS (upd H l (.lst (xs++[y])))
theorem mO:HM X "list.append" tR:=by intro ac s σ H x vs v us Q I rx rv h;obtain⟨l,xs,y,rfl,rfl,hH,hz,q⟩:=h;cases rx;obtain⟨u,rfl,ru⟩:=rv.one;obtain⟨z,its,n,r,hl,e⟩:=I.tp hH;refine call_meets F.slot_list_append ⟨_,e,rfl⟩ F.entry_list_append (F.args_list_append_2 _ _) (PySem.list_append l its.toArray n u (by rw[Mi];lia)) ⟨e,?_⟩;refine⟨.bS,_,I.BS (its':=its++[u]) hH e (by simp) (r.append (.cons ru .nil)) ?_,rfl,q⟩;rw[MB,Ny];lia
def tS:V->List V->Hp->VK->Prop:=fun x vs H Q=>∃ l b xs zs,x=.ref l/\vs=[.ref b]/\H l=some (.lst xs)/\H b=some (.lst zs)/\xs.length+zs.length<=sizeLine/\Q .bS (upd H l (.lst (xs++zs)))
theorem u6:HM X "list.extend" tS:=by
 intro ac s σ H x vs v us Q I rx rv h;obtain⟨l,b,xs,zs,rfl,rfl,hH,hB,hz,q⟩:=h;cases rx;obtain⟨u,rfl,ru⟩:=rv.one;cases ru;obtain⟨z,its,n,r,hl,e⟩:=I.tp hH;obtain⟨z2,its2,n2,r2,hl2,e2⟩:=I.tp hB;have hsz:its.toArray.size+its2.toArray.size<=sizeLine:=by rw[Mi,Mi];lia
 have hlong:¬ (!its.toArray.isEmpty&&Builtin.List.listTooLong (its.toArray.size+its2.toArray.size))=true:=by rw[w_ hsz,P_];exact MF
 refine call_meets F.slot_list_extend ⟨_,e,rfl⟩ F.entry_list_extend (F.args_list_extend_2 _ _)
  (AutoSeq1.list_extend_list_list_0 l its.toArray n b its2.toArray n2 hlong (by rw[Mi];lia) (by lia)) ⟨e,e2,?_⟩
 refine⟨.bS,_,I.BS (its':=its++its2) hH e (by simp) (r.append r2) ?_,rfl,q⟩;rw[MB];lia
def FP:V->List V->Hp->VK->Prop:=fun x vs H Q=>∃ l xs y,x=.ref l/\vs=[]/\H l=some (.lst xs)/\xs[xs.length-1]?=some y/\Q y (upd H l (.lst xs.dropLast))
theorem C6:HM X "list.pop" FP:=by
 intro ac s σ H x vs v us Q I rx rv h;obtain⟨l,xs,y,rfl,rfl,hH,hy,q⟩:=h;cases rx;have hus:=rv.zero;subst hus;obtain⟨z,its,n,r,hl,e⟩:=I.tp hH;obtain⟨u,hu,ru⟩:=r.get hy;have hy':its.toArray[its.toArray.size-1]?=some u:=by show its.toArray[its.length-1]?=some u;rw[<- Mn,<- hl];exact hu
 refine call_meets F.slot_list_pop ⟨_,e,rfl⟩ F.entry_list_pop (F.args_list_pop_1 _) (MeetsSeq.list_pop_last l its.toArray n u hy' (by rw[Mi];lia)) ⟨e,?_⟩;refine⟨y,_,I.BS (its':=its.dropLast) hH e ?_ r.dropLast ?_,ru,q⟩
 .show its.toArray.eraseIdxIfInBounds (its.toArray.size-1)=its.dropLast.toArray;rw[Mi,List.eraseIdxIfInBounds_toArray,rM]
 .rw[List.length_dropLast];lia
def rN:V->List V->Hp->VK->Prop:=fun x vs H Q=>∃ l xs,x=.ref l/\vs=[]/\H l=some (.lst xs)/\Q .bS (upd H l (.lst []))
theorem pI:HM X "list.clear" rN:=by intro ac s σ H x vs v us Q I rx rv h;obtain⟨l,xs,rfl,rfl,hH,q⟩:=h;cases rx;have hus:=rv.zero;subst hus;obtain⟨z,its,n,r,hl,e⟩:=I.tp hH;refine call_meets F.slot_list_clear ⟨_,e,rfl⟩ F.entry_list_clear (F.args_list_clear_1 _) (AutoSeq1.list_clear_list_0 l its.toArray n (by rw[Mi];lia)) ⟨e,?_⟩;exact⟨.bS,_,I.BS (its':=[]) (ys:=[]) hH e rfl .nil (ML _),rfl,q⟩
def FQ:R2:=fun x y H Q=>∃ l b xs zs,x=.ref l/\y=.ref b/\H l=some (.lst xs)/\H b=some (.lst zs)/\xs.length+zs.length<=sizeLine/\∀ p,H p=none->Q (.ref p) (upd H p (.lst (xs++zs)))
theorem C7:hW X (binaryOp .Add) FQ:=by
 intro ac s σ H x y v u Q I rx ry h;obtain⟨l,b,xs,zs,rfl,rfl,hH,hB,hz,q⟩:=h;cases rx;cases ry;obtain⟨z,its,n,r,hl,e⟩:=I.tp hH;obtain⟨z2,its2,n2,r2,hl2,e2⟩:=I.tp hB;refine PySem.P.add_list e e2 ?_ (by rw[Mi,Mi];lia);have ea:its.toArray++its2.toArray=(its++its2).toArray:=by simp
 rw[ea];exact⟨.ref _,_,I.JQ (t':=s.toks) (r.append r2) (by rw[MB];lia),rfl,q _ I.fresh⟩
end
section
variable {κ:Type}[DecidableEq κ]
noncomputable def bP (kvs:List (κ×V))(k:κ):Option V:=(kvs.find? fun kv=>decide (kv.1=k)).map (·.2)
noncomputable def b7 (kvs:List (κ×V))(k:κ)(v:V):List (κ×V):=if (kvs.any fun kv=>decide (kv.1=k))=true then kvs.map (fun kv=>if kv.1=k then (kv.1,v) else kv) else kvs++[(k,v)]
theorem c_ {p:κ×V}(e:p.1=k):bP (p::r) k=some p.2:=by simp[bP,Os,e]
theorem db {p:κ×V}(e:¬ p.1=k):bP (p::r) k=bP r k:=by simp[bP,Os,e]
theorem gc (k:κ):∀ kvs:List (κ×V),(kvs.any fun kv=>decide (kv.1=k))=(bP kvs k).isSome
 | []=>rfl
 |p::r=>by
  rw[OJ];by_cases e:p.1=k
  .simp only[c_ e,Mp e,Bool.true_or,Option.isSome_some]
  .rw[db e,My e,Bool.false_or];exact gc k r
theorem dc (kvs:List (κ×V))(k:κ)(v:V):(b7 kvs k v).length<=kvs.length+1:=by grind [b7]
theorem eU {kvs:List (κ×V)}(v:V)(h:bP kvs k=none):b7 kvs k v=kvs++[(k,v)]:=by unfold b7;rw[gc,h];exact Mj (by decide)
theorem RelO.cB (r:RelO o u):o.isSome=u.isSome:=by
 cases o with
 |none=>cases u with
  |none=>rfl
  |some _=>exact(show False from r).elim
 |some _=>cases u with
  |none=>exact(show False from r).elim
  |some _=>rfl
theorem RelO.getD (r:RelO o u)(rd:RelV d d'):RelV (o.getD d) (u.getD d'):=by
 cases o with
 |none=>cases u with
  |none=>exact rd
  |some _=>exact(show False from r).elim
 |some _=>cases u with
  |none=>exact(show False from r).elim
  |some _=>exact r
theorem KV.val {kvs:List (κ×V)}(r:KV kvs vs)(k:κ):RelO (bP kvs k) (valueAt vs k):=by
 unfold KV at r;induction r with
 |nil=>exact True.intro
 | @cons p q ps qs h t ih=>
  obtain⟨h1,h2⟩:=h;by_cases e:p.1=k
  .have e':q.1=k:=h1.symm.trans e;have b:valueAt (q::qs) k=some q.2:=by simp[valueAt,Os,e']
   rw[c_ e,b];exact h2
  .have e':¬ q.1=k:=fun z=>e (h1.trans z);have b:valueAt (q::qs) k=valueAt qs k:=by simp[valueAt,Os,e']
   rw[db e,b];exact ih
theorem KV.any (r:KV kvs vs)(k:κ):(kvs.any fun kv=>decide (kv.1=k))=vs.any fun kv=>decide (kv.1=k):=by
 unfold KV at r;induction r with
 |nil=>rfl
 |cons h t ih=>rw[OJ,OJ,ih,h.1]
theorem KV.E8 (r:KV kvs vs)(k:κ)(ry:RelV y u) :
 KV (kvs.map fun kv=>if kv.1=k then (kv.1,y) else kv) (vs.map fun kv=>if kv.1=k then (kv.1,u) else kv):=by
 unfold KV at r ⊢;induction r with
 |nil=>exact .nil
 | @cons p q ps qs h t ih=>
  rw[MC,MC];refine .cons ?_ ih
  grind
theorem KV.put (r:KV kvs vs)(k:κ)(ry:RelV y u):KV (b7 kvs k y) (stored vs k u):=by
 unfold b7 stored;rw[r.any k];by_cases e:(vs.any fun kv=>decide (kv.1=k))=true
 .rw[Mh e,Mh e];exact r.E8 k ry
 .rw[Mj e,Mj e];exact Paired.snoc r ⟨rfl,ry⟩
theorem KV.length (r:KV kvs vs):kvs.length=vs.length:=O1 r
end
theorem gT (r:RelV (kV k) u):(ay P w).is k u=true:=by
 cases k with
 |inl i=>obtain⟨t,e⟩:=(show ∃ t,u=Value.int i t from r);subst e;exact pd P w i t
 |inr x=>obtain⟨t,e⟩:=(show ∃ t,u=Value.str x t from r);subst e;exact ph P w x t
theorem mP:∀{ks:List bh}{us:List QS},Vals (ks.map kV) us->ItemsAre (ay P w) ks us
 | [],_,r=>by rw[QM]at r;cases r;exact .nil
 |k::ks,_,r=>by
  rw[MC]at r;cases r with
  |cons h t=>exact .cons (gT h) (mP t)
abbrev KT (H:Hp):List (List bh×V)->List (List bh×Addr×QS)->Prop:=Paired fun p q=>p.1=q.1/\H q.2.1=some (.tup (p.1.map kV))/\RelV p.2 q.2.2
theorem KT.val {H:Hp}(r:KT H kvs xs)(k:List bh):RelO (bP kvs k) ((atKey xs k).map (·.2)):=by
 induction r with
 |nil=>exact True.intro
 | @cons p q ps qs h t ih=>
  obtain⟨h1,_,h2⟩:=h;by_cases e:p.1=k
  .have e':q.1=k:=h1.symm.trans e;have b:atKey (q::qs) k=some q.2:=by simp[atKey,Os,e']
   rw[c_ e,b];exact h2
  .have e':¬ q.1=k:=fun z=>e (h1.trans z);have b:atKey (q::qs) k=atKey qs k:=by simp[atKey,Os,e']
   rw[db e,b];exact ih
theorem KT.E8 (r:KT H kvs xs)(k:List bh)(ry:RelV y u) :
 KT H (kvs.map fun kv=>if kv.1=k then (kv.1,y) else kv) (xs.map (putAt k u)):=by
 induction r with
 |nil=>exact .nil
 | @cons p q ps qs h t ih=>
  rw[MC,MC];refine .cons ?_ ih;obtain⟨h1,h2,h3⟩:=h;unfold putAt
  grind
theorem KT.put (r:KT H kvs xs)(k:List bh)(hb:H b=some (.tup (k.map kV)))(ry:RelV y u) :
 KT H (b7 kvs k y) (storedH xs k b u):=by
 have e:(kvs.any fun kv=>decide (kv.1=k))=(atKey xs k).isSome:=by rw[gc,(r.val k).cB,O4]
 unfold b7 storedH;rw[e];by_cases q:(atKey xs k).isSome=true
 .rw[Mh q,Mh q];exact r.E8 k ry
 .rw[Mj q,Mj q];exact Paired.snoc r ⟨rfl,hb,ry⟩
theorem KT.keeps (r:KT H kvs xs)(ht:∀ b ys,H b=some (.tup ys)->H' b=some (.tup ys)):KT H' kvs xs:=Paired.BV r fun _ _ z=>⟨z.1,ht _ _ z.2.1,z.2.2⟩
section
theorem B7 (ok:HOk P w H h)(e:Rd H a u):ObjOk P w H h a u:=e.ok ok
theorem ic (ok:HOk P w H h)(e:Rd H a (.dK kvs)):kvs.length<=sizeLine/\(a==sysModules)=false/\∃ vs,KV kvs vs/\h.DictOf (ay P w) a vs:=show ObjOk P w H h a (.dK kvs) from B7 ok e
theorem FR (ok:HOk P w H h)(e:H a=some (.dK kvs)):kvs.length<=sizeLine/\(a==sysModules)=false/\∃ vs,KV kvs vs/\h.DictOf (ay P w) a vs:=ic ok (.inl e)
theorem cG (ok:HOk P w H h)(e:H a=some (.tup (ks.map kV))):(tupleKind (ay P w)).is h ks a:=by obtain⟨_,its,r,o,h1,h2,n,h3⟩:=(show ObjOk P w H h a (.tup (ks.map kV)) from ok a _ e);exact⟨o,its.toArray,n,h1,h2,h3,by simpa using mP r⟩
theorem jz (ok:HOk P w H h)(e:Rd H a (.dT kvs)):kvs.length<=sizeLine/\(a==sysModules)=false/\
 ∃ xs,KT H kvs xs/\h.DictOfH (tupleKind (ay P w)) a xs:=by
 obtain⟨z,y,xs,r,o,es,ep,h1,h2,h3,h4,h5⟩:=(show ObjOk P w H h a (.dT kvs) from B7 ok e);refine⟨z,y,xs,r,o,es,ep,h1,h2,h3,h4,fun x hx=>?_,h5⟩;have all:∀{l:List (List bh×V)}{m:List (List bh×Addr×QS)},KT H l m->∀ x∈m,(tupleKind (ay P w)).is h x.1 x.2.1:=by
  intro l m q;induction q with
  |nil=>intro x hx;exact nomatch hx
  | @cons p q ps qs hq t ih=>grind [cG]
 exact all r x hx
theorem B8 (ok:HOk P w H h)(e:H a=some (.dT kvs)):kvs.length<=sizeLine/\(a==sysModules)=false/\
 ∃ xs,KT H kvs xs/\h.DictOfH (tupleKind (ay P w)) a xs:=jz ok (.inl e)
end
def DGet (H:Hp)(a:Addr)(y:V)(r:Option V):Prop:=(∃ kvs k,Rd H a (.dK kvs)/\y=kV k/\r=bP kvs k)\/∃ kvs k b,Rd H a (.dT kvs)/\y=.ref b/\H b=some (.tup (k.map kV))/\r=bP kvs k
def DPut (H:Hp)(a:Addr)(y v:V)(H':Hp):Prop:=
 (∃ kvs k,H a=some (.dK kvs)/\y=kV k/\kvs.length<sizeLine/\H'=upd H a (.dK (b7 kvs k v)))\/
 ∃ kvs k b,H a=some (.dT kvs)/\y=.ref b/\H b=some (.tup (k.map kV))/\kvs.length<sizeLine/\H'=upd H a (.dT (b7 kvs k v))
theorem DGet.k {kvs:List (bh×V)}{k:bh}(e:H a=some (.dK kvs)):DGet H a (kV k) (bP kvs k):=.inl ⟨kvs,k,.inl e,rfl,rfl⟩
theorem DGet.t {kvs:List (List bh×V)}{k:List bh}(e:H a=some (.dT kvs))(eb:H b=some (.tup (k.map kV))):DGet H a (.ref b) (bP kvs k):=.inr ⟨kvs,k,b,.inl e,rfl,eb,rfl⟩
theorem DPut.k {kvs:List (bh×V)}{k:bh}{v:V}(e:H a=some (.dK kvs))(hl:kvs.length<sizeLine):DPut H a (kV k) v (upd H a (.dK (b7 kvs k v))):=.inl ⟨kvs,k,e,rfl,hl,rfl⟩
theorem DPut.t {kvs:List (List bh×V)}{k:List bh}{v:V}(e:H a=some (.dT kvs))(eb:H b=some (.tup (k.map kV)))(hl:kvs.length<sizeLine) :
 DPut H a (.ref b) v (upd H a (.dT (b7 kvs k v))):=.inr ⟨kvs,k,b,e,rfl,eb,hl,rfl⟩
section
theorem Inv.big (I:Inv X ac σ H s):sysModules<s.heap.objs.size:=by have h:mainGlobals<s.heap.objs.size:=(I.mod.glob.keeps I.bk).lt;exact Nat.lt_trans (by decide) h
theorem u7 (hu:A.units+1<cLine)(I:Inv X ac σ H s)(g:DGet H a y (some v))(ry:RelV y u)(h:∀ w' s',Inv X ac σ H s'->RelV v w'->Q w' s') :
 wpAny (model X.prog X.w) A (getItem (.ref a) u) Q E s:=by
 rcases g with⟨kvs,k,e,ey,l⟩|⟨kvs,k,b,e,ey,eb,l⟩
 .subst ey;obtain⟨z,hd,vs,rel,dd⟩:=ic I.aJ e;obtain⟨w',hw,rw'⟩:=RelO.some_of (v:=v) (o:=valueAt vs k) (by rw[l];exact rel.val k);exact wpAny_getItem_of (gT ry) dd.mapOf hw (h w' _ (I.tok _) rw')
 .subst ey;cases (show u=Value.ref b from ry);obtain⟨z,hd,xs,rel,dd⟩:=jz I.aJ e;obtain⟨w',hw,rw'⟩:=RelO.some_of (v:=v) (o:=(atKey xs k).map (·.2)) (by rw[l];exact rel.val k);obtain⟨p,hp,hp2⟩:=M5.mp hw;refine wpAny_getItem_heap (Og hu) (cG I.aJ eb) dd hp ?_;rw[hp2];exact h w' _ (I.tok _) rw'
theorem IA (hu:A.units+1<cLine)(I:Inv X ac σ H s)(g:DGet H a y o)(ry:RelV y u)(h:∀ s',Inv X ac σ H s'->Q (.bool o.isSome) s') :
 wpAny (model X.prog X.w) A (compareOp .In u (.ref a)) Q E s:=by
 rcases g with⟨kvs,k,e,ey,l⟩|⟨kvs,k,b,e,ey,eb,l⟩
 .subst ey;obtain⟨z,hd,vs,rel,dd⟩:=ic I.aJ e;refine wpAny_in_of (gT ry) hd dd.mapOf ?_;rw[<- (rel.val k).cB,<- l];exact h _ (I.tok _)
 .subst ey;cases (show u=Value.ref b from ry);obtain⟨z,hd,xs,rel,dd⟩:=jz I.aJ e;refine wpAny_in_heap (Og hu) (cG I.aJ eb) hd dd ?_;have q:=(rel.val k).cB;rw[O4]at q;rw[<- q,<- l];exact h _ (I.tok _)
theorem Aw (hu:A.units+1<cLine)(I:Inv X ac σ H s)(g:DGet H a y o)(ry:RelV y u)(h:∀ s',Inv X ac σ H s'->Q (.bool (!o.isSome)) s') :
 wpAny (model X.prog X.w) A (compareOp .NotIn u (.ref a)) Q E s:=by
 rcases g with⟨kvs,k,e,ey,l⟩|⟨kvs,k,b,e,ey,eb,l⟩
 .subst ey;obtain⟨z,hd,vs,rel,dd⟩:=ic I.aJ e;refine wpAny_notIn_of (gT ry) hd dd.mapOf ?_;rw[<- (rel.val k).cB,<- l];exact h _ (I.tok _)
 .subst ey;cases (show u=Value.ref b from ry);obtain⟨z,hd,xs,rel,dd⟩:=jz I.aJ e;refine wpAny_notIn_heap (Og hu) (cG I.aJ eb) hd dd ?_;have q:=(rel.val k).cB;rw[O4]at q;rw[<- q,<- l];exact h _ (I.tok _)
theorem ig (I:Inv X ac σ H s)(mu:Fe (H a))(hs:Heap.SameBut a s.heap h')(he:∃ q,h'.get? a=some q)(new:ObjOk X.prog X.w (upd H a ob) h' a ob) :
 Inv X ac σ (upd H a ob) { s with heap:=h',toks:=t' }:=
 I.write (x:=a) (e:=a) mu (.inl rfl) (fun b q hb z=>(hs.2 b hb).trans z) he new
theorem xb (z:kvs.length<=sizeLine)(hd:(a==sysModules)=false)(rel:KV kvs vs)(dd:h'.DictOf (ay P w) a vs) :
 ObjOk P w H' h' a (.dK kvs):=⟨z,hd,vs,rel,dd⟩
theorem u9 (hu:A.units+1<cLine)(I:Inv X ac σ H s)(g:DPut H a y v H')(ry:RelV y u)(rv:RelV v r)(h:∀ s',Inv X ac σ H' s'->Q () s') :
 wpAny (model X.prog X.w) A (setItem (.ref a) u r) Q E s:=by
 rcases g with⟨kvs,k,e,ey,l,eH⟩|⟨kvs,k,b,e,ey,eb,l,eH⟩
 .subst ey eH;obtain⟨z,hd,vs,rel,dd⟩:=FR I.aJ e;have hz:vs.length<=sizeLine:=by rw[<- rel.length];exact z
  have hl:(b7 kvs k v).length<=sizeLine:=by have:=dc kvs k v;lia
  refine wpAny_setItem_pairs (hsz:=hz) (gT ry) dd fun h' dd' hs=>h _ ?_;have he:∃ q,h'.get? a=some q:=let ⟨q,_,_,hq,_⟩:=dd';⟨q,hq⟩;exact ig I (by rw[e];exact True.intro) hs he (xb hl hd (rel.put k rv) dd')
 .subst ey eH;cases (show u=Value.ref b from ry);obtain⟨z,hd,xs,rel,dd⟩:=B8 I.aJ e;have hz:xs.length<=sizeLine:=by rw[<- O1 rel];exact z
  have hl:(b7 kvs k v).length<=sizeLine:=by have:=dc kvs k v;lia
  refine wpAny_setItem_heap (hsz:=hz) (Og hu) (cG I.aJ eb) dd fun h' dd' hs=>h _ ?_;obtain⟨q,es,ep,hq,h2,h3,h4,_,h5⟩:=dd';refine ig I (by rw[e];exact True.intro) hs ⟨q,hq⟩ ⟨hl,hd,_,(rel.put k eb rv).keeps fun c ys ec=>?_,q,es,ep,hq,h2,h3,h4,h5⟩;rw[aA (wB ec e (fun z=>nomatch z))];exact ec
end
def FS (i:Expr):Prop:=∀ ov iv,subscripted i false ov iv=operate [ov,iv] (getItem ov iv)
theorem Ax {E:QS->QP->Prop}{env:Env}{value slice:Expr}{pos:Pos}{T id:String}{Q:QS->QP->Prop}
 (hl:typeLookup (.type T) "__getitem__"=pure (some (.builtin id))) (hs:FS slice)
 (h:wpAny (model prog w) A (eval value env) (fun o s₁=>wpAny (model prog w) A (eval slice env) (fun i s₂=>s₂.TypeIs o T/\wpAny (model prog w) A (getItem o i) Q E s₂) E s₁) E s) :
 wpAny (model prog w) A (eval (.Subscript value slice pos) env) Q E s:=by
 refine Subscript_ (NC h (fun o s₁ h₁=>NC h₁ (fun i s₂ h₂=>?_) fun _ _ x=>x) fun _ _ x=>x);obtain⟨hT,h₂⟩:=h₂;unfold subscriptTail;refine KE ?_;rw[getitemInPython_of_ne hT.not_modules];refine KE (OC hT hl ?_);have fin:wpAny (model prog w) A (subscripted slice false o i) (fun r s₃=>wpAny (model prog w) A (letTemporaryGo value o r >>= fun _=>pure r) Q E s₃) E s₂:=by rw[hs o i];exact wpAny_operating (NC h₂ (fun r s₃ h₃=>KE (wpAny_letTemporaryGo (L_ h₃))) fun _ _ x=>x)
 first
  |exact L_ (KE fin)
  |exact KE (L_ (KE fin))
  |exact KE fin
theorem pJ (I:Inv X ac σ H s) (g:DGet H a y o):s.TypeIs (.ref a) "dict":=by
 rcases g with⟨kvs,k,e,_,_⟩|⟨kvs,k,b,e,_,_,_⟩
 .obtain⟨_,_,vs,_,dd⟩:=ic I.aJ e;exact dd.typeIs
 .obtain⟨_,_,xs,_,dd⟩:=jz I.aJ e;exact dd.typeIs
noncomputable def ij (td ty:TE):TE:=fun σ H Q=>td σ H fun x H1=>ty σ H1 fun y H2=>∃ a v,x=.ref a/\DGet H2 a y (some v)/\Q v H2
noncomputable def kq (td ty tv:TE):TS:=fun D σ H=>tv σ H fun v H1=>td σ H1 fun x H2=>ty σ H2 fun y H3=>∃ a H4,x=.ref a/\DPut H3 a y v H4/\D.nx σ H4
section
theorem nV (hu:X.A.units+1<cLine)(ho:PE X o td)(hi:PE X i ty)(hs:FS i):PE X (.Subscript o i pos) (ij td ty):=by intro ac s σ H Q I h;refine Ax PySem.F.slot_dict_getitem.lookup hs (bO (ho ac s σ H _ I h) fun u s1 ⟨x,H1,I1,rx,q1⟩=>bO (hi ac s1 σ H1 _ I1 q1) fun iv s2 ⟨y,H2,I2,ry,a,v,ex,g,q2⟩=>?_);subst ex;obtain rfl:u=Value.ref a:=rx;exact⟨pJ I2 g,u7 hu I2 g ry fun w' s3 I3 rw'=>⟨v,H2,I3,rw',q2⟩⟩
theorem il (hu:X.A.units+1<cLine)(ho:PE X o td)(hi:PE X i ty)(hv:PE X value tv)(hs:swapsWith value (some (.Subscript o i pos')) pos.line X.env=pure false) :
 PS X (.Assign [.Subscript o i pos'] value pos) (kq td ty tv):=by
 intro ac s σ H D I h;refine wpAny_Assign_Subscript (bO (hv ac s σ H _ I h) fun r s1 ⟨v,H1,I1,rv,q1⟩=>bO (ho ac s1 σ H1 _ I1 q1) fun u s2 ⟨x,H2,I2,rx,q2⟩=>bO (hi ac s2 σ H2 _ I2 q2) fun iv s3 ⟨y,H3,I3,ry,a,H4,ex,g,q3⟩=>?_) hs;subst ex;obtain rfl:u=Value.ref a:=rx;exact u9 hu I3 g ry rv fun s4 I4=>⟨σ,H4,I4,q3⟩
end
theorem xc (h:Heap) (hb:sysModules<h.objs.size):ObjOk P w H (h.push { cls:=.type "dict",data:=.dict #[] }) h.objs.size (.dK []):=⟨ML _,Ot.mpr (Ol (MS hb)),[],.nil,Heap.DictOf.new h⟩
theorem xg (h:Heap) (hb:sysModules<h.objs.size):ObjOk P w H (h.push { cls:=.type "dict",data:=.dict #[] }) h.objs.size (.dT []):=⟨ML _,Ot.mpr (Ol (MS hb)),[],.nil,_,#[],0,Mm _ rfl,⟨rfl,rfl,rfl⟩,rfl,rfl,OR⟩
def dM:TE:=fun _ H Q=>∀ p,H p=none->Q (.ref p) (upd H p (.dK []))
def nW:TE:=fun _ H Q=>∀ p,H p=none->Q (.ref p) (upd H p (.dT []))
section
theorem de:PE X (.Dict [] [] pos) dM:=fun ac s σ H Q I h=>wpAny_Dict_empty ⟨.ref s.heap.objs.size,_,I.laid (a:=s.heap.objs.size) (o:=.dK []) (t':=s.toks) (fun _ _ q=>Mb _ q) (Mc _) (xc s.heap I.big),rfl,h _ (I.aJ.fresh (Mc _))⟩
theorem kr:PE X (.Dict [] [] pos) nW:=fun ac s σ H Q I h=>wpAny_Dict_empty ⟨.ref s.heap.objs.size,_,I.laid (a:=s.heap.objs.size) (o:=.dT []) (t':=s.toks) (fun _ _ q=>Mb _ q) (Mc _) (xg s.heap I.big),rfl,h _ (I.aJ.fresh (Mc _))⟩
end
def fz (kvs more:List (bh×V)):List (bh×V):=more.foldl (fun acc kv=>b7 acc kv.1 kv.2) kvs
theorem gU:∀(more kvs:List (bh×V)),(fz kvs more).length<=kvs.length+more.length
 | [],kvs=>by show kvs.length<=kvs.length+0;lia
 |p::r,kvs=>by
  have h1:=gU r (b7 kvs p.1 p.2)
  grind [dc,fz,b7]
structure M1 (X:Cx) (o:Expr) (m:Str) (apos:Pos) (e:Expr) (cpos:Pos):Prop where
 base:attributeBase o m X.env (eval o X.env)=eval o X.env
 Fu:((backTo cpos (starEach [e] X.env)).all (fun x=>!x.1)&&(backToKw cpos (keywordEach [] X.env)).all (fun x=>x.1.isSome)
  && decide (([e]:List Expr).length+([]:List Keyword).length+(if ([]:List Keyword).isEmpty then 0 else 1)<30))=true
 line:(apos.endLine==cpos.line)=true
 trees:backTo cpos (starEach [e] X.env)=[(false,eval e X.env)]
structure M2 (X:Cx) (o:Expr) (m:Str) (apos:Pos) (e f:Expr) (cpos:Pos):Prop where
 base:attributeBase o m X.env (eval o X.env)=eval o X.env
 Fu:((backTo cpos (starEach [e,f] X.env)).all (fun x=>!x.1)&&(backToKw cpos (keywordEach [] X.env)).all (fun x=>x.1.isSome)
  && decide (([e,f]:List Expr).length+([]:List Keyword).length+(if ([]:List Keyword).isEmpty then 0 else 1)<30))=true
 line:(apos.endLine==cpos.line)=true
 trees:backTo cpos (starEach [e,f] X.env)=[(false,eval e X.env),(false,eval f X.env)]
def IB (H:Hp)(a:Addr):Prop:=(∃ kvs,Rd H a (.dK kvs))\/∃ kvs,Rd H a (.dT kvs)
theorem xh (I:Inv X ac σ H s)(d:IB H a) :
 s.TypeIs (.ref a) "dict"/\(∀ b,Value.ref a=.ref b->∃ ob,s.heap.get? b=some ob/\ob.dict=none)/\(a==sysModules)=false:=by
 rcases d with⟨kvs,e⟩|⟨kvs,e⟩
 .obtain⟨_,hd,vs,_,dd⟩:=ic I.aJ e;refine⟨dd.typeIs,fun b q=>?_,hd⟩;cases q;obtain⟨ob,_,_,h1,h2,_⟩:=dd;exact⟨ob,h1,h2.2.1⟩
 .obtain⟨_,hd,xs,_,dd⟩:=jz I.aJ e;refine⟨dd.typeIs,fun b q=>?_,hd⟩;cases q;obtain⟨ob,_,_,h1,h2,_⟩:=dd;exact⟨ob,h1,h2.2.1⟩
section
theorem C8 (hu:A.units+1<cLine)(I:Inv X ac σ H s)(g:DGet H a y o)(ry:RelV y u)(rd:RelV d r)(h:∀ w' s',Inv X ac σ H s'->RelV (o.getD d) w'->Q w' s') :
 wpAny (model X.prog X.w) A (call (.builtin "dict.get") [.ref a,u,r]) Q E s:=by
 rcases g with⟨kvs,k,e,ey,l⟩|⟨kvs,k,b,e,ey,eb,l⟩
 .subst ey;obtain⟨z,hd,vs,rel,dd⟩:=ic I.aJ e;refine call_meetsIn Qc dd.typeIs PySem.F.entry_dict_get (PySem.F.args_dict_get_3 _ _ _) (meets_dict_get_default (ay X.prog X.w) a (gT ry) hd r) ⟨_,dd.mapOf,h _ _ (I.tok _) ?_⟩;rw[l];exact(rel.val k).getD rd
 .subst ey;cases (show u=Value.ref b from ry);obtain⟨z,hd,xs,rel,dd⟩:=jz I.aJ e;refine call_meetsIn Qc dd.typeIs PySem.F.entry_dict_get (PySem.F.args_dict_get_3 _ _ _) (meetsH_dict_get_default (tupleKind (ay X.prog X.w)) a b hd r) ⟨Og hu,k,xs,cG I.aJ eb,dd,h _ _ (I.tok _) ?_⟩;rw[l];exact(rel.val k).getD rd
end
noncomputable def g0 (td ty tx:TE):TE:=fun σ H Q=>td σ H fun x H1=>∃ a,x=.ref a/\IB H1 a/\ty σ H1 fun y H2=>tx σ H2 fun z H3=>∃ o,DGet H3 a y o/\Q (o.getD z) H3
section
theorem ku (hu:X.A.units+1<cLine) (ho:PE X o td) (he:PE X e ty) (hf:PE X f tx) (m:M2 X o "get" apos e f cpos):PE X (.Call (.Attribute o "get" apos) [e,f] [] cpos) (g0 td ty tx):=by intro ac s σ H Q I h;refine wpAny_Call_method m.base m.Fu m.line NS Qc PySem.F.type_dict_get (bO (ho ac s σ H _ I h) fun u s1 ⟨x,H1,I1,rx,a,ex,d,q1⟩=>?_);subst ex;obtain rfl:u=Value.ref a:=rx;obtain⟨t1,t2,_⟩:=xh I1 d;refine⟨t1,t2,?_⟩;rw[m.trees];refine OS rfl (Qm (Calls.spliced_cons (bO (he ac s1 σ H1 _ I1 q1) fun iv s2 ⟨y,H2,I2,ry,q2⟩=>Calls.spliced_cons (bO (hf ac s2 σ H2 _ I2 q2) fun fv s3 ⟨z,H3,I3,rz,ov,g,q3⟩=>Calls.spliced_nil ?_))));exact C8 hu I3 g ry rz fun w' s4 I4 rw'=>⟨_,H3,I4,rw',q3⟩
end
end L2
namespace Att
open PySem PySem.W PySem.Calls PyProof.Rows
theorem jG:∀(ns:List Int)(vs:List QS),WellAll P h vs (ns.map WData.int)->IntsAre vs ns:=by
 intro ns;induction ns with
 |nil=>intro vs w;rw[QM]at w;cases w;exact .nil
 |cons n ns ih=>
  intro vs w;rw[MC]at w;cases w with
  |cons a b=>cases a;exact .cons _ _ (ih _ b)
theorem u_ {l:OpenLaw}{n:Nat}(hn:l.most=some n){P:Params}
 (hpre:l.row.toRowW.claim.pre args=true) (hwl:WellAll P h vals args) :
 ∃ a vs ns,vals=[Value.ref a]/\args=[WData.list (ns.map WData.int)]/\h.get? a=some { cls:=.type "list",data:=.seq vs.toArray }/\IntsAre vs ns/\ns.length<=n:=by
 have hsh:WShape.hasAll [] args [.list .int]=true:=(pre_splitW hpre).1;have hc:l.pre.holds [] { args:=args }=true:=(pre_splitW hpre).2;obtain⟨d,r,rfl,h1,h2⟩:=hasAllW_cons hsh;obtain rfl:=hasAllW_nil h2;obtain⟨xs,rfl,h3⟩:=hasW_list h1;obtain⟨ns,rfl⟩:=items_int h3;have bJ:ns.length<=n:=by
  unfold OpenLaw.pre at hc;have h4:(WTm.not (.lt (.lit (.int (n:Int))) (.len (.arg 0)))).holds [] { args:=[.list (ns.map .int)] }=true:=by have h4:=(holds_andW hc).1;rw[hn]at h4;exact h4
  have h5:=condW_of h4 (w_not (w_lt w_lit (w_len_list (w_arg rfl))))
  grind
 cases hwl with
 |cons w1 w2=>
  cases w2;cases w1 with
  |list ho gs=>exact⟨_,_,ns,rfl,rfl,ho,jG ns _ gs,bJ⟩
theorem vc (l:OpenLaw)(args:List WData):l.row.toRowW.claim.post args (.bool true) args=true:=
 postW_of (r:=l.row.toRowW) (X:=(true==true))
  (show WShape.has [] (.bool true) .bool=true by first|rfl|decide|simp[WShape.has,WShape.arms,WShape.armsAll])
  (show(WTm.eq .res (.lit (.bool true))).value [] { args:=args,res:=some (.bool true),after:=args }=some (.bool (true==true)) from w_eq_bool (w_res rfl) w_lit) rfl
theorem attach_call {l:OpenLaw}{n:Nat}{XP:(Str->Option QS)->Heap->Prop}{YP:World->Heap->Prop}
 (hn:l.most=some n) (hdf:d.params.defaults=[])
 (call:∀(w:World)(s₀ s₁:QP)(mg mb:Str->Option QS)(fa:Addr)(o:Obj)(pm cd doc:QS)(a:Addr)(vs:List QS)(ns:List Int),
   Ground q loose [] XP w s₀ mg mb s₁.heap->YP w s₁.heap->
   s₁.heap.get? fa=some o->o.data=.func (docDef d.name d.params d.body d.scope pm cd doc)->s₁.heap.CodeRec cd d.name->mg d.name=some (.ref fa)->
   s₁.heap.get? a=some { cls:=.type "list",data:=.seq vs.toArray }->IntsAre vs ns->ns.length<=n->s₁.gens=#[]->
   codeAny (model l.prog w) callerA (.call (.ref fa) ⟨[.ref a],[]⟩) (fun r s'=>r=.ok (.ret (.bool true))/\OldK s₁.heap s'.heap/\s'.os=s₁.os/\AllBare s'.gens) s₁) :
 WalkO q loose XP YP l.row.toRowW d [] (fun f vs=>PySem.call f vs):=by
 intro w s₀ s₁ mg mb G Y fa o pm cd doc dV kV ho hd hcd hD hmg hg args vals as hpre hlay hrd hwl hlo;obtain rfl:dV=.none:=Dflts.none hD hdf;obtain rfl:kV=.none:=Dflts.noKw hD;obtain⟨a,vs,ns,rfl,rfl,hobj,hints,bJ⟩:=u_ hn hpre hwl;refine enter_call (Ps (call w s₀ s₁ mg mb fa o pm cd doc a vs ns G Y ho (fd_plain hd) hcd hmg hobj hints bJ hg) fun r s' hq=>?_);obtain⟨rfl,h2,h3,h4⟩:=hq;exact⟨.inl ⟨.bool true,.bool true,[],rfl,fun _=>rfl,.bool true,vc l _,fun _=>⟨List.Pairwise.nil,fun _ hm=>(nomatch hm)⟩⟩,h2,h3,h4⟩
end Att
namespace L2
open PySem PySem.Spec PyProof.Rows
noncomputable def fA (s:Stmt)(j:Nat):Stmt:=match s with
 | .ClassDef _ _ _ body _ _ _ _ _ _ _=>body.getD j (.Pass ⟨0,0,0,0⟩)
 |_=>.Pass ⟨0,0,0,0⟩
noncomputable def cH (s:Stmt):Arguments:=match s with
 | .FunctionDef _ a _ _ _ _ _ _ _ _=>a
 |_=>{ posonlyargs:=[],args:=[],vararg:=none,kwonlyargs:=[],kw_defaults:=[],kwarg:=none,defaults:=[] }
noncomputable def cb (s:Stmt):List Stmt:=match s with
 | .FunctionDef _ _ b _ _ _ _ _ _ _=>b
 |_=>[]
noncomputable def aC (s:Stmt):Scope:=match s with
 | .FunctionDef _ _ _ _ _ _ sc _ _ _=>sc
 |_=>{ kind:=.function,names:=[],isGenerator:=false,isCoroutine:=false }
noncomputable abbrev kz:wV:=fun _ _ _ _ _ _=>False
noncomputable abbrev E0:XK:=fun _ _ _=>False
theorem bA:ga kz X E0:=fun _ _ _ _ _ _ _ h=>h.elim
structure z9 (K:QQ) (x qual:Str) (st:Stmt) (f:Addr) (fd:FuncData):Prop where
 ex:∃(oc:QS)(od:Option Addr)(kV doc pm:QS)(an:Option Addr)(cdv ct:QS)(osl:Array (Option QS)),
  fd=PySem.W.fnOf x qual (cH st) (cb st) (aC st) .none kV doc pm an cdv ct/\K.lookup f=some ⟨oc,od,.func fd,osl⟩/\PySem.W.codeIn K cdv qual=true
 kp:PySem.W.keepIn K (.ref f)=true
section
variable {P:QR}{w:World}{K:QQ}{mg:Str->Option QS}{base:Heap}
theorem z9.ok {x qual:Str}{st:Stmt}{f:Addr}{fd:FuncData}{N ps:List Str}{k:Nat}{sp:Sp}(F:z9 K x qual st f fd)(S:aR N ps (aC st))(len:∀ vs H Q E,sp vs H Q E->vs.length=ps.length)
 (hbody:∀(cdv:QS)(A:QT)(outer:List Env)(s:QP)(H:Hp)(vs:List V)(Q:VK)(E:XK),cP k (A.deeper (envOfC qual (aC st) s.heap.objs.size f cdv))->sp vs H Q E->
   ∃ t,PSs (rH kz P w K mg base N qual (aC st) f cdv A outer s H E).Hy (cb st) t/\t (eQ Q) (start N vs) H):bD P w K mg base kz (k+1) f fd ps sp:=by
 obtain⟨oc,od,kV,doc,pm,an,cdv,ct,osl,rfl,lk,hcd⟩:=F.ex;refine B5 lk hcd S len fun A outer s H vs Q E hr hsp=>?_;obtain⟨t,h,q⟩:=hbody cdv A outer s H vs Q E hr hsp;exact⟨t,h.Hy,q⟩
theorem z9.binds {x qual:Str}{st:Stmt}(F:z9 K x qual st f fd)
 (h:∀(kV doc pm:QS)(an:Option Addr)(cdv ct:QS)(us:List QS),us.length=ps.length->bindArgs (PySem.W.fnOf x qual (cH st) (cb st) (aC st) .none kV doc pm an cdv ct) ⟨us,[]⟩=pure (ps.zip us)):Binds K fd ps []:=by
 obtain⟨oc,od,kV,doc,pm,an,cdv,ct,osl,rfl,lk,hcd⟩:=F.ex;exact .all (h kV doc pm an cdv ct)
theorem xi {x qual:Str}{st:Stmt}{f:Addr}{oc:QS}{od an:Option Addr}{osl:Array (Option QS)}{kV doc pm cdv ct:QS}(l:K.lookup f=some ⟨oc,od,.func (PySem.W.fnOf x qual (cH st) (cb st) (aC st) .none kV doc pm an cdv ct),osl⟩)
 (c:PySem.W.codeIn K cdv qual=true) (k:PySem.W.keepIn K (.ref f)=true):z9 K x qual st f (PySem.W.fnOf x qual (cH st) (cb st) (aC st) .none kV doc pm an cdv ct):=⟨⟨oc,od,kV,doc,pm,an,cdv,ct,osl,rfl,l,c⟩,k⟩
end
theorem gd (hr:cP k A):A.units+1<cLine:=Nn (Nat.add_le_add_left (by decide:1<=64) _) hr.units
section
theorem pv (i:Nat){x:Str}{pos:Pos}(hN:autoParam (X.N[i]?=some x) QZ._auto_1)(hv:autoParam (Iq X.env.scope x) QW._auto_1)(hd:autoParam (dB x) QU._auto_1)
 (hcd:autoParam ((x==("__classdict__" : Str))=false) QU._auto_1):PE X (.Name x pos) (aj i):=CL hN hv hd hcd
end
theorem b_ {A B:Prop}(h:B):if false=true then A else B:=by rw[Mj MF];exact h
theorem gf {A B:Prop}(h:A):if true=true then A else B:=by rw[Mh rfl];exact h
theorem IC {c A B:Prop}[Decidable c](h1:c->A)(h2:¬ c->B):if c then A else B:=by
 by_cases h:c
 .rw[Mh h];exact h1 h
 .rw[Mj h];exact h2 h
def Same (H H':Hp):Prop:=∀ b o,H b=some o->H' b=some o
theorem Same.trans (a:Same H H1)(b:Same H1 H2):Same H H2:=fun c o h=>b c o (a c o h)
theorem Same.free (e:Same H H')(h:H' l=Option.none):H l=Option.none:=by
 cases q:H l with
 |none=>rfl
 |some o=>rw[e l o q]at h;cases h
def vd (P:QR)(w:World):wV:=fun outer H s E e s'=>
 ∃(x C t:Addr)(B:Heap)(H':Hp),e=.ref x/\s'.os=s.os/\AllBare s'.gens/\Un (f7 outer) [] H H' s.heap s'.heap/\HOk P w H' s'.heap/\
  Heap.FlyingW B outer x (.ref C) (.ref t) s'.heap/\(∀ b u,H' b=some u->∃ o,B.get? b=some o)/\(∀ b o,s.heap.get? b=some o->Qt H b->b∉f7 outer->B.get? b=some o)/\
  (∀ b o,s.heap.get? b=some o->b∉f7 outer->∃ o',B.get? b=some o')/\H' x=none/\E (.ref C) none H'
theorem i6 {H:Hp}{B h1 h2:Heap}(ok:HOk P w H h1)(px:∀ b u,H b=some u->∃ o,B.get? b=some o)(s1:B.StaysIn h1)(s2:B.StaysIn h2):HOk P w H h2:=fun a o e=>(ok a o e).stay (fun b u hb q=>by have hb':∃ v,H b=some v:=hb.elim (fun z=>⟨o,by rw[z];exact e⟩) fun z=>⟨_,z⟩;obtain⟨v,hv⟩:=hb';obtain⟨o',ho⟩:=px b v hv;have:=s1 b o' ho;rw[q]at this;cases this;exact s2 b _ ho) (fun _ q=>q) fun _ _ q=>q
theorem kA:∀{o:HO},ObjOk P w H h a o->∃ ob,h.get? a=some ob
 | .lst xs,x=>by obtain⟨_,_,_,_,e⟩:=x;exact⟨_,e⟩
 | .tup xs,x=>by obtain⟨_,_,_,⟨_,e,_⟩⟩:=x;exact⟨_,e⟩
 | .dK kvs,x=>by obtain⟨_,_,_,_,o,_,_,e,_⟩:=x;exact⟨_,e⟩
 | .dT kvs,x=>by obtain⟨_,_,_,_,o,_,_,e,_⟩:=x;exact⟨_,e⟩
 | .set S n,x=>by obtain⟨o,_,_,_,e,_⟩:=x;exact⟨_,e⟩
 | .ins C dx fs,x=>by obtain⟨_,_,_,e,_⟩:=x;exact⟨_,e⟩
 | .own y,x=>x
 | .xd fs,x=>by obtain⟨_,⟨_,_,_,e,_⟩,_⟩:=x;exact⟨_,e⟩
 | .Il lo hi,x=>by obtain⟨_,_,_,e⟩:=x;exact⟨_,e⟩
 | .bQ ob u,x=>by obtain⟨e,_⟩:=x;exact⟨_,e⟩
 | .pc ps,x=>⟨_,(show h.get? a=some _ from x)⟩
 | .met f y,x=>⟨_,(show h.get? a=some _ from x)⟩
 | .ext φ,x=>x.2.1
section
variable {P:QR}{w:World}{K:QQ}{mg:Str->Option QS}{base:Heap}{N:List Str}{qual:Str}{scope:Scope}{f:Addr}{cd:QS}{A:QT}{outer:List Env}{s₀:QP}{H₀:Hp}{E:XK}
abbrev nZ (P:QR)(w:World)(K:QQ)(mg:Str->Option QS)(base:Heap)(N:List Str)(qual:Str)(scope:Scope)(f:Addr)(cd:QS)(A:QT)(outer:List Env)(s:QP)(H:Hp)(E:XK):Cx:=rH (vd P w) P w K mg base N qual scope f cd A outer s H E
theorem pK (I:Inv (nZ P w K mg base N qual scope f cd A outer s₀ H₀ E) ac σ H s)(e:s₀.heap.get? b=some o)(hb:b∉f7 outer) :
 b∉f7 (nZ P w K mg base N qual scope f cd A outer s₀ H₀ E).stack:=fun z=>by
 rcases Mv.mp (I.lL b z) with q|q
 .exact absurd (MY (Mx e) (Mq I.ok.above (Nat.le_of_eq q.symm))) (Oj _)
 .exact hb q
theorem rO (hb:b∈f7 outer):b∈f7 (nZ P w K mg base N qual scope f cd A outer s₀ H₀ E).stack:=by show b∈f7 (envOfC qual scope s₀.heap.objs.size f cd::outer);unfold f7;rw[OI];have:(envOfC qual scope s₀.heap.objs.size f cd).frame=some s₀.heap.objs.size:=rfl;rw[this];exact Ms _ hb
theorem jQ:ga (vd P w) (nZ P w K mg base N qual scope f cd A outer s₀ H₀ E) E:=by
 intro ac σ H s e s' I h;obtain⟨x,C,t,B,H',rfl,os,bare,un,aJ,fly,px,unt,inB,hx,hE⟩:=h;show wpAny _ _ (leaving _ _) _ _ s';have nx:∀ b:Addr,b∉(nZ P w K mg base N qual scope f cd A outer s₀ H₀ E).ex:=fun b z=>absurd (show b∈([]:List Addr) from z) (by simp);refine wpAny_leaves_onW I.ok.frames rfl fly fun h' fly' up=>?_;have nf:∀ b,b∈f7 outer->∀ o,s'.heap.get? b=some o->∀ vs,o.data≠.fields vs:=fun b hb o e=>by obtain⟨_,o',e',d⟩:=fly.2.2.1.mem (rO (P:=P) (w:=w) (K:=K) (mg:=mg) (base:=base) (N:=N) (H₀:=H₀) (E:=E) (A:=A) hb);rw[e]at e';cases e';exact d
 refine⟨x,C,t,B,H',rfl,os.trans I.os,bare,⟨fun b o e n hb _=>?_,fun b o e n hb _=>?_,fun b o e n _=>?_,fun b o e _=>?_,fun b xs q=>un.gv b xs (I.base.gv b xs q),fun b o u q=>un.gA b o u (I.base.gA b o u q),fun b ps q=>?_⟩,i6 aJ px fly.1 fly'.1,fly',px,fun b o e n hb=>?_,fun b o e hb=>?_,hx,hE⟩
 .exact fly'.1 b o (unt b o (I.base.keep b o e n hb (nx b)) (n.imp (fun n=>I.base.free b o e n (nx b)) fun⟨xs,q⟩=>⟨xs,I.base.gv b xs q⟩) (pK I e hb))
 .obtain⟨sl,e1⟩:=I.base.slot b o e n hb (nx b);obtain⟨sl',e2⟩:=un.slot b _ e1 (I.base.free b o e n (nx b)) (rO hb) (by simp);obtain⟨sl'',e3⟩:=up b _ e2 (nf b hb _ e2);exact⟨sl'',e3⟩
 .obtain⟨o1,e1⟩:=I.base.there b o e (nx b);exact un.free b o1 e1 (I.base.free b o e n (nx b)) (by simp)
 .obtain⟨o1,e1⟩:=I.base.there b o e (nx b);by_cases hb:b∈f7 outer
  .obtain⟨o2,e2⟩:=un.there b o1 e1 (by simp);obtain⟨sl,e3⟩:=up b _ e2 (nf b hb _ e2);exact⟨_,e3⟩
  .obtain⟨o',q⟩:=inB b o1 e1 (pK I e hb);exact⟨o',fly'.1 b o' q⟩
 .obtain⟨m1,e1⟩:=I.base.jO b ps q;obtain⟨m2,e2⟩:=un.jO b _ e1;exact⟨m1++m2,by rw[e2,Array.append_assoc]⟩
 .exact unt b o (I.base.keep b o e n hb (nx b)) (n.imp (fun n=>I.base.free b o e n (nx b)) fun⟨xs,q⟩=>⟨xs,I.base.gv b xs q⟩) (pK I e hb)
 .obtain⟨o1,e1⟩:=I.base.there b o e (nx b);exact inB b o1 e1 (pK I e hb)
theorem Ay {s:QP}{h':Heap}{x C:Addr}{args:List QS}(I:Inv (nZ P w K mg base N qual scope f cd A outer s₀ H₀ E) ac σ H s)(hx:Heap.MadeExcOf s.heap h' x (.ref C) args)(hE:E (.ref C) none H) :
 (nZ P w K mg base N qual scope f cd A outer s₀ H₀ E).xe (.ref x) { s with heap:=h' }:=by
 show wpAny _ _ (leaving _ _) _ _ _;have nx:∀ b:Addr,b∉(nZ P w K mg base N qual scope f cd A outer s₀ H₀ E).ex:=fun b z=>absurd (show b∈([]:List Addr) from z) (by simp);have hin:∀ env∈(nZ P w K mg base N qual scope f cd A outer s₀ H₀ E).stack,∀ b,env.frame=some b->b∈f7 (nZ P w K mg base N qual scope f cd A outer s₀ H₀ E).stack:=fun env he b hb=>OT.mpr ⟨env,he,hb⟩;have FF:=I.stack;refine wpAny_leaves_madeW (base:=PySem.W.hideAll s.heap (f7 (nZ P w K mg base N qual scope f cd A outer s₀ H₀ E).stack)) I.ok.frames rfl (fun b o q=>Qr _ q) (PySem.W.funFrames_hide FF hin) hx fun h'' t fly _ _ up=>?_;have inB:∀ b o,s.heap.get? b=some o->b∉f7 (nZ P w K mg base N qual scope f cd A outer s₀ H₀ E).stack->(PySem.W.hideAll s.heap (f7 (nZ P w K mg base N qual scope f cd A outer s₀ H₀ E).stack)).get? b=some o:=fun b o e hb=>PySem.W.hideAll_get _ e hb;have px:∀ b u,H b=some u->∃ o,(PySem.W.hideAll s.heap (f7 (nZ P w K mg base N qual scope f cd A outer s₀ H₀ E).stack)).get? b=some o:=fun b u e=>by obtain⟨o,ho⟩:=kA (I.aJ b u e);exact⟨o,inB b o ho fun z=>by rw[I.oZ b z]at e;cases e⟩
 have st:(PySem.W.hideAll s.heap (f7 (nZ P w K mg base N qual scope f cd A outer s₀ H₀ E).stack)).StaysIn s.heap:=fun b o q=>Qr _ q;have nf:∀ b,b∈f7 outer->∀ o,s.heap.get? b=some o->∀ vs,o.data≠.fields vs:=fun b hb o e=>by obtain⟨_,o',e',d⟩:=FF.mem (rO (P:=P) (w:=w) (K:=K) (mg:=mg) (base:=base) (N:=N) (H₀:=H₀) (E:=E) (A:=A) hb);rw[e]at e';cases e';exact d
 have hxn:H x=none:=by
  cases q:H x with
  |none=>rfl
  |some u=>obtain⟨o,ho⟩:=kA (I.aJ x u q);rw[hx.new]at ho;cases ho
 refine⟨x,C,t,_,H,rfl,I.os,I.bare,⟨fun b o e n hb _=>?_,fun b o e n hb _=>?_,fun b o e n _=>I.base.free b o e n (nx b),fun b o e _=>?_,I.base.gv,I.base.gA,I.base.jO⟩,i6 I.aJ px st fly.1,fly,px,fun b o e n hb=>?_,fun b o e hb=>?_,hxn,hE⟩
 .exact fly.1 b o (inB b o (I.base.keep b o e n hb (nx b)) (pK I e hb))
 .obtain⟨sl,e1⟩:=I.base.slot b o e n hb (nx b);obtain⟨sl',e2⟩:=up b _ (hx.keeps b _ e1) (nf b hb _ e1);exact⟨sl',e2⟩
 .obtain⟨o1,e1⟩:=I.base.there b o e (nx b);by_cases hb:b∈f7 outer
  .obtain⟨sl,e2⟩:=up b _ (hx.keeps b _ e1) (nf b hb _ e1);exact⟨_,e2⟩
  .exact⟨o1,fly.1 b o1 (inB b o1 e1 (pK I e hb))⟩
 .exact inB b o (I.base.keep b o e n hb (nx b)) (pK I e hb)
 .obtain⟨o1,e1⟩:=I.base.there b o e (nx b);exact⟨o1,inB b o1 e1 (pK I e hb)⟩
theorem ID:PassesOwn (model P w) (nZ P w K mg base N qual scope f cd A outer s₀ H₀ E).A (nZ P w K mg base N qual scope f cd A outer s₀ H₀ E).env (nZ P w K mg base N qual scope f cd A outer s₀ H₀ E).xe:=by
 show PassesOwn _ _ _ (fun e s'=>wpAny _ _ (leaving _ e) _ _ s')
 passes_own
end
abbrev rP:List QS:=[.type "ValueError",.type "Exception",.type "BaseException",.type "object"]
def xj (h:Heap) (C:Addr) (bm:List QS):Prop:=∃ N nm q bs hdct sn sub ab col dd k0 k1 k2 k3 k5 mN,h.get? C=some (excClassObj nm q C N bs bm hdct sn sub ab col dd k0 k1 k2 k3 k5 "ValueError.__new__")/\h.Ns N mN/\mN "__init__"=none/\OwnTail h rP bm
noncomputable def n8 (K:QQ)(C:Addr):List QS:=match K.lookup C with
 |some ⟨_,_,.cls cd,_⟩=>cd.mro
 |_=>[]
theorem kB {K:QQ} (X:K.In h) (q:PySem.W.excIn K C rP "ValueError.__new__"=true):∃ bm,n8 K C=.ref C::bm/\xj h C bm:=by
 have q0:=q;unfold PySem.W.excIn at q;unfold n8;cases ho:K.lookup C with
 |none=>rw[ho]at q;cases q
 |some ob=>
  rw[ho]at q;split at q
  .rename_i dd cd sl he;injection he with he;subst he;dsimp only;split at q
   .rename_i D bm k0 k1 k2 k3 n k5 hm hs;rw[hm];simp only[Nv,Pq,Bool.not_eq_true']at q;obtain⟨⟨⟨⟨⟨hD,hn⟩,hdel⟩,ht⟩,aJ⟩,hni⟩:=q;refine⟨bm,by rw[hD],?_⟩;obtain⟨nm,bs,mro,ns,qn,hd,sn,sub,ab,col,del⟩:=cd;dsimp only at hm hdel aJ hni;have es:sl=#[k0,k1,k2,k3,some (.builtin n),k5]:=by
     cases sl with
     |mk l=>simp only at hs;rw[hs]
    rw[hn]at es;subst es;have hC:=X _ _ ho;rw[hdel,hm,hD]at hC;exact⟨ns,nm,qn,bs,hd,sn,sub,ab,col,dd,k0,k1,k2,k3,k5,_,hC,.of_isNs (PySem.W.isNs_of_in X aJ),PySem.W.nsMap_none_of_in X aJ hni,PySem.W.tail_of_in X ht⟩
   .cases q
  .cases q
structure XC (K:QQ) (mg:Str->Option QS) (c:Str) (C:Addr):Prop where
 gl:mg c=some (.ref C)
 ex:PySem.W.excIn K C rP "ValueError.__new__"=true
section
variable {X:Cx}{c:Str}{C:Addr}{np cpos pos:Pos}{e₀:Expr}{rest:List Expr}{t:TA}
noncomputable def xk (t:TA)(EW:Hp->Prop):TS:=fun _ σ H=>t σ H fun vs H'=>vs.length<=sizeLine/\EW H'
theorem xl {EW:Hp->Prop}(hc:XC X.K X.mg c C)(hg:Gl X c)(hcalm:X.calm=true)(ha:PA X (e₀::rest) t)
 (hl:∀(ac:List (Addr×Obj))(σ:St)(H:Hp)(s:QP)(h':Heap)(x:Addr)(args:List QS),Inv X ac σ H s->Heap.MadeExcOf s.heap h' x (.ref C) args->EW H->X.xe (.ref x) { s with heap:=h' })
 (he:autoParam (starEach (e₀::rest) X.env=(false,eval e₀ X.env)::starEach rest X.env) QZ._auto_1) (hpl:autoParam (bT X cpos rest) QZ._auto_1) (hd:autoParam (dB c) QU._auto_1) :
 PS X (.Raise (some (.Call (.Name c np) (e₀::rest) [] cpos)) none pos) (xk t EW):=by
 intro ac s σ H D I h;obtain⟨bm,_,N,nm,q,bs,hdct,sn,sub,ab,col,dd,k0,k1,k2,k3,k5,mN,hC,hN,hni,TL⟩:=kB I.ok.mod.EO hc.ex;have fb:=PySem.F.excBase_ValueError;refine wpAny_Raise_call_subU (C:=C) (nm:=nm) (q:=q) (N:=N) (bs:=bs) (bm:=bm) (hdct:=hdct) (sn:=sn) (sub:=sub) (ab:=ab) (col:=col) (dd:=dd) (k0:=k0) (k1:=k1) (k2:=k2) (k3:=k3) (k5:=k5) (bmB:=rP)
  fb (by decide +kernel) fb (mN:=mN) (TL.hasType fb.hasBase) (I.ok.hd hcalm) ?_ hni (h9 I hg hc.gl ⟨rfl,?_⟩ hd)
 .rw[he];show(false || (backTo cpos (starEach rest X.env)).any (·.1))=false;rw[hpl];rfl
 .have ha':=ha cpos ac s σ H _ I h;rw[he]at ha' ⊢;refine Qm (NC ha' (fun us s2 ⟨vs,H2,I2,r,q2⟩=>?_) fun _ _ y=>y);exact⟨rfl,by rw[<- r.length];exact q2.1,I2.bk _ _ hC,hN.keeps I2.bk,TL.keeps I2.bk,fun h' e hm=>hl ac σ H2 s2 h' e us I2 hm q2.2⟩
end
section
variable {M:Model}{A:QT}{E:QS->QP->Prop}
theorem lU (hC:xj s.heap C bm)(hC':xj s.heap C' bm')(he:s.heap.get? e=some oe)(hcls:oe.cls=.ref C)
 (hq:Q ((Value.ref C::bm).contains (.ref C')) s):wpAny M A (excMatches (.ref e) (.ref C')) Q E s:=by
 obtain⟨N,nm,q,bs,hd,sn,sub,ab,col,dd,k0,k1,k2,k3,k5,mN,hC,_,_,_⟩:=hC;obtain⟨N',nm',q',bs',hd',sn',sub',ab',col',dd',k0',k1',k2',k3',k5',mN',hC',_,_,TL'⟩:=hC';obtain⟨h,g,d,t,os⟩:=s;have hcB:(Value.ref C'::bm').contains (.type "BaseException")=true:=by rw[List.contains_cons,TL'.hasType PySem.F.excBase_ValueError.hasBase,Bool.or_true]
 have f:=tc_notTuple;unfold excMatches
 repeat (first|(with_reducible refine wpAny_loadPart_at he ?_;rw[hcls])|with_reducible refine wpAny_loadPart_at hC' ?_|(with_reducible refine wpAny_isSubtype_exc hC' ?_;rw[hcB])|with_reducible refine wpAny_isSubtype_exc hC ?_|wp_step)
 cases hb:(Value.ref C::bm).contains (.ref C')<;>(rw[hb]at hq;wp_walk;exact hq)
end
abbrev TX:=St->Hp->VK->XK->Prop
def J9 (X:Cx)(e:Expr)(t:TX):Prop:=∀(ac:List (Addr×Obj))(s:QP)(σ:St)(H:Hp)(Q:VK)(EX:XK),Inv X ac σ H s->t σ H Q EX->
 wpAny (model X.prog X.w) X.A (eval e X.env) (EP X ac σ Q) (fun ev s'=>∃ H1 s1,Inv X ac σ H1 s1/\vd X.prog X.w X.stack H1 s1 EX ev s') s
section
variable {X:Cx}{k:Nat}{f:Addr}{fd:FuncData}{ps:List Str}{sp:Sp}{dvs:List V}{ds:List QS}{x:Str}{p pos:Pos}{e:Expr}{es:List Expr}{t:TA}
theorem xm (F:bD X.prog X.w X.K X.mg X.base (vd X.prog X.w) k f fd ps sp)(hr:cP k X.A)(hg:Gl X x)(hm:X.mg x=some (.ref f))(hk:PySem.W.keepIn X.K (.ref f)=true)(hb:Binds X.K fd ps ds)(hd:Vals dvs ds)(ha:PA X.Hy (e::es) t)
 (hdb:autoParam (dB x) QU._auto_1) (he:autoParam (sE X e es) QZ._auto_1) (hpl:autoParam (bT X pos es) QZ._auto_1) :
 J9 X (.Call (.Name x p) (e::es) [] pos) (fun σ H Q EX=>t σ H fun vs H1=>sp (vs++dvs) H1 Q EX):=by
 intro ac s σ H Q EX I h;refine OU (h9 I hg hm ?_ hdb);refine Px (h₀:=X.base) I.ok.mod.EO hk (NC (ha pos ac s σ H _ (I.lN _) h) (fun us s1 ⟨vs,H1,I1,r,q⟩=>⟨I1.f6,?_⟩) fun _ _ z=>False.elim z) he hpl;have J:Inv X ac σ H1 s1:=I1.fM;have r2:Vals (vs++dvs) (us++ds):=r.append hd;have hl:(us++ds).length=ps.length:=by rw[<- r2.length];exact F.len _ _ _ _ q
 refine wpAny_call (Ps (F.run X.A X.stack s1 H1 ⟨us,[]⟩ (us++ds) (vs++dvs) Q EX hr J.E5 (hb s1 us J.f6 hl) r2 q) fun r s' hq=>?_);cases r with
 |error ev=>exact⟨H1,s1,J,hq⟩
 |ok fl=>
  cases fl with
  |ret u=>exact J.after hq
  |next=>exact False.elim hq
  |brk=>exact False.elim hq
  |cont=>exact False.elim hq
end
noncomputable abbrev Cx.caught (X:Cx)(x:Addr):Cx:={ X with A:=X.A.mark (some (.ref x)),calm:=false,xe:=fun _ _=>False }
section
variable {X:Cx}{ac:List (Addr×Obj)}{σ:St}{H:Hp}{s:QP}{x:Addr}
theorem Inv.caught (I:Inv X ac σ H s)(x:Addr):Inv (X.caught x) ac σ H s:=⟨⟨I.ok.mod,I.ok.kind,I.ok.glob,I.ok.blt,I.ok.above,I.ok.inj,I.ok.has,I.ok.E_,(fun z=>by cases z),I.ok.frames,I.ok.wA,I.ok.Im,I.ok.bs,I.ok.zE,I.ok.tw,I.ok.wq,I.ok.iZ,I.ok.BQ,I.ok.kt⟩,I.os,I.bare,I.base,I.loc,I.cell,I.free,I.d5,I.pin,I.aJ,I.len⟩
theorem Inv.uncaught (I:Inv (X.caught x) ac σ H s)(ok:X.Ok):Inv X ac σ H s:=⟨ok,I.os,I.bare,I.base,I.loc,I.cell,I.free,I.d5,I.pin,I.aJ,I.len⟩
theorem SP.uncaught {D:Ends}{f:Flow}{s':QP}(h:SP (X.caught x) ac D f s')(ok:X.Ok):SP X ac D f s':=by
 cases f with
 |next=>obtain⟨σ',H',I,q⟩:=h;exact⟨σ',H',I.uncaught ok,q⟩
 |brk=>obtain⟨σ',H',I,q⟩:=h;exact⟨σ',H',I.uncaught ok,q⟩
 |cont=>obtain⟨σ',H',I,q⟩:=h;exact⟨σ',H',I.uncaught ok,q⟩
 |ret u=>obtain⟨v,σ',H',I,r,q⟩:=h;exact⟨v,σ',H',I.uncaught ok,r,q⟩
theorem Inv.landed {H1:Hp}{s1 s':QP}{B:Heap}{h6:Heap}{C t:Addr}{g6:Array GenState}{l:List Env}(I:Inv X ac σ H1 s1)(os:s'.os=s1.os)(bare:AllBare s'.gens)(un:Un (f7 X.stack) [] H1 H s1.heap s'.heap)(aJ:HOk X.prog X.w H s'.heap)(fly:Heap.FlyingW B X.stack x (.ref C) (.ref t) s'.heap)
 (px:∀ b u,H b=some u->∃ o,B.get? b=some o) (unt:∀ b o,s1.heap.get? b=some o->Qt H1 b->b∉f7 X.stack->B.get? b=some o) (inB:∀ b o,s1.heap.get? b=some o->b∉f7 X.stack->∃ o',B.get? b=some o')
 (st:B.StaysIn h6) (up:s'.heap.UpToSlots h6):Inv X ac σ H { s' with heap:=h6 }:=by
 have nf:∀ b,b∈f7 X.stack->∀ o,s'.heap.get? b=some o->∀ vs,o.data≠.fields vs:=fun b hb o e=>by obtain⟨_,o',e',d⟩:=fly.2.2.1.mem hb;rw[e]at e';cases e';exact d
 refine I.CD (ch:=[]) os ⟨fun b o e n hb _=>st b o (unt b o e n hb),fun b o e n hb _=>?_,fun b o e n hx=>un.free b o e n hx,fun b o e hx=>?_,un.gv,un.gA,un.jO⟩ (i6 aJ px fly.1 st) bare fun b z=>absurd z (by simp)
 .obtain⟨sl,e1⟩:=un.slot b o e n hb (by simp);obtain⟨sl',e2⟩:=up b _ e1 (nf b hb _ e1);exact⟨sl',e2⟩
 .by_cases hb:b∈f7 X.stack
  .obtain⟨o1,e1⟩:=un.there b o e (by simp);obtain⟨sl',e2⟩:=up b _ e1 (nf b hb _ e1);exact⟨_,e2⟩
  .obtain⟨o',q⟩:=inB b o e hb;exact⟨o',st b o' q⟩
end
def xn (X:Cx) (Ch:Addr) (ts:TS) (D:Ends) (σ:St):XK:=fun cls _ H1=>∃ C,cls=.ref C/\PySem.W.excIn X.K C rP "ValueError.__new__"=true/\(n8 X.K C).contains (.ref Ch)=true/\ts D σ H1
section
variable {X:Cx}{hc:Str}{Ch:Addr}{np hpos pos epos:Pos}{b₀:Stmt}{suite:List Stmt}{ts:TS}{te:TX}{e:Expr}
theorem rQ {ac:List (Addr×Obj)}{σ:St}{D:Ends}{ev:QS}{s':QP}(hst:X.stack=X.env::X.outer)(hf:X.env.frame=some X.env.locals)(hx:XC X.K X.mg hc Ch)(hg:Gl X hc)(hs:∀ x,PSs (X.caught x) (b₀::suite) ts)
 (h:∃ H1 s1,Inv X ac σ H1 s1/\vd X.prog X.w X.stack H1 s1 (xn X Ch ts D σ) ev s') (hdb:autoParam (dB hc) QU._auto_1) :
 wX X (noteFrame ev X.env) (fun _ s2=>wX X (setFlight ev none) (fun _ s3=>wX X (handleBy ev X.env [.ExceptHandler (some (.Name hc np)) none (b₀::suite) hpos]) (SP X ac D) X.xe s3) X.xe s2) X.xe s':=by
 obtain⟨H1,s1,I1,x,C,t,B,H',rfl,os,bare,un,aJ,fly,px,unt,inB,hxn,C0,ec,hex,hmr,q⟩:=h;cases ec;have fly':Heap.FlyingW B (X.env::X.outer) x (.ref C) (.ref t) s'.heap:=hst▸fly;have fr:X.A.frames=some (X.env::X.outer):=hst▸I1.ok.frames;refine wpAny_looks_onW fr hf fly' fun h4 held up4=>?_;refine wpAny_landsW held fun h5 fly5 up5=>?_;have up45:=up4.trans up5;have I5:Inv X ac σ H' { s' with heap:=h5 }:=I1.landed (l:=[]) (g6:=#[]) os bare un aJ fly px unt inB fly5.1 up45;obtain⟨bm,em,hC⟩:=kB I5.f6 hex;obtain⟨bm',em',hC'⟩:=kB I5.f6 hx.ex;obtain⟨oe,he,hcls⟩:=fly5.there;refine wpAny_handleBy_cons (codeAny_handlers_test (h9 (X:=X.caught x) (I5.caught x) hg hx.gl ?_ hdb)) (by intro z;cases z);refine lU hC hC' he hcls ?_;rw[em]at hmr;rw[hmr];refine codeAny_handlers_suite ?_;refine lands_againW fly5 fun h6 fly6 up6=>?_;have I6:Inv X ac σ H' { s' with heap:=h6 }:=I1.landed (l:=[]) (g6:=#[]) os bare un aJ fly px unt inB fly6.1 (up45.trans up6);exact NC (hs x ac _ σ H' D (I6.caught x) q) (fun f s7 h7=>h7.uncaught I6.ok) fun _ _ z=>False.elim z
theorem Az (hst:X.stack=X.env::X.outer)(hf:X.env.frame=some X.env.locals)(hx:XC X.K X.mg hc Ch)(hg:Gl X hc)(he:J9 X e te)(hs:∀ x,PSs (X.caught x) (b₀::suite) ts)
 (hsw:autoParam (swapsWith e none epos.line X.env=pure false) QZ._auto_1) (hdb:autoParam (dB hc) QU._auto_1) :
 PS X (.Try [.Expr e epos] [.ExceptHandler (some (.Name hc np)) none (b₀::suite) hpos] [] [] pos) (fun D σ H=>te σ H (fun _ H1=>D.nx σ H1) (xn X Ch ts D σ)):=by
 intro ac s σ H D I h;refine wpAny_Try_except ?_;refine wpAny_execs_cons (wpAny_Expr_any (NC (he ac s σ H _ _ I h) (fun v s1 ⟨y,H1,I1,r1,q1⟩=>?_) fun ev s' z=>?_) I.quiet hsw)
 .exact OX (OX ⟨σ,H1,I1,q1⟩)
 .exact rQ hst hf hx hg hs z hdb
end
end L2
namespace L2
open PySem PySem.Spec PySem.Calls PyProof.Rows
theorem jH
 (hx:s.heap.get? a=some o) (hc:o.cls=.type "list") (hdat:o.data=.seq xs k) (hd:o.dict=none) (hmiss:typeLookup (.type "list") name=pure none) (hname:(["__module__", "__name__", "__qualname__", "__doc__", "__annotations__"]:List Str).contains name=false) (hA:A.handled=none)
 (h:∀ h' tk e,Heap.NewExcOf s.heap h' e "AttributeError"->Q none { s with heap:=h',toks:=tk }) (hsz:name.length+100<=sizeLine:=by size_fits) :
 wpAny (model prog w) A (getAttr? (.ref a) name) Q E s:=by
 obtain⟨c,dct,dat,sl⟩:=o;simp only at hc hdat hd;subst hc hdat hd;obtain⟨hp,g,d,tk,os⟩:=s;have hT:∀ tk',(⟨hp,g,d,tk',os⟩ : QP).TypeIs (.ref a) "list":=fun _=>⟨_,hx,rfl⟩;have f1:=sub_AttributeError;have f3:=PySem.F.slot_list_getattribute.lookup;have f4:=PySem.F.slot_list_getattribute.bind (.ref a);have f5:=am_list_getattr_none;unfold getAttr? getAttrBy? getAttrBy
 repeat (any_goals (first|assumption|exact hT _|((with_reducible show wpAny _ _ (call (Value.builtin "list.__getattribute__") _ _) _ _ _);refine call_meets PySem.F.slot_list_getattribute (hT _) am_entry_list_getattribute (PySem.F.args_list_getattribute_2 _ _) (meets_getattribute_miss_list a xs k sl name _ hmiss hname hsz) ⟨hx,hA,fun h' tk' e hx'=>?_⟩)|wp_step))
 obtain⟨t',u',he⟩:=hx'.there;show wpAny _ _ (getattributeRaised _ _ _ _ _ _ _) _ _ _;unfold getattributeRaised
 repeat (any_goals (first|assumption|wp_step))
 exact h _ _ _ hx'.of
theorem io:entryFor table "dict.update.loop"=some Builtin.«dict.update.loop»:=entryFor_of_tree (by kernel_rfl)
theorem dt:plainId "dict.update.loop"=true:=by decide +kernel
section
variable {prog:QR}{w:World}
abbrev tK (prog:QR)(w:World):=tupleKind (ay prog w)
theorem jR (x:(tK prog w).is h k a)(e:∀ b o,h.get? b=some o->h'.get? b=some o):(tK prog w).is h' k a:=by obtain⟨o,items,n,h1,r⟩:=x;exact⟨o,items,n,e _ _ h1,r⟩
end
end L2
namespace L2
open PySem PySem.Spec PySem.Calls PyProof.Rows PySem.W Builtin Builtin.ObjectAttr Builtin.Getset_descriptor
end L2
namespace L2
open PySem PySem.Spec PySem.Calls PyProof.Rows
section
theorem Inv.JZ (I:Inv X ac σ H s)(e:H a=some (.dK [])):Inv X ac σ (upd H a (.dT [])) s:=by
 obtain⟨z,y,vs,r,o,es,ep,h1,h2,h3,h4,h5⟩:=(show ObjOk X.prog X.w H s.heap a (.dK []) from I.aJ a _ e);cases r;exact I.write (x:=a) (e:=a) (t':=s.toks) (h':=s.heap) (by rw[e];exact True.intro) (.inl rfl) (fun b u _ q=>q) ⟨o,h1⟩ ⟨z,y,[],.nil,o,es,ep,h1,h2,h3,(by
  generalize es.toList=l at h5;obtain⟨h5,_⟩:=h5;cases l with
  |nil=>rfl
  |cons x r=>cases h5),OR⟩
end
def DGetX (H:Hp)(a:Addr)(y:V)(r:Option V):Prop:=DGet H a y r\/(Rd H a (.dT [])/\(∃ k,y=kV k)/\r=none)\/(Rd H a (.dK [])/\(∃(b:Addr)(k:List bh),y=.ref b/\H b=some (.tup (k.map kV)))/\r=none)
section
theorem i7 (x:ObjOk P w H h a (.dT [])):(a==sysModules)=false/\h.DictOf (ay P w) a []:=by
 obtain⟨z,y,xs,r,o,es,ep,h1,h2,h3,h4,h5⟩:=x;cases r;have e:es=#[]:=by grind
 subst e;exact⟨y,o,#[],ep,h1,h2,h3,fun x hx=>by simp at hx,by constructor,OR⟩
theorem xo (x:ObjOk P w H h a (.dK [])):(a==sysModules)=false/\h.DictOfH (tupleKind (ay P w)) a []:=by
 obtain⟨z,y,vs,r,o,es,ep,h1,h2,h3,h4,h5⟩:=x;cases r;refine⟨y,o,es,ep,h1,h2,h3,?_,fun x hx=>(nomatch hx),OR⟩;generalize es.toList=l at h5;obtain⟨h5,_⟩:=h5;cases l with
 |nil=>rfl
 |cons x r=>cases h5
theorem FT (hu:A.units+1<cLine)(I:Inv X ac σ H s)(g:DGetX H a y o)(ry:RelV y u)(h:∀ s',Inv X ac σ H s'->Q (.bool o.isSome) s') :
 wpAny (model X.prog X.w) A (compareOp .In u (.ref a)) Q E s:=by
 rcases g with g|⟨e,⟨k,rfl⟩,rfl⟩|⟨e,⟨b,k,rfl,eb⟩,rfl⟩
 .exact IA hu I g ry h
 .obtain⟨y,dd⟩:=i7 (e.ok I.aJ);exact wpAny_in_of (gT ry) y dd.mapOf (h _ (I.tok _))
 .obtain rfl:u=Value.ref b:=ry;obtain⟨y,dd⟩:=xo (e.ok I.aJ);exact wpAny_in_heap (Og hu) (cG I.aJ eb) y dd (h _ (I.tok _))
theorem xp (hu:A.units+1<cLine)(I:Inv X ac σ H s)(g:DGetX H a y o)(ry:RelV y u)(h:∀ s',Inv X ac σ H s'->Q (.bool (!o.isSome)) s') :
 wpAny (model X.prog X.w) A (compareOp .NotIn u (.ref a)) Q E s:=by
 rcases g with g|⟨e,⟨k,rfl⟩,rfl⟩|⟨e,⟨b,k,rfl,eb⟩,rfl⟩
 .exact Aw hu I g ry h
 .obtain⟨y,dd⟩:=i7 (e.ok I.aJ);exact wpAny_notIn_of (gT ry) y dd.mapOf (h _ (I.tok _))
 .obtain rfl:u=Value.ref b:=ry;obtain⟨y,dd⟩:=xo (e.ok I.aJ);exact wpAny_notIn_heap (Og hu) (cG I.aJ eb) y dd (h _ (I.tok _))
end
noncomputable def pL:HO->Prop
 | .dK _=>True
 | .dT _=>True
 |_=>False
section
theorem Inv.view (I:Inv X ac σ H s)(hn:∀ b,H b=none->H' b=none)(ht:∀ b xs,H b=some (.tup xs)->H' b=some (.tup xs))(hf:∀ b o u,X.H₀ b=some (.bQ o u)->H' b=some (.bQ o u))
 (hb:∀ b ps,H b=some (.pc ps)->H' b=some (.pc ps)) (aJ:HOk X.prog X.w H' s.heap):Inv X ac σ H' s where
 ok:=I.ok
 os:=I.os
 bare:=I.bare
 base:=⟨I.base.keep,I.base.slot,fun b o e n hx=>hn b (I.base.free b o e n hx),I.base.there,fun b xs e=>ht b xs (I.base.gv b xs e),hf,fun b ps e=>let ⟨m,q⟩:=I.base.jO b ps e;⟨m,hb b _ q⟩⟩
 loc:=I.loc
 cell:=I.cell
 free:=hn _ I.free
 d5:=fun x c e=>hn c (I.d5 x c e)
 pin:=fun p hp=>let ⟨a,b,c⟩:=I.pin p hp;⟨a,hn _ b,c⟩
 aJ:=aJ
 len:=I.len
theorem n9 (ok:HOk P w H h)(hd:∃ u,H d=some u/\(∀ y,u≠.own y)/\∀ xs,u≠.tup xs)(new:ObjOk P w (upd H d u') h d u'):HOk P w (upd H d u') h:=fun b v e=>by
 obtain⟨u,hu,h1,h2⟩:=hd;by_cases hb:b=d
 .subst hb;rw[ah]at e;cases e;exact new
 .rw[aA hb]at e;refine(ok b v e).stay (fun _ _ _ q=>q) (fun c q=>?_) fun c xs q=>?_
  .rw[aA]
   .exact q
   .rintro rfl;rw[hu]at q;cases q;exact h1 _ rfl
  .rw[aA]
   .exact q
   .rintro rfl;rw[hu]at q;cases q;exact h2 _ rfl
theorem tU (h:pL u):(∀ y,u≠.own y)/\(∀ xs,u≠.tup xs)/\(∀ ps,u≠.pc ps)/\∀ o v,u≠.bQ o v:=by cases u<;>first|exact h.elim|exact⟨fun _ z=>(nomatch z),fun _ z=>(nomatch z),fun _ z=>(nomatch z),fun _ _ z=>(nomatch z)⟩
theorem mQ (hu:pL u)(x:ObjOk P w H h d u)(ht:∀ b xs,H b=some (.tup xs)->H' b=some (.tup xs)):ObjOk P w H' h d u:=by
 cases u with
 |dK kvs=>exact x
 |dT kvs=>obtain⟨z,y,xs,r,q⟩:=x;exact⟨z,y,xs,Paired.BV r fun p q z=>⟨z.1,ht _ _ z.2.1,z.2.2⟩,q⟩
 |_=>exact hu.elim
theorem Inv.bQ (I:Inv X ac σ H s)(e:H d=some u)(hu:pL u)(ho:s.heap.get? d=some o):Inv X ac σ (upd H d (.bQ o u)) s:=by
 obtain⟨n1,n2,n3,n4⟩:=tU hu;have ht:∀ b xs,H b=some (.tup xs)->upd H d (.bQ o u) b=some (.tup xs):=fun b xs q=>by
  rw[aA]
  .exact q
  .rintro rfl;rw[e]at q;cases q;exact n2 _ rfl
 refine I.view (fun b hb=>?_) ht (fun b o' u' q=>?_) (fun b ps q=>?_) (n9 I.aJ ⟨u,e,n1,n2⟩ ⟨ho,mQ hu (I.aJ d u e) ht⟩)
 .rw[aA]
  .exact hb
  .rintro rfl;rw[e]at hb;cases hb
 .have q:=I.base.gA b o' u' q;rw[aA]
  .exact q
  .rintro rfl;rw[e]at q;cases q;exact n4 _ _ rfl
 .rw[aA]
  .exact q
  .rintro rfl;rw[e]at q;cases q;exact n3 _ rfl
theorem Inv.CA (I:Inv X ac σ H s)(e:H d=some u)(hu:pL u):∀ o v,X.H₀ d≠some (.bQ o v):=fun o v q=>by have:=I.base.gA d o v q;rw[e]at this;cases this;exact(tU hu).2.2.2 _ _ rfl
theorem Inv.HD (I:Inv X ac σ H s)(e:H d=some (.bQ o u))(hu:pL u)(hn:∀ o v,X.H₀ d≠some (.bQ o v)):Inv X ac σ (upd H d u) s:=by
 have ht:∀ b xs,H b=some (.tup xs)->upd H d u b=some (.tup xs):=fun b xs q=>by
  rw[aA]
  .exact q
  .rintro rfl;rw[e]at q;cases q
 have x:ObjOk X.prog X.w H s.heap d u:=(show ObjOk X.prog X.w H s.heap d (.bQ o u) from I.aJ d _ e).2;refine I.view (fun b hb=>?_) ht (fun b o' u' q=>?_) (fun b ps q=>?_) (n9 I.aJ ⟨_,e,fun _ z=>(nomatch z),fun _ z=>(nomatch z)⟩ (mQ hu x ht))
 .rw[aA]
  .exact hb
  .rintro rfl;rw[e]at hb;cases hb
 .have q2:=I.base.gA b o' u' q;rw[aA]
  .exact q2
  .rintro rfl;exact hn _ _ q
 .rw[aA]
  .exact q
  .rintro rfl;rw[e]at q;cases q
end
def HN (d:Addr)(o:Obj)(u:HO)(kvs:List (bh×V)):It:=⟨fun i H=>H d=some (.bQ o u)/\i<kvs.length,fun i H x H'=>H'=H/\∃ k v,kvs[i]?=some (k,v)/\x=kV k,fun i H=>H d=some (.bQ o u)/\kvs.length<=i⟩
theorem n_ (h:(ay P w).is k u=true):RelV (kV k) u:=by
 rcases aT (show fO k u=true from h) with⟨i,t,rfl,rfl⟩|⟨x,t,rfl,rfl⟩
 .exact⟨t,rfl⟩
 .exact⟨t,rfl⟩
theorem pM {P:QR}{w:World}{h h':Heap}(x:h.DictAt (ay P w) d vs ep)(e:h.get? d=some o)(e':h'.get? d=some o):h'.DictAt (ay P w) d vs ep:=by obtain⟨o',es,ho,r⟩:=x;rw[e]at ho;cases ho;exact⟨o,es,e',r⟩
theorem ve {P:QR}{w:World}{K:QQ}{tg:Expr}{d it:Addr}{o:Obj}{u0:HO}{kvs:List (bh×V)}{vs:List (bh×QS)}{ep:Nat}{h0:Heap}(rel:KV kvs vs)(x0:h0.DictAt (ay P w) d vs ep)(e0:h0.get? d=some o) :
 Turn P w K tg (HN d o u0 kvs) [it] it (fun i h=>h.IsKeyIter it d i vs.length ep) where
 mem:=by simp
 obj:=fun i h st b hb=>by
  have e:b=it:=by simpa using hb
  subst e;obtain⟨o,e,c,q⟩:=st;exact⟨o,e,fun v z=>by rw[q]at z;cases z⟩
 keep:=fun i h h' st k=>st.at fun o e=>k it (by simp) o e
 item:=by
  intro X hP hw hK hc i ac s σ H E I hf st hg;subst hP hw hK;obtain⟨hd,hi⟩:=hg;obtain⟨eo,_⟩:=(show ObjOk X.prog X.w H s.heap d (.bQ o u0) from I.aJ d _ hd);have x1:=pM x0 e0 eo;obtain⟨f0,f1,f2,f3,f4,f5⟩:=hf it (by simp);have hiv:i<vs.length:=by rw[<- rel.length];exact hi
  have rg:∃ k v u,kvs[i]?=some (k,v)/\vs[i]?=some (k,u):=by
   have hk:kvs[i]?=some kvs[i]:=by simp[hi]
   have hv:vs[i]?=some vs[i]:=by simp[hiv]
   have key:∀{a:List (bh×V)}{b:List (bh×QS)},KV a b->∀(i:Nat) p q,a[i]?=some p->b[i]?=some q->p.1=q.1:=by
    intro a b r;induction r with
    |nil=>intro i p q e;simp at e
    |cons hq t ih=>
     intro i p q e1 e2;cases i with
     |zero=>simp at e1 e2;subst e1 e2;exact hq.1
     |succ i=>exact ih i p q (by simpa using e1) (by simpa using e2)
   have:=key rel i _ _ hk hv;exact⟨kvs[i].1,kvs[i].2,vs[i].2,hk,by rw[hv,this]⟩
  obtain⟨k,v,uv,h1,h2⟩:=rg;refine wpAny_pyNext_dict_item st x1 h2 fun key h' d7 st' sb=>?_;have I1:Inv X ac σ H { s with heap:=h' }:=I.turned (t':=s.toks) (fun b o hb e=>(sb.2 b hb).trans e) f0 f1 f3 f4 f5;obtain⟨oi,e,c,q⟩:=id st';exact⟨key,rfl,pE (s:={ s with heap:=h' }) e c q (by decide) ⟨kV k,H,I1,n_ d7,⟨rfl,k,v,h1,rfl⟩,st',fun b hb=>(hf b hb).1⟩⟩
 done:=by intro X hP hw hK hc i ac s σ H E I hf st hg;subst hP hw hK;obtain⟨hd,hi⟩:=hg;obtain⟨eo,_⟩:=(show ObjOk X.prog X.w H s.heap d (.bQ o u0) from I.aJ d _ hd);have x1:=pM x0 e0 eo;obtain⟨f0,f1,f2,f3,f4,f5⟩:=hf it (by simp);have hl:=rel.length;exact wpAny_pyNext_dict_end (I.ok.hd hc) st x1 (by simp;lia) fun h' eb=>⟨rfl,I.turned (t':=s.toks) (fun b o hb e=>eb b o hb e) f0 f1 f3 f4 f5⟩
 self:=fun _ _ _ _ _ st h=>wpAny_pyIter_keyiter st h
section
def AA (X:Cx)(tl:TE):TI:=fun σ H R=>tl σ H fun x H1=>∃ d kvs u,x=.ref d/\(u=.dK kvs\/(u=.dT []/\kvs=[]))/\((∃ o,H1 d=some (.bQ o u)/\R (HN d o u kvs) H1)\/(H1 d=some u/\∀ o,(∀ o' v,X.H₀ d≠some (.bQ o' v))->R (HN d o u kvs) (upd H1 d (.bQ o u))))
theorem tV {tl:TE}(hl:PE X l tl):PI X tg l (AA X tl):=by
 intro ac s σ H R I h;refine bO (hl ac s σ H _ I h) fun v s1 ⟨x,H1,I1,r1,q1⟩=>?_;obtain⟨d,kvs,u,e,hu,q⟩:=q1;subst e;cases r1;have zy:pL u:=by rcases hu with rfl|⟨rfl,_⟩<;>exact True.intro
 have fin:∀(o:Obj)(H2:Hp),Inv X ac σ H2 s1->H2 d=some (.bQ o u)->R (HN d o u kvs) H2->wX X (pyIter (.ref d)) (FG X ac σ tg R) X.xe s1:=fun o H2 I2 e2 q2=>by
  obtain⟨eo,hx⟩:=(show ObjOk X.prog X.w H2 s1.heap d (.bQ o u) from I2.aJ d _ e2);have key:(d==sysModules)=false/\∃ vs,KV kvs vs/\s1.heap.DictOf (ay X.prog X.w) d vs:=by
   rcases hu with rfl|⟨rfl,rfl⟩
   .obtain⟨z,hd,vs,rel,dd⟩:=hx;exact⟨hd,vs,rel,dd⟩
   .obtain⟨hd,dd⟩:=i7 hx;exact⟨hd,[],.nil,dd⟩
  obtain⟨hd,vs,rel,dd⟩:=key;obtain⟨ep,da⟩:=dd.dictAt;refine wpAny_pyIter_dict hd da ?_;refine⟨s1.heap.objs.size,[s1.heap.objs.size],_,_,H2,rfl,I2.kept (t':=s1.toks) fun b o e=>Mb _ e,ve rel da eo,⟨_,Mm _ rfl,rfl,rfl⟩,fun b hb=>?_,q2⟩;have e:b=s1.heap.objs.size:=by grind
  subst e;exact I2.oY (Mc _) (I2.aJ.fresh (Mc _))
 rcases q with⟨o,e1,q⟩|⟨e1,q⟩
 .exact fin o H1 I1 e1 q
 .have hob:∃ o,s1.heap.get? d=some o:=by
   rcases hu with rfl|⟨rfl,_⟩
   .obtain⟨_,_,_,_,o,_,_,ho,_⟩:=(show ObjOk X.prog X.w H1 s1.heap d (.dK kvs) from I1.aJ d _ e1);exact⟨o,ho⟩
   .obtain⟨_,_,_,_,o,_,_,ho,_⟩:=(show ObjOk X.prog X.w H1 s1.heap d (.dT []) from I1.aJ d _ e1);exact⟨o,ho⟩
  obtain⟨o,ho⟩:=hob;exact fin o _ (I1.bQ e1 zy ho) ah (q o (I1.CA e1 zy))
def HP (X:Cx)(D:Ends):Ends where
 nx:=fun σ H=>D.nx σ H\/∃ d o u,H d=some (.bQ o u)/\pL u/\(∀ o v,X.H₀ d≠some (.bQ o v))/\D.nx σ (upd H d u)
 rt:=D.rt
 bk:=D.bk
 ct:=D.ct
theorem rR {st:Stmt}(h:PS X st t):PS X st (fun D σ H=>t (HP X D) σ H):=by
 intro ac s σ H D I q;refine bO (h ac s σ H _ I q) fun f s' r=>?_;cases f with
 |next=>
  obtain⟨σ',H',I',r⟩:=r;rcases r with r|⟨d,o,u,e,hu,hn,r⟩
  .exact⟨σ',H',I',r⟩
  .exact⟨σ',_,I'.HD e hu hn,r⟩
 |_=>exact r
end
abbrev pN:=bh×QS×QS
noncomputable def IE (vs:List (bh×QS))(its:List pN):List (bh×QS):=its.foldl (fun vs x=>stored vs x.1 x.2.2) vs
section
theorem jA {h h':Heap}(d:h.DictOf (ay prog w) S vs)(e:∀ o,h.get? S=some o->h'.get? S=some o):h'.DictOf (ay prog w) S vs:=let ⟨o,es,ep,ho,r⟩:=d;⟨o,es,ep,e o ho,r⟩
variable {St:Nat->QP->Prop}
theorem g5 (W:WalksS prog w A.in1 I fp wr G n P St)(S:Addr)(hSf:S∉fp)(hb:Heap)(hbS:hb.get? S=none)(hbw:∀ b∈wr,hb.get? b=none)(its:List pN)(hn:its.length=n)
 (hval:∀ i v,P i v->∃ p x,v=.ref p/\its[i]?=some x/\hb.IsTuple p #[x.2.1,x.2.2]/\(ay prog w).is x.1 x.2.1=true) (hsz:n<=sizeLine) :
 ∀(k i:Nat)(s:QP)(vs:List (bh×QS))(j:Int),n-i=k->i<=n->St i s->(∀ b o,hb.get? b=some o->s.heap.get? b=some o)->vs.length<=i->s.heap.DictOf (ay prog w) S vs->
  (∀ s',Moved (S::wr) G s s'->s'.heap.DictOf (ay prog w) S (IE vs (its.drop i))->R (.ok (.ret .none)) s')->
  codeAny (model prog w) A (.builtin "dict.update.loop" ⟨[.ref S,.ref I,rawInt j,.none],[]⟩) R s:=by
 have hSw:S∉wr:=fun h=>hSf (W.sub _ h);have hsub:∀ b∈wr,b∈S::wr:=fun b hb=>Ms _ hb;intro k;induction k with
 |zero=>
  intro i s vs j hk hi hst K hxl hS hR;have hin:i=n:=by lia
  subst hin;refine N4 io ?_;rw[Oi dt _];show wpAny _ A.in1 (pyNext (.ref I) >>= _) _ _ s;refine KE (W.done s _ _ hst fun s' hm=>?_);have hR':=hR s' (hm.mono hsub) (by rw[Nr (by lia)];exact jA hS fun o e=>hm.heap S o hSw e);show wpAny _ A.in1 (Builtin.Dict.addKeywords S [] >>= fun _=>ret Value.none) _ _ s';exact KE (L_ (L_ hR'))
 |succ k ih=>
  intro i s vs j hk hi hst K hxl hS hR;have hlt:i<n:=by lia
  refine N4 io ?_;rw[Oi dt _];show wpAny _ A.in1 (pyNext (.ref I) >>= _) _ _ s;refine KE (W.item i s _ _ hlt hst fun v s' hP hst' hm=>?_);obtain⟨p,x,rfl,hx,ht,d7⟩:=hval i v hP;have K':∀ b o,hb.get? b=some o->s'.heap.get? b=some o:=fun b o e=>hm.heap b o (fun z=>by grind) (K b o e);obtain⟨ot,hot,hct,nt,hdt⟩:=ht;have hT:s'.TypeIs (.ref p) "tuple":=⟨ot,K' _ _ hot,hct⟩;have hS':=jA hS fun o e=>hm.heap S o hSw e;refine KE (Nb ?_);refine KE ?_;refine wpAny_tryCatch ?_;unfold Builtin.Dict.pairItems;refine KE (OZ hT ?_);rw[Mh (by decide)];refine KE (Qa (K' _ _ hot) hdt ?_);refine L_ ?_;show wpAny _ A.in1 (holding [x.2.1,x.2.2] (dictSet S x.2.1 x.2.2)) _ _ s';refine Nb ?_;refine wpAny_dictSet_pairs (knd:=ay prog w) (hsz:=by lia) d7 hS' fun h' hd' hs'=>?_;have K2:∀ b o,hb.get? b=some o->h'.get? b=some o:=fun b o e=>(hs'.2 b (fun z=>by grind)).trans (K' b o e);have hdrop:its.drop i=x::its.drop (i+1):=by
   have hil:i<its.length:=by lia
   rw[NV hil];rw[Ml hil]at hx;rw[NM hx]
  refine L_ ⟨PB dt _,ih (i+1) _ (stored vs x.1 x.2.2) (j+1) (by lia) hlt (W.frame _ s' _ _ hst' (QJ _ _) fun b hb o e=>?_) K2 (by have:=stored_length_le vs x.1 x.2.2;lia) hd' fun s'' hm'' hS''=>?_⟩
  .rw[hs'.2 b (fun h:b=S=>hSf (by grind))];exact e
  .refine hR s'' (Moved.trans W.gtrans ((hm.mono hsub).then_heap (QJ _ _) fun b o hb e=>?_) hm'') (by rw[hdrop];exact hS'');rw[hs'.2 b (fun h:b=S=>hb (by grind))];exact e
end
section
theorem i8 (hh:A.handled=none) (hl:s.heap.get? l=some { cls:=.type "list",data:=.seq items nl }) (hn:its.length=items.size) (hsz:items.size<=sizeLine)
 (hval:∀(i:Nat)(v:QS),items[i]?=some v->∃(p:Addr)(x:pN),v=.ref p/\its[i]?=some x/\s.heap.IsTuple p #[x.2.1,x.2.2]/\(ay prog w).is x.1 x.2.1=true)
 (h:∀(h':Heap)(tk:Nat),h'.DictOf (ay prog w) s.heap.objs.size (IE [] its)->(∀ b o,b<s.heap.objs.size->s.heap.get? b=some o->h'.get? b=some o)->Q (.ref s.heap.objs.size) { s with heap:=h',toks:=tk }) :
 wpAny (model prog w) A (call (.type "dict") [.ref l]) Q E s:=by
 refine callType_codes (Q₁:=fun obj s₁=>obj=.ref s.heap.objs.size/\s₁={ s with heap:=s.heap.push { cls:=.type "dict",data:=.dict #[] } }) PySem.F.kt_called_dict (PySem.F.kt_typeCall_dict_1 _) PySem.F.entry_dict_init (kt_code_dict_new _ ⟨rfl,rfl⟩) ?_;rintro obj s₁ ⟨rfl,rfl⟩;have hD:(s.heap.push { cls:=.type "dict",data:=.dict #[] }).get? s.heap.objs.size=some { cls:=.type "dict",data:=.dict #[] }:=Mm _ rfl;have hT:Shared.TypeIs { s with heap:=s.heap.push { cls:=.type "dict",data:=.dict #[] } } (.ref s.heap.objs.size) "dict":=⟨_,hD,rfl⟩;refine⟨hT,PySem.F.args_dict_init_2 _ _,?_⟩;unfold Builtin.«dict.__init__»;refine KE ?_;unfold Builtin.Dict.selfAndRest;refine KE (Ov hT ?_);show wpAny _ _ (pure (s.heap.objs.size,[Value.ref l])) _ _ _;refine L_ ?_;show wpAny _ _ (Builtin.Dict.updateFrom "dict.__init__" s.heap.objs.size (.ref l) [] .none) _ _ _;unfold Builtin.Dict.updateFrom;have hl1:(s.heap.push { cls:=.type "dict",data:=.dict #[] }).get? l=some { cls:=.type "list",data:=.seq items nl }:=Mb _ hl;refine KE (OZ ⟨_,hl1,rfl⟩ ?_);rw[Mh (by decide)];refine KE (jH (s:={ s with heap:=s.heap.push { cls:=.type "dict",data:=.dict #[] } }) hl1 rfl rfl rfl (am_miss_of_fast (by decide +kernel)) (by decide +kernel) (by simp[hh]) fun h1 tk1 e1 hx1=>?_);rw[Mh (by decide)];refine KE (Pt ?_);have k1:∀ b o,s.heap.get? b=some o->h1.get? b=some o:=fun b o e=>hx1.keeps b o (Mb _ e);have hl2:h1.get? l=some { cls:=.type "list",data:=.seq items nl }:=k1 _ _ hl;have hD1:h1.get? s.heap.objs.size=some { cls:=.type "dict",data:=.dict #[] }:=hx1.keeps _ _ hD;have hlt1:s.heap.objs.size<h1.objs.size:=Mx hD1;have hll:l<s.heap.objs.size:=Mx hl;refine KE (O2 (s:=⟨h1,s.gens,s.drawn,tk1,s.os⟩) ⟨_,hl2,rfl,nl,rfl⟩ ?_);have hh3:A.in1.in1.handled=none:=by simp[hh]
 have hno:∀ b,s.heap.objs.size<=b->s.heap.get? b=none:=fun b hb=>by
  cases q:s.heap.get? b with
  |none=>rfl
  |some o=>exact absurd (Mx q) (QO.mpr hb)
 have hneI:l≠h1.objs.size:=MS (Nat.lt_trans hll hlt1);have k2:∀ b o,h1.get? b=some o->(h1.push { cls:=.type "list_iterator",data:=.fields #[.ref l,.int 0 0] }).get? b=some o:=fun b o e=>Mb _ e;refine L_ ⟨PB dt _,g5 (A:=A.in1) ((Walks.list hh3 h1.objs.size l hneI items).toS) s.heap.objs.size ?_ s.heap (hno _ (Mc _)) ?_ its hn hval hsz (items.size-0) 0 _ [] 0 rfl (ML _) ⟨⟨_,Mm _ rfl,rfl,rfl⟩,⟨_,k2 _ _ hl2,rfl,nl,rfl⟩⟩ (fun b o e=>k2 _ _ (k1 b o e)) (Mc _) ⟨_,#[],0,k2 _ _ hD1,⟨rfl,rfl,rfl⟩,rfl,fun x hx=>by simp at hx,by constructor,OR⟩ ?_⟩
 .simp only[Mv,NY,Qu,not_or];exact⟨MS hlt1,OH hll⟩
 .intro b hb;simp only[Mv,NY,Qu]at hb;subst hb;exact hno _ (Nd hlt1)
 .intro s' hm hS';obtain⟨h',g',d',tk',os'⟩:=s';have eg:g'=s.gens:=hm.gens;have ed:d'=s.drawn:=hm.drawn;have eo:os'=s.os:=hm.os;subst eg;subst ed;subst eo;refine⟨rfl,h h' tk' hS' fun b o hb e=>hm.heap b o ?_ (k2 _ _ (k1 _ _ e))⟩;simp only[Mv,NY,Qu,not_or];exact⟨MS hb,MS (Nat.lt_trans hb hlt1)⟩
end
def oa (H:Hp):List V->List (bh×V)->Prop:=Paired fun v kv=>∃ p,v=.ref p/\H p=some (.tup [kV kv.1,kv.2])
section
theorem kC (ok:HOk P w H h):∀{vs:List V}{us:List QS}{kvs:List (bh×V)},oa H vs kvs->Vals vs us->
 ∃ its:List pN,its.length=us.length/\(∀(i:Nat)(v:QS),us[i]?=some v->∃(p:Addr)(x:pN),v=.ref p/\its[i]?=some x/\h.IsTuple p #[x.2.1,x.2.2]/\(ay P w).is x.1 x.2.1=true)/\
  ∀ t vs,KV t vs->KV (fz t kvs) (IE vs its)
 |_,_,_,.nil,.nil=>⟨[],rfl,fun i v e=>by simp at e,fun t xs r=>r⟩
 |_,_,_,.cons (a:=v) (b:=kv) q t,.cons (b:=u) r s=>by
  obtain⟨its,hl,hv,hk⟩:=kC ok t s;obtain⟨p,rfl,hp⟩:=q;cases r;obtain⟨_,is,r2,ot,ho,hc,n,hd⟩:=(show ObjOk P w H h p (.tup [kV kv.1,kv.2]) from ok p _ hp);obtain⟨u1,u2,rfl,ru1,ru2⟩:=mI r2;refine⟨(kv.1,u1,u2)::its,by simp[hl],fun i v e=>?_,fun t xs rt=>?_⟩
  .cases i with
   |zero=>simp at e;subst e;exact⟨p,(kv.1,u1,u2),rfl,rfl,⟨ot,ho,hc,n,hd⟩,gT ru1⟩
   |succ i=>exact hv i v (by grind)
  .exact hk _ _ (rt.put kv.1 ru2)
end
section
theorem rS (hc:X.calm=true):bn X (.type "dict") (fun xs H Q=>∃ l vs kvs,xs=[.ref l]/\Rd H l (.lst vs)/\oa H vs kvs/\∀ p,H p=none->Q (.ref p) (upd H p (.dK (fz [] kvs)))):=by
 intro ac s σ H xs us Q I r h;obtain⟨l,vs,kvs,rfl,hl,hp,q⟩:=h;obtain⟨u,rfl,ru⟩:=fQ r;obtain rfl:u=Value.ref l:=ru;obtain⟨hz,its,n,rv,hg⟩:=(show ObjOk X.prog X.w H s.heap l (.lst vs) from hl.ok I.aJ);obtain⟨pi,pl,pv,pk⟩:=kC I.aJ hp rv;have hsz:its.toArray.size<=sizeLine:=by rw[Mi,<- rv.length];exact hz
 refine i8 (I.ok.hd hc) hg (its:=pi) (by rw[pl,Mi]) hsz (fun i v e=>pv i v (by simpa using e)) fun h' tk hD hk=>?_;have hf:H s.heap.objs.size=none:=I.aJ.fresh (Mc _);refine⟨.ref s.heap.objs.size,_,I.laid (a:=s.heap.objs.size) (o:=.dK (fz [] kvs)) (t':=tk) (fun b o e=>hk b o (Mx e) e) (Mc _) ?_,rfl,q _ hf⟩;refine⟨?_,Ot.mpr (Ol (MS I.big)),_,pk [] [] .nil,hD⟩;have:=gU kvs [];have h2:=O1 hp;simp only[Qp]at this;lia
theorem C9 (I:Inv X ac σ H s)(e:Rd H a (.dK kvs)\/(Rd H a (.dT [])/\kvs=[])) :
 kvs.length<=sizeLine/\(a==sysModules)=false/\∃ vs,KV kvs vs/\s.heap.DictOf (ay X.prog X.w) a vs:=by
 rcases e with e|⟨e,rfl⟩
 .exact ic I.aJ e
 .obtain⟨y,dd⟩:=i7 (e.ok I.aJ);exact⟨ML _,y,[],.nil,dd⟩
end
section
theorem C_ {k:bh}{key dflt:QS}{Q:QS->QP->Prop}(d7:(ay prog w).is k key=true)(hm:s.heap.DictOf (ay prog w) d vs)(hn0:valueAt vs k=none)
 (h:∀ h',h'.DictOf (ay prog w) d (stored vs k dflt)->Heap.SameBut d s.heap h'->Q dflt { s with heap:=h',toks:=s.toks+1 }) (hsz:vs.length<=sizeLine):wpAny (model prog w) A (dictSetDefault d key dflt) Q E s:=by
 obtain⟨o,es,ep,ho,hc,hd,hk,hp,hn⟩:=hm;have hes:es.size<=sizeLine:=by
  have e1:=hp.length;have e2:es.toList.length=es.size:=by simp
  lia
 have hnone:vs.findIdx? (fun kv=>decide (kv.1=k))=none:=by
  rw[List.findIdx?_eq_none_iff];intro x hx;refine My fun e=>?_;have:(valueAt vs k).isSome=true:=by unfold valueAt;rw[O4,List.find?_isSome];exact⟨x,hx,Mp e⟩
  rw[hn0]at this;cases this
 have hidx:(es.findIdx? fun e=>(ay prog w).is k e.key)=none:=by
  have:(es.findIdx? fun e=>(ay prog w).is k e.key)=vs.findIdx? fun kv=>decide (kv.1=k):=by rw[<- hp.findIdx k];obtain⟨l⟩:=es;simp
  rw[this];exact hnone
 have hnot:k∉vs.map (·.1):=not_mem_of_findIdx_none hnone;have hany:¬ (vs.any fun kv=>decide (kv.1=k))=true:=by rw[Qh];rintro⟨kv,hkv,he⟩;exact hnot (Md.mpr ⟨kv,hkv,ND he⟩)
 unfold dictSetDefault
 try with_reducible refine Nb ?_
 refine KE ((ay prog w).pyHash d7 ?_);refine KE (wpAny_dictFind_of (s:={ s with toks:=s.toks+1 }) d7 ho hd hk ?_);rw[hidx];refine KE (Pt (KE (wpAny_updateDictKeys (hz:=hes) (s:={ s with toks:=s.toks+1 }) ho hd (L_ (h _ ⟨_,_,ep+1,NO _ ho (Obj.isFreed_of_dict (Pa hd _)),hc.mapDictKeys _,Pa hd _,hk.push d7 _,?_,?_⟩ (M_ ..))))))
 .rw[stored,Mj hany];have:=hp.append d7 ((ay prog w).hash k) dflt;obtain⟨l⟩:=es;simpa using this
 .rw[stored,Mj hany,M8,NT];refine⟨hn,by simp,?_⟩;intro a ha b hb;simp only[MC,QM,MH]at hb;subst hb;exact fun e=>hnot (e▸ha)
end
section
def mR:V->List V->Hp->VK->Prop:=fun x xs H Q=>∃ a k y kvs,x=.ref a/\xs=[kV k,y]/\(H a=some (.dK kvs)\/(H a=some (.dT [])/\kvs=[]))/\kvs.length<sizeLine/\
 ((∃ v,bP kvs k=some v/\Q v H)\/(bP kvs k=none/\Q y (upd H a (.dK (b7 kvs k y)))))
theorem og:FN X "dict.setdefault" mR:=by
 intro ac s σ H x xs v us Q I rx rs q;obtain⟨a,k,y,kvs,rfl,rfl,ha,hz,q⟩:=q;obtain rfl:v=Value.ref a:=rx;obtain⟨u1,u2,rfl,ru1,ru2⟩:=mI rs;obtain⟨z1,y1,vs,r1,d1⟩:=C9 I (ha.imp .inl fun⟨e,w⟩=>⟨.inl e,w⟩);have d7:=gT (P:=X.prog) (w:=X.w) ru1;refine M3 Nq d1.typeIs Qi ?_ (Qd _ _ _);unfold Builtin.«dict.setdefault»;refine KE ?_;unfold Builtin.Dict.keyAndDefault;refine KE (Ov d1.typeIs (show wpAny _ _ (pure (a,u1,some u2)) _ _ s from L_ ?_));show wpAny _ _ (if (a==sysModules)=true then _ else (dictSetDefault a u1 u2 >>= _)) _ _ s;rw[Mj (by grind)];have bJ:vs.length<=sizeLine:=by rw[<- r1.length];lia
 have dle:s.heap.DictLe a sizeLine:=fun o es ep ho hd=>by
  obtain⟨o',es',ep',ho',_,hd',_,hp,_⟩:=id d1;rw[ho]at ho';cases ho';rw[hd]at hd';cases hd';have e1:=hp.length;have e2:es.toList.length=es.size:=by simp
  lia
 have rv:=r1.val k;rcases q with⟨v,hv,q⟩|⟨hv,q⟩
 .obtain⟨w',hw,rw'⟩:=RelO.some_of (v:=v) (o:=valueAt vs k) (by grind);refine KE (wpAny_dictSetDefault_of (hz:=dle) d7 d1.mapOf (fun v' e=>?_) fun e=>?_)
  .rw[hw]at e;cases e;exact L_ ⟨_,rfl,v,H,I.tok _,rw',q⟩
  .rw[hw]at e;cases e
 .have hn0:valueAt vs k=none:=by
   have:=rv.cB;rw[hv]at this;cases z:valueAt vs k with
   |none=>rfl
   |some _=>rw[z]at this;cases this
  refine KE (C_ d7 d1 hn0 (fun h' dd' hs=>L_ ⟨_,rfl,?_⟩) bJ);have he:∃ q,h'.get? a=some q:=let ⟨q,_,_,hq,_⟩:=dd';⟨q,hq⟩;have mu:Fe (H a):=by rcases ha with e|⟨e,_⟩<;>(rw[e];exact True.intro)
  have hl:(b7 kvs k y).length<=sizeLine:=by have:=dc kvs k y;lia
  exact⟨y,_,ig (t':=s.toks+1) I mu hs he (xb hl y1 (r1.put k ru2) dd'),ru2,q⟩
end
end L2
namespace ST
open PySem PySem.SetTable
noncomputable def st (m:Nat)(h:Int):Probe:={ j:=bits h % (m+1),more:=runEnd m (bits h % (m+1))-bits h % (m+1),i:=bits h % (m+1),perturb:=bits h,dummy:=none }
noncomputable def rs (m:Nat)(p:Nat×Nat):Probe:={ j:=p.1,more:=runEnd m p.1-p.1,i:=p.1,perturb:=p.2,dummy:=none }
noncomputable def rT (m:Nat)(p:Probe):Probe:=if p.more>0 then { p with j:=p.j+1,more:=p.more-1 } else { p with j:=(leap m p.i p.perturb).1,more:=runEnd m (leap m p.i p.perturb).1-(leap m p.i p.perturb).1,i:=(leap m p.i p.perturb).1,perturb:=(leap m p.i p.perturb).2 }
theorem rU (t:SetTable)(p:Probe):t.advance p=rT t.mask p:=rfl
def it (m:Nat):Nat->Probe->Probe
 |0,p=>p
 |n+1,p=>it m n (rT m p)
theorem dN (m:Nat):∀(a b:Nat)(p:Probe),it m (a+b) p=it m b (it m a p):=by intro a b;induction a<;>grind [it,rT]
theorem AB (m n:Nat)(p:Probe):it m (n+1) p=rT m (it m n p):=dN m n 1 p
structure Va (m:Nat) (p:Probe):Prop where
 i:p.i<=m
 more:p.more<=9
 j:p.j+p.more<=m
 q:p.perturb<2 ^ 64
 d:p.dummy=none
theorem oh (h:Int):bits h<2 ^ 64:=by
 unfold bits
 grind
theorem g7 (m i:Nat)(h:i<=m):runEnd m i-i<=9/\i+(runEnd m i-i)<=m:=by unfold runEnd;split<;>lia
theorem Va.rs (h1:p.1<=m)(h2:p.2<2 ^ 64):Va m (rs m p):=⟨h1,(g7 m _ h1).1,(g7 m _ h1).2,h2,rfl⟩
theorem Va.st (m:Nat)(h:Int):Va m (st m h):=by have:bits h % (m+1)<=m:=QB (Nat.mod_lt _ (Nat.succ_pos m));exact⟨this,(g7 m _ this).1,(g7 m _ this).2,oh h,rfl⟩
theorem oj (m i q:Nat):(leap m i q).1<=m:=by exact QB (Nat.mod_lt _ (Nat.succ_pos m))
theorem rV (m i q:Nat):(leap m i q).2=q / 32:=rfl
theorem Va.rT (v:Va m p):Va m (rT m p):=by
 unfold ST.rT;split
 .exact⟨v.i,by dsimp only;have:=v.more;lia,by dsimp only;have:=v.j;lia,v.q,v.d⟩
 .have l:=oj m p.i p.perturb;exact⟨l,(g7 m _ l).1,(g7 m _ l).2,by dsimp only;rw[rV];have:=v.q;have:=Nat.div_le_self p.perturb 32;lia,v.d⟩
theorem Va.it:∀{n:Nat}{p:Probe},Va m p->Va m (it m n p)
 |0,_,v=>v
 |n+1,_,v=>Va.it (n:=n) v.rT
theorem Va.KF (v:Va m p):p.j<=m:=by have:=v.j;lia
theorem jS:∀(k:Nat)(p:Probe),p.more=k->Va m p->it m (k+1) p=rs m (leap m p.i p.perturb):=by intro k;induction k<;>grind [Va,it,rs,rT]
noncomputable def lp (m:Nat):Nat->Nat×Nat->Nat×Nat
 |0,p=>p
 |n+1,p=>lp m n (leap m p.1 p.2)
theorem Da (m:Nat):∀(a b:Nat)(p:Nat×Nat),lp m (a+b) p=lp m b (lp m a p):=by intro a b;induction a<;>grind [lp]
theorem FU (m:Nat):∀(n:Nat)(p:Nat×Nat),(lp m n p).2=p.2 / 32 ^ n
 |0,p=>by simp[lp]
 |n+1,p=>by show(lp m n (leap m p.1 p.2)).2=_;rw[FU m n,rV,Nat.div_div_eq_div_mul,Nat.pow_succ,Nat.mul_comm]
theorem B9 (m:Nat):∀(n:Nat)(p:Nat×Nat),p.1<=m->(lp m n p).1<=m
 |0,p,h=>h
 |n+1,p,_=>B9 m n _ (oj m _ _)
theorem pO:∀(L:Nat)(p:Probe),Va m p->∃ n,n<=10*(L+1)/\it m n p=rs m (lp m (L+1) (p.i,p.perturb))
 |0,p,v=>⟨p.more+1,by have:=v.more;lia,jS _ p rfl v⟩
 |L+1,p,v=>by
  have h1:=jS _ p rfl v;have v1:Va m (rs m (leap m p.i p.perturb)):=by rw[<- h1];exact v.it
  obtain⟨n,hn,e⟩:=pO L _ v1;refine⟨p.more+1+n,by have:=v.more;lia,?_⟩;rw[dN,h1,e];rfl
noncomputable def f5 (m i:Nat):Nat:=(i*5+1) % (m+1)
def fN (m:Nat):Nat->Nat->Nat
 |0,i=>i
 |n+1,i=>fN m n (f5 m i)
def vf (m:Nat):Nat->Nat->List Nat
 |0,_=>[]
 |n+1,i=>i::vf m n (f5 m i)
theorem pP (m:Nat):∀(n i k:Nat),k<n->(vf m n i)[k]?=some (fN m k i)
 |n+1,i,0,_=>rfl
 |n+1,i,k+1,h=>pP m n _ k (by lia)
theorem pQ (m:Nat):∀(n i:Nat),(vf m n i).length=n
 |0,_=>rfl
 |n+1,i=>by show(vf m n _).length+1=_;rw[pQ]
theorem ol (m:Nat):∀(a b i:Nat),fN m (a+b) i=fN m b (fN m a i)
 |0,b,i=>by rw[Pu];rfl
 |a+1,b,i=>by rw[Nat.succ_add];exact ol m a b _
def FV (m:Nat):Bool:=((List.range (m+1)).all fun j=>(vf m (m+1) 0).contains j)&&(fN m (m+1) 0==0)
def Dc (m:Nat):Nat->Nat->Nat->Nat
 |0,_,a=>a
 |n+1,i,a=>Dc m n (f5 m i) (a ||| 1 <<< i)
theorem pR (m j:Nat):∀(n i a:Nat),(Dc m n i a).testBit j=true->a.testBit j=true\/j∈vf m n i
 |0,_,_,h=>.inl h
 |n+1,i,a,h=>by
  rcases pR m j n _ _ h with h|h
  .rw[Nat.testBit_or,Bool.or_eq_true]at h;rcases h with h|h
   .exact .inl h
   .refine .inr (Mv.mpr (.inl ?_));rw[Nat.testBit_shiftLeft,Nv]at h;have h1:=h.2;rw[Nat.testBit_one_eq_true_iff_self_eq_zero]at h1;have:=ND h.1;lia
  .exact .inr (Ms _ h)
def qU (m:Nat):Prop:=m=7\/m=31\/m=127\/m=511\/m=2047
theorem AC:FV 2047=true:=by
 unfold FV;have h:Dc 2047 2048 0 0=2 ^ 2048-1:=by decide +kernel
 have z:(fN 2047 2048 0==0)=true:=by decide +kernel
 rw[z,Bool.and_true,NZ];intro j hj;have hj:=MZ.mp hj;have t:(2 ^ 2048-1).testBit j=true:=by rw[Nat.testBit_two_pow_sub_one];exact Mp hj
 rw[<- h]at t;rcases pR 2047 j 2048 0 0 t with t|t
 .rw[Nat.zero_testBit]at t;cases t
 .exact List.contains_iff_mem.mpr t
theorem tW (h:qU m):FV m=true:=by
 rcases h with rfl|rfl|rfl|rfl|rfl
 .decide +kernel
 .decide +kernel
 .decide +kernel
 .decide +kernel
 .exact AC
theorem xq (h:qU m)(hj:j<=m):∃ n,n<=m/\fN m n 0=j:=by have:=tW h;unfold FV at this;simp only[Nv,NZ]at this;have h1:=this.1 j (MZ.mpr (by lia));rw[List.contains_iff_mem,MJ]at h1;obtain⟨n,hn⟩:=h1;have hl:=(Mg.mp hn).1;rw[pQ]at hl;rw[pP m _ _ _ hl]at hn;exact⟨n,by lia,NM hn⟩
theorem Dd (h:qU m)(hi:i<=m)(hj:j<=m):∃ n,n<=m/\fN m n i=j:=by
 obtain⟨a,ha,ea⟩:=xq h hi;obtain⟨b,hb,eb⟩:=xq h hj;by_cases hab:a<=b
 .refine⟨b-a,by lia,?_⟩;rw[<- ea,<- ol,show a+(b-a)=b by lia,eb]
 .refine⟨m+1+b-a,by lia,?_⟩;have z:=tW h;unfold FV at z;simp only[Nv,Pq]at z;rw[<- ea,<- ol,show a+(m+1+b-a)=m+1+b by lia,ol,z.2,eb]
theorem tX (m:Nat):∀(n i:Nat),lp m n (i,0)=(fN m n i,0)
 |0,_=>rfl
 |n+1,i=>by show lp m n (leap m i 0)=_;have:leap m i 0=(f5 m i,0):=rfl;rw[this];exact tX m n _
theorem pS (h:qU m)(hj:j<=m)(p:Nat×Nat)(h1:p.1<=m)(h2:p.2<2 ^ 64):∃ n,13<=n/\n<=m+13/\(lp m n p).1=j:=by
 have hp13:(2:Nat) ^ 64<32 ^ 13:=by decide
 have hq:(lp m 13 p).2=0:=by rw[FU];exact Nat.div_eq_of_lt (by lia)
 obtain⟨n,hn,e⟩:=Dd h (B9 m 13 p h1) hj;refine⟨13+n,by lia,by lia,?_⟩;rw[Da]
 grind [lp,tX]
theorem B_ (h:qU m)(hj:j<=m)(v:Va m p):∃ n,n<10*turns m/\(it m n p).j=j:=by obtain⟨L,h1,h2,e⟩:=pS h hj (p.i,p.perturb) v.i v.q;obtain⟨n,hn,en⟩:=pO (L-1) p v;rw[show L-1+1=L by lia]at en hn;refine⟨n,by unfold turns;lia,?_⟩;rw[en];exact e
def AD (xs:List Nat):Prop:=xs.Pairwise (·< ·)
theorem kD (hr:AD xs.toList):∀(fuel lo hi:Nat),lo<=hi->hi<=xs.size->hi-lo<=fuel->
 (∀ i (h:i<xs.size),i<lo->xs[i]<j)->(∀ i (h:i<xs.size),hi<=i->j<=xs[i])->
 below.go xs j fuel lo hi<=xs.size/\(∀ i (h:i<xs.size),i<below.go xs j fuel lo hi->xs[i]<j)/\∀ i (h:i<xs.size),below.go xs j fuel lo hi<=i->j<=xs[i]
 |0,lo,hi,h1,h2,h3,h4,h5=>by
  have:lo=hi:=by lia
  subst this;exact⟨h2,h4,h5⟩
 |f+1,lo,hi,h1,h2,h3,h4,h5=>by
  have mono:∀ a b (ha:a<xs.size) (hb:b<xs.size),a<=b->xs[a]<=xs[b]:=by
   intro a b ha hb hab;rcases Nat.lt_or_eq_of_le hab with h|h
   .have:=MG.mp hr a b (by simpa using ha) (by simpa using hb) h;simpa using Nd this
   .subst h;exact Mc _
  unfold below.go;by_cases hc:lo<hi
  .rw[Mh hc];have hm:(lo+hi) / 2<xs.size:=by lia
   have eg:xs.getD ((lo+hi) / 2) j=xs[(lo+hi) / 2]:=by simp[Array.getD,hm]
   dsimp only;rw[eg];by_cases hq:xs[(lo+hi) / 2]<j
   .rw[Mh hq];refine kD hr f _ _ (by lia) h2 (by lia) (fun i h hi'=>?_) h5;exact Nn (mono i _ h hm (by lia)) hq
   .rw[Mj hq];refine kD hr f _ _ (by lia) (by lia) (by lia) h4 fun i h hi'=>?_;exact Mq (by lia) (mono _ i hm h hi')
  .rw[Mj hc];have:lo=hi:=by lia
   subst this;exact⟨h2,h4,h5⟩
theorem cv (j:Nat)(hr:AD xs.toList):below xs j<=xs.size/\(∀ i (h:i<xs.size),i<below xs j->xs[i]<j)/\∀ i (h:i<xs.size),below xs j<=i->j<=xs[i]:=by unfold below;exact kD hr xs.size 0 xs.size (ML _) (Mc _) (by lia) (fun i h z=>by lia) fun i h z=>by lia
theorem xr (hr:AD xs.toList)(h:i<xs.size):below xs xs[i]=i:=by
 obtain⟨a,b,c⟩:=cv xs[i] hr;rcases PZ (below xs xs[i]) i with q|q|q
 .have hb:below xs xs[i]<xs.size:=by lia
  have h1:=c (below xs xs[i]) hb (Mc _);have h2:=MG.mp hr _ i (by grind) (by grind) q;simp at h2;lia
 .exact q
 .have:=b i h q;lia
theorem mS (j:Nat):has #[] j=false:=rfl
structure Tb (t:SetTable):Prop where
 CB:qU t.mask
 Fv:t.dummies=#[]
 qQ:AD t.place.toList
 le:∀ j∈t.place.toList,j<=t.mask
theorem mT (h:Tb t)(hi:i<t.place.size):t.slot t.place[i]=.live i:=by unfold slot;dsimp only;rw[xr h.qQ hi];rw[Mh];simp[hi]
theorem rW (h:Tb t)(hj:j∉t.place.toList):t.slot j=.empty:=by
 unfold slot;dsimp only;rw[Mj,h.Fv,mS]
 .rfl
 .grind
theorem rX (h:Tb t)(j:Nat):(j∉t.place.toList/\t.slot j=.empty)\/∃ i,∃ hi:i<t.place.size,t.place[i]=j/\t.slot j=.live i:=by
 by_cases hj:j∈t.place.toList
 .right;obtain⟨i,hi,e⟩:=Pb.mp hj;have hi':i<t.place.size:=by simpa using hi
  have e':t.place[i]=j:=by simpa using e
  exact⟨i,hi',e',by rw[<- e'];exact mT h hi'⟩
 .exact .inl ⟨hj,rW h hj⟩
def Lv (t:SetTable)(j:Nat):Prop:=j∈t.place.toList
inductive gw (t:SetTable) (ha:Nat->Int) (h:Int) (p:Probe):Option Met->Prop
 |em (n:Nat) (e:¬ Lv t (it t.mask n p).j) (b:∀ k,k<n->∃ i,∃ hi:i<t.place.size,t.place[i]=(it t.mask k p).j/\ha i≠h):gw t ha h p (some (.empty (it t.mask n p).j none))
 |ca (n i:Nat) (hi:i<t.place.size) (e:t.place[i]=(it t.mask n p).j) (q:ha i=h) (b:∀ k,k<n->∃ i,∃ hi:i<t.place.size,t.place[i]=(it t.mask k p).j/\ha i≠h) :
  gw t ha h p (some (.candidate (it t.mask n p).j i (it t.mask (n+1) p)))
theorem pT (h:Tb t)(ha:Nat->Int)(x:Int):∀(fuel:Nat)(p:Probe),Va t.mask p->(∃ n,n<fuel/\¬ Lv t (it t.mask n p).j)->gw t ha x p (probe.go t ha x fuel p)
 |0,p,v,⟨n,hn,_⟩=>by lia
 |f+1,p,v,⟨n,hn,he⟩=>by
  unfold probe.go;rcases rX h p.j with⟨h1,e⟩|⟨i,hi,h1,e⟩
  .rw[e];dsimp only;have:=gw.em (t:=t) (ha:=ha) (h:=x) (p:=p) 0 h1 fun k hk=>by lia
   rw[v.d];exact this
  .rw[e];dsimp only;by_cases hq:ha i=x
   .rw[Mh (by simpa using hq)];exact gw.ca (t:=t) (ha:=ha) (h:=x) (p:=p) 0 i hi h1 hq fun k hk=>by lia
   .rw[Mj (by simpa using hq),rU];have hn0:n≠0:=by rintro rfl;exact he (by show p.j∈t.place.toList;rw[<- h1];simp)
    have ih:=pT h ha x f (rT t.mask p) v.rT ⟨n-1,by lia,by
     have:it t.mask (n-1) (rT t.mask p)=it t.mask n p:=by show _=it t.mask n p;rw[show n=(n-1)+1 by lia];rfl
     rw[this];exact he⟩
    have shift:∀{nn:Nat},(∀ k,k<nn->∃ i,∃ hi:i<t.place.size,t.place[i]=(it t.mask k (rT t.mask p)).j/\ha i≠x)->∀ k,k<nn+1->∃ i,∃ hi:i<t.place.size,t.place[i]=(it t.mask k p).j/\ha i≠x:=by
     intro nn b k hk;cases k with
     |zero=>exact⟨i,hi,h1,hq⟩
     |succ k=>exact b k (by lia)
    generalize probe.go t ha x f (rT t.mask p)=rr at ih;cases ih with
    |em n' e' b=>exact gw.em (t:=t) (ha:=ha) (h:=x) (p:=p) (n'+1) e' (shift b)
    |ca n' i' hi' e' q' b=>exact gw.ca (t:=t) (ha:=ha) (h:=x) (p:=p) (n'+1) i' hi' e' q' (shift b)
theorem kE:∀(l1 l2:List Nat),l1.Nodup->(∀ x∈l1,x∈l2)->l1.length<=l2.length
 | [],_,_,_=>ML _
 |a::l1,l2,nd,hs=>by
  have ha:a∈l2:=hs a (Mr ..);have ih:=kE l1 (l2.erase a) (OB.mp nd).2 fun x hx=>by grind
  grind
theorem kF (h:Tb t)(hs:t.place.size<=t.mask):∃ j,j<=t.mask/\¬ Lv t j:=by refine N9 fun hn=>?_;have gs:∀ j,j<=t.mask->j∈t.place.toList:=fun j hj=>N9 fun z=>hn ⟨j,hj,z⟩;have:=kE (List.range (t.mask+1)) t.place.toList Pk fun j hj=>gs j (by grind);simp at this;lia
theorem kG (h:Tb t)(hs:t.place.size<=t.mask)(ha:Nat->Int)(x:Int)(v:Va t.mask p):gw t ha x p (t.probe ha x p):=by obtain⟨j,hj,hn⟩:=kF h hs;obtain⟨n,h1,h2⟩:=B_ h.CB hj v;unfold probe;exact pT h ha x _ p v ⟨n,h1,by grind⟩
def Rea (m:Nat)(lv:Nat->Prop)(h:Int)(j:Nat):Prop:=∃ n,(it m n (st m h)).j=j/\∀ k,k<n->lv (it m k (st m h)).j
theorem Rea.mono (r:Rea m lv h j)(s:∀ j,lv j->lv' j):Rea m lv' h j:=let ⟨n,e,b⟩:=r;⟨n,e,fun k hk=>s _ (b k hk)⟩
structure lO {V:Type} (t:SetTable) (es:Array (Int×V)):Prop where
 tb:Tb t
 len:t.place.size=es.size
 Fz:∀ q∈t.place.toList.zip es.toList,Rea t.mask (·∈ t.place.toList) q.2.1 q.1
def gV (t:SetTable):Prop:=t.place.size*5<t.mask*3
theorem insertAt_toList {α:Type}(xs:Array α)(p:Nat)(x:α)(h:p<=xs.size):(insertAt xs p x).toList=xs.toList.take p++x::xs.toList.drop p:=by unfold insertAt;simp[Pc,List.extract_eq_drop_take,Nt]
theorem insertAt_size {α:Type}(xs:Array α)(p:Nat)(x:α)(h:p<=xs.size):(insertAt xs p x).size=xs.size+1:=by rw[<- MR,insertAt_toList xs p x h];simp;lia
theorem ip (h:Tb t)(j:Nat):(t.put j).1={ t with place:=insertAt t.place (below t.place j) j }:=by
 unfold put;dsimp only;rw[h.Fv]
 grind [mS]
theorem jT (t:SetTable)(j:Nat):(t.put j).2=below t.place j:=rfl
theorem rY {α β:Type}(xs:List α)(ys:List β)(p:Nat)(x:α)(y:β)(h:xs.length=ys.length):(xs.take p++x::xs.drop p).zip (ys.take p++y::ys.drop p)=(xs.zip ys).take p++(x,y)::(xs.zip ys).drop p:=by rw[List.zip_append (by simp[h]),List.zip_cons_cons];simp[List.zip,List.take_zipWith,List.drop_zipWith]
theorem rZ {V:Type}{t:SetTable}{es:Array (Int×V)}(h:lO t es){j:Nat}(hj:j∉t.place.toList)(hjm:j<=t.mask){hh:Int}{v:V}(r:Rea t.mask (·∈ t.place.toList) hh j) :
 lO (t.put j).1 (insertAt es (t.put j).2 (hh,v))/\(t.put j).1.mask=t.mask/\(t.put j).1.place.size=t.place.size+1:=by
 obtain⟨a,b,c⟩:=cv j h.tb.qQ;rw[ip h.tb,jT];have ae:below t.place j<=es.size:=by rw[<- h.len];exact a
 have el:=insertAt_toList t.place _ j a;have ee:=insertAt_toList es (below t.place j) (hh,v) ae;have mem:∀ k,k∈(insertAt t.place (below t.place j) j).toList↔k=j\/k∈t.place.toList:=by
  intro k;rw[el,MO,Mv];constructor
  .rintro (z|rfl|z)
   .exact .inr (Nk z)
   .exact .inl rfl
   .exact .inr (NG z)
  .rintro (rfl|z)
   .exact .inr (.inl rfl)
   .rw[<- MP (below t.place j) t.place.toList,MO]at z;exact z.elim .inl fun z=>.inr (.inr z)
 refine⟨⟨⟨h.tb.CB,h.tb.Fv,?_,fun k hk=>?_⟩,?_,fun q hq=>?_⟩,rfl,insertAt_size _ _ _ a⟩
 .show AD (insertAt t.place (below t.place j) j).toList;rw[el];unfold AD;rw[NH];refine⟨h.tb.qQ.sublist (N8 _ _),?_,?_⟩
  .rw[Np];refine⟨fun k hk=>?_,h.tb.qQ.sublist (OD _ _)⟩;obtain⟨i,hi,e⟩:=Pb.mp hk;rw[Oh]at hi;have hi2:below t.place j+i<t.place.size:=by simp at hi;lia
   have e2:t.place[below t.place j+i]=k:=by rw[<- e];simp
   have:=c _ hi2 (by lia);rw[e2]at this;have:k≠j:=fun z=>hj (by rw[<- z,<- e2];simp);lia
  .intro k hk l hl;obtain⟨i,hi,e⟩:=Pb.mp hk;rw[MU]at hi;have hi2:i<t.place.size:=by simp at hi;lia
   have e2:t.place[i]=k:=by rw[<- e];simp
   have l1:=b i hi2 (by lia);rw[e2]at l1;rw[Mv]at hl;rcases hl with rfl|hl
   .exact l1
   .obtain⟨i',hi',e'⟩:=Pb.mp hl;rw[Oh]at hi';have hi3:below t.place j+i'<t.place.size:=by simp at hi';lia
    have e3:t.place[below t.place j+i']=l:=by rw[<- e'];simp
    have:=c _ hi3 (by lia);rw[e3]at this;lia
 .rcases (mem k).mp hk with rfl|z
  .exact hjm
  .exact h.tb.le k z
 .show(insertAt t.place (below t.place j) j).size=_;rw[insertAt_size _ _ _ a,insertAt_size _ _ _ ae,h.len]
 .have hq:q∈(insertAt t.place (below t.place j) j).toList.zip (insertAt es (below t.place j) (hh,v)).toList:=hq;rw[el,ee,rY _ _ _ _ _ (by simpa using h.len)]at hq;have sub:∀ k,k∈t.place.toList->k∈(insertAt t.place (below t.place j) j).toList:=fun k hk=>(mem k).mpr (.inr hk);rw[MO,Mv]at hq;rcases hq with z|rfl|z
  .exact(h.Fz q (Nk z)).mono sub
  .exact r.mono sub
  .exact(h.Fz q (NG z)).mono sub
def ow (owner:Array (Option Nat))(j:Nat):Prop:=∃ k,owner[j]?=some (some k)
theorem om (i q:Nat):∀ k,k<=runEnd m i-i->it m k (rs m (i,q))={ j:=i+k,more:=runEnd m i-i-k,i:=i,perturb:=q,dummy:=none }
 |0,_=>rfl
 |k+1,h=>by
  rw[AB,om i q k (by lia)]
  grind [rT]
theorem mU (hs:owner.size=m+1):∀(fuel i q:Nat),i<=m->q<2 ^ 64->(∃ L,L<fuel/\¬ ow owner (lp m L (i,q)).1)->
 ∃ j,layClean.free m owner fuel i q=some j/\j<=m/\¬ ow owner j/\∃ n,(it m n (rs m (i,q))).j=j/\∀ k,k<n->ow owner (it m k (rs m (i,q))).j
 |0,i,q,_,_,⟨L,h,_⟩=>by lia
 |f+1,i,q,hi,hq,⟨L,hL,hn⟩=>by
  obtain⟨r1,r2⟩:=g7 m i hi;have hre:runEnd m i+1-i=(runEnd m i-i)+1:=by
   have:i<=runEnd m i:=by unfold runEnd;split<;>lia
   lia
  have isn:∀ k,k<=runEnd m i-i->((owner.getD (i+k) (some 0)).isNone=true↔¬ ow owner (i+k)):=by
   intro k hk;have hb:i+k<owner.size:=by lia
   have e:owner[i+k]?=some owner[i+k]:=by simp[hb]
   have e2:owner.getD (i+k) (some 0)=owner[i+k]:=by simp[Array.getD,hb]
   unfold ow;rw[e2,e];cases owner[i+k]<;>simp
  unfold layClean.free;cases hf:(List.range (runEnd m i+1-i)).find? fun k=>(owner.getD (i+k) (some 0)).isNone with
  |some k=>
   dsimp only;rw[List.find?_range_eq_some]at hf;obtain⟨h1,h2,h3⟩:=hf;have h2:=MZ.mp h2;have hk:k<=runEnd m i-i:=by lia
   refine⟨i+k,rfl,by lia,(isn k hk).mp h1,k,by rw[om i q k hk],fun k' hk'=>?_⟩
   grind [om]
  |none=>
   dsimp only;rw[List.find?_range_eq_none]at hf;have hrun:∀ k,k<=runEnd m i-i->ow owner (i+k):=by grind
   have hL0:L≠0:=by rintro rfl;exact hn (hrun 0 (ML _))
   have ih:=mU hs f (leap m i q).1 (leap m i q).2 (oj m i q) (by rw[rV];have:=Nat.div_le_self q 32;lia) ⟨L-1,by lia,by
    have:lp m L (i,q)=lp m (L-1) (leap m i q):=by rw[show L=(L-1)+1 by lia];rfl
    rw[this]at hn;exact hn⟩
   obtain⟨j,e,hj,hnj,n,en,hb⟩:=ih;refine⟨j,e,hj,hnj,runEnd m i-i+1+n,?_,fun k hk=>?_⟩
   .rw[dN,jS (runEnd m i-i) (rs m (i,q)) rfl (Va.rs hi hq)];exact en
   .by_cases hk2:k<=runEnd m i-i
    .rw[om i q k hk2];exact hrun k hk2
    .have:it m k (rs m (i,q))=it m (k-(runEnd m i-i+1)) (rs m (leap m i q)):=by rw[show k=(runEnd m i-i+1)+(k-(runEnd m i-i+1)) by lia,dN,jS (runEnd m i-i) (rs m (i,q)) rfl (Va.rs hi hq)];congr 1;lia
     rw[this];exact hb _ (by lia)
structure Own (m:Nat) (hs:List Int) (owner:Array (Option Nat)):Prop where
 size:owner.size=m+1
 all:∀ k:Nat,k<hs.length->∃ j:Nat,owner[j]?=some (some k)
 lt:∀ j k:Nat,owner[j]?=some (some k)->k<hs.length
 Fz:∀(j k:Nat)(h:Int),owner[j]?=some (some k)->hs[k]?=some h->Rea m (ow owner) h j
 inj:∀ j j' k:Nat,owner[j]?=some (some k)->owner[j']?=some (some k)->j=j'
theorem Own.Hx (o:Own m hs owner)(hl:hs.length<=m):∃ j,j<=m/\¬ ow owner j:=by
 refine N9 fun hn=>?_;have gs:∀ j,j<=m->ow owner j:=fun j hj=>N9 fun z=>hn ⟨j,hj,z⟩
 let g:Nat->Nat:=fun j=>((owner[j]?).getD none).getD 0
 have hg:∀ j,j<=m->owner[j]?=some (some (g j)):=fun j hj=>by obtain⟨k,hk⟩:=gs j hj;show owner[j]?=some (some (((owner[j]?).getD none).getD 0));rw[hk];rfl
 have nd:((List.range (m+1)).map g).Nodup:=by unfold List.Nodup;rw[MQ];have:=Pk (n:=m+1);refine N1 (fun{a b} ha hb hab e=>hab ?_) this;have ha:=MZ.mp ha;have hb:=MZ.mp hb;exact o.inj a b (g a) (hg a (by lia)) (by rw[e];exact hg b (by lia))
 have:=kE _ (List.range hs.length) nd fun x hx=>by obtain⟨j,hj,rfl⟩:=Md.mp hx;have hj:=MZ.mp hj;exact MZ.mpr (o.lt j _ (hg j (by lia)))
 simp at this;lia
theorem xt (hm:qU m)(o:Own m hs owner)(hl:hs.length<=m)(h:Int) :
 ∃ j,layClean.free m owner (turns m) (bits h % (m+1)) (bits h)=some j/\Own m (hs++[h]) (owner.setIfInBounds j (some hs.length)):=by
 obtain⟨j0,hj0,hn0⟩:=o.Hx hl;have hi:bits h % (m+1)<=m:=QB (Nat.mod_lt _ (Nat.succ_pos m));obtain⟨L,l1,l2,el⟩:=pS hm hj0 (bits h % (m+1),bits h) hi (oh h);obtain⟨j,e,hj,hnj,n,en,hb⟩:=mU o.size (turns m) _ _ hi (oh h) ⟨L,by unfold turns;lia,by rw[el];exact hn0⟩;refine⟨j,e,?_⟩;have hjb:j<owner.size:=by rw[o.size];lia
 have get:∀ i,(owner.setIfInBounds j (some hs.length))[i]?=if i=j then some (some hs.length) else owner[i]?:=by
  intro i;rw[Qn];by_cases hij:j=i
  .subst hij;rw[Mh rfl,Mh hjb,Mh rfl]
  .rw[Mj hij,Mj (fun z=>hij z.symm)]
 have sub:∀ i,ow owner i->ow (owner.setIfInBounds j (some hs.length)) i:=by
  rintro i ⟨k,hk⟩;by_cases hij:i=j
  .exact⟨_,by rw[get,Mh hij]⟩
  .exact⟨k,by rw[get,Mj hij];exact hk⟩
 have inv:∀ i k,(owner.setIfInBounds j (some hs.length))[i]?=some (some k)->(i=j/\k=hs.length)\/(i≠j/\owner[i]?=some (some k)):=by
  intro i k hk;rw[get]at hk;by_cases hij:i=j
  .rw[Mh hij]at hk;exact .inl ⟨hij,by simpa using hk.symm⟩
  .rw[Mj hij]at hk;exact .inr ⟨hij,hk⟩
 refine⟨by rw[Array.size_setIfInBounds,o.size],fun k hk=>?_,fun i k hk=>?_,fun i k h' hk hh=>?_,fun i i' k h1 h2=>?_⟩
 .rw[MB,Ny]at hk;by_cases hkl:k=hs.length
  .exact⟨j,by rw[get,Mh rfl,hkl]⟩
  .obtain⟨i,hi⟩:=o.all k (by lia);refine⟨i,?_⟩;rw[get,Mj]
   .exact hi
   .rintro rfl;exact hnj ⟨k,hi⟩
 .rw[MB,Ny];rcases inv i k hk with⟨_,rfl⟩|⟨_,z⟩
  .lia
  .have:=o.lt i k z;lia
 .rcases inv i k hk with⟨rfl,rfl⟩|⟨hij,z⟩
  .rw[Mw (Mc _),Nat.sub_self]at hh;cases hh;exact⟨n,en,fun k hk=>sub _ (hb k hk)⟩
  .have hkl:=o.lt i k z;rw[MM hkl]at hh;exact(o.Fz i k h' z hh).mono sub
 .rcases inv i k h1 with⟨rfl,rfl⟩|⟨hij,z⟩<;>rcases inv i' _ h2 with⟨rfl,e'⟩|⟨hij',z'⟩
  .rfl
  .have:=o.lt _ _ z';lia
  .have:=o.lt _ _ z;lia
  .exact o.inj i i' k z z'
theorem xu (hm:qU m):∀(suf pre:List Int)(owner:Array (Option Nat)),Own m pre owner->pre.length+suf.length<=m->
 ∃ owner',suf.foldl (fun acc h=>do
  let (owner,k) <- acc
  let j <- layClean.free m owner (turns m) (bits h % (m+1)) (bits h)
  pure (owner.setIfInBounds j (some k),k+1)) (some (owner,pre.length))=some (owner',pre.length+suf.length)/\Own m (pre++suf) owner'
 | [],pre,owner,o,_=>⟨owner,rfl,by grind⟩
 |h::suf,pre,owner,o,hl=>by
  simp only[Nl]at hl;obtain⟨j,e,o'⟩:=xt hm o (by lia) h;obtain⟨owner',e2,o2⟩:=xu hm suf (pre++[h]) _ o' (by simp;lia)
  grind
theorem Dg (hm:qU m)(hs:Array Int)(hl:hs.size<=m):∃ owner,layClean m hs=some owner/\Own m hs.toList owner:=by
 have o0:Own m [] (Array.replicate (m+1) none):=by
  have no:∀ j k:Nat,(Array.replicate (m+1) (none:Option Nat))[j]?=some (some k)->False:=by grind
  exact⟨by simp,fun k hk=>by simp at hk,fun j k h=>(no j k h).elim,fun j k _ h=>(no j k h).elim,fun j _ k h=>(no j k h).elim⟩
 obtain⟨owner,e,o⟩:=xu hm hs.toList [] _ o0 (by grind);refine⟨owner,?_,by grind⟩;unfold layClean
 grind
theorem xw {α:Type}(es:Array α):∀(l:List Nat),(∀ k∈l,k<es.size)->(l.filterMap (es[·]?)).length=l.length/\∀ i:Nat,(l.filterMap (es[·]?))[i]?=(l[i]?).bind (es[·]?)
 | [],_=>⟨rfl,fun i=>by simp⟩
 |k::l,h=>by
  have hk:k<es.size:=h k (Mr ..);have e:es[k]?=some es[k]:=by simp[hk]
  obtain⟨a,b⟩:=xw es l fun k hk=>h k (Ms _ hk);rw[List.filterMap_cons_some e];refine⟨by simp[a],fun i=>?_⟩;cases i with
  |zero=>simp[e]
  |succ i=>simpa using b i
theorem kH (o:Nat->Option Nat):∀ l:List Nat,(l.filterMap fun j=>(o j).map (j,·)).map Prod.fst=l.filter fun j=>(o j).isSome
 | []=>rfl
 |j::l=>by
  rw[OI,Pl];cases e:o j with
  |none=>simpa using kH o l
  |some k=>simpa using kH o l
theorem xy (owner:Array (Option Nat))(m:Nat)(hs:owner.size=m+1)(j k:Nat):(j,k)∈((List.range (m+1)).filterMap fun j=>(owner.getD j none).map (j,·))↔owner[j]?=some (some k):=by
 rw[OT];constructor
 .rintro⟨a,h1,h2⟩;have h1:=MZ.mp h1;have hb:a<owner.size:=by lia
  have e:owner.getD a none=owner[a]:=by simp[Array.getD,hb]
  rw[e]at h2;obtain⟨k',e1,e2⟩:=M5.mp h2;cases e2;rw[show owner[j]?=some owner[j] by simp[hb],e1]
 .intro h;obtain⟨hb,e⟩:=N6.mp h;refine⟨j,MZ.mpr (by lia),?_⟩;have e2:owner.getD j none=owner[j]:=by simp[Array.getD,hb]
  rw[e2,e];rfl
structure Laid {V:Type} (m:Nat) (es es':Array (Int×V)) (t':SetTable):Prop where
 pc:lO t' es'
 mask:t'.mask=m
 size:es'.size=es.size
 mem:∀ x,x∈es'.toList↔x∈es.toList
 pw:∀ R:Int×V->Int×V->Prop,(∀ x y,R x y->R y x)->es.toList.Pairwise R->es'.toList.Pairwise R
theorem pU {V:Type}{m:Nat}(hm:qU m)(es:Array (Int×V))(hl:es.size<=m)(finger moves:Nat)(led plain:Bool) :
 ∃ t' order,laid m finger moves led plain (es.map (·.1))=some (t',order)/\Laid m es (order.filterMap (es[·]?)) t'/\t'.led=led/\t'.plain=plain/\order.toList.Perm (List.range es.size):=by
 obtain⟨owner,eo,o⟩:=Dg hm (es.map (·.1)) (by simpa using hl);have len:(es.map (·.1)).toList.length=es.size:=by simp
 let live:=(List.range (m+1)).filterMap fun j=>(owner.getD j none).map (j,·)
 have lm:∀ j k,(j,k)∈live↔owner[j]?=some (some k):=xy owner m o.size;have qQ:AD (live.map Prod.fst):=by show AD (((List.range (m+1)).filterMap fun j=>(owner.getD j none).map (j,·)).map Prod.fst);rw[kH];exact List.pairwise_lt_range.sublist (List.filter_sublist)
 have ndS:(live.map Prod.snd).Nodup:=by unfold List.Nodup;unfold AD at qQ;rw[MQ]at qQ ⊢;refine N1 (fun{a b} ha hb hab e=>?_) qQ;have h1:=(lm a.1 a.2).mp ha;have h2:=(lm b.1 b.2).mp hb;rw[<- e]at h2;have:=o.inj _ _ _ h1 h2;lia
 have lt:∀ k∈live.map Prod.snd,k<es.size:=by
  intro k hk;obtain⟨p,hp,rfl⟩:=Md.mp hk;have:=o.lt p.1 p.2 ((lm p.1 p.2).mp hp)
  rwa [len]at this
 have all:∀ k,k<es.size->k∈live.map Prod.snd:=by intro k hk;obtain⟨j,hj⟩:=o.all k (by rw[len];exact hk);exact Md.mpr ⟨(j,k),(lm j k).mpr hj,rfl⟩
 have ll:live.length=es.size:=by have a:=kE _ (List.range es.size) ndS fun k hk=>MZ.mpr (lt k hk);have b:=kE (List.range es.size) (live.map Prod.snd) Pk fun k hk=>all k (MZ.mp hk);simp at a b;lia
 obtain⟨f1,f2⟩:=xw es (live.map Prod.snd) lt;refine⟨{ mask:=m,place:=(live.map (·.1)).toArray,dummies:=#[],finger,led,moves,plain },(live.map (·.2)).toArray,?_,?_,rfl,rfl,(List.perm_ext_iff_of_nodup ndS Pk).mpr fun k=>⟨fun h=>MZ.mpr (lt k h),fun h=>all k (MZ.mp h)⟩⟩
 .unfold laid;rw[eo];rfl
 .have el:((live.map (·.2)).toArray.filterMap (es[·]?)).toList=(live.map Prod.snd).filterMap (es[·]?):=by simp
  have es':((live.map (·.2)).toArray.filterMap (es[·]?)).size=es.size:=by rw[<- MR,el,f1,Me,ll]
  refine⟨⟨⟨hm,rfl,by simpa using qQ,fun j hj=>?_⟩,?_,fun q hq=>?_⟩,rfl,es',fun x=>?_,fun R sy pw=>?_⟩
  .have hj:j∈live.map Prod.fst:=by simpa using hj
   obtain⟨p,hp,rfl⟩:=Md.mp hj;obtain⟨hb,_⟩:=N6.mp ((lm p.1 p.2).mp hp);show p.1<=m;have:=o.size;lia
  .rw[es'];simpa using ll
  .have hq:q∈(live.map Prod.fst).zip ((live.map Prod.snd).filterMap (es[·]?)):=by rw[el]at hq;simpa using hq
   obtain⟨i,hi⟩:=MJ.mp hq;rw[Pf,f2]at hi;obtain⟨h1,h2⟩:=hi;rw[ME]at h1 h2;obtain⟨p,hp,e1⟩:=M5.mp h1;rw[hp]at h2;have h2:es[p.2]?=some q.2:=h2;have ho:=(lm p.1 p.2).mp (MJ.mpr ⟨i,hp⟩);have hh:(es.map (·.1)).toList[p.2]?=some q.2.1:=by rw[Mn,Array.getElem?_map,h2];rfl
   rw[<- e1];refine(o.Fz p.1 p.2 q.2.1 ho hh).mono fun j ⟨k,hk⟩=>?_;show j∈(live.map (·.1)).toArray.toList;simpa using ⟨k,(lm j k).mpr hk⟩
  .rw[el];constructor
   .intro hx;obtain⟨k,_,h2⟩:=OT.mp hx;exact MJ.mpr ⟨k,by rw[Mn];exact h2⟩
   .intro hx;obtain⟨k,hk⟩:=MJ.mp hx;have hb:k<es.size:=by have:=(Mg.mp hk).1;simpa using this
    exact OT.mpr ⟨k,all k hb,by rw[Mn]at hk;exact hk⟩
  .rw[el];rw[MG];intro a b ha hb hab;have ea:=f2 a;have eb:=f2 b;rw[Ml ha]at ea;rw[Ml hb]at eb;rw[f1]at ha hb;rw[Ml ha]at ea;rw[Ml hb]at eb;have hne:(live.map Prod.snd)[a]≠(live.map Prod.snd)[b]:=MG.mp ndS a b ha hb hab;have ea:es[(live.map Prod.snd)[a]]?=some _:=ea.symm;have eb:es[(live.map Prod.snd)[b]]?=some _:=eb.symm;obtain⟨ka,va⟩:=N6.mp ea;obtain⟨kb,vb⟩:=N6.mp eb;have P:=MG.mp pw;rw[<- va,<- vb];rcases PC hne with z|z
   .simpa using P _ _ (by simpa using ka) (by simpa using kb) z
   .refine sy _ _ ?_;simpa using P _ _ (by simpa using kb) (by simpa using ka) z
theorem AE {V:Type}{m:Nat}(hm:qU m)(es:Array (Int×V))(hl:es.size<=m)(finger moves:Nat)(led plain:Bool) :
 ∃ t' order,laid m finger moves led plain (es.map (·.1))=some (t',order)/\Laid m es (order.filterMap (es[·]?)) t'/\t'.led=led/\t'.plain=plain:=by
 obtain⟨t',order,a,b,c,d,_⟩:=pU hm es hl finger moves led plain;exact⟨t',order,a,b,c,d⟩
end ST
namespace ST
open PySem PySem.W PyProof.Rows
structure Lt (N:Nat) (lt:Nat->Nat->Bool):Prop where
 LC:∀ i,lt i i=false
 tr:∀ i j k,lt i j=true->lt j k=true->lt i k=true
 LP:∀ i j,i<N->j<N->i≠j->lt i j=true\/lt j i=true
noncomputable abbrev Cmp:=Nat->Nat->(Bool->QP->Prop)->QP->Prop
def AF (N:Nat)(lt:Nat->Nat->Bool)(cmp:Cmp)(s:QP):Prop:=∀ i j C,i<N->j<N->C (lt i j) s->cmp i j C s
def Pm (N:Nat)(p:Array Nat):Prop:=p.toList.Perm (List.range N)
noncomputable def cc (p:Array Nat)(i:Nat):Nat:=p.getD i 0
section
theorem Pm.size (h:Pm N p):p.size=N:=by have:=h.length_eq;simpa using this
theorem Pm.perm (h:Pm N p)(q:p'.Perm p):Pm N p':=(Array.perm_iff_toList_perm.mp q).trans h
theorem Dh (hi:i<p.size):p[i]?=some (cc p i):=by unfold cc;simp[Array.getD,hi]
theorem xA (h:p'[i]?=p[k]?):cc p' i=cc p k:=by
 simp_all [cc,cc]
theorem Pm.bd (h:Pm N p)(hi:i<N):cc p i<N:=by
 have hi':i<p.size:=by rw[h.size];exact hi
 have:cc p i∈p.toList:=MJ.mpr ⟨i,by rw[Mn];exact Dh hi'⟩;exact MZ.mp (h.mem_iff.mp this)
theorem Pm.ne (h:Pm N p)(hi:i<N)(hj:j<N)(e:i≠j):cc p i≠cc p j:=by
 have nd:p.toList.Nodup:=h.nodup_iff.mpr Pk;have hi':i<p.size:=by rw[h.size];exact hi
 have hj':j<p.size:=by rw[h.size];exact hj
 have gi:p.toList[i]'(by simpa using hi')=cc p i:=by simp[cc,Array.getD,hi']
 have gj:p.toList[j]'(by simpa using hj')=cc p j:=by simp[cc,Array.getD,hj']
 intro z;rcases PC e with q|q
 .exact MG.mp nd i j (by simpa using hi') (by simpa using hj') q (by rw[gi,gj];exact z)
 .exact MG.mp nd j i (by simpa using hj') (by simpa using hi') q (by rw[gi,gj];exact z.symm)
def So (lt:Nat->Nat->Bool)(p:Array Nat)(k:Nat):Prop:=∀ a b,a<b->b<k->lt (cc p a) (cc p b)=true
def De (lt:Nat->Nat->Bool)(p:Array Nat)(k:Nat):Prop:=∀ a b,a<b->b<k->lt (cc p b) (cc p a)=true
theorem Lt.ti (o:Lt N lt)(hi:i<N)(hj:j<N)(e:i≠j)(h:lt i j=false):lt j i=true:=by
 grind [Lt]
theorem So.snoc (o:Lt N lt)(h:So lt p k)(hk:1<=k)(l:lt (cc p (k-1)) (cc p k)=true):So lt p (k+1):=by
 grind [Lt,So]
theorem De.snoc (o:Lt N lt)(h:De lt p k)(hk:1<=k)(l:lt (cc p k) (cc p (k-1))=true):De lt p (k+1):=by
 grind [Lt,De]
theorem r_ (o:Lt N lt)(an:AF N lt cmp s)(pm:Pm N p):∀(f n:Nat){Q:Nat->QP->Prop},1<=n->n+f=N->So lt p n->
 (∀ m,n<=m->m<=N->So lt p m->(m<N->lt (cc p m) (cc p (m-1))=true)->Q m s)->(kas_asc p f n).kasWp cmp Q s
 |0,n,Q,h1,h2,h3,k=>k n (Mc _) (by lia) h3 fun z=>by lia
 |f+1,n,Q,h1,h2,h3,k=>by
  refine an _ _ _ (pm.bd (by lia)) (pm.bd (by lia)) ?_;show KasT.kasWp cmp (if lt (cc p n) (cc p (n-1))=true then .ret n else kas_asc p f (n+1)) Q s;by_cases c:lt (cc p n) (cc p (n-1))=true
  .rw[Mh c];exact k n (Mc _) (by lia) h3 fun _=>c
  .rw[Mj c];have c:lt (cc p n) (cc p (n-1))=false:=by grind
   exact r_ o an pm f (n+1) (by lia) (by lia) (h3.snoc o h1 (o.ti (pm.bd (by lia)) (pm.bd (by lia)) (pm.ne (by lia) (by lia) (by lia)) c)) fun m a b c d=>k m (by lia) b c d
theorem tY (o:Lt N lt)(an:AF N lt cmp s)(pm:Pm N p):∀(f n:Nat){Q:Array Nat×Nat×Nat->QP->Prop},1<=n->n+f=N->De lt p n->
 (∀ m,n<=m->m<=N->De lt p m->Q (p,m,0) s)->(kas_desc f p n 0).kasWp cmp Q s
 |0,n,Q,h1,h2,h3,k=>k n (Mc _) (by lia) h3
 |f+1,n,Q,h1,h2,h3,k=>by
  refine an _ _ _ (pm.bd (by lia)) (pm.bd (by lia)) ?_;show KasT.kasWp cmp (if lt (cc p n) (cc p (n-1))=true then (if 0>0 then kas_desc f (kas_rev p (n-(0+1)) n) (n+1) 0 else kas_desc f p (n+1) 0)
   else .ask (cc p (n-1)) (cc p n) fun d=>if d=true then .ret (p,n,0) else kas_desc f p (n+1) (0+1)) Q s
  by_cases c:lt (cc p n) (cc p (n-1))=true
  .rw[Mh c,Mj (by lia)];exact tY o an pm f (n+1) (by lia) (by lia) (h3.snoc o h1 c) fun m a b c=>k m (by lia) b c
  .rw[Mj c];have c:lt (cc p n) (cc p (n-1))=false:=by grind
   refine an _ _ _ (pm.bd (by lia)) (pm.bd (by lia)) ?_;rw[o.ti (pm.bd (by lia)) (pm.bd (by lia)) (pm.ne (by lia) (by lia) (by lia)) c];show KasT.kasWp cmp (if true=true then _ else _) Q s;rw[Mh rfl];exact k n (Mc _) (by lia) h3
theorem xB (n:Nat)(hn:n<=p.size)(k:Nat):cc (kas_rev p 0 n) k=if k<n then cc p (n-1-k) else cc p k:=by
 have e:=getElem?_mirror_all (xs:=p) (i:=0) hn k;unfold kas_rev
 grind [xA]
theorem xC (o:Lt N lt)(an:AF N lt cmp s)(pm:Pm N p)(h1:1<=n)(hn:n<=N)(hd:De lt p n)
 (k:∀ m p',1<=m->m<=N->Pm N p'->So lt p' m->Q (m,p') s):(kas_tail3 n N p).kasWp cmp Q s:=by
 unfold kas_tail3;rw[PD];have pm':Pm N (kas_rev p 0 n):=pm.perm (mirror_perm _ _ _ _);refine r_ o an pm' (N-n) n h1 (by lia) ?_ fun m a b c _=>k m _ (by lia) b pm' c;intro a b hab hb;rw[xB n (by rw[pm.size];exact hn),xB n (by rw[pm.size];exact hn),Mh (by lia),Mh hb];exact hd _ _ (by lia) (by lia)
theorem xD (o:Lt N lt)(an:AF N lt cmp s)(pm:Pm N p)(h2:2<=N)
 (k:∀ m p',1<=m->m<=N->Pm N p'->So lt p' m->Q (m,p') s):(kas_count N p).kasWp cmp Q s:=by
 unfold kas_count;rw[PD];refine r_ o an pm (N-1) 1 (Mc _) (by lia) (fun a b hab hb=>by lia) fun m a b c d=>?_;by_cases e:m=N
 .rw[Mh (by simpa using e)];exact k m p a b pm c
 .rw[Mj (by simpa using e)];by_cases hm:m>1
  .rw[Mh hm];refine an _ _ _ (pm.bd (by lia)) (pm.bd (by lia)) ?_;have:lt (cc p 0) (cc p (m-1))=true:=c 0 (m-1) (by lia) (by lia);show KasT.kasWp cmp (if lt (cc p 0) (cc p (m-1))=true then _ else _) Q s;rw[Mh this];exact k m p a b pm c
  .rw[Mj hm];have hm1:m=1:=by lia
   subst hm1;unfold kas_descPart;rw[PD];have l:=d (by lia);refine tY o an pm (N-(1+1)) (1+1) (by lia) (by lia) (fun a b hab hb=>?_) fun m' a' b' c'=>?_
   .have:a=0:=by lia
    have:b=1:=by lia
    subst_vars
    exact l
   .show KasT.kasWp cmp (if 0>0 then _ else kas_tail3 m' N p) Q s;rw[Mj (by lia)];exact xC o an pm (by lia) b' c' k
theorem kI (o:Lt N lt)(an:AF N lt cmp s)(pm:Pm N p)(hi:i<N)(so:So lt p i):∀(f l r:Nat){Q:Nat->QP->Prop},l<=r->r<=i->r-l<=f->
 (∀ a,a<l->lt (cc p a) (cc p i)=true)->(∀ a,r<=a->a<i->lt (cc p i) (cc p a)=true)->
 (∀ m,m<=i->(∀ a,a<m->lt (cc p a) (cc p i)=true)->(∀ a,m<=a->a<i->lt (cc p i) (cc p a)=true)->Q m s)->(kas_place p i f l r).kasWp cmp Q s
 |0,l,r,Q,h1,h2,h3,h4,h5,k=>k l (by lia) h4 fun a x y=>h5 a (by lia) y
 |f+1,l,r,Q,h1,h2,h3,h4,h5,k=>by
  unfold kas_place;by_cases c:l>=r
  .rw[Mh c];exact k l (by lia) h4 fun a x y=>h5 a (by lia) y
  .rw[Mj c];refine an _ _ _ (pm.bd hi) (pm.bd (by lia)) ?_;show KasT.kasWp cmp (if lt (cc p i) (cc p ((l+r) / 2))=true then _ else _) Q s;by_cases q:lt (cc p i) (cc p ((l+r) / 2))=true
   .rw[Mh q];refine kI o an pm hi so f l ((l+r) / 2) (by lia) (by lia) (by lia) h4 (fun a x y=>?_) k;by_cases e:a=(l+r) / 2
    .rw[e];exact q
    .exact o.tr _ _ _ q (so _ _ (by lia) y)
   .rw[Mj q];have q:lt (cc p i) (cc p ((l+r) / 2))=false:=by grind
    have q:=o.ti (pm.bd hi) (pm.bd (by lia)) (pm.ne hi (by lia) (by lia)) q;refine kI o an pm hi so f _ r (by lia) h2 (by lia) (fun a x=>?_) h5 k;by_cases e:a=(l+r) / 2
    .rw[e];exact q
    .exact o.tr _ _ _ (so _ _ (by lia) (by lia)) q
theorem xE (hi:i<p.size)(hl:l<=i)(k:Nat):cc (bubble p i (i-l)) k=if k=l then cc p i else if l<k/\k<=i then cc p (k-1) else cc p k:=by
 have e:=getElem?_bubble hi (i-l) (by lia) k;rw[show i-(i-l)=l by lia]at e;by_cases h1:k=l
 .rw[Mh h1]at e ⊢;exact xA e
 .rw[Mj h1]at e ⊢
  grind [xA]
theorem xF (o:Lt N lt)(an:AF N lt cmp s):∀(f i:Nat)(p:Array Nat){Q:Array Nat->QP->Prop},Pm N p->i+f=N->So lt p i->
 (∀ p',Pm N p'->So lt p' N->Q p' s)->(kas_bin f p i).kasWp cmp Q s
 |0,i,p,Q,pm,h,so,k=>k p pm (by grind)
 |f+1,i,p,Q,pm,h,so,k=>by
  unfold kas_bin;rw[PD];refine kI o an pm (by lia) so i 0 i (by lia) (Mc _) (by lia) (fun a x=>by lia) (fun a x y=>by lia) fun m hm lo hi=>?_;refine xF o an f (i+1) _ (pm.perm (bubble_perm _ _ _)) (by lia) (fun a b hab hb=>?_) k;have hs:i<p.size:=by rw[pm.size];lia
  rw[xE hs hm,xE hs hm]
  repeat' split
  all_goals first|lia|(exact hi _ (by lia) (by lia))|(exact lo _ (by lia))|(exact so _ _ (by lia) (by lia))
theorem AG (o:Lt N lt)(an:AF N lt cmp s)(h2:2<=N)(k:∀ p,Pm N p->So lt p N->Q p s):(kas_sort N).kasWp cmp Q s:=by
 unfold kas_sort;rw[PD];have pm:Pm N (List.toArray (List.range N)):=by unfold Pm;simp
 refine xD o an pm h2 fun m p' a b c d=>?_;show KasT.kasWp cmp (if m<N then kas_bin (N-max m 1) p' (max m 1) else .ret p') Q s;by_cases e:m<N
 .rw[Mh e];have:max m 1=m:=by lia
  rw[this];exact xF o an (N-m) m p' c (by lia) d k
 .rw[Mj e];have:m=N:=by lia
  subst this;exact k p' c d
end
end ST
namespace L2
open PySem PySem.Spec PySem.Calls PyProof.Rows ST
noncomputable abbrev iK (ns:List Int):List bh:=ns.map Sum.inl
section
theorem jU (h:(ay prog w).is (.inl i) v=true):∃ t,v=.int i t:=by
 rcases aT (show fO (.inl i) v=true from h) with⟨j,t,e,rfl⟩|⟨x,t,e,_⟩
 .cases e;exact⟨t,rfl⟩
 .cases e
theorem items_int:∀{ns:List Int}{vs:List QS},ItemsAre (ay prog w) (iK ns) vs->∀ v∈vs,∃ i t,v=.int i t
 | [],_,h,v,hv=>by cases h;simp at hv
 |n::ns,_,h,v,hv=>by
  cases h with
  |cons h1 h2=>
   rcases Mv.mp hv with rfl|hv
   .obtain⟨t,rfl⟩:=jU h1;exact⟨n,t,rfl⟩
   .exact items_int h2 v hv
theorem Di (hk:(tK prog w).is s.heap (iK ns) b)(h:Q true s):wpAny (model prog w) A (hashByValue 8 (.ref b)) Q E s:=by
 have hT:=IsTupleKey.typeIs hk;obtain⟨o,items,n,ho,_,hd,hi⟩:=hk;unfold hashByValue;refine KE (OC hT Om.lookup ?_);dsimp only;refine KE (Qa ho hd ?_);refine KE ?_;show wpAny _ _ (forIn items _ _) _ _ s;rw[<- OV];refine OM _ (fun rest r s'=>r.1=none/\s'=s/\∀ v∈rest,∃ i t,v=Value.int i t) _ ?_ ?_ _ _ ⟨rfl,rfl,items_int hi⟩
 .rintro v rest r s' ⟨hr,rfl,gs⟩;obtain⟨i,t,rfl⟩:=gs v Mr;refine KE (L_ ?_);simp only[NJ,Mz,Nm];exact L_ ⟨rfl,rfl,fun u hu'=>gs u (Ms _ hu')⟩
 .rintro⟨r1,r2⟩ s' ⟨hr,rfl,_⟩;simp only at hr;subst hr;exact L_ h
theorem pV (hk:(tK prog w).is s.heap (iK ns) b)(h:Q false s):wpAny (model prog w) A (ofAClassStatement 8 (.ref b)) Q E s:=by
 have hT:=IsTupleKey.typeIs hk;obtain⟨o,items,n,ho,_,hd,hi⟩:=hk;unfold ofAClassStatement;refine KE (OZ hT ?_);dsimp only;rw[Mh (by decide)];refine KE (L_ ?_);simp only[NJ,Mz,Nm];refine KE (Qa ho hd ?_);refine KE ?_;show wpAny _ _ (forIn items _ _) _ _ s;rw[<- OV];refine OM _ (fun rest r s'=>r.1=none/\s'=s/\∀ v∈rest,∃ i t,v=Value.int i t) _ ?_ ?_ _ _ ⟨rfl,rfl,items_int hi⟩
 .rintro v rest r s' ⟨hr,rfl,gs⟩;obtain⟨i,t,rfl⟩:=gs v Mr;refine KE (L_ ?_);simp only[Mz,Nm];exact L_ ⟨rfl,rfl,fun u hu'=>gs u (Ms _ hu')⟩
 .rintro⟨r1,r2⟩ s' ⟨hr,rfl,_⟩;simp only at hr;subst hr;exact L_ h
theorem Dj (hk:(tK prog w).is s.heap (iK ns) b)(hy:∀ y∈ys,∃ ms c,y=.ref c/\(tK prog w).is s.heap (iK ms) c)(h:Q false s):wpAny (model prog w) A (searchCouldBeSeen (.ref b) ys) Q E s:=by
 unfold searchCouldBeSeen;refine KE ?_;refine OM _ (fun rest r s'=>r.1=none/\s'=s/\∀ y∈rest,∃ ms c,y=.ref c/\(tK prog w).is s.heap (iK ms) c) _ ?_ ?_ _ _ ⟨rfl,rfl,hy⟩
 .rintro v rest r s' ⟨hr,rfl,gs⟩;obtain⟨ms,c,rfl,hc⟩:=gs v Mr;have fin:∀ u∈rest,∃ ms c,u=Value.ref c/\(tK prog w).is s'.heap (iK ms) c:=fun u hu'=>gs u (Ms _ hu');dsimp only;split
  .exact L_ ⟨rfl,rfl,fin⟩
  .refine KE ((tK prog w).quiet hk ?_);simp only[NJ,Mz,Nm];refine KE ((tK prog w).quiet hc ?_);simp only[NJ,Mz,Nm];refine KE (pV hk ?_);simp only[Mz,Nm];refine KE (pV hc ?_);simp only[Mz,Nm];exact L_ ⟨rfl,rfl,fin⟩
 .rintro⟨r1,r2⟩ s' ⟨hr,rfl,_⟩;simp only at hr;subst hr;exact L_ h
end
section
def J_ (prog:QR)(w:World)(h:Heap)(es:Array (Int×QS)):Prop:=∀ e∈es.toList,∃ ms c,e=((tK prog w).hash (iK ms),Value.ref c)/\(tK prog w).is h (iK ms) c
theorem AH (h:qU m):(m % 2==0)=false:=by rcases h with rfl|rfl|rfl|rfl|rfl<;>rfl
theorem lO.fits (T:lO t es)(hs:t.place.size<=t.mask):t.fits es.size=true:=by unfold SetTable.fits SetTable.fill;rw[T.tb.Fv];simp[T.len]at hs ⊢;exact hs
theorem se {α:Type}{es:Array α}{i:Nat}{e:α}(h:es[i]?=some e):e∈es.toList:=MJ.mpr ⟨i,by rw[Mn];exact h⟩
theorem mV {ep:Nat}{t:SetTable}{ns:List Int}{Q:SetFound->QP->Prop}(ho:s.heap.get? a=some o)(hd:o.data=.set es ep t)(T:lO t es)(hs:t.place.size<=t.mask)
 (hu:A.units<cLine) (hk:(tK prog w).is s.heap (iK ns) b) (el:J_ prog w s.heap es)
 (h1:(∃ e∈es.toList,∃ c,e.2=.ref c/\(tK prog w).is s.heap (iK ns) c)->Q (.there none) s)
 (h2:(∀ e∈es.toList,∀ c,e.2=.ref c->¬ (tK prog w).is s.heap (iK ns) c)->∀ j,j∉t.place.toList->j<=t.mask->Rea t.mask (·∈ t.place.toList) ((tK prog w).hash (iK ns)) j->Q (.free j false) s) :
 ∀(fuel n:Nat)(stand:Option SetTable.Probe),stand.getD (t.probeStart ((tK prog w).hash (iK ns)))=it t.mask n (st t.mask ((tK prog w).hash (iK ns)))->
  (∀ k,k<n->∃ i e,∃ hi:i<t.place.size,t.place[i]=(it t.mask k (st t.mask ((tK prog w).hash (iK ns)))).j/\es[i]?=some e/\∀ c,e.2=.ref c->¬ (tK prog w).is s.heap (iK ns) c)->
  (∃ N,n<=N/\N<n+fuel/\(it t.mask N (st t.mask ((tK prog w).hash (iK ns)))).j∉t.place.toList)->
  wpAny (model prog w) A (setSearchFrom a (.ref b) ((tK prog w).hash (iK ns)) true fuel stand) Q E s
 |0,n,stand,_,_,⟨N,x1,x2,_⟩=>by lia
 |fuel+1,n,stand,e1,e2,⟨N,x1,x2,x3⟩=>by
  have v0:Va t.mask (it t.mask n (st t.mask ((tK prog w).hash (iK ns)))):=(Va.st _ _).it;have sp:=kG T.tb hs (fun i=>(es[i]?.map (·.1)).getD 0) ((tK prog w).hash (iK ns)) v0;have at_:∀ i,i<t.place.size->∃ e,es[i]?=some e:=fun i hi=>⟨es[i]'(by rw[<- T.len];exact hi),by simp[T.len▸hi]⟩;unfold setSearchFrom;refine KE (NE ho hd (lO.fits T hs) ?_);dsimp only;have hg:t.gaveWay=false:=AH T.tb.CB;rw[hg];simp only[Mz,Nm];rw[e1];have pre:∀{nn:Nat},(∀ k,k<nn->∃ i,∃ hi:i<t.place.size,t.place[i]=(it t.mask k (it t.mask n (st t.mask ((tK prog w).hash (iK ns))))).j/\(es[i]?.map (·.1)).getD 0≠(tK prog w).hash (iK ns))->
   ∀ k,k<n+nn->∃ i e,∃ hi:i<t.place.size,t.place[i]=(it t.mask k (st t.mask ((tK prog w).hash (iK ns)))).j/\es[i]?=some e/\∀ c,e.2=.ref c->¬ (tK prog w).is s.heap (iK ns) c:=by
   intro nn hb k hk';by_cases hkn:k<n
   .exact e2 k hkn
   .obtain⟨i,hi,q1,q2⟩:=hb (k-n) (by lia);obtain⟨e,he⟩:=at_ i hi;refine⟨i,e,hi,?_,he,fun c hc his=>q2 ?_⟩
    .rw[q1,<- dN,show n+(k-n)=k by lia]
    .obtain⟨ms,c',rfl,his'⟩:=el e (se he);have hc':c'=c:=by injection hc
     subst hc';rw[he];show(tK prog w).hash (iK ms)=_;rw[(tK prog w).inj his' his]
  generalize hq0:t.probe _ _ (it t.mask n (st t.mask ((tK prog w).hash (iK ns))))=pr;have hpr:t.probe (fun i=>(es[i]?.map (·.1)).getD 0) ((tK prog w).hash (iK ns)) (it t.mask n (st t.mask ((tK prog w).hash (iK ns))))=pr:=hq0;rw[hpr]at sp;clear hpr hq0;cases sp with
  |em nn hem hb=>
   dsimp only;refine L_ (h2 ?_ _ hem (v0.it).KF ?_)
   .intro e he c hc his;obtain⟨i,hi⟩:=MJ.mp he;rw[Mn]at hi;have hil:i<t.place.size:=by rw[T.len];exact(N6.mp hi).1
    obtain⟨ms,c',rfl,his'⟩:=el e he;have hc':c'=c:=by injection hc
    subst hc';have ek:=(tK prog w).inj his' his;have hz:(t.place[i],((tK prog w).hash (iK ms),Value.ref c'))∈t.place.toList.zip es.toList:=MJ.mpr ⟨i,by rw[Pf];exact⟨by simp[hil],by rw[Mn];exact hi⟩⟩;obtain⟨m,em,eb⟩:=T.Fz _ hz;have em:(it t.mask m (st t.mask ((tK prog w).hash (iK ms)))).j=t.place[i]:=em;rw[ek]at em eb;have hm:m<n+nn:=by
     rcases PZ m (n+nn) with q|q|q
     .exact q
     .exfalso;refine hem ?_;show(it t.mask nn (it t.mask n _)).j∈t.place.toList;rw[<- dN,<- q,em];simp
     .exfalso;refine hem ?_;show(it t.mask nn (it t.mask n _)).j∈t.place.toList;rw[<- dN];exact eb _ q
    obtain⟨i',e',hi',q1,q2,q3⟩:=pre hb m hm;have hii:i'=i:=by
     have:t.place[i']=t.place[i]:=q1.trans em;rcases PZ i' i with q|q|q
     .have:=MG.mp T.tb.qQ i' i (by simpa using hi') (by simpa using hil) q;simp at this;lia
     .exact q
     .have:=MG.mp T.tb.qQ i i' (by simpa using hil) (by simpa using hi') q;simp at this;lia
    subst hii;rw[hi]at q2;cases q2;exact q3 c' rfl his
   .refine⟨n+nn,by rw[dN],fun k hk'=>?_⟩;obtain⟨i,e,hi,q1,_⟩:=pre hb k hk';show _∈t.place.toList;rw[<- q1];simp
  |ca nn i hi hij hq hb=>
   dsimp only;obtain⟨e,he⟩:=at_ i hi;obtain⟨ms,c,rfl,his⟩:=el e (se he);have rest:wpAny (model prog w) A (do
    let some (_,y):=es[i]?|unsupported "internal:set-entry"
    let equal <- holding [y] (eqBool y (.ref b))
    let (es',_,t') <- setState a
    if true&&equal then return SetFound.there none
    let some same:=t'.sameMemory t.moves t.mask|unsupported "set.changed-during-lookup:is-the-new-block-at-the-old-address"
    let still <- match (if same then t'.slot (it t.mask nn (it t.mask n (st t.mask ((tK prog w).hash (iK ns))))).j else .empty) with
     | .live i'=>match es'[i']? with
      |some (_,y')=>do pure (if <- isSame y' y then some i' else none)
      |none=>pure none
     |_=>pure none
    match still with
    |none=>rule "set.search.anew";setSearchFrom a (.ref b) ((tK prog w).hash (iK ns)) true fuel none
    |some i'=>if equal then return .there (some i') else setSearchFrom a (.ref b) ((tK prog w).hash (iK ns)) true fuel (some (it t.mask (nn+1) (it t.mask n (st t.mask ((tK prog w).hash (iK ns))))))) Q E s:=by
    rw[he];dsimp only;refine KE (Nb ((tK prog w).eqBool hu his hk ?_));refine KE (NE ho hd (lO.fits T hs) ?_);dsimp only;by_cases hkk:iK ms=iK ns
    .rw[Mp hkk];simp only[QF,O_];exact L_ (h1 ⟨_,se he,c,rfl,by rw[<- hkk];exact his⟩)
    .rw[My hkk];simp only[P_,Mz,Nm];have hsm:t.sameMemory t.moves t.mask=some true:=by unfold SetTable.sameMemory;simp
     rw[hsm];dsimp only;rw[Mh rfl,<- hij,mT T.tb hi];dsimp only;rw[he];dsimp only;refine KE (wpAny_isSame_ref_self ?_);refine KE (L_ ?_);rw[Mh rfl]
     try dsimp only
     refine mV ho hd T hs hu hk el h1 h2 fuel (n+(nn+1)) _ ?_ ?_ ⟨N,?_,?_,x3⟩
     .exact(dN t.mask n (nn+1) _).symm
     .intro k hk';by_cases hkn:k<n+nn
      .exact pre hb k hkn
      .have:k=n+nn:=by lia
       subst this;refine⟨i,_,hi,by rw[hij,dN],he,fun c' hc' hh=>hkk ?_⟩;have:c=c':=by injection hc'
       subst this;exact(tK prog w).inj his hh
     .refine N9 fun hc=>?_;have hN:N<n+(nn+1):=by lia
      by_cases hNn:N<n+nn
      .obtain⟨i',e',hi',q1,_⟩:=pre hb N hNn;exact x3 (by rw[<- q1];simp)
      .have:N=n+nn:=by lia
       subst this;exact x3 (by rw[dN,<- hij];simp)
     .lia
   split
   .refine KE (Dj hk ?_ ?_)
    .intro y hy;obtain⟨e',he',rfl⟩:=Md.mp hy;have he2:e'∈es.toList:=by have:=(Array.mem_toList_iff).mp he';rw[Array.mem_filter]at this;exact Array.mem_toList_iff.mpr this.1
     obtain⟨ms',c',rfl,his'⟩:=el e' he2;exact⟨ms',c',rfl,his'⟩
    .simp only[Mz,Nm];exact rest
   .exact rest
end
noncomputable def byT (w:World):Bool:=w.params.followText "set-order"
def SetAt (w:World)(h:Heap)(a:Addr)(es:Array (Int×QS)):Prop:=∃ o ep t,h.get? a=some o/\o.ExactSet/\o.data=.set es ep t/\lO t es/\gV t/\t.plain=true/\t.led=!byT w
theorem SetAt.keep (x:SetAt w h a es)(k:∀ o,h.get? a=some o->h'.get? a=some o):SetAt w h' a es:=let ⟨o,ep,t,e,r⟩:=x;⟨o,ep,t,k o e,r⟩
theorem eV (h:gV t):t.place.size<=t.mask:=by unfold gV at h;lia
section
structure jE (es es':Array (Int×QS)) (x:Int×QS):Prop where
 mem:∀ y,y∈es'.toList↔y=x\/y∈es.toList
 pw:∀ R:Int×QS->Int×QS->Prop,(∀ x y,R x y->R y x)->es.toList.Pairwise R->(∀ e∈es.toList,R e x)->es'.toList.Pairwise R
 size:es'.size=es.size+1
theorem mW (es:Array (Int×QS))(p:Nat)(x:Int×QS)(hp:p<=es.size):jE es (SetTable.insertAt es p x) x:=by
 have e:=ST.insertAt_toList es p x hp;refine⟨fun y=>?_,fun R sy pw hx=>?_,ST.insertAt_size es p x hp⟩
 .rw[e,MO,Mv];constructor
  .grind
  .rintro (rfl|z)
   .exact .inr (.inl rfl)
   .rw[<- MP p es.toList,MO]at z;exact z.elim .inl fun z=>.inr (.inr z)
 .rw[e,NH];rw[<- MP p es.toList,NH]at pw;obtain⟨p1,p2,p3⟩:=pw;refine⟨p1,?_,?_⟩
  .rw[Np]
   grind
  .grind
theorem jE.laid (g:jE es es1 x)(l:Laid m es1 es2 t):jE es es2 x:=⟨fun y=>(l.mem y).trans (g.mem y),fun R sy pw hx=>l.pw R sy (g.pw R sy pw hx),by rw[l.size,g.size]⟩
theorem gD {ep:Nat}{t:SetTable}(es':Array (Int×QS))(t':SetTable){h:Heap}(ho:h.get? a=some o)(hex:o.ExactSet)(hd:o.data=.set es ep t) :
 ∃ o',(h.update a (Obj.putSet es' t')).get? a=some o'/\o'.ExactSet/\o'.data=.set es' (ep+1) t':=by
 have:=NO (Obj.putSet es' t') ho (by rw[putSet_of es' t' hd];rfl);rw[putSet_of es' t' hd]at this;exact⟨_,this,hex,rfl⟩
theorem kJ {t:SetTable}(h:qU t.mask)(h1:n*5<t.mask*3)(h2:(n+1)*5>=t.mask*3)(h3:n+1<=1200):∃ m,SetTable.sizeAbove (SetTable.grown (n+1))=m+1/\qU m/\(n+1)*5<m*3:=by
 rcases h with e|e|e|e|e<;>rw[e]at h1 h2
 .have:n=4:=by lia
  subst this;exact⟨31,by decide,.inr (.inl rfl),by lia⟩
 .have:n=18:=by lia
  subst this;exact⟨127,by decide,.inr (.inr (.inl rfl)),by lia⟩
 .have:n=76:=by lia
  subst this;exact⟨511,by decide,.inr (.inr (.inr (.inl rfl))),by lia⟩
 .have:n=306:=by lia
  subst this;exact⟨2047,by decide,.inr (.inr (.inr (.inr rfl))),by lia⟩
 .lia
theorem xG {a:Addr}{o:Obj}{es:Array (Int×QS)}{Q:Unit->QP->Prop}(ho:s.heap.get? a=some o)(hex:o.ExactSet)(hd:o.data=.set es ep t)(hf:t.fits es.size=true)(hm:qU m)(hn:SetTable.sizeAbove n=m+1)(hl:es.size*5<m*3)(hpl:t.plain=true)(hle:t.led=!byT w)
 (h:∀ es' t',Laid m es es' t'->SetAt w (s.heap.update a (Obj.putSet es' t')) a es'->Q () { s with heap:=s.heap.update a (Obj.putSet es' t') }):wpAny (model prog w) A (setRelay a n) Q E s:=by
 have hmb:m<=2047:=by rcases hm with rfl|rfl|rfl|rfl|rfl<;>lia
 unfold setRelay;refine KE (NE ho hd hf ?_);dsimp only;rw[Mj (by rw[hn,MV];lia)];obtain⟨t',order,e,L,hlp,hp⟩:=AE hm es (by lia) t.finger (t.movedTo m) t.led t.plain;have er:t.relaid (es.map (·.1)) n=some (t',order):=by unfold SetTable.relaid;rw[hn];exact e
 rw[er];show wpAny _ _ (do
  let r <- (do
   if (order.filterMap (es[·]?)).size != es.size then unsupported "internal:set-table-lost-an-element"
   pure (order.filterMap (es[·]?),t'):Sem (Array (Int×QS)×SetTable))
  storeSet a r.1 r.2) _ _ _
 refine KE ?_;rw[Mj (by rw[L.size];simp)];refine L_ ?_;refine P6 ho hd ?_ (by show(order.filterMap (es[·]?)).size<=_;rw[L.size,MV];lia);obtain⟨o',g1,g2,g3⟩:=gD (order.filterMap (es[·]?)) t' ho hex hd;refine h _ t' L ⟨o',_,t',g1,g2,g3,L.pc,?_,by rw[hp];exact hpl,by rw[hlp];exact hle⟩;unfold gV;rw[L.pc.len,L.size,L.mask];exact hl
end
section
theorem xH (T:lO t es)(hs:t.place.size<=t.mask)(h:Int):∃ N,N<100000/\(it t.mask N (st t.mask h)).j∉t.place.toList:=by
 obtain⟨j,hj,hn⟩:=kF T.tb hs;obtain⟨N,h1,h2⟩:=B_ T.tb.CB hj (Va.st t.mask h);refine⟨N,?_,by rw[h2];exact hn⟩;have:t.mask<=2047:=by rcases T.tb.CB with e|e|e|e|e<;>rw[e]<;>lia
 unfold SetTable.turns at h1;lia
theorem Dk (hu:A.units<cLine)(hk:(tK prog w).is s.heap (iK ns) b)(hS:SetAt w s.heap a es)(el:J_ prog w s.heap es)(hz:es.size+1<=1200)
 (h1:∀ tk,s.toks<=tk->(∃ e∈es.toList,∃ c,e.2=.ref c/\(tK prog w).is s.heap (iK ns) c)->Q false { s with toks:=tk })
 (h2:∀ tk h' es',s.toks<=tk->(∀ e∈es.toList,∀ c,e.2=.ref c->¬ (tK prog w).is s.heap (iK ns) c)->Heap.SameBut a s.heap h'->SetAt w h' a es'->jE es es' ((tK prog w).hash (iK ns),.ref b)->Q true { s with heap:=h',toks:=tk }) :
 wpAny (model prog w) A (setAdd a (.ref b)) Q E s:=by
 obtain⟨o,ep,t,ho,hex,hd,T,sp,hpl,hle⟩:=hS;have hf:=lO.fits T (eV sp);unfold setAdd;refine Nb ?_;refine KE ((tK prog w).pyHash hu hk ?_);have htk:s.toks<=s.toks+(tK prog w).draws (iK ns):=QJ _ _;generalize s.toks+(tK prog w).draws (iK ns)=tk at htk;unfold setAddHashed setAddHashedIn;refine Nb ?_;refine KE (NE (s:={ s with toks:=tk }) ho hd hf ?_);dsimp only;have hbs:byScan (.ref b) es=false:=by simp[byScan,Value.scannable]
 rw[hbs];simp only[Mz,Nm];unfold setSearch;obtain⟨N,n1,n2⟩:=xH T (eV sp) ((tK prog w).hash (iK ns));refine KE (mV (s:={ s with toks:=tk }) ho hd T (eV sp) hu hk el (fun hin=>?_) (fun hout j hj hjm hr=>?_) 100000 0 none rfl (fun k hk'=>by lia) ⟨N,ML _,by lia,n2⟩)
 .exact L_ (h1 tk htk hin)
 .dsimp only;refine KE (NE (s:={ s with toks:=tk }) ho hd hf ?_);dsimp only;obtain⟨T',em,ez⟩:=rZ T hj hjm (v:=Value.ref b) hr;have hpl':(t.put j).1.plain=true:=by rw[ip T.tb];exact hpl
  have hle':(t.put j).1.led=!byT w:=by rw[ip T.tb];exact hle
  rw[hpl'];simp only[O_];refine KE (Di (s:={ s with toks:=tk }) hk ?_);simp only[O_];have hp:(t.put j).2<=es.size:=by rw[jT,<- T.len];exact(cv j T.tb.qQ).1
  have g:=mW es (t.put j).2 ((tK prog w).hash (iK ns),Value.ref b) hp;refine KE (P6 (s:={ s with toks:=tk }) ho hd ?_ (by rw[g.size,MV];lia));obtain⟨o1,q1,q2,q3⟩:=gD (SetTable.insertAt es (t.put j).2 ((tK prog w).hash (iK ns),Value.ref b)) (t.put j).1 ho hex hd;have sb:=M_ s.heap a (Obj.putSet (SetTable.insertAt es (t.put j).2 ((tK prog w).hash (iK ns),Value.ref b)) (t.put j).1);have fill:(t.put j).1.fill=es.size+1:=by unfold SetTable.fill;rw[T'.tb.Fv,ez,T.len];rfl
  by_cases hfull:(t.put j).1.tooFull=true
  .rw[hfull];simp only[Bool.not_false,QF,O_];unfold SetTable.tooFull at hfull;rw[fill,em]at hfull;have hfull:(es.size+1)*5>=t.mask*3:=by simpa using hfull
   have sp':es.size*5<t.mask*3:=by rw[<- T.len];exact sp
   obtain⟨m,m1,m2,m3⟩:=kJ T.tb.CB sp' hfull hz;have le':(t.put j).1.place.size<=(t.put j).1.mask:=by
    rw[ez,em];unfold gV at sp;have:t.mask>=7:=by rcases T.tb.CB with e|e|e|e|e<;>rw[e]<;>lia
    lia
   refine KE (xG (s:={ s with heap:=s.heap.update a (Obj.putSet (SetTable.insertAt es (t.put j).2 ((tK prog w).hash (iK ns),Value.ref b)) (t.put j).1),toks:=tk }) q1 q2 q3 (lO.fits T' le') m2 m1 (by rw[g.size];exact m3) hpl' hle' fun es' t' L sa=>?_);exact L_ (h2 tk _ es' htk hout (sb.trans (M_ _ a _)) sa (g.laid L))
  .have hfull:(t.put j).1.tooFull=false:=by simpa using hfull
   rw[hfull];simp only[P_,Mz,Nm];refine L_ (h2 tk _ _ htk hout sb ⟨o1,_,_,q1,q2,q3,T',?_,hpl',hle'⟩ g);unfold SetTable.tooFull at hfull;unfold gV;rw[fill]at hfull;rw[ez,T.len];simpa using hfull
end
noncomputable abbrev dg:=List Int×Addr
theorem xI (h:iK a=iK b):a=b:=by
 induction a generalizing b with
 |nil=>cases b with
  |nil=>rfl
  |cons _ _=>cases h
 |cons x a ih=>cases b with
  |nil=>cases h
  |cons y b=>grind
section
variable {κ μ:Type}{x:κ×μ}
structure cQ (ent:κ×μ->Int×QS) (es:Array (Int×QS)) (xs:List (κ×μ)):Prop where
 el:∀ e∈es.toList,∃ x∈xs,e=ent x
 sz:es.size<=xs.length
 pw:es.toList.Pairwise fun e e'=>∀ x x',e=ent x->e'=ent x'->x∈xs->x'∈xs->x.1≠x'.1
 all:∀ x∈xs,∃ y∈xs,y.1=x.1/\ent y∈es.toList
def zR (ent:κ×μ->Int×QS)(xs:List (κ×μ)):Prop:=∀ x∈xs,∀ y∈xs,ent x=ent y->x.1=y.1
theorem cQ.wide (v:cQ ent es xs)(un:zR ent (xs++[x])):es.toList.Pairwise fun e e'=>∀ y y',e=ent y->e'=ent y'->y∈xs++[x]->y'∈xs++[x]->y.1≠y'.1:=by refine N1 (fun{a b} ha hb hab z z' e1 e2 m1 m2=>?_) v.pw;obtain⟨y,y1,rfl⟩:=v.el a ha;obtain⟨y',y1',rfl⟩:=v.el b hb;rw[un z m1 y (Na _ y1) e1.symm,un z' m2 y' (Na _ y1') e2.symm];exact hab y y' rfl rfl y1 y1'
theorem cQ.seen (v:cQ ent es xs)(hin:∃ y∈xs,y.1=x.1)(un:zR ent (xs++[x])):cQ ent es (xs++[x]):=by
 refine⟨fun e he=>?_,?_,v.wide un,fun y hy=>?_⟩
 .obtain⟨z,h1,h2⟩:=v.el e he;exact⟨z,Na _ h1,h2⟩
 .have:=v.sz;simp;lia
 .obtain⟨y',h1,h2⟩ : ∃ z∈xs,z.1=y.1:=by
   rcases MO.mp hy with hy|hy
   .exact⟨y,hy,rfl⟩
   .rw[MH]at hy;subst hy;exact hin
  obtain⟨z,g1,g2,g3⟩:=v.all y' h1;exact⟨z,Na _ g1,g2.trans h2,g3⟩
theorem cQ.new (v:cQ ent es xs)(hin:¬ ∃ y∈xs,y.1=x.1)(un:zR ent (xs++[x]))(g:jE es es' (ent x)):cQ ent es' (xs++[x]):=by
 have hx:x∈xs++[x]:=MX _ (MH.mpr rfl);refine⟨fun e he=>?_,?_,?_,fun y hy=>?_⟩
 .rcases (g.mem e).mp he with rfl|he
  .exact⟨x,hx,rfl⟩
  .obtain⟨z,h1,h2⟩:=v.el e he;exact⟨z,Na _ h1,h2⟩
 .have:=v.sz;rw[g.size];simp;lia
 .refine g.pw _ (fun a b hab z z' e1 e2 m1 m2 h=>hab z' z e2 e1 m2 m1 h.symm) (v.wide un) fun e he z z' e1 e2 m1 m2 h=>?_;obtain⟨y,y1,rfl⟩:=v.el e he;exact hin ⟨y,y1,(un z m1 y (Na _ y1) e1.symm).symm.trans (h.trans (un z' m2 x hx e2.symm))⟩
 .rcases MO.mp hy with hy|hy
  .obtain⟨z,h1,h2,h3⟩:=v.all y hy;exact⟨z,Na _ h1,h2,(g.mem _).mpr (.inr h3)⟩
  .rw[MH]at hy;subst hy;exact⟨y,hx,rfl,(g.mem _).mpr (.inl rfl)⟩
end
section
variable {κ μ:Type}
def tZ (prog:QR)(w:World)(A:QT)(hb:Heap)(S:Addr)(ent:κ×μ->Int×QS)(its:List (κ×μ)):Prop:=∀(x:κ×μ)(xs:List (κ×μ))(s:QP)(es:Array (Int×QS))(Q:Bool->QP->Prop)(E:QS->QP->Prop),x∈its->(∀ y∈xs,y∈its)->(∀ b o,hb.get? b=some o->s.heap.get? b=some o)->SetAt w s.heap S es->cQ ent es xs->es.size+1<=1200->
 (∀ tk,s.toks<=tk->(∃ y∈xs,y.1=x.1)->Q false { s with toks:=tk })->(∀ tk h' es',s.toks<=tk->(¬ ∃ y∈xs,y.1=x.1)->Heap.SameBut S s.heap h'->SetAt w h' S es'->jE es es' (ent x)->Q true { s with heap:=h',toks:=tk })->wpAny (model prog w) A (setAdd S (ent x).2) Q E s
variable {St:Nat->QP->Prop}
theorem i9 (W:WalksS prog w A.in1 I fp wr G n P St)(S:Addr)(hSf:S∉fp)(hb:Heap)(hbS:hb.get? S=none)(hbw:∀ b∈wr,hb.get? b=none)(its:List (κ×μ))(hn:its.length=n)
 (hval:∀ i v,P i v->∃ x,its[i]?=some x/\v=(ent x).2) (un:zR ent its) (add:tZ prog w A.in1 hb S ent its) (hz:n<=1200) :
 ∀(k i:Nat)(s:QP)(es:Array (Int×QS)),n-i=k->i<=n->St i s->(∀ b o,hb.get? b=some o->s.heap.get? b=some o)->SetAt w s.heap S es->cQ ent es (its.take i)->
  (∀ s' es',Moved (S::wr) G s s'->SetAt w s'.heap S es'->cQ ent es' its->R (.ok (.ret .none)) s')->
  codeAny (model prog w) A (.builtin "set.update.loop" ⟨[.ref S,.ref I],[]⟩) R s:=by
 have hSw:S∉wr:=fun h=>hSf (W.sub _ h);have hsub:∀ b∈wr,b∈S::wr:=fun b hb=>Ms _ hb;intro k;induction k with
 |zero=>
  intro i s es hk hi hst K hS v hR;have hin:i=n:=by lia
  subst hin;refine N4 Pg ?_;rw[Oi NW _];show wpAny _ A.in1 (pyNext (.ref I) >>= _) _ _ s;refine KE (W.done s _ _ hst fun s' hm=>?_);rw[Nt (by lia)]at v;have hR':=hR s' es (hm.mono hsub) (hS.keep fun o e=>hm.heap S o hSw e) v;show wpAny _ A.in1 (ret Value.none) _ _ s';exact L_ hR'
 |succ k ih=>
  intro i s es hk hi hst K hS v hR;have hlt:i<n:=by lia
  refine N4 Pg ?_;rw[Oi NW _];show wpAny _ A.in1 (pyNext (.ref I) >>= _) _ _ s;refine KE (W.item i s _ _ hlt hst fun u s' hP hst' hm=>?_);obtain⟨x,hx,rfl⟩:=hval i u hP;have htk:its.take (i+1)=its.take i++[x]:=by rw[NF,hx];rfl
  have un':zR ent (its.take i++[x]):=by rw[<- htk];exact fun y hy z hz=>un y (Nk hy) z (Nk hz)
  have K':∀ b o,hb.get? b=some o->s'.heap.get? b=some o:=fun b o e=>hm.heap b o (fun z=>by rw[hbw b z]at e;cases e) (K b o e);have hS':=hS.keep fun o e=>hm.heap S o hSw e;have hes:es.size+1<=1200:=by have:=v.sz;rw[MU]at this;lia
  show wpAny _ A.in1 (holding [(ent x).2] (setAdd S (ent x).2) >>= _) _ _ s';refine KE (Nb (add x (its.take i) s' es _ _ (MW hx) (fun y hy=>Nk hy) K' hS' v hes (fun tk htk' hin=>?_) fun tk h' es' htk' hnin hsb hSn g=>?_))
  .refine L_ ⟨PB NW _,ih (i+1) _ es (by lia) hlt (W.frame _ s' _ _ hst' htk' fun b hb o e=>e) K' hS' (by rw[htk];exact v.seen hin un') fun s'' es'' hm'' hS'' v''=>?_⟩;exact hR s'' es'' (Moved.trans W.gtrans ((hm.mono hsub).then_heap htk' fun b o hb e=>e) hm'') hS'' v''
  .have K2:∀ b o,hb.get? b=some o->h'.get? b=some o:=fun b o e=>(hsb.2 b (fun z=>by rw[z,hbS]at e;cases e)).trans (K' b o e);refine L_ ⟨PB NW _,ih (i+1) _ es' (by lia) hlt (W.frame _ s' _ _ hst' htk' fun b hb o e=>?_) K2 hSn (by rw[htk];exact v.new hnin un' g) fun s'' es'' hm'' hS'' v''=>?_⟩
   .rw[hsb.2 b (fun h:b=S=>hSf (h▸hb))];exact e
   .refine hR s'' es'' (Moved.trans W.gtrans ((hm.mono hsub).then_heap htk' fun b o hb e=>?_) hm'') hS'' v'';rw[hsb.2 b (fun h:b=S=>hb (h▸Mr))];exact e
abbrev eT (prog:QR)(w:World)(x:dg):Int×QS:=((tK prog w).hash (iK x.1),Value.ref x.2)
theorem Dm (his:∀ x∈its,(tK prog w).is hb (iK x.1) x.2):zR (eT prog w) its:=fun x hx y hy e=>xI ((tK prog w).inj (his x hx) (by
 have e:x.2=y.2:=by injection e with _ e;injection e
 rw[e];exact his y hy))
theorem AI (hu:A.units<cLine)(his:∀ x∈its,(tK prog w).is hb (iK x.1) x.2):tZ prog w A hb S (eT prog w) its:=fun x xs s es Q E hx hs K hS v hz h1 h2=>by
 have hx':∀ y∈xs,(tK prog w).is s.heap (iK y.1) y.2:=fun y hy=>jR (his y (hs y hy)) K;refine Dk hu (jR (his x hx) K) hS (fun e he=>?_) hz (fun tk t hin=>h1 tk t ?_) fun tk h' es' t hout sb sa g=>h2 tk h' es' t (fun hin=>?_) sb sa g
 .obtain⟨y,hy,rfl⟩:=v.el e he;exact⟨_,_,rfl,hx' y hy⟩
 .obtain⟨e,he,c,hc,hh⟩:=hin;obtain⟨y,y1,rfl⟩:=v.el e he;injection hc with hc;subst hc;exact⟨y,y1,xI ((tK prog w).inj (hx' y y1) hh)⟩
 .obtain⟨y,y1,y2⟩:=hin;obtain⟨z,z1,z2,z3⟩:=v.all y y1;exact hout _ z3 z.2 rfl (by rw[<- y2,<- z2];exact hx' z z1)
end
noncomputable abbrev setNew (led:Bool):Obj:={ cls:=.type "set",dict:=none,data:=.set #[] 0 (.fresh 0 0 led) }
theorem vg (e:h.get? a=some (setNew (!byT w))):SetAt w h a #[]:=by refine⟨_,0,_,e,⟨rfl,rfl,rfl⟩,rfl,⟨⟨.inl rfl,rfl,List.Pairwise.nil,fun j hj=>nomatch hj⟩,rfl,fun q hq=>nomatch hq⟩,?_,rfl,rfl⟩;show 0*5<7*3;decide
section
theorem lV (a:QS)(h:Q₁ (.ref s.heap.objs.size) { s with heap:=s.heap.push (setNew (!byT w)) }) :
 codeAny (model prog w) A (.call (.builtin "set.__new__") ⟨[.type "set",a],[]⟩) (wants Q₁ E) s:=by
 refine codeAny_of_tree (show wpAny _ A.in1 (do checkBuiltinCall "set.__new__" ⟨[.type "set",a],[]⟩;again (.builtin "set.__new__" ⟨[.type "set",a],[]⟩)) _ _ s from ?_);refine KE (wpAny_of_eq (PySem.F.newCall_set_1 a) (L_ ⟨PB PySem.F.plain_set_new _,N4 PySem.F.entry_set_new ?_⟩));rw[Oi PySem.F.plain_set_new _];unfold Builtin.«set.__new__» Builtin.Frozenset.newClass;have hsub:=sub_set_self;obtain⟨hp,g,d,tk,os⟩:=s;dsimp only;wp_walk;refine wpAny_askSetting (L_ ?_);dsimp only;simp only[newObj];refine KE (wpAny_alloc (L_ ?_));exact L_ h
theorem mX {κ μ:Type} {ent:κ×μ->Int×QS} {l:Addr} {items:Array QS} {nl:Nat} {its:List (κ×μ)} {Q:QS->QP->Prop} (hh:A.handled=none) (hl:s.heap.get? l=some { cls:=.type "list",data:=.seq items nl }) (hn:its.length=items.size) (hz:items.size<=1200)
 (hval:∀(i:Nat)(v:QS),items[i]?=some v->∃ x,its[i]?=some x/\v=(ent x).2) (un:zR ent its) (add:tZ prog w A.in1.in1.in1 s.heap s.heap.objs.size ent its)
 (h:∀(h':Heap)(tk:Nat)(es:Array (Int×QS)),SetAt w h' s.heap.objs.size es->cQ ent es its->(∀ b o,b<s.heap.objs.size->s.heap.get? b=some o->h'.get? b=some o)->Q (.ref s.heap.objs.size) { s with heap:=h',toks:=tk }) :
 wpAny (model prog w) A (call (.type "set") [.ref l]) Q E s:=by
 obtain⟨c,tl,hmro⟩:=PySem.F.called_set.mro;have hmade:=PySem.F.called_set.made;have hsub:=PySem.F.called_set.sub;refine wpAny_call (codeAny_of_tree ?_);show wpAny _ _ (callAny (.type "set") _) _ _ _;refine L_ ⟨Code.quiet_builtin _ (by decide +kernel),N4 PySem.F.entry_type_call ?_⟩;rw[Around.under_plain (weight_type_call_type "set" [.ref l] []) rfl];have h1:=PySem.F.called_set.notType;have h2:=PySem.F.called_set.canCreate;have hct:=PySem.F.typeCall_set_1 (.ref l)
 repeat (any_goals (first|assumption|wp_step))
 refine Ps (lV (.ref l) (E:=E) (Q₁:=fun obj s₁=>obj=.ref s.heap.objs.size/\s₁={ s with heap:=s.heap.push (setNew (!byT w)) }) ⟨rfl,rfl⟩) fun r s₁ hr=>?_;rcases r with e|fl
 .exact hr
 cases fl with
 |ret obj=>
  obtain⟨rfl,rfl⟩:=hr;have hS:(s.heap.push (setNew (!byT w))).get? s.heap.objs.size=some (setNew (!byT w)):=Mm _ rfl;have hT:Shared.TypeIs { s with heap:=s.heap.push (setNew (!byT w)) } (.ref s.heap.objs.size) "set":=⟨_,hS,rfl⟩;have hli:=PySem.F.called_set.init.lookup;have hbi:=PySem.F.called_set.init.bind (.ref s.heap.objs.size)
  repeat (any_goals (first|assumption|wp_step))
  refine Ps (codeAny_call_builtin (R:=wants (fun r s₂=>r=.none/\∃ h' tk es,s₂={ s with heap:=h',toks:=tk }/\SetAt w h' s.heap.objs.size es/\cQ ent es its/\
   (∀ b o,b<s.heap.objs.size->s.heap.get? b=some o->h'.get? b=some o)) E) PySem.F.called_set.init.plain PySem.F.entry_set_init (check_set_init_1 hT ?_)) fun r₂ s₂ hr₂=>?_
  .have hol':(s.heap.push (setNew (!byT w))).get? l=some { cls:=.type "list",data:=.seq items nl }:=Mb _ hl;have hsls:=PySem.F.sub_list_set;have hslf:=PySem.F.sub_list_frozenset;have hne:(Value.type "list"==Value.type "dict")=false:=by decide
   have hl1:(s.heap.push (setNew (!byT w))).IsList l items:=⟨_,hol',rfl,nl,rfl⟩;unfold Builtin.«set.__init__» noKeywords Builtin.Frozenset.updateFrom;generalize hPI:pyIter=PI
   wp_walk
   subst hPI;refine O2 hl1 (KE (wpAny_runValue ?_));have hlS:l<s.heap.objs.size:=Mx hl;have hh3:A.in1.in1.in1.handled=none:=by simp[hh]
   have hneI:l≠(s.heap.push (setNew (!byT w))).objs.size:=by rw[Pe];exact MS (P7 hlS)
   have hno:∀ b,s.heap.objs.size<=b->s.heap.get? b=none:=fun b hb=>by
    cases q:s.heap.get? b with
    |none=>rfl
    |some o=>exact absurd (Mx q) (QO.mpr hb)
   refine i9 ((Walks.list hh3 _ l hneI items).toS) s.heap.objs.size ?hSf s.heap (hno _ (Mc _)) ?hbw its hn hval un add hz (items.size-0) 0 _ #[] rfl (ML _) ⟨⟨_,Mm _ rfl,rfl,rfl⟩,(hl1.push _)⟩
    (fun b o e=>Mb _ (Mb _ e)) (vg (Mb _ hS)) ⟨fun e he=>(nomatch he),ML _,List.Pairwise.nil,fun x hx=>(nomatch hx)⟩ ?hR
   case hSf=>rw[Pe];simp only[Mv,NY,Qu,not_or];exact⟨MS (Pj _),OH hlS⟩
   case hbw=>intro b hb;simp only[Mv,NY,Qu]at hb;subst hb;exact hno _ (by rw[Pe];lia)
   case hR=>intro s' es hm hS' v;obtain⟨h',g',d',tk',os'⟩:=s';have eg:g'=s.gens:=hm.gens;have ed:d'=s.drawn:=hm.drawn;have eo:os'=s.os:=hm.os;subst eg ed eo;refine L_ (L_ ⟨rfl,h',tk',es,rfl,hS',v,fun b o hb e=>hm.heap b o ?_ (Mb _ (Mb _ e))⟩);simp only[Mv,NY,Qu,not_or];exact⟨MS hb,by rw[Pe];exact MS (P7 hb)⟩
  .rcases r₂ with e|fl₂
   .exact hr₂
   cases fl₂ with
   |ret r=>
    obtain⟨rfl,h',tk,es,rfl,hS',v,hk'⟩:=hr₂
    repeat (any_goals (first|assumption|wp_step))
    exact h _ _ _ hS' v hk'
   |_=>exact hr₂.elim
 |_=>exact hr.elim
end
theorem kK {α:Type}:∀(l:List α)(i:Nat)(h:i<l.length),(l[i]::l.eraseIdx i).Perm l
 | [],i,h=>by simp at h
 |x::l,0,h=>Qy _
 |x::l,i+1,h=>by have ih:=kK l i (by simpa using h);have e:(x::l).eraseIdx (i+1)=x::l.eraseIdx i:=rfl;rw[e,List.getElem_cons_succ];exact(List.Perm.swap _ _ _).trans (List.Perm.cons x ih)
theorem t_ {α:Type}(next:Nat->Nat):∀(fuel k:Nat)(left:List α)(out:Array α),left.length=fuel->(pickOrder.go next fuel k left out).toList.Perm (out.toList++left)
 |0,k,left,out,h=>by have:left=[]:=On.mp h;subst this;unfold pickOrder.go;simp
 |f+1,k,left,out,h=>by have hi:next k % left.length<left.length:=Nat.mod_lt _ (by lia);unfold pickOrder.go;rw[Ml hi];dsimp only;have ih:=t_ next f (k+1) (left.eraseIdx (next k % left.length)) (out.push left[next k % left.length]) (by rw[List.length_eraseIdx,Mh hi];lia);refine ih.trans ?_;rw[OE,Mo];exact Qe _ (kK left _ hi)
theorem vh {α:Type}(next:Nat->Nat)(xs:Array α):(pickOrder next xs).toList.Perm xs.toList:=by have:=t_ next xs.size 0 xs.toList #[] (by simp);unfold pickOrder;simpa using this
def gg (w:World)(S:Addr)(ep:Nat)(es:Array (Int×QS)):Array (Int×QS):=if byT w then pickOrder (w.params.setOrder S ep) es else es
theorem pW (w:World)(S:Addr)(ep:Nat)(es:Array (Int×QS)):(gg w S ep es).toList.Perm es.toList:=by
 unfold gg;split
 .exact vh _ _
 .exact Qy _
theorem iq (w:World)(S:Addr)(ep:Nat)(es:Array (Int×QS)):(gg w S ep es).size=es.size:=by have:=(pW w S ep es).length_eq;simpa using this
def cw (w:World)(t:SetTable):Nat->Nat
 |0=>0
 |i+1=>if byT w then 0 else t.place.getD i 0+1
theorem sf (T:Tb t):∀(i:Nat),i<=t.place.size->SetTable.below t.place (match i with|0=>0|i+1=>t.place.getD i 0+1)=i
 |0,_=>by
  obtain⟨a,b,c⟩:=cv 0 T.qQ;dsimp only;rcases Nat.eq_zero_or_pos (SetTable.below t.place 0) with h|h
  .exact h
  .have:=b 0 (by lia) h;lia
 |i+1,hi=>by
  dsimp only;have e:t.place.getD i 0=t.place[i]:=by simp[Array.getD,show i<t.place.size by lia]
  rw[e];obtain⟨a,b,c⟩:=cv (t.place[i]+1) T.qQ;rcases PZ (SetTable.below t.place (t.place[i]+1)) (i+1) with q|q|q
  .have h1:=c i (by lia) (by lia);lia
  .exact q
  .have h1:=b (i+1) (by lia) q;have h2:=MG.mp T.qQ i (i+1) (by simp;lia) (by simp;lia) (by lia);simp at h2;lia
theorem slot_setiter_next:Slot "set_iterator" "__next__" "set_iterator.__next__":=.of (owner:="set_iterator") (n:="__next__") (by rw[typeLookup_type,builtinLookup_eq_fast];kernel_rfl) (by decide +kernel) (by decide +kernel) (by decide +kernel) (by first|exact .inl (by decide +kernel)|exact .inr (by decide +kernel)) (by rw[isSubtype_type];kernel_rfl)
theorem dO:entryFor table "set_iterator.__next__"=some Builtin.«set_iterator.__next__»:=entryFor_of_fast (by kernel_rfl)
theorem d9 (a:QS):argsOk "set_iterator.__next__" ⟨[a],[]⟩:=by (unfold argsOk;kernel_rfl)
theorem lX:entryFor table "set.__iter__"=some Builtin.«frozenset.__iter__»:=entryFor_alias (id':="frozenset.__iter__") (by kernel_rfl) rfl (by decide +kernel) (by kernel_rfl)
def SetIt (h:Heap) (it S:Addr) (slot i n ep:Nat):Prop:=∃ o,h.get? it=some o/\o.cls=.type "set_iterator"/\o.data=.fields #[.int slot 0,.int i 0,.ref S,.int n 0,.int ep 0]
theorem SetIt.typeIs {s:QP} {it S:Addr} {slot i n ep:Nat} (x:SetIt s.heap it S slot i n ep):s.TypeIs (.ref it) "set_iterator":=let ⟨o,ho,hc,_⟩:=x;⟨o,ho,hc⟩
def i_ (h:Heap)(S:Addr)(es:Array (Int×QS))(ep:Nat)(t:SetTable):Prop:=∃ o,h.get? S=some o/\o.ExactSet/\o.data=.set es ep t
section
theorem si (h:Q (byT w) s):wpAny (model prog w) A setsByText Q E s:=by unfold setsByText;exact KE (wpAny_askSetting (L_ h))
theorem kM (r:i_ s.heap S es ep t)(T:lO t es)(hs:t.place.size<=t.mask)(hpl:t.plain=true)(hle:t.led=!byT w)(hi:i<=es.size)
 (h:Q (((gg w S ep es)[i]?).map fun e=>(e.2,cw w t (i+1))) s):wpAny (model prog w) A (setNext S (cw w t i) i ep) Q E s:=by
 obtain⟨o,ho,hex,hd⟩:=r;have hf:=lO.fits T hs;unfold setNext;refine KE (NE ho hd hf ?_);dsimp only;refine KE (si ?_);cases hb:byT w with
 |true=>
  simp only[O_];rw[Mj (by simp)];refine KE ?_;unfold setWalk;refine KE (NE ho hd hf ?_);dsimp only;refine KE (si ?_);rw[hb];simp only[O_];refine KE (wpAny_askSetting (L_ ?_));have e1:cw w t (i+1)=0:=by unfold cw;rw[hb];rfl
  have e2:cw w t i=0:=by cases i with|zero=>rfl|succ i=>(unfold cw;rw[hb];rfl)
  rw[e2];rw[e1]at h;unfold gg at h;rw[hb]at h;exact L_ h
 |false=>
  simp only[Mz,Nm];rw[hb]at hle;have hle:t.led=true:=hle;show wpAny _ _ (if (!t.plain&&decide (es.size>1))=true then _ else _) _ _ _;rw[hpl];simp only[NJ,Qx,Mz,Nm];show wpAny _ _ ((if (!t.led&&!es.isEmpty)=true then unsupported "set:maker-not-led" else pure ()) >>= fun _=>_) _ _ _;rw[hle];simp only[NJ,Qx,Mz,Nm];refine KE (L_ ?_);have e1:SetTable.below t.place (cw w t i)=i:=by
   have:=sf T.tb i (by rw[T.len];exact hi);cases i with
   |zero=>exact this
   |succ i=>unfold cw;rw[hb];exact this
  have eo:gg w S ep es=es:=by unfold gg;rw[hb];rfl
  rw[eo]at h;rw[e1];by_cases hlt:i<es.size
  .have g1:es[i]?=some es[i]:=by simp[hlt]
   have hp:i<t.place.size:=by rw[T.len];exact hlt
   have g2:t.place[i]?=some t.place[i]:=by simp[hp]
   rw[g1]at h;rw[g1,g2];have e2:cw w t (i+1)=t.place[i]+1:=by unfold cw;rw[hb];simp[Array.getD,hp]
   rw[e2]at h;exact L_ h
  .have g1:es[i]?=none:=by simp;lia
   rw[g1]at h;rw[g1];exact L_ h
end
theorem d_:Slot "set_iterator" "__iter__" "set_iterator.__iter__":=.of (owner:="set_iterator") (n:="__iter__") (by rw[typeLookup_type,builtinLookup_eq_fast];kernel_rfl) (by decide +kernel) (by decide +kernel) (by decide +kernel) (by first|exact .inl (by decide +kernel)|exact .inr (by decide +kernel)) (by rw[isSubtype_type];kernel_rfl)
theorem g8:entryFor table "set_iterator.__iter__"=some Builtin.«dict_keyiterator.__iter__»:=entryFor_alias (id':="dict_keyiterator.__iter__") (by kernel_rfl) rfl (by decide +kernel) (by kernel_rfl)
theorem iu (a:QS):argsOk "set_iterator.__iter__" ⟨[a],[]⟩:=by (unfold argsOk;kernel_rfl)
section
theorem mY {it S:Addr}{slot i n ep:Nat}{P:PySem.Fin->QP->Prop}{F:QS->QP->Prop}(ho:s.heap.get? it=some o)(hd:o.data=.fields #[.int slot 0,.int i 0,.ref S,.int n 0,.int ep 0])
 (r:i_ s.heap S es ep t) (hf:t.fits es.size=true) (hn:n=es.size)
 (h:wpAny (model prog w) A (setNext S slot i ep) (fun m s'=>match m with
   |some (x,next)=>wpAny (model prog w) A (do setField (.ref it) 0 (rawInt next);setField (.ref it) 1 (rawInt (i+1));ret x) P F s'
   |none=>wpAny (model prog w) A (do setField (.ref it) 2 .none;raiseNew (<- newExc (.type "StopIteration") [])) P F s') F s) :
 wpAny (model prog w) A (Builtin.«set_iterator.__next__» ⟨[.ref it],[]⟩) P F s:=by
 obtain⟨os,hos,hex,hds⟩:=r;unfold Builtin.«set_iterator.__next__» slotArgs;simp only[List.isEmpty_nil,NJ,Mz,Nm,Qp,OF];refine KE (L_ ?_);refine KE (Qz ho hd ?_);dsimp only;refine KE ?_;unfold setEntries;refine KE (NE hos hds hf (L_ ?_));dsimp only;rw[Mj (by rw[hn];simp)];simp only[O3];refine KE (NC h (fun m s' hm=>?_) fun _ _ e=>e);cases m with
 |none=>exact hm
 |some p=>obtain⟨x,next⟩:=p;exact hm
theorem lY {it S:Addr}(hne:S≠it)(hh:A.handled=none){es:Array (Int×QS)}{ep:Nat}{t:SetTable}(T:lO t es)(hs:t.place.size<=t.mask)(hpl:t.plain=true)(hle:t.led=!byT w) :
 Walks prog w A it [it,S] [it] es.size (fun i v=>((gg w S ep es)[i]?).map (·.2)=some v) (fun i h=>SetIt h it S (cw w t i) i es.size ep/\i_ h S es ep t) where
 sub:=fun b hb=>by simp at hb;simp[hb]
 frame:=fun i h h' st hk=>by obtain⟨⟨o,h1,r1⟩,⟨o2,h2,r2⟩⟩:=st;exact⟨⟨o,hk it (by simp) o h1,r1⟩,⟨o2,hk S (by simp) o2 h2,r2⟩⟩
 item:=fun i s Q E hi st hQ=>by
  obtain⟨x1,x2⟩:=st;have hT:=x1.typeIs;obtain⟨o,ho,hc,hd⟩:=x1;have x2':=x2;obtain⟨o2,ho2,hex2,hd2⟩:=x2;unfold pyNext;refine KE (PF (NA (name:=Str.ofString "__next__") hT slot_setiter_next (M3 slot_setiter_next hT dO ?_ (d9 _))));refine mY ho hd x2' (lO.fits T hs) rfl (kM x2' T hs hpl hle (by lia) ?_);have hio:i<(gg w S ep es).size:=by rw[iq];exact hi
  have e1:(gg w S ep es)[i]?=some (gg w S ep es)[i]:=by simp[hio]
  rw[e1];show wpAny _ _ _ _ _ _;refine KE (Ph ho hd (by simp) ?_);have d1:=PH hd (·.setIfInBounds 0 (rawInt ((cw w t (i+1):Nat):Int)));have ho1:=NO (Obj.mapFields (·.setIfInBounds 0 (rawInt ((cw w t (i+1):Nat):Int)))) ho (Qf d1);refine KE (Ph (s:={ s with heap:=_ }) ho1 d1 (by simp) ?_);have d2:=PH d1 (·.setIfInBounds 1 (rawInt ((i:Int)+1)));have ho3:=NO (Obj.mapFields (·.setIfInBounds 1 (rawInt ((i:Int)+1)))) ho1 (Qf d2);have sb:=(M_ s.heap it (Obj.mapFields (·.setIfInBounds 0 (rawInt ((cw w t (i+1):Nat):Int))))).trans (M_ _ it (Obj.mapFields (·.setIfInBounds 1 (rawInt ((i:Int)+1)))));refine L_ ⟨_,rfl,L_ ?_⟩;refine hQ _ _ s.toks (by rw[e1];rfl) ⟨⟨_,ho3,?_,?_⟩,o2,(sb.2 S hne).trans ho2,hex2,hd2⟩ (fun b o hb e=>(sb.2 b (fun z=>hb (by simp[z]))).trans e)
  .exact(Obj.cls_mapFields ..).trans ((Obj.cls_mapFields ..).trans hc)
  .rw[d2];simp[rawInt]
 done:=fun s Q E st hQ=>by
  obtain⟨x1,x2⟩:=st;have hT:=x1.typeIs;obtain⟨o,ho,hc,hd⟩:=x1;unfold pyNext;refine KE (PF (NA (name:=Str.ofString "__next__") hT slot_setiter_next (M3 slot_setiter_next hT dO ?_ (d9 _))));refine mY ho hd x2 (lO.fits T hs) rfl (kM x2 T hs hpl hle (Mc _) ?_);have e1:(gg w S ep es)[es.size]?=none:=by simp[iq]
  rw[e1];show wpAny _ _ _ _ _ _;refine KE (Ph ho hd (by simp) ?_);refine KE ?_;simp only[newExc,newTuple];refine KE (Nc ?_ (by size_fits));refine KE (m:=firstArgMember _ _) (wpAny_of_eq (a:=Value.none) (by first|rfl|(simp only[firstArgMember];rfl)) ?_);refine Nc ?_ (by size_fits);simp only[raiseNew];refine KE (wpAny_handled ?_);rw[show A.in1.handled=none from hh];refine KE (L_ (wpAny_throw ?_));refine KE (ON (T:="StopIteration") (b:=true) ⟨_,Mm _ rfl,rfl⟩ isSubtype_stop ?_);refine L_ (hQ _ s.toks fun b o hb e=>?_);exact Mb _ (Mb _ (((M_ ..).2 b (fun z=>hb (by simp[z]))).trans e))
 self:=fun _ _ _ _ st hQ=>by refine O5 st.1.typeIs d_ (M3 d_ st.1.typeIs g8 ?_ (iu _));exact L_ ⟨_,rfl, "set_iterator",_,st.1.typeIs,slot_setiter_next.lookup,hQ⟩
end
section
theorem sj (r:i_ s.heap S es ep t)(hf:t.fits es.size=true)(hpl:t.plain=true)
 (h:Q (.ref s.heap.objs.size) { s with heap:=s.heap.push { cls:=.type "set_iterator",data:=.fields #[.int 0 0,.int 0 0,.ref S,.int es.size 0,.int ep 0] } }):wpAny (model prog w) A (pyIter (.ref S)) Q E s:=by
 obtain⟨o,ho,hex,hd⟩:=r;have hT:s.TypeIs (.ref S) "set":=⟨o,ho,hex.1⟩;refine O5 hT PySem.F.slot_set_iter (M3 PySem.F.slot_set_iter hT lX ?_ (PySem.F.args_set_iter_1 _));unfold Builtin.«frozenset.__iter__» Builtin.Frozenset.slot0 slotArgs;simp only[List.isEmpty_nil,NJ,Mz,↓reduceIte,bind_assoc,Qp,OF];unfold Builtin.Frozenset.addrOf Builtin.Frozenset.sizeOf setEntries;refine KE (L_ (KE (L_ ?_)));simp only[bind_assoc];refine KE (NE ho hd hf (KE (L_ (KE (L_ ?_)))));refine KE ?_;unfold setDrawn;refine KE (NE ho hd hf ?_);dsimp only;refine KE (si (L_ ?_));show wpAny _ _ (if (!byT w&&(!t.plain&&decide (es.size>1)))=true then _ else _) _ _ _;rw[hpl];simp only[NJ,Qx,P_,Mz,Nm];refine KE (L_ ?_);refine KE (wpAny_setEpoch_of ho hd hf ?_);exact KE (Nc (L_ ⟨_,rfl, "set_iterator",_,⟨_,Mm _ rfl,rfl⟩,slot_setiter_next.lookup,h⟩))
theorem xJ (hT:s.TypeIs (.ref S) "set") (h:Q false s):wpAny (model prog w) A (Builtin.List.listLengthHint (.ref S)) Q E s:=by
 unfold Builtin.List.listLengthHint;refine KE (OC hT PySem.F.slot_set_len.lookup ?_);dsimp only;have hsp:splitId "set.__len__"=some ("set", "__len__"):=by decide +kernel
 rw[hsp];dsimp only;refine KE (ON hT sub_set_self ?_);simp only[NJ,Mz,Nm];rw[Mh (by decide +kernel)];refine KE (OZ hT ?_);exact L_ h
theorem pX (r:i_ s.heap S es ep t)(T:lO t es)(hs:t.place.size<=t.mask)(hpl:t.plain=true)(hle:t.led=!byT w)(hh:A.handled=none)(hz:es.size<=1200)
 (h:∀ h' tk,s.heap.objs.size<h'.objs.size->(∀ b o,s.heap.get? b=some o->h'.get? b=some o)->Q ((gg w S ep es).toList.map (·.2)) { s with heap:=h',toks:=tk }):wpAny (model prog w) A (collect (.ref S)) Q E s:=by
 have hf:=lO.fits T hs;obtain⟨o,ho,hex,hd⟩:=r;have hlt:S<s.heap.objs.size:=Mx ho;unfold collect;refine KE (wpAny_runValue (N4 entry_proto_collect' (show wpAny _ _ (do again (.builtin "list.__iadd__" ⟨[<- newList [],.ref S],[]⟩)) _ _ s from ?_)));refine KE (O6 (L_ ⟨Code.quiet_builtin _ (by decide +kernel),N4 entry_list_iadd' ?_⟩));show wpAny _ _ (Builtin.List.listExtendWith (.ref s.heap.objs.size) (.ref S) (.ref s.heap.objs.size)) _ _ { s with heap:=s.heap.push (seqObj "list" #[] 0) };have ho1:(s.heap.push (seqObj "list" #[] 0)).get? S=some o:=Mb _ ho;have hT1:Shared.TypeIs { s with heap:=s.heap.push (seqObj "list" #[] 0) } (.ref S) "set":=⟨o,ho1,hex.1⟩;unfold Builtin.List.listExtendWith;refine KE (OZ hT1 ?_);have q1:Builtin.List.listSameRef (.ref s.heap.objs.size) (.ref S)=false:=by simp[Builtin.List.listSameRef,OH hlt]
 have q2:(Value.type "set"==Value.type "list")=false:=by decide
 have q3:(Value.type "set"==Value.type "tuple")=false:=by decide
 simp only[q1,q2,q3,Bool.or_false,Mz,Nm];refine KE (sj ⟨o,ho1,hex,hd⟩ hf hpl ?_);have hT2:Shared.TypeIs { s with heap:=(s.heap.push (seqObj "list" #[] 0)).push { cls:=.type "set_iterator",data:=.fields #[.int 0 0,.int 0 0,.ref S,.int es.size 0,.int ep 0] } } (.ref S) "set":=⟨o,Mb _ ho1,hex.1⟩;refine KE (Nb (xJ hT2 ?_));rw[Mh (by decide +kernel)];refine KE (Pt ?_);have hS0:((s.heap.push (seqObj "list" #[] 0)).push { cls:=.type "set_iterator",data:=.fields #[.int 0 0,.int 0 0,.ref S,.int es.size 0,.int ep 0] }).get? s.heap.objs.size=some (seqObj "list" #[] 0):=Mb _ (Mm _ rfl);refine KE (show wpAny _ _ (updateSeq s.heap.objs.size (·.push .none) >>= fun _=>updateSeq s.heap.objs.size (·.pop)) _ _ _ from ?_);refine KE (wpAny_updateSeq hS0 rfl ?_);have hS1:=NO (Obj.mapSeq (·.push Value.none)) hS0 rfl;refine wpAny_updateSeq (hz:=by seq_fits) hS1 rfl ?_;have hS2:=NO (Obj.mapSeq (·.pop)) hS1 rfl;generalize hH:(((s.heap.push (seqObj "list" #[] 0)).push { cls:=.type "set_iterator",data:=.fields #[.int 0 0,.int 0 0,.ref S,.int es.size 0,.int ep 0] }).update s.heap.objs.size (Obj.mapSeq (·.push Value.none))).update s.heap.objs.size (Obj.mapSeq (·.pop))=H2 at *;have oth:∀ b o,b≠s.heap.objs.size->((s.heap.push (seqObj "list" #[] 0)).push { cls:=.type "set_iterator",data:=.fields #[.int 0 0,.int 0 0,.ref S,.int es.size 0,.int ep 0] }).get? b=some o->H2.get? b=some o:=fun b o hb e=>by rw[<- hH];exact(NI _ _ (Ol hb)).trans ((NI _ _ (Ol hb)).trans e)
 have old:∀ b o,s.heap.get? b=some o->H2.get? b=some o:=fun b o e=>oth b o (MS (Mx e)) (Mb _ (Mb _ e));have hsz1:(s.heap.push (seqObj "list" #[] 0)).objs.size=s.heap.objs.size+1:=size_push' _ _;have hit:H2.get? (s.heap.objs.size+1)=some { cls:=.type "set_iterator",data:=.fields #[.int 0 0,.int 0 0,.ref S,.int es.size 0,.int ep 0] }:=oth _ _ (by lia) (by rw[<- hsz1];exact Mm _ rfl);refine L_ ⟨PB PySem.F.plain_extend_loop _,?_⟩;show codeAny _ _ (.builtin "list.extend.loop" ⟨[.ref s.heap.objs.size,.ref (s.heap.push (seqObj "list" #[] 0)).objs.size,.ref s.heap.objs.size],[]⟩) _ _;rw[hsz1];have W:Walks prog w A.in1 (s.heap.objs.size+1) [s.heap.objs.size+1,S] [s.heap.objs.size+1] es.size (fun i v=>((gg w S ep es)[i]?).map (·.2)=some v) (fun i h=>SetIt h (s.heap.objs.size+1) S (cw w t i) i es.size ep/\i_ h S es ep t):=lY (MS (P7 hlt)) (by simp[hh]) T hs hpl hle;refine codeAny_extend_loopS W.toS (by rw[MV];lia) s.heap.objs.size (by simp only[Mv,NY,Qu,not_or];exact⟨MS (Pj _),OH hlt⟩) _ es.size 0 _ #[] _ rfl (ML _) ⟨⟨_,hit,rfl,rfl⟩,o,old S o ho,hex,hd⟩ (by rw[hS2];rfl) (ItemsOf.nil _) fun s' acc c hm hS' hacc=>?_;obtain⟨h',g',d',tk',os'⟩:=s';have eg:g'=s.gens:=hm.gens;have ed:d'=s.drawn:=hm.drawn;have eo:os'=s.os:=hm.os;subst eg ed eo;refine KE (wpAny_load hS' ?_);have ea:acc.toList=(gg w S ep es).toList.map (·.2):=by
  apply N2
  intro i;by_cases hi:i<acc.size
  .have e1:acc.toList[i]?=some acc[i]:=by rw[Mn];simp[hi]
   have e2:=hacc.2 i acc[i] (by simp[hi]);rw[e1,ME,Mn];exact e2.symm
  .rw[Nz (by simpa using OO hi),Nz];rw[Me,MR,iq,<- hacc.1];exact OO hi
 show wpAny _ _ (pure acc.toList) _ _ _;rw[ea];refine L_ (h h' tk' (Mx hS') fun b o e=>hm.heap b o ?_ (old b o e));have:=Mx e;simp only[Mv,NY,Qu,not_or];exact⟨MS this,MS (P7 this)⟩
end
noncomputable def bE:List Int->List Int->Bool
 | [],[]=>false
 | [],_::_=>true
 |_::_,[]=>false
 |a::x,b::y=>if a=b then bE x y else decide (a<b)
theorem oo:∀ a:List Int,bE a a=false
 | []=>rfl
 |a::x=>by unfold bE;rw[Mh rfl];exact oo x
theorem sk:∀ a b c:List Int,bE a b=true->bE b c=true->bE a c=true
 | [],[],_,h,_=>by cases h
 | [],_::_,[],_,h=>by cases h
 | [],_::_,_::_,_,_=>rfl
 |_::_,[],_,h,_=>by cases h
 |_::_,_::_,[],_,h=>by cases h
 |a::x,b::y,c::z,h1,h2=>by
  unfold bE at h1 h2 ⊢;by_cases e1:a=b
  .subst e1;rw[Mh rfl]at h1;by_cases e2:a=c
   .subst e2;rw[Mh rfl]at h2 ⊢;exact sk x y z h1 h2
   .rw[Mj e2]at h2 ⊢;exact h2
  .grind
theorem iz:∀ a b:List Int,a≠b->bE a b=true\/bE b a=true
 | [],[],h=>(h rfl).elim
 | [],_::_,_=>.inl rfl
 |_::_,[],_=>.inr rfl
 |a::x,b::y,h=>by
  unfold bE;by_cases e:a=b
  .subst e;rw[Mh rfl,Mh rfl];exact iz x y fun z=>h (by rw[z])
  .grind
section
variable {prog:QR}{w:World}{A:QT}{s:QP}
theorem oq:∀{a b:List Int}{xs ys:List QS}(i:Nat),ItemsAre (ay prog w) (iK a) xs->ItemsAre (ay prog w) (iK b) ys->Q (bE a b) s->PySem.W.KatLex prog w A true (decide (xs.length<ys.length)) Q (xs.zip ys) i s
 | [],[],_,_,i,hx,hy,h=>by cases hx;cases hy;exact h
 | [],_::_,_,_,i,hx,hy,h=>by
  cases hx;cases hy with
  |cons h1 h2=>exact PySem.W.kat_nil h
 |_::_,[],_,_,i,hx,hy,h=>by
  cases hy;cases hx with
  |cons h1 h2=>exact PySem.W.kat_nil h
 |a::x,b::y,_,_,i,hx,hy,h=>by
  cases hx with
  | @cons _ v1 _ vs1 h1 hx'=>
   cases hy with
   | @cons _ v2 _ vs2 h2 hy'=>
    obtain⟨t1,rfl⟩:=jU h1;obtain⟨t2,rfl⟩:=jU h2;rw[List.zip_cons_cons];refine PySem.W.kat_cons (wpAny_eqBool_int ?_);unfold bE at h;by_cases e:a=b
    .subst e;rw[Mh rfl]at h;rw[Ou];refine PySem.W.kat_yes ?_;have:=oq (i+1) hx' hy' h;simpa using this
    .rw[Mj e]at h;have eb:(a==b)=false:=by grind
     rw[eb];refine PySem.W.kat_no ?_;cases i with
     |zero=>exact oneLt_int h
     |succ i=>exact PySem.W.kat_one _ _ (lt_int h)
structure gQ (prog:QR) (w:World) (h:Heap) (xs:List dg):Prop where
 is:∀ x∈xs,(tK prog w).is h (iK x.1) x.2
 ne:∀ x∈xs,x.1≠[]
 nd:(xs.map (·.1)).Nodup
noncomputable def valsT (xs:List dg):List QS:=xs.map fun x=>Value.ref x.2
noncomputable def eh (xs:List dg)(i:Nat):List Int:=((xs[i]?).getD ([],0)).1
theorem AJ (t:gQ prog w s.heap xs):Lt xs.length fun i j=>bE (eh xs i) (eh xs j) where
 LC:=fun i=>oo _
 tr:=fun i j k=>sk _ _ _
 LP:=fun i j hi hj e=>iz _ _ fun z=>by
  have gi:eh xs i=(xs.map (·.1))[i]'(by simpa using hi):=by simp[eh,hi]
  have gj:eh xs j=(xs.map (·.1))[j]'(by simpa using hj):=by simp[eh,hj]
  rw[gi,gj]at z;rcases PC e with q|q
  .exact MG.mp t.nd i j (by simpa using hi) (by simpa using hj) q z
  .exact MG.mp t.nd j i (by simpa using hj) (by simpa using hi) q z.symm
theorem xK (t:gQ prog w s.heap xs):AF xs.length (fun i j=>bE (eh xs i) (eh xs j)) (PySem.W.kas_ask prog w A (tuples' true) (valsT xs)) s:=by intro i j C hi hj h;have one:∀ k,k<xs.length->∃ x,(valsT xs).getD k Value.none=.ref x.2/\eh xs k=x.1/\x∈xs:=fun k hk=>⟨xs[k],by simp[valsT,hk],by simp[eh,hk],Po hk⟩;obtain⟨x,ex,kx,mx⟩:=one i hi;obtain⟨y,ey,ky,my⟩:=one j hj;unfold PySem.W.kas_ask;rw[ex,ey];obtain⟨ox,ix,nx,hx,cx,dx,lx⟩:=t.is x mx;obtain⟨oy,iy,ny,hy,cy,dy,ly⟩:=t.is y my;refine PySem.W.kat_lt hx dx hy dy ?_;have h:C (bE (eh xs i) (eh xs j)) s:=h;rw[kx,ky]at h;have:=oq (A:=A) 0 lx ly h;simpa using this
theorem pY:∀{xs:List dg},(∀ x∈xs,(tK prog w).is h (iK x.1) x.2)->(∀ x∈xs,x.1≠[])->∃ fs:List QS,PySem.W.KatTups h (valsT xs) fs/\fs.length=xs.length/\∀ v∈fs,∃ i t,v=Value.int i t
 | [],_,_=>⟨[],trivial,rfl,fun v hv=>nomatch hv⟩
 |x::xs,h1,h2=>by
  obtain⟨fs,a,b,c⟩:=pY (fun y hy=>h1 y (Ms _ hy)) fun y hy=>h2 y (Ms _ hy);obtain⟨ox,ix,nx,hx,cx,dx,lx⟩:=h1 x Mr;have hne:=h2 x Mr;obtain⟨k,b'⟩:=x;dsimp only at hne lx hx;cases k with
  |nil=>exact(hne rfl).elim
  |cons n ns=>
   generalize hl:ix.toList=l at lx;cases lx with
   | @cons _ v _ vs q1 q2=>
    obtain⟨t,rfl⟩:=jU q1;refine⟨.int n t::fs,⟨⟨b',ox,ix,nx,rfl,hx,cx,dx,?_⟩,a⟩,by simp[b],fun v hv=>?_⟩
    .rw[<- Mn,hl];rfl
    .grind
theorem mZ (t:gQ prog w s.heap xs)(hne:0<xs.length)(h:Q (tuples' true) s):wpAny (model prog w) A (keyKind' (valsT xs).toArray) Q E s:=by
 obtain⟨fs,a,b,c⟩:=pY t.is t.ne;refine PySem.W.kat_kind (T:=.type "int") a (by lia) (fun v hv=>?_) (by decide) ?_
 .obtain⟨i,t,rfl⟩:=c v hv;exact fun A Q E s k q=>L_ q
 .have:(Value.type "int" != Value.type "tuple")=true:=by decide
  rw[this];exact h
end
noncomputable def cp {α:Type}(d:α)(xs:List α)(i:Nat):α:=(xs[i]?).getD d
section
variable {α β:Type}
theorem kN (d:α)(xs:List α):(List.range xs.length).map (cp d xs)=xs:=by
 apply N2
 intro i;rw[ME];by_cases h:i<xs.length
 .rw[List.getElem?_range h,Ml h];simp[cp,h]
 .rw[Nz (by grind),Nz (by grind)];rfl
theorem m5 (d:α)(pm:Pm xs.length p):(p.toList.map (cp d xs)).Perm xs:=by have:=List.Perm.map (cp d xs) pm;rw[kN]at this;exact this
theorem ua {r:α->α->Bool}(pm:Pm xs.length p)(so:So (fun i j=>r (cp d xs i) (cp d xs j)) p xs.length):(p.toList.map (cp d xs)).Pairwise fun x y=>r x y=true:=by
 rw[MQ,MG];intro i j hi hj hij;have hi':i<p.size:=by grind
 have hj':j<p.size:=by grind
 have:=so i j hij (by rw[<- pm.size];exact hj');dsimp only at this;have ei:cc p i=p.toList[i]:=by simp[cc,Array.getD,hi']
 have ej:cc p j=p.toList[j]:=by simp[cc,Array.getD,hj']
 rw[ei,ej]at this;exact this
theorem pZ {f:α->β}{e:β}(d:α)(pm:Pm xs.length p):(p.toList.map fun i=>(xs.map f).getD i e)=(p.toList.map (cp d xs)).map f:=by rw[Nf];refine M0 fun i hi=>?_;have hi:i<xs.length:=MZ.mp (pm.mem_iff.mp hi);simp[cp,hi]
end
section
theorem gQ.off (t:gQ prog w h xs) (ho:h.get? a=some o) (hc:o.cls=.type "list") (k:∀ b o,b≠a->h.get? b=some o->h'.get? b=some o):gQ prog w h' xs:=by refine⟨fun x hx=>?_,t.ne,t.nd⟩;obtain⟨ox,ix,nx,h1,c1,r⟩:=t.is x hx;refine⟨ox,ix,nx,k x.2 ox (fun e=>?_) h1,c1,r⟩;rw[e,ho]at h1;cases h1;rw[hc]at c1;exact absurd c1 (by decide)
theorem p5 {a:Addr} {n:Nat} {vs:List QS} {κ:SortKind} {lt:Nat->Nat->Bool} {P:PySem.Fin->QP->Prop} (ho:s.heap.get? a=some (seqObj "list" vs.toArray n)) (h64:vs.length<64)
 (hk:∀ H,(∀ b o,b≠a->s.heap.get? b=some o->H.get? b=some o)->2<=vs.length->(∀ Q,Q κ { s with heap:=H }->wpAny (model prog w) A (keyKind' vs.toArray) Q E { s with heap:=H })/\Lt vs.length lt/\AF vs.length lt (PySem.W.kas_ask prog w A κ vs) { s with heap:=H })
 (h:∀ p h' c,Pm vs.length p->So lt p vs.length->h'.get? a=some (seqObj "list" (p.toList.map fun i=>vs.getD i Value.none).toArray c)->(∀ b o,b≠a->s.heap.get? b=some o->h'.get? b=some o)->P (.done (.ret .none)) { s with heap:=h' }) :
 wpAny (model prog w) A (Builtin.«list.sort» ⟨[.ref a],[]⟩) P E s:=by
 rw[list_sort_plain];refine KE (listItems_at ho rfl (KE (PJ ho rfl ?_ (by rw[Mi,MV];lia) (ML _))));obtain⟨e1,ho1⟩ : ∃ e1,(s.heap.update a (Obj.mapSeq fun _=>#[])).get? a=some (seqObj "list" #[] e1):=⟨_,PK ho (fun _=>#[])⟩;refine KE (Qq ho1 rfl (KE (wpAny_newTuple (KE (O6 (Nb ?_) (ML _))) (by show vs.length<=_;rw[MV];lia))));have oth:∀ b o,b≠a->s.heap.get? b=some o->(((s.heap.update a (Obj.mapSeq fun _=>(#[]:Array QS))).push (seqObj "tuple" vs.toArray 0)).push (seqObj "list" #[] 0)).get? b=some o:=fun b o hb e=>Mb _ (Mb _ ((NI _ _ (Ol hb)).trans e));have ho6:(((s.heap.update a (Obj.mapSeq fun _=>(#[]:Array QS))).push (seqObj "tuple" vs.toArray 0)).push (seqObj "list" #[] 0)).get? a=some (seqObj "list" #[] e1):=Mb _ (Mb _ ho1);show wpAny (model prog w) A _ P E { s with heap:=((s.heap.update a (Obj.mapSeq fun _=>(#[]:Array QS))).push (seqObj "tuple" vs.toArray 0)).push (seqObj "list" #[] 0) };generalize (((s.heap.update a (Obj.mapSeq fun _=>(#[]:Array QS))).push (seqObj "tuple" vs.toArray 0)).push (seqObj "list" #[] 0))=H6 at ho6 oth;dsimp only;have fin:∀(p:Array Nat)(out:Array QS),Pm vs.length p->So lt p vs.length->out=(p.toList.map fun i=>vs.getD i Value.none).toArray->P (.done (.ret .none)) { s with heap:=H6.update a (Obj.mapSeq fun _=>out) }:=fun p out hp hw ho=>by subst ho;exact h p _ _ hp hw (PK ho6 fun _=>(p.toList.map fun i=>vs.getD i Value.none).toArray) fun b o hb e=>(NI _ _ (Ol hb)).trans (oth b o hb e)
 by_cases h2:vs.toArray.size<2
 .rw[Mh h2,Mh h2];refine KE (L_ ?_);rw[StateT.run_pure];have hx2:vs.length<2:=by grind
  have hout:Array.map (fun x:Keyed=>x.2) (vs.toArray.zip vs.toArray)=vs.toArray:=by apply Array.ext';simp[List.map_snd_zip]
  refine KE (L_ ?_);dsimp only;refine KE (Qq ho6 rfl (KE (PJ ho6 rfl ?_ (ML _) ?_)))
  .simp only[OF,Mz,Nm];refine L_ (fin (List.range vs.length).toArray _ (Qy _) (fun a b h1 h2=>by lia) (hout.trans ?_));rw[show(fun i=>vs.getD i Value.none)=cp Value.none vs from funext fun i=>by simp[cp]];show _=(List.map _ (List.range vs.length)).toArray;rw[kN]
  .show(Array.map (fun x:Keyed=>x.2) (vs.toArray.zip vs.toArray)).size<=_;rw[hout,Mi,MV];lia
 .rw[Mj h2,Mj h2];have hx2:2<=vs.length:=by grind
  obtain⟨k1,k2,k3⟩:=hk H6 oth hx2;refine KE (k1 _ ?_);refine KE (NC (PySem.W.kat_run (s:={ s with heap:=H6 }) (Q:=fun st' s'=>s'={ s with heap:=H6 }/\∃ p:Array Nat,Pm vs.length p/\So lt p vs.length/\arrOf st'=p.map (PySem.W.kas_item (vs.toArray.zip vs.toArray))/\failedOf st'=none)
   (G:=fun p s'=>s'={ s with heap:=H6 }/\Pm vs.length p/\So lt p vs.length) rfl (by lia) (by lia) (fun p st' s' _ a2 a3 g=>⟨g.1,p,g.2.1,g.2.2,a2,a3⟩) ?_) ?_ fun _ _ e=>e)
  .exact AG k2 k3 hx2 fun p pm so=>⟨rfl,pm,so⟩
  .rintro⟨⟨⟩,st'⟩ s' ⟨rfl,p,pm,so,har,hf⟩;dsimp only;rw[PySem.W.kat_snds rfl har];refine KE (Qq ho6 rfl (KE (PJ ho6 rfl ?_ (ML _) ?_)))
   .rw[hf];simp only[OF,Mz,Nm];exact L_ (fin _ _ pm so rfl)
   .have:=pm.size;simp[this];rw[MV];lia
theorem vi (ho:s.heap.get? a=some (seqObj "list" (valsT xs).toArray n)) (t:gQ prog w s.heap xs) (h64:xs.length<64)
 (h:∀ ys h' c,ys.Perm xs->ys.Pairwise (fun x y=>bE x.1 y.1=true)->h'.get? a=some (seqObj "list" (valsT ys).toArray c)->(∀ b o,b≠a->s.heap.get? b=some o->h'.get? b=some o)->P (.done (.ret .none)) { s with heap:=h' }) :
 wpAny (model prog w) A (Builtin.«list.sort» ⟨[.ref a],[]⟩) P E s:=by
 have hvl:(valsT xs).length=xs.length:=by simp[valsT]
 refine p5 (κ:=tuples' true) (lt:=fun i j=>bE (eh xs i) (eh xs j)) ho (by lia) (fun H oth h2=>?_) fun p h' c pm so e k=>?_
 .have t6:gQ prog w H xs:=t.off ho rfl oth;rw[hvl];exact⟨fun Q q=>mZ (s:={ s with heap:=H }) t6 (by lia) q,AJ (s:={ s with heap:=H }) t6,xK (s:={ s with heap:=H }) t6⟩
 .rw[hvl]at pm so;exact h (p.toList.map (cp ([],0) xs)) h' c (m5 _ pm) (ua (r:=fun x y=>bE x.1 y.1) pm so) (by rw[e];unfold valsT;rw[pZ ([],0) pm]) k
def jV (prog:QR) (w:World) (N:Nat):Prop:=∀(A:QT)(E:QS->QP->Prop)(s:QP)(a:Addr)(n:Nat)(xs:List dg)(P:PySem.Fin->QP->Prop),s.heap.get? a=some (seqObj "list" (valsT xs).toArray n)->gQ prog w s.heap xs->xs.length<=N->
 (∀ ys h' c,ys.Perm xs->ys.Pairwise (fun x y=>bE x.1 y.1=true)->h'.get? a=some (seqObj "list" (valsT ys).toArray c)->(∀ b o,b≠a->s.heap.get? b=some o->h'.get? b=some o)->P (.done (.ret .none)) { s with heap:=h' })->wpAny (model prog w) A (Builtin.«list.sort» ⟨[.ref a],[]⟩) P E s
theorem ub:jV prog w 63:=fun _ _ _ _ _ _ _ ho t hz h=>vi ho t (by lia) h
end
section
variable {κ μ:Type}{its:List (κ×μ)}
theorem kO:∀(l:List (Int×QS)),(∀ e∈l,∃ x∈its,e=ent x)->∃ zs:List (κ×μ),l=zs.map ent/\∀ z∈zs,z∈its
 | [],_=>⟨[],rfl,fun z hz=>nomatch hz⟩
 |e::l,h=>by
  obtain⟨x,hx,rfl⟩:=h e Mr;obtain⟨zs,h1,h2⟩:=kO l fun e he=>h e (Ms _ he);exact⟨x::zs,by rw[h1];rfl,fun z hz=>by
   rcases Mv.mp hz with rfl|hz
   .exact hx
   .exact h2 z hz⟩
structure i4 (lt:κ->κ->Prop) (its ys:List (κ×μ)):Prop where
 sub:∀ y∈ys,y∈its
 all:∀ x∈its,∃ y∈ys,y.1=x.1
 pw:ys.Pairwise fun x y=>lt x.1 y.1
def Do (prog:QR) (w:World) (hb:Heap) (ent:κ×μ->Int×QS) (lt:κ->κ->Prop) (its:List (κ×μ)) (N:Nat):Prop:=∀(A:QT)(E:QS->QP->Prop)(s:QP)(a:Addr)(n:Nat)(zs:List (κ×μ))(P:PySem.Fin->QP->Prop),(∀ b o,hb.get? b=some o->s.heap.get? b=some o)->s.heap.get? a=some (seqObj "list" (zs.map fun z=>(ent z).2).toArray n)->(∀ z∈zs,z∈its)->(zs.map (·.1)).Nodup->zs.length<=N->
 (∀(ys:List (κ×μ)) h' c,ys.Perm zs->ys.Pairwise (fun x y=>lt x.1 y.1)->h'.get? a=some (seqObj "list" (ys.map fun z=>(ent z).2).toArray c)->(∀ b o,b≠a->s.heap.get? b=some o->h'.get? b=some o)->P (.done (.ret .none)) { s with heap:=h' })->wpAny (model prog w) A (Builtin.«list.sort» ⟨[.ref a],[]⟩) P E s
theorem iA (sa:SetAt w s.heap S es)(v:cQ ent es its)(un:zR ent its)(hh:A.handled=none)(hN:N<=1200)(hs:Do prog w s.heap ent lt its N)(hz:its.length<=N)
 (h:∀(ys:List (κ×μ)) h' tk l c,i4 lt its ys->ys.length<=N->s.heap.objs.size<=l->h'.get? l=some (seqObj "list" (ys.map fun z=>(ent z).2).toArray c)->(∀ b o,s.heap.get? b=some o->h'.get? b=some o)->Q (.ref l) { s with heap:=h',toks:=tk }) :
 wpAny (model prog w) A (call (.builtin "sorted") [.ref S]) Q E s:=by
 obtain⟨o,ep,t,ho,hex,hd,T,sp,hpl,hle⟩:=sa;have pe:=pW w S ep es;have hes:=v.sz;obtain⟨zs,ez,zm⟩:=kO (ent:=ent) (its:=its) (gg w S ep es).toList fun e he=>v.el e (pe.mem_iff.mp he);have ev:(gg w S ep es).toList.map (·.2)=zs.map fun z=>(ent z).2:=by rw[ez,Nf];rfl
 have hzl:zs.length=es.size:=by have:=MT List.length ez;rw[Me,MR,iq]at this;exact this.symm
 have nd:(zs.map (·.1)).Nodup:=by have pw:=(pe.pairwise_iff (fun{x y} hxy a b e1 e2 m1 m2 z=>hxy b a e2 e1 m2 m1 z.symm)).mpr v.pw;rw[ez,MQ]at pw;unfold List.Nodup;rw[MQ];exact N1 (fun{a b} ha hb hab=>hab a b rfl rfl (zm a ha) (zm b hb)) pw
 refine Ow kind_sorted plain_sorted entry_sorted (args_sorted1 _) ?_;unfold Builtin.«sorted»;refine KE (m:=checkCount "sorted" 1 1 _) (L_ (KE (pX ⟨o,ho,hex,hd⟩ T (eV sp) hpl hle (by simp[hh]) (by lia) fun h1 tk1 g1 k1=>?_)));rw[ev];refine KE (O6 ?_ (by rw[Me,hzl,MV];lia));have hoL:(h1.push (seqObj "list" (zs.map fun z=>(ent z).2).toArray 0)).get? h1.objs.size=some (seqObj "list" (zs.map fun z=>(ent z).2).toArray 0):=Mm _ rfl;have kk:∀ b o,s.heap.get? b=some o->(h1.push (seqObj "list" (zs.map fun z=>(ent z).2).toArray 0)).get? b=some o:=fun b o e=>Mb _ (k1 b o e);have ge:s.heap.objs.size<=h1.objs.size:=Nd g1;refine KE (Nb (M3 slot_list_sort ⟨_,hoL,rfl⟩ entry_list_sort (hs _ _ { s with heap:=h1.push (seqObj "list" (zs.map fun z=>(ent z).2).toArray 0),toks:=tk1 } _ _ zs _ kk hoL zm nd (by lia) fun ys h2 c2 hp hw hl2 k2=>⟨_,rfl,?_⟩) (args_list_sort _)));refine L_ ⟨_,rfl,h ys h2 tk1 _ c2 ⟨fun y hy=>zm y (hp.mem_iff.mp hy),fun x hx=>?_,hw⟩ (by rw[hp.length_eq];lia) ge hl2 fun b o e=>k2 b o (fun z=>?_) (kk b o e)⟩
 .obtain⟨y,y1,y2,y3⟩:=v.all x hx;have y4:=pe.mem_iff.mpr y3;rw[ez]at y4;obtain⟨z,z1,z2⟩:=Md.mp y4;exact⟨z,hp.mem_iff.mpr z1,(un z (zm z z1) y y1 z2).trans y2⟩
 .subst z;exact absurd (Mx e) (QO.mpr ge)
end
def TupsIn (H:Hp):List V->List dg->Prop:=Paired fun v x=>v=.ref x.2/\H x.2=some (.tup ((iK x.1).map kV))
theorem TupsIn.get (t:TupsIn H vs its)(rv:Vals vs us):its.length=us.length/\(∀(i:Nat)(v:QS),us[i]?=some v->∃ x:dg,its[i]?=some x/\v=.ref x.2)/\∀ x∈its,H x.2=some (.tup ((iK x.1).map kV)):=by
 unfold TupsIn at t;induction t generalizing us with
 |nil=>cases rv;exact⟨rfl,fun i v e=>by simp at e,fun x hx=>nomatch hx⟩
 | @cons v y vs its q t ih=>
  cases rv with
  | @cons _ u _ us r s=>
   obtain⟨a,b,c⟩:=ih s;obtain⟨rfl,q⟩:=q;obtain rfl:u=Value.ref y.2:=r;refine⟨by simp[a],fun i v e=>?_,fun x hx=>?_⟩
   .cases i with
    |zero=>simp at e;exact⟨y,rfl,e.symm⟩
    |succ i=>exact b i v e
   .rcases Mv.mp hx with rfl|hx
    .exact q
    .exact c x hx
section
theorem m6 (hc:X.calm=true) (hu:X.A.units+64<cLine):bn X (.type "set") (fun xs H Q=>∃ l vs its,xs=[.ref l]/\Rd H l (.lst vs)/\TupsIn H vs its/\vs.length<=1200/\
 ∀ p es,H p=none->cQ (eT X.prog X.w) es its->Q (.ref p) (upd H p (.ext fun h=>SetAt X.w h p es))):=by
 intro ac s σ H xs us Q I r h;obtain⟨l,vs,its,rfl,hl,hp,hz,q⟩:=h;obtain⟨u,rfl,ru⟩:=fQ r;obtain rfl:u=Value.ref l:=ru;obtain⟨_,us,n,rv,hg⟩:=(show ObjOk X.prog X.w H s.heap l (.lst vs) from hl.ok I.aJ);obtain⟨g1,g2,g3⟩:=hp.get rv;have his:=fun x hx=>cG I.aJ (g3 x hx);refine mX (ent:=eT X.prog X.w) (I.ok.hd hc) hg (its:=its) (by grind) (by rw[Mi,<- rv.length];exact hz) (fun i v e=>g2 i v (by grind)) (Dm his) (AI (by show X.A.units+1+1+1<cLine;lia) his) fun h' tk es hS v hk=>?_;have hf:H s.heap.objs.size=none:=I.aJ.fresh (Mc _);refine⟨.ref s.heap.objs.size,_,I.laid (a:=s.heap.objs.size) (o:=.ext fun h=>SetAt X.w h s.heap.objs.size es) (t':=tk) (fun b o e=>hk b o (Mx e) e) (Mc _) ?_,rfl,q _ es hf v⟩;exact⟨hS,(let ⟨o,_,_,e,_⟩:=hS;⟨o,e⟩),fun h1 h2 hs k=>SetAt.keep hs k⟩
theorem vj (hc:X.calm=true) (hu:X.A.units+64<cLine):bn X (.type "set") (fun xs H Q=>∃ l vs its,xs=[.ref l]/\Rd H l (.lst vs)/\TupsIn H vs its/\vs.length<=300/\
 ∀ p es,H p=none->cQ (eT X.prog X.w) es its->Q (.ref p) (upd H p (.ext fun h=>SetAt X.w h p es))):=
 fun ac s σ H xs us Q I r h=>m6 hc hu ac s σ H xs us Q I r (let ⟨l,vs,its,a,b,c,d,e⟩:=h;⟨l,vs,its,a,b,c,Mq d (by decide),e⟩)
theorem iB (hc:X.calm=true) (hN:N<=1200) (hs:jV X.prog X.w N):bn X (.builtin "sorted") (fun xs H Q=>∃ p es its,xs=[.ref p]/\H p=some (.ext fun h=>SetAt X.w h p es)/\cQ (eT X.prog X.w) es its/\(∀ x∈its,H x.2=some (.tup ((iK x.1).map kV)))/\(∀ x∈its,x.1≠[])/\its.length<=N/\
 ∀ l ys,H l=none->i4 (fun x y=>bE x y=true) its ys->Q (.ref l) (upd H l (.lst (ys.map fun y=>.ref y.2)))):=by
 intro ac s σ H xs us Q I r h;obtain⟨p,es,its,rfl,hp,v,ht,hne,hz,q⟩:=h;obtain⟨u,rfl,ru⟩:=fQ r;obtain rfl:u=Value.ref p:=ru;obtain⟨hS,_,_⟩:=(show ObjOk X.prog X.w H s.heap p (.ext fun h=>SetAt X.w h p es) from I.aJ p _ hp);have his:=fun x hx=>cG I.aJ (ht x hx);refine iA hS v (Dm his) (I.ok.hd hc) hN (lt:=fun x y=>bE x y=true) (fun A E s a n zs P kk ho zm nd hz h=>hs A E s a n zs P ho ⟨fun x hx=>jR (his x (zm x hx)) kk,fun x hx=>hne x (zm x hx),nd⟩ hz h) hz fun ys h' tk l c so hyl hle hl hk=>?_;refine⟨.ref l,_,I.laid (a:=l) (o:=.lst (ys.map fun y=>.ref y.2)) (t':=tk) hk hle ⟨by rw[Me,MV];lia,_,c,?_,hl⟩,rfl,q l ys (I.aJ.fresh hle) so⟩;clear so hl hyl;induction ys with
 |nil=>exact .nil
 |cons y ys ih=>exact .cons rfl ih
end
end L2
namespace L2
open PySem PySem.Spec PyProof.Rows
end L2
namespace TS
open PySem PyProof.Rows
noncomputable abbrev SM:=StateT SortSt Sem
noncomputable def gB (l:Bool)(key:Keyed)(xs:Array Keyed)(b i:Nat):SM (Option Bool):=do
 let x <- elem' xs (b+i)
 if l then lt' x key else return (<- lt' key x).map (!·)
noncomputable def cX:Bool->Keyed->Array Keyed->Nat->Nat->Nat->SM (Option Nat):=sortPriv% PySem.Builtin.gallop
def AK (l:Bool)(key:Keyed)(xs:Array Keyed)(b n p₀ q₀:Nat):SM (Option Nat):=do
 let mut p:=p₀
 let mut q:=q₀
 for _ in [0:n] do
  if p>=q then break
  let m:=p+(q-p) / 2
  let some y <- gB l key xs b m|return none
  if y then p:=m+1 else q:=m
 return some q
theorem sq (l:Bool)(key:Keyed)(xs:Array Keyed)(b n h:Nat):cX l key xs b n h=(do
 let mut u:=0
 let mut o:=1
 let some z <- gB l key xs b h|return none
 if z then
  let m:=n-h
  for _ in [0:n] do
   if o>=m then break
   let some y <- gB l key xs b (h+o)|return none
   if !y then break
   u:=o
   o:=2*o+1
  AK l key xs b n (h+u+1) (h+min o m)
 else
  let m:=h+1
  for _ in [0:n] do
   if o>=m then break
   let some y <- gB l key xs b (h-o)|return none
   if y then break
   u:=o
   o:=2*o+1
  AK l key xs b n (h+1-min o m) (h-u)):=rfl
section
variable {prog:QR}{w:World}{A:QT}{E:QS->QP->Prop}{s:QP}{κ:SortKind}{S:List Keyed}{rk:Keyed->Nat}
def Cmp (prog:QR)(w:World)(A:QT)(s:QP)(κ:SortKind)(S:List Keyed)(rk:Keyed->Nat):Prop:=∀ x∈S,∀ y∈S,∀ Q:Bool->QP->Prop,Q (decide (rk x<rk y)) s->wpAny (model prog w) A (keyLt' κ x.1 y.1) Q (fun _ _=>False) s
theorem xL (C:Cmp prog w A s κ S rk){st:SortSt}(hx:x∈S)(hy:y∈S)(hk:kindOf st=κ){Q:Option Bool->SortSt->Prop}(h:Q (some (decide (rk x<rk y))) st):wpS (model prog w) A E s (lt' x y) Q st:=by rw[lt'_eq];refine MA (wpS_get ?_);rw[hk];refine MA (wpS_lift (PF (NC (C x hx y hy (fun c s'=>s'=s/\c=decide (rk x<rk y)) ⟨rfl,rfl⟩) (fun c s' hc=>?_) fun _ _ hF=>hF.elim)));obtain⟨rfl,rfl⟩:=hc;exact⟨rfl,MN h⟩
theorem bt {st:SortSt}{xs:Array Keyed}(hp:xs[i]?=some p){Q:Keyed->SortSt->Prop}(h:Q p st):wpS (model prog w) A E s (elem' xs i) Q st:=by rw[elem'_eq,hp];exact MN h
theorem IF (C:Cmp prog w A s κ S rk){st:SortSt}{l:Bool}(hp:xs[b+i]?=some x)(hx:x∈S)(hy:key∈S)(hk:kindOf st=κ){Q:Option Bool->SortSt->Prop}
 (h:Q (some (if l then decide (rk x<rk key) else !decide (rk key<rk x))) st):wpS (model prog w) A E s (gB l key xs b i) Q st:=by
 unfold gB;refine MA (bt hp ?_);cases l with
 |true=>exact xL C hx hy hk h
 |false=>exact MA (xL C hy hx hk (MN h))
theorem p6 (C:Cmp prog w A s κ S rk){st:SortSt}{l:Bool}(hk:kindOf st=κ)(hy:key∈S)(hS:∀ i<n,∃ x,xs[b+i]?=some x/\x∈S/\(if l then decide (rk x<rk key) else !decide (rk key<rk x))=decide (i<k))
 (hh:h<n) (hkn:k<=n) {Q:Option Nat->SortSt->Prop} (hq:Q (some k) st):wpS (model prog w) A E s (cX l key xs b n h) Q st:=by
 have tb:∀{i:Nat},i<n->∀{Q:Option Bool->SortSt->Prop},Q (some (decide (i<k))) st->wpS (model prog w) A E s (gB l key xs b i) Q st:=by intro i hi Q hQ;obtain⟨x,h1,h2,h3⟩:=hS i hi;exact IF C h1 h2 hy hk (by grind)
 rw[sq];refine MA (tb hh ?_);dsimp only;have fin:∀{p q:Nat},p<=k->k<=q->q<=n->wpS (model prog w) A E s (AK l key xs b n p q) Q st:=by
  intro p q h1 h2 h3;unfold AK;refine MA (NU (NP (I:=fun i c st'=>st'=st/\c.1=none/\c.2.1<=k/\k<=c.2.2/\c.2.2<=n/\(c.2.2-c.2.1)+i<=n) (Q:=fun c st'=>st'=st/\c.1=none/\c.2.2=k) ?_ ?_ ⟨rfl,rfl,h1,h2,h3,by grind⟩) ?_)
  .rintro i ⟨r,p,q⟩ st' _ hi ⟨rfl,rfl,a1,a2,a3,a4⟩;dsimp only at *;by_cases c:p>=q
   .rw[Mh c];exact MN ⟨rfl,rfl,by grind⟩
   .rw[Mj c];refine MA (tb (by lia) ?_);dsimp only;by_cases d:p+(q-p) / 2<k
    .rw[Mp d,Mh rfl];exact MN ⟨rfl,rfl,by grind,by grind,by grind,by grind⟩
    .rw[My d,Mj (by simp)];exact MN ⟨rfl,rfl,by grind,by grind,by grind,by grind⟩
  .rintro⟨r,p,q⟩ st' ⟨rfl,rfl,a1,a2,a3,a4⟩;dsimp only at *;exact⟨rfl,rfl,by lia⟩
  .rintro⟨r,p,q⟩ st' ⟨rfl,rfl,a1⟩;dsimp only at *;subst a1;exact MN hq
 by_cases hz:h<k
 .rw[Mp hz,Mh rfl];refine MA (NU (NP (I:=fun i c st'=>st'=st/\c.1=none/\c.2.1<n-h/\h+c.2.1<k/\c.2.1<c.2.2/\i+1<=c.2.2) (Q:=fun c st'=>st'=st/\c.1=none/\c.2.1<n-h/\h+c.2.1<k/\(c.2.2>=n-h\/k<=h+c.2.2)) ?_ ?_ ⟨rfl,rfl,by grind,by grind,by grind,by grind⟩) ?_)
  .rintro i ⟨r,u,o⟩ st' _ hi ⟨rfl,rfl,a1,a2,a3,a4⟩;dsimp only at *;by_cases c:o>=n-h
   .rw[Mh c];exact MN ⟨rfl,rfl,a1,a2,.inl c⟩
   .rw[Mj c];refine MA (tb (by lia) ?_);dsimp only;by_cases d:h+o<k
    .rw[Mp d,Mj (by simp)];exact MN ⟨rfl,rfl,by grind,d,by grind,by grind⟩
    .rw[My d,Mh (by rfl)];exact MN ⟨rfl,rfl,a1,a2,.inr (by grind)⟩
  .rintro⟨r,u,o⟩ st' ⟨rfl,rfl,a1,a2,a3,a4⟩;dsimp only at *;exact⟨rfl,rfl,a1,a2,.inl (by lia)⟩
  .rintro⟨r,u,o⟩ st' ⟨rfl,rfl,a1,a2,a3⟩;dsimp only at *;exact fin (p:=h+u+1) (q:=h+min o (n-h)) (by lia) (by lia) (by lia)
 .rw[My hz,Mj (by simp)];refine MA (NU (NP (I:=fun i c st'=>st'=st/\c.1=none/\c.2.1<=h/\k<=h-c.2.1/\c.2.1<c.2.2/\i+1<=c.2.2) (Q:=fun c st'=>st'=st/\c.1=none/\c.2.1<=h/\k<=h-c.2.1/\(c.2.2>=h+1\/h-c.2.2<k)) ?_ ?_ ⟨rfl,rfl,by grind,by grind,by grind,by grind⟩) ?_)
  .rintro i ⟨r,u,o⟩ st' _ hi ⟨rfl,rfl,a1,a2,a3,a4⟩;dsimp only at *;by_cases c:o>=h+1
   .rw[Mh c];exact MN ⟨rfl,rfl,a1,a2,.inl c⟩
   .rw[Mj c];refine MA (tb (by lia) ?_);dsimp only;by_cases d:h-o<k
    .rw[Mp d,Mh rfl];exact MN ⟨rfl,rfl,a1,a2,.inr d⟩
    .rw[My d,Mj (by simp)];exact MN ⟨rfl,rfl,by grind,by grind,by grind,by grind⟩
  .rintro⟨r,u,o⟩ st' ⟨rfl,rfl,a1,a2,a3,a4⟩;dsimp only at *;exact⟨rfl,rfl,a1,a2,.inl (by lia)⟩
  .rintro⟨r,u,o⟩ st' ⟨rfl,rfl,a1,a2,a3⟩;dsimp only at *;exact fin (p:=h+1-min o (h+1)) (q:=h-u) (by lia) (by lia) (by lia)
end
section
variable {rk:Keyed->Nat}
def cO (rk:Keyed->Nat)(l:List Keyed):Prop:=l.Pairwise fun x y=>rk x<=rk y
structure J (rk:Keyed->Nat) (al bl o:List Keyed) (i j:Nat):Prop where
 perm:o.Perm (al.take i++bl.take j)
 jF:cO rk o
 la:∀ x∈o,∀ y∈al.drop i,rk x<=rk y
 lb:∀ x∈o,∀ y∈bl.drop j,rk x<=rk y
variable {al bl o:List Keyed}{i j:Nat}
theorem J.swap (h:J rk al bl o i j):J rk bl al o j i:=⟨h.perm.trans Oc,h.jF,h.lb,h.la⟩
theorem J.o8 (h:J rk al bl o i j)(sa:cO rk al)(k:Nat)(hc:∀ x∈(al.drop i).take k,∀ y∈bl.drop j,rk x<=rk y):J rk al bl (o++(al.drop i).take k) (i+k) j:=by
 have sd:cO rk (al.drop i):=sa.sublist (OD _ _);have e:al.take (i+k)=al.take i++(al.drop i).take k:=List.take_add;have sp:(al.drop i)=(al.drop i).take k++al.drop (i+k):=by rw[<- List.drop_drop,MP]
 have sd2:=sd;rw[sp]at sd2;have pw:=NH.mp sd2;refine⟨?_,NH.mpr ⟨h.jF,sd.sublist (N8 _ _),fun x hx y hy=>h.la x hx y (Nk hy)⟩,fun x hx y hy=>?_,fun x hx y hy=>?_⟩
 .rw[e];refine(h.perm.append_right _).trans ?_;rw[Mo,Mo];exact Qe _ Oc
 .rcases MO.mp hx with hx|hx
  .exact h.la x hx y (by rw[sp];exact MX _ hy)
  .exact pw.2.2 x hx y hy
 .rcases MO.mp hx with hx|hx
  .exact h.lb x hx y hy
  .exact hc x hx y hy
theorem J.tE (h:J rk al bl o i j)(sb:cO rk bl)(k:Nat)(hc:∀ x∈(bl.drop j).take k,∀ y∈al.drop i,rk x<=rk y):J rk al bl (o++(bl.drop j).take k) i (j+k):=(h.swap.o8 sb k hc).swap
def Fin (rk:Keyed->Nat)(al bl o:List Keyed):Prop:=o.Perm (al++bl)/\cO rk o
theorem J.end_ (h:J rk al bl o m n)(hm:al.length<=m)(hn:bl.length<=n):Fin rk al bl o:=by have:=h.perm;rw[Nt hm,Nt hn]at this;exact⟨this,h.jF⟩
theorem J.qN (h:J rk al bl o i j)(sa:cO rk al)(sb:cO rk bl)(hc:∀ x∈al.drop i,∀ y∈bl.drop j,rk x<=rk y):Fin rk al bl (o++al.drop i++bl.drop j):=by have e1:(al.drop i).take al.length=al.drop i:=Nt (by rw[Oh];lia);have e2:(bl.drop j).take bl.length=bl.drop j:=Nt (by rw[Oh];lia);have h1:=h.o8 sa al.length (by rw[e1];exact hc);rw[e1]at h1;have h2:=h1.tE sb bl.length (fun x _ y hy=>by rw[Nr (by lia)]at hy;cases hy);rw[e2]at h2;exact h2.end_ (by lia) (by lia)
theorem J.zM (h:J rk al bl o i j)(sa:cO rk al)(sb:cO rk bl)(hc:∀ x∈bl.drop j,∀ y∈al.drop i,rk x<=rk y):Fin rk al bl (o++bl.drop j++al.drop i):=let f:=h.swap.qN sb sa hc;⟨f.1.trans Oc,f.2⟩
theorem su (P:Nat->Bool):∀ n:Nat,(∀ i j,i<j->j<n->P j=true->P i=true)->∃ k,k<=n/\∀ i<n,P i=decide (i<k)
 |0,_=>⟨0,Mc _,fun i hi=>absurd hi (OG _)⟩
 |n+1,h=>by
  obtain⟨k,hk,hP⟩:=su P n fun i j hij hj=>h i j hij (by lia);cases hn:P n with
  |true=>
   refine⟨n+1,Mc _,fun i hi=>?_⟩;rw[Mp hi];by_cases e:i=n
   .rw[e,hn]
   .exact h i n (by lia) (by lia) hn
  |false=>
   by_cases hkn:k=n
   .refine⟨n,by lia,fun i hi=>?_⟩;by_cases e:i=n
    .rw[e,hn,My (by lia)]
    .rw[hP i (by lia),hkn]
   .refine⟨k,by lia,fun i hi=>?_⟩;by_cases e:i=n
    .rw[e,hn,My (by lia)]
    .exact hP i (by lia)
theorem gh (h:cO rk l){p q:Nat}{x y:Keyed}(hx:l[p]?=some x)(hy:l[q]?=some y)(hpq:p<=q):rk x<=rk y:=by
 obtain⟨h1,e1⟩:=Mg.mp hx;obtain⟨h2,e2⟩:=Mg.mp hy;by_cases e:p=q
 .subst e;rw[e1]at e2;rw[e2];exact Mc _
 .rw[<- e1,<- e2];exact MG.mp h p q h1 h2 (by lia)
theorem bB {l:List Keyed}(h:x∈l.drop i):∃ p,i<=p/\l[p]?=some x:=by obtain⟨m,hm⟩:=MJ.mp h;rw[PL]at hm;exact⟨i+m,by lia,hm⟩
theorem iC {l:List Keyed}(h:x∈(l.drop i).take k):∃ p,i<=p/\p<i+k/\l[p]?=some x:=by
 obtain⟨m,hm⟩:=MJ.mp h;rw[NL]at hm;by_cases c:m<k
 .rw[Mh c,PL]at hm;exact⟨i+m,by lia,by lia,hm⟩
 .rw[Mj c]at hm;cases hm
theorem kP (a:Array Keyed)(i k:Nat):(a.extract i (i+k)).toList=(a.toList.drop i).take k:=by simp[Pc,List.extract_eq_drop_take]
theorem jW (a:Array Keyed)(i:Nat):(a.extract i a.size).toList=a.toList.drop i:=by simp[Pc,List.extract_eq_drop_take];exact Nt (by simp)
end
noncomputable def m7:Nat->SM Unit:=sortPriv% PySem.Builtin.setMinGallop
abbrev o9 (st:SortSt)(g:Nat):SortSt:=SortSt.mk' (kindOf st) (arrOf st) (pendingOf st) g (failedOf st)
theorem xM (g:Nat):m7 g=modify fun s=>o9 s g:=rfl
noncomputable def iD:Array Keyed->Array Keyed->SM (Array Keyed):=sortPriv% PySem.Builtin.mergeLo
noncomputable abbrev dn (a b o:Array Keyed)(i j:Nat):Array Keyed:=o++a.extract i a.size++b.extract j b.size
noncomputable abbrev ln (a b o:Array Keyed)(i j:Nat):Array Keyed:=o++b.extract j b.size++a.extract i a.size
noncomputable abbrev G7:=Option (Array Keyed)×Array Keyed×Nat×Nat×Nat×Nat×Nat
def HQ (a b:Array Keyed)(g c d i:Nat)(o:Array Keyed)(j:Nat):SM (ForInStep G7):=do
 let x <- elem' a i
 if i+1+1==a.size then return .done (some (ln a b (o.push x) (i+1) j),o.push x,i+1,j,g,c,d)
 if c<7&&d<7 then return .done (none,o.push x,i+1,j,g,c,d)
 return .yield (none,o.push x,i+1,j,g,c,d)
def Dq (a b:Array Keyed)(g c d j:Nat)(o:Array Keyed)(i:Nat):SM (ForInStep G7):=do
 let y <- elem' b j
 if j+1==b.size then return .done (some (dn a b (o.push y) i (j+1)),o.push y,i,j+1,g,c,d)
 let x <- elem' a i
 let some k <- cX true x b (j+1) (b.size-(j+1)) 0|return .done (some (dn a b (o.push y) i (j+1)),o.push y,i,j+1,g,c,d)
 if k>0 then
  if j+1+k==b.size then return .done (some (dn a b (o.push y++b.extract (j+1) (j+1+k)) i (j+1+k)),o.push y++b.extract (j+1) (j+1+k),i,j+1+k,g,c,k)
  HQ a b g c k i (o.push y++b.extract (j+1) (j+1+k)) (j+1+k)
 else HQ a b g c k i (o.push y) (j+1)
def HR (a b:Array Keyed)(o:Array Keyed)(i j c d g:Nat):SM (ForInStep G7):=do
 m7 g
 let y <- elem' b j
 let some k <- cX false y a i (a.size-i) 0|return .done (some (dn a b o i j),o,i,j,g,c,d)
 if k>0 then
  if i+k+1==a.size then return .done (some (ln a b (o++a.extract i (i+k)) (i+k) j),o++a.extract i (i+k),i+k,j,g,k,d)
  if i+k==a.size then return .done (some (dn a b (o++a.extract i (i+k)) (i+k) j),o++a.extract i (i+k),i+k,j,g,k,d)
  Dq a b g k d j (o++a.extract i (i+k)) (i+k)
 else Dq a b g k d j o i
def HS (a b:Array Keyed)(u:G7):SM (ForInStep G7):=if u.2.2.2.2.1>1 then HR a b u.2.1 u.2.2.1 u.2.2.2.1 u.2.2.2.2.2.1 u.2.2.2.2.2.2 (u.2.2.2.2.1-1) else HR a b u.2.1 u.2.2.1 u.2.2.2.1 u.2.2.2.2.2.1 u.2.2.2.2.2.2 u.2.2.2.2.1
noncomputable abbrev G6:=Option (Array Keyed)×Array Keyed×Nat×Nat×Nat×Nat
def HU (a b:Array Keyed)(g:Nat)(u:G6):SM (ForInStep G6):=do
 let y <- elem' b u.2.2.2.1
 let x <- elem' a u.2.2.1
 let some z <- lt' y x|return .done (some (dn a b u.2.1 u.2.2.1 u.2.2.2.1),u.2)
 if z then
  let y <- elem' b u.2.2.2.1
  if u.2.2.2.1+1==b.size then return .done (some (dn a b (u.2.1.push y) u.2.2.1 (u.2.2.2.1+1)),u.2.1.push y,u.2.2.1,u.2.2.2.1+1,0,u.2.2.2.2.2+1)
  if u.2.2.2.2.2+1>=g then return .done (none,u.2.1.push y,u.2.2.1,u.2.2.2.1+1,0,u.2.2.2.2.2+1)
  return .yield (none,u.2.1.push y,u.2.2.1,u.2.2.2.1+1,0,u.2.2.2.2.2+1)
 else
  let x <- elem' a u.2.2.1
  if u.2.2.1+1+1==a.size then return .done (some (ln a b (u.2.1.push x) (u.2.2.1+1) u.2.2.2.1),u.2.1.push x,u.2.2.1+1,u.2.2.2.1,u.2.2.2.2.1+1,0)
  if u.2.2.2.2.1+1>=g then return .done (none,u.2.1.push x,u.2.2.1+1,u.2.2.2.1,u.2.2.2.2.1+1,0)
  return .yield (none,u.2.1.push x,u.2.2.1+1,u.2.2.2.1,u.2.2.2.2.1+1,0)
noncomputable abbrev G5:=Option (Array Keyed)×Array Keyed×Nat×Nat×Nat
def HV (a b:Array Keyed)(u:G5):SM (ForInStep G5):=do
 let r <- forIn [0:a.size+b.size] ((none,u.2.1,u.2.2.1,u.2.2.2.1,0,0):G6) fun _ v=>HU a b u.2.2.2.2 v
 match r.1 with
 |some x=>pure (.done (some x,r.2.1,r.2.2.1,r.2.2.2.1,u.2.2.2.2))
 |none=>do
  rule "list.sort.gallop"
  let q <- forIn [0:a.size+b.size] ((none,r.2.1,r.2.2.1,r.2.2.2.1,u.2.2.2.2+1,r.2.2.2.2.1,r.2.2.2.2.2):G7) fun _ v=>HS a b v
  match q.1 with
  |some x=>pure (.done (some x,q.2.1,q.2.2.1,q.2.2.2.1,q.2.2.2.2.1))
  |none=>do
   m7 (q.2.2.2.2.1+1)
   pure (.yield (none,q.2.1,q.2.2.1,q.2.2.2.1,q.2.2.2.2.1+1))
theorem p7 (a b:Array Keyed):iD a b=(do
 rule "list.sort.merge-lo"
 let y <- elem' b 0
 if 1==b.size then return dn a b #[y] 0 1
 if 0+1==a.size then return ln a b #[y] 0 1
 let st <- get
 let r <- forIn [0:a.size+b.size] ((none,#[y],0,1,gallopOf st):G5) fun _ v=>HV a b v
 match r.1 with
 |some x=>pure x
 |none=>unsupported "internal:list.sort.merge-bound"):=by
 delta iD
 show(liftM (rule "list.sort.merge-lo") >>= _)=_;refine MT (liftM (rule "list.sort.merge-lo") >>= ·) ?_;funext _;refine MT (elem' b 0 >>= ·) ?_;funext y;dsimp only;refine QC rfl (fun _=>rfl) fun _=>QC rfl (fun _=>rfl) fun _=>?_;refine MT (get >>= ·) ?_;funext st;refine congr (MT Bind.bind ?_) ?_
 .refine MT (forIn [0:a.size+b.size] ((none,#[y],0,1,gallopOf st):G5)) ?_;funext _ u;obtain⟨r,o,i,j,g⟩:=u;unfold HV;dsimp only;refine congr (MT Bind.bind ?_) ?_
  .refine MT (forIn [0:a.size+b.size] ((none,o,i,j,0,0):G6)) ?_;funext _ v;obtain⟨r,o,i,j,c,d⟩:=v;unfold HU;rfl
  .funext v;obtain⟨r,o,i,j,c,d⟩:=v;cases r with
   |some x=>rfl
   |none=>
    refine MT (liftM (rule "list.sort.gallop") >>= ·) ?_;funext _;refine congr (MT Bind.bind ?_) ?_
    .refine MT (forIn [0:a.size+b.size] ((none,o,i,j,g+1,c,d):G7)) ?_;funext _ v;obtain⟨r,o,i,j,g,c,d⟩:=v;unfold HS;rfl
    .funext v;obtain⟨r,o,i,j,g,c,d⟩:=v;cases r with
     |some x=>rfl
     |none=>rfl
 .funext v;obtain⟨r,o,i,j,g⟩:=v;cases r with
  |some x=>rfl
  |none=>rfl
section
variable {prog:QR}{w:World}{A:QT}{E:QS->QP->Prop}{s:QP}{κ:SortKind}{S:List Keyed}{rk:Keyed->Nat}
theorem ja {st:SortSt}{Q:Unit->SortSt->Prop}(h:Q () st):wpS (model prog w) A E s (liftM (rule n):SM Unit) Q st:=wpS_lift (Pt ⟨rfl,h⟩)
theorem ou {st:SortSt}{Q:Unit->SortSt->Prop}(h:Q () (o9 st g)):wpS (model prog w) A E s (m7 g) Q st:=by rw[xM];exact wpS_modify h
theorem sv (C:Cmp prog w A s κ S rk){st:SortSt}{key:Keyed}(hk:kindOf st=κ)(hy:key∈S)(hx:∀ x∈xs.toList,x∈S)(hs:cO rk (xs.toList.drop b |>.take n))(hn:b+n<=xs.size)(hh:h<n){Q:Option Nat->SortSt->Prop}
 (hq:∀ k,k<=n->(∀ i x,i<k->xs.toList[b+i]?=some x->rk x<=rk key)->(∀ i x,k<=i->i<n->xs.toList[b+i]?=some x->rk key<rk x)->Q (some k) st):wpS (model prog w) A E s (cX false key xs b n h) Q st:=by
 have at_:∀ i<n,∃ x,xs[b+i]?=some x/\x∈S:=fun i hi=>by
  have hb:b+i<xs.size:=by lia
  exact⟨xs[b+i],by simp[hb],hx _ (by simp)⟩
 let P:Nat->Bool:=fun i=>!decide (rk key<rk ((xs[b+i]?).getD key))
 have hP:∀ i x,xs[b+i]?=some x->P i=!decide (rk key<rk x):=fun i x e=>by grind
 obtain⟨k,hk1,hk2⟩:=su P n fun i j hij hj pj=>by obtain⟨x,ex,_⟩:=at_ i (by lia);obtain⟨y,ey,_⟩:=at_ j hj;rw[hP j y ey]at pj;rw[hP i x ex];have:=gh hs (p:=i) (q:=j) (x:=x) (y:=y) (by grind) (by grind) (by lia);simp at pj ⊢;lia
 refine p6 C hk hy (k:=k) (fun i hi=>?_) hh hk1 (hq k hk1 (fun i x hi e=>?_) fun i x hi hin e=>?_)
 .obtain⟨x,ex,hxS⟩:=at_ i hi;exact⟨x,ex,hxS,by grind⟩
 .rw[Mn]at e;have:=hk2 i (by lia);rw[hP i x e,Mp hi]at this;simp at this;lia
 .rw[Mn]at e;have:=hk2 i hin;rw[hP i x e,My (show ¬ i<k by lia)]at this;simp at this;lia
theorem sw (C:Cmp prog w A s κ S rk){st:SortSt}{key:Keyed}(hk:kindOf st=κ)(hy:key∈S)(hx:∀ x∈xs.toList,x∈S)(hs:cO rk (xs.toList.drop b |>.take n))(hn:b+n<=xs.size)(hh:h<n){Q:Option Nat->SortSt->Prop}
 (hq:∀ k,k<=n->(∀ i x,i<k->xs.toList[b+i]?=some x->rk x<rk key)->(∀ i x,k<=i->i<n->xs.toList[b+i]?=some x->rk key<=rk x)->Q (some k) st):wpS (model prog w) A E s (cX true key xs b n h) Q st:=by
 have at_:∀ i<n,∃ x,xs[b+i]?=some x/\x∈S:=fun i hi=>by
  have hb:b+i<xs.size:=by lia
  exact⟨xs[b+i],by simp[hb],hx _ (by simp)⟩
 let P:Nat->Bool:=fun i=>decide (rk ((xs[b+i]?).getD key)<rk key)
 have hP:∀ i x,xs[b+i]?=some x->P i=decide (rk x<rk key):=fun i x e=>by grind
 obtain⟨k,hk1,hk2⟩:=su P n fun i j hij hj pj=>by obtain⟨x,ex,_⟩:=at_ i (by lia);obtain⟨y,ey,_⟩:=at_ j hj;rw[hP j y ey]at pj;rw[hP i x ex];have:=gh hs (p:=i) (q:=j) (x:=x) (y:=y) (by grind) (by grind) (by lia);simp at pj ⊢;lia
 refine p6 C hk hy (k:=k) (fun i hi=>?_) hh hk1 (hq k hk1 (fun i x hi e=>?_) fun i x hi hin e=>?_)
 .obtain⟨x,ex,hxS⟩:=at_ i hi;exact⟨x,ex,hxS,by grind⟩
 .rw[Mn]at e;have:=hk2 i (by lia);rw[hP i x e,Mp hi]at this;simpa using this
 .rw[Mn]at e;have:=hk2 i hin;rw[hP i x e,My (show ¬ i<k by lia)]at this;simp at this;lia
structure Ab (rk:Keyed->Nat) (S:List Keyed) (a b:Array Keyed):Prop where
 ha:∀ x∈a.toList,x∈S
 hb:∀ x∈b.toList,x∈S
 sa:cO rk a.toList
 sb:cO rk b.toList
variable {a b:Array Keyed}
theorem AL (a b o:Array Keyed)(i j:Nat):(dn a b o i j).toList=o.toList++a.toList.drop i++b.toList.drop j:=by rw[Ni,Ni,jW,jW]
theorem AM (a b o:Array Keyed)(i j:Nat):(ln a b o i j).toList=o.toList++b.toList.drop j++a.toList.drop i:=by rw[Ni,Ni,jW,jW]
theorem FW (H:Ab rk S a b)(h:J rk a.toList b.toList o.toList i j)(e:j=b.size\/i=a.size):Fin rk a.toList b.toList (dn a b o i j).toList:=by
 rw[AL];refine h.qN H.sa H.sb fun x hx y hy=>?_;rcases e with e|e
 .rw[Nr (by rw[e];simp)]at hy;cases hy
 .rw[Nr (by rw[e];simp)]at hx;cases hx
theorem HW (H:Ab rk S a b)(last:∀ x∈b.toList,∀ y,a.toList[a.size-1]?=some y->rk x<=rk y)(h:J rk a.toList b.toList o.toList i j)(e:i+1=a.size):Fin rk a.toList b.toList (ln a b o i j).toList:=by rw[AM];refine h.zM H.sa H.sb fun x hx y hy=>?_;obtain⟨p,h1,h2⟩:=bB hy;have hp:=(Mg.mp h2).1;rw[MR]at hp;exact last x (NG hx) y (by rw[show a.size-1=p by lia];exact h2)
theorem bF (h:i<a.size):∃ x,a[i]?=some x/\a.toList[i]?=some x/\x∈a.toList:=⟨a[i],by simp[h],by simp[h],by simp⟩
theorem oz {l:List Keyed}(h:l[i]?=some x):(l.drop i).take 1=[x]:=by obtain⟨h1,h2⟩:=Mg.mp h;rw[NV h1,h2];rfl
theorem J.nJ {o:Array Keyed}(h:J rk a.toList b.toList o.toList i j)(H:Ab rk S a b)(hy:b.toList[j]?=some y)(hc:∀ x∈a.toList.drop i,rk y<=rk x):J rk a.toList b.toList (o.push y).toList i (j+1):=by have:=h.tE H.sb 1 (by rw[oz hy];intro x hx z hz;rw[MH]at hx;subst hx;exact hc z hz);rw[oz hy]at this;rw[OE];exact this
theorem J.nI {o:Array Keyed}(h:J rk a.toList b.toList o.toList i j)(H:Ab rk S a b)(hx:a.toList[i]?=some x)(hc:∀ y∈b.toList.drop j,rk x<=rk y):J rk a.toList b.toList (o.push x).toList (i+1) j:=by have:=h.o8 H.sa 1 (by rw[oz hx];intro z hz y hy;rw[MH]at hz;subst hz;exact hc y hy);rw[oz hx]at this;rw[OE];exact this
theorem iF (hs:cO rk l)(hx:l[i]?=some x):∀ y∈l.drop i,rk x<=rk y:=fun y hy=>by obtain⟨p,h1,h2⟩:=bB hy;exact gh hs hx h2 h1
theorem gE (hs:cO rk l)(i n:Nat):cO rk ((l.drop i).take n):=(hs.sublist (OD _ _)).sublist (N8 _ _)
variable {st₀:SortSt}
def uc (rk:Keyed->Nat)(a b:Array Keyed)(st₀ st:SortSt)(n:Nat)(o:Array Keyed)(i j:Nat):Prop:=J rk a.toList b.toList o.toList i j/\i+1<a.size/\j<b.size/\n<=i+j/\∃ g,st=o9 st₀ g
def wv (rk:Keyed->Nat)(a b:Array Keyed)(st₀ st:SortSt)(r:Option (Array Keyed)):Prop:=∃ x,r=some x/\Fin rk a.toList b.toList x.toList/\∃ g,st=o9 st₀ g
theorem FX (C:Cmp prog w A s κ S rk)(H:Ab rk S a b)(hk:kindOf st₀=κ)(last:∀ x∈b.toList,∀ y,a.toList[a.size-1]?=some y->rk x<=rk y){st:SortSt}{g n c d:Nat}(M:uc rk a b st₀ st n o i j) :
 wpS (model prog w) A E s (HU a b g (r,o,i,j,c,d)) (fun q st'=>match q with
  | .done v=>wv rk a b st₀ st' v.1\/(v.1=none/\uc rk a b st₀ st' (n+1) v.2.1 v.2.2.1 v.2.2.2.1)
  | .yield v=>v.1=none/\uc rk a b st₀ st' (n+1) v.2.1 v.2.2.1 v.2.2.2.1) st:=by
 obtain⟨hJ,hi,hj,hn,g',rfl⟩:=M;obtain⟨y,y1,y2,y3⟩:=bF hj;obtain⟨x,x1,x2,x3⟩:=bF (show i<a.size by lia);unfold HU;dsimp only;refine MA (bt y1 (MA (bt x1 (MA (xL C (st:=o9 st₀ g') (H.hb y y3) (H.ha x x3) hk ?_)))));dsimp only;by_cases h:rk y<rk x
 .rw[Mp h,Mh rfl];refine MA (bt y1 ?_);have hJ':=hJ.nJ H y2 fun z hz=>Mq (Nd h) (iF H.sa x2 z hz);by_cases e:j+1=b.size
  .rw[Mh (by simpa using e)];exact MN (.inl ⟨_,rfl,FW H hJ' (.inl e),_,rfl⟩)
  .rw[Mj (by simpa using e)];by_cases e2:d+1>=g
   .rw[Mh e2];exact MN (.inr ⟨rfl,hJ',hi,by dsimp only;lia,by dsimp only;lia,_,rfl⟩)
   .rw[Mj e2];exact MN ⟨rfl,hJ',hi,by dsimp only;lia,by dsimp only;lia,_,rfl⟩
 .rw[My h,Mj (by simp)];refine MA (bt x1 ?_);have hJ':=hJ.nI H x2 fun z hz=>Mq (OO h) (iF H.sb y2 z hz);by_cases e:i+1+1=a.size
  .rw[Mh (by simpa using e)];exact MN (.inl ⟨_,rfl,HW H last hJ' e,_,rfl⟩)
  .rw[Mj (by simpa using e)];by_cases e2:c+1>=g
   .rw[Mh e2];exact MN (.inr ⟨rfl,hJ',by dsimp only;lia,hj,by dsimp only;lia,_,rfl⟩)
   .rw[Mj e2];exact MN ⟨rfl,hJ',by dsimp only;lia,hj,by dsimp only;lia,_,rfl⟩
end
section
variable {prog:QR}{w:World}{A:QT}{E:QS->QP->Prop}{s:QP}{κ:SortKind}{S:List Keyed}{rk:Keyed->Nat}{a b:Array Keyed}{st₀:SortSt}
def QG (rk:Keyed->Nat)(a b:Array Keyed)(st₀:SortSt)(n:Nat)(q:ForInStep G7)(st':SortSt):Prop:=match q with
 | .done v=>wv rk a b st₀ st' v.1\/(v.1=none/\uc rk a b st₀ st' n v.2.1 v.2.2.1 v.2.2.2.1)
 | .yield v=>v.1=none/\uc rk a b st₀ st' (n+1) v.2.1 v.2.2.1 v.2.2.2.1
theorem Ca (H:Ab rk S a b)(last:∀ x∈b.toList,∀ y,a.toList[a.size-1]?=some y->rk x<=rk y)(hJ:J rk a.toList b.toList o.toList i j)(hi:i+1<a.size)(hj:j<b.size)(hn:n<=i+j)
 (hc:∀ x,a.toList[i]?=some x->∀ y∈b.toList.drop j,rk x<=rk y):wpS (model prog w) A E s (HQ a b g c d i o j) (QG rk a b st₀ n) (o9 st₀ g'):=by
 obtain⟨x,x1,x2,x3⟩:=bF (show i<a.size by lia);unfold HQ;refine MA (bt x1 ?_);have hJ':=hJ.nI H x2 (hc x x2);by_cases e:i+1+1=a.size
 .rw[Mh (by simpa using e)];exact MN (.inl ⟨_,rfl,HW H last hJ' e,_,rfl⟩)
 .rw[Mj (by simpa using e)];split
  .exact MN (.inr ⟨rfl,hJ',by dsimp only;lia,hj,by dsimp only;lia,_,rfl⟩)
  .exact MN ⟨rfl,hJ',by dsimp only;lia,hj,by dsimp only;lia,_,rfl⟩
theorem Cb (C:Cmp prog w A s κ S rk)(H:Ab rk S a b)(hk:kindOf st₀=κ)(last:∀ x∈b.toList,∀ y,a.toList[a.size-1]?=some y->rk x<=rk y)(hJ:J rk a.toList b.toList o.toList i j)(hi:i+1<a.size)(hj:j<b.size)(hn:n<=i+j)
 (hc:∀ y,b.toList[j]?=some y->∀ x∈a.toList.drop i,rk y<=rk x):wpS (model prog w) A E s (Dq a b g c d j o i) (QG rk a b st₀ n) (o9 st₀ g'):=by
 obtain⟨y,y1,y2,y3⟩:=bF hj;obtain⟨x,x1,x2,x3⟩:=bF (show i<a.size by lia);unfold Dq;refine MA (bt y1 ?_);have hJ':=hJ.nJ H y2 (hc y y2);by_cases e:j+1=b.size
 .rw[Mh (by simpa using e)];exact MN (.inl ⟨_,rfl,FW H hJ' (.inl e),_,rfl⟩)
 .rw[Mj (by simpa using e)];refine MA (bt x1 (MA (sw C (st:=o9 st₀ g') hk (H.ha x x3) H.hb (gE H.sb _ _) (by lia) (by lia) fun k k1 k2 k3=>?_)));dsimp only;have hJ2:=hJ'.tE H.sb k fun z hz v hv=>by obtain⟨p,p1,p2,p3⟩:=iC hz;have h1:=k2 (p-(j+1)) z (by lia) (by rw[show j+1+(p-(j+1))=p by lia];exact p3);exact Mq (Nd h1) (iF H.sa x2 v hv)
  have hrest:∀ z∈b.toList.drop (j+1+k),rk x<=rk z:=fun z hz=>by obtain⟨p,p1,p3⟩:=bB hz;have hp:=(Mg.mp p3).1;rw[MR]at hp;exact k3 (p-(j+1)) z (by lia) (by lia) (by rw[show j+1+(p-(j+1))=p by lia];exact p3)
  by_cases hk0:k>0
  .rw[Mh hk0];rw[<- kP,<- Ni]at hJ2;by_cases e2:j+1+k=b.size
   .rw[Mh (by simpa using e2)];exact MN (.inl ⟨_,rfl,FW H hJ2 (.inl e2),_,rfl⟩)
   .rw[Mj (by simpa using e2)];exact Ca H last hJ2 hi (by lia) (by lia) fun x' hx' z hz=>by rw[x2]at hx';cases hx';exact hrest z hz
  .rw[Mj hk0];have:k=0:=by lia
   subst this;exact Ca H last hJ' hi (by lia) (by lia) fun x' hx' z hz=>by rw[x2]at hx';cases hx';exact hrest z hz
theorem Cc (C:Cmp prog w A s κ S rk)(H:Ab rk S a b)(hk:kindOf st₀=κ)(last:∀ x∈b.toList,∀ y,a.toList[a.size-1]?=some y->rk x<=rk y){st:SortSt}{o:Array Keyed}(M:uc rk a b st₀ st n o i j) :
 wpS (model prog w) A E s (HR a b o i j c d g) (QG rk a b st₀ n) st:=by
 obtain⟨hJ,hi,hj,hn,g',rfl⟩:=M;obtain⟨y,y1,y2,y3⟩:=bF hj;unfold HR;refine MA (ou (MA (bt y1 (MA (sv C (st:=o9 st₀ g) hk (H.hb y y3) H.ha (gE H.sa _ _) (by lia) (by lia) fun k k1 k2 k3=>?_)))));dsimp only;have hJ2:=hJ.o8 H.sa k fun z hz v hv=>by obtain⟨p,p1,p2,p3⟩:=iC hz;have h1:=k2 (p-i) z (by lia) (by rw[show i+(p-i)=p by lia];exact p3);exact Mq h1 (iF H.sb y2 v hv)
 have hrest:∀ z∈a.toList.drop (i+k),rk y<=rk z:=fun z hz=>by obtain⟨p,p1,p3⟩:=bB hz;have hp:=(Mg.mp p3).1;rw[MR]at hp;exact Nd (k3 (p-i) z (by lia) (by lia) (by rw[show i+(p-i)=p by lia];exact p3))
 by_cases hk0:k>0
 .rw[Mh hk0];rw[<- kP,<- Ni]at hJ2;by_cases e:i+k+1=a.size
  .rw[Mh (by simpa using e)];exact MN (.inl ⟨_,rfl,HW H last hJ2 e,_,rfl⟩)
  .rw[Mj (by simpa using e)];by_cases e2:i+k=a.size
   .rw[Mh (by simpa using e2)];exact MN (.inl ⟨_,rfl,FW H hJ2 (.inr e2),_,rfl⟩)
   .rw[Mj (by simpa using e2)];exact Cb C H hk last hJ2 (by lia) hj (by lia) fun y' hy' z hz=>by rw[y2]at hy';cases hy';exact hrest z hz
 .rw[Mj hk0];have:k=0:=by lia
  subst this;exact Cb C H hk last hJ hi hj hn fun y' hy' z hz=>by rw[y2]at hy';cases hy';exact hrest z hz
theorem FY (C:Cmp prog w A s κ S rk)(H:Ab rk S a b)(hk:kindOf st₀=κ)(last:∀ x∈b.toList,∀ y,a.toList[a.size-1]?=some y->rk x<=rk y){n g c d i j:Nat}{st:SortSt}(M:uc rk a b st₀ st n o i j) :
 wpS (model prog w) A E s (HS a b (r,o,i,j,g,c,d)) (QG rk a b st₀ n) st:=by
 unfold HS;dsimp only;split
 .exact Cc C H hk last M
 .exact Cc C H hk last M
theorem FZ (C:Cmp prog w A s κ S rk)(H:Ab rk S a b)(hk:kindOf st₀=κ)(last:∀ x∈b.toList,∀ y,a.toList[a.size-1]?=some y->rk x<=rk y){n g i j:Nat}{st:SortSt}(M:uc rk a b st₀ st n o i j) :
 wpS (model prog w) A E s (HV a b (r,o,i,j,g)) (fun q st'=>match q with
  | .done v=>wv rk a b st₀ st' v.1
  | .yield v=>v.1=none/\uc rk a b st₀ st' (n+1) v.2.1 v.2.2.1 v.2.2.2.1) st:=by
 have ht:0<a.size+b.size:=by have:=M.2.1;lia
 unfold HV;dsimp only;refine MA (NU (NP (I:=fun m (v:G6) st'=>v.1=none/\uc rk a b st₀ st' (n+m) v.2.1 v.2.2.1 v.2.2.2.1) (Q:=fun v st'=>wv rk a b st₀ st' v.1\/(v.1=none/\uc rk a b st₀ st' (n+1) v.2.1 v.2.2.1 v.2.2.2.1)) ?_ ?_ ⟨rfl,M⟩) ?_)
 .rintro m ⟨r,o,i,j,c,d⟩ st' _ hm ⟨rfl,M'⟩;refine NU (FX C H hk last M') fun q st2 hq=>?_;cases q with
  |done v=>
   rcases hq with hq|⟨h1,h2⟩
   .exact .inl hq
   .exact .inr ⟨h1,h2.1,h2.2.1,h2.2.2.1,by have:=h2.2.2.2.1;lia,h2.2.2.2.2⟩
  |yield v=>exact hq
 .rintro⟨r,o,i,j,c,d⟩ st' ⟨rfl,M'⟩;exact .inr ⟨rfl,M'.1,M'.2.1,M'.2.2.1,by have:=M'.2.2.2.1;lia,M'.2.2.2.2⟩
 .rintro⟨r,o,i,j,c,d⟩ st' hq;rcases hq with⟨x,e,hF,g',rfl⟩|⟨e,M'⟩
  .dsimp only at e ⊢;subst e;exact MN ⟨x,rfl,hF,g',rfl⟩
  .dsimp only at e M' ⊢;subst e;refine MA (ja ?_);refine MA (NU (NP (I:=fun m (v:G7) st'=>v.1=none/\uc rk a b st₀ st' (n+1+m) v.2.1 v.2.2.1 v.2.2.2.1) (Q:=fun v st'=>wv rk a b st₀ st' v.1\/(v.1=none/\uc rk a b st₀ st' (n+1) v.2.1 v.2.2.1 v.2.2.2.1)) ?_ ?_ ⟨rfl,M'⟩) ?_)
   .rintro m ⟨r,o,i,j,g,c,d⟩ st' _ hm ⟨rfl,M'⟩;refine NU (FY C H hk last M') fun q st2 hq=>?_;cases q with
    |done v=>
     rcases hq with hq|⟨h1,h2⟩
     .exact .inl hq
     .exact .inr ⟨h1,h2.1,h2.2.1,h2.2.2.1,by have:=h2.2.2.2.1;lia,h2.2.2.2.2⟩
    |yield v=>exact hq
   .rintro⟨r,o,i,j,g,c,d⟩ st' ⟨rfl,M'⟩;exact .inr ⟨rfl,M'.1,M'.2.1,M'.2.2.1,by have:=M'.2.2.2.1;lia,M'.2.2.2.2⟩
   .rintro⟨r,o,i,j,g,c,d⟩ st' hq;rcases hq with⟨x,e,hF,g',rfl⟩|⟨e,h1,h2,h3,h4,g',rfl⟩
    .dsimp only at e ⊢;subst e;exact MN ⟨x,rfl,hF,g',rfl⟩
    .dsimp only at e h1 h2 h3 h4 ⊢;subst e;exact MA (ou (MN ⟨rfl,h1,h2,h3,h4,_,rfl⟩))
theorem vk (C:Cmp prog w A s κ S rk)(H:Ab rk S a b)(hk:kindOf st₀=κ)(na:1<=a.size)(nb:1<=b.size)(first:∀ x,b.toList[0]?=some x->∀ y∈a.toList,rk x<=rk y)(last:∀ x∈b.toList,∀ y,a.toList[a.size-1]?=some y->rk x<=rk y)
 (hq:∀ o g,Fin rk a.toList b.toList o.toList->Q o (o9 st₀ g)):wpS (model prog w) A E s (iD a b) Q st₀:=by
 obtain⟨y,y1,y2,y3⟩:=bF (show 0<b.size by lia);have J0:J rk a.toList b.toList [] 0 0:=⟨by simp,List.Pairwise.nil,(fun x hx=>by cases hx),fun x hx=>by cases hx⟩;have hJ:J rk a.toList b.toList (#[y]:Array Keyed).toList 0 1:=J.nJ (o:=#[]) J0 H y2 fun x hx=>first y y2 x (by simpa using hx);rw[p7];refine MA (ja (MA (bt y1 ?_)));by_cases e:1=b.size
 .rw[Mh (by simpa using e)];exact MN (hq _ (gallopOf st₀) (FW H hJ (.inl e)))
 .rw[Mj (by simpa using e)];by_cases e2:0+1=a.size
  .rw[Mh (by simpa using e2)];exact MN (hq _ (gallopOf st₀) (HW H last hJ e2))
  .rw[Mj (by simpa using e2)];refine MA (wpS_get (MA (NU (NP (I:=fun m (v:G5) st'=>v.1=none/\uc rk a b st₀ st' (1+m) v.2.1 v.2.2.1 v.2.2.2.1) (Q:=fun v st'=>wv rk a b st₀ st' v.1) ?_ ?_ ⟨rfl,hJ,by dsimp only;lia,by dsimp only;lia,by dsimp only;lia,gallopOf st₀,rfl⟩) ?_)))
   .rintro m ⟨r,o,i,j,g⟩ st' _ hm ⟨rfl,M'⟩;refine NU (FZ C H hk last M') fun q st2 hq=>?_;cases q with
    |done v=>exact hq
    |yield v=>exact hq
   .rintro⟨r,o,i,j,g⟩ st' ⟨rfl,h1,h2,h3,h4,_⟩;dsimp only at h2 h3 h4;lia
   .rintro⟨r,o,i,j,g⟩ st' ⟨x,e,hF,g',rfl⟩;dsimp only at e ⊢;subst e;exact MN (hq _ _ hF)
end
section
variable {rk:Keyed->Nat}
structure JH (rk:Keyed->Nat) (al bl o:List Keyed) (i j:Nat):Prop where
 perm:o.Perm (al.drop i++bl.drop j)
 jF:o.Pairwise fun x y=>rk y<=rk x
 la:∀ x∈o,∀ y∈al.take i,rk y<=rk x
 lb:∀ x∈o,∀ y∈bl.take j,rk y<=rk x
variable {al bl o:List Keyed}{i j:Nat}
theorem JH.swap (h:JH rk al bl o i j):JH rk bl al o j i:=⟨h.perm.trans Oc,h.jF,h.lb,h.la⟩
theorem JH.o8 (h:JH rk al bl o i j)(sa:cO rk al)(hm:m<=i)(hc:∀ x∈(al.take i).drop m,∀ y∈bl.take j,rk y<=rk x):JH rk al bl (o++((al.take i).drop m).reverse) m j:=by
 have st:cO rk (al.take i):=sa.sublist (N8 _ _);have e1:al.take i=al.take m++(al.take i).drop m:=by
  have:(al.take i).take m=al.take m:=by rw[List.take_take,PM hm]
  rw[<- this,MP]
 have e2:al.drop m=(al.take i).drop m++al.drop i:=by
  conv=>lhs;rw[<- MP i al]
  by_cases c:m<=(al.take i).length
  .rw[Qj c]
  .have h1:(al.take i).length=al.length:=by rw[MU]at c ⊢;lia
   have h2:al.drop i=[]:=Nr (by rw[MU]at h1 c;lia);rw[h2,Ob,Ob]
 have st2:=st;rw[e1]at st2;have pw:=NH.mp st2;refine⟨?_,NH.mpr ⟨h.jF,?_,fun x hx y hy=>h.la x hx y (NG (QK.mp hy))⟩,fun x hx y hy=>?_,fun x hx y hy=>?_⟩
 .rw[e2];refine(h.perm.append_right _).trans ?_;refine Oc.trans ?_;rw[Mo];exact((List.reverse_perm _).append_right _)
 .rw[Qg];exact pw.2.1
 .rcases MO.mp hx with hx|hx
  .exact h.la x hx y (by rw[e1];exact Na _ hy)
  .exact pw.2.2 y hy x (QK.mp hx)
 .rcases MO.mp hx with hx|hx
  .exact h.lb x hx y hy
  .exact hc x (QK.mp hx) y hy
theorem JH.tE (h:JH rk al bl o i j)(sb:cO rk bl)(hm:m<=j)(hc:∀ x∈(bl.take j).drop m,∀ y∈al.take i,rk y<=rk x):JH rk al bl (o++((bl.take j).drop m).reverse) i m:=(h.swap.o8 sb hm hc).swap
theorem JH.end_ (h:JH rk al bl o 0 0):Fin rk al bl o.reverse:=by have:=h.perm;rw[Ox,Ox]at this;exact⟨(List.reverse_perm _).trans this,by unfold cO;rw[Qg];exact h.jF⟩
theorem JH.qN (h:JH rk al bl o i j)(sa:cO rk al)(sb:cO rk bl)(hc:∀ x∈bl.take j,∀ y∈al.take i,rk y<=rk x):Fin rk al bl (al.take i++bl.take j++o.reverse):=by have h1:=h.tE sb (m:=0) (ML _) (by rw[Ox];exact hc);have h2:=h1.o8 sa (m:=0) (ML _) (fun x _ y hy=>by rw[List.take_zero]at hy;cases hy);have:=h2.end_;rw[Ox,Ox,List.reverse_append,List.reverse_append,List.reverse_reverse,List.reverse_reverse,<- Mo]at this;exact this
theorem JH.zM (h:JH rk al bl o i j)(sa:cO rk al)(sb:cO rk bl)(hc:∀ x∈al.take i,∀ y∈bl.take j,rk y<=rk x):Fin rk al bl (bl.take j++al.take i++o.reverse):=let f:=h.swap.qN sb sa hc;⟨f.1.trans Oc,f.2⟩
theorem bC {l:List Keyed}(h:x∈l.take i):∃ p,p<i/\l[p]?=some x:=by
 obtain⟨m,hm⟩:=MJ.mp h;rw[NL]at hm;by_cases c:m<i
 .rw[Mh c]at hm;exact⟨m,c,hm⟩
 .rw[Mj c]at hm;cases hm
theorem kQ {l:List Keyed}(h:x∈(l.take i).drop m):∃ p,m<=p/\p<i/\l[p]?=some x:=by
 obtain⟨q,h1,h2⟩:=bB h;rw[NL]at h2;by_cases c:q<i
 .rw[Mh c]at h2;exact⟨q,h1,c,h2⟩
 .rw[Mj c]at h2;cases h2
theorem jX {l:List Keyed}(h:l[i]?=some x):(l.take (i+1)).drop i=[x]:=by obtain⟨h1,h2⟩:=Mg.mp h;rw[Oz h1,Qj (by rw[MU];lia),Nr (by rw[MU];lia),h2];rfl
theorem jY (a:Array Keyed)(m i:Nat):(a.extract m i).toList=(a.toList.take i).drop m:=by simp[Pc,List.extract_eq_drop_take,List.drop_take]
theorem iG (a:Array Keyed)(i:Nat):(a.extract 0 i).toList=a.toList.take i:=by rw[jY,Ox]
theorem iH {l:List Keyed}(hs:cO rk l)(hx:l[i]?=some x):∀ y∈l.take (i+1),rk y<=rk x:=fun y hy=>by obtain⟨p,h1,h2⟩:=bC hy;exact gh hs h2 hx (by lia)
end
noncomputable def iI:Array Keyed->Array Keyed->SM (Array Keyed):=sortPriv% PySem.Builtin.mergeHi
noncomputable abbrev dh (a b o:Array Keyed)(i j:Nat):Array Keyed:=a.extract 0 i++b.extract 0 j++o.reverse
noncomputable abbrev fh (a b o:Array Keyed)(i j:Nat):Array Keyed:=b.extract 0 j++a.extract 0 i++o.reverse
noncomputable abbrev H7:=Option (Array Keyed)×Nat×Nat×Array Keyed×Nat×Nat×Nat
def hi3 (a b:Array Keyed)(g c d i:Nat)(j:Nat)(o:Array Keyed):SM (ForInStep H7):=do
 let x <- elem' a (i-1)
 if i-1==0 then return .done (some (dh a b (o.push x) (i-1) j),i-1,j,o.push x,g,c,d)
 if c<7&&d<7 then return .done (none,i-1,j,o.push x,g,c,d)
 return .yield (none,i-1,j,o.push x,g,c,d)
def hi2 (a b:Array Keyed)(g c d j:Nat)(i:Nat)(o:Array Keyed):SM (ForInStep H7):=do
 let y <- elem' b (j-1)
 if j-1==1 then return .done (some (fh a b (o.push y) i (j-1)),i,j-1,o.push y,g,c,d)
 let x <- elem' a (i-1)
 let some k <- cX true x b 0 (j-1) (j-1-1)|return .done (some (dh a b (o.push y) i (j-1)),i,j-1,o.push y,g,c,d)
 if j-1-k>0 then
  if k==1 then return .done (some (fh a b (o.push y++(b.extract k (j-1)).reverse) i k),i,k,o.push y++(b.extract k (j-1)).reverse,g,c,j-1-k)
  if k==0 then return .done (some (dh a b (o.push y++(b.extract k (j-1)).reverse) i k),i,k,o.push y++(b.extract k (j-1)).reverse,g,c,j-1-k)
  hi3 a b g c (j-1-k) i k (o.push y++(b.extract k (j-1)).reverse)
 else hi3 a b g c (j-1-k) i (j-1) (o.push y)
def Cd (a b:Array Keyed)(o:Array Keyed)(i j c d g:Nat):SM (ForInStep H7):=do
 m7 g
 let y <- elem' b (j-1)
 let some k <- cX false y a 0 i (i-1)|return .done (some (dh a b o i j),i,j,o,g,c,d)
 if i-k>0 then
  if k==0 then return .done (some (dh a b (o++(a.extract k i).reverse) k j),k,j,o++(a.extract k i).reverse,g,i-k,d)
  hi2 a b g (i-k) d j k (o++(a.extract k i).reverse)
 else hi2 a b g (i-k) d j i o
def HX (a b:Array Keyed)(u:H7):SM (ForInStep H7):=if u.2.2.2.2.1>1 then Cd a b u.2.2.2.1 u.2.1 u.2.2.1 u.2.2.2.2.2.1 u.2.2.2.2.2.2 (u.2.2.2.2.1-1) else Cd a b u.2.2.2.1 u.2.1 u.2.2.1 u.2.2.2.2.2.1 u.2.2.2.2.2.2 u.2.2.2.2.1
noncomputable abbrev H6:=Option (Array Keyed)×Nat×Nat×Array Keyed×Nat×Nat
def HY (a b:Array Keyed)(g:Nat)(u:H6):SM (ForInStep H6):=do
 let y <- elem' b (u.2.2.1-1)
 let x <- elem' a (u.2.1-1)
 let some z <- lt' y x|return .done (some (dh a b u.2.2.2.1 u.2.1 u.2.2.1),u.2)
 if z then
  let x <- elem' a (u.2.1-1)
  if u.2.1-1==0 then return .done (some (dh a b (u.2.2.2.1.push x) (u.2.1-1) u.2.2.1),u.2.1-1,u.2.2.1,u.2.2.2.1.push x,u.2.2.2.2.1+1,0)
  if u.2.2.2.2.1+1>=g then return .done (none,u.2.1-1,u.2.2.1,u.2.2.2.1.push x,u.2.2.2.2.1+1,0)
  return .yield (none,u.2.1-1,u.2.2.1,u.2.2.2.1.push x,u.2.2.2.2.1+1,0)
 else
  let y <- elem' b (u.2.2.1-1)
  if u.2.2.1-1==1 then return .done (some (fh a b (u.2.2.2.1.push y) u.2.1 (u.2.2.1-1)),u.2.1,u.2.2.1-1,u.2.2.2.1.push y,0,u.2.2.2.2.2+1)
  if u.2.2.2.2.2+1>=g then return .done (none,u.2.1,u.2.2.1-1,u.2.2.2.1.push y,0,u.2.2.2.2.2+1)
  return .yield (none,u.2.1,u.2.2.1-1,u.2.2.2.1.push y,0,u.2.2.2.2.2+1)
noncomputable abbrev H5:=Option (Array Keyed)×Nat×Nat×Array Keyed×Nat
def HZ (a b:Array Keyed)(u:H5):SM (ForInStep H5):=do
 let r <- forIn [0:a.size+b.size] ((none,u.2.1,u.2.2.1,u.2.2.2.1,0,0):H6) fun _ v=>HY a b u.2.2.2.2 v
 match r.1 with
 |some x=>pure (.done (some x,r.2.1,r.2.2.1,r.2.2.2.1,u.2.2.2.2))
 |none=>do
  rule "list.sort.gallop"
  let q <- forIn [0:a.size+b.size] ((none,r.2.1,r.2.2.1,r.2.2.2.1,u.2.2.2.2+1,r.2.2.2.2.1,r.2.2.2.2.2):H7) fun _ v=>HX a b v
  match q.1 with
  |some x=>pure (.done (some x,q.2.1,q.2.2.1,q.2.2.2.1,q.2.2.2.2.1))
  |none=>do
   m7 (q.2.2.2.2.1+1)
   pure (.yield (none,q.2.1,q.2.2.1,q.2.2.2.1,q.2.2.2.2.1+1))
theorem p8 (a b:Array Keyed):iI a b=(do
 rule "list.sort.merge-hi"
 let x <- elem' a (a.size-1)
 if a.size-1==0 then return dh a b #[x] (a.size-1) b.size
 if b.size==1 then return fh a b #[x] (a.size-1) b.size
 let st <- get
 let r <- forIn [0:a.size+b.size] ((none,a.size-1,b.size,#[x],gallopOf st):H5) fun _ v=>HZ a b v
 match r.1 with
 |some x=>pure x
 |none=>unsupported "internal:list.sort.merge-bound"):=by
 delta iI
 show(liftM (rule "list.sort.merge-hi") >>= _)=_;refine MT (liftM (rule "list.sort.merge-hi") >>= ·) ?_;funext _;refine MT (elem' a (a.size-1) >>= ·) ?_;funext y;dsimp only;refine QC rfl (fun _=>rfl) fun _=>QC rfl (fun _=>rfl) fun _=>?_;refine MT (get >>= ·) ?_;funext st;refine congr (MT Bind.bind ?_) ?_
 .refine MT (forIn [0:a.size+b.size] ((none,a.size-1,b.size,#[y],gallopOf st):H5)) ?_;funext _ u;obtain⟨r,i,j,o,g⟩:=u;unfold HZ;dsimp only;refine congr (MT Bind.bind ?_) ?_
  .refine MT (forIn [0:a.size+b.size] ((none,i,j,o,0,0):H6)) ?_;funext _ v;obtain⟨r,i,j,o,c,d⟩:=v;unfold HY;rfl
  .funext v;obtain⟨r,i,j,o,c,d⟩:=v;cases r with
   |some x=>rfl
   |none=>
    refine MT (liftM (rule "list.sort.gallop") >>= ·) ?_;funext _;refine congr (MT Bind.bind ?_) ?_
    .refine MT (forIn [0:a.size+b.size] ((none,i,j,o,g+1,c,d):H7)) ?_;funext _ v;obtain⟨r,i,j,o,g,c,d⟩:=v;unfold HX;rfl
    .funext v;obtain⟨r,i,j,o,g,c,d⟩:=v;cases r with
     |some x=>rfl
     |none=>rfl
 .funext v;obtain⟨r,i,j,o,g⟩:=v;cases r with
  |some x=>rfl
  |none=>rfl
section
variable {prog:QR}{w:World}{A:QT}{E:QS->QP->Prop}{s:QP}{κ:SortKind}{S:List Keyed}{rk:Keyed->Nat}{a b:Array Keyed}{st₀:SortSt}
theorem AN (a b o:Array Keyed)(i j:Nat):(dh a b o i j).toList=a.toList.take i++b.toList.take j++o.toList.reverse:=by rw[Ni,Ni,iG,iG,Pd]
theorem AO (a b o:Array Keyed)(i j:Nat):(fh a b o i j).toList=b.toList.take j++a.toList.take i++o.toList.reverse:=by rw[Ni,Ni,iG,iG,Pd]
theorem F0 (H:Ab rk S a b)(h:JH rk a.toList b.toList o.toList i j)(e:i=0\/j=0):Fin rk a.toList b.toList (dh a b o i j).toList:=by
 rw[AN];refine h.qN H.sa H.sb fun x hx y hy=>?_;rcases e with e|e
 .rw[e,List.take_zero]at hy;cases hy
 .rw[e,List.take_zero]at hx;cases hx
theorem H_ (H:Ab rk S a b)(first:∀ x,b.toList[0]?=some x->∀ y∈a.toList,rk x<=rk y)(h:JH rk a.toList b.toList o.toList i 1):Fin rk a.toList b.toList (fh a b o i 1).toList:=by rw[AO];refine h.zM H.sa H.sb fun x hx y hy=>?_;obtain⟨p,h1,h2⟩:=bC hy;rw[show p=0 by lia]at h2;exact first y h2 x (Nk hx)
theorem JH.nI {o:Array Keyed}(h:JH rk a.toList b.toList o.toList (i+1) j)(H:Ab rk S a b)(hx:a.toList[i]?=some x)(hc:∀ y∈b.toList.take j,rk y<=rk x):JH rk a.toList b.toList (o.push x).toList i j:=by have:=h.o8 H.sa (m:=i) (by lia) (by rw[jX hx];intro z hz y hy;rw[MH]at hz;subst hz;exact hc y hy);rw[jX hx]at this;rw[OE];exact this
theorem JH.nJ {o:Array Keyed}(h:JH rk a.toList b.toList o.toList i (j+1))(H:Ab rk S a b)(hy:b.toList[j]?=some y)(hc:∀ x∈a.toList.take i,rk x<=rk y):JH rk a.toList b.toList (o.push y).toList i j:=by have:=h.tE H.sb (m:=j) (by lia) (by rw[jX hy];intro z hz x hx;rw[MH]at hz;subst hz;exact hc x hx);rw[jX hy]at this;rw[OE];exact this
def iJ (rk:Keyed->Nat)(a b:Array Keyed)(st₀ st:SortSt)(n:Nat)(o:Array Keyed)(i j:Nat):Prop:=JH rk a.toList b.toList o.toList i j/\(0<i/\i<=a.size)/\(1<j/\j<=b.size)/\i+j+n+1<=a.size+b.size/\∃ g,st=o9 st₀ g
theorem F1 (C:Cmp prog w A s κ S rk)(H:Ab rk S a b)(hk:kindOf st₀=κ)(first:∀ x,b.toList[0]?=some x->∀ y∈a.toList,rk x<=rk y){st:SortSt}{g n c d:Nat}(M:iJ rk a b st₀ st n o i j) :
 wpS (model prog w) A E s (HY a b g (r,i,j,o,c,d)) (fun q st'=>match q with
  | .done v=>wv rk a b st₀ st' v.1\/(v.1=none/\iJ rk a b st₀ st' (n+1) v.2.2.2.1 v.2.1 v.2.2.1)
  | .yield v=>v.1=none/\iJ rk a b st₀ st' (n+1) v.2.2.2.1 v.2.1 v.2.2.1) st:=by
 obtain⟨hJ,hi,hj,hn,g',rfl⟩:=M;obtain⟨i,rfl⟩ : ∃ m,i=m+1:=⟨i-1,by lia⟩;obtain⟨j,rfl⟩ : ∃ m,j=m+1:=⟨j-1,by lia⟩;obtain⟨y,y1,y2,y3⟩:=bF (show j<b.size by lia);obtain⟨x,x1,x2,x3⟩:=bF (show i<a.size by lia);unfold HY;simp only[Qw];refine MA (bt y1 (MA (bt x1 (MA (xL C (st:=o9 st₀ g') (H.hb y y3) (H.ha x x3) hk ?_)))));dsimp only;by_cases h:rk y<rk x
 .rw[Mp h,Mh rfl];refine MA (bt x1 ?_);have hJ':=hJ.nI H x2 fun z hz=>Mq (iH H.sb y2 z hz) (Nd h);by_cases e:i=0
  .rw[Mh (by simpa using e)];exact MN (.inl ⟨_,rfl,F0 H hJ' (.inl e),_,rfl⟩)
  .rw[Mj (by simpa using e)];by_cases e2:c+1>=g
   .rw[Mh e2];exact MN (.inr ⟨rfl,hJ',⟨by dsimp only;lia,by dsimp only;lia⟩,hj,by dsimp only;lia,_,rfl⟩)
   .rw[Mj e2];exact MN ⟨rfl,hJ',⟨by dsimp only;lia,by dsimp only;lia⟩,hj,by dsimp only;lia,_,rfl⟩
 .rw[My h,Mj (by simp)];refine MA (bt y1 ?_);have hJ':=hJ.nJ H y2 fun z hz=>Mq (iH H.sa x2 z hz) (OO h);by_cases e:j=1
  .rw[Mh (by simpa using e)];subst e;exact MN (.inl ⟨_,rfl,H_ H first hJ',_,rfl⟩)
  .rw[Mj (by simpa using e)];by_cases e2:d+1>=g
   .rw[Mh e2];exact MN (.inr ⟨rfl,hJ',hi,⟨by dsimp only;lia,by dsimp only;lia⟩,by dsimp only;lia,_,rfl⟩)
   .rw[Mj e2];exact MN ⟨rfl,hJ',hi,⟨by dsimp only;lia,by dsimp only;lia⟩,by dsimp only;lia,_,rfl⟩
def QH (rk:Keyed->Nat)(a b:Array Keyed)(st₀:SortSt)(n:Nat)(q:ForInStep H7)(st':SortSt):Prop:=match q with
 | .done v=>wv rk a b st₀ st' v.1\/(v.1=none/\iJ rk a b st₀ st' n v.2.2.2.1 v.2.1 v.2.2.1)
 | .yield v=>v.1=none/\iJ rk a b st₀ st' (n+1) v.2.2.2.1 v.2.1 v.2.2.1
theorem Ce (H:Ab rk S a b)(hJ:JH rk a.toList b.toList o.toList i j)(hi:0<i/\i<=a.size)(hj:1<j/\j<=b.size)(hn:i+j+n+1<=a.size+b.size)
 (hc:∀ x,a.toList[i-1]?=some x->∀ y∈b.toList.take j,rk y<=rk x):wpS (model prog w) A E s (hi3 a b g c d i j o) (QH rk a b st₀ n) (o9 st₀ g'):=by
 obtain⟨i,rfl⟩ : ∃ m,i=m+1:=⟨i-1,by lia⟩;obtain⟨x,x1,x2,x3⟩:=bF (show i<a.size by lia);unfold hi3;simp only[Qw]at hc ⊢;refine MA (bt x1 ?_);have hJ':=hJ.nI H x2 (hc x x2);by_cases e:i=0
 .rw[Mh (by simpa using e)];exact MN (.inl ⟨_,rfl,F0 H hJ' (.inl e),_,rfl⟩)
 .rw[Mj (by simpa using e)];split
  .exact MN (.inr ⟨rfl,hJ',⟨by dsimp only;lia,by dsimp only;lia⟩,hj,by dsimp only;lia,_,rfl⟩)
  .exact MN ⟨rfl,hJ',⟨by dsimp only;lia,by dsimp only;lia⟩,hj,by dsimp only;lia,_,rfl⟩
theorem Cf (C:Cmp prog w A s κ S rk)(H:Ab rk S a b)(hk:kindOf st₀=κ)(first:∀ x,b.toList[0]?=some x->∀ y∈a.toList,rk x<=rk y)(hJ:JH rk a.toList b.toList o.toList i j)(hi:0<i/\i<=a.size)(hj:1<j/\j<=b.size)(hn:i+j+n+1<=a.size+b.size)
 (hc:∀ y,b.toList[j-1]?=some y->∀ x∈a.toList.take i,rk x<=rk y):wpS (model prog w) A E s (hi2 a b g c d j i o) (QH rk a b st₀ n) (o9 st₀ g'):=by
 obtain⟨j,rfl⟩ : ∃ m,j=m+1:=⟨j-1,by lia⟩;obtain⟨y,y1,y2,y3⟩:=bF (show j<b.size by lia);obtain⟨x,x1,x2,x3⟩:=bF (show i-1<a.size by lia);unfold hi2;simp only[Qw]at hc ⊢;refine MA (bt y1 ?_);have hJ':=hJ.nJ H y2 (hc y y2);by_cases e:j=1
 .rw[Mh (by simpa using e)];subst e;exact MN (.inl ⟨_,rfl,H_ H first hJ',_,rfl⟩)
 .rw[Mj (by simpa using e)];refine MA (bt x1 (MA (sw C (st:=o9 st₀ g') hk (H.ha x x3) H.hb (gE H.sb _ _) (by lia) (by lia) fun k k1 k2 k3=>?_)));dsimp only;have xa:∀ v∈a.toList.take i,rk v<=rk x:=fun v hv=>iH H.sa x2 v (by rw[show i-1+1=i by lia];exact hv);have hJ2:=hJ'.tE H.sb k1 fun z hz v hv=>by obtain⟨p,p1,p2,p3⟩:=kQ hz;have h1:=k3 p z p1 p2 (by rw[Pu];exact p3);exact Mq (xa v hv) h1
  have hrest:∀ z∈b.toList.take k,rk z<=rk x:=fun z hz=>by obtain⟨p,p1,p3⟩:=bC hz;exact Nd (k2 p z p1 (by rw[Pu];exact p3))
  by_cases hk0:j-k>0
  .rw[Mh hk0];rw[<- jY,<- Pd,<- Ni]at hJ2;by_cases e2:k=1
   .rw[Mh (by simpa using e2)];subst e2;exact MN (.inl ⟨_,rfl,H_ H first hJ2,_,rfl⟩)
   .rw[Mj (by simpa using e2)];by_cases e3:k=0
    .rw[Mh (by simpa using e3)];exact MN (.inl ⟨_,rfl,F0 H hJ2 (.inr e3),_,rfl⟩)
    .rw[Mj (by simpa using e3)];exact Ce H hJ2 hi (by lia) (by lia) fun x' hx' z hz=>by rw[x2]at hx';cases hx';exact hrest z hz
  .rw[Mj hk0];have:k=j:=by lia
   subst this;exact Ce H hJ' hi (by lia) (by lia) fun x' hx' z hz=>by rw[x2]at hx';cases hx';exact hrest z hz
theorem Cg (C:Cmp prog w A s κ S rk)(H:Ab rk S a b)(hk:kindOf st₀=κ)(first:∀ x,b.toList[0]?=some x->∀ y∈a.toList,rk x<=rk y){st:SortSt}{o:Array Keyed}(M:iJ rk a b st₀ st n o i j) :
 wpS (model prog w) A E s (Cd a b o i j c d g) (QH rk a b st₀ n) st:=by
 obtain⟨hJ,hi,hj,hn,g',rfl⟩:=M;obtain⟨y,y1,y2,y3⟩:=bF (show j-1<b.size by lia);unfold Cd;refine MA (ou (MA (bt y1 (MA (sv C (st:=o9 st₀ g) hk (H.hb y y3) H.ha (gE H.sa _ _) (by lia) (by lia) fun k k1 k2 k3=>?_)))));dsimp only;have yb:∀ v∈b.toList.take j,rk v<=rk y:=fun v hv=>iH H.sb y2 v (by rw[show j-1+1=j by lia];exact hv);have hJ2:=hJ.o8 H.sa k1 fun z hz v hv=>by obtain⟨p,p1,p2,p3⟩:=kQ hz;have h1:=k3 p z p1 p2 (by rw[Pu];exact p3);exact Mq (yb v hv) (Nd h1)
 have hrest:∀ z∈a.toList.take k,rk z<=rk y:=fun z hz=>by obtain⟨p,p1,p3⟩:=bC hz;exact k2 p z p1 (by rw[Pu];exact p3)
 by_cases hk0:i-k>0
 .rw[Mh hk0];rw[<- jY,<- Pd,<- Ni]at hJ2;by_cases e:k=0
  .rw[Mh (by simpa using e)];exact MN (.inl ⟨_,rfl,F0 H hJ2 (.inl e),_,rfl⟩)
  .rw[Mj (by simpa using e)];exact Cf C H hk first hJ2 (by lia) hj (by lia) fun y' hy' z hz=>by rw[y2]at hy';cases hy';exact hrest z hz
 .rw[Mj hk0];have:k=i:=by lia
  subst this;exact Cf C H hk first hJ hi hj hn fun y' hy' z hz=>by rw[y2]at hy';cases hy';exact hrest z hz
theorem F2 (C:Cmp prog w A s κ S rk)(H:Ab rk S a b)(hk:kindOf st₀=κ)(first:∀ x,b.toList[0]?=some x->∀ y∈a.toList,rk x<=rk y){n g c d i j:Nat}{st:SortSt}(M:iJ rk a b st₀ st n o i j) :
 wpS (model prog w) A E s (HX a b (r,i,j,o,g,c,d)) (QH rk a b st₀ n) st:=by
 unfold HX;dsimp only;split
 .exact Cg C H hk first M
 .exact Cg C H hk first M
theorem F3 (C:Cmp prog w A s κ S rk)(H:Ab rk S a b)(hk:kindOf st₀=κ)(first:∀ x,b.toList[0]?=some x->∀ y∈a.toList,rk x<=rk y){n g i j:Nat}{st:SortSt}(M:iJ rk a b st₀ st n o i j) :
 wpS (model prog w) A E s (HZ a b (r,i,j,o,g)) (fun q st'=>match q with
  | .done v=>wv rk a b st₀ st' v.1
  | .yield v=>v.1=none/\iJ rk a b st₀ st' (n+1) v.2.2.2.1 v.2.1 v.2.2.1) st:=by
 have ht:0<a.size+b.size:=by have:=M.2.1;lia
 unfold HZ;dsimp only;refine MA (NU (NP (I:=fun m (v:H6) st'=>v.1=none/\iJ rk a b st₀ st' (n+m) v.2.2.2.1 v.2.1 v.2.2.1) (Q:=fun v st'=>wv rk a b st₀ st' v.1\/(v.1=none/\iJ rk a b st₀ st' (n+1) v.2.2.2.1 v.2.1 v.2.2.1)) ?_ ?_ ⟨rfl,M⟩) ?_)
 .rintro m ⟨r,i,j,o,c,d⟩ st' _ hm ⟨rfl,M'⟩;refine NU (F1 C H hk first M') fun q st2 hq=>?_;cases q with
  |done v=>
   rcases hq with hq|⟨h1,h2⟩
   .exact .inl hq
   .exact .inr ⟨h1,h2.1,h2.2.1,h2.2.2.1,by have:=h2.2.2.2.1;lia,h2.2.2.2.2⟩
  |yield v=>exact hq
 .rintro⟨r,i,j,o,c,d⟩ st' ⟨rfl,M'⟩;exact .inr ⟨rfl,M'.1,M'.2.1,M'.2.2.1,by have:=M'.2.2.2.1;lia,M'.2.2.2.2⟩
 .rintro⟨r,i,j,o,c,d⟩ st' hq;rcases hq with⟨x,e,hF,g',rfl⟩|⟨e,M'⟩
  .dsimp only at e ⊢;subst e;exact MN ⟨x,rfl,hF,g',rfl⟩
  .dsimp only at e M' ⊢;subst e;refine MA (ja ?_);refine MA (NU (NP (I:=fun m (v:H7) st'=>v.1=none/\iJ rk a b st₀ st' (n+1+m) v.2.2.2.1 v.2.1 v.2.2.1) (Q:=fun v st'=>wv rk a b st₀ st' v.1\/(v.1=none/\iJ rk a b st₀ st' (n+1) v.2.2.2.1 v.2.1 v.2.2.1)) ?_ ?_ ⟨rfl,M'⟩) ?_)
   .rintro m ⟨r,i,j,o,g,c,d⟩ st' _ hm ⟨rfl,M'⟩;refine NU (F2 C H hk first M') fun q st2 hq=>?_;cases q with
    |done v=>
     rcases hq with hq|⟨h1,h2⟩
     .exact .inl hq
     .exact .inr ⟨h1,h2.1,h2.2.1,h2.2.2.1,by have:=h2.2.2.2.1;lia,h2.2.2.2.2⟩
    |yield v=>exact hq
   .rintro⟨r,i,j,o,g,c,d⟩ st' ⟨rfl,M'⟩;exact .inr ⟨rfl,M'.1,M'.2.1,M'.2.2.1,by have:=M'.2.2.2.1;lia,M'.2.2.2.2⟩
   .rintro⟨r,i,j,o,g,c,d⟩ st' hq;rcases hq with⟨x,e,hF,g',rfl⟩|⟨e,h1,h2,h3,h4,g',rfl⟩
    .dsimp only at e ⊢;subst e;exact MN ⟨x,rfl,hF,g',rfl⟩
    .dsimp only at e h1 h2 h3 h4 ⊢;subst e;exact MA (ou (MN ⟨rfl,h1,h2,h3,h4,_,rfl⟩))
theorem vm (C:Cmp prog w A s κ S rk)(H:Ab rk S a b)(hk:kindOf st₀=κ)(na:1<=a.size)(nb:1<=b.size)(first:∀ x,b.toList[0]?=some x->∀ y∈a.toList,rk x<=rk y)(last:∀ x∈b.toList,∀ y,a.toList[a.size-1]?=some y->rk x<=rk y){Q:Array Keyed->SortSt->Prop}
 (hq:∀ o g,Fin rk a.toList b.toList o.toList->Q o (o9 st₀ g)):wpS (model prog w) A E s (iI a b) Q st₀:=by
 obtain⟨y,y1,y2,y3⟩:=bF (show a.size-1<a.size by lia);have J0:JH rk a.toList b.toList [] (a.size-1+1) b.size:=⟨by rw[Nr (by simp;lia),Nr (by simp)];exact .refl _,List.Pairwise.nil,(fun x hx=>by cases hx),fun x hx=>by cases hx⟩;have hJ:JH rk a.toList b.toList (#[y]:Array Keyed).toList (a.size-1) b.size:=JH.nI (o:=#[]) J0 H y2 fun x hx=>last x (Nk hx) y y2;rw[p8];refine MA (ja (MA (bt y1 ?_)));by_cases e:a.size-1=0
 .rw[Mh (by simpa using e)];exact MN (hq _ (gallopOf st₀) (F0 H hJ (.inl e)))
 .rw[Mj (by simpa using e)];by_cases e2:b.size=1
  .rw[Mh (by simpa using e2)];rw[e2]at hJ ⊢;exact MN (hq _ (gallopOf st₀) (H_ H first hJ))
  .rw[Mj (by simpa using e2)];refine MA (wpS_get (MA (NU (NP (I:=fun m (v:H5) st'=>v.1=none/\iJ rk a b st₀ st' m v.2.2.2.1 v.2.1 v.2.2.1) (Q:=fun v st'=>wv rk a b st₀ st' v.1) ?_ ?_ ⟨rfl,hJ,⟨by dsimp only;lia,by dsimp only;lia⟩,⟨by dsimp only;lia,by dsimp only;lia⟩,by dsimp only;lia,gallopOf st₀,rfl⟩) ?_)))
   .rintro m ⟨r,i,j,o,g⟩ st' _ hm ⟨rfl,M'⟩;refine NU (F3 C H hk first M') fun q st2 hq=>?_;cases q with
    |done v=>exact hq
    |yield v=>exact hq
   .rintro⟨r,i,j,o,g⟩ st' ⟨rfl,h1,h2,h3,h4,_⟩;dsimp only at h2 h3 h4;lia
   .rintro⟨r,i,j,o,g⟩ st' ⟨x,e,hF,g',rfl⟩;dsimp only at e ⊢;subst e;exact MN (hq _ _ hF)
end
noncomputable def wr (c:Nat)(m:Array Keyed)(xs:Array Keyed):Array Keyed:=m.toList.zipIdx.foldl (fun z (p,j)=>z.setIfInBounds (c+j) p) xs
theorem p9 (i:Nat):mergeAt' i=(do
 let st <- get
 let (some (u,n,q),some (v,m,_)):=((pendingOf st)[i]?,(pendingOf st)[i+1]?)|unsupported "internal:list.sort.pending"
 set (setPending st (((pendingOf st).setIfInBounds i (u,n+m,q)).eraseIdxIfInBounds (i+1)))
 let some k <- cX false (<- elem' (arrOf st) v) (arrOf st) u n 0|return false
 if n-k==0 then return true
 let some m <- cX true (<- elem' (arrOf st) (u+k+(n-k)-1)) (arrOf st) v m (m-1)|return false
 if m==0 then return true
 let z <- if n-k<=m then iD ((arrOf st).extract (u+k) v) ((arrOf st).extract v (v+m)) else iI ((arrOf st).extract (u+k) v) ((arrOf st).extract v (v+m))
 modify fun t=>setArr t (wr (u+k) z (arrOf t))
 return (failedOf (<- get)).isNone):=rfl
theorem xN (c:Nat):∀(l:List Keyed)(n:Nat)(xs:Array Keyed),c+n+l.length<=xs.size->∀ k,((l.zipIdx n).foldl (fun z (p:Keyed×Nat)=>z.setIfInBounds (c+p.2) p.1) xs)[k]?=if c+n<=k/\k<c+n+l.length then l[k-(c+n)]? else xs[k]?
 | [],n,xs,h,k=>by simp;intro h1 h2;lia
 |p::r,n,xs,h,k=>by
  rw[List.zipIdx_cons,PN];rw[Nl]at h ⊢;rw[xN c r (n+1) _ (by rw[Array.size_setIfInBounds];lia)];by_cases h1:c+(n+1)<=k/\k<c+(n+1)+r.length
  .rw[Mh h1,Mh (by lia),show k-(c+n)=(k-(c+(n+1)))+1 by lia,PP]
  .rw[Mj h1];by_cases h2:k=c+n
   .subst h2;rw[Mh (by lia),Nat.sub_self,List.getElem?_cons_zero];have hlt:c+n<xs.size:=by lia
    simp[Qn,hlt]
   .rw[Mj (by lia)];rw[Array.getElem?_setIfInBounds_ne (by lia)]
theorem AQ (e:xs.toList=P++M++R)(hc:P.length=c)(hm:M.length=m.size):(wr c m xs).toList=P++m.toList++R:=by
 have hs:xs.size=P.length+M.length+R.length:=by rw[<- MR,e];simp;lia
 apply N2
 intro k;rw[Mn];have hw:=xN c m.toList 0 xs (by simp;lia) k;rw[show(wr c m xs)[k]?=_ from hw,<- Mn (xs:=xs),e];have l2:m.toList.length=m.size:=by simp
 by_cases h1:k<P.length
 .rw[Mj (by lia),Mo,Mo,MM h1,MM h1]
 .by_cases h2:k<P.length+M.length
  .rw[Mh (by lia),Mo,Mw (by lia),MM (by lia)];congr 1;lia
  .rw[Mj (by lia),Mw (by simp;lia),Mw (by simp;lia)];congr 1;simp;lia
theorem F4 {A:QT}{E:QS->QP->Prop}{s:QP}{st x:SortSt}{Q:PUnit->SortSt->Prop}(h:Q ⟨⟩ x):wpS (model prog w) A E s (set x:SM PUnit) Q st:=by unfold wpS;rw[StateT.run_set];exact L_ ⟨rfl,h⟩
structure SB (κ:SortKind) (a₀:Array Keyed) (st:SortSt):Prop where
 perm:(arrOf st).toList.Perm a₀.toList
 kind:kindOf st=κ
 fail:failedOf st=none
section
variable {prog:QR}{w:World}{A:QT}{E:QS->QP->Prop}{s:QP}{κ:SortKind}{rk:Keyed->Nat}{a₀:Array Keyed}
theorem iL (hx:cO rk X)(hy:cO rk Y)(h:∀ x∈X,∀ y∈Y,rk x<=rk y):cO rk (X++Y):=NH.mpr ⟨hx,hy,h⟩
theorem vn (C:Cmp prog w A s κ a₀.toList rk){st:SortSt}(B:SB κ a₀ st){P X Y R:List Keyed}(e:(arrOf st).toList=P++X++Y++R)(hX:cO rk X)(hY:cO rk Y)(nX:0<X.length)(nY:0<Y.length)
 (hp:(pendingOf st).toList=l₁++(P.length,X.length,q)::(P.length+X.length,Y.length,q')::l₂) {Q:Bool->SortSt->Prop}
 (hq:∀ Z st',SB κ a₀ st'->(arrOf st').toList=P++Z++R->cO rk Z->Z.length=X.length+Y.length->(pendingOf st').toList=l₁++(P.length,X.length+Y.length,q)::l₂->Q true st'):wpS (model prog w) A E s (mergeAt' l₁.length) Q st:=by
 have hsz:(arrOf st).size=P.length+X.length+Y.length+R.length:=by rw[<- MR,e];simp;lia
 have hS:∀ x∈(arrOf st).toList,x∈a₀.toList:=fun x hx=>B.perm.subset hx;have p1:(pendingOf st)[l₁.length]?=some (P.length,X.length,q):=by rw[<- Mn,hp];simp
 have p2:(pendingOf st)[l₁.length+1]?=some (P.length+X.length,Y.length,q'):=by rw[<- Mn,hp];simp
 have hp':(((pendingOf st).setIfInBounds l₁.length (P.length,X.length+Y.length,q)).eraseIdxIfInBounds (l₁.length+1)).toList=l₁++(P.length,X.length+Y.length,q)::l₂:=by simp[hp,List.set_append_right,List.eraseIdx_append_of_length_le]
 have eX:∀ i,i<X.length->(arrOf st).toList[P.length+i]?=X[i]?:=fun i hi=>by rw[e,Mo,Mo,Mw (by lia),MM (by lia)];congr 1;lia
 have eY:∀ i,i<Y.length->(arrOf st).toList[P.length+X.length+i]?=Y[i]?:=fun i hi=>by rw[e,Mo,Mw (by simp),MM (by simp;lia)];congr 1;simp
 have dX:((arrOf st).toList.drop P.length).take X.length=X:=by rw[e,Mo,Mo];simp
 have dY:((arrOf st).toList.drop (P.length+X.length)).take Y.length=Y:=by rw[e,show P++X++Y++R=(P++X)++(Y++R) by simp,show P.length+X.length=(P++X).length by simp,List.drop_left,List.take_left]
 obtain⟨y0,y1,y2,y3⟩:=bF (a:=arrOf st) (i:=P.length+X.length) (by lia);have y4:Y[0]?=some y0:=by rw[<- eY 0 nY];exact y2
 rw[p9];refine MA (wpS_get ?_);rw[p1,p2];dsimp only;generalize hpp:((pendingOf st).setIfInBounds l₁.length (P.length,X.length+Y.length,q)).eraseIdxIfInBounds (l₁.length+1)=pp at hp' ⊢;refine MA (F4 ?_);refine MA (bt y1 (MA (sv C (st:=setPending st pp) B.kind (hS y0 y3) hS (by rw[dX];exact hX) (by lia) nX fun k k1 k2 k3=>?_)));dsimp only;have hY0:∀ y∈Y,rk y0<=rk y:=fun y hy=>iF hY y4 y (by rw[Ox];exact hy);have hX1:∀ x∈X.take k,rk x<=rk y0:=fun x hx=>by obtain⟨p,h1,h2⟩:=bC hx;exact k2 p x h1 (by rw[eX p (by lia)];exact h2)
 have hX2:∀ x∈X.drop k,rk y0<rk x:=fun x hx=>by obtain⟨p,h1,h2⟩:=bB hx;have hp:=(Mg.mp h2).1;exact k3 p x h1 hp (by rw[eX p hp];exact h2)
 have flat:(∀ x∈X.drop k,∀ y∈Y,rk x<=rk y)->wpS (model prog w) A E s (pure true) Q (setPending st pp):=fun h=>
  MN (hq (X++Y) _ ⟨B.perm,B.kind,B.fail⟩ (by show(arrOf st).toList=_;rw[e];simp) (iL hX hY fun x hx y hy=>by
   rw[<- MP k X]at hx;rcases MO.mp hx with hx|hx
   .exact Mq (hX1 x hx) (hY0 y hy)
   .exact h x hx y hy) (by simp) hp')
 by_cases h0:X.length-k=0
 .rw[Mh (by simpa using h0)];refine flat fun x hx=>?_;rw[Nr (by lia)]at hx;cases hx
 .rw[Mj (by simpa using h0)];obtain⟨x0,x1,x2,x3⟩:=bF (a:=arrOf st) (i:=P.length+k+(X.length-k)-1) (by lia);have x4:X[X.length-1]?=some x0:=by rw[<- eX (X.length-1) (by lia),<- x2];congr 1;lia
  refine MA (bt x1 (MA (sw C (st:=setPending st pp) B.kind (hS x0 x3) hS (by rw[dY];exact hY) (by lia) (by lia) fun m m1 m2 m3=>?_)));dsimp only;have hXl:∀ x∈X,rk x<=rk x0:=fun x hx=>iH hX x4 x (by rw[Nt (by lia)];exact hx);have hY1:∀ y∈Y.take m,rk y<rk x0:=fun y hy=>by obtain⟨p,h1,h2⟩:=bC hy;exact m2 p y h1 (by rw[eY p (by lia)];exact h2)
  have hY2:∀ y∈Y.drop m,rk x0<=rk y:=fun y hy=>by obtain⟨p,h1,h2⟩:=bB hy;have hp:=(Mg.mp h2).1;exact m3 p y h1 hp (by rw[eY p hp];exact h2)
  by_cases h1:m=0
  .rw[Mh (by simpa using h1)];refine flat fun x hx y hy=>Mq (hXl x (NG hx)) (hY2 y (by rw[h1,Ox];exact hy))
  .rw[Mj (by simpa using h1)];have exa:((arrOf st).extract (P.length+k) (P.length+X.length)).toList=X.drop k:=by rw[jY,e,show P++X++Y++R=(P++X)++(Y++R) by simp,show P.length+X.length=(P++X).length by simp,List.take_left];simp[List.drop_append]
   have eya:((arrOf st).extract (P.length+X.length) (P.length+X.length+m)).toList=Y.take m:=by rw[kP,e,show P++X++Y++R=(P++X)++(Y++R) by simp,show P.length+X.length=(P++X).length by simp,List.drop_left,Qk m1]
   have H:Ab rk a₀.toList ((arrOf st).extract (P.length+k) (P.length+X.length)) ((arrOf st).extract (P.length+X.length) (P.length+X.length+m)):=by
    refine⟨fun x hx=>?_,fun x hx=>?_,?_,?_⟩
    .rw[exa]at hx;exact hS x (by rw[e];have:=NG hx;simp[this])
    .rw[eya]at hx;exact hS x (by rw[e];have:=Nk hx;simp[this])
    .rw[exa];exact hX.sublist (OD _ _)
    .rw[eya];exact hY.sublist (N8 _ _)
   have sx:((arrOf st).extract (P.length+k) (P.length+X.length)).size=X.length-k:=by rw[<- MR,exa,Oh]
   have sy:((arrOf st).extract (P.length+X.length) (P.length+X.length+m)).size=m:=by rw[<- MR,eya,MU];lia
   have first:∀ x,((arrOf st).extract (P.length+X.length) (P.length+X.length+m)).toList[0]?=some x->∀ y∈((arrOf st).extract (P.length+k) (P.length+X.length)).toList,rk x<=rk y:=fun x hx y hy=>by rw[eya,NL,Mh (by lia),y4]at hx;cases hx;rw[exa]at hy;exact Nd (hX2 y hy)
   have last:∀ x∈((arrOf st).extract (P.length+X.length) (P.length+X.length+m)).toList,∀ y,((arrOf st).extract (P.length+k) (P.length+X.length)).toList[((arrOf st).extract (P.length+k) (P.length+X.length)).size-1]?=some y->rk x<=rk y:=fun x hx y hy=>by rw[eya]at hx;rw[sx,exa,PL,show k+(X.length-k-1)=X.length-1 by lia,x4]at hy;cases hy;exact Nd (hY1 x hx)
   have fin:∀(o:Array Keyed) g,Fin rk ((arrOf st).extract (P.length+k) (P.length+X.length)).toList ((arrOf st).extract (P.length+X.length) (P.length+X.length+m)).toList o.toList->wpS (model prog w) A E s (do
    modify fun t=>setArr t (wr (P.length+k) o (arrOf t))
    return (failedOf (<- get)).isNone) Q (o9 (setPending st pp) g):=by
    intro o g hF;rw[exa,eya]at hF;have lo:o.size=X.length-k+m:=by have:=hF.1.length_eq;simp at this;lia
    have e3:P++X++Y++R=(P++X.take k)++(X.drop k++Y.take m)++(Y.drop m++R):=by
     conv=>lhs;rw[<- MP k X,<- MP m Y]
     simp only[Mo]
    have ew:(wr (P.length+k) o (arrOf st)).toList=(P++X.take k)++o.toList++(Y.drop m++R):=AQ (M:=X.drop k++Y.take m) (e.trans e3) (by simp;lia) (by simp;lia);refine MA (wpS_modify (MA (wpS_get (MN ?_))));show Q (failedOf st).isNone _;rw[B.fail];refine hq (X.take k++o.toList++Y.drop m) _ ⟨?_,B.kind,B.fail⟩ (by show(wr (P.length+k) o (arrOf st)).toList=_;rw[ew];simp) ?_ (by simp;lia) hp'
    .show(wr (P.length+k) o (arrOf st)).toList.Perm _;refine List.Perm.trans ?_ B.perm;rw[ew,e];rw[e3];exact(hF.1.append_left _).append_right _
    .refine iL (iL (hX.sublist (N8 _ _)) hF.2 fun x hx y hy=>?_) (hY.sublist (OD _ _)) fun x hx y hy=>?_
     .rcases MO.mp (hF.1.subset hy) with hy|hy
      .exact Mq (hX1 x hx) (Nd (hX2 y hy))
      .exact Mq (hX1 x hx) (hY0 y (Nk hy))
     .rcases MO.mp hx with hx|hx
      .exact Mq (hX1 x hx) (hY0 y (NG hy))
      .rcases MO.mp (hF.1.subset hx) with hx|hx
       .exact Mq (hXl x (NG hx)) (hY2 y hy)
       .exact Mq (Nd (hY1 x hx)) (hY2 y hy)
   by_cases h2:X.length-k<=m
   .rw[Mh h2];exact MA (vk C H (st₀:=setPending st pp) B.kind (by lia) (by lia) first last fin)
   .rw[Mj h2];exact MA (vm C H (st₀:=setPending st pp) B.kind (by lia) (by lia) first last fin)
end
theorem p_ (e:xs.toList=P++M++x::R):(bubble xs (P.length+M.length) M.length).toList=P++x::M++R:=by
 have hs:xs.size=P.length+M.length+R.length+1:=by rw[<- MR,e];simp;lia
 apply N2
 intro k;rw[Mn,getElem?_bubble (by lia) _ (by lia)];rw[show P.length+M.length-M.length=P.length by lia];simp only[<- Mn,e];by_cases h1:k=P.length
 .rw[Mh h1,h1];simp
 .rw[Mj h1];by_cases h2:k<P.length
  .rw[Mj (by lia),Mo,Mo,MM h2,MM h2]
  .by_cases h3:k<=P.length+M.length
   .rw[Mh (by lia),Mo,Mw (by lia),MM (by lia),Mo,Mw (by lia),Ql,show k-P.length=(k-1-P.length)+1 by lia,PP,MM (by lia)]
   .rw[Mj (by lia),Mw (by simp;lia),Mw (by simp;lia),show k-(P++M).length=(k-(P++x::M).length)+1 by simp;lia,PP]
theorem qa (e:xs.toList=P++M++R):(mirror xs P.length (P.length+M.length) ((P.length+M.length-P.length) / 2)).toList=P++M.reverse++R:=by
 have hs:xs.size=P.length+M.length+R.length:=by rw[<- MR,e];simp;lia
 apply N2
 intro k;rw[Mn,getElem?_mirror_all (by lia)];simp only[<- Mn,e];by_cases h2:k<P.length
 .rw[Mj (by lia),Mo,Mo,MM h2,MM h2]
 .by_cases h3:k<P.length+M.length
  .rw[Mh (by lia),Mo,Mw (by lia),MM (by lia),Mo,Mw (by lia),MM (by simp;lia),List.getElem?_reverse (by lia)];congr 1;lia
  .rw[Mj (by lia),Mw (by simp;lia),Mw (by simp;lia)];congr 1;simp
section
variable {prog:QR}{w:World}{A:QT}{E:QS->QP->Prop}{s:QP}{κ:SortKind}{rk:Keyed->Nat}{a₀:Array Keyed}
theorem kR (C:Cmp prog w A s κ a₀.toList rk){st:SortSt}(B:SB κ a₀ st)(hx:(arrOf st).toList[i]?=some x)(hy:(arrOf st).toList[j]?=some y){Q:Option Bool->SortSt->Prop}(h:Q (some (decide (rk x<rk y))) st):wpS (model prog w) A E s (ltAt' i j) Q st:=by rw[ltAt'_eq];refine MA (wpS_get ?_);show wpS _ _ _ _ (do let x <- elem' (arrOf st) i;let y <- elem' (arrOf st) j;lt' x y) Q st;refine MA (bt (by rw[<- Mn];exact hx) (MA (bt (by rw[<- Mn];exact hy) ?_)));exact xL C (B.perm.subset (MW hx)) (B.perm.subset (MW hy)) B.kind h
theorem SB.set {st:SortSt}(B:SB κ a₀ st)(h:xs.toList.Perm (arrOf st).toList):SB κ a₀ (setArr st xs):=⟨h.trans B.perm,B.kind,B.fail⟩
theorem xO (C:Cmp prog w A s κ a₀.toList rk){st:SortSt}(B:SB κ a₀ st)(e:(arrOf st).toList=P++X++R)(h1:1<=ok)(aJ:ok<=X.length)(hs:cO rk (X.take ok)){Q:Bool->SortSt->Prop}
 (hq:∀ Z st',SB κ a₀ st'->(arrOf st').toList=P++Z++R->cO rk Z->Z.length=X.length->pendingOf st'=pendingOf st->Q true st'):wpS (model prog w) A E s (binarySort' P.length X.length ok) Q st:=by
 rw[binarySort'_eq,Nat.max_eq_left h1];have e0:(arrOf st).toList=P++X.take ok++(X.drop ok++R):=by
  rw[e];conv=>lhs;rw[<- MP ok X]
  simp only[Mo]
 refine MA (NU (NP (I:=fun k (c:Option Bool×Unit) st'=>c.1=none/\SB κ a₀ st'/\pendingOf st'=pendingOf st/\∃ Z:List Keyed,Z.length=k/\cO rk Z/\(arrOf st').toList=P++Z++(X.drop k++R))
  (Q:=fun c st'=>c.1=none/\SB κ a₀ st'/\pendingOf st'=pendingOf st/\∃ Z:List Keyed,Z.length=X.length/\cO rk Z/\(arrOf st').toList=P++Z++R) ?_ ?_ ⟨rfl,B,rfl,X.take ok,by rw[MU];lia,hs,e0⟩) ?_)
 .rintro k ⟨r,u⟩ st' hk1 hk2 ⟨rfl,B',hp,Z,hZ,sZ,eZ⟩;obtain⟨x,hx⟩ : ∃ x,X[k]?=some x:=⟨X[k],by simp[hk2]⟩;have dX:X.drop k=x::X.drop (k+1):=by obtain⟨h1,h2⟩:=Mg.mp hx;rw[NV h1,h2]
  rw[dX]at eZ;have ax:(arrOf st').toList[P.length+k]?=some x:=by rw[eZ,Mw (by simp;lia),<- hZ];simp
  have aZ:∀ m z,Z[m]?=some z->(arrOf st').toList[P.length+m]?=some z:=fun m z hz=>by have hm:=(Mg.mp hz).1;rw[eZ,Mo,Mw (by lia),MM (by lia),<- hz];congr 1;lia
  dsimp only;refine MA (NU (NP (I:=fun i (c:Option Bool×Nat×Nat) st2=>c.1=none/\st2=st'/\c.2.1<=c.2.2/\c.2.2<=k/\(c.2.2-c.2.1)+i<=k/\(∀ m z,m<c.2.1->Z[m]?=some z->rk z<=rk x)/\(∀ m z,c.2.2<=m->Z[m]?=some z->rk x<rk z))
   (Q:=fun c st2=>c.1=none/\st2=st'/\c.2.1<=k/\(∀ m z,m<c.2.1->Z[m]?=some z->rk z<=rk x)/\(∀ m z,c.2.1<=m->Z[m]?=some z->rk x<rk z)) ?_ ?_ ⟨rfl,rfl,ML _,Mc _,by dsimp only;lia,(fun m z hm=>by dsimp only at hm;lia),fun m z hm hz=>by have:=(Mg.mp hz).1;dsimp only at hm;lia⟩) ?_)
  .rintro i ⟨r,l,q⟩ st2 _ hi ⟨rfl,rfl,c1,c2,c3,c4,c5⟩;dsimp only at *;by_cases hlq:l>=q
   .rw[Mh hlq];have:l=q:=by lia
    subst this;exact MN ⟨rfl,rfl,c2,c4,c5⟩
   .rw[Mj hlq];obtain⟨z,hz⟩ : ∃ z,Z[(l+q) / 2]?=some z:=⟨Z[(l+q) / 2]'(by lia),by simp⟩;refine MA (kR C B' ax (aZ _ z hz) ?_);dsimp only;by_cases hless:rk x<rk z
    .rw[Mp hless,Mh rfl];exact MN ⟨rfl,rfl,by dsimp only;lia,by dsimp only;lia,by dsimp only;lia,c4,fun m v hm hv=>MY hless (gh sZ hz hv hm)⟩
    .rw[My hless,Mj (by simp)];exact MN ⟨rfl,rfl,by dsimp only;lia,by dsimp only;lia,by dsimp only;lia,fun m v hm hv=>Mq (gh sZ hv hz (by dsimp only at hm;lia)) (OO hless),c5⟩
  .rintro⟨r,l,q⟩ st2 ⟨rfl,rfl,c1,c2,c3,c4,c5⟩;dsimp only at *;have:l=q:=by lia
   subst this;exact⟨rfl,rfl,c2,c4,c5⟩
  .rintro⟨r,l,q⟩ st2 ⟨rfl,rfl,c2,c4,c5⟩;dsimp only at c2 c4 c5 ⊢;rw[moveDown'_eq];refine MA (wpS_modify (MN ?_));have e1:(arrOf st2).toList=(P++Z.take l)++Z.drop l++x::(X.drop (k+1)++R):=by
    rw[eZ];conv=>lhs;rw[<- MP l Z]
    simp only[Mo,Ql]
   have eb:=p_ e1;rw[show(P++Z.take l).length+(Z.drop l).length=P.length+k by simp;lia,show(Z.drop l).length=P.length+k-(P.length+l) by simp;lia]at eb;refine⟨rfl,B'.set ?_,hp,Z.take l++x::Z.drop l,by simp;lia,?_,?_⟩
   .exact(bubble_perm _ _ _).toList
   .refine iL (sZ.sublist (N8 _ _)) (Np.mpr ⟨fun z hz=>?_,sZ.sublist (OD _ _)⟩) fun y hy z hz=>?_
    .obtain⟨p,h1,h2⟩:=bB hz;exact Nd (c5 p z h1 h2)
    .obtain⟨p,h1,h2⟩:=bC hy;have hyx:=c4 p y h1 h2;rcases Mv.mp hz with rfl|hz
     .exact hyx
     .obtain⟨p2,h3,h4⟩:=bB hz;exact Mq hyx (Nd (c5 p2 z h3 h4))
   .show(bubble (arrOf st2) (P.length+k) (P.length+k-(P.length+l))).toList=_;rw[eb];simp only[Mo,Ql]
 .rintro⟨r,u⟩ st' ⟨rfl,B',hp,Z,hZ,sZ,eZ⟩;rw[QL aJ]at hZ eZ;exact⟨rfl,B',hp,Z,hZ,sZ,by rw[eZ,List.drop_length];rfl⟩
 .rintro⟨r,u⟩ st' ⟨rfl,B',hp,Z,hZ,sZ,eZ⟩;exact MN (hq Z st' B' eZ sZ hZ hp)
noncomputable def F5 (lo:Nat)(c:Option (Option Nat)×Nat):SM (ForInStep (Option (Option Nat)×Nat)):=do
 let x <- ltAt' (lo+c.2) (lo+c.2-1)
 match x with
 |some y=>if y=true then pure (ForInStep.done (none,c.2)) else pure (ForInStep.yield (none,c.2+1))
 |_=>pure (ForInStep.done (some none,c.2))
theorem l6 {T:List Keyed}(hs:cO rk (T.take n))(hn:1<=n)(hx:T[n]?=some x)(hy:T[n-1]?=some y)(h:rk y<=rk x):cO rk (T.take (n+1)):=by
 obtain⟨h1,h2⟩:=Mg.mp hx;rw[Oz h1,h2];refine iL hs (N5 _ _) fun z hz v hv=>?_;rw[MH]at hv;subst hv;obtain⟨p,p1,p2⟩:=bC hz;refine Mq (gh hs (p:=p) (q:=n-1) (x:=z) (y:=y) ?_ ?_ (by lia)) h
 .rw[NL,Mh p1];exact p2
 .rw[NL,Mh (by lia)];exact hy
theorem Ci (C:Cmp prog w A s κ a₀.toList rk){st:SortSt}(B:SB κ a₀ st)(e:(arrOf st).toList=P++T)(h1:1<=a)(ha:a<=T.length)(hs:cO rk (T.take a)){Q:Option (Option Nat)×Nat->SortSt->Prop}
 (hq:∀ n,a<=n->n<=T.length->cO rk (T.take n)->(∀ x y,T[n]?=some x->T[n-1]?=some y->rk x<rk y)->Q (none,n) st):wpS (model prog w) A E s (forIn [a:T.length] ((none,a):Option (Option Nat)×Nat) fun _ c=>F5 P.length c) Q st:=by
 have at_:∀ n x,T[n]?=some x->(arrOf st).toList[P.length+n]?=some x:=fun n x hx=>by rw[e,Mw (by lia),<- hx];congr 1;lia
 refine NU (NP (I:=fun i (c:Option (Option Nat)×Nat) st'=>st'=st/\c=(none,i)/\cO rk (T.take i)) (Q:=fun c st'=>st'=st/\∃ n,c=(none,n)/\a<=n/\n<=T.length/\cO rk (T.take n)/\(∀ x y,T[n]?=some x->T[n-1]?=some y->rk x<rk y)) ?_ ?_ ⟨rfl,rfl,hs⟩) ?_
 .rintro i c st' Cd hi2 ⟨rfl,rfl,hs'⟩;obtain⟨x,hx⟩ : ∃ x,T[i]?=some x:=⟨T[i],by simp[hi2]⟩;obtain⟨y,hy⟩ : ∃ y,T[i-1]?=some y:=⟨T[i-1]'(by lia),by simp⟩;unfold F5;refine MA (kR C B (at_ i x hx) (by rw[show P.length+i-1=P.length+(i-1) by lia];exact at_ _ y hy) ?_);dsimp only;by_cases h:rk x<rk y
  .rw[Mp h,Mh rfl];exact MN ⟨rfl,i,rfl,Cd,by lia,hs',fun x' y' hx' hy'=>by rw[hx]at hx';rw[hy]at hy';cases hx';cases hy';exact h⟩
  .rw[My h,Mj (by simp)];exact MN ⟨rfl,rfl,l6 hs' (by lia) hx hy (OO h)⟩
 .rintro c st' ⟨rfl,rfl,hs'⟩;rw[QL ha]at hs' ⊢;exact⟨rfl,T.length,rfl,ha,Mc _,hs',fun x y hx=>by rw[Nz (Mc _)]at hx;cases hx⟩
 .rintro c st' ⟨rfl,n,rfl,h2,h3,h4,h5⟩;exact hq n h2 h3 h4 h5
theorem Cj {l:List Keyed}(h:(l.map rk).Nodup){i j:Nat}{x y:Keyed}(hij:i<j)(hx:l[i]?=some x)(hy:l[j]?=some y):rk x≠rk y:=by obtain⟨h1,e1⟩:=Mg.mp hx;obtain⟨h2,e2⟩:=Mg.mp hy;have:=MG.mp h i j (by simpa using h1) (by simpa using h2) hij;simp only[List.getElem_map,e1,e2]at this;exact this
theorem AR (C:Cmp prog w A s κ a₀.toList rk)(D:(a₀.toList.map rk).Nodup){st:SortSt}(B:SB κ a₀ st){P T:List Keyed}(e:(arrOf st).toList=P++T)(h1:1<=T.length){Q:Option Nat->SortSt->Prop}
 (hq:∀ X R st',SB κ a₀ st'->(arrOf st').toList=P++X++R->cO rk X->1<=X.length->pendingOf st'=pendingOf st->Q (some X.length) st'):wpS (model prog w) A E s (countRun' P.length T.length) Q st:=by
 rw[countRun'_eq];dsimp only;refine MA (NU (Ci C B e (a:=1) (Mc _) h1 (by
  cases T with
  |nil=>simp at h1
  |cons t r=>exact N5 _ _) (Q:=fun c st'=>st'=st/\∃ n,c=(none,n)/\1<=n/\n<=T.length/\cO rk (T.take n)/\(∀ x y,T[n]?=some x->T[n-1]?=some y->rk x<rk y)) fun n a1 a2 a3 a4=>⟨rfl,n,rfl,a1,a2,a3,a4⟩) ?_)
 rintro c st' ⟨rfl,n,rfl,a1,a2,a3,a4⟩;dsimp only;by_cases hn:n=T.length
 .rw[Mh (by simpa using hn)];subst hn;rw[Ng]at a3;exact MN (hq T [] st' B (by rw[e];simp) a3 h1 rfl)
 .rw[Mj (by simpa using hn)];have D':((arrOf st').toList.map rk).Nodup:=(B.perm.map rk).nodup_iff.mpr D;have DT:(T.map rk).Nodup:=by rw[e,M8,NT]at D';exact D'.2.1
  have at_:∀ n x,T[n]?=some x->(arrOf st').toList[P.length+n]?=some x:=fun n x hx=>by rw[e,Mw (by lia),<- hx];congr 1;lia
  by_cases hn1:n>1
  .rw[Mh hn1];obtain⟨x,hx⟩ : ∃ x,T[0]?=some x:=⟨T[0]'(by lia),by simp⟩;obtain⟨y,hy⟩ : ∃ y,T[n-1]?=some y:=⟨T[n-1]'(by lia),by simp⟩;have hlt:rk x<rk y:=by have h2:=gh a3 (p:=0) (q:=n-1) (x:=x) (y:=y) (by rw[NL,Mh (by lia)];exact hx) (by rw[NL,Mh (by lia)];exact hy) (by lia);have h3:=Cj DT (i:=0) (j:=n-1) (by lia) hx hy;lia
   refine MA (kR C B (by have:=at_ 0 x hx;simpa using this) (by rw[show P.length+n-1=P.length+(n-1) by lia];exact at_ _ y hy) ?_);dsimp only;rw[Mp hlt,Mh rfl];have:=hq (T.take n) (T.drop n) st' B (by rw[e,Mo,MP]) a3 (by rw[MU];lia) rfl;rw[MU,PM a2]at this;exact MN this
  .rw[Mj hn1];have:n=1:=by lia
   subst this;refine MA (ja ?_);refine MA (NU (NP (I:=fun i (c:Option (Option Nat)×Nat×Nat) st2=>st2=st'/\c=(none,i,0)/\(T.take i).Pairwise fun x y=>rk y<=rk x) (Q:=fun c st2=>st2=st'/\∃ m,c=(none,m,0)/\2<=m/\m<=T.length/\(T.take m).Pairwise fun x y=>rk y<=rk x) ?_ ?_ ⟨rfl,rfl,?_⟩) ?_)
   .rintro i c st2 Cd hi2 ⟨rfl,rfl,hd⟩;obtain⟨x,hx⟩ : ∃ x,T[i]?=some x:=⟨T[i],by simp[hi2]⟩;obtain⟨y,hy⟩ : ∃ y,T[i-1]?=some y:=⟨T[i-1]'(by lia),by simp⟩;refine MA (kR C B (at_ i x hx) (by rw[show P.length+i-1=P.length+(i-1) by lia];exact at_ _ y hy) ?_);dsimp only;by_cases h:rk x<rk y
    .rw[Mp h,Mh rfl,Mj (by lia)];refine MN ⟨rfl,rfl,?_⟩;obtain⟨g1,g2⟩:=Mg.mp hx;rw[Oz g1,g2];refine NH.mpr ⟨hd,N5 _ _,fun z hz v hv=>?_⟩;rw[MH]at hv;subst hv;obtain⟨p,p1,p2⟩:=bC hz;by_cases hpi:p=i-1
     .rw[hpi,hy]at p2;cases p2;exact Nd h
     .have q1:(T.take i)[p]?=some z:=by rw[NL,Mh p1];exact p2
      have q2:(T.take i)[i-1]?=some y:=by rw[NL,Mh (by lia)];exact hy
      obtain⟨b1,c1⟩:=Mg.mp q1;obtain⟨b2,c2⟩:=Mg.mp q2;have:=MG.mp hd p (i-1) b1 b2 (by lia);rw[c1,c2]at this;lia
    .rw[My h,Mj (by simp)];have hne:=Cj DT (i:=i-1) (j:=i) (by lia) hy hx;refine MA (kR C B (by rw[show P.length+i-1=P.length+(i-1) by lia];exact at_ _ y hy) (at_ i x hx) ?_);dsimp only;rw[Mp (show rk y<rk x by lia),Mh rfl];exact MN ⟨rfl,i,rfl,Cd,by lia,hd⟩
   .rintro c st2 ⟨rfl,rfl,hd⟩;rw[QL (by lia)]at hd ⊢;exact⟨rfl,T.length,rfl,by lia,Mc _,hd⟩
   .obtain⟨x,hx⟩ : ∃ x,T[0]?=some x:=⟨T[0]'(by lia),by simp⟩;obtain⟨y,hy⟩ : ∃ y,T[1]?=some y:=⟨T[1]'(by lia),by simp⟩;have:=a4 y x hy hx;cases T with
    |nil=>simp at h1
    |cons t r=>
     cases r with
     |nil=>simp at hn
     |cons u r=>simp at hx hy;subst hx;subst hy;show List.Pairwise _ [t,u];refine Np.mpr ⟨fun z hz=>?_,N5 _ _⟩;rw[MH]at hz;subst hz;lia
   .rintro c st2 ⟨rfl,m,rfl,m1,m2,hd⟩;dsimp only;rw[Mj (by lia),reverseSlice'_eq];refine MA (wpS_modify ?_);have e3:(arrOf st2).toList=P++T.take m++T.drop m:=by rw[e,Mo,MP]
    have em:=qa e3;rw[show P.length+(T.take m).length=P.length+m by simp;lia]at em;have B2:SB κ a₀ (setArr st2 (mirror (arrOf st2) P.length (P.length+m) ((P.length+m-P.length) / 2))):=B.set (mirror_perm _ _ _ _).toList;have lT:((T.take m).reverse++T.drop m).length=T.length:=by simp;lia
    have tT:((T.take m).reverse++T.drop m).take m=(T.take m).reverse:=by rw[Qk (by simp;lia),Nt (by simp;lia)]
    have asc:=Ci (E:=E) C B2 (P:=P) (T:=(T.take m).reverse++T.drop m) (by show(mirror (arrOf st2) P.length (P.length+m) ((P.length+m-P.length) / 2)).toList=_;rw[em,Mo]) (a:=m) (by lia) (by lia) (by rw[tT];unfold cO;rw[Qg];exact hd)
     (Q:=fun c st3=>st3=setArr st2 (mirror (arrOf st2) P.length (P.length+m) ((P.length+m-P.length) / 2))/\∃ n,c=(none,n)/\m<=n/\n<=T.length/\cO rk (((T.take m).reverse++T.drop m).take n)) fun n b1 b2 b3 _=>⟨rfl,n,rfl,b1,by lia,b3⟩
    rw[lT]at asc;refine MA (NU asc ?_);rintro c st3 ⟨rfl,n,rfl,b1,b2,b3⟩;dsimp only;have:=hq (((T.take m).reverse++T.drop m).take n) (((T.take m).reverse++T.drop m).drop n) _ B2 (by show(mirror (arrOf st2) P.length (P.length+m) ((P.length+m-P.length) / 2)).toList=_;rw[em,Mo,Mo,MP]) b3 (by rw[MU];lia) rfl;rw[MU,PM (by lia)]at this;exact MN this
end
noncomputable abbrev Pn:=List (Nat×Nat×Nat)
noncomputable def Ch (rk:Keyed->Nat):List (Nat×Nat)->Nat->List Keyed->Prop
 | [],_,xs=>xs=[]
 |(u,n)::l,c,xs=>∃ X Y,xs=X++Y/\u=c/\X.length=n/\0<n/\cO rk X/\Ch rk l (c+n) Y
noncomputable def pm (l:Pn):List (Nat×Nat):=l.map fun t=>(t.1,t.2.1)
section
variable {rk:Keyed->Nat}
theorem Ch.split:∀{l₁ l₂:List (Nat×Nat)}{c:Nat}{xs:List Keyed},Ch rk (l₁++l₂) c xs->∃ A B,xs=A++B/\Ch rk l₁ c A/\Ch rk l₂ (c+A.length) B
 | [],l₂,c,xs,h=>⟨[],xs,rfl,rfl,h⟩
 |(u,n)::l,l₂,c,xs,h=>by obtain⟨X,Y,rfl,h1,h2,h3,h4,h5⟩:=h;obtain⟨A,B,rfl,g1,g2⟩:=Ch.split h5;refine⟨X++A,B,by simp,⟨X,A,rfl,h1,h2,h3,h4,g1⟩,?_⟩;rw[show c+(X++A).length=c+n+A.length by simp;lia];exact g2
theorem Ch.join:∀{l₁ l₂:List (Nat×Nat)}{c:Nat}{A B:List Keyed},Ch rk l₁ c A->Ch rk l₂ (c+A.length) B->Ch rk (l₁++l₂) c (A++B)
 | [],l₂,c,A,B,h,g=>by have:A=[]:=h;subst this;simpa using g
 |(u,n)::l,l₂,c,A,B,h,g=>by obtain⟨X,Y,rfl,h1,h2,h3,h4,h5⟩:=h;refine⟨X,Y++B,by simp,h1,h2,h3,h4,Ch.join h5 ?_⟩;rw[show c+n+Y.length=c+(X++Y).length by simp;lia];exact g
theorem Ch.len:∀{l:List (Nat×Nat)}{c:Nat}{xs:List Keyed},Ch rk l c xs->l.length<=xs.length
 | [],c,xs,h=>ML _
 |(u,n)::l,c,xs,h=>by obtain⟨X,Y,rfl,h1,h2,h3,h4,h5⟩:=h;have:=Ch.len h5;simp;lia
end
section
variable {prog:QR}{w:World}{A:QT}{E:QS->QP->Prop}{s:QP}{κ:SortKind}{rk:Keyed->Nat}{a₀:Array Keyed}
theorem m8 (C:Cmp prog w A s κ a₀.toList rk){st:SortSt}(B:SB κ a₀ st)(e:(arrOf st).toList=D++R)(hc:Ch rk (pm (pendingOf st).toList) 0 D)(hi:i+1<(pendingOf st).size){Q:Bool->SortSt->Prop}
 (hq:∀ D' st',SB κ a₀ st'->(arrOf st').toList=D'++R->D'.length=D.length->Ch rk (pm (pendingOf st').toList) 0 D'->(pendingOf st').size+1=(pendingOf st).size->Q true st'):wpS (model prog w) A E s (mergeAt' i) Q st:=by
 have hl:i+1<(pendingOf st).toList.length:=by simpa using hi
 obtain⟨l₁,x,y,l₂,hp,hl1⟩ : ∃(l₁:Pn)(x y:Nat×Nat×Nat)(l₂:Pn),(pendingOf st).toList=l₁++x::y::l₂/\l₁.length=i:=by refine⟨(pendingOf st).toList.take i,(pendingOf st).toList[i]'(by lia),(pendingOf st).toList[i+1],(pendingOf st).toList.drop (i+2),?_,by rw[MU];lia⟩;rw[<- NV (by lia),<- NV (by lia),MP]
 obtain⟨u,n,q⟩:=x;obtain⟨v,m,q'⟩:=y;have hpm:pm (pendingOf st).toList=pm l₁++(u,n)::(v,m)::pm l₂:=by rw[hp];simp[pm]
 rw[hpm]at hc;obtain⟨P,T,rfl,c1,c2⟩:=hc.split;obtain⟨X,Y',rfl,rfl,rfl,n1,sX,Y,Z,rfl,rfl,rfl,n2,sY,c3⟩:=c2;rw[Pu]at hp c3 hpm;subst hl1;refine vn C B (P:=P) (X:=X) (Y:=Y) (R:=Z++R) (by rw[e];simp) sX sY n1 n2 hp fun W st' B' e' sW lW hp'=>hq (P++(W++Z)) st' B' (by rw[e'];simp) (by simp;lia) ?_ ?_
 .rw[hp',show pm (l₁++(P.length,X.length+Y.length,q)::l₂)=pm l₁++(P.length,X.length+Y.length)::pm l₂ by simp[pm]];refine Ch.join c1 ⟨W,Z,rfl,by simp,lW,by lia,sW,?_⟩;rw[Pu,<- O7];exact c3
 .rw[<- MR,<- MR,hp',hp];simp;lia
noncomputable def ud (pw:Nat):SM (ForInStep (Option Unit×Unit)):=do
 let t <- get
 match (if (pendingOf t).size>1 then (pendingOf t)[(pendingOf t).size-2]? else none) with
 |some (_,_,o)=>if o<=pw then pure (.done (none,())) else do
  let y <- mergeAt' ((pendingOf t).size-2)
  if (!y)=true then pure (.done (some (),())) else pure (.yield (none,()))
 |_=>pure (.done (none,()))
def vp (size lo n:Nat):SM (ForInStep (Option Unit×Nat)):=do
 let t <- get
 match (pendingOf t).back? with
 |some (u,m,_)=>do
  let r <- forIn [0:size] ((none,()):Option Unit×Unit) fun _ _=>ud (power' size (2*u+m) (2*u+m+m+n) size)
  match r.1 with
  |some x=>pure (.done (some x,lo))
  |none=>do
   modify fun t=>setPending t ((pendingOf t).modify ((pendingOf t).size-1) fun x=>(x.1,x.2.1,power' size (2*u+m) (2*u+m+m+n) size))
   modify fun t=>setPending t ((pendingOf t).push (lo,n,0))
   pure (.yield (none,lo+n))
 |_=>do
  modify fun t=>setPending t ((pendingOf t).push (lo,n,0))
  pure (.yield (none,lo+n))
def Ds (size mr:Nat)(c:Option Unit×Nat):SM (ForInStep (Option Unit×Nat)):=
 if c.2>=size then pure (.done (none,c.2)) else do
  let x <- countRun' c.2 (size-c.2)
  match x with
  |some n=>
   if n<mr then do
    rule "list.sort.binary-insertion"
    let y <- binarySort' c.2 (min (size-c.2) mr) n
    if (!y)=true then pure (.done (some (),c.2)) else vp size c.2 (min (size-c.2) mr)
   else vp size c.2 n
  |_=>pure (.done (some (),c.2))
noncomputable def Dt:SM (ForInStep (Option Unit×Unit)):=do
 let t <- get
 if (pendingOf t).size<=1 then pure (.done (none,())) else do
  let y <- mergeAt' (if (if (pendingOf t).size-2>0 then (pendingOf t)[(pendingOf t).size-2-1]?.map (·.2.1) else none).any (·< ((pendingOf t)[(pendingOf t).size-2+1]?.elim 0 (·.2.1))) then (pendingOf t).size-2-1 else (pendingOf t).size-2)
  if (!y)=true then pure (.done (some (),())) else pure (.yield (none,()))
theorem AS:sortRuns'=(do
 let t <- get
 let r <- forIn [0:(arrOf t).size] ((none,0):Option Unit×Nat) fun _ c=>Ds (arrOf t).size (minRun' (arrOf t).size (arrOf t).size 0) c
 match r.1 with
 |some x=>pure x
 |none=>do
  let q <- forIn [0:(arrOf t).size] ((none,()):Option Unit×Unit) fun _ _=>Dt
  match q.1 with
  |some x=>pure x
  |none=>pure ()):=by
 rw[sortRuns'_eq];refine MT (get >>= ·) ?_;funext t;dsimp only;refine congr (MT Bind.bind ?_) ?_
 .refine MT (forIn [0:(arrOf t).size] ((none,0):Option Unit×Nat)) ?_;funext _ c;unfold Ds;refine QC rfl (fun _=>rfl) fun _=>?_;refine MT (countRun' c.2 ((arrOf t).size-c.2) >>= ·) ?_;funext x;cases x with
  |none=>rfl
  |some n=>
   refine QC rfl (fun _=>?_) fun _=>?_
   .refine MT (liftM (rule "list.sort.binary-insertion") >>= ·) ?_;funext _;refine MT (binarySort' c.2 (min ((arrOf t).size-c.2) (minRun' (arrOf t).size (arrOf t).size 0)) n >>= ·) ?_;funext y;refine QC rfl (fun _=>rfl) fun _=>?_;unfold vp;refine MT (get >>= ·) ?_;funext t2;generalize (pendingOf t2).back?=bk;cases bk with
    |none=>rfl
    |some b=>
     obtain⟨u,m,q⟩:=b;dsimp only;refine congr (MT Bind.bind ?_) ?_
     .refine MT (forIn [0:(arrOf t).size] ((none,()):Option Unit×Unit)) ?_;funext _ _;unfold ud;refine MT (get >>= ·) ?_;funext t3;generalize (if (pendingOf t3).size>1 then (pendingOf t3)[(pendingOf t3).size-2]? else none)=o;cases o with
      |none=>rfl
      |some o=>rfl
     .funext r;obtain⟨r,_⟩:=r;cases r with
      |none=>rfl
      |some x=>rfl
   .unfold vp;refine MT (get >>= ·) ?_;funext t2;generalize (pendingOf t2).back?=bk;cases bk with
    |none=>rfl
    |some b=>
     obtain⟨u,m,q⟩:=b;dsimp only;refine congr (MT Bind.bind ?_) ?_
     .refine MT (forIn [0:(arrOf t).size] ((none,()):Option Unit×Unit)) ?_;funext _ _;unfold ud;refine MT (get >>= ·) ?_;funext t3;generalize (if (pendingOf t3).size>1 then (pendingOf t3)[(pendingOf t3).size-2]? else none)=o;cases o with
      |none=>rfl
      |some o=>rfl
     .funext r;obtain⟨r,_⟩:=r;cases r with
      |none=>rfl
      |some x=>rfl
 .funext r;obtain⟨r,lo⟩:=r;cases r with
  |some x=>rfl
  |none=>
   dsimp only;refine congr (MT Bind.bind ?_) ?_
   .refine MT (forIn [0:(arrOf t).size] ((none,()):Option Unit×Unit)) ?_;funext _ _;unfold Dt;rfl
   .funext r;obtain⟨r,_⟩:=r;cases r with
    |none=>rfl
    |some x=>rfl
theorem t_runs (C:Cmp prog w A s κ a₀.toList rk)(Dn:(a₀.toList.map rk).Nodup){st:SortSt}(B:SB κ a₀ st)(hpe:pendingOf st=#[])(h2:2<=a₀.size){Q:Unit->SortSt->Prop}
 (hq:∀ st',SB κ a₀ st'->cO rk (arrOf st').toList->Q () st'):wpS (model prog w) A E s sortRuns' Q st:=by
 have hsz:∀{st':SortSt},SB κ a₀ st'->(arrOf st').toList.length=a₀.size:=fun B'=>by rw[B'.perm.length_eq];simp
 have hs0:(arrOf st).size=a₀.size:=by have:=hsz B;simpa using this
 rw[AS];refine MA (wpS_get ?_);rw[hs0];generalize minRun' a₀.size a₀.size 0=mr;refine MA (NU (NP (I:=fun i (c:Option Unit×Nat) st'=>c.1=none/\i<=c.2/\c.2<=a₀.size/\SB κ a₀ st'/\∃ D R,(arrOf st').toList=D++R/\D.length=c.2/\Ch rk (pm (pendingOf st').toList) 0 D)
  (Q:=fun c st'=>c.1=none/\SB κ a₀ st'/\Ch rk (pm (pendingOf st').toList) 0 (arrOf st').toList) ?_ ?_ ⟨rfl,ML _,ML _,B,[],(arrOf st).toList,rfl,rfl,by rw[hpe];rfl⟩) ?_)
 .rintro i ⟨r,lo⟩ st1 _ hi ⟨rfl,hlo,hlo2,B1,D,R,e1,hD,hc⟩;dsimp only at hlo hlo2 hD;have bJ:=hsz B1;rw[e1,MB]at bJ;unfold Ds;dsimp only;by_cases hge:lo>=a₀.size
  .rw[Mh hge];have:R=[]:=On.mp (by lia);subst this;exact MN ⟨rfl,B1,by rw[e1,Ob];exact hc⟩
  .rw[Mj hge];have rest:∀(n:Nat)(st2:SortSt)(X R2:List Keyed),0<n->X.length=n->cO rk X->SB κ a₀ st2->(arrOf st2).toList=D++X++R2->pendingOf st2=pendingOf st1->wpS (model prog w) A E s (vp a₀.size lo n) (fun r st'=>match r with
    | .done c'=>c'.1=none/\SB κ a₀ st'/\Ch rk (pm (pendingOf st').toList) 0 (arrOf st').toList
    | .yield c'=>c'.1=none/\i+1<=c'.2/\c'.2<=a₀.size/\SB κ a₀ st'/\∃ D R,(arrOf st').toList=D++R/\D.length=c'.2/\Ch rk (pm (pendingOf st').toList) 0 D) st2:=by
    intro n st2 X R2 n0 hX sX B2 e2 hp2;have l2:=hsz B2;rw[e2]at l2;simp only[MB]at l2;have push:∀(st3:SortSt)(D3:List Keyed),SB κ a₀ st3->(arrOf st3).toList=D3++(X++R2)->D3.length=lo->Ch rk (pm (pendingOf st3).toList) 0 D3->wpS (model prog w) A E s (do
     modify fun t=>setPending t ((pendingOf t).push (lo,n,0))
     pure (ForInStep.yield ((none,lo+n):Option Unit×Nat))) (fun r st'=>match r with
     | .done c'=>c'.1=none/\SB κ a₀ st'/\Ch rk (pm (pendingOf st').toList) 0 (arrOf st').toList
     | .yield c'=>c'.1=none/\i+1<=c'.2/\c'.2<=a₀.size/\SB κ a₀ st'/\∃ D R,(arrOf st').toList=D++R/\D.length=c'.2/\Ch rk (pm (pendingOf st').toList) 0 D) st3:=by
     intro st3 D3 B3 e3 l3 c3;refine MA (wpS_modify (MN ⟨rfl,by dsimp only;lia,by dsimp only;lia,⟨B3.perm,B3.kind,B3.fail⟩,D3++X,R2,by show(arrOf st3).toList=_;rw[e3];simp,by simp;lia,?_⟩));show Ch rk (pm ((pendingOf st3).push (lo,n,0)).toList) 0 (D3++X);rw[OE,show pm ((pendingOf st3).toList++[(lo,n,0)])=pm (pendingOf st3).toList++[(lo,n)] by simp[pm]];exact Ch.join c3 ⟨X,[],by simp,by lia,hX,n0,sX,rfl⟩
    unfold vp;refine MA (wpS_get ?_);cases hb:(pendingOf st2).back? with
    |none=>exact push st2 D B2 (by rw[e2];simp) hD (by rw[hp2];exact hc)
    |some b=>
     obtain⟨u,m,q⟩:=b;dsimp only;generalize power' a₀.size (2*u+m) (2*u+m+m+n) a₀.size=pw;refine MA (NU (NP (I:=fun _ (c:Option Unit×Unit) st'=>c.1=none/\SB κ a₀ st'/\∃ D3,(arrOf st').toList=D3++(X++R2)/\D3.length=lo/\Ch rk (pm (pendingOf st').toList) 0 D3)
      (Q:=fun c st'=>c.1=none/\SB κ a₀ st'/\∃ D3,(arrOf st').toList=D3++(X++R2)/\D3.length=lo/\Ch rk (pm (pendingOf st').toList) 0 D3) ?_ (fun c st' h=>h) ⟨rfl,B2,D,by rw[e2];simp,hD,by rw[hp2];exact hc⟩) ?_)
     .rintro j ⟨r,_⟩ st3 _ _ ⟨rfl,B3,D3,e3,l3,c3⟩;unfold ud;refine MA (wpS_get ?_);by_cases hp1:(pendingOf st3).size>1
      .rw[Mh hp1];have hg:∃ o,(pendingOf st3)[(pendingOf st3).size-2]?=some o:=⟨(pendingOf st3)[(pendingOf st3).size-2]'(by lia),by simp⟩;obtain⟨⟨o1,o2,o3⟩,ho⟩:=hg;rw[ho];dsimp only;by_cases ho3:o3<=pw
       .rw[Mh ho3];exact MN ⟨rfl,B3,D3,e3,l3,c3⟩
       .rw[Mj ho3];refine MA (m8 C B3 e3 c3 (by lia) fun D4 st4 B4 e4 l4 c4 _=>?_);rw[Mj (by simp)];exact MN ⟨rfl,B4,D4,e4,by lia,c4⟩
      .rw[Mj hp1];exact MN ⟨rfl,B3,D3,e3,l3,c3⟩
     .rintro⟨r,_⟩ st3 ⟨rfl,B3,D3,e3,l3,c3⟩;dsimp only;refine MA (wpS_modify ?_);refine push _ D3 ⟨B3.perm,B3.kind,B3.fail⟩ e3 l3 ?_;show Ch rk (pm ((pendingOf st3).modify ((pendingOf st3).size-1) fun x=>(x.1,x.2.1,pw)).toList) 0 D3;have:pm ((pendingOf st3).modify ((pendingOf st3).size-1) fun x=>(x.1,x.2.1,pw)).toList=pm (pendingOf st3).toList:=by
       unfold pm;apply N2
       intro k;rw[ME,ME,Mn,Mn,Array.getElem?_modify];by_cases hk:(pendingOf st3).size-1=k
       .rw[Mh hk];cases (pendingOf st3)[k]?<;>rfl
       .rw[Mj hk]
      rw[this];exact c3
   have hRl:R.length=a₀.size-lo:=by lia
   have cnt:=AR (E:=E) C Dn B1 e1 (by lia) (Q:=fun x st'=>∃ X R2,x=some X.length/\SB κ a₀ st'/\(arrOf st').toList=D++X++R2/\cO rk X/\1<=X.length/\pendingOf st'=pendingOf st1) fun X R2 st' b1 b2 b3 b4 b5=>⟨X,R2,rfl,b1,b2,b3,b4,b5⟩;rw[hD,hRl]at cnt;refine MA (NU cnt ?_);rintro x st2 ⟨X,R2,rfl,B2,e2,sX,n0,hp2⟩;dsimp only;have l2:=hsz B2;rw[e2]at l2;simp only[MB]at l2;by_cases hmr:X.length<mr
   .rw[Mh hmr];refine MA (ja ?_);have e2':(arrOf st2).toList=D++(X++R2).take (min (a₀.size-lo) mr)++(X++R2).drop (min (a₀.size-lo) mr):=by rw[e2,Mo,Mo,MP]
    have lf:((X++R2).take (min (a₀.size-lo) mr)).length=min (a₀.size-lo) mr:=by rw[MU,MB];lia
    have bin:=xO (E:=E) C B2 e2' (ok:=X.length) n0 (by lia) (by rw[List.take_take,PM (by lia),List.take_left];exact sX) (Q:=fun y st'=>∃ Z,y=true/\SB κ a₀ st'/\(arrOf st').toList=D++Z++(X++R2).drop (min (a₀.size-lo) mr)/\cO rk Z/\Z.length=min (a₀.size-lo) mr/\pendingOf st'=pendingOf st2) fun Z st' b1 b2 b3 b4 b5=>⟨Z,rfl,b1,b2,b3,by lia,b5⟩;rw[hD,lf]at bin;refine MA (NU bin ?_);rintro y st3 ⟨Z,rfl,B3,e3,sZ,lZ,hp3⟩;rw[Mj (by simp)];exact NU (rest _ st3 Z _ (by lia) lZ sZ B3 e3 (hp3.trans hp2)) fun r st' h=>by cases r<;>exact h
   .rw[Mj hmr];exact NU (rest _ st2 X R2 n0 rfl sX B2 e2 hp2) fun r st' h=>by cases r<;>exact h
 .rintro⟨r,lo⟩ st1 ⟨rfl,hlo,hlo2,B1,D,R,e1,hD,hc⟩;dsimp only at hlo hlo2 hD;have bJ:=hsz B1;rw[e1,MB]at bJ;have:R=[]:=On.mp (by lia);subst this;exact⟨rfl,B1,by rw[e1,Ob];exact hc⟩
 .rintro⟨r,lo⟩ st1 ⟨rfl,B1,hc1⟩;dsimp only;have hl0:=hc1.len;rw[hsz B1]at hl0;refine MA (NU (NP (I:=fun i (c:Option Unit×Unit) st'=>c.1=none/\SB κ a₀ st'/\Ch rk (pm (pendingOf st').toList) 0 (arrOf st').toList/\(pendingOf st').size+i<=a₀.size) (Q:=fun c st'=>c.1=none/\SB κ a₀ st'/\Ch rk (pm (pendingOf st').toList) 0 (arrOf st').toList/\(pendingOf st').size<=1) ?_ ?_ ⟨rfl,B1,hc1,by simpa[pm] using hl0⟩) ?_)
  .rintro i ⟨r,_⟩ st2 _ hi ⟨rfl,B2,c2,hz⟩;unfold Dt;refine MA (wpS_get ?_);by_cases h1:(pendingOf st2).size<=1
   .rw[Mh h1];exact MN ⟨rfl,B2,c2,h1⟩
   .rw[Mj h1];refine MA (m8 C B2 (D:=(arrOf st2).toList) (R:=[]) (by simp) c2 ?_ fun D' st3 B3 e3 l3 c3 hz3=>?_)
    .exact(show ∀(p:Prop) [Decidable p],(if p then (pendingOf st2).size-2-1 else (pendingOf st2).size-2)+1<(pendingOf st2).size from fun p _=>by split<;>lia) _
    .rw[Mj (by simp)];rw[Ob]at e3;exact MN ⟨rfl,B3,by rw[e3];exact c3,by lia⟩
  .rintro⟨r,_⟩ st2 ⟨rfl,B2,c2,hz⟩;exact⟨rfl,B2,c2,by lia⟩
  .rintro⟨r,_⟩ st2 ⟨rfl,B2,c2,hz⟩;dsimp only;refine MN (hq st2 B2 ?_);have hl:=hsz B2;cases hp:(pendingOf st2).toList with
   |nil=>rw[hp]at c2;have:(arrOf st2).toList=[]:=c2;rw[this];exact List.Pairwise.nil
   |cons x l=>
    have:l=[]:=by
     have h3:(pendingOf st2).toList.length<=1:=by simpa using hz
     rw[hp]at h3;simpa using h3
    subst this;rw[hp]at c2;obtain⟨X,Y,e4,_,_,_,sX,e5⟩:=c2;have e5:Y=[]:=e5;rw[e4,e5,Ob];exact sX
end
end TS
namespace L2
open PySem PySem.Spec PySem.Calls PyProof.Rows ST
def e7 (K:List (List Int))(k:List Int):Nat:=(K.filter fun j=>bE j k).length
theorem m9:∀{K:List (List Int)},(∀ x,p x=true->q x=true)->(K.filter p).length<=(K.filter q).length
 | [],_=>Mc _
 |x::K,h=>by
  have ih:=m9 (K:=K) h;rw[Pl,Pl];cases hp:p x with
  |true=>rw[h x hp];simpa using ih
  |false=>cases hq:q x<;>simp<;>lia
theorem kT:∀{K:List (List Int)},(∀ x,p x=true->q x=true)->z∈K->p z=false->q z=true->(K.filter p).length<(K.filter q).length
 | [],_,h,_,_=>by cases h
 |x::K,h,hz,h1,h2=>by
  have le:=m9 (K:=K) h;rw[Pl,Pl];rcases Mv.mp hz with rfl|hz
  .rw[h1,h2];simp;lia
  .have ih:=kT h hz h1 h2;cases hp:p x with
   |true=>rw[h x hp];simpa using ih
   |false=>cases hq:q x<;>simp<;>lia
theorem jZ {K:List (List Int)}(ha:a∈K)(hb:b∈K):bE a b=decide (e7 K a<e7 K b):=by
 have up:∀{a b:List Int},a∈K->bE a b=true->e7 K a<e7 K b:=fun{a b} ha h=>kT (fun x hx=>sk x a b hx h) ha (oo a) h;cases h:bE a b with
 |true=>rw[Mp (up ha h)]
 |false=>
  by_cases e:a=b
  .subst e;rw[My (Oj _)]
  .have:=up hb ((iz a b e).resolve_left (by rw[h];simp));rw[My (by lia)]
theorem qb {α β:Type}(f:α->β){l m:List β}(h:l.Perm m):∀ xs:List α,m=xs.map f->∃ ys:List α,ys.Perm xs/\l=ys.map f:=by
 induction h with
 |nil=>intro xs e;have:xs=[]:=List.map_eq_nil_iff.mp e.symm;subst this;exact⟨[],.refl _,rfl⟩
 |cons x _ ih=>
  intro xs e;cases xs with
  |nil=>cases e
  |cons y ys=>rw[MC]at e;obtain⟨rfl,e2⟩:=List.cons.inj e;obtain⟨zs,h1,h2⟩:=ih ys e2;exact⟨y::zs,h1.cons y,by rw[MC,h2]⟩
 |swap x y l=>
  intro xs e;cases xs with
  |nil=>cases e
  |cons a r=>
   cases r with
   |nil=>simp at e
   |cons b r=>simp only[MC,List.cons.injEq]at e;obtain⟨rfl,rfl,rfl⟩:=e;exact⟨b::a::r,List.Perm.swap _ _ _,rfl⟩
 |trans _ _ ih1 ih2=>intro xs e;obtain⟨ys,h1,h2⟩:=ih2 xs e;obtain⟨zs,h3,h4⟩:=ih1 ys h2;exact⟨zs,h3.trans h1,h4⟩
section
variable {prog:QR}{w:World}{A:QT}{E:QS->QP->Prop}{s:QP}
open Classical in
noncomputable def dP (xs:List dg)(p:Keyed):List Int:=if h:∃ x∈xs,p.1=Value.ref x.2 then h.choose.1 else []
noncomputable abbrev qV (x:dg):Keyed:=(Value.ref x.2,Value.ref x.2)
theorem gQ.same (t:gQ prog w h xs)(hx:x∈xs)(hy:y∈xs)(e:x.2=y.2):x.1=y.1:=by
 obtain⟨ox,ix,nx,h1,_,d1,l1⟩:=t.is x hx;obtain⟨oy,iy,ny,h2,_,d2,l2⟩:=t.is y hy;rw[e,h2]at h1;cases h1;rw[d2]at d1;cases d1;have:=ItemsAre.inj l1 l2;unfold iK at this;have inj:∀{a b:List Int},a.map (Sum.inl:Int->bh)=b.map Sum.inl->a=b:=by
  intro a;induction a with
  |nil=>intro b hb;cases b with
   |nil=>rfl
   |cons _ _=>cases hb
  |cons x r ih=>intro b hb;cases b with
   |nil=>cases hb
   |cons y q=>rw[MC,MC]at hb;rw[P8 (List.cons.inj hb).1,ih (List.cons.inj hb).2]
 exact inj this
theorem dG (t:gQ prog w h xs)(hx:x∈xs):dP xs (qV x)=x.1:=by have hex:∃ y∈xs,(qV x).1=Value.ref y.2:=⟨x,hx,rfl⟩;unfold dP;rw[dif_pos hex];have hc:=hex.choose_spec;have e:Value.ref x.2=Value.ref hex.choose.2:=hc.2;injection e with e;exact(t.same hx hc.1 e).symm
theorem xP (t:gQ prog w s.heap xs):TS.Cmp prog w A s (tuples' true) (xs.map qV) fun p=>e7 (xs.map (·.1)) (dP xs p):=by intro p hp q hq Q hQ;obtain⟨x,hx,rfl⟩:=Md.mp hp;obtain⟨y,hy,rfl⟩:=Md.mp hq;have hQ:Q (decide (e7 (xs.map (·.1)) (dP xs (qV x))<e7 (xs.map (·.1)) (dP xs (qV y)))) s:=hQ;rw[dG t hx,dG t hy,<- jZ (NQ hx) (NQ hy)]at hQ;obtain⟨ox,ix,nx,h1,c1,d1,l1⟩:=t.is x hx;obtain⟨oy,iy,ny,h2,c2,d2,l2⟩:=t.is y hy;refine PySem.W.kat_lt h1 d1 h2 d2 ?_;have:=oq (A:=A) 0 l1 l2 hQ;simpa using this
theorem sA {P:PySem.Fin->QP->Prop} (ho:s.heap.get? a=some (seqObj "list" (valsT xs).toArray n)) (t:gQ prog w s.heap xs) (hz:xs.length<=1000)
 (h:∀ ys h' c,ys.Perm xs->ys.Pairwise (fun x y=>bE x.1 y.1=true)->h'.get? a=some (seqObj "list" (valsT ys).toArray c)->(∀ b o,b≠a->s.heap.get? b=some o->h'.get? b=some o)->P (.done (.ret .none)) { s with heap:=h' }) :
 wpAny (model prog w) A (Builtin.«list.sort» ⟨[.ref a],[]⟩) P E s:=by
 have ha:a<s.heap.objs.size:=Mx ho;have hvl:(valsT xs).length=xs.length:=by simp[valsT]
 rw[list_sort_plain];refine KE (listItems_at ho rfl (KE (PJ ho rfl ?_ (by rw[Mi,hvl,MV];lia) (ML _))));obtain⟨e1,ho1⟩ : ∃ e1,(s.heap.update a (Obj.mapSeq fun _=>#[])).get? a=some (seqObj "list" #[] e1):=⟨_,PK ho (fun _=>#[])⟩;refine KE (Qq ho1 rfl (KE (wpAny_newTuple (KE (O6 (Nb ?_) (ML _))) (by show(valsT xs).length<=_;rw[hvl,MV];lia))));have oth:∀ b o,b≠a->s.heap.get? b=some o->(((s.heap.update a (Obj.mapSeq fun _=>(#[]:Array QS))).push (seqObj "tuple" (valsT xs).toArray 0)).push (seqObj "list" #[] 0)).get? b=some o:=fun b o hb e=>Mb _ (Mb _ ((NI _ _ (Ol hb)).trans e));have ho6:(((s.heap.update a (Obj.mapSeq fun _=>(#[]:Array QS))).push (seqObj "tuple" (valsT xs).toArray 0)).push (seqObj "list" #[] 0)).get? a=some (seqObj "list" #[] e1):=Mb _ (Mb _ ho1);show wpAny (model prog w) A _ P E { s with heap:=((s.heap.update a (Obj.mapSeq fun _=>(#[]:Array QS))).push (seqObj "tuple" (valsT xs).toArray 0)).push (seqObj "list" #[] 0) };generalize (((s.heap.update a (Obj.mapSeq fun _=>(#[]:Array QS))).push (seqObj "tuple" (valsT xs).toArray 0)).push (seqObj "list" #[] 0))=H6 at ho6 oth;dsimp only;have fin:∀(ys:List dg)(out:Array QS),ys.Perm xs->ys.Pairwise (fun x y=>bE x.1 y.1=true)->out=(valsT ys).toArray->P (.done (.ret .none)) { s with heap:=H6.update a (Obj.mapSeq fun _=>out) }:=fun ys out hp hw ho=>by subst ho;exact h ys _ _ hp hw (PK ho6 fun _=>(valsT ys).toArray) fun b o hb e=>(NI _ _ (Ol hb)).trans (oth b o hb e)
 have hzip:(valsT xs).toArray.zip (valsT xs).toArray=(xs.map qV).toArray:=by apply Array.ext';simp[valsT,List.zip_map']
 by_cases h2:(valsT xs).toArray.size<2
 .rw[Mh h2,Mh h2];refine KE (L_ ?_);rw[StateT.run_pure];have hx2:xs.length<2:=by rw[Mi,hvl]at h2;exact h2
  have hout:Array.map (fun x:Keyed=>x.2) ((valsT xs).toArray.zip (valsT xs).toArray)=(valsT xs).toArray:=by apply Array.ext';simp[List.map_snd_zip]
  refine KE (L_ ?_);dsimp only;refine KE (Qq ho6 rfl (KE (PJ ho6 rfl ?_ (ML _) ?_)))
  .simp only[OF,Mz,Nm];refine L_ (fin xs _ (Qy _) ?_ hout)
   match xs,hx2 with
   | [],_=>exact List.Pairwise.nil
   | [x],_=>exact N5 _ _
  .show(Array.map (fun x:Keyed=>x.2) ((valsT xs).toArray.zip (valsT xs).toArray)).size<=_;rw[hout,Mi,hvl,MV];lia
 .rw[Mj h2,Mj h2];have hx2:2<=xs.length:=by rw[Mi,hvl]at h2;lia
  have t6:gQ prog w H6 xs:=t.off ho rfl oth;refine KE (mZ (s:={ s with heap:=H6 }) t6 (by lia) ?_);have C:=xP (A:=A) (s:={ s with heap:=H6 }) t6;have hnd:(((xs.map qV).toArray).toList.map fun p=>e7 (xs.map (·.1)) (dP xs p)).Nodup:=by
   show(((xs.map qV)).map fun p=>e7 (xs.map (·.1)) (dP xs p)).Nodup;rw[Nf];unfold List.Nodup;rw[MQ];have nd:=t.nd;unfold List.Nodup at nd;rw[MQ]at nd;refine N1 (fun{x y} hx hy hne e=>?_) nd;have e:e7 (xs.map (·.1)) (dP xs (qV x))=e7 (xs.map (·.1)) (dP xs (qV y)):=e;rw[dG t hx,dG t hy]at e;have h1:=jZ (NQ (f:=(·.1)) hx) (NQ (f:=(·.1)) hy);have h2:=jZ (NQ (f:=(·.1)) hy) (NQ (f:=(·.1)) hx);rw[e,My (Oj _)]at h1;rw[e,My (Oj _)]at h2;rcases iz _ _ hne with q|q
   .rw[h1]at q;cases q
   .rw[h2]at q;cases q
  have run:=TS.t_runs (E:=E) (a₀:=(xs.map qV).toArray) (st:=SortSt.mk' (tuples' true) (xs.map qV).toArray #[] 7 none) C hnd ⟨.refl _,rfl,rfl⟩ rfl (by simp;exact hx2) (Q:=fun _ st'=>∃ ys:List dg,ys.Perm xs/\(arrOf st').toList=ys.map qV/\ys.Pairwise (fun x y=>bE x.1 y.1=true)/\failedOf st'=none) fun st' B sr=>by obtain⟨ys,hp,he⟩:=qb qV B.perm xs rfl;refine⟨ys,hp,he,?_,B.fail⟩;rw[he]at sr;unfold TS.cO at sr;rw[MQ]at sr;have nd:=(hp.map (·.1)).nodup_iff.mpr t.nd;unfold List.Nodup at nd;rw[MQ]at nd;refine(sr.and nd).imp_of_mem fun{x y} hx hy hh=>?_;have hx:=hp.subset hx;have hy:=hp.subset hy;obtain⟨h1,h2⟩:=hh;have h1:e7 (xs.map (·.1)) (dP xs (qV x))<=e7 (xs.map (·.1)) (dP xs (qV y)):=h1;rw[dG t hx,dG t hy]at h1;have h3:=jZ (NQ (f:=(·.1)) hy) (NQ (f:=(·.1)) hx);rw[My (by lia)]at h3;exact(iz _ _ h2).resolve_right (by rw[h3];simp)
  rw[hzip];refine KE (NC run ?_ fun _ _ e=>e);rintro⟨⟨⟩,st'⟩ s' ⟨rfl,ys,hp,he,hw,hf⟩;dsimp only at he hf ⊢;have hout:(arrOf st').map (·.2)=(valsT ys).toArray:=by apply Array.ext';rw[Array.toList_map,he,Nf];rfl
  rw[hout];refine KE (Qq ho6 rfl (KE (PJ ho6 rfl ?_ (ML _) ?_)))
  .rw[hf];simp only[OF,Mz,Nm];exact L_ (fin _ _ hp hw rfl)
  .show(valsT ys).toArray.size<=_;have:=hp.length_eq;simp[valsT,this];rw[MV];lia
end
section
theorem AT (T:lO t es)(sp:gV t)(h:Int)(x:QS):∃ j,j∉t.place.toList/\j<=t.mask/\Rea t.mask (·∈ t.place.toList) h j/\layNew t es h x=(SetTable.insertAt es (t.put j).2 (h,x),(t.put j).1,false,false):=by
 have hs:=eV sp;have pr:=kG T.tb hs (fun _=>h+1) h (Va.st t.mask h);have hst:t.probeStart h=st t.mask h:=rfl;generalize hp:t.probe (fun _=>h+1) h (st t.mask h)=m at pr;cases pr with
 |ca n i hi e q b=>exact absurd q (by lia)
 |em n e b=>
  have re:Rea t.mask (·∈ t.place.toList) h (it t.mask n (st t.mask h)).j:=⟨n,rfl,fun k hk=>by obtain⟨i,hi,q,_⟩:=b k hk;show _∈t.place.toList;rw[<- q];simp⟩;have hjm:(it t.mask n (st t.mask h)).j<=t.mask:=((Va.st t.mask h).it).KF;refine⟨_,e,hjm,re,?_⟩;obtain⟨T',em,ez⟩:=rZ T e hjm (v:=x) re;have hp1:(t.put (it t.mask n (st t.mask h)).j).2<=es.size:=by rw[jT,<- T.len];exact(cv _ T.tb.qQ).1
  have le':(t.put (it t.mask n (st t.mask h)).j).1.place.size<=(t.put (it t.mask n (st t.mask h)).j).1.mask:=by grind [gV]
  have hf:=lO.fits T' le';unfold layNew SetTable.freeSlot;rw[hst,hp];dsimp only[Option.getD,Option.isSome];unfold SetTable.orStandIn;rw[Mh hf,hf];rfl
theorem vq (hm:qU m)(hn:SetTable.sizeAbove n=m+1)(hl:es.size<=m):∃ es' t',relayAll t es n=(es',t',false)/\Laid m es es' t'/\t'.led=t.led/\t'.plain=t.plain:=by
 obtain⟨t',order,e,L,h1,h2,hp⟩:=pU hm es hl t.finger (t.movedTo m) t.led t.plain;refine⟨_,t',?_,L,h1,h2⟩;have er:t.relaid (es.map (·.1)) n=some (t',order):=by unfold SetTable.relaid;rw[hn];exact e
 unfold relayAll;rw[er];dsimp only;have hc:coversAll order es.size=true:=by unfold coversAll;exact List.isPerm_iff.mpr hp
 have hf:t'.fits (order.filterMap (es[·]?)).size=true:=lO.fits L.pc (by rw[L.pc.len,L.mask,L.size];exact hl);rw[hc,hf];rfl
end
section
theorem AU (hS:SetAt w s.heap a es)(el:ElemsOf (intKind prog w) es.toList)(hz:es.size+1<=1200)
 (h1:∀ tk,s.toks<=tk->(∃ e∈es.toList,(intKind prog w).is i e.2=true)->Q false { s with toks:=tk })
 (h2:∀ tk h' es',s.toks<=tk->(∀ e∈es.toList,(intKind prog w).is i e.2=false)->Heap.SameBut a s.heap h'->SetAt w h' a es'->jE es es' ((intKind prog w).hash i,.int i t0)->Q true { s with heap:=h',toks:=tk }) :
 wpAny (model prog w) A (setAdd a (.int i t0)) Q E s:=by
 obtain⟨o,ep,t,ho,hex,hd,T,sp,hpl,hle⟩:=hS;have hf:=lO.fits T (eV sp);have d7:=intKind_is prog w i t0;have hsc:(Value.int i t0).scannable=true:=rfl;unfold setAdd;refine Nb ?_;refine KE ((intKind prog w).pyHash (k:=i) d7 ?_);have htk:s.toks<=s.toks+1:=Nat.le_succ _;generalize s.toks+1=tk at htk;unfold setAddHashed setAddHashedIn;refine Nb (KE (NE (s:={ s with toks:=tk }) ho hd hf ?_));dsimp only;rw[byScan_of hsc (by unfold scanBound;lia) el];simp only[O_];unfold setAddByScan;refine KE ?_;refine KE (Pt ?_);refine KE (wpAny_setScan_of (s:={ s with toks:=tk }) d7 ho hd hf el ?_);cases hr:List.findIdx? (fun e=>(intKind prog w).is i e.2) es.toList with
 |some j=>dsimp only;obtain⟨hj,hpj,_⟩:=List.findIdx?_eq_some_iff_getElem.mp hr;exact L_ (L_ (h1 tk htk ⟨_,Po hj,hpj⟩))
 |none=>
  dsimp only;have hout:∀ e∈es.toList,(intKind prog w).is i e.2=false:=fun e he=>by have:=List.findIdx?_eq_none_iff.mp hr e he;simpa using this
  obtain⟨j,hj,hjm,re,hlay⟩:=AT T sp ((intKind prog w).hash i) (.int i t0);obtain⟨T',em,ez⟩:=rZ T hj hjm (v:=Value.int i t0) re;have hpl':(t.put j).1.plain=true:=by rw[ip T.tb];exact hpl
  have hle':(t.put j).1.led=!byT w:=by rw[ip T.tb];exact hle
  rw[hlay];dsimp only;refine KE (show wpAny _ _ (pure ()) _ _ _ from L_ ?_);rw[hpl'];simp only[O_];rw[hashByValue_scannable 8 hsc];refine KE (L_ ?_);rw[show plainKind (Value.int i t0)=true from rfl];simp only[O_];have hp:(t.put j).2<=es.size:=by rw[jT,<- T.len];exact(cv j T.tb.qQ).1
  have g:=mW es (t.put j).2 ((intKind prog w).hash i,Value.int i t0) hp;refine KE (P6 (s:={ s with toks:=tk }) ho hd ?_ (by rw[g.size,MV];lia));obtain⟨o1,q1,q2,q3⟩:=gD (SetTable.insertAt es (t.put j).2 ((intKind prog w).hash i,Value.int i t0)) (t.put j).1 ho hex hd;have sb:=M_ s.heap a (Obj.putSet (SetTable.insertAt es (t.put j).2 ((intKind prog w).hash i,Value.int i t0)) (t.put j).1);have fill:(t.put j).1.fill=es.size+1:=by unfold SetTable.fill;rw[T'.tb.Fv,ez,T.len];rfl
  by_cases hfull:(t.put j).1.tooFull=true
  .rw[hfull];simp only[Bool.not_false,QF,O_];unfold SetTable.tooFull at hfull;rw[fill,em]at hfull;have hfull:(es.size+1)*5>=t.mask*3:=by simpa using hfull
   have sp':es.size*5<t.mask*3:=by rw[<- T.len];exact sp
   obtain⟨m,m1,m2,m3⟩:=kJ T.tb.CB sp' hfull (by lia);rw[g.size];obtain⟨es',t',hra,L,l1,l2⟩:=vq (t:=(t.put j).1) (es:=SetTable.insertAt es (t.put j).2 ((intKind prog w).hash i,Value.int i t0)) m2 m1 (by rw[g.size];lia);rw[hra];dsimp only;refine KE (show wpAny _ _ (pure ()) _ _ _ from L_ ?_);refine KE (P6 q1 q3 ?_ (by rw[L.size,g.size,MV];lia));obtain⟨o2,r1,r2,r3⟩:=gD es' t' q1 q2 q3;refine L_ (L_ (h2 tk _ es' htk hout (sb.trans (M_ _ a _)) ⟨o2,_,_,r1,r2,r3,L.pc,?_,by rw[l2];exact hpl',by rw[l1];exact hle'⟩ (g.laid L)));unfold gV;rw[L.pc.len,L.mask,L.size,g.size];exact m3
  .have hfull:(t.put j).1.tooFull=false:=by simpa using hfull
   rw[hfull];simp only[P_,Mz,Nm];refine L_ (L_ (h2 tk _ _ htk hout sb ⟨o1,_,_,q1,q2,q3,T',?_,hpl',hle'⟩ g));unfold SetTable.tooFull at hfull;unfold gV;rw[fill]at hfull;rw[ez,T.len];simpa using hfull
end
section
noncomputable abbrev m_:=Int×Tok
noncomputable abbrev eI (prog:QR)(w:World)(x:m_):Int×QS:=((intKind prog w).hash x.1,.int x.1 x.2)
theorem isI:(intKind prog w).is k (.int j t)=true↔k=j:=by
 constructor
 .intro h;by_cases e:k=j
  .exact e
  .have h2:=intKind_is prog w j t;exact absurd ((intKind prog w).inj _ _ _ h h2) e
 .rintro rfl;exact intKind_is prog w k t
theorem F6:zR (eI prog w) its:=fun x _ y _ e=>by injection e with _ e;injection e
theorem AV:tZ prog w A hb S (eI prog w) its:=fun x xs s es Q E hx hs K hS v hz h1 h2=>by
 refine AU hS (fun e he=>?_) hz (fun tk t hin=>h1 tk t ?_) fun tk h' es' t hout sb sa g=>h2 tk h' es' t (fun hin=>?_) sb sa g
 .obtain⟨y,_,rfl⟩:=v.el e he;exact⟨⟨y.1,intKind_is prog w y.1 y.2,rfl⟩,rfl⟩
 .obtain⟨e,he,hh⟩:=hin;obtain⟨y,y1,rfl⟩:=v.el e he;exact⟨y,y1,(isI.mp hh).symm⟩
 .obtain⟨y,y1,y2⟩:=hin;obtain⟨z,z1,z2,z3⟩:=v.all y y1;have:=hout _ z3;rw[isI.mpr (z2.trans y2).symm]at this;cases this
end
section
theorem F7 (r:Vals (xs.map V.int) us):∃ its:List m_,its.map (·.1)=xs/\us=its.map fun z=>Value.int z.1 z.2:=by
 induction xs generalizing us with
 |nil=>cases r;exact⟨[],rfl,rfl⟩
 |cons x xs ih=>
  cases r with
  |cons q h=>obtain⟨t,rfl⟩:=q;obtain⟨its,rfl,rfl⟩:=ih h;exact⟨(x,t)::its,rfl,rfl⟩
theorem sB (hc:X.calm=true):bn X (.type "set") (fun vs H Q=>∃ l xs,vs=[.ref l]/\Rd H l (.lst (xs.map V.int))/\xs.length<=300/\∀ p es its,H p=none->its.map (·.1)=xs->cQ (eI X.prog X.w) es its->Q (.ref p) (upd H p (.ext fun h=>SetAt X.w h p es))):=by
 intro ac s σ H vs us Q I r h;obtain⟨l,xs,rfl,hl,hz,q⟩:=h;obtain⟨u,rfl,ru⟩:=fQ r;obtain rfl:u=Value.ref l:=ru;obtain⟨_,us,n,rv,hg⟩:=(show ObjOk X.prog X.w H s.heap l (.lst (xs.map V.int)) from hl.ok I.aJ);obtain⟨its,rfl,rfl⟩:=F7 rv;rw[Me]at hz;refine mX (ent:=eI X.prog X.w) (I.ok.hd hc) hg (its:=its) (by simp) (by simp;lia) (fun i v e=>?_) F6 AV fun h' tk es hS v hk=>?_
 .simp only[List.getElem?_toArray,ME,M5]at e;obtain⟨x,h1,h2⟩:=e;exact⟨x,h1,h2.symm⟩
 .refine⟨.ref s.heap.objs.size,_,I.laid (a:=s.heap.objs.size) (o:=.ext fun h=>SetAt X.w h s.heap.objs.size es) (t':=tk) (fun b o e=>hk b o (Mx e) e) (Mc _) ?_,rfl,q _ es its (I.aJ.fresh (Mc _)) rfl v⟩;exact⟨hS,(let ⟨o,_,_,e,_⟩:=hS;⟨o,e⟩),fun h1 h2 hs k=>SetAt.keep hs k⟩
end
noncomputable def valsN (zs:List m_):List QS:=zs.map fun z=>Value.int z.1 z.2
section
theorem qc:∀ zs:List m_,IntsAre (valsN zs) (zs.map (·.1))
 | []=>.nil
 |z::zs=>.cons _ _ (qc zs)
theorem nc {P:PySem.Fin->QP->Prop} (ho:s.heap.get? a=some (seqObj "list" (valsN zs).toArray n)) (nd:(zs.map (·.1)).Nodup) (hz:zs.length<=63)
 (h:∀ ys h' c,ys.Perm zs->ys.Pairwise (fun x y=>x.1<y.1)->h'.get? a=some (seqObj "list" (valsN ys).toArray c)->(∀ b o,b≠a->s.heap.get? b=some o->h'.get? b=some o)->P (.done (.ret .none)) { s with heap:=h' }) :
 wpAny (model prog w) A (Builtin.«list.sort» ⟨[.ref a],[]⟩) P E s:=by
 have hvl:(valsN zs).length=zs.length:=by simp[valsN]
 have at_:∀ k (hk:k<zs.length),cp (0,0) zs k=zs[k]:=fun k hk=>by simp[cp,hk]
 refine p5 (κ:=oneType') (lt:=fun i j=>decide ((cp (0,0) zs i).1<(cp (0,0) zs j).1)) ho (by lia) (fun H oth h2=>⟨fun Q q=>?_,⟨fun i=>by simp,fun i j k=>by grind,fun i j hi hj e=>?_⟩,fun i j C hi hj q=>?_⟩) fun p h' c pm so e k=>?_
 .have hkind:keyKind' (valsN zs).toArray=pure oneType':=by
   match zs,(show 2<=zs.length by lia) with
   |z1::z2::r,_=>exact keyKind_ints (qc (z1::z2::r))
  rw[hkind];exact L_ q
 .rw[hvl]at hi hj;rw[at_ i hi,at_ j hj];rcases PC e with q|q
  .have:=MG.mp nd i j (by grind) (by grind) q;grind
  .have:=MG.mp nd j i (by grind) (by grind) q;grind
 .rw[hvl]at hi hj;unfold PySem.W.kas_ask;have one:∀ k (hk:k<zs.length),(valsN zs).getD k Value.none=.int zs[k].1 zs[k].2:=fun k hk=>by simp[valsN,hk]
  rw[one i hi,one j hj,keyLt'_oneType];dsimp only at q;rw[at_ i hi,at_ j hj]at q;exact oneLt_int q
 .rw[hvl]at pm so;refine h (p.toList.map (cp (0,0) zs)) h' c (m5 _ pm) ((ua (r:=fun x y=>decide (x.1<y.1)) pm so).imp fun h=>ND h) ?_ k;rw[e];unfold valsN;rw[pZ (0,0) pm]
end
section
theorem jb:∀ ys:List m_,Vals (ys.map fun y=>V.int y.1) (valsN ys)
 | []=>.nil
 |y::ys=>.cons ⟨y.2,rfl⟩ (jb ys)
theorem l9 (hc:X.calm=true):bn X (.builtin "sorted") (fun vs H Q=>∃ p es its,vs=[.ref p]/\H p=some (.ext fun h=>SetAt X.w h p es)/\cQ (eI X.prog X.w) es its/\its.length<=63/\
 ∀(l:Addr)(ks:List Int),H l=none->(∀ k,k∈ks↔k∈its.map (·.1))->ks.Pairwise (·< ·)->Q (.ref l) (upd H l (.lst (ks.map V.int)))):=by
 intro ac s σ H vs us Q I r h;obtain⟨p,es,its,rfl,hp,v,hz,q⟩:=h;obtain⟨u,rfl,ru⟩:=fQ r;obtain rfl:u=Value.ref p:=ru;obtain⟨hS,_,_⟩:=(show ObjOk X.prog X.w H s.heap p (.ext fun h=>SetAt X.w h p es) from I.aJ p _ hp);refine iA hS v F6 (I.ok.hd hc) (by decide) (lt:=(·< ·)) (fun A E s a n zs P _ ho _ nd hz h=>nc ho nd hz h) hz fun ys h' tk l c so hyl hle hl hk=>?_;have em:(ys.map (·.1)).map V.int=ys.map fun y=>V.int y.1:=by rw[Nf];rfl
 refine⟨.ref l,_,I.laid (a:=l) (o:=.lst ((ys.map (·.1)).map V.int)) (t':=tk) hk hle ?_,rfl,q l (ys.map (·.1)) (I.aJ.fresh hle) (fun k=>?_) (MQ.mpr so.pw)⟩
 .rw[em];exact⟨by rw[Me,MV];lia,valsN ys,c,jb ys,hl⟩
 .constructor
  .intro hk;obtain⟨y,hy,rfl⟩:=Md.mp hk;exact Md.mpr ⟨y,so.sub y hy,rfl⟩
  .intro hk;obtain⟨x,hx,rfl⟩:=Md.mp hk;obtain⟨y,y1,y2⟩:=so.all x hx;exact Md.mpr ⟨y,y1,y2⟩
end
end L2
namespace L2
open PySem PySem.Spec PySem.Calls PyProof.Rows
section
theorem Du {k:List bh}{dflt:QS}{Q:QS->QP->Prop}(hu:A.units<cLine)(d7:(tK prog w).is s.heap k a)(hm:s.heap.DictOfH (tK prog w) d xs)(hsz:xs.length<=sizeLine)
 (h1:∀ p,atKey xs k=some p->Q p.2 { s with toks:=s.toks+(tK prog w).draws k })
 (h2:atKey xs k=none->∀ h',h'.DictOfH (tK prog w) d (storedH xs k a dflt)->Heap.SameBut d s.heap h'->Q dflt { s with heap:=h',toks:=s.toks+(tK prog w).draws k }):wpAny (model prog w) A (dictSetDefault d (.ref a) dflt) Q E s:=by
 obtain⟨o,es,ep,ho,hc,hd,he,his,hn⟩:=hm;unfold dictSetDefault
 try with_reducible refine Nb ?_
 refine KE ((tK prog w).pyHash hu d7 (KE (wpAny_dictFind_heap (knd:=tK prog w) (s:={ s with toks:=s.toks+(tK prog w).draws k }) hu d7 ho hd he his hn (fun hno=>?_) fun j p hj=>?_)))
 .have hnone:=atKey_none_of_get hno;have hnot:k∉xs.map (·.1):=not_mem_keys_of_get hno;refine KE (Pt (KE (wpAny_updateDictKeys (hz:=by have e:=size_of_entries he;lia) (s:={ s with toks:=s.toks+(tK prog w).draws k }) ho hd (L_ (h2 hnone _ ⟨_,_,ep+1,NO _ ho (Obj.isFreed_of_dict (Pa hd _)),hc.mapDictKeys _,Pa hd _,?_,?_,?_⟩ (M_ ..))))))
  .rw[storedH_new hnone];simp[he,entryOfKey]
  .rw[storedH_new hnone];intro x hx;rcases MO.mp hx with hx|hx
   .exact(tK prog w).keeps (his x hx) ho hd (M_ ..)
   .obtain rfl:=MH.mp hx;exact(tK prog w).keeps d7 ho hd (M_ ..)
  .rw[storedH_new hnone,M8,NT];exact⟨hn,by simp,fun x hx y hy e=>by simp only[MC,QM,MH]at hy;subst hy;exact hnot (e▸hx)⟩
 .refine KE (Oq (s:={ s with toks:=s.toks+(tK prog w).draws k }) ho hd ?_);rw[entry_at he j,hj];exact KE (Pt (L_ (h1 p (atKey_of_get hn hj))))
end
section
def AW:V->List V->Hp->VK->Prop:=fun x xs H Q=>∃ a b k y kvs,x=.ref a/\xs=[.ref b,y]/\H b=some (.tup (k.map kV))/\H a=some (.dT kvs)/\kvs.length<sizeLine/\
 ((∃ v,bP kvs k=some v/\Q v H)\/(bP kvs k=none/\Q y (upd H a (.dT (b7 kvs k y)))))
theorem ng (hu:X.A.units+64<cLine):FN X "dict.setdefault" AW:=by
 intro ac s σ H x xs v us Q I rx rs q;obtain⟨a,b,k,y,kvs,rfl,rfl,hb,ha,hz,q⟩:=q;obtain rfl:v=Value.ref a:=rx;obtain⟨u1,u2,rfl,ru1,ru2⟩:=mI rs;obtain rfl:u1=Value.ref b:=ru1;obtain⟨z1,y1,vs,r1,d1⟩:=B8 I.aJ ha;have d7:=cG I.aJ hb;have hT:Shared.TypeIs s (.ref a) "dict":=by obtain⟨o,es,ep,ho,hc,_⟩:=d1;exact⟨o,ho,hc.1⟩
 refine M3 Nq hT Qi ?_ (Qd _ _ _);unfold Builtin.«dict.setdefault»;refine KE ?_;unfold Builtin.Dict.keyAndDefault;refine KE (Ov hT (show wpAny _ _ (pure (a,Value.ref b,some u2)) _ _ s from L_ ?_));show wpAny _ _ (if (a==sysModules)=true then _ else (dictSetDefault a (Value.ref b) u2 >>= _)) _ _ s;rw[Mj (by grind)];have bJ:vs.length<=sizeLine:=by rw[<- O1 r1];exact z1
 have rv:=r1.val k;refine KE (Du (by grind) d7 d1 bJ (fun p hp=>?_) fun hn0 h' dd' hs=>?_)
 .rcases q with⟨v,hv,q⟩|⟨hv,q⟩
  .have:RelO (some v) (some p.2):=by rw[<- hv];rw[hp]at rv;exact rv
   exact L_ ⟨_,rfl,v,H,I.tok _,this,q⟩
  .have:=rv.cB;rw[hv,hp]at this;cases this
 .rcases q with⟨v,hv,q⟩|⟨hv,q⟩
  .have:=rv.cB;rw[hv,hn0]at this;cases this
  .obtain⟨o',es,ep,hq,h2,h3,h4,_,h5⟩:=dd';have hl:(b7 kvs k y).length<=sizeLine:=by have:=dc kvs k y;lia
   have aJ:ObjOk X.prog X.w (upd H a (.dT (b7 kvs k y))) h' a (.dT (b7 kvs k y)):=by refine⟨hl,y1,_,(r1.put k hb ru2).keeps fun c ys ec=>?_,o',es,ep,hq,h2,h3,h4,h5⟩;rw[aA (wB ec ha (fun z=>nomatch z))];exact ec
   exact L_ ⟨_,rfl,y,_,ig (t':=s.toks+(tK X.prog X.w).draws k) I (by rw[ha];exact True.intro) hs ⟨o',hq⟩ aJ,ru2,q⟩
def sC:V->List V->Hp->VK->Prop:=fun x xs H Q=>∃ a b k y kvs,x=.ref a/\xs=[.ref b,y]/\H b=some (.tup (k.map kV))/\(H a=some (.dT kvs)\/(H a=some (.dK [])/\kvs=[]))/\kvs.length<sizeLine/\
 ((∃ v,bP kvs k=some v/\Q v H)\/(bP kvs k=none/\Q y (upd H a (.dT (b7 kvs k y)))))
theorem qd (hu:X.A.units+64<cLine):FN X "dict.setdefault" sC:=by
 intro ac s σ H x xs v us Q I rx rs q;obtain⟨a,b,k,y,kvs,e1,e2,hb,ha,hz,q⟩:=q;rcases ha with ha|⟨ha,rfl⟩
 .exact ng hu ac s σ H x xs v us Q I rx rs ⟨a,b,k,y,kvs,e1,e2,hb,ha,hz,q⟩
 .have nba:b≠a:=wB hb ha (fun z=>nomatch z);refine ng hu ac s σ (upd H a (.dT [])) x xs v us Q (I.JZ ha) rx rs ⟨a,b,k,y,[],e1,e2,by rw[aA nba];exact hb,ah,hz,.inr ?_⟩;rcases q with⟨v,hv,q⟩|⟨hv,q⟩
  .cases hv
  .have:upd (upd H a (.dT [])) a (.dT (b7 [] k y))=upd H a (.dT (b7 [] k y)):=by
    funext c;by_cases h:c=a
    .subst h;rw[ah,ah]
    .rw[aA h,aA h,aA h]
   exact⟨hv,by grind⟩
end
def RawD (h:Heap)(d:Addr)(es:Array DictEntry)(ep:Nat):Prop:=∃ o,h.get? d=some o/\o.ExactDict/\o.data=.dict es ep
section
variable {prog:QR}{w:World}{A:QT}{s:QP}{d v it:Addr}{es:Array DictEntry}{ep i:Nat}{ok ov:QS}
theorem RawD.ty (m:RawD s.heap d es ep):s.TypeIs (.ref d) "dict":=let ⟨o,h,c,_⟩:=m;⟨o,h,c.1⟩
theorem oA (d:Addr)(hd:(d==sysModules)=false) :
 MeetsIn prog w (Builtin.«dict.items» ⟨[.ref d],[]⟩) (fun _ R s=>(∃ es ep,RawD s.heap d es ep)/\R (.ok (.ret (.ref s.heap.objs.size))) { s with heap:=s.heap.push { cls:=.type "dict_items",data:=.fields #[.ref d] } }):=
 .of_wp fun A R s ⟨⟨es,ep,m⟩,h⟩=>by unfold Builtin.«dict.items» Builtin.Dict.noArgs;refine KE (KE (Ov m.ty (L_ ?_)));show wpAny _ _ (Builtin.Dict.showsAll d >>= _) _ _ s;unfold Builtin.Dict.showsAll;rw[Mj (by rw[hd];simp)];exact KE (L_ (KE (Nc (L_ ⟨_,rfl,h⟩))))
theorem qe (hv:s.heap.IsItemsView v d)(m:RawD s.heap d es ep)
 (hQ:Q (.ref s.heap.objs.size) { s with heap:=s.heap.push { cls:=.type "dict_itemiterator",data:=.fields #[.none,.bool false,.ref d,.int 0 0,.int es.size 0,.int ep 0,.none,.none] } }) :
 wpAny (model prog w) A (pyIter (.ref v)) Q E s:=by
 obtain⟨vo,e1,_,e2⟩:=id hv;obtain⟨o,ho,_,hd⟩:=id m;refine O5 hv.typeIs F.slot_dict_items_iter (M3 F.slot_dict_items_iter hv.typeIs F.entry_dict_items_iter ?_ (F.args_dict_items_iter_1 _));unfold Builtin.«dict_items.__iter__» Builtin.Dict_items.dictOf Builtin.Dict_items.newIterator;refine KE (L_ (KE (KE (PY e1 e2 (x:=.ref d) rfl (L_ (KE (KE (Oq ho hd (KE (PQ ho hd ?_))))))))));simp only[show Builtin.Dict_items.ownsTuple "dict_itemiterator"=true by decide,O_];refine Nc (L_ ⟨_,rfl, "dict_itemiterator",_,⟨_,Mm _ rfl,rfl⟩,NB.lookup,?_⟩)
  (by simp only[sizeOk,Builtin.Dict_items.ownedTupleFields,Mi,MB,Nl,Qp,MV];lia)
 simpa[rawInt,Builtin.Dict_items.ownedTupleFields] using hQ
theorem qf (hh:A.handled=none)(y:IsItemIter s.heap it d i es.size ep ok ov)(m:RawD s.heap d es ep)(hi:es.size<=i)(hQ:∀ h',Heap.ExtBut it s.heap h'->Q none { s with heap:=h' }):wpAny (model prog w) A (pyNext (.ref it)) Q E s:=by
 obtain⟨o,ho,_,hd⟩:=id m;have hT:s.TypeIs (.ref it) "dict_itemiterator":=⟨_,y,rfl⟩;unfold pyNext;refine KE (PF (NA (name:=Str.ofString "__next__") hT NB (M3 NB hT F.entry_dict_itemiterator_next ?_ (F.args_dict_itemiterator_next_1 _))));refine KE (L_ (KE (KE ?_)))
 first|refine KE (Od hT (L_ ?_))|refine KE (Oy hT (L_ ?_))
 refine KE (Qz y rfl ?_);simp only[show Builtin.Dict_items.ownsTuple "dict_itemiterator"=true by decide,O_];show wpAny _ _ (if (Value.ref d==Value.none)=true then _ else _) _ _ s;rw[Mj (show ¬ ((Value.ref d==Value.none)=true) from MF)];refine KE (L_ (KE (Oq ho hd ?_)));rw[Mj (by simp)];refine KE (L_ (KE (PQ ho hd ?_)));rw[Mj (by simp)];refine L_ ?_;simp only[show ¬ ((i:Int)<0) from by lia,Nm,O3,Array.getElem?_eq_none hi];refine KE ?_
 first|refine KE (Od hT (L_ ?_))|refine KE (Oy hT (L_ ?_))
 show wpAny _ _ (setField (.ref it) 2 .none >>= _) _ _ s;refine KE (Ph y rfl (by simp) ?_);show wpAny _ _ (newExc (.type "StopIteration") [] >>= _) _ _ _;refine KE ?_;simp only[newExc,newTuple];refine KE (Nc ?_ (by size_fits));refine KE (m:=firstArgMember _ _) (wpAny_of_eq (a:=Value.none) (by first|rfl|(simp only[firstArgMember];rfl)) ?_);refine Nc ?_ (by size_fits);simp only[raiseNew];refine KE (wpAny_handled ?_);rw[show A.in1.handled=none from hh];refine KE (L_ (wpAny_throw ?_));refine KE (ON (T:="StopIteration") (b:=true) ⟨_,Mm _ rfl,rfl⟩ isSubtype_stop ?_);exact L_ (hQ _ (((M_ ..).extBut.push _).push _))
theorem sD (y:IsItemIter s.heap it d i es.size ep ok ov)(m:RawD s.heap d es ep)(he:es[i]?=some e)
 (hQ:∀ h',IsItemIterOut h' it d (i+1) es.size ep e.key e.val s.heap.objs.size->h'.get? s.heap.objs.size=some { cls:=.type "tuple",data:=.seq #[e.key,e.val] }->
   (∀ b o,b≠it->s.heap.get? b=some o->h'.get? b=some o)->Q (some (.ref s.heap.objs.size)) { s with heap:=h' }):wpAny (model prog w) A (pyNext (.ref it)) Q E s:=by
 obtain⟨hp,g,dr,tk,os⟩:=s;obtain⟨o,ho,_,hd⟩:=id m;have hT:Shared.TypeIs ⟨hp,g,dr,tk,os⟩ (.ref it) "dict_itemiterator":=⟨_,y,rfl⟩;have hil:hp.objs.size≠it:=OH (Mx y);unfold pyNext;refine KE (PF (NA (name:=Str.ofString "__next__") hT NB (M3 NB hT F.entry_dict_itemiterator_next ?_ (F.args_dict_itemiterator_next_1 _))));refine KE (L_ (KE (KE ?_)))
 first|refine KE (Od hT (L_ ?_))|refine KE (Oy hT (L_ ?_))
 refine KE (Qz y rfl ?_);simp only[show Builtin.Dict_items.ownsTuple "dict_itemiterator"=true by decide,O_];show wpAny _ _ (if (Value.ref d==Value.none)=true then _ else _) _ _ _;rw[Mj (show ¬ ((Value.ref d==Value.none)=true) from MF)];refine KE (L_ (KE (Oq ho hd ?_)));rw[Mj (by simp)];refine KE (L_ (KE (PQ ho hd ?_)));rw[Mj (by simp)];refine L_ ?_;simp only[show ¬ ((i:Int)<0) from by lia,Nm,O3,he];refine KE ?_
 first|refine KE (Od hT (L_ ?_))|refine KE (Oy hT (L_ ?_))
 refine KE (PV hT ?_);show wpAny _ _ (setField (.ref it) 3 (rawInt ((i:Int)+1)) >>= _) _ _ ⟨hp,g,dr,tk,os⟩;refine KE (OW y (by simp) fun h1 y1 s1=>?_);replace s1:Heap.SameBut it hp h1:=s1;replace y1:IsItemIter h1 it d (i+1) es.size ep ok ov:=by
  have q:((i+1:Nat):Int)=(i:Int)+1:=by lia
  unfold IsItemIter;rw[q];simpa[rawInt] using y1
 have hT1:Shared.TypeIs ⟨h1,g,dr,tk,os⟩ (.ref it) "dict_itemiterator":=⟨_,y1,rfl⟩;refine KE (Nb (KE (PV hT1 (KE (PV hT1 ?_)))));show wpAny _ _ (Builtin.Dict_items.pairFromOwner (.ref it) 6 e.key e.val) _ _ ⟨h1,g,dr,tk,os⟩;unfold Builtin.Dict_items.pairFromOwner;refine KE (wpAny_newTuple ?_);have y2:IsItemIter (h1.push { cls:=.type "tuple",data:=.seq #[e.key,e.val] }) it d (i+1) es.size ep ok ov:=Mb _ y1;have t2:(h1.push { cls:=.type "tuple",data:=.seq #[e.key,e.val] }).get? hp.objs.size=some { cls:=.type "tuple",data:=.seq #[e.key,e.val] }:=by rw[<- s1.1];exact Mm _ rfl
 have k2:∀ b o,b≠it->hp.get? b=some o->(h1.push { cls:=.type "tuple",data:=.seq #[e.key,e.val] }).get? b=some o:=fun b o n q=>Mb _ (s1.extBut b o n q);have z1:h1.objs.size=hp.objs.size:=s1.1;generalize h1.push { cls:=.type "tuple",data:=.seq #[e.key,e.val] }=h2 at y2 t2 k2;show wpAny _ _ (Builtin.Dict_items.ownedTupleIsFree (.ref it) >>= _) _ _ ⟨h2,g,dr,tk,os⟩;rw[z1];clear y1 s1 hT1 z1 h1;refine KE ?_;unfold Builtin.Dict_items.ownedTupleIsFree;refine KE (PY y2 rfl (x:=.none) rfl (L_ ?_));simp only[O_];refine KE (PY y2 rfl (x:=ok) rfl (KE (PY y2 rfl (x:=ov) rfl ?_)));refine KE (OW y2 (by simp) fun h3 y3 s3=>?_);replace y3:IsItemIter h3 it d (i+1) es.size ep e.key ov:=y3;refine KE (OW y3 (by simp) fun h4 y4 s4=>?_);replace y4:IsItemIter h4 it d (i+1) es.size ep e.key e.val:=y4;refine KE (OW y4 (by simp) fun h5 y5 s5=>?_);replace y5:IsItemIterOut h5 it d (i+1) es.size ep e.key e.val hp.objs.size:=y5;refine KE (OW y5 (by simp) fun h6 y6 s6=>?_);replace y6:IsItemIterOut h6 it d (i+1) es.size ep e.key e.val hp.objs.size:=y6;have up:∀ b o,b≠it->h2.get? b=some o->h6.get? b=some o:=fun b o n q=>Pp (show Heap.SameBut it h5 h6 from s6) b o n (Pp (show Heap.SameBut it h4 h5 from s5) b o n (Pp (show Heap.SameBut it h3 h4 from s4) b o n (Pp (show Heap.SameBut it h2 h3 from s3) b o n q)));exact KE (wpAny_letGo (L_ (L_ ⟨_,rfl,L_ (hQ h6 y6 (up _ _ hil t2) fun b o n q=>up b o n (k2 b o n q))⟩)))
end
theorem sF {P:QR}{w:World}{K:QQ}{es:List Expr}{k0:Nat}{pos:Pos}{J:It}{d it:Addr}{o:Obj}{u:HO}{en:Array DictEntry}{ep:Nat}(hex:o.ExactDict)(hdat:o.data=.dict en ep)(hgo:∀ i H,J.go i H->H d=some (.bQ o u))(hst:∀ i H,J.stop i H->H d=some (.bQ o u)/\en.size<=i)
 (hent:∀ H h,HOk P w H h->∀ i,J.go i H->∃ e y v,en[i]?=some e/\RelV y e.key/\RelV v e.val/\∀ p,H p=none->J.tD i H (.ref p) (upd H p (.tup [y,v]))) :
 Turn P w K (.Tuple es k0 pos) J [it] it (fun i h=>∃ ok ov,IsItemIter h it d i en.size ep ok ov) where
 mem:=by simp
 obj:=fun i h st b hb=>by
  have e:b=it:=by simpa using hb
  subst e;obtain⟨ok,ov,e⟩:=st;exact⟨_,e,fun v z=>by cases z⟩
 keep:=fun i h h' st k=>by obtain⟨ok,ov,e⟩:=st;exact⟨ok,ov,k it (by simp) _ e⟩
 item:=by
  intro X hP hw hK hc i ac s σ H E I hf st hg;subst hP hw hK;have hd:=hgo i H hg;obtain⟨ok,ov,st⟩:=st;obtain⟨eo,_⟩:=(show ObjOk X.prog X.w H s.heap d (.bQ o u) from I.aJ d _ hd);obtain⟨e,y,v,he,ry,rv,hy⟩:=hent H s.heap I.aJ i hg;have fi:=hf it (by simp);refine sD st ⟨o,eo,hex,hdat⟩ he fun h' hout hT kp=>?_;refine⟨_,rfl,wpAny_letOwnedTupleGo_items hout fun h'' hit'' hs''=>?_⟩;have keep2:∀ b o,b≠it->s.heap.get? b=some o->h''.get? b=some o:=fun b o n1 q=>(hs''.2 b n1).trans (kp b o n1 q);have hTe:s.heap.objs.size≠it:=OH (Mx st);have hT'':h''.get? s.heap.objs.size=some { cls:=.type "tuple",data:=.seq #[e.key,e.val] }:=(hs''.2 _ hTe).trans hT;have fr:=I.aJ.fresh (Mc _);have I1:Inv X ac σ (upd H s.heap.objs.size (.tup [y,v])) { s with heap:=h'' }:=by
   refine I.step (g':=s.gens) (d':=s.drawn) (ch:=[it]) (fun b hb=>?_) (fun b o _ _ hn q _=>keep2 b o (fun z=>hn (by simp[z])) q)
    (fun b o _ _ hn q _=>⟨o.slots,keep2 b o (fun z=>hn (by simp[z])) q⟩) (fun b o _ q hH=>by rw[aA (MS (Mx q))];exact hH)
    (fun b o hn q=>⟨o,keep2 b o (fun z=>hn (by simp[z])) q⟩) (fun b ys q=>by rw[aA (aB q fr)];exact q)
    (fun b o' u' q=>by rw[aA (aB q fr)];exact q) (fun b ps q=>⟨#[],by rw[aA (aB q fr)];simp[q]⟩) (fun m hm=>?_) (fun b u' q=>?_) I.bare
   .have:b=it:=by simpa using hb
    subst this;exact⟨fi.2.2.2.1,fi.2.1,fi.2.2.2.2.1,fi.2.2.2.2.2⟩
   .obtain⟨o,es',ep,ho',r⟩:=hm;exact⟨o,es',ep,keep2 _ o (Ol fi.2.1) ho',r⟩
   .by_cases hb:b=s.heap.objs.size
    .subst hb;rw[ah]at q;cases q;exact⟨by show 2<=sizeLine;decide,[e.key,e.val],.cons ry (.cons rv .nil),⟨_,hT'',rfl,0,rfl⟩⟩
    .rw[aA hb]at q;refine(I.aJ b u' q).stay (fun c v hc' q'=>keep2 c v ?_ q') (fun c r=>by rw[aA (aB r fr)];exact r) fun c ys r=>by rw[aA (aB r fr)];exact r
     rcases hc' with z|z
     .rw[z];exact aB q fi.1
     .exact aB z fi.1
  refine⟨.ref s.heap.objs.size,_,I1,rfl,hy _ fr,⟨_,_,hit''⟩,fun b hb=>?_⟩;have:b=it:=by simpa using hb
  subst this;rw[aA (MS (Mx st))];exact fi.1
 done:=by intro X hP hw hK hc i ac s σ H E I hf st hg;subst hP hw hK;obtain⟨hd,hi⟩:=hst i H hg;obtain⟨ok,ov,st⟩:=st;obtain⟨eo,_⟩:=(show ObjOk X.prog X.w H s.heap d (.bQ o u) from I.aJ d _ hd);obtain⟨f0,f1,f2,f3,f4,f5⟩:=hf it (by simp);exact qf (I.ok.hd hc) st ⟨o,eo,hex,hdat⟩ (by lia) fun h' eb=>⟨rfl,I.turned (t':=s.toks) (fun b o hb e=>eb b o hb e) f0 f1 f3 f4 f5⟩
 self:=fun A i s Q E st h=>by obtain⟨ok,ov,st⟩:=st;have hT:s.TypeIs (.ref it) "dict_itemiterator":=⟨_,st,rfl⟩;refine O5 hT F.slot_dict_itemiterator_iter (M3 F.slot_dict_itemiterator_iter hT (entryFor_alias (id':="dict_keyiterator.__iter__") (by kernel_rfl) rfl (by decide +kernel) (by kernel_rfl):entryFor table "dict_itemiterator.__iter__"=some Builtin.«dict_keyiterator.__iter__») ?_ (F.args_dict_itemiterator_iter_1 _));show wpAny _ _ (ret (.ref it)) _ _ s;exact L_ ⟨_,rfl, "dict_itemiterator",_,hT,NB.lookup,h⟩
section
theorem vt {R:It->Hp->Prop}(I2:Inv X ac σ H2 s1)(e2:H2 d=some (.bQ o u))(hd:(d==sysModules)=false)(hex:o.ExactDict)(hdat:o.data=.dict en ep)(hgo:∀ i H,J.go i H->H d=some (.bQ o u))(hst:∀ i H,J.stop i H->H d=some (.bQ o u)/\en.size<=i)
 (hent:∀ H h,HOk X.prog X.w H h->∀ i,J.go i H->∃ e y v,en[i]?=some e/\RelV y e.key/\RelV v e.val/\∀ p,H p=none->J.tD i H (.ref p) (upd H p (.tup [y,v]))) (q2:R J H2) :
 MethodOn X.prog X.w X.A "items" cpos (.ref d) [] (fun v s1=>wX X (pyIter v) (FG X ac σ (.Tuple es k0 Hv) R) X.xe s1) X.xe s1:=by
 obtain⟨eo,_⟩:=(show ObjOk X.prog X.w H2 s1.heap d (.bQ o u) from I2.aJ d _ e2);have hty:s1.TypeIs (.ref d) "dict":=⟨o,eo,hex.1⟩;have hnod:∀ a,Value.ref d=.ref a->∃ ob,s1.heap.get? a=some ob/\ob.dict=none:=fun a e=>by cases e;exact⟨o,eo,hex.2.1⟩
 refine⟨"dict", "dict.items",NS,PySem.F.slot_dict_items,PySem.F.type_dict_items,hty,hnod,OS rfl (PySem.evalArgs_none ?_)⟩;refine call_meetsIn PySem.F.slot_dict_items hty PySem.F.entry_dict_items (PySem.F.args_dict_items_1 _) (oA d hd) ⟨⟨en,ep,o,eo,hex,hdat⟩,?_⟩;have I3:Inv X ac σ H2 { s1 with heap:=s1.heap.push { cls:=.type "dict_items",data:=.fields #[.ref d] } }:=I2.kept (t':=s1.toks) fun b o e=>Mb _ e;have e3:({ s1 with heap:=s1.heap.push { cls:=.type "dict_items",data:=.fields #[.ref d] } }:QP).heap.get? d=some o:=Mb _ eo;generalize hs3:({ s1 with heap:=s1.heap.push { cls:=.type "dict_items",data:=.fields #[.ref d] } }:QP)=s3 at I3 e3;have hv:s3.heap.IsItemsView s1.heap.objs.size d:=by rw[<- hs3];exact⟨_,Mm _ rfl,rfl,rfl⟩
 show wpAny _ _ (pyIter (.ref s1.heap.objs.size)) _ _ _;refine qe hv ⟨o,e3,hex,hdat⟩ ?_;refine⟨s3.heap.objs.size,[s3.heap.objs.size],_,_,H2,rfl,I3.kept (t':=s3.toks) fun b o e=>Mb _ e,sF hex hdat hgo hst hent,⟨_,_,Mm _ rfl⟩,fun b hb=>?_,q2⟩;have e:b=s3.heap.objs.size:=by simpa using hb
 subst e;exact I3.oY (Mc _) (I3.aJ.fresh (Mc _))
end
def Ia (d:Addr)(o:Obj)(u:HO)(kvs:List (bh×V)):It:=⟨fun i H=>H d=some (.bQ o u)/\i<kvs.length,fun i H x H'=>∃ p k v,H p=none/\x=.ref p/\H'=upd H p (.tup [kV k,v])/\kvs[i]?=some (k,v),fun i H=>H d=some (.bQ o u)/\kvs.length<=i⟩
theorem KV.at (r:KV a b):∀(i:Nat) p q,a[i]?=some p->b[i]?=some q->p.1=q.1/\RelV p.2 q.2:=by
 induction r with
 |nil=>intro i p q e;simp at e
 |cons hq t ih=>
  intro i p q e1 e2;cases i with
  |zero=>simp at e1 e2;subst e1 e2;exact hq
  |succ i=>exact ih i p q (by simpa using e1) (by simpa using e2)
theorem xQ {P:QR}{w:World}{a:List (bh×V)}{b:List (bh×QS)}{l:List DictEntry}(r:KV a b)(q:Pairs (ay P w) l b):l.length=a.length/\∀(i:Nat) p,a[i]?=some p->∃ e,l[i]?=some e/\RelV (kV p.1) e.key/\RelV p.2 e.val:=by
 unfold KV at r;induction r generalizing l with
 |nil=>cases q;exact⟨rfl,fun i p e=>by simp at e⟩
 |cons h _ ih=>
  cases q with
  |cons h1 h2 q=>
   obtain⟨a,b⟩:=ih q;refine⟨by simp[a],fun i p e=>?_⟩;cases i with
   |zero=>simp only[List.getElem?_cons_zero,QD]at e;subst e;exact⟨_,rfl,by rw[h.1];exact n_ h1,by rw[h2];exact h.2⟩
   |succ i=>exact b i p e
section
def Dv (X:Cx)(tl:TE):TI:=fun σ H R=>tl σ H fun x H1=>∃ d kvs u,x=.ref d/\(u=.dK kvs\/(u=.dT []/\kvs=[]))/\((∃ o,H1 d=some (.bQ o u)/\R (Ia d o u kvs) H1)\/(H1 d=some u/\∀ o,(∀ o' v,X.H₀ d≠some (.bQ o' v))->R (Ia d o u kvs) (upd H1 d (.bQ o u))))
theorem xR {tl:TE} {apos cpos:Pos} (hl:PE X l tl) (hbase:autoParam (attributeBase l "items" X.env (eval l X.env)=eval l X.env) QZ._auto_1) (hline:autoParam ((apos.endLine==cpos.line)=true) QZ._auto_1):PI X (.Tuple es k0 Hv) (.Call (.Attribute l "items" apos) [] [] cpos) (Dv X tl):=by
 intro ac s σ H R I h;refine wpAny_Call_method0_late hbase hline (bO (hl ac s σ H _ I h) fun v s1 ⟨x,H1,I1,r1,q1⟩=>?_);obtain⟨d,kvs,u,e,hu,q⟩:=q1;subst e;cases r1;have zy:pL u:=by rcases hu with rfl|⟨rfl,_⟩<;>exact True.intro
 have fin:∀(o:Obj)(H2:Hp),Inv X ac σ H2 s1->H2 d=some (.bQ o u)->R (Ia d o u kvs) H2->MethodOn X.prog X.w X.A "items" cpos (.ref d) [] (fun v s1=>wX X (pyIter v) (FG X ac σ (.Tuple es k0 Hv) R) X.xe s1) X.xe s1:=fun o H2 I2 e2 q2=>by
  obtain⟨eo,hx⟩:=(show ObjOk X.prog X.w H2 s1.heap d (.bQ o u) from I2.aJ d _ e2);have key:∀{H h},HOk X.prog X.w H h->H d=some (.bQ o u)->(d==sysModules)=false/\∃ en ep vs,o.ExactDict/\o.data=.dict en ep/\KV kvs vs/\Pairs (ay X.prog X.w) en.toList vs:=fun{H h} ok e=>by
   obtain⟨eo,hx⟩:=(show ObjOk X.prog X.w H h d (.bQ o u) from ok d _ e);have key:(d==sysModules)=false/\∃ vs,KV kvs vs/\h.DictOf (ay X.prog X.w) d vs:=by
    rcases hu with rfl|⟨rfl,rfl⟩
    .exact hx.2
    .obtain⟨hd,dd⟩:=i7 hx;exact⟨hd,[],.nil,dd⟩
   obtain⟨hd,vs,rel,o',en,ep,eo',hex,hdat,_,hpr,_⟩:=key;rw[eo]at eo';cases eo';exact⟨hd,en,ep,vs,hex,hdat,rel,hpr⟩
  obtain⟨hd,en,ep,vs,hex,hdat,rel,hpr⟩:=key I2.aJ e2;refine vt (J:=Ia d o u kvs) I2 e2 hd hex hdat (fun i H h=>h.1) (fun i H h=>⟨h.1,?_⟩) (fun H h ok i g=>?_) q2
  .rw[<- MR,(xQ rel hpr).1];exact h.2
  .obtain⟨_,g⟩ : _/\i<kvs.length:=g;have hk:kvs[i]?=some kvs[i]:=by simp[g]
   obtain⟨e,h1,h2,h3⟩:=(xQ rel hpr).2 i _ hk;exact⟨e,kV kvs[i].1,kvs[i].2,by rw[<- Mn];exact h1,h2,h3,fun p hp=>⟨p,_,_,hp,rfl,rfl,hk⟩⟩
 rcases q with⟨o,e1,q⟩|⟨e1,q⟩
 .exact fin o H1 I1 e1 q
 .have hob:∃ o,s1.heap.get? d=some o:=by
   rcases hu with rfl|⟨rfl,_⟩
   .obtain⟨_,_,_,_,o,_,_,ho,_⟩:=(show ObjOk X.prog X.w H1 s1.heap d (.dK kvs) from I1.aJ d _ e1);exact⟨o,ho⟩
   .obtain⟨_,_,_,_,o,_,_,ho,_⟩:=(show ObjOk X.prog X.w H1 s1.heap d (.dT []) from I1.aJ d _ e1);exact⟨o,ho⟩
  obtain⟨o,ho⟩:=hob;exact fin o _ (I1.bQ e1 zy ho) ah (q o (I1.CA e1 zy))
end
section
open PySem.MeetsSeq PySem.SeqAt
open PySem.AutoSeq1 (wpAny_loadPart')
end
end L2
namespace L2
open PySem PySem.Spec PySem.Calls PyProof.Rows ST
section
variable {prog:QR}{w:World}{A:QT}{E:QS->QP->Prop}{s:QP}
theorem qg (K:PySem.W.KdlSrc prog w T r d n P OK)(hh:A.handled=none)(aJ:OK s.heap)(hn:n<=sizeLine)
 (h:∀ h' tk (acc:Array QS),s.heap.objs.size<h'.objs.size->(∀ b o,s.heap.get? b=some o->h'.get? b=some o)->ItemsOf P acc n->Q acc.toList { s with heap:=h',toks:=tk }):wpAny (model prog w) A (collect (.ref r)) Q E s:=by
 have hlt:=K.there _ aJ;have hS:(s.heap.push (seqObj "list" #[] 0)).get? s.heap.objs.size=some (seqObj "list" #[] 0):=Mm _ rfl;have key:∀ R:Result->QP->Prop,(∀ h' tk (acc:Array QS) c,(∀ b o,b≠s.heap.objs.size->(s.heap.push (seqObj "list" #[] 0)).get? b=some o->h'.get? b=some o)->h'.get? s.heap.objs.size=some { cls:=.type "list",dict:=none,data:=.seq acc c,slots:=#[] }->ItemsOf P acc n->R (.ok (.ret (.ref s.heap.objs.size))) { s with heap:=h',toks:=tk })->
  codeAny (model prog w) A (.builtin "list.__iadd__" ⟨[.ref s.heap.objs.size,.ref r],[]⟩) R { s with heap:=s.heap.push (seqObj "list" #[] 0) }:=fun R hR=>N4 entry_list_iadd' (by
  rw[Oi (show plainId "list.__iadd__"=true by decide +kernel) _];exact PySem.W.kdl_extend (s:={ s with heap:=s.heap.push (seqObj "list" #[] 0) }) K hh (K.keep _ _ aJ fun b _ o e=>Mb _ e) s.heap.objs.size (OH hlt.1) (OH hlt.2) (.ref s.heap.objs.size) 0 hS hR hn)
 unfold collect;refine KE (wpAny_runValue (N4 entry_proto_collect' (show wpAny _ _ (do again (.builtin "list.__iadd__" ⟨[<- newList [],.ref r],[]⟩)) _ _ s from ?_)));refine KE (O6 (L_ ⟨Code.quiet_builtin _ (by decide +kernel),key _ fun h' tk acc c kp hS' hacc=>?_⟩));refine KE (wpAny_load hS' ?_);show wpAny _ _ (pure acc.toList) _ _ _;exact L_ (h h' tk acc (Mx hS') (fun b o e=>kp b o (MS (Mx e)) (Mb _ e)) hacc)
end
section
variable {X:Cx}
theorem nh:∀{is:List Int}{us:List QS},us.length=is.length->(∀(i:Nat)(n:Int) u,is[i]?=some n->us[i]?=some u->RelV (.int n) u)->∃ zs:List m_,us=valsN zs/\zs.map (·.1)=is
 | [],[],_,_=>⟨[],rfl,rfl⟩
 | [],_::_,e,_=>by cases e
 |_::_,[],e,_=>by cases e
 |n::is,u::us,e,f=>by obtain⟨t,rfl⟩:=f 0 n u rfl rfl;obtain⟨zs,h1,h2⟩:=nh (is:=is) (us:=us) (by simpa using e) fun i m v a b=>f (i+1) m v (by simpa using a) (by simpa using b);exact⟨(n,t)::zs,by rw[h1];rfl,by rw[MC,h2]⟩
theorem l_ (hc:X.calm=true):bn X (.builtin "sorted") (fun xs H Q=>∃(d:Addr)(kvs:List (bh×V))(u:HO)(is:List Int),xs=[.ref d]/\(u=.dK kvs\/(u=.dT []/\kvs=[]))/\Rd H d u/\kvs.map (·.1)=is.map Sum.inl/\is.length<=63/\
 ∀(l:Addr)(ks:List Int),H l=none->(∀ k,k∈ks↔k∈is)->ks.Pairwise (·< ·)->Q (.ref l) (upd H l (.lst (ks.map V.int)))):=by
 intro ac s σ H xs us Q I r h;obtain⟨d,kvs,u,is,rfl,hu,hrd,hk,hz,q⟩:=h;obtain⟨w,rfl,rx⟩:=fQ r;cases rx;have hx:=hrd.ok I.aJ;have key:(d==sysModules)=false/\∃ vs,KV kvs vs/\s.heap.DictOf (ay X.prog X.w) d vs:=by
  rcases hu with rfl|⟨rfl,rfl⟩
  .obtain⟨z,hd,vs,rel,dd⟩:=hx;exact⟨hd,vs,rel,dd⟩
  .obtain⟨hd,dd⟩:=i7 hx;exact⟨hd,[],.nil,dd⟩
 obtain⟨hd,vs,rel,dd⟩:=key;obtain⟨ep,da⟩:=dd.dictAt;have hl:=rel.length;have hki:kvs.length=is.length:=by have:=MT List.length hk;simpa using this
 have hnd:(vs.map (·.1)).Nodup:=by obtain⟨_,_,_,_,_,_,_,_,nd⟩:=dd;exact nd
 have hvk:vs.map (·.1)=is.map Sum.inl:=by
  rw[<- hk];apply N2
  intro i;rw[ME,ME];cases e:kvs[i]? with
  |none=>rw[Nz (by rw[<- hl];exact List.getElem?_eq_none_iff.mp e)];rfl
  |some p=>
   have hi:i<vs.length:=by rw[<- hl];exact(Mg.mp e).1
   obtain⟨e1,_⟩:=rel.at i _ _ e (Ml hi);rw[Ml hi];exact MT some e1.symm
 have ndI:is.Nodup:=by rw[hvk]at hnd;unfold List.Nodup at hnd ⊢;rw[MQ]at hnd;exact hnd.imp fun{a b} hab z=>hab (by rw[z])
 refine Ow kind_sorted plain_sorted entry_sorted (args_sorted1 _) ?_;unfold Builtin.«sorted»;refine KE (m:=checkCount "sorted" 1 1 _) (L_ (KE (qg (PySem.W.kdl_dict (knd:=ay X.prog X.w) (kvs:=vs) (ep:=ep) hd) (I.ok.hd hc) da (by rw[<- hl,hki,MV];lia) fun h1 tk1 acc g1 k1 it=>?_)));obtain⟨i1,i2⟩:=it;obtain⟨zs,ez,ezk⟩:=nh (is:=is) (us:=acc.toList) (by rw[MR,i1,<- hl,hki]) fun i n v en ev=>by
  obtain⟨k,x,e1,e2⟩:=i2 i v (by rw[<- Mn];exact ev);have:(vs.map (·.1))[i]?=some k:=by rw[ME,e1];rfl
  rw[hvk,ME,en]at this;cases this;exact n_ e2
 rw[ez];have hzl:zs.length=is.length:=by have:=MT List.length ezk;simpa using this
 refine KE (O6 ?_ (by show(valsN zs).length<=_;simp only[valsN,Me];rw[hzl,MV];lia));have hoL:(h1.push (seqObj "list" (valsN zs).toArray 0)).get? h1.objs.size=some (seqObj "list" (valsN zs).toArray 0):=Mm _ rfl;have kk:∀ b o,s.heap.get? b=some o->(h1.push (seqObj "list" (valsN zs).toArray 0)).get? b=some o:=fun b o e=>Mb _ (k1 b o e);have ge:s.heap.objs.size<=h1.objs.size:=Nd g1;refine KE (Nb (M3 slot_list_sort ⟨_,hoL,rfl⟩ entry_list_sort ?body (args_list_sort _)))
 case body=>
  refine nc (s:={ s with heap:=h1.push (seqObj "list" (valsN zs).toArray 0),toks:=tk1 }) hoL (by rw[ezk];exact ndI) (by lia) fun ys h2 c2 hp hw hl2 k2=>⟨_,rfl,?_⟩;have hf:H h1.objs.size=none:=I.aJ.fresh ge;have em:(ys.map (·.1)).map V.int=ys.map fun y=>V.int y.1:=by rw[Nf];rfl
  refine L_ ⟨_,rfl,.ref h1.objs.size,_,I.laid (a:=h1.objs.size) (o:=.lst ((ys.map (·.1)).map V.int)) (t':=tk1) (fun b o e=>k2 b o (fun z=>?_) (kk b o e)) ge ?_,rfl,q h1.objs.size (ys.map (·.1)) hf (fun k=>?_) (by rw[MQ];exact hw)⟩
  .subst z;exact absurd (Mx e) (QO.mpr ge)
  .rw[em];exact⟨by rw[Me,MV,hp.length_eq];lia,valsN ys,c2,jb ys,hl2⟩
  .rw[(hp.map (·.1)).mem_iff,ezk]
end
end L2
namespace L2
open PySem PySem.Spec PySem.Calls PyProof.Rows
end L2
namespace L2
open PySem PySem.Spec PyProof.Rows
open Sem (wp)
open Builtin
open Sem (wp)
open Builtin
noncomputable def kU (kts:List (Addr×List V))(a:Addr)(o:Obj)(ns:List Int):Hp:=fun b=>match kts.lookup b with
 |some xs=>some (.tup xs)
 |none=>if b=a then some (.bQ o (.lst (ns.map V.int))) else none
section
theorem AX (e:kts.lookup b=some xs):kU kts a o ns b=some (.tup xs):=by unfold kU;rw[e]
theorem AY (e:kts.lookup a=none):kU kts a o ns a=some (.bQ o (.lst (ns.map V.int))):=by unfold kU;rw[e];exact Mh rfl
theorem AZ (e:kts.lookup b=none)(n:b≠a):kU kts a o ns b=none:=by unfold kU;rw[e];exact Mj n
end
theorem iN:∀{vs:List QS}{ns:List Int},IntsAre vs ns->Vals (ns.map V.int) vs
 |_,_,.nil=>.nil
 |_,_,.cons n t h=>.cons ⟨t,rfl⟩ (iN h)
theorem vw {P:QR}{w:World}{K:QQ}{mg mb:Str->Option QS}{CX:wV}{k:Nat}{fa a:Addr}{fd:FuncData}{x:Str}{sp:Sp}{s₁:QP}{vs:List QS}{ns:List Int}{kts:List (Addr×List V)}
 (KX:K.In s₁.heap) (hns:s₁.heap.Ns mainGlobals mg) (hb:s₁.heap.Ns builtinsNs mb) (hbb:∀ x:Str,x≠"__name__"->mb x=bootBuiltins x) (hlim:s₁.heap.NoLimit) (hg:s₁.gens=#[])
 (ha:s₁.heap.get? a=some { cls:=.type "list",data:=.seq vs.toArray }) (hi:IntsAre vs ns) (hl:ns.length<=sizeLine) (hr:cP k callerA)
 (hK:∀ o,K.lookup a=some o->o.cls=.type "list"->False)
 (hT:∀ b xs,kts.lookup b=some xs->K.lookup b=none/\∃(o:Obj)(its:Array QS)(n:Nat),s₁.heap.get? b=some o/\o.cls=.type "tuple"/\o.data=.seq its n/\its.size<=sizeLine/\Vals xs its.toList)
 (hM:∀ p∈K,∀ b xs,CJ p.2=some (b,xs)->kts.lookup b=some xs)
 (F:∀ base:Heap,K.In base->base.Ns mainGlobals mg->bD P w K mg base CX k fa fd [x] sp) (hbind:∀(s:QP)(u:QS),BindsTo s fd ⟨[u],[]⟩ [(x,u)])
 (hsp:∀ H:Hp,(∃ o,H a=some (.bQ o (.lst (ns.map V.int))))->sp [.ref a] H (fun v _=>v=.bl true) fun _ _ _=>False)
 (hCX:∀ H e s',CX [] H s₁ (fun _ _ _=>False) e s'->False) :
 codeAny (model P w) callerA (.call (.ref fa) ⟨[.ref a],[]⟩) (fun r s'=>r=.ok (.ret (.bool true))/\OldK s₁.heap s'.heap/\s'.os=s₁.os/\AllBare s'.gens) s₁:=by
 have rv:=iN hi;have noK:K.lookup a=none:=by
  cases q:K.lookup a with
  |none=>rfl
  |some o=>have e:=KX a o q;rw[ha]at e;cases e;exact(hK _ q rfl).elim
 have noT:kts.lookup a=none:=by
  cases q:kts.lookup a with
  |none=>rfl
  |some xs=>obtain⟨_,o,its,n,e,c,_⟩:=hT a xs q;rw[ha]at e;cases e;exact absurd c (by simp)
 obtain⟨ob,eob⟩ : ∃ ob:Obj,ob={ cls:=.type "list",data:=.seq vs.toArray }:=⟨_,rfl⟩;rw[<- eob]at ha;generalize eH:kU kts a ob ns=H;have Ha:H a=some (.bQ ob (.lst (ns.map V.int))):=by rw[<- eH];exact AY noT
 have Ht:∀ b xs,kts.lookup b=some xs->H b=some (.tup xs):=fun b xs e=>by rw[<- eH];exact AX e
 have Hn:∀ b,kts.lookup b=none->b≠a->H b=none:=fun b e n=>by rw[<- eH];exact AZ e n
 have freeK:∀ b o,K.lookup b=some o->H b=none:=fun b o e=>by
  refine Hn b ?_ fun z=>by rw[z,noK]at e;cases e
  cases q:kts.lookup b with
  |none=>rfl
  |some xs=>rw[(hT b xs q).1]at e;cases e
 have freeD:∀(b:Addr)(o:Obj)(es:Array DictEntry)(ep:Nat),s₁.heap.get? b=some o->o.data=.dict es ep->H b=none:=fun b o es ep e d=>by
  refine Hn b ?_ fun z=>?_
  .cases q:kts.lookup b with
   |none=>rfl
   |some xs=>obtain⟨_,o',its,n,e',_,d',_⟩:=hT b xs q;rw[e]at e';cases e';rw[d]at d';cases d'
  .rw[z,ha]at e;cases e;rw[eob]at d;cases d
 have nsK:∀{b:Addr}{m:Str->Option QS},s₁.heap.Ns b m->(pz s₁.heap H).Ns b m:=fun{b m} ⟨o,es,ep,e,d,r⟩=>⟨o,es,ep,pA e (freeD b o es ep e d),d,r⟩;have hKb:K.In (pz s₁.heap H):=fun b o e=>pA (KX b o e) (freeK b o e);have hMd:Mod K mg (pz s₁.heap H):=⟨hKb,nsK hns,⟨mb,nsK hb,hbb⟩,let ⟨mc,h1,h2⟩:=hlim;⟨mc,nsK h1,h2⟩⟩;have aJ:HOk P w H s₁.heap:=fun b u e=>by
  cases q:kts.lookup b with
  |some xs=>rw[Ht b xs q]at e;cases e;obtain⟨_,o,its,n,e1,c,d,z,r⟩:=hT b xs q;refine⟨by rw[r.length];simpa using z,its.toList,r,o,e1,c,n,by simpa using d⟩
  |none=>
   by_cases hba:b=a
   .rw[hba,Ha]at e;cases e;rw[hba];exact⟨ha,by rw[Me];exact hl,vs,_,rv,by rw[ha,eob]⟩
   .rw[Hn b q hba]at e;cases e
 have e0:tq P w K mg (pz s₁.heap H) callerA [] s₁ H:=⟨rfl,hMd,fun b o e=>Ag e,Nat.le_of_eq (uS _ _),trivial,fun b hb=>absurd (show b∈([]:List Addr) from hb) (by simp),aJ,.of_eq hg,fun p hp b xs e=>Ht b xs (hM p hp b xs e)⟩;refine Ps ((F _ hKb (nsK hns)).run callerA [] s₁ H ⟨[.ref a],[]⟩ [.ref a] [.ref a] _ _ hr e0 (hbind s₁ (.ref a)) (.cons rfl .nil) (hsp H ⟨ob,Ha⟩)) fun r s' h=>?_;cases r with
 |error e=>exact(hCX H e s' h).elim
 |ok fl=>
  cases fl with
  |next=>exact False.elim h
  |brk=>exact False.elim h
  |cont=>exact False.elim h
  |ret u=>
   obtain⟨v,H',os,bare,un,hok',r',q⟩:=h;have q':v=.bl true:=q;subst q';obtain rfl:u=Value.bool true:=r';refine⟨rfl,OldK.of_keep fun b o e=>?_,os,bare⟩;by_cases hba:b=a
   .rw[hba]at e ⊢;have z2:=un.gA a ob _ Ha;obtain⟨e2,_⟩:=hok' a _ z2;rw[ha]at e;cases e;exact e2
   .refine un.keep b o e ?_ (by intro z;exact absurd (show b∈([]:List Addr) from z) (by simp)) (by simp);cases q:kts.lookup b with
    |none=>exact .inl (Hn b q hba)
    |some xs=>exact .inr ⟨xs,Ht b xs q⟩
section
variable {K K':QQ}
def IG (K:QQ):Bool:=K.all fun p=>(CJ p.2).isNone
structure gR (K K':QQ):Prop where
 look:∀ b o,K.lookup b=some o->(∀ its n,o.data≠.seq its n)->K'.lookup b=some o
theorem vx:gR K K:=⟨fun _ _ e _=>e⟩
theorem gR.code (S:gR K K')(h:PySem.W.codeIn K cd q=true):PySem.W.codeIn K' cd q=true:=by
 unfold PySem.W.codeIn at h ⊢;cases cd with
 |ref c=>
  dsimp only at h ⊢;cases e:K.lookup c with
  |none=>rw[e]at h;cases h
  |some o=>
   obtain⟨o1,o2,o3,o4⟩:=o;cases o3 with
   |fields vs=>rw[S.look c _ e (fun _ _ z=>nomatch z)];rw[e]at h;exact h
   |_=>rw[e]at h;cases h
 |_=>cases h
theorem gR.keep (S:gR K K')(e:K.lookup f=some ⟨o1,o2,.func fd,o4⟩):PySem.W.keepIn K' (.ref f)=true:=by unfold PySem.W.keepIn;dsimp only;rw[S.look f _ e (fun _ _ z=>nomatch z)]
theorem gR.ns (S:gR K K')(h:PySem.W.nsIn K n x=some r):PySem.W.nsIn K' n x=some r:=by
 unfold PySem.W.nsIn at h ⊢;cases e:K.lookup n with
 |none=>rw[e]at h;cases h
 |some o=>
  obtain⟨o1,o2,o3,o4⟩:=o;cases o3 with
  |dict es ep=>rw[S.look n _ e (fun _ _ z=>nomatch z)];rw[e]at h;exact h
  |_=>rw[e]at h;cases h
theorem gR.nsOk (S:gR K K')(h:PySem.W.nsOkIn K n=true):PySem.W.nsOkIn K' n=true:=by
 unfold PySem.W.nsOkIn at h ⊢;cases e:K.lookup n with
 |none=>rw[e]at h;cases h
 |some o=>
  obtain⟨o1,o2,o3,o4⟩:=o;cases o3 with
  |dict es ep=>rw[S.look n _ e (fun _ _ z=>nomatch z)];rw[e]at h;exact h
  |_=>rw[e]at h;cases h
theorem gR.tail (S:gR K K'):∀{l:List QS},PySem.W.tailIn K bm l=true->PySem.W.tailIn K' bm l=true
 | [],h=>h
 |v::r,h=>by
  unfold PySem.W.tailIn at h ⊢;rw[Bool.or_eq_true]at h ⊢;refine h.imp id fun h=>?_;cases v with
  |ref A=>
   dsimp only at h ⊢;cases e:K.lookup A with
   |none=>rw[e]at h;cases h
   |some o=>
    obtain⟨o1,o2,o3,o4⟩:=o;cases o3 with
    |cls cd=>rw[S.look A _ e (fun _ _ z=>nomatch z)];rw[e]at h;dsimp only at h ⊢;simp only[Nv,Pq]at h ⊢;exact⟨⟨S.nsOk h.1.1,S.ns h.1.2⟩,S.tail h.2⟩
    |_=>rw[e]at h;cases h
  |_=>cases h
theorem gR.exc (S:gR K K')(h:PySem.W.excIn K C bm i=true):PySem.W.excIn K' C bm i=true/\n8 K' C=n8 K C:=by
 unfold PySem.W.excIn at h ⊢;unfold n8;cases e:K.lookup C with
 |none=>rw[e]at h;cases h
 |some o=>
  obtain⟨o1,o2,o3,o4⟩:=o;rw[e]at h;cases o3 with
  |cls cd=>
   rw[S.look C _ e (fun _ _ z=>nomatch z)];refine⟨?_,rfl⟩;split at h
   .rename_i dd cd' sl he;injection he with he;injection he with he1 he2 he3 he4;injection he3 with he3;subst he1 he2 he3 he4
    try dsimp only at h
    try dsimp only
    split at h
    .rename_i hm hs;simp only[Nv,Pq]at h ⊢;exact⟨⟨⟨h.1.1.1,S.tail h.1.1.2⟩,S.nsOk h.1.2⟩,S.ns h.2⟩
    .cases h
   .cases h
  |_=>split at h<;>first|cases h|(rename_i he;injection he with he;injection he with _ _ he _;cases he)
end
noncomputable def uf:QS->Bool
 | .type n=>n=="list"
 |_=>false
def IH (K:QQ):Bool:=K.all fun p=>!uf p.2.cls
theorem xS:∀{K:QQ},IH K=true->K.lookup a=some o->o.cls=.type "list"->False
 | [],_,e,_=>by cases e
 |(b,x)::r,h,e,c=>by
  unfold IH at h;rw[List.all_cons,Nv]at h;rw[OP]at e;split at e
  .cases e;rw[c]at h;have h1:=h.1;simp[uf]at h1
  .exact xS (K:=r) h.2 e c
section
variable {l:PySem.W.OpenLaw}{K:Params->QQ}{CX:World->wV}{sp:World->Sp}
theorem xT (hn:l.most=some n)(hn2:n<=sizeLine)(hdf:d.params.defaults=[])(hr:cP k callerA)(hY:∀(w:World)(h:Heap),YP w h->(K w.params).In h)
 (hL:∀ w:World,IH (K w.params)=true/\IG (K w.params)=true)
 (F:∀(w:World)(mg:Str->Option QS)(fa:Addr)(h:Heap),(K w.params).In h->h.Ns mainGlobals mg->mg d.name=some (.ref fa)->
   ∃ fd:FuncData,(∀(s:QP)(u:QS),BindsTo s fd ⟨[u],[]⟩ [(x,u)])/\∀ base:Heap,(K w.params).In base->base.Ns mainGlobals mg->bD l.prog w (K w.params) mg base (CX w) k fa fd [x] (sp w))
 (hsp:∀(w:World)(H:Hp)(a:Addr)(ns:List Int),ns.length<=n->(∃ o,H a=some (.bQ o (.lst (ns.map V.int))))->sp w [.ref a] H (fun v _=>v=.bl true) fun _ _ _=>False)
 (hCX:∀(w:World)(H:Hp)(s:QP)(e:QS)(s':QP),CX w [] H s (fun _ _ _=>False) e s'->False) :
 PySem.W.WalkO q loose XP YP l.row.toRowW d [] (fun f vs=>PySem.call f vs):=by
 refine Att.attach_call hn hdf fun w s₀ s₁ mg mb fa o pm cd doc a vs ns G Y ho hd hcd hmg hobj hints bJ hg=>?_;have KX:=hY w _ Y;obtain⟨fd,hb,hF⟩:=F w mg fa _ KX G.T.g hmg;exact vw (kts:=[]) KX G.T.g G.T.b G.T.builtins G.T.nolimit hg hobj hints (Mq bJ hn2) hr (fun o e c=>xS (hL w).1 e c) (fun b xs e=>by cases e)
  (fun p hp b xs e=>by have:=NZ.mp (hL w).2 p hp;rw[e]at this;cases this) hF hb (fun H hS=>hsp w H a ns bJ hS) fun H e s'=>hCX w H s₁ e s'
end
end L2
namespace L2
open PySem PySem.Spec PySem.Calls PyProof.Rows
abbrev NK:=List (Sum bh (List bh))
section
variable (P:QR)(w:World)
inductive fL (h:Heap):NK->List QS->Prop
 |nil:fL h [] []
 |val {k:bh} {v:QS} {ks:NK} {vs:List QS}:(ay P w).is k v=true->fL h ks vs->fL h (.inl k::ks) (v::vs)
 |tup {k:List bh} {b:Addr} {ks:NK} {vs:List QS}:(tupleKind (ay P w)).is h k b->fL h ks vs->fL h (.inr k::ks) (.ref b::vs)
def IsN (h:Heap) (ks:NK) (a:Addr):Prop:=∃ o items n,h.get? a=some o/\o.cls=.type "tuple"/\o.data=.seq items n/\fL P w h ks items.toList
def ww:Sum bh (List bh)->Int
 | .inl k=>(ay P w).hash k
 | .inr ks=>tupleKeyHash (ay P w) ks
noncomputable def F8:Sum bh (List bh)->Nat
 | .inl _=>1
 | .inr ks=>ks.length+1
def nDrs (ks:NK):Nat:=(ks.map F8).sum
end
section
variable {P:QR}{w:World}{h h':Heap}{A:QT}{E:QS->QP->Prop}{s:QP}
theorem fL.inj (hx:fL P w h x vs)(hy:fL P w h y vs):x=y:=by
 induction hx generalizing y with
 |nil=>cases hy;rfl
 |val h1 _ ih=>
  cases hy with
  |val h2 t2=>rw[(ay P w).inj _ _ _ h1 h2,ih t2]
  |tup h2 t2=>exact absurd ((ay P w).byValue _ _ h1) (by simp[carriedByValue])
 |tup h1 _ ih=>
  cases hy with
  |val h2 t2=>exact absurd ((ay P w).byValue _ _ h2) (by simp[carriedByValue])
  |tup h2 t2=>rw[(tupleKind (ay P w)).inj h1 h2,ih t2]
theorem fL.len (hx:fL P w h x vs):x.length=vs.length:=by
 induction hx with
 |nil=>rfl
 |val _ _ ih=>simp[ih]
 |tup _ _ ih=>simp[ih]
theorem fL.mono (m:∀ k b,(tupleKind (ay P w)).is h k b->(tupleKind (ay P w)).is h' k b)(hx:fL P w h x vs):fL P w h' x vs:=by
 induction hx with
 |nil=>exact .nil
 |val a _ ih=>exact .val a ih
 |tup a _ ih=>exact .tup (m _ _ a) ih
theorem IsN.ty (x:IsN P w s.heap ks a):s.TypeIs (.ref a) "tuple":=let ⟨o,_,_,ho,hc,_⟩:=x;⟨o,ho,hc⟩
theorem IsN.inj (hx:IsN P w h x a)(hy:IsN P w h y a):x=y:=by obtain⟨o,items,n,ho,_,hd,hi⟩:=hx;obtain⟨o',items',n',ho',_,hd',hi'⟩:=hy;obtain rfl:o=o':=NM (ho.symm.trans ho');rw[hd]at hd';injection hd' with h1 _;subst h1;exact hi.inj hi'
theorem IsN.keeps {es ep}(x:IsN P w h ks a)(ho:h.get? d=some o)(hd:o.data=.dict es ep)(hs:Heap.SameBut d h h'):IsN P w h' ks a:=by
 obtain⟨o',items,n,ho',hc,hd',hi⟩:=x;have hne:a≠d:=by rintro rfl;obtain rfl:o'=o:=NM (ho'.symm.trans ho);rw[hd]at hd';exact nomatch hd'
 exact⟨o',items,n,(hs.2 a hne).trans ho',hc,hd',hi.mono fun k b z=>(tupleKind (ay P w)).keeps z ho hd hs⟩
theorem xU (hu:A.units+1<cLine)(hk:IsN P w s.heap ks a)(h:Q (reduceHash (Builtin.Tuple.tupleHashOf (ks.map (ww P w)))) { s with toks:=s.toks+(nDrs ks+1) }) :
 wpAny (model P w) A (pyHash (.ref a)) Q E s:=by
 have hT:=hk.ty;obtain⟨o,items,n,ho,_,hd,hi⟩:=hk;unfold pyHash
 first|unfold pyHashByItsType|skip
 first|refine KE (wpAny_cRoomFor_or (.inr (by lia)) ?_)|skip
 refine KE (OC hT Om.lookup ?_);show wpAny _ _ (if (some (Value.builtin "tuple.__hash__")==some Value.none)=true then _ else _) Q E s;rw[Mj (by rw[beq_builtin_none];exact MF)];refine KE (OC hT Om.lookup ?_);show wpAny _ _ (callSpecialIfBoundUnlessNone? (.ref a) "__hash__" _ >>= _) Q E s;refine KE (wpAny_callSpecialIfBoundUnlessNone?_slot hT Om (M3 Om hT PySem.F.entry_tuple_hash ?_ (PySem.F.args_tuple_hash_1 _)));show wpAny _ _ (Builtin.Tuple.tupleItemsOf (.ref a) >>= _) _ _ s;refine KE (wpAny_tupleItemsOf ho hd ?_);refine KE ?_;rw[<- OV];refine OM _
  (fun rest (b:Array Int) s'=>∃ done left,ks=done++left/\fL P w s.heap left rest/\b.toList=done.map (ww P w)/\s'={ s with toks:=s.toks+nDrs done })
  _ ?_ ?_ _ _ ⟨[],ks,rfl,hi,rfl,rfl⟩
 .rintro x rest b s' ⟨done,left,rfl,hl,hb,rfl⟩;cases hl with
  | @val k _ ks' _ h1 hl'=>
   refine KE ((ay P w).pyHash h1 ?_)
   first
    |exact L_ ⟨done++[.inl k],ks',by simp,hl',by simp[hb,ww],by simp[nDrs,F8,O7]⟩
    |exact KE (L_ (L_ ⟨done++[.inl k],ks',by simp,hl',by simp[hb,ww],by simp[nDrs,F8,O7]⟩))
  | @tup k c ks' _ h1 hl'=>
   refine KE ((tupleKind (ay P w)).pyHash (show A.units+1<cLine from hu) h1 ?_)
   first
    |exact L_ ⟨done++[.inr k],ks',by simp,hl',by simp[hb,ww];rfl,by simp[nDrs,F8,O7];rfl⟩
    |exact KE (L_ (L_ ⟨done++[.inr k],ks',by simp,hl',by simp[hb,ww];rfl,by simp[nDrs,F8,O7];rfl⟩))
 .rintro b s' ⟨done,left,rfl,hl,hb,rfl⟩;cases hl;rw[Ob]at h;show wpAny _ _ (retInt (Builtin.Tuple.tupleHashOf b.toList)) _ _ _;rw[hb];refine wpAny_ret_mkInt ?_;show wpAny _ _ (if (decide (-(2:Int) ^ 63<=Builtin.Tuple.tupleHashOf (done.map (ww P w)))&&decide (Builtin.Tuple.tupleHashOf (done.map (ww P w))<2 ^ 63))=true then _ else _) Q E _;unfold reduceHash at h;by_cases hr:(decide (-(2:Int) ^ 63<=Builtin.Tuple.tupleHashOf (done.map (ww P w)))&&decide (Builtin.Tuple.tupleHashOf (done.map (ww P w))<2 ^ 63))=true
  .rw[Mh hr];rw[Mh hr]at h;exact L_ (by simpa[O7] using h)
  .rw[Mj hr];rw[Mj hr]at h;exact KE (Pt (L_ (by simpa[O7] using h)))
end
theorem ug {α:Type}[DecidableEq α]:∀(x y:List α),((List.range (min x.length y.length)).all (fun j=>decide (x[j]?=y[j]?))&&x.length==y.length)=decide (x=y):=by
 intro x y;rw[Oa];simp only[Nv,NZ,MZ,QE,Pq];constructor
 .rintro⟨h,l⟩;apply N2
  intro j;by_cases hj:j<min x.length y.length
  .exact h j hj
  .rw[Nz (by lia),Nz (by lia)]
 .rintro rfl;exact⟨fun _ _=>rfl,rfl⟩
section
theorem qh (h1:(ay P w).is x u=true)(h2:(ay P w).is y v=true):SeqAt.EqAt A s u v (decide (x=y)):=by
 have ii:∀ i j:Int,decide ((Sum.inl i:bh)=Sum.inl j)=(i==j):=fun i j=>by by_cases e:i=j<;>simp[e]
 have ss:∀ i j:Str,decide ((Sum.inr i:bh)=Sum.inr j)=(i==j):=fun i j=>by by_cases e:i=j<;>simp[e]
 rcases aT (show fO x u=true from h1) with⟨i,t,rfl,rfl⟩|⟨i,t,rfl,rfl⟩<;>rcases aT (show fO y v=true from h2) with⟨j,t',rfl,rfl⟩|⟨j,t',rfl,rfl⟩
 .rw[ii];exact .int_int i t j t'
 .exact .int_str i t j t'
 .exact .str_int i t j t'
 .rw[ss];exact .str_str i t j t'
theorem uh {α:Type}[DecidableEq α]{R:α->QS->Prop}{x y:List α}{xs ys:Array QS}(lx:x.length=xs.size)(ly:y.length=ys.size)(hx:∀(j:Nat)(k:α)(z:j<xs.size),x[j]?=some k->R k xs[j])(hy:∀(j:Nat)(k:α)(z:j<ys.size),y[j]?=some k->R k ys[j])
 (he:∀ k l u v,R k u->R l v->SeqAt.EqAt A s u v (decide (k=l))):∀ j (z1:j<xs.size) (z2:j<ys.size),SeqAt.EqAt A s xs[j] ys[j] (decide (x[j]?=y[j]?)):=by
 intro j z1 z2;have k1:j<x.length:=by lia
 have k2:j<y.length:=by lia
 have g1:x[j]?=some x[j]:=by simp[k1]
 have g2:y[j]?=some y[j]:=by simp[k2]
 have e:decide (x[j]?=y[j]?)=decide (x[j]=y[j]):=by rw[g1,g2];by_cases q:x[j]=y[j]<;>simp[q]
 rw[e];exact he _ _ _ _ (hx j _ z1 g1) (hy j _ z2 g2)
theorem nj (h:ItemsAre (ay P w) k vs):∀(j:Nat)(x:bh)(v:QS),k[j]?=some x->vs[j]?=some v->(ay P w).is x v=true:=by
 induction h with
 |nil=>intro j x v e;simp at e
 |cons a _ ih=>
  intro j x v e e';cases j with
  |zero=>simp at e e';subst e;subst e';exact a
  |succ j=>exact ih j x v (by simpa using e) (by simpa using e')
theorem A0 (hu:A.units<cLine)(hx:(tupleKind (ay P w)).is s.heap x a)(hy:(tupleKind (ay P w)).is s.heap y b):SeqAt.EqAt A s (.ref a) (.ref b) (decide (x=y)):=by
 by_cases e:a=b
 .subst e;obtain rfl:=(tupleKind (ay P w)).inj hx hy;rw[Mp rfl];exact Py _
 .obtain⟨o1,i1,n1,q1,c1,d1,r1⟩:=hx;obtain⟨o2,i2,n2,q2,c2,d2,r2⟩:=hy;have l1:x.length=i1.size:=by rw[r1.length];simp
  have l2:y.length=i2.size:=by rw[r2.length];simp
  have z:=O8 (s:=s) (A:=A) (l:=a) (b:=b) ⟨o1,q1,c1,n1,d1⟩ ⟨o2,q2,c2,n2,d2⟩ hu (uh (A:=A.in1) l1 l2 (fun j k z e=>nj r1 j k _ e (by simp[z])) (fun j k z e=>nj r2 j k _ e (by simp[z])) fun k l u v=>qh);rw[<- l1,<- l2,ug]at z;exact PR e z
def II (P:QR)(w:World)(h:Heap):Sum bh (List bh)->QS->Prop
 | .inl k,v=>(ay P w).is k v=true
 | .inr k,v=>∃ b,v=.ref b/\(tupleKind (ay P w)).is h k b
theorem fL.at' (h':fL P w h k vs):∀(j:Nat)(x:Sum bh (List bh))(v:QS),k[j]?=some x->vs[j]?=some v->II P w h x v:=by
 induction h' with
 |nil=>intro j x v e;simp at e
 |val a _ ih=>
  intro j x v e e';cases j with
  |zero=>simp at e e';subst e;subst e';exact a
  |succ j=>exact ih j x v (by simpa using e) (by simpa using e')
 |tup a _ ih=>
  intro j x v e e';cases j with
  |zero=>simp at e e';subst e;subst e';exact⟨_,rfl,a⟩
  |succ j=>exact ih j x v (by simpa using e) (by simpa using e')
theorem xV (hx:(tupleKind (ay P w)).is h x a):∃ its,h.IsTuple a its:=let ⟨o1,i1,n1,q1,c1,d1,_⟩:=hx;⟨i1,o1,q1,c1,n1,d1⟩
theorem xW (hu:A.units<cLine)(hx:II P w s.heap x u)(hy:II P w s.heap y v):SeqAt.EqAt A s u v (decide (x=y)):=by
 cases x with
 |inl x=>
  cases y with
  |inl y=>
   have e:decide ((Sum.inl x:Sum bh (List bh))=Sum.inl y)=decide (x=y):=by by_cases q:x=y<;>simp[q]
   rw[e];exact qh hx hy
  |inr y=>
   obtain⟨b,rfl,hb⟩:=hy;obtain⟨its,p⟩:=xV hb;rcases aT (show fO x u=true from hx) with⟨i,t,rfl,rfl⟩|⟨i,t,rfl,rfl⟩
   .exact .int_tuple i t p hu
   .exact .str_tuple i t p hu
 |inr x=>
  obtain⟨a,rfl,ha⟩:=hx;cases y with
  |inl y=>
   obtain⟨its,p⟩:=xV ha;rcases aT (show fO y v=true from hy) with⟨i,t,rfl,rfl⟩|⟨i,t,rfl,rfl⟩
   .exact .tuple_int i t p hu
   .exact .tuple_str i t p hu
  |inr y=>
   obtain⟨b,rfl,hb⟩:=hy;have e:decide ((Sum.inr x:Sum bh (List bh))=Sum.inr y)=decide (x=y):=by by_cases q:x=y<;>simp[q]
   rw[e];exact A0 hu ha hb
theorem Dw (hu:A.units+1<cLine)(hx:IsN P w s.heap x a)(hy:IsN P w s.heap y b):SeqAt.EqAt A s (.ref a) (.ref b) (decide (x=y)):=by
 by_cases e:a=b
 .subst e;obtain rfl:=hx.inj hy;rw[Mp rfl];exact Py _
 .obtain⟨o1,i1,n1,q1,c1,d1,r1⟩:=hx;obtain⟨o2,i2,n2,q2,c2,d2,r2⟩:=hy;have l1:x.length=i1.size:=by rw[r1.len];simp
  have l2:y.length=i2.size:=by rw[r2.len];simp
  have z:=O8 (s:=s) (A:=A) (l:=a) (b:=b) ⟨o1,q1,c1,n1,d1⟩ ⟨o2,q2,c2,n2,d2⟩ (by lia) (uh (A:=A.in1) l1 l2 (fun j k z e=>r1.at' j k _ e (by simp[z])) (fun j k z e=>r2.at' j k _ e (by simp[z])) fun k l u v=>xW (show A.units+1<cLine from hu));rw[<- l1,<- l2,ug]at z;exact PR e z
theorem xX (n:Nat)(hk:(tupleKind (ay P w)).is s.heap k a)(h:Q true s):wpAny (model P w) A (eqIsQuiet (n+1) (.ref a)) Q E s:=by
 have hT:=IsTupleKey.typeIs hk;obtain⟨o,items,n,ho,_,hd,hi⟩:=hk;unfold eqIsQuiet;refine KE (OC hT PySem.F.slot_tuple_eq.lookup ?_);show wpAny _ _ (isInstance (.ref a) (.type "tuple") >>= _) _ _ s;refine KE (ON hT isSubtype_tuple_tuple ?_);simp only[NJ,Mz,Nm];refine KE (Qa ho hd ?_);refine KE ?_;show wpAny _ _ (forIn items _ _) _ _ s;rw[<- OV];refine OM _ (fun rest r s'=>r.1=none/\s'=s/\∀ v∈rest,carriedByValue v=true) _ ?_ ?_ _ _ ⟨rfl,rfl,hi.byValue⟩
 .rintro v rest r s' ⟨hr,rfl,gs⟩;rw[eqIsQuiet_byValue _ (gs v Mr)];refine KE (L_ ?_);simp only[NJ,Mz,Nm];exact L_ ⟨rfl,rfl,fun u hu'=>gs u (Ms _ hu')⟩
 .rintro⟨r1,r2⟩ s' ⟨hr,rfl,_⟩;simp only at hr;subst hr;exact L_ h
theorem A8 (hk:IsN P w s.heap k a)(h:Q true s):wpAny (model P w) A (eqIsQuiet 8 (.ref a)) Q E s:=by
 have hT:=hk.ty;obtain⟨o,items,n,ho,_,hd,hi⟩:=hk;unfold eqIsQuiet;refine KE (OC hT PySem.F.slot_tuple_eq.lookup ?_);show wpAny _ _ (isInstance (.ref a) (.type "tuple") >>= _) _ _ s;refine KE (ON hT isSubtype_tuple_tuple ?_);simp only[NJ,Mz,Nm];refine KE (Qa ho hd ?_);refine KE ?_;show wpAny _ _ (forIn items _ _) _ _ s;rw[<- OV];refine OM _ (fun rest r s'=>r.1=none/\s'=s/\∃ ks,fL P w s.heap ks rest) _ ?_ ?_ _ _ ⟨rfl,rfl,k,hi⟩
 .rintro v rest r s' ⟨hr,rfl,ks,hl⟩;cases hl with
  |val h1 h2=>rw[eqIsQuiet_byValue _ ((ay P w).byValue _ _ h1)];refine KE (L_ ?_);simp only[NJ,Mz,Nm];exact L_ ⟨rfl,rfl,_,h2⟩
  |tup h1 h2=>refine KE (xX 6 h1 ?_);simp only[NJ,Mz,Nm];exact L_ ⟨rfl,rfl,_,h2⟩
 .rintro⟨r1,r2⟩ s' ⟨hr,rfl,_⟩;simp only at hr;subst hr;exact L_ h
end
def kW (P:QR)(w:World):HeapKind P w NK where
 is:=IsN P w
 hash:=fun ks=>reduceHash (Builtin.Tuple.tupleHashOf (ks.map (ww P w)))
 draws:=fun ks=>nDrs ks+1
 room:=fun A=>A.units+1<cLine
 inj:=fun hx hy=>hx.inj hy
 keeps:=fun x ho hd hs=>x.keeps ho hd hs
 pyHash:=fun hu hk h=>xU hu hk h
 eqBool:=fun hu hx hy h=>Dw hu hx hy _ _ _ _ h
 quiet:=fun hk h=>A8 hk h
noncomputable abbrev K0:=Sum Int (List Int)
noncomputable def vy (ks:List (List K0))(k:List K0):Bool:=ks.any fun x=>decide (x=k)
noncomputable def qi:K0->Sum bh (List bh)
 | .inl i=>.inl (.inl i)
 | .inr l=>.inr (l.map Sum.inl)
noncomputable def KO:K0->Int
 | .inl i=>hashInt i
 | .inr l=>reduceHash (Builtin.Tuple.tupleHashOf (l.map hashInt))
def F9 (k:List K0):Int:=reduceHash (Builtin.Tuple.tupleHashOf (k.map KO))
abbrev NX:=List (List K0×Addr×QS)
def fZ (a:Addr)(xs:NX)(h:Heap):Prop:=∃ o es ep,h.get? a=some o/\o.ExactDict/\o.data=.dict es ep/\es.toList=xs.map (fun x=>⟨F9 x.1,.ref x.2.1,x.2.2⟩)/\(xs.map (·.1)).Nodup
noncomputable def Ib (H:Hp):List K0->List V->Prop
 | [],vs=>vs=[]
 | .inl i::ks,vs=>∃ r,vs=.int i::r/\Ib H ks r
 | .inr l::ks,vs=>∃ c r,vs=.ref c::r/\H c=some (.tup (l.map V.int))/\Ib H ks r
def oB (H:Hp)(k:List K0)(b:Addr):Prop:=∃ vs,H b=some (.tup vs)/\Ib H k vs
section
theorem A9 {a b:K0}(h:qi a=qi b):a=b:=by
 have li:∀ x y:List Int,x.map (Sum.inl:Int->bh)=y.map Sum.inl->x=y:=fun x y e=>(List.map_inj_right fun _ _ z=>P8 z).mp e;cases a<;>cases b<;>simp only[qi,Sum.inl.injEq,Sum.inr.injEq,reduceCtorEq]at h
 .rw[h]
 .rw[li _ _ h]
theorem kX {a b:List K0}(h:a.map qi=b.map qi):a=b:=(List.map_inj_right fun _ _ z=>A9 z).mp h
theorem xY (k:List K0):(kW P w).hash (k.map qi)=F9 k:=by
 show reduceHash (Builtin.Tuple.tupleHashOf ((k.map qi).map (ww P w)))=_;rw[Nf];unfold F9;congr 2;apply M0;intro x _;cases x with
 |inl i=>rfl
 |inr l=>show reduceHash (Builtin.Tuple.tupleHashOf ((l.map Sum.inl).map (FA w)))=_;rw[Nf];rfl
theorem oC (ok:HOk P w H h):∀{k:List K0}{vs:List V}{its:List QS},Ib H k vs->Vals vs its->fL P w h (k.map qi) its
 | [],_,_,e,r=>by cases e;cases r;exact .nil
 | .inl i::ks,_,_,⟨r,e,q⟩,z=>by
  subst e;cases z with
  |cons z1 z2=>obtain⟨t,rfl⟩:=z1;exact .val (mC i t) (oC ok q z2)
 | .inr l::ks,_,_,⟨c,r,e,hc,q⟩,z=>by
  subst e;cases z with
  |cons z1 z2=>cases z1;refine .tup (cG ok ?_) (oC ok q z2);rw[hc,Nf];rfl
theorem ui (ok:HOk P w H h)(q:oB H k b):(kW P w).is h (k.map qi) b:=by obtain⟨vs,e,q⟩:=q;obtain⟨_,its,r,o,h1,h2,n,h3⟩:=(show ObjOk P w H h b (.tup vs) from ok b _ e);exact⟨o,its.toArray,n,h1,h2,h3,by simpa using oC ok q r⟩
def vz (xs:NX):List (NK×Addr×QS):=xs.map fun x=>(x.1.map qi,x.2)
theorem A_ (ok:HOk P w H h){xs:NX}(d:fZ a xs h)(ks:∀ x∈xs,oB H x.1 x.2.1):h.DictOfH (kW P w) a (vz xs):=by
 obtain⟨o,es,ep,h1,h2,h3,h4,h5⟩:=d;refine⟨o,es,ep,h1,h2,h3,?_,fun x hx=>?_,?_⟩
 .rw[h4];unfold vz;rw[Nf];apply M0;intro x _;show _=entryOfKey (kW P w) (x.1.map qi,x.2);unfold entryOfKey;rw[xY]
 .obtain⟨y,hy,rfl⟩:=Md.mp hx;exact ui ok (ks y hy)
 .unfold vz;rw[Nf];exact MQ.mpr ((MQ.mp h5).imp fun z e=>z (kX e))
theorem Ba (d:h.DictOfH (kW P w) a (vz xs)):fZ a xs h:=by
 obtain⟨o,es,ep,h1,h2,h3,h4,_,h5⟩:=d;refine⟨o,es,ep,h1,h2,h3,?_,?_⟩
 .rw[h4];unfold vz;rw[Nf];apply M0;intro x _;show entryOfKey (kW P w) (x.1.map qi,x.2)=_;unfold entryOfKey;rw[xY]
 .unfold vz at h5;rw[Nf]at h5;exact MQ.mpr ((MQ.mp h5).imp fun z e=>z (MT (List.map qi) e))
theorem xZ (xs:NX)(k:List K0):(atKey (vz xs) (k.map qi)).isSome=vy (xs.map (·.1)) k:=by
 unfold atKey vz;rw[O4,Oa,List.find?_isSome];unfold vy;simp only[Qh,Md,QE];constructor
 .rintro⟨_,⟨x,hx,rfl⟩,e⟩;exact⟨_,⟨x,hx,rfl⟩,kX e⟩
 .rintro⟨_,⟨x,hx,rfl⟩,rfl⟩;exact⟨_,⟨x,hx,rfl⟩,rfl⟩
def qj (xs:NX)(k:List K0)(b:Addr)(v:QS):NX:=if vy (xs.map (·.1)) k then xs.map (fun x=>if x.1=k then (x.1,x.2.1,v) else x) else xs++[(k,b,v)]
theorem vA (xs:NX)(k:List K0)(b:Addr)(v:QS):storedH (vz xs) (k.map qi) b v=vz (qj xs k b v):=by
 unfold storedH qj;rw[xZ];by_cases hk:vy (xs.map (·.1)) k=true
 .rw[Mh hk,Mh hk];unfold vz;rw[Nf,Nf];apply M0;intro x _;show putAt (k.map qi) v (x.1.map qi,x.2)=_;unfold putAt;by_cases e:x.1=k
  .rw[Mh (by rw[e])];simp[e]
  .rw[Mj fun z=>e (kX z)];simp[e]
 .rw[Mj hk,Mj hk];unfold vz;rw[M8];rfl
end
section
theorem Ck (I:Inv X ac σ H s)(e:H a=some (.ext (fZ a xs))):fZ a xs s.heap:=(show ObjOk X.prog X.w H s.heap a (.ext (fZ a xs)) from I.aJ a _ e).1
theorem x9 (d:fZ a xs h):ObjOk P w H h a (.ext (fZ a xs)):=⟨d,let ⟨o,_,_,q,_⟩:=d;⟨o,q⟩,fun h1 h2 ⟨o,es,ep,q,r⟩ k=>⟨o,es,ep,k _ q,r⟩⟩
theorem Dx (hu:A.units+2<cLine)(I:Inv X ac σ H s)(e:H a=some (.ext (fZ a xs)))(hz:xs.length<=sizeLine)(ks:∀ x∈xs,oB H x.1 x.2.1)(hk:oB H k b)
 (h:∀ s',Inv X ac σ (upd H a (.ext (fZ a (qj xs k b r)))) s'->Q () s'):wpAny (model X.prog X.w) A (setItem (.ref a) (.ref b) r) Q E s:=by
 refine wpAny_setItem_heap (knd:=kW X.prog X.w) (hsz:=by unfold vz;rw[Me];exact hz) (show A.units+1+1<cLine by lia) (ui I.aJ hk) (A_ I.aJ (Ck I e) ks) fun h' dd' hs=>h _ ?_;rw[vA]at dd';have nd:=Ba dd';exact ig I (by rw[e];exact True.intro) hs (let ⟨q,_,_,hq,_⟩:=nd;⟨q,hq⟩) (x9 nd)
def sG:TE:=fun _ H Q=>∀ p,H p=none->(p==sysModules)=false->Q (.ref p) (upd H p (.ext (fZ p [])))
theorem qk:PE X (.Dict [] [] pos) sG:=fun ac s σ H Q I h=>
 wpAny_Dict_empty ⟨.ref s.heap.objs.size,_,I.laid (a:=s.heap.objs.size) (o:=.ext (fZ s.heap.objs.size [])) (t':=s.toks) (fun _ _ q=>Mb _ q) (Mc _)
  (x9 ⟨_,#[],0,Mm _ rfl,⟨rfl,rfl,rfl⟩,rfl,rfl,OR⟩),rfl,h _ (I.aJ.fresh (Mc _)) (Ot.mpr (Ol (MS I.big)))⟩
end
section
def Cm (td ty tv:TE):TS:=fun D σ H=>tv σ H fun v H1=>td σ H1 fun x H2=>ty σ H2 fun y H3=>∃ a b xs k,x=.ref a/\y=.ref b/\H3 a=some (.ext (fZ a xs))/\xs.length<=sizeLine/\(∀ x∈xs,oB H3 x.1 x.2.1)/\oB H3 k b/\∀ r,D.nx σ (upd H3 a (.ext (fZ a (qj xs k b r))))
theorem Bb (hu:X.A.units+2<cLine)(ho:PE X o td)(hi:PE X i ty)(hv:PE X value tv)(hs:swapsWith value (some (.Subscript o i pos')) pos.line X.env=pure false) :
 PS X (.Assign [.Subscript o i pos'] value pos) (Cm td ty tv):=by
 intro ac s σ H D I h;refine wpAny_Assign_Subscript (bO (hv ac s σ H _ I h) fun r s1 ⟨v,H1,I1,rv,q1⟩=>bO (ho ac s1 σ H1 _ I1 q1) fun u s2 ⟨x,H2,I2,rx,q2⟩=>bO (hi ac s2 σ H2 _ I2 q2) fun iv s3 z=>?_) hs;obtain⟨_,H3,I3,ry,a,b,xs,k,ex,rfl,e1,e2,e3,e4,q3⟩:=z;subst ex;obtain rfl:u=Value.ref a:=rx;obtain rfl:iv=Value.ref b:=ry;exact Dx hu I3 e1 e2 e3 e4 fun s4 I4=>⟨σ,_,I4,q3 r⟩
end
end L2
namespace L2
open PySem PySem.Spec PySem.Calls PyProof.Rows ST
section
theorem vB (t:TupsIn H vs its)(rv:Vals vs us):us=valsT its:=by
 unfold TupsIn at t;induction t generalizing us with
 |nil=>cases rv;rfl
 |cons q _ ih=>
  cases rv with
  |cons r s=>obtain⟨rfl,q⟩:=q;cases r;rw[ih s];rfl
theorem ma (hN:N<=300) (hs:jV X.prog X.w N):bn X (.builtin "sorted") (fun xs H Q=>∃(l:Addr)(vs:List V)(its:List dg),xs=[.ref l]/\Rd H l (.lst vs)/\TupsIn H vs its/\its.length<=N/\(∀ x∈its,x.1≠[])/\(its.map (·.1)).Nodup/\
 ∀(l':Addr)(ys:List dg),H l'=none->ys.Perm its->ys.Pairwise (fun x y=>bE x.1 y.1=true)->Q (.ref l') (upd H l' (.lst (ys.map fun y=>.ref y.2)))):=by
 intro ac s σ H xs us Q I r h;obtain⟨l,vs,its,rfl,hl,hp,hz,hne,nd,q⟩:=h;obtain⟨u,rfl,ru⟩:=fQ r;obtain rfl:u=Value.ref l:=ru;obtain⟨_,us,n,rv,hg⟩:=(show ObjOk X.prog X.w H s.heap l (.lst vs) from hl.ok I.aJ);obtain⟨_,_,g3⟩:=hp.get rv;obtain rfl:=vB hp rv;have hvl:(valsT its).length=its.length:=by simp[valsT]
 have sl:=MV;refine Ow kind_sorted plain_sorted entry_sorted (args_sorted1 _) ?_;unfold Builtin.«sorted»;refine KE (m:=checkCount "sorted" 1 1 _) (L_ (KE (collect_list (l:=l) (vs:=valsT its) ⟨_,hg,rfl,n,rfl⟩ ?_ (by rw[hvl];lia))));have k1:∀ b o,s.heap.get? b=some o->((s.heap.push (seqObj "list" #[] 0)).update s.heap.objs.size (Obj.mapSeq (·++ (valsT its).toArray))).get? b=some o:=fun b o e=>(NI _ _ (Ol (MS (Mx e)))).trans (Mb _ e);have g1:s.heap.objs.size<=((s.heap.push (seqObj "list" #[] 0)).update s.heap.objs.size (Obj.mapSeq (·++ (valsT its).toArray))).objs.size:=Nd (Mx (PK (Mm _ rfl) (·++ (valsT its).toArray)));generalize ((s.heap.push (seqObj "list" #[] 0)).update s.heap.objs.size (Obj.mapSeq (·++ (valsT its).toArray)))=h1 at k1 g1;refine KE (O6 ?_ (by rw[hvl];lia));have hoL:(h1.push (seqObj "list" (valsT its).toArray 0)).get? h1.objs.size=some (seqObj "list" (valsT its).toArray 0):=Mm _ rfl;have kk:∀ b o,s.heap.get? b=some o->(h1.push (seqObj "list" (valsT its).toArray 0)).get? b=some o:=fun b o e=>Mb _ (k1 b o e);have t1:gQ X.prog X.w (h1.push (seqObj "list" (valsT its).toArray 0)) its:=⟨fun x hx=>jR (cG I.aJ (g3 x hx)) kk,hne,nd⟩;refine KE (Nb (M3 slot_list_sort ⟨_,hoL,rfl⟩ entry_list_sort ?body (args_list_sort _)))
 case body=>
  refine hs _ _ { s with heap:=h1.push (seqObj "list" (valsT its).toArray 0) } _ _ _ _ hoL t1 hz fun ys h2 c2 hp2 hw hl2 k2=>⟨_,rfl,?_⟩;have hf:H h1.objs.size=none:=I.aJ.fresh g1;refine L_ ⟨_,rfl,.ref h1.objs.size,_,I.laid (a:=h1.objs.size) (o:=.lst (ys.map fun y=>.ref y.2)) (t':=s.toks) (fun b o e=>k2 b o (fun z=>?_) (kk b o e)) g1 ?_,rfl,q h1.objs.size ys hf hp2 hw⟩
  .subst z;exact absurd (Mx e) (QO.mpr g1)
  .refine⟨by rw[Me,hp2.length_eq];lia,valsT ys,c2,?_,hl2⟩;clear hl2 hw hp2;induction ys with
   |nil=>exact .nil
   |cons y ys ih=>exact .cons rfl ih
end
end L2
namespace L3
open PySem PySem.Spec PyProof.Rows L2
abbrev DK:=Sum bh (List bh)
inductive D where
 |bS|bl (b:Bool)|int (i:Int)|str (x:Str)|tup (ds:List D)|lst (ds:List D)|qZ (ks:List DK) (ds:List D)
mutual
noncomputable def D.flat:D->Bool
 | .lst _=>false
 | .qZ _ _=>false
 | .tup ds=>D.zB ds
 |_=>true
noncomputable def D.zB:List D->Bool
 | []=>true
 |d::ds=>d.flat&&D.zB ds
end
mutual
noncomputable def D.dep:D->Nat
 | .lst ds=>D.cE ds+1
 | .tup ds=>D.cE ds+1
 | .qZ _ ds=>D.cE ds+1000
 |_=>0
noncomputable def D.cE:List D->Nat
 | []=>0
 |d::ds=>max d.dep (D.cE ds)
end
mutual
noncomputable def iO:D->D->Bool
 | .bS,e=>match e with|.bS=>true|_=>false
 | .bl a,e=>match e with|.bl b=>a==b|.int b=>(if a then 1 else 0)==b|_=>false
 | .int a,e=>match e with|.int b=>a==b|.bl b=>a==(if b then 1 else 0)|_=>false
 | .str a,e=>match e with|.str b=>a==b|_=>false
 | .tup as,e=>match e with|.tup bs=>eqDs as bs|_=>false
 | .lst as,e=>match e with|.lst bs=>eqDs as bs|_=>false
 | .qZ ks as,e=>match e with|.qZ ls bs=>decide (ks=ls)&&eqDs as bs|_=>false
noncomputable def eqDs:List D->List D->Bool
 | [],bs=>match bs with|[]=>true|_=>false
 |a::as,bs=>match bs with|b::r=>iO a b&&eqDs as r|[]=>false
end
mutual
theorem gk:∀ d:D,iO d d=true
 | .bS=>rfl
 | .bl a=>by simp[iO]
 | .int a=>by simp[iO]
 | .str a=>by simp[iO]
 | .tup as=>by simp only[iO];exact eqDs_refl as
 | .lst as=>by simp only[iO];exact eqDs_refl as
 | .qZ ks as=>by simp only[iO,decide_true,Bool.true_and];exact eqDs_refl as
theorem eqDs_refl:∀ ds:List D,eqDs ds ds=true
 | []=>rfl
 |d::ds=>by simp only[eqDs,gk d,eqDs_refl ds,QF]
end
def DAt (H:Hp)(a:Addr)(ks:List DK)(vs:List V):Prop:=(∃ kvs:List (bh×V),Rd H a (.dK kvs)/\ks=kvs.map (fun p=>.inl p.1)/\vs=kvs.map Prod.snd)\/∃ kvs:List (List bh×V),Rd H a (.dT kvs)/\ks=kvs.map (fun p=>.inr p.1)/\vs=kvs.map Prod.snd
noncomputable def IJ:HO->Prop
 | .lst _=>True
 | .dK _=>True
 | .dT _=>True
 | .ext _=>True
 |_=>False
def Mu (H:Hp)(a:Addr):Prop:=∃ o,H a=some o/\IJ o
theorem Co (h:Rd H a u):∃ o,H a=some o:=h.elim (fun e=>⟨_,e⟩) fun⟨_,e⟩=>⟨_,e⟩
theorem x_ (h:Rd H a u)(s:∀ o,H a=some o->H' a=some o):Rd H' a u:=h.imp (s _) fun⟨o,e⟩=>⟨o,s _ e⟩
theorem DAt.obj (h:DAt H a ks vs):∃ o,H a=some o:=h.elim (fun⟨_,e,_⟩=>Co e) fun⟨_,e,_⟩=>Co e
theorem DAt.keep (h:DAt H a ks vs)(s:∀ o,H a=some o->H' a=some o):DAt H' a ks vs:=h.imp (fun⟨kvs,e,r⟩=>⟨kvs,x_ e s,r⟩) fun⟨kvs,e,r⟩=>⟨kvs,x_ e s,r⟩
theorem DAt.inj (h:DAt H a ks vs)(g:DAt H a ls ws):ks=ls/\vs=ws:=by rcases h with⟨k1,e1|⟨o1,e1⟩,r1,r2⟩|⟨k1,e1|⟨o1,e1⟩,r1,r2⟩<;>rcases g with⟨k2,e2|⟨o2,e2⟩,q1,q2⟩|⟨k2,e2|⟨o2,e2⟩,q1,q2⟩<;>(rw[e1]at e2;cases e2;try exact⟨r1.trans q1.symm,r2.trans q2.symm⟩)
noncomputable def IK:HO->Prop
 | .dK _=>False
 | .dT _=>False
 | .bQ _ (.dK _)=>False
 | .bQ _ (.dT _)=>False
 |_=>True
theorem DAt.no (h:DAt H a ks vs)(e:H a=some o)(n:IK o):False:=by rcases h with⟨k,z|⟨o',z⟩,_⟩|⟨k,z|⟨o',z⟩,_⟩<;>(rw[e]at z;cases z;exact n)
mutual
noncomputable def Is (H:Hp)(m:Addr->Prop):D->V->Prop
 | .bS,v=>v=.bS
 | .bl b,v=>v=.bl b
 | .int i,v=>v=.int i
 | .str x,v=>v=.str x
 | .tup ds,v=>∃ a vs,v=.ref a/\H a=some (.tup vs)/\IsAll H m ds vs
 | .lst ds,v=>∃ a vs,v=.ref a/\((H a=some (.lst vs)/\m a)\/∃ o,H a=some (.bQ o (.lst vs))/\m a)/\IsAll H m ds vs
 | .qZ ks ds,v=>∃ a vs,v=.ref a/\(DAt H a ks vs/\m a)/\IsAll H m ds vs
noncomputable def IsAll (H:Hp)(m:Addr->Prop):List D->List V->Prop
 | [],vs=>vs=[]
 |d::ds,vs=>∃ v r,vs=v::r/\Is H m d v/\IsAll H m ds r
end
noncomputable def F_:HO->Prop
 | .tup _=>True
 | .bQ _ _=>True
 |_=>False
section
mutual
theorem Is.mono (kp:∀ a o,H a=some o->(m a\/F_ o)->H' a=some o)(mm:∀ a o,H a=some o->m a->m' a):∀{d:D}{v:V},Is H m d v->Is H' m' d v
 | .bS,_,h=>h
 | .bl _,_,h=>h
 | .int _,_,h=>h
 | .str _,_,h=>h
 | .tup ds,_,h=>by obtain⟨a,vs,e,h1,h2⟩:=h;exact⟨a,vs,e,kp a _ h1 (.inr True.intro),IsAll.mono kp mm h2⟩
 | .lst ds,_,h=>by
  obtain⟨a,vs,e,h1,h2⟩:=h;refine⟨a,vs,e,?_,IsAll.mono kp mm h2⟩;rcases h1 with⟨h1,h3⟩|⟨o,h1,h3⟩
  .exact .inl ⟨kp a _ h1 (.inl h3),mm a _ h1 h3⟩
  .exact .inr ⟨o,kp a _ h1 (.inr True.intro),mm a _ h1 h3⟩
 | .qZ ks ds,_,h=>by obtain⟨a,vs,e,h1,h2⟩:=h;obtain⟨o,eo⟩:=h1.1.obj;exact⟨a,vs,e,⟨h1.1.keep fun o e=>kp a o e (.inl h1.2),mm a o eo h1.2⟩,IsAll.mono kp mm h2⟩
theorem IsAll.mono (kp:∀ a o,H a=some o->(m a\/F_ o)->H' a=some o)(mm:∀ a o,H a=some o->m a->m' a):∀{ds:List D}{vs:List V},IsAll H m ds vs->IsAll H' m' ds vs
 | [],_,h=>h
 |d::ds,_,h=>by obtain⟨v,r,e,h1,h2⟩:=h;exact⟨v,r,e,Is.mono kp mm h1,IsAll.mono kp mm h2⟩
end
mutual
theorem Is.inj:∀{d e:D}{v:V},Is H m d v->Is H m' e v->d=e
 | .bS,e,_,h,g=>by cases e<;>first|rfl|(cases h;first|(obtain⟨_,_,z,_⟩:=g;cases z;done)|cases g)
 | .bl _,e,_,h,g=>by cases e<;>(cases h;first|(obtain⟨_,_,z,_⟩:=g;cases z;done)|(cases g;rfl)|cases g)
 | .int _,e,_,h,g=>by cases e<;>(cases h;first|(obtain⟨_,_,z,_⟩:=g;cases z;done)|(cases g;rfl)|cases g)
 | .str _,e,_,h,g=>by cases e<;>(cases h;first|(obtain⟨_,_,z,_⟩:=g;cases z;done)|(cases g;rfl)|cases g)
 | .tup ds,e,_,h,g=>by
  obtain⟨a,vs,rfl,h1,h2⟩:=h;cases e with
  |tup es=>obtain⟨b,ws,z,g1,g2⟩:=g;cases z;rw[h1]at g1;cases g1;rw[IsAll.inj h2 g2]
  |lst es=>obtain⟨b,ws,z,g1,g2⟩:=g;cases z;rcases g1 with⟨g1,_⟩|⟨o,g1,_⟩<;>(rw[h1]at g1;cases g1)
  |qZ ls es=>obtain⟨b,ws,z,g1,g2⟩:=g;cases z;exact(g1.1.no h1 True.intro).elim
  |_=>cases g
 | .lst ds,e,_,h,g=>by
  obtain⟨a,vs,rfl,h1,h2⟩:=h;cases e with
  |tup es=>obtain⟨b,ws,z,g1,g2⟩:=g;cases z;rcases h1 with⟨h1,_⟩|⟨o,h1,_⟩<;>(rw[h1]at g1;cases g1)
  |lst es=>
   obtain⟨b,ws,z,g1,g2⟩:=g;cases z;have e:vs=ws:=by rcases h1 with⟨h1,_⟩|⟨o,h1,_⟩<;>rcases g1 with⟨g1,_⟩|⟨o',g1,_⟩<;>(rw[h1]at g1;cases g1;try rfl)
   subst e;rw[IsAll.inj h2 g2]
  |qZ ls es=>obtain⟨b,ws,z,g1,g2⟩:=g;cases z;rcases h1 with⟨h1,_⟩|⟨o,h1,_⟩<;>exact(g1.1.no h1 True.intro).elim
  |_=>cases g
 | .qZ ks ds,e,_,h,g=>by
  obtain⟨a,vs,rfl,h1,h2⟩:=h;cases e with
  |tup es=>obtain⟨b,ws,z,g1,g2⟩:=g;cases z;exact(h1.1.no g1 True.intro).elim
  |lst es=>obtain⟨b,ws,z,g1,g2⟩:=g;cases z;rcases g1 with⟨g1,_⟩|⟨o,g1,_⟩<;>exact(h1.1.no g1 True.intro).elim
  |qZ ls es=>obtain⟨b,ws,z,g1,g2⟩:=g;cases z;obtain⟨e1,e2⟩:=h1.1.inj g1.1;subst e1 e2;rw[IsAll.inj h2 g2]
  |_=>cases g
theorem IsAll.inj:∀{ds es:List D}{vs:List V},IsAll H m ds vs->IsAll H m' es vs->ds=es
 | [],es,_,h,g=>by
  cases h;cases es with
  |nil=>rfl
  |cons e es=>obtain⟨_,_,z,_⟩:=g;cases z
 |d::ds,es,_,h,g=>by
  obtain⟨v,r,rfl,h1,h2⟩:=h;cases es with
  |nil=>cases g
  |cons e es=>obtain⟨w,q,z,g1,g2⟩:=g;cases z;rw[Is.inj h1 g1,IsAll.inj h2 g2]
end
theorem IsAll.length:∀{ds:List D}{vs:List V},IsAll H m ds vs->vs.length=ds.length
 | [],_,h=>by cases h;rfl
 |d::ds,_,h=>by obtain⟨v,r,rfl,_,h2⟩:=h;simp[IsAll.length h2]
theorem IsAll.get:∀{ds:List D}{vs:List V}{i:Nat}{d:D},IsAll H m ds vs->ds[i]?=some d->∃ v,vs[i]?=some v/\Is H m d v
 | [],_,_,_,_,e=>by simp at e
 |d::ds,_,0,_,h,e=>by obtain⟨v,r,rfl,h1,h2⟩:=h;simp at e;subst e;exact⟨v,rfl,h1⟩
 |d::ds,_,i+1,_,h,e=>by obtain⟨v,r,rfl,h1,h2⟩:=h;obtain⟨w,a,b⟩:=IsAll.get (i:=i) h2 (by simpa using e);exact⟨w,by simpa using a,b⟩
end
section
variable {s:QP}{m m':Addr->Prop}
theorem kY (ok:HOk P w H s.heap)(h:(H a=some (.lst vs)/\m a)\/∃ o,H a=some (.bQ o (.lst vs))/\m a) :
 ∃ its:List QS,Vals vs its/\s.heap.IsList a its.toArray:=by
 have key:ObjOk P w H s.heap a (.lst vs)->∃ its:List QS,Vals vs its/\s.heap.IsList a its.toArray:=fun⟨_,its,n,r,e⟩=>⟨its,r,⟨_,e,rfl,n,rfl⟩⟩;rcases h with⟨h,_⟩|⟨o,h,_⟩
 .exact key (ok a _ h)
 .exact key (ok a _ h).2
theorem g9 (ok:HOk P w H s.heap)(h:H a=some (.tup vs)):∃ its:List QS,Vals vs its/\s.heap.IsTuple a its.toArray:=by obtain⟨_,its,r,e⟩:=ok a _ h;exact⟨its,r,e⟩
theorem vC (n:Nat)(e:Nat->Bool):(List.range n).all e=true↔∀ j,j<n->e j=true:=by simp[NZ,MZ]
theorem kZ:∀(ds es:List D),eqDs ds es=true↔ds.length=es.length/\∀(j:Nat)(d e:D),ds[j]?=some d->es[j]?=some e->iO d e=true
 | [],[]=>by simp[eqDs]
 | [],e::es=>by simp[eqDs]
 |d::ds,[]=>by simp[eqDs]
 |d::ds,e::es=>by
  simp only[eqDs,Nv,kZ ds es,Nl,Nat.add_right_cancel_iff];constructor
  .rintro⟨h1,h2,h3⟩;refine⟨h2,fun j x y ex ey=>?_⟩;cases j with
   |zero=>simp at ex ey;subst ex;subst ey;exact h1
   |succ j=>exact h3 j x y (by simpa using ex) (by simpa using ey)
  .rintro⟨h2,h3⟩;exact⟨h3 0 d e rfl rfl,h2,fun j x y ex ey=>h3 (j+1) x y (by simpa using ex) (by simpa using ey)⟩
theorem dw:∀{ds:List D}{j:Nat}{d:D},ds[j]?=some d->d.dep<=D.cE ds
 | [],_,_,e=>by simp at e
 |d::ds,0,_,e=>by simp at e;subst e;simp only[D.cE];lia
 |d::ds,j+1,x,e=>by have:=dw (ds:=ds) (j:=j) (d:=x) (by simpa using e);simp only[D.cE];lia
theorem ya (ok:HOk P w H s.heap){A:QT}{ds es:List D}(h1:IsAll H m ds vs)(h2:IsAll H m' es ws)(r1:Vals vs its)(r2:Vals ws its2)
 (rec:∀ d∈ds,∀ e∈es,∀(v w:V)(u u':QS),Is H m d v->Is H m' e w->RelV v u->RelV w u'->SeqAt.EqAt A.in1 s u u' (iO d e)) :
 ∀ j (z1:j<its.toArray.size) (z2:j<its2.toArray.size),SeqAt.EqAt A.in1 s its.toArray[j] its2.toArray[j] (match ds[j]?,es[j]? with|some d,some e=>iO d e|_,_=>true):=by
 intro j z1 z2;have l1:=r1.length;have l2:=r2.length;have l3:=h1.length;have l4:=h2.length;have y1:j<its.length:=by simpa using z1
 have y2:j<its2.length:=by simpa using z2
 have k1:j<ds.length:=by lia
 have k2:j<es.length:=by lia
 obtain⟨v,ev,iv⟩:=h1.get (i:=j) (d:=ds[j]) (by simp[k1]);obtain⟨v',ev',iv'⟩:=h2.get (i:=j) (d:=es[j]) (by simp[k2]);obtain⟨u,eu,ru⟩:=r1.get ev;obtain⟨u',eu',ru'⟩:=r2.get ev'
 grind
theorem yc (hl:ds.length=es.length) :
 ((List.range ds.length).all fun j=>match ds[j]?,es[j]? with|some d,some e=>iO d e|_,_=>true)=eqDs ds es:=by
 rw[Oa,vC,kZ];constructor
 .intro h;refine⟨hl,fun j d e ed ee=>?_⟩;have:=h j (Mg.mp ed).1;rw[ed,ee]at this;exact this
 .rintro⟨_,h⟩ j hj;have e1:ds[j]?=some ds[j]:=by simp[hj]
  have hj':j<es.length:=by lia
  have e2:es[j]?=some es[j]:=by simp[hj']
  rw[e1,e2];exact h j _ _ e1 e2
theorem uj (hl:ds.length≠es.length):eqDs ds es=false:=by grind [eqDs,kZ]
end
section
variable {s:QP}
abbrev ql (H:Hp)(s:QP)(m m':Addr->Prop)(A:QT)(n:Nat):Prop:=∀(d e:D)(v w:V)(u u':QS),d.dep<n->e.dep<1000->Is H m d v->Is H m' e w->RelV v u->RelV w u'->SeqAt.EqAt A.in1 s u u' (iO d e)
section
theorem k6 (ok:HOk P w H s.heap)(hn:(D.lst l1).dep<=n)(hE:(D.lst l2).dep<1000)(hu:A.units<cLine)(q1:IsAll H m l1 vs1)(q2:IsAll H m' l2 vs2)(y1:Vals vs1 its1)(y2:Vals vs2 its2)(p1:s.heap.IsList a1 its1.toArray)(p2:s.heap.IsList a2 its2.toArray)
 (rec:ql H s m m' A n):SeqAt.RcAt A s (.ref a1) (.ref a2) (iO (.lst l1) (.lst l2)):=by
 have e1:its1.toArray.size=l1.length:=by rw[Mi,<- y1.length,q1.length]
 have e2:its2.toArray.size=l2.length:=by rw[Mi,<- y2.length,q2.length]
 have hd:∀ d∈l1,d.dep<n:=fun d hd=>by obtain⟨j,hj⟩:=MJ.mp hd;have:=dw hj;simp only[D.dep]at hn;lia
 have he:∀ e∈l2,e.dep<1000:=fun d hd=>by obtain⟨j,hj⟩:=MJ.mp hd;have:=dw hj;simp only[D.dep]at hE;lia
 by_cases hl:l1.length=l2.length
 .have z:=SeqAt.RcAt.lists p1 p2 (by rw[e1,e2,hl]) hu (ya ok q1 q2 y1 y2 fun d hm e hm2 v w u u' i1 i2 r1 r2=>rec d e v w u u' (hd d hm) (he e hm2) i1 i2 r1 r2);rw[e1,yc hl]at z;exact z
 .have z:=SeqAt.RcAt.lists_lengths p1 p2 (by rw[e1,e2];simpa using hl) hu;rw[show iO (.lst l1) (.lst l2)=eqDs l1 l2 from rfl,uj hl];exact z
theorem Bc:((List.range (min l1.length l2.length)).all (fun j=>match l1[j]?,l2[j]? with|some d,some e=>iO d e|_,_=>true)&&l1.length==l2.length)=eqDs l1 l2:=by grind [yc,uj]
theorem nq (ok:HOk P w H s.heap)(hn:(D.tup l1).dep<=n)(hE:(D.tup l2).dep<1000)(hu:A.units<cLine)(q1:IsAll H m l1 vs1)(q2:IsAll H m' l2 vs2)(y1:Vals vs1 its1)(y2:Vals vs2 its2)(p1:s.heap.IsTuple a1 its1.toArray)(p2:s.heap.IsTuple a2 its2.toArray)
 (rec:ql H s m m' A n):SeqAt.RcAt A s (.ref a1) (.ref a2) (iO (.tup l1) (.tup l2)):=by
 have e1:its1.toArray.size=l1.length:=by rw[Mi,<- y1.length,q1.length]
 have e2:its2.toArray.size=l2.length:=by rw[Mi,<- y2.length,q2.length]
 have hd:∀ d∈l1,d.dep<n:=fun d hd=>by obtain⟨j,hj⟩:=MJ.mp hd;have:=dw hj;simp only[D.dep]at hn;lia
 have he:∀ e∈l2,e.dep<1000:=fun d hd=>by obtain⟨j,hj⟩:=MJ.mp hd;have:=dw hj;simp only[D.dep]at hE;lia
 have z:=O8 p1 p2 hu (ya ok q1 q2 y1 y2 fun d hm e hm2 v w u u' i1 i2 r1 r2=>rec d e v w u u' (hd d hm) (he e hm2) i1 i2 r1 r2);rw[e1,e2,Bc]at z;exact z
theorem qo (h:SeqAt.RcAt A s (.ref a1) (.ref a2) k)(hs:a1=a2->k=true):SeqAt.EqAt A s (.ref a1) (.ref a2) k:=by
 by_cases e:a1=a2
 .subst e;rw[hs rfl];exact Py _
 .exact PR e h
end
theorem Is.shape (ok:HOk P w H s.heap)(hE:d.dep<1000)(h:Is H m d v)(r:RelV v u):(d=.bS/\u=.none)\/(∃ b,d=.bl b/\u=.bool b)\/(∃ i t,d=.int i/\u=.int i t)\/(∃ x t,d=.str x/\u=.str x t)\/
 (∃ l a vs its,d=.lst l/\v=.ref a/\u=.ref a/\IsAll H m l vs/\Vals vs its/\s.heap.IsList a its.toArray)\/∃ l a vs its,d=.tup l/\v=.ref a/\u=.ref a/\IsAll H m l vs/\Vals vs its/\s.heap.IsTuple a its.toArray:=by
 cases d with
 |bS=>cases h;cases r;exact .inl ⟨rfl,rfl⟩
 |bl b=>cases h;cases r;exact .inr (.inl ⟨b,rfl,rfl⟩)
 |int i=>cases h;obtain⟨t,rfl⟩:=r;exact .inr (.inr (.inl ⟨i,t,rfl,rfl⟩))
 |str x=>cases h;obtain⟨t,rfl⟩:=r;exact .inr (.inr (.inr (.inl ⟨x,t,rfl,rfl⟩)))
 |lst l=>obtain⟨a,vs,rfl,g,q⟩:=h;cases r;obtain⟨its,y,p⟩:=kY ok g;exact .inr (.inr (.inr (.inr (.inl ⟨l,a,vs,its,rfl,rfl,rfl,q,y,p⟩))))
 |tup l=>obtain⟨a,vs,rfl,g,q⟩:=h;cases r;obtain⟨its,y,p⟩:=g9 ok g;exact .inr (.inr (.inr (.inr (.inr ⟨l,a,vs,its,rfl,rfl,rfl,q,y,p⟩))))
 |qZ k l=>exact absurd hE (by simp only[D.dep];lia)
theorem Bd (ok:HOk P w H s.heap)(hu:A.units<cLine)(rec:ql H s m m' A n)(hn:d.dep<=n)(hN:n<1000)(hE:e.dep<1000)(h1:Is H m d v)(h2:Is H m' e w')(r1:RelV v u)(r2:RelV w' u') :
 SeqAt.RcAt A s u u' (iO d e):=by
 rcases h1.shape ok (by lia) r1 with⟨rfl,rfl⟩|⟨b1,rfl,rfl⟩|⟨i1,t1,rfl,rfl⟩|⟨x1,t1,rfl,rfl⟩|⟨l1,a1,vs1,its1,rfl,rfl,rfl,q1,y1,p1⟩|⟨l1,a1,vs1,its1,rfl,rfl,rfl,q1,y1,p1⟩<;>rcases h2.shape ok hE r2 with⟨rfl,rfl⟩|⟨b2,rfl,rfl⟩|⟨i2,t2,rfl,rfl⟩|⟨x2,t2,rfl,rfl⟩|⟨l2,a2,vs2,its2,rfl,rfl,rfl,q2,y2,p2⟩|⟨l2,a2,vs2,its2,rfl,rfl,rfl,q2,y2,p2⟩;exact .none_none;exact .none_bool b2;exact .none_int i2 t2;exact .none_str x2 t2;exact .none_list p2 hu;exact .none_tuple p2 hu;exact .bool_none b1;exact .bool_bool b1 b2;exact .bool_int b1 i2 t2;exact .bool_str b1 x2 t2;exact .bool_list b1 p2 hu;exact .bool_tuple b1 p2 hu;exact .int_none i1 t1;exact .int_bool i1 t1 b2;exact .int_int i1 t1 i2 t2;exact .int_str i1 t1 x2 t2;exact .int_list i1 t1 p2 hu;exact .int_tuple i1 t1 p2 hu;exact .str_none x1 t1;exact .str_bool x1 t1 b2;exact .str_int x1 t1 i2 t2;exact .str_str x1 t1 x2 t2;exact .str_list x1 t1 p2 hu;exact .str_tuple x1 t1 p2 hu;exact .list_none p1 hu;exact .list_bool b2 p1 hu;exact .list_int i2 t2 p1 hu;exact .list_str x2 t2 p1 hu;exact k6 ok hn hE hu q1 q2 y1 y2 p1 p2 rec;exact .list_tuple p1 p2 hu;exact .tuple_none p1 hu;exact .tuple_bool b2 p1 hu;exact .tuple_int i2 t2 p1 hu;exact .tuple_str x2 t2 p1 hu;exact .tuple_list p1 p2 hu;exact nq ok hn hE hu q1 q2 y1 y2 p1 p2 rec
theorem uk (ok:HOk P w H s.heap)(hu:A.units<cLine)(rec:ql H s m m' A n)(hn:d.dep<=n)(hN:n<1000)(hE:e.dep<1000)(h1:Is H m d v)(h2:Is H m' e w')(r1:RelV v u)(r2:RelV w' u') :
 SeqAt.EqAt A s u u' (iO d e):=by
 rcases h1.shape ok (by lia) r1 with⟨rfl,rfl⟩|⟨b1,rfl,rfl⟩|⟨i1,t1,rfl,rfl⟩|⟨x1,t1,rfl,rfl⟩|⟨l1,a1,vs1,its1,rfl,rfl,rfl,q1,y1,p1⟩|⟨l1,a1,vs1,its1,rfl,rfl,rfl,q1,y1,p1⟩<;>rcases h2.shape ok hE r2 with⟨rfl,rfl⟩|⟨b2,rfl,rfl⟩|⟨i2,t2,rfl,rfl⟩|⟨x2,t2,rfl,rfl⟩|⟨l2,a2,vs2,its2,rfl,rfl,rfl,q2,y2,p2⟩|⟨l2,a2,vs2,its2,rfl,rfl,rfl,q2,y2,p2⟩;exact .same _;exact .none_bool b2;exact .none_int i2 t2;exact .none_str x2 t2;exact .none_list p2 hu;exact .none_tuple p2 hu;exact .bool_none b1;exact .bool_bool b1 b2;exact .bool_int b1 i2 t2;exact .bool_str b1 x2 t2;exact .bool_list b1 p2 hu;exact .bool_tuple b1 p2 hu;exact .int_none i1 t1;exact .int_bool i1 t1 b2;exact .int_int i1 t1 i2 t2;exact .int_str i1 t1 x2 t2;exact .int_list i1 t1 p2 hu;exact .int_tuple i1 t1 p2 hu;exact .str_none x1 t1;exact .str_bool x1 t1 b2;exact .str_int x1 t1 i2 t2;exact .str_str x1 t1 x2 t2;exact .str_list x1 t1 p2 hu;exact .str_tuple x1 t1 p2 hu;exact .list_none p1 hu;exact .list_bool b2 p1 hu;exact .list_int i2 t2 p1 hu;exact .list_str x2 t2 p1 hu;exact qo (k6 ok hn hE hu q1 q2 y1 y2 p1 p2 rec) (fun z=>by subst z;rw[Is.inj h1 h2];exact gk _);exact .list_tuple p1 p2 hu;exact .tuple_none p1 hu;exact .tuple_bool b2 p1 hu;exact .tuple_int i2 t2 p1 hu;exact .tuple_str x2 t2 p1 hu;exact .tuple_list p1 p2 hu;exact qo (nq ok hn hE hu q1 q2 y1 y2 p1 p2 rec) (fun z=>by subst z;rw[Is.inj h1 h2];exact gk _)
theorem yd (ok:HOk P w H s.heap):∀(n:Nat)(A:QT){d e:D}{v w':V}{u u':QS},A.units+n<cLine->n<1000->d.dep<=n->e.dep<1000->Is H m d v->Is H m' e w'->RelV v u->RelV w' u'->SeqAt.EqAt A s u u' (iO d e)
 |0,A,d,e,v,w',u,u',hu,hN,hn,hE,h1,h2,r1,r2=>uk ok (by lia) (fun d e v w u u' hd=>absurd hd (by lia)) hn hN hE h1 h2 r1 r2
 |n+1,A,d,e,v,w',u,u',hu,hN,hn,hE,h1,h2,r1,r2=>uk ok (by lia) (fun d e v w u u' hd he i1 i2 r1 r2=>yd ok n A.in1 (by show A.units+1+n<cLine;lia) (by lia) (by lia) he i1 i2 r1 r2) hn hN hE h1 h2 r1 r2
theorem Dy (ok:HOk P w H s.heap)(hu:A.units+n<cLine)(hN:n<1000):ql H s m m' A n:=fun d e v w u u' hd he i1 i2 r1 r2=>yd ok (n-1) A.in1 (by show A.units+1+(n-1)<cLine;lia) (by lia) (by lia) he i1 i2 r1 r2
end
abbrev St:=L2.St
inductive Res (α:Type) where
 |stuck|ok (a:α)|exc (c:Str)
noncomputable def Res.bind {α β:Type}:Res α->(α->Res β)->Res β
 | .stuck,_=>.stuck
 | .exc c,_=>.exc c
 | .ok a,k=>k a
inductive Sl where
 |val (d:D) (fr:Bool)|own (ds:List D) (fr:Bool)|JU (d:D)|LD (d:D)
noncomputable abbrev En:=List (Option Sl)
inductive R where
 |val (d:D) (fr:Bool) (al:List Nat)|new (ds:List D) (fr:Bool)|wk (d:D)
noncomputable def R.d:R->D
 | .val d _ _=>d
 | .new ds _=>.lst ds
 | .wk d=>d
noncomputable def R.fr:R->Bool
 | .val _ f _=>f
 | .new _ f=>f
 | .wk _=>true
noncomputable def R.al:R->List Nat
 | .val _ _ al=>al
 | .new _ _=>[]
 | .wk _=>[]
structure Gd where
 H₀:Hp
 Ma:Addr->Prop
 Z:Addr->Prop
 root:Option V
 J3:Option V
noncomputable abbrev Ka (H:Hp)(Ma:Addr->Prop):Gd:=⟨H,Ma,fun _=>False,none,none⟩
noncomputable abbrev Pr:=Nat->Addr->Prop
noncomputable def Gd.rt (g:Gd)(n:Nat):Option V:=if n=0 then g.root else g.J3
noncomputable def Sl.LI:Sl->Bool
 | .val _ _=>false
 |_=>true
def Cp (env:En)(j:Nat):Bool:=match env[j]? with
 |some (some sl)=>sl.LI
 |_=>false
section
theorem au (h:H a=none):Same H (upd H a o):=fun b u e=>by rw[aA (aB e h)];exact e
end
def KP (mg:Str->Option QS)(E:XK)(g:Gd)(c:Str):Prop:=∀ cls dx H',mg c=some cls->Same g.H₀ H'->E cls dx H'
section
def Ga (rs:List R):Bool:=rs.all R.fr
end
noncomputable def lim:Nat:=1000000
def Kb (ds:List D)(fr:Bool)(al:List Nat):R:=if D.zB ds then .new ds true else if al.isEmpty then .new ds fr else .val (.lst ds) fr al
section
def Dz:R2:=fun x y H Q=>∃ d e m m',Is H m d x/\Is H m' e y/\(d.dep<=50/\e.dep<=50)/\Q (.bl (iO d e)) H
theorem ye (hu:X.A.units+64<cLine):hW X (compareOp .Eq) Dz:=by intro ac s σ H x y v u Q I rx ry h;obtain⟨d,e,m,m',h1,h2,hd,q⟩:=h;exact Bd I.aJ (by lia) (Dy I.aJ (A:=X.A) (n:=50) (by lia) (by lia)) hd.1 (by lia) (by lia) h1 h2 rx ry X.prog X.w X.xe _ ⟨.bl _,H,I,rfl,q⟩
end
def nl (H0 H':Hp)(a:Addr):Prop:=H0 a=none/\Mu H' a
def Cq (g:Gd)(H':Hp)(v:V):R->Prop
 | .val d fr _=>Is H' (fun a=>nl g.H₀ H' a\/(fr=false/\g.Ma a)) d v
 | .new ds fr=>∃ a vs,v=.ref a/\H' a=some (.lst vs)/\g.H₀ a=none/\IsAll H' (fun b=>b≠a/\(nl g.H₀ H' b\/(fr=false/\g.Ma b))) ds vs
 | .wk d=>Is H' (nl g.H₀ H') d v
def Gb (mg:Str->Option QS)(E:XK)(g:Gd)(Q:VK):Res R->Prop
 | .stuck=>False
 | .exc c=>KP mg E g c
 | .ok r=>∀ v H',Same g.H₀ H'->Cq g H' v r->Q v H'
def vD (mg:Str->Option QS)(n:Nat)(F:List D->Res R):Sp:=fun vs H Q E=>vs.length=n/\∃ ds Ma,IsAll H Ma ds vs/\Gb mg E (Ka H Ma) Q (F ds)
inductive Fl where
 |nx (env:En)|rt (r:R)|bk (env:En)|ct (env:En)|rm (r:R) (env:En)
section
def IL (env:En)(i:Nat):En:=match env[i]? with
 |some (some (.own ds fr))=>env.set i (some (.val (.lst ds) fr))
 |some (some (.JU d))=>env.set i (some (.val d true))
 |some (some (.LD _))=>env.set i none
 |_=>env
def bQ (env:En)(al:List Nat):En:=al.foldl IL env
def put (env:En)(i:Nat):R->En
 | .new ds fr=>env.set i (some (.own ds fr))
 | .val d fr al=>(bQ env al).set i (some (.val d fr))
 | .wk d=>env.set i (some (.JU d))
end
structure Src where
 xs:List D
 fr:Bool
 al:List Nat
section
variable {X:Cx}
def Gc (K:QQ)(tl:TE):TI:=fun σ H R=>tl σ H fun x H1=>∃ a,x=.ref a/\(((∃ xs,SqL K H1 a xs)/\R (zQ K a) H1)\/((∃ xs,SqT K H1 a xs)/\R (J7 K a) H1))
theorem DA (hl:PE X l tl):PI X tg l (Gc X.K tl):=by
 intro ac s σ H R I h;refine bO (hl ac s σ H _ I h) fun v s1 ⟨x,H1,I1,r1,q1⟩=>?_;obtain⟨a,e,q⟩:=q1;subst e;cases r1;rcases q with⟨⟨xs,hq⟩,q⟩|⟨⟨xs,hq⟩,q⟩
 .obtain⟨its,rv,p,hz⟩:=I1.list hq;refine O2 p.isList ?_;refine⟨s1.heap.objs.size,[s1.heap.objs.size],_,_,H1,rfl,I1.kept (t':=s1.toks) fun b o e=>Mb _ e,mF a _,⟨_,Mm _ rfl,rfl,rfl⟩,fun b hb=>?_,q⟩;have e:b=s1.heap.objs.size:=by simpa using hb
  subst e;exact I1.oY (Mc _) (I1.aJ.fresh (Mc _))
 .obtain⟨its,rv,p,hz⟩:=I1.tuple hq;refine wpAny_pyIter_tuple (show s1.heap.IsTuple a its.toArray from p) ?_;refine⟨s1.heap.objs.size,[s1.heap.objs.size],_,_,H1,rfl,I1.kept (t':=s1.toks) fun b o e=>Mb _ e,rj a _,⟨_,Mm _ rfl,rfl,rfl⟩,fun b hb=>?_,q⟩;have e:b=s1.heap.objs.size:=by simpa using hb
  subst e;exact I1.oY (Mc _) (I1.aJ.fresh (Mc _))
end
theorem fB:∀(names:List (Str×NameKind))(cs:List (Str×Addr)),(∀ x∈names,x.2=.free->∃ c,env.cells.lookup x.1=some c)->(∀ y c,cs.lookup y=some c->env.cells.lookup y=some c)->
 ∃ cl,(forIn names cs fun(x:Str×NameKind)(r:List (Str×Addr))=>(do
  if (x.2==.free)=true then
   let c <- cellOf env x.1
   pure (ForInStep.yield ((x.1,c)::r))
  else pure (ForInStep.yield r):Sem (ForInStep (List (Str×Addr)))))=pure cl/\(∀ y c,cl.lookup y=some c->env.cells.lookup y=some c)/\(∀ x∈names,x.2=.free->∃ c,cl.lookup x.1=some c)/\(∀ y c,cs.lookup y=some c->∃ c',cl.lookup y=some c')
 | [],cs,_,h=>⟨cs,by simp,h,fun _ z=>absurd z (by simp),fun y c e=>⟨c,e⟩⟩
 |(n,k)::r,cs,hf,h=>by
  by_cases hk:k=.free
  .subst hk;obtain⟨c,hc⟩:=hf (n,.free) (by simp) rfl;have hco:cellOf env n=pure c:=by simp[cellOf,hc]
   have h':∀ y c',((n,c)::cs).lookup y=some c'->env.cells.lookup y=some c':=fun y c' e=>by
    rw[OP]at e;cases hy:y==n with
    |true=>rw[hy]at e;cases e;rw[eq_of_beq hy];exact hc
    |false=>rw[hy]at e;exact h y c' e
   obtain⟨cl,e1,e2,e3,e4⟩:=fB r ((n,c)::cs) (fun x hx=>hf x (by simp[hx])) h';have self:∃ c',cl.lookup n=some c':=e4 n c (by simp[OP]);refine⟨cl,?_,e2,fun x hx hxf=>?_,fun y c' e=>?_⟩
   .rw[List.forIn_cons];simp only[Ou,O_,hco,pure_bind];exact e1
   .rcases Mv.mp hx with rfl|hx
    .exact self
    .exact e3 x hx hxf
   .by_cases hy:y=n
    .rw[hy];exact self
    .refine e4 y c' ?_;have hb:(y==n)=false:=by simpa using hy
     rw[OP,hb];exact e
  .obtain⟨cl,e1,e2,e3,e4⟩:=fB r cs (fun x hx=>hf x (by simp[hx])) h;refine⟨cl,?_,e2,fun x hx hxf=>?_,e4⟩
   .rw[List.forIn_cons];have hkb:(k==NameKind.free)=false:=by simpa using hk
    simp only[hkb,Mz,Nm,pure_bind];exact e1
   .rcases Mv.mp hx with rfl|hx
    .exact absurd hxf hk
    .exact e3 x hx hxf
theorem md (h:∀ x∈scope.names,x.2=.free->∃ c,env.cells.lookup x.1=some c) :
 ∃ cl,closureFor scope env=pure cl/\(∀ y c,cl.lookup y=some c->env.cells.lookup y=some c)/\(∀ x∈scope.names,x.2=.free->∃ c,cl.lookup x.1=some c):=by
 obtain⟨cl,e1,e2,e3,_⟩:=fB scope.names [] h (fun _ _ e=>by simp at e);refine⟨cl,?_,e2,e3⟩;unfold closureFor;refine Eq.trans ?_ (show((pure cl:Sem (List (Str×Addr))) >>= fun cs=>pure cs)=pure cl by simp);rw[<- e1]
 all_goals first
  |rfl
  |(congr 1;congr 1;funext x r;obtain⟨n,k⟩:=x;first|rfl|(dsimp only;split<;>simp_all))
theorem jB {f:Str->NameKind->NameKind}:∀(names:List (Str×NameKind))(y:Str),(names.map fun x=>(x.1,f x.1 x.2)).lookup y=(names.lookup y).map (f y)
 | [],y=>rfl
 |(n,k)::r,y=>by
  rw[MC,OP,OP];cases h:y==n with
  |true=>rw[eq_of_beq h];rfl
  |false=>exact jB r y
theorem gm (scope:Scope)(env:Env)(y:Str):(relabel scope env).names.lookup y=(scope.names.lookup y).map fun k=>if (k==.free&&env.scope.kind==.function&&env.kindOf y==some .cell)=true then .cell else k:=by
 have e:(relabel scope env).names=scope.names.map fun x=>(x.1,(fun n k=>if (k==NameKind.free&&env.scope.kind==.function&&env.kindOf n==some .cell)=true then NameKind.cell else k) x.1 x.2):=by unfold relabel;refine M0 fun x _=>?_;obtain⟨n,k⟩:=x;dsimp only;split<;>rfl
 rw[e];exact jB (f:=fun n k=>if (k==NameKind.free&&env.scope.kind==.function&&env.kindOf n==some .cell)=true then NameKind.cell else k) scope.names y
theorem oE (h:scope.names.lookup y=some .free):(relabel scope env).names.lookup y=some .cell\/(relabel scope env).names.lookup y=some .free:=by
 rw[gm,h];simp only[Option.map_some];split
 .exact .inl rfl
 .exact .inr rfl
noncomputable def aU (X:Cx)(scope:Scope)(N:List Str)(cl:List (Str×Addr))(C:Addr)(s:QP)(H:Hp)(ex:List Addr):Cx:={ X with N:=N,s₀:=s,H₀:=H,env:=compEnvC scope cl C X.env,outer:=X.stack,ex:=ex,fn:=fun _=>false,pn:=[],xe:=fun _ _=>False }
section
theorem Be (I:L2.Inv X ac σ H s)(hkind:scope.kind=.function)(hcell:∀ y∈scope.names,y.2≠.cell)(hcl:∀ y c,cl.lookup y=some c->X.env.cells.lookup y=some c)(hhas:∀ x∈scope.names,x.2=.free->∃ c,cl.lookup x.1=some c)
 (hC:s.heap.objs.size<=C) (hex:∀ b∈ex,gN X ac H b/\b<s.heap.objs.size):(aU X scope N cl C s H ex).Ok where
 mod:=I.ok.mod
 kind:=hkind
 glob:=I.ok.glob
 blt:=I.ok.blt
 above:=hC
 inj:=fun x y c h1 h2=>I.ok.inj x y c (hcl x c h1) (hcl y c h2)
 has:=fun y hy=>by
  have key:∀ k,(relabel scope X.env).names.lookup y=some k->(k=.cell\/k=.free)->∃ c,cl.lookup y=some c:=fun k e hk=>by
   rw[gm]at e;cases q:scope.names.lookup y with
   |none=>rw[q]at e;cases e
   |some k0=>
    have hm:=N7 q;have h0:=hcell _ hm;have hf:k0=.free:=by
     rw[q]at e;simp only[Option.map_some,QD]at e;split at e
     .rename_i z;simp only[Nv,Pq]at z;exact z.1.1
     .rcases hk with hk|hk
      .exact absurd (e.trans hk) h0
      .exact e.trans hk
    exact hhas _ hm hf
  rcases hy with hy|hy
  .exact key _ hy (.inl rfl)
  .exact key _ hy (.inr rfl)
 E_:=fun _ _ h=>by cases h
 hd:=I.ok.hd
 frames:=I.ok.frames
 wA:=.inl rfl
 Im:=fun b hb=>⟨MS (MY (hex b hb).2 hC),fun x c e=>(hex b hb).1.2.2.2.2.1 x c (hcl x c e)⟩
 bs:=fun b o e=>I.bs b o e
 zE:=Mq I.ok.zE I.sz
 tw:=fun b o e hb=>by
  rcases (hex b hb).1.2.2.2.1 with z|z
  .exact I.ok.tw b o e z
  .exact absurd (MY (Mx e) (Mq I.ok.zE z)) (Oj _)
 wq:=fun b hb hfs=>by
  rcases Mv.mp (I.lL b hfs) with z|z
  .exact(hex b hb).1.2.1 z
  .exact(hex b hb).1.2.2.1 z
 iZ:=I.stack
 BQ:=I.oZ
 kt:=I.kt
structure HB (X:Cx) (scope:Scope) (capN:List Str) (caps:List Nat):Prop where
 at':∀(k:Nat)(y:Str),capN[k]?=some y->∃ j:Nat,caps[k]?=some j/\X.N[j]?=some y
 out:∀ y∈capN,X.env.kindOf y=some .cell\/X.env.kindOf y=some .free
 KI:∀ y∈capN,scope.names.lookup y=some .free
 len:caps.length=capN.length
noncomputable def gO (σ:St)(caps:List Nat):St:=caps.map fun j=>(σ[j]?).join
theorem yf (I:L2.Inv X ac σ H s)(hkind:scope.kind=.function)(hcell:∀ y∈scope.names,y.2≠.cell)(hcl:∀ y c,cl.lookup y=some c->X.env.cells.lookup y=some c)(hhas:∀ x∈scope.names,x.2=.free->∃ c,cl.lookup x.1=some c)
 (hC:s.heap.objs.size<=C) (hex:∀ b∈ex,gN X ac H b/\b<s.heap.objs.size) (hc:HB X scope capN caps) (kp:∀ b o,s.heap.get? b=some o->h4.get? b=some o) (ns:h4.Ns C m4) :
 L2.Inv (aU X scope (tN++capN) cl C s H ex) [] (List.replicate tN.length none++gO σ caps) H { s with heap:=h4,toks:=tk } where
 ok:=Be I hkind hcell hcl hhas hC hex
 os:=rfl
 bare:=I.bare
 base:=Un.kept kp
 loc:=by
  refine⟨m4,ns,fun i y v e1 e2 e3=>?_⟩;by_cases hlt:i<tN.length
  .rw[MM (by simpa using hlt),List.getElem?_replicate]at e2;rw[Mh hlt]at e2;cases e2
  .obtain⟨k,rfl⟩ : ∃ k,i=tN.length+k:=⟨i-tN.length,by lia⟩;have e1:capN[k]?=some y:=by
    have e1:(tN++capN)[tN.length+k]?=some y:=e1
    rwa [Mw (by lia),PU]at e1
   have e2:(gO σ caps)[k]?=some (some v):=by
    rwa [Mw (by simp),OY,PU]at e2
   obtain⟨j,ej,eN⟩:=hc.at' k y e1;have e4:σ[j]?=some (some v):=by
    unfold gO at e2;rw[ME,ej]at e2;have e2:(σ[j]?).join=some v:=by simpa using e2
    cases q:σ[j]? with
    |none=>rw[q]at e2;cases e2
    |some o=>rw[q]at e2;cases o with
     |none=>cases e2
     |some w=>cases e2;rfl
   have hm:=MW e1;obtain⟨m,hn,hl⟩:=I.loc;have hout:=hc.out y hm;obtain⟨u,r,l⟩:=hl j y v eN e4 (.inr hout);refine⟨u,r,.inr ⟨oE (hc.KI y hm),?_⟩⟩;obtain⟨c,hcl2⟩:=hhas (y,.free) (N7 (hc.KI y hm)) rfl;refine⟨c,hcl2,?_⟩;rcases l with⟨l,_⟩|⟨_,c',e5,z⟩
   .rcases hout with h|h<;>(rw[h]at l;cases l)
   .have:=hcl y c hcl2;rw[e5]at this;cases this;obtain⟨o,ho,hd⟩:=z;exact⟨o,kp _ o ho,hd⟩
 cell:=fun y c e=>by obtain⟨v,o,ho,hd⟩:=I.cell y c (hcl y c e);exact⟨v,o,kp _ o ho,hd⟩
 free:=I.aJ.fresh hC
 d5:=fun y c e=>I.d5 y c (hcl y c e)
 pin:=fun p hp=>absurd (show p∈([]:List (Addr×Obj)) from hp) (by simp)
 aJ:=I.aJ.kept kp
 len:=by simp[aU,gO,hc.len]
theorem vE (I:L2.Inv X ac σ H s)(hX:X'=aU X scope N cl C s H ex)(hC:s.heap.objs.size<=C)(hex:∀ b∈ex,gN X ac H b/\b<s.heap.objs.size)
 (I':L2.Inv X' pl σ' H' s'):L2.Inv X ac σ H' s'/\gN X ac H' C:=by
 subst hX;refine⟨I.CD (ch:=ex) I'.os I'.base I'.aJ I'.bare fun b hb=>?_,I.oY hC I'.free⟩;obtain⟨_,h2,h3,h4,h5,h6⟩:=(hex b hb).1;exact⟨h4,h2,h5,h6⟩
theorem ul (I:L2.Inv X ac σ H s)(hf:gN X ac H C)(sb:Heap.SameBut C s.heap h'):L2.Inv X ac σ H { s with heap:=h' }:=I.turned (t':=s.toks) (it:=C) (fun b o hb e=>(sb.2 b hb).trans e) hf.1 hf.2.1 hf.2.2.2.1 hf.2.2.2.2.1 hf.2.2.2.2.2
end
section
def DB (X:Cx)(ifs:List Expr)(tt:TT):Prop:=∀(ac:List (Addr×Obj))(s:QP)(σ:St)(H:Hp)(Q:Bool->Hp->Prop),L2.Inv X ac σ H s->tt σ H Q->
 wpAny (model X.prog X.w) X.A (forIn ifs true fun c r=>if r=true then do let ok <- isTrue c X.env (eval c X.env);pure (ForInStep.yield ok) else pure (ForInStep.yield r)) (TP X ac σ Q) X.xe s
theorem gF:DB X [] (fun _ H Q=>Q true H):=fun _ _ σ H Q I q=>wpAny_tests_nil ⟨H,I,q⟩
theorem Bf (h:PT X c tt):DB X [c] tt:=fun ac s σ H Q I q=>wpAny_tests_one (h ac s σ H Q I q)
theorem vF (hX:X'=aU X scope (tN++capN) cl C s3 H3 fp)(T:Turn X.prog X.w X.K tg J fp it tn)(hcalm:X.calm=true)
 (I4:L2.Inv X' [] (List.replicate tN.length none++σc) H3 s4) (bJ:X'.N.length=tN.length+σc.length) (st4:tn 0 s4.heap) (hf:∀ b∈fp,gN X' [] H3 b)
 (hg:PG X' tg gt) (ht:DB X' ifs tt) (he:PE X' elt te)
   (W:Nat->Nat->List V->Hp->Prop) (Fin:List V->Hp->Prop) (w0:∃ m,W 0 m [] H3)
   (turn:∀ i m acc H,W i m acc H->H Dl=some (.lst acc)/\((J.stop i H/\Fin acc H)\/(J.go i H/\∀ xv H' o,J.tD i H xv H'->o.length=tN.length->gt xv (o++σc) H' fun σ2 H1=>(∀ j:Nat,tN.length<=j->σ2[j]?=(o++σc)[j]?)/\tt σ2 H1 fun b H2=>if b=true then
     te σ2 H2 fun y H5=>H5 Dl=some (.lst acc)/\acc.length<sizeLine/\∃ m',m'<m/\W (i+1) m' (acc++[y]) (upd H5 Dl (.lst (acc++[y]))) else ∃ m',m'<m/\W (i+1) m' acc H2)))
   (R:Result->QP->Prop) (hR:∀ σ' H' acc s',L2.Inv X' [] σ' H' s'->H' Dl=some (.lst acc)->Fin acc H'->R (.ok .next) s') :
   codeAny (model X.prog X.w) X.A (.compLoop (.ListComp elt [⟨tg,iter,ifs,0⟩] scope pos) 0 (.ref it) (.ref Dl) (compEnvC scope cl C X.env)) R s4:=by
  obtain⟨m0,w0⟩:=w0;have eA:X'.A=X.A:=by rw[hX];rfl
  have eP:X'.prog=X.prog:=by rw[hX];rfl
  have eW:X'.w=X.w:=by rw[hX];rfl
  have eK:X'.K=X.K:=by rw[hX];rfl
  have eE:X'.env=compEnvC scope cl C X.env:=by rw[hX];rfl
  have eX:X'.xe=fun _ _=>False:=by rw[hX];rfl
  have eC:X'.calm=true:=by rw[hX];exact hcalm
  have stat:∀{H':Hp},(∀ b∈fp,H' b=none)->∀ b∈fp,gN X' [] H' b:=fun hn b hb=>⟨hn b hb,(hf b hb).2⟩;refine codeAny_loop rfl (fun n s=>∃ i o acc H,L2.Inv X' [] (o++σc) H s/\o.length=tN.length/\tn i s.heap/\(∀ b∈fp,H b=none)/\W i n acc H) ?_ m0 ⟨0,List.replicate tN.length none,[],H3,I4,by simp,st4,fun b hb=>(hf b hb).1,w0⟩;rintro n s5 ⟨i,o,acc,H5,I5,lo,st5,fr5,w5⟩;show wpAny _ X.A ((compTurn (.ListComp elt [⟨tg,iter,ifs,0⟩] scope pos) 0 (.ref it) (.ref Dl) (compEnvC scope cl C X.env)).onRaise (fun x=>do noteFrame x (compEnvC scope cl C X.env);theTreesLotGoes x)) _ _ s5;refine wpAny_noted ?_;rw[compTurn_list];obtain⟨hD,alt⟩:=turn i n acc H5 w5;rcases alt with⟨stop,fin⟩|⟨go,step⟩
  .refine KE (wpAny_standAt (KE (NC (eA▸T.done X' eP eW eK eC i [] s5 _ H5 _ I5 (stat fr5) st5 stop) (fun r s6 ⟨hr,I6⟩=>?_) fun _ _ z=>z)));subst hr;exact L_ (hR _ H5 acc s6 I6 hD fin)
  .refine KE (wpAny_standAt (KE (NC (eA▸T.item X' eP eW eK eC i [] s5 _ H5 _ I5 (stat fr5) st5 go) (fun r s6 ⟨u,hr,h6⟩=>?_) fun _ _ z=>z)));subst hr;refine KE (NC h6 (fun _ s7 ⟨xv,H7,I7,r7,y7,st7,fr7⟩=>?_) fun _ _ z=>z);have I7':=I7.pinned (stat fr7) (T.obj _ _ st7);have hg':=hg _ s7 _ H7 xv u _ I7' r7 (step xv H7 o y7 lo);rw[eP,eW,eA,eE,eX]at hg';refine KE (NC hg' (fun _ s8 ⟨σ8,H8,I8,shp,q8⟩=>?_) fun _ _ z=>z.elim);obtain⟨o2,Dq,eσ⟩ : ∃ o2:St,o2.length=tN.length/\σ8=o2++σc:=by
    have l8:σ8.length=tN.length+σc.length:=I8.len.trans bJ;refine⟨σ8.take tN.length,by rw[MU];lia,?_⟩;have ed:σ8.drop tN.length=σc:=by
     apply N2
     intro j;rw[PL,shp (tN.length+j) (by lia),Mw (by lia),lo,PU]
    rw[<- ed,MP]
   subst eσ;have ht':=ht _ s8 _ H8 _ I8 q8;rw[eP,eW,eA,eE,eX]at ht';refine KE (NC ht' (fun ok s9 ⟨H9,I9,q9⟩=>?_) fun _ _ z=>z.elim);have again:∀{s':QP}{H':Hp},L2.Inv X' ([]++kf fp s7.heap) (o2++σc) H' s'->L2.Inv X' [] (o2++σc) H' s'/\tn (i+1) s'.heap/\∀ b∈fp,H' b=none:=fun{s' H'} J'=>by refine⟨J'.i3,T.keep _ _ _ st7 fun b hb ob e=>(J'.pin (b,ob) (MX _ (MX _ (fm hb e)))).1,fun b hb=>?_⟩;obtain⟨ob,e,d⟩:=T.obj _ _ st7 b hb;exact(J'.pin (b,ob) (MX _ (MX _ (fm hb e)))).2.1
   cases ok with
   |false=>obtain⟨m',hm,w9⟩:=(show ∃ m',m'<n/\W (i+1) m' acc H9 from by simpa using q9);obtain⟨a1,a2,a3⟩:=again I9;exact L_ ⟨rfl,m',hm,i+1,o2,acc,H9,a1,Dq,a2,a3,w9⟩
   |true=>
    have q9:te (o2++σc) H9 fun y H5=>H5 Dl=some (.lst acc)/\acc.length<sizeLine/\∃ m',m'<n/\W (i+1) m' (acc++[y]) (upd H5 Dl (.lst (acc++[y]))):=by simpa using q9
    have he':=he _ s9 _ H9 _ I9 q9;rw[eP,eW,eA,eE,eX]at he';refine KE (KE (NC he' (fun v s10 ⟨y,H10,I10,ry,eD,hl,m',hm,w10⟩=>?_) fun _ _ z=>z.elim));have hm':=mO (X:=X') _ s10 _ H10 (.ref Dl) [y] (.ref Dl) [v] (fun w H'=>w=.bS/\H'=upd H10 Dl (.lst (acc++[y]))) I10 rfl (.cons ry .nil) ⟨Dl,acc,y,rfl,rfl,eD,hl,rfl,rfl⟩;rw[eP,eW,eA,eX]at hm';refine KE (NC hm' (fun _ s11 ⟨w,H11,I11,_,_,eH⟩=>?_) fun _ _ z=>z.elim);subst eH;obtain⟨a1,a2,a3⟩:=again I11;exact L_ (L_ ⟨rfl,m',hm,i+1,o2,acc++[y],_,a1,Dq,a2,a3,w10⟩)
end
structure ck (X:Cx) (scope:Scope) (tN:List Str) (capN:List Str) (caps:List Nat):Prop where
 kind:scope.kind=.function
 CC:∀ y∈scope.names,y.2≠.cell
 names:∀ y∈scope.names,y.2=.local->scope.names.lookup y.1=some .local
 own:∀ x∈tN,scope.names.lookup x=some .local
 free:∀ y∈scope.names,y.2=.free->X.env.kindOf y.1=some .cell\/X.env.kindOf y.1=some .free
 cap:HB X scope capN caps
 nd:(tN++capN).Nodup
section
def cq (X:Cx)(scope:Scope)(tg:Expr)(tN:List Str)(capN:List Str)(caps:List Nat)(elt:Expr)(ifs:List Expr)(σ:St)(Fin:Addr->List V->Hp->Prop)(J:It)(H2:Hp):Prop:=
 ∀(Dl:Addr),H2 Dl=none->∀(cl:List (Str×Addr))(C:Addr)(s3:QP)(fp:List Addr),∃(gt:TG)(tt:TT)(te:TE)(W:Nat->Nat->List V->Hp->Prop),
  PG (aU X scope (tN++capN) cl C s3 (upd H2 Dl (.lst [])) fp) tg gt/\DB (aU X scope (tN++capN) cl C s3 (upd H2 Dl (.lst [])) fp) ifs tt/\PE (aU X scope (tN++capN) cl C s3 (upd H2 Dl (.lst [])) fp) elt te/\(∃ m,W 0 m [] (upd H2 Dl (.lst [])))/\
  ∀ i m acc H,W i m acc H->H Dl=some (.lst acc)/\((J.stop i H/\Fin Dl acc H)\/(J.go i H/\∀ xv H' (o:St),J.tD i H xv H'->o.length=tN.length->gt xv (o++gO σ caps) H' fun σ2 H1=>(∀ j:Nat,tN.length<=j->σ2[j]?=(o++gO σ caps)[j]?)/\tt σ2 H1 fun b H2=>if b=true then
   te σ2 H2 fun y H5=>H5 Dl=some (.lst acc)/\acc.length<sizeLine/\∃ m',m'<m/\W (i+1) m' (acc++[y]) (upd H5 Dl (.lst (acc++[y]))) else ∃ m',m'<m/\W (i+1) m' acc H2))
theorem nu {use:Option (QS->Sem Unit)}{Qv:QS->QP->Prop}{Fin:Addr->List V->Hp->Prop}(hc:X.calm=true)(S:ck X scope tN capN caps)(I:L2.Inv X ac σ H s)(hi:PI X tg iter wi)
 (h:wi σ H (cq X scope tg tN capN caps elt ifs σ Fin))
 (hu:∀(Dl C:Addr)(acc:List V)(H':Hp)(s':QP),L2.Inv X ac σ H' s'->gN X ac H' C->H' Dl=some (.lst acc)->Fin Dl acc H'->(∃ m,s'.heap.Ns C m)->compPost (model X.prog X.w) X.A X.xe use Qv (.ref Dl) C (.ok .next) s')
 (hs:autoParam (∀ x,foldedSetIterable iter X.env x=pure x) QX._auto_1) :
 wX X (comprehension (.ListComp elt [⟨tg,iter,ifs,0⟩] scope pos) scope X.env (firstIterPos [⟨tg,iter,ifs,0⟩] pos) (newList []) false (eval iter X.env) use) Qv X.xe s:=by
 obtain⟨cl,ecl,hcl,hhas⟩:=md (scope:=scope) (env:=X.env) fun y hy hf=>I.ok.has y.1 (S.free y hy hf);refine wpAny_comprehension_free rfl hs ecl S.kind S.names (bO (hi ac s σ H _ I h) fun v s1 h1=>bO h1 fun itv s2 h2=>?_);obtain⟨it,fp,tn,J,H2,rfl,I2,T,st2,f2,goal⟩:=h2;refine Nc (wpAny_newFunctionEnv S.CC (by intro y hy;simp at hy) (fun h₁ hns₁ hsb₁=>?_) S.kind);dsimp only at hns₁ hsb₁ ⊢;have hD:H2 s2.heap.objs.size=none:=I2.aJ.fresh (Mc _);have I3:L2.Inv X ac σ (upd H2 s2.heap.objs.size (.lst [])) { s2 with heap:=s2.heap.push { cls:=.type "list",dict:=none,data:=.seq ([]:List QS).toArray } }:=I2.laid (t':=s2.toks) (fun b u e=>Mb _ e) (Mc _) ⟨ML _,[],0,.nil,Mm _ rfl⟩;generalize hs3:({ s2 with heap:=s2.heap.push { cls:=.type "list",dict:=none,data:=.seq ([]:List QS).toArray } }:QP)=s3 at I3;have e3:s2.heap.push { cls:=.type "list",dict:=none,data:=.seq ([]:List QS).toArray }=s3.heap:=by rw[<- hs3]
 rw[e3]at hns₁ hsb₁ ⊢;have kp:∀ b o,s3.heap.get? b=some o->h₁.get? b=some o:=fun b o e=>hsb₁.extBut b o (MS (Mx e)) (Mb _ e);have k23:∀ b o,s2.heap.get? b=some o->s3.heap.get? b=some o:=fun b o e=>by rw[<- e3];exact Mb _ e
 have hex:∀ b∈fp,gN X ac (upd H2 s2.heap.objs.size (.lst [])) b/\b<s3.heap.objs.size:=fun b hb=>by obtain⟨o,ho,_⟩:=T.obj 0 _ st2 b hb;have hlt:b<s2.heap.objs.size:=Mx ho;refine⟨⟨?_,(f2 b hb).2⟩,Mx (k23 b o ho)⟩;rw[aA (MS hlt)];exact(f2 b hb).1
 have es:({ s2 with heap:=h₁,toks:=s2.toks+([]:List (Str×QS)).length }:QP)={ s3 with heap:=h₁,toks:=s2.toks+([]:List (Str×QS)).length }:=by rw[<- hs3]
 have I4:L2.Inv (aU X scope (tN++capN) cl s3.heap.objs.size s3 (upd H2 s2.heap.objs.size (.lst [])) fp) [] (List.replicate tN.length none++gO σ caps) (upd H2 s2.heap.objs.size (.lst [])) { s3 with heap:=h₁,toks:=s2.toks+([]:List (Str×QS)).length }:=yf I3 S.kind S.CC hcl hhas (Mc _) hex S.cap kp hns₁;obtain⟨gt,tt,te,W,hg,ht,he,w0,turn⟩:=goal s2.heap.objs.size hD cl s3.heap.objs.size s3 fp;have st4:tn 0 h₁:=T.keep 0 _ _ st2 fun b hb o e=>kp b o (k23 b o e);have f4:∀ b∈fp,gN (aU X scope (tN++capN) cl s3.heap.objs.size s3 (upd H2 s2.heap.objs.size (.lst [])) fp) [] (upd H2 s2.heap.objs.size (.lst [])) b:=fun b hb=>by
  obtain⟨f,hlt⟩:=hex b hb;refine⟨f.1,MS hlt,fun hfs=>?_,.inl hb,fun y c e=>f.2.2.2.2.1 y c (hcl y c e),fun p hp=>absurd (show p∈([]:List (Addr×Obj)) from hp) (by simp)⟩;rcases Mv.mp (I3.lL b hfs) with z|z
  .exact f.2.1 z
  .exact f.2.2.1 z
 have loop:codeAny (model X.prog X.w) X.A (.compLoop (.ListComp elt [⟨tg,iter,ifs,0⟩] scope pos) 0 (.ref it) (.ref s2.heap.objs.size) (compEnvC scope cl s3.heap.objs.size X.env)) (compPost (model X.prog X.w) X.A X.xe use Qv (.ref s2.heap.objs.size) s3.heap.objs.size)
  { s3 with heap:=h₁,toks:=s2.toks+([]:List (Str×QS)).length }:=by
  refine vF rfl T hc I4 (by show(tN++capN).length=_;simp[gO,S.cap.len]) st4 f4 hg ht he W (Fin s2.heap.objs.size) w0 turn _ fun σ' H' acc s' I' hD' fin=>?_;obtain⟨Io,fo⟩:=vE I3 rfl (Mc _) hex I';obtain⟨m',hn',_⟩:=I'.loc;exact hu _ _ acc H' s' Io fo hD' fin ⟨m',hn'⟩
 rw[es];exact codeAny_compStart_list loop (T.self _ 0 _ _ _ st4 loop)
theorem yg (hc:X.calm=true)(S:ck X scope tN capN caps)(I:L2.Inv X ac σ H s)(hi:PI X tg iter wi)(h:wi σ H (cq X scope tg tN capN caps elt ifs σ fun Dl _ H'=>Q (.ref Dl) H'))
 (hs:autoParam (∀ x,foldedSetIterable iter X.env x=pure x) QX._auto_1):wX X (eval (.ListComp elt [⟨tg,iter,ifs,0⟩] scope pos) X.env) (EP X ac σ Q) X.xe s:=by
 rw[eval_ListComp];refine nu (use:=none) hc S I hi h (fun Dl C acc H' s' Io fo hD fin hn=>?_) hs;obtain⟨m,hn⟩:=hn;exact⟨m,hn,fun h' sb=>⟨.ref Dl,H',ul Io fo sb,rfl,fin⟩⟩
theorem yh {D:Ends}{i:Nat}(hc:X.calm=true)(S:ck X scope tN capN caps)(hN:X.N.Nodup)(hi':X.N[i]?=some y)(hy:X.env.scope.names.lookup y=some .local)
 (hsw:swapsWith (.ListComp elt [⟨tg,iter,ifs,0⟩] scope pos) (some (.Name y py)) spos.line X.env=pure true) (I:L2.Inv X ac σ H s) (hi:PI X tg iter wi)
 (h:wi σ H (cq X scope tg tN capN caps elt ifs σ fun Dl _ H'=>D.nx (σ.set i (some (.ref Dl))) H')) (hs:autoParam (∀ x,foldedSetIterable iter X.env x=pure x) QX._auto_1) :
 wX X (exec (.Assign [.Name y py] (.ListComp elt [⟨tg,iter,ifs,0⟩] scope pos) spos) X.env) (SP X ac D) X.xe s:=by
 rw[exec_Assign_Name_used _ _ _ _ hsw];refine KE (wpAny_standAt (KE ?_));show wpAny _ X.A (do let _ <- comprehension (.ListComp elt [⟨tg,iter,ifs,0⟩] scope pos) scope X.env _ (newList []) false (eval iter X.env) (some (assign (.Name y py) X.env))) _ _ s;refine KE (NC (nu (use:=some (assign (.Name y py) X.env)) (Qv:=fun _ s'=>SP X ac D .next s') hc S I hi h (fun Dl C acc H' s' Io fo hD fin hn=>?_) hs) (fun _ s' hq=>L_ (L_ hq)) fun _ _ e=>e);obtain⟨m,hn⟩:=hn;show wpAny _ X.A (assign (.Name y py) X.env (.ref Dl)) _ _ _;refine wpAny_assign_Name (mE (v:=.ref Dl) Io hN hi' (.inl hy) rfl (fun s'' I'' ⟨a,sb,ha⟩=>?_) (.inr hy));have nca:C≠a:=by
  rcases ha with z|z
  .rw[z];exact fo.2.1
  .exact Ol (fo.2.2.2.2.1 y a z)
 refine⟨m,hn.sameBut sb nca,fun h' sb'=>?_⟩;exact⟨_,H',ul I'' fo sb',fin⟩
end
noncomputable def Res.KJ {α:Type}:Res α->Res α
 | .exc _=>.stuck
 |r=>r
def IM (env:En)(j:Nat):Option Sl:=match env[j]? with
 |some (some (.val d fr))=>some (.val d fr)
 |some (some (.own ds fr))=>some (.val (.lst ds) fr)
 |some (some (.JU d))=>some (.val d true)
 |_=>none
def Ge (env:En)(n:Nat)(caps:List Nat):En:=List.replicate n none++caps.map (IM env)
def um (mk:D->Option En)(test:En->Res Bool)(elt:En->Res R):List D->Res (List R)
 | []=>.ok []
 |x::xs=>match mk x with
  |none=>.stuck
  |some e=>(test e).bind fun b=>if b then (elt e).bind fun r=>(um mk test elt xs).bind fun rs=>.ok (r::rs) else um mk test elt xs
def Gf (n:Nat)(caps:List Nat)(src:En->Res Src)(asg:D->Bool->En->Option En)(test:En->Res Bool)(elt:En->Res R):En->Res R:=fun env=>(src env).bind fun s=>if s.xs.length<=lim then
 (um (fun d=>asg d s.fr (Ge env n caps)) test elt s.xs).KJ.bind fun rs=>.ok (Kb (rs.map R.d) (Ga rs) (s.al++caps.filter (Cp env))) else .stuck
noncomputable def jC (X:Cx)(scope:Scope)(tg:Expr)(tN:List Str)(capN:List Str)(caps:List Nat)(elt:Expr)(ifs:List Expr)(wi:TI):TE:=fun σ H Q=>wi σ H (cq X scope tg tN capN caps elt ifs σ fun Dl _ H'=>Q (.ref Dl) H')
def yi (N:List Str)(ds:List D):En:=ds.map (fun d=>some (.val d false))++List.replicate (N.length-ds.length) none
def Gg:Res Fl->Res R
 | .ok (.nx _)=>.ok (.val .bS true [])
 | .ok (.rt r)=>.ok r
 | .ok _=>.stuck
 | .exc c=>.exc c
 | .stuck=>.stuck
def IN (N:List Str)(FB:En->Res Fl)(ds:List D):Res R:=Gg (FB (yi N ds))
section
theorem Bg:FM X (fun x lo hi H Q=>∃ a xs,x=.ref a/\SqT X.K H a xs/\(HT.sIx xs.length 0 lo=0/\HT.sIx xs.length xs.length hi=xs.length)/\Q x H):=by
 intro ac s σ H x v vl vu lo hi sl Q I rx hs pl pu h;obtain⟨a,xs,rfl,hx,hw,q⟩:=h;cases rx;obtain⟨its,r,ht,hz⟩:=I.tuple hx;have bJ:its.toArray.size=xs.length:=by rw[Mi];exact r.length.symm
 refine⟨"tuple",_,Nw.lookup,ht.typeIs,?_⟩;obtain⟨os,hos,hcs,hds⟩:=id hs;have hTs:s.TypeIs (.ref sl) "slice":=⟨os,hos,hcs⟩;unfold getItem
 try with_reducible refine Nb ?_
 first|refine KE (L_ ?_)|skip
 refine KE (wpAny_sequenceKey ht.typeIs (by decide) ?_);refine KE (NA (name:=Str.ofString "__getitem__") ht.typeIs Nw
  (M3 Nw ht.typeIs entry_tuple_getitem ?_ (args_tuple_getitem _ _)))
 show wpAny _ _ (Builtin.Tuple.tupleItemsOf (.ref a) >>= _) _ _ s;refine KE (tupleItemsOf_ ht ?_);refine KE (OZ hTs ?_);rw[Mh (by decide)];refine KE (HT.sliceApplied_gen hs pl pu ?_);have hyes:((((HT.sIx its.toArray.size 0 lo:Nat):Int)==0&&(1:Int)==1&&(HT.sIx its.toArray.size its.toArray.size hi-HT.sIx its.toArray.size 0 lo)==its.toArray.size)=true):=by rw[bJ,hw.1,hw.2];simp
 show wpAny _ _ (if (((HT.sIx its.toArray.size 0 lo:Nat):Int)==0&&(1:Int)==1&&(HT.sIx its.toArray.size its.toArray.size hi-HT.sIx its.toArray.size 0 lo)==its.toArray.size)=true then _ else _) _ _ s;rw[Mh hyes];have fin:EP X ac σ Q (.ref a) s:=⟨.ref a,H,I,rfl,q⟩;refine KE (m:=Builtin.Tuple.tupleIsExact (.ref a)) ?_;unfold Builtin.Tuple.tupleIsExact;refine KE (OZ ht.typeIs ?_);refine L_ ?_;rw[Mh (by decide)];exact KE (Pt (L_ ⟨_,rfl,L_ fin⟩))
end
section
noncomputable def D.ty:D->String
 | .bS=>"NoneType" | .bl _=>"bool" | .int _=>"int" | .str _=>"str" | .tup _=>"tuple" | .lst _=>"list" | .qZ _ _=>"dict"
def IQ (K:QQ) (H:Hp) (x:V) (t:QS):Prop:=jt K H x t\/(t=.type "dict"/\∃ a,x=.ref a/\IB H a)
def Kc (T:String)(d:D):Bool:=match d with
 | .bS=>T=="NoneType"
 | .bl _=>T=="bool" || T=="int"
 | .int _=>T=="int"
 | .str _=>T=="str"
 | .tup _=>T=="tuple"
 | .lst _=>T=="list"
 | .qZ _ _=>T=="dict"
def yj (T:String):Prop:=∀(K:QQ)(d:D),PySem.W.kitOne K (.type d.ty) (.type T)=some (Kc T d)
theorem yk:yj "int":=fun K d=>by cases d<;>kernel_rfl
theorem vG:yj "bool":=fun K d=>by cases d<;>kernel_rfl
theorem nz:yj "list":=fun K d=>by cases d<;>kernel_rfl
theorem k7:yj "tuple":=fun K d=>by cases d<;>kernel_rfl
theorem yl:bn X (.builtin "isinstance") (fun xs H Q=>∃ x T t b,xs=[x,.ty T]/\IQ X.K H x t/\PySem.W.kitOne X.K t (.type T)=some b/\Q (.bl b) H):=by
 intro ac s σ H xs us Q I r h;obtain⟨x,T,t,b,rfl,ty,e,q⟩:=h;obtain⟨u,c,rfl,ru,rc⟩:=mI r;obtain rfl:c=Value.type T:=rc;rcases ty with ty|⟨rfl,a,rfl,hd⟩
 .exact uZ I ru ty e fun tk=>⟨.bl b,H,I.tok tk,rfl,q⟩
 .obtain rfl:u=Value.ref a:=ru;obtain⟨t1,_⟩:=xh I hd;exact NN QA I.f6 t1 e (fun z=>nomatch z) fun tk=>⟨.bl b,H,I.tok tk,rfl,q⟩
end
section
theorem vH (hc:X.calm=true):bn X (.builtin "all") (fun xs H Q=>∃(p:Addr)(vs:List V)(bs:List Bool),xs=[.ref p]/\SqL X.K H p vs/\vs=bs.map V.bl/\Q (.bl (bs.all id)) H):=by
 intro ac s σ H xs us Q I r h;obtain⟨p,vs,bs,rfl,hq,rfl,q⟩:=h;obtain⟨u,rfl,rx⟩:=fQ r;cases rx;obtain⟨its,rv,pl,hz⟩:=I.list hq;have hh:X.A.in1.handled=none:=I.ok.hd hc;obtain⟨o,ho,_⟩:=pl.isList;have hlt:p<s.heap.objs.size:=Mx ho;refine call_all_walk (O2 pl.isList ?_);refine⟨s.heap.objs.size,_,_,_,_,_,fun i=>(bs[i]?).getD true,rfl,Walks.list hh s.heap.objs.size p (MS hlt) its.toArray,⟨⟨_,Mm _ rfl,rfl,rfl⟩,?_⟩,?_,fun h' tk hk=>?_⟩
 .exact pl.isList.at fun o e=>Mb _ e
 .intro i v s' Q' E' hv hQ';have hv:its[i]?=some v:=by simpa using hv
  have hi:i<its.length:=(Mg.mp hv).1;have hl:=rv.length;have hb:i<bs.length:=by simpa using (by rw[Me]at hl;lia:i<bs.length)
  obtain⟨u',hu,ru⟩:=rv.get (i:=i) (x:=.bl bs[i]) (by simp[hb]);rw[hv]at hu;cases hu;cases ru;have eb:bs[i]?=some bs[i]:=by simp[hb]
  dsimp only at hQ';rw[eb]at hQ';exact N0 hQ'
 .have hl:=rv.length;rw[Me]at hl;have e:((List.range its.toArray.size).all fun i=>(bs[i]?).getD true)=bs.all id:=by
   rw[Mi,<- hl];rw[Oa,NZ,NZ];constructor
   .intro h b hb;obtain⟨i,hi⟩:=MJ.mp hb;have:=h i (by simp;exact(Mg.mp hi).1);rw[hi]at this;exact this
   .intro h i hi;have hi:i<bs.length:=by simpa using hi
    have eb:bs[i]?=some bs[i]:=by simp[hi]
    rw[eb];exact h _ (Po hi)
  rw[e];refine⟨.bl _,H,?_,rfl,q⟩;have I1:L2.Inv X ac σ H { s with heap:=s.heap.push { cls:=.type "list_iterator",data:=.fields #[.ref p,.int 0 0] } }:=I.kept (t':=s.toks) fun b o e=>Mb _ e;have fo:=I.oY (H':=H) (Mc s.heap.objs.size) (I.aJ.fresh (Mc _));exact I1.turned (t':=tk) (it:=s.heap.objs.size) (fun b o hb e=>hk b o (by simpa using hb) e) fo.1 fo.2.1 fo.2.2.2.1 fo.2.2.2.2.1 fo.2.2.2.2.2
end
noncomputable def Kd (osc:Scope)(N:List Str)(scope:Scope)(tN capN:List Str)(caps:List Nat):Bool:=
 (scope.kind==.function)&&scope.names.all (fun y=>y.2 != .cell)&&scope.names.all (fun y=>y.2 != .local || scope.names.lookup y.1==some .local)&&tN.all (fun x=>scope.names.lookup x==some .local) &&
 scope.names.all (fun y=>y.2 != .free || (osc.names.lookup y.1==some .cell || osc.names.lookup y.1==some .free))&&(capN.zip caps).all (fun p=>N[p.2]?==some p.1)&&(caps.length==capN.length) &&
 capN.all (fun y=>osc.names.lookup y==some .cell || osc.names.lookup y==some .free)&&capN.all (fun y=>scope.names.lookup y==some .free)&&decide (tN++capN).Nodup
theorem ck.of (h1:X.env.scope=osc)(h2:X.N=N)(h3:Kd osc N scope tN capN caps=true):ck X scope tN capN caps:=by
 unfold Kd at h3;simp only[Nv,NZ,Bool.or_eq_true,Pq,bne_iff_ne,QE,ne_eq]at h3;obtain⟨⟨⟨⟨⟨⟨⟨⟨⟨a1,a2⟩,a3⟩,a4⟩,a5⟩,a6⟩,a7⟩,a8⟩,a9⟩,a10⟩:=h3;subst h1 h2;refine⟨a1,a2,fun y hy hl=>(a3 y hy).resolve_left fun z=>z hl,a4,fun y hy hf=>(a5 y hy).resolve_left fun z=>z hf,⟨fun k y e=>?_,a8,a9,a7⟩,a10⟩;have hk:k<capN.length:=(Mg.mp e).1;have hk2:k<caps.length:=by lia
 refine⟨caps[k],by simp[hk2],?_⟩;have hm:(y,caps[k])∈capN.zip caps:=by
  have:(capN.zip caps)[k]?=some (y,caps[k]):=by rw[Pf];exact⟨e,by simp[hk2]⟩
  exact MW this
 exact a6 _ hm
structure Fn (K:QQ) (mg:Str->Option QS) (x:Str) (st:Stmt) (ps:List Str) (f:Addr) (fd:FuncData):Prop where
 fu:z9 K x x st f fd
 bi:Binds K fd ps []
 gl:mg x=some (.ref f)
def Ic (F:List D->Res R):Sp:=fun vs H Q _=>vs.length=1/\∃ ds Ma r,IsAll H Ma ds vs/\F ds=.ok r/\∀ v H',Same H H'->Cq (Ka H Ma) H' v r->Q v H'
theorem k8:∀ ns:List Int,IsAll H m (ns.map D.int) (ns.map V.int)
 | []=>rfl
 |n::r=>⟨.int n,r.map V.int,rfl,rfl,k8 r⟩
theorem DC (hF:∀ ns:List Int,ns.length<=63->∃ f al,F [.lst (ns.map .int)]=.ok (.val (.bl true) f al))(H:Hp)(a:Addr)(ns:List Int)(hl:ns.length<=63)(hS:∃ o,H a=some (.bQ o (.lst (ns.map V.int)))) :
 Ic F [.ref a] H (fun v _=>v=.bl true) fun _ _ _=>False:=by
 obtain⟨f,al,e⟩:=hF ns hl;obtain⟨o,hS⟩:=hS;exact⟨rfl,[.lst (ns.map .int)],fun b=>b=a,_,⟨_,[],rfl,⟨a,ns.map V.int,rfl,.inr ⟨o,hS,rfl⟩,k8 ns⟩,rfl⟩,e,fun v H' _ h=>h⟩
section
variable {P:QR}{w:World}{K:QQ}{mg:Str->Option QS}{base:Heap}
theorem bD.top (h:bD P w K mg base CX k f fd ps (vD mg 1 F)):bD P w K mg base CX k f fd ps (Ic F):=h.imp fun vs H Q E ⟨hl,ds,Ma,r,is,e,q⟩=>⟨hl,ds,Ma,is,by rw[e];exact q⟩
end
theorem DD (h:vd P w l H s (fun _ _ _=>False) e s'):False:=by obtain⟨_,_,_,_,_,_,_,_,_,_,_,_,_,_,_,z⟩:=h;exact z
section
open Classical in
def eG (H:Hp)(m:Addr->Prop)(x:D)(u:QS):Bool:=decide (∃ d v,RelV v u/\Is H m d v/\iO d x=true)
theorem nA (r:RelV v u)(h:Is H m d v):eG H m x u=iO d x:=by
 unfold eG;cases q:iO d x with
 |true=>exact @Mp _ (Classical.propDecidable _) ⟨d,v,r,h,q⟩
 |false=>refine @My _ (Classical.propDecidable _) fun⟨d',v',r',h',q'⟩=>?_;have e:=L2.RelV.inj r r';subst e;have e:=Is.inj h h';subst e;rw[q]at q';cases q'
theorem jc:∀{ds:List D}{vs:List V}{us:List QS},IsAll H m ds vs->Vals vs us->us.any (eG H m x)=ds.any fun d=>iO d x
 | [],_,_,h,r=>by cases h;cases r;rfl
 |d::ds,_,_,h,r=>by
  obtain⟨v,w,rfl,h1,h2⟩:=h;cases r with
  |cons r1 r2=>rw[OJ,OJ,nA r1 h1,jc h2 r2]
def Gh (neg:Bool)(K:QQ):R2:=fun x y H Q=>∃ p ds vs d m m',y=.ref p/\(SqL K H p vs\/SqT K H p vs)/\IsAll H m ds vs/\Is H m' d x/\(D.cE ds<=50/\d.dep<=50)/\Q (.bl (if neg then !(ds.any fun e=>iO e d) else ds.any fun e=>iO e d)) H
theorem jd (I:L2.Inv X ac σ H s)(hu:A.units+50<cLine)(hx:Is H m' d x)(hE:d.dep<=50)(rx:RelV x v) :
 ∀{ds:List D}{vs:List V}{us:List QS},IsAll H m ds vs->Vals vs us->D.cE ds<=50->∀ u∈us,SeqAt.EqAt A s u v (eG H m d u)
 | [],_,_,h,r,_=>fun u hu=>by cases h;cases r;cases hu
 |e::ds,_,_,h,r,hd=>fun u hm=>by
  obtain⟨y,w,rfl,h1,h2⟩:=h;have hd':max e.dep (D.cE ds)<=50:=hd;cases r with
  |cons r1 r2=>
   rcases Mv.mp hm with rfl|hm
   .rw[nA r1 h1];exact yd I.aJ 50 A hu (by lia) (by lia) (by lia) h1 hx r1 rx
   .exact jd I hu hx hE rx h2 r2 (by lia) u hm
theorem DE (hu:X.A.units+64<cLine):hW X (compareOp .In) (Gh false X.K):=by
 intro ac s σ H x y v u Q I rx ry h;obtain⟨p,ds,vs,d,m,m',rfl,hq,hi,hx,hd,q⟩:=h;cases ry;rcases hq with hq|hq
 .obtain⟨its,r,pl,hz⟩:=I.list hq;refine SeqAt.in_listAt (eG H m d) pl.isList (fun w hw=>jd I (by grind) hx hd.2 rx hi r hd.1 w (by grind)) ⟨.bl _,H,I,rfl,?_⟩;rw[show its.toArray.any (eG H m d)=its.any (eG H m d) by simp,jc hi r];exact q
 .obtain⟨its,r,pl,hz⟩:=I.tuple hq;refine SeqAt.in_tupleAt (eG H m d) pl (fun w hw=>jd I (by grind) hx hd.2 rx hi r hd.1 w (by grind)) ⟨.bl _,H,I,rfl,?_⟩;rw[show its.toArray.any (eG H m d)=its.any (eG H m d) by simp,jc hi r];exact q
end
end L3
namespace L2
open PySem PySem.Spec PySem.Calls PyProof.Rows
end L2
namespace L3
open PySem PySem.Spec PyProof.Rows L2
section
variable {X:Cx}
noncomputable def je (neg:Bool):R2:=fun x y H Q=>∃ a o,y=.ref a/\DGetX H a x o/\Q (.bl (if neg then !o.isSome else o.isSome)) H
theorem jf (hu:X.A.units+64<cLine):hW X (compareOp .In) (je false):=by intro ac s σ H x y v u Q I rx ry h;obtain⟨a,o,rfl,g,q⟩:=h;cases ry;exact FT (by lia) I g rx fun s' I'=>⟨.bl _,H,I',rfl,q⟩
theorem jg (hu:X.A.units+64<cLine):hW X (compareOp .NotIn) (je true):=by intro ac s σ H x y v u Q I rx ry h;obtain⟨a,o,rfl,g,q⟩:=h;cases ry;exact xp (by lia) I g rx fun s' I'=>⟨.bl _,H,I',rfl,q⟩
end
def getD:List DK->List D->DK->Option D
 |k'::ks,d::ds,k=>if k'=k then some d else getD ks ds k
 |_,_,_=>none
theorem jh (t:TupsIn H vs its):∀ x∈its,H x.2=some (.tup ((iK x.1).map kV)):=by
 unfold TupsIn at t;induction t with
 |nil=>exact fun x hx=>nomatch hx
 |cons q _ ih=>
  intro x hx;rcases Mv.mp hx with rfl|hx
  .exact q.2
  .exact ih x hx
noncomputable abbrev Ke:=Int×Int×Int
noncomputable def dd (l:List Int)(x:Int):List Int:=if x∈l then l else l++[x]
def IR (xs:List Int):List Int:=xs.foldl dd []
def g2 (ts:List Ke)(x:Int):List Int:=IR ((ts.filter fun t=>decide (t.1=x)).map (·.2.1))
noncomputable def ik (i:Int):DK:=.inl (.inl i)
theorem cW:∀(k:List Int),IsAll H m (k.map .int) (k.map .int)
 | []=>rfl
 |i::k=>⟨.int i,_,rfl,rfl,cW k⟩
end L3
namespace L2
open PySem PySem.Spec PyProof.Rows
end L2
namespace L3
open PySem PySem.Spec PyProof.Rows L2
section
def uq (a b:Str):Prop:=0<b.length/\a.length<=100000/\(Txt.split a b).length<=100000/\(Builtin.Str.partsBetween a (Builtin.Str.occurrences a b 0 a.length (a.length+1)) b.length).length<=100000
instance (a b:Str):Decidable (uq a b):=by unfold uq;infer_instance
end
section
theorem eU {kvs:List (bh×V)}(h:bP kvs k=none):b7 kvs k y=kvs++[(k,y)]:=by unfold b7;rw[gc,h,Mj (by simp)]
end
noncomputable def qp (k:Int):List Int->List Int
 | []=>[k]
 |h::t=>if k=h then h::t else if k<h then k::h::t else h::qp k t
def aP:List Int->List Int
 | []=>[]
 |k::ks=>qp k (aP ks)
theorem k9 (k x:Int):∀ l,x∈qp k l↔x=k\/x∈l
 | []=>by simp[qp]
 |h::t=>by
  unfold qp;split
  .rename_i e;subst e;simp
  .split
   .simp
   .rw[Mv,k9 k x t,Mv]
    grind
theorem ur (k:Int):∀ l:List Int,l.Pairwise (·< ·)->(qp k l).Pairwise (·< ·)
 | [],_=>by simp[qp]
 |h::t,p=>by
  have p':=Np.mp p;unfold qp;split
  .exact p
  .split
   .rename_i h1 h2;refine Np.mpr ⟨fun x hx=>?_,p⟩
    grind
   .rename_i h1 h2;refine Np.mpr ⟨fun x hx=>?_,ur k t p'.2⟩
    grind [k9]
theorem gG (x:Int):∀ ks,x∈aP ks↔x∈ks
 | []=>Iff.rfl
 |k::ks=>by unfold aP;rw[k9,gG x ks,Mv]
theorem gn:∀ ks,(aP ks).Pairwise (·< ·)
 | []=>List.Pairwise.nil
 |k::ks=>by unfold aP;exact ur k _ (gn ks)
theorem jD:∀(a b:List Int),a.Pairwise (·< ·)->b.Pairwise (·< ·)->(∀ x,x∈a↔x∈b)->a=b
 | [],[],_,_,_=>rfl
 | [],y::b,_,_,h=>by have:=(h y).mpr (by simp);cases this
 |x::a,[],_,_,h=>by have:=(h x).mp (by simp);cases this
 |x::a,y::b,pa,pb,h=>by
  have pa':=Np.mp pa;have pb':=Np.mp pb;have e:x=y:=by
   have h1:=(h x).mp (by simp);have h2:=(h y).mpr (by simp)
   grind
  subst e;rw[jD a b pa'.2 pb'.2 fun z=>?_]
  grind
noncomputable abbrev IP:=Int×Int
noncomputable def dp (l:List IP)(x:IP):List IP:=if x∈l then l else l++[x]
def h1 (ts:List Ke):List IP:=(ts.map fun t=>(t.1,t.2.1)).foldl dp []
end L3
namespace L2
open PySem PySem.Spec PySem.Calls PyProof.Rows
end L2
namespace L3
open PySem PySem.Spec PyProof.Rows L2
theorem DF {K KK:QQ}{mg:Str->Option QS}{x:Str}{st:Stmt}{ps:List Str}{f:Addr}{oc:QS}{od an:Option Addr}{osl:Array (Option QS)}{kV doc pm cdv ct:QS}(U:gR K KK)
 (l:K.lookup f=some ⟨oc,od,.func (PySem.W.fnOf x x (cH st) (cb st) (aC st) .none kV doc pm an cdv ct),osl⟩) (c:PySem.W.codeIn K cdv x=true) (g:mg x=some (.ref f))
 (h:∀(kV doc pm:QS)(an:Option Addr)(cdv ct:QS)(us:List QS),us.length=ps.length->bindArgs (PySem.W.fnOf x x (cH st) (cb st) (aC st) .none kV doc pm an cdv ct) ⟨us,[]⟩=pure (ps.zip us)) :
 Fn KK mg x st ps f (PySem.W.fnOf x x (cH st) (cb st) (aC st) .none kV doc pm an cdv ct):=
 have F:z9 KK x x st f _:=xi (U.look _ _ l (fun _ _ z=>nomatch z)) (U.code c) (U.keep l)
 ⟨F,F.binds h,g⟩
end L3
namespace Pz
section
variable {κ α:Type}[DecidableEq κ]
noncomputable abbrev MD (κ α:Type):=List (κ×List α)
def MD.get (d:MD κ α)(k:κ):List α:=((d.find? fun x=>decide (x.1=k)).map (·.2)).getD []
def MD.has (d:MD κ α)(k:κ):Bool:=d.any fun x=>decide (x.1=k)
def MD.app (d:MD κ α)(k:κ)(v:α):MD κ α:=if d.has k then d.map (fun x=>if x.1=k then (x.1,x.2++[v]) else x) else d++[(k,[v])]
def MD.drop (d:MD κ α)(k:κ):MD κ α:=d.filter fun x=>decide (x.1≠k)
def MD.flat (d:MD κ α):List α:=d.flatMap (·.2)
abbrev MD.keys (d:MD κ α):List κ:=d.map (·.1)
structure MD.Ok (d:MD κ α):Prop where
 nk:d.keys.Nodup
 ne:∀ x∈d,x.2≠[]
theorem get_cons (x:κ×List α)(d:MD κ α)(k:κ):MD.get (x::d) k=if x.1=k then x.2 else MD.get d k:=by grind [MD.get]
theorem has_iff {d:MD κ α}{k:κ}:d.has k=true↔k∈d.keys:=by
 unfold MD.has
 grind
theorem get_none {d:MD κ α}{k:κ}(h:k∉d.keys):d.get k=[]:=by
 induction d with
 |nil=>rfl
 |cons x r ih=>grind [get_cons]
theorem jI {d:MD κ α}{k:κ}{l:List α}(h:k∉d.keys):MD.get (d++[(k,l)]) k=l:=by
 grind [MD.get]
theorem mh {d:MD κ α}{k k':κ}{l:List α}(h:k≠k'):MD.get (d++[(k,l)]) k'=d.get k':=by
 grind [MD.get]
theorem oF {d:MD κ α}{k:κ}{v:α}(h:k∈d.keys):MD.get (d.map (fun x=>if x.1=k then (x.1,x.2++[v]) else x)) k=d.get k++[v]:=by
 induction d with
 |nil=>cases h
 |cons x r ih=>
  rw[MC,get_cons,get_cons];by_cases e:x.1=k
  .rw[Mh e,Mh (show x.1=k from e),Mh e]
  .rw[Mj e,Mj e,Mj e];rcases Mv.mp h with q|q
   .exact(e q.symm).elim
   .exact ih q
theorem sH {d:MD κ α}{k k':κ}{v:α}(h:k≠k'):MD.get (d.map (fun x=>if x.1=k then (x.1,x.2++[v]) else x)) k'=d.get k':=by
 induction d with
 |nil=>rfl
 |cons x r ih=>grind [get_cons]
theorem bN (d:MD κ α)(k:κ)(v:α)(k':κ):(d.app k v).get k'=if k=k' then d.get k++[v] else d.get k':=by
 unfold MD.app;by_cases h:k∈d.keys
 .rw[Mh (has_iff.mpr h)];by_cases e:k=k'
  .subst e;rw[Mh rfl,oF h]
  .rw[Mj e,sH e]
 .rw[Mj (fun q=>h (has_iff.mp q))];by_cases e:k=k'
  .subst e;rw[Mh rfl,jI h,get_none h];rfl
  .rw[Mj e,mh e]
end
end Pz
namespace Pz
noncomputable def lo:List Int->Int
 | []=>0
 |x::r=>r.foldl (fun a b=>if b<a then b else a) x
structure JP (pile:Int->Int->Int):Prop where
 nn:∀{p l:Int},0<=p->0<=l->0<=pile p l
 ch:∀{p l:Int},0<=p->0<=l->∀ k:Nat,pile p l<=k↔p / 2 ^ k=l / 2 ^ k
section
variable (P:JP pile)
include P
end
section
variable {α:Type}
abbrev Q (α:Type):=MD Int (Int×α)
structure LM (pile:Int->Int->Int) (last:Int) (d:Q α):Prop where
 ok:d.Ok
 l0:0<=last
 at_:∀ x∈d,∀ y∈x.2,x.1=pile y.1 last/\last<=y.1
def DG (pile:Int->Int->Int)(last:Int)(d:Q α)(l:List (Int×α)):Q α:=l.foldl (fun d x=>d.app (pile x.1 last) x) d
def DH (d:Q α):Int:=lo d.keys
def IS (d:Q α):Int:=lo ((d.get (DH d)).map (·.1))
def mid (pile:Int->Int->Int)(d:Q α):Q α:=DG pile (IS d) (d.drop (DH d)) (d.get (DH d))
end
end Pz
namespace Pz
noncomputable abbrev Arr:=Int×Int×Int
noncomputable abbrev Rule:=Int×Int×Int×List Int
noncomputable abbrev Ie:=Int×Option Int×Option Int
abbrev TD:=List (Arr×Ie)
noncomputable def gP (t:TD)(a:Arr):Option Ie:=(t.find? fun x=>decide (x.1=a)).map (·.2)
def tput (t:TD)(a:Arr)(v:Ie):TD:=if (gP t a).isSome then t.map (fun x=>if x.1=a then (x.1,v) else x) else t++[(a,v)]
structure PS where
 told:TD
 last:Int
 lJ:Q Arr
 settled:MD (Int×Int) (Int×Int)
 o7:MD (Int×Int) (Int×Rule×Int)
abbrev RS:=MD (Int×Int) (Int×Rule)
section
variable (pile:Int->Int->Int)(rs:RS)
def takes (S:PS)(a:Arr)(p:Int):Bool:=match gP S.told a with
 |none=>true
 |some v=>decide (p<v.1)
def DI (S:PS)(a:Arr)(p:Int)(n m:Option Int):PS:={ S with told:=tput S.told a (p,n,m),lJ:=S.lJ.app (pile p S.last) (p,a) }
def ym (S:PS)(a:Arr)(p:Int)(n m:Option Int):PS:=if takes S a p then DI pile S a p n m else S
def nth1 (l:List Int):Int:=l[1]?.getD 0
def IT (S:PS)(num:Int)(r:Rule)(mid price:Int):PS:={ S with o7:=S.o7.app (mid,nth1 r.2.2.2) (num,r,price) }
def first (S:PS)(num:Int)(r:Rule)(mid price:Int):PS:=(S.settled.get (mid,nth1 r.2.2.2)).foldl (fun S x=>ym pile S (r.1,r.2.1,x.1) (price+x.2+1) (some num) (some mid)) (IT S num r mid price)
def note (S:PS)(a:Arr)(price:Int):PS:={ S with settled:=S.settled.app (a.1,a.2.1) (a.2.2,price) }
def Gi (a:Arr)(price:Int)(S:PS)(x:Int×Rule×Int):PS:=ym pile S (x.2.1.1,x.2.1.2.1,a.2.2) (x.2.2+price+1) (some x.1) (some a.1)
def Gj (a:Arr)(price:Int)(S:PS)(x:Int×Rule):PS:=if x.2.2.2.2.length=1 then ym pile S (x.2.1,x.2.2.1,a.2.2) (price+1) (some x.1) none else first pile S x.1 x.2 a.2.2 price
def DJ (S:PS)(a:Arr)(price:Int):PS:=(rs.get (a.1,a.2.1)).foldl (Gj pile a price) ((S.o7.get (a.1,a.2.1)).foldl (Gi pile a price) (note S a price))
def Ig (S:PS)(x:Int×Arr):Bool:=match gP S.told x.2 with
 |none=>false
 |some v=>decide (v.1=x.1)
def turn (S:PS)(x:Int×Arr):PS:=if Ig S x then DJ pile rs S x.2 x.1 else S
end
noncomputable def L:Nat:=16000000
end Pz
namespace Pz
def Sd (S:PS)(a:Arr)(q:Int):Prop:=(a.2.2,q)∈S.settled.get (a.1,a.2.1)
def dm (S:PS)(a:Arr)(p:Int):Prop:=∃ v,gP S.told a=some v/\v.1<=p
def Gk (sd:Arr->Int->Prop)(c:Int)(put:List Int)(t p:Int)(m:Option Int):Prop:=match put with
 | []=>m=none/\p=1/\t=c
 | [x]=>m=none/\∃ q,sd (c,x,t) q/\p=q+1
 | [x,y]=>∃ d q1 q2,m=some d/\sd (c,x,d) q1/\sd (d,y,t) q2/\p=q1+q2+1
 |_=>False
section
variable (RL:List Rule)(M:List Arr)
def Gm (sd:Arr->Int->Prop)(a:Arr)(v:Ie):Prop:=match v.2.1 with
 |none=>v.2.2=none/\v.1=0/\a∈M
 |some i=>∃(j:Nat)(r:Rule),i=j/\RL[j]?=some r/\a.1=r.1/\a.2.1=r.2.1/\Gk sd r.2.2.1 r.2.2.2 a.2.2 v.1 v.2.2
structure B (pile:Int->Int->Int) (U:List Arr) (S:PS) (rest:List (Int×Arr)):Prop where
 q:LM pile S.last S.lJ
 nd:S.lJ.flat.Nodup
 nr:rest.Nodup
 tk:(S.told.map (·.1)).Nodup
 tu:∀ a v,gP S.told a=some v->a∈U
 ju:∀ a v,gP S.told a=some v->Gm RL M (Sd S) a v
 ps:∀ a v,gP S.told a=some v->0<=v.1
 sd:∀ a p,Sd S a p->p<=S.last/\∃ v,gP S.told a=some v/\v.1=p
 sp:∀ a v,gP S.told a=some v->Sd S a v.1\/(v.1,a)∈S.lJ.flat\/(v.1,a)∈rest
 it:∀ p a,(p,a)∈S.lJ.flat\/(p,a)∈rest->dm S a p
 ns:∀ p a,(p,a)∈S.lJ.flat\/(p,a)∈rest->¬ Sd S a p
 m0:∀ a v,gP S.told a=some v->a∈M->v=(0,none,none)
end
end Pz
namespace Pz
end Pz
namespace Pz
end Pz
namespace Pz
noncomputable def en:List Rule->Nat->List (Int×Rule)
 | [],_=>[]
 |r::l,k=>((k:Int),r)::en l (k+1)
def byOne (d:RS)(x:Int×Rule):RS:=if x.2.2.2.2.length>0 then d.app (x.2.2.2.1,x.2.2.2.2[0]?.getD 0) x else d
noncomputable def S0:PS:=⟨[],0,[],[],[]⟩
variable (pile:Int->Int->Int)
variable {pile}
def At (t:TD)(a:Arr)(q:Int):Prop:=∃ w,gP t a=some w/\w.1=q
def IU (t:TD)(a:Arr)(q:Int):Prop:=∃ w,gP t a=some w/\w.1<=q
structure Good (RL:List Rule) (M U:List Arr) (t:TD):Prop where
 nd:(t.map (·.1)).Nodup
 u:∀ a v,gP t a=some v->a∈U
 ju:∀ a v,gP t a=some v->Gm RL M (At t) a v
 ps:∀ a v,gP t a=some v->0<=v.1
 m0:∀ a∈M,gP t a=some (0,none,none)
 L5:∀(j:Nat)(r:Rule),RL[j]?=some r->match r.2.2.2 with
  | []=>IU t (r.1,r.2.1,r.2.2.1) 1
  | [x]=>∀ d q,At t (r.2.2.1,x,d) q->IU t (r.1,r.2.1,d) (q+1)
  | [x,y]=>∀ d e q1 q2,At t (r.2.2.1,x,d) q1->At t (d,y,e) q2->IU t (r.1,r.2.1,e) (q1+q2+1)
  |_=>True
end Pz
namespace Pz
end Pz
namespace L4
open PySem PySem.Spec PyProof.Rows L2 L3
section
variable {κ:Type}[DecidableEq κ]
noncomputable abbrev DX (κ:Type):=List (κ×Addr×List V)
end
def Reads (t:TE)(σ:L2.St)(H:Hp)(v:V):Prop:=∀ Q:VK,Q v H->t σ H Q
def Makes (t:TE)(σ:L2.St)(H:Hp)(ws:List V):Prop:=∀ Q:VK,(∀ p,H p=none->Q (.ref p) (upd H p (.tup ws)))->t σ H Q
section
variable {K:QQ}
theorem Reads.va (h:σ[i]?=some (some v)):Reads (aj i) σ H v:=fun _ q=>⟨_,h,q⟩
theorem Reads.k:Reads (tC v) σ H v:=fun _ q=>q
theorem Reads.op (ha:Reads ta σ H x)(hb:Reads tb σ H y)(h:∀ Q:VK,Q z H->r x y H Q):Reads (bg r ta tb) σ H z:=fun Q q=>ha _ (hb _ (h Q q))
theorem Reads.ix (h:Reads ta σ H (.ref b))(hs:H b=some (.tup ws))(e:u4 ws n=some v):Reads (bg (C3 K) ta (tC (.int n))) σ H v:=h.op .k fun _ q=>⟨b,ws,n,v,rfl,rfl,SqT.of hs,e,q⟩
theorem Reads.fld (h:Reads ta σ H (.ref o))(hi:∃ dx,H o=some (.ins C dx fs))(cl:rb K C)(n:NoAttr K C f)(hl:fs.lookup f=some v):Reads (eS K ta f) σ H v:=fun Q q=>by obtain⟨dx,hi⟩:=hi;exact h _ ⟨o,C,dx,_,_,rfl,hi,cl,n,hl,q⟩
def ReadsA (t:TA)(σ:L2.St)(H:Hp)(vs:List V):Prop:=∀ Q:List V->Hp->Prop,Q vs H->t σ H Q
theorem ReadsA.ni:ReadsA aF σ H []:=fun _ q=>q
theorem ReadsA.c (h:Reads ta σ H v)(k:ReadsA tr σ H vs):ReadsA (ag ta tr) σ H (v::vs):=fun _ q=>h _ (k _ q)
theorem Makes.t (h:ReadsA tr σ H ws)(l:Nat.ble ws.length 9=true):Makes (cD tr) σ H ws:=fun _ q=>h _ ⟨Mq (Oe l) (by decide),q⟩
theorem mj (h:ReadsA tr σ H ws)(l:Nat.ble ws.length 9=true)(k:∀ p,H p=none->Q (.ref p) (upd H p (.tup ws))):cD tr σ H Q:=Makes.t h l _ k
theorem vI (h:Reads ta σ H (.ref b))(hi:∃ dx,H b=some (.ins C dx fs))(hl:fs.lookup m=none)(ha:ReadsA tr σ H vs)(k:sp (.ref b::(vs++dvs)) H Q E):dL C m sp dvs E ta tr σ H Q:=by obtain⟨dx,hi⟩:=hi;exact h _ ⟨b,dx,fs,rfl,hi,hl,ha _ k⟩
theorem KQ {Q:L2.St->Hp->Prop}(ht:H b=some (.tup [v,w]))(k:Q ((σ.set i (some v)).set j (some w)) H):wG K 2 (f9 (aE i) (f9 (aE j) wF)) (.ref b) σ H Q:=⟨b,_,rfl,SqT.of ht,rfl,_,_,rfl,_,_,rfl,rfl,k⟩
theorem e8 {t u:TS}{D:Ends}(h:Reads te σ H (.bl c))(k1:c=true->t D σ H)(k2:¬ c=true->u D σ H):cm (bK te) t u D σ H:=h _ ⟨_,rfl,IC k1 k2⟩
end
end L4
namespace L4
open PySem PySem.Spec PySem.Calls PyProof.Rows L2 L3
end L4
namespace L4
open PySem PySem.Spec PyProof.Rows L2 L3
inductive a_ {α β:Type} (R:α->β->Prop):List α->List β->Prop where
 |nil:a_ R [] []
 |cons {x y xs ys}:R x y->a_ R xs ys->a_ R (x::xs) (y::ys)
section
variable {α β:Type}{R R':α->β->Prop}
theorem a_.len (h:a_ R xs ys):xs.length=ys.length:=by
 induction h with
 |nil=>rfl
 |cons _ _ ih=>rw[Nl,Nl,ih]
theorem a_.mono (f:∀ x y,R x y->R' x y)(h:a_ R xs ys):a_ R' xs ys:=by
 induction h with
 |nil=>exact .nil
 |cons a _ ih=>exact .cons (f _ _ a) ih
theorem a_.snoc (h:a_ R xs ys)(r:R x y):a_ R (xs++[x]) (ys++[y]):=by
 induction h with
 |nil=>exact .cons r .nil
 |cons a _ ih=>exact .cons a ih
theorem a_.get (h:a_ R xs ys){i:Nat}(e:ys[i]?=some y):∃ x,xs[i]?=some x/\R x y:=by
 induction h generalizing i with
 |nil=>simp at e
 |cons a _ ih=>
  cases i with
  |zero=>simp at e;subst e;exact⟨_,rfl,a⟩
  |succ i=>simp at e;obtain⟨x,e1,e2⟩:=ih e;exact⟨x,by simpa using e1,e2⟩
theorem a_.J2 {γ δ:Type}{T:γ->δ->Prop}(f:α->γ)(g:β->δ)(k:∀ x y,R x y->T (f x) (g y))(h:a_ R xs ys):a_ T (xs.map f) (ys.map g):=by
 induction h with
 |nil=>exact .nil
 |cons a _ ih=>exact .cons (k _ _ a) ih
end
def KT (H H':Hp):Prop:=∀ a ws,H a=some (.tup ws)->H' a=some (.tup ws)
noncomputable def ji (a:Pz.Arr):List V:=[.int a.1,.int a.2.1,.int a.2.2]
def IsArr (H:Hp)(a:Pz.Arr)(v:V):Prop:=∃ p,v=.ref p/\H p=some (.tup (ji a))
def IsRule (H:Hp)(r:Pz.Rule)(v:V):Prop:=∃ p q,v=.ref p/\H p=some (.tup [.int r.1,.int r.2.1,.int r.2.2.1,.ref q])/\H q=some (.tup (r.2.2.2.map .int))
def Gn (H:Hp)(x:Int×Int)(v:V):Prop:=∃ p,v=.ref p/\H p=some (.tup [.int x.1,.int x.2])
section
variable (k:KT H H')
include k
theorem IsArr.keep (a:Pz.Arr)(v:V):IsArr H a v->IsArr H' a v:=fun⟨p,e,h⟩=>⟨p,e,k _ _ h⟩
theorem IsRule.keep (a:Pz.Rule)(v:V):IsRule H a v->IsRule H' a v:=fun⟨p,q,e,h,g⟩=>⟨p,q,e,k _ _ h,k _ _ g⟩
end
noncomputable def k2 (k:Int×Int):List bh:=[.inl k.1,.inl k.2]
theorem yn (a b:Int×Int)(h:k2 a=k2 b):a=b:=by grind [k2]
noncomputable def k1 (i:Int):bh:=.inl i
structure PA where
 o:Addr
 ta:Addr
 aq:Addr
 ap:Addr
 sa:Addr
 la:Addr
 ar:Addr
noncomputable def pf (A:PA):List (Str×V):=[("rules",.ref A.ar),("told",.ref A.ta),("offers",.ref A.aq),("settled",.ref A.sa),("lacking",.ref A.la)]
section
variable {H:Hp}
theorem Bh (s:Same H H'):KT H H':=fun a ws e=>s a _ e
end
section
def IV:R2:=qT fun i j=>.bl (decide (i<j))
end
section
variable {K:QQ}{H:Hp}{xs:DX (List bh)}
def Wk (J:L2.It)(g:TG)(tb:TS)(D:Ends)(σ:L2.St)(H:Hp):Prop:=∃ W:Nat->Nat->L2.St->Hp->Prop,(∃ m,W 0 m σ H)/\∀ i m σ H,W i m σ H->
 (J.stop i H/\D.nx σ H)\/(J.go i H/\∃ N:L2.St->Hp->Prop,(∀ σ' H',N σ' H'->∃ m',m'<m/\W (i+1) m' σ' H')/\∀ x H',J.tD i H x H'->g x σ H' fun σ2 H2=>tb { D with nx:=N,ct:=N,bk:=D.nx } σ2 H2)
theorem ce {tb:TS}{D:Ends}{σ:L2.St}(h:tl σ H fun x H1=>∃ a,x=.ref a/\(∃ xs,SqL K H1 a xs)/\Wk (zQ K a) g tb D σ H1):dJ (b8 K tl) g tb D σ H:=h
theorem KR (ht:H b=some (.tup [x,y,z]))(k:Q (((σ.set i (some x)).set j (some y)).set l (some z)) H):wG K 3 (f9 (aE i) (f9 (aE j) (f9 (aE l) wF))) (.ref b) σ H Q:=⟨b,_,rfl,SqT.of ht,rfl,_,_,rfl,_,_,rfl,_,_,rfl,rfl,k⟩
def cR:R2:=qT fun i j=>.int (i+j)
theorem Reads.add (h:Reads ta σ H (.int i))(h':Reads tb σ H (.int j)):Reads (bg cR ta tb) σ H (.int (i+j)):=h.op h' fun _ q=>⟨i,j,rfl,rfl,q⟩
end
section
variable {K:QQ}
def k_ (K:QQ):List V->Hp->VK->Prop:=fun xs H Q=>∃ p ys,xs=[.ref p]/\(SqL K H p ys\/SqT K H p ys)/\Q (.int ys.length) H
theorem cA:bn X (.builtin "len") (k_ X.K):=nT
abbrev tI (K:QQ)(i:Nat)(n:Int):TE:=bg (C3 K) (aj i) (tC (.int n))
theorem Reads.len (h:Reads ta σ H (.ref q))(hq:H q=some (.tup ws)):Reads (eR (k_ K) (ag ta aF)) σ H (.int ws.length):=fun _ k=>h _ ⟨q,ws,rfl,.inr (SqT.of hq),k⟩
theorem Reads.zZ (h:Reads ta σ H (.int m))(h':Reads tb σ H (.int n)):Reads (bg Al ta tb) σ H (.bl (decide (m=n))):=h.op h' fun _ q=>⟨rfl,by rw[show decide (V.int m=V.int n)=decide (m=n) from decide_eq_decide.mpr ⟨fun e=>by injection e,fun e=>by rw[e]⟩];exact q⟩
end
section
variable {H:Hp}
structure gM (H:Hp) (RL:List Pz.Rule) (p l:Addr) (vs:List V):Prop where
 tup:∃ w0 w1,H p=some (.tup [w0,w1,.ref l])
 lst:Rd H l (.lst vs)
 its:a_ (IsRule H) RL vs
theorem bf (s:Same H H')(h:Rd H a u):Rd H' a u:=h.imp (s a _) fun⟨o,e⟩=>⟨o,s a _ e⟩
theorem gM.same (h:gM H RL p l vs)(s:Same H H'):gM H' RL p l vs:=⟨let ⟨w0,w1,e⟩:=h.tup;⟨w0,w1,s _ _ e⟩,bf s h.lst,h.its.mono (IsRule.keep (Bh s))⟩
def KU:R2:=qT fun i j=>.bl (decide (j<i))
end
noncomputable def eJ (a:Pz.Arr):D:=.tup [.int a.1,.int a.2.1,.int a.2.2]
noncomputable def fR (r:Pz.Rule):D:=.tup [.int r.1,.int r.2.1,.int r.2.2.1,.tup (r.2.2.2.map .int)]
open Classical in
theorem jj:∀{ns:List Int}{vs:List V},IsAll H m (ns.map .int) vs->vs=ns.map .int
 | [],vs,h=>h
 |n::ns,vs,h=>by obtain⟨v,r,rfl,h1,h2⟩:=h;rw[jj h2,show v=.int n from h1];rfl
theorem DL (h:Is H m (fR r) v):IsRule H r v:=by obtain⟨a,vs,rfl,ha,v0,r0,rfl,e0,v1,r1,rfl,e1,v2,r2,rfl,e2,v3,r3,rfl,⟨q,ws,rfl,hq,hw⟩,rfl⟩:=h;obtain rfl:v0=.int r.1:=e0;obtain rfl:v1=.int r.2.1:=e1;obtain rfl:v2=.int r.2.2.1:=e2;exact⟨a,q,rfl,ha,by rw[hq,jj hw]⟩
theorem Cr (h:Is H m (eJ r) v):IsArr H r v:=by obtain⟨a,vs,rfl,ha,v0,r0,rfl,e0,v1,r1,rfl,e1,v2,r2,rfl,e2,rfl⟩:=h;obtain rfl:v0=.int r.1:=e0;obtain rfl:v1=.int r.2.1:=e1;obtain rfl:v2=.int r.2.2:=e2;exact⟨a,rfl,ha⟩
theorem ut {α:Type}{H:Hp}{m:Addr->Prop}{f:α->D}{it:α->V->Prop}(hf:∀ x v,Is H m (f x) v->it x v):∀{xs:List α}{vs:List V},IsAll H m (xs.map f) vs->a_ it xs vs
 | [],vs,h=>by cases (show vs=[] from h);exact .nil
 |x::xs,vs,h=>by obtain⟨v,r,rfl,h1,h2⟩:=h;exact .cons (hf x v h1) (ut hf h2)
theorem qq (h:Is H m (.lst ds) v):∃ a vs,v=.ref a/\Rd H a (.lst vs)/\IsAll H m ds vs:=by obtain⟨a,vs,rfl,h1,h2⟩:=h;exact⟨a,vs,rfl,h1.imp And.left fun⟨o,e,_⟩=>⟨o,e⟩,h2⟩
theorem vJ (h:fR r=fR s):r=s:=by
 have im:∀{l m:List Int},l.map D.int=m.map D.int->l=m:=fun{l m} e=>by
  induction l generalizing m with
  |nil=>cases m with
   |nil=>rfl
   |cons _ _=>cases e
  |cons x l ih=>cases m with
   |nil=>cases e
   |cons y m=>rw[MC,MC]at e;injection e with e1 e2;injection e1 with e1;rw[e1,ih e2]
 unfold fR at h;injection h with h;injection h with h0 h;injection h with h1 h;injection h with h2 h;injection h with h3 h;injection h0 with h0;injection h1 with h1;injection h2 with h2;injection h3 with h3;exact Qs h0 (Qs h1 (Qs h2 (im h3)))
theorem qr (h:eJ r=eJ s):r=s:=by unfold eJ at h;injection h with h;injection h with h0 h;injection h with h1 h;injection h with h2 h;injection h0 with h0;injection h1 with h1;injection h2 with h2;exact Qs h0 (Qs h1 h2)
theorem j4 {α:Type}{f:α->D}(hf:∀{x y},f x=f y->x=y):∀{l m:List α},l.map f=m.map f->l=m
 | [],[],_=>rfl
 | [],_::_,e=>nomatch e
 |_::_,[],e=>nomatch e
 |x::l,y::m,e=>by rw[MC,MC]at e;injection e with e1 e2;rw[hf e1,j4 hf e2]
structure Mt (K:QQ) (C:Addr) (x q:Str) (st:Stmt) (ps:List Str) (f:Addr) (fd:FuncData):Prop where
 fu:z9 K x q st f fd
 bi:Binds K fd ps []
 me:Meth K C x f
theorem Gp {K:QQ}{C:Addr}{x q:Str}{st:Stmt}{ps:List Str}{f:Addr}{oc:QS}{od an:Option Addr}{osl:Array (Option QS)}{kV doc pm cdv ct:QS}
 (l:K.lookup f=some ⟨oc,od,.func (PySem.W.fnOf x q (cH st) (cb st) (aC st) .none kV doc pm an cdv ct),osl⟩) (c:PySem.W.codeIn K cdv q=true) (k:PySem.W.keepIn K (.ref f)=true) (a:PySem.W.findIn K (.ref C) x=some (some (.ref f))) (i:PySem.W.isFn K (.ref f)=true)
 (h:∀(kV doc pm:QS)(an:Option Addr)(cdv ct:QS)(us:List QS),us.length=ps.length->bindArgs (PySem.W.fnOf x q (cH st) (cb st) (aC st) .none kV doc pm an cdv ct) ⟨us,[]⟩=pure (ps.zip us)) :
 Mt K C x q st ps f (PySem.W.fnOf x q (cH st) (cb st) (aC st) .none kV doc pm an cdv ct):=
 have F:z9 K x q st f _:=xi l c k
 ⟨F,F.binds h,a,i,k⟩
section
variable {P:QR}{w:World}{K:QQ}{mg:Str->Option QS}{base:Heap}
theorem uu {x qual:Str}{st:Stmt}{f:Addr}(F:z9 K x qual st f fd)(S:aR N ps (aC st))(len:∀ vs H Q E,sp vs H Q E->vs.length=ps.length)
 (body:∀(cdv:QS)(A:QT)(outer:List Env)(s:QP)(H:Hp)(vs:List V)(Q:VK)(E:XK),cP k (A.deeper (envOfC qual (aC st) s.heap.objs.size f cdv))->sp vs H Q E->
   ∃ t,PSs (nZ P w K mg base N qual (aC st) f cdv A outer s H E) (cb st) t/\t (eQ Q) (start N vs) H):bD P w K mg base (vd P w) (k+1) f fd ps sp:=by
 obtain⟨oc,od,kV,doc,pm,an,cdv,ct,osl,rfl,lk,hcd⟩:=F.ex;exact B5 lk hcd S len fun A outer s H vs Q E hr hsp=>body cdv A outer s H vs Q E hr hsp
end
theorem KW {α:Type}{l:List α}(h:l.length=2):∃ a b,l=[a,b]:=by rcases l with _|⟨a,_|⟨b,_|_⟩⟩<;>first|(cases h;done)|exact⟨_,_,rfl⟩
theorem e_ (hc:X.calm=true)(S:ck X scope tN capN caps)(hi:PI X tg iter wi)(hs:autoParam (∀ x,foldedSetIterable iter X.env x=pure x) QX._auto_1) :
 PE X (.ListComp elt [⟨tg,iter,ifs,0⟩] scope pos) (jC X scope tg tN capN caps elt ifs wi):=fun ac s σ H Q I h=>yg hc S I hi h hs
theorem b6 {N P:List Str}{sc:Scope}(a:autoParam (sc.kind=.function) QZ._auto_1)(b:autoParam (sc.isCoroutine=false) QZ._auto_1)(c:autoParam (sc.isGenerator=false) QZ._auto_1)(d:N.Nodup:=by decide +kernel)(e:autoParam (N.take P.length=P) QZ._auto_1)
 (f:∀ x∈P,sc.names.lookup x=some .local\/sc.names.lookup x=some .cell:=by decide +kernel) (g:∀ y∈sc.names,y.2≠.free:=by decide +kernel):aR N P sc:=⟨a,b,c,d,e,f,g⟩
abbrev Fi (x q:Str)(st:Stmt)(kV doc pm:QS)(an:Option Addr)(cdv ct:QS):FuncData:=PySem.W.fnOf x q (cH st) (cb st) (aC st) .none kV doc pm an cdv ct
structure Df (K:QQ) (mg:Str->Option QS) (x:Str) (st:Stmt) (ps:List Str) where
 f:Addr
 fd:FuncData
 h:Fn K mg x st ps f fd
structure Mf (K:QQ) (C:Addr) (x q:Str) (st:Stmt) (ps:List Str) where
 f:Addr
 fd:FuncData
 h:Mt K C x q st ps f fd
section
variable {K KK:QQ}{x q:Str}{st:Stmt}{f C:Addr}{oc:QS}{od an:Option Addr}{osl:Array (Option QS)}{kV doc pm cdv ct:QS}
def Lk (K:QQ)(x q:Str)(st:Stmt)(f:Addr):Prop:=∃ oc od an osl kV doc pm cdv ct,K.lookup f=some ⟨oc,od,.func (Fi x q st kV doc pm an cdv ct),osl⟩/\PySem.W.codeIn K cdv q=true
theorem lk (l:K.lookup f=some ⟨oc,od,.func (Fi x q st kV doc pm an cdv ct),osl⟩)(c:PySem.W.codeIn K cdv q=true):Lk K x q st f:=⟨_,_,_,_,_,_,_,_,_,l,c⟩
def FK (K:QQ)(x:Str)(st:Stmt):Prop:=∃ f,PySem.W.nsIn K mainGlobals x=some (some (.ref f))/\Lk K x x st f
theorem fk (a:PySem.W.nsIn K mainGlobals x=some (some (.ref f)))(l:K.lookup f=some ⟨oc,od,.func (Fi x x st kV doc pm an cdv ct),osl⟩)(c:PySem.W.codeIn K cdv x=true):FK K x st:=⟨_,a,lk l c⟩
structure MK (K:QQ) (C:Addr) (x q:Str) (st:Stmt) (f:Addr):Prop where
 a:PySem.W.findIn K (.ref C) x=some (some (.ref f))
 i:PySem.W.isFn K (.ref f)=true
 l:Lk K x q st f
 k:PySem.W.keepIn K (.ref f)=true
theorem mk (a:PySem.W.findIn K (.ref C) x=some (some (.ref f)))(i:PySem.W.isFn K (.ref f)=true)(l:K.lookup f=some ⟨oc,od,.func (Fi x q st kV doc pm an cdv ct),osl⟩)(c:PySem.W.codeIn K cdv q=true)(k:PySem.W.keepIn K (.ref f)=true):MK K C x q st f:=⟨a,i,lk l c,k⟩
structure CK (K KK:QQ) (x:Str) (C:Addr):Prop where
 b:PySem.W.nsIn K mainGlobals x=some (some (.ref C))
 pg:PySem.W.plainGet KK C Str.empty=true
 hd:PySem.W.hasDictIn KK C=true
 po:PySem.W.plainOver KK C=true
 sa:PySem.W.findIn KK (.ref C) "__setattr__"=some (some (.builtin "object.__setattr__"))
 m:PySem.W.makesIn KK C=true
 k:PySem.W.keepIn KK (.ref C)=true
theorem CK.cl (c:CK K KK x C):rb KK C:=⟨c.pg,c.hd,c.po,c.sa⟩
variable {mg:Str->Option QS}{ps:List Str}{h:Heap}
noncomputable def AllN:Nat->(List QS->Prop)->Prop
 |0,P=>P []
 |n+1,P=>∀ a,AllN n fun us=>P (a::us)
theorem AllN.of {n:Nat}{P:List QS->Prop}(h:AllN n P):∀ us:List QS,us.length=n->P us:=by
 induction n generalizing P with
 |zero=>intro us e;cases us with|nil=>exact h|cons _ _=>cases e
 |succ n ih=>intro us e;cases us with|nil=>cases e|cons a r=>exact ih (h a) r (Nat.succ.inj e)
theorem df (X:K.In h)(G:h.Ns mainGlobals mg)(U:gR K KK)(k:FK K x st)
 (hb:∀(kV doc pm:QS)(an:Option Addr)(cdv ct:QS),AllN ps.length fun us=>bindArgs (Fi x x st kV doc pm an cdv ct) ⟨us,[]⟩=pure (ps.zip us):=by (repeat intro _);exact rfl):Nonempty (Df KK mg x st ps):=by
 obtain⟨f,a,oc,od,an,osl,kV,doc,pm,cdv,ct,l,c⟩:=k;exact⟨f,_,DF U l c (PySem.W.mg_of X G a) fun kV doc pm an cdv ct=>(hb kV doc pm an cdv ct).of⟩
theorem mf (k:MK K C x q st f)
 (hb:∀(kV doc pm:QS)(an:Option Addr)(cdv ct:QS),AllN ps.length fun us=>bindArgs (Fi x q st kV doc pm an cdv ct) ⟨us,[]⟩=pure (ps.zip us):=by (repeat intro _);exact rfl):∃ m:Mf K C x q st ps,m.f=f:=by
 obtain⟨a,i,⟨oc,od,an,osl,kV,doc,pm,cdv,ct,l,c⟩,kp⟩:=k;exact⟨⟨f,_,Gp l c kp a i fun kV doc pm an cdv ct=>(hb kV doc pm an cdv ct).of⟩,rfl⟩
theorem IW (c:CK K KK x C) (k:MK KK C "__init__" q st f):Mk KK C f:=⟨c.m,k.a,k.i,c.k⟩
end
end L4
namespace L2
open PySem PySem.Spec PySem.Calls PyProof.Rows
theorem sI (prog:QR)(w:World)(d:Addr)(hd:(d==sysModules)=false):MeetsIn prog w (Builtin.«dict.__len__» ⟨[.ref d],[]⟩) (fun _ R s=>∃(o:Obj)(es:Array DictEntry)(ep n:Nat),s.heap.get? d=some o/\o.data=.dict es ep/\es.size=n/\R (.ok (.ret (.int n s.toks))) { s with toks:=s.toks+1 }):=by
 apply MeetsIn.of_wp;rintro A R s ⟨o,es,ep,n,h1,h2,rfl,h⟩;show wpAny _ _ (dictSize d >>= _) _ _ s
 delta dictSize
 apply KE;apply KE;apply Oq h1 h2;apply L_;show wpAny _ _ (Builtin.Dict.pendingCount d >>= _) _ _ s;apply KE;apply wpAny_pendingCount_other hd;exact wpAny_ret_mkInt h
section
variable {X:Cx}
theorem vK:bn X (.builtin "len") (fun xs H Q=>∃(d:Addr)(kvs:List (List bh×V)),xs=[.ref d]/\(Rd H d (.dT kvs)\/(Rd H d (.dK [])/\kvs=[]))/\Q (.int kvs.length) H):=by
 intro ac s σ H xs us Q I r h;obtain⟨d,kvs,rfl,hd,q⟩:=h;obtain⟨w,rfl,rx⟩:=fQ r;cases rx;have key:(d==sysModules)=false/\kvs.length<=sizeLine/\Shared.TypeIs s (.ref d) "dict"/\∃(o:Obj)(es:Array DictEntry)(ep:Nat),s.heap.get? d=some o/\o.data=.dict es ep/\es.size=kvs.length:=by
  rcases hd with hd|⟨hd,rfl⟩
  .obtain⟨z,hs,xs,rel,o,es,ep,h1,h2,h3,h4,_⟩:=jz I.aJ hd;exact⟨hs,z,⟨o,h1,h2.1⟩,o,es,ep,h1,h3,by rw[size_of_entries h4];exact(O1 rel).symm⟩
  .obtain⟨z,hs,vs,rel,dd⟩:=ic I.aJ hd;have hT:=dd.typeIs;obtain⟨o,es,ep,h1,h2,h3,h4,h5,_⟩:=dd;exact⟨hs,ML _,hT,o,es,ep,h1,h3,by
    have e:es.size=vs.length:=by rw[<- h5.length];simp
    rw[e,<- rel.length];rfl⟩
 obtain⟨hs,z,hT,o,es,ep,h1,h3,h4⟩:=key;rw[MV]at z;refine Ow PySem.kind_len PySem.plain_len PySem.entry_len (PySem.args_len1 _) ?_
 delta Builtin.«len»
 apply KE (m:=oneArg "len" _);apply L_;apply KE (m:=callSpecial? (.ref d) (Str.ofString "__len__"));apply NA (name:=Str.ofString "__len__") hT PySem.F.slot_dict_len;apply call_meetsIn PySem.F.slot_dict_len hT PySem.F.entry_dict_len (PySem.F.args_dict_len_1 _) (sI X.prog X.w d hs);refine⟨o,es,ep,kvs.length,h1,h3,h4,?_⟩;show wpAny _ _ _ _ _ { s with toks:=s.toks+1 };apply KE;apply Nb;apply L_;apply KE;apply wpAny_letGo;show wpAny _ _ (if ((kvs.length:Nat):Int)<0 then _ else _) _ _ _;rw[Mj (by lia)];show wpAny _ _ (if ((kvs.length:Nat):Int)>=2 ^ 63 then _ else _) _ _ _;rw[Mj (by lia)];apply KE;apply wpAny_mkInt;exact L_ ⟨_,rfl,.int kvs.length,H,I.tok _,⟨_,rfl⟩,q⟩
end
end L2
namespace L4
open PySem PySem.Spec PyProof.Rows L2 L3
def yo:List V->Hp->VK->Prop:=fun xs H Q=>∃(d:Addr)(kvs:List (List bh×V)),xs=[.ref d]/\(Rd H d (.dT kvs)\/(Rd H d (.dK [])/\kvs=[]))/\Q (.int kvs.length) H
theorem lg:bn X (.builtin "len") yo:=vK
end L4
namespace Sp
noncomputable abbrev Arr:=Int×Int×Int
noncomputable abbrev Rule:=Int×Int×Int×List Int
section
variable {κ β:Type}[DecidableEq κ]
def get (d:List (κ×β))(k:κ):Option β:=(d.find? fun x=>decide (x.1=k)).map (·.2)
def put (d:List (κ×β))(k:κ)(v:β):List (κ×β):=if (get d k).isSome then d.map (fun x=>if x.1=k then (x.1,v) else x) else d++[(k,v)]
theorem get_nil (k:κ):get ([]:List (κ×β)) k=none:=rfl
theorem get_cons (x:κ×β)(d:List (κ×β))(k:κ):get (x::d) k=if x.1=k then some x.2 else get d k:=by grind [get]
theorem get_append (d e:List (κ×β))(k:κ):get (d++e) k=(get d k).or (get e k):=by
 induction d with
 |nil=>rfl
 |cons x r ih=>rw[Ql,get_cons,get_cons,ih];split<;>simp
theorem get_repl (d:List (κ×β))(k:κ)(v:β)(j:κ):get (d.map fun x=>if x.1=k then (x.1,v) else x) j=if j=k then (get d j).map fun _=>v else get d j:=by
 induction d with
 |nil=>simp[get_nil]
 |cons x r ih=>rw[MC,get_cons,get_cons,ih];grind
theorem get_put (d:List (κ×β))(k:κ)(v:β)(j:κ):get (put d k v) j=if j=k then some v else get d j:=by
 unfold put;split
 .rename_i h;rw[get_repl];split
  .rename_i e;subst e;obtain⟨b,hb⟩:=Of.mp h;rw[hb];rfl
  .rfl
 .rename_i h;have hn:get d k=none:=by simpa using h
  rw[get_append,get_cons,get_nil];by_cases e:j=k
  .subst e;simp[hn]
  .rw[Mj (fun z=>e z.symm),Mj e];simp
end
structure St where
 tb:List (Int×List (Int×List Int))
 en:List Int
 fo:List (Int×List Int)
 mi:List ((Int×Int)×Int)
 du:List Arr
noncomputable def add (l:List Int)(x:Int):List Int:=if x∈l then l else l++[x]
theorem uw {l:List Int}{x y:Int}:y∈add l x↔y∈l\/y=x:=by grind [add]
def row (tb:List (Int×List (Int×List Int)))(s:Int):List (Int×List Int):=(get tb s).getD []
def leaf (tb:List (Int×List (Int×List Int)))(s g:Int):List Int:=(get (row tb s) g).getD []
def fol (S:St)(s:Int):List Int:=(get S.fo s).getD []
def dm (S:St)(a:Arr):Prop:=a.2.2∈leaf S.tb a.1 a.2.1
def lead (S:St)(s g t:Int):St:=if t∈leaf S.tb s g then S else { S with tb:=put S.tb s (put (row S.tb s) g (leaf S.tb s g++[t])),du:=S.du++[(s,g,t)] }
theorem lh (tb:List (Int×List (Int×List Int)))(s g:Int)(l:List Int)(s' g':Int):leaf (put tb s (put (row tb s) g l)) s' g'=if s'=s/\g'=g then l else leaf tb s' g':=by
 unfold leaf;have e:row (put tb s (put (row tb s) g l)) s'=if s'=s then put (row tb s) g l else row tb s':=by unfold row;rw[get_put];split<;>simp
 rw[e];by_cases h1:s'=s
 .subst h1;rw[Mh rfl,get_put];by_cases h2:g'=g
  .subst h2;simp
  .simp[h2]
 .simp[h1]
theorem bj (S:St)(s g t:Int)(a:Arr):dm (lead S s g t) a↔dm S a\/a=(s,g,t):=by
 obtain⟨x,y,z⟩:=a;unfold lead dm;split
 .rename_i h;simp only[Prod.mk.injEq];constructor
  .exact .inl
  .rintro (h'|⟨rfl,rfl,rfl⟩)
   .exact h'
   .exact h
 .simp only[lh,Prod.mk.injEq];by_cases e:x=s/\y=g
  .rw[Mh e,MO,MH];obtain⟨rfl,rfl⟩:=e;simp
  .rw[Mj e];constructor
   .exact .inl
   .rintro (h'|⟨rfl,rfl,rfl⟩)
    .exact h'
    .exact absurd ⟨rfl,rfl⟩ e
theorem iP (S:St)(s g t:Int):(lead S s g t).en=S.en:=by unfold lead;split<;>rfl
theorem dz (S:St)(s g t:Int):(lead S s g t).fo=S.fo:=by unfold lead;split<;>rfl
theorem cr (S:St)(s g t:Int):(lead S s g t).mi=S.mi:=by unfold lead;split<;>rfl
theorem j8 (S:St)(s g t:Int):(lead S s g t).du=if t∈leaf S.tb s g then S.du else S.du++[(s,g,t)]:=by unfold lead;split<;>rfl
def aG (r:Int)(S:St)(x:Int×List Int):St:=x.2.foldl (fun S t=>lead S r x.1 t) S
def aV (S:St)(r s:Int):St:=if r∈fol S s then S else
 (row S.tb s).foldl (aG r) { S with fo:=put S.fo s (fol S s++[r]),en:=if s∈S.en then add S.en r else S.en }
def midS (n:Int)(S:St)(r g:Int):Int:=(get S.mi (r,g)).getD (n+S.mi.length)
def midM (n:Int)(S:St)(r g:Int):St:=if (get S.mi (r,g)).isSome then S else { S with mi:=S.mi++[((r,g),n+S.mi.length)] }
def aX (n:Int)(t:Int)(S:St)(r:Rule):St:=match r.2.2.2 with
 | []=>aV S r.2.2.1 t
 | [a]=>lead S r.2.2.1 a t
 |a::b::_=>lead (lead (midM n S r.2.2.1 a) r.2.2.1 a (midS n S r.2.2.1 a)) (midS n S r.2.2.1 a) b t
abbrev RS:=List ((Int×Int)×List Rule)
noncomputable def bo (S:St):St:={ S with du:=S.du.dropLast }
def dQ (a:Arr)(S:St):St:=(fol S a.1).foldl (fun S r=>lead S r a.2.1 a.2.2) S
def turn (n:Int)(rs:RS)(a:Arr)(S:St):St:=((get rs (a.1,a.2.1)).getD []).foldl (aX n a.2.2) (dQ a S)
structure lR (S:St):Prop where
 t:S.tb.length<15000000
 r:∀ s,(row S.tb s).length<15000000
 l:∀ s g,(leaf S.tb s g).length<15000000
 e:S.en.length<15000000
 f:S.fo.length<15000000
 g:∀ s,(fol S s).length<15000000
 m:S.mi.length<15000000
 d:S.du.length<15000000
structure fj (S T:St):Prop where
 t:S.tb.length<=T.tb.length
 r:∀ s,(row S.tb s).length<=(row T.tb s).length
 l:∀ s g,(leaf S.tb s g).length<=(leaf T.tb s g).length
 e:S.en.length<=T.en.length
 f:S.fo.length<=T.fo.length
 g:∀ s,(fol S s).length<=(fol T s).length
 m:S.mi.length<=T.mi.length
 d:S.du.length<=T.du.length
theorem fj.rf (S:St):fj S S:=⟨Mc _,fun _=>Mc _,fun _ _=>Mc _,Mc _,Mc _,fun _=>Mc _,Mc _,Mc _⟩
theorem fj.trans {S T U:St}(a:fj S T)(b:fj T U):fj S U:=⟨Mq a.t b.t,fun s=>Mq (a.r s) (b.r s),fun s g=>Mq (a.l s g) (b.l s g),Mq a.e b.e,Mq a.f b.f,fun s=>Mq (a.g s) (b.g s),Mq a.m b.m,Mq a.d b.d⟩
theorem fj.fit {S T:St}(a:fj S T)(b:lR T):lR S:=⟨Nn a.t b.t,fun s=>Nn (a.r s) (b.r s),fun s g=>Nn (a.l s g) (b.l s g),Nn a.e b.e,Nn a.f b.f,fun s=>Nn (a.g s) (b.g s),Nn a.m b.m,Nn a.d b.d⟩
theorem foldl_grow {α:Type}(f:St->α->St)(h:∀ S x,fj S (f S x)):∀(l:List α)(S:St),fj S (l.foldl f S)
 | [],S=>.rf S
 |x::l,S=>(h S x).trans (foldl_grow f h l _)
theorem oG {κ β:Type}[DecidableEq κ](d:List (κ×β))(k:κ)(v:β):d.length<=(put d k v).length:=by unfold put;split<;>simp
theorem row_put (tb:List (Int×List (Int×List Int)))(s:Int)(x:List (Int×List Int))(s':Int):row (put tb s x) s'=if s'=s then x else row tb s':=by unfold row;rw[get_put];split<;>simp
theorem lead_grow (S:St)(s g t:Int):fj S (lead S s g t):=by
 unfold lead;split
 .exact .rf S
 .refine⟨oG _ _ _,fun s'=>?_,fun s' g'=>?_,Mc _,Mc _,fun _=>Mc _,Mc _,by simp⟩
  .show _<=(row (put S.tb s _) s').length;rw[row_put];split
   .rename_i e;subst e;exact oG _ _ _
   .exact Mc _
  .show _<=(leaf (put S.tb s _) s' g').length;rw[lh];split
   .rename_i e;rw[e.1,e.2];simp
   .exact Mc _
theorem copy_grow (r:Int)(S:St)(x:Int×List Int):fj S (aG r S x):=foldl_grow _ (fun S t=>lead_grow S r x.1 t) _ _
def begF0 (S:St)(r s:Int):St:={ S with fo:=put S.fo s (fol S s++[r]),en:=if s∈S.en then add S.en r else S.en }
theorem yp (S:St)(r s:Int):fj S (begF0 S r s):=by
 refine⟨Mc _,fun _=>Mc _,fun _ _=>Mc _,?_,oG _ _ _,fun s'=>?_,Mc _,Mc _⟩
 .show _<=(if s∈S.en then add S.en r else S.en).length;split
  .unfold add;split<;>simp
  .exact Mc _
 .show _<=((get (put S.fo s (fol S s++[r])) s').getD []).length;rw[get_put];split
  .rename_i e;subst e;simp
  .exact Mc _
theorem follow_grow (S:St)(r s:Int):fj S (aV S r s):=by
 unfold aV;split
 .exact .rf S
 .exact(yp S r s).trans (foldl_grow _ (copy_grow r) _ _)
theorem midM_grow (n:Int)(S:St)(r g:Int):fj S (midM n S r g):=by
 unfold midM;split
 .exact .rf S
 .exact⟨Mc _,fun _=>Mc _,fun _ _=>Mc _,Mc _,Mc _,fun _=>Mc _,by simp,Mc _⟩
theorem takeR_grow (n t:Int)(S:St)(r:Rule):fj S (aX n t S r):=by
 unfold aX;split
 .exact follow_grow ..
 .exact lead_grow ..
 .exact((midM_grow ..).trans (lead_grow ..)).trans (lead_grow ..)
inductive Loop (n:Int) (rs:RS):Nat->St->St->Prop where
 |done {S:St}:S.du=[]->Loop n rs 0 S S
 |step {k:Nat} {S T:St} {a:Arr}:S.du.getLast?=some a->(∀ r∈(get rs (a.1,a.2.1)).getD [],r.2.2.1≠a.2.2)->lR (turn n rs a (bo S))->Loop n rs k (turn n rs a (bo S)) T->Loop n rs (k+1) S T
theorem Loop.det {n:Int}{rs:RS}:∀{k:Nat}{S T:St},Loop n rs k S T->∀{m:Nat}{T':St},Loop n rs m S T'->T=T':=by
 intro k S T h;induction h with
 |done e=>
  intro m T' h';cases h' with
  |done _=>rfl
  |step hd=>rw[e]at hd;cases hd
 |step hd _ _ _ ih=>
  intro m T' h';cases h' with
  |done e=>rw[e]at hd;cases hd
  |step hd' _ _ h'=>rw[hd]at hd';cases hd';exact ih h'
end Sp
namespace Sp
structure Le (S T:St):Prop where
 h:∀ a,dm S a->dm T a
 f:∀ s r,r∈fol S s->r∈fol T s
 e:∀ x,x∈S.en->x∈T.en
theorem Le.refl (S:St):Le S S:=⟨fun _ h=>h,fun _ _ h=>h,fun _ h=>h⟩
theorem Le.trans (a:Le S T)(b:Le T U):Le S U:=⟨fun x h=>b.h x (a.h x h),fun s r h=>b.f s r (a.f s r h),fun x h=>b.e x (a.e x h)⟩
theorem Le.lead (S:St)(s g t:Int):Le S (lead S s g t):=⟨fun a h=>(bj ..).mpr (.inl h),fun s' r h=>by unfold fol at *;rw[dz];exact h,fun x h=>by rw[iP];exact h⟩
def Led (ro:Int)(S:St)(r:Rule)(t:Int):Prop:=match r.2.2.2 with
 | []=>r.2.2.1∈fol S t
 | [x]=>dm S (r.2.2.1,x,t)
 |x::y::_=>∃ m,ro<=m/\dm S (r.2.2.1,x,m)/\dm S (m,y,t)
theorem Led.mono (l:Le S T)(h:Led ro S r t):Led ro T r t:=by
 unfold Led at *;split at h
 .exact l.f _ _ h
 .exact l.h _ h
 .obtain⟨m,h0,h1,h2⟩:=h;exact⟨m,h0,l.h _ h1,l.h _ h2⟩
def bG (rs:RS)(s g:Int):List Rule:=(get rs (s,g)).getD []
def Done (ro:Int)(rs:RS)(S:St)(a:Arr):Prop:=∀ r∈bG rs a.1 a.2.1,Led ro S r a.2.2
theorem Done.mono (l:Le S T)(h:Done ro rs S a):Done ro rs T a:=fun r hr=>(h r hr).mono l
structure J (ro:Int) (rs:RS) (S:St) (pf:Int->Arr->Prop) (pr:Arr->Prop):Prop where
 to:∀ a,dm S a->ro<=a.2.2
 mi:∀ x∈S.mi,ro<=x.2
 fo:∀ s r,r∈fol S s->r<ro/\ro<=s/\(s∈S.en->r∈S.en)/\∀ g t,dm S (s,g,t)->dm S (r,g,t)\/(s,g,t)∈S.du\/pf r (s,g,t)
 dn:∀ a,dm S a->Done ro rs S a\/a∈S.du\/pr a
section
variable {ro:Int}{rs:RS}{S:St}{pf pf':Int->Arr->Prop}{pr pr':Arr->Prop}
theorem J.weak (j:J ro rs S pf pr)(h1:∀ r a,r∈fol S a.1->dm S a->pf r a->dm S (r,a.2.1,a.2.2)\/pf' r a)(h2:∀ a,dm S a->pr a->Done ro rs S a\/pr' a):J ro rs S pf' pr':=
 ⟨j.to,j.mi,fun s r h=>by
   obtain⟨a,b,c,d⟩:=j.fo s r h;refine⟨a,b,c,fun g t ht=>?_⟩;rcases d g t ht with x|x|x
   .exact .inl x
   .exact .inr (.inl x)
   .rcases h1 r (s,g,t) h ht x with y|y
    .exact .inl y
    .exact .inr (.inr y),fun a h=>by
   rcases j.dn a h with x|x|x
   .exact .inl x
   .exact .inr (.inl x)
   .rcases h2 a h x with y|y
    .exact .inl y
    .exact .inr (.inr y)⟩
theorem J.lead (j:J ro rs S pf pr)(ht:ro<=t):J ro rs (lead S s g t) pf pr:=by
 have l:=Le.lead S s g t;have hd:∀ a,a∈S.du->a∈(Sp.lead S s g t).du:=fun a h=>by rw[j8];split<;>simp[h]
 have hn:(s,g,t)∈(Sp.lead S s g t).du\/dm S (s,g,t):=by rw[j8];by_cases h:t∈leaf S.tb s g<;>simp[h,dm]
 refine⟨fun a h=>?_,fun x hx=>j.mi x (by rw[cr]at hx;exact hx),fun s' r h=>?_,fun a h=>?_⟩
 .rcases (bj ..).mp h with h|rfl
  .exact j.to a h
  .exact ht
 .have h:r∈fol S s':=by unfold fol at *;rw[dz]at h;exact h
  obtain⟨a,b,c,d⟩:=j.fo s' r h;refine⟨a,b,fun z=>by rw[iP]at z ⊢;exact c z,fun g' t' ht'=>?_⟩;have old:dm S (s',g',t')->dm (Sp.lead S s g t) (r,g',t')\/(s',g',t')∈(Sp.lead S s g t).du\/pf r (s',g',t'):=fun z=>by
   rcases d g' t' z with x|x|x
   .exact .inl (l.h _ x)
   .exact .inr (.inl (hd _ x))
   .exact .inr (.inr x)
  rcases (bj ..).mp ht' with z|z
  .exact old z
  .rw[z]at old ⊢;rcases hn with y|y
   .exact .inr (.inl y)
   .exact old y
 .have old:∀ a,dm S a->Done ro rs (Sp.lead S s g t) a\/a∈(Sp.lead S s g t).du\/pr a:=fun a z=>by
   rcases j.dn a z with x|x|x
   .exact .inl (x.mono l)
   .exact .inr (.inl (hd _ x))
   .exact .inr (.inr x)
  rcases (bj ..).mp h with z|rfl
  .exact old a z
  .rcases hn with y|y
   .exact .inr (.inl y)
   .exact old _ y
theorem lq:∀(ts:List Int){S:St},J ro rs S pf pr->(∀ t∈ts,ro<=t)->J ro rs (aG r S (g,ts)) pf pr/\Le S (aG r S (g,ts))/\(∀ a,dm (aG r S (g,ts)) a↔dm S a\/∃ t∈ts,a=(r,g,t))/\(aG r S (g,ts)).fo=S.fo/\(aG r S (g,ts)).en=S.en/\(aG r S (g,ts)).mi=S.mi
 | [],S,j,_=>⟨j,Le.refl S,fun a=>by simp[aG],rfl,rfl,rfl⟩
 |t::ts,S,j,h=>by obtain⟨a,b,c,d,e,f⟩:=lq (g:=g) (r:=r) ts (j.lead (s:=r) (g:=g) (h t (by simp))) fun x hx=>h x (by simp[hx]);refine⟨a,(Le.lead ..).trans b,fun x=>?_,d.trans (dz ..),e.trans (iP ..),f.trans (cr ..)⟩;show dm (aG r (Sp.lead S r g t) (g,ts)) x↔_;rw[c,bj];simp only[Mv,exists_eq_or_imp,or_assoc]
theorem ux:∀(rw':List (Int×List Int)){S:St},J ro rs S pf pr->(∀ x∈rw',∀ t∈x.2,ro<=t)->J ro rs (rw'.foldl (aG r) S) pf pr/\Le S (rw'.foldl (aG r) S)/\(∀ a,dm (rw'.foldl (aG r) S) a↔dm S a\/∃ x∈rw',∃ t∈x.2,a=(r,x.1,t))/\(rw'.foldl (aG r) S).fo=S.fo/\(rw'.foldl (aG r) S).en=S.en/\(rw'.foldl (aG r) S).mi=S.mi
 | [],S,j,_=>⟨j,Le.refl S,fun a=>by simp,rfl,rfl,rfl⟩
 |x::q,S,j,h=>by obtain⟨a,b,c,d,e,f⟩:=lq (g:=x.1) (r:=r) x.2 j (h x (by simp));obtain⟨a',b',c',d',e',f'⟩:=ux (r:=r) q a fun y hy=>h y (by simp[hy]);refine⟨a',b.trans b',fun y=>?_,d'.trans d,e'.trans e,f'.trans f⟩;rw[PN,c',c];simp only[Mv,exists_eq_or_imp,or_assoc]
theorem iQ {κ β:Type}[DecidableEq κ]{d:List (κ×β)}{k:κ}{v:β}(h:get d k=some v):(k,v)∈d:=by
 induction d with
 |nil=>cases h
 |cons x r ih=>rw[get_cons]at h;grind
end
end Sp
namespace Sp
section
variable {ro:Int}{rs:RS}{S:St}{pf:Int->Arr->Prop}{pr:Arr->Prop}
def fV (S:St)(r s:Int):St:={ S with fo:=put S.fo s (fol S s++[r]),en:=if s∈S.en then add S.en r else S.en }
theorem fc (S:St)(r s s':Int):fol (fV S r s) s'=if s'=s then fol S s++[r] else fol S s':=by unfold fV;show(get (put S.fo s (fol S s++[r])) s').getD []=_;rw[get_put];split<;>simp[fol]
theorem j9 (S:St)(r s x:Int):x∈(fV S r s).en↔x∈S.en\/(s∈S.en/\x=r):=by
 unfold fV;show x∈(if s∈S.en then add S.en r else S.en)↔_;split
 .rename_i h;rw[uw];simp[h]
 .rename_i h;simp[h]
theorem J.fV (j:J ro rs S pf pr)(hr:r<ro)(hs:ro<=s):J ro rs (fV S r s) (fun r' a=>pf r' a\/(r'=r/\a.1=s)) pr/\Le S (Sp.fV S r s):=by
 have l:Le S (Sp.fV S r s):=⟨fun a h=>h,fun s' r' h=>by rw[fc];split<;>simp_all,fun x h=>(j9 ..).mpr (.inl h)⟩;refine⟨⟨j.to,j.mi,fun s' r' h=>?_,fun a h=>?_⟩,l⟩
 .rw[fc]at h;by_cases e:s'=s/\r'=r
  .obtain⟨rfl,rfl⟩:=e;refine⟨hr,hs,fun z=>?_,fun g t ht=>.inr (.inr (.inr ⟨rfl,rfl⟩))⟩;rw[j9]at z ⊢;rcases z with z|⟨_,z⟩
   .exact .inr ⟨z,rfl⟩
   .lia
  .have h:r'∈fol S s':=by
    split at h
    .rename_i q;rcases MO.mp h with h|h
     .rw[q];exact h
     .exact absurd ⟨q,MH.mp h⟩ e
    .exact h
   obtain⟨a,b,c,d⟩:=j.fo s' r' h;refine⟨a,b,fun z=>?_,fun g t ht=>?_⟩
   .rw[j9]at z ⊢;rcases z with z|⟨_,z⟩
    .exact .inl (c z)
    .lia
   .rcases d g t ht with x|x|x
    .exact .inl x
    .exact .inr (.inl x)
    .exact .inr (.inr (.inl x))
 .rcases j.dn a h with x|x|x
  .exact .inl (x.mono l)
  .exact .inr (.inl x)
  .exact .inr (.inr x)
theorem uy (h:t∈leaf tb s g):∃ x∈row tb s,x.1=g/\t∈x.2:=by
 unfold leaf at h;cases e:get (row tb s) g with
 |none=>rw[e]at h;simp at h
 |some l=>rw[e]at h;exact⟨_,iQ e,rfl,h⟩
def Keys {κ β:Type}(d:List (κ×β)):Prop:=(d.map (·.1)).Nodup
theorem get_of {κ β:Type}[DecidableEq κ]{d:List (κ×β)}(hd:Keys d){x:κ×β}(h:x∈d):get d x.1=some x.2:=by
 unfold Keys at hd;induction d with
 |nil=>cases h
 |cons y r ih=>
  rw[get_cons];rw[MC,OB]at hd;rcases Mv.mp h with rfl|h
  .simp
  .rw[Mj (fun e:y.1=x.1=>hd.1 (by rw[e];exact NQ h)),ih hd.2 h]
theorem Keys.put {κ β:Type}[DecidableEq κ]{d:List (κ×β)}(hd:Keys d)(k:κ)(v:β):Keys (put d k v):=by
 unfold Keys Sp.put at *;split
 .rw[Nf];rw[show((fun x:κ×β=>x.1) ∘ fun x=>if x.1=k then (x.1,v) else x)=(·.1) from by funext x;simp only[Function.comp];split<;>rfl];exact hd
 .rename_i h;rw[M8,NT];refine⟨hd,by simp,fun a ha b hb e=>?_⟩;simp at hb;subst hb;subst e;obtain⟨x,hx,rfl⟩:=Md.mp ha;exact h (by rw[get_of hd hx];rfl)
structure KT (S:St):Prop where
 k1:Keys S.tb
 k2:∀ s,Keys (row S.tb s)
theorem KT.lead (k:KT S)(s g t:Int):KT (lead S s g t):=by
 unfold Sp.lead;split
 .exact k
 .refine⟨k.k1.put _ _,fun s'=>?_⟩;show Keys (row (put S.tb s _) s');unfold row;rw[get_put];split
  .exact(k.k2 s).put _ _
  .exact k.k2 s'
theorem KT.copy:∀(rw':List (Int×List Int)){S:St},KT S->KT (rw'.foldl (aG r) S)
 | [],_,k=>k
 |x::q,S,k=>by
  have h:∀(ts:List Int){S:St},KT S->KT (aG r S (x.1,ts)):=fun ts=>by
   induction ts with
   |nil=>exact fun k=>k
   |cons t ts ih=>intro S k;exact ih (k.lead r x.1 t)
  exact KT.copy q (h x.2 k)
theorem vL (j:J ro rs S pf pr)(k:KT S)(hr:r<ro)(hs:ro<=s):J ro rs (aV S r s) pf pr/\KT (aV S r s)/\Le S (aV S r s)/\r∈fol (aV S r s) s/\(aV S r s).mi=S.mi:=by
 unfold aV;split
 .rename_i h;exact⟨j,k,Le.refl S,h,rfl⟩
 .rename_i h;obtain⟨j1,l1⟩:=j.fV hr hs;have hto:∀ x∈row S.tb s,∀ t∈x.2,ro<=t:=fun x hx t ht=>j.to (s,x.1,t) (by unfold dm leaf;rw[get_of (k.k2 s) hx];exact ht);obtain⟨j2,l2,c,d,e,f⟩:=ux (r:=r) (row S.tb s) j1 hto;have k2:KT ((row S.tb s).foldl (aG r) (fV S r s)):=KT.copy _ (S:=fV S r s) ⟨k.k1,k.k2⟩;refine⟨j2.weak (fun r' a hf ha hp=>?_) fun a ha hp=>.inr hp,k2,l1.trans l2,?_,f⟩
  .rcases hp with hp|⟨rfl,ea⟩
   .exact .inr hp
   .left;obtain⟨s',g,t⟩:=a;simp only[]at ea;subst ea;rcases (c _).mp ha with h1|⟨x,hx,t',ht',e'⟩
    .obtain⟨x,hx,e1,e2⟩:=uy (show t∈leaf S.tb s' g from h1);exact(c _).mpr (.inr ⟨x,hx,t,e2,by rw[e1]⟩)
    .have:s'=r':=MT (·.1) e';lia
  .show r∈fol ((row S.tb s).foldl (aG r) (fV S r s)) s;have:fol ((row S.tb s).foldl (aG r) (fV S r s)) s=fol (fV S r s) s:=by unfold fol;rw[d]
   rw[this,fc,Mh rfl];simp
end
end Sp
namespace Sp
section
variable {ro n:Int}{rs:RS}{S:St}{pf pf':Int->Arr->Prop}{pr pr':Arr->Prop}
theorem DM (j:J ro rs S pf pr)(k:KT S)(hn:ro<=n)(r g:Int):J ro rs (midM n S r g) pf pr/\KT (midM n S r g)/\Le S (midM n S r g)/\ro<=midS n S r g:=by
 unfold midM midS;split
 .rename_i h;obtain⟨v,hv⟩:=Of.mp h;refine⟨j,k,Le.refl S,?_⟩;rw[hv];exact j.mi _ (iQ hv)
 .rename_i h;have h:get S.mi (r,g)=none:=by simpa using h
  have l:Le S { S with mi:=S.mi++[((r,g),n+S.mi.length)] }:=⟨fun _ h=>h,fun _ _ h=>h,fun _ h=>h⟩;refine⟨⟨j.to,fun x hx=>?_,j.fo,fun a ha=>?_⟩,⟨k.k1,k.k2⟩,l,by rw[h];simp;lia⟩
  .rcases MO.mp hx with hx|hx
   .exact j.mi x hx
   .rw[MH.mp hx];simp only[];lia
  .rcases j.dn a ha with x|x|x
   .exact .inl (x.mono l)
   .exact .inr (.inl x)
   .exact .inr (.inr x)
theorem qt (j:J ro rs S pf pr)(k:KT S)(hn:ro<=n)(ht:ro<=t)(hr:r.2.2.1<ro):J ro rs (aX n t S r) pf pr/\KT (aX n t S r)/\Le S (aX n t S r)/\Led ro (aX n t S r) r t:=by
 obtain⟨r0,r1,r2,w⟩:=r;simp only[]at hr
 match w with
 | []=>obtain⟨a,b,c,d,_⟩:=vL j k hr ht;exact⟨a,b,c,d⟩
 | [x]=>exact⟨j.lead ht,k.lead ..,Le.lead ..,(bj ..).mpr (.inr rfl)⟩
 |x::y::_=>
  obtain⟨a,b,c,d⟩:=DM j k hn r2 x;refine⟨(a.lead d).lead ht,(b.lead ..).lead ..,(c.trans (Le.lead ..)).trans (Le.lead ..),midS n S r2 x,d,?_,?_⟩
  .exact(bj ..).mpr (.inl ((bj ..).mpr (.inr rfl)))
  .exact(bj ..).mpr (.inr rfl)
theorem qu (hn:ro<=n)(ht:ro<=t):∀(rl:List Rule){S:St},J ro rs S pf pr->KT S->(∀ r∈rl,r.2.2.1<ro)->J ro rs (rl.foldl (aX n t) S) pf pr/\KT (rl.foldl (aX n t) S)/\Le S (rl.foldl (aX n t) S)/\∀ r∈rl,Led ro (rl.foldl (aX n t) S) r t
 | [],S,j,k,_=>⟨j,k,Le.refl S,fun r h=>by cases h⟩
 |r::rl,S,j,k,h=>by
  obtain⟨a,b,c,d⟩:=qt j k hn ht (h r (by simp));obtain⟨a',b',c',d'⟩:=qu hn ht rl a b fun x hx=>h x (by simp[hx]);refine⟨a',b',c.trans c',fun x hx=>?_⟩;rcases Mv.mp hx with rfl|hx
  .exact d.mono c'
  .exact d' x hx
theorem lu {a:Arr}(ha:ro<=a.2.2):∀(rl:List Int){S:St},J ro rs S pf pr->KT S->J ro rs (rl.foldl (fun S r=>lead S r a.2.1 a.2.2) S) pf pr/\KT (rl.foldl (fun S r=>lead S r a.2.1 a.2.2) S)/\Le S (rl.foldl (fun S r=>lead S r a.2.1 a.2.2) S)/\(∀ r∈rl,dm (rl.foldl (fun S r=>lead S r a.2.1 a.2.2) S) (r,a.2.1,a.2.2))/\(rl.foldl (fun S r=>lead S r a.2.1 a.2.2) S).fo=S.fo
 | [],S,j,k=>⟨j,k,Le.refl S,(fun r h=>by cases h),rfl⟩
 |r::rl,S,j,k=>by
  obtain⟨j',k',l',h',f'⟩:=lu ha rl (j.lead (s:=r) (g:=a.2.1) ha) (k.lead r a.2.1 a.2.2);refine⟨j',k',(Le.lead ..).trans l',fun x hx=>?_,f'.trans (dz ..)⟩;rcases Mv.mp hx with rfl|hx
  .exact l'.h _ ((bj ..).mpr (.inr rfl))
  .exact h' x hx
noncomputable def uz:Int->Arr->Prop:=fun _ _=>False
noncomputable def vM:Arr->Prop:=fun _=>False
theorem Bi (j:J ro rs S uz vM)(k:KT S)(hn:ro<=n)(hd:S.du.getLast?=some a)(ha:dm S a)(hr:∀ s g,∀ r∈bG rs s g,r.2.2.1<ro):J ro rs (turn n rs a (bo S)) uz vM/\KT (turn n rs a (bo S))/\Le S (turn n rs a (bo S)):=by
 have hm:∀ b,b∈S.du->b∈(bo S).du\/b=a:=fun b hb=>by
  obtain⟨ys,e⟩:=Pi.mp hd;have:(bo S).du=ys:=by show S.du.dropLast=ys;rw[e];simp
  rw[this];rw[e]at hb;rcases MO.mp hb with h|h
  .exact .inl h
  .exact .inr (MH.mp h)
 have l0:Le S (bo S):=⟨fun _ h=>h,fun _ _ h=>h,fun _ h=>h⟩;have j0:J ro rs (bo S) (fun _ b=>b=a) (fun b=>b=a):=by
  refine⟨j.to,j.mi,fun s r h=>?_,fun b hb=>?_⟩
  .obtain⟨x,y,z,w⟩:=j.fo s r h;refine⟨x,y,z,fun g t ht=>?_⟩;rcases w g t ht with q|q|q
   .exact .inl q
   .exact .inr (hm _ q)
   .exact q.elim
  .rcases j.dn b hb with q|q|q
   .exact .inl (q.mono l0)
   .exact .inr (hm _ q)
   .exact q.elim
 have hat:=j.to a ha;obtain⟨j1,k1,l1,h1,f1⟩:=lu (a:=a) hat (fol (bo S) a.1) j0 (S:=bo S) ⟨k.k1,k.k2⟩;have j2:=j1.weak (pf':=uz) (pr':=fun b=>b=a) (fun r b hf hb e=>by
  subst e;left;refine h1 r ?_;have e:fol ((fol (bo S) b.1).foldl (fun S r=>lead S r b.2.1 b.2.2) (bo S)) b.1=fol (bo S) b.1:=by show(get ((fol (bo S) b.1).foldl (fun S r=>lead S r b.2.1 b.2.2) (bo S)).fo b.1).getD []=_;rw[f1];rfl
  rw[<- e];exact hf) fun b _ e=>.inr e
 obtain⟨j3,k3,l3,h3⟩:=qu (n:=n) hn hat (bG rs a.1 a.2.1) j2 k1 (hr _ _);refine⟨j3.weak (fun r b _ _ e=>.inr e) (fun b _ e=>by subst e;exact .inl h3),k3,(l0.trans l1).trans l3⟩
theorem DN (j:J ro rs S uz vM)(hd:S.du=[])(ha:dm S a):Done ro rs S a:=by
 rcases j.dn a ha with x|x|x
 .exact x
 .rw[hd]at x;cases x
 .exact x.elim
def DO (S:St):Int->List Int->Prop
 |s,[]=>s∈S.en
 |s,g::w=>∃ t,dm S (s,g,t)/\DO S t w
theorem Bj (j:J ro rs S uz vM)(hd:S.du=[])(h:r∈fol S s):∀{w:List Int},DO S s w->DO S r w
 | [],ha=>(j.fo s r h).2.2.1 ha
 |g::w,⟨t,h1,h2⟩=>by
  rcases (j.fo s r h).2.2.2 g t h1 with x|x|x
  .exact⟨t,x,h2⟩
  .rw[hd]at x;cases x
  .exact x.elim
theorem yq (j:J ro rs S uz vM)(hd:S.du=[])(hr:r∈bG rs r.1 r.2.1)(h2:r.2.2.2.length<=2)(h:DO S r.1 (r.2.1::w)):DO S r.2.2.1 (r.2.2.2++w):=by
 obtain⟨t,h1,h3⟩:=h;have hl:=DN j hd h1 r hr;obtain⟨r0,r1,r2,p⟩:=r;simp only[]at *
 match p with
 | []=>exact Bj j hd hl h3
 | [x]=>exact⟨t,hl,h3⟩
 | [x,y]=>obtain⟨m,_,a,b⟩:=hl;exact⟨m,a,t,b,h3⟩
end
end Sp
namespace Sp
theorem nodup_sub {α:Type}[DecidableEq α]:∀{l U:List α},l.Nodup->(∀ x∈l,x∈U)->l.length<=U.length
 | [],U,_,_=>ML _
 |x::l,U,nd,h=>by rw[OB]at nd;have hx:=h x (by simp);have:=nodup_sub (l:=l) (U:=U.erase x) nd.2 fun y hy=>(List.mem_erase_of_ne fun e=>nd.1 (by rw[<- e];exact hy)).mpr (h y (by simp[hy]));rw[List.length_erase_of_mem hx]at this;have:=List.length_pos_of_mem hx;rw[Nl];lia
def Bx (sg m:Int)(a:Arr):Prop:=(0<=a.1/\a.1<m)/\(0<=a.2.1/\a.2.1<sg)/\0<=a.2.2/\a.2.2<m
structure B (ro n sg:Int) (ks:List (Int×Int)) (t0 pp:List Arr) (S:St):Prop where
 old:∀ a,dm S a->ro<=a.1->a.1<n->a∈t0
 bx:∀ a,dm S a->Bx sg (n+ks.length) a
 ne1:∀ x∈S.tb,x.2≠[]
 ne2:∀ s,∀ x∈row S.tb s,x.2≠[]
 lf:∀ s g,(leaf S.tb s g).Nodup
 nd:(pp++S.du).Nodup
 sub:∀ a∈pp++S.du,dm S a
 mc:(S.mi.map (·.1)).Nodup
 ms:∀ x∈S.mi,x.1∈ks
 mv:∀ x∈S.mi,n<=x.2/\x.2<n+S.mi.length
 en:S.en.Nodup
 er:∀ e∈S.en,0<=e/\e<n
 fk:Keys S.fo
 fl:∀ s,(fol S s).Nodup
 fr:∀ s,∀ r∈fol S s,0<=r/\r<ro
 fs:∀ x∈S.fo,0<=x.1/\x.1<n+ks.length
section
variable {ro n sg:Int}{ks:List (Int×Int)}{t0 pp:List Arr}{S:St}
theorem get_none {κ β:Type}[DecidableEq κ]{d:List (κ×β)}{k:κ}(h:get d k=none):k∉d.map (·.1):=by
 induction d with
 |nil=>simp
 |cons x r ih=>rw[get_cons]at h;grind
theorem oH {κ β:Type}[DecidableEq κ]{d:List (κ×β)}{k:κ}{v:β}{x:κ×β}(h:x∈put d k v):x∈d\/x=(k,v):=by
 unfold put at h;split at h
 .obtain⟨y,hy,rfl⟩:=Md.mp h;split
  .rename_i e;rw[e];exact .inr rfl
  .exact .inl hy
 .rcases MO.mp h with h|h
  .exact .inl h
  .exact .inr (MH.mp h)
theorem DP {κ β:Type}[DecidableEq κ](d:List (κ×β))(k:κ)(v:β):put d k v≠[]:=by intro h;have:=get_put d k v k;rw[h]at this;simp[get]at this
theorem B.EV (b:B ro n sg ks t0 pp S):S.mi.length<=ks.length:=by
 have:=nodup_sub b.mc fun x hx=>by obtain⟨y,hy,rfl⟩:=Md.mp hx;exact b.ms y hy
 rw[Me]at this;exact this
theorem B.lead (b:B ro n sg ks t0 pp S)(h:Bx sg (n+ks.length) (s,g,t))(ho:ro<=s->s<n->(s,g,t)∈t0):B ro n sg ks t0 pp (lead S s g t):=by
 by_cases e:t∈leaf S.tb s g
 .have:Sp.lead S s g t=S:=by unfold Sp.lead;rw[Mh e]
  rw[this];exact b
 .have hd:(Sp.lead S s g t).du=S.du++[(s,g,t)]:=by rw[j8,Mj e]
  have ht:(Sp.lead S s g t).tb=put S.tb s (put (row S.tb s) g (leaf S.tb s g++[t])):=by unfold Sp.lead;rw[Mj e]
  have l:=Le.lead S s g t;refine⟨fun a ha h1 h2=>?_,fun a ha=>?_,fun x hx=>?_,fun s' x hx=>?_,fun s' g'=>?_,?_,fun a ha=>?_,?_,?_,?_,?_,?_,?_,fun s'=>?_,fun s'=>?_,?_⟩
  .rcases (bj ..).mp ha with ha|rfl
   .exact b.old a ha h1 h2
   .exact ho h1 h2
  .rcases (bj ..).mp ha with ha|rfl
   .exact b.bx a ha
   .exact h
  .rw[ht]at hx;rcases oH hx with hx|rfl
   .exact b.ne1 x hx
   .exact DP _ _ _
  .rw[ht]at hx;unfold row at hx;rw[get_put]at hx;split at hx
   .rcases oH hx with hx|rfl
    .exact b.ne2 s x hx
    .simp
   .exact b.ne2 s' x hx
  .rw[ht,lh];split
   .rw[NT];exact⟨b.lf s g,by simp,fun x hx y hy e'=>by simp at hy;subst hy;exact e (by rw[<- e'];exact hx)⟩
   .exact b.lf s' g'
  .rw[hd,<- Mo,NT];exact⟨b.nd,by simp,fun x hx y hy e'=>by simp at hy;subst hy;subst e';exact e (b.sub _ hx)⟩
  .rw[hd,<- Mo]at ha;rcases MO.mp ha with ha|ha
   .exact l.h _ (b.sub a ha)
   .rw[MH.mp ha];exact(bj ..).mpr (.inr rfl)
  .rw[cr];exact b.mc
  .rw[cr];exact b.ms
  .rw[cr];exact b.mv
  .rw[iP];exact b.en
  .rw[iP];exact b.er
  .rw[dz];exact b.fk
  .unfold fol;rw[dz];exact b.fl s'
  .unfold fol;rw[dz];exact b.fr s'
  .rw[dz];exact b.fs
theorem B.copy (hr:0<=r/\r<ro)(hn:ro<=n):∀(rw':List (Int×List Int)){S:St},B ro n sg ks t0 pp S->(∀ x∈rw',(0<=x.1/\x.1<sg)/\∀ t∈x.2,0<=t/\t<n+ks.length)->B ro n sg ks t0 pp (rw'.foldl (aG r) S)
 | [],_,b,_=>b
 |x::q,S,b,h=>by
  have h1:∀(ts:List Int){S:St},B ro n sg ks t0 pp S->(∀ t∈ts,0<=t/\t<n+ks.length)->B ro n sg ks t0 pp (aG r S (x.1,ts)):=fun ts=>by
   induction ts with
   |nil=>exact fun b _=>b
   |cons t ts ih=>intro S b ht;have:=ht t (by simp);have hx:=(h x (by simp)).1;exact ih (b.lead (s:=r) (g:=x.1) ⟨⟨hr.1,by simp only[];lia⟩,hx,this⟩ fun z=>by lia) fun y hy=>ht y (by simp[hy])
  exact B.copy hr hn q (h1 x.2 b (h x (by simp)).2) fun y hy=>h y (by simp[hy])
theorem B.aV (b:B ro n sg ks t0 pp S)(k:KT S)(hr:0<=r/\r<ro)(hn:ro<=n)(hs:0<=s/\s<n+ks.length):B ro n sg ks t0 pp (aV S r s):=by
 unfold Sp.aV;split
 .exact b
 .rename_i hf;refine B.copy (S:=fV S r s) hr hn _ ⟨b.old,b.bx,b.ne1,b.ne2,b.lf,b.nd,b.sub,b.mc,b.ms,b.mv,?_,fun e he=>?_,b.fk.put _ _,fun s'=>?_,fun s' r' h'=>?_,fun x hx=>?_⟩ fun x hx=>?_
  .show(if s∈S.en then add S.en r else S.en).Nodup;split
   .unfold add;split
    .exact b.en
    .rename_i q;rw[NT];exact⟨b.en,by simp,fun x hx y hy e'=>by simp at hy;subst hy;exact q (by rw[<- e'];exact hx)⟩
   .exact b.en
  .rcases (j9 S r s e).mp he with he|⟨_,rfl⟩
   .exact b.er e he
   .lia
  .rw[fc];split
   .rw[NT];exact⟨b.fl s,by simp,fun x hx y hy e'=>by simp at hy;subst hy;exact hf (by rw[<- e'];exact hx)⟩
   .exact b.fl s'
  .rw[fc]at h';split at h'
   .rcases MO.mp h' with h'|h'
    .exact b.fr s r' h'
    .rw[MH.mp h'];exact hr
   .exact b.fr s' r' h'
  .rcases oH (show x∈put S.fo s (fol S s++[r]) from hx) with hx|rfl
   .exact b.fs x hx
   .exact hs
  .have hl:∀ t∈x.2,dm S (s,x.1,t):=fun t ht=>by unfold dm leaf;rw[get_of (k.k2 s) hx];exact ht
   constructor
   .obtain⟨t,ht⟩:=List.exists_mem_of_ne_nil _ (b.ne2 s x hx);exact(b.bx _ (hl t ht)).2.1
   .exact fun t ht=>(b.bx _ (hl t ht)).2.2
theorem B.mid (b:B ro n sg ks t0 pp S)(hn:0<=n)(h:(r,g)∈ks):B ro n sg ks t0 pp (midM n S r g)/\n<=midS n S r g/\midS n S r g<n+ks.length:=by
 unfold midM midS;split
 .rename_i q;obtain⟨v,hv⟩:=Of.mp q;have:=b.mv _ (iQ hv);have:=b.EV;rw[hv];simp only[Option.getD_some]at *;exact⟨b,by lia,by lia⟩
 .rename_i q;have q:get S.mi (r,g)=none:=by simpa using q
  have b':B ro n sg ks t0 pp { S with mi:=S.mi++[((r,g),n+S.mi.length)] }:=by
   refine⟨b.old,b.bx,b.ne1,b.ne2,b.lf,b.nd,b.sub,?_,fun x hx=>?_,fun x hx=>?_,b.en,b.er,b.fk,b.fl,b.fr,b.fs⟩
   .show((S.mi++[((r,g),n+S.mi.length)]).map (·.1)).Nodup;rw[M8,NT];exact⟨b.mc,by simp,fun x hx y hy e'=>by simp at hy;subst hy;exact get_none q (by rw[<- e'];exact hx)⟩
   .rcases MO.mp (show x∈S.mi++[((r,g),n+S.mi.length)] from hx) with hx|hx
    .exact b.ms x hx
    .rw[MH.mp hx];exact h
   .show _/\_<n+(S.mi++[((r,g),n+(S.mi.length:Int))]).length;rw[MB,Ny];rcases MO.mp (show x∈S.mi++[((r,g),n+S.mi.length)] from hx) with hx|hx
    .have:=b.mv x hx;lia
    .rw[MH.mp hx];simp only[];lia
  have:=b'.EV;rw[show({ S with mi:=S.mi++[((r,g),n+S.mi.length)] }:St).mi.length=S.mi.length+1 from by simp]at this;refine⟨b',?_,?_⟩<;>rw[q]<;>simp only[QI]<;>lia
end
end Sp
namespace Sp
structure lK (ro sg:Int) (ks:List (Int×Int)) (r:Rule):Prop where
 to:0<=r.2.2.1/\r.2.2.1<ro
 put:∀ x∈r.2.2.2,0<=x/\x<sg
 mid:∀ x y w,r.2.2.2=x::y::w->(r.2.2.1,x)∈ks
section
variable {ro n sg:Int}{rs:RS}{ks:List (Int×Int)}{t0 pp:List Arr}{S:St}{pf:Int->Arr->Prop}{pr:Arr->Prop}
theorem B.aX (b:B ro n sg ks t0 pp S)(k:KT S)(h0:0<=ro)(hn:ro<=n)(ht:0<=t/\t<n+ks.length)(hr:lK ro sg ks r):B ro n sg ks t0 pp (aX n t S r):=by
 obtain⟨r0,r1,r2,w⟩:=r;have h1:=hr.to;have h2:=hr.put;have h3:=hr.mid;simp only[]at h1 h2 h3;have hk:(0:Int)<=ks.length:=by lia
 match w with
 | []=>exact b.aV k h1 hn ht
 | [x]=>exact b.lead (s:=r2) (g:=x) (t:=t) ⟨⟨h1.1,by simp only[];lia⟩,h2 x (by simp),ht⟩ fun z=>by lia
 |x::y::q=>obtain⟨b1,m0,m1⟩:=b.mid (by lia) (h3 x y q rfl);exact(b1.lead (s:=r2) (g:=x) ⟨⟨h1.1,by simp only[];lia⟩,h2 x (by simp),Int.le_trans (show(0:Int)<=n by lia) m0,m1⟩ fun z=>by lia).lead ⟨⟨Int.le_trans (show(0:Int)<=n by lia) m0,m1⟩,h2 y (by simp),ht⟩ fun z z'=>absurd (show midS n S r2 x<n from z') (by lia)
theorem B.rules (h0:0<=ro)(hn:ro<=n)(ht:0<=t/\t<n+ks.length)(ht':ro<=t):∀(rl:List Rule){S:St},J ro rs S pf pr->KT S->B ro n sg ks t0 pp S->(∀ r∈rl,lK ro sg ks r)->B ro n sg ks t0 pp (rl.foldl (Sp.aX n t) S)
 | [],_,_,_,b,_=>b
 |r::rl,S,j,k,b,h=>by obtain⟨j',k',_,_⟩:=qt j k hn ht' (h r (by simp)).to.2;exact B.rules h0 hn ht ht' rl j' k' (b.aX k h0 hn ht (h r (by simp))) fun x hx=>h x (by simp[hx])
theorem B.dQ (ha:Bx sg (n+ks.length) a)(hn:ro<=n):∀(rl:List Int){S:St},B ro n sg ks t0 pp S->(∀ r∈rl,0<=r/\r<ro)->B ro n sg ks t0 pp (rl.foldl (fun S r=>Sp.lead S r a.2.1 a.2.2) S)
 | [],_,b,_=>b
 |r::rl,S,b,h=>by have hr:=h r (by simp);exact B.dQ ha hn rl (b.lead (s:=r) ⟨⟨hr.1,by simp only[];lia⟩,ha.2.1,ha.2.2⟩ fun z=>by lia) fun x hx=>h x (by simp[hx])
theorem B.bo (b:B ro n sg ks t0 pp S)(hd:S.du.getLast?=some a):B ro n sg ks t0 (pp++[a]) (bo S):=by
 obtain⟨ys,e⟩:=Pi.mp hd;have ed:(Sp.bo S).du=ys:=by show S.du.dropLast=ys;rw[e];simp
 have hp:(pp++[a]++ys).Perm (pp++S.du):=by rw[e,Mo];exact Qe pp Oc
 refine⟨b.old,b.bx,b.ne1,b.ne2,b.lf,?_,fun x hx=>?_,b.mc,b.ms,b.mv,b.en,b.er,b.fk,b.fl,b.fr,b.fs⟩
 .rw[ed];exact hp.nodup_iff.mpr b.nd
 .rw[ed]at hx;exact b.sub x (hp.mem_iff.mp hx)
theorem B.turn (b:B ro n sg ks t0 pp S)(j:J ro rs S uz vM)(k:KT S)(h0:0<=ro)(hn:ro<=n)(hd:S.du.getLast?=some a)(ha:dm S a)(hr:∀ s g,∀ r∈bG rs s g,lK ro sg ks r):B ro n sg ks t0 (pp++[a]) (turn n rs a (Sp.bo S)):=by
 have bx:=b.bx a ha;have hat:=j.to a ha;have b1:=b.bo hd;have b2:=B.dQ bx hn (fol (Sp.bo S) a.1) b1 (b1.fr a.1);have j0:J ro rs (Sp.bo S) (fun _ b=>b=a\/b∈S.du) (fun b=>b=a\/b∈S.du):=by
  refine⟨j.to,j.mi,fun s r h=>?_,fun b hb=>?_⟩
  .obtain⟨x,y,z,w⟩:=j.fo s r h;refine⟨x,y,z,fun g t ht=>?_⟩;rcases w g t ht with q|q|q
   .exact .inl q
   .exact .inr (.inr (.inr q))
   .exact q.elim
  .rcases j.dn b hb with q|q|q
   .exact .inl q
   .exact .inr (.inr (.inr q))
   .exact q.elim
 obtain⟨j1,k1,_⟩:=lu (a:=a) hat (fol (Sp.bo S) a.1) j0 (S:=Sp.bo S) ⟨k.k1,k.k2⟩;exact B.rules h0 hn bx.2.2 hat (bG rs a.1 a.2.1) j1 k1 b2 (hr _ _)
noncomputable def box (sg m:Int):List Arr:=(List.range m.toNat).flatMap fun s:Nat=>(List.range sg.toNat).flatMap fun g:Nat=>(List.range m.toNat).map fun t:Nat=>(((s:Nat):Int),((g:Nat):Int),((t:Nat):Int))
theorem Bk (h:Bx sg m a):a∈box sg m:=by obtain⟨s,g,t⟩:=a;obtain⟨h1,h2,h3⟩:=h;simp only[]at h1 h2 h3;unfold box;refine NR.mpr ⟨s.toNat,MZ.mpr (by lia),NR.mpr ⟨g.toNat,MZ.mpr (by lia),Md.mpr ⟨t.toNat,MZ.mpr (by lia),?_⟩⟩⟩;rw[OL h1.1,OL h2.1,OL h3.1]
theorem B.turns (b:B ro n sg ks t0 pp S):pp.length+S.du.length<=(box sg (n+ks.length)).length:=by have:=nodup_sub b.nd fun a ha=>Bk (b.bx a (b.sub a ha));rw[MB]at this;exact this
theorem gH {l:List Int}{m:Int}(nd:l.Nodup)(h:∀ x∈l,0<=x/\x<m):l.length<=m.toNat:=by have:=nodup_sub (U:=(List.range m.toNat).map fun k:Nat=>(k:Int)) nd fun x hx=>Md.mpr ⟨x.toNat,MZ.mpr (by have:=h x hx;lia),by have:=h x hx;lia⟩;rw[Me,O9]at this;exact this
theorem B.small (b:B ro n sg ks t0 pp S)(k:KT S):S.tb.length<=(n+ks.length).toNat/\(∀ s,(row S.tb s).length<=sg.toNat)/\(∀ s g,(leaf S.tb s g).length<=(n+ks.length).toNat)/\S.en.length<=n.toNat:=by
 have inr:∀ s,∀ x∈row S.tb s,∃ t,dm S (s,x.1,t):=fun s x hx=>by have hne:=b.ne2 s x hx;obtain⟨t,r,e⟩:=List.exists_cons_of_ne_nil hne;refine⟨t,?_⟩;unfold dm leaf;rw[get_of (k.k2 s) hx];simp[e]
 have int:∀ x∈S.tb,∃ g t,dm S (x.1,g,t):=fun x hx=>by
  obtain⟨y,r,e⟩:=List.exists_cons_of_ne_nil (b.ne1 x hx);have hy:y∈row S.tb x.1:=by unfold row;rw[get_of k.k1 hx];simp[e]
  obtain⟨t,ht⟩:=inr _ y hy;exact⟨y.1,t,ht⟩
 refine⟨?_,fun s=>?_,fun s g=>?_,?_⟩
 .have:=gH (l:=S.tb.map fun x=>x.1) (m:=n+ks.length) k.k1 (fun y hy=>by obtain⟨x,hx,rfl⟩:=Md.mp hy;obtain⟨g,t,h⟩:=int x hx;exact(b.bx _ h).1);rw[Me]at this;exact this
 .have:=gH (l:=(row S.tb s).map fun x=>x.1) (m:=sg) (show((row S.tb s).map fun x=>x.1).Nodup from k.k2 s) (fun y hy=>by obtain⟨x,hx,rfl⟩:=Md.mp hy;obtain⟨t,h⟩:=inr s x hx;exact(b.bx _ h).2.1);rw[Me]at this;exact this
 .exact gH (b.lf s g) fun x hx=>(b.bx (s,g,x) hx).2.2
 .exact gH b.en fun x hx=>b.er x hx
theorem B.fit (b:B ro n sg ks t0 pp S)(k:KT S)(h0:0<=ro)(hro:ro<=n)(h1:n+ks.length<15000000)(h2:sg<15000000)(h3:(box sg (n+ks.length)).length<15000000):lR S:=by
 have hk:(0:Int)<=ks.length:=by lia
 obtain⟨z1,z2,z3,z4⟩:=b.small k;refine⟨by lia,fun s=>by have:=z2 s;lia,fun s g=>by have:=z3 s g;lia,by lia,?_,fun s=>?_,?_,?_⟩
 .have:=gH (l:=S.fo.map fun x=>x.1) (m:=n+ks.length) b.fk (fun y hy=>by obtain⟨x,hx,rfl⟩:=Md.mp hy;exact b.fs x hx);rw[Me]at this;lia
 .have:=gH (b.fl s) (fun x hx=>b.fr s x hx) (m:=ro);lia
 .have:=b.EV;lia
 .have:=b.turns;lia
theorem uA (h1:n+ks.length<15000000)(h2:sg<15000000)(h3:(box sg (n+ks.length)).length<15000000)(h0:0<=ro)(hn:ro<=n)(hr:∀ s g,∀ r∈bG rs s g,lK ro sg ks r):∀(m:Nat)(pp:List Arr)(S:St),J ro rs S uz vM->KT S->B ro n sg ks t0 pp S->(box sg (n+ks.length)).length-pp.length<=m->
 ∃ k T pp',k<=m/\Loop n rs k S T/\J ro rs T uz vM/\KT T/\B ro n sg ks t0 pp' T/\T.du=[]/\Le S T
 |m,pp,S,j,k,b,hm=>by
  cases hd:S.du.getLast? with
  |none=>have e:S.du=[]:=List.getLast?_eq_none_iff.mp hd;exact⟨0,S,pp,ML _,.done e,j,k,b,e,Le.refl S⟩
  |some a=>
   have hmem:a∈S.du:=List.mem_of_getLast? hd;have ha:=b.sub a (MX _ hmem);obtain⟨j1,k1,l1⟩:=Bi j k hn hd ha fun s g r h=>(hr s g r h).to.2;have b1:=b.turn j k h0 hn hd ha hr;have t1:=b1.turns;rw[MB,Ny]at t1;cases m with
   |zero=>lia
   |succ m=>obtain⟨q,T,pp',x0,x1,x2,x3,x4,x5,x6⟩:=uA h1 h2 h3 h0 hn hr m (pp++[a]) _ j1 k1 b1 (by rw[MB,Ny];lia);exact⟨q+1,T,pp',by lia,.step hd (fun r h e=>by have:=(hr _ _ r h).to.2;have:=j.to a ha;lia) (b1.fit k1 h0 hn h1 h2 h3) x1,x2,x3,x4,x5,l1.trans x6⟩
end
end Sp
namespace Sp
noncomputable def addR (l:List Rule)(r:Rule):List Rule:=if r∈l then l else l++[r]
def byHead (RL:List Rule):RS:=RL.foldl (fun d r=>put d (r.1,r.2.1) (addR ((get d (r.1,r.2.1)).getD []) r)) []
theorem yr:x∈addR l r↔x∈l\/x=r:=by grind [addR]
theorem byHead_mem:r∈bG (byHead RL) s g↔r∈RL/\(r.1,r.2.1)=(s,g):=by
 have key:∀(RL:List Rule)(d:RS),r∈bG (RL.foldl (fun d r=>put d (r.1,r.2.1) (addR ((get d (r.1,r.2.1)).getD []) r)) d) s g↔r∈bG d s g\/(r∈RL/\(r.1,r.2.1)=(s,g)):=fun RL=>by
  induction RL with
  |nil=>intro d;simp
  |cons x q ih=>
   intro d;rw[PN,ih];have:r∈bG (put d (x.1,x.2.1) (addR ((get d (x.1,x.2.1)).getD []) x)) s g↔r∈bG d s g\/(r=x/\(x.1,x.2.1)=(s,g)):=by
    unfold bG;rw[get_put];split
    .rename_i e;rw[Option.getD_some,yr,<- e];simp
    .rename_i e;constructor
     .exact .inl
     .rintro (h|⟨_,h⟩)
      .exact h
      .exact absurd h.symm e
   rw[this,Mv];constructor
   .rintro ((h|⟨rfl,h⟩)|⟨h,h'⟩)
    .exact .inl h
    .exact .inr ⟨.inl rfl,h⟩
    .exact .inr ⟨.inr h,h'⟩
   .rintro (h|⟨rfl|h,h'⟩)
    .exact .inl (.inl h)
    .exact .inl (.inr ⟨rfl,h'⟩)
    .exact .inr ⟨h,h'⟩
 rw[byHead,key];simp[bG,get]
def marked (l:List Int):List Int:=l.foldl add []
theorem nB (l:List Int):(marked l).Nodup/\∀ x,x∈marked l↔x∈l:=by
 have key:∀(l m:List Int),m.Nodup->(l.foldl add m).Nodup/\∀ x,x∈l.foldl add m↔x∈m\/x∈l:=fun l=>by
  induction l with
  |nil=>intro m h;exact⟨h,fun x=>by simp⟩
  |cons y q ih=>
   intro m h;have hn:(add m y).Nodup:=by
    unfold add;split
    .exact h
    .rename_i e;rw[NT];exact⟨h,by simp,fun x hx z hz e'=>by simp at hz;subst hz;exact e (by rw[<- e'];exact hx)⟩
   obtain⟨a,b⟩:=ih (add m y) hn;refine⟨a,fun x=>?_⟩;rw[PN,b,uw,Mv,or_assoc]
 obtain⟨a,b⟩:=key l [] OR;exact⟨a,fun x=>by unfold marked;rw[b];simp⟩
def start (es:List Int):St:=⟨[],marked es,[],[],[]⟩
def begun (ts:List Arr)(es:List Int):St:=ts.foldl (fun S a=>lead S a.1 a.2.1 a.2.2) (start es)
section
variable {ro n sg:Int}{rs:RS}{ks:List (Int×Int)}{es:List Int}{t0:List Arr}
theorem start_has (a:Arr):¬ dm (start es) a:=by unfold dm start leaf row;simp[get]
theorem start_fol (s:Int):fol (start es) s=[]:=rfl
theorem yt (he:∀ e∈es,0<=e/\e<n):J ro rs (start es) uz vM/\KT (start es)/\B ro n sg ks t0 [] (start es):=by obtain⟨m1,m2⟩:=nB es;refine⟨⟨fun a h=>absurd h (start_has a),fun x h=>(by cases h),fun s r h=>(by rw[start_fol]at h;cases h),fun a h=>absurd h (start_has a)⟩,⟨by unfold Keys start;simp,fun s=>by unfold Keys start row;simp[get]⟩,?_⟩;exact⟨fun a h=>absurd h (start_has a),fun a h=>absurd h (start_has a),fun x h=>(by cases h),fun s x h=>(by unfold start row at h;simp[get]at h),fun s g=>by unfold start leaf row;simp[get],by simp[start],fun a h=>(by simp[start]at h),by simp[start],fun x h=>(by cases h),fun x h=>(by cases h),m1,fun e h=>he e ((m2 e).mp h),by unfold Keys start;simp,fun s=>by rw[start_fol];simp,fun s r h=>(by rw[start_fol]at h;cases h),fun x h=>(by cases h)⟩
theorem qv:∀(ts:List Arr){S:St},J ro rs S uz vM->KT S->B ro n sg ks t0 [] S->(∀ a∈ts,Bx sg (n+ks.length) a/\ro<=a.2.2/\a∈t0)->
 J ro rs (ts.foldl (fun S a=>lead S a.1 a.2.1 a.2.2) S) uz vM/\KT (ts.foldl (fun S a=>lead S a.1 a.2.1 a.2.2) S)/\B ro n sg ks t0 [] (ts.foldl (fun S a=>lead S a.1 a.2.1 a.2.2) S)/\Le S (ts.foldl (fun S a=>lead S a.1 a.2.1 a.2.2) S)/\∀ a∈ts,dm (ts.foldl (fun S a=>lead S a.1 a.2.1 a.2.2) S) a
 | [],S,j,k,b,_=>⟨j,k,b,Le.refl S,fun a h=>by cases h⟩
 |a::ts,S,j,k,b,h=>by
  have ha:=h a (by simp);obtain⟨j',k',b',l',h'⟩:=qv ts (j.lead (s:=a.1) (g:=a.2.1) ha.2.1) (k.lead a.1 a.2.1 a.2.2) (b.lead ha.1 fun _ _=>ha.2.2) fun x hx=>h x (by simp[hx]);refine⟨j',k',b',(Le.lead ..).trans l',fun x hx=>?_⟩;rcases Mv.mp hx with rfl|hx
  .exact l'.h _ ((bj ..).mpr (.inr rfl))
  .exact h' x hx
theorem run (b1:n+ks.length<15000000)(b2:sg<15000000)(b3:(box sg (n+ks.length)).length<15000000)(h0:0<=ro)(hn:ro<=n)(hr:∀ r∈RL,lK ro sg ks r)(ht:∀ a∈ts,Bx sg n a/\ro<=a.2.2)(he:∀ e∈es,0<=e/\e<n) :
 ∃ k T pp,k<=(box sg (n+ks.length)).length/\lR (begun ts es)/\Loop n (byHead RL) k (begun ts es) T/\J ro (byHead RL) T uz vM/\KT T/\B ro n sg ks ts pp T/\T.du=[]/\(∀ a∈ts,dm T a)/\(∀ e∈es,e∈T.en)/\
  ∀ r∈RL,r.2.2.2.length<=2->∀ w,DO T r.1 (r.2.1::w)->DO T r.2.2.1 (r.2.2.2++w):=by
 obtain⟨j0,k0,b0⟩:=yt (ro:=ro) (rs:=byHead RL) (sg:=sg) (ks:=ks) (t0:=ts) he;obtain⟨j1,k1,d1,l1,h1⟩:=qv ts j0 k0 b0 fun a ha=>by obtain⟨⟨a1,a2,a3⟩,a4⟩:=ht a ha;exact⟨⟨⟨a1.1,by lia⟩,a2,a3.1,by lia⟩,a4,ha⟩
 obtain⟨k,T,pp,x0,x1,x2,x3,x4,x5,x6⟩:=uA (rs:=byHead RL) b1 b2 b3 h0 hn (fun s g r h=>hr r (byHead_mem.mp h).1) (box sg (n+ks.length)).length [] (begun ts es) j1 k1 d1 (by simp);refine⟨k,T,pp,x0,d1.fit k1 h0 hn b1 b2 b3,x1,x2,x3,x4,x5,fun a ha=>x6.h _ (h1 a ha),fun e h=>x6.e _ (l1.e _ (((nB es).2 e).mpr h)),fun r h h2 w ha=>yq x2 x5 (byHead_mem.mpr ⟨h,rfl⟩) h2 ha⟩
end
end Sp
namespace Sp
def outs (jF:List Int->List Int)(S:St):List Arr:=(jF (S.tb.map (·.1))).flatMap fun s=>(jF ((row S.tb s).map (·.1))).flatMap fun g=>(jF (leaf S.tb s g)).map fun t=>(s,g,t)
theorem Bl {κ β:Type}[DecidableEq κ]{d:List (κ×β)}{k:κ}{v:β}(h:get d k=some v):k∈d.map (·.1):=Md.mpr ⟨_,iQ h,rfl⟩
structure cO (jF:List Int->List Int):Prop where
 m:∀ l x,x∈jF l↔x∈l
 n:∀ l,(jF l).Nodup
section
variable {jF:List Int->List Int}{ro n sg:Int}{ks:List (Int×Int)}{t0 pp:List Arr}{S:St}
theorem outs_mem (h:cO jF):a∈outs jF S↔dm S a:=by
 obtain⟨s,g,t⟩:=a;unfold outs;rw[NR];constructor
 .rintro⟨s',h1,h2⟩;obtain⟨g',h3,h4⟩:=NR.mp h2;obtain⟨t',h5,e⟩:=Md.mp h4;cases e;exact(h.m _ _).mp h5
 .intro ha;have ha:t∈leaf S.tb s g:=ha;obtain⟨x,hx,e1,e2⟩:=uy ha;have hr:∃ r,get S.tb s=some r:=by
   unfold row at hx;cases e:get S.tb s with
   |none=>rw[e]at hx;cases hx
   |some r=>exact⟨r,rfl⟩
  obtain⟨r,hr⟩:=hr;exact⟨s,(h.m _ _).mpr (Bl hr),NR.mpr ⟨g,(h.m _ _).mpr (Md.mpr ⟨x,hx,e1⟩),Md.mpr ⟨t,(h.m _ _).mpr ha,rfl⟩⟩⟩
theorem Bm (h:cO jF):(outs jF S).Nodup:=by
 unfold outs List.Nodup;rw[O0];refine⟨fun s _=>?_,(h.n _).imp fun{a b} ne x hx y hy e=>?_⟩
 .rw[O0];refine⟨fun g _=>?_,(h.n _).imp fun{a b} ne x hx y hy e=>?_⟩
  .rw[MQ];exact(h.n _).imp fun{a b} ne e=>ne (by cases e;rfl)
  .obtain⟨_,_,rfl⟩:=Md.mp hx;obtain⟨_,_,rfl⟩:=Md.mp hy;cases e;exact ne rfl
 .obtain⟨_,_,hx⟩:=NR.mp hx;obtain⟨_,_,hy⟩:=NR.mp hy;obtain⟨_,_,rfl⟩:=Md.mp hx;obtain⟨_,_,rfl⟩:=Md.mp hy;cases e;exact ne rfl
noncomputable def nums (a b:Int):List Int:=(List.range (b-a).toNat).map fun k:Nat=>a+(k:Int)
theorem nums_mem (h1:a<=x)(h2:x<b):x∈nums a b:=Md.mpr ⟨(x-a).toNat,MZ.mpr (by lia),by lia⟩
theorem nums_len (a b:Int):(nums a b).length=(b-a).toNat:=by unfold nums;simp
theorem prod_len {α β γ:Type}(xs:List α)(ys:List β)(f:α->β->γ):(xs.flatMap fun x=>ys.map (f x)).length=xs.length*ys.length:=by
 induction xs with
 |nil=>simp
 |cons x r ih=>rw[List.flatMap_cons,MB,ih,Me,Nl,Nat.succ_mul];lia
theorem outs_len (h:cO jF)(b:B ro n sg ks t0 pp S)(hto:∀ a,dm S a->ro<=a.2.2)(h0:0<=ro)(hn:ro<=n)(hs:0<=sg)(hp:ro.toNat+ks.length<=p)(hq:(n-ro).toNat+ks.length<=q):(outs jF S).length<=p*(sg.toNat*q)+t0.length:=by
 have hU:(((nums 0 ro++nums n (n+ks.length)).flatMap fun s=>((nums 0 sg).flatMap fun g=>(nums ro (n+ks.length)).map fun t=>(g,t)).map fun x=>((s,x):Arr))++t0).length<=p*(sg.toNat*q)+t0.length:=by rw[MB,prod_len,prod_len,MB,nums_len,nums_len,nums_len,nums_len];refine Nat.add_le_add_right (Qb (by lia) (Qb (by lia) (by lia))) _
 refine Mq (nodup_sub (Bm h) fun a ha=>?_) hU;have ha:=(outs_mem h).mp ha;obtain⟨h1,h2,h3⟩:=b.bx a ha;have h4:=hto a ha;by_cases c:ro<=a.1/\a.1<n
 .exact MX _ (b.old a ha c.1 c.2)
 .refine Na _ (NR.mpr ⟨a.1,?_,Md.mpr ⟨a.2,NR.mpr ⟨a.2.1,nums_mem h2.1 h2.2,Md.mpr ⟨a.2.2,nums_mem h4 h3.2,rfl⟩⟩,rfl⟩⟩);by_cases d:a.1<ro
  .exact Na _ (nums_mem h1.1 d)
  .exact MX _ (nums_mem (by lia) h1.2)
noncomputable def DQ (ts:List Arr)(es:List Int):Int->List Int->Prop
 |s,[]=>s∈es
 |s,g::w=>∃ t,(s,g,t)∈ts/\DQ ts es t w
structure Fw (ro sg n:Int) (RL:List Rule) (ts:List Arr) (es:List Int) (n':Int) (ts':List Arr) (es':List Int):Prop where
 t:∀ a∈ts,a∈ts'
 e:∀ x∈es,x∈es'
 c:∀ r∈RL,r.2.2.2.length<=2->∀ w,DQ ts' es' r.1 (r.2.1::w)->DQ ts' es' r.2.2.1 (r.2.2.2++w)
end
end Sp
namespace L2
open PySem PySem.Spec PySem.Calls PyProof.Rows
section
theorem sJ (hd:(d==sysModules)=false)(m:RawD s.heap d es ep)
 (hQ:Q (.ref s.heap.objs.size) { s with heap:=s.heap.push { cls:=.type "dict_keyiterator",data:=.fields #[.ref d,.int 0 0,.int es.size 0,.int ep 0] } }):wpAny (model prog w) A (pyIter (.ref d)) Q E s:=by
 obtain⟨o,ho,_,hdat⟩:=id m;refine O5 m.ty F.slot_dict_iter (M3 F.slot_dict_iter m.ty F.entry_dict_iter ?_ (F.args_dict_iter_1 _));unfold Builtin.«dict.__iter__» Builtin.Dict.dictSlotNone;refine KE (KE (Ov m.ty (show wpAny _ _ (pure (Value.ref d)) _ _ s from L_ ?_)));show wpAny _ _ (Builtin.Dict.showsAll d >>= _) _ _ s;unfold Builtin.Dict.showsAll;rw[Mj (by grind)];refine KE (L_ (KE (Oq ho hdat (KE (PQ ho hdat (KE (Nc (L_ ⟨_,rfl, "dict_keyiterator",_,⟨_,Mm _ rfl,rfl⟩,F.slot_dict_keyiterator_next.lookup,?_⟩))))))));simpa[rawInt] using hQ
theorem lw (y:s.heap.IsKeyIter it d i es.size ep)(m:RawD s.heap d es ep)
 (h1:∀ e,es[i]?=some e->∀ h',h'.IsKeyIter it d (i+1) es.size ep->Heap.SameBut it s.heap h'->Q (some e.key) { s with heap:=h' })
 (h2:es[i]?=none->A.handled=none/\∀ h',Heap.ExtBut it s.heap h'->Q none { s with heap:=h' }):wpAny (model prog w) A (pyNext (.ref it)) Q E s:=by
 obtain⟨o,ho,hc,hd⟩:=id y;obtain⟨od,hod,_,hdd⟩:=id m;unfold pyNext;refine KE (PF (NA (name:=Str.ofString "__next__") y.typeIs F.slot_dict_keyiterator_next (M3 F.slot_dict_keyiterator_next y.typeIs F.entry_dict_keyiterator_next ?_ (F.args_dict_keyiterator_next_1 _))));refine KE (L_ (KE (KE ?_)))
 first|refine KE (OQ y.typeIs (L_ ?_))|refine KE (Pw y.typeIs (L_ ?_))
 refine KE (Qz ho hd ?_);simp only[show Builtin.Dict_items.ownsTuple "dict_keyiterator"=false by decide,Mz,Nm];show wpAny _ _ (if (Value.ref d==Value.none)=true then _ else _) _ _ s;rw[Mj (show ¬ ((Value.ref d==Value.none)=true) from MF)];refine KE (L_ (KE (Oq hod hdd ?_)));rw[Mj (by simp)];refine KE (L_ (KE (PQ hod hdd ?_)));rw[Mj (by simp)];refine L_ ?_;simp only[show ¬ ((i:Int)<0) from by lia,Nm,O3];cases he:es[i]? with
 |some e=>
  refine KE ?_
  first|refine KE (OQ y.typeIs (L_ ?_))|refine KE (Pw y.typeIs (L_ ?_))
  refine KE (wpAny_isOneOf_keyiter y.typeIs ?_);show wpAny _ _ (setField (.ref it) 1 (rawInt ((i:Int)+1)) >>= _) _ _ s;refine KE (Ph ho hd (by simp) ?_);have hit':(s.heap.update it (Obj.mapFields (·.setIfInBounds 1 (rawInt ((i:Int)+1))))).IsKeyIter it d (i+1) es.size ep:=⟨_,NO _ ho (Qf (PH hd _)),(Obj.cls_mapFields ..).trans hc,by rw[PH hd];simp[rawInt]⟩;refine KE (Nb (KE (wpAny_isOneOf_keyiter (s:={ s with heap:=s.heap.update it (Obj.mapFields (·.setIfInBounds 1 (rawInt ((i:Int)+1)))) }) hit'.typeIs ?_)));show wpAny _ _ (pure e.key) _ _ _;exact L_ (L_ ⟨_,rfl,L_ (h1 e he _ hit' (M_ ..))⟩)
 |none=>
  obtain⟨hh,hQ⟩:=h2 he;refine KE ?_
  first|refine KE (OQ y.typeIs (L_ ?_))|refine KE (Pw y.typeIs (L_ ?_))
  show wpAny _ _ (setField (.ref it) 0 .none >>= _) _ _ s;refine KE (Ph ho hd (by simp) ?_);show wpAny _ _ (newExc (.type "StopIteration") [] >>= _) _ _ _;refine KE ?_;simp only[newExc,newTuple];refine KE (Nc ?_ (by size_fits));refine KE (m:=firstArgMember _ _) (wpAny_of_eq (a:=Value.none) (by first|rfl|(simp only[firstArgMember];rfl)) ?_);refine Nc ?_ (by size_fits);simp only[raiseNew];refine KE (wpAny_handled ?_);rw[show A.in1.handled=none from hh];refine KE (L_ (wpAny_throw ?_));refine KE (ON (T:="StopIteration") (b:=true) ⟨_,Mm _ rfl,rfl⟩ isSubtype_stop ?_);exact L_ (hQ _ (((M_ ..).extBut.push _).push _))
end
def vN (d:Addr)(o:Obj)(xs:NX)(h:Heap):Prop:=fZ d xs h/\h.get? d=some o
theorem DR (x:vN d o xs h):ObjOk P w H h d (.ext (vN d o xs)):=⟨x,⟨o,x.2⟩,fun h1 h2 ⟨⟨o',es,ep,q,r⟩,e⟩ k=>⟨⟨o',es,ep,k _ q,r⟩,k _ e⟩⟩
def Kf (d:Addr)(o:Obj)(xs:NX):It:=⟨fun i H=>H d=some (.ext (vN d o xs))/\i<xs.length,fun i H x H'=>H'=H/\∃ k b v,xs[i]?=some (k,b,v)/\x=.ref b,fun i H=>H d=some (.ext (vN d o xs))/\xs.length<=i⟩
theorem vO {P:QR}{w:World}{K:QQ}{tg:Expr}(hex:o.ExactDict)(hdat:o.data=.dict es ep)(hes:es.toList=xs.map fun x=>⟨F9 x.1,.ref x.2.1,x.2.2⟩) :
 Turn P w K tg (Kf d o xs) [it] it (fun i h=>h.IsKeyIter it d i es.size ep) where
 mem:=by simp
 obj:=fun i h st b hb=>by
  have e:b=it:=by simpa using hb
  subst e;obtain⟨o,e,c,q⟩:=st;exact⟨o,e,fun v z=>by rw[q]at z;cases z⟩
 keep:=fun i h h' st k=>st.at fun o e=>k it (by simp) o e
 item:=by
  intro X hP hw hK hc i ac s σ H E I hf st hg;subst hP hw hK;obtain⟨hd,hi⟩:=hg;obtain⟨⟨_,eo⟩,_⟩:=(show ObjOk X.prog X.w H s.heap d (.ext (vN d o xs)) from I.aJ d _ hd);obtain⟨f0,f1,f2,f3,f4,f5⟩:=hf it (by simp);have he:es[i]?=some ⟨F9 xs[i].1,.ref xs[i].2.1,xs[i].2.2⟩:=by rw[<- Mn,hes,ME,Ml hi];rfl
  refine lw st ⟨o,eo,hex,hdat⟩ (fun e e1 h' st' sb=>?_) fun z=>by rw[he]at z;cases z
  rw[he]at e1;cases e1;have I1:Inv X ac σ H { s with heap:=h' }:=I.turned (t':=s.toks) (fun b o hb e=>(sb.2 b hb).trans e) f0 f1 f3 f4 f5;obtain⟨oi,e,c,q⟩:=id st';exact⟨_,rfl,pE (s:={ s with heap:=h' }) e c q (by decide) ⟨.ref xs[i].2.1,H,I1,rfl,⟨rfl,xs[i].1,xs[i].2.1,xs[i].2.2,Ml hi,rfl⟩,st',fun b hb=>(hf b hb).1⟩⟩
 done:=by
  intro X hP hw hK hc i ac s σ H E I hf st hg;subst hP hw hK;obtain⟨hd,hi⟩:=hg;obtain⟨⟨_,eo⟩,_⟩:=(show ObjOk X.prog X.w H s.heap d (.ext (vN d o xs)) from I.aJ d _ hd);obtain⟨f0,f1,f2,f3,f4,f5⟩:=hf it (by simp);have hs:es.size=xs.length:=by rw[<- MR,hes,Me]
  refine lw st ⟨o,eo,hex,hdat⟩ (fun e e1=>?_) fun _=>⟨I.ok.hd hc,fun h' eb=>⟨rfl,I.turned (t':=s.toks) (fun b o hb e=>eb b o hb e) f0 f1 f3 f4 f5⟩⟩;rw[Array.getElem?_eq_none (by lia)]at e1;cases e1
 self:=fun _ _ _ _ _ st h=>wpAny_pyIter_keyiter st h
section
theorem Inv.seen (I:Inv X ac σ H s)(e:H d=some (.ext P'))(new:ObjOk X.prog X.w (upd H d (.ext P'')) s.heap d (.ext P'')):Inv X ac σ (upd H d (.ext P'')) s:=by
 have kp:∀ b u,H b=some u->(∀ q,u≠.ext q)->upd H d (.ext P'') b=some u:=fun b u q n=>by
  rw[aA]
  .exact q
  .rintro rfl;rw[e]at q;cases q;exact n _ rfl
 refine I.view (fun b hb=>?_) (fun b xs q=>kp b _ q fun _ z=>nomatch z) (fun b o u q=>kp b _ (I.base.gA b o u q) fun _ z=>nomatch z) (fun b ps q=>kp b _ q fun _ z=>nomatch z) (n9 I.aJ ⟨_,e,fun _ z=>(nomatch z),fun _ z=>(nomatch z)⟩ new);rw[aA]
 .exact hb
 .rintro rfl;rw[e]at hb;cases hb
def DS (tl:TE):TI:=fun σ H R=>tl σ H fun x H1=>∃ d xs,x=.ref d/\(d==sysModules)=false/\H1 d=some (.ext (fZ d xs))/\∀ o,R (Kf d o xs) (upd H1 d (.ext (vN d o xs)))
theorem Bn {l:Expr}(hl:PE X l tl):PI X tg l (DS tl):=by
 intro ac s σ H R I h;refine bO (hl ac s σ H _ I h) fun v s1 ⟨x,H1,I1,r1,q1⟩=>?_;obtain⟨d,xs,e,hd,e1,q⟩:=q1;subst e;cases r1;have nd:=Ck I1 e1;obtain⟨o,es,ep,ho,hex,hdat,hes,hn⟩:=id nd;have I2:=I1.seen e1 (P'':=vN d o xs) (DR ⟨nd,ho⟩);refine sJ hd ⟨o,ho,hex,hdat⟩ ?_;refine⟨s1.heap.objs.size,[s1.heap.objs.size],_,_,_,rfl,I2.kept (t':=s1.toks) fun b o e=>Mb _ e,vO hex hdat hes,⟨_,Mm _ rfl,rfl,rfl⟩,fun b hb=>?_,q o⟩;have e:b=s1.heap.objs.size:=by simpa using hb
 subst e;exact I2.oY (Mc _) (I2.aJ.fresh (Mc _))
def Kg (D:Ends):Ends where
 nx:=fun σ H=>∃ d o xs,H d=some (.ext (vN d o xs))/\D.nx σ (upd H d (.ext (fZ d xs)))
 rt:=D.rt
 bk:=D.bk
 ct:=D.ct
theorem DU {st:Stmt}(h:PS X st t):PS X st (fun D σ H=>t (Kg D) σ H):=by
 intro ac s σ H D I q;refine bO (h ac s σ H _ I q) fun f s' r=>?_;cases f with
 |next=>obtain⟨σ',H',I',d,o,xs,e,r⟩:=r;obtain⟨⟨nd,_⟩,_⟩:=(show ObjOk X.prog X.w H' s'.heap d (.ext (vN d o xs)) from I'.aJ d _ e);exact⟨σ',_,I'.seen e (x9 nd),r⟩
 |_=>exact r
end
end L2
namespace L4
open PySem PySem.Spec PyProof.Rows L2 L3
theorem KT.JL:KT H H:=fun _ _ e=>e
theorem KT.trans (h:KT H H')(h':KT H' H''):KT H H'':=fun a ws e=>h' a ws (h a ws e)
theorem KT.of (s:Same H H'):KT H H':=fun a _ e=>s a _ e
theorem KT.upd (h:H a=some u)(n:∀ ws,u≠.tup ws):KT H (upd H a v):=fun c ws e=>by rw[aA (fun z=>by subst z;rw[h]at e;cases e;exact n _ rfl)];exact e
section
variable {τ:Type}
structure Ln (τ:Type) where
 z:τ->Prop
 c:τ->Option (Addr×HO)
structure Core (B H:Hp) (Z:Ln τ) (col:Addr->Option τ) (cs:τ->Option (Addr×HO)):Prop where
 same:Same B H
 c:∀ t a u,cs t=some (a,u)->col a=some t/\(¬ Z.z t->H a=some u/\B a=none)/\(Z.z t->B a≠none)
 l:∀ t,Z.z t->cs t=Z.c t
variable {B H H':Hp}{Z:Ln τ}{col:Addr->Option τ}{cs cs':τ->Option (Addr×HO)}{t:τ}{a:Addr}{u u':HO}
theorem Core.at (h:Core B H Z col cs)(e:cs t=some (a,u))(z:¬ Z.z t):H a=some u:=((h.c t a u e).2.1 z).1
theorem Core.fr (h:Core B H Z col cs)(e:cs t=some (a,u))(z:¬ Z.z t):B a=none:=((h.c t a u e).2.1 z).2
theorem Core.ne (h:Core B H Z col cs)(e:cs t=some (a,u))(f:cs s=some (b,v))(n:s≠t):b≠a:=fun z=>by subst z;have h1:=(h.c _ _ _ e).1;rw[(h.c _ _ _ f).1]at h1;exact n (NM h1)
theorem Core.there (h:Core B H Z col cs)(e:cs t=some (a,u)):H a≠none:=fun z=>by
 by_cases q:Z.z t
 .exact(h.c t a u e).2.2 q (h.same.free z)
 .rw[h.at e q]at z;cases z
theorem Core.more (h:Core B H Z col cs)(s:Same H H'):Core B H' Z col cs:=⟨h.same.trans s,fun t a u e=>let ⟨x,y,z⟩:=h.c t a u e;⟨x,fun q=>⟨s _ _ (y q).1,(y q).2⟩,z⟩,h.l⟩
theorem Core.put (h:Core B H Z col cs)(e:cs t=some (a,u))(z:¬ Z.z t)(h0:cs' t=some (a,u'))(hs:∀ s,s≠t->cs' s=cs s):Core B (upd H a u') Z col cs':=by
 refine⟨fun c v q=>?_,fun s b v q=>?_,fun s q=>by rw[hs s fun y=>z (y▸q)];exact h.l s q⟩
 .rw[aA (fun y=>by subst y;rw[h.fr e z]at q;cases q)];exact h.same c v q
 .by_cases st:s=t
  .subst st;rw[h0]at q;cases q;exact⟨(h.c _ _ _ e).1,fun _=>⟨ah,h.fr e z⟩,fun y=>(z y).elim⟩
  .rw[hs s st]at q;obtain⟨x,y,w⟩:=h.c s b v q;exact⟨x,fun k=>⟨by rw[aA (h.ne e q st)];exact(y k).1,(y k).2⟩,w⟩
theorem Core.new (h:Core B H Z col cs)(n:H a=none)(z:¬ Z.z t)(h0:cs' t=some (a,u'))(hs:∀ s,s≠t->cs' s=cs s):∃ col',Core B (upd H a u') Z col' cs':=by
 classical
 refine⟨fun c=>if c=a then some t else col c,fun c v q=>by rw[aA (aB (h.same c v q) n)];exact h.same c v q,fun s b v q=>?_,fun s q=>by rw[hs s fun y=>z (y▸q)];exact h.l s q⟩;by_cases st:s=t
 .subst st;rw[h0]at q;cases q;exact⟨Mh rfl,fun _=>⟨ah,h.same.free n⟩,fun y=>(z y).elim⟩
 .rw[hs s st]at q;obtain⟨x,y,w⟩:=h.c s b v q;have nb:b≠a:=fun e=>by subst e;exact h.there q n
  exact⟨by rw[Mj nb];exact x,fun k=>⟨by rw[aA nb];exact(y k).1,(y k).2⟩,w⟩
theorem Core.lend (h:Core B H Z col cs)(e:cs t=some (a,u))(z:¬ Z.z t)(u':HO):Core (upd B a u') (upd H a u') ⟨fun s=>Z.z s\/s=t,cs⟩ col cs:=by
 refine⟨fun c v q=>?_,fun s b v q=>?_,fun _ _=>rfl⟩
 .by_cases y:c=a
  .subst y;rw[ah]at q ⊢;exact q
  .rw[aA y]at q ⊢;exact h.same c v q
 .obtain⟨x,y,w⟩:=h.c s b v q;by_cases st:s=t
  .subst st;rw[e]at q;cases q;exact⟨x,fun k=>(k (.inr rfl)).elim,fun _=>by rw[ah];simp⟩
  .have nb:=h.ne e q st;rw[aA nb,aA nb];exact⟨x,fun k=>y fun r=>k (.inl r),fun r=>w (r.resolve_right st)⟩
theorem Core.back (h:Core (upd B a u') H ⟨fun s=>Z.z s\/s=t,cs'⟩ col cs)(e':cs' t=some (a,u))(n:B a=none)(z:¬ Z.z t)(hl:∀ s,Z.z s->cs' s=Z.c s):Core B (upd H a u) Z col cs:=by
 have e:cs t=some (a,u):=(h.l t (.inr rfl)).trans e';refine⟨fun c v q=>?_,fun s b v q=>?_,fun s q=>(h.l s (.inl q)).trans (hl s q)⟩
 .have nb:c≠a:=fun y=>by subst y;rw[n]at q;cases q
  rw[aA nb];exact h.same c v (by rw[aA nb];exact q)
 .obtain⟨x,y,w⟩:=h.c s b v q;by_cases st:s=t
  .subst st;rw[e]at q;cases q;exact⟨x,fun _=>⟨ah,n⟩,fun k=>(z k).elim⟩
  .have nb:=h.ne e q st;rw[aA nb]at y w ⊢;exact⟨x,fun k=>y fun r=>r.elim k st,fun r=>w (.inl r)⟩
theorem Core.fY (h:Core (upd B a u') H Z col cs):H a=some u':=h.same _ _ ah
end
inductive Tag where
 |o|ta|en|fo|mi|du|ru
 |row (s:Int)
 |lf (s g:Int)
 |fl (s:Int)
 |rl (k:Int×Int)
structure SA where
 o:Addr
 ta:Addr
 en:Addr
 fo:Addr
 mi:Addr
 du:Addr
 ru:Addr
noncomputable def kvB (l:List Int):List (bh×V):=l.map fun i=>(.inl i,.bl true)
def cf {β:Type}(d:List (Int×β))(R:Int->Addr):List (bh×V):=d.map fun x=>(.inl x.1,.ref (R x.1))
structure Fx where
 A:SA
 C:Addr
 dx:Addr
 n:Int
 rs:Sp.RS
 RA:Int×Int->Addr
 xs:Int×Int->NX
structure Vr where
 R:Int->Addr
 L:Int->Int->Addr
 F:Int->Addr
 dv:List V
 ue:HO
def Gq (f:Fx):List (Str×V):=[("rules",.ref f.A.ru),("states",.int f.n),("table",.ref f.A.ta),("ends",.ref f.A.en),("followers",.ref f.A.fo),("mids",.ref f.A.mi),("due",.ref f.A.du)]
def lQ (m:List ((Int×Int)×Int)):List (List bh×V):=m.map fun x=>(k2 x.1,.int x.2)
def qw (rs:Sp.RS)(RA:Int×Int->Addr):List (List bh×V):=rs.map fun x=>(k2 x.1,.ref (RA x.1))
def cells (f:Fx)(S:Sp.St)(v:Vr):Tag->Option (Addr×HO)
 | .o=>some (f.A.o,.ins f.C f.dx (Gq f))
 | .ta=>some (f.A.ta,.dK (cf S.tb v.R))
 | .en=>some (f.A.en,v.ue)
 | .fo=>some (f.A.fo,.dK (cf S.fo v.F))
 | .mi=>some (f.A.mi,.dT (lQ S.mi))
 | .du=>some (f.A.du,.lst v.dv)
 | .ru=>some (f.A.ru,.dT (qw f.rs f.RA))
 | .row s=>(Sp.get S.tb s).map fun r=>(v.R s,.dK (cf r (v.L s)))
 | .lf s g=>((Sp.get S.tb s).bind fun r=>Sp.get r g).map fun l=>(v.L s g,.dK (kvB l))
 | .fl s=>(Sp.get S.fo s).map fun l=>(v.F s,.dK (kvB l))
 | .rl k=>(Sp.get f.rs k).map fun _=>(f.RA k,.ext (fZ (f.RA k) (f.xs k)))
def Kh (en:List Int)(u:HO):Prop:=u=.dK (kvB en)\/(en=[]/\u=.dT [])
structure aQ (f:Fx) (Z:Ln Tag) (B H:Hp) (S:Sp.St) (v:Vr) (col:Addr->Option Tag):Prop where
 k:Core B H Z col (cells f S v)
 d:a_ (IsArr H) S.du v.dv
 e:Kh S.en v.ue
def SAt (f:Fx)(Z:Ln Tag)(B H:Hp)(S:Sp.St):Prop:=∃ v col,aQ f Z B H S v col
section
variable {f:Fx}{Z:Ln Tag}{B H H':Hp}{S:Sp.St}{v:Vr}{col:Addr->Option Tag}
theorem aQ.more (h:aQ f Z B H S v col)(s:Same H H'):aQ f Z B H' S v col:=⟨h.k.more s,h.d.mono (IsArr.keep (.of s)),h.e⟩
section
variable {β:Type}{d:List (Int×β)}{R:Int->Addr}{s:Int}
theorem cu:∀(d:List (Int×β))(R:Int->Addr)(s:Int),bP (cf d R) (.inl s)=(Sp.get d s).map fun _=>.ref (R s)
 | [],_,_=>rfl
 |x::d,R,s=>by
  show bP ((.inl x.1,.ref (R x.1))::cf d R) (.inl s)=_;rw[Sp.get_cons];by_cases e:x.1=s
  .rw[c_ (by rw[e]),Mh e,e];rfl
  .rw[db (fun z=>e (P8 z)),Mj e,cu d R s]
theorem j_:(cf d R).length=d.length:=by unfold cf;simp
theorem iS:∀(l:List Int)(t:Int),(bP (kvB l) (.inl t)).isSome=decide (t∈l)
 | [],_=>rfl
 |x::l,t=>by
  show(bP ((.inl x,.bl true)::kvB l) (.inl t)).isSome=_;by_cases e:x=t
  .rw[c_ (by rw[e])];simp[e]
  .rw[db (fun z=>e (P8 z)),iS l t];simp[Ol e]
theorem oI (h:t∉l):b7 (kvB l) (.inl t) (.bl true)=kvB (l++[t]):=by rw[eU _ (by have:=iS l t;rw[My h]at this;simpa using this)];unfold kvB;simp
theorem Bo (h:t∈l):b7 (kvB l) (.inl t) (.bl true)=kvB l:=by unfold b7;rw[gc,iS,Mp h,Mh rfl];unfold kvB;rw[Nf];refine M0 fun x _=>?_;show(if (Sum.inl x:bh)=.inl t then ((Sum.inl x:bh),V.bl true) else (.inl x,.bl true))=_;split<;>rfl
theorem iT:(kvB l).length=l.length:=by unfold kvB;simp
def sd {κ β:Type}[DecidableEq κ](d:List (κ×β))(k:κ)(x:β):List (κ×β):=if (Sp.get d k).isSome then d else d++[(k,x)]
theorem bN {κ β:Type}[DecidableEq κ]{d:List (κ×β)}{k:κ}(h:Sp.get d k=none)(x:β)(j:κ):Sp.get (d++[(k,x)]) j=if j=k then some x else Sp.get d j:=by
 rw[Sp.get_append,Sp.get_cons,Sp.get_nil];by_cases e:j=k
 .subst e;simp[h]
 .rw[Mj (fun z=>e z.symm),Mj e];simp
theorem iU {κ β:Type}[DecidableEq κ]{d:List (κ×β)}{k:κ}(h:Sp.get d k=none)(x y:β):Sp.put (d++[(k,x)]) k y=Sp.put d k y:=by
 have hn:∀ z∈d,¬ z.1=k:=fun z hz e=>Sp.get_none h (Md.mpr ⟨z,hz,e⟩);unfold Sp.put;rw[bN h,Mh rfl,h,Mh (by rfl),Mj (by simp),M8];congr 1
 .exact(M0 fun z hz=>Mj (hn z hz)).trans (List.map_id d)
 .simp
theorem Bp {κ β:Type}[DecidableEq κ](d:List (κ×β))(k:κ)(x y:β):Sp.put (Sp.put d k x) k y=Sp.put d k y:=by
 by_cases h:(Sp.get d k).isSome
 .have e:Sp.put d k x=d.map fun z=>if z.1=k then (z.1,x) else z:=by unfold Sp.put;rw[Mh h]
  have e2:Sp.put d k y=d.map fun z=>if z.1=k then (z.1,y) else z:=by unfold Sp.put;rw[Mh h]
  rw[e2];unfold Sp.put at e ⊢;rw[Mh h,Mh (by rw[Sp.get_repl,Mh rfl];simpa using h),Nf];refine M0 fun z _=>?_;show(if (if z.1=k then (z.1,x) else z).1=k then _ else _)=_;by_cases q:z.1=k
  .simp[q]
  .simp[q]
 .have h:Sp.get d k=none:=by simpa using h
  have e:Sp.put d k x=d++[(k,x)]:=by unfold Sp.put;rw[h];rfl
  rw[e,iU h]
theorem kc (h:(Sp.get d s).isSome):cf (Sp.put d s x) R=cf d R:=by unfold Sp.put;rw[Mh h];unfold cf;rw[Nf];refine M0 fun z _=>?_;show((.inl (if z.1=s then (z.1,x) else z).1,.ref (R (if z.1=s then (z.1,x) else z).1)):bh×V)=_;split<;>rfl
noncomputable def at1 (R:Int->Addr)(s:Int)(p:Addr):Int->Addr:=fun u=>if u=s then p else R u
theorem dR:at1 R s p s=p:=Mh rfl
theorem lz (h:u≠s):at1 R s p u=R u:=Mj h
theorem oJ (h:Sp.get d s=none):cf (d++[(s,x)]) (at1 R s p)=cf d R++[(.inl s,.ref p)]:=by
 have hn:∀ z∈d,¬ z.1=s:=fun z hz e=>Sp.get_none h (Md.mpr ⟨z,hz,e⟩);unfold cf;rw[M8];congr 1
 .exact M0 fun z hz=>by rw[lz (hn z hz)]
 .simp[dR]
theorem DV (h:Sp.get d s=none):cf d (at1 R s p)=cf d R:=by unfold cf;exact M0 fun z hz=>by rw[lz fun e=>Sp.get_none h (Md.mpr ⟨z,hz,e⟩)]
end
variable {s g t:Int}{r:List (Int×List Int)}{l:List Int}
theorem aQ.row (h:aQ f Z B H S v col)(z1:¬ Z.z .ta)(z2:¬ Z.z (.row s))(e:Sp.get S.tb s=none)(hp:H p=none) :
 ∃ col',aQ f Z B (upd (upd H p (.dK [])) f.A.ta (.dK (cf S.tb v.R++[(.inl s,.ref p)]))) { S with tb:=S.tb++[(s,[])] } { v with R:=at1 v.R s p } col':=by
 have h1:cells f S { v with R:=at1 v.R s p } .ta=some (f.A.ta,.dK (cf S.tb v.R)):=by show some (_,HO.dK (cf S.tb (at1 v.R s p)))=_;rw[DV e]
 obtain⟨col',c1⟩:=h.k.new (t:=.row s) (u':=.dK []) (a:=p) hp z2 (cs':=fun q=>match q with
  | .row u=>if u=s then some (p,.dK []) else cells f S v (.row u)
  |q=>cells f S v q) (Mh rfl) (fun q hq=>by
   cases q with
   |row u=>exact Mj fun z=>hq (by rw[z])
   |_=>rfl)
 have c2:=c1.put (t:=.ta) (a:=f.A.ta) (u:=.dK (cf S.tb v.R)) (u':=.dK (cf S.tb v.R++[(.inl s,.ref p)])) (cs':=cells f { S with tb:=S.tb++[(s,[])] } { v with R:=at1 v.R s p }) rfl z1 (by show some (_,HO.dK (cf (S.tb++[(s,[])]) (at1 v.R s p)))=_;rw[oJ e]) (fun q hq=>by
  cases q with
  |ta=>exact(hq rfl).elim
  |row u=>
   show(Sp.get (S.tb++[(s,[])]) u).map _=_;rw[bN e];by_cases z:u=s
   .subst z;rw[Mh rfl];show some (at1 v.R u p u,HO.dK (cf [] (v.L u)))=if u=u then some (p,.dK []) else _;rw[Mh rfl,dR];rfl
   .rw[Mj z];show(Sp.get S.tb u).map (fun r=>(at1 v.R s p u,HO.dK (cf r (v.L u))))=if u=s then some (p,.dK []) else _;rw[Mj z,lz z];rfl
  |lf u g=>
   show((Sp.get (S.tb++[(s,[])]) u).bind _).map _=((Sp.get S.tb u).bind _).map _;rw[bN e];by_cases z:u=s
   .subst z;rw[Mh rfl,e];rfl
   .rw[Mj z]
  |_=>rfl)
 have hta:=h.k.at (t:=.ta) rfl z1;have k2:KT H (upd (upd H p (.dK [])) f.A.ta (.dK (cf S.tb v.R++[(.inl s,.ref p)]))):=(KT.of (au hp)).trans (.upd (au hp _ _ hta) fun _ z=>nomatch z);exact⟨col',c2,h.d.mono (IsArr.keep k2),h.e⟩
theorem aQ.leaf (h:aQ f Z B H S v col)(z1:¬ Z.z (.row s))(z2:¬ Z.z (.lf s g))(e:Sp.get S.tb s=some r)(eg:Sp.get r g=none)(hp:H p=none) :
 ∃ col',aQ f Z B (upd (upd H p (.dK [])) (v.R s) (.dK (cf r (v.L s)++[(.inl g,.ref p)]))) { S with tb:=Sp.put S.tb s (r++[(g,[])]) } { v with L:=fun u=>if u=s then at1 (v.L s) g p else v.L u } col':=by
 obtain⟨col',c1⟩:=h.k.new (t:=.lf s g) (u':=.dK []) (a:=p) hp z2 (cs':=fun q=>match q with
  | .lf u w=>if u=s/\w=g then some (p,.dK []) else cells f S v (.lf u w)
  |q=>cells f S v q) (Mh ⟨rfl,rfl⟩) (fun q hq=>by
   cases q with
   |lf u w=>exact Mj fun z=>hq (by rw[z.1,z.2])
   |_=>rfl)
 have hrow:cells f S v (.row s)=some (v.R s,.dK (cf r (v.L s))):=by show(Sp.get S.tb s).map _=_;rw[e];rfl
 have c2:=c1.put (t:=.row s) (a:=v.R s) (u:=.dK (cf r (v.L s))) (u':=.dK (cf r (v.L s)++[(.inl g,.ref p)])) (cs':=cells f { S with tb:=Sp.put S.tb s (r++[(g,[])]) } { v with L:=fun u=>if u=s then at1 (v.L s) g p else v.L u }) hrow z1 (by
  show(Sp.get (Sp.put S.tb s (r++[(g,[])])) s).map _=_;rw[Sp.get_put,Mh rfl];show some (v.R s,HO.dK (cf (r++[(g,[])]) (if s=s then at1 (v.L s) g p else v.L s)))=_;rw[Mh rfl,oJ eg]) (fun q hq=>by
  cases q with
  |ta=>show some (_,HO.dK (cf (Sp.put S.tb s _) v.R))=some (_,HO.dK (cf S.tb v.R));rw[kc (by rw[e];rfl)]
  |row u=>have z:u≠s:=fun z=>hq (by rw[z]);show(Sp.get (Sp.put S.tb s (r++[(g,[])])) u).map (fun q=>(v.R u,HO.dK (cf q (if u=s then at1 (v.L s) g p else v.L u))))=(Sp.get S.tb u).map fun q=>(v.R u,HO.dK (cf q (v.L u)));rw[Sp.get_put,Mj z,Mj z]
  |lf u w=>
   show((Sp.get (Sp.put S.tb s (r++[(g,[])])) u).bind fun q=>Sp.get q w).map (fun l=>((if u=s then at1 (v.L s) g p else v.L u) w,HO.dK (kvB l)))=if u=s/\w=g then some (p,.dK []) else ((Sp.get S.tb u).bind fun q=>Sp.get q w).map fun l=>(v.L u w,HO.dK (kvB l));rw[Sp.get_put];by_cases z:u=s
   .subst z;rw[Mh rfl,Mh rfl,e];show(Sp.get (r++[(g,[])]) w).map _=if u=u/\w=g then _ else (Sp.get r w).map _;rw[bN eg];by_cases y:w=g
    .subst y;rw[Mh rfl,Mh ⟨rfl,rfl⟩];show some (at1 (v.L u) w p w,_)=_;rw[dR];rfl
    .rw[Mj y,Mj fun q=>y q.2,lz y]
   .rw[Mj z,Mj z,Mj fun q=>z q.1]
  |_=>rfl)
 have hr:=h.k.at hrow z1;have k2:KT H (upd (upd H p (.dK [])) (v.R s) (.dK (cf r (v.L s)++[(.inl g,.ref p)]))):=(KT.of (au hp)).trans (.upd (au hp _ _ hr) fun _ z=>nomatch z);exact⟨col',c2,h.d.mono (IsArr.keep k2),h.e⟩
theorem aQ.grow (h:aQ f Z B H S v col)(z:¬ Z.z (.lf s g))(e:Sp.get S.tb s=some r)(eg:Sp.get r g=some l):aQ f Z B (upd H (v.L s g) (.dK (kvB (l++[t])))) { S with tb:=Sp.put S.tb s (Sp.put r g (l++[t])) } v col:=by
 have hl:cells f S v (.lf s g)=some (v.L s g,.dK (kvB l)):=by show((Sp.get S.tb s).bind _).map _=_;rw[e];show(Sp.get r g).map _=_;rw[eg];rfl
 refine⟨h.k.put hl z (by show((Sp.get (Sp.put S.tb s _) s).bind fun q=>Sp.get q g).map _=_;rw[Sp.get_put,Mh rfl];show(Sp.get (Sp.put r g _) g).map _=_;rw[Sp.get_put,Mh rfl];rfl) (fun q hq=>?_),h.d.mono (IsArr.keep (.upd (h.k.at hl z) fun _ z=>nomatch z)),h.e⟩;cases q with
 |ta=>show some (_,HO.dK (cf (Sp.put S.tb s _) v.R))=some (_,HO.dK (cf S.tb v.R));rw[kc (by rw[e];rfl)]
 |row u=>
  show(Sp.get (Sp.put S.tb s _) u).map (fun q=>(v.R u,HO.dK (cf q (v.L u))))=(Sp.get S.tb u).map fun q=>(v.R u,HO.dK (cf q (v.L u)));rw[Sp.get_put];by_cases z:u=s
  .subst z;rw[Mh rfl,e];show some (_,HO.dK (cf (Sp.put r g _) (v.L u)))=some (_,HO.dK (cf r (v.L u)));rw[kc (by rw[eg];rfl)]
  .rw[Mj z]
 |lf u w=>
  show((Sp.get (Sp.put S.tb s _) u).bind fun q=>Sp.get q w).map (fun l=>(v.L u w,HO.dK (kvB l)))=((Sp.get S.tb u).bind fun q=>Sp.get q w).map fun l=>(v.L u w,HO.dK (kvB l));rw[Sp.get_put];by_cases z:u=s
  .subst z;rw[Mh rfl,e];show(Sp.get (Sp.put r g _) w).map _=(Sp.get r w).map _;rw[Sp.get_put,Mj fun y=>hq (by rw[y])]
  .rw[Mj z]
 |_=>rfl
theorem aQ.Ig (h:aQ f Z B H S v col)(z:¬ Z.z .du)(hp:H p=some (.tup (ji a))):aQ f Z B (upd H f.A.du (.lst (v.dv++[.ref p]))) { S with du:=S.du++[a] } { v with dv:=v.dv++[.ref p] } col:=by have hd:cells f S v .du=some (f.A.du,.lst v.dv):=rfl;have k1:KT H (upd H f.A.du (.lst (v.dv++[.ref p]))):=.upd (h.k.at hd z) fun _ z=>nomatch z;exact⟨h.k.put hd z rfl (fun q hq=>by cases q<;>first|rfl|exact(hq rfl).elim),(h.d.mono (IsArr.keep k1)).snoc ⟨p,rfl,k1 _ _ hp⟩,h.e⟩
end
structure gz (K:QQ) (C:Addr):Prop where
 cl:rb K C
 n1:NoAttr K C "rules"
 n2:NoAttr K C "states"
 n3:NoAttr K C "table"
 n4:NoAttr K C "ends"
 n5:NoAttr K C "followers"
 n6:NoAttr K C "mids"
 n7:NoAttr K C "due"
structure hV (Z:Ln Tag) (s:Int):Prop where
 o:¬ Z.z .o
 ta:¬ Z.z .ta
 du:¬ Z.z .du
 row:¬ Z.z (.row s)
 lf:∀ g,¬ Z.z (.lf s g)
section
variable {K:QQ}{C:Addr}{f:Fx}{Z:Ln Tag}{B H:Hp}{S:Sp.St}{v:Vr}{col:Addr->Option Tag}{s g t:Int}{r:List (Int×List Int)}{l:List Int}{D:Ends}{σ:L2.St}{Q:VK}{E:XK}
theorem aQ.ins (h:aQ f Z B H S v col)(z:¬ Z.z .o):∃ dx,H f.A.o=some (.ins f.C dx (Gq f)):=⟨f.dx,h.k.at (t:=.o) rfl z⟩
theorem SAt.ins (h:SAt f Z B H S)(z:¬ Z.z .o):∃ dx,H f.A.o=some (.ins f.C dx (Gq f)):=let ⟨_,_,h⟩:=h;h.ins z
theorem aQ.fld (h:aQ f Z B H S v col)(z:¬ Z.z .o)(cl:rb K f.C)(n:NoAttr K f.C m)(hl:(Gq f).lookup m=some x)(h0:σ[i]?=some (some (.ref f.A.o))):Reads (eS K (aj i) m) σ H x:=.fld (.va h0) (h.ins z) cl n hl
inductive d6 (C:Addr):Sp
 |mk {f:Fx} {Z:Ln Tag} {B H:Hp} {S:Sp.St} {s g t:Int} {Q:VK} {E:XK} (hC:f.C=C) (P:SAt f Z B H S) (z:hV Z s) (fit:Sp.lR (Sp.lead S s g t)) (k:∀ H',KT H H'->SAt f Z B H' (Sp.lead S s g t)->Q .bS H'):d6 C [.ref f.A.o,.int s,.int g,.int t] H Q E
def IX (K:QQ):TS:=aN (kq (aj 4) (aj 3) (tC (.bl true))) (cZ (wu K "list" tR (eS K (aj 0) "due") (ag (cD (ag (aj 1) (ag (aj 2) (ag (aj 3) aF)))) aF)))
def DW (K:QQ):TS:=cm (bK (bg (je true) (aj 3) (aj 4))) (IX K) bH
def Cs (K:QQ):TS:=aN (bq (wu K "dict" mR (wu K "dict" mR (eS K (aj 0) "table") (ag (aj 1) (ag dM aF))) (ag (aj 2) (ag dM aF))) (aE 4)) (DW K)
theorem sK (h:d6 C vs H Q E):vs.length=4:=by cases h;rfl
theorem o_ (h:n<15000000):n<sizeLine:=by rw[MV];lia
theorem yu (ha:H a=some (.dK kvs))(hz:kvs.length<15000000)(hi:σ[i]?=some (some (.int s)))(h1:∀ x p,bP kvs (.inl s)=some x->H p=none->Q x (upd H p (.dK [])))
 (h2:∀ p,bP kvs (.inl s)=none->H p=none->Q (.ref p) (upd (upd H p (.dK [])) a (.dK (kvs++[(.inl s,.ref p)])))):FO K "dict" (.ref a) H/\ag (aj i) (ag dM aF) σ H fun xs H2=>mR (.ref a) xs H2 Q:=by
 refine⟨.inr (.inr (.inl ⟨rfl,.inl ⟨_,ha⟩⟩)),_,hi,fun p hp=>⟨a,.inl s,.ref p,kvs,rfl,rfl,.inl (by rw[aA (aB ha hp)];exact ha),o_ hz,?_⟩⟩;cases e:bP kvs (.inl s) with
 |some x=>exact .inl ⟨x,rfl,h1 x p e hp⟩
 |none=>exact .inr ⟨rfl,by rw[eU _ e];exact h2 p e hp⟩
theorem DGetX.k {kvs:List (bh×V)}{k:bh}(e:H a=some (.dK kvs)):DGetX H a (kV k) (bP kvs k):=.inl (.k e)
noncomputable def KY (f:Fx)(s g t:Int)(a:Addr):L2.St:=[some (.ref f.A.o),some (.int s),some (.int g),some (.int t),some (.ref a)]
theorem Ki (T:gz K f.C)(P:aQ f Z B H S v col)(z:hV Z s)(e:Sp.get S.tb s=some r)(eg:Sp.get r g=some l)(fit:Sp.lR (Sp.lead S s g t))(k:∀ σ' H',KT H H'->SAt f Z B H' (Sp.lead S s g t)->D.nx σ' H'):DW K D (KY f s g t (v.L s g)) H:=by
 have hc:cells f S v (.lf s g)=some (v.L s g,.dK (kvB l)):=by show((Sp.get S.tb s).bind _).map _=_;rw[e];show(Sp.get r g).map _=_;rw[eg];rfl
 have hl:=P.k.at hc (z.lf g);have el:Sp.leaf S.tb s g=l:=by unfold Sp.leaf Sp.row;rw[e];show(Sp.get r g).getD []=l;rw[eg];rfl
 have er:Sp.row S.tb s=r:=by unfold Sp.row;rw[e];rfl
 have fS:=(Sp.lead_grow S s g t).fit fit;refine e8 (c:=!decide (t∈l)) (.op (.va rfl) (.va rfl) fun Q q=>⟨v.L s g,_,rfl,DGetX.k (k:=.inl t) hl,by rw[Mh rfl,iS];exact q⟩) (fun h=>?_) fun h=>?_
 .have hn:t∉l:=by simpa using h
  have ed:Sp.lead S s g t={ S with tb:=Sp.put S.tb s (Sp.put r g (l++[t])),du:=S.du++[(s,g,t)] }:=by unfold Sp.lead;rw[el,er,Mj hn]
  rw[ed]at k;refine⟨_,rfl,_,rfl,v.L s g,_,rfl,DPut.k (k:=.inl t) hl (o_ (by rw[iT,<- el];exact fS.l s g)),?_⟩;rw[oI hn];have P1:=P.grow (t:=t) (z.lf g) e eg;have k1:KT H (upd H (v.L s g) (.dK (kvB (l++[t])))):=.upd hl fun _ z=>nomatch z;generalize upd H (v.L s g) (.dK (kvB (l++[t])))=H1 at P1 k1;have hd:=P1.k.at (t:=.du) rfl z.du;unfold cZ wu;dsimp only;refine P1.fld z.o T.cl T.n7 (x:=.ref f.A.du) rfl rfl _ ⟨.inl ⟨rfl,_,SqL.of hd⟩,?_⟩;refine mj (.c (.va rfl) (.c (.va rfl) (.c (.va rfl) .ni))) rfl fun p hp=>?_;have s2:Same H1 (upd H1 p (.tup (ji (s,g,t)))):=au hp;refine⟨f.A.du,v.dv,.ref p,rfl,rfl,s2 _ _ hd,o_ (by rw[<- P.d.len];exact fS.d),?_⟩;exact k _ _ (k1.trans ((KT.of s2).trans (.upd (s2 _ _ hd) fun _ z=>nomatch z))) ⟨_,_,(P1.more s2).Ig z.du ah⟩
 .have hn:t∈l:=by simpa using h
  have ed:Sp.lead S s g t=S:=by unfold Sp.lead;rw[el,Mh hn]
  rw[ed]at k;exact k _ _ KT.JL ⟨_,_,P⟩
theorem Kj (T:gz K f.C)(P:aQ f Z B H S v col)(z:hV Z s)(e:Sp.get S.tb s=some r)(fit:Sp.lR (Sp.lead S s g t))(k:∀ σ' H',KT H H'->SAt f Z B H' (Sp.lead S s g t)->D.nx σ' H')(hs:σ=[some (.ref f.A.o),some (.int s),some (.int g),some (.int t),none]) :
 FO K "dict" (.ref (v.R s)) H/\ag (aj 2) (ag dM aF) σ H fun xs H2=>mR (.ref (v.R s)) xs H2 fun x H'=>DW K D (σ.set 4 (some x)) H':=by
 subst hs;have hc:cells f S v (.row s)=some (v.R s,.dK (cf r (v.L s))):=by show(Sp.get S.tb s).map _=_;rw[e];rfl
 have er:Sp.row S.tb s=r:=by unfold Sp.row;rw[e];rfl
 have fS:=(Sp.lead_grow S s g t).fit fit;refine yu (P.k.at hc z.row) (by rw[j_,<- er];exact fS.r s) rfl (fun x p hv hp=>?_) fun p hv hp=>?_
 .rw[cu]at hv;obtain⟨l,el,ex⟩:=M5.mp hv;subst ex;have s1:=au (o:=.dK []) hp;exact Ki T (P.more s1) z e el fit fun σ' H' k1=>k σ' H' ((KT.of s1).trans k1)
 .rw[cu]at hv;have el:Sp.get r g=none:=PX.mp hv;obtain⟨col',P1⟩:=P.leaf z.row (z.lf g) e el hp;have kt1:KT H (upd (upd H p (.dK [])) (v.R s) (.dK (cf r (v.L s)++[(.inl g,.ref p)]))):=(KT.of (au hp)).trans (.upd (au hp _ _ (P.k.at hc z.row)) fun _ z=>nomatch z);have e1:Sp.lead { S with tb:=Sp.put S.tb s (r++[(g,[])]) } s g t=Sp.lead S s g t:=by
   have l0:Sp.leaf S.tb s g=[]:=by unfold Sp.leaf;rw[er,el];rfl
   have r1:Sp.row (Sp.put S.tb s (r++[(g,[])])) s=r++[(g,[])]:=by rw[Sp.row_put,Mh rfl]
   have l1:Sp.leaf (Sp.put S.tb s (r++[(g,[])])) s g=[]:=by unfold Sp.leaf;rw[r1,bN el,Mh rfl];rfl
   unfold Sp.lead;rw[l0];dsimp only;rw[l1,Mj (by simp),Mj (by simp),r1,Bp,iU el,er]
  have:=Ki (t:=t) (D:=D) T P1 z (Sp.get_put .. |>.trans (Mh rfl)) (g:=g) (l:=[]) ((bN el _ _).trans (Mh rfl)) (by rw[e1];exact fit) fun σ' H' k1=>by rw[e1];exact k σ' H' (kt1.trans k1)
  dsimp only at this;rw[Mh rfl,dR]at this;exact this
theorem vP (T:gz K C)(h:d6 C vs H Q E):Cs K (eQ Q) (start (nS 5) vs) H:=by
 obtain⟨rfl,⟨v,col,P⟩,z,fit,k⟩:=h;rename_i f Z B S s g t;have fS:=(Sp.lead_grow S s g t).fit fit;have hta:=P.k.at (t:=.ta) rfl z.ta
 delta Cs aN bq wu
 refine P.fld z.o T.cl T.n3 (x:=.ref f.A.ta) rfl rfl _ (yu hta (by rw[j_];exact fS.t) rfl (fun x p hv hp=>?_) fun p hv hp=>?_)
 .rw[cu]at hv;obtain⟨r,er,ex⟩:=M5.mp hv;subst ex;have s1:=au (o:=.dK []) hp;exact Kj T (P.more s1) z er fit (fun _ H' k1=>k H' ((KT.of s1).trans k1)) rfl
 .rw[cu]at hv;have er:Sp.get S.tb s=none:=PX.mp hv;obtain⟨col',P1⟩:=P.row z.ta z.row er hp;have kt1:KT H (upd (upd H p (.dK [])) f.A.ta (.dK (cf S.tb v.R++[(.inl s,.ref p)]))):=(KT.of (au hp)).trans (.upd (au hp _ _ hta) fun _ z=>nomatch z);have e1:Sp.lead { S with tb:=S.tb++[(s,[])] } s g t=Sp.lead S s g t:=by
   have r0:Sp.row S.tb s=[]:=by unfold Sp.row;rw[er];rfl
   have r1:Sp.row (S.tb++[(s,[])]) s=[]:=by unfold Sp.row;rw[bN er,Mh rfl];rfl
   unfold Sp.lead Sp.leaf;dsimp only;rw[r0,r1,iU er,Mj (by simp[Sp.get]),Mj (by simp[Sp.get])]
  have:=Kj (t:=t) (g:=g) (D:=eQ Q) T P1 z ((bN er _ _).trans (Mh rfl)) (by rw[e1];exact fit) (fun _ H' k1=>by rw[e1];exact k H' (kt1.trans k1)) rfl;dsimp only at this;rw[dR]at this;exact this
theorem gI (P:SAt f Z B H S) (z:hV Z s) (fit:Sp.lR (Sp.lead S s g t)) (h:Reads ta σ H (.ref f.A.o)) (hr:ReadsA tr σ H [.int s,.int g,.int t]) (k:∀ H',KT H H'->SAt f Z B H' (Sp.lead S s g t)->D.nx σ H'):cZ (dL f.C "lead" (d6 f.C) [] E0 ta tr) D σ H:=by have ins:=P.ins z.o;exact vI h ins rfl hr (.mk rfl P z fit k)
end
theorem g_ {J:L2.It}{n:Nat}{g:TG}{tb:TS}{D:Ends}{σ:L2.St}{H:Hp}(P:Nat->L2.St->Hp->Prop)(p0:P 0 σ H)(hgo:∀ i σ H,P i σ H->i<n->J.go i H)(hst:∀ σ H,P n σ H->J.stop n H)
 (hb:∀ i σ H x H' (D':Ends),i<n->P i σ H->J.tD i H x H'->(∀ σ' H',P (i+1) σ' H'->D'.nx σ' H')->g x σ H' fun σ2 H2=>tb D' σ2 H2) (he:∀ σ H,P n σ H->D.nx σ H):∃ W:Nat->Nat->L2.St->Hp->Prop,(∃ m,W 0 m σ H)/\∀ i m σ H,W i m σ H->
 (J.stop i H/\D.nx σ H)\/(J.go i H/\∃ N:L2.St->Hp->Prop,(∀ σ' H',N σ' H'->∃ m',m'<m/\W (i+1) m' σ' H')/\∀ x H',J.tD i H x H'->g x σ H' fun σ2 H2=>tb { D with nx:=N,ct:=N,bk:=D.nx } σ2 H2):=by
 refine⟨fun i m σ H=>m=n-i/\i<=n/\P i σ H,⟨n,by simp,ML _,p0⟩,?_⟩;rintro i m σ H ⟨rfl,hi,p⟩;by_cases h:i<n
 .exact .inr ⟨hgo i σ H p h,P (i+1),fun σ' H' q=>⟨n-(i+1),by lia,rfl,h,q⟩,fun x H' y=>hb i σ H x H' _ h p y fun _ _=>id⟩
 .have e:i=n:=by lia
  subst e;exact .inl ⟨hst σ H p,he σ H p⟩
section
variable {f:Fx}{Z:Ln Tag}{B H:Hp}{S:Sp.St}{v:Vr}{col:Addr->Option Tag}{s g t:Int}{l:List Int}{a:Addr}{u u':HO}{q:Tag}
theorem aQ.lend (h:aQ f Z B H S v col)(e:cells f S v q=some (a,u))(z:¬ Z.z q)(hu:∀ ws,u≠.tup ws)(u':HO):aQ f ⟨fun s=>Z.z s\/s=q,cells f S v⟩ (upd B a u') (upd H a u') S v col:=⟨h.k.lend e z u',h.d.mono (IsArr.keep (.upd (h.k.at e z) hu)),h.e⟩
theorem SAt.back (h:SAt f ⟨fun s=>Z.z s\/s=q,cs⟩ (upd B a u') H S)(e:cs q=some (a,u))(n:B a=none)(z:¬ Z.z q)(hl:∀ s,Z.z s->cs s=Z.c s)(hu:∀ ws,u'≠.tup ws):SAt f Z B (upd H a u) S:=
 let ⟨v,col,h⟩:=h
 ⟨v,col,h.k.back e n z hl,h.d.mono (IsArr.keep (.upd h.k.fY hu)),h.e⟩
theorem SAt.fY (h:SAt f Z (upd B a u') H S):H a=some u':=let ⟨_,_,h⟩:=h;h.k.fY
theorem ff {α:Type}{step:Sp.St->α->Sp.St}(hg:∀ S x,Sp.fj S (step S x)){its:List α}{S0:Sp.St}(h:Sp.lR (its.foldl step S0)){i:Nat}{x:α}(hx:its[i]?=some x):Sp.lR (step ((its.take i).foldl step S0) x):=by
 have e:(its.take (i+1)).foldl step S0=step ((its.take i).foldl step S0) x:=by rw[NF,hx,P9];rfl
 rw[<- e];refine Sp.fj.fit (Sp.foldl_grow step hg (its.drop (i+1)) _) ?_;rw[<- P9,MP];exact h
theorem dS {α:Type}{step:Sp.St->α->Sp.St}{its:List α}{S0:Sp.St}{i:Nat}{x:α}(hx:its[i]?=some x):(its.take (i+1)).foldl step S0=step ((its.take i).foldl step S0) x:=by rw[NF,hx,P9];rfl
theorem yv (h:r≠s):Sp.get (Sp.lead S r g t).tb s=Sp.get S.tb s:=by
 unfold Sp.lead;split
 .rfl
 .show Sp.get (Sp.put S.tb r _) s=_;rw[Sp.get_put,Mj (Ol h)]
theorem nC (h:r≠s):∀(l:List Int)(S:Sp.St),Sp.get (l.foldl (fun S t=>Sp.lead S r g t) S).tb s=Sp.get S.tb s
 | [],_=>rfl
 |x::l,S=>(nC h l _).trans (yv h)
theorem qx (h:r≠s):∀(l:List (Int×List Int))(S:Sp.St),Sp.get (l.foldl (Sp.aG r) S).tb s=Sp.get S.tb s
 | [],_=>rfl
 |x::l,S=>(qx h l _).trans (nC h x.2 S)
theorem aQ.JR (h:aQ f Z B H S v col)(z1:¬ Z.z .fo)(z2:¬ Z.z (.fl s))(e:Sp.get S.fo s=none)(hp:H p=none) :
 ∃ col',aQ f Z B (upd (upd H p (.dK [])) f.A.fo (.dK (cf S.fo v.F++[(.inl s,.ref p)]))) { S with fo:=S.fo++[(s,[])] } { v with F:=at1 v.F s p } col':=by
 obtain⟨col',c1⟩:=h.k.new (t:=.fl s) (u':=.dK []) (a:=p) hp z2 (cs':=fun q=>match q with
  | .fl u=>if u=s then some (p,.dK []) else cells f S v (.fl u)
  |q=>cells f S v q) (Mh rfl) (fun q hq=>by
   cases q with
   |fl u=>exact Mj fun z=>hq (by rw[z])
   |_=>rfl)
 have c2:=c1.put (t:=.fo) (a:=f.A.fo) (u:=.dK (cf S.fo v.F)) (u':=.dK (cf S.fo v.F++[(.inl s,.ref p)])) (cs':=cells f { S with fo:=S.fo++[(s,[])] } { v with F:=at1 v.F s p }) rfl z1 (by show some (_,HO.dK (cf (S.fo++[(s,[])]) (at1 v.F s p)))=_;rw[oJ e]) (fun q hq=>by
  cases q with
  |fo=>exact(hq rfl).elim
  |fl u=>
   show(Sp.get (S.fo++[(s,[])]) u).map _=if u=s then some (p,.dK []) else (Sp.get S.fo u).map fun l=>(v.F u,HO.dK (kvB l));rw[bN e];by_cases z:u=s
   .subst z;rw[Mh rfl,Mh rfl];show some (at1 v.F u p u,HO.dK (kvB []))=_;rw[dR];rfl
   .rw[Mj z,Mj z];show(Sp.get S.fo u).map (fun l=>(at1 v.F s p u,HO.dK (kvB l)))=_;rw[lz z]
  |_=>rfl)
 have hta:=h.k.at (t:=.fo) rfl z1;have k2:KT H (upd (upd H p (.dK [])) f.A.fo (.dK (cf S.fo v.F++[(.inl s,.ref p)]))):=(KT.of (au hp)).trans (.upd (au hp _ _ hta) fun _ z=>nomatch z);exact⟨col',c2,h.d.mono (IsArr.keep k2),h.e⟩
theorem aQ.JT (h:aQ f Z B H S v col)(z:¬ Z.z (.fl s))(e:Sp.get S.fo s=some l):aQ f Z B (upd H (v.F s) (.dK (kvB (l++[r])))) { S with fo:=Sp.put S.fo s (l++[r]) } v col:=by
 have hl:cells f S v (.fl s)=some (v.F s,.dK (kvB l)):=by show(Sp.get S.fo s).map _=_;rw[e];rfl
 refine⟨h.k.put hl z (by show(Sp.get (Sp.put S.fo s _) s).map _=_;rw[Sp.get_put,Mh rfl];rfl) (fun q hq=>?_),h.d.mono (IsArr.keep (.upd (h.k.at hl z) fun _ z=>nomatch z)),h.e⟩;cases q with
 |fo=>show some (_,HO.dK (cf (Sp.put S.fo s _) v.F))=some (_,HO.dK (cf S.fo v.F));rw[kc (by rw[e];rfl)]
 |fl u=>show(Sp.get (Sp.put S.fo s _) u).map _=(Sp.get S.fo u).map _;rw[Sp.get_put,Mj fun z=>hq (by rw[z])]
 |_=>rfl
theorem aQ.JM (h:aQ f Z B H S v col)(z:¬ Z.z .en)(en:List Int):aQ f Z B (upd H f.A.en (.dK (kvB en))) { S with en:=en } { v with ue:=.dK (kvB en) } col:=by
 have hd:cells f S v .en=some (f.A.en,v.ue):=rfl;have k1:KT H (upd H f.A.en (.dK (kvB en))):=.upd (h.k.at hd z) fun ws y=>by rcases h.e with q|⟨_,q⟩<;>(rw[q]at y;cases y)
 exact⟨h.k.put hd z rfl (fun q hq=>by cases q<;>first|rfl|exact(hq rfl).elim),h.d.mono (IsArr.keep k1),.inl rfl⟩
end
def OnlyR (Z:Ln Tag):Prop:=∀ t,Z.z t->∃ k,t=.rl k
theorem OnlyR.no (h:OnlyR Z)(n:∀ k,t≠.rl k):¬ Z.z t:=fun z=>let ⟨k,e⟩:=h t z;n k e
theorem OnlyR.free (h:OnlyR Z)(s:Int):hV Z s:=⟨h.no fun _ e=>(nomatch e),h.no fun _ e=>(nomatch e),h.no fun _ e=>(nomatch e),h.no fun _ e=>(nomatch e),fun _=>h.no fun _ e=>(nomatch e)⟩
theorem hV.JO (h:hV Z r)(n:r≠s):hV ⟨fun q=>Z.z q\/q=.row s,c⟩ r:=⟨fun z=>z.elim h.o fun e=>(nomatch e),fun z=>z.elim h.ta fun e=>(nomatch e),fun z=>z.elim h.du fun e=>(nomatch e),fun z=>z.elim h.row fun e=>n (by injection e),fun g z=>z.elim (h.lf g) fun e=>(nomatch e)⟩
theorem hV.LQ (h:hV Z r)(n:r≠s):hV ⟨fun q=>Z.z q\/q=.lf s g,c⟩ r:=⟨fun z=>z.elim h.o fun e=>(nomatch e),fun z=>z.elim h.ta fun e=>(nomatch e),fun z=>z.elim h.du fun e=>(nomatch e),fun z=>z.elim h.row fun e=>(nomatch e),fun g z=>z.elim (h.lf g) fun e=>n (by injection e)⟩
def IY (C:Addr):TS:=cZ (dL C "lead" (d6 C) [] E0 (aj 0) (ag (aj 1) (ag (aj 4) (ag (aj 6) aF))))
def Gr (X:Cx)(C:Addr):TS:=fun D σ H=>dJ (AA X (aj 5)) (aE 6) (IY C) (HP X D) σ H
def DY (X:Cx) (C:Addr):TS:=fun D σ H=>dJ (Dv X (g0 (eS X.K (aj 0) "table") (aj 2) dM)) (wG X.K 2 (f9 (aE 4) (f9 (aE 5) wF))) (Gr X C) (HP X D) σ H
def IZ (X:Cx) (C:Addr):TS:=aN (cm (bK (bg (je false) (aj 2) (eS X.K (aj 0) "ends"))) (kq (eS X.K (aj 0) "ends") (aj 1) (tC (.bl true))) bH) (DY X C)
def I0 (X:Cx)(C:Addr):TS:=aN (kq (aj 3) (aj 1) (tC (.bl true))) (IZ X C)
def Gs (X:Cx)(C:Addr):TS:=aN (cm (bK (bg (je false) (aj 1) (aj 3))) BX bH) (I0 X C)
def uB (X:Cx) (C:Addr):TS:=aN (bq (wu X.K "dict" mR (eS X.K (aj 0) "followers") (ag (aj 2) (ag dM aF))) (aE 3)) (Gs X C)
section
variable {X:Cx}{C:Addr}{f:Fx}{Z:Ln Tag}{B H:Hp}{S:Sp.St}{v:Vr}{col:Addr->Option Tag}{r s g t:Int}{w:List (Int×List Int)}{l:List Int}{D:Ends}{σ:L2.St}{Q:VK}{E:XK}{a d:Addr}
inductive gu (C:Addr):Sp
 |mk {f:Fx} {Z:Ln Tag} {B H:Hp} {S:Sp.St} {r s:Int} {Q:VK} {E:XK} (hC:f.C=C) (P:SAt f Z B H S) (z:OnlyR Z) (ne:r≠s) (kt:Sp.KT S) (fit:Sp.lR (Sp.aV S r s)) (k:∀ H',KT H H'->SAt f Z B H' (Sp.aV S r s)->Q .bS H'):gu C [.ref f.A.o,.int r,.int s] H Q E
theorem oK (h:gu C vs H Q E):vs.length=3:=by cases h;rfl
def Ih (f:Fx)(r s:Int)(a:Addr)(σ:L2.St):Prop:=∃ x y z,σ=[some (.ref f.A.o),some (.int r),some (.int s),some (.ref a),x,y,z]
def Kk (f:Fx)(r s:Int)(a:Addr)(g:Int)(d:Addr)(σ:L2.St):Prop:=∃ z,σ=[some (.ref f.A.o),some (.int r),some (.int s),some (.ref a),some (.int g),some (.ref d),z]
theorem yw {l:List Int}{i:Nat}(h:(kvB l)[i]?=some (k,x)):∃ t,l[i]?=some t/\k=.inl t:=by unfold kvB at h;rw[ME]at h;obtain⟨t,h1,h2⟩:=M5.mp h;cases h2;exact⟨t,h1,rfl⟩
theorem KZ (T:gz X.K f.C)(P:aQ f Z B H S v col)(hd:cells f S v (.lf s g)=some (d,.dK (kvB l)))(zf:hV Z r)(zl:¬ Z.z (.lf s g))(ne:r≠s)(fit:Sp.lR (Sp.aG r S (g,l)))(hs:Kk f r s a g d σ)
 (k:∀ σ' H',Ih f r s a σ'->KT H H'->SAt f Z B H' (Sp.aG r S (g,l))->D.nx σ' H'):Gr X f.C D σ H:=by
 have h5:σ[5]?=some (some (.ref d)):=by obtain⟨_,rfl⟩:=hs;rfl
 have hH:=P.k.at hd zl;refine⟨_,h5,d,kvB l,.dK (kvB l),rfl,.inl rfl,.inr ⟨hH,fun o ho=>?_⟩⟩;have P1:=P.lend hd zl (fun _ z=>(nomatch z)) (.bQ o (.dK (kvB l)));refine g_ (n:=(kvB l).length) (fun i σ' H'=>Kk f r s a g d σ'/\KT H H'/\SAt f ⟨fun q=>Z.z q\/q=.lf s g,cells f S v⟩ (upd B d (.bQ o (.dK (kvB l)))) H' ((l.take i).foldl (fun S t=>Sp.lead S r g t) S)) ⟨hs,.upd hH fun _ z=>(nomatch z),_,_,P1⟩ (fun i σ' H' p hi=>⟨p.2.2.fY,hi⟩) (fun σ' H' p=>⟨p.2.2.fY,Mc _⟩) (fun i σ' H' x H'' D' hi p y k'=>?_) fun σ' H' p=>?_
 .obtain⟨⟨z6,rfl⟩,kt,P2⟩:=p;obtain⟨rfl,kk,xx,e1,rfl⟩:=y;obtain⟨t,e2,rfl⟩:=yw e1;rw[dS e2]at k';exact gI P2 (zf.LQ ne) (ff (step:=fun S t=>Sp.lead S r g t) (fun S x=>Sp.lead_grow S r g x) fit e2) (.va rfl) (.c (.va rfl) (.c (.va rfl) (.c (.va rfl) .ni))) fun H3 k3 P3=>k' _ H3 ⟨⟨_,rfl⟩,kt.trans k3,P3⟩
 .obtain⟨⟨z6,rfl⟩,kt,P2⟩:=p;rw[iT,Ng]at P2;exact .inr ⟨d,o,_,P2.fY,True.intro,ho,k _ _ ⟨_,_,_,rfl⟩ (kt.trans (.upd P2.fY fun _ z=>(nomatch z))) (P2.back hd (P.k.fr hd zl) zl P.k.l fun _ z=>(nomatch z))⟩
theorem Bq {w:List (Int×List Int)}{R:Int->Addr}{i:Nat}(h:(cf w R)[i]?=some (k,x)):∃ y,w[i]?=some y/\k=.inl y.1/\x=.ref (R y.1):=by unfold cf at h;rw[ME]at h;obtain⟨t,h1,h2⟩:=M5.mp h;cases h2;exact⟨t,h1,rfl,rfl⟩
theorem Kl (T:gz X.K f.C)(P:aQ f Z B H S v col)(zo:OnlyR Z)(ne:r≠s)(kt:Sp.KT S)(fit:Sp.lR ((Sp.row S.tb s).foldl (Sp.aG r) S))(hs:Ih f r s a σ)
 (k:∀ σ' H',KT H H'->SAt f Z B H' ((Sp.row S.tb s).foldl (Sp.aG r) S)->D.nx σ' H'):DY X f.C D σ H:=by
 have zf:=zo.free;have hta:=P.k.at (t:=.ta) rfl (zf r).ta;have h0:σ[0]?=some (some (.ref f.A.o)):=by obtain⟨_,_,_,rfl⟩:=hs;rfl
 have h2:σ[2]?=some (some (.int s)):=by obtain⟨_,_,_,rfl⟩:=hs;rfl
 delta DY dJ Dv g0
 refine P.fld (zf r).o T.cl T.n3 (x:=.ref f.A.ta) rfl h0 _ ⟨f.A.ta,rfl,.inl ⟨_,.inl hta⟩,_,h2,fun p hp=>?_⟩;have s1:Same H (upd H p (.dK [])):=au hp;refine⟨_,DGet.k (k:=.inl s) (s1 _ _ hta),?_⟩;rw[cu];cases e:Sp.get S.tb s with
 |none=>
  have er:Sp.row S.tb s=[]:=by unfold Sp.row;rw[e];rfl
  rw[er]at k;refine⟨p,[],.dK [],rfl,.inl rfl,.inr ⟨ah,fun o ho=>?_⟩⟩;refine g_ (n:=0) (fun i σ' H'=>H'=upd (upd H p (.dK [])) p (.bQ o (.dK []))) rfl (fun _ _ _ _ hi=>absurd hi (OG _)) (fun σ' H' q=>⟨by rw[q,ah],Mc _⟩) (fun _ _ _ _ _ _ hi=>absurd hi (OG _)) fun σ' H' q=>?_;refine .inr ⟨p,o,.dK [],by rw[q,ah],True.intro,ho,?_⟩;have s2:Same H (upd H' p (.dK [])):=fun c u ec=>by rw[q,aA (aB ec hp),aA (aB ec hp),aA (aB ec hp)];exact ec
  exact k _ _ (.of s2) ⟨_,_,P.more s2⟩
 |some w=>
  have er:Sp.row S.tb s=w:=by unfold Sp.row;rw[e];rfl
  rw[er]at k fit;have P0:=P.more s1;have hc:cells f S v (.row s)=some (v.R s,.dK (cf w (v.L s))):=by show(Sp.get S.tb s).map _=_;rw[e];rfl
  have zr:¬ Z.z (.row s):=(zf s).row;have hH:=P0.k.at hc zr;refine⟨v.R s,cf w (v.L s),.dK (cf w (v.L s)),rfl,.inl rfl,.inr ⟨hH,fun o ho=>?_⟩⟩;have P1:=P0.lend hc zr (fun _ z=>(nomatch z)) (.bQ o (.dK (cf w (v.L s))));refine g_ (n:=(cf w (v.L s)).length) (fun i σ' H'=>Ih f r s a σ'/\KT H H'/\SAt f ⟨fun q=>Z.z q\/q=.row s,cells f S v⟩ (upd B (v.R s) (.bQ o (.dK (cf w (v.L s))))) H' ((w.take i).foldl (Sp.aG r) S)) ⟨hs,(KT.of s1).trans (.upd hH fun _ z=>(nomatch z)),_,_,P1⟩ (fun i σ' H' p hi=>⟨p.2.2.fY,hi⟩) (fun σ' H' p=>⟨p.2.2.fY,Mc _⟩) (fun i σ' H' x H'' D' hi p y k'=>?_) fun σ' H' p=>?_
  .obtain⟨hs',kt',v2,col2,P2⟩:=p;obtain⟨q,kk,xx,hq,rfl,rfl,e1⟩:=y;obtain⟨x,e2,rfl,rfl⟩:=Bq e1;rw[dS e2]at k';have s2:Same H' (upd H' q (.tup [.int x.1,.ref (v.L s x.1)])):=au hq;have lr:=P2.k.l (.row s) (.inr rfl);have g2:Sp.get ((w.take i).foldl (Sp.aG r) S).tb s=some w:=(qx ne _ _).trans e;have lx:v2.L s x.1=v.L s x.1:=by
    have l2:cells f ((w.take i).foldl (Sp.aG r) S) v2 (.row s)=some (v2.R s,.dK (cf w (v2.L s))):=by show(Sp.get _ s).map _=_;rw[g2];rfl
    rw[l2,show(Ln.c ⟨fun q=>Z.z q\/q=.row s,cells f S v⟩ (.row s))=_ from hc]at lr;have e3:cf w (v2.L s)=cf w (v.L s):=by injection lr with lr;injection lr with _ lr;injection lr
    have e4:=MT (·[i]?) e3;unfold cf at e4;simp only[ME,e2,Option.map_some,QD,Prod.mk.injEq,V.ref.injEq]at e4;exact e4.2
   have gx:Sp.get w x.1=some x.2:=Sp.get_of (er▸kt.k2 s) (MW e2);obtain⟨y4,y5,y6,rfl⟩:=hs';have hl:cells f ((w.take i).foldl (Sp.aG r) S) v2 (.lf s x.1)=some (v.L s x.1,.dK (kvB x.2)):=by show((Sp.get _ s).bind _).map _=_;rw[g2];show(Sp.get w x.1).map _=_;rw[gx,<- lx];rfl
   exact KQ ah (KZ T (P2.more s2) hl ((zf r).JO ne) (fun z=>z.elim ((zf s).lf _) fun e=>(nomatch e)) ne (ff (step:=Sp.aG r) (Sp.copy_grow r) fit e2) ⟨_,rfl⟩ fun σ3 H3 h3 k3 P3=>k' σ3 H3 ⟨h3,kt'.trans ((KT.of s2).trans k3),P3⟩)
  .obtain⟨hs',kt',P2⟩:=p;rw[j_,Ng]at P2;exact .inr ⟨v.R s,o,_,P2.fY,True.intro,ho,k _ _ (kt'.trans (.upd P2.fY fun _ z=>(nomatch z))) (P2.back hc (P0.k.fr hc zr) zr P0.k.l fun _ z=>(nomatch z))⟩
theorem Km (T:gz X.K f.C)(P:aQ f Z B H S v col)(zo:OnlyR Z)(ne:r≠s)(kt:Sp.KT S)(e:Sp.get S.fo s=some l)(fit:Sp.lR (Sp.aV S r s))(hs:Ih f r s (v.F s) σ)
 (k:∀ σ' H',KT H H'->SAt f Z B H' (Sp.aV S r s)->D.nx σ' H') (k0:r∈l->D.rt .bS H):Gs X f.C D σ H:=by
 have zf:=zo.free;have zl:¬ Z.z (.fl s):=zo.no fun _ e=>(nomatch e);have ze:¬ Z.z .en:=zo.no fun _ e=>(nomatch e);have hc:cells f S v (.fl s)=some (v.F s,.dK (kvB l)):=by show(Sp.get S.fo s).map _=_;rw[e];rfl
 have hl:=P.k.at hc zl;have el:Sp.fol S s=l:=by unfold Sp.fol;rw[e];rfl
 have fS:=(Sp.follow_grow S r s).fit fit;have h0:σ[0]?=some (some (.ref f.A.o)):=by obtain⟨_,_,_,rfl⟩:=hs;rfl
 have h1:σ[1]?=some (some (.int r)):=by obtain⟨_,_,_,rfl⟩:=hs;rfl
 have h2:σ[2]?=some (some (.int s)):=by obtain⟨_,_,_,rfl⟩:=hs;rfl
 have h3:σ[3]?=some (some (.ref (v.F s))):=by obtain⟨_,_,_,rfl⟩:=hs;rfl
 refine e8 (c:=decide (r∈l)) (.op (.va h1) (.va h3) fun Q q=>⟨v.F s,_,rfl,DGetX.k (k:=.inl r) hl,by rw[Mj (by decide),iS];exact q⟩) (fun h=>k0 (ND h)) fun h=>?_;have hn:r∉l:=fun z=>h (Mp z);have ef:Sp.aV S r s=(Sp.row S.tb s).foldl (Sp.aG r) (Sp.begF0 S r s):=by unfold Sp.aV;rw[el,Mj hn];unfold Sp.begF0;rw[el]
 rw[ef]at k fit;have fb:=Sp.fj.fit (Sp.foldl_grow _ (Sp.copy_grow r) _ _) fit;refine⟨_,h3,_,h1,v.F s,_,rfl,DPut.k (k:=.inl r) hl (o_ (by rw[iT,<- el];exact fS.g s)),?_⟩;rw[oI hn];have P1:=P.JT (r:=r) zl e;have k1:KT H (upd H (v.F s) (.dK (kvB (l++[r])))):=.upd hl fun _ z=>(nomatch z);generalize upd H (v.F s) (.dK (kvB (l++[r])))=H1 at P1 k1;have en:=P1.k.at (t:=.en) rfl ze;have eg:∀ x:Int,DGetX H1 f.A.en (.int x) (if x∈S.en then some (.bl true) else none):=fun x=>by
  rcases P1.e with q|⟨q,q2⟩
  .have:=DGetX.k (k:=.inl x) (en.trans (MT some q));have hv:bP (kvB S.en) (.inl x)=if x∈S.en then some (.bl true) else none:=by
    induction S.en with
    |nil=>rfl
    |cons y m ih=>
     show bP ((.inl y,.bl true)::kvB m) (.inl x)=_;by_cases e:y=x
     .rw[c_ (by rw[e]),Mh (by simp[e])]
     .rw[db (fun z=>e (P8 z)),ih];simp[Ol e]
   rw[<- hv];exact this
  .rw[show S.en=[] from q];exact .inr (.inl ⟨.inl (en.trans (MT some q2)),⟨.inl x,rfl⟩,rfl⟩)
 refine e8 (c:=decide (s∈S.en)) (.op (.va h2) (P1.fld (zf s).o T.cl T.n4 (x:=.ref f.A.en) rfl h0) fun Q q=>⟨f.A.en,_,rfl,eg s,by rw[Mj (by decide)];by_cases z:s∈S.en<;>simpa[z] using q⟩) (fun h=>?_) fun h=>?_
 .have hm:s∈S.en:=ND h;have eu:v.ue=.dK (kvB S.en):=P1.e.resolve_right fun q=>by rw[show S.en=[] from q.1]at hm;cases hm
  rw[eu]at en;unfold kq tC;dsimp only;refine P1.fld (zf s).o T.cl T.n4 (x:=.ref f.A.en) rfl h0 _ ⟨_,h1,f.A.en,_,rfl,DPut.k (k:=.inl r) en (o_ (by rw[iT];exact fS.e)),?_⟩;have ea:b7 (kvB S.en) (.inl r) (.bl true)=kvB (Sp.add S.en r):=by
   unfold Sp.add;by_cases z:r∈S.en
   .rw[Mh z,Bo z]
   .rw[Mj z,oI z]
  rw[ea];have P2:=P1.JM ze (Sp.add S.en r);have eb:({ S with fo:=Sp.put S.fo s (l++[r]),en:=Sp.add S.en r }:Sp.St)=Sp.begF0 S r s:=by unfold Sp.begF0;rw[el,Mh hm]
  have P2:aQ f Z B _ (Sp.begF0 S r s) _ col:=eb▸P2;exact Kl T P2 zo ne ⟨kt.k1,kt.k2⟩ fit hs fun σ' H' k2=>k σ' H' (k1.trans (KT.trans (.upd en fun _ z=>(nomatch z)) k2))
 .have hm:¬ s∈S.en:=fun z=>h (Mp z);have eb:({ S with fo:=Sp.put S.fo s (l++[r]) }:Sp.St)=Sp.begF0 S r s:=by unfold Sp.begF0;rw[el,Mj hm]
  have P2:aQ f Z B H1 (Sp.begF0 S r s) v col:=eb▸P1;exact Kl T P2 zo ne ⟨kt.k1,kt.k2⟩ fit hs fun σ' H' k2=>k σ' H' (k1.trans k2)
theorem qy (T:gz X.K C)(h:gu C vs H Q E):uB X C (eQ Q) (start (nS 7) vs) H:=by
 obtain⟨rfl,⟨v,col,P⟩,zo,ne,kt,fit,k⟩:=h;rename_i f Z B S r s;have zf:=zo.free;have zfo:¬ Z.z .fo:=zo.no fun _ e=>(nomatch e);have hfo:=P.k.at (t:=.fo) rfl zfo;have fS:=(Sp.follow_grow S r s).fit fit
 delta uB aN bq wu
 refine P.fld (zf s).o T.cl T.n5 (x:=.ref f.A.fo) rfl rfl _ (yu hfo (by rw[j_];exact fS.f) rfl (fun x p hv hp=>?_) fun p hv hp=>?_)
 .rw[cu]at hv;obtain⟨l,el,ex⟩:=M5.mp hv;subst ex;have s1:=au (o:=.dK []) hp;have P1:=P.more s1;refine Km T P1 zo ne kt el fit ⟨_,_,_,rfl⟩ (fun _ H' k1=>k H' ((KT.of s1).trans k1)) fun hr=>k _ (.of s1) ?_;have ef:Sp.aV S r s=S:=by unfold Sp.aV Sp.fol;rw[el,Mh (by simpa using hr)]
  rw[ef];exact⟨_,_,P1⟩
 .rw[cu]at hv;have er:Sp.get S.fo s=none:=PX.mp hv;obtain⟨col',P1⟩:=P.JR zfo (zo.no fun _ e=>(nomatch e)) er hp;have kt1:KT H (upd (upd H p (.dK [])) f.A.fo (.dK (cf S.fo v.F++[(.inl s,.ref p)]))):=(KT.of (au hp)).trans (.upd (au hp _ _ hfo) fun _ z=>(nomatch z));have e1:Sp.aV { S with fo:=S.fo++[(s,[])] } r s=Sp.aV S r s:=by
   have r0:Sp.fol S s=[]:=by unfold Sp.fol;rw[er];rfl
   have r1:Sp.fol { S with fo:=S.fo++[(s,[])] } s=[]:=by unfold Sp.fol;show(Sp.get (S.fo++[(s,[])]) s).getD []=[];rw[bN er,Mh rfl];rfl
   unfold Sp.aV;rw[r0,r1];simp only[NY,Nm];rw[iU er]
  have:=Km (X:=X) (r:=r) (D:=eQ Q) (σ:=[some (.ref f.A.o),some (.int r),some (.int s),some (.ref p),none,none,none]) T P1 zo ne ⟨kt.k1,kt.k2⟩ (s:=s) (l:=[]) ((bN er _ _).trans (Mh rfl)) (by rw[e1];exact fit) ⟨none,none,none,by show _=[_,_,_,some (V.ref (at1 v.F s p s)),_,_,_];rw[dR]⟩ (fun _ H' k1=>by rw[e1];exact k H' (kt1.trans k1)) fun h=>by cases h
  exact this
end
end L4
namespace Sp
theorem KT.aV (k:KT S)(r s:Int):KT (aV S r s):=by
 unfold Sp.aV;split
 .exact k
 .exact KT.copy (row S.tb s) (S:=begF0 S r s) ⟨k.k1,k.k2⟩
theorem KT.mid (k:KT S)(n r g:Int):KT (midM n S r g):=by
 unfold Sp.midM;split
 .exact k
 .exact⟨k.k1,k.k2⟩
theorem KT.aX (k:KT S)(n t:Int)(r:Rule):KT (aX n t S r):=by
 unfold Sp.aX;split
 .exact k.aV ..
 .exact k.lead ..
 .exact((k.mid n _ _).lead ..).lead ..
end Sp
namespace L4
open PySem PySem.Spec PyProof.Rows L2 L3
section
variable {K:QQ}{C:Addr}{f:Fx}{Z:Ln Tag}{B H:Hp}{S:Sp.St}{v:Vr}{col:Addr->Option Tag}{s g t:Int}{Q:VK}{E:XK}{c q:Addr}{r:Sp.Rule}
inductive qP (C:Addr):Sp
 |mk {f:Fx} {Z:Ln Tag} {B H:Hp} {S:Sp.St} {s g:Int} {Q:VK} {E:XK} (hC:f.C=C) (P:SAt f Z B H S) (z:OnlyR Z) (fit:Sp.lR (Sp.midM f.n S s g)) (k:∀ H',KT H H'->SAt f Z B H' (Sp.midM f.n S s g)->Q (.int (Sp.midS f.n S s g)) H'):qP C [.ref f.A.o,.int s,.int g] H Q E
theorem vQ (h:qP C vs H Q E):vs.length=3:=by cases h;rfl
def Gu (K:QQ):TS:=cV (wu K "dict" sC (eS K (aj 0) "mids") (ag (cD (ag (aj 1) (ag (aj 2) aF))) (ag (bg cR (eS K (aj 0) "states") (eR yo (ag (eS K (aj 0) "mids") aF))) aF)))
theorem oM:∀(m:List ((Int×Int)×Int))(k:Int×Int),bP (lQ m) (k2 k)=(Sp.get m k).map .int
 | [],_=>rfl
 |x::m,k=>by
  show bP ((k2 x.1,.int x.2)::lQ m) (k2 k)=_;rw[Sp.get_cons];by_cases e:x.1=k
  .rw[c_ (by rw[e]),Mh e];rfl
  .rw[db (fun z=>e (yn _ _ z)),Mj e,oM m k]
theorem aQ.JX (h:aQ f Z B H S v col)(z:¬ Z.z .mi)(m:List ((Int×Int)×Int)):aQ f Z B (upd H f.A.mi (.dT (lQ m))) { S with mi:=m } v col:=by have hd:cells f S v .mi=some (f.A.mi,.dT (lQ S.mi)):=rfl;have k1:KT H (upd H f.A.mi (.dT (lQ m))):=.upd (h.k.at hd z) fun ws y=>(nomatch y);exact⟨h.k.put hd z rfl (fun q hq=>by cases q<;>first|rfl|exact(hq rfl).elim),h.d.mono (IsArr.keep k1),h.e⟩
theorem yx (T:gz K C)(h:qP C vs H Q E):Gu K (eQ Q) (start (nS 3) vs) H:=by
 obtain⟨rfl,⟨v,col,P⟩,zo,fit,k⟩:=h;rename_i f Z B S s g;have zf:=zo.free;have zm:¬ Z.z .mi:=zo.no fun _ e=>(nomatch e);have hm:=P.k.at (t:=.mi) rfl zm;have fS:=(Sp.midM_grow f.n S s g).fit fit;unfold Gu cV wu;refine P.fld (zf s).o T.cl T.n6 (x:=.ref f.A.mi) rfl rfl _ ⟨.inr (.inr (.inl ⟨rfl,.inr ⟨_,hm⟩⟩)),?_⟩;refine mj (ws:=[.int s,.int g]) (.c (.va rfl) (.c (.va rfl) .ni)) rfl fun p hp=>?_;have s1:Same H (upd H p (.tup [.int s,.int g])):=au hp;have P1:=P.more s1;have hm1:=s1 _ _ hm;have hp1:upd H p (.tup [.int s,.int g]) p=some (.tup ((k2 (s,g)).map kV)):=ah;generalize upd H p (.tup [.int s,.int g])=H1 at s1 P1 hm1 hp1;refine Reads.add (P1.fld (zf s).o T.cl T.n2 (x:=.int f.n) rfl rfl) (j:=(lQ S.mi).length) (fun Q q=>?_) _ ?_
 .exact P1.fld (zf s).o T.cl T.n6 (x:=.ref f.A.mi) rfl rfl _ ⟨f.A.mi,lQ S.mi,rfl,.inl (.inl hm1),q⟩
 .refine⟨f.A.mi,p,k2 (s,g),_,lQ S.mi,rfl,rfl,hp1,.inl hm1,o_ (by unfold lQ;rw[Me];exact fS.m),?_⟩;rw[oM];unfold Sp.midM Sp.midS at k;cases e:Sp.get S.mi (s,g) with
  |some x=>rw[e]at k;exact .inl ⟨_,rfl,k _ (.of s1) ⟨_,_,P1⟩⟩
  |none=>
   rw[e]at k;refine .inr ⟨rfl,?_⟩;have ev:b7 (lQ S.mi) (k2 (s,g)) (.int (f.n+(lQ S.mi).length))=lQ (S.mi++[((s,g),f.n+S.mi.length)]):=by rw[eU _ (by rw[oM,e];rfl)];unfold lQ;simp
   rw[ev];have P2:=P1.JX zm (S.mi++[((s,g),f.n+S.mi.length)]);have:=k _ ((KT.of s1).trans (.upd hm1 fun _ y=>(nomatch y))) ⟨_,_,P2⟩;show Q (.int (f.n+(lQ S.mi).length)) _;have el:(lQ S.mi).length=S.mi.length:=by unfold lQ;simp
   rw[el];exact this
inductive zG (C:Addr):Sp
 |mk {f:Fx} {Z:Ln Tag} {B H:Hp} {S:Sp.St} {r:Sp.Rule} {t:Int} {c:Addr} {Q:VK} {E:XK} (hC:f.C=C) (P:SAt f Z B H S) (z:OnlyR Z) (hr:IsRule H r (.ref c)) (ne:r.2.2.1≠t) (kt:Sp.KT S) (fit:Sp.lR (Sp.aX f.n t S r)) (k:∀ H',KT H H'->SAt f Z B H' (Sp.aX f.n t S r)->Q .bS H'):zG C [.ref f.A.o,.ref c,.int t] H Q E
theorem yz (h:zG C vs H Q E):vs.length=3:=by cases h;rfl
def I_ (K:QQ) (C:Addr):TS:=aN (bq (dL C "mid_for" (qP C) [] E0 (aj 0) (ag (tI K 1 2) (ag (tI K 3 0) aF))) (aE 4))
 (aN (cZ (dL C "lead" (d6 C) [] E0 (aj 0) (ag (tI K 1 2) (ag (tI K 3 0) (ag (aj 4) aF)))))
   (cZ (dL C "lead" (d6 C) [] E0 (aj 0) (ag (aj 4) (ag (tI K 3 1) (ag (aj 2) aF))))))
def Ja (K:QQ) (C:Addr):TS:=cm (bK (bg Al (eR (k_ K) (ag (aj 3) aF)) (tC (.int 1)))) (cZ (dL C "lead" (d6 C) [] E0 (aj 0) (ag (tI K 1 2) (ag (tI K 3 0) (ag (aj 2) aF))))) (I_ K C)
def Jb (K:QQ) (C:Addr):TS:=cm (bK (bg Al (eR (k_ K) (ag (aj 3) aF)) (tC (.int 0)))) (cZ (dL C "follow" (gu C) [] E0 (aj 0) (ag (tI K 1 2) (ag (aj 2) aF)))) (Ja K C)
def yA (K:QQ)(C:Addr):TS:=aN (bq (tI K 1 3) (aE 3)) (Jb K C)
theorem Br (h:zG C vs H Q E):yA K C (eQ Q) (start (nS 5) vs) H:=by
 obtain @⟨f,Z,B,H,S,r,t,c,Q,E,rfl,P,zo,⟨_,q,ec,hr,hq⟩,ne,kt,fit,k⟩:=h;cases ec;have zf:=zo.free
 delta yA aN bq
 refine Reads.ix (.va rfl) hr (v:=.ref q) rfl _ ?_;have ins:=P.ins (zf 0).o;obtain⟨r0,r1,r2,w⟩:=r;dsimp only at hr hq ne;have hl:(((w.map V.int).length:Nat):Int)=w.length:=by simp
 refine e8 (.zZ (.len (.va rfl) hq) .k) (fun h=>?_) fun h=>e8 (.zZ (.len (.va rfl) hq) .k) (fun h1=>?_) fun h1=>?_
 .have e0:w=[]:=by have:=ND h;rw[hl]at this;exact On.mp (by lia)
  subst e0;exact vI (.va rfl) ins rfl (.c (.ix (.va rfl) hr rfl) (.c (.va rfl) .ni)) (.mk rfl P zo ne kt fit k)
 .have e1:w.length=1:=by have:=ND h1;rw[hl]at this;lia
  obtain⟨x,rfl⟩:=Nu.mp e1;exact gI P (zf r2) fit (.va rfl) (.c (.ix (.va rfl) hr rfl) (.c (.ix (.va rfl) hq rfl) (.c (.va rfl) .ni))) k
 .have n0:¬ w.length=0:=fun z=>h (Mp (by rw[hl,z];rfl));have n1:¬ w.length=1:=fun z=>h1 (Mp (by rw[hl,z];rfl));obtain⟨x,y,w,rfl⟩ : ∃ x y u,w=x::y::u:=by
   rcases w with _|⟨x,_|⟨y,w⟩⟩
   .exact(n0 rfl).elim
   .exact(n1 rfl).elim
   .exact⟨x,y,w,rfl⟩
  have f2:=(Sp.lead_grow ..).fit fit;have f1:=(Sp.lead_grow ..).fit f2;refine vI (.va rfl) ins rfl (.c (.ix (.va rfl) hr rfl) (.c (.ix (.va rfl) hq (fw (j:=0) rfl)) .ni)) (.mk rfl P zo f1 fun H1 k1 P1=>?_);refine gI P1 (zf r2) f2 (.va rfl) (.c (.ix (.va rfl) (k1 _ _ hr) rfl) (.c (.ix (.va rfl) (k1 _ _ hq) (fw (j:=0) rfl)) (.c (.va rfl) .ni))) fun H2 k2' P2=>?_;exact gI P2 (zf _) fit (.va rfl) (.c (.va rfl) (.c (.ix (.va rfl) (k2' _ _ (k1 _ _ hq)) (fw (j:=1) rfl)) (.c (.va rfl) .ni))) fun H3 k3 P3=>k H3 (k1.trans (k2'.trans k3)) P3
end
end L4
namespace Sp
theorem KT.zL {a:Arr}:∀(l:List Int){S:St},KT S->KT (l.foldl (fun S r=>Sp.lead S r a.2.1 a.2.2) S)
 | [],_,k=>k
 |x::l,_,k=>KT.zL l (k.lead ..)
theorem KT.takes:∀(l:List Rule){S:St},KT S->KT (l.foldl (Sp.aX n t) S)
 | [],_,k=>k
 |x::l,_,k=>KT.takes l (k.aX ..)
theorem KT.turn (k:KT S)(n:Int)(rs:RS)(a:Arr):KT (turn n rs a (bo S)):=KT.takes _ (KT.zL _ (S:=bo S) ⟨k.k1,k.k2⟩)
end Sp
namespace L4
open PySem PySem.Spec PyProof.Rows L2 L3
theorem a_.EJ {α β:Type}{R:α->β->Prop}{xs:List α}{x:α}{ys:List β}(h:a_ R (xs++[x]) ys):∃ zs y,ys=zs++[y]/\a_ R xs zs/\R x y:=by
 induction xs generalizing ys with
 |nil=>
  cases h with
  |cons a b=>cases b;exact⟨[],_,rfl,.nil,a⟩
 |cons w xs ih=>
  cases h with
  |cons a b=>obtain⟨zs,y,e,h1,h2⟩:=ih b;exact⟨_::zs,y,by rw[e];rfl,.cons a h1,h2⟩
def yB (f:Fx)(B:Hp):Prop:=∀ k rl,Sp.get f.rs k=some rl->(f.RA k==sysModules)=false/\a_ (fun r x=>IsRule B r (.ref x.2.1)) rl (f.xs k)
section
variable {X:Cx}{C:Addr}{f:Fx}{Z:Ln Tag}{B H:Hp}{S:Sp.St}{v:Vr}{col:Addr->Option Tag}{s g t:Int}{D:Ends}{σ:L2.St}{Q:VK}{E:XK}{b:Addr}{a:Sp.Arr}
theorem aQ.J6 (h:aQ f Z B H S v col)(z:¬ Z.z .du)(hd:a_ (IsArr H) du dv):aQ f Z B (upd H f.A.du (.lst dv)) { S with du:=du } { v with dv:=dv } col:=by have e:cells f S v .du=some (f.A.du,.lst v.dv):=rfl;have k1:KT H (upd H f.A.du (.lst dv)):=.upd (h.k.at e z) fun ws y=>(nomatch y);exact⟨h.k.put e z rfl (fun q hq=>by cases q<;>first|rfl|exact(hq rfl).elim),hd.mono (IsArr.keep k1),h.e⟩
inductive gy (C:Addr):Sp
 |mk {f:Fx} {Z:Ln Tag} {B H:Hp} {S T:Sp.St} {m:Nat} {Q:VK} {E:XK} (hC:f.C=C) (ok:yB f B) (P:SAt f Z B H S) (z:∀ t,¬ Z.z t) (kt:Sp.KT S) (lp:Sp.Loop f.n f.rs m S T) (k:∀ H',SAt f Z B H' T->Q .bS H'):gy C [.ref f.A.o] H Q E
theorem oN (h:gy C vs H Q E):vs.length=1:=by cases h;rfl
def Jc (K:QQ) (C:Addr):TS:=cZ (dL C "take_rule" (zG C) [] E0 (aj 0) (ag (aj 3) (ag (tI K 1 2) aF)))
def Bs (X:Cx) (C:Addr):TS:=fun D σ H=>dJ (DS (g0 (eS X.K (aj 0) "rules") (cD (ag (tI X.K 1 0) (ag (tI X.K 1 1) aF))) sG)) (aE 3) (Jc X.K C) (Kg D) σ H
def Jd (K:QQ) (C:Addr):TS:=cZ (dL C "lead" (d6 C) [] E0 (aj 0) (ag (aj 2) (ag (tI K 1 1) (ag (tI K 1 2) aF))))
def DZ (X:Cx) (C:Addr):TS:=aN (fun D σ H=>dJ (AA X (g0 (eS X.K (aj 0) "followers") (tI X.K 1 0) dM)) (aE 2) (Jd X.K C) (HP X D) σ H) (Bs X C)
def Gv (X:Cx) (C:Addr):TS:=aN (bq (w8 X.K "list" FP (eS X.K (aj 0) "due")) (aE 1)) (DZ X C)
def Bt (X:Cx) (C:Addr):TS:=wI (fun σ H Q=>eS X.K (aj 0) "due" σ H fun x H'=>∃ k,CW X.K x H' k/\Q k H') (Gv X C)
def sL (f:Fx)(b:Addr)(σ:L2.St):Prop:=∃ x y,σ=[some (.ref f.A.o),some (.ref b),x,y]
theorem yC (z:∀ t,¬ Z.z t):OnlyR Z:=fun t h=>(z t h).elim
theorem hV.LR (h:hV Z r):hV ⟨fun q=>Z.z q\/q=.fl s,c⟩ r:=⟨fun z=>z.elim h.o fun e=>(nomatch e),fun z=>z.elim h.ta fun e=>(nomatch e),fun z=>z.elim h.du fun e=>(nomatch e),fun z=>z.elim h.row fun e=>(nomatch e),fun g z=>z.elim (h.lf g) fun e=>(nomatch e)⟩
theorem uC (hp:H p=none):Same H (upd (upd (upd H p u) p (.bQ o u)) p u):=fun c w ec=>by rw[aA (aB ec hp),aA (aB ec hp),aA (aB ec hp)];exact ec
theorem oO (rs:Sp.RS)(RA:Int×Int->Addr)(k:Int×Int):bP (qw rs RA) (k2 k)=(Sp.get rs k).map fun _=>.ref (RA k):=by
 induction rs with
 |nil=>rfl
 |cons x m ih=>
  show bP ((k2 x.1,.ref (RA x.1))::qw m RA) (k2 k)=_;rw[Sp.get_cons];by_cases e:x.1=k
  .rw[c_ (by rw[e]),Mh e,e];rfl
  .rw[db (fun z=>e (yn _ _ z)),Mj e,ih]
theorem K1 (T:gz X.K f.C)(ok:yB f B)(P:aQ f Z B H S v col)(z:∀ t,¬ Z.z t)(kt:Sp.KT S)(ha:H b=some (.tup (ji a)))(ne:∀ r∈(Sp.get f.rs (a.1,a.2.1)).getD [],r.2.2.1≠a.2.2)(fit:Sp.lR (((Sp.get f.rs (a.1,a.2.1)).getD []).foldl (Sp.aX f.n a.2.2) S))(hs:sL f b σ)
 (k:∀ σ' H',sL f b σ'->SAt f Z B H' (((Sp.get f.rs (a.1,a.2.1)).getD []).foldl (Sp.aX f.n a.2.2) S)->D.nx σ' H'):Bs X f.C D σ H:=by
 have hru:=P.k.at (t:=.ru) rfl (z _);have h0:σ[0]?=some (some (.ref f.A.o)):=by obtain⟨_,_,rfl⟩:=hs;rfl
 have h1:σ[1]?=some (some (.ref b)):=by obtain⟨_,_,rfl⟩:=hs;rfl
 delta Bs dJ DS g0
 refine P.fld (z _) T.cl T.n1 (x:=.ref f.A.ru) rfl h0 _ ⟨f.A.ru,rfl,.inr ⟨_,.inl hru⟩,?_⟩;refine mj (ws:=[.int a.1,.int a.2.1]) (.c (.ix (.va h1) ha rfl) (.c (.ix (.va h1) ha rfl) .ni)) rfl fun p hp p2 hp2 hne=>?_;have s1:Same H (upd H p (.tup [.int a.1,.int a.2.1])):=au hp;have s2:=s1.trans (au (o:=.ext (fZ p2 [])) hp2);refine⟨_,DGet.t (k:=k2 (a.1,a.2.1)) (s2 _ _ hru) (au hp2 _ _ ah),?_⟩;rw[oO];cases e:Sp.get f.rs (a.1,a.2.1) with
 |none=>rw[e]at k;refine⟨p2,[],rfl,hne,ah,fun o=>?_⟩;refine g_ (n:=0) (fun i σ' H'=>σ'=σ/\H'=upd (upd (upd H p (.tup [.int a.1,.int a.2.1])) p2 (.ext (fZ p2 []))) p2 (.ext (vN p2 o []))) ⟨rfl,rfl⟩ (fun _ _ _ _ hi=>absurd hi (OG _)) (fun σ' H' q=>⟨by rw[q.2,ah],Mc _⟩) (fun _ _ _ _ _ _ hi=>absurd hi (OG _)) fun σ' H' q=>?_;obtain⟨rfl,rfl⟩:=q;refine⟨p2,o,[],ah,k _ _ hs ⟨_,_,P.more fun c w ec=>?_⟩⟩;have np:=aB (s1 _ _ ec) hp2;rw[aA np,aA np,aA np];exact s1 _ _ ec
 |some rl=>
  rw[e]at k fit ne;obtain⟨hsys,all⟩:=ok _ _ e;have P0:=P.more s2;have hc:cells f S v (.rl (a.1,a.2.1))=some (f.RA (a.1,a.2.1),.ext (fZ (f.RA (a.1,a.2.1)) (f.xs (a.1,a.2.1)))):=by show(Sp.get f.rs _).map _=_;rw[e];rfl
  have hH:=P0.k.at hc (z _);refine⟨f.RA (a.1,a.2.1),f.xs (a.1,a.2.1),rfl,hsys,hH,fun o=>?_⟩;generalize hd:f.RA (a.1,a.2.1)=d at hc hH;generalize hx:f.xs (a.1,a.2.1)=xs at hc hH all;have P1:=P0.lend hc (z _) (fun _ z=>(nomatch z)) (.ext (vN d o xs));have zo:OnlyR ⟨fun q=>Z.z q\/q=.rl (a.1,a.2.1),cells f S v⟩:=fun t h=>h.elim (fun h=>(z t h).elim) fun h=>⟨_,h⟩;refine g_ (n:=xs.length) (fun i σ' H'=>sL f b σ'/\KT H H'/\SAt f ⟨fun q=>Z.z q\/q=.rl (a.1,a.2.1),cells f S v⟩ (upd B d (.ext (vN d o xs))) H' ((rl.take i).foldl (Sp.aX f.n a.2.2) S)) ⟨hs,(KT.of s2).trans (.upd hH fun _ z=>(nomatch z)),_,_,P1⟩ (fun i σ' H' p hi=>⟨p.2.2.fY,hi⟩) (fun σ' H' p=>⟨p.2.2.fY,Mc _⟩) (fun i σ' H' x H'' D' hi p y k'=>?_) fun σ' H' p=>?_
  .obtain⟨⟨x2,x3,rfl⟩,kt',P2⟩:=p;obtain⟨rfl,kk,bb,vv,e1,rfl⟩:=y;obtain⟨r,e2,ir⟩:=all.get e1;rw[dS e2]at k';have ktB:KT B H:=.of P.k.same;have ins:=P2.ins (zo.free 0).o;exact vI (.va rfl) ins rfl (.c (.va rfl) (.c (.ix (.va rfl) (kt' _ _ ha) rfl) .ni)) (.mk rfl P2 zo (IsRule.keep (ktB.trans kt') _ _ ir) (ne r (MW e2)) (Sp.KT.takes _ kt) (ff (step:=Sp.aX f.n a.2.2) (Sp.takeR_grow f.n a.2.2) fit e2) fun H3 k3 P3=>k' _ H3 ⟨⟨_,_,rfl⟩,kt'.trans k3,P3⟩)
  .obtain⟨hs',kt',P2⟩:=p;rw[<- all.len,Ng]at P2;exact⟨d,o,xs,P2.fY,k _ _ hs' (P2.back hc (P0.k.fr hc (z _)) (z _) P0.k.l fun _ z=>(nomatch z))⟩
theorem K3 (T:gz X.K f.C)(ok:yB f B)(P:aQ f Z B H S v col)(z:∀ t,¬ Z.z t)(kt:Sp.KT S)(ha:H b=some (.tup (ji a)))(ne:∀ r∈(Sp.get f.rs (a.1,a.2.1)).getD [],r.2.2.1≠a.2.2)(fit:Sp.lR (Sp.turn f.n f.rs a S))(hs:sL f b σ)
 (k:∀ σ' H',sL f b σ'->SAt f Z B H' (Sp.turn f.n f.rs a S)->D.nx σ' H'):DZ X f.C D σ H:=by
 have zf:=(yC z).free;have hfo:=P.k.at (t:=.fo) rfl (z _);have h0:σ[0]?=some (some (.ref f.A.o)):=by obtain⟨_,_,rfl⟩:=hs;rfl
 have h1:σ[1]?=some (some (.ref b)):=by obtain⟨_,_,rfl⟩:=hs;rfl
 have fitF:Sp.lR (Sp.dQ a S):=Sp.fj.fit (Sp.foldl_grow _ (Sp.takeR_grow f.n a.2.2) _ _) fit;have next:∀ σ' H',sL f b σ'->KT H H'->SAt f Z B H' (Sp.dQ a S)->Bs X f.C D σ' H':=fun σ' H' hs' k1 ⟨v',col',P'⟩=>K1 T ok P' z (Sp.KT.zL _ kt) (k1 _ _ ha) ne fit hs' k
 delta DZ aN dJ AA g0
 dsimp only;refine P.fld (z _) T.cl T.n5 (x:=.ref f.A.fo) rfl h0 _ ⟨f.A.fo,rfl,.inl ⟨_,.inl hfo⟩,?_⟩;refine Reads.ix (.va h1) ha (v:=.int a.1) rfl _ fun p hp=>?_;have s1:Same H (upd H p (.dK [])):=au hp;refine⟨_,DGet.k (k:=.inl a.1) (s1 _ _ hfo),?_⟩;rw[cu];cases e:Sp.get S.fo a.1 with
 |none=>
  have er:Sp.dQ a S=S:=by unfold Sp.dQ Sp.fol;rw[e];rfl
  rw[er]at next;refine⟨p,[],.dK [],rfl,.inl rfl,.inr ⟨ah,fun o ho=>?_⟩⟩;refine g_ (n:=0) (fun i σ' H'=>σ'=σ/\H'=upd (upd H p (.dK [])) p (.bQ o (.dK []))) ⟨rfl,rfl⟩ (fun _ _ _ _ hi=>absurd hi (OG _)) (fun σ' H' q=>⟨by rw[q.2,ah],Mc _⟩) (fun _ _ _ _ _ _ hi=>absurd hi (OG _)) fun σ' H' q=>?_;obtain⟨rfl,rfl⟩:=q;exact .inr ⟨p,o,.dK [],ah,True.intro,ho,next _ _ hs (.of (uC hp)) ⟨_,_,P.more (uC hp)⟩⟩
 |some l=>
  have er:Sp.dQ a S=l.foldl (fun S r=>Sp.lead S r a.2.1 a.2.2) S:=by unfold Sp.dQ Sp.fol;rw[e];rfl
  rw[er]at next fitF;have P0:=P.more s1;have hc:cells f S v (.fl a.1)=some (v.F a.1,.dK (kvB l)):=by show(Sp.get S.fo a.1).map _=_;rw[e];rfl
  have hH:=P0.k.at hc (z _);refine⟨v.F a.1,kvB l,.dK (kvB l),rfl,.inl rfl,.inr ⟨hH,fun o ho=>?_⟩⟩;have P1:=P0.lend hc (z _) (fun _ z=>(nomatch z)) (.bQ o (.dK (kvB l)));refine g_ (n:=(kvB l).length) (fun i σ' H'=>sL f b σ'/\KT H H'/\SAt f ⟨fun q=>Z.z q\/q=.fl a.1,cells f S v⟩ (upd B (v.F a.1) (.bQ o (.dK (kvB l)))) H' ((l.take i).foldl (fun S r=>Sp.lead S r a.2.1 a.2.2) S)) ⟨hs,(KT.of s1).trans (.upd hH fun _ z=>(nomatch z)),_,_,P1⟩ (fun i σ' H' p hi=>⟨p.2.2.fY,hi⟩) (fun σ' H' p=>⟨p.2.2.fY,Mc _⟩) (fun i σ' H' x H'' D' hi p y k'=>?_) fun σ' H' p=>?_
  .obtain⟨⟨x2,x3,rfl⟩,kt',P2⟩:=p;obtain⟨rfl,kk,xx,e1,rfl⟩:=y;obtain⟨r,e2,rfl⟩:=yw e1;rw[dS e2]at k';exact gI P2 (zf r).LR (ff (step:=fun S r=>Sp.lead S r a.2.1 a.2.2) (fun S x=>Sp.lead_grow S x _ _) fitF e2) (.va rfl) (.c (.va rfl) (.c (.ix (.va rfl) (kt' _ _ ha) rfl) (.c (.ix (.va rfl) (kt' _ _ ha) rfl) .ni))) fun H3 k3 P3=>k' _ H3 ⟨⟨_,_,rfl⟩,kt'.trans k3,P3⟩
  .obtain⟨hs',kt',P2⟩:=p;rw[iT,Ng]at P2;exact .inr ⟨v.F a.1,o,_,P2.fY,True.intro,ho,next _ _ hs' (kt'.trans (.upd P2.fY fun _ z=>(nomatch z))) (P2.back hc (P0.k.fr hc (z _)) (z _) P0.k.l fun _ z=>(nomatch z))⟩
def wS (f:Fx)(Z:Ln Tag)(B:Hp)(T:Sp.St)(m:Nat)(σ:L2.St)(H:Hp):Prop:=(∃ x y z,σ=[some (.ref f.A.o),x,y,z])/\∃ S,SAt f Z B H S/\Sp.KT S/\Sp.Loop f.n f.rs m S T
theorem qz (T:gz X.K C)(h:gy C vs H Q E):Bt X C (eQ Q) (start (nS 4) vs) H:=by
 obtain @⟨f,Z,B,H,S,S',n,Q,E,rfl,ok,P,z,kt,lp,k⟩:=h;refine⟨wS f Z B S',⟨n,⟨none,none,none,rfl⟩,S,P,kt,lp⟩,?_⟩;clear P lp kt;rintro m σ H ⟨hs,S,⟨v,col,P⟩,kt,lp⟩;have h0:σ[0]?=some (some (.ref f.A.o)):=by obtain⟨_,_,_,rfl⟩:=hs;rfl
 have hdu:=P.k.at (t:=.du) rfl (z _);refine P.fld (z _) T.cl T.n7 (x:=.ref f.A.du) rfl h0 _ ⟨_,.inl ⟨_,SqL.of hdu,rfl⟩,?_⟩;cases lp with
 |done e=>
  have ev:v.dv=[]:=by have:=P.d.len;rw[e]at this;exact On.mp this.symm
  rw[ev];exact b_ (k H ⟨v,col,P⟩)
 | @step m _ _ a hd ne fit lp=>
  obtain⟨ys,e⟩:=Pi.mp hd;obtain⟨zs,_,ev,all,b,rfl,hb⟩:=(e▸P.d).EJ;have hne:(!v.dv.isEmpty)=true:=by rw[ev];simp
  rw[hne];refine gf ⟨wS f Z B S' m,fun σ' H' h'=>⟨m,Pj _,h'⟩,?_⟩;rw[ev]at hdu;unfold Gv aN bq w8;dsimp only;refine P.fld (z _) T.cl T.n7 (x:=.ref f.A.du) rfl h0 _ ⟨.inl ⟨rfl,_,SqL.of hdu⟩,f.A.du,zs++[.ref b],.ref b,rfl,rfl,hdu,by simp,?_⟩;rw[List.dropLast_concat];have P1:=P.J6 (z _) all;have ed:({ S with du:=ys }:Sp.St)=Sp.bo S:=by unfold Sp.bo;rw[e];simp
  have P1:aQ f Z B _ (Sp.bo S) _ col:=ed▸P1;obtain⟨x,y,w,rfl⟩:=hs;exact K3 T ok P1 z ⟨kt.k1,kt.k2⟩ (KT.upd hdu (fun _ y=>(nomatch y)) _ _ hb) ne fit ⟨_,_,rfl⟩ fun σ' H' ⟨x,y,hs'⟩ P'=>⟨⟨_,_,_,hs'⟩,_,P',kt.turn ..,lp⟩
end
noncomputable abbrev wx:List Str:=["to"]
structure Small (S:Sp.St):Prop where
 t:S.tb.length<=63
 r:∀ s,(Sp.row S.tb s).length<=63
 l:∀ s g,(Sp.leaf S.tb s g).length<=63
 e:S.en.length<=63
def vR:List V->Hp->VK->Prop:=fun xs H Q=>∃(d:Addr)(kvs:List (bh×V))(u:HO)(is:List Int),xs=[.ref d]/\(u=.dK kvs\/(u=.dT []/\kvs=[]))/\Rd H d u/\kvs.map (·.1)=is.map Sum.inl/\is.length<=63/\
 ∀(l:Addr)(ks:List Int),H l=none->(∀ k,k∈ks↔k∈is)->ks.Pairwise (·< ·)->Q (.ref l) (upd H l (.lst (ks.map V.int)))
theorem iV (hc:X.calm=true):bn X (.builtin "sorted") vR:=l_ hc
section
variable {X:Cx}{K:QQ}{C:Addr}{f:Fx}{Z:Ln Tag}{B H H0:Hp}{S:Sp.St}{v:Vr}{col:Addr->Option Tag}{s g:Int}{D:Ends}{σ:L2.St}{Q:VK}{E:XK}{la:Addr}{scope:Scope}{tg elt:Expr}{capN:List Str}{caps:List Nat}
theorem oP (h:Reads ta σ H (.ref d))(hu:u=.dK kvs\/(u=.dT []/\kvs=[]))(hd:H d=some u)(hk:kvs.map (·.1)=is.map Sum.inl)(hz:is.length<=63)(k:∀ l,H l=none->Q (.ref l) (upd H l (.lst ((aP is).map .int)))):eR vR (ag ta aF) σ H Q:=h _ ⟨d,kvs,u,is,rfl,hu,.inl hd,hk,hz,fun l ks hl hm hp=>by rw[jD ks (aP is) hp (gn is) fun x=>by rw[hm,gG]];exact k l hl⟩
theorem qA {β:Type}(d:List (Int×β))(R:Int->Addr):(cf d R).map (·.1)=(d.map (·.1)).map Sum.inl:=by unfold cf;simp
theorem qB (l:List Int):(kvB l).map (·.1)=l.map Sum.inl:=by unfold kvB;simp
theorem D0 {l:Addr}{ks:List Int}{Fin:Addr->List V->Hp->Prop}(hcap:gO σ caps=[some (.int s),some (.int g)])(hg:∀ cl C s3 H3 fp,PG (aU X scope (wx++capN) cl C s3 H3 fp) tg (aE 0))(he:∀ cl C s3 H3 fp,PE (aU X scope (wx++capN) cl C s3 H3 fp) elt (cD (ag (aj 1) (ag (aj 2) (ag (aj 0) aF)))))
 (hl:H1 l=some (.lst (ks.map .int))) (hz:ks.length<15000000) (k:∀ Dl vs H',H1 Dl=none->Same H1 H'->H' Dl=some (.lst vs)->a_ (IsArr H') (ks.map fun t=>((s,g,t):Sp.Arr)) vs->Fin Dl vs H'):cq X scope tg wx capN caps elt [] σ Fin (zQ X.K l) H1:=by
 intro Dl hD cl C s3 fp;refine⟨_,_,_,fun i m acc H'=>m=ks.length-i/\i<=ks.length/\a_ (IsArr H') ((ks.take i).map fun t=>((s,g,t):Sp.Arr)) acc/\Same H1 H'/\H' Dl=some (.lst acc),hg cl C s3 _ fp,gF,he cl C s3 _ fp,⟨ks.length,by simp,ML _,.nil,au hD,ah⟩,?_⟩;rintro i m acc H' ⟨rfl,hi,a2,sm,hDl⟩;have hl':=sm _ _ hl;refine⟨hDl,?_⟩;by_cases hlt:i<ks.length
 .right;refine⟨⟨_,.int ks[i],SqL.of hl',by simp[hlt]⟩,fun xv H'' o y ho=>?_⟩;obtain⟨rfl,y⟩:=y;have hx:=y _ (SqL.of hl');rw[ME,Ml hlt]at hx;cases hx;obtain⟨u0,rfl⟩:=Nu.mp ho;rw[hcap];refine⟨fun j hj=>?_,?_⟩
  .obtain⟨j,rfl⟩:=Nx (show 1<=j from hj);rfl
  .refine gf ?_;refine mj (ws:=ji (s,g,ks[i])) (.c (.va rfl) (.c (.va rfl) (.c (.va rfl) .ni))) rfl fun p hp=>?_;have np:Dl≠p:=aB hDl hp;have s2:Same H'' (upd H'' p (.tup (ji (s,g,ks[i])))):=au hp;have k3:KT H'' (upd (upd H'' p (.tup (ji (s,g,ks[i])))) Dl (.lst (acc++[.ref p]))):=(KT.of s2).trans (.upd (s2 _ _ hDl) fun _ z=>(nomatch z));refine⟨s2 _ _ hDl,o_ ?_,ks.length-(i+1),by lia,rfl,hlt,?_,fun c u e=>?_,ah⟩
   .rw[<- a2.len,Me,MU];lia
   .rw[NF,Ml hlt,M8];exact(a2.mono (IsArr.keep k3)).snoc ⟨p,rfl,by rw[aA (Ol np),ah]⟩
   .rw[aA (aB e hD)];exact s2 _ _ (sm _ _ e)
 .left;have ei:i=ks.length:=by lia
  subst ei;rw[Ng]at a2;exact⟨⟨_,SqL.of hl',by simp⟩,k Dl acc H' hD sm hDl a2⟩
inductive lM (C:Addr):Sp
 |mk {f:Fx} {Z:Ln Tag} {B H:Hp} {S:Sp.St} {Q:VK} {E:XK} (hC:f.C=C) (P:SAt f Z B H S) (z:∀ t,¬ Z.z t) (sm:Small S) (ln:(Sp.outs aP S).length<15000000)
  (k:∀(a l e:Addr)(vs:List V)(H':Hp),Same H H'->H' a=some (.tup [.int (f.n+S.mi.length),.ref l,.ref e])->H l=none->H' l=some (.lst vs)->a_ (IsArr H') (Sp.outs aP S) vs->H e=none->H' e=some (.lst ((aP S.en).map .int))->l≠e->Q (.ref a) H'):lM C [.ref f.A.o] H Q E
theorem sM (h:lM C vs H Q E):vs.length=1:=by cases h;rfl
def qC (K:QQ):TE:=eS K (aj 0) "table"
def yD (X:Cx)(scope:Scope)(tg elt:Expr)(capN:List Str)(caps:List Nat):TE:=jC X scope tg wx capN caps elt [] (b8 X.K (eR vR (ag (ij (ij (qC X.K) (aj 2)) (aj 3)) aF)))
def Gw (K:QQ) (tc:TE):TS:=cZ (wu K "list" tS (aj 1) (ag tc aF))
def D1 (K:QQ)(tc:TE):TS:=dJ (b8 K (eR vR (ag (ij (qC K) (aj 2)) aF))) (aE 3) (Gw K tc)
def D2 (K:QQ)(tc:TE):TS:=dJ (b8 K (eR vR (ag (qC K) aF))) (aE 2) (D1 K tc)
def D5 (K:QQ):TS:=cV (cD (ag (bg cR (eS K (aj 0) "states") (eR yo (ag (eS K (aj 0) "mids") aF))) (ag (aj 1) (ag (eR vR (ag (eS K (aj 0) "ends") aF)) aF))))
def Gx (X:Cx)(scope:Scope)(tg elt:Expr)(capN:List Str)(caps:List Nat):TS:=aN (bq (wU aF) (aE 1)) (aN (D2 X.K (yD X scope tg elt capN caps)) (D5 X.K))
def Ii (f:Fx)(la:Addr)(σ:L2.St):Prop:=∃ x y,σ=[some (.ref f.A.o),some (.ref la),x,y]
def Kp (la:Addr)(G H:Hp):Prop:=∀ c u,G c=some u->c≠la->H c=some u
theorem Kp.trans (h:Kp la G H)(h':Kp la H H'):Kp la G H':=fun c u e n=>h' c u (h c u e n) n
theorem Kp.of (s:Same G H):Kp la G H:=fun c u e _=>s c u e
def Lst (la:Addr)(H:Hp)(ls:List Sp.Arr):Prop:=∃ vs,H la=some (.lst vs)/\a_ (IsArr H) ls vs
theorem Lst.more (h:Lst la H ls)(s:Same H H'):Lst la H' ls:=let ⟨vs,e,a⟩:=h;⟨vs,s _ _ e,a.mono (IsArr.keep (.of s))⟩
theorem uD {α β:Type}{l:List α}{h:α->List β}{i:Nat}{x:α}(e:l[i]?=some x):(l.take (i+1)).flatMap h=(l.take i).flatMap h++h x:=by rw[NF,e,List.flatMap_append];simp
theorem yE {α β:Type}{l:List α}{h:α->List β}(i:Nat):((l.take i).flatMap h).length<=(l.flatMap h).length:=by
 have:l.flatMap h=(l.take i).flatMap h++(l.drop i).flatMap h:=by rw[<- List.flatMap_append,MP]
 rw[this,MB];lia
theorem K4 {l:List Int}{pre:List Sp.Arr}(T:gz X.K f.C)(P:aQ f Z B H0 S v col)(z:∀ t,¬ Z.z t)(hcap:caps=[2,3])(hg:∀ cl C s3 H3 fp,PG (aU X scope (wx++capN) cl C s3 H3 fp) tg (aE 0))(he:∀ cl C s3 H3 fp,PE (aU X scope (wx++capN) cl C s3 H3 fp) elt (cD (ag (aj 1) (ag (aj 2) (ag (aj 0) aF)))))
 {r:List (Int×List Int)} (er:Sp.get S.tb s=some r) (eg:Sp.get r g=some l) (hz:l.length<=63) (n0:H0 la=none) (kp:Kp la H0 H) (L:Lst la H pre) (hln:pre.length+(aP l).length<15000000) (hs:σ=[some (.ref f.A.o),some (.ref la),some (.int s),some (.int g)])
 (k:∀ H',Kp la H H'->Lst la H' (pre++(aP l).map fun t=>((s,g,t):Sp.Arr))->D.nx σ H'):Gw X.K (yD X scope tg elt capN caps) D σ H:=by
 subst hs;have ks:∀{c u},H0 c=some u->H c=some u:=fun{c u} e=>kp c u e (aB e n0);obtain⟨vs,hv,av⟩:=L;have ho:=ks (P.k.at (t:=.o) rfl (z _));have hta:=ks (P.k.at (t:=.ta) rfl (z _));have hrow:=ks (P.k.at (t:=.row s) (a:=v.R s) (u:=.dK (cf r (v.L s))) (by show(Sp.get S.tb s).map _=_;rw[er];rfl) (z _));have hlf:=ks (P.k.at (t:=.lf s g) (a:=v.L s g) (u:=.dK (kvB l)) (by show((Sp.get S.tb s).bind _).map _=_;rw[er];show(Sp.get r g).map _=_;rw[eg];rfl) (z _));refine⟨_,rfl,.inl ⟨rfl,vs,SqL.of hv⟩,?_⟩
 delta yD jC b8 ag
 dsimp only;refine oP (ta:=ij (ij (qC X.K) (aj 2)) (aj 3)) (d:=v.L s g) (fun Q q=>?_) (.inl rfl) hlf (qB l) hz fun l1 hl1=>?_
 .delta ij qC
  dsimp only;refine Reads.fld (.va rfl) ⟨f.dx,ho⟩ T.cl T.n3 (v:=.ref f.A.ta) rfl _ ⟨_,rfl,f.A.ta,.ref (v.R s),rfl,?_,_,rfl,v.R s,.ref (v.L s g),rfl,?_,q⟩
  .have:=DGet.k (k:=.inl s) hta;rw[cu,er]at this;exact this
  .have:=DGet.k (k:=.inl g) hrow;rw[cu,eg]at this;exact this
 .have s1:Same H (upd H l1 (.lst ((aP l).map .int))):=au hl1;refine⟨l1,rfl,⟨_,SqL.of ah⟩,D0 (s:=s) (g:=g) (caps:=caps) (ks:=aP l) (σ:=[some (.ref f.A.o),some (.ref la),some (.int s),some (.int g)]) (by rw[hcap];rfl) hg he ah (by lia) fun Dl ws H2 hD s2 hD2 a2=>?_⟩;have s12:=s1.trans s2;refine⟨la,Dl,vs,ws,rfl,rfl,s12 _ _ hv,hD2,Nd (o_ (by rw[<- av.len,<- a2.len,Me];exact hln)),?_⟩;have k3:KT H2 (upd H2 la (.lst (vs++ws))):=.upd (s12 _ _ hv) fun _ z=>(nomatch z);refine k _ (fun c u e n=>by rw[aA n];exact s12 _ _ e) ⟨_,ah,?_⟩;have a1:=av.mono (IsArr.keep ((KT.of s12).trans k3));have a3:=a2.mono (IsArr.keep k3);generalize upd H2 la (.lst (vs++ws))=H9 at a1 a3;clear av a2 hln k hv k3;induction a1 with
  |nil=>exact a3
  |cons h _ ih=>exact .cons h ih
theorem uE {β:Type}{d:List (Int×β)}{k:Int}(h:k∈aP (d.map (·.1))):∃ x,Sp.get d k=some x:=by
 rw[gG]at h;cases e:Sp.get d k with
 |none=>exact(Sp.get_none e h).elim
 |some x=>exact⟨x,rfl⟩
theorem K5 (T:gz X.K f.C)(P:aQ f Z B H0 S v col)(z:∀ t,¬ Z.z t)(sm:Small S)(hcap:caps=[2,3])(hg:∀ cl C s3 H3 fp,PG (aU X scope (wx++capN) cl C s3 H3 fp) tg (aE 0))(he:∀ cl C s3 H3 fp,PE (aU X scope (wx++capN) cl C s3 H3 fp) elt (cD (ag (aj 1) (ag (aj 2) (ag (aj 0) aF)))))
 (er:Sp.get S.tb s=some r) (n0:H0 la=none) (kp:Kp la H0 H) (L:Lst la H pre) (hln:pre.length+((aP (r.map (·.1))).flatMap fun g=>(aP (Sp.leaf S.tb s g)).map fun t=>((s,g,t):Sp.Arr)).length<15000000) (hs:∃ y,σ=[some (.ref f.A.o),some (.ref la),some (.int s),y])
   (k:∀ σ' H',Ii f la σ'->Kp la H H'->Lst la H' (pre++(aP (r.map (·.1))).flatMap fun g=>(aP (Sp.leaf S.tb s g)).map fun t=>((s,g,t):Sp.Arr))->D.nx σ' H'):D1 X.K (yD X scope tg elt capN caps) D σ H:=by
  have ks:∀{c u},H0 c=some u->H c=some u:=fun{c u} e=>kp c u e (aB e n0);have ho:=ks (P.k.at (t:=.o) rfl (z _));have hta:=ks (P.k.at (t:=.ta) rfl (z _));have hrow:=ks (P.k.at (t:=.row s) (a:=v.R s) (u:=.dK (cf r (v.L s))) (by show(Sp.get S.tb s).map _=_;rw[er];rfl) (z _));have e0:Sp.row S.tb s=r:=by unfold Sp.row;rw[er];rfl
  delta D1 dJ b8
  dsimp only;refine oP (ta:=ij (qC X.K) (aj 2)) (d:=v.R s) (fun Q q=>?_) (.inl rfl) hrow (qA r _) (by rw[Me,<- e0];exact sm.r s) fun l1 hl1=>?_
  .have h0:σ[0]?=some (some (.ref f.A.o)):=by obtain⟨_,rfl⟩:=hs;rfl
   have h2:σ[2]?=some (some (.int s)):=by obtain⟨_,rfl⟩:=hs;rfl
   delta ij qC
   refine Reads.fld (.va h0) ⟨f.dx,ho⟩ T.cl T.n3 (v:=.ref f.A.ta) rfl _ ⟨_,h2,f.A.ta,.ref (v.R s),rfl,?_,q⟩;have:=DGet.k (k:=.inl s) hta;rw[cu,er]at this;exact this
  .have s1:Same H (upd H l1 (.lst ((aP (r.map (·.1))).map .int))):=au hl1;have nl:l1≠la:=fun e=>by obtain⟨vs,hv,_⟩:=L;rw[<- e,hl1]at hv;cases hv
   refine⟨l1,rfl,⟨_,SqL.of ah⟩,b9 (K:=X.K) (a:=l1) (xs:=(aP (r.map (·.1))).map .int) (fun i σ' H'=>(∃ y,σ'=[some (.ref f.A.o),some (.ref la),some (.int s),y])/\Kp la (upd H l1 (.lst ((aP (r.map (·.1))).map .int))) H'/\Lst la H' (pre++((aP (r.map (·.1))).take i).flatMap fun g=>(aP (Sp.leaf S.tb s g)).map fun t=>((s,g,t):Sp.Arr))) ⟨hs,fun c u e _=>e,by simpa using L.more s1⟩ (fun i σ' H' _ p=>SqL.of (p.2.1 _ _ ah nl)) (fun i x σ' H' hi p=>?_) fun σ' H' p=>?_⟩
   .obtain⟨⟨y,rfl⟩,kp',L'⟩:=p;rw[ME]at hi;obtain⟨g,hg',rfl⟩:=M5.mp hi;obtain⟨l,eg⟩:=uE (MW hg');have el:Sp.leaf S.tb s g=l:=by unfold Sp.leaf;rw[e0,eg];rfl
    have ft:=uD (h:=fun g=>(aP (Sp.leaf S.tb s g)).map fun t=>((s,g,t):Sp.Arr)) hg';have fl:=yE (l:=aP (r.map (·.1))) (h:=fun g=>(aP (Sp.leaf S.tb s g)).map fun t=>((s,g,t):Sp.Arr)) (i+1);rw[ft,MB,Me,el]at fl;refine K4 (D:={ D with nx:=_,ct:=_,bk:=_ }) T P z hcap hg he er eg (by rw[<- el];exact sm.l s g) n0 (kp.trans ((Kp.of s1).trans kp')) L' (by rw[MB];lia) rfl fun H2 k2' L2=>?_;refine⟨⟨_,rfl⟩,kp'.trans k2',?_⟩;rw[ft,el,<- Mo];exact L2
   .obtain⟨⟨y,rfl⟩,kp',L'⟩:=p;rw[Me,Ng]at L';exact k _ _ ⟨_,_,rfl⟩ ((Kp.of s1).trans kp') L'
theorem K6 (T:gz X.K f.C)(P:aQ f Z B H0 S v col)(z:∀ t,¬ Z.z t)(sm:Small S)(hcap:caps=[2,3])(hg:∀ cl C s3 H3 fp,PG (aU X scope (wx++capN) cl C s3 H3 fp) tg (aE 0))(he:∀ cl C s3 H3 fp,PE (aU X scope (wx++capN) cl C s3 H3 fp) elt (cD (ag (aj 1) (ag (aj 2) (ag (aj 0) aF)))))
 (n0:H0 la=none) (kp:Kp la H0 H) (L:Lst la H []) (hln:(Sp.outs aP S).length<15000000) (hs:Ii f la σ)
 (k:∀ σ' H',Ii f la σ'->Kp la H H'->Lst la H' (Sp.outs aP S)->D.nx σ' H'):D2 X.K (yD X scope tg elt capN caps) D σ H:=by
 have ks:∀{c u},H0 c=some u->H c=some u:=fun{c u} e=>kp c u e (aB e n0);have ho:=ks (P.k.at (t:=.o) rfl (z _));have hta:=ks (P.k.at (t:=.ta) rfl (z _));have h0:σ[0]?=some (some (.ref f.A.o)):=by obtain⟨_,_,rfl⟩:=hs;rfl
 delta D2 dJ b8
 dsimp only;refine oP (ta:=qC X.K) (d:=f.A.ta) (fun Q q=>Reads.fld (.va h0) ⟨f.dx,ho⟩ T.cl T.n3 (v:=.ref f.A.ta) rfl _ q) (.inl rfl) hta (qA S.tb _) (by rw[Me];exact sm.t) fun l1 hl1=>?_;have s1:Same H (upd H l1 (.lst ((aP (S.tb.map (·.1))).map .int))):=au hl1;have nl:l1≠la:=fun e=>by obtain⟨vs,hv,_⟩:=L;rw[<- e,hl1]at hv;cases hv
 unfold Sp.outs at hln k;refine⟨l1,rfl,⟨_,SqL.of ah⟩,b9 (K:=X.K) (a:=l1) (xs:=(aP (S.tb.map (·.1))).map .int) (fun i σ' H'=>Ii f la σ'/\Kp la (upd H l1 (.lst ((aP (S.tb.map (·.1))).map .int))) H'/\Lst la H' (((aP (S.tb.map (·.1))).take i).flatMap fun s=>(aP ((Sp.row S.tb s).map (·.1))).flatMap fun g=>(aP (Sp.leaf S.tb s g)).map fun t=>((s,g,t):Sp.Arr))) ⟨hs,fun c u e _=>e,by simpa using L.more s1⟩ (fun i σ' H' _ p=>SqL.of (p.2.1 _ _ ah nl)) (fun i x σ' H' hi p=>?_) fun σ' H' p=>?_⟩
 .obtain⟨⟨x2,x3,rfl⟩,kp',L'⟩:=p;rw[ME]at hi;obtain⟨s,hs',rfl⟩:=M5.mp hi;obtain⟨r,er⟩:=uE (MW hs');have e0:Sp.row S.tb s=r:=by unfold Sp.row;rw[er];rfl
  have ft:=uD (h:=fun s=>(aP ((Sp.row S.tb s).map (·.1))).flatMap fun g=>(aP (Sp.leaf S.tb s g)).map fun t=>((s,g,t):Sp.Arr)) hs';have fl:=yE (l:=aP (S.tb.map (·.1))) (h:=fun s=>(aP ((Sp.row S.tb s).map (·.1))).flatMap fun g=>(aP (Sp.leaf S.tb s g)).map fun t=>((s,g,t):Sp.Arr)) (i+1);rw[ft,MB,e0]at fl;refine K5 (D:={ D with nx:=_,ct:=_,bk:=_ }) T P z sm hcap hg he er n0 (kp.trans ((Kp.of s1).trans kp')) L' (by lia) ⟨_,rfl⟩ fun σ2 H2 h2 k2' L2=>?_;refine⟨h2,kp'.trans k2',?_⟩;rw[ft,e0];exact L2
 .obtain⟨hs',kp',L'⟩:=p;rw[Me,Ng]at L';exact k _ _ hs' ((Kp.of s1).trans kp') L'
theorem vS (T:gz X.K C)(hcap:caps=[2,3])(hg:∀ cl C s3 H3 fp,PG (aU X scope (wx++capN) cl C s3 H3 fp) tg (aE 0))(he:∀ cl C s3 H3 fp,PE (aU X scope (wx++capN) cl C s3 H3 fp) elt (cD (ag (aj 1) (ag (aj 2) (ag (aj 0) aF)))))(h:lM C vs H Q E) :
 Gx X scope tg elt capN caps (eQ Q) (start (nS 4) vs) H:=by
 obtain @⟨f,Z,B,H,S,Q,E,rfl,⟨v,col,P⟩,z,sm,ln,k⟩:=h;refine⟨ML _,fun la hla=>?_⟩;have s1:Same H (upd H la (.lst [])):=au hla;refine K6 (D:={ nx:=D5 X.K _,rt:=Q }) T P z sm hcap hg he hla (Kp.of s1) ⟨[],ah,.nil⟩ ln ⟨none,none,rfl⟩ fun σ' H' ⟨x,y,hs⟩ kp L=>?_;subst hs;obtain⟨vs,hv,av⟩:=L;have s2:Same H H':=fun c u e=>kp c u (s1 _ _ e) (aB e hla);have P2:=P.more s2;have hm:=P2.k.at (t:=.mi) rfl (z _);have hen:=P2.k.at (t:=.en) rfl (z _);have el:(lQ S.mi).length=S.mi.length:=by unfold lQ;simp
 delta D5 cV cD ag
 dsimp only;refine Reads.add (P2.fld (z _) T.cl T.n2 (x:=.int f.n) rfl rfl) (j:=(lQ S.mi).length) (fun Q q=>?_) _ ⟨_,rfl,?_⟩
 .exact P2.fld (z _) T.cl T.n6 (x:=.ref f.A.mi) rfl rfl _ ⟨f.A.mi,lQ S.mi,rfl,.inl (.inl hm),q⟩
 .refine oP (d:=f.A.en) (u:=v.ue) (kvs:=kvB S.en) (P2.fld (z _) T.cl T.n4 (x:=.ref f.A.en) rfl rfl) (P2.e.imp id fun q=>⟨q.2,by rw[q.1];rfl⟩) hen (qB _) sm.e fun le hle=>?_;have s3:Same H' (upd H' le (.lst ((aP S.en).map .int))):=au hle;refine⟨by show 3<=sizeLine;decide,fun a ha=>?_⟩;have s4:=au (o:=.tup [.int (f.n+(lQ S.mi).length),.ref la,.ref le]) ha;refine k a la le vs _ (s2.trans (s3.trans s4)) (by rw[ah,el]) hla (s4 _ _ (s3 _ _ hv)) (av.mono (IsArr.keep (.of (s3.trans s4)))) (s2.free hle) (s4 _ _ ah) fun e=>?_;rw[e,hle]at hv;cases hv
end
end L4
namespace Sp
def byOne (d:RS)(r:Rule):RS:=put d (r.1,r.2.1) (addR ((get d (r.1,r.2.1)).getD []) r)
theorem yF {κ β:Type}[DecidableEq κ](d:List (κ×β))(k:κ)(v:β):(put d k v).length<=d.length+1:=by unfold put;split<;>simp
theorem by_len:∀(RL:List Rule)(d:RS)(m:Nat),d.length<=m->(∀ k,((get d k).getD []).length<=m)->(RL.foldl byOne d).length<=m+RL.length/\∀ k,((get (RL.foldl byOne d) k).getD []).length<=m+RL.length
 | [],d,m,h1,h2=>⟨h1,h2⟩
 |r::RL,d,m,h1,h2=>by
  have h3:=by_len RL (byOne d r) (m+1) (Mq (yF ..) (by lia)) fun k=>by
   show((get (put d _ _) k).getD []).length<=_;rw[get_put];split
   .rename_i e;have:=h2 (r.1,r.2.1);show(addR _ r).length<=_;unfold addR;split
    .lia
    .rw[MB,Ny];lia
   .have:=h2 k;lia
  rw[PN,Nl];exact⟨by lia,fun k=>by have:=h3.2 k;lia⟩
end Sp
namespace L4
open PySem PySem.Spec PyProof.Rows L2 L3
section
theorem Core.take (h:Core B H Z col cs)(s:Same H H')(n:H a=none)(e:H' a=some u)(z:¬ Z.z t)(h0:cs' t=some (a,u))(hs:∀ s,s≠t->cs' s=cs s):∃ col',Core B H' Z col' cs':=by
 classical
 refine⟨fun c=>if c=a then some t else col c,h.same.trans s,fun q b v eq=>?_,fun s q=>by rw[hs s fun y=>z (y▸q)];exact h.l s q⟩;by_cases st:q=t
 .subst st;rw[h0]at eq;cases eq;exact⟨Mh rfl,fun _=>⟨e,h.same.free n⟩,fun y=>(z y).elim⟩
 .rw[hs q st]at eq;obtain⟨x,y,w⟩:=h.c q b v eq;have nb:b≠a:=fun e=>by subst e;exact h.there eq n
  exact⟨by rw[Mj nb];exact x,fun k=>⟨s _ _ (y k).1,(y k).2⟩,w⟩
theorem Core.adopt (h:Core G H Z col cs)(hz:∀ t,¬ Z.z t)(s:Same B G)(n:B a=none)(g:G a=some u)(h0:cs' t=some (a,u))(hs:∀ s,s≠t->cs' s=cs s):∃ col',Core B H Z col' cs':=by
 classical
 refine⟨fun c=>if c=a then some t else col c,s.trans h.same,fun q b v eq=>?_,fun s q=>(hz s q).elim⟩;by_cases st:q=t
 .subst st;rw[h0]at eq;cases eq;exact⟨Mh rfl,fun _=>⟨h.same _ _ g,n⟩,fun y=>(hz _ y).elim⟩
 .rw[hs q st]at eq;obtain⟨x,y,w⟩:=h.c q b v eq;have nb:b≠a:=fun e=>by have:=(y (hz _)).2;rw[e,g]at this;cases this
  exact⟨by rw[Mj nb];exact x,fun k=>⟨(y k).1,s.free (y k).2⟩,fun y=>(hz _ y).elim⟩
end
noncomputable def Z0:Ln Tag:=⟨fun _=>False,fun _=>none⟩
theorem z0:∀ t,¬ Z0.z t:=fun _ h=>h
def wy (ar:Addr)(rs:Sp.RS)(RA:Int×Int->Addr)(xs:Int×Int->NX):Tag->Option (Addr×HO)
 | .ru=>some (ar,.dT (qw rs RA))
 | .rl k=>(Sp.get rs k).map fun _=>(RA k,.ext (fZ (RA k) (xs k)))
 |_=>none
noncomputable def fT (r:Sp.Rule):List K0:=[.inl r.1,.inl r.2.1,.inl r.2.2.1,.inr r.2.2.2]
theorem vT (h:fT r=fT r'):r=r':=by
 obtain⟨a,b,c,d⟩:=r;obtain⟨a',b',c',d'⟩:=r';unfold fT at h
 grind
theorem qD (h:IsRule H r (.ref b)):oB H (fT r) b:=by obtain⟨p,q,e,h1,h2⟩:=h;cases e;exact⟨_,h1,_,rfl,_,rfl,_,rfl,q,_,rfl,h2,rfl⟩
def Je (B:Hp)(rs:Sp.RS)(RA:Int×Int->Addr)(xs:Int×Int->NX):Prop:=∀ k rl,Sp.get rs k=some rl->(RA k==sysModules)=false/\a_ (fun r x=>x.1=fT r/\IsRule B r (.ref x.2.1)) rl (xs k)
structure wt (B0 B H:Hp) (ar:Addr) (rs:Sp.RS) (RA:Int×Int->Addr) (xs:Int×Int->NX) (col:Addr->Option Tag):Prop where
 k:Core B H Z0 col (wy ar rs RA xs)
 ok:Je B0 rs RA xs
 s0:Same B0 B
section
variable {K:QQ}{B0 B H:Hp}{ar:Addr}{rs:Sp.RS}{RA:Int×Int->Addr}{xs:Int×Int->NX}{col:Addr->Option Tag}{D:Ends}{σ:L2.St}{Q:VK}{E:XK}{k:Int×Int}{r:Sp.Rule}{rl:List Sp.Rule}{c p:Addr}
noncomputable def lA {β:Type}(R:Int×Int->β)(k:Int×Int)(p:β):Int×Int->β:=fun u=>if u=k then p else R u
theorem Bu (e:Sp.get rs k=none):qw (rs++[(k,[])]) (lA RA k p)=qw rs RA++[(k2 k,.ref p)]:=by
 have hn:∀ z∈rs,¬ z.1=k:=fun z hz e'=>Sp.get_none e (Md.mpr ⟨z,hz,e'⟩);unfold qw lA;rw[M8];congr 1
 .exact M0 fun z hz=>by rw[Mj (hn z hz)]
 .simp
theorem Bv (h:(Sp.get rs k).isSome):qw (Sp.put rs k x) RA=qw rs RA:=by unfold Sp.put;rw[Mh h];unfold qw;rw[Nf];refine M0 fun z _=>?_;show((k2 (if z.1=k then (z.1,x) else z).1,.ref (RA (if z.1=k then (z.1,x) else z).1)):List bh×V)=_;split<;>rfl
theorem wt.new (h:wt B0 B H ar rs RA xs col)(e:Sp.get rs k=none)(hp:H p=none)(hs:(p==sysModules)=false):∃ col',wt B0 B (upd (upd H p (.ext (fZ p []))) ar (.dT (qw rs RA++[(k2 k,.ref p)]))) ar (rs++[(k,[])]) (lA RA k p) (lA xs k []) col':=by
 obtain⟨col',c1⟩:=h.k.new (t:=.rl k) (u':=.ext (fZ p [])) (a:=p) hp (z0 _) (cs':=fun q=>match q with
  | .rl u=>if u=k then some (p,.ext (fZ p [])) else wy ar rs RA xs (.rl u)
  |q=>wy ar rs RA xs q) (Mh rfl) (fun q hq=>by
   cases q with
   |rl u=>exact Mj fun z=>hq (by rw[z])
   |_=>rfl)
 refine⟨col',c1.put (t:=.ru) (a:=ar) (u:=.dT (qw rs RA)) rfl (z0 _) (by show some (ar,HO.dT (qw (rs++[(k,[])]) (lA RA k p)))=_;rw[Bu e]) (fun q hq=>?_),fun j rl hj=>?_,?_⟩
 .cases q with
  |ru=>exact(hq rfl).elim
  |rl u=>
   show(Sp.get (rs++[(k,[])]) u).map _=if u=k then some (p,.ext (fZ p [])) else (Sp.get rs u).map fun _=>(RA u,HO.ext (fZ (RA u) (xs u)));rw[bN e];by_cases z:u=k
   .rw[Mh z,Mh z];show some (lA RA k p u,HO.ext (fZ (lA RA k p u) (lA xs k [] u)))=_;unfold lA;rw[Mh z,Mh z]
   .rw[Mj z,Mj z];show(Sp.get rs u).map (fun _=>(lA RA k p u,HO.ext (fZ (lA RA k p u) (lA xs k [] u))))=_;unfold lA;rw[Mj z,Mj z]
  |_=>rfl
 .rw[bN e]at hj;unfold lA;by_cases z:j=k
  .rw[Mh z]at hj;cases hj;rw[Mh z,Mh z];exact⟨hs,.nil⟩
  .rw[Mj z]at hj;rw[Mj z,Mj z];exact h.ok j rl hj
 .exact h.s0
theorem yG:∀{rl:List Sp.Rule}{xs:NX},a_ (fun r x=>x.1=fT r/\IsRule B r (.ref x.2.1)) rl xs->vy (xs.map (·.1)) (fT r)=decide (r∈rl):=by
 intro rl xs h;induction h with
 |nil=>rfl
 | @cons y x rl xs h _ ih=>
  unfold vy at ih ⊢;rw[MC,OJ,ih,h.1];by_cases e:y=r
  .subst e;simp
  .rw[My fun z=>e (vT z)];simp[Ol e]
theorem wt.add (h:wt B0 B H ar rs RA xs col)(e:Sp.get rs k=some rl)(hr:IsRule B0 r (.ref c))(w:QS):wt B0 B (upd H (RA k) (.ext (fZ (RA k) (qj (xs k) (fT r) c w)))) ar (Sp.put rs k (Sp.addR rl r)) RA (lA xs k (qj (xs k) (fT r) c w)) col:=by
 obtain⟨h1,h2⟩:=h.ok k rl e;have hc:wy ar rs RA xs (.rl k)=some (RA k,.ext (fZ (RA k) (xs k))):=by show(Sp.get rs k).map _=_;rw[e];rfl
 refine⟨h.k.put hc (z0 _) (by show(Sp.get (Sp.put rs k _) k).map (fun _=>(RA k,HO.ext (fZ (RA k) (lA xs k _ k))))=_;rw[Sp.get_put,Mh rfl];unfold lA;rw[Mh rfl];rfl) (fun q hq=>?_),fun j rl' hj=>?_,h.s0⟩
 .cases q with
  |ru=>show some (ar,HO.dT (qw (Sp.put rs k _) RA))=some (ar,HO.dT (qw rs RA));rw[Bv (by rw[e];rfl)]
  |rl u=>have z:u≠k:=fun z=>hq (by rw[z]);show(Sp.get (Sp.put rs k _) u).map (fun _=>(RA u,HO.ext (fZ (RA u) (lA xs k _ u))))=(Sp.get rs u).map fun _=>(RA u,HO.ext (fZ (RA u) (xs u)));rw[Sp.get_put,Mj z];unfold lA;rw[Mj z]
  |_=>rfl
 .rw[Sp.get_put]at hj;unfold lA;by_cases z:j=k
  .rw[Mh z]at hj;cases hj;rw[Mh z,z];refine⟨h1,?_⟩;unfold qj Sp.addR;rw[yG h2];by_cases y:r∈rl
   .rw[Mp y,Mh rfl,Mh y];have:=a_.J2 (T:=fun r x=>x.1=fT r/\IsRule B0 r (.ref x.2.1)) id (fun x:List K0×Addr×QS=>if x.1=fT r then (x.1,x.2.1,w) else x) (fun r' x q=>by dsimp only[id];split<;>exact q) h2;rw[List.map_id]at this;exact this
   .rw[My y,Mj y,Mj MF];exact h2.snoc ⟨rfl,hr⟩
  .rw[Mj z]at hj;rw[Mj z];exact h.ok j rl' hj
inductive lP:Sp
 |mk {c q:Addr} {x y z:V} {H:Hp} {Q:VK} {E:XK} (hc:H c=some (.tup [x,y,z,.ref q])) (k:∀ p,H p=none->Q (.ref p) (upd H p (.tup [x,y]))):lP [.ref c] H Q E
theorem sN (h:lP vs H Q E):vs.length=1:=by cases h;rfl
def Gy (K:QQ):TS:=cV (cD (ag (tI K 0 0) (ag (tI K 0 1) aF)))
theorem vU (h:lP vs H Q E):Gy K (eQ Q) (start (nS 1) vs) H:=by obtain⟨hc,k⟩:=h;exact mj (.c (.ix (.va rfl) hc rfl) (.c (.ix (.va rfl) hc rfl) .ni)) rfl k
inductive zI:Sp
 |mk {RL:List Sp.Rule} {p l:Addr} {ws:List V} {H:Hp} {Q:VK} {E:XK} {B0:Hp} (s0:Same B0 H) (G:gM B0 RL p l ws) (bJ:RL.length<15000000) (k:∀ ar RA xs col H',wt B0 H H' ar (Sp.byHead RL) RA xs col->Q (.ref ar) H'):zI [.ref p] H Q E
theorem yH (h:zI vs H Q E):vs.length=1:=by cases h;rfl
def Gz (K:QQ):TS:=Cm (wu K "dict" sC (aj 1) (ag (cn lP [] E0 (ag (aj 2) aF)) (ag sG aF))) (aj 2) (tC (.bl true))
def Jf (K:QQ):TS:=aN (dJ (b8 K (tI K 0 2)) (aE 2) (Gz K)) (cV (aj 1))
def K7 (K:QQ):TS:=aN (bq nW (aE 1)) (Jf K)
theorem K8 (P:wt B0 B H ar rs RA xs col)(hr:IsRule B0 r (.ref c))(l1:rs.length<15000000)(l2:∀ k,((Sp.get rs k).getD []).length<15000000)(hs:σ=[some (.ref p0),some (.ref ar),some (.ref c)])(k:∀ RA' xs' col' H',wt B0 B H' ar (Sp.byOne rs r) RA' xs' col'->D.nx σ H'):Gz K D σ H:=by
 subst hs;obtain⟨_,q,e,hc,hq⟩:=IsRule.keep (.of (P.s0.trans P.k.same)) _ _ hr;cases e;have har:=P.k.at (t:=.ru) rfl (z0 _);refine⟨_,rfl,.inr (.inr (.inl ⟨rfl,.inr ⟨_,har⟩⟩)),_,rfl,.mk hc fun b hb p hp hne=>?_⟩;have s1:Same H (upd H b (.tup [.int r.1,.int r.2.1])):=au hb;have s2:=s1.trans (au (o:=.ext (fZ p [])) hp);refine⟨ar,b,k2 (r.1,r.2.1),.ref p,qw rs RA,rfl,rfl,au hp _ _ ah,.inl (s2 _ _ har),o_ (by unfold qw;rw[Me];exact l1),?_⟩;rw[oO];have fin:∀{rs RA xs col H4},wt B0 B H4 ar rs RA xs col->∀{rl},Sp.get rs (r.1,r.2.1)=some rl->rl.length<15000000->(∀ H5 xs5,wt B0 B H5 ar (Sp.put rs (r.1,r.2.1) (Sp.addR rl r)) RA xs5 col->D.nx [some (.ref p0),some (.ref ar),some (.ref c)] H5)->
  ∃ y,([some (.ref p0),some (.ref ar),some (.ref c)]:L2.St)[2]?=some (some y)/\∃ a b xs k,V.ref (RA (r.1,r.2.1))=.ref a/\y=.ref b/\H4 a=some (.ext (fZ a xs))/\xs.length<=sizeLine/\(∀ x∈xs,oB H4 x.1 x.2.1)/\oB H4 k b/\∀ w,D.nx [some (.ref p0),some (.ref ar),some (.ref c)] (upd H4 a (.ext (fZ a (qj xs k b w)))):=fun{rs RA xs col H4} P4 {rl} e hl k4=>by
  obtain⟨h1,h2⟩:=P4.ok _ _ e;have kb:KT B0 H4:=.of (P4.s0.trans P4.k.same);refine⟨_,rfl,RA (r.1,r.2.1),c,xs (r.1,r.2.1),fT r,rfl,rfl,P4.k.at (t:=.rl (r.1,r.2.1)) (by show(Sp.get rs _).map _=_;rw[e];rfl) (z0 _),Nd (o_ (by rw[<- h2.len];exact hl)),fun x hx=>?_,qD (IsRule.keep kb _ _ hr),fun w=>k4 _ _ (P4.add e hr w)⟩;obtain⟨i,hi⟩:=MJ.mp hx;obtain⟨r',_,hr'⟩:=h2.get hi;rw[hr'.1];exact qD (IsRule.keep kb _ _ hr'.2)
 unfold Sp.byOne at k;cases e:Sp.get rs (r.1,r.2.1) with
 |some rl=>rw[e]at k;refine .inl ⟨_,rfl,?_⟩;have hl:=l2 (r.1,r.2.1);rw[e]at hl;exact fin ⟨P.k.more s2,P.ok,P.s0⟩ e hl fun H5 xs5 P5=>k _ _ _ _ P5
 |none=>rw[e]at k;refine .inr ⟨rfl,?_⟩;rw[eU _ (by rw[oO,e];rfl)];obtain⟨col',P1⟩:=wt.new (k:=(r.1,r.2.1)) ⟨P.k.more s1,P.ok,P.s0⟩ e hp hne;have:=fin P1 (rl:=[]) ((bN e _ _).trans (Mh rfl)) (by decide) fun H5 xs5 P5=>k _ _ _ _ (by rw[iU e]at P5;exact P5);unfold lA at this;rw[Mh rfl]at this;exact this
theorem Bw (h:zI vs H Q E):K7 K (eQ Q) (start (nS 3) vs) H:=by
 obtain @⟨RL,p,l,ws,H,Q,E,B0,s0,G,bJ,k⟩:=h;intro ar har;have s1:Same H (upd H ar (.dT [])):=au har;obtain⟨w0,w1,hp⟩:=(G.same (s0.trans s1)).tup;have lens:∀ i,((RL.take i).foldl Sp.byOne []).length<15000000/\∀ k,((Sp.get ((RL.take i).foldl Sp.byOne []) k).getD []).length<15000000:=fun i=>by obtain⟨a,b⟩:=Sp.by_len (RL.take i) [] 0 (Mc _) (fun k=>Mc _);have h1:=List.length_take_le' i RL;exact⟨by lia,fun k=>by have:=b k;lia⟩
 obtain⟨col0,c0⟩:=Core.new (B:=H) (H:=H) (Z:=Z0) (col:=fun _=>(none:Option Tag)) (cs:=fun _=>none) (a:=ar) (t:=.ru) (u':=.dT []) ⟨fun _ _ e=>e,fun _ _ _ e=>(nomatch e),fun _ h=>h.elim⟩ har (z0 _) (cs':=wy ar [] (fun _=>0) fun _=>[]) rfl (fun q hq=>by cases q<;>first|rfl|exact(hq rfl).elim);refine ce (Reads.ix (.va (i:=0) rfl) hp (v:=.ref l) rfl _ ⟨l,rfl,⟨ws,.inl (bf (s0.trans s1) G.lst)⟩,?_⟩);refine b9 (K:=K) (a:=l) (xs:=ws) (fun i σ' H'=>(∃ x,σ'=[some (.ref p),some (.ref ar),x])/\∃ RA xs col,wt B0 H H' ar ((RL.take i).foldl Sp.byOne []) RA xs col) ⟨⟨none,rfl⟩,_,_,col0,c0,(fun k rl e=>(nomatch e)),s0⟩ (fun i σ' H' _ q=>?_) (fun i v σ' H' hi q=>?_) fun σ' H' q=>?_
 .obtain⟨_,RA,xs,col,P⟩:=q;exact .inl (bf (s0.trans P.k.same) G.lst)
 .obtain⟨⟨x,rfl⟩,RA,xs,col,P⟩:=q;obtain⟨r,hr,ir⟩:=G.its.get hi;obtain⟨c,q,rfl,hc,hq⟩:=ir;refine K8 P ⟨c,q,rfl,hc,hq⟩ (lens i).1 (lens i).2 rfl fun RA' xs' col' H2 P2=>⟨⟨_,rfl⟩,RA',xs',col',?_⟩;rw[NF,hr,P9];exact P2
 .obtain⟨⟨x,rfl⟩,RA,xs,col,P⟩:=q;rw[<- G.its.len,Ng]at P;exact⟨_,rfl,k ar RA xs col H' P⟩
end
def Fj (l:List Int):D:=.qZ (l.map ik) (l.map fun _=>.bl true)
def yI (o:Addr)(u:HO)(x1 x2 x3 x4 x5:Option (Addr×HO))(b:Tag->Option (Addr×HO)):Tag->Option (Addr×HO)
 | .o=>some (o,u)
 | .ta=>x1
 | .en=>x2
 | .fo=>x3
 | .mi=>x4
 | .du=>x5
 | .ru=>b .ru
 | .rl k=>b (.rl k)
 |_=>none
section
variable {K:QQ}{C:Addr}{mg:Str->Option QS}{Fm:List D->Res R}{B H:Hp}{Q:VK}{E:XK}{σ:L2.St}
inductive iY (C:Addr) (Fm:List D->Res R):Sp
 |mk {B H:Hp} {RL:List Sp.Rule} {o dx p l q le:Addr} {ws:List V} {n:Int} {w1:V} {es:List Int} {Q:VK} {E:XK} (ho:H o=some (.ins C dx [])) (sb:Same B H) (nb:B o=none) (G:gM B RL p l ws) (bJ:RL.length<15000000) (hq:B q=some (.tup [.int n,w1,.ref le])) (hle:Rd B le (.lst (es.map .int))) (hF:Fm [.lst (es.map .int)]=.ok (.wk (Fj (Sp.marked es))))
  (k:∀ f H',f.A.o=o->f.C=C->f.n=n->f.rs=Sp.byHead RL->yB f B->SAt f Z0 B H' (Sp.start es)->Q .bS H'):iY C Fm [.ref o,.ref p,.ref q] H Q E
theorem qE (h:iY C Fm vs H Q E):vs.length=3:=by cases h;rfl
def Jg (K:QQ):TS:=pF K (aj 0) (wU aF) "due"
def Jh (K:QQ):TS:=aN (pF K (aj 0) nW "mids") (Jg K)
def Ji (K:QQ):TS:=aN (pF K (aj 0) dM "followers") (Jh K)
def Jj (K:QQ) (mg:Str->Option QS) (Fm:List D->Res R):TS:=aN (pF K (aj 0) (cn (vD mg 1 Fm) [] E0 (ag (tI K 2 2) aF)) "ends") (Ji K)
def Jk (K:QQ) (mg:Str->Option QS) (Fm:List D->Res R):TS:=aN (pF K (aj 0) dM "table") (Jj K mg Fm)
def Jl (K:QQ) (mg:Str->Option QS) (Fm:List D->Res R):TS:=aN (pF K (aj 0) (tI K 2 0) "states") (Jk K mg Fm)
def D6 (K:QQ) (mg:Str->Option QS) (Fm:List D->Res R):TS:=aN (pF K (aj 0) (cn zI [] E0 (ag (aj 1) aF)) "rules") (Jl K mg Fm)
section
variable {o dx:Addr}{fs:List (Str×V)}{x1 x2 x3 x4 x5:Option (Addr×HO)}{b:Tag->Option (Addr×HO)}{col:Addr->Option Tag}{fl:Str}{v:V}{N:Ends}{fs':List (Str×V)}
theorem By (c:Core B H Z0 col (yI o (.ins C dx fs) x1 x2 x3 x4 x5 b)):Core B (upd H o (.ins C dx (fU fl v fs))) Z0 col (yI o (.ins C dx (fU fl v fs)) x1 x2 x3 x4 x5 b):=c.put (t:=.o) rfl (z0 _) rfl fun q hq=>by cases q<;>first|rfl|exact(hq rfl).elim
theorem hG (cl:rb K C)(na:NoAttr K C fl)(h0:σ[0]?=some (some (.ref o)))(hz:fs.length<1000)(h:Core B H1 Z0 col (yI o (.ins C dx fs) x1 x2 x3 x4 x5 b))(e:fU fl v fs=fs')(k:∀ H2,Core B H2 Z0 col (yI o (.ins C dx fs') x1 x2 x3 x4 x5 b)->N.nx σ H2) :
 aj 0 σ H1 fun x H2=>∃ a C dx fs,x=.ref a/\H2 a=some (.ins C dx fs)/\rb K C/\NoAttr K C fl/\fs.length<1000/\N.nx σ (upd H2 a (.ins C dx (fU fl v fs))):=
 ⟨_,h0,o,C,dx,fs,rfl,h.at (t:=.o) rfl (z0 _),cl,na,hz,k _ (e▸By h)⟩
end
theorem sO (h:Is H' (nl H H') (Fj l) v):∃ a u,v=.ref a/\H a=none/\H' a=some u/\Kh l u:=by
 obtain⟨a,vs,rfl,⟨sh,n0,mu⟩,all⟩:=h;have nofz:∀ o u,H' a≠some (.bQ o u):=fun o u z=>by obtain⟨uo,q,qm⟩:=mu;rw[z]at q;cases q;exact qm
 rcases sh with⟨kvs,e|⟨o,e⟩,h1,h2⟩|⟨kvs,e|⟨o,e⟩,h1,h2⟩
 .refine⟨a,_,rfl,n0,e,.inl ?_⟩;congr 1;have key:∀(l:List Int)(kvs:List (bh×V))(vs:List V),l.map ik=kvs.map (fun p=>(.inl p.1:DK))->vs=kvs.map Prod.snd->IsAll H' (nl H H') (l.map fun _=>.bl true) vs->kvs=kvB l:=by
   intro l;induction l with
   |nil=>intro kvs vs e _ _;cases kvs with
    |nil=>rfl
    |cons _ _=>cases e
   |cons x l ih=>
    intro kvs vs e e2 al;cases kvs with
    |nil=>cases e
    |cons y kvs=>
     rw[MC,MC]at e;injection e with e3 e4;obtain⟨w,r,rfl,a1,a2⟩:=al;rw[MC]at e2;injection e2 with e5 e6;obtain⟨y1,y2⟩:=y;have:y1=.inl x:=by injection e3 with e3;exact e3.symm
     have:y2=.bl true:=e5.symm.trans a1;subst y1 y2;rw[ih kvs r e4 e6 a2];rfl
  exact key l kvs vs h1 h2 all
 .exact(nofz _ _ e).elim
 .have e0:l=[]:=by
   cases l with
   |nil=>rfl
   |cons x l=>cases kvs with
    |nil=>cases h1
    |cons y kvs=>rw[MC,MC]at h1;injection h1 with h1;cases h1
  subst e0;have:kvs=[]:=by cases kvs with
   |nil=>rfl
   |cons _ _=>cases h1
  subst this;exact⟨a,_,rfl,n0,e,.inr ⟨rfl,rfl⟩⟩
 .exact(nofz _ _ e).elim
theorem sP (T:gz K C)(h:iY C Fm vs H Q E)(hN:N.length=3):D6 K mg Fm (eQ Q) (start N vs) H:=by
 obtain @⟨B,H,RL,o,dx,p,l,q,le,ws,n,w1,es,Q,E,ho,sb,nb,G,bJ,hq,hle,hF,k⟩:=h;refine⟨_,rfl,.mk sb G bJ fun ar RA xs col H1 P1=>?_⟩;obtain⟨col1,c1⟩:=P1.k.adopt (cs':=yI o (.ins C dx []) none none none none none (wy ar (Sp.byHead RL) RA xs)) (t:=.o) z0 sb nb ho rfl (fun q hq=>by cases q<;>first|rfl|exact(hq rfl).elim);have ok:=P1.ok;clear P1;refine hG (fs':=[("rules",.ref ar)]) T.cl T.n1 rfl (by show 0<1000;decide) c1 rfl fun H2 c2=>?_;refine Reads.ix (.va (i:=2) rfl) (c2.same _ _ hq) (v:=.int n) rfl _ (hG (fs':=[("rules",.ref ar),("states",.int n)]) T.cl T.n2 rfl (by show 1<1000;decide) c2 rfl fun H3 c3=>?_);intro ta hta;obtain⟨col3,c3⟩:=c3.new (t:=.ta) hta (z0 _) (u':=.dK []) (cs':=yI o _ (some (ta,.dK [])) none none none none (wy ar (Sp.byHead RL) RA xs)) rfl (fun q hq=>by cases q<;>first|rfl|exact(hq rfl).elim);refine hG (fs':=[("rules",.ref ar),("states",.int n),("table",.ref ta)]) T.cl T.n3 rfl (by show 2<1000;decide) c3 rfl fun H4 c4=>?_;refine Reads.ix (.va (i:=2) rfl) (c4.same _ _ hq) (v:=.ref le) rfl _ ⟨rfl,[.lst (es.map .int)],fun _=>True,⟨_,_,rfl,⟨le,es.map .int,rfl,?_,cW es⟩,rfl⟩,?_⟩
 .exact(bf c4.same hle).imp (fun z=>⟨z,True.intro⟩) fun⟨o,z⟩=>⟨o,z,True.intro⟩
 rw[hF];intro v5 H5 s5 r5;obtain⟨ea,ue,rfl,n5,e5,en⟩:=sO r5;obtain⟨col5,c5⟩:=c4.take (t:=.en) s5 n5 e5 (z0 _) (cs':=yI o _ (some (ta,.dK [])) (some (ea,ue)) none none none (wy ar (Sp.byHead RL) RA xs)) rfl (fun q hq=>by cases q<;>first|rfl|exact(hq rfl).elim);refine hG (fs':=[("rules",.ref ar),("states",.int n),("table",.ref ta),("ends",.ref ea)]) T.cl T.n4 rfl (by show 3<1000;decide) c5 rfl fun H6 c6=>?_;intro fo hfo;obtain⟨col6,c6⟩:=c6.new (t:=.fo) hfo (z0 _) (u':=.dK []) (cs':=yI o _ (some (ta,.dK [])) (some (ea,ue)) (some (fo,.dK [])) none none (wy ar (Sp.byHead RL) RA xs)) rfl (fun q hq=>by cases q<;>first|rfl|exact(hq rfl).elim);refine hG (fs':=[("rules",.ref ar),("states",.int n),("table",.ref ta),("ends",.ref ea),("followers",.ref fo)]) T.cl T.n5 rfl (by show 4<1000;decide) c6 rfl fun H7 c7=>?_;intro mi hmi;obtain⟨col7,c7⟩:=c7.new (t:=.mi) hmi (z0 _) (u':=.dT []) (cs':=yI o _ (some (ta,.dK [])) (some (ea,ue)) (some (fo,.dK [])) (some (mi,.dT [])) none (wy ar (Sp.byHead RL) RA xs)) rfl (fun q hq=>by cases q<;>first|rfl|exact(hq rfl).elim);refine hG (fs':=[("rules",.ref ar),("states",.int n),("table",.ref ta),("ends",.ref ea),("followers",.ref fo),("mids",.ref mi)]) T.cl T.n6 rfl (by show 5<1000;decide) c7 rfl fun H8 c8=>?_;refine⟨ML _,fun du hdu=>?_⟩;obtain⟨col8,c8⟩:=c8.new (t:=.du) hdu (z0 _) (u':=.lst []) (cs':=yI o _ (some (ta,.dK [])) (some (ea,ue)) (some (fo,.dK [])) (some (mi,.dT [])) (some (du,.lst [])) (wy ar (Sp.byHead RL) RA xs)) rfl (fun q hq=>by cases q<;>first|rfl|exact(hq rfl).elim);refine hG (fs':=[("rules",.ref ar),("states",.int n),("table",.ref ta),("ends",.ref ea),("followers",.ref fo),("mids",.ref mi),("due",.ref du)]) T.cl T.n7 rfl (by show 6<1000;decide) c8 rfl fun H9 c9=>?_;refine k ⟨⟨o,ta,ea,fo,mi,du,ar⟩,C,dx,n,Sp.byHead RL,RA,xs⟩ H9 rfl rfl rfl rfl (fun k rl e=>?_) ⟨⟨fun _=>0,fun _ _=>0,fun _=>0,[],ue⟩,col8,?_,.nil,en⟩
 .obtain⟨a,b⟩:=ok k rl e;exact⟨a,b.mono fun r x h=>h.2⟩
 .have e:yI o (.ins C dx (Gq ⟨⟨o,ta,ea,fo,mi,du,ar⟩,C,dx,n,Sp.byHead RL,RA,xs⟩)) (some (ta,.dK [])) (some (ea,ue)) (some (fo,.dK [])) (some (mi,.dT [])) (some (du,.lst [])) (wy ar (Sp.byHead RL) RA xs)=cells ⟨⟨o,ta,ea,fo,mi,du,ar⟩,C,dx,n,Sp.byHead RL,RA,xs⟩ (Sp.start es) ⟨fun _=>0,fun _ _=>0,fun _=>0,[],ue⟩:=by funext q;cases q<;>rfl
  rw[<- e];exact c9
end
end L4
namespace Sp
theorem KT.begun (ts:List Arr)(es:List Int):KT (begun ts es):=by
 have key:∀(ts:List Arr)(S:St),KT S->KT (ts.foldl (fun S a=>Sp.lead S a.1 a.2.1 a.2.2) S):=fun ts=>by
  induction ts with
  |nil=>exact fun _ h=>h
  |cons a ts ih=>exact fun S h=>ih _ (h.lead ..)
 exact key ts _ ⟨by unfold Keys start;simp,fun s=>by unfold Keys start row;simp[get]⟩
end Sp
namespace L4
open PySem PySem.Spec PyProof.Rows L2 L3
def mD (n:Int)(ts:List Sp.Arr)(es:List Int):D:=.tup [.int n,.lst (ts.map eJ),.lst (es.map .int)]
structure Hz (Fm:List D->Res R) (ds:List D) (m:D) (RL:List Sp.Rule) (ts:List Sp.Arr) (es:List Int) (h0 h1:D) (n:Int) (k:Nat) (T:Sp.St):Prop where
 ds:ds=[.tup [h0,h1,.lst (RL.map fR)],mD n ts es]
 len:RL.length<15000000
 fit:Sp.lR (Sp.begun ts es)
 lp:Sp.Loop n (Sp.byHead RL) k (Sp.begun ts es) T
 sm:Small T
 ln:(Sp.outs aP T).length<15000000
 mf:Fm [.lst (es.map .int)]=.ok (.wk (Fj (Sp.marked es)))
 m:m=mD (n+T.mi.length) (Sp.outs aP T) (aP T.en)
def yJ (Fm:List D->Res R)(ds:List D)(m:D):Prop:=∃ RL ts es h0 h1 n k T,Hz Fm ds m RL ts es h0 h1 n k T
open Classical in
noncomputable def zS (Fr Fm:List D->Res R)(ds:List D):Res R:=match Fr ds with
 | .ok _=>if h:∃ m,yJ Fm ds m then .ok (.wk (Classical.choose h)) else .stuck
 | .exc c=>.exc c
 | .stuck=>.stuck
section
variable {K:QQ}{C:Addr}{H:Hp}
def Jm (C:Addr):TS:=aN (cZ (dL C "spread" (gy C) [] E0 (aj 2) aF)) (cV (dL C "machine" (lM C) [] E0 (aj 2) aF))
def Jn (C:Addr):TS:=cZ (dL C "lead" (d6 C) [] E0 (aj 2) (ag (aj 3) (ag (aj 4) (ag (aj 5) aF))))
def GA (K:QQ)(C:Addr):TS:=aN (dJ (b8 K (tI K 1 1)) (wG K 3 (f9 (aE 3) (f9 (aE 4) (f9 (aE 5) wF)))) (Jn C)) (Jm C)
def GB (K:QQ)(mg:Str->Option QS)(Fr Fm:List D->Res R)(C:Addr)(E:XK):TS:=aN (cZ (cn (vD mg 2 Fr) [] E (ag (aj 0) (ag (aj 1) aF)))) (aN (bq (BZ C (iY C Fm) [] E0 (ag (aj 0) (ag (aj 1) aF))) (aE 2)) (GA K C))
def GC (p0 p1:Addr)(f:Fx)(σ:L2.St):Prop:=∃ x y z,σ=[some (.ref p0),some (.ref p1),some (.ref f.A.o),x,y,z]
theorem D7:∀{ts:List Sp.Arr}{vs:List V},a_ (IsArr H) ts vs->IsAll H m (ts.map eJ) vs:=by
 intro ts vs h;induction h with
 |nil=>exact rfl
 |cons q _ ih=>obtain⟨p,rfl,hp⟩:=q;exact⟨_,_,rfl,⟨p,_,rfl,hp,_,_,rfl,rfl,_,_,rfl,rfl,_,_,rfl,rfl,rfl⟩,ih⟩
theorem K9 {es:List Int}{k:Nat}{T:Sp.St}{y0 y2:V}{D:Ends}{σ:L2.St}(ok:yB f B)(hp1:B p1=some (.tup [y0,.ref lm,y2]))(hlm:Rd B lm (.lst wm))(aM:a_ (IsArr B) ts wm)(P:SAt f Z0 B H (Sp.start es))(fit:Sp.lR (Sp.begun ts es))(lp:Sp.Loop f.n f.rs k (Sp.begun ts es) T)(sm:Small T)(ln:(Sp.outs aP T).length<15000000)(hs:GC p0 p1 f σ)
 (kk:∀(a l e:Addr)(vs:List V)(H':Hp),Same B H'->H' a=some (.tup [.int (f.n+T.mi.length),.ref l,.ref e])->B l=none->H' l=some (.lst vs)->a_ (IsArr H') (Sp.outs aP T) vs->B e=none->H' e=some (.lst ((aP T.en).map .int))->D.rt (.ref a) H'):GA K f.C D σ H:=by
 have sm0:∀{H S},SAt f Z0 B H S->Same B H:=fun{H S} ⟨_,_,h⟩=>h.k.same;have h1:σ[1]?=some (some (.ref p1)):=by obtain⟨_,_,_,rfl⟩:=hs;rfl
 refine ce (Reads.ix (.va h1) (sm0 P _ _ hp1) (v:=.ref lm) rfl _ ⟨lm,rfl,⟨wm,.inl (bf (sm0 P) hlm)⟩,?_⟩);refine b9 (K:=K) (a:=lm) (xs:=wm) (fun i σ' H'=>GC p0 p1 f σ'/\SAt f Z0 B H' ((ts.take i).foldl (fun S a=>Sp.lead S a.1 a.2.1 a.2.2) (Sp.start es))) ⟨hs,P⟩ (fun i σ' H' _ q=>.inl (bf (sm0 q.2) hlm)) (fun i v σ' H' hi q=>?_) fun σ' H' q=>?_
 .obtain⟨⟨x,y,z,rfl⟩,P'⟩:=q;obtain⟨a,ha,p,rfl,hp⟩:=aM.get hi;refine KR (sm0 P' _ _ hp) (gI P' ((yC z0).free _) (ff (step:=fun(S:Sp.St)(a:Sp.Arr)=>Sp.lead S a.1 a.2.1 a.2.2) (fun S x=>Sp.lead_grow S x.1 x.2.1 x.2.2) (its:=ts) (S0:=Sp.start es) fit ha) (.va rfl) (.c (.va rfl) (.c (.va rfl) (.c (.va rfl) .ni))) fun H2 _ P2=>⟨⟨_,_,_,rfl⟩,?_⟩);rw[dS ha];exact P2
 .obtain⟨⟨x,y,z,rfl⟩,P'⟩:=q;rw[<- aM.len,Ng]at P';have P':SAt f Z0 B H' (Sp.begun ts es):=P';refine vI (.va rfl) (P'.ins (z0 _)) rfl .ni (.mk rfl ok P' z0 (Sp.KT.begun ts es) lp fun H2 P2=>?_);exact vI (.va rfl) (P2.ins (z0 _)) rfl .ni (.mk rfl P2 z0 sm ln fun a l e vs H3 s3 ha hl hl3 al he he3 _=>kk a l e vs H3 ((sm0 P2).trans s3) ha ((sm0 P2).free hl) hl3 al ((sm0 P2).free he) he3)
theorem vV {mg:Str->Option QS}{Fr Fm:List D->Res R}(h:vD mg 2 (zS Fr Fm) vs H Q E):GB K mg Fr Fm C E (eQ Q) (start (nS 6) vs) H:=by
 obtain⟨hl,ds,Ma,is,post⟩:=h;obtain⟨v0,v1,rfl⟩:=KW hl;refine⟨_,rfl,_,rfl,rfl,ds,Ma,is,?_⟩;unfold zS at post;cases hF:Fr ds with
 |stuck=>rw[hF]at post;exact post
 |exc c=>rw[hF]at post;exact post
 |ok r=>
  rw[hF]at post;dsimp only at post;by_cases hex:∃ m,yJ Fm ds m
  case neg=>rw[dif_neg hex]at post;exact post.elim
  case pos=>
  rw[dif_pos hex]at post;have hch:=Classical.choose_spec hex;generalize Classical.choose hex=m at post hch;obtain⟨RL,ts,es,d0,d1,n,k,T,⟨rfl,bJ,fit,lp,sm,ln,hM,rfl⟩⟩:=hch;intro v H1 s1 _;obtain⟨_,_,ev,⟨p0,_,rfl,hp0,w0,_,rfl,_,w1,_,rfl,_,w2,_,rfl,iw2,rfl⟩,_,_,ev2,⟨p1,_,rfl,hp1,y0,_,rfl,iy0,y1,_,rfl,iy1,y2,_,rfl,iy2,rfl⟩,rfl⟩:=is;cases ev;cases ev2;obtain rfl:y0=.int n:=iy0;obtain⟨l,ws,rfl,hl,iR⟩:=qq iw2;obtain⟨lm,wm,rfl,hlm,iM⟩:=qq iy1;obtain⟨le,we,rfl,hle,iE⟩:=qq iy2;rw[jj iE]at hle;have G:gM H RL p0 l ws:=⟨⟨_,_,hp0⟩,hl,ut (fun x v=>DL) iR⟩;refine⟨_,rfl,_,rfl,fun o dx ho hdx hne=>?_⟩;have s2:Same H (upd (upd H1 dx (.own o)) o (.ins C dx [])):=s1.trans fun b u e=>by rw[aA (aB e ho),aA (aB e hdx)];exact e
  refine .mk ah s2 (s1.free ho) G bJ hp1 hle hM fun f H3 eo eC en er ok P=>⟨rfl,?_⟩;subst eo eC en;rw[<- er]at lp;refine K9 ok hp1 hlm (ut (fun x v=>Cr) iM) P fit lp sm ln ⟨none,none,none,rfl⟩ fun a l e vs H6 s6 ha hl6 hl al he6 he=>?_;have n1:nl H H6 l:=⟨hl6,_,hl,True.intro⟩;have n2:nl H H6 e:=⟨he6,_,he,True.intro⟩;exact post _ H6 s6 ⟨a,_,rfl,ha,_,_,rfl,rfl,_,_,rfl,⟨l,vs,rfl,.inl ⟨hl,n1⟩,D7 al⟩,_,_,rfl,⟨e,_,rfl,.inl ⟨he,n2⟩,cW _⟩,rfl⟩
theorem jk:∀{l m:List Int},l.map D.int=m.map D.int->l=m
 | [],[],_=>rfl
 | [],_::_,e=>nomatch e
 |_::_,[],e=>nomatch e
 |x::l,y::m,e=>by rw[MC,MC]at e;injection e with e1 e2;injection e1 with e1;rw[e1,jk e2]
theorem D8 {Fr Fm:List D->Res R}{h0 h1:D}{n:Int}{k:Nat}{T:Sp.St}{r:R}(w:Hz Fm ds m RL ts es h0 h1 n k T)(hr:Fr ds=.ok r):zS Fr Fm ds=.ok (.wk m):=by have hex:∃ m,yJ Fm ds m:=⟨m,_,_,_,_,_,_,_,_,w⟩;unfold zS;rw[hr];dsimp only;rw[dif_pos hex];have hch:=Classical.choose_spec hex;generalize Classical.choose hex=m' at hch;obtain⟨RL',ts',es',a0,a1,n',k',T',w'⟩:=hch;have e:=w.ds.symm.trans w'.ds;unfold mD at e;injection e with e3 e;injection e3 with e3;injection e3 with _ e3;injection e3 with _ e3;injection e3 with e3 _;injection e3 with e3;injection e with e _;injection e with e;injection e with e4 e;injection e4 with e4;injection e with e5 e;injection e5 with e5;injection e with e6 _;injection e6 with e6;have l:=w'.lp;rw[<- j4 (fun h=>vJ h) e3,<- j4 (fun h=>qr h) e5,<- jk e6,<- e4]at l;have:=w.lp.det l;subst this;rw[w'.m,w.m,e4]
end
end L4
namespace Sp
end Sp
namespace L4
open PySem PySem.Spec PyProof.Rows L2 L3
end L4
namespace L2
open PySem PySem.Spec PySem.Calls PyProof.Rows
end L2
namespace L3
open PySem PySem.Spec PyProof.Rows L2
end L3
namespace L2
open PySem PySem.Spec PySem.Calls PyProof.Rows
abbrev LS:=List (List bh×Addr×QS)
end L2
namespace L3
open PySem PySem.Spec PyProof.Rows L2
end L3
namespace L2
open PySem PySem.Spec PySem.Calls PyProof.Rows
abbrev LU:=St->Hp->(Hp->Prop)->XK->Prop
end L2
namespace L3
open PySem PySem.Spec PyProof.Rows L2
end L3
namespace L2
open PySem PySem.Spec PySem.Calls PyProof.Rows
end L2
namespace L2
open PySem PySem.Spec PySem.Calls PyProof.Rows ST
section
variable {κ μ:Type}
theorem cQ.own (v:cQ ent es its)(un:zR ent its):∃ zs:List (κ×μ),(∀ z∈zs,z∈its)/\(zs.map (·.1)).Nodup/\zs.length=es.size/\(∀ x∈its,∃ y∈zs,y.1=x.1)/\cQ ent es zs:=by
 obtain⟨zs,ez,zm⟩:=kO (ent:=ent) (its:=its) es.toList v.el;have hl:zs.length=es.size:=by have:=MT List.length ez;rw[Me,MR]at this;exact this.symm
 have nd:(zs.map (·.1)).Nodup:=by have pw:=v.pw;rw[ez,MQ]at pw;unfold List.Nodup;rw[MQ];exact N1 (fun{a b} ha hb hab=>hab a b rfl rfl (zm a ha) (zm b hb)) pw
 have al:∀ x∈its,∃ y∈zs,y.1=x.1:=fun x hx=>by obtain⟨y,hy,e1,e2⟩:=v.all x hx;rw[ez]at e2;obtain⟨z,hz,e3⟩:=Md.mp e2;exact⟨z,hz,(un z (zm z hz) y hy e3).trans e1⟩
 refine⟨zs,zm,nd,hl,al,⟨fun e he=>?_,by lia,v.pw.imp fun{a b} h x x' e1 e2 m1 m2=>h x x' e1 e2 (zm x m1) (zm x' m2),fun x hx=>⟨x,hx,rfl,?_⟩⟩⟩
 .rw[ez]at he;obtain⟨z,hz,e⟩:=Md.mp he;exact⟨z,hz,e.symm⟩
 .rw[ez];exact Md.mpr ⟨x,hx,rfl⟩
end
section
def yK (X:Cx):List V->Hp->VK->Prop:=fun xs H Q=>∃ l vs its,xs=[.ref l]/\Rd H l (.lst vs)/\TupsIn H vs its/\vs.length<=300/\∀ p es,H p=none->cQ (eT X.prog X.w) es its->Q (.ref p) (upd H p (.ext fun h=>SetAt X.w h p es))
theorem vW (hc:X.calm=true) (hu:X.A.units+64<cLine):bn X (.type "set") (yK X):=vj hc hu
def yL (X:Cx):List V->Hp->VK->Prop:=fun xs H Q=>∃ p es its,xs=[.ref p]/\H p=some (.ext fun h=>SetAt X.w h p es)/\cQ (eT X.prog X.w) es its/\(∀ x∈its,H x.2=some (.tup ((iK x.1).map kV)))/\(∀ x∈its,x.1≠[])/\(∀ l:List (List Int),l.Nodup->(∀ k∈l,∃ x∈its,x.1=k)->l.length<=63)/\
 ∀ l ys,H l=none->i4 (fun x y=>bE x y=true) its ys->Q (.ref l) (upd H l (.lst (ys.map fun y=>.ref y.2)))
theorem vX (hc:X.calm=true):bn X (.builtin "sorted") (yL X):=by
 intro ac s σ H xs us Q I r h;obtain⟨p,es,its,rfl,hp,v,ht,hne,hz,q⟩:=h;have his:=fun x hx=>cG I.aJ (ht x hx);obtain⟨zs,zm,nd,hl,al,v2⟩:=v.own (Dm his);have Fu:zs.length<=63:=by
  have:=hz (zs.map (·.1)) nd fun k hk=>by obtain⟨z,hz,rfl⟩:=Md.mp hk;exact⟨z,zm z hz,rfl⟩
  rw[Me]at this;exact this
 exact iB hc (N:=63) (by decide) ub ac s σ H _ us Q I r ⟨p,es,zs,rfl,hp,v2,fun x hx=>ht x (zm x hx),fun x hx=>hne x (zm x hx),Fu,fun l ys hl so=>q l ys hl ⟨fun y hy=>zm y (so.sub y hy),fun x hx=>by obtain⟨z,hz,e⟩:=al x hx;obtain⟨y,hy,e2⟩:=so.all z hz;exact⟨y,hy,e2.trans e⟩,so.pw⟩⟩
end
end L2
namespace L4
open PySem PySem.Spec PyProof.Rows L2 L3 ST
noncomputable abbrev lB:=Int×Int
end L4
namespace L4
open PySem PySem.Spec PyProof.Rows L2 L3
noncomputable def hd (r:Sp.Rule):lB:=(r.1,r.2.1)
end L4
namespace L2
open PySem PySem.Spec PySem.Calls PyProof.Rows ST
end L2
namespace L4
open PySem PySem.Spec PyProof.Rows L2 L3
section
variable {X:Cx}{scope:Scope}{tg elt:Expr}{ifs:List Expr}{tN capN:List Str}{caps:List Nat}{σ:L2.St}{H1:Hp}{Fin:Addr->List V->Hp->Prop}{J:L2.It}{n:Nat}{gt:TG}{tt:TT}{te:TE}
theorem jl (hg:∀ cl C s3 H3 fp,PG (aU X scope (tN++capN) cl C s3 H3 fp) tg gt)(ht:∀ cl C s3 H3 fp,DB (aU X scope (tN++capN) cl C s3 H3 fp) ifs tt)(he:∀ cl C s3 H3 fp,PE (aU X scope (tN++capN) cl C s3 H3 fp) elt te)(I:Addr->Nat->List V->Hp->Prop)(p0:∀ Dl,H1 Dl=none->I Dl 0 [] (upd H1 Dl (.lst [])))(hD:∀{Dl i acc H},I Dl i acc H->H Dl=some (.lst acc))
 (hgo:∀ Dl i acc H,I Dl i acc H->i<n->J.go i H) (hst:∀ Dl acc H,I Dl n acc H->J.stop n H)
 (hb:∀ Dl i acc H x H' o,i<n->I Dl i acc H->J.tD i H x H'->o.length=tN.length->gt x (o++gO σ caps) H' fun σ2 H2=>(∀ j:Nat,tN.length<=j->σ2[j]?=(o++gO σ caps)[j]?)/\tt σ2 H2 fun b H3=>if b=true then te σ2 H3 fun y H5=>H5 Dl=some (.lst acc)/\acc.length<sizeLine/\I Dl (i+1) (acc++[y]) (upd H5 Dl (.lst (acc++[y]))) else I Dl (i+1) acc H3)
 (fin:∀ Dl acc H,H1 Dl=none->I Dl n acc H->Fin Dl acc H):cq X scope tg tN capN caps elt ifs σ Fin J H1:=by
 intro Dl hDl cl C s3 fp;refine⟨_,_,_,fun i m acc H'=>m=n-i/\i<=n/\I Dl i acc H',hg cl C s3 _ fp,ht cl C s3 _ fp,he cl C s3 _ fp,⟨n,by simp,ML _,p0 Dl hDl⟩,?_⟩;rintro i m acc H' ⟨rfl,hi,p⟩;refine⟨hD p,?_⟩;by_cases hlt:i<n
 .refine .inr ⟨hgo Dl i acc H' p hlt,fun xv H'' o y ho=>?_⟩;have:=hb Dl i acc H' xv H'' o hlt p y ho;have e2:∀{A:Prop},(∃ m',m'<n-i/\(m'=n-(i+1)/\i+1<=n/\A))↔A:=⟨fun⟨_,_,_,_,a⟩=>a,fun a=>⟨_,by lia,rfl,hlt,a⟩⟩;simp only[e2];exact this
 .have ei:i=n:=by lia
  subst ei;exact .inl ⟨hst Dl acc H' p,fin Dl acc H' hDl p⟩
end
noncomputable def pD (x:lB):D:=.tup [.int x.1,.int x.2]
section
variable {X:Cx}{K:QQ}{H:Hp}{q p d:Addr}{σ:L2.St}{vs:List V}{Q:VK}{m:Addr->Prop}
theorem Kn {x:lB}{v:V}(h:Gn H x v):Is H m (pD x) v:=let ⟨p,e,h⟩:=h;⟨p,_,e,h,_,_,rfl,rfl,_,_,rfl,rfl,rfl⟩
theorem fC {n:Nat}:∀{ds:List D},(∀ d∈ds,d.dep<=n)->D.cE ds<=n
 | [],_=>ML _
 |d::ds,h=>by have h1:=h d Mr;have h2:=fC fun e he=>h e (Ms _ he);show max d.dep (D.cE ds)<=n;lia
def GD (K:QQ):List V->Hp->VK->Prop:=fun xs H Q=>∃ x T t b,xs=[x,.ty T]/\IQ K H x t/\PySem.W.kitOne K t (.type T)=some b/\Q (.bl b) H
theorem dH:bn X (.builtin "isinstance") (GD X.K):=yl
def sQ (K:QQ)(T:String)(te:TE):TE:=eR (GD K) (ag te (ag (tC (.ty T)) aF))
theorem Reads.Fk {te:TE}{T:String}{x:V}{dd:D}(h:Reads te σ H x)(is:IQ K H x (.type dd.ty))(hK:yj T):Reads (sQ K T te) σ H (.bl (Kc T dd)):=fun Q q=>h _ ⟨x,T,_,_,rfl,is,hK K dd,q⟩
def yM (K:QQ):List V->Hp->VK->Prop:=fun xs H Q=>∃(p:Addr)(vs:List V)(bs:List Bool),xs=[.ref p]/\SqL K H p vs/\vs=bs.map V.bl/\Q (.bl (bs.all id)) H
theorem gJ (hc:X.calm=true):bn X (.builtin "all") (yM X.K):=vH hc
def qW:TS:=cV (tC (.bl false))
end
noncomputable abbrev Rw:=Int×List Int
section
variable {K:QQ}{H:Hp}{p:Addr}{σ:L2.St}{k:lB}
theorem Reads.LL (ha:Reads ta σ H (.ref p))(hb:Reads tb σ H (.int i))(h:Rd H p (.lst xs))(e:xs[j]?=some v)(ei:i=(j:Nat)):Reads (bg (C2 K) ta tb) σ H v:=ha.op hb fun _ q=>⟨p,xs,i,v,rfl,rfl,.inl h,by rw[ei];exact fw e,q⟩
theorem Reads.HG (ha:Reads ta σ H (.ref p))(h:Rd H p (.lst xs)):Reads (eR (k_ K) (ag ta aF)) σ H (.int xs.length):=fun _ k=>ha _ ⟨p,xs,rfl,.inl (.inl h),k⟩
def K_:R2:=qT fun i j=>.bl (decide (j<=i))
def Ct:R2:=qT fun i j=>.int (i-j)
end
def lC (K:QQ):List V->Hp->VK->Prop:=fun xs H Q=>∃ p ys,xs=[.ref p]/\(SqL K H p ys\/SqT K H p ys)/\∀ l,H l=none->Q (.ref l) (upd H l (.lst ys))
theorem fD:bn X (.type "list") (lC X.K):=nU
noncomputable abbrev Ko:=List D->Res R
noncomputable abbrev Tr:Addr->Prop:=fun _=>True
def fE (rooms signs:Int)(RL:List Sp.Rule):D:=.tup [.int rooms,.int signs,.lst (RL.map fR)]
structure LZ where
 (Fp Fm Fc L7 LY LX Fh Fb:Ko)
section
variable {H H':Hp}
theorem Kq {m:Addr->Prop}{dd:D}(h:Is H m dd v)(s:Same H H'):Is H' Tr dd v:=Is.mono (fun c u e _=>s c u e) (fun _ _ _ _=>True.intro) h
def GE (tx:TE):TE:=cD (ag (aj 2) (ag (aj 3) (ag tx aF)))
end
theorem GF (h:IsRule H r v):Is H m (fR r) v:=by obtain⟨p,q,rfl,hp,hq⟩:=h;exact⟨p,_,rfl,hp,_,_,rfl,rfl,_,_,rfl,rfl,_,_,rfl,rfl,_,_,rfl,⟨q,_,rfl,hq,cW _⟩,rfl⟩
structure L6 where
 (L8 EU E7:Scope)
 (L9 LN Fy LB Fo LA:Expr)
 (L1 tN capN:List Str)
 (caps:List Nat)
section
def cg:R2:=rI (fun _ j=>0<j) fun i j=>.int (i % j)
def fg:R2:=rI FH fun i j=>.int (i / j)
end
structure uQ (l z:List Int):Prop where
 m:∀ x,x∈z↔x∈l
 p:z.Pairwise (·< ·)
section
variable {H H':Hp}{p:Addr}{ks:List lB}{σ:L2.St}{vs:List V}
def yN (X:Cx):List V->Hp->VK->Prop:=fun vs H Q=>∃ l xs,vs=[.ref l]/\Rd H l (.lst (xs.map V.int))/\xs.length<=300/\∀ p es its,H p=none->its.map (·.1)=xs->cQ (eI X.prog X.w) es its->Q (.ref p) (upd H p (.ext fun h=>SetAt X.w h p es))
theorem sR (hc:X.calm=true):bn X (.type "set") (yN X):=sB hc
def yO (X:Cx):List V->Hp->VK->Prop:=fun vs H Q=>∃ p es its,vs=[.ref p]/\H p=some (.ext fun h=>SetAt X.w h p es)/\cQ (eI X.prog X.w) es its/\its.length<=63/\
 ∀(l:Addr)(ks:List Int),H l=none->(∀ k,k∈ks↔k∈its.map (·.1))->ks.Pairwise (·< ·)->Q (.ref l) (upd H l (.lst (ks.map V.int)))
theorem sS (hc:X.calm=true):bn X (.builtin "sorted") (yO X):=l9 hc
theorem D9 (h:Reads ta σ H (.ref l))(hl:Rd H l (.lst (xs.map .int)))(hz:xs.length<=63)(k:∀ l' z H',Same H H'->H l'=none->H' l'=some (.lst (z.map .int))->uQ xs z->Q (.ref l') H'):eR (yO X) (ag (eR (yN X) (ag ta aF)) aF) σ H Q:=by refine h _ ⟨l,xs,rfl,hl,by lia,fun p es its hp e v=>⟨p,es,its,rfl,ah,v,?_,fun l' ks hl' hm pw=>k l' ks _ ((au hp).trans (au hl')) ((au hp).free hl') ah ⟨fun x=>by rw[hm,e],pw⟩⟩⟩;have:=MT List.length e;rw[Me]at this;lia
end
noncomputable def D_ (Z:lB->List lB)(k:lB):Int:=((Z k).length:Nat)
structure KS where
 N:lB->Int
 ended:List lB
 Ig:List lB
section
variable {X:Cx}{H H':Hp}{D:Ends}{σ:L2.St}
noncomputable def oQ (X:Cx)(scope:Scope)(tg elt:Expr)(tN capN:List Str)(caps:List Nat)(ifs:List Expr)(i:Nat)(wi:TI):TS:=fun D σ H=>wi σ H (cq X scope tg tN capN caps elt ifs σ fun Dl _ H'=>D.nx (σ.set i (some (.ref Dl))) H')
end
section
variable {ks:List lB}{Z:lB->List lB}
def LV (Z:lB->List lB)(ks:List lB):KS:=⟨D_ Z,ks.filter fun k=>decide (D_ Z k=0),ks.filter fun k=>decide (D_ Z k=0)⟩
end
section
variable {X:Cx}{P:QR}{w:World}{H:Hp}{s:QP}{m m':Addr->Prop}
theorem gp {A:QT}{l:List D}{vs ws:List V}{us us':List QS}(f:∀ d∈l,∀ v w' u u',Is H m d v->Is H m' d w'->RelV v u->RelV w' u'->SeqAt.EqAt A s u u' true)(i1:IsAll H m l vs)(i2:IsAll H m' l ws)(r1:Vals vs us)(r2:Vals ws us') :
 us.length=us'.length/\∀ j (h1:j<us.toArray.size) (h2:j<us'.toArray.size),SeqAt.EqAt A s us.toArray[j] us'.toArray[j] true:=by
 have e1:=r1.length;have e2:=r2.length;have e3:=i1.length;have e4:=i2.length;refine⟨by lia,fun j h1 h2=>?_⟩;rw[Mi]at h1 h2;have k:l[j]?=some (l[j]'(by lia)):=Ml _;obtain⟨v,ev,iv⟩:=i1.get k;obtain⟨v',ev',iv'⟩:=i2.get k;obtain⟨u,eu,ru⟩:=r1.get ev;obtain⟨u',eu',ru'⟩:=r2.get ev';rw[Ml h1]at eu;rw[Ml h2]at eu';cases eu;cases eu';exact f _ (Po _) v v' _ _ iv iv' ru ru'
theorem qF (n:Nat):(List.range n).all (fun _=>true)=true:=NZ.mpr fun _ _=>rfl
theorem qG {A:QT}{a b:Addr}(h:SeqAt.RcAt A s (.ref a) (.ref b) true):SeqAt.EqAt A s (.ref a) (.ref b) true:=by
 by_cases e:a=b
 .rw[e];exact Py _
 .exact PR e h
theorem oR (ok:HOk P w H s.heap)(n:Nat):∀(A:QT){d:D}{v w':V}{u u':QS},A.units+n<cLine->d.dep<=n->n<1000->Is H m d v->Is H m' d w'->RelV v u->RelV w' u'->SeqAt.EqAt A s u u' true:=by
 induction n with
 |zero=>
  intro A d v w' u u' hu hd hn h1 h2 r1 r2;cases d with
  |int i=>cases h1;cases h2;obtain⟨t,rfl⟩:=r1;obtain⟨t',rfl⟩:=r2;have:=SeqAt.EqAt.int_int (A:=A) (s:=s) i t i t';rwa [Ou]at this
  |str x=>cases h1;cases h2;obtain⟨t,rfl⟩:=r1;obtain⟨t',rfl⟩:=r2;have:=SeqAt.EqAt.str_str (A:=A) (s:=s) x t x t';rwa [Ou]at this
  |bS=>cases h1;cases h2;cases r1;cases r2;exact .same _
  |bl b=>cases h1;cases h2;cases r1;cases r2;exact .same _
  |_=>simp only[D.dep]at hd;lia
 |succ n ih=>
  intro A d v w' u u' hu hd hn h1 h2 r1 r2;have f:∀ l:List D,D.cE l<=n->∀ d∈l,∀ v w' u u',Is H m d v->Is H m' d w'->RelV v u->RelV w' u'->SeqAt.EqAt A.in1 s u u' true:=fun l hl d hm v w' u u' i1 i2 r1 r2=>by obtain⟨j,hj⟩:=MJ.mp hm;exact ih A.in1 (by show A.units+1+n<cLine;lia) (Mq (dw hj) hl) (by lia) i1 i2 r1 r2
  cases d with
  |tup l=>obtain⟨a,vs,rfl,g,q⟩:=h1;obtain⟨a',vs',rfl,g',q'⟩:=h2;cases r1;cases r2;obtain⟨us,y,p⟩:=g9 ok g;obtain⟨us',y',p'⟩:=g9 ok g';obtain⟨e,z⟩:=gp (f l (by simp only[D.dep]at hd;lia)) q q' y y';have z:=O8 p p' (by lia) z;rw[Mi,Mi,e,Ou,qF]at z;exact qG z
  |lst l=>obtain⟨a,vs,rfl,g,q⟩:=h1;obtain⟨a',vs',rfl,g',q'⟩:=h2;cases r1;cases r2;obtain⟨us,y,p⟩:=kY ok g;obtain⟨us',y',p'⟩:=kY ok g';obtain⟨e,z⟩:=gp (f l (by simp only[D.dep]at hd;lia)) q q' y y';have z:=SeqAt.RcAt.lists p p' (by rw[Mi,Mi,e]) (by lia) z;rw[qF]at z;exact qG z
  |qZ k l=>simp only[D.dep]at hd;lia
  |_=>exact ih A (by lia) (ML _) (by lia) h1 h2 r1 r2
def Ea:R2:=fun x y H Q=>∃ l m m',Is H m (.tup l) x/\Is H m' (.tup l) y/\D.cE l<=49/\Q (.bl false) H
theorem yP (hu:X.A.units+64<cLine):hW X (compareOp .NotEq) Ea:=by intro ac s σ H x y v u Q I rx ry h;obtain⟨l,m,m',⟨a,vs,rfl,g,q⟩,⟨a',vs',rfl,g',q'⟩,hd,k⟩:=h;cases rx;cases ry;obtain⟨us,y,p⟩:=g9 I.aJ g;obtain⟨us',y',p'⟩:=g9 I.aJ g';obtain⟨e,z⟩:=gp (fun d hm v w' u u' i1 i2 r1 r2=>by obtain⟨j,hj⟩:=MJ.mp hm;exact oR I.aJ 49 X.A.in1 (by show X.A.units+1+49<cLine;lia) (Mq (dw hj) hd) (by lia) i1 i2 r1 r2) q q' y y';have z:=SeqAt.RcNeAt.tuples p p' (by lia) z;rw[Mi,Mi,e,Ou,qF]at z;exact z X.prog X.w X.xe _ ⟨.bl _,H,I,rfl,k⟩
end
section
theorem La (x y:lB):iO (pD x) (pD y)=decide (x=y):=by
 show(x.1==y.1&&(x.2==y.2&&true))=_;rw[Bool.and_true];by_cases e:x=y
 .rw[e,Mp rfl,BEq.rfl,BEq.rfl];rfl
 .rw[My e,Bool.and_eq_false_iff];by_cases e1:x.1=y.1
  .exact .inr (Ot.mpr fun e2=>e (Qs e1 e2))
  .exact .inl (Ot.mpr e1)
end
end L4
namespace L4
open PySem PySem.Spec PySem.Calls PyProof.Rows L2 L3 ST
end L4
namespace L4
open PySem PySem.Spec PyProof.Rows L2 L3
structure Fs (ro sg:Int) (r:Sp.Rule):Prop where
 a:0<=r.1/\r.1<ro
 s:0<=r.2.1/\r.2.1<sg
 t:0<=r.2.2.1/\r.2.2.1<ro
 p:r.2.2.2.length<=2
 q:∀ x∈r.2.2.2,0<=x/\x<sg
def Eb (K:QQ):V->Option Int->Option Int->Hp->VK->Prop:=fun x lo hi H Q=>∃ a xs,x=.ref a/\SqT K H a xs/\(HT.sIx xs.length 0 lo=0->HT.sIx xs.length xs.length hi=xs.length->Q x H)/\∀ p,H p=none->Q (.ref p) (upd H p (.tup (ib xs lo hi)))
section
variable {K:QQ}{H:Hp}{D:Ends}{σ:L2.St}{vs:List V}{Q:VK}
theorem oS:FM X (Eb X.K):=by
 intro ac s σ H x v vl vu lo hi sl Q I rx hs pl pu h;obtain⟨a,xs,e,hx,h1,h2⟩:=h;by_cases w:HT.sIx xs.length 0 lo=0/\HT.sIx xs.length xs.length hi=xs.length
 .exact Bg ac s σ H x v vl vu lo hi sl Q I rx hs pl pu ⟨a,xs,e,hx,w,h1 w.1 w.2⟩
 .exact C1 ac s σ H x v vl vu lo hi sl Q I rx hs pl pu ⟨a,xs,e,hx,w,h2⟩
theorem em {a b:Int}(h:0<b):0<=a % b/\a % b<b:=⟨Int.emod_nonneg _ (by lia),Int.emod_lt_of_pos _ h⟩
theorem Reads.mod (ha:Reads ta σ H (.int i))(hb:Reads tb σ H (.int j))(h:0<j):Reads (bg cg ta tb) σ H (.int (i % j)):=ha.op hb fun _ q=>⟨_,_,rfl,rfl,h,q⟩
theorem Reads.dv (ha:Reads ta σ H (.int i))(hb:Reads tb σ H (.int j))(h:0<j/\j<1073741824):Reads (bg fg ta tb) σ H (.int (i / j)):=ha.op hb fun _ q=>⟨_,_,rfl,rfl,h,q⟩
def lD:R2:=rI CMul fun i j=>.int (i*j)
theorem Reads.mul (ha:Reads ta σ H (.int i))(hb:Reads tb σ H (.int j))(h:-(2 ^ 64)<j/\j<2 ^ 64):Reads (bg lD ta tb) σ H (.int (i*j)):=ha.op hb fun _ q=>⟨_,_,rfl,rfl,.inr h,q⟩
theorem Reads.ad (ha:Reads ta σ H (.int i))(hb:Reads tb σ H (.int j)):Reads (bg cR ta tb) σ H (.int (i+j)):=ha.op hb fun _ q=>⟨_,_,rfl,rfl,q⟩
theorem cT (h:Reads t σ H v)(k:D.nx (σ.set i (some v)) H):bq t (aE i) D σ H:=h _ k
theorem GG (h:te σ H fun x H1=>tl σ H1 fun l H2=>th σ H2 fun u H3=>r x l u H3 Q):Fg r te tl th σ H Q:=h
theorem Jo {Q:List V->Hp->Prop}(h:te σ H fun v H1=>tr σ H1 fun vs H2=>Q (v::vs) H2):ag te tr σ H Q:=h
def GH (i j:Nat):TE:=bg cg (aj i) (aj j)
def GI (i j:Nat):TE:=bg fg (aj i) (aj j)
end
section
theorem qH (xs:List V)(a b:Int)(ha:0<=a)(hb:0<=b):(ib xs (some a) (some (a+b))).length<=b.toNat:=by
 unfold ib;rw[MU,Oh];have e1:HT.sIx xs.length 0 (some a)=min a.toNat xs.length:=by have:=HT.sIx_nat xs.length 0 a.toNat;rw[OL ha]at this;exact this
 have e2:HT.sIx xs.length xs.length (some (a+b))=min (a+b).toNat xs.length:=by have:=HT.sIx_nat xs.length xs.length (a+b).toNat;rw[OL (by lia)]at this;exact this
 rw[e1,e2];refine Mq (Nat.min_le_left _ _) ?_;rw[Int.toNat_add ha hb];exact Nat.sub_le_of_le_add ((Nat.le_total xs.length a.toNat).elim (fun h=>Mq (Nat.min_le_right _ _) (by rw[Nat.min_eq_right h];exact Nat.le_add_left _ _)) fun h=>Mq (Nat.min_le_left _ _) (by rw[PM h,Nat.add_comm];exact Mc _))
end
section
variable {K:QQ}
def vY (K:QQ)(i:Nat):TE:=eR (k_ K) (ag (aj i) aF)
end
theorem lE (hc:X.calm=true)(S:ck X scope tN capN caps)(hN:X.N.Nodup)(hi':X.N[i]?=some y)(hy:X.env.scope.names.lookup y=some .local)(hi:PI X tg iter wi)
 (hsw:autoParam (swapsWith (.ListComp elt [⟨tg,iter,ifs,0⟩] scope pos) (some (.Name y py)) spos.line X.env=pure true) QZ._auto_1) (hs:autoParam (∀ x,foldedSetIterable iter X.env x=pure x) QX._auto_1):PS X (.Assign [.Name y py] (.ListComp elt [⟨tg,iter,ifs,0⟩] scope pos) spos) (oQ X scope tg elt tN capN caps ifs i wi):=fun ac s σ H D I h=>yh hc S hN hi' hy hsw I hi h hs
structure L0 where
 (Fr Fm Fc:Ko)
section
variable {d:Addr}{rooms signs:Int}{D:Ends}
theorem vZ (rooms signs:Int)(RL:List Sp.Rule):(fE rooms signs RL).dep<=50:=by
 have:L3.D.cE (RL.map fR)<=4:=fC fun d hd=>by
  obtain⟨x,_,rfl⟩:=Md.mp hd;have:L3.D.cE (x.2.2.2.map L3.D.int)<=1:=fC fun d hd=>by obtain⟨y,_,rfl⟩:=Md.mp hd;exact ML _
  show max 0 (max 0 (max 0 (max (L3.D.cE (x.2.2.2.map L3.D.int)+1) 0)))+1<=4;lia
 show max 0 (max 0 (max (L3.D.cE (RL.map fR)+1) 0))+1<=50;lia
end
section
variable {K:QQ}
def Lb (K:QQ):TS:=cV (wC (sQ K "int" (aj 0)) (BW (sQ K "bool" (aj 0))))
end
structure LW where
 ks:List Int
 S:Int->Int
 A:Int->Option Pz.Arr
end L4
namespace L2
open PySem PySem.Spec PyProof.Rows
end L2
namespace L4
open PySem PySem.Spec PyProof.Rows L2 L3
end L4
namespace L2
open PySem PySem.Spec PySem.Calls PyProof.Rows
end L2
namespace L4
open PySem PySem.Spec PyProof.Rows L2 L3
section
variable {X:Cx}{H:Hp}{D:Ends}{σ:L2.St}{vs:List V}{Q:VK}
def GJ:R2:=fun x y H Q=>∃ l m m',Is H m (.tup l) x/\Is H m' (.tup l) y/\L3.D.cE l<=49/\Q (.bl true) H
theorem Ec (hu:X.A.units+64<cLine):hW X (compareOp .Eq) GJ:=by intro ac s σ H x y v u Q I rx ry h;obtain⟨l,m,m',⟨a,vs,rfl,g,q⟩,⟨a',vs',rfl,g',q'⟩,hd,k⟩:=h;cases rx;cases ry;obtain⟨us,y,p⟩:=g9 I.aJ g;obtain⟨us',y',p'⟩:=g9 I.aJ g';obtain⟨e,z⟩:=gp (fun d hm v w' u u' i1 i2 r1 r2=>by obtain⟨j,hj⟩:=MJ.mp hm;exact oR I.aJ 49 X.A.in1 (by show X.A.units+1+49<cLine;lia) (Mq (dw hj) hd) (by lia) i1 i2 r1 r2) q q' y y';have z:=O8 p p' (by lia) z;rw[Mi,Mi,e,Ou,qF]at z;exact z X.prog X.w X.xe _ ⟨.bl _,H,I,rfl,k⟩
end
structure Dp (room last:Int) (RL:List Pz.Rule):Prop where
 l:0<=last
 a:∀ r∈RL,r.1=room/\r.2.2.1=room/\0<=r.2.1/\r.2.1<=last/\r.2.2.2.length<=2/\∀ x∈r.2.2.2,r.2.1<x/\x<=last
 e:∀ r∈RL,r.2.2.2=[]->r.2.1=last
 s:∀ g,0<=g->g<=last->∃ r∈RL,r.2.1=g
 o:RL.Pairwise fun r r'=>r.2.1<=r'.2.1
section
variable {H:Hp}{Q:VK}
def Cu:List V->Hp->VK->Prop:=fun xs H Q=>∃ i j,xs=[.int i,.int j]/\Q (.int (if j<i then j else i)) H
theorem map_nil {S:List Int}:decide (S.map V.int=[])=decide (S=[]):=by cases S<;>rfl
end
structure LF (P:List Pz.Rule) (ks:List Int) (S:Int->Int):Prop where
 nd:ks.Nodup
 m:∀ g,g∈ks↔∃ r∈P,r.2.1=g
 lo:∀ r∈P,S r.2.1<=1+(r.2.2.2.map S).sum
 ex:∀ g∈ks,∃ r∈P,r.2.1=g/\S g=1+(r.2.2.2.map S).sum
section
variable {K:QQ}{H:Hp}{vs:List V}{Q:VK}{E:XK}
inductive wl:Sp
 |mk {H:Hp} {x:Int} {Q:VK} {E:XK} (k:Q (.bl true) H):wl [.int x] H Q E
theorem yQ (h:wl vs H Q E):vs.length=1:=by cases h;rfl
theorem Bz (h:wl vs H Q E):Lb K (eQ Q) (start (nS 1) vs) H:=by obtain @⟨H,x,Q,E,k⟩:=h;exact Reads.Fk (dd:=.int x) (.va rfl) (.inl (.int x)) yk _ ⟨true,rfl,gf (Reads.Fk (dd:=.int x) (.va rfl) (.inl (.int x)) vG _ ⟨false,rfl,k⟩)⟩
end
end L4
namespace L2
open PySem PySem.Spec PySem.Calls PyProof.Rows
end L2
namespace L4
open PySem PySem.Spec PyProof.Rows L2 L3
theorem nE (l:List Int)(a b:Option Int):∃ cs:List Int,ib (l.map V.int) a b=cs.map .int:=by unfold ib;rw[<- List.map_drop,<- List.map_take];exact⟨_,rfl⟩
structure KH (room last:Int) (RL:List Pz.Rule) (ks:List Int) (S:Int->Int) (TL:List Pz.Rule) (t:Pz.TD):Prop where
 dp:Dp room last RL
 z:RL.length<=61
 sm:LF RL ks S
 m:∀ r,r∈TL↔r∈RL
 g:Pz.Good TL [] (ks.map fun g=>(room,g,room)) t
section
variable {room last:Int}{RL TL:List Pz.Rule}{ks:List Int}{S:Int->Int}{t:Pz.TD}
variable (A:KH room last RL ks S TL t)
include A
omit A in
omit A in
end
section
variable {room last:Int}{RL TL:List Pz.Rule}{ks:List Int}{S:Int->Int}{t:Pz.TD}
variable (A:KH room last RL ks S TL t)
include A
omit A in
end
end L4
namespace L4
open PySem PySem.Spec PyProof.Rows L2 L3 ST
section
variable {X:Cx}{H:Hp}{σ:L2.St}{Q:VK}{hs:List Pz.Arr}{vs:List V}{l:Addr}
noncomputable def aL (x:Pz.Arr):List Int:=[x.1,x.2.1,x.2.2]
theorem hI {x y:Pz.Arr}(h:aL x=aL y):x=y:=by unfold aL at h;injection h with a b;injection b with b c;injection c with c _;exact Qs a (Qs b c)
theorem oT:∀{hs:List Pz.Arr}{vs:List V},a_ (IsArr H) hs vs->∃ its:List dg,TupsIn H vs its/\its.map (·.1)=hs.map aL:=by
 intro hs vs h;induction h with
 |nil=>exact⟨[],.nil,rfl⟩
 | @cons x v hs vs q _ ih=>obtain⟨its,t1,t2⟩:=ih;obtain⟨p,rfl,hp⟩:=q;exact⟨(aL x,p)::its,.cons ⟨rfl,hp⟩ t1,by rw[MC,MC,t2]⟩
def SrtA (ms:List Pz.Arr):Prop:=ms.Pairwise fun x y=>bE (aL x) (aL y)=true
theorem lF (x:Pz.Arr):bE (aL x) (aL x)=false:=by unfold aL;simp[bE]
theorem yR {x y:Pz.Arr}(h:bE (aL x) (aL y)=true)(h':bE (aL y) (aL x)=true):False:=by
 unfold aL at h h';simp only[bE]at h h'
 grind
theorem SrtA.nd {ms:List Pz.Arr}(h:SrtA ms):ms.Nodup:=h.imp fun{x y} h e=>by rw[e,lF]at h;cases h
theorem nF:∀{a b:List Pz.Arr},SrtA a->SrtA b->(∀ x,x∈a↔x∈b)->a=b
 | [],b,_,_,m=>by
  cases b with
  |nil=>rfl
  |cons y b=>exact nomatch (m y).mpr Mr
 |x::a,b,ha,hb,m=>by
  cases b with
  |nil=>exact nomatch (m x).mp Mr
  |cons y b=>
   obtain⟨a1,a2⟩:=Np.mp ha;obtain⟨b1,b2⟩:=Np.mp hb;have e:x=y:=by
    rcases Mv.mp ((m x).mp Mr) with e|h
    .exact e
    .rcases Mv.mp ((m y).mpr Mr) with e|h'
     .exact e.symm
     .exact(yR (a1 y h') (b1 x h)).elim
   subst e;refine MT (x::·) (nF a2 b2 fun z=>⟨fun hz=>?_,fun hz=>?_⟩)
   .rcases Mv.mp ((m z).mp (Ms _ hz)) with e|h
    .have:=a1 z hz;rw[e,lF]at this;cases this
    .exact h
   .rcases Mv.mp ((m z).mpr (Ms _ hz)) with e|h
    .have:=b1 z hz;rw[e,lF]at this;cases this
    .exact h
theorem Ed {ta:TE}(h:Reads ta σ H (.ref l))(hl:Rd H l (.lst vs))(a:a_ (IsArr H) hs vs)(hz:hs.length<=300)(Fu:∀ m:List Pz.Arr,m.Nodup->(∀ x∈m,x∈hs)->m.length<=63)
 (k:∀ l' ms ws H',Same H H'->H l'=none->H' l'=some (.lst ws)->a_ (IsArr H') ms ws->(∀ x,x∈ms↔x∈hs)->SrtA ms->Q (.ref l') H'):eR (yL X) (ag (eR (yK X) (ag ta aF)) aF) σ H Q:=by
 obtain⟨its,t1,t2⟩:=oT a;have tat:=jh t1;have mem:∀ x∈its,∃ y∈hs,x.1=aL y:=fun x hx=>by
  have:x.1∈hs.map aL:=by rw[<- t2];exact Md.mpr ⟨x,hx,rfl⟩
  obtain⟨y,hy,e⟩:=Md.mp this;exact⟨y,hy,e.symm⟩
 refine h _ ⟨l,vs,its,rfl,hl,t1,by rw[<- a.len];exact hz,fun b es hb v=>?_⟩;have s1:=au (o:=.ext fun h=>SetAt X.w h b es) hb;refine⟨b,es,its,rfl,ah,v,fun x hx=>s1 _ _ (tat x hx),fun x hx z=>?_,fun m nd hm=>?_,fun l' ys hl' so=>?_⟩
 .obtain⟨y,_,e⟩:=mem x hx;rw[z]at e;cases e
 .have:∀ k∈m,∃ y:Pz.Arr,y∈hs/\aL y=k:=fun k hk=>by obtain⟨x,hx,e⟩:=hm k hk;obtain⟨y,hy,e2⟩:=mem x hx;exact⟨y,hy,e2.symm.trans e⟩
  have key:∀ m:List (List Int),(∀ k∈m,∃ y:Pz.Arr,y∈hs/\aL y=k)->∃ n:List Pz.Arr,n.map aL=m/\∀ y∈n,y∈hs:=fun m=>by
   induction m with
   |nil=>exact fun _=>⟨[],rfl,fun _ h=>nomatch h⟩
   |cons c m ih=>intro h;obtain⟨y,hy,e⟩:=h c Mr;obtain⟨n,e2,hn⟩:=ih fun k hk=>h k (Ms _ hk);exact⟨y::n,by rw[MC,e,e2],fun z hz=>(Mv.mp hz).elim (fun e=>e▸hy) (hn z)⟩
  obtain⟨n,e,hn⟩:=key m this;subst e;rw[Me];exact Fu n (List.Pairwise.of_map aL (fun _ _ h e=>h (by rw[e])) nd) hn
 .have s2:=s1.trans (au (o:=.lst (ys.map fun y=>.ref y.2)) hl');have nb:H l'=none:=s1.free hl';have ysm:∀ y∈ys,y∈its:=so.sub;have ex:∃ ms:List Pz.Arr,ms.map aL=ys.map (·.1)/\a_ (IsArr (upd (upd H b (.ext fun h=>SetAt X.w h b es)) l' (.lst (ys.map fun y=>.ref y.2)))) ms (ys.map fun y=>.ref y.2):=by
   generalize upd (upd H b (.ext fun h=>SetAt X.w h b es)) l' (.lst (ys.map fun y=>.ref y.2))=H9 at s2;clear so hl';induction ys with
   |nil=>exact⟨[],rfl,.nil⟩
   |cons y ys ih=>obtain⟨ms,e1,e2⟩:=ih fun z hz=>ysm z (Ms _ hz);obtain⟨z,_,e3⟩:=mem y (ysm y Mr);refine⟨z::ms,by rw[MC,MC,e1,e3],.cons ⟨y.2,rfl,?_⟩ e2⟩;have:=s2 _ _ (tat y (ysm y Mr));rw[e3]at this;exact this
  obtain⟨ms,e1,e2⟩:=ex;refine k l' ms _ _ s2 nb ah e2 (fun x=>⟨fun hx=>?_,fun hx=>?_⟩) ?_
  .have:aL x∈ys.map (·.1):=by rw[<- e1];exact Md.mpr ⟨x,hx,rfl⟩
   obtain⟨y,hy,e⟩:=Md.mp this;obtain⟨z,hz,e3⟩:=mem y (so.sub y hy);rw[hI (e.symm.trans e3)];exact hz
  .have:aL x∈its.map (·.1):=by rw[t2];exact Md.mpr ⟨x,hx,rfl⟩
   obtain⟨z,hz,e⟩:=Md.mp this;obtain⟨y,hy,e3⟩:=so.all z hz;have:aL x∈ms.map aL:=by rw[e1];exact Md.mpr ⟨y,hy,e3.trans e⟩
   obtain⟨w,hw,e4⟩:=Md.mp this;rw[<- hI e4];exact hw
  .have:=so.pw;have pw:(ys.map (·.1)).Pairwise fun x y=>bE x y=true:=MQ.mpr this;rw[<- e1]at pw;exact MQ.mp pw
end
end L4
namespace L4
open PySem PySem.Spec PyProof.Rows L2 L3
noncomputable def Lc (ro sg:Int)(es:List lB):List Pz.Arr:=(es.map fun h=>(h.1,h.2,ro))++(List.range sg.toNat).map fun g=>(ro,((g:Nat):Int),ro)
theorem uF {H:Hp}{m:Addr->Prop}{M:List Pz.Arr}{xs:List V}(h:IsAll H m (M.map eJ) xs):a_ (IsArr H) M xs:=ut (fun _ _=>Cr) h
section
variable {X:Cx}{K:QQ}{H:Hp}
def Jp (K:QQ):TE:=bg K_ (tI K 0 2) (tI K 1 0)
structure LO (X:Cx) (scope:Scope) (tg elt:Expr) (tN capN:List Str) (caps:List Nat):Prop where
 h:tN.length=1
 c:caps=[0]
 g:∀ cl C s3 H3 fp,PG (aU X scope (tN++capN) cl C s3 H3 fp) tg (aE 0)
 e:∀ cl C s3 H3 fp,PE (aU X scope (tN++capN) cl C s3 H3 fp) elt (Jp X.K)
def Ld (X:Cx)(scope:Scope)(tg elt:Expr)(tN capN:List Str)(caps:List Nat):TS:=cV (eR (yM X.K) (ag (jC X scope tg tN capN caps elt [] (b8 X.K (tI X.K 1 1))) aF))
theorem yS {H:Hp}:∀{RL:List Pz.Rule}{ws:List V},a_ (IsRule H) RL ws->IsAll H Tr (RL.map fR) ws:=by
 intro RL ws h;induction h with
 |nil=>rfl
 |cons h _ ih=>exact⟨_,_,rfl,GF h,ih⟩
theorem kd {H:Hp}:∀{M:List Pz.Arr}{ws:List V},a_ (IsArr H) M ws->IsAll H Tr (M.map eJ) ws:=by
 intro M ws h;induction h with
 |nil=>rfl
 |cons h _ ih=>exact⟨_,_,rfl,⟨_,_,h.choose_spec.1,h.choose_spec.2,_,_,rfl,rfl,_,_,rfl,rfl,_,_,rfl,rfl,rfl⟩,ih⟩
theorem uG {H:Hp}{q l:Addr}{ro sg:Int}{us:List V}{RL:List Pz.Rule}(hq:H q=some (.tup [.int ro,.int sg,.ref l]))(hl:H l=some (.lst us))(ir:a_ (IsRule H) RL us):Is H Tr (fE ro sg RL) (.ref q):=⟨q,_,rfl,hq,_,_,rfl,rfl,_,_,rfl,rfl,_,_,rfl,⟨l,_,rfl,.inl ⟨hl,trivial⟩,yS ir⟩,rfl⟩
end
structure J4 (RL:List Pz.Rule) (M U:List Pz.Arr) (t:Pz.TD):Prop where
 g:Pz.Good RL M U t
 p:∀ r∈RL,r.2.2.2.length<=2
section
variable {RL:List Pz.Rule}{M U:List Pz.Arr}{t:Pz.TD}(A:J4 RL M U t)
include A
end
section
variable {RL:List Pz.Rule}{M U:List Pz.Arr}{t:Pz.TD}{ro sg:Int}{ge:List lB}
structure JS (RL:List Pz.Rule) (M U:List Pz.Arr) (t:Pz.TD) (ro sg:Int) (ge:List lB):Prop where
 a:J4 RL M U t
 m:∀ x,x∈M↔x∈Lc ro sg ge
 r:∀ r∈RL,Fs ro sg r
variable (A:JS RL M U t ro sg ge)
include A
end
section
variable {RL:List Pz.Rule}{M U:List Pz.Arr}{t:Pz.TD}{ro sg:Int}{ge:List lB}(A:JS RL M U t ro sg ge)
include A
end
section
variable {RL:List Pz.Rule}{M U:List Pz.Arr}{t:Pz.TD}{ro sg:Int}{ge:List lB}
variable (A:JS RL M U t ro sg ge)
include A
end
section
variable {X:Cx}{H:Hp}
def GK:R2:=fun x y H Q=>∃ l m m',Is H m (.lst l) x/\Is H m' (.lst l) y/\D.cE l<=49/\Q (.bl false) H
theorem Ee (hu:X.A.units+64<cLine):hW X (compareOp .NotEq) GK:=by intro ac s σ H x y v u Q I rx ry h;obtain⟨l,m,m',⟨a,vs,rfl,g,q⟩,⟨a',vs',rfl,g',q'⟩,hd,k⟩:=h;cases rx;cases ry;obtain⟨us,y,p⟩:=kY I.aJ g;obtain⟨us',y',p'⟩:=kY I.aJ g';obtain⟨e,z⟩:=gp (fun d hm v w' u u' i1 i2 r1 r2=>by obtain⟨j,hj⟩:=MJ.mp hm;exact oR I.aJ 49 X.A.in1 (by show X.A.units+1+49<cLine;lia) (Mq (dw hj) hd) (by lia) i1 i2 r1 r2) q q' y y';have z:=SeqAt.RcNeAt.lists p p' (by rw[Mi,Mi,e]) (by lia) z;rw[qF]at z;exact z X.prog X.w X.xe _ ⟨.bl _,H,I,rfl,k⟩
end
end L4
namespace L2
open PySem PySem.Spec PyProof.Rows
end L2
namespace L4
open PySem PySem.Spec PyProof.Rows L2 L3
section
variable {ro sg own:Int}
structure JV (ro own sg:Int) (x:Pz.Arr):Prop where
 a:0<=x.1/\x.1<ro+own
 s:0<=x.2.1/\x.2.1<sg
 t:ro<=x.2.2/\x.2.2<ro+own
end
section
variable {X:Cx}{σ:L2.St}{scope:Scope}{tg elt:Expr}{tN capN:List Str}{caps:List Nat}{ifs:List Expr}{H H1:Hp}{Fin:Addr->List V->Hp->Prop}{J:L2.It}{gt:TG}{te:TE}{tt:TT}{Q:VK}
theorem GL {α:Type}{R:Hp->α->V->Prop}(P:α->Prop)(n:Nat)(hz:n<1000)(hg:∀ cl C s3 H3 fp,PG (aU X scope (tN++capN) cl C s3 H3 fp) tg gt)(he:∀ cl C s3 H3 fp,PE (aU X scope (tN++capN) cl C s3 H3 fp) elt te)(mono:∀{H H':Hp},KT H H'->∀ a v,R H a v->R H' a v)
 (go:∀ i H',Same H1 H'->i<n->J.go i H') (st:∀ H',Same H1 H'->J.stop n H') (hb:∀ i H' x H'' o,i<n->Same H1 H'->J.tD i H' x H''->o.length=tN.length->H''=H'/\∃ σ2,(∀ Q:L2.St->Hp->Prop,Q σ2 H''->gt x (o++gO σ caps) H'' Q)/\(∀ j:Nat,tN.length<=j->σ2[j]?=(o++gO σ caps)[j]?)/\∀ Q:VK,(∀ v a H3,Same H'' H3->R H3 a v->P a->Q v H3)->te σ2 H'' Q)
 (k:∀ Dl vs as H',H1 Dl=none->Same H1 H'->H' Dl=some (.lst vs)->a_ (R H') as vs->(∀ a∈as,P a)->as.length=n->Fin Dl vs H'):cq X scope tg tN capN caps elt [] σ Fin J H1:=by
 refine jl (n:=n) hg (fun _ _ _ _ _=>gF) he (fun Dl i acc H'=>Same H1 H'/\H' Dl=some (.lst acc)/\(∃ as,a_ (R H') as acc/\(∀ a∈as,P a)/\as.length=i)/\H1 Dl=none) (fun Dl hD=>⟨au hD,ah,⟨[],.nil,(fun _ h=>nomatch h),rfl⟩,hD⟩) (fun h=>h.2.1) (fun Dl i acc H' ⟨sm,_⟩ hi=>go i H' sm hi) (fun Dl acc H' ⟨sm,_⟩=>st H' sm) (fun Dl i acc H' xv H'' o hi ⟨sm,hD,⟨as,a2,pa,la⟩,nD⟩ yy ho=>?_) fun Dl acc H' hD ⟨sm,hD',⟨as,a2,pa,la⟩,_⟩=>k Dl acc as H' hD sm hD' a2 pa la;obtain⟨rfl,σ2,g1,g2,g3⟩:=hb i H' xv H'' o hi sm yy ho;refine g1 _ ⟨g2,gf (g3 _ fun v a H3 s3 r3 p3=>?_)⟩;have hD3:=s3 _ _ hD;have kt:KT H3 (upd H3 Dl (.lst (acc++[v]))):=.upd hD3 fun _ z=>(nomatch z);have ln:=a2.len;refine⟨hD3,o_ (by lia),fun c u e=>by rw[aA (aB e nD)];exact s3 _ _ (sm _ _ e),ah,⟨as++[a],(a2.mono (mono ((KT.of s3).trans kt))).snoc (mono kt _ _ r3),fun x hx=>?_,by rw[MB,la];rfl⟩,nD⟩;rcases MO.mp hx with hx|hx
 .exact pa x hx
 .rw[MH.mp hx];exact p3
theorem Jq {α:Type}(L:List α)(p:α->Bool)(f:α->Int)(hz:L.length<1000)(hg:∀ cl C s3 H3 fp,PG (aU X scope (tN++capN) cl C s3 H3 fp) tg gt)(ht:∀ cl C s3 H3 fp,DB (aU X scope (tN++capN) cl C s3 H3 fp) ifs tt)(he:∀ cl C s3 H3 fp,PE (aU X scope (tN++capN) cl C s3 H3 fp) elt te)
 (go:∀ i H',Same H1 H'->i<L.length->J.go i H') (st:∀ H',Same H1 H'->J.stop L.length H') (hb:∀ i H' x H'' o a,L[i]?=some a->Same H1 H'->J.tD i H' x H''->o.length=tN.length->H''=H'/\∃ σ2,(∀ Q:L2.St->Hp->Prop,Q σ2 H''->gt x (o++gO σ caps) H'' Q)/\(∀ j:Nat,tN.length<=j->σ2[j]?=(o++gO σ caps)[j]?)/\(∀ Q:Bool->Hp->Prop,Q (p a) H''->tt σ2 H'' Q)/\Reads te σ2 H'' (.int (f a)))
 (k:∀ Dl H',H1 Dl=none->Same H1 H'->H' Dl=some (.lst (((L.filter p).map f).map .int))->Fin Dl (((L.filter p).map f).map .int) H'):cq X scope tg tN capN caps elt ifs σ Fin J H1:=by
 refine jl (n:=L.length) hg ht he (fun Dl i acc H'=>Same H1 H'/\H' Dl=some (.lst acc)/\acc=(((L.take i).filter p).map f).map .int/\H1 Dl=none) (fun Dl hD=>⟨au hD,ah,rfl,hD⟩) (fun h=>h.2.1) (fun Dl i acc H' ⟨sm,_⟩ hi=>go i H' sm hi) (fun Dl acc H' ⟨sm,_⟩=>st H' sm) (fun Dl i acc H' xv H'' o hi ⟨sm,hD,ea,nD⟩ yy ho=>?_) fun Dl acc H' hD ⟨sm,hD',ea,_⟩=>?_
 .have hx:=Ml hi;obtain⟨rfl,σ2,g1,g2,g3,g4⟩:=hb i H' xv H'' o _ hx sm yy ho;refine g1 _ ⟨g2,g3 _ ?_⟩;have et:L.take (i+1)=L.take i++[L[i]]:=by rw[NF,hx];rfl
  have lf:(((L.take i).filter p).map f).length<=i:=by rw[Me];exact Mq (List.length_filter_le _ _) (List.length_take_le i L)
  cases hp:p L[i] with
  |true=>refine gf (g4 _ ⟨hD,o_ (by rw[ea,Me];lia),fun c u e=>by rw[aA (aB e nD)];exact sm _ _ e,ah,?_,nD⟩);rw[et,List.filter_append,List.filter_cons_of_pos hp,ea,M8,M8];rfl
  |false=>refine b_ ⟨sm,hD,?_,nD⟩;rw[et,List.filter_append,List.filter_cons_of_neg (by rw[hp];decide),ea,List.filter_nil,Ob]
 .rw[Ng]at ea;subst ea;exact k Dl H' hD sm hD'
def Ef (X:Cx):List V->Hp->VK->Prop:=fun xs H Q=>∃(l:Addr)(vs:List V)(its:List dg),xs=[.ref l]/\Rd H l (.lst vs)/\TupsIn H vs its/\its.length<=63/\(∀ x∈its,x.1≠[])/\(its.map (·.1)).Nodup/\
 ∀(l':Addr)(ys:List dg),H l'=none->ys.Perm its->ys.Pairwise (fun x y=>bE x.1 y.1=true)->Q (.ref l') (upd H l' (.lst (ys.map fun y=>.ref y.2)))
theorem yT:bn X (.builtin "sorted") (Ef X):=ma (by decide) ub
theorem Eg {l:Addr}{vs:List V}{hs:List Pz.Arr}(hl:Rd H l (.lst vs))(a:a_ (IsArr H) hs vs)(nd:hs.Nodup)(hz:hs.length<=63)(k:∀ l' ms ws H',Same H H'->H' l'=some (.lst ws)->a_ (IsArr H') ms ws->(∀ x,x∈ms↔x∈hs)->ms.length=hs.length->Q (.ref l') H'):Ef X [.ref l] H Q:=by
 obtain⟨its,t1,t2⟩:=oT a;have tat:=jh t1;have li:its.length=hs.length:=by have:=MT List.length t2;rwa [Me,Me]at this
 have mem:∀ x∈its,∃ y∈hs,x.1=aL y:=fun x hx=>by
  have:x.1∈hs.map aL:=by rw[<- t2];exact Md.mpr ⟨x,hx,rfl⟩
  obtain⟨y,hy,e⟩:=Md.mp this;exact⟨y,hy,e.symm⟩
 refine⟨l,vs,its,rfl,hl,t1,by lia,fun x hx z=>?_,by rw[t2];exact MQ.mpr (nd.imp fun h e=>h (hI e)),fun l' ys hl' pm pw9=>?_⟩
 .obtain⟨y,_,e⟩:=mem x hx;rw[z]at e;cases e
 have s1:=au (o:=.lst (ys.map fun y=>.ref y.2)) hl';have ysm:∀ y∈ys,y∈its:=fun y hy=>pm.subset hy;have ex:∃ ms:List Pz.Arr,ms.map aL=ys.map (·.1)/\a_ (IsArr (upd H l' (.lst (ys.map fun y=>.ref y.2)))) ms (ys.map fun y=>.ref y.2):=by
  generalize upd H l' (.lst (ys.map fun y=>.ref y.2))=H9 at s1;clear pm hl';clear pw9;induction ys with
  |nil=>exact⟨[],rfl,.nil⟩
  |cons y ys ih=>obtain⟨ms,e1,e2⟩:=ih fun z hz=>ysm z (Ms _ hz);obtain⟨z,_,e3⟩:=mem y (ysm y Mr);refine⟨z::ms,by rw[MC,MC,e1,e3],.cons ⟨y.2,rfl,?_⟩ e2⟩;have:=s1 _ _ (tat y (ysm y Mr));rw[e3]at this;exact this
 obtain⟨ms,e1,e2⟩:=ex;have mm:(ms.map aL).Perm (hs.map aL):=by rw[e1,<- t2];exact pm.map _
 refine k l' ms _ _ s1 ah e2 (fun x=>⟨fun hx=>?_,fun hx=>?_⟩) (by have:=mm.length_eq;rwa [Me,Me]at this)
 .obtain⟨y,hy,e⟩:=Md.mp (mm.subset (Md.mpr ⟨x,hx,rfl⟩));rw[<- hI e];exact hy
 .obtain⟨y,hy,e⟩:=Md.mp (mm.symm.subset (Md.mpr ⟨x,hx,rfl⟩));rw[<- hI e];exact hy
end
def GM:R2:=rI (fun _ j=>0<=j) fun i j=>.int (i / 2 ^ j.toNat)
def GN:R2:=qT fun i j=>.int (Builtin.bitAnd i j)
structure fX (H:Hp) (mp la le:Addr) (n:Int) (ms:List Pz.Arr) (mv:List V) (ends:List Int):Prop where
 p:H mp=some (.tup [.int n,.ref la,.ref le])
 a:H la=some (.lst mv)
 i:a_ (IsArr H) ms mv
 e:H le=some (.lst (ends.map .int))
theorem jm {H H':Hp}(k:KT H H')(a:Pz.Arr)(v:V)(h:IsArr H a v):IsArr H' a v:=let ⟨p,e,h⟩:=h;⟨p,e,k _ _ h⟩
theorem fX.more {H H':Hp}{mp la le:Addr}{n:Int}{ms:List Pz.Arr}{mv:List V}{ends:List Int}(h:fX H mp la le n ms mv ends)(s:Same H H'):fX H' mp la le n ms mv ends:=⟨s _ _ h.p,s _ _ h.a,h.i.mono (jm (.of s)),s _ _ h.e⟩
def yU:List V->Hp->VK->Prop:=fun xs H Q=>∃ i j,xs=[.int i,.int j]/\Q (.int (if j>i then j else i)) H
theorem v4 {X:Cx} (hc:X.calm=true):bn X (.builtin "max") yU:=uV hc
end L4
namespace L2
open PySem PySem.Spec PyProof.Rows
end L2
namespace L4
open PySem PySem.Spec PyProof.Rows L2 L3
section
variable {RL:List Pz.Rule}{M U:List Pz.Arr}{t:Pz.TD}{ro:Int}
structure Ly (RL:List Pz.Rule) (M U:List Pz.Arr) (t:Pz.TD) (ro:Int):Prop where
 a:J4 RL M U t
 m:∀ x∈M,ro<=x.2.2
 r:∀ r∈RL,r.1<ro/\r.2.2.1<ro
variable (A:Ly RL M U t ro)
include A
end
end L4
namespace Sp
variable {n:Int}{rs:RS}{S T:St}
def jJ (n:Int)(S:St):Prop:=∀(i:Nat) x,S.mi[i]?=some x->x.2=n+(i:Nat)
theorem sT (r:Int)(x:Int×List Int):∀ S,(aG r S x).mi=S.mi:=by
 obtain⟨g,ts⟩:=x;induction ts with
 |nil=>intro S;rfl
 |cons t ts ih=>intro S;exact(ih (lead S r g t)).trans (cr ..)
theorem uH (r:Int):∀(l:List (Int×List Int))(S:St),(l.foldl (aG r) S).mi=S.mi
 | [],_=>rfl
 |x::l,S=>(uH r l _).trans (sT r x S)
theorem v6 (S:St)(r s:Int):(aV S r s).mi=S.mi:=by
 unfold aV;split
 .rfl
 .exact uH _ _ _
theorem yV (t:Int)(S:St)(r:Rule):(∀ x∈S.mi,x∈(aX n t S r).mi)/\(jJ n S->jJ n (aX n t S r)):=by
 unfold aX;split
 .unfold jJ;rw[v6];exact⟨fun _ h=>h,id⟩
 .unfold jJ;rw[cr];exact⟨fun _ h=>h,id⟩
 .rename_i a b _ _;unfold jJ;rw[cr,cr];unfold midM;split
  .exact⟨fun _ h=>h,id⟩
  .refine⟨fun _ h=>Na _ h,fun h i x e=>?_⟩;by_cases c:i<S.mi.length
   .rw[MM c]at e;exact h i x e
   .rw[Mw (by lia)]at e;have z:i-S.mi.length=0:=by have:=(Mg.mp e).1;simpa using this
    rw[z]at e;simp at e;subst e;have:i=S.mi.length:=by lia
    rw[this]
theorem lG (t:Int):∀(rl:List Rule)(S:St),(∀ x∈S.mi,x∈(rl.foldl (aX n t) S).mi)/\(jJ n S->jJ n (rl.foldl (aX n t) S))
 | [],_=>⟨fun _ h=>h,id⟩
 |r::rl,S=>by obtain⟨a,b⟩:=yV (n:=n) t S r;obtain⟨c,d⟩:=lG t rl (aX n t S r);exact⟨fun x h=>c x (a x h),fun h=>d (b h)⟩
theorem qI (g t:Int):∀(rl:List Int)(S:St),(rl.foldl (fun S r=>lead S r g t) S).mi=S.mi
 | [],_=>rfl
 |r::rl,S=>(qI g t rl _).trans (cr ..)
theorem BA (a:Arr)(S:St):(∀ x∈S.mi,x∈(turn n rs a S).mi)/\(jJ n S->jJ n (turn n rs a S)):=by obtain⟨c,d⟩:=lG (n:=n) a.2.2 ((get rs (a.1,a.2.1)).getD []) (dQ a S);have e:(dQ a S).mi=S.mi:=qI _ _ _ _;unfold jJ at *;rw[e]at c d;exact⟨c,d⟩
theorem Loop.mi {k:Nat}(h:Loop n rs k S T):(∀ x∈S.mi,x∈T.mi)/\(jJ n S->jJ n T):=by
 induction h with
 |done _=>exact⟨fun _ h=>h,id⟩
 |step _ _ _ _ ih=>obtain⟨a,b⟩:=BA (n:=n) (rs:=rs) _ _;exact⟨fun x h=>ih.1 x (a x h),fun h=>ih.2 (b h)⟩
theorem KT.HC (k:KT S)(r g:Int):KT (midM n S r g):=by
 unfold Sp.midM;split
 .exact k
 .exact⟨k.k1,k.k2⟩
theorem KT.zD (k:KT S)(t:Int)(r:Rule):KT (Sp.aX n t S r):=by
 unfold Sp.aX;split
 .unfold Sp.aV;split
  .exact k
  .exact KT.copy _ (S:=fV S _ _) ⟨k.k1,k.k2⟩
 .exact k.lead ..
 .exact KT.lead (KT.lead (KT.HC k ..) ..) ..
end Sp
namespace L4
open PySem PySem.Spec PyProof.Rows L2 L3
noncomputable def Ij (sc:List Int)(k:Nat):Int:=(sc[k]?).elim 0 fun c=>(c % 2147483647+11+(k:Int)*(k:Int))*48271 % 2147483647
section
variable {K:QQ}{H H':Hp}{vs:List V}{Q:VK}{E:XK}{ro sg:Int}
inductive mB:Sp
 |mk {H:Hp} {l:Addr} {sc:List Int} {k:Nat} {Q:VK} {E:XK} (hl:Rd H l (.lst (sc.map .int))) (hk:k<1000) (q:Q (.int (Ij sc k)) H):mB [.ref l,.int k] H Q E
theorem yW (h:mB vs H Q E):vs.length=2:=by cases h;rfl
def Lf (K:QQ):TS:=aN (cm (bK (bg IV (aj 1) (eR (k_ K) (ag (aj 0) aF)))) (cV (bg cg (bg lD (bg cR (bg cR (bg cg (bg (C2 K) (aj 0) (aj 1)) (tC (.int 2147483647))) (tC (.int 11))) (bg lD (aj 1) (aj 1))) (tC (.int 48271))) (tC (.int 2147483647)))) bH) (cV (tC (.int 0)))
theorem BB (h:mB vs H Q E):Lf K (eQ Q) (start (nS 2) vs) H:=by
 obtain @⟨H,l,sc,k,Q,E,hl,hk,q⟩:=h;unfold Ij at q;refine e8 (Reads.op (.va rfl) (.HG (.va rfl) hl) fun _ q=>⟨_,_,rfl,rfl,q⟩) (fun c=>?_) fun c=>?_
 .have c:=ND c;rw[Me]at c;have lt:k<sc.length:=by lia
  rw[Ml lt]at q;exact Reads.mod (.mul (.ad (.ad (.mod (.LL (j:=k) (v:=.int sc[k]) (.va rfl) (.va rfl) hl (by rw[ME,Ml lt];rfl) rfl) .k (by decide)) .k) (.mul (.va rfl) (.va (v:=.int (k:Nat)) rfl) ⟨by lia,by lia⟩)) .k (by decide)) .k (by decide) _ q
 .have c:¬ (k:Int)<(sc.map V.int).length:=fun z=>c (Mp z);rw[Me]at c;rw[Nz (by lia)]at q;exact q
inductive zO:Sp
 |mk {H:Hp} {c ro sg:Int} {Q:VK} {E:XK} (hr:0<ro/\ro<1000) (hs:0<sg/\sg<1000) (k:∀ v r H',Same H H'->IsRule H' r v->Fs ro sg r->Q v H'):zO [.int c,.int ro,.int sg] H Q E
theorem yX (h:zO vs H Q E):vs.length=3:=by cases h;rfl
def GO (K:QQ):TS:=cV (cD (ag (aj 3) (ag (aj 4) (ag (aj 5) (ag (Fg (Eb K) (cD (ag (GH 0 2) (ag (bg cg (GI 0 2) (aj 2)) aF))) nO (km (aj 6))) aF)))))
def Lg (K:QQ):TS:=aN (bq (bg cg (bg lD (bg cR (bg cg (aj 0) (tC (.int 2147483629))) (tC (.int 5))) (tC (.int 69621))) (tC (.int 2147483629))) (aE 0)) (aN (bq (GH 0 1) (aE 3)) (aN (bq (GI 0 1) (aE 0)) (aN (bq (GH 0 2) (aE 4)) (aN (bq (GI 0 2) (aE 0)) (aN (bq (GH 0 1) (aE 5)) (aN (bq (GI 0 1) (aE 0)) (aN (bq (bg cg (aj 0) (tC (.int 3))) (aE 6)) (aN (bq (bg fg (aj 0) (tC (.int 3))) (aE 0)) (GO K)))))))))
theorem Lh {n a s t z:Int}(ha:0<=a/\a<ro)(hs:0<=s/\s<sg)(ht:0<=t/\t<ro)(h2:0<sg/\sg<1000)(k:∀ v r H',Same H H'->IsRule H' r v->Fs ro sg r->Q v H'):GO K (eQ Q) [some (.int n),some (.int ro),some (.int sg),some (.int a),some (.int s),some (.int t),some (.int z)] H:=by
 have fin:∀{H1:Hp}{q:Addr}{put:List Int},Same H H1->H1 q=some (.tup (put.map .int))->put.length<=2->(∀ x∈put,0<=x/\x<sg)->∀ p,H1 p=none->Q (.ref p) (upd H1 p (.tup [.int a,.int s,.int t,.ref q])):=fun{H1 q put} s1 hq h3 h4 p hp=>k (.ref p) (a,s,t,put) _ (s1.trans (au hp)) ⟨p,q,rfl,ah,au hp _ _ hq⟩ ⟨ha,hs,ht,h3,h4⟩;have m1:=em (a:=n) h2.1;have m2:=em (a:=n / sg) h2.1;have rd:ReadsA (ag (GH 0 2) (ag (bg cg (GI 0 2) (aj 2)) aF)) [some (.int n),some (.int ro),some (.int sg),some (.int a),some (.int s),some (.int t),some (.int z)] H [.int (n % sg),.int (n / sg % sg)]:=.c (.mod (.va rfl) (.va rfl) h2.1) (.c (.mod (.dv (.va rfl) (.va rfl) ⟨h2.1,by lia⟩) (.va rfl) h2.1) .ni);refine⟨_,rfl,_,rfl,_,rfl,Jo (GG (mj rd rfl fun q hq=>?_))⟩;have s1:=au (o:=.tup [.int (n % sg),.int (n / sg % sg)]) hq;have hq1:upd H q (.tup [.int (n % sg),.int (n / sg % sg)]) q=some (.tup ([n % sg,n / sg % sg].map .int)):=ah;generalize upd H q (.tup [.int (n % sg),.int (n / sg % sg)])=H1 at s1 hq1;have mem:∀ x∈[n % sg,n / sg % sg],0<=x/\x<sg:=fun x hx=>by
  rcases Mv.mp hx with e|e
  .rw[e];lia
  .rw[MH.mp e];lia
 refine⟨_,rfl,_,rfl,q,_,rfl,SqT.of hq1,fun _ _=>⟨by show 4<=_;rw[MV];lia,fin s1 hq1 (Mc _) mem⟩,fun q2 hq2=>⟨by show 4<=_;rw[MV];lia,fin (put:=([n % sg,n / sg % sg].drop (HT.sIx 2 0 none)).take (HT.sIx 2 2 (some z)-HT.sIx 2 0 none)) (s1.trans (au hq2)) ?_ ?_ fun x hx=>mem x (NG (Nk hx))⟩⟩
 .rw[ah];unfold ib;rw[List.map_take,List.map_drop];rfl
 .rw[MU,Oh];simp;lia
theorem BC (h:zO vs H Q E):Lg K (eQ Q) (start (nS 7) vs) H:=by obtain @⟨H,c,ro,sg,Q,E,hr,hs,k⟩:=h;have r1:0<ro/\ro<1073741824:=⟨hr.1,by lia⟩;have s1:0<sg/\sg<1073741824:=⟨hs.1,by lia⟩;refine cT (.mod (.mul (.ad (.mod (.va rfl) .k (by decide)) .k) .k (by decide)) .k (by decide)) ?_;refine cT (.mod (.va rfl) (.va rfl) hr.1) (cT (.dv (.va rfl) (.va rfl) r1) (cT (.mod (.va rfl) (.va rfl) hs.1) (cT (.dv (.va rfl) (.va rfl) s1) (cT (.mod (.va rfl) (.va rfl) hr.1) (cT (.dv (.va rfl) (.va rfl) r1) (cT (.mod (.va rfl) .k (by decide)) (cT (.dv (.va rfl) .k ⟨by decide,by decide⟩) ?_)))))));exact Lh (em hr.1) (em hs.1) (em hr.1) hs k
end
structure LH (ro room:Int) (wA:List Int) (ms:List Pz.Arr) (ends:List Int):Prop where
 a:∀ x,x∈ms↔(∃ s w,wA=s::w/\x=(room,s,ro+(w.length:Nat)))\/∃ t p s v,wA=t::(p++s::v)/\x=(ro+(v.length:Nat)+1,s,ro+(v.length:Nat))
 e:∀ x,x∈ends↔x=ro\/(wA=[]/\x=room)
section
variable {ro room:Int}{wA:List Int}{ms:List Pz.Arr}{ends:List Int}(M:LH ro room wA ms ends)(hr:room<ro)
include M hr
end
noncomputable def ke (e:Int):bh×V:=(.inl e,.bl true)
theorem qJ (m:List Int)(e:Int):b7 (m.map ke) (.inl e) (.bl true)=(Sp.add m e).map ke:=by
 unfold b7 Sp.add;by_cases h:e∈m
 .have ha:((m.map ke).any fun kv=>decide (kv.1=.inl e))=true:=Qh.mpr ⟨ke e,Md.mpr ⟨e,h,rfl⟩,Mp rfl⟩;rw[Mh h,Mh ha,Nf];refine M0 fun x _=>?_;show(if (ke x).1=.inl e then ((ke x).1,V.bl true) else ke x)=ke x;split<;>rfl
 .rw[Mj h,Mj fun z=>by obtain⟨y,hy,e1⟩:=Qh.mp z;obtain⟨x,hx,rfl⟩:=Md.mp hy;have e1:(ke x).1=.inl e:=ND e1;exact h (P8 e1▸hx),M8];rfl
theorem nG:∀(es m:List Int),fz (m.map ke) (es.map ke)=(es.foldl Sp.add m).map ke
 | [],_=>rfl
 |e::es,m=>by show fz (b7 (m.map ke) (.inl e) (.bl true)) (es.map ke)=_;rw[qJ];exact nG es _
def Eh (ds:List L3.D)(es:List Int):Prop:=ds=[.lst (es.map .int)]/\es.length<1000
def zT (ds:List L3.D):Res R:=@dite _ (∃ es,Eh ds es) (Classical.propDecidable _) (fun h=>.ok (.wk (Fj (Sp.marked h.choose)))) fun _=>.stuck
theorem Ei {es:List Int}(h:es.length<1000):zT [.lst (es.map .int)]=.ok (.wk (Fj (Sp.marked es))):=by have hex:∃ es',Eh [.lst (es.map .int)] es':=⟨es,rfl,h⟩;unfold zT;rw[dif_pos hex];have e:=hex.choose_spec.1;injection e with e _;injection e with e;exact MT (fun l=>Res.ok (R.wk (Fj (Sp.marked l)))) (jk e).symm
theorem yY (H:Hp)(m:Addr->Prop):∀ l:List Int,IsAll H m (l.map fun _=>L3.D.bl true) (l.map fun _=>V.bl true)
 | []=>rfl
 |_::l=>⟨_,_,rfl,rfl,yY H m l⟩
section
variable {X:Cx}{K:QQ}{mg:Str->Option QS}{H H':Hp}{vs ws:List V}{Q:VK}{E:XK}
def Cv:List V->Hp->VK->Prop:=fun xs H Q=>∃ l vs kvs,xs=[.ref l]/\Rd H l (.lst vs)/\oa H vs kvs/\∀ p,H p=none->Q (.ref p) (upd H p (.dK (fz [] kvs)))
theorem v7 (hc:X.calm=true):bn X (.type "dict") Cv:=rS hc
def Li (X:Cx)(scope:Scope)(tg elt:Expr)(tN:List Str):TS:=cV (eR Cv (ag (jC X scope tg tN [] [] elt [] (b8 X.K (aj 0))) aF))
theorem yZ {scope:Scope}{tg elt:Expr}{tN:List Str}(h1:tN.length=1)(hg:∀ cl C s3 H3 fp,PG (aU X scope (tN++[]) cl C s3 H3 fp) tg (aE 0))(he:∀ cl C s3 H3 fp,PE (aU X scope (tN++[]) cl C s3 H3 fp) elt (cD (ag (aj 0) (ag (tC (.bl true)) aF))))(h:vD mg 1 zT vs H Q E):Li X scope tg elt tN (eQ Q) (start (nS 1) vs) H:=by
 obtain⟨hl,ds,Ma,is,post⟩:=h;unfold zT at post;by_cases hex:∃ es,Eh ds es
 case neg=>rw[dif_neg hex]at post;exact post.elim
 rw[dif_pos hex]at post;have hc:=hex.choose_spec;generalize hex.choose=es at post hc;obtain⟨rfl,hz⟩:=hc;obtain⟨v0,r0,rfl,i0,rfl⟩:=is;obtain⟨a,wa,rfl,hla,iw⟩:=qq (Kq i0 fun _ _ e=>e);rw[jj iw]at hla;refine⟨_,rfl,a,rfl,⟨_,.inl hla⟩,?_⟩;refine jl (n:=es.length) hg (fun _ _ _ _ _=>gF) he (fun Dl i acc H'=>Same H H'/\H' Dl=some (.lst acc)/\(oa H' acc ((es.take i).map ke)/\acc.length=i)/\H Dl=none) (fun Dl hD=>⟨au hD,ah,⟨.nil,rfl⟩,hD⟩) (fun h=>h.2.1) (fun Dl i acc H' ⟨sm,_⟩ hi=>⟨_,.int es[i],.inl (bf sm hla),by rw[ME,Ml hi];rfl⟩) (fun Dl acc H' ⟨sm,_⟩=>⟨_,.inl (bf sm hla),by rw[Me];exact Mc _⟩) (fun Dl i acc H' xv H'' o hi ⟨sm,hD,⟨a2,la⟩,nD⟩ yy ho=>?_) fun Dl acc H' hD ⟨sm,hD',⟨a2,la⟩,_⟩=>?_
 .obtain⟨rfl,yy⟩:=yy;have yy:=yy _ (.inl (bf sm hla));rw[ME,Ml hi]at yy;cases yy;rw[h1]at ho;obtain⟨u0,rfl⟩:=Nu.mp ho;refine⟨fun j hj=>?_,gf (mj (ws:=[.int es[i],.bl true]) (.c (.va rfl) (.c .k .ni)) rfl fun p hp=>?_)⟩
  .rw[h1]at hj;obtain⟨j,rfl⟩:=Nx hj;rfl
  .have np:Dl≠p:=aB hD hp;have s2:Same H'' (upd H'' p (.tup [.int es[i],.bl true])):=au hp;have k3:KT H'' (upd (upd H'' p (.tup [.int es[i],.bl true])) Dl (.lst (acc++[.ref p]))):=(KT.of s2).trans (.upd (s2 _ _ hD) fun _ z=>(nomatch z));refine⟨s2 _ _ hD,o_ (by lia),fun c u e=>?_,ah,⟨?_,by rw[MB,la];rfl⟩,nD⟩
   .rw[aA (aB e nD)];exact s2 _ _ (sm _ _ e)
   .rw[NF,Ml hi,Option.toList_some,M8];exact Paired.snoc (Paired.imp' (fun a b ⟨p,e,e1⟩=>⟨p,e,k3 _ _ e1⟩) a2) ⟨p,rfl,by rw[aA (Ol np),ah];rfl⟩
 .rw[Ng]at a2;refine⟨Dl,acc,_,rfl,.inl hD',a2,fun d hd=>?_⟩;rw[show fz [] (es.map ke)=(Sp.marked es).map ke from nG es []];have nd:H d=none:=sm.free hd;refine post _ _ (sm.trans (au hd)) ⟨d,_,rfl,⟨.inl ⟨_,.inl ah,?_,rfl⟩,nd,_,ah,True.intro⟩,?_⟩
  .rw[Nf];rfl
  .rw[Nf];exact yY _ _ _
end
theorem srtI9:Sp.cO aP:=⟨fun l x=>gG x l,fun l=>(gn l).imp fun{a b} h=>by lia⟩
def v8 (ro sg:Int):List (Int×Int):=(Sp.nums 0 ro).flatMap fun a=>(Sp.nums 0 sg).map fun b=>(a,b)
theorem y_ (sg m:Int):(Sp.box sg m).length=m.toNat*(sg.toNat*m.toNat):=by unfold Sp.box;simp[List.length_flatMap,List.map_const',List.sum_replicate_nat]
section
variable {X:Cx}{D:Ends}{sc:List Int}
structure KC (X:Cx) (scope:Scope) (tg elt:Expr) (tN capN:List Str) (caps:List Nat):Prop where
 h:tN.length=1
 c:caps=[2,3]
 g:∀ cl C s3 H3 fp,PG (aU X scope (tN++capN) cl C s3 H3 fp) tg (aE 0)
 e:∀ cl C s3 H3 fp,PE (aU X scope (tN++capN) cl C s3 H3 fp) elt (cn zO [] E0 (ag (aj 0) (ag (aj 1) (ag (aj 2) aF))))
def zb (ds:List L3.D):Prop:=∃ sc:List Int,ds=[.lst (sc.map .int)]/\sc.length<=63
end
end L4
namespace Sp
variable {n N:Int}{rs:RS}{S T:St}{MI:List ((Int×Int)×Int)}
structure Rg (N:Int) (S:St):Prop where
 h:∀ a,dm S a->a.1<N/\a.2.2<N
 d:∀ a∈S.du,dm S a
 f:∀ s r,r∈fol S s->r<N
theorem Rg.lead (s:Rg N S){a g t:Int}(h1:a<N)(h2:t<N):Rg N (lead S a g t):=by
 refine⟨fun x hx=>?_,fun b hb=>?_,fun x r hr=>s.f x r (by unfold fol at *;rw[dz]at hr;exact hr)⟩
 .rcases (bj ..).mp hx with q|q
  .exact s.h _ q
  .rw[q];exact⟨h1,h2⟩
 .rw[j8]at hb;refine(bj ..).mpr ?_;split at hb
  .exact .inl (s.d b hb)
  .rcases MO.mp hb with hb|hb
   .exact .inl (s.d b hb)
   .exact .inr (MH.mp hb)
theorem Rg.aG {r g:Int}(hr:r<N):∀(ts:List Int){S:St},Rg N S->(∀ t∈ts,t<N)->Rg N (aG r S (g,ts))
 | [],_,s,_=>s
 |t::ts,S,s,h=>Rg.aG hr ts (s.lead hr (h t Mr)) fun t' ht'=>h t' (Ms _ ht')
theorem Rg.copy {r:Int}(hr:r<N):∀(l:List (Int×List Int)){S:St},Rg N S->(∀ x∈l,∀ t∈x.2,t<N)->Rg N (l.foldl (Sp.aG r) S)
 | [],_,s,_=>s
 |x::l,S,s,h=>Rg.copy hr l (Rg.aG hr x.2 s (h x Mr)) fun y hy=>h y (Ms _ hy)
theorem Rg.aV (s:Rg N S)(k:KT S){r t:Int}(h:r<N):Rg N (aV S r t):=by
 unfold Sp.aV;split
 .exact s
 .have s1:Rg N (fV S r t):=by
   refine⟨s.h,s.d,fun x q hq=>?_⟩;rw[fc]at hq;split at hq
   .rename_i e;subst e;rcases MO.mp hq with hq|hq
    .exact s.f _ q hq
    .rw[MH.mp hq];exact h
   .exact s.f _ q hq
  exact Rg.copy h (S:=fV S r t) _ s1 fun x hx u hu=>(s.h (t,x.1,u) (by unfold dm leaf;rw[get_of (k.k2 t) hx];exact hu)).2
theorem Rg.aX (s:Rg N S)(k:KT S)(ms:∀ x∈MI,x.2<N){t:Int}{r:Rule}(h2:r.2.2.2.length<=2)(ht:t<N)(hr:r.2.2.1<N)(hM:∀ x∈(Sp.aX n t S r).mi,x∈MI):Rg N (Sp.aX n t S r):=by
 obtain⟨r0,r1,r2,p⟩:=r;dsimp only at h2 hr
 match p with
 | []=>exact s.aV k hr
 | [x]=>exact s.lead hr ht
 | [x,y]=>
  have hm:((r2,x),midS n S r2 x)∈MI:=hM _ (by
   show _∈(Sp.lead (Sp.lead (Sp.midM n S r2 x) r2 x (midS n S r2 x)) (midS n S r2 x) y t).mi;rw[cr,cr];unfold Sp.midM midS;split
   .rename_i q;obtain⟨v,hv⟩:=Of.mp q;rw[hv];exact iQ hv
   .rename_i q;have q:get S.mi (r2,x)=none:=by simpa using q
    rw[q];simp)
  have s1:Rg N (Sp.midM n S r2 x):=by
   unfold Sp.midM;split
   .exact s
   .exact⟨s.h,s.d,s.f⟩
  exact(s1.lead hr (ms _ hm)).lead (ms _ hm) ht
theorem Rg.rules (ms:∀ x∈MI,x.2<N){t:Int}(ht:t<N):∀(rl:List Rule){S:St},Rg N S->KT S->(∀ r∈rl,r.2.2.2.length<=2/\r.2.2.1<N)->(∀ x∈(rl.foldl (Sp.aX n t) S).mi,x∈MI)->Rg N (rl.foldl (Sp.aX n t) S)
 | [],_,s,_,_,_=>s
 |r::rl,S,s,k,h,hM=>by have a:=h r Mr;exact Rg.rules ms ht rl (s.aX k ms a.1 ht a.2 fun x hx=>hM x ((lG (n:=n) t rl _).1 x hx)) (k.zD t r) (fun q hq=>h q (Ms _ hq)) hM
theorem Rg.dQ {g t:Int}(ht:t<N):∀(rl:List Int){S:St},Rg N S->KT S->(∀ r∈rl,r<N)->Rg N (rl.foldl (fun S r=>Sp.lead S r g t) S)/\KT (rl.foldl (fun S r=>Sp.lead S r g t) S)
 | [],_,s,k,_=>⟨s,k⟩
 |r::rl,S,s,k,h=>Rg.dQ ht rl (s.lead (h r Mr) ht) (k.lead ..) fun q hq=>h q (Ms _ hq)
theorem Loop.rg {k:Nat}(ms:∀ x∈MI,x.2<N)(hr:∀ s g,∀ r∈bG rs s g,r.2.2.2.length<=2/\r.2.2.1<N)(h:Loop n rs k S T)(hM:∀ x∈T.mi,x∈MI):Rg N S->KT S->Rg N T:=by
 induction h with
 |done _=>exact fun s _=>s
 | @step k S T a hd _ _ l ih=>
  intro s kt;have ha:=s.h a (s.d a (List.mem_of_getLast? hd));have s0:Rg N (bo S):=⟨s.h,fun b hb=>s.d b (List.dropLast_subset _ hb),s.f⟩;obtain⟨s1,k1⟩:=Rg.dQ (g:=a.2.1) (t:=a.2.2) ha.2 (fol (bo S) a.1) s0 ⟨kt.k1,kt.k2⟩ fun r hq=>s.f a.1 r hq;have s2:=Rg.rules (n:=n) ms (t:=a.2.2) ha.2 (bG rs a.1 a.2.1) s1 k1 (fun r hq=>hr _ _ r hq) fun x hx=>hM x (l.mi.1 x hx);have k2:∀(rl:List Rule){S:St},KT S->KT (rl.foldl (Sp.aX n a.2.2) S):=fun rl=>by
   induction rl with
   |nil=>exact fun k=>k
   |cons r rl ih2=>intro S k;exact ih2 (k.zD _ r)
  exact ih hM s2 (k2 _ k1)
def Kept (ts:List Arr)(es:List Int)(r:Rule)(t:Int):Prop:=match r.2.2.2 with
 | []=>(∀ g u,(t,g,u)∈ts->(r.2.2.1,g,u)∈ts)/\(t∈es->r.2.2.1∈es)
 | [x]=>(r.2.2.1,x,t)∈ts
 |x::y::_=>∃ m,(r.2.2.1,x,m)∈ts/\(m,y,t)∈ts
theorem kept_of {ro:Int}{RL:List Rule}{jF:List Int->List Int}(hS:cO jF)(j:J ro (byHead RL) T uz vM)(hd:T.du=[]){r:Rule}(hr:r∈RL){t:Int}(h:(r.1,r.2.1,t)∈outs jF T):Kept (outs jF T) (jF T.en) r t:=by
 have h:=(outs_mem hS).mp h;have dn:Done ro (byHead RL) T (r.1,r.2.1,t):=by
  rcases j.dn _ h with q|q|q
  .exact q
  .rw[hd]at q;cases q
  .exact q.elim
 have led:Led ro T r t:=dn r (byHead_mem.mpr ⟨hr,rfl⟩);obtain⟨a,s,c,p⟩:=r;unfold Led at led;unfold Kept;rcases p with _|⟨x,_|⟨y,l⟩⟩
 .obtain⟨_,_,h3,h4⟩:=j.fo _ _ led;refine⟨fun g u hu=>?_,fun he=>(hS.m _ _).mpr (h3 ((hS.m _ _).mp he))⟩;rcases h4 g u ((outs_mem hS).mp hu) with q|q|q
  .exact(outs_mem hS).mpr q
  .rw[hd]at q;cases q
  .exact q.elim
 .exact(outs_mem hS).mpr led
 .obtain⟨m,_,h1,h2⟩:=led;exact⟨m,(outs_mem hS).mpr h1,(outs_mem hS).mpr h2⟩
end Sp
namespace L4
open PySem PySem.Spec PyProof.Rows L2 L3
theorem zd (S:Sp.St):SrtA (Sp.outs aP S):=by
 unfold Sp.outs SrtA;have lt:∀ l:List Int,(aP l).Pairwise (·< ·):=fun l=>gn l;rw[O0];refine⟨fun s _=>?_,(lt _).imp fun{a b} ne x hx y hy=>?_⟩
 .rw[O0];refine⟨fun g _=>?_,(lt _).imp fun{a b} ne x hx y hy=>?_⟩
  .rw[MQ];exact(lt _).imp fun{a b} ne=>by have:=QN ne;unfold aL;simp[bE,ne,this]
  .obtain⟨_,_,rfl⟩:=Md.mp hx;obtain⟨_,_,rfl⟩:=Md.mp hy;have:=QN ne;unfold aL;simp[bE,ne,this]
 .obtain⟨_,_,hx⟩:=NR.mp hx;obtain⟨_,_,hy⟩:=NR.mp hy;obtain⟨_,_,rfl⟩:=Md.mp hx;obtain⟨_,_,rfl⟩:=Md.mp hy;have:=QN ne;unfold aL;simp[bE,ne,this]
def Jr (ds:List L3.D)(ro:Int)(M:List Pz.Arr):Prop:=∃(h1 h2 m0 m2:L3.D),ds=[.tup [.int ro,h1,h2],.tup [m0,.lst (M.map eJ),m2]]/\M.length<1000
noncomputable def wz (ds:List L3.D):Res R:=@dite _ (∃ ro M,Jr ds ro M) (Classical.propDecidable _) (fun h=>if ∀ a∈h.choose_spec.choose,h.choose<=a.2.2 then .ok (.val .bS true []) else .exc "NotPlain") fun _=>.stuck
theorem sU {ro:Int} {h1 h2 m0 m2:L3.D} {M:List Pz.Arr} (z:M.length<1000):wz [.tup [.int ro,h1,h2],.tup [m0,.lst (M.map eJ),m2]]=if ∀ a∈M,ro<=a.2.2 then .ok (.val .bS true []) else .exc "NotPlain":=by
 have h:∃ r N,Jr [.tup [.int ro,h1,h2],.tup [m0,.lst (M.map eJ),m2]] r N:=⟨ro,M,_,_,_,_,rfl,z⟩;unfold wz;rw[dif_pos h];obtain⟨a,b,c,d,e,_⟩:=h.choose_spec.choose_spec;injection e with e1 e2;injection e1 with e1;injection e1 with e1 _;injection e1 with e1;injection e2 with e2 _;injection e2 with e2;injection e2 with _ e2;injection e2 with e2 _;injection e2 with e2;have e2:=j4 (fun h=>qr h) e2;have key:∀ r' M',ro=r'->M=M'->(if ∀ a∈M',r'<=a.2.2 then Res.ok (R.val .bS true []) else Res.exc "NotPlain")=if ∀ a∈M,ro<=a.2.2 then Res.ok (R.val .bS true []) else Res.exc "NotPlain":=fun r' M' q1 q2=>by subst q1 q2;rfl
 exact key _ _ e1 e2
section
variable {X:Cx}{mg:Str->Option QS}{H H':Hp}{vs:List V}{Q:VK}{E E1:XK}{C:Addr}
inductive zA:Sp
 |mk {H:Hp} {p q l:Addr} {ro:Int} {rest us:List V} {a b:V} {M:List Pz.Arr} {Q:VK} {E:XK} (hp:H p=some (.tup (.int ro::rest))) (hq:H q=some (.tup [a,.ref l,b])) (hl:Rd H l (.lst us)) (al:a_ (IsArr H) M us) (zm:M.length<1000) (k:∀ H',Same H H'->Q (.bl (decide (∀ a∈M,ro<=a.2.2))) H'):zA [.ref p,.ref q] H Q E
theorem zg (h:zA vs H Q E):vs.length=2:=by cases h;rfl
theorem BD {scope:Scope}{tg elt:Expr}{tN capN:List Str}{caps:List Nat}(c:LO X scope tg elt tN capN caps)(h:zA vs H Q E):Ld X scope tg elt tN capN caps (eQ Q) (start (nS 2) vs) H:=by
 obtain @⟨H,p,q,l,ro,rest,us,a,b,M,Q,E,hp,hq,hl,al,zm,k⟩:=h;have ln:=al.len;refine Reads.ix (n:=1) (.va (i:=1) rfl) hq (v:=.ref l) (fw (j:=1) rfl) _ ⟨l,rfl,⟨_,.inl hl⟩,?_⟩;refine jl (n:=M.length) c.g (fun _ _ _ _ _=>gF) c.e (fun Dl i acc H'=>Same H H'/\H' Dl=some (.lst acc)/\acc=((M.take i).map fun a=>decide (ro<=a.2.2)).map V.bl/\H Dl=none) (fun Dl hD=>⟨au hD,ah,rfl,hD⟩) (fun h=>h.2.1) (fun Dl i acc H' ⟨sm,_⟩ hi=>⟨us,us[i]'(by lia),.inl (bf sm hl),Ml _⟩) (fun Dl acc H' ⟨sm,_⟩=>⟨us,.inl (bf sm hl),by lia⟩) (fun Dl i acc H' xv H'' o hi ⟨sm,hD,ea,nD⟩ yy ho=>?_) fun Dl acc H' hD ⟨sm,hD',ea,_⟩=>⟨Dl,acc,_,rfl,SqL.of hD',ea,?_⟩
 .obtain⟨rfl,yy⟩:=yy;obtain⟨x,hx,b0,rfl,hb⟩:=al.get (yy _ (.inl (bf sm hl)));have hb:=sm _ _ hb;rw[c.h]at ho;obtain⟨u0,rfl⟩:=Nu.mp ho;rw[c.c];refine⟨fun j hj=>?_,gf (Reads.ix (n:=2) (.va (i:=0) rfl) hb (v:=.int x.2.2) rfl _ (Reads.ix (n:=0) (.va (i:=1) rfl) (sm _ _ hp) (v:=.int ro) (fw (j:=0) rfl) _ ⟨_,_,rfl,rfl,hD,o_ (by rw[ea,Me,Me,MU];lia),fun c u e=>by rw[aA (aB e nD)];exact sm _ _ e,ah,?_,nD⟩))⟩
  .rw[c.h]at hj;obtain⟨j,rfl⟩:=Nx hj;rfl
  .show acc++[V.bl (decide (ro<=x.2.2))]=_;rw[NF,hx,M8,M8,ea];rfl
 .rw[Ng];have:((M.map fun a=>decide (ro<=a.2.2)).all id)=decide (∀ a∈M,ro<=a.2.2):=by rw[Oa,NZ,decide_eq_true_iff];exact⟨fun h a ha=>ND (h _ (Md.mpr ⟨a,ha,rfl⟩)),fun h x hx=>by obtain⟨a,ha,rfl⟩:=Md.mp hx;exact Mp (h a ha)⟩
  rw[this];exact k H' sm
def Lj (m:Str)(C:Addr)(E E1:XK):TS:=cm (gX (tB (cn zA [] E1 (ag (aj 0) (ag (aj 1) aF))))) (xk (ag (tC (.str m)) aF) (fun H=>E (.ref C) none H)) bH
theorem BE {m:Str} (hC:mg "NotPlain"=some (.ref C)) (h:vD mg 2 wz vs H Q E):Lj m C E E1 (eQ Q) (start (nS 2) vs) H:=by
 obtain⟨hl,ds,Ma,is,post⟩:=h;by_cases c:∃ ro M,Jr ds ro M
 .obtain⟨ro,M,h1,h2,m0,m2,rfl,zm⟩:=c;rw[sU zm]at post;obtain⟨v0,r0,rfl,⟨p,ps,rfl,hp,w5,t5,rfl,j5,w6,t6,rfl,j6,w7,t7,rfl,j7,rfl⟩,v1,r1,rfl,⟨q,ws,rfl,hq,w0,t0,rfl,j0,w1,t1,rfl,⟨l,xs,rfl,hx,ex⟩,w2,t2,rfl,j2,rfl⟩,rfl⟩:=is;cases (show w5=.int ro from j5);refine⟨_,rfl,_,rfl,.mk hp hq (hx.imp (·.1) fun⟨o,h⟩=>⟨o,h.1⟩) (uF ex) zm fun H' s=>⟨_,rfl,?_⟩⟩;by_cases g:∀ a∈M,ro<=a.2.2
  .rw[Mh g]at post;rw[Mp g];exact b_ (post _ _ s rfl)
  .rw[Mj g]at post;rw[My g];exact gf ⟨by show 1<=_;rw[MV];lia,post _ _ _ hC s⟩
 .unfold wz at post;rw[dif_neg c]at post;exact post.elim
end
structure JW (sg n:Int) (RL:List Pz.Rule) (t0:List Pz.Arr) (e0:List Int) (n':Int) (ts:List Pz.Arr) (es:List Int):Prop where
 n:n<=n'/\n'<1000
 b:∀ a∈ts,(0<=a.1/\a.1<n')/\(0<=a.2.1/\a.2.1<sg)/\0<=a.2.2/\a.2.2<n'
 e:∀ e∈es,0<=e/\e<n'
 s:SrtA ts
 p:es.Pairwise (·< ·)
 c:∀ r∈RL,∀ t,(r.1,r.2.1,t)∈ts->Sp.Kept ts es r t
 t:∀ a∈t0,a∈ts
 f:∀ e∈e0,e∈es
 z:ts.length<=980
 y:es.length<=63
theorem GP {ro sg n:Int}{RL:List Pz.Rule}{t0:List Pz.Arr}{e0:List Int}(hr:0<ro/\ro<=3)(hs:0<sg/\sg<=4)(hn:ro<=n/\n<=ro+3)(rr:∀ r∈RL,Fs ro sg r)(zr:RL.length<=60)(lim:∀ x∈t0,(0<=x.1/\x.1<n)/\(0<=x.2.1/\x.2.1<sg)/\ro<=x.2.2/\x.2.2<n)(lie:∀ e∈e0,0<=e/\e<n)(z0:t0.length<=72)(y0:e0.length<=63) :
 ∃ n' ts es,zS wz zT [fE ro sg RL,mD n t0 e0]=.ok (.wk (mD n' ts es))/\JW sg n RL t0 e0 n' ts es:=by
 have lk:(v8 ro sg).length=ro.toNat*sg.toNat:=by unfold v8;rw[Sp.prod_len,Sp.nums_len,Sp.nums_len];simp
 have lk9:(v8 ro sg).length<=12:=by rw[lk];exact Mq (Qb (show ro.toNat<=3 by lia) (show sg.toNat<=4 by lia)) (by decide)
 have lb:(Sp.box sg (n+(v8 ro sg).length)).length<15000000:=by rw[y_];exact Nn (Qb (show _<=19 by lia) (Qb (show sg.toNat<=4 by lia) (show _<=19 by lia))) (by decide)
 obtain⟨k,T,pp,x0,xf,x1,x2,x3,x4,x5,x6,x7,x8⟩:=Sp.run (ro:=ro) (n:=n) (sg:=sg) (ks:=v8 ro sg) (RL:=RL) (ts:=t0) (es:=e0) (by lia) (by lia) lb (by lia) (by lia) (fun r h=>by
  have q:=rr r h;refine⟨q.t,q.q,fun x y w hw=>?_⟩;have hx:=q.q x (by rw[hw];simp);exact NR.mpr ⟨r.2.2.1,Sp.nums_mem q.t.1 q.t.2,Md.mpr ⟨x,Sp.nums_mem hx.1 hx.2,rfl⟩⟩) (fun a ha=>by
  obtain⟨a1,a2,a3⟩:=lim a ha;exact⟨⟨a1,a2,by lia,a3.2⟩,a3.1⟩) lie
 have lo:=Sp.outs_len srtI9 x4 x2.to (by lia) (by lia) (by lia) (p:=15) (q:=15) (by lia) (by lia);have ls:15*(sg.toNat*15)<=900:=by lia
 have ml:T.mi.length<=12:=by
  have:=Sp.nodup_sub (U:=v8 ro sg) x4.mc fun e he=>by obtain⟨x,hx,rfl⟩:=Md.mp he;exact x4.ms x hx
  rw[Me]at this;lia
 have le':(aP T.en).length<=63:=by
  have:=Sp.nodup_sub (U:=Sp.nums 0 n) (srtI9.n T.en) fun e he=>by have:=x4.er e ((srtI9.m _ _).mp he);exact Sp.nums_mem this.1 this.2
  rw[Sp.nums_len]at this;lia
 obtain⟨z1,z2,z3,z4⟩:=x4.small x3;have kt0:Sp.KT (Sp.begun t0 e0):=by
  have key:∀(ts:List Pz.Arr)(S:Sp.St),Sp.KT S->Sp.KT (ts.foldl (fun S a=>Sp.lead S a.1 a.2.1 a.2.2) S):=fun ts=>by
   induction ts with
   |nil=>exact fun _ h=>h
   |cons a ts ih=>exact fun S h=>ih _ (h.lead ..)
  exact key t0 _ ⟨by unfold Sp.Keys Sp.start;simp,fun s=>by unfold Sp.Keys Sp.start Sp.row;simp[Sp.get]⟩
 have rg0:Sp.Rg (n+T.mi.length) (Sp.begun t0 e0):=by
  have key:∀(l:List Pz.Arr){S:Sp.St},Sp.Rg (n+T.mi.length) S->(∀ a∈l,a∈t0)->Sp.Rg (n+T.mi.length) (l.foldl (fun S a=>Sp.lead S a.1 a.2.1 a.2.2) S):=fun l=>by
   induction l with
   |nil=>exact fun s _=>s
   |cons a l ih=>intro S s hl;have ha:=lim a (hl a Mr);exact ih (s.lead (by lia) (by lia)) fun b hb=>hl b (Ms _ hb)
  exact key t0 ⟨fun a q=>absurd q (Sp.start_has _),(fun a q=>nomatch q),fun s r q=>by rw[Sp.start_fol]at q;cases q⟩ fun a ha=>ha
 have rg:=Sp.Loop.rg (MI:=T.mi) (fun x hx=>(x4.mv x hx).2) (fun s g r hq=>by obtain⟨hq,_⟩:=Sp.byHead_mem.mp hq;have q:=rr r hq;exact⟨q.p,by have:=q.t;lia⟩) x1 (fun _ h=>h) rg0 kt0;refine⟨n+T.mi.length,Sp.outs aP T,aP T.en,?_,⟨by lia,fun a ha=>?_,fun e he=>?_,zd T,gn _,fun r hr' t ht=>Sp.kept_of srtI9 x2 x5 hr' ht,fun a ha=>(Sp.outs_mem srtI9).mpr (x6 a ha),fun e he=>(srtI9.m _ _).mpr (x7 e he),by lia,le'⟩⟩
 .have pl:wz [fE ro sg RL,mD n t0 e0]=.ok (.val .bS true []):=(sU (by lia)).trans (Mh fun x hx=>(lim x hx).2.2.1);exact D8 (Fr:=wz) (Fm:=zT) ⟨rfl,by lia,xf,x1,⟨by lia,fun s=>by have:=z2 s;lia,fun s g=>by have:=z3 s g;lia,by lia⟩,by lia,Ei (by lia),rfl⟩ pl
 .have h:=(Sp.outs_mem srtI9).mp ha;have h1:=x4.bx a h;have h2:=rg.h a h;exact⟨⟨h1.1.1,h2.1⟩,h1.2.1,h1.2.2.1,h2.2⟩
 .have:=x4.er e ((srtI9.m _ _).mp he);lia
section
variable {X:Cx}{K:QQ}{H H':Hp}{D:Ends}{σ:L2.St}{vs ws:List V}{Q:VK}{E:XK}{ro sg own cp:Int}{cl:Addr}{cs:List Int}
inductive zC:Sp
 |mk {H:Hp} {c ro own sg:Int} {Q:VK} {E:XK} (hr:0<ro/\ro<1000) (ho:0<own/\own<1000) (hs:0<sg/\sg<1000) (k:∀ v x H',Same H H'->IsArr H' x v->JV ro own sg x->Q v H'):zC [.int c,.int ro,.int own,.int sg] H Q E
theorem zh (h:zC vs H Q E):vs.length=4:=by cases h;rfl
def Ll:TS:=aN (bq (bg cg (bg lD (bg cR (bg cg (aj 0) (tC (.int 2147483587))) (tC (.int 7))) (tC (.int 16807))) (tC (.int 2147483587))) (aE 0)) (aN (bq (bg cg (aj 0) (bg cR (aj 1) (aj 2))) (aE 4)) (aN (bq (bg fg (aj 0) (bg cR (aj 1) (aj 2))) (aE 0)) (aN (bq (bg cg (aj 0) (aj 3)) (aE 5)) (aN (bq (bg fg (aj 0) (aj 3)) (aE 0)) (cV (cD (ag (aj 4) (ag (aj 5) (ag (bg cR (aj 1) (bg cg (aj 0) (aj 2))) aF)))))))))
theorem BF (h:zC vs H Q E):Ll (eQ Q) (start (nS 6) vs) H:=by
 obtain @⟨H,c,ro,own,sg,Q,E,hr,ho,hs,k⟩:=h;have h1:0<ro+own:=by lia
 refine cT (.mod (.mul (.ad (.mod (.va rfl) .k (by decide)) .k) .k (by decide)) .k (by decide)) ?_;generalize (c % 2147483587+7)*16807 % 2147483587=n0;refine cT (.mod (.va rfl) (.ad (.va rfl) (.va rfl)) h1) (cT (.dv (.va rfl) (.ad (.va rfl) (.va rfl)) ⟨h1,by lia⟩) (cT (.mod (.va rfl) (.va rfl) hs.1) (cT (.dv (.va rfl) (.va rfl) ⟨hs.1,by lia⟩) ?_)));have e1:=em (a:=n0) h1;have e2:=em (a:=n0 / (ro+own)) hs.1;have e3:=em (a:=n0 / (ro+own) / sg) ho.1;refine mj (ws:=[.int (n0 % (ro+own)),.int (n0 / (ro+own) % sg),.int (ro+n0 / (ro+own) / sg % own)]) (.c (.va rfl) (.c (.va rfl) (.c (.ad (.va rfl) (.mod (.va rfl) (.va rfl) ho.1)) .ni))) rfl fun p hp=>?_;exact k (.ref p) (n0 % (ro+own),n0 / (ro+own) % sg,ro+n0 / (ro+own) / sg % own) _ (au hp) ⟨p,rfl,ah⟩ ⟨e1,e2,by show ro<=ro+_/\ro+_<ro+own;lia⟩
structure Dr (ro sg n:Int) (ms:List Pz.Arr) (ends:List Int):Prop where
 k:ro<=n/\n<=ro+3
 a:∀ x∈ms,(0<=x.1/\x.1<n)/\(0<=x.2.1/\x.2.1<sg)/\ro<=x.2.2/\x.2.2<n
 s:SrtA ms
 z:ms.length<=40
 e:∀ e∈ends,0<=e/\e<n
 ze:ends.length<=6
inductive zK:Sp
 |mk {H:Hp} {cp ro sg:Int} {cl:Addr} {cs:List Int} {Q:VK} {E:XK} (hl:Rd H cl (.lst (cs.map .int))) (zc:cs.length<=40) (hr:0<ro/\ro<=3) (hs:0<sg/\sg<=4) (k:∀ mp la le n ms mv ends H',Same H H'->fX H' mp la le n ms mv ends->Dr ro sg n ms ends->Q (.ref mp) H'):zK [.ref cl,.int cp,.int ro,.int sg] H Q E
theorem zi (h:zK vs H Q E):vs.length=4:=by cases h;rfl
structure LJ (X:Cx) (scope:Scope) (tg elt:Expr) (tN capN:List Str) (caps:List Nat):Prop where
 h:tN.length=1
 c:caps=[2,4,3]
 g:∀ cl C s3 H3 fp,PG (aU X scope (tN++capN) cl C s3 H3 fp) tg (aE 0)
 e:∀ cl C s3 H3 fp,PE (aU X scope (tN++capN) cl C s3 H3 fp) elt (cn zC [] E0 (ag (aj 0) (ag (aj 1) (ag (aj 2) (ag (aj 3) aF)))))
def Js:TT:=bK (bg Al (bg GN (bg GM (aj 1) (aj 0)) (tC (.int 1))) (tC (.int 1)))
structure LK (X:Cx) (scope:Scope) (tg elt:Expr) (tN capN:List Str) (caps:List Nat) (ifs:List Expr):Prop where
 h:tN.length=1
 c:caps=[6]
 g:∀ cl C s3 H3 fp,PG (aU X scope (tN++capN) cl C s3 H3 fp) tg (aE 0)
 t:∀ cl C s3 H3 fp,DB (aU X scope (tN++capN) cl C s3 H3 fp) ifs Js
 e:∀ cl C s3 H3 fp,PE (aU X scope (tN++capN) cl C s3 H3 fp) elt (aj 0)
structure ER where
 (EU E7:Scope)
 (Fy Hw Fo HH:Expr)
 (EM Fq EY Ft:List Str)
 (HA HE:List Nat)
 (if2:List Expr)
structure KM (X:Cx) (S:ER):Prop where
 c1:LJ X S.EU S.Fy S.Hw S.EM S.Fq S.HA
 c2:LK X S.E7 S.Fo S.HH S.EY S.Ft S.HE S.if2
def Ej (X:Cx):TS:=cV (cD (ag (bg cR (aj 2) (aj 4)) (ag (eR (yL X) (ag (eR (yK X) (ag (aj 5) aF)) aF)) (ag (aj 7) aF))))
def GQ (X:Cx)(S:ER):TS:=aN (oQ X S.E7 S.Fo S.HH S.EY S.Ft S.HE S.if2 7 (wL (ag (bg cR (aj 2) (aj 4)) aF))) (Ej X)
def GR (X:Cx)(S:ER):TS:=aN (bq (bg fg (aj 1) (tC (.int 4))) (aE 6)) (GQ X S)
def GS (X:Cx)(S:ER):TS:=aN (cm (bK (bg KU (aj 4) (tC (.int 0)))) (oQ X S.EU S.Fy S.Hw S.EM S.Fq S.HA [] 5 (b8 X.K (aj 0))) bH) (GR X S)
def Lm (X:Cx)(S:ER):TS:=aN (bq (bg cg (aj 1) (tC (.int 4))) (aE 4)) (aN (bq (wU aF) (aE 5)) (GS X S))
def zj (cl:Addr)(cp ro sg own:Int)(x5 x6 x7:Option V):L2.St:=[some (.ref cl),some (.int cp),some (.int ro),some (.int sg),some (.int own),x5,x6,x7]
theorem Kr {S:ER}{lv:Addr}{av:List V}{as:List Pz.Arr}{x6 x7:Option V}(C:KM X S)(hlv:H lv=some (.lst av))(aa:a_ (IsArr H) as av)(pa:∀ x∈as,JV ro own sg x)(za:as.length<=40)(hr:0<ro/\ro<=3)(ho:0<=own/\own<=3)(k:∀ mp la le n ms mv ends H',Same H H'->fX H' mp la le n ms mv ends->Dr ro sg n ms ends->D.rt (.ref mp) H'):GR X S D (zj cl cp ro sg own (some (.ref lv)) x6 x7) H:=by
 refine cT (.dv (.va rfl) .k ⟨by decide,by decide⟩) ?_;generalize cp / 4=bits;show GQ X S D (zj cl cp ro sg own (some (.ref lv)) (some (.int bits)) x7) H;refine Reads.ad (.va (i:=2) rfl) (.va (i:=4) rfl) _ ⟨_,rfl,by lia,by lia,?_⟩;refine Jq (List.range (ro+own).toNat) (fun k=>decide ((Builtin.bitAnd (bits / 2 ^ ((k:Nat):Int).toNat) 1)=1)) (fun k=>((k:Nat):Int)) (by rw[O9];lia) C.c2.g C.c2.t C.c2.e (fun i H' sm hi=>by rwa [O9]at hi) (fun H' sm=>by rw[O9];exact Mc _) (fun i H' x H'' o a hx sm y ho'=>?_) fun le H2 ne s2 hle=>?_
 .obtain⟨rfl,rfl⟩:=y;obtain rfl:i=a:=by obtain⟨_,e⟩:=Mg.mp hx;rw[List.getElem_range]at e;exact e
  rw[C.c2.h]at ho';obtain⟨u0,rfl⟩:=Nu.mp ho';rw[C.c2.c,Int.zero_add];refine⟨rfl,[some (.int i),some (.int bits)],fun Q q=>q,fun j hj=>?_,fun Q q=>?_,.va rfl⟩
  .rw[C.c2.h]at hj;obtain⟨j,rfl⟩:=Nx hj;rfl
  .exact(Reads.zZ (Reads.op (Reads.op (.va (i:=1) rfl) (.va (i:=0) (v:=.int (i:Nat)) rfl) fun _ q=>⟨_,_,rfl,rfl,Int.natCast_nonneg i,q⟩) .k fun _ q=>⟨_,_,rfl,rfl,q⟩) .k) _ ⟨_,rfl,q⟩
 have aa2:=aa.mono (jm (.of s2));show Ej X D (zj cl cp ro sg own (some (.ref lv)) (some (.int bits)) (some (.ref le))) H2
 delta Ej cV cD ag
 refine Reads.ad (.va (i:=2) rfl) (.va (i:=4) rfl) _ ?_;refine Ed (X:=X) (σ:=zj cl cp ro sg own (some (.ref lv)) (some (.int bits)) (some (.ref le))) (hs:=as) (.va (i:=5) rfl) (.inl (s2 _ _ hlv)) aa2 (by lia) (fun m nd hm=>Mq (Sp.nodup_sub nd (U:=as) hm) (by lia)) fun l3 ms mv H3 s3 _ hl3 am mm sd=>⟨_,rfl,by show 3<=_;rw[MV];lia,fun mp hmp=>?_⟩;have t4:=au (o:=.tup [.int (ro+own),.ref l3,.ref le]) hmp;refine k mp l3 le (ro+own) ms mv _ _ ((s2.trans s3).trans t4) ⟨ah,t4 _ _ hl3,am.mono (jm (.of t4)),t4 _ _ (s3 _ _ hle)⟩ ⟨by lia,fun x hx=>?_,sd,?_,fun e he=>?_,?_⟩
 .have:=pa x ((mm x).mp hx);exact⟨this.a,this.s,this.t⟩
 .exact Mq (Sp.nodup_sub sd.nd (U:=as) fun x hx=>(mm x).mp hx) (by lia)
 .obtain⟨k,hk,rfl⟩:=Md.mp he;have:=MZ.mp (List.mem_filter.mp hk).1;lia
 .rw[Me];refine Mq (List.length_filter_le _ _) ?_;rw[O9];lia
theorem BG {S:ER}(C:KM X S)(h:zK vs H Q E):Lm X S (eQ Q) (start (nS 8) vs) H:=by
 obtain @⟨H,cp,ro,sg,cl,cs,Q,E,hl,zc,hr,hs,k⟩:=h;refine cT (.mod (.va rfl) .k (by decide)) ?_;have ho:=em (a:=cp) (b:=4) (by decide);generalize cp % 4=own at ho;refine⟨ML _,fun l0 hl0=>?_⟩;have t1:=au (o:=.lst []) hl0;have c1:upd H l0 (.lst []) l0=some (.lst []):=ah;show GS X S _ (zj cl cp ro sg own (some (.ref l0)) none none) (upd H l0 (.lst []));generalize upd H l0 (.lst [])=H1 at t1 c1;refine e8 (Reads.op (.va (i:=4) rfl) .k fun _ q=>⟨_,_,rfl,rfl,q⟩) (fun c=>?_) fun c=>?_
 .have c:0<own:=ND c;have hl:=bf t1 hl;refine⟨_,rfl,cl,rfl,⟨_,.inl hl⟩,?_⟩;refine GL (R:=IsArr) (JV ro own sg) cs.length (by lia) C.c1.g C.c1.e jm (fun i H' sm hi=>⟨_,.int cs[i],.inl (bf sm hl),by rw[ME,Ml hi];rfl⟩) (fun H' sm=>⟨_,.inl (bf sm hl),by rw[Me];exact Mc _⟩) (fun i H' x H'' o hi sm y ho'=>?_) fun lv av as H2 nv s1 hlv aa pa la=>?_
  .obtain⟨rfl,y⟩:=y;have y:=y _ (.inl (bf sm hl));rw[ME,Ml hi]at y;cases y;rw[C.c1.h]at ho';obtain⟨u0,rfl⟩:=Nu.mp ho';rw[C.c1.c];refine⟨rfl,[some (.int cs[i]),some (.int ro),some (.int own),some (.int sg)],fun Q q=>q,fun j hj=>?_,fun Q q=>⟨_,rfl,_,rfl,_,rfl,_,rfl,.mk ⟨hr.1,by lia⟩ ⟨c,by lia⟩ ⟨hs.1,by lia⟩ fun v x H3 s3 ir ai=>q v x H3 s3 ir ai⟩⟩;rw[C.c1.h]at hj;obtain⟨j,rfl⟩:=Nx hj;rfl
  .exact Kr C hlv aa pa (by lia) hr (by lia) fun mp lm le n ms mv ends H3 s3 M d=>k mp lm le n ms mv ends H3 ((t1.trans s1).trans s3) M d
 .exact Kr C c1 .nil (fun _ h=>nomatch h) (ML _) hr (by lia) fun mp lm le n ms mv ends H3 s3 M d=>k mp lm le n ms mv ends H3 (t1.trans s3) M d
end
section
variable {X:Cx}{K:QQ}{H H':Hp}{D:Ends}{σ:L2.St}{vs ws:List V}{Q:VK}{E:XK}{l:Addr}
theorem Ek {prog:QR}{w:World}:jV prog w 1000:=fun _ _ _ _ _ _ _ ho t hz h=>sA ho t hz h
def zk (X:Cx):List V->Hp->VK->Prop:=fun xs H Q=>∃ l vs its,xs=[.ref l]/\Rd H l (.lst vs)/\TupsIn H vs its/\vs.length<=1200/\∀ p es,H p=none->cQ (eT X.prog X.w) es its->Q (.ref p) (upd H p (.ext fun h=>SetAt X.w h p es))
theorem v9 (hc:X.calm=true) (hu:X.A.units+64<cLine):bn X (.type "set") (zk X):=m6 hc hu
def zn (X:Cx):List V->Hp->VK->Prop:=fun xs H Q=>∃ p es its,xs=[.ref p]/\H p=some (.ext fun h=>SetAt X.w h p es)/\cQ (eT X.prog X.w) es its/\(∀ x∈its,H x.2=some (.tup ((iK x.1).map kV)))/\(∀ x∈its,x.1≠[])/\its.length<=1000/\∀ l ys,H l=none->i4 (fun x y=>bE x y=true) its ys->Q (.ref l) (upd H l (.lst (ys.map fun y=>.ref y.2)))
theorem v_ (hc:X.calm=true):bn X (.builtin "sorted") (zn X):=iB hc (by decide) Ek
theorem El {hs:List Pz.Arr}{ta:TE}(h:Reads ta σ H (.ref l))(hl:Rd H l (.lst vs))(a:a_ (IsArr H) hs vs)(hz:hs.length<=1000)
 (k:∀ l' ms ws H',Same H H'->H l'=none->H' l'=some (.lst ws)->a_ (IsArr H') ms ws->(∀ x,x∈ms↔x∈hs)->SrtA ms->Q (.ref l') H'):eR (zn X) (ag (eR (zk X) (ag ta aF)) aF) σ H Q:=by
 obtain⟨its,t1,t2⟩:=oT a;have tat:=jh t1;have li:its.length=hs.length:=by have:=MT List.length t2;rwa [Me,Me]at this
 have mem:∀ x∈its,∃ y∈hs,x.1=aL y:=fun x hx=>by
  have:x.1∈hs.map aL:=by rw[<- t2];exact Md.mpr ⟨x,hx,rfl⟩
  obtain⟨y,hy,e⟩:=Md.mp this;exact⟨y,hy,e.symm⟩
 refine h _ ⟨l,vs,its,rfl,hl,t1,by rw[<- a.len];lia,fun b es hb v=>?_⟩;have s1:=au (o:=.ext fun h=>SetAt X.w h b es) hb;refine⟨b,es,its,rfl,ah,v,fun x hx=>s1 _ _ (tat x hx),fun x hx z=>?_,by lia,fun l' ys hl' so=>?_⟩
 .obtain⟨y,_,e⟩:=mem x hx;rw[z]at e;cases e
 .have s2:=s1.trans (au (o:=.lst (ys.map fun y=>.ref y.2)) hl');have nb:H l'=none:=s1.free hl';have ysm:∀ y∈ys,y∈its:=so.sub;have ex:∃ ms:List Pz.Arr,ms.map aL=ys.map (·.1)/\a_ (IsArr (upd (upd H b (.ext fun h=>SetAt X.w h b es)) l' (.lst (ys.map fun y=>.ref y.2)))) ms (ys.map fun y=>.ref y.2):=by
   generalize upd (upd H b (.ext fun h=>SetAt X.w h b es)) l' (.lst (ys.map fun y=>.ref y.2))=H9 at s2;clear so hl';induction ys with
   |nil=>exact⟨[],rfl,.nil⟩
   |cons y ys ih=>obtain⟨ms,e1,e2⟩:=ih fun z hz=>ysm z (Ms _ hz);obtain⟨z,_,e3⟩:=mem y (ysm y Mr);refine⟨z::ms,by rw[MC,MC,e1,e3],.cons ⟨y.2,rfl,?_⟩ e2⟩;have:=s2 _ _ (tat y (ysm y Mr));rw[e3]at this;exact this
  obtain⟨ms,e1,e2⟩:=ex;refine k l' ms _ _ s2 nb ah e2 (fun x=>⟨fun hx=>?_,fun hx=>?_⟩) ?_
  .have:aL x∈ys.map (·.1):=by rw[<- e1];exact Md.mpr ⟨x,hx,rfl⟩
   obtain⟨y,hy,e⟩:=Md.mp this;obtain⟨z,hz,e3⟩:=mem y (so.sub y hy);rw[hI (e.symm.trans e3)];exact hz
  .have:aL x∈its.map (·.1):=by rw[t2];exact Md.mpr ⟨x,hx,rfl⟩
   obtain⟨z,hz,e⟩:=Md.mp this;obtain⟨y,hy,e3⟩:=so.all z hz;have:aL x∈ms.map aL:=by rw[e1];exact Md.mpr ⟨y,hy,e3.trans e⟩
   obtain⟨w,hw,e4⟩:=Md.mp this;rw[<- hI e4];exact hw
  .have:=so.pw;have pw:(ys.map (·.1)).Pairwise fun x y=>bE x y=true:=MQ.mpr this;rw[<- e1]at pw;exact MQ.mp pw
theorem zp {l z z':List Int}(h:uQ l z)(h':uQ l z'):z=z':=by
 have key:∀{z z':List Int},z.Pairwise (·< ·)->z'.Pairwise (·< ·)->(∀ x,x∈z↔x∈z')->z=z':=fun{z z'} p p' m=>by
  induction z generalizing z' with
  |nil=>cases z' with
   |nil=>rfl
   |cons b t=>exact absurd ((m b).mpr (by simp)) (by simp)
  |cons a t ih=>cases z' with
   |nil=>exact absurd ((m a).mp (by simp)) (by simp)
   |cons b t'=>
    rw[Np]at p p';have e:a=b:=by
     rcases Mv.mp ((m a).mp (by simp)) with e|h1
     .exact e
     .rcases Mv.mp ((m b).mpr (by simp)) with e|h2
      .exact e.symm
      .have:=p.1 b h2;have:=p'.1 a h1;lia
    subst e;rw[ih p.2 p'.2 fun x=>?_];have:=m x;simp only[Mv]at this;constructor
    .intro hx;rcases this.mp (.inr hx) with e|h
     .subst e;exact absurd (p.1 x hx) (by lia)
     .exact h
    .intro hx;rcases this.mpr (.inr hx) with e|h
     .subst e;exact absurd (p'.1 x hx) (by lia)
     .exact h
 exact key h.p h'.p fun x=>(h.m x).trans (h'.m x).symm
inductive zN:Sp
 |mk {H:Hp} {mp la le:Addr} {n sg low:Int} {ts:List Pz.Arr} {tv:List V} {es:List Int} {Q:VK} {E:XK} (h:fX H mp la le n ts tv es) (hn:low<=n) (b:∀ a∈ts,(0<=a.1/\a.1<n)/\(0<=a.2.1/\a.2.1<sg)/\0<=a.2.2/\a.2.2<n) (e:∀ e∈es,0<=e/\e<n) (s:SrtA ts) (p:es.Pairwise (·< ·)) (z:ts.length<=980) (y:es.length<=63) (k:∀ H',Same H H'->Q (.bl true) H'):zN [.ref mp,.int sg,.int low] H Q E
theorem zq (h:zN vs H Q E):vs.length=3:=by cases h;rfl
def Jt:R2:=qT fun i j=>.bl (decide (i<=j))
def f6 (a b:TE):TT:=gX (bK (wN Jt IV (tC (.int 0)) a b))
def Ks (a:TE):TT:=gX (tB (cn wl [] E0 (ag a aF)))
def Ju (K:QQ):TT:=tF (gX (tB (sQ K "tuple" (aj 0)))) (tF (bK (bg Iw (vY K 0) (tC (.int 3)))) (tF (Ks (tI K 0 0)) (bK (bg IV (tI K 0 0) (aj 2)))))
def Jv (K:QQ):TT:=tF (gX (tB (sQ K "list" (tI K 0 1)))) (gX (tB (sQ K "list" (tI K 0 2))))
def Jw (X:Cx) (scope:Scope) (tg elt:Expr) (tN:List Str):TT:=tF (gX (tB (sQ X.K "tuple" (aj 3)))) (tF (bK (bg Iw (vY X.K 3) (tC (.int 3)))) (gX (tB (eR (yM X.K) (ag (jC X scope tg tN [] [] elt [] (Gc X.K (aj 3))) aF)))))
def Em (K:QQ):TT:=tF (f6 (tI K 3 0) (tI K 0 0)) (tF (f6 (tI K 3 1) (aj 1)) (f6 (tI K 3 2) (tI K 0 0)))
def Jx (K:QQ):TT:=tF (Ks (aj 4)) (f6 (aj 4) (tI K 0 0))
def GT (X:Cx):TS:=aN (cm (bK (bg GK (tI X.K 0 1) (eR (zn X) (ag (eR (zk X) (ag (tI X.K 0 1) aF)) aF)))) qW bH) (cV (bg Dz (tI X.K 0 2) (eR (yO X) (ag (eR (yN X) (ag (tI X.K 0 2) aF)) aF))))
def GU (X:Cx):TS:=aN (dJ (b8 X.K (tI X.K 0 2)) (aE 4) (cm (Jx X.K) qW bH)) (GT X)
def GV (X:Cx)(scope:Scope)(tg elt:Expr)(tN:List Str):TS:=aN (dJ (b8 X.K (tI X.K 0 1)) (aE 3) (aN (cm (Jw X scope tg elt tN) qW bH) (cm (Em X.K) qW bH))) (GU X)
def Lo (X:Cx)(scope:Scope)(tg elt:Expr)(tN:List Str):TS:=aN (cm (Ju X.K) qW bH) (aN (cm (Jv X.K) qW bH) (GV X scope tg elt tN))
structure Lz (X:Cx) (scope:Scope) (tg elt:Expr) (tN:List Str):Prop where
 h:tN.length=1
 g:∀ cl C s3 H3 fp,PG (aU X scope (tN++[]) cl C s3 H3 fp) tg (aE 0)
 e:∀ cl C s3 H3 fp,PE (aU X scope (tN++[]) cl C s3 H3 fp) elt (cn wl [] E0 (ag (aj 0) aF))
noncomputable def jn (mp:Addr)(sg low:Int)(x3 x4:Option V):L2.St:=[some (.ref mp),some (.int sg),some (.int low),x3,x4]
variable {mp la le:Addr}{n sg low:Int}{ts:List Pz.Arr}{tv:List V}{es:List Int}{x3 x4:Option V}
theorem uI {a b:TE}{x y:Int}{Q:Bool->Hp->Prop}(ha:Reads a σ H (.int x))(hb:Reads b σ H (.int y))(h:0<=x/\x<y)(k:Q false H):f6 a b σ H Q:=by refine ha _ ⟨_,_,rfl,rfl,_,rfl,?_⟩;rw[Mp h.1];refine gf (hb _ ⟨_,_,rfl,rfl,_,rfl,?_⟩);rw[Mp h.2];exact k
theorem Lp (h:fX H mp la le n ts tv es)(s:SrtA ts)(p:es.Pairwise (·< ·))(z:ts.length<=980)(y:es.length<=63)(k:∀ H',Same H H'->D.rt (.bl true) H'):GT X D (jn mp sg low x3 x4) H:=by
 have r1:Reads (tI X.K 0 1) (jn mp sg low x3 x4) H (.ref la):=Reads.ix (K:=X.K) (n:=1) (.va (i:=0) rfl) h.p (v:=.ref la) rfl;have isA:∀{H:Hp}{q:Addr}{v:List V},H q=some (.lst v)->a_ (IsArr H) ts v->Is H Tr (.lst (ts.map eJ)) (.ref q):=fun{H q v} a b=>⟨q,_,rfl,.inl ⟨a,True.intro⟩,kd b⟩;have dA:L3.D.cE (ts.map eJ)<=49:=Mq (fC (n:=2) fun d hd=>by obtain⟨x,_,rfl⟩:=Md.mp hd;exact Oe rfl) (by decide);refine r1 _ ?_;refine El (X:=X) (hs:=ts) (σ:=jn mp sg low x3 x4) r1 (.inl h.a) h.i (by lia) fun l2 ms mv H1 s1 _ hl2 am mm sd=>?_;obtain rfl:=nF sd s mm;refine⟨_,Tr,Tr,isA (s1 _ _ h.a) (h.i.mono (jm (.of s1))),isA hl2 am,dA,⟨_,rfl,b_ ?_⟩⟩;have h1:=h.more s1;have r2:Reads (tI X.K 0 2) (jn mp sg low x3 x4) H1 (.ref le):=Reads.ix (K:=X.K) (n:=2) (.va (i:=0) rfl) h1.p (v:=.ref le) rfl;refine r2 _ ?_;refine D9 (X:=X) (σ:=jn mp sg low x3 x4) r2 (.inl h1.e) y fun l3 zz H2 s2 _ hl3 so=>?_;obtain rfl:es=zz:=by have e:uQ es es:=⟨fun _=>Iff.rfl,p⟩;exact zp e so
 have isI:∀{H:Hp}{q:Addr},H q=some (.lst (es.map .int))->Is H Tr (.lst (es.map .int)) (.ref q):=fun{H q} a=>⟨q,_,rfl,.inl ⟨a,True.intro⟩,cW _⟩;have dI:(L3.D.lst (es.map .int)).dep<=50:=by
  have:L3.D.cE (es.map L3.D.int)<=1:=fC fun d hd=>by obtain⟨z,_,rfl⟩:=Md.mp hd;exact ML _
  show L3.D.cE (es.map L3.D.int)+1<=50;lia
 refine⟨_,_,Tr,Tr,isI (s2 _ _ h1.e),isI hl3,⟨dI,dI⟩,?_⟩;rw[gk];exact k _ (s1.trans s2)
inductive JN (mp:Addr) (sg low:Int) (H1:Hp) (x3 x4:Option V) (i:Nat):L2.St->Hp->Prop
 |mk {H':Hp} {y3 y4:Option V}:Same H1 H'->JN mp sg low H1 x3 x4 i (jn mp sg low y3 y4) H'
theorem BH {scope:Scope}{tg elt:Expr}{tN:List Str}(C:Lz X scope tg elt tN)(h:zN vs H Q E):Lo X scope tg elt tN (eQ Q) (start (nS 5) vs) H:=by
 obtain @⟨H,mp,la,le,n,sg,low,ts,tv,es,Q,E,h,hn,b,e,s,p,z,y,k⟩:=h;have r0:∀{H':Hp}{y3 y4:Option V},Same H H'->Reads (tI X.K 0 0) (jn mp sg low y3 y4) H' (.int n):=fun s=>Reads.ix (K:=X.K) (n:=0) (.va (i:=0) rfl) (s _ _ h.p) (v:=.int n) rfl;have id0:Same H H:=fun _ _ e=>e;have lv:=h.i.len;refine Reads.Fk (dd:=.tup []) (.va rfl) (.inl (.tup h.p)) k7 _ ⟨_,rfl,b_ (Reads.len (.va rfl) h.p _ ⟨rfl,_,rfl,b_ (r0 id0 _ (.mk ⟨_,rfl,b_ (r0 id0 _ ⟨_,rfl,_,_,rfl,rfl,_,rfl,?_⟩)⟩))⟩)⟩;rw[My (by lia)];refine b_ (Reads.Fk (dd:=.lst []) (Reads.ix (K:=X.K) (n:=1) (.va (i:=0) rfl) h.p (v:=.ref la) rfl) (.inl (.lst h.a)) nz _ ⟨_,rfl,b_ (Reads.Fk (dd:=.lst []) (Reads.ix (K:=X.K) (n:=2) (.va (i:=0) rfl) h.p (v:=.ref le) rfl) (.inl (.lst h.e)) nz _ ⟨_,rfl,b_ ?_⟩)⟩);show GV X scope tg elt tN _ (jn mp sg low none none) H;refine ce (tl:=tI X.K 0 1) (Reads.ix (K:=X.K) (n:=1) (.va (i:=0) rfl) h.p (v:=.ref la) rfl _ ⟨la,rfl,⟨_,SqL.of h.a⟩,?_⟩);refine b9 (K:=X.K) (a:=la) (xs:=tv) (JN mp sg low H none none) (.mk id0) (fun i σ' H' _ z=>by cases z with|mk s=>exact SqL.of (s _ _ h.a)) (fun i v σ' H' hi z=>?_) fun σ' H' z=>?_
 .obtain @⟨H',y3,y4,s1⟩:=z;obtain⟨x,hx,q,rfl,hq⟩:=h.i.get hi;have hq:=s1 _ _ hq;obtain⟨b1,b2,b3⟩:=b x (MW hx);show aN _ _ _ (jn mp sg low (some (.ref q)) y4) H';refine Reads.Fk (dd:=.tup []) (.va rfl) (.inl (.tup hq)) k7 _ ⟨_,rfl,b_ (Reads.len (.va rfl) hq _ ⟨rfl,_,rfl,b_ ⟨_,rfl,q,rfl,.inr ⟨⟨_,SqT.of hq⟩,?_⟩⟩⟩)⟩;refine jl (n:=3) C.g (fun _ _ _ _ _=>gF) C.e (fun Dl i acc H2=>Same H' H2/\H2 Dl=some (.lst acc)/\acc=(List.replicate i true).map V.bl/\H' Dl=none) (fun Dl hD=>⟨au hD,ah,rfl,hD⟩) (fun h=>h.2.1) (fun Dl i acc H2 ⟨sm,_⟩ hi=>⟨ji x,(ji x)[i]'hi,SqT.of (sm _ _ hq),Ml _⟩) (fun Dl acc H2 ⟨sm,_⟩=>⟨ji x,SqT.of (sm _ _ hq),Mc _⟩) (fun Dl i acc H2 xv H3 o hi ⟨sm,hD,ea,nD⟩ yy ho=>?_) fun Dl acc H2 hD ⟨sm,hD',ea,_⟩=>⟨Dl,acc,_,rfl,SqL.of hD',ea,?_⟩
  .obtain⟨rfl,yy⟩:=yy;have yy:=yy _ (SqT.of (sm _ _ hq));rw[C.h]at ho;obtain⟨u0,rfl⟩:=Nu.mp ho;obtain⟨w,rfl⟩ : ∃ w,xv=.int w:=by have:=MW yy;simp only[ji,Mv,NY,Qu]at this;rcases this with r|r|r<;>exact⟨_,r⟩
   refine⟨fun j hj=>?_,gf ⟨_,rfl,.mk ⟨hD,o_ (by rw[ea,Me,OY];lia),fun c u e=>by rw[aA (aB e nD)];exact sm _ _ e,ah,?_,nD⟩⟩⟩
   .rw[C.h]at hj;obtain⟨j,rfl⟩:=Nx hj;rfl
   .rw[List.replicate_succ',M8,ea];rfl
  .have s2:=s1.trans sm;have rq:∀{j:Nat}{w:Int},(ji x)[j]?=some (.int w)->Reads (tI X.K 3 (j:Nat)) (jn mp sg low (some (.ref q)) y4) H2 (.int w):=fun{j w} ej=>Reads.ix (K:=X.K) (n:=(j:Nat)) (.va (i:=3) rfl) (sm _ _ hq) (v:=.int w) (fw ej);refine⟨_,rfl,b_ ?_⟩;show cm (Em X.K) qW bH _ (jn mp sg low (some (.ref q)) y4) H2
   delta cm Em tF
   dsimp only;refine uI (rq (j:=0) rfl) (r0 s2) b1 ?_;refine b_ (uI (rq (j:=1) rfl) (.va (i:=1) rfl) b2 ?_);refine b_ (uI (rq (j:=2) rfl) (r0 s2) b3 ?_);exact b_ (.mk s2)
 .obtain @⟨H',y3,y4,s1⟩:=z;have h1:=h.more s1;show GU X _ (jn mp sg low y3 y4) H';refine ce (tl:=tI X.K 0 2) (Reads.ix (K:=X.K) (n:=2) (.va (i:=0) rfl) h1.p (v:=.ref le) rfl _ ⟨le,rfl,⟨_,SqL.of h1.e⟩,?_⟩);refine b9 (K:=X.K) (a:=le) (xs:=es.map .int) (JN mp sg low H' none none) (.mk fun _ _ e=>e) (fun i σ' H' _ z=>by cases z with|mk s=>exact SqL.of (s _ _ h1.e)) (fun i v σ' H2 hi z=>?_) fun σ' H2 z=>?_
  .obtain @⟨H2,y3,y4,s2⟩:=z;rw[ME]at hi;obtain⟨w,hw,rfl⟩:=M5.mp hi;have bw:=e w (MW hw);show cm _ _ _ _ (jn mp sg low y3 (some (.int w))) H2;refine⟨_,rfl,.mk ⟨_,rfl,b_ ?_⟩⟩;refine uI (.va (i:=4) rfl) (r0 (s1.trans s2)) bw ?_;exact b_ (.mk s2)
  .obtain @⟨H2,y3,y4,s2⟩:=z;exact Lp (h1.more s2) s p z y fun H3 s3=>k H3 ((s1.trans s2).trans s3)
end
noncomputable def k3 (a:Pz.Arr):List bh:=[.inl a.1,.inl a.2.1,.inl a.2.2]
def h3 (ts:List Pz.Arr):List (List bh×V):=ts.map fun a=>(k3 a,V.bl true)
theorem Eo {a b:Pz.Arr}(h:k3 a=k3 b):a=b:=by obtain⟨a1,a2,a3⟩:=a;obtain⟨b1,b2,b3⟩:=b;unfold k3 at h;injection h with h1 h;injection h with h2 h;injection h with h3 _;cases h1;cases h2;cases h3;rfl
theorem GW (ts:List Pz.Arr)(a:Pz.Arr):bP (h3 ts) (k3 a)=if a∈ts then some (.bl true) else none:=by
 unfold bP h3;induction ts with
 |nil=>rfl
 |cons x r ih=>
  rw[MC,Os];by_cases h:x=a
  .rw[h,Mh Mr];dsimp only;rw[Mp rfl];rfl
  .dsimp only;rw[My fun z=>h (Eo z)];dsimp only;rw[ih];by_cases m:a∈r
   .rw[Mh m,Mh (Ms _ m)]
   .rw[Mj m,Mj fun z=>(Mv.mp z).elim (fun e=>h e.symm) m]
theorem Jy (es:List Int)(e:Int):bP (es.map ke) (.inl e)=if e∈es then some (.bl true) else none:=by
 unfold bP;induction es with
 |nil=>rfl
 |cons x r ih=>
  rw[MC,Os];by_cases h:x=e
  .rw[h,Mh Mr];unfold ke;dsimp only;rw[Mp rfl];rfl
  .unfold ke at *;dsimp only;rw[My fun z=>h (P8 z)];dsimp only;rw[ih];by_cases m:e∈r
   .rw[Mh m,Mh (Ms _ m)]
   .rw[Mj m,Mj fun z=>(Mv.mp z).elim (fun q=>h q.symm) m]
section
variable {K:QQ}{H H':Hp}{σ:L2.St}{vs:List V}{Q:VK}{E:XK}{mp la le hd ed rp:Addr}{n:Int}{ts:List Pz.Arr}{tv:List V}{es:List Int}
theorem Ik {neg:Bool}{i:Nat}{tas:TA}{x y z:Int}(ra:ReadsA tas σ H [.int x,.int y,.int z])(hi:σ[i]?=some (some (.ref hd)))(he:H hd=some (.dT (h3 ts)))(k:∀ H',Same H H'->Q (.bl (if neg then !decide ((x,y,z)∈ts) else decide ((x,y,z)∈ts))) H'):bg (je neg) (cD tas) (aj i) σ H Q:=by
 refine mj ra rfl fun p hp=>⟨_,hi,hd,_,rfl,.inl (DGet.t (k:=k3 (x,y,z)) (au hp _ _ he) ah),?_⟩;have:=k _ (au (o:=.tup [.int x,.int y,.int z]) hp);rw[GW];by_cases m:(x,y,z)∈ts
 .rw[Mh m];rw[Mp m]at this;exact this
 .rw[Mj m];rw[My m]at this;exact this
theorem Kt {neg:Bool}{i j:Nat}{x:Int}(hj:σ[j]?=some (some (.int x)))(hi:σ[i]?=some (some (.ref ed)))(he:H ed=some (.dK (es.map ke)))(k:Q (.bl (if neg then !decide (x∈es) else decide (x∈es))) H):bg (je neg) (aj j) (aj i) σ H Q:=by
 refine⟨_,hj,_,hi,ed,_,rfl,.inl (DGet.k (k:=.inl x) he),?_⟩;rw[Jy];by_cases m:x∈es
 .rw[Mh m];rw[Mp m]at k;exact k
 .rw[Mj m];rw[My m]at k;exact k
inductive zP:Sp
 |mk {H:Hp} {mp la le hd ed rp:Addr} {n far:Int} {ts:List Pz.Arr} {tv:List V} {es:List Int} {r:Pz.Rule} {Q:VK} {E:XK} (h:fX H mp la le n ts tv es) (hh:H hd=some (.dT (h3 ts))) (he:H ed=some (.dK (es.map ke))) (hr:IsRule H r (.ref rp)) (hp:r.2.2.2.length<=2) (hk:Sp.Kept ts es r far) (hn:n<1000) (b:∀ a∈ts,0<=a.2.2/\a.2.2<n) (k:∀ H',Same H H'->Q (.bl true) H'):zP [.ref mp,.ref hd,.ref ed,.ref rp,.int far] H Q E
theorem zt (h:zP vs H Q E):vs.length=5:=by cases h;rfl
def GX (K:QQ):TT:=Ai (bK (bg (je false) (cD (ag (aj 5) (ag (tI K 6 0) (ag (aj 8) aF)))) (aj 1))) (bK (bg (je false) (cD (ag (aj 8) (ag (tI K 6 1) (ag (aj 4) aF)))) (aj 1)))
def Jz (K:QQ):TS:=aN (dJ (wL (ag (tI K 0 0) aF)) (aE 8) (cm (GX K) (cV (tC (.bl true))) bH)) qW
def JA (K:QQ):TS:=aN (cm (bK (bg Al (vY K 6) (tC (.int 1)))) (cV (bg (je false) (cD (ag (aj 5) (ag (tI K 6 0) (ag (aj 4) aF)))) (aj 1))) bH) (Jz K)
def GY (K:QQ):TT:=Ai (bK (bg Al (tI K 7 0) (aj 4))) (bK (bg (je true) (cD (ag (aj 5) (ag (tI K 7 1) (ag (tI K 7 2) aF)))) (aj 1)))
def JB (K:QQ):TS:=aN (dJ (b8 K (tI K 0 1)) (aE 7) (cm (GY K) qW bH)) (cV (FC (bg (je true) (aj 4) (aj 2)) (bg (je false) (aj 5) (aj 2))))
def GZ (K:QQ):TS:=aN (cm (bK (bg Al (vY K 6) (tC (.int 0)))) (JB K) bH) (JA K)
def Lq (K:QQ):TS:=aN (bq (tI K 3 2) (aE 5)) (aN (bq (tI K 3 3) (aE 6)) (GZ K))
def BI (mp hd ed rp:Addr)(far to:Int)(pq:Addr)(x7 x8:Option V):L2.St:=[some (.ref mp),some (.ref hd),some (.ref ed),some (.ref rp),some (.int far),some (.int to),some (.ref pq),x7,x8]
inductive JY (mp hd ed rp:Addr) (far to:Int) (pq:Addr) (H1:Hp) (m:Nat) (i:Nat):L2.St->Hp->Prop
 |mk {H':Hp} {x7 x8:Option V}:Same H1 H'->i<=m->JY mp hd ed rp far to pq H1 m i (BI mp hd ed rp far to pq x7 x8) H'
theorem BJ (h:zP vs H Q E):Lq K (eQ Q) (start (nS 9) vs) H:=by
 obtain @⟨H,mp,la,le,hd,ed,rp,n,far,ts,tv,es,r,Q,E,h,hh,he,⟨p0,pq,e0,h1,h2⟩,hp,hk,hn,b,k⟩:=h;cases e0;obtain⟨ra,rs,to,put⟩:=r;dsimp only at h1 h2 hp;refine Reads.ix (K:=K) (n:=2) (.va (i:=3) rfl) h1 (v:=.int to) rfl _ (Reads.ix (K:=K) (n:=3) (.va (i:=3) rfl) h1 (v:=.ref pq) rfl _ ?_);show GZ K _ (BI mp hd ed rp far to pq none none) H;unfold Sp.Kept at hk;dsimp only at hk;rcases put with _|⟨x,_|⟨y,_|⟨w,l⟩⟩⟩
 .refine e8 (.zZ (Reads.len (K:=K) (.va (i:=6) rfl) h2) .k) (fun _=>?_) fun c=>absurd rfl c;refine ce (tl:=tI K 0 1) (Reads.ix (K:=K) (n:=1) (.va (i:=0) rfl) h.p (v:=.ref la) rfl _ ⟨la,rfl,⟨_,SqL.of h.a⟩,?_⟩);refine b9 (K:=K) (a:=la) (xs:=tv) (JY mp hd ed rp far to pq H tv.length) (.mk (fun _ _ e=>e) (ML _)) (fun i σ' H' _ z=>by cases z with|mk s _=>exact SqL.of (s _ _ h.a)) (fun i v σ' H' hi z=>?_) fun σ' H' z=>?_
  .obtain @⟨H',x7,x8,s1,_⟩:=z;have li:=(Mg.mp hi).1;obtain⟨a,ha,q,rfl,hq⟩:=h.i.get hi;have ha:=MW ha;have hq:=s1 _ _ hq;obtain⟨a1,a2,a3⟩:=a;show cm (GY K) qW bH _ (BI mp hd ed rp far to pq (some (.ref q)) x8) H';refine(Reads.zZ (Reads.ix (K:=K) (n:=0) (.va (i:=7) rfl) hq (v:=.int a1) rfl) (.va (i:=4) rfl)) _ ⟨_,rfl,?_⟩;by_cases c:a1=far
   .rw[Mp c];refine gf (Ik (ts:=ts) (.c (.va (i:=5) rfl) (.c (Reads.ix (K:=K) (n:=1) (.va (i:=7) rfl) hq (v:=.int a2) rfl) (.c (Reads.ix (K:=K) (n:=2) (.va (i:=7) rfl) hq (v:=.int a3) rfl) .ni))) rfl (s1 _ _ hh) fun H2 s2=>⟨_,rfl,?_⟩);rw[Mp (hk.1 a2 a3 (c▸ha))];exact b_ (.mk (s1.trans s2) (by lia))
   .rw[My c];exact b_ (b_ (.mk s1 (by lia)))
  .obtain @⟨H',x7,x8,s1,_⟩:=z;refine Kt (j:=4) (i:=2) (es:=es) rfl rfl (s1 _ _ he) ⟨_,rfl,?_⟩;by_cases c:far∈es
   .rw[Mp c];refine b_ (Kt (j:=5) (i:=2) (es:=es) rfl rfl (s1 _ _ he) ?_);rw[Mp (hk.2 c)];exact k _ s1
   .rw[My c];exact gf (k _ s1)
 .refine e8 (.zZ (Reads.len (K:=K) (.va (i:=6) rfl) h2) .k) (fun c=>absurd c (by simp)) fun _=>?_;refine e8 (.zZ (Reads.len (K:=K) (.va (i:=6) rfl) h2) .k) (fun _=>?_) fun c=>absurd rfl c;refine Ik (ts:=ts) (.c (.va (i:=5) rfl) (.c (Reads.ix (K:=K) (n:=0) (.va (i:=6) rfl) h2 (v:=.int x) rfl) (.c (.va (i:=4) rfl) .ni))) rfl hh fun H2 s2=>?_;rw[Mp hk];exact k _ s2
 .refine e8 (.zZ (Reads.len (K:=K) (.va (i:=6) rfl) h2) .k) (fun c=>absurd c (by simp)) fun _=>?_;refine e8 (.zZ (Reads.len (K:=K) (.va (i:=6) rfl) h2) .k) (fun c=>absurd c (by simp)) fun _=>?_;obtain⟨m,m1,m2⟩:=hk;have bm:0<=m/\m<n:=b _ m1;refine Reads.ix (K:=K) (n:=0) (.va (i:=0) rfl) h.p (v:=.int n) rfl _ ⟨_,rfl,by lia,by lia,?_⟩;refine uU (n:=n.toNat) (JY mp hd ed rp far to pq H m.toNat) (.mk (fun _ _ e=>e) (ML _)) (fun j σ' H' hj p=>?_) fun σ' H' p=>?_
  .obtain @⟨H',x7,x8,s1,lj⟩:=p;rw[Int.zero_add];show cm (GX K) (cV (tC (.bl true))) bH _ (BI mp hd ed rp far to pq x7 (some (.int (j:Nat)))) H';refine Ik (ts:=ts) (.c (.va (i:=5) rfl) (.c (Reads.ix (K:=K) (n:=0) (.va (i:=6) rfl) (s1 _ _ h2) (v:=.int x) rfl) (.c (.va (i:=8) rfl) .ni))) rfl (s1 _ _ hh) fun H2 s2=>⟨_,rfl,?_⟩;have s12:=s1.trans s2;by_cases c1:(to,x,((j:Nat):Int))∈ts
   .rw[Mp c1];refine gf (Ik (ts:=ts) (.c (.va (i:=8) rfl) (.c (Reads.ix (K:=K) (n:=1) (.va (i:=6) rfl) (s12 _ _ h2) (v:=.int y) rfl) (.c (.va (i:=4) rfl) .ni))) rfl (s12 _ _ hh) fun H3 s3=>⟨_,rfl,?_⟩);by_cases c2:(((j:Nat):Int),y,far)∈ts
    .rw[Mp c2];exact gf (k _ (s12.trans s3))
    .rw[My c2];have:((j:Nat):Int)≠m:=fun e=>c2 (e▸m2);exact b_ (.mk (s12.trans s3) (by lia))
   .rw[My c1];have:((j:Nat):Int)≠m:=fun e=>c1 (e▸m1);exact b_ (b_ (.mk s12 (by lia)))
  .obtain @⟨H',x7,x8,s1,lj⟩:=p;lia
 .exact absurd hp (by simp)
end
theorem uJ {α:Type}{l:List α}{i:Nat}{a:α}(nd:l.Nodup)(h:l[i]?=some a):a∉l.take i:=by
 obtain⟨hi,rfl⟩:=Mg.mp h;have nd':(l.take i++l[i]::l.drop (i+1)).Nodup:=by rw[<- NV hi,MP];exact nd
 exact fun m=>(NT.mp nd').2.2 _ m _ Mr rfl
section
variable {K:QQ}{H H':Hp}{D:Ends}{σ:L2.St}{vs ws:List V}{Q:VK}{E:XK}{rl mp la le hd ed:Addr}{n:Int}{RL:List Pz.Rule}{ts:List Pz.Arr}{tv:List V}{es:List Int}
inductive zF:Sp
 |mk {H:Hp} {rl mp la le:Addr} {n:Int} {ws:List V} {RL:List Pz.Rule} {ts:List Pz.Arr} {tv:List V} {es:List Int} {Q:VK} {E:XK} (hl:Rd H rl (.lst ws)) (ir:a_ (IsRule H) RL ws) (h:fX H mp la le n ts tv es) (hp:∀ r∈RL,r.2.2.2.length<=2) (c:∀ r∈RL,∀ t,(r.1,r.2.1,t)∈ts->Sp.Kept ts es r t) (hn:n<1000) (b:∀ a∈ts,0<=a.2.2/\a.2.2<n) (s:ts.Nodup) (p:es.Nodup) (z:ts.length<=1000) (y:es.length<=1000) (k:∀ H',Same H H'->Q (.bl true) H'):zF [.ref rl,.ref mp] H Q E
theorem zu (h:zF vs H Q E):vs.length=2:=by cases h;rfl
def JC (K:QQ)(i:Nat):TE:=Fg (Eb K) (aj i) nO (km (tC (.int 2)))
def G0 (K:QQ):TT:=Ai (bK (bg Dz (JC K 3) (JC K 6))) (gX (tB (cn zP [] E0 (ag (aj 1) (ag (aj 2) (ag (aj 4) (ag (aj 6) (ag (tI K 3 2) aF))))))))
def G1 (K:QQ):TS:=dJ (b8 K (tI K 1 1)) (aE 3) (cm (G0 K) qW bH)
def G2 (K:QQ):TS:=aN (dJ (b8 K (aj 0)) (aE 6) (G1 K)) (cV (tC (.bl true)))
def G3 (K:QQ):TS:=aN (dJ (b8 K (tI K 1 2)) (aE 5) (kq (aj 4) (aj 5) (tC (.bl true)))) (G2 K)
def JD (K:QQ):TS:=aN (bq dM (aE 4)) (G3 K)
def G4 (K:QQ):TS:=aN (dJ (b8 K (tI K 1 1)) (aE 3) (kq (aj 2) (aj 3) (tC (.bl true)))) (JD K)
def Lr (K:QQ):TS:=aN (bq nW (aE 2)) (G4 K)
def oU (rl mp hd:Addr)(x3 x4 x5 x6:Option V):L2.St:=[some (.ref rl),some (.ref mp),some (.ref hd),x3,x4,x5,x6]
theorem Cw {i:Nat}{a s:Int}{rest:List V}{p:Addr}(hi:σ[i]?=some (some (.ref p)))(hp:H p=some (.tup (.int a::.int s::rest)))(hr:rest≠[])(k:∀ q H',Same H H'->H' q=some (.tup [.int a,.int s])->Q (.ref q) H'):JC K i σ H Q:=by
 refine⟨_,hi,_,rfl,p,_,rfl,SqT.of hp,fun _ z=>?_,fun q hq=>?_⟩
 .exfalso;have hl:0<rest.length:=List.length_pos_iff.mpr hr
  revert z
  unfold HT.sIx;simp;lia
 .have:=k q _ (au (o:=.tup [.int a,.int s]) hq) ah;have e:ib (.int a::.int s::rest) none (some 2)=[V.int a,.int s]:=by unfold ib HT.sIx;simp
  rw[e];exact this
inductive KG (rl mp hd ed:Addr) (H1:Hp):L2.St->Hp->Prop
 |mk {H':Hp} {x3 x5 x6:Option V}:Same H1 H'->KG rl mp hd ed H1 (oU rl mp hd x3 (some (.ref ed)) x5 x6) H'
theorem Ls {x3 x5 x6:Option V}(hl:Rd H rl (.lst ws))(ir:a_ (IsRule H) RL ws)(h:fX H mp la le n ts tv es)(hh:H hd=some (.dT (h3 ts)))(he:H ed=some (.dK (es.map ke)))(hp:∀ r∈RL,r.2.2.2.length<=2)(c:∀ r∈RL,∀ t,(r.1,r.2.1,t)∈ts->Sp.Kept ts es r t)(hn:n<1000)(b:∀ a∈ts,0<=a.2.2/\a.2.2<n)(k:∀ H',Same H H'->D.rt (.bl true) H'):G2 K D (oU rl mp hd x3 (some (.ref ed)) x5 x6) H:=by
 refine ce (tl:=aj 0) ⟨_,rfl,rl,rfl,⟨_,.inl hl⟩,?_⟩;refine b9 (K:=K) (a:=rl) (xs:=ws) (fun _=>KG rl mp hd ed H) (.mk fun _ _ e=>e) (fun i σ' H' _ z=>by cases z with|mk s=>exact .inl (bf s hl)) (fun i v σ' H' hi z=>?_) fun σ' H' z=>?_
 .obtain @⟨H',y3,y5,y6,s1⟩:=z;obtain⟨r,hr,rp,q,rfl,h1,h2⟩:=ir.get hi;have hr:=MW hr;have m1:=h.more s1;show G1 K _ (oU rl mp hd y3 (some (.ref ed)) y5 (some (.ref rp))) H';refine ce (tl:=tI K 1 1) (Reads.ix (K:=K) (n:=1) (.va (i:=1) rfl) m1.p (v:=.ref la) rfl _ ⟨la,rfl,⟨_,SqL.of m1.a⟩,?_⟩);refine b9 (K:=K) (a:=la) (xs:=tv) (fun _ σ2 H2=>∃ H3 z3 z5,H2=H3/\σ2=oU rl mp hd z3 (some (.ref ed)) z5 (some (.ref rp))/\Same H' H3) ⟨_,_,_,rfl,rfl,fun _ _ e=>e⟩ (fun i σ' H2 _ ⟨H3,_,_,e,_,s⟩=>by rw[e];exact SqL.of (s _ _ m1.a)) (fun i v σ' H2 hi z=>?_) fun σ' H2 z=>?_
  .obtain⟨_,z3,z5,rfl,rfl,s2⟩:=z;obtain⟨a,ha,q3,rfl,hq3⟩:=m1.i.get hi;have ha:=MW ha;have hq3:=s2 _ _ hq3;have s12:=s1.trans s2;have h1':=s12 _ _ h1;obtain⟨a1,a2,a3⟩:=a;obtain⟨r1,r2,r3,put⟩:=r;show cm (G0 K) qW bH _ (oU rl mp hd (some (.ref q3)) (some (.ref ed)) z5 (some (.ref rp))) H2;refine Cw (i:=3) (a:=a1) (s:=a2) rfl hq3 (by simp) fun u1 H3 s3 hu1=>Cw (i:=6) (a:=r1) (s:=r2) rfl (s3 _ _ h1') (by simp) fun u2 H4 s4 hu2=>?_;refine⟨pD (a1,a2),pD (r1,r2),Tr,Tr,Kn ⟨u1,rfl,s4 _ _ hu1⟩,Kn ⟨u2,rfl,hu2⟩,⟨Oe rfl,Oe rfl⟩,_,rfl,?_⟩;rw[La];have s24:=(s2.trans s3).trans s4;have s14:=s1.trans s24;by_cases m:(a1,a2)=(r1,r2)
   .rw[Mp m];injection m with e1 e2;subst e1 e2;have hk:=c _ hr a3 ha;refine gf ⟨_,rfl,_,rfl,_,rfl,_,rfl,Reads.ix (K:=K) (n:=2) (.va (i:=3) rfl) ((s3.trans s4) _ _ hq3) (v:=.int a3) rfl _ ?_⟩;exact .mk (r:=(a1,a2,r3,put)) (h.more s14) (s14 _ _ hh) (s14 _ _ he) ⟨rp,q,rfl,s14 _ _ h1,s14 _ _ h2⟩ (hp _ hr) hk hn b fun H5 s5=>⟨_,rfl,b_ ⟨_,_,_,rfl,rfl,s24.trans s5⟩⟩
   .rw[My m];exact b_ (b_ ⟨_,_,_,rfl,rfl,s24⟩)
  .obtain⟨_,z3,z5,rfl,rfl,s2⟩:=z;exact .mk (s1.trans s2)
 .obtain @⟨H',y3,y5,y6,s1⟩:=z;exact k _ s1
inductive KL (rl mp hd:Addr) (H1:Hp) (ts:List Pz.Arr) (i:Nat):L2.St->Hp->Prop
 |mk {H':Hp} {x3:Option V}:Same H1 H'->H' hd=some (.dT (h3 (ts.take i)))->KL rl mp hd H1 ts i (oU rl mp hd x3 none none none) H'
inductive KD (rl mp hd ed:Addr) (H1:Hp) (es:List Int) (x3:Option V) (i:Nat):L2.St->Hp->Prop
 |mk {H':Hp} {x5:Option V}:Same H1 H'->H' ed=some (.dK ((es.take i).map ke))->KD rl mp hd ed H1 es x3 i (oU rl mp hd x3 (some (.ref ed)) x5 none) H'
theorem BK (h:zF vs H Q E):Lr K (eQ Q) (start (nS 7) vs) H:=by
 obtain @⟨H,rl,mp,la,le,n,ws,RL,ts,tv,es,Q,E,hl,ir,h,hp,c,hn,b,s,p,z,y,k⟩:=h;refine fun hd hhd=>?_;have t1:=au (o:=.dT []) hhd;have c1:upd H hd (.dT []) hd=some (.dT []):=ah;show G4 K _ (oU rl mp hd none none none none) (upd H hd (.dT []));generalize upd H hd (.dT [])=H1 at t1 c1;have lv:=h.i.len;have m1:=h.more t1;refine ce (tl:=tI K 1 1) (Reads.ix (K:=K) (n:=1) (.va (i:=1) rfl) m1.p (v:=.ref la) rfl _ ⟨la,rfl,⟨_,SqL.of m1.a⟩,?_⟩);refine b9 (K:=K) (a:=la) (xs:=tv) (KL rl mp hd H ts) (.mk t1 c1) (fun i σ' H' _ z=>by cases z with|mk s _=>exact SqL.of (s _ _ h.a)) (fun i v σ' H' hi z=>?_) fun σ' H' z=>?_
 .obtain @⟨H',x3,s1,e1⟩:=z;obtain⟨a,ha,q,rfl,hq⟩:=h.i.get hi;have li:=(Mg.mp hi).1;refine⟨_,rfl,_,rfl,hd,_,rfl,DPut.t (k:=k3 a) e1 (s1 _ _ hq) (o_ (by unfold h3;rw[Me,MU];lia)),?_⟩;have na:=uJ s ha;rw[eU _ (by rw[GW,Mj na])];refine .mk (fun c u e=>by rw[aA (aB e hhd)];exact s1 _ _ e) ?_;rw[ah,NF,ha];unfold h3;rw[M8];rfl
 obtain @⟨H',x3,s1,e1⟩:=z;rw[<- lv,Ng]at e1;refine fun ed hed=>?_;have t2:=au (o:=.dK []) hed;have c2:upd H' ed (.dK []) ed=some (.dK []):=ah;show G3 K _ (oU rl mp hd x3 (some (.ref ed)) none none) (upd H' ed (.dK []));generalize upd H' ed (.dK [])=H2 at t2 c2;have s2:=s1.trans t2;have m2:=h.more s2;refine ce (tl:=tI K 1 2) (Reads.ix (K:=K) (n:=2) (.va (i:=1) rfl) m2.p (v:=.ref le) rfl _ ⟨le,rfl,⟨_,SqL.of m2.e⟩,?_⟩);refine b9 (K:=K) (a:=le) (xs:=es.map .int) (KD rl mp hd ed H' es x3) (.mk t2 c2) (fun i σ' H3 _ z=>by cases z with|mk s _=>exact SqL.of ((s1.trans s) _ _ h.e)) (fun i v σ' H3 hi z=>?_) fun σ' H3 z=>?_
 .obtain @⟨H3,x5,s3,e3⟩:=z;rw[ME]at hi;obtain⟨w,hw,rfl⟩:=M5.mp hi;refine⟨_,rfl,_,rfl,ed,_,rfl,DPut.k (k:=.inl w) e3 (o_ (by rw[Me,MU];lia)),?_⟩;have nw:=uJ p hw;rw[qJ];refine .mk (fun c u e=>by rw[aA (aB e hed)];exact s3 _ _ e) ?_;rw[ah,NF,hw];unfold Sp.add;rw[Mj nw];rfl
 .obtain @⟨H3,x5,s3,e3⟩:=z;rw[Me,Ng]at e3;have s13:=s1.trans s3;exact Ls (bf s13 hl) (ir.mono (IsRule.keep (.of s13))) (h.more s13) (s3 _ _ e1) e3 hp c hn b fun H4 s4=>k H4 (s13.trans s4)
end
theorem BL {H:Hp}{a:Pz.Arr}{v:V}(h:IsArr H a v):Is H Tr (eJ a) v:=by obtain⟨_,_,e,i,_⟩:=kd (a_.cons h .nil);cases e;exact i
theorem Cy (ts:List Pz.Arr):L3.D.cE (ts.map eJ)<=2:=fC (n:=2) fun d hd=>by obtain⟨x,_,rfl⟩:=Md.mp hd;exact Oe rfl
section
variable {X:Cx}{K:QQ}{H H':Hp}{σ:L2.St}{vs ws:List V}{Q:VK}{E:XK}{rl fp fa fe mp la le:Addr}{n n' sg:Int}{RL:List Pz.Rule}{ts t0:List Pz.Arr}{tv v0:List V}{es e0:List Int}
theorem zv {scope:Scope}{tg elt:Expr}{tN capN:List Str}{caps:List Nat}{te:TE}{J:L2.It}{m:Nat}(hz:m<1000)(h1:tN.length=1)(hg:∀ cl C s3 H3 fp,PG (aU X scope (tN++capN) cl C s3 H3 fp) tg (aE 0))(he:∀ cl C s3 H3 fp,PE (aU X scope (tN++capN) cl C s3 H3 fp) elt te)(go:∀ i H',Same H H'->i<m->J.go i H')(st:∀ H',Same H H'->J.stop m H')
 (hb:∀ i H' x H'',i<m->Same H H'->J.tD i H' x H''->H''=H'/\∀ Q:VK,Q (.bl true) H'->te (some x::gO σ caps) H' Q) {Fin:Addr->List V->Hp->Prop} (k:∀ Dl acc H',Same H H'->H' Dl=some (.lst acc)->acc=(List.replicate m true).map V.bl->Fin Dl acc H'):cq X scope tg tN capN caps elt [] σ Fin J H:=by
 refine jl (n:=m) hg (fun _ _ _ _ _=>gF) he (fun Dl i acc H'=>Same H H'/\H' Dl=some (.lst acc)/\acc=(List.replicate i true).map V.bl/\H Dl=none) (fun Dl hD=>⟨au hD,ah,rfl,hD⟩) (fun h=>h.2.1) (fun Dl i acc H' ⟨sm,_⟩ hi=>go i H' sm hi) (fun Dl acc H' ⟨sm,_⟩=>st H' sm) (fun Dl i acc H' xv H'' o hi ⟨sm,hD,ea,nD⟩ yy ho=>?_) fun Dl acc H' hD ⟨sm,hD',ea,_⟩=>k Dl acc H' sm hD' ea
 .obtain⟨rfl,q⟩:=hb i H' xv H'' hi sm yy;rw[h1]at ho;obtain⟨u0,rfl⟩:=Nu.mp ho;refine⟨fun j hj=>?_,gf (q _ ⟨hD,o_ (by rw[ea,Me,OY];lia),fun c u e=>by rw[aA (aB e nD)];exact sm _ _ e,ah,?_,nD⟩)⟩
  .rw[h1]at hj;obtain⟨j,rfl⟩:=Nx hj;rfl
  .rw[List.replicate_succ',M8,ea];rfl
theorem G8 (m:Nat):(List.replicate m true).all id=true:=by rw[NZ];intro x hx;exact List.eq_of_mem_replicate hx
inductive wo:Sp
 |mk {H:Hp} {rl fp fa fe mp la le:Addr} {n n' sg:Int} {ws:List V} {RL:List Pz.Rule} {ts t0:List Pz.Arr} {tv v0:List V} {es e0:List Int} {Q:VK} {E:XK} (hl:Rd H rl (.lst ws)) (ir:a_ (IsRule H) RL ws) (f:fX H fp fa fe n' ts tv es) (h:fX H mp la le n t0 v0 e0) (M:JW sg n RL t0 e0 n' ts es) (hp:∀ r∈RL,r.2.2.2.length<=2) (z:t0.length<=72) (y:e0.length<=63) (k:∀ H',Same H H'->Q (.bl true) H'):wo [.ref fp,.ref mp,.ref rl,.int sg] H Q E
theorem zw (h:wo vs H Q E):vs.length=4:=by cases h;rfl
structure HF where
 (EU E7:Scope)
 (Fy Hw Fo HH:Expr)
 (EM Fq EY Ft:List Str)
 (HA HE:List Nat)
structure LG (X:Cx) (S:HF):Prop where
 h1:S.EM.length=1
 c1:S.HA=[0]
 g1:∀ cl C s3 H3 fp,PG (aU X S.EU (S.EM++S.Fq) cl C s3 H3 fp) S.Fy (aE 0)
 e1:∀ cl C s3 H3 fp,PE (aU X S.EU (S.EM++S.Fq) cl C s3 H3 fp) S.Hw (bg (Gh false X.K) (aj 0) (tI X.K 1 1))
 h2:S.EY.length=1
 c2:S.HE=[0]
 g2:∀ cl C s3 H3 fp,PG (aU X S.E7 (S.EY++S.Ft) cl C s3 H3 fp) S.Fo (aE 0)
 e2:∀ cl C s3 H3 fp,PE (aU X S.E7 (S.EY++S.Ft) cl C s3 H3 fp) S.HH (bg (J8 X.K false) (aj 0) (tI X.K 1 2))
def JE (X:Cx)(S:HF):TS:=cV (eR (yM X.K) (ag (jC X S.E7 S.Fo S.EY S.Ft S.HE S.HH [] (b8 X.K (tI X.K 1 2))) aF))
def JF (X:Cx)(S:HF):TS:=aN (cm (gX (tB (eR (yM X.K) (ag (jC X S.EU S.Fy S.EM S.Fq S.HA S.Hw [] (b8 X.K (tI X.K 1 1))) aF)))) qW bH) (JE X S)
def Lu (X:Cx)(S:HF):TS:=aN (cm (tF (gX (tB (cn zN [] E0 (ag (aj 0) (ag (aj 3) (ag (tI X.K 1 0) aF)))))) (gX (tB (cn zF [] E0 (ag (aj 2) (ag (aj 0) aF)))))) qW bH) (JF X S)
theorem BM (es:List Int)(e:Int)(h:e∈es):HL (.int e) (es.map .int)=true:=by unfold HL;rw[Qh];exact⟨.int e,Md.mpr ⟨e,h,rfl⟩,by simp[Au]⟩
theorem BN {S:HF}(C:LG X S)(h:wo vs H Q E):Lu X S (eQ Q) (start (nS 4) vs) H:=by
 obtain @⟨H,rl,fp,fa,fe,mp,la,le,n,n',sg,ws,RL,ts,t0,tv,v0,es,e0,Q,E,hl,ir,f,h,M,hp,z,y,k⟩:=h;refine⟨_,rfl,_,rfl,Reads.ix (K:=X.K) (n:=0) (.va (i:=1) rfl) h.p (v:=.int n) rfl _ ?_⟩;have ne:=M.p.imp fun{a b}(q:a<b)=>QN q;refine .mk f M.n.1 M.b M.e M.s M.p M.z M.y fun H1 s1=>⟨_,rfl,b_ ⟨_,rfl,_,rfl,.mk (bf s1 hl) (ir.mono (IsRule.keep (.of s1))) (f.more s1) hp M.c M.n.2 (fun a ha=>(M.b a ha).2.2) M.s.nd ne (by have:=M.z;lia) (by have:=M.y;lia) fun H2 s2=>⟨_,rfl,b_ ?_⟩⟩⟩;have s12:=s1.trans s2;have h2:=h.more s12;have f2:=f.more s12;have lv:=h2.i.len;refine Reads.ix (K:=X.K) (n:=1) (.va (i:=1) rfl) h2.p (v:=.ref la) rfl _ ⟨la,rfl,⟨_,SqL.of h2.a⟩,?_⟩;refine zv (J:=zQ X.K la) (m:=t0.length) (by lia) C.h1 C.g1 C.e1 (fun i H' sm hi=>⟨v0,v0[i]'(by lia),SqL.of (sm _ _ h2.a),Ml _⟩) (fun H' sm=>⟨v0,SqL.of (sm _ _ h2.a),by lia⟩) (fun i H' x H'' hi sm yy=>?_) fun Dl acc H3 s3 hD ea=>⟨Dl,acc,_,rfl,SqL.of hD,ea,_,rfl,?_⟩
 .obtain⟨rfl,yy⟩:=yy;obtain⟨a,ha,b,rfl,hb⟩:=h2.i.get (yy _ (SqL.of (sm _ _ h2.a)));have f3:=f2.more sm;refine⟨rfl,fun Q q=>?_⟩;rw[C.c1];refine⟨_,rfl,Reads.ix (K:=X.K) (n:=1) (.va (i:=1) (σ:=[some (.ref b),some (.ref fp)]) rfl) f3.p (v:=.ref fa) rfl _ ⟨fa,ts.map eJ,tv,eJ a,Tr,Tr,rfl,.inl (SqL.of f3.a),kd f3.i,BL ⟨b,rfl,sm _ _ hb⟩,⟨Mq (Cy ts) (by decide),Oe rfl⟩,?_⟩⟩;have:((ts.map eJ).any fun e=>iO e (eJ a))=true:=by rw[Qh];exact⟨_,Md.mpr ⟨a,M.t a (MW ha),rfl⟩,gk _⟩
  rw[this];exact q
 rw[G8];refine b_ ?_;have s13:=s12.trans s3;have h3:=h.more s13;have f3:=f.more s13;refine Reads.ix (K:=X.K) (n:=2) (.va (i:=1) rfl) h3.p (v:=.ref le) rfl _ ⟨le,rfl,⟨_,SqL.of h3.e⟩,?_⟩;refine zv (J:=zQ X.K le) (m:=e0.length) (by lia) C.h2 C.g2 C.e2 (fun i H' sm hi=>⟨_,.int e0[i],SqL.of (sm _ _ h3.e),by rw[ME,Ml hi];rfl⟩) (fun H' sm=>⟨_,SqL.of (sm _ _ h3.e),by rw[Me];exact Mc _⟩) (fun i H' x H'' hi sm yy=>?_) fun Dl acc H4 s4 hD ea=>⟨Dl,acc,_,rfl,SqL.of hD,ea,by rw[G8];exact k _ (s13.trans s4)⟩;obtain⟨rfl,yy⟩:=yy;have yy:=yy _ (SqL.of (sm _ _ h3.e));rw[ME,Ml hi]at yy;cases yy;have f4:=f3.more sm;refine⟨rfl,fun Q q=>?_⟩;rw[C.c2];refine⟨_,rfl,Reads.ix (K:=X.K) (n:=2) (.va (i:=1) (σ:=[some (.int e0[i]),some (.ref fp)]) rfl) f4.p (v:=.ref fe) rfl _ ⟨fe,_,rfl,.inl (SqL.of f4.e),rfl,?_,?_⟩⟩
 .rw[NZ];intro v hv;obtain⟨w,_,rfl⟩:=Md.mp hv;rfl
 .rw[BM es _ (M.f _ (Po hi))];exact q
inductive zH (CN:Addr):Sp
 |mk {H:Hp} {vs:List V} {Q:VK} {E:XK} {ro sg n:Int} {RL:List Pz.Rule} {M:List Pz.Arr} {ends:List Int} (is:IsAll H Tr [fE ro sg RL,mD n M ends] vs) (z:M.length<1000) (bad:¬ ∀ a∈M,ro<=a.2.2) (k:∀ H',Same H H'->Q (.bl true) H'):zH CN vs H Q E
theorem zx {CN:Addr}(h:zH CN vs H Q E):vs.length=2:=by obtain @⟨H,vs,Q,E,ro,sg,n,RL,M,ends,is,z,bad,k⟩:=h;obtain⟨_,_,rfl,_,_,_,rfl,_,rfl⟩:=is;rfl
end
section
variable {X:Cx}{K:QQ}{mg:Str->Option QS}{H H':Hp}{D:Ends}{σ:L2.St}{vs ws:List V}{Q:VK}{E:XK}{ro sg n:Int}{RL:List Pz.Rule}{CN:Addr}{a0 rl mp la le hp hl ap aa ae:Addr}{t0:List Pz.Arr}{v0:List V}{e0:List Int}{size un odd:Int}
def JG (X:Cx)(mg:Str->Option QS)(CN:Addr):TS:=fun D σ H=>(ag (aj 0) (ag (aj 1) aF)) σ H fun vs H1=>vD mg 2 (zS wz zT) (vs++[]) H1 (fun _ H3=>D.nx σ H3) (L2.xn X CN (bq (tC (.bl true)) (aE 2)) D σ)
def JI (X:Cx)(mg:Str->Option QS)(CN:Addr):TS:=aN (bq (tC (.bl false)) (aE 2)) (aN (JG X mg CN) (cV (aj 2)))
theorem BO (hC:mg "NotPlain"=some (.ref CN)) (hn:PySem.W.excIn X.K CN rP "ValueError.__new__"=true) (mn:(n8 X.K CN).contains (.ref CN)=true) (h:zH CN vs H Q E):JI X mg CN (eQ Q) (start (nS 3) vs) H:=by
 obtain @⟨H,vs,Q,E,ro,sg,n,RL,M,ends,is,z,bad,k⟩:=h;obtain⟨v1,_,rfl,i1,v2,_,rfl,i2,rfl⟩:=is;refine⟨_,rfl,_,rfl,rfl,[fE ro sg RL,mD n M ends],Tr,⟨_,_,rfl,i1,_,_,rfl,i2,rfl⟩,?_⟩;have e:zS wz zT [fE ro sg RL,mD n M ends]=.exc "NotPlain":=by unfold zS;rw[show wz [fE ro sg RL,mD n M ends]=.exc "NotPlain" from(sU z).trans (Mj bad)]
 rw[e];intro cls dx H' hc s;rw[hC]at hc;cases hc;exact⟨CN,rfl,hn,mn,⟨_,rfl,k _ s⟩⟩
theorem jo {q l1 l2:Addr}{n:Int}{ms:List Pz.Arr}{ends:List Int}{mv:List V}(h:fX H q l1 l2 n ms mv ends):Is H Tr (mD n ms ends) (.ref q):=⟨q,_,rfl,h.p,_,_,rfl,rfl,_,_,rfl,⟨l1,_,rfl,.inl ⟨h.a,True.intro⟩,kd h.i⟩,_,_,rfl,⟨l2,_,rfl,.inl ⟨h.e,True.intro⟩,cW _⟩,rfl⟩
theorem G9 (n:Int)(ms:List Pz.Arr)(ends:List Int):L3.D.cE [.int n,.lst (ms.map eJ),.lst (ends.map .int)]<=49:=by
 have h1:=Cy ms;have h2:L3.D.cE (ends.map L3.D.int)<=1:=fC fun d hd=>by obtain⟨z,_,rfl⟩:=Md.mp hd;exact ML _
 show max 0 (max (L3.D.cE (ms.map eJ)+1) (max (L3.D.cE (ends.map L3.D.int)+1) 0))<=49;lia
theorem G_ {v:V}{n:Int}{ts:List Pz.Arr}{es:List Int}(h:Is H' (nl H H') (mD n ts es) v):∃ fp fa fe tv,v=.ref fp/\fX H' fp fa fe n ts tv es/\H fa=none/\H fe=none:=by
 obtain⟨fp,_,rfl,hp,_,_,rfl,e1,_,_,rfl,⟨fa,tv,rfl,ha,ia⟩,_,_,rfl,⟨fe,ev,rfl,he,ie⟩,rfl⟩:=h;cases (show _=V.int n from e1);have un:∀{a:Addr}{xs:List V},((H' a=some (.lst xs)/\nl H H' a)\/∃ o,H' a=some (.bQ o (.lst xs))/\nl H H' a)->H' a=some (.lst xs)/\H a=none:=fun{a xs} q=>by
  rcases q with⟨q1,q2⟩|⟨o,q1,q2,o2,q3,q4⟩
  .exact⟨q1,q2.1⟩
  .rw[q1]at q3;cases q3;exact q4.elim
 obtain⟨a1,a2⟩:=un ha;obtain⟨b1,b2⟩:=un he;rw[jj ie]at b1;exact⟨fp,fa,fe,tv,rfl,⟨hp,a1,uF ia,b1⟩,a2,b2⟩
def JJ (mg:Str->Option QS)(E:XK):TE:=cn (vD mg 2 (zS wz zT)) [] E (ag (aj 7) (ag (aj 8) aF))
def Lw (mg:Str->Option QS)(E:XK):TS:=cV (wC (cn wo [] E0 (ag (JJ mg E) (ag (aj 6) (ag (aj 5) (ag (aj 3) aF))))) (bg GJ (aj 8) (aj 6)))
def Lx (K:QQ) (mg:Str->Option QS) (E:XK):TS:=aN (cZ (w8 K "list" rN (tI K 11 1))) (aN (cZ (w8 K "list" rN (tI K 11 2))) (Lw mg E))
def Ku (K:QQ)(mg:Str->Option QS)(E:XK):TS:=aN (cm (tF (gX (tB (cn wo [] E0 (ag (aj 11) (ag (aj 6) (ag (aj 5) (ag (aj 3) aF))))))) (tF (bK (bg Ea (aj 8) (aj 6))) (bK (bg Ea (aj 7) (GE (aj 5)))))) qW bH) (Lx K mg E)
def Kv (K:QQ)(mg:Str->Option QS)(E:XK):TS:=aN (bq (JJ mg E) (aE 11)) (Ku K mg E)
noncomputable def sV (a0:Addr)(size ro sg un:Int)(rl mp hp ap:Addr)(odd:Int)(x10 x11:Option V):L2.St:=[some (.ref a0),some (.int size),some (.int ro),some (.int sg),some (.int un),some (.ref rl),some (.ref mp),some (.ref hp),some (.ref ap),some (.int odd),x10,x11]
structure tm (H:Hp) (ro sg n:Int) (RL:List Pz.Rule) (t0:List Pz.Arr) (e0:List Int) (rl mp la le hp hl ap aa ae:Addr) (ws v0:List V):Prop where
 r:H rl=some (.lst ws)
 i:a_ (IsRule H) RL ws
 m:fX H mp la le n t0 v0 e0
 h:H hp=some (.tup [.int ro,.int sg,.ref hl])
 l:H hl=some (.lst ws)
 a:fX H ap aa ae n t0 v0 e0
theorem tm.more (A:tm H ro sg n RL t0 e0 rl mp la le hp hl ap aa ae ws v0)(s:Same H H'):tm H' ro sg n RL t0 e0 rl mp la le hp hl ap aa ae ws v0:=⟨s _ _ A.r,A.i.mono (IsRule.keep (.of s)),A.m.more s,s _ _ A.h,s _ _ A.l,A.a.more s⟩
structure EL (ro sg n:Int) (RL:List Pz.Rule) (t0:List Pz.Arr) (e0:List Int):Prop where
 r:0<ro/\ro<=3
 s:0<sg/\sg<=4
 rr:∀ r∈RL,Fs ro sg r
 z:RL.length<=60
 d:Dr ro sg n t0 e0
theorem Cz (A:tm H ro sg n RL t0 e0 rl mp la le hp hl ap aa ae ws v0)(O:EL ro sg n RL t0 e0)(h7:σ[7]?=some (some (.ref hp)))(h8:σ[8]?=some (some (.ref ap)))(k:∀ fp fa fe n' ts tv es H',Same H H'->fX H' fp fa fe n' ts tv es->H fa=none->H fe=none->JW sg n RL t0 e0 n' ts es->Q (.ref fp) H'):JJ mg E σ H Q:=by obtain⟨n',ts,es,hF,M⟩:=GP O.r O.s O.d.k O.rr O.z O.d.a O.d.e (by have:=O.d.z;lia) (by have:=O.d.ze;lia);refine⟨_,h7,_,h8,rfl,[fE ro sg RL,mD n t0 e0],Tr,⟨_,_,rfl,uG A.h A.l A.i,_,_,rfl,jo A.a,rfl⟩,?_⟩;rw[hF];intro v H' s i;obtain⟨fp,fa,fe,tv,rfl,f,n1,n2⟩:=G_ i;exact k fp fa fe n' ts tv es H' s f n1 n2 M
theorem x6 {x10 x11:Option V}(A:tm H ro sg n RL t0 e0 rl mp la le hp hl ap aa ae ws v0)(O:EL ro sg n RL t0 e0)(k:∀ H',Same H H'->D.rt (.bl true) H'):Kv K mg E D (sV a0 size ro sg un rl mp hp ap odd x10 x11) H:=by
 have hp2:∀ r∈RL,r.2.2.2.length<=2:=fun r h=>(O.rr r h).p;have z:=O.d.z;have ze:=O.d.ze;refine Cz (σ:=sV a0 size ro sg un rl mp hp ap odd x10 x11) A O rfl rfl fun fp fa fe n' ts tv es H1 s1 f n1 n2 M=>?_;have A1:=A.more s1;show Ku K mg E D (sV a0 size ro sg un rl mp hp ap odd x10 (some (.ref fp))) H1;refine⟨_,rfl,_,rfl,_,rfl,_,rfl,.mk (.inl A1.r) A1.i f A1.m M hp2 (by lia) (by lia) fun H2 s2=>⟨_,rfl,b_ ⟨_,rfl,_,rfl,?_⟩⟩⟩;have A2:=A1.more s2;refine⟨_,Tr,Tr,jo A2.a,jo A2.m,G9 _ _ _,_,rfl,b_ ⟨_,rfl,_,rfl,_,rfl,_,rfl,by show 3<=_;rw[MV];lia,fun q hq=>?_⟩⟩;have t3:=au (o:=.tup [.int ro,.int sg,.ref rl]) hq;have c3:upd H2 q (.tup [.int ro,.int sg,.ref rl]) q=some (.tup [.int ro,.int sg,.ref rl]):=ah;have A3:=A2.more t3;have f3:=f.more (s2.trans t3);have s13:=(s1.trans s2).trans t3;generalize upd H2 q (.tup [.int ro,.int sg,.ref rl])=H3 at t3 c3 A3 f3 s13;have hd:L3.D.cE [.int ro,.int sg,.lst (RL.map fR)]<=49:=by have:L3.D.cE [.int ro,.int sg,.lst (RL.map fR)]+1<=50:=vZ ro sg RL;lia
 refine⟨_,Tr,Tr,uG A3.h A3.l A3.i,uG c3 A3.r A3.i,hd,_,rfl,b_ ?_⟩;refine Reads.ix (K:=K) (n:=1) (.va (i:=11) rfl) f3.p (v:=.ref fa) rfl _ ⟨.inl ⟨rfl,_,SqL.of f3.a⟩,fa,_,rfl,rfl,f3.a,?_⟩;have k4:∀ c u,H c=some u->upd H3 fa (.lst []) c=some u:=fun c u e=>by rw[aA (aB e n1)];exact s13 _ _ e
 have p4:upd H3 fa (.lst []) fp=some (.tup [.int n',.ref fa,.ref fe]):=by rw[aA fun z=>by have q:=f3.p;rw[z,f3.a]at q;cases q];exact f3.p
 have e4:∃ xs,upd H3 fa (.lst []) fe=some (.lst xs):=by
  by_cases c:fe=fa
  .rw[c];exact⟨_,ah⟩
  .rw[aA c];exact⟨_,f3.e⟩
 generalize upd H3 fa (.lst [])=H4 at k4 p4 e4;obtain⟨xs,e4⟩:=e4;refine Reads.ix (K:=K) (n:=2) (.va (i:=11) rfl) p4 (v:=.ref fe) rfl _ ⟨.inl ⟨rfl,_,SqL.of e4⟩,fe,_,rfl,rfl,e4,?_⟩;have s5:Same H (upd H4 fe (.lst [])):=fun c u e=>by rw[aA (aB e n2)];exact k4 _ _ e
 generalize upd H4 fe (.lst [])=H5 at s5;have A5:=A.more s5;refine Cz (σ:=sV a0 size ro sg un rl mp hp ap odd x10 (some (.ref fp))) A5 O rfl rfl fun fp fa fe n' ts tv es H6 s6 f n1 n2 M=>⟨_,rfl,_,rfl,_,rfl,?_⟩;have A6:=A5.more s6;refine .mk (.inl A6.r) A6.i f A6.m M hp2 (by lia) (by lia) fun H7 s7=>⟨_,rfl,gf ⟨_,rfl,_,rfl,?_⟩⟩;have A7:=A6.more s7;exact⟨_,Tr,Tr,jo A7.a,jo A7.m,G9 _ _ _,k _ ((s5.trans s6).trans s7)⟩
end
section
variable {X:Cx}{mg:Str->Option QS}{H H':Hp}{D:Ends}{σ:L2.St}{vs ws:List V}{Q:VK}{E:XK}{ro sg n:Int}{RL:List Pz.Rule}{CN:Addr}{a0 rl mp la le hp hl ap aa ae:Addr}{sc:List Int}{t0:List Pz.Arr}{v0:List V}{e0:List Int}{size un odd:Int}
def Hb (X:Cx):TE:=cD (ag (tI X.K 6 0) (ag (eR (Ef X) (ag (bg FQ (tI X.K 6 1) (wU (ag (aj 10) aF))) aF)) (ag (eR (lC X.K) (ag (tI X.K 6 2) aF)) aF)))
def Hc (X:Cx)(CN:Addr)(E:XK):TS:=cm (gX (tB (cn (zH CN) [] E (ag (aj 7) (ag (Hb X) aF))))) qW bH
def Hd (X:Cx)(CN:Addr)(E:XK):TS:=aN (bq (cD (ag (bg cg (bg fg (aj 9) (tC (.int 6))) (aj 2)) (ag (bg cg (bg fg (aj 9) (tC (.int 18))) (aj 3)) (ag (bg cg (bg fg (aj 9) (tC (.int 72))) (aj 2)) aF)))) (aE 10)) (Hc X CN E)
def Kw (X:Cx)(mg:Str->Option QS)(CN:Addr)(E:XK):TS:=aN (cm (bK (bg Al (bg cg (aj 9) (tC (.int 6))) (tC (.int 1)))) (Hd X CN E) bH) (Kv X.K mg E)
theorem x5 {x10 x11:Option V}(A:tm H ro sg n RL t0 e0 rl mp la le hp hl ap aa ae ws v0)(O:EL ro sg n RL t0 e0)(k:∀ H',Same H H'->D.rt (.bl true) H'):Kw X mg CN E D (sV a0 size ro sg un rl mp hp ap odd x10 x11) H:=by
 refine e8 (.zZ (.mod (.va (i:=9) rfl) .k (by decide)) .k) (fun _=>?_) fun _=>x6 A O k;have e1:=em (a:=odd / 6) O.r.1;have e2:=em (a:=odd / 18) O.s.1;have e3:=em (a:=odd / 72) O.r.1;have o5:∀{b:Int},0<b->b<=72->0<b/\b<1073741824:=fun h1 h2=>⟨h1,by lia⟩;have z:=O.d.z;have lv:=A.m.i.len
 delta Hd aN bq
 refine mj (σ:=sV a0 size ro sg un rl mp hp ap odd x10 x11) (ws:=[.int (odd / 6 % ro),.int (odd / 18 % sg),.int (odd / 72 % ro)]) (.c (.mod (.dv (.va (i:=9) rfl) .k ⟨by decide,by decide⟩) (.va (i:=2) rfl) O.r.1) (.c (.mod (.dv (.va (i:=9) rfl) .k ⟨by decide,by decide⟩) (.va (i:=3) rfl) O.s.1) (.c (.mod (.dv (.va (i:=9) rfl) .k ⟨by decide,by decide⟩) (.va (i:=2) rfl) O.r.1) .ni))) rfl fun bp hbp=>?_;generalize odd / 6 % ro=b1 at e1 hbp;generalize odd / 18 % sg=b2 at e2 hbp;generalize odd / 72 % ro=b3 at e3 hbp;have t1:=au (o:=.tup [.int b1,.int b2,.int b3]) hbp;have c1:upd H bp (.tup [.int b1,.int b2,.int b3]) bp=some (.tup [.int b1,.int b2,.int b3]):=ah;show Hc X CN E _ (sV a0 size ro sg un rl mp hp ap odd (some (.ref bp)) x11) (upd H bp (.tup [.int b1,.int b2,.int b3]));generalize upd H bp (.tup [.int b1,.int b2,.int b3])=H1 at t1 c1;have A1:=A.more t1;refine⟨_,rfl,?_⟩
 delta Hb cD ag
 refine Reads.ix (K:=X.K) (n:=0) (.va (i:=6) rfl) A1.m.p (v:=.int n) rfl _ (Reads.ix (K:=X.K) (n:=1) (.va (i:=6) rfl) A1.m.p (v:=.ref la) rfl _ ⟨_,rfl,by show 1<=_;rw[MV];lia,fun l1 hl1=>?_⟩);have t2:=au (o:=.lst [.ref bp]) hl1;have c2:upd H1 l1 (.lst [.ref bp]) l1=some (.lst [.ref bp]):=ah;generalize upd H1 l1 (.lst [.ref bp])=H2 at t2 c2;have A2:=A1.more t2;refine⟨la,l1,_,_,rfl,rfl,A2.m.a,c2,by show _+1<=_;rw[MV];lia,fun l2 hl2=>?_⟩;have t3:=au (o:=.lst (v0++[.ref bp])) hl2;have c3:upd H2 l2 (.lst (v0++[.ref bp])) l2=some (.lst (v0++[.ref bp])):=ah;generalize upd H2 l2 (.lst (v0++[.ref bp]))=H3 at t3 c3;have A3:=A2.more t3;have a3:a_ (IsArr H3) (t0++[(b1,b2,b3)]) (v0++[.ref bp]):=A3.m.i.snoc ⟨bp,rfl,(t2.trans t3) _ _ c1⟩;have nd:(t0++[((b1,b2,b3):Pz.Arr)]).Nodup:=by refine NT.mpr ⟨O.d.s.nd,N5 _ _,fun x hx y hy e=>?_⟩;have:=O.d.a x hx;rw[e,MH.mp hy]at this;dsimp only at this;lia
 delta aF
 dsimp only;refine Eg (X:=X) (.inl c3) a3 nd (by rw[MB,Ny];lia) fun l4 ms mv H4 s4 hl4 am mm lm=>?_;have A4:=A3.more s4;refine Reads.ix (K:=X.K) (n:=2) (.va (i:=6) rfl) A4.m.p (v:=.ref le) rfl _ ⟨le,_,rfl,.inl (SqL.of A4.m.e),fun l5 hl5=>⟨by show 3<=_;rw[MV];lia,fun q hq=>?_⟩⟩;have t5:=au (o:=.lst (e0.map .int)) hl5;have c5:upd H4 l5 (.lst (e0.map .int)) l5=some (.lst (e0.map .int)):=ah;generalize upd H4 l5 (.lst (e0.map .int))=H5 at t5 c5 hq ⊢;have t6:=au (o:=.tup [.int n,.ref l4,.ref l5]) hq;have M6:fX (upd H5 q (.tup [.int n,.ref l4,.ref l5])) q l4 l5 n ms mv e0:=⟨ah,t6 _ _ (t5 _ _ hl4),am.mono (jm (.of (t5.trans t6))),t6 _ _ c5⟩;have s16:=((((t1.trans t2).trans t3).trans s4).trans t5).trans t6;generalize upd H5 q (.tup [.int n,.ref l4,.ref l5])=H6 at t6 M6 s16;have A6:=A.more s16;refine .mk (ro:=ro) (sg:=sg) (n:=n) (RL:=RL) (M:=ms) (ends:=e0) ⟨_,_,rfl,uG A6.h A6.l A6.i,_,_,rfl,jo M6,rfl⟩ (by rw[lm,MB,Ny];lia) (fun all=>?_) fun H7 s7=>⟨_,rfl,b_ (x6 (A6.more s7) O fun H8 s8=>k H8 ((s16.trans s7).trans s8))⟩;have:=all (b1,b2,b3) ((mm _).mpr (MX _ Mr));dsimp only at this;lia
def Kx (X:Cx)(mg:Str->Option QS)(CN:Addr)(E:XK):TS:=aN (bq (cn mB [] E0 (ag (aj 0) (ag (tC (.int 2)) aF))) (aE 9)) (Kw X mg CN E)
def Ky (X:Cx)(mg:Str->Option QS)(CN:Addr)(E:XK):TS:=aN (bq (cD (ag (tI X.K 6 0) (ag (eR (lC X.K) (ag (tI X.K 6 1) aF)) (ag (eR (lC X.K) (ag (tI X.K 6 2) aF)) aF)))) (aE 8)) (Kx X mg CN E)
def Kz (X:Cx)(mg:Str->Option QS)(CN:Addr)(E:XK):TS:=aN (bq (GE (eR (lC X.K) (ag (aj 5) aF))) (aE 7)) (Ky X mg CN E)
def KA (X:Cx)(mg:Str->Option QS)(CN:Addr)(E:XK):TS:=aN (bq (cn zK [] E0 (ag (Fg (C4 X.K) (aj 0) (km (aj 4)) (km (bg cR (aj 4) (tC (.int 40))))) (ag (cn mB [] E0 (ag (aj 0) (ag (tC (.int 1)) aF))) (ag (aj 2) (ag (aj 3) aF))))) (aE 6)) (Kz X mg CN E)
def KB (X:Cx)(scope:Scope)(tg elt:Expr)(tN capN:List Str)(caps:List Nat)(mg:Str->Option QS)(CN:Addr)(E:XK):TS:=aN (oQ X scope tg elt tN capN caps [] 5 (b8 X.K (Fg (C4 X.K) (aj 0) (km (tC (.int 4))) (km (aj 4))))) (KA X mg CN E)
theorem x0 {scope:Scope}{tg elt:Expr}{tN capN:List Str}{caps:List Nat}{y5 y6 y7 y8 y9 y10 y11:Option V}(c:KC X scope tg elt tN capN caps)(i:Rd H a0 (.lst (sc.map .int)))(hr:0<ro/\ro<=3)(hs:0<sg/\sg<=4)(hu:4<=un/\un<=28)(k:∀ H',Same H H'->D.rt (.bl true) H'):KB X scope tg elt tN capN caps mg CN E D [some (.ref a0),some (.int size),some (.int ro),some (.int sg),some (.int un),y5,y6,y7,y8,y9,y10,y11] H:=by
 have r3:0<ro/\ro<1000:=⟨hr.1,by lia⟩;have s3:0<sg/\sg<1000:=⟨hs.1,by lia⟩;obtain⟨cs,ec⟩:=nE sc (some 4) (some un);have lc:=qH (sc.map V.int) 4 (un-4) (by decide) (by lia);rw[show(4:Int)+(un-4)=un by lia,ec,Me]at lc;refine⟨_,rfl,_,rfl,_,rfl,_,rfl,a0,_,rfl,.inl i,fun b hb=>?_⟩;rw[ec];have t1:=au (o:=.lst (cs.map .int)) hb;have c1:upd H b (.lst (cs.map .int)) b=some (.lst (cs.map .int)):=ah;generalize upd H b (.lst (cs.map .int))=H1 at t1 c1;refine⟨b,rfl,⟨_,SqL.of c1⟩,?_⟩;refine GL (R:=IsRule) (Fs ro sg) cs.length (by lia) c.g c.e (fun k a v h=>IsRule.keep k a v h) (fun i H' sm hi=>⟨_,.int cs[i],SqL.of (sm _ _ c1),by rw[ME,Ml hi];rfl⟩) (fun H' sm=>⟨_,SqL.of (sm _ _ c1),by rw[Me];exact Mc _⟩) (fun i H' x H'' o hi sm y ho'=>?_) fun rl ws RL H2 _ s2 hrl ir rr lr=>?_
 .obtain⟨rfl,y⟩:=y;have y:=y _ (SqL.of (sm _ _ c1));rw[ME,Ml hi]at y;cases y;rw[c.h]at ho';obtain⟨u0,rfl⟩:=Nu.mp ho';rw[c.c];refine⟨rfl,[some (.int cs[i]),some (.int ro),some (.int sg)],fun Q q=>q,fun j hj=>?_,fun Q q=>⟨_,rfl,_,rfl,_,rfl,.mk r3 s3 fun v x H3 s3 ir ai=>q v x H3 s3 ir ai⟩⟩;rw[c.h]at hj;obtain⟨j,rfl⟩:=Nx hj;rfl
 have s12:=t1.trans s2;have i2:=bf s12 i;show KA X mg CN E D [some (.ref a0),some (.int size),some (.int ro),some (.int sg),some (.int un),some (.ref rl),y6,y7,y8,y9,y10,y11] H2;obtain⟨ds,ed⟩:=nE sc (some un) (some (un+40));have ld:=qH (sc.map V.int) un 40 (by lia) (by decide);rw[ed,Me]at ld;refine⟨_,rfl,_,rfl,_,rfl,_,rfl,_,_,rfl,rfl,_,rfl,a0,_,rfl,.inl i2,fun cl hcl=>?_⟩;rw[ed];have t3:=au (o:=.lst (ds.map .int)) hcl;have c3:upd H2 cl (.lst (ds.map .int)) cl=some (.lst (ds.map .int)):=ah;generalize upd H2 cl (.lst (ds.map .int))=H3 at t3 c3;refine⟨_,rfl,mB.mk (k:=1) (bf t3 i2) (by decide) ⟨_,rfl,_,rfl,?_⟩⟩;generalize Ij sc 1=cp;refine .mk (.inl c3) (by lia) hr hs fun mp la le n t0 v0 e0 H4 s4 M4 d4=>?_;have s24:=t3.trans s4;have hrl4:=s24 _ _ hrl;show Kz X mg CN E D [some (.ref a0),some (.int size),some (.int ro),some (.int sg),some (.int un),some (.ref rl),some (.ref mp),y7,y8,y9,y10,y11] H4;refine⟨_,rfl,_,rfl,_,rfl,rl,_,rfl,.inl (SqL.of hrl4),fun hl hhl=>⟨by show 3<=_;rw[MV];lia,fun hp hhp=>?_⟩⟩;have t5:=au (o:=.lst ws) hhl;have c5:upd H4 hl (.lst ws) hl=some (.lst ws):=ah;generalize upd H4 hl (.lst ws)=H5 at t5 c5 hhp ⊢;have t6:=au (o:=.tup [.int ro,.int sg,.ref hl]) hhp;have c6:upd H5 hp (.tup [.int ro,.int sg,.ref hl]) hp=some (.tup [.int ro,.int sg,.ref hl]):=ah;show Ky X mg CN E D [some (.ref a0),some (.int size),some (.int ro),some (.int sg),some (.int un),some (.ref rl),some (.ref mp),some (.ref hp),y8,y9,y10,y11] (upd H5 hp (.tup [.int ro,.int sg,.ref hl]));generalize upd H5 hp (.tup [.int ro,.int sg,.ref hl])=H6 at t6 c6;have s46:=t5.trans t6;have M6:=M4.more s46;refine Reads.ix (K:=X.K) (n:=0) (.va (i:=6) rfl) M6.p (v:=.int n) rfl _ (Reads.ix (K:=X.K) (n:=1) (.va (i:=6) rfl) M6.p (v:=.ref la) rfl _ ⟨la,_,rfl,.inl (SqL.of M6.a),fun l7 hl7=>?_⟩);have t7:=au (o:=.lst v0) hl7;have c7:upd H6 l7 (.lst v0) l7=some (.lst v0):=ah;generalize upd H6 l7 (.lst v0)=H7 at t7 c7;have M7:=M6.more t7;refine Reads.ix (K:=X.K) (n:=2) (.va (i:=6) rfl) M7.p (v:=.ref le) rfl _ ⟨le,_,rfl,.inl (SqL.of M7.e),fun l8 hl8=>⟨by show 3<=_;rw[MV];lia,fun ap hap=>?_⟩⟩;have t8:=au (o:=.lst (e0.map .int)) hl8;have c8:upd H7 l8 (.lst (e0.map .int)) l8=some (.lst (e0.map .int)):=ah;generalize upd H7 l8 (.lst (e0.map .int))=H8 at t8 c8 hap ⊢;have t9:=au (o:=.tup [.int n,.ref l7,.ref l8]) hap;have c9:upd H8 ap (.tup [.int n,.ref l7,.ref l8]) ap=some (.tup [.int n,.ref l7,.ref l8]):=ah;show Kx X mg CN E D [some (.ref a0),some (.int size),some (.int ro),some (.int sg),some (.int un),some (.ref rl),some (.ref mp),some (.ref hp),some (.ref ap),y9,y10,y11] (upd H8 ap (.tup [.int n,.ref l7,.ref l8]));generalize upd H8 ap (.tup [.int n,.ref l7,.ref l8])=H9 at t9 c9;have s69:=(t7.trans t8).trans t9;have s49:=s46.trans s69;have s29:=s24.trans s49;have s09:=s12.trans s29;have M9:=M4.more s49;have A:tm H9 ro sg n RL t0 e0 rl mp la le hp hl ap l7 l8 ws v0:=⟨s29 _ _ hrl,ir.mono (IsRule.keep (.of s29)),M9,s69 _ _ c6,(t6.trans s69) _ _ c5,⟨c9,(t8.trans t9) _ _ c7,M9.i,t9 _ _ c8⟩⟩;refine⟨_,rfl,mB.mk (k:=2) (bf s09 i) (by decide) ?_⟩;exact x5 (size:=size) (un:=un) A ⟨hr,hs,rr,by lia,d4⟩ fun H10 s10=>k H10 (s09.trans s10)
def He (K:QQ):TE:=bg cR (tC (.int 4)) (bg cg (bg fg (aj 1) (tC (.int 12))) (bg cR (tC (.int 1)) (eR Cu (ag (tC (.int 24)) (ag (eR yU (ag (tC (.int 0)) (ag (bg fg (bg lD (bg Ct (vY K 0) (tC (.int 4))) (tC (.int 2))) (tC (.int 3))) aF))) aF)))))
def Hf (X:Cx)(scope:Scope)(tg elt:Expr)(tN capN:List Str)(caps:List Nat)(mg:Str->Option QS)(CN:Addr)(E:XK):TS:=aN (bq (cn mB [] E0 (ag (aj 0) (ag (tC (.int 0)) aF))) (aE 1)) (aN (bq (bg cR (tC (.int 1)) (bg cg (aj 1) (tC (.int 3)))) (aE 2)) (aN (bq (bg cR (tC (.int 1)) (bg cg (bg fg (aj 1) (tC (.int 3))) (tC (.int 4)))) (aE 3)) (aN (bq (He X.K) (aE 4)) (KB X scope tg elt tN capN caps mg CN E))))
noncomputable def uK (ds:List L3.D):Res R:=@ite _ (zb ds) (Classical.propDecidable _) (.ok (.val (.bl true) true [])) .stuck
theorem Hg {sc:List Int}(hz:sc.length<=63):uK [.lst (sc.map .int)]=.ok (.val (.bl true) true []):=Mh ⟨sc,rfl,hz⟩
theorem wb {N:List Str}{scope:Scope}{tg elt:Expr}{tN capN:List Str}{caps:List Nat}(hN:N.length=12)(c:KC X scope tg elt tN capN caps)(h:vD mg 1 uK vs H Q E):Hf X scope tg elt tN capN caps mg CN E (eQ Q) (start N vs) H:=by
 obtain⟨hl,ds,Ma,is,post⟩:=h;unfold uK at post;by_cases hw:zb ds
 case neg=>rw[Mj hw]at post;exact post.elim
 rw[Mh hw]at post;obtain⟨sc,rfl,zs⟩:=hw;obtain⟨v0,r0',rfl,i0,rfl⟩:=is;have es:L2.start N [v0]=some v0::List.replicate 11 none:=by unfold L2.start;rw[hN];rfl
 rw[es];have i1:=Kq i0 fun _ _ e=>e;obtain⟨a0,wa,rfl,hla,iw⟩:=qq i1;rw[jj iw]at hla;refine⟨_,rfl,mB.mk (k:=0) hla (by decide) ?_⟩;generalize Ij sc 0=size;have e3:=em (a:=size) (b:=3) (by decide);have e33:=em (a:=size / 3) (b:=4) (by decide);refine cT (.ad .k (.mod (.va (i:=1) rfl) .k (by decide))) (cT (.ad .k (.mod (.dv (.va (i:=1) rfl) .k ⟨by decide,by decide⟩) .k (by decide))) ?_);have mx:∃ m:Int,(0<=m/\m<=24)/\∀ σ:L2.St,σ[0]?=some (some (.ref a0))->Reads (eR Cu (ag (tC (.int 24)) (ag (eR yU (ag (tC (.int 0)) (ag (bg fg (bg lD (bg Ct (vY X.K 0) (tC (.int 4))) (tC (.int 2))) (tC (.int 3))) aF))) aF))) σ H (.int m):=by
  generalize hz:((((sc.map V.int).length:Nat):Int)-4)*2 / 3=z;refine⟨if (if z>0 then z else 0)<24 then (if z>0 then z else 0) else 24,?_,fun σ h0 Q q=>?_⟩
  .split<;>split<;>lia
  .subst hz;exact Reads.dv (.mul (.op (.HG (.va h0) hla) .k (z:=.int ((((sc.map V.int).length:Nat):Int)-4)) fun _ q=>⟨_,_,rfl,rfl,q⟩) .k ⟨by decide,by decide⟩) .k ⟨by decide,by decide⟩ _ ⟨_,_,rfl,⟨_,_,rfl,q⟩⟩
 obtain⟨m,hm,rm⟩:=mx;have e9:=em (a:=size / 12) (b:=1+m) (by lia);refine(Reads.ad .k (.mod (.dv (.va (i:=1) rfl) .k ⟨by decide,by decide⟩) (.ad .k (rm _ rfl)) (by lia)):Reads (He X.K) _ H (.int (4+size / 12 % (1+m)))) _ ?_;exact x0 c hla (by lia) (by lia) (by lia) fun H1 s1=>post _ _ s1 rfl
end
end L4
namespace L3
open PySem L2
section
variable {env:En}{d:D}{al:List Nat}
theorem cc {α:Type}(a:α)(l:List α):u4 (a::l) 0=some a:=by unfold u4 B6;rw[Mh (by lia),Mh (by simp)];rfl
theorem at1 {α:Type}(a b:α)(l:List α):u4 (a::b::l) 1=some b:=by unfold u4 B6;rw[Mh (by lia),Mh (by simp;lia)];rfl
theorem lA {α:Type}(a b c:α)(l:List α):u4 (a::b::c::l) 2=some c:=by unfold u4 B6;rw[Mh (by lia),Mh (by simp;lia)];rfl
def Hh (n:Nat)(caps:List Nat)(asg:D->Bool->En->Option En)(test:En->Res Bool)(elt:En->Res R)(env:En)(s:Src):Res R:=if s.xs.length<=lim then
 (um (fun d=>asg d s.fr (Ge env n caps)) test elt s.xs).KJ.bind fun rs=>.ok (Kb (rs.map R.d) (Ga rs) (s.al++caps.filter (Cp env))) else .stuck
theorem Ep (n:Nat)(caps:List Nat)(src:En->Res Src)(asg:D->Bool->En->Option En)(test:En->Res Bool)(elt:En->Res R)(env:En) :
 Gf n caps src asg test elt env=(src env).bind (Hh n caps asg test elt env):=(rfl)
end
theorem JK {α β:Type}(a:α)(k:α->Res β):(Res.ok a).bind k=k a:=(rfl)
end L3
local macro_rules|`(tactic| simp_arith[$as,*] $[$l:location]?)=>do
 let ls←("L3.IN L3.yi decide_true decide_false List.map_cons List.map_nil List.length_cons List.length_nil List.replicate List.cons_append List.nil_append List.append_nil Nat.reduceAdd Nat.max_self Nat.zero_max Nat.max_zero Nat.zero_add Nat.reduceSub List.getElem?_cons_zero List.getElem?_cons_succ Int.reduceLT Int.reduceLE Int.reduceNeg List.set_cons_zero List.set_cons_succ Nat.reduceLT Nat.reduceLeDiff L3.cc L3.at1 L3.lA Int.reduceBEq Bool.not_not Nat.reduceEqDiff L3.Ep Bool.and_true Bool.true_and Bool.and_false Bool.false_and Bool.and_self Bool.not_true Bool.not_false".splitOn " ").toArray.mapM fun s=>`(Lean.Parser.Tactic.simpLemma| $(Lean.mkIdent s.toName):ident)
 `(tactic| simp only[$[$ls:simpLemma],*,$as,*] $[$l]?)
local macro_rules|`(tactic| simp_arith $[$l:location]?)=>`(tactic| simp_arith[L3.JK] $[$l]?)
namespace L3
open PySem L2
end L3
namespace W
open PySem PySem.Spec PyProof.Rows L2 L3 L4
def top (i:Nat):Stmt:=PySem.Challenge.pw_callwalk_k32_forward_is_closed.main.body.getD i (.Pass ⟨0,0,0,0⟩)
abbrev dU:Stmt:=top 14
noncomputable abbrev N__law_cell_at:List Str:=["_law_script", "_law_k"]
abbrev cI:List Str:=N__law_cell_at.take 2
theorem jK:aR N__law_cell_at cI (aC dU):=b6
abbrev gq:Stmt:=top 16
noncomputable abbrev N__law_rule:List Str:=["_law_cell", "_law_rooms", "_law_signs", "_law_room", "_law_sign", "_law_to", "_law_size"]
abbrev eB:List Str:=N__law_rule.take 3
theorem sc__law_rule:aR N__law_rule eB (aC gq):=b6
abbrev fF:Stmt:=top 17
noncomputable abbrev N__law_arrow:List Str:=["_law_cell", "_law_rooms", "_law_own", "_law_signs", "_law_state", "_law_sign"]
abbrev dC:List Str:=N__law_arrow.take 4
theorem sc__law_arrow:aR N__law_arrow dC (aC fF):=b6
abbrev cJ:Stmt:=top 18
noncomputable abbrev N__law_drawn:List Str:=["_law_cells", "_law_pick", "_law_rooms", "_law_signs", "_law_own", "_law_arrows", "_law_bits", "_law_ends"]
abbrev dD:List Str:=N__law_drawn.take 4
theorem sc__law_drawn:aR N__law_drawn dD (aC cJ):=b6
abbrev fG:Stmt:=top 7
noncomputable abbrev N_is_plain:List Str:=["house", "machine"]
abbrev fH:List Str:=N_is_plain.take 2
theorem qK:aR N_is_plain fH (aC fG):=b6
abbrev bV:Stmt:=top 8
noncomputable abbrev fW:List Str:=["house", "machine"]
noncomputable abbrev bz:List Str:=["house", "machine"]
theorem fI:aR fW bz (aC bV):=b6
def cU:List D->Res R:=L4.wz
abbrev iW:Stmt:=top 2
noncomputable abbrev qL:List Str:=["things"]
noncomputable abbrev iX:List Str:=["things"]
theorem wc:aR qL iX (aC iW):=b6
def lH:List D->Res R:=L4.zT
abbrev jp:Stmt:=top 1
noncomputable abbrev wd:List Str:=["rule"]
noncomputable abbrev jq:List Str:=["rule"]
theorem s_:aR wd jq (aC jp):=b6
abbrev di:Stmt:=top 10
noncomputable abbrev jL:List Str:=["house", "rules", "rule"]
noncomputable abbrev dj:List Str:=["house"]
theorem sc_rules_by_head:aR jL dj (aC di):=b6
abbrev jr:Stmt:=top 12
noncomputable abbrev N_forward:List Str:=["house", "machine", "spreading", "start", "sign", "to"]
abbrev gK:List Str:=N_forward.take 2
theorem sc_forward:aR N_forward gK (aC jr):=b6
abbrev Er:Stmt:=fA (top 11) 0
theorem Hi:aR ["self", "house", "machine"] ["self", "house", "machine"] (aC Er):=b6
abbrev Es:Stmt:=fA (top 11) 1
theorem sc_SL:aR ["self", "start", "sign", "to", "there"] ["self", "start", "sign", "to"] (aC Es):=b6
abbrev Et:Stmt:=fA (top 11) 2
theorem sc_SF:aR ["self", "room", "state", "rooms", "sign", "there", "to"] ["self", "room", "state"] (aC Et):=b6
abbrev Eu:Stmt:=fA (top 11) 3
theorem Hj:aR ["self", "room", "sign"] ["self", "room", "sign"] (aC Eu):=b6
abbrev Ew:Stmt:=fA (top 11) 4
theorem sc_ST:aR ["self", "rule", "state", "put", "mid"] ["self", "rule", "state"] (aC Ew):=b6
abbrev Ex:Stmt:=fA (top 11) 5
theorem sc_SS:aR ["self", "arrow", "room", "rule"] ["self"] (aC Ex):=b6
abbrev BP:Stmt:=fA (top 11) 6
theorem sc_SK:aR ["self", "arrows", "start", "sign"] ["self"] (aC BP):=b6
def wf:List D->Res R:=L4.zS cU lH
abbrev dW:Stmt:=top 23
noncomputable abbrev N__law_refused:List Str:=["_law_house", "_law_machine_here", "_law_refused_here"]
abbrev cK:List Str:=N__law_refused.take 2
theorem sc__law_refused:aR N__law_refused cK (aC dW):=b6
abbrev fJ:Stmt:=top 15
noncomputable abbrev oV:List Str:=["_law_found"]
noncomputable abbrev dE:List Str:=["_law_found"]
theorem mo:aR oV dE (aC fJ):=b6
abbrev cL:Stmt:=top 19
noncomputable abbrev N__law_machine:List Str:=["_law_found", "_law_signs", "_law_low", "_law_arrow_here", "_law_state"]
abbrev cM:List Str:=N__law_machine.take 3
theorem sc__law_machine:aR N__law_machine cM (aC cL):=b6
abbrev gr:Stmt:=top 20
noncomputable abbrev N__law_kept:List Str:=["_law_machine_here", "_law_held", "_law_ends", "_law_rule_here", "_law_far", "_law_to", "_law_put", "_law_arrow_here", "_law_mid"]
abbrev eF:List Str:=N__law_kept.take 5
theorem sc__law_kept:aR N__law_kept eF (aC gr):=b6
abbrev eL:Stmt:=top 21
noncomputable abbrev N__law_closed:List Str:=["_law_rules", "_law_machine_here", "_law_held", "_law_arrow_here", "_law_ends", "_law_state", "_law_rule_here"]
abbrev cY:List Str:=N__law_closed.take 2
theorem sc__law_closed:aR N__law_closed cY (aC eL):=b6
abbrev cN:Stmt:=top 22
noncomputable abbrev N__law_right:List Str:=["_law_found", "_law_machine_here", "_law_rules", "_law_signs"]
abbrev dF:List Str:=N__law_right.take 4
theorem mq:aR N__law_right dF (aC cN):=b6
abbrev uL:Stmt:=top 24
noncomputable abbrev N_law:List Str:=["_law_script", "_law_size", "_law_rooms", "_law_signs", "_law_until", "_law_rules", "_law_machine_here", "_law_house", "_law_handed", "_law_odd", "_law_bad", "_law_found"]
abbrev uM:List Str:=N_law.take 1
theorem sc_law:aR N_law uM (aC uL):=b6
def uN:List D->Res R:=L4.uK
set_option genInjectivity false in
structure Tx (K:QQ) (mg:Str->Option QS) where
 qY:Df K mg "_law_cell_at" dU cI
 z8:Df K mg "_law_rule" gq eB
 zY:Df K mg "_law_arrow" fF dC
 Ac:Df K mg "_law_drawn" cJ dD
 zU:Df K mg "is_plain" fG fH
 z7:Df K mg "refuse_unless_plain" bV bz
 Af:Df K mg "marked" iW iX
 zW:Df K mg "head_of" jp jq
 zX:Df K mg "rules_by_head" di dj
 q_:Df K mg "forward" jr gK
 Ad:Df K mg "_law_refused" dW cK
 qX:Df K mg "_law_whole" fJ dE
 zV:Df K mg "_law_machine" cL cM
 z_:Df K mg "_law_kept" gr eF
 Ae:Df K mg "_law_closed" eL cY
 wn:Df K mg "_law_right" cN dF
 Aa:Df K mg "law" uL uM
 o6:mg "all"=none
 BR:mg "bool"=none
 BU:mg "dict"=none
 EK:mg "int"=none
 bR:mg "isinstance"=none
 eO:mg "len"=none
 gL:mg "list"=none
 E2:mg "max"=none
 E9:mg "min"=none
 qS:mg "range"=none
 tz:mg "set"=none
 cC:mg "sorted"=none
 qR:mg "tuple"=none
 bu:Addr
 d3:XC K mg "NotPlain" bu
 dZ:(n8 K bu).contains (.ref bu)=true
 CS:Addr
 kS:gz K CS
 gS:mg "Spreading"=some (.ref CS)
 Fd:Mf K CS "__init__" "Spreading.__init__" Er ["self", "house", "machine"]
 E4:Mk K CS Fd.f
 qO:Mf K CS "lead" "Spreading.lead" Es ["self", "start", "sign", "to"]
 E6:Mf K CS "follow" "Spreading.follow" Et ["self", "room", "state"]
 EN:Mf K CS "mid_for" "Spreading.mid_for" Eu ["self", "room", "sign"]
 ET:Mf K CS "take_rule" "Spreading.take_rule" Ew ["self", "rule", "state"]
 EQ:Mf K CS "spread" "Spreading.spread" Ex ["self"]
 ES:Mf K CS "machine" "Spreading.machine" BP ["self"]
section
variable {P:QR}{w:World}{K:QQ}{mg:Str->Option QS}{base:Heap}(t:Tx K mg)
theorem dk:bD P w K mg base kz 1 t.qY.f t.qY.fd cI mB:=
 t.qY.h.fu.ok jK (fun _ _ _ _ h=>yW h) fun cdv A outer s H vs Q E hr h=>
  have hu:=hr.units
  ⟨_,(ao (bY (bc mH (pv 1) (aK cA (by rfl) t.eO N_ (af (pv 0) aw)) (bL _)) (az (aW (aI br (aI kg (aI cj (aI cj (aI br (aH As (pv 0) (pv 1) (fun _ _=>rfl)) ak) ak) (aI kg (pv 1) (pv 1))) ak) ak))) ba)
    (az (aW ak))),BB h⟩
theorem oW:bD P w K mg base kz 1 t.z8.f t.z8.fd eB zO:=
 t.z8.h.fu.ok sc__law_rule (fun _ _ _ _ h=>yX h) fun cdv A outer s H vs Q E hr h=>
  have hu:=hr.units
  ⟨_,(ao (aO (i:=0) sc__law_rule.nd rfl (Or.inl rfl) (aI br (aI kg (aI cj (aI br (pv 0) ak) ak) ak) ak))
    (ao (aO (i:=3) sc__law_rule.nd rfl (Or.inl rfl) (aI br (pv 0) (pv 1)))
    (ao (aO (i:=0) sc__law_rule.nd rfl (Or.inl rfl) (aI bZ (pv 0) (pv 1)))
    (ao (aO (i:=4) sc__law_rule.nd rfl (Or.inl rfl) (aI br (pv 0) (pv 2)))
    (ao (aO (i:=0) sc__law_rule.nd rfl (Or.inl rfl) (aI bZ (pv 0) (pv 2)))
    (ao (aO (i:=5) sc__law_rule.nd rfl (Or.inl rfl) (aI br (pv 0) (pv 1)))
    (ao (aO (i:=0) sc__law_rule.nd rfl (Or.inl rfl) (aI bZ (pv 0) (pv 1)))
    (ao (aO (i:=6) sc__law_rule.nd rfl (Or.inl rfl) (aI br (pv 0) ak))
    (ao (aO (i:=0) sc__law_rule.nd rfl (Or.inl rfl) (aI bZ (pv 0) ak))
    (az (aW (bI (af (pv 3) (af (pv 4) (af (pv 5) (af (gb oS (bI (af (aI br (pv 0) (pv 2)) (af (aI br (aI bZ (pv 0) (pv 2)) (pv 2)) aw))) nP (fq (pv 6))) aw)))))))))))))))),BC h⟩
theorem mw:bD P w K mg base kz 1 t.zY.f t.zY.fd dC zC:=
 t.zY.h.fu.ok sc__law_arrow (fun _ _ _ _ h=>zh h) fun cdv A outer s H vs Q E hr h=>
  have hu:=hr.units
  ⟨_,(ao (aO (i:=0) sc__law_arrow.nd rfl (Or.inl rfl) (aI br (aI kg (aI cj (aI br (pv 0) ak) ak) ak) ak))
    (ao (aO (i:=4) sc__law_arrow.nd rfl (Or.inl rfl) (aI br (pv 0) (aI cj (pv 1) (pv 2))))
    (ao (aO (i:=0) sc__law_arrow.nd rfl (Or.inl rfl) (aI bZ (pv 0) (aI cj (pv 1) (pv 2))))
    (ao (aO (i:=5) sc__law_arrow.nd rfl (Or.inl rfl) (aI br (pv 0) (pv 3)))
    (ao (aO (i:=0) sc__law_arrow.nd rfl (Or.inl rfl) (aI bZ (pv 0) (pv 3)))
    (az (aW (bI (af (pv 4) (af (pv 5) (af (aI cj (pv 1) (aI br (pv 0) (pv 2))) aw))))))))))),BF h⟩
theorem Ey:((["_law_cell"]:List Str)++(["_law_rooms", "_law_own", "_law_signs"]:List Str)).Nodup:=by decide +kernel
theorem Ez:((["_law_state"]:List Str)++(["_law_bits"]:List Str)).Nodup:=by decide +kernel
theorem mz:bD P w K mg base kz 2 t.Ac.f t.Ac.fd dD zK:=
 t.Ac.h.fu.ok sc__law_drawn (fun _ _ _ _ h=>zi h) fun cdv A outer s H vs Q E hr h=>
  have hu:=hr.units
  ⟨_,(ao (aO (i:=4) sc__law_drawn.nd rfl (Or.inr rfl) (aI br (pv 1) ak))
    (ao (aO (i:=5) sc__law_drawn.nd rfl (Or.inl rfl) (nN aw))
    (ao (bY (bc FJ (pv 4) ak (bL _)) (az (lE (i:=5) (tN:=["_law_cell"]) (capN:=["_law_rooms", "_law_own", "_law_signs"]) (caps:=[2,4,3]) rfl (ck.of (osc:=aC cJ) (N:=N__law_drawn) rfl rfl (by decide +kernel)) sc__law_drawn.nd rfl rfl (bv (pv 0)))) ba)
    (ao (aO (i:=6) sc__law_drawn.nd rfl (Or.inr rfl) (aI bZ (pv 1) ak))
    (ao (lE (i:=7) (tN:=["_law_state"]) (capN:=["_law_bits"]) (caps:=[6]) rfl (ck.of (osc:=aC cJ) (N:=N__law_drawn) rfl rfl (by decide +kernel)) sc__law_drawn.nd rfl rfl (mG (by rfl) t.qS (af (aI cj (pv 2) (pv 4)) aw)))
    (az (aW (bI (af (aI cj (pv 2) (pv 4)) (af (aK (vX rfl) (by rfl) t.cC (by decide +kernel) (af (cz (vW rfl hu) (by rfl) t.tz (by decide +kernel) (af (pv 5) aw)) aw)) (af (pv 7) aw))))))))))),BG (S:=⟨_,_,_,_,_,_,_,_,_,_,_,_,_⟩) ⟨⟨rfl,rfl,fun _ _ _ _ _=>aS (i:=0) Ey rfl (Or.inl rfl),fun _ _ _ _ _=>(be (mw t) (hr.mono (by decide)) rfl t.zY.h.gl t.zY.h.fu.kp t.zY.h.bi .nil bA (af (pv 0) (af (pv 1) (af (pv 2) (af (pv 3) aw)))))⟩,⟨rfl,rfl,fun _ _ _ _ _=>aS (i:=0) Ez rfl (Or.inl rfl),fun _ _ _ _ _=>Bf (bc kh (aI CV (aI CU (pv 1) (pv 0)) ak) ak (bL _)),fun _ _ _ _ _=>pv 0⟩⟩ h⟩
theorem EA:((["arrow"]:List Str)++(["house"]:List Str)).Nodup:=by decide +kernel
theorem qM:bD P w K mg base kz 1 t.zU.f t.zU.fd fH zA:=
 t.zU.h.fu.ok qK (fun _ _ _ _ h=>zg h) fun cdv A outer s H vs Q E hr h=>
  have hu:=hr.units
  ⟨_,(az (aW (aK (gJ rfl) (by rfl) t.o6 (by decide +kernel) (af (e_ (tN:=["arrow"]) (capN:=["house"]) (caps:=[0]) rfl (ck.of (osc:=aC fG) (N:=N_is_plain) rfl rfl (by decide +kernel)) (bv (aH aD (pv 1) ak (fun _ _=>rfl)))) aw)))),BD ⟨rfl,rfl,fun _ _ _ _ _=>aS (i:=0) EA rfl (Or.inl rfl),fun _ _ _ _ _=>(d8 FL (aH aD (pv 0) ak (fun _ _=>rfl)) (aH aD (pv 1) ak (fun _ _=>rfl)) (bL _))⟩ h⟩
theorem fK:bD P w K mg base (vd P w) 2 t.z7.f t.z7.fd bz (vD mg 2 cU):=
 uu t.z7.h.fu fI (fun _ _ _ _ h=>h.1) fun cdv A outer s H vs Q E hr h=>
  have hu:=hr.units
  ⟨_,(az (bY (bU (cF (be (qM t) (hr.mono (by decide)) rfl t.zU.h.gl t.zU.h.fu.kp t.zU.h.bi .nil bA (af (pv 0) (af (pv 1) aw))))) (az (xl (EW:=fun H=>E (.ref t.bu) none H) t.d3 (by rfl) rfl (af CM aw) (fun ac σ H s h' x args I hm hE=>Ay I hm hE))) ba)),BE t.d3.gl h⟩
theorem EB:((["thing"]:List Str)++([]:List Str)).Nodup:=by decide +kernel
theorem wg:bD P w K mg base kz 1 t.Af.f t.Af.fd iX (vD mg 1 lH):=
 t.Af.h.fu.ok wc (fun _ _ _ _ h=>h.1) fun cdv A outer s H vs Q E hr h=>
  have hu:=hr.units
  ⟨_,(az (aW (cz (v7 rfl) (by rfl) t.BU (by decide +kernel) (af (e_ (tN:=["thing"]) (capN:=[]) (caps:=[]) rfl (ck.of (osc:=aC iW) (N:=qL) rfl rfl (by decide +kernel)) (bv (pv 0))) aw)))),yZ rfl (fun _ _ _ _ _=>aS (i:=0) EB rfl (Or.inl rfl)) (fun _ _ _ _ _=>(bI (af (pv 0) (af bW aw)))) h⟩
theorem nH:bD P w K mg base kz 1 t.qO.f t.qO.fd ["self", "start", "sign", "to"] (d6 t.CS):=
 t.qO.h.fu.ok sc_SL (fun _ _ _ _ h=>sK h) fun cdv A outer s H vs Q E hr h=>
  ⟨_,ao (aO (i:=4) sc_SL.nd rfl (Or.inl rfl) (ko NS Nq N3 og (ko NS Nq N3 og (bM (pv 0) rfl) (af (pv 1) (af de aw))) (af (pv 2) (af de aw))))
    (az (bY (bc (jg hr.units) (pv 3) (pv 4) rfl)
      (ao (il (gd hr) (pv 4) (pv 3) bW rfl)
        (az (bX (ko Oo PySem.F.slot_list_append PySem.F.type_list_append mO (bM (pv 0) rfl) (af (bI (af (pv 1) (af (pv 2) (af (pv 3) aw)))) aw)))))
      ba)),vP t.kS h⟩
theorem Hk:bD P w K mg base kz 2 t.E6.f t.E6.fd ["self", "room", "state"] (gu t.CS):=
 t.E6.h.fu.ok sc_SF (fun _ _ _ _ h=>oK h) fun cdv A outer s H vs Q E hr h=>
  ⟨_,ao (aO (i:=3) sc_SF.nd rfl (Or.inl rfl) (ko NS Nq N3 og (bM (pv 0) rfl) (af (pv 2) (af de aw))))
    (ao (bY (bc (jf hr.units) (pv 1) (pv 3) rfl) (az Aj) ba)
    (ao (il (gd hr) (pv 3) (pv 1) bW rfl)
    (ao (bY (bc (jf hr.units) (pv 2) (bM (pv 0) rfl) rfl) (az (il (gd hr) (bM (pv 0) rfl) (pv 1) bW rfl)) ba)
    (az (rR (ci Nj rfl (xR (ku (gd hr) (bM (pv 0) rfl) (pv 2) de ⟨rfl,rfl,rfl,rfl⟩)) (wH rfl (f_ (aS (i:=4) sc_SF.nd rfl (Or.inl rfl)) (f_ (aS (i:=5) sc_SF.nd rfl (Or.inl rfl)) tG)))
      (az (rR (ci Nj rfl (tV (pv 5)) (aS (i:=6) sc_SF.nd rfl (Or.inl rfl))
        (az (bX (dq (pv 0) t.kS.cl t.qO.h.me (nH t) hr t.qO.h.bi .nil bA (af (pv 1) (af (pv 4) (af (pv 6) aw))))))))))))))),qy t.kS h⟩
theorem Hl:bD P w K mg base kz 1 t.EN.f t.EN.fd ["self", "room", "sign"] (qP t.CS):=t.EN.h.fu.ok Hj (fun _ _ _ _ h=>vQ h) fun cdv A outer s H vs Q E hr h=>⟨_,az (aW (ko NS Nq N3 (qd hr.units) (bM (pv 0) rfl) (af (bI (af (pv 1) (af (pv 2) aw))) (af (aI cj (bM (pv 0) rfl) (aK lg (by rfl) t.eO N_ (af (bM (pv 0) rfl) aw))) aw)))),yx t.kS h⟩
theorem Hm:bD P w K mg base kz 3 t.ET.f t.ET.fd ["self", "rule", "state"] (zG t.CS):=
 t.ET.h.fu.ok sc_ST (fun _ _ _ _ h=>yz h) fun cdv A outer s H vs Q E hr h=>
  have hr1:cP 1 _:=hr.mono (by decide)
  ⟨_,ao (aO (i:=3) sc_ST.nd rfl (Or.inl rfl) (aH aD (pv 1) ak (fun _ _=>rfl)))
    (az (bY (bc kh (aK cA (by rfl) t.eO N_ (af (pv 3) aw)) ak (bL _))
      (az (bX (dq (pv 0) t.kS.cl t.E6.h.me (Hk t) hr t.E6.h.bi .nil bA (af (aH aD (pv 1) ak (fun _ _=>rfl)) (af (pv 2) aw)))))
      (az (bY (bc kh (aK cA (by rfl) t.eO N_ (af (pv 3) aw)) ak (bL _))
        (az (bX (dq (pv 0) t.kS.cl t.qO.h.me (nH t) hr1 t.qO.h.bi .nil bA (af (aH aD (pv 1) ak (fun _ _=>rfl)) (af (aH aD (pv 3) ak (fun _ _=>rfl)) (af (pv 2) aw))))))
        (ao (aO (i:=4) sc_ST.nd rfl (Or.inl rfl) (dq (pv 0) t.kS.cl t.EN.h.me (Hl t) hr1 t.EN.h.bi .nil bA (af (aH aD (pv 1) ak (fun _ _=>rfl)) (af (aH aD (pv 3) ak (fun _ _=>rfl)) aw))))
        (ao (bX (dq (pv 0) t.kS.cl t.qO.h.me (nH t) hr1 t.qO.h.bi .nil bA (af (aH aD (pv 1) ak (fun _ _=>rfl)) (af (aH aD (pv 3) ak (fun _ _=>rfl)) (af (pv 4) aw)))))
        (az (bX (dq (pv 0) t.kS.cl t.qO.h.me (nH t) hr1 t.qO.h.bi .nil bA (af (pv 4) (af (aH aD (pv 3) ak (fun _ _=>rfl)) (af (pv 2) aw)))))))))))),Br h⟩
theorem Ho:bD P w K mg base kz 4 t.EQ.f t.EQ.fd ["self"] (gy t.CS):=
 t.EQ.h.fu.ok sc_SS (fun _ _ _ _ h=>oN h) fun cdv A outer s H vs Q E hr h=>
  ⟨_,az (wJ Nj (wO (bM (pv 0) rfl) (fun _=>rfl))
    (ao (aO (i:=1) sc_SS.nd rfl (Or.inl rfl) (rL Oo PySem.F.slot_list_pop PySem.F.type_list_pop C6 (bM (pv 0) rfl)))
    (ao (rR (ci Nj rfl (tV (ku (gd hr) (bM (pv 0) rfl) (aH aD (pv 1) ak (fun _ _=>rfl)) de ⟨rfl,rfl,rfl,rfl⟩)) (aS (i:=2) sc_SS.nd rfl (Or.inl rfl))
      (az (bX (dq (pv 0) t.kS.cl t.qO.h.me (nH t) (hr.mono (by decide)) t.qO.h.bi .nil bA (af (pv 2) (af (aH aD (pv 1) ak (fun _ _=>rfl)) (af (aH aD (pv 1) ak (fun _ _=>rfl)) aw))))))))
    (az (DU (ci Nj rfl (Bn (ku (gd hr) (bM (pv 0) rfl) (bI (af (aH aD (pv 1) ak (fun _ _=>rfl)) (af (aH aD (pv 1) ak (fun _ _=>rfl)) aw))) qk ⟨rfl,rfl,rfl,rfl⟩)) (aS (i:=3) sc_SS.nd rfl (Or.inl rfl))
      (az (bX (dq (pv 0) t.kS.cl t.ET.h.me (Hm t) hr t.ET.h.bi .nil bA (af (pv 3) (af (aH aD (pv 1) ak (fun _ _=>rfl)) aw)))))))))))
    ,qz t.kS h⟩
theorem EC:((["to"]:List Str)++(["start", "sign"]:List Str)).Nodup:=by decide +kernel
theorem Hq:bD P w K mg base kz 1 t.ES.f t.ES.fd ["self"] (lM t.CS):=
 t.ES.h.fu.ok sc_SK (fun _ _ _ _ h=>sM h) fun cdv A outer s H vs Q E hr h=>
  ⟨_,ao (aO (i:=1) sc_SK.nd rfl (Or.inl rfl) (nN aw))
    (ao (ci Nj rfl (bv (aK (iV rfl) (by rfl) t.cC (by decide +kernel) (af (bM (pv 0) rfl) aw))) (aS (i:=2) sc_SK.nd rfl (Or.inr rfl))
      (az (ci Nj rfl (bv (aK (iV rfl) (by rfl) t.cC (by decide +kernel) (af (nV (gd hr) (bM (pv 0) rfl) (pv 2) (fun _ _=>rfl)) aw))) (aS (i:=3) sc_SK.nd rfl (Or.inr rfl))
        (az (bX (ko Oo PySem.F.slot_list_extend PySem.F.type_list_extend u6 (pv 1) (af (e_ (tN:=["to"]) (capN:=["start", "sign"]) (caps:=[2,3]) rfl (ck.of (osc:=aC BP) (N:=["self", "arrows", "start", "sign"]) rfl rfl (by decide +kernel)) (bv (aK (iV rfl) (by rfl) t.cC (by decide +kernel) (af (nV (gd hr) (nV (gd hr) (bM (pv 0) rfl) (pv 2) (fun _ _=>rfl)) (pv 3) (fun _ _=>rfl)) aw)))) aw)))))))
    (az (aW (bI (af (aI cj (bM (pv 0) rfl) (aK lg (by rfl) t.eO N_ (af (bM (pv 0) rfl) aw))) (af (pv 1) (af (aK (iV rfl) (by rfl) t.cC (by decide +kernel) (af (bM (pv 0) rfl) aw)) aw))))))),
    vS t.kS rfl (fun _ _ _ _ _=>aS (i:=0) EC rfl (Or.inl rfl)) (fun _ _ _ _ _=>bI (af (pv 1) (af (pv 2) (af (pv 0) aw)))) h⟩
theorem tf:bD P w K mg base kz 1 t.zW.f t.zW.fd ["rule"] lP:=t.zW.h.fu.ok s_ (fun _ _ _ _ h=>sN h) fun cdv A outer s H vs Q E hr h=>⟨_,az (aW (bI (af (aH aD (pv 0) ak (fun _ _=>rfl)) (af (aH aD (pv 0) ak (fun _ _=>rfl)) aw)))),vU h⟩
theorem js:bD P w K mg base kz 2 t.zX.f t.zX.fd ["house"] zI:=
 t.zX.h.fu.ok sc_rules_by_head (fun _ _ _ _ h=>yH h) fun cdv A outer s H vs Q E hr h=>
  ⟨_,ao (aO (i:=1) sc_rules_by_head.nd rfl (Or.inl rfl) kr)
    (ao (ci Nj rfl (bv (aH aD (pv 0) ak (fun _ _=>rfl))) (aS (i:=2) sc_rules_by_head.nd rfl (Or.inl rfl))
      (az (Bb (Nn (Nat.add_le_add_left (by decide) _) hr.units) (ko NS Nq N3 (qd hr.units) (pv 1)
        (af (be (tf t) hr rfl t.zW.h.gl t.zW.h.fu.kp t.zW.h.bi .nil bA (af (pv 2) aw)) (af qk aw))) (pv 2) bW rfl)))
    (az (aW (pv 1)))),Bw h⟩
theorem Hr:bD P w K mg base kz 4 t.Fd.f t.Fd.fd ["self", "house", "machine"] (iY t.CS lH):=
 t.Fd.h.fu.ok Hi (fun _ _ _ _ h=>qE h) fun cdv A outer s H vs Q E hr h=>
  ⟨_,ao (gZ (pv 0) (be (js t) (hr.mono (by decide)) rfl t.zX.h.gl t.zX.h.fu.kp t.zX.h.bi .nil bA (af (pv 1) aw)) rfl)
    (ao (gZ (pv 0) (aH aD (pv 2) ak (fun _ _=>rfl)) rfl)
    (ao (gZ (pv 0) de rfl)
    (ao (gZ (pv 0) (be (wg t) (hr.mono (by decide)) rfl t.Af.h.gl t.Af.h.fu.kp t.Af.h.bi .nil bA (af (aH aD (pv 2) ak (fun _ _=>rfl)) aw)) rfl)
    (ao (gZ (pv 0) de rfl) (ao (gZ (pv 0) kr rfl) (az (gZ (pv 0) (nN aw) rfl))))))),sP t.kS h rfl⟩
theorem hO:bD P w K mg base (vd P w) 7 t.q_.f t.q_.fd gK (vD mg 2 wf):=
 uu t.q_.h.fu sc_forward (fun _ _ _ _ h=>h.1) fun cdv A outer s H vs Q E hr h=>
  ⟨_,ao (bX (be (fK t) (hr.mono (by decide)) rfl t.z7.h.gl t.z7.h.fu.kp t.z7.h.bi .nil jQ (af (pv 0) (af (pv 1) aw))))
    (ao (aO (i:=2) sc_forward.nd rfl (Or.inl rfl) (Ap t.E4 (Hr t) (hr.mono (by decide)) rfl t.gS t.Fd.h.bi .nil bA (af (pv 0) (af (pv 1) aw))))
    (ao (ci ID rfl (bv (aH aD (pv 1) ak (fun _ _=>rfl))) (wH rfl (f_ (aS (i:=3) sc_forward.nd rfl (Or.inl rfl)) (f_ (aS (i:=4) sc_forward.nd rfl (Or.inl rfl)) (f_ (aS (i:=5) sc_forward.nd rfl (Or.inl rfl)) tG))))
      (az (bX (dq (pv 2) t.kS.cl t.qO.h.me (nH t) (hr.mono (by decide)) t.qO.h.bi .nil bA (af (pv 3) (af (pv 4) (af (pv 5) aw)))))))
    (ao (bX (pG (pv 2) t.kS.cl t.EQ.h.me (Ho t) (hr.mono (by decide)) t.EQ.h.bi .nil bA))
    (az (aW (pG (pv 2) t.kS.cl t.ES.h.me (Hq t) (hr.mono (by decide)) t.ES.h.bi .nil bA)))))),vV h⟩
theorem jM:bD P w K mg base (vd P w) 8 t.Ad.f t.Ad.fd cK (zH t.bu):=
 uu t.Ad.h.fu sc__law_refused (fun _ _ _ _ h=>zx h) fun cdv A outer s H vs Q E hr h=>
  have hu:=hr.units
  ⟨_,(ao (aO (i:=2) sc__law_refused.nd rfl (Or.inl rfl) bW)
    (ao (Az rfl rfl t.d3 (by rfl) (xm (dvs:=[]) (hO t) (hr.mono (by decide)) (by rfl) t.q_.h.gl t.q_.h.fu.kp t.q_.h.bi .nil (af (pv 0) (af (pv 1) aw))) (fun x=>az (aO (i:=2) sc__law_refused.nd rfl (Or.inl rfl) bW)))
    (az (aW (pv 2))))),BO t.d3.gl t.d3.ex t.dZ h⟩
theorem eM:bD P w K mg base kz 1 t.qX.f t.qX.fd dE wl:=
 t.qX.h.fu.ok mo (fun _ _ _ _ h=>yQ h) fun cdv A outer s H vs Q E hr h=>
  have hu:=hr.units
  ⟨_,(az (aW (wD (aK dH (by rfl) t.bR (by decide +kernel) (af (pv 0) (af (gC (v:=.ty "int") (by rfl) t.EK (by decide +kernel) rfl) aw))) (ri (CO (aK dH (by rfl) t.bR (by decide +kernel) (af (pv 0) (af (gC (v:=.ty "bool") (by rfl) t.BR (by decide +kernel) rfl) aw)))))))),Bz h⟩
theorem ED:((["_law_part"]:List Str)++([]:List Str)).Nodup:=by decide +kernel
theorem jN:bD P w K mg base kz 2 t.zV.f t.zV.fd cM zN:=
 t.zV.h.fu.ok sc__law_machine (fun _ _ _ _ h=>zq h) fun cdv A outer s H vs Q E hr h=>
  have hu:=hr.units
  ⟨_,(ao (bY (PW.pt (fP (bU (cF (aK dH (by rfl) t.bR (by decide +kernel) (af (pv 0) (af (gC (v:=.ty "tuple") (by rfl) t.qR (by decide +kernel) rfl) aw))))) (fP (bc BY (aK cA (by rfl) t.eO N_ (af (pv 0) aw)) ak (bL _)) (fP (bU (cF (be (eM t) (hr.mono (by decide)) rfl t.qX.h.gl t.qX.h.fu.kp t.qX.h.bi .nil bA (af (aH aD (pv 0) ak (fun _ _=>rfl)) aw)))) (gY (bc mH (aH aD (pv 0) ak (fun _ _=>rfl)) (pv 2) (bL _))))))) (az (aW bW)) ba)
    (ao (bY (PW.pt (fP (bU (cF (aK dH (by rfl) t.bR (by decide +kernel) (af (aH aD (pv 0) ak (fun _ _=>rfl)) (af (gC (v:=.ty "list") (by rfl) t.gL (by decide +kernel) rfl) aw))))) (gY (bU (cF (aK dH (by rfl) t.bR (by decide +kernel) (af (aH aD (pv 0) ak (fun _ _=>rfl)) (af (gC (v:=.ty "list") (by rfl) t.gL (by decide +kernel) rfl) aw)))))))) (az (aW bW)) ba)
    (ao (ci Nj rfl (bv (aH aD (pv 0) ak (fun _ _=>rfl))) (aS (i:=3) sc__law_machine.nd rfl (Or.inl rfl)) (ao (bY (PW.pt (fP (bU (cF (aK dH (by rfl) t.bR (by decide +kernel) (af (pv 3) (af (gC (v:=.ty "tuple") (by rfl) t.qR (by decide +kernel) rfl) aw))))) (fP (bc BY (aK cA (by rfl) t.eO N_ (af (pv 3) aw)) ak (bL _)) (gY (bU (cF (aK (gJ rfl) (by rfl) t.o6 (by decide +kernel) (af (e_ (tN:=["_law_part"]) (capN:=[]) (caps:=[]) rfl (ck.of (osc:=aC cL) (N:=N__law_machine) rfl rfl (by decide +kernel)) (DA (pv 3))) aw)))))))) (az (aW bW)) ba)
    (az (bY (PW.pt (fP (bU (h_ tM mH ak (aH aD (pv 3) ak (fun _ _=>rfl)) (aH aD (pv 0) ak (fun _ _=>rfl)))) (fP (bU (h_ tM mH ak (aH aD (pv 3) ak (fun _ _=>rfl)) (pv 1))) (gY (bU (h_ tM mH ak (aH aD (pv 3) ak (fun _ _=>rfl)) (aH aD (pv 0) ak (fun _ _=>rfl)))))))) (az (aW bW)) ba))))
    (ao (ci Nj rfl (bv (aH aD (pv 0) ak (fun _ _=>rfl))) (aS (i:=4) sc__law_machine.nd rfl (Or.inl rfl)) (az (bY (PW.pt (fP (bU (cF (be (eM t) (hr.mono (by decide)) rfl t.qX.h.gl t.qX.h.fu.kp t.qX.h.bi .nil bA (af (pv 4) aw)))) (gY (bU (h_ tM mH ak (pv 4) (aH aD (pv 0) ak (fun _ _=>rfl))))))) (az (aW bW)) ba)))
    (ao (bY (bc (Ee hu) (aH aD (pv 0) ak (fun _ _=>rfl)) (aK (v_ rfl) (by rfl) t.cC (by decide +kernel) (af (cz (v9 rfl hu) (by rfl) t.tz (by decide +kernel) (af (aH aD (pv 0) ak (fun _ _=>rfl)) aw)) aw)) (bL _)) (az (aW bW)) ba)
    (az (aW (d8 (ye hu) (aH aD (pv 0) ak (fun _ _=>rfl)) (aK (sS rfl) (by rfl) t.cC (by decide +kernel) (af (cz (sR rfl) (by rfl) t.tz (by decide +kernel) (af (aH aD (pv 0) ak (fun _ _=>rfl)) aw)) aw)) (bL _))))))))),BH ⟨rfl,fun _ _ _ _ _=>aS (i:=0) ED rfl (Or.inl rfl),fun _ _ _ _ _=>(be (eM t) (hr.mono (by decide)) rfl t.qX.h.gl t.qX.h.fu.kp t.qX.h.bi .nil bA (af (pv 0) aw))⟩ h⟩
theorem oX:bD P w K mg base kz 1 t.z_.f t.z_.fd eF zP:=
 t.z_.h.fu.ok sc__law_kept (fun _ _ _ _ h=>zt h) fun cdv A outer s H vs Q E hr h=>
  have hu:=hr.units
  ⟨_,(ao (aO (i:=5) sc__law_kept.nd rfl (Or.inl rfl) (aH aD (pv 3) ak (fun _ _=>rfl)))
    (ao (aO (i:=6) sc__law_kept.nd rfl (Or.inl rfl) (aH aD (pv 3) ak (fun _ _=>rfl)))
    (ao (bY (bc kh (aK cA (by rfl) t.eO N_ (af (pv 6) aw)) ak (bL _)) (ao (ci Nj rfl (bv (aH aD (pv 0) ak (fun _ _=>rfl))) (aS (i:=7) sc__law_kept.nd rfl (Or.inl rfl)) (az (bY (PW.pt (rh (bc kh (aH aD (pv 7) ak (fun _ _=>rfl)) (pv 4) (bL _)) (nL (bc (jg hu) (bI (af (pv 5) (af (aH aD (pv 7) ak (fun _ _=>rfl)) (af (aH aD (pv 7) ak (fun _ _=>rfl)) aw)))) (pv 1) rfl)))) (az (aW bW)) ba)))
    (az (aW (FD (d8 (jg hu) (pv 4) (pv 2) rfl) (ri (d8 (jf hu) (pv 5) (pv 2) rfl)))))) ba)
    (ao (bY (bc kh (aK cA (by rfl) t.eO N_ (af (pv 6) aw)) ak (bL _)) (az (aW (d8 (jf hu) (bI (af (pv 5) (af (aH aD (pv 6) ak (fun _ _=>rfl)) (af (pv 4) aw)))) (pv 1) rfl))) ba)
    (ao (ci Nj rfl (mG (by rfl) t.qS (af (aH aD (pv 0) ak (fun _ _=>rfl)) aw)) (aS (i:=8) sc__law_kept.nd rfl (Or.inl rfl)) (az (bY (PW.pt (rh (bc (jf hu) (bI (af (pv 5) (af (aH aD (pv 6) ak (fun _ _=>rfl)) (af (pv 8) aw)))) (pv 1) rfl) (nL (bc (jf hu) (bI (af (pv 8) (af (aH aD (pv 6) ak (fun _ _=>rfl)) (af (pv 4) aw)))) (pv 1) rfl)))) (az (aW bW)) ba)))
    (az (aW bW))))))),BJ h⟩
theorem lI:bD P w K mg base kz 2 t.Ae.f t.Ae.fd cY zF:=
 t.Ae.h.fu.ok sc__law_closed (fun _ _ _ _ h=>zu h) fun cdv A outer s H vs Q E hr h=>
  have hu:=hr.units
  ⟨_,(ao (aO (i:=2) sc__law_closed.nd rfl (Or.inl rfl) kr)
    (ao (ci Nj rfl (bv (aH aD (pv 1) ak (fun _ _=>rfl))) (aS (i:=3) sc__law_closed.nd rfl (Or.inl rfl)) (az (il (gd hr) (pv 2) (pv 3) bW rfl)))
    (ao (aO (i:=4) sc__law_closed.nd rfl (Or.inl rfl) de)
    (ao (ci Nj rfl (bv (aH aD (pv 1) ak (fun _ _=>rfl))) (aS (i:=5) sc__law_closed.nd rfl (Or.inl rfl)) (az (il (gd hr) (pv 4) (pv 5) bW rfl)))
    (ao (ci Nj rfl (bv (pv 0)) (aS (i:=6) sc__law_closed.nd rfl (Or.inl rfl)) (az (ci Nj rfl (bv (aH aD (pv 1) ak (fun _ _=>rfl))) (aS (i:=3) sc__law_closed.nd rfl (Or.inl rfl)) (az (bY (PW.pt (rh (bc (ye hu) (gb oS (pv 3) nP (fq ak)) (gb oS (pv 6) nP (fq ak)) (bL _)) (nL (bU (cF (be (oX t) (hr.mono (by decide)) rfl t.z_.h.gl t.z_.h.fu.kp t.z_.h.bi .nil bA (af (pv 1) (af (pv 2) (af (pv 4) (af (pv 6) (af (aH aD (pv 3) ak (fun _ _=>rfl)) aw))))))))))) (az (aW bW)) ba)))))
    (az (aW bW))))))),BK h⟩
theorem EE:((["_law_arrow_here"]:List Str)++(["_law_found"]:List Str)).Nodup:=by decide +kernel
theorem EF:((["_law_state"]:List Str)++(["_law_found"]:List Str)).Nodup:=by decide +kernel
theorem gW:bD P w K mg base kz 3 t.wn.f t.wn.fd dF wo:=
 t.wn.h.fu.ok mq (fun _ _ _ _ h=>zw h) fun cdv A outer s H vs Q E hr h=>
  have hu:=hr.units
  ⟨_,(ao (bY (PW.pt (fP (bU (cF (be (jN t) (hr.mono (by decide)) rfl t.zV.h.gl t.zV.h.fu.kp t.zV.h.bi .nil bA (af (pv 0) (af (pv 3) (af (aH aD (pv 1) ak (fun _ _=>rfl)) aw)))))) (gY (bU (cF (be (lI t) (hr.mono (by decide)) rfl t.Ae.h.gl t.Ae.h.fu.kp t.Ae.h.bi .nil bA (af (pv 2) (af (pv 0) aw)))))))) (az (aW bW)) ba)
    (ao (bY (bU (cF (aK (gJ rfl) (by rfl) t.o6 (by decide +kernel) (af (e_ (tN:=["_law_arrow_here"]) (capN:=["_law_found"]) (caps:=[0]) rfl (ck.of (osc:=aC cN) (N:=N__law_right) rfl rfl (by decide +kernel)) (bv (aH aD (pv 1) ak (fun _ _=>rfl)))) aw)))) (az (aW bW)) ba)
    (az (aW (aK (gJ rfl) (by rfl) t.o6 (by decide +kernel) (af (e_ (tN:=["_law_state"]) (capN:=["_law_found"]) (caps:=[0]) rfl (ck.of (osc:=aC cN) (N:=N__law_right) rfl rfl (by decide +kernel)) (bv (aH aD (pv 1) ak (fun _ _=>rfl)))) aw)))))),BN (S:=⟨_,_,_,_,_,_,_,_,_,_,_,_⟩) ⟨rfl,rfl,fun _ _ _ _ _=>aS (i:=0) EE rfl (Or.inl rfl),fun _ _ _ _ _=>(d8 (DE hu) (pv 0) (aH aD (pv 1) ak (fun _ _=>rfl)) rfl),rfl,rfl,fun _ _ _ _ _=>aS (i:=0) EF rfl (Or.inl rfl),fun _ _ _ _ _=>(d8 u5 (pv 0) (aH aD (pv 1) ak (fun _ _=>rfl)) rfl)⟩ h⟩
theorem Hs:((["_law_cell"]:List Str)++(["_law_rooms", "_law_signs"]:List Str)).Nodup:=by decide +kernel
theorem EG:bD P w K mg base (vd P w) 9 t.Aa.f t.Aa.fd uM (vD mg 1 uN):=
 uu t.Aa.h.fu sc_law (fun _ _ _ _ h=>h.1) fun cdv A outer s H vs Q E hr h=>
  have hu:=hr.units
  ⟨_,(ao (aO (i:=1) sc_law.nd rfl (Or.inl rfl) (be (dk t) (hr.mono (by decide)) rfl t.qY.h.gl t.qY.h.fu.kp t.qY.h.bi .nil bA (af (pv 0) (af ak aw))))
    (ao (aO (i:=2) sc_law.nd rfl (Or.inr rfl) (aI cj ak (aI br (pv 1) ak)))
    (ao (aO (i:=3) sc_law.nd rfl (Or.inr rfl) (aI cj ak (aI br (aI bZ (pv 1) ak) ak)))
    (ao (aO (i:=4) sc_law.nd rfl (Or.inl rfl) (aI cj ak (aI br (aI bZ (pv 1) ak) (aI cj ak (aK (uW rfl) (by rfl) t.E9 (by decide +kernel) (af ak (af (aK (v4 rfl) (by rfl) t.E2 (by decide +kernel) (af ak (af (aI bZ (aI kg (aI CT (aK cA (by rfl) t.eO N_ (af (pv 0) aw)) ak) ak) ak) aw))) aw)))))))
    (ao (lE (i:=5) (tN:=["_law_cell"]) (capN:=["_law_rooms", "_law_signs"]) (caps:=[2,3]) rfl (ck.of (osc:=aC uL) (N:=N_law) rfl rfl (by decide +kernel)) sc_law.nd rfl rfl (bv (gb tQ (pv 0) (fq ak) (fq (pv 4)))))
    (ao (aO (i:=6) sc_law.nd rfl (Or.inl rfl) (be (mz t) (hr.mono (by decide)) rfl t.Ac.h.gl t.Ac.h.fu.kp t.Ac.h.bi .nil bA (af (gb tQ (pv 0) (fq (pv 4)) (fq (aI cj (pv 4) ak))) (af (be (dk t) (hr.mono (by decide)) rfl t.qY.h.gl t.qY.h.fu.kp t.qY.h.bi .nil bA (af (pv 0) (af ak aw))) (af (pv 2) (af (pv 3) aw))))))
    (ao (aO (i:=7) sc_law.nd rfl (Or.inl rfl) (bI (af (pv 2) (af (pv 3) (af (cz fD (by rfl) t.gL (by decide +kernel) (af (pv 5) aw)) aw)))))
    (ao (aO (i:=8) sc_law.nd rfl (Or.inl rfl) (bI (af (aH aD (pv 6) ak (fun _ _=>rfl)) (af (cz fD (by rfl) t.gL (by decide +kernel) (af (aH aD (pv 6) ak (fun _ _=>rfl)) aw)) (af (cz fD (by rfl) t.gL (by decide +kernel) (af (aH aD (pv 6) ak (fun _ _=>rfl)) aw)) aw)))))
    (ao (aO (i:=9) sc_law.nd rfl (Or.inl rfl) (be (dk t) (hr.mono (by decide)) rfl t.qY.h.gl t.qY.h.fu.kp t.qY.h.bi .nil bA (af (pv 0) (af ak aw))))
    (ao (bY (bc kh (aI br (pv 9) ak) ak (bL _)) (ao (aO (i:=10) sc_law.nd rfl (Or.inl rfl) (bI (af (aI br (aI bZ (pv 9) ak) (pv 2)) (af (aI br (aI bZ (pv 9) ak) (pv 3)) (af (aI br (aI bZ (pv 9) ak) (pv 2)) aw)))))
    (az (bY (bU (cF (be (jM t) (hr.mono (by decide)) rfl t.Ad.h.gl t.Ad.h.fu.kp t.Ad.h.bi .nil jQ (af (pv 7) (af (bI (af (aH aD (pv 6) ak (fun _ _=>rfl)) (af (aK yT (by rfl) t.cC (by decide +kernel) (af (aI C7 (aH aD (pv 6) ak (fun _ _=>rfl)) (nN (af (pv 10) aw))) aw)) (af (cz fD (by rfl) t.gL (by decide +kernel) (af (aH aD (pv 6) ak (fun _ _=>rfl)) aw)) aw)))) aw))))) (az (aW bW)) ba))) ba)
    (ao (aO (i:=11) sc_law.nd rfl (Or.inl rfl) (be (hO t) (hr.mono (by decide)) rfl t.q_.h.gl t.q_.h.fu.kp t.q_.h.bi .nil jQ (af (pv 7) (af (pv 8) aw))))
    (ao (bY (PW.pt (fP (bU (cF (be (gW t) (hr.mono (by decide)) rfl t.wn.h.gl t.wn.h.fu.kp t.wn.h.bi .nil bA (af (pv 11) (af (pv 6) (af (pv 5) (af (pv 3) aw))))))) (fP (bc (yP hu) (pv 8) (pv 6) (bL _)) (gY (bc (yP hu) (pv 7) (bI (af (pv 2) (af (pv 3) (af (pv 5) aw)))) (bL _)))))) (az (aW bW)) ba)
    (ao (bX (rL Oo PySem.F.slot_list_clear PySem.F.type_list_clear pI (aH aD (pv 11) ak (fun _ _=>rfl))))
    (ao (bX (rL Oo PySem.F.slot_list_clear PySem.F.type_list_clear pI (aH aD (pv 11) ak (fun _ _=>rfl))))
    (az (aW (wD (be (gW t) (hr.mono (by decide)) rfl t.wn.h.gl t.wn.h.fu.kp t.wn.h.bi .nil bA (af (be (hO t) (hr.mono (by decide)) rfl t.q_.h.gl t.q_.h.fu.kp t.q_.h.bi .nil jQ (af (pv 7) (af (pv 8) aw))) (af (pv 6) (af (pv 5) (af (pv 3) aw))))) (ri (d8 (Ec hu) (pv 8) (pv 6) (bL _)))))))))))))))))))),wb rfl ⟨rfl,rfl,fun _ _ _ _ _=>aS (i:=0) Hs rfl (Or.inl rfl),fun _ _ _ _ _=>(be (oW t) (hr.mono (by decide)) rfl t.z8.h.gl t.z8.h.fu.kp t.z8.h.bi .nil bA (af (pv 0) (af (pv 1) (af (pv 2) aw))))⟩ h⟩
end
theorem Hu {K KK:QQ}{mg:Str->Option QS}{h:Heap}(X:K.In h)(G:h.Ns mainGlobals mg)(U:gR K KK)
 (qY:FK K "_law_cell_at" dU) (z8:FK K "_law_rule" gq) (zY:FK K "_law_arrow" fF) (Ac:FK K "_law_drawn" cJ) (zU:FK K "is_plain" fG) (z7:FK K "refuse_unless_plain" bV) (Af:FK K "marked" iW) (zW:FK K "head_of" jp) (zX:FK K "rules_by_head" di) (q_:FK K "forward" jr) (Ad:FK K "_law_refused" dW) (qX:FK K "_law_whole" fJ) (zV:FK K "_law_machine" cL) (z_:FK K "_law_kept" gr) (Ae:FK K "_law_closed" eL) (wn:FK K "_law_right" cN) (Aa:FK K "law" uL)
 (z_all:PySem.W.nsIn K mainGlobals "all"=some none)
 (z_bool:PySem.W.nsIn K mainGlobals "bool"=some none)
 (z_dict:PySem.W.nsIn K mainGlobals "dict"=some none)
 (z_int:PySem.W.nsIn K mainGlobals "int"=some none)
 (z_isinstance:PySem.W.nsIn K mainGlobals "isinstance"=some none)
 (z_len:PySem.W.nsIn K mainGlobals "len"=some none)
 (z_list:PySem.W.nsIn K mainGlobals "list"=some none)
 (z_max:PySem.W.nsIn K mainGlobals "max"=some none)
 (z_min:PySem.W.nsIn K mainGlobals "min"=some none)
 (z_range:PySem.W.nsIn K mainGlobals "range"=some none)
 (z_set:PySem.W.nsIn K mainGlobals "set"=some none)
 (z_sorted:PySem.W.nsIn K mainGlobals "sorted"=some none)
 (z_tuple:PySem.W.nsIn K mainGlobals "tuple"=some none)
 {bu:Addr} (b_NotPlain:PySem.W.nsIn K mainGlobals "NotPlain"=some (some (.ref bu))) (e_NotPlain:PySem.W.excIn K bu rP "ValueError.__new__"=true) (dZ:(n8 K bu).contains (.ref bu)=true)
 {CS:Addr} (cS:CK K KK "Spreading" CS) (nS_0:PySem.W.findIn KK (.ref CS) "rules"=some none) (nS_1:PySem.W.findIn KK (.ref CS) "states"=some none) (nS_2:PySem.W.findIn KK (.ref CS) "table"=some none) (nS_3:PySem.W.findIn KK (.ref CS) "ends"=some none) (nS_4:PySem.W.findIn KK (.ref CS) "followers"=some none) (nS_5:PySem.W.findIn KK (.ref CS) "mids"=some none) (nS_6:PySem.W.findIn KK (.ref CS) "due"=some none)
 {f_SI:Addr} (y_x_r:MK KK CS "__init__" "Spreading.__init__" Er f_SI)
 {f_SL:Addr} (y_x_s:MK KK CS "lead" "Spreading.lead" Es f_SL)
 {f_SF:Addr} (y_x_t:MK KK CS "follow" "Spreading.follow" Et f_SF)
 {f_SM:Addr} (y_x_u:MK KK CS "mid_for" "Spreading.mid_for" Eu f_SM)
 {f_ST:Addr} (y_x_v:MK KK CS "take_rule" "Spreading.take_rule" Ew f_ST)
 {f_SS:Addr} (y_x_w:MK KK CS "spread" "Spreading.spread" Ex f_SS)
 {f_SK:Addr} (y_x_x:MK KK CS "machine" "Spreading.machine" BP f_SK)
 : ∃ t:Tx KK mg,True:=by
 obtain⟨qY⟩:=df (ps:=cI) X G U qY;obtain⟨z8⟩:=df (ps:=eB) X G U z8;obtain⟨zY⟩:=df (ps:=dC) X G U zY;obtain⟨Ac⟩:=df (ps:=dD) X G U Ac;obtain⟨zU⟩:=df (ps:=fH) X G U zU;obtain⟨z7⟩:=df (ps:=bz) X G U z7;obtain⟨Af⟩:=df (ps:=iX) X G U Af;obtain⟨zW⟩:=df (ps:=jq) X G U zW;obtain⟨zX⟩:=df (ps:=dj) X G U zX;obtain⟨q_⟩:=df (ps:=gK) X G U q_;obtain⟨Ad⟩:=df (ps:=cK) X G U Ad;obtain⟨qX⟩:=df (ps:=dE) X G U qX;obtain⟨zV⟩:=df (ps:=cM) X G U zV;obtain⟨z_⟩:=df (ps:=eF) X G U z_;obtain⟨Ae⟩:=df (ps:=cY) X G U Ae;obtain⟨wn⟩:=df (ps:=dF) X G U wn;obtain⟨Aa⟩:=df (ps:=uM) X G U Aa;have E4:=IW cS y_x_r;obtain⟨Fd,rfl⟩:=mf (ps:=["self", "house", "machine"]) y_x_r;obtain⟨qO,rfl⟩:=mf (ps:=["self", "start", "sign", "to"]) y_x_s;obtain⟨E6,rfl⟩:=mf (ps:=["self", "room", "state"]) y_x_t;obtain⟨EN,rfl⟩:=mf (ps:=["self", "room", "sign"]) y_x_u;obtain⟨ET,rfl⟩:=mf (ps:=["self", "rule", "state"]) y_x_v;obtain⟨EQ,rfl⟩:=mf (ps:=["self"]) y_x_w;obtain⟨ES,rfl⟩:=mf (ps:=["self"]) y_x_x;exact⟨⟨qY,z8,zY,Ac,zU,z7,Af,zW,zX,q_,Ad,qX,zV,z_,Ae,wn,Aa,Nh X G z_all,Nh X G z_bool,Nh X G z_dict,Nh X G z_int,Nh X G z_isinstance,Nh X G z_len,Nh X G z_list,Nh X G z_max,Nh X G z_min,Nh X G z_range,Nh X G z_set,Nh X G z_sorted,Nh X G z_tuple,bu,⟨PySem.W.mg_of X G b_NotPlain,(U.exc e_NotPlain).1⟩,(by rw[(U.exc e_NotPlain).2];exact dZ),CS,⟨cS.cl,nS_0,nS_1,nS_2,nS_3,nS_4,nS_5,nS_6⟩,PySem.W.mg_of X G cS.b,Fd,E4,qO,E6,EN,ET,EQ,ES⟩,True.intro⟩
theorem EH {l:PySem.W.OpenLaw} {w:World} {K:QQ} {mg:Str->Option QS} {fa:Addr} (hfa:mg "law"=some (.ref fa)) (T:∃ t:Tx K mg,True) :
 ∃ fd:FuncData,(∀(s:QP)(v:QS),BindsTo s fd ⟨[v],[]⟩ [("_law_script",v)])/\∀ base:Heap,bD l.prog w K mg base (vd l.prog w) 9 fa fd ["_law_script"] (Ic uN):=by
 obtain⟨t,_⟩:=T;have e:=hfa.symm.trans t.Aa.h.gl;cases e;obtain⟨oc,od,kV,doc,pm,an,cdv,ct,osl,efd,lk,hcd⟩:=t.Aa.h.fu.ex;exact⟨t.Aa.fd,fun s v=>by rw[efd];exact .of_eq rfl,fun base=>bD.top (EG t)⟩
end W
namespace W
open L3
theorem EI (ns:List Int)(hl:ns.length<=63):uN [.lst (ns.map .int)]=.ok (.val (.bl true) true []):=L4.Hg hl
end W
open PySem PySem.W PyProof.Rows
set_option maxRecDepth 100000 in
set_option maxHeartbeats 0 in
theorem PySem.Challenge.cw_callwalk_k32_forward_is_closed_holds : PySem.Challenge.rw_callwalk_k32_forward_is_closed.Holds := by
 w_on;refine PySem.W.Ea ?_
 k_fill
 refine L2.xT (l:=PySem.Challenge.rw_callwalk_k32_forward_is_closed) (n:=63) (k:=9) (x:="_law_script") (CX:=fun w=>L2.vd PySem.Challenge.pw_callwalk_k32_forward_is_closed w) (sp:=fun _=>L3.Ic W.uN) rfl (by decide) rfl ⟨rfl,by decide,by decide⟩ (fun w h Y=>PySem.W.kIn_of Y) ?kL ?F ?S ?C
 case kL=>exact fun w=>⟨by rfl,by rfl⟩
 case F=>
  intro w mg fa h KX G hmg
  refine' Exists.imp (fun _ z=>⟨z.1,fun base _ _=>z.2 base⟩) (W.EH hmg ?_)
  refine' (W.Hu KX G L2.vx (L4.fk ?_ ?_ ?_) (L4.fk ?_ ?_ ?_) (L4.fk ?_ ?_ ?_) (L4.fk ?_ ?_ ?_) (L4.fk ?_ ?_ ?_) (L4.fk ?_ ?_ ?_) (L4.fk ?_ ?_ ?_) (L4.fk ?_ ?_ ?_) (L4.fk ?_ ?_ ?_) (L4.fk ?_ ?_ ?_) (L4.fk ?_ ?_ ?_) (L4.fk ?_ ?_ ?_) (L4.fk ?_ ?_ ?_) (L4.fk ?_ ?_ ?_) (L4.fk ?_ ?_ ?_) (L4.fk ?_ ?_ ?_) (L4.fk ?_ ?_ ?_) ?_ ?_ ?_ ?_ ?_ ?_ ?_ ?_ ?_ ?_ ?_ ?_ ?_ ?b_NotPlain ?e_NotPlain ?dZ ⟨?_,?_,?_,?_,?_,?_,?_⟩ ?_ ?_ ?_ ?_ ?_ ?_ ?_ (L4.mk ?_ ?_ ?_ ?_ ?_) (L4.mk ?_ ?_ ?_ ?_ ?_) (L4.mk ?_ ?_ ?_ ?_ ?_) (L4.mk ?_ ?_ ?_ ?_ ?_) (L4.mk ?_ ?_ ?_ ?_ ?_) (L4.mk ?_ ?_ ?_ ?_ ?_) (L4.mk ?_ ?_ ?_ ?_ ?_))
  (case b_NotPlain=>k_is)
  (case e_NotPlain=>k_exc)
  (case dZ=>rfl)
  all_goals try k_is
 case S=>exact fun w H a ns hl hS=>L3.DC (fun ns hn=>⟨_,_,W.EI ns hn⟩) H a ns hl hS
 case C=>exact fun _ _ _ _ _ z=>L3.DD z
