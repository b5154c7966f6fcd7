import PyProof.Rows.All
import Wide.All
import OpenK.AllK
import Wide.FinOn
import Lean
import PyProof.EqAt
import PyProof.EqKinds
import PyProof.TupleCall
import PyProof.ZipIter
import PyProof.AttrMissHeap
import PyProof.Walks
import PyProof.WalksS
import PySem.SetTable
import KE.KSortTup
import KE.KRevIter
import PyProof.Rows.SetFrom
import PyProof.CollectWalk
import PyProof.DictWalks
import PyProof.DictItems
import KE.KDictList
import PyProof.ListRange
import PyProof.EqAt
import PyProof.WalkInts
import PyProof.StrBlockG
import PyProof.SumWalk
import PyProof.Rows.TupIter
import PyProof.StrLawsIdx
import PyProof.CallStr
import PyProof.StrCalls2
import PyProof.StrWalks
import KE.KIntText
import PyProof.SetRoads
import PyProof.StrLawsTight
import PyProof.Rows.FStr
import PyProof.SumAny
import PyProof.MinMaxWalk
import PyProof.DefCall
import KE.KMinKey
import KE.KEqDict
import PyProof.DictFindH
import PyProof.Rows.CallKw2
import PyProof.Rows.CallKwBuiltin
import KE.KDictOf
import PyProof.ExcArgsOwn
import PyProof.Draws
import PyProof.EnumMake
import PyProof.ConsumeWalk
import PySem.Challenge.RW_callwalk_k41_till
section
open PySem PySem.W PyProof.Rows
def PySem.W.Vw:Program:={PySem.Challenge.pw_callwalk_k41_till with main:={PySem.Challenge.pw_callwalk_k41_till.main with body:=PySem.Challenge.pw_callwalk_k41_till.main.body.filter fun s=>match s with|.FunctionDef n ..=>!(["way"]:List Str).contains n|.ClassDef ..=>true|_=>false}}
local macro_rules | `(tactic| o_head $H) => `(tactic| refine holds_open (q := PySem.W.Vw) (loose := ["way"]) (Xt := fun s => xlAt PySem.W.Vw [] s && recOk (RowW.records PySem.Challenge.rw_callwalk_k41_till.row.toRowW) s) (XP := XL PySem.W.Vw []) (Yf := Hook.obs $H) (Ya := Hook.val $H) (YP := Hook.says $H) (N := 5200) (fun w => by kernel_rfl) (Hook.of $H) (Hook.keeps $H) (fun s e => xl_of s (Bool.and_eq_true_iff.mp e).1) XL.keeps (by rfl) (by rfl) (by rfl) (fun s e => recFacts_of (Bool.and_eq_true_iff.mp e).2) (by rfl) (by first | assumption | decide +kernel) (by decide +kernel) ⟨rfl, rfl, rfl, rfl, rfl, by decide +kernel⟩ ?_ ?_)
set_option Elab.async false
set_option maxRecDepth 100000
set_option maxHeartbeats 0
theorem PySem.W.Ew:PySem.Challenge.rw_callwalk_k41_till.wellSaid=true:=by kernel_rfl
def PySem.W.Ea:=fun hc=>(by
 w_on;refine holds_law PySem.W.Ew fun said=>?_;k_head;(· w_witness2)
 exact hc:PySem.Challenge.rw_callwalk_k41_till.Holds)
end
set_option autoImplicit true
set_option Elab.async false
set_option linter.all false
set_option genSizeOf false
set_option genSizeOfSpec false
set_option compiler.extract_closed false
set_option maxRecDepth 100000
set_option maxHeartbeats 4000000
set_option bootstrap.genMatcherCode false
noncomputable section
abbrev KE:=@PySem.wpAny_bind
abbrev OY:=@PySem.wpAny_pure
abbrev OZ:=@PySem.Heap.get?_push_of_some
abbrev O0:=@Nat.le_refl
abbrev O1:=@List.getElem?_eq_getElem
abbrev O2:=@List.length_map
abbrev O3:=@List.getElem?_eq_some_iff
abbrev O4:=@List.mem_cons_of_mem
abbrev O5:=@List.mem_cons_self
abbrev O6:=@List.length_append
abbrev O7:=@List.size_toArray
abbrev O8:=@List.mem_cons
abbrev O9:=@List.mem_singleton
abbrev O_:=@decide_eq_true
abbrev Pa:=@PySem.Heap.lt_size
abbrev Pb:=@List.mem_map
abbrev Pc:=@PySem.Heap.get?_push_size
abbrev Pd:=@List.not_mem_nil
abbrev Pe:=@List.getElem?_map
abbrev Pf:=@List.mem_append
abbrev Pg:=@List.length_cons
abbrev Ph:=@List.map_cons
abbrev Pi:=@if_pos
abbrev Pj:=@List.mem_iff_getElem?
abbrev Pl:=@if_neg
abbrev Pn:=@PySem.sizeLine_eq
abbrev Po:=@Bool.false_eq_true
abbrev Pp:=@decide_eq_false
abbrev Pq:=@Nat.zero_le
abbrev Ps:=@Option.some.inj
abbrev Pt:=@Nat.ne_of_lt
abbrev Pu:=@Nat.le_trans
abbrev Pw:=@List.pairwise_iff_getElem
abbrev Px:=@List.mem_of_getElem?
abbrev Py:=@PySem.F.plainAttrs_list
abbrev PB:=@Bool.false_ne_true
abbrev PD:=@of_decide_eq_true
abbrev PF:=@PySem.F.slot_list_append
abbrev PH:=@PySem.F.type_list_append
abbrev PJ:=@Nat.lt_of_lt_of_le
abbrev PL:=@List.mem_append_right
abbrev PN:=@Array.getElem?_toList
abbrev PP:=@PySem.PassesOwn.never
abbrev PQ:=@List.length_singleton
abbrev PR:=@PySem.Heap.get?_update_other
abbrev PU:=@Option.map_eq_some_iff
abbrev PV:=@List.take_add_one
abbrev PX:=@List.map_append
abbrev PY:=@List.mem_range
abbrev PZ:=@List.nodup_nil
abbrev P0:=@List.mem_filter
abbrev P3:=@List.mem_append_left
abbrev P7:=@PySem.F.plainAttrs_dict
abbrev P8:=@PySem.boot_len
abbrev P9:=@PySem.W.mg_none_of
abbrev P_:=@PySem.Heap.SameBut.update
abbrev Qa:=@List.map_congr_left
abbrev Qb:=@Nat.exists_eq_add_of_le'
abbrev Qc:=@PySem.wpAny_newObj_type
abbrev Qd:=@PySem.wpAny_holding
abbrev Qe:=@Nat.lt_of_le_of_lt
abbrev Qf:=@List.getElem?_append_left
abbrev Qg:=@PySem.F.slot_dict_setdefault
abbrev Qh:=@List.take_of_length_le
abbrev Qi:=@List.length_take
abbrev Qj:=@PySem.wpAny_call_entry
abbrev Qk:=@List.nodup_cons
abbrev Ql:=@PyProof.Rows.slot_tuple_getitem
abbrev Qm:=@PySem.Heap.get?_update_self
abbrev Qn:=@Ne.symm
abbrev Qo:=@Array.length_toList
abbrev Qp:=@Int.eq_ofNat_of_zero_le
abbrev Qq:=@PySem.F.slot_dict_itemiterator_next
abbrev Qr:=@PySem.wpAny_truthy_bool
abbrev Qs:=@PySem.wpAny_setState_of
abbrev Qu:=@List.filter_append
abbrev Qw:=@PySem.W.kia_one
abbrev Qx:=@List.take_length
abbrev Qy:=@if_false
abbrev Qz:=@List.length_eq_zero_iff
abbrev QA:=@PySem.Around.under_plainId
abbrev QB:=@List.mem_of_mem_take
abbrev QC:=@List.map_map
abbrev QD:=@List.length_eq_one_iff
abbrev QE:=@PySem.codeAny_builtin
abbrev QF:=@PyProof.Rows.F.plain_set_update_loop
abbrev QG:=@Nat.shiftRight_eq_div_pow
abbrev QH:=@congrArg
abbrev QI:=@PySem.wpAny_mono
abbrev QJ:=@List.length_filter_le
abbrev QK:=@List.pairwise_map
abbrev QL:=@PySem.F.type_dict_setdefault
abbrev QM:=@List.length_nil
abbrev QN:=@PySem.wpAny_callSpecial?_slot
abbrev QO:=@Nat.lt_succ_self
abbrev QP:=@Bool.and_eq_true
abbrev QQ:=@List.getElem?_append_right
abbrev QR:=@Array.getElem?_eq_some_iff
abbrev QS:=@PySem.Calls.callWith_builtin
abbrev QT:=@PySem.mem_of_lookup
abbrev QU:=@beq_eq_false_iff_ne
abbrev QV:=@Nat.lt_irrefl
abbrev QW:=@Classical.byContradiction
abbrev QX:=@PySem.F.slot_dict_get
abbrev QY:=@PySem.wpAny_typeNameOfWhole_itemiter
abbrev QZ:=@List.Pairwise.imp_of_mem
abbrev Q0:=@List.length_drop
abbrev Q1:=@PySem.plainId_quiet
abbrev Q2:=@Bool.not_true
abbrev Q3:=@List.filter_cons_of_neg
abbrev Q5:=@List.filter_cons_of_pos
abbrev Q7:=@List.Perm.refl
abbrev Q8:=@List.nodup_append
abbrev Q9:=@PyProof.Rows.callWith_type1
abbrev Q_:=@List.find?_cons
abbrev Ra:=@PySem.F.plain_min_loop
abbrev Rb:=@PySem.wpAny_Call_Name_kw
abbrev Rc:=@PySem.tupleKind_room_in1
abbrev Re:=@List.take_append_drop
abbrev Rf:=@List.getElem?_eq_none
abbrev Rg:=@Int.le_trans
abbrev Rh:=@PySem.Heap.size_push
abbrev Rj:=@PySem.wpAny_typeNameOf_itemiter
abbrev Rk:=@PySem.Calls.evalArgs_plain
abbrev Rl:=@PySem.wpAny_passesOwn
abbrev Rm:=@List.append_nil
abbrev Rn:=@Nat.lt_succ_of_lt
abbrev Ro:=@List.foldl_append
abbrev Rp:=@List.foldl_cons
abbrev Rq:=@Nat.le_of_lt
abbrev Rr:=@List.map_nil
abbrev Rt:=@PySem.Paired.length
abbrev Ru:=@List.filterMap_cons
abbrev Rv:=@Int.le_refl
abbrev Rx:=@List.all_eq_true
abbrev Ry:=@beq_self_eq_true
abbrev Rz:=@List.lookup_cons
abbrev RB:=@if_true
abbrev RC:=@PySem.F.entry_dict_get
abbrev RD:=@List.mem_filterMap
abbrev RE:=@PySem.Calls.spliced_cons
abbrev RF:=@List.pairwise_cons
abbrev RG:=@PySem.wpAny_setField_rec
abbrev RH:=@Nat.ne_of_gt
abbrev RI:=@Bool.eq_iff_iff
abbrev RJ:=@PySem.wpAny_typeOf
abbrev RK:=@PySem.wpAny_notOrdered_dict
abbrev RM:=@Nat.le_of_ble_eq_true
abbrev RN:=@List.eq_nil_or_concat
abbrev RO:=@PySem.wpAny_pyIter_list
abbrev RP:=@List.any_cons
abbrev RQ:=@List.append_assoc
abbrev RR:=@List.flatMap_cons
abbrev RT:=@List.length_range
abbrev RU:=@PySem.Obj.data_mapDictKeys
abbrev RV:=@List.mem_iff_getElem
abbrev RX:=@List.mem_of_mem_drop
abbrev RY:=@List.length_take_le'
abbrev RZ:=@Bool.and_false
abbrev R0:=@PySem.wpAny_seqItems
abbrev R7:=@List.drop_eq_getElem_cons
abbrev R8:=@List.getElem?_zip_eq_some
abbrev R9:=@PyProof.Rows.F.entry_set_update_loop
abbrev R_:=@List.filter_cons
abbrev Sa:=@List.nodup_range
abbrev Sb:=@PySem.Heap.SameBut.extBut
abbrev Se:=@Int.toNat_of_nonneg
abbrev Sf:=@PySem.call_meetsIn
abbrev Sg:=@Int.le_of_lt
abbrev Si:=@Int.zero_add
abbrev Sj:=@List.zip_cons_cons
abbrev Sk:=@PySem.wpAny_Call_method0_late
abbrev Sm:=@Nat.lt_or_gt_of_ne
abbrev Sn:=@PySem.W.KasT.kasWp_bind
abbrev Sq:=@PySem.wpAny_updateSeq
abbrev Sr:=@Nat.add_sub_cancel_left
abbrev Ss:=@PySem.W.mg_of
abbrev Su:=@PySem.wpAny_isOneOf_itemiter
abbrev Sv:=@beq_iff_eq
abbrev Sw:=@PySem.Calls.spliced_nil
abbrev Sx:=@Int.toNat_natCast
abbrev Sy:=@PySem.wpAny_field
abbrev Sz:=@PySem.wpAny_rule
abbrev SB:=@Nat.lt_trichotomy
abbrev SC:=@PySem.wpAny_storeSet_of
abbrev SD:=@bne_self_eq_false
abbrev SE:=@PySem.wpAny_pyIter_slot
abbrev SF:=@PySem.wpAny_dictEntries
abbrev SG:=@Bool.false_and
abbrev SH:=@PySem.wpAny_tryCatch
abbrev SI:=@PySem.codeAny_mono
abbrev SJ:=@List.length_replicate
abbrev SK:=@PySem.F.args_dict_setdefault_3
abbrev SL:=@PySem.wpAny_forIn_list
abbrev SM:=@Nat.le_add_right
abbrev SN:=@PySem.F.entry_dict_setdefault
abbrev SO:=@List.getElem_mem
abbrev SQ:=@List.pairwise_append
abbrev SR:=@or_false
abbrev SS:=@PySem.wpAny_execs_nil
abbrev SU:=@PySem.W.plainGet_of
abbrev SV:=@Nat.add_le_add_left
abbrev SW:=@PySem.Moved.trans
abbrev SX:=@List.length_pos_iff
abbrev SY:=@Nat.mul_le_mul_left
abbrev SZ:=@List.map_eq_nil_iff
abbrev S1:=@PySem.W.of_hideAll
abbrev S3:=@Nat.le_of_eq
abbrev S4:=@PySem.W.callWith_K
abbrev S5:=@Prod.ext
abbrev S6:=@Int.lt_of_lt_of_le
abbrev S7:=@Nat.add_comm
abbrev S8:=@PySem.wpAny_setField
abbrev S9:=@PySem.W.kitx_dict
abbrev S_:=@Option.isSome_map
abbrev Ta:=@Nat.le_of_lt_succ
abbrev Tc:=@List.ext_getElem?
abbrev Td:=@List.getElem?_inj
abbrev Te:=@Nat.le_succ
abbrev Tf:=@Bool.and_self
abbrev Tg:=@PySem.wpAny_letGo
abbrev Th:=@List.sum_cons
abbrev Ti:=@Nat.mul_add
abbrev Tj:=@List.perm_middle
abbrev Tl:=@Nat.mod_lt
abbrev Tn:=PySem.Shared
abbrev To:=PySem.W.Frag
abbrev Tp:=PySem.Program
abbrev Tq:=PySem.Value
abbrev Ts:=PySem.Around
theorem TB (h : True := by rfl) : True := h
theorem Tt (h : True := by decide) : True := h
theorem Tw (h : ∀ u : Unit, u = u := by intro _; rfl) : True := True.intro
theorem Tu (h : True := by first|exact .inl rfl|exact .inr rfl|assumption) : True := h
theorem Tv (h : True := by first|exact Or.inl rfl|exact Or.inr (Or.inl rfl)|exact Or.inr (Or.inr rfl)) : True := h
theorem Tz (h : True := by intro _ _; rfl) : True := h

namespace L2
open PySem PySem.Spec PyProof.Rows
noncomputable abbrev bC:=Sum Int Str
noncomputable def iO:bC->Tq->Bool
 | .inl k,v=>Value.isInt k v
 | .inr x,v=>Value.isStrOf x v
noncomputable def K9 (w:World):bC->Int
 | .inl k=>hashInt k
 | .inr x=>hashStr w x
theorem bA:∀{k:bC}{v:Tq},iO k v=true->(∃ i t,k=Sum.inl i/\v=Value.int i t)\/(∃ x t,k=Sum.inr x/\v=Value.str x t)
 | .inl i,v,h=>by obtain⟨t,e⟩:=Value.isInt_shape (k:=i) (v:=v) h;exact .inl ⟨i,t,rfl,e⟩
 | .inr x,v,h=>by obtain⟨t,e⟩:=Value.isStrOf_shape (x:=x) (v:=v) h;exact .inr ⟨x,t,rfl,e⟩
theorem wb (i:Int)(t:Tok):iO (.inl i) (.int i t)=true:=by simp[iO,Value.isInt]
theorem wc (x:Str)(t:Tok):iO (.inr x) (.str x t)=true:=by simp[iO,Value.isStrOf]
theorem Fi (a b:Int):decide ((Sum.inl a:bC)=Sum.inl b)=(a==b):=by grind
theorem Fj (a b:Str):decide ((Sum.inr a:bC)=Sum.inr b)=decide (a=b):=by grind
theorem Fk (a:Int)(b:Str):decide ((Sum.inl a:bC)=Sum.inr b)=false:=Pp (fun q=>nomatch q)
theorem Fo (a:Str)(b:Int):decide ((Sum.inr a:bC)=Sum.inl b)=false:=Pp (fun q=>nomatch q)
def aV (prog:Tp)(w:World):PySem.KeyKind prog w bC where
 is:=iO
 hash:=K9 w
 inj:=fun v a b ha hb=>by
  rcases bA ha with⟨i,t,rfl,rfl⟩|⟨x,t,rfl,rfl⟩
  .rcases bA hb with⟨j,u,rfl,e⟩|⟨y,u,rfl,e⟩
   .injection e with e1 _;rw[e1]
   .exact nomatch e
  .rcases bA hb with⟨j,u,rfl,e⟩|⟨y,u,rfl,e⟩
   .exact nomatch e
   .injection e with e1 _;rw[e1]
 byValue:=fun k v h=>by rcases bA h with⟨i,t,rfl,rfl⟩|⟨x,t,rfl,rfl⟩<;>rfl
 pyHash:=fun hv h=>by
  rcases bA hv with⟨i,t,rfl,rfl⟩|⟨x,t,rfl,rfl⟩
  .exact wpAny_pyHash_int h
  .exact wpAny_pyHash_str h
 eqBool:=fun hu hv h=>by
  rcases bA hu with⟨i,t,rfl,rfl⟩|⟨x,t,rfl,rfl⟩
  .rcases bA hv with⟨j,u,rfl,rfl⟩|⟨y,u,rfl,rfl⟩
   .rw[Fi]at h;exact wpAny_eqBool_int h
   .rw[Fk]at h;exact SeqAt.EqAt.int_str i t y u _ _ _ _ h
  .rcases bA hv with⟨j,u,rfl,rfl⟩|⟨y,u,rfl,rfl⟩
   .rw[Fo]at h;exact SeqAt.EqAt.str_int x t j u _ _ _ _ h
   .rw[Fj]at h;exact wpAny_eqBool_str h
 «strs»:=fun k x t v h=>by
  rcases bA h with⟨i,u,rfl,e⟩|⟨y,u,rfl,e⟩
  .exact nomatch e
  .injection e with e1 _;subst e1;cases v<;>rfl
theorem qA (prog:Tp)(w:World)(i:Int)(t:Tok):(aV prog w).is (.inl i) (.int i t)=true:=wb i t
theorem qB (prog:Tp)(w:World)(x:Str)(t:Tok):(aV prog w).is (.inr x) (.str x t)=true:=wc x t
inductive V where
 |bJ|bl (b:Bool)|int (i:Int)|str (x:Str)|uT (b:Array UInt8)|Ff (b:UInt64)|ref (a:Addr)|ty (n:String)
 deriving DecidableEq
noncomputable def RelV:V->Tq->Prop
 | .bJ,u=>u=Value.none
 | .bl b,u=>u=Value.bool b
 | .int i,u=>∃ t,u=Value.int i t
 | .str x,u=>∃ t,u=Value.str x t
 | .uT b,u=>∃ t,u=Value.bytes b t
 | .Ff b,u=>∃ t,u=Value.float b t
 | .ref a,u=>u=Value.ref a
 | .ty n,u=>u=Value.type n
abbrev Vals:List V->List Tq->Prop:=Paired RelV
theorem Vals.length (r:Vals xs us):xs.length=us.length:=Rt r
theorem Vals.get:∀{xs:List V}{us:List Tq}{i:Nat}{x:V},Vals xs us->xs[i]?=some x->∃ u,us[i]?=some u/\RelV x u
 |_,_,_,_,.nil,e=>by simp at e
 |_,_,0,_,.cons r _,e=>by simp at e;subst e;exact⟨_,rfl,r⟩
 |_,_,i+1,x,.cons _ t,e=>by obtain⟨u,h1,h2⟩:=Vals.get (i:=i) (x:=x) t (by simpa using e);exact⟨u,by simpa using h1,h2⟩
theorem Vals.append:∀{xs ys:List V}{us ws:List Tq},Vals xs us->Vals ys ws->Vals (xs++ys) (us++ws)
 |_,_,_,_,.nil,s=>s
 |_,_,_,_,.cons r t,s=>.cons r (Vals.append t s)
theorem Vals.take:∀{xs:List V}{us:List Tq}(n:Nat),Vals xs us->Vals (xs.take n) (us.take n)
 |_,_,0,_=>.nil
 |_,_,_+1,.nil=>.nil
 |_,_,n+1,.cons r t=>.cons r (Vals.take n t)
theorem Vals.drop:∀{xs:List V}{us:List Tq}(n:Nat),Vals xs us->Vals (xs.drop n) (us.drop n)
 |_,_,0,r=>r
 |_,_,_+1,.nil=>.nil
 |_,_,n+1,.cons _ t=>Vals.drop n t
def RelO:Option V->Option Tq->Prop
 |some v,some u=>RelV v u
 |none,none=>True
 |_,_=>False
def KV {κ:Type}:List (κ×V)->List (κ×Tq)->Prop:=Paired fun(p:κ×V)(q:κ×Tq)=>p.1=q.1/\RelV p.2 q.2
noncomputable def kV:bC->V
 | .inl i=>.int i
 | .inr x=>.str x
inductive HO where
  
 |lst (xs:List V)
  
 |tup (xs:List V)
  
 |dK (kvs:List (bC×V))|dT (kvs:List (List bC×V))
  
 |set (S:Int->Bool) (n:Nat)
  
 |ins (C dx:Addr) (fs:List (Str×V))
  
 |own (x:Addr)
  
 |xd (fs:List (Str×V))
  
 |met (f x:Addr)
  
 |K7 (lo hi:Int)
  
 |cj (o:Obj) (u:HO)
  
 |qz (ps:Array Tq)
  
 |ext (φ:Heap->Prop)
noncomputable abbrev Hp:=Addr->Option HO
noncomputable def upd (H:Hp)(a:Addr)(o:HO):Hp:=fun b=>if b=a then some o else H b
theorem aj:upd H a o a=some o:=by unfold upd;rw[Pi rfl]
theorem aA (h:b≠a):upd H a o b=H b:=by unfold upd;rw[Pl h]
theorem yC {H:Hp}(h:H a=some o)(h':H b=some u)(d:o≠u):a≠b:=by intro e;subst e;rw[h]at h';exact d (Ps h')
theorem aB {H:Hp}(h:H a=some o)(h':H b=none):a≠b:=by intro e;subst e;rw[h]at h';cases h'
section
variable (P:Tp)(w:World)
def ObjOk (H:Hp)(h:Heap)(a:Addr):HO->Prop
 | .lst xs=>xs.length<=sizeLine/\∃(its:List Tq)(n:Nat),Vals xs its/\h.get? a=some { cls:=.type "list",data:=.seq its.toArray n }
 | .tup xs=>xs.length<=sizeLine/\∃ its:List Tq,Vals xs its/\IsTup h a its.toArray
 | .dK kvs=>kvs.length<=sizeLine/\(a==sysModules)=false/\∃ vs,KV kvs vs/\h.DictOf (aV P w) a vs
 | .dT kvs=>kvs.length<=sizeLine/\(a==sysModules)=false/\∃ xs:List (List bC×Addr×Tq),
  Paired (fun(p:List bC×V)(q:List bC×Addr×Tq)=>p.1=q.1/\H q.2.1=some (.tup (p.1.map kV))/\RelV p.2 q.2.2) kvs xs/\
  ∃ o es ep,h.get? a=some o/\o.ExactDict/\o.data=.dict es ep/\es.toList=xs.map (entryOfKey (tupleKind (aV P w)))/\(xs.map (·.1)).Nodup
 | .set S n=>h.SetOf (intKind P w) a S n
 | .ins C dx fs=>H dx=some (.own a)/\fs.length<=1000/\dx≠a/\h.get? a=some (PySem.W.instObj C dx)/\
  ∃ mA,h.Ns1 dx mA/\(∀ f,RelO (fs.lookup f) (mA f))/\PySem.Within mA (fs.map (·.1))
 | .own _=>∃ o,h.get? a=some o
 | .xd fs=>∃ mA,h.Ns1 a mA/\∀ f,RelO (fs.lookup f) (mA f)
 | .K7 lo hi=>∃ t u v,h.get? a=some { cls:=.type "range",data:=.fields #[.int lo t,.int hi u,.int 1 v] }
 | .cj o u=>h.get? a=some o/\ObjOk H h a u
 | .qz ps=>h.get? a=some { cls:=.none,data:=.fields ps }
 | .met f x=>h.get? a=some (PySem.W.methodObj (.ref f) (.ref x))
 | .ext φ=>φ h/\(∃ o,h.get? a=some o)/\∀ h1 h2:Heap,φ h1->(∀ o,h1.get? a=some o->h2.get? a=some o)->φ h2
def HOk (H:Hp)(h:Heap):Prop:=∀ a o,H a=some o->ObjOk P w H h a o
end
section
theorem ObjOk.lt (x:ObjOk P w H h a o):a<h.objs.size:=by
 cases o with
 |lst xs=>obtain⟨_,_,_,_,e⟩:=x;exact Pa e
 |tup xs=>obtain⟨_,_,_,p⟩:=x;exact p.lt
 |dK kvs=>obtain⟨_,_,_,_,o,_,_,e,_⟩:=x;exact Pa e
 |dT kvs=>obtain⟨_,_,_,_,o,_,_,e,_⟩:=x;exact Pa e
 |set S n=>obtain⟨o,_,_,_,e,_⟩:=x;exact Pa e
 |ins C dx fs=>obtain⟨_,_,_,e,_⟩:=x;exact Pa e
 |own y=>obtain⟨_,e⟩:=x;exact Pa e
 |xd fs=>obtain⟨_,⟨_,_,_,e,_⟩,_⟩:=x;exact Pa e
 |K7 lo hi=>obtain⟨_,_,_,e⟩:=x;exact Pa e
 |cj ob u=>obtain⟨e,_⟩:=x;exact Pa e
 |qz ps=>exact Pa (show h.get? a=some _ from x)
 |met f y=>exact Pa (show h.get? a=some _ from x)
 |ext φ=>obtain⟨_,⟨_,e⟩,_⟩:=x;exact Pa e
theorem Paired.Hx {α β:Type}{F G:α->β->Prop}{l₁:List α}{l₂:List β}(h:Paired F l₁ l₂)(f:∀ a b,F a b->G a b):Paired G l₁ l₂:=by
 induction h with
 |nil=>exact .nil
 |cons r _ ih=>exact .cons (f _ _ r) ih
theorem ObjOk.stay (x:ObjOk P w H h a o)(k:∀ b u,(b=a\/H b=some (.own a))->h.get? b=some u->h'.get? b=some u)
 (ho:∀ b,H b=some (.own a)->H' b=some (.own a)) (ht:∀ b xs,H b=some (.tup xs)->H' b=some (.tup xs)):ObjOk P w H' h' a o:=by
 induction o with
 |lst xs=>obtain⟨z,its,n,r,e⟩:=x;exact⟨z,its,n,r,k _ _ (.inl rfl) e⟩
 |tup xs=>obtain⟨z,its,r,ob,e,c⟩:=x;exact⟨z,its,r,ob,k _ _ (.inl rfl) e,c⟩
 |dK kvs=>obtain⟨z,y,vs,r,ob,es,ep,e,c⟩:=x;exact⟨z,y,vs,r,ob,es,ep,k _ _ (.inl rfl) e,c⟩
 |dT kvs=>obtain⟨z,y,xs,r,ob,es,ep,e,c⟩:=x;exact⟨z,y,xs,Paired.Hx r fun p q z=>⟨z.1,ht _ _ z.2.1,z.2.2⟩,ob,es,ep,k _ _ (.inl rfl) e,c⟩
 |set S n=>obtain⟨ob,es,ep,t,e,c⟩:=x;exact⟨ob,es,ep,t,k _ _ (.inl rfl) e,c⟩
 |ins C dx fs=>obtain⟨d,z,ne,e,mA,⟨od,es,ep,e2,c⟩,r⟩:=x;exact⟨ho _ d,z,ne,k _ _ (.inl rfl) e,mA,⟨od,es,ep,k _ _ (.inr d) e2,c⟩,r⟩
 |own y=>obtain⟨ob,e⟩:=x;exact⟨ob,k _ _ (.inl rfl) e⟩
 |xd fs=>obtain⟨mA,⟨od,es,ep,e,c⟩,r⟩:=x;exact⟨mA,⟨od,es,ep,k _ _ (.inl rfl) e,c⟩,r⟩
 |K7 lo hi=>obtain⟨t,u,v,e⟩:=x;exact⟨t,u,v,k _ _ (.inl rfl) e⟩
 |cj ob u ih=>obtain⟨e,q⟩:=x;exact⟨k _ _ (.inl rfl) e,ih q⟩
 |qz ps=>have e:h.get? a=some { cls:=.none,data:=.fields ps }:=x;show h'.get? a=some { cls:=.none,data:=.fields ps };exact k a _ (.inl rfl) e
 |met f y=>have e:h.get? a=some (PySem.W.methodObj (.ref f) (.ref y)):=x;show h'.get? a=some (PySem.W.methodObj (.ref f) (.ref y));exact k a _ (.inl rfl) e
 |ext φ=>obtain⟨p,⟨o,e⟩,st⟩:=x;exact⟨st _ _ p fun o q=>k _ _ (.inl rfl) q,⟨o,k _ _ (.inl rfl) e⟩,st⟩
theorem HOk.lt (x:HOk P w H h)(e:H a=some o):a<h.objs.size:=(x a o e).lt
theorem HOk.fresh (x:HOk P w H h)(e:h.objs.size<=a):H a=none:=by
 cases q:H a with
 |none=>rfl
 |some u=>exact absurd (PJ (x.lt q) e) (QV _)
theorem HOk.kept (x:HOk P w H h)(k:∀ b u,h.get? b=some u->h'.get? b=some u):HOk P w H h':=fun a o e=>(x a o e).stay (fun b u _ q=>k b u q) (fun _ q=>q) fun _ _ q=>q
theorem HOk.laid (x:HOk P w H h)(k:∀ b u,h.get? b=some u->h'.get? b=some u)(hp:h.objs.size<=a)(new:ObjOk P w (upd H a o) h' a o):HOk P w (upd H a o) h':=fun b u e=>by
 have hn:=x.fresh hp;by_cases hb:b=a
 .subst hb;rw[aj]at e;cases e;exact new
 .rw[aA hb]at e;exact(x b u e).stay (fun c v _ q=>k c v q) (fun c q=>by rw[aA (aB q hn)];exact q) fun c xs q=>by rw[aA (aB q hn)];exact q
end
def Rd (H:Hp)(a:Addr)(u:HO):Prop:=H a=some u\/∃ o,H a=some (.cj o u)
theorem Rd.ok (r:Rd H a u)(x:HOk P w H h):ObjOk P w H h a u:=by
 rcases r with r|⟨o,r⟩
 .exact x a u r
 .obtain⟨_,q⟩:=x a _ r;exact q
noncomputable def HK:Option HO->Prop
 |some (.lst _)=>True
 |some (.dK _)=>True
 |some (.dT _)=>True
 |some (.set _ _)=>True
 |some (.ins _ _ _)=>True
 |some (.ext _)=>True
 |_=>False
section
theorem HOk.write (ok:HOk P w H h)(mu:HK (H x))(he:e=x\/H e=some (.own x))(k:∀ b u,b≠e->h.get? b=some u->h'.get? b=some u)(heo:∃ u,h'.get? e=some u)
 (new:ObjOk P w (upd H x o') h' x o'):HOk P w (upd H x o') h':=fun b u q=>by
 have nown:∀ c y,H c=some (.own y)->c≠x:=fun c y r z=>by subst z;rw[r]at mu;exact mu
 have ntup:∀ c xs,H c=some (.tup xs)->c≠x:=fun c xs r z=>by subst z;rw[r]at mu;exact mu
 by_cases hb:b=x
 .subst hb;rw[aj]at q;cases q;exact new
 .rw[aA hb]at q;by_cases hbe:b=e
  .have q':H b=some (.own x):=by
    grind
   rw[q]at q';cases q';obtain⟨v,hv⟩:=heo;exact⟨v,by rw[hbe];exact hv⟩
  .refine(ok b u q).stay (fun c v hc r=>k c v ?_ r) (fun c r=>by rw[aA (nown c b r)];exact r) fun c xs r=>by rw[aA (ntup c xs r)];exact r
   grind
end
def Qt (H:Hp)(b:Addr):Prop:=H b=none\/∃ xs,H b=some (.tup xs)
structure Un (fs ex:List Addr) (H H':Hp) (h h':Heap):Prop where
 keep:∀ b o,h.get? b=some o->Qt H b->b∉fs->b∉ex->h'.get? b=some o
 slot:∀ b o,h.get? b=some o->H b=none->b∈fs->b∉ex->∃ sl,h'.get? b=some { o with slots:=sl }
 free:∀ b o,h.get? b=some o->H b=none->b∉ex->H' b=none
 there:∀ b o,h.get? b=some o->b∉ex->∃ o',h'.get? b=some o'
 iJ:∀ b xs,H b=some (.tup xs)->H' b=some (.tup xs)
 jg:∀ b o u,H b=some (.cj o u)->H' b=some (.cj o u)
 m5:∀ b ps,H b=some (.qz ps)->∃ more,H' b=some (.qz (ps++more))
section
theorem Un.any (u:Un fs ex H H1 h h1)(q:h.get? b=some ob)(n:H b=none)(hx:b∉ex):∃ sl,h1.get? b=some { ob with slots:=sl }:=by
 by_cases hb:b∈fs
 .exact u.slot b ob q n hb hx
 .exact⟨ob.slots,u.keep b ob q (.inl n) hb hx⟩
theorem Un.kept (k:∀ b u,h.get? b=some u->h'.get? b=some u):Un fs ex H H h h':=⟨fun b ob q _ _ _=>k b ob q,fun b ob q _ _ _=>⟨ob.slots,k b ob q⟩,fun _ _ _ n _=>n,fun b ob q _=>⟨ob,k b ob q⟩,fun _ _ q=>q,fun _ _ _ q=>q,fun _ ps q=>⟨#[],by rw[q];simp⟩⟩
theorem Un.refl:Un fs ex H H h h:=Un.kept fun _ _ q=>q
theorem Un.laid (k:∀ b u,h.get? b=some u->h'.get? b=some u)(hp:h.objs.size<=a)(hn:H a=none):Un fs ex H (upd H a o) h h' where
 keep:=fun b u q _ _ _=>k b u q
 slot:=fun b u q _ _ _=>⟨u.slots,k b u q⟩
 free:=fun b u q n _=>by rw[aA (Pt (PJ (Pa q) hp))];exact n
 there:=fun b u q _=>⟨u,k b u q⟩
 iJ:=fun b xs q=>by rw[aA (aB q hn)];exact q
 jg:=fun b u xs q=>by rw[aA (aB q hn)];exact q
 m5:=fun b ps q=>⟨#[],by rw[aA (aB q hn),q];simp⟩
theorem Un.write (mu:HK (H x))(he:e=x\/H e=some (.own x))(k:∀ b u,b≠e->h.get? b=some u->h'.get? b=some u)(heo:∃ u,h'.get? e=some u):Un fs ex H (upd H x o) h h':=by
 have hx:∀ b,H b=none->b≠x:=fun b n z=>by subst z;rw[n]at mu;exact mu
 have hb:∀ b,H b=none->b≠e:=fun b n z=>by grind
 have hm:∀ b u,H b=some u->¬ HK (some u)->b≠x:=fun b u q nm z=>by subst z;rw[q]at mu;exact nm mu
 refine⟨fun b u q n _ _=>k b u (n.elim (hb b) fun⟨xs,ee⟩ z=>by rcases he with r|r;(·rw[<- r,<- z,ee]at mu;exact mu);(·rw[<- z,ee]at r;cases r)) q,fun b u q n _ _=>⟨u.slots,k b u (hb b n) q⟩,fun b u q n _=>by rw[aA (hx b n)];exact n,fun b u q _=>?_,
  fun b xs q=>by rw[aA (hm b _ q fun z=>z)];exact q,fun b u xs q=>by rw[aA (hm b _ q fun z=>z)];exact q,fun b ps q=>⟨#[],by rw[aA (hm b _ q fun z=>z),q];simp⟩⟩
 by_cases hbe:b=e
 .subst hbe;exact heo
 .exact⟨u,k b u hbe q⟩
end
noncomputable def yv (h:Heap)(H:Hp):List Addr:=(List.range h.objs.size).filter fun a=>(H a).isSome
def qC (h:Heap)(H:Hp):Heap:=PySem.W.hideAll h (yv h H)
theorem wd (h:Heap)(H:Hp):(qC h H).objs.size=h.objs.size:=PySem.W.hideAll_size _ _
theorem qD (e:h.get? b=some o)(n:H b=none):(qC h H).get? b=some o:=PySem.W.hideAll_get _ e fun hm=>by have q:(H b).isSome=true:=(P0.mp hm).2;rw[n]at q;simp at q
theorem Cs (e:(qC h H).get? b=some o):h.get? b=some o/\H b=none:=by
 have e':h.get? b=some o:=S1 (yv h H) e;refine⟨e',?_⟩;cases q:H b with
 |none=>rfl
 |some x=>have hm:b∈yv h H:=P0.mpr ⟨PY.mpr (Pa e'),by simp[q]⟩;have z:(qC h H).get? b=none:=PySem.W.hideAll_none (yv h H) hm;rw[z]at e;cases e
noncomputable def Ct (g h:Heap)(L:Addr):List (Addr×Obj):=(List.range h.objs.size).filterMap fun a=>if a=L\/(g.get? a).isSome=true then none else (h.get? a).map fun o=>(a,o)
def rest (g h:Heap)(L d:Addr):List (Addr×Obj):=(Ct g h L).filter fun p=>decide (p.1≠d)
noncomputable def NF:Tq->V
 | .str x _=>.str x
 | .ref a=>.ref a
 |_=>.bJ
def Fq (o:Obj):Option (Addr×List V):=match o.cls with
 | .type n=>if n=="kt" then (match o.data with
  | .seq its _=>(match its.toList with
   | .ref a::r=>some (a,r.map NF)
   |_=>none)
  |_=>none) else none
 |_=>none
def K_ (K:To)(H:Hp):Prop:=∀ p∈K,∀ a xs,Fq p.2=some (a,xs)->H a=some (.tup xs)
structure Mod (K:To) (mg:Str->Option Tq) (base:Heap):Prop where
 HX:K.In base
 glob:base.Ns mainGlobals mg
 blt:∃ mb,base.Ns builtinsNs mb/\∀ x:Str,x≠"__name__"->mb x=bootBuiltins x
 nolimit:base.NoLimit
structure Cx where
 prog:Tp
 w:World
 K:To
 mg:Str->Option Tq
 base:Heap
 A:Ts
 N:List Str
 s₀:Tn
 H₀:Hp
 env:Env
 outer:List Env
 stack:List Env
 ex:List Addr
 fn:Str->Bool
 calm:Bool
 pn:List (Addr×Obj)
 xe:Tq->Tn->Prop
abbrev wX (X:Cx){α:Type}(m:Sem α):(α->Tn->Prop)->(Tq->Tn->Prop)->Tn->Prop:=wpAny (model X.prog X.w) X.A m
abbrev sE (X:Cx)(e:Expr)(es:List Expr):Prop:=starEach (e::es) X.env=(false,eval e X.env)::starEach es X.env
abbrev bT (X:Cx)(p:Pos)(es:List Expr):Prop:=(backTo p (starEach es X.env)).any (·.1)=false
abbrev dB (x:Str):Prop:=(x==("__debug__" : Str))=false
noncomputable def jh (l:List Env):List Addr:=l.filterMap (·.frame)
abbrev Cx.fs (X:Cx):List Addr:=jh X.outer
def La (sc:Scope)(x:Str):Prop:=sc.names.lookup x=some .local\/sc.names.lookup x=some .cell\/sc.names.lookup x=some .free
def KJ (sc:Scope)(x:Str):Prop:=sc.names.lookup x=some .local\/sc.names.lookup x=some .cell
def Lb (env:Env)(h:Heap)(m:Str->Option Tq)(x:Str)(u:Tq):Prop:=(env.kindOf x=some .local/\m x=some u)\/((env.kindOf x=some .cell\/env.kindOf x=some .free)/\∃ c,env.cells.lookup x=some c/\h.IsCell c (some u))
structure Cx.Ok (X:Cx):Prop where
 mod:Mod X.K X.mg X.base
 kind:X.env.scope.kind=.function
 glob:X.env.globals=mainGlobals
 blt:X.env.builtins=builtinsNs
 above:X.s₀.heap.objs.size<=X.env.locals
 inj:∀ x y c,X.env.cells.lookup x=some c->X.env.cells.lookup y=some c->x=y
 has:∀ x,(X.env.kindOf x=some .cell\/X.env.kindOf x=some .free)->∃ c,X.env.cells.lookup x=some c
 HQ:∀ x c,X.fn x=true->X.env.cells.lookup x=some c->X.s₀.heap.objs.size<=c
 hd:X.calm=true->X.A.handled=none
 frames:X.A.frames=some X.stack
 stk:X.stack=X.outer\/(X.stack=X.env::X.outer/\X.env.frame=some X.env.locals)
 MS:∀ b∈X.ex,b≠X.env.locals/\∀ x c,X.env.cells.lookup x=some c->c≠b
 bs:∀ b o,X.base.get? b=some o->X.s₀.heap.get? b=some o/\X.H₀ b=none
 Cp:X.base.objs.size<=X.s₀.heap.objs.size
 yk:∀ b o,X.base.get? b=some o->b∉X.ex
 BO:∀ b∈X.ex,b∉X.fs
 kE:X.s₀.heap.FunFrames X.base X.outer
 Fd:∀ b∈X.fs,X.H₀ b=none
 kt:K_ X.K X.H₀
structure Inv (X:Cx) (ai:List (Addr×Obj)) (σ:List (Option V)) (H:Hp) (s:Tn):Prop where
 ok:X.Ok
 os:s.os=X.s₀.os
 bare:AllBare s.gens
 base:Un X.fs X.ex X.H₀ H X.s₀.heap s.heap
 loc:∃ m,s.heap.Ns X.env.locals m/\∀(i:Nat)(x:Str)(v:V),X.N[i]?=some x->σ[i]?=some (some v)->La X.env.scope x->∃ u,RelV v u/\Lb X.env s.heap m x u
 cell:∀ x c,X.env.cells.lookup x=some c->∃ v,s.heap.IsCell c v
 free:H X.env.locals=none
 gb:∀ x c,X.env.cells.lookup x=some c->H c=none
 pin:∀ p∈X.pn++ai,s.heap.get? p.1=some p.2/\H p.1=none/\p.1≠X.env.locals/\p.1∉X.fs/\∀ v,p.2.data≠.cell v
 be:HOk X.prog X.w H s.heap
 len:σ.length=X.N.length
section
variable {X:Cx}{ai:List (Addr×Obj)}{σ:List (Option V)}{H H':Hp}{s:Tn}
theorem Cx.Ok.MN (ok:X.Ok)(e:X.base.get? b=some o):b∉X.fs:=fun hb=>by have:=(ok.kE.mem hb).1;rw[e]at this;cases this
theorem Inv.bs (I:Inv X ai σ H s):∀ b o,X.base.get? b=some o->s.heap.get? b=some o/\H b=none:=fun b o e=>⟨I.base.keep b o (I.ok.bs b o e).1 (.inl (I.ok.bs b o e).2) (I.ok.MN e) (I.ok.yk b o e),I.base.free b o (I.ok.bs b o e).1 (I.ok.bs b o e).2 (I.ok.yk b o e)⟩
theorem Inv.kt (I:Inv X ai σ H s):K_ X.K H:=fun p hp a xs e=>I.base.iJ a xs (I.ok.kt p hp a xs e)
theorem Inv.bk (I:Inv X ai σ H s):∀ b o,X.base.get? b=some o->s.heap.get? b=some o:=fun b o e=>(I.bs b o e).1
theorem Inv.mod (I:Inv X ai σ H s):Mod X.K X.mg X.base:=I.ok.mod
theorem Inv.kC (I:Inv X ai σ H s):X.K.In s.heap:=I.ok.mod.HX.keeps I.bk
theorem Inv.lt (I:Inv X ai σ H s):X.env.locals<s.heap.objs.size:=let ⟨_,hn,_⟩:=I.loc;hn.lt
theorem Inv.sz (I:Inv X ai σ H s):X.s₀.heap.objs.size<=s.heap.objs.size:=Pu I.ok.above (Rq I.lt)
theorem Inv.MT (I:Inv X ai σ H s)(h:s.heap.objs.size<=a):a∉X.fs:=fun hb=>by obtain⟨_,o,ho,_⟩:=I.ok.kE.mem hb;exact absurd (PJ (Pa ho) (Pu I.sz h)) (QV _)
theorem Inv.HI (I:Inv X ai σ H s):∀ x c,X.env.cells.lookup x=some c->c≠X.env.locals:=fun x c e z=>by obtain⟨v,o,ho,hd⟩:=I.cell x c e;obtain⟨m,⟨o',es,ep,ho',hd',_⟩,_⟩:=I.loc;rw[z,ho']at ho;cases ho;rw[hd']at hd;cases hd
theorem Inv.kE (I:Inv X ai σ H s):s.heap.FunFrames X.base X.outer:=by
 have all:∀(l:List Env),(∀ b∈jh l,b∈X.fs)->X.s₀.heap.FunFrames X.base l->s.heap.FunFrames X.base l:=by
  intro l;induction l with
  |nil=>intro _ _;trivial
  |cons env r ih=>intro hs hl;obtain⟨hk,⟨L,o,hf,hn,ho,hd⟩,hr⟩:=hl;have hL:L∈X.fs:=hs L (by unfold jh;rw[Ru,hf];exact O5);obtain⟨sl,e⟩:=I.base.slot L o ho (I.ok.Fd L hL) hL fun z=>I.ok.BO L z hL;exact⟨hk,⟨L,_,hf,hn,e,hd⟩,ih (fun b hb=>hs b (by unfold jh;rw[Ru,hf];exact O4 _ hb)) hr⟩
 exact all X.outer (fun _ hb=>hb) I.ok.kE
theorem Inv.stack (I:Inv X ai σ H s):s.heap.FunFrames X.base X.stack:=by
 rcases I.ok.stk with e|⟨e,hf⟩
 .rw[e];exact I.kE
 .rw[e];obtain⟨m,hn,_⟩:=I.loc;refine .cons (by rw[I.ok.kind];decide) hf hn ?_ I.kE;exact Heap.get?_none_of_le (Pu I.ok.Cp I.ok.above)
theorem Inv.nh (I:Inv X ai σ H s):∀ b∈jh X.stack,b∈X.env.locals::X.fs:=fun b hb=>by
 rcases I.ok.stk with e|⟨e,hf⟩
 .rw[e]at hb;exact O4 _ hb
 .rw[e]at hb;unfold jh at hb;rw[Ru,hf]at hb;exact hb
theorem Inv.qr (I:Inv X ai σ H s):∀ b∈jh X.stack,H b=none:=fun b hb=>by
 rcases O8.mp (I.nh b hb) with e|hb
 .rw[e];exact I.free
 .obtain⟨_,o,ho,_⟩:=I.ok.kE.mem hb;exact I.base.free b o ho (I.ok.Fd b hb) fun z=>I.ok.BO b z hb
theorem Inv.step {d':Drawn}{ch:List Addr}(I:Inv X ai σ H s)
 (hch:∀ b∈ch,(b∈X.ex\/X.s₀.heap.objs.size<=b)/\b≠X.env.locals/\(∀ x c,X.env.cells.lookup x=some c->c≠b)/\∀ p∈X.pn++ai,p.1≠b)
 (keep:∀ b o,b≠X.env.locals->b∉X.fs->b∉ch->s.heap.get? b=some o->Qt H b->h'.get? b=some o)
 (slot:∀ b o,b≠X.env.locals->b∈X.fs->b∉ch->s.heap.get? b=some o->H b=none->∃ sl,h'.get? b=some { o with slots:=sl }) (free:∀ b o,b∉ch->s.heap.get? b=some o->H b=none->H' b=none)
 (there:∀ b o,b∉ch->s.heap.get? b=some o->∃ o',h'.get? b=some o')
 (iJ:∀ b xs,H b=some (.tup xs)->H' b=some (.tup xs)) (jg:∀ b o u,H b=some (.cj o u)->H' b=some (.cj o u)) (m5:∀ b ps,H b=some (.qz ps)->∃ more,H' b=some (.qz (ps++more)))
 (ns:∀ m,s.heap.Ns X.env.locals m->h'.Ns X.env.locals m) (be:HOk X.prog X.w H' h') (hg:AllBare g') :
 Inv X ai σ H' { s with heap:=h',gens:=g',drawn:=d',toks:=t' }:=by
 have neL:∀ b o,X.s₀.heap.get? b=some o->b≠X.env.locals:=fun b o e=>Pt (PJ (Pa e) I.ok.above);have neC:∀ b o,X.s₀.heap.get? b=some o->b∉X.ex->b∉ch:=fun b o e hx hb=>by
  rcases (hch b hb).1 with z|z
  .exact hx z
  .exact absurd (PJ (Pa e) z) (QV _)
 have cellK:∀ x c,X.env.cells.lookup x=some c->∀ v,s.heap.IsCell c v->h'.IsCell c v:=fun x c e v ⟨o,ho,hd⟩=>by
  have nch:c∉ch:=fun z=>(hch c z).2.2.1 x c e rfl;by_cases hc:c∈X.fs
  .obtain⟨sl,q⟩:=slot c o (I.HI x c e) hc nch ho (I.gb x c e);exact⟨_,q,hd⟩
  .exact⟨o,keep c o (I.HI x c e) hc nch ho (.inl (I.gb x c e)),hd⟩
 refine⟨I.ok,I.os,hg,⟨fun b o e n hb hx=>?_,fun b o e n hb hx=>?_,fun b o e n hx=>?_,fun b o e hx=>?_,fun b xs e=>iJ b xs (I.base.iJ b xs e),fun b o xs e=>jg b o xs (I.base.jg b o xs e),fun b ps e=>?_⟩,?_,fun x c e=>?_,?_,fun x c e=>?_,fun p hp=>?_,be,I.len⟩
 .exact keep b o (neL b o e) hb (neC b o e hx) (I.base.keep b o e n hb hx) (n.imp (fun n=>I.base.free b o e n hx) fun⟨xs,q⟩=>⟨xs,I.base.iJ b xs q⟩)
 .obtain⟨sl,e1⟩:=I.base.slot b o e n hb hx;obtain⟨sl',e2⟩:=slot b _ (neL b o e) hb (neC b o e hx) e1 (I.base.free b o e n hx);exact⟨sl',e2⟩
 .obtain⟨o',e1⟩:=I.base.there b o e hx;exact free b o' (neC b o e hx) e1 (I.base.free b o e n hx)
 .obtain⟨o',e1⟩:=I.base.there b o e hx;exact there b o' (neC b o e hx) e1
 .obtain⟨m1,e1⟩:=I.base.m5 b ps e
  grind
 .obtain⟨m,hn,hl⟩:=I.loc;refine⟨m,ns m hn,fun i x v e1 e2 e3=>?_⟩;obtain⟨u,r,l⟩:=hl i x v e1 e2 e3;refine⟨u,r,?_⟩;rcases l with l|⟨k,c,e,z⟩
  .exact .inl l
  .exact .inr ⟨k,c,e,cellK x c e _ z⟩
 .obtain⟨v,z⟩:=I.cell x c e;exact⟨v,cellK x c e v z⟩
 .obtain⟨m,⟨o,_,_,ho,_⟩,_⟩:=I.loc;exact free _ o (fun z=>(hch _ z).2.1 rfl) ho I.free
 .obtain⟨v,o,ho,hd⟩:=I.cell x c e;exact free c o (fun z=>(hch c z).2.2.1 x c e rfl) ho (I.gb x c e)
 .obtain⟨e,n,ne,nf,d⟩:=I.pin p hp;have nch:p.1∉ch:=fun z=>(hch p.1 z).2.2.2 p hp rfl;exact⟨keep p.1 p.2 ne nf nch e (.inl n),free p.1 p.2 nch e n,ne,nf,d⟩
theorem Inv.un {t':Nat}(I:Inv X ai σ H s)(u:Un X.fs [] H H' s.heap h')(be:HOk X.prog X.w H' h'):Inv X ai σ H' { s with heap:=h',toks:=t' }:=by obtain⟨m,⟨o,es,ep,ho,r⟩,_⟩:=id I.loc;obtain⟨sl,hL⟩:=u.any ho I.free (by simp);exact I.step (g':=s.gens) (d':=s.drawn) (ch:=[]) (fun _ z=>nomatch z) (fun b o _ hb _ e n=>u.keep b o e n hb (by simp)) (fun b o _ hb _ e n=>u.slot b o e n hb (by simp)) (fun b o _ e n=>u.free b o e n (by simp)) (fun b o _ e=>u.there b o e (by simp)) u.iJ u.jg u.m5 (fun m' hm=>by obtain⟨o',es',ep',ho',r'⟩:=hm;rw[ho]at ho';cases ho';exact⟨_,es',ep',hL,r'⟩) be I.bare
theorem Inv.call {d':Drawn}{ch:List Addr}(I:Inv X ai σ H s)(u:Un (jh X.stack) ch H H' s.heap h')(be:HOk X.prog X.w H' h')(hg:AllBare g')
 (hch:∀ b∈ch,(b∈X.ex\/X.s₀.heap.objs.size<=b)/\b≠X.env.locals/\(∀ x c,X.env.cells.lookup x=some c->c≠b)/\∀ p∈X.pn++ai,p.1≠b) :
 Inv X ai σ H' { s with heap:=h',gens:=g',drawn:=d',toks:=t' }:=by
 obtain⟨m,⟨o,es,ep,ho,r⟩,_⟩:=id I.loc;obtain⟨sl,hL⟩:=u.any ho I.free fun z=>(hch _ z).2.1 rfl;exact I.step (ch:=ch) hch (fun b o hL hb hc e n=>u.keep b o e n (fun z=>(O8.mp (I.nh b z)).elim hL hb) hc) (fun b o _ _ hc e n=>u.any e n hc) (fun b o hc e n=>u.free b o e n hc) (fun b o hc e=>u.there b o e hc) u.iJ u.jg u.m5 (fun m' hm=>by obtain⟨o',es',ep',ho',r'⟩:=hm;rw[ho]at ho';cases ho';exact⟨_,es',ep',hL,r'⟩) be hg
theorem Inv.turned {it:Addr}(I:Inv X ai σ H s)(k:∀ b o,b≠it->s.heap.get? b=some o->h'.get? b=some o)(hn:H it=none)(hL:it≠X.env.locals)
 (h1:it∈X.ex\/X.s₀.heap.objs.size<=it) (h2:∀ x c,X.env.cells.lookup x=some c->c≠it) (h3:∀ p∈X.pn++ai,p.1≠it):Inv X ai σ H { s with heap:=h',toks:=t' }:=by
 have nit:∀ b u,H b=some u->b≠it:=fun b u e z=>by rw[z,hn]at e;cases e
 refine I.step (g':=s.gens) (d':=s.drawn) (ch:=[it]) (fun b hb=>?_) (fun b o _ _ hc e _=>k b o (fun z=>hc (by simp[z])) e) (fun b o _ _ hc e _=>⟨o.slots,k b o (fun z=>hc (by simp[z])) e⟩) (fun _ _ _ _ n=>n)
  (fun b o hc e=>⟨o,k b o (fun z=>hc (by simp[z])) e⟩) (fun _ _ e=>e) (fun _ _ _ e=>e) (fun b ps e=>⟨#[],by rw[e];simp⟩) (fun m hm=>?_) (fun b u e=>?_) I.bare
 .have e:b=it:=by simpa using hb
  subst e;exact⟨h1,hL,h2,h3⟩
 .obtain⟨o,es,ep,ho,r⟩:=hm;exact⟨o,es,ep,k _ o (Qn hL) ho,r⟩
 .refine(I.be b u e).stay (fun c v hc q=>k c v ?_ q) (fun _ q=>q) fun _ _ q=>q;rcases hc with z|z
  .rw[z];exact nit b u e
  .exact nit c _ z
theorem Inv.tok (I:Inv X ai σ H s)(t:Nat):Inv X ai σ H { s with toks:=t }:=I.un (h':=s.heap) (t':=t) Un.refl I.be
theorem Inv.kept (I:Inv X ai σ H s)(k:∀ b u,s.heap.get? b=some u->h'.get? b=some u):Inv X ai σ H { s with heap:=h',toks:=t' }:=I.un (Un.kept k) (I.be.kept k)
theorem Inv.laid (I:Inv X ai σ H s)(k:∀ b u,s.heap.get? b=some u->h'.get? b=some u)(hp:s.heap.objs.size<=a)(new:ObjOk X.prog X.w (upd H a o) h' a o) :
 Inv X ai σ (upd H a o) { s with heap:=h',toks:=t' }:=I.un (Un.laid k hp (I.be.fresh hp)) (I.be.laid k hp new)
theorem Inv.write (I:Inv X ai σ H s)(mu:HK (H x))(he:e=x\/H e=some (.own x))(k:∀ b u,b≠e->s.heap.get? b=some u->h'.get? b=some u)(heo:∃ u,h'.get? e=some u)
 (new:ObjOk X.prog X.w (upd H x o) h' x o):Inv X ai σ (upd H x o) { s with heap:=h',toks:=t' }:=I.un (Un.write mu he k heo) (I.be.write mu he k heo new)
theorem Inv.v_ (I:Inv X ai σ H s)(h:∀ p∈pins',s.heap.get? p.1=some p.2/\H p.1=none/\p.1≠X.env.locals/\p.1∉X.fs/\∀ v,p.2.data≠.cell v):Inv X pins' σ H s:=⟨I.ok,I.os,I.bare,I.base,I.loc,I.cell,I.free,I.gb,fun p hp=>(Pf.mp hp).elim (fun z=>I.pin p (P3 _ z)) (h p),I.be,I.len⟩
theorem qE {N:List Str}(hN:N.Nodup){i j:Nat}{x:Str}(a:N[i]?=some x)(b:N[j]?=some x):i=j:=by obtain⟨h1,e1⟩:=O3.mp a;obtain⟨h2,e2⟩:=O3.mp b;exact(List.getElem_inj hN).mp (e1.trans e2.symm)
theorem n5 {E:Tq->Tn->Prop}{x:Str}{v:V}{u:Tq}{Q:Unit->Tn->Prop}(I:Inv X ai σ H s)(hN:X.N.Nodup)(hi:X.N[i]?=some x)(hx:KJ X.env.scope x)(r:RelV v u)
 (h:∀ s',Inv X ai (σ.set i (some v)) H s'->(∃ a,Heap.SameBut a s.heap s'.heap/\(a=X.env.locals\/X.env.cells.lookup x=some a))->Q () s') (hf:autoParam (X.fn x=true\/X.env.scope.names.lookup x=some .local) Tu._auto_1):wpAny M A (storeName X.env x u) Q E s:=by
 obtain⟨m,hn,hl⟩:=id I.loc;have hcls:(X.env.scope.kind==.class || (X.env.scope.kind==.module&&X.env.locals != X.env.globals))=false:=by rw[I.ok.kind];rfl
 have hiσ:i<σ.length:=by rw[I.len];exact(O3.mp hi).1
 have HI:=I.HI;have tracked:∀{a:Addr}{h':Heap},(∃ o,s.heap.get? a=some o/\H a=none)->Heap.SameBut a s.heap h'->HOk X.prog X.w H h':=fun{a h'} ha hs b ob e=>by
  obtain⟨_,_,hfree⟩:=ha;refine(I.be b ob e).stay (fun c w' hc q=>(hs.2 c ?_).trans q) (fun _ q=>q) fun _ _ q=>q
  grind
 rcases hx with hk|hk
 .refine wpAny_storeName_local hk hn (fun h' hn' hs=>?_) hcls;obtain⟨oL,_,_,hoL,_⟩:=id hn;refine h _ ⟨I.ok,I.os,I.bare,⟨fun b o e n hb hx=>?_,fun b o e n hb hx=>?_,I.base.free,fun b o e hx=>?_,I.base.iJ,I.base.jg,I.base.m5⟩,⟨_,hn',fun j y v' e1 e2 e3=>?_⟩,fun y c e=>?_,I.free,I.gb,fun p hp=>?_,tracked ⟨oL,hoL,I.free⟩ hs,by simpa using I.len⟩ ⟨_,hs,.inl rfl⟩
  .exact(hs.2 b (Pt (PJ (Pa e) I.ok.above))).trans (I.base.keep b o e n hb hx)
  .obtain⟨sl,e1⟩:=I.base.slot b o e n hb hx;exact⟨sl,(hs.2 b (Pt (PJ (Pa e) I.ok.above))).trans e1⟩
  .obtain⟨o',e1⟩:=I.base.there b o e hx;exact⟨o',(hs.2 b (Pt (PJ (Pa e) I.ok.above))).trans e1⟩
  .by_cases hj:j=i
   .subst hj;rw[hi]at e1;cases e1;rw[List.getElem?_set_self hiσ]at e2;cases e2;exact⟨u,r,.inl ⟨hk,by simp⟩⟩
   .rw[List.getElem?_set_ne (Qn hj)]at e2;obtain⟨u',r',q⟩:=hl j y v' e1 e2 e3;refine⟨u',r',?_⟩;rcases q with⟨k,e⟩|⟨k,c,e,z⟩
    .refine .inl ⟨k,?_⟩;have:y≠x:=fun e=>hj (qE hN e1 (e▸hi));simp[this,e]
    .exact .inr ⟨k,c,e,z.sameBut hs (HI y c e)⟩
  .obtain⟨w',z⟩:=I.cell y c e;exact⟨w',z.sameBut hs (HI y c e)⟩
  .obtain⟨e,n,ne,nf,d⟩:=I.pin p hp;exact⟨(hs.2 p.1 ne).trans e,n,ne,nf,d⟩
 .have hfn:X.fn x=true:=by
   rcases hf with z|z
   .exact z
   .rw[z]at hk;cases hk
  obtain⟨c,hc⟩:=I.ok.has x (.inl hk);obtain⟨w',z⟩:=I.cell x c hc;refine wpAny_storeName_cell I.ok.kind hk hc z (fun h' hc' hs=>?_);obtain⟨oc,hoc,hocd⟩:=id z;refine h { s with heap:=h' } ⟨I.ok,I.os,I.bare,⟨fun b o e n hb hx=>?_,fun b o e n hb hx=>?_,I.base.free,fun b o e hx=>?_,I.base.iJ,I.base.jg,I.base.m5⟩,⟨m,hn.sameBut hs (Qn (HI x c hc)),fun j y v' e1 e2 e3=>?_⟩,fun y c' e=>?_,I.free,I.gb,fun p hp=>?_,tracked ⟨oc,hoc,I.gb x c hc⟩ hs,by simpa using I.len⟩ ⟨c,hs,.inr hc⟩
  .exact(hs.2 b (Pt (PJ (Pa e) (I.ok.HQ x c hfn hc)))).trans (I.base.keep b o e n hb hx)
  .obtain⟨sl,e1⟩:=I.base.slot b o e n hb hx;exact⟨sl,(hs.2 b (Pt (PJ (Pa e) (I.ok.HQ x c hfn hc)))).trans e1⟩
  .obtain⟨o',e1⟩:=I.base.there b o e hx;exact⟨o',(hs.2 b (Pt (PJ (Pa e) (I.ok.HQ x c hfn hc)))).trans e1⟩
  .by_cases hj:j=i
   .subst hj;rw[hi]at e1;cases e1;rw[List.getElem?_set_self hiσ]at e2;cases e2;exact⟨u,r,.inr ⟨.inl hk,c,hc,hc'⟩⟩
   .rw[List.getElem?_set_ne (Qn hj)]at e2;obtain⟨u',r',q⟩:=hl j y v' e1 e2 e3;refine⟨u',r',?_⟩;rcases q with q|⟨k,c',e,z'⟩
    .exact .inl q
    .refine .inr ⟨k,c',e,z'.sameBut hs ?_⟩;rintro rfl;exact hj (qE hN e1 (I.ok.inj _ _ _ e hc▸hi))
  .by_cases hcc:c'=c
   .subst hcc;exact⟨_,hc'⟩
   .obtain⟨w2,z2⟩:=I.cell y c' e;exact⟨w2,z2.sameBut hs hcc⟩
  .obtain⟨e,n,ne,nf,d⟩:=I.pin p hp;refine⟨(hs.2 p.1 ?_).trans e,n,ne,nf,d⟩
   grind
theorem qF (I:Inv X ai σ H s)(hN:X.N.Nodup)(hi:X.N[i]?=some x)(hx:KJ X.env.scope x)(r:RelV v u)
 (h:∀ s',Inv X ai (σ.set i (some v)) H s'->Q () s') (hf:autoParam (X.fn x=true\/X.env.scope.names.lookup x=some .local) Tu._auto_1):wpAny M A (storeName X.env x u) Q E s:=
 n5 I hN hi hx r (fun s' I' _=>h s' I') hf
theorem Inv.Ky (I:Inv X ai σ H s)(ho:s'.os=s.os)(u:Un (jh X.stack) ch H H' s.heap s'.heap)(be:HOk X.prog X.w H' s'.heap)(hg:AllBare s'.gens)
 (hch:∀ b∈ch,(b∈X.ex\/X.s₀.heap.objs.size<=b)/\b≠X.env.locals/\(∀ x c,X.env.cells.lookup x=some c->c≠b)/\∀ p∈X.pn++ai,p.1≠b):Inv X ai σ H' s':=by
 obtain⟨h',g',d',t',o'⟩:=s';have e:o'=s.os:=ho;subst e;exact I.call (g':=g') (t':=t') (d':=d') u be hg hch
end
abbrev XK:=Tq->Option Addr->Hp->Prop
noncomputable abbrev St:=List (Option V)
abbrev VK:=V->Hp->Prop
abbrev TE:=St->Hp->VK->Prop
abbrev TT:=St->Hp->(Bool->Hp->Prop)->Prop
abbrev TA:=St->Hp->(List V->Hp->Prop)->Prop
structure Ends where
 nx:St->Hp->Prop
 rt:VK
 bk:St->Hp->Prop:=fun _ _=>False
 ct:St->Hp->Prop:=fun _ _=>False
abbrev TS:=Ends->St->Hp->Prop
def EP (X:Cx)(ai:List (Addr×Obj))(σ:St)(Q:VK)(u:Tq)(s':Tn):Prop:=∃ v H',Inv X ai σ H' s'/\RelV v u/\Q v H'
def TP (X:Cx)(ai:List (Addr×Obj))(σ:St)(Q:Bool->Hp->Prop)(b:Bool)(s':Tn):Prop:=∃ H',Inv X ai σ H' s'/\Q b H'
def AP (X:Cx)(ai:List (Addr×Obj))(σ:St)(Q:List V->Hp->Prop)(us:List Tq)(s':Tn):Prop:=∃ vs H',Inv X ai σ H' s'/\Vals vs us/\Q vs H'
def SP (X:Cx)(ai:List (Addr×Obj))(D:Ends)(f:Flow)(s':Tn):Prop:=
 match f with
 | .next=>∃ σ' H',Inv X ai σ' H' s'/\D.nx σ' H'
 | .brk=>∃ σ' H',Inv X ai σ' H' s'/\D.bk σ' H'
 | .cont=>∃ σ' H',Inv X ai σ' H' s'/\D.ct σ' H'
 | .ret u=>∃ v σ' H',Inv X ai σ' H' s'/\RelV v u/\D.rt v H'
def PE (X:Cx)(e:Expr)(t:TE):Prop:=∀(ai:List (Addr×Obj))(s:Tn)(σ:St)(H:Hp)(Q:VK),Inv X ai σ H s->t σ H Q->wpAny (model X.prog X.w) X.A (eval e X.env) (EP X ai σ Q) X.xe s
def PT (X:Cx)(e:Expr)(t:TT):Prop:=∀(ai:List (Addr×Obj))(s:Tn)(σ:St)(H:Hp)(Q:Bool->Hp->Prop),Inv X ai σ H s->t σ H Q->wpAny (model X.prog X.w) X.A (isTrue e X.env (eval e X.env)) (TP X ai σ Q) X.xe s
def PW (X:Cx)(e:Expr)(t:TT):Prop:=∀(whole:Sem Tq)(ai:List (Addr×Obj))(s:Tn)(σ:St)(H:Hp)(Q:Bool->Hp->Prop),Inv X ai σ H s->t σ H Q->wpAny (model X.prog X.w) X.A (isTrue e X.env whole) (TP X ai σ Q) X.xe s
theorem PW.pt (h:PW X e t):PT X e t:=h _
def PA (X:Cx)(es:List Expr)(t:TA):Prop:=∀(pos:Pos)(ai:List (Addr×Obj))(s:Tn)(σ:St)(H:Hp)(Q:List V->Hp->Prop),Inv X ai σ H s->t σ H Q->wpAny (model X.prog X.w) X.A (spliced (backTo pos (starEach es X.env))) (AP X ai σ Q) X.xe s
def PS (X:Cx)(st:Stmt)(t:TS):Prop:=∀(ai:List (Addr×Obj))(s:Tn)(σ:St)(H:Hp)(D:Ends),Inv X ai σ H s->t D σ H->wpAny (model X.prog X.w) X.A (exec st X.env) (SP X ai D) X.xe s
def PSs (X:Cx)(st:List Stmt)(t:TS):Prop:=∀(ai:List (Addr×Obj))(s:Tn)(σ:St)(H:Hp)(D:Ends),Inv X ai σ H s->t D σ H->wpAny (model X.prog X.w) X.A (execs st X.env) (SP X ai D) X.xe s
theorem bX {α:Type}{t:Sem α}{Q Q':α->Tn->Prop}{M:Model}{A:Ts}{E:Tq->Tn->Prop}{s:Tn}(h:wpAny M A t Q E s)(hQ:∀ a s,Q a s->Q' a s):wpAny M A t Q' E s:=QI h hQ fun _ _ x=>x
section
variable {X:Cx}
noncomputable def av (i:Nat):TE:=fun σ H Q=>∃ v,σ[i]?=some (some v)/\Q v H
noncomputable def tC (v:V):TE:=fun _ H Q=>Q v H
theorem Fs (hN:X.N[i]?=some x) (hv:La X.env.scope x) (hd:autoParam (dB x) Tt._auto_1) (hcd:autoParam ((x==("__classdict__" : Str))=false) Tt._auto_1):PE X (.Name x pos) (av i):=by
 intro ai s σ H Q I h;obtain⟨v,e,h⟩:=h;obtain⟨m,hn,hl⟩:=I.loc;obtain⟨u,r,l⟩:=hl i x v hN e hv;have fin:EP X ai σ Q u s:=⟨v,H,I,r,h⟩;rcases l with⟨hk,hm⟩|⟨hk,c,hc,hcell⟩
 .exact wpAny_Name (wpAny_loadName_local I.ok.kind hk hn hm fin) hd
 .rcases hk with hk|hk
  .exact wpAny_Name (wpAny_loadName_cell I.ok.kind hk hc hcell fin) hd
  .exact wpAny_Name (wpAny_loadName_free I.ok.kind hk hc hcell fin hcd) hd
theorem au {i j pos}:PE X (.Constant (.int i) j pos) (tC (.int i)):=fun _ _ _ H _ I h=>wpAny_Constant_int ⟨.int i,H,I.tok _,⟨_,rfl⟩,h⟩
theorem jj {b j pos}:PE X (.Constant (.bool b) j pos) (tC (.bl b)):=fun _ _ _ H _ I h=>Constant_bool ⟨.bl b,H,I,rfl,h⟩
theorem cK {j pos}:PE X (.Constant .none j pos) (tC .bJ):=fun _ _ _ H _ I h=>Constant_none ⟨.bJ,H,I,rfl,h⟩
theorem yD {x j pos}:PE X (.Constant (.str x) j pos) (tC (.str x)):=fun _ _ _ H _ I h=>Calls.Constant_str ⟨.str x,H,I.tok _,⟨_,rfl⟩,h⟩
def Gl (X:Cx)(x:Str):Prop:=X.env.kindOf x=some .globalImplicit
theorem kZ (I:Inv X ai σ H s)(hg:Gl X x)(hm:X.mg x=some u)(h:Q u s)
 (hd:autoParam (dB x) Tt._auto_1):wX X (eval (.Name x pos) X.env) Q E s:=
 Calls.Name_function_global I.ok.kind hg (Calls.loadGlobal_global (by rw[I.ok.glob];exact I.mod.glob.keeps I.bk) hm h) hd
theorem i5 (I:Inv X ai σ H s)(hg:Gl X x)(hm:X.mg x=none)(hv:bootBuiltins x=some u)(h:Q u s)
 (hn:autoParam (x≠"__name__") Tt._auto_1) (hd:autoParam (dB x) Tt._auto_1):wX X (eval (.Name x pos) X.env) Q E s:=by
 obtain⟨mb,h1,h2⟩:=I.mod.blt;exact Calls.Name_function_global I.ok.kind hg (Calls.loadGlobal_builtin (by rw[I.ok.glob];exact I.mod.glob.keeps I.bk) hm (by rw[I.ok.blt];exact h1.keeps I.bk) ((h2 x hn).trans hv) h) hd
theorem oX (hg:Gl X x) (hm:X.mg x=none) (hv:bootBuiltins x=some u) (r:RelV v u) (hn:autoParam (x≠"__name__") Tt._auto_1) (hd:autoParam (dB x) Tt._auto_1):PE X (.Name x pos) (tC v):=fun _ _ _ H _ I h=>i5 I hg hm hv ⟨v,H,I,r,h⟩ hn hd
variable {a b:Expr}{ta tb:TE}{pos:Pos}
def PC (X:Cx)(op:CmpOp)(a b:Expr)(t:TE):Prop:=
 ∀(ai:List (Addr×Obj))(s:Tn)(σ:St)(H:Hp)(Q:VK),Inv X ai σ H s->t σ H Q->
  wpAny (model X.prog X.w) X.A (eval a X.env) (fun v s₁=>wpAny (model X.prog X.w) X.A (eval b X.env) (fun u s₂=>wpAny (model X.prog X.w) X.A (compareOp op v u) (EP X ai σ Q) X.xe s₂) X.xe s₁) X.xe s
theorem yE (b:Expr)(h:op≠.In)(h2:op≠.NotIn):behindInMarks op b=false:=by
 have e1:(op==CmpOp.In)=false:=by cases op<;>first|rfl|exact absurd rfl h
 have e2:(op==CmpOp.NotIn)=false:=by cases op<;>first|rfl|exact absurd rfl h2
 cases b<;>simp[behindInMarks,e1,e2]
noncomputable def ED (ta:TE):TE:=fun σ H Q=>ta σ H fun x H1=>Q (.bl (!decide (x=.bJ))) H1
theorem RelV.BD (r:RelV x v):(v==Value.none)=decide (x=.bJ):=by
 cases x with
 |bJ=>cases r;rfl
 |bl _=>cases r;rfl
 |int _=>obtain⟨t,rfl⟩:=r;rfl
 |str _=>obtain⟨t,rfl⟩:=r;rfl
 |uT _=>obtain⟨t,rfl⟩:=r;rfl
 |Ff _=>obtain⟨t,rfl⟩:=r;rfl
 |ref _=>cases r;rfl
 |ty _=>cases r;rfl
theorem Cu {j pos'}(ha:PE X a ta):PC X .IsNot a (.Constant .none j pos') (ED ta):=by intro ai s σ H Q I h;refine bX (ha ai s σ H _ I h) fun v s1 ⟨x,H1,I1,r1,q1⟩=>?_;exact Constant_none (isnot_none_gen ⟨.bl _,H1,I1,by rw[r1.BD];rfl,q1⟩)
noncomputable def tB (t:TE):TT:=fun σ H Q=>t σ H fun x H1=>∃ c,x=.bl c/\Q c H1
theorem Ft (h:PC X op a b t)(h1:behindInMarks op b=false:=by first|exact yE _ (by decide) (by decide)|rfl):PT X (.Compare a [op] [b] pos) (tB t):=by intro ai s σ H Q I hw;refine wpAny_isTrue_Compare1 (bX (h ai s σ H _ I hw) fun v s1 h1=>bX h1 fun u s2 h2=>bX h2 fun c s3 ⟨x,H1,I1,r1,q1⟩=>?_) h1;obtain⟨d,rfl,q⟩:=q1;cases r1;exact Qr ⟨H1,I1,q⟩
theorem j3 (h:PE X e t)(he:autoParam (∀ whole,isTrue e X.env whole=(do let v <- whole;standAt e.pos;holding [v] (truthy v))) Tw._auto_1):PT X e (tB t):=by intro ai s σ H Q I hw;refine isTrue_plain (bX (h ai s σ H _ I hw) fun v s1 ⟨x,H1,I1,r1,q1⟩=>?_) (he _);obtain⟨d,rfl,q⟩:=q1;cases r1;exact Qr ⟨H1,I1,q⟩
variable {tA tB':TT}{rest:List Expr}
noncomputable def Fu (t u:TT):TT:=fun σ H Q=>t σ H fun c H1=>if c=true then u σ H1 Q else Q false H1
noncomputable def uV (t u:TT):TT:=fun σ H Q=>t σ H fun c H1=>if c=true then Q true H1 else u σ H1 Q
noncomputable def qG (t:TT):TT:=fun σ H Q=>t σ H fun c H1=>Q (!c) H1
theorem uW (ha:PT X a tA):PW X (.BoolOp .And [a] pos) tA:=by
 intro wh ai s σ H Q I h;refine isTrue_and (bX (ha ai s σ H Q I h) fun c s1 e=>?_);cases c with
 |true=>exact isTrue_and_nil e
 |false=>exact e
theorem gc (ha:PT X a tA):PW X (.BoolOp .Or [a] pos) tA:=by
 intro wh ai s σ H Q I h;refine isTrue_or (bX (ha ai s σ H Q I h) fun c s1 e=>?_);cases c with
 |false=>exact isTrue_or_nil e
 |true=>exact e
theorem yF (ha:PT X a tA)(hb:PW X (.BoolOp .And (b::rest) pos) tB'):PW X (.BoolOp .And (a::b::rest) pos) (Fu tA tB'):=by
 intro wh ai s σ H Q I h;refine isTrue_and (bX (ha ai s σ H _ I h) fun c s1 ⟨H1,I1,q1⟩=>?_);cases c with
 |true=>exact hb wh ai s1 σ H1 Q I1 q1
 |false=>exact⟨H1,I1,q1⟩
theorem gK (ha:PT X a tA)(hb:PW X (.BoolOp .Or (b::rest) pos) tB'):PW X (.BoolOp .Or (a::b::rest) pos) (uV tA tB'):=by
 intro wh ai s σ H Q I h;refine isTrue_or (bX (ha ai s σ H _ I h) fun c s1 ⟨H1,I1,q1⟩=>?_);cases c with
 |true=>exact⟨H1,I1,q1⟩
 |false=>exact hb wh ai s1 σ H1 Q I1 q1
theorem i6 (ha:PT X a tA):PT X (.UnaryOp .Not a pos) (qG tA):=by intro ai s σ H Q I h;exact isTrue_not (ha ai s σ H (fun c H1=>Q (!c) H1) I h)
noncomputable def n9 (ta tb:TE):TE:=fun σ H Q=>ta σ H fun x H1=>∃ c,x=.bl c/\if c=true then tb σ H1 Q else Q (.bl false) H1
noncomputable def H_ (ta tb:TE):TE:=fun σ H Q=>ta σ H fun x H1=>∃ c,x=.bl c/\if c=true then Q (.bl true) H1 else tb σ H1 Q
noncomputable def yG (ta:TE):TE:=fun σ H Q=>ta σ H fun x H1=>∃ c,x=.bl c/\Q (.bl (!c)) H1
theorem j4 {op}(h:PE X a t):PE X (.BoolOp op [a] pos) t:=fun ai s σ H Q I hw=>BoolOp_one (h ai s σ H Q I hw)
theorem lB (ha:PE X a ta)(hb:PE X (.BoolOp .And (b::rest) pos) tb):PE X (.BoolOp .And (a::b::rest) pos) (n9 ta tb):=by
 intro ai s σ H Q I h;refine BoolOp_and (bX (ha ai s σ H _ I h) fun v s1 ⟨x,H1,I1,r1,q1⟩=>?_);obtain⟨c,rfl,q1⟩:=q1;cases r1;refine Qr ?_;cases c with
 |true=>exact hb ai s1 σ H1 Q I1 q1
 |false=>exact⟨.bl false,H1,I1,rfl,q1⟩
theorem Ia (ha:PE X a ta)(hb:PE X (.BoolOp .Or (b::rest) pos) tb):PE X (.BoolOp .Or (a::b::rest) pos) (H_ ta tb):=by
 intro ai s σ H Q I h;refine BoolOp_or (bX (ha ai s σ H _ I h) fun v s1 ⟨x,H1,I1,r1,q1⟩=>?_);obtain⟨c,rfl,q1⟩:=q1;cases r1;refine Qr ?_;cases c with
 |false=>exact hb ai s1 σ H1 Q I1 q1
 |true=>exact⟨.bl true,H1,I1,rfl,q1⟩
theorem yH (ha:PE X a ta):PE X (.UnaryOp .Not a pos) (yG ta):=by intro ai s σ H Q I h;refine UnaryOp_ (bX (ha ai s σ H _ I h) fun v s1 ⟨x,H1,I1,r1,q1⟩=>?_);obtain⟨c,rfl,q1⟩:=q1;cases r1;exact not_of (Qr ⟨.bl (!c),H1,I1,rfl,q1⟩)
noncomputable def MX (t:TT)(ta tb:TE):TE:=fun σ H Q=>t σ H fun c H1=>if c=true then ta σ H1 Q else tb σ H1 Q
theorem yI (hc:PT X c tA)(ha:PE X a ta)(hb:PE X b tb):PE X (.IfExp c a b pos) (MX tA ta tb):=by
 intro ai s σ H Q I h;refine wpAny_IfExp (bX (hc ai s σ H _ I h) fun d s1 ⟨H1,I1,q1⟩=>?_);cases d with
 |true=>exact ha ai s1 σ H1 Q I1 q1
 |false=>exact hb ai s1 σ H1 Q I1 q1
end
def SqL (K:To)(H:Hp)(a:Addr)(xs:List V):Prop:=
 Rd H a (.lst xs)\/
  ∃(o:Obj)(its:Array Tq)(n:Nat),K.lookup a=some o/\o.cls=.type "list"/\o.dict=none/\o.data=.seq its n/\its.size<=sizeLine/\Vals xs its.toList
def SqT (K:To)(H:Hp)(a:Addr)(xs:List V):Prop:=
 Rd H a (.tup xs)\/
  ∃(o:Obj)(its:Array Tq)(n:Nat),K.lookup a=some o/\o.cls=.type "tuple"/\o.data=.seq its n/\its.size<=sizeLine/\Vals xs its.toList
noncomputable def Lc:Tq->Option V
 | .none=>some .bJ
 | .bool b=>some (.bl b)
 | .int i _=>some (.int i)
 | .str x _=>some (.str x)
 | .bytes b _=>some (.uT b)
 | .float b _=>some (.Ff b)
 | .ref a=>some (.ref a)
 | .type n=>some (.ty n)
 |_=>none
theorem RelV.abs (r:RelV x u):Lc u=some x:=by
 cases x with
 |bJ=>cases r;rfl
 |bl _=>cases r;rfl
 |int _=>obtain⟨t,rfl⟩:=r;rfl
 |str _=>obtain⟨t,rfl⟩:=r;rfl
 |uT _=>obtain⟨t,rfl⟩:=r;rfl
 |Ff _=>obtain⟨t,rfl⟩:=r;rfl
 |ref _=>cases r;rfl
 |ty _=>cases r;rfl
theorem RelV.inj (r:RelV x u)(q:RelV y u):x=y:=Ps (r.abs.symm.trans q.abs)
theorem Vals.inj {xs ys:List V}{us:List Tq}(h:Vals xs us)(k:Vals ys us):xs=ys:=by
 induction h generalizing ys with
 |nil=>cases k;rfl
 |cons r _ ih=>
  cases k with
  |cons r' t'=>rw[r.inj r',ih t']
section
theorem SqL.of {K:To}(h:H a=some (.lst xs)):SqL K H a xs:=.inl (.inl h)
theorem SqT.of {K:To}(h:H a=some (.tup xs)):SqT K H a xs:=.inl (.inl h)
theorem Inv.list (I:Inv X ai σ H s)(h:SqL X.K H a xs):∃ its:List Tq,Vals xs its/\PlainL s.heap a its.toArray/\xs.length<=sizeLine:=by
 rcases h with h|⟨o,its,n,hk,hc,hd,hs,hz,r⟩
 .obtain⟨z,its,n,r,e⟩:=h.ok I.be;exact⟨its,r,⟨_,n,e,rfl,rfl,rfl⟩,z⟩
 .refine⟨its.toList,r,⟨o,n,I.kC a o hk,hc,hd,by simpa using hs⟩,?_⟩;have e:=r.length;simp only[Qo]at e;lia
theorem Inv.tuple (I:Inv X ai σ H s)(h:SqT X.K H a xs):∃ its:List Tq,Vals xs its/\IsTup s.heap a its.toArray/\xs.length<=sizeLine:=by
 rcases h with h|⟨o,its,n,hk,hc,hs,hz,r⟩
 .obtain⟨z,its,r,p⟩:=h.ok I.be;exact⟨its,r,p,z⟩
 .refine⟨its.toList,r,⟨o,I.kC a o hk,hc,n,by simpa using hs⟩,?_⟩;have e:=r.length;simp only[Qo]at e;lia
theorem Inv.m_ (I:Inv X ai σ H s)(h:SqL X.K H a xs)(h':SqL X.K H a ys):xs=ys:=by
 obtain⟨its,r,⟨o,n,e,_,_,d⟩,_⟩:=I.list h;obtain⟨its',r',⟨o',n',e',_,_,d'⟩,_⟩:=I.list h';rw[e]at e';cases e';rw[d]at d';injection d' with d1 _;have:its=its':=by simpa using QH Array.toList d1
 subst this;exact r.inj r'
end
noncomputable abbrev Cx.nY (X:Cx)(E:Tq->Tn->Prop):Cx:={ X with xe:=E }
abbrev Cx.K8 (X:Cx):Cx:=X.nY fun _ _=>False
theorem Cx.Ok.nY {X:Cx}(ok:X.Ok)(E:Tq->Tn->Prop):(X.nY E).Ok:=⟨ok.mod,ok.kind,ok.glob,ok.blt,ok.above,ok.inj,ok.has,ok.HQ,ok.hd,ok.frames,ok.stk,ok.MS,ok.bs,ok.Cp,ok.yk,ok.BO,ok.kE,ok.Fd,ok.kt⟩
theorem Cx.Ok.h_ {X:Cx}{E:Tq->Tn->Prop}(ok:(X.nY E).Ok):X.Ok:=⟨ok.mod,ok.kind,ok.glob,ok.blt,ok.above,ok.inj,ok.has,ok.HQ,ok.hd,ok.frames,ok.stk,ok.MS,ok.bs,ok.Cp,ok.yk,ok.BO,ok.kE,ok.Fd,ok.kt⟩
section
theorem Inv.nY (I:Inv X ai σ H s)(E:Tq->Tn->Prop):Inv (X.nY E) ai σ H s:=⟨I.ok.nY E,I.os,I.bare,I.base,I.loc,I.cell,I.free,I.gb,I.pin,I.be,I.len⟩
theorem Inv.h_ (I:Inv (X.nY E) ai σ H s):Inv X ai σ H s:=⟨I.ok.h_,I.os,I.bare,I.base,I.loc,I.cell,I.free,I.gb,I.pin,I.be,I.len⟩
theorem SP.h_ (h:SP (X.nY E) ai D f s'):SP X ai D f s':=by
 cases f with
 |next=>obtain⟨σ',H',I,q⟩:=h;exact⟨σ',H',I.h_,q⟩
 |brk=>obtain⟨σ',H',I,q⟩:=h;exact⟨σ',H',I.h_,q⟩
 |cont=>obtain⟨σ',H',I,q⟩:=h;exact⟨σ',H',I.h_,q⟩
 |ret u=>obtain⟨v,σ',H',I,r,q⟩:=h;exact⟨v,σ',H',I.h_,r,q⟩
theorem PSs.K8 {st:List Stmt}(h:PSs X.K8 st t):PSs X st t:=fun ai s σ H D I hw=>QI (h ai s σ H D (I.nY _) hw) (fun _ _ q=>q.h_) fun _ _ z=>False.elim z
end
section
variable {X:Cx}{st:Stmt}{rest:List Stmt}{t u:TS}
noncomputable def bY:TS:=fun D σ H=>D.nx σ H
noncomputable def aP (t u:TS):TS:=fun D σ H=>t { D with nx:=u D } σ H
theorem bo:PSs X [] bY:=fun _ _ σ H _ I h=>SS ⟨σ,H,I,h⟩
theorem ay (h1:PS X st t)(h2:PSs X rest u):PSs X (st::rest) (aP t u):=by
 intro ai s σ H D I h;refine wpAny_execs_cons (bX (h1 ai s σ H { D with nx:=u D } I h) fun f s1 q=>?_);cases f with
 |next=>obtain⟨σ',H',I',q⟩:=q;exact h2 ai s1 σ' H' D I' q
 |ret v=>exact q
 |brk=>exact q
 |cont=>exact q
theorem aC (h1:PS X st t):PSs X [st] t:=by
 intro ai s σ H D I h;refine wpAny_execs_cons (bX (h1 ai s σ H D I h) fun f s1 q=>?_);cases f with
 |next=>exact SS q
 |ret v=>exact q
 |brk=>exact q
 |cont=>exact q
theorem Inv.quiet (I:Inv X ai σ H s):interactive X.env=false:=by simp[interactive,I.ok.kind]
noncomputable def cg (te:TE):TS:=fun D σ H=>te σ H fun _ H1=>D.nx σ H1
theorem bw (he:PE X e te)(hs:autoParam (swapsWith e none pos.line X.env=pure false) TB._auto_1):PS X (.Expr e pos) (cg te):=by intro ai s σ H D I h;exact wpAny_Expr_any (bX (he ai s σ H _ I h) fun v s1 ⟨x,H1,I1,r1,q1⟩=>⟨σ,H1,I1,q1⟩) I.quiet hs
noncomputable def b6 (te:TE):TS:=fun D σ H=>te σ H D.rt
theorem aZ (he:PE X e te):PS X (.Return (some e) pos) (b6 te):=by intro ai s σ H D I h;exact wpAny_Return_some (bX (he ai s σ H _ I h) fun v s1 ⟨x,H1,I1,r1,q1⟩=>⟨x,σ,H1,I1,r1,q1⟩)
noncomputable def cI (c:TT)(t u:TS):TS:=fun D σ H=>c σ H fun b H1=>if b=true then t D σ H1 else u D σ H1
theorem bZ (hc:PT X c tc)(ha:PSs X a t)(hb:PSs X b u):PS X (.If c a b pos) (cI tc t u):=by
 intro ai s σ H D I h;refine wpAny_If (bX (hc ai s σ H _ I h) fun d s1 ⟨H1,I1,q1⟩=>?_);cases d with
 |true=>exact ha ai s1 σ H1 D I1 q1
 |false=>exact hb ai s1 σ H1 D I1 q1
end
abbrev TG:=V->St->Hp->(St->Hp->Prop)->Prop
abbrev Ib:=List V->St->Hp->(St->Hp->Prop)->Prop
def PG (X:Cx)(target:Expr)(t:TG):Prop:=
 ∀(ai:List (Addr×Obj))(s:Tn)(σ:St)(H:Hp)(v:V)(u:Tq)(Q:St->Hp->Prop),Inv X ai σ H s->RelV v u->t v σ H Q->
  wpAny (model X.prog X.w) X.A (assign target X.env u) (fun _ s'=>∃ σ' H',Inv X ai σ' H' s'/\Q σ' H') X.xe s
def KL (X:Cx)(ts:List Expr)(t:Ib):Prop:=
 ∀(ai:List (Addr×Obj))(s:Tn)(σ:St)(H:Hp)(vs:List V)(us:List Tq)(Q:St->Hp->Prop),Inv X ai σ H s->Vals vs us->t vs σ H Q->
  wpAny (model X.prog X.w) X.A (assignInOrder ((assignEach ts X.env).map (·.2)) us) (fun _ s'=>∃ σ' H',Inv X ai σ' H' s'/\Q σ' H') X.xe s
section
noncomputable def aE (i:Nat):TG:=fun v σ H Q=>Q (σ.set i (some v)) H
theorem aT (hN:X.N.Nodup)(hi:X.N[i]?=some x)(hx:KJ X.env.scope x)(hf:autoParam (X.fn x=true\/X.env.scope.names.lookup x=some .local) Tu._auto_1):PG X (.Name x pos) (aE i):=by intro ai s σ H v u Q I r h;exact wpAny_assign_Name (qF I hN hi hx r (fun s' I'=>⟨_,H,I',h⟩) hf)
noncomputable def dW:Ib:=fun vs σ H Q=>vs=[]/\Q σ H
noncomputable def bn (t:TG)(u:Ib):Ib:=fun vs σ H Q=>∃ v r,vs=v::r/\t v σ H fun σ' H'=>u r σ' H' Q
theorem cu:KL X [] dW:=by intro ai s σ H vs us Q I r h;obtain⟨e,h⟩:=h;subst e;cases r;exact assignInOrder_nil ⟨σ,H,I,h⟩
theorem ba (h1:PG X e t)(h2:KL X es u)
 (hs:autoParam ((assignEach (e::es) X.env).map (·.2)=assign e X.env::(assignEach es X.env).map (·.2)) TB._auto_1):KL X (e::es) (bn t u):=by
 intro ai s σ H vs us Q I r h;obtain⟨v,vr,e1,h⟩:=h;subst e1;cases r with
 |cons r rr=>rw[hs];refine assignInOrder_cons (bX (h1 ai s σ H _ _ _ I r h) fun _ s1 ⟨σ1,H1,I1,q1⟩=>?_);exact h2 ai s1 σ1 H1 _ _ Q I1 rr q1
noncomputable def dX (K:To)(n:Nat)(t:Ib):TG:=fun v σ H Q=>∃ a xs,v=.ref a/\SqT K H a xs/\xs.length=n/\t xs σ H Q
theorem cU (hc:X.calm=true)(h:KL X es t)
 (hn:autoParam ((assignEach es X.env).length=n) TB._auto_1) (hst:autoParam ((assignEach es X.env).findIdx? (·.1)=none) TB._auto_1):PG X (.Tuple es k pos) (dX X.K n t):=by
 intro ai s σ H v u Q I r hw;obtain⟨a,xs,e1,hq,hl,hw⟩:=hw;subst e1;cases r;obtain⟨its,rv,ht,hz⟩:=I.tuple hq;refine assign_Tuple_tuple (I.ok.hd hc) ht (by simp[hn,<- hl,rv.length]) hst fun h' hx=>?_;have I1:Inv X ai σ H { s with heap:=h' }:=I.kept (t':=s.toks) fun b o e=>hx b o (Pt (Pa e)) e;exact h ai _ σ H xs _ Q I1 (by simpa using rv) hw
noncomputable def bc (te:TE)(g:TG):TS:=fun D σ H=>te σ H fun x H1=>g x σ H1 D.nx
theorem yJ (he:PE X e te)(hg:PG X tg g)(hs:autoParam (swapsWithSole [tg] e pos.line X.env=pure false) TB._auto_1)(hw:autoParam (swappedStores [tg] e X.env=pure none) TB._auto_1)
 (h1:autoParam ((assignEach [tg] X.env).map (·.2)=[assign tg X.env]) TB._auto_1):PS X (.Assign [tg] e pos) (bc te g):=by
 intro ai s σ H D I h;refine wpAny_Assign_stores (bX (he ai s σ H _ I h) fun v s1 ⟨x,H1,I1,r1,q1⟩=>?_) hs hw;rw[h1];exact bX (hg ai s1 σ H1 x v _ I1 r1 q1) fun _ s2 q=>q
theorem aN (hN:X.N.Nodup)(hi:X.N[i]?=some x)(hx:KJ X.env.scope x)(he:PE X e te)(hs:autoParam (swapsWith e (some (.Name x pos')) pos.line X.env=pure false) TB._auto_1)(hf:autoParam (X.fn x=true\/X.env.scope.names.lookup x=some .local) Tu._auto_1) :
 PS X (.Assign [.Name x pos'] e pos) (bc te (aE i)):=by
 intro ai s σ H D I h;refine wpAny_Assign_Name (bX (he ai s σ H _ I h) fun v s1 ⟨y,H1,I1,r1,q1⟩=>?_) hs;exact qF I1 hN hi hx r1 (fun s2 I2=>⟨_,H1,I2,q1⟩) hf
end
section
def oY (c:TT)(tb:TS):TS:=fun D σ H=>∃ W:Nat->St->Hp->Prop,(∃ m,W m σ H)/\∀ m σ H,W m σ H->
 c σ H fun b H1=>if b=true then ∃ N:St->Hp->Prop,(∀ σ' H',N σ' H'->∃ m',m'<m/\W m' σ' H')/\tb { D with nx:=N,ct:=N,bk:=D.nx } σ H1 else D.nx σ H1
theorem qH (hp:PassesOwn (model X.prog X.w) X.A X.env X.xe)(hc:PT X c tc)(hb:PSs X body tb):PS X (.While c body [] pos) (oY tc tb):=by
 intro ai s σ H D I h;obtain⟨W,⟨m0,w0⟩,turn⟩:=h;refine wpAny_While (codeAny_whileLoop (fun n s'=>∃ σ' H',Inv X ai σ' H' s'/\W n σ' H') ?_ m0 ⟨σ,H,I,w0⟩);rintro n s1 ⟨σ1,H1,I1,w1⟩;refine Rl hp (bX (hc ai s1 σ1 H1 _ I1 (turn n σ1 H1 w1)) fun b s2 ⟨H2,I2,q2⟩=>?_);cases b with
 |true=>
  obtain⟨N,hN,q2⟩:=q2;rw[Pi rfl];refine Rl hp (bX (hb ai s2 σ1 H2 _ I2 q2) fun f s3 q3=>?_);cases f with
  |next=>obtain⟨σ3,H3,I3,n3⟩:=q3;obtain⟨m',hm,w3⟩:=hN σ3 H3 n3;exact⟨m',hm,σ3,H3,I3,w3⟩
  |cont=>obtain⟨σ3,H3,I3,n3⟩:=q3;obtain⟨m',hm,w3⟩:=hN σ3 H3 n3;exact⟨m',hm,σ3,H3,I3,w3⟩
  |brk=>exact q3
  |ret v=>exact q3
 |false=>rw[Pl PB];exact SS ⟨σ1,H2,I2,q2⟩
end
structure It where
 go:Nat->Hp->Prop
 yB:Nat->Hp->V->Hp->Prop
 stop:Nat->Hp->Prop
def iF (X:Cx)(ai:List (Addr×Obj))(H:Hp)(b:Addr):Prop:=H b=none/\b≠X.env.locals/\b∉X.fs/\(b∈X.ex\/X.s₀.heap.objs.size<=b)/\(∀ x c,X.env.cells.lookup x=some c->c≠b)/\∀ p∈X.pn++ai,p.1≠b
theorem Inv.qw (I:Inv X ai σ H s)(hb:s.heap.objs.size<=b)(hn:H' b=none):iF X ai H' b:=by
 refine⟨hn,RH (PJ I.lt hb),I.MT hb,.inr (Pu I.sz hb),fun x c e z=>?_,fun p hp z=>?_⟩
 .obtain⟨v,q⟩:=I.cell x c e;exact absurd (PJ q.lt (by rw[z];exact hb)) (QV _)
 .exact absurd (PJ (Pa (I.pin p hp).1) (by rw[z];exact hb)) (QV _)
structure Turn (P:Tp) (w:World) (K:To) (tg:Expr) (J:It) (fp:List Addr) (it:Addr) (tn:Nat->Heap->Prop):Prop where
 mem:it∈fp
 obj:∀ i h,tn i h->∀ b∈fp,∃ o,h.get? b=some o/\∀ v,o.data≠.cell v
 keep:∀ i h h',tn i h->(∀ b∈fp,∀ o,h.get? b=some o->h'.get? b=some o)->tn i h'
 item:∀(X:Cx),X.prog=P->X.w=w->X.K=K->X.calm=true->∀(i:Nat)(ai:List (Addr×Obj))(s:Tn)(σ:St)(H:Hp)(E:Tq->Tn->Prop),Inv X ai σ H s->(∀ b∈fp,iF X ai H b)->tn i s.heap->J.go i H->
  wpAny (model P w) X.A (pyNext (.ref it)) (fun r s1=>∃ u,r=some u/\
   wpAny (model P w) X.A (letOwnedTupleGo tg (.ref it) u) (fun _ s2=>∃ x H',Inv X ai σ H' s2/\RelV x u/\J.yB i H x H'/\tn (i+1) s2.heap/\∀ b∈fp,H' b=none) E s1) E s
 done:∀(X:Cx),X.prog=P->X.w=w->X.K=K->X.calm=true->∀(i:Nat)(ai:List (Addr×Obj))(s:Tn)(σ:St)(H:Hp)(E:Tq->Tn->Prop),Inv X ai σ H s->(∀ b∈fp,iF X ai H b)->tn i s.heap->J.stop i H->
  wpAny (model P w) X.A (pyNext (.ref it)) (fun r s1=>r=none/\Inv X ai σ H s1) E s
 self:∀(A:Ts)(i:Nat)(s:Tn)(Q:Tq->Tn->Prop)(E:Tq->Tn->Prop),tn i s.heap->Q (.ref it) s->wpAny (model P w) A (pyIter (.ref it)) Q E s
abbrev TI:=St->Hp->(It->Hp->Prop)->Prop
def Ic (X:Cx)(ai:List (Addr×Obj))(σ:St)(tg:Expr)(R:It->Hp->Prop)(itv:Tq)(s2:Tn):Prop:=∃(it:Addr)(fp:List Addr)(tn:Nat->Heap->Prop)(J:It)(H':Hp),itv=.ref it/\Inv X ai σ H' s2/\Turn X.prog X.w X.K tg J fp it tn/\tn 0 s2.heap/\(∀ b∈fp,iF X ai H' b)/\R J H'
def PI (X:Cx)(tg iter:Expr)(wi:TI):Prop:=
 ∀(ai:List (Addr×Obj))(s:Tn)(σ:St)(H:Hp)(R:It->Hp->Prop),Inv X ai σ H s->wi σ H R->
  wpAny (model X.prog X.w) X.A (eval iter X.env) (fun v s1=>wpAny (model X.prog X.w) X.A (pyIter v) (Ic X ai σ tg R) X.xe s1) X.xe s
theorem yK (ho:s.heap.get? it=some o)(hc:o.cls=.type n)(hd:o.data=.fields vs)
 (hn:["enumerate", "zip", "dict_itemiterator", "dict_reverseitemiterator", "odict_iterator", "itertools.zip_longest", "itertools.pairwise"].contains n=false) (hQ:Q () s):wpAny M A (letOwnedTupleGo tg (.ref it) u) Q E s:=by
 unfold letOwnedTupleGo;cases tg<;>first
  |exact OY hQ
  |(cases u<;>first
     |exact OY hQ
     |(refine KE (wpAny_load ho ?_)
       rw[hc,hd];show wpAny M A (if (["enumerate", "zip", "dict_itemiterator", "dict_reverseitemiterator", "odict_iterator", "itertools.zip_longest", "itertools.pairwise"].contains n&&vs[0]?==some (rawInt _))=true then _ else _) Q E s;rw[Pl (by intro h;rw[hn,SG]at h;cases h)];exact OY hQ))
noncomputable def Cv (K:To)(a:Addr):It:=⟨fun i H=>∃ xs x,SqL K H a xs/\xs[i]?=some x,fun i H x H'=>H'=H/\∀ xs,SqL K H a xs->xs[i]?=some x,fun i H=>∃ xs,SqL K H a xs/\xs.length<=i⟩
noncomputable def Ld (lo:Int)(n:Nat):It:=⟨fun i _=>i<n,fun i H x H'=>H'=H/\x=.int (lo+i),fun i _=>n<=i⟩
theorem wf {K:To}{tg:Expr}(a it:Addr):Turn P w K tg (Cv K a) [it] it (fun i h=>h.IsListIter it a i) where
 mem:=by simp
 obj:=fun i h st b hb=>by
  have e:b=it:=by simpa using hb
  subst e;obtain⟨o,e,c,d⟩:=st;exact⟨o,e,fun v z=>by rw[d]at z;cases z⟩
 keep:=fun i h h' st k=>st.at fun o e=>k it (by simp) o e
 item:=by intro X hP hw hK hc i ai s σ H E I hf st hg;subst hP hw hK;obtain⟨xs,x,hq,hx⟩:=hg;obtain⟨its,rv,p,hz⟩:=I.list hq;obtain⟨u,hu,ru⟩:=rv.get hx;obtain⟨f0,f1,f2,f3,f4,f5⟩:=hf it (by simp);refine wpAny_pyNext_list_item st p.isList (x:=u) (by simpa using hu) fun h' st' sb=>?_;have I1:Inv X ai σ H { s with heap:=h' }:=I.turned (t':=s.toks) (fun b o hb e=>(sb.2 b hb).trans e) f0 f1 f3 f4 f5;obtain⟨o,e,c,d⟩:=id st';exact⟨u,rfl,yK (s:={ s with heap:=h' }) e c d (by decide) ⟨x,H,I1,ru,⟨rfl,fun ys hy=>by rw[I.m_ hy hq];exact hx⟩,st',fun b hb=>(hf b hb).1⟩⟩
 done:=by intro X hP hw hK hc i ai s σ H E I hf st hg;subst hP hw hK;obtain⟨xs,hq,hx⟩:=hg;obtain⟨its,rv,p,hz⟩:=I.list hq;obtain⟨f0,f1,f2,f3,f4,f5⟩:=hf it (by simp);have hl:=rv.length;exact wpAny_pyNext_list_end (I.ok.hd hc) st p.isList (by simp;lia) fun h' eb=>⟨rfl,I.turned (t':=s.toks) (fun b o hb e=>eb b o hb e) f0 f1 f3 f4 f5⟩
 self:=fun _ _ _ _ _ st h=>wpAny_pyIter_listiter st h
theorem sU {K:To}{tg:Expr}(it:Addr)(lo:Int)(n:Nat):Turn P w K tg (Ld lo n) [it] it (fun i h=>IsRangeIter h it (lo+(i:Nat)*1) ((n:Int)-(i:Nat)) 1) where
 mem:=by simp
 obj:=fun i h st b hb=>by grind
 keep:=fun i h h' st k=>k it (by simp) _ st
 item:=by intro X hP hw hK hc i ai s σ H E I hf st hg;subst hP hw hK;obtain⟨f0,f1,f2,f3,f4,f5⟩:=hf it (by simp);have W:=Walks.range (prog:=X.prog) (w:=X.w) (I.ok.hd hc) it lo 1 n;refine W.item i s _ _ hg st fun v h' tk hv st' kk=>?_;obtain⟨t,rfl⟩:=hv;have I1:Inv X ai σ H { s with heap:=h',toks:=tk }:=I.turned (fun b o hb e=>kk b o (by simpa using hb) e) f0 f1 f3 f4 f5;refine⟨_,rfl,yK (s:={ s with heap:=h',toks:=tk }) (n:="range_iterator") st' rfl rfl (by decide) ⟨.int (lo+i),H,I1,⟨t,?_⟩,⟨rfl,rfl⟩,st',fun b hb=>(hf b hb).1⟩⟩;rw[Int.mul_one]
 done:=by intro X hP hw hK hc i ai s σ H E I hf st hg;subst hP hw hK;obtain⟨f0,f1,f2,f3,f4,f5⟩:=hf it (by simp);exact wpAny_pyNext_range_end (I.ok.hd hc) st (by have:n<=i:=hg;lia) fun h' eb=>⟨rfl,I.turned (t':=s.toks) (fun b o hb e=>eb b o hb e) f0 f1 f3 f4 f5⟩
 self:=fun _ _ _ _ _ st h=>wpAny_pyIter_rangeiter st h
section
def cC (K:To)(tl:TE):TI:=fun σ H R=>tl σ H fun x H1=>∃ a,x=.ref a/\(∃ xs,SqL K H1 a xs)/\R (Cv K a) H1
theorem bQ {tl:TE}(hl:PE X l tl):PI X tg l (cC X.K tl):=by
 intro ai s σ H R I h;refine bX (hl ai s σ H _ I h) fun v s1 ⟨x,H1,I1,r1,q1⟩=>?_;obtain⟨a,e,⟨xs,hq⟩,q⟩:=q1;subst e;cases r1;obtain⟨its,rv,p,hz⟩:=I1.list hq;refine RO p.isList ?_;refine⟨s1.heap.objs.size,[s1.heap.objs.size],_,_,H1,rfl,I1.kept (t':=s1.toks) fun b o e=>OZ _ e,wf a _,⟨_,Pc _ rfl,rfl,rfl⟩,fun b hb=>?_,q⟩;have e:b=s1.heap.objs.size:=by simpa using hb
 subst e;exact I1.qw (O0 _) (I1.be.fresh (O0 _))
theorem yL {s:Tn}{R:It->Hp->Prop}{E:Tq->Tn->Prop}{lo hi:Int}{t u v:Tok}{tk:Nat}(I:Inv X ai σ H s)(h1:-(2 ^ 62)<=lo)(h2:lo<2 ^ 62)(h3:-(2 ^ 62)<=hi)(h4:hi<2 ^ 62)
 (q:R (Ld lo (hi-lo).toNat) H):wX X (pyIter (.ref s.heap.objs.size)) (Ic X ai σ tg R) E { s with heap:=s.heap.push { cls:=.type "range",data:=.fields #[.int lo t,.int hi u,.int 1 v] },toks:=tk }:=by
 refine wpAny_pyIter_range (IsRange.new ..) (small_one h1 h2 h3 h4) ?_;have I1:Inv X ai σ H { s with heap:=s.heap.push { cls:=.type "range",data:=.fields #[.int lo t,.int hi u,.int 1 v] },toks:=tk }:=I.kept fun b o e=>OZ _ e;refine⟨(s.heap.push { cls:=.type "range",data:=.fields #[.int lo t,.int hi u,.int 1 v] }).objs.size,[(s.heap.push { cls:=.type "range",data:=.fields #[.int lo t,.int hi u,.int 1 v] }).objs.size],_,_,H,rfl,
  I1.kept (t':=tk) fun b o e=>OZ _ e,sU _ lo (hi-lo).toNat,?_,fun b hb=>?_,q⟩
 .have e1:lo+((0:Nat):Int)*1=lo:=by simp
  have e2:(((hi-lo).toNat:Nat):Int)-((0:Nat):Int)=Builtin.Range.rangeSize lo hi 1:=by rw[rangeSize_one];split<;>lia
  show IsRangeIter _ _ (lo+((0:Nat):Int)*1) ((((hi-lo).toNat:Nat):Int)-((0:Nat):Int)) 1;rw[e1,e2];exact Pc _ rfl
 .have e:b=(s.heap.push { cls:=.type "range",data:=.fields #[.int lo t,.int hi u,.int 1 v] }).objs.size:=by simpa using hb
  subst e;exact I1.qw (O0 _) (I1.be.fresh (O0 _))
def qI (ta:TA):TI:=fun σ H R=>ta σ H fun vs H1=>∃ j:Int,vs=[.int j]/\-(2 ^ 62)<=j/\j<2 ^ 62/\R (Ld 0 j.toNat) H1
theorem ie {a:Expr} {ta:TA} {p pos:Pos} (hg:Gl X "range") (hm:X.mg "range"=none) (ha:PA X [a] ta) (hs:autoParam (starEach [a] X.env=[(false,eval a X.env)]) TB._auto_1):PI X tg (.Call (.Name "range" p) [a] [] pos) (qI ta):=by
 intro ai s σ H R I h;refine Call_ (i5 I hg hm boot_range (Q9 (bX (ha pos ai s σ H _ I h) fun us s1 ⟨vs,H1,I1,r1,q1⟩=>?_) hs rfl));obtain⟨j,e,q1,q2,q⟩:=q1;subst e;cases r1 with
 |cons r rr=>cases rr;obtain⟨t,rfl⟩:=r;exact call_range_1 (yL I1 (by lia) (by lia) q1 q2 (by simpa using q))
def eV (wi:TI)(g:TG)(tb:TS):TS:=fun D σ H=>wi σ H fun J H1=>∃ W:Nat->Nat->St->Hp->Prop,(∃ m,W 0 m σ H1)/\∀ i m σ H,W i m σ H->
 (J.stop i H/\D.nx σ H)\/(J.go i H/\∃ N:St->Hp->Prop,(∀ σ' H',N σ' H'->∃ m',m'<m/\W (i+1) m' σ' H')/\∀ x H',J.yB i H x H'->g x σ H' fun σ2 H2=>tb { D with nx:=N,ct:=N,bk:=D.nx } σ2 H2)
noncomputable def lC (fp:List Addr)(h:Heap):List (Addr×Obj):=fp.filterMap fun b=>(h.get? b).map fun o=>(b,o)
theorem gd (hb:b∈fp)(e:h.get? b=some o):(b,o)∈lC fp h:=RD.mpr ⟨b,hb,by rw[e];rfl⟩
theorem wg (hp:p∈lC fp h):p.1∈fp/\h.get? p.1=some p.2:=by
 obtain⟨b,hb,e⟩:=RD.mp hp;cases q:h.get? b with
 |none=>rw[q]at e;cases e
 |some o=>rw[q]at e;have e':(b,o)=p:=Ps e;subst e';exact⟨hb,q⟩
theorem Inv.pinned (I:Inv X ai σ H s)(hf:∀ b∈fp,iF X ai H b)(ho:∀ b∈fp,∃ o,s.heap.get? b=some o/\∀ v,o.data≠.cell v):Inv X (ai++lC fp s.heap) σ H s:=
 I.v_ fun p hp=>(Pf.mp hp).elim (fun z=>I.pin p (PL _ z)) fun z=>by
  obtain⟨hb,e⟩:=wg z;obtain⟨f0,f1,f2,_⟩:=hf p.1 hb
  grind
theorem Inv.jX (I:Inv X (ai++pl) σ H s):Inv X ai σ H s:=I.v_ fun p hp=>I.pin p (PL _ (P3 _ hp))
theorem ci (hp:PassesOwn (model X.prog X.w) X.A X.env X.xe)(hc:X.calm=true)(hi:PI X tg iter wi)(hg:PG X tg g)(hb:PSs X body tb)
 (hs:autoParam (∀ x,foldedSetIterable iter X.env x=pure x) Tw._auto_1):PS X (.For tg iter body [] pos) (eV wi g tb):=by
 intro ai s σ H D I h;refine wpAny_For (bX (hi ai s σ H _ I h) fun v s1 h1=>bX h1 fun itv s2 h2=>?_) hs;obtain⟨it,fp,tn,J,H2,e,I2,T,st2,f2,W,⟨m0,w0⟩,turn⟩:=h2;subst e;have stat:∀{H':Hp},(∀ b∈fp,H' b=none)->∀ b∈fp,iF X ai H' b:=fun hn b hb=>⟨hn b hb,(f2 b hb).2⟩;refine codeAny_forLoop_any (fun n s'=>∃ i σ' H',Inv X ai σ' H' s'/\tn i s'.heap/\(∀ b∈fp,H' b=none)/\W i n σ' H') ?_ m0 ⟨0,σ,H2,I2,st2,fun b hb=>(f2 b hb).1,w0⟩;rintro n s3 ⟨i,σ3,H3,I3,st3,fr3,w3⟩;rcases turn i n σ3 H3 w3 with⟨stop,qn⟩|⟨go,N,hN,step⟩
 .refine Rl hp (bX (T.done X rfl rfl rfl hc i ai s3 σ3 H3 X.xe I3 (stat fr3) st3 stop) fun r s4 ⟨hr,I4⟩=>?_);subst hr;exact SS ⟨σ3,H3,I4,qn⟩
 .refine Rl hp (bX (T.item X rfl rfl rfl hc i ai s3 σ3 H3 X.xe I3 (stat fr3) st3 go) fun r s4 ⟨u,hr,h4⟩=>?_);subst hr;refine Rl hp (bX h4 fun _ s5 ⟨x,H5,I5,r5,y5,st5,fr5⟩=>?_);have I5':=I5.pinned (stat fr5) (T.obj _ _ st5);refine Rl hp (bX (hg _ s5 σ3 H5 x u _ I5' r5 (step x H5 y5)) fun _ s6 ⟨σ6,H6,I6,q6⟩=>?_);refine Rl hp (bX (hb _ s6 σ6 H6 _ I6 q6) fun f s7 q7=>?_);have again:∀{σ7:St}{H7:Hp},Inv X (ai++lC fp s5.heap) σ7 H7 s7->N σ7 H7->∃ m,m<n/\∃ i σ' H',Inv X ai σ' H' s7/\tn i s7.heap/\(∀ b∈fp,H' b=none)/\W i m σ' H':=fun{σ7 H7} I7 n7=>by obtain⟨m',hm,w7⟩:=hN σ7 H7 n7;refine⟨m',hm,i+1,σ7,H7,I7.jX,T.keep _ _ _ st5 fun b hb o e=>(I7.pin (b,o) (PL _ (PL _ (gd hb e)))).1,fun b hb=>?_,w7⟩;obtain⟨o,e,d⟩:=T.obj _ _ st5 b hb;exact(I7.pin (b,o) (PL _ (PL _ (gd hb e)))).2.1
  cases f with
  |next=>obtain⟨σ7,H7,I7,n7⟩:=q7;exact again I7 n7
  |cont=>obtain⟨σ7,H7,I7,n7⟩:=q7;exact again I7 n7
  |brk=>obtain⟨σ7,H7,I7,q7⟩:=q7;exact⟨σ7,H7,I7.jX,q7⟩
  |ret v=>obtain⟨x7,σ7,H7,I7,r7,q7⟩:=q7;exact⟨x7,σ7,H7,I7.jX,r7,q7⟩
end
theorem eY {K:To}{a:Addr}{xs:List V}{g:TG}{tb:TS}{D:Ends}{σ:St}{H:Hp}(Pv:Nat->St->Hp->Prop)(h0:Pv 0 σ H)(hl:∀ i σ H,i<=xs.length->Pv i σ H->SqL K H a xs)
 (hs:∀ i x σ H,xs[i]?=some x->Pv i σ H->g x σ H fun σ2 H2=>tb { D with nx:=Pv (i+1),ct:=Pv (i+1),bk:=D.nx } σ2 H2) (hd:∀ σ H,Pv xs.length σ H->D.nx σ H) :
 ∃ W:Nat->Nat->St->Hp->Prop,(∃ m,W 0 m σ H)/\∀ i m σ H,W i m σ H->
  ((Cv K a).stop i H/\D.nx σ H)\/((Cv K a).go i H/\∃ N:St->Hp->Prop,(∀ σ' H',N σ' H'->∃ m',m'<m/\W (i+1) m' σ' H')/\∀ x H',(Cv K a).yB i H x H'->g x σ H' fun σ2 H2=>tb { D with nx:=N,ct:=N,bk:=D.nx } σ2 H2):=by
 refine⟨fun i m σ H=>m=xs.length-i/\i<=xs.length/\Pv i σ H,⟨xs.length,by simp,Pq _,h0⟩,?_⟩;rintro i m σ H ⟨rfl,hi,p⟩;have q:=hl i σ H hi p;by_cases hlt:i<xs.length
 .refine .inr ⟨⟨xs,xs[i],q,by simp[hlt]⟩,Pv (i+1),fun σ' H' p'=>⟨xs.length-(i+1),by lia,rfl,hlt,p'⟩,fun x H' y=>?_⟩;obtain⟨e,y⟩:=y;subst e;exact hs i x σ _ (y xs q) p
 .have e:i=xs.length:=by lia
  subst e;exact .inl ⟨⟨xs,q,O0 _⟩,hd σ H p⟩
abbrev R2:=V->V->Hp->VK->Prop
def jk (X:Cx)(f:Tq->Tq->Sem Tq)(r:R2):Prop:=
 ∀(ai:List (Addr×Obj))(s:Tn)(σ:St)(H:Hp)(x y:V)(v u:Tq)(Q:VK),Inv X ai σ H s->RelV x v->RelV y u->r x y H Q->
  wpAny (model X.prog X.w) X.A (f v u) (EP X ai σ Q) X.xe s
def Le (X:Cx)(f:Tq->Sem Tq)(r:V->Hp->VK->Prop):Prop:=
 ∀(ai:List (Addr×Obj))(s:Tn)(σ:St)(H:Hp)(x:V)(v:Tq)(Q:VK),Inv X ai σ H s->RelV x v->r x H Q->
  wpAny (model X.prog X.w) X.A (f v) (EP X ai σ Q) X.xe s
def cm (X:Cx)(f:Tq)(r:List V->Hp->VK->Prop):Prop:=
 ∀(ai:List (Addr×Obj))(s:Tn)(σ:St)(H:Hp)(xs:List V)(us:List Tq)(Q:VK),Inv X ai σ H s->Vals xs us->r xs H Q->
  wpAny (model X.prog X.w) X.A (call f us) (EP X ai σ Q) X.xe s
def Lf (X:Cx)(r:V->Hp->(Bool->Hp->Prop)->Prop):Prop:=
 ∀(ai:List (Addr×Obj))(s:Tn)(σ:St)(H:Hp)(x:V)(v:Tq)(Q:Bool->Hp->Prop),Inv X ai σ H s->RelV x v->r x H Q->
  wpAny (model X.prog X.w) X.A (truthy v) (TP X ai σ Q) X.xe s
noncomputable def aX (r:R2)(ta tb:TE):TE:=fun σ H Q=>ta σ H fun x H1=>tb σ H1 fun y H2=>r x y H2 Q
noncomputable def MY (r:V->Hp->VK->Prop)(ta:TE):TE:=fun σ H Q=>ta σ H fun x H1=>r x H1 Q
noncomputable def rI (C:Int->Int->Prop)(g:Int->Int->V):R2:=fun x y H Q=>∃ i j,x=.int i/\y=.int j/\C i j/\Q (g i j) H
noncomputable def qJ (g:Int->Int->V):R2:=fun x y H Q=>∃ i j,x=.int i/\y=.int j/\Q (g i j) H
noncomputable def rU (g:Int->V):V->Hp->VK->Prop:=fun x H Q=>∃ i,x=.int i/\Q (g i) H
section
theorem Fv (ha:PE X a ta)(hb:PE X b tb){R:V->V->Hp->Prop}(I:Inv X ai σ H s)
 (h:ta σ H fun x H1=>tb σ H1 fun y H2=>R x y H2) {Q:Tq->Tn->Prop} {f:Tq->Tq->Sem Tq}
 (hf:∀ v u s2 x y H2,Inv X ai σ H2 s2->RelV x v->RelV y u->R x y H2->wX X (f v u) Q X.xe s2) :
 wX X (eval a X.env) (fun v s₁=>wX X (eval b X.env) (fun u s₂=>wX X (f v u) Q X.xe s₂) X.xe s₁) X.xe s:=by
 refine bX (ha ai s σ H _ I h) fun v s1 ⟨x,H1,I1,r1,q1⟩=>?_;refine bX (hb ai s1 σ H1 _ I1 q1) fun u s2 ⟨y,H2,I2,r2,q2⟩=>?_;exact hf v u s2 x y H2 I2 r1 r2 q2
theorem aJ {op:Operator}(ho:jk X (binaryOp op) r)(ha:PE X a ta)(hb:PE X b tb):PE X (.BinOp a op b pos) (aX r ta tb):=by intro ai s σ H Q I h;exact wpAny_BinOp (Fv ha hb I h fun v u s2 x y H2 I2 rx ry q=>ho ai s2 σ H2 x y v u Q I2 rx ry q)
theorem qK (ho:Le X (unaryOp op) r)(ha:PE X a ta):PE X (.UnaryOp op a pos) (MY r ta):=by intro ai s σ H Q I h;exact UnaryOp_ (bX (ha ai s σ H _ I h) fun v s1 ⟨x,H1,I1,r1,q1⟩=>ho ai s1 σ H1 x v Q I1 r1 q1)
theorem Lg {f:Tq->Tq->Sem Tq}{C:Int->Int->Prop}{g:Int->Int->Int}
 (rule:∀(i j:Int)(t u:Tok)(s:Tn)(Q:Tq->Tn->Prop)(E:Tq->Tn->Prop),C i j->Q (.int (g i j) s.toks) { s with toks:=s.toks+1 }->wX X (f (.int i t) (.int j u)) Q E s) :
 jk X f (rI C fun i j=>.int (g i j)):=by
 intro ai s σ H x y v u Q I rx ry h;obtain⟨i,j,rfl,rfl,hc,q⟩:=h;obtain⟨t,rfl⟩:=rx;obtain⟨t',rfl⟩:=ry;exact rule i j t t' s _ _ hc ⟨.int (g i j),H,I.tok _,⟨_,rfl⟩,q⟩
theorem Fy {f:Tq->Tq->Sem Tq}{g:Int->Int->Int}
 (rule:∀(i j:Int)(t u:Tok)(s:Tn)(Q:Tq->Tn->Prop)(E:Tq->Tn->Prop),Q (.int (g i j) s.toks) { s with toks:=s.toks+1 }->wX X (f (.int i t) (.int j u)) Q E s) :
 jk X f (qJ fun i j=>.int (g i j)):=by
 intro ai s σ H x y v u Q I rx ry h;obtain⟨i,j,rfl,rfl,q⟩:=h;obtain⟨t,rfl⟩:=rx;obtain⟨t',rfl⟩:=ry;exact rule i j t t' s _ _ ⟨.int (g i j),H,I.tok _,⟨_,rfl⟩,q⟩
theorem Cw {f:Tq->Tq->Sem Tq}{g:Int->Int->Bool}
 (rule:∀(i j:Int)(t u:Tok)(s:Tn)(Q:Tq->Tn->Prop)(E:Tq->Tn->Prop),Q (.bool (g i j)) s->wX X (f (.int i t) (.int j u)) Q E s) :
 jk X f (qJ fun i j=>.bl (g i j)):=by
 intro ai s σ H x y v u Q I rx ry h;obtain⟨i,j,rfl,rfl,q⟩:=h;obtain⟨t,rfl⟩:=rx;obtain⟨t',rfl⟩:=ry;exact rule i j t t' s _ _ ⟨.bl (g i j),H,I,rfl,q⟩
def Ie (i j:Int):Prop:=0<j/\j<1073741824
def CMul (i j:Int):Prop:=(-(2 ^ 64)<i/\i<2 ^ 64)\/(-(2 ^ 64)<j/\j<2 ^ 64)
theorem CMul.ok (h:CMul i j):IntMulOk i j:=by
 rcases h with⟨h1,h2⟩|⟨h1,h2⟩
 .exact .of_left (intBits_le_64 h1 h2)
 .exact .of_right (intBits_le_64 h1 h2)
theorem bI:jk X (binaryOp .Add) (qJ fun i j=>.int (i+j)):=Fy fun _ _ _ _ _ _ _ q=>add_int q
theorem sV:jk X (binaryOp .Sub) (qJ fun i j=>.int (i-j)):=Fy fun _ _ _ _ _ _ _ q=>sub_int q
theorem dm:jk X (binaryOp .Mult) (rI CMul fun i j=>.int (i*j)):=Lg fun _ _ _ _ _ _ _ hc q=>mul_int q hc.ok
theorem bM:jk X (binaryOp .FloorDiv) (rI Ie fun i j=>.int (i / j)):=Lg fun i j _ _ _ _ _ hc q=>by have h1:(0:Int)<j:=hc.1;have h2:j<1073741824:=hc.2;exact floordiv_int (by lia) (by rw[Int.fdiv_eq_ediv_of_nonneg i (by lia)];exact q) (.inl (PyProof.noPylong_small (by lia)))
theorem bu:jk X (binaryOp .Mod) (rI (fun _ j=>0<j) fun i j=>.int (i % j)):=Lg fun i j _ _ _ _ _ hc q=>by have h1:(0:Int)<j:=hc;exact mod_int' (by lia) (by rw[Int.fmod_eq_emod_of_nonneg i (by lia)];exact q)
theorem Fz:jk X (binaryOp .BitXor) (qJ fun i j=>.int (Builtin.bitXor i j)):=Fy fun _ _ _ _ _ _ _ q=>xor_int q
theorem NG {f:Tq->Sem Tq}{g:Int->Int}
 (rule:∀(i:Int)(t:Tok)(s:Tn)(Q:Tq->Tn->Prop)(E:Tq->Tn->Prop),Q (.int (g i) s.toks) { s with toks:=s.toks+1 }->wX X (f (.int i t)) Q E s) :
 Le X f (rU fun i=>.int (g i)):=by
 intro ai s σ H x v Q I rx h;obtain⟨i,rfl,q⟩:=h;obtain⟨t,rfl⟩:=rx;exact rule i t s _ _ ⟨.int (g i),H,I.tok _,⟨_,rfl⟩,q⟩
theorem lD:Le X (unaryOp .USub) (rU fun i=>.int (-i)):=NG fun _ _ _ _ _ q=>neg_int q
end
noncomputable def Ig:V->V->Bool
 | .bJ,.bJ=>true|.bJ,.int _=>true|.int _,.bJ=>true|.bJ,.bl _=>true|.bl _,.bJ=>true|.bJ,.str _=>true|.str _,.bJ=>true
 | .int _,.int _=>true|.bl _,.bl _=>true|.str _,.str _=>true|.uT _,.uT _=>true
 | .int _,.str _=>true|.str _,.int _=>true|.bl _,.str _=>true|.str _,.bl _=>true
 |_,_=>false
def n_:R2:=fun x y H Q=>Ig x y=true/\Q (.bl (decide (x=y))) H
def KM:R2:=fun x y H Q=>Ig x y=true/\Q (.bl (!decide (x=y))) H
theorem uX:decide (V.int i=V.int j)=(i==j):=by rw[RI];simp
theorem yM:decide (V.bl i=V.bl j)=(i==j):=by rw[RI];simp
theorem uY:decide (V.str i=V.str j)=(i==j):=by rw[RI];simp
theorem uZ:decide (V.uT i=V.uT j)=(i.toList==j.toList):=by rw[RI];cases i;cases j;simp
section
theorem bv (I:Inv X ai σ H s)(q:Q (.bl k) H)(e:k=k'):EP X ai σ Q (.bool k') s:=by subst e;exact⟨.bl k,H,I,rfl,q⟩
theorem dI:jk X (compareOp .Eq) n_:=by
 intro ai s σ H x y v u Q I rx ry h;obtain⟨hs,q⟩:=h;cases x with
 |bJ=>
  cases rx;cases y with
  |bJ=>cases ry;exact PySem.EqNone.eq_none_none (bv I q (by simp))
  |bl j=>cases ry;exact PySem.EqNone.eq_none_bool (bv I q (by simp))
  |int j=>obtain⟨t',rfl⟩:=ry;exact PySem.EqNone.eq_none_int (bv I q (by simp))
  |str j=>obtain⟨t',rfl⟩:=ry;exact PySem.EqNone.eq_none_str (bv I q (by simp))
  |_=>exact absurd (show false=true from hs) PB
 |bl i=>
  cases rx;cases y with
  |bJ=>cases ry;exact PySem.EqNone.eq_bool_none (bv I q (by simp))
  |bl j=>cases ry;exact eq_bool (bv I q yM)
  |str j=>obtain⟨t',rfl⟩:=ry;exact PySem.EqMixed.eq_bool_str (bv I q (by simp))
  |_=>exact absurd (show false=true from hs) PB
 |int i=>
  obtain⟨t,rfl⟩:=rx;cases y with
  |bJ=>cases ry;exact PySem.EqNone.eq_int_none (bv I q (by simp))
  |int j=>obtain⟨t',rfl⟩:=ry;exact eq_int (bv I q uX)
  |str j=>obtain⟨t',rfl⟩:=ry;exact PySem.EqMixed.eq_int_str (bv I q (by simp))
  |_=>exact absurd (show false=true from hs) PB
 |str i=>
  obtain⟨t,rfl⟩:=rx;cases y with
  |bJ=>cases ry;exact PySem.EqNone.eq_str_none (bv I q (by simp))
  |bl j=>cases ry;exact PySem.EqMixed.eq_str_bool (bv I q (by simp))
  |int j=>obtain⟨t',rfl⟩:=ry;exact PySem.EqMixed.eq_str_int (bv I q (by simp))
  |str j=>obtain⟨t',rfl⟩:=ry;exact eq_str (bv I q uY)
  |_=>exact absurd (show false=true from hs) PB
 |uT i=>
  obtain⟨t,rfl⟩:=rx;cases y with
  |uT j=>obtain⟨t',rfl⟩:=ry;exact PySem.W.eq_bytes (bv I q uZ)
  |_=>exact absurd (show false=true from hs) PB
 |_=>cases y<;>exact absurd (show false=true from hs) PB
theorem yN:jk X (compareOp .NotEq) KM:=by
 intro ai s σ H x y v u Q I rx ry h;obtain⟨hs,q⟩:=h;cases x with
 |bJ=>
  cases rx;cases y with
  |bJ=>cases ry;exact PySem.EqNone.ne_none_none (bv I q (by simp))
  |bl j=>cases ry;exact PySem.EqNone.ne_none_bool (bv I q (by simp))
  |int j=>obtain⟨t',rfl⟩:=ry;exact PySem.EqNone.ne_none_int (bv I q (by simp))
  |str j=>obtain⟨t',rfl⟩:=ry;exact PySem.EqNone.ne_none_str (bv I q (by simp))
  |_=>exact absurd (show false=true from hs) PB
 |bl i=>
  cases rx;cases y with
  |bJ=>cases ry;exact PySem.EqNone.ne_bool_none (bv I q (by simp))
  |bl j=>cases ry;exact ne_bool (bv I q (QH not yM))
  |str j=>obtain⟨t',rfl⟩:=ry;exact PySem.EqMixed.ne_bool_str (bv I q (by simp))
  |_=>exact absurd (show false=true from hs) PB
 |int i=>
  obtain⟨t,rfl⟩:=rx;cases y with
  |bJ=>cases ry;exact PySem.EqNone.ne_int_none (bv I q (by simp))
  |int j=>obtain⟨t',rfl⟩:=ry;exact ne_int (bv I q (QH not uX))
  |str j=>obtain⟨t',rfl⟩:=ry;exact PySem.EqMixed.ne_int_str (bv I q (by simp))
  |_=>exact absurd (show false=true from hs) PB
 |str i=>
  obtain⟨t,rfl⟩:=rx;cases y with
  |bJ=>cases ry;exact PySem.EqNone.ne_str_none (bv I q (by simp))
  |bl j=>cases ry;exact PySem.EqMixed.ne_str_bool (bv I q (by simp))
  |int j=>obtain⟨t',rfl⟩:=ry;exact PySem.EqMixed.ne_str_int (bv I q (by simp))
  |str j=>obtain⟨t',rfl⟩:=ry;exact ne_str (bv I q (QH not uY))
  |_=>exact absurd (show false=true from hs) PB
 |uT i=>
  obtain⟨t,rfl⟩:=rx;cases y with
  |uT j=>obtain⟨t',rfl⟩:=ry;exact PySem.W.ne_bytes (bv I q (QH not uZ))
  |_=>exact absurd (show false=true from hs) PB
 |_=>cases y<;>exact absurd (show false=true from hs) PB
theorem lE:jk X (compareOp .Lt) (qJ fun i j=>.bl (decide (i<j))):=Cw fun _ _ _ _ _ _ _ q=>lt_int q
theorem yO:jk X (compareOp .LtE) (qJ fun i j=>.bl (decide (i<=j))):=Cw fun _ _ _ _ _ _ _ q=>le_int q
theorem qL:jk X (compareOp .Gt) (qJ fun i j=>.bl (decide (j<i))):=Cw fun _ _ _ _ _ _ _ q=>gt_int q
theorem Ih:jk X (compareOp .GtE) (qJ fun i j=>.bl (decide (j<=i))):=Cw fun _ _ _ _ _ _ _ q=>ge_int q
theorem FA:jk X (compareOp .Is) (fun x y H Q=>y=.bJ/\Q (.bl (decide (x=.bJ))) H):=by
 intro ai s σ H x y v u Q I rx ry h;obtain⟨rfl,q⟩:=h;cases ry;refine is_none_gen (bv I q ?_);cases x<;>first
  |(cases rx;rfl)
  |(obtain⟨t,rfl⟩:=rx;rfl)
theorem Cy:jk X (compareOp .IsNot) (fun x y H Q=>y=.bJ/\Q (.bl (!decide (x=.bJ))) H):=by
 intro ai s σ H x y v u Q I rx ry h;obtain⟨rfl,q⟩:=h;cases ry;refine isnot_none_gen (bv I q ?_);cases x<;>first
  |(cases rx;rfl)
  |(obtain⟨t,rfl⟩:=rx;rfl)
theorem a_ (b:Expr)(h:autoParam (op≠.In) Tt._auto_1)(h2:autoParam (op≠.NotIn) Tt._auto_1):behindInMarks op b=false:=by
 have e1:(op==CmpOp.In)=false:=by cases op<;>first|rfl|exact absurd rfl h
 have e2:(op==CmpOp.NotIn)=false:=by cases op<;>first|rfl|exact absurd rfl h2
 cases b<;>simp[behindInMarks,e1,e2]
theorem cV (ho:jk X (compareOp op) r)(ha:PE X a ta)(hb:PE X b tb)(hm:behindInMarks op b=false):PE X (.Compare a [op] [b] pos) (aX r ta tb):=by intro ai s σ H Q I h;exact wpAny_Compare1 (Fv ha hb I h fun v u s2 x y H2 I2 rx ry q=>ho ai s2 σ H2 x y v u Q I2 rx ry q) hm
noncomputable def bp (t:TE):TT:=fun σ H Q=>t σ H fun x H'=>∃ k,x=.bl k/\Q k H'
theorem aW (ho:jk X (compareOp op) r)(ha:PE X a ta)(hb:PE X b tb)(hm:behindInMarks op b=false):PT X (.Compare a [op] [b] pos) (bp (aX r ta tb)):=by intro ai s σ H Q I h;refine wpAny_isTrue_Compare1 (bX (ha ai s σ H _ I h) fun v s1 ⟨x,H1,I1,r1,q1⟩=>bX (hb ai s1 σ H1 _ I1 q1) fun u s2 ⟨y,H2,I2,r2,q2⟩=>bX (ho ai s2 σ H2 x y v u _ I2 r1 r2 q2) fun c s3 ⟨z,H3,I3,r3,k,e,q3⟩=>?_) hm;subst e;cases r3;exact Qr ⟨H3,I3,q3⟩
noncomputable def yP (r r':R2)(ta tb tc:TE):TE:=fun σ H Q=>ta σ H fun x H1=>tb σ H1 fun y H2=>r x y H2 fun z H3=>∃ k,z=.bl k/\
 (if k=true then tc σ H3 fun w' H4=>r' y w' H4 Q else Q (.bl false) H3)
theorem yQ (ho:jk X (compareOp op) r)(ho':jk X (compareOp op') r')(ha:PE X a ta)(hb:PE X b tb)(hc:PE X c tc)
 (hm:lastMarks [op,op'] [b,c]=false:=by with_unfolding_all rfl):PT X (.Compare a [op,op'] [b,c] pos) (bp (yP r r' ta tb tc)):=by
 intro ai s σ H Q I h;refine isTrue_chain (bX (ha ai s σ H _ I h) fun v s1 ⟨x,H1,I1,r1,q1⟩=>test_link (bX (hb ai s1 σ H1 _ I1 q1) fun u s2 ⟨y,H2,I2,r2,q2⟩=>bX (ho ai s2 σ H2 x y v u _ I2 r1 r2 q2) fun d s3 ⟨z,H3,I3,r3,k,e,q3⟩=>?_)) hm;subst e;cases r3;refine Qr ?_;cases k with
 |false=>obtain⟨k',e',q'⟩:=q3;cases e';exact ite_ff ⟨H3,I3,q'⟩
 |true=>refine ite_tt (test_last (bX (hc ai s3 σ H3 _ I3 q3) fun w' s4 ⟨z',H4,I4,r4,q4⟩=>bX (ho' ai s4 σ H4 y z' u w' _ I4 r2 r4 q4) fun d' s5 ⟨z2,H5,I5,r5,k2,e2,q5⟩=>?_));subst e2;cases r5;exact Qr ⟨H5,I5,q5⟩
def FC (K:To)(x:V)(H:Hp)(k:Bool):Prop:=
 match x with
 | .bJ=>k=false
 | .bl b=>k=b
 | .int i=>k=(i != 0)
 | .str y=>y.length<=sizeLine/\k=((y.length:Int) != 0)
 | .uT y=>y.size<=sizeLine/\k=((y.size:Int) != 0)
 | .ref p=>(∃ xs,SqL K H p xs/\k=!xs.isEmpty)\/(∃ xs,SqT K H p xs/\k=!xs.isEmpty)\/∃ kvs,H p=some (.dK kvs)/\k=!kvs.isEmpty
 |_=>False
theorem sW {κ:Type}{kvs:List (κ×V)}{vs:List (κ×Tq)}(r:KV kvs vs):(!vs.isEmpty)=!kvs.isEmpty:=by cases r<;>rfl
theorem lF (r:Vals xs its):(!its.toArray.isEmpty)=!xs.isEmpty:=by cases r<;>simp
theorem oZ:(sizeLine:Nat)<2 ^ 63:=by rw[Pn];decide
theorem FD:Lf X (fun x H Q=>∃ k,FC X.K x H k/\Q k H):=by
 intro ai s σ H x v Q I rx h;obtain⟨k,e,q⟩:=h;have hl:=oZ;have hs:sizeLine=16777216:=Pn;cases x with
 |bJ=>cases rx;have e':k=false:=e;subst e';exact truthy_none ⟨H,I,q⟩
 |bl b=>cases rx;have e':k=b:=e;subst e';exact Qr ⟨H,I,q⟩
 |int i=>obtain⟨t,rfl⟩:=rx;have e':k=(i != 0):=e;subst e';exact PySem.P.truthy_int ⟨H,I,q⟩
 |str y=>obtain⟨t,rfl⟩:=rx;obtain⟨hy,e'⟩ : y.length<=sizeLine/\k=((y.length:Int) != 0):=e;subst e';exact PySem.P.truthy_str (by lia) ⟨H,I.tok _,q⟩
 |uT y=>obtain⟨t,rfl⟩:=rx;obtain⟨hy,e'⟩ : y.size<=sizeLine/\k=((y.size:Int) != 0):=e;subst e';exact PySem.W.truthy_bytes (by lia) ⟨H,I.tok _,q⟩
 |ref p=>
  cases rx;have e':(∃ xs,SqL X.K H p xs/\k=!xs.isEmpty)\/(∃ xs,SqT X.K H p xs/\k=!xs.isEmpty)\/∃ kvs,H p=some (.dK kvs)/\k=!kvs.isEmpty:=e;rcases e' with⟨xs,hx,e'⟩|⟨xs,hx,e'⟩|⟨kvs,hx,e'⟩
  .subst e';obtain⟨its,r,pl,hz⟩:=I.list hx;have bL:=r.length;exact wpAny_truthy_list pl.isList (by simp only[O7];lia) ⟨H,I.tok _,by rw[lF r];exact q⟩
  .subst e';obtain⟨its,r,pl,hz⟩:=I.tuple hx;have bL:=r.length;exact truthy_tuple pl (by simp only[O7];lia) ⟨H,I.tok _,by rw[lF r];exact q⟩
  .subst e';obtain⟨hz,hS,vs,r,m⟩ : kvs.length<=sizeLine/\(p==sysModules)=false/\∃ vs,KV kvs vs/\s.heap.DictOf (aV X.prog X.w) p vs:=I.be p _ hx;have bL:kvs.length=vs.length:=Rt r;exact wpAny_truthy_dict hS m (by lia) ⟨H,I.tok _,by rw[sW r];exact q⟩
 |_=>exact(show False from e).elim
theorem qM (ha:PE X a ta)(he:∀ whole,isTrue a X.env whole=(do let v <- whole;standAt a.pos;holding [v] (truthy v))) :
 PT X a (fun σ H Q=>ta σ H fun x H'=>∃ k,FC X.K x H' k/\Q k H'):=by
 intro ai s σ H Q I h;exact isTrue_plain (bX (ha ai s σ H _ I h) fun v s1 ⟨x,H1,I1,r1,q1⟩=>FD ai s1 σ H1 x v Q I1 r1 q1) (he _)
theorem eZ (r:Vals [x] us):∃ u,us=[u]/\RelV x u:=by
 cases r with
 |cons r1 r2=>cases r2;exact⟨_,rfl,r1⟩
theorem u5 (r:Vals [x,y] us):∃ u w',us=[u,w']/\RelV x u/\RelV y w':=by
 cases r with
 |cons r1 r2=>
  cases r2 with
  |cons r3 r4=>cases r4;exact⟨_,_,rfl,r1,r3⟩
end
structure uN (h:Heap) (x dx C:Addr) (mA:Str->Option Tq):Prop where
 obj:h.get? x=some (PySem.W.instObj C dx)
 ns:h.Ns1 dx mA
 ne:dx≠x
theorem wn {h:Heap}{mA:Str->Option Tq}(n:h.Ns1 dx mA):∃ od,h.get? dx=some od/\∀ name,PySem.W.lookIn name od=some (mA name):=by
 obtain⟨o,es,ep,ho,hd,hk,_,hm⟩:=n;refine⟨o,ho,fun name=>?_⟩;have e:=hm name;unfold nsFind findBy at e;rw[<- Array.find?_toList]at e;unfold PySem.W.lookIn;rw[hd];dsimp only;split
 .rename_i y q;rw[q]at e;exact QH some e
 .rename_i q;rw[q]at e;have a:es.toList.any (·.refKey)=false:=by rw[List.any_eq_false];intro y hy;obtain⟨z,t,fQ⟩:=hk y (Array.mem_toList_iff.mp hy);simp[DictEntry.refKey,fQ]
  have a':¬ es.toList.any (·.refKey)=true:=by rw[a];exact PB
  rw[Pl a'];exact QH some e
theorem uN.look (I:uN h x dx C mA):∃ od,PySem.W.InstAt h x (PySem.W.instObj C dx) C (some od)/\∀ name,PySem.W.lookIn name od=some (mA name):=
 let ⟨od,ho,hl⟩:=wn I.ns
 ⟨od,⟨I.obj,rfl,rfl,ho⟩,hl⟩
section
variable {prog:Tp}{w:World}{A:Ts}{E:Tq->Tn->Prop}{s:Tn}{K:To}{x dx C f:Addr}{mA:Str->Option Tq}{name:Str}{v:Tq}
theorem Cz (X:K.In s.heap)(I:uN s.heap x dx C mA)(hg:PySem.W.plainGet K C name=true)(hh:PySem.W.hasDictIn K C=true)
 (ha:PySem.W.findIn K (.ref C) name=some none) (hv:mA name=some v) (hv':PySem.W.handedIn v=true) (h:Q v { s with toks:=s.toks+1 }) :
 wpAny (model prog w) A (getAttr (.ref x) name expr) Q E s:=by
 obtain⟨od,J,hl⟩:=I.look;exact PySem.W.get_value X J (SU hg).1 (PySem.W.findObj_own hh ha rfl (by rw[hl,hv])) hv' h
theorem yR (X:K.In s.heap)(I:uN s.heap x dx C mA)(hg:PySem.W.plainGet K C name=true)
 (hf:PySem.W.findIn K (.ref C) name=some (some (.ref f))) (ht:PySem.W.isFn K (.ref f)=true) (hv:mA name=none) (h:Q (.ref f,[.ref x]) s) :
 wpAny (model prog w) A (getMethod (.ref x) name pl) Q E s:=by
 obtain⟨od,J,hl⟩:=I.look;exact PySem.W.method_fn X J (SU hg).1 (SU hg).2 hf (Sv.mp ht) (by show(PySem.W.lookIn name od).map (·.isSome)=some false;rw[hl,hv];rfl) h
theorem CA (X:K.In s.heap)(I:uN s.heap x dx C mA)
 (hs:PySem.W.findIn K (.ref C) "__setattr__"=some (some (.builtin "object.__setattr__"))) (hp:PySem.W.plainOver K C=true) (ht:PySem.W.takerIn K C name=some none) (hh:PySem.W.hasDictIn K C=true)
 (hw:PySem.Within mA ns) (hsz:ns.length<=sizeLine)
 (h:∀ h',uN h' x dx C (fun y=>if y=name then some v else mA y)->Heap.SameBut dx s.heap h'->Q () { s with heap:=h',toks:=s.toks+2 }) :
 wpAny (model prog w) A (setAttr (.ref x) name v) Q E s:=by
 obtain⟨od,J,hl⟩:=I.look;refine PySem.W.set_plain X J hs (PySem.W.osa_open (s:={ s with toks:=s.toks+1 }) (r:=none) X J hp ht fun b=>?_);obtain⟨cd,hc,hd'⟩:=PySem.W.any_some hh;have hx:s.heap.get? x=some ⟨.ref C,some dx,.plain,#[]⟩:=I.obj;refine KE (OY (KE (KE (wpAny_loadPart hx (KE (PySem.W.Looks.here (s:={ s with toks:=s.toks+1 }) (PySem.W.looks_clsIn X hc) ?_))))));rw[hd'];refine OY (a:=some dx) (KE (OY (KE ?_)));refine wpAny_nsSet1 (s:={ s with toks:=s.toks+1 }) I.ns fun h' hn2 hs2=>?_;obtain⟨oD,esD,epD,hoD,hdD,hcD⟩:=hn2.count (PySem.Within.cons name v hw);refine KE (wpAny_lookBehind hoD (by rw[hdD];exact pastItsLine_dict (Pu hcD (by rw[Pg];lia))) ?_);exact OY (h _ ⟨(hs2.2 _ (Qn I.ne)).trans I.obj,hn2,I.ne⟩ hs2)
theorem yS (X:K.In s.heap)(hm:PySem.W.makesIn K C=true)
 (hi:PySem.W.findIn K (.ref C) "__init__"=some (some (.ref f))) (hf:PySem.W.typeIn K (.ref f)=some (.type "function"))
 (h:codeAny (model prog w) (A.under (.builtin "type.__call__" ⟨.ref C::vs,kw⟩)) (.call (.ref f) ⟨.ref (s.heap.objs.size+1)::vs,kw⟩) (PySem.W.InitBack (s.heap.objs.size+1) R)
   { s with heap:=(s.heap.push PySem.W.emptyDict).push (PySem.W.instObj C s.heap.objs.size) }) :
 codeAny (model prog w) A (.call (.ref C) ⟨vs,kw⟩) R s:=by
 obtain⟨hh,g,d,t,os⟩:=s;exact PySem.W.make_core (PySem.W.makes_of X hm) (PySem.W.looks_findIn X hi) (fun self=>PySem.W.bind_fn X self hf) (.inl rfl) h
end
noncomputable def fT (f:Str)(v:V):List (Str×V)->List (Str×V)
 | []=>[(f,v)]
 |(g,x)::r=>if g=f then (g,v)::r else (g,x)::fT f v r
theorem kG (f g:Str)(v:V):∀ fs:List (Str×V),(fT f v fs).lookup g=if g=f then some v else fs.lookup g
 | []=>by
  show List.lookup g [(f,v)]=_
  grind
 |(k,x)::r=>by
  have ih:=kG f g v r
  grind [fT]
theorem j8 (f:Str)(v:V):∀ fs:List (Str×V),f∈(fT f v fs).map (·.1)/\∀ g,g∈fs.map (·.1)->g∈(fT f v fs).map (·.1)
 | []=>⟨by simp[fT],fun g h=>by simp at h⟩
 |(k,x)::r=>by
  obtain⟨i1,i2⟩:=j8 f v r
  grind [fT]
theorem kH (f:Str)(v:V):∀ fs:List (Str×V),(fT f v fs).length<=fs.length+1
 | []=>by simp[fT]
 |(k,x)::r=>by
  have ih:=kH f v r;rw[show fT f v ((k,x)::r)=(if k=f then (k,v)::r else (k,x)::fT f v r) from rfl];by_cases hk:k=f
  .rw[Pi hk,Pg,Pg];lia
  .rw[Pl hk,Pg,Pg];lia
theorem RelO.some_of (r:RelO (some v) o):∃ u,o=some u/\RelV v u:=by
 cases o with
 |none=>exact(show False from r).elim
 |some u=>exact⟨u,rfl,r⟩
theorem RelO.none_of (r:RelO none o):o=none:=by
 cases o with
 |none=>rfl
 |some u=>exact(show False from r).elim
theorem wo (r:RelV v u):PySem.W.handedIn u=true:=by
 cases v with
 |bJ=>cases (show u=Value.none from r);rfl
 |bl b=>cases (show u=Value.bool b from r);rfl
 |int i=>obtain⟨t,e⟩:=(show ∃ t,u=Value.int i t from r);cases e;rfl
 |str x=>obtain⟨t,e⟩:=(show ∃ t,u=Value.str x t from r);cases e;rfl
 |uT b=>obtain⟨t,e⟩:=(show ∃ t,u=Value.bytes b t from r);cases e;rfl
 |Ff b=>obtain⟨t,e⟩:=(show ∃ t,u=Value.float b t from r);cases e;rfl
 |ref a=>cases (show u=Value.ref a from r);rfl
 |ty n=>cases (show u=Value.type n from r);rfl
section
theorem k8 (be:HOk P w H h)(e:H a=some (.ins C dx fs)):∃ mA,uN h a dx C mA/\(∀ f,RelO (fs.lookup f) (mA f))/\PySem.Within mA (fs.map (·.1))/\fs.length<=1000/\H dx=some (.own a):=by obtain⟨d,z,ne,ob,mA,n,r,q⟩:=(show ObjOk P w H h a (.ins C dx fs) from be a _ e);exact⟨mA,⟨ob,n,ne⟩,r,q,z,d⟩
end
structure qu (K:To) (C:Addr):Prop where
 pg:PySem.W.plainGet K C Str.empty=true
 hd:PySem.W.hasDictIn K C=true
 po:PySem.W.plainOver K C=true
 sa:PySem.W.findIn K (.ref C) "__setattr__"=some (some (.builtin "object.__setattr__"))
theorem qu.get {K:To}(c:qu K C)(f:Str):PySem.W.plainGet K C f=true:=c.pg
def NoAttr (K:To)(C:Addr)(f:Str):Prop:=PySem.W.findIn K (.ref C) f=some none
theorem NoAttr.taker {K:To}(n:NoAttr K C f):PySem.W.takerIn K C f=some none:=by unfold PySem.W.takerIn;rw[show PySem.W.findIn K (.ref C) f=some none from n];rfl
structure Meth (K:To) (C:Addr) (m:Str) (f:Addr):Prop where
 at_:PySem.W.findIn K (.ref C) m=some (some (.ref f))
 fn:PySem.W.isFn K (.ref f)=true
 kp:PySem.W.keepIn K (.ref f)=true
section
theorem sX (I:Inv X ai σ H s)(e:H a=some (.ins C dx fs))(c:qu X.K C)(n:NoAttr X.K C f)(l:fs.lookup f=some v)
 (h:∀ u s',Inv X ai σ H s'->RelV v u->Q u s'):wpAny (model X.prog X.w) A (getAttr (.ref a) f b) Q E s:=by
 obtain⟨mA,O,r,_,_,_⟩:=k8 I.be e;obtain⟨u,hu,ru⟩:=RelO.some_of (v:=v) (o:=mA f) (by rw[<- l];exact r f);exact Cz I.kC O (c.get f) c.hd n hu (wo ru) (h u _ (I.tok _) ru)
theorem lG (I:Inv X ai σ H s)(e:H a=some (.ins C dx fs))(c:qu X.K C)(k:Meth X.K C m g)(l:fs.lookup m=none)
 (h:Q (.ref g,[.ref a]) s):wpAny (model X.prog X.w) A (getMethod (.ref a) m pl) Q E s:=by
 obtain⟨mA,O,r,_,_,_⟩:=k8 I.be e;have hn:mA m=none:=RelO.none_of (by rw[<- l];exact r m);exact yR I.kC O (c.get m) k.at_ k.fn hn h
theorem sY (I:Inv X ai σ H s)(e:H a=some (.ins C dx fs))(c:qu X.K C)(n:NoAttr X.K C f)(hl:fs.length<1000)(ry:RelV y u)
 (h:∀ s',Inv X ai σ (upd H a (.ins C dx (fT f y fs))) s'->Q () s'):wpAny (model X.prog X.w) A (setAttr (.ref a) f u) Q E s:=by
 obtain⟨mA,O,r,wi,_,ho⟩:=k8 I.be e;have hz:(fs.map (·.1)).length<=sizeLine:=by rw[O2,Pn];lia
 refine CA I.kC O c.sa c.po n.taker c.hd wi hz fun h' O' sb=>h _ ?_;have hd:∃ o,h'.get? dx=some o:=let ⟨o,_,_,e',_⟩:=O'.ns;⟨o,e'⟩;refine I.write (x:=a) (e:=dx) (by rw[e];exact True.intro) (.inr ho) (fun b q hb z=>(sb.2 b hb).trans z) hd ?_;refine⟨by rw[aA O.ne];exact ho,?_,O.ne,O'.obj,_,O'.ns,fun g=>?_,fun g hg=>?_⟩
 .have:=kH f y fs;lia
 .grind [RelO,fT,kG]
 .by_cases q:g=f
  .rw[q];exact(j8 f y fs).1
  .refine(j8 f y fs).2 g (wi g fun z=>hg ?_);show(if g=f then some u else mA g)=none;rw[Pl q];exact z
theorem Inv.made (I:Inv X ai σ H s):Inv X ai σ (upd (upd H s.heap.objs.size (.own (s.heap.objs.size+1))) (s.heap.objs.size+1) (.ins C s.heap.objs.size []))
 { s with heap:=(s.heap.push PySem.W.emptyDict).push (PySem.W.instObj C s.heap.objs.size) }:=by
 have e1:(s.heap.push PySem.W.emptyDict).get? s.heap.objs.size=some PySem.W.emptyDict:=Pc s.heap rfl;have e2:((s.heap.push PySem.W.emptyDict).push (PySem.W.instObj C s.heap.objs.size)).get? (s.heap.objs.size+1)=some (PySem.W.instObj C s.heap.objs.size):=by
  have:=Pc (s.heap.push PySem.W.emptyDict) (o:=PySem.W.instObj C s.heap.objs.size) rfl
  rwa [Rh]at this
 have e3:(s.heap.push PySem.W.emptyDict).Ns s.heap.objs.size (fun _=>none):=⟨PySem.W.emptyDict,#[],_,e1,rfl,(fun e he=>absurd he (by simp)),fun _=>rfl⟩;have I1:=I.laid (a:=s.heap.objs.size) (o:=.own (s.heap.objs.size+1)) (h':=s.heap.push PySem.W.emptyDict) (t':=s.toks) (fun b u q=>OZ _ q) (O0 _) ⟨_,e1⟩;refine I1.laid (a:=s.heap.objs.size+1) (o:=.ins C s.heap.objs.size []) (t':=s.toks) (fun b u q=>OZ _ q) (S3 (Rh _ _)) ?_;have ne:s.heap.objs.size≠s.heap.objs.size+1:=Pt (QO _);refine⟨by rw[aA ne,aj],Pq _,ne,e2,fun _=>none,(Heap.Ns1.of_empty e3).at fun o q=>OZ _ q,fun _=>True.intro,fun y hy=>absurd rfl hy⟩
theorem CB (hb:attributeBase e f env (eval e env)=eval e env)
 (h:wpAny (model prog w) A (eval e env) (fun o s₁=>wpAny (model prog w) A (getAttr o f true) Q E s₁) E s):wpAny (model prog w) A (eval (.Attribute e f pos) env) Q E s:=
 Attribute_any_ h (by rw[arm_eval_Attribute,hb])
end
def dN (K:To)(ta:TE)(f:Str):TE:=fun σ H Q=>ta σ H fun x H1=>∃ a C dx fs v,x=.ref a/\H1 a=some (.ins C dx fs)/\qu K C/\NoAttr K C f/\fs.lookup f=some v/\Q v H1
def o5 (K:To)(ta tv:TE)(f:Str):TS:=fun D σ H=>tv σ H fun y H1=>ta σ H1 fun x H2=>∃ a C dx fs,x=.ref a/\H2 a=some (.ins C dx fs)/\qu K C/\NoAttr K C f/\fs.length<1000/\
 D.nx σ (upd H2 a (.ins C dx (fT f y fs)))
section
theorem cp (he:PE X e ta)(hb:attributeBase e f X.env (eval e X.env)=eval e X.env):PE X (.Attribute e f pos) (dN X.K ta f):=by intro ai s σ H Q I h;refine CB hb (bX (he ai s σ H _ I h) fun u s1 z=>?_);obtain⟨x,H1,I1,rx,a,C,dx,fs,v,rfl,ea,c,n,l,q⟩:=z;obtain rfl:u=Value.ref a:=rx;exact sX I1 ea c n l fun u' s2 I2 ru=>⟨v,H1,I2,ru,q⟩
theorem gO (ha:PE X o ta)(hv:PE X value tv)(hs:swapsWith value (some (.Attribute o f pos')) pos.line X.env=pure false):PS X (.Assign [.Attribute o f pos'] value pos) (o5 X.K ta tv f):=by intro ai s σ H D I h;refine plainObj_wpAny_Assign_Attribute (bX (hv ai s σ H _ I h) fun u s1 ⟨y,H1,I1,ry,q⟩=>bX (ha ai s1 σ H1 _ I1 q) fun ov s2 z=>?_) hs;obtain⟨x,H2,I2,rx,a,C,dx,fs,rfl,ea,c,n,l,q2⟩:=z;obtain rfl:ov=Value.ref a:=rx;exact sY I2 ea c n l ry fun s3 I3=>⟨σ,_,I3,q2⟩
end
section
inductive kD (K:To) (H:Hp):V->Tq->Prop where
 |bJ:kD K H .bJ (.type "NoneType")
 |bl (x:Bool):kD K H (.bl x) (.type "bool")
 |int (i:Int):kD K H (.int i) (.type "int")
 |str (x:Str):kD K H (.str x) (.type "str")
 |Ff (x:UInt64):kD K H (.Ff x) (.type "float")
 |lst {a:Addr} {xs:List V} (e:H a=some (.lst xs)):kD K H (.ref a) (.type "list")
 |cj {a:Addr} {o:Obj} {xs:List V} (e:H a=some (.cj o (.lst xs))):kD K H (.ref a) (.type "list")
 |tup {a:Addr} {xs:List V} (e:H a=some (.tup xs)):kD K H (.ref a) (.type "tuple")
 |dK {a:Addr} {kvs:List (bC×V)} (e:H a=some (.dK kvs)):kD K H (.ref a) (.type "dict")
 |dT {a:Addr} {kvs:List (List bC×V)} (e:H a=some (.dT kvs)):kD K H (.ref a) (.type "dict")
 |ins {a C dx:Addr} {fs:List (Str×V)} (e:H a=some (.ins C dx fs)) (cl:qu K C) (ha:PySem.W.findIn K (.ref C) "__class__"=some (some (.builtin "object.__class__")))
  (hn:PySem.W.specialIn K (.builtin "object.__class__") "__get__"=some (some (.builtin "getset_descriptor.__get__"))) (htk:PySem.W.takesIn K (.builtin "object.__class__")=some true)
  (hm:PySem.W.mroIn K C (.type "object")=some true):kD K H (.ref a) (.ref C)
theorem wq (I:Inv X ai σ H s)(rx:RelV x u)(ty:kD X.K H x t)(e:PySem.W.kitOne X.K t c=some b)(h:∀ tk,Q (.bool b) { s with toks:=tk }) :
 wpAny (model X.prog X.w) A (call (.builtin "isinstance") [u,c]) Q E s:=by
 cases ty with
 |bJ=>cases (show u=Value.none from rx);exact Qw PySem.W.kitx_none I.kC True.intro e (fun z=>nomatch z) h
 |bl y=>cases (show u=Value.bool y from rx);exact Qw PySem.W.kitx_bool I.kC True.intro e (fun z=>nomatch z) h
 |int i=>obtain⟨t,q⟩:=(show ∃ t,u=Value.int i t from rx);cases q;exact Qw PySem.W.kitx_int I.kC True.intro e (fun z=>nomatch z) h
 |str y=>obtain⟨t,q⟩:=(show ∃ t,u=Value.str y t from rx);cases q;exact Qw PySem.W.kitx_str I.kC True.intro e (fun z=>nomatch z) h
 |Ff y=>obtain⟨t,q⟩:=(show ∃ t,u=Value.float y t from rx);cases q;exact Qw PySem.W.kitx_float I.kC True.intro e (fun z=>nomatch z) h
 | @lst a xs ea=>cases (show u=Value.ref a from rx);obtain⟨_,_,n,_,h1⟩:=(show ObjOk X.prog X.w H s.heap a (.lst xs) from I.be a _ ea);exact Qw PySem.W.kitx_list I.kC ⟨_,h1,rfl⟩ e (fun z=>nomatch z) h
 | @cj a ob xs ea=>cases (show u=Value.ref a from rx);obtain⟨_,_,_,n,_,h1⟩:=(show ObjOk X.prog X.w H s.heap a (.cj ob (.lst xs)) from I.be a _ ea);exact Qw PySem.W.kitx_list I.kC ⟨_,h1,rfl⟩ e (fun z=>nomatch z) h
 | @tup a xs ea=>cases (show u=Value.ref a from rx);obtain⟨_,_,_,p⟩:=(show ObjOk X.prog X.w H s.heap a (.tup xs) from I.be a _ ea);obtain⟨o,h1,h2,_⟩:=p;exact Qw PySem.W.kitx_tuple I.kC ⟨o,h1,h2⟩ e (fun z=>nomatch z) h
 | @dK a kvs ea=>cases (show u=Value.ref a from rx);obtain⟨_,_,vs,_,p⟩:=(show ObjOk X.prog X.w H s.heap a (.dK kvs) from I.be a _ ea);obtain⟨o,es,ep,h1,h2,_⟩:=p;exact Qw S9 I.kC ⟨o,h1,h2.1⟩ e (fun z=>nomatch z) h
 | @dT a kvs ea=>cases (show u=Value.ref a from rx);obtain⟨_,_,xs,_,o,es,ep,h1,h2,_⟩:=(show ObjOk X.prog X.w H s.heap a (.dT kvs) from I.be a _ ea);exact Qw S9 I.kC ⟨o,h1,h2.1⟩ e (fun z=>nomatch z) h
 | @ins a C dx fs ea cl ha hn htk hm=>cases (show u=Value.ref a from rx);obtain⟨mA,O,_⟩:=k8 I.be ea;obtain⟨od,J,_⟩:=O.look;exact Qw (PySem.W.kitx_own (cl.get _) cl.hd ha hn htk hm) I.kC J e (fun z=>nomatch z) h
end
structure cT (k:Nat) (A:Ts):Prop where
 hd:A.handled=none
 dp:A.depth+3*k+5<recursionLimit
 un:A.units+16*k+200<cLine
theorem cT.mono (r:cT k A)(h:j<=k):cT j A:=⟨r.hd,by have:=r.dp;lia,by have:=r.un;lia⟩
theorem cT.deeper (r:cT (k+1) A)(env:Env):cT k (A.deeper env):=⟨r.hd,by have:=r.dp;show A.depth+1+3*k+5<_;lia,by have:=r.un;show A.units+3+16*k+200<_;lia⟩
theorem sZ {A:Ts} {C:Addr}:(A.under (.builtin "type.__call__" ⟨.ref C::us,kw⟩)).depth=A.depth+1:=by
 first|rfl|simp[Around.under,Code.weight,Code.isCreation,Code.isGuard,Code.isCaller,Code.frames,Code.isFrame,guardIds]
theorem s_ {A:Ts} {C:Addr}:(A.under (.builtin "type.__call__" ⟨.ref C::us,kw⟩)).units=A.units+1:=by
 first|rfl|simp[Around.under,Code.cUnits,Code.frames,Code.isFrame]
theorem cT.make (r:cT (k+1) A) (C:Addr) (us:List Tq) (kw:List (Str×Tq)):cT k (A.under (.builtin "type.__call__" ⟨.ref C::us,kw⟩)):=⟨r.hd,by have:=r.dp;rw[sZ];lia,by have:=r.un;rw[s_];lia⟩
theorem cT.depth (r:cT k A):A.depth<recursionLimit:=by have:=r.dp;lia
theorem cT.units (r:cT k A):A.units+64<cLine:=by have:=r.un;lia
noncomputable def aG:TA:=fun _ H Q=>Q [] H
noncomputable def ao (ta:TE)(tr:TA):TA:=fun σ H Q=>ta σ H fun x H1=>tr σ H1 fun xs H2=>Q (x::xs) H2
section
theorem ax:PA X [] aG:=fun _ _ _ _ H Q I h=>Sw ⟨[],H,I,.nil,h⟩
theorem ac (ha:PE X e te)(hr:PA X es t)(hs:autoParam (starEach (e::es) X.env=(false,eval e X.env)::starEach es X.env) TB._auto_1):PA X (e::es) (ao te t):=by intro pos ai s σ H Q I h;rw[hs];show wpAny _ _ (spliced ((false,eval e X.env)::backTo pos (starEach es X.env))) _ _ s;refine RE (bX (ha ai s σ H _ I h) fun u s1 ⟨x,H1,I1,r1,q1⟩=>?_);exact bX (hr pos ai s1 σ H1 _ I1 q1) fun us s2 ⟨xs,H2,I2,r2,q2⟩=>⟨x::xs,H2,I2,.cons r1 r2,q2⟩
def b8 (t:TA):TE:=fun σ H Q=>t σ H fun xs H1=>xs.length<=sizeLine/\∀ p,H1 p=none->Q (.ref p) (upd H1 p (.tup xs))
def cW (t:TA):TE:=fun σ H Q=>t σ H fun xs H1=>xs.length<=sizeLine/\∀ p,H1 p=none->Q (.ref p) (upd H1 p (.lst xs))
theorem aY {x1}(h:PA X es t):PE X (.Tuple es x1 pos) (b8 t):=by intro ai s σ H Q I hq;refine wpAny_Tuple_spliced (bX (h pos ai s σ H _ I hq) fun us s1 ⟨xs,H1,I1,r,z,q⟩=>⟨by rw[<- r.length];exact z,?_⟩);have hf:H1 s1.heap.objs.size=none:=I1.be.fresh (O0 _);refine⟨.ref s1.heap.objs.size,upd H1 s1.heap.objs.size (.tup xs),I1.laid (t':=s1.toks) (fun b u e=>OZ _ e) (O0 _) ?_,rfl,q _ hf⟩;exact⟨z,us,r,⟨_,Pc _ rfl,rfl,_,rfl⟩⟩
theorem bR (h:PA X es t):PE X (.List es pos) (cW t):=by intro ai s σ H Q I hq;refine wpAny_List_spliced (bX (h pos ai s σ H _ I hq) fun us s1 ⟨xs,H1,I1,r,z,q⟩=>⟨by rw[<- r.length];exact z,?_⟩);have hf:H1 s1.heap.objs.size=none:=I1.be.fresh (O0 _);refine⟨.ref s1.heap.objs.size,upd H1 s1.heap.objs.size (.lst xs),I1.laid (t':=s1.toks) (fun b u e=>OZ _ e) (O0 _) ?_,rfl,q _ hf⟩;exact⟨z,us,0,r,Pc _ rfl⟩
end
abbrev Sp:=List V->Hp->VK->XK->Prop
abbrev yT:=List Env->Hp->Tn->XK->Tq->Tn->Prop
structure uL (P:Tp) (w:World) (K:To) (mg:Str->Option Tq) (base:Heap) (A:Ts) (outer:List Env) (s:Tn) (H:Hp):Prop where
 frames:A.frames=some outer
 mod:Mod K mg base
 bs:∀ b o,base.get? b=some o->s.heap.get? b=some o/\H b=none
 Cp:base.objs.size<=s.heap.objs.size
 kE:s.heap.FunFrames base outer
 Fd:∀ b∈jh outer,H b=none
 be:HOk P w H s.heap
 bare:AllBare s.gens
 kt:K_ K H
def CE (outer:List Env)(P:Tp)(w:World)(H:Hp)(s:Tn)(Q:VK)(u:Tq)(s':Tn):Prop:=∃ v H',s'.os=s.os/\AllBare s'.gens/\Un (jh outer) [] H H' s.heap s'.heap/\HOk P w H' s'.heap/\RelV v u/\Q v H'
def CR (CX:yT)(outer:List Env)(P:Tp)(w:World)(H:Hp)(s:Tn)(Q:VK)(E:XK)(r:Result)(s':Tn):Prop:=
 match r with
 | .ok (.ret u)=>CE outer P w H s Q u s'
 | .ok _=>False
 | .error e=>CX outer H s E e s'
structure bE (P:Tp) (w:World) (K:To) (mg:Str->Option Tq) (base:Heap) (CX:yT) (k:Nat) (f:Addr) (fd:FuncData) (ps:List Str) (sp:Sp):Prop where
 len:∀ vs H Q E,sp vs H Q E->vs.length=ps.length
 run:∀(A:Ts)(outer:List Env)(s:Tn)(H:Hp)(args:Args)(us:List Tq)(vs:List V)(Q:VK)(E:XK),cT k A->uL P w K mg base A outer s H->BindsTo s fd args (ps.zip us)->Vals vs us->sp vs H Q E->
  codeAny (model P w) A (.call (.ref f) args) (CR CX outer P w H s Q E) s
theorem bE.imp {P:Tp}{w:World}{K:To}{mg:Str->Option Tq}{base:Heap}{CX:yT}(F:bE P w K mg base CX k f fd ps sp)
 (h:∀ vs H Q E,sp' vs H Q E->sp vs H Q E):bE P w K mg base CX k f fd ps sp':=
 ⟨fun vs H Q E q=>F.len vs H Q E (h _ _ _ _ q),fun A outer s H args us vs Q E hr he hb hv hs=>F.run A outer s H args us vs Q E hr he hb hv (h _ _ _ _ hs)⟩
theorem uL.make {P:Tp}{w:World}{K:To}{mg:Str->Option Tq}{base:Heap}(e:uL P w K mg base A outer s H)(C:Addr)(us:List Tq)(kw:List (Str×Tq)) :
 uL P w K mg base (A.under (.builtin "type.__call__" ⟨.ref C::us,kw⟩)) outer s H:=⟨by first|exact e.frames|(simpa[Around.under,Code.envs,Code.isFrame,pushEnvs] using e.frames),e.mod,e.bs,e.Cp,e.kE,e.Fd,e.be,e.bare,e.kt⟩
section
theorem Inv.Kz (I:Inv X ai σ H s):uL X.prog X.w X.K X.mg X.base X.A X.stack s H:=⟨I.ok.frames,I.ok.mod,I.bs,Pu I.ok.Cp I.sz,I.stack,I.qr,I.be,I.bare,I.kt⟩
theorem Inv.after (I:Inv X ai σ H s)(h:CE X.stack X.prog X.w H s Q u s'):EP X ai σ Q u s':=by obtain⟨v,H',os,bare,un,be,r,q⟩:=h;obtain⟨hh,g,d,t,os'⟩:=s';obtain rfl:os'=s.os:=os;exact⟨v,H',I.call (h':=hh) (g':=g) (d':=d) (t':=t) (ch:=[]) un be bare (fun b z=>absurd z (by simp)),r,q⟩
end
noncomputable def br (sp:Sp)(dvs:List V)(E:XK)(t:TA):TE:=fun σ H Q=>t σ H fun vs H1=>sp (vs++dvs) H1 Q E
def dR (C:Addr)(m:Str)(sp:Sp)(dvs:List V)(E:XK)(ta:TE)(t:TA):TE:=fun σ H Q=>ta σ H fun x H1=>∃ a dx fs,x=.ref a/\H1 a=some (.ins C dx fs)/\fs.lookup m=none/\
 t σ H1 fun vs H2=>sp (x::(vs++dvs)) H2 Q E
def u7 (C:Addr)(sp:Sp)(dvs:List V)(E:XK)(t:TA):TE:=fun σ H Q=>t σ H fun vs H1=>∀ x dx,H1 x=none->H1 dx=none->dx≠x->
 sp (.ref x::(vs++dvs)) (upd (upd H1 dx (.own x)) x (.ins C dx [])) (fun v H2=>v=.bJ/\Q (.ref x) H2) E
def Binds (K:To)(fd:FuncData)(ps:List Str)(ds:List Tq):Prop:=∀(s:Tn)(us:List Tq),K.In s.heap->(us++ds).length=ps.length->BindsTo s fd ⟨us,[]⟩ (ps.zip (us++ds))
theorem Binds.all {K:To}(h:∀ us:List Tq,us.length=ps.length->bindArgs fd ⟨us,[]⟩=pure (ps.zip us)):Binds K fd ps []:=fun s us _ hl=>by rw[Rm]at hl ⊢;exact .of_eq (h us hl)
def fF (CX:yT)(X:Cx)(E:XK):Prop:=∀(ai:List (Addr×Obj))(σ:St)(H:Hp)(s:Tn)(e:Tq)(s':Tn),Inv X ai σ H s->CX X.stack H s E e s'->X.xe e s'
section
theorem tf (F:bE X.prog X.w X.K X.mg X.base CX k f fd ps sp)(hr:cT k X.A)(hb:Binds X.K fd ps ds)(hd:Vals dvs ds)(hx:fF CX X E)
 (I:Inv X ai σ H s) (r:Vals vs us) (h:sp (vs++dvs) H Q E):wX X (call (.ref f) us) (EP X ai σ Q) X.xe s:=by
 have r2:Vals (vs++dvs) (us++ds):=r.append hd;have hl:(us++ds).length=ps.length:=by rw[<- r2.length];exact F.len _ _ _ _ h
 refine wpAny_call (SI (F.run X.A X.stack s H ⟨us,[]⟩ (us++ds) (vs++dvs) Q E hr I.Kz (hb s us I.kC hl) r2 h) fun r s' hq=>?_);cases r with
 |error e=>exact hx ai σ H s e s' I hq
 |ok fl=>
  cases fl with
  |ret u=>exact I.after hq
  |next=>exact False.elim hq
  |brk=>exact False.elim hq
  |cont=>exact False.elim hq
theorem aS (F:bE X.prog X.w X.K X.mg X.base CX k f fd ps sp)(hr:cT k X.A)(hg:Gl X x)(hm:X.mg x=some (.ref f))(hk:PySem.W.keepIn X.K (.ref f)=true)(hb:Binds X.K fd ps ds)(hd:Vals dvs ds)(hx:fF CX X E)
 (ha:PA X (e::es) t) (hdb:autoParam (dB x) Tt._auto_1) (he:autoParam (sE X e es) TB._auto_1) (hpl:autoParam (bT X pos es) TB._auto_1) :
 PE X (.Call (.Name x p) (e::es) [] pos) (br sp dvs E t):=by
 intro ai s σ H Q I h;refine Rb (kZ I hg hm ?_ hdb);refine S4 (h₀:=X.base) I.ok.mod.HX hk (bX (ha pos ai s σ H _ I h) fun us s1 ⟨vs,H1,I1,r,q⟩=>⟨I1.kC,?_⟩) he hpl;exact tf F hr hb hd hx I1 r q
theorem dY (he:PE X o ta)(c:qu X.K C)(hm:Meth X.K C m f)(F:bE X.prog X.w X.K X.mg X.base CX k f fd ps sp)(hr:cT k X.A)(hb:Binds X.K fd ps ds)(hd:Vals dvs ds)(hx:fF CX X E)(ha:PA X (e::es) t)
 (hst:autoParam (starEach (e::es) X.env=(false,eval e X.env)::starEach es X.env) TB._auto_1) (hpl:autoParam (bT X pos es) TB._auto_1)
 (ht:autoParam (eval (.Call (.Attribute o m apos) (e::es) [] pos) X.env=(do
   let ov <- eval o X.env
   standAt apos.atName
   let (f,first) <- holding [ov] (getMethod ov m pl)
   callWith pos f first (backTo pos (starEach (e::es) X.env)) (backToKw pos (keywordEach [] X.env)))) TB._auto_1) :
 PE X (.Call (.Attribute o m apos) (e::es) [] pos) (dR C m sp dvs E ta t):=by
 intro ai s σ H Q I h;refine PySem.W.methodCall_KW (pl:=pl) (bX (he ai s σ H _ I h) fun u s1 z=>?_) ht;obtain⟨x,H1,I1,rx,a,dx,fs,rfl,ea,l,q⟩:=z;obtain rfl:u=Value.ref a:=rx;refine lG I1 ea c hm l ?_;refine S4 (first:=[.ref a]) (h₀:=X.base) I.ok.mod.HX hm.kp (bX (ha pos ai s1 σ H1 _ I1 q) fun us s2 ⟨vs,H2,I2,r,q2⟩=>⟨I2.kC,?_⟩) hst hpl;exact tf (us:=.ref a::us) (vs:=.ref a::vs) F hr hb hd hx I2 (.cons rfl r) q2
theorem lH (he:PE X o ta)(c:qu X.K C)(hm:Meth X.K C m f)(F:bE X.prog X.w X.K X.mg X.base CX k f fd ps sp)(hr:cT k X.A)(hb:Binds X.K fd ps ds)(hd:Vals dvs ds)(hx:fF CX X E)
 (ht:autoParam (eval (.Call (.Attribute o m apos) [] [] pos) X.env=(do
   let ov <- eval o X.env
   standAt apos.atName
   let (f,first) <- holding [ov] (getMethod ov m pl)
   callWith pos f first (backTo pos (starEach [] X.env)) (backToKw pos (keywordEach [] X.env)))) TB._auto_1) :
 PE X (.Call (.Attribute o m apos) [] [] pos) (dR C m sp dvs E ta aG):=by
 intro ai s σ H Q I h;refine PySem.W.methodCall_KW (pl:=pl) (bX (he ai s σ H _ I h) fun u s1 z=>?_) ht;obtain⟨x,H1,I1,rx,a,dx,fs,rfl,ea,l,q⟩:=z;obtain rfl:u=Value.ref a:=rx;refine lG I1 ea c hm l ?_;exact PySem.W.callWith_K0 (first:=[.ref a]) I1.kC hm.kp (tf (us:=[.ref a]) (vs:=[.ref a]) F hr hb hd hx I1 (.cons rfl .nil) q)
structure Mk (K:To) (C f:Addr):Prop where
 makes:PySem.W.makesIn K C=true
 init:PySem.W.findIn K (.ref C) "__init__"=some (some (.ref f))
 fn:PySem.W.isFn K (.ref f)=true
 kp:PySem.W.keepIn K (.ref C)=true
theorem qN (M:Mk X.K C f)(F:bE X.prog X.w X.K X.mg X.base CX k f fd ps sp)(hr:cT (k+1) X.A)(hb:Binds X.K fd ps ds)(hd:Vals dvs ds)
 (hx:fF CX X E) (I:Inv X ai σ H s) (r:Vals vs us)
 (h:∀ x dx,H x=none->H dx=none->dx≠x->sp (.ref x::(vs++dvs)) (upd (upd H dx (.own x)) x (.ins C dx [])) (fun v H2=>v=.bJ/\Q (.ref x) H2) E) :
 wX X (call (.ref C) us) (EP X ai σ Q) X.xe s:=by
 have hq:=h (s.heap.objs.size+1) s.heap.objs.size (I.be.fresh (Te _)) (I.be.fresh (O0 _)) (Pt (QO _));have I2:=Inv.made (C:=C) I;have r2:Vals (V.ref (s.heap.objs.size+1)::(vs++dvs)) (Value.ref (s.heap.objs.size+1)::(us++ds)):=.cons rfl (r.append hd);have hl:(Value.ref (s.heap.objs.size+1)::us++ds).length=ps.length:=by have e:=r2.length;rw[F.len _ _ _ _ hq]at e;exact e.symm
 refine wpAny_call (yS (f:=f) I.kC M.makes M.init (Sv.mp M.fn) (SI (F.run _ X.stack _ _ ⟨Value.ref (s.heap.objs.size+1)::us,[]⟩ (Value.ref (s.heap.objs.size+1)::(us++ds)) _ _ E (hr.make C us [])
  (I2.Kz.make C us []) (hb _ (Value.ref (s.heap.objs.size+1)::us) I2.kC hl) r2 hq) fun r s' hq'=>?_))
 cases r with
 |error e=>exact hx ai σ _ _ e s' I2 hq'
 |ok fl=>
  cases fl with
  |ret u=>obtain⟨v,H',I3,rv,ev,q3⟩:=I2.after hq';subst ev;exact⟨rv,⟨V.ref (s.heap.objs.size+1),H',I3,rfl,q3⟩⟩
  |next=>exact False.elim hq'
  |brk=>exact False.elim hq'
  |cont=>exact False.elim hq'
theorem CC (M:Mk X.K C f)(F:bE X.prog X.w X.K X.mg X.base CX k f fd ps sp)(hr:cT (k+1) X.A)(hg:Gl X x)(hm:X.mg x=some (.ref C))(hb:Binds X.K fd ps ds)(hd:Vals dvs ds)(hx:fF CX X E)
 (ha:PA X (e::es) t) (hdb:autoParam (dB x) Tt._auto_1) (he:autoParam (sE X e es) TB._auto_1) (hpl:autoParam (bT X pos es) TB._auto_1) :
 PE X (.Call (.Name x p) (e::es) [] pos) (u7 C sp dvs E t):=by
 intro ai s σ H Q I h;refine Rb (kZ I hg hm ?_ hdb);refine S4 (h₀:=X.base) I.ok.mod.HX M.kp (bX (ha pos ai s σ H _ I h) fun us s1 ⟨vs,H1,I1,r,q⟩=>⟨I1.kC,?_⟩) he hpl;exact qN M F hr hb hd hx I1 r q
theorem yU (M:Mk X.K C f)(F:bE X.prog X.w X.K X.mg X.base CX k f fd ps sp)(hr:cT (k+1) X.A)(hg:Gl X x)(hm:X.mg x=some (.ref C))(hb:Binds X.K fd ps ds)(hd:Vals dvs ds)(hx:fF CX X E)
 (hdb:autoParam (dB x) Tt._auto_1):PE X (.Call (.Name x p) [] [] pos) (u7 C sp dvs E aG):=by
 intro ai s σ H Q I h;refine Rb (kZ I hg hm ?_ hdb);exact PySem.W.callWith_K0 I.kC M.kp (qN (us:=[]) M F hr hb hd hx I .nil h)
end
def PK (X:Cx)(kws:List Keyword)(t:TA):Prop:=∀(pos:Pos)(ai:List (Addr×Obj))(s:Tn)(σ:St)(H:Hp)(Q:List V->Hp->Prop),Inv X ai σ H s->t σ H Q->wpAny (model X.prog X.w) X.A (evalAll ((backToKw pos (keywordEach kws X.env)).map (·.2))) (AP X ai σ Q) X.xe s
section
theorem FE:PK X [] aG:=fun _ _ _ _ H Q I h=>wpAny_evalAll_nil ⟨[],H,I,.nil,h⟩
theorem CD (ha:PE X e te)(hr:PK X kws t):PK X (⟨nm,e,kpos⟩::kws) (ao te t):=by intro pos ai s σ H Q I h;show wpAny _ _ (evalAll ((do let v <- eval e X.env;standAt pos;pure v)::(backToKw pos (keywordEach kws X.env)).map (·.2))) _ _ s;refine wpAny_evalAll_cons (KE (bX (ha ai s σ H _ I h) fun u s1 ⟨x,H1,I1,r1,q1⟩=>KE (wpAny_standAt (OY ?_))));exact bX (hr pos ai s1 σ H1 _ I1 q1) fun us s2 ⟨xs,H2,I2,r2,q2⟩=>⟨x::xs,H2,I2,.cons r1 r2,q2⟩
end
structure aU (N P:List Str) (sc:Scope):Prop where
 kind:sc.kind=.function
 co:sc.isCoroutine=false
 gen:sc.isGenerator=false
 nd:N.Nodup
 pre:N.take P.length=P
 par:∀ x∈P,sc.names.lookup x=some .local\/sc.names.lookup x=some .cell
 HC:∀ y∈sc.names,y.2≠.free
theorem oe {kindOf:Str->Option NameKind}:∀{binds:List (Str×Tq)}{m:Str->Option Tq},(∀ v,(x,v)∉binds)->bindL kindOf binds m x=m x
 | [],_,_=>rfl
 |(n,v)::r,m,h=>by
  unfold bindL;rw[oe fun w hw=>h w (O4 _ hw)];split
  .have:x≠n:=by rintro rfl;exact h v O5
   simp[this]
  .rfl
theorem og {kindOf:Str->Option NameKind}:∀{binds:List (Str×Tq)}{m:Str->Option Tq},(∀ v,(x,v)∉binds)->bindC kindOf binds m x=m x
 | [],_,_=>rfl
 |(n,v)::r,m,h=>by
  unfold bindC;rw[og fun w hw=>h w (O4 _ hw)];split
  .rfl
  .have:x≠n:=by rintro rfl;exact h v O5
   simp[this]
theorem oh {kindOf:Str->Option NameKind}:∀{P:List Str}{vs:List Tq}{i:Nat}{m:Str->Option Tq},P.Nodup->P[i]?=some x->vs[i]?=some v->kindOf x=some .local->
 bindL kindOf (P.zip vs) m x=some v
 | [],_,_,_,_,h,_,_=>by simp at h
 |_::_,[],_,_,_,_,h,_=>by simp at h
 |p::P,w::vs,0,m,nd,h1,h2,hk=>by simp at h1 h2;subst h1;subst h2;show bindL kindOf ((p,w)::P.zip vs) m p=_;unfold bindL;rw[oe fun v hv=>(Qk.mp nd).1 (List.of_mem_zip hv).1,Pi hk];simp
 |p::P,w::vs,i+1,m,nd,h1,h2,hk=>by show bindL kindOf ((p,w)::P.zip vs) m x=_;unfold bindL;exact oh (i:=i) (Qk.mp nd).2 (by simpa using h1) (by simpa using h2) hk
theorem oi {kindOf:Str->Option NameKind}:∀{P:List Str}{vs:List Tq}{i:Nat}{m:Str->Option Tq},P.Nodup->P[i]?=some x->vs[i]?=some v->kindOf x≠some .local->
 bindC kindOf (P.zip vs) m x=some v
 | [],_,_,_,_,h,_,_=>by simp at h
 |_::_,[],_,_,_,_,h,_=>by simp at h
 |p::P,w::vs,0,m,nd,h1,h2,hk=>by simp at h1 h2;subst h1;subst h2;show bindC kindOf ((p,w)::P.zip vs) m p=_;unfold bindC;rw[og fun v hv=>(Qk.mp nd).1 (List.of_mem_zip hv).1,Pl hk];simp
 |p::P,w::vs,i+1,m,nd,h1,h2,hk=>by show bindC kindOf ((p,w)::P.zip vs) m x=_;unfold bindC;exact oi (i:=i) (Qk.mp nd).2 (by simpa using h1) (by simpa using h2) hk
abbrev nS (n:Nat):List Str:=List.replicate n ""
noncomputable def bh (N:List Str)(vs:List V):St:=vs.map some++List.replicate (N.length-vs.length) none
noncomputable def ti (CX:yT)(P:Tp)(w:World)(K:To)(mg:Str->Option Tq)(base:Heap)(N:List Str)(qual:Str)(scope:Scope)(f:Addr)(cd:Tq)(A:Ts)(outer:List Env)(s:Tn)(H:Hp)(E:XK):Cx where
 prog:=P
 w:=w
 K:=K
 mg:=mg
 base:=base
 A:=A.deeper (envOfC qual scope s.heap.objs.size f cd)
 N:=N
 s₀:=s
 H₀:=H
 env:=envOfC qual scope s.heap.objs.size f cd
 outer:=outer
 stack:=envOfC qual scope s.heap.objs.size f cd::outer
 ex:=[]
 calm:=true
 fn:=fun _=>true
 pn:=[]
 xe:=fun e s'=>wpAny (model P w) (A.deeper (envOfC qual scope s.heap.objs.size f cd)) (leaving (envOfC qual scope s.heap.objs.size f cd) e) (fun _ s''=>CX outer H s E e s'') (fun e' s''=>CX outer H s E e' s'') s'
theorem qO {sc:Scope}(h:sc.names.lookup x=some .cell):∃ c,(cellsFrom n sc.names []).lookup x=some c:=by have q:=PySem.W.cellsFrom_some sc.names n [] (.inl h);exact Option.isSome_iff_exists.mp q
theorem wt {CX:yT}{P:Tp}{w:World}{K:To}{mg:Str->Option Tq}{base:Heap}{N ps:List Str}{qual:Str}{scope:Scope}
 (S:aU N ps scope) (hd:A.handled=none) (e0:uL P w K mg base A outer s H) (hl:vs.length=ps.length) (r:Vals vs us)
 (x:InCallC s s.heap.objs.size (bindL (envOfC qual scope s.heap.objs.size f cd).kindOf (ps.zip us) fun _=>none) (cellsFrom (s.heap.objs.size+1) scope.names []) (bindC (envOfC qual scope s.heap.objs.size f cd).kindOf (ps.zip us) fun _=>none) s1) :
 Inv (ti CX P w K mg base N qual scope f cd A outer s H E) [] (bh N vs) H s1:=by
 have hpl:ps.length<=N.length:=by have:=QH List.length S.pre;rw[Qi]at this;lia
 obtain⟨h1,tk,rfl,hk⟩:=x.done;have noA:∀ b:Addr,b∉(ti CX P w K mg base N qual scope f cd A outer s H E).ex:=fun b z=>absurd (show b∈([]:List Addr) from z) (by simp);refine⟨⟨e0.mod,S.kind,rfl,rfl,O0 _,fun y z c h1 h2=>?_,fun y hy=>?_,fun y c _ h=>?_,fun _=>hd,Around.frames_deeper e0.frames,.inr ⟨rfl,rfl⟩,fun b z=>absurd z (noA b),e0.bs,e0.Cp,fun b _ _=>noA b,fun b z=>absurd z (noA b),e0.kE,e0.Fd,e0.kt⟩,
  rfl,e0.bare,Un.kept hk,⟨_,x.toInCall.ns,fun i y v h1 h2 h3=>?_⟩,fun y c h=>⟨_,x.cell y c h⟩,e0.be.fresh (O0 _),fun y c h=>?_,fun p hp=>absurd (show p∈([]:List (Addr×Obj)) from hp) (by simp),e0.be.kept hk,?_⟩
 .exact name_of_addr x.apart (QT h1) (QT h2)
 .have hy:scope.names.lookup y=some .cell\/scope.names.lookup y=some .free:=hy;rcases hy with hy|hy
  .exact qO hy
  .exact absurd rfl (S.HC _ (QT hy))
 .exact Rq (x.above y c (QT h))
 .have hi:i<vs.length:=by
   grind [bh]
  have ha:vs[i]?=some v:=by grind [bh]
  obtain⟨u,hu,rv⟩:=r.get ha;have hp:ps[i]?=some y:=by rw[<- S.pre,List.getElem?_take_of_lt (by lia)];exact h1
  have ndP:ps.Nodup:=by rw[<- S.pre];exact S.nd.sublist (List.take_sublist _ _)
  refine⟨u,rv,?_⟩;rcases S.par y (Px hp) with k|k
  .exact .inl ⟨k,oh ndP hp hu k⟩
  .obtain⟨c,e⟩:=qO (n:=s.heap.objs.size+1) k;refine .inr ⟨.inl k,c,e,?_⟩;have q:=x.cell y c e;rw[oi ndP hp hu (by show scope.names.lookup y≠_;rw[k];decide)]at q;exact q
 .exact e0.be.fresh (Rq (x.above y c (QT h)))
 .unfold bh;show _=N.length;rw[O6,O2,SJ];lia
abbrev eQ (Q:VK):Ends:={ nx:=fun _ H'=>Q .bJ H',rt:=Q }
theorem yV {CX:yT}{P:Tp}{w:World}{K:To}{mg:Str->Option Tq}{base:Heap}{k:Nat}{f:Addr}{name qual:Str}{params:Arguments}{body:List Stmt}{scope:Scope}{dV kV doc pm cdv ct oc:Tq}{an od:Option Addr}
 {osl:Array (Option Tq)} {N ps:List Str} {sp:Sp} (lk:K.lookup f=some ⟨oc,od,.func (PySem.W.fnOf name qual params body scope dV kV doc pm an cdv ct),osl⟩) (hcd:PySem.W.codeIn K cdv qual=true) (S:aU N ps scope)
 (len:∀ vs H Q E,sp vs H Q E->vs.length=ps.length)
 (hbody:∀(A:Ts)(outer:List Env)(s:Tn)(H:Hp)(vs:List V)(Q:VK)(E:XK),cT k (A.deeper (envOfC qual scope s.heap.objs.size f cdv))->sp vs H Q E->
   ∃ t,PSs (ti CX P w K mg base N qual scope f cdv A outer s H E) body t/\t (eQ Q) (bh N vs) H) :
 bE P w K mg base CX (k+1) f (PySem.W.fnOf name qual params body scope dV kV doc pm an cdv ct) ps sp:=by
 refine⟨len,fun A outer s H args us vs Q E hr e0 hb r hsp=>?_⟩;have hl:=len _ _ _ _ hsp;have KX:K.In s.heap:=e0.mod.HX.keeps fun b o e=>(e0.bs b o e).1;have lim:s.heap.NoLimit:=e0.mod.nolimit.keeps fun b o e=>(e0.bs b o e).1;have hkind:∀ y∈ps.zip us,scope.names.lookup y.1=some .local\/(scope.names.lookup y.1=some .cell/\((cellsFrom (s.heap.objs.size+1) scope.names []).lookup y.1).isSome=true):=fun⟨n,v⟩ hy=>by
  rcases S.par n (List.of_mem_zip hy).1 with q|q
  .exact .inl q
  .exact .inr ⟨q,PySem.W.cellsFrom_some _ _ _ (.inl q)⟩
 refine codeAny_call_function hr.depth (KX _ _ lk) rfl S.co S.gen rfl (PySem.W.codeRec_of KX hcd) (hb _ _ _ _ ?_);refine wpAny_newFunctionEnv_cells S.kind hkind fun env he s1 x=>?_;subst he;refine⟨lim.keeps x.toInCall.keep,codeAny_func ?_⟩;obtain⟨t,ht,hq⟩:=hbody A outer s H vs Q E (hr.deeper _) hsp;have I:Inv (ti CX P w K mg base N qual scope f cdv A outer s H E) [] (bh N vs) H s1:=wt S hr.hd e0 hl r x;refine QI (ht [] s1 (bh N vs) H _ I hq) (fun fl s' hs=>?_) fun e s' hs=>hs;have fin:∀{σ':St}{H':Hp}{v:V}{u:Tq},Inv (ti CX P w K mg base N qual scope f cdv A outer s H E) [] σ' H' s'->RelV v u->Q v H'->CE outer P w H s Q u s':=fun{σ' H' v u} J rv q=>⟨v,H',J.os,J.bare,J.base,J.be,rv,q⟩;cases fl with
 |ret u=>obtain⟨v,σ',H',J,rv,q⟩:=hs;exact fin J rv q
 |next=>obtain⟨σ',H',J,q⟩:=hs;exact fin (v:=V.bJ) (u:=Value.none) J rfl q
 |brk=>obtain⟨_,_,_,q⟩:=hs;exact False.elim q
 |cont=>obtain⟨_,_,_,q⟩:=hs;exact False.elim q
section
variable {X:Cx}{x:Str}{p pos:Pos}{e:Expr}{es:List Expr}{t:TA}{id T:String}{r:List V->Hp->VK->Prop}
noncomputable def ii (r:List V->Hp->VK->Prop)(t:TA):TE:=fun σ H Q=>t σ H fun vs H1=>r vs H1 Q
theorem bf (hc:cm X (.builtin id) r) (hg:Gl X x) (hm:X.mg x=none) (hv:bootBuiltins x=some (.builtin id)) (ha:PA X (e::es) t) (hn:autoParam (x≠"__name__") Tt._auto_1) (hdb:autoParam (dB x) Tt._auto_1)
 (he:autoParam (starEach (e::es) X.env=(false,eval e X.env)::starEach es X.env) TB._auto_1) (hpl:autoParam (bT X pos es) TB._auto_1):PE X (.Call (.Name x p) (e::es) [] pos) (ii r t):=by
 intro ai s σ H Q I h;refine Rb (i5 I hg hm hv ?_ hn hdb);exact PyProof.Rows.callWith_builtin1 (bX (ha pos ai s σ H _ I h) fun us s1 ⟨vs,H1,I1,r1,q1⟩=>hc ai s1 σ H1 vs us Q I1 r1 q1) he hpl
theorem cc (hc:cm X (.type T) r) (hg:Gl X x) (hm:X.mg x=none) (hv:bootBuiltins x=some (.type T)) (ha:PA X (e::es) t) (hn:autoParam (x≠"__name__") Tt._auto_1) (hdb:autoParam (dB x) Tt._auto_1)
 (he:autoParam (starEach (e::es) X.env=(false,eval e X.env)::starEach es X.env) TB._auto_1) (hpl:autoParam (bT X pos es) TB._auto_1):PE X (.Call (.Name x p) (e::es) [] pos) (ii r t):=by
 intro ai s σ H Q I h;refine Rb (i5 I hg hm hv ?_ hn hdb);exact Q9 (bX (ha pos ai s σ H _ I h) fun us s1 ⟨vs,H1,I1,r1,q1⟩=>hc ai s1 σ H1 vs us Q I1 r1 q1) he hpl
end
end L2
namespace HT
open PySem PyProof.Rows
noncomputable def lexLt:List Int->List Int->Bool
 | [],[]=>false
 | [],_::_=>true
 |_::_,[]=>false
 |x::xs,y::ys=>if x=y then lexLt xs ys else decide (x<y)
theorem tj (x y:Int)(xs ys:List Int):lexLt (x::xs) (y::ys)=if x=y then lexLt xs ys else decide (x<y):=rfl
theorem nz:lexLt [] []=false:=rfl
theorem lI (y:Int)(ys:List Int):lexLt [] (y::ys)=true:=rfl
theorem lJ (x:Int)(xs:List Int):lexLt (x::xs) []=false:=rfl
theorem yW (A:Ts)(s:Tn)(a:Int)(t:Tok)(c:Int)(u:Tok):∃ e,SeqAt.EqAt A s (.int a t) (.int c u) e/\(e=true↔a=c):=⟨(a==c),SeqAt.EqAt.int_int a t c u,by simp⟩
theorem rcLt_int (A:Ts)(s:Tn)(a:Int)(t:Tok)(c:Int)(u:Tok)(prog:Tp)(w:World)(E:Tq->Tn->Prop)(Q:Tq->Tn->Prop)(h:Q (.bool (decide (a<c))) s) :
 wpAny (model prog w) A (richCompare .Lt (.int a t) (.int c u)) Q E s:=
 (PyProof.Rows.lt_int h:wpAny (model prog w) A (compareOp .Lt (.int a t) (.int c u)) Q E s)
section
open PySem.SeqAt
open PySem.AutoSeq1 (wpAny_loadPart')
open PySem.MeetsSeq PySem.MeetsSeq2 PySem.MeetsSeq3
theorem nA (l b:Addr)(items items2:Array Tq)(n n2:Nat)(dd dd2:Option Addr)(sl sl2:Array (Option Tq))(ns ms:List Int)(hi:IntsAre items.toList ns)(hj:IntsAre items2.toList ms) :
 Meets (Builtin.«tuple.__lt__» ⟨[.ref l,.ref b],[]⟩)
  (fun _ R s=>s.heap.get? l=some { cls:=.type "tuple",dict:=dd,data:=.seq items n,slots:=sl }/\s.heap.get? b=some { cls:=.type "tuple",dict:=dd2,data:=.seq items2 n2,slots:=sl2 }/\
    R (.ok (.ret (.bool (lexLt ns ms)))) s):=
 .of_wp fun prog w A R s h=>by
  obtain⟨hp,g,d,tk,os⟩:=s;obtain⟨hl,hb,h⟩:=h;have f2:=AutoSeq1.sub_tuple_tuple;have z1:items.size=ns.length:=by rw[<- hi.length];simp
  have z2:items2.size=ms.length:=by rw[<- hj.length];simp
  wp_walk using wpAny_loadPart' hl,wpAny_loadPart' hb,SL _ (fun rest b s'=>b.1=none/\s'=⟨hp,g,d,tk,os⟩/\∃(vs ws:List Tq)(ns' ms':List Int),rest=vs.zip ws/\
   IntsAre vs ns'/\IntsAre ws ms'/\ns'.length+items2.size=ms'.length+items.size/\R (.ok (.ret (.bool (lexLt ns' ms')))) ⟨hp,g,d,tk,os⟩) _
  case turn=>
   rintro⟨y,x⟩ rest b s' ⟨hb',rfl,vs,ws,ns',ms',hz,hvi,hwi,bL,hR⟩;cases hvi with
   |nil=>rw[List.zip_nil_left]at hz;cases hz
   |cons a t hvi'=>
    cases hwi with
    |nil=>rw[List.zip_nil_right]at hz;cases hz
    |cons c u hwi'=>
     rw[Sj]at hz;injection hz with hyx hrest;injection hyx with hy hx;subst hy hx;rw[tj]at hR;simp only[Pg]at bL;obtain⟨e,he,hiff⟩:=yW A.in1 ⟨hp,g,d,tk,os⟩ a t c u;refine KE (he prog w _ _ ?_);cases e with
     |true=>
      rw[Pi (hiff.mp rfl)]at hR
      wp_walk
      exact⟨rfl,rfl,_,_,_,_,hrest,hvi',hwi',by lia,hR⟩
     |false=>
      rw[Pl (fun q=>absurd (hiff.mpr q) PB)]at hR;have hri:=rcLt_int A.in1 ⟨hp,g,d,tk,os⟩ a t c u prog w
      wp_walk using hri
      exact⟨_,rfl,by simpa using hR⟩
  case fin=>
   rintro⟨b1,b2⟩ s' ⟨hb',rfl,vs,ws,ns',ms',hz,hvi,hwi,bL,hR⟩;simp only at hb';subst hb';have hv:lexLt ns' ms'=decide (items.size<items2.size):=by
    cases hvi with
    |nil=>
     cases hwi with
     |nil=>simp only[QM]at bL;rw[nz];exact(Pp (by lia)).symm
     |cons c u hw=>simp only[QM,Pg]at bL;rw[lI];exact(O_ (by lia)).symm
    |cons a t hv=>
     cases hwi with
     |nil=>simp only[QM,Pg]at bL;rw[lJ];exact(Pp (by lia)).symm
     |cons c u hw=>rw[Sj]at hz;cases hz
   rw[hv]at hR
   wp_walk
   exact⟨_,rfl,by simpa[Builtin.Tuple.tupleCompareSizes] using hR⟩
  case h=>exact⟨rfl,rfl,items.toList,items2.toList,ns,ms,rfl,hi,hj,by lia,h⟩
end
section
theorem lt_tupInts (hl:IsTup s.heap l items)(hb:IsTup s.heap b items2)(hi:IntsAre items.toList ns)(hj:IntsAre items2.toList ms)
 (hu:A.units<cLine) (h:Q (.bool (lexLt ns ms)) s):wpAny (model prog w) A (compareOp .Lt (.ref l) (.ref b)) Q E s:=by
 obtain⟨⟨cls,dd,data,sl⟩,ho,hc,n,hd⟩:=id hl;obtain⟨⟨cls2,dd2,data2,sl2⟩,ho2,hc2,n2,hd2⟩:=id hb;simp only at hc hd hc2 hd2;subst hc hd hc2 hd2;exact richCompare_meets_room (op:=.Lt) ⟨_,ho,rfl⟩ ⟨_,ho2,rfl⟩ PySem.F.slot_tuple_lt PySem.F.entry_tuple_lt (PySem.F.args_tuple_lt_2 _ _) (nA l b items items2 n n2 dd dd2 sl sl2 ns ms hi hj)
  ⟨ho,ho2,show Value.bool (lexLt ns ms)≠Value.notImplemented/\Q (.bool (lexLt ns ms)) s from⟨(fun x=>nomatch x),h⟩⟩ hu
noncomputable def sIx (n d:Nat):Option Int->Nat
 |none=>d
 |some v=>if v<0 then (v+(n:Int)).toNat else min v.toNat n
theorem sIx_nat (n d k:Nat):sIx n d (some (k:Int))=min k n:=by show(if (k:Int)<0 then ((k:Int)+(n:Int)).toNat else min (k:Int).toNat n)=min k n;rw[Pl (by lia),Sx]
theorem FG (n d:Nat)(hd:d<=n)(o:Option Int):sIx n d o<=n:=by
 cases o with
 |none=>exact hd
 |some v=>
  show(if v<0 then (v+(n:Int)).toNat else min v.toNat n)<=n
  grind
theorem u_ (v:Int)(n d:Nat):(if v<0 then max (v+(n:Int)) 0 else min v (n:Int))=((sIx n d (some v):Nat):Int):=by
 show(if v<0 then max (v+(n:Int)) 0 else min v (n:Int))=(((if v<0 then (v+(n:Int)).toNat else min v.toNat n):Nat):Int)
 grind
theorem tp (lo hi:Option Int)(n:Nat):Builtin.Slice.sliceAdjust lo hi 1 (n:Int)=(((sIx n 0 lo:Nat):Int),((sIx n n hi:Nat):Int)):=by
 have h1:¬ ((1:Int)<0):=by lia
 unfold Builtin.Slice.sliceAdjust;simp only[h1,Qy];refine S5 ?_ ?_
 .cases lo with
  |none=>rfl
  |some v=>exact u_ v n 0
 .cases hi with
  |none=>rfl
  |some v=>exact u_ v n n
theorem tq (i j:Nat):Builtin.Slice.slicePlaces (i:Int) (j:Int) 1=j-i:=by
 unfold Builtin.Slice.slicePlaces
 grind
theorem lK (p:IsPart v o)(h:Q o s):wpAny (model prog w) A (Builtin.Slice.slicePartIndex v) Q E s:=by
 cases p with
 |none=>exact slicePart_none h
 |int i t=>exact slicePart_int h
theorem sliceApplied_gen {lo hi:Option Int}{n:Nat}{Q:Int×Int×Nat->Tn->Prop}(hs:s.heap.IsSliceOf sl vl vu .none)(pl:IsPart vl lo)(pu:IsPart vu hi)
 (h:Q (((sIx n 0 lo:Nat):Int),1,sIx n n hi-sIx n 0 lo) s):wpAny (model prog w) A (Builtin.Slice.sliceApplied (.ref sl) (pure (n:Int))) Q E s:=by
 obtain⟨os,hos,hcs,hds⟩:=id hs;unfold Builtin.Slice.sliceApplied Builtin.Slice.sliceFields;refine KE (KE (Sy hos hds (x:=vl) rfl (KE (Sy hos hds (x:=vu) rfl (KE (Sy hos hds (x:=.none) rfl (OY ?_)))))));refine KE (slicePart_none ?_);show wpAny _ _ (if ((1:Int)==0)=true then _ else _) _ _ s;rw[Pl (by decide)];refine KE (lK pl (KE (lK pu (KE (OY ?_)))));show wpAny _ _ (match Builtin.Slice.sliceAdjust lo hi 1 (n:Int) with|(lo,hi)=>pure (lo,(1:Int),Builtin.Slice.slicePlaces lo hi 1)) _ _ s;rw[tp lo hi n];show wpAny _ _ (pure (((sIx n 0 lo:Nat):Int),(1:Int),Builtin.Slice.slicePlaces ((sIx n 0 lo:Nat):Int) ((sIx n n hi:Nat):Int) 1)) _ _ s;rw[tq];exact OY h
theorem yX (xs:Array Tq)(i k:Nat):((List.range k).filterMap fun(m:Nat)=>xs[((i:Int)+(m:Int)*1).toNat]?).toArray=((xs.toList.drop i).take k).toArray:=by
 have e:(fun(m:Nat)=>xs[((i:Int)+(m:Int)*1).toNat]?)=fun m=>xs[i+m]?:=by grind
 rw[e];have:=pick_run xs i k;rw[List.filterMap_map]at this;have e2:((fun x=>xs[x]?) ∘ fun x=>i+x)=fun m=>xs[i+m]?:=rfl;rw[e2]at this;rw[this]
theorem getItem_tuple_cut {vl vu:Tq}{lo hi:Option Int}{Q:Tq->Tn->Prop}(ht:IsTup s.heap t items)(hs:s.heap.IsSliceOf sl vl vu .none)(pl:IsPart vl lo)(pu:IsPart vu hi)
 (hw:¬ (sIx items.size 0 lo=0/\sIx items.size items.size hi=items.size))
 (h:Q (.ref s.heap.objs.size) { s with heap:=s.heap.push { cls:=.type "tuple",data:=.seq ((items.toList.drop (sIx items.size 0 lo)).take (sIx items.size items.size hi-sIx items.size 0 lo)).toArray } })
 (hsz:items.size<=sizeLine):wpAny (model prog w) A (getItem (.ref t) (.ref sl)) Q E s:=by
 have htake:sizeOk (.seq ((items.toList.drop (sIx items.size 0 lo)).take (sIx items.size items.size hi-sIx items.size 0 lo)).toArray):=by
  show((items.toList.drop (sIx items.size 0 lo)).take (sIx items.size items.size hi-sIx items.size 0 lo)).toArray.size<=sizeLine
  grind
 have hj:sIx items.size items.size hi<=items.size:=FG _ _ (O0 _) hi;obtain⟨os,hos,hcs,hds⟩:=id hs;have hTs:s.TypeIs (.ref sl) "slice":=⟨os,hos,hcs⟩;unfold getItem
 try with_reducible refine Qd ?_
 first|refine KE (OY ?_)|skip
 refine KE (wpAny_sequenceKey ht.typeIs (by decide) ?_);refine KE (QN (name:=Str.ofString "__getitem__") ht.typeIs Ql
  (Qj Ql ht.typeIs entry_tuple_getitem ?_ (args_tuple_getitem _ _)))
 show wpAny _ _ (Builtin.Tuple.tupleItemsOf (.ref t) >>= _) _ _ s;refine KE (tupleItemsOf_ ht ?_);refine KE (RJ hTs ?_);rw[Pi (by decide)];refine KE (sliceApplied_gen hs pl pu ?_);have hno:¬ ((((sIx items.size 0 lo:Nat):Int)==0&&(1:Int)==1&&(sIx items.size items.size hi-sIx items.size 0 lo)==items.size)=true):=by grind
 show wpAny _ _ (if (((sIx items.size 0 lo:Nat):Int)==0&&(1:Int)==1&&(sIx items.size items.size hi-sIx items.size 0 lo)==items.size)=true then _ else _) _ _ s;rw[Pl hno,yX]
 first
  |exact KE (m:=Builtin.Tuple.tupleExact _) (Qc (OY ⟨_,rfl,OY h⟩) htake)
  |exact KE (m:=Builtin.Tuple.tupleExact _) (Qc (KE (OY (OY ⟨_,rfl,OY h⟩))) htake)
  |exact KE (KE (m:=Builtin.Tuple.tupleExact _) (Qc (OY (OY ⟨_,rfl,OY h⟩)) htake))
  |exact KE (KE (m:=Builtin.Tuple.tupleExact _) (Qc (OY ⟨_,rfl,OY h⟩) htake))
end
end HT
namespace L2
open PySem PySem.Spec PyProof.Rows
abbrev TO:=St->Hp->(Option Int->Hp->Prop)->Prop
def PO (X:Cx)(e:Option Expr)(t:TO):Prop:=
 ∀(ai:List (Addr×Obj))(s:Tn)(σ:St)(H:Hp)(Q:Option Int->Hp->Prop),Inv X ai σ H s->t σ H Q->
  wpAny (model X.prog X.w) X.A (evalPart e X.env) (fun u s'=>∃ o H',Inv X ai σ H' s'/\IsPart u o/\Q o H') X.xe s
noncomputable def gf:TO:=fun _ H Q=>Q none H
noncomputable def gR (t:TE):TO:=fun σ H Q=>t σ H fun x H1=>∃ i,x=.int i/\Q (some i) H1
theorem lL:∀{us:List Tq},Vals (ns.map V.int) us->IntsAre us ns:=by
 induction ns with
 |nil=>intro us r;rw[Rr]at r;cases r;exact .nil
 |cons n ns ih=>
  intro us r;rw[Ph]at r;cases r with
  |cons r1 r2=>obtain⟨t,e⟩:=r1;subst e;exact .cons n t (ih r2)
section
variable {X:Cx}{e:Expr}{te:TE}{lo hi:Option Expr}{tl th:TO}{pos p2:Pos}
theorem ij:PO X none gf:=by intro ai s σ H Q I h;rw[evalPart_none];exact OY ⟨none,H,I,.none,h⟩
theorem dz (h:PE X e te):PO X (some e) (gR te):=by intro ai s σ H Q I hw;rw[evalPart_some];refine bX (h ai s σ H _ I hw) fun u s1 ⟨x,H1,I1,r1,q1⟩=>?_;obtain⟨i,rfl,q⟩:=q1;obtain⟨t,rfl⟩:=r1;exact⟨some i,H1,I1,.int i t,q⟩
def Ii (X:Cx)(r:V->Option Int->Option Int->Hp->VK->Prop):Prop:=
 ∀(ai:List (Addr×Obj))(s:Tn)(σ:St)(H:Hp)(x:V)(v vl vu:Tq)(lo hi:Option Int)(sl:Addr)(Q:VK),Inv X ai σ H s->RelV x v->s.heap.IsSliceOf sl vl vu .none->IsPart vl lo->IsPart vu hi->r x lo hi H Q->
  ∃ T id,typeLookup (.type T) "__getitem__"=pure (some (.builtin id))/\s.TypeIs v T/\wpAny (model X.prog X.w) X.A (getItem v (.ref sl)) (EP X ai σ Q) X.xe s
noncomputable def yY (r:V->Option Int->Option Int->Hp->VK->Prop)(te:TE)(tl th:TO):TE:=fun σ H Q=>te σ H fun x H1=>tl σ H1 fun l H2=>th σ H2 fun u H3=>r x l u H3 Q
theorem dJ (hr:Ii X r)(he:PE X e te)(hl:PO X lo tl)(hu:PO X hi th):PE X (.Subscript e (.Slice lo hi none p2) pos) (yY r te tl th):=by intro ai s σ H Q I h;refine Subscript_ (bX (he ai s σ H _ I h) fun v s1 ⟨x,H1,I1,r1,q1⟩=>?_);refine wpAny_Slice (bX (hl ai s1 σ H1 _ I1 q1) fun vl s2 ⟨l,H2,I2,pl,q2⟩=>bX (hu ai s2 σ H2 _ I2 q2) fun vu s3 ⟨u,H3,I3,pu,q3⟩=>?_);rw[evalPart_none];refine OY ?_;have I4:Inv X ai σ H3 { s3 with heap:=s3.heap.push { cls:=.type "slice",data:=.fields #[vl,vu,.none] } }:=I3.kept (t':=s3.toks) fun b ob q=>OZ _ q;obtain⟨T,id,hT,ht,hg⟩:=hr ai { s3 with heap:=s3.heap.push { cls:=.type "slice",data:=.fields #[vl,vu,.none] } } σ H3 x v vl vu l u s3.heap.objs.size Q I4 r1 (Heap.IsSliceOf.new ..) pl pu q3;show wX X (subscriptTail e (.Slice lo hi none p2) v (.ref s3.heap.objs.size)) (EP X ai σ Q) X.xe { s3 with heap:=s3.heap.push { cls:=.type "slice",data:=.fields #[vl,vu,.none] } };exact tail_any (ops:=[.ref s3.heap.objs.size,v]) ht hT hg (by with_unfolding_all rfl)
def cS (xs:List V)(lo hi:Option Int):List V:=(xs.drop (HT.sIx xs.length 0 lo)).take (HT.sIx xs.length xs.length hi-HT.sIx xs.length 0 lo)
theorem gS (xs:List V)(lo hi:Option Int):(cS xs lo hi).length<=xs.length:=by unfold cS;rw[Qi,Q0];lia
def Lh (K:To):V->Option Int->Option Int->Hp->VK->Prop:=fun x lo hi H Q=>∃ a xs,x=.ref a/\SqT K H a xs/\
 ¬ (HT.sIx xs.length 0 lo=0/\HT.sIx xs.length xs.length hi=xs.length)/\∀ p,H p=none->Q (.ref p) (upd H p (.tup (cS xs lo hi)))
theorem FH:Ii X (Lh X.K):=by
 intro ai s σ H x v vl vu lo hi sl Q I rx hs pl pu h;obtain⟨a,xs,rfl,hx,hw,q⟩:=h;cases rx;obtain⟨its,r,ht,hz⟩:=I.tuple hx;have bL:its.toArray.size=xs.length:=by rw[O7];exact r.length.symm
 refine⟨"tuple",_,Ql.lookup,ht.typeIs,?_⟩;refine HT.getItem_tuple_cut ht hs pl pu (by rw[bL];exact hw) ?_ (by rw[bL];exact hz);rw[bL];refine⟨.ref s.heap.objs.size,_,I.laid (t':=s.toks) (o:=.tup (cS xs lo hi)) (fun b ob q=>OZ _ q) (O0 _) ?_,rfl,q _ (I.be.fresh (O0 _))⟩;exact⟨Pu (gS xs lo hi) hz,_,(r.drop (HT.sIx xs.length 0 lo)).take (HT.sIx xs.length xs.length hi-HT.sIx xs.length 0 lo),IsTup.new _ _⟩
end
noncomputable def EE (n:Nat)(i:Int):Option Nat:=if 0<=i then (if i<n then some i.toNat else none) else if -(n:Int)<=i then some (i+n).toNat else none
def tz {α:Type}(xs:List α)(i:Int):Option α:=(EE xs.length i).bind fun j=>xs[j]?
theorem CF (h:EE n i=some j):seqIndex? i n=some j/\j<n/\-(n:Int)<=i/\i<n:=by
 unfold EE at h;by_cases h0:0<=i
 .rw[Pi h0]at h;by_cases h1:i<n
  .rw[Pi h1]at h;have e:i.toNat=j:=Ps h;exact⟨by rw[seqIndex_of h0 h1,e],by lia,by lia,h1⟩
  .rw[Pl h1]at h;cases h
 .rw[Pl h0]at h;by_cases h1:-(n:Int)<=i
  .rw[Pi h1]at h;have e:(i+n).toNat=j:=Ps h;exact⟨by rw[seqIndex_neg (by lia) h1,e],by lia,h1,by lia⟩
  .rw[Pl h1]at h;cases h
theorem vc {α:Type}{xs:List α}{i:Int}{v:α}(h:tz xs i=some v):∃ j,seqIndex? i xs.length=some j/\xs[j]?=some v/\j<xs.length/\-(xs.length:Int)<=i/\i<xs.length:=by
 unfold tz at h;cases e:EE xs.length i with
 |none=>rw[e]at h;cases h
 |some j=>rw[e]at h;obtain⟨h1,h2,h3,h4⟩:=CF e;exact⟨j,h1,h,h2,h3,h4⟩
theorem fq {α:Type}{xs:List α}{j:Nat}{v:α}(h:xs[j]?=some v):tz xs (j:Int)=some v:=by grind [EE,tz]
def CG (b:Expr):Prop:=∀ o i,subscripted b false o i=operate [o,i] (getItem o i)
def Li (X:Cx)(r:R2):Prop:=
 ∀(value slice:Expr)(ai:List (Addr×Obj))(s:Tn)(σ:St)(H:Hp)(x y:V)(v u:Tq)(Q:VK),Inv X ai σ H s->RelV x v->RelV y u->r x y H Q->
  subscripted slice false v u=operate [v,u] (getItem v u)->wpAny (model X.prog X.w) X.A (subscriptTail value slice v u) (EP X ai σ Q) X.xe s
def FI (X:Cx)(id:String)(r:V->List V->Hp->VK->Prop):Prop:=
 ∀(ai:List (Addr×Obj))(s:Tn)(σ:St)(H:Hp)(x:V)(xs:List V)(v:Tq)(us:List Tq)(Q:VK),Inv X ai σ H s->RelV x v->Vals xs us->r x xs H Q->
  wpAny (model X.prog X.w) X.A (call (.builtin id) (v::us)) (EP X ai σ Q) X.xe s
section
variable {X:Cx}
theorem aI (hr:Li X r)(ha:PE X a ta)(hb:PE X b tb)(hs:CG b):PE X (.Subscript a b pos) (aX r ta tb):=by intro ai s σ H Q I h;exact Subscript_ (Fv ha hb I h fun v u s2 x y H2 I2 rx ry q=>hr a b ai s2 σ H2 x y v u Q I2 rx ry q (hs _ _))
def e9 (K:To):R2:=fun x y H Q=>∃ p xs i v,x=.ref p/\y=.int i/\SqL K H p xs/\tz xs i=some v/\Q v H
def gT (K:To):R2:=fun x y H Q=>∃ p xs i v,x=.ref p/\y=.int i/\SqT K H p xs/\tz xs i=some v/\Q v H
theorem bz:Li X (e9 X.K):=by
 intro value slice ai s σ H x y v u Q I rx ry h hs;obtain⟨p,xs,i,z,rfl,rfl,hq,he,q⟩:=h;cases rx;obtain⟨t,rfl⟩:=ry;obtain⟨its,r,pl,hz⟩:=I.list hq;obtain⟨j,h1,h2,h3,h4,h5⟩:=vc he;obtain⟨w,ew,rw'⟩:=r.get h2;have hl:=r.length;have hn:=oZ;have fin:EP X ai σ Q w s:=⟨z,H,I,rw',q⟩;by_cases h0:0<=i
 .have hj:i.toNat=j:=by rw[seqIndex_of h0 h5]at h1;exact Ps h1
  exact item_listR pl.isList h0 (by lia) (by rw[hj];simpa using ew) fin hs
 .have hj:(i+(its.toArray.size:Int)).toNat=j:=by rw[seqIndex_neg (by lia) h4]at h1;rw[O7,<- hl];exact Ps h1
  exact subscriptTail_builtinR (x:=w) pl.isList.typeIs slot_list_getitem.lookup
   (wpAny_getItem_list_neg (Q:=fun r s'=>r=w/\EP X ai σ Q r s') pl.isList (by lia) (by rw[O7]<;>lia) (by lia) (by rw[hj];simpa using ew) ⟨rfl,fin⟩) hs
theorem aH:Li X (gT X.K):=by
 intro value slice ai s σ H x y v u Q I rx ry h hs;obtain⟨p,xs,i,z,rfl,rfl,hq,he,q⟩:=h;cases rx;obtain⟨t,rfl⟩:=ry;obtain⟨its,r,pl,hz⟩:=I.tuple hq;obtain⟨j,h1,h2,h3,h4,h5⟩:=vc he;obtain⟨w,ew,rw'⟩:=r.get h2;have hl:=r.length;have hn:=oZ;have fin:EP X ai σ Q w s:=⟨z,H,I,rw',q⟩;exact subscriptTail_builtinR (x:=w) pl.typeIs slot_tuple_getitem.lookup
  (getItem_tuple (j:=j) (Q:=fun r s'=>r=w/\EP X ai σ Q r s') pl (by lia) (by lia) (by rw[O7,<- hl];exact h1) (by simpa using ew) ⟨rfl,fin⟩) hs
theorem o6 (lo hi:Option Int)(n:Nat):(sliceBounds lo hi none n).1=((HT.sIx n 0 lo:Nat):Int)/\(sliceBounds lo hi none n).2.1=((HT.sIx n n hi:Nat):Int)/\(sliceBounds lo hi none n).2.2=1:=by
 refine⟨?_,?_,rfl⟩
 .cases lo with
  |none=>simp[sliceBounds,HT.sIx]
  |some i=>
   simp only[sliceBounds,HT.sIx,Option.getD_none,show(1:Int)>0 by decide,RB]
   grind
 .cases hi with
  |none=>simp[sliceBounds,HT.sIx]
  |some i=>
   simp only[sliceBounds,HT.sIx,Option.getD_none,show(1:Int)>0 by decide,RB]
   grind
theorem nB (its:List Tq)(lo hi:Option Int):slicePick its.toArray lo hi none=((its.drop (HT.sIx its.length 0 lo)).take (HT.sIx its.length its.length hi-HT.sIx its.length 0 lo)).toArray:=by obtain⟨h1,h2,h3⟩:=o6 lo hi its.toArray.size;unfold slicePick;rw[h1,h2,h3];simp only[sliceRange_one,pick_run,O7]<;>rfl
def o7 (K:To):V->Option Int->Option Int->Hp->VK->Prop:=fun x lo hi H Q=>∃ a xs,x=.ref a/\SqL K H a xs/\∀ p,H p=none->Q (.ref p) (upd H p (.lst (cS xs lo hi)))
theorem gg:Ii X (o7 X.K):=by intro ai s σ H x v vl vu lo hi sl Q I rx hs pl pu h;obtain⟨a,xs,rfl,hx,q⟩:=h;cases rx;obtain⟨its,r,ht,hz⟩:=I.list hx;have bL:=r.length;refine⟨"list",_,slot_list_getitem.lookup,ht.isList.typeIs,?_⟩;refine wpAny_getItem_list_slice ht.isList hs pl pu .none (by simp) ?_ (by rw[O7]<;>lia);rw[nB,<- bL];refine⟨.ref s.heap.objs.size,_,I.laid (t':=s.toks) (o:=.lst (cS xs lo hi)) (fun b ob q=>OZ _ q) (O0 _) ?_,rfl,q _ (I.be.fresh (O0 _))⟩;exact⟨Pu (gS xs lo hi) hz,_,0,(r.drop (HT.sIx xs.length 0 lo)).take (HT.sIx xs.length xs.length hi-HT.sIx xs.length 0 lo),Pc _ rfl⟩
theorem o8:cm X (.builtin "len") (fun xs H Q=>∃ p ys,xs=[.ref p]/\(SqL X.K H p ys\/SqT X.K H p ys)/\Q (.int ys.length) H):=by
 intro ai s σ H xs us Q I r h;obtain⟨p,ys,rfl,hq,q⟩:=h;obtain⟨u,rfl,rx⟩:=eZ r;cases rx;have hn:=oZ;rcases hq with hq|hq
 .obtain⟨its,r',pl,hz⟩:=I.list hq;have bL:=r'.length;exact Calls.call_len_list pl.isList (by simp only[O7]<;>lia) ⟨.int ys.length,H,I.tok _,⟨s.toks+1,by rw[O7,bL]⟩,q⟩
 .obtain⟨its,r',pl,hz⟩:=I.tuple hq;have bL:=r'.length;exact len_tuple pl (by simp only[O7]<;>lia) ⟨.int ys.length,H,I.tok _,⟨s.toks+1,by rw[O7,bL]⟩,q⟩
theorem o9:cm X (.type "list") (fun xs H Q=>∃ p ys,xs=[.ref p]/\(SqL X.K H p ys\/SqT X.K H p ys)/\∀ l,H l=none->Q (.ref l) (upd H l (.lst ys))):=by
 intro ai s σ H xs us Q I r h;obtain⟨p,ys,rfl,hq,q⟩:=h;obtain⟨u,rfl,rx⟩:=eZ r;cases rx;have fin:∀(its:List Tq),Vals ys its->ys.length<=sizeLine->∀(h':Heap)(c':Nat),(∀ b o',s.heap.get? b=some o'->h'.get? b=some o')->
  h'.get? s.heap.objs.size=some { cls:=.type "list",dict:=none,data:=.seq its.toArray c',slots:=#[] }->EP X ai σ Q (.ref s.heap.objs.size) { s with heap:=h' }:=fun its r' hz h' c' kp e=>
  ⟨.ref s.heap.objs.size,_,I.laid (t':=s.toks) kp (O0 _) (show ObjOk X.prog X.w _ h' _ (.lst ys) from⟨hz,its,c',r',e⟩),rfl,q _ (I.be.fresh (O0 _))⟩
 rcases hq with hq|hq
 .obtain⟨its,r',pl,hz⟩:=I.list hq;have bL:=r'.length;obtain⟨o,ho,hc,n,hd⟩:=pl.isList;exact call_list_seq p (.inl rfl) ho hc hd (fun h' c' kp e=>fin its r' hz h' c' kp e) (by simp only[O7]<;>lia)
 .obtain⟨its,r',pl,hz⟩:=I.tuple hq;have bL:=r'.length;obtain⟨o,ho,hc,n,hd⟩:=pl;exact call_list_seq p (.inr rfl) ho hc hd (fun h' c' kp e=>fin its r' hz h' c' kp e) (by simp only[O7]<;>lia)
def Ij (K:To)(T:String)(x:V)(H:Hp):Prop:=match x with
 | .str _=>T="str"
 | .int _=>T="int"
 | .ref p=>(T="list"/\∃ xs,SqL K H p xs)\/(T="tuple"/\∃ o,K.lookup p=some o/\o.cls=.type "tuple"/\o.dict=none)\/
  (T="dict"/\((∃ kvs,H p=some (.dK kvs))\/∃ kvs,H p=some (.dT kvs)))\/(T="set"/\∃ S n,H p=some (.set S n))
 |_=>False
theorem yZ (I:Inv X ai σ H s)(r:RelV x v)(ty:Ij X.K T x H) :
 s.TypeIs v T/\∀ a,v=.ref a->∃ ob,s.heap.get? a=some ob/\ob.dict=none:=by
 cases x with
 |str z=>obtain⟨t,rfl⟩:=r;cases (show T="str" from ty);exact⟨typeIs_str s z t,fun _ e=>nomatch e⟩
 |int i=>obtain⟨t,rfl⟩:=r;cases (show T="int" from ty);exact⟨typeIs_int s i t,fun _ e=>nomatch e⟩
 |ref p=>
  cases r;rcases ty with⟨rfl,xs,hq⟩|⟨rfl,o,hk,hc,hd⟩|⟨rfl,hk⟩|⟨rfl,S,n,hk⟩
  .obtain⟨its,_,pl,_⟩:=I.list hq;refine⟨pl.isList.typeIs,fun a e=>?_⟩;cases e;obtain⟨o,n,e,c,hd,_⟩:=pl;exact⟨o,e,hd⟩
  .refine⟨⟨o,I.kC p o hk,hc⟩,fun a e=>?_⟩;cases e;exact⟨o,I.kC _ o hk,hd⟩
  .have z:∃ o,s.heap.get? p=some o/\o.ExactDict:=by
    rcases hk with⟨kvs,hk⟩|⟨kvs,hk⟩
    .obtain⟨_,_,_,_,o,_,_,e,ex,_⟩:=I.be p _ hk;exact⟨o,e,ex⟩
    .obtain⟨_,_,_,_,o,_,_,e,ex,_⟩:=I.be p _ hk;exact⟨o,e,ex⟩
   obtain⟨o,e,ex⟩:=z;refine⟨⟨o,e,ex.1⟩,fun a e2=>?_⟩;cases e2;exact⟨o,e,ex.2.1⟩
  .obtain⟨o,_,_,_,e,ex,_⟩:=I.be p _ hk;refine⟨⟨o,e,ex.1⟩,fun a e2=>?_⟩;cases e2;exact⟨o,e,ex.2.1⟩
 |_=>exact False.elim ty
noncomputable def CH (K:To)(T:String)(r:V->List V->Hp->VK->Prop)(to:TE):TE:=fun σ H Q=>to σ H fun x H1=>Ij K T x H1/\r x [] H1 Q
noncomputable def tD (K:To)(T:String)(r:V->List V->Hp->VK->Prop)(to:TE)(t:TA):TE:=fun σ H Q=>to σ H fun x H1=>Ij K T x H1/\t σ H1 fun xs H2=>r x xs H2 Q
variable {o e:Expr}{es:List Expr}{to:TE}{t:TA}{name:Str}{apos cpos:Pos}{T id:String}{r:V->List V->Hp->VK->Prop}
theorem tE (pa:PlainAttrs T) (slot:Slot T name id) (hty:typeOf (.builtin id)=pure (.type "method_descriptor")) (hm:FI X id r) (ho:PE X o to)
 (hbase:autoParam (attributeBase o name X.env (eval o X.env)=eval o X.env) TB._auto_1) (hline:autoParam ((apos.endLine==cpos.line)=true) TB._auto_1):PE X (.Call (.Attribute o name apos) [] [] cpos) (CH X.K T r to):=by
 intro ai s σ H Q I h;refine Sk hbase hline (bX (ho ai s σ H _ I h) fun v s1 ⟨x,H1,I1,r1,ty,q1⟩=>?_);obtain⟨h1,h2⟩:=yZ I1 r1 ty;exact⟨T,id,pa,slot,hty,h1,h2,QS rfl (PySem.evalArgs_none (hm ai s1 σ H1 x [] v [] Q I1 r1 .nil q1))⟩
theorem cX (pa:PlainAttrs T) (slot:Slot T name id) (hty:typeOf (.builtin id)=pure (.type "method_descriptor")) (hm:FI X id r) (ho:PE X o to) (ha:PA X (e::es) t)
 (hbase:autoParam (attributeBase o name X.env (eval o X.env)=eval o X.env) TB._auto_1)
 (hfew:autoParam (((backTo cpos (starEach (e::es) X.env)).all (fun x=>!x.1)&&(backToKw cpos (keywordEach [] X.env)).all (fun x=>x.1.isSome)
   && decide ((e::es).length+([]:List Keyword).length+(if ([]:List Keyword).isEmpty then 0 else 1)<30))=true) TB._auto_1)
 (hline:autoParam ((apos.endLine==cpos.line)=true) TB._auto_1) (hs:autoParam (starEach (e::es) X.env=(false,eval e X.env)::starEach es X.env) TB._auto_1) (hplain:autoParam (bT X cpos es) TB._auto_1) :
 PE X (.Call (.Attribute o name apos) (e::es) [] cpos) (tD X.K T r to t):=by
 intro ai s σ H Q I h;refine wpAny_Call_method_late hbase hfew hline rfl (bX (ho ai s σ H _ I h) fun v s1 ⟨x,H1,I1,r1,ty,q1⟩=>?_);obtain⟨h1,h2⟩:=yZ I1 r1 ty;refine⟨T,id,pa,slot,hty,h1,h2,?_⟩;have hA:=ha cpos ai s1 σ H1 _ I1 q1;rw[hs]at hA ⊢;refine QS (by show(false || (backTo cpos (starEach es X.env)).any (·.1))=false;rw[hplain]<;>rfl) (Rk ?_);exact bX hA fun us s2 ⟨vs,H2,I2,r2,q2⟩=>hm ai s2 σ H2 x vs v us Q I2 r1 r2 q2
end
def Lj (X:Cx)(id:String)(r:V->List V->Hp->VK->Prop):Prop:=
 ∀(ai:List (Addr×Obj))(s:Tn)(σ:St)(H:Hp)(x:V)(xs:List V)(v:Tq)(us:List Tq)(Q:VK),Inv X ai σ H s->RelV x v->Vals xs us->r x xs H Q->
  wpAny (model X.prog X.w) X.A (call (.builtin id) (v::us)) (EP X ai σ Q) X.xe s
theorem Vals.one {x:V}{us:List Tq}(h:Vals [x] us):∃ u,us=[u]/\RelV x u:=eZ h
theorem Vals.zero:∀{us:List Tq},Vals [] us->us=[]
 |_,.nil=>rfl
theorem Vals.dropLast (h:Vals xs us):Vals xs.dropLast us.dropLast:=by
 induction h with
 |nil=>exact .nil
 |cons r t ih=>
  cases t with
  |nil=>exact .nil
  |cons q t'=>exact .cons r ih
theorem tF {α:Type}(l:List α):l.eraseIdx (l.length-1)=l.dropLast:=by
 induction l with
 |nil=>rfl
 |cons a r ih=>
  cases r with
  |nil=>rfl
  |cons b r=>
   have e:(a::b::r).length-1=((b::r).length-1)+1:=by have h1:(a::b::r).length=r.length+2:=rfl;have h2:(b::r).length=r.length+1:=rfl;lia
   rw[e,List.eraseIdx_cons_succ,ih]
   all_goals rfl
section
theorem Inv.HB {its its':List Tq}{f:Array Tq->Array Tq}(I:Inv X ai σ H s)(hH:H l=some (.lst xs))
 (e:s.heap.get? l=some { cls:=.type "list",data:=.seq its.toArray n }) (hf:f its.toArray=its'.toArray) (hv:Vals ys its') (hz:ys.length<=sizeLine) :
 Inv X ai σ (upd H l (.lst ys)) { s with heap:=s.heap.update l (Obj.mapSeq f),toks:=t' }:=by
 have q:=PySem.IsL.update e f;rw[hf]at q;refine I.write (x:=l) (e:=l) (by rw[hH];exact trivial) (.inl rfl) (fun b' u hb hu=>(PR s.heap (Obj.mapSeq f) (Qn hb)).trans hu) ⟨_,q⟩ ?_;exact⟨hz,its',_,hv,q⟩
theorem Inv.MM (I:Inv X ai σ H s)(hv:Vals ys its)(hz:ys.length<=sizeLine) :
 Inv X ai σ (upd H s.heap.objs.size (.lst ys)) { s with heap:=s.heap.push { cls:=.type "list",data:=.seq its.toArray },toks:=t' }:=
 I.laid (fun _ _ q=>OZ _ q) (O0 _) ⟨hz,its,0,hv,Pc _ rfl⟩
theorem Inv.fresh (I:Inv X ai σ H s):H s.heap.objs.size=none:=I.be.fresh (O0 _)
theorem Inv.yu (I:Inv X ai σ H s) (hH:H l=some (.lst xs)):xs.length<=sizeLine/\∃(its:List Tq)(n:Nat),Vals xs its/\xs.length=its.length/\s.heap.get? l=some { cls:=.type "list",data:=.seq its.toArray n }:=by obtain⟨z,its,n,r,e⟩:=I.be l _ hH;exact⟨z,its,n,r,r.length,e⟩
theorem y8 (h:n<=sizeLine):Builtin.List.listTooLong n=false:=by unfold Builtin.List.listTooLong;exact Pp (by lia)
end
section
def cB:V->List V->Hp->VK->Prop:=fun x vs H Q=>∃ l xs y,x=.ref l/\vs=[y]/\H l=some (.lst xs)/\xs.length<sizeLine/\Q .bJ (upd H l (.lst (xs++[y])))
theorem bN:Lj X "list.append" cB:=by intro ai s σ H x vs v us Q I rx rv h;obtain⟨l,xs,y,rfl,rfl,hH,hz,q⟩:=h;cases rx;obtain⟨u,rfl,ru⟩:=rv.one;obtain⟨z,its,n,r,hl,e⟩:=I.yu hH;refine call_meets F.slot_list_append ⟨_,e,rfl⟩ F.entry_list_append (F.args_list_append_2 _ _) (PySem.list_append l its.toArray n u (by rw[O7];lia)) ⟨e,?_⟩;refine⟨.bJ,_,I.HB (its':=its++[u]) hH e (by simp) (r.append (.cons ru .nil)) ?_,rfl,q⟩;rw[O6,PQ];lia
def vd:V->List V->Hp->VK->Prop:=fun x vs H Q=>∃ l b xs zs,x=.ref l/\vs=[.ref b]/\H l=some (.lst xs)/\H b=some (.lst zs)/\xs.length+zs.length<=sizeLine/\Q .bJ (upd H l (.lst (xs++zs)))
theorem wu:Lj X "list.extend" vd:=by
 intro ai s σ H x vs v us Q I rx rv h;obtain⟨l,b,xs,zs,rfl,rfl,hH,hB,hz,q⟩:=h;cases rx;obtain⟨u,rfl,ru⟩:=rv.one;cases ru;obtain⟨z,its,n,r,hl,e⟩:=I.yu hH;obtain⟨z2,its2,n2,r2,hl2,e2⟩:=I.yu hB;have hsz:its.toArray.size+its2.toArray.size<=sizeLine:=by rw[O7,O7];lia
 have hlong:¬ (!its.toArray.isEmpty&&Builtin.List.listTooLong (its.toArray.size+its2.toArray.size))=true:=by rw[y8 hsz,RZ];exact PB
 refine call_meets F.slot_list_extend ⟨_,e,rfl⟩ F.entry_list_extend (F.args_list_extend_2 _ _)
  (AutoSeq1.list_extend_list_list_0 l its.toArray n b its2.toArray n2 hlong (by rw[O7];lia) (by lia)) ⟨e,e2,?_⟩
 refine⟨.bJ,_,I.HB (its':=its++its2) hH e (by simp) (r.append r2) ?_,rfl,q⟩;rw[O6];lia
def Ik:V->List V->Hp->VK->Prop:=fun x vs H Q=>∃ l xs y,x=.ref l/\vs=[]/\H l=some (.lst xs)/\xs[xs.length-1]?=some y/\Q y (upd H l (.lst xs.dropLast))
theorem FJ:Lj X "list.pop" Ik:=by
 intro ai s σ H x vs v us Q I rx rv h;obtain⟨l,xs,y,rfl,rfl,hH,hy,q⟩:=h;cases rx;have hus:=rv.zero;subst hus;obtain⟨z,its,n,r,hl,e⟩:=I.yu hH;obtain⟨u,hu,ru⟩:=r.get hy;have hy':its.toArray[its.toArray.size-1]?=some u:=by show its.toArray[its.length-1]?=some u;rw[<- PN,<- hl];exact hu
 refine call_meets F.slot_list_pop ⟨_,e,rfl⟩ F.entry_list_pop (F.args_list_pop_1 _) (MeetsSeq.list_pop_last l its.toArray n u hy' (by rw[O7];lia)) ⟨e,?_⟩;refine⟨y,_,I.HB (its':=its.dropLast) hH e ?_ r.dropLast ?_,ru,q⟩
 .show its.toArray.eraseIdxIfInBounds (its.toArray.size-1)=its.dropLast.toArray;rw[O7,List.eraseIdxIfInBounds_toArray,tF]
 .rw[List.length_dropLast];lia
def tG:R2:=fun x y H Q=>∃ l b xs zs,x=.ref l/\y=.ref b/\H l=some (.lst xs)/\H b=some (.lst zs)/\xs.length+zs.length<=sizeLine/\∀ p,H p=none->Q (.ref p) (upd H p (.lst (xs++zs)))
theorem lM:jk X (binaryOp .Add) tG:=by
 intro ai s σ H x y v u Q I rx ry h;obtain⟨l,b,xs,zs,rfl,rfl,hH,hB,hz,q⟩:=h;cases rx;cases ry;obtain⟨z,its,n,r,hl,e⟩:=I.yu hH;obtain⟨z2,its2,n2,r2,hl2,e2⟩:=I.yu hB;refine PySem.P.add_list e e2 ?_ (by rw[O7,O7];lia);have ea:its.toArray++its2.toArray=(its++its2).toArray:=by simp
 rw[ea];exact⟨.ref _,_,I.MM (t':=s.toks) (r.append r2) (by rw[O6];lia),rfl,q _ I.fresh⟩
end
section
variable {κ:Type}[DecidableEq κ]
noncomputable def cw (kvs:List (κ×V))(k:κ):Option V:=(kvs.find? fun kv=>decide (kv.1=k)).map (·.2)
noncomputable def bU (kvs:List (κ×V))(k:κ)(v:V):List (κ×V):=if (kvs.any fun kv=>decide (kv.1=k))=true then kvs.map (fun kv=>if kv.1=k then (kv.1,v) else kv) else kvs++[(k,v)]
noncomputable def iP (kvs:List (κ×V))(k:κ):List (κ×V):=kvs.filter fun kv=>decide (kv.1≠k)
theorem cY {p:κ×V}(e:p.1=k):cw (p::r) k=some p.2:=by simp[cw,Q_,e]
theorem cZ {p:κ×V}(e:¬ p.1=k):cw (p::r) k=cw r k:=by simp[cw,Q_,e]
theorem fU (k:κ):∀ kvs:List (κ×V),(kvs.any fun kv=>decide (kv.1=k))=(cw kvs k).isSome
 | []=>rfl
 |p::r=>by
  rw[RP];by_cases e:p.1=k
  .simp only[cY e,O_ e,Bool.true_or,Option.isSome_some]
  .rw[cZ e,Pp e,Bool.false_or];exact fU k r
theorem cO (kvs:List (κ×V))(k:κ)(v:V):(bU kvs k v).length<=kvs.length+1:=by grind [bU]
theorem gU {kvs:List (κ×V)}(v:V)(h:cw kvs k=none):bU kvs k v=kvs++[(k,v)]:=by unfold bU;rw[fU,h];exact Pl (by decide)
theorem RelO.eU (r:RelO o u):o.isSome=u.isSome:=by
 cases o with
 |none=>cases u with
  |none=>rfl
  |some _=>exact(show False from r).elim
 |some _=>cases u with
  |none=>exact(show False from r).elim
  |some _=>rfl
theorem RelO.getD (r:RelO o u)(rd:RelV d d'):RelV (o.getD d) (u.getD d'):=by
 cases o with
 |none=>cases u with
  |none=>exact rd
  |some _=>exact(show False from r).elim
 |some _=>cases u with
  |none=>exact(show False from r).elim
  |some _=>exact r
theorem KV.val {kvs:List (κ×V)}(r:KV kvs vs)(k:κ):RelO (cw kvs k) (valueAt vs k):=by
 unfold KV at r;induction r with
 |nil=>exact True.intro
 | @cons p q ps qs h t ih=>
  obtain⟨h1,h2⟩:=h;by_cases e:p.1=k
  .have e':q.1=k:=h1.symm.trans e;have b:valueAt (q::qs) k=some q.2:=by simp[valueAt,Q_,e']
   rw[cY e,b];exact h2
  .have e':¬ q.1=k:=fun z=>e (h1.trans z);have b:valueAt (q::qs) k=valueAt qs k:=by simp[valueAt,Q_,e']
   rw[cZ e,b];exact ih
theorem KV.any (r:KV kvs vs)(k:κ):(kvs.any fun kv=>decide (kv.1=k))=vs.any fun kv=>decide (kv.1=k):=by
 unfold KV at r;induction r with
 |nil=>rfl
 |cons h t ih=>rw[RP,RP,ih,h.1]
theorem KV.HG (r:KV kvs vs)(k:κ)(ry:RelV y u) :
 KV (kvs.map fun kv=>if kv.1=k then (kv.1,y) else kv) (vs.map fun kv=>if kv.1=k then (kv.1,u) else kv):=by
 unfold KV at r ⊢;induction r with
 |nil=>exact .nil
 | @cons p q ps qs h t ih=>
  rw[Ph,Ph];refine .cons ?_ ih
  grind
theorem KV.put (r:KV kvs vs)(k:κ)(ry:RelV y u):KV (bU kvs k y) (stored vs k u):=by
 unfold bU stored;rw[r.any k];by_cases e:(vs.any fun kv=>decide (kv.1=k))=true
 .rw[Pi e,Pi e];exact r.HG k ry
 .rw[Pl e,Pl e];exact Paired.snoc r ⟨rfl,ry⟩
theorem KV.drop (r:KV kvs vs)(k:κ):KV (iP kvs k) (without vs k):=by
 unfold KV at r ⊢;unfold iP without;induction r with
 |nil=>exact .nil
 | @cons p q ps qs h t ih=>
  obtain⟨h1,h2⟩:=h;rw[R_,R_];by_cases e:p.1=k
  .grind
  .have e':¬ q.1=k:=fun z=>e (h1.trans z);have a:decide (p.1≠k)=true:=by simp[e]
   have b:decide (q.1≠k)=true:=by simp[e']
   rw[Pi a,Pi b];exact .cons ⟨h1,h2⟩ ih
theorem KV.length (r:KV kvs vs):kvs.length=vs.length:=Rt r
theorem y9 (kvs:List (κ×V))(k:κ):(iP kvs k).length<=kvs.length:=QJ _ _
end
theorem iQ (r:RelV (kV k) u):(aV P w).is k u=true:=by
 cases k with
 |inl i=>obtain⟨t,e⟩:=(show ∃ t,u=Value.int i t from r);subst e;exact qA P w i t
 |inr x=>obtain⟨t,e⟩:=(show ∃ t,u=Value.str x t from r);subst e;exact qB P w x t
theorem oj:∀{ks:List bC}{us:List Tq},Vals (ks.map kV) us->ItemsAre (aV P w) ks us
 | [],_,r=>by rw[Rr]at r;cases r;exact .nil
 |k::ks,_,r=>by
  rw[Ph]at r;cases r with
  |cons h t=>exact .cons (iQ h) (oj t)
abbrev KT (H:Hp):List (List bC×V)->List (List bC×Addr×Tq)->Prop:=Paired fun p q=>p.1=q.1/\H q.2.1=some (.tup (p.1.map kV))/\RelV p.2 q.2.2
theorem KT.val {H:Hp}(r:KT H kvs xs)(k:List bC):RelO (cw kvs k) ((atKey xs k).map (·.2)):=by
 induction r with
 |nil=>exact True.intro
 | @cons p q ps qs h t ih=>
  obtain⟨h1,_,h2⟩:=h;by_cases e:p.1=k
  .have e':q.1=k:=h1.symm.trans e;have b:atKey (q::qs) k=some q.2:=by simp[atKey,Q_,e']
   rw[cY e,b];exact h2
  .have e':¬ q.1=k:=fun z=>e (h1.trans z);have b:atKey (q::qs) k=atKey qs k:=by simp[atKey,Q_,e']
   rw[cZ e,b];exact ih
theorem KT.HG (r:KT H kvs xs)(k:List bC)(ry:RelV y u) :
 KT H (kvs.map fun kv=>if kv.1=k then (kv.1,y) else kv) (xs.map (putAt k u)):=by
 induction r with
 |nil=>exact .nil
 | @cons p q ps qs h t ih=>
  rw[Ph,Ph];refine .cons ?_ ih;obtain⟨h1,h2,h3⟩:=h;unfold putAt
  grind
theorem KT.put (r:KT H kvs xs)(k:List bC)(hb:H b=some (.tup (k.map kV)))(ry:RelV y u) :
 KT H (bU kvs k y) (storedH xs k b u):=by
 have e:(kvs.any fun kv=>decide (kv.1=k))=(atKey xs k).isSome:=by rw[fU,(r.val k).eU,S_]
 unfold bU storedH;rw[e];by_cases q:(atKey xs k).isSome=true
 .rw[Pi q,Pi q];exact r.HG k ry
 .rw[Pl q,Pl q];exact Paired.snoc r ⟨rfl,hb,ry⟩
theorem KT.keeps (r:KT H kvs xs)(ht:∀ b ys,H b=some (.tup ys)->H' b=some (.tup ys)):KT H' kvs xs:=Paired.Hx r fun _ _ z=>⟨z.1,ht _ _ z.2.1,z.2.2⟩
section
theorem EF (ok:HOk P w H h)(e:Rd H a u):ObjOk P w H h a u:=e.ok ok
theorem jm (ok:HOk P w H h)(e:Rd H a (.dK kvs)):kvs.length<=sizeLine/\(a==sysModules)=false/\∃ vs,KV kvs vs/\h.DictOf (aV P w) a vs:=show ObjOk P w H h a (.dK kvs) from EF ok e
theorem qP (ok:HOk P w H h)(e:H a=some (.dK kvs)):kvs.length<=sizeLine/\(a==sysModules)=false/\∃ vs,KV kvs vs/\h.DictOf (aV P w) a vs:=jm ok (.inl e)
theorem dP (ok:HOk P w H h)(e:H a=some (.tup (ks.map kV))):(tupleKind (aV P w)).is h ks a:=by obtain⟨_,its,r,o,h1,h2,n,h3⟩:=(show ObjOk P w H h a (.tup (ks.map kV)) from ok a _ e);exact⟨o,its.toArray,n,h1,h2,h3,by simpa using oj r⟩
theorem kI (ok:HOk P w H h)(e:Rd H a (.dT kvs)):kvs.length<=sizeLine/\(a==sysModules)=false/\
 ∃ xs,KT H kvs xs/\h.DictOfH (tupleKind (aV P w)) a xs:=by
 obtain⟨z,y,xs,r,o,es,ep,h1,h2,h3,h4,h5⟩:=(show ObjOk P w H h a (.dT kvs) from EF ok e);refine⟨z,y,xs,r,o,es,ep,h1,h2,h3,h4,fun x hx=>?_,h5⟩;have all:∀{l:List (List bC×V)}{m:List (List bC×Addr×Tq)},KT H l m->∀ x∈m,(tupleKind (aV P w)).is h x.1 x.2.1:=by
  intro l m q;induction q with
  |nil=>intro x hx;exact nomatch hx
  | @cons p q ps qs hq t ih=>grind [dP]
 exact all r x hx
theorem EG (ok:HOk P w H h)(e:H a=some (.dT kvs)):kvs.length<=sizeLine/\(a==sysModules)=false/\
 ∃ xs,KT H kvs xs/\h.DictOfH (tupleKind (aV P w)) a xs:=kI ok (.inl e)
end
def DGet (H:Hp)(a:Addr)(y:V)(r:Option V):Prop:=(∃ kvs k,Rd H a (.dK kvs)/\y=kV k/\r=cw kvs k)\/∃ kvs k b,Rd H a (.dT kvs)/\y=.ref b/\H b=some (.tup (k.map kV))/\r=cw kvs k
def DPut (H:Hp)(a:Addr)(y v:V)(H':Hp):Prop:=
 (∃ kvs k,H a=some (.dK kvs)/\y=kV k/\kvs.length<sizeLine/\H'=upd H a (.dK (bU kvs k v)))\/
 ∃ kvs k b,H a=some (.dT kvs)/\y=.ref b/\H b=some (.tup (k.map kV))/\kvs.length<sizeLine/\H'=upd H a (.dT (bU kvs k v))
theorem DGet.k {kvs:List (bC×V)}{k:bC}(e:H a=some (.dK kvs)):DGet H a (kV k) (cw kvs k):=.inl ⟨kvs,k,.inl e,rfl,rfl⟩
theorem DGet.t {kvs:List (List bC×V)}{k:List bC}(e:H a=some (.dT kvs))(eb:H b=some (.tup (k.map kV))):DGet H a (.ref b) (cw kvs k):=.inr ⟨kvs,k,b,.inl e,rfl,eb,rfl⟩
theorem DPut.k {kvs:List (bC×V)}{k:bC}{v:V}(e:H a=some (.dK kvs))(hl:kvs.length<sizeLine):DPut H a (kV k) v (upd H a (.dK (bU kvs k v))):=.inl ⟨kvs,k,e,rfl,hl,rfl⟩
theorem DPut.t {kvs:List (List bC×V)}{k:List bC}{v:V}(e:H a=some (.dT kvs))(eb:H b=some (.tup (k.map kV)))(hl:kvs.length<sizeLine) :
 DPut H a (.ref b) v (upd H a (.dT (bU kvs k v))):=.inr ⟨kvs,k,b,e,rfl,eb,hl,rfl⟩
section
theorem Inv.big (I:Inv X ai σ H s):sysModules<s.heap.objs.size:=by have h:mainGlobals<s.heap.objs.size:=(I.mod.glob.keeps I.bk).lt;exact Nat.lt_trans (by decide) h
theorem ww (hu:A.units+1<cLine)(I:Inv X ai σ H s)(g:DGet H a y (some v))(ry:RelV y u)(h:∀ w' s',Inv X ai σ H s'->RelV v w'->Q w' s') :
 wpAny (model X.prog X.w) A (getItem (.ref a) u) Q E s:=by
 rcases g with⟨kvs,k,e,ey,l⟩|⟨kvs,k,b,e,ey,eb,l⟩
 .subst ey;obtain⟨z,hd,vs,rel,dd⟩:=jm I.be e;obtain⟨w',hw,rw'⟩:=RelO.some_of (v:=v) (o:=valueAt vs k) (by rw[l];exact rel.val k);exact wpAny_getItem_of (iQ ry) dd.mapOf hw (h w' _ (I.tok _) rw')
 .subst ey;cases (show u=Value.ref b from ry);obtain⟨z,hd,xs,rel,dd⟩:=kI I.be e;obtain⟨w',hw,rw'⟩:=RelO.some_of (v:=v) (o:=(atKey xs k).map (·.2)) (by rw[l];exact rel.val k);obtain⟨p,hp,hp2⟩:=PU.mp hw;refine wpAny_getItem_heap (Rc hu) (dP I.be eb) dd hp ?_;rw[hp2];exact h w' _ (I.tok _) rw'
theorem Ll (hu:A.units+1<cLine)(I:Inv X ai σ H s)(g:DGet H a y o)(ry:RelV y u)(h:∀ s',Inv X ai σ H s'->Q (.bool o.isSome) s') :
 wpAny (model X.prog X.w) A (compareOp .In u (.ref a)) Q E s:=by
 rcases g with⟨kvs,k,e,ey,l⟩|⟨kvs,k,b,e,ey,eb,l⟩
 .subst ey;obtain⟨z,hd,vs,rel,dd⟩:=jm I.be e;refine wpAny_in_of (iQ ry) hd dd.mapOf ?_;rw[<- (rel.val k).eU,<- l];exact h _ (I.tok _)
 .subst ey;cases (show u=Value.ref b from ry);obtain⟨z,hd,xs,rel,dd⟩:=kI I.be e;refine wpAny_in_heap (Rc hu) (dP I.be eb) hd dd ?_;have q:=(rel.val k).eU;rw[S_]at q;rw[<- q,<- l];exact h _ (I.tok _)
theorem ik (I:Inv X ai σ H s)(mu:HK (H a))(hs:Heap.SameBut a s.heap h')(he:∃ q,h'.get? a=some q)(new:ObjOk X.prog X.w (upd H a ob) h' a ob) :
 Inv X ai σ (upd H a ob) { s with heap:=h',toks:=t' }:=
 I.write (x:=a) (e:=a) mu (.inl rfl) (fun b q hb z=>(hs.2 b hb).trans z) he new
theorem o_ (z:kvs.length<=sizeLine)(hd:(a==sysModules)=false)(rel:KV kvs vs)(dd:h'.DictOf (aV P w) a vs) :
 ObjOk P w H' h' a (.dK kvs):=⟨z,hd,vs,rel,dd⟩
theorem wx (hu:A.units+1<cLine)(I:Inv X ai σ H s)(g:DPut H a y v H')(ry:RelV y u)(rv:RelV v r)(h:∀ s',Inv X ai σ H' s'->Q () s') :
 wpAny (model X.prog X.w) A (setItem (.ref a) u r) Q E s:=by
 rcases g with⟨kvs,k,e,ey,l,eH⟩|⟨kvs,k,b,e,ey,eb,l,eH⟩
 .subst ey eH;obtain⟨z,hd,vs,rel,dd⟩:=qP I.be e;have hz:vs.length<=sizeLine:=by rw[<- rel.length];exact z
  have hl:(bU kvs k v).length<=sizeLine:=by have:=cO kvs k v;lia
  refine wpAny_setItem_pairs (hsz:=hz) (iQ ry) dd fun h' dd' hs=>h _ ?_;have he:∃ q,h'.get? a=some q:=let ⟨q,_,_,hq,_⟩:=dd';⟨q,hq⟩;exact ik I (by rw[e];exact True.intro) hs he (o_ hl hd (rel.put k rv) dd')
 .subst ey eH;cases (show u=Value.ref b from ry);obtain⟨z,hd,xs,rel,dd⟩:=EG I.be e;have hz:xs.length<=sizeLine:=by rw[<- Rt rel];exact z
  have hl:(bU kvs k v).length<=sizeLine:=by have:=cO kvs k v;lia
  refine wpAny_setItem_heap (hsz:=hz) (Rc hu) (dP I.be eb) dd fun h' dd' hs=>h _ ?_;obtain⟨q,es,ep,hq,h2,h3,h4,_,h5⟩:=dd';refine ik I (by rw[e];exact True.intro) hs ⟨q,hq⟩ ⟨hl,hd,_,(rel.put k eb rv).keeps fun c ys ec=>?_,q,es,ep,hq,h2,h3,h4,h5⟩;rw[aA (yC ec e (fun z=>nomatch z))];exact ec
end
section
theorem Il (I:Inv X ai σ H s)(e:H a=some (.dK kvs))(ry:RelV (kV k) u)(l:cw kvs k=some v)(hm:more=[]\/∃ x,more=[x])
 (h:∀ w' s',Inv X ai σ (upd H a (.dK (iP kvs k))) s'->RelV v w'->Q w' s'):wpAny (model X.prog X.w) A (call (.builtin "dict.pop") (.ref a::u::more)) Q E s:=by
 obtain⟨z,hd,vs,rel,dd⟩:=qP I.be e;obtain⟨w',hw,rw'⟩:=RelO.some_of (v:=v) (o:=valueAt vs k) (by rw[<- l];exact rel.val k);have hp:(keyPart u).isSome=true:=by
  cases k with
  |inl i=>obtain⟨t,q⟩:=(show ∃ t,u=Value.int i t from ry);subst q;rfl
  |inr x=>obtain⟨t,q⟩:=(show ∃ t,u=Value.str x t from ry);subst q;rfl
 have ha:argsOk "dict.pop" ⟨.ref a::u::more,[]⟩:=by
  rcases hm with q|⟨x,q⟩
  .subst q;exact PySem.F.args_dict_pop_2 _ _
  .subst q;exact PySem.F.args_dict_pop_3 _ _ _
 refine Sf PySem.F.slot_dict_pop dd.typeIs PySem.F.entry_dict_pop ha (meets_dict_pop_there (aV X.prog X.w) a (iQ ry) more hm hp)
  ⟨vs,w',dd,by rw[<- rel.length];exact z,hw,fun h' dd' hs=>h w' _ ?_ rw'⟩
 have he:∃ q,h'.get? a=some q:=let ⟨q,_,_,hq,_⟩:=dd';⟨q,hq⟩;exact ik I (by rw[e];exact True.intro) hs he (o_ (Pu (y9 kvs k) z) hd (rel.drop k) dd')
end
def Im (i:Expr):Prop:=∀ ov iv,subscripted i false ov iv=operate [ov,iv] (getItem ov iv)
theorem CI {E:Tq->Tn->Prop}{env:Env}{value slice:Expr}{pos:Pos}{T id:String}{Q:Tq->Tn->Prop}
 (hl:typeLookup (.type T) "__getitem__"=pure (some (.builtin id))) (hs:Im slice)
 (h:wpAny (model prog w) A (eval value env) (fun o s₁=>wpAny (model prog w) A (eval slice env) (fun i s₂=>s₂.TypeIs o T/\wpAny (model prog w) A (getItem o i) Q E s₂) E s₁) E s) :
 wpAny (model prog w) A (eval (.Subscript value slice pos) env) Q E s:=by
 refine Subscript_ (QI h (fun o s₁ h₁=>QI h₁ (fun i s₂ h₂=>?_) fun _ _ x=>x) fun _ _ x=>x);obtain⟨hT,h₂⟩:=h₂;unfold subscriptTail;refine KE ?_;rw[getitemInPython_of_ne hT.not_modules];refine KE (wpAny_specialOf hT hl ?_);have fin:wpAny (model prog w) A (subscripted slice false o i) (fun r s₃=>wpAny (model prog w) A (letTemporaryGo value o r >>= fun _=>pure r) Q E s₃) E s₂:=by rw[hs o i];exact wpAny_operating (QI h₂ (fun r s₃ h₃=>KE (wpAny_letTemporaryGo (OY h₃))) fun _ _ x=>x)
 first
  |exact OY (KE fin)
  |exact KE (OY (KE fin))
  |exact KE fin
theorem qQ (I:Inv X ai σ H s) (g:DGet H a y o):s.TypeIs (.ref a) "dict":=by
 rcases g with⟨kvs,k,e,_,_⟩|⟨kvs,k,b,e,_,_,_⟩
 .obtain⟨_,_,vs,_,dd⟩:=jm I.be e;exact dd.typeIs
 .obtain⟨_,_,xs,_,dd⟩:=kI I.be e;exact dd.typeIs
noncomputable def qR (td ty:TE):TE:=fun σ H Q=>td σ H fun x H1=>ty σ H1 fun y H2=>∃ a v,x=.ref a/\DGet H2 a y (some v)/\Q v H2
noncomputable def qS (td ty tv:TE):TS:=fun D σ H=>tv σ H fun v H1=>td σ H1 fun x H2=>ty σ H2 fun y H3=>∃ a H4,x=.ref a/\DPut H3 a y v H4/\D.nx σ H4
section
theorem jn (hu:X.A.units+1<cLine)(ho:PE X o td)(hi:PE X i ty)(hs:Im i):PE X (.Subscript o i pos) (qR td ty):=by intro ai s σ H Q I h;refine CI PySem.F.slot_dict_getitem.lookup hs (bX (ho ai s σ H _ I h) fun u s1 ⟨x,H1,I1,rx,q1⟩=>bX (hi ai s1 σ H1 _ I1 q1) fun iv s2 ⟨y,H2,I2,ry,a,v,ex,g,q2⟩=>?_);subst ex;obtain rfl:u=Value.ref a:=rx;exact⟨qQ I2 g,ww hu I2 g ry fun w' s3 I3 rw'=>⟨v,H2,I3,rw',q2⟩⟩
theorem ve (hu:X.A.units+1<cLine)(ho:PE X o td)(hi:PE X i ty)(hv:PE X value tv)(hs:swapsWith value (some (.Subscript o i pos')) pos.line X.env=pure false) :
 PS X (.Assign [.Subscript o i pos'] value pos) (qS td ty tv):=by
 intro ai s σ H D I h;refine wpAny_Assign_Subscript (bX (hv ai s σ H _ I h) fun r s1 ⟨v,H1,I1,rv,q1⟩=>bX (ho ai s1 σ H1 _ I1 q1) fun u s2 ⟨x,H2,I2,rx,q2⟩=>bX (hi ai s2 σ H2 _ I2 q2) fun iv s3 ⟨y,H3,I3,ry,a,H4,ex,g,q3⟩=>?_) hs;subst ex;obtain rfl:u=Value.ref a:=rx;exact wx hu I3 g ry rv fun s4 I4=>⟨σ,H4,I4,q3⟩
end
theorem qT (h:Heap) (hb:sysModules<h.objs.size):ObjOk P w H (h.push { cls:=.type "dict",data:=.dict #[] }) h.objs.size (.dK []):=⟨Pq _,QU.mpr (Qn (Pt hb)),[],.nil,Heap.DictOf.new h⟩
theorem y_ (h:Heap) (hb:sysModules<h.objs.size):ObjOk P w H (h.push { cls:=.type "dict",data:=.dict #[] }) h.objs.size (.dT []):=⟨Pq _,QU.mpr (Qn (Pt hb)),[],.nil,_,#[],0,Pc _ rfl,⟨rfl,rfl,rfl⟩,rfl,rfl,PZ⟩
def tH:TE:=fun _ H Q=>∀ p,H p=none->Q (.ref p) (upd H p (.dK []))
def j9:TE:=fun _ H Q=>∀ p,H p=none->Q (.ref p) (upd H p (.dT []))
section
theorem qU:PE X (.Dict [] [] pos) tH:=fun ai s σ H Q I h=>wpAny_Dict_empty ⟨.ref s.heap.objs.size,_,I.laid (a:=s.heap.objs.size) (o:=.dK []) (t':=s.toks) (fun _ _ q=>OZ _ q) (O0 _) (qT s.heap I.big),rfl,h _ (I.be.fresh (O0 _))⟩
theorem gV:PE X (.Dict [] [] pos) j9:=fun ai s σ H Q I h=>wpAny_Dict_empty ⟨.ref s.heap.objs.size,_,I.laid (a:=s.heap.objs.size) (o:=.dT []) (t':=s.toks) (fun _ _ q=>OZ _ q) (O0 _) (y_ s.heap I.big),rfl,h _ (I.be.fresh (O0 _))⟩
end
noncomputable def tJ:List (TE×TE)->St->Hp->(List (V×V)->Hp->Prop)->Prop
 | [],_,H,Q=>Q [] H
 |(tk,tv)::r,σ,H,Q=>tk σ H fun x H1=>tv σ H1 fun y H2=>tJ r σ H2 fun ps H3=>Q ((x,y)::ps) H3
abbrev VV:List (V×V)->List (Tq×Tq)->Prop:=Paired fun p q=>RelV p.1 q.1/\RelV p.2 q.2
def KN (X:Cx)(pos:Pos)(keys:List (Option Expr))(values:List Expr)(trs:List (TE×TE)):Prop:=
 ∀(ai:List (Addr×Obj))(s:Tn)(σ:St)(H:Hp)(Q:List (V×V)->Hp->Prop),Inv X ai σ H s->tJ trs σ H Q->
  wpAny (model X.prog X.w) X.A (evalPairs (pairTrees keys values X.env pos)) (fun vs s'=>∃ ps H',Inv X ai σ H' s'/\VV ps vs/\Q ps H') X.xe s
theorem CJ:KN X pos [] [] []:=fun ai s σ H Q I h=>pairTrees_nil_walk ⟨[],H,I,.nil,h⟩
theorem zb (hk:PE X k tk)(hv:PE X v tv)(hr:KN X pos ks vs trs) :
 KN X pos (some k::ks) (v::vs) ((tk,tv)::trs):=fun ai s σ H Q I h=>
 pairTrees_cons_walk (bX (hk ai s σ H _ I h) fun u s1 ⟨x,H1,I1,rx,q1⟩=>bX (hv ai s1 σ H1 _ I1 q1) fun w2 s2 ⟨y,H2,I2,ry,q2⟩=>bX (hr ai s2 σ H2 _ I2 q2) fun ws s3 ⟨ps,H3,I3,rel,q3⟩=>⟨(x,y)::ps,H3,I3,.cons ⟨rx,ry⟩ rel,q3⟩)
def gW (kvs more:List (bC×V)):List (bC×V):=more.foldl (fun acc kv=>bU acc kv.1 kv.2) kvs
theorem KV.merge:∀{more:List (bC×V)}{rs:List (bC×Tq)}{kvs:List (bC×V)}{vs:List (bC×Tq)},KV more rs->KV kvs vs->KV (gW kvs more) (merged vs rs):=by
 intro more rs kvs vs r;unfold KV at r;induction r generalizing kvs vs with
 |nil=>intro q;exact q
 | @cons p q ps qs h t ih=>
  intro r0;have e:KV (bU kvs p.1 p.2) (stored vs q.1 q.2):=by have:=r0.put p.1 h.2;rw[<- h.1];exact this
  exact ih e
theorem iS:∀(more kvs:List (bC×V)),(gW kvs more).length<=kvs.length+more.length
 | [],kvs=>by show kvs.length<=kvs.length+0;lia
 |p::r,kvs=>by
  have h1:=iS r (bU kvs p.1 p.2)
  grind [cO,gW,bU]
theorem lN:∀{kvs:List (bC×V)}{ws:List (Tq×Tq)},VV (kvs.map fun kv=>(kV kv.1,kv.2)) ws->∃ rs,Carries (aV P w) ws rs/\KV kvs rs
 | [],_,r=>by rw[Rr]at r;cases r;exact⟨[],True.intro,.nil⟩
 |p::kvs,_,r=>by
  rw[Ph]at r;cases r with
  | @cons a b as bs h t=>obtain⟨rs,c,q⟩:=lN (P:=P) (w:=w) t;obtain⟨b1,b2⟩:=b;exact⟨(p.1,b2)::rs,⟨iQ h.1,rfl,c⟩,.cons ⟨rfl,h.2⟩ q⟩
def EH (trs:List (TE×TE)):TE:=fun σ H Q=>∀ p,H p=none->tJ trs σ (upd H p (.dK [])) fun ps H2=>H2 p=some (.dK [])/\∃ kvs:List (bC×V),ps=kvs.map (fun kv=>(kV kv.1,kv.2))/\kvs.length<=15/\Q (.ref p) (upd H2 p (.dK (gW [] kvs)))
theorem CL (h:KN X pos keys values trs)(iI:keys.all (·.isSome)=true)(hl:keys.length=values.length)(h0:keys≠[])
 (h15:keys.length<=15):PE X (.Dict keys values pos) (EH trs):=by
 intro ai s σ H Q I q;have hn:=I.be.fresh (O0 s.heap.objs.size);have I1:=I.laid (a:=s.heap.objs.size) (o:=.dK []) (h':=s.heap.push { cls:=.type "dict",data:=.dict #[] }) (t':=s.toks) (fun _ _ q=>OZ _ q) (O0 _) (qT s.heap I.big);refine wpAny_Dict_walk (knd:=aV X.prog X.w) iI hl h0 h15 (bX (h ai _ σ _ _ I1 (q _ hn)) fun ws s2 ⟨ps,H2,I2,rel,e,kvs,ep,lk,q2⟩=>?_);subst ep;obtain⟨rs,c,rk⟩:=lN (P:=X.prog) (w:=X.w) rel;obtain⟨z,hd,vs0,r0,dd⟩:=qP I2.be e;cases r0;refine⟨rs,c,dd,fun h' dd' hs=>⟨.ref s.heap.objs.size,_,?_,rfl,q2⟩⟩;have hz:(gW [] kvs).length<=sizeLine:=by have h1:=iS kvs [];rw[QM]at h1;rw[Pn];lia
 have he:∃ q,h'.get? s.heap.objs.size=some q:=let ⟨q,_,_,hq,_⟩:=dd';⟨q,hq⟩;exact ik I2 (by rw[e];exact True.intro) hs he (o_ hz hd (rk.merge .nil) dd')
structure M1 (X:Cx) (o:Expr) (m:Str) (apos:Pos) (e:Expr) (cpos:Pos):Prop where
 base:attributeBase o m X.env (eval o X.env)=eval o X.env
 jf:((backTo cpos (starEach [e] X.env)).all (fun x=>!x.1)&&(backToKw cpos (keywordEach [] X.env)).all (fun x=>x.1.isSome)
  && decide (([e]:List Expr).length+([]:List Keyword).length+(if ([]:List Keyword).isEmpty then 0 else 1)<30))=true
 line:(apos.endLine==cpos.line)=true
 trees:backTo cpos (starEach [e] X.env)=[(false,eval e X.env)]
structure M2 (X:Cx) (o:Expr) (m:Str) (apos:Pos) (e f:Expr) (cpos:Pos):Prop where
 base:attributeBase o m X.env (eval o X.env)=eval o X.env
 jf:((backTo cpos (starEach [e,f] X.env)).all (fun x=>!x.1)&&(backToKw cpos (keywordEach [] X.env)).all (fun x=>x.1.isSome)
  && decide (([e,f]:List Expr).length+([]:List Keyword).length+(if ([]:List Keyword).isEmpty then 0 else 1)<30))=true
 line:(apos.endLine==cpos.line)=true
 trees:backTo cpos (starEach [e,f] X.env)=[(false,eval e X.env),(false,eval f X.env)]
def Ip (H:Hp)(a:Addr):Prop:=(∃ kvs,Rd H a (.dK kvs))\/∃ kvs,Rd H a (.dT kvs)
theorem pd (I:Inv X ai σ H s)(d:Ip H a) :
 s.TypeIs (.ref a) "dict"/\(∀ b,Value.ref a=.ref b->∃ ob,s.heap.get? b=some ob/\ob.dict=none)/\(a==sysModules)=false:=by
 rcases d with⟨kvs,e⟩|⟨kvs,e⟩
 .obtain⟨_,hd,vs,_,dd⟩:=jm I.be e;refine⟨dd.typeIs,fun b q=>?_,hd⟩;cases q;obtain⟨ob,_,_,h1,h2,_⟩:=dd;exact⟨ob,h1,h2.2.1⟩
 .obtain⟨_,hd,xs,_,dd⟩:=kI I.be e;refine⟨dd.typeIs,fun b q=>?_,hd⟩;cases q;obtain⟨ob,_,_,h1,h2,_⟩:=dd;exact⟨ob,h1,h2.2.1⟩
section
theorem FL (hu:A.units+1<cLine)(I:Inv X ai σ H s)(g:DGet H a y o)(ry:RelV y u)(h:∀ w' s',Inv X ai σ H s'->RelV (o.getD .bJ) w'->Q w' s') :
 wpAny (model X.prog X.w) A (call (.builtin "dict.get") [.ref a,u]) Q E s:=by
 rcases g with⟨kvs,k,e,ey,l⟩|⟨kvs,k,b,e,ey,eb,l⟩
 .subst ey;obtain⟨z,hd,vs,rel,dd⟩:=jm I.be e;refine Sf QX dd.typeIs RC (PySem.F.args_dict_get_2 _ _) (meets_dict_get (aV X.prog X.w) a (iQ ry) hd) ⟨_,dd.mapOf,h _ _ (I.tok _) ?_⟩;rw[l];exact(rel.val k).getD rfl
 .subst ey;cases (show u=Value.ref b from ry);obtain⟨z,hd,xs,rel,dd⟩:=kI I.be e;refine Sf QX dd.typeIs RC (PySem.F.args_dict_get_2 _ _) (meetsH_dict_get (tupleKind (aV X.prog X.w)) a b hd) ⟨Rc hu,k,xs,dP I.be eb,dd,h _ _ (I.tok _) ?_⟩;rw[l];exact(rel.val k).getD rfl
theorem FM (hu:A.units+1<cLine)(I:Inv X ai σ H s)(g:DGet H a y o)(ry:RelV y u)(rd:RelV d r)(h:∀ w' s',Inv X ai σ H s'->RelV (o.getD d) w'->Q w' s') :
 wpAny (model X.prog X.w) A (call (.builtin "dict.get") [.ref a,u,r]) Q E s:=by
 rcases g with⟨kvs,k,e,ey,l⟩|⟨kvs,k,b,e,ey,eb,l⟩
 .subst ey;obtain⟨z,hd,vs,rel,dd⟩:=jm I.be e;refine Sf QX dd.typeIs RC (PySem.F.args_dict_get_3 _ _ _) (meets_dict_get_default (aV X.prog X.w) a (iQ ry) hd r) ⟨_,dd.mapOf,h _ _ (I.tok _) ?_⟩;rw[l];exact(rel.val k).getD rd
 .subst ey;cases (show u=Value.ref b from ry);obtain⟨z,hd,xs,rel,dd⟩:=kI I.be e;refine Sf QX dd.typeIs RC (PySem.F.args_dict_get_3 _ _ _) (meetsH_dict_get_default (tupleKind (aV X.prog X.w)) a b hd r) ⟨Rc hu,k,xs,dP I.be eb,dd,h _ _ (I.tok _) ?_⟩;rw[l];exact(rel.val k).getD rd
end
noncomputable def ph (td ty:TE):TE:=fun σ H Q=>td σ H fun x H1=>∃ a,x=.ref a/\Ip H1 a/\ty σ H1 fun y H2=>∃ o,DGet H2 a y o/\Q (o.getD .bJ) H2
noncomputable def gh (td ty tx:TE):TE:=fun σ H Q=>td σ H fun x H1=>∃ a,x=.ref a/\Ip H1 a/\ty σ H1 fun y H2=>tx σ H2 fun z H3=>∃ o,DGet H3 a y o/\Q (o.getD z) H3
def lP (td ty:TE):TE:=fun σ H Q=>td σ H fun x H1=>∃ a,x=.ref a/\Ip H1 a/\ty σ H1 fun y H2=>∃ kvs k v,H2 a=some (.dK kvs)/\y=kV k/\cw kvs k=some v/\Q v (upd H2 a (.dK (iP kvs k)))
section
theorem qV (hu:X.A.units+1<cLine) (ho:PE X o td) (he:PE X e ty) (m:M1 X o "get" apos e cpos):PE X (.Call (.Attribute o "get" apos) [e] [] cpos) (ph td ty):=by intro ai s σ H Q I h;refine wpAny_Call_method m.base m.jf m.line P7 QX PySem.F.type_dict_get (bX (ho ai s σ H _ I h) fun u s1 ⟨x,H1,I1,rx,a,ex,d,q1⟩=>?_);subst ex;obtain rfl:u=Value.ref a:=rx;obtain⟨t1,t2,_⟩:=pd I1 d;refine⟨t1,t2,?_⟩;rw[m.trees];refine QS rfl (Rk (RE (bX (he ai s1 σ H1 _ I1 q1) fun iv s2 ⟨y,H2,I2,ry,ov,g,q2⟩=>Sw ?_)));exact FL hu I2 g ry fun w' s3 I3 rw'=>⟨_,H2,I3,rw',q2⟩
theorem jo (hu:X.A.units+1<cLine) (ho:PE X o td) (he:PE X e ty) (hf:PE X f tx) (m:M2 X o "get" apos e f cpos):PE X (.Call (.Attribute o "get" apos) [e,f] [] cpos) (gh td ty tx):=by intro ai s σ H Q I h;refine wpAny_Call_method m.base m.jf m.line P7 QX PySem.F.type_dict_get (bX (ho ai s σ H _ I h) fun u s1 ⟨x,H1,I1,rx,a,ex,d,q1⟩=>?_);subst ex;obtain rfl:u=Value.ref a:=rx;obtain⟨t1,t2,_⟩:=pd I1 d;refine⟨t1,t2,?_⟩;rw[m.trees];refine QS rfl (Rk (RE (bX (he ai s1 σ H1 _ I1 q1) fun iv s2 ⟨y,H2,I2,ry,q2⟩=>RE (bX (hf ai s2 σ H2 _ I2 q2) fun fv s3 ⟨z,H3,I3,rz,ov,g,q3⟩=>Sw ?_))));exact FM hu I3 g ry rz fun w' s4 I4 rw'=>⟨_,H3,I4,rw',q3⟩
theorem qW (ho:PE X o td) (he:PE X e ty) (m:M1 X o "pop" apos e cpos):PE X (.Call (.Attribute o "pop" apos) [e] [] cpos) (lP td ty):=by intro ai s σ H Q I h;refine wpAny_Call_method m.base m.jf m.line P7 PySem.F.slot_dict_pop PySem.F.type_dict_pop (bX (ho ai s σ H _ I h) fun u s1 ⟨x,H1,I1,rx,a,ex,d,q1⟩=>?_);subst ex;obtain rfl:u=Value.ref a:=rx;obtain⟨t1,t2,_⟩:=pd I1 d;refine⟨t1,t2,?_⟩;rw[m.trees];refine QS rfl (Rk (RE (bX (he ai s1 σ H1 _ I1 q1) fun iv s2 z=>Sw ?_)));obtain⟨y,H2,I2,ry,kvs,k,v,ea,rfl,l,q2⟩:=z;exact Il I2 ea ry l (.inl rfl) fun w' s3 I3 rw'=>⟨v,_,I3,rw',q2⟩
end
end L2
namespace Att
open PySem PySem.W PySem.Calls PyProof.Rows
theorem kT:∀(ns:List Int)(vs:List Tq),WellAll P h vs (ns.map WData.int)->IntsAre vs ns:=by
 intro ns;induction ns with
 |nil=>intro vs w;rw[Rr]at w;cases w;exact .nil
 |cons n ns ih=>
  intro vs w;rw[Ph]at w;cases w with
  |cons a b=>cases a;exact .cons _ _ (ih _ b)
theorem wz {l:OpenLaw}{n:Nat}(hn:l.most=some n){P:Params}
 (hpre:l.row.toRowW.claim.pre args=true) (hwl:WellAll P h vals args) :
 ∃ a vs ns,vals=[Value.ref a]/\args=[WData.list (ns.map WData.int)]/\h.get? a=some { cls:=.type "list",data:=.seq vs.toArray }/\IntsAre vs ns/\ns.length<=n:=by
 have hsh:WShape.hasAll [] args [.list .int]=true:=(pre_splitW hpre).1;have hc:l.pre.holds [] { args:=args }=true:=(pre_splitW hpre).2;obtain⟨d,r,rfl,h1,h2⟩:=hasAllW_cons hsh;obtain rfl:=hasAllW_nil h2;obtain⟨xs,rfl,h3⟩:=hasW_list h1;obtain⟨ns,rfl⟩:=items_int h3;have bL:ns.length<=n:=by
  unfold OpenLaw.pre at hc;have h4:(WTm.not (.lt (.lit (.int (n:Int))) (.len (.arg 0)))).holds [] { args:=[.list (ns.map .int)] }=true:=by have h4:=(holds_andW hc).1;rw[hn]at h4;exact h4
  have h5:=condW_of h4 (w_not (w_lt w_lit (w_len_list (w_arg rfl))))
  grind
 cases hwl with
 |cons w1 w2=>
  cases w2;cases w1 with
  |list ho iI=>exact⟨_,_,ns,rfl,rfl,ho,kT ns _ iI,bL⟩
theorem wB (l:OpenLaw)(args:List WData):l.row.toRowW.claim.post args (.bool true) args=true:=
 postW_of (r:=l.row.toRowW) (X:=(true==true))
  (show WShape.has [] (.bool true) .bool=true by first|rfl|decide|simp[WShape.has,WShape.arms,WShape.armsAll])
  (show(WTm.eq .res (.lit (.bool true))).value [] { args:=args,res:=some (.bool true),after:=args }=some (.bool (true==true)) from w_eq_bool (w_res rfl) w_lit) rfl
theorem attach_call {l:OpenLaw}{n:Nat}{XP:(Str->Option Tq)->Heap->Prop}{YP:World->Heap->Prop}
 (hn:l.most=some n) (hdf:d.params.defaults=[])
 (call:∀(w:World)(s₀ s₁:Tn)(mg mb:Str->Option Tq)(fa:Addr)(o:Obj)(pm cd doc:Tq)(a:Addr)(vs:List Tq)(ns:List Int),
   Ground q loose [] XP w s₀ mg mb s₁.heap->YP w s₁.heap->
   s₁.heap.get? fa=some o->o.data=.func (docDef d.name d.params d.body d.scope pm cd doc)->s₁.heap.CodeRec cd d.name->mg d.name=some (.ref fa)->
   s₁.heap.get? a=some { cls:=.type "list",data:=.seq vs.toArray }->IntsAre vs ns->ns.length<=n->s₁.gens=#[]->
   codeAny (model l.prog w) callerA (.call (.ref fa) ⟨[.ref a],[]⟩) (fun r s'=>r=.ok (.ret (.bool true))/\OldK s₁.heap s'.heap/\s'.os=s₁.os/\AllBare s'.gens) s₁) :
 WalkO q loose XP YP l.row.toRowW d [] (fun f vs=>PySem.call f vs):=by
 intro w s₀ s₁ mg mb G Y fa o pm cd doc dV kV ho hd hcd hD hmg hg args vals as hpre hlay hrd hwl hlo;obtain rfl:dV=.none:=Dflts.none hD hdf;obtain rfl:kV=.none:=Dflts.noKw hD;obtain⟨a,vs,ns,rfl,rfl,hobj,hints,bL⟩:=wz hn hpre hwl;refine enter_call (SI (call w s₀ s₁ mg mb fa o pm cd doc a vs ns G Y ho (fd_plain hd) hcd hmg hobj hints bL hg) fun r s' hq=>?_);obtain⟨rfl,h2,h3,h4⟩:=hq;exact⟨.inl ⟨.bool true,.bool true,[],rfl,fun _=>rfl,.bool true,wB l _,fun _=>⟨List.Pairwise.nil,fun _ hm=>(nomatch hm)⟩⟩,h2,h3,h4⟩
end Att
namespace L2
open PySem PySem.Spec PyProof.Rows
noncomputable def dZ (s:Stmt)(j:Nat):Stmt:=match s with
 | .ClassDef _ _ _ body _ _ _ _ _ _ _=>body.getD j (.Pass ⟨0,0,0,0⟩)
 |_=>.Pass ⟨0,0,0,0⟩
noncomputable def b7 (s:Stmt):Arguments:=match s with
 | .FunctionDef _ a _ _ _ _ _ _ _ _=>a
 |_=>{ posonlyargs:=[],args:=[],vararg:=none,kwonlyargs:=[],kw_defaults:=[],kwarg:=none,defaults:=[] }
noncomputable def bO (s:Stmt):List Stmt:=match s with
 | .FunctionDef _ _ b _ _ _ _ _ _ _=>b
 |_=>[]
noncomputable def aD (s:Stmt):Scope:=match s with
 | .FunctionDef _ _ _ _ _ _ sc _ _ _=>sc
 |_=>{ kind:=.function,names:=[],isGenerator:=false,isCoroutine:=false }
noncomputable abbrev fV:yT:=fun _ _ _ _ _ _=>False
noncomputable abbrev E0:XK:=fun _ _ _=>False
theorem bb:fF fV X E0:=fun _ _ _ _ _ _ _ h=>h.elim
structure Cb (K:To) (x qual:Str) (st:Stmt) (f:Addr) (fd:FuncData):Prop where
 ex:∃(oc:Tq)(od:Option Addr)(kV doc pm:Tq)(an:Option Addr)(cdv ct:Tq)(osl:Array (Option Tq)),
  fd=PySem.W.fnOf x qual (b7 st) (bO st) (aD st) .none kV doc pm an cdv ct/\K.lookup f=some ⟨oc,od,.func fd,osl⟩/\PySem.W.codeIn K cdv qual=true
 kp:PySem.W.keepIn K (.ref f)=true
section
variable {P:Tp}{w:World}{K:To}{mg:Str->Option Tq}{base:Heap}
theorem Cb.ok {x qual:Str}{st:Stmt}{f:Addr}{fd:FuncData}{N ps:List Str}{k:Nat}{sp:Sp}(F:Cb K x qual st f fd)(S:aU N ps (aD st))(len:∀ vs H Q E,sp vs H Q E->vs.length=ps.length)
 (hbody:∀(cdv:Tq)(A:Ts)(outer:List Env)(s:Tn)(H:Hp)(vs:List V)(Q:VK)(E:XK),cT k (A.deeper (envOfC qual (aD st) s.heap.objs.size f cdv))->sp vs H Q E->
   ∃ t,PSs (ti fV P w K mg base N qual (aD st) f cdv A outer s H E).K8 (bO st) t/\t (eQ Q) (bh N vs) H):bE P w K mg base fV (k+1) f fd ps sp:=by
 obtain⟨oc,od,kV,doc,pm,an,cdv,ct,osl,rfl,lk,hcd⟩:=F.ex;refine yV lk hcd S len fun A outer s H vs Q E hr hsp=>?_;obtain⟨t,h,q⟩:=hbody cdv A outer s H vs Q E hr hsp;exact⟨t,h.K8,q⟩
theorem Cb.binds {x qual:Str}{st:Stmt}(F:Cb K x qual st f fd)
 (h:∀(kV doc pm:Tq)(an:Option Addr)(cdv ct:Tq)(us:List Tq),us.length=ps.length->bindArgs (PySem.W.fnOf x qual (b7 st) (bO st) (aD st) .none kV doc pm an cdv ct) ⟨us,[]⟩=pure (ps.zip us)):Binds K fd ps []:=by
 obtain⟨oc,od,kV,doc,pm,an,cdv,ct,osl,rfl,lk,hcd⟩:=F.ex;exact .all (h kV doc pm an cdv ct)
theorem zc {x qual:Str}{st:Stmt}{f:Addr}{oc:Tq}{od an:Option Addr}{osl:Array (Option Tq)}{kV doc pm cdv ct:Tq}(l:K.lookup f=some ⟨oc,od,.func (PySem.W.fnOf x qual (b7 st) (bO st) (aD st) .none kV doc pm an cdv ct),osl⟩)
 (c:PySem.W.codeIn K cdv qual=true) (k:PySem.W.keepIn K (.ref f)=true):Cb K x qual st f (PySem.W.fnOf x qual (b7 st) (bO st) (aD st) .none kV doc pm an cdv ct):=⟨⟨oc,od,kV,doc,pm,an,cdv,ct,osl,rfl,l,c⟩,k⟩
end
theorem fW (hr:cT k A):A.units+1<cLine:=Qe (SV (by decide:1<=64) _) hr.units
section
theorem pv (i:Nat){x:Str}{pos:Pos}(hN:autoParam (X.N[i]?=some x) TB._auto_1)(hv:autoParam (La X.env.scope x) Tv._auto_1)(hd:autoParam (dB x) Tt._auto_1)
 (hcd:autoParam ((x==("__classdict__" : Str))=false) Tt._auto_1):PE X (.Name x pos) (av i):=Fs hN hv hd hcd
end
theorem cf {A B:Prop}(h:B):if false=true then A else B:=by rw[Pl PB];exact h
theorem cJ {A B:Prop}(h:A):if true=true then A else B:=by rw[Pi rfl];exact h
theorem wC {c A B:Prop}[Decidable c](h1:c->A)(h2:¬ c->B):if c then A else B:=by
 by_cases h:c
 .rw[Pi h];exact h1 h
 .rw[Pl h];exact h2 h
def Same (H H':Hp):Prop:=∀ b o,H b=some o->H' b=some o
theorem Same.trans (a:Same H H1)(b:Same H1 H2):Same H H2:=fun c o h=>b c o (a c o h)
theorem Same.free (e:Same H H')(h:H' l=Option.none):H l=Option.none:=by
 cases q:H l with
 |none=>rfl
 |some o=>rw[e l o q]at h;cases h
def CM (P:Tp)(w:World):yT:=fun outer H s E e s'=>
 ∃(x C t:Addr)(B:Heap)(H':Hp),e=.ref x/\s'.os=s.os/\AllBare s'.gens/\Un (jh outer) [] H H' s.heap s'.heap/\HOk P w H' s'.heap/\
  Heap.FlyingW B outer x (.ref C) (.ref t) s'.heap/\(∀ b u,H' b=some u->∃ o,B.get? b=some o)/\(∀ b o,s.heap.get? b=some o->Qt H b->b∉jh outer->B.get? b=some o)/\
  (∀ b o,s.heap.get? b=some o->b∉jh outer->∃ o',B.get? b=some o')/\H' x=none/\E (.ref C) none H'
theorem om {H:Hp}{B h1 h2:Heap}(ok:HOk P w H h1)(yv:∀ b u,H b=some u->∃ o,B.get? b=some o)(s1:B.StaysIn h1)(s2:B.StaysIn h2):HOk P w H h2:=fun a o e=>(ok a o e).stay (fun b u hb q=>by have hb':∃ v,H b=some v:=hb.elim (fun z=>⟨o,by rw[z];exact e⟩) fun z=>⟨_,z⟩;obtain⟨v,hv⟩:=hb';obtain⟨o',ho⟩:=yv b v hv;have:=s1 b o' ho;rw[q]at this;cases this;exact s2 b _ ho) (fun _ q=>q) fun _ _ q=>q
theorem lQ:∀{o:HO},ObjOk P w H h a o->∃ ob,h.get? a=some ob
 | .lst xs,x=>by obtain⟨_,_,_,_,e⟩:=x;exact⟨_,e⟩
 | .tup xs,x=>by obtain⟨_,_,_,⟨_,e,_⟩⟩:=x;exact⟨_,e⟩
 | .dK kvs,x=>by obtain⟨_,_,_,_,o,_,_,e,_⟩:=x;exact⟨_,e⟩
 | .dT kvs,x=>by obtain⟨_,_,_,_,o,_,_,e,_⟩:=x;exact⟨_,e⟩
 | .set S n,x=>by obtain⟨o,_,_,_,e,_⟩:=x;exact⟨_,e⟩
 | .ins C dx fs,x=>by obtain⟨_,_,_,e,_⟩:=x;exact⟨_,e⟩
 | .own y,x=>x
 | .xd fs,x=>by obtain⟨_,⟨_,_,_,e,_⟩,_⟩:=x;exact⟨_,e⟩
 | .K7 lo hi,x=>by obtain⟨_,_,_,e⟩:=x;exact⟨_,e⟩
 | .cj ob u,x=>by obtain⟨e,_⟩:=x;exact⟨_,e⟩
 | .qz ps,x=>⟨_,(show h.get? a=some _ from x)⟩
 | .met f y,x=>⟨_,(show h.get? a=some _ from x)⟩
 | .ext φ,x=>x.2.1
section
variable {P:Tp}{w:World}{K:To}{mg:Str->Option Tq}{base:Heap}{N:List Str}{qual:Str}{scope:Scope}{f:Addr}{cd:Tq}{A:Ts}{outer:List Env}{s₀:Tn}{H₀:Hp}{E:XK}
abbrev qX (P:Tp)(w:World)(K:To)(mg:Str->Option Tq)(base:Heap)(N:List Str)(qual:Str)(scope:Scope)(f:Addr)(cd:Tq)(A:Ts)(outer:List Env)(s:Tn)(H:Hp)(E:XK):Cx:=ti (CM P w) P w K mg base N qual scope f cd A outer s H E
theorem qY (I:Inv (qX P w K mg base N qual scope f cd A outer s₀ H₀ E) ai σ H s)(e:s₀.heap.get? b=some o)(hb:b∉jh outer) :
 b∉jh (qX P w K mg base N qual scope f cd A outer s₀ H₀ E).stack:=fun z=>by
 rcases O8.mp (I.nh b z) with q|q
 .exact absurd (PJ (Pa e) (Pu I.ok.above (S3 q.symm))) (QV _)
 .exact hb q
theorem tL (hb:b∈jh outer):b∈jh (qX P w K mg base N qual scope f cd A outer s₀ H₀ E).stack:=by show b∈jh (envOfC qual scope s₀.heap.objs.size f cd::outer);unfold jh;rw[Ru];have:(envOfC qual scope s₀.heap.objs.size f cd).frame=some s₀.heap.objs.size:=rfl;rw[this];exact O4 _ hb
theorem CO:fF (CM P w) (qX P w K mg base N qual scope f cd A outer s₀ H₀ E) E:=by
 intro ai σ H s e s' I h;obtain⟨x,C,t,B,H',rfl,os,bare,un,be,fly,yv,unt,inB,hx,hE⟩:=h;show wpAny _ _ (leaving _ _) _ _ s';have nx:∀ b:Addr,b∉(qX P w K mg base N qual scope f cd A outer s₀ H₀ E).ex:=fun b z=>absurd (show b∈([]:List Addr) from z) (by simp);refine wpAny_leaves_onW I.ok.frames rfl fly fun h' fly' up=>?_;have nf:∀ b,b∈jh outer->∀ o,s'.heap.get? b=some o->∀ vs,o.data≠.fields vs:=fun b hb o e=>by obtain⟨_,o',e',d⟩:=fly.2.2.1.mem (tL (P:=P) (w:=w) (K:=K) (mg:=mg) (base:=base) (N:=N) (H₀:=H₀) (E:=E) (A:=A) hb);rw[e]at e';cases e';exact d
 refine⟨x,C,t,B,H',rfl,os.trans I.os,bare,⟨fun b o e n hb _=>?_,fun b o e n hb _=>?_,fun b o e n _=>?_,fun b o e _=>?_,fun b xs q=>un.iJ b xs (I.base.iJ b xs q),fun b o u q=>un.jg b o u (I.base.jg b o u q),fun b ps q=>?_⟩,om be yv fly.1 fly'.1,fly',yv,fun b o e n hb=>?_,fun b o e hb=>?_,hx,hE⟩
 .exact fly'.1 b o (unt b o (I.base.keep b o e n hb (nx b)) (n.imp (fun n=>I.base.free b o e n (nx b)) fun⟨xs,q⟩=>⟨xs,I.base.iJ b xs q⟩) (qY I e hb))
 .obtain⟨sl,e1⟩:=I.base.slot b o e n hb (nx b);obtain⟨sl',e2⟩:=un.slot b _ e1 (I.base.free b o e n (nx b)) (tL hb) (by simp);obtain⟨sl'',e3⟩:=up b _ e2 (nf b hb _ e2);exact⟨sl'',e3⟩
 .obtain⟨o1,e1⟩:=I.base.there b o e (nx b);exact un.free b o1 e1 (I.base.free b o e n (nx b)) (by simp)
 .obtain⟨o1,e1⟩:=I.base.there b o e (nx b);by_cases hb:b∈jh outer
  .obtain⟨o2,e2⟩:=un.there b o1 e1 (by simp);obtain⟨sl,e3⟩:=up b _ e2 (nf b hb _ e2);exact⟨_,e3⟩
  .obtain⟨o',q⟩:=inB b o1 e1 (qY I e hb);exact⟨o',fly'.1 b o' q⟩
 .obtain⟨m1,e1⟩:=I.base.m5 b ps q;obtain⟨m2,e2⟩:=un.m5 b _ e1;exact⟨m1++m2,by rw[e2,Array.append_assoc]⟩
 .exact unt b o (I.base.keep b o e n hb (nx b)) (n.imp (fun n=>I.base.free b o e n (nx b)) fun⟨xs,q⟩=>⟨xs,I.base.iJ b xs q⟩) (qY I e hb)
 .obtain⟨o1,e1⟩:=I.base.there b o e (nx b);exact inB b o1 e1 (qY I e hb)
theorem vf {s:Tn}{h':Heap}{x C:Addr}{args:List Tq}(I:Inv (qX P w K mg base N qual scope f cd A outer s₀ H₀ E) ai σ H s)(hx:Heap.MadeExcOf s.heap h' x (.ref C) args)(hE:E (.ref C) none H) :
 (qX P w K mg base N qual scope f cd A outer s₀ H₀ E).xe (.ref x) { s with heap:=h' }:=by
 show wpAny _ _ (leaving _ _) _ _ _;have nx:∀ b:Addr,b∉(qX P w K mg base N qual scope f cd A outer s₀ H₀ E).ex:=fun b z=>absurd (show b∈([]:List Addr) from z) (by simp);have hin:∀ env∈(qX P w K mg base N qual scope f cd A outer s₀ H₀ E).stack,∀ b,env.frame=some b->b∈jh (qX P w K mg base N qual scope f cd A outer s₀ H₀ E).stack:=fun env he b hb=>RD.mpr ⟨env,he,hb⟩;have FF:=I.stack;refine wpAny_leaves_madeW (base:=PySem.W.hideAll s.heap (jh (qX P w K mg base N qual scope f cd A outer s₀ H₀ E).stack)) I.ok.frames rfl (fun b o q=>S1 _ q) (PySem.W.funFrames_hide FF hin) hx fun h'' t fly _ _ up=>?_;have inB:∀ b o,s.heap.get? b=some o->b∉jh (qX P w K mg base N qual scope f cd A outer s₀ H₀ E).stack->(PySem.W.hideAll s.heap (jh (qX P w K mg base N qual scope f cd A outer s₀ H₀ E).stack)).get? b=some o:=fun b o e hb=>PySem.W.hideAll_get _ e hb;have yv:∀ b u,H b=some u->∃ o,(PySem.W.hideAll s.heap (jh (qX P w K mg base N qual scope f cd A outer s₀ H₀ E).stack)).get? b=some o:=fun b u e=>by obtain⟨o,ho⟩:=lQ (I.be b u e);exact⟨o,inB b o ho fun z=>by rw[I.qr b z]at e;cases e⟩
 have st:(PySem.W.hideAll s.heap (jh (qX P w K mg base N qual scope f cd A outer s₀ H₀ E).stack)).StaysIn s.heap:=fun b o q=>S1 _ q;have nf:∀ b,b∈jh outer->∀ o,s.heap.get? b=some o->∀ vs,o.data≠.fields vs:=fun b hb o e=>by obtain⟨_,o',e',d⟩:=FF.mem (tL (P:=P) (w:=w) (K:=K) (mg:=mg) (base:=base) (N:=N) (H₀:=H₀) (E:=E) (A:=A) hb);rw[e]at e';cases e';exact d
 have hxn:H x=none:=by
  cases q:H x with
  |none=>rfl
  |some u=>obtain⟨o,ho⟩:=lQ (I.be x u q);rw[hx.new]at ho;cases ho
 refine⟨x,C,t,_,H,rfl,I.os,I.bare,⟨fun b o e n hb _=>?_,fun b o e n hb _=>?_,fun b o e n _=>I.base.free b o e n (nx b),fun b o e _=>?_,I.base.iJ,I.base.jg,I.base.m5⟩,om I.be yv st fly.1,fly,yv,fun b o e n hb=>?_,fun b o e hb=>?_,hxn,hE⟩
 .exact fly.1 b o (inB b o (I.base.keep b o e n hb (nx b)) (qY I e hb))
 .obtain⟨sl,e1⟩:=I.base.slot b o e n hb (nx b);obtain⟨sl',e2⟩:=up b _ (hx.keeps b _ e1) (nf b hb _ e1);exact⟨sl',e2⟩
 .obtain⟨o1,e1⟩:=I.base.there b o e (nx b);by_cases hb:b∈jh outer
  .obtain⟨sl,e2⟩:=up b _ (hx.keeps b _ e1) (nf b hb _ e1);exact⟨_,e2⟩
  .exact⟨o1,fly.1 b o1 (inB b o1 e1 (qY I e hb))⟩
 .exact inB b o (I.base.keep b o e n hb (nx b)) (qY I e hb)
 .obtain⟨o1,e1⟩:=I.base.there b o e (nx b);exact⟨o1,inB b o1 e1 (qY I e hb)⟩
end
abbrev wD:List Tq:=[.type "ValueError",.type "Exception",.type "BaseException",.type "object"]
def Iq (h:Heap) (C:Addr) (bm:List Tq):Prop:=∃ N nm q bs hdct sn sub ab col dd k0 k1 k2 k3 k5 mN,h.get? C=some (excClassObj nm q C N bs bm hdct sn sub ab col dd k0 k1 k2 k3 k5 "ValueError.__new__")/\h.Ns N mN/\mN "__init__"=none/\OwnTail h wD bm
noncomputable def pj (K:To)(C:Addr):List Tq:=match K.lookup C with
 |some ⟨_,_,.cls cd,_⟩=>cd.mro
 |_=>[]
theorem zd {K:To} (X:K.In h) (q:PySem.W.excIn K C wD "ValueError.__new__"=true):∃ bm,pj K C=.ref C::bm/\Iq h C bm:=by
 have q0:=q;unfold PySem.W.excIn at q;unfold pj;cases ho:K.lookup C with
 |none=>rw[ho]at q;cases q
 |some ob=>
  rw[ho]at q;split at q
  .rename_i dd cd sl he;injection he with he;subst he;dsimp only;split at q
   .rename_i D bm k0 k1 k2 k3 n k5 hm hs;rw[hm];simp only[QP,Sv,Bool.not_eq_true']at q;obtain⟨⟨⟨⟨⟨hD,hn⟩,hdel⟩,ht⟩,be⟩,hni⟩:=q;refine⟨bm,by rw[hD],?_⟩;obtain⟨nm,bs,mro,ns,qn,hd,sn,sub,ab,col,del⟩:=cd;dsimp only at hm hdel be hni;have es:sl=#[k0,k1,k2,k3,some (.builtin n),k5]:=by
     cases sl with
     |mk l=>simp only at hs;rw[hs]
    rw[hn]at es;subst es;have hC:=X _ _ ho;rw[hdel,hm,hD]at hC;exact⟨ns,nm,qn,bs,hd,sn,sub,ab,col,dd,k0,k1,k2,k3,k5,_,hC,.of_isNs (PySem.W.isNs_of_in X be),PySem.W.nsMap_none_of_in X be hni,PySem.W.tail_of_in X ht⟩
   .cases q
  .cases q
structure XC (K:To) (mg:Str->Option Tq) (c:Str) (C:Addr):Prop where
 gl:mg c=some (.ref C)
 ex:PySem.W.excIn K C wD "ValueError.__new__"=true
section
variable {X:Cx}{c:Str}{C:Addr}{np cpos pos:Pos}{e₀:Expr}{rest:List Expr}{t:TA}
noncomputable def tM (t:TA)(EW:Hp->Prop):TS:=fun _ σ H=>t σ H fun vs H'=>vs.length<=sizeLine/\EW H'
theorem qZ {EW:Hp->Prop}(hc:XC X.K X.mg c C)(hg:Gl X c)(hcalm:X.calm=true)(ha:PA X (e₀::rest) t)
 (hl:∀(ai:List (Addr×Obj))(σ:St)(H:Hp)(s:Tn)(h':Heap)(x:Addr)(args:List Tq),Inv X ai σ H s->Heap.MadeExcOf s.heap h' x (.ref C) args->EW H->X.xe (.ref x) { s with heap:=h' })
 (he:autoParam (starEach (e₀::rest) X.env=(false,eval e₀ X.env)::starEach rest X.env) TB._auto_1) (hpl:autoParam (bT X cpos rest) TB._auto_1) (hd:autoParam (dB c) Tt._auto_1) :
 PS X (.Raise (some (.Call (.Name c np) (e₀::rest) [] cpos)) none pos) (tM t EW):=by
 intro ai s σ H D I h;obtain⟨bm,_,N,nm,q,bs,hdct,sn,sub,ab,col,dd,k0,k1,k2,k3,k5,mN,hC,hN,hni,TL⟩:=zd I.ok.mod.HX hc.ex;have fb:=PySem.F.excBase_ValueError;refine wpAny_Raise_call_subU (C:=C) (nm:=nm) (q:=q) (N:=N) (bs:=bs) (bm:=bm) (hdct:=hdct) (sn:=sn) (sub:=sub) (ab:=ab) (col:=col) (dd:=dd) (k0:=k0) (k1:=k1) (k2:=k2) (k3:=k3) (k5:=k5) (bmB:=wD)
  fb (by decide +kernel) fb (mN:=mN) (TL.hasType fb.hasBase) (I.ok.hd hcalm) ?_ hni (kZ I hg hc.gl ⟨rfl,?_⟩ hd)
 .rw[he];show(false || (backTo cpos (starEach rest X.env)).any (·.1))=false;rw[hpl];rfl
 .have ha':=ha cpos ai s σ H _ I h;rw[he]at ha' ⊢;refine Rk (QI ha' (fun us s2 ⟨vs,H2,I2,r,q2⟩=>?_) fun _ _ y=>y);exact⟨rfl,by rw[<- r.length];exact q2.1,I2.bk _ _ hC,hN.keeps I2.bk,TL.keeps I2.bk,fun h' e hm=>hl ai σ H2 s2 h' e us I2 hm q2.2⟩
end
abbrev TX:=St->Hp->VK->XK->Prop
end L2
namespace L2
open PySem PySem.Spec PySem.Calls PyProof.Rows
theorem kU
 (hx:s.heap.get? a=some o) (hc:o.cls=.type "list") (hdat:o.data=.seq xs k) (hd:o.dict=none) (hmiss:typeLookup (.type "list") name=pure none) (hname:(["__module__", "__name__", "__qualname__", "__doc__", "__annotations__"]:List Str).contains name=false) (hA:A.handled=none)
 (h:∀ h' tk e,Heap.NewExcOf s.heap h' e "AttributeError"->Q none { s with heap:=h',toks:=tk }) (hsz:name.length+100<=sizeLine:=by size_fits) :
 wpAny (model prog w) A (getAttr? (.ref a) name) Q E s:=by
 obtain⟨c,dct,dat,sl⟩:=o;simp only at hc hdat hd;subst hc hdat hd;obtain⟨hp,g,d,tk,os⟩:=s;have hT:∀ tk',(⟨hp,g,d,tk',os⟩ : Tn).TypeIs (.ref a) "list":=fun _=>⟨_,hx,rfl⟩;have f1:=sub_AttributeError;have f3:=PySem.F.slot_list_getattribute.lookup;have f4:=PySem.F.slot_list_getattribute.bind (.ref a);have f5:=am_list_getattr_none;unfold getAttr? getAttrBy? getAttrBy
 repeat (any_goals (first|assumption|exact hT _|((with_reducible show wpAny _ _ (call (Value.builtin "list.__getattribute__") _ _) _ _ _);refine call_meets PySem.F.slot_list_getattribute (hT _) am_entry_list_getattribute (PySem.F.args_list_getattribute_2 _ _) (meets_getattribute_miss_list a xs k sl name _ hmiss hname hsz) ⟨hx,hA,fun h' tk' e hx'=>?_⟩)|wp_step))
 obtain⟨t',u',he⟩:=hx'.there;show wpAny _ _ (getattributeRaised _ _ _ _ _ _ _) _ _ _;unfold getattributeRaised
 repeat (any_goals (first|assumption|wp_step))
 exact h _ _ _ hx'.of
abbrev iT:=List bC×Addr×Tq
noncomputable def vg (xs:List iT)(its:List iT):List iT:=its.foldl (fun xs x=>storedH xs x.1 x.2.1 x.2.2) xs
theorem jq:entryFor table "dict.update.loop"=some Builtin.«dict.update.loop»:=entryFor_of_tree (by kernel_rfl)
theorem d4:plainId "dict.update.loop"=true:=by decide +kernel
section
variable {prog:Tp}{w:World}
abbrev tK (prog:Tp)(w:World):=tupleKind (aV prog w)
def DRaw (prog:Tp)(w:World)(h:Heap)(S:Addr)(xs:List iT):Prop:=∃ o es ep,h.get? S=some o/\o.ExactDict/\o.data=.dict es ep/\es.toList=xs.map (entryOfKey (tK prog w))/\(xs.map (·.1)).Nodup
theorem jr (x:(tK prog w).is h k a)(e:∀ b o,h.get? b=some o->h'.get? b=some o):(tK prog w).is h' k a:=by obtain⟨o,items,n,h1,r⟩:=x;exact⟨o,items,n,e _ _ h1,r⟩
theorem DRaw.of (d:DRaw prog w h S xs)(ks:∀ x∈xs,(tK prog w).is hb x.1 x.2.1)(e:∀ b o,hb.get? b=some o->h.get? b=some o):h.DictOfH (tK prog w) S xs:=by obtain⟨o,es,ep,h1,h2,h3,h4,h5⟩:=d;exact⟨o,es,ep,h1,h2,h3,h4,fun x hx=>jr (ks x hx) e,h5⟩
theorem tO (ks:∀ x∈xs,(tK prog w).is hb x.1 x.2.1)(hk:(tK prog w).is hb k a):∀ x∈storedH xs k a v,(tK prog w).is hb x.1 x.2.1:=by
 unfold storedH;split
 .intro x hx;obtain⟨y,hy,rfl⟩:=Pb.mp hx;have:=ks y hy;unfold putAt;split<;>exact this
 .intro x hx;rcases Pf.mp hx with hx|hx
  .exact ks x hx
  .simp at hx;subst hx;exact hk
theorem q_ {xs:List iT}{k:List bC}:(storedH xs k a v).length<=xs.length+1:=by
 unfold storedH;split
 .rw[O2];lia
 .rw[O6];simp
variable {A:Ts}{R:Result->Tn->Prop}{I:Addr}{fp wr:List Addr}{G:Array GenState->Array GenState->Prop}{n:Nat}{P:Nat->Tq->Prop}{St:Nat->Tn->Prop}
theorem js (W:WalksS prog w A.in1 I fp wr G n P St)(S:Addr)(hSf:S∉fp)(hu:A.in1.units<cLine)(hb:Heap)(hbS:hb.get? S=none)(hbw:∀ b∈wr,hb.get? b=none)(its:List iT)(hn:its.length=n)
 (hval:∀ i v,P i v->∃ p x,v=.ref p/\its[i]?=some x/\hb.IsTuple p #[.ref x.2.1,x.2.2]/\(tK prog w).is hb x.1 x.2.1) (hsz:n<=sizeLine) :
 ∀(k i:Nat)(s:Tn)(xs:List iT)(j:Int),n-i=k->i<=n->St i s->(∀ b o,hb.get? b=some o->s.heap.get? b=some o)->(∀ x∈xs,(tK prog w).is hb x.1 x.2.1)->xs.length<=i->
  DRaw prog w s.heap S xs->
  (∀ s',Moved (S::wr) G s s'->s'.heap.DictOfH (tK prog w) S (vg xs (its.drop i))->R (.ok (.ret .none)) s')->
  codeAny (model prog w) A (.builtin "dict.update.loop" ⟨[.ref S,.ref I,rawInt j,.none],[]⟩) R s:=by
 have hSw:S∉wr:=fun h=>hSf (W.sub _ h);have hsub:∀ b∈wr,b∈S::wr:=fun b hb=>O4 _ hb;intro k;induction k with
 |zero=>
  intro i s xs j hk hi hst K ks hxl hS hR;have hin:i=n:=by lia
  subst hin;refine QE jq ?_;rw[QA d4 _];show wpAny _ A.in1 (pyNext (.ref I) >>= _) _ _ s;refine KE (W.done s _ _ hst fun s' hm=>?_);have hR':=hR s' (hm.mono hsub) (by rw[List.drop_of_length_le (by lia)];obtain⟨o,es,ep,ho,rest⟩:=hS;exact DRaw.of (hb:=hb) ⟨o,es,ep,hm.heap S _ hSw ho,rest⟩ ks fun b o e=>hm.heap b o (fun z=>by grind) (K b o e));show wpAny _ A.in1 (Builtin.Dict.addKeywords S [] >>= fun _=>ret Value.none) _ _ s';exact KE (OY (OY hR'))
 |succ k ih=>
  intro i s xs j hk hi hst K ks hxl hS hR;have hlt:i<n:=by lia
  refine QE jq ?_;rw[QA d4 _];show wpAny _ A.in1 (pyNext (.ref I) >>= _) _ _ s;refine KE (W.item i s _ _ hlt hst fun v s' hP hst' hm=>?_);obtain⟨p,x,rfl,hx,ht,fQ⟩:=hval i v hP;have K':∀ b o,hb.get? b=some o->s'.heap.get? b=some o:=fun b o e=>hm.heap b o (fun z=>by grind) (K b o e);obtain⟨ot,hot,hct,nt,hdt⟩:=ht;have hT:s'.TypeIs (.ref p) "tuple":=⟨ot,K' _ _ hot,hct⟩;have hS':DRaw prog w s'.heap S xs:=by obtain⟨o,es,ep,ho,rest⟩:=hS;exact⟨o,es,ep,hm.heap S _ hSw ho,rest⟩
  refine KE (Qd ?_);refine KE ?_;refine SH ?_;unfold Builtin.Dict.pairItems;refine KE (RJ hT ?_);rw[Pi (by decide)];refine KE (R0 (K' _ _ hot) hdt ?_);refine OY ?_;show wpAny _ A.in1 (holding [Value.ref x.2.1,x.2.2] (dictSet S (.ref x.2.1) x.2.2)) _ _ s';refine Qd ?_;refine wpAny_dictSet_heap (knd:=tK prog w) (hsz:=by lia) hu (jr fQ K') (DRaw.of hS' ks K') fun h' hd' hs'=>?_;have K2:∀ b o,hb.get? b=some o->h'.get? b=some o:=fun b o e=>(hs'.2 b (fun z=>by grind)).trans (K' b o e);have hdrop:its.drop i=x::its.drop (i+1):=by
   have hil:i<its.length:=by lia
   rw[R7 hil];rw[O1 hil]at hx;rw[Ps hx]
  refine OY ⟨Q1 d4 _,ih (i+1) _ (storedH xs x.1 x.2.1 x.2.2) (j+1) (by lia) hlt (W.frame _ s' _ _ hst' (SM _ _) fun b hb o e=>?_) K2 (tO ks fQ) (by have:=q_ (xs:=xs) (k:=x.1) (a:=x.2.1) (v:=x.2.2);lia) ?_ fun s'' hm'' hS''=>?_⟩
  .rw[hs'.2 b (fun h:b=S=>hSf (by grind))];exact e
  .obtain⟨o,es,ep,h1,h2,h3,h4,_,h5⟩:=hd';exact⟨o,es,ep,h1,h2,h3,h4,h5⟩
  .refine hR s'' (SW W.gtrans ((hm.mono hsub).then_heap (SM _ _) fun b o hb e=>?_) hm'') (by rw[hdrop];exact hS'');rw[hs'.2 b (fun h:b=S=>hb (by grind))];exact e
end
section
variable {prog:Tp}{w:World}{A:Ts}{E:Tq->Tn->Prop}{s:Tn}
theorem kW (hh:A.handled=none) (hu:A.in1.in1.units<cLine) (hl:s.heap.get? l=some { cls:=.type "list",data:=.seq items nl }) (hn:its.length=items.size) (hsz:items.size<=sizeLine)
 (hval:∀(i:Nat)(v:Tq),items[i]?=some v->∃(p:Addr)(x:iT),v=.ref p/\its[i]?=some x/\s.heap.IsTuple p #[.ref x.2.1,x.2.2]/\(tK prog w).is s.heap x.1 x.2.1)
 (h:∀(h':Heap)(tk:Nat),h'.DictOfH (tK prog w) s.heap.objs.size (vg [] its)->(∀ b o,b<s.heap.objs.size->s.heap.get? b=some o->h'.get? b=some o)->Q (.ref s.heap.objs.size) { s with heap:=h',toks:=tk }) :
 wpAny (model prog w) A (call (.type "dict") [.ref l]) Q E s:=by
 refine callType_codes (Q₁:=fun obj s₁=>obj=.ref s.heap.objs.size/\s₁={ s with heap:=s.heap.push { cls:=.type "dict",data:=.dict #[] } }) PySem.F.kt_called_dict (PySem.F.kt_typeCall_dict_1 _) PySem.F.entry_dict_init (kt_code_dict_new _ ⟨rfl,rfl⟩) ?_;rintro obj s₁ ⟨rfl,rfl⟩;have hD:(s.heap.push { cls:=.type "dict",data:=.dict #[] }).get? s.heap.objs.size=some { cls:=.type "dict",data:=.dict #[] }:=Pc _ rfl;have hT:Shared.TypeIs { s with heap:=s.heap.push { cls:=.type "dict",data:=.dict #[] } } (.ref s.heap.objs.size) "dict":=⟨_,hD,rfl⟩;refine⟨hT,PySem.F.args_dict_init_2 _ _,?_⟩;unfold Builtin.«dict.__init__»;refine KE ?_;unfold Builtin.Dict.selfAndRest;refine KE (RK hT ?_);show wpAny _ _ (pure (s.heap.objs.size,[Value.ref l])) _ _ _;refine OY ?_;show wpAny _ _ (Builtin.Dict.updateFrom "dict.__init__" s.heap.objs.size (.ref l) [] .none) _ _ _;unfold Builtin.Dict.updateFrom;have hl1:(s.heap.push { cls:=.type "dict",data:=.dict #[] }).get? l=some { cls:=.type "list",data:=.seq items nl }:=OZ _ hl;refine KE (RJ ⟨_,hl1,rfl⟩ ?_);rw[Pi (by decide)];refine KE (kU (s:={ s with heap:=s.heap.push { cls:=.type "dict",data:=.dict #[] } }) hl1 rfl rfl rfl (am_miss_of_fast (by decide +kernel)) (by decide +kernel) (by simp[hh]) fun h1 tk1 e1 hx1=>?_);rw[Pi (by decide)];refine KE (Sz ?_);have k1:∀ b o,s.heap.get? b=some o->h1.get? b=some o:=fun b o e=>hx1.keeps b o (OZ _ e);have hl2:h1.get? l=some { cls:=.type "list",data:=.seq items nl }:=k1 _ _ hl;have hD1:h1.get? s.heap.objs.size=some { cls:=.type "dict",data:=.dict #[] }:=hx1.keeps _ _ hD;have hlt1:s.heap.objs.size<h1.objs.size:=Pa hD1;have hll:l<s.heap.objs.size:=Pa hl;refine KE (RO (s:=⟨h1,s.gens,s.drawn,tk1,s.os⟩) ⟨_,hl2,rfl,nl,rfl⟩ ?_);have hh3:A.in1.in1.handled=none:=by simp[hh]
 have hno:∀ b,s.heap.objs.size<=b->s.heap.get? b=none:=fun b hb=>by
  cases q:s.heap.get? b with
  |none=>rfl
  |some o=>exact absurd (Pa q) (Nat.not_lt.mpr hb)
 have hneI:l≠h1.objs.size:=Pt (Nat.lt_trans hll hlt1);have k2:∀ b o,h1.get? b=some o->(h1.push { cls:=.type "list_iterator",data:=.fields #[.ref l,.int 0 0] }).get? b=some o:=fun b o e=>OZ _ e;refine OY ⟨Q1 d4 _,js (A:=A.in1) ((Walks.list hh3 h1.objs.size l hneI items).toS) s.heap.objs.size ?_ hu s.heap (hno _ (O0 _)) ?_ its hn hval hsz (items.size-0) 0 _ [] 0 rfl (Pq _) ⟨⟨_,Pc _ rfl,rfl,rfl⟩,⟨_,k2 _ _ hl2,rfl,nl,rfl⟩⟩ (fun b o e=>k2 _ _ (k1 b o e)) (fun x hx=>nomatch hx) (O0 _) ⟨_,#[],0,k2 _ _ hD1,?_,rfl,rfl,PZ⟩ ?_⟩
 .simp only[O8,Pd,SR,not_or];exact⟨Pt hlt1,RH hll⟩
 .intro b hb;simp only[O8,Pd,SR]at hb;subst hb;exact hno _ (Rq hlt1)
 .exact⟨rfl,rfl,rfl⟩
 .intro s' hm hS';obtain⟨h',g',d',tk',os'⟩:=s';have eg:g'=s.gens:=hm.gens;have ed:d'=s.drawn:=hm.drawn;have eo:os'=s.os:=hm.os;subst eg;subst ed;subst eo;refine⟨rfl,h h' tk' hS' fun b o hb e=>hm.heap b o ?_ (k2 _ _ (k1 _ _ e))⟩;simp only[O8,Pd,SR,not_or];exact⟨Pt hb,Pt (Nat.lt_trans hb hlt1)⟩
end
def fG (t kvs:List (List bC×V)):List (List bC×V):=kvs.foldl (fun t x=>bU t x.1 x.2) t
def k9 (H:Hp):List V->List (List bC×V)->Prop:=Paired fun v kv=>∃ p ka,v=.ref p/\H p=some (.tup [.ref ka,kv.2])/\H ka=some (.tup (kv.1.map kV))
section
variable {P:Tp}{w:World}{H:Hp}{h:Heap}
theorem oo (ok:HOk P w H h):∀{vs:List V}{us:List Tq}{kvs:List (List bC×V)},k9 H vs kvs->Vals vs us->
 ∃ its:List iT,its.length=us.length/\(∀(i:Nat)(v:Tq),us[i]?=some v->∃(p:Addr)(x:iT),v=.ref p/\its[i]?=some x/\h.IsTuple p #[.ref x.2.1,x.2.2]/\(tK P w).is h x.1 x.2.1)/\
  ∀ t xs,KT H t xs->KT H (fG t kvs) (vg xs its)
 |_,_,_,.nil,.nil=>⟨[],rfl,fun i v e=>by simp at e,fun t xs r=>r⟩
 |_,_,_,.cons (a:=v) (b:=kv) q t,.cons (b:=u) r s=>by
  obtain⟨its,hl,hv,hk⟩:=oo ok t s;obtain⟨p,ka,rfl,hp,hka⟩:=q;cases r;obtain⟨_,is,r2,ot,ho,hc,n,hd⟩:=(show ObjOk P w H h p (.tup [.ref ka,kv.2]) from ok p _ hp);obtain⟨u1,u2,rfl,ru1,ru2⟩:=u5 r2;cases ru1;refine⟨(kv.1,ka,u2)::its,by simp[hl],fun i v e=>?_,fun t xs rt=>?_⟩
  .cases i with
   |zero=>simp at e;subst e;exact⟨p,(kv.1,ka,u2),rfl,rfl,⟨ot,ho,hc,n,hd⟩,dP ok hka⟩
   |succ i=>exact hv i v (by simpa using e)
  .exact hk _ _ (rt.put kv.1 hka ru2)
theorem lR:∀(kvs t:List (List bC×V)),(fG t kvs).length<=t.length+kvs.length
 | [],t=>O0 _
 |x::r,t=>by have:=lR r (bU t x.1 x.2);have h2:=cO t x.1 x.2;show(fG (bU t x.1 x.2) r).length<=_;simp only[Pg];lia
end
section
variable {X:Cx}
theorem tP (hc:X.calm=true) (hu:X.A.units+64<cLine):cm X (.type "dict") (fun xs H Q=>∃ l vs kvs,xs=[.ref l]/\Rd H l (.lst vs)/\k9 H vs kvs/\∀ p,H p=none->Q (.ref p) (upd H p (.dT (fG [] kvs)))):=by
 intro ai s σ H xs us Q I r h;obtain⟨l,vs,kvs,rfl,hl,hp,q⟩:=h;obtain⟨u,rfl,ru⟩:=eZ r;obtain rfl:u=Value.ref l:=ru;obtain⟨hz,its,n,rv,hg⟩:=(show ObjOk X.prog X.w H s.heap l (.lst vs) from hl.ok I.be);obtain⟨pi,pl,pv,pk⟩:=oo I.be hp rv;have hsz:its.toArray.size<=sizeLine:=by rw[O7,<- rv.length];exact hz
 refine kW (I.ok.hd hc) (by show X.A.units+1+1<cLine;lia) hg (its:=pi) (by rw[pl,O7]) hsz (fun i v e=>pv i v (by simpa using e)) fun h' tk hD hk=>?_;have hf:H s.heap.objs.size=none:=I.be.fresh (O0 _);refine⟨.ref s.heap.objs.size,_,I.laid (a:=s.heap.objs.size) (o:=.dT (fG [] kvs)) (t':=tk) (fun b o e=>hk b o (Pa e) e) (O0 _) ?_,rfl,q _ hf⟩;obtain⟨o,es,ep,h1,h2,h3,h4,_,h5⟩:=hD;refine⟨?_,QU.mpr (Qn (Pt I.big)),vg [] pi,(pk [] [] .nil).keeps fun b ys e=>?_,o,es,ep,h1,h2,h3,h4,h5⟩
 .have:=lR kvs [];have h2:=Rt hp;simp only[QM]at this;lia
 .rw[aA (aB e hf)];exact e
end
end L2
namespace L2
open PySem PySem.Spec PySem.Calls PyProof.Rows PySem.W Builtin Builtin.ObjectAttr Builtin.Getset_descriptor
end L2
namespace L2
open PySem PySem.Spec PySem.Calls PyProof.Rows
section
theorem Inv.MQ (I:Inv X ai σ H s)(e:H a=some (.dK [])):Inv X ai σ (upd H a (.dT [])) s:=by
 obtain⟨z,y,vs,r,o,es,ep,h1,h2,h3,h4,h5⟩:=(show ObjOk X.prog X.w H s.heap a (.dK []) from I.be a _ e);cases r;exact I.write (x:=a) (e:=a) (t':=s.toks) (h':=s.heap) (by rw[e];exact True.intro) (.inl rfl) (fun b u _ q=>q) ⟨o,h1⟩ ⟨z,y,[],.nil,o,es,ep,h1,h2,h3,(by
  generalize es.toList=l at h5;obtain⟨h5,_⟩:=h5;cases l with
  |nil=>rfl
  |cons x r=>cases h5),PZ⟩
end
def EI (H:Hp)(a:Addr)(y:V)(r:Option V):Prop:=DGet H a y r\/(Rd H a (.dT [])/\(∃ k,y=kV k)/\r=none)\/(Rd H a (.dK [])/\(∃(b:Addr)(k:List bC),y=.ref b/\H b=some (.tup (k.map kV)))/\r=none)
section
theorem pq (x:ObjOk P w H h a (.dT [])):(a==sysModules)=false/\h.DictOf (aV P w) a []:=by
 obtain⟨z,y,xs,r,o,es,ep,h1,h2,h3,h4,h5⟩:=x;cases r;have e:es=#[]:=by grind
 subst e;exact⟨y,o,#[],ep,h1,h2,h3,fun x hx=>by simp at hx,by constructor,PZ⟩
theorem FN (x:ObjOk P w H h a (.dK [])):(a==sysModules)=false/\h.DictOfH (tupleKind (aV P w)) a []:=by
 obtain⟨z,y,vs,r,o,es,ep,h1,h2,h3,h4,h5⟩:=x;cases r;refine⟨y,o,es,ep,h1,h2,h3,?_,fun x hx=>(nomatch hx),PZ⟩;generalize es.toList=l at h5;obtain⟨h5,_⟩:=h5;cases l with
 |nil=>rfl
 |cons x r=>cases h5
theorem Ir (hu:A.units+1<cLine)(I:Inv X ai σ H s)(g:EI H a y o)(ry:RelV y u)(h:∀ s',Inv X ai σ H s'->Q (.bool o.isSome) s') :
 wpAny (model X.prog X.w) A (compareOp .In u (.ref a)) Q E s:=by
 rcases g with g|⟨e,⟨k,rfl⟩,rfl⟩|⟨e,⟨b,k,rfl,eb⟩,rfl⟩
 .exact Ll hu I g ry h
 .obtain⟨y,dd⟩:=pq (e.ok I.be);exact wpAny_in_of (iQ ry) y dd.mapOf (h _ (I.tok _))
 .obtain rfl:u=Value.ref b:=ry;obtain⟨y,dd⟩:=FN (e.ok I.be);exact wpAny_in_heap (Rc hu) (dP I.be eb) y dd (h _ (I.tok _))
end
noncomputable def nC:HO->Prop
 | .dK _=>True
 | .dT _=>True
 |_=>False
section
theorem Inv.view (I:Inv X ai σ H s)(hn:∀ b,H b=none->H' b=none)(ht:∀ b xs,H b=some (.tup xs)->H' b=some (.tup xs))(hf:∀ b o u,X.H₀ b=some (.cj o u)->H' b=some (.cj o u))
 (hb:∀ b ps,H b=some (.qz ps)->H' b=some (.qz ps)) (be:HOk X.prog X.w H' s.heap):Inv X ai σ H' s where
 ok:=I.ok
 os:=I.os
 bare:=I.bare
 base:=⟨I.base.keep,I.base.slot,fun b o e n hx=>hn b (I.base.free b o e n hx),I.base.there,fun b xs e=>ht b xs (I.base.iJ b xs e),hf,fun b ps e=>let ⟨m,q⟩:=I.base.m5 b ps e;⟨m,hb b _ q⟩⟩
 loc:=I.loc
 cell:=I.cell
 free:=hn _ I.free
 gb:=fun x c e=>hn c (I.gb x c e)
 pin:=fun p hp=>let ⟨a,b,c⟩:=I.pin p hp;⟨a,hn _ b,c⟩
 be:=be
 len:=I.len
theorem vh (ok:HOk P w H h)(hd:∃ u,H d=some u/\(∀ y,u≠.own y)/\∀ xs,u≠.tup xs)(new:ObjOk P w (upd H d u') h d u'):HOk P w (upd H d u') h:=fun b v e=>by
 obtain⟨u,hu,h1,h2⟩:=hd;by_cases hb:b=d
 .subst hb;rw[aj]at e;cases e;exact new
 .rw[aA hb]at e;refine(ok b v e).stay (fun _ _ _ q=>q) (fun c q=>?_) fun c xs q=>?_
  .rw[aA]
   .exact q
   .rintro rfl;rw[hu]at q;cases q;exact h1 _ rfl
  .rw[aA]
   .exact q
   .rintro rfl;rw[hu]at q;cases q;exact h2 _ rfl
theorem vi (h:nC u):(∀ y,u≠.own y)/\(∀ xs,u≠.tup xs)/\(∀ ps,u≠.qz ps)/\∀ o v,u≠.cj o v:=by cases u<;>first|exact h.elim|exact⟨fun _ z=>(nomatch z),fun _ z=>(nomatch z),fun _ z=>(nomatch z),fun _ _ z=>(nomatch z)⟩
theorem oq (hu:nC u)(x:ObjOk P w H h d u)(ht:∀ b xs,H b=some (.tup xs)->H' b=some (.tup xs)):ObjOk P w H' h d u:=by
 cases u with
 |dK kvs=>exact x
 |dT kvs=>obtain⟨z,y,xs,r,q⟩:=x;exact⟨z,y,xs,Paired.Hx r fun p q z=>⟨z.1,ht _ _ z.2.1,z.2.2⟩,q⟩
 |_=>exact hu.elim
theorem Inv.cj (I:Inv X ai σ H s)(e:H d=some u)(hu:nC u)(ho:s.heap.get? d=some o):Inv X ai σ (upd H d (.cj o u)) s:=by
 obtain⟨n1,n2,n3,n4⟩:=vi hu;have ht:∀ b xs,H b=some (.tup xs)->upd H d (.cj o u) b=some (.tup xs):=fun b xs q=>by
  rw[aA]
  .exact q
  .rintro rfl;rw[e]at q;cases q;exact n2 _ rfl
 refine I.view (fun b hb=>?_) ht (fun b o' u' q=>?_) (fun b ps q=>?_) (vh I.be ⟨u,e,n1,n2⟩ ⟨ho,oq hu (I.be d u e) ht⟩)
 .rw[aA]
  .exact hb
  .rintro rfl;rw[e]at hb;cases hb
 .have q:=I.base.jg b o' u' q;rw[aA]
  .exact q
  .rintro rfl;rw[e]at q;cases q;exact n4 _ _ rfl
 .rw[aA]
  .exact q
  .rintro rfl;rw[e]at q;cases q;exact n3 _ rfl
theorem Inv.E_ (I:Inv X ai σ H s)(e:H d=some u)(hu:nC u):∀ o v,X.H₀ d≠some (.cj o v):=fun o v q=>by have:=I.base.jg d o v q;rw[e]at this;cases this;exact(vi hu).2.2.2 _ _ rfl
theorem Inv.Kt (I:Inv X ai σ H s)(e:H d=some (.cj o u))(hu:nC u)(hn:∀ o v,X.H₀ d≠some (.cj o v)):Inv X ai σ (upd H d u) s:=by
 have ht:∀ b xs,H b=some (.tup xs)->upd H d u b=some (.tup xs):=fun b xs q=>by
  rw[aA]
  .exact q
  .rintro rfl;rw[e]at q;cases q
 have x:ObjOk X.prog X.w H s.heap d u:=(show ObjOk X.prog X.w H s.heap d (.cj o u) from I.be d _ e).2;refine I.view (fun b hb=>?_) ht (fun b o' u' q=>?_) (fun b ps q=>?_) (vh I.be ⟨_,e,fun _ z=>(nomatch z),fun _ z=>(nomatch z)⟩ (oq hu x ht))
 .rw[aA]
  .exact hb
  .rintro rfl;rw[e]at hb;cases hb
 .have q2:=I.base.jg b o' u' q;rw[aA]
  .exact q2
  .rintro rfl;exact hn _ _ q
 .rw[aA]
  .exact q
  .rintro rfl;rw[e]at q;cases q
end
theorem CS (h:(aV P w).is k u=true):RelV (kV k) u:=by
 rcases bA (show iO k u=true from h) with⟨i,t,rfl,rfl⟩|⟨x,t,rfl,rfl⟩
 .exact⟨t,rfl⟩
 .exact⟨t,rfl⟩
section
def Lm (X:Cx)(D:Ends):Ends where
 nx:=fun σ H=>D.nx σ H\/∃ d o u,H d=some (.cj o u)/\nC u/\(∀ o v,X.H₀ d≠some (.cj o v))/\D.nx σ (upd H d u)
 rt:=D.rt
 bk:=D.bk
 ct:=D.ct
theorem zh {st:Stmt}(h:PS X st t):PS X st (fun D σ H=>t (Lm X D) σ H):=by
 intro ai s σ H D I q;refine bX (h ai s σ H _ I q) fun f s' r=>?_;cases f with
 |next=>
  obtain⟨σ',H',I',r⟩:=r;rcases r with r|⟨d,o,u,e,hu,hn,r⟩
  .exact⟨σ',H',I',r⟩
  .exact⟨σ',_,I'.Kt e hu hn,r⟩
 |_=>exact r
end
section
theorem FO (I:Inv X ai σ H s)(e:Rd H a (.dK kvs)\/(Rd H a (.dT [])/\kvs=[])) :
 kvs.length<=sizeLine/\(a==sysModules)=false/\∃ vs,KV kvs vs/\s.heap.DictOf (aV X.prog X.w) a vs:=by
 rcases e with e|⟨e,rfl⟩
 .exact jm I.be e
 .obtain⟨y,dd⟩:=pq (e.ok I.be);exact⟨Pq _,y,[],.nil,dd⟩
end
section
theorem FP {k:bC}{key dflt:Tq}{Q:Tq->Tn->Prop}(fQ:(aV prog w).is k key=true)(hm:s.heap.DictOf (aV prog w) d vs)(hn0:valueAt vs k=none)
 (h:∀ h',h'.DictOf (aV prog w) d (stored vs k dflt)->Heap.SameBut d s.heap h'->Q dflt { s with heap:=h',toks:=s.toks+1 }) (hsz:vs.length<=sizeLine):wpAny (model prog w) A (dictSetDefault d key dflt) Q E s:=by
 obtain⟨o,es,ep,ho,hc,hd,hk,hp,hn⟩:=hm;have hes:es.size<=sizeLine:=by
  have e1:=hp.length;have e2:es.toList.length=es.size:=by simp
  lia
 have hnone:vs.findIdx? (fun kv=>decide (kv.1=k))=none:=by
  rw[List.findIdx?_eq_none_iff];intro x hx;refine Pp fun e=>?_;have:(valueAt vs k).isSome=true:=by unfold valueAt;rw[S_,List.find?_isSome];exact⟨x,hx,O_ e⟩
  rw[hn0]at this;cases this
 have hidx:(es.findIdx? fun e=>(aV prog w).is k e.key)=none:=by
  have:(es.findIdx? fun e=>(aV prog w).is k e.key)=vs.findIdx? fun kv=>decide (kv.1=k):=by rw[<- hp.findIdx k];obtain⟨l⟩:=es;simp
  rw[this];exact hnone
 have hnot:k∉vs.map (·.1):=not_mem_of_findIdx_none hnone;have hany:¬ (vs.any fun kv=>decide (kv.1=k))=true:=by rw[List.any_eq_true];rintro⟨kv,hkv,he⟩;exact hnot (Pb.mpr ⟨kv,hkv,PD he⟩)
 unfold dictSetDefault
 try with_reducible refine Qd ?_
 refine KE ((aV prog w).pyHash fQ ?_);refine KE (wpAny_dictFind_of (s:={ s with toks:=s.toks+1 }) fQ ho hd hk ?_);rw[hidx];refine KE (Sz (KE (wpAny_updateDictKeys (hz:=hes) (s:={ s with toks:=s.toks+1 }) ho hd (OY (h _ ⟨_,_,ep+1,Qm _ ho (Obj.isFreed_of_dict (RU hd _)),hc.mapDictKeys _,RU hd _,hk.push fQ _,?_,?_⟩ (P_ ..))))))
 .rw[stored,Pl hany];have:=hp.append fQ ((aV prog w).hash k) dflt;obtain⟨l⟩:=es;simpa using this
 .rw[stored,Pl hany,PX,Q8];refine⟨hn,by simp,?_⟩;intro a ha b hb;simp only[Ph,Rr,O9]at hb;subst hb;exact fun e=>hnot (e▸ha)
end
section
def EJ:V->List V->Hp->VK->Prop:=fun x xs H Q=>∃ a k y kvs,x=.ref a/\xs=[kV k,y]/\(H a=some (.dK kvs)\/(H a=some (.dT [])/\kvs=[]))/\kvs.length<sizeLine/\
 ((∃ v,cw kvs k=some v/\Q v H)\/(cw kvs k=none/\Q y (upd H a (.dK (bU kvs k y)))))
theorem CU:FI X "dict.setdefault" EJ:=by
 intro ai s σ H x xs v us Q I rx rs q;obtain⟨a,k,y,kvs,rfl,rfl,ha,hz,q⟩:=q;obtain rfl:v=Value.ref a:=rx;obtain⟨u1,u2,rfl,ru1,ru2⟩:=u5 rs;obtain⟨z1,y1,vs,r1,d1⟩:=FO I (ha.imp .inl fun⟨e,w⟩=>⟨.inl e,w⟩);have fQ:=iQ (P:=X.prog) (w:=X.w) ru1;refine Qj Qg d1.typeIs SN ?_ (SK _ _ _);unfold Builtin.«dict.setdefault»;refine KE ?_;unfold Builtin.Dict.keyAndDefault;refine KE (RK d1.typeIs (show wpAny _ _ (pure (a,u1,some u2)) _ _ s from OY ?_));show wpAny _ _ (if (a==sysModules)=true then _ else (dictSetDefault a u1 u2 >>= _)) _ _ s;rw[Pl (by grind)];have bL:vs.length<=sizeLine:=by rw[<- r1.length];lia
 have dle:s.heap.DictLe a sizeLine:=fun o es ep ho hd=>by
  obtain⟨o',es',ep',ho',_,hd',_,hp,_⟩:=id d1;rw[ho]at ho';cases ho';rw[hd]at hd';cases hd';have e1:=hp.length;have e2:es.toList.length=es.size:=by simp
  lia
 have rv:=r1.val k;rcases q with⟨v,hv,q⟩|⟨hv,q⟩
 .obtain⟨w',hw,rw'⟩:=RelO.some_of (v:=v) (o:=valueAt vs k) (by grind);refine KE (wpAny_dictSetDefault_of (hz:=dle) fQ d1.mapOf (fun v' e=>?_) fun e=>?_)
  .rw[hw]at e;cases e;exact OY ⟨_,rfl,v,H,I.tok _,rw',q⟩
  .rw[hw]at e;cases e
 .have hn0:valueAt vs k=none:=by
   have:=rv.eU;rw[hv]at this;cases z:valueAt vs k with
   |none=>rfl
   |some _=>rw[z]at this;cases this
  refine KE (FP fQ d1 hn0 (fun h' dd' hs=>OY ⟨_,rfl,?_⟩) bL);have he:∃ q,h'.get? a=some q:=let ⟨q,_,_,hq,_⟩:=dd';⟨q,hq⟩;have mu:HK (H a):=by rcases ha with e|⟨e,_⟩<;>(rw[e];exact True.intro)
  have hl:(bU kvs k y).length<=sizeLine:=by have:=cO kvs k y;lia
  exact⟨y,_,ik (t':=s.toks+1) I mu hs he (o_ hl y1 (r1.put k ru2) dd'),ru2,q⟩
end
noncomputable def MZ (K:To)(a:Addr)(n:Nat):It:=⟨fun i H=>∃ xs,SqL K H a xs/\xs.length=n/\i<n,fun i H x H'=>H'=H/\∀ xs,SqL K H a xs->xs[n-1-i]?=some x,fun i H=>n<=i⟩
theorem zi {K:To}{tg:Expr}(a it:Addr)(n:Nat):Turn P w K tg (MZ K a n) [it] it (fun i h=>i<=n/\h.IsRevIter it a ((n:Int)-1-i)) where
 mem:=by simp
 obj:=fun i h st b hb=>by
  have e:b=it:=by simpa using hb
  subst e;obtain⟨_,o,e,c,d⟩:=st;exact⟨o,e,fun v z=>by rw[d]at z;cases z⟩
 keep:=fun i h h' st k=>⟨st.1,st.2.at fun o e=>k it (by simp) o e⟩
 item:=by
  intro X hP hw hK hc i ai s σ H E I hf st hg;subst hP hw hK;obtain⟨xs,hq,hn,hi⟩:=hg;obtain⟨its,rv,p,hz⟩:=I.list hq;have hx:xs[n-1-i]?=some xs[n-1-i]:=by simp[show n-1-i<xs.length by lia]
  obtain⟨u,hu,ru⟩:=rv.get hx;obtain⟨f0,f1,f2,f3,f4,f5⟩:=hf it (by simp);have ei:(n:Int)-1-i=((n-1-i:Nat):Int):=by lia
  have st2:=st.2;rw[ei]at st2;refine wpAny_pyNext_rev_item st2 p.isList (x:=u) (by simpa using hu) fun h' st' sb=>?_;have I1:Inv X ai σ H { s with heap:=h' }:=I.turned (t':=s.toks) (fun b o hb e=>(sb.2 b hb).trans e) f0 f1 f3 f4 f5;obtain⟨o,e,c,d⟩:=id st';have e2:((n-1-i:Nat):Int)-1=(n:Int)-1-((i+1:Nat):Int):=by lia
  exact⟨u,rfl,yK (s:={ s with heap:=h' }) e c d (by decide) ⟨xs[n-1-i],H,I1,ru,⟨rfl,fun ys hy=>by rw[I.m_ hy hq];exact hx⟩,⟨by lia,by rw[<- e2];exact st'⟩,fun b hb=>(hf b hb).1⟩⟩
 done:=by intro X hP hw hK hc i ai s σ H E I hf st hg;subst hP hw hK;obtain⟨f0,f1,f2,f3,f4,f5⟩:=hf it (by simp);have hin:i=n:=Nat.le_antisymm st.1 hg;have st2:=st.2;rw[hin,show(n:Int)-1-(n:Nat)=-1 by lia]at st2;exact wpAny_pyNext_rev_end (I.ok.hd hc) st2 fun h' eb=>⟨rfl,I.turned (t':=s.toks) (fun b o hb e=>eb b o hb e) f0 f1 f3 f4 f5⟩
 self:=fun _ _ _ _ _ st h=>wpAny_pyIter_revIter st.2 h
section
variable {X:Cx}{tg:Expr}
def Iu (K:To)(ta:TA):TI:=fun σ H R=>ta σ H fun vs H1=>∃ a xs,vs=[.ref a]/\SqL K H1 a xs/\R (MZ K a xs.length) H1
theorem FQ {ta:TA} {p pos:Pos} (hg:Gl X "reversed") (hm:X.mg "reversed"=none) (ha:PA X [l] ta) (hs:autoParam (starEach [l] X.env=[(false,eval l X.env)]) TB._auto_1):PI X tg (.Call (.Name "reversed" p) [l] [] pos) (Iu X.K ta):=by
 intro ai s σ H R I h;refine Call_ (i5 I hg hm boot_reversed (Q9 (bX (ha pos ai s σ H _ I h) fun us s1 ⟨vs,H1,I1,r1,q1⟩=>?_) hs rfl));obtain⟨a,xs,rfl,hq,q⟩:=q1;obtain⟨u,rfl,ru⟩:=eZ r1;obtain rfl:u=Value.ref a:=ru;obtain⟨its,rv,pl,hz⟩:=I1.list hq;refine call_reversed_list pl.isList ?_;have hn:(its.toArray.size:Int)-1=(xs.length:Int)-1-((0:Nat):Int):=by rw[O7,<- rv.length];simp
 have st0:(s1.heap.push (revObj a ((its.toArray.size:Int)-1))).IsRevIter s1.heap.objs.size a ((xs.length:Int)-1-((0:Nat):Int)):=⟨_,Pc _ rfl,rfl,by rw[<- hn];rfl⟩;refine wpAny_pyIter_revIter st0 ?_;refine⟨s1.heap.objs.size,[s1.heap.objs.size],_,_,H1,rfl,I1.kept (t':=s1.toks) fun b o e=>OZ _ e,zi a _ xs.length,⟨Pq _,st0⟩,fun b hb=>?_,q⟩;have e:b=s1.heap.objs.size:=by simpa using hb
 subst e;exact I1.qw (O0 _) (I1.be.fresh (O0 _))
end
end L2
namespace ST
open PySem PySem.SetTable
noncomputable def st (m:Nat)(h:Int):Probe:={ j:=bits h % (m+1),more:=runEnd m (bits h % (m+1))-bits h % (m+1),i:=bits h % (m+1),perturb:=bits h,dummy:=none }
noncomputable def rs (m:Nat)(p:Nat×Nat):Probe:={ j:=p.1,more:=runEnd m p.1-p.1,i:=p.1,perturb:=p.2,dummy:=none }
noncomputable def tQ (m:Nat)(p:Probe):Probe:=if p.more>0 then { p with j:=p.j+1,more:=p.more-1 } else { p with j:=(leap m p.i p.perturb).1,more:=runEnd m (leap m p.i p.perturb).1-(leap m p.i p.perturb).1,i:=(leap m p.i p.perturb).1,perturb:=(leap m p.i p.perturb).2 }
theorem tR (t:SetTable)(p:Probe):t.advance p=tQ t.mask p:=rfl
def it (m:Nat):Nat->Probe->Probe
 |0,p=>p
 |n+1,p=>it m n (tQ m p)
theorem e_ (m:Nat):∀(a b:Nat)(p:Probe),it m (a+b) p=it m b (it m a p):=by intro a b;induction a<;>grind [it,tQ]
theorem CV (m n:Nat)(p:Probe):it m (n+1) p=tQ m (it m n p):=e_ m n 1 p
structure Va (m:Nat) (p:Probe):Prop where
 i:p.i<=m
 more:p.more<=9
 j:p.j+p.more<=m
 q:p.perturb<2 ^ 64
 d:p.dummy=none
theorem px (h:Int):bits h<2 ^ 64:=by
 unfold bits
 grind
theorem i7 (m i:Nat)(h:i<=m):runEnd m i-i<=9/\i+(runEnd m i-i)<=m:=by unfold runEnd;split<;>lia
theorem Va.rs (h1:p.1<=m)(h2:p.2<2 ^ 64):Va m (rs m p):=⟨h1,(i7 m _ h1).1,(i7 m _ h1).2,h2,rfl⟩
theorem Va.st (m:Nat)(h:Int):Va m (st m h):=by have:bits h % (m+1)<=m:=Ta (Tl _ (Nat.succ_pos m));exact⟨this,(i7 m _ this).1,(i7 m _ this).2,px h,rfl⟩
theorem pA (m i q:Nat):(leap m i q).1<=m:=by exact Ta (Tl _ (Nat.succ_pos m))
theorem tS (m i q:Nat):(leap m i q).2=q / 32:=rfl
theorem Va.tQ (v:Va m p):Va m (tQ m p):=by
 unfold ST.tQ;split
 .exact⟨v.i,by dsimp only;have:=v.more;lia,by dsimp only;have:=v.j;lia,v.q,v.d⟩
 .have l:=pA m p.i p.perturb;exact⟨l,(i7 m _ l).1,(i7 m _ l).2,by dsimp only;rw[tS];have:=v.q;have:=Nat.div_le_self p.perturb 32;lia,v.d⟩
theorem Va.it:∀{n:Nat}{p:Probe},Va m p->Va m (it m n p)
 |0,_,v=>v
 |n+1,_,v=>Va.it (n:=n) v.tQ
theorem Va.Nv (v:Va m p):p.j<=m:=by have:=v.j;lia
theorem k_:∀(k:Nat)(p:Probe),p.more=k->Va m p->it m (k+1) p=rs m (leap m p.i p.perturb):=by intro k;induction k<;>grind [Va,it,rs,tQ]
noncomputable def lp (m:Nat):Nat->Nat×Nat->Nat×Nat
 |0,p=>p
 |n+1,p=>lp m n (leap m p.1 p.2)
theorem FR (m:Nat):∀(a b:Nat)(p:Nat×Nat),lp m (a+b) p=lp m b (lp m a p):=by intro a b;induction a<;>grind [lp]
theorem Iv (m:Nat):∀(n:Nat)(p:Nat×Nat),(lp m n p).2=p.2 / 32 ^ n
 |0,p=>by simp[lp]
 |n+1,p=>by show(lp m n (leap m p.1 p.2)).2=_;rw[Iv m n,tS,Nat.div_div_eq_div_mul,Nat.pow_succ,Nat.mul_comm]
theorem EK (m:Nat):∀(n:Nat)(p:Nat×Nat),p.1<=m->(lp m n p).1<=m
 |0,p,h=>h
 |n+1,p,_=>EK m n _ (pA m _ _)
theorem rf:∀(L:Nat)(p:Probe),Va m p->∃ n,n<=10*(L+1)/\it m n p=rs m (lp m (L+1) (p.i,p.perturb))
 |0,p,v=>⟨p.more+1,by have:=v.more;lia,k_ _ p rfl v⟩
 |L+1,p,v=>by
  have h1:=k_ _ p rfl v;have v1:Va m (rs m (leap m p.i p.perturb)):=by rw[<- h1];exact v.it
  obtain⟨n,hn,e⟩:=rf L _ v1;refine⟨p.more+1+n,by have:=v.more;lia,?_⟩;rw[e_,h1,e];rfl
noncomputable def f5 (m i:Nat):Nat:=(i*5+1) % (m+1)
def fN (m:Nat):Nat->Nat->Nat
 |0,i=>i
 |n+1,i=>fN m n (f5 m i)
def zj (m:Nat):Nat->Nat->List Nat
 |0,_=>[]
 |n+1,i=>i::zj m n (f5 m i)
theorem rg (m:Nat):∀(n i k:Nat),k<n->(zj m n i)[k]?=some (fN m k i)
 |n+1,i,0,_=>rfl
 |n+1,i,k+1,h=>rg m n _ k (by lia)
theorem rh (m:Nat):∀(n i:Nat),(zj m n i).length=n
 |0,_=>rfl
 |n+1,i=>by show(zj m n _).length+1=_;rw[rh]
theorem pB (m:Nat):∀(a b i:Nat),fN m (a+b) i=fN m b (fN m a i)
 |0,b,i=>by rw[Nat.zero_add];rfl
 |a+1,b,i=>by rw[Nat.succ_add];exact pB m a b _
def Lo (m:Nat):Bool:=((List.range (m+1)).all fun j=>(zj m (m+1) 0).contains j)&&(fN m (m+1) 0==0)
def sP (m:Nat):Prop:=m=7\/m=31\/m=127\/m=511
theorem vj (h:sP m):Lo m=true:=by rcases h with rfl|rfl|rfl|rfl<;>decide +kernel
theorem zl (h:sP m)(hj:j<=m):∃ n,n<=m/\fN m n 0=j:=by have:=vj h;unfold Lo at this;simp only[QP,Rx]at this;have h1:=this.1 j (PY.mpr (by lia));rw[List.contains_iff_mem,Pj]at h1;obtain⟨n,hn⟩:=h1;have hl:=(O3.mp hn).1;rw[rh]at hl;rw[rg m _ _ _ hl]at hn;exact⟨n,by lia,Ps hn⟩
theorem FS (h:sP m)(hi:i<=m)(hj:j<=m):∃ n,n<=m/\fN m n i=j:=by
 obtain⟨a,ha,ea⟩:=zl h hi;obtain⟨b,hb,eb⟩:=zl h hj;by_cases hab:a<=b
 .refine⟨b-a,by lia,?_⟩;rw[<- ea,<- pB,show a+(b-a)=b by lia,eb]
 .refine⟨m+1+b-a,by lia,?_⟩;have z:=vj h;unfold Lo at z;simp only[QP,Sv]at z;rw[<- ea,<- pB,show a+(m+1+b-a)=m+1+b by lia,pB,z.2,eb]
theorem vk (m:Nat):∀(n i:Nat),lp m n (i,0)=(fN m n i,0)
 |0,_=>rfl
 |n+1,i=>by show lp m n (leap m i 0)=_;have:leap m i 0=(f5 m i,0):=rfl;rw[this];exact vk m n _
theorem ri (h:sP m)(hj:j<=m)(p:Nat×Nat)(h1:p.1<=m)(h2:p.2<2 ^ 64):∃ n,13<=n/\n<=m+13/\(lp m n p).1=j:=by
 have hp13:(2:Nat) ^ 64<32 ^ 13:=by decide
 have hq:(lp m 13 p).2=0:=by rw[Iv];exact Nat.div_eq_of_lt (by lia)
 obtain⟨n,hn,e⟩:=FS h (EK m 13 p h1) hj;refine⟨13+n,by lia,by lia,?_⟩;rw[FR]
 grind [lp,vk]
theorem EL (h:sP m)(hj:j<=m)(v:Va m p):∃ n,n<10*turns m/\(it m n p).j=j:=by obtain⟨L,h1,h2,e⟩:=ri h hj (p.i,p.perturb) v.i v.q;obtain⟨n,hn,en⟩:=rf (L-1) p v;rw[show L-1+1=L by lia]at en hn;refine⟨n,by unfold turns;lia,?_⟩;rw[en];exact e
def CW (xs:List Nat):Prop:=xs.Pairwise (·< ·)
theorem lS (hr:CW xs.toList):∀(fuel lo hi:Nat),lo<=hi->hi<=xs.size->hi-lo<=fuel->
 (∀ i (h:i<xs.size),i<lo->xs[i]<j)->(∀ i (h:i<xs.size),hi<=i->j<=xs[i])->
 below.go xs j fuel lo hi<=xs.size/\(∀ i (h:i<xs.size),i<below.go xs j fuel lo hi->xs[i]<j)/\∀ i (h:i<xs.size),below.go xs j fuel lo hi<=i->j<=xs[i]
 |0,lo,hi,h1,h2,h3,h4,h5=>by
  have:lo=hi:=by lia
  subst this;exact⟨h2,h4,h5⟩
 |f+1,lo,hi,h1,h2,h3,h4,h5=>by
  have mono:∀ a b (ha:a<xs.size) (hb:b<xs.size),a<=b->xs[a]<=xs[b]:=by
   intro a b ha hb hab;rcases Nat.lt_or_eq_of_le hab with h|h
   .have:=Pw.mp hr a b (by simpa using ha) (by simpa using hb) h;simpa using Rq this
   .subst h;exact O0 _
  unfold below.go;by_cases hc:lo<hi
  .rw[Pi hc];have hm:(lo+hi) / 2<xs.size:=by lia
   have eg:xs.getD ((lo+hi) / 2) j=xs[(lo+hi) / 2]:=by simp[Array.getD,hm]
   dsimp only;rw[eg];by_cases hq:xs[(lo+hi) / 2]<j
   .rw[Pi hq];refine lS hr f _ _ (by lia) h2 (by lia) (fun i h hi'=>?_) h5;exact Qe (mono i _ h hm (by lia)) hq
   .rw[Pl hq];refine lS hr f _ _ (by lia) (by lia) (by lia) h4 fun i h hi'=>?_;exact Pu (by lia) (mono _ i hm h hi')
  .rw[Pl hc];have:lo=hi:=by lia
   subst this;exact⟨h2,h4,h5⟩
theorem cL (j:Nat)(hr:CW xs.toList):below xs j<=xs.size/\(∀ i (h:i<xs.size),i<below xs j->xs[i]<j)/\∀ i (h:i<xs.size),below xs j<=i->j<=xs[i]:=by unfold below;exact lS hr xs.size 0 xs.size (Pq _) (O0 _) (by lia) (fun i h z=>by lia) fun i h z=>by lia
theorem zn (hr:CW xs.toList)(h:i<xs.size):below xs xs[i]=i:=by
 obtain⟨a,b,c⟩:=cL xs[i] hr;rcases SB (below xs xs[i]) i with q|q|q
 .have hb:below xs xs[i]<xs.size:=by lia
  have h1:=c (below xs xs[i]) hb (O0 _);have h2:=Pw.mp hr _ i (by grind) (by grind) q;simp at h2;lia
 .exact q
 .have:=b i h q;lia
theorem ou (j:Nat):has #[] j=false:=rfl
structure Tb (t:SetTable):Prop where
 Fe:sP t.mask
 HV:t.dummies=#[]
 sK:CW t.place.toList
 le:∀ j∈t.place.toList,j<=t.mask
theorem oz (h:Tb t)(hi:i<t.place.size):t.slot t.place[i]=.live i:=by unfold slot;dsimp only;rw[zn h.sK hi];rw[Pi];simp[hi]
theorem tT (h:Tb t)(hj:j∉t.place.toList):t.slot j=.empty:=by
 unfold slot;dsimp only;rw[Pl,h.HV,ou]
 .rfl
 .grind
theorem tU (h:Tb t)(j:Nat):(j∉t.place.toList/\t.slot j=.empty)\/∃ i,∃ hi:i<t.place.size,t.place[i]=j/\t.slot j=.live i:=by
 by_cases hj:j∈t.place.toList
 .right;obtain⟨i,hi,e⟩:=RV.mp hj;have hi':i<t.place.size:=by simpa using hi
  have e':t.place[i]=j:=by simpa using e
  exact⟨i,hi',e',by rw[<- e'];exact oz h hi'⟩
 .exact .inl ⟨hj,tT h hj⟩
def Lv (t:SetTable)(j:Nat):Prop:=j∈t.place.toList
inductive h8 (t:SetTable) (ha:Nat->Int) (h:Int) (p:Probe):Option Met->Prop
 |em (n:Nat) (e:¬ Lv t (it t.mask n p).j) (b:∀ k,k<n->∃ i,∃ hi:i<t.place.size,t.place[i]=(it t.mask k p).j/\ha i≠h):h8 t ha h p (some (.empty (it t.mask n p).j none))
 |ca (n i:Nat) (hi:i<t.place.size) (e:t.place[i]=(it t.mask n p).j) (q:ha i=h) (b:∀ k,k<n->∃ i,∃ hi:i<t.place.size,t.place[i]=(it t.mask k p).j/\ha i≠h) :
  h8 t ha h p (some (.candidate (it t.mask n p).j i (it t.mask (n+1) p)))
theorem rj (h:Tb t)(ha:Nat->Int)(x:Int):∀(fuel:Nat)(p:Probe),Va t.mask p->(∃ n,n<fuel/\¬ Lv t (it t.mask n p).j)->h8 t ha x p (probe.go t ha x fuel p)
 |0,p,v,⟨n,hn,_⟩=>by lia
 |f+1,p,v,⟨n,hn,he⟩=>by
  unfold probe.go;rcases tU h p.j with⟨h1,e⟩|⟨i,hi,h1,e⟩
  .rw[e];dsimp only;have:=h8.em (t:=t) (ha:=ha) (h:=x) (p:=p) 0 h1 fun k hk=>by lia
   rw[v.d];exact this
  .rw[e];dsimp only;by_cases hq:ha i=x
   .rw[Pi (by simpa using hq)];exact h8.ca (t:=t) (ha:=ha) (h:=x) (p:=p) 0 i hi h1 hq fun k hk=>by lia
   .rw[Pl (by simpa using hq),tR];have hn0:n≠0:=by rintro rfl;exact he (by show p.j∈t.place.toList;rw[<- h1];simp)
    have ih:=rj h ha x f (tQ t.mask p) v.tQ ⟨n-1,by lia,by
     have:it t.mask (n-1) (tQ t.mask p)=it t.mask n p:=by show _=it t.mask n p;rw[show n=(n-1)+1 by lia];rfl
     rw[this];exact he⟩
    have shift:∀{nn:Nat},(∀ k,k<nn->∃ i,∃ hi:i<t.place.size,t.place[i]=(it t.mask k (tQ t.mask p)).j/\ha i≠x)->∀ k,k<nn+1->∃ i,∃ hi:i<t.place.size,t.place[i]=(it t.mask k p).j/\ha i≠x:=by
     intro nn b k hk;cases k with
     |zero=>exact⟨i,hi,h1,hq⟩
     |succ k=>exact b k (by lia)
    generalize probe.go t ha x f (tQ t.mask p)=rr at ih;cases ih with
    |em n' e' b=>exact h8.em (t:=t) (ha:=ha) (h:=x) (p:=p) (n'+1) e' (shift b)
    |ca n' i' hi' e' q' b=>exact h8.ca (t:=t) (ha:=ha) (h:=x) (p:=p) (n'+1) i' hi' e' q' (shift b)
theorem lU:∀(l1 l2:List Nat),l1.Nodup->(∀ x∈l1,x∈l2)->l1.length<=l2.length
 | [],_,_,_=>Pq _
 |a::l1,l2,nd,hs=>by
  have ha:a∈l2:=hs a (O5 ..);have ih:=lU l1 (l2.erase a) (Qk.mp nd).2 fun x hx=>by grind
  grind
theorem lV (h:Tb t)(hs:t.place.size<=t.mask):∃ j,j<=t.mask/\¬ Lv t j:=by refine QW fun hn=>?_;have iI:∀ j,j<=t.mask->j∈t.place.toList:=fun j hj=>QW fun z=>hn ⟨j,hj,z⟩;have:=lU (List.range (t.mask+1)) t.place.toList Sa fun j hj=>iI j (by grind);simp at this;lia
theorem lW (h:Tb t)(hs:t.place.size<=t.mask)(ha:Nat->Int)(x:Int)(v:Va t.mask p):h8 t ha x p (t.probe ha x p):=by obtain⟨j,hj,hn⟩:=lV h hs;obtain⟨n,h1,h2⟩:=EL h.Fe hj v;unfold probe;exact rj h ha x _ p v ⟨n,h1,by grind⟩
def Rea (m:Nat)(lv:Nat->Prop)(h:Int)(j:Nat):Prop:=∃ n,(it m n (st m h)).j=j/\∀ k,k<n->lv (it m k (st m h)).j
theorem Rea.mono (r:Rea m lv h j)(s:∀ j,lv j->lv' j):Rea m lv' h j:=let ⟨n,e,b⟩:=r;⟨n,e,fun k hk=>s _ (b k hk)⟩
structure m9 {V:Type} (t:SetTable) (es:Array (Int×V)):Prop where
 tb:Tb t
 len:t.place.size=es.size
 HS:∀ q∈t.place.toList.zip es.toList,Rea t.mask (·∈ t.place.toList) q.2.1 q.1
def iU (t:SetTable):Prop:=t.place.size*5<t.mask*3
theorem insertAt_toList {α:Type}(xs:Array α)(p:Nat)(x:α)(h:p<=xs.size):(insertAt xs p x).toList=xs.toList.take p++x::xs.toList.drop p:=by unfold insertAt;simp[Array.toList_extract,List.extract_eq_drop_take,Qh]
theorem insertAt_size {α:Type}(xs:Array α)(p:Nat)(x:α)(h:p<=xs.size):(insertAt xs p x).size=xs.size+1:=by rw[<- Qo,insertAt_toList xs p x h];simp;lia
theorem jt (h:Tb t)(j:Nat):(t.put j).1={ t with place:=insertAt t.place (below t.place j) j }:=by
 unfold put;dsimp only;rw[h.HV]
 grind [ou]
theorem lb (t:SetTable)(j:Nat):(t.put j).2=below t.place j:=rfl
theorem tV {α β:Type}(xs:List α)(ys:List β)(p:Nat)(x:α)(y:β)(h:xs.length=ys.length):(xs.take p++x::xs.drop p).zip (ys.take p++y::ys.drop p)=(xs.zip ys).take p++(x,y)::(xs.zip ys).drop p:=by rw[List.zip_append (by simp[h]),Sj];simp[List.zip,List.take_zipWith,List.drop_zipWith]
theorem tW {V:Type}{t:SetTable}{es:Array (Int×V)}(h:m9 t es){j:Nat}(hj:j∉t.place.toList)(hjm:j<=t.mask){hh:Int}{v:V}(r:Rea t.mask (·∈ t.place.toList) hh j) :
 m9 (t.put j).1 (insertAt es (t.put j).2 (hh,v))/\(t.put j).1.mask=t.mask/\(t.put j).1.place.size=t.place.size+1:=by
 obtain⟨a,b,c⟩:=cL j h.tb.sK;rw[jt h.tb,lb];have ae:below t.place j<=es.size:=by rw[<- h.len];exact a
 have el:=insertAt_toList t.place _ j a;have ee:=insertAt_toList es (below t.place j) (hh,v) ae;have mem:∀ k,k∈(insertAt t.place (below t.place j) j).toList↔k=j\/k∈t.place.toList:=by
  intro k;rw[el,Pf,O8];constructor
  .rintro (z|rfl|z)
   .exact .inr (QB z)
   .exact .inl rfl
   .exact .inr (RX z)
  .rintro (rfl|z)
   .exact .inr (.inl rfl)
   .rw[<- Re (below t.place j) t.place.toList,Pf]at z;exact z.elim .inl fun z=>.inr (.inr z)
 refine⟨⟨⟨h.tb.Fe,h.tb.HV,?_,fun k hk=>?_⟩,?_,fun q hq=>?_⟩,rfl,insertAt_size _ _ _ a⟩
 .show CW (insertAt t.place (below t.place j) j).toList;rw[el];unfold CW;rw[SQ];refine⟨h.tb.sK.sublist (List.take_sublist _ _),?_,?_⟩
  .rw[RF];refine⟨fun k hk=>?_,h.tb.sK.sublist (List.drop_sublist _ _)⟩;obtain⟨i,hi,e⟩:=RV.mp hk;rw[Q0]at hi;have hi2:below t.place j+i<t.place.size:=by simp at hi;lia
   have e2:t.place[below t.place j+i]=k:=by rw[<- e];simp
   have:=c _ hi2 (by lia);rw[e2]at this;have:k≠j:=fun z=>hj (by rw[<- z,<- e2];simp);lia
  .intro k hk l hl;obtain⟨i,hi,e⟩:=RV.mp hk;rw[Qi]at hi;have hi2:i<t.place.size:=by simp at hi;lia
   have e2:t.place[i]=k:=by rw[<- e];simp
   have l1:=b i hi2 (by lia);rw[e2]at l1;rw[O8]at hl;rcases hl with rfl|hl
   .exact l1
   .obtain⟨i',hi',e'⟩:=RV.mp hl;rw[Q0]at hi';have hi3:below t.place j+i'<t.place.size:=by simp at hi';lia
    have e3:t.place[below t.place j+i']=l:=by rw[<- e'];simp
    have:=c _ hi3 (by lia);rw[e3]at this;lia
 .rcases (mem k).mp hk with rfl|z
  .exact hjm
  .exact h.tb.le k z
 .show(insertAt t.place (below t.place j) j).size=_;rw[insertAt_size _ _ _ a,insertAt_size _ _ _ ae,h.len]
 .have hq:q∈(insertAt t.place (below t.place j) j).toList.zip (insertAt es (below t.place j) (hh,v)).toList:=hq;rw[el,ee,tV _ _ _ _ _ (by simpa using h.len)]at hq;have sub:∀ k,k∈t.place.toList->k∈(insertAt t.place (below t.place j) j).toList:=fun k hk=>(mem k).mpr (.inr hk);rw[Pf,O8]at hq;rcases hq with z|rfl|z
  .exact(h.HS q (QB z)).mono sub
  .exact r.mono sub
  .exact(h.HS q (RX z)).mono sub
def ow (owner:Array (Option Nat))(j:Nat):Prop:=∃ k,owner[j]?=some (some k)
theorem pC (i q:Nat):∀ k,k<=runEnd m i-i->it m k (rs m (i,q))={ j:=i+k,more:=runEnd m i-i-k,i:=i,perturb:=q,dummy:=none }
 |0,_=>rfl
 |k+1,h=>by
  rw[CV,pC i q k (by lia)]
  grind [tQ]
theorem oA (hs:owner.size=m+1):∀(fuel i q:Nat),i<=m->q<2 ^ 64->(∃ L,L<fuel/\¬ ow owner (lp m L (i,q)).1)->
 ∃ j,layClean.free m owner fuel i q=some j/\j<=m/\¬ ow owner j/\∃ n,(it m n (rs m (i,q))).j=j/\∀ k,k<n->ow owner (it m k (rs m (i,q))).j
 |0,i,q,_,_,⟨L,h,_⟩=>by lia
 |f+1,i,q,hi,hq,⟨L,hL,hn⟩=>by
  obtain⟨r1,r2⟩:=i7 m i hi;have hre:runEnd m i+1-i=(runEnd m i-i)+1:=by
   have:i<=runEnd m i:=by unfold runEnd;split<;>lia
   lia
  have isn:∀ k,k<=runEnd m i-i->((owner.getD (i+k) (some 0)).isNone=true↔¬ ow owner (i+k)):=by
   intro k hk;have hb:i+k<owner.size:=by lia
   have e:owner[i+k]?=some owner[i+k]:=by simp[hb]
   have e2:owner.getD (i+k) (some 0)=owner[i+k]:=by simp[Array.getD,hb]
   unfold ow;rw[e2,e];cases owner[i+k]<;>simp
  unfold layClean.free;cases hf:(List.range (runEnd m i+1-i)).find? fun k=>(owner.getD (i+k) (some 0)).isNone with
  |some k=>
   dsimp only;rw[List.find?_range_eq_some]at hf;obtain⟨h1,h2,h3⟩:=hf;have h2:=PY.mp h2;have hk:k<=runEnd m i-i:=by lia
   refine⟨i+k,rfl,by lia,(isn k hk).mp h1,k,by rw[pC i q k hk],fun k' hk'=>?_⟩
   grind [pC]
  |none=>
   dsimp only;rw[List.find?_range_eq_none]at hf;have hrun:∀ k,k<=runEnd m i-i->ow owner (i+k):=by grind
   have hL0:L≠0:=by rintro rfl;exact hn (hrun 0 (Pq _))
   have ih:=oA hs f (leap m i q).1 (leap m i q).2 (pA m i q) (by rw[tS];have:=Nat.div_le_self q 32;lia) ⟨L-1,by lia,by
    have:lp m L (i,q)=lp m (L-1) (leap m i q):=by rw[show L=(L-1)+1 by lia];rfl
    rw[this]at hn;exact hn⟩
   obtain⟨j,e,hj,hnj,n,en,hb⟩:=ih;refine⟨j,e,hj,hnj,runEnd m i-i+1+n,?_,fun k hk=>?_⟩
   .rw[e_,k_ (runEnd m i-i) (rs m (i,q)) rfl (Va.rs hi hq)];exact en
   .by_cases hk2:k<=runEnd m i-i
    .rw[pC i q k hk2];exact hrun k hk2
    .have:it m k (rs m (i,q))=it m (k-(runEnd m i-i+1)) (rs m (leap m i q)):=by rw[show k=(runEnd m i-i+1)+(k-(runEnd m i-i+1)) by lia,e_,k_ (runEnd m i-i) (rs m (i,q)) rfl (Va.rs hi hq)];congr 1;lia
     rw[this];exact hb _ (by lia)
structure Own (m:Nat) (hs:List Int) (owner:Array (Option Nat)):Prop where
 size:owner.size=m+1
 all:∀ k:Nat,k<hs.length->∃ j:Nat,owner[j]?=some (some k)
 lt:∀ j k:Nat,owner[j]?=some (some k)->k<hs.length
 HS:∀(j k:Nat)(h:Int),owner[j]?=some (some k)->hs[k]?=some h->Rea m (ow owner) h j
 inj:∀ j j' k:Nat,owner[j]?=some (some k)->owner[j']?=some (some k)->j=j'
theorem Own.KB (o:Own m hs owner)(hl:hs.length<=m):∃ j,j<=m/\¬ ow owner j:=by
 refine QW fun hn=>?_;have iI:∀ j,j<=m->ow owner j:=fun j hj=>QW fun z=>hn ⟨j,hj,z⟩
 let g:Nat->Nat:=fun j=>((owner[j]?).getD none).getD 0
 have hg:∀ j,j<=m->owner[j]?=some (some (g j)):=fun j hj=>by obtain⟨k,hk⟩:=iI j hj;show owner[j]?=some (some (((owner[j]?).getD none).getD 0));rw[hk];rfl
 have nd:((List.range (m+1)).map g).Nodup:=by unfold List.Nodup;rw[QK];have:=Sa (n:=m+1);refine QZ (fun{a b} ha hb hab e=>hab ?_) this;have ha:=PY.mp ha;have hb:=PY.mp hb;exact o.inj a b (g a) (hg a (by lia)) (by rw[e];exact hg b (by lia))
 have:=lU _ (List.range hs.length) nd fun x hx=>by obtain⟨j,hj,rfl⟩:=Pb.mp hx;have hj:=PY.mp hj;exact PY.mpr (o.lt j _ (hg j (by lia)))
 simp at this;lia
theorem zo (hm:sP m)(o:Own m hs owner)(hl:hs.length<=m)(h:Int) :
 ∃ j,layClean.free m owner (turns m) (bits h % (m+1)) (bits h)=some j/\Own m (hs++[h]) (owner.setIfInBounds j (some hs.length)):=by
 obtain⟨j0,hj0,hn0⟩:=o.KB hl;have hi:bits h % (m+1)<=m:=Ta (Tl _ (Nat.succ_pos m));obtain⟨L,l1,l2,el⟩:=ri hm hj0 (bits h % (m+1),bits h) hi (px h);obtain⟨j,e,hj,hnj,n,en,hb⟩:=oA o.size (turns m) _ _ hi (px h) ⟨L,by unfold turns;lia,by rw[el];exact hn0⟩;refine⟨j,e,?_⟩;have hjb:j<owner.size:=by rw[o.size];lia
 have get:∀ i,(owner.setIfInBounds j (some hs.length))[i]?=if i=j then some (some hs.length) else owner[i]?:=by
  intro i;rw[Array.getElem?_setIfInBounds];by_cases hij:j=i
  .subst hij;rw[Pi rfl,Pi hjb,Pi rfl]
  .rw[Pl hij,Pl (fun z=>hij z.symm)]
 have sub:∀ i,ow owner i->ow (owner.setIfInBounds j (some hs.length)) i:=by
  rintro i ⟨k,hk⟩;by_cases hij:i=j
  .exact⟨_,by rw[get,Pi hij]⟩
  .exact⟨k,by rw[get,Pl hij];exact hk⟩
 have inv:∀ i k,(owner.setIfInBounds j (some hs.length))[i]?=some (some k)->(i=j/\k=hs.length)\/(i≠j/\owner[i]?=some (some k)):=by
  intro i k hk;rw[get]at hk;by_cases hij:i=j
  .rw[Pi hij]at hk;exact .inl ⟨hij,by simpa using hk.symm⟩
  .rw[Pl hij]at hk;exact .inr ⟨hij,hk⟩
 refine⟨by rw[Array.size_setIfInBounds,o.size],fun k hk=>?_,fun i k hk=>?_,fun i k h' hk hh=>?_,fun i i' k h1 h2=>?_⟩
 .rw[O6,PQ]at hk;by_cases hkl:k=hs.length
  .exact⟨j,by rw[get,Pi rfl,hkl]⟩
  .obtain⟨i,hi⟩:=o.all k (by lia);refine⟨i,?_⟩;rw[get,Pl]
   .exact hi
   .rintro rfl;exact hnj ⟨k,hi⟩
 .rw[O6,PQ];rcases inv i k hk with⟨_,rfl⟩|⟨_,z⟩
  .lia
  .have:=o.lt i k z;lia
 .rcases inv i k hk with⟨rfl,rfl⟩|⟨hij,z⟩
  .rw[QQ (O0 _),Nat.sub_self]at hh;cases hh;exact⟨n,en,fun k hk=>sub _ (hb k hk)⟩
  .have hkl:=o.lt i k z;rw[Qf hkl]at hh;exact(o.HS i k h' z hh).mono sub
 .rcases inv i k h1 with⟨rfl,rfl⟩|⟨hij,z⟩<;>rcases inv i' _ h2 with⟨rfl,e'⟩|⟨hij',z'⟩
  .rfl
  .have:=o.lt _ _ z';lia
  .have:=o.lt _ _ z;lia
  .exact o.inj i i' k z z'
theorem zp (hm:sP m):∀(suf pre:List Int)(owner:Array (Option Nat)),Own m pre owner->pre.length+suf.length<=m->
 ∃ owner',suf.foldl (fun acc h=>do
  let (owner,k) <- acc
  let j <- layClean.free m owner (turns m) (bits h % (m+1)) (bits h)
  pure (owner.setIfInBounds j (some k),k+1)) (some (owner,pre.length))=some (owner',pre.length+suf.length)/\Own m (pre++suf) owner'
 | [],pre,owner,o,_=>⟨owner,rfl,by grind⟩
 |h::suf,pre,owner,o,hl=>by
  simp only[Pg]at hl;obtain⟨j,e,o'⟩:=zo hm o (by lia) h;obtain⟨owner',e2,o2⟩:=zp hm suf (pre++[h]) _ o' (by simp;lia)
  grind
theorem FT (hm:sP m)(hs:Array Int)(hl:hs.size<=m):∃ owner,layClean m hs=some owner/\Own m hs.toList owner:=by
 have o0:Own m [] (Array.replicate (m+1) none):=by
  have no:∀ j k:Nat,(Array.replicate (m+1) (none:Option Nat))[j]?=some (some k)->False:=by grind
  exact⟨by simp,fun k hk=>by simp at hk,fun j k h=>(no j k h).elim,fun j k _ h=>(no j k h).elim,fun j _ k h=>(no j k h).elim⟩
 obtain⟨owner,e,o⟩:=zp hm hs.toList [] _ o0 (by grind);refine⟨owner,?_,by grind⟩;unfold layClean
 grind
theorem zq {α:Type}(es:Array α):∀(l:List Nat),(∀ k∈l,k<es.size)->(l.filterMap (es[·]?)).length=l.length/\∀ i:Nat,(l.filterMap (es[·]?))[i]?=(l[i]?).bind (es[·]?)
 | [],_=>⟨rfl,fun i=>by simp⟩
 |k::l,h=>by
  have hk:k<es.size:=h k (O5 ..);have e:es[k]?=some es[k]:=by simp[hk]
  obtain⟨a,b⟩:=zq es l fun k hk=>h k (O4 _ hk);rw[List.filterMap_cons_some e];refine⟨by simp[a],fun i=>?_⟩;cases i with
  |zero=>simp[e]
  |succ i=>simpa using b i
theorem lX (o:Nat->Option Nat):∀ l:List Nat,(l.filterMap fun j=>(o j).map (j,·)).map Prod.fst=l.filter fun j=>(o j).isSome
 | []=>rfl
 |j::l=>by
  rw[Ru,R_];cases e:o j with
  |none=>simpa using lX o l
  |some k=>simpa using lX o l
theorem zt (owner:Array (Option Nat))(m:Nat)(hs:owner.size=m+1)(j k:Nat):(j,k)∈((List.range (m+1)).filterMap fun j=>(owner.getD j none).map (j,·))↔owner[j]?=some (some k):=by
 rw[RD];constructor
 .rintro⟨a,h1,h2⟩;have h1:=PY.mp h1;have hb:a<owner.size:=by lia
  have e:owner.getD a none=owner[a]:=by simp[Array.getD,hb]
  rw[e]at h2;obtain⟨k',e1,e2⟩:=PU.mp h2;cases e2;rw[show owner[j]?=some owner[j] by simp[hb],e1]
 .intro h;obtain⟨hb,e⟩:=QR.mp h;refine⟨j,PY.mpr (by lia),?_⟩;have e2:owner.getD j none=owner[j]:=by simp[Array.getD,hb]
  rw[e2,e];rfl
structure Laid {V:Type} (m:Nat) (es es':Array (Int×V)) (t':SetTable):Prop where
 qz:m9 t' es'
 mask:t'.mask=m
 size:es'.size=es.size
 mem:∀ x,x∈es'.toList↔x∈es.toList
 pw:∀ R:Int×V->Int×V->Prop,(∀ x y,R x y->R y x)->es.toList.Pairwise R->es'.toList.Pairwise R
theorem rn {V:Type}{m:Nat}(hm:sP m)(es:Array (Int×V))(hl:es.size<=m)(finger moves:Nat)(led plain:Bool) :
 ∃ t' order,laid m finger moves led plain (es.map (·.1))=some (t',order)/\Laid m es (order.filterMap (es[·]?)) t'/\t'.led=led/\t'.plain=plain/\order.toList.Perm (List.range es.size):=by
 obtain⟨owner,eo,o⟩:=FT hm (es.map (·.1)) (by simpa using hl);have len:(es.map (·.1)).toList.length=es.size:=by simp
 let live:=(List.range (m+1)).filterMap fun j=>(owner.getD j none).map (j,·)
 have lm:∀ j k,(j,k)∈live↔owner[j]?=some (some k):=zt owner m o.size;have sK:CW (live.map Prod.fst):=by show CW (((List.range (m+1)).filterMap fun j=>(owner.getD j none).map (j,·)).map Prod.fst);rw[lX];exact List.pairwise_lt_range.sublist (List.filter_sublist)
 have ndS:(live.map Prod.snd).Nodup:=by unfold List.Nodup;unfold CW at sK;rw[QK]at sK ⊢;refine QZ (fun{a b} ha hb hab e=>?_) sK;have h1:=(lm a.1 a.2).mp ha;have h2:=(lm b.1 b.2).mp hb;rw[<- e]at h2;have:=o.inj _ _ _ h1 h2;lia
 have lt:∀ k∈live.map Prod.snd,k<es.size:=by
  intro k hk;obtain⟨p,hp,rfl⟩:=Pb.mp hk;have:=o.lt p.1 p.2 ((lm p.1 p.2).mp hp)
  rwa [len]at this
 have all:∀ k,k<es.size->k∈live.map Prod.snd:=by intro k hk;obtain⟨j,hj⟩:=o.all k (by rw[len];exact hk);exact Pb.mpr ⟨(j,k),(lm j k).mpr hj,rfl⟩
 have ll:live.length=es.size:=by have a:=lU _ (List.range es.size) ndS fun k hk=>PY.mpr (lt k hk);have b:=lU (List.range es.size) (live.map Prod.snd) Sa fun k hk=>all k (PY.mp hk);simp at a b;lia
 obtain⟨f1,f2⟩:=zq es (live.map Prod.snd) lt;refine⟨{ mask:=m,place:=(live.map (·.1)).toArray,dummies:=#[],finger,led,moves,plain },(live.map (·.2)).toArray,?_,?_,rfl,rfl,(List.perm_ext_iff_of_nodup ndS Sa).mpr fun k=>⟨fun h=>PY.mpr (lt k h),fun h=>all k (PY.mp h)⟩⟩
 .unfold laid;rw[eo];rfl
 .have el:((live.map (·.2)).toArray.filterMap (es[·]?)).toList=(live.map Prod.snd).filterMap (es[·]?):=by simp
  have es':((live.map (·.2)).toArray.filterMap (es[·]?)).size=es.size:=by rw[<- Qo,el,f1,O2,ll]
  refine⟨⟨⟨hm,rfl,by simpa using sK,fun j hj=>?_⟩,?_,fun q hq=>?_⟩,rfl,es',fun x=>?_,fun R sy pw=>?_⟩
  .have hj:j∈live.map Prod.fst:=by simpa using hj
   obtain⟨p,hp,rfl⟩:=Pb.mp hj;obtain⟨hb,_⟩:=QR.mp ((lm p.1 p.2).mp hp);show p.1<=m;have:=o.size;lia
  .rw[es'];simpa using ll
  .have hq:q∈(live.map Prod.fst).zip ((live.map Prod.snd).filterMap (es[·]?)):=by rw[el]at hq;simpa using hq
   obtain⟨i,hi⟩:=Pj.mp hq;rw[R8,f2]at hi;obtain⟨h1,h2⟩:=hi;rw[Pe]at h1 h2;obtain⟨p,hp,e1⟩:=PU.mp h1;rw[hp]at h2;have h2:es[p.2]?=some q.2:=h2;have ho:=(lm p.1 p.2).mp (Pj.mpr ⟨i,hp⟩);have hh:(es.map (·.1)).toList[p.2]?=some q.2.1:=by rw[PN,Array.getElem?_map,h2];rfl
   rw[<- e1];refine(o.HS p.1 p.2 q.2.1 ho hh).mono fun j ⟨k,hk⟩=>?_;show j∈(live.map (·.1)).toArray.toList;simpa using ⟨k,(lm j k).mpr hk⟩
  .rw[el];constructor
   .intro hx;obtain⟨k,_,h2⟩:=RD.mp hx;exact Pj.mpr ⟨k,by rw[PN];exact h2⟩
   .intro hx;obtain⟨k,hk⟩:=Pj.mp hx;have hb:k<es.size:=by have:=(O3.mp hk).1;simpa using this
    exact RD.mpr ⟨k,all k hb,by rw[PN]at hk;exact hk⟩
  .rw[el];rw[Pw];intro a b ha hb hab;have ea:=f2 a;have eb:=f2 b;rw[O1 ha]at ea;rw[O1 hb]at eb;rw[f1]at ha hb;rw[O1 ha]at ea;rw[O1 hb]at eb;have hne:(live.map Prod.snd)[a]≠(live.map Prod.snd)[b]:=Pw.mp ndS a b ha hb hab;have ea:es[(live.map Prod.snd)[a]]?=some _:=ea.symm;have eb:es[(live.map Prod.snd)[b]]?=some _:=eb.symm;obtain⟨ka,va⟩:=QR.mp ea;obtain⟨kb,vb⟩:=QR.mp eb;have P:=Pw.mp pw;rw[<- va,<- vb];rcases Sm hne with z|z
   .simpa using P _ _ (by simpa using ka) (by simpa using kb) z
   .refine sy _ _ ?_;simpa using P _ _ (by simpa using kb) (by simpa using ka) z
theorem CY {V:Type}{m:Nat}(hm:sP m)(es:Array (Int×V))(hl:es.size<=m)(finger moves:Nat)(led plain:Bool) :
 ∃ t' order,laid m finger moves led plain (es.map (·.1))=some (t',order)/\Laid m es (order.filterMap (es[·]?)) t'/\t'.led=led/\t'.plain=plain:=by
 obtain⟨t',order,a,b,c,d,_⟩:=rn hm es hl finger moves led plain;exact⟨t',order,a,b,c,d⟩
end ST
namespace ST
open PySem PySem.W PyProof.Rows
structure Lt (N:Nat) (lt:Nat->Nat->Bool):Prop where
 OJ:∀ i,lt i i=false
 tr:∀ i j k,lt i j=true->lt j k=true->lt i k=true
 OA:∀ i j,i<N->j<N->i≠j->lt i j=true\/lt j i=true
noncomputable abbrev NH:=Nat->Nat->(Bool->Tn->Prop)->Tn->Prop
def CZ (N:Nat)(lt:Nat->Nat->Bool)(cmp:NH)(s:Tn):Prop:=∀ i j C,i<N->j<N->C (lt i j) s->cmp i j C s
def Pm (N:Nat)(p:Array Nat):Prop:=p.toList.Perm (List.range N)
noncomputable def cA (p:Array Nat)(i:Nat):Nat:=p.getD i 0
section
theorem Pm.size (h:Pm N p):p.size=N:=by have:=h.length_eq;simpa using this
theorem Pm.perm (h:Pm N p)(q:p'.Perm p):Pm N p':=(Array.perm_iff_toList_perm.mp q).trans h
theorem FU (hi:i<p.size):p[i]?=some (cA p i):=by unfold cA;simp[Array.getD,hi]
theorem zv (h:p'[i]?=p[k]?):cA p' i=cA p k:=by
 simp_all [cA,cA]
theorem Pm.bd (h:Pm N p)(hi:i<N):cA p i<N:=by
 have hi':i<p.size:=by rw[h.size];exact hi
 have:cA p i∈p.toList:=Pj.mpr ⟨i,by rw[PN];exact FU hi'⟩;exact PY.mp (h.mem_iff.mp this)
theorem Pm.ne (h:Pm N p)(hi:i<N)(hj:j<N)(e:i≠j):cA p i≠cA p j:=by
 have nd:p.toList.Nodup:=h.nodup_iff.mpr Sa;have hi':i<p.size:=by rw[h.size];exact hi
 have hj':j<p.size:=by rw[h.size];exact hj
 have gi:p.toList[i]'(by simpa using hi')=cA p i:=by simp[cA,Array.getD,hi']
 have gj:p.toList[j]'(by simpa using hj')=cA p j:=by simp[cA,Array.getD,hj']
 intro z;rcases Sm e with q|q
 .exact Pw.mp nd i j (by simpa using hi') (by simpa using hj') q (by rw[gi,gj];exact z)
 .exact Pw.mp nd j i (by simpa using hj') (by simpa using hi') q (by rw[gi,gj];exact z.symm)
def So (lt:Nat->Nat->Bool)(p:Array Nat)(k:Nat):Prop:=∀ a b,a<b->b<k->lt (cA p a) (cA p b)=true
def De (lt:Nat->Nat->Bool)(p:Array Nat)(k:Nat):Prop:=∀ a b,a<b->b<k->lt (cA p b) (cA p a)=true
theorem Lt.uO (o:Lt N lt)(hi:i<N)(hj:j<N)(e:i≠j)(h:lt i j=false):lt j i=true:=by
 grind [Lt]
theorem So.snoc (o:Lt N lt)(h:So lt p k)(hk:1<=k)(l:lt (cA p (k-1)) (cA p k)=true):So lt p (k+1):=by
 grind [Lt,So]
theorem De.snoc (o:Lt N lt)(h:De lt p k)(hk:1<=k)(l:lt (cA p k) (cA p (k-1))=true):De lt p (k+1):=by
 grind [Lt,De]
theorem tX (o:Lt N lt)(an:CZ N lt cmp s)(pm:Pm N p):∀(f n:Nat){Q:Nat->Tn->Prop},1<=n->n+f=N->So lt p n->
 (∀ m,n<=m->m<=N->So lt p m->(m<N->lt (cA p m) (cA p (m-1))=true)->Q m s)->(kas_asc p f n).kasWp cmp Q s
 |0,n,Q,h1,h2,h3,k=>k n (O0 _) (by lia) h3 fun z=>by lia
 |f+1,n,Q,h1,h2,h3,k=>by
  refine an _ _ _ (pm.bd (by lia)) (pm.bd (by lia)) ?_;show KasT.kasWp cmp (if lt (cA p n) (cA p (n-1))=true then .ret n else kas_asc p f (n+1)) Q s;by_cases c:lt (cA p n) (cA p (n-1))=true
  .rw[Pi c];exact k n (O0 _) (by lia) h3 fun _=>c
  .rw[Pl c];have c:lt (cA p n) (cA p (n-1))=false:=by grind
   exact tX o an pm f (n+1) (by lia) (by lia) (h3.snoc o h1 (o.uO (pm.bd (by lia)) (pm.bd (by lia)) (pm.ne (by lia) (by lia) (by lia)) c)) fun m a b c d=>k m (by lia) b c d
theorem vm (o:Lt N lt)(an:CZ N lt cmp s)(pm:Pm N p):∀(f n:Nat){Q:Array Nat×Nat×Nat->Tn->Prop},1<=n->n+f=N->De lt p n->
 (∀ m,n<=m->m<=N->De lt p m->Q (p,m,0) s)->(kas_desc f p n 0).kasWp cmp Q s
 |0,n,Q,h1,h2,h3,k=>k n (O0 _) (by lia) h3
 |f+1,n,Q,h1,h2,h3,k=>by
  refine an _ _ _ (pm.bd (by lia)) (pm.bd (by lia)) ?_;show KasT.kasWp cmp (if lt (cA p n) (cA p (n-1))=true then (if 0>0 then kas_desc f (kas_rev p (n-(0+1)) n) (n+1) 0 else kas_desc f p (n+1) 0)
   else .ask (cA p (n-1)) (cA p n) fun d=>if d=true then .ret (p,n,0) else kas_desc f p (n+1) (0+1)) Q s
  by_cases c:lt (cA p n) (cA p (n-1))=true
  .rw[Pi c,Pl (by lia)];exact vm o an pm f (n+1) (by lia) (by lia) (h3.snoc o h1 c) fun m a b c=>k m (by lia) b c
  .rw[Pl c];have c:lt (cA p n) (cA p (n-1))=false:=by grind
   refine an _ _ _ (pm.bd (by lia)) (pm.bd (by lia)) ?_;rw[o.uO (pm.bd (by lia)) (pm.bd (by lia)) (pm.ne (by lia) (by lia) (by lia)) c];show KasT.kasWp cmp (if true=true then _ else _) Q s;rw[Pi rfl];exact k n (O0 _) (by lia) h3
theorem zx (n:Nat)(hn:n<=p.size)(k:Nat):cA (kas_rev p 0 n) k=if k<n then cA p (n-1-k) else cA p k:=by
 have e:=getElem?_mirror_all (xs:=p) (i:=0) hn k;unfold kas_rev
 grind [zv]
theorem zz (o:Lt N lt)(an:CZ N lt cmp s)(pm:Pm N p)(h1:1<=n)(hn:n<=N)(hd:De lt p n)
 (k:∀ m p',1<=m->m<=N->Pm N p'->So lt p' m->Q (m,p') s):(kas_tail3 n N p).kasWp cmp Q s:=by
 unfold kas_tail3;rw[Sn];have pm':Pm N (kas_rev p 0 n):=pm.perm (mirror_perm _ _ _ _);refine tX o an pm' (N-n) n h1 (by lia) ?_ fun m a b c _=>k m _ (by lia) b pm' c;intro a b hab hb;rw[zx n (by rw[pm.size];exact hn),zx n (by rw[pm.size];exact hn),Pi (by lia),Pi hb];exact hd _ _ (by lia) (by lia)
theorem zA (o:Lt N lt)(an:CZ N lt cmp s)(pm:Pm N p)(h2:2<=N)
 (k:∀ m p',1<=m->m<=N->Pm N p'->So lt p' m->Q (m,p') s):(kas_count N p).kasWp cmp Q s:=by
 unfold kas_count;rw[Sn];refine tX o an pm (N-1) 1 (O0 _) (by lia) (fun a b hab hb=>by lia) fun m a b c d=>?_;by_cases e:m=N
 .rw[Pi (by simpa using e)];exact k m p a b pm c
 .rw[Pl (by simpa using e)];by_cases hm:m>1
  .rw[Pi hm];refine an _ _ _ (pm.bd (by lia)) (pm.bd (by lia)) ?_;have:lt (cA p 0) (cA p (m-1))=true:=c 0 (m-1) (by lia) (by lia);show KasT.kasWp cmp (if lt (cA p 0) (cA p (m-1))=true then _ else _) Q s;rw[Pi this];exact k m p a b pm c
  .rw[Pl hm];have hm1:m=1:=by lia
   subst hm1;unfold kas_descPart;rw[Sn];have l:=d (by lia);refine vm o an pm (N-(1+1)) (1+1) (by lia) (by lia) (fun a b hab hb=>?_) fun m' a' b' c'=>?_
   .have:a=0:=by lia
    have:b=1:=by lia
    subst_vars
    exact l
   .show KasT.kasWp cmp (if 0>0 then _ else kas_tail3 m' N p) Q s;rw[Pl (by lia)];exact zz o an pm (by lia) b' c' k
theorem lY (o:Lt N lt)(an:CZ N lt cmp s)(pm:Pm N p)(hi:i<N)(so:So lt p i):∀(f l r:Nat){Q:Nat->Tn->Prop},l<=r->r<=i->r-l<=f->
 (∀ a,a<l->lt (cA p a) (cA p i)=true)->(∀ a,r<=a->a<i->lt (cA p i) (cA p a)=true)->
 (∀ m,m<=i->(∀ a,a<m->lt (cA p a) (cA p i)=true)->(∀ a,m<=a->a<i->lt (cA p i) (cA p a)=true)->Q m s)->(kas_place p i f l r).kasWp cmp Q s
 |0,l,r,Q,h1,h2,h3,h4,h5,k=>k l (by lia) h4 fun a x y=>h5 a (by lia) y
 |f+1,l,r,Q,h1,h2,h3,h4,h5,k=>by
  unfold kas_place;by_cases c:l>=r
  .rw[Pi c];exact k l (by lia) h4 fun a x y=>h5 a (by lia) y
  .rw[Pl c];refine an _ _ _ (pm.bd hi) (pm.bd (by lia)) ?_;show KasT.kasWp cmp (if lt (cA p i) (cA p ((l+r) / 2))=true then _ else _) Q s;by_cases q:lt (cA p i) (cA p ((l+r) / 2))=true
   .rw[Pi q];refine lY o an pm hi so f l ((l+r) / 2) (by lia) (by lia) (by lia) h4 (fun a x y=>?_) k;by_cases e:a=(l+r) / 2
    .rw[e];exact q
    .exact o.tr _ _ _ q (so _ _ (by lia) y)
   .rw[Pl q];have q:lt (cA p i) (cA p ((l+r) / 2))=false:=by grind
    have q:=o.uO (pm.bd hi) (pm.bd (by lia)) (pm.ne hi (by lia) (by lia)) q;refine lY o an pm hi so f _ r (by lia) h2 (by lia) (fun a x=>?_) h5 k;by_cases e:a=(l+r) / 2
    .rw[e];exact q
    .exact o.tr _ _ _ (so _ _ (by lia) (by lia)) q
theorem zB (hi:i<p.size)(hl:l<=i)(k:Nat):cA (bubble p i (i-l)) k=if k=l then cA p i else if l<k/\k<=i then cA p (k-1) else cA p k:=by
 have e:=getElem?_bubble hi (i-l) (by lia) k;rw[show i-(i-l)=l by lia]at e;by_cases h1:k=l
 .rw[Pi h1]at e ⊢;exact zv e
 .rw[Pl h1]at e ⊢
  grind [zv]
theorem zC (o:Lt N lt)(an:CZ N lt cmp s):∀(f i:Nat)(p:Array Nat){Q:Array Nat->Tn->Prop},Pm N p->i+f=N->So lt p i->
 (∀ p',Pm N p'->So lt p' N->Q p' s)->(kas_bin f p i).kasWp cmp Q s
 |0,i,p,Q,pm,h,so,k=>k p pm (by grind)
 |f+1,i,p,Q,pm,h,so,k=>by
  unfold kas_bin;rw[Sn];refine lY o an pm (by lia) so i 0 i (by lia) (O0 _) (by lia) (fun a x=>by lia) (fun a x y=>by lia) fun m hm lo hi=>?_;refine zC o an f (i+1) _ (pm.perm (bubble_perm _ _ _)) (by lia) (fun a b hab hb=>?_) k;have hs:i<p.size:=by rw[pm.size];lia
  rw[zB hs hm,zB hs hm]
  repeat' split
  all_goals first|lia|(exact hi _ (by lia) (by lia))|(exact lo _ (by lia))|(exact so _ _ (by lia) (by lia))
theorem C0 (o:Lt N lt)(an:CZ N lt cmp s)(h2:2<=N)(k:∀ p,Pm N p->So lt p N->Q p s):(kas_sort N).kasWp cmp Q s:=by
 unfold kas_sort;rw[Sn];have pm:Pm N (List.toArray (List.range N)):=by unfold Pm;simp
 refine zA o an pm h2 fun m p' a b c d=>?_;show KasT.kasWp cmp (if m<N then kas_bin (N-max m 1) p' (max m 1) else .ret p') Q s;by_cases e:m<N
 .rw[Pi e];have:max m 1=m:=by lia
  rw[this];exact zC o an (N-m) m p' c (by lia) d k
 .rw[Pl e];have:m=N:=by lia
  subst this;exact k p' c d
end
end ST
namespace L2
open PySem PySem.Spec PySem.Calls PyProof.Rows ST
noncomputable abbrev iK (ns:List Int):List bC:=ns.map Sum.inl
section
theorem lg (h:(aV prog w).is (.inl i) v=true):∃ t,v=.int i t:=by
 rcases bA (show iO (.inl i) v=true from h) with⟨j,t,e,rfl⟩|⟨x,t,e,_⟩
 .cases e;exact⟨t,rfl⟩
 .cases e
theorem items_int:∀{ns:List Int}{vs:List Tq},ItemsAre (aV prog w) (iK ns) vs->∀ v∈vs,∃ i t,v=.int i t
 | [],_,h,v,hv=>by cases h;simp at hv
 |n::ns,_,h,v,hv=>by
  cases h with
  |cons h1 h2=>
   rcases O8.mp hv with rfl|hv
   .obtain⟨t,rfl⟩:=lg h1;exact⟨n,t,rfl⟩
   .exact items_int h2 v hv
theorem FV (hk:(tK prog w).is s.heap (iK ns) b)(h:Q true s):wpAny (model prog w) A (hashByValue 8 (.ref b)) Q E s:=by
 have hT:=IsTupleKey.typeIs hk;obtain⟨o,items,n,ho,_,hd,hi⟩:=hk;unfold hashByValue;refine KE (wpAny_specialOf hT PySem.F.slot_tuple_hash.lookup ?_);dsimp only;refine KE (R0 ho hd ?_);refine KE ?_;show wpAny _ _ (forIn items _ _) _ _ s;rw[<- Array.forIn_toList];refine SL _ (fun rest r s'=>r.1=none/\s'=s/\∀ v∈rest,∃ i t,v=Value.int i t) _ ?_ ?_ _ _ ⟨rfl,rfl,items_int hi⟩
 .rintro v rest r s' ⟨hr,rfl,iI⟩;obtain⟨i,t,rfl⟩:=iI v O5;refine KE (OY ?_);simp only[Q2,Po,Qy];exact OY ⟨rfl,rfl,fun u hu'=>iI u (O4 _ hu')⟩
 .rintro⟨r1,r2⟩ s' ⟨hr,rfl,_⟩;simp only at hr;subst hr;exact OY h
theorem rq (hk:(tK prog w).is s.heap (iK ns) b)(h:Q false s):wpAny (model prog w) A (ofAClassStatement 8 (.ref b)) Q E s:=by
 have hT:=IsTupleKey.typeIs hk;obtain⟨o,items,n,ho,_,hd,hi⟩:=hk;unfold ofAClassStatement;refine KE (RJ hT ?_);dsimp only;rw[Pi (by decide)];refine KE (OY ?_);simp only[Q2,Po,Qy];refine KE (R0 ho hd ?_);refine KE ?_;show wpAny _ _ (forIn items _ _) _ _ s;rw[<- Array.forIn_toList];refine SL _ (fun rest r s'=>r.1=none/\s'=s/\∀ v∈rest,∃ i t,v=Value.int i t) _ ?_ ?_ _ _ ⟨rfl,rfl,items_int hi⟩
 .rintro v rest r s' ⟨hr,rfl,iI⟩;obtain⟨i,t,rfl⟩:=iI v O5;refine KE (OY ?_);simp only[Po,Qy];exact OY ⟨rfl,rfl,fun u hu'=>iI u (O4 _ hu')⟩
 .rintro⟨r1,r2⟩ s' ⟨hr,rfl,_⟩;simp only at hr;subst hr;exact OY h
theorem FW (hk:(tK prog w).is s.heap (iK ns) b)(hy:∀ y∈ys,∃ ms c,y=.ref c/\(tK prog w).is s.heap (iK ms) c)(h:Q false s):wpAny (model prog w) A (searchCouldBeSeen (.ref b) ys) Q E s:=by
 unfold searchCouldBeSeen;refine KE ?_;refine SL _ (fun rest r s'=>r.1=none/\s'=s/\∀ y∈rest,∃ ms c,y=.ref c/\(tK prog w).is s.heap (iK ms) c) _ ?_ ?_ _ _ ⟨rfl,rfl,hy⟩
 .rintro v rest r s' ⟨hr,rfl,iI⟩;obtain⟨ms,c,rfl,hc⟩:=iI v O5;have fin:∀ u∈rest,∃ ms c,u=Value.ref c/\(tK prog w).is s'.heap (iK ms) c:=fun u hu'=>iI u (O4 _ hu');dsimp only;split
  .exact OY ⟨rfl,rfl,fin⟩
  .refine KE ((tK prog w).quiet hk ?_);simp only[Q2,Po,Qy];refine KE ((tK prog w).quiet hc ?_);simp only[Q2,Po,Qy];refine KE (rq hk ?_);simp only[Po,Qy];refine KE (rq hc ?_);simp only[Po,Qy];exact OY ⟨rfl,rfl,fin⟩
 .rintro⟨r1,r2⟩ s' ⟨hr,rfl,_⟩;simp only at hr;subst hr;exact OY h
end
section
def M0 (prog:Tp)(w:World)(h:Heap)(es:Array (Int×Tq)):Prop:=∀ e∈es.toList,∃ ms c,e=((tK prog w).hash (iK ms),Value.ref c)/\(tK prog w).is h (iK ms) c
theorem C1 (h:sP m):(m % 2==0)=false:=by rcases h with rfl|rfl|rfl|rfl<;>rfl
theorem m9.fits (T:m9 t es)(hs:t.place.size<=t.mask):t.fits es.size=true:=by unfold SetTable.fits SetTable.fill;rw[T.tb.HV];simp[T.len]at hs ⊢;exact hs
theorem tY {α:Type}{es:Array α}{i:Nat}{e:α}(h:es[i]?=some e):e∈es.toList:=Pj.mpr ⟨i,by rw[PN];exact h⟩
theorem oB {ep:Nat}{t:SetTable}{ns:List Int}{Q:SetFound->Tn->Prop}(ho:s.heap.get? a=some o)(hd:o.data=.set es ep t)(T:m9 t es)(hs:t.place.size<=t.mask)
 (hu:A.units<cLine) (hk:(tK prog w).is s.heap (iK ns) b) (el:M0 prog w s.heap es)
 (h1:(∃ e∈es.toList,∃ c,e.2=.ref c/\(tK prog w).is s.heap (iK ns) c)->Q (.there none) s)
 (h2:(∀ e∈es.toList,∀ c,e.2=.ref c->¬ (tK prog w).is s.heap (iK ns) c)->∀ j,j∉t.place.toList->j<=t.mask->Rea t.mask (·∈ t.place.toList) ((tK prog w).hash (iK ns)) j->Q (.free j false) s) :
 ∀(fuel n:Nat)(stand:Option SetTable.Probe),stand.getD (t.probeStart ((tK prog w).hash (iK ns)))=it t.mask n (st t.mask ((tK prog w).hash (iK ns)))->
  (∀ k,k<n->∃ i e,∃ hi:i<t.place.size,t.place[i]=(it t.mask k (st t.mask ((tK prog w).hash (iK ns)))).j/\es[i]?=some e/\∀ c,e.2=.ref c->¬ (tK prog w).is s.heap (iK ns) c)->
  (∃ N,n<=N/\N<n+fuel/\(it t.mask N (st t.mask ((tK prog w).hash (iK ns)))).j∉t.place.toList)->
  wpAny (model prog w) A (setSearchFrom a (.ref b) ((tK prog w).hash (iK ns)) true fuel stand) Q E s
 |0,n,stand,_,_,⟨N,x1,x2,_⟩=>by lia
 |fuel+1,n,stand,e1,e2,⟨N,x1,x2,x3⟩=>by
  have v0:Va t.mask (it t.mask n (st t.mask ((tK prog w).hash (iK ns)))):=(Va.st _ _).it;have sp:=lW T.tb hs (fun i=>(es[i]?.map (·.1)).getD 0) ((tK prog w).hash (iK ns)) v0;have at_:∀ i,i<t.place.size->∃ e,es[i]?=some e:=fun i hi=>⟨es[i]'(by rw[<- T.len];exact hi),by simp[T.len▸hi]⟩;unfold setSearchFrom;refine KE (Qs ho hd (m9.fits T hs) ?_);dsimp only;have hg:t.gaveWay=false:=C1 T.tb.Fe;rw[hg];simp only[Po,Qy];rw[e1];have pre:∀{nn:Nat},(∀ k,k<nn->∃ i,∃ hi:i<t.place.size,t.place[i]=(it t.mask k (it t.mask n (st t.mask ((tK prog w).hash (iK ns))))).j/\(es[i]?.map (·.1)).getD 0≠(tK prog w).hash (iK ns))->
   ∀ k,k<n+nn->∃ i e,∃ hi:i<t.place.size,t.place[i]=(it t.mask k (st t.mask ((tK prog w).hash (iK ns)))).j/\es[i]?=some e/\∀ c,e.2=.ref c->¬ (tK prog w).is s.heap (iK ns) c:=by
   intro nn hb k hk';by_cases hkn:k<n
   .exact e2 k hkn
   .obtain⟨i,hi,q1,q2⟩:=hb (k-n) (by lia);obtain⟨e,he⟩:=at_ i hi;refine⟨i,e,hi,?_,he,fun c hc his=>q2 ?_⟩
    .rw[q1,<- e_,show n+(k-n)=k by lia]
    .obtain⟨ms,c',rfl,his'⟩:=el e (tY he);have hc':c'=c:=by injection hc
     subst hc';rw[he];show(tK prog w).hash (iK ms)=_;rw[(tK prog w).inj his' his]
  generalize hq0:t.probe _ _ (it t.mask n (st t.mask ((tK prog w).hash (iK ns))))=pr;have hpr:t.probe (fun i=>(es[i]?.map (·.1)).getD 0) ((tK prog w).hash (iK ns)) (it t.mask n (st t.mask ((tK prog w).hash (iK ns))))=pr:=hq0;rw[hpr]at sp;clear hpr hq0;cases sp with
  |em nn hem hb=>
   dsimp only;refine OY (h2 ?_ _ hem (v0.it).Nv ?_)
   .intro e he c hc his;obtain⟨i,hi⟩:=Pj.mp he;rw[PN]at hi;have hil:i<t.place.size:=by rw[T.len];exact(QR.mp hi).1
    obtain⟨ms,c',rfl,his'⟩:=el e he;have hc':c'=c:=by injection hc
    subst hc';have ek:=(tK prog w).inj his' his;have hz:(t.place[i],((tK prog w).hash (iK ms),Value.ref c'))∈t.place.toList.zip es.toList:=Pj.mpr ⟨i,by rw[R8];exact⟨by simp[hil],by rw[PN];exact hi⟩⟩;obtain⟨m,em,eb⟩:=T.HS _ hz;have em:(it t.mask m (st t.mask ((tK prog w).hash (iK ms)))).j=t.place[i]:=em;rw[ek]at em eb;have hm:m<n+nn:=by
     rcases SB m (n+nn) with q|q|q
     .exact q
     .exfalso;refine hem ?_;show(it t.mask nn (it t.mask n _)).j∈t.place.toList;rw[<- e_,<- q,em];simp
     .exfalso;refine hem ?_;show(it t.mask nn (it t.mask n _)).j∈t.place.toList;rw[<- e_];exact eb _ q
    obtain⟨i',e',hi',q1,q2,q3⟩:=pre hb m hm;have hii:i'=i:=by
     have:t.place[i']=t.place[i]:=q1.trans em;rcases SB i' i with q|q|q
     .have:=Pw.mp T.tb.sK i' i (by simpa using hi') (by simpa using hil) q;simp at this;lia
     .exact q
     .have:=Pw.mp T.tb.sK i i' (by simpa using hil) (by simpa using hi') q;simp at this;lia
    subst hii;rw[hi]at q2;cases q2;exact q3 c' rfl his
   .refine⟨n+nn,by rw[e_],fun k hk'=>?_⟩;obtain⟨i,e,hi,q1,_⟩:=pre hb k hk';show _∈t.place.toList;rw[<- q1];simp
  |ca nn i hi hij hq hb=>
   dsimp only;obtain⟨e,he⟩:=at_ i hi;obtain⟨ms,c,rfl,his⟩:=el e (tY he);have rest:wpAny (model prog w) A (do
    let some (_,y):=es[i]?|unsupported "internal:set-entry"
    let equal <- holding [y] (eqBool y (.ref b))
    let (es',_,t') <- setState a
    if true&&equal then return SetFound.there none
    let some same:=t'.sameMemory t.moves t.mask|unsupported "set.changed-during-lookup:is-the-new-block-at-the-old-address"
    let still <- match (if same then t'.slot (it t.mask nn (it t.mask n (st t.mask ((tK prog w).hash (iK ns))))).j else .empty) with
     | .live i'=>match es'[i']? with
      |some (_,y')=>do pure (if <- isSame y' y then some i' else none)
      |none=>pure none
     |_=>pure none
    match still with
    |none=>rule "set.search.anew";setSearchFrom a (.ref b) ((tK prog w).hash (iK ns)) true fuel none
    |some i'=>if equal then return .there (some i') else setSearchFrom a (.ref b) ((tK prog w).hash (iK ns)) true fuel (some (it t.mask (nn+1) (it t.mask n (st t.mask ((tK prog w).hash (iK ns))))))) Q E s:=by
    rw[he];dsimp only;refine KE (Qd ((tK prog w).eqBool hu his hk ?_));refine KE (Qs ho hd (m9.fits T hs) ?_);dsimp only;by_cases hkk:iK ms=iK ns
    .rw[O_ hkk];simp only[Tf,RB];exact OY (h1 ⟨_,tY he,c,rfl,by rw[<- hkk];exact his⟩)
    .rw[Pp hkk];simp only[RZ,Po,Qy];have hsm:t.sameMemory t.moves t.mask=some true:=by unfold SetTable.sameMemory;simp
     rw[hsm];dsimp only;rw[Pi rfl,<- hij,oz T.tb hi];dsimp only;rw[he];dsimp only;refine KE (wpAny_isSame_ref_self ?_);refine KE (OY ?_);rw[Pi rfl]
     try dsimp only
     refine oB ho hd T hs hu hk el h1 h2 fuel (n+(nn+1)) _ ?_ ?_ ⟨N,?_,?_,x3⟩
     .exact(e_ t.mask n (nn+1) _).symm
     .intro k hk';by_cases hkn:k<n+nn
      .exact pre hb k hkn
      .have:k=n+nn:=by lia
       subst this;refine⟨i,_,hi,by rw[hij,e_],he,fun c' hc' hh=>hkk ?_⟩;have:c=c':=by injection hc'
       subst this;exact(tK prog w).inj his hh
     .refine QW fun hc=>?_;have hN:N<n+(nn+1):=by lia
      by_cases hNn:N<n+nn
      .obtain⟨i',e',hi',q1,_⟩:=pre hb N hNn;exact x3 (by rw[<- q1];simp)
      .have:N=n+nn:=by lia
       subst this;exact x3 (by rw[e_,<- hij];simp)
     .lia
   split
   .refine KE (FW hk ?_ ?_)
    .intro y hy;obtain⟨e',he',rfl⟩:=Pb.mp hy;have he2:e'∈es.toList:=by have:=(Array.mem_toList_iff).mp he';rw[Array.mem_filter]at this;exact Array.mem_toList_iff.mpr this.1
     obtain⟨ms',c',rfl,his'⟩:=el e' he2;exact⟨ms',c',rfl,his'⟩
    .simp only[Po,Qy];exact rest
   .exact rest
end
noncomputable def byT (w:World):Bool:=w.params.followText "set-order"
def SetAt (w:World)(h:Heap)(a:Addr)(es:Array (Int×Tq)):Prop:=∃ o ep t,h.get? a=some o/\o.ExactSet/\o.data=.set es ep t/\m9 t es/\iU t/\t.plain=true/\t.led=!byT w
theorem SetAt.keep (x:SetAt w h a es)(k:∀ o,h.get? a=some o->h'.get? a=some o):SetAt w h' a es:=let ⟨o,ep,t,e,r⟩:=x;⟨o,ep,t,k o e,r⟩
theorem fX (h:iU t):t.place.size<=t.mask:=by unfold iU at h;lia
section
structure kR (es es':Array (Int×Tq)) (x:Int×Tq):Prop where
 mem:∀ y,y∈es'.toList↔y=x\/y∈es.toList
 pw:∀ R:Int×Tq->Int×Tq->Prop,(∀ x y,R x y->R y x)->es.toList.Pairwise R->(∀ e∈es.toList,R e x)->es'.toList.Pairwise R
 size:es'.size=es.size+1
theorem oC (es:Array (Int×Tq))(p:Nat)(x:Int×Tq)(hp:p<=es.size):kR es (SetTable.insertAt es p x) x:=by
 have e:=ST.insertAt_toList es p x hp;refine⟨fun y=>?_,fun R sy pw hx=>?_,ST.insertAt_size es p x hp⟩
 .rw[e,Pf,O8];constructor
  .grind
  .rintro (rfl|z)
   .exact .inr (.inl rfl)
   .rw[<- Re p es.toList,Pf]at z;exact z.elim .inl fun z=>.inr (.inr z)
 .rw[e,SQ];rw[<- Re p es.toList,SQ]at pw;obtain⟨p1,p2,p3⟩:=pw;refine⟨p1,?_,?_⟩
  .rw[RF]
   grind
  .grind
theorem kR.laid (g:kR es es1 x)(l:Laid m es1 es2 t):kR es es2 x:=⟨fun y=>(l.mem y).trans (g.mem y),fun R sy pw hx=>l.pw R sy (g.pw R sy pw hx),by rw[l.size,g.size]⟩
theorem ip {ep:Nat}{t:SetTable}(es':Array (Int×Tq))(t':SetTable){h:Heap}(ho:h.get? a=some o)(hex:o.ExactSet)(hd:o.data=.set es ep t) :
 ∃ o',(h.update a (Obj.putSet es' t')).get? a=some o'/\o'.ExactSet/\o'.data=.set es' (ep+1) t':=by
 have:=Qm (Obj.putSet es' t') ho (by rw[putSet_of es' t' hd];rfl);rw[putSet_of es' t' hd]at this;exact⟨_,this,hex,rfl⟩
theorem lZ {t:SetTable}(h:sP t.mask)(h1:n*5<t.mask*3)(h2:(n+1)*5>=t.mask*3)(h3:n+1<=300):∃ m,SetTable.sizeAbove (SetTable.grown (n+1))=m+1/\sP m/\(n+1)*5<m*3:=by
 rcases h with e|e|e|e<;>rw[e]at h1 h2
 .have:n=4:=by lia
  subst this;exact⟨31,by decide,.inr (.inl rfl),by lia⟩
 .have:n=18:=by lia
  subst this;exact⟨127,by decide,.inr (.inr (.inl rfl)),by lia⟩
 .have:n=76:=by lia
  subst this;exact⟨511,by decide,.inr (.inr (.inr rfl)),by lia⟩
 .lia
theorem zD {a:Addr}{o:Obj}{es:Array (Int×Tq)}{Q:Unit->Tn->Prop}(ho:s.heap.get? a=some o)(hex:o.ExactSet)(hd:o.data=.set es ep t)(hf:t.fits es.size=true)(hm:sP m)(hn:SetTable.sizeAbove n=m+1)(hl:es.size*5<m*3)(hpl:t.plain=true)(hle:t.led=!byT w)
 (h:∀ es' t',Laid m es es' t'->SetAt w (s.heap.update a (Obj.putSet es' t')) a es'->Q () { s with heap:=s.heap.update a (Obj.putSet es' t') }):wpAny (model prog w) A (setRelay a n) Q E s:=by
 have hmb:m<=511:=by rcases hm with rfl|rfl|rfl|rfl<;>lia
 unfold setRelay;refine KE (Qs ho hd hf ?_);dsimp only;rw[Pl (by rw[hn,Pn];lia)];obtain⟨t',order,e,L,hlp,hp⟩:=CY hm es (by lia) t.finger (t.movedTo m) t.led t.plain;have er:t.relaid (es.map (·.1)) n=some (t',order):=by unfold SetTable.relaid;rw[hn];exact e
 rw[er];show wpAny _ _ (do
  let r <- (do
   if (order.filterMap (es[·]?)).size != es.size then unsupported "internal:set-table-lost-an-element"
   pure (order.filterMap (es[·]?),t'):Sem (Array (Int×Tq)×SetTable))
  storeSet a r.1 r.2) _ _ _
 refine KE ?_;rw[Pl (by rw[L.size];simp)];refine OY ?_;refine SC ho hd ?_ (by show(order.filterMap (es[·]?)).size<=_;rw[L.size,Pn];lia);obtain⟨o',g1,g2,g3⟩:=ip (order.filterMap (es[·]?)) t' ho hex hd;refine h _ t' L ⟨o',_,t',g1,g2,g3,L.qz,?_,by rw[hp];exact hpl,by rw[hlp];exact hle⟩;unfold iU;rw[L.qz.len,L.size,L.mask];exact hl
end
section
theorem zE (T:m9 t es)(hs:t.place.size<=t.mask)(h:Int):∃ N,N<100000/\(it t.mask N (st t.mask h)).j∉t.place.toList:=by
 obtain⟨j,hj,hn⟩:=lV T.tb hs;obtain⟨N,h1,h2⟩:=EL T.tb.Fe hj (Va.st t.mask h);refine⟨N,?_,by rw[h2];exact hn⟩;have:t.mask<=511:=by rcases T.tb.Fe with e|e|e|e<;>rw[e]<;>lia
 unfold SetTable.turns at h1;lia
theorem FX (hu:A.units<cLine)(hk:(tK prog w).is s.heap (iK ns) b)(hS:SetAt w s.heap a es)(el:M0 prog w s.heap es)(hz:es.size+1<=300)
 (h1:∀ tk,s.toks<=tk->(∃ e∈es.toList,∃ c,e.2=.ref c/\(tK prog w).is s.heap (iK ns) c)->Q false { s with toks:=tk })
 (h2:∀ tk h' es',s.toks<=tk->(∀ e∈es.toList,∀ c,e.2=.ref c->¬ (tK prog w).is s.heap (iK ns) c)->Heap.SameBut a s.heap h'->SetAt w h' a es'->kR es es' ((tK prog w).hash (iK ns),.ref b)->Q true { s with heap:=h',toks:=tk }) :
 wpAny (model prog w) A (setAdd a (.ref b)) Q E s:=by
 obtain⟨o,ep,t,ho,hex,hd,T,sp,hpl,hle⟩:=hS;have hf:=m9.fits T (fX sp);unfold setAdd;refine Qd ?_;refine KE ((tK prog w).pyHash hu hk ?_);have htk:s.toks<=s.toks+(tK prog w).draws (iK ns):=SM _ _;generalize s.toks+(tK prog w).draws (iK ns)=tk at htk;unfold setAddHashed setAddHashedIn;refine Qd ?_;refine KE (Qs (s:={ s with toks:=tk }) ho hd hf ?_);dsimp only;have hbs:byScan (.ref b) es=false:=by simp[byScan,Value.scannable]
 rw[hbs];simp only[Po,Qy];unfold setSearch;obtain⟨N,n1,n2⟩:=zE T (fX sp) ((tK prog w).hash (iK ns));refine KE (oB (s:={ s with toks:=tk }) ho hd T (fX sp) hu hk el (fun hin=>?_) (fun hout j hj hjm hr=>?_) 100000 0 none rfl (fun k hk'=>by lia) ⟨N,Pq _,by lia,n2⟩)
 .exact OY (h1 tk htk hin)
 .dsimp only;refine KE (Qs (s:={ s with toks:=tk }) ho hd hf ?_);dsimp only;obtain⟨T',em,ez⟩:=tW T hj hjm (v:=Value.ref b) hr;have hpl':(t.put j).1.plain=true:=by rw[jt T.tb];exact hpl
  have hle':(t.put j).1.led=!byT w:=by rw[jt T.tb];exact hle
  rw[hpl'];simp only[RB];refine KE (FV (s:={ s with toks:=tk }) hk ?_);simp only[RB];have hp:(t.put j).2<=es.size:=by rw[lb,<- T.len];exact(cL j T.tb.sK).1
  have g:=oC es (t.put j).2 ((tK prog w).hash (iK ns),Value.ref b) hp;refine KE (SC (s:={ s with toks:=tk }) ho hd ?_ (by rw[g.size,Pn];lia));obtain⟨o1,q1,q2,q3⟩:=ip (SetTable.insertAt es (t.put j).2 ((tK prog w).hash (iK ns),Value.ref b)) (t.put j).1 ho hex hd;have sb:=P_ s.heap a (Obj.putSet (SetTable.insertAt es (t.put j).2 ((tK prog w).hash (iK ns),Value.ref b)) (t.put j).1);have fill:(t.put j).1.fill=es.size+1:=by unfold SetTable.fill;rw[T'.tb.HV,ez,T.len];rfl
  by_cases hfull:(t.put j).1.tooFull=true
  .rw[hfull];simp only[Bool.not_false,Tf,RB];unfold SetTable.tooFull at hfull;rw[fill,em]at hfull;have hfull:(es.size+1)*5>=t.mask*3:=by simpa using hfull
   have sp':es.size*5<t.mask*3:=by rw[<- T.len];exact sp
   obtain⟨m,m1,m2,m3⟩:=lZ T.tb.Fe sp' hfull hz;have le':(t.put j).1.place.size<=(t.put j).1.mask:=by
    rw[ez,em];unfold iU at sp;have:t.mask>=7:=by rcases T.tb.Fe with e|e|e|e<;>rw[e]<;>lia
    lia
   refine KE (zD (s:={ s with heap:=s.heap.update a (Obj.putSet (SetTable.insertAt es (t.put j).2 ((tK prog w).hash (iK ns),Value.ref b)) (t.put j).1),toks:=tk }) q1 q2 q3 (m9.fits T' le') m2 m1 (by rw[g.size];exact m3) hpl' hle' fun es' t' L sa=>?_);exact OY (h2 tk _ es' htk hout (sb.trans (P_ _ a _)) sa (g.laid L))
  .have hfull:(t.put j).1.tooFull=false:=by simpa using hfull
   rw[hfull];simp only[RZ,Po,Qy];refine OY (h2 tk _ _ htk hout sb ⟨o1,_,_,q1,q2,q3,T',?_,hpl',hle'⟩ g);unfold SetTable.tooFull at hfull;unfold iU;rw[fill]at hfull;rw[ez,T.len];simpa using hfull
end
noncomputable abbrev jv:=List Int×Addr
theorem zF (h:iK a=iK b):a=b:=by
 induction a generalizing b with
 |nil=>cases b with
  |nil=>rfl
  |cons _ _=>cases h
 |cons x a ih=>cases b with
  |nil=>cases h
  |cons y b=>grind
section
variable {κ μ:Type}{x:κ×μ}
structure dQ (ent:κ×μ->Int×Tq) (es:Array (Int×Tq)) (xs:List (κ×μ)):Prop where
 el:∀ e∈es.toList,∃ x∈xs,e=ent x
 sz:es.size<=xs.length
 pw:es.toList.Pairwise fun e e'=>∀ x x',e=ent x->e'=ent x'->x∈xs->x'∈xs->x.1≠x'.1
 all:∀ x∈xs,∃ y∈xs,y.1=x.1/\ent y∈es.toList
def BU (ent:κ×μ->Int×Tq)(xs:List (κ×μ)):Prop:=∀ x∈xs,∀ y∈xs,ent x=ent y->x.1=y.1
theorem dQ.wide (v:dQ ent es xs)(un:BU ent (xs++[x])):es.toList.Pairwise fun e e'=>∀ y y',e=ent y->e'=ent y'->y∈xs++[x]->y'∈xs++[x]->y.1≠y'.1:=by refine QZ (fun{a b} ha hb hab z z' e1 e2 m1 m2=>?_) v.pw;obtain⟨y,y1,rfl⟩:=v.el a ha;obtain⟨y',y1',rfl⟩:=v.el b hb;rw[un z m1 y (P3 _ y1) e1.symm,un z' m2 y' (P3 _ y1') e2.symm];exact hab y y' rfl rfl y1 y1'
theorem dQ.seen (v:dQ ent es xs)(hin:∃ y∈xs,y.1=x.1)(un:BU ent (xs++[x])):dQ ent es (xs++[x]):=by
 refine⟨fun e he=>?_,?_,v.wide un,fun y hy=>?_⟩
 .obtain⟨z,h1,h2⟩:=v.el e he;exact⟨z,P3 _ h1,h2⟩
 .have:=v.sz;simp;lia
 .obtain⟨y',h1,h2⟩ : ∃ z∈xs,z.1=y.1:=by
   rcases Pf.mp hy with hy|hy
   .exact⟨y,hy,rfl⟩
   .rw[O9]at hy;subst hy;exact hin
  obtain⟨z,g1,g2,g3⟩:=v.all y' h1;exact⟨z,P3 _ g1,g2.trans h2,g3⟩
theorem dQ.new (v:dQ ent es xs)(hin:¬ ∃ y∈xs,y.1=x.1)(un:BU ent (xs++[x]))(g:kR es es' (ent x)):dQ ent es' (xs++[x]):=by
 have hx:x∈xs++[x]:=PL _ (O9.mpr rfl);refine⟨fun e he=>?_,?_,?_,fun y hy=>?_⟩
 .rcases (g.mem e).mp he with rfl|he
  .exact⟨x,hx,rfl⟩
  .obtain⟨z,h1,h2⟩:=v.el e he;exact⟨z,P3 _ h1,h2⟩
 .have:=v.sz;rw[g.size];simp;lia
 .refine g.pw _ (fun a b hab z z' e1 e2 m1 m2 h=>hab z' z e2 e1 m2 m1 h.symm) (v.wide un) fun e he z z' e1 e2 m1 m2 h=>?_;obtain⟨y,y1,rfl⟩:=v.el e he;exact hin ⟨y,y1,(un z m1 y (P3 _ y1) e1.symm).symm.trans (h.trans (un z' m2 x hx e2.symm))⟩
 .rcases Pf.mp hy with hy|hy
  .obtain⟨z,h1,h2,h3⟩:=v.all y hy;exact⟨z,P3 _ h1,h2,(g.mem _).mpr (.inr h3)⟩
  .rw[O9]at hy;subst hy;exact⟨y,hx,rfl,(g.mem _).mpr (.inl rfl)⟩
end
section
variable {κ μ:Type}
def vn (prog:Tp)(w:World)(A:Ts)(hb:Heap)(S:Addr)(ent:κ×μ->Int×Tq)(its:List (κ×μ)):Prop:=∀(x:κ×μ)(xs:List (κ×μ))(s:Tn)(es:Array (Int×Tq))(Q:Bool->Tn->Prop)(E:Tq->Tn->Prop),x∈its->(∀ y∈xs,y∈its)->(∀ b o,hb.get? b=some o->s.heap.get? b=some o)->SetAt w s.heap S es->dQ ent es xs->es.size+1<=300->
 (∀ tk,s.toks<=tk->(∃ y∈xs,y.1=x.1)->Q false { s with toks:=tk })->(∀ tk h' es',s.toks<=tk->(¬ ∃ y∈xs,y.1=x.1)->Heap.SameBut S s.heap h'->SetAt w h' S es'->kR es es' (ent x)->Q true { s with heap:=h',toks:=tk })->wpAny (model prog w) A (setAdd S (ent x).2) Q E s
variable {St:Nat->Tn->Prop}
theorem j_ (W:WalksS prog w A.in1 I fp wr G n P St)(S:Addr)(hSf:S∉fp)(hb:Heap)(hbS:hb.get? S=none)(hbw:∀ b∈wr,hb.get? b=none)(its:List (κ×μ))(hn:its.length=n)
 (hval:∀ i v,P i v->∃ x,its[i]?=some x/\v=(ent x).2) (un:BU ent its) (add:vn prog w A.in1 hb S ent its) (hz:n<=300) :
 ∀(k i:Nat)(s:Tn)(es:Array (Int×Tq)),n-i=k->i<=n->St i s->(∀ b o,hb.get? b=some o->s.heap.get? b=some o)->SetAt w s.heap S es->dQ ent es (its.take i)->
  (∀ s' es',Moved (S::wr) G s s'->SetAt w s'.heap S es'->dQ ent es' its->R (.ok (.ret .none)) s')->
  codeAny (model prog w) A (.builtin "set.update.loop" ⟨[.ref S,.ref I],[]⟩) R s:=by
 have hSw:S∉wr:=fun h=>hSf (W.sub _ h);have hsub:∀ b∈wr,b∈S::wr:=fun b hb=>O4 _ hb;intro k;induction k with
 |zero=>
  intro i s es hk hi hst K hS v hR;have hin:i=n:=by lia
  subst hin;refine QE R9 ?_;rw[QA QF _];show wpAny _ A.in1 (pyNext (.ref I) >>= _) _ _ s;refine KE (W.done s _ _ hst fun s' hm=>?_);rw[Qh (by lia)]at v;have hR':=hR s' es (hm.mono hsub) (hS.keep fun o e=>hm.heap S o hSw e) v;show wpAny _ A.in1 (ret Value.none) _ _ s';exact OY hR'
 |succ k ih=>
  intro i s es hk hi hst K hS v hR;have hlt:i<n:=by lia
  refine QE R9 ?_;rw[QA QF _];show wpAny _ A.in1 (pyNext (.ref I) >>= _) _ _ s;refine KE (W.item i s _ _ hlt hst fun u s' hP hst' hm=>?_);obtain⟨x,hx,rfl⟩:=hval i u hP;have htk:its.take (i+1)=its.take i++[x]:=by rw[PV,hx];rfl
  have un':BU ent (its.take i++[x]):=by rw[<- htk];exact fun y hy z hz=>un y (QB hy) z (QB hz)
  have K':∀ b o,hb.get? b=some o->s'.heap.get? b=some o:=fun b o e=>hm.heap b o (fun z=>by rw[hbw b z]at e;cases e) (K b o e);have hS':=hS.keep fun o e=>hm.heap S o hSw e;have hes:es.size+1<=300:=by have:=v.sz;rw[Qi]at this;lia
  show wpAny _ A.in1 (holding [(ent x).2] (setAdd S (ent x).2) >>= _) _ _ s';refine KE (Qd (add x (its.take i) s' es _ _ (Px hx) (fun y hy=>QB hy) K' hS' v hes (fun tk htk' hin=>?_) fun tk h' es' htk' hnin hsb hSn g=>?_))
  .refine OY ⟨Q1 QF _,ih (i+1) _ es (by lia) hlt (W.frame _ s' _ _ hst' htk' fun b hb o e=>e) K' hS' (by rw[htk];exact v.seen hin un') fun s'' es'' hm'' hS'' v''=>?_⟩;exact hR s'' es'' (SW W.gtrans ((hm.mono hsub).then_heap htk' fun b o hb e=>e) hm'') hS'' v''
  .have K2:∀ b o,hb.get? b=some o->h'.get? b=some o:=fun b o e=>(hsb.2 b (fun z=>by rw[z,hbS]at e;cases e)).trans (K' b o e);refine OY ⟨Q1 QF _,ih (i+1) _ es' (by lia) hlt (W.frame _ s' _ _ hst' htk' fun b hb o e=>?_) K2 hSn (by rw[htk];exact v.new hnin un' g) fun s'' es'' hm'' hS'' v''=>?_⟩
   .rw[hsb.2 b (fun h:b=S=>hSf (h▸hb))];exact e
   .refine hR s'' es'' (SW W.gtrans ((hm.mono hsub).then_heap htk' fun b o hb e=>?_) hm'') hS'' v'';rw[hsb.2 b (fun h:b=S=>hb (h▸O5))];exact e
abbrev eT (prog:Tp)(w:World)(x:jv):Int×Tq:=((tK prog w).hash (iK x.1),Value.ref x.2)
theorem FY (his:∀ x∈its,(tK prog w).is hb (iK x.1) x.2):BU (eT prog w) its:=fun x hx y hy e=>zF ((tK prog w).inj (his x hx) (by
 have e:x.2=y.2:=by injection e with _ e;injection e
 rw[e];exact his y hy))
theorem C2 (hu:A.units<cLine)(his:∀ x∈its,(tK prog w).is hb (iK x.1) x.2):vn prog w A hb S (eT prog w) its:=fun x xs s es Q E hx hs K hS v hz h1 h2=>by
 have hx':∀ y∈xs,(tK prog w).is s.heap (iK y.1) y.2:=fun y hy=>jr (his y (hs y hy)) K;refine FX hu (jr (his x hx) K) hS (fun e he=>?_) hz (fun tk t hin=>h1 tk t ?_) fun tk h' es' t hout sb sa g=>h2 tk h' es' t (fun hin=>?_) sb sa g
 .obtain⟨y,hy,rfl⟩:=v.el e he;exact⟨_,_,rfl,hx' y hy⟩
 .obtain⟨e,he,c,hc,hh⟩:=hin;obtain⟨y,y1,rfl⟩:=v.el e he;injection hc with hc;subst hc;exact⟨y,y1,zF ((tK prog w).inj (hx' y y1) hh)⟩
 .obtain⟨y,y1,y2⟩:=hin;obtain⟨z,z1,z2,z3⟩:=v.all y y1;exact hout _ z3 z.2 rfl (by rw[<- y2,<- z2];exact hx' z z1)
end
noncomputable abbrev setNew (led:Bool):Obj:={ cls:=.type "set",dict:=none,data:=.set #[] 0 (.fresh 0 0 led) }
theorem wF (e:h.get? a=some (setNew (!byT w))):SetAt w h a #[]:=by refine⟨_,0,_,e,⟨rfl,rfl,rfl⟩,rfl,⟨⟨.inl rfl,rfl,List.Pairwise.nil,fun j hj=>nomatch hj⟩,rfl,fun q hq=>nomatch hq⟩,?_,rfl,rfl⟩;show 0*5<7*3;decide
section
theorem nE (a:Tq)(h:Q₁ (.ref s.heap.objs.size) { s with heap:=s.heap.push (setNew (!byT w)) }) :
 codeAny (model prog w) A (.call (.builtin "set.__new__") ⟨[.type "set",a],[]⟩) (wants Q₁ E) s:=by
 refine codeAny_of_tree (show wpAny _ A.in1 (do checkBuiltinCall "set.__new__" ⟨[.type "set",a],[]⟩;again (.builtin "set.__new__" ⟨[.type "set",a],[]⟩)) _ _ s from ?_);refine KE (wpAny_of_eq (PySem.F.newCall_set_1 a) (OY ⟨Q1 PySem.F.plain_set_new _,QE PySem.F.entry_set_new ?_⟩));rw[QA PySem.F.plain_set_new _];unfold Builtin.«set.__new__» Builtin.Frozenset.newClass;have hsub:=sub_set_self;obtain⟨hp,g,d,tk,os⟩:=s;dsimp only;wp_walk;refine wpAny_askSetting (OY ?_);dsimp only;simp only[newObj];refine KE (wpAny_alloc (OY ?_));exact OY h
theorem oE {κ μ:Type} {ent:κ×μ->Int×Tq} {l:Addr} {items:Array Tq} {nl:Nat} {its:List (κ×μ)} {Q:Tq->Tn->Prop} (hh:A.handled=none) (hl:s.heap.get? l=some { cls:=.type "list",data:=.seq items nl }) (hn:its.length=items.size) (hz:items.size<=300)
 (hval:∀(i:Nat)(v:Tq),items[i]?=some v->∃ x,its[i]?=some x/\v=(ent x).2) (un:BU ent its) (add:vn prog w A.in1.in1.in1 s.heap s.heap.objs.size ent its)
 (h:∀(h':Heap)(tk:Nat)(es:Array (Int×Tq)),SetAt w h' s.heap.objs.size es->dQ ent es its->(∀ b o,b<s.heap.objs.size->s.heap.get? b=some o->h'.get? b=some o)->Q (.ref s.heap.objs.size) { s with heap:=h',toks:=tk }) :
 wpAny (model prog w) A (call (.type "set") [.ref l]) Q E s:=by
 obtain⟨c,tl,hmro⟩:=PySem.F.called_set.mro;have hmade:=PySem.F.called_set.made;have hsub:=PySem.F.called_set.sub;refine wpAny_call (codeAny_of_tree ?_);show wpAny _ _ (callAny (.type "set") _) _ _ _;refine OY ⟨Code.quiet_builtin _ (by decide +kernel),QE PySem.F.entry_type_call ?_⟩;rw[Around.under_plain (weight_type_call_type "set" [.ref l] []) rfl];have h1:=PySem.F.called_set.notType;have h2:=PySem.F.called_set.canCreate;have hct:=PySem.F.typeCall_set_1 (.ref l)
 repeat (any_goals (first|assumption|wp_step))
 refine SI (nE (.ref l) (E:=E) (Q₁:=fun obj s₁=>obj=.ref s.heap.objs.size/\s₁={ s with heap:=s.heap.push (setNew (!byT w)) }) ⟨rfl,rfl⟩) fun r s₁ hr=>?_;rcases r with e|fl
 .exact hr
 cases fl with
 |ret obj=>
  obtain⟨rfl,rfl⟩:=hr;have hS:(s.heap.push (setNew (!byT w))).get? s.heap.objs.size=some (setNew (!byT w)):=Pc _ rfl;have hT:Shared.TypeIs { s with heap:=s.heap.push (setNew (!byT w)) } (.ref s.heap.objs.size) "set":=⟨_,hS,rfl⟩;have hli:=PySem.F.called_set.init.lookup;have hbi:=PySem.F.called_set.init.bind (.ref s.heap.objs.size)
  repeat (any_goals (first|assumption|wp_step))
  refine SI (codeAny_call_builtin (R:=wants (fun r s₂=>r=.none/\∃ h' tk es,s₂={ s with heap:=h',toks:=tk }/\SetAt w h' s.heap.objs.size es/\dQ ent es its/\
   (∀ b o,b<s.heap.objs.size->s.heap.get? b=some o->h'.get? b=some o)) E) PySem.F.called_set.init.plain PySem.F.entry_set_init (check_set_init_1 hT ?_)) fun r₂ s₂ hr₂=>?_
  .have hol':(s.heap.push (setNew (!byT w))).get? l=some { cls:=.type "list",data:=.seq items nl }:=OZ _ hl;have hsls:=PySem.F.sub_list_set;have hslf:=PySem.F.sub_list_frozenset;have hne:(Value.type "list"==Value.type "dict")=false:=by decide
   have hl1:(s.heap.push (setNew (!byT w))).IsList l items:=⟨_,hol',rfl,nl,rfl⟩;unfold Builtin.«set.__init__» noKeywords Builtin.Frozenset.updateFrom;generalize hPI:pyIter=PI
   wp_walk
   subst hPI;refine RO hl1 (KE (wpAny_runValue ?_));have hlS:l<s.heap.objs.size:=Pa hl;have hh3:A.in1.in1.in1.handled=none:=by simp[hh]
   have hneI:l≠(s.heap.push (setNew (!byT w))).objs.size:=by rw[Rh];exact Pt (Rn hlS)
   have hno:∀ b,s.heap.objs.size<=b->s.heap.get? b=none:=fun b hb=>by
    cases q:s.heap.get? b with
    |none=>rfl
    |some o=>exact absurd (Pa q) (Nat.not_lt.mpr hb)
   refine j_ ((Walks.list hh3 _ l hneI items).toS) s.heap.objs.size ?hSf s.heap (hno _ (O0 _)) ?hbw its hn hval un add hz (items.size-0) 0 _ #[] rfl (Pq _) ⟨⟨_,Pc _ rfl,rfl,rfl⟩,(hl1.push _)⟩
    (fun b o e=>OZ _ (OZ _ e)) (wF (OZ _ hS)) ⟨fun e he=>(nomatch he),Pq _,List.Pairwise.nil,fun x hx=>(nomatch hx)⟩ ?hR
   case hSf=>rw[Rh];simp only[O8,Pd,SR,not_or];exact⟨Pt (QO _),RH hlS⟩
   case hbw=>intro b hb;simp only[O8,Pd,SR]at hb;subst hb;exact hno _ (by rw[Rh];lia)
   case hR=>intro s' es hm hS' v;obtain⟨h',g',d',tk',os'⟩:=s';have eg:g'=s.gens:=hm.gens;have ed:d'=s.drawn:=hm.drawn;have eo:os'=s.os:=hm.os;subst eg ed eo;refine OY (OY ⟨rfl,h',tk',es,rfl,hS',v,fun b o hb e=>hm.heap b o ?_ (OZ _ (OZ _ e))⟩);simp only[O8,Pd,SR,not_or];exact⟨Pt hb,by rw[Rh];exact Pt (Rn hb)⟩
  .rcases r₂ with e|fl₂
   .exact hr₂
   cases fl₂ with
   |ret r=>
    obtain⟨rfl,h',tk,es,rfl,hS',v,hk'⟩:=hr₂
    repeat (any_goals (first|assumption|wp_step))
    exact h _ _ _ hS' v hk'
   |_=>exact hr₂.elim
 |_=>exact hr.elim
end
theorem l7 {α:Type}:∀(l:List α)(i:Nat)(h:i<l.length),(l[i]::l.eraseIdx i).Perm l
 | [],i,h=>by simp at h
 |x::l,0,h=>Q7 _
 |x::l,i+1,h=>by have ih:=l7 l i (by simpa using h);have e:(x::l).eraseIdx (i+1)=x::l.eraseIdx i:=rfl;rw[e,List.getElem_cons_succ];exact(List.Perm.swap _ _ _).trans (List.Perm.cons x ih)
theorem vp {α:Type}(next:Nat->Nat):∀(fuel k:Nat)(left:List α)(out:Array α),left.length=fuel->(pickOrder.go next fuel k left out).toList.Perm (out.toList++left)
 |0,k,left,out,h=>by have:left=[]:=Qz.mp h;subst this;unfold pickOrder.go;simp
 |f+1,k,left,out,h=>by have hi:next k % left.length<left.length:=Tl _ (by lia);unfold pickOrder.go;rw[O1 hi];dsimp only;have ih:=vp next f (k+1) (left.eraseIdx (next k % left.length)) (out.push left[next k % left.length]) (by rw[List.length_eraseIdx,Pi hi];lia);refine ih.trans ?_;rw[Array.toList_push,RQ];exact List.Perm.append_left _ (l7 left _ hi)
theorem wG {α:Type}(next:Nat->Nat)(xs:Array α):(pickOrder next xs).toList.Perm xs.toList:=by have:=vp next xs.size 0 xs.toList #[] (by simp);unfold pickOrder;simpa using this
def gX (w:World)(S:Addr)(ep:Nat)(es:Array (Int×Tq)):Array (Int×Tq):=if byT w then pickOrder (w.params.setOrder S ep) es else es
theorem rA (w:World)(S:Addr)(ep:Nat)(es:Array (Int×Tq)):(gX w S ep es).toList.Perm es.toList:=by
 unfold gX;split
 .exact wG _ _
 .exact Q7 _
theorem jw (w:World)(S:Addr)(ep:Nat)(es:Array (Int×Tq)):(gX w S ep es).size=es.size:=by have:=(rA w S ep es).length_eq;simpa using this
def cM (w:World)(t:SetTable):Nat->Nat
 |0=>0
 |i+1=>if byT w then 0 else t.place.getD i 0+1
theorem tZ (T:Tb t):∀(i:Nat),i<=t.place.size->SetTable.below t.place (match i with|0=>0|i+1=>t.place.getD i 0+1)=i
 |0,_=>by
  obtain⟨a,b,c⟩:=cL 0 T.sK;dsimp only;rcases Nat.eq_zero_or_pos (SetTable.below t.place 0) with h|h
  .exact h
  .have:=b 0 (by lia) h;lia
 |i+1,hi=>by
  dsimp only;have e:t.place.getD i 0=t.place[i]:=by simp[Array.getD,show i<t.place.size by lia]
  rw[e];obtain⟨a,b,c⟩:=cL (t.place[i]+1) T.sK;rcases SB (SetTable.below t.place (t.place[i]+1)) (i+1) with q|q|q
  .have h1:=c i (by lia) (by lia);lia
  .exact q
  .have h1:=b (i+1) (by lia) q;have h2:=Pw.mp T.sK i (i+1) (by simp;lia) (by simp;lia) (by lia);simp at h2;lia
theorem slot_setiter_next:Slot "set_iterator" "__next__" "set_iterator.__next__":=.of (owner:="set_iterator") (n:="__next__") (by rw[typeLookup_type,builtinLookup_eq_fast];kernel_rfl) (by decide +kernel) (by decide +kernel) (by decide +kernel) (by first|exact .inl (by decide +kernel)|exact .inr (by decide +kernel)) (by rw[isSubtype_type];kernel_rfl)
theorem fc:entryFor table "set_iterator.__next__"=some Builtin.«set_iterator.__next__»:=entryFor_of_fast (by kernel_rfl)
theorem ft (a:Tq):argsOk "set_iterator.__next__" ⟨[a],[]⟩:=by (unfold argsOk;kernel_rfl)
theorem nF:entryFor table "set.__iter__"=some Builtin.«frozenset.__iter__»:=entryFor_alias (id':="frozenset.__iter__") (by kernel_rfl) rfl (by decide +kernel) (by kernel_rfl)
def SetIt (h:Heap) (it S:Addr) (slot i n ep:Nat):Prop:=∃ o,h.get? it=some o/\o.cls=.type "set_iterator"/\o.data=.fields #[.int slot 0,.int i 0,.ref S,.int n 0,.int ep 0]
theorem SetIt.typeIs {s:Tn} {it S:Addr} {slot i n ep:Nat} (x:SetIt s.heap it S slot i n ep):s.TypeIs (.ref it) "set_iterator":=let ⟨o,ho,hc,_⟩:=x;⟨o,ho,hc⟩
def kc (h:Heap)(S:Addr)(es:Array (Int×Tq))(ep:Nat)(t:SetTable):Prop:=∃ o,h.get? S=some o/\o.ExactSet/\o.data=.set es ep t
section
theorem t_ (h:Q (byT w) s):wpAny (model prog w) A setsByText Q E s:=by unfold setsByText;exact KE (wpAny_askSetting (OY h))
theorem l9 (r:kc s.heap S es ep t)(T:m9 t es)(hs:t.place.size<=t.mask)(hpl:t.plain=true)(hle:t.led=!byT w)(hi:i<=es.size)
 (h:Q (((gX w S ep es)[i]?).map fun e=>(e.2,cM w t (i+1))) s):wpAny (model prog w) A (setNext S (cM w t i) i ep) Q E s:=by
 obtain⟨o,ho,hex,hd⟩:=r;have hf:=m9.fits T hs;unfold setNext;refine KE (Qs ho hd hf ?_);dsimp only;refine KE (t_ ?_);cases hb:byT w with
 |true=>
  simp only[RB];rw[Pl (by simp)];refine KE ?_;unfold setWalk;refine KE (Qs ho hd hf ?_);dsimp only;refine KE (t_ ?_);rw[hb];simp only[RB];refine KE (wpAny_askSetting (OY ?_));have e1:cM w t (i+1)=0:=by unfold cM;rw[hb];rfl
  have e2:cM w t i=0:=by cases i with|zero=>rfl|succ i=>(unfold cM;rw[hb];rfl)
  rw[e2];rw[e1]at h;unfold gX at h;rw[hb]at h;exact OY h
 |false=>
  simp only[Po,Qy];rw[hb]at hle;have hle:t.led=true:=hle;show wpAny _ _ (if (!t.plain&&decide (es.size>1))=true then _ else _) _ _ _;rw[hpl];simp only[Q2,SG,Po,Qy];show wpAny _ _ ((if (!t.led&&!es.isEmpty)=true then unsupported "set:maker-not-led" else pure ()) >>= fun _=>_) _ _ _;rw[hle];simp only[Q2,SG,Po,Qy];refine KE (OY ?_);have e1:SetTable.below t.place (cM w t i)=i:=by
   have:=tZ T.tb i (by rw[T.len];exact hi);cases i with
   |zero=>exact this
   |succ i=>unfold cM;rw[hb];exact this
  have eo:gX w S ep es=es:=by unfold gX;rw[hb];rfl
  rw[eo]at h;rw[e1];by_cases hlt:i<es.size
  .have g1:es[i]?=some es[i]:=by simp[hlt]
   have hp:i<t.place.size:=by rw[T.len];exact hlt
   have g2:t.place[i]?=some t.place[i]:=by simp[hp]
   rw[g1]at h;rw[g1,g2];have e2:cM w t (i+1)=t.place[i]+1:=by unfold cM;rw[hb];simp[Array.getD,hp]
   rw[e2]at h;exact OY h
  .have g1:es[i]?=none:=by simp;lia
   rw[g1]at h;rw[g1];exact OY h
end
theorem fw:Slot "set_iterator" "__iter__" "set_iterator.__iter__":=.of (owner:="set_iterator") (n:="__iter__") (by rw[typeLookup_type,builtinLookup_eq_fast];kernel_rfl) (by decide +kernel) (by decide +kernel) (by decide +kernel) (by first|exact .inl (by decide +kernel)|exact .inr (by decide +kernel)) (by rw[isSubtype_type];kernel_rfl)
theorem i8:entryFor table "set_iterator.__iter__"=some Builtin.«dict_keyiterator.__iter__»:=entryFor_alias (id':="dict_keyiterator.__iter__") (by kernel_rfl) rfl (by decide +kernel) (by kernel_rfl)
theorem jx (a:Tq):argsOk "set_iterator.__iter__" ⟨[a],[]⟩:=by (unfold argsOk;kernel_rfl)
section
theorem oF {it S:Addr}{slot i n ep:Nat}{P:PySem.Fin->Tn->Prop}{F:Tq->Tn->Prop}(ho:s.heap.get? it=some o)(hd:o.data=.fields #[.int slot 0,.int i 0,.ref S,.int n 0,.int ep 0])
 (r:kc s.heap S es ep t) (hf:t.fits es.size=true) (hn:n=es.size)
 (h:wpAny (model prog w) A (setNext S slot i ep) (fun m s'=>match m with
   |some (x,next)=>wpAny (model prog w) A (do setField (.ref it) 0 (rawInt next);setField (.ref it) 1 (rawInt (i+1));ret x) P F s'
   |none=>wpAny (model prog w) A (do setField (.ref it) 2 .none;raiseNew (<- newExc (.type "StopIteration") [])) P F s') F s) :
 wpAny (model prog w) A (Builtin.«set_iterator.__next__» ⟨[.ref it],[]⟩) P F s:=by
 obtain⟨os,hos,hex,hds⟩:=r;unfold Builtin.«set_iterator.__next__» slotArgs;simp only[List.isEmpty_nil,Q2,Po,Qy,QM,SD];refine KE (OY ?_);refine KE (wpAny_fieldsOf ho hd ?_);dsimp only;refine KE ?_;unfold setEntries;refine KE (Qs hos hds hf (OY ?_));dsimp only;rw[Pl (by rw[hn];simp)];simp only[Sx];refine KE (QI h (fun m s' hm=>?_) fun _ _ e=>e);cases m with
 |none=>exact hm
 |some p=>obtain⟨x,next⟩:=p;exact hm
theorem nG {it S:Addr}(hne:S≠it)(hh:A.handled=none){es:Array (Int×Tq)}{ep:Nat}{t:SetTable}(T:m9 t es)(hs:t.place.size<=t.mask)(hpl:t.plain=true)(hle:t.led=!byT w) :
 Walks prog w A it [it,S] [it] es.size (fun i v=>((gX w S ep es)[i]?).map (·.2)=some v) (fun i h=>SetIt h it S (cM w t i) i es.size ep/\kc h S es ep t) where
 sub:=fun b hb=>by simp at hb;simp[hb]
 frame:=fun i h h' st hk=>by obtain⟨⟨o,h1,r1⟩,⟨o2,h2,r2⟩⟩:=st;exact⟨⟨o,hk it (by simp) o h1,r1⟩,⟨o2,hk S (by simp) o2 h2,r2⟩⟩
 item:=fun i s Q E hi st hQ=>by
  obtain⟨x1,x2⟩:=st;have hT:=x1.typeIs;obtain⟨o,ho,hc,hd⟩:=x1;have x2':=x2;obtain⟨o2,ho2,hex2,hd2⟩:=x2;unfold pyNext;refine KE (wpAny_attempt (QN (name:=Str.ofString "__next__") hT slot_setiter_next (Qj slot_setiter_next hT fc ?_ (ft _))));refine oF ho hd x2' (m9.fits T hs) rfl (l9 x2' T hs hpl hle (by lia) ?_);have hio:i<(gX w S ep es).size:=by rw[jw];exact hi
  have e1:(gX w S ep es)[i]?=some (gX w S ep es)[i]:=by simp[hio]
  rw[e1];show wpAny _ _ _ _ _ _;refine KE (S8 ho hd (by simp) ?_);have d1:=Obj.data_mapFields hd (·.setIfInBounds 0 (rawInt ((cM w t (i+1):Nat):Int)));have ho1:=Qm (Obj.mapFields (·.setIfInBounds 0 (rawInt ((cM w t (i+1):Nat):Int)))) ho (Obj.isFreed_of_fields d1);refine KE (S8 (s:={ s with heap:=_ }) ho1 d1 (by simp) ?_);have d2:=Obj.data_mapFields d1 (·.setIfInBounds 1 (rawInt ((i:Int)+1)));have ho3:=Qm (Obj.mapFields (·.setIfInBounds 1 (rawInt ((i:Int)+1)))) ho1 (Obj.isFreed_of_fields d2);have sb:=(P_ s.heap it (Obj.mapFields (·.setIfInBounds 0 (rawInt ((cM w t (i+1):Nat):Int))))).trans (P_ _ it (Obj.mapFields (·.setIfInBounds 1 (rawInt ((i:Int)+1)))));refine OY ⟨_,rfl,OY ?_⟩;refine hQ _ _ s.toks (by rw[e1];rfl) ⟨⟨_,ho3,?_,?_⟩,o2,(sb.2 S hne).trans ho2,hex2,hd2⟩ (fun b o hb e=>(sb.2 b (fun z=>hb (by simp[z]))).trans e)
  .exact(Obj.cls_mapFields ..).trans ((Obj.cls_mapFields ..).trans hc)
  .rw[d2];simp[rawInt]
 done:=fun s Q E st hQ=>by
  obtain⟨x1,x2⟩:=st;have hT:=x1.typeIs;obtain⟨o,ho,hc,hd⟩:=x1;unfold pyNext;refine KE (wpAny_attempt (QN (name:=Str.ofString "__next__") hT slot_setiter_next (Qj slot_setiter_next hT fc ?_ (ft _))));refine oF ho hd x2 (m9.fits T hs) rfl (l9 x2 T hs hpl hle (O0 _) ?_);have e1:(gX w S ep es)[es.size]?=none:=by simp[jw]
  rw[e1];show wpAny _ _ _ _ _ _;refine KE (S8 ho hd (by simp) ?_);refine KE ?_;simp only[newExc,newTuple];refine KE (Qc ?_ (by size_fits));refine KE (m:=firstArgMember _ _) (wpAny_of_eq (a:=Value.none) (by first|rfl|(simp only[firstArgMember];rfl)) ?_);refine Qc ?_ (by size_fits);simp only[raiseNew];refine KE (wpAny_handled ?_);rw[show A.in1.handled=none from hh];refine KE (OY (wpAny_throw ?_));refine KE (wpAny_isInstance (T:="StopIteration") (b:=true) ⟨_,Pc _ rfl,rfl⟩ isSubtype_stop ?_);refine OY (hQ _ s.toks fun b o hb e=>?_);exact OZ _ (OZ _ (((P_ ..).2 b (fun z=>hb (by simp[z]))).trans e))
 self:=fun _ _ _ _ st hQ=>by refine SE st.1.typeIs fw (Qj fw st.1.typeIs i8 ?_ (jx _));exact OY ⟨_,rfl, "set_iterator",_,st.1.typeIs,slot_setiter_next.lookup,hQ⟩
end
section
theorem ua (r:kc s.heap S es ep t)(hf:t.fits es.size=true)(hpl:t.plain=true)
 (h:Q (.ref s.heap.objs.size) { s with heap:=s.heap.push { cls:=.type "set_iterator",data:=.fields #[.int 0 0,.int 0 0,.ref S,.int es.size 0,.int ep 0] } }):wpAny (model prog w) A (pyIter (.ref S)) Q E s:=by
 obtain⟨o,ho,hex,hd⟩:=r;have hT:s.TypeIs (.ref S) "set":=⟨o,ho,hex.1⟩;refine SE hT PySem.F.slot_set_iter (Qj PySem.F.slot_set_iter hT nF ?_ (PySem.F.args_set_iter_1 _));unfold Builtin.«frozenset.__iter__» Builtin.Frozenset.slot0 slotArgs;simp only[List.isEmpty_nil,Q2,Po,↓reduceIte,bind_assoc,QM,SD];unfold Builtin.Frozenset.addrOf Builtin.Frozenset.sizeOf setEntries;refine KE (OY (KE (OY ?_)));simp only[bind_assoc];refine KE (Qs ho hd hf (KE (OY (KE (OY ?_)))));refine KE ?_;unfold setDrawn;refine KE (Qs ho hd hf ?_);dsimp only;refine KE (t_ (OY ?_));show wpAny _ _ (if (!byT w&&(!t.plain&&decide (es.size>1)))=true then _ else _) _ _ _;rw[hpl];simp only[Q2,SG,RZ,Po,Qy];refine KE (OY ?_);refine KE (wpAny_setEpoch_of ho hd hf ?_);exact KE (Qc (OY ⟨_,rfl, "set_iterator",_,⟨_,Pc _ rfl,rfl⟩,slot_setiter_next.lookup,h⟩))
theorem zG (hT:s.TypeIs (.ref S) "set") (h:Q false s):wpAny (model prog w) A (Builtin.List.listLengthHint (.ref S)) Q E s:=by
 unfold Builtin.List.listLengthHint;refine KE (wpAny_specialOf hT PySem.F.slot_set_len.lookup ?_);dsimp only;have hsp:splitId "set.__len__"=some ("set", "__len__"):=by decide +kernel
 rw[hsp];dsimp only;refine KE (wpAny_isInstance hT sub_set_self ?_);simp only[Q2,Po,Qy];rw[Pi (by decide +kernel)];refine KE (RJ hT ?_);exact OY h
theorem rB (r:kc s.heap S es ep t)(T:m9 t es)(hs:t.place.size<=t.mask)(hpl:t.plain=true)(hle:t.led=!byT w)(hh:A.handled=none)(hz:es.size<=300)
 (h:∀ h' tk,s.heap.objs.size<h'.objs.size->(∀ b o,s.heap.get? b=some o->h'.get? b=some o)->Q ((gX w S ep es).toList.map (·.2)) { s with heap:=h',toks:=tk }):wpAny (model prog w) A (collect (.ref S)) Q E s:=by
 have hf:=m9.fits T hs;obtain⟨o,ho,hex,hd⟩:=r;have hlt:S<s.heap.objs.size:=Pa ho;unfold collect;refine KE (wpAny_runValue (QE entry_proto_collect' (show wpAny _ _ (do again (.builtin "list.__iadd__" ⟨[<- newList [],.ref S],[]⟩)) _ _ s from ?_)));refine KE (wpAny_newList (OY ⟨Code.quiet_builtin _ (by decide +kernel),QE entry_list_iadd' ?_⟩));show wpAny _ _ (Builtin.List.listExtendWith (.ref s.heap.objs.size) (.ref S) (.ref s.heap.objs.size)) _ _ { s with heap:=s.heap.push (seqObj "list" #[] 0) };have ho1:(s.heap.push (seqObj "list" #[] 0)).get? S=some o:=OZ _ ho;have hT1:Shared.TypeIs { s with heap:=s.heap.push (seqObj "list" #[] 0) } (.ref S) "set":=⟨o,ho1,hex.1⟩;unfold Builtin.List.listExtendWith;refine KE (RJ hT1 ?_);have q1:Builtin.List.listSameRef (.ref s.heap.objs.size) (.ref S)=false:=by simp[Builtin.List.listSameRef,RH hlt]
 have q2:(Value.type "set"==Value.type "list")=false:=by decide
 have q3:(Value.type "set"==Value.type "tuple")=false:=by decide
 simp only[q1,q2,q3,Bool.or_false,Po,Qy];refine KE (ua ⟨o,ho1,hex,hd⟩ hf hpl ?_);have hT2:Shared.TypeIs { s with heap:=(s.heap.push (seqObj "list" #[] 0)).push { cls:=.type "set_iterator",data:=.fields #[.int 0 0,.int 0 0,.ref S,.int es.size 0,.int ep 0] } } (.ref S) "set":=⟨o,OZ _ ho1,hex.1⟩;refine KE (Qd (zG hT2 ?_));rw[Pi (by decide +kernel)];refine KE (Sz ?_);have hS0:((s.heap.push (seqObj "list" #[] 0)).push { cls:=.type "set_iterator",data:=.fields #[.int 0 0,.int 0 0,.ref S,.int es.size 0,.int ep 0] }).get? s.heap.objs.size=some (seqObj "list" #[] 0):=OZ _ (Pc _ rfl);refine KE (show wpAny _ _ (updateSeq s.heap.objs.size (·.push .none) >>= fun _=>updateSeq s.heap.objs.size (·.pop)) _ _ _ from ?_);refine KE (Sq hS0 rfl ?_);have hS1:=Qm (Obj.mapSeq (·.push Value.none)) hS0 rfl;refine Sq (hz:=by seq_fits) hS1 rfl ?_;have hS2:=Qm (Obj.mapSeq (·.pop)) hS1 rfl;generalize hH:(((s.heap.push (seqObj "list" #[] 0)).push { cls:=.type "set_iterator",data:=.fields #[.int 0 0,.int 0 0,.ref S,.int es.size 0,.int ep 0] }).update s.heap.objs.size (Obj.mapSeq (·.push Value.none))).update s.heap.objs.size (Obj.mapSeq (·.pop))=H2 at *;have oth:∀ b o,b≠s.heap.objs.size->((s.heap.push (seqObj "list" #[] 0)).push { cls:=.type "set_iterator",data:=.fields #[.int 0 0,.int 0 0,.ref S,.int es.size 0,.int ep 0] }).get? b=some o->H2.get? b=some o:=fun b o hb e=>by rw[<- hH];exact(PR _ _ (Qn hb)).trans ((PR _ _ (Qn hb)).trans e)
 have old:∀ b o,s.heap.get? b=some o->H2.get? b=some o:=fun b o e=>oth b o (Pt (Pa e)) (OZ _ (OZ _ e));have hsz1:(s.heap.push (seqObj "list" #[] 0)).objs.size=s.heap.objs.size+1:=size_push' _ _;have hit:H2.get? (s.heap.objs.size+1)=some { cls:=.type "set_iterator",data:=.fields #[.int 0 0,.int 0 0,.ref S,.int es.size 0,.int ep 0] }:=oth _ _ (by lia) (by rw[<- hsz1];exact Pc _ rfl);refine OY ⟨Q1 PySem.F.plain_extend_loop _,?_⟩;show codeAny _ _ (.builtin "list.extend.loop" ⟨[.ref s.heap.objs.size,.ref (s.heap.push (seqObj "list" #[] 0)).objs.size,.ref s.heap.objs.size],[]⟩) _ _;rw[hsz1];have W:Walks prog w A.in1 (s.heap.objs.size+1) [s.heap.objs.size+1,S] [s.heap.objs.size+1] es.size (fun i v=>((gX w S ep es)[i]?).map (·.2)=some v) (fun i h=>SetIt h (s.heap.objs.size+1) S (cM w t i) i es.size ep/\kc h S es ep t):=nG (Pt (Rn hlt)) (by simp[hh]) T hs hpl hle;refine codeAny_extend_loopS W.toS (by rw[Pn];lia) s.heap.objs.size (by simp only[O8,Pd,SR,not_or];exact⟨Pt (QO _),RH hlt⟩) _ es.size 0 _ #[] _ rfl (Pq _) ⟨⟨_,hit,rfl,rfl⟩,o,old S o ho,hex,hd⟩ (by rw[hS2];rfl) (ItemsOf.nil _) fun s' acc c hm hS' hacc=>?_;obtain⟨h',g',d',tk',os'⟩:=s';have eg:g'=s.gens:=hm.gens;have ed:d'=s.drawn:=hm.drawn;have eo:os'=s.os:=hm.os;subst eg ed eo;refine KE (wpAny_load hS' ?_);have ea:acc.toList=(gX w S ep es).toList.map (·.2):=by
  apply Tc
  intro i;by_cases hi:i<acc.size
  .have e1:acc.toList[i]?=some acc[i]:=by rw[PN];simp[hi]
   have e2:=hacc.2 i acc[i] (by simp[hi]);rw[e1,Pe,PN];exact e2.symm
  .rw[Rf (by simpa using Nat.le_of_not_lt hi),Rf];rw[O2,Qo,jw,<- hacc.1];exact Nat.le_of_not_lt hi
 show wpAny _ _ (pure acc.toList) _ _ _;rw[ea];refine OY (h h' tk' (Pa hS') fun b o e=>hm.heap b o ?_ (old b o e));have:=Pa e;simp only[O8,Pd,SR,not_or];exact⟨Pt this,Pt (Rn this)⟩
end
noncomputable def c9:List Int->List Int->Bool
 | [],[]=>false
 | [],_::_=>true
 |_::_,[]=>false
 |a::x,b::y=>if a=b then c9 x y else decide (a<b)
theorem vq:∀ a:List Int,c9 a a=false
 | []=>rfl
 |a::x=>by unfold c9;rw[Pi rfl];exact vq x
theorem zH:∀ a b c:List Int,c9 a b=true->c9 b c=true->c9 a c=true
 | [],[],_,h,_=>by cases h
 | [],_::_,[],_,h=>by cases h
 | [],_::_,_::_,_,_=>rfl
 |_::_,[],_,h,_=>by cases h
 |_::_,_::_,[],_,h=>by cases h
 |a::x,b::y,c::z,h1,h2=>by
  unfold c9 at h1 h2 ⊢;by_cases e1:a=b
  .subst e1;rw[Pi rfl]at h1;by_cases e2:a=c
   .subst e2;rw[Pi rfl]at h2 ⊢;exact zH x y z h1 h2
   .rw[Pl e2]at h2 ⊢;exact h2
  .grind
theorem vt:∀ a b:List Int,a≠b->c9 a b=true\/c9 b a=true
 | [],[],h=>(h rfl).elim
 | [],_::_,_=>.inl rfl
 |_::_,[],_=>.inr rfl
 |a::x,b::y,h=>by
  unfold c9;by_cases e:a=b
  .subst e;rw[Pi rfl,Pi rfl];exact vt x y fun z=>h (by rw[z])
  .grind
section
variable {prog:Tp}{w:World}{A:Ts}{s:Tn}
theorem vv:∀{a b:List Int}{xs ys:List Tq}(i:Nat),ItemsAre (aV prog w) (iK a) xs->ItemsAre (aV prog w) (iK b) ys->Q (c9 a b) s->PySem.W.KatLex prog w A true (decide (xs.length<ys.length)) Q (xs.zip ys) i s
 | [],[],_,_,i,hx,hy,h=>by cases hx;cases hy;exact h
 | [],_::_,_,_,i,hx,hy,h=>by
  cases hx;cases hy with
  |cons h1 h2=>exact PySem.W.kat_nil h
 |_::_,[],_,_,i,hx,hy,h=>by
  cases hy;cases hx with
  |cons h1 h2=>exact PySem.W.kat_nil h
 |a::x,b::y,_,_,i,hx,hy,h=>by
  cases hx with
  | @cons _ v1 _ vs1 h1 hx'=>
   cases hy with
   | @cons _ v2 _ vs2 h2 hy'=>
    obtain⟨t1,rfl⟩:=lg h1;obtain⟨t2,rfl⟩:=lg h2;rw[Sj];refine PySem.W.kat_cons (wpAny_eqBool_int ?_);unfold c9 at h;by_cases e:a=b
    .subst e;rw[Pi rfl]at h;rw[Ry];refine PySem.W.kat_yes ?_;have:=vv (i+1) hx' hy' h;simpa using this
    .rw[Pl e]at h;have eb:(a==b)=false:=by grind
     rw[eb];refine PySem.W.kat_no ?_;cases i with
     |zero=>exact oneLt_int h
     |succ i=>exact PySem.W.kat_one _ _ (lt_int h)
structure qt (prog:Tp) (w:World) (h:Heap) (xs:List jv):Prop where
 is:∀ x∈xs,(tK prog w).is h (iK x.1) x.2
 ne:∀ x∈xs,x.1≠[]
 nd:(xs.map (·.1)).Nodup
noncomputable def gL (xs:List jv):List Tq:=xs.map fun x=>Value.ref x.2
noncomputable def fx (xs:List jv)(i:Nat):List Int:=((xs[i]?).getD ([],0)).1
theorem C3 (t:qt prog w s.heap xs):Lt xs.length fun i j=>c9 (fx xs i) (fx xs j) where
 OJ:=fun i=>vq _
 tr:=fun i j k=>zH _ _ _
 OA:=fun i j hi hj e=>vt _ _ fun z=>by
  have gi:fx xs i=(xs.map (·.1))[i]'(by simpa using hi):=by simp[fx,hi]
  have gj:fx xs j=(xs.map (·.1))[j]'(by simpa using hj):=by simp[fx,hj]
  rw[gi,gj]at z;rcases Sm e with q|q
  .exact Pw.mp t.nd i j (by simpa using hi) (by simpa using hj) q z
  .exact Pw.mp t.nd j i (by simpa using hj) (by simpa using hi) q z.symm
theorem zI (t:qt prog w s.heap xs):CZ xs.length (fun i j=>c9 (fx xs i) (fx xs j)) (PySem.W.kas_ask prog w A (tuples' true) (gL xs)) s:=by intro i j C hi hj h;have one:∀ k,k<xs.length->∃ x,(gL xs).getD k Value.none=.ref x.2/\fx xs k=x.1/\x∈xs:=fun k hk=>⟨xs[k],by simp[gL,hk],by simp[fx,hk],SO hk⟩;obtain⟨x,ex,kx,mx⟩:=one i hi;obtain⟨y,ey,ky,my⟩:=one j hj;unfold PySem.W.kas_ask;rw[ex,ey];obtain⟨ox,ix,nx,hx,cx,dx,lx⟩:=t.is x mx;obtain⟨oy,iy,ny,hy,cy,dy,ly⟩:=t.is y my;refine PySem.W.kat_lt hx dx hy dy ?_;have h:C (c9 (fx xs i) (fx xs j)) s:=h;rw[kx,ky]at h;have:=vv (A:=A) 0 lx ly h;simpa using this
theorem rC:∀{xs:List jv},(∀ x∈xs,(tK prog w).is h (iK x.1) x.2)->(∀ x∈xs,x.1≠[])->∃ fs:List Tq,PySem.W.KatTups h (gL xs) fs/\fs.length=xs.length/\∀ v∈fs,∃ i t,v=Value.int i t
 | [],_,_=>⟨[],trivial,rfl,fun v hv=>nomatch hv⟩
 |x::xs,h1,h2=>by
  obtain⟨fs,a,b,c⟩:=rC (fun y hy=>h1 y (O4 _ hy)) fun y hy=>h2 y (O4 _ hy);obtain⟨ox,ix,nx,hx,cx,dx,lx⟩:=h1 x O5;have hne:=h2 x O5;obtain⟨k,b'⟩:=x;dsimp only at hne lx hx;cases k with
  |nil=>exact(hne rfl).elim
  |cons n ns=>
   generalize hl:ix.toList=l at lx;cases lx with
   | @cons _ v _ vs q1 q2=>
    obtain⟨t,rfl⟩:=lg q1;refine⟨.int n t::fs,⟨⟨b',ox,ix,nx,rfl,hx,cx,dx,?_⟩,a⟩,by simp[b],fun v hv=>?_⟩
    .rw[<- PN,hl];rfl
    .grind
theorem wH (t:qt prog w s.heap xs)(hne:0<xs.length)(h:Q (tuples' true) s):wpAny (model prog w) A (keyKind' (gL xs).toArray) Q E s:=by
 obtain⟨fs,a,b,c⟩:=rC t.is t.ne;refine PySem.W.kat_kind (T:=.type "int") a (by lia) (fun v hv=>?_) (by decide) ?_
 .obtain⟨i,t,rfl⟩:=c v hv;exact fun A Q E s k q=>OY q
 .have:(Value.type "int" != Value.type "tuple")=true:=by decide
  rw[this];exact h
end
noncomputable def bj {α:Type}(d:α)(xs:List α)(i:Nat):α:=(xs[i]?).getD d
section
variable {α β:Type}
theorem l_ (d:α)(xs:List α):(List.range xs.length).map (bj d xs)=xs:=by
 apply Tc
 intro i;rw[Pe];by_cases h:i<xs.length
 .rw[List.getElem?_range h,O1 h];simp[bj,h]
 .rw[Rf (by grind),Rf (by grind)];rfl
theorem oG (d:α)(pm:Pm xs.length p):(p.toList.map (bj d xs)).Perm xs:=by have:=List.Perm.map (bj d xs) pm;rw[l_]at this;exact this
theorem vw {r:α->α->Bool}(pm:Pm xs.length p)(so:So (fun i j=>r (bj d xs i) (bj d xs j)) p xs.length):(p.toList.map (bj d xs)).Pairwise fun x y=>r x y=true:=by
 rw[QK,Pw];intro i j hi hj hij;have hi':i<p.size:=by grind
 have hj':j<p.size:=by grind
 have:=so i j hij (by rw[<- pm.size];exact hj');dsimp only at this;have ei:cA p i=p.toList[i]:=by simp[cA,Array.getD,hi']
 have ej:cA p j=p.toList[j]:=by simp[cA,Array.getD,hj']
 rw[ei,ej]at this;exact this
theorem rD {f:α->β}{e:β}(d:α)(pm:Pm xs.length p):(p.toList.map fun i=>(xs.map f).getD i e)=(p.toList.map (bj d xs)).map f:=by rw[QC];refine Qa fun i hi=>?_;have hi:i<xs.length:=PY.mp (pm.mem_iff.mp hi);simp[bj,hi]
end
section
theorem qt.off (t:qt prog w h xs) (ho:h.get? a=some o) (hc:o.cls=.type "list") (k:∀ b o,b≠a->h.get? b=some o->h'.get? b=some o):qt prog w h' xs:=by refine⟨fun x hx=>?_,t.ne,t.nd⟩;obtain⟨ox,ix,nx,h1,c1,r⟩:=t.is x hx;refine⟨ox,ix,nx,k x.2 ox (fun e=>?_) h1,c1,r⟩;rw[e,ho]at h1;cases h1;rw[hc]at c1;exact absurd c1 (by decide)
theorem rE {a:Addr} {n:Nat} {vs:List Tq} {κ:SortKind} {lt:Nat->Nat->Bool} {P:PySem.Fin->Tn->Prop} (ho:s.heap.get? a=some (seqObj "list" vs.toArray n)) (h64:vs.length<64)
 (hk:∀ H,(∀ b o,b≠a->s.heap.get? b=some o->H.get? b=some o)->2<=vs.length->(∀ Q,Q κ { s with heap:=H }->wpAny (model prog w) A (keyKind' vs.toArray) Q E { s with heap:=H })/\Lt vs.length lt/\CZ vs.length lt (PySem.W.kas_ask prog w A κ vs) { s with heap:=H })
 (h:∀ p h' c,Pm vs.length p->So lt p vs.length->h'.get? a=some (seqObj "list" (p.toList.map fun i=>vs.getD i Value.none).toArray c)->(∀ b o,b≠a->s.heap.get? b=some o->h'.get? b=some o)->P (.done (.ret .none)) { s with heap:=h' }) :
 wpAny (model prog w) A (Builtin.«list.sort» ⟨[.ref a],[]⟩) P E s:=by
 rw[list_sort_plain];refine KE (listItems_at ho rfl (KE (listUpdate_at ho rfl ?_ (by rw[O7,Pn];lia) (Pq _))));obtain⟨e1,ho1⟩ : ∃ e1,(s.heap.update a (Obj.mapSeq fun _=>#[])).get? a=some (seqObj "list" #[] e1):=⟨_,get?_update_seq ho (fun _=>#[])⟩;refine KE (seqEpoch_at ho1 rfl (KE (wpAny_newTuple (KE (wpAny_newList (Qd ?_) (Pq _))) (by show vs.length<=_;rw[Pn];lia))));have oth:∀ b o,b≠a->s.heap.get? b=some o->(((s.heap.update a (Obj.mapSeq fun _=>(#[]:Array Tq))).push (seqObj "tuple" vs.toArray 0)).push (seqObj "list" #[] 0)).get? b=some o:=fun b o hb e=>OZ _ (OZ _ ((PR _ _ (Qn hb)).trans e));have ho6:(((s.heap.update a (Obj.mapSeq fun _=>(#[]:Array Tq))).push (seqObj "tuple" vs.toArray 0)).push (seqObj "list" #[] 0)).get? a=some (seqObj "list" #[] e1):=OZ _ (OZ _ ho1);show wpAny (model prog w) A _ P E { s with heap:=((s.heap.update a (Obj.mapSeq fun _=>(#[]:Array Tq))).push (seqObj "tuple" vs.toArray 0)).push (seqObj "list" #[] 0) };generalize (((s.heap.update a (Obj.mapSeq fun _=>(#[]:Array Tq))).push (seqObj "tuple" vs.toArray 0)).push (seqObj "list" #[] 0))=H6 at ho6 oth;dsimp only;have fin:∀(p:Array Nat)(out:Array Tq),Pm vs.length p->So lt p vs.length->out=(p.toList.map fun i=>vs.getD i Value.none).toArray->P (.done (.ret .none)) { s with heap:=H6.update a (Obj.mapSeq fun _=>out) }:=fun p out hp hw ho=>by subst ho;exact h p _ _ hp hw (get?_update_seq ho6 fun _=>(p.toList.map fun i=>vs.getD i Value.none).toArray) fun b o hb e=>(PR _ _ (Qn hb)).trans (oth b o hb e)
 by_cases h2:vs.toArray.size<2
 .rw[Pi h2,Pi h2];refine KE (OY ?_);rw[StateT.run_pure];have hx2:vs.length<2:=by grind
  have hout:Array.map (fun x:Keyed=>x.2) (vs.toArray.zip vs.toArray)=vs.toArray:=by apply Array.ext';simp[List.map_snd_zip]
  refine KE (OY ?_);dsimp only;refine KE (seqEpoch_at ho6 rfl (KE (listUpdate_at ho6 rfl ?_ (Pq _) ?_)))
  .simp only[SD,Po,Qy];refine OY (fin (List.range vs.length).toArray _ (Q7 _) (fun a b h1 h2=>by lia) (hout.trans ?_));rw[show(fun i=>vs.getD i Value.none)=bj Value.none vs from funext fun i=>by simp[bj]];show _=(List.map _ (List.range vs.length)).toArray;rw[l_]
  .show(Array.map (fun x:Keyed=>x.2) (vs.toArray.zip vs.toArray)).size<=_;rw[hout,O7,Pn];lia
 .rw[Pl h2,Pl h2];have hx2:2<=vs.length:=by grind
  obtain⟨k1,k2,k3⟩:=hk H6 oth hx2;refine KE (k1 _ ?_);refine KE (QI (PySem.W.kat_run (s:={ s with heap:=H6 }) (Q:=fun st' s'=>s'={ s with heap:=H6 }/\∃ p:Array Nat,Pm vs.length p/\So lt p vs.length/\arrOf st'=p.map (PySem.W.kas_item (vs.toArray.zip vs.toArray))/\failedOf st'=none)
   (G:=fun p s'=>s'={ s with heap:=H6 }/\Pm vs.length p/\So lt p vs.length) rfl (by lia) (by lia) (fun p st' s' _ a2 a3 g=>⟨g.1,p,g.2.1,g.2.2,a2,a3⟩) ?_) ?_ fun _ _ e=>e)
  .exact C0 k2 k3 hx2 fun p pm so=>⟨rfl,pm,so⟩
  .rintro⟨⟨⟩,st'⟩ s' ⟨rfl,p,pm,so,har,hf⟩;dsimp only;rw[PySem.W.kat_snds rfl har];refine KE (seqEpoch_at ho6 rfl (KE (listUpdate_at ho6 rfl ?_ (Pq _) ?_)))
   .rw[hf];simp only[SD,Po,Qy];exact OY (fin _ _ pm so rfl)
   .have:=pm.size;simp[this];rw[Pn];lia
theorem wI (ho:s.heap.get? a=some (seqObj "list" (gL xs).toArray n)) (t:qt prog w s.heap xs) (h64:xs.length<64)
 (h:∀ ys h' c,ys.Perm xs->ys.Pairwise (fun x y=>c9 x.1 y.1=true)->h'.get? a=some (seqObj "list" (gL ys).toArray c)->(∀ b o,b≠a->s.heap.get? b=some o->h'.get? b=some o)->P (.done (.ret .none)) { s with heap:=h' }) :
 wpAny (model prog w) A (Builtin.«list.sort» ⟨[.ref a],[]⟩) P E s:=by
 have hvl:(gL xs).length=xs.length:=by simp[gL]
 refine rE (κ:=tuples' true) (lt:=fun i j=>c9 (fx xs i) (fx xs j)) ho (by lia) (fun H oth h2=>?_) fun p h' c pm so e k=>?_
 .have t6:qt prog w H xs:=t.off ho rfl oth;rw[hvl];exact⟨fun Q q=>wH (s:={ s with heap:=H }) t6 (by lia) q,C3 (s:={ s with heap:=H }) t6,zI (s:={ s with heap:=H }) t6⟩
 .rw[hvl]at pm so;exact h (p.toList.map (bj ([],0) xs)) h' c (oG _ pm) (vw (r:=fun x y=>c9 x.1 y.1) pm so) (by rw[e];unfold gL;rw[rD ([],0) pm]) k
def vx (prog:Tp) (w:World) (N:Nat):Prop:=∀(A:Ts)(E:Tq->Tn->Prop)(s:Tn)(a:Addr)(n:Nat)(xs:List jv)(P:PySem.Fin->Tn->Prop),s.heap.get? a=some (seqObj "list" (gL xs).toArray n)->qt prog w s.heap xs->xs.length<=N->
 (∀ ys h' c,ys.Perm xs->ys.Pairwise (fun x y=>c9 x.1 y.1=true)->h'.get? a=some (seqObj "list" (gL ys).toArray c)->(∀ b o,b≠a->s.heap.get? b=some o->h'.get? b=some o)->P (.done (.ret .none)) { s with heap:=h' })->wpAny (model prog w) A (Builtin.«list.sort» ⟨[.ref a],[]⟩) P E s
theorem C4:vx prog w 63:=fun _ _ _ _ _ _ _ ho t hz h=>wI ho t (by lia) h
end
section
variable {κ μ:Type}{its:List (κ×μ)}
theorem ma:∀(l:List (Int×Tq)),(∀ e∈l,∃ x∈its,e=ent x)->∃ zs:List (κ×μ),l=zs.map ent/\∀ z∈zs,z∈its
 | [],_=>⟨[],rfl,fun z hz=>nomatch hz⟩
 |e::l,h=>by
  obtain⟨x,hx,rfl⟩:=h e O5;obtain⟨zs,h1,h2⟩:=ma l fun e he=>h e (O4 _ he);exact⟨x::zs,by rw[h1];rfl,fun z hz=>by
   rcases O8.mp hz with rfl|hz
   .exact hx
   .exact h2 z hz⟩
structure nc (lt:κ->κ->Prop) (its ys:List (κ×μ)):Prop where
 sub:∀ y∈ys,y∈its
 all:∀ x∈its,∃ y∈ys,y.1=x.1
 pw:ys.Pairwise fun x y=>lt x.1 y.1
def FZ (prog:Tp) (w:World) (hb:Heap) (ent:κ×μ->Int×Tq) (lt:κ->κ->Prop) (its:List (κ×μ)) (N:Nat):Prop:=∀(A:Ts)(E:Tq->Tn->Prop)(s:Tn)(a:Addr)(n:Nat)(zs:List (κ×μ))(P:PySem.Fin->Tn->Prop),(∀ b o,hb.get? b=some o->s.heap.get? b=some o)->s.heap.get? a=some (seqObj "list" (zs.map fun z=>(ent z).2).toArray n)->(∀ z∈zs,z∈its)->(zs.map (·.1)).Nodup->zs.length<=N->
 (∀(ys:List (κ×μ)) h' c,ys.Perm zs->ys.Pairwise (fun x y=>lt x.1 y.1)->h'.get? a=some (seqObj "list" (ys.map fun z=>(ent z).2).toArray c)->(∀ b o,b≠a->s.heap.get? b=some o->h'.get? b=some o)->P (.done (.ret .none)) { s with heap:=h' })->wpAny (model prog w) A (Builtin.«list.sort» ⟨[.ref a],[]⟩) P E s
theorem jy (sa:SetAt w s.heap S es)(v:dQ ent es its)(un:BU ent its)(hh:A.handled=none)(hN:N<=300)(hs:FZ prog w s.heap ent lt its N)(hz:its.length<=N)
 (h:∀(ys:List (κ×μ)) h' tk l c,nc lt its ys->ys.length<=N->s.heap.objs.size<=l->h'.get? l=some (seqObj "list" (ys.map fun z=>(ent z).2).toArray c)->(∀ b o,s.heap.get? b=some o->h'.get? b=some o)->Q (.ref l) { s with heap:=h',toks:=tk }) :
 wpAny (model prog w) A (call (.builtin "sorted") [.ref S]) Q E s:=by
 obtain⟨o,ep,t,ho,hex,hd,T,sp,hpl,hle⟩:=sa;have pe:=rA w S ep es;have hes:=v.sz;obtain⟨zs,ez,zm⟩:=ma (ent:=ent) (its:=its) (gX w S ep es).toList fun e he=>v.el e (pe.mem_iff.mp he);have ev:(gX w S ep es).toList.map (·.2)=zs.map fun z=>(ent z).2:=by rw[ez,QC];rfl
 have hzl:zs.length=es.size:=by have:=QH List.length ez;rw[O2,Qo,jw]at this;exact this.symm
 have nd:(zs.map (·.1)).Nodup:=by have pw:=(pe.pairwise_iff (fun{x y} hxy a b e1 e2 m1 m2 z=>hxy b a e2 e1 m2 m1 z.symm)).mpr v.pw;rw[ez,QK]at pw;unfold List.Nodup;rw[QK];exact QZ (fun{a b} ha hb hab=>hab a b rfl rfl (zm a ha) (zm b hb)) pw
 refine Calls.call_function_entry kind_sorted plain_sorted entry_sorted (args_sorted1 _) ?_;unfold Builtin.«sorted»;refine KE (m:=checkCount "sorted" 1 1 _) (OY (KE (rB ⟨o,ho,hex,hd⟩ T (fX sp) hpl hle (by simp[hh]) (by lia) fun h1 tk1 g1 k1=>?_)));rw[ev];refine KE (wpAny_newList ?_ (by rw[O2,hzl,Pn];lia));have hoL:(h1.push (seqObj "list" (zs.map fun z=>(ent z).2).toArray 0)).get? h1.objs.size=some (seqObj "list" (zs.map fun z=>(ent z).2).toArray 0):=Pc _ rfl;have kk:∀ b o,s.heap.get? b=some o->(h1.push (seqObj "list" (zs.map fun z=>(ent z).2).toArray 0)).get? b=some o:=fun b o e=>OZ _ (k1 b o e);have ge:s.heap.objs.size<=h1.objs.size:=Rq g1;refine KE (Qd (Qj slot_list_sort ⟨_,hoL,rfl⟩ entry_list_sort (hs _ _ { s with heap:=h1.push (seqObj "list" (zs.map fun z=>(ent z).2).toArray 0),toks:=tk1 } _ _ zs _ kk hoL zm nd (by lia) fun ys h2 c2 hp hw hl2 k2=>⟨_,rfl,?_⟩) (args_list_sort _)));refine OY ⟨_,rfl,h ys h2 tk1 _ c2 ⟨fun y hy=>zm y (hp.mem_iff.mp hy),fun x hx=>?_,hw⟩ (by rw[hp.length_eq];lia) ge hl2 fun b o e=>k2 b o (fun z=>?_) (kk b o e)⟩
 .obtain⟨y,y1,y2,y3⟩:=v.all x hx;have y4:=pe.mem_iff.mpr y3;rw[ez]at y4;obtain⟨z,z1,z2⟩:=Pb.mp y4;exact⟨z,hp.mem_iff.mpr z1,(un z (zm z z1) y y1 z2).trans y2⟩
 .subst z;exact absurd (Pa e) (Nat.not_lt.mpr ge)
end
def TupsIn (H:Hp):List V->List jv->Prop:=Paired fun v x=>v=.ref x.2/\H x.2=some (.tup ((iK x.1).map kV))
theorem TupsIn.get (t:TupsIn H vs its)(rv:Vals vs us):its.length=us.length/\(∀(i:Nat)(v:Tq),us[i]?=some v->∃ x:jv,its[i]?=some x/\v=.ref x.2)/\∀ x∈its,H x.2=some (.tup ((iK x.1).map kV)):=by
 unfold TupsIn at t;induction t generalizing us with
 |nil=>cases rv;exact⟨rfl,fun i v e=>by simp at e,fun x hx=>nomatch hx⟩
 | @cons v y vs its q t ih=>
  cases rv with
  | @cons _ u _ us r s=>
   obtain⟨a,b,c⟩:=ih s;obtain⟨rfl,q⟩:=q;obtain rfl:u=Value.ref y.2:=r;refine⟨by simp[a],fun i v e=>?_,fun x hx=>?_⟩
   .cases i with
    |zero=>simp at e;exact⟨y,rfl,e.symm⟩
    |succ i=>exact b i v e
   .rcases O8.mp hx with rfl|hx
    .exact q
    .exact c x hx
section
theorem wJ (hc:X.calm=true) (hu:X.A.units+64<cLine):cm X (.type "set") (fun xs H Q=>∃ l vs its,xs=[.ref l]/\Rd H l (.lst vs)/\TupsIn H vs its/\vs.length<=300/\
 ∀ p es,H p=none->dQ (eT X.prog X.w) es its->Q (.ref p) (upd H p (.ext fun h=>SetAt X.w h p es))):=by
 intro ai s σ H xs us Q I r h;obtain⟨l,vs,its,rfl,hl,hp,hz,q⟩:=h;obtain⟨u,rfl,ru⟩:=eZ r;obtain rfl:u=Value.ref l:=ru;obtain⟨_,us,n,rv,hg⟩:=(show ObjOk X.prog X.w H s.heap l (.lst vs) from hl.ok I.be);obtain⟨g1,g2,g3⟩:=hp.get rv;have his:=fun x hx=>dP I.be (g3 x hx);refine oE (ent:=eT X.prog X.w) (I.ok.hd hc) hg (its:=its) (by grind) (by rw[O7,<- rv.length];exact hz) (fun i v e=>g2 i v (by grind)) (FY his) (C2 (by show X.A.units+1+1+1<cLine;lia) his) fun h' tk es hS v hk=>?_;have hf:H s.heap.objs.size=none:=I.be.fresh (O0 _);refine⟨.ref s.heap.objs.size,_,I.laid (a:=s.heap.objs.size) (o:=.ext fun h=>SetAt X.w h s.heap.objs.size es) (t':=tk) (fun b o e=>hk b o (Pa e) e) (O0 _) ?_,rfl,q _ es hf v⟩;exact⟨hS,(let ⟨o,_,_,e,_⟩:=hS;⟨o,e⟩),fun h1 h2 hs k=>SetAt.keep hs k⟩
theorem pE (hc:X.calm=true) (hN:N<=300) (hs:vx X.prog X.w N):cm X (.builtin "sorted") (fun xs H Q=>∃ p es its,xs=[.ref p]/\H p=some (.ext fun h=>SetAt X.w h p es)/\dQ (eT X.prog X.w) es its/\(∀ x∈its,H x.2=some (.tup ((iK x.1).map kV)))/\(∀ x∈its,x.1≠[])/\its.length<=N/\
 ∀ l ys,H l=none->nc (fun x y=>c9 x y=true) its ys->Q (.ref l) (upd H l (.lst (ys.map fun y=>.ref y.2)))):=by
 intro ai s σ H xs us Q I r h;obtain⟨p,es,its,rfl,hp,v,ht,hne,hz,q⟩:=h;obtain⟨u,rfl,ru⟩:=eZ r;obtain rfl:u=Value.ref p:=ru;obtain⟨hS,_,_⟩:=(show ObjOk X.prog X.w H s.heap p (.ext fun h=>SetAt X.w h p es) from I.be p _ hp);have his:=fun x hx=>dP I.be (ht x hx);refine jy hS v (FY his) (I.ok.hd hc) hN (lt:=fun x y=>c9 x y=true) (fun A E s a n zs P kk ho zm nd hz h=>hs A E s a n zs P ho ⟨fun x hx=>jr (his x (zm x hx)) kk,fun x hx=>hne x (zm x hx),nd⟩ hz h) hz fun ys h' tk l c so hyl hle hl hk=>?_;refine⟨.ref l,_,I.laid (a:=l) (o:=.lst (ys.map fun y=>.ref y.2)) (t':=tk) hk hle ⟨by rw[O2,Pn];lia,_,c,?_,hl⟩,rfl,q l ys (I.be.fresh hle) so⟩;clear so hl hyl;induction ys with
 |nil=>exact .nil
 |cons y ys ih=>exact .cons rfl ih
end
end L2
namespace L2
open PySem PySem.Spec PyProof.Rows
end L2
namespace L2
open PySem PySem.Spec PySem.Calls PyProof.Rows ST
section
theorem C5 (T:m9 t es)(sp:iU t)(h:Int)(x:Tq):∃ j,j∉t.place.toList/\j<=t.mask/\Rea t.mask (·∈ t.place.toList) h j/\layNew t es h x=(SetTable.insertAt es (t.put j).2 (h,x),(t.put j).1,false,false):=by
 have hs:=fX sp;have pr:=lW T.tb hs (fun _=>h+1) h (Va.st t.mask h);have hst:t.probeStart h=st t.mask h:=rfl;generalize hp:t.probe (fun _=>h+1) h (st t.mask h)=m at pr;cases pr with
 |ca n i hi e q b=>exact absurd q (by lia)
 |em n e b=>
  have re:Rea t.mask (·∈ t.place.toList) h (it t.mask n (st t.mask h)).j:=⟨n,rfl,fun k hk=>by obtain⟨i,hi,q,_⟩:=b k hk;show _∈t.place.toList;rw[<- q];simp⟩;have hjm:(it t.mask n (st t.mask h)).j<=t.mask:=((Va.st t.mask h).it).Nv;refine⟨_,e,hjm,re,?_⟩;obtain⟨T',em,ez⟩:=tW T e hjm (v:=x) re;have hp1:(t.put (it t.mask n (st t.mask h)).j).2<=es.size:=by rw[lb,<- T.len];exact(cL _ T.tb.sK).1
  have le':(t.put (it t.mask n (st t.mask h)).j).1.place.size<=(t.put (it t.mask n (st t.mask h)).j).1.mask:=by grind [iU]
  have hf:=m9.fits T' le';unfold layNew SetTable.freeSlot;rw[hst,hp];dsimp only[Option.getD,Option.isSome];unfold SetTable.orStandIn;rw[Pi hf,hf];rfl
theorem wK (hm:sP m)(hn:SetTable.sizeAbove n=m+1)(hl:es.size<=m):∃ es' t',relayAll t es n=(es',t',false)/\Laid m es es' t'/\t'.led=t.led/\t'.plain=t.plain:=by
 obtain⟨t',order,e,L,h1,h2,hp⟩:=rn hm es hl t.finger (t.movedTo m) t.led t.plain;refine⟨_,t',?_,L,h1,h2⟩;have er:t.relaid (es.map (·.1)) n=some (t',order):=by unfold SetTable.relaid;rw[hn];exact e
 unfold relayAll;rw[er];dsimp only;have hc:coversAll order es.size=true:=by unfold coversAll;exact List.isPerm_iff.mpr hp
 have hf:t'.fits (order.filterMap (es[·]?)).size=true:=m9.fits L.qz (by rw[L.qz.len,L.mask,L.size];exact hl);rw[hc,hf];rfl
end
section
theorem C6 (hS:SetAt w s.heap a es)(el:ElemsOf (intKind prog w) es.toList)(hz:es.size+1<=300)
 (h1:∀ tk,s.toks<=tk->(∃ e∈es.toList,(intKind prog w).is i e.2=true)->Q false { s with toks:=tk })
 (h2:∀ tk h' es',s.toks<=tk->(∀ e∈es.toList,(intKind prog w).is i e.2=false)->Heap.SameBut a s.heap h'->SetAt w h' a es'->kR es es' ((intKind prog w).hash i,.int i t0)->Q true { s with heap:=h',toks:=tk }) :
 wpAny (model prog w) A (setAdd a (.int i t0)) Q E s:=by
 obtain⟨o,ep,t,ho,hex,hd,T,sp,hpl,hle⟩:=hS;have hf:=m9.fits T (fX sp);have fQ:=intKind_is prog w i t0;have hsc:(Value.int i t0).scannable=true:=rfl;unfold setAdd;refine Qd ?_;refine KE ((intKind prog w).pyHash (k:=i) fQ ?_);have htk:s.toks<=s.toks+1:=Te _;generalize s.toks+1=tk at htk;unfold setAddHashed setAddHashedIn;refine Qd (KE (Qs (s:={ s with toks:=tk }) ho hd hf ?_));dsimp only;rw[byScan_of hsc (by unfold scanBound;lia) el];simp only[RB];unfold setAddByScan;refine KE ?_;refine KE (Sz ?_);refine KE (wpAny_setScan_of (s:={ s with toks:=tk }) fQ ho hd hf el ?_);cases hr:List.findIdx? (fun e=>(intKind prog w).is i e.2) es.toList with
 |some j=>dsimp only;obtain⟨hj,hpj,_⟩:=List.findIdx?_eq_some_iff_getElem.mp hr;exact OY (OY (h1 tk htk ⟨_,SO hj,hpj⟩))
 |none=>
  dsimp only;have hout:∀ e∈es.toList,(intKind prog w).is i e.2=false:=fun e he=>by have:=List.findIdx?_eq_none_iff.mp hr e he;simpa using this
  obtain⟨j,hj,hjm,re,hlay⟩:=C5 T sp ((intKind prog w).hash i) (.int i t0);obtain⟨T',em,ez⟩:=tW T hj hjm (v:=Value.int i t0) re;have hpl':(t.put j).1.plain=true:=by rw[jt T.tb];exact hpl
  have hle':(t.put j).1.led=!byT w:=by rw[jt T.tb];exact hle
  rw[hlay];dsimp only;refine KE (show wpAny _ _ (pure ()) _ _ _ from OY ?_);rw[hpl'];simp only[RB];rw[hashByValue_scannable 8 hsc];refine KE (OY ?_);rw[show plainKind (Value.int i t0)=true from rfl];simp only[RB];have hp:(t.put j).2<=es.size:=by rw[lb,<- T.len];exact(cL j T.tb.sK).1
  have g:=oC es (t.put j).2 ((intKind prog w).hash i,Value.int i t0) hp;refine KE (SC (s:={ s with toks:=tk }) ho hd ?_ (by rw[g.size,Pn];lia));obtain⟨o1,q1,q2,q3⟩:=ip (SetTable.insertAt es (t.put j).2 ((intKind prog w).hash i,Value.int i t0)) (t.put j).1 ho hex hd;have sb:=P_ s.heap a (Obj.putSet (SetTable.insertAt es (t.put j).2 ((intKind prog w).hash i,Value.int i t0)) (t.put j).1);have fill:(t.put j).1.fill=es.size+1:=by unfold SetTable.fill;rw[T'.tb.HV,ez,T.len];rfl
  by_cases hfull:(t.put j).1.tooFull=true
  .rw[hfull];simp only[Bool.not_false,Tf,RB];unfold SetTable.tooFull at hfull;rw[fill,em]at hfull;have hfull:(es.size+1)*5>=t.mask*3:=by simpa using hfull
   have sp':es.size*5<t.mask*3:=by rw[<- T.len];exact sp
   obtain⟨m,m1,m2,m3⟩:=lZ T.tb.Fe sp' hfull hz;rw[g.size];obtain⟨es',t',hra,L,l1,l2⟩:=wK (t:=(t.put j).1) (es:=SetTable.insertAt es (t.put j).2 ((intKind prog w).hash i,Value.int i t0)) m2 m1 (by rw[g.size];lia);rw[hra];dsimp only;refine KE (show wpAny _ _ (pure ()) _ _ _ from OY ?_);refine KE (SC q1 q3 ?_ (by rw[L.size,g.size,Pn];lia));obtain⟨o2,r1,r2,r3⟩:=ip es' t' q1 q2 q3;refine OY (OY (h2 tk _ es' htk hout (sb.trans (P_ _ a _)) ⟨o2,_,_,r1,r2,r3,L.qz,?_,by rw[l2];exact hpl',by rw[l1];exact hle'⟩ (g.laid L)));unfold iU;rw[L.qz.len,L.mask,L.size,g.size];exact m3
  .have hfull:(t.put j).1.tooFull=false:=by simpa using hfull
   rw[hfull];simp only[RZ,Po,Qy];refine OY (OY (h2 tk _ _ htk hout sb ⟨o1,_,_,q1,q2,q3,T',?_,hpl',hle'⟩ g));unfold SetTable.tooFull at hfull;unfold iU;rw[fill]at hfull;rw[ez,T.len];simpa using hfull
end
section
noncomputable abbrev rF:=Int×Tok
noncomputable abbrev eI (prog:Tp)(w:World)(x:rF):Int×Tq:=((intKind prog w).hash x.1,.int x.1 x.2)
theorem isI:(intKind prog w).is k (.int j t)=true↔k=j:=by
 constructor
 .intro h;by_cases e:k=j
  .exact e
  .have h2:=intKind_is prog w j t;exact absurd ((intKind prog w).inj _ _ _ h h2) e
 .rintro rfl;exact intKind_is prog w k t
theorem Iw:BU (eI prog w) its:=fun x _ y _ e=>by injection e with _ e;injection e
theorem C7:vn prog w A hb S (eI prog w) its:=fun x xs s es Q E hx hs K hS v hz h1 h2=>by
 refine C6 hS (fun e he=>?_) hz (fun tk t hin=>h1 tk t ?_) fun tk h' es' t hout sb sa g=>h2 tk h' es' t (fun hin=>?_) sb sa g
 .obtain⟨y,_,rfl⟩:=v.el e he;exact⟨⟨y.1,intKind_is prog w y.1 y.2,rfl⟩,rfl⟩
 .obtain⟨e,he,hh⟩:=hin;obtain⟨y,y1,rfl⟩:=v.el e he;exact⟨y,y1,(isI.mp hh).symm⟩
 .obtain⟨y,y1,y2⟩:=hin;obtain⟨z,z1,z2,z3⟩:=v.all y y1;have:=hout _ z3;rw[isI.mpr (z2.trans y2).symm]at this;cases this
end
section
theorem Iy (r:Vals (xs.map V.int) us):∃ its:List rF,its.map (·.1)=xs/\us=its.map fun z=>Value.int z.1 z.2:=by
 induction xs generalizing us with
 |nil=>cases r;exact⟨[],rfl,rfl⟩
 |cons x xs ih=>
  cases r with
  |cons q h=>obtain⟨t,rfl⟩:=q;obtain⟨its,rfl,rfl⟩:=ih h;exact⟨(x,t)::its,rfl,rfl⟩
theorem ub (hc:X.calm=true):cm X (.type "set") (fun vs H Q=>∃ l xs,vs=[.ref l]/\Rd H l (.lst (xs.map V.int))/\xs.length<=300/\∀ p es its,H p=none->its.map (·.1)=xs->dQ (eI X.prog X.w) es its->Q (.ref p) (upd H p (.ext fun h=>SetAt X.w h p es))):=by
 intro ai s σ H vs us Q I r h;obtain⟨l,xs,rfl,hl,hz,q⟩:=h;obtain⟨u,rfl,ru⟩:=eZ r;obtain rfl:u=Value.ref l:=ru;obtain⟨_,us,n,rv,hg⟩:=(show ObjOk X.prog X.w H s.heap l (.lst (xs.map V.int)) from hl.ok I.be);obtain⟨its,rfl,rfl⟩:=Iy rv;rw[O2]at hz;refine oE (ent:=eI X.prog X.w) (I.ok.hd hc) hg (its:=its) (by simp) (by simpa using hz) (fun i v e=>?_) Iw C7 fun h' tk es hS v hk=>?_
 .simp only[List.getElem?_toArray,Pe,PU]at e;obtain⟨x,h1,h2⟩:=e;exact⟨x,h1,h2.symm⟩
 .refine⟨.ref s.heap.objs.size,_,I.laid (a:=s.heap.objs.size) (o:=.ext fun h=>SetAt X.w h s.heap.objs.size es) (t':=tk) (fun b o e=>hk b o (Pa e) e) (O0 _) ?_,rfl,q _ es its (I.be.fresh (O0 _)) rfl v⟩;exact⟨hS,(let ⟨o,_,_,e,_⟩:=hS;⟨o,e⟩),fun h1 h2 hs k=>SetAt.keep hs k⟩
end
noncomputable def gY (zs:List rF):List Tq:=zs.map fun z=>Value.int z.1 z.2
section
theorem rG:∀ zs:List rF,IntsAre (gY zs) (zs.map (·.1))
 | []=>.nil
 |z::zs=>.cons _ _ (rG zs)
theorem wL {P:PySem.Fin->Tn->Prop} (ho:s.heap.get? a=some (seqObj "list" (gY zs).toArray n)) (nd:(zs.map (·.1)).Nodup) (hz:zs.length<=63)
 (h:∀ ys h' c,ys.Perm zs->ys.Pairwise (fun x y=>x.1<y.1)->h'.get? a=some (seqObj "list" (gY ys).toArray c)->(∀ b o,b≠a->s.heap.get? b=some o->h'.get? b=some o)->P (.done (.ret .none)) { s with heap:=h' }) :
 wpAny (model prog w) A (Builtin.«list.sort» ⟨[.ref a],[]⟩) P E s:=by
 have hvl:(gY zs).length=zs.length:=by simp[gY]
 have at_:∀ k (hk:k<zs.length),bj (0,0) zs k=zs[k]:=fun k hk=>by simp[bj,hk]
 refine rE (κ:=oneType') (lt:=fun i j=>decide ((bj (0,0) zs i).1<(bj (0,0) zs j).1)) ho (by lia) (fun H oth h2=>⟨fun Q q=>?_,⟨fun i=>by simp,fun i j k=>by grind,fun i j hi hj e=>?_⟩,fun i j C hi hj q=>?_⟩) fun p h' c pm so e k=>?_
 .have hkind:keyKind' (gY zs).toArray=pure oneType':=by
   match zs,(show 2<=zs.length by lia) with
   |z1::z2::r,_=>exact keyKind_ints (rG (z1::z2::r))
  rw[hkind];exact OY q
 .rw[hvl]at hi hj;rw[at_ i hi,at_ j hj];rcases Sm e with q|q
  .have:=Pw.mp nd i j (by grind) (by grind) q;grind
  .have:=Pw.mp nd j i (by grind) (by grind) q;grind
 .rw[hvl]at hi hj;unfold PySem.W.kas_ask;have one:∀ k (hk:k<zs.length),(gY zs).getD k Value.none=.int zs[k].1 zs[k].2:=fun k hk=>by simp[gY,hk]
  rw[one i hi,one j hj,keyLt'_oneType];dsimp only at q;rw[at_ i hi,at_ j hj]at q;exact oneLt_int q
 .rw[hvl]at pm so;refine h (p.toList.map (bj (0,0) zs)) h' c (oG _ pm) ((vw (r:=fun x y=>decide (x.1<y.1)) pm so).imp fun h=>PD h) ?_ k;rw[e];unfold gY;rw[rD (0,0) pm]
end
section
theorem oH:∀ ys:List rF,Vals (ys.map fun y=>V.int y.1) (gY ys)
 | []=>.nil
 |y::ys=>.cons ⟨y.2,rfl⟩ (oH ys)
theorem nH (hc:X.calm=true):cm X (.builtin "sorted") (fun vs H Q=>∃ p es its,vs=[.ref p]/\H p=some (.ext fun h=>SetAt X.w h p es)/\dQ (eI X.prog X.w) es its/\its.length<=63/\
 ∀(l:Addr)(ks:List Int),H l=none->(∀ k,k∈ks↔k∈its.map (·.1))->ks.Pairwise (·< ·)->Q (.ref l) (upd H l (.lst (ks.map V.int)))):=by
 intro ai s σ H vs us Q I r h;obtain⟨p,es,its,rfl,hp,v,hz,q⟩:=h;obtain⟨u,rfl,ru⟩:=eZ r;obtain rfl:u=Value.ref p:=ru;obtain⟨hS,_,_⟩:=(show ObjOk X.prog X.w H s.heap p (.ext fun h=>SetAt X.w h p es) from I.be p _ hp);refine jy hS v Iw (I.ok.hd hc) (by decide) (lt:=(·< ·)) (fun A E s a n zs P _ ho _ nd hz h=>wL ho nd hz h) hz fun ys h' tk l c so hyl hle hl hk=>?_;have em:(ys.map (·.1)).map V.int=ys.map fun y=>V.int y.1:=by rw[QC];rfl
 refine⟨.ref l,_,I.laid (a:=l) (o:=.lst ((ys.map (·.1)).map V.int)) (t':=tk) hk hle ?_,rfl,q l (ys.map (·.1)) (I.be.fresh hle) (fun k=>?_) (QK.mpr so.pw)⟩
 .rw[em];exact⟨by rw[O2,Pn];lia,gY ys,c,oH ys,hl⟩
 .constructor
  .intro hk;obtain⟨y,hy,rfl⟩:=Pb.mp hk;exact Pb.mpr ⟨y,so.sub y hy,rfl⟩
  .intro hk;obtain⟨x,hx,rfl⟩:=Pb.mp hk;obtain⟨y,y1,y2⟩:=so.all x hx;exact Pb.mpr ⟨y,y1,y2⟩
end
end L2
namespace L2
open PySem PySem.Spec PySem.Calls PyProof.Rows
section
theorem F0 {k:List bC}{dflt:Tq}{Q:Tq->Tn->Prop}(hu:A.units<cLine)(fQ:(tK prog w).is s.heap k a)(hm:s.heap.DictOfH (tK prog w) d xs)(hsz:xs.length<=sizeLine)
 (h1:∀ p,atKey xs k=some p->Q p.2 { s with toks:=s.toks+(tK prog w).draws k })
 (h2:atKey xs k=none->∀ h',h'.DictOfH (tK prog w) d (storedH xs k a dflt)->Heap.SameBut d s.heap h'->Q dflt { s with heap:=h',toks:=s.toks+(tK prog w).draws k }):wpAny (model prog w) A (dictSetDefault d (.ref a) dflt) Q E s:=by
 obtain⟨o,es,ep,ho,hc,hd,he,his,hn⟩:=hm;unfold dictSetDefault
 try with_reducible refine Qd ?_
 refine KE ((tK prog w).pyHash hu fQ (KE (wpAny_dictFind_heap (knd:=tK prog w) (s:={ s with toks:=s.toks+(tK prog w).draws k }) hu fQ ho hd he his hn (fun hno=>?_) fun j p hj=>?_)))
 .have hnone:=atKey_none_of_get hno;have hnot:k∉xs.map (·.1):=not_mem_keys_of_get hno;refine KE (Sz (KE (wpAny_updateDictKeys (hz:=by have e:=size_of_entries he;lia) (s:={ s with toks:=s.toks+(tK prog w).draws k }) ho hd (OY (h2 hnone _ ⟨_,_,ep+1,Qm _ ho (Obj.isFreed_of_dict (RU hd _)),hc.mapDictKeys _,RU hd _,?_,?_,?_⟩ (P_ ..))))))
  .rw[storedH_new hnone];simp[he,entryOfKey]
  .rw[storedH_new hnone];intro x hx;rcases Pf.mp hx with hx|hx
   .exact(tK prog w).keeps (his x hx) ho hd (P_ ..)
   .obtain rfl:=O9.mp hx;exact(tK prog w).keeps fQ ho hd (P_ ..)
  .rw[storedH_new hnone,PX,Q8];exact⟨hn,by simp,fun x hx y hy e=>by simp only[Ph,Rr,O9]at hy;subst hy;exact hnot (e▸hx)⟩
 .refine KE (SF (s:={ s with toks:=s.toks+(tK prog w).draws k }) ho hd ?_);rw[entry_at he j,hj];exact KE (Sz (OY (h1 p (atKey_of_get hn hj))))
end
section
def C8:V->List V->Hp->VK->Prop:=fun x xs H Q=>∃ a b k y kvs,x=.ref a/\xs=[.ref b,y]/\H b=some (.tup (k.map kV))/\H a=some (.dT kvs)/\kvs.length<sizeLine/\
 ((∃ v,cw kvs k=some v/\Q v H)\/(cw kvs k=none/\Q y (upd H a (.dT (bU kvs k y)))))
theorem oI (hu:X.A.units+64<cLine):FI X "dict.setdefault" C8:=by
 intro ai s σ H x xs v us Q I rx rs q;obtain⟨a,b,k,y,kvs,rfl,rfl,hb,ha,hz,q⟩:=q;obtain rfl:v=Value.ref a:=rx;obtain⟨u1,u2,rfl,ru1,ru2⟩:=u5 rs;obtain rfl:u1=Value.ref b:=ru1;obtain⟨z1,y1,vs,r1,d1⟩:=EG I.be ha;have fQ:=dP I.be hb;have hT:Shared.TypeIs s (.ref a) "dict":=by obtain⟨o,es,ep,ho,hc,_⟩:=d1;exact⟨o,ho,hc.1⟩
 refine Qj Qg hT SN ?_ (SK _ _ _);unfold Builtin.«dict.setdefault»;refine KE ?_;unfold Builtin.Dict.keyAndDefault;refine KE (RK hT (show wpAny _ _ (pure (a,Value.ref b,some u2)) _ _ s from OY ?_));show wpAny _ _ (if (a==sysModules)=true then _ else (dictSetDefault a (Value.ref b) u2 >>= _)) _ _ s;rw[Pl (by grind)];have bL:vs.length<=sizeLine:=by rw[<- Rt r1];exact z1
 have rv:=r1.val k;refine KE (F0 (by grind) fQ d1 bL (fun p hp=>?_) fun hn0 h' dd' hs=>?_)
 .rcases q with⟨v,hv,q⟩|⟨hv,q⟩
  .have:RelO (some v) (some p.2):=by rw[<- hv];rw[hp]at rv;exact rv
   exact OY ⟨_,rfl,v,H,I.tok _,this,q⟩
  .have:=rv.eU;rw[hv,hp]at this;cases this
 .rcases q with⟨v,hv,q⟩|⟨hv,q⟩
  .have:=rv.eU;rw[hv,hn0]at this;cases this
  .obtain⟨o',es,ep,hq,h2,h3,h4,_,h5⟩:=dd';have hl:(bU kvs k y).length<=sizeLine:=by have:=cO kvs k y;lia
   have be:ObjOk X.prog X.w (upd H a (.dT (bU kvs k y))) h' a (.dT (bU kvs k y)):=by refine⟨hl,y1,_,(r1.put k hb ru2).keeps fun c ys ec=>?_,o',es,ep,hq,h2,h3,h4,h5⟩;rw[aA (yC ec ha (fun z=>nomatch z))];exact ec
   exact OY ⟨_,rfl,y,_,ik (t':=s.toks+(tK X.prog X.w).draws k) I (by rw[ha];exact True.intro) hs ⟨o',hq⟩ be,ru2,q⟩
def uc:V->List V->Hp->VK->Prop:=fun x xs H Q=>∃ a b k y kvs,x=.ref a/\xs=[.ref b,y]/\H b=some (.tup (k.map kV))/\(H a=some (.dT kvs)\/(H a=some (.dK [])/\kvs=[]))/\kvs.length<sizeLine/\
 ((∃ v,cw kvs k=some v/\Q v H)\/(cw kvs k=none/\Q y (upd H a (.dT (bU kvs k y)))))
theorem jz (hu:X.A.units+64<cLine):FI X "dict.setdefault" uc:=by
 intro ai s σ H x xs v us Q I rx rs q;obtain⟨a,b,k,y,kvs,e1,e2,hb,ha,hz,q⟩:=q;rcases ha with ha|⟨ha,rfl⟩
 .exact oI hu ai s σ H x xs v us Q I rx rs ⟨a,b,k,y,kvs,e1,e2,hb,ha,hz,q⟩
 .have nba:b≠a:=yC hb ha (fun z=>nomatch z);refine oI hu ai s σ (upd H a (.dT [])) x xs v us Q (I.MQ ha) rx rs ⟨a,b,k,y,[],e1,e2,by rw[aA nba];exact hb,aj,hz,.inr ?_⟩;rcases q with⟨v,hv,q⟩|⟨hv,q⟩
  .cases hv
  .have:upd (upd H a (.dT [])) a (.dT (bU [] k y))=upd H a (.dT (bU [] k y)):=by
    funext c;by_cases h:c=a
    .subst h;rw[aj,aj]
    .rw[aA h,aA h,aA h]
   exact⟨hv,by grind⟩
end
def RawD (h:Heap)(d:Addr)(es:Array DictEntry)(ep:Nat):Prop:=∃ o,h.get? d=some o/\o.ExactDict/\o.data=.dict es ep
section
variable {prog:Tp}{w:World}{A:Ts}{s:Tn}{d v it:Addr}{es:Array DictEntry}{ep i:Nat}{ok ov:Tq}
theorem RawD.ty (m:RawD s.heap d es ep):s.TypeIs (.ref d) "dict":=let ⟨o,h,c,_⟩:=m;⟨o,h,c.1⟩
theorem pF (d:Addr)(hd:(d==sysModules)=false) :
 MeetsIn prog w (Builtin.«dict.items» ⟨[.ref d],[]⟩) (fun _ R s=>(∃ es ep,RawD s.heap d es ep)/\R (.ok (.ret (.ref s.heap.objs.size))) { s with heap:=s.heap.push { cls:=.type "dict_items",data:=.fields #[.ref d] } }):=
 .of_wp fun A R s ⟨⟨es,ep,m⟩,h⟩=>by unfold Builtin.«dict.items» Builtin.Dict.noArgs;refine KE (KE (RK m.ty (OY ?_)));show wpAny _ _ (Builtin.Dict.showsAll d >>= _) _ _ s;unfold Builtin.Dict.showsAll;rw[Pl (by rw[hd];simp)];exact KE (OY (KE (Qc (OY ⟨_,rfl,h⟩))))
theorem rH (hv:s.heap.IsItemsView v d)(m:RawD s.heap d es ep)
 (hQ:Q (.ref s.heap.objs.size) { s with heap:=s.heap.push { cls:=.type "dict_itemiterator",data:=.fields #[.none,.bool false,.ref d,.int 0 0,.int es.size 0,.int ep 0,.none,.none] } }) :
 wpAny (model prog w) A (pyIter (.ref v)) Q E s:=by
 obtain⟨vo,e1,_,e2⟩:=id hv;obtain⟨o,ho,_,hd⟩:=id m;refine SE hv.typeIs F.slot_dict_items_iter (Qj F.slot_dict_items_iter hv.typeIs F.entry_dict_items_iter ?_ (F.args_dict_items_iter_1 _));unfold Builtin.«dict_items.__iter__» Builtin.Dict_items.dictOf Builtin.Dict_items.newIterator;refine KE (OY (KE (KE (Sy e1 e2 (x:=.ref d) rfl (OY (KE (KE (SF ho hd (KE (wpAny_dictEpoch ho hd ?_))))))))));simp only[show Builtin.Dict_items.ownsTuple "dict_itemiterator"=true by decide,RB];refine Qc (OY ⟨_,rfl, "dict_itemiterator",_,⟨_,Pc _ rfl,rfl⟩,Qq.lookup,?_⟩)
  (by simp only[sizeOk,Builtin.Dict_items.ownedTupleFields,O7,O6,Pg,QM,Pn];lia)
 simpa[rawInt,Builtin.Dict_items.ownedTupleFields] using hQ
theorem rJ (hh:A.handled=none)(y:IsItemIter s.heap it d i es.size ep ok ov)(m:RawD s.heap d es ep)(hi:es.size<=i)(hQ:∀ h',Heap.ExtBut it s.heap h'->Q none { s with heap:=h' }):wpAny (model prog w) A (pyNext (.ref it)) Q E s:=by
 obtain⟨o,ho,_,hd⟩:=id m;have hT:s.TypeIs (.ref it) "dict_itemiterator":=⟨_,y,rfl⟩;unfold pyNext;refine KE (wpAny_attempt (QN (name:=Str.ofString "__next__") hT Qq (Qj Qq hT F.entry_dict_itemiterator_next ?_ (F.args_dict_itemiterator_next_1 _))));refine KE (OY (KE (KE ?_)))
 first|refine KE (QY hT (OY ?_))|refine KE (Rj hT (OY ?_))
 refine KE (wpAny_fieldsOf y rfl ?_);simp only[show Builtin.Dict_items.ownsTuple "dict_itemiterator"=true by decide,RB];show wpAny _ _ (if (Value.ref d==Value.none)=true then _ else _) _ _ s;rw[Pl (show ¬ ((Value.ref d==Value.none)=true) from PB)];refine KE (OY (KE (SF ho hd ?_)));rw[Pl (by simp)];refine KE (OY (KE (wpAny_dictEpoch ho hd ?_)));rw[Pl (by simp)];refine OY ?_;simp only[show ¬ ((i:Int)<0) from by lia,Qy,Sx,Array.getElem?_eq_none hi];refine KE ?_
 first|refine KE (QY hT (OY ?_))|refine KE (Rj hT (OY ?_))
 show wpAny _ _ (setField (.ref it) 2 .none >>= _) _ _ s;refine KE (S8 y rfl (by simp) ?_);show wpAny _ _ (newExc (.type "StopIteration") [] >>= _) _ _ _;refine KE ?_;simp only[newExc,newTuple];refine KE (Qc ?_ (by size_fits));refine KE (m:=firstArgMember _ _) (wpAny_of_eq (a:=Value.none) (by first|rfl|(simp only[firstArgMember];rfl)) ?_);refine Qc ?_ (by size_fits);simp only[raiseNew];refine KE (wpAny_handled ?_);rw[show A.in1.handled=none from hh];refine KE (OY (wpAny_throw ?_));refine KE (wpAny_isInstance (T:="StopIteration") (b:=true) ⟨_,Pc _ rfl,rfl⟩ isSubtype_stop ?_);exact OY (hQ _ (((P_ ..).extBut.push _).push _))
theorem ud (y:IsItemIter s.heap it d i es.size ep ok ov)(m:RawD s.heap d es ep)(he:es[i]?=some e)
 (hQ:∀ h',IsItemIterOut h' it d (i+1) es.size ep e.key e.val s.heap.objs.size->h'.get? s.heap.objs.size=some { cls:=.type "tuple",data:=.seq #[e.key,e.val] }->
   (∀ b o,b≠it->s.heap.get? b=some o->h'.get? b=some o)->Q (some (.ref s.heap.objs.size)) { s with heap:=h' }):wpAny (model prog w) A (pyNext (.ref it)) Q E s:=by
 obtain⟨hp,g,dr,tk,os⟩:=s;obtain⟨o,ho,_,hd⟩:=id m;have hT:Shared.TypeIs ⟨hp,g,dr,tk,os⟩ (.ref it) "dict_itemiterator":=⟨_,y,rfl⟩;have hil:hp.objs.size≠it:=RH (Pa y);unfold pyNext;refine KE (wpAny_attempt (QN (name:=Str.ofString "__next__") hT Qq (Qj Qq hT F.entry_dict_itemiterator_next ?_ (F.args_dict_itemiterator_next_1 _))));refine KE (OY (KE (KE ?_)))
 first|refine KE (QY hT (OY ?_))|refine KE (Rj hT (OY ?_))
 refine KE (wpAny_fieldsOf y rfl ?_);simp only[show Builtin.Dict_items.ownsTuple "dict_itemiterator"=true by decide,RB];show wpAny _ _ (if (Value.ref d==Value.none)=true then _ else _) _ _ _;rw[Pl (show ¬ ((Value.ref d==Value.none)=true) from PB)];refine KE (OY (KE (SF ho hd ?_)));rw[Pl (by simp)];refine KE (OY (KE (wpAny_dictEpoch ho hd ?_)));rw[Pl (by simp)];refine OY ?_;simp only[show ¬ ((i:Int)<0) from by lia,Qy,Sx,he];refine KE ?_
 first|refine KE (QY hT (OY ?_))|refine KE (Rj hT (OY ?_))
 refine KE (Su hT ?_);show wpAny _ _ (setField (.ref it) 3 (rawInt ((i:Int)+1)) >>= _) _ _ ⟨hp,g,dr,tk,os⟩;refine KE (RG y (by simp) fun h1 y1 s1=>?_);replace s1:Heap.SameBut it hp h1:=s1;replace y1:IsItemIter h1 it d (i+1) es.size ep ok ov:=by
  have q:((i+1:Nat):Int)=(i:Int)+1:=by lia
  unfold IsItemIter;rw[q];simpa[rawInt] using y1
 have hT1:Shared.TypeIs ⟨h1,g,dr,tk,os⟩ (.ref it) "dict_itemiterator":=⟨_,y1,rfl⟩;refine KE (Qd (KE (Su hT1 (KE (Su hT1 ?_)))));show wpAny _ _ (Builtin.Dict_items.pairFromOwner (.ref it) 6 e.key e.val) _ _ ⟨h1,g,dr,tk,os⟩;unfold Builtin.Dict_items.pairFromOwner;refine KE (wpAny_newTuple ?_);have y2:IsItemIter (h1.push { cls:=.type "tuple",data:=.seq #[e.key,e.val] }) it d (i+1) es.size ep ok ov:=OZ _ y1;have t2:(h1.push { cls:=.type "tuple",data:=.seq #[e.key,e.val] }).get? hp.objs.size=some { cls:=.type "tuple",data:=.seq #[e.key,e.val] }:=by rw[<- s1.1];exact Pc _ rfl
 have k2:∀ b o,b≠it->hp.get? b=some o->(h1.push { cls:=.type "tuple",data:=.seq #[e.key,e.val] }).get? b=some o:=fun b o n q=>OZ _ (s1.extBut b o n q);have z1:h1.objs.size=hp.objs.size:=s1.1;generalize h1.push { cls:=.type "tuple",data:=.seq #[e.key,e.val] }=h2 at y2 t2 k2;show wpAny _ _ (Builtin.Dict_items.ownedTupleIsFree (.ref it) >>= _) _ _ ⟨h2,g,dr,tk,os⟩;rw[z1];clear y1 s1 hT1 z1 h1;refine KE ?_;unfold Builtin.Dict_items.ownedTupleIsFree;refine KE (Sy y2 rfl (x:=.none) rfl (OY ?_));simp only[RB];refine KE (Sy y2 rfl (x:=ok) rfl (KE (Sy y2 rfl (x:=ov) rfl ?_)));refine KE (RG y2 (by simp) fun h3 y3 s3=>?_);replace y3:IsItemIter h3 it d (i+1) es.size ep e.key ov:=y3;refine KE (RG y3 (by simp) fun h4 y4 s4=>?_);replace y4:IsItemIter h4 it d (i+1) es.size ep e.key e.val:=y4;refine KE (RG y4 (by simp) fun h5 y5 s5=>?_);replace y5:IsItemIterOut h5 it d (i+1) es.size ep e.key e.val hp.objs.size:=y5;refine KE (RG y5 (by simp) fun h6 y6 s6=>?_);replace y6:IsItemIterOut h6 it d (i+1) es.size ep e.key e.val hp.objs.size:=y6;have up:∀ b o,b≠it->h2.get? b=some o->h6.get? b=some o:=fun b o n q=>Sb (show Heap.SameBut it h5 h6 from s6) b o n (Sb (show Heap.SameBut it h4 h5 from s5) b o n (Sb (show Heap.SameBut it h3 h4 from s4) b o n (Sb (show Heap.SameBut it h2 h3 from s3) b o n q)));exact KE (Tg (OY (OY ⟨_,rfl,OY (hQ h6 y6 (up _ _ hil t2) fun b o n q=>up b o n (k2 b o n q))⟩)))
end
theorem uf {P:Tp}{w:World}{K:To}{es:List Expr}{k0:Nat}{pos:Pos}{J:It}{d it:Addr}{o:Obj}{u:HO}{en:Array DictEntry}{ep:Nat}(hex:o.ExactDict)(hdat:o.data=.dict en ep)(hgo:∀ i H,J.go i H->H d=some (.cj o u))(hst:∀ i H,J.stop i H->H d=some (.cj o u)/\en.size<=i)
 (hent:∀ H h,HOk P w H h->∀ i,J.go i H->∃ e y v,en[i]?=some e/\RelV y e.key/\RelV v e.val/\∀ p,H p=none->J.yB i H (.ref p) (upd H p (.tup [y,v]))) :
 Turn P w K (.Tuple es k0 pos) J [it] it (fun i h=>∃ ok ov,IsItemIter h it d i en.size ep ok ov) where
 mem:=by simp
 obj:=fun i h st b hb=>by
  have e:b=it:=by simpa using hb
  subst e;obtain⟨ok,ov,e⟩:=st;exact⟨_,e,fun v z=>by cases z⟩
 keep:=fun i h h' st k=>by obtain⟨ok,ov,e⟩:=st;exact⟨ok,ov,k it (by simp) _ e⟩
 item:=by
  intro X hP hw hK hc i ai s σ H E I hf st hg;subst hP hw hK;have hd:=hgo i H hg;obtain⟨ok,ov,st⟩:=st;obtain⟨eo,_⟩:=(show ObjOk X.prog X.w H s.heap d (.cj o u) from I.be d _ hd);obtain⟨e,y,v,he,ry,rv,hy⟩:=hent H s.heap I.be i hg;have fi:=hf it (by simp);refine ud st ⟨o,eo,hex,hdat⟩ he fun h' hout hT kp=>?_;refine⟨_,rfl,wpAny_letOwnedTupleGo_items hout fun h'' hit'' hs''=>?_⟩;have keep2:∀ b o,b≠it->s.heap.get? b=some o->h''.get? b=some o:=fun b o n1 q=>(hs''.2 b n1).trans (kp b o n1 q);have hTe:s.heap.objs.size≠it:=RH (Pa st);have hT'':h''.get? s.heap.objs.size=some { cls:=.type "tuple",data:=.seq #[e.key,e.val] }:=(hs''.2 _ hTe).trans hT;have fr:=I.be.fresh (O0 _);have I1:Inv X ai σ (upd H s.heap.objs.size (.tup [y,v])) { s with heap:=h'' }:=by
   refine I.step (g':=s.gens) (d':=s.drawn) (ch:=[it]) (fun b hb=>?_) (fun b o _ _ hn q _=>keep2 b o (fun z=>hn (by simp[z])) q)
    (fun b o _ _ hn q _=>⟨o.slots,keep2 b o (fun z=>hn (by simp[z])) q⟩) (fun b o _ q hH=>by rw[aA (Pt (Pa q))];exact hH)
    (fun b o hn q=>⟨o,keep2 b o (fun z=>hn (by simp[z])) q⟩) (fun b ys q=>by rw[aA (aB q fr)];exact q)
    (fun b o' u' q=>by rw[aA (aB q fr)];exact q) (fun b ps q=>⟨#[],by rw[aA (aB q fr)];simp[q]⟩) (fun m hm=>?_) (fun b u' q=>?_) I.bare
   .have:b=it:=by simpa using hb
    subst this;exact⟨fi.2.2.2.1,fi.2.1,fi.2.2.2.2.1,fi.2.2.2.2.2⟩
   .obtain⟨o,es',ep,ho',r⟩:=hm;exact⟨o,es',ep,keep2 _ o (Qn fi.2.1) ho',r⟩
   .by_cases hb:b=s.heap.objs.size
    .subst hb;rw[aj]at q;cases q;exact⟨by show 2<=sizeLine;decide,[e.key,e.val],.cons ry (.cons rv .nil),⟨_,hT'',rfl,0,rfl⟩⟩
    .rw[aA hb]at q;refine(I.be b u' q).stay (fun c v hc' q'=>keep2 c v ?_ q') (fun c r=>by rw[aA (aB r fr)];exact r) fun c ys r=>by rw[aA (aB r fr)];exact r
     rcases hc' with z|z
     .rw[z];exact aB q fi.1
     .exact aB z fi.1
  refine⟨.ref s.heap.objs.size,_,I1,rfl,hy _ fr,⟨_,_,hit''⟩,fun b hb=>?_⟩;have:b=it:=by simpa using hb
  subst this;rw[aA (Pt (Pa st))];exact fi.1
 done:=by intro X hP hw hK hc i ai s σ H E I hf st hg;subst hP hw hK;obtain⟨hd,hi⟩:=hst i H hg;obtain⟨ok,ov,st⟩:=st;obtain⟨eo,_⟩:=(show ObjOk X.prog X.w H s.heap d (.cj o u) from I.be d _ hd);obtain⟨f0,f1,f2,f3,f4,f5⟩:=hf it (by simp);exact rJ (I.ok.hd hc) st ⟨o,eo,hex,hdat⟩ (by lia) fun h' eb=>⟨rfl,I.turned (t':=s.toks) (fun b o hb e=>eb b o hb e) f0 f1 f3 f4 f5⟩
 self:=fun A i s Q E st h=>by obtain⟨ok,ov,st⟩:=st;have hT:s.TypeIs (.ref it) "dict_itemiterator":=⟨_,st,rfl⟩;refine SE hT F.slot_dict_itemiterator_iter (Qj F.slot_dict_itemiterator_iter hT (entryFor_alias (id':="dict_keyiterator.__iter__") (by kernel_rfl) rfl (by decide +kernel) (by kernel_rfl):entryFor table "dict_itemiterator.__iter__"=some Builtin.«dict_keyiterator.__iter__») ?_ (F.args_dict_itemiterator_iter_1 _));show wpAny _ _ (ret (.ref it)) _ _ s;exact OY ⟨_,rfl, "dict_itemiterator",_,hT,Qq.lookup,h⟩
section
theorem oJ {R:It->Hp->Prop}(I2:Inv X ai σ H2 s1)(e2:H2 d=some (.cj o u))(hd:(d==sysModules)=false)(hex:o.ExactDict)(hdat:o.data=.dict en ep)(hgo:∀ i H,J.go i H->H d=some (.cj o u))(hst:∀ i H,J.stop i H->H d=some (.cj o u)/\en.size<=i)
 (hent:∀ H h,HOk X.prog X.w H h->∀ i,J.go i H->∃ e y v,en[i]?=some e/\RelV y e.key/\RelV v e.val/\∀ p,H p=none->J.yB i H (.ref p) (upd H p (.tup [y,v]))) (q2:R J H2) :
 MethodOn X.prog X.w X.A "items" cpos (.ref d) [] (fun v s1=>wX X (pyIter v) (Ic X ai σ (.Tuple es k0 Bw) R) X.xe s1) X.xe s1:=by
 obtain⟨eo,_⟩:=(show ObjOk X.prog X.w H2 s1.heap d (.cj o u) from I2.be d _ e2);have hty:s1.TypeIs (.ref d) "dict":=⟨o,eo,hex.1⟩;have hnod:∀ a,Value.ref d=.ref a->∃ ob,s1.heap.get? a=some ob/\ob.dict=none:=fun a e=>by cases e;exact⟨o,eo,hex.2.1⟩
 refine⟨"dict", "dict.items",P7,PySem.F.slot_dict_items,PySem.F.type_dict_items,hty,hnod,QS rfl (PySem.evalArgs_none ?_)⟩;refine Sf PySem.F.slot_dict_items hty PySem.F.entry_dict_items (PySem.F.args_dict_items_1 _) (pF d hd) ⟨⟨en,ep,o,eo,hex,hdat⟩,?_⟩;have I3:Inv X ai σ H2 { s1 with heap:=s1.heap.push { cls:=.type "dict_items",data:=.fields #[.ref d] } }:=I2.kept (t':=s1.toks) fun b o e=>OZ _ e;have e3:({ s1 with heap:=s1.heap.push { cls:=.type "dict_items",data:=.fields #[.ref d] } }:Tn).heap.get? d=some o:=OZ _ eo;generalize hs3:({ s1 with heap:=s1.heap.push { cls:=.type "dict_items",data:=.fields #[.ref d] } }:Tn)=s3 at I3 e3;have hv:s3.heap.IsItemsView s1.heap.objs.size d:=by rw[<- hs3];exact⟨_,Pc _ rfl,rfl,rfl⟩
 show wpAny _ _ (pyIter (.ref s1.heap.objs.size)) _ _ _;refine rH hv ⟨o,e3,hex,hdat⟩ ?_;refine⟨s3.heap.objs.size,[s3.heap.objs.size],_,_,H2,rfl,I3.kept (t':=s3.toks) fun b o e=>OZ _ e,uf hex hdat hgo hst hent,⟨_,_,Pc _ rfl⟩,fun b hb=>?_,q2⟩;have e:b=s3.heap.objs.size:=by simpa using hb
 subst e;exact I3.qw (O0 _) (I3.be.fresh (O0 _))
end
def KO (d:Addr)(o:Obj)(u:HO)(kvs:List (bC×V)):It:=⟨fun i H=>H d=some (.cj o u)/\i<kvs.length,fun i H x H'=>∃ p k v,H p=none/\x=.ref p/\H'=upd H p (.tup [kV k,v])/\kvs[i]?=some (k,v),fun i H=>H d=some (.cj o u)/\kvs.length<=i⟩
theorem KV.at (r:KV a b):∀(i:Nat) p q,a[i]?=some p->b[i]?=some q->p.1=q.1/\RelV p.2 q.2:=by
 induction r with
 |nil=>intro i p q e;simp at e
 |cons hq t ih=>
  intro i p q e1 e2;cases i with
  |zero=>simp at e1 e2;subst e1 e2;exact hq
  |succ i=>exact ih i p q (by simpa using e1) (by simpa using e2)
theorem zJ {P:Tp}{w:World}{a:List (bC×V)}{b:List (bC×Tq)}{l:List DictEntry}(r:KV a b)(q:Pairs (aV P w) l b):l.length=a.length/\∀(i:Nat) p,a[i]?=some p->∃ e,l[i]?=some e/\RelV (kV p.1) e.key/\RelV p.2 e.val:=by
 unfold KV at r;induction r generalizing l with
 |nil=>cases q;exact⟨rfl,fun i p e=>by simp at e⟩
 |cons h _ ih=>
  cases q with
  |cons h1 h2 q=>
   obtain⟨a,b⟩:=ih q;refine⟨by simp[a],fun i p e=>?_⟩;cases i with
   |zero=>simp only[List.getElem?_cons_zero,Option.some.injEq]at e;subst e;exact⟨_,rfl,by rw[h.1];exact CS h1,by rw[h2];exact h.2⟩
   |succ i=>exact b i p e
section
def Iz (X:Cx)(tl:TE):TI:=fun σ H R=>tl σ H fun x H1=>∃ d kvs u,x=.ref d/\(u=.dK kvs\/(u=.dT []/\kvs=[]))/\((∃ o,H1 d=some (.cj o u)/\R (KO d o u kvs) H1)\/(H1 d=some u/\∀ o,(∀ o' v,X.H₀ d≠some (.cj o' v))->R (KO d o u kvs) (upd H1 d (.cj o u))))
theorem zK {tl:TE} {apos cpos:Pos} (hl:PE X l tl) (hbase:autoParam (attributeBase l "items" X.env (eval l X.env)=eval l X.env) TB._auto_1) (hline:autoParam ((apos.endLine==cpos.line)=true) TB._auto_1):PI X (.Tuple es k0 Bw) (.Call (.Attribute l "items" apos) [] [] cpos) (Iz X tl):=by
 intro ai s σ H R I h;refine Sk hbase hline (bX (hl ai s σ H _ I h) fun v s1 ⟨x,H1,I1,r1,q1⟩=>?_);obtain⟨d,kvs,u,e,hu,q⟩:=q1;subst e;cases r1;have qk:nC u:=by rcases hu with rfl|⟨rfl,_⟩<;>exact True.intro
 have fin:∀(o:Obj)(H2:Hp),Inv X ai σ H2 s1->H2 d=some (.cj o u)->R (KO d o u kvs) H2->MethodOn X.prog X.w X.A "items" cpos (.ref d) [] (fun v s1=>wX X (pyIter v) (Ic X ai σ (.Tuple es k0 Bw) R) X.xe s1) X.xe s1:=fun o H2 I2 e2 q2=>by
  obtain⟨eo,hx⟩:=(show ObjOk X.prog X.w H2 s1.heap d (.cj o u) from I2.be d _ e2);have key:∀{H h},HOk X.prog X.w H h->H d=some (.cj o u)->(d==sysModules)=false/\∃ en ep vs,o.ExactDict/\o.data=.dict en ep/\KV kvs vs/\Pairs (aV X.prog X.w) en.toList vs:=fun{H h} ok e=>by
   obtain⟨eo,hx⟩:=(show ObjOk X.prog X.w H h d (.cj o u) from ok d _ e);have key:(d==sysModules)=false/\∃ vs,KV kvs vs/\h.DictOf (aV X.prog X.w) d vs:=by
    rcases hu with rfl|⟨rfl,rfl⟩
    .exact hx.2
    .obtain⟨hd,dd⟩:=pq hx;exact⟨hd,[],.nil,dd⟩
   obtain⟨hd,vs,rel,o',en,ep,eo',hex,hdat,_,hpr,_⟩:=key;rw[eo]at eo';cases eo';exact⟨hd,en,ep,vs,hex,hdat,rel,hpr⟩
  obtain⟨hd,en,ep,vs,hex,hdat,rel,hpr⟩:=key I2.be e2;refine oJ (J:=KO d o u kvs) I2 e2 hd hex hdat (fun i H h=>h.1) (fun i H h=>⟨h.1,?_⟩) (fun H h ok i g=>?_) q2
  .rw[<- Qo,(zJ rel hpr).1];exact h.2
  .obtain⟨_,g⟩ : _/\i<kvs.length:=g;have hk:kvs[i]?=some kvs[i]:=by simp[g]
   obtain⟨e,h1,h2,h3⟩:=(zJ rel hpr).2 i _ hk;exact⟨e,kV kvs[i].1,kvs[i].2,by rw[<- PN];exact h1,h2,h3,fun p hp=>⟨p,_,_,hp,rfl,rfl,hk⟩⟩
 rcases q with⟨o,e1,q⟩|⟨e1,q⟩
 .exact fin o H1 I1 e1 q
 .have hob:∃ o,s1.heap.get? d=some o:=by
   rcases hu with rfl|⟨rfl,_⟩
   .obtain⟨_,_,_,_,o,_,_,ho,_⟩:=(show ObjOk X.prog X.w H1 s1.heap d (.dK kvs) from I1.be d _ e1);exact⟨o,ho⟩
   .obtain⟨_,_,_,_,o,_,_,ho,_⟩:=(show ObjOk X.prog X.w H1 s1.heap d (.dT []) from I1.be d _ e1);exact⟨o,ho⟩
  obtain⟨o,ho⟩:=hob;exact fin o _ (I1.cj e1 qk ho) aj (q o (I1.E_ e1 qk))
end
def KP (d:Addr)(o:Obj)(u:HO)(kvs:List (List bC×V)):It:=⟨fun i H=>H d=some (.cj o u)/\i<kvs.length,fun i H x H'=>∃ p b k v,H p=none/\x=.ref p/\H b=some (.tup (k.map kV))/\H'=upd H p (.tup [.ref b,v])/\kvs[i]?=some (k,v),fun i H=>H d=some (.cj o u)/\kvs.length<=i⟩
theorem KT.at {H:Hp}{a:List (List bC×V)}{b:List (List bC×Addr×Tq)}(r:KT H a b):∀(i:Nat) p q,a[i]?=some p->b[i]?=some q->p.1=q.1/\H q.2.1=some (.tup (p.1.map kV))/\RelV p.2 q.2.2:=by
 induction r with
 |nil=>intro i p q e;simp at e
 |cons hq t ih=>
  intro i p q e1 e2;cases i with
  |zero=>simp at e1 e2;subst e1 e2;exact hq
  |succ i=>exact ih i p q (by simpa using e1) (by simpa using e2)
section
def IA (X:Cx)(tl:TE):TI:=fun σ H R=>tl σ H fun x H1=>∃ d kvs u,x=.ref d/\(u=.dT kvs\/(u=.dK []/\kvs=[]))/\((∃ o,H1 d=some (.cj o u)/\R (KP d o u kvs) H1)\/(H1 d=some u/\∀ o,(∀ o' v,X.H₀ d≠some (.cj o' v))->R (KP d o u kvs) (upd H1 d (.cj o u))))
theorem wM (hl:PE X l tl) (hbase:autoParam (attributeBase l "items" X.env (eval l X.env)=eval l X.env) TB._auto_1) (hline:autoParam ((apos.endLine==cpos.line)=true) TB._auto_1):PI X (.Tuple es k0 Bw) (.Call (.Attribute l "items" apos) [] [] cpos) (IA X tl):=by
 intro ai s σ H R I h;refine Sk hbase hline (bX (hl ai s σ H _ I h) fun v s1 ⟨x,H1,I1,r1,q1⟩=>?_);obtain⟨d,kvs,u,e,hu,q⟩:=q1;subst e;cases r1;have qk:nC u:=by rcases hu with rfl|⟨rfl,_⟩<;>exact True.intro
 have fin:∀(o:Obj)(H2:Hp),Inv X ai σ H2 s1->H2 d=some (.cj o u)->R (KP d o u kvs) H2->MethodOn X.prog X.w X.A "items" cpos (.ref d) [] (fun v s1=>wX X (pyIter v) (Ic X ai σ (.Tuple es k0 Bw) R) X.xe s1) X.xe s1:=fun o H2 I2 e2 q2=>by
  obtain⟨eo,_⟩:=(show ObjOk X.prog X.w H2 s1.heap d (.cj o u) from I2.be d _ e2);have key:∀{H h},HOk X.prog X.w H h->H d=some (.cj o u)->(d==sysModules)=false/\∃(en:Array DictEntry)(ep:Nat),o.ExactDict/\o.data=.dict en ep/\en.size=kvs.length/\∀(i:Nat) p,kvs[i]?=some p->∃ e b,en[i]?=some e/\e.key=.ref b/\H b=some (.tup (p.1.map kV))/\RelV p.2 e.val:=fun{H h} ok e=>by
   obtain⟨eo,hx⟩:=(show ObjOk X.prog X.w H h d (.cj o u) from ok d _ e);rcases hu with rfl|⟨rfl,rfl⟩
   .obtain⟨_,hd,xs,rel,o',en,ep,eo',hex,hdat,hes,_,_⟩:=kI ok (.inr ⟨o,e⟩);rw[eo]at eo';cases eo';refine⟨hd,en,ep,hex,hdat,by rw[size_of_entries hes,Rt rel],fun i p hp=>?_⟩;have hl:i<xs.length:=by rw[<- Rt rel];exact(O3.mp hp).1
    have hx:xs[i]?=some xs[i]:=by simp[hl]
    obtain⟨_,hb,rv⟩:=rel.at i _ _ hp hx;exact⟨_,_,by rw[entry_at hes,hx];rfl,rfl,hb,rv⟩
   .obtain⟨_,hd,vs,rel,o',en,ep,eo',hex,hdat,_,hpr,_⟩:=jm ok (.inr ⟨o,e⟩);rw[eo]at eo';cases eo';cases rel;cases he:en.toList with
    |nil=>exact⟨hd,en,ep,hex,hdat,by rw[<- Qo,he];rfl,fun i p e=>by simp at e⟩
    |cons _ _=>rw[he]at hpr;cases hpr
  obtain⟨hd,en,ep,hex,hdat,bL,_⟩:=key I2.be e2;refine oJ (J:=KP d o u kvs) I2 e2 hd hex hdat (fun i H h=>h.1) (fun i H h=>⟨h.1,by rw[bL];exact h.2⟩) (fun H h ok i g=>?_) q2;obtain⟨_,en',ep',_,hdat',_,f⟩:=key ok g.1;rw[hdat]at hdat';cases hdat';obtain⟨_,g⟩ : _/\i<kvs.length:=g;have hk:kvs[i]?=some kvs[i]:=by simp[g]
  obtain⟨e,b,h1,h2,h3,h4⟩:=f i _ hk;exact⟨e,.ref b,kvs[i].2,h1,h2,h4,fun p hp=>⟨p,b,_,_,hp,rfl,h3,rfl,hk⟩⟩
 rcases q with⟨o,e1,q⟩|⟨e1,q⟩
 .exact fin o H1 I1 e1 q
 .have hob:∃ o,s1.heap.get? d=some o:=by
   rcases hu with rfl|⟨rfl,_⟩
   .obtain⟨_,_,_,_,o,_,_,ho,_⟩:=(show ObjOk X.prog X.w H1 s1.heap d (.dT kvs) from I1.be d _ e1);exact⟨o,ho⟩
   .obtain⟨_,_,_,_,o,_,_,ho,_⟩:=(show ObjOk X.prog X.w H1 s1.heap d (.dK []) from I1.be d _ e1);exact⟨o,ho⟩
  obtain⟨o,ho⟩:=hob;exact fin o _ (I1.cj e1 qk ho) aj (q o (I1.E_ e1 qk))
end
section
open PySem.MeetsSeq PySem.SeqAt
open PySem.AutoSeq1 (wpAny_loadPart')
end
noncomputable def pG:List Int->Int
 | []=>0
 |x::r=>r.foldl (fun a b=>if b<a then b else a) x
theorem wN (h:l≠[])(z:Int):pG (l++[z])=if z<pG l then z else pG l:=by
 cases l with
 |nil=>exact(h rfl).elim
 |cons x r=>show(r++[z]).foldl _ x=_;rw[Ro];rfl
theorem mj (xs:Array (Int×Tok)):∀ k,k<xs.size->numAt xs (argBest (fun i j=>decide (numAt xs i<numAt xs j)) k)=pG ((xs.toList.map (·.1)).take (k+1))
 |0,h=>by
  have e:xs.toList.map (·.1)≠[]:=fun z=>by have:=QH List.length z;simp at this;rw[this]at h;simp at h
  cases q:xs.toList.map (·.1) with
  |nil=>exact(e q).elim
  |cons y r=>
   have:(xs[0]?.map (·.1))=some y:=by rw[<- PN,<- Pe,q];rfl
   show numAt xs 0=y;unfold numAt;rw[this];rfl
 |k+1,h=>by
  have ih:=mj xs k (by lia);have ez:(xs.toList.map (·.1))[k+1]?=some (numAt xs (k+1)):=by rw[Pe,PN];unfold numAt;rw[Array.getElem?_eq_getElem h];rfl
  have et:(xs.toList.map (·.1)).take (k+1+1)=(xs.toList.map (·.1)).take (k+1)++[numAt xs (k+1)]:=by rw[List.take_succ,ez];rfl
  have ne:(xs.toList.map (·.1)).take (k+1)≠[]:=fun z=>by have h9:=QH List.length z;rw[Qi,O2,Qo,QM]at h9;lia
  rw[et,wN ne,<- ih];show numAt xs (if (decide (numAt xs (k+1)<numAt xs (argBest _ k)))=true then k+1 else argBest _ k)=_;by_cases hl:numAt xs (k+1)<numAt xs (argBest (fun i j=>decide (numAt xs i<numAt xs j)) k)
  .rw[Pi (O_ hl),Pi hl]
  .rw[Pl (by simpa using hl),Pl hl]
theorem mn:∀{ns:List Int}{its:List Tq},Vals (ns.map V.int) its->∃ ps:List (Int×Tok),its=ps.map (fun p=>.int p.1 p.2)/\ps.map (·.1)=ns
 | [],_,h=>by cases h;exact⟨[],rfl,rfl⟩
 |n::ns,_,h=>by
  cases h with
  |cons r rr=>obtain⟨t,rfl⟩:=r;obtain⟨ps,rfl,e⟩:=mn rr;exact⟨(n,t)::ps,rfl,by rw[Ph,e]⟩
theorem wO (hc:X.calm=true):cm X (.builtin "min") (fun xs H Q=>∃ p ns,xs=[.ref p]/\SqL X.K H p (ns.map V.int)/\ns≠[]/\Q (.int (pG ns)) H):=by
 intro ai s σ H xs us Q I r h;obtain⟨p,ns,rfl,hq,hne,q⟩:=h;obtain⟨u,rfl,rx⟩:=eZ r;cases rx;obtain⟨its,rv,pl,hz⟩:=I.list hq;obtain⟨ps,rfl,e⟩:=mn rv;have hl:s.heap.IsList p (intItems ps.toArray):=by
  have:intItems ps.toArray=(ps.map (fun p=>Value.int p.1 p.2)).toArray:=by simp[intItems]
  rw[this];exact pl.isList
 have hpos:0<ps.toArray.size:=by
  cases ps with
  |nil=>exact(hne e.symm).elim
  |cons _ _=>simp
 refine min_intList (I.ok.hd hc) hl hpos fun v h' tk ev kp=>?_;obtain⟨t,rfl⟩:=intItems_at ev;rw[mj ps.toArray _ (by lia)];have ef:(ps.toArray.toList.map (·.1)).take (ps.toArray.size-1+1)=ns:=by rw[Qh (by simp;lia)];simpa using e
 rw[ef];exact⟨.int (pG ns),H,I.kept (t':=tk) kp,⟨t,rfl⟩,q⟩
end L2
namespace L2
open PySem PySem.Spec PySem.Calls PyProof.Rows ST
end L2
namespace L2
open PySem PySem.Spec PySem.Calls PyProof.Rows
end L2
namespace L2
open PySem PySem.Spec PyProof.Rows
open Sem (wp)
open Builtin
open Sem (wp)
open Builtin
noncomputable def mo (kts:List (Addr×List V))(a:Addr)(o:Obj)(ns:List Int):Hp:=fun b=>match kts.lookup b with
 |some xs=>some (.tup xs)
 |none=>if b=a then some (.cj o (.lst (ns.map V.int))) else none
section
theorem C9 (e:kts.lookup b=some xs):mo kts a o ns b=some (.tup xs):=by unfold mo;rw[e]
theorem C_ (e:kts.lookup a=none):mo kts a o ns a=some (.cj o (.lst (ns.map V.int))):=by unfold mo;rw[e];exact Pi rfl
theorem Da (e:kts.lookup b=none)(n:b≠a):mo kts a o ns b=none:=by unfold mo;rw[e];exact Pl n
end
theorem jA:∀{vs:List Tq}{ns:List Int},IntsAre vs ns->Vals (ns.map V.int) vs
 |_,_,.nil=>.nil
 |_,_,.cons n t h=>.cons ⟨t,rfl⟩ (jA h)
theorem wQ {P:Tp}{w:World}{K:To}{mg mb:Str->Option Tq}{CX:yT}{k:Nat}{fa a:Addr}{fd:FuncData}{x:Str}{sp:Sp}{s₁:Tn}{vs:List Tq}{ns:List Int}{kts:List (Addr×List V)}
 (KX:K.In s₁.heap) (hns:s₁.heap.Ns mainGlobals mg) (hb:s₁.heap.Ns builtinsNs mb) (hbb:∀ x:Str,x≠"__name__"->mb x=bootBuiltins x) (hlim:s₁.heap.NoLimit) (hg:s₁.gens=#[])
 (ha:s₁.heap.get? a=some { cls:=.type "list",data:=.seq vs.toArray }) (hi:IntsAre vs ns) (hl:ns.length<=sizeLine) (hr:cT k callerA)
 (hK:∀ o,K.lookup a=some o->o.cls=.type "list"->False)
 (hT:∀ b xs,kts.lookup b=some xs->K.lookup b=none/\∃(o:Obj)(its:Array Tq)(n:Nat),s₁.heap.get? b=some o/\o.cls=.type "tuple"/\o.data=.seq its n/\its.size<=sizeLine/\Vals xs its.toList)
 (hM:∀ p∈K,∀ b xs,Fq p.2=some (b,xs)->kts.lookup b=some xs)
 (F:∀ base:Heap,K.In base->base.Ns mainGlobals mg->bE P w K mg base CX k fa fd [x] sp) (hbind:∀(s:Tn)(u:Tq),BindsTo s fd ⟨[u],[]⟩ [(x,u)])
 (hsp:∀ H:Hp,(∃ o,H a=some (.cj o (.lst (ns.map V.int))))->sp [.ref a] H (fun v _=>v=.bl true) fun _ _ _=>False)
 (hCX:∀ H e s',CX [] H s₁ (fun _ _ _=>False) e s'->False) :
 codeAny (model P w) callerA (.call (.ref fa) ⟨[.ref a],[]⟩) (fun r s'=>r=.ok (.ret (.bool true))/\OldK s₁.heap s'.heap/\s'.os=s₁.os/\AllBare s'.gens) s₁:=by
 have rv:=jA hi;have noK:K.lookup a=none:=by
  cases q:K.lookup a with
  |none=>rfl
  |some o=>have e:=KX a o q;rw[ha]at e;cases e;exact(hK _ q rfl).elim
 have noT:kts.lookup a=none:=by
  cases q:kts.lookup a with
  |none=>rfl
  |some xs=>obtain⟨_,o,its,n,e,c,_⟩:=hT a xs q;rw[ha]at e;cases e;exact absurd c (by simp)
 obtain⟨ob,eob⟩ : ∃ ob:Obj,ob={ cls:=.type "list",data:=.seq vs.toArray }:=⟨_,rfl⟩;rw[<- eob]at ha;generalize eH:mo kts a ob ns=H;have Ha:H a=some (.cj ob (.lst (ns.map V.int))):=by rw[<- eH];exact C_ noT
 have Ht:∀ b xs,kts.lookup b=some xs->H b=some (.tup xs):=fun b xs e=>by rw[<- eH];exact C9 e
 have Hn:∀ b,kts.lookup b=none->b≠a->H b=none:=fun b e n=>by rw[<- eH];exact Da e n
 have freeK:∀ b o,K.lookup b=some o->H b=none:=fun b o e=>by
  refine Hn b ?_ fun z=>by rw[z,noK]at e;cases e
  cases q:kts.lookup b with
  |none=>rfl
  |some xs=>rw[(hT b xs q).1]at e;cases e
 have freeD:∀(b:Addr)(o:Obj)(es:Array DictEntry)(ep:Nat),s₁.heap.get? b=some o->o.data=.dict es ep->H b=none:=fun b o es ep e d=>by
  refine Hn b ?_ fun z=>?_
  .cases q:kts.lookup b with
   |none=>rfl
   |some xs=>obtain⟨_,o',its,n,e',_,d',_⟩:=hT b xs q;rw[e]at e';cases e';rw[d]at d';cases d'
  .rw[z,ha]at e;cases e;rw[eob]at d;cases d
 have nsK:∀{b:Addr}{m:Str->Option Tq},s₁.heap.Ns b m->(qC s₁.heap H).Ns b m:=fun{b m} ⟨o,es,ep,e,d,r⟩=>⟨o,es,ep,qD e (freeD b o es ep e d),d,r⟩;have hKb:K.In (qC s₁.heap H):=fun b o e=>qD (KX b o e) (freeK b o e);have hMd:Mod K mg (qC s₁.heap H):=⟨hKb,nsK hns,⟨mb,nsK hb,hbb⟩,let ⟨mc,h1,h2⟩:=hlim;⟨mc,nsK h1,h2⟩⟩;have be:HOk P w H s₁.heap:=fun b u e=>by
  cases q:kts.lookup b with
  |some xs=>rw[Ht b xs q]at e;cases e;obtain⟨_,o,its,n,e1,c,d,z,r⟩:=hT b xs q;refine⟨by rw[r.length];simpa using z,its.toList,r,o,e1,c,n,by simpa using d⟩
  |none=>
   by_cases hba:b=a
   .rw[hba,Ha]at e;cases e;rw[hba];exact⟨ha,by rw[O2];exact hl,vs,_,rv,by rw[ha,eob]⟩
   .rw[Hn b q hba]at e;cases e
 have e0:uL P w K mg (qC s₁.heap H) callerA [] s₁ H:=⟨rfl,hMd,fun b o e=>Cs e,S3 (wd _ _),trivial,fun b hb=>absurd (show b∈([]:List Addr) from hb) (by simp),be,.of_eq hg,fun p hp b xs e=>Ht b xs (hM p hp b xs e)⟩;refine SI ((F _ hKb (nsK hns)).run callerA [] s₁ H ⟨[.ref a],[]⟩ [.ref a] [.ref a] _ _ hr e0 (hbind s₁ (.ref a)) (.cons rfl .nil) (hsp H ⟨ob,Ha⟩)) fun r s' h=>?_;cases r with
 |error e=>exact(hCX H e s' h).elim
 |ok fl=>
  cases fl with
  |next=>exact False.elim h
  |brk=>exact False.elim h
  |cont=>exact False.elim h
  |ret u=>
   obtain⟨v,H',os,bare,un,hok',r',q⟩:=h;have q':v=.bl true:=q;subst q';obtain rfl:u=Value.bool true:=r';refine⟨rfl,OldK.of_keep fun b o e=>?_,os,bare⟩;by_cases hba:b=a
   .rw[hba]at e ⊢;have z2:=un.jg a ob _ Ha;obtain⟨e2,_⟩:=hok' a _ z2;rw[ha]at e;cases e;exact e2
   .refine un.keep b o e ?_ (by intro z;exact absurd (show b∈([]:List Addr) from z) (by simp)) (by simp);cases q:kts.lookup b with
    |none=>exact .inl (Hn b q hba)
    |some xs=>exact .inr ⟨xs,Ht b xs q⟩
section
variable {K K':To}
def Lp (K:To):Bool:=K.all fun p=>(Fq p.2).isNone
structure iL (K K':To):Prop where
 look:∀ b o,K.lookup b=some o->(∀ its n,o.data≠.seq its n)->K'.lookup b=some o
theorem wR:iL K K:=⟨fun _ _ e _=>e⟩
theorem iL.code (S:iL K K')(h:PySem.W.codeIn K cd q=true):PySem.W.codeIn K' cd q=true:=by
 unfold PySem.W.codeIn at h ⊢;cases cd with
 |ref c=>
  dsimp only at h ⊢;cases e:K.lookup c with
  |none=>rw[e]at h;cases h
  |some o=>
   obtain⟨o1,o2,o3,o4⟩:=o;cases o3 with
   |fields vs=>rw[S.look c _ e (fun _ _ z=>nomatch z)];rw[e]at h;exact h
   |_=>rw[e]at h;cases h
 |_=>cases h
theorem iL.keep (S:iL K K')(e:K.lookup f=some ⟨o1,o2,.func fd,o4⟩):PySem.W.keepIn K' (.ref f)=true:=by unfold PySem.W.keepIn;dsimp only;rw[S.look f _ e (fun _ _ z=>nomatch z)]
theorem iL.ns (S:iL K K')(h:PySem.W.nsIn K n x=some r):PySem.W.nsIn K' n x=some r:=by
 unfold PySem.W.nsIn at h ⊢;cases e:K.lookup n with
 |none=>rw[e]at h;cases h
 |some o=>
  obtain⟨o1,o2,o3,o4⟩:=o;cases o3 with
  |dict es ep=>rw[S.look n _ e (fun _ _ z=>nomatch z)];rw[e]at h;exact h
  |_=>rw[e]at h;cases h
theorem iL.nsOk (S:iL K K')(h:PySem.W.nsOkIn K n=true):PySem.W.nsOkIn K' n=true:=by
 unfold PySem.W.nsOkIn at h ⊢;cases e:K.lookup n with
 |none=>rw[e]at h;cases h
 |some o=>
  obtain⟨o1,o2,o3,o4⟩:=o;cases o3 with
  |dict es ep=>rw[S.look n _ e (fun _ _ z=>nomatch z)];rw[e]at h;exact h
  |_=>rw[e]at h;cases h
theorem iL.tail (S:iL K K'):∀{l:List Tq},PySem.W.tailIn K bm l=true->PySem.W.tailIn K' bm l=true
 | [],h=>h
 |v::r,h=>by
  unfold PySem.W.tailIn at h ⊢;rw[Bool.or_eq_true]at h ⊢;refine h.imp id fun h=>?_;cases v with
  |ref A=>
   dsimp only at h ⊢;cases e:K.lookup A with
   |none=>rw[e]at h;cases h
   |some o=>
    obtain⟨o1,o2,o3,o4⟩:=o;cases o3 with
    |cls cd=>rw[S.look A _ e (fun _ _ z=>nomatch z)];rw[e]at h;dsimp only at h ⊢;simp only[QP,Sv]at h ⊢;exact⟨⟨S.nsOk h.1.1,S.ns h.1.2⟩,S.tail h.2⟩
    |_=>rw[e]at h;cases h
  |_=>cases h
theorem iL.exc (S:iL K K')(h:PySem.W.excIn K C bm i=true):PySem.W.excIn K' C bm i=true/\pj K' C=pj K C:=by
 unfold PySem.W.excIn at h ⊢;unfold pj;cases e:K.lookup C with
 |none=>rw[e]at h;cases h
 |some o=>
  obtain⟨o1,o2,o3,o4⟩:=o;rw[e]at h;cases o3 with
  |cls cd=>
   rw[S.look C _ e (fun _ _ z=>nomatch z)];refine⟨?_,rfl⟩;split at h
   .rename_i dd cd' sl he;injection he with he;injection he with he1 he2 he3 he4;injection he3 with he3;subst he1 he2 he3 he4
    try dsimp only at h
    try dsimp only
    split at h
    .rename_i hm hs;simp only[QP,Sv]at h ⊢;exact⟨⟨⟨h.1.1.1,S.tail h.1.1.2⟩,S.nsOk h.1.2⟩,S.ns h.2⟩
    .cases h
   .cases h
  |_=>split at h<;>first|cases h|(rename_i he;injection he with he;injection he with _ _ he _;cases he)
end
noncomputable def vy:Tq->Bool
 | .type n=>n=="list"
 |_=>false
def Lq (K:To):Bool:=K.all fun p=>!vy p.2.cls
theorem zL:∀{K:To},Lq K=true->K.lookup a=some o->o.cls=.type "list"->False
 | [],_,e,_=>by cases e
 |(b,x)::r,h,e,c=>by
  unfold Lq at h;rw[List.all_cons,QP]at h;rw[Rz]at e;split at e
  .cases e;rw[c]at h;have h1:=h.1;simp[vy]at h1
  .exact zL (K:=r) h.2 e c
section
variable {l:PySem.W.OpenLaw}{K:Params->To}{CX:World->yT}{sp:World->Sp}
theorem zM (hn:l.most=some n)(hn2:n<=sizeLine)(hdf:d.params.defaults=[])(hr:cT k callerA)(hY:∀(w:World)(h:Heap),YP w h->(K w.params).In h)
 (hL:∀ w:World,Lq (K w.params)=true/\Lp (K w.params)=true)
 (F:∀(w:World)(mg:Str->Option Tq)(fa:Addr)(h:Heap),(K w.params).In h->h.Ns mainGlobals mg->mg d.name=some (.ref fa)->
   ∃ fd:FuncData,(∀(s:Tn)(u:Tq),BindsTo s fd ⟨[u],[]⟩ [(x,u)])/\∀ base:Heap,(K w.params).In base->base.Ns mainGlobals mg->bE l.prog w (K w.params) mg base (CX w) k fa fd [x] (sp w))
 (hsp:∀(w:World)(H:Hp)(a:Addr)(ns:List Int),ns.length<=n->(∃ o,H a=some (.cj o (.lst (ns.map V.int))))->sp w [.ref a] H (fun v _=>v=.bl true) fun _ _ _=>False)
 (hCX:∀(w:World)(H:Hp)(s:Tn)(e:Tq)(s':Tn),CX w [] H s (fun _ _ _=>False) e s'->False) :
 PySem.W.WalkO q loose XP YP l.row.toRowW d [] (fun f vs=>PySem.call f vs):=by
 refine Att.attach_call hn hdf fun w s₀ s₁ mg mb fa o pm cd doc a vs ns G Y ho hd hcd hmg hobj hints bL hg=>?_;have KX:=hY w _ Y;obtain⟨fd,hb,hF⟩:=F w mg fa _ KX G.T.g hmg;exact wQ (kts:=[]) KX G.T.g G.T.b G.T.builtins G.T.nolimit hg hobj hints (Pu bL hn2) hr (fun o e c=>zL (hL w).1 e c) (fun b xs e=>by cases e)
  (fun p hp b xs e=>by have:=Rx.mp (hL w).2 p hp;rw[e]at this;cases this) hF hb (fun H hS=>hsp w H a ns bL hS) fun H e s'=>hCX w H s₁ e s'
end
end L2
namespace L2
open PySem PySem.Spec PySem.Calls PyProof.Rows
noncomputable abbrev K0:=Sum Int (List Int)
abbrev NX:=List (List K0×Addr×Tq)
end L2
namespace L2
open PySem PySem.Spec PySem.Calls PyProof.Rows ST
end L2
namespace L3
open PySem PySem.Spec PyProof.Rows L2
abbrev DK:=Sum bC (List bC)
inductive D where
 |bJ|bl (b:Bool)|int (i:Int)|str (x:Str)|tup (ds:List D)|lst (ds:List D)|nX (ks:List DK) (ds:List D)
mutual
noncomputable def D.flat:D->Bool
 | .lst _=>false
 | .nX _ _=>false
 | .tup ds=>D.Bz ds
 |_=>true
noncomputable def D.Bz:List D->Bool
 | []=>true
 |d::ds=>d.flat&&D.Bz ds
end
mutual
noncomputable def D.dep:D->Nat
 | .lst ds=>D.cN ds+1
 | .tup ds=>D.cN ds+1
 | .nX _ ds=>D.cN ds+1000
 |_=>0
noncomputable def D.cN:List D->Nat
 | []=>0
 |d::ds=>max d.dep (D.cN ds)
end
mutual
noncomputable def j1:D->D->Bool
 | .bJ,e=>match e with|.bJ=>true|_=>false
 | .bl a,e=>match e with|.bl b=>a==b|.int b=>(if a then 1 else 0)==b|_=>false
 | .int a,e=>match e with|.int b=>a==b|.bl b=>a==(if b then 1 else 0)|_=>false
 | .str a,e=>match e with|.str b=>a==b|_=>false
 | .tup as,e=>match e with|.tup bs=>eqDs as bs|_=>false
 | .lst as,e=>match e with|.lst bs=>eqDs as bs|_=>false
 | .nX ks as,e=>match e with|.nX ls bs=>decide (ks=ls)&&eqDs as bs|_=>false
noncomputable def eqDs:List D->List D->Bool
 | [],bs=>match bs with|[]=>true|_=>false
 |a::as,bs=>match bs with|b::r=>j1 a b&&eqDs as r|[]=>false
end
mutual
theorem mq:∀ d:D,j1 d d=true
 | .bJ=>rfl
 | .bl a=>by simp[j1]
 | .int a=>by simp[j1]
 | .str a=>by simp[j1]
 | .tup as=>by simp only[j1];exact eqDs_refl as
 | .lst as=>by simp only[j1];exact eqDs_refl as
 | .nX ks as=>by simp only[j1,decide_true,Bool.true_and];exact eqDs_refl as
theorem eqDs_refl:∀ ds:List D,eqDs ds ds=true
 | []=>rfl
 |d::ds=>by simp only[eqDs,mq d,eqDs_refl ds,Tf]
end
def DAt (H:Hp)(a:Addr)(ks:List DK)(vs:List V):Prop:=(∃ kvs:List (bC×V),Rd H a (.dK kvs)/\ks=kvs.map (fun p=>.inl p.1)/\vs=kvs.map Prod.snd)\/∃ kvs:List (List bC×V),Rd H a (.dT kvs)/\ks=kvs.map (fun p=>.inr p.1)/\vs=kvs.map Prod.snd
noncomputable def Lr:HO->Prop
 | .lst _=>True
 | .dK _=>True
 | .dT _=>True
 | .ext _=>True
 |_=>False
def Mu (H:Hp)(a:Addr):Prop:=∃ o,H a=some o/\Lr o
theorem EM (h:Rd H a u):∃ o,H a=some o:=h.elim (fun e=>⟨_,e⟩) fun⟨_,e⟩=>⟨_,e⟩
theorem zN (h:Rd H a u)(s:∀ o,H a=some o->H' a=some o):Rd H' a u:=h.imp (s _) fun⟨o,e⟩=>⟨o,s _ e⟩
theorem DAt.obj (h:DAt H a ks vs):∃ o,H a=some o:=h.elim (fun⟨_,e,_⟩=>EM e) fun⟨_,e,_⟩=>EM e
theorem DAt.keep (h:DAt H a ks vs)(s:∀ o,H a=some o->H' a=some o):DAt H' a ks vs:=h.imp (fun⟨kvs,e,r⟩=>⟨kvs,zN e s,r⟩) fun⟨kvs,e,r⟩=>⟨kvs,zN e s,r⟩
theorem DAt.inj (h:DAt H a ks vs)(g:DAt H a ls ws):ks=ls/\vs=ws:=by rcases h with⟨k1,e1|⟨o1,e1⟩,r1,r2⟩|⟨k1,e1|⟨o1,e1⟩,r1,r2⟩<;>rcases g with⟨k2,e2|⟨o2,e2⟩,q1,q2⟩|⟨k2,e2|⟨o2,e2⟩,q1,q2⟩<;>(rw[e1]at e2;cases e2;try exact⟨r1.trans q1.symm,r2.trans q2.symm⟩)
noncomputable def Ls:HO->Prop
 | .dK _=>False
 | .dT _=>False
 | .cj _ (.dK _)=>False
 | .cj _ (.dT _)=>False
 |_=>True
theorem DAt.no (h:DAt H a ks vs)(e:H a=some o)(n:Ls o):False:=by rcases h with⟨k,z|⟨o',z⟩,_⟩|⟨k,z|⟨o',z⟩,_⟩<;>(rw[e]at z;cases z;exact n)
mutual
noncomputable def Is (H:Hp)(m:Addr->Prop):D->V->Prop
 | .bJ,v=>v=.bJ
 | .bl b,v=>v=.bl b
 | .int i,v=>v=.int i
 | .str x,v=>v=.str x
 | .tup ds,v=>∃ a vs,v=.ref a/\H a=some (.tup vs)/\IsAll H m ds vs
 | .lst ds,v=>∃ a vs,v=.ref a/\((H a=some (.lst vs)/\m a)\/∃ o,H a=some (.cj o (.lst vs))/\m a)/\IsAll H m ds vs
 | .nX ks ds,v=>∃ a vs,v=.ref a/\(DAt H a ks vs/\m a)/\IsAll H m ds vs
noncomputable def IsAll (H:Hp)(m:Addr->Prop):List D->List V->Prop
 | [],vs=>vs=[]
 |d::ds,vs=>∃ v r,vs=v::r/\Is H m d v/\IsAll H m ds r
end
noncomputable def IB:HO->Prop
 | .tup _=>True
 | .cj _ _=>True
 |_=>False
section
mutual
theorem Is.mono (kp:∀ a o,H a=some o->(m a\/IB o)->H' a=some o)(mm:∀ a o,H a=some o->m a->m' a):∀{d:D}{v:V},Is H m d v->Is H' m' d v
 | .bJ,_,h=>h
 | .bl _,_,h=>h
 | .int _,_,h=>h
 | .str _,_,h=>h
 | .tup ds,_,h=>by obtain⟨a,vs,e,h1,h2⟩:=h;exact⟨a,vs,e,kp a _ h1 (.inr True.intro),IsAll.mono kp mm h2⟩
 | .lst ds,_,h=>by
  obtain⟨a,vs,e,h1,h2⟩:=h;refine⟨a,vs,e,?_,IsAll.mono kp mm h2⟩;rcases h1 with⟨h1,h3⟩|⟨o,h1,h3⟩
  .exact .inl ⟨kp a _ h1 (.inl h3),mm a _ h1 h3⟩
  .exact .inr ⟨o,kp a _ h1 (.inr True.intro),mm a _ h1 h3⟩
 | .nX ks ds,_,h=>by obtain⟨a,vs,e,h1,h2⟩:=h;obtain⟨o,eo⟩:=h1.1.obj;exact⟨a,vs,e,⟨h1.1.keep fun o e=>kp a o e (.inl h1.2),mm a o eo h1.2⟩,IsAll.mono kp mm h2⟩
theorem IsAll.mono (kp:∀ a o,H a=some o->(m a\/IB o)->H' a=some o)(mm:∀ a o,H a=some o->m a->m' a):∀{ds:List D}{vs:List V},IsAll H m ds vs->IsAll H' m' ds vs
 | [],_,h=>h
 |d::ds,_,h=>by obtain⟨v,r,e,h1,h2⟩:=h;exact⟨v,r,e,Is.mono kp mm h1,IsAll.mono kp mm h2⟩
end
mutual
theorem Is.inj:∀{d e:D}{v:V},Is H m d v->Is H m' e v->d=e
 | .bJ,e,_,h,g=>by cases e<;>first|rfl|(cases h;first|(obtain⟨_,_,z,_⟩:=g;cases z;done)|cases g)
 | .bl _,e,_,h,g=>by cases e<;>(cases h;first|(obtain⟨_,_,z,_⟩:=g;cases z;done)|(cases g;rfl)|cases g)
 | .int _,e,_,h,g=>by cases e<;>(cases h;first|(obtain⟨_,_,z,_⟩:=g;cases z;done)|(cases g;rfl)|cases g)
 | .str _,e,_,h,g=>by cases e<;>(cases h;first|(obtain⟨_,_,z,_⟩:=g;cases z;done)|(cases g;rfl)|cases g)
 | .tup ds,e,_,h,g=>by
  obtain⟨a,vs,rfl,h1,h2⟩:=h;cases e with
  |tup es=>obtain⟨b,ws,z,g1,g2⟩:=g;cases z;rw[h1]at g1;cases g1;rw[IsAll.inj h2 g2]
  |lst es=>obtain⟨b,ws,z,g1,g2⟩:=g;cases z;rcases g1 with⟨g1,_⟩|⟨o,g1,_⟩<;>(rw[h1]at g1;cases g1)
  |nX ls es=>obtain⟨b,ws,z,g1,g2⟩:=g;cases z;exact(g1.1.no h1 True.intro).elim
  |_=>cases g
 | .lst ds,e,_,h,g=>by
  obtain⟨a,vs,rfl,h1,h2⟩:=h;cases e with
  |tup es=>obtain⟨b,ws,z,g1,g2⟩:=g;cases z;rcases h1 with⟨h1,_⟩|⟨o,h1,_⟩<;>(rw[h1]at g1;cases g1)
  |lst es=>
   obtain⟨b,ws,z,g1,g2⟩:=g;cases z;have e:vs=ws:=by rcases h1 with⟨h1,_⟩|⟨o,h1,_⟩<;>rcases g1 with⟨g1,_⟩|⟨o',g1,_⟩<;>(rw[h1]at g1;cases g1;try rfl)
   subst e;rw[IsAll.inj h2 g2]
  |nX ls es=>obtain⟨b,ws,z,g1,g2⟩:=g;cases z;rcases h1 with⟨h1,_⟩|⟨o,h1,_⟩<;>exact(g1.1.no h1 True.intro).elim
  |_=>cases g
 | .nX ks ds,e,_,h,g=>by
  obtain⟨a,vs,rfl,h1,h2⟩:=h;cases e with
  |tup es=>obtain⟨b,ws,z,g1,g2⟩:=g;cases z;exact(h1.1.no g1 True.intro).elim
  |lst es=>obtain⟨b,ws,z,g1,g2⟩:=g;cases z;rcases g1 with⟨g1,_⟩|⟨o,g1,_⟩<;>exact(h1.1.no g1 True.intro).elim
  |nX ls es=>obtain⟨b,ws,z,g1,g2⟩:=g;cases z;obtain⟨e1,e2⟩:=h1.1.inj g1.1;subst e1 e2;rw[IsAll.inj h2 g2]
  |_=>cases g
theorem IsAll.inj:∀{ds es:List D}{vs:List V},IsAll H m ds vs->IsAll H m' es vs->ds=es
 | [],es,_,h,g=>by
  cases h;cases es with
  |nil=>rfl
  |cons e es=>obtain⟨_,_,z,_⟩:=g;cases z
 |d::ds,es,_,h,g=>by
  obtain⟨v,r,rfl,h1,h2⟩:=h;cases es with
  |nil=>cases g
  |cons e es=>obtain⟨w,q,z,g1,g2⟩:=g;cases z;rw[Is.inj h1 g1,IsAll.inj h2 g2]
end
theorem IsAll.length:∀{ds:List D}{vs:List V},IsAll H m ds vs->vs.length=ds.length
 | [],_,h=>by cases h;rfl
 |d::ds,_,h=>by obtain⟨v,r,rfl,_,h2⟩:=h;simp[IsAll.length h2]
theorem IsAll.get:∀{ds:List D}{vs:List V}{i:Nat}{d:D},IsAll H m ds vs->ds[i]?=some d->∃ v,vs[i]?=some v/\Is H m d v
 | [],_,_,_,_,e=>by simp at e
 |d::ds,_,0,_,h,e=>by obtain⟨v,r,rfl,h1,h2⟩:=h;simp at e;subst e;exact⟨v,rfl,h1⟩
 |d::ds,_,i+1,_,h,e=>by obtain⟨v,r,rfl,h1,h2⟩:=h;obtain⟨w,a,b⟩:=IsAll.get (i:=i) h2 (by simpa using e);exact⟨w,by simpa using a,b⟩
theorem IsAll.take:∀{ds:List D}{vs:List V}(n:Nat),IsAll H m ds vs->IsAll H m (ds.take n) (vs.take n)
 |_,_,0,_=>rfl
 | [],_,n+1,h=>by cases h;exact rfl
 |d::ds,_,n+1,h=>by obtain⟨v,r,rfl,h1,h2⟩:=h;exact⟨v,r.take n,rfl,h1,IsAll.take n h2⟩
theorem IsAll.drop:∀{ds:List D}{vs:List V}(n:Nat),IsAll H m ds vs->IsAll H m (ds.drop n) (vs.drop n)
 |_,_,0,h=>h
 | [],_,n+1,h=>by cases h;exact rfl
 |d::ds,_,n+1,h=>by obtain⟨v,r,rfl,h1,h2⟩:=h;exact IsAll.drop n h2
end
section
variable {s:Tn}{m m':Addr->Prop}
theorem mr (ok:HOk P w H s.heap)(h:(H a=some (.lst vs)/\m a)\/∃ o,H a=some (.cj o (.lst vs))/\m a) :
 ∃ its:List Tq,Vals vs its/\s.heap.IsList a its.toArray:=by
 have key:ObjOk P w H s.heap a (.lst vs)->∃ its:List Tq,Vals vs its/\s.heap.IsList a its.toArray:=fun⟨_,its,n,r,e⟩=>⟨its,r,⟨_,e,rfl,n,rfl⟩⟩;rcases h with⟨h,_⟩|⟨o,h,_⟩
 .exact key (ok a _ h)
 .exact key (ok a _ h).2
theorem mz (ok:HOk P w H s.heap)(h:H a=some (.tup vs)):∃ its:List Tq,Vals vs its/\s.heap.IsTuple a its.toArray:=by obtain⟨_,its,r,e⟩:=ok a _ h;exact⟨its,r,e⟩
theorem wU (n:Nat)(e:Nat->Bool):(List.range n).all e=true↔∀ j,j<n->e j=true:=by simp[Rx,PY]
theorem mB:∀(ds es:List D),eqDs ds es=true↔ds.length=es.length/\∀(j:Nat)(d e:D),ds[j]?=some d->es[j]?=some e->j1 d e=true
 | [],[]=>by simp[eqDs]
 | [],e::es=>by simp[eqDs]
 |d::ds,[]=>by simp[eqDs]
 |d::ds,e::es=>by
  simp only[eqDs,QP,mB ds es,Pg,Nat.add_right_cancel_iff];constructor
  .rintro⟨h1,h2,h3⟩;refine⟨h2,fun j x y ex ey=>?_⟩;cases j with
   |zero=>simp at ex ey;subst ex;subst ey;exact h1
   |succ j=>exact h3 j x y (by simpa using ex) (by simpa using ey)
  .rintro⟨h2,h3⟩;exact⟨h3 0 d e rfl rfl,h2,fun j x y ex ey=>h3 (j+1) x y (by simpa using ex) (by simpa using ey)⟩
theorem fy:∀{ds:List D}{j:Nat}{d:D},ds[j]?=some d->d.dep<=D.cN ds
 | [],_,_,e=>by simp at e
 |d::ds,0,_,e=>by simp at e;subst e;simp only[D.cN];lia
 |d::ds,j+1,x,e=>by have:=fy (ds:=ds) (j:=j) (d:=x) (by simpa using e);simp only[D.cN];lia
theorem zO (ok:HOk P w H s.heap){A:Ts}{ds es:List D}(h1:IsAll H m ds vs)(h2:IsAll H m' es ws)(r1:Vals vs its)(r2:Vals ws its2)
 (rec:∀ d∈ds,∀ e∈es,∀(v w:V)(u u':Tq),Is H m d v->Is H m' e w->RelV v u->RelV w u'->SeqAt.EqAt A.in1 s u u' (j1 d e)) :
 ∀ j (z1:j<its.toArray.size) (z2:j<its2.toArray.size),SeqAt.EqAt A.in1 s its.toArray[j] its2.toArray[j] (match ds[j]?,es[j]? with|some d,some e=>j1 d e|_,_=>true):=by
 intro j z1 z2;have l1:=r1.length;have l2:=r2.length;have l3:=h1.length;have l4:=h2.length;have y1:j<its.length:=by simpa using z1
 have y2:j<its2.length:=by simpa using z2
 have k1:j<ds.length:=by lia
 have k2:j<es.length:=by lia
 obtain⟨v,ev,iv⟩:=h1.get (i:=j) (d:=ds[j]) (by simp[k1]);obtain⟨v',ev',iv'⟩:=h2.get (i:=j) (d:=es[j]) (by simp[k2]);obtain⟨u,eu,ru⟩:=r1.get ev;obtain⟨u',eu',ru'⟩:=r2.get ev'
 grind
theorem zP (hl:ds.length=es.length) :
 ((List.range ds.length).all fun j=>match ds[j]?,es[j]? with|some d,some e=>j1 d e|_,_=>true)=eqDs ds es:=by
 rw[RI,wU,mB];constructor
 .intro h;refine⟨hl,fun j d e ed ee=>?_⟩;have:=h j (O3.mp ed).1;rw[ed,ee]at this;exact this
 .rintro⟨_,h⟩ j hj;have e1:ds[j]?=some ds[j]:=by simp[hj]
  have hj':j<es.length:=by lia
  have e2:es[j]?=some es[j]:=by simp[hj']
  rw[e1,e2];exact h j _ _ e1 e2
theorem vz (hl:ds.length≠es.length):eqDs ds es=false:=by grind [eqDs,mB]
end
section
variable {s:Tn}
abbrev zQ (H:Hp)(s:Tn)(m m':Addr->Prop)(A:Ts)(n:Nat):Prop:=∀(d e:D)(v w:V)(u u':Tq),d.dep<n->e.dep<1000->Is H m d v->Is H m' e w->RelV v u->RelV w u'->SeqAt.EqAt A.in1 s u u' (j1 d e)
section
theorem ug (ok:HOk P w H s.heap)(hn:(D.lst l1).dep<=n)(hE:(D.lst l2).dep<1000)(hu:A.units<cLine)(q1:IsAll H m l1 vs1)(q2:IsAll H m' l2 vs2)(y1:Vals vs1 its1)(y2:Vals vs2 its2)(p1:s.heap.IsList a1 its1.toArray)(p2:s.heap.IsList a2 its2.toArray)
 (rec:zQ H s m m' A n):SeqAt.RcAt A s (.ref a1) (.ref a2) (j1 (.lst l1) (.lst l2)):=by
 have e1:its1.toArray.size=l1.length:=by rw[O7,<- y1.length,q1.length]
 have e2:its2.toArray.size=l2.length:=by rw[O7,<- y2.length,q2.length]
 have hd:∀ d∈l1,d.dep<n:=fun d hd=>by obtain⟨j,hj⟩:=Pj.mp hd;have:=fy hj;simp only[D.dep]at hn;lia
 have he:∀ e∈l2,e.dep<1000:=fun d hd=>by obtain⟨j,hj⟩:=Pj.mp hd;have:=fy hj;simp only[D.dep]at hE;lia
 by_cases hl:l1.length=l2.length
 .have z:=SeqAt.RcAt.lists p1 p2 (by rw[e1,e2,hl]) hu (zO ok q1 q2 y1 y2 fun d hm e hm2 v w u u' i1 i2 r1 r2=>rec d e v w u u' (hd d hm) (he e hm2) i1 i2 r1 r2);rw[e1,zP hl]at z;exact z
 .have z:=SeqAt.RcAt.lists_lengths p1 p2 (by rw[e1,e2];simpa using hl) hu;rw[show j1 (.lst l1) (.lst l2)=eqDs l1 l2 from rfl,vz hl];exact z
theorem Dc:((List.range (min l1.length l2.length)).all (fun j=>match l1[j]?,l2[j]? with|some d,some e=>j1 d e|_,_=>true)&&l1.length==l2.length)=eqDs l1 l2:=by grind [zP,vz]
theorem wV (ok:HOk P w H s.heap)(hn:(D.tup l1).dep<=n)(hE:(D.tup l2).dep<1000)(hu:A.units<cLine)(q1:IsAll H m l1 vs1)(q2:IsAll H m' l2 vs2)(y1:Vals vs1 its1)(y2:Vals vs2 its2)(p1:s.heap.IsTuple a1 its1.toArray)(p2:s.heap.IsTuple a2 its2.toArray)
 (rec:zQ H s m m' A n):SeqAt.RcAt A s (.ref a1) (.ref a2) (j1 (.tup l1) (.tup l2)):=by
 have e1:its1.toArray.size=l1.length:=by rw[O7,<- y1.length,q1.length]
 have e2:its2.toArray.size=l2.length:=by rw[O7,<- y2.length,q2.length]
 have hd:∀ d∈l1,d.dep<n:=fun d hd=>by obtain⟨j,hj⟩:=Pj.mp hd;have:=fy hj;simp only[D.dep]at hn;lia
 have he:∀ e∈l2,e.dep<1000:=fun d hd=>by obtain⟨j,hj⟩:=Pj.mp hd;have:=fy hj;simp only[D.dep]at hE;lia
 have z:=SeqAt.RcAt.tuples p1 p2 hu (zO ok q1 q2 y1 y2 fun d hm e hm2 v w u u' i1 i2 r1 r2=>rec d e v w u u' (hd d hm) (he e hm2) i1 i2 r1 r2);rw[e1,e2,Dc]at z;exact z
theorem rK (h:SeqAt.RcAt A s (.ref a1) (.ref a2) k)(hs:a1=a2->k=true):SeqAt.EqAt A s (.ref a1) (.ref a2) k:=by
 by_cases e:a1=a2
 .subst e;rw[hs rfl];exact SeqAt.EqAt.same _
 .exact SeqAt.EqAt.of_refs e h
end
theorem Is.shape (ok:HOk P w H s.heap)(hE:d.dep<1000)(h:Is H m d v)(r:RelV v u):(d=.bJ/\u=.none)\/(∃ b,d=.bl b/\u=.bool b)\/(∃ i t,d=.int i/\u=.int i t)\/(∃ x t,d=.str x/\u=.str x t)\/
 (∃ l a vs its,d=.lst l/\v=.ref a/\u=.ref a/\IsAll H m l vs/\Vals vs its/\s.heap.IsList a its.toArray)\/∃ l a vs its,d=.tup l/\v=.ref a/\u=.ref a/\IsAll H m l vs/\Vals vs its/\s.heap.IsTuple a its.toArray:=by
 cases d with
 |bJ=>cases h;cases r;exact .inl ⟨rfl,rfl⟩
 |bl b=>cases h;cases r;exact .inr (.inl ⟨b,rfl,rfl⟩)
 |int i=>cases h;obtain⟨t,rfl⟩:=r;exact .inr (.inr (.inl ⟨i,t,rfl,rfl⟩))
 |str x=>cases h;obtain⟨t,rfl⟩:=r;exact .inr (.inr (.inr (.inl ⟨x,t,rfl,rfl⟩)))
 |lst l=>obtain⟨a,vs,rfl,g,q⟩:=h;cases r;obtain⟨its,y,p⟩:=mr ok g;exact .inr (.inr (.inr (.inr (.inl ⟨l,a,vs,its,rfl,rfl,rfl,q,y,p⟩))))
 |tup l=>obtain⟨a,vs,rfl,g,q⟩:=h;cases r;obtain⟨its,y,p⟩:=mz ok g;exact .inr (.inr (.inr (.inr (.inr ⟨l,a,vs,its,rfl,rfl,rfl,q,y,p⟩))))
 |nX k l=>exact absurd hE (by simp only[D.dep];lia)
theorem vA (ok:HOk P w H s.heap)(hu:A.units<cLine)(rec:zQ H s m m' A n)(hn:d.dep<=n)(hN:n<1000)(hE:e.dep<1000)(h1:Is H m d v)(h2:Is H m' e w')(r1:RelV v u)(r2:RelV w' u') :
 SeqAt.EqAt A s u u' (j1 d e):=by
 rcases h1.shape ok (by lia) r1 with⟨rfl,rfl⟩|⟨b1,rfl,rfl⟩|⟨i1,t1,rfl,rfl⟩|⟨x1,t1,rfl,rfl⟩|⟨l1,a1,vs1,its1,rfl,rfl,rfl,q1,y1,p1⟩|⟨l1,a1,vs1,its1,rfl,rfl,rfl,q1,y1,p1⟩<;>rcases h2.shape ok hE r2 with⟨rfl,rfl⟩|⟨b2,rfl,rfl⟩|⟨i2,t2,rfl,rfl⟩|⟨x2,t2,rfl,rfl⟩|⟨l2,a2,vs2,its2,rfl,rfl,rfl,q2,y2,p2⟩|⟨l2,a2,vs2,its2,rfl,rfl,rfl,q2,y2,p2⟩;exact .same _;exact .none_bool b2;exact .none_int i2 t2;exact .none_str x2 t2;exact .none_list p2 hu;exact .none_tuple p2 hu;exact .bool_none b1;exact .bool_bool b1 b2;exact .bool_int b1 i2 t2;exact .bool_str b1 x2 t2;exact .bool_list b1 p2 hu;exact .bool_tuple b1 p2 hu;exact .int_none i1 t1;exact .int_bool i1 t1 b2;exact .int_int i1 t1 i2 t2;exact .int_str i1 t1 x2 t2;exact .int_list i1 t1 p2 hu;exact .int_tuple i1 t1 p2 hu;exact .str_none x1 t1;exact .str_bool x1 t1 b2;exact .str_int x1 t1 i2 t2;exact .str_str x1 t1 x2 t2;exact .str_list x1 t1 p2 hu;exact .str_tuple x1 t1 p2 hu;exact .list_none p1 hu;exact .list_bool b2 p1 hu;exact .list_int i2 t2 p1 hu;exact .list_str x2 t2 p1 hu;exact rK (ug ok hn hE hu q1 q2 y1 y2 p1 p2 rec) (fun z=>by subst z;rw[Is.inj h1 h2];exact mq _);exact .list_tuple p1 p2 hu;exact .tuple_none p1 hu;exact .tuple_bool b2 p1 hu;exact .tuple_int i2 t2 p1 hu;exact .tuple_str x2 t2 p1 hu;exact .tuple_list p1 p2 hu;exact rK (wV ok hn hE hu q1 q2 y1 y2 p1 p2 rec) (fun z=>by subst z;rw[Is.inj h1 h2];exact mq _)
theorem EN (ok:HOk P w H s.heap):∀(n:Nat)(A:Ts){d e:D}{v w':V}{u u':Tq},A.units+n<cLine->n<1000->d.dep<=n->e.dep<1000->Is H m d v->Is H m' e w'->RelV v u->RelV w' u'->SeqAt.EqAt A s u u' (j1 d e)
 |0,A,d,e,v,w',u,u',hu,hN,hn,hE,h1,h2,r1,r2=>vA ok (by lia) (fun d e v w u u' hd=>absurd hd (by lia)) hn hN hE h1 h2 r1 r2
 |n+1,A,d,e,v,w',u,u',hu,hN,hn,hE,h1,h2,r1,r2=>vA ok (by lia) (fun d e v w u u' hd he i1 i2 r1 r2=>EN ok n A.in1 (by show A.units+1+n<cLine;lia) (by lia) (by lia) he i1 i2 r1 r2) hn hN hE h1 h2 r1 r2
end
abbrev St:=L2.St
inductive Res (α:Type) where
 |stuck|ok (a:α)|exc (c:Str)
noncomputable def Res.bind {α β:Type}:Res α->(α->Res β)->Res β
 | .stuck,_=>.stuck
 | .exc c,_=>.exc c
 | .ok a,k=>k a
inductive Sl where
 |val (d:D) (fr:Bool)|own (ds:List D) (fr:Bool)|ML (d:D)|OK (d:D)
noncomputable abbrev En:=List (Option Sl)
inductive R where
 |val (d:D) (fr:Bool) (al:List Nat)|new (ds:List D) (fr:Bool)|yw (d:D)
noncomputable def R.d:R->D
 | .val d _ _=>d
 | .new ds _=>.lst ds
 | .yw d=>d
noncomputable def R.fr:R->Bool
 | .val _ f _=>f
 | .new _ f=>f
 | .yw _=>true
noncomputable def R.al:R->List Nat
 | .val _ _ al=>al
 | .new _ _=>[]
 | .yw _=>[]
structure Gd where
 H₀:Hp
 Ma:Addr->Prop
 Z:Addr->Prop
 root:Option V
 MW:Option V
noncomputable abbrev M3 (H:Hp)(Ma:Addr->Prop):Gd:=⟨H,Ma,fun _=>False,none,none⟩
noncomputable abbrev Pr:=Nat->Addr->Prop
noncomputable def Gd.rt (g:Gd)(n:Nat):Option V:=if n=0 then g.root else g.MW
noncomputable def Sl.K3:Sl->Bool
 | .val _ _=>false
 |_=>true
def EO (env:En)(j:Nat):Bool:=match env[j]? with
 |some (some sl)=>sl.K3
 |_=>false
section
theorem az (h:H a=none):Same H (upd H a o):=fun b u e=>by rw[aA (aB e h)];exact e
end
def NI (mg:Str->Option Tq)(E:XK)(g:Gd)(c:Str):Prop:=∀ cls dx H',mg c=some cls->Same g.H₀ H'->E cls dx H'
section
def IC (rs:List R):Bool:=rs.all R.fr
end
noncomputable def lim:Nat:=1000000
def M4 (ds:List D)(fr:Bool)(al:List Nat):R:=if D.Bz ds then .new ds true else if al.isEmpty then .new ds fr else .val (.lst ds) fr al
def nl (H0 H':Hp)(a:Addr):Prop:=H0 a=none/\Mu H' a
def zR (g:Gd)(H':Hp)(v:V):R->Prop
 | .val d fr _=>Is H' (fun a=>nl g.H₀ H' a\/(fr=false/\g.Ma a)) d v
 | .new ds fr=>∃ a vs,v=.ref a/\H' a=some (.lst vs)/\g.H₀ a=none/\IsAll H' (fun b=>b≠a/\(nl g.H₀ H' b\/(fr=false/\g.Ma b))) ds vs
 | .yw d=>Is H' (nl g.H₀ H') d v
def ID (mg:Str->Option Tq)(E:XK)(g:Gd)(Q:VK):Res R->Prop
 | .stuck=>False
 | .exc c=>NI mg E g c
 | .ok r=>∀ v H',Same g.H₀ H'->zR g H' v r->Q v H'
def pH (mg:Str->Option Tq)(n:Nat)(F:List D->Res R):Sp:=fun vs H Q E=>vs.length=n/\∃ ds Ma,IsAll H Ma ds vs/\ID mg E (M3 H Ma) Q (F ds)
inductive Fl where
 |nx (env:En)|rt (r:R)|bk (env:En)|ct (env:En)|rm (r:R) (env:En)
section
def Lu (env:En)(i:Nat):En:=match env[i]? with
 |some (some (.own ds fr))=>env.set i (some (.val (.lst ds) fr))
 |some (some (.ML d))=>env.set i (some (.val d true))
 |some (some (.OK _))=>env.set i none
 |_=>env
def cj (env:En)(al:List Nat):En:=al.foldl Lu env
def put (env:En)(i:Nat):R->En
 | .new ds fr=>env.set i (some (.own ds fr))
 | .val d fr al=>(cj env al).set i (some (.val d fr))
 | .yw d=>env.set i (some (.ML d))
end
structure Src where
 xs:List D
 fr:Bool
 al:List Nat
theorem gk:∀(names:List (Str×NameKind))(cs:List (Str×Addr)),(∀ x∈names,x.2=.free->∃ c,env.cells.lookup x.1=some c)->(∀ y c,cs.lookup y=some c->env.cells.lookup y=some c)->
 ∃ cl,(forIn names cs fun(x:Str×NameKind)(r:List (Str×Addr))=>(do
  if (x.2==.free)=true then
   let c <- cellOf env x.1
   pure (ForInStep.yield ((x.1,c)::r))
  else pure (ForInStep.yield r):Sem (ForInStep (List (Str×Addr)))))=pure cl/\(∀ y c,cl.lookup y=some c->env.cells.lookup y=some c)/\(∀ x∈names,x.2=.free->∃ c,cl.lookup x.1=some c)/\(∀ y c,cs.lookup y=some c->∃ c',cl.lookup y=some c')
 | [],cs,_,h=>⟨cs,by simp,h,fun _ z=>absurd z (by simp),fun y c e=>⟨c,e⟩⟩
 |(n,k)::r,cs,hf,h=>by
  by_cases hk:k=.free
  .subst hk;obtain⟨c,hc⟩:=hf (n,.free) (by simp) rfl;have hco:cellOf env n=pure c:=by simp[cellOf,hc]
   have h':∀ y c',((n,c)::cs).lookup y=some c'->env.cells.lookup y=some c':=fun y c' e=>by
    rw[Rz]at e;cases hy:y==n with
    |true=>rw[hy]at e;cases e;rw[eq_of_beq hy];exact hc
    |false=>rw[hy]at e;exact h y c' e
   obtain⟨cl,e1,e2,e3,e4⟩:=gk r ((n,c)::cs) (fun x hx=>hf x (by simp[hx])) h';have self:∃ c',cl.lookup n=some c':=e4 n c (by simp[Rz]);refine⟨cl,?_,e2,fun x hx hxf=>?_,fun y c' e=>?_⟩
   .rw[List.forIn_cons];simp only[Ry,RB,hco,pure_bind];exact e1
   .rcases O8.mp hx with rfl|hx
    .exact self
    .exact e3 x hx hxf
   .by_cases hy:y=n
    .rw[hy];exact self
    .refine e4 y c' ?_;have hb:(y==n)=false:=by simpa using hy
     rw[Rz,hb];exact e
  .obtain⟨cl,e1,e2,e3,e4⟩:=gk r cs (fun x hx=>hf x (by simp[hx])) h;refine⟨cl,?_,e2,fun x hx hxf=>?_,e4⟩
   .rw[List.forIn_cons];have hkb:(k==NameKind.free)=false:=by simpa using hk
    simp only[hkb,Po,Qy,pure_bind];exact e1
   .rcases O8.mp hx with rfl|hx
    .exact absurd hxf hk
    .exact e3 x hx hxf
theorem nI (h:∀ x∈scope.names,x.2=.free->∃ c,env.cells.lookup x.1=some c) :
 ∃ cl,closureFor scope env=pure cl/\(∀ y c,cl.lookup y=some c->env.cells.lookup y=some c)/\(∀ x∈scope.names,x.2=.free->∃ c,cl.lookup x.1=some c):=by
 obtain⟨cl,e1,e2,e3,_⟩:=gk scope.names [] h (fun _ _ e=>by simp at e);refine⟨cl,?_,e2,e3⟩;unfold closureFor;refine Eq.trans ?_ (show((pure cl:Sem (List (Str×Addr))) >>= fun cs=>pure cs)=pure cl by simp);rw[<- e1]
 all_goals first
  |rfl
  |(congr 1;congr 1;funext x r;obtain⟨n,k⟩:=x;first|rfl|(dsimp only;split<;>simp_all))
theorem kJ {f:Str->NameKind->NameKind}:∀(names:List (Str×NameKind))(y:Str),(names.map fun x=>(x.1,f x.1 x.2)).lookup y=(names.lookup y).map (f y)
 | [],y=>rfl
 |(n,k)::r,y=>by
  rw[Ph,Rz,Rz];cases h:y==n with
  |true=>rw[eq_of_beq h];rfl
  |false=>exact kJ r y
theorem gZ (scope:Scope)(env:Env)(y:Str):(relabel scope env).names.lookup y=(scope.names.lookup y).map fun k=>if (k==.free&&env.scope.kind==.function&&env.kindOf y==some .cell)=true then .cell else k:=by
 have e:(relabel scope env).names=scope.names.map fun x=>(x.1,(fun n k=>if (k==NameKind.free&&env.scope.kind==.function&&env.kindOf n==some .cell)=true then NameKind.cell else k) x.1 x.2):=by unfold relabel;refine Qa fun x _=>?_;obtain⟨n,k⟩:=x;dsimp only;split<;>rfl
 rw[e];exact kJ (f:=fun n k=>if (k==NameKind.free&&env.scope.kind==.function&&env.kindOf n==some .cell)=true then NameKind.cell else k) scope.names y
theorem pI (h:scope.names.lookup y=some .free):(relabel scope env).names.lookup y=some .cell\/(relabel scope env).names.lookup y=some .free:=by
 rw[gZ,h];simp only[Option.map_some];split
 .exact .inl rfl
 .exact .inr rfl
noncomputable def bH (X:Cx)(scope:Scope)(N:List Str)(cl:List (Str×Addr))(C:Addr)(s:Tn)(H:Hp)(ex:List Addr):Cx:={ X with N:=N,s₀:=s,H₀:=H,env:=compEnvC scope cl C X.env,outer:=X.stack,ex:=ex,fn:=fun _=>false,pn:=[],xe:=fun _ _=>False }
section
theorem Dd (I:L2.Inv X ai σ H s)(hkind:scope.kind=.function)(hcell:∀ y∈scope.names,y.2≠.cell)(hcl:∀ y c,cl.lookup y=some c->X.env.cells.lookup y=some c)(hhas:∀ x∈scope.names,x.2=.free->∃ c,cl.lookup x.1=some c)
 (hC:s.heap.objs.size<=C) (hex:∀ b∈ex,iF X ai H b/\b<s.heap.objs.size):(bH X scope N cl C s H ex).Ok where
 mod:=I.ok.mod
 kind:=hkind
 glob:=I.ok.glob
 blt:=I.ok.blt
 above:=hC
 inj:=fun x y c h1 h2=>I.ok.inj x y c (hcl x c h1) (hcl y c h2)
 has:=fun y hy=>by
  have key:∀ k,(relabel scope X.env).names.lookup y=some k->(k=.cell\/k=.free)->∃ c,cl.lookup y=some c:=fun k e hk=>by
   rw[gZ]at e;cases q:scope.names.lookup y with
   |none=>rw[q]at e;cases e
   |some k0=>
    have hm:=QT q;have h0:=hcell _ hm;have hf:k0=.free:=by
     rw[q]at e;simp only[Option.map_some,Option.some.injEq]at e;split at e
     .rename_i z;simp only[QP,Sv]at z;exact z.1.1
     .rcases hk with hk|hk
      .exact absurd (e.trans hk) h0
      .exact e.trans hk
    exact hhas _ hm hf
  rcases hy with hy|hy
  .exact key _ hy (.inl rfl)
  .exact key _ hy (.inr rfl)
 HQ:=fun _ _ h=>by cases h
 hd:=I.ok.hd
 frames:=I.ok.frames
 stk:=.inl rfl
 MS:=fun b hb=>⟨Pt (PJ (hex b hb).2 hC),fun x c e=>(hex b hb).1.2.2.2.2.1 x c (hcl x c e)⟩
 bs:=fun b o e=>I.bs b o e
 Cp:=Pu I.ok.Cp I.sz
 yk:=fun b o e hb=>by
  rcases (hex b hb).1.2.2.2.1 with z|z
  .exact I.ok.yk b o e z
  .exact absurd (PJ (Pa e) (Pu I.ok.Cp z)) (QV _)
 BO:=fun b hb hfs=>by
  rcases O8.mp (I.nh b hfs) with z|z
  .exact(hex b hb).1.2.1 z
  .exact(hex b hb).1.2.2.1 z
 kE:=I.stack
 Fd:=I.qr
 kt:=I.kt
structure KD (X:Cx) (scope:Scope) (capN:List Str) (caps:List Nat):Prop where
 at':∀(k:Nat)(y:Str),capN[k]?=some y->∃ j:Nat,caps[k]?=some j/\X.N[j]?=some y
 out:∀ y∈capN,X.env.kindOf y=some .cell\/X.env.kindOf y=some .free
 HU:∀ y∈capN,scope.names.lookup y=some .free
 len:caps.length=capN.length
noncomputable def jB (σ:St)(caps:List Nat):St:=caps.map fun j=>(σ[j]?).join
theorem zS (I:L2.Inv X ai σ H s)(hkind:scope.kind=.function)(hcell:∀ y∈scope.names,y.2≠.cell)(hcl:∀ y c,cl.lookup y=some c->X.env.cells.lookup y=some c)(hhas:∀ x∈scope.names,x.2=.free->∃ c,cl.lookup x.1=some c)
 (hC:s.heap.objs.size<=C) (hex:∀ b∈ex,iF X ai H b/\b<s.heap.objs.size) (hc:KD X scope capN caps) (kp:∀ b o,s.heap.get? b=some o->h4.get? b=some o) (ns:h4.Ns C m4) :
 L2.Inv (bH X scope (tN++capN) cl C s H ex) [] (List.replicate tN.length none++jB σ caps) H { s with heap:=h4,toks:=tk } where
 ok:=Dd I hkind hcell hcl hhas hC hex
 os:=rfl
 bare:=I.bare
 base:=Un.kept kp
 loc:=by
  refine⟨m4,ns,fun i y v e1 e2 e3=>?_⟩;by_cases hlt:i<tN.length
  .rw[Qf (by simpa using hlt),List.getElem?_replicate]at e2;rw[Pi hlt]at e2;cases e2
  .obtain⟨k,rfl⟩ : ∃ k,i=tN.length+k:=⟨i-tN.length,by lia⟩;have e1:capN[k]?=some y:=by
    have e1:(tN++capN)[tN.length+k]?=some y:=e1
    rwa [QQ (by lia),Sr]at e1
   have e2:(jB σ caps)[k]?=some (some v):=by
    rwa [QQ (by simp),SJ,Sr]at e2
   obtain⟨j,ej,eN⟩:=hc.at' k y e1;have e4:σ[j]?=some (some v):=by
    unfold jB at e2;rw[Pe,ej]at e2;have e2:(σ[j]?).join=some v:=by simpa using e2
    cases q:σ[j]? with
    |none=>rw[q]at e2;cases e2
    |some o=>rw[q]at e2;cases o with
     |none=>cases e2
     |some w=>cases e2;rfl
   have hm:=Px e1;obtain⟨m,hn,hl⟩:=I.loc;have hout:=hc.out y hm;obtain⟨u,r,l⟩:=hl j y v eN e4 (.inr hout);refine⟨u,r,.inr ⟨pI (hc.HU y hm),?_⟩⟩;obtain⟨c,hcl2⟩:=hhas (y,.free) (QT (hc.HU y hm)) rfl;refine⟨c,hcl2,?_⟩;rcases l with⟨l,_⟩|⟨_,c',e5,z⟩
   .rcases hout with h|h<;>(rw[h]at l;cases l)
   .have:=hcl y c hcl2;rw[e5]at this;cases this;obtain⟨o,ho,hd⟩:=z;exact⟨o,kp _ o ho,hd⟩
 cell:=fun y c e=>by obtain⟨v,o,ho,hd⟩:=I.cell y c (hcl y c e);exact⟨v,o,kp _ o ho,hd⟩
 free:=I.be.fresh hC
 gb:=fun y c e=>I.gb y c (hcl y c e)
 pin:=fun p hp=>absurd (show p∈([]:List (Addr×Obj)) from hp) (by simp)
 be:=I.be.kept kp
 len:=by simp[bH,jB,hc.len]
theorem wW (I:L2.Inv X ai σ H s)(hX:X'=bH X scope N cl C s H ex)(hC:s.heap.objs.size<=C)(hex:∀ b∈ex,iF X ai H b/\b<s.heap.objs.size)
 (I':L2.Inv X' pl σ' H' s'):L2.Inv X ai σ H' s'/\iF X ai H' C:=by
 subst hX;refine⟨I.Ky (ch:=ex) I'.os I'.base I'.be I'.bare fun b hb=>?_,I.qw hC I'.free⟩;obtain⟨_,h2,h3,h4,h5,h6⟩:=(hex b hb).1;exact⟨h4,h2,h5,h6⟩
theorem vB (I:L2.Inv X ai σ H s)(hf:iF X ai H C)(sb:Heap.SameBut C s.heap h'):L2.Inv X ai σ H { s with heap:=h' }:=I.turned (t':=s.toks) (it:=C) (fun b o hb e=>(sb.2 b hb).trans e) hf.1 hf.2.1 hf.2.2.2.1 hf.2.2.2.2.1 hf.2.2.2.2.2
end
section
def BV (X:Cx)(ifs:List Expr)(tt:TT):Prop:=∀(ai:List (Addr×Obj))(s:Tn)(σ:St)(H:Hp)(Q:Bool->Hp->Prop),L2.Inv X ai σ H s->tt σ H Q->
 wpAny (model X.prog X.w) X.A (forIn ifs true fun c r=>if r=true then do let ok <- isTrue c X.env (eval c X.env);pure (ForInStep.yield ok) else pure (ForInStep.yield r)) (TP X ai σ Q) X.xe s
theorem lh:BV X [] (fun _ H Q=>Q true H):=fun _ _ σ H Q I q=>wpAny_tests_nil ⟨H,I,q⟩
theorem lq (h:PT X c tt):BV X [c] tt:=fun ai s σ H Q I q=>wpAny_tests_one (h ai s σ H Q I q)
theorem wY (hX:X'=bH X scope (tN++capN) cl C s3 H3 fp)(T:Turn X.prog X.w X.K tg J fp it tn)(hcalm:X.calm=true)
 (I4:L2.Inv X' [] (List.replicate tN.length none++σc) H3 s4) (bL:X'.N.length=tN.length+σc.length) (st4:tn 0 s4.heap) (hf:∀ b∈fp,iF X' [] H3 b)
 (hg:PG X' tg gt) (ht:BV X' ifs tt) (he:PE X' elt te)
   (W:Nat->Nat->List V->Hp->Prop) (Fin:List V->Hp->Prop) (w0:∃ m,W 0 m [] H3)
   (turn:∀ i m acc H,W i m acc H->H Dl=some (.lst acc)/\((J.stop i H/\Fin acc H)\/(J.go i H/\∀ xv H' o,J.yB i H xv H'->o.length=tN.length->gt xv (o++σc) H' fun σ2 H1=>(∀ j:Nat,tN.length<=j->σ2[j]?=(o++σc)[j]?)/\tt σ2 H1 fun b H2=>if b=true then
     te σ2 H2 fun y H5=>H5 Dl=some (.lst acc)/\acc.length<sizeLine/\∃ m',m'<m/\W (i+1) m' (acc++[y]) (upd H5 Dl (.lst (acc++[y]))) else ∃ m',m'<m/\W (i+1) m' acc H2)))
   (R:Result->Tn->Prop) (hR:∀ σ' H' acc s',L2.Inv X' [] σ' H' s'->H' Dl=some (.lst acc)->Fin acc H'->R (.ok .next) s') :
   codeAny (model X.prog X.w) X.A (.compLoop (.ListComp elt [⟨tg,iter,ifs,0⟩] scope pos) 0 (.ref it) (.ref Dl) (compEnvC scope cl C X.env)) R s4:=by
  obtain⟨m0,w0⟩:=w0;have eA:X'.A=X.A:=by rw[hX];rfl
  have eP:X'.prog=X.prog:=by rw[hX];rfl
  have eW:X'.w=X.w:=by rw[hX];rfl
  have eK:X'.K=X.K:=by rw[hX];rfl
  have eE:X'.env=compEnvC scope cl C X.env:=by rw[hX];rfl
  have eX:X'.xe=fun _ _=>False:=by rw[hX];rfl
  have eC:X'.calm=true:=by rw[hX];exact hcalm
  have stat:∀{H':Hp},(∀ b∈fp,H' b=none)->∀ b∈fp,iF X' [] H' b:=fun hn b hb=>⟨hn b hb,(hf b hb).2⟩;refine codeAny_loop rfl (fun n s=>∃ i o acc H,L2.Inv X' [] (o++σc) H s/\o.length=tN.length/\tn i s.heap/\(∀ b∈fp,H b=none)/\W i n acc H) ?_ m0 ⟨0,List.replicate tN.length none,[],H3,I4,by simp,st4,fun b hb=>(hf b hb).1,w0⟩;rintro n s5 ⟨i,o,acc,H5,I5,lo,st5,fr5,w5⟩;show wpAny _ X.A ((compTurn (.ListComp elt [⟨tg,iter,ifs,0⟩] scope pos) 0 (.ref it) (.ref Dl) (compEnvC scope cl C X.env)).onRaise (fun x=>do noteFrame x (compEnvC scope cl C X.env);theTreesLotGoes x)) _ _ s5;refine wpAny_noted ?_;rw[compTurn_list];obtain⟨hD,alt⟩:=turn i n acc H5 w5;rcases alt with⟨stop,fin⟩|⟨go,step⟩
  .refine KE (wpAny_standAt (KE (QI (eA▸T.done X' eP eW eK eC i [] s5 _ H5 _ I5 (stat fr5) st5 stop) (fun r s6 ⟨hr,I6⟩=>?_) fun _ _ z=>z)));subst hr;exact OY (hR _ H5 acc s6 I6 hD fin)
  .refine KE (wpAny_standAt (KE (QI (eA▸T.item X' eP eW eK eC i [] s5 _ H5 _ I5 (stat fr5) st5 go) (fun r s6 ⟨u,hr,h6⟩=>?_) fun _ _ z=>z)));subst hr;refine KE (QI h6 (fun _ s7 ⟨xv,H7,I7,r7,y7,st7,fr7⟩=>?_) fun _ _ z=>z);have I7':=I7.pinned (stat fr7) (T.obj _ _ st7);have hg':=hg _ s7 _ H7 xv u _ I7' r7 (step xv H7 o y7 lo);rw[eP,eW,eA,eE,eX]at hg';refine KE (QI hg' (fun _ s8 ⟨σ8,H8,I8,shp,q8⟩=>?_) fun _ _ z=>z.elim);obtain⟨o2,lo2,eσ⟩ : ∃ o2:St,o2.length=tN.length/\σ8=o2++σc:=by
    have l8:σ8.length=tN.length+σc.length:=I8.len.trans bL;refine⟨σ8.take tN.length,by rw[Qi];lia,?_⟩;have ed:σ8.drop tN.length=σc:=by
     apply Tc
     intro j;rw[List.getElem?_drop,shp (tN.length+j) (by lia),QQ (by lia),lo,Sr]
    rw[<- ed,Re]
   subst eσ;have ht':=ht _ s8 _ H8 _ I8 q8;rw[eP,eW,eA,eE,eX]at ht';refine KE (QI ht' (fun ok s9 ⟨H9,I9,q9⟩=>?_) fun _ _ z=>z.elim);have again:∀{s':Tn}{H':Hp},L2.Inv X' ([]++lC fp s7.heap) (o2++σc) H' s'->L2.Inv X' [] (o2++σc) H' s'/\tn (i+1) s'.heap/\∀ b∈fp,H' b=none:=fun{s' H'} J'=>by refine⟨J'.jX,T.keep _ _ _ st7 fun b hb ob e=>(J'.pin (b,ob) (PL _ (PL _ (gd hb e)))).1,fun b hb=>?_⟩;obtain⟨ob,e,d⟩:=T.obj _ _ st7 b hb;exact(J'.pin (b,ob) (PL _ (PL _ (gd hb e)))).2.1
   cases ok with
   |false=>obtain⟨m',hm,w9⟩:=(show ∃ m',m'<n/\W (i+1) m' acc H9 from by simpa using q9);obtain⟨a1,a2,a3⟩:=again I9;exact OY ⟨rfl,m',hm,i+1,o2,acc,H9,a1,lo2,a2,a3,w9⟩
   |true=>
    have q9:te (o2++σc) H9 fun y H5=>H5 Dl=some (.lst acc)/\acc.length<sizeLine/\∃ m',m'<n/\W (i+1) m' (acc++[y]) (upd H5 Dl (.lst (acc++[y]))):=by simpa using q9
    have he':=he _ s9 _ H9 _ I9 q9;rw[eP,eW,eA,eE,eX]at he';refine KE (KE (QI he' (fun v s10 ⟨y,H10,I10,ry,eD,hl,m',hm,w10⟩=>?_) fun _ _ z=>z.elim));have hm':=bN (X:=X') _ s10 _ H10 (.ref Dl) [y] (.ref Dl) [v] (fun w H'=>w=.bJ/\H'=upd H10 Dl (.lst (acc++[y]))) I10 rfl (.cons ry .nil) ⟨Dl,acc,y,rfl,rfl,eD,hl,rfl,rfl⟩;rw[eP,eW,eA,eX]at hm';refine KE (QI hm' (fun _ s11 ⟨w,H11,I11,_,_,eH⟩=>?_) fun _ _ z=>z.elim);subst eH;obtain⟨a1,a2,a3⟩:=again I11;exact OY (OY ⟨rfl,m',hm,i+1,o2,acc++[y],_,a1,lo2,a2,a3,w10⟩)
end
structure cH (X:Cx) (scope:Scope) (tN:List Str) (capN:List Str) (caps:List Nat):Prop where
 kind:scope.kind=.function
 Fa:∀ y∈scope.names,y.2≠.cell
 names:∀ y∈scope.names,y.2=.local->scope.names.lookup y.1=some .local
 own:∀ x∈tN,scope.names.lookup x=some .local
 free:∀ y∈scope.names,y.2=.free->X.env.kindOf y.1=some .cell\/X.env.kindOf y.1=some .free
 cap:KD X scope capN caps
 nd:(tN++capN).Nodup
section
def c_ (X:Cx)(scope:Scope)(tg:Expr)(tN:List Str)(capN:List Str)(caps:List Nat)(elt:Expr)(ifs:List Expr)(σ:St)(Fin:Addr->List V->Hp->Prop)(J:It)(H2:Hp):Prop:=
 ∀(Dl:Addr),H2 Dl=none->∀(cl:List (Str×Addr))(C:Addr)(s3:Tn)(fp:List Addr),∃(gt:TG)(tt:TT)(te:TE)(W:Nat->Nat->List V->Hp->Prop),
  PG (bH X scope (tN++capN) cl C s3 (upd H2 Dl (.lst [])) fp) tg gt/\BV (bH X scope (tN++capN) cl C s3 (upd H2 Dl (.lst [])) fp) ifs tt/\PE (bH X scope (tN++capN) cl C s3 (upd H2 Dl (.lst [])) fp) elt te/\(∃ m,W 0 m [] (upd H2 Dl (.lst [])))/\
  ∀ i m acc H,W i m acc H->H Dl=some (.lst acc)/\((J.stop i H/\Fin Dl acc H)\/(J.go i H/\∀ xv H' (o:St),J.yB i H xv H'->o.length=tN.length->gt xv (o++jB σ caps) H' fun σ2 H1=>(∀ j:Nat,tN.length<=j->σ2[j]?=(o++jB σ caps)[j]?)/\tt σ2 H1 fun b H2=>if b=true then
   te σ2 H2 fun y H5=>H5 Dl=some (.lst acc)/\acc.length<sizeLine/\∃ m',m'<m/\W (i+1) m' (acc++[y]) (upd H5 Dl (.lst (acc++[y]))) else ∃ m',m'<m/\W (i+1) m' acc H2))
theorem oK {use:Option (Tq->Sem Unit)}{Qv:Tq->Tn->Prop}{Fin:Addr->List V->Hp->Prop}(hc:X.calm=true)(S:cH X scope tN capN caps)(I:L2.Inv X ai σ H s)(hi:PI X tg iter wi)
 (h:wi σ H (c_ X scope tg tN capN caps elt ifs σ Fin))
 (hu:∀(Dl C:Addr)(acc:List V)(H':Hp)(s':Tn),L2.Inv X ai σ H' s'->iF X ai H' C->H' Dl=some (.lst acc)->Fin Dl acc H'->(∃ m,s'.heap.Ns C m)->compPost (model X.prog X.w) X.A X.xe use Qv (.ref Dl) C (.ok .next) s')
 (hs:autoParam (∀ x,foldedSetIterable iter X.env x=pure x) Tw._auto_1) :
 wX X (comprehension (.ListComp elt [⟨tg,iter,ifs,0⟩] scope pos) scope X.env (firstIterPos [⟨tg,iter,ifs,0⟩] pos) (newList []) false (eval iter X.env) use) Qv X.xe s:=by
 obtain⟨cl,ecl,hcl,hhas⟩:=nI (scope:=scope) (env:=X.env) fun y hy hf=>I.ok.has y.1 (S.free y hy hf);refine wpAny_comprehension_free rfl hs ecl S.kind S.names (bX (hi ai s σ H _ I h) fun v s1 h1=>bX h1 fun itv s2 h2=>?_);obtain⟨it,fp,tn,J,H2,rfl,I2,T,st2,f2,goal⟩:=h2;refine Qc (wpAny_newFunctionEnv S.Fa (by intro y hy;simp at hy) (fun h₁ hns₁ hsb₁=>?_) S.kind);dsimp only at hns₁ hsb₁ ⊢;have hD:H2 s2.heap.objs.size=none:=I2.be.fresh (O0 _);have I3:L2.Inv X ai σ (upd H2 s2.heap.objs.size (.lst [])) { s2 with heap:=s2.heap.push { cls:=.type "list",dict:=none,data:=.seq ([]:List Tq).toArray } }:=I2.laid (t':=s2.toks) (fun b u e=>OZ _ e) (O0 _) ⟨Pq _,[],0,.nil,Pc _ rfl⟩;generalize hs3:({ s2 with heap:=s2.heap.push { cls:=.type "list",dict:=none,data:=.seq ([]:List Tq).toArray } }:Tn)=s3 at I3;have e3:s2.heap.push { cls:=.type "list",dict:=none,data:=.seq ([]:List Tq).toArray }=s3.heap:=by rw[<- hs3]
 rw[e3]at hns₁ hsb₁ ⊢;have kp:∀ b o,s3.heap.get? b=some o->h₁.get? b=some o:=fun b o e=>hsb₁.extBut b o (Pt (Pa e)) (OZ _ e);have k23:∀ b o,s2.heap.get? b=some o->s3.heap.get? b=some o:=fun b o e=>by rw[<- e3];exact OZ _ e
 have hex:∀ b∈fp,iF X ai (upd H2 s2.heap.objs.size (.lst [])) b/\b<s3.heap.objs.size:=fun b hb=>by obtain⟨o,ho,_⟩:=T.obj 0 _ st2 b hb;have hlt:b<s2.heap.objs.size:=Pa ho;refine⟨⟨?_,(f2 b hb).2⟩,Pa (k23 b o ho)⟩;rw[aA (Pt hlt)];exact(f2 b hb).1
 have es:({ s2 with heap:=h₁,toks:=s2.toks+([]:List (Str×Tq)).length }:Tn)={ s3 with heap:=h₁,toks:=s2.toks+([]:List (Str×Tq)).length }:=by rw[<- hs3]
 have I4:L2.Inv (bH X scope (tN++capN) cl s3.heap.objs.size s3 (upd H2 s2.heap.objs.size (.lst [])) fp) [] (List.replicate tN.length none++jB σ caps) (upd H2 s2.heap.objs.size (.lst [])) { s3 with heap:=h₁,toks:=s2.toks+([]:List (Str×Tq)).length }:=zS I3 S.kind S.Fa hcl hhas (O0 _) hex S.cap kp hns₁;obtain⟨gt,tt,te,W,hg,ht,he,w0,turn⟩:=goal s2.heap.objs.size hD cl s3.heap.objs.size s3 fp;have st4:tn 0 h₁:=T.keep 0 _ _ st2 fun b hb o e=>kp b o (k23 b o e);have f4:∀ b∈fp,iF (bH X scope (tN++capN) cl s3.heap.objs.size s3 (upd H2 s2.heap.objs.size (.lst [])) fp) [] (upd H2 s2.heap.objs.size (.lst [])) b:=fun b hb=>by
  obtain⟨f,hlt⟩:=hex b hb;refine⟨f.1,Pt hlt,fun hfs=>?_,.inl hb,fun y c e=>f.2.2.2.2.1 y c (hcl y c e),fun p hp=>absurd (show p∈([]:List (Addr×Obj)) from hp) (by simp)⟩;rcases O8.mp (I3.nh b hfs) with z|z
  .exact f.2.1 z
  .exact f.2.2.1 z
 have loop:codeAny (model X.prog X.w) X.A (.compLoop (.ListComp elt [⟨tg,iter,ifs,0⟩] scope pos) 0 (.ref it) (.ref s2.heap.objs.size) (compEnvC scope cl s3.heap.objs.size X.env)) (compPost (model X.prog X.w) X.A X.xe use Qv (.ref s2.heap.objs.size) s3.heap.objs.size)
  { s3 with heap:=h₁,toks:=s2.toks+([]:List (Str×Tq)).length }:=by
  refine wY rfl T hc I4 (by show(tN++capN).length=_;simp[jB,S.cap.len]) st4 f4 hg ht he W (Fin s2.heap.objs.size) w0 turn _ fun σ' H' acc s' I' hD' fin=>?_;obtain⟨Io,fo⟩:=wW I3 rfl (O0 _) hex I';obtain⟨m',hn',_⟩:=I'.loc;exact hu _ _ acc H' s' Io fo hD' fin ⟨m',hn'⟩
 rw[es];exact codeAny_compStart_list loop (T.self _ 0 _ _ _ st4 loop)
theorem zT (hc:X.calm=true)(S:cH X scope tN capN caps)(I:L2.Inv X ai σ H s)(hi:PI X tg iter wi)(h:wi σ H (c_ X scope tg tN capN caps elt ifs σ fun Dl _ H'=>Q (.ref Dl) H'))
 (hs:autoParam (∀ x,foldedSetIterable iter X.env x=pure x) Tw._auto_1):wX X (eval (.ListComp elt [⟨tg,iter,ifs,0⟩] scope pos) X.env) (EP X ai σ Q) X.xe s:=by
 rw[eval_ListComp];refine oK (use:=none) hc S I hi h (fun Dl C acc H' s' Io fo hD fin hn=>?_) hs;obtain⟨m,hn⟩:=hn;exact⟨m,hn,fun h' sb=>⟨.ref Dl,H',vB Io fo sb,rfl,fin⟩⟩
theorem zV {D:Ends}{i:Nat}(hc:X.calm=true)(S:cH X scope tN capN caps)(hN:X.N.Nodup)(hi':X.N[i]?=some y)(hy:X.env.scope.names.lookup y=some .local)
 (hsw:swapsWith (.ListComp elt [⟨tg,iter,ifs,0⟩] scope pos) (some (.Name y py)) spos.line X.env=pure true) (I:L2.Inv X ai σ H s) (hi:PI X tg iter wi)
 (h:wi σ H (c_ X scope tg tN capN caps elt ifs σ fun Dl _ H'=>D.nx (σ.set i (some (.ref Dl))) H')) (hs:autoParam (∀ x,foldedSetIterable iter X.env x=pure x) Tw._auto_1) :
 wX X (exec (.Assign [.Name y py] (.ListComp elt [⟨tg,iter,ifs,0⟩] scope pos) spos) X.env) (SP X ai D) X.xe s:=by
 rw[exec_Assign_Name_used _ _ _ _ hsw];refine KE (wpAny_standAt (KE ?_));show wpAny _ X.A (do let _ <- comprehension (.ListComp elt [⟨tg,iter,ifs,0⟩] scope pos) scope X.env _ (newList []) false (eval iter X.env) (some (assign (.Name y py) X.env))) _ _ s;refine KE (QI (oK (use:=some (assign (.Name y py) X.env)) (Qv:=fun _ s'=>SP X ai D .next s') hc S I hi h (fun Dl C acc H' s' Io fo hD fin hn=>?_) hs) (fun _ s' hq=>OY (OY hq)) fun _ _ e=>e);obtain⟨m,hn⟩:=hn;show wpAny _ X.A (assign (.Name y py) X.env (.ref Dl)) _ _ _;refine wpAny_assign_Name (n5 (v:=.ref Dl) Io hN hi' (.inl hy) rfl (fun s'' I'' ⟨a,sb,ha⟩=>?_) (.inr hy));have nca:C≠a:=by
  rcases ha with z|z
  .rw[z];exact fo.2.1
  .exact Qn (fo.2.2.2.2.1 y a z)
 refine⟨m,hn.sameBut sb nca,fun h' sb'=>?_⟩;exact⟨_,H',vB I'' fo sb',fin⟩
end
noncomputable def Res.Ny {α:Type}:Res α->Res α
 | .exc _=>.stuck
 |r=>r
def Lw (env:En)(j:Nat):Option Sl:=match env[j]? with
 |some (some (.val d fr))=>some (.val d fr)
 |some (some (.own ds fr))=>some (.val (.lst ds) fr)
 |some (some (.ML d))=>some (.val d true)
 |_=>none
def IE (env:En)(n:Nat)(caps:List Nat):En:=List.replicate n none++caps.map (Lw env)
def vC (mk:D->Option En)(test:En->Res Bool)(elt:En->Res R):List D->Res (List R)
 | []=>.ok []
 |x::xs=>match mk x with
  |none=>.stuck
  |some e=>(test e).bind fun b=>if b then (elt e).bind fun r=>(vC mk test elt xs).bind fun rs=>.ok (r::rs) else vC mk test elt xs
def IF (n:Nat)(caps:List Nat)(src:En->Res Src)(asg:D->Bool->En->Option En)(test:En->Res Bool)(elt:En->Res R):En->Res R:=fun env=>(src env).bind fun s=>if s.xs.length<=lim then
 (vC (fun d=>asg d s.fr (IE env n caps)) test elt s.xs).Ny.bind fun rs=>.ok (M4 (rs.map R.d) (IC rs) (s.al++caps.filter (EO env))) else .stuck
noncomputable def oM (X:Cx)(scope:Scope)(tg:Expr)(tN:List Str)(capN:List Str)(caps:List Nat)(elt:Expr)(ifs:List Expr)(wi:TI):TE:=fun σ H Q=>wi σ H (c_ X scope tg tN capN caps elt ifs σ fun Dl _ H'=>Q (.ref Dl) H')
def zW (N:List Str)(ds:List D):En:=ds.map (fun d=>some (.val d false))++List.replicate (N.length-ds.length) none
def IG:Res Fl->Res R
 | .ok (.nx _)=>.ok (.val .bJ true [])
 | .ok (.rt r)=>.ok r
 | .ok _=>.stuck
 | .exc c=>.exc c
 | .stuck=>.stuck
def Lx (N:List Str)(FB:En->Res Fl)(ds:List D):Res R:=IG (FB (zW N ds))
theorem IH:fF fV X E:=fun _ _ _ _ _ _ _ h=>h.elim
section
theorem Dg:Ii X (fun x lo hi H Q=>∃ a xs,x=.ref a/\SqT X.K H a xs/\(HT.sIx xs.length 0 lo=0/\HT.sIx xs.length xs.length hi=xs.length)/\Q x H):=by
 intro ai s σ H x v vl vu lo hi sl Q I rx hs pl pu h;obtain⟨a,xs,rfl,hx,hw,q⟩:=h;cases rx;obtain⟨its,r,ht,hz⟩:=I.tuple hx;have bL:its.toArray.size=xs.length:=by rw[O7];exact r.length.symm
 refine⟨"tuple",_,Ql.lookup,ht.typeIs,?_⟩;obtain⟨os,hos,hcs,hds⟩:=id hs;have hTs:s.TypeIs (.ref sl) "slice":=⟨os,hos,hcs⟩;unfold getItem
 try with_reducible refine Qd ?_
 first|refine KE (OY ?_)|skip
 refine KE (wpAny_sequenceKey ht.typeIs (by decide) ?_);refine KE (QN (name:=Str.ofString "__getitem__") ht.typeIs Ql
  (Qj Ql ht.typeIs entry_tuple_getitem ?_ (args_tuple_getitem _ _)))
 show wpAny _ _ (Builtin.Tuple.tupleItemsOf (.ref a) >>= _) _ _ s;refine KE (tupleItemsOf_ ht ?_);refine KE (RJ hTs ?_);rw[Pi (by decide)];refine KE (HT.sliceApplied_gen hs pl pu ?_);have hyes:((((HT.sIx its.toArray.size 0 lo:Nat):Int)==0&&(1:Int)==1&&(HT.sIx its.toArray.size its.toArray.size hi-HT.sIx its.toArray.size 0 lo)==its.toArray.size)=true):=by rw[bL,hw.1,hw.2];simp
 show wpAny _ _ (if (((HT.sIx its.toArray.size 0 lo:Nat):Int)==0&&(1:Int)==1&&(HT.sIx its.toArray.size its.toArray.size hi-HT.sIx its.toArray.size 0 lo)==its.toArray.size)=true then _ else _) _ _ s;rw[Pi hyes];have fin:EP X ai σ Q (.ref a) s:=⟨.ref a,H,I,rfl,q⟩;refine KE (m:=Builtin.Tuple.tupleIsExact (.ref a)) ?_;unfold Builtin.Tuple.tupleIsExact;refine KE (RJ ht.typeIs ?_);refine OY ?_;rw[Pi (by decide)];exact KE (Sz (OY ⟨_,rfl,OY fin⟩))
end
section
def wZ {α:Type}(xs:List α)(lo hi:Option Int):List α:=(xs.drop (HT.sIx xs.length 0 lo)).take (HT.sIx xs.length xs.length hi-HT.sIx xs.length 0 lo)
theorem IsAll.cut (h:IsAll H m ds vs)(lo hi:Option Int):IsAll H m (wZ ds lo hi) (cS vs lo hi):=by unfold wZ cS;rw[h.length];exact(h.drop _).take _
noncomputable def D.ty:D->String
 | .bJ=>"NoneType" | .bl _=>"bool" | .int _=>"int" | .str _=>"str" | .tup _=>"tuple" | .lst _=>"list" | .nX _ _=>"dict"
def Ly (K:To) (H:Hp) (x:V) (t:Tq):Prop:=kD K H x t\/(t=.type "dict"/\∃ a,x=.ref a/\Ip H a)
def M5 (T:String)(d:D):Bool:=match d with
 | .bJ=>T=="NoneType"
 | .bl _=>T=="bool" || T=="int"
 | .int _=>T=="int"
 | .str _=>T=="str"
 | .tup _=>T=="tuple"
 | .lst _=>T=="list"
 | .nX _ _=>T=="dict"
def Dh (T:String):Prop:=∀(K:To)(d:D),PySem.W.kitOne K (.type d.ty) (.type T)=some (M5 T d)
theorem zX:Dh "int":=fun K d=>by cases d<;>kernel_rfl
theorem w8:Dh "bool":=fun K d=>by cases d<;>kernel_rfl
theorem w_:Dh "list":=fun K d=>by cases d<;>kernel_rfl
theorem zY:cm X (.builtin "isinstance") (fun xs H Q=>∃ x T t b,xs=[x,.ty T]/\Ly X.K H x t/\PySem.W.kitOne X.K t (.type T)=some b/\Q (.bl b) H):=by
 intro ai s σ H xs us Q I r h;obtain⟨x,T,t,b,rfl,ty,e,q⟩:=h;obtain⟨u,c,rfl,ru,rc⟩:=u5 r;obtain rfl:c=Value.type T:=rc;rcases ty with ty|⟨rfl,a,rfl,hd⟩
 .exact wq I ru ty e fun tk=>⟨.bl b,H,I.tok tk,rfl,q⟩
 .obtain rfl:u=Value.ref a:=ru;obtain⟨t1,_⟩:=pd I hd;exact Qw S9 I.kC t1 e (fun z=>nomatch z) fun tk=>⟨.bl b,H,I.tok tk,rfl,q⟩
end
section
theorem xa (hc:X.calm=true):cm X (.builtin "all") (fun xs H Q=>∃(p:Addr)(vs:List V)(bs:List Bool),xs=[.ref p]/\SqL X.K H p vs/\vs=bs.map V.bl/\Q (.bl (bs.all id)) H):=by
 intro ai s σ H xs us Q I r h;obtain⟨p,vs,bs,rfl,hq,rfl,q⟩:=h;obtain⟨u,rfl,rx⟩:=eZ r;cases rx;obtain⟨its,rv,pl,hz⟩:=I.list hq;have hh:X.A.in1.handled=none:=I.ok.hd hc;obtain⟨o,ho,_⟩:=pl.isList;have hlt:p<s.heap.objs.size:=Pa ho;refine call_all_walk (RO pl.isList ?_);refine⟨s.heap.objs.size,_,_,_,_,_,fun i=>(bs[i]?).getD true,rfl,Walks.list hh s.heap.objs.size p (Pt hlt) its.toArray,⟨⟨_,Pc _ rfl,rfl,rfl⟩,?_⟩,?_,fun h' tk hk=>?_⟩
 .exact pl.isList.at fun o e=>OZ _ e
 .intro i v s' Q' E' hv hQ';have hv:its[i]?=some v:=by simpa using hv
  have hi:i<its.length:=(O3.mp hv).1;have hl:=rv.length;have hb:i<bs.length:=by simpa using (by rw[O2]at hl;lia:i<bs.length)
  obtain⟨u',hu,ru⟩:=rv.get (i:=i) (x:=.bl bs[i]) (by simp[hb]);rw[hv]at hu;cases hu;cases ru;have eb:bs[i]?=some bs[i]:=by simp[hb]
  dsimp only at hQ';rw[eb]at hQ';exact Qr hQ'
 .have hl:=rv.length;rw[O2]at hl;have e:((List.range its.toArray.size).all fun i=>(bs[i]?).getD true)=bs.all id:=by
   rw[O7,<- hl];rw[RI,Rx,Rx];constructor
   .intro h b hb;obtain⟨i,hi⟩:=Pj.mp hb;have:=h i (by simp;exact(O3.mp hi).1);rw[hi]at this;exact this
   .intro h i hi;have hi:i<bs.length:=by simpa using hi
    have eb:bs[i]?=some bs[i]:=by simp[hi]
    rw[eb];exact h _ (SO hi)
  rw[e];refine⟨.bl _,H,?_,rfl,q⟩;have I1:L2.Inv X ai σ H { s with heap:=s.heap.push { cls:=.type "list_iterator",data:=.fields #[.ref p,.int 0 0] } }:=I.kept (t':=s.toks) fun b o e=>OZ _ e;have fo:=I.qw (H':=H) (O0 s.heap.objs.size) (I.be.fresh (O0 _));exact I1.turned (t':=tk) (it:=s.heap.objs.size) (fun b o hb e=>hk b o (by simpa using hb) e) fo.1 fo.2.1 fo.2.2.2.1 fo.2.2.2.2.1 fo.2.2.2.2.2
end
def KQ (K:To)(a:Addr):It:=⟨fun i H=>∃ xs x,SqL K H a xs/\xs[i]?=some x,fun i H y H'=>∃ p x,H p=none/\y=.ref p/\H'=upd H p (.tup [.int (i:Nat),x])/\∀ xs,SqL K H a xs->xs[i]?=some x,fun i H=>∃ xs,SqL K H a xs/\xs.length<=i⟩
theorem xb {P:Tp}{w:World}{K:To}(a it e:Addr)(hei:e≠it):Turn P w K (.Tuple es k pos) (KQ K a) [e,it] e (fun i h=>(∃ old,IsEnum h e it i old)/\h.IsListIter it a i) where
 mem:=by simp
 obj:=fun i h st b hb=>by
  obtain⟨⟨old,he⟩,o,ho,c,d⟩:=st;rcases O8.mp hb with rfl|hb
  .exact⟨_,he,fun v z=>by cases z⟩
  .have:b=it:=by simpa using hb
   subst this;exact⟨o,ho,fun v z=>by rw[d]at z;cases z⟩
 keep:=fun i h h' st kk=>by obtain⟨⟨old,he⟩,hl⟩:=st;exact⟨⟨old,kk e (by simp) _ he⟩,hl.at fun o q=>kk it (by simp) o q⟩
 item:=by
  intro X hP hw hK hc i ai s σ H E I hf st hg;subst hP hw hK;obtain⟨xs,x,hq,hx⟩:=hg;obtain⟨⟨old,he⟩,hl⟩:=st;obtain⟨its,rv,p,hz⟩:=I.list hq;obtain⟨u,hu,ru⟩:=rv.get hx;have fe:=hf e (by simp);have fi:=hf it (by simp);have hai:a≠it:=by intro z;obtain⟨o1,e1,c1,_⟩:=p.isList;obtain⟨o2,e2,c2,_⟩:=hl;rw[z,e2]at e1;cases e1;rw[c2]at c1;injection c1 with z;exact absurd z (by decide)
  have hae:a≠e:=by intro z;obtain⟨o1,e1,c1,_⟩:=p.isList;rw[z,he]at e1;cases e1;injection c1 with z;exact absurd z (by decide)
  have hh:X.A.in1.handled=none:=I.ok.hd hc;have hil:i<its.length:=(O3.mp hu).1;refine wpAny_pyNext_enum_itemD (Draws.list hh it a hai its.toArray) he ⟨hl,p.isList⟩ (by simpa using hil) hei (by simp;exact⟨hei,Qn hae⟩) fun x' h' tk hx' ho hs' hT hsz hk=>?_;have ex:x'=u:=by
   have:its[i]?=some x':=by simpa using hx'
   rw[hu]at this;exact(Ps this).symm
  subst ex;refine⟨_,rfl,wpAny_letOwnedTupleGo_enum ho fun h'' he'' hs''=>?_⟩;have keep2:∀ b o,b≠e->b≠it->s.heap.get? b=some o->h''.get? b=some o:=fun b o n1 n2 q=>(hs''.2 b n1).trans (hk b o n1 n2 q);have hTe:s.heap.objs.size≠e:=RH (Pa he);have hT'':h''.get? s.heap.objs.size=some { cls:=.type "tuple",data:=.seq #[.int i tk,x'] }:=(hs''.2 _ hTe).trans hT;have I1:L2.Inv X ai σ (upd H s.heap.objs.size (.tup [.int (i:Nat),x])) { s with heap:=h'',toks:=tk+1 }:=by
   refine I.step (g':=s.gens) (d':=s.drawn) (ch:=[e,it]) (fun b hb=>?_) (fun b o _ _ hn q _=>keep2 b o (fun z=>hn (by simp[z])) (fun z=>hn (by simp[z])) q)
    (fun b o _ _ hn q _=>⟨o.slots,keep2 b o (fun z=>hn (by simp[z])) (fun z=>hn (by simp[z])) q⟩) (fun b o _ q hH=>by rw[aA (Pt (Pa q))];exact hH)
    (fun b o hn q=>⟨o,keep2 b o (fun z=>hn (by simp[z])) (fun z=>hn (by simp[z])) q⟩) (fun b ys q=>by rw[aA (aB q (I.be.fresh (O0 _)))];exact q)
    (fun b o' u' q=>by rw[aA (aB q (I.be.fresh (O0 _)))];exact q) (fun b ps q=>⟨#[],by rw[aA (aB q (I.be.fresh (O0 _)))];simp[q]⟩) (fun m hm=>?_) (fun b u' q=>?_) I.bare
   .rcases O8.mp hb with rfl|hb
    .exact⟨fe.2.2.2.1,fe.2.1,fe.2.2.2.2.1,fe.2.2.2.2.2⟩
    .have:b=it:=by simpa using hb
     subst this;exact⟨fi.2.2.2.1,fi.2.1,fi.2.2.2.2.1,fi.2.2.2.2.2⟩
   .obtain⟨o,es',ep,ho',r⟩:=hm;exact⟨o,es',ep,keep2 _ o (Qn fe.2.1) (Qn fi.2.1) ho',r⟩
   .by_cases hb:b=s.heap.objs.size
    .subst hb;rw[aj]at q;cases q;refine⟨by show 2<=sizeLine;decide,[.int i tk,x'],.cons ⟨tk,rfl⟩ (.cons ru .nil),⟨_,hT'',rfl,0,rfl⟩⟩
    .rw[aA hb]at q;refine(I.be b u' q).stay (fun c v hc' q'=>keep2 c v ?_ ?_ q') (fun c r=>by rw[aA (aB r (I.be.fresh (O0 _)))];exact r) fun c ys r=>by rw[aA (aB r (I.be.fresh (O0 _)))];exact r
     .rcases hc' with z|z
      .rw[z];exact aB q fe.1
      .exact aB z fe.1
     .rcases hc' with z|z
      .rw[z];exact aB q fi.1
      .exact aB z fi.1
  refine⟨.ref s.heap.objs.size,_,I1,rfl,⟨_,x,I.be.fresh (O0 _),rfl,rfl,fun ys hy=>by rw[I.m_ hy hq];exact hx⟩,⟨⟨_,by simpa using he''⟩,?_⟩,fun b hb=>?_⟩
  .obtain⟨o,q,r⟩:=hs'.1;exact⟨o,(hs''.2 it (Qn hei)).trans q,r⟩
  .rcases O8.mp hb with rfl|hb
   .rw[aA (Pt (Pa he))];exact fe.1
   .have:b=it:=by simpa using hb
    subst this;obtain⟨o,q,_⟩:=hl;rw[aA (Pt (Pa q))];exact fi.1
 done:=by
  intro X hP hw hK hc i ai s σ H E I hf st hg;subst hP hw hK;obtain⟨xs,hq,hx⟩:=hg;obtain⟨⟨old,he⟩,hl⟩:=st;obtain⟨its,rv,p,hz⟩:=I.list hq;have fi:=hf it (by simp);have hai:a≠it:=by intro z;obtain⟨o1,e1,c1,_⟩:=p.isList;obtain⟨o2,e2,c2,_⟩:=hl;rw[z,e2]at e1;cases e1;rw[c2]at c1;injection c1 with z;exact absurd z (by decide)
  have hh:X.A.in1.handled=none:=I.ok.hd hc;have hln:=rv.length;have Dr:Draws X.prog X.w X.A.in1 it [it,a] 0 (fun _ _=>True) (fun _ h=>h.IsListIter it a i/\h.IsList a its.toArray):=
   { live:=fun _ _ st=>let ⟨o,ho,_⟩:=st.1;⟨o,ho⟩
     frame:=fun _ _ _ st hk=>⟨st.1.at fun o e=>hk it (by simp) o e,st.2.at fun o e=>hk a (by simp) o e⟩
     item:=fun i s Q E hi=>absurd hi (by lia)
     done:=fun s Q E st hE=>wpAny_nextOf_list_end hh st.1 st.2 (by simp;lia) hE }
  exact wpAny_pyNext_enum_endD Dr he ⟨hl,p.isList⟩ fun h' eb=>⟨rfl,I.turned (t':=s.toks) (fun b o hb e=>eb b o hb e) fi.1 fi.2.1 fi.2.2.2.1 fi.2.2.2.2.1 fi.2.2.2.2.2⟩
 self:=fun A i s Q E st h=>by obtain⟨⟨old,he⟩,_⟩:=st;exact wpAny_pyIter_enum he h
section
def vD (K:To)(ta:TA):TI:=fun σ H R=>ta σ H fun vs H1=>∃ a xs,vs=[.ref a]/\SqL K H1 a xs/\R (KQ K a) H1
theorem vE {l:Expr} (hg:Gl X "enumerate") (hm:X.mg "enumerate"=none) (ha:PA X [l] ta) (hs:autoParam (starEach [l] X.env=[(false,eval l X.env)]) TB._auto_1):PI X (.Tuple es k Bw) (.Call (.Name "enumerate" p) [l] [] pos) (vD X.K ta):=by
 intro ai s σ H R I h;refine Call_ (i5 I hg hm (by decide +kernel:bootBuiltins "enumerate"=some (.type "enumerate")) (Q9 (bX (ha pos ai s σ H _ I h) fun us s1 ⟨vs,H1,I1,r1,q1⟩=>?_) hs rfl));obtain⟨a,xs,e,hq,q⟩:=q1;subst e;cases r1 with
 |cons r rr=>
  cases rr;cases r;obtain⟨its,rv,pl,hz⟩:=I1.list hq;refine call_enumerate_list pl.isList fun h' he hl hsz kp=>?_;have I2:L2.Inv X ai σ H1 { s1 with heap:=h' }:=I1.kept (t':=s1.toks) kp;refine wpAny_pyIter_enum he ?_;refine⟨s1.heap.objs.size+1,[s1.heap.objs.size+1,s1.heap.objs.size],_,_,H1,rfl,I2,xb a s1.heap.objs.size (s1.heap.objs.size+1) (Nat.succ_ne_self _),⟨⟨_,by simpa using he⟩,hl⟩,fun b hb=>?_,q⟩;rcases O8.mp hb with rfl|hb
  .exact I1.qw (Te _) (I1.be.fresh (Te _))
  .have e:b=s1.heap.objs.size:=by simpa using hb
   subst e;exact I1.qw (O0 _) (I1.be.fresh (O0 _))
end
noncomputable def M6 (osc:Scope)(N:List Str)(scope:Scope)(tN capN:List Str)(caps:List Nat):Bool:=
 (scope.kind==.function)&&scope.names.all (fun y=>y.2 != .cell)&&scope.names.all (fun y=>y.2 != .local || scope.names.lookup y.1==some .local)&&tN.all (fun x=>scope.names.lookup x==some .local) &&
 scope.names.all (fun y=>y.2 != .free || (osc.names.lookup y.1==some .cell || osc.names.lookup y.1==some .free))&&(capN.zip caps).all (fun p=>N[p.2]?==some p.1)&&(caps.length==capN.length) &&
 capN.all (fun y=>osc.names.lookup y==some .cell || osc.names.lookup y==some .free)&&capN.all (fun y=>scope.names.lookup y==some .free)&&decide (tN++capN).Nodup
theorem cH.of (h1:X.env.scope=osc)(h2:X.N=N)(h3:M6 osc N scope tN capN caps=true):cH X scope tN capN caps:=by
 unfold M6 at h3;simp only[QP,Rx,Bool.or_eq_true,Sv,bne_iff_ne,decide_eq_true_eq,ne_eq]at h3;obtain⟨⟨⟨⟨⟨⟨⟨⟨⟨a1,a2⟩,a3⟩,a4⟩,a5⟩,a6⟩,a7⟩,a8⟩,a9⟩,a10⟩:=h3;subst h1 h2;refine⟨a1,a2,fun y hy hl=>(a3 y hy).resolve_left fun z=>z hl,a4,fun y hy hf=>(a5 y hy).resolve_left fun z=>z hf,⟨fun k y e=>?_,a8,a9,a7⟩,a10⟩;have hk:k<capN.length:=(O3.mp e).1;have hk2:k<caps.length:=by lia
 refine⟨caps[k],by simp[hk2],?_⟩;have hm:(y,caps[k])∈capN.zip caps:=by
  have:(capN.zip caps)[k]?=some (y,caps[k]):=by rw[R8];exact⟨e,by simp[hk2]⟩
  exact Px this
 exact a6 _ hm
structure Fn (K:To) (mg:Str->Option Tq) (x:Str) (st:Stmt) (ps:List Str) (f:Addr) (fd:FuncData):Prop where
 fu:Cb K x x st f fd
 bi:Binds K fd ps []
 gl:mg x=some (.ref f)
def KR (F:List D->Res R):Sp:=fun vs H Q _=>vs.length=1/\∃ ds Ma r,IsAll H Ma ds vs/\F ds=.ok r/\∀ v H',Same H H'->zR (M3 H Ma) H' v r->Q v H'
theorem mC:∀ ns:List Int,IsAll H m (ns.map D.int) (ns.map V.int)
 | []=>rfl
 |n::r=>⟨.int n,r.map V.int,rfl,rfl,mC r⟩
theorem F1 (hF:∀ ns:List Int,ns.length<=63->∃ f al,F [.lst (ns.map .int)]=.ok (.val (.bl true) f al))(H:Hp)(a:Addr)(ns:List Int)(hl:ns.length<=63)(hS:∃ o,H a=some (.cj o (.lst (ns.map V.int)))) :
 KR F [.ref a] H (fun v _=>v=.bl true) fun _ _ _=>False:=by
 obtain⟨f,al,e⟩:=hF ns hl;obtain⟨o,hS⟩:=hS;exact⟨rfl,[.lst (ns.map .int)],fun b=>b=a,_,⟨_,[],rfl,⟨a,ns.map V.int,rfl,.inr ⟨o,hS,rfl⟩,mC ns⟩,rfl⟩,e,fun v H' _ h=>h⟩
section
variable {P:Tp}{w:World}{K:To}{mg:Str->Option Tq}{base:Heap}
theorem bE.top (h:bE P w K mg base CX k f fd ps (pH mg 1 F)):bE P w K mg base CX k f fd ps (KR F):=h.imp fun vs H Q E ⟨hl,ds,Ma,r,is,e,q⟩=>⟨hl,ds,Ma,is,by rw[e];exact q⟩
end
theorem F2 (h:CM P w l H s (fun _ _ _=>False) e s'):False:=by obtain⟨_,_,_,_,_,_,_,_,_,_,_,_,_,_,_,z⟩:=h;exact z
section
open Classical in
def cF (H:Hp)(m:Addr->Prop)(x:D)(u:Tq):Bool:=decide (∃ d v,RelV v u/\Is H m d v/\j1 d x=true)
theorem oN (r:RelV v u)(h:Is H m d v):cF H m x u=j1 d x:=by
 unfold cF;cases q:j1 d x with
 |true=>exact @O_ _ (Classical.propDecidable _) ⟨d,v,r,h,q⟩
 |false=>refine @Pp _ (Classical.propDecidable _) fun⟨d',v',r',h',q'⟩=>?_;have e:=L2.RelV.inj r r';subst e;have e:=Is.inj h h';subst e;rw[q]at q';cases q'
theorem fY:∀{ds:List D}{vs:List V}{us:List Tq},IsAll H m ds vs->Vals vs us->us.any (cF H m x)=ds.any fun d=>j1 d x
 | [],_,_,h,r=>by cases h;cases r;rfl
 |d::ds,_,_,h,r=>by
  obtain⟨v,w,rfl,h1,h2⟩:=h;cases r with
  |cons r1 r2=>rw[RP,RP,oN r1 h1,fY h2 r2]
def rL (neg:Bool)(K:To):R2:=fun x y H Q=>∃ p ds vs d m m',y=.ref p/\(SqL K H p vs\/SqT K H p vs)/\IsAll H m ds vs/\Is H m' d x/\(D.cN ds<=50/\d.dep<=50)/\Q (.bl (if neg then !(ds.any fun e=>j1 e d) else ds.any fun e=>j1 e d)) H
theorem fZ (I:L2.Inv X ai σ H s)(hu:A.units+50<cLine)(hx:Is H m' d x)(hE:d.dep<=50)(rx:RelV x v) :
 ∀{ds:List D}{vs:List V}{us:List Tq},IsAll H m ds vs->Vals vs us->D.cN ds<=50->∀ u∈us,SeqAt.EqAt A s u v (cF H m d u)
 | [],_,_,h,r,_=>fun u hu=>by cases h;cases r;cases hu
 |e::ds,_,_,h,r,hd=>fun u hm=>by
  obtain⟨y,w,rfl,h1,h2⟩:=h;have hd':max e.dep (D.cN ds)<=50:=hd;cases r with
  |cons r1 r2=>
   rcases O8.mp hm with rfl|hm
   .rw[oN r1 h1];exact EN I.be 50 A hu (by lia) (by lia) (by lia) h1 hx r1 rx
   .exact fZ I hu hx hE rx h2 r2 (by lia) u hm
theorem uh (hu:X.A.units+64<cLine):jk X (compareOp .In) (rL false X.K):=by
 intro ai s σ H x y v u Q I rx ry h;obtain⟨p,ds,vs,d,m,m',rfl,hq,hi,hx,hd,q⟩:=h;cases ry;rcases hq with hq|hq
 .obtain⟨its,r,pl,hz⟩:=I.list hq;refine SeqAt.in_listAt (cF H m d) pl.isList (fun w hw=>fZ I (by grind) hx hd.2 rx hi r hd.1 w (by grind)) ⟨.bl _,H,I,rfl,?_⟩;rw[show its.toArray.any (cF H m d)=its.any (cF H m d) by simp,fY hi r];exact q
 .obtain⟨its,r,pl,hz⟩:=I.tuple hq;refine SeqAt.in_tupleAt (cF H m d) pl (fun w hw=>fZ I (by grind) hx hd.2 rx hi r hd.1 w (by grind)) ⟨.bl _,H,I,rfl,?_⟩;rw[show its.toArray.any (cF H m d)=its.any (cF H m d) by simp,fY hi r];exact q
theorem oO (hu:X.A.units+64<cLine):jk X (compareOp .NotIn) (rL true X.K):=by
 intro ai s σ H x y v u Q I rx ry h;obtain⟨p,ds,vs,d,m,m',rfl,hq,hi,hx,hd,q⟩:=h;cases ry;rcases hq with hq|hq
 .obtain⟨its,r,pl,hz⟩:=I.list hq;refine SeqAt.notIn_listAt (cF H m d) pl.isList (fun w hw=>fZ I (by grind) hx hd.2 rx hi r hd.1 w (by grind)) ⟨.bl _,H,I,rfl,?_⟩;rw[show its.toArray.any (cF H m d)=its.any (cF H m d) by simp,fY hi r];exact q
 .obtain⟨its,r,pl,hz⟩:=I.tuple hq;refine SeqAt.notIn_tupleAt (cF H m d) pl (fun w hw=>fZ I (by grind) hx hd.2 rx hi r hd.1 w (by grind)) ⟨.bl _,H,I,rfl,?_⟩;rw[show its.toArray.any (cF H m d)=its.any (cF H m d) by simp,fY hi r];exact q
end
end L3
namespace L2
open PySem PySem.Spec PySem.Calls PyProof.Rows
end L2
namespace L3
open PySem PySem.Spec PyProof.Rows L2
section
variable {X:Cx}
noncomputable def F3 (neg:Bool):R2:=fun x y H Q=>∃ a o,y=.ref a/\EI H a x o/\Q (.bl (if neg then !o.isSome else o.isSome)) H
theorem zZ (hu:X.A.units+64<cLine):jk X (compareOp .In) (F3 false):=by intro ai s σ H x y v u Q I rx ry h;obtain⟨a,o,rfl,g,q⟩:=h;cases ry;exact Ir (by lia) I g rx fun s' I'=>⟨.bl _,H,I',rfl,q⟩
end
def getD:List DK->List D->DK->Option D
 |k'::ks,d::ds,k=>if k'=k then some d else getD ks ds k
 |_,_,_=>none
theorem xc (t:TupsIn H vs its):∀ x∈its,H x.2=some (.tup ((iK x.1).map kV)):=by
 unfold TupsIn at t;induction t with
 |nil=>exact fun x hx=>nomatch hx
 |cons q _ ih=>
  intro x hx;rcases O8.mp hx with rfl|hx
  .exact q.2
  .exact ih x hx
noncomputable abbrev M7:=Int×Int×Int
noncomputable def dd (l:List Int)(x:Int):List Int:=if x∈l then l else l++[x]
def Lz (xs:List Int):List Int:=xs.foldl dd []
def g2 (ts:List M7)(x:Int):List Int:=Lz ((ts.filter fun t=>decide (t.1=x)).map (·.2.1))
theorem i9:∀(k:List Int),IsAll H m (k.map .int) (k.map .int)
 | []=>rfl
 |i::k=>⟨.int i,_,rfl,rfl,i9 k⟩
end L3
namespace L2
open PySem PySem.Spec PyProof.Rows
end L2
namespace L3
open PySem PySem.Spec PyProof.Rows L2
section
def vF (a b:Str):Prop:=0<b.length/\a.length<=100000/\(Txt.split a b).length<=100000/\(Builtin.Str.partsBetween a (Builtin.Str.occurrences a b 0 a.length (a.length+1)) b.length).length<=100000
instance (a b:Str):Decidable (vF a b):=by unfold vF;infer_instance
end
section
theorem gU {kvs:List (bC×V)}(h:cw kvs k=none):bU kvs k y=kvs++[(k,y)]:=by unfold bU;rw[fU,h,Pl (by simp)]
end
noncomputable abbrev IP:=Int×Int
noncomputable def dp (l:List IP)(x:IP):List IP:=if x∈l then l else l++[x]
def h1 (ts:List M7):List IP:=(ts.map fun t=>(t.1,t.2.1)).foldl dp []
end L3
namespace L2
open PySem PySem.Spec PySem.Calls PyProof.Rows
section
theorem xf:cm X (.builtin "len") (fun xs H Q=>∃(d:Addr)(kvs:List (bC×V))(u:HO),xs=[.ref d]/\(u=.dK kvs\/(u=.dT []/\kvs=[]))/\Rd H d u/\kvs.length<=sizeLine/\Q (.int kvs.length) H):=by
 intro ai s σ H xs us Q I r h;obtain⟨d,kvs,u,rfl,hu,hrd,hz,q⟩:=h;obtain⟨w,rfl,rx⟩:=eZ r;cases rx;have hx:=hrd.ok I.be;have key:(d==sysModules)=false/\∃ vs,KV kvs vs/\s.heap.DictOf (aV X.prog X.w) d vs:=by
  rcases hu with rfl|⟨rfl,rfl⟩
  .obtain⟨z,hd,vs,rel,dd⟩:=hx;exact⟨hd,vs,rel,dd⟩
  .obtain⟨hd,dd⟩:=pq hx;exact⟨hd,[],.nil,dd⟩
 obtain⟨hd,vs,rel,dd⟩:=key;refine call_len_dict hd dd (by rw[<- rel.length];rw[Pn]at hz;lia) ?_;exact⟨.int kvs.length,H,I.tok _,⟨_,by rw[rel.length]⟩,q⟩
end
end L2
namespace L3
open PySem PySem.Spec PyProof.Rows L2
theorem F4 {K KK:To}{mg:Str->Option Tq}{x:Str}{st:Stmt}{ps:List Str}{f:Addr}{oc:Tq}{od an:Option Addr}{osl:Array (Option Tq)}{kV doc pm cdv ct:Tq}(U:iL K KK)
 (l:K.lookup f=some ⟨oc,od,.func (PySem.W.fnOf x x (b7 st) (bO st) (aD st) .none kV doc pm an cdv ct),osl⟩) (c:PySem.W.codeIn K cdv x=true) (g:mg x=some (.ref f))
 (h:∀(kV doc pm:Tq)(an:Option Addr)(cdv ct:Tq)(us:List Tq),us.length=ps.length->bindArgs (PySem.W.fnOf x x (b7 st) (bO st) (aD st) .none kV doc pm an cdv ct) ⟨us,[]⟩=pure (ps.zip us)) :
 Fn KK mg x st ps f (PySem.W.fnOf x x (b7 st) (bO st) (aD st) .none kV doc pm an cdv ct):=
 have F:Cb KK x x st f _:=zc (U.look _ _ l (fun _ _ z=>nomatch z)) (U.code c) (U.keep l)
 ⟨F,F.binds h,g⟩
end L3
namespace Pz
section
variable {κ α:Type}[DecidableEq κ]
noncomputable abbrev MD (κ α:Type):=List (κ×List α)
def MD.get (d:MD κ α)(k:κ):List α:=((d.find? fun x=>decide (x.1=k)).map (·.2)).getD []
def MD.has (d:MD κ α)(k:κ):Bool:=d.any fun x=>decide (x.1=k)
def MD.app (d:MD κ α)(k:κ)(v:α):MD κ α:=if d.has k then d.map (fun x=>if x.1=k then (x.1,x.2++[v]) else x) else d++[(k,[v])]
def MD.drop (d:MD κ α)(k:κ):MD κ α:=d.filter fun x=>decide (x.1≠k)
def MD.flat (d:MD κ α):List α:=d.flatMap (·.2)
abbrev MD.keys (d:MD κ α):List κ:=d.map (·.1)
structure MD.Ok (d:MD κ α):Prop where
 nk:d.keys.Nodup
 ne:∀ x∈d,x.2≠[]
theorem db (x:κ×List α)(d:MD κ α)(k:κ):MD.get (x::d) k=if x.1=k then x.2 else MD.get d k:=by grind [MD.get]
theorem has_iff {d:MD κ α}{k:κ}:d.has k=true↔k∈d.keys:=by
 unfold MD.has
 grind
theorem z0 {d:MD κ α}{k:κ}(h:k∉d.keys):d.get k=[]:=by
 induction d with
 |nil=>rfl
 |cons x r ih=>grind [db]
theorem Di {d:MD κ α}(nd:d.keys.Nodup){k:κ}{l:List α}(h:(k,l)∈d):d.get k=l:=by
 induction d with
 |nil=>cases h
 |cons x r ih=>grind [db]
theorem pJ {d:MD κ α}{k:κ}{v:α}(h:v∈d.get k):(k,d.get k)∈d:=by
 induction d with
 |nil=>cases h
 |cons x r ih=>grind [db]
theorem pK {d:MD κ α}{k:κ}{v:α}(h:k∉d.keys):d.map (fun x=>if x.1=k then (x.1,x.2++[v]) else x)=d:=by induction d<;>grind
theorem z4 (d:MD κ α)(k:κ)(v:α):(d.app k v).keys=if k∈d.keys then d.keys else d.keys++[k]:=by
 unfold MD.app;by_cases h:k∈d.keys
 .rw[Pi (has_iff.mpr h),Pi h];unfold MD.keys;rw[QC];exact Qa fun x _=>by grind
 .rw[Pl (fun q=>h (has_iff.mp q)),Pl h];unfold MD.keys;rw[PX];rfl
theorem mE {d:MD κ α}(O:d.Ok)(k:κ)(v:α):(d.app k v).Ok:=by
 constructor
 .rw[z4];split
  .exact O.nk
  .rename_i h;exact Q8.mpr ⟨O.nk,by simp,fun a ha b hb e=>by grind⟩
 .intro x hx;unfold MD.app at hx;split at hx
  .obtain⟨y,hy,rfl⟩:=Pb.mp hx;split
   .simp
   .exact O.ne y hy
  .rcases Pf.mp hx with h|h
   .exact O.ne x h
   .rw[O9]at h;subst h;simp
theorem kX {d:MD κ α}{k:κ}{l:List α}(h:k∉d.keys):MD.get (d++[(k,l)]) k=l:=by
 grind [MD.get]
theorem nJ {d:MD κ α}{k k':κ}{l:List α}(h:k≠k'):MD.get (d++[(k,l)]) k'=d.get k':=by
 grind [MD.get]
theorem pL {d:MD κ α}{k:κ}{v:α}(h:k∈d.keys):MD.get (d.map (fun x=>if x.1=k then (x.1,x.2++[v]) else x)) k=d.get k++[v]:=by
 induction d with
 |nil=>cases h
 |cons x r ih=>
  rw[Ph,db,db];by_cases e:x.1=k
  .rw[Pi e,Pi (show x.1=k from e),Pi e]
  .rw[Pl e,Pl e,Pl e];rcases O8.mp h with q|q
   .exact(e q.symm).elim
   .exact ih q
theorem ui {d:MD κ α}{k k':κ}{v:α}(h:k≠k'):MD.get (d.map (fun x=>if x.1=k then (x.1,x.2++[v]) else x)) k'=d.get k':=by
 induction d with
 |nil=>rfl
 |cons x r ih=>grind [db]
theorem pM (d:MD κ α)(k:κ)(v:α)(k':κ):(d.app k v).get k'=if k=k' then d.get k++[v] else d.get k':=by
 unfold MD.app;by_cases h:k∈d.keys
 .rw[Pi (has_iff.mpr h)];by_cases e:k=k'
  .subst e;rw[Pi rfl,pL h]
  .rw[Pl e,ui e]
 .rw[Pl (fun q=>h (has_iff.mp q))];by_cases e:k=k'
  .subst e;rw[Pi rfl,kX h,z0 h];rfl
  .rw[Pl e,nJ e]
theorem ff {d:MD κ α}(nd:d.keys.Nodup)(k:κ)(v:α):(d.app k v).flat.Perm (v::d.flat):=by
 unfold MD.app;by_cases h:k∈d.keys
 .rw[Pi (has_iff.mpr h)];induction d with
  |nil=>cases h
  |cons x r ih=>
   have nd':=Qk.mp nd;unfold MD.flat at ih ⊢;rw[Ph,RR,RR];by_cases e:x.1=k
   .subst e;rw[Pi rfl,pK nd'.1];show((x.2++[v])++_).Perm _;rw[RQ];exact Tj
   .rw[Pl e];rcases O8.mp h with q|q
    .exact(e q.symm).elim
    .exact((Q7 _).append (ih nd'.2 q)).trans Tj
 .rw[Pl (fun q=>h (has_iff.mp q))];unfold MD.flat;rw[List.flatMap_append];show(_++([v]++[])).Perm _;rw[Rm];exact List.perm_append_singleton _ _
theorem xg (d:MD κ α)(k:κ):(d.drop k).keys=d.keys.filter fun x=>decide (x≠k):=by unfold MD.drop MD.keys;rw[List.filter_map];rfl
theorem vG {d:MD κ α}(O:d.Ok)(k:κ):(d.drop k).Ok:=⟨by rw[xg];exact List.Pairwise.filter _ O.nk,fun x hx=>O.ne x (P0.mp hx).1⟩
theorem xh {d:MD κ α}{k:κ}(h:k∉d.keys):d.drop k=d:=by induction d<;>grind [MD.drop]
theorem kd {d:MD κ α}(nd:d.keys.Nodup)(k:κ):d.flat.Perm (d.get k++(d.drop k).flat):=by
 induction d with
 |nil=>exact Q7 _
 |cons x r ih=>
  have nd':=Qk.mp nd;rw[db];by_cases e:x.1=k
  .subst e;rw[Pi rfl];have:MD.drop (x::r) x.1=r:=by grind [MD.drop,xh]
   rw[this];exact Q7 _
  .rw[Pl e];have:MD.drop (x::r) k=x::MD.drop r k:=by grind [MD.drop]
   rw[this];unfold MD.flat at ih ⊢;rw[RR,RR];refine((Q7 _).append (ih nd'.2)).trans ?_;rw[<- RQ,<- RQ];exact List.perm_append_comm.append_right _
theorem mem_flat {d:MD κ α}{v:α}:v∈d.flat↔∃ x∈d,v∈x.2:=List.mem_flatMap
theorem jC (d:MD κ α){k:κ}{v:α}(h:v∈d.get k):v∈d.flat:=mem_flat.mpr ⟨_,pJ h,h⟩
theorem lr (d:MD κ α)(k:κ):(d.get k).length<=d.flat.length:=by
 induction d with
 |nil=>exact O0 _
 |cons x r ih=>grind [db,MD.flat]
theorem gm {d:MD κ α}(O:d.Ok):d.length<=d.flat.length:=by
 have:∀ d:MD κ α,(∀ x∈d,x.2≠[])->d.length<=d.flat.length:=by
  intro d;induction d with
  |nil=>intro _;exact O0 _
  |cons x r ih=>
   intro h;have h1:=ih fun y hy=>h y (O4 _ hy);have h2:0<x.2.length:=SX.mpr (h x O5);unfold MD.flat at h1 ⊢
   grind
 exact this d O.ne
end
end Pz
namespace Pz
noncomputable def lo:List Int->Int
 | []=>0
 |x::r=>r.foldl (fun a b=>if b<a then b else a) x
theorem uj:∀(r:List Int)(x:Int),r.foldl (fun a b=>if b<a then b else a) x∈x::r/\∀ y∈x::r,r.foldl (fun a b=>if b<a then b else a) x<=y
 | [],x=>by grind
 |z::r,x=>by
  obtain⟨h1,h2⟩:=uj r (if z<x then z else x);rw[Rp];constructor
  .grind
  .intro y hy;have h3:=h2 _ O5
   grind
theorem z5 (h:l≠[]):lo l∈l:=by
 cases l with
 |nil=>exact(h rfl).elim
 |cons x r=>exact(uj r x).1
theorem z6 (h:y∈l):lo l<=y:=by
 cases l with
 |nil=>cases h
 |cons x r=>exact(uj r x).2 y h
structure ql (pile:Int->Int->Int):Prop where
 nn:∀{p l:Int},0<=p->0<=l->0<=pile p l
 ch:∀{p l:Int},0<=p->0<=l->∀ k:Nat,pile p l<=k↔p / 2 ^ k=l / 2 ^ k
section
variable (P:ql pile)
include P
theorem ql.zero (hp:0<=p)(hl:0<=l):pile p l=0↔p=l:=by
 have h1:=P.nn hp hl;have h2:=P.ch hp hl 0
 grind
theorem ql.lt (hl:0<=l)(hp:l<=p)(hr:l<=r)(h:pile p l<pile r l):p<r:=by
 have p0:0<=p:=Rg hl hp;have r0:0<=r:=Rg hl hr;obtain⟨k,hk⟩:=Qp (P.nn p0 hl);have e1:=(P.ch p0 hl k).mp (by lia);have e2:¬ r / 2 ^ k=l / 2 ^ k:=fun e=>by have:=(P.ch r0 hl k).mpr e;lia
 have pos:(0:Int)<2 ^ k:=Int.pow_pos (by decide);have e3:=Int.ediv_le_ediv pos hr;refine Int.not_le.mp fun hc=>?_;have e4:=Int.ediv_le_ediv pos hc;lia
theorem ql.same (hl:0<=l)(hm:l<=m)(hr:l<=r)(h:pile m l<pile r l):pile r m=pile r l:=by
 have m0:0<=m:=Rg hl hm;have r0:0<=r:=Rg hl hr;have key:∀ j:Nat,pile r m<=j↔pile r l<=j:=by
  intro j;rw[P.ch r0 m0,P.ch r0 hl];by_cases hj:pile m l<=j
  .rw[(P.ch m0 hl j).mp hj]
  .have hd:∀{a b:Int}{i:Nat},a / 2 ^ j=b / 2 ^ j->a / 2 ^ (j+i)=b / 2 ^ (j+i):=by intro a b i e;rw[Int.pow_add,<- Int.ediv_ediv_of_nonneg (Sg (Int.pow_pos (by decide))),<- Int.ediv_ediv_of_nonneg (Sg (Int.pow_pos (by decide))),e]
   obtain⟨k,hk⟩:=Qp (P.nn m0 hl);obtain⟨i,rfl⟩ : ∃ i,k=j+i:=⟨k-j,by lia⟩;constructor<;>intro e<;>exfalso
   .have e1:=hd (i:=i) e;rw[(P.ch m0 hl (j+i)).mp (by lia)]at e1;have:=(P.ch r0 hl (j+i)).mpr e1;lia
   .have:=(P.ch r0 hl j).mpr e;lia
 obtain⟨a,ha⟩:=Qp (P.nn r0 m0);obtain⟨b,hb⟩:=Qp (P.nn r0 hl);have h1:=key a;have h2:=key b;lia
end
section
variable {α:Type}
abbrev Q (α:Type):=MD Int (Int×α)
structure sS (pile:Int->Int->Int) (last:Int) (d:Q α):Prop where
 ok:d.Ok
 l0:0<=last
 at_:∀ x∈d,∀ y∈x.2,x.1=pile y.1 last/\last<=y.1
theorem sS.add (h:sS pile last d)(a:α)(hp:last<=p):sS pile last (d.app (pile p last) (p,a)):=by
 refine⟨mE h.ok _ _,h.l0,fun x hx y hy=>?_⟩;unfold MD.app at hx;split at hx
 .obtain⟨z,hz,rfl⟩:=Pb.mp hx;by_cases e:z.1=pile p last
  .rw[Pi e]at hy ⊢;rcases Pf.mp hy with hy|hy
   .exact h.at_ z hz y hy
   .rw[O9]at hy;subst hy;exact⟨e,hp⟩
  .rw[Pl e]at hy ⊢;exact h.at_ z hz y hy
 .rcases Pf.mp hx with hx|hx
  .exact h.at_ x hx y hy
  .grind
def cG (pile:Int->Int->Int)(last:Int)(d:Q α)(l:List (Int×α)):Q α:=l.foldl (fun d x=>d.app (pile x.1 last) x) d
theorem sS.cG:∀{l:List (Int×α)}{d:Q α},sS pile last d->(∀ x∈l,last<=x.1)->sS pile last (cG pile last d l)
 | [],d,h,_=>h
 |x::l,d,h,hl=>sS.cG (l:=l) (h.add x.2 (hl x O5)) fun y hy=>hl y (O4 _ hy)
theorem g5:∀{l:List (Int×α)}{d:Q α},d.Ok->(cG pile last d l).flat.Perm (l++d.flat)
 | [],d,h=>Q7 _
 |x::l,d,h=>(g5 (l:=l) (mE h _ _)).trans (((Q7 _).append (ff h.nk _ _)).trans Tj)
def cb (d:Q α):Int:=lo d.keys
def lowP (d:Q α):Int:=lo ((d.get (cb d)).map (·.1))
def mid (pile:Int->Int->Int)(d:Q α):Q α:=cG pile (lowP d) (d.drop (cb d)) (d.get (cb d))
def dc (pile:Int->Int->Int)(d:Q α):List (Int×α):=(mid pile d).get 0
def left (pile:Int->Int->Int)(d:Q α):Q α:=(mid pile d).drop 0
structure HF (pile:Int->Int->Int) (last:Int) (d:Q α):Prop where
 ge:last<=lowP d
 ok:sS pile (lowP d) (left pile d)
 eq:∀ x∈dc pile d,x.1=lowP d
 lt:∀ x∈(left pile d).flat,lowP d<x.1
 pm:d.flat.Perm (dc pile d++(left pile d).flat)
 ne:dc pile d≠[]
 k1:cb d∈d.keys
 k2:d.get (cb d)≠[]
 k3:0∈(mid pile d).keys
 o1:sS pile (lowP d) (d.drop (cb d))
theorem xj (P:ql pile)(h:sS pile last d)(hne:d≠[]):HF pile last d:=by
 have k1:cb d∈d.keys:=z5 (by simpa[MD.keys] using hne);obtain⟨x0,hx0,ex0⟩:=Pb.mp k1;have g0:d.get (cb d)=x0.2:=Di h.ok.nk (by grind);have k2:d.get (cb d)≠[]:=by rw[g0];exact h.ok.ne x0 hx0
 have hm:lowP d∈(d.get (cb d)).map (·.1):=z5 (by simpa using k2);obtain⟨y0,hy0,ey0⟩:=Pb.mp hm;have cA:∀ y∈d.get (cb d),cb d=pile y.1 last/\last<=y.1:=fun y hy=>by rw[g0]at hy;have:=h.at_ x0 hx0 y hy;rw[ex0]at this;exact this
 have hl:last<=lowP d:=by grind
 have l0:0<=lowP d:=Rg h.l0 hl;have kP:pile (lowP d) last=cb d:=by grind
 have minP:∀ y∈d.get (cb d),lowP d<=y.1:=fun y hy=>z6 (Pb.mpr ⟨y,hy,rfl⟩);have oth:∀ x∈d.drop (cb d),∀ y∈x.2,x.1=pile y.1 (lowP d)/\lowP d<y.1:=fun x hx y hy=>by
  obtain⟨hx,hn⟩:=P0.mp hx;have hn:x.1≠cb d:=PD hn;have hle:cb d<=x.1:=z6 (Pb.mpr ⟨x,hx,rfl⟩);obtain⟨e1,e2⟩:=h.at_ x hx y hy;have hlt:pile (lowP d) last<pile y.1 last:=by grind
  exact⟨e1.trans (P.same h.l0 hl e2 hlt).symm,P.lt h.l0 hl e2 hlt⟩
 have o1:sS pile (lowP d) (d.drop (cb d)):=⟨vG h.ok _,l0,fun x hx y hy=>⟨(oth x hx y hy).1,Sg (oth x hx y hy).2⟩⟩;have o2:sS pile (lowP d) (mid pile d):=o1.cG minP;have pm1:d.flat.Perm (mid pile d).flat:=(kd h.ok.nk _).trans (g5 o1.ok).symm;have pm2:(mid pile d).flat.Perm (dc pile d++(left pile d).flat):=kd o2.ok.nk 0;have eq:∀ x∈dc pile d,x.1=lowP d:=fun x hx=>by have:=o2.at_ _ (pJ hx) x hx;exact(P.zero (Rg l0 this.2) l0).mp this.1.symm
 have lt:∀ x∈(left pile d).flat,lowP d<x.1:=fun x hx=>by obtain⟨y,hy,hx⟩:=mem_flat.mp hx;obtain⟨hy,hn⟩:=P0.mp hy;have hn:y.1≠0:=PD hn;obtain⟨e1,e2⟩:=o2.at_ y hy x hx;have:¬ x.1=lowP d:=fun e=>hn (e1.trans ((P.zero (Rg l0 e2) l0).mpr e));lia
 have yin:y0∈dc pile d:=by
  have h1:y0∈d.flat:=jC d hy0
  grind
 exact⟨hl,⟨vG o2.ok _,l0,fun x hx=>o2.at_ x (P0.mp hx).1⟩,eq,lt,pm1.trans pm2,(fun e=>by grind),k1,k2,Pb.mpr ⟨_,pJ yin,rfl⟩,o1⟩
end
end Pz
namespace Pz
noncomputable abbrev Arr:=Int×Int×Int
noncomputable abbrev Rule:=Int×Int×Int×List Int
noncomputable abbrev nv:=Int×Option Int×Option Int
abbrev TD:=List (Arr×nv)
noncomputable def bK (t:TD)(a:Arr):Option nv:=(t.find? fun x=>decide (x.1=a)).map (·.2)
def tput (t:TD)(a:Arr)(v:nv):TD:=if (bK t a).isSome then t.map (fun x=>if x.1=a then (x.1,v) else x) else t++[(a,v)]
structure PS where
 told:TD
 last:Int
 aQ:Q Arr
 settled:MD (Int×Int) (Int×Int)
 aR:MD (Int×Int) (Int×Rule×Int)
abbrev RS:=MD (Int×Int) (Int×Rule)
section
variable (pile:Int->Int->Int)(rs:RS)
def f6 (S:PS)(a:Arr)(p:Int):Bool:=match bK S.told a with
 |none=>true
 |some v=>decide (p<v.1)
def g6 (S:PS)(a:Arr)(p:Int)(n m:Option Int):PS:={ S with told:=tput S.told a (p,n,m),aQ:=S.aQ.app (pile p S.last) (p,a) }
def bq (S:PS)(a:Arr)(p:Int)(n m:Option Int):PS:=if f6 S a p then g6 pile S a p n m else S
def nth1 (l:List Int):Int:=l[1]?.getD 0
def pN (S:PS)(num:Int)(r:Rule)(mid price:Int):PS:={ S with aR:=S.aR.app (mid,nth1 r.2.2.2) (num,r,price) }
def first (S:PS)(num:Int)(r:Rule)(mid price:Int):PS:=(S.settled.get (mid,nth1 r.2.2.2)).foldl (fun S x=>bq pile S (r.1,r.2.1,x.1) (price+x.2+1) (some num) (some mid)) (pN S num r mid price)
def note (S:PS)(a:Arr)(price:Int):PS:={ S with settled:=S.settled.app (a.1,a.2.1) (a.2.2,price) }
def kK (a:Arr)(price:Int)(S:PS)(x:Int×Rule×Int):PS:=bq pile S (x.2.1.1,x.2.1.2.1,a.2.2) (x.2.2+price+1) (some x.1) (some a.1)
def cv (a:Arr)(price:Int)(S:PS)(x:Int×Rule):PS:=if x.2.2.2.2.length=1 then bq pile S (x.2.1,x.2.2.1,a.2.2) (price+1) (some x.1) none else first pile S x.1 x.2 a.2.2 price
def settle (S:PS)(a:Arr)(price:Int):PS:=(rs.get (a.1,a.2.1)).foldl (cv pile a price) ((S.aR.get (a.1,a.2.1)).foldl (kK pile a price) (note S a price))
def F5 (S:PS)(x:Int×Arr):Bool:=match bK S.told x.2 with
 |none=>false
 |some v=>decide (v.1=x.1)
def turn (S:PS)(x:Int×Arr):PS:=if F5 S x then settle pile rs S x.2 x.1 else S
def batch (S:PS)(l:List (Int×Arr)):PS:=l.foldl (turn pile rs) S
def take (S:PS):PS:={ S with last:=lowP S.aQ,aQ:=left pile S.aQ }
end
noncomputable def L:Nat:=16000000
structure iZ (S:PS):Prop where
 t:S.told.length<L
 p:S.aQ.length<L
 pf:S.aQ.flat.length<L
 s:S.settled.length<L
 sf:S.settled.flat.length<L
 l:S.aR.length<L
 lf:S.aR.flat.length<L
inductive Loop (pile:Int->Int->Int) (rs:RS):Nat->PS->PS->Prop where
 |done {S:PS}:S.aQ=[]->Loop pile rs 0 S S
 |step {n:Nat} {S T:PS}:S.aQ≠[]->sS pile S.last S.aQ->(∀ x∈dc pile S.aQ,bK S.told x.2≠none)->iZ S->iZ (batch pile rs (take pile S) (dc pile S.aQ))->
  Loop pile rs n (batch pile rs (take pile S) (dc pile S.aQ)) T->Loop pile rs (n+1) S T
theorem cR (x:Arr×nv)(t:TD)(a:Arr):bK (x::t) a=if x.1=a then some x.2 else bK t a:=by grind [bK]
theorem tget_none:bK t a=none↔a∉t.map (·.1):=by
 induction t with
 |nil=>simp[bK]
 |cons x r ih=>grind [cR]
theorem dL (h:bK t a=some v):(a,v)∈t:=by
 induction t with
 |nil=>cases h
 |cons x r ih=>grind [cR]
theorem jD (nd:(t.map (·.1)).Nodup)(h:(a,v)∈t):bK t a=some v:=by
 induction t with
 |nil=>cases h
 |cons x r ih=>grind [cR]
theorem xk (t:TD)(a:Arr)(v:nv):(tput t a v).map (·.1)=if a∈t.map (·.1) then t.map (·.1) else t.map (·.1)++[a]:=by
 unfold tput;cases h:bK t a with
 |none=>rw[Pl (by simp),Pl (tget_none.mp h),PX];rfl
 |some w=>have:a∈t.map (·.1):=Pb.mpr ⟨_,dL h,rfl⟩;rw[Pi (by simp),Pi this,QC];exact Qa fun x _=>by grind
theorem Dj (h:(t.map (·.1)).Nodup)(a:Arr)(v:nv):((tput t a v).map (·.1)).Nodup:=by
 rw[xk];split
 .exact h
 .rename_i q;exact Q8.mpr ⟨h,by simp,fun x hx b hb e=>by rw[O9]at hb;subst hb;subst e;exact q hx⟩
theorem rM (t:TD)(a:Arr)(v:nv):t.length<=(tput t a v).length/\(tput t a v).length<=t.length+1:=by
 unfold tput;split
 .rw[O2];lia
 .rw[O6];simp
theorem f7 (t:TD)(a:Arr)(v:nv)(b:Arr):bK (tput t a v) b=if a=b then some v else bK t b:=by
 unfold tput;cases h:bK t a with
 |none=>
  rw[Pl (by simp)];have hn:=tget_none.mp h;clear h;induction t with
  |nil=>rw[List.nil_append,cR]
  |cons x r ih=>grind [cR]
 |some w=>
  rw[Pi (by simp)];have hm:a∈t.map (·.1):=Pb.mpr ⟨_,dL h,rfl⟩;clear h;by_cases e:a=b
  .subst e;rw[Pi rfl];induction t with
   |nil=>cases hm
   |cons x r ih=>grind [cR]
  .rw[Pl e];clear hm;induction t with
   |nil=>rfl
   |cons x r ih=>grind [cR]
structure eM (S T:PS):Prop where
 t:S.told.length<=T.told.length
 p:S.aQ.length<=T.aQ.length
 pf:S.aQ.flat.length<=T.aQ.flat.length
 s:S.settled.length<=T.settled.length
 sf:S.settled.flat.length<=T.settled.flat.length
 l:S.aR.length<=T.aR.length
 lf:S.aR.flat.length<=T.aR.flat.length
theorem eM.refl (S:PS):eM S S:=by
 grind [PS,eM]
theorem eM.trans (a:eM S T)(b:eM T U):eM S U:=⟨Pu a.t b.t,Pu a.p b.p,Pu a.pf b.pf,Pu a.s b.s,Pu a.sf b.sf,Pu a.l b.l,Pu a.lf b.lf⟩
theorem eM.fit (a:eM S T)(h:iZ T):iZ S:=⟨Qe a.t h.t,Qe a.p h.p,Qe a.pf h.pf,Qe a.s h.s,Qe a.sf h.sf,Qe a.l h.l,Qe a.lf h.lf⟩
theorem d5 {κ α:Type}[DecidableEq κ](d:MD κ α)(k:κ)(v:α):d.length<=(d.app k v).length/\d.flat.length<=(d.app k v).flat.length:=by
 unfold MD.app;split
 .rw[O2];refine⟨O0 _,?_⟩;unfold MD.flat;rw[List.length_flatMap,List.length_flatMap,QC];induction d with
  |nil=>exact O0 _
  |cons x r ih=>
   rename_i h;clear h;rw[Ph,Ph,Th,Th];refine Nat.add_le_add ?_ ?_
   .simp only[Function.comp];split<;>simp
   .clear ih;induction r with
    |nil=>exact O0 _
    |cons y r ih=>rw[Ph,Ph,Th,Th];exact Nat.add_le_add (by simp only[Function.comp];split<;>simp) ih
 .rw[O6];unfold MD.flat;rw[List.flatMap_append,O6];lia
theorem ck {β:Type}(f:PS->β->PS)(h:∀ S x,eM S (f S x)):∀(l:List β)(S:PS),eM S (l.foldl f S)
 | [],S=>.refl S
 |x::l,S=>(h S x).trans (ck f h l _)
theorem b9 (S:PS)(a:Arr)(p:Int)(n m:Option Int):eM S (bq pile S a p n m):=by
 unfold bq;split
 .exact⟨(rM _ _ _).1,(d5 _ _ _).1,(d5 _ _ _).2,O0 _,O0 _,O0 _,O0 _⟩
 .exact .refl S
theorem uk (S:PS)(num:Int)(r:Rule)(mid price:Int):eM S (first pile S num r mid price):=eM.trans (T:=pN S num r mid price) ⟨O0 _,O0 _,O0 _,O0 _,O0 _,(d5 _ _ _).1,(d5 _ _ _).2⟩ (ck _ (fun S x=>b9 S _ _ _ _) _ _)
theorem i_ (a:Arr)(price:Int)(S:PS)(x:Int×Rule):eM S (cv pile a price S x):=by
 unfold cv;split
 .exact b9 _ _ _ _ _
 .exact uk _ _ _ _ _
theorem rN (S:PS)(a:Arr)(price:Int):eM S (settle pile rs S a price):=(eM.trans (S:=S) (T:=note S a price) ⟨O0 _,O0 _,O0 _,(d5 _ _ _).1,(d5 _ _ _).2,O0 _,O0 _⟩ (ck (kK pile a price) (fun S x=>b9 S _ _ _ _) _ _)).trans (ck _ (i_ a price) _ _)
theorem xm (S:PS)(x:Int×Arr):eM S (turn pile rs S x):=by
 unfold turn;split
 .exact rN _ _ _
 .exact .refl S
theorem g7 {β:Type}(f:PS->β->PS){a:Arr}(h:∀ S x,bK S.told a≠none->bK (f S x).told a≠none):∀(l:List β)(S:PS),bK S.told a≠none->bK (l.foldl f S).told a≠none
 | [],S,k=>k
 |x::l,S,k=>g7 f h l _ (h S x k)
theorem mF (h:bK S.told b≠none):bK (bq pile S a p n m).told b≠none:=by
 unfold bq;split
 .show bK (tput _ _ _) _≠none;rw[f7];split
  .simp
  .exact h
 .exact h
theorem z7 (h:bK S.told b≠none):bK (cv pile a p S x).told b≠none:=by
 unfold cv;split
 .exact mF h
 .exact g7 _ (fun S x k=>mF k) _ _ (show bK (pN S _ _ _ _).told b≠none from h)
theorem Dk (h:bK S.told b≠none):bK (turn pile rs S x).told b≠none:=by
 unfold turn;split
 .exact g7 _ (fun S x k=>z7 k) _ _ (g7 (kK pile _ _) (fun S x k=>mF k) _ _ (show bK (note S _ _).told b≠none from h))
 .exact h
end Pz
namespace Pz
def Sd (S:PS)(a:Arr)(q:Int):Prop:=(a.2.2,q)∈S.settled.get (a.1,a.2.1)
def fH (S:PS)(a:Arr)(p:Int):Prop:=∃ v,bK S.told a=some v/\v.1<=p
def JustP (sd:Arr->Int->Prop)(c:Int)(put:List Int)(t p:Int)(m:Option Int):Prop:=match put with
 | []=>m=none/\p=1/\t=c
 | [x]=>m=none/\∃ q,sd (c,x,t) q/\p=q+1
 | [x,y]=>∃ d q1 q2,m=some d/\sd (c,x,d) q1/\sd (d,y,t) q2/\p=q1+q2+1
 |_=>False
theorem JustP.mono (h:∀ a q,sd a q->sd' a q)(j:JustP sd c put t p m):JustP sd' c put t p m:=by
 match put,j with
 | [],j=>exact j
 | [x],⟨e,q,s,e2⟩=>exact⟨e,q,h _ _ s,e2⟩
 | [x,y],⟨d,q1,q2,e,s1,s2,e2⟩=>exact⟨d,q1,q2,e,h _ _ s1,h _ _ s2,e2⟩
section
variable (RL:List Rule)(M:List Arr)
def Just (sd:Arr->Int->Prop)(a:Arr)(v:nv):Prop:=match v.2.1 with
 |none=>v.2.2=none/\v.1=0/\a∈M
 |some i=>∃(j:Nat)(r:Rule),i=j/\RL[j]?=some r/\a.1=r.1/\a.2.1=r.2.1/\JustP sd r.2.2.1 r.2.2.2 a.2.2 v.1 v.2.2
theorem Just.mono (h:∀ a q,sd a q->sd' a q)(j:Just RL M sd a v):Just RL M sd' a v:=by
 obtain⟨p,n,m⟩:=v;cases n with
 |none=>exact j
 |some i=>obtain⟨k,r,e1,e2,e3,e4,j⟩:=j;exact⟨k,r,e1,e2,e3,e4,j.mono h⟩
structure B (pile:Int->Int->Int) (U:List Arr) (S:PS) (rest:List (Int×Arr)):Prop where
 q:sS pile S.last S.aQ
 nd:S.aQ.flat.Nodup
 nr:rest.Nodup
 tk:(S.told.map (·.1)).Nodup
 tu:∀ a v,bK S.told a=some v->a∈U
 ju:∀ a v,bK S.told a=some v->Just RL M (Sd S) a v
 ps:∀ a v,bK S.told a=some v->0<=v.1
 sd:∀ a p,Sd S a p->p<=S.last/\∃ v,bK S.told a=some v/\v.1=p
 sp:∀ a v,bK S.told a=some v->Sd S a v.1\/(v.1,a)∈S.aQ.flat\/(v.1,a)∈rest
 it:∀ p a,(p,a)∈S.aQ.flat\/(p,a)∈rest->fH S a p
 ns:∀ p a,(p,a)∈S.aQ.flat\/(p,a)∈rest->¬ Sd S a p
 m0:∀ a v,bK S.told a=some v->a∈M->v=(0,none,none)
end
theorem rO (h:¬ f6 S a p=true):fH S a p:=by
 grind [f6,fH]
theorem fg (h:f6 S a p=true)(e:bK S.told a=some v):p<v.1:=by unfold f6 at h;rw[e]at h;exact PD h
theorem iq (a:Arr)(p:Int)(n m:Option Int):fH (bq pile S a p n m) a p:=by
 unfold bq;by_cases h:f6 S a p=true
 .rw[Pi h];exact⟨(p,n,m),by show bK (tput _ _ _) _=_;rw[f7,Pi rfl],Rv _⟩
 .rw[Pl h];exact rO h
theorem gn (h:fH S b q):fH (bq pile S a p n m) b q:=by
 unfold bq;by_cases k:f6 S a p=true
 .rw[Pi k];obtain⟨v,e,hv⟩:=h;by_cases e2:a=b
  .subst e2;exact⟨(p,n,m),by show bK (tput _ _ _) _=_;rw[f7,Pi rfl],Sg (S6 (fg k e) hv)⟩
  .exact⟨v,by show bK (tput _ _ _) _=_;rw[f7,Pl e2];exact e,hv⟩
 .rw[Pl k];exact h
theorem gq (a:Arr)(p:Int)(n m:Option Int):(bq pile S a p n m).settled=S.settled/\(bq pile S a p n m).aR=S.aR/\(bq pile S a p n m).last=S.last:=by unfold bq;split<;>exact⟨rfl,rfl,rfl⟩
theorem um (h:S.aQ.Ok)(a:Arr)(p:Int)(n m:Option Int)(hx:x∈(bq pile S a p n m).aQ.flat):x∈S.aQ.flat\/x=(p,a):=by
 unfold bq at hx;split at hx
 .rcases O8.mp ((ff h.nk _ _).mem_iff.mp hx) with e|e
  .exact .inr e
  .exact .inl e
 .exact .inl hx
theorem oP (h:S.aQ.Ok)(a:Arr)(p:Int)(n m:Option Int):(bq pile S a p n m).aQ.flat.length<=S.aQ.flat.length+1:=by
 unfold bq;split
 .exact S3 (ff h.nk _ _).length_eq
 .lia
theorem B.bq (b:B RL M pile U S rest)(hj:Just RL M (Sd S) a (p,n,m))(hu:a∈U)(hp:S.last<=p)(hr:(p,a)∉rest)(hs:¬ Sd S a p)
 (hm:a∈M->fH S a 0\/(p,n,m)=(0,none,none)):B RL M pile U (bq pile S a p n m) rest:=by
 unfold Pz.bq;by_cases k:f6 S a p=true
 .rw[Pi k];have hS:∀ c q,Sd (g6 pile S a p n m) c q↔Sd S c q:=fun c q=>Iff.rfl;have tg:∀ c,bK (g6 pile S a p n m).told c=if a=c then some (p,n,m) else bK S.told c:=fun c=>f7 _ _ _ _;have pf:=ff b.q.ok.nk (pile p S.last) (p,a);have p0:0<=p:=Rg b.q.l0 hp;have fl:∀ x,x∈(g6 pile S a p n m).aQ.flat↔x=(p,a)\/x∈S.aQ.flat:=fun x=>by show x∈(S.aQ.app (pile p S.last) (p,a)).flat↔_;rw[pf.mem_iff,O8]
  refine⟨b.q.add a hp,?_,b.nr,Dj b.tk _ _,fun c v e=>?_,fun c v e=>?_,fun c v e=>?_,fun c q h=>?_,fun c v e=>?_,fun q c h=>?_,fun q c h=>?_,fun c v e hc=>?_⟩
  .refine pf.nodup_iff.mpr (Qk.mpr ⟨fun h=>?_,b.nd⟩);obtain⟨v,e,hv⟩:=b.it p a (.inl h);have:=fg k e;lia
  .rw[tg]at e;by_cases z:a=c
   .rw[<- z];exact hu
   .rw[Pl z]at e;exact b.tu c v e
  .rw[tg]at e;by_cases z:a=c
   .rw[Pi z]at e;cases e;rw[<- z];exact hj
   .rw[Pl z]at e;exact b.ju c v e
  .rw[tg]at e;by_cases z:a=c
   .rw[Pi z]at e;cases e;exact p0
   .rw[Pl z]at e;exact b.ps c v e
  .obtain⟨h1,v,e,hv⟩:=b.sd c q h;refine⟨h1,v,?_,hv⟩;rw[tg,Pl (fun z=>?_)]
   .exact e
   .subst z;have:=fg k e;lia
  .rw[tg]at e;by_cases z:a=c
   .rw[Pi z]at e;cases e;subst z;exact .inr (.inl ((fl _).mpr (.inl rfl)))
   .rw[Pl z]at e;rcases b.sp c v e with h|h|h
    .exact .inl h
    .exact .inr (.inl ((fl _).mpr (.inr h)))
    .exact .inr (.inr h)
  .have:(q,c)=(p,a)\/(q,c)∈S.aQ.flat\/(q,c)∈rest:=by
    rcases h with h|h
    .rcases (fl _).mp h with h|h
     .exact .inl h
     .exact .inr (.inl h)
    .exact .inr (.inr h)
   rcases this with h|h
   .cases h;exact⟨(p,n,m),by grind,Rv _⟩
   .obtain⟨v,e,hv⟩:=b.it q c h;by_cases z:a=c
    .subst z;exact⟨(p,n,m),by grind,Sg (S6 (fg k e) hv)⟩
    .exact⟨v,by grind,hv⟩
  .rcases h with h|h
   .rcases (fl _).mp h with h|h
    .cases h;exact hs
    .exact b.ns q c (.inl h)
   .exact b.ns q c (.inr h)
  .rw[tg]at e;by_cases z:a=c
   .rw[Pi z]at e;cases e;subst z;rcases hm hc with⟨v,e,hv⟩|h
    .have:=fg k e;lia
    .exact h
   .rw[Pl z]at e;exact b.m0 c v e hc
 .rw[Pl k];exact b
end Pz
namespace Pz
section
variable (RL:List Rule)(M U:List Arr)(pile:Int->Int->Int)
structure BG (S:PS) (rest:List (Int×Arr)):Prop where
 b:B RL M pile U S rest
 gt:∀ x∈S.aQ.flat,S.last<x.1
 eq:∀ x∈rest,x.1=S.last
 mh:∀ a∈M,fH S a 0
structure Ext (S T:PS) (rest:List (Int×Arr)) (k:Nat):Prop where
 bg:BG RL M U pile T rest
 mono:∀ a p,fH S a p->fH T a p
 se:T.settled=S.settled
 la:T.last=S.last
 len:T.aQ.flat.length<=S.aQ.flat.length+k
end
theorem oQ (h:T.settled=S.settled):Sd T=Sd S:=by unfold Sd;rw[h]
theorem Ext.trans (x:Ext RL M U pile S T rest k)(y:Ext RL M U pile T V rest l):Ext RL M U pile S V rest (k+l):=⟨y.bg,fun a p h=>y.mono a p (x.mono a p h),y.se.trans x.se,y.la.trans x.la,by have:=x.len;have:=y.len;lia⟩
theorem BG.bq (g:BG RL M U pile S rest)(hj:Just RL M (Sd S) a (p,n,m))(hu:a∈U)(hp:S.last<p):Ext RL M U pile S (bq pile S a p n m) rest 1:=by
 obtain⟨e1,e2,e3⟩:=gq (pile:=pile) (S:=S) a p n m;have hb:=g.b.bq hj hu (Sg hp) (fun h=>by have:=g.eq _ h;dsimp only at this;lia) (fun h=>by have:=(g.b.sd _ _ h).1;lia) fun h=>.inl (g.mh a h);refine⟨⟨hb,fun x hx=>?_,fun x hx=>by rw[e3];exact g.eq x hx,fun b hb=>gn (g.mh b hb)⟩,fun b q h=>gn h,e1,e3,oP g.b.q.ok _ _ _ _⟩;rw[e3];rcases um g.b.q.ok _ _ _ _ hx with h|rfl
 .exact g.gt x h
 .exact hp
theorem ja {β:Type}(fa:β->Arr)(fp:β->Int)(fn fm:β->Option Int):∀(l:List β){S:PS},BG RL M U pile S rest->
 (∀ x∈l,Just RL M (Sd S) (fa x) (fp x,fn x,fm x)/\fa x∈U/\S.last<fp x)->
 Ext RL M U pile S (l.foldl (fun S x=>bq pile S (fa x) (fp x) (fn x) (fm x)) S) rest l.length/\(l.foldl (fun S x=>bq pile S (fa x) (fp x) (fn x) (fm x)) S).aR=S.aR/\
 ∀ x∈l,fH (l.foldl (fun S x=>bq pile S (fa x) (fp x) (fn x) (fm x)) S) (fa x) (fp x)
 | [],S,g,_=>⟨⟨g,fun _ _ h=>h,rfl,rfl,O0 _⟩,rfl,fun _ h=>nomatch h⟩
 |x::l,S,g,h=>by
  obtain⟨j,u,lt⟩:=h x O5;have e:=g.bq j u lt;obtain⟨r,r1,r2⟩:=ja fa fp fn fm l (S:=bq pile S (fa x) (fp x) (fn x) (fm x)) e.bg fun y hy=>by rw[oQ e.se,e.la];exact h y (O4 _ hy)
  rw[Rp,Pg,S7];refine⟨e.trans r,r1.trans (gq _ _ _ _).2.1,fun y hy=>?_⟩;rcases O8.mp hy with rfl|hy
  .exact r.mono _ _ (iq _ _ _ _)
  .exact r2 y hy
structure sO (RL:List Rule) (M U:List Arr) (rs:RS):Prop where
 jf:∀ r∈RL,r.2.2.2.length<=2
 to:∀{n r c x},(n,r)∈rs.get (c,x)->∃(j:Nat)(l:List Int),n=j/\RL[j]?=some r/\r.2.2.1=c/\r.2.2.2=x::l
 of:∀{j:Nat}{r:Rule}{x l},RL[j]?=some r->r.2.2.2=x::l->((j:Int),r)∈rs.get (r.2.2.1,x)
 u1:∀ a∈M,a∈U
 u2:∀ r∈RL,(r.1,r.2.1,r.2.2.1)∈U
 u3:∀ r∈RL,∀ s x t,(s,x,t)∈U->(r.1,r.2.1,t)∈U
def M8 (RL:List Rule)(S:PS):Prop:=∀(j:Nat)(r:Rule),RL[j]?=some r->match r.2.2.2 with
 | []=>fH S (r.1,r.2.1,r.2.2.1) 1
 | [x]=>∀ t q,Sd S (r.2.2.1,x,t) q->fH S (r.1,r.2.1,t) (q+1)
 | [x,y]=>∀ d t q1 q2,Sd S (r.2.2.1,x,d) q1->Sd S (d,y,t) q2->fH S (r.1,r.2.1,t) (q1+q2+1)
 |_=>True
structure Lk (RL:List Rule) (S:PS):Prop where
 ok:S.aR.Ok
 to:∀{n r q d y},(n,r,q)∈S.aR.get (d,y)->∃(j:Nat)(x:Int),n=j/\RL[j]?=some r/\r.2.2.2=[x,y]/\Sd S (r.2.2.1,x,d) q
 of:∀{j:Nat}{r:Rule}{x y d q},RL[j]?=some r->r.2.2.2=[x,y]->Sd S (r.2.2.1,x,d) q->((j:Int),r,q)∈S.aR.get (d,y)
theorem EQ (Hs:sO RL M U rs)(hau:a∈U)(p0:0<=p):∀(l:List (Int×Rule)){S:PS},BG RL M U pile S rest->S.aR.Ok->S.settled.Ok->S.last=p->Sd S a p->(∀ x∈l,x∈rs.get (a.1,a.2.1))->
 Ext RL M U pile S (l.foldl (cv pile a p) S) rest (l.length*S.settled.flat.length)/\(l.foldl (cv pile a p) S).aR.Ok/\(l.foldl (cv pile a p) S).aR.flat.length<=S.aR.flat.length+l.length/\
 (∀ k z,z∈(l.foldl (cv pile a p) S).aR.get k↔z∈S.aR.get k\/∃ x∈l,x.2.2.2.2.length=2/\k=(a.2.2,nth1 x.2.2.2.2)/\z=(x.1,x.2,p))/\
 (∀ x∈l,x.2.2.2.2.length=1->fH (l.foldl (cv pile a p) S) (x.2.1,x.2.2.1,a.2.2) (p+1))/\
 ∀ x∈l,x.2.2.2.2.length=2->∀ t q,Sd S (a.2.2,nth1 x.2.2.2.2,t) q->fH (l.foldl (cv pile a p) S) (x.2.1,x.2.2.1,t) (p+q+1)
 | [],S,g,ok,so,hl,ha,_=>⟨⟨g,fun _ _ h=>h,rfl,rfl,SM _ _⟩,ok,by simp,(fun k z=>⟨.inl,fun h=>h.elim id fun⟨x,h,_⟩=>(Pd h).elim⟩),(fun _ h=>(Pd h).elim),fun _ h=>(Pd h).elim⟩
 |x::l,S,g,ok,so,hl,ha,hin=>by
  obtain⟨n,r⟩:=x;obtain⟨j,ys,rfl,hj,hc,hp⟩:=Hs.to (hin _ O5);have hr:r∈RL:=Px hj;have bL:=Hs.jf r hr;have n1:1<=S.settled.flat.length:=List.length_pos_of_mem (jC _ ha);have one:Ext RL M U pile S (cv pile a p S ((j:Int),r)) rest S.settled.flat.length/\(cv pile a p S ((j:Int),r)).aR.Ok/\(cv pile a p S ((j:Int),r)).aR.flat.length<=S.aR.flat.length+1/\
   (∀ k z,z∈(cv pile a p S ((j:Int),r)).aR.get k↔z∈S.aR.get k\/(r.2.2.2.length=2/\k=(a.2.2,nth1 r.2.2.2)/\z=((j:Int),r,p)))/\
   (r.2.2.2.length=1->fH (cv pile a p S ((j:Int),r)) (r.1,r.2.1,a.2.2) (p+1))/\
   (r.2.2.2.length=2->∀ t q,Sd S (a.2.2,nth1 r.2.2.2,t) q->fH (cv pile a p S ((j:Int),r)) (r.1,r.2.1,t) (p+q+1)):=by
   unfold cv;by_cases h1:r.2.2.2.length=1
   .rw[Pi (show((j:Int),r).2.2.2.2.length=1 from h1)];have hys:r.2.2.2=[a.2.1]:=by
     rw[hp]at h1 ⊢;cases ys with
     |nil=>rfl
     |cons _ _=>simp at h1
    have e:=g.bq (a:=(r.1,r.2.1,a.2.2)) (p:=p+1) (n:=some (j:Int)) (m:=none) ⟨j,r,rfl,hj,rfl,rfl,by rw[hys];exact⟨rfl,p,by rw[hc];exact ha,rfl⟩⟩ (Hs.u3 r hr _ _ _ hau) (by lia);obtain⟨_,e2,_⟩:=gq (pile:=pile) (S:=S) (r.1,r.2.1,a.2.2) (p+1) (some (j:Int)) none;refine⟨⟨e.bg,e.mono,e.se,e.la,Pu e.len (SV n1 _)⟩,by rw[e2];exact ok,by rw[e2];lia,fun k z=>?_,fun _=>iq _ _ _ _,fun h=>by lia⟩;rw[e2];exact⟨.inl,fun h=>h.elim id fun h=>by lia⟩
   .rw[Pl (show ¬ ((j:Int),r).2.2.2.2.length=1 from h1)];have h2:r.2.2.2.length=2:=by rw[hp]at h1 bL ⊢;simp only[Pg]at h1 bL ⊢;lia
    obtain⟨y,hys⟩ : ∃ y,r.2.2.2=[a.2.1,y]:=by
     rw[hp]at h2 ⊢
     match ys,h2 with
     | [y],_=>exact⟨y,rfl⟩
    have hn:nth1 r.2.2.2=y:=by rw[hys];rfl
    have g1:BG RL M U pile (pN S (j:Int) r a.2.2 p) rest:=⟨⟨g.b.q,g.b.nd,g.b.nr,g.b.tk,g.b.tu,g.b.ju,g.b.ps,g.b.sd,g.b.sp,g.b.it,g.b.ns,g.b.m0⟩,g.gt,g.eq,g.mh⟩;obtain⟨e,e2,e3⟩:=ja (fun x:Int×Int=>(r.1,r.2.1,x.1)) (fun x=>p+x.2+1) (fun _=>some (j:Int)) (fun _=>some a.2.2) (S.settled.get (a.2.2,nth1 r.2.2.2)) g1 fun x hx=>by
     have sx:Sd S (a.2.2,y,x.1) x.2:=by rw[hn]at hx;exact hx
     obtain⟨_,v,tv,hv⟩:=g.b.sd _ _ sx;have:=g.b.ps _ _ tv;refine⟨⟨j,r,rfl,hj,rfl,rfl,?_⟩,Hs.u3 r hr _ _ _ (g.b.tu _ _ tv),by show S.last<_;lia⟩;rw[hys];exact⟨a.2.2,p,x.2,rfl,by rw[hc];exact ha,sx,rfl⟩
    have lm:∀ k z,z∈(first pile S (j:Int) r a.2.2 p).aR.get k↔z∈S.aR.get k\/(r.2.2.2.length=2/\k=(a.2.2,nth1 r.2.2.2)/\z=((j:Int),r,p)):=fun k z=>by
     show z∈(List.foldl _ _ _:PS).aR.get k↔_;rw[e2];show z∈(S.aR.app _ _).get k↔_;rw[pM];by_cases hk:(a.2.2,nth1 r.2.2.2)=k
     .subst hk;rw[Pi rfl,Pf,O9];exact⟨fun h=>h.elim .inl fun h=>.inr ⟨h2,rfl,h⟩,fun h=>h.elim .inl fun h=>.inr h.2.2⟩
     .rw[Pl hk];exact⟨.inl,fun h=>h.elim id fun h=>(hk h.2.1.symm).elim⟩
    have lk:(first pile S (j:Int) r a.2.2 p).aR=S.aR.app (a.2.2,nth1 r.2.2.2) ((j:Int),r,p):=e2;refine⟨⟨e.bg,fun b q h=>e.mono b q h,e.se,e.la,Pu e.len (SV (lr _ _) _)⟩,by rw[lk];exact mE ok _ _,by rw[lk,(ff ok.nk _ _).length_eq];exact O0 _,lm,fun h=>by lia,fun _ t q h=>e3 (t,q) h⟩
  obtain⟨e,ok1,le1,lm1,hA,hB⟩:=one;obtain⟨r0,r1,r2,r3,r4,r5⟩:=EQ Hs hau p0 l e.bg ok1 (by rw[e.se];exact so) (by rw[e.la];exact hl) (by rw[oQ e.se];exact ha) fun y hy=>hin y (O4 _ hy);rw[Rp,Pg];rw[e.se]at r0;refine⟨by rw[Nat.add_mul,Nat.one_mul,S7];exact e.trans r0,r1,by lia,fun k z=>?_,fun x hx h=>?_,fun x hx h t q hq=>?_⟩
  .rw[r3,lm1];constructor
   .rintro ((h|h)|⟨x,hx,h⟩)
    .exact .inl h
    .exact .inr ⟨_,O5,h⟩
    .exact .inr ⟨x,O4 _ hx,h⟩
   .rintro (h|⟨x,hx,h⟩)
    .exact .inl (.inl h)
    .rcases O8.mp hx with rfl|hx
     .exact .inl (.inr h)
     .exact .inr ⟨x,hx,h⟩
  .rcases O8.mp hx with rfl|hx
   .exact r0.mono _ _ (hA h)
   .exact r4 x hx h
  .rcases O8.mp hx with rfl|hx
   .exact r0.mono _ _ (hB h t q hq)
   .exact r5 x hx h t q (by rw[oQ e.se];exact hq)
end Pz
namespace Pz
section
variable (RL:List Rule)(M U:List Arr)(pile:Int->Int->Int)(C:Nat)
structure Nu (S:PS) (k:Nat):Prop where
 so:S.settled.Ok
 G:∃ G:List Arr,G.Nodup/\G.length=S.settled.flat.length/\∀ a∈G,∃ q,Sd S a q
 ln:S.aR.flat.length<=RL.length*S.settled.flat.length
 pn:S.aQ.flat.length+k<=C+RL.length*(S.settled.flat.length*S.settled.flat.length)
structure I (S:PS) (rest:List (Int×Arr)):Prop where
 bg:BG RL M U pile S rest
 sI:M8 RL S
 lk:Lk RL S
 cnt:Nu RL C S rest.length
end
theorem sd_note:Sd (note S a p) c q↔Sd S c q\/(a=c/\p=q):=by
 grind [Sd,note,pM]
theorem I.settle (Hs:sO RL M U rs)(hrl:∀ k,(rs.get k).length<=RL.length)(i:I RL M U pile C S ((p,a)::rest))(hv:bK S.told a=some v)(hp:v.1=p) :
 I RL M U pile C (settle pile rs S a p) rest/\(settle pile rs S a p).settled.flat.length=S.settled.flat.length+1:=by
 have b:=i.bg.b;have pl:p=S.last:=i.bg.eq _ O5;have p0:0<=p:=by rw[pl];exact b.q.l0
 have hau:a∈U:=b.tu a v hv;have nS:∀ q,¬ Sd S a q:=fun q h=>by obtain⟨_,w,e,ew⟩:=b.sd a q h;rw[hv]at e;cases e;rw[<- ew,hp]at h;exact b.ns p a (.inr O5) h
 have nr:=Qk.mp b.nr;have smono:∀ c q,Sd S c q->Sd (note S a p) c q:=fun c q h=>sd_note.mpr (.inl h);have hS1:Sd (note S a p) a p:=sd_note.mpr (.inr ⟨rfl,rfl⟩);have g1:BG RL M U pile (note S a p) rest:=by
  refine⟨⟨b.q,b.nd,nr.2,b.tk,b.tu,fun c w e=>(b.ju c w e).mono RL M smono,b.ps,fun c q h=>?_,fun c w e=>?_,fun q c h=>?_,fun q c h k=>?_,b.m0⟩,i.bg.gt,fun x hx=>i.bg.eq x (O4 _ hx),i.bg.mh⟩
  .rcases sd_note.mp h with h|⟨rfl,rfl⟩
   .exact b.sd c q h
   .exact⟨Int.le_of_eq pl,v,hv,hp⟩
  .rcases b.sp c w e with h|h|h
   .exact .inl (smono _ _ h)
   .exact .inr (.inl h)
   .rcases O8.mp h with h|h
    .cases h;exact .inl hS1
    .exact .inr (.inr h)
  .exact b.it q c (h.elim .inl fun h=>.inr (O4 _ h))
  .rcases sd_note.mp k with k|⟨rfl,rfl⟩
   .exact b.ns q c (h.elim .inl fun h=>.inr (O4 _ h)) k
   .rcases h with h|h
    .have:=i.bg.gt _ h;dsimp only at this;lia
    .exact nr.1 h
 have so1:(note S a p).settled.Ok:=mE i.cnt.so _ _;have n1:(note S a p).settled.flat.length=S.settled.flat.length+1:=(ff i.cnt.so.nk _ _).length_eq;obtain⟨e1,l1,h1⟩:=ja (fun x:Int×Rule×Int=>(x.2.1.1,x.2.1.2.1,a.2.2)) (fun x=>x.2.2+p+1) (fun x=>some x.1) (fun _=>some a.1) (S.aR.get (a.1,a.2.1)) g1 fun x hx=>by obtain⟨n,r,q⟩:=x;obtain⟨j,y,rfl,hj,hy,hq⟩:=i.lk.to hx;obtain⟨_,w,tw,hw⟩:=b.sd _ _ hq;have:=b.ps _ _ tw;refine⟨⟨j,r,rfl,hj,rfl,rfl,?_⟩,Hs.u3 r (Px hj) _ _ _ hau,by show S.last<q+p+1;lia⟩;show JustP _ r.2.2.1 r.2.2.2 _ _ _;rw[hy];exact⟨a.1,q,p,rfl,smono _ _ hq,hS1,rfl⟩
 generalize hS2:(S.aR.get (a.1,a.2.1)).foldl (fun S x=>bq pile S (x.2.1.1,x.2.1.2.1,a.2.2) (x.2.2+p+1) (some x.1) (some a.1)) (note S a p)=S2 at e1 l1 h1;have s2:S2.settled=(note S a p).settled:=e1.se;have hs2:Sd S2=Sd (note S a p):=oQ s2;have l2:S2.aR=S.aR:=l1;obtain⟨e2,k1,k2,k3,k4,k5⟩:=EQ (rs:=rs) Hs hau p0 (rs.get (a.1,a.2.1)) e1.bg (by rw[l2];exact i.lk.ok) (by grind) (by rw[e1.la,pl];rfl) (by rw[hs2];exact hS1) fun x hx=>hx;have eT:(rs.get (a.1,a.2.1)).foldl (cv pile a p) S2=Pz.settle pile rs S a p:=by rw[<- hS2];rfl
 rw[eT]at e2 k1 k2 k3 k4 k5;generalize Pz.settle pile rs S a p=T at e2 k1 k2 k3 k4 k5;have sT:T.settled=(note S a p).settled:=e2.se.trans s2;have hsT:∀ c q,Sd T c q↔Sd S c q\/(a=c/\p=q):=fun c q=>by rw[oQ sT];exact sd_note
 have hm:∀{j:Nat}{r:Rule}{x d l},RL[j]?=some r->r.2.2.2=x::l->a=(r.2.2.1,x,d)->((j:Int),r)∈rs.get (a.1,a.2.1):=fun hj hp h=>by rw[h];exact Hs.of hj hp
 have mono:∀ c q,fH S c q->fH T c q:=fun c q h=>e2.mono _ _ (e1.mono _ _ h);refine⟨⟨e2.bg,?_,⟨k1,?_,?_⟩,⟨by grind,?_,?_,?_⟩⟩,by grind⟩
 .intro j r hj;have hc:=i.sI j r hj;cases hput:r.2.2.2 with
  |nil=>rw[hput]at hc;exact mono _ _ hc
  |cons x ys=>
   cases ys with
   |nil=>
    rw[hput]at hc;intro t q hq;rcases (hsT _ _).mp hq with h|⟨h,rfl⟩
    .exact mono _ _ (hc t q h)
    .obtain rfl:a.2.2=t:=by rw[h]
     exact k4 ((j:Int),r) (hm hj hput h) (by rw[hput];rfl)
   |cons y zs=>
    cases zs with
    |cons _ _=>trivial
    |nil=>
     rw[hput]at hc;intro d t q1 q2 hq1 hq2;have ny:nth1 r.2.2.2=y:=by rw[hput];rfl
     rcases (hsT _ _).mp hq1 with z1|⟨z1,rfl⟩
     .rcases (hsT _ _).mp hq2 with z2|⟨z2,rfl⟩
      .exact mono _ _ (hc d t q1 q2 z1 z2)
      .obtain rfl:a.2.2=t:=by rw[z2]
       exact e2.mono _ _ (h1 ((j:Int),r,q1) (by rw[z2];exact i.lk.of hj hput z1))
     .obtain rfl:a.2.2=d:=by rw[z1]
      refine k5 ((j:Int),r) (hm hj hput z1) (by rw[hput];rfl) t q2 ?_;rw[ny,hs2,<- oQ sT];exact hq2
 .intro n r q d y h;rcases (k3 _ _).mp h with h|⟨x,hx,hl,hk,hz⟩
  .rw[l2]at h;obtain⟨j,x,e1,e2,e3,e4⟩:=i.lk.to h;exact⟨j,x,e1,e2,e3,(hsT _ _).mpr (.inl e4)⟩
  .obtain⟨n',r'⟩:=x;obtain⟨rfl,hz⟩:=Prod.mk.inj hz;obtain⟨rfl,hq⟩:=Prod.mk.inj hz;obtain⟨j,l,rfl,hj,hc,hput⟩:=Hs.to hx;obtain⟨rfl,hy⟩:=Prod.mk.inj hk;have hl:r.2.2.2.length=2:=hl;have hy:y=nth1 r.2.2.2:=hy;rw[hput]at hl hy;refine⟨j,a.2.1,rfl,hj,?_,(hsT _ _).mpr (.inr ⟨by rw[hc],hq.symm⟩)⟩;rcases l with _|⟨z,_|_⟩
   .cases hl
   .rw[hput,hy];rfl
   .cases hl
 .intro j r x y d q hj hput hq;rw[k3];rcases (hsT _ _).mp hq with h|⟨h,rfl⟩
  .rw[l2];exact .inl (i.lk.of hj hput h)
  .exact .inr ⟨((j:Int),r),hm hj hput h,by rw[hput];rfl,by rw[hput,h];rfl,rfl⟩
 .obtain⟨G,g1,g2,g3⟩:=i.cnt.G;refine⟨a::G,Qk.mpr ⟨fun h=>?_,g1⟩,by grind,fun c hc=>?_⟩
  .obtain⟨q,hq⟩:=g3 a h;exact nS q hq
  .rcases O8.mp hc with rfl|hc
   .exact⟨p,(hsT _ _).mpr (.inr ⟨rfl,rfl⟩)⟩
   .obtain⟨q,hq⟩:=g3 c hc;exact⟨q,(hsT _ _).mpr (.inl hq)⟩
 .have:=i.cnt.ln;have:=hrl (a.1,a.2.1);rw[sT,n1,Ti,Nat.mul_one];rw[l2]at k2;lia
 .have c1:=i.cnt.pn;have c2:=e1.len;have c3:=e2.len;have c4:=i.cnt.ln;have c5:=lr S.aR (a.1,a.2.1);have c6:(rs.get (a.1,a.2.1)).length*S2.settled.flat.length<=RL.length*(S.settled.flat.length+1):=by rw[s2,n1];exact Nat.mul_le_mul_right _ (hrl _)
  rw[Pg]at c1;have c7:(note S a p).aQ.flat.length=S.aQ.flat.length:=rfl;rw[sT,n1];have c8:RL.length*((S.settled.flat.length+1)*(S.settled.flat.length+1))=RL.length*(S.settled.flat.length*S.settled.flat.length)+RL.length*S.settled.flat.length+RL.length*(S.settled.flat.length+1):=by rw[Nat.add_mul,Nat.one_mul,Ti RL.length,Ti S.settled.flat.length,Nat.mul_one,Ti RL.length (S.settled.flat.length*S.settled.flat.length)]
  rw[c8];lia
theorem I.skip (i:I RL M U pile C S (x::rest))(h:¬ F5 S x=true):I RL M U pile C S rest:=by
 have b:=i.bg.b;refine⟨⟨⟨b.q,b.nd,(Qk.mp b.nr).2,b.tk,b.tu,b.ju,b.ps,b.sd,fun c w e=>?_,fun q c h=>b.it q c (h.elim .inl fun h=>.inr (O4 _ h)),fun q c h=>b.ns q c (h.elim .inl fun h=>.inr (O4 _ h)),b.m0⟩,i.bg.gt,fun y hy=>i.bg.eq y (O4 _ hy),i.bg.mh⟩,i.sI,i.lk,i.cnt.so,i.cnt.G,i.cnt.ln,by have:=i.cnt.pn;rw[Pg]at this;lia⟩;rcases b.sp c w e with k|k|k
 .exact .inl k
 .exact .inr (.inl k)
 .grind [F5]
theorem I.batch (Hs:sO RL M U rs)(hrl:∀ k,(rs.get k).length<=RL.length):∀(l:List (Int×Arr)){S:PS},I RL M U pile C S l->
 I RL M U pile C (batch pile rs S l) []/\S.settled.flat.length<=(batch pile rs S l).settled.flat.length/\((batch pile rs S l).settled.flat.length=S.settled.flat.length->batch pile rs S l=S)
 | [],S,i=>⟨i,O0 _,fun _=>rfl⟩
 |x::l,S,i=>by
  show I RL M U pile C (Pz.batch pile rs (turn pile rs S x) l) []/\_<=(Pz.batch pile rs (turn pile rs S x) l).settled.flat.length/\((Pz.batch pile rs (turn pile rs S x) l).settled.flat.length=_->Pz.batch pile rs (turn pile rs S x) l=S);unfold turn;by_cases h:F5 S x=true
  .rw[Pi h];obtain⟨p,a⟩:=x;unfold F5 at h;cases e:bK S.told a with
   |none=>rw[show((p,a):Int×Arr).2=a from rfl,e]at h;cases h
   |some v=>rw[show((p,a):Int×Arr).2=a from rfl,e]at h;obtain⟨j,n⟩:=i.settle Hs hrl e (PD h);obtain⟨r1,r2,r3⟩:=I.batch Hs hrl l j;exact⟨r1,by grind,fun q=>by grind⟩
  .rw[Pl h];exact I.batch Hs hrl l (i.skip h)
structure Top (RL:List Rule) (M U:List Arr) (pile:Int->Int->Int) (C:Nat) (S:PS):Prop where
 b:B RL M pile U S []
 mh:∀ a∈M,fH S a 0
 sI:M8 RL S
 lk:Lk RL S
 cnt:Nu RL C S 0
theorem I.top (i:I RL M U pile C S []):Top RL M U pile C S:=⟨i.bg.b,i.bg.mh,i.sI,i.lk,i.cnt⟩
theorem Top.take (P:ql pile)(t:Top RL M U pile C S)(hne:S.aQ≠[]):I RL M U pile C (take pile S) (dc pile S.aQ):=by
 have b:=t.b;have k:=xj P b.q hne;have mem:∀ x,x∈S.aQ.flat↔x∈(left pile S.aQ).flat\/x∈dc pile S.aQ:=fun x=>by rw[k.pm.mem_iff,Pf];exact Or.comm
 obtain⟨n1,n2,_⟩:=Q8.mp (k.pm.nodup_iff.mp b.nd);have no:∀{q c},(q,c)∉([]:List (Int×Arr)):=fun h=>nomatch h;refine⟨⟨⟨k.ok,n2,n1,b.tk,b.tu,b.ju,b.ps,fun a p h=>⟨Rg (b.sd a p h).1 k.ge,(b.sd a p h).2⟩,fun a v e=>?_,fun p a h=>b.it p a (.inl ((mem _).mpr h)),fun p a h=>b.ns p a (.inl ((mem _).mpr h)),b.m0⟩,k.lt,k.eq,t.mh⟩,t.sI,⟨t.lk.ok,t.lk.to,t.lk.of⟩,t.cnt.so,t.cnt.G,t.cnt.ln,?_⟩
 .rcases b.sp a v e with h|h|h
  .exact .inl h
  .exact .inr ((mem _).mp h)
  .exact(no h).elim
 .have h1:=k.pm.length_eq;rw[O6]at h1;have h2:=t.cnt.pn;show(left pile S.aQ).flat.length+(dc pile S.aQ).length<=_;show _<=C+RL.length*(S.settled.flat.length*S.settled.flat.length);lia
theorem iu {α:Type}[DecidableEq α]:∀(l m:List α),l.Nodup->(∀ x∈l,x∈m)->l.length<=m.length
 | [],m,_,_=>Pq _
 |x::l,m,nd,h=>by
  have hx:=h x O5;have nd':=Qk.mp nd;have:=iu l (m.erase x) nd'.2 fun y hy=>(List.mem_erase_of_ne (fun(e:y=x)=>nd'.1 (by grind))).mpr (h y (O4 _ hy))
  grind
theorem Top.jf (t:Top RL M U pile C S):S.settled.flat.length<=U.length/\S.told.length<=U.length:=by
 obtain⟨G,g1,g2,g3⟩:=t.cnt.G;constructor
 .rw[<- g2];exact iu G U g1 fun a ha=>by obtain⟨q,hq⟩:=g3 a ha;obtain⟨_,v,e,_⟩:=t.b.sd a q hq;exact t.b.tu a v e
 .have:=iu (S.told.map (·.1)) U t.b.tk fun a ha=>by obtain⟨x,hx,rfl⟩:=Pb.mp ha;exact t.b.tu x.1 x.2 (jD t.b.tk hx)
  rwa [O2]at this
theorem Top.fit (t:Top RL M U pile C S)(hC:C+RL.length*(U.length*U.length)<L)(hR:RL.length*U.length<L)(hU:U.length<L):iZ S:=by obtain⟨f1,f2⟩:=t.jf;have a1:=gm t.b.q.ok;have a2:=gm t.cnt.so;have a3:=gm t.lk.ok;have b1:=t.cnt.pn;have b2:RL.length*(S.settled.flat.length*S.settled.flat.length)<=RL.length*(U.length*U.length):=SY _ (Nat.mul_le_mul f1 f1);have b3:=t.cnt.ln;have b4:RL.length*S.settled.flat.length<=RL.length*U.length:=SY _ f1;constructor<;>lia
theorem Top.loop (P:ql pile)(Hs:sO RL M U rs)(hrl:∀ k,(rs.get k).length<=RL.length)(hC:C+RL.length*(U.length*U.length)<L)(hR:RL.length*U.length<L)(hU:U.length<L) :
 ∀(a b:Nat)(S:PS),Top RL M U pile C S->U.length-S.settled.flat.length<=a->S.aQ.flat.length<=b->∃ n T,Loop pile rs n S T/\Top RL M U pile C T/\T.aQ=[]:=by
 have step:∀ S,Top RL M U pile C S->S.aQ≠[]->let S2:=batch pile rs (Pz.take pile S) (dc pile S.aQ);Top RL M U pile C S2/\(∀ n T,Loop pile rs n S2 T->Loop pile rs (n+1) S T)/\
  (S.settled.flat.length<S2.settled.flat.length\/S2.settled.flat.length=S.settled.flat.length/\S2.aQ.flat.length<S.aQ.flat.length):=by
  intro S t hne;obtain⟨i,h1,h2⟩:=I.batch Hs hrl _ (t.take P hne);have t2:=i.top;refine⟨t2,fun n T l=>.step hne t.b.q (fun x hx=>?_) (t.fit hC hR hU) (t2.fit hC hR hU) l,?_⟩
  .obtain⟨v,e,_⟩:=t.b.it x.1 x.2 (.inl ((xj P t.b.q hne).pm.mem_iff.mpr (Pf.mpr (.inl hx))));rw[e];simp
  have k:=xj P t.b.q hne;by_cases e:(batch pile rs (Pz.take pile S) (dc pile S.aQ)).settled.flat.length=S.settled.flat.length
  .refine .inr ⟨e,?_⟩;rw[h2 e];show(left pile S.aQ).flat.length<_;rw[k.pm.length_eq,O6];have:=SX.mpr k.ne;lia
  .have h1:S.settled.flat.length<=(batch pile rs (Pz.take pile S) (dc pile S.aQ)).settled.flat.length:=h1;exact .inl (by lia)
 intro a;induction a with
 |zero=>
  intro b;induction b with
  |zero=>intro S t _ hb;have:S.aQ=[]:=Qz.mp (by have:=gm t.b.q.ok;lia);exact⟨0,S,.done this,t,this⟩
  |succ b ih=>
   intro S t ha hb;by_cases hne:S.aQ=[]
   .exact⟨0,S,.done hne,t,hne⟩
   obtain⟨t2,hl,hd⟩:=step S t hne;have:=t2.jf.1;obtain⟨n,T,l,r⟩:=ih _ t2 (by rcases hd with h|h<;>lia) (by rcases hd with h|h<;>lia);exact⟨_,T,hl _ _ l,r⟩
 |succ a iha=>
  intro b;induction b with
  |zero=>intro S t _ hb;have:S.aQ=[]:=Qz.mp (by have:=gm t.b.q.ok;lia);exact⟨0,S,.done this,t,this⟩
  |succ b ih=>
   intro S t ha hb;by_cases hne:S.aQ=[]
   .exact⟨0,S,.done hne,t,hne⟩
   obtain⟨t2,hl,hd⟩:=step S t hne;have:=t2.jf.1;rcases hd with h|h
   .obtain⟨n,T,l,r⟩:=iha _ _ t2 (by lia) (O0 _);exact⟨_,T,hl _ _ l,r⟩
   .obtain⟨n,T,l,r⟩:=ih _ t2 (by lia) (by lia);exact⟨_,T,hl _ _ l,r⟩
end Pz
namespace Pz
noncomputable def en:List Rule->Nat->List (Int×Rule)
 | [],_=>[]
 |r::l,k=>((k:Int),r)::en l (k+1)
theorem en_mem:∀{l:List Rule}{k:Nat}{n:Int}{r:Rule},(n,r)∈en l k↔∃ j:Nat,n=((k+j:Nat):Int)/\l[j]?=some r
 | [],k,n,r=>⟨fun h=>(Pd h).elim,fun⟨j,_,h⟩=>by simp at h⟩
 |x::l,k,n,r=>by
  unfold en;rw[O8,en_mem];constructor
  .rintro (h|⟨j,rfl,h⟩)
   .obtain⟨rfl,rfl⟩:=Prod.mk.inj h;exact⟨0,rfl,rfl⟩
   .exact⟨j+1,by lia,by simpa using h⟩
  .rintro⟨j,rfl,h⟩;cases j with
   |zero=>left;simp at h;subst h;rfl
   |succ j=>exact .inr ⟨j,by lia,by simpa using h⟩
theorem mG:∀(l:List Rule)(k:Nat),(en l k).length=l.length:=by intro l;induction l<;>grind [en]
def fz (d:RS)(x:Int×Rule):RS:=if x.2.2.2.2.length>0 then d.app (x.2.2.2.1,x.2.2.2.2[0]?.getD 0) x else d
def bS (RL:List Rule):RS:=(en RL 0).foldl fz []
theorem xo (d:RS)(x:Int×Rule)(k:Int×Int)(z:Int×Rule):z∈(fz d x).get k↔z∈d.get k\/(z=x/\∃ y l,x.2.2.2.2=y::l/\k=(x.2.2.2.1,y)):=by
 unfold fz;cases h:x.2.2.2.2 with
 |nil=>grind
 |cons y l=>
  rw[Pi (by simp),pM]
  grind
theorem pO:∀(l:List (Int×Rule))(d:RS)(k:Int×Int)(z:Int×Rule),z∈(l.foldl fz d).get k↔z∈d.get k\/(z∈l/\∃ y l',z.2.2.2.2=y::l'/\k=(z.2.2.2.1,y))
 | [],d,k,z=>⟨.inl,fun q=>q.elim id fun q=>(Pd q.1).elim⟩
 |x::l,d,k,z=>by
  rw[Rp,pO l,xo,O8];constructor
  .rintro ((h|⟨rfl,h⟩)|⟨h1,h2⟩)
   .exact .inl h
   .exact .inr ⟨.inl rfl,h⟩
   .exact .inr ⟨.inr h1,h2⟩
  .rintro (h|⟨rfl|h1,h2⟩)
   .exact .inl (.inl h)
   .exact .inl (.inr ⟨rfl,h2⟩)
   .exact .inr ⟨h1,h2⟩
theorem uq:∀(l:List (Int×Rule))(d:RS),d.Ok->(l.foldl fz d).Ok/\(l.foldl fz d).flat.length<=d.flat.length+l.length
 | [],d,h=>⟨h,O0 _⟩
 |x::l,d,h=>by
  rw[Rp,Pg];have:(fz d x).Ok/\(fz d x).flat.length<=d.flat.length+1:=by
   unfold fz;split
   .exact⟨mE h _ _,S3 (ff h.nk _ _).length_eq⟩
   .exact⟨h,by lia⟩
  obtain⟨a,b⟩:=uq l _ this.1;exact⟨a,by lia⟩
theorem rP {κ α:Type}:MD.Ok (κ:=κ) (α:=α) []:=⟨PZ,fun _ h=>(Pd h).elim⟩
theorem F6 (RL:List Rule):(bS RL).Ok/\(bS RL).flat.length<=RL.length:=by
 grind [bS,en,MD.flat,uq,rP,mG]
noncomputable def S0:PS:=⟨[],0,[],[],[]⟩
variable (pile:Int->Int->Int)
def gM (S:PS)(a:Arr):PS:=bq pile S a 0 none none
def dS (S:PS)(x:Int×Rule):PS:=if x.2.2.2.2.length=0 then bq pile S (x.2.1,x.2.2.1,x.2.2.2.1) 1 (some x.1) none else S
def g8 (RL:List Rule)(M:List Arr):PS:=(en RL 0).foldl (dS pile) (M.foldl (gM pile) S0)
variable {pile}
structure yx (RL:List Rule) (M U:List Arr) (pile:Int->Int->Int) (S:PS) (k:Nat):Prop where
 b:B RL M pile U S []
 l0:S.last=0
 s0:S.settled=[]
 k0:S.aR=[]
 len:S.aQ.flat.length<=k
theorem yx.no (h:yx RL M U pile S k)(a:Arr)(q:Int):¬ Sd S a q:=by unfold Sd;rw[h.s0];exact fun h=>(Pd h).elim
theorem yx.bq (h:yx RL M U pile S k)(hj:Just RL M (Sd S) a (p,n,m))(hu:a∈U)(hp:0<=p)(hm:a∈M->fH S a 0\/(p,n,m)=(0,none,none)):yx RL M U pile (bq pile S a p n m) (k+1):=by obtain⟨e1,e2,e3⟩:=gq (pile:=pile) (S:=S) a p n m;exact⟨h.b.bq hj hu (by rw[h.l0];exact hp) (fun h=>(Pd h).elim) (h.no _ _) hm,by rw[e3];exact h.l0,by rw[e1];exact h.s0,by rw[e2];exact h.k0,Pu (oP h.b.q.ok _ _ _ _) (Nat.add_le_add_right h.len 1)⟩
theorem LA:yx RL M U pile S0 0:=by have no:∀{α:Type}{x:α},x∉([]:List α):=fun h=>(Pd h).elim;exact⟨⟨⟨rP,Rv _,fun _ h=>(no h).elim⟩,PZ,PZ,PZ,(fun _ _ h=>nomatch h),(fun _ _ h=>nomatch h),(fun _ _ h=>nomatch h),(fun _ _ h=>(no h).elim),(fun _ _ h=>nomatch h),(fun _ _ h=>h.elim (fun h=>(no h).elim) fun h=>(no h).elim),(fun _ _ h=>h.elim (fun h=>(no h).elim) fun h=>(no h).elim),(fun _ _ h=>nomatch h)⟩,rfl,rfl,rfl,O0 _⟩
theorem II:∀(l:List Arr){S:PS}{k:Nat},yx RL M U pile S k->(∀ a∈l,a∈M/\a∈U)->yx RL M U pile (l.foldl (gM pile) S) (k+l.length)/\(∀ a p,fH S a p->fH (l.foldl (gM pile) S) a p)/\∀ a∈l,fH (l.foldl (gM pile) S) a 0
 | [],S,k,h,_=>⟨h,fun _ _ h=>h,fun _ h=>(Pd h).elim⟩
 |a::l,S,k,h,hl=>by
  obtain⟨h1,h2⟩:=hl a O5;have e:=h.bq (a:=a) (p:=0) (n:=none) (m:=none) ⟨rfl,rfl,h1⟩ h2 (Rv _) fun _=>.inr rfl;obtain⟨r1,r2,r3⟩:=II l e fun b hb=>hl b (O4 _ hb);rw[Rp,Pg,S7 l.length,<- Nat.add_assoc];refine⟨r1,fun b p h=>r2 b p (gn h),fun b hb=>?_⟩;rcases O8.mp hb with rfl|hb
  .exact r2 _ _ (iq _ _ _ _)
  .exact r3 b hb
theorem IJ (u2:∀ r∈RL,(r.1,r.2.1,r.2.2.1)∈U):∀(l:List (Int×Rule)){S:PS}{k:Nat},yx RL M U pile S k->(∀ a∈M,fH S a 0)->(∀ x∈l,∃ j:Nat,x.1=j/\RL[j]?=some x.2)->
 yx RL M U pile (l.foldl (dS pile) S) (k+l.length)/\(∀ a p,fH S a p->fH (l.foldl (dS pile) S) a p)/\∀ x∈l,x.2.2.2.2=[]->fH (l.foldl (dS pile) S) (x.2.1,x.2.2.1,x.2.2.2.1) 1
 | [],S,k,h,_,_=>⟨h,fun _ _ h=>h,fun _ h=>(Pd h).elim⟩
 |x::l,S,k,h,hm,hl=>by
  obtain⟨j,e1,e2⟩:=hl x O5;have one:yx RL M U pile (dS pile S x) (k+1)/\(∀ a p,fH S a p->fH (dS pile S x) a p)/\(x.2.2.2.2=[]->fH (dS pile S x) (x.2.1,x.2.2.1,x.2.2.2.1) 1):=by
   unfold dS;by_cases h0:x.2.2.2.2.length=0
   .rw[Pi h0];have e:=h.bq (a:=(x.2.1,x.2.2.1,x.2.2.2.1)) (p:=1) (n:=some x.1) (m:=none) ⟨j,x.2,e1,e2,rfl,rfl,by rw[Qz.mp h0];exact⟨rfl,rfl,rfl⟩⟩ (u2 _ (Px e2)) (by decide) fun h=>.inl (hm _ h);exact⟨e,fun b p h=>gn h,fun _=>iq _ _ _ _⟩
   .rw[Pl h0];exact⟨⟨h.b,h.l0,h.s0,h.k0,Nat.le_succ_of_le h.len⟩,fun _ _ h=>h,fun e=>(h0 (by rw[e];rfl)).elim⟩
  obtain⟨o1,o2,o3⟩:=one;obtain⟨r1,r2,r3⟩:=IJ u2 l o1 (fun a ha=>o2 a 0 (hm a ha)) fun b hb=>hl b (O4 _ hb);rw[Rp,Pg,S7 l.length,<- Nat.add_assoc];refine⟨r1,fun b p h=>r2 b p (o2 b p h),fun b hb e=>?_⟩;rcases O8.mp hb with rfl|hb
  .exact r2 _ _ (o3 e)
  .exact r3 b hb e
structure Set (RL:List Rule) (M U:List Arr):Prop where
 jf:∀ r∈RL,r.2.2.2.length<=2
 u1:∀ a∈M,a∈U
 u2:∀ r∈RL,(r.1,r.2.1,r.2.2.1)∈U
 u3:∀ r∈RL,∀ s x t,(s,x,t)∈U->(r.1,r.2.1,t)∈U
 big:M.length+RL.length+RL.length*(U.length*U.length)<L
 KG:RL.length*U.length<L
 KA:U.length<L
theorem Set.Kw (h:Set RL M U):sO RL M U (bS RL):=by
 refine⟨h.jf,fun{n r c x} q=>?_,fun{j r x l} e1 e2=>?_,h.u1,h.u2,h.u3⟩
 .rcases (pO _ _ _ _).mp q with q|⟨q,y,l,e,k⟩
  .exact(Pd q).elim
  .obtain⟨j,e1,e2⟩:=en_mem.mp q
   grind
 .exact(pO _ _ _ _).mpr (.inr ⟨en_mem.mpr ⟨j,by grind,e1⟩,x,l,e2,rfl⟩)
theorem xq (h:Set RL M U):Top RL M U pile (M.length+RL.length) (g8 pile RL M):=by
 obtain⟨a1,a2,a3⟩:=II (RL:=RL) (M:=M) (U:=U) (pile:=pile) M LA fun a ha=>⟨ha,h.u1 a ha⟩;obtain⟨b1,b2,b3⟩:=IJ h.u2 (en RL 0) a1 a3 fun x hx=>by obtain⟨j,e1,e2⟩:=en_mem.mp hx;exact⟨j,by grind,e2⟩
 have b1:yx RL M U pile (g8 pile RL M) _:=b1;refine⟨b1.b,fun a ha=>b2 a 0 (a3 a ha),fun j r hj=>?_,⟨by rw[b1.k0];exact rP,fun{n r q d y} h=>by rw[b1.k0]at h;exact(Pd h).elim,fun _ _ h=>(b1.no _ _ h).elim⟩,⟨by rw[b1.s0];exact rP,⟨[],PZ,by rw[b1.s0];rfl,fun _ h=>(Pd h).elim⟩,by rw[b1.k0];exact Pq _,?_⟩⟩
 .cases hp:r.2.2.2 with
  |nil=>exact b3 ((j:Int),r) (en_mem.mpr ⟨j,by grind,hj⟩) hp
  |cons x l=>
   match l with
   | []=>exact fun t q h=>(b1.no _ _ h).elim
   | [y]=>exact fun d t q1 q2 h=>(b1.no _ _ h).elim
   |_::_::_=>trivial
 .have:=b1.len;rw[mG]at this;lia
def At (t:TD)(a:Arr)(q:Int):Prop:=∃ w,bK t a=some w/\w.1=q
def KU (t:TD)(a:Arr)(q:Int):Prop:=∃ w,bK t a=some w/\w.1<=q
structure Good (RL:List Rule) (M U:List Arr) (t:TD):Prop where
 nd:(t.map (·.1)).Nodup
 u:∀ a v,bK t a=some v->a∈U
 ju:∀ a v,bK t a=some v->Just RL M (At t) a v
 ps:∀ a v,bK t a=some v->0<=v.1
 m0:∀ a∈M,bK t a=some (0,none,none)
 sI:∀(j:Nat)(r:Rule),RL[j]?=some r->match r.2.2.2 with
  | []=>KU t (r.1,r.2.1,r.2.2.1) 1
  | [x]=>∀ d q,At t (r.2.2.1,x,d) q->KU t (r.1,r.2.1,d) (q+1)
  | [x,y]=>∀ d e q1 q2,At t (r.2.2.1,x,d) q1->At t (d,y,e) q2->KU t (r.1,r.2.1,e) (q1+q2+1)
  |_=>True
theorem Top.good (h:Top RL M U pile C S)(e:S.aQ=[]):Good RL M U S.told:=by
 have hs:∀ a q,Sd S a q↔At S.told a q:=fun a q=>by
  constructor
  .intro k;exact(h.b.sd a q k).2
  .rintro⟨w,k,rfl⟩;rcases h.b.sp a w k with k|k|k
   .exact k
   .rw[e]at k;exact(Pd k).elim
   .exact(Pd k).elim
 refine⟨h.b.tk,h.b.tu,fun a v k=>(h.b.ju a v k).mono RL M fun a q=>(hs a q).mp,h.b.ps,fun a ha=>?_,fun j r hj=>?_⟩
 .obtain⟨v,k,_⟩:=h.mh a ha;rw[k,h.b.m0 a v k ha]
 .have hc:=h.sI j r hj;cases hp:r.2.2.2 with
  |nil=>rw[hp]at hc;exact hc
  |cons x l=>
   rw[hp]at hc
   match l with
   | []=>exact fun t q k=>hc t q ((hs _ _).mpr k)
   | [y]=>exact fun d t q1 q2 k1 k2=>hc d t q1 q2 ((hs _ _).mpr k1) ((hs _ _).mpr k2)
   |_::_::_=>trivial
theorem Set.run (P:ql pile)(h:Set RL M U):iZ (g8 pile RL M)/\∃ n T,Loop pile (bS RL) n (g8 pile RL M) T/\Good RL M U T.told:=by have t:=xq (pile:=pile) h;obtain⟨n,T,l,t2,e⟩:=t.loop P h.Kw (fun k=>Pu (lr _ k) (F6 RL).2) h.big h.KG h.KA _ _ _ (O0 _) (O0 _);exact⟨t.fit h.big h.KG h.KA,n,T,l,t2.good e⟩
end Pz
namespace Pz
theorem Dm (x y k:Nat):(x ||| y)-(x &&& y)<2 ^ k↔x / 2 ^ k=y / 2 ^ k:=by
 have hO:(x ||| y) / 2 ^ k=x / 2 ^ k ||| y / 2 ^ k:=by rw[<- QG,<- QG,<- QG,Nat.shiftRight_or_distrib]
 have hA:(x &&& y) / 2 ^ k=x / 2 ^ k &&& y / 2 ^ k:=by rw[<- QG,<- QG,<- QG,Nat.shiftRight_and_distrib]
 have mO:(x ||| y) % 2 ^ k=x % 2 ^ k ||| y % 2 ^ k:=Nat.or_mod_two_pow;have mA:(x &&& y) % 2 ^ k=x % 2 ^ k &&& y % 2 ^ k:=Nat.and_mod_two_pow;have pos:0<2 ^ k:=Nat.two_pow_pos k;have dO:=Nat.div_add_mod (x ||| y) (2 ^ k);have dA:=Nat.div_add_mod (x &&& y) (2 ^ k);have lO:=Tl (x ||| y) pos;have a1:x / 2 ^ k &&& y / 2 ^ k<=x / 2 ^ k:=Nat.and_le_left;have a2:x / 2 ^ k &&& y / 2 ^ k<=y / 2 ^ k:=Nat.and_le_right;have a3:x / 2 ^ k<=x / 2 ^ k ||| y / 2 ^ k:=Nat.left_le_or;have a4:y / 2 ^ k<=x / 2 ^ k ||| y / 2 ^ k:=Nat.right_le_or;have a5:x % 2 ^ k &&& y % 2 ^ k<=x % 2 ^ k:=Nat.and_le_left;have a6:x % 2 ^ k<=x % 2 ^ k ||| y % 2 ^ k:=Nat.left_le_or;constructor
 .intro h;refine Nat.le_antisymm ?_ ?_
  all_goals
   refine Nat.not_lt.mp fun hc=>?_;have hlt:(x &&& y) / 2 ^ k+1<=(x ||| y) / 2 ^ k:=by lia
   have hm:=SY (2 ^ k) hlt;rw[Ti,Nat.mul_one]at hm;lia
 .grind
theorem Dn (z k:Nat):(if ((z:Int)==0)=true then 0 else (z:Int).natAbs.log2+1)<=k↔z<2 ^ k:=by
 rw[Int.natAbs_natCast];by_cases h:z=0
 .subst h;rw[Pi (by decide)];exact⟨fun _=>Nat.two_pow_pos k,fun _=>Pq _⟩
 .have:¬ ((z:Int)==0)=true:=by simpa using h
  rw[Pl this];exact Nat.log2_lt h
end Pz
namespace L4
open PySem PySem.Spec PyProof.Rows L2 L3
section
variable {κ:Type}[DecidableEq κ]
noncomputable abbrev DX (κ:Type):=List (κ×Addr×List V)
noncomputable abbrev DX.kv (xs:DX κ):List (κ×V):=xs.map fun x=>(x.1,V.ref x.2.1)
structure DL (mk:List (κ×V)->HO) (H:Hp) (a:Addr) (xs:DX κ):Prop where
 root:H a=some (mk xs.kv)
 qp:∀ x∈xs,H x.2.1=some (.lst x.2.2)
 nk:(xs.map (·.1)).Nodup
 na:(xs.map (·.2.1)).Nodup
def cD (a:Addr)(xs:DX κ)(b:Addr):Prop:=b=a\/∃ x∈xs,b=x.2.1
noncomputable def fA (xs:DX κ)(k:κ):Option (Addr×List V):=(xs.find? fun x=>decide (x.1=k)).map (·.2)
noncomputable def ke (xs:DX κ)(k:κ)(v:V):DX κ:=xs.map fun x=>if x.1=k then (x.1,x.2.1,x.2.2++[v]) else x
theorem jb (xs:DX κ)(k:κ):cw xs.kv k=(fA xs k).map fun p=>.ref p.1:=by
 induction xs with
 |nil=>rfl
 |cons x r ih=>
  unfold fA at ih ⊢;show cw ((x.1,V.ref x.2.1)::DX.kv r) k=_;rw[Q_];by_cases h:x.1=k
  .rw[cY h,O_ h];rfl
  .rw[cZ h,Pp h,ih]
theorem xu (xs:DX κ)(k:κ)(v:V):(ke xs k v).kv=xs.kv:=by unfold ke DX.kv;rw[QC];apply Qa;intro x _;show((if x.1=k then (x.1,x.2.1,x.2.2++[v]) else x).1,V.ref (if x.1=k then (x.1,x.2.1,x.2.2++[v]) else x).2.1)=_;split<;>rfl
theorem mH {β:Type}(f:κ×Addr×List V->β)(hf:∀ a b c d,f (a,b,c)=f (a,b,d))(xs:DX κ)(k:κ)(v:V):(ke xs k v).map f=xs.map f:=by
 unfold ke;rw[QC];apply Qa;intro x _;show f (if x.1=k then (x.1,x.2.1,x.2.2++[v]) else x)=_;split
 .exact hf _ _ _ _
 .rfl
theorem de {xs:DX κ}(h:fA xs k=some p):(k,p)∈xs:=by unfold fA at h;obtain⟨x,hx,rfl⟩:=PU.mp h;have h1:=List.find?_some hx;have h2:=List.mem_of_find?_eq_some hx;have e:x.1=k:=PD h1;obtain⟨a,b⟩:=x;dsimp only at e;subst e;exact h2
theorem xw {xs:DX κ}(h:fA xs k=none):k∉xs.map (·.1):=fun hk=>by obtain⟨x,hx,rfl⟩:=Pb.mp hk;unfold fA at h;have:=List.find?_eq_none.mp (Option.map_eq_none_iff.mp h) x hx;simp at this
variable {mk:List (κ×V)->HO}
theorem DL.old (hmk:∀ q ws,mk q≠.lst ws)(G:DL mk H a xs)(hk:fA xs k=some p)(hm:H' p.1=some (.lst (p.2++[v])))(kp:∀ c u,H c=some u->c≠p.1->H' c=some u):DL mk H' a (ke xs k v):=by
 have hp:=de hk;have nap:a≠p.1:=fun e=>by have:=G.qp _ hp;dsimp only at this;rw[<- e,G.root]at this;exact hmk _ _ (Ps this)
 refine⟨by rw[xu];exact kp _ _ G.root nap,fun x hx=>?_,by rw[mH _ (fun _ _ _ _=>rfl)];exact G.nk,by rw[mH _ (fun _ _ _ _=>rfl)];exact G.na⟩;obtain⟨y,hy,rfl⟩:=Pb.mp hx;by_cases e:y.1=k
 .rw[Pi e];have:y=(k,p):=by
   have h1:(xs.map (·.1)).Nodup:=G.nk;obtain⟨i,hi⟩:=Pj.mp hy;obtain⟨j,hj⟩:=Pj.mp hp;have e1:(xs.map (·.1))[i]?=some k:=by rw[Pe,hi];exact QH some e
   have e2:(xs.map (·.1))[j]?=some k:=by rw[Pe,hj];rfl
   have:i=j:=(Td (O3.mp e1).1 h1).mp (e1.trans e2.symm);subst this;rw[hi]at hj;exact Ps hj
  subst this;exact hm
 .rw[Pl e];refine kp _ _ (G.qp y hy) fun q=>e ?_;obtain⟨i,hi⟩:=Pj.mp hy;obtain⟨j,hj⟩:=Pj.mp hp;have e1:(xs.map (·.2.1))[i]?=some p.1:=by rw[Pe,hi];exact QH some q
  have e2:(xs.map (·.2.1))[j]?=some p.1:=by rw[Pe,hj];rfl
  have:i=j:=(Td (O3.mp e1).1 G.na).mp (e1.trans e2.symm);subst this;rw[hi]at hj;rw[Ps hj]
theorem DL.new (hmk:∀ q ws,mk q≠.lst ws)(G:DL mk H a xs)(hk:fA xs k=none)(hl:H l=none)(hm:H' l=some (.lst [v]))(ha:H' a=some (mk (xs.kv++[(k,.ref l)])))(kp:∀ c u,H c=some u->c≠a->H' c=some u):DL mk H' a (xs++[(k,l,[v])]):=by
 have nl:∀ x∈xs,x.2.1≠l:=fun x hx e=>by have:=G.qp x hx;rw[e,hl]at this;cases this
 refine⟨by grind,fun x hx=>?_,?_,?_⟩
 .rcases Pf.mp hx with h|h
  .refine kp _ _ (G.qp x h) fun e=>?_;have:=G.qp x h;rw[e,G.root]at this;exact hmk _ _ (Ps this)
  .rw[O9]at h;subst h;exact hm
 .rw[PX,Q8];exact⟨G.nk,by simp,fun b hb c hc e=>by rw[Ph,Rr,O9]at hc;subst hc;subst e;exact xw hk hb⟩
 .rw[PX,Q8];exact⟨G.na,by simp,fun b hb c hc e=>by rw[Ph,Rr,O9]at hc;subst hc;subst e;obtain⟨x,hx,q⟩:=Pb.mp hb;exact nl x hx q⟩
end
def Reads (t:TE)(σ:L2.St)(H:Hp)(v:V):Prop:=∀ Q:VK,Q v H->t σ H Q
def Makes (t:TE)(σ:L2.St)(H:Hp)(ws:List V):Prop:=∀ Q:VK,(∀ p,H p=none->Q (.ref p) (upd H p (.tup ws)))->t σ H Q
section
variable {K:To}
theorem Reads.va (h:σ[i]?=some (some v)):Reads (av i) σ H v:=fun _ q=>⟨_,h,q⟩
theorem Reads.k:Reads (tC v) σ H v:=fun _ q=>q
theorem Reads.op (ha:Reads ta σ H x)(hb:Reads tb σ H y)(h:∀ Q:VK,Q z H->r x y H Q):Reads (aX r ta tb) σ H z:=fun Q q=>ha _ (hb _ (h Q q))
theorem Reads.ix (h:Reads ta σ H (.ref b))(hs:H b=some (.tup ws))(e:tz ws n=some v):Reads (aX (gT K) ta (tC (.int n))) σ H v:=h.op .k fun _ q=>⟨b,ws,n,v,rfl,rfl,SqT.of hs,e,q⟩
theorem Reads.fld (h:Reads ta σ H (.ref o))(hi:∃ dx,H o=some (.ins C dx fs))(cl:qu K C)(n:NoAttr K C f)(hl:fs.lookup f=some v):Reads (dN K ta f) σ H v:=fun Q q=>by obtain⟨dx,hi⟩:=hi;exact h _ ⟨o,C,dx,_,_,rfl,hi,cl,n,hl,q⟩
theorem F7 (h:Reads ta σ H (.ref o))(hi:∃ dx,H o=some (.ins C dx fs))(cl:qu K C)(n:NoAttr K C f)(hl:fs.lookup f=some v)(q:Q v H):dN K ta f σ H Q:=Reads.fld h hi cl n hl _ q
def ReadsA (t:TA)(σ:L2.St)(H:Hp)(vs:List V):Prop:=∀ Q:List V->Hp->Prop,Q vs H->t σ H Q
theorem ReadsA.ni:ReadsA aG σ H []:=fun _ q=>q
theorem ReadsA.c (h:Reads ta σ H v)(k:ReadsA tr σ H vs):ReadsA (ao ta tr) σ H (v::vs):=fun _ q=>h _ (k _ q)
theorem Makes.t (h:ReadsA tr σ H ws)(l:Nat.ble ws.length 9=true):Makes (b8 tr) σ H ws:=fun _ q=>h _ ⟨Pu (RM l) (by decide),q⟩
theorem gr (h:ReadsA tr σ H ws)(l:Nat.ble ws.length 9=true)(k:∀ p,H p=none->Q (.ref p) (upd H p (.tup ws))):b8 tr σ H Q:=Makes.t h l _ k
theorem rQ (h:Reads ta σ H (.ref b))(hi:∃ dx,H b=some (.ins C dx fs))(hl:fs.lookup m=none)(ha:ReadsA tr σ H vs)(k:sp (.ref b::(vs++dvs)) H Q E):dR C m sp dvs E ta tr σ H Q:=by obtain⟨dx,hi⟩:=hi;exact h _ ⟨b,dx,fs,rfl,hi,hl,ha _ k⟩
theorem BW {Q:L2.St->Hp->Prop}(ht:H b=some (.tup [v,w]))(k:Q ((σ.set i (some v)).set j (some w)) H):dX K 2 (bn (aE i) (bn (aE j) dW)) (.ref b) σ H Q:=⟨b,_,rfl,SqT.of ht,rfl,_,_,rfl,_,_,rfl,rfl,k⟩
theorem g9 {t u:TS}{D:Ends}(h:Reads te σ H (.bl c))(k1:c=true->t D σ H)(k2:¬ c=true->u D σ H):cI (bp te) t u D σ H:=h _ ⟨_,rfl,wC k1 k2⟩
end
def kg {κ:Type}[DecidableEq κ](xs:DX κ)(k:κ)(l:Addr)(v:V):DX κ:=if (fA xs k).isSome then ke xs k v else xs++[(k,l,[v])]
def mI (K:To) (to tk te:TE):TE:=tD K "list" cB (tD K "dict" uc to (ao tk (ao (cW aG) aG))) (ao te aG)
theorem vH {κ:Type}[DecidableEq κ]{mk:List (κ×V)->HO}(hmk:∀ q ws,mk q≠.lst ws){K:To}{te:TE}{σ:L2.St}{H:Hp}{a l:Addr}{xs:DX κ}{k:κ}{ws:List V}{C:Hp->Prop}(G:DL mk H a xs)(hl:H l=none)
 (hte:∀ H',(∀ c u,H c=some u->c≠a->H' c=some u)->Makes te σ H' ws) (hw:∀ x∈xs,x.2.2.length<16000000)
 (kk:∀(l p:Addr)(H':Hp),H l=none->H p=none->H' p=some (.tup ws)->DL mk H' a (kg xs k l (.ref p))->(∀ c u,H c=some u->¬ cD a xs c->H' c=some u)->C H') :
 (∃ v,cw xs.kv k=some v/\Ij K "list" v (upd H l (.lst []))/\ao te aG σ (upd H l (.lst [])) fun xs H2=>cB v xs H2 fun _ H'=>C H')\/(cw xs.kv k=none/\Ij K "list" (.ref l) (upd (upd H l (.lst [])) a (mk (bU xs.kv k (.ref l))))/\ao te aG σ (upd (upd H l (.lst [])) a (mk (bU xs.kv k (.ref l)))) fun xs H2=>cB (.ref l) xs H2 fun _ H'=>C H'):=by
 have sz:∀ n,n<16000000->n<sizeLine:=fun n h=>by rw[Pn];lia
 have han:H a≠none:=by rw[G.root];simp
 have nal:a≠l:=fun e=>han (by rw[e];exact hl);have kl:∀ c u,H c=some u->upd H l (.lst []) c=some u:=fun c u e=>by rw[aA (aB e hl)];exact e
 cases hf:fA xs k with
 |some q=>
  left;have hq:=G.qp _ (de hf);refine⟨.ref q.1,by rw[jb,hf];rfl,.inl ⟨rfl,_,SqL.of (kl _ _ hq)⟩,hte _ (fun c u e _=>kl c u e) _ fun p hp=>?_⟩;have hpH:H p=none:=(az hl).free hp;have nqp:q.1≠p:=fun e=>by grind
  refine⟨q.1,q.2,.ref p,rfl,rfl,by rw[aA nqp];exact kl _ _ hq,sz _ (hw _ (de hf)),?_⟩;have kp:∀ c u,H c=some u->c≠q.1->upd (upd (upd H l (.lst [])) p (.tup ws)) q.1 (.lst (q.2++[.ref p])) c=some u:=fun c u e hn=>by rw[aA hn,aA (aB e hpH)];exact kl c u e
  refine kk l p _ hl hpH (by rw[aA (Qn nqp),aj]) ?_ fun c u e hn=>kp c u e fun z=>hn (.inr ⟨_,de hf,z⟩);unfold kg;rw[hf,Pi (by simp)];exact G.old hmk hf aj kp
 |none=>
  right;refine⟨by rw[jb,hf];rfl,.inl ⟨rfl,[],SqL.of (by rw[aA (Qn nal),aj])⟩,hte _ (fun c u e hn=>by rw[aA hn];exact kl c u e) _ fun p hp=>?_⟩;have hvn:cw xs.kv k=none:=by rw[jb,hf];rfl
  have hpa:p≠a:=fun e=>by rw[e,aj]at hp;cases hp
  have hpl:p≠l:=fun e=>by rw[e,aA (Qn nal),aj]at hp;cases hp
  have hpH:H p=none:=by rw[aA hpa,aA hpl]at hp;exact hp
  refine⟨l,[],.ref p,rfl,rfl,by rw[aA (Qn hpl),aA (Qn nal),aj],by decide,?_⟩;refine kk l p _ hl hpH (by rw[aA hpl,aj]) ?_ fun c u e hn=>?_
  .unfold kg;rw[hf,Pl (by simp)];refine G.new hmk hf hl aj (by rw[aA nal,aA (Qn hpa),aj,gU _ hvn]) fun c u e hn=>?_;rw[aA (aB e hl),aA (aB e hpH),aA hn];exact kl c u e
  .rw[aA (aB e hl),aA (aB e hpH),aA (fun z=>hn (.inl z))];exact kl c u e
theorem pP {K:To}{to tk te:TE}{σ:L2.St}{H:Hp}{C:Hp->Prop}(G:DL .dT H a xs)(hto:Reads to σ H (.ref a))(htk:Reads tk σ H (.ref b))(hb:H b=some (.tup (k.map kV)))
 (hte:∀ H',(∀ c u,H c=some u->c≠a->H' c=some u)->Makes te σ H' ws) (hz:xs.length<16000000) (hw:∀ x∈xs,x.2.2.length<16000000)
 (kk:∀(l p:Addr)(H':Hp),H l=none->H p=none->H' p=some (.tup ws)->DL .dT H' a (kg xs k l (.ref p))->(∀ c u,H c=some u->¬ cD a xs c->H' c=some u)->C H') :
 mI K to tk te σ H fun _ H'=>C H':=by
 have kl:∀ l,H l=none->∀ c u,H c=some u->upd H l (.lst []) c=some u:=fun l hl c u e=>by rw[aA (aB e hl)];exact e
 exact hto _ ⟨.inr (.inr (.inl ⟨rfl,.inr ⟨_,G.root⟩⟩)),htk _ ⟨Pq _,fun l hl=>⟨a,b,k,.ref l,xs.kv,rfl,rfl,kl l hl _ _ hb,.inl (kl l hl _ _ G.root),by unfold DX.kv;rw[O2,Pn];lia,vH (mk:=.dT) (fun _ _ z=>HO.noConfusion z) G hl hte hw kk⟩⟩⟩
def ER (K:To) (to tk te:TE):TE:=tD K "list" cB (tD K "dict" EJ to (ao tk (ao (cW aG) aG))) (ao te aG)
theorem Do {K:To}{to tk te:TE}{σ:L2.St}{H:Hp}{C:Hp->Prop}(G:DL .dK H a xs)(hto:Reads to σ H (.ref a))(htk:Reads tk σ H (.int i))
 (hte:∀ H',(∀ c u,H c=some u->c≠a->H' c=some u)->Makes te σ H' ws) (hz:xs.length<16000000) (hw:∀ x∈xs,x.2.2.length<16000000)
 (kk:∀(l p:Addr)(H':Hp),H l=none->H p=none->H' p=some (.tup ws)->DL .dK H' a (kg xs (.inl i) l (.ref p))->(∀ c u,H c=some u->¬ cD a xs c->H' c=some u)->C H') :
 ER K to tk te σ H fun _ H'=>C H':=by
 have kl:∀ l,H l=none->upd H l (.lst []) a=some (.dK xs.kv):=fun l hl=>by rw[aA (aB G.root hl)];exact G.root
 exact hto _ ⟨.inr (.inr (.inl ⟨rfl,.inl ⟨_,G.root⟩⟩)),htk _ ⟨Pq _,fun l hl=>⟨a,.inl i,.ref l,xs.kv,rfl,rfl,.inl (kl l hl),by unfold DX.kv;rw[O2,Pn];lia,vH (mk:=.dK) (fun _ _ z=>HO.noConfusion z) G hl hte hw kk⟩⟩⟩
section
def ES:V->List V->Hp->VK->Prop:=fun x xs H Q=>∃ i,x=.int i/\xs=[]/\Q (.int (Builtin.Int.intBits i)) H
theorem Dq:FI X "int.bit_length" ES:=by intro ai s σ H x xs v us Q I rx rs q;obtain⟨i,rfl,rfl,q⟩:=q;obtain⟨t,rfl⟩:=rx;cases rs;exact call_int_bit_length ⟨.int _,H,I.tok _,⟨_,rfl⟩,q⟩
end
structure HE (C:Addr) (H:Hp) (q ap:Addr) (last:Int) (xs:DX bC):Prop where
 ins:∃ dx,H q=some (.ins C dx [("last",.int last),("piles",.ref ap)])
 aQ:DL .dK H ap xs
 jf:xs.length<16000000
 low:∀ x∈xs,x.2.2.length<16000000
structure qx (K:To) (C:Addr):Prop where
 cl:qu K C
 nl:NoAttr K C "last"
 np:NoAttr K C "piles"
noncomputable def aF (price last:Int):Int:=Builtin.Int.intBits (Builtin.bitXor price last)
def IK (K:To):TE:=ER K (dN K (av 0) "piles") (CH K "int" ES (aX (qJ fun i j=>.int (Builtin.bitXor i j)) (av 1) (dN K (av 0) "last"))) (b8 (ao (av 1) (ao (av 2) aG)))
theorem F8 {K:To}{C q ap b:Addr}{H:Hp}{Cn:Hp->Prop}(T:qx K C)(G:HE C H q ap last xs)(h0:σ[0]?=some (some (.ref q)))(h1:σ[1]?=some (some (.int price)))(h2:σ[2]?=some (some (.ref b)))
 (kk:∀(l p:Addr)(H':Hp),H l=none->H p=none->H' p=some (.tup [.int price,.ref b])->(∃ dx,H' q=some (.ins C dx [("last",.int last),("piles",.ref ap)]))->DL .dK H' ap (kg xs (.inl (aF price last)) l (.ref p))->(∀ c u,H c=some u->¬ cD ap xs c->H' c=some u)->Cn H') :
 IK K σ H fun _ H'=>Cn H':=by
 obtain⟨dx,hq⟩:=G.ins;have nq:¬ cD ap xs q:=fun z=>by
  rcases z with z|⟨x,hx,z⟩
  .have:=G.aQ.root;rw[<- z,hq]at this;cases this
  .have:=G.aQ.qp x hx;rw[<- z,hq]at this;cases this
 refine Do (ws:=[.int price,.ref b]) (i:=aF price last) G.aQ (fun Q h=>⟨_,h0,q,C,dx,_,_,rfl,hq,T.cl,T.np,rfl,h⟩) (fun Q h=>?_) (fun H' _ Q h=>⟨_,h1,_,h2,(by show 2<=sizeLine;decide),h⟩) G.jf G.low fun l p H' hl hp hm hd kp=>kk l p H' hl hp hm ⟨dx,kp _ _ hq nq⟩ hd kp;exact⟨_,h1,_,h0,q,C,dx,_,_,rfl,hq,T.cl,T.nl,rfl,_,_,rfl,rfl,rfl,_,rfl,rfl,h⟩
inductive oV (C:Addr):Sp
 |mk {q ap b:Addr} {last price:Int} {xs:DX bC} {H:Hp} {Q:VK} {E:XK} (G:HE C H q ap last xs) (k:∀(l p:Addr)(H':Hp),H l=none->H p=none->H' p=some (.tup [.int price,.ref b])->(∃ dx,H' q=some (.ins C dx [("last",.int last),("piles",.ref ap)]))->DL .dK H' ap (kg xs (.inl (aF price last)) l (.ref p))->(∀ c u,H c=some u->¬ cD ap xs c->H' c=some u)->Q .bJ H'):oV C [.ref q,.int price,.ref b] H Q E
theorem xx (h:oV C vs H Q E):vs.length=3:=by cases h;rfl
theorem z8 {K:To}{C:Addr}{vs:List V}(T:qx K C)(h:oV C vs H Q E)(hN:N.length=3):cg (IK K) (eQ Q) (bh N vs) H:=by obtain⟨G,k⟩:=h;exact F8 T G rfl rfl rfl k
section
variable {κ:Type}[DecidableEq κ]{mk:List (κ×V)->HO}{H H':Hp}{a:Addr}{xs:DX κ}{k:κ}{p:Addr×List V}
noncomputable def jE (xs:DX κ)(k:κ):DX κ:=xs.filter fun x=>decide (x.1≠k)
theorem z9 (xs:DX κ)(k:κ):(jE xs k).kv=iP xs.kv k:=by unfold jE iP DX.kv;rw[List.filter_map];rfl
theorem DL.drop (hmk:∀ q ws,mk q≠.lst ws)(G:DL mk H a xs)(hk:fA xs k=some p)(ha:H' a=some (mk (iP xs.kv k)))(kp:∀ c u,H c=some u->c≠a->H' c=some u) :
 DL mk H' a (jE xs k)/\H' p.1=some (.lst p.2)/\¬ cD a (jE xs k) p.1:=by
 have hp:=de hk;have nap:∀ x∈xs,x.2.1≠a:=fun x hx e=>by have:=G.qp x hx;rw[e,G.root]at this;exact hmk _ _ (Ps this)
 have sub:(jE xs k).Sublist xs:=List.filter_sublist;refine⟨⟨by rw[z9];exact ha,fun x hx=>?_,(sub.map _).nodup G.nk,(sub.map _).nodup G.na⟩,kp _ _ (G.qp _ hp) (nap _ hp),fun z=>?_⟩
 .have hx':=(P0.mp hx).1;exact kp _ _ (G.qp x hx') (nap x hx')
 .rcases z with z|⟨x,hx,z⟩
  .exact nap _ hp z
  .obtain⟨h1,h2⟩:=P0.mp hx;have hne:x.1≠k:=PD h2;obtain⟨i,hi⟩:=Pj.mp h1;obtain⟨j,hj⟩:=Pj.mp hp;have e1:(xs.map (·.2.1))[i]?=some p.1:=by grind
   have e2:(xs.map (·.2.1))[j]?=some p.1:=by grind
   have:i=j:=(Td (O3.mp e1).1 G.na).mp (e1.trans e2.symm);subst this;rw[hi]at hj;exact hne (by grind)
end
end L4
namespace L4
open PySem PySem.Spec PySem.Calls PyProof.Rows L2 L3
section
abbrev rR (v d:Addr):HO:=.ext fun h=>PySem.W.KdlKeysView h v d
def ET:V->List V->Hp->VK->Prop:=fun x xs H Q=>∃ a kvs,x=.ref a/\xs=[]/\H a=some (.dK kvs)/\∀ v,H v=none->Q (.ref v) (upd H v (rR v a))
theorem Ds:FI X "dict.keys" ET:=by intro ai s σ H x xs v us Q I rx rs q;obtain⟨a,kvs,rfl,rfl,ha,q⟩:=q;obtain rfl:v=Value.ref a:=rx;cases rs;obtain⟨z,hd,vs,rel,dd⟩:=qP I.be ha;refine Sf PySem.F.slot_dict_keys dd.typeIs PySem.F.entry_dict_keys (PySem.F.args_dict_keys_1 _) (PySem.W.kdl_meets_keys (aV X.prog X.w) a hd) ?_;have hv:PySem.W.KdlKeysView (s.heap.push { cls:=.type "dict_keys",data:=.fields #[.ref a] }) s.heap.objs.size a:=⟨_,Pc _ rfl,rfl,rfl⟩;exact⟨⟨vs,dd⟩,.ref s.heap.objs.size,_,I.laid (a:=s.heap.objs.size) (o:=rR s.heap.objs.size a) (t':=s.toks) (fun _ _ e=>OZ _ e) (O0 _) ⟨hv,⟨_,Pc _ rfl⟩,fun h1 h2 ⟨o,ho,r⟩ k=>⟨o,k _ ho,r⟩⟩,rfl,q _ (I.be.fresh (O0 _))⟩
def EU:List V->Hp->VK->Prop:=fun xs H Q=>∃(v a:Addr)(kvs:List (bC×V))(ns:List Int),xs=[.ref v]/\H v=some (rR v a)/\H a=some (.dK kvs)/\kvs.map (·.1)=ns.map Sum.inl/\ns≠[]/\Q (.int (pG ns)) H
theorem xy (hc:X.calm=true):cm X (.builtin "min") EU:=by
 intro ai s σ H xs us Q I r q;obtain⟨v,a,kvs,ns,rfl,hv,ha,hk,hne,q⟩:=q;obtain⟨u,rfl,ru⟩:=eZ r;obtain rfl:u=Value.ref v:=ru;obtain⟨z,hd,vs,rel,dd⟩:=qP I.be ha;obtain⟨hv',_,_⟩:=(show ObjOk X.prog X.w H s.heap v (rR v a) from I.be v _ hv);obtain⟨ep,da⟩:=dd.dictAt;have hl:=rel.length;have hkn:kvs.length=ns.length:=by have:=QH List.length hk;simpa using this
 have hvk:∀(i:Nat)(k:bC)(x:Tq),vs[i]?=some (k,x)->∃ n,ns[i]?=some n/\k=.inl n:=fun i k x e=>by
  have hi:i<kvs.length:=by rw[hl];exact(O3.mp e).1
  obtain⟨e1,_⟩:=rel.at i _ _ (O1 hi) e;have e2:(kvs.map (·.1))[i]?=some k:=by rw[Pe,O1 hi];exact QH some e1
  rw[hk,Pe]at e2;obtain⟨n,h1,h2⟩:=PU.mp e2;exact⟨n,h1,h2.symm⟩
 generalize hps:(ns.map fun n=>(n,(0:Tok))).toArray=ps;have hsz:ps.size=ns.length:=by rw[<- hps];simp
 have hna:∀(i:Nat)(n:Int),ns[i]?=some n->numAt ps i=n:=fun i n e=>by unfold numAt;rw[<- hps];simp[e]
 have hpn:ps.toList.map (·.1)=ns:=by rw[<- hps];simp[Function.comp_def]
 have hpos:0<ns.length:=SX.mpr hne;have hne2:a≠s.heap.objs.size:=by obtain⟨o,_,_,ho,_⟩:=dd;exact Pt (Pa ho)
 refine call_min_walk (PySem.W.kdl_pyIter_keys (knd:=aV X.prog X.w) (s:=s) hv' da ?_);refine⟨_,_,_,_,_,_,_,rfl,Walks.dictKeys (knd:=aV X.prog X.w) (A:=X.A.in1) (I.ok.hd hc) s.heap.objs.size a hne2 vs ep,⟨⟨_,Pc _ rfl,rfl,rfl⟩,da.at' fun o e=>OZ _ e⟩,fun b hb=>?_,by lia,CmpOf.ints_lt (numAt ps) (fun i v hv=>?_),fun v h' tk hP kp=>?_⟩
 .simp only[O8,Pd,SR]at hb;rw[Rh];rcases hb with rfl|rfl
  .exact QO _
  .obtain⟨o,_,_,ho,_⟩:=dd;exact Rn (Pa ho)
 .obtain⟨k,x,e1,e2⟩:=hv;obtain⟨n,e3,rfl⟩:=hvk i k x e1;obtain⟨j,t,e4,rfl⟩|⟨j,t,e4,_⟩:=bA (show iO (.inl n) v=true from e2)
  .cases e4;exact⟨t,by rw[hna i n e3]⟩
  .cases e4
 .obtain⟨k,x,e1,e2⟩:=hP;obtain⟨n,e3,rfl⟩:=hvk _ k x e1;obtain⟨j,t,e4,rfl⟩|⟨j,t,e4,_⟩:=bA (show iO (.inl n) v=true from e2)
  .cases e4;have hb:=mj ps (vs.length-1) (by lia);rw[hna _ n e3,hpn,Qh (by lia)]at hb;exact⟨.int n,H,I.kept (t':=tk) fun b o e=>kp b o (fun hm=>by rw[O9]at hm;subst hm;exact QV _ (Pa e)) (OZ _ e),⟨t,rfl⟩,by rw[hb];exact q⟩
  .cases e4
end
end L4
namespace L4
open PySem PySem.Spec PyProof.Rows L2 L3
inductive aO {α β:Type} (R:α->β->Prop):List α->List β->Prop where
 |nil:aO R [] []
 |cons {x y xs ys}:R x y->aO R xs ys->aO R (x::xs) (y::ys)
section
variable {α β:Type}{R R':α->β->Prop}
theorem aO.len (h:aO R xs ys):xs.length=ys.length:=by
 induction h with
 |nil=>rfl
 |cons _ _ ih=>rw[Pg,Pg,ih]
theorem aO.mono (f:∀ x y,R x y->R' x y)(h:aO R xs ys):aO R' xs ys:=by
 induction h with
 |nil=>exact .nil
 |cons a _ ih=>exact .cons (f _ _ a) ih
theorem aO.snoc (h:aO R xs ys)(r:R x y):aO R (xs++[x]) (ys++[y]):=by
 induction h with
 |nil=>exact .cons r .nil
 |cons a _ ih=>exact .cons a ih
theorem aO.get (h:aO R xs ys){i:Nat}(e:ys[i]?=some y):∃ x,xs[i]?=some x/\R x y:=by
 induction h generalizing i with
 |nil=>simp at e
 |cons a _ ih=>
  cases i with
  |zero=>simp at e;subst e;exact⟨_,rfl,a⟩
  |succ i=>simp at e;obtain⟨x,e1,e2⟩:=ih e;exact⟨x,by simpa using e1,e2⟩
theorem aO.KC {γ δ:Type}{T:γ->δ->Prop}(f:α->γ)(g:β->δ)(k:∀ x y,R x y->T (f x) (g y))(h:aO R xs ys):aO T (xs.map f) (ys.map g):=by
 induction h with
 |nil=>exact .nil
 |cons a _ ih=>exact .cons (k _ _ a) ih
end
def KT (H H':Hp):Prop:=∀ a ws,H a=some (.tup ws)->H' a=some (.tup ws)
section
variable {κ κ' α:Type}[DecidableEq κ][DecidableEq κ'](key:κ->κ')(it:Hp->α->V->Prop)
abbrev RepM (H:Hp)(d:Pz.MD κ α)(xs:DX κ'):Prop:=aO (fun x y=>y.1=key x.1/\aO (it H) x.2 y.2.2) d xs
variable {key it}
theorem RepM.keep (hm:∀ a v,it H a v->it H' a v)(h:RepM key it H d xs):RepM key it H' d xs:=h.mono fun _ _ ⟨e,a⟩=>⟨e,a.mono hm⟩
theorem RepM.find (inj:∀ a b,key a=key b->a=b)(h:RepM key it H d xs)(k:κ) :
 (fA xs (key k)=none/\d.has k=false/\d.get k=[])\/∃ p,fA xs (key k)=some p/\d.has k=true/\aO (it H) (d.get k) p.2:=by
 induction h with
 |nil=>exact .inl ⟨rfl,rfl,rfl⟩
 | @cons x y d xs r _ ih=>
  unfold fA at ih ⊢;unfold Pz.MD.has at ih ⊢;rw[Q_,Pz.db,RP];by_cases e:x.1=k
  .right;have:y.1=key k:=by rw[r.1,e]
   rw[O_ this,O_ e,Pi e];exact⟨y.2,rfl,rfl,r.2⟩
  .have:¬ y.1=key k:=fun z=>e (inj _ _ (r.1.symm.trans z));rw[Pp this,Pp e,Pl e,Bool.false_or];exact ih
theorem RepM.add (inj:∀ a b,key a=key b->a=b)(hm:∀ a v,it H a v->it H' a v)(h:RepM key it H d xs)(hv:it H' v (.ref p)):RepM key it H' (d.app k v) (kg xs (key k) l (.ref p)):=by
 have h':=h.keep hm;unfold Pz.MD.app kg;rcases h.find inj k with⟨e1,e2,_⟩|⟨q,e1,e2,_⟩
 .rw[e1,e2];exact h'.snoc ⟨rfl,.cons hv .nil⟩
 .rw[e1,e2];refine h'.KC _ _ fun x y ⟨r1,r2⟩=>?_;by_cases e:x.1=k
  .have:y.1=key k:=by rw[r1,e]
   rw[Pi e,Pi this];exact⟨r1,r2.snoc hv⟩
  .grind
theorem RepM.drop (inj:∀ a b,key a=key b->a=b)(h:RepM key it H d xs)(k:κ):RepM key it H (d.drop k) (jE xs (key k)):=by
 induction h with
 |nil=>exact .nil
 | @cons x y d xs r _ ih=>
  unfold Pz.MD.drop jE at ih ⊢;by_cases e:x.1=k
  .have:y.1=key k:=by rw[r.1,e]
   rw[Q3 (by simpa using e),Q3 (by simpa using this)];exact ih
  .have:¬ y.1=key k:=fun z=>e (inj _ _ (r.1.symm.trans z));rw[Q5 (by simpa using e),Q5 (by simpa using this)];exact .cons r ih
theorem RepM.keys (h:RepM key it H d xs):xs.map (·.1)=d.keys.map key:=by
 induction h with
 |nil=>rfl
 |cons r _ ih=>grind
theorem RepM.low (h:RepM key it H d xs)(hn:d.flat.length<n):∀ x∈xs,x.2.2.length<n:=by
 induction h with
 |nil=>exact fun _ h=>(Pd h).elim
 | @cons x y d xs r _ ih=>
  unfold Pz.MD.flat at hn ih;rw[RR,O6]at hn;intro z hz;rcases O8.mp hz with rfl|hz
  .have:=r.2.len;lia
  .exact ih (by lia) z hz
end
noncomputable def vO:Option Int->V
 |none=>.bJ
 |some i=>.int i
noncomputable def f9 (a:Pz.Arr):List V:=[.int a.1,.int a.2.1,.int a.2.2]
def IsArr (H:Hp)(a:Pz.Arr)(v:V):Prop:=∃ p,v=.ref p/\H p=some (.tup (f9 a))
def IsRule (H:Hp)(r:Pz.Rule)(v:V):Prop:=∃ p q,v=.ref p/\H p=some (.tup [.int r.1,.int r.2.1,.int r.2.2.1,.ref q])/\H q=some (.tup (r.2.2.2.map .int))
def IsVal (H:Hp)(x:Pz.nv)(v:V):Prop:=∃ p,v=.ref p/\H p=some (.tup [.int x.1,vO x.2.1,vO x.2.2])
def IsItem (H:Hp)(x:Int×Pz.Arr)(v:V):Prop:=∃ p w,v=.ref p/\H p=some (.tup [.int x.1,w])/\IsArr H x.2 w
def IsSet (H:Hp)(x:Int×Int)(v:V):Prop:=∃ p,v=.ref p/\H p=some (.tup [.int x.1,.int x.2])
def IsLack (H:Hp)(x:Int×Pz.Rule×Int)(v:V):Prop:=∃ p w,v=.ref p/\H p=some (.tup [.int x.1,w,.int x.2.2])/\IsRule H x.2.1 w
def IsNum (H:Hp)(x:Int×Pz.Rule)(v:V):Prop:=∃ p w,v=.ref p/\H p=some (.tup [.int x.1,w])/\IsRule H x.2 w
section
variable (k:KT H H')
include k
theorem IsArr.keep (a:Pz.Arr)(v:V):IsArr H a v->IsArr H' a v:=fun⟨p,e,h⟩=>⟨p,e,k _ _ h⟩
theorem IsRule.keep (a:Pz.Rule)(v:V):IsRule H a v->IsRule H' a v:=fun⟨p,q,e,h,g⟩=>⟨p,q,e,k _ _ h,k _ _ g⟩
theorem IsVal.keep (a:Pz.nv)(v:V):IsVal H a v->IsVal H' a v:=fun⟨p,e,h⟩=>⟨p,e,k _ _ h⟩
theorem IsItem.keep (a:Int×Pz.Arr)(v:V):IsItem H a v->IsItem H' a v:=fun⟨p,w,e,h,g⟩=>⟨p,w,e,k _ _ h,IsArr.keep k _ _ g⟩
theorem IsSet.keep (a:Int×Int)(v:V):IsSet H a v->IsSet H' a v:=fun⟨p,e,h⟩=>⟨p,e,k _ _ h⟩
theorem IsLack.keep (a:Int×Pz.Rule×Int)(v:V):IsLack H a v->IsLack H' a v:=fun⟨p,w,e,h,g⟩=>⟨p,w,e,k _ _ h,IsRule.keep k _ _ g⟩
theorem IsNum.keep (a:Int×Pz.Rule)(v:V):IsNum H a v->IsNum H' a v:=fun⟨p,w,e,h,g⟩=>⟨p,w,e,k _ _ h,IsRule.keep k _ _ g⟩
end
noncomputable def ak (a:Pz.Arr):List bC:=[.inl a.1,.inl a.2.1,.inl a.2.2]
theorem ur (a b:Pz.Arr)(h:ak a=ak b):a=b:=by grind [ak]
noncomputable def k2 (k:Int×Int):List bC:=[.inl k.1,.inl k.2]
theorem jc (a b:Int×Int)(h:k2 a=k2 b):a=b:=by grind [k2]
noncomputable def k1 (i:Int):bC:=.inl i
theorem kh (a b:Int)(h:k1 a=k1 b):a=b:=Sum.inl.inj h
abbrev RepT (H:Hp)(t:Pz.TD)(kt:List (List bC×V)):Prop:=aO (fun x y=>y.1=ak x.1/\IsVal H x.2 y.2) t kt
theorem RepT.keep (k:KT H H')(h:RepT H t kt):RepT H' t kt:=h.mono fun _ _ ⟨e,a⟩=>⟨e,IsVal.keep k _ _ a⟩
theorem RepT.find (h:RepT H t kt)(a:Pz.Arr) :
 (cw kt (ak a)=none/\Pz.bK t a=none)\/∃ v x,cw kt (ak a)=some v/\Pz.bK t a=some x/\IsVal H x v:=by
 induction h with
 |nil=>exact .inl ⟨rfl,rfl⟩
 | @cons x y t kt r _ ih=>
  rw[Pz.cR];by_cases e:x.1=a
  .have:y.1=ak a:=by rw[r.1,e]
   rw[Pi e,cY this];exact .inr ⟨_,_,rfl,rfl,r.2⟩
  .have:¬ y.1=ak a:=fun z=>e (ur _ _ (r.1.symm.trans z));rw[Pl e,cZ this];exact ih
theorem RepT.put (h:RepT H t kt)(hv:IsVal H x v):RepT H (Pz.tput t a x) (bU kt (ak a) v):=by
 unfold Pz.tput bU;rw[fU];rcases h.find a with⟨e1,e2⟩|⟨w,y,e1,e2,_⟩
 .rw[e1,e2];exact h.snoc ⟨rfl,hv⟩
 .rw[e1,e2];refine h.KC _ _ fun z y ⟨r1,r2⟩=>?_;by_cases e:z.1=a
  .have:y.1=ak a:=by rw[r1,e]
   rw[Pi e,Pi this];exact⟨r1,hv⟩
  .have:¬ y.1=ak a:=fun q=>e (ur _ _ (r1.symm.trans q));rw[Pl e,Pl this];exact⟨r1,r2⟩
theorem iz {κ:Type}[DecidableEq κ]{xs:DX κ}{k:κ}{l a c:Addr}{v:V}(h:cD a (kg xs k l v) c):cD a xs c\/c=l:=by
 rcases h with h|⟨x,hx,h⟩
 .exact .inl (.inl h)
 .unfold kg at hx;split at hx
  .obtain⟨y,hy,rfl⟩:=Pb.mp hx;refine .inl (.inr ⟨y,hy,?_⟩);rw[h];split<;>rfl
  .rcases Pf.mp hx with hx|hx
   .exact .inl (.inr ⟨x,hx,h⟩)
   .rw[O9]at hx;subst hx;exact .inr h
section
variable {κ κ' α:Type}[DecidableEq κ][DecidableEq κ'](mk:List (κ'×V)->HO)(key:κ->κ')(it:Hp->α->V->Prop)
structure PM (col:Addr->Nat) (j:Nat) (B H:Hp) (a:Addr) (dd:Pz.MD κ α) (xs:DX κ'):Prop where
 d:DL mk H a xs
 r:RepM key it H dd xs
 c:∀ c,cD a xs c->col c=j/\B c=none
variable {mk key it}{d:Pz.MD κ α}
theorem DL.obj (h:DL mk H a xs)(hc:cD a xs c):H c≠none:=by
 grind [DL,cD]
theorem DL.keep (h:DL mk H a xs)(kp:∀ c u,H c=some u->cD a xs c->H' c=some u):DL mk H' a xs:=⟨kp _ _ h.root (.inl rfl),fun x hx=>kp _ _ (h.qp x hx) (.inr ⟨x,hx,rfl⟩),h.nk,h.na⟩
theorem PM.keep (h:PM mk key it col j B H a d xs)(hit:∀ x v,it H x v->it H' x v)(kp:∀ c u,H c=some u->col c=j->H' c=some u)(hc:∀ c,H c≠none->col' c=col c):PM mk key it col' j B H' a d xs:=⟨h.d.keep fun c u e i=>kp c u e (h.c c i).1,h.r.keep hit,fun c i=>⟨by rw[hc c (h.d.obj i)];exact(h.c c i).1,(h.c c i).2⟩⟩
theorem DL.kt (hmk:∀ q ws,mk q≠.tup ws)(h:DL mk H a xs)(kp:∀ c u,H c=some u->¬ cD a xs c->H' c=some u):KT H H':=by
 grind [DL,cD,KT]
noncomputable def pQ (col:Addr->Nat)(j:Nat)(H:Hp):Addr->Nat:=fun c=>open Classical in if H c=none then j else col c
theorem bF (hc:H a≠none):pQ col j H a=col a:=by unfold pQ;rw[Pl hc]
theorem z_ (hc:H a=none):pQ col j H a=j:=by unfold pQ;rw[Pi hc]
theorem PM.new (h:PM mk key it col j B H a d xs)(sm:Same B H)(h1:DL mk H' a xs')(h2:RepM key it H' d' xs')(hn:∀ c,cD a xs' c->cD a xs c\/H c=none):PM mk key it (pQ col j H) j B H' a d' xs':=
 ⟨h1,h2,fun c i=>by
   rcases hn c i with i|e
   .rw[bF (h.d.obj i)];exact h.c c i
   .exact⟨z_ e,sm.free e⟩⟩
theorem PM.base (h:PM mk key it col j B H a d xs)(hb:∀ c,cD a xs c->B' c=none):PM mk key it col j B' H a d xs:=⟨h.d,h.r,fun c i=>⟨(h.c c i).1,hb c i⟩⟩
end
structure PA where
 o:Addr
 ta:Addr
 aq:Addr
 ap:Addr
 sa:Addr
 la:Addr
 ar:Addr
noncomputable def pf (A:PA):List (Str×V):=[("rules",.ref A.ar),("told",.ref A.ta),("offers",.ref A.aq),("settled",.ref A.sa),("lacking",.ref A.la)]
noncomputable abbrev qf (A:PA) (last:Int):List (Str×V):=[("last",.int last),("piles",.ref A.ap)]
structure PO (CP CQ:Addr) (col:Addr->Nat) (B H:Hp) (A:PA) (last:Int) (t:Pz.TD) (kt:List (List bC×V)):Prop where
 ins:∃ dx,H A.o=some (.ins CP dx (pf A))
 B4:∃ dx,H A.aq=some (.ins CQ dx (qf A last))
 td:H A.ta=some (.dT kt)
 tr:RepT H t kt
 c5:col A.ta=5/\B A.ta=none
 c6:col A.o=6/\B A.o=none
 c7:col A.aq=7/\B A.aq=none
structure bD (CP CQ:Addr) (B H:Hp) (A:PA) (rs:Pz.RS) (S:Pz.PS) (xs xl xr:DX (List bC)) (xp:DX bC) (kt:List (List bC×V)) (col:Addr->Nat):Prop where
 same:Same B H
 p1:PM .dK k1 IsItem col 1 B H A.ap S.aQ xp
 p2:PM .dT k2 IsSet col 2 B H A.sa S.settled xs
 p3:PM .dT k2 IsLack col 3 B H A.la S.aR xl
 p4:PM .dT k2 IsNum col 4 B H A.ar rs xr
 po:PO CP CQ col B H A S.last S.told kt
def PAt (CP CQ:Addr)(B H:Hp)(A:PA)(rs:Pz.RS)(S:Pz.PS)(xs xl xr:DX (List bC)):Prop:=∃ xp kt col,bD CP CQ B H A rs S xs xl xr xp kt col
section
theorem PO.keep (h:PO CP CQ col B H A last t kt)(k:KT H H')(kp:∀ c u,H c=some u->5<=col c->col c<=7->H' c=some u)(hc:∀ c,H c≠none->col' c=col c):PO CP CQ col' B H' A last t kt:=by
 obtain⟨⟨dx,h1⟩,⟨dy,h2⟩,h3,h4,c5,c6,c7⟩:=h;refine⟨⟨dx,kp _ _ h1 (by lia) (by lia)⟩,⟨dy,kp _ _ h2 (by lia) (by lia)⟩,kp _ _ h3 (by lia) (by lia),h4.keep k,?_,?_,?_⟩
 .rw[hc _ (by grind)];exact c5
 .rw[hc _ (by grind)];exact c6
 .rw[hc _ (by grind)];exact c7
theorem bD.pile (h:bD CP CQ B H A rs S xs xl xr xp kt col)(h1:DL .dK H' A.ap xp')(h2:RepM k1 IsItem H' d' xp')(hn:∀ c,cD A.ap xp' c->cD A.ap xp c\/H c=none)
 (kp:∀ c u,H c=some u->¬ cD A.ap xp c->H' c=some u):bD CP CQ B H' A rs { S with aQ:=d' } xs xl xr xp' kt (pQ col 1 H):=by
 have k:KT H H':=h.p1.d.kt (fun _ _ z=>HO.noConfusion z) kp;have kj:∀ c u,H c=some u->col c≠1->H' c=some u:=fun c u e n=>kp c u e fun i=>n (h.p1.c c i).1;exact⟨(fun c u e=>kp c u (h.same c u e) fun i=>by rw[(h.p1.c c i).2]at e;cases e),h.p1.new h.same h1 h2 hn,h.p2.keep (IsSet.keep k) (fun c u e z=>kj c u e (by lia)) fun c=>bF,h.p3.keep (IsLack.keep k) (fun c u e z=>kj c u e (by lia)) fun c=>bF,h.p4.keep (IsNum.keep k) (fun c u e z=>kj c u e (by lia)) fun c=>bF,h.po.keep k (fun c u e z _=>kj c u e (by lia)) fun c=>bF⟩
theorem bD.MO (h:bD CP CQ B H A rs S xs xl xr xp kt col)(h1:DL .dT H' A.sa xs')(h2:RepM k2 IsSet H' d' xs')(hn:∀ c,cD A.sa xs' c->cD A.sa xs c\/H c=none)
 (kp:∀ c u,H c=some u->¬ cD A.sa xs c->H' c=some u):bD CP CQ B H' A rs { S with settled:=d' } xs' xl xr xp kt (pQ col 2 H):=by
 have k:KT H H':=h.p2.d.kt (fun _ _ z=>HO.noConfusion z) kp;have kj:∀ c u,H c=some u->col c≠2->H' c=some u:=fun c u e n=>kp c u e fun i=>n (h.p2.c c i).1;exact⟨(fun c u e=>kp c u (h.same c u e) fun i=>by rw[(h.p2.c c i).2]at e;cases e),h.p1.keep (IsItem.keep k) (fun c u e z=>kj c u e (by lia)) fun c=>bF,h.p2.new h.same h1 h2 hn,h.p3.keep (IsLack.keep k) (fun c u e z=>kj c u e (by lia)) fun c=>bF,h.p4.keep (IsNum.keep k) (fun c u e z=>kj c u e (by lia)) fun c=>bF,h.po.keep k (fun c u e z _=>kj c u e (by lia)) fun c=>bF⟩
theorem bD.pN (h:bD CP CQ B H A rs S xs xl xr xp kt col)(h1:DL .dT H' A.la xl')(h2:RepM k2 IsLack H' d' xl')(hn:∀ c,cD A.la xl' c->cD A.la xl c\/H c=none)
 (kp:∀ c u,H c=some u->¬ cD A.la xl c->H' c=some u):bD CP CQ B H' A rs { S with aR:=d' } xs xl' xr xp kt (pQ col 3 H):=by
 have k:KT H H':=h.p3.d.kt (fun _ _ z=>HO.noConfusion z) kp;have kj:∀ c u,H c=some u->col c≠3->H' c=some u:=fun c u e n=>kp c u e fun i=>n (h.p3.c c i).1;exact⟨(fun c u e=>kp c u (h.same c u e) fun i=>by rw[(h.p3.c c i).2]at e;cases e),h.p1.keep (IsItem.keep k) (fun c u e z=>kj c u e (by lia)) fun c=>bF,h.p2.keep (IsSet.keep k) (fun c u e z=>kj c u e (by lia)) fun c=>bF,h.p3.new h.same h1 h2 hn,h.p4.keep (IsNum.keep k) (fun c u e z=>kj c u e (by lia)) fun c=>bF,h.po.keep k (fun c u e z _=>kj c u e (by lia)) fun c=>bF⟩
theorem bD.more (h:bD CP CQ B H A rs S xs xl xr xp kt col)(s:Same H H'):bD CP CQ B H' A rs S xs xl xr xp kt col:=by have k:KT H H':=fun a ws e=>s a _ e;exact⟨h.same.trans s,h.p1.keep (IsItem.keep k) (fun c u e _=>s c u e) fun _ _=>rfl,h.p2.keep (IsSet.keep k) (fun c u e _=>s c u e) fun _ _=>rfl,h.p3.keep (IsLack.keep k) (fun c u e _=>s c u e) fun _ _=>rfl,h.p4.keep (IsNum.keep k) (fun c u e _=>s c u e) fun _ _=>rfl,h.po.keep k (fun c u e _ _=>s c u e) fun _ _=>rfl⟩
theorem PAt.more (h:PAt CP CQ B H A rs S xs xl xr)(s:Same H H'):PAt CP CQ B H' A rs S xs xl xr:=let ⟨xp,kt,col,h⟩:=h;⟨xp,kt,col,h.more s⟩
theorem bD.tell (h:bD CP CQ B H A rs S xs xl xr xp kt col)(hp:H p=some (.tup [.int x.1,vO x.2.1,vO x.2.2])) :
 bD CP CQ B (upd H A.ta (.dT (bU kt (ak a) (.ref p)))) A rs { S with told:=Pz.tput S.told a x } xs xl xr xp (bU kt (ak a) (.ref p)) col:=by
 have kp:∀ c u,H c=some u->col c≠5->upd H A.ta (.dT (bU kt (ak a) (.ref p))) c=some u:=fun c u e n=>by rw[aA (fun z=>n (by rw[z];exact h.po.c5.1))];exact e
 have k:KT H (upd H A.ta (.dT (bU kt (ak a) (.ref p)))):=fun c ws e=>by rw[aA (fun z=>by rw[z,h.po.td]at e;cases e)];exact e
 obtain⟨⟨dx,h1⟩,⟨dy,h2⟩,h3,h4,c5,c6,c7⟩:=h.po;refine⟨fun c u e=>?_,h.p1.keep (IsItem.keep k) (fun c u e z=>kp c u e (by lia)) fun _ _=>rfl,h.p2.keep (IsSet.keep k) (fun c u e z=>kp c u e (by lia)) fun _ _=>rfl,h.p3.keep (IsLack.keep k) (fun c u e z=>kp c u e (by lia)) fun _ _=>rfl,h.p4.keep (IsNum.keep k) (fun c u e z=>kp c u e (by lia)) fun _ _=>rfl,⟨dx,kp _ _ h1 (by lia)⟩,⟨dy,kp _ _ h2 (by lia)⟩,aj,(h4.keep k).put ⟨p,rfl,k _ _ hp⟩,c5,c6,c7⟩;rw[aA (fun z=>by grind)];exact h.same c u e
theorem bD.wide (h:bD CP CQ B H A rs S xs xl xr xp kt col)(Z:Addr->Prop)(hz:∀ c,Z c->¬ cD A.ap xp c/\¬ cD A.sa xs c/\¬ cD A.la xl c/\¬ cD A.ar xr c/\c≠A.ta/\c≠A.o/\c≠A.aq) :
 ∃ B',Same B B'/\KT H B'/\(∀ c u,Z c->H c=some u->B' c=some u)/\bD CP CQ B' H A rs S xs xl xr xp kt col:=by
 classical
 refine⟨fun c=>if B c≠none\/Z c\/∃ ws,H c=some (.tup ws) then H c else none,fun c u e=>?_,fun c ws e=>?_,fun c u z e=>?_,fun c u e=>?_,h.p1.base fun c i=>?_,h.p2.base fun c i=>?_,h.p3.base fun c i=>?_,h.p4.base fun c i=>?_,h.po.ins,h.po.B4,h.po.td,h.po.tr,⟨h.po.c5.1,?_⟩,⟨h.po.c6.1,?_⟩,⟨h.po.c7.1,?_⟩⟩
 .dsimp only;rw[Pi (.inl (by grind))];exact h.same c u e
 .dsimp only;rw[Pi (.inr (.inr ⟨ws,e⟩))];exact e
 .dsimp only;rw[Pi (.inr (.inl z))];exact e
 .split at e
  .exact e
  .cases e
 all_goals
  refine Pl fun q=>?_
 .rcases q with q|q|⟨ws,q⟩
  .exact q (h.p1.c c i).2
  .exact(hz c q).1 i
  .rcases i with rfl|⟨x,hx,rfl⟩
   .rw[h.p1.d.root]at q;cases q
   .rw[h.p1.d.qp x hx]at q;cases q
 .rcases q with q|q|⟨ws,q⟩
  .exact q (h.p2.c c i).2
  .exact(hz c q).2.1 i
  .rcases i with rfl|⟨x,hx,rfl⟩
   .rw[h.p2.d.root]at q;cases q
   .rw[h.p2.d.qp x hx]at q;cases q
 .rcases q with q|q|⟨ws,q⟩
  .exact q (h.p3.c c i).2
  .exact(hz c q).2.2.1 i
  .rcases i with rfl|⟨x,hx,rfl⟩
   .rw[h.p3.d.root]at q;cases q
   .rw[h.p3.d.qp x hx]at q;cases q
 .rcases q with q|q|⟨ws,q⟩
  .exact q (h.p4.c c i).2
  .exact(hz c q).2.2.2.1 i
  .rcases i with rfl|⟨x,hx,rfl⟩
   .rw[h.p4.d.root]at q;cases q
   .rw[h.p4.d.qp x hx]at q;cases q
 .rcases q with q|q|⟨ws,q⟩
  .exact q h.po.c5.2
  .exact(hz _ q).2.2.2.2.1 rfl
  .rw[h.po.td]at q;cases q
 .rcases q with q|q|⟨ws,q⟩
  .exact q h.po.c6.2
  .exact(hz _ q).2.2.2.2.2.1 rfl
  .obtain⟨dx,e⟩:=h.po.ins;rw[e]at q;cases q
 .rcases q with q|q|⟨ws,q⟩
  .exact q h.po.c7.2
  .exact(hz _ q).2.2.2.2.2.2 rfl
  .obtain⟨dx,e⟩:=h.po.B4;rw[e]at q;cases q
theorem PAt.less (h:PAt CP CQ B' H A rs S xs xl xr)(s:Same B B'):PAt CP CQ B H A rs S xs xl xr:=by obtain⟨xp,kt,col,h⟩:=h;refine⟨xp,kt,col,s.trans h.same,h.p1.base fun c i=>s.free (h.p1.c c i).2,h.p2.base fun c i=>s.free (h.p2.c c i).2,h.p3.base fun c i=>s.free (h.p3.c c i).2,h.p4.base fun c i=>s.free (h.p4.c c i).2,h.po.ins,h.po.B4,h.po.td,h.po.tr,⟨h.po.c5.1,s.free h.po.c5.2⟩,⟨h.po.c6.1,s.free h.po.c6.2⟩,⟨h.po.c7.1,s.free h.po.c7.2⟩⟩
theorem PAt.same (h:PAt CP CQ B H A rs S xs xl xr):Same B H:=let ⟨_,_,_,h⟩:=h;h.same
end
theorem Dt (x y:Nat):Builtin.bitXor (x:Int) (y:Int)=(((x ||| y)-(x &&& y):Nat):Int):=by
 have n1:∀ z:Nat,decide (0<=Builtin.bitNot (z:Int))=false:=fun z=>Pp (by unfold Builtin.bitNot;lia);have n2:∀ z:Nat,(Builtin.bitNot (Builtin.bitNot (z:Int))).toNat=z:=fun z=>by unfold Builtin.bitNot;lia
 have p1:∀ z:Nat,decide (0<=(z:Int))=true:=fun z=>O_ (by lia);have eA:Builtin.bitAnd (x:Int) (y:Int)=((x &&& y:Nat):Int):=by unfold Builtin.bitAnd;rw[p1,p1];rfl
 have eO:Builtin.bitOr (x:Int) (y:Int)=((x ||| y:Nat):Int):=by unfold Builtin.bitOr Builtin.bitAnd;rw[n1,n1];show Builtin.bitNot (Builtin.bitNot (((Builtin.bitNot (Builtin.bitNot (x:Int))).toNat ||| (Builtin.bitNot (Builtin.bitNot (y:Int))).toNat:Nat):Int))=_;rw[n2,n2];unfold Builtin.bitNot;lia
 unfold Builtin.bitXor;rw[eA,eO];have:x &&& y<=x ||| y:=Pu Nat.and_le_left Nat.left_le_or;lia
theorem vI:Pz.ql aF:=by
 have key:∀{p l:Int},0<=p->0<=l->∃ z:Nat,aF p l=(z:Int)/\∀ k:Nat,z<=k↔p / 2 ^ k=l / 2 ^ k:=by
  intro p l hp hl;obtain⟨x,rfl⟩:=Qp hp;obtain⟨y,rfl⟩:=Qp hl;refine⟨_,rfl,fun k=>?_⟩;rw[Dt];unfold Builtin.Int.intBits;rw[Pz.Dn,Pz.Dm];have e:∀ z:Nat,(z:Int) / 2 ^ k=((z / 2 ^ k:Nat):Int):=fun z=>by rw[Int.natCast_ediv];norm_cast
  rw[e,e];lia
 constructor
 .intro p l hp hl;obtain⟨z,e,_⟩:=key hp hl;rw[e];lia
 .intro p l hp hl k;obtain⟨z,e,h⟩:=key hp hl;rw[e,<- h k];lia
section
variable {K:To}{C q ap:Addr}{H:Hp}{last:Int}
inductive jV (C:Addr):Sp
 |mk {q dx:Addr} {H:Hp} {Q:VK} {E:XK} (hq:H q=some (.ins C dx [])) (k:∀(d:Addr)(H':Hp),H d=none->H' q=some (.ins C dx [("last",.int 0),("piles",.ref d)])->H' d=some (.dK [])->(∀ b o,H b=some o->b≠q->H' b=some o)->Q .bJ H'):jV C [.ref q] H Q E
def F9 (K:To):TS:=aP (o5 K (av 0) (tC (.int 0)) "last") (o5 K (av 0) tH "piles")
theorem rS (h:jV C vs H Q E):vs.length=1:=by cases h;rfl
theorem ut (T:qx K C)(h:jV C vs H Q E):F9 K (eQ Q) (bh N vs) H:=by
 obtain @⟨q,dx,_,_,_,hq,k⟩:=h;refine⟨_,rfl,q,C,dx,[],rfl,hq,T.cl,T.nl,(by show 0<1000;decide),?_⟩;intro d hd;have hdq:d≠q:=fun e=>by rw[e,aj]at hd;cases hd
 have hd0:H d=none:=by rw[aA hdq]at hd;exact hd
 refine⟨_,rfl,q,C,dx,_,rfl,(by rw[aA (Qn hdq),aj]),T.cl,T.np,(by show 1<1000;decide),?_⟩;refine k d _ hd0 (by rw[aj];rfl) (by rw[aA hdq,aj]) fun b o e hb=>?_;rw[aA hb,aA (aB e hd0),aA hb];exact e
inductive jZ (C:Addr):Sp
 |mk {q ap dx:Addr} {last:Int} {kvs:List (bC×V)} {H:Hp} {Q:VK} {E:XK} (hq:H q=some (.ins C dx [("last",.int last),("piles",.ref ap)])) (ha:H ap=some (.dK kvs)) (hl:kvs.length<=sizeLine) (k:Q (.bl (decide (kvs.length=0))) H):jZ C [.ref q] H Q E
def EV:List V->Hp->VK->Prop:=fun xs H Q=>∃(d:Addr)(kvs:List (bC×V))(u:HO),xs=[.ref d]/\(u=.dK kvs\/(u=.dT []/\kvs=[]))/\Rd H d u/\kvs.length<=sizeLine/\Q (.int kvs.length) H
theorem xA:cm X (.builtin "len") EV:=xf
def F_ (K:To):TS:=b6 (aX n_ (ii EV (ao (dN K (av 0) "piles") aG)) (tC (.int 0)))
theorem rT (h:jZ C vs H Q E):vs.length=1:=by cases h;rfl
theorem uu (T:qx K C)(h:jZ C vs H Q E):F_ K (eQ Q) (bh N vs) H:=by
 obtain @⟨q,ap,dx,last,kvs,_,_,_,hq,ha,hl,k⟩:=h;refine⟨_,rfl,q,C,dx,_,_,rfl,hq,T.cl,T.np,rfl,ap,kvs,_,rfl,.inl rfl,.inl ha,hl,rfl,?_⟩;have:decide (V.int (kvs.length:Int)=V.int 0)=decide (kvs.length=0):=by apply decide_eq_decide.mpr;exact⟨fun e=>by injection e with e;lia,fun e=>by rw[e];rfl⟩
 rw[this];exact k
def LB (C q ap:Addr)(d:Pz.Q Pz.Arr)(xp:DX bC)(H:Hp)(Q:VK):Prop:=∀(l:Addr)(vs':List V)(xp':DX bC)(H':Hp),HE C H' q ap (Pz.lowP d) xp'->RepM k1 IsItem H' (Pz.left aF d) xp'->H' l=some (.lst vs')->aO (IsItem H') (Pz.dc aF d) vs'->¬ cD ap xp' l->(cD ap xp l\/H l=none)->(∀ c,cD ap xp' c->cD ap xp c\/H c=none)->
 (∀ c u,H c=some u->¬ cD ap xp c->c≠q->H' c=some u)->Q (.ref l) H'
inductive m8 (C:Addr):Sp
 |mk {q ap:Addr} {last:Int} {xp:DX bC} {d:Pz.Q Pz.Arr} {H:Hp} {Q:VK} {E:XK} (G:HE C H q ap last xp) (R:RepM k1 IsItem H d xp) (ok:Pz.sS aF last d) (hne:d≠[]) (hfew:d.flat.length<16000000)
  (k:LB C q ap d xp H Q):m8 C [.ref q] H Q E
theorem uv (h:m8 C vs H Q E):vs.length=1:=by cases h;rfl
def Ga (K:To):TS:=b6 (lP (dN K (av 0) "piles") (tC (.int 0)))
def IL (C:Addr):TS:=cg (dR C "add" (oV C) [] E0 (av 0) (ao (av 2) (ao (av 3) aG)))
def LC (K:To)(C:Addr):TS:=aP (eV (cC K (av 1)) (dX K 2 (bn (aE 2) (bn (aE 3) dW))) (IL C)) (Ga K)
def IM (K:To) (C:Addr) (tm:TE):TS:=aP (o5 K (av 0) tm "last") (LC K C)
def EX (K:To) (C:Addr) (tm:TE):TS:=aP (bc (lP (dN K (av 0) "piles") (ii EU (ao (CH K "dict" ET (dN K (av 0) "piles")) aG))) (aE 1)) (IM K C tm)
def Gb (tm:TE):Prop:=∀(σ:L2.St)(H:Hp)(a:Addr)(vs:List V)(its:List (Int×Pz.Arr))(Q:VK),σ[1]?=some (some (.ref a))->H a=some (.lst vs)->aO (IsItem H) its vs->its≠[]->its.length<16000000->(∀ H',Same H H'->Q (.int (Pz.lo (its.map (·.1)))) H')->tm σ H Q
theorem vJ (l:List Int):pG l=Pz.lo l:=by cases l<;>rfl
theorem Du {κ:Type}(xs:DX κ):xs.kv.map (·.1)=xs.map (·.1):=by unfold DX.kv;rw[QC];rfl
theorem HE.ne (G:HE C H q ap last xp)(i:cD ap xp c):c≠q:=fun e=>by
 obtain⟨dx,hq⟩:=G.ins;rcases i with z|⟨x,hx,z⟩
 .have:=G.aQ.root;rw[<- z,e,hq]at this;cases this
 .have:=G.aQ.qp x hx;rw[<- z,e,hq]at this;cases this
end
section
variable {K:To}{C q ap:Addr}{H:Hp}{last:Int}{xp:DX bC}
theorem kM (m:Int)(d:Pz.Q Pz.Arr)(l:List (Int×Pz.Arr))(x:Int×Pz.Arr):Pz.cG aF m d (l++[x])=(Pz.cG aF m d l).app (aF x.1 m) x:=by unfold Pz.cG;rw[Ro];rfl
theorem pR (s:Same H H'):KT H H':=fun a ws e=>s a _ e
variable {D:Ends}{σ:L2.St}{d:Pz.Q Pz.Arr}{H0:Hp}{p:Addr×List V}{i:Nat}{xi:DX bC}
structure K6 (C q ap:Addr) (d:Pz.Q Pz.Arr) (H0:Hp) (xp:DX bC) (p:Addr×List V) (i:Nat) (H:Hp) (xi:DX bC):Prop where
 G:HE C H q ap (Pz.lowP d) xi
 R:RepM k1 IsItem H (Pz.cG aF (Pz.lowP d) (d.drop (Pz.cb d)) ((d.get (Pz.cb d)).take i)) xi
 l:H p.1=some (.lst p.2)
 n:¬ cD ap xi p.1
 a:aO (IsItem H) (d.get (Pz.cb d)) p.2
 sub:∀ c,cD ap xi c->cD ap xp c\/H0 c=none
 kp:∀ c u,H0 c=some u->¬ cD ap xp c->c≠q->H c=some u
def KW (q:Addr)(l:Addr)(σ:L2.St):Prop:=∃ u v,σ=[some (.ref q),some (.ref l),u,v]
theorem NJ (I:K6 C q ap d H0 xp p i H xi)(hx:(d.get (Pz.cb d))[i]?=some x)(h:IsItem H x v)(hs:KW q p.1 σ)(ok:(Pz.cG aF (Pz.lowP d) (d.drop (Pz.cb d)) ((d.get (Pz.cb d)).take (i+1))).Ok)(jf:(Pz.cG aF (Pz.lowP d) (d.drop (Pz.cb d)) ((d.get (Pz.cb d)).take (i+1))).flat.length<16000000)
 (k:∀ σ' H' xi',KW q p.1 σ'->K6 C q ap d H0 xp p (i+1) H' xi'->D.nx σ' H'):dX K 2 (bn (aE 2) (bn (aE 3) dW)) v σ H fun σ2 H2=>IL C D σ2 H2:=by
 obtain⟨t,_,rfl,ht,b,rfl,hb⟩:=h;obtain⟨u,w,rfl⟩:=hs;refine BW ht (rQ (.va rfl) I.G.ins rfl (.c (.va rfl) (.c (.va rfl) .ni)) (.mk I.G fun l p' H6 hl hp' hm hq6 hD6 kp6=>?_));have kt6:KT H H6:=I.G.aQ.kt (fun _ _ z=>HO.noConfusion z) kp6;rw[PV,hx,show(some x).toList=[x] from rfl,kM]at ok jf;have R6:RepM k1 IsItem H6 _ (kg xi (.inl (aF x.1 (Pz.lowP d))) l (.ref p')):=I.R.add (k:=aF x.1 (Pz.lowP d)) kh (IsItem.keep kt6) ⟨p',_,rfl,hm,b,rfl,kt6 _ _ hb⟩;refine k _ H6 _ ⟨_,_,rfl⟩ ⟨⟨hq6,hD6,?_,R6.low jf⟩,?_,kp6 _ _ I.l I.n,fun z=>?_,I.a.mono (IsItem.keep kt6),fun c z=>?_,fun c u e n m=>?_⟩
 .have:=R6.len;have:=Pz.gm ok;exact Qe (by lia) jf
 .rw[PV,hx,show(some x).toList=[x] from rfl,kM];exact R6
 .rcases iz z with z|z
  .exact I.n z
  .rw[<- z,I.l]at hl;cases hl
 .rcases iz z with z|rfl
  .exact I.sub c z
  .by_cases i':cD ap xp c
   .exact .inl i'
   .refine .inr ?_;cases e:H0 c with
    |none=>rfl
    |some u=>
     by_cases z:c=q
     .obtain⟨_,hq⟩:=I.G.ins;rw[z,hq]at hl;cases hl
     .rw[I.kp c u e i' z]at hl;cases hl
 .exact kp6 _ _ (I.kp c u e n m) fun z=>(I.sub c z).elim n fun z=>by rw[z]at e;cases e
theorem vK {κ:Type}[DecidableEq κ]{xs:DX κ}{k:κ}{a c:Addr}(i:cD a (jE xs k) c):cD a xs c:=i.imp id fun⟨x,hx,e⟩=>⟨x,(P0.mp hx).1,e⟩
theorem NK (T:qx K C)(TK:Pz.HF aF last d)(hfew:d.flat.length<16000000)(I:K6 C q ap d H0 xp p p.2.length H xi)(hs:KW q p.1 σ)
 (k:LB C q ap d xp H0 D.rt):Ga K D σ H:=by
 obtain⟨u,w,rfl⟩:=hs;have Ri:=I.R;rw[Qh (by rw[I.a.len];exact O0 _)]at Ri;have Ri:RepM k1 IsItem H (Pz.mid aF d) xi:=Ri;have ha:=I.G.aQ.root;obtain⟨dy,hq⟩:=I.G.ins;rcases Ri.find kh 0 with⟨_,hh,_⟩|⟨p1,f1,_,a1⟩
 .have:=Pz.has_iff.mpr TK.k3;rw[hh]at this;cases this
 delta Ga b6 lP
 refine F7 (.va rfl) I.G.ins T.cl T.np rfl ⟨ap,rfl,.inl ⟨_,.inl ha⟩,xi.kv,k1 0,.ref p1.1,ha,rfl,(by rw[jb,f1];rfl),?_⟩;generalize hH6:upd H ap (.dK (iP xi.kv (k1 0)))=H6;have kp6:∀ c u,H c=some u->c≠ap->H6 c=some u:=fun c u e n=>by rw[<- hH6,aA n];exact e
 obtain⟨D6,l6,n6⟩:=I.G.aQ.drop (fun _ _ z=>HO.noConfusion z) f1 (by rw[<- hH6,aj]) kp6;have kt6:KT H H6:=fun c ws e=>kp6 c _ e fun z=>by rw[z,ha]at e;cases e
 have R6:RepM k1 IsItem H6 (Pz.left aF d) (jE xi (k1 0)):=(Ri.drop kh 0).keep (IsItem.keep kt6);have fl6:(Pz.left aF d).flat.length<16000000:=by have:=TK.pm.length_eq;rw[O6]at this;lia
 have:=R6.len;have:=Pz.gm TK.ok.ok;exact k p1.1 p1.2 _ H6 ⟨⟨dy,kp6 _ _ hq fun e=>by rw[e,ha]at hq;cases hq⟩,D6,by lia,R6.low fl6⟩ R6 l6 (a1.mono (IsItem.keep kt6)) n6 (I.sub _ (.inr ⟨_,de f1,rfl⟩)) (fun c z=>I.sub c (vK z)) fun c u e n m=>kp6 _ _ (I.kp c u e n m) fun z=>n (.inl z)
theorem tk1 (T:qx K C) (HM:Gb tm) (TK:Pz.HF aF last d) (ok:d.Ok) (hfew:d.flat.length<16000000) (hq:∃ dx,H q=some (.ins C dx [("last",.int last),("piles",.ref ap)])) (D2:DL .dK H ap xi) (R2:RepM k1 IsItem H (d.drop (Pz.cb d)) xi) (nq:∀ c,cD ap xp c->c≠q) (l2:H p.1=some (.lst p.2)) (hp:p.1≠q) (n2:¬ cD ap xi p.1) (i0:aO (IsItem H) (d.get (Pz.cb d)) p.2) (sub:∀ c,cD ap xi c->cD ap xp c) (kp:∀ c u,H0 c=some u->¬ cD ap xp c->H c=some u)
 (hs:σ=[some (.ref q),some (.ref p.1),none,none]) (k:LB C q ap d xp H0 D.rt):IM K C tm D σ H:=by
 subst hs;obtain⟨dx,hq⟩:=hq;refine HM _ H p.1 p.2 (d.get (Pz.cb d)) _ rfl l2 i0 TK.k2 (Qe (Pz.lr d _) hfew) fun H3 s3=>?_;refine⟨_,rfl,q,C,dx,_,rfl,s3 _ _ hq,T.cl,T.nl,(by show 2<1000;decide),?_⟩;generalize hH4:upd H3 q (.ins C dx (fT "last" (.int (Pz.lo ((d.get (Pz.cb d)).map (·.1)))) [("last",.int last),("piles",.ref ap)]))=H4;have kp4:∀ c u,H c=some u->c≠q->H4 c=some u:=fun c u e n=>by rw[<- hH4,aA n];exact s3 c u e
 have q4:H4 q=some (.ins C dx [("last",.int (Pz.lowP d)),("piles",.ref ap)]):=by rw[<- hH4,aj];rfl
 have kt4:KT H H4:=fun c ws e=>kp4 c _ e fun z=>by rw[z,hq]at e;cases e
 have ge:∀ y∈d.get (Pz.cb d),Pz.lowP d<=y.1:=fun y hy=>Pz.z6 (Pb.mpr ⟨y,hy,rfl⟩);have fl:∀ i,((Pz.cG aF (Pz.lowP d) (d.drop (Pz.cb d)) ((d.get (Pz.cb d)).take i))).flat.length<16000000:=fun i=>by rw[(Pz.g5 TK.o1.ok).length_eq,O6];have:=RY i (d.get (Pz.cb d));have:=(Pz.kd ok.nk (Pz.cb d)).length_eq;rw[O6]at this;lia
 have okI:∀ i,(Pz.cG aF (Pz.lowP d) (d.drop (Pz.cb d)) ((d.get (Pz.cb d)).take i)).Ok:=fun i=>(TK.o1.cG fun x hx=>ge x (QB hx)).ok;have h3:=fl 0;have h2:=Pz.gm (okI 0);have h5:=R2.len;rw[List.take_zero]at h3 h2;have h4:(Pz.cG aF (Pz.lowP d) (d.drop (Pz.cb d)) [])=d.drop (Pz.cb d):=rfl;rw[h4]at h3 h2;refine⟨_,rfl,p.1,rfl,⟨_,SqL.of (kp4 _ _ l2 hp)⟩,eY (K:=K) (a:=p.1) (xs:=p.2) (fun i σ H5=>KW q p.1 σ/\∃ xi,K6 C q ap d H0 xp p i H5 xi)
  ⟨⟨none,none,rfl⟩,xi,⟨⟨dx,q4⟩,D2.keep fun c u e i=>kp4 c u e (nq c (sub c i)),by lia,R2.low h3⟩,?_,kp4 _ _ l2 hp,n2,i0.mono (IsItem.keep kt4),fun c i=>.inl (sub c i),fun c u e n m=>kp4 c u (kp c u e n) m⟩
  (fun i σ H5 _ ⟨_,xi,I⟩=>SqL.of I.l) (fun i y σ H5 hi ⟨hs,xi,I⟩=>?_) fun σ H5 ⟨hs,xi,I⟩=>NK T TK hfew I hs k⟩
 .rw[List.take_zero];exact R2.keep (IsItem.keep kt4)
 .obtain⟨x,hx,hy⟩:=I.a.get hi;exact NJ I hx hy hs (okI _) (fl _) fun σ' H' xi' h1 h2=>⟨h1,xi',h2⟩
theorem xB (T:qx K C) (hna:∀(last:Int)(ap:Addr),List.lookup ("add" : Str) ([("last",V.int last),("piles",V.ref ap)]:List (Str×V))=none) (HM:Gb tm) (h:m8 C vs H Q E) :
 EX K C tm (eQ Q) (bh (nS 4) vs) H:=by
 obtain @⟨q,ap,last,xp,d,H,Q,_,G,R,ok,hne,hfew,k⟩:=h;have TK:=Pz.xj vI ok hne;have hap:=G.aQ.root
 delta EX aP bc lP
 refine F7 (.va rfl) G.ins T.cl T.np rfl ⟨ap,rfl,.inl ⟨_,.inl hap⟩,F7 (.va rfl) G.ins T.cl T.np rfl ⟨.inr (.inr (.inl ⟨rfl,.inl ⟨_,hap⟩⟩)),ap,_,rfl,rfl,hap,fun v hv=>?_⟩⟩;have hva:ap≠v:=aB hap hv;refine⟨v,ap,xp.kv,d.keys,rfl,aj,(by rw[aA hva];exact hap),(by rw[Du,R.keys];rfl),(by intro e;exact hne (SZ.mp e)),?_⟩;rcases R.find kh (Pz.cb d) with⟨_,_,e⟩|⟨p0,f0,_,a0⟩
 .exact(TK.k2 e).elim
 refine⟨xp.kv,k1 (Pz.cb d),.ref p0.1,(by rw[aA hva];exact hap),(by rw[vJ];rfl),(by rw[jb,f0];rfl),?_⟩;generalize hH2:upd (upd H v (rR v ap)) ap (.dK (iP xp.kv (k1 (Pz.cb d))))=H2;have kp2:∀ c u,H c=some u->c≠ap->H2 c=some u:=fun c u e n=>by rw[<- hH2,aA n,aA (aB e hv)];exact e
 obtain⟨D2,l2,n2⟩:=G.aQ.drop (fun _ _ z=>HO.noConfusion z) f0 (by rw[<- hH2,aj]) kp2;have kt2:KT H H2:=fun c ws e=>kp2 c _ e fun z=>by rw[z,hap]at e;cases e
 obtain⟨dx,hq⟩:=G.ins;exact tk1 T HM TK ok.ok hfew ⟨dx,kp2 _ _ hq fun e=>by rw[e,hap]at hq;cases hq⟩ D2 ((R.drop kh _).keep (IsItem.keep kt2)) (fun c=>G.ne) l2 (G.ne (.inr ⟨_,de f0,rfl⟩)) n2 (a0.mono (IsItem.keep kt2)) (fun c=>vK) (fun c u e n=>kp2 c u e fun z=>n (.inl z)) rfl k
end
structure iN (K:To) (C:Addr):Prop where
 cl:qu K C
 nr:NoAttr K C "rules"
 nt:NoAttr K C "told"
 no:NoAttr K C "offers"
 ns:NoAttr K C "settled"
 nl:NoAttr K C "lacking"
theorem LD (A:PA):(pf A).lookup ("rules" : Str)=some (V.ref A.ar):=rfl
theorem Dv (A:PA):(pf A).lookup ("told" : Str)=some (V.ref A.ta):=rfl
theorem Gc (A:PA):(pf A).lookup ("offers" : Str)=some (V.ref A.aq):=rfl
theorem IN (A:PA):(pf A).lookup ("settled" : Str)=some (V.ref A.sa):=rfl
theorem IQ (A:PA):(pf A).lookup ("lacking" : Str)=some (V.ref A.la):=rfl
theorem Ge (A:PA) (last:Int):(qf A last).lookup ("add" : Str)=none:=rfl
section
variable {K:To}
inductive dH (CP CQ:Addr):Sp
 |mk {B H:Hp} {A:PA} {rs:Pz.RS} {S:Pz.PS} {xs xl xr:DX (List bC)} {b:Addr} {a:Pz.Arr} {p:Int} {n m:Option Int} {Q:VK} {E:XK} (P:PAt CP CQ B H A rs S xs xl xr) (hb:H b=some (.tup (f9 a))) (f:Pz.iZ (Pz.bq aF S a p n m)) (k:∀ H',PAt CP CQ B H' A rs (Pz.bq aF S a p n m) xs xl xr->Q .bJ H'):dH CP CQ [.ref A.o,.ref b,.int p,vO n,vO m] H Q E
def rV:R2:=fun x y H Q=>y=.bJ/\Q (.bl (decide (x=.bJ))) H
theorem jd:jk X (compareOp .Is) rV:=FA
def Dw:R2:=qJ fun i j=>.bl (decide (i<j))
def Gf (K:To) (CQ:Addr):TS:=aP (qS (dN K (av 0) "told") (av 1) (b8 (ao (av 2) (ao (av 3) (ao (av 4) aG)))))
 (cg (dR CQ "add" (oV CQ) [] E0 (dN K (av 0) "offers") (ao (av 2) (ao (av 1) aG))))
def IR (K:To)(CQ:Addr):TS:=cI (uV (bp (aX rV (av 5) (tC .bJ))) (bp (aX Dw (av 2) (aX (gT K) (av 5) (tC (.int 0)))))) (Gf K CQ) bY
def Aa (K:To) (CQ:Addr):TS:=aP (bc (ph (dN K (av 0) "told") (av 1)) (aE 5)) (IR K CQ)
theorem rW (h:dH CP CQ vs H Q E):vs.length=5:=by cases h;rfl
variable {D:Ends}
theorem bD.fld (P:bD CP CQ B H A rs S xs xl xr xp kt col)(cl:qu K CP)(n:NoAttr K CP f)(hl:(pf A).lookup f=some v)(h:σ[i]?=some (some (.ref A.o))):Reads (dN K (av i) f) σ H v:=.fld (.va h) P.po.ins cl n hl
theorem bD.rd (P:bD CP CQ B H A rs S xs xl xr xp kt col)(cl:qu K CP)(n:NoAttr K CP f)(hl:(pf A).lookup f=some v)(h:σ[i]?=some (some (.ref A.o)))(q:Q v H):dN K (av i) f σ H Q:=P.fld cl n hl h _ q
theorem rX (TP:iN K CP)(P:bD CP CQ B H A rs S xs xl xr xp kt col)(hb:H b=some (.tup (f9 a)))(fit:Pz.iZ (Pz.g6 aF S a p n m))
 (k:∀ σ H',PAt CP CQ B H' A rs (Pz.g6 aF S a p n m) xs xl xr->D.nx σ H'):Gf K CQ D [some (.ref A.o),some (.ref b),some (.int p),some (vO n),some (vO m),some w] H:=by
 delta Gf aP qS
 refine gr (.c (.va rfl) (.c (.va rfl) (.c (.va rfl) .ni))) rfl fun t ht'=>?_;have s1:Same H (upd H t (.tup [.int p,vO n,vO m])):=az ht';have P1:=P.more s1;have ht:=P1.po.td;have hb1:=s1 _ _ hb;have hl:kt.length<sizeLine:=by have e1:S.told.length=kt.length:=P.po.tr.len;have e2:=fit.t;have e3:=(Pz.rM S.told a (p,n,m)).1;have e4:(Pz.g6 aF S a p n m).told=Pz.tput S.told a (p,n,m):=rfl;rw[e4]at e2;rw[Pn];unfold Pz.L at e2;lia
 refine P1.rd TP.cl TP.nt (Dv A) rfl ⟨_,rfl,A.ta,_,rfl,DPut.t (k:=ak a) ht hb1 hl,?_⟩;have P2:=P1.tell (a:=a) (x:=(p,n,m)) (p:=t) aj;have hb2:upd (upd H t (.tup [.int p,vO n,vO m])) A.ta (.dT (bU kt (ak a) (.ref t))) b=some (.tup (f9 a)):=by rw[aA (fun z=>by rw[z,ht]at hb1;cases hb1)];exact hb1
 generalize upd (upd H t (.tup [.int p,vO n,vO m])) A.ta (.dT (bU kt (ak a) (.ref t)))=H2 at P2 hb2;clear P1 ht hb1 s1 hl ht';have fitp:=fit.p;have fitf:=fit.pf;have al:=Pz.d5 S.aQ (aF p S.last) (p,a);have e5:(Pz.g6 aF S a p n m).aQ=S.aQ.app (aF p S.last) (p,a):=rfl;rw[e5]at fitp fitf;unfold Pz.L at fitp fitf;have pr2:RepM k1 IsItem H2 S.aQ xp:=P2.p1.r;refine rQ (P2.fld TP.cl TP.no (Gc A) rfl) P2.po.B4 (Ge A _) (.c (.va rfl) (.c (.va rfl) .ni)) (.mk ⟨P2.po.B4,P2.p1.d,by rw[<- pr2.len];lia,pr2.low (by lia)⟩ ?_);intro l p' H3 hl3 hp3 hm3 hq3 hd3 kp3;have kk:=P2.p1.d.kt (fun _ _ z=>HO.noConfusion z) kp3;exact k _ H3 ⟨_,_,_,P2.pile hd3 (pr2.add kh (IsItem.keep kk) ⟨p',_,rfl,hm3,b,rfl,kk _ _ hb2⟩) (fun c z=>(iz z).imp id fun z=>by rw[z];exact hl3) kp3⟩
theorem Ab (TP:iN K CP)(P:bD CP CQ B H A rs S xs xl xr xp kt col)(hb:H b=some (.tup (f9 a)))(fit:Pz.iZ (Pz.bq aF S a p n m))
 (k:∀ σ H',PAt CP CQ B H' A rs (Pz.bq aF S a p n m) xs xl xr->D.nx σ H'):IR K CQ D [some (.ref A.o),some (.ref b),some (.int p),some (vO n),some (vO m),some ((cw kt (ak a)).getD .bJ)] H:=by
 unfold Pz.bq at fit k;rcases P.po.tr.find a with⟨e1,e2⟩|⟨v,x,e1,e2,q,rfl,hq⟩
 .rw[Pi (show Pz.f6 S a p=true by unfold Pz.f6;rw[e2])]at fit k;rw[e1];exact⟨_,rfl,rfl,_,rfl,rX TP P hb fit k⟩
 .rw[e1];refine⟨_,rfl,rfl,_,rfl,?_⟩;refine g9 (c:=decide (p<x.1)) (.op (.va rfl) (.ix (.va rfl) hq rfl) (fun _ q=>⟨p,x.1,rfl,rfl,q⟩)) (fun h=>?_) (fun h=>?_)
  .rw[Pi (show Pz.f6 S a p=true by unfold Pz.f6;rw[e2];exact h)]at fit k;exact rX TP P hb fit k
  .rw[Pl fun z=>by unfold Pz.f6 at z;rw[e2]at z;exact h z]at k;exact k _ H ⟨xp,kt,col,P⟩
theorem uw (TP:iN K CP)(TQ:qx K CQ)(h:dH CP CQ vs H Q E):Aa K CQ (eQ Q) (bh (nS 6) vs) H:=by
 obtain⟨⟨xp,kt,col,P⟩,hb,fit,k⟩:=h
 delta Aa aP bc ph
 exact P.rd TP.cl TP.nt (Dv _) rfl ⟨_,rfl,.inr ⟨_,.inl P.po.td⟩,_,rfl,_,DGet.t (k:=ak _) P.po.td hb,Ab TP P hb fit fun _=>k⟩
theorem pS (P:PAt CP CQ B H A rs S xs xl xr)(f:Pz.iZ (Pz.bq aF S a p n m))(h:Reads ta σ H (.ref A.o))(ht:Makes te σ H (f9 a))(hr:∀ H',Same H H'->ReadsA tr σ H' [.int p,vO n,vO m])(k:∀ H',PAt CP CQ B H' A rs (Pz.bq aF S a p n m) xs xl xr->D.nx σ H') :
 cg (dR CP "offer" (dH CP CQ) [] E0 ta (ao te tr)) D σ H:=by
 have P':=P;obtain⟨_,_,_,Q4⟩:=P';obtain⟨dx,hi⟩:=Q4.po.ins;exact h _ ⟨A.o,dx,_,rfl,hi,rfl,ht _ fun q hq=>hr _ (az hq) _ (.mk (P.more (az hq)) aj f k)⟩
end
section
variable {K:To}{CP CQ:Addr}{B H:Hp}{A:PA}{rs:Pz.RS}{S:Pz.PS}{xs xl xr:DX (List bC)}{xp:DX bC}{kt:List (List bC×V)}{col:Addr->Nat}
theorem bD.obj (P:bD CP CQ B H A rs S xs xl xr xp kt col)(hz:H z=none):¬ cD A.ap xp z/\¬ cD A.sa xs z/\¬ cD A.la xl z/\¬ cD A.ar xr z/\z≠A.ta/\z≠A.o/\z≠A.aq:=by
 refine⟨fun i=>P.p1.d.obj i hz,fun i=>P.p2.d.obj i hz,fun i=>P.p3.d.obj i hz,fun i=>P.p4.d.obj i hz,fun e=>?_,fun e=>?_,fun e=>?_⟩
 .rw[e,P.po.td]at hz;cases hz
 .obtain⟨_,h⟩:=P.po.ins;rw[e,h]at hz;cases hz
 .obtain⟨_,h⟩:=P.po.B4;rw[e,h]at hz;cases hz
theorem Dx {α:Type}{it:Hp->α->V->Prop}(hk:∀ H H',KT H H'->∀ x v,it H x v->it H' x v){a:Addr}{f:Str}{ys:DX (List bC)}{d:Pz.MD (Int×Int) α}(P:bD CP CQ B H A rs S xs xl xr xp kt col)(hD:DL .dT H a ys)(hR:RepM k2 it H d ys)
 (cl:qu K CP) (nf:NoAttr K CP f) (hf:(pf A).lookup f=some (V.ref a)) {σ:L2.St} {j:Nat} {b:Addr} {k:Int×Int} (h0:σ[0]?=some (some (.ref A.o))) (hj:σ[j]?=some (some (.ref b))) (hb:H b=some (.tup [.int k.1,.int k.2])) {Q:VK}
 (kk:∀(l:Addr)(vs:List V)(B1 H1:Hp),Same H H1->Same B B1->KT H1 B1->bD CP CQ B1 H1 A rs S xs xl xr xp kt col->H1 l=some (.lst vs)->(∀ H2,Same B1 H2->DL .dT H2 a ys->H2 l=some (.lst vs)/\aO (it H2) (d.get k) vs)->Q (.ref l) H1) :
 gh (dN K (av 0) f) (av j) (cW aG) σ H Q:=by
 delta gh
 refine P.rd cl nf hf h0 ⟨a,rfl,.inr ⟨_,.inl hD.root⟩,_,hj,Pq _,fun z hz=>?_⟩;have s1:Same H (upd H z (.lst [])):=az hz;have hb1:upd H z (.lst []) b=some (.tup ((k2 k).map kV)):=s1 _ _ hb;refine⟨_,DGet.t (s1 _ _ hD.root) hb1,?_⟩;have P1:=P.more s1;rcases hR.find jc k with⟨f1,f2,f3⟩|⟨p,f1,f2,f3⟩
 .rw[jb,f1];obtain⟨B1,w1,w2,w3,w4⟩:=P1.wide (fun c=>c=z) fun c e=>by subst e;exact P.obj hz
  refine kk z [] B1 _ s1 w1 w2 w4 aj fun H2 s2 _=>⟨s2 _ _ (w3 z _ rfl aj),?_⟩;rw[f3];exact .nil
 .rw[jb,f1];obtain⟨B1,w1,w2,w3,w4⟩:=P1.wide (fun _=>False) fun _ e=>e.elim;refine kk p.1 p.2 B1 _ s1 w1 w2 w4 (s1 _ _ (hD.qp _ (de f1))) fun H2 s2 D2=>⟨D2.qp _ (de f1),f3.mono (hk _ _ fun c ws e=>s2 _ _ (w2 _ _ (s1 _ _ e)))⟩
def Wk (J:L2.It)(g:TG)(tb:TS)(D:Ends)(σ:L2.St)(H:Hp):Prop:=∃ W:Nat->Nat->L2.St->Hp->Prop,(∃ m,W 0 m σ H)/\∀ i m σ H,W i m σ H->
 (J.stop i H/\D.nx σ H)\/(J.go i H/\∃ N:L2.St->Hp->Prop,(∀ σ' H',N σ' H'->∃ m',m'<m/\W (i+1) m' σ' H')/\∀ x H',J.yB i H x H'->g x σ H' fun σ2 H2=>tb { D with nx:=N,ct:=N,bk:=D.nx } σ2 H2)
theorem eS {tb:TS}{D:Ends}{σ:L2.St}(h:tl σ H fun x H1=>∃ a,x=.ref a/\(∃ xs,SqL K H1 a xs)/\Wk (Cv K a) g tb D σ H1):eV (cC K tl) g tb D σ H:=h
theorem pT {α:Type}{it:Hp->α->V->Prop}{l:Addr}{vs:List V}{its:List α}{g:TG}{tb:TS}{D:Ends}{σ:L2.St}{H1:Hp}(Sh:L2.St->Prop)(step:Pz.PS->α->Pz.PS)(S0:Pz.PS)(W:Pz.PS->Hp->Prop)(h0:Sh σ)(h1:W S0 H1)
 (hW:∀ S H,W S H->Rd H l (.lst vs)/\aO (it H) its vs)
 (hb:∀(i:Nat)(x:α)(v:V)(σ:L2.St)(H:Hp)(D':Ends),its[i]?=some x->it H x v->Sh σ->W ((its.take i).foldl step S0) H->(∀ σ' H',Sh σ'->W (step ((its.take i).foldl step S0) x) H'->D'.nx σ' H')->g v σ H fun σ2 H2=>tb D' σ2 H2)
 (hd:∀ σ H,Sh σ->W (its.foldl step S0) H->D.nx σ H):Wk (Cv K l) g tb D σ H1:=by
 have bL:its.length=vs.length:=(hW _ _ h1).2.len;refine eY (K:=K) (a:=l) (xs:=vs) (fun i σ H=>Sh σ/\W ((its.take i).foldl step S0) H) ⟨h0,h1⟩ (fun i σ H _ ⟨_,w⟩=>Or.inl (hW _ _ w).1) (fun i v σ H hi ⟨s,w⟩=>?_) fun σ H ⟨s,w⟩=>?_
 .obtain⟨x,hx,ix⟩:=(hW _ _ w).2.get hi;have e:(its.take (i+1)).foldl step S0=step ((its.take i).foldl step S0) x:=by rw[PV,hx,Ro];rfl
  rw[e];exact hb i x v σ H _ hx ix s w fun _ _=>And.intro
 .rw[Qh (by lia)]at w;exact hd σ H s w
theorem pU {α:Type}{it:Hp->α->V->Prop}(hk:∀ H H',KT H H'->∀ x v,it H x v->it H' x v){a:Addr}{f:Str}{ys:DX (List bC)}{d:Pz.MD (Int×Int) α}(P:bD CP CQ B H A rs S xs xl xr xp kt col)(hD:DL .dT H a ys)(hR:RepM k2 it H d ys)
 (cl:qu K CP) (nf:NoAttr K CP f) (hf:(pf A).lookup f=some (V.ref a)) {σ:L2.St} {j:Nat} {b:Addr} {k:Int×Int} (h0:σ[0]?=some (some (.ref A.o))) (hj:σ[j]?=some (some (.ref b))) (hb:H b=some (.tup [.int k.1,.int k.2])) {g:TG} {tb:TS} {D:Ends} (Sh:L2.St->Prop) (step:Pz.PS->α->Pz.PS) (W:Hp->Pz.PS->Hp->Prop) (hs:Sh σ)
 (w0:∀ B1 H1,bD CP CQ B1 H1 A rs S xs xl xr xp kt col->W B1 S H1) (w1:∀ B1 T H1,W B1 T H1->Same B1 H1/\DL .dT H1 a ys)
 (hy:∀ B1 (i:Nat) x v σ H2 (D':Ends),KT H H2->(d.get k)[i]?=some x->it H2 x v->Sh σ->W B1 (((d.get k).take i).foldl step S) H2->(∀ σ' H',Sh σ'->W B1 (step (((d.get k).take i).foldl step S) x) H'->D'.nx σ' H')->g v σ H2 fun σ2 H3=>tb D' σ2 H3)
 (hd:∀ B1 σ H2,Same B B1->KT H H2->Sh σ->W B1 ((d.get k).foldl step S) H2->D.nx σ H2):eV (cC K (gh (dN K (av 0) f) (av j) (cW aG))) g tb D σ H:=by
 refine eS (Dx hk P hD hR cl nf hf h0 hj hb fun l vs B1 H1 s1 b1 w3 P1 hl1 hkk=>?_);have kt1:∀ T H2,W B1 T H2->KT H H2:=fun T H2 w a ws e=>(w1 B1 T H2 w).1 _ _ (w3 _ _ (s1 _ _ e));exact⟨l,rfl,⟨_,SqL.of hl1⟩,pT (it:=it) Sh step S (W B1) hs (w0 B1 H1 P1) (fun T H2 w=>⟨.inl (hkk H2 (w1 B1 T H2 w).1 (w1 B1 T H2 w).2).1,(hkk H2 (w1 B1 T H2 w).1 (w1 B1 T H2 w).2).2⟩)
  (fun i x v σ H2 D' e1 e2 e3 e4=>hy B1 i x v σ H2 D' (kt1 _ _ e4) e1 e2 e3 e4) fun σ H2 s w=>hd B1 σ H2 b1 (kt1 _ _ w) s w⟩
theorem NL (ht:H b=some (.tup [x,y,z]))(k:Q (((σ.set i (some x)).set j (some y)).set l (some z)) H):dX K 3 (bn (aE i) (bn (aE j) (bn (aE l) dW))) (.ref b) σ H Q:=⟨b,_,rfl,SqT.of ht,rfl,_,_,rfl,_,_,rfl,_,_,rfl,rfl,k⟩
theorem f_ {α:Type}{step:Pz.PS->α->Pz.PS}(hg:∀ S x,Pz.eM S (step S x)){its:List α}{S0:Pz.PS}(h:Pz.iZ (its.foldl step S0)){i:Nat}{x:α}(hx:its[i]?=some x):Pz.iZ (step ((its.take i).foldl step S0) x):=by
 have e:(its.take (i+1)).foldl step S0=step ((its.take i).foldl step S0) x:=by rw[PV,hx,Ro];rfl
 rw[<- e];refine Pz.eM.fit (Pz.ck step hg (its.drop (i+1)) _) ?_;rw[<- Ro,Re];exact h
def b_:R2:=qJ fun i j=>.int (i+j)
theorem Reads.add (h:Reads ta σ H (.int i))(h':Reads tb σ H (.int j)):Reads (aX b_ ta tb) σ H (.int (i+j)):=h.op h' fun _ q=>⟨i,j,rfl,rfl,q⟩
inductive jW (CP CQ:Addr):Sp
 |mk {B H:Hp} {A:PA} {rs:Pz.RS} {S:Pz.PS} {xs xl xr:DX (List bC)} {c:Addr} {r:Pz.Rule} {num mid price:Int} {Q:VK} {E:XK} (P:PAt CP CQ B H A rs S xs xl xr) (hr:IsRule H r (.ref c)) (h2:2<=r.2.2.2.length) (f:Pz.iZ (Pz.first aF S num r mid price))
  (k:∀ H' xl',PAt CP CQ B H' A rs (Pz.first aF S num r mid price) xs xl' xr->Q .bJ H'):jW CP CQ [.ref A.o,.int num,.ref c,.int mid,.int price] H Q E
def IS (K:To) (CP CQ:Addr):TS:=cg (dR CP "offer" (dH CP CQ) [] E0 (av 0) (ao (b8 (ao (aX (gT K) (av 2) (tC (.int 0))) (ao (aX (gT K) (av 2) (tC (.int 1))) (ao (av 6) aG))))
 (ao (aX b_ (aX b_ (av 4) (av 7)) (tC (.int 1))) (ao (av 1) (ao (av 3) aG)))))
def LF (K:To) (CP CQ:Addr):TS:=eV (cC K (gh (dN K (av 0) "settled") (av 5) (cW aG))) (dX K 2 (bn (aE 6) (bn (aE 7) dW))) (IS K CP CQ)
def IT (K:To) (CP CQ:Addr):TS:=aP (cg (mI K (dN K (av 0) "lacking") (av 5) (b8 (ao (av 1) (ao (av 2) (ao (av 4) aG)))))) (LF K CP CQ)
def Ac (K:To)(CP CQ:Addr):TS:=aP (bc (b8 (ao (av 3) (ao (aX (gT K) (aX (gT K) (av 2) (tC (.int 3))) (tC (.int 1))) aG))) (aE 5)) (IT K CP CQ)
theorem rY (h:jW CP CQ vs H Q E):vs.length=5:=by cases h;rfl
theorem Ad (A:PA):(pf A).lookup ("offer" : Str)=none:=rfl
theorem Dy {l:List Int}(h:2<=l.length):(l.map V.int)[1]?=some (.int (Pz.nth1 l)):=by rcases l with _|⟨_,_|⟨_,_⟩⟩<;>first|rfl|(simp at h)
variable {D:Ends}{σ:L2.St}{b c q:Addr}{r:Pz.Rule}{num mid price:Int}
abbrev KY (r:Pz.Rule)(num mid price:Int)(S:Pz.PS)(x:Int×Int):Pz.PS:=Pz.bq aF S (r.1,r.2.1,x.1) (price+x.2+1) (some num) (some mid)
def LG (A:PA)(num:Int)(c:Addr)(mid price:Int)(b:Addr)(σ:L2.St):Prop:=∃ u v,σ=[some (.ref A.o),some (.int num),some (.ref c),some (.int mid),some (.int price),some (.ref b),u,v]
theorem Gg (P:PAt CP CQ B H A rs S xs xl xr)(h:IsSet H x v)(hs:LG A num c mid price b σ)(hr:H c=some (.tup [.int r.1,.int r.2.1,.int r.2.2.1,.ref q]))(f:Pz.iZ (KY r num mid price S x))
 (k:∀ σ' H',LG A num c mid price b σ'->PAt CP CQ B H' A rs (KY r num mid price S x) xs xl xr->D.nx σ' H'):dX K 2 (bn (aE 6) (bn (aE 7) dW)) v σ H fun σ2 H2=>IS K CP CQ D σ2 H2:=by
 obtain⟨t,rfl,ht⟩:=h;obtain⟨u,w,rfl⟩:=hs;exact BW ht (pS P f (.va rfl) (.t (.c (.ix (.va rfl) hr rfl) (.c (.ix (.va rfl) hr rfl) (.c (.va rfl) .ni))) rfl) (fun _ _=>.c (.add (.add (.va rfl) (.va rfl)) .k) (.c (.va rfl) (.c (.va rfl) .ni))) fun H'=>k _ H' ⟨_,_,rfl⟩)
theorem Gh (TP:iN K CP)(P:bD CP CQ B H A rs S xs xl xr xp kt col)(hb:H b=some (.tup [.int mid,.int (Pz.nth1 r.2.2.2)]))(hr:H c=some (.tup [.int r.1,.int r.2.1,.int r.2.2.1,.ref q]))(hq:H q=some (.tup (r.2.2.2.map .int)))(fit:Pz.iZ (Pz.first aF S num r mid price))(hs:σ=[some (.ref A.o),some (.int num),some (.ref c),some (.int mid),some (.int price),some (.ref b),none,none])
 (k:∀ σ' H' xl',PAt CP CQ B H' A rs (Pz.first aF S num r mid price) xs xl' xr->D.nx σ' H'):IT K CP CQ D σ H:=by
 subst hs;have fitL:Pz.iZ (Pz.pN S num r mid price):=Pz.eM.fit (Pz.ck _ (fun S x=>Pz.b9 S _ _ _ _) _ _) fit;have f1:=fitL.l;have f2:=fitL.lf;have al:=Pz.d5 S.aR (mid,Pz.nth1 r.2.2.2) (num,r,price);have e5:(Pz.pN S num r mid price).aR=S.aR.app (mid,Pz.nth1 r.2.2.2) (num,r,price):=rfl;rw[e5]at f1 f2;unfold Pz.L at f1 f2;have lr1:RepM k2 IsLack H S.aR xl:=P.p3.r;refine pP (a:=A.la) (b:=b) (xs:=xl) (k:=k2 (mid,Pz.nth1 r.2.2.2)) (ws:=[.int num,.ref c,.int price]) P.p3.d (P.fld TP.cl TP.nl (IQ A) rfl) (.va rfl) hb (fun H' _=>.t (.c (.va rfl) (.c (.va rfl) (.c (.va rfl) .ni))) rfl) (by rw[<- lr1.len];lia) (lr1.low (by lia)) ?_;intro l p H2 hl hp hm hd kp;have kt2:=P.p3.d.kt (fun _ _ z=>HO.noConfusion z) kp;have P2:bD CP CQ B H2 A rs (Pz.pN S num r mid price) xs _ xr _ _ _:=P.pN hd (lr1.add (k:=(mid,Pz.nth1 r.2.2.2)) (v:=(num,r,price)) jc (IsLack.keep kt2) ⟨p,_,rfl,hm,c,q,rfl,kt2 _ _ hr,kt2 _ _ hq⟩) (fun c z=>(iz z).imp id fun z=>by rw[z];exact hl) kp;exact pU (fun H H' k=>IsSet.keep k) P2 P2.p2.d P2.p2.r TP.cl TP.ns (IN A) (j:=5) (k:=(mid,Pz.nth1 r.2.2.2)) rfl rfl (kt2 _ _ hb) (LG A num c mid price b) (KY r num mid price) (fun B1 T H4=>PAt CP CQ B1 H4 A rs T xs _ xr) ⟨none,none,rfl⟩ (fun B1 H1 P=>⟨_,_,_,P⟩)
  (fun B1 T H1 ⟨_,_,_,P⟩=>⟨P.same,P.p2.d⟩) (fun B1 i x v σ H4 D' k4 e1 e2 e3 e4 k=>Gg e4 e2 e3 (k4 _ _ (kt2 _ _ hr)) (f_ (step:=KY r num mid price) (fun S x=>Pz.b9 S _ _ _ _) fit e1) k) fun B1 σ H4 b1 k4 s w=>k σ H4 _ (w.less b1)
theorem ux {vs:List V}(TP:iN K CP)(h:jW CP CQ vs H Q E):Ac K CP CQ (eQ Q) (bh (nS 8) vs) H:=by
 obtain⟨⟨xp,kt,col,P⟩,⟨_,q,ec,hr,hq⟩,h2,fit,k⟩:=h;cases ec
 delta Ac aP bc
 exact gr (.c (.va rfl) (.c (.ix (.ix (.va rfl) hr rfl) hq (fq (j:=1) (Dy h2))) .ni)) rfl fun b hb=>Gh TP (P.more (az hb)) aj (az hb _ _ hr) (az hb _ _ hq) fit rfl fun _=>k
end
section
variable {K:To}{xp:DX bC}{kt:List (List bC×V)}{col:Addr->Nat}
def g_ (K:To):List V->Hp->VK->Prop:=fun xs H Q=>∃ p ys,xs=[.ref p]/\(SqL K H p ys\/SqT K H p ys)/\Q (.int ys.length) H
theorem bB:cm X (.builtin "len") (g_ X.K):=o8
abbrev tI (K:To)(i:Nat)(n:Int):TE:=aX (gT K) (av i) (tC (.int n))
def pV (rs:Pz.RS):Prop:=∀ k x,x∈rs.get k->1<=x.2.2.2.2.length
inductive hZ (CP CQ:Addr):Sp
 |mk {B H:Hp} {A:PA} {rs:Pz.RS} {S:Pz.PS} {xs xl xr:DX (List bC)} {b:Addr} {a:Pz.Arr} {price:Int} {Q:VK} {E:XK} (P:PAt CP CQ B H A rs S xs xl xr) (ha:H b=some (.tup (f9 a))) (rok:pV rs) (f:Pz.iZ (Pz.settle aF rs S a price))
  (k:∀ H' xs' xl',PAt CP CQ B H' A rs (Pz.settle aF rs S a price) xs' xl' xr->Q .bJ H'):hZ CP CQ [.ref A.o,.ref b,.int price] H Q E
def IU (K:To)(CP CQ:Addr):TS:=cI (bp (aX n_ (ii (g_ K) (ao (tI K 5 3) aG)) (tC (.int 1))))
 (cg (dR CP "offer" (dH CP CQ) [] E0 (av 0) (ao (b8 (ao (tI K 5 0) (ao (tI K 5 1) (ao (tI K 1 2) aG)))) (ao (aX b_ (av 2) (tC (.int 1))) (ao (av 4) (ao (tC .bJ) aG))))))
 (cg (dR CP "settle_first" (jW CP CQ) [] E0 (av 0) (ao (av 4) (ao (av 5) (ao (tI K 1 2) (ao (av 2) aG))))))
def LH (K:To) (CP CQ:Addr):TS:=eV (cC K (gh (dN K (av 0) "rules") (av 3) (cW aG))) (dX K 2 (bn (aE 4) (bn (aE 5) dW))) (IU K CP CQ)
def IV (K:To) (CP CQ:Addr):TS:=cg (dR CP "offer" (dH CP CQ) [] E0 (av 0) (ao (b8 (ao (tI K 5 0) (ao (tI K 5 1) (ao (tI K 1 2) aG)))) (ao (aX b_ (aX b_ (av 6) (av 2)) (tC (.int 1))) (ao (av 4) (ao (tI K 1 0) aG)))))
def LI (K:To) (CP CQ:Addr):TS:=aP (eV (cC K (gh (dN K (av 0) "lacking") (av 3) (cW aG))) (dX K 3 (bn (aE 4) (bn (aE 5) (bn (aE 6) dW)))) (IV K CP CQ)) (LH K CP CQ)
def IW (K:To) (CP CQ:Addr):TS:=aP (cg (mI K (dN K (av 0) "settled") (av 3) (b8 (ao (tI K 1 2) (ao (av 2) aG))))) (LI K CP CQ)
def vL (K:To)(CP CQ:Addr):TS:=aP (bc (b8 (ao (tI K 1 0) (ao (tI K 1 1) aG))) (aE 3)) (IW K CP CQ)
theorem pW (h:hZ CP CQ vs H Q E):vs.length=3:=by cases h;rfl
theorem Ae (A:PA):(pf A).lookup ("settle_first" : Str)=none:=rfl
theorem Reads.len (h:Reads ta σ H (.ref q))(hq:H q=some (.tup ws)):Reads (ii (g_ K) (ao ta aG)) σ H (.int ws.length):=fun _ k=>h _ ⟨q,ws,rfl,.inr (SqT.of hq),k⟩
theorem Reads.B8 (h:Reads ta σ H (.int m))(h':Reads tb σ H (.int n)):Reads (aX n_ ta tb) σ H (.bl (decide (m=n))):=h.op h' fun _ q=>⟨rfl,by rw[show decide (V.int m=V.int n)=decide (m=n) from decide_eq_decide.mpr ⟨fun e=>by injection e,fun e=>by rw[e]⟩];exact q⟩
variable {D:Ends}{σ:L2.St}{b b0:Addr}{a:Pz.Arr}{price:Int}
def HL (A:PA)(b0:Addr)(price:Int)(b:Addr)(σ:L2.St):Prop:=∃ u v w,σ=[some (.ref A.o),some (.ref b0),some (.int price),some (.ref b),u,v,w]
theorem LJ (P:PAt CP CQ B H A rs S xs xl xr)(h:IsLack H x v)(hs:HL A b0 price b σ)(ha:H b0=some (.tup (f9 a)))(f:Pz.iZ (Pz.kK aF a price S x))
 (k:∀ σ' H',HL A b0 price b σ'->PAt CP CQ B H' A rs (Pz.kK aF a price S x) xs xl xr->D.nx σ' H'):dX K 3 (bn (aE 4) (bn (aE 5) (bn (aE 6) dW))) v σ H fun σ2 H2=>IV K CP CQ D σ2 H2:=by
 obtain⟨t,_,rfl,ht,c,q,rfl,hr,hq⟩:=h;obtain⟨u,w,z,rfl⟩:=hs;exact NL ht (pS P f (.va rfl) (.t (.c (.ix (.va rfl) hr rfl) (.c (.ix (.va rfl) hr rfl) (.c (.ix (.va rfl) ha rfl) .ni))) rfl) (fun _ s=>.c (.add (.add (.va rfl) (.va rfl)) .k) (.c (.va rfl) (.c (.ix (.va rfl) (s _ _ ha) rfl) .ni))) fun H'=>k _ H' ⟨_,_,_,rfl⟩)
theorem LK (P:PAt CP CQ B H A rs S xs xl xr)(h:IsNum H x v)(hs:HL A b0 price b σ)(ha:H b0=some (.tup (f9 a)))(hl:1<=x.2.2.2.2.length)(f:Pz.iZ (Pz.cv aF a price S x))
 (k:∀ σ' H',HL A b0 price b σ'->(∃ xl',PAt CP CQ B H' A rs (Pz.cv aF a price S x) xs xl' xr)->D.nx σ' H'):dX K 2 (bn (aE 4) (bn (aE 5) dW)) v σ H fun σ2 H2=>IU K CP CQ D σ2 H2:=by
 obtain⟨t,_,rfl,ht,c,q,rfl,hr,hq⟩:=h;obtain⟨u,w,z,rfl⟩:=hs;unfold Pz.cv at f k;have e1:(((x.2.2.2.2.map V.int).length:Nat):Int)=1↔x.2.2.2.2.length=1:=by rw[O2];lia
 refine BW ht (g9 (.B8 (.len (.ix (.va rfl) hr rfl) hq) .k) (fun h=>?_) fun h=>?_)
 .rw[Pi (e1.mp (PD h))]at f k;exact pS P f (.va rfl) (.t (.c (.ix (.va rfl) hr rfl) (.c (.ix (.va rfl) hr rfl) (.c (.ix (.va rfl) ha rfl) .ni))) rfl) (fun _ s=>.c (.add (.va rfl) .k) (.c (.va rfl) (.c .k .ni))) fun H' P'=>k _ H' ⟨_,_,_,rfl⟩ ⟨_,P'⟩
 .have h1:¬ x.2.2.2.2.length=1:=fun z=>h (O_ (e1.mpr z));have h2:2<=x.2.2.2.2.length:=by lia
  rw[Pl h1]at f k;have P':=P;obtain⟨_,_,_,Q⟩:=P';exact rQ (.va rfl) Q.po.ins (Ae A) (.c (.va rfl) (.c (.va rfl) (.c (.ix (.va rfl) ha rfl) (.c (.va rfl) .ni)))) (.mk P ⟨c,q,rfl,hr,hq⟩ h2 f fun H' xl' P'=>k _ H' ⟨_,_,_,rfl⟩ ⟨xl',P'⟩)
theorem LL (TP:iN K CP)(P:bD CP CQ B H A rs S xs xl xr xp kt col)(ha:H b0=some (.tup (f9 a)))(hb:H b=some (.tup [.int a.1,.int a.2.1]))(rok:pV rs)(fit:Pz.iZ (Pz.settle aF rs S a price))(hs:σ=[some (.ref A.o),some (.ref b0),some (.int price),some (.ref b),none,none,none])
 (k:∀ σ' H' xs' xl',PAt CP CQ B H' A rs (Pz.settle aF rs S a price) xs' xl' xr->D.nx σ' H'):IW K CP CQ D σ H:=by
 subst hs;have g2:Pz.eM ((S.aR.get (a.1,a.2.1)).foldl (Pz.kK aF a price) (Pz.note S a price)) (Pz.settle aF rs S a price):=Pz.ck _ (Pz.i_ a price) _ _;have fit1:=g2.fit fit;have fitN:Pz.iZ (Pz.note S a price):=Pz.eM.fit (Pz.ck _ (fun S x=>Pz.b9 S _ _ _ _) _ _) fit1;have f1:=fitN.s;have f2:=fitN.sf;have al:=Pz.d5 S.settled (a.1,a.2.1) (a.2.2,price);have e5:(Pz.note S a price).settled=S.settled.app (a.1,a.2.1) (a.2.2,price):=rfl;rw[e5]at f1 f2;unfold Pz.L at f1 f2;have sr1:RepM k2 IsSet H S.settled xs:=P.p2.r;refine pP (a:=A.sa) (b:=b) (xs:=xs) (k:=k2 (a.1,a.2.1)) (ws:=[.int a.2.2,.int price]) P.p2.d (P.fld TP.cl TP.ns (IN A) rfl) (.va rfl) hb (fun H' kp=>.t (.c (.ix (.va rfl) (kp _ _ ha (fun z=>by rw[z,P.p2.d.root]at ha;cases ha)) rfl) (.c (.va rfl) .ni)) rfl) (by rw[<- sr1.len];lia) (sr1.low (by lia)) ?_;intro l p H2 hl hp hm hd kp;have kt2:=P.p2.d.kt (fun _ _ z=>HO.noConfusion z) kp;have P2:bD CP CQ B H2 A rs (Pz.note S a price) _ xl xr _ _ _:=P.MO hd (sr1.add (k:=(a.1,a.2.1)) (v:=(a.2.2,price)) jc (IsSet.keep kt2) ⟨p,rfl,hm⟩) (fun c z=>(iz z).imp id fun z=>by rw[z];exact hl) kp;generalize kg xs (k2 (a.1,a.2.1)) l (.ref p)=xs2 at P2;refine pU (fun H H' k=>IsLack.keep k) P2 P2.p3.d P2.p3.r TP.cl TP.nl (IQ A) (j:=3) (k:=(a.1,a.2.1)) rfl rfl (kt2 _ _ hb) (HL A b0 price b) (Pz.kK aF a price) (fun B1 T H4=>PAt CP CQ B1 H4 A rs T xs2 xl xr) ⟨none,none,none,rfl⟩ (fun B1 H1 P=>⟨_,_,_,P⟩)
  (fun B1 T H1 ⟨_,_,_,P⟩=>⟨P.same,P.p3.d⟩) (fun B1 i x v σ H4 D' k4 e1 e2 e3 e4 k=>LJ e4 e2 e3 (k4 _ _ (kt2 _ _ ha)) (f_ (step:=Pz.kK aF a price) (fun S x=>Pz.b9 S _ _ _ _) fit1 e1) k) fun B1 σ H4 b1 k4 s w=>?_
 obtain⟨u,v,z,rfl⟩:=s;obtain⟨_,_,_,Q4⟩:=w;have ha4:=k4 _ _ (kt2 _ _ ha);exact pU (fun H H' k=>IsNum.keep k) Q4 Q4.p4.d Q4.p4.r TP.cl TP.nr (LD A) (j:=3) (k:=(a.1,a.2.1)) rfl rfl (k4 _ _ (kt2 _ _ hb)) (HL A b0 price b) (Pz.cv aF a price) (fun B1 T H6=>∃ xl',PAt CP CQ B1 H6 A rs T xs2 xl' xr) ⟨_,_,_,rfl⟩ (fun B1 H1 P=>⟨_,_,_,_,P⟩)
  (fun B1 T H1 ⟨_,_,_,_,P⟩=>⟨P.same,P.p4.d⟩) (fun B1 i x v σ H6 D' k6 e1 e2 e3 ⟨_,e4⟩ k=>LK e4 e2 e3 (k6 _ _ ha4) (rok _ _ (Px e1)) (f_ (step:=Pz.cv aF a price) (Pz.i_ a price) fit e1) k) fun B2 σ H6 b2 k6 s ⟨xl',w⟩=>k σ H6 _ xl' (w.less (b1.trans b2))
theorem rZ (TP:iN K CP)(h:hZ CP CQ vs H Q E):vL K CP CQ (eQ Q) (bh (nS 7) vs) H:=by
 obtain⟨⟨xp,kt,col,P⟩,ha,rok,fit,k⟩:=h
 delta vL aP bc
 exact gr (.c (.ix (.va rfl) ha rfl) (.c (.ix (.va rfl) ha rfl) .ni)) rfl fun b hb=>LL TP (P.more (az hb)) (az hb _ _ ha) aj rok fit rfl fun _=>k
end
section
variable {K:To}
theorem bD.xj (h:bD CP CQ B H A rs S xs xl xr xp kt col)(h0:∃ dx,H' A.aq=some (.ins CQ dx (qf A m)))(h1:DL .dK H' A.ap xp')(h2:RepM k1 IsItem H' d' xp')(hn:∀ c,cD A.ap xp' c->cD A.ap xp c\/H c=none)
 (kp:∀ c u,H c=some u->¬ cD A.ap xp c->c≠A.aq->H' c=some u):bD CP CQ B H' A rs { S with last:=m,aQ:=d' } xs xl xr xp' kt (pQ col 1 H):=by
 obtain⟨dy,hq⟩:=h.po.B4;have k:KT H H':=fun c ws e=>kp c _ e (fun i=>by
  rcases i with rfl|⟨x,hx,rfl⟩
  .rw[h.p1.d.root]at e;cases e
  .rw[h.p1.d.qp x hx]at e;cases e) fun z=>by rw[z,hq]at e;cases e
 have kj:∀ c u,H c=some u->col c≠1->col c≠7->H' c=some u:=fun c u e n n'=>kp c u e (fun i=>n (h.p1.c c i).1) fun z=>n' (by rw[z];exact h.po.c7.1);obtain⟨⟨dx,i1⟩,_,i3,i4,c5,c6,c7⟩:=h.po;refine⟨(fun c u e=>kp c u (h.same c u e) (fun i=>by rw[(h.p1.c c i).2]at e;cases e) fun z=>by rw[z,c7.2]at e;cases e),h.p1.new h.same h1 h2 hn,h.p2.keep (IsSet.keep k) (fun c u e z=>kj c u e (by lia) (by lia)) fun c=>bF,h.p3.keep (IsLack.keep k) (fun c u e z=>kj c u e (by lia) (by lia)) fun c=>bF,h.p4.keep (IsNum.keep k) (fun c u e z=>kj c u e (by lia) (by lia)) fun c=>bF,⟨dx,kj _ _ i1 (by lia) (by lia)⟩,h0,kj _ _ i3 (by lia) (by lia),i4.keep k,?_,?_,?_⟩
 .rw[bF (by rw[i3];simp)];exact c5
 .rw[bF (by rw[i1];simp)];exact c6
 .rw[bF (by rw[hq];simp)];exact c7
inductive sH (CP CQ:Addr):Sp
 |mk {B H:Hp} {A:PA} {rs:Pz.RS} {S T:Pz.PS} {xs xl xr:DX (List bC)} {n:Nat} {Q:VK} {E:XK} (P:PAt CP CQ B H A rs S xs xl xr) (rok:pV rs) (fit:Pz.iZ S) (lp:Pz.Loop aF rs n S T) (k:∀ H' xs' xl',PAt CP CQ B H' A rs T xs' xl' xr->Q .bJ H'):sH CP CQ [.ref A.o] H Q E
def IX (K:To) (CP CQ:Addr):TS:=cI (bp (aX n_ (aX (gT K) (qR (dN K (av 0) "told") (av 2)) (tC (.int 0))) (av 1))) (cg (dR CP "settle" (hZ CP CQ) [] E0 (av 0) (ao (av 2) (ao (av 1) aG)))) bY
def IY (K:To) (CP CQ:Addr):TS:=eV (cC K (dR CQ "take_lowest" (m8 CQ) [] E0 (dN K (av 0) "offers") aG)) (dX K 2 (bn (aE 1) (bn (aE 2) dW))) (IX K CP CQ)
def LM (K:To) (CP CQ:Addr):TS:=oY (qG (tB (dR CQ "is_empty" (jZ CQ) [] E0 (dN K (av 0) "offers") aG))) (IY K CP CQ)
theorem xC (h:sH CP CQ vs H Q E):vs.length=1:=by cases h;rfl
theorem Gi (A:PA) (last:Int):(qf A last).lookup ("is_empty" : Str)=none:=rfl
theorem Dz (A:PA) (last:Int):(qf A last).lookup ("take_lowest" : Str)=none:=rfl
theorem xD (A:PA):(pf A).lookup ("settle" : Str)=none:=rfl
variable {D:Ends}{σ:L2.St}{T:Pz.PS}{m:Nat}
def IZ (A:PA)(σ:L2.St):Prop:=∃ u v,σ=[some (.ref A.o),u,v]
def wA (CP CQ:Addr)(B:Hp)(A:PA)(rs:Pz.RS)(xr:DX (List bC))(T:Pz.PS)(m:Nat)(σ:L2.St)(H:Hp):Prop:=IZ A σ/\∃ S xs xl,PAt CP CQ B H A rs S xs xl xr/\Pz.iZ S/\Pz.Loop aF rs m S T
theorem al3 (TP:iN K CP)(rok:pV rs)(P:PAt CP CQ B H A rs S xs xl xr)(h:IsItem H x v)(hs:IZ A σ)(kn:Pz.bK S.told x.2≠none)(f:Pz.iZ (Pz.turn aF rs S x))
 (k:∀ σ' H',IZ A σ'->(∃ xs' xl',PAt CP CQ B H' A rs (Pz.turn aF rs S x) xs' xl' xr)->D.nx σ' H'):dX K 2 (bn (aE 1) (bn (aE 2) dW)) v σ H fun σ2 H2=>IX K CP CQ D σ2 H2:=by
 obtain⟨t,_,rfl,ht,b,rfl,hb⟩:=h;obtain⟨u,w,rfl⟩:=hs;have P':=P;obtain⟨_,_,_,Q⟩:=P';rcases Q.po.tr.find x.2 with⟨_,e2⟩|⟨_,y,e1,e2,q,rfl,hq⟩
 .exact(kn e2).elim
 unfold Pz.turn Pz.F5 at f k;rw[e2]at f k;refine BW ht (g9 (.B8 (.ix (fun _ z=>Q.fld TP.cl TP.nt (Dv A) rfl _ ⟨_,rfl,A.ta,.ref q,rfl,by rw[<- e1];exact DGet.t Q.po.td hb,z⟩) hq rfl) (.va rfl)) (fun h=>?_) fun h=>?_)
 .rw[Pi h]at f k;exact rQ (.va rfl) Q.po.ins (xD A) (.c (.va rfl) (.c (.va rfl) .ni)) (.mk P hb rok f fun H' xs' xl' P'=>k _ H' ⟨_,_,rfl⟩ ⟨xs',xl',P'⟩)
 .rw[Pl h]at k;exact k _ H ⟨_,_,rfl⟩ ⟨xs,xl,P⟩
theorem al2 (TP:iN K CP)(rok:pV rs)(P:bD CP CQ B H A rs S xs xl xr xp kt col)(fit:Pz.iZ S)(hs:IZ A σ)(hne:S.aQ≠[])(be:Pz.sS aF S.last S.aQ)(hkn:∀ x∈Pz.dc aF S.aQ,Pz.bK S.told x.2≠none)(fit2:Pz.iZ (Pz.batch aF rs (Pz.take aF S) (Pz.dc aF S.aQ)))
 (lp:Pz.Loop aF rs m (Pz.batch aF rs (Pz.take aF S) (Pz.dc aF S.aQ)) T) (k:∀ σ' H',wA CP CQ B A rs xr T m σ' H'->D.nx σ' H'):IY K CP CQ D σ H:=by
 obtain⟨u,v,rfl⟩:=hs;have pr:RepM k1 IsItem H S.aQ xp:=P.p1.r;have f1:=fit.p;have f2:=fit.pf;unfold Pz.L at f1 f2;refine eS (rQ (P.fld TP.cl TP.no (Gc A) rfl) P.po.B4 (Dz A _) .ni (.mk ⟨P.po.B4,P.p1.d,by rw[<- pr.len];lia,pr.low (by lia)⟩ pr be hne (by lia) ?_));intro l vs' xp' H1 G1 R1 hl1 a1 nl il sub1 kp1;have P1:bD CP CQ B H1 A rs (Pz.take aF S) xs xl xr xp' kt _:=P.xj (m:=Pz.lowP S.aQ) (d':=Pz.left aF S.aQ) G1.ins G1.aQ R1 sub1 kp1;obtain⟨B1,w1,w2,w3,P2⟩:=P1.wide (fun c=>c=l) fun c e=>by
  subst e;rcases il with il|il
  .have hc:=(P.p1.c c il).1;refine⟨nl,fun i=>?_,fun i=>?_,fun i=>?_,fun z=>?_,fun z=>?_,fun z=>?_⟩
   .have:=(P.p2.c c i).1;lia
   .have:=(P.p3.c c i).1;lia
   .have:=(P.p4.c c i).1;lia
   .have:=P.po.c5.1;rw[z]at hc;lia
   .have:=P.po.c6.1;rw[z]at hc;lia
   .have:=P.po.c7.1;rw[z]at hc;lia
  .exact⟨nl,(P.obj il).2⟩
 have sm:∀ T' H2,(∃ xs' xl',PAt CP CQ B1 H2 A rs T' xs' xl' xr)->Same B1 H2:=fun T' H2 ⟨_,_,_,_,_,P⟩=>P.same;exact⟨l,rfl,⟨_,SqL.of hl1⟩,pT (it:=IsItem) (IZ A) (Pz.turn aF rs) (Pz.take aF S) (fun T' H2=>∃ xs' xl',PAt CP CQ B1 H2 A rs T' xs' xl' xr) ⟨_,_,rfl⟩ ⟨xs,xl,_,_,_,P2⟩ (fun T' H2 w=>⟨.inl (sm T' H2 w _ _ (w3 l _ rfl hl1)),a1.mono (IsItem.keep fun c ws e=>sm T' H2 w _ _ (w2 _ _ e))⟩)
  (fun i x v σ H2 D' hx ix s ⟨_,_,w⟩ k=>al3 TP rok w ix s (Pz.g7 _ (fun S x k=>Pz.Dk k) _ _ (hkn x (Px hx))) (f_ (step:=Pz.turn aF rs) Pz.xm fit2 hx) k) fun σ H2 s ⟨xs',xl',w⟩=>k σ H2 ⟨s,_,xs',xl',w.less w1,fit2,lp⟩⟩
theorem Af (TP:iN K CP)(h:sH CP CQ vs H Q E):LM K CP CQ (eQ Q) (bh (nS 3) vs) H:=by
 obtain @⟨B,H,A,rs,S,T,xs,xl,xr,n,Q,E,P,rok,fit,lp,k⟩:=h;refine⟨wA CP CQ B A rs xr T,⟨n,⟨none,none,rfl⟩,S,xs,xl,P,fit,lp⟩,?_⟩;clear P lp fit;rintro m σ H ⟨hs,S,xs,xl,⟨xp,kt,col,P⟩,fit,lp⟩;have h0:σ[0]?=some (some (.ref A.o)):=by obtain⟨_,_,rfl⟩:=hs;rfl
 have el:xp.kv.length=S.aQ.length:=by unfold DX.kv;rw[O2,<- P.p1.r.len]
 obtain⟨dy,hq⟩:=P.po.B4;have f1:=fit.p;unfold Pz.L at f1;refine rQ (P.fld TP.cl TP.no (Gc A) h0) ⟨dy,hq⟩ (Gi A _) .ni (.mk hq P.p1.d.root (by rw[el,Pn];lia) ⟨_,rfl,?_⟩);rw[el];cases lp with
 |done e=>rw[e];exact cf (k H xs xl ⟨xp,kt,col,P⟩)
 | @step m _ _ hne be hkn _ fit2 lp=>rw[Pp fun z=>hne (Qz.mp z)];exact cJ ⟨wA CP CQ B A rs xr T m,fun σ' H' h'=>⟨m,QO _,h'⟩,al2 TP rok P fit hs hne be hkn fit2 lp fun _ _=>id⟩
end
section
variable {K:To}{H:Hp}
theorem vM {tb:TS}{D:Ends}{σ:L2.St}{H1:Hp}(Sh:L2.St->Prop)(W:Nat->Hp->Prop)(h0:Sh σ)(h1:W 0 H1)(hW:∀ i H,W i H->SqL K H l vs)
 (hb:∀(i:Nat)(v:V)(p:Addr)(σ:L2.St)(H:Hp)(D':Ends),vs[i]?=some v->H p=none->Sh σ->W i H->(∀ σ' H',Sh σ'->W (i+1) H'->D'.nx σ' H')->g (.ref p) σ (upd H p (.tup [.int (i:Nat),v])) fun σ2 H2=>tb D' σ2 H2)
 (hd:∀ σ H,Sh σ->W vs.length H->D.nx σ H):Wk (KQ K l) g tb D σ H1:=by
 refine⟨fun i m σ H=>m=vs.length-i/\i<=vs.length/\Sh σ/\W i H,⟨vs.length,by simp,Pq _,h0,h1⟩,?_⟩;rintro i m σ H ⟨rfl,hi,s,w⟩;have q:=hW i H w;by_cases hlt:i<vs.length
 .refine .inr ⟨⟨vs,vs[i],q,by simp[hlt]⟩,fun σ' H'=>Sh σ'/\W (i+1) H',fun σ' H' p'=>⟨vs.length-(i+1),by lia,rfl,hlt,p'⟩,fun x H' y=>?_⟩;obtain⟨p,v,hp,rfl,rfl,y⟩:=y;exact hb i v p σ H _ (y vs q) hp s w fun _ _=>And.intro
 .have e:i=vs.length:=by lia
  subst e;exact .inl ⟨⟨vs,q,O0 _⟩,hd σ H s w⟩
theorem oR {tb:TS}{D:Ends}{σ:L2.St}(h:ta σ H fun vs H1=>∃ a xs,vs=[.ref a]/\SqL K H1 a xs/\Wk (KQ K a) g tb D σ H1):eV (vD K ta) g tb D σ H:=h
theorem uy:∀(l:List Pz.Rule)(k i:Nat),(Pz.en l k)[i]?=(l[i]?).map fun r=>(((k+i:Nat):Int),r)
 | [],k,i=>by simp[Pz.en]
 |r::l,k,0=>by simp[Pz.en]
 |r::l,k,i+1=>by show(Pz.en l (k+1))[i]?=(l[i]?).map _;rw[uy l];congr 1;funext r;congr 2;lia
theorem vN {β:Type}(f:β->Int×Pz.Rule->β)(b:β){l:List Pz.Rule}{i:Nat}{r:Pz.Rule}(h:l[i]?=some r):((Pz.en l 0).take (i+1)).foldl f b=f (((Pz.en l 0).take i).foldl f b) ((i:Int),r):=by
 have e:(Pz.en l 0)[i]?=some ((i:Int),r):=by rw[uy,h];simp
 rw[PV,e,Ro];rfl
structure fE (H:Hp) (RL:List Pz.Rule) (p l:Addr) (vs:List V):Prop where
 tup:∃ w0 w1,H p=some (.tup [w0,w1,.ref l])
 lst:Rd H l (.lst vs)
 its:aO (IsRule H) RL vs
theorem aK (s:Same H H')(h:Rd H a u):Rd H' a u:=h.imp (s a _) fun⟨o,e⟩=>⟨o,s a _ e⟩
theorem fE.same (h:fE H RL p l vs)(s:Same H H'):fE H' RL p l vs:=⟨let ⟨w0,w1,e⟩:=h.tup;⟨w0,w1,s _ _ e⟩,aK s h.lst,h.its.mono (IsRule.keep (pR s))⟩
inductive BR:Sp
 |mk {RL:List Pz.Rule} {p l:Addr} {ws:List V} {H:Hp} {Q:VK} {E:XK} (G:fE H RL p l ws) (bL:RL.length<16000000) (k:∀(ar:Addr)(xr:DX (List bC))(H':Hp),Same H H'->DL .dT H' ar xr->RepM k2 IsNum H' (Pz.bS RL) xr->(∀ c,cD ar xr c->H c=none)->Q (.ref ar) H'):BR [.ref p] H Q E
def I0:R2:=qJ fun i j=>.bl (decide (j<i))
def I_ (K:To):TS:=cI (bp (aX I0 (ii (g_ K) (ao (tI K 3 3) aG)) (tC (.int 0)))) (cg (mI K (av 1) (b8 (ao (tI K 3 2) (ao (aX (gT K) (tI K 3 3) (tC (.int 0))) aG))) (b8 (ao (av 2) (ao (av 3) aG))))) bY
def LN (K:To):TS:=aP (eV (vD K (ao (tI K 0 2) aG)) (dX K 2 (bn (aE 2) (bn (aE 3) dW))) (I_ K)) (b6 (av 1))
def NM (K:To):TS:=aP (bc j9 (aE 1)) (LN K)
theorem Ag (h:BR vs H Q E):vs.length=1:=by cases h;rfl
theorem xE (hto:Reads to σ H (.ref a))(hr:H a=some (.dT kvs))(hk:Makes tk σ H ks)(h:∀ b,H b=none->mI K (tC (.ref a)) (tC (.ref b)) te σ (upd H b (.tup ks)) Q):mI K to tk te σ H Q:=hto _ ⟨.inr (.inr (.inl ⟨rfl,.inr ⟨_,hr⟩⟩)),hk _ fun b hb=>(h b hb).2⟩
theorem Gj {β:Type}{it:Hp->β->V->Prop}(kp:∀{H H':Hp},KT H H'->∀ a v,it H a v->it H' a v){to tk te:TE}{σ:L2.St}{ar:Addr}{xr:DX (List bC)}{d:Pz.MD (Int×Int) β}{k:Int×Int}{v:β}{ws:List V}{C:Hp->Prop}(D2:DL .dT H ar xr)(R2:RepM k2 it H d xr)(ok:d.Ok)(jf:d.flat.length<16000000)(ht:Reads to σ H (.ref ar))(hk:Makes tk σ H [.int k.1,.int k.2])(hm:∀ H',KT H H'->Makes te σ H' ws)(hi:∀ p H',KT H H'->H' p=some (.tup ws)->it H' v (.ref p))
 (kk:∀ H' xr',DL .dT H' ar xr'->RepM k2 it H' (d.app k v) xr'->(∀ c,cD ar xr' c->cD ar xr c\/H c=none)->(∀ c u,H c=some u->¬ cD ar xr c->H' c=some u)->C H'):mI K to tk te σ H fun _ H'=>C H':=by
 refine xE ht D2.root hk fun b hb=>?_;have s4:=az (o:=HO.tup [.int k.1,.int k.2]) hb;refine pP (a:=ar) (b:=b) (xs:=xr) (k:=k2 k) (ws:=ws) (D2.keep fun c u e _=>s4 c u e) .k .k aj (fun H' kp=>hm H' fun c vs e=>kp c _ (s4 _ _ e) fun z=>by rw[z,D2.root]at e;cases e) (by rw[<- R2.len];have:=Pz.gm ok;lia) (R2.low jf) ?_;intro l5 p5 H5 hl5 hp5 hm5 hd5 kp5;have kp':∀ c u,H c=some u->¬ cD ar xr c->H5 c=some u:=fun c u e=>kp5 c u (s4 _ _ e);have kt5:=D2.kt (fun _ _ z=>HO.noConfusion z) kp';exact kk H5 _ hd5 (R2.add (k:=k) (v:=v) jc (kp kt5) (hi p5 H5 kt5 hm5)) (fun c z=>(iz z).imp id fun z=>by rw[z];exact s4.free hl5) kp'
variable {D:Ends}{σ:L2.St}{p ar pp c q:Addr}{r:Pz.Rule}{n:Int}{xr:DX (List bC)}{d:Pz.RS}
def LO (p ar:Addr)(σ:L2.St):Prop:=∃ u v,σ=[some (.ref p),some (.ref ar),u,v]
theorem NN (D2:DL .dT H ar xr)(R2:RepM k2 IsNum H d xr)(ok:d.Ok)(jf:d.flat.length<16000000)(hs:LO p ar σ)(hpp:H pp=some (.tup [.int n,.ref c]))(hc:H c=some (.tup [.int r.1,.int r.2.1,.int r.2.2.1,.ref q]))(hq:H q=some (.tup (r.2.2.2.map .int)))
 (k:∀ σ' H' xr',LO p ar σ'->DL .dT H' ar xr'->RepM k2 IsNum H' (Pz.fz d (n,r)) xr'->(∀ c,cD ar xr' c->cD ar xr c\/H c=none)->(∀ c u,H c=some u->¬ cD ar xr c->H' c=some u)->D.nx σ' H'):dX K 2 (bn (aE 2) (bn (aE 3) dW)) (.ref pp) σ H fun σ2 H2=>I_ K D σ2 H2:=by
 obtain⟨u,w,rfl⟩:=hs;have e2:(0:Int)<(((r.2.2.2.map V.int).length:Nat):Int)↔r.2.2.2.length>0:=by rw[O2];lia
 unfold Pz.fz at k;refine BW hpp (g9 (.op (.len (.ix (.va rfl) hc rfl) hq) .k fun _ q=>⟨_,_,rfl,rfl,q⟩) (fun h=>?_) fun h=>?_)
 .have h1:=e2.mp (PD h);rw[Pi h1]at k;have hat:(r.2.2.2.map V.int)[0]?=some (.int (r.2.2.2[0]?.getD 0)):=by
   cases hl:r.2.2.2 with
   |nil=>rw[hl]at h1;simp at h1
   |cons x y=>rfl
  exact Gj (k:=(r.2.2.1,r.2.2.2[0]?.getD 0)) (v:=(n,r)) (fun k=>IsNum.keep k) D2 R2 ok jf (.va rfl) (.t (.c (.ix (.va rfl) hc rfl) (.c (.ix (.ix (.va rfl) hc rfl) hq (fq (j:=0) hat)) .ni)) rfl) (fun H' _=>.t (.c (.va rfl) (.c (.va rfl) .ni)) rfl) (fun p H' kt hm=>⟨p,_,rfl,hm,c,q,rfl,kt _ _ hc,kt _ _ hq⟩) fun H' xr'=>k _ H' xr' ⟨_,_,rfl⟩
 .rw[Pl fun z=>h (O_ (e2.mpr z))]at k;exact k _ H _ ⟨_,_,rfl⟩ D2 R2 (fun c=>.inl) fun c u e _=>e
theorem DA {Q:VK}{E:XK}(h:BR vs H Q E):NM K (eQ Q) (bh (nS 4) vs) H:=by
 obtain @⟨RL,p,l,ws,H,Q,E,G,bL,k⟩:=h;intro ar har;have s1:Same H (upd H ar (.dT [])):=az har;obtain⟨w0,w1,hp⟩:=(G.same s1).tup;have bl:∀ i,(((Pz.en RL 0).take i).foldl Pz.fz []).Ok/\(((Pz.en RL 0).take i).foldl Pz.fz []).flat.length<16000000:=fun i=>by obtain⟨a,b⟩:=Pz.uq ((Pz.en RL 0).take i) [] Pz.rP;have h1:=RY i (Pz.en RL 0);rw[Pz.mG]at h1;have h2:(Pz.MD.flat ([]:Pz.RS)).length=0:=rfl;exact⟨a,by lia⟩
 refine oR (ReadsA.c (.ix (.va (i:=0) rfl) hp (v:=.ref l) rfl) .ni _ ⟨l,ws,rfl,.inl (aK s1 G.lst),?_⟩);refine vM (LO p ar) (fun i H2=>∃ xr,Same H H2/\DL .dT H2 ar xr/\RepM k2 IsNum H2 (((Pz.en RL 0).take i).foldl Pz.fz []) xr/\∀ c,cD ar xr c->H c=none) ⟨none,none,rfl⟩ ⟨[],s1,⟨aj,fun _ h=>(Pd h).elim,PZ,PZ⟩,.nil,fun c i=>?_⟩ (fun i H2 ⟨xr,s2,_⟩=>.inl (aK s2 G.lst)) (fun i v pp σ H2 D' hv hpp hs ⟨xr,s2,D2,R2,n2⟩ k=>?_) fun σ H2 ⟨u,w,e⟩ ⟨xr,s2,D2,R2,n2⟩=>?_
 .rcases i with rfl|⟨x,hx,_⟩
  .exact har
  .exact(Pd hx).elim
 .obtain⟨r,hr,c,q,rfl,hc,hq⟩:=G.its.get hv;have s3:=az (o:=HO.tup [.int (i:Nat),.ref c]) hpp;have s03:=s2.trans s3;rw[vN _ _ hr]at k;exact NN (D2.keep fun c u e _=>s3 c u e) (R2.keep (IsNum.keep (pR s3))) (bl i).1 (bl i).2 hs aj (s03 _ _ hc) (s03 _ _ hq) fun σ' H' xr' h1 h2 h3 h4 h5=>k σ' H' h1 ⟨xr',(fun c u e=>h5 c u (s03 _ _ e) fun z=>by rw[n2 c z]at e;cases e),h2,h3,fun c z=>(h4 c z).elim (n2 c) s03.free⟩
 .subst e;rw[Qh (by rw[Pz.mG,G.its.len];exact O0 _)]at R2;exact⟨_,rfl,k ar xr H2 s2 D2 R2 n2⟩
end
section
variable {K:To}{CP CQ:Addr}{H:Hp}
inductive jS (CP CQ:Addr):Sp
 |mk {B H:Hp} {RL:List Pz.Rule} {o dx p l:Addr} {ws:List V} {Q:VK} {E:XK} (ho:H o=some (.ins CP dx [])) (sb:Same B H) (nb:B o=none) (G:fE H RL p l ws) (bL:RL.length<16000000) (k:∀(A:PA)(xr:DX (List bC))(H':Hp),A.o=o->PAt CP CQ B H' A (Pz.bS RL) Pz.S0 [] [] xr->Q .bJ H'):jS CP CQ [.ref o,.ref p] H Q E
def Gk (K:To)(CQ:Addr):TS:=
 aP (o5 K (av 0) (br BR [] E0 (ao (av 1) aG)) "rules")
 (aP (o5 K (av 0) j9 "told")
 (aP (o5 K (av 0) (u7 CQ (jV CQ) [] E0 aG) "offers")
 (aP (o5 K (av 0) j9 "settled")
 (o5 K (av 0) j9 "lacking"))))
theorem r_ (h:jS CP CQ vs H Q E):vs.length=2:=by cases h;rfl
theorem uz (TP:iN K CP)(h:jS CP CQ vs H Q E):Gk K CQ (eQ Q) (bh N vs) H:=by
 obtain @⟨B,H,RL,o,dx,p,l,ws,Q,E,ho,sb,nb,G,bL,k⟩:=h;refine⟨_,rfl,.mk G bL fun ar xr H1 s1 D1 R1 n1=>?_⟩;have ho1:=s1 _ _ ho;have nor:∀ c,cD ar xr c->c≠o:=fun c i z=>by grind
 refine⟨_,rfl,o,CP,dx,_,rfl,ho1,TP.cl,TP.nr,(by grind),?_⟩;generalize hH2:upd H1 o (.ins CP dx (fT "rules" (.ref ar) []))=H2;have ho2:H2 o=some (.ins CP dx [("rules",.ref ar)]):=by rw[<- hH2,aj];rfl
 have kp2:∀ c u,H1 c=some u->c≠o->H2 c=some u:=fun c u e n=>by rw[<- hH2,aA n];exact e
 intro ta hta;have e3:upd H2 ta (.dT []) o=some (.ins CP dx [("rules",.ref ar)]):=by rw[aA (aB ho2 hta)];exact ho2
 refine⟨_,rfl,o,CP,dx,_,rfl,e3,TP.cl,TP.nt,(by grind),?_⟩;generalize hH4:upd (upd H2 ta (.dT [])) o (.ins CP dx (fT "told" (.ref ta) [("rules",.ref ar)]))=H4;have no_ta:ta≠o:=(aB ho2 hta).symm;have ho4:H4 o=some (.ins CP dx [("rules",.ref ar),("told",.ref ta)]):=by rw[<- hH4,aj];rfl
 have ta4:H4 ta=some (.dT []):=by rw[<- hH4,aA no_ta,aj]
 have kp4:∀ c u,H2 c=some u->c≠o->H4 c=some u:=fun c u e n=>by rw[<- hH4,aA n,aA (aB e hta)];exact e
 intro aq dq haq hdq ndq;refine .mk aj fun ap H5 hap hq5 hp5 kp5=>⟨rfl,?_⟩;have kp5':∀ c u,H4 c=some u->H5 c=some u:=fun c u e=>kp5 c u (by rw[aA (aB e haq),aA (aB e hdq)];exact e) (aB e haq);have ap4:H4 ap=none:=by
  have h1:ap≠aq:=fun z=>by grind
  have h2:ap≠dq:=fun z=>by rw[z,aA ndq,aj]at hap;cases hap
  rw[aA h1,aA h2]at hap;exact hap
 have apq:ap≠aq:=fun z=>by grind
 refine⟨_,rfl,o,CP,dx,_,rfl,kp5' _ _ ho4,TP.cl,TP.no,(by grind),?_⟩;generalize hH6:upd H5 o (.ins CP dx (fT "offers" (.ref aq) [("rules",.ref ar),("told",.ref ta)]))=H6;have noq:aq≠o:=fun z=>by grind
 have nop:ap≠o:=fun z=>by grind
 have ho6:H6 o=some (.ins CP dx [("rules",.ref ar),("told",.ref ta),("offers",.ref aq)]):=by rw[<- hH6,aj];rfl
 have kp6:∀ c u,H5 c=some u->c≠o->H6 c=some u:=fun c u e n=>by rw[<- hH6,aA n];exact e
 intro sa hsa;have nsa:sa≠o:=(aB ho6 hsa).symm;refine⟨_,rfl,o,CP,dx,_,rfl,(by rw[aA (aB ho6 hsa)];exact ho6),TP.cl,TP.ns,(by grind),?_⟩;generalize hH8:upd (upd H6 sa (.dT [])) o (.ins CP dx (fT "settled" (.ref sa) [("rules",.ref ar),("told",.ref ta),("offers",.ref aq)]))=H8;have ho8:H8 o=some (.ins CP dx [("rules",.ref ar),("told",.ref ta),("offers",.ref aq),("settled",.ref sa)]):=by rw[<- hH8,aj];rfl
 have sa8:H8 sa=some (.dT []):=by rw[<- hH8,aA nsa,aj]
 have kp8:∀ c u,H6 c=some u->c≠o->H8 c=some u:=fun c u e n=>by rw[<- hH8,aA n,aA (aB e hsa)];exact e
 intro la hla;have nla:la≠o:=(aB ho8 hla).symm;refine⟨_,rfl,o,CP,dx,_,rfl,(by rw[aA (aB ho8 hla)];exact ho8),TP.cl,TP.nl,(by grind),?_⟩;generalize hH9:upd (upd H8 la (.dT [])) o (.ins CP dx (fT "lacking" (.ref la) [("rules",.ref ar),("told",.ref ta),("offers",.ref aq),("settled",.ref sa)]))=H9;have ho9:H9 o=some (.ins CP dx (pf ⟨o,ta,aq,ap,sa,la,ar⟩)):=by rw[<- hH9,aj];rfl
 have la9:H9 la=some (.dT []):=by rw[<- hH9,aA nla,aj]
 have kp9:∀ c u,H8 c=some u->c≠o->H9 c=some u:=fun c u e n=>by rw[<- hH9,aA n,aA (aB e hla)];exact e
 have sa9:=kp9 _ _ sa8 nsa;have k69:∀ c u,H6 c=some u->c≠o->H9 c=some u:=fun c u e n=>kp9 c u (kp8 c u e n) n;have k59:∀ c u,H5 c=some u->c≠o->H9 c=some u:=fun c u e n=>k69 c u (kp6 c u e n) n;have k49:∀ c u,H4 c=some u->c≠o->H9 c=some u:=fun c u e n=>k59 c u (kp5' c u e) n;have k19:∀ c u,H1 c=some u->c≠o->H9 c=some u:=fun c u e n=>k49 c u (kp4 c u (kp2 c u e n) n) n;have fr:∀ c,H9 c≠none->H c=none->B c=none:=fun c _ e=>sb.free e;have oldR:∀ c,cD ar xr c->H1 c≠none:=fun c i=>D1.obj i;have n1_ta:H1 ta=none:=by
  cases e:H1 ta with
  |none=>rfl
  |some u=>rw[kp2 _ _ e no_ta]at hta;cases hta
 have n4_up:∀ c,H4 c=none->c≠o->H1 c=none/\c≠ta:=fun c e n=>by
  refine⟨?_,fun z=>by grind⟩;cases e':H1 c with
  |none=>rfl
  |some u=>rw[kp4 _ _ (kp2 _ _ e' n) n]at e;cases e
 have n5_up:∀ c,H5 c=none->c≠o->H4 c=none/\c≠aq/\c≠ap:=fun c e n=>by
  refine⟨?_,(fun z=>by grind),fun z=>by grind⟩;cases e':H4 c with
  |none=>rfl
  |some u=>rw[kp5' _ _ e']at e;cases e
 have n6_up:∀ c,H6 c=none->H5 c=none:=fun c e=>by
  cases e':H5 c with
  |none=>rfl
  |some u=>
   by_cases n:c=o
   .rw[n,ho6]at e;cases e
   .rw[kp6 _ _ e' n]at e;cases e
 have n8_up:∀ c,H8 c=none->H6 c=none/\c≠sa:=fun c e=>by
  refine⟨?_,fun z=>by grind⟩;cases e':H6 c with
  |none=>rfl
  |some u=>
   by_cases n:c=o
   .rw[n,ho8]at e;cases e
   .rw[kp8 _ _ e' n]at e;cases e
 obtain⟨la6,la_sa⟩:=n8_up la hla;obtain⟨la4,la_aq,la_ap⟩:=n5_up la (n6_up la la6) nla;obtain⟨la1,la_ta⟩:=n4_up la la4 nla;obtain⟨sa4,sa_aq,sa_ap⟩:=n5_up sa (n6_up sa hsa) nsa;obtain⟨sa1,sa_ta⟩:=n4_up sa sa4 nsa;obtain⟨aq1,aq_ta⟩:=n4_up aq haq noq;obtain⟨ap1,ap_ta⟩:=n4_up ap ap4 nop;have H0of:∀ c,H1 c=none->H c=none:=fun c e=>s1.free e;have same:Same B H9:=fun c u e=>k19 c u (s1 c u (sb c u e)) fun z=>by grind
 have inNil:∀{a c:Addr},cD a ([]:DX (List bC)) c->c=a:=fun i=>i.elim id fun⟨x,hx,_⟩=>(Pd hx).elim
 classical
 refine k ⟨o,ta,aq,ap,sa,la,ar⟩ xr H9 rfl ⟨[],[],fun c=>if c=o then 6 else if c=ta then 5 else if c=aq then 7 else if c=ap then 1 else if c=sa then 2 else if c=la then 3 else 4,same,⟨⟨?_,fun _ h=>(Pd h).elim,PZ,PZ⟩,.nil,fun c i=>?_⟩,⟨⟨sa9,fun _ h=>(Pd h).elim,PZ,PZ⟩,.nil,fun c i=>?_⟩,⟨⟨la9,fun _ h=>(Pd h).elim,PZ,PZ⟩,.nil,fun c i=>?_⟩,⟨D1.keep fun c u e i=>k19 c u e (nor c i),R1.keep (IsNum.keep fun c ws e=>k19 c _ e fun z=>by grind),fun c i=>?_⟩,⟨dx,ho9⟩,⟨dq,k59 _ _ hq5 noq⟩,k49 _ _ ta4 no_ta,.nil,?_,?_,?_⟩
 .exact k59 _ _ hp5 nop
 .have:c=ap:=i.elim id fun⟨x,hx,_⟩=>(Pd hx).elim;subst this;exact⟨by grind,sb.free (H0of _ ap1)⟩
 .have:=inNil i;dsimp only at this;subst this;exact⟨by grind,sb.free (H0of _ sa1)⟩
 .have:=inNil i;dsimp only at this;subst this;exact⟨by grind,sb.free (H0of _ la1)⟩
 .have hc:=oldR c i;refine⟨?_,sb.free (n1 c i)⟩;rw[Pl (nor c i),Pl (fun z=>hc (by grind)),Pl (fun z=>hc (by grind)),Pl (fun z=>hc (by grind)),Pl (fun z=>hc (by grind)),Pl (fun z=>hc (by grind))]
 .exact⟨by grind,sb.free (H0of _ n1_ta)⟩
 .exact⟨Pi rfl,nb⟩
 .exact⟨by grind,sb.free (H0of _ aq1)⟩
end
noncomputable def iG (a:Pz.Arr):D:=.tup [.int a.1,.int a.2.1,.int a.2.2]
noncomputable def dU (r:Pz.Rule):D:=.tup [.int r.1,.int r.2.1,.int r.2.2.1,.tup (r.2.2.2.map .int)]
noncomputable def oD:Option Int->D
 |none=>.bJ
 |some i=>.int i
def Gm (x:Pz.nv):D:=.tup [.int x.1,oD x.2.1,oD x.2.2]
def kN (t:Pz.TD):D:=.nX (t.map fun x=>.inr (ak x.1)) (t.map fun x=>Gm x.2)
def mJ (ds:List D)(t:Pz.TD):Prop:=∃(RL:List Pz.Rule)(M:List Pz.Arr)(h0 h1 m0 m2:D)(n:Nat)(T:Pz.PS),ds=[.tup [h0,h1,.lst (RL.map dU)],.tup [m0,.lst (M.map iG),m2]]/\RL.length<16000000/\Pz.iZ (Pz.g8 aF RL M)/\Pz.Loop aF (Pz.bS RL) n (Pz.g8 aF RL M) T/\t=T.told
open Classical in
def si (Fr:List D->Res R)(ds:List D):Res R:=match Fr ds with
 | .ok _=>if h:∃ t,mJ ds t then .ok (.yw (kN (Classical.choose h))) else .stuck
 | .exc c=>.exc c
 | .stuck=>.stuck
theorem pX:∀{ns:List Int}{vs:List V},IsAll H m (ns.map .int) vs->vs=ns.map .int
 | [],vs,h=>h
 |n::ns,vs,h=>by obtain⟨v,r,rfl,h1,h2⟩:=h;rw[pX h2,show v=.int n from h1];rfl
theorem Gn (h:Is H m (dU r) v):IsRule H r v:=by obtain⟨a,vs,rfl,ha,v0,r0,rfl,e0,v1,r1,rfl,e1,v2,r2,rfl,e2,v3,r3,rfl,⟨q,ws,rfl,hq,hw⟩,rfl⟩:=h;obtain rfl:v0=.int r.1:=e0;obtain rfl:v1=.int r.2.1:=e1;obtain rfl:v2=.int r.2.2.1:=e2;exact⟨a,q,rfl,ha,by rw[hq,pX hw]⟩
theorem EY (h:Is H m (iG r) v):IsArr H r v:=by obtain⟨a,vs,rfl,ha,v0,r0,rfl,e0,v1,r1,rfl,e1,v2,r2,rfl,e2,rfl⟩:=h;obtain rfl:v0=.int r.1:=e0;obtain rfl:v1=.int r.2.1:=e1;obtain rfl:v2=.int r.2.2:=e2;exact⟨a,rfl,ha⟩
theorem vP {α:Type}{H:Hp}{m:Addr->Prop}{f:α->D}{it:α->V->Prop}(hf:∀ x v,Is H m (f x) v->it x v):∀{xs:List α}{vs:List V},IsAll H m (xs.map f) vs->aO it xs vs
 | [],vs,h=>by cases (show vs=[] from h);exact .nil
 |x::xs,vs,h=>by obtain⟨v,r,rfl,h1,h2⟩:=h;exact .cons (hf x v h1) (vP hf h2)
theorem vQ (h:Is H m (.lst ds) v):∃ a vs,v=.ref a/\Rd H a (.lst vs)/\IsAll H m ds vs:=by obtain⟨a,vs,rfl,h1,h2⟩:=h;exact⟨a,vs,rfl,h1.imp And.left fun⟨o,e,_⟩=>⟨o,e⟩,h2⟩
theorem LP (RL:List Pz.Rule):pV (Pz.bS RL):=fun k x hx=>by
 rcases (Pz.pO _ _ _ _).mp hx with h|⟨_,y,l,e,_⟩
 .exact(Pd h).elim
 .rw[e];simp
section
variable {K:To}{CP CQ:Addr}{H:Hp}
def Ja (K:To) (CP CQ:Addr):TS:=aP (cg (dR CP "settle_all" (sH CP CQ) [] E0 (av 2) aG)) (b6 (dN K (av 2) "told"))
def Jb (K:To)(CP CQ:Addr):TS:=cI (bp (aX n_ (ii (g_ K) (ao (tI K 5 3) aG)) (tC (.int 0))))
 (cg (dR CP "offer" (dH CP CQ) [] E0 (av 2) (ao (b8 (ao (tI K 5 0) (ao (tI K 5 1) (ao (tI K 5 2) aG)))) (ao (tC (.int 1)) (ao (av 4) (ao (tC .bJ) aG)))))) bY
def Jc (K:To)(CP CQ:Addr):TS:=aP (eV (vD K (ao (tI K 0 2) aG)) (dX K 2 (bn (aE 4) (bn (aE 5) dW))) (Jb K CP CQ)) (Ja K CP CQ)
def Jd (CP CQ:Addr):TS:=cg (dR CP "offer" (dH CP CQ) [] E0 (av 2) (ao (av 3) (ao (tC (.int 0)) (ao (tC .bJ) (ao (tC .bJ) aG)))))
def Je (K:To)(CP CQ:Addr):TS:=aP (eV (cC K (tI K 1 1)) (aE 3) (Jd CP CQ)) (Jc K CP CQ)
def DB (K:To)(mg:Str->Option Tq)(Fr:List D->Res R)(CP CQ:Addr)(E:XK):TS:=aP (cg (br (pH mg 2 Fr) [] E (ao (av 0) (ao (av 1) aG)))) (aP (bc (u7 CP (jS CP CQ) [] E0 (ao (av 0) aG)) (aE 2)) (Je K CP CQ))
theorem Gp (A:PA):(pf A).lookup ("settle_all" : Str)=none:=rfl
theorem Gq (h:RepT H t kt):(t.map fun x=>(Sum.inr (ak x.1):DK))=kt.map (fun p=>.inr p.1)/\IsAll H m (t.map fun x=>Gm x.2) (kt.map Prod.snd):=by
 have ho:∀ o:Option Int,Is H m (oD o) (vO o):=fun o=>by cases o<;>rfl
 induction h with
 |nil=>exact⟨rfl,rfl⟩
 | @cons x y _ _ q _ ih=>obtain⟨e,p,hp,hv⟩:=q;exact⟨by rw[Ph,Ph,e,ih.1],y.2,_,rfl,⟨p,_,hp,hv,_,_,rfl,rfl,_,_,rfl,ho _,_,_,rfl,ho _,rfl⟩,ih.2⟩
section
variable {D:Ends}{σ:L2.St}{B:Hp}{A:PA}{rs:Pz.RS}{S T:Pz.PS}{xs xl xr:DX (List bC)}{p0 p1 l lm:Addr}{RL:List Pz.Rule}{M:List Pz.Arr}{ws wm:List V}{n:Nat}
def DC (p0 p1:Addr)(A:PA)(σ:L2.St):Prop:=∃ u v w,σ=[some (.ref p0),some (.ref p1),some (.ref A.o),u,v,w]
theorem pr2 (P:PAt CP CQ B H A rs S xs xl xr)(h:IsArr H a v)(hs:DC p0 p1 A σ)(f:Pz.iZ (Pz.gM aF S a))(k:∀ σ' H',DC p0 p1 A σ'->PAt CP CQ B H' A rs (Pz.gM aF S a) xs xl xr->D.nx σ' H'):aE 3 v σ H fun σ2 H2=>Jd CP CQ D σ2 H2:=by obtain⟨b,rfl,hb⟩:=h;obtain⟨u,w,z,rfl⟩:=hs;have P':=P;obtain⟨_,_,_,Q⟩:=P';exact rQ (.va rfl) Q.po.ins (Ad A) (.c (.va rfl) (.c .k (.c .k (.c .k .ni)))) (.mk (n:=none) (m:=none) P hb f fun H'=>k _ H' ⟨_,_,_,rfl⟩)
theorem NO (P:PAt CP CQ B H A rs S xs xl xr)(hp:H pp=some (.tup [.int i,.ref c]))(hc:H c=some (.tup [.int r.1,.int r.2.1,.int r.2.2.1,.ref q]))(hq:H q=some (.tup (r.2.2.2.map .int)))(hs:DC p0 p1 A σ)(f:Pz.iZ (Pz.dS aF S (i,r)))
 (k:∀ σ' H',DC p0 p1 A σ'->PAt CP CQ B H' A rs (Pz.dS aF S (i,r)) xs xl xr->D.nx σ' H'):dX K 2 (bn (aE 4) (bn (aE 5) dW)) (.ref pp) σ H fun σ2 H2=>Jb K CP CQ D σ2 H2:=by
 obtain⟨u,w,z,rfl⟩:=hs;have e2:(((r.2.2.2.map V.int).length:Nat):Int)=0↔r.2.2.2.length=0:=by rw[O2];lia
 unfold Pz.dS at f k;refine BW hp (g9 (.B8 (.len (.ix (.va rfl) hc rfl) hq) .k) (fun h=>?_) fun h=>?_)
 .rw[Pi (e2.mp (PD h))]at f k;exact pS P f (.va rfl) (.t (.c (.ix (.va rfl) hc rfl) (.c (.ix (.va rfl) hc rfl) (.c (.ix (.va rfl) hc rfl) .ni))) rfl) (fun _ _=>.c .k (.c (.va rfl) (.c .k .ni))) fun H'=>k _ H' ⟨_,_,_,rfl⟩
 .rw[Pl fun z=>h (O_ (e2.mpr z))]at k;exact k _ H ⟨_,_,_,rfl⟩ P
theorem NP (TP:iN K CP)(P:PAt CP CQ B H A rs S xs xl xr)(rok:pV rs)(fit:Pz.iZ S)(lp:Pz.Loop aF rs n S T)(hs:DC p0 p1 A σ)(k:∀ H' xs' xl',PAt CP CQ B H' A rs T xs' xl' xr->D.rt (.ref A.ta) H'):Ja K CP CQ D σ H:=by obtain⟨u,w,z,rfl⟩:=hs;have P':=P;obtain⟨_,_,_,Q⟩:=P';exact rQ (.va rfl) Q.po.ins (Gp A) .ni (.mk P rok fit lp fun H' xs' xl' P'=>by have P2:=P';obtain⟨_,_,_,Q⟩:=P2;exact Q.fld TP.cl TP.nt (Dv A) rfl _ (k H' xs' xl' P'))
theorem NQ (TP:iN K CP)(G:fE B RL p0 l ws)(P:PAt CP CQ B H A (Pz.bS RL) (M.foldl (Pz.gM aF) Pz.S0) xs xl xr)(fit:Pz.iZ (Pz.g8 aF RL M))(rok:pV (Pz.bS RL))(lp:Pz.Loop aF (Pz.bS RL) n (Pz.g8 aF RL M) T)(hs:DC p0 p1 A σ)
 (k:∀ H' xs' xl',PAt CP CQ B H' A (Pz.bS RL) T xs' xl' xr->D.rt (.ref A.ta) H'):Jc K CP CQ D σ H:=by
 obtain⟨w0,w1,hp0⟩:=(G.same P.same).tup;have h0:σ[0]?=some (some (.ref p0)):=by obtain⟨_,_,_,rfl⟩:=hs;rfl
 refine oR (ReadsA.c (.ix (.va h0) hp0 (v:=.ref l) rfl) .ni _ ⟨l,ws,rfl,.inl (aK P.same G.lst),?_⟩);refine vM (DC p0 p1 A) (fun i H5=>PAt CP CQ B H5 A (Pz.bS RL) (((Pz.en RL 0).take i).foldl (Pz.dS aF) (M.foldl (Pz.gM aF) Pz.S0)) xs xl xr) hs P (fun i H5 P5=>.inl (aK P5.same G.lst)) (fun i v pp σ H5 D' hv hpp hs P5 k=>?_) fun σ H5 hs P5=>?_
 .obtain⟨r,hr,c,q,rfl,hc,hq⟩:=G.its.get hv;have P6:=P5.more (az (o:=.tup [.int (i:Nat),.ref c]) hpp);rw[vN (Pz.dS aF) (M.foldl (Pz.gM aF) Pz.S0) hr]at k;exact NO P6 aj (P6.same _ _ hc) (P6.same _ _ hq) hs (f_ (step:=Pz.dS aF) (fun S x=>by unfold Pz.dS;split;exact Pz.b9 _ _ _ _ _;exact .refl _) (its:=Pz.en RL 0) fit (by rw[uy,hr];simp)) k
 .rw[Qh (by rw[Pz.mG,G.its.len];exact O0 _)]at P5;exact NP TP P5 rok fit lp hs k
theorem NR (TP:iN K CP)(G:fE B RL p0 l ws)(hp1:B p1=some (.tup [y0,.ref lm,y2]))(hlm:Rd B lm (.lst wm))(aM:aO (IsArr B) M wm)(P:PAt CP CQ B H A (Pz.bS RL) Pz.S0 xs xl xr)(fit:Pz.iZ (Pz.g8 aF RL M))(rok:pV (Pz.bS RL))(lp:Pz.Loop aF (Pz.bS RL) n (Pz.g8 aF RL M) T)(hs:DC p0 p1 A σ)
 (k:∀ H' xs' xl',PAt CP CQ B H' A (Pz.bS RL) T xs' xl' xr->D.rt (.ref A.ta) H'):Je K CP CQ D σ H:=by
 have g2:Pz.eM (M.foldl (Pz.gM aF) Pz.S0) (Pz.g8 aF RL M):=Pz.ck _ (fun S x=>by unfold Pz.dS;split;exact Pz.b9 _ _ _ _ _;exact .refl _) _ _;have h1:σ[1]?=some (some (.ref p1)):=by obtain⟨_,_,_,rfl⟩:=hs;rfl
 exact eS (Reads.ix (.va h1) (P.same _ _ hp1) (v:=.ref lm) rfl _ ⟨lm,rfl,⟨wm,.inl (aK P.same hlm)⟩,pT (it:=IsArr) (DC p0 p1 A) (Pz.gM aF) Pz.S0 (fun T H4=>PAt CP CQ B H4 A (Pz.bS RL) T xs xl xr) hs P (fun T' H4 P4=>⟨aK P4.same hlm,aM.mono (IsArr.keep (pR P4.same))⟩)
  (fun i a v σ H4 D' hi ia hs P4 k=>pr2 P4 ia hs (f_ (step:=Pz.gM aF) (fun S x=>Pz.b9 S _ _ _ _) (g2.fit fit) hi) k) fun σ H4 hs P4=>NQ TP G P4 fit rok lp hs k⟩)
end
theorem sj {mg:Str->Option Tq}{Fr:List D->Res R}(TP:iN K CP)(h:pH mg 2 (si Fr) vs H Q E):DB K mg Fr CP CQ E (eQ Q) (bh (nS 6) vs) H:=by
 obtain⟨hl,ds,Ma,is,post⟩:=h;obtain⟨v0,v1,rfl⟩ : ∃ v0 v1,vs=[v0,v1]:=by rcases vs with _|⟨v0,_|⟨v1,_|⟨_,_⟩⟩⟩<;>first|(cases hl;done)|exact⟨_,_,rfl⟩
 refine⟨_,rfl,_,rfl,rfl,ds,Ma,is,?_⟩;unfold si at post;cases hF:Fr ds with
 |stuck=>rw[hF]at post;exact post
 |exc c=>rw[hF]at post;exact post
 |ok r=>
  rw[hF]at post;dsimp only at post;by_cases hex:∃ t,mJ ds t
  case neg=>rw[dif_neg hex]at post;exact post.elim
  case pos=>
  rw[dif_pos hex]at post;have hch:=Classical.choose_spec hex;generalize Classical.choose hex=t at post hch;obtain⟨RL,M,d0,d1,m0,m2,n,T,rfl,bL,fit,lp,rfl⟩:=hch;intro v H1 s1 _;obtain⟨_,_,ev,⟨p0,_,rfl,hp0,w0,_,rfl,_,w1,_,rfl,_,w2,_,rfl,iw2,rfl⟩,_,_,ev2,⟨p1,_,rfl,hp1,y0,_,rfl,_,y1,_,rfl,iy1,y2,_,rfl,_,rfl⟩,rfl⟩:=is;cases ev;cases ev2;obtain⟨l,ws,rfl,hl,iR⟩:=vQ iw2;obtain⟨lm,wm,rfl,hlm,iM⟩:=vQ iy1;have G:fE H RL p0 l ws:=⟨⟨_,_,hp0⟩,hl,vP (fun x v=>Gn) iR⟩;refine⟨_,rfl,fun o dx ho hdx hne=>?_⟩;have s2:Same H (upd (upd H1 dx (.own o)) o (.ins CP dx [])):=s1.trans fun b u e=>by rw[aA (aB e ho),aA (aB e hdx)];exact e
  refine .mk aj s2 (s1.free ho) (G.same s2) bL fun A xr H3 eA P=>⟨rfl,?_⟩;subst eA;refine NR TP G hp1 hlm (vP (fun x v=>EY) iM) P fit (LP RL) lp ⟨none,none,none,rfl⟩ fun H6 xs6 xl6 ⟨_,kt6,_,Q6⟩=>?_;obtain⟨t1,t2⟩:=Gq (m:=nl H H6) Q6.po.tr;exact post _ H6 Q6.same ⟨A.ta,kt6.map Prod.snd,rfl,⟨.inr ⟨kt6,.inl Q6.po.td,t1,rfl⟩,Q6.po.c5.2,⟨_,Q6.po.td,True.intro⟩⟩,t2⟩
end
theorem Ah:∀{n:Nat}{S T:Pz.PS},Pz.Loop pile rs n S T->∀{m:Nat}{T':Pz.PS},Pz.Loop pile rs m S T'->T=T':=by
 intro n S T h;induction h with
 |done e=>
  intro m T' h';cases h' with
  |done _=>rfl
  |step hne=>exact(hne e).elim
 |step hne _ _ _ _ _ ih=>
  intro m T' h';cases h' with
  |done e=>exact(hne e).elim
  |step _ _ _ _ _ h'=>exact ih h'
theorem xF (h:dU r=dU s):r=s:=by
 have im:∀{l m:List Int},l.map D.int=m.map D.int->l=m:=fun{l m} e=>by
  induction l generalizing m with
  |nil=>cases m with
   |nil=>rfl
   |cons _ _=>cases e
  |cons x l ih=>cases m with
   |nil=>cases e
   |cons y m=>rw[Ph,Ph]at e;injection e with e1 e2;injection e1 with e1;rw[e1,ih e2]
 unfold dU at h;injection h with h;injection h with h0 h;injection h with h1 h;injection h with h2 h;injection h with h3 h;injection h0 with h0;injection h1 with h1;injection h2 with h2;injection h3 with h3;exact S5 h0 (S5 h1 (S5 h2 (im h3)))
theorem Ai (h:iG r=iG s):r=s:=by unfold iG at h;injection h with h;injection h with h0 h;injection h with h1 h;injection h with h2 h;injection h0 with h0;injection h1 with h1;injection h2 with h2;exact S5 h0 (S5 h1 h2)
theorem pY {α:Type}{f:α->D}(hf:∀{x y},f x=f y->x=y):∀{l m:List α},l.map f=m.map f->l=m
 | [],[],_=>rfl
 | [],_::_,e=>nomatch e
 |_::_,[],e=>nomatch e
 |x::l,y::m,e=>by rw[Ph,Ph]at e;injection e with e1 e2;rw[hf e1,pY hf e2]
theorem Gs {Fr:List D->Res R}{h0 h1 m0 m2:D}{r:R}(hs:Pz.Set RL M U)(hr:Fr [.tup [h0,h1,.lst (RL.map dU)],.tup [m0,.lst (M.map iG),m2]]=.ok r) :
 ∃ t,si Fr [.tup [h0,h1,.lst (RL.map dU)],.tup [m0,.lst (M.map iG),m2]]=.ok (.yw (kN t))/\Pz.Good RL M U t:=by
 obtain⟨fit,n,T,lp,good⟩:=hs.run vI;have hl:RL.length<16000000:=by have:=hs.big;unfold Pz.L at this;lia
 have hex:∃ t,mJ [.tup [h0,h1,.lst (RL.map dU)],.tup [m0,.lst (M.map iG),m2]] t:=⟨T.told,RL,M,h0,h1,m0,m2,n,T,rfl,hl,fit,lp,rfl⟩;refine⟨Classical.choose hex,?_,?_⟩
 .unfold si;rw[hr];dsimp only;rw[dif_pos hex]
 .obtain⟨RL',M',a0,a1,a2,a3,n',T',e,_,_,lp',e2⟩:=Classical.choose_spec hex;rw[e2];injection e with e3 e;injection e3 with e3;injection e3 with _ e3;injection e3 with _ e3;injection e3 with e3 _;injection e3 with e3;injection e with e _;injection e with e;injection e with _ e;injection e with e _;injection e with e;rw[<- pY (fun h=>xF h) e3,<- pY (fun h=>Ai h) e]at lp';rw[<- Ah lp lp'];exact good
structure Mt (K:To) (C:Addr) (x q:Str) (st:Stmt) (ps:List Str) (f:Addr) (fd:FuncData):Prop where
 fu:Cb K x q st f fd
 bi:Binds K fd ps []
 me:Meth K C x f
theorem Jf {K:To}{C:Addr}{x q:Str}{st:Stmt}{ps:List Str}{f:Addr}{oc:Tq}{od an:Option Addr}{osl:Array (Option Tq)}{kV doc pm cdv ct:Tq}
 (l:K.lookup f=some ⟨oc,od,.func (PySem.W.fnOf x q (b7 st) (bO st) (aD st) .none kV doc pm an cdv ct),osl⟩) (c:PySem.W.codeIn K cdv q=true) (k:PySem.W.keepIn K (.ref f)=true) (a:PySem.W.findIn K (.ref C) x=some (some (.ref f))) (i:PySem.W.isFn K (.ref f)=true)
 (h:∀(kV doc pm:Tq)(an:Option Addr)(cdv ct:Tq)(us:List Tq),us.length=ps.length->bindArgs (PySem.W.fnOf x q (b7 st) (bO st) (aD st) .none kV doc pm an cdv ct) ⟨us,[]⟩=pure (ps.zip us)) :
 Mt K C x q st ps f (PySem.W.fnOf x q (b7 st) (bO st) (aD st) .none kV doc pm an cdv ct):=
 have F:Cb K x q st f _:=zc l c k
 ⟨F,F.binds h,a,i,k⟩
section
variable {P:Tp}{w:World}{K:To}{mg:Str->Option Tq}{base:Heap}
theorem Jg {x qual:Str}{st:Stmt}{f:Addr}(F:Cb K x qual st f fd)(S:aU N ps (aD st))(len:∀ vs H Q E,sp vs H Q E->vs.length=ps.length)
 (body:∀(cdv:Tq)(A:Ts)(outer:List Env)(s:Tn)(H:Hp)(vs:List V)(Q:VK)(E:XK),cT k (A.deeper (envOfC qual (aD st) s.heap.objs.size f cdv))->sp vs H Q E->
   ∃ t,PSs (qX P w K mg base N qual (aD st) f cdv A outer s H E) (bO st) t/\t (eQ Q) (bh N vs) H):bE P w K mg base (CM P w) (k+1) f fd ps sp:=by
 obtain⟨oc,od,kV,doc,pm,an,cdv,ct,osl,rfl,lk,hcd⟩:=F.ex;exact yV lk hcd S len fun A outer s H vs Q E hr hsp=>body cdv A outer s H vs Q E hr hsp
end
theorem M9 {α:Type}{l:List α}(h:l.length=2):∃ a b,l=[a,b]:=by rcases l with _|⟨a,_|⟨b,_|_⟩⟩<;>first|(cases h;done)|exact⟨_,_,rfl⟩
theorem hG (hc:X.calm=true)(S:cH X scope tN capN caps)(hi:PI X tg iter wi)(hs:autoParam (∀ x,foldedSetIterable iter X.env x=pure x) Tw._auto_1) :
 PE X (.ListComp elt [⟨tg,iter,ifs,0⟩] scope pos) (oM X scope tg tN capN caps elt ifs wi):=fun ai s σ H Q I h=>zT hc S I hi h hs
def EZ (K:To):List V->Hp->VK->Prop:=fun xs H Q=>∃ p ns,xs=[.ref p]/\SqL K H p (ns.map V.int)/\ns≠[]/\Q (.int (pG ns)) H
theorem xG (hc:X.calm=true):cm X (.builtin "min") (EZ X.K):=wO hc
theorem xH (h2:tN.length=2)(hg:∀ cl C s3 H3 fp,PG (bH X scope (tN++[]) cl C s3 H3 fp) tg (dX X.K 2 (bn (aE 0) (bn (aE 1) dW))))(he:∀ cl C s3 H3 fp,PE (bH X scope (tN++[]) cl C s3 H3 fp) elt (av 0)) :
 Gb (ii (EZ X.K) (ao (oM X scope tg tN [] [] elt [] (cC X.K (av 1))) aG)):=by
 intro σ H a vs its Q h1 hl a2 hne bL k;refine⟨_,h1,a,rfl,⟨_,SqL.of hl⟩,?_⟩;intro Dl hD cl C s3 fp;have hDa:a≠Dl:=aB hl hD;have hlv:=a2.len;refine⟨_,_,_,fun i m acc H'=>m=its.length-i/\i<=its.length/\acc=((its.take i).map fun x=>V.int x.1)/\Same H H'/\H' Dl=some (.lst acc),hg cl C s3 _ fp,lh,he cl C s3 _ fp,⟨its.length,by simp,Pq _,by simp,az hD,aj⟩,?_⟩;rintro i m acc H' ⟨rfl,hi,rfl,s,hDl⟩;have hl':=s _ _ hl;refine⟨hDl,?_⟩;by_cases hlt:i<its.length
 .right;have hiv:i<vs.length:=by lia
  refine⟨⟨vs,vs[i],SqL.of hl',by simp[hiv]⟩,fun xv H'' o y ho=>?_⟩;obtain⟨rfl,y⟩:=y;have hx:=y vs (SqL.of hl');obtain⟨x,ex,p,w,rfl,hp,_⟩:=a2.get hx;rw[h2]at ho;obtain⟨u0,u1,rfl⟩:=M9 ho;refine BW (s _ _ hp) ⟨fun j hj=>?_,?_⟩
  .rw[h2]at hj;obtain⟨j,rfl⟩:=Qb hj;rfl
  .refine cJ ?_;refine⟨_,rfl,hDl,?_,its.length-(i+1),by lia,rfl,hlt,?_,fun c u e=>?_,aj⟩
   .rw[O2,Pn];have:=RY i its;lia
   .rw[PV,ex,PX];rfl
   .rw[aA (aB e hD)];exact s _ _ e
 .left;have ei:i=its.length:=by lia
  subst ei;refine⟨⟨vs,SqL.of hl',by lia⟩,Dl,its.map (·.1),rfl,?_,by simpa using hne,?_⟩
  .rw[Qx]at hDl;rw[QC];exact SqL.of hDl
  .rw[vJ];exact k H' s
theorem bG {N P:List Str}{sc:Scope}(a:autoParam (sc.kind=.function) TB._auto_1)(b:autoParam (sc.isCoroutine=false) TB._auto_1)(c:autoParam (sc.isGenerator=false) TB._auto_1)(d:N.Nodup:=by decide +kernel)(e:autoParam (N.take P.length=P) TB._auto_1)
 (f:∀ x∈P,sc.names.lookup x=some .local\/sc.names.lookup x=some .cell:=by decide +kernel) (g:∀ y∈sc.names,y.2≠.free:=by decide +kernel):aU N P sc:=⟨a,b,c,d,e,f,g⟩
abbrev HN (x q:Str)(st:Stmt)(kV doc pm:Tq)(an:Option Addr)(cdv ct:Tq):FuncData:=PySem.W.fnOf x q (b7 st) (bO st) (aD st) .none kV doc pm an cdv ct
structure Df (K:To) (mg:Str->Option Tq) (x:Str) (st:Stmt) (ps:List Str) where
 f:Addr
 fd:FuncData
 h:Fn K mg x st ps f fd
structure Mf (K:To) (C:Addr) (x q:Str) (st:Stmt) (ps:List Str) where
 f:Addr
 fd:FuncData
 h:Mt K C x q st ps f fd
section
variable {K KK:To}{x q:Str}{st:Stmt}{f C:Addr}{oc:Tq}{od an:Option Addr}{osl:Array (Option Tq)}{kV doc pm cdv ct:Tq}
def Lk (K:To)(x q:Str)(st:Stmt)(f:Addr):Prop:=∃ oc od an osl kV doc pm cdv ct,K.lookup f=some ⟨oc,od,.func (HN x q st kV doc pm an cdv ct),osl⟩/\PySem.W.codeIn K cdv q=true
theorem lk (l:K.lookup f=some ⟨oc,od,.func (HN x q st kV doc pm an cdv ct),osl⟩)(c:PySem.W.codeIn K cdv q=true):Lk K x q st f:=⟨_,_,_,_,_,_,_,_,_,l,c⟩
def FK (K:To)(x:Str)(st:Stmt):Prop:=∃ f,PySem.W.nsIn K mainGlobals x=some (some (.ref f))/\Lk K x x st f
theorem fk (a:PySem.W.nsIn K mainGlobals x=some (some (.ref f)))(l:K.lookup f=some ⟨oc,od,.func (HN x x st kV doc pm an cdv ct),osl⟩)(c:PySem.W.codeIn K cdv x=true):FK K x st:=⟨_,a,lk l c⟩
structure MK (K:To) (C:Addr) (x q:Str) (st:Stmt) (f:Addr):Prop where
 a:PySem.W.findIn K (.ref C) x=some (some (.ref f))
 i:PySem.W.isFn K (.ref f)=true
 l:Lk K x q st f
 k:PySem.W.keepIn K (.ref f)=true
theorem mk (a:PySem.W.findIn K (.ref C) x=some (some (.ref f)))(i:PySem.W.isFn K (.ref f)=true)(l:K.lookup f=some ⟨oc,od,.func (HN x q st kV doc pm an cdv ct),osl⟩)(c:PySem.W.codeIn K cdv q=true)(k:PySem.W.keepIn K (.ref f)=true):MK K C x q st f:=⟨a,i,lk l c,k⟩
structure CK (K KK:To) (x:Str) (C:Addr):Prop where
 b:PySem.W.nsIn K mainGlobals x=some (some (.ref C))
 pg:PySem.W.plainGet KK C Str.empty=true
 hd:PySem.W.hasDictIn KK C=true
 po:PySem.W.plainOver KK C=true
 sa:PySem.W.findIn KK (.ref C) "__setattr__"=some (some (.builtin "object.__setattr__"))
 m:PySem.W.makesIn KK C=true
 k:PySem.W.keepIn KK (.ref C)=true
theorem CK.cl (c:CK K KK x C):qu KK C:=⟨c.pg,c.hd,c.po,c.sa⟩
variable {mg:Str->Option Tq}{ps:List Str}{h:Heap}
noncomputable def AllN:Nat->(List Tq->Prop)->Prop
 |0,P=>P []
 |n+1,P=>∀ a,AllN n fun us=>P (a::us)
theorem AllN.of {n:Nat}{P:List Tq->Prop}(h:AllN n P):∀ us:List Tq,us.length=n->P us:=by
 induction n generalizing P with
 |zero=>intro us e;cases us with|nil=>exact h|cons _ _=>cases e
 |succ n ih=>intro us e;cases us with|nil=>cases e|cons a r=>exact ih (h a) r (Nat.succ.inj e)
theorem df (X:K.In h)(G:h.Ns mainGlobals mg)(U:iL K KK)(k:FK K x st)
 (hb:∀(kV doc pm:Tq)(an:Option Addr)(cdv ct:Tq),AllN ps.length fun us=>bindArgs (HN x x st kV doc pm an cdv ct) ⟨us,[]⟩=pure (ps.zip us):=by (repeat intro _);exact rfl):Nonempty (Df KK mg x st ps):=by
 obtain⟨f,a,oc,od,an,osl,kV,doc,pm,cdv,ct,l,c⟩:=k;exact⟨f,_,F4 U l c (Ss X G a) fun kV doc pm an cdv ct=>(hb kV doc pm an cdv ct).of⟩
theorem mf (k:MK K C x q st f)
 (hb:∀(kV doc pm:Tq)(an:Option Addr)(cdv ct:Tq),AllN ps.length fun us=>bindArgs (HN x q st kV doc pm an cdv ct) ⟨us,[]⟩=pure (ps.zip us):=by (repeat intro _);exact rfl):∃ m:Mf K C x q st ps,m.f=f:=by
 obtain⟨a,i,⟨oc,od,an,osl,kV,doc,pm,cdv,ct,l,c⟩,kp⟩:=k;exact⟨⟨f,_,Jf l c kp a i fun kV doc pm an cdv ct=>(hb kV doc pm an cdv ct).of⟩,rfl⟩
theorem Jh (c:CK K KK x C) (k:MK KK C "__init__" q st f):Mk KK C f:=⟨c.m,k.a,k.i,c.k⟩
end
end L4
namespace L2
open PySem PySem.Spec PySem.Calls PyProof.Rows
section
variable {St:Nat->Tn->Prop}
def mK (h h':Heap):Prop:=∀ b o,h.get? b=some o->h'.get? b=some o
def Aj (prog:Tp)(w:World)(A:Ts)(h0:Heap)(P:Nat->Tq->Prop)(bt:Nat->Nat->Bool):Prop:=∀ i j u v (s:Tn) (Q:Tq->Tn->Prop) (E:Tq->Tn->Prop),mK h0 s.heap->P i u->P j v->Q (.bool (bt i j)) s->wpAny (model prog w) A (richCompare .Lt u v) Q E s
theorem iA:(toString "min"++toString ".loop" : String)="min.loop":=by decide
theorem xI (W:WalksS prog w A.in1 I fp wr G n P St)(hcmp:Aj prog w A.in1 h0 P bt)(hwr:∀ b∈wr,h0.get? b=none)(hS:S∉fp)(hS0:h0.get? S=none) :
 ∀(k j:Nat)(s:Tn)(vb:Tq)(c:Nat),n-(j+1)=k->j+1<=n->St (j+1) s->mK h0 s.heap->P (argBest bt j) vb->s.heap.get? S=some { cls:=.type "list",dict:=none,data:=.seq #[vb,vb] c,slots:=#[] }->
  (∀ v s',P (argBest bt (n-1)) v->Moved (S::wr) G s s'->R (.ok (.ret v)) s')->codeAny (model prog w) A (.builtin "min.loop" ⟨[.ref I,.none,.ref S],kw⟩) R s:=by
 have sw:S∉wr:=fun h=>hS (W.sub _ h);have sub:∀ b∈wr,b∈S::wr:=fun b hb=>O4 _ hb;have nS:∀{b:Addr},b∉S::wr->S≠b:=fun hb h=>hb (h▸O5);have kpM:∀{s s':Tn},mK h0 s.heap->Moved wr G s s'->mK h0 s'.heap:=fun hk hm b o e=>hm.heap b o (fun z=>by rw[hwr b z]at e;cases e) (hk b o e);intro k;induction k with
 |zero=>
  intro j s vb c hk hj hst kp hP he hR;have ej:j+1=n:=by lia
  refine QE F.entry_min_loop ?_;rw[QA Ra _];refine KE (R0 he rfl (KE (SH (W.done s _ _ (ej▸hst) fun s' hm=>?_))));have he':=hm.heap S _ sw he;refine KE (Sq he' rfl (KE (Tg (OY ?_))));exact hR vb _ (by rw[<- ej];exact hP) ((hm.mono sub).then_heap (tk:=s'.toks) (O0 _) fun b o hb e=>(PR _ _ (nS hb)).trans e)
 |succ k ih=>
  intro j s vb c hk hj hst kp hP he hR;have hlt:j+1<n:=by lia
  refine QE F.entry_min_loop ?_;rw[QA Ra _];refine KE (R0 he rfl (KE (SH (W.item (j+1) s _ _ hlt hst fun v s' hP' hst' hm=>?_))));have he':=hm.heap S _ sw he;have kp':=kpM kp hm;show wpAny _ A.in1 (tryCatch (holding [v,v] (richCompare .Lt v vb >>= _)) _ >>= _) _ _ _;refine KE (SH (Qd (KE (hcmp (j+1) (argBest bt j) v vb _ _ _ kp' hP' hP (KE (Qd (Qr (KE (Tg (OY ?_))))))))));cases hb:bt (j+1) (argBest bt j) with
  |true=>
   simp only[RB];refine KE (Sq he' rfl (KE (Tg ?_)));rw[iA];refine OY ⟨Q1 Ra _,ih (j+1) _ v _ (by lia) hlt (W.frame _ s' _ s'.toks hst' (O0 _) fun b hbf o e=>?_) (fun b o e=>?_) (by simp only[argBest,hb,RB];exact hP') (Qm _ he' rfl) fun v' s'' hP'' hm''=>?_⟩
   .exact(PR _ _ (fun h:S=b=>hS (h▸hbf))).trans e
   .exact(PR _ _ (fun h:S=b=>by rw[<- h,hS0]at e;cases e)).trans (kp' b o e)
   .exact hR v' s'' hP'' (SW W.gtrans ((hm.mono sub).then_heap (O0 _) fun b o hb e=>(PR _ _ (nS hb)).trans e) hm'')
  |false=>simp only[Po,Qy];refine KE (Tg ?_);rw[iA];refine OY ⟨Q1 Ra _,ih (j+1) _ vb c (by lia) hlt hst' kp' (by simp only[argBest,hb,Po,Qy];exact hP) he' fun v' s'' hP'' hm''=>?_⟩;exact hR v' s'' hP'' (SW W.gtrans (hm.mono sub) hm'')
theorem xJ (d:Tq):Builtin.Builtins.bindParams "min" ["key", "default"] 0 ⟨[],[(("default" : Str),d)]⟩=pure [none,some d]:=by rfl
theorem xK (a d:Tq):argsOk "min" ⟨[a],[(("default" : Str),d)]⟩:=by unfold argsOk;kernel_rfl
theorem xL
 (h:wpAny (model prog w) A.in1 (pyIter x) (fun it s₂=>∃ I fp wr G n P St bt h0,it=.ref I/\WalksS prog w A.in1 I fp wr G n P St/\St 0 s₂/\(∀ b∈fp,b<s₂.heap.objs.size)/\Aj prog w A.in1 h0 P bt/\mK h0 s₂.heap/\(∀ b∈wr,h0.get? b=none)/\
   (n=0->∀ s',Moved wr G s₂ s'->Q d s')/\(0<n->∀ v s',P (argBest bt (n-1)) v->Moved wr G s₂ s'->Q v s')) E s) :
 wpAny (model prog w) A (call (.builtin "min") [x] [(("default" : Str),d)]) Q E s:=by
 refine PyProof.Rows.kmk_tree PySem.F.kind_min PySem.F.plain_min PySem.F.entry_min (xK _ _) ?_;show wpAny _ A.in1 (Builtin.Builtins.bindParams "min" ["key", "default"] 0 ⟨[],[(("default" : Str),d)]⟩ >>= _) _ _ s;refine KE (wpAny_of_eq (xJ d) ?_);refine KE (OY ?_);refine KE (QI h (fun it s₂ h₂=>?_) fun _ _ e=>e);obtain⟨I,fp,wr,G,n,P,St,bt,h0,rfl,W,hst,hfp,hcmp,kp,hwr,q0,q1⟩:=h₂;have hSf:s₂.heap.objs.size∉fp:=fun hm=>QV _ (hfp _ hm);have hSw:s₂.heap.objs.size∉wr:=fun h=>hSf (W.sub _ h);have hS0:h0.get? s₂.heap.objs.size=none:=by
  cases e:h0.get? s₂.heap.objs.size with
  |none=>rfl
  |some o=>exact absurd (Pa (kp _ _ e)) (QV _)
 refine KE (Qc ?_);rw[iA];have st1:=W.frame 0 s₂ (s₂.heap.push { cls:=.type "list",data:=.seq #[] }) s₂.toks hst (O0 _) fun b _ o e=>OZ _ e;have he:(s₂.heap.push { cls:=.type "list",data:=.seq #[] }).get? s₂.heap.objs.size=_:=Pc _ rfl;have nS:∀{b:Addr},b∉s₂.heap.objs.size::wr->s₂.heap.objs.size≠b:=fun hb h=>hb (h▸O5);have sub:∀ b∈wr,b∈s₂.heap.objs.size::wr:=fun b hb=>O4 _ hb;refine OY ⟨Q1 Ra _,QE F.entry_min_loop ?_⟩;rw[QA Ra _];refine KE (R0 he rfl (KE (SH ?_)));by_cases hn:n=0
 .subst hn;refine W.done _ _ _ st1 fun s' hm=>?_;refine KE (Sz (OY ?_));exact q0 rfl s' (Moved.drop_new (tk:=s₂.toks) (hm.mono sub) (O0 _))
 .refine W.item 0 _ _ _ (by lia) st1 fun v s' hP hst' hm=>?_;have he':=hm.heap _ _ hSw he;show wpAny _ A.in1 (updateSeq s₂.heap.objs.size (fun _=>#[v,v]) >>= _) _ _ _;refine KE (Sq he' rfl ?_);rw[iA];refine OY ⟨Q1 Ra _,xI W hcmp hwr hSf hS0 _ 0 _ v _ rfl (by lia) (W.frame _ s' _ s'.toks hst' (O0 _) fun b hbf o e=>?_) (fun b o e=>?_) hP (Qm _ he' rfl) fun v' s'' hP' hm''=>?_⟩
  .exact(PR _ _ (fun h:s₂.heap.objs.size=b=>hSf (h▸hbf))).trans e
  .exact(PR _ _ (fun h:s₂.heap.objs.size=b=>by rw[<- h,hS0]at e;cases e)).trans (hm.heap b o (fun z=>by rw[hwr b z]at e;cases e) (OZ _ (kp b o e)))
  .exact q1 (by lia) v' s'' hP' (Moved.drop_new (tk:=s₂.toks) (SW W.gtrans ((hm.mono sub).then_heap (O0 _) fun b o hb e=>(PR _ _ (nS hb)).trans e) hm'') (O0 _))
end
def pZ (K:To)(H:Hp)(vs:List V)(ks:List (List Int)):Prop:=ks.length=vs.length/\∀(i:Nat) v k,vs[i]?=some v->ks[i]?=some k->∃ a,v=.ref a/\SqT K H a (k.map .int)
def p6 (vs:List V)(ks:List (List Int)):Prop:=ks.length=vs.length/\∀(i:Nat) v k,vs[i]?=some v->ks[i]?=some k->∃ n,k=[n]/\v=.int n
def xM (ks:List (List Int))(i j:Nat):Bool:=HT.lexLt (ks[i]?.getD []) (ks[j]?.getD [])
def E2 (K:To)(te:TE):TE:=fun σ H Q=>te σ H fun x H1=>∃ p vs ks,x=.ref p/\SqL K H1 p vs/\(pZ K H1 vs ks\/p6 vs ks)/\(vs=[]->Q .bJ H1)/\∀ v,vs[argBest (xM ks) (vs.length-1)]?=some v->Q v H1
section
theorem p8 (bt:Nat->Nat->Bool):∀ n,argBest bt n<=n
 |0=>O0 _
 |n+1=>by unfold argBest;split;exact O0 _;exact Nat.le_succ_of_le (p8 bt n)
theorem DD (hc:X.calm=true)(hu:X.A.units+64<cLine)(I:Inv X ai σ H s)(hl:SqL X.K H p vs)(hk:pZ X.K H vs ks\/p6 vs ks)(q0:vs=[]->Q .bJ H)(q1:∀ v,vs[argBest (xM ks) (vs.length-1)]?=some v->Q v H) :
 wX X (call (.builtin "min") [.ref p] [(("default" : Str),.none)]) (EP X ai σ Q) X.xe s:=by
 obtain⟨its,rv,pl,hz⟩:=I.list hl;have hh:X.A.in1.handled=none:=I.ok.hd hc;obtain⟨o,ho,_⟩:=pl.isList;have hlt:p<s.heap.objs.size:=Pa ho;have bL:=rv.length;have hkl:ks.length=vs.length:=hk.elim And.left And.left;have cmp:Aj X.prog X.w X.A.in1 s.heap (fun i v=>its[i]?=some v) (xM ks):=by
  intro i j u v s' Q' E' kp hu' hv' hQ;have hi:i<its.length:=(O3.mp hu').1;have hj:j<its.length:=(O3.mp hv').1;have eki:ks[i]?=some ks[i]:=by simp[show i<ks.length by lia]
  have ekj:ks[j]?=some ks[j]:=by simp[show j<ks.length by lia]
  have evi:vs[i]?=some vs[i]:=by simp[show i<vs.length by lia]
  have evj:vs[j]?=some vs[j]:=by simp[show j<vs.length by lia]
  obtain⟨u',e1,r1⟩:=rv.get evi;obtain⟨v',e2,r2⟩:=rv.get evj;rw[hu']at e1;cases e1;rw[hv']at e2;cases e2;unfold xM at hQ;rw[eki,ekj]at hQ;simp only[Option.getD_some]at hQ;generalize ks[i]=ki at eki hQ;generalize ks[j]=kj at ekj hQ;generalize vs[i]=wi at evi r1;generalize vs[j]=wj at evj r2;rcases hk with hk|hk
  .obtain⟨a,rfl,ha⟩:=hk.2 i _ _ evi eki;obtain⟨b,rfl,hb⟩:=hk.2 j _ _ evj ekj;cases r1;cases r2;obtain⟨ia,ra,pa,_⟩:=I.tuple ha;obtain⟨ib,rb,pb,_⟩:=I.tuple hb;obtain⟨oa,ea,pa⟩:=pa;obtain⟨ob,eb,pb⟩:=pb;refine HT.lt_tupInts (s:=s') ⟨oa,kp _ _ ea,pa⟩ ⟨ob,kp _ _ eb,pb⟩ (lL ra) (lL rb) ?_ hQ;show X.A.units+1<cLine;lia
  .obtain⟨m,rfl,rfl⟩:=hk.2 i _ _ evi eki;obtain⟨n,rfl,rfl⟩:=hk.2 j _ _ evj ekj;obtain⟨t1,rfl⟩:=r1;obtain⟨t2,rfl⟩:=r2;refine HT.rcLt_int _ _ _ _ _ _ _ _ _ _ ?_;have:HT.lexLt [m] [n]=decide (m<n):=by
    show(if m=n then false else decide (m<n))=_;split
    .rename_i e;rw[Pp (by lia)]
    .rfl
   rw[<- this];exact hQ
 refine xL (RO pl.isList ?_);refine⟨s.heap.objs.size,_,_,_,_,_,_,xM ks,s.heap,rfl,(Walks.list hh s.heap.objs.size p (Pt hlt) its.toArray).toS,⟨⟨_,Pc _ rfl,rfl,rfl⟩,?_⟩,?_,?_,?_,?_,?_,?_⟩
 .exact pl.isList.at fun o e=>OZ _ e
 .intro b hb;rw[Rh];rcases O8.mp hb with e|hb
  .rw[e];exact QO _
  .rcases O8.mp hb with e|hb
   .rw[e];exact Rn hlt
   .cases hb
 .intro i j u v s' Q' E' kp hu' hv' hQ;exact cmp i j u v s' Q' E' kp (by simpa using hu') (by simpa using hv') hQ
 .exact fun b o e=>OZ _ e
 .intro b hb;obtain rfl:=O9.mp hb;cases e:s.heap.get? s.heap.objs.size with
  |none=>rfl
  |some o=>exact absurd (Pa e) (QV _)
 .intro hn s' hm;have e0:vs=[]:=Qz.mp (by rw[bL];simpa using hn);exact⟨.bJ,H,back I hm,rfl,q0 e0⟩
 .intro hn v s' hv hm;have hv:its[argBest (xM ks) (its.length-1)]?=some v:=by simpa using hv
  have hb:=p8 (xM ks) (vs.length-1);have hpos:0<its.length:=by simpa using hn
  have ev:vs[argBest (xM ks) (vs.length-1)]?=some (vs[argBest (xM ks) (vs.length-1)]'(by lia)):=by simp
  obtain⟨u',e1,r1⟩:=rv.get ev;rw[bL,hv]at e1;cases e1;exact⟨_,H,back I hm,r1,q1 _ ev⟩
where
 back {X:Cx} {ai:List (Addr×Obj)} {s s':Tn} {σ:St} {H:Hp} {p:Addr} (I:Inv X ai σ H s) (hm:Moved [s.heap.objs.size] (fun a b=>b=a) { s with heap:=s.heap.push { cls:=.type "list_iterator",data:=.fields #[.ref p,.int 0 0] } } s'):Inv X ai σ H s':=by obtain⟨h',g',d',tk',os'⟩:=s';obtain rfl:g'=s.gens:=hm.gens;obtain rfl:d'=s.drawn:=hm.drawn;obtain rfl:os'=s.os:=hm.os;have I1:Inv X ai σ H { s with heap:=s.heap.push { cls:=.type "list_iterator",data:=.fields #[.ref p,.int 0 0] } }:=I.kept (t':=s.toks) fun b o e=>OZ _ e;have fo:=I.qw (H':=H) (O0 s.heap.objs.size) (I.be.fresh (O0 _));have I2:=I1.turned (h':=h') (t':=tk') (it:=s.heap.objs.size) (fun b o hb e=>hm.heap b o (by simpa using hb) e) fo.1 fo.2.1 fo.2.2.2.1 fo.2.2.2.2.1 fo.2.2.2.2.2;exact I2
theorem DE (hc:X.calm=true) (hu:X.A.units+64<cLine) (hg:Gl X "min") (hm:X.mg "min"=none) (he:PE X e te) (hst:autoParam (sE X e []) TB._auto_1)
 (hpl:autoParam (((backTo pos (starEach [e] X.env)).any (·.1) || (backToKw pos (keywordEach [⟨some "default",.Constant .none j kp,kpos⟩] X.env)).any (·.1.isNone))=false) TB._auto_1) :
 PE X (.Call (.Name "min" p) [e] [⟨some "default",.Constant .none j kp,kpos⟩] pos) (E2 X.K te):=by
 intro ai s σ H Q I h;refine Rb (i5 I hg hm (by decide +kernel:bootBuiltins "min"=some (.builtin "min")) ?_ (by decide) (by decide));have hp:PA X [e] (ao te aG):=ac he ax (hs:=hst);have hk1:PK X [⟨some "default",.Constant .none j kp,kpos⟩] (ao (tC .bJ) aG):=CD cK FE;refine PySem.W.callWith_of (P:=fun _=>True) hpl (fun h _=>⟨Keeper.machine,.inr (.inl rfl),PySem.W.Looks.now⟩) (PyProof.Rows.evalArgs_kw2 rfl (bX (hp pos ai s σ H (fun ws H1=>match ws with|[x]=>(∃ p vs ks,x=.ref p/\SqL X.K H1 p vs/\(pZ X.K H1 vs ks\/p6 vs ks)/\(vs=[]->Q .bJ H1)/\∀ v,vs[argBest (xM ks) (vs.length-1)]?=some v->Q v H1)|_=>False) I h) fun us s1 ⟨vs,H1,I1,r,q⟩=>?_) hst);obtain⟨x,rfl⟩ : ∃ x,vs=[x]:=by
  match vs,q with
  | [x],_=>exact⟨x,rfl⟩
 obtain⟨p,vs,ks,rfl,hl,hk,q0,q1⟩:=q;obtain⟨u,rfl,ru⟩:=eZ r;cases ru;refine bX (hk1 pos ai s1 σ H1 (fun vs H2=>vs=[.bJ]/\H2=H1) I1 ⟨rfl,rfl⟩) fun ws s2 ⟨zs,H2,I2,rz,e1,e2⟩=>⟨True.intro,?_⟩;subst e1 e2;obtain⟨u,rfl,ru⟩:=eZ rz;cases ru;exact DD hc hu I2 hl hk q0 q1
end
end L2
namespace L3
open PySem PySem.Spec PyProof.Rows L2
end L3
namespace L2
open PySem PySem.Spec PySem.Calls PyProof.Rows
abbrev ON:=List (List bC×Addr×Tq)
end L2
namespace L3
open PySem PySem.Spec PyProof.Rows L2
end L3
namespace L2
open PySem PySem.Spec PySem.Calls PyProof.Rows
abbrev OO:=St->Hp->(Hp->Prop)->XK->Prop
end L2
namespace L3
open PySem PySem.Spec PyProof.Rows L2
structure Ku (K:To) (x qual:Str) (st:Stmt) (f:Addr) (fd:FuncData):Prop where
 ex:∃(oc:Tq)(od:Option Addr)(dV kV doc pm:Tq)(an:Option Addr)(cdv ct:Tq)(osl:Array (Option Tq)),
  fd=PySem.W.fnOf x qual (b7 st) (bO st) (aD st) dV kV doc pm an cdv ct/\K.lookup f=some ⟨oc,od,.func fd,osl⟩/\PySem.W.codeIn K cdv qual=true
 kp:PySem.W.keepIn K (.ref f)=true
structure Nz (K:To) (mg:Str->Option Tq) (x:Str) (st:Stmt) (ps:List Str) (v:Tq) (f:Addr) (fd:FuncData):Prop where
 fu:Ku K x x st f fd
 bi:Binds K fd ps []
 bd:Binds K fd ps [v]
 gl:mg x=some (.ref f)
theorem Gu {K:To}{mg:Str->Option Tq}{x:Str}{st:Stmt}{ps:List Str}{f T:Addr}{oc tc v:Tq}{od an td:Option Addr}{osl tsl:Array (Option Tq)}{kV doc pm cdv ct:Tq}{n:Nat}
 (l:K.lookup f=some ⟨oc,od,.func (PySem.W.fnOf x x (b7 st) (bO st) (aD st) (.ref T) kV doc pm an cdv ct),osl⟩) (lT:K.lookup T=some ⟨tc,td,.seq #[v] n,tsl⟩) (c:PySem.W.codeIn K cdv x=true) (kp:PySem.W.keepIn K (.ref f)=true) (g:mg x=some (.ref f))
 (h0:∀ us:List Tq,us.length=ps.length->∃ k,bindArgs (PySem.W.fnOf x x (b7 st) (bO st) (aD st) (.ref T) kV doc pm an cdv ct) ⟨us,[]⟩=seqItems? (.ref T) >>= k/\k (some #[v])=pure (ps.zip us))
 (h1:∀ us:List Tq,us.length+1=ps.length->∃ k,bindArgs (PySem.W.fnOf x x (b7 st) (bO st) (aD st) (.ref T) kV doc pm an cdv ct) ⟨us,[]⟩=seqItems? (.ref T) >>= k/\k (some #[v])=pure (ps.zip (us++[v]))) :
 Nz K mg x st ps v f (PySem.W.fnOf x x (b7 st) (bO st) (aD st) (.ref T) kV doc pm an cdv ct) where
 fu:=⟨⟨oc,od,.ref T,kV,doc,pm,an,cdv,ct,osl,rfl,l,c⟩,kp⟩
 bi:=fun s us X hl=>by rw[Rm]at hl ⊢;obtain⟨k,e1,e2⟩:=h0 us hl;exact PySem.W.binds_K X rfl lT rfl e1 e2
 bd:=fun s us X hl=>by obtain⟨k,e1,e2⟩:=h1 us (by simpa using hl);exact PySem.W.binds_K X rfl lT rfl e1 e2
 gl:=g
end L3
namespace L2
open PySem PySem.Spec PySem.Calls PyProof.Rows
end L2
namespace L4
open PySem PySem.Spec PyProof.Rows L2 L3
end L4
namespace Sp
noncomputable abbrev Arr:=Int×Int×Int
noncomputable abbrev Rule:=Int×Int×Int×List Int
section
variable {κ β:Type}[DecidableEq κ]
def get (d:List (κ×β))(k:κ):Option β:=(d.find? fun x=>decide (x.1=k)).map (·.2)
def put (d:List (κ×β))(k:κ)(v:β):List (κ×β):=if (get d k).isSome then d.map (fun x=>if x.1=k then (x.1,v) else x) else d++[(k,v)]
end
structure St where
 tb:List (Int×List (Int×List Int))
 en:List Int
 fo:List (Int×List Int)
 mi:List ((Int×Int)×Int)
 du:List Arr
noncomputable def add (l:List Int)(x:Int):List Int:=if x∈l then l else l++[x]
def row (tb:List (Int×List (Int×List Int)))(s:Int):List (Int×List Int):=(get tb s).getD []
def leaf (tb:List (Int×List (Int×List Int)))(s g:Int):List Int:=(get (row tb s) g).getD []
def fol (S:St)(s:Int):List Int:=(get S.fo s).getD []
def fH (S:St)(a:Arr):Prop:=a.2.2∈leaf S.tb a.1 a.2.1
def Ak (S:St)(s g t:Int):St:=if t∈leaf S.tb s g then S else { S with tb:=put S.tb s (put (row S.tb s) g (leaf S.tb s g++[t])),du:=S.du++[(s,g,t)] }
def DF (r:Int)(S:St)(x:Int×List Int):St:=x.2.foldl (fun S t=>Ak S r x.1 t) S
def Gv (S:St)(r s:Int):St:=if r∈fol S s then S else
 (row S.tb s).foldl (DF r) { S with fo:=put S.fo s (fol S s++[r]),en:=if s∈S.en then add S.en r else S.en }
def Ji (n:Int)(S:St)(r g:Int):Int:=(get S.mi (r,g)).getD (n+S.mi.length)
def LQ (n:Int)(S:St)(r g:Int):St:=if (get S.mi (r,g)).isSome then S else { S with mi:=S.mi++[((r,g),n+S.mi.length)] }
def Jj (n:Int)(t:Int)(S:St)(r:Rule):St:=match r.2.2.2 with
 | []=>Gv S r.2.2.1 t
 | [a]=>Ak S r.2.2.1 a t
 |a::b::_=>Ak (Ak (LQ n S r.2.2.1 a) r.2.2.1 a (Ji n S r.2.2.1 a)) (Ji n S r.2.2.1 a) b t
abbrev RS:=List ((Int×Int)×List Rule)
def Jk (a:Arr)(S:St):St:=(fol S a.1).foldl (fun S r=>Ak S r a.2.1 a.2.2) S
def turn (n:Int)(rs:RS)(a:Arr)(S:St):St:=((get rs (a.1,a.2.1)).getD []).foldl (Jj n a.2.2) (Jk a S)
end Sp
namespace Sp
def NS (ro:Int)(S:St)(r:Rule)(t:Int):Prop:=match r.2.2.2 with
 | []=>r.2.2.1∈fol S t
 | [x]=>fH S (r.2.2.1,x,t)
 |x::y::_=>∃ m,ro<=m/\fH S (r.2.2.1,x,m)/\fH S (m,y,t)
def DG (rs:RS)(s g:Int):List Rule:=(get rs (s,g)).getD []
def LR (ro:Int)(rs:RS)(S:St)(a:Arr):Prop:=∀ r∈DG rs a.1 a.2.1,NS ro S r a.2.2
structure J (ro:Int) (rs:RS) (S:St) (pf:Int->Arr->Prop) (pr:Arr->Prop):Prop where
 to:∀ a,fH S a->ro<=a.2.2
 mi:∀ x∈S.mi,ro<=x.2
 fo:∀ s r,r∈fol S s->r<ro/\ro<=s/\(s∈S.en->r∈S.en)/\∀ g t,fH S (s,g,t)->fH S (r,g,t)\/(s,g,t)∈S.du\/pf r (s,g,t)
 dn:∀ a,fH S a->LR ro rs S a\/a∈S.du\/pr a
end Sp
namespace Sp
section
def LS {κ β:Type}(d:List (κ×β)):Prop:=(d.map (·.1)).Nodup
end
end Sp
namespace Sp
end Sp
namespace Sp
theorem nodup_sub {α:Type}[DecidableEq α]:∀{l U:List α},l.Nodup->(∀ x∈l,x∈U)->l.length<=U.length
 | [],U,_,_=>Pq _
 |x::l,U,nd,h=>by rw[Qk]at nd;have hx:=h x (by simp);have:=nodup_sub (l:=l) (U:=U.erase x) nd.2 fun y hy=>(List.mem_erase_of_ne fun e=>nd.1 (by rw[<- e];exact hy)).mpr (h y (by simp[hy]));rw[List.length_erase_of_mem hx]at this;have:=List.length_pos_of_mem hx;rw[Pg];lia
def Bx (sg m:Int)(a:Arr):Prop:=(0<=a.1/\a.1<m)/\(0<=a.2.1/\a.2.1<sg)/\0<=a.2.2/\a.2.2<m
structure B (ro n sg:Int) (ks:List (Int×Int)) (t0 pp:List Arr) (S:St):Prop where
 old:∀ a,fH S a->ro<=a.1->a.1<n->a∈t0
 bx:∀ a,fH S a->Bx sg (n+ks.length) a
 ne1:∀ x∈S.tb,x.2≠[]
 ne2:∀ s,∀ x∈row S.tb s,x.2≠[]
 lf:∀ s g,(leaf S.tb s g).Nodup
 nd:(pp++S.du).Nodup
 sub:∀ a∈pp++S.du,fH S a
 mc:(S.mi.map (·.1)).Nodup
 ms:∀ x∈S.mi,x.1∈ks
 mv:∀ x∈S.mi,n<=x.2/\x.2<n+S.mi.length
 en:S.en.Nodup
 er:∀ e∈S.en,0<=e/\e<n
 fk:LS S.fo
 fl:∀ s,(fol S s).Nodup
 fr:∀ s,∀ r∈fol S s,0<=r/\r<ro
 fs:∀ x∈S.fo,0<=x.1/\x.1<n+ks.length
end Sp
namespace Sp
end Sp
namespace Sp
def Gw (l:List Int):List Int:=l.foldl add []
def bh (es:List Int):St:=⟨[],Gw es,[],[],[]⟩
end Sp
namespace Sp
section
variable {ro n sg:Int}
noncomputable def Gx (ts:List Arr)(es:List Int):Int->List Int->Prop
 |s,[]=>s∈es
 |s,g::w=>∃ t,(s,g,t)∈ts/\Gx ts es t w
structure Fw (ro sg n:Int) (RL:List Rule) (ts:List Arr) (es:List Int) (n':Int) (ts':List Arr) (es':List Int):Prop where
 t:∀ a∈ts,a∈ts'
 e:∀ x∈es,x∈es'
 c:∀ r∈RL,r.2.2.2.length<=2->∀ w,Gx ts' es' r.1 (r.2.1::w)->Gx ts' es' r.2.2.1 (r.2.2.2++w)
end
end Sp
namespace L2
open PySem PySem.Spec PySem.Calls PyProof.Rows
end L2
namespace L4
open PySem PySem.Spec PyProof.Rows L2 L3
theorem KT.trans (h:KT H H')(h':KT H' H''):KT H H'':=fun a ws e=>h' a ws (h a ws e)
theorem KT.of (s:Same H H'):KT H H':=fun a _ e=>s a _ e
theorem KT.upd (h:H a=some u)(n:∀ ws,u≠.tup ws):KT H (upd H a v):=fun c ws e=>by rw[aA (fun z=>by subst z;rw[h]at e;cases e;exact n _ rfl)];exact e
section
variable {τ:Type}
structure Ln (τ:Type) where
 z:τ->Prop
 c:τ->Option (Addr×HO)
end
inductive Tag where
 |o|ta|en|fo|mi|du|ru
 |row (s:Int)
 |lf (s g:Int)
 |fl (s:Int)
 |rl (k:Int×Int)
structure SA where
 o:Addr
 ta:Addr
 en:Addr
 fo:Addr
 mi:Addr
 du:Addr
 ru:Addr
structure Fx where
 A:SA
 C:Addr
 dx:Addr
 n:Int
 rs:Sp.RS
 RA:Int×Int->Addr
 xs:Int×Int->NX
structure Vr where
 R:Int->Addr
 L:Int->Int->Addr
 F:Int->Addr
 dv:List V
 ue:HO
section
section
variable {β:Type}{d:List (Int×β)}
def sd {κ β:Type}[DecidableEq κ](d:List (κ×β))(k:κ)(x:β):List (κ×β):=if (Sp.get d k).isSome then d else d++[(k,x)]
end
end
section
theorem oS (h:n<15000000):n<sizeLine:=by rw[Pn];lia
end
theorem km {J:L2.It}{n:Nat}{g:TG}{tb:TS}{D:Ends}{σ:L2.St}{H:Hp}(P:Nat->L2.St->Hp->Prop)(p0:P 0 σ H)(hgo:∀ i σ H,P i σ H->i<n->J.go i H)(hst:∀ σ H,P n σ H->J.stop n H)
 (hb:∀ i σ H x H' (D':Ends),i<n->P i σ H->J.yB i H x H'->(∀ σ' H',P (i+1) σ' H'->D'.nx σ' H')->g x σ H' fun σ2 H2=>tb D' σ2 H2) (he:∀ σ H,P n σ H->D.nx σ H):∃ W:Nat->Nat->L2.St->Hp->Prop,(∃ m,W 0 m σ H)/\∀ i m σ H,W i m σ H->
 (J.stop i H/\D.nx σ H)\/(J.go i H/\∃ N:L2.St->Hp->Prop,(∀ σ' H',N σ' H'->∃ m',m'<m/\W (i+1) m' σ' H')/\∀ x H',J.yB i H x H'->g x σ H' fun σ2 H2=>tb { D with nx:=N,ct:=N,bk:=D.nx } σ2 H2):=by
 refine⟨fun i m σ H=>m=n-i/\i<=n/\P i σ H,⟨n,by simp,Pq _,p0⟩,?_⟩;rintro i m σ H ⟨rfl,hi,p⟩;by_cases h:i<n
 .exact .inr ⟨hgo i σ H p h,P (i+1),fun σ' H' q=>⟨n-(i+1),by lia,rfl,h,q⟩,fun x H' y=>hb i σ H x H' _ h p y fun _ _=>id⟩
 .have e:i=n:=by lia
  subst e;exact .inl ⟨hst σ H p,he σ H p⟩
end L4
namespace Sp
end Sp
namespace L4
open PySem PySem.Spec PyProof.Rows L2 L3
end L4
namespace Sp
end Sp
namespace L4
open PySem PySem.Spec PyProof.Rows L2 L3
theorem aO.Hy {α β:Type}{R:α->β->Prop}{xs:List α}{x:α}{ys:List β}(h:aO R (xs++[x]) ys):∃ zs y,ys=zs++[y]/\aO R xs zs/\R x y:=by
 induction xs generalizing ys with
 |nil=>
  cases h with
  |cons a b=>cases b;exact⟨[],_,rfl,.nil,a⟩
 |cons w xs ih=>
  cases h with
  |cons a b=>obtain⟨zs,y,e,h1,h2⟩:=ih b;exact⟨_::zs,y,by rw[e];rfl,.cons a h1,h2⟩
section
variable {H:Hp}{s:Int}{la:Addr}
def Kp (la:Addr)(G H:Hp):Prop:=∀ c u,G c=some u->c≠la->H c=some u
theorem Kp.of (s:Same G H):Kp la G H:=fun c u e _=>s c u e
end
end L4
namespace Sp
end Sp
namespace L4
open PySem PySem.Spec PyProof.Rows L2 L3
section
variable {K:To}{H:Hp}{Q:VK}{E:XK}{k:Int×Int}{c p:Addr}
noncomputable def BX {β:Type}(R:Int×Int->β)(k:Int×Int)(p:β):Int×Int->β:=fun u=>if u=k then p else R u
inductive m7:Sp
 |mk {c q:Addr} {x y z:V} {H:Hp} {Q:VK} {E:XK} (hc:H c=some (.tup [x,y,z,.ref q])) (k:∀ p,H p=none->Q (.ref p) (upd H p (.tup [x,y]))):m7 [.ref c] H Q E
theorem uA (h:m7 vs H Q E):vs.length=1:=by cases h;rfl
def Jl (K:To):TS:=b6 (b8 (ao (tI K 0 0) (ao (tI K 0 1) aG)))
theorem xN (h:m7 vs H Q E):Jl K (eQ Q) (bh (nS 1) vs) H:=by obtain⟨hc,k⟩:=h;exact gr (.c (.ix (.va rfl) hc rfl) (.c (.ix (.va rfl) hc rfl) .ni)) rfl k
end
end L4
namespace Sp
end Sp
namespace L4
open PySem PySem.Spec PyProof.Rows L2 L3
end L4
namespace Sp
end Sp
namespace L4
open PySem PySem.Spec PyProof.Rows L2 L3
end L4
namespace L2
open PySem PySem.Spec PySem.Calls PyProof.Rows
end L2
namespace L2
open PySem PySem.Spec PySem.Calls PyProof.Rows ST
section
variable {κ μ:Type}
theorem dQ.own (v:dQ ent es its)(un:BU ent its):∃ zs:List (κ×μ),(∀ z∈zs,z∈its)/\(zs.map (·.1)).Nodup/\zs.length=es.size/\(∀ x∈its,∃ y∈zs,y.1=x.1)/\dQ ent es zs:=by
 obtain⟨zs,ez,zm⟩:=ma (ent:=ent) (its:=its) es.toList v.el;have hl:zs.length=es.size:=by have:=QH List.length ez;rw[O2,Qo]at this;exact this.symm
 have nd:(zs.map (·.1)).Nodup:=by have pw:=v.pw;rw[ez,QK]at pw;unfold List.Nodup;rw[QK];exact QZ (fun{a b} ha hb hab=>hab a b rfl rfl (zm a ha) (zm b hb)) pw
 have al:∀ x∈its,∃ y∈zs,y.1=x.1:=fun x hx=>by obtain⟨y,hy,e1,e2⟩:=v.all x hx;rw[ez]at e2;obtain⟨z,hz,e3⟩:=Pb.mp e2;exact⟨z,hz,(un z (zm z hz) y hy e3).trans e1⟩
 refine⟨zs,zm,nd,hl,al,⟨fun e he=>?_,by lia,v.pw.imp fun{a b} h x x' e1 e2 m1 m2=>h x x' e1 e2 (zm x m1) (zm x' m2),fun x hx=>⟨x,hx,rfl,?_⟩⟩⟩
 .rw[ez]at he;obtain⟨z,hz,e⟩:=Pb.mp he;exact⟨z,hz,e.symm⟩
 .rw[ez];exact Pb.mpr ⟨x,hx,rfl⟩
end
section
def Al (X:Cx):List V->Hp->VK->Prop:=fun xs H Q=>∃ l vs its,xs=[.ref l]/\Rd H l (.lst vs)/\TupsIn H vs its/\vs.length<=300/\∀ p es,H p=none->dQ (eT X.prog X.w) es its->Q (.ref p) (upd H p (.ext fun h=>SetAt X.w h p es))
theorem xO (hc:X.calm=true) (hu:X.A.units+64<cLine):cm X (.type "set") (Al X):=wJ hc hu
def Am (X:Cx):List V->Hp->VK->Prop:=fun xs H Q=>∃ p es its,xs=[.ref p]/\H p=some (.ext fun h=>SetAt X.w h p es)/\dQ (eT X.prog X.w) es its/\(∀ x∈its,H x.2=some (.tup ((iK x.1).map kV)))/\(∀ x∈its,x.1≠[])/\(∀ l:List (List Int),l.Nodup->(∀ k∈l,∃ x∈its,x.1=k)->l.length<=63)/\
 ∀ l ys,H l=none->nc (fun x y=>c9 x y=true) its ys->Q (.ref l) (upd H l (.lst (ys.map fun y=>.ref y.2)))
theorem xP (hc:X.calm=true):cm X (.builtin "sorted") (Am X):=by
 intro ai s σ H xs us Q I r h;obtain⟨p,es,its,rfl,hp,v,ht,hne,hz,q⟩:=h;have his:=fun x hx=>dP I.be (ht x hx);obtain⟨zs,zm,nd,hl,al,v2⟩:=v.own (FY his);have jf:zs.length<=63:=by
  have:=hz (zs.map (·.1)) nd fun k hk=>by obtain⟨z,hz,rfl⟩:=Pb.mp hk;exact⟨z,zm z hz,rfl⟩
  rw[O2]at this;exact this
 exact pE hc (N:=63) (by decide) C4 ai s σ H _ us Q I r ⟨p,es,zs,rfl,hp,v2,fun x hx=>ht x (zm x hx),fun x hx=>hne x (zm x hx),jf,fun l ys hl so=>q l ys hl ⟨fun y hy=>zm y (so.sub y hy),fun x hx=>by obtain⟨z,hz,e⟩:=al x hx;obtain⟨y,hy,e2⟩:=so.all z hz;exact⟨y,hy,e2.trans e⟩,so.pw⟩⟩
end
end L2
namespace L4
open PySem PySem.Spec PyProof.Rows L2 L3 ST
noncomputable abbrev bV:=Int×Int
end L4
namespace L4
open PySem PySem.Spec PyProof.Rows L2 L3
theorem kO {β:Type}{R:bV->β}{k:bV}{p:β}:BX R k p k=p:=Pi rfl
theorem iV {β:Type}{R:bV->β}{k u:bV}{p:β}(h:u≠k):BX R k p u=R u:=Pl h
noncomputable def xQ (ks:List bV)(k:bV):List bV:=if k∈ks then ks else ks++[k]
structure Gr {α:Type} (R:Hp->α->V->Prop) (B H:Hp) (a:Addr) (ks:List bV) (F:bV->List α) (RA:bV->Addr):Prop where
 s:Same B H
 r:H a=some (.dT (ks.map fun k=>(k2 k,.ref (RA k))))
 na:B a=none
 v:∀ k∈ks,B (RA k)=none/\∃ vs,H (RA k)=some (.lst vs)/\aO (R H) (F k) vs
 i:∀ k∈ks,∀ k'∈ks,RA k=RA k'->k=k'
 z:∀ k,k∉ks->F k=[]
def mL {α:Type}(R:Hp->α->V->Prop):Prop:=∀{H H':Hp},KT H H'->∀ x v,R H x v->R H' x v
theorem di:mL IsSet:=fun k _ _ ⟨p,e,h⟩=>⟨p,e,k _ _ h⟩
section
variable {α:Type}{R:Hp->α->V->Prop}{K:To}{B H H':Hp}{a q p:Addr}{ks:List bV}{F:bV->List α}{RA:bV->Addr}{σ:L2.St}{k:bV}{vs ws:List V}{zs:List α}{Q:VK}
theorem uB:cw (ks.map fun k=>(k2 k,V.ref (RA k))) (k2 k)=if k∈ks then some (.ref (RA k)) else none:=by
 induction ks with
 |nil=>rfl
 |cons x r ih=>
  rw[Ph];by_cases h:x=k
  .rw[cY (by rw[h]),Pi (by rw[h];exact O5),h]
  .rw[cZ fun z=>h (jc _ _ z),ih];simp[Qn h]
theorem Gr.more (h:Gr R B H a ks F RA)(hR:mL R)(s:Same H H'):Gr R B H' a ks F RA:=⟨h.s.trans s,s _ _ h.r,h.na,fun k' b=>let ⟨h1,vs,h2,h3⟩:=h.v k' b;⟨h1,vs,s _ _ h2,h3.mono (hR (.of s))⟩,h.i,h.z⟩
theorem aO.app {β γ:Type}{R:β->γ->Prop}{xs us:List β}{ys zs:List γ}(h:aO R xs ys)(g:aO R us zs):aO R (xs++us) (ys++zs):=by
 induction h with
 |nil=>exact g
 |cons a _ ih=>exact .cons a ih
theorem Gr.ext (h:Gr R B H a ks F RA)(hR:mL R)(hk:k∈ks)(hl:H (RA k)=some (.lst vs))(hw:aO (R H) zs ws):Gr R B (upd H (RA k) (.lst (vs++ws))) a ks (BX F k (F k++zs)) RA:=by
 obtain⟨n,vs',e,al⟩:=h.v k hk;rw[hl]at e;cases e;have kt:KT H (upd H (RA k) (.lst (vs++ws))):=.upd hl fun _ z=>(nomatch z);refine⟨fun b u e=>?_,?_,h.na,fun j hj=>?_,h.i,fun j hj=>?_⟩
 .rw[aA fun z=>by rw[z,n]at e;cases e];exact h.s _ _ e
 .rw[aA fun z=>by rw[<- z,h.r]at hl;cases hl];exact h.r
 .obtain⟨n',us,e,al'⟩:=h.v j hj;refine⟨n',?_⟩;by_cases ej:j=k
  .rw[ej,kO];exact⟨_,aj,(al.app hw).mono (hR kt)⟩
  .rw[iV ej];exact⟨us,by rw[aA fun z=>ej (h.i j hj k hk z)];exact e,al'.mono (hR kt)⟩
 .rw[iV fun z:j=k=>hj (z▸hk)];exact h.z j hj
theorem Gr.new (h:Gr R B H a ks F RA)(hR:mL R)(hk:k∉ks)(hq:H q=none):Gr R B (upd (upd H q (.lst [])) a (.dT ((ks.map fun k=>(k2 k,V.ref (RA k)))++[(k2 k,.ref q)]))) a (ks++[k]) F (BX RA k q):=by
 have naq:a≠q:=aB h.r hq;have s1:Same H (upd H q (.lst [])):=az hq;have kt:KT H (upd (upd H q (.lst [])) a (.dT ((ks.map fun k=>(k2 k,V.ref (RA k)))++[(k2 k,.ref q)]))):=(KT.of s1).trans (.upd (s1 _ _ h.r) fun _ z=>(nomatch z));have hne:∀ j∈ks,j≠k:=fun j hj z=>hk (z▸hj);have hRA:∀ j∈ks,RA j≠q:=fun j hj z=>by obtain⟨_,_,e,_⟩:=h.v j hj;rw[z,hq]at e;cases e
 refine⟨fun b u e=>?_,?_,h.na,fun j hj=>?_,fun j hj j' hj' e=>?_,fun j hj=>h.z j fun z=>hj (P3 _ z)⟩
 .rw[aA fun z=>by rw[z,h.na]at e;cases e];exact s1 _ _ (h.s _ _ e)
 .rw[aj,PX];congr 3
  .exact Qa fun j hj=>by rw[iV (hne j hj)]
  .show _=[(k2 k,V.ref (BX RA k q k))];rw[kO]
 .rcases Pf.mp hj with hj|hj
  .rw[iV (hne j hj)];obtain⟨n',us,e,al'⟩:=h.v j hj;exact⟨n',us,by rw[aA fun z=>by rw[z,h.r]at e;cases e];exact s1 _ _ e,al'.mono (hR kt)⟩
  .rw[O9]at hj;subst hj;rw[kO,h.z _ hk];exact⟨h.s.free hq,[],by rw[aA (Qn naq),aj],.nil⟩
 .rcases Pf.mp hj with g|g<;>rcases Pf.mp hj' with g'|g'
  .rw[iV (hne j g),iV (hne j' g')]at e;exact h.i j g j' g' e
  .rw[O9.mp g',iV (hne j g),kO]at e;exact(hRA j g e).elim
  .rw[O9.mp g,iV (hne j' g'),kO]at e;exact(hRA j' g' e.symm).elim
  .rw[O9.mp g,O9.mp g']
def M_ (K:To) (i:Nat) (tk:TE):TE:=tD K "dict" uc (av i) (ao tk (ao (cW aG) aG))
theorem Jm (h:Gr R B H a ks F RA)(hR:mL R)(hz:ks.length<15000000)(hi:σ[i]?=some (some (.ref a)))(hk:Makes tk σ H [.int k.1,.int k.2])
 (kk:∀ H' RA',Kp a H H'->KT H H'->Gr R B H' a (xQ ks k) F RA'->k∈xQ ks k->Q (.ref (RA' k)) H'):M_ K i tk σ H Q:=by
 refine⟨_,hi,.inr (.inr (.inl ⟨rfl,.inr ⟨_,h.r⟩⟩)),hk _ fun b hb=>⟨Pq _,fun q hq=>?_⟩⟩;have s1:Same H (upd H b (.tup [.int k.1,.int k.2])):=az hb;have G1:=h.more hR s1;have hb1:upd H b (.tup [.int k.1,.int k.2]) b=some (.tup ((k2 k).map kV)):=aj;generalize upd H b (.tup [.int k.1,.int k.2])=H1 at s1 G1 hb1 hq;have s2:Same H1 (upd H1 q (.lst [])):=az hq;refine⟨a,b,k2 k,.ref q,_,rfl,rfl,s2 _ _ hb1,.inl (s2 _ _ G1.r),oS (by rw[O2];exact hz),?_⟩;rw[uB];unfold xQ at kk;by_cases e:k∈ks
 .rw[Pi e]at kk ⊢;exact .inl ⟨_,rfl,kk _ _ (.of (s1.trans s2)) (.of (s1.trans s2)) (G1.more hR s2) e⟩
 .rw[Pl e]at kk ⊢;refine .inr ⟨rfl,?_⟩;rw[gU _ (by rw[uB,Pl e])];have:=kk _ _ (fun c u e n=>by rw[aA n];exact s2 _ _ (s1 _ _ e)) ((KT.of (s1.trans s2)).trans (.upd (s2 _ _ G1.r) fun _ z=>(nomatch z))) (G1.new hR e hq) (PL _ O5);rw[kO]at this;exact this
theorem Gy (h:Gr R B H a ks F RA)(hq:H q=none)(k:bV):∃ p vs,(cw (ks.map fun k=>(k2 k,V.ref (RA k))) (k2 k)).getD (.ref q)=.ref p/\upd H q (.lst []) p=some (.lst vs)/\aO (R H) (F k) vs:=by
 rw[uB];by_cases e:k∈ks
 .rw[Pi e];obtain⟨_,vs,e1,al⟩:=h.v k e;exact⟨_,vs,rfl,az hq _ _ e1,al⟩
 .rw[Pl e,h.z k e];exact⟨q,[],rfl,aj,.nil⟩
end
section
variable {H H':Hp}{a q d:Addr}{As:List Sp.Arr}{kvs:List (List bC×V)}
theorem uC (h:Is H' (nl H H') (.nX (As.map fun a=>.inr (ak a)) ds) v):∃ d kvs u,v=.ref d/\H d=none/\H' d=some u/\(u=.dT kvs\/(u=.dK []/\kvs=[]))/\kvs.map (·.1)=As.map ak:=by
 obtain⟨d,vs,rfl,⟨sh,n0,mu⟩,all⟩:=h;have nofz:∀ o u,H' d≠some (.cj o u):=fun o u z=>by obtain⟨uo,q,qm⟩:=mu;rw[z]at q;cases q;exact qm
 rcases sh with⟨kvs,e|⟨o,e⟩,h1,h2⟩|⟨kvs,e|⟨o,e⟩,h1,h2⟩
 .have e0:As=[]:=by
   cases As with
   |nil=>rfl
   |cons x l=>cases kvs with
    |nil=>cases h1
    |cons y kvs=>rw[Ph,Ph]at h1;injection h1 with h1;cases h1
  subst e0;have:kvs=[]:=by cases kvs with
   |nil=>rfl
   |cons _ _=>cases h1
  subst this;exact⟨d,[],_,rfl,n0,e,.inr ⟨rfl,rfl⟩,rfl⟩
 .exact(nofz _ _ e).elim
 .refine⟨d,kvs,_,rfl,n0,e,.inl rfl,?_⟩;have:=QH (List.map fun k:DK=>match k with|.inr a=>a|.inl _=>[]) h1;rw[QC,QC]at this;exact this.symm
 .exact(nofz _ _ e).elim
theorem An (ks:List bV)(k:bV):(xQ ks k).length<=ks.length+1:=by unfold xQ;split<;>simp
end
noncomputable def hd (r:Sp.Rule):bV:=(r.1,r.2.1)
section
variable {X:Cx}{H:Hp}{p:Addr}{Q:VK}
def Ao:List V->Hp->VK->Prop:=fun xs H Q=>∃ l vs kvs,xs=[.ref l]/\Rd H l (.lst vs)/\k9 H vs kvs/\∀ p,H p=none->Q (.ref p) (upd H p (.dT (fG [] kvs)))
theorem uD (hc:X.calm=true) (hu:X.A.units+64<cLine):cm X (.type "dict") Ao:=tP hc hu
end
end L4
namespace L2
open PySem PySem.Spec PySem.Calls PyProof.Rows ST
end L2
namespace L4
open PySem PySem.Spec PyProof.Rows L2 L3
section
variable {X:Cx}{scope:Scope}{tg elt:Expr}{ifs:List Expr}{tN capN:List Str}{caps:List Nat}{σ:L2.St}{H1:Hp}{Fin:Addr->List V->Hp->Prop}{J:L2.It}{n:Nat}{gt:TG}{tt:TT}{te:TE}
theorem je (hg:∀ cl C s3 H3 fp,PG (bH X scope (tN++capN) cl C s3 H3 fp) tg gt)(ht:∀ cl C s3 H3 fp,BV (bH X scope (tN++capN) cl C s3 H3 fp) ifs tt)(he:∀ cl C s3 H3 fp,PE (bH X scope (tN++capN) cl C s3 H3 fp) elt te)(I:Addr->Nat->List V->Hp->Prop)(p0:∀ Dl,H1 Dl=none->I Dl 0 [] (upd H1 Dl (.lst [])))(hD:∀{Dl i acc H},I Dl i acc H->H Dl=some (.lst acc))
 (hgo:∀ Dl i acc H,I Dl i acc H->i<n->J.go i H) (hst:∀ Dl acc H,I Dl n acc H->J.stop n H)
 (hb:∀ Dl i acc H x H' o,i<n->I Dl i acc H->J.yB i H x H'->o.length=tN.length->gt x (o++jB σ caps) H' fun σ2 H2=>(∀ j:Nat,tN.length<=j->σ2[j]?=(o++jB σ caps)[j]?)/\tt σ2 H2 fun b H3=>if b=true then te σ2 H3 fun y H5=>H5 Dl=some (.lst acc)/\acc.length<sizeLine/\I Dl (i+1) (acc++[y]) (upd H5 Dl (.lst (acc++[y]))) else I Dl (i+1) acc H3)
 (fin:∀ Dl acc H,H1 Dl=none->I Dl n acc H->Fin Dl acc H):c_ X scope tg tN capN caps elt ifs σ Fin J H1:=by
 intro Dl hDl cl C s3 fp;refine⟨_,_,_,fun i m acc H'=>m=n-i/\i<=n/\I Dl i acc H',hg cl C s3 _ fp,ht cl C s3 _ fp,he cl C s3 _ fp,⟨n,by simp,Pq _,p0 Dl hDl⟩,?_⟩;rintro i m acc H' ⟨rfl,hi,p⟩;refine⟨hD p,?_⟩;by_cases hlt:i<n
 .refine .inr ⟨hgo Dl i acc H' p hlt,fun xv H'' o y ho=>?_⟩;have:=hb Dl i acc H' xv H'' o hlt p y ho;have e2:∀{A:Prop},(∃ m',m'<n-i/\(m'=n-(i+1)/\i+1<=n/\A))↔A:=⟨fun⟨_,_,_,_,a⟩=>a,fun a=>⟨_,by lia,rfl,hlt,a⟩⟩;simp only[e2];exact this
 .have ei:i=n:=by lia
  subst ei;exact .inl ⟨hst Dl acc H' p,fin Dl acc H' hDl p⟩
end
noncomputable def pD (x:bV):D:=.tup [.int x.1,.int x.2]
section
variable {X:Cx}{K:To}{H:Hp}{q p d:Addr}{σ:L2.St}{vs:List V}{Q:VK}{m:Addr->Prop}
theorem Na {x:bV}{v:V}(h:IsSet H x v):Is H m (pD x) v:=let ⟨p,e,h⟩:=h;⟨p,_,e,h,_,_,rfl,rfl,_,_,rfl,rfl,rfl⟩
theorem Jn {l:List bV}{vs:List V}(h:aO (IsSet H) l vs):IsAll H m (l.map pD) vs:=by
 induction h with
 |nil=>exact rfl
 |cons q _ ih=>exact⟨_,_,rfl,Na q,ih⟩
theorem iB {n:Nat}:∀{ds:List D},(∀ d∈ds,d.dep<=n)->D.cN ds<=n
 | [],_=>Pq _
 |d::ds,h=>by have h1:=h d O5;have h2:=iB fun e he=>h e (O4 _ he);show max d.dep (D.cN ds)<=n;lia
theorem LU (l:List bV):(D.lst (l.map pD)).dep<=50:=by
 have:D.cN (l.map pD)<=2:=iB fun d hd=>by obtain⟨x,_,rfl⟩:=Pb.mp hd;exact RM rfl
 show D.cN (l.map pD)+1<=50;lia
def Jo (K:To):List V->Hp->VK->Prop:=fun xs H Q=>∃ x T t b,xs=[x,.ty T]/\Ly K H x t/\PySem.W.kitOne K t (.type T)=some b/\Q (.bl b) H
theorem ko:cm X (.builtin "isinstance") (Jo X.K):=zY
def DH (K:To)(T:String)(te:TE):TE:=ii (Jo K) (ao te (ao (tC (.ty T)) aG))
theorem Reads.MV {te:TE}{T:String}{x:V}{dd:D}(h:Reads te σ H x)(is:Ly K H x (.type dd.ty))(hK:Dh T):Reads (DH K T te) σ H (.bl (M5 T dd)):=fun Q q=>h _ ⟨x,T,_,_,rfl,is,hK K dd,q⟩
def Jp (K:To):List V->Hp->VK->Prop:=fun xs H Q=>∃(p:Addr)(vs:List V)(bs:List Bool),xs=[.ref p]/\SqL K H p vs/\vs=bs.map V.bl/\Q (.bl (bs.all id)) H
theorem xR (hc:X.calm=true):cm X (.builtin "all") (Jp X.K):=xa hc
def Gz:TS:=b6 (tC (.bl false))
end
noncomputable abbrev Rw:=Int×List Int
section
variable {K:To}{H:Hp}{p:Addr}{σ:L2.St}{k:bV}
theorem Reads.yz (ha:Reads ta σ H (.ref p))(hb:Reads tb σ H (.int i))(h:Rd H p (.lst xs))(e:xs[j]?=some v)(ei:i=(j:Nat)):Reads (aX (e9 K) ta tb) σ H v:=ha.op hb fun _ q=>⟨p,xs,i,v,rfl,rfl,.inl h,by rw[ei];exact fq e,q⟩
theorem Reads.mZ (ha:Reads ta σ H (.ref p))(h:Rd H p (.lst xs)):Reads (ii (g_ K) (ao ta aG)) σ H (.int xs.length):=fun _ k=>ha _ ⟨p,xs,rfl,.inl (.inl h),k⟩
def NT:R2:=qJ fun i j=>.bl (decide (j<=i))
def Ap:R2:=qJ fun i j=>.int (i-j)
end
def gu (K:To):List V->Hp->VK->Prop:=fun xs H Q=>∃ p ys,xs=[.ref p]/\(SqL K H p ys\/SqT K H p ys)/\∀ l,H l=none->Q (.ref l) (upd H l (.lst ys))
theorem cz:cm X (.type "list") (gu X.K):=o9
noncomputable abbrev iH:=List D->Res R
noncomputable abbrev Tr:Addr->Prop:=fun _=>True
def kq (rooms signs:Int)(RL:List Sp.Rule):D:=.tup [.int rooms,.int signs,.lst (RL.map dU)]
structure OX where
 (Fp Fm Fc OQ OS OT Fh Fb:iH)
section
variable {K:To}{H H':Hp}{d:Addr}{σ:L2.St}{vs:List V}{Q:VK}
theorem Jq (h:zR g H v r):Is H Tr r.d v:=by
 cases r with
 |val d fr al=>exact Is.mono (fun _ _ e _=>e) (fun _ _ _ _=>True.intro) h
 |new ds fr=>obtain⟨a,vs,rfl,e,_,ia⟩:=h;exact⟨a,vs,rfl,.inl ⟨e,True.intro⟩,IsAll.mono (fun _ _ e _=>e) (fun _ _ _ _=>True.intro) ia⟩
 |yw d=>exact Is.mono (fun _ _ e _=>e) (fun _ _ _ _=>True.intro) h
theorem Aq (hn:vs.length=n)(is:IsAll H Tr ds vs)(hF:F ds=.ok r)(k:∀ v H',Same H H'->Is H' Tr r.d v->Q v H'):pH mg n F (vs++[]) H Q E0:=by refine⟨by rw[Rm];exact hn,ds,Tr,by rw[Rm];exact is,?_⟩;rw[hF];exact fun v H' s h=>k v H' s (Jq h)
theorem DI {m:Addr->Prop}{dd:D}(h:Is H m dd v)(s:Same H H'):Is H' Tr dd v:=Is.mono (fun c u e _=>s c u e) (fun _ _ _ _=>True.intro) h
def Ar (mg:Str->Option Tq)(Fm Fc:iH)(i:Int):TE:=br (pH mg 1 Fm) [] E0 (ao (br (pH mg 2 Fc) [] E0 (ao (av 0) (ao (tC (.int i)) aG))) aG)
theorem p9 {sd:D}{i x y:Int}(h0:σ[0]?=some (some v0))(is:Is H Tr sd v0)(hc:Fc [sd,.int i]=.ok (.val (.int x) true []))(hm:Fm [.int x]=.ok (.val (.int y) true []))(k:∀ H',Same H H'->Q (.int y) H'):Ar mg Fm Fc i σ H Q:=by refine⟨_,h0,Aq (ds:=[sd,.int i]) rfl ⟨_,_,rfl,is,_,_,rfl,rfl,rfl⟩ hc fun v H1 s1 e1=>Aq (ds:=[.int x]) rfl ⟨_,_,rfl,e1,rfl⟩ hm fun w H2 s2 e2=>?_⟩;cases (show w=.int y from e2);exact k H2 (s1.trans s2)
theorem NU (h:IsAll H m ds vs)(s:Same H H'):IsAll H' Tr ds vs:=IsAll.mono (fun c u e _=>s c u e) (fun _ _ _ _=>True.intro) h
def xS (tx:TE):TE:=b8 (ao (av 2) (ao (av 3) (ao tx aG)))
def NV (K:To):TE:=ii (gu K) (ao (av 5) aG)
end
theorem Jr (h:IsRule H r v):Is H m (dU r) v:=by obtain⟨p,q,rfl,hp,hq⟩:=h;exact⟨p,_,rfl,hp,_,_,rfl,rfl,_,_,rfl,rfl,_,_,rfl,rfl,_,_,rfl,⟨q,_,rfl,hq,i9 _⟩,rfl⟩
structure OP where
 (OV Kx KH:Scope)
 (OU OH Kv OL KF OI:Expr)
 (OW tN capN:List Str)
 (caps:List Nat)
section
def bP:R2:=rI (fun _ j=>0<j) fun i j=>.int (i % j)
def dj:R2:=rI Ie fun i j=>.int (i / j)
end
structure Fg (l z:List Int):Prop where
 m:∀ x,x∈z↔x∈l
 p:z.Pairwise (·< ·)
section
variable {H H':Hp}{p:Addr}{ks:List bV}{σ:L2.St}{vs:List V}
def Au (X:Cx):List V->Hp->VK->Prop:=fun vs H Q=>∃ l xs,vs=[.ref l]/\Rd H l (.lst (xs.map V.int))/\xs.length<=300/\∀ p es its,H p=none->its.map (·.1)=xs->dQ (eI X.prog X.w) es its->Q (.ref p) (upd H p (.ext fun h=>SetAt X.w h p es))
theorem uE (hc:X.calm=true):cm X (.type "set") (Au X):=ub hc
def Av (X:Cx):List V->Hp->VK->Prop:=fun vs H Q=>∃ p es its,vs=[.ref p]/\H p=some (.ext fun h=>SetAt X.w h p es)/\dQ (eI X.prog X.w) es its/\its.length<=63/\
 ∀(l:Addr)(ks:List Int),H l=none->(∀ k,k∈ks↔k∈its.map (·.1))->ks.Pairwise (·< ·)->Q (.ref l) (upd H l (.lst (ks.map V.int)))
theorem uF (hc:X.calm=true):cm X (.builtin "sorted") (Av X):=nH hc
theorem GA (h:Reads ta σ H (.ref l))(hl:Rd H l (.lst (xs.map .int)))(hz:xs.length<=63)(k:∀ l' z H',Same H H'->H l'=none->H' l'=some (.lst (z.map .int))->Fg xs z->Q (.ref l') H'):ii (Av X) (ao (ii (Au X) (ao ta aG)) aG) σ H Q:=by refine h _ ⟨l,xs,rfl,hl,by lia,fun p es its hp e v=>⟨p,es,its,rfl,aj,v,?_,fun l' ks hl' hm pw=>k l' ks _ ((az hp).trans (az hl')) ((az hp).free hl') aj ⟨fun x=>by rw[hm,e],pw⟩⟩⟩;have:=QH List.length e;rw[O2]at this;lia
end
section
variable {K:To}{H H':Hp}{σ:L2.St}{Q:VK}
def GB (K:To)(t:TE):TT:=fun σ H Q=>t σ H fun x H'=>∃ k,FC K x H' k/\Q k H'
end
section
variable {H H':Hp}{p:Addr}{ks:List bV}{f:bV->V}{vs:List V}{v:V}{k:bV}
theorem E3:cw (ks.map fun k=>(k2 k,f k)) (k2 k)=if k∈ks then some (f k) else none:=by
 induction ks with
 |nil=>rfl
 |cons x r ih=>
  rw[Ph];by_cases h:x=k
  .rw[cY (by rw[h]),Pi (by rw[h];exact O5),h]
  .rw[cZ fun z=>h (jc _ _ z),ih];simp[Qn h]
theorem Js (hk:k∈ks):bU (ks.map fun k=>(k2 k,f k)) (k2 k) v=ks.map fun j=>(k2 j,BX f k v j):=by
 unfold bU;rw[Pi,QC]
 .refine Qa fun j _=>?_;show(if k2 j=k2 k then (k2 j,v) else (k2 j,f j))=_;by_cases e:j=k
  .rw[Pi (by rw[e]),e,kO]
  .rw[Pl fun z=>e (jc _ _ z),iV e]
 .rw[List.any_map,List.any_eq_true];exact⟨k,hk,O_ rfl⟩
def Pk (H:Hp)(w:V)(k:bV)(v:V):Prop:=∃ p b,v=.ref p/\H p=some (.tup [.ref b,w])/\H b=some (.tup ((k2 k).map kV))
theorem Pk.keep (kt:KT H H')(h:Pk H w k v):Pk H' w k v:=let ⟨p,b,e,e1,e2⟩:=h;⟨p,b,e,kt _ _ e1,kt _ _ e2⟩
theorem Aw (h:aO (fun k v=>Pk H (f k) k v) ks vs):k9 H vs (ks.map fun k=>(k2 k,f k)):=by
 induction h with
 |nil=>exact .nil
 |cons h _ ih=>obtain⟨p,b,e,t1,t2⟩:=h;exact .cons ⟨p,b,e,t1,t2⟩ ih
def LV:TE:=b8 (ao (av 0) (ao (tC (.bl true)) aG))
def NW (X:Cx)(scope:Scope)(tg elt:Expr)(tN:List Str):TS:=b6 (ii Ao (ao (oM X scope tg tN [] [] elt [] (cC X.K (av 0))) aG))
end
noncomputable def GC (Z:bV->List bV)(k:bV):Int:=((Z k).length:Nat)
structure KS where
 N:bV->Int
 ended:List bV
 F5:List bV
section
variable {X:Cx}{H H':Hp}{D:Ends}{σ:L2.St}
noncomputable def mM (X:Cx)(scope:Scope)(tg elt:Expr)(tN capN:List Str)(caps:List Nat)(ifs:List Expr)(i:Nat)(wi:TI):TS:=fun D σ H=>wi σ H (c_ X scope tg tN capN caps elt ifs σ fun Dl _ H'=>D.nx (σ.set i (some (.ref Dl))) H')
end
section
variable {ks:List bV}{Z:bV->List bV}
def ks0 (Z:bV->List bV)(ks:List bV):KS:=⟨GC Z,ks.filter fun k=>decide (GC Z k=0),ks.filter fun k=>decide (GC Z k=0)⟩
end
section
variable {X:Cx}{P:Tp}{w:World}{H:Hp}{s:Tn}{m m':Addr->Prop}
theorem jF {A:Ts}{l:List D}{vs ws:List V}{us us':List Tq}(f:∀ d∈l,∀ v w' u u',Is H m d v->Is H m' d w'->RelV v u->RelV w' u'->SeqAt.EqAt A s u u' true)(i1:IsAll H m l vs)(i2:IsAll H m' l ws)(r1:Vals vs us)(r2:Vals ws us') :
 us.length=us'.length/\∀ j (h1:j<us.toArray.size) (h2:j<us'.toArray.size),SeqAt.EqAt A s us.toArray[j] us'.toArray[j] true:=by
 have e1:=r1.length;have e2:=r2.length;have e3:=i1.length;have e4:=i2.length;refine⟨by lia,fun j h1 h2=>?_⟩;rw[O7]at h1 h2;have k:l[j]?=some (l[j]'(by lia)):=O1 _;obtain⟨v,ev,iv⟩:=i1.get k;obtain⟨v',ev',iv'⟩:=i2.get k;obtain⟨u,eu,ru⟩:=r1.get ev;obtain⟨u',eu',ru'⟩:=r2.get ev';rw[O1 h1]at eu;rw[O1 h2]at eu';cases eu;cases eu';exact f _ (SO _) v v' _ _ iv iv' ru ru'
theorem vR (n:Nat):(List.range n).all (fun _=>true)=true:=Rx.mpr fun _ _=>rfl
theorem sk {A:Ts}{a b:Addr}(h:SeqAt.RcAt A s (.ref a) (.ref b) true):SeqAt.EqAt A s (.ref a) (.ref b) true:=by
 by_cases e:a=b
 .rw[e];exact SeqAt.EqAt.same _
 .exact SeqAt.EqAt.of_refs e h
theorem vS (ok:HOk P w H s.heap)(n:Nat):∀(A:Ts){d:D}{v w':V}{u u':Tq},A.units+n<cLine->d.dep<=n->n<1000->Is H m d v->Is H m' d w'->RelV v u->RelV w' u'->SeqAt.EqAt A s u u' true:=by
 induction n with
 |zero=>
  intro A d v w' u u' hu hd hn h1 h2 r1 r2;cases d with
  |int i=>cases h1;cases h2;obtain⟨t,rfl⟩:=r1;obtain⟨t',rfl⟩:=r2;have:=SeqAt.EqAt.int_int (A:=A) (s:=s) i t i t';rwa [Ry]at this
  |str x=>cases h1;cases h2;obtain⟨t,rfl⟩:=r1;obtain⟨t',rfl⟩:=r2;have:=SeqAt.EqAt.str_str (A:=A) (s:=s) x t x t';rwa [Ry]at this
  |bJ=>cases h1;cases h2;cases r1;cases r2;exact .same _
  |bl b=>cases h1;cases h2;cases r1;cases r2;exact .same _
  |_=>simp only[D.dep]at hd;lia
 |succ n ih=>
  intro A d v w' u u' hu hd hn h1 h2 r1 r2;have f:∀ l:List D,D.cN l<=n->∀ d∈l,∀ v w' u u',Is H m d v->Is H m' d w'->RelV v u->RelV w' u'->SeqAt.EqAt A.in1 s u u' true:=fun l hl d hm v w' u u' i1 i2 r1 r2=>by obtain⟨j,hj⟩:=Pj.mp hm;exact ih A.in1 (by show A.units+1+n<cLine;lia) (Pu (fy hj) hl) (by lia) i1 i2 r1 r2
  cases d with
  |tup l=>obtain⟨a,vs,rfl,g,q⟩:=h1;obtain⟨a',vs',rfl,g',q'⟩:=h2;cases r1;cases r2;obtain⟨us,y,p⟩:=mz ok g;obtain⟨us',y',p'⟩:=mz ok g';obtain⟨e,z⟩:=jF (f l (by simp only[D.dep]at hd;lia)) q q' y y';have z:=SeqAt.RcAt.tuples p p' (by lia) z;rw[O7,O7,e,Ry,vR]at z;exact sk z
  |lst l=>obtain⟨a,vs,rfl,g,q⟩:=h1;obtain⟨a',vs',rfl,g',q'⟩:=h2;cases r1;cases r2;obtain⟨us,y,p⟩:=mr ok g;obtain⟨us',y',p'⟩:=mr ok g';obtain⟨e,z⟩:=jF (f l (by simp only[D.dep]at hd;lia)) q q' y y';have z:=SeqAt.RcAt.lists p p' (by rw[O7,O7,e]) (by lia) z;rw[vR]at z;exact sk z
  |nX k l=>simp only[D.dep]at hd;lia
  |_=>exact ih A (by lia) (Pq _) (by lia) h1 h2 r1 r2
def GD:R2:=fun x y H Q=>∃ l m m',Is H m (.tup l) x/\Is H m' (.tup l) y/\D.cN l<=49/\Q (.bl false) H
theorem Ax (hu:X.A.units+64<cLine):jk X (compareOp .NotEq) GD:=by intro ai s σ H x y v u Q I rx ry h;obtain⟨l,m,m',⟨a,vs,rfl,g,q⟩,⟨a',vs',rfl,g',q'⟩,hd,k⟩:=h;cases rx;cases ry;obtain⟨us,y,p⟩:=mz I.be g;obtain⟨us',y',p'⟩:=mz I.be g';obtain⟨e,z⟩:=jF (fun d hm v w' u u' i1 i2 r1 r2=>by obtain⟨j,hj⟩:=Pj.mp hm;exact vS I.be 49 X.A.in1 (by show X.A.units+1+49<cLine;lia) (Pu (fy hj) hd) (by lia) i1 i2 r1 r2) q q' y y';have z:=SeqAt.RcNeAt.tuples p p' (by lia) z;rw[O7,O7,e,Ry,vR]at z;exact z X.prog X.w X.xe _ ⟨.bl _,H,I,rfl,k⟩
end
section
variable {a:Addr}{h:bV}
theorem NY (x y:bV):j1 (pD x) (pD y)=decide (x=y):=by
 show(x.1==y.1&&(x.2==y.2&&true))=_;rw[Bool.and_true];by_cases e:x=y
 .rw[e,O_ rfl,BEq.rfl,BEq.rfl];rfl
 .rw[Pp e,Bool.and_eq_false_iff];by_cases e1:x.1=y.1
  .exact .inr (QU.mpr fun e2=>e (S5 e1 e2))
  .exact .inl (QU.mpr e1)
theorem kr (xs:List V)(j:Nat):cS xs (some (j:Nat)) none=xs.drop j:=by
 unfold cS;have h1:HT.sIx xs.length 0 (some ((j:Nat):Int))=min j xs.length:=HT.sIx_nat xs.length 0 j;have h2:HT.sIx xs.length xs.length none=xs.length:=rfl;rw[h1,h2];by_cases h:j<=xs.length
 .rw[Nat.min_eq_left h,Qh (by simp)]
 .rw[Nat.min_eq_right (by lia),List.drop_eq_nil_of_le (by lia),List.drop_eq_nil_of_le (by lia),List.take_nil]
theorem aO.drop {α β:Type}{R:α->β->Prop}{xs:List α}{ys:List β}(h:aO R xs ys):∀ j,aO R (xs.drop j) (ys.drop j):=by
 induction h with
 |nil=>intro j;rw[List.drop_nil,List.drop_nil];exact .nil
 |cons a t ih=>
  intro j;cases j with
  |zero=>exact .cons a t
  |succ j=>exact ih j
end
end L4
namespace L4
open PySem PySem.Spec PySem.Calls PyProof.Rows L2 L3 ST
section
variable {K:To}{H:Hp}{q p l:Addr}{σ:L2.St}
theorem Reads.OC (ha:Reads ta σ H (.ref p))(hb:Reads tb σ H (.int i))(h:H p=some (.lst xs))(e:tz xs i=some v):Reads (aX (e9 K) ta tb) σ H v:=ha.op hb fun _ q=>⟨p,xs,i,v,rfl,rfl,SqL.of h,e,q⟩
theorem mP (l:List V)(v:V):tz (l++[v]) (-1)=some v:=by
 unfold tz EE;rw[Pl (by lia),Pi (by simp;lia)];have:((-1:Int)+((l++[v]).length:Nat)).toNat=l.length:=by simp;lia
 show(l++[v])[((-1:Int)+((l++[v]).length:Nat)).toNat]?=some v;rw[this];simp
end
end L4
namespace L4
open PySem PySem.Spec PyProof.Rows L2 L3
structure E9 (ro sg:Int) (r:Sp.Rule):Prop where
 a:0<=r.1/\r.1<ro
 s:0<=r.2.1/\r.2.1<sg
 t:0<=r.2.2.1/\r.2.2.1<ro
 p:r.2.2.2.length<=2
 q:∀ x∈r.2.2.2,0<=x/\x<sg
def Jt (K:To):V->Option Int->Option Int->Hp->VK->Prop:=fun x lo hi H Q=>∃ a xs,x=.ref a/\SqT K H a xs/\(HT.sIx xs.length 0 lo=0->HT.sIx xs.length xs.length hi=xs.length->Q x H)/\∀ p,H p=none->Q (.ref p) (upd H p (.tup (cS xs lo hi)))
section
variable {K:To}{H H':Hp}{D:Ends}{σ:L2.St}{vs:List V}{Q:VK}{E:XK}{ro sg:Int}
theorem DJ:Ii X (Jt X.K):=by
 intro ai s σ H x v vl vu lo hi sl Q I rx hs pl pu h;obtain⟨a,xs,e,hx,h1,h2⟩:=h;by_cases w:HT.sIx xs.length 0 lo=0/\HT.sIx xs.length xs.length hi=xs.length
 .exact Dg ai s σ H x v vl vu lo hi sl Q I rx hs pl pu ⟨a,xs,e,hx,w,h1 w.1 w.2⟩
 .exact FH ai s σ H x v vl vu lo hi sl Q I rx hs pl pu ⟨a,xs,e,hx,w,h2⟩
theorem em {a b:Int}(h:0<b):0<=a % b/\a % b<b:=⟨Int.emod_nonneg _ (by lia),Int.emod_lt_of_pos _ h⟩
theorem Reads.mod (ha:Reads ta σ H (.int i))(hb:Reads tb σ H (.int j))(h:0<j):Reads (aX bP ta tb) σ H (.int (i % j)):=ha.op hb fun _ q=>⟨_,_,rfl,rfl,h,q⟩
theorem Reads.dv (ha:Reads ta σ H (.int i))(hb:Reads tb σ H (.int j))(h:0<j/\j<1073741824):Reads (aX dj ta tb) σ H (.int (i / j)):=ha.op hb fun _ q=>⟨_,_,rfl,rfl,h,q⟩
def fB:R2:=rI CMul fun i j=>.int (i*j)
theorem Reads.mul (ha:Reads ta σ H (.int i))(hb:Reads tb σ H (.int j))(h:-(2 ^ 64)<j/\j<2 ^ 64):Reads (aX fB ta tb) σ H (.int (i*j)):=ha.op hb fun _ q=>⟨_,_,rfl,rfl,.inr h,q⟩
theorem Reads.ad (ha:Reads ta σ H (.int i))(hb:Reads tb σ H (.int j)):Reads (aX b_ ta tb) σ H (.int (i+j)):=ha.op hb fun _ q=>⟨_,_,rfl,rfl,q⟩
theorem cE (h:Reads t σ H v)(k:D.nx (σ.set i (some v)) H):bc t (aE i) D σ H:=h _ k
theorem Ju (h:te σ H fun x H1=>tl σ H1 fun l H2=>th σ H2 fun u H3=>r x l u H3 Q):yY r te tl th σ H Q:=h
theorem Jv {Q:List V->Hp->Prop}(h:te σ H fun v H1=>tr σ H1 fun vs H2=>Q (v::vs) H2):ao te tr σ H Q:=h
inductive BA:Sp
 |mk {H:Hp} {c ro sg:Int} {b:Bool} {Q:VK} {E:XK} (h1:0<ro/\ro<1073741824) (h2:0<sg/\sg<1073741824) (k:∀ p r H',Same H H'->IsRule H' r (.ref p)->E9 ro sg r->Q (.ref p) H'):BA [.int c,.int ro,.int sg,.bl b] H Q E
theorem Ay (h:BA vs H Q E):vs.length=4:=by cases h;rfl
def Nb (te:TE):TS:=b6 (b8 (ao (av 4) (ao (av 5) (ao (av 6) (ao te aG)))))
def LW (K:To):TS:=Nb (yY (Jt K) (b8 (ao (aX bP (av 0) (av 8)) (ao (aX bP (aX dj (av 0) (av 8)) (av 8)) aG))) gf (gR (av 7)))
def Jw (K:To):TS:=aP (cI (bp (aX n_ (av 8) (tC (.int 0)))) (Nb (b8 aG)) bY) (LW K)
def LX (K:To):TS:=aP (cI (GB K (av 3)) (bc (av 5) (aE 8)) bY) (Jw K)
def KZ (i j:Nat):TE:=aX bP (av i) (av j)
def K1 (i j:Nat):TE:=aX dj (av i) (av j)
def LY (K:To)(md:Int):TS:=aP (bc (aX bP (av 0) (tC (.int md))) (aE 7)) (aP (bc (aX dj (av 0) (tC (.int md))) (aE 0)) (aP (bc (av 2) (aE 8)) (LX K)))
def NZ (K:To)(md:Int):TS:=aP (bc (KZ 0 1) (aE 4)) (aP (bc (K1 0 1) (aE 0)) (aP (bc (KZ 0 2) (aE 5)) (aP (bc (K1 0 2) (aE 0)) (aP (bc (KZ 0 1) (aE 6)) (aP (bc (K1 0 1) (aE 0)) (LY K md))))))
theorem Nc {n a s t z w:Int}(ha:0<=a/\a<ro)(hs:0<=s/\s<sg)(ht:0<=t/\t<ro)(hw:0<=w/\w<=sg)(h2:sg<1073741824)(k:∀ p r H',Same H H'->IsRule H' r (.ref p)->E9 ro sg r->Q (.ref p) H'):Jw K (eQ Q) [some (.int n),some (.int ro),some (.int sg),some b,some (.int a),some (.int s),some (.int t),some (.int z),some (.int w)] H:=by
 have fin:∀{H1:Hp}{q:Addr}{put:List Int},Same H H1->H1 q=some (.tup (put.map .int))->put.length<=2->(∀ x∈put,0<=x/\x<sg)->∀ p,H1 p=none->Q (.ref p) (upd H1 p (.tup [.int a,.int s,.int t,.ref q])):=fun{H1 q put} s1 hq h3 h4 p hp=>k p (a,s,t,put) _ (s1.trans (az hp)) ⟨p,q,rfl,aj,az hp _ _ hq⟩ ⟨ha,hs,ht,h3,h4⟩;refine g9 (.B8 (.va rfl) .k) (fun c=>?_) fun c=>?_
 .refine⟨_,rfl,_,rfl,_,rfl,Pq _,fun q hq=>⟨by show 4<=_;rw[Pn];lia,fin (put:=[]) (az hq) aj (Pq _) fun _ h=>nomatch h⟩⟩
 .have w0:0<w:=by have:¬ w=0:=fun z=>c (O_ z);lia
  have m1:=em (a:=n) w0;have m2:=em (a:=n / w) w0;have rd:ReadsA (ao (KZ 0 8) (ao (aX bP (K1 0 8) (av 8)) aG)) [some (.int n),some (.int ro),some (.int sg),some b,some (.int a),some (.int s),some (.int t),some (.int z),some (.int w)] H [.int (n % w),.int (n / w % w)]:=.c (.mod (.va rfl) (.va rfl) w0) (.c (.mod (.dv (.va rfl) (.va rfl) ⟨w0,by lia⟩) (.va rfl) w0) .ni);refine⟨_,rfl,_,rfl,_,rfl,Jv (Ju (gr rd rfl fun q hq=>?_))⟩;have s1:=az (o:=.tup [.int (n % w),.int (n / w % w)]) hq;have hq1:upd H q (.tup [.int (n % w),.int (n / w % w)]) q=some (.tup ([n % w,n / w % w].map .int)):=aj;generalize upd H q (.tup [.int (n % w),.int (n / w % w)])=H1 at s1 hq1;have mem:∀ x∈[n % w,n / w % w],0<=x/\x<sg:=fun x hx=>by
   rcases O8.mp hx with e|e
   .rw[e];lia
   .rw[O9.mp e];lia
  refine⟨_,rfl,_,rfl,q,_,rfl,SqT.of hq1,fun _ _=>⟨by show 4<=_;rw[Pn];lia,fin s1 hq1 (O0 _) mem⟩,fun q2 hq2=>⟨by show 4<=_;rw[Pn];lia,fin (put:=([n % w,n / w % w].drop (HT.sIx 2 0 none)).take (HT.sIx 2 2 (some z)-HT.sIx 2 0 none)) (s1.trans (az hq2)) ?_ ?_ fun x hx=>mem x (RX (QB hx))⟩⟩
  .rw[aj];unfold cS;rw[List.map_take,List.map_drop];rfl
  .rw[Qi,Q0];simp;lia
theorem DM {md:Int}(hmd:0<md/\md<1073741824)(h:BA vs H Q E):NZ K md (eQ Q) (bh (nS 9) vs) H:=by
 obtain @⟨H,c,ro,sg,b,Q,E,h1,h2,k⟩:=h;refine cE (.mod (.va rfl) (.va rfl) h1.1) (cE (.dv (.va rfl) (.va rfl) h1) (cE (.mod (.va rfl) (.va rfl) h2.1) (cE (.dv (.va rfl) (.va rfl) h2) (cE (.mod (.va rfl) (.va rfl) h1.1) (cE (.dv (.va rfl) (.va rfl) h1) (cE (.mod (.va rfl) .k hmd.1) (cE (.dv (.va rfl) .k hmd) (cE (.va rfl) ?_))))))));refine⟨_,rfl,b,rfl,?_⟩;have hs:=em (a:=c / ro) h2.1;cases b with
 |true=>exact cJ (cE (.va rfl) (Nc (em h1.1) hs (em h1.1) (by lia) h2.2 k))
 |false=>exact cf (Nc (em h1.1) hs (em h1.1) (by lia) h2.2 k)
end
section
variable {K:To}{mg:Str->Option Tq}{Fm Fc:iH}{H H':Hp}{D:Ends}{σ:L2.St}{vs ws:List V}{Q:VK}{E:XK}{ro sg many:Int}{RL:List Sp.Rule}
structure EA (B H:Hp) (l:Addr) (ro sg:Int) (n:Nat) (RL:List Sp.Rule):Prop where
 s:Same B H
 l:∃ ws,H l=some (.lst ws)/\aO (IsRule H) RL ws
 a:∀ r∈RL,E9 ro sg r
 n:RL.length<=n
theorem EA.up {l:Addr}{n m:Nat}(h:EA B H l ro sg n RL)(hm:n<=m):EA B H l ro sg m RL:=⟨h.s,h.l,h.a,Pu h.n hm⟩
def GE (K:To) (tn tb:TE):TS:=cg (tD K "list" cB (av 6) (ao (br BA [] E0 (ao tn (ao (av 1) (ao (av 2) (ao tb aG))))) aG))
theorem Nd (A:EA B H l ro sg n RL)(nl:B l=none)(hz:n<1000)(h1:0<ro/\ro<1073741824)(h2:0<sg/\sg<1073741824)(e6:σ[6]?=some (some (.ref l)))(e1:σ[1]?=some (some (.int ro)))(e2:σ[2]?=some (some (.int sg)))(hn:Reads tn σ H (.int i))(hb:Reads tb σ H (.bl b))(k:∀ H' r,Kp l H H'->EA B H' l ro sg (n+1) (RL++[r])->D.nx σ H'):GE K tn tb D σ H:=by
 obtain⟨s,⟨ws,hl,al⟩,a,hn'⟩:=A;refine⟨_,e6,.inl ⟨rfl,_,SqL.of hl⟩,hn _ ⟨_,e1,_,e2,hb _ (.mk h1 h2 fun p r H1 s1 ir rr=>?_)⟩⟩;have kt:KT H1 (upd H1 l (.lst (ws++[.ref p]))):=.upd (s1 _ _ hl) fun _ z=>(nomatch z);refine⟨l,ws,_,rfl,rfl,s1 _ _ hl,oS (by rw[<- al.len];lia),k _ r (fun c u e n=>by rw[aA n];exact s1 _ _ e) ⟨fun c u e=>?_,⟨_,aj,(al.mono (IsRule.keep ((KT.of s1).trans kt))).snoc (IsRule.keep kt _ _ ir)⟩,fun x hx=>?_,by rw[O6,PQ];lia⟩⟩
 .rw[aA fun z=>by rw[z,nl]at e;cases e];exact s1 _ _ (s _ _ e)
 .rcases Pf.mp hx with hx|hx
  .exact a x hx
  .rw[O9.mp hx];exact rr
inductive BL (Fm Fc:iH):Sp
 |mk {H:Hp} {v0:V} {sc:List Int} {ro sg many x0 x1 y0:Int} {Q:VK} {E:XK} (is:Is H Tr (.lst (sc.map .int)) v0) (h1:0<ro/\ro<=8) (h2:0<sg/\sg<=14) (h3:ro*sg<=28) (hm:0<=many/\many<=12) (c0:Fc [.lst (sc.map .int),.int 0]=.ok (.val (.int x0) true [])) (m0:Fm [.int x0]=.ok (.val (.int y0) true [])) (c1:Fc [.lst (sc.map .int),.int 1]=.ok (.val (.int x1) true [])) (k:∀ l ws RL H',Same H H'->H l=none->H' l=some (.lst ws)->aO (IsRule H') RL ws->(∀ r∈RL,E9 ro sg r)->(RL.length:Int)<=ro*sg+12->Q (.ref l) H'):BL Fm Fc [v0,.int ro,.int sg,.int many] H Q E
theorem Az (h:BL Fm Fc vs H Q E):vs.length=4:=by cases h;rfl
def Jx (tk:TE):TE:=H_ (aX n_ (av 4) (tC (.int 0))) (n9 tk (aX Dw (aX bP (av 8) (tC (.int 5))) (tC (.int 2))))
def LZ (K:To)(tk:TE):TS:=aP (bc (Jx tk) (aE 9)) (GE K (aX bP (aX fB (aX b_ (aX bP (av 8) (tC (.int 2147483647))) (tC (.int 5))) (tC (.int 69621))) (tC (.int 2147483647))) (yG (av 9)))
def L0 (K:To):TS:=aP (bc (aX bP (aX b_ (aX b_ (aX fB (av 5) (av 5)) (aX fB (tC (.int 48271)) (av 5))) (av 7)) (tC (.int 2147483647))) (aE 5)) (cI (bp (aX Dw (aX bP (av 5) (tC (.int 4))) (tC (.int 3)))) (GE K (aX b_ (aX fB (aX fB (aX dj (av 5) (tC (.int 4))) (av 1)) (av 2)) (av 7)) (aX I0 (av 4) (tC (.int 0)))) bY)
def Jy (K:To)(tk:TE):TS:=aP (eV (qI (ao (aX fB (av 1) (av 2)) aG)) (aE 7) (L0 K)) (aP (eV (cC K (yY (o7 K) (av 0) (gR (tC (.int 4))) (gR (aX b_ (tC (.int 4)) (av 3))))) (aE 8) (LZ K tk)) (b6 (av 6)))
def N0 (K:To)(mg:Str->Option Tq)(Fm Fc:iH)(md:Int)(tk:TE):TS:=aP (bc (aX bP (aX dj (Ar mg Fm Fc 0) (tC (.int 12))) (tC (.int md))) (aE 4)) (aP (bc (aX b_ (aX bP (br (pH mg 2 Fc) [] E0 (ao (av 0) (ao (tC (.int 1)) aG))) (tC (.int 2147483647))) (tC (.int 48271))) (aE 5)) (aP (bc (cW aG) (aE 6)) (Jy K tk)))
noncomputable def sq (v0:V)(ro sg many kind num:Int)(l:Addr)(x7 x8 x9:Option V):L2.St:=[some v0,some (.int ro),some (.int sg),some (.int many),some (.int kind),some (.int num),some (.ref l),x7,x8,x9]
def L1 (tk:TE):Prop:=∀ v0 ro sg many kind num l x7 c x9 H,∃ b,Reads tk (sq v0 ro sg many kind num l x7 (some (.int c)) x9) H (.bl b)
theorem L5:L1 (aX n_ (av 4) (tC (.int 3))):=fun _ _ _ _ _ _ _ _ _ _ _=>⟨_,.B8 (.va rfl) .k⟩
theorem Reads.OE {x7 x9:Option V}(hk:L1 tk):∃ b,Reads (Jx tk) (sq v0 ro sg many kind num l x7 (some (.int c)) x9) H (.bl b):=by
 have r0:Reads (aX n_ (av 4) (tC (.int 0))) (sq v0 ro sg many kind num l x7 (some (.int c)) x9) H (.bl (decide (kind=0))):=.B8 (.va rfl) .k;obtain⟨k,r3⟩:=hk v0 ro sg many kind num l x7 c x9 H;have r5:Reads (aX Dw (aX bP (av 8) (tC (.int 5))) (tC (.int 2))) (sq v0 ro sg many kind num l x7 (some (.int c)) x9) H (.bl (decide (c % 5<2))):=Reads.op (.mod (.va rfl) .k (by decide)) .k fun _ q=>⟨_,_,rfl,rfl,q⟩;by_cases h0:kind=0
 .exact⟨true,fun Q q=>r0 _ ⟨_,rfl,by rw[O_ h0];exact cJ q⟩⟩
 .cases k with
  |true=>exact⟨_,fun Q q=>r0 _ ⟨_,rfl,by rw[Pp h0];exact cf (r3 _ ⟨_,rfl,cJ (r5 _ q)⟩)⟩⟩
  |false=>exact⟨false,fun Q q=>r0 _ ⟨_,rfl,by rw[Pp h0];exact cf (r3 _ ⟨_,rfl,cf q⟩)⟩⟩
theorem AA (xs:List V)(a b:Int)(ha:0<=a)(hb:0<=b):(cS xs (some a) (some (a+b))).length<=b.toNat:=by
 unfold cS;rw[Qi,Q0];have e1:HT.sIx xs.length 0 (some a)=min a.toNat xs.length:=by have:=HT.sIx_nat xs.length 0 a.toNat;rw[Se ha]at this;exact this
 have e2:HT.sIx xs.length xs.length (some (a+b))=min (a+b).toNat xs.length:=by have:=HT.sIx_nat xs.length xs.length (a+b).toNat;rw[Se (by lia)]at this;exact this
 rw[e1,e2];refine Pu (Nat.min_le_left _ _) ?_;rw[Int.toNat_add ha hb];exact Nat.sub_le_of_le_add ((Nat.le_total xs.length a.toNat).elim (fun h=>Pu (Nat.min_le_right _ _) (by rw[Nat.min_eq_right h];exact Nat.le_add_left _ _)) fun h=>Pu (Nat.min_le_left _ _) (by rw[Nat.min_eq_left h,S7];exact O0 _))
theorem DN {md:Int}{tk:TE}(hmd:0<md)(hk:L1 tk)(h:BL Fm Fc vs H Q E):N0 K mg Fm Fc md tk (eQ Q) (bh (nS 10) vs) H:=by
 obtain @⟨H,v0,sc,ro,sg,many,x0,x1,y0,Q,E,is,h1,h2,h3,hm,c0,m0,c1,k⟩:=h;have hp:0<ro*sg:=Int.mul_pos h1.1 h2.1;have r1:0<ro/\ro<1073741824:=⟨h1.1,by lia⟩;have r2:0<sg/\sg<1073741824:=⟨h2.1,by lia⟩;refine p9 (sd:=.lst (sc.map .int)) rfl is c0 m0 fun H1 t1=>⟨_,_,rfl,rfl,⟨by decide,by decide⟩,_,_,rfl,rfl,hmd,?_⟩;refine⟨_,rfl,Aq (ds:=[.lst (sc.map .int),.int 1]) rfl ⟨_,_,rfl,DI is t1,_,_,rfl,rfl,rfl⟩ c1 fun v H2 t2 e=>?_⟩;obtain rfl:v=.int x1:=e;refine⟨_,_,rfl,rfl,(by show(0:Int)<2147483647;decide),_,_,rfl,rfl,Pq _,fun l hl=>?_⟩;have s2:=t1.trans t2;have nl:H l=none:=s2.free hl;have A0:EA H (upd H2 l (.lst [])) l ro sg 0 []:=⟨s2.trans (az hl),⟨[],aj,.nil⟩,(fun _ h=>nomatch h),O0 _⟩;generalize upd H2 l (.lst [])=H3 at A0;show Jy K tk _ (sq v0 ro sg many (y0 / 12 % md) (x1 % 2147483647+48271) l none none none) H3;have b1:=em (a:=x1) (b:=2147483647) (by decide);refine Reads.mul (.va rfl) (.va rfl) ⟨by lia,by lia⟩ _ ⟨_,rfl,by lia,by lia,?_⟩;refine km (n:=(ro*sg).toNat) (fun i σ' H'=>∃ num RL x7,σ'=sq v0 ro sg many (y0 / 12 % md) num l x7 none none/\EA H H' l ro sg i RL/\0<=num/\num<4294967296) ⟨_,[],none,rfl,A0,by lia,by lia⟩ (fun i σ' H' p hi=>hi) (fun σ' H' p=>O0 _) (fun i σ' H' x H'' D' hi p y k'=>?_) fun σ' H' p=>?_
 .obtain⟨num,RL,x7,rfl,A,n0,n1⟩:=p;obtain⟨rfl,rfl⟩:=y;rw[Si];have b2:=em (a:=num*num+48271*num+(i:Nat)) (b:=2147483647) (by decide);refine cE (.mod (.ad (.ad (.mul (.va rfl) (.va rfl) ⟨by lia,by lia⟩) (.mul .k (.va rfl) ⟨by lia,by lia⟩)) (.va (v:=.int (i:Nat)) rfl)) .k (by decide)) ?_;generalize (num*num+48271*num+(i:Nat)) % 2147483647=nm at b2;refine g9 (te:=aX Dw (aX bP (av 5) (tC (.int 4))) (tC (.int 3))) (c:=decide (nm % 4<3)) (Reads.op (.mod (.va rfl) .k (by decide)) .k fun _ q=>⟨_,_,rfl,rfl,q⟩) (fun _=>?_) fun _=>k' _ _ ⟨nm,RL,_,rfl,A.up (Te _),by lia,by lia⟩;exact Nd (i:=nm / 4*ro*sg+(i:Nat)) A nl (by lia) r1 r2 rfl rfl rfl (.ad (.mul (.mul (.dv (.va rfl) .k ⟨by decide,by decide⟩) (.va rfl) ⟨by lia,by lia⟩) (.va rfl) ⟨by lia,by lia⟩) (.va rfl)) (Reads.op (z:=.bl (decide (0<y0 / 12 % md))) (.va rfl) .k fun _ q=>⟨_,_,rfl,rfl,q⟩) fun H5 r _ A5=>k' _ _ ⟨nm,_,_,rfl,A5,by lia,by lia⟩
 .obtain⟨num,RL,x7,rfl,A,n0,n1⟩:=p;obtain⟨la,wa,e0,hla,ia⟩:=vQ (DI is A.s);refine⟨_,rfl,_,rfl,_,rfl,_,_,rfl,rfl,_,rfl,la,wa,e0,.inl hla,fun lc hlc=>?_⟩;have t9:=az (o:=.lst (cS wa (some 4) (some (4+many)))) hlc;have hc9:upd H' lc (.lst (cS wa (some 4) (some (4+many)))) lc=some (.lst (cS wa (some 4) (some (4+many)))):=aj;have jf:=AA wa 4 many (by decide) hm.1;have ncl:lc≠l:=fun z=>by obtain⟨ws,e,_⟩:=A.l;rw[<- z,hlc]at e;cases e
  have A9:EA H (upd H' lc (.lst (cS wa (some 4) (some (4+many))))) l ro sg (ro*sg).toNat RL:=⟨A.s.trans t9,let ⟨ws,e,al⟩:=A.l;⟨ws,t9 _ _ e,al.mono (IsRule.keep (.of t9))⟩,A.a,A.n⟩;have ic:=NU (ia.cut (some 4) (some (4+many))) t9;generalize upd H' lc (.lst (cS wa (some 4) (some (4+many))))=H9 at hc9 A9 ic;have ec:wZ (sc.map L3.D.int) (some 4) (some (4+many))=(wZ sc (some 4) (some (4+many))).map L3.D.int:=by unfold wZ;rw[O2,List.map_take,List.map_drop]
  rw[ec]at ic;have ei:=pX ic;rw[ei]at hc9 jf;generalize wZ sc (some 4) (some (4+many))=cs at hc9 jf;have hn:=A.n;refine⟨lc,rfl,⟨_,SqL.of hc9⟩,eY (K:=K) (a:=lc) (xs:=cs.map .int) (fun i σ' H'=>∃ RL x8 x9,σ'=sq v0 ro sg many (y0 / 12 % md) num l x7 x8 x9/\EA H H' l ro sg ((ro*sg).toNat+i) RL/\H' lc=some (.lst (cs.map .int))) ⟨RL,none,none,rfl,A9,hc9⟩ (fun i σ' H' _ ⟨_,_,_,_,_,h⟩=>SqL.of h) (fun i v σ' H' hi ⟨RL,x8,x9,e8,A,hc⟩=>?_) fun σ' H' ⟨RL,x8,x9,e8,A,hc⟩=>?_⟩
  .subst e8;rw[Pe]at hi;obtain⟨c,ec,rfl⟩:=PU.mp hi;have il:=(O3.mp ec).1;rw[O2]at jf;obtain⟨b,rb⟩:=Reads.OE hk (H:=H') (ro:=ro) (sg:=sg) (many:=many) (kind:=y0 / 12 % md) (c:=c) (v0:=v0) (num:=num) (l:=l) (x7:=x7) (x9:=x9);refine rb _ ?_;refine Nd (σ:=sq v0 ro sg many (y0 / 12 % md) num l x7 (some (.int c)) (some (.bl b))) A nl (by lia) r1 r2 rfl rfl rfl (.mod (.mul (.ad (.mod (.va rfl) .k (by decide)) .k) .k ⟨by decide,by decide⟩) .k (by decide)) (fun Q q=>⟨_,rfl,_,rfl,q⟩) fun H5 r kp A5=>⟨_,_,_,rfl,A5,kp _ _ hc ncl⟩
  .subst e8;obtain⟨ws,e,al⟩:=A.l;have h5:=A.n;rw[O2]at jf h5;exact⟨_,rfl,k l ws RL H' A.s nl e al A.a (by lia)⟩
end
def Jz (RL:List Sp.Rule)(x y:Rw):Prop:=∃ r∈RL,∃ w,x=(r.1,r.2.1::w)/\y=(r.2.2.1,r.2.2.2++w)
def E4 (RL:List Sp.Rule)(RW:List Rw):Prop:=∀(k:Nat) x y,RW[k]?=some x->RW[k+1]?=some y->Jz RL x y
theorem AB (h:E4 RL (RW++[x]))(hs:Jz RL x y):E4 RL (RW++[x]++[y]):=by
 intro k a b ha hb;have hk:k+1<(RW++[x]++[y]).length:=(O3.mp hb).1;simp only[O6,PQ]at hk;by_cases hk2:k+1<(RW++[x]).length
 .rw[Qf (by lia)]at ha;rw[Qf hk2]at hb;exact h k a b ha hb
 .simp only[O6,PQ]at hk2;obtain rfl:k=RW.length:=by lia
  simp at ha hb;subst ha;subst hb;exact hs
theorem vT (hp:∀ r∈RL,r.2.2.2.length<=2)(h:Jz RL x y):y.2.length<=x.2.length+1/\x.2.length<=y.2.length+1/\x.2≠[]:=by obtain⟨r,hr,w,rfl,rfl⟩:=h;have:=hp r hr;refine⟨?_,?_,fun z=>nomatch z⟩<;>simp<;>lia
def IsRw (r:Addr)(H:Hp)(x:Rw)(v:V):Prop:=∃ p l,v=.ref p/\H p=some (.tup [.int x.1,.ref l])/\l≠r/\Rd H l (.lst (x.2.map .int))
section
variable {X:Cx}{K:To}{H H':Hp}{r:Addr}{σ:L2.St}{ws:List V}{RL:List Sp.Rule}
theorem IsRw.kp (h:IsRw r H x v)(k:Kp r H H')(kt:KT H H'):IsRw r H' x v:=let ⟨p,l,e,e1,n,e2⟩:=h;⟨p,l,e,kt _ _ e1,n,e2.imp (fun e=>k _ _ e n) fun⟨o,e⟩=>⟨o,k _ _ e n⟩⟩
def JA (K:To):TT:=Fu (bp (aX n_ (tI K 0 0) (av 1))) (bp (aX n_ (tI K 0 1) (aX (e9 K) (av 2) (tC (.int 0)))))
theorem DO {Fin:Addr->List V->Hp->Prop}(h1:tN.length=1)(hcap:jB σ caps=[some (.int room),some (.ref sl)])(hg:∀ cl C s3 H3 fp,PG (bH X scope (tN++capN) cl C s3 H3 fp) tg (aE 0))(ht:∀ cl C s3 H3 fp,BV (bH X scope (tN++capN) cl C s3 H3 fp) ifs (JA X.K))(he:∀ cl C s3 H3 fp,PE (bH X scope (tN++capN) cl C s3 H3 fp) elt (av 0))
 (hl:Rd H1 l (.lst ws)) (al:aO (IsRule H1) RL ws) (hs:Rd H1 sl (.lst ((s::w).map .int))) (hz:RL.length<1000) (k:∀ Dl acc H',Same H1 H'->H1 Dl=none->H' Dl=some (.lst acc)->aO (IsRule H') (RL.filter fun r=>r.1==room&&r.2.1==s) acc->Fin Dl acc H'):c_ X scope tg tN capN caps elt ifs σ Fin (Cv X.K l) H1:=by
 have ln:=al.len;refine je (n:=RL.length) hg ht he (fun Dl i acc H'=>Same H1 H'/\H' Dl=some (.lst acc)/\aO (IsRule H') ((RL.take i).filter fun r=>r.1==room&&r.2.1==s) acc/\H1 Dl=none) (fun Dl hD=>⟨az hD,aj,.nil,hD⟩) (fun h=>h.2.1) (fun Dl i acc H' ⟨sm,_⟩ hi=>⟨ws,ws[i]'(by lia),.inl (aK sm hl),O1 _⟩) (fun Dl acc H' ⟨sm,_⟩=>⟨ws,.inl (aK sm hl),by lia⟩) (fun Dl i acc H' xv H'' ol hi ⟨sm,hD,a2,nD⟩ y hol=>?_) fun Dl acc H' hD ⟨sm,hD',a2,_⟩=>k Dl acc H' sm hD hD' (by rw[Qx]at a2;exact a2);obtain⟨rfl,y⟩:=y;obtain⟨r,hr,ir⟩:=al.get (y _ (.inl (aK sm hl)));have ir:=IsRule.keep (.of sm) _ _ ir;obtain⟨b,q,rfl,hb,hq⟩:=id ir;rw[h1]at hol;obtain⟨u0,rfl⟩:=QD.mp hol;rw[hcap];have et:RL.take (i+1)=RL.take i++[r]:=by rw[PV,hr];rfl
 have lt:=RY i RL;have no:(r.1==room&&r.2.1==s)=false->Same H1 H''/\H'' Dl=some (.lst acc)/\aO (IsRule H'') ((RL.take (i+1)).filter fun r=>r.1==room&&r.2.1==s) acc/\H1 Dl=none:=fun c=>⟨sm,hD,by rw[et,Qu,R_,Pl (by rw[c];decide),List.filter_nil,Rm];exact a2,nD⟩;refine⟨fun j hj=>?_,Reads.B8 (.ix (.va rfl) hb (v:=.int r.1) rfl) (.va (v:=.int room) rfl) _ ⟨_,rfl,wC (fun c1=>?_) fun c1=>cf (no ?_)⟩⟩
 .rw[h1]at hj;obtain⟨j,rfl⟩:=Qb hj;rfl
 .have c1:=PD c1;refine Reads.B8 (.ix (.va rfl) hb (v:=.int r.2.1) rfl) (Reads.op (z:=.int s) (.va rfl) .k fun _ q=>⟨sl,_,0,_,rfl,rfl,.inl (aK sm hs),fq (j:=0) rfl,q⟩) _ ⟨_,rfl,wC (fun c2=>?_) fun c2=>no ?_⟩
  .have c2:=PD c2;have kt:KT H'' (upd H'' Dl (.lst (acc++[.ref b]))):=.upd hD fun _ z=>(nomatch z);refine⟨_,rfl,hD,oS (by rw[<- a2.len];exact Qe (QJ _ _) (by lia)),fun c u e=>?_,aj,?_,nD⟩
   .rw[aA (aB e nD)];exact sm _ _ e
   .rw[et,Qu,R_,Pi (by rw[c1,c2,BEq.rfl,BEq.rfl];rfl)];exact(a2.mono (IsRule.keep kt)).snoc (IsRule.keep kt _ _ ir)
  .rw[QU.mpr fun z=>c2 (O_ z),RZ]
 .rw[QU.mpr fun z=>c1 (O_ z),SG]
def nK (K:To)(i:Nat):TE:=ii (g_ K) (ao (av i) aG)
end
theorem jG (hc:X.calm=true)(S:cH X scope tN capN caps)(hN:X.N.Nodup)(hi':X.N[i]?=some y)(hy:X.env.scope.names.lookup y=some .local)(hi:PI X tg iter wi)
 (hsw:autoParam (swapsWith (.ListComp elt [⟨tg,iter,ifs,0⟩] scope pos) (some (.Name y py)) spos.line X.env=pure true) TB._auto_1) (hs:autoParam (∀ x,foldedSetIterable iter X.env x=pure x) Tw._auto_1):PS X (.Assign [.Name y py] (.ListComp elt [⟨tg,iter,ifs,0⟩] scope pos) spos) (mM X scope tg elt tN capN caps ifs i wi):=fun ai s σ H D I h=>zV hc S hN hi' hy hsw I hi h hs
structure OR where
 (Fr Fm Fc:iH)
section
variable {H:Hp}{p d:Addr}{rooms signs:Int}{stk:List Int}{D:Ends}
theorem xT (rooms signs:Int)(RL:List Sp.Rule):(kq rooms signs RL).dep<=50:=by
 have:L3.D.cN (RL.map dU)<=4:=iB fun d hd=>by
  obtain⟨x,_,rfl⟩:=Pb.mp hd;have:L3.D.cN (x.2.2.2.map L3.D.int)<=1:=iB fun d hd=>by obtain⟨y,_,rfl⟩:=Pb.mp hd;exact Pq _
  show max 0 (max 0 (max 0 (max (L3.D.cN (x.2.2.2.map L3.D.int)+1) 0)))+1<=4;lia
 show max 0 (max 0 (max (L3.D.cN (RL.map dU)+1) 0))+1<=50;lia
structure Ey (H:Hp) (room:Int) (stk:List Int) (p l:Addr):Prop where
 t:H p=some (.tup [.int room,.ref l])
 l:Rd H l (.lst (stk.map .int))
theorem Ey.is {l:Addr}(h:Ey H room stk p l):Is H Tr (.tup [.int room,.lst (stk.map .int)]) (.ref p):=⟨p,_,rfl,h.t,_,_,rfl,rfl,_,_,rfl,⟨l,_,rfl,h.l.imp (fun e=>⟨e,True.intro⟩) (fun⟨o,e⟩=>⟨o,e,True.intro⟩),i9 _⟩,rfl⟩
end
section
variable {X:Cx}
noncomputable def JB:TS:=fun _ _ _=>False
theorem GF:PSs X b JB:=fun _ _ _ _ _ _ h=>h.elim
end
def GG (ds:List L3.D)(x:Int):Prop:=∃ l,∃ k:Nat,ds=[.lst l,.int k]/\(l[k]?).getD (.int 0)=.int x
noncomputable def DP (ds:List L3.D):Res R:=@dite _ (∃ x,GG ds x) (Classical.propDecidable _) (fun h=>.ok (.val (.int h.choose) true [])) fun _=>.stuck
noncomputable def DQ (ds:List L3.D):Res R:=@dite _ (∃ c,ds=[.int c]) (Classical.propDecidable _) (fun h=>.ok (.val (.int ((h.choose % 2147483647+11)*48271 % 2147483647)) true [])) fun _=>.stuck
section
variable {K:To}{mg:Str->Option Tq}{H:Hp}{vs:List V}{Q:VK}{E:XK}
def N1 (K:To):TS:=aP (cI (bp (aX Dw (av 1) (ii (g_ K) (ao (av 0) aG)))) (b6 (aX (e9 K) (av 0) (av 1))) bY) (b6 (tC (.int 0)))
theorem DR (h:pH mg 2 DP vs H Q E):N1 K (eQ Q) (bh (nS 2) vs) H:=by
 obtain⟨hl,ds,Ma,is,post⟩:=h;unfold DP at post;by_cases c:∃ x,GG ds x
 case neg=>rw[dif_neg c]at post;exact post.elim
 rw[dif_pos c]at post;obtain⟨l,k,e,ex⟩:=c.choose_spec;generalize c.choose=x at post ex;subst e;obtain⟨v0,r0,rfl,⟨a,ws,rfl,hx,iw⟩,v1,r1,rfl,e1,rfl⟩:=is;obtain rfl:v1=.int k:=e1;have hx:Rd H a (.lst ws):=hx.imp (·.1) fun⟨o,h⟩=>⟨o,h.1⟩;have ln:=iw.length;refine g9 (Reads.op (.va rfl) (.mZ (.va rfl) hx) fun _ q=>⟨_,_,rfl,rfl,q⟩) (fun c=>?_) fun c=>?_
 .have c:k<l.length:=by have:=PD c;lia
  have ed:l[k]?=some (.int x):=by rw[O1 c]at ex ⊢;exact QH some ex
  obtain⟨w,ew,iw⟩:=iw.get ed;obtain rfl:w=.int x:=iw;exact Reads.yz (.va rfl) (.va rfl) hx ew rfl _ (post _ _ (fun _ _ e=>e) rfl)
 .have c:l.length<=k:=by have:¬ ((k:Nat):Int)<ws.length:=fun z=>c (O_ z);lia
  rw[Rf c]at ex;cases ex;exact post _ _ (fun _ _ e=>e) rfl
def N2:TS:=b6 (aX bP (aX fB (aX b_ (aX bP (av 0) (tC (.int 2147483647))) (tC (.int 11))) (tC (.int 48271))) (tC (.int 2147483647)))
theorem DS (h:pH mg 1 DQ vs H Q E):N2 (eQ Q) (bh (nS 1) vs) H:=by
 obtain⟨hl,ds,Ma,is,post⟩:=h;unfold DQ at post;by_cases c:∃ c,ds=[.int c]
 case neg=>rw[dif_neg c]at post;exact post.elim
 rw[dif_pos c]at post;have e:=c.choose_spec;generalize c.choose=x at post e;subst e;obtain⟨v0,r0,rfl,e0,rfl⟩:=is;cases e0;exact Reads.mod (.mul (.ad (.mod (.va rfl) .k (by decide)) .k) .k (by decide)) .k (by decide) _ (post _ _ (fun _ _ e=>e) rfl)
def N3 (K:To):TS:=b6 (n9 (DH K "int" (av 0)) (yG (DH K "bool" (av 0))))
end
def IsTo (H:Hp)(x:Pz.Arr×Pz.nv)(kv:List bC×V):Prop:=kv.1=ak x.1/\∃ p,kv.2=.ref p/\H p=some (.tup [.int x.2.1,vO x.2.2.1,vO x.2.2.2])
section
variable {X:Cx}{K:To}{H H':Hp}{d:Addr}{t:Pz.TD}{kvs:List (List bC×V)}{D:Ends}{σ:L2.St}{vs:List V}{Q:VK}{E:XK}
theorem IsTo.keep {x:Pz.Arr×Pz.nv}{kv:List bC×V}(k:KT H H')(h:IsTo H x kv):IsTo H' x kv:=let ⟨a,p,b,c⟩:=h;⟨a,p,b,k _ _ c⟩
theorem K3 {m:Addr->Prop}{o:Option Int}{v:V}(h:Is H m (oD o) v):v=vO o:=by cases o<;>exact h
theorem vU {α β:Type}{R:α->β->Prop}:∀{xs:List α}{ys:List β},xs.length=ys.length->(∀(i:Nat) x y,xs[i]?=some x->ys[i]?=some y->R x y)->aO R xs ys
 | [],[],_,_=>.nil
 |x::xs,y::ys,e,h=>.cons (h 0 x y rfl rfl) (vU (Nat.succ.inj e) fun i x y e1 e2=>h (i+1) x y e1 e2)
theorem AC {v:V}(h:Is H' (nl H H') (kN t) v):∃ d kvs u,v=.ref d/\H d=none/\H' d=some u/\(u=.dT kvs\/(u=.dK []/\kvs=[]))/\aO (IsTo H') t kvs:=by
 obtain⟨d,kvs,u,e0,n0,eu,hu,hk⟩:=uC (As:=t.map (·.1)) (by unfold kN at h;rw[QC];exact h);obtain⟨d',vs,e1,⟨sh,_⟩,all⟩:=h;cases e0.symm.trans e1;refine⟨d,kvs,u,e0,n0,eu,hu,vU (by have:=QH List.length hk;simpa using this.symm) fun i x kv ex ei=>?_⟩;have hv:vs[i]?=some kv.2:=by
  rcases hu with rfl|⟨rfl,rfl⟩
  .rcases sh with⟨kvs',e|⟨o,e⟩,h1,h2⟩|⟨kvs',e|⟨o,e⟩,h1,h2⟩
   .rw[eu]at e;cases e
   .rw[eu]at e;cases e
   .rw[eu]at e;cases e;rw[h2,Pe,ei];rfl
   .rw[eu]at e;cases e
  .simp at ei
 obtain⟨w',ew,iw⟩:=all.get (i:=i) (d:=Gm x.2) (by rw[Pe,ex];rfl);rw[hv]at ew;cases ew;obtain⟨p,ws,e,hp,v0,r,rfl,i0,v1,r1,rfl,i1,v2,r2,rfl,i2,rfl⟩:=iw;obtain rfl:v0=.int x.2.1:=i0;rw[K3 i1,K3 i2]at hp;refine⟨?_,p,e,hp⟩;have:=QH (fun l:List (List bC)=>l[i]?) hk;simp only[Pe,ei,ex,Option.map_some]at this;exact Ps this
def sr (H:Hp)(x:Pz.Arr×Int)(v:V):Prop:=∃ p b,v=.ref p/\H p=some (.tup [.ref b,.int x.2])/\H b=some (.tup (f9 x.1))
theorem fh:mL sr:=fun k _ _ ⟨p,b,e,h,g⟩=>⟨p,b,e,k _ _ h,k _ _ g⟩
noncomputable def qy (t:Pz.TD)(k:bV):List (Pz.Arr×Int):=(t.filter fun x=>decide ((x.1.1,x.1.2.1)=k)).map fun x=>(x.1,x.2.1)
theorem AD (t:Pz.TD)(x:Pz.Arr×Pz.nv):qy (t++[x])=BX (qy t) (x.1.1,x.1.2.1) (qy t (x.1.1,x.1.2.1)++[(x.1,x.2.1)]):=by
 funext k;unfold qy BX;by_cases h:k=(x.1.1,x.1.2.1)
 .rw[Pi h,h,Qu];simp
 .rw[Pl h,Qu];simp[Qn h]
theorem DT (t:Pz.TD)(k:bV):(qy t k).length<=t.length:=by unfold qy;rw[O2];exact QJ ..
theorem mem_ldT {k:bV}{a:Pz.Arr}{p:Int}:(a,p)∈qy t k↔(a.1,a.2.1)=k/\∃ v,(a,v)∈t/\v.1=p:=by
 unfold qy;rw[Pb];constructor
 .rintro⟨⟨a',v⟩,h,e⟩;cases e;rw[P0]at h;exact⟨PD h.2,v,h.1,rfl⟩
 .rintro⟨h,v,hv,rfl⟩;exact⟨(a,v),P0.mpr ⟨hv,O_ h⟩,rfl⟩
inductive BB:Sp
 |mk {H:Hp} {d:Addr} {u:HO} {kvs:List (List bC×V)} {t:Pz.TD} {Q:VK} {E:XK} (hd:H d=some u) (hu:u=.dT kvs\/(u=.dK []/\kvs=[])) (al:aO (IsTo H) t kvs) (hz:t.length<1000000) (k:∀ a ks RA H',Gr sr H H' a ks (qy t) RA->Q (.ref a) H'):BB [.ref d] H Q E
theorem AE (h:BB vs H Q E):vs.length=1:=by cases h;rfl
def JC (K:To):TE:=b8 (ao (av 2) (ao (tI K 3 0) aG))
def L6 (K:To):TE:=b8 (ao (tI K 2 0) (ao (tI K 2 1) aG))
def L7 (K:To):TS:=cg (tD K "list" cB (M_ K 1 (L6 K)) (ao (JC K) aG))
def N4 (X:Cx):TS:=aP (bc j9 (aE 1)) (aP (fun D σ H=>eV (IA X (av 0)) (dX X.K 2 (bn (aE 2) (bn (aE 3) dW))) (L7 X.K) (Lm X D) σ H) (b6 (av 1)))
def xU (H:Hp)(d:Addr):Hp:=fun c=>if c=d then none else H c
theorem DU (H:Hp)(d:Addr):xU H d d=none:=Pi rfl
theorem jH {c:Addr}(n:c≠d):xU H d c=H c:=Pl n
theorem xV {c:Addr}{u:HO}(h:xU H d c=some u):c≠d/\H c=some u:=by
 by_cases e:c=d
 .rw[e,DU]at h;cases h
 .rw[jH e]at h;exact⟨e,h⟩
theorem Gr.KI {α:Type}{R:Hp->α->V->Prop}{a:Addr}{ks:List bV}{F:bV->List α}{RA:bV->Addr}{o:Obj}{u:HO}(h:Gr R (xU H d) H' a ks F RA)(hR:mL R)(hd:H d=some u)(hf:H' d=some (.cj o u))(hu:nC u):Gr R H (upd H' d u) a ks F RA:=by
 have nad:a≠d:=fun z=>by have:=h.r;rw[z,hf]at this;cases this
 have kt:KT H' (upd H' d u):=.upd hf fun _ z=>(nomatch z);refine⟨fun c w e=>?_,by rw[aA nad];exact h.r,by have:=h.na;rwa [jH nad]at this,fun k hk=>?_,h.i,h.z⟩
 .by_cases z:c=d
  .rw[z,aj];rw[z,hd]at e;exact e
  .rw[aA z];exact h.s _ _ (by rw[jH z];exact e)
 .obtain⟨n,vs,e,al⟩:=h.v k hk;have nr:RA k≠d:=fun z=>by rw[z,hf]at e;cases e
  exact⟨by rwa [jH nr]at n,vs,by rw[aA nr];exact e,al.mono (hR kt)⟩
theorem DV (h:BB vs H Q E):N4 X (eQ Q) (bh (nS 4) vs) H:=by
 obtain @⟨H,d,u,kvs,t,Q,E,hd,hu,al,hz,k⟩:=h;intro a ha;have qk:nC u:=by rcases hu with rfl|⟨rfl,_⟩<;>exact True.intro
 have nad:a≠d:=fun z=>by rw[z,hd]at ha;cases ha
 have s1:Same H (upd H a (.dT [])):=az ha;have ha1:upd H a (.dT []) a=some (.dT []):=aj;generalize upd H a (.dT [])=H1 at s1 ha1;refine⟨_,rfl,d,kvs,u,rfl,hu,.inr ⟨s1 _ _ hd,fun o ho=>?_⟩⟩;have kp:Kp d H1 (upd H1 d (.cj o u)):=fun c w e n=>by rw[aA n];exact e
 have hf:upd H1 d (.cj o u) d=some (.cj o u):=aj;have kt:KT H (upd H1 d (.cj o u)):=(KT.of s1).trans (.upd (s1 _ _ hd) fun ws z=>by subst z;exact qk);generalize upd H1 d (.cj o u)=H2 at hf kp kt;have G0:Gr sr (xU H d) H2 a [] (qy []) (fun _=>0):=⟨fun c w e=>let ⟨n,e⟩:=xV e;kp _ _ (s1 _ _ e) n,kp _ _ ha1 nad,by rw[jH nad];exact ha,fun k h=>(nomatch h),fun k h=>(nomatch h),fun k h=>rfl⟩;refine km (n:=kvs.length) (fun i σ' H'=>(∃ x y,σ'=[some (.ref d),some (.ref a),x,y])/\H' d=some (.cj o u)/\KT H H'/\∃ ks RA,ks.length<=i/\Gr sr (xU H d) H' a ks (qy (t.take i)) RA) ⟨⟨none,none,rfl⟩,hf,kt,[],_,O0 _,G0⟩ (fun i σ' H' p hi=>⟨p.2.1,hi⟩) (fun σ' H' p=>⟨p.2.1,O0 _⟩) (fun i σ' H' x H'' D' hi p y k'=>?_) fun σ' H' p=>?_
 .obtain⟨⟨x2,x3,rfl⟩,hf,kt,ks,RA,hl,G⟩:=p;obtain⟨p5,b,kk,w,hp5,rfl,hb,rfl,e⟩:=y;obtain⟨⟨ar,pr,nu,mi⟩,ex,ek,p,rfl,hp⟩:=al.get e;cases ek;have hi':=(O3.mp ex).1;have s5:Same H' (upd H' p5 (.tup [.ref b,.ref p])):=az hp5;refine BW aj ?_;have G5:=G.more fh s5;have hb5:=s5 _ _ hb;have hf5:=s5 _ _ hf;have k5:=kt.trans (.of s5);have hp5':=k5 _ _ hp;generalize upd H' p5 (.tup [.ref b,.ref p])=H5 at G5 hb5 hf5 k5 hp5';have hb5:H5 b=some (.tup (f9 ar)):=hb5;refine Jm (k:=(ar.1,ar.2.1)) G5 fh (by lia) rfl (.t (.c (.ix (n:=0) (.va rfl) hb5 (v:=.int ar.1) rfl) (.c (.ix (n:=1) (.va rfl) hb5 (v:=.int ar.2.1) rfl) .ni)) rfl) fun H6 RA' kp6 kt6 G6 hk6=>?_;obtain⟨n6,us,e6,al6⟩:=G6.v _ hk6;refine⟨.inl ⟨rfl,_,SqL.of e6⟩,?_⟩;show JC X.K [some (.ref d),some (.ref a),some (.ref b),some (.ref p)] H6 _;refine gr (ws:=[.ref b,.int pr]) (.c (.va rfl) (.c (.ix (n:=0) (.va rfl) (kt6 _ _ hp5') (v:=.int pr) rfl) .ni)) rfl fun p7 hp7=>?_;have s7:=az (o:=.tup [.ref b,.int pr]) hp7;have h7:upd H6 p7 (.tup [.ref b,.int pr]) p7=some (.tup [.ref b,.int pr]):=aj;have G7:=G6.more fh s7;have e7:=s7 _ _ e6;have hf7:=s7 _ _ (kp6 _ _ hf5 (Qn nad));have hb7:=s7 _ _ (kt6 _ _ hb5);have k7:=(k5.trans kt6).trans (.of s7);generalize upd H6 p7 (.tup [.ref b,.int pr])=H7 at s7 h7 G7 e7 hf7 hb7 k7;have ln:=DT (t.take i) (ar.1,ar.2.1);rw[Qi]at ln;have et:t.take (i+1)=t.take i++[(ar,pr,nu,mi)]:=by rw[PV,ex];rfl
  have nd:d≠RA' (ar.1,ar.2.1):=fun z=>by rw[<- z,hf7]at e7;cases e7
  refine⟨_,_,_,rfl,rfl,e7,oS (by rw[<- al6.len];lia),k' _ _ ⟨⟨_,_,rfl⟩,by rw[aA nd];exact hf7,k7.trans (.upd e7 fun _ z=>(nomatch z)),xQ ks (ar.1,ar.2.1),RA',?_,?_⟩⟩
  .have:=An ks (ar.1,ar.2.1);lia
  .have:=G7.ext (zs:=[(ar,pr)]) fh hk6 e7 (.cons ⟨p7,b,rfl,h7,hb7⟩ .nil);rw[et,AD];exact this
 .obtain⟨⟨x2,x3,rfl⟩,hf,kt,ks,RA,_,G⟩:=p;rw[<- al.len,Qx]at G;exact .inr ⟨d,o,u,hf,qk,ho,_,rfl,k a ks RA _ (G.KI fh hd hf qk)⟩
end
abbrev p_ (ks:List Int)(f:Int->V):List (bC×V):=ks.map fun k=>((.inl k:bC),f k)
noncomputable def E5 (ks:List Int)(b:Int):List Int:=if b∈ks then ks else ks++[b]
noncomputable def AF {β:Type}(f:Int->β)(b:Int)(m:β):Int->β:=fun k=>if k=b then m else f k
theorem fI {β:Type}{f:Int->β}{b:Int}{m:β}:AF f b m b=m:=Pi rfl
theorem fJ {β:Type}{f:Int->β}{b c:Int}{m:β}(h:c≠b):AF f b m c=f c:=Pl h
theorem oT {ks:List Int}{f:Int->V}{b:Int}:cw (p_ ks f) (.inl b)=if b∈ks then some (f b) else none:=by
 induction ks with
 |nil=>rfl
 |cons x r ih=>
  rw[p_,Ph];by_cases h:x=b
  .rw[cY (by rw[h]),Pi (by rw[h];exact O5),h]
  .rw[cZ fun z=>h (Sum.inl.inj z)];show cw (p_ r f) _=_;rw[ih];simp[Qn h]
theorem JD {ks:List Int}{f:Int->V}{b:Int}{v:V}:bU (p_ ks f) (.inl b) v=p_ (E5 ks b) (AF f b v):=by
 unfold E5;by_cases h:b∈ks
 .unfold bU;rw[Pi (by rw[fU,oT,Pi h];rfl),Pi h,p_,QC];refine Qa fun j _=>?_;show(if (.inl j:bC)=.inl b then ((.inl j:bC),v) else (.inl j,f j))=(.inl j,AF f b v j);by_cases e:j=b
  .rw[Pi (by rw[e]),e,fI]
  .rw[Pl fun z=>e (Sum.inl.inj z),fJ e]
 .rw[gU _ (by rw[oT,Pl h]),Pl h,p_,p_,PX];congr 1
  .exact Qa fun j hj=>by rw[fJ fun z:j=b=>h (z▸hj)]
  .show _=[((.inl b:bC),AF f b v b)];rw[fI]
theorem mem_adI {ks:List Int}{b c:Int}:c∈E5 ks b↔c∈ks\/c=b:=by
 unfold E5;split
 .exact⟨.inl,fun h=>h.elim id fun e=>by rw[e];assumption⟩
 .simp
structure nZ (P:Int->Int->Pz.Arr->Prop) (ks:List Int) (S:Int->Int) (A:Int->Option Pz.Arr):Prop where
 nd:ks.Nodup
 k:∀ b n a,P b n a->b∈ks/\S b<=n
 v:∀ b∈ks,∃ a,A b=some a/\P b (S b) a
section
variable {P P':Int->Int->Pz.Arr->Prop}{ks:List Int}{S:Int->Int}{A:Int->Option Pz.Arr}{b n:Int}{a:Pz.Arr}
theorem nZ.to (h:nZ P ks S A)(h1:∀ b n a,P b n a↔P' b n a):nZ P' ks S A:=⟨h.nd,fun b n a q=>h.k b n a ((h1 b n a).mpr q),fun b hb=>let ⟨a,e,q⟩:=h.v b hb;⟨a,e,(h1 _ _ _).mp q⟩⟩
theorem nZ.old (h:nZ P ks S A)(hb:b∈ks)(hn:S b<=n):nZ (fun b' n' a'=>P b' n' a'\/(b'=b/\n'=n/\a'=a)) ks S A:=⟨h.nd,fun b' n' a' q=>q.elim (h.k b' n' a') fun⟨e1,e2,_⟩=>by rw[e1,e2];exact⟨hb,hn⟩,fun b hb=>let ⟨a,e,q⟩:=h.v b hb;⟨a,e,.inl q⟩⟩
theorem nZ.new (h:nZ P ks S A)(hn:b∈ks->n<S b):nZ (fun b' n' a'=>P b' n' a'\/(b'=b/\n'=n/\a'=a)) (E5 ks b) (AF S b n) (AF A b (some a)):=by
 refine⟨?_,fun b' n' a' q=>⟨mem_adI.mpr (q.elim (fun q=>.inl (h.k _ _ _ q).1) fun q=>.inr q.1),?_⟩,fun b' hb=>?_⟩
 .unfold E5;split
  .exact h.nd
  .rename_i nb;rw[Q8];exact⟨h.nd,by simp,fun x hx y hy e=>nb (by rw[<- O9.mp hy,<- e];exact hx)⟩
 .by_cases e:b'=b
  .rw[e,fI];rcases q with q|q
   .have:=h.k _ _ _ q;rw[e]at this;exact Sg (S6 (hn this.1) this.2)
   .rw[q.2.1];exact Rv _
  .rw[fJ e];exact(h.k _ _ _ (q.resolve_right fun z=>e z.1)).2
 .by_cases e:b'=b
  .rw[e,fI,fI];exact⟨a,rfl,.inr ⟨rfl,rfl,rfl⟩⟩
  .rw[fJ e,fJ e];obtain⟨a,e1,q⟩:=h.v b' ((mem_adI.mp hb).resolve_right e);exact⟨a,e1,.inl q⟩
end
def IsOA (H:Hp):Option Pz.Arr->V->Prop
 |none,w=>w=.bJ
 |some a,w=>∃ b,w=.ref b/\H b=some (.tup (f9 a))
theorem IsOA.keep {H H':Hp}(k:KT H H'){o:Option Pz.Arr}{w:V}(h:IsOA H o w):IsOA H' o w:=by
 cases o with
 |none=>exact h
 |some a=>obtain⟨b,e,h⟩:=h;exact⟨b,e,k _ _ h⟩
structure Row (H:Hp) (d:Addr) (ks:List Int) (S:Int->Int) (A:Int->Option Pz.Arr) (T:Int->Addr):Prop where
 r:H d=some (.dK (p_ ks fun k=>.ref (T k)))
 t:∀ k∈ks,∃ w,H (T k)=some (.tup [.int (S k),w])/\IsOA H (A k) w
section
variable {X:Cx}{K:To}{B H H':Hp}{ld sm ah d rp:Addr}{t:Pz.TD}{D:Ends}{σ:L2.St}{vs:List V}{Q:VK}{E:XK}{P:Int->Int->Pz.Arr->Prop}{ks ks0 U:List Int}{S S0:Int->Int}{A A0:Int->Option Pz.Arr}{T T0:Int->Addr}{sign:Int}{a:Pz.Arr}
theorem Row.keep (h:Row H d ks S A T)(k:KT H H')(hd:H' d=some (.dK (p_ ks fun k=>.ref (T k)))):Row H' d ks S A T:=⟨hd,fun j hj=>let ⟨w,e,i⟩:=h.t j hj;⟨w,k _ _ e,i.keep k⟩⟩
theorem Row.more (h:Row H d ks S A T)(s:Same H H'):Row H' d ks S A T:=h.keep (.of s) (s _ _ h.r)
noncomputable def qa (ld sm:Addr)(sign:Int)(ah:Addr)(x4 x5 x6 x7 x8:Option V):L2.St:=[some (.ref ld),some (.ref sm),some (.int sign),some (.ref ah),x4,x5,x6,x7,x8]
def JE (K:To):TE:=aX b_ (tI K 5 0) (av 7)
def GH (K:To):TS:=qS (av 3) (tI K 6 2) (b8 (ao (JE K) (ao (av 6) aG)))
def JF (K:To):TS:=aP (bc (ph (av 3) (tI K 6 2)) (aE 8)) (cI (uV (bp (aX rV (av 8) (tC .bJ))) (bp (aX Dw (JE K) (tI K 8 0)))) (GH K) bY)
def GI (X:Cx):TS:=eV (cC X.K (gh (av 0) (b8 (ao (av 4) (ao (av 2) aG))) (cW aG))) (dX X.K 2 (bn (aE 6) (bn (aE 7) dW))) (JF X.K)
def L8 (X:Cx):TS:=fun D σ H=>eV (Iz X (av 1)) (dX X.K 2 (bn (aE 4) (bn (aE 5) dW))) (GI X) (Lm X D) σ H
def N5 (X:Cx):TS:=aP (bc tH (aE 3)) (aP (L8 X) (b6 (av 3)))
theorem Nf {x4 x8:Option V}{b:Addr}{s0 p:Int}{w:V}(R:Row H ah ks S A T)(m:nZ P ks S A)(hz:ks.length<1000000)(hb:H b=some (.tup (f9 a)))(hr:H rp=some (.tup [.int s0,w]))(hn:a.2.2∈ks->s0+p<S a.2.2)
 (k:∀ T' H',Kp ah H H'->KT H H'->Row H' ah (E5 ks a.2.2) (AF S a.2.2 (s0+p)) (AF A a.2.2 (some a)) T'->D.nx (qa ld sm sign ah x4 (some (.ref rp)) (some (.ref b)) (some (.int p)) x8) H'):GH K D (qa ld sm sign ah x4 (some (.ref rp)) (some (.ref b)) (some (.int p)) x8) H:=by
 delta GH qS
 refine gr (ws:=[.int (s0+p),.ref b]) (.c (.ad (.ix (n:=0) (.va rfl) hr (v:=.int s0) rfl) (.va rfl)) (.c (.va rfl) .ni)) rfl fun q hq=>?_;have s1:=az (o:=.tup [.int (s0+p),.ref b]) hq;have h1:upd H q (.tup [.int (s0+p),.ref b]) q=some (.tup [.int (s0+p),.ref b]):=aj;have R1:=R.more s1;have hb1:=s1 _ _ hb;generalize upd H q (.tup [.int (s0+p),.ref b])=H1 at s1 h1 R1 hb1;refine⟨_,rfl,Reads.ix (n:=2) (.va rfl) hb1 (v:=.int a.2.2) rfl _ ⟨ah,_,rfl,DPut.k (k:=.inl a.2.2) R1.r (oS (by rw[O2];lia)),?_⟩⟩;rw[JD];have kt:KT H1 (upd H1 ah (.dK (p_ (E5 ks a.2.2) (AF (fun k=>V.ref (T k)) a.2.2 (.ref q))))):=.upd R1.r fun _ z=>(nomatch z);refine k (AF T a.2.2 q) _ (fun c u e n=>by rw[aA n];exact s1 _ _ e) ((KT.of s1).trans kt) ⟨?_,fun j hj=>?_⟩
 .rw[aj];congr 2;refine Qa fun j _=>?_;dsimp only;by_cases e:j=a.2.2
  .rw[e,fI,fI]
  .rw[fJ e,fJ e]
 .by_cases e:j=a.2.2
  .rw[e,fI,fI,fI];exact⟨_,kt _ _ h1,b,rfl,kt _ _ hb1⟩
  .rw[fJ e,fJ e,fJ e];obtain⟨w,e1,i1⟩:=R1.t j ((mem_adI.mp hj).resolve_right e);exact⟨w,kt _ _ e1,i1.keep kt⟩
theorem N6 {x4 x8:Option V}{b:Addr}{s0 p:Int}{w:V}(R:Row H ah ks S A T)(m:nZ P ks S A)(hz:ks.length<1000000)(hb:H b=some (.tup (f9 a)))(hr:H rp=some (.tup [.int s0,w]))
 (k:∀ ks' S' A' T' x8 H',Kp ah H H'->KT H H'->Row H' ah ks' S' A' T'->nZ (fun b' n' a'=>P b' n' a'\/(b'=a.2.2/\n'=s0+p/\a'=a)) ks' S' A'->(∀ c∈ks',c∈ks\/c=a.2.2)->D.nx (qa ld sm sign ah x4 (some (.ref rp)) (some (.ref b)) (some (.int p)) x8) H'):JF K D (qa ld sm sign ah x4 (some (.ref rp)) (some (.ref b)) (some (.int p)) x8) H:=by
 refine⟨_,rfl,ah,rfl,.inl ⟨_,.inl R.r⟩,Reads.ix (n:=2) (.va rfl) hb (v:=.int a.2.2) rfl _ ⟨_,DGet.k (k:=.inl a.2.2) R.r,?_⟩⟩;rw[oT];by_cases e:a.2.2∈ks
 .rw[Pi e];obtain⟨w1,h1,i1⟩:=R.t _ e;refine⟨_,rfl,rfl,_,rfl,cf (Reads.op (.ad (.ix (n:=0) (.va rfl) hr (v:=.int s0) rfl) (.va rfl)) (.ix (n:=0) (.va rfl) h1 (v:=.int (S a.2.2)) rfl) (fun _ q=>⟨_,_,rfl,rfl,q⟩) _ ⟨_,rfl,wC (fun c=>?_) fun c=>?_⟩)⟩
  .have c:=PD c;exact Nf R m hz hb hr (fun _=>c) fun T' H' kp kt R'=>k _ _ _ T' _ H' kp kt R' (m.new fun _=>c) fun c hc=>mem_adI.mp hc
  .have c:¬ s0+p<S a.2.2:=fun z=>c (O_ z);exact k _ _ _ T _ H (fun _ _ e _=>e) (fun _ _ e=>e) R (m.old e (by lia)) fun c hc=>.inl hc
 .rw[Pl e];exact⟨_,rfl,rfl,_,rfl,cJ (Nf R m hz hb hr (fun z=>(e z).elim) fun T' H' kp kt R'=>k _ _ _ T' _ H' kp kt R' (m.new fun z=>(e z).elim) fun c hc=>mem_adI.mp hc)⟩
def HP (t:Pz.TD)(sign:Int)(S0:Int->Int)(L:List Int)(b n:Int)(a:Pz.Arr):Prop:=∃ s∈L,∃ p,(a,p)∈qy t (s,sign)/\b=a.2.2/\n=S0 s+p
inductive NC (ld sm rp:Addr) (sign st s0:Int) (ah:Addr) (P:Int->Int->Pz.Arr->Prop) (U:List Int) (l:List (Pz.Arr×Int)) (H1:Hp) (i:Nat):L2.St->Hp->Prop
 |mk {H':Hp} {ks:List Int} {S:Int->Int} {A:Int->Option Pz.Arr} {T:Int->Addr} {x6 x7 x8:Option V}:Kp ah H1 H'->KT H1 H'->Row H' ah ks S A T->nZ (fun b n a=>P b n a\/∃ p,(a,p)∈l.take i/\b=a.2.2/\n=s0+p) ks S A->(∀ b∈ks,b∈U)->NC ld sm rp sign st s0 ah P U l H1 i (qa ld sm sign ah (some (.int st)) (some (.ref rp)) x6 x7 x8) H'
theorem N7 {x6 x7 x8:Option V}{ks1:List bV}{RA:bV->Addr}{st s0:Int}{w:V}(G:Gr sr B H ld ks1 (qy t) RA)(R:Row H ah ks S A T)(m:nZ P ks S A)(nl:ld≠ah)(hr:H rp=some (.tup [.int s0,w]))(hu:∀ x∈t,x.1.2.2∈U)(hk:∀ b∈ks,b∈U)(hz:U.length<1000)
 (k:∀ ks' S' A' T' x6 x7 x8 H',Kp ah H H'->KT H H'->Row H' ah ks' S' A' T'->nZ (fun b n a=>P b n a\/∃ p,(a,p)∈qy t (st,sign)/\b=a.2.2/\n=s0+p) ks' S' A'->(∀ b∈ks',b∈U)->D.nx (qa ld sm sign ah (some (.int st)) (some (.ref rp)) x6 x7 x8) H'):GI X D (qa ld sm sign ah (some (.int st)) (some (.ref rp)) x6 x7 x8) H:=by
 refine eS (tl:=gh (av 0) (b8 (ao (av 4) (ao (av 2) aG))) (cW aG)) ⟨_,rfl,ld,rfl,.inr ⟨_,.inl G.r⟩,gr (ws:=[.int st,.int sign]) (.c (.va rfl) (.c (.va rfl) .ni)) rfl fun b hb=>⟨Pq _,fun q hq=>?_⟩⟩;have s1:=az (o:=.tup [.int st,.int sign]) hb;have h1:upd H b (.tup [.int st,.int sign]) b=some (.tup ((k2 (st,sign)).map kV)):=aj;generalize upd H b (.tup [.int st,.int sign])=H1 at s1 h1 hq;have G1:=G.more fh s1;have s2:=az (o:=.lst []) hq;obtain⟨p,vs,ep,hp,al⟩:=Gy G1 hq (st,sign);refine⟨_,DGet.t (k:=k2 (st,sign)) (s2 _ _ G1.r) (s2 _ _ h1),?_⟩;rw[ep];have al:=al.mono (fh (.of s2));have s12:=s1.trans s2;generalize upd H1 q (.lst [])=H2 at s2 s12 hp al;have R2:=R.more s12;have npa:p≠ah:=fun z=>by rw[z,R2.r]at hp;cases hp
 refine⟨p,rfl,⟨vs,SqL.of hp⟩,?_⟩;refine eY (K:=X.K) (a:=p) (xs:=vs) (NC ld sm rp sign st s0 ah P U (qy t (st,sign)) H2) (.mk (fun _ _ e _=>e) (fun _ _ e=>e) R2 (m.to fun b n a=>⟨.inl,fun h=>h.resolve_right fun⟨_,z,_⟩=>(nomatch z)⟩) hk) (fun i σ' H' _ z=>by cases z with|mk kp _ _ _ _=>exact SqL.of (kp _ _ hp npa)) (fun i v σ' H' hi z=>?_) fun σ' H' z=>?_
 .obtain @⟨H',ks',S',A',T',x6,x7,x8,kp,kt,R',m',hk'⟩:=z;obtain⟨⟨a,pr⟩,ex,p5,b5,rfl,h5,hb5⟩:=al.get hi;have lz:=Sp.nodup_sub m'.nd hk';refine BW (kt _ _ h5) (N6 R' m' (by lia) (kt _ _ hb5) (kt _ _ (s12 _ _ hr)) fun ks2 S2 A2 T2 x8 H3 kp3 kt3 R3 m3 hc=>.mk (fun c u e n=>kp3 _ _ (kp _ _ e n) n) (kt.trans kt3) R3 (m3.to fun b n a'=>?_) fun c hm=>(hc c hm).elim (hk' c) fun e=>?_)
  .rw[PV,ex];constructor
   .rintro ((h|⟨p,h,e1,e2⟩)|⟨e1,e2,rfl⟩)
    .exact .inl h
    .exact .inr ⟨p,P3 _ h,e1,e2⟩
    .exact .inr ⟨pr,PL _ O5,e1,e2⟩
   .rintro (h|⟨p,h,e1,e2⟩)
    .exact .inl (.inl h)
    .rcases Pf.mp h with h|h
     .exact .inl (.inr ⟨p,h,e1,e2⟩)
     .have e:(a',p)=(a,pr):=by simpa using h
      cases e;exact .inr ⟨e1,e2,rfl⟩
  .obtain⟨_,v,hv,_⟩:=mem_ldT.mp (Px ex);rw[e];exact hu _ hv
 .obtain @⟨H',ks',S',A',T',x6,x7,x8,kp,kt,R',m',hk'⟩:=z;rw[<- al.len,Qx]at m';exact k ks' S' A' T' x6 x7 x8 H' (fun c u e n=>kp _ _ (s12 _ _ e) n) ((KT.of s12).trans kt) R' m' hk'
inductive BK:Sp
 |mk {B H:Hp} {ld sm:Addr} {t:Pz.TD} {ks1:List bV} {RA:bV->Addr} {ks U:List Int} {S:Int->Int} {A:Int->Option Pz.Arr} {T:Int->Addr} {sign:Int} {Q:VK} {E:XK} (G:Gr sr B H ld ks1 (qy t) RA) (R:Row H sm ks S A T) (hu:∀ x∈t,x.1.2.2∈U) (hz:U.length<1000)
  (k:∀ ah ks' S' A' T' H',Same H H'->H ah=none->Row H' ah ks' S' A' T'->nZ (HP t sign S ks) ks' S' A'->(∀ b∈ks',b∈U)->Q (.ref ah) H'):BK [.ref ld,.ref sm,.int sign] H Q E
theorem AG (h:BK vs H Q E):vs.length=3:=by cases h;rfl
inductive ND (ld sm ah:Addr) (sign:Int) (t:Pz.TD) (S0:Int->Int) (ks0 U:List Int) (H1:Hp) (i:Nat):L2.St->Hp->Prop
 |mk {H':Hp} {ks:List Int} {S:Int->Int} {A:Int->Option Pz.Arr} {T:Int->Addr} {x4 x5 x6 x7 x8:Option V}:Kp ah H1 H'->KT H1 H'->Row H' ah ks S A T->nZ (HP t sign S0 (ks0.take i)) ks S A->(∀ b∈ks,b∈U)->ND ld sm ah sign t S0 ks0 U H1 i (qa ld sm sign ah x4 x5 x6 x7 x8) H'
theorem DW (h:BK vs H Q E):N5 X (eQ Q) (bh (nS 9) vs) H:=by
 obtain @⟨B,H,ld,sm,t,ks1,RA,ks0,U,S0,A0,T0,sign,Q,E,G,R,hu,hz,k⟩:=h;intro ah ha;have s1:=az (o:=.dK []) ha;have h1:upd H ah (.dK []) ah=some (.dK []):=aj;generalize upd H ah (.dK [])=H1 at s1 h1;have G1:=G.more fh s1;have R1:=R.more s1;have nl:ld≠ah:=fun z=>by rw[<- z,G.r]at ha;cases ha
 have ns:sm≠ah:=fun z=>by rw[<- z,R.r]at ha;cases ha
 have nls:ld≠sm:=fun z=>by have:=G.r;rw[z,R.r]at this;cases this
 refine⟨_,rfl,sm,_,_,rfl,.inl rfl,.inr ⟨R1.r,fun o ho=>?_⟩⟩;have hf:upd H1 sm (.cj o (.dK (p_ ks0 fun k=>.ref (T0 k)))) sm=some (.cj o (.dK (p_ ks0 fun k=>.ref (T0 k)))):=aj;have k0:Kp sm H1 (upd H1 sm (.cj o (.dK (p_ ks0 fun k=>.ref (T0 k))))):=fun c u e n=>by rw[aA n];exact e
 have t0:KT H1 (upd H1 sm (.cj o (.dK (p_ ks0 fun k=>.ref (T0 k))))):=.upd R1.r fun _ z=>(nomatch z);generalize upd H1 sm (.cj o (.dK (p_ ks0 fun k=>.ref (T0 k))))=H2 at hf k0 t0;refine km (n:=(p_ ks0 fun k=>V.ref (T0 k)).length) (ND ld sm ah sign t S0 ks0 U H2) (.mk (ks:=[]) (S:=fun _=>0) (A:=fun _=>none) (T:=fun _=>0) (fun _ _ e _=>e) (fun _ _ e=>e) ⟨k0 _ _ h1 (Qn ns),fun _ z=>(nomatch z)⟩ ⟨PZ,fun _ _ _ ⟨_,z,_⟩=>(nomatch z),fun _ z=>(nomatch z)⟩ fun _ z=>(nomatch z)) (fun i σ' H' p hi=>?_) (fun σ' H' p=>?_) (fun i σ' H' x H'' D' hi p y k'=>?_) fun σ' H' p=>?_
 .obtain @⟨H',ks',S',A',T',x4,x5,x6,x7,x8,kp,kt,R',m',hk'⟩:=p;exact⟨kp _ _ hf ns,hi⟩
 .obtain @⟨H',ks',S',A',T',x4,x5,x6,x7,x8,kp,kt,R',m',hk'⟩:=p;exact⟨kp _ _ hf ns,O0 _⟩
 .obtain @⟨H',ks',S',A',T',x4,x5,x6,x7,x8,kp,kt,R',m',hk'⟩:=p;obtain⟨p5,kk5,w,hp5,rfl,rfl,ei⟩:=y;rw[Pe]at ei;obtain⟨st,es,e2⟩:=PU.mp ei;cases e2;obtain⟨w5,h5,_⟩:=R1.t st (Px es);have s5:=az (o:=.tup [.int st,.ref (T0 st)]) hp5;refine BW aj ?_;have up:∀{c u},H1 c=some u->c≠sm->c≠ah->upd H' p5 (.tup [.int st,.ref (T0 st)]) c=some u:=fun e n n'=>s5 _ _ (kp _ _ (k0 _ _ e n) n');have G5:Gr sr (fun _=>none) (upd H' p5 (.tup [.int st,.ref (T0 st)])) ld ks1 (qy t) RA:=⟨(fun _ _ e=>nomatch e),up G1.r nls nl,rfl,fun k hk=>by obtain⟨_,vs,e,al⟩:=G1.v k hk;exact⟨rfl,vs,up e (fun z=>by rw[z,R1.r]at e;cases e) (fun z=>by rw[z,h1]at e;cases e),al.mono (fh ((t0.trans kt).trans (.of s5)))⟩,G1.i,G1.z⟩;have h5':=(kt.trans (.of s5)) _ _ (t0 _ _ h5);have k5:Kp ah H2 (upd H' p5 (.tup [.int st,.ref (T0 st)])):=fun c u e n=>s5 _ _ (kp _ _ e n);have kt5:=kt.trans (.of s5);have R5:=R'.more s5;show GI X D' (qa ld sm sign ah (some (.int st)) (some (.ref (T0 st))) x6 x7 x8) (upd H' p5 (.tup [.int st,.ref (T0 st)]));generalize upd H' p5 (.tup [.int st,.ref (T0 st)])=H5 at G5 h5' k5 kt5 R5;refine N7 G5 R5 m' nl h5' hu hk' hz fun ks2 S2 A2 T2 x6 x7 x8 H6 kp6 kt6 R6 m6 hk6=>k' _ _ (.mk (fun c u e n=>kp6 _ _ (k5 _ _ e n) n) (kt5.trans kt6) R6 (m6.to fun b n a=>?_) hk6);unfold HP;rw[PV,es];constructor
  .rintro (⟨s,hs,h⟩|⟨p,h⟩)
   .exact⟨s,P3 _ hs,h⟩
   .exact⟨st,PL _ O5,p,h⟩
  .rintro⟨s,hs,h⟩;rcases Pf.mp hs with hs|hs
   .exact .inl ⟨s,hs,h⟩
   .have e:s=st:=by simpa using hs
    rw[e]at h;exact .inr h
 .obtain @⟨H',ks',S',A',T',x4,x5,x6,x7,x8,kp,kt,R',m',hk'⟩:=p;rw[O2,Qx]at m';have th:Same H (upd H' sm (.dK (p_ ks0 fun k=>.ref (T0 k)))):=fun c u e=>by
   by_cases z:c=sm
   .rw[z,aj];rw[z,R.r]at e;exact e
   .rw[aA z];exact kp _ _ (k0 _ _ (s1 _ _ e) z) (aB e ha)
  exact .inr ⟨sm,o,_,kp _ _ hf ns,True.intro,ho,_,rfl,k ah ks' S' A' T' _ th ha (R'.keep (.upd (kp _ _ hf ns) fun _ z=>(nomatch z)) (by rw[aA (Qn ns)];exact R'.r)) m' hk'⟩
end
structure ji where
 ks:List Int
 S:Int->Int
 A:Int->Option Pz.Arr
def RsmAt (H:Hp)(r:ji)(v:V):Prop:=∃ d T,v=.ref d/\Row H d r.ks r.S r.A T
structure kS (t:Pz.TD) (room:Int) (stk:List Int) (L:List ji):Prop where
 z:L[0]?=some ⟨[room],fun _=>0,fun _=>none⟩
 s:∀(j:Nat) r r' s,L[j]?=some r->L[j+1]?=some r'->stk[j]?=some s->nZ (HP t s r.S r.ks) r'.ks r'.S r'.A
section
variable {X:Cx}{K:To}{H H':Hp}{ld ah d:Addr}{t:Pz.TD}{vs:List V}{Q:VK}{E:XK}{L:List ji}{room:Int}{stk:List Int}
theorem RsmAt.more {r:ji}{v:V}(s:Same H H')(h:RsmAt H r v):RsmAt H' r v:=let ⟨d,T,e,R⟩:=h;⟨d,T,e,R.more s⟩
def JG:TE:=MY (rU fun i=>.int (-i)) (tC (.int 1))
def L9 (K:To):TE:=b8 (ao (tC (.int 0)) (ao (tC .bJ) aG))
def L_ (K:To):TS:=cg (tD K "list" cB (av 3) (ao (br BK [] E0 (ao (av 2) (ao (aX (e9 K) (av 3) JG) (ao (av 4) aG)))) aG))
def N8 (X:Cx):TS:=aP (bc (br BB [] E0 (ao (av 0) aG)) (aE 2)) (aP (bc (cW (ao (EH [(tI X.K 1 0,L9 X.K)]) aG)) (aE 3)) (aP (eV (cC X.K (tI X.K 1 1)) (aE 4) (L_ X.K)) (b6 (av 3))))
inductive yq:Sp
 |mk {H:Hp} {d:Addr} {u:HO} {kvs:List (List bC×V)} {t:Pz.TD} {sp sl:Addr} {room:Int} {stk U:List Int} {Q:VK} {E:XK} (hd:H d=some u) (hu:u=.dT kvs\/(u=.dK []/\kvs=[])) (al:aO (IsTo H) t kvs) (hz:t.length<1000000) (hp:H sp=some (.tup [.int room,.ref sl])) (hl:Rd H sl (.lst (stk.map .int))) (hs:stk.length<1000) (hU:∀ x∈t,x.1.2.2∈U) (zU:U.length<1000)
  (k:∀ rl L vs H',Same H H'->H rl=none->H' rl=some (.lst vs)->aO (RsmAt H') L vs->L.length=stk.length+1->kS t room stk L->Q (.ref rl) H'):yq [.ref d,.ref sp] H Q E
theorem AH (h:yq vs H Q E):vs.length=2:=by cases h;rfl
inductive Nw (d sp ld rl:Addr) (H3:Hp) (t:Pz.TD) (room:Int) (stk:List Int) (i:Nat):L2.St->Hp->Prop
 |mk {H':Hp} {L:List ji} {vs:List V} {x4:Option V}:Kp rl H3 H'->H' rl=some (.lst vs)->aO (RsmAt H') L vs->L.length=i+1->kS t room stk L->Nw d sp ld rl H3 t room stk i [some (.ref d),some (.ref sp),some (.ref ld),some (.ref rl),x4] H'
theorem DY (h:yq vs H Q E):N8 X (eQ Q) (bh (nS 5) vs) H:=by
 obtain @⟨H,d,u,kvs,t,sp,sl,room,stk,U,Q,E,hd,hu,al,hz,hp,hl,hs,hU,zU,k⟩:=h;refine⟨_,rfl,.mk hd hu al hz fun ld ks1 RA H1 G=>fun rd hrd=>?_⟩;have s1:=G.s;have s2:=az (o:=.dK []) hrd;have h2:upd H1 rd (.dK []) rd=some (.dK []):=aj;generalize upd H1 rd (.dK [])=H2 at s2 h2;refine Reads.ix (n:=0) (.va (i:=1) rfl) (s2 _ _ (s1 _ _ hp)) (v:=.int room) rfl _ (gr (ws:=[.int 0,.bJ]) (.c .k (.c .k .ni)) rfl fun q hq=>?_);have s3:=az (o:=.tup [.int 0,.bJ]) hq;have h3:upd H2 q (.tup [.int 0,.bJ]) q=some (.tup [.int 0,.bJ]):=aj;generalize upd H2 q (.tup [.int 0,.bJ])=H3 at s3 h3;refine⟨s3 _ _ h2,[(.inl room,.ref q)],rfl,by show 1<=15;decide,by show 1<=_;rw[Pn];lia,fun rl hrl=>?_⟩;have s4:Same H1 (upd H3 rd (.dK (gW [] [((.inl room:bC),V.ref q)]))):=fun c u e=>by rw[aA (aB e hrd)];exact s3 _ _ (s2 _ _ e)
 have R4:Row (upd H3 rd (.dK (gW [] [((.inl room:bC),V.ref q)]))) rd [room] (fun _=>0) (fun _=>none) fun _=>q:=⟨aj,fun k _=>⟨.bJ,by rw[aA fun z=>by rw[z,s3 _ _ h2]at h3;cases h3];exact h3,rfl⟩⟩;generalize upd H3 rd (.dK (gW [] [((.inl room:bC),V.ref q)]))=H4 at s4 R4 hrl;have s5:=az (o:=.lst [.ref rd]) hrl;have h5:upd H4 rl (.lst [.ref rd]) rl=some (.lst [.ref rd]):=aj;generalize upd H4 rl (.lst [.ref rd])=H5 at s5 h5;have s15:=s4.trans s5;have s05:=s1.trans s15;have nrl:H1 rl=none:=s4.free hrl;refine Reads.ix (n:=1) (.va (i:=1) rfl) (s05 _ _ hp) (v:=.ref sl) rfl _ ⟨sl,rfl,⟨_,.inl (aK s05 hl)⟩,?_⟩;have hl5:=aK s05 hl;have nsl:∀{H'},Kp rl H5 H'->Rd H' sl (.lst (stk.map .int)):=fun kp=>by
  have n:sl≠rl:=fun z=>by have nr:H rl=none:=s1.free nrl;rcases hl with e|⟨o,e⟩<;>(rw[z,nr]at e;cases e)
  exact hl5.imp (fun e=>kp _ _ e n) fun⟨o,e⟩=>⟨o,kp _ _ e n⟩
 refine eY (K:=X.K) (a:=sl) (xs:=stk.map .int) (Nw d sp ld rl H5 t room stk) (.mk (fun _ _ e _=>e) h5 (.cons ⟨rd,_,rfl,R4.more s5⟩ .nil) rfl ⟨rfl,fun j r r' s _ e _=>by simp at e⟩) (fun i σ' H' _ z=>by cases z with|mk kp _ _ _ _=>exact .inl (nsl kp)) (fun i v σ' H' hi z=>?_) fun σ' H' z=>?_
 .obtain @⟨H',L,us,x4,kp,hr,al',ll,ok⟩:=z;rw[Pe]at hi;obtain⟨s,es,rfl⟩:=PU.mp hi;obtain⟨us,w,rfl⟩ : ∃ a b,us=a++[b]:=by
   rcases RN us with rfl|⟨a,b,rfl⟩
   .have:=al'.len;rw[ll]at this;cases this
   .exact⟨a,b,by simp⟩
  have ul:=al'.len;rw[O6]at ul;obtain⟨r,er,rd',T',rfl,R'⟩:=al'.get (i:=us.length) (y:=w) (by simp);have li:=(O3.mp es).1;have ei:us.length=i:=by simp at ul;lia
  have G':Gr sr (fun _=>none) H' ld ks1 (qy t) RA:=by
   have G5:=G.more fh s15;have kt5:KT H5 H':=fun c w e=>kp _ _ e fun z=>by rw[z,h5]at e;cases e
   exact⟨(fun _ _ e=>nomatch e),kp _ _ G5.r (fun z=>by have:=G5.r;rw[z,h5]at this;cases this),rfl,fun k hk=>by obtain⟨_,vs,e,al⟩:=G.v k hk;exact⟨rfl,vs,kp _ _ (s15 _ _ e) (aB e nrl),al.mono (fh ((KT.of s15).trans kt5))⟩,G.i,G.z⟩
  refine⟨_,rfl,.inl ⟨rfl,_,SqL.of hr⟩,_,rfl,Reads.op (.va rfl) (fun Q q=>⟨1,rfl,q⟩) (fun _ q=>⟨rl,_,_,_,rfl,rfl,SqL.of hr,mP us _,q⟩) _ ⟨_,rfl,.mk (sign:=s) G' R' hU zU fun ah ks' S' A' T'' H6 s6 nah R6 m6 hk6=>?_⟩⟩;have hr6:=s6 _ _ hr;refine⟨rl,_,_,rfl,rfl,hr6,oS (by rw[O6];simp;lia),?_⟩;have nar:ah≠rl:=fun z=>by rw[z,hr]at nah;cases nah
  have kt:KT H6 (upd H6 rl (.lst ((us++[.ref rd'])++[.ref ah]))):=.upd hr6 fun _ z=>(nomatch z);have keepR:∀{r v},RsmAt H6 r v->RsmAt (upd H6 rl (.lst ((us++[.ref rd'])++[.ref ah]))) r v:=fun⟨d,T,e,R⟩=>⟨d,T,e,R.keep kt (by rw[aA fun z=>by have:=R.r;rw[z,hr6]at this;cases this];exact R.r)⟩;refine .mk (L:=L++[⟨ks',S',A'⟩]) (fun c u e n=>by rw[aA n];exact s6 _ _ (kp _ _ e n)) aj (.snoc (al'.mono fun r v h=>keepR (h.more s6)) (keepR ⟨ah,T'',rfl,R6⟩)) (by rw[O6,ll];rfl) ⟨?_,fun j r1 r2 s' e1 e2 e3=>?_⟩
  .rw[Qf (by lia)];exact ok.z
  .by_cases hj:j+1<L.length
   .rw[Qf (by lia)]at e1 e2;exact ok.s j r1 r2 s' e1 e2 e3
   .have lt:=(O3.mp e2).1;rw[O6]at lt;have ej:j=i:=by simp at lt;lia
    rw[ej,es]at e3;cases e3;rw[Qf (by lia),ej,<- ei,er]at e1;cases e1;rw[QQ (by lia),show j+1-L.length=0 by lia]at e2;cases e2;exact m6
 .obtain @⟨H',L,us,x4,kp,hr,al',ll,ok⟩:=z;rw[O2]at ll;exact⟨_,rfl,k rl L us H' (fun c u e=>kp _ _ (s05 _ _ e) (aB (s1 _ _ e) nrl)) (s1.free nrl) hr al' ll ok⟩
end
noncomputable def AI (r:ji)(ends:List Int):Option (Int×Int)->Prop
 |none=>∀ e∈ends,e∉r.ks
 |some (v,e)=>e∈ends/\e∈r.ks/\v=r.S e/\∀ e'∈ends,e'∈r.ks->v<=r.S e'
noncomputable def GJ (H:Hp):Option (Int×Int)->V->Prop
 |none,w=>w=.bJ
 |some x,w=>IsSet H x w
theorem AJ (bt:Nat->Nat->Bool)(num:Nat->Int)(n:Nat)(h:∀ i j,i<=n->j<=n->if bt i j=true then num i<=num j else num j<=num i)(k:Nat)(hk:k<=n):∀ j,j<=k->num (argBest bt k)<=num j:=by
 induction k with
 |zero=>intro j hj;rw[Nat.le_zero.mp hj];exact Rv _
 |succ k ih=>
  intro j hj;have h:=h (k+1) (argBest bt k) hk (by have:=p8 bt k;lia);unfold argBest;by_cases b:bt (k+1) (argBest bt k)=true
  .rw[Pi b]at h ⊢;by_cases e:j=k+1
   .rw[e];exact Rv _
   .exact Rg h (ih (by lia) j (by lia))
  .rw[Pl b]at h ⊢;by_cases e:j=k+1
   .rw[e];exact h
   .exact ih (by lia) j (by lia)
section
variable {X:Cx}{K:To}{H H':Hp}{sm el p:Addr}{t:Pz.TD}{vs:List V}{Q:VK}{E:XK}{r:ji}{ends:List Int}{T:Int->Addr}
inductive uP:Sp
 |mk {H:Hp} {p el sm:Addr} {a b:V} {r:ji} {ends:List Int} {T:Int->Addr} {Q:VK} {E:XK} (hp:H p=some (.tup [a,b,.ref el])) (he:Rd H el (.lst (ends.map .int))) (R:Row H sm r.ks r.S r.A T) (hz:ends.length<1000) (k:∀ o v H',Same H H'->AI r ends o->GJ H' o v->Q v H'):uP [.ref p,.ref sm] H Q E
theorem AK (h:uP vs H Q E):vs.length=2:=by cases h;rfl
def Mb:TT:=bp (aX (F3 false) (av 0) (av 1))
def JH (K:To):TE:=b8 (ao (aX (gT K) (qR (av 1) (av 0)) (tC (.int 0))) (ao (av 0) aG))
def N9 (X:Cx)(scope:Scope)(tg elt:Expr)(tN capN:List Str)(caps:List Nat)(ifs:List Expr):TS:=b6 (E2 X.K (oM X scope tg tN capN caps elt ifs (cC X.K (tI X.K 0 2))))
structure OM (X:Cx) (scope:Scope) (tg elt:Expr) (tN capN:List Str) (caps:List Nat) (ifs:List Expr):Prop where
 h:tN.length=1
 c:caps=[1]
 g:∀ cl C s3 H3 fp,PG (bH X scope (tN++capN) cl C s3 H3 fp) tg (aE 0)
 t:∀ cl C s3 H3 fp,BV (bH X scope (tN++capN) cl C s3 H3 fp) ifs Mb
 e:∀ cl C s3 H3 fp,PE (bH X scope (tN++capN) cl C s3 H3 fp) elt (JH X.K)
theorem JI {es:List Int}{acc:List V}(al:aO (IsSet H) ((es.filter fun e=>decide (e∈r.ks)).map fun e=>(r.S e,e)) acc)(k:∀ o v,AI r es o->GJ H o v->Q v H)(hl:H p=some (.lst acc)) :
 ∃ p' vs ks,V.ref p=.ref p'/\SqL K H p' vs/\(pZ K H vs ks\/p6 vs ks)/\(vs=[]->Q .bJ H)/\∀ v,vs[argBest (xM ks) (vs.length-1)]?=some v->Q v H:=by
 have ln:=al.len;refine⟨p,acc,((es.filter fun e=>decide (e∈r.ks)).map fun e=>[r.S e,e]),rfl,SqL.of hl,.inl ⟨by rw[<- ln];simp,fun i v ks ev ek=>?_⟩,fun e=>?_,fun v ev=>?_⟩
 .obtain⟨x,ex,q,rfl,hq⟩:=al.get ev;rw[Pe]at ex ek;obtain⟨e,ee,rfl⟩:=PU.mp ex;rw[ee]at ek;cases ek;exact⟨q,rfl,SqT.of hq⟩
 .subst e;refine k none _ (fun e he z=>?_) rfl;have:e∈es.filter fun e=>decide (e∈r.ks):=P0.mpr ⟨he,O_ z⟩;rw[O2]at ln;rw[Qz.mp ln]at this;cases this
 .obtain⟨x,ex,hx⟩:=al.get ev;rw[Pe]at ex;obtain⟨e,ee,rfl⟩:=PU.mp ex;obtain⟨m1,m2⟩:=P0.mp (Px ee);refine k (some (r.S e,e)) v ⟨m1,PD m2,rfl,fun e' h1 h2=>?_⟩ hx;obtain⟨j,hj⟩:=Pj.mp (P0.mpr ⟨h1,O_ h2⟩ : e'∈es.filter fun e=>decide (e∈r.ks));have lj:=(O3.mp hj).1;rw[O2]at ln;generalize es.filter (fun e=>decide (e∈r.ks))=fs at *;have key:=AJ (xM (fs.map fun e=>[r.S e,e])) (fun i=>(fs[i]?.map r.S).getD 0) (acc.length-1) (fun a b ha hb=>?_) (acc.length-1) (O0 _) j (by lia)
  .rw[ee,hj]at key;exact key
  .unfold xM;rw[Pe,Pe,O1 (by lia:a<fs.length),O1 (by lia:b<fs.length)];simp[HT.lexLt];split<;>split<;>lia
theorem DZ {scope:Scope}{tg elt:Expr}{tN capN:List Str}{caps:List Nat}{ifs:List Expr}(c:OM X scope tg elt tN capN caps ifs)(h:uP vs H Q E):N9 X scope tg elt tN capN caps ifs (eQ Q) (bh (nS 2) vs) H:=by
 obtain @⟨H,p,el,sm,a,b,r,ends,T,Q,E,hp,he,R,hz,k⟩:=h;refine Reads.ix (n:=2) (.va (i:=0) rfl) hp (v:=.ref el) rfl _ ⟨el,rfl,⟨_,.inl he⟩,?_⟩;refine je (n:=ends.length) c.g c.t c.e (fun Dl i acc H'=>Same H H'/\H' Dl=some (.lst acc)/\aO (IsSet H') (((ends.take i).filter fun e=>decide (e∈r.ks)).map fun e=>(r.S e,e)) acc/\H Dl=none) (fun Dl hD=>⟨az hD,aj,.nil,hD⟩) (fun h=>h.2.1) (fun Dl i acc H' ⟨sm,_⟩ hi=>⟨ends.map .int,V.int ends[i],.inl (aK sm he),by rw[Pe,O1 hi];rfl⟩) (fun Dl acc H' ⟨sm,_⟩=>⟨ends.map .int,.inl (aK sm he),by rw[O2];exact O0 _⟩) (fun Dl i acc H' xv H'' ol hi ⟨sm',hD,al,nD⟩ y hol=>?_) fun Dl acc H' hD ⟨sm',hD',al,_⟩=>?_
 .obtain⟨rfl,y⟩:=y;have y:=y _ (.inl (aK sm' he));rw[Pe,O1 hi]at y;cases y;rw[c.h]at hol;obtain⟨u0,rfl⟩:=QD.mp hol;rw[c.c];have R':=R.more sm';have et:ends.take (i+1)=ends.take i++[ends[i]]:=by rw[PV,O1 hi];rfl
  refine⟨fun j hj=>?_,_,rfl,_,rfl,sm,_,rfl,.inl (DGet.k (k:=.inl ends[i]) R'.r),_,rfl,?_⟩
  .rw[c.h]at hj;obtain⟨j,rfl⟩:=Qb hj;rfl
  rw[oT];have ll:=al.len;have lf:=QJ (fun e=>decide (e∈r.ks)) (ends.take i);rw[O2]at ll;rw[Qi]at lf;by_cases m:ends[i]∈r.ks
  .rw[Pi m];obtain⟨w,hw,_⟩:=R'.t _ m;refine cJ ?_;show JH X.K [some (.int ends[i]),some (.ref sm)] H'' _;refine gr (ws:=[.int (r.S ends[i]),.int ends[i]]) (.c (.ix (n:=0) (b:=T ends[i]) (fun Q q=>⟨_,rfl,_,rfl,sm,_,rfl,by have:=DGet.k (k:=.inl ends[i]) R'.r;rwa [oT,Pi m]at this,q⟩) hw (v:=.int (r.S ends[i])) rfl) (.c (.va rfl) .ni)) rfl fun q hq=>?_;have s1:=az (o:=.tup [.int (r.S ends[i]),.int ends[i]]) hq;have hq1:upd H'' q (.tup [.int (r.S ends[i]),.int ends[i]]) q=some (.tup [.int (r.S ends[i]),.int ends[i]]):=aj;have hD1:=s1 _ _ hD;generalize upd H'' q (.tup [.int (r.S ends[i]),.int ends[i]])=H1 at s1 hq1 hD1;have kt:KT H1 (upd H1 Dl (.lst (acc++[.ref q]))):=.upd hD1 fun _ z=>(nomatch z);refine⟨hD1,oS (by lia),fun c u e=>by rw[aA (aB e nD)];exact s1 _ _ (sm' _ _ e),aj,?_,nD⟩;rw[et,Qu,Q5 (by exact O_ m),PX];exact(al.mono (di ((KT.of s1).trans kt))).snoc ⟨q,rfl,kt _ _ hq1⟩
  .rw[Pl m];refine cf ⟨sm',hD,?_,nD⟩;rw[et,Qu,Q3 (by simpa using m)];simpa using al
 .rw[Qx]at al;exact JI al (fun o v h1 h2=>k o v H' sm' h1 h2) hD'
end
structure sM (Fr:iH) (H:Hp) (p mp sp:Addr) (t:Pz.TD) (room:Int) (stk ends U:List Int):Prop where
 pr:∃ hD mD,Is H Tr hD (.ref p)/\Is H Tr mD (.ref mp)/\Fr [hD,mD]=.ok (.yw (kN t))
 m:∃ a b el,H mp=some (.tup [a,b,.ref el])/\Rd H el (.lst (ends.map .int))
 s:∃ sl,H sp=some (.tup [.int room,.ref sl])/\Rd H sl (.lst (stk.map .int))
 z:t.length<1000000
 zs:stk.length<1000
 ze:ends.length<1000
 u:∀ x∈t,x.1.2.2∈U
 zu:U.length<1000
inductive eL (t:Pz.TD) (room:Int) (stk ends:List Int) (L:List ji) (r:ji) (o:Option (Int×Int)):Prop
 |mk (n:L.length=stk.length+1) (ok:kS t room stk L) (l:L[stk.length]?=some r) (e:AI r ends o):eL t room stk ends L r o
noncomputable def nL (o:Option (Int×Int)):V:=o.elim .bJ fun x=>.int x.1
section
variable {K:To}{mg:Str->Option Tq}{Fr:iH}{H H':Hp}{p mp sp:Addr}{t:Pz.TD}{room:Int}{stk ends U:List Int}{σ:L2.St}{vs:List V}{Q:VK}{E:XK}
theorem sM.more (h:sM Fr H p mp sp t room stk ends U)(s:Same H H'):sM Fr H' p mp sp t room stk ends U:=⟨let ⟨a,b,c,d,e⟩:=h.pr;⟨a,b,DI c s,DI d s,e⟩,let ⟨a,b,c,d,e⟩:=h.m;⟨a,b,c,s _ _ d,aK s e⟩,let ⟨a,b,c⟩:=h.s;⟨a,s _ _ b,aK s c⟩,h.z,h.zs,h.ze,h.u,h.zu⟩
theorem AL {ta:TA}(h:sM Fr H p mp sp t room stk ends U)(ha:ReadsA ta σ H [.ref p,.ref mp])(k:∀ d kvs u H',Same H H'->H d=none->H' d=some u->(u=.dT kvs\/(u=.dK []/\kvs=[]))->aO (IsTo H') t kvs->Q (.ref d) H'):br (pH mg 2 Fr) [] E0 ta σ H Q:=by obtain⟨hD,mD,i1,i2,hF⟩:=h.pr;refine ha _ ⟨rfl,[hD,mD],Tr,⟨_,_,rfl,i1,_,_,rfl,i2,rfl⟩,?_⟩;rw[hF];intro v H4 s4 r4;obtain⟨d,kvs,u,rfl,n4,e4,hu,al⟩:=AC r4;exact k d kvs u H4 s4 n4 e4 hu al
theorem AM {rl:Addr}{L:List ji}{vs:List V}(h:sM Fr H p mp sp t room stk ends U)(hr:H rl=some (.lst vs))(al:aO (RsmAt H) L vs)(n:L.length=stk.length+1)(ok:kS t room stk L)(k:∀ r o v H',Same H H'->eL t room stk ends L r o->GJ H' o v->Q v H'):e9 K (.ref rl) (.int (-1)) H fun x H1=>uP [.ref mp,x] H1 Q E:=by
 obtain⟨us,w,rfl⟩ : ∃ a b,vs=a++[b]:=by
  rcases RN vs with rfl|⟨a,b,rfl⟩
  .have:=al.len;rw[n]at this;cases this
  .exact⟨a,b,by simp⟩
 have ul:us.length=stk.length:=by have:=al.len;rw[O6,n]at this;simpa using this.symm
 obtain⟨r,er,rd,T,rfl,R⟩:=al.get (i:=us.length) (y:=w) (by simp);obtain⟨a,b,el,hm,he⟩:=h.m;exact⟨rl,_,_,_,rfl,rfl,SqL.of hr,mP us _,.mk hm he R h.ze fun o v H' s lo io=>k r o v H' s ⟨n,ok,ul▸er,lo⟩ io⟩
inductive yj (Fr:iH):Sp
 |mk {H:Hp} {p mp sp:Addr} {t:Pz.TD} {room:Int} {stk ends U:List Int} {Q:VK} {E:XK} (i:sM Fr H p mp sp t room stk ends U) (k:∀ L r o H',Same H H'->eL t room stk ends L r o->Q (nL o) H'):yj Fr [.ref p,.ref mp,.ref sp] H Q E
theorem AN (h:yj Fr vs H Q E):vs.length=3:=by cases h;rfl
def Mc (mg:Str->Option Tq)(Fr:iH):TE:=br yq [] E0 (ao (br (pH mg 2 Fr) [] E0 (ao (av 0) (ao (av 1) aG))) (ao (av 2) aG))
def N_ (K:To)(mg:Str->Option Tq)(Fr:iH):TS:=aP (bc (br uP [] E0 (ao (av 1) (ao (aX (e9 K) (Mc mg Fr) JG) aG))) (aE 3)) (b6 (MX (bp (aX rV (av 3) (tC .bJ))) (tC .bJ) (tI K 3 0)))
theorem D0 (h:yj Fr vs H Q E):N_ K mg Fr (eQ Q) (bh (nS 4) vs) H:=by
 obtain @⟨H,p,mp,sp,t,room,stk,ends,U,Q,E,i,k⟩:=h;refine⟨_,rfl,AL (σ:=[some (.ref p),some (.ref mp),some (.ref sp),none]) i (.c (.va rfl) (.c (.va rfl) .ni)) fun d kvs u H1 s1 nd hd hu al=>⟨_,rfl,?_⟩⟩;have i1:=i.more s1;obtain⟨sl,hp,hl⟩:=i1.s;refine .mk hd hu al i.z hp hl i.zs i.u i.zu fun rl L ws H2 s2 nr hr al2 n ok=>?_;have i2:=i1.more s2;refine⟨1,rfl,AM i2 hr al2 n ok fun r o v H3 s3 lt io=>?_⟩;have fin:=k L r o H3 ((s1.trans s2).trans s3) lt;cases o with
 |none=>cases (show v=.bJ from io);exact⟨_,rfl,rfl,_,rfl,cJ fin⟩
 |some x=>obtain⟨q,rfl,hq⟩:=io;exact⟨_,rfl,rfl,_,rfl,cf (Reads.ix (n:=0) (.va rfl) hq (v:=.int x.1) rfl _ fin)⟩
end
inductive fS (t:Pz.TD):Int->List Pz.Arr->Int->Int->Prop
 |nil {s:Int}:fS t s [] s 0
 |cons {a:Pz.Arr} {v:Pz.nv} {as:List Pz.Arr} {e c:Int}:(a,v)∈t->fS t a.2.2 as e c->fS t a.1 (a::as) e (v.1+c)
section
variable {K:To}{H H':Hp}{rl ar:Addr}{t:Pz.TD}{room e:Int}{stk:List Int}{vs:List V}{Q:VK}{E:XK}{L:List ji}{r:ji}
inductive BS:Sp
 |mk {H:Hp} {rl:Addr} {vs:List V} {L:List ji} {t:Pz.TD} {room e:Int} {stk:List Int} {r:ji} {Q:VK} {E:XK} (hr:H rl=some (.lst vs)) (al:aO (RsmAt H) L vs) (n:L.length=stk.length+1) (ok:kS t room stk L) (hl:L[stk.length]?=some r) (he:e∈r.ks) (zs:stk.length<1000)
  (k:∀ ar us as H',Same H H'->H ar=none->H' ar=some (.lst us)->aO (IsArr H') as.reverse us->fS t room as e (r.S e)->as.map (·.2.1)=stk->Q (.ref ar) H'):BS [.ref rl,.int e] H Q E
theorem AO (h:BS vs H Q E):vs.length=2:=by cases h;rfl
def Md (K:To):TS:=aP (bc (aX (gT K) (qR (av 3) (av 1)) (tC (.int 1))) (aE 4)) (aP (cg (tD K "list" cB (av 2) (ao (av 4) aG))) (bc (tI K 4 0) (aE 1)))
def Oa (K:To):TS:=aP (bc (cW aG) (aE 2)) (aP (eV (Iu K (ao (yY (o7 K) (av 0) (gR (tC (.int 1))) gf) aG)) (aE 3) (Md K)) (b6 (av 2)))
inductive Nq (rl ar:Addr) (H3:Hp) (t:Pz.TD) (stk:List Int) (L:List ji) (e c0:Int) (i:Nat):L2.St->Hp->Prop
 |mk {H':Hp} {us:List V} {as:List Pz.Arr} {st c:Int} {r:ji} {x3 x4:Option V}:Kp ar H3 H'->H' ar=some (.lst us)->aO (IsArr H') as.reverse us->fS t st as e c->as.map (·.2.1)=stk.drop (stk.length-i)->L[stk.length-i]?=some r->st∈r.ks->r.S st+c=c0->Nq rl ar H3 t stk L e c0 i [some (.ref rl),some (.int st),some (.ref ar),x3,x4] H'
theorem D3 (h:BS vs H Q E):Oa K (eQ Q) (bh (nS 5) vs) H:=by
 obtain @⟨H,rl,vs,L,t,room,e,stk,r,Q,E,hr,al,n,ok,hl,he,zs,k⟩:=h;refine⟨Pq _,fun ar har=>?_⟩;have s1:=az (o:=.lst []) har;have h1:upd H ar (.lst []) ar=some (.lst []):=aj;generalize upd H ar (.lst [])=H1 at s1 h1;refine⟨_,rfl,1,rfl,rl,vs,rfl,SqL.of (s1 _ _ hr),fun q hq=>?_⟩;rw[show(some (1:Int))=some ((1:Nat):Int) from rfl,kr];have s2:=az (o:=.lst (vs.drop 1)) hq;have h2:upd H1 q (.lst (vs.drop 1)) q=some (.lst (vs.drop 1)):=aj;have har2:=s2 _ _ h1;generalize upd H1 q (.lst (vs.drop 1))=H2 at s2 h2 har2;have nqa:q≠ar:=fun z=>by rw[z,h1]at hq;cases hq
 have s12:=s1.trans s2;have lv:=al.len;have ld:(vs.drop 1).length=stk.length:=by rw[Q0];lia
 refine⟨q,_,rfl,SqL.of h2,?_⟩;rw[ld];have al2:aO (RsmAt H2) L vs:=al.mono fun _ _ h=>h.more s12;refine km (n:=stk.length) (Nq rl ar H2 t stk L e (r.S e)) (.mk (as:=[]) (fun _ _ e _=>e) har2 .nil .nil (by simp) (by rw[Nat.sub_zero];exact hl) he (by lia)) (fun i σ' H' p hi=>?_) (fun σ' H' p=>O0 _) (fun i σ' H' x H'' D' hi p y k'=>?_) fun σ' H' p=>?_
 .cases p with|mk kp _ _ _ _ _ _ _=>exact⟨_,SqL.of (kp _ _ h2 nqa),ld,hi⟩
 .obtain @⟨H',us,as,st,c,r1,x3,x4,kp,ha,aa,pt,sg,hr1,hs,sm⟩:=p;obtain⟨rfl,y⟩:=y;have y:=y _ (SqL.of (kp _ _ h2 nqa));rw[List.getElem?_drop]at y;obtain⟨r2,e2,d,T,rfl,R⟩:=al2.get y;have ei:1+(stk.length-1-i)=stk.length-i:=by lia
  rw[ei,hr1]at e2;cases e2;obtain⟨r0,hr0⟩ : ∃ r0,L[stk.length-(i+1)]?=some r0:=⟨_,O1 (by lia)⟩;obtain⟨s,es⟩ : ∃ s,stk[stk.length-(i+1)]?=some s:=⟨_,O1 (by lia)⟩;have m:=ok.s _ r0 r1 s hr0 (by rw[show stk.length-(i+1)+1=stk.length-i by lia];exact hr1) es;obtain⟨a,ea,s',hs',p,hp,eb,en⟩:=m.v st hs;obtain⟨ek,v,hv,rfl⟩:=mem_ldT.mp hp;injection ek with ek1 ek2;subst ek1 ek2;have nX:H2 d=some (.dK (p_ r1.ks fun k=>.ref (T k))):=R.r;have nda:d≠ar:=fun z=>by rw[z,har2]at nX;cases nX
  obtain⟨w,hw,io⟩:=R.t st hs;rw[ea]at io;obtain⟨b,rfl,hb⟩:=io;have kt:KT H2 H'':=fun c w e=>kp _ _ e fun z=>by rw[z,har2]at e;cases e
  refine⟨_,rfl,_,rfl,d,_,rfl,by have:=DGet.k (k:=.inl st) (kp _ _ nX nda);rwa [oT,Pi hs]at this,T st,_,1,_,rfl,rfl,SqT.of (kt _ _ hw),rfl,_,rfl,.inl ⟨rfl,_,SqL.of ha⟩,_,rfl,_,_,_,rfl,rfl,ha,?_,?_⟩
  .have:=aa.len;have l2:=QH List.length sg;rw[O2,Q0]at l2;rw[List.length_reverse]at this;exact oS (by lia)
  have kt2:KT H'' (upd H'' ar (.lst (us++[.ref b]))):=.upd ha fun _ z=>(nomatch z);refine Reads.ix (n:=0) (.va rfl) (kt2 _ _ (kt _ _ hb)) (v:=.int a.1) rfl _ (k' _ _ (.mk (as:=a::as) (fun c u e n=>by rw[aA n];exact kp _ _ e n) aj ?_ (.cons hv (eb▸pt)) ?_ hr0 hs' ?_))
  .rw[List.reverse_cons];exact(aa.mono fun x v ⟨p,e,h⟩=>⟨p,e,kt2 _ _ h⟩).snoc ⟨b,rfl,kt2 _ _ (kt _ _ hb)⟩
  .rw[Ph,sg];have:=R7 (l:=stk) (i:=stk.length-(i+1)) (by lia);rw[this,show stk.length-(i+1)+1=stk.length-i by lia];rw[O1 (by lia)]at es;rw[Ps es]
  .rw[en]at sm;lia
 .obtain @⟨H',us,as,st,c,r1,x3,x4,kp,ha,aa,pt,sg,hr1,hs,sm⟩:=p;rw[Nat.sub_self,ok.z]at hr1;cases hr1;obtain rfl:st=room:=by simpa using hs
  have sm:(0:Int)+c=r.S e:=sm;rw[Si]at sm;subst sm;rw[Nat.sub_self]at sg;exact⟨_,rfl,k ar us as H' (fun c u e=>kp _ _ (s12 _ _ e) (aB e har)) har ha aa pt sg⟩
end
inductive ng (r:Pz.Rule) (mid:Option Int) (st:Int):List Pz.Arr->Prop
 |p0:r.2.2.2=[]->ng r mid st []
 |p1 {x:Int}:r.2.2.2=[x]->ng r mid st [(r.2.2.1,x,st)]
 |p2 {x y m:Int}:r.2.2.2=[x,y]->mid=some m->ng r mid st [(r.2.2.1,x,m),(m,y,st)]
section
variable {K:To}{H H':Hp}{t:Pz.TD}{σ:L2.St}{vs:List V}{Q:VK}{E:XK}
inductive BJ:Sp
 |mk {H:Hp} {r:Pz.Rule} {v:V} {mid:Option Int} {st:Int} {ps:List Pz.Arr} {Q:VK} {E:XK} (hr:IsRule H r v) (pp:ng r mid st ps) (k:∀ l us H',Same H H'->H l=none->H' l=some (.lst us)->aO (IsArr H') ps.reverse us->Q (.ref l) H'):BJ [v,vO mid,.int st] H Q E
theorem AQ (h:BJ vs H Q E):vs.length=3:=by cases h;rfl
abbrev AR (K:To)(n:Int):TE:=aX (gT K) (tI K 0 3) (tC (.int n))
def JJ (K:To)(n:Int):TT:=bp (aX n_ (ii (g_ K) (ao (tI K 0 3) aG)) (tC (.int n)))
def uG (a b c:TE):TE:=b8 (ao a (ao b (ao c aG)))
def Ob (K:To):TS:=aP (cI (JJ K 0) (b6 (cW aG)) bY) (aP (cI (JJ K 1) (b6 (cW (ao (uG (tI K 0 2) (AR K 0) (av 2)) aG))) bY) (b6 (cW (ao (uG (av 1) (AR K 1) (av 2)) (ao (uG (tI K 0 2) (AR K 0) (av 1)) aG)))))
theorem D4 (h:BJ vs H Q E):Ob K (eQ Q) (bh (nS 3) vs) H:=by
 obtain @⟨H,r,v,mid,st,ps,Q,E,⟨p,q,rfl,hp,hq⟩,pp,k⟩:=h;have r3:∀{H'},Same H H'->Reads (tI K 0 3) [some (.ref p),some (vO mid),some (.int st)] H' (.ref q):=fun s=>.ix (n:=3) (.va rfl) (s _ _ hp) (v:=.ref q) rfl;have r2:∀{H'},Same H H'->Reads (tI K 0 2) [some (.ref p),some (vO mid),some (.int st)] H' (.int r.2.2.1):=fun s=>.ix (n:=2) (.va rfl) (s _ _ hp) (v:=.int r.2.2.1) rfl;have s0:Same H H:=fun _ _ e=>e;have len:∀ n,Reads (aX n_ (ii (g_ K) (ao (tI K 0 3) aG)) (tC (.int n))) [some (.ref p),some (vO mid),some (.int st)] H (.bl (decide (((r.2.2.2.map V.int).length:Int)=n))):=fun n=>.B8 (.len (r3 s0) hq) .k;have len':∀ n,((r.2.2.2.map V.int).length:Int)=n↔(r.2.2.2.length:Int)=n:=fun n=>by rw[O2]
 cases pp with
 |p0 e=>exact len 0 _ ⟨_,rfl,by rw[O_ ((len' 0).mpr (by rw[e];rfl))];exact cJ ⟨Pq _,fun l hl=>k l [] _ (az hl) hl aj .nil⟩⟩
 | @p1 x e=>
  refine len 0 _ ⟨_,rfl,?_⟩;rw[Pp (fun z=>by rw[len',e]at z;cases z)];refine cf (len 1 _ ⟨_,rfl,?_⟩);rw[O_ ((len' 1).mpr (by rw[e];rfl))];rw[e]at hq;refine cJ ?_
  delta b6 cW ao uG
  refine gr (σ:=[some (.ref p),some (vO mid),some (.int st)]) (ws:=[.int r.2.2.1,.int x,.int st]) (.c (r2 s0) (.c (.ix (n:=0) (r3 s0) hq (v:=.int x) rfl) (.c (.va rfl) .ni))) rfl fun a ha=>⟨by show 1<=_;rw[Pn];lia,fun l hl=>?_⟩;have s1:=az (o:=.tup [.int r.2.2.1,.int x,.int st]) ha;exact k l _ _ (s1.trans (az hl)) (s1.free hl) aj (.cons ⟨a,rfl,az hl _ _ aj⟩ .nil)
 | @p2 x y m e em=>
  refine len 0 _ ⟨_,rfl,?_⟩;rw[Pp (fun z=>by rw[len',e]at z;cases z)];refine cf (len 1 _ ⟨_,rfl,?_⟩);rw[Pp (fun z=>by rw[len',e]at z;cases z)];rw[e]at hq;subst em;refine cf (?_:b6 (cW (ao (uG (av 1) (AR K 1) (av 2)) (ao (uG (tI K 0 2) (AR K 0) (av 1)) aG))) (eQ Q) [some (.ref p),some (.int m),some (.int st)] H)
  delta b6 cW ao uG
  refine gr (σ:=[some (.ref p),some (.int m),some (.int st)]) (ws:=[.int m,.int y,.int st]) (.c (.va (i:=1) rfl) (.c (.ix (n:=1) (r3 s0) hq (v:=.int y) rfl) (.c (.va (i:=2) rfl) .ni))) rfl fun a ha=>?_;have s1:=az (o:=.tup [.int m,.int y,.int st]) ha;have h1:upd H a (.tup [.int m,.int y,.int st]) a=some (.tup [.int m,.int y,.int st]):=aj;generalize upd H a (.tup [.int m,.int y,.int st])=H1 at s1 h1;refine gr (σ:=[some (.ref p),some (.int m),some (.int st)]) (ws:=[.int r.2.2.1,.int x,.int m]) (.c (r2 s1) (.c (.ix (n:=0) (r3 s1) (s1 _ _ hq) (v:=.int x) rfl) (.c (.va (i:=1) rfl) .ni))) rfl fun b hb=>⟨by show 2<=_;rw[Pn];lia,fun l hl=>?_⟩;have s2:=az (o:=.tup [.int r.2.2.1,.int x,.int m]) hb;exact k l _ _ ((s1.trans s2).trans (az hl)) ((s1.trans s2).free hl) aj (.cons ⟨a,rfl,az hl _ _ (s2 _ _ h1)⟩ (.cons ⟨b,rfl,az hl _ _ aj⟩ .nil))
inductive jU (RL:List Pz.Rule) (t:Pz.TD):Nat->List Pz.Arr->List Int->Prop
 |nil:jU RL t 0 [] []
 |none {a:Pz.Arr} {v:Pz.nv} {as:List Pz.Arr} {ns:List Int} {n:Nat}:(a,v)∈t->v.2.1=none->jU RL t n as ns->jU RL t (n+1) (a::as) ns
 |rule {a:Pz.Arr} {v:Pz.nv} {as ps:List Pz.Arr} {ns:List Int} {n j:Nat} {r:Pz.Rule}:(a,v)∈t->v.2.1=some (j:Nat)->RL[j]?=some r->ng r v.2.2 a.2.2 ps->jU RL t n (ps++as) ns->jU RL t (n+1) (a::as) ((j:Nat)::ns)
theorem jU.len {RL:List Pz.Rule}{n:Nat}{as:List Pz.Arr}{ns:List Int}(h:jU RL t n as ns):as.length<=n/\ns.length<=n:=by
 induction h with
 |nil=>exact⟨O0 _,O0 _⟩
 |none _ _ _ ih=>simp only[Pg];lia
 |rule _ _ _ _ _ ih=>rw[O6]at ih;simp only[Pg];lia
theorem AS {kvs:List (List bC×V)}{a:Pz.Arr}{v:Pz.nv}(al:aO (IsTo H) t kvs)(nd:(t.map (·.1)).Nodup)(h:(a,v)∈t):∃ p,cw kvs (ak a)=some (.ref p)/\H p=some (.tup [.int v.1,vO v.2.1,vO v.2.2]):=by
 induction al with
 |nil=>cases h
 | @cons x kv xs ys hx _ ih=>
  rw[Ph,Qk]at nd;obtain⟨ek,p,ep,hp⟩:=hx;rcases O8.mp h with rfl|h
  .exact⟨p,by rw[cY ek,ep],hp⟩
  .rw[cZ fun z=>?_]
   .exact ih nd.2 h
   .rw[ek]at z;exact nd.1 (by rw[ur _ _ z];exact Pb.mpr ⟨(a,v),h,rfl⟩)
inductive BI:Sp
 |mk {H:Hp} {p rl d ar:Addr} {a b:V} {ws us:List V} {RL:List Pz.Rule} {t:Pz.TD} {u:HO} {kvs:List (List bC×V)} {as:List Pz.Arr} {ns:List Int} {n:Nat} {Q:VK} {E:XK} (hp:H p=some (.tup [a,b,.ref rl])) (hl:Rd H rl (.lst ws)) (ir:aO (IsRule H) RL ws) (hd:H d=some u) (hu:u=.dT kvs\/(u=.dK []/\kvs=[])) (al:aO (IsTo H) t kvs) (nd:(t.map (·.1)).Nodup) (ha:H ar=some (.lst us)) (aa:aO (IsArr H) as.reverse us) (w:jU RL t n as ns) (hn:n<1000000)
  (k:∀ l H',Same H H'->H l=none->H' l=some (.lst (ns.map .int))->Q (.ref l) H'):BI [.ref p,.ref d,.ref ar] H Q E
theorem AT (h:BI vs H Q E):vs.length=3:=by cases h;rfl
def AU (K:To)(n:Int):TE:=aX (gT K) (qR (av 1) (av 5)) (tC (.int n))
def JK (K:To):TS:=cg (tD K "list" vd (av 3) (ao (br BJ [] E0 (ao (aX (e9 K) (tI K 0 2) (av 6)) (ao (AU K 2) (ao (tI K 5 2) aG)))) aG))
def GK (K:To):TS:=cI (bp (aX (fun x y H Q=>y=.bJ/\Q (.bl (!decide (x=.bJ))) H) (av 6) (tC .bJ))) (aP (cg (tD K "list" cB (av 4) (ao (av 6) aG))) (JK K)) bY
def JL (K:To):TS:=aP (bc (CH K "list" Ik (av 3)) (aE 5)) (aP (bc (AU K 1) (aE 6)) (GK K))
def Oc (K:To):TS:=aP (bc (ii (gu K) (ao (av 2) aG)) (aE 3)) (aP (bc (cW aG) (aE 4)) (aP (oY (GB K (av 3)) (JL K)) (b6 (av 4))))
def ss (p d ar dl nl:Addr)(x5 x6:Option V):L2.St:=[some (.ref p),some (.ref d),some (.ref ar),some (.ref dl),some (.ref nl),x5,x6]
inductive K5 (p d ar dl nl:Addr) (H2:Hp) (RL:List Pz.Rule) (t:Pz.TD) (ns:List Int) (n:Nat):L2.St->Hp->Prop
 |mk {H':Hp} {us:List V} {as:List Pz.Arr} {dn rs:List Int} {x5 x6:Option V}:(∀ c u,H2 c=some u->c≠dl->c≠nl->H' c=some u)->H' dl=some (.lst us)->aO (IsArr H') as.reverse us->H' nl=some (.lst (dn.map .int))->ns=dn++rs->n<1000000->jU RL t n as rs->K5 p d ar dl nl H2 RL t ns n (ss p d ar dl nl x5 x6) H'
theorem AV {d b:Addr}{u:HO}{kvs:List (List bC×V)}{a:Pz.Arr}{v:Pz.nv}{x:V}{n:Int}(hd:H d=some u)(hu:u=.dT kvs\/(u=.dK []/\kvs=[]))(al:aO (IsTo H) t kvs)(nd:(t.map (·.1)).Nodup)(h:(a,v)∈t)(hb:H b=some (.tup (f9 a)))(h1:σ[1]?=some (some (.ref d)))(h5:σ[5]?=some (some (.ref b)))(e:tz [.int v.1,vO v.2.1,vO v.2.2] n=some x):Reads (AU K n) σ H x:=by
 obtain⟨p,ep,hp⟩:=AS al nd h;obtain rfl:u=.dT kvs:=hu.resolve_right fun z=>by rw[z.2]at ep;cases ep
 exact .ix (b:=p) (fun Q q=>⟨_,h1,_,h5,d,_,rfl,by have:=DGet.t (k:=ak a) hd hb;rwa [ep]at this,q⟩) hp e
theorem D5 (h:BI vs H Q E):Oc K (eQ Q) (bh (nS 7) vs) H:=by
 obtain @⟨H,p,rl,d,ar,a0,b0,ws,us,RL,t,u,kvs,as,ns,n,Q,E,hp,hl,ir,hd,hu,al,nd,ha,aa,w,hn,k⟩:=h;refine⟨_,rfl,ar,us,rfl,.inl (.inl (.inl ha)),fun dl hdl=>⟨Pq _,fun nl hnl=>?_⟩⟩;have s1:=az (o:=.lst us) hdl;have h1:upd H dl (.lst us) dl=some (.lst us):=aj;generalize upd H dl (.lst us)=H1 at s1 h1 hnl;have s2:=az (o:=.lst []) hnl;have h2:upd H1 nl (.lst []) nl=some (.lst []):=aj;have hdl2:=s2 _ _ h1;generalize upd H1 nl (.lst [])=H2 at s2 h2 hdl2;have s12:=s1.trans s2;have ndn:dl≠nl:=fun z=>by rw[z]at h1;rw[h1]at hnl;cases hnl
 have n1:∀{c u},H c=some u->c≠dl/\c≠nl:=fun e=>⟨aB e hdl,aB (s1 _ _ e) hnl⟩;show oY (GB K (av 3)) (JL K) { nx:=b6 (av 4) (eQ Q),rt:=Q } (ss p d ar dl nl none none) H2;refine⟨K5 p d ar dl nl H2 RL t ns,⟨n,.mk (dn:=[]) (fun _ _ e _ _=>e) hdl2 (aa.mono fun x v ⟨p,e,h⟩=>⟨p,e,s12 _ _ h⟩) h2 rfl hn w⟩,?_⟩;have lw0:=w.len;rintro m σ H' @⟨H',us,as,dn,rs,x5,x6,kp,hdl,aa,hnl',ens,hm,w⟩;have up:∀{c u},H c=some u->H' c=some u:=fun e=>kp _ _ (s12 _ _ e) (n1 e).1 (n1 e).2;refine⟨_,rfl,_,.inl ⟨_,SqL.of hdl,rfl⟩,?_⟩;have al':aO (IsTo H') t kvs:=al.mono fun x kv h=>h.keep fun _ _ e=>up e;have step:∀{a as'},as=a::as'->∃ b zs,us=zs++[.ref b]/\H' b=some (.tup (f9 a))/\aO (IsArr H') as'.reverse zs:=fun e=>by rw[e,List.reverse_cons]at aa;obtain⟨zs,y,rfl,a1,b,rfl,hb⟩:=aa.Hy;exact⟨b,zs,rfl,hb,a1⟩
 have lw:=w.len;cases w with
 |nil=>cases aa;rw[Rm]at ens;subst ens;exact cf ⟨_,rfl,k nl H' (fun c u e=>up e) (s1.free hnl) hnl'⟩
 | @none a v as' _ m' hv e0 w'=>
  obtain⟨b,zs,rfl,hb,a1⟩:=step rfl;rw[show(!(zs++[V.ref b]).isEmpty)=true by simp];refine cJ ⟨fun σ' H''=>K5 p d ar dl nl H2 RL t ns m' σ' H'',fun σ' H'' z=>⟨m',QO _,z⟩,_,rfl,.inl ⟨rfl,_,SqL.of hdl⟩,dl,zs++[.ref b],.ref b,rfl,rfl,hdl,by simp,?_⟩;rw[List.dropLast_concat];have kt:KT H' (upd H' dl (.lst zs)):=.upd hdl fun _ z=>(nomatch z);have k3:∀ c u,H' c=some u->c≠dl->upd H' dl (.lst zs) c=some u:=fun c u e n=>by rw[aA n];exact e
  have h3:upd H' dl (.lst zs) dl=some (.lst zs):=aj;generalize upd H' dl (.lst zs)=H3 at kt k3 h3;show aP (bc (AU K 1) (aE 6)) (GK K) _ (ss p d ar dl nl (some (.ref b)) x6) H3;refine AV (σ:=ss p d ar dl nl (some (.ref b)) x6) (k3 _ _ (up hd) (n1 hd).1) hu (al'.mono fun x kv h=>h.keep kt) nd hv (kt _ _ hb) rfl rfl (x:=.bJ) (by rw[e0];rfl) _ ⟨_,rfl,rfl,_,rfl,cf (.mk (fun c u e n n'=>k3 _ _ (kp _ _ e n n') n) h3 (a1.mono fun x v ⟨p,e,h⟩=>⟨p,e,kt _ _ h⟩) (k3 _ _ hnl' (Qn ndn)) ens (by lia) w')⟩
 | @rule a v as' ps rs' m' j r hv e0 hr pp w'=>
  obtain⟨b,zs,rfl,hb,a1⟩:=step rfl;rw[show(!(zs++[V.ref b]).isEmpty)=true by simp];refine cJ ⟨fun σ' H''=>K5 p d ar dl nl H2 RL t ns m' σ' H'',fun σ' H'' z=>⟨m',QO _,z⟩,_,rfl,.inl ⟨rfl,_,SqL.of hdl⟩,dl,zs++[.ref b],.ref b,rfl,rfl,hdl,by simp,?_⟩;rw[List.dropLast_concat];have kt:KT H' (upd H' dl (.lst zs)):=.upd hdl fun _ z=>(nomatch z);have k3:∀ c u,H' c=some u->c≠dl->upd H' dl (.lst zs) c=some u:=fun c u e n=>by rw[aA n];exact e
  have h3:upd H' dl (.lst zs) dl=some (.lst zs):=aj;generalize upd H' dl (.lst zs)=H3 at kt k3 h3;have a3:=a1.mono fun x v (⟨p,e,h⟩ : IsArr H' x v)=>(⟨p,e,kt _ _ h⟩ : IsArr H3 x v);have hn3:=k3 _ _ hnl' (Qn ndn);show aP (bc (AU K 1) (aE 6)) (GK K) _ (ss p d ar dl nl (some (.ref b)) x6) H3;have al3:=al'.mono fun x kv (h:IsTo H' x kv)=>h.keep kt;refine AV (σ:=ss p d ar dl nl (some (.ref b)) x6) (k3 _ _ (up hd) (n1 hd).1) hu al3 nd hv (kt _ _ hb) rfl rfl (x:=.int j) (by rw[e0];rfl) _ ⟨_,rfl,rfl,_,rfl,cJ ⟨_,rfl,.inl ⟨rfl,_,SqL.of hn3⟩,_,rfl,nl,_,_,rfl,rfl,hn3,?_,?_⟩⟩
  .have:=QH List.length ens;rw[O6,Pg]at this;exact oS (by rw[O2];lia)
  have kt4:KT H3 (upd H3 nl (.lst (dn.map .int++[.int j]))):=.upd hn3 fun _ z=>(nomatch z);have k4:∀ c u,H3 c=some u->c≠nl->upd H3 nl (.lst (dn.map .int++[.int j])) c=some u:=fun c u e n=>by rw[aA n];exact e
  have h4:upd H3 nl (.lst (dn.map .int++[.int j])) nl=some (.lst ((dn++[(j:Int)]).map .int)):=by rw[aj,PX];rfl
  have hd4:=k4 _ _ h3 ndn;generalize upd H3 nl (.lst (dn.map .int++[.int j]))=H4 at kt4 k4 h4 hd4;have up4:∀{c u},H c=some u->H4 c=some u:=fun e=>k4 _ _ (k3 _ _ (up e) (n1 e).1) (n1 e).2;obtain⟨wv,ewv⟩ : ∃ wv,ws[j]?=some wv:=⟨_,O1 (by rw[<- ir.len];exact(O3.mp hr).1)⟩;obtain⟨r',er',hr'⟩:=ir.get ewv;rw[hr]at er';cases er';show JK K _ (ss p d ar dl nl (some (.ref b)) (some (.int j))) H4;have hl4:Rd H4 rl (.lst ws):=hl.imp (fun e=>up4 e) fun⟨o,e⟩=>⟨o,up4 e⟩;have kt04:KT H H4:=fun c w e=>up4 e;refine⟨_,rfl,.inl ⟨rfl,_,SqL.of hd4⟩,Reads.yz (j:=j) (.ix (n:=2) (.va (i:=0) rfl) (up4 hp) (v:=.ref rl) rfl) (.va (i:=6) rfl) hl4 ewv rfl _ (AV (σ:=ss p d ar dl nl (some (.ref b)) (some (.int j))) (up4 hd) hu (al3.mono fun x kv h=>h.keep kt4) nd hv (kt4 _ _ (kt _ _ hb)) rfl rfl (n:=2) (x:=vO v.2.2) rfl _ (Reads.ix (n:=2) (.va (i:=5) rfl) (kt4 _ _ (kt _ _ hb)) (v:=.int a.2.2) rfl _ (.mk (IsRule.keep kt04 _ _ hr') pp fun l ls H5 s5 nl5 hl5 a5=>?_)))⟩;have hd5:=s5 _ _ hd4;have l1:=a1.len;have l5:=a5.len;have w2:=w'.len;rw[O6]at w2;rw[List.length_reverse]at l1 l5;refine⟨dl,l,zs,ls,rfl,rfl,hd5,hl5,by rw[Pn];lia,?_⟩;have kt6:KT H5 (upd H5 dl (.lst (zs++ls))):=.upd hd5 fun _ z=>(nomatch z);refine .mk (as:=ps++as') (dn:=dn++[(j:Int)]) (fun c u e n n'=>by rw[aA n];exact s5 _ _ (k4 _ _ (k3 _ _ (kp _ _ e n n') n) n')) aj ?_ (by rw[aA (Qn ndn)];exact s5 _ _ h4) (by rw[ens,RQ];rfl) (by lia) w';rw[List.reverse_append];exact(a3.mono fun x v ⟨p,e,h⟩=>⟨p,e,kt6 _ _ (s5 _ _ (kt4 _ _ h))⟩).app (a5.mono fun x v ⟨p,e,h⟩=>⟨p,e,kt6 _ _ h⟩)
end
end L4
namespace L2
open PySem PySem.Spec PyProof.Rows
end L2
namespace L4
open PySem PySem.Spec PyProof.Rows L2 L3
section
variable {K:To}{mg:Str->Option Tq}{Fr:iH}{CN CT:Addr}{H H':Hp}{p mp sp:Addr}{t:Pz.TD}{room most:Int}{stk ends U:List Int}{σ:L2.St}{vs:List V}{Q:VK}{E:XK}
def RlAt (H:Hp)(p:Addr)(RL:List Pz.Rule):Prop:=∃ a b rl ws,H p=some (.tup [a,b,.ref rl])/\Rd H rl (.lst ws)/\aO (IsRule H) RL ws
theorem RlAt.more {RL:List Pz.Rule}(h:RlAt H p RL)(s:Same H H'):RlAt H' p RL:=let ⟨a,b,rl,ws,h1,h2,h3⟩:=h;⟨a,b,rl,ws,s _ _ h1,aK s h2,h3.mono (IsRule.keep (.of s))⟩
inductive BP (Fr:iH) (CN CT:Addr):Sp
 |mk {H:Hp} {p mp sp:Addr} {t:Pz.TD} {room most:Int} {stk ends U:List Int} {RL:List Pz.Rule} {Q:VK} {E:XK} (i:sM Fr H p mp sp t room stk ends U) (hr:RlAt H p RL) (nd:(t.map (·.1)).Nodup) (al:∀ as e c,fS t room as e c->as.map (·.2.1)=stk->c<=most->∃ n ns,jU RL t n as ns/\n<1000000)
  (k:∀ L r v e as n ns l H',Same H H'->eL t room stk ends L r (some (v,e))->v<=most->fS t room as e v->as.map (·.2.1)=stk->jU RL t n as ns->H l=none->H' l=some (.lst (ns.map .int))->Q (.ref l) H')
  (xn:∀ L r,eL t room stk ends L r none->∀ H',Same H H'->E (.ref CN) none H') (xt:∀ L r v e,eL t room stk ends L r (some (v,e))->most<v->∀ H',Same H H'->E (.ref CT) none H'):BP Fr CN CT [.ref p,.ref mp,.ref sp,.int most] H Q E
theorem AW (h:BP Fr CN CT vs H Q E):vs.length=4:=by cases h;rfl
def Me:TS:=b6 (br BI [] E0 (ao (av 0) (ao (av 4) (ao (br BS [] E0 (ao (av 5) (ao (tI K 6 1) aG))) aG))))
def Mg (K:To)(CT:Addr)(E:XK)(m2:Str):TS:=aP (cI (bp (aX I0 (tI K 6 0) (av 3))) (tM (ao (tC (.str m2)) aG) (fun H=>E (.ref CT) none H)) bY) (Me (K:=K))
def Mh (K:To)(CN CT:Addr)(E:XK)(m1 m2:Str):TS:=aP (cI (bp (aX rV (av 6) (tC .bJ))) (tM (ao (tC (.str m1)) aG) (fun H=>E (.ref CN) none H)) bY) (Mg K CT E m2)
def Od (K:To)(mg:Str->Option Tq)(Fr:iH)(CN CT:Addr)(E:XK)(m1 m2:Str):TS:=aP (bc (br (pH mg 2 Fr) [] E0 (ao (av 0) (ao (av 1) aG))) (aE 4)) (aP (bc (br yq [] E0 (ao (av 4) (ao (av 2) aG))) (aE 5)) (aP (bc (br uP [] E0 (ao (av 1) (ao (aX (e9 K) (av 5) JG) aG))) (aE 6)) (Mh K CN CT E m1 m2)))
theorem D7 {m1 m2:Str}(h:BP Fr CN CT vs H Q E):Od K mg Fr CN CT E m1 m2 (eQ Q) (bh (nS 7) vs) H:=by
 obtain @⟨H,p,mp,sp,t,room,most,stk,ends,U,RL,Q,E,i,hr,nd,wk,k,xn,xt⟩:=h;refine AL (σ:=[some (.ref p),some (.ref mp),some (.ref sp),some (.int most),none,none,none]) i (.c (.va rfl) (.c (.va rfl) .ni)) fun d kvs u H1 s1 _ hd hu al=>?_;have i1:=i.more s1;obtain⟨sl,hp,hl⟩:=i1.s;refine⟨_,rfl,_,rfl,.mk hd hu al i.z hp hl i.zs i.u i.zu fun rl L ws H2 s2 nr hrl al2 n ok=>⟨_,rfl,_,rfl,1,rfl,AM (i1.more s2) hrl al2 n ok fun r o v H3 s3 lt io=>?_⟩⟩;have s13:=(s1.trans s2).trans s3;have l1:∀{m:Str},[V.str m].length<=sizeLine:=fun{m}=>by show 1<=_;rw[Pn];lia
 cases o with
 |none=>cases (show v=.bJ from io);exact⟨_,rfl,rfl,_,rfl,cJ ⟨l1,xn L r lt H3 s13⟩⟩
 |some x=>
  obtain⟨q,rfl,hq⟩:=io;obtain⟨lv,e⟩:=x;refine⟨_,rfl,rfl,_,rfl,cf (g9 (Reads.op (.ix (n:=0) (.va (i:=6) rfl) hq (v:=.int lv) rfl) (.va (i:=3) rfl) fun _ q=>⟨_,_,rfl,rfl,q⟩) (fun c=>⟨l1,xt L r lv e lt (by have:=PD c;lia) H3 s13⟩) fun c=>?_)⟩;have c:lv<=most:=by have:¬ most<lv:=fun z=>c (O_ (by lia));lia
  obtain⟨n',ok',hl',le1,le2,le3,le4⟩:=id lt;have al3:=al2.mono fun r v (h:RsmAt H2 r v)=>h.more s3;refine⟨_,rfl,_,rfl,_,rfl,Reads.ix (n:=1) (.va (i:=6) rfl) hq (v:=.int e) rfl _ (.mk (s3 _ _ hrl) al3 n ok hl' le2 i.zs fun ar us as H4 s4 _ ha aa pt sg=>?_)⟩;rw[<- le3]at pt;obtain⟨nn,ns,ag,hn⟩:=wk as e lv pt sg c;have s34:=s3.trans s4;obtain⟨a0,b0,r0,ws0,h1,h2,h3⟩:=hr.more (s13.trans s4);exact .mk h1 h2 h3 ((s2.trans s34) _ _ hd) hu (al.mono fun x kv h=>h.keep (.of (s2.trans s34))) nd ha aa ag hn fun l H5 s5 nl hl5=>k L r lv e as nn ns l H5 ((s13.trans s4).trans s5) lt c pt sg ag ((s13.trans s4).free nl) hl5
end
end L4
namespace L2
open PySem PySem.Spec PySem.Calls PyProof.Rows
end L2
namespace L4
open PySem PySem.Spec PyProof.Rows L2 L3
structure Dp (room last:Int) (RL:List Pz.Rule):Prop where
 l:0<=last
 a:∀ r∈RL,r.1=room/\r.2.2.1=room/\0<=r.2.1/\r.2.1<=last/\r.2.2.2.length<=2/\∀ x∈r.2.2.2,r.2.1<x/\x<=last
 e:∀ r∈RL,r.2.2.2=[]->r.2.1=last
 s:∀ g,0<=g->g<=last->∃ r∈RL,r.2.1=g
 o:RL.Pairwise fun r r'=>r.2.1<=r'.2.1
section
theorem map_nil {S:List Int}:decide (S.map V.int=[])=decide (S=[]):=by cases S<;>rfl
end
structure OG (P:List Pz.Rule) (ks:List Int) (S:Int->Int):Prop where
 nd:ks.Nodup
 m:∀ g,g∈ks↔∃ r∈P,r.2.1=g
 lo:∀ r∈P,S r.2.1<=1+(r.2.2.2.map S).sum
 ex:∀ g∈ks,∃ r∈P,r.2.1=g/\S g=1+(r.2.2.2.map S).sum
inductive HW (RL:List Pz.Rule):List Int->Rw->Rw->Prop
 |nil {x:Rw}:HW RL [] x x
 |cons {j:Nat} {r:Pz.Rule} {w:List Int} {ns:List Int} {y:Rw}:RL[j]?=some r->HW RL ns (r.2.2.1,r.2.2.2++w) y->HW RL ((j:Int)::ns) (r.1,r.2.1::w) y
section
variable {K:To}{H:Hp}{vs:List V}{Q:VK}{E:XK}
inductive uM:Sp
 |mk {H:Hp} {x:Int} {Q:VK} {E:XK} (k:Q (.bl true) H):uM [.int x] H Q E
theorem AX (h:uM vs H Q E):vs.length=1:=by cases h;rfl
theorem D8 (h:uM vs H Q E):N3 K (eQ Q) (bh (nS 1) vs) H:=by obtain @⟨H,x,Q,E,k⟩:=h;exact Reads.MV (dd:=.int x) (.va rfl) (.inl (.int x)) zX _ ⟨true,rfl,cJ (Reads.MV (dd:=.int x) (.va rfl) (.inl (.int x)) w8 _ ⟨false,rfl,k⟩)⟩
end
end L4
namespace L2
open PySem PySem.Spec PySem.Calls PyProof.Rows
end L2
namespace L4
open PySem PySem.Spec PyProof.Rows L2 L3
theorem aO.take {α β:Type}{R:α->β->Prop}{xs:List α}{ys:List β}(h:aO R xs ys):∀ j,aO R (xs.take j) (ys.take j):=by
 induction h with
 |nil=>intro j;rw[List.take_nil,List.take_nil];exact .nil
 |cons a t ih=>
  intro j;cases j with
  |zero=>exact .nil
  |succ j=>exact .cons a (ih j)
theorem xW (l:List Int)(a b:Option Int):∃ cs:List Int,cS (l.map V.int) a b=cs.map .int:=by unfold cS;rw[<- List.map_drop,<- List.map_take];exact⟨_,rfl⟩
section
def JM (a b:Int):TE:=aX bP (aX dj (av 1) (tC (.int a))) (tC (.int b))
end
structure NE (K:To) (mg:Str->Option Tq) (x:Str) (st:Stmt) (ps:List Str) (n:Int) where
 f:Addr
 fd:FuncData
 tk:Tok
 h:Nz K mg x st ps (.int n tk) f fd
section
variable {K KK:To}{x:Str}{st:Stmt}{f T:Addr}{oc tc:Tq}{od an td:Option Addr}{osl tsl:Array (Option Tq)}{kV doc pm cdv ct:Tq}{tk:Tok}{m:Nat}{i:Int}
abbrev K4 (x:Str)(st:Stmt)(T:Addr)(kV doc pm:Tq)(an:Option Addr)(cdv ct:Tq):FuncData:=PySem.W.fnOf x x (b7 st) (bO st) (aD st) (.ref T) kV doc pm an cdv ct
def Mi (K KK:To)(x:Str)(st:Stmt)(i:Int):Prop:=∃ f T oc tc od an td osl tsl kV doc pm cdv ct tk m,PySem.W.nsIn K mainGlobals x=some (some (.ref f))/\KK.lookup f=some ⟨oc,od,.func (K4 x st T kV doc pm an cdv ct),osl⟩/\KK.lookup T=some ⟨tc,td,.seq #[.int i tk] m,tsl⟩/\PySem.W.codeIn KK cdv x=true/\PySem.W.keepIn KK (.ref f)=true
theorem Oe (a:PySem.W.nsIn K mainGlobals x=some (some (.ref f)))(l:KK.lookup f=some ⟨oc,od,.func (K4 x st T kV doc pm an cdv ct),osl⟩)(lT:KK.lookup T=some ⟨tc,td,.seq #[.int i tk] m,tsl⟩)(c:PySem.W.codeIn KK cdv x=true)(k:PySem.W.keepIn KK (.ref f)=true):Mi K KK x st i:=⟨_,_,_,_,_,_,_,_,_,_,_,_,_,_,_,_,a,l,lT,c,k⟩
variable {mg:Str->Option Tq}{ps:List Str}{h:Heap}
theorem Of (n:Nat)(hn:ps.length=n+1)(X:K.In h)(G:h.Ns mainGlobals mg)(k:Mi K KK x st i)
 (h0:∀(T:Addr)(kV doc pm:Tq)(an:Option Addr)(cdv ct:Tq)(tk:Tok),AllN (n+1) fun us=>∃ k,bindArgs (K4 x st T kV doc pm an cdv ct) ⟨us,[]⟩=seqItems? (.ref T) >>= k/\k (some #[.int i tk])=pure (ps.zip us):=by (repeat intro _);exact⟨_,rfl,rfl⟩)
 (h1:∀(T:Addr)(kV doc pm:Tq)(an:Option Addr)(cdv ct:Tq)(tk:Tok),AllN n fun us=>∃ k,bindArgs (K4 x st T kV doc pm an cdv ct) ⟨us,[]⟩=seqItems? (.ref T) >>= k/\k (some #[.int i tk])=pure (ps.zip (us++[.int i tk])):=by (repeat intro _);exact⟨_,rfl,rfl⟩):Nonempty (NE KK mg x st ps i):=by
 obtain⟨f,T,oc,tc,od,an,td,osl,tsl,kV,doc,pm,cdv,ct,tk,m,a,l,lT,c,kp⟩:=k;exact⟨f,_,tk,Gu l lT c kp (Ss X G a) (fun us e=>(h0 T kV doc pm an cdv ct tk).of us (e.trans hn)) fun us e=>(h1 T kV doc pm an cdv ct tk).of us (Nat.succ.inj (e.trans hn))⟩
end
section
variable {P:Tp}{w:World}{K:To}{mg:Str->Option Tq}{base:Heap}
theorem JN {x qual:Str}{st:Stmt}{f:Addr}{fd:FuncData}{N ps:List Str}{k:Nat}{sp:Sp}(F:Ku K x qual st f fd)(S:aU N ps (aD st))(len:∀ vs H Q E,sp vs H Q E->vs.length=ps.length)
 (body:∀(cdv:Tq)(A:Ts)(outer:List Env)(s:Tn)(H:Hp)(vs:List V)(Q:VK)(E:XK),cT k (A.deeper (envOfC qual (aD st) s.heap.objs.size f cdv))->sp vs H Q E->
   ∃ t,PSs (qX P w K mg base N qual (aD st) f cdv A outer s H E) (bO st) t/\t (eQ Q) (bh N vs) H):bE P w K mg base (CM P w) (k+1) f fd ps sp:=by
 obtain⟨oc,od,dV,kV,doc,pm,an,cdv,ct,osl,rfl,lk,hcd⟩:=F.ex;exact yV lk hcd S len fun A outer s H vs Q E hr hsp=>body cdv A outer s H vs Q E hr hsp
end
structure Nt (room last:Int) (RL:List Pz.Rule) (ks:List Int) (S:Int->Int) (TL:List Pz.Rule) (t:Pz.TD):Prop where
 dp:Dp room last RL
 z:RL.length<=61
 sm:OG RL ks S
 m:∀ r,r∈TL↔r∈RL
 g:Pz.Good TL [] (ks.map fun g=>(room,g,room)) t
section
variable {room last:Int}{RL TL:List Pz.Rule}{ks:List Int}{S:Int->Int}{t:Pz.TD}
variable (A:Nt room last RL ks S TL t)
include A
omit A in
theorem fS.app {a b c:List Pz.Arr}{s e f p q:Int}(h:fS t s a e p)(k:fS t e b f q):fS t s (a++b) f (p+q):=by
 induction h with
 |nil=>rw[Si];exact k
 |cons m _ ih=>rw[Int.add_assoc];exact .cons m (ih k)
omit A in
theorem ng.det {r:Pz.Rule}{mid:Option Int}{st:Int}{a b:List Pz.Arr}(h:ng r mid st a)(k:ng r mid st b):a=b:=by cases h<;>cases k<;>grind
end
section
variable {room last:Int}{RL TL:List Pz.Rule}{ks:List Int}{S:Int->Int}{t:Pz.TD}
variable (A:Nt room last RL ks S TL t)
include A
omit A in
end
section
variable {X:Cx}{K:To}{H H':Hp}{a q p d tl:Addr}{ks es:List bV}{vs tv ws:List V}{v:V}{k:bV}{Q:VK}{E:XK}
abbrev GL (ks:List bV):List (List bC×V):=ks.map fun k=>(k2 k,V.bl true)
theorem AY:∀(es ks:List bV),∃ ks',fG (GL ks) (GL es)=GL ks'/\∀ k,k∈ks'↔k∈ks\/k∈es:=by
 intro es;induction es with
 |nil=>intro ks;exact⟨ks,rfl,fun k=>by simp⟩
 |cons e es ih=>
  intro ks;by_cases h:e∈ks
  .obtain⟨ks',e1,e2⟩:=ih ks;refine⟨ks',?_,fun k=>?_⟩
   .show fG (bU _ (k2 e) (V.bl true)) _=_;rw[Js (f:=fun _=>V.bl true) h,<- e1];congr 1;refine Qa fun j _=>?_;by_cases z:j=e
    .rw[z,kO]
    .rw[iV z]
   .rw[e2,O8];constructor
    .rintro (h|h)
     .exact .inl h
     .exact .inr (.inr h)
    .rintro (h'|rfl|h')
     .exact .inl h'
     .exact .inl h
     .exact .inr h'
  .obtain⟨ks',e1,e2⟩:=ih (ks++[e]);refine⟨ks',?_,fun k=>?_⟩
   .show fG (bU _ (k2 e) (V.bl true)) _=_;rw[gU _ (by rw[E3 (f:=fun _=>V.bl true),Pl h]),<- e1,show GL (ks++[e])=GL ks++[(k2 e,V.bl true)] from PX]
   .rw[e2,Pf,O9,O8,or_assoc]
inductive By:Sp
 |mk {H:Hp} {tl:Addr} {tv:List V} {es:List bV} {Q:VK} {E:XK} (hl:Rd H tl (.lst tv)) (al:aO (IsSet H) es tv) (hz:es.length<1000) (k:∀ d ks H',Same H H'->H d=none->H' d=some (.dT (GL ks))->(∀ k,k∈ks↔k∈es)->Q (.ref d) H'):By [.ref tl] H Q E
theorem AZ (h:By vs H Q E):vs.length=1:=by cases h;rfl
theorem D9 {scope:Scope}{tg elt:Expr}{tN:List Str}(h1:tN.length=1)(hg:∀ cl C s3 H3 fp,PG (bH X scope (tN++[]) cl C s3 H3 fp) tg (aE 0))(he:∀ cl C s3 H3 fp,PE (bH X scope (tN++[]) cl C s3 H3 fp) elt LV)(h:By vs H Q E):NW X scope tg elt tN (eQ Q) (bh (nS 1) vs) H:=by
 obtain @⟨H,tl,tv,es,Q,E,hl,al,hz,k⟩:=h;have ln:=al.len;refine⟨_,rfl,tl,rfl,⟨_,.inl hl⟩,?_⟩;refine je (n:=es.length) hg (fun _ _ _ _ _=>lh) he (fun Dl i acc H'=>Same H H'/\H' Dl=some (.lst acc)/\aO (fun k v=>Pk H' (.bl true) k v) (es.take i) acc/\H Dl=none) (fun Dl hD=>⟨az hD,aj,.nil,hD⟩) (fun h=>h.2.1) (fun Dl i acc H' ⟨sm,_⟩ hi=>⟨tv,tv[i]'(by lia),.inl (aK sm hl),O1 _⟩) (fun Dl acc H' ⟨sm,_⟩=>⟨tv,.inl (aK sm hl),by lia⟩) (fun Dl i acc H' xv H'' o hi ⟨sm,hD,a2,nD⟩ yy ho=>?_) fun Dl acc H' hD ⟨sm,hD',a2,_⟩=>?_
 .obtain⟨rfl,yy⟩:=yy;have hx:=yy _ (.inl (aK sm hl));obtain⟨t,ht',b,rfl,hb⟩:=al.get hx;rw[h1]at ho;obtain⟨u0,rfl⟩:=QD.mp ho;refine⟨fun j hj=>?_,cJ (gr (ws:=[.ref b,.bl true]) (.c (.va rfl) (.c .k .ni)) rfl fun p hp=>?_)⟩
  .rw[h1]at hj;obtain⟨j,rfl⟩:=Qb hj;rfl
  .have np:Dl≠p:=aB hD hp;have s2:Same H'' (upd H'' p (.tup [.ref b,.bl true])):=az hp;have k3:KT H'' (upd (upd H'' p (.tup [.ref b,.bl true])) Dl (.lst (acc++[.ref p]))):=(KT.of s2).trans (.upd (s2 _ _ hD) fun _ z=>(nomatch z));refine⟨s2 _ _ hD,oS (by rw[<- a2.len,Qi];lia),fun c u e=>?_,aj,?_,nD⟩
   .rw[aA (aB e nD)];exact s2 _ _ (sm _ _ e)
   .rw[PV,ht'];exact(a2.mono fun k v h=>h.keep k3).snoc ⟨p,b,rfl,by rw[aA (Qn np),aj],k3 _ _ (sm _ _ hb)⟩
 .rw[Qx]at a2;obtain⟨ks',e1,e2⟩:=AY es [];refine⟨Dl,acc,_,rfl,.inl hD',Aw (f:=fun _=>V.bl true) a2,fun d hd=>?_⟩;have e1:fG [] (es.map fun k=>(k2 k,V.bl true))=GL ks':=e1;rw[e1];exact k d ks' _ (sm.trans (az hd)) (sm.free hd) aj fun k=>(e2 k).trans ⟨fun h=>h.resolve_left (nomatch ·),.inr⟩
noncomputable def dM (es:List bV)(RL:List Pz.Rule):List Pz.Rule:=RL.filter fun r=>decide ((r.1,r.2.1)∈es)
inductive sL:Sp
 |mk {H:Hp} {p rl tl:Addr} {a b:V} {ws tv:List V} {RL:List Pz.Rule} {es:List bV} {Q:VK} {E:XK} (hp:H p=some (.tup [a,b,.ref rl])) (hl:Rd H rl (.lst ws)) (ir:aO (IsRule H) RL ws) (ht:Rd H tl (.lst tv)) (al:aO (IsSet H) es tv) (hz:es.length<1000) (zr:RL.length<1000)
  (k:∀ q l us H',Same H H'->H l=none->H' q=some (.tup [a,b,.ref l])->H' l=some (.lst us)->aO (IsRule H') (dM es RL) us->Q (.ref q) H'):sL [.ref p,.ref tl] H Q E
theorem xX (h:sL vs H Q E):vs.length=2:=by cases h;rfl
def JO:TT:=bp (aX (F3 false) (br m7 [] E0 (ao (av 0) aG)) (av 1))
structure MR (X:Cx) (scope:Scope) (tg elt:Expr) (tN capN:List Str) (caps:List Nat) (ifs:List Expr):Prop where
 h:tN.length=1
 c:caps=[2]
 g:∀ cl C s3 H3 fp,PG (bH X scope (tN++capN) cl C s3 H3 fp) tg (aE 0)
 t:∀ cl C s3 H3 fp,BV (bH X scope (tN++capN) cl C s3 H3 fp) ifs JO
 e:∀ cl C s3 H3 fp,PE (bH X scope (tN++capN) cl C s3 H3 fp) elt (av 0)
def Mj (X:Cx)(scope:Scope)(tg elt:Expr)(tN capN:List Str)(caps:List Nat)(ifs:List Expr):TS:=aP (bc (br By [] E0 (ao (av 1) aG)) (aE 2)) (b6 (b8 (ao (tI X.K 0 0) (ao (tI X.K 0 1) (ao (oM X scope tg tN capN caps elt ifs (cC X.K (tI X.K 0 2))) aG)))))
theorem A4 {scope:Scope}{tg elt:Expr}{tN capN:List Str}{caps:List Nat}{ifs:List Expr}(c:MR X scope tg elt tN capN caps ifs)(h:sL vs H Q E):Mj X scope tg elt tN capN caps ifs (eQ Q) (bh (nS 3) vs) H:=by
 obtain @⟨H,p,rl,tl,a,b,ws,tv,RL,es,Q,E,hp,hl,ir,ht,al,hz,zr,k⟩:=h;refine⟨_,rfl,.mk ht al hz fun d ks H1 s1 nd hd hk=>?_⟩;have hp1:=s1 _ _ hp;have hl1:=aK s1 hl;have ir1:=ir.mono (IsRule.keep (.of s1));refine Reads.ix (n:=0) (.va (i:=0) rfl) hp1 (v:=a) rfl _ (Reads.ix (n:=1) (.va (i:=0) rfl) hp1 (v:=b) rfl _ (Reads.ix (n:=2) (.va (i:=0) rfl) hp1 (v:=.ref rl) rfl _ ⟨rl,rfl,⟨_,.inl hl1⟩,?_⟩));have ln:=ir1.len;refine je (n:=RL.length) c.g c.t c.e (fun Dl i acc H'=>Same H1 H'/\H' Dl=some (.lst acc)/\aO (IsRule H') (dM es (RL.take i)) acc/\H1 Dl=none) (fun Dl hD=>⟨az hD,aj,.nil,hD⟩) (fun h=>h.2.1) (fun Dl i acc H' ⟨sm,_⟩ hi=>⟨ws,ws[i]'(by lia),.inl (aK sm hl1),O1 _⟩) (fun Dl acc H' ⟨sm,_⟩=>⟨ws,.inl (aK sm hl1),by lia⟩) (fun Dl i acc H' xv H'' ol hi ⟨sm',hD,a2,nD⟩ y hol=>?_) fun Dl acc H' hD ⟨sm',hD',a2,_⟩=>?_
 .obtain⟨rfl,y⟩:=y;obtain⟨r,hr,b0,q0,rfl,hb,hq⟩:=ir1.get (y _ (.inl (aK sm' hl1)));have hb:=sm' _ _ hb;have hq:=sm' _ _ hq;rw[c.h]at hol;obtain⟨u0,rfl⟩:=QD.mp hol;rw[c.c];have et:RL.take (i+1)=RL.take i++[r]:=by rw[PV,hr];rfl
  refine⟨fun j hj=>?_,_,rfl,.mk hb fun hp' hhp=>?_⟩
  .rw[c.h]at hj;obtain⟨j,rfl⟩:=Qb hj;rfl
  have s2:=az (o:=.tup [.int r.1,.int r.2.1]) hhp;have h2:upd H'' hp' (.tup [.int r.1,.int r.2.1]) hp'=some (.tup ((k2 (r.1,r.2.1)).map kV)):=aj;have hD2:=s2 _ _ hD;have d2:=s2 _ _ (sm' _ _ hd);have b2:=s2 _ _ hb;have q2:=s2 _ _ hq;have sm2:=sm'.trans s2;have a3:=a2.mono (IsRule.keep (.of s2));generalize upd H'' hp' (.tup [.int r.1,.int r.2.1])=H3 at s2 h2 hD2 d2 b2 q2 sm2 a3;refine⟨_,rfl,d,_,rfl,.inl (DGet.t (k:=k2 (r.1,r.2.1)) d2 h2),_,rfl,?_⟩;rw[E3 (f:=fun _=>V.bl true)];have ll:=a3.len;have lf:(dM es (RL.take i)).length<=i:=Pu (QJ _ _) (List.length_take_le i RL);by_cases m:(r.1,r.2.1)∈ks
  .rw[Pi m];refine cJ ?_;have kt:KT H3 (upd H3 Dl (.lst (acc++[.ref b0]))):=.upd hD2 fun _ z=>(nomatch z);refine⟨_,rfl,hD2,oS (by lia),fun c u e=>by rw[aA (aB e nD)];exact sm2 _ _ e,aj,?_,nD⟩;rw[et];unfold dM;rw[Qu,Q5 (by exact O_ ((hk _).mp m))];exact(a3.mono (IsRule.keep kt)).snoc ⟨b0,q0,rfl,kt _ _ b2,kt _ _ q2⟩
  .rw[Pl m];refine cf ⟨sm2,hD2,?_,nD⟩;rw[et];unfold dM;rw[Qu,Q3 (by intro z;exact m ((hk _).mpr (PD z)))];simpa[dM] using a3
 .rw[Qx]at a2;refine⟨by show 3<=_;rw[Pn];lia,fun q hq=>?_⟩;have s3:=az (o:=.tup [a,b,.ref Dl]) hq;exact k q Dl _ _ ((s1.trans sm').trans s3) (s1.free hD) aj (s3 _ _ hD') (a2.mono (IsRule.keep (.of s3)))
end
end L4
namespace L4
open PySem PySem.Spec PyProof.Rows L2 L3 ST
section
variable {X:Cx}{H:Hp}{σ:L2.St}{Q:VK}{hs:List Pz.Arr}{vs:List V}{l:Addr}
noncomputable def aL (x:Pz.Arr):List Int:=[x.1,x.2.1,x.2.2]
theorem A6 {x y:Pz.Arr}(h:aL x=aL y):x=y:=by unfold aL at h;injection h with a b;injection b with b c;injection c with c _;exact S5 a (S5 b c)
theorem D_:∀{hs:List Pz.Arr}{vs:List V},aO (IsArr H) hs vs->∃ its:List jv,TupsIn H vs its/\its.map (·.1)=hs.map aL:=by
 intro hs vs h;induction h with
 |nil=>exact⟨[],.nil,rfl⟩
 | @cons x v hs vs q _ ih=>obtain⟨its,t1,t2⟩:=ih;obtain⟨p,rfl,hp⟩:=q;exact⟨(aL x,p)::its,.cons ⟨rfl,hp⟩ t1,by rw[Ph,Ph,t2]⟩
def SrtA (ms:List Pz.Arr):Prop:=ms.Pairwise fun x y=>c9 (aL x) (aL y)=true
theorem mQ (x:Pz.Arr):c9 (aL x) (aL x)=false:=by unfold aL;simp[c9]
theorem A7 {x y:Pz.Arr}(h:c9 (aL x) (aL y)=true)(h':c9 (aL y) (aL x)=true):False:=by
 unfold aL at h h';simp only[c9]at h h'
 grind
theorem SrtA.nd {ms:List Pz.Arr}(h:SrtA ms):ms.Nodup:=h.imp fun{x y} h e=>by rw[e,mQ]at h;cases h
theorem ku:∀{a b:List Pz.Arr},SrtA a->SrtA b->(∀ x,x∈a↔x∈b)->a=b
 | [],b,_,_,m=>by
  cases b with
  |nil=>rfl
  |cons y b=>exact nomatch (m y).mpr O5
 |x::a,b,ha,hb,m=>by
  cases b with
  |nil=>exact nomatch (m x).mp O5
  |cons y b=>
   obtain⟨a1,a2⟩:=RF.mp ha;obtain⟨b1,b2⟩:=RF.mp hb;have e:x=y:=by
    rcases O8.mp ((m x).mp O5) with e|h
    .exact e
    .rcases O8.mp ((m y).mpr O5) with e|h'
     .exact e.symm
     .exact(A7 (a1 y h') (b1 x h)).elim
   subst e;refine QH (x::·) (ku a2 b2 fun z=>⟨fun hz=>?_,fun hz=>?_⟩)
   .rcases O8.mp ((m z).mp (O4 _ hz)) with e|h
    .have:=a1 z hz;rw[e,mQ]at this;cases this
    .exact h
   .rcases O8.mp ((m z).mpr (O4 _ hz)) with e|h
    .have:=b1 z hz;rw[e,mQ]at this;cases this
    .exact h
theorem GM {ta:TE}(h:Reads ta σ H (.ref l))(hl:Rd H l (.lst vs))(a:aO (IsArr H) hs vs)(hz:hs.length<=300)(jf:∀ m:List Pz.Arr,m.Nodup->(∀ x∈m,x∈hs)->m.length<=63)
 (k:∀ l' ms ws H',Same H H'->H l'=none->H' l'=some (.lst ws)->aO (IsArr H') ms ws->(∀ x,x∈ms↔x∈hs)->SrtA ms->Q (.ref l') H'):ii (Am X) (ao (ii (Al X) (ao ta aG)) aG) σ H Q:=by
 obtain⟨its,t1,t2⟩:=D_ a;have tat:=xc t1;have mem:∀ x∈its,∃ y∈hs,x.1=aL y:=fun x hx=>by
  have:x.1∈hs.map aL:=by rw[<- t2];exact Pb.mpr ⟨x,hx,rfl⟩
  obtain⟨y,hy,e⟩:=Pb.mp this;exact⟨y,hy,e.symm⟩
 refine h _ ⟨l,vs,its,rfl,hl,t1,by rw[<- a.len];exact hz,fun b es hb v=>?_⟩;have s1:=az (o:=.ext fun h=>SetAt X.w h b es) hb;refine⟨b,es,its,rfl,aj,v,fun x hx=>s1 _ _ (tat x hx),fun x hx z=>?_,fun m nd hm=>?_,fun l' ys hl' so=>?_⟩
 .obtain⟨y,_,e⟩:=mem x hx;rw[z]at e;cases e
 .have:∀ k∈m,∃ y:Pz.Arr,y∈hs/\aL y=k:=fun k hk=>by obtain⟨x,hx,e⟩:=hm k hk;obtain⟨y,hy,e2⟩:=mem x hx;exact⟨y,hy,e2.symm.trans e⟩
  have key:∀ m:List (List Int),(∀ k∈m,∃ y:Pz.Arr,y∈hs/\aL y=k)->∃ n:List Pz.Arr,n.map aL=m/\∀ y∈n,y∈hs:=fun m=>by
   induction m with
   |nil=>exact fun _=>⟨[],rfl,fun _ h=>nomatch h⟩
   |cons c m ih=>intro h;obtain⟨y,hy,e⟩:=h c O5;obtain⟨n,e2,hn⟩:=ih fun k hk=>h k (O4 _ hk);exact⟨y::n,by rw[Ph,e,e2],fun z hz=>(O8.mp hz).elim (fun e=>e▸hy) (hn z)⟩
  obtain⟨n,e,hn⟩:=key m this;subst e;rw[O2];exact jf n (List.Pairwise.of_map aL (fun _ _ h e=>h (by rw[e])) nd) hn
 .have s2:=s1.trans (az (o:=.lst (ys.map fun y=>.ref y.2)) hl');have nb:H l'=none:=s1.free hl';have ysm:∀ y∈ys,y∈its:=so.sub;have ex:∃ ms:List Pz.Arr,ms.map aL=ys.map (·.1)/\aO (IsArr (upd (upd H b (.ext fun h=>SetAt X.w h b es)) l' (.lst (ys.map fun y=>.ref y.2)))) ms (ys.map fun y=>.ref y.2):=by
   generalize upd (upd H b (.ext fun h=>SetAt X.w h b es)) l' (.lst (ys.map fun y=>.ref y.2))=H9 at s2;clear so hl';induction ys with
   |nil=>exact⟨[],rfl,.nil⟩
   |cons y ys ih=>obtain⟨ms,e1,e2⟩:=ih fun z hz=>ysm z (O4 _ hz);obtain⟨z,_,e3⟩:=mem y (ysm y O5);refine⟨z::ms,by rw[Ph,Ph,e1,e3],.cons ⟨y.2,rfl,?_⟩ e2⟩;have:=s2 _ _ (tat y (ysm y O5));rw[e3]at this;exact this
  obtain⟨ms,e1,e2⟩:=ex;refine k l' ms _ _ s2 nb aj e2 (fun x=>⟨fun hx=>?_,fun hx=>?_⟩) ?_
  .have:aL x∈ys.map (·.1):=by rw[<- e1];exact Pb.mpr ⟨x,hx,rfl⟩
   obtain⟨y,hy,e⟩:=Pb.mp this;obtain⟨z,hz,e3⟩:=mem y (so.sub y hy);rw[A6 (e.symm.trans e3)];exact hz
  .have:aL x∈its.map (·.1):=by rw[t2];exact Pb.mpr ⟨x,hx,rfl⟩
   obtain⟨z,hz,e⟩:=Pb.mp this;obtain⟨y,hy,e3⟩:=so.all z hz;have:aL x∈ms.map aL:=by rw[e1];exact Pb.mpr ⟨y,hy,e3.trans e⟩
   obtain⟨w,hw,e4⟩:=Pb.mp this;rw[<- A6 e4];exact hw
  .have:=so.pw;have pw:(ys.map (·.1)).Pairwise fun x y=>c9 x y=true:=QK.mpr this;rw[<- e1]at pw;exact QK.mp pw
end
section
variable {X:Cx}{H H':Hp}{vs:List V}{Q:VK}{E:XK}{σ:L2.St}
theorem JP {scope:Scope}{tg elt:Expr}{tN capN:List Str}{caps:List Nat}{H1:Hp}{Fin:Addr->List V->Hp->Prop}{J:L2.It}{gt:TG}{te:TE}(L:List Pz.Arr)(hz:L.length<1000)(hg:∀ cl C s3 H3 fp,PG (bH X scope (tN++capN) cl C s3 H3 fp) tg gt)(he:∀ cl C s3 H3 fp,PE (bH X scope (tN++capN) cl C s3 H3 fp) elt te)
 (go:∀ i H',Same H1 H'->i<L.length->J.go i H') (st:∀ H',Same H1 H'->J.stop L.length H') (hb:∀ i H' x H'' o a,L[i]?=some a->Same H1 H'->J.yB i H' x H''->o.length=tN.length->H''=H'/\∃ σ2,(∀ Q:L2.St->Hp->Prop,Q σ2 H''->gt x (o++jB σ caps) H'' Q)/\(∀ j:Nat,tN.length<=j->σ2[j]?=(o++jB σ caps)[j]?)/\Makes te σ2 H'' (f9 a))
 (k:∀ Dl vs H',H1 Dl=none->Same H1 H'->H' Dl=some (.lst vs)->aO (IsArr H') L vs->Fin Dl vs H'):c_ X scope tg tN capN caps elt [] σ Fin J H1:=by
 refine je (n:=L.length) hg (fun _ _ _ _ _=>lh) he (fun Dl i acc H'=>Same H1 H'/\H' Dl=some (.lst acc)/\aO (IsArr H') (L.take i) acc/\H1 Dl=none) (fun Dl hD=>⟨az hD,aj,.nil,hD⟩) (fun h=>h.2.1) (fun Dl i acc H' ⟨sm,_⟩ hi=>go i H' sm hi) (fun Dl acc H' ⟨sm,_⟩=>st H' sm) (fun Dl i acc H' xv H'' o hi ⟨sm,hD,a2,nD⟩ yy ho=>?_) fun Dl acc H' hD ⟨sm,hD',a2,_⟩=>k Dl acc H' hD sm hD' (by rw[Qx]at a2;exact a2);have hx:=O1 hi;obtain⟨rfl,σ2,g1,g2,g3⟩:=hb i H' xv H'' o _ hx sm yy ho;refine g1 _ ⟨g2,cJ (g3 _ fun p hp=>?_)⟩;have np:Dl≠p:=aB hD hp;have s2:Same H'' (upd H'' p (.tup (f9 L[i]))):=az hp;have k3:KT H'' (upd (upd H'' p (.tup (f9 L[i]))) Dl (.lst (acc++[.ref p]))):=(KT.of s2).trans (.upd (s2 _ _ hD) fun _ z=>(nomatch z));have ll:=a2.len;rw[Qi]at ll;refine⟨s2 _ _ hD,oS (by lia),fun c u e=>?_,aj,?_,nD⟩
 .rw[aA (aB e nD)];exact s2 _ _ (sm _ _ e)
 .rw[PV,hx];exact(a2.mono fun a v ⟨q,e,h⟩=>⟨q,e,k3 _ _ h⟩).snoc ⟨p,rfl,by rw[aA (Qn np),aj]⟩
inductive BF:Sp
 |mk {H:Hp} {n:Int} {al el:Addr} {vs:List V} {as:List Pz.Arr} {es:List Int} {Q:VK} {E:XK} (ha:Rd H al (.lst vs)) (aa:aO (IsArr H) as vs) (za:as.length<=63) (he:Rd H el (.lst (es.map .int))) (ze:es.length<=63)
  (k:∀ q l1 l2 ms ws z H',Same H H'->H' q=some (.tup [.int n,.ref l1,.ref l2])->H' l1=some (.lst ws)->aO (IsArr H') ms ws->(∀ x,x∈ms↔x∈as)->SrtA ms->H' l2=some (.lst (z.map .int))->Fg es z->Q (.ref q) H'):BF [.int n,.ref al,.ref el] H Q E
theorem A8 (h:BF vs H Q E):vs.length=3:=by cases h;rfl
def Og (X:Cx):TS:=b6 (b8 (ao (av 0) (ao (ii (Am X) (ao (ii (Al X) (ao (av 1) aG)) aG)) (ao (ii (Av X) (ao (ii (Au X) (ao (av 2) aG)) aG)) aG))))
theorem Ea (h:BF vs H Q E):Og X (eQ Q) (bh (nS 3) vs) H:=by obtain @⟨H,n,al,el,vs,as,es,Q,E,ha,aa,za,he,ze,k⟩:=h;refine⟨_,rfl,GM (σ:=[some (.int n),some (.ref al),some (.ref el)]) (.va (i:=1) rfl) ha aa (by lia) (fun m nd hm=>Pu (Pz.iu m as nd hm) za) fun l1 ms ws H1 s1 n1 h1 a1 m1 nd1=>?_⟩;refine GA (X:=X) (.va (i:=2) rfl) (aK s1 he) ze fun l2 z H2 s2 n2 h2 so=>⟨by show 3<=_;rw[Pn];lia,fun q hq=>?_⟩;have s3:=az (o:=.tup [.int n,.ref l1,.ref l2]) hq;have s23:=s2.trans s3;exact k q l1 l2 ms ws z _ (s1.trans s23) aj (s23 _ _ h1) (a1.mono fun a v ⟨p,e,h⟩=>⟨p,e,s23 _ _ h⟩) m1 nd1 (s3 _ _ h2) so
end
end L4
namespace L4
open PySem PySem.Spec PyProof.Rows L2 L3
noncomputable def A_ (ro sg:Int)(es:List bV):List Pz.Arr:=(es.map fun h=>(h.1,h.2,ro))++(List.range sg.toNat).map fun g=>(ro,((g:Nat):Int),ro)
section
variable {X:Cx}{K:To}{H H':Hp}{vs:List V}{Q:VK}{E:XK}
inductive yi:Sp
 |mk {H:Hp} {p hl:Addr} {ro sg:Int} {b:V} {hv:List V} {es:List bV} {Q:VK} {E:XK} (hp:H p=some (.tup [.int ro,.int sg,b])) (hh:Rd H hl (.lst hv)) (ah:aO (IsSet H) es hv) (z1:es.length<=40) (z2:0<=sg/\sg<=20)
  (k:∀ q l1 l2 ms ws H',Same H H'->H' q=some (.tup [.int (ro+1),.ref l1,.ref l2])->H' l1=some (.lst ws)->aO (IsArr H') ms ws->(∀ x,x∈ms↔x∈A_ ro sg es)->SrtA ms->H' l2=some (.lst [.int ro])->Q (.ref q) H'):yi [.ref p,.ref hl] H Q E
theorem Ba (h:yi vs H Q E):vs.length=2:=by cases h;rfl
def JQ:TE:=b8 (ao (av 0) (ao (av 1) (ao (av 2) aG)))
def JR:TE:=b8 (ao (av 1) (ao (av 0) (ao (av 1) aG)))
structure Nx (X:Cx) (n:Nat) (gt:TG) (te:TE) (scope:Scope) (tg elt:Expr) (tN capN:List Str) (caps:List Nat):Prop where
 h:tN.length=n
 c:caps=[2]
 g:∀ cl C s3 H3 fp,PG (bH X scope (tN++capN) cl C s3 H3 fp) tg gt
 e:∀ cl C s3 H3 fp,PE (bH X scope (tN++capN) cl C s3 H3 fp) elt te
def Oh (K:To):TG:=dX K 2 (bn (aE 0) (bn (aE 1) dW))
def Ml (X:Cx):TS:=b6 (br BF [] E0 (ao (aX b_ (av 2) (tC (.int 1))) (ao (aX tG (av 3) (av 4)) (ao (cW (ao (av 2) aG)) aG))))
def Mm (X:Cx)(scope:Scope)(tg elt:Expr)(tN capN:List Str)(caps:List Nat):TS:=aP (mM X scope tg elt tN capN caps [] 4 (qI (ao (tI X.K 0 1) aG))) (Ml X)
def Oi (X:Cx)(Kx:Scope)(Kv el1:Expr)(tN1 cN1:List Str)(cp1:List Nat)(KH:Scope)(KF el2:Expr)(tN2 cN2:List Str)(cp2:List Nat):TS:=aP (bc (tI X.K 0 0) (aE 2)) (aP (mM X Kx Kv el1 tN1 cN1 cp1 [] 3 (cC X.K (av 1))) (Mm X KH KF el2 tN2 cN2 cp2))
theorem Eb {Kx KH:Scope}{Kv el1 KF el2:Expr}{tN1 cN1 tN2 cN2:List Str}{cp1 cp2:List Nat}(c1:Nx X 2 (Oh X.K) JQ Kx Kv el1 tN1 cN1 cp1)(c2:Nx X 1 (aE 0) JR KH KF el2 tN2 cN2 cp2)(h:yi vs H Q E):Oi X Kx Kv el1 tN1 cN1 cp1 KH KF el2 tN2 cN2 cp2 (eQ Q) (bh (nS 5) vs) H:=by
 obtain @⟨H,p,hl,ro,sg,b,hv,es,Q,E,hp,hh,ah,z1,z2,k⟩:=h;have ln:=ah.len;refine Reads.ix (n:=0) (.va (i:=0) rfl) hp (v:=.int ro) rfl _ ⟨_,rfl,hl,rfl,⟨_,.inl hh⟩,?_⟩;refine JP (es.map fun h=>(h.1,h.2,ro)) (by rw[O2];lia) c1.g c1.e (fun i H' sm hi=>⟨hv,hv[i]'(by rw[O2]at hi;lia),.inl (aK sm hh),O1 _⟩) (fun H' sm=>⟨hv,.inl (aK sm hh),by rw[O2];lia⟩) (fun i H' x H'' o a hx sm y ho=>?_) fun l3 v3 H1 n3 s1 h3 a3=>?_
 .obtain⟨rfl,y⟩:=y;rw[Pe]at hx;obtain⟨e0,he0,rfl⟩:=PU.mp hx;obtain⟨e1,he1,b1,rfl,hb1⟩:=ah.get (y _ (.inl (aK sm hh)));rw[he0]at he1;obtain rfl:=Ps he1;rw[c1.h]at ho;obtain⟨u0,u1,rfl⟩:=M9 ho;rw[c1.c];refine⟨rfl,[some (.int e0.1),some (.int e0.2),some (.int ro)],fun Q q=>⟨b1,_,rfl,SqT.of (sm _ _ hb1),rfl,_,_,rfl,_,_,rfl,rfl,q⟩,fun j hj=>?_,.t (.c (.va rfl) (.c (.va rfl) (.c (.va rfl) .ni))) rfl⟩;rw[c1.h]at hj;obtain⟨j,rfl⟩:=Qb hj;rfl
 have hp1:=s1 _ _ hp;refine Reads.ix (n:=1) (.va (i:=0) rfl) hp1 (v:=.int sg) rfl _ ⟨sg,rfl,by lia,by lia,?_⟩;refine JP ((List.range sg.toNat).map fun g=>(ro,((g:Nat):Int),ro)) (by rw[O2,RT];lia) c2.g c2.e (fun i H' sm hi=>by rwa [O2,RT]at hi) (fun H' sm=>by rw[O2,RT];exact O0 _) (fun i H' x H'' o a hx sm y ho=>?_) fun l4 v4 H2 n4 s2 h4 a4=>?_
 .obtain⟨rfl,rfl⟩:=y;rw[Pe]at hx;obtain⟨e0,he0,rfl⟩:=PU.mp hx;obtain rfl:i=e0:=by obtain⟨_,e⟩:=O3.mp he0;rw[List.getElem_range]at e;exact e
  rw[c2.h]at ho;obtain⟨u0,rfl⟩:=QD.mp ho;rw[c2.c,Si];refine⟨rfl,[some (.int i),some (.int ro)],fun Q q=>q,fun j hj=>?_,.t (.c (.va rfl) (.c (.va rfl) (.c (.va rfl) .ni))) rfl⟩;rw[c2.h]at hj;obtain⟨j,rfl⟩:=Qb hj;rfl
 have h3:=s2 _ _ h3;have a3:=a3.mono fun a v (⟨p,e,h⟩ : IsArr H1 a v)=>(⟨p,e,s2 _ _ h⟩ : IsArr H2 a v);have l3':=a3.len;have l4':=a4.len;rw[O2]at l3' l4';rw[RT]at l4';refine⟨_,rfl,_,_,rfl,rfl,_,rfl,_,rfl,l3,l4,_,_,rfl,rfl,h3,h4,by rw[Pn];lia,fun l5 hl5=>?_⟩;have s3:=az (o:=.lst (v3++v4)) hl5;have h5:upd H2 l5 (.lst (v3++v4)) l5=some (.lst (v3++v4)):=aj;have a5:=(a3.app a4).mono fun a v (⟨p,e,h⟩ : IsArr H2 a v)=>(⟨p,e,s3 _ _ h⟩ : IsArr (upd H2 l5 (.lst (v3++v4))) a v);generalize upd H2 l5 (.lst (v3++v4))=H3 at s3 h5 a5;refine⟨_,rfl,by show 1<=_;rw[Pn];lia,fun l6 hl6=>?_⟩;have s4:=az (o:=.lst [.int ro]) hl6;have h6:upd H3 l6 (.lst [.int ro]) l6=some (.lst ([ro].map .int)):=aj;refine .mk (.inl (s4 _ _ h5)) (a5.mono fun a v ⟨p,e,h⟩=>⟨p,e,s4 _ _ h⟩) (by rw[O6,O2,O2,RT];lia) (.inl h6) (by show 1<=63;decide) fun q l1 l2 ms ws z H7 s7 hq h1 am mm nd h2 so=>?_;obtain rfl:z=[ro]:=by
  have m:=so.m;have pw:=so.p
  match z,m,pw with
  | [],m,_=>exact nomatch (m ro).mpr (O9.mpr rfl)
  | [x],m,_=>rw[O9.mp ((m x).mp (O9.mpr rfl))]
  |x::y::r,m,pw=>have e1:=O9.mp ((m x).mp O5);have e2:=O9.mp ((m y).mp (O4 _ O5));have:=(RF.mp pw).1 y O5;lia
 exact k q l1 l2 ms ws H7 ((((s1.trans s2).trans s3).trans s4).trans s7) hq h1 am mm nd h2
end
theorem Ec {H:Hp}{m:Addr->Prop}{M:List Pz.Arr}{xs:List V}(h:IsAll H m (M.map iG) xs):aO (IsArr H) M xs:=vP (fun _ _=>EY) h
def Ng (ds:List L3.D):Prop:=∃(ro:Int)(h1 h2 m0 m2:L3.D)(M:List Pz.Arr),ds=[.tup [.int ro,h1,h2],.tup [m0,.lst (M.map iG),m2]]/\M.length<1000/\∀ a∈M,ro<=a.2.2
noncomputable def sQ (ds:List L3.D):Res R:=@ite _ (Ng ds) (Classical.propDecidable _) (.ok (.val .bJ true [])) .stuck
section
variable {X:Cx}{K:To}{mg:Str->Option Tq}{H H':Hp}{vs:List V}{Q:VK}{E E1:XK}{Fr:iH}
inductive BC:Sp
 |mk {H:Hp} {p q l:Addr} {ro:Int} {rest us:List V} {a b:V} {M:List Pz.Arr} {Q:VK} {E:XK} (hp:H p=some (.tup (.int ro::rest))) (hq:H q=some (.tup [a,.ref l,b])) (hl:Rd H l (.lst us)) (al:aO (IsArr H) M us) (zm:M.length<1000) (ge:∀ a∈M,ro<=a.2.2) (k:∀ H',Same H H'->Q (.bl true) H'):BC [.ref p,.ref q] H Q E
theorem Bb (h:BC vs H Q E):vs.length=2:=by cases h;rfl
def Mn (K:To):TE:=aX NT (tI K 0 2) (tI K 1 0)
structure OF (X:Cx) (scope:Scope) (tg elt:Expr) (tN capN:List Str) (caps:List Nat):Prop where
 h:tN.length=1
 c:caps=[0]
 g:∀ cl C s3 H3 fp,PG (bH X scope (tN++capN) cl C s3 H3 fp) tg (aE 0)
 e:∀ cl C s3 H3 fp,PE (bH X scope (tN++capN) cl C s3 H3 fp) elt (Mn X.K)
def Oj (X:Cx)(scope:Scope)(tg elt:Expr)(tN capN:List Str)(caps:List Nat):TS:=b6 (ii (Jp X.K) (ao (oM X scope tg tN capN caps elt [] (cC X.K (tI X.K 1 1))) aG))
theorem Ed {scope:Scope}{tg elt:Expr}{tN capN:List Str}{caps:List Nat}(c:OF X scope tg elt tN capN caps)(h:BC vs H Q E):Oj X scope tg elt tN capN caps (eQ Q) (bh (nS 2) vs) H:=by
 obtain @⟨H,p,q,l,ro,rest,us,a,b,M,Q,E,hp,hq,hl,al,zm,ge,k⟩:=h;have ln:=al.len;refine Reads.ix (n:=1) (.va (i:=1) rfl) hq (v:=.ref l) (fq (j:=1) rfl) _ ⟨l,rfl,⟨_,.inl hl⟩,?_⟩;refine je (n:=M.length) c.g (fun _ _ _ _ _=>lh) c.e (fun Dl i acc H'=>Same H H'/\H' Dl=some (.lst acc)/\acc=(List.replicate i true).map V.bl/\H Dl=none) (fun Dl hD=>⟨az hD,aj,rfl,hD⟩) (fun h=>h.2.1) (fun Dl i acc H' ⟨sm,_⟩ hi=>⟨us,us[i]'(by lia),.inl (aK sm hl),O1 _⟩) (fun Dl acc H' ⟨sm,_⟩=>⟨us,.inl (aK sm hl),by lia⟩) (fun Dl i acc H' xv H'' o hi ⟨sm,hD,ea,nD⟩ yy ho=>?_) fun Dl acc H' hD ⟨sm,hD',ea,_⟩=>⟨Dl,acc,_,rfl,SqL.of hD',ea,?_⟩
 .obtain⟨rfl,yy⟩:=yy;obtain⟨x,hx,b0,rfl,hb⟩:=al.get (yy _ (.inl (aK sm hl)));have hb:=sm _ _ hb;rw[c.h]at ho;obtain⟨u0,rfl⟩:=QD.mp ho;rw[c.c];refine⟨fun j hj=>?_,cJ (Reads.ix (n:=2) (.va (i:=0) rfl) hb (v:=.int x.2.2) rfl _ (Reads.ix (n:=0) (.va (i:=1) rfl) (sm _ _ hp) (v:=.int ro) (fq (j:=0) rfl) _ ⟨_,_,rfl,rfl,hD,oS (by rw[ea,O2,SJ];lia),fun c u e=>by rw[aA (aB e nD)];exact sm _ _ e,aj,?_,nD⟩))⟩
  .rw[c.h]at hj;obtain⟨j,rfl⟩:=Qb hj;rfl
  .show acc++[V.bl (decide (ro<=x.2.2))]=_;rw[O_ (ge x (Px hx)),List.replicate_succ',PX,ea];rfl
 .rw[show(List.replicate M.length true).all id=true by rw[Rx];intro x hx;exact List.eq_of_mem_replicate hx];exact k H' sm
def Mo (E:XK):TS:=cI (qG (tB (br BC [] E (ao (av 0) (ao (av 1) aG))))) JB bY
theorem Bc (h:pH mg 2 sQ vs H Q E):Mo E1 (eQ Q) (bh (nS 2) vs) H:=by
 obtain⟨hl,ds,Ma,is,post⟩:=h;unfold sQ at post;by_cases c:Ng ds
 .rw[Pi c]at post;obtain⟨ro,h1,h2,m0,m2,M,rfl,zm,ge⟩:=c;obtain⟨v0,r0,rfl,⟨p,ps,rfl,hp,w5,t5,rfl,j5,w6,t6,rfl,j6,w7,t7,rfl,j7,rfl⟩,v1,r1,rfl,⟨q,ws,rfl,hq,w0,t0,rfl,j0,w1,t1,rfl,⟨l,xs,rfl,hx,ex⟩,w2,t2,rfl,j2,rfl⟩,rfl⟩:=is;cases (show w5=.int ro from j5);exact⟨_,rfl,_,rfl,.mk hp hq (hx.imp (·.1) fun⟨o,h⟩=>⟨o,h.1⟩) (Ec ex) zm ge fun H' s=>⟨true,rfl,cf (post _ _ s rfl)⟩⟩
 .rw[Pl c]at post;exact post.elim
inductive uR (Fr:iH):Sp
 |mk {H:Hp} {p rl wl gl sp sl:Addr} {ro sg room:Int} {ws wv gv:List V} {RL:List Pz.Rule} {we ge:List bV} {stk:List Int} {Q:VK} {E:XK} (hp:H p=some (.tup [.int ro,.int sg,.ref rl])) (hl:Rd H rl (.lst ws)) (ir:aO (IsRule H) RL ws) (zr:RL.length<1000) (hw:Rd H wl (.lst wv)) (aw:aO (IsSet H) we wv) (zw:we.length<1000) (hg:Rd H gl (.lst gv)) (ag:aO (IsSet H) ge gv) (zg:ge.length<=40) (zs:0<=sg/\sg<=20)
  (hs:H sp=some (.tup [.int room,.ref sl])) (hk:Rd H sl (.lst (stk.map .int))) (zk:stk.length<1000)
  (pr:∀ ms:List Pz.Arr,(∀ x,x∈ms↔x∈A_ ro sg ge)->SrtA ms->∃(t:Pz.TD)(U:List Int),Fr [kq ro sg (dM we RL),.tup [.int (ro+1),.lst (ms.map iG),.lst [.int ro]]]=.ok (.yw (kN t))/\t.length<1000000/\(∀ x∈t,x.1.2.2∈U)/\U.length<1000/\
    ∀ L r o H',Same H H'->eL t room stk [ro] L r o->Q (nL o) H'):uR Fr [.ref p,.ref wl,.ref gl,.ref sp] H Q E
theorem Bd (h:uR Fr vs H Q E):vs.length=4:=by cases h;rfl
def Ol (Fr:iH):TS:=b6 (br (yj Fr) [] E0 (ao (br sL [] E0 (ao (av 0) (ao (av 1) aG))) (ao (br yi [] E0 (ao (av 0) (ao (av 2) aG))) (ao (av 3) aG))))
theorem Be {H:Hp}:∀{RL:List Pz.Rule}{ws:List V},aO (IsRule H) RL ws->IsAll H Tr (RL.map dU) ws:=by
 intro RL ws h;induction h with
 |nil=>rfl
 |cons h _ ih=>exact⟨_,_,rfl,Jr h,ih⟩
theorem Ee {H:Hp}:∀{M:List Pz.Arr}{ws:List V},aO (IsArr H) M ws->IsAll H Tr (M.map iG) ws:=by
 intro M ws h;induction h with
 |nil=>rfl
 |cons h _ ih=>exact⟨_,_,rfl,⟨_,_,h.choose_spec.1,h.choose_spec.2,_,_,rfl,rfl,_,_,rfl,rfl,_,_,rfl,rfl,rfl⟩,ih⟩
theorem vV {H:Hp}{q l:Addr}{ro sg:Int}{us:List V}{RL:List Pz.Rule}(hq:H q=some (.tup [.int ro,.int sg,.ref l]))(hl:H l=some (.lst us))(ir:aO (IsRule H) RL us):Is H Tr (kq ro sg RL) (.ref q):=⟨q,_,rfl,hq,_,_,rfl,rfl,_,_,rfl,rfl,_,_,rfl,⟨l,_,rfl,.inl ⟨hl,trivial⟩,Be ir⟩,rfl⟩
theorem E6 {H:Hp}{q l l2:Addr}{n e:Int}{us:List V}{M:List Pz.Arr}(hq:H q=some (.tup [.int n,.ref l,.ref l2]))(hl:H l=some (.lst us))(ia:aO (IsArr H) M us)(h2:H l2=some (.lst [.int e])):Is H Tr (.tup [.int n,.lst (M.map iG),.lst [.int e]]) (.ref q):=⟨q,_,rfl,hq,_,_,rfl,rfl,_,_,rfl,⟨l,_,rfl,.inl ⟨hl,trivial⟩,Ee ia⟩,_,_,rfl,⟨l2,_,rfl,.inl ⟨h2,trivial⟩,_,_,rfl,rfl,rfl⟩,rfl⟩
theorem Ef (h:uR Fr vs H Q E):Ol Fr (eQ Q) (bh (nS 4) vs) H:=by obtain @⟨H,p,rl,wl,gl,sp,sl,ro,sg,room,ws,wv,gv,RL,we,ge,stk,Q,E,hp,hl,ir,zr,hw,aw,zw,hg,ag,zg,zs,hs,hk,zk,pr⟩:=h;refine⟨_,rfl,_,rfl,.mk hp hl ir hw aw zw zr fun q1 l1 us H1 s1 _ hq1 hl1 ir1=>?_⟩;refine⟨_,rfl,_,rfl,.mk (s1 _ _ hp) (aK s1 hg) (ag.mono (di (.of s1))) zg zs fun q2 l2 l3 ms us2 H2 s2 hq2 hl2 am mm nd hl3=>⟨_,rfl,?_⟩⟩;obtain⟨t,U,hF,z,u,zu,fin⟩:=pr ms mm nd;have s12:=s1.trans s2;refine .mk (t:=t) (room:=room) (stk:=stk) (ends:=[ro]) (U:=U) ⟨⟨_,_,vV (s2 _ _ hq1) (s2 _ _ hl1) (ir1.mono (IsRule.keep (.of s2))),E6 hq2 hl2 am hl3,hF⟩,⟨_,_,l3,hq2,.inl hl3⟩,⟨sl,s12 _ _ hs,aK s12 hk⟩,z,zk,by show 1<1000;decide,u,zu⟩ fun L r o H' s lt=>fin L r o H' (s12.trans s) lt
end
section
variable {K:To}{H H':Hp}{vs ws:List V}{Q:VK}{E:XK}{ro sg:Int}
def xY (ro sg:Int)(es:List bV):Prop:=∀ e∈es,(0<=e.1/\e.1<ro)/\0<=e.2/\e.2<sg
inductive yf:Sp
 |mk {H:Hp} {c ro sg sh:Int} {Q:VK} {E:XK} (hr:0<ro/\ro<=3) (hs:0<sg/\sg<=4) (k:∀ l hv (es:List bV) H',Same H H'->H l=none->H' l=some (.lst hv)->aO (IsSet H') es hv->xY ro sg es->es.length<=12->Q (.ref l) H'):yf [.int c,.int ro,.int sg,.int sh] H Q E
theorem Bf (h:yf vs H Q E):vs.length=4:=by cases h;rfl
def Mp:TE:=aX bP (aX b_ (aX b_ (aX b_ (aX fB (av 4) (av 4)) (aX fB (tC (.int 69621)) (av 4))) (aX fB (tC (.int 3)) (av 6))) (tC (.int 1))) (tC (.int 2147483629))
def Mq (K:To):TS:=cg (tD K "list" cB (av 5) (ao (b8 (ao (aX bP (av 6) (av 1)) (ao (aX dj (av 6) (av 1)) aG))) aG))
def Mr (K:To):TS:=aP (bc Mp (aE 4)) (cI (bp (aX Dw (aX bP (aX dj (av 4) (tC (.int 8))) (tC (.int 4))) (av 3))) (Mq K) bY)
def Om (K:To):TS:=aP (bc (aX b_ (aX bP (av 0) (tC (.int 2147483629))) (tC (.int 7))) (aE 4)) (aP (bc (cW aG) (aE 5)) (aP (eV (qI (ao (aX fB (av 1) (av 2)) aG)) (aE 6) (Mr K)) (b6 (av 5))))
inductive Nr (c ro sg sh:Int) (l:Addr) (H1:Hp) (i:Nat):L2.St->Hp->Prop
 |mk {H':Hp} {num:Int} {hv:List V} {es:List bV} {x6:Option V}:0<=num->num<4294967296->Same H1 H'->H' l=some (.lst hv)->aO (IsSet H') es hv->xY ro sg es->es.length<=i->Nr c ro sg sh l H1 i [some (.int c),some (.int ro),some (.int sg),some (.int sh),some (.int num),some (.ref l),x6] H'
theorem JS {a b:Int}(ha:0<a/\a<=3)(hb:0<b/\b<=4):0<a*b/\a*b<=12:=by refine⟨Int.mul_pos ha.1 hb.1,?_⟩;have:a*b<=3*4:=Int.mul_le_mul ha.2 hb.2 (by lia) (by lia);lia
theorem Eg (h:yf vs H Q E):Om K (eQ Q) (bh (nS 7) vs) H:=by
 obtain @⟨H,c,ro,sg,sh,Q,E,hr,hs,k⟩:=h;have m0:=em (a:=c) (b:=2147483629) (by decide);have mb:=JS hr hs;refine cE (.ad (.mod (.va rfl) .k (by decide)) .k) ⟨Pq _,fun l hl=>?_⟩;refine Reads.mul (.va rfl) (.va rfl) ⟨by lia,by lia⟩ _ ⟨_,rfl,by lia,by lia,?_⟩;refine km (n:=(ro*sg).toNat) (Nr c ro sg sh l H) (.mk (es:=[]) (by lia) (by lia) (az hl) aj .nil (fun _ h=>nomatch h) (Pq _)) (fun i σ' H' p hi=>hi) (fun σ' H' p=>O0 _) (fun i σ' H' x H'' D' hi p y k'=>?_) fun σ' H' p=>?_
 .obtain @⟨H',num,hv,es,x6,n0,n1,s,hl',al,hb,ln⟩:=p;obtain⟨rfl,rfl⟩:=y;rw[Si];have m1:=em (a:=num*num+69621*num+3*(i:Nat)+1) (b:=2147483629) (by decide);refine cE (.mod (.ad (.ad (.ad (.mul (.va rfl) (.va (v:=.int num) rfl) ⟨by lia,by lia⟩) (.mul .k (.va (v:=.int num) rfl) ⟨by lia,by lia⟩)) (.mul .k (.va (v:=.int (i:Nat)) rfl) ⟨by lia,by lia⟩)) .k) .k (by decide)) ?_;refine g9 (Reads.op (.mod (.dv (.va rfl) .k ⟨by decide,by decide⟩) .k (by decide)) (.va (v:=.int sh) rfl) fun _ q=>⟨_,_,rfl,rfl,q⟩) (fun _=>?_) fun _=>k' _ _ (.mk m1.1 (by lia) s hl' al hb (by lia));refine⟨_,rfl,.inl ⟨rfl,_,SqL.of hl'⟩,gr (ws:=[.int ((i:Nat) % ro),.int ((i:Nat) / ro)]) (.c (.mod (.va rfl) (.va rfl) hr.1) (.c (.dv (.va rfl) (.va rfl) ⟨hr.1,by lia⟩) .ni)) rfl fun p hp=>?_⟩;have s2:=az (o:=.tup [.int ((i:Nat) % ro),.int ((i:Nat) / ro)]) hp;have h2:upd H'' p (.tup [.int ((i:Nat) % ro),.int ((i:Nat) / ro)]) p=some (.tup [.int ((i:Nat) % ro),.int ((i:Nat) / ro)]):=aj;have hl2:=s2 _ _ hl';generalize upd H'' p (.tup [.int ((i:Nat) % ro),.int ((i:Nat) / ro)])=H3 at s2 h2 hl2;have kt:KT H3 (upd H3 l (.lst (hv++[.ref p]))):=.upd hl2 fun _ z=>(nomatch z);have hl9:=al.len;refine⟨l,_,_,rfl,rfl,hl2,oS (by lia),k' _ _ (.mk (es:=es++[((i:Nat) % ro,(i:Nat) / ro)]) m1.1 (by lia) (fun c u e=>?_) aj ((al.mono (di ((KT.of s2).trans kt))).snoc ⟨p,rfl,kt _ _ h2⟩) (fun e he=>?_) (by rw[O6,PQ];lia))⟩
  .rw[aA (aB e hl)];exact s2 _ _ (s _ _ e)
  .rcases Pf.mp he with he|he
   .exact hb e he
   .rw[O9.mp he];have q1:=em (a:=((i:Nat):Int)) hr.1;have q2:((i:Nat):Int)<ro*sg:=by lia
    exact⟨q1,Int.ediv_nonneg (by lia) (by lia),Int.ediv_lt_of_lt_mul hr.1 (by rw[Int.mul_comm];exact q2)⟩
 .obtain @⟨H',num,hv,es,x6,n0,n1,s,hl',al,hb,ln⟩:=p;exact⟨_,rfl,k l hv es H' s hl hl' al hb (by lia)⟩
inductive BM:Sp
 |mk {H:Hp} {c sg:Int} {Q:VK} {E:XK} (hs:0<sg) (k:∀ l (stk:List Int) H',Same H H'->H l=none->H' l=some (.lst (stk.map .int))->stk.length<=39->(∀ x∈stk,0<=x/\x<sg)->Q (.ref l) H'):BM [.int c,.int sg] H Q E
theorem Bg (h:BM vs H Q E):vs.length=2:=by cases h;rfl
def Ms (K:To):TS:=aP (bc (aX bP (aX b_ (aX b_ (aX fB (av 3) (tC (.int 48271))) (aX fB (av 5) (av 5))) (tC (.int 11))) (tC (.int 2147483647))) (aE 3)) (cg (tD K "list" cB (av 4) (ao (aX bP (aX dj (av 3) (tC (.int 7))) (av 1)) aG)))
def JT (K:To):TS:=aP (bc (aX bP (aX dj (av 0) (tC (.int 7))) (tC (.int 2147483647))) (aE 3)) (aP (bc (cW aG) (aE 4)) (aP (eV (qI (ao (av 2) aG)) (aE 5) (Ms K)) (b6 (av 4))))
def Mv (K:To):TS:=aP (bc (aX bP (av 0) (tC (.int 6))) (aE 2)) (aP (cI (bp (aX n_ (aX bP (aX dj (av 0) (tC (.int 6))) (tC (.int 8))) (tC (.int 3)))) (bc (aX b_ (tC (.int 20)) (aX bP (aX dj (av 0) (tC (.int 48))) (tC (.int 20)))) (aE 2)) bY) (JT K))
theorem Nh {c sg n:Int}(hs:0<sg)(hn:0<=n/\n<=39)(k:∀ l (stk:List Int) H',Same H H'->H l=none->H' l=some (.lst (stk.map .int))->stk.length<=39->(∀ x∈stk,0<=x/\x<sg)->Q (.ref l) H'):JT K (eQ Q) [some (.int c),some (.int sg),some (.int n),none,none,none] H:=by
 refine cE (.mod (.dv (.va rfl) .k ⟨by decide,by decide⟩) .k (by decide)) ⟨Pq _,fun l hl=>?_⟩;refine⟨_,rfl,_,rfl,by lia,by lia,?_⟩;refine km (n:=n.toNat) (fun i σ' H'=>∃(num:Int)(stk:List Int)(x5:Option V),σ'=[some (.int c),some (.int sg),some (.int n),some (.int num),some (.ref l),x5]/\Same H H'/\H' l=some (.lst (stk.map .int))/\stk.length=i/\∀ x∈stk,0<=x/\x<sg) ⟨_,[],none,rfl,az hl,aj,rfl,fun _ h=>nomatch h⟩ (fun i σ' H' p hi=>hi) (fun σ' H' p=>O0 _) (fun i σ' H' x H'' D' hi p y k'=>?_) fun σ' H' p=>?_
 .obtain⟨num,stk,x4,rfl,s,hl',ln,hb⟩:=p;obtain⟨rfl,rfl⟩:=y;rw[Si];refine cE (.mod (.ad (.ad (.mul (.va rfl) .k ⟨by decide,by decide⟩) (.mul (.va (v:=.int (i:Nat)) rfl) (.va rfl) ⟨by lia,by lia⟩)) .k) .k (by decide)) ⟨_,rfl,.inl ⟨rfl,_,SqL.of hl'⟩,Reads.mod (.dv (.va rfl) .k ⟨by decide,by decide⟩) (.va rfl) hs _ ⟨l,_,_,rfl,rfl,hl',oS (by rw[O2];lia),k' _ _ ⟨_,stk++[_],_,rfl,fun c u e=>?_,by rw[aj,PX];rfl,by rw[O6,ln];rfl,fun x hx=>?_⟩⟩⟩
  .rw[aA fun z=>by rw[z,hl]at e;cases e];exact s _ _ e
  .rcases Pf.mp hx with hx|hx
   .exact hb x hx
   .rw[O9.mp hx];exact em hs
 .obtain⟨num,stk,x4,rfl,s,hl',ln,hb⟩:=p;exact⟨_,rfl,k l stk H' s hl hl' (by lia) hb⟩
theorem Eh (h:BM vs H Q E):Mv K (eQ Q) (bh (nS 6) vs) H:=by obtain @⟨H,c,sg,Q,E,hs,k⟩:=h;have h6:=em (a:=c) (b:=6) (by decide);have h20:=em (a:=c / 48) (b:=20) (by decide);refine cE (.mod (.va rfl) .k (by decide)) (g9 (.B8 (.mod (.dv (.va rfl) .k ⟨by decide,by decide⟩) .k (by decide)) .k) (fun _=>?_) fun _=>Nh hs ⟨by lia,by lia⟩ k);exact cE (.ad .k (.mod (.dv (.va rfl) .k ⟨by decide,by decide⟩) .k (by decide))) (Nh hs ⟨by lia,by lia⟩ k)
end
section
variable {K:To}{H:Hp}{D:Ends}{vs:List V}{Q:VK}{E:XK}
theorem JU (x:bV)(hs:List bV):((hs.map pD).any fun e=>j1 e (pD x))=decide (x∈hs):=by
 rw[List.any_map];induction hs with
 |nil=>rfl
 |cons y hs ih=>
  rw[RP,ih];show(j1 (pD y) (pD x) || _)=_;rw[NY];by_cases e:y=x
  .rw[O_ e,e];simp
  .rw[Pp e,Bool.false_or];simp[Qn e]
theorem mR {neg:Bool}{a gl:Addr}{gv:List V}{es:List bV}{x:bV}(ha:H a=some (.tup [.int x.1,.int x.2]))(hg:Rd H gl (.lst gv))(al:aO (IsSet H) es gv)(k:Q (.bl (if neg then !decide (x∈es) else decide (x∈es))) H):rL neg K (.ref a) (.ref gl) H Q:=by
 refine⟨gl,es.map pD,gv,pD x,fun _=>True,fun _=>True,rfl,.inl (.inl hg),Jn al,Na ⟨a,rfl,ha⟩,⟨?_,RM rfl⟩,?_⟩
 .have:D.cN (es.map pD)+1<=50:=LU es;lia
 rw[JU];exact k
inductive BH:Sp
 |mk {H:Hp} {o:Option (Int×Int)} {Q:VK} {E:XK} (k:Q (.bl true) H):BH [nL o,nL o] H Q E
theorem Bh (h:BH vs H Q E):vs.length=2:=by cases h;rfl
def On:TS:=aP (cI (bp (aX rV (av 1) (tC .bJ))) (b6 (aX rV (av 0) (tC .bJ))) bY) (b6 (n9 (br uM [] E0 (ao (av 0) aG)) (aX n_ (av 0) (av 1))))
theorem Ei (h:BH vs H Q E):On (eQ Q) (bh (nS 2) vs) H:=by
 obtain @⟨H,o,Q,E,k⟩:=h;cases o with
 |none=>exact⟨_,rfl,rfl,_,rfl,cJ ⟨_,rfl,rfl,k⟩⟩
 |some x=>exact⟨_,rfl,rfl,_,rfl,cf ⟨_,rfl,.mk ⟨_,rfl,cJ ⟨_,rfl,_,rfl,rfl,by rw[O_ rfl];exact k⟩⟩⟩⟩
end
section
variable {K:To}{H H':Hp}{σ:L2.St}{vs ws:List V}{Q:VK}{E:XK}
inductive BN:Sp
 |mk {H:Hp} {rl sp sl nl gl:Addr} {ws gv:List V} {RL:List Pz.Rule} {es:List bV} {x:Rw} {room s:Int} {rest ns:List Int} {Q:VK} {E:XK} (hr:Rd H rl (.lst ws)) (ir:aO (IsRule H) RL ws) (hs:H sp=some (.tup [.int x.1,.ref sl])) (hl:Rd H sl (.lst (x.2.map .int))) (hn:H nl=some (.lst (ns.map .int))) (hg:Rd H gl (.lst gv)) (al:aO (IsSet H) es gv) (w:HW RL ns x (room,s::rest)) (m:(room,s)∈es) (z1:ns.length<=1000) (z2:x.2.length<=1000) (hp:∀ r∈RL,r.2.2.2.length<=2) (k:∀ H',Same H H'->Q (.bl true) H'):BN [.ref rl,.ref sp,.ref nl,.ref gl,.int (ns.length:Nat)] H Q E
theorem Bi (h:BN vs H Q E):vs.length=5:=by cases h;rfl
def JV (K:To):TE:=aX (e9 K) (av 0) (av 7)
def Ej (K:To)(n:Int):TE:=aX (gT K) (JV K) (tC (.int n))
def Mw (K:To):TT:=uV (qG (tB (DH K "list" (av 2)))) (bp (aX KM (nK K 2) (av 4)))
def Mx (K:To):TT:=uV (qG (tB (br uM [] E0 (ao (av 7) aG)))) (uV (qG (bp (yP (qJ fun i j=>.bl (decide (i<=j))) Dw (tC (.int 0)) (av 7) (nK K 0)))) (bp (aX n_ (nK K 6) (tC (.int 0)))))
def My (K:To):TT:=uV (bp (aX KM (Ej K 0) (av 5))) (bp (aX KM (Ej K 1) (aX (e9 K) (av 6) (tC (.int 0)))))
def Mz (K:To):TS:=aP (bc (Ej K 2) (aE 5)) (bc (aX tG (ii (gu K) (ao (Ej K 3) aG)) (yY (o7 K) (av 6) (gR (tC (.int 1))) gf)) (aE 6))
def MA (K:To):TS:=aP (cI (Mx K) Gz bY) (aP (cI (My K) Gz bY) (Mz K))
def MB (K:To):TS:=b6 (n9 (aX I0 (nK K 6) (tC (.int 0))) (aX (rL false K) (b8 (ao (av 5) (ao (aX (e9 K) (av 6) (tC (.int 0))) aG))) (av 3)))
def Oo (K:To):TS:=aP (cI (Mw K) Gz bY) (aP (bc (av 1) (dX K 2 (bn (aE 5) (bn (aE 6) dW)))) (aP (eV (cC K (av 2)) (aE 7) (MA K)) (MB K)))
noncomputable def JW (rl sp nl gl:Addr)(n r:Int)(l:Addr)(x7:Option V):L2.St:=[some (.ref rl),some (.ref sp),some (.ref nl),some (.ref gl),some (.int n),some (.int r),some (.ref l),x7]
inductive NB (rl sp nl gl:Addr) (n:Int) (H1:Hp) (RL:List Pz.Rule) (ns:List Int) (y:Rw) (i:Nat):L2.St->Hp->Prop
 |mk {H':Hp} {x:Rw} {l:Addr} {x7:Option V}:Same H1 H'->Rd H' l (.lst (x.2.map .int))->HW RL (ns.drop i) x y->x.2.length<=1000+i->NB rl sp nl gl n H1 RL ns y i (JW rl sp nl gl n x.1 l x7) H'
theorem Ek (h:BN vs H Q E):Oo K (eQ Q) (bh (nS 8) vs) H:=by
 obtain @⟨H,rl,sp,sl,nl,gl,ws,gv,RL,es,x,room,s,rest,ns,Q,E,hrl,ir,hs,hl,hn,hg,al,w,m,z1,z2,hp2,k⟩:=h;refine Reads.MV (dd:=.lst []) (.va rfl) (.inl (.lst hn)) w_ _ ⟨_,rfl,cf ?_⟩;refine Reads.mZ (.va rfl) (.inl hn) _ ⟨_,rfl,rfl,_,rfl,?_⟩;rw[O2,O_ rfl];refine cf ⟨_,rfl,sp,_,rfl,SqT.of hs,rfl,_,_,rfl,_,_,rfl,rfl,?_⟩;refine eS (tl:=av 2) ⟨_,rfl,nl,rfl,⟨_,SqL.of hn⟩,?_⟩;refine eY (K:=K) (a:=nl) (xs:=ns.map .int) (NB rl sp nl gl (ns.length:Nat) H RL ns (room,s::rest)) (.mk (fun _ _ e=>e) hl w (by lia)) (fun i σ' H' _ z=>by cases z with|mk s _ _ _=>exact SqL.of (s _ _ hn)) (fun i v σ' H' hi z=>?_) fun σ' H' z=>?_
 .obtain @⟨H',x,l,x7,sm,hl,w,z⟩:=z;have li:=(O3.mp hi).1;rw[O2]at li;rw[Pe,O1 li]at hi;cases hi;rw[R7 li]at w;generalize ns[i]=n at w;generalize hd:ns.drop (i+1)=rs at w;cases w with
  | @cons j r w rs y hj w'=>
  obtain⟨wv,ewv⟩ : ∃ wv,ws[j]?=some wv:=⟨_,O1 (by rw[<- ir.len];exact(O3.mp hj).1)⟩;have lj:=(O3.mp ewv).1;obtain⟨r',er',hr'⟩:=ir.get ewv;rw[hj]at er';cases er';obtain⟨b,q,rfl,hb,hq⟩:=hr';have rx:∀{σ:L2.St}{H'},Same H H'->σ[0]?=some (some (.ref rl))->σ[7]?=some (some (.int (j:Nat)))->Reads (JV K) σ H' (.ref b):=fun s e e7=>.yz (j:=j) (.va e) (.va e7) (aK s hrl) ewv rfl;refine⟨_,rfl,.mk ⟨_,rfl,cf ⟨_,rfl,_,_,rfl,rfl,_,rfl,?_⟩⟩⟩;rw[O_ (Int.natCast_nonneg j)];refine cJ (Reads.mZ (.va rfl) (aK sm hrl) _ ⟨_,_,rfl,rfl,_,rfl,?_⟩);rw[O_ (by lia)];refine cf (Reads.mZ (.va rfl) hl _ ⟨rfl,_,rfl,?_⟩);rw[Pp (by rw[O2,Pg];intro z;injection z with z;lia)];refine cf (Reads.ix (n:=0) (rx sm rfl rfl) (sm _ _ hb) (v:=.int r.1) rfl _ ⟨_,rfl,rfl,_,rfl,?_⟩);rw[O_ rfl];refine cf (Reads.ix (n:=1) (rx sm rfl rfl) (sm _ _ hb) (v:=.int r.2.1) rfl _ (Reads.yz (j:=0) (v:=.int r.2.1) (.va rfl) .k hl rfl rfl _ ⟨rfl,_,rfl,?_⟩));rw[O_ rfl];refine cf ?_;refine Reads.ix (n:=2) (rx sm rfl rfl) (sm _ _ hb) (v:=.int r.2.2.1) rfl _ (Reads.ix (n:=3) (rx sm rfl rfl) (sm _ _ hb) (v:=.ref q) rfl _ ⟨q,_,rfl,.inr (SqT.of (sm _ _ hq)),fun m1 hm1=>⟨_,rfl,1,rfl,l,_,rfl,.inl (aK (az hm1) hl),fun m2 hm2=>?_⟩⟩);have ec:cS ((r.2.1::w).map V.int) (some 1) none=w.map .int:=kr _ 1;rw[ec];have v1:=az (o:=.lst (r.2.2.2.map .int)) hm1;have c1:upd H' m1 (.lst (r.2.2.2.map .int)) m1=some (.lst (r.2.2.2.map .int)):=aj;generalize upd H' m1 (.lst (r.2.2.2.map .int))=G4 at v1 c1 hm2;have v2:=az (o:=.lst (w.map .int)) hm2;have c2:upd G4 m2 (.lst (w.map .int)) m2=some (.lst (w.map .int)):=aj;have c12:=v2 _ _ c1;generalize upd G4 m2 (.lst (w.map .int))=G5 at v2 c2 c12;have hpr:=hp2 r (Px hj);have zw:w.length+1<=1000+i:=z;refine⟨m1,m2,_,_,rfl,rfl,c12,c2,Rq (oS (by simp;lia)),fun m3 hm3=>?_⟩;have v3:=az (o:=.lst (r.2.2.2.map V.int++w.map .int)) hm3;exact .mk (x:=(r.2.2.1,r.2.2.2++w)) ((sm.trans (v1.trans v2)).trans v3) (.inl (by rw[aj,PX])) (by rw[hd];exact w') (by show(r.2.2.2++w).length<=_;rw[O6];lia)
 .obtain @⟨H',x,l,x7,sm,hl,w,z⟩:=z;rw[O2,List.drop_length]at w;cases w;refine Reads.mZ (.va rfl) hl _ ⟨_,_,rfl,rfl,_,rfl,?_⟩;rw[O_ (by rw[O2,Pg];lia)];refine cJ (gr (σ:=JW rl sp nl gl (ns.length:Nat) room l x7) (ws:=[.int room,.int s]) (.c (.va rfl) (.c (.yz (j:=0) (v:=.int s) (.va rfl) .k hl rfl rfl) .ni)) rfl fun a ha=>⟨_,rfl,?_⟩);have s1:=az (o:=.tup [.int room,.int s]) ha;refine mR (x:=(room,s)) aj (aK (sm.trans s1) hg) (al.mono (di (.of (sm.trans s1)))) ?_;rw[O_ m];exact k _ (sm.trans s1)
end
section
variable {X:Cx}{K:To}{B H H':Hp}{D:Ends}{vs ws rv:List V}{Q:VK}{E:XK}{RL:List Pz.Rule}{RW:List Rw}{r:Addr}
inductive BQ:Sp
 |mk {H:Hp} {rl sp sl wl gl cl:Addr} {ws wv gv:List V} {RL:List Pz.Rule} {we ge:List bV} {x:Rw} {cells:List Int} {Q:VK} {E:XK} (hl:Rd H rl (.lst ws)) (its:aO (IsRule H) RL ws) (hp:H sp=some (.tup [.int x.1,.ref sl])) (hs:Rd H sl (.lst (x.2.map .int))) (hw:Rd H wl (.lst wv)) (aw:aO (IsSet H) we wv) (hg:Rd H gl (.lst gv)) (ag:aO (IsSet H) ge gv) (hc:Rd H cl (.lst (cells.map .int))) (z1:RL.length<1000) (z2:x.2.length<=39) (z3:cells.length<=100) (h2:∀ r∈RL,r.2.2.2.length<=2)
  (k:∀ r rv RW H',Same H H'->H r=none->H' r=some (.lst rv)->aO (IsRw r H') RW rv->E4 (dM we RL) RW->RW.length<=101->RW[0]?=some x->(∃ RW0 y,RW=RW0++[y])->Q (.ref r) H'):BQ [.ref rl,.ref sp,.ref wl,.ref gl,.ref cl] H Q E
theorem Bj (h:BQ vs H Q E):vs.length=5:=by cases h;rfl
def GN (K:To):TE:=b8 (ao (av 5) (ao (aX (e9 K) (av 6) (tC (.int 0))) aG))
def JX (K:To):TT:=uV (bp (aX n_ (nK K 6) (tC (.int 0)))) (uV (bp (aX (rL false K) (GN K) (av 3))) (bp (aX (rL true K) (GN K) (av 2))))
def MC (K:To):TS:=cg (tD K "list" cB (av 7) (ao (b8 (ao (av 5) (ao (av 6) aG))) aG))
def ME (K:To):TS:=aP (bc (aX tG (ii (gu K) (ao (tI K 10 3) aG)) (yY (o7 K) (av 6) (gR (tC (.int 1))) gf)) (aE 6)) (MC K)
def JY (K:To):TS:=aP (bc (aX (e9 K) (av 9) (aX bP (av 8) (nK K 9))) (aE 10)) (aP (bc (tI K 10 2) (aE 5)) (ME K))
def MF (K:To):TS:=aP (cI (bp (aX n_ (nK K 9) (tC (.int 0)))) (b6 (av 7)) bY) (JY K)
def MG (X:Cx)(tc:TS):TS:=aP (cI (JX X.K) (b6 (av 7)) bY) (aP tc (MF X.K))
def Oq (X:Cx)(tc:TS):TS:=aP (bc (av 1) (dX X.K 2 (bn (aE 5) (bn (aE 6) dW)))) (aP (bc (cW (ao (b8 (ao (av 5) (ao (av 6) aG))) aG)) (aE 7)) (aP (eV (cC X.K (av 4)) (aE 8) (MG X tc)) (b6 (av 7))))
noncomputable def Bk (rl sp wl gl cl:Addr)(room:Int)(sl r:Addr)(x8 x9 x10:Option V):L2.St:=[some (.ref rl),some (.ref sp),some (.ref wl),some (.ref gl),some (.ref cl),some (.int room),some (.ref sl),some (.ref r),x8,x9,x10]
structure OB (X:Cx) (scope:Scope) (tg elt:Expr) (tN capN:List Str) (caps:List Nat) (ifs:List Expr):Prop where
 h:tN.length=1
 c:caps=[5,6]
 g:∀ cl C s3 H3 fp,PG (bH X scope (tN++capN) cl C s3 H3 fp) tg (aE 0)
 t:∀ cl C s3 H3 fp,BV (bH X scope (tN++capN) cl C s3 H3 fp) ifs (JA X.K)
 e:∀ cl C s3 H3 fp,PE (bH X scope (tN++capN) cl C s3 H3 fp) elt (av 0)
theorem Os {RL':List Pz.Rule}{rl sp wl gl cl sl fl:Addr}{room c s:Int}{w:List Int}{x10:Option V}{fv:List V}{fs:List Pz.Rule}(hf:H fl=some (.lst fv))(af:aO (IsRule H) fs fv)(fsub:∀ q∈fs,q∈RL'/\q.1=room/\q.2.1=s)(hp:∀ r∈RL',r.2.2.2.length<=2)(hs:Rd H sl (.lst ((s::w).map .int)))(c1:0<fv.length)(zw:w.length<1000)(nr:B r=none)(sB:Same B H)(hr:H r=some (.lst rv))(ar:aO (IsRw r H) RW rv)(zr:RW.length<1000)
 (ks:∀ x10 y sl' H',Jz RL' (room,s::w) y->Same B H'->sl'≠r->H' sl'=some (.lst (y.2.map .int))->(∃ rv,H' r=some (.lst rv)/\aO (IsRw r H') (RW++[y]) rv)->D.nx (Bk rl sp wl gl cl y.1 sl' r (some (.int c)) (some (.ref fl)) x10) H'):JY K D (Bk rl sp wl gl cl room sl r (some (.int c)) (some (.ref fl)) x10) H:=by
 have c1:(0:Int)<(fv.length:Nat):=by lia
 have ln:=af.len;have b:=em (a:=c) c1;obtain⟨j,hj⟩ : ∃ j:Nat,c % ((fv.length:Nat):Int)=(j:Nat):=⟨_,(Se b.1).symm⟩;have jl:j<fv.length:=by lia
 have ev:fv[j]?=some fv[j]:=O1 jl;obtain⟨q,eq,p,u,ep,hp',hu⟩:=af.get ev;rw[ep]at ev;have hq:=fsub q (Px eq);have hpq:=hp q hq.1;refine cE (Reads.OC (.va rfl) (.mod (.va (v:=.int c) rfl) (.mZ (.va rfl) (.inl hf)) c1) hf (by rw[hj];exact fq ev)) (cE (.ix (.va rfl) hp' (v:=.int q.2.2.1) rfl) ?_);refine Reads.ix (n:=3) (.va rfl) hp' (v:=.ref u) rfl _ ⟨u,_,rfl,.inr (SqT.of hu),fun l1 hl1=>?_⟩;have t1:=az (o:=.lst (q.2.2.2.map .int)) hl1;have h1:upd H l1 (.lst (q.2.2.2.map .int)) l1=some (.lst (q.2.2.2.map .int)):=aj;generalize upd H l1 (.lst (q.2.2.2.map .int))=H1 at t1 h1;refine⟨_,rfl,_,rfl,sl,_,rfl,.inl (aK t1 hs),fun l2 hl2=>?_⟩;have ec:cS ((s::w).map V.int) (some 1) none=w.map .int:=kr _ 1;rw[ec];have t2:=az (o:=.lst (w.map .int)) hl2;have h2:upd H1 l2 (.lst (w.map .int)) l2=some (.lst (w.map .int)):=aj;have h12:=t2 _ _ h1;generalize upd H1 l2 (.lst (w.map .int))=H2 at t2 h2 h12;refine⟨l1,l2,_,_,rfl,rfl,h12,h2,Rq (oS (by simp;lia)),fun l3 hl3=>?_⟩;have t3:=az (o:=.lst (q.2.2.2.map V.int++w.map .int)) hl3;have h3:upd H2 l3 (.lst (q.2.2.2.map V.int++w.map .int)) l3=some (.lst ((q.2.2.2++w).map .int)):=by rw[aj,PX]
 generalize upd H2 l3 (.lst (q.2.2.2.map V.int++w.map .int))=H3 at t3 h3;have t:=(t1.trans t2).trans t3;have n3:l3≠r:=fun z=>by rw[z,(t1.trans t2) _ _ hr]at hl3;cases hl3
 refine⟨_,rfl,.inl ⟨rfl,_,SqL.of (t _ _ hr)⟩,?_⟩;refine Jv (gr (ws:=[.int q.2.2.1,.ref l3]) (.c (.va rfl) (.c (.va rfl) .ni)) rfl fun p4 hp4=>?_);have t4:=az (o:=.tup [.int q.2.2.1,.ref l3]) hp4;have h4:upd H3 p4 (.tup [.int q.2.2.1,.ref l3]) p4=some (.tup [.int q.2.2.1,.ref l3]):=aj;generalize upd H3 p4 (.tup [.int q.2.2.1,.ref l3])=H4 at t4 h4;have tt:=t.trans t4;have hr4:=tt _ _ hr;have kt:KT H4 (upd H4 r (.lst (rv++[.ref p4]))):=.upd hr4 fun _ z=>(nomatch z);have kp:Kp r H4 (upd H4 r (.lst (rv++[.ref p4]))):=fun c u e n=>by rw[aA n];exact e
 have h34:=kp _ _ (t4 _ _ h3) n3;refine⟨r,rv,_,rfl,rfl,hr4,oS (by rw[<- ar.len];lia),ks _ (q.2.2.1,q.2.2.2++w) l3 _ ⟨q,hq.1,w,by rw[hq.2.1,hq.2.2],rfl⟩ (fun c u e=>?_) n3 h34 ⟨_,aj,((ar.mono fun x v h=>(h.kp (fun c u e _=>tt c u e) (.of tt)).kp kp kt).snoc ⟨p4,l3,rfl,kt _ _ h4,n3,.inl h34⟩)⟩⟩;rw[aA fun z=>by rw[z,nr]at e;cases e];exact tt _ _ (sB _ _ e)
theorem Ot {rl sp wl gl cl sl:Addr}{wv gv:List V}{we ge:List bV}{room:Int}{stk:List Int}{x8 x9 x10:Option V}{Q:Bool->Hp->Prop}(hs:Rd H sl (.lst (stk.map .int)))(hw:Rd H wl (.lst wv))(aw:aO (IsSet H) we wv)(hg:Rd H gl (.lst gv))(ag:aO (IsSet H) ge gv)(kt:∀ H',Same H H'->Q true H')(kf:∀ H' s w,Same H H'->stk=s::w->(room,s)∈we->Q false H'):JX K (Bk rl sp wl gl cl room sl r x8 x9 x10) H Q:=by
 refine Reads.mZ (.va rfl) hs _ ⟨rfl,_,rfl,?_⟩;cases stk with
 |nil=>exact cJ (kt _ fun _ _ e=>e)
 |cons s w=>
 rw[Pp (by rw[O2,Pg];intro z;injection z with z;lia)];have mkH:∀{H9:Hp},Same H H9->Makes (GN K) (Bk rl sp wl gl cl room sl r x8 x9 x10) H9 [.int room,.int s]:=fun s9=>.t (.c (.va rfl) (.c (.yz (j:=0) (v:=.int s) (.va rfl) .k (aK s9 hs) rfl rfl) .ni)) rfl;refine cf ?_
 delta uV bp aX
 refine mkH (fun _ _ e=>e) _ fun a ha=>⟨_,rfl,?_⟩;have s1:=az (o:=.tup [.int room,.int s]) ha;refine mR (x:=(room,s)) aj (aK s1 hg) (ag.mono (di (.of s1))) ⟨_,rfl,?_⟩;generalize upd H a (.tup [.int room,.int s])=H3 at s1;refine wC (fun _=>kt _ s1) fun _=>?_;refine mkH s1 _ fun a2 ha2=>⟨_,rfl,?_⟩;have s2:=s1.trans (az (o:=.tup [.int room,.int s]) ha2);refine mR (x:=(room,s)) aj (aK s2 hw) (aw.mono (di (.of s2))) ⟨_,rfl,?_⟩;generalize upd H3 a2 (.tup [.int room,.int s])=H4 at s2;by_cases m:(room,s)∈we
 .rw[O_ m];exact kf H4 s w s2 rfl m
 .rw[Pp m];exact kt H4 s2
inductive NA (rl sp wl gl cl r:Addr) (H1:Hp) (RL':List Pz.Rule) (x0:Rw) (i:Nat):L2.St->Hp->Prop
 |mk {H':Hp} {x:Rw} {sl:Addr} {RW0:List Rw} {rv:List V} {x8 x9 x10:Option V}:Same H1 H'->sl≠r->Rd H' sl (.lst (x.2.map .int))->H' r=some (.lst rv)->aO (IsRw r H') (RW0++[x]) rv->E4 RL' (RW0++[x])->RW0.length<=i->(RW0++[x])[0]?=some x0->x.2.length<=39+i->NA rl sp wl gl cl r H1 RL' x0 i (Bk rl sp wl gl cl x.1 sl r x8 x9 x10) H'
theorem El {scope:Scope}{tg elt:Expr}{tN capN:List Str}{caps:List Nat}{ifs:List Expr}(C:OB X scope tg elt tN capN caps ifs)(h:BQ vs H Q E):Oq X (mM X scope tg elt tN capN caps ifs 9 (cC X.K (av 0))) (eQ Q) (bh (nS 11) vs) H:=by
 obtain @⟨H,rl,sp,sl,wl,gl,cl,ws,wv,gv,RL,we,ge,x,cells,Q,E,hl,its,hp,hs,hw,aw,hg,ag,hc,z1,z2,z3,h2,k⟩:=h;refine⟨_,rfl,sp,_,rfl,SqT.of hp,rfl,_,_,rfl,_,_,rfl,rfl,?_⟩;refine⟨_,rfl,_,rfl,by show 2<=_;rw[Pn];lia,fun p hpp=>⟨Rq (oS (by show 1<15000000;decide)),fun r hr=>?_⟩⟩;have t1:=az (o:=.tup [.int x.1,.ref sl]) hpp;have t2:=az (o:=.lst [.ref p]) hr;have hp2:=t2 _ _ (aj:upd H p (.tup [.int x.1,.ref sl]) p=_);have hr2:upd (upd H p (.tup [.int x.1,.ref sl])) r (.lst [.ref p]) r=some (.lst [.ref p]):=aj;have t12:=t1.trans t2;have nr:H r=none:=t1.free hr;generalize upd (upd H p (.tup [.int x.1,.ref sl])) r (.lst [.ref p])=H2 at t12 hp2 hr2;have nsl:sl≠r:=fun z=>by rcases hs with e|⟨o,e⟩<;>rw[z,nr]at e<;>cases e
 have h2':∀ r∈dM we RL,r.2.2.2.length<=2:=fun r hr=>h2 r (P0.mp hr).1;refine eS (tl:=av 4) ⟨_,rfl,cl,rfl,⟨_,.inl (aK t12 hc)⟩,?_⟩;refine eY (K:=X.K) (a:=cl) (xs:=cells.map .int) (NA rl sp wl gl cl r H (dM we RL) x) (.mk (RW0:=[]) t12 nsl (aK t12 hs) hr2 (.cons ⟨p,sl,rfl,hp2,nsl,aK t12 hs⟩ .nil) (fun k a b _ hb=>by simp at hb) (Pq _) rfl z2) (fun i σ' H' _ z=>by cases z with|mk s=>exact .inl (aK s hc)) (fun i v σ' H' hi z=>?_) fun σ' H' z=>?_
 .obtain @⟨H',y,sl,RW0,rv,x8,x9,x10,sm,nsl,hs,hr',ar,ch,ln,h0,zy⟩:=z;have li:=(O3.mp hi).1;rw[O2]at li;rw[Pe,O1 li]at hi;cases hi;have done:∀ H2,Same H' H2->Q (.ref r) H2:=fun H2 s2=>k r rv _ H2 (sm.trans s2) nr (s2 _ _ hr') (ar.mono fun x v h=>h.kp (fun c u e _=>s2 c u e) (.of s2)) ch (by rw[O6,PQ];lia) h0 ⟨_,_,rfl⟩;obtain⟨room,stk⟩:=y;refine Ot (x8:=some (.int cells[i])) (room:=room) (stk:=stk) hs (aK sm hw) (aw.mono (di (.of sm))) (aK sm hg) (ag.mono (di (.of sm))) (fun H4 s2=>cJ ⟨_,rfl,done _ s2⟩) fun H4 s w s2 es mw=>cf ?_;subst es;have sm2:=sm.trans s2;refine⟨_,rfl,rl,rfl,⟨_,.inl (aK sm2 hl)⟩,DO (sl:=sl) (room:=room) (s:=s) (w:=w) C.h (by rw[C.c];rfl) C.g C.t C.e (aK sm2 hl) (its.mono (IsRule.keep (.of sm2))) (aK s2 hs) z1 fun fl fv H5 s5 nf hf af=>?_⟩;have s25:=s2.trans s5;refine Reads.mZ (.va rfl) (.inl hf) _ ⟨rfl,_,rfl,?_⟩;refine wC (fun _=>⟨_,rfl,done _ s25⟩) fun nf0=>?_;have c1:0<fv.length:=by
   rcases Nat.eq_zero_or_pos fv.length with e|e
   .exact(nf0 (by rw[e];rfl)).elim
   .exact e
  have zy:w.length+1<=39+i:=zy;refine Os (RL':=dM we RL) (B:=H) hf af (fun q hq=>?_) h2' (aK s25 hs) c1 (by lia) nr (sm.trans s25) (s25 _ _ hr') (ar.mono fun x v h=>h.kp (fun c u e _=>s25 c u e) (.of s25)) (by rw[O6,PQ];lia) fun x10 y sl' H6 st sB n' hs' ⟨rv',hr6,ar6⟩=>?_
  .obtain⟨q1,q2⟩:=P0.mp hq;obtain⟨e1,e2⟩:=Bool.and_eq_true_iff.mp q2;have e1:=eq_of_beq e1;have e2:=eq_of_beq e2;exact⟨P0.mpr ⟨q1,O_ (by rw[e1,e2];exact mw)⟩,e1,e2⟩
  .refine .mk (RW0:=RW0++[(room,s::w)]) sB n' (.inl hs') hr6 ar6 (AB ch st) (by rw[O6,PQ];lia) ?_ ?_
   .rw[Qf (by simp)];exact h0
   .have:=(vT h2' st).1;have this:y.2.length<=w.length+1+1:=this;lia
 .obtain @⟨H',y,sl,RW0,rv,x8,x9,x10,sm,nsl,hs,hr',ar,ch,ln,h0,zy⟩:=z;rw[O2]at ln;exact⟨_,rfl,k r rv _ H' sm nr hr' ar ch (by rw[O6,PQ];lia) h0 ⟨_,_,rfl⟩⟩
end
section
variable {t:Pz.TD}{room:Int}{stk ends:List Int}
structure MU (r r':ji):Prop where
 k:∀ b,b∈r.ks↔b∈r'.ks
 s:∀ b∈r.ks,r.S b=r'.S b
theorem nZ.det {P P':Int->Int->Pz.Arr->Prop}{r r':ji}(hP:∀ b n a,P b n a↔P' b n a)(h:nZ P r.ks r.S r.A)(h':nZ P' r'.ks r'.S r'.A):MU r r':=by
 have le:∀ b∈r.ks,b∈r'.ks/\r'.S b<=r.S b:=fun b hb=>by obtain⟨a,_,p⟩:=h.v b hb;exact h'.k b _ a ((hP _ _ _).mp p)
 have ge:∀ b∈r'.ks,b∈r.ks/\r.S b<=r'.S b:=fun b hb=>by obtain⟨a,_,p⟩:=h'.v b hb;exact h.k b _ a ((hP _ _ _).mpr p)
 refine⟨fun b=>⟨fun hb=>(le b hb).1,fun hb=>(ge b hb).1⟩,fun b hb=>?_⟩;have a1:=le b hb;have a2:=ge b a1.1;lia
theorem Em {sign:Int}{r r':ji}(e:MU r r')(b n:Int)(a:Pz.Arr):HP t sign r.S r.ks b n a↔HP t sign r'.S r'.ks b n a:=by
 constructor
 .rintro⟨s,hs,p,h1,h2,h3⟩;exact⟨s,(e.k s).mp hs,p,h1,h2,by rw[h3,e.s s hs]⟩
 .rintro⟨s,hs,p,h1,h2,h3⟩;have hs':=(e.k s).mpr hs;exact⟨s,hs',p,h1,h2,by rw[h3,e.s s hs']⟩
theorem Bl {L L':List ji}(n:L.length=stk.length+1)(n':L'.length=stk.length+1)(ok:kS t room stk L)(ok':kS t room stk L'):∀(j:Nat) r r',L[j]?=some r->L'[j]?=some r'->MU r r':=by
 intro j;induction j with
 |zero=>intro r r' h h';rw[ok.z]at h;rw[ok'.z]at h';obtain rfl:=Ps h;obtain rfl:=Ps h';exact⟨fun _=>Iff.rfl,fun _ _=>rfl⟩
 |succ j ih=>intro r r' h h';have hj:=(O3.mp h).1;have h0:L[j]?=some L[j]:=O1 (by lia);have h0':L'[j]?=some L'[j]:=O1 (by lia);have hk:stk[j]?=some stk[j]:=O1 (by lia);exact(ok.s j _ r _ h0 h hk).det (Em (ih _ _ h0 h0')) (ok'.s j _ r' _ h0' h' hk)
theorem eL.det {L L':List ji}{r r':ji}{o o':Option (Int×Int)}(h:eL t room stk ends L r o)(h':eL t room stk ends L' r' o'):nL o=nL o':=by
 obtain⟨n,ok,l,e⟩:=h;obtain⟨n',ok',l',e'⟩:=h';have d:=Bl n n' ok ok' _ r r' l l';cases o with
 |none=>
  cases o' with
  |none=>rfl
  |some x=>obtain⟨v,e1⟩:=x;exact(e e1 e'.1 ((d.k _).mpr e'.2.1)).elim
 |some x=>
  obtain⟨v,e1⟩:=x;cases o' with
  |none=>exact(e' e1 e.1 ((d.k _).mp e.2.1)).elim
  |some y=>obtain⟨v',e2⟩:=y;obtain⟨h1,h2,h3,h4⟩:=e;obtain⟨g1,g2,g3,g4⟩:=e';have a1:=h4 e2 g1 ((d.k _).mpr g2);have a2:=g4 e1 h1 ((d.k _).mp h2);have a3:=d.s e1 h2;have a4:=d.s e2 ((d.k _).mpr g2);show V.int v=V.int v';rw[show v=v' by lia]
end
structure HR (RL:List Pz.Rule) (M U:List Pz.Arr) (t:Pz.TD):Prop where
 g:Pz.Good RL M U t
 p:∀ r∈RL,r.2.2.2.length<=2
section
variable {RL:List Pz.Rule}{M U:List Pz.Arr}{t:Pz.TD}(A:HR RL M U t)
include A
theorem HR.tg {a:Pz.Arr}{v:Pz.nv}(h:(a,v)∈t):Pz.bK t a=some v:=Pz.jD A.g.nd h
theorem HR.why {a:Pz.Arr}{v:Pz.nv}(h:(a,v)∈t):(v.2.1=none/\v.1=0/\a∈M)\/∃(j:Nat)(r:Pz.Rule)(ps:List Pz.Arr),v.2.1=some (j:Nat)/\RL[j]?=some r/\a.1=r.1/\a.2.1=r.2.1/\ng r v.2.2 a.2.2 ps/\fS t r.2.2.1 ps a.2.2 (v.1-1)/\ps.map (·.2.1)=r.2.2.2:=by
 have ju:=A.g.ju a v (A.tg h);obtain⟨a1,a2,a3⟩:=a;obtain⟨p,n,mid⟩:=v;cases n with
 |none=>exact .inl ⟨rfl,ju.2.1,ju.2.2⟩
 |some i=>
  obtain⟨j,r,rfl,hj,e1,e2,jp⟩:=ju;dsimp only at e1 e2 jp;have fin:∀ ps,ng r mid a3 ps->fS t r.2.2.1 ps a3 (p-1)->ps.map (·.2.1)=r.2.2.2->∃(j':Nat)(r:Pz.Rule)(ps:List Pz.Arr),some (j:Int)=some (j':Int)/\RL[j']?=some r/\a1=r.1/\a2=r.2.1/\ng r mid a3 ps/\fS t r.2.2.1 ps a3 (p-1)/\ps.map (·.2.1)=r.2.2.2:=fun ps h1 h2 h3=>⟨j,r,ps,rfl,hj,e1,e2,h1,h2,h3⟩;refine .inr ?_;generalize hp:r.2.2.2=put at jp;rw[hp]at fin
  match put,jp with
  | [],⟨e,q,e3⟩=>exact fin [] (.p0 hp) (by rw[q,e3];exact .nil) rfl
  | [x],⟨e,q,⟨w,s1,s2⟩,e3⟩=>refine fin [(r.2.2.1,x,a3)] (.p1 hp) ?_ rfl;have:=fS.cons (Pz.dL s1) (fS.nil (t:=t));rw[show p-1=w.1+0 by lia];exact this
  | [x,y],⟨d,q1,q2,e,⟨w1,s1,s2⟩,⟨w2,s3,s4⟩,e3⟩=>refine fin [(r.2.2.1,x,d),(d,y,a3)] (.p2 hp e) ?_ rfl;have:=fS.cons (Pz.dL s1) (fS.cons (Pz.dL s3) (fS.nil (t:=t)));rw[show p-1=w1.1+(w2.1+0) by lia];exact this
theorem HR.pos {s e c:Int}{as:List Pz.Arr}(h:fS t s as e c):0<=c:=by
 induction h with
 |nil=>exact Rv _
 |cons m _ ih=>have:=A.g.ps _ _ (A.tg m);lia
theorem HR.al:∀(n k:Nat)(as:List Pz.Arr)(s e c:Int),c.toNat*2+as.length=n->fS t s as e c->(as.length=k->∃ ns m,jU RL t m as ns/\m<=c.toNat*2+as.length):=by
 intro n;induction n using Nat.strongRecOn with
 |ind n ih=>
  intro k as s e c hn h hk;have p0:=A.pos h;cases h with
  |nil=>exact⟨[],0,.nil,Pq _⟩
  | @cons a v as e c m k1=>
   have pc:=A.pos k1;rw[Pg]at hn;rcases A.why m with⟨q1,q2,_⟩|⟨j,r,ps,h1,h2,h3,h4,h5,h6,h7⟩
   .rw[q2,Si]at hn ⊢;obtain⟨ns,m',w,le⟩:=ih _ (by lia) _ as _ _ c rfl k1 rfl;exact⟨ns,m'+1,.none m q1 w,by rw[Pg];lia⟩
   .have pv:=A.pos h6;have ap:=h6.app (c:=[]) k1;have lp:ps.length<=2:=by have:=QH List.length h7;rw[O2]at this;rw[this];exact A.p r (Px h2)
    have ln:(ps++as).length=ps.length+as.length:=O6;obtain⟨ns,m',w,le⟩:=ih _ (by rw[ln];lia) _ (ps++as) _ _ (v.1-1+c) rfl ap rfl;exact⟨_,m'+1,.rule m h1 h2 h5 w,by rw[Pg];lia⟩
end
section
variable {RL:List Pz.Rule}{M U:List Pz.Arr}{t:Pz.TD}{ro sg:Int}{ge:List bV}
structure yA (RL:List Pz.Rule) (M U:List Pz.Arr) (t:Pz.TD) (ro sg:Int) (ge:List bV):Prop where
 a:HR RL M U t
 m:∀ x,x∈M↔x∈A_ ro sg ge
 r:∀ r∈RL,E9 ro sg r
variable (A:yA RL M U t ro sg ge)
include A
theorem yA.mm {x:Pz.Arr}(h:x∈M):x.2.2=ro/\((x.1,x.2.1)∈ge\/x.1=ro):=by
 rcases Pf.mp ((A.m x).mp h) with h|h
 .obtain⟨e,he,rfl⟩:=Pb.mp h;exact⟨rfl,.inl he⟩
 .obtain⟨g,_,rfl⟩:=Pb.mp h;exact⟨rfl,.inr rfl⟩
theorem yA.rest {n:Nat}{as:List Pz.Arr}{ns:List Int}(w:jU RL t n as ns):∀ e c,fS t ro as e c->ns=[]/\c=0:=by
 induction w with
 |nil=>intro e c h;cases h;exact⟨rfl,rfl⟩
 | @none a v as ns n m q _ ih=>
  intro e c h;generalize hs:ro=s at h;cases h with
  | @cons _ v' _ _ c' m' k=>
   rcases A.a.why m' with⟨_,q2,q3⟩|⟨j,r,ps,h1,h2,h3,_⟩
   .have:=(A.mm q3).1;rw[this]at k;obtain⟨e1,e2⟩:=ih _ _ k;exact⟨e1,by rw[q2,e2];rfl⟩
   .have:=(A.r r (Px h2)).a;lia
 | @rule a v as ps ns n j r m q hj pp _ ih=>
  intro e c h;generalize hs:ro=s at h;cases h with
  | @cons _ v' _ _ c' m' k=>
   rcases A.a.why m with⟨q1,_,_⟩|⟨j',r',ps',h1,h2,h3,_⟩
   .rw[q]at q1;cases q1
   .have:=(A.r r' (Px h2)).a;lia
theorem yA.wk {n:Nat}{as:List Pz.Arr}{ns:List Int}(w:jU RL t n as ns):∀ s c,s<ro->fS t s as ro c->(∃ room x rest,HW RL ns (s,as.map (·.2.1)) (room,x::rest)/\(room,x)∈ge)/\(ns.length:Int)=c:=by
 induction w with
 |nil=>intro s c hs h;cases h;lia
 | @none a v as ns n m q w' ih=>
  intro s c hs h;cases h with
  | @cons _ v' _ _ c' m' k=>
   have ev:v'=v:=by have a1:=A.a.tg m';rw[A.a.tg m]at a1;exact(Ps a1).symm
   subst ev;rcases A.a.why m with⟨_,q2,q3⟩|⟨j,r,ps,h1,_⟩
   .obtain⟨e1,e2⟩:=A.mm q3;rw[e1]at k;obtain⟨rfl,rfl⟩:=A.rest w' _ _ k;refine⟨⟨a.1,a.2.1,as.map (·.2.1),.nil,?_⟩,by rw[q2];rfl⟩;rcases e2 with e2|e2
    .exact e2
    .lia
   .rw[q]at h1;cases h1
 | @rule a v as ps ns n j r m q hj pp w' ih=>
  intro s c hs h;cases h with
  | @cons _ v' _ _ c' m' k=>
   have ev:v'=v:=by have a1:=A.a.tg m';rw[A.a.tg m]at a1;exact(Ps a1).symm
   subst ev;rcases A.a.why m with⟨q1,_,_⟩|⟨j',r',ps',h1,h2,h3,h4,h5,h6,h7⟩
   .rw[q]at q1;cases q1
   .rw[q]at h1;have ej:j=j':=by have:=Ps h1;lia
    subst ej;rw[hj]at h2;obtain rfl:=Ps h2;obtain rfl:=pp.det h5;obtain⟨⟨rm,x,rest,st,mg⟩,ln⟩:=ih _ _ (A.r r (Px hj)).t.2 (h6.app (c:=[]) k);rw[PX,h7]at st;refine⟨⟨rm,x,rest,?_,mg⟩,by rw[Pg];lia⟩;rw[Ph,h3,h4];exact .cons hj st
theorem yA.free:∀ w:List Int,(∀ x∈w,0<=x/\x<sg)->∃ as,fS t ro as ro 0/\as.map (·.2.1)=w
 | [],_=>⟨[],.nil,rfl⟩
 |x::w,h=>by obtain⟨as,h1,h2⟩:=yA.free w fun y hy=>h y (O4 _ hy);have b:=h x O5;have m:((ro,x,ro):Pz.Arr)∈M:=(A.m _).mpr (Pf.mpr (.inr (Pb.mpr ⟨x.toNat,PY.mpr (by lia),by rw[Se b.1]⟩)));have:=fS.cons (Pz.dL (A.a.g.m0 _ m)) h1;exact⟨_,this,by rw[Ph,h2]⟩
end
section
variable {t:Pz.TD}
theorem fS.nil_inv {s e c:Int}(h:fS t s [] e c):e=s/\c=0:=by cases h;exact⟨rfl,rfl⟩
theorem fS.cons_inv {s e c:Int}{a:Pz.Arr}{as:List Pz.Arr}(h:fS t s (a::as) e c):s=a.1/\∃ v c',(a,v)∈t/\fS t a.2.2 as e c'/\c=v.1+c':=by
 cases h with
 |cons m k=>exact⟨rfl,_,_,m,k,rfl⟩
theorem fS.split {s e c:Int}{as:List Pz.Arr}(h:fS t s as e c):∀ xs w,as.map (·.2.1)=xs++w->∃ p q d c1 c2,fS t s p d c1/\fS t d q e c2/\p.map (·.2.1)=xs/\q.map (·.2.1)=w/\c=c1+c2:=by
 induction h with
 | @nil s=>intro xs w e;obtain⟨rfl,rfl⟩:=List.append_eq_nil_iff.mp e.symm;exact⟨[],[],s,0,0,.nil,.nil,rfl,rfl,rfl⟩
 | @cons a v as e c m k ih=>
  intro xs w eq;cases xs with
  |nil=>exact⟨[],a::as,a.1,0,v.1+c,.nil,.cons m k,rfl,eq,by lia⟩
  |cons x xs=>rw[Ph,List.cons_append]at eq;injection eq with e1 e2;obtain⟨p,q,d,c1,c2,h1,h2,h3,h4,h5⟩:=ih xs w e2;exact⟨a::p,q,d,v.1+c1,c2,.cons m h1,h2,by rw[Ph,e1,h3],h4,by lia⟩
end
section
variable {RL:List Pz.Rule}{M U:List Pz.Arr}{t:Pz.TD}{ro sg:Int}{ge:List bV}(A:yA RL M U t ro sg ge)
include A
theorem yA.OD {x y:Rw}{c:Int}{as:List Pz.Arr}(h:Jz RL x y)(k:fS t y.1 as ro c)(e:as.map (·.2.1)=y.2):∃ as' c',fS t x.1 as' ro c'/\as'.map (·.2.1)=x.2/\c'<=c+1:=by
 obtain⟨r,hr,w,rfl,rfl⟩:=h;obtain⟨p,q,d,c1,c2,h1,h2,h3,h4,rfl⟩:=k.split _ _ e;obtain⟨j,hj⟩:=Pj.mp hr;have sI:=A.a.g.sI j r hj;have low:Pz.KU t (r.1,r.2.1,d) (c1+1):=by
  have l2:=A.a.p r hr;generalize hp:r.2.2.2=put at sI h3 l2
  match put,l2 with
  | [],_=>obtain rfl:=SZ.mp h3;obtain⟨rfl,rfl⟩:=h1.nil_inv;exact sI
  | [a],_=>
   obtain⟨b,rfl,eb⟩:=List.map_eq_singleton_iff.mp h3;obtain⟨es,v,c',m,k',rfl⟩:=h1.cons_inv;obtain⟨ed,rfl⟩:=k'.nil_inv;obtain⟨b1,b2,b3⟩:=b;dsimp only at eb sI es ed;subst eb;subst ed;rw[es]at sI;have:=sI _ _ ⟨v,A.a.tg m,rfl⟩
   rwa [Int.add_zero]
  | [a,a'],_=>
   match p,h3,h1 with
   | [b,b'],h3,h1=>
    injection h3 with e1 e2;injection e2 with e2 _;obtain⟨es,v,c',m,k',rfl⟩:=h1.cons_inv;obtain⟨es2,v2,c'',m2,k2,rfl⟩:=k'.cons_inv;obtain⟨ed,rfl⟩:=k2.nil_inv;obtain⟨b1,b2,b3⟩:=b;obtain⟨d1,d2,d3⟩:=b';dsimp only at e1 e2 es es2 ed sI;subst e1;subst e2;subst es2;subst ed;rw[es]at sI;have:=sI _ _ _ _ ⟨v,A.a.tg m,rfl⟩ ⟨v2,A.a.tg m2,rfl⟩
    rwa [Int.add_zero]
 obtain⟨v,hv,le⟩:=low;exact⟨_,_,.cons (Pz.dL hv) h2,by rw[Ph,h4],by show v.1+c2<=_;lia⟩
end
section
variable {t:Pz.TD}{room:Int}{stk:List Int}
theorem fS.snoc_inv {as:List Pz.Arr}:∀{s e c:Int}{a:Pz.Arr},fS t s (as++[a]) e c->∃ v c',fS t s as a.1 c'/\(a,v)∈t/\e=a.2.2/\c=c'+v.1:=by
 induction as with
 |nil=>intro s e c a h;obtain⟨es,v,c',m,k,rfl⟩:=h.cons_inv;obtain⟨rfl,rfl⟩:=k.nil_inv;exact⟨v,0,by rw[es];exact .nil,m,rfl,by lia⟩
 |cons b as ih=>intro s e c a h;obtain⟨es,v,c',m,k,rfl⟩:=h.cons_inv;obtain⟨v2,c2,k2,m2,e2,rfl⟩:=ih k;exact⟨v2,v.1+c2,by rw[es];exact .cons m k2,m2,e2,by lia⟩
theorem GO {L:List ji}(n:L.length=stk.length+1)(ok:kS t room stk L):∀(j:Nat) r as b c,L[j]?=some r->fS t room as b c->as.map (·.2.1)=stk.take j->b∈r.ks/\r.S b<=c:=by
 intro j;induction j with
 |zero=>intro r as b c h p e;rw[ok.z]at h;obtain rfl:=Ps h;rw[List.take_zero]at e;obtain rfl:=SZ.mp e;obtain⟨rfl,rfl⟩:=p.nil_inv;exact⟨O9.mpr rfl,Rv _⟩
 |succ j ih=>
  intro r as b c h p e;have hj:=(O3.mp h).1;have h0:L[j]?=some L[j]:=O1 (by lia);have hk:stk[j]?=some stk[j]:=O1 (by lia);rw[List.take_succ,hk,Option.toList_some]at e;rcases RN as with rfl|⟨as',a,rfl⟩
  .have:=QH List.length e;rw[O6,PQ,Rr,QM]at this;lia
  .rw[List.concat_eq_append]at e p;rw[PX,List.map_singleton]at e;obtain⟨e1,e2⟩:=List.append_inj' e rfl;have e2:a.2.1=stk[j]:=List.singleton_inj.mp e2;obtain⟨v,c',k,m,rfl,rfl⟩:=p.snoc_inv;obtain⟨i1,i2⟩:=ih _ as' a.1 c' h0 k e1;have M:=ok.s j L[j] r stk[j] h0 h hk;obtain⟨m1,m2⟩:=M.k a.2.2 (L[j].S a.1+v.1) a ⟨a.1,i1,v.1,mem_ldT.mpr ⟨by rw[e2],v,m,rfl⟩,rfl,rfl⟩;exact⟨m1,by lia⟩
theorem eL.le {L:List ji}{r:ji}{o:Option (Int×Int)}{e c:Int}{as:List Pz.Arr}(h:eL t room stk [e] L r o)(p:fS t room as e c)(hs:as.map (·.2.1)=stk):∃ v,o=some (v,e)/\v<=c:=by
 obtain⟨n,ok,l,lo⟩:=h;obtain⟨m,le⟩:=GO n ok _ r as e c l p (by rw[hs,Qx]);cases o with
 |none=>exact(lo e (O9.mpr rfl) m).elim
 |some x=>obtain⟨v,e'⟩:=x;obtain⟨h1,_,h3,_⟩:=lo;obtain rfl:=O9.mp h1;exact⟨v,rfl,by rw[h3];exact le⟩
end
section
variable {RL:List Pz.Rule}{M U:List Pz.Arr}{t:Pz.TD}{ro sg:Int}{ge:List bV}
theorem Bm {RW:List Rw}(hr:∀ r∈RL,E9 ro sg r)(ch:E4 RL RW){x:Rw}(h0:RW[0]?=some x)(hx:∀ s∈x.2,0<=s/\s<sg)(hx1:0<=x.1/\x.1<ro):∀(k:Nat) y,RW[k]?=some y->(0<=y.1/\y.1<ro)/\∀ s∈y.2,0<=s/\s<sg:=by
 intro k;induction k with
 |zero=>intro y h;rw[h0]at h;obtain rfl:=Ps h;exact⟨hx1,hx⟩
 |succ k ih=>
  intro y h;have hk:=(O3.mp h).1;have h':RW[k]?=some RW[k]:=O1 (by lia);have i:=ih _ h';obtain⟨r,hr',w,e1,e2⟩:=ch k _ y h' h;rw[e1]at i;rw[e2];refine⟨(hr r hr').t,fun s hs=>?_⟩;rcases Pf.mp hs with hs|hs
  .exact(hr r hr').q s hs
  .exact i.2 s (O4 _ hs)
variable (A:yA RL M U t ro sg ge)
include A
theorem yA.run {RW:List Rw}(ch:E4 RL RW){h x:Int}{w:List Int}(hl:RW[RW.length-1]?=some (h,x::w))(hg:(h,x)∈ge)(hw:∀ s∈w,0<=s/\s<sg):∀(n k:Nat) y,k+n+1=RW.length->RW[k]?=some y->∃ as c,fS t y.1 as ro c/\as.map (·.2.1)=y.2/\c<=n:=by
 intro n;induction n with
 |zero=>
  intro k y hk hy;obtain rfl:k=RW.length-1:=by lia
  rw[hl]at hy;obtain rfl:=Ps hy;obtain⟨as,h1,h2⟩:=A.free w hw;have m:((h,x,ro):Pz.Arr)∈M:=(A.m _).mpr (Pf.mpr (.inl (Pb.mpr ⟨(h,x),hg,rfl⟩)));have:=fS.cons (Pz.dL (A.a.g.m0 _ m)) h1;exact⟨_,_,this,by rw[Ph,h2],by decide⟩
 |succ n ih=>intro k y hk hy;have hz:RW[k+1]?=some RW[k+1]:=O1 (by lia);obtain⟨as,c,h1,h2,h3⟩:=ih (k+1) _ (by lia) hz;obtain⟨as',c',g1,g2,g3⟩:=A.OD (ch k y _ hy hz) h1 h2;exact⟨as',c',g1,g2,by lia⟩
end
noncomputable def U41:List Pz.Arr:=(List.range 4).flatMap fun a=>(List.range 4).flatMap fun s=>(List.range 4).map fun b=>(((a:Nat):Int),((s:Nat):Int),((b:Nat):Int))
theorem jI:U41.length=64:=by decide +kernel
theorem U41_mem {a s b:Int}:((a,s,b):Pz.Arr)∈U41↔(0<=a/\a<4)/\(0<=s/\s<4)/\0<=b/\b<4:=by
 unfold U41;simp only[List.mem_flatMap,Pb,PY,Prod.mk.injEq];constructor
 .rintro⟨x,hx,y,hy,z,hz,rfl,rfl,rfl⟩;lia
 .rintro⟨h1,h2,h3⟩;exact⟨a.toNat,by lia,s.toNat,by lia,b.toNat,by lia,by lia,by lia,by lia⟩
section
variable {ro sg:Int}{RL:List Pz.Rule}{ge:List bV}{ms:List Pz.Arr}
theorem JZ (hr:0<ro/\ro<=3)(hs:0<sg/\sg<=4)(hg:xY ro sg ge){x:Pz.Arr}(h:x∈A_ ro sg ge):x∈U41/\x.2.2=ro:=by
 rcases Pf.mp h with h|h
 .obtain⟨e,he,rfl⟩:=Pb.mp h;have:=hg e he;exact⟨U41_mem.mpr (by lia),rfl⟩
 .obtain⟨g,hg',rfl⟩:=Pb.mp h;have:=PY.mp hg';exact⟨U41_mem.mpr (by lia),rfl⟩
theorem GP (hr:0<ro/\ro<=3)(hs:0<sg/\sg<=4)(a:∀ r∈RL,E9 ro sg r)(z:RL.length<=100)(hg:xY ro sg ge)(mm:∀ x,x∈ms↔x∈A_ ro sg ge)(sd:SrtA ms) :
 ∃ t,si sQ [kq ro sg RL,.tup [.int (ro+1),.lst (ms.map iG),.lst [.int ro]]]=.ok (.yw (kN t))/\yA RL ms U41 t ro sg ge/\t.length<=64/\∀ x∈t,x.1.2.2∈([0,1,2,3]:List Int):=by
 have inU:∀ x∈ms,x∈U41/\x.2.2=ro:=fun x hx=>JZ hr hs hg ((mm x).mp hx);have ml:ms.length<=64:=by rw[<- jI];exact Pz.iu ms U41 sd.nd fun x hx=>(inU x hx).1
 have st:Pz.Set RL ms U41:=by
  refine⟨fun r h=>(a r h).p,fun x h=>(inU x h).1,fun r h=>U41_mem.mpr ?_,fun r h s x t k=>U41_mem.mpr ?_,?_,?_,?_⟩
  .have:=a r h;have h1:=this.a;have h2:=this.s;have h3:=this.t;lia
  .have:=a r h;have h1:=this.a;have h2:=this.s;have:=U41_mem.mp k;lia
  .rw[jI];unfold Pz.L;lia
  .rw[jI];unfold Pz.L;lia
  .rw[jI];unfold Pz.L;lia
 have hF:sQ [kq ro sg RL,.tup [.int (ro+1),.lst (ms.map iG),.lst [.int ro]]]=.ok (.val .bJ true []):=Pi ⟨ro,.int sg,.lst (RL.map dU),.int (ro+1),.lst [.int ro],ms,rfl,by lia,fun x hx=>by rw[(inU x hx).2];exact Rv _⟩;obtain⟨t,e,g⟩:=Gs st hF;refine⟨t,e,⟨⟨g,fun r h=>(a r h).p⟩,mm,a⟩,?_,fun x hx=>?_⟩
 .have:=Pz.iu (t.map (·.1)) U41 g.nd fun a ha=>by obtain⟨x,hx,rfl⟩:=Pb.mp ha;exact g.u x.1 x.2 (Pz.jD g.nd hx)
  rwa [O2,jI]at this
 .have:=g.u x.1 x.2 (Pz.jD g.nd hx);obtain⟨⟨x1,x2,x3⟩,v⟩:=x;have:=U41_mem.mp this;dsimp only;simp only[O8,Pd,SR];lia
end
def J0 (K:To):TT:=bp (aX (rL false K) (b8 (ao (tI K 0 0) (ao (tI K 0 1) aG))) (av 1))
structure MP (X:Cx) (scope:Scope) (tg elt:Expr) (tN capN:List Str) (caps:List Nat) (ifs:List Expr):Prop where
 h:tN.length=1
 c:caps=[7]
 g:∀ cl C s3 H3 fp,PG (bH X scope (tN++capN) cl C s3 H3 fp) tg (aE 0)
 t:∀ cl C s3 H3 fp,BV (bH X scope (tN++capN) cl C s3 H3 fp) ifs (J0 X.K)
 e:∀ cl C s3 H3 fp,PE (bH X scope (tN++capN) cl C s3 H3 fp) elt (av 0)
section
variable {X:Cx}{σ:L2.St}{ws wv:List V}{RL:List Pz.Rule}{we:List bV}
theorem J1 {scope:Scope}{tg elt:Expr}{tN capN:List Str}{caps:List Nat}{ifs:List Expr}{H1:Hp}{rl wl:Addr}{Fin:Addr->List V->Hp->Prop}(c:MP X scope tg elt tN capN caps ifs)(h7:σ[7]?=some (some (.ref wl)))(hl:Rd H1 rl (.lst ws))(ir:aO (IsRule H1) RL ws)(hw:Rd H1 wl (.lst wv))(aw:aO (IsSet H1) we wv)(hz:RL.length<1000)
 (k:∀ Dl acc H',Same H1 H'->H1 Dl=none->H' Dl=some (.lst acc)->aO (IsRule H') (dM we RL) acc->Fin Dl acc H'):c_ X scope tg tN capN caps elt ifs σ Fin (Cv X.K rl) H1:=by
 have ln:=ir.len;refine je (n:=RL.length) c.g c.t c.e (fun Dl i acc H'=>Same H1 H'/\H' Dl=some (.lst acc)/\aO (IsRule H') (dM we (RL.take i)) acc/\H1 Dl=none) (fun Dl hD=>⟨az hD,aj,.nil,hD⟩) (fun h=>h.2.1) (fun Dl i acc H' ⟨sm,_⟩ hi=>⟨ws,ws[i]'(by lia),.inl (aK sm hl),O1 _⟩) (fun Dl acc H' ⟨sm,_⟩=>⟨ws,.inl (aK sm hl),by lia⟩) (fun Dl i acc H' xv H'' ol hi ⟨sm',hD,a2,nD⟩ y hol=>?_) fun Dl acc H' hD ⟨sm',hD',a2,_⟩=>k Dl acc H' sm' hD hD' (by rw[Qx]at a2;exact a2);obtain⟨rfl,y⟩:=y;obtain⟨r,hr,b0,q0,rfl,hb,hq⟩:=ir.get (y _ (.inl (aK sm' hl)));have hb:=sm' _ _ hb;have hq:=sm' _ _ hq;rw[c.h]at hol;obtain⟨u0,rfl⟩:=QD.mp hol;have ec:jB σ caps=[some (.ref wl)]:=by rw[c.c];show[σ[7]?.join]=_;rw[h7];rfl
 rw[ec];have et:RL.take (i+1)=RL.take i++[r]:=by rw[PV,hr];rfl
 refine⟨fun j hj=>?_,?_⟩
 .rw[c.h]at hj;obtain⟨j,rfl⟩:=Qb hj;rfl
 delta J0 bp aX
 refine gr (ws:=[.int r.1,.int r.2.1]) (.c (.ix (n:=0) (.va rfl) hb (v:=.int r.1) rfl) (.c (.ix (n:=1) (.va rfl) hb (v:=.int r.2.1) rfl) .ni)) rfl fun a ha=>⟨_,rfl,?_⟩;have s2:=az (o:=.tup [.int r.1,.int r.2.1]) ha;have h2:upd H'' a (.tup [.int r.1,.int r.2.1]) a=some (.tup [.int r.1,.int r.2.1]):=aj;have hD2:=s2 _ _ hD;have b2:=s2 _ _ hb;have q2:=s2 _ _ hq;have sm2:=sm'.trans s2;have a3:=a2.mono (IsRule.keep (.of s2));generalize upd H'' a (.tup [.int r.1,.int r.2.1])=H3 at s2 h2 hD2 b2 q2 sm2 a3;refine mR (x:=(r.1,r.2.1)) h2 (aK sm2 hw) (aw.mono (di (.of sm2))) ⟨_,rfl,?_⟩;have ll:=a3.len;have lf:(dM we (RL.take i)).length<=i:=Pu (QJ _ _) (List.length_take_le i RL);by_cases m:(r.1,r.2.1)∈we
 .rw[O_ m];refine cJ ?_;have kt:KT H3 (upd H3 Dl (.lst (acc++[.ref b0]))):=.upd hD2 fun _ z=>(nomatch z);refine⟨_,rfl,hD2,oS (by lia),fun c u e=>by rw[aA (aB e nD)];exact sm2 _ _ e,aj,?_,nD⟩;rw[et];unfold dM;rw[Qu,Q5 (by exact O_ m)];exact(a3.mono (IsRule.keep kt)).snoc ⟨b0,q0,rfl,kt _ _ b2,kt _ _ q2⟩
 .rw[Pp m];refine cf ⟨sm2,hD2,?_,nD⟩;rw[et];unfold dM;rw[Qu,Q3 (by intro z;exact m (PD z))];simpa[dM] using a3
end
theorem Eo {we we':List bV}(h:∀ x,x∈we↔x∈we')(RL:List Pz.Rule):dM we RL=dM we' RL:=by
 unfold dM;congr 1;funext r;by_cases m:(r.1,r.2.1)∈we
 .rw[O_ m,O_ ((h _).mp m)]
 .rw[Pp m,Pp fun z=>m ((h _).mpr z)]
theorem Ep {ro sg:Int}{ge ge':List bV}(h:∀ x,x∈ge↔x∈ge')(x:Pz.Arr):x∈A_ ro sg ge↔x∈A_ ro sg ge':=by
 have one:∀{a b:List bV},(∀ x,x∈a↔x∈b)->x∈A_ ro sg a->x∈A_ ro sg b:=fun{a b} h m=>by
  rcases Pf.mp m with m|m
  .obtain⟨e,he,q⟩:=Pb.mp m;exact Pf.mpr (.inl (Pb.mpr ⟨e,(h e).mp he,q⟩))
  .exact Pf.mpr (.inr m)
 exact⟨one h,one fun x=>(h x).symm⟩
section
variable {X:Cx}{H:Hp}
def J2:R2:=fun x y H Q=>∃ l m m',Is H m (.lst l) x/\Is H m' (.lst l) y/\D.cN l<=49/\Q (.bl false) H
theorem GQ (hu:X.A.units+64<cLine):jk X (compareOp .NotEq) J2:=by intro ai s σ H x y v u Q I rx ry h;obtain⟨l,m,m',⟨a,vs,rfl,g,q⟩,⟨a',vs',rfl,g',q'⟩,hd,k⟩:=h;cases rx;cases ry;obtain⟨us,y,p⟩:=mr I.be g;obtain⟨us',y',p'⟩:=mr I.be g';obtain⟨e,z⟩:=jF (fun d hm v w' u u' i1 i2 r1 r2=>by obtain⟨j,hj⟩:=Pj.mp hm;exact vS I.be 49 X.A.in1 (by show X.A.units+1+49<cLine;lia) (Pu (fy hj) hd) (by lia) i1 i2 r1 r2) q q' y y';have z:=SeqAt.RcNeAt.lists p p' (by rw[O7,O7,e]) (by lia) z;rw[vR]at z;exact z X.prog X.w X.xe _ ⟨.bl _,H,I,rfl,k⟩
def J3:R2:=qJ fun i j=>.bl (decide (i<=j))
theorem qb (sc:List Int)(k:Nat):DP [.lst (sc.map .int),.int k]=.ok (.val (.int ((sc[k]?).getD 0)) true []):=by
 have h:∃ x,GG [.lst (sc.map .int),.int k] x:=⟨(sc[k]?).getD 0,_,k,rfl,by rw[Pe];cases sc[k]?<;>rfl⟩;unfold DP;rw[dif_pos h];obtain⟨l,k',e,ex⟩:=h.choose_spec;generalize h.choose=x at ex;injection e with e1 e2;injection e1 with e1;injection e2 with e2;injection e2 with e2;subst e1;obtain rfl:k=k':=by lia
 rw[Pe]at ex;cases h:sc[k]? with
 |none=>rw[h]at ex;cases ex;rfl
 |some y=>rw[h]at ex;cases ex;rfl
theorem uH (c:Int):DQ [.int c]=.ok (.val (.int ((c % 2147483647+11)*48271 % 2147483647)) true []):=by have h:∃ x,[L3.D.int c]=[.int x]:=⟨c,rfl⟩;unfold DQ;rw[dif_pos h];have e:=h.choose_spec;generalize h.choose=x at e;injection e with e;injection e with e;rw[e]
end
theorem aO.cut {R:bV->V->Prop}{xs:List bV}{ys:List V}(h:aO R xs ys)(a b:Option Int):∃ es,aO R es (cS ys a b)/\(∀ x∈es,x∈xs)/\es.length<=xs.length:=by unfold cS;refine⟨_,(h.drop _).take _,fun x hx=>RX (QB hx),?_⟩;rw[Qi,Q0];lia
section
variable {K:To}{mg:Str->Option Tq}{H0 H H':Hp}{D:Ends}{σ:L2.St}{Q:VK}{sc:List Int}{tb:TS}
def GR (K:To)(a b c d:Int)(te:TE):TE:=aX (e9 K) (cW (ao (tC (.int a)) (ao (tC (.int b)) (ao (tC (.int c)) (ao (tC (.int d)) aG))))) te
theorem Bn {a b c d i:Int}{te:TE}(h:∀ H',Reads te σ H' (.int i))(hi:0<=i/\i<4)(k:∀ x H',Same H H'->Q (.int x) H'):GR K a b c d te σ H Q:=by refine⟨by show 4<=_;rw[Pn];lia,fun l hl=>h _ _ ?_⟩;obtain⟨v,hv⟩ : ∃ v,([a,b,c,d])[i.toNat]?=some v:=⟨_,O1 (by show i.toNat<4;lia)⟩;refine⟨l,[.int a,.int b,.int c,.int d],i,.int v,rfl,rfl,SqL.of aj,?_,k v _ (az hl)⟩;obtain⟨n,rfl⟩:=Qp hi.1;exact fq (show(([a,b,c,d]:List Int).map V.int)[n]?=_ by rw[Pe,show([a,b,c,d])[n]?=some v from hv];rfl)
def Ou (K:To)(tb:TS):TS:=aP (bc (br yf [] E0 (ao (aX b_ (aX dj (av 6) (tC (.int 8))) (tC (.int 1))) (ao (av 2) (ao (av 3) (ao (GR K 1 1 2 0 (aX bP (aX dj (av 6) (tC (.int 4))) (tC (.int 4)))) aG))))) (aE 8)) tb
def Ov (K:To)(tb:TS):TS:=aP (bc (br yf [] E0 (ao (aX dj (av 6) (tC (.int 8))) (ao (av 2) (ao (av 3) (ao (GR K 3 3 2 4 (aX bP (av 6) (tC (.int 4)))) aG))))) (aE 7)) (Ou K tb)
def Ow (K:To)(mg:Str->Option Tq)(tb:TS):TS:=aP (bc (Ar mg DQ DP 2) (aE 6)) (Ov K tb)
def Ni (K:To)(mg:Str->Option Tq)(tb:TS):TS:=aP (bc (br (BL DQ DP) [] E0 (ao (av 0) (ao (av 2) (ao (av 3) (ao (av 4) aG))))) (aE 5)) (Ow K mg tb)
def tN1 (K:To)(mg:Str->Option Tq)(tb:TS):TS:=aP (bc (Ar mg DQ DP 0) (aE 1)) (aP (bc (aX b_ (tC (.int 1)) (aX bP (av 1) (tC (.int 3)))) (aE 2)) (aP (bc (aX b_ (tC (.int 1)) (JM 3 4)) (aE 3)) (aP (bc (JM 48 13) (aE 4)) (Ni K mg tb))))
def sN (a0:Addr)(size ro sg many:Int)(rl:Addr)(bj:Int)(wl gl:Addr)(rest:L2.St):L2.St:=some (.ref a0)::some (.int size)::some (.int ro)::some (.int sg)::some (.int many)::some (.ref rl)::some (.int bj)::some (.ref wl)::some (.ref gl)::rest
structure Ho (ro sg many:Int) (RL:List Pz.Rule) (we ge:List bV):Prop where
 r:0<ro/\ro<=3
 s:0<sg/\sg<=4
 m:0<=many/\many<=12
 rr:∀ r∈RL,E9 ro sg r
 z:RL.length<=24
 w:xY ro sg we
 zw:we.length<=12
 g:xY ro sg ge
 zg:ge.length<=12
structure yl (H0 H:Hp) (a0:Addr) (sc:List Int) (RL:List Pz.Rule) (we ge:List bV) (ws wv gv:List V) (rl wl gl:Addr):Prop where
 s:Same H0 H
 i:Rd H a0 (.lst (sc.map .int))
 is:Is H Tr (.lst (sc.map .int)) (.ref a0)
 rl:H rl=some (.lst ws)
 ir:aO (IsRule H) RL ws
 wl:H wl=some (.lst wv)
 iw:aO (IsSet H) we wv
 gl:H gl=some (.lst gv)
 ig:aO (IsSet H) ge gv
theorem yl.more {a0 rl wl gl:Addr}{RL:List Pz.Rule}{we ge:List bV}{ws wv gv:List V}(a:yl H0 H a0 sc RL we ge ws wv gv rl wl gl)(s:Same H H'):yl H0 H' a0 sc RL we ge ws wv gv rl wl gl:=⟨a.s.trans s,aK s a.i,DI a.is s,s _ _ a.rl,a.ir.mono (IsRule.keep (.of s)),s _ _ a.wl,a.iw.mono (di (.of s)),s _ _ a.gl,a.ig.mono (di (.of s))⟩
theorem Ox {a0:Addr}{x1 x2 x3 x4 x5 x6 x7 x8:Option V}{rest:L2.St}(i:Rd H a0 (.lst (sc.map .int)))(is:Is H Tr (.lst (sc.map .int)) (.ref a0))
 (k:∀ size ro sg many rl bj wl gl RL we ge ws wv gv H',Ho ro sg many RL we ge->yl H H' a0 sc RL we ge ws wv gv rl wl gl->tb D (sN a0 size ro sg many rl bj wl gl rest) H'):tN1 K mg tb D (some (.ref a0)::x1::x2::x3::x4::x5::x6::x7::x8::rest) H:=by
 have c0:=qb sc 0;have m0:=uH ((sc[0]?).getD 0);refine p9 (sd:=.lst (sc.map .int)) rfl is c0 m0 fun H1 t1=>?_;generalize (((sc[0]?).getD 0) % 2147483647+11)*48271 % 2147483647=size at m0;have b3:=em (a:=size) (b:=3) (by decide);have b4:=em (a:=size / 3) (b:=4) (by decide);have b13:=em (a:=size / 48) (b:=13) (by decide);refine cE (.ad .k (.mod (.va rfl) .k (by decide))) (cE (.ad .k (.mod (.dv (.va rfl) .k ⟨by decide,by decide⟩) .k (by decide))) (cE (.mod (.dv (.va rfl) .k ⟨by decide,by decide⟩) .k (by decide)) ?_));show Ni K mg tb D (some (.ref a0)::some (.int size)::some (.int (1+size % 3))::some (.int (1+size / 3 % 4))::some (.int (size / 48 % 13))::x5::x6::x7::x8::rest) H1;have hr:0<1+size % 3/\1+size % 3<=3:=by lia
 have hs:0<1+size / 3 % 4/\1+size / 3 % 4<=4:=by lia
 have hm:0<=size / 48 % 13/\size / 48 % 13<=12:=by lia
 have mb:=JS hr hs;generalize 1+size % 3=ro at hr mb;generalize 1+size / 3 % 4=sg at hs mb;generalize size / 48 % 13=many at hm;refine⟨_,rfl,_,rfl,_,rfl,_,rfl,.mk (DI is t1) ⟨hr.1,by lia⟩ ⟨hs.1,by lia⟩ (by lia) hm c0 m0 (qb sc 1) fun rl ws RL H2 t2 nrl hrl its hrr hln=>?_⟩;have t12:=t1.trans t2;refine p9 (sd:=.lst (sc.map .int)) rfl (DI is t12) (qb sc 2) (uH _) fun H3 t3=>?_;generalize (((sc[2]?).getD 0) % 2147483647+11)*48271 % 2147483647=bj;have p4:=em (a:=bj) (b:=4) (by decide);have q4:=em (a:=bj / 4) (b:=4) (by decide);refine Reads.dv (.va rfl) .k ⟨by decide,by decide⟩ _ ⟨_,rfl,_,rfl,Bn (i:=bj % 4) (fun _=>.mod (.va rfl) .k (by decide)) ⟨p4.1,p4.2⟩ fun s1 H4 t4=>.mk hr hs fun wl wv we H5 t5 _ hwl iw hw zw=>?_⟩;refine Reads.ad (.dv (.va rfl) .k ⟨by decide,by decide⟩) .k _ ⟨_,rfl,_,rfl,Bn (i:=bj / 4 % 4) (fun _=>.mod (.dv (.va rfl) .k ⟨by decide,by decide⟩) .k (by decide)) ⟨q4.1,q4.2⟩ fun s2 H6 t6=>.mk hr hs fun gl gv ge H7 t7 _ hgl ig hg zg=>?_⟩;have t35:=(t3.trans t4).trans t5;have t67:=t6.trans t7;have t37:=t35.trans t67;have t17:=t12.trans t37;exact k size ro sg many rl bj wl gl RL we ge ws wv gv H7 ⟨hr,hs,hm,hrr,by lia,hw,zw,hg,zg⟩ ⟨t17,aK t17 i,DI is t17,t37 _ _ hrl,its.mono (IsRule.keep (.of t37)),t67 _ _ hwl,iw.mono (di (.of t67)),hgl,ig⟩
end
structure qv where
 (a0 rl wl gl sp sl hp hl gp gs ls l1 l2 hd h1 h2:Addr)
structure kB where
 (sc:List Int)
 (ro sg many room:Int)
 (RL:List Pz.Rule)
 (we ge HZ HY:List bV)
 (stk:List Int)
 (ws wv gv Ck Cg:List V)
structure nj (d:kB):Prop where
 dr:Ho d.ro d.sg d.many d.RL d.we d.ge
 r:0<=d.room/\d.room<d.ro
 k:∀ x∈d.stk,0<=x/\x<d.sg
 zk:d.stk.length<=39
 zs:d.sc.length<=63
 w2:∀ x,x∈d.HZ↔x∈d.we
 g2:∀ x,x∈d.HY↔x∈d.ge
 z2:d.HZ.length<=24/\d.HY.length<=24
structure kF (H0 H:Hp) (a:qv) (d:kB):Prop where
 n:yl H0 H a.a0 d.sc d.RL d.we d.ge d.ws d.wv d.gv a.rl a.wl a.gl
 sp:H a.sp=some (.tup [.int d.room,.ref a.sl])
 sl:H a.sl=some (.lst (d.stk.map .int))
 hp:H a.hp=some (.tup [.int d.ro,.int d.sg,.ref a.hl])
 hl:H a.hl=some (.lst d.ws)
 gp:H a.gp=some (.tup [.int d.room,.ref a.gs])
 gs:H a.gs=some (.lst (d.stk.map .int))
 ls:H a.ls=some (.lst [.ref a.l1,.ref a.l2])
 l1:H a.l1=some (.lst d.Ck)
 l2:H a.l2=some (.lst d.Cg)
 hd:H a.hd=some (.lst [.ref a.h1,.ref a.h2])
 h1:H a.h1=some (.lst d.Ck)
 h2:H a.h2=some (.lst d.Cg)
 iw:aO (IsSet H) d.HZ d.Ck
 ig:aO (IsSet H) d.HY d.Cg
section
variable {K:To}{mg:Str->Option Tq}{H0 H H':Hp}{D:Ends}{σ:L2.St}{Q:VK}{sc:List Int}{tb:TS}{a:qv}{d:kB}
theorem kF.more (h:kF H0 H a d)(s:Same H H'):kF H0 H' a d:=⟨h.n.more s,s _ _ h.sp,s _ _ h.sl,s _ _ h.hp,s _ _ h.hl,s _ _ h.gp,s _ _ h.gs,s _ _ h.ls,s _ _ h.l1,s _ _ h.l2,s _ _ h.hd,s _ _ h.h1,s _ _ h.h2,h.iw.mono (di (.of s)),h.ig.mono (di (.of s))⟩
def MH (a:qv)(d:kB)(size bj place:Int)(rest:L2.St):L2.St:=sN a.a0 size d.ro d.sg d.many a.rl bj a.wl a.gl (some (.int place)::some (.ref a.sp)::some (.ref a.hp)::some (.ref a.gp)::some (.ref a.ls)::some (.ref a.hd)::rest)
def Nj (K:To)(tb:TS):TS:=aP (bc (cW (ao (ii (gu K) (ao (aX (e9 K) (av 13) (tC (.int 0))) aG)) (ao (ii (gu K) (ao (aX (e9 K) (av 13) (tC (.int 1))) aG)) aG))) (aE 14)) tb
def MI (K:To)(tb:TS):TS:=aP (bc (cW (ao (aX tG (av 7) (yY (o7 K) (av 7) gf (gR (tC (.int 1))))) (ao (aX tG (av 8) (yY (o7 K) (av 8) (gR JG) gf)) aG))) (aE 13)) (Nj K tb)
def Nk (K:To)(tb:TS):TS:=aP (bc (b8 (ao (tI K 10 0) (ao (ii (gu K) (ao (tI K 10 1) aG)) aG))) (aE 12)) (MI K tb)
def Nl (K:To)(tb:TS):TS:=aP (bc (xS (NV K)) (aE 11)) (Nk K tb)
def Oy (K:To)(tb:TS):TS:=aP (bc (b8 (ao (aX bP (av 9) (av 2)) (ao (br BM [] E0 (ao (aX dj (av 9) (tC (.int 3))) (ao (av 3) aG))) aG))) (aE 10)) (Nl K tb)
def Nm (K:To)(mg:Str->Option Tq)(tb:TS):TS:=aP (bc (Ar mg DQ DP 3) (aE 9)) (Oy K tb)
theorem Bo {te:TE}{l:Addr}{vs:List V}{es:List bV}{i:Nat}{lo hi:TO}{x y:Option Int}(hv:σ[i]?=some (some (.ref l)))(hl:H l=some (.lst vs))(al:aO (IsSet H) es vs)(z:es.length<=12)(h1:∀ H' Q,Q x H'->lo σ H' Q)(h2:∀ H' Q,Q y H'->hi σ H' Q)(k:∀ p vs2 es2 H',Same H H'->H' p=some (.lst vs2)->aO (IsSet H') es2 vs2->(∀ x,x∈es2↔x∈es)->es2.length<=24->Q (.ref p) H'):aX tG (av i) (yY (o7 K) (av i) lo hi) σ H Q:=by obtain⟨fs,af,mf,zf⟩:=al.cut x y;refine⟨_,hv,_,hv,h1 _ _ (h2 _ _ ⟨l,vs,rfl,SqL.of hl,fun b hb=>?_⟩)⟩;have t1:=az (o:=.lst (cS vs x y)) hb;have c1:upd H b (.lst (cS vs x y)) b=some (.lst (cS vs x y)):=aj;generalize upd H b (.lst (cS vs x y))=G1 at t1 c1;have n1:=al.len;have n2:=af.len;refine⟨l,b,_,_,rfl,rfl,t1 _ _ hl,c1,by rw[Pn];lia,fun p hp=>?_⟩;have t2:=az (o:=.lst (vs++cS vs x y)) hp;have t12:=t1.trans t2;refine k p _ (es++fs) _ t12 aj ((al.mono (di (.of t12))).app (af.mono (di (.of t12)))) (fun x=>?_) (by rw[O6];lia);rw[Pf];exact⟨fun h=>h.elim id (mf x),.inl⟩
theorem Oz {size ro sg many bj:Int}{a0 rl wl gl:Addr}{RL:List Pz.Rule}{we ge:List bV}{ws wv gv:List V}{x9 x10 x11 x12 x13 x14:Option V}{rest:L2.St}(dr:Ho ro sg many RL we ge)(n:yl H0 H a0 sc RL we ge ws wv gv rl wl gl)(zs:sc.length<=63)
 (k:∀ a d place H',nj d->kF H0 H' a d->tb D (MH a d size bj place rest) H'):Nm K mg tb D (sN a0 size ro sg many rl bj wl gl (x9::x10::x11::x12::x13::x14::rest)) H:=by
 refine p9 (sd:=.lst (sc.map .int)) rfl n.is (qb sc 3) (uH _) fun H1 t1=>?_;generalize (((sc[3]?).getD 0) % 2147483647+11)*48271 % 2147483647=place;have hro:=em (a:=place) dr.r.1;refine Reads.mod (.va rfl) (.va rfl) dr.r.1 _ (Reads.dv (.va rfl) .k ⟨by decide,by decide⟩ _ ⟨_,rfl,.mk dr.s.1 fun sl stk H2 t2 _ hsl zk hk=>⟨by show 2<=_;rw[Pn];lia,fun sp hsp=>?_⟩⟩);generalize place % ro=room at hsp hro;have t3:=az (o:=.tup [.int room,.ref sl]) hsp;have c3:upd H2 sp (.tup [.int room,.ref sl]) sp=some (.tup [.int room,.ref sl]):=aj;have l3:=t3 _ _ hsl;generalize upd H2 sp (.tup [.int room,.ref sl])=H3 at t3 c3 l3;have n3:=n.more ((t1.trans t2).trans t3);show Nl K tb D (sN a0 size ro sg many rl bj wl gl (some (.int place)::some (.ref sp)::x11::x12::x13::x14::rest)) H3;refine⟨_,rfl,_,rfl,_,rfl,rl,ws,rfl,SqL.of n3.rl |> .inl,fun hl hhl=>⟨by show 3<=_;rw[Pn];lia,fun hp hhp=>?_⟩⟩;have t4:=az (o:=.lst ws) hhl;have c4:upd H3 hl (.lst ws) hl=some (.lst ws):=aj;generalize upd H3 hl (.lst ws)=H4 at t4 c4 hhp;have t5:=az (o:=.tup [.int ro,.int sg,.ref hl]) hhp;have c5:upd H4 hp (.tup [.int ro,.int sg,.ref hl]) hp=some (.tup [.int ro,.int sg,.ref hl]):=aj;have c45:=t5 _ _ c4;show Nk K tb D (sN a0 size ro sg many rl bj wl gl (some (.int place)::some (.ref sp)::some (.ref hp)::x12::x13::x14::rest)) (upd H4 hp (.tup [.int ro,.int sg,.ref hl]));generalize upd H4 hp (.tup [.int ro,.int sg,.ref hl])=H5 at t5 c5 c45;have t45:=t4.trans t5;refine Reads.ix (K:=K) (n:=0) (.va (i:=10) rfl) (t45 _ _ c3) (v:=.int room) rfl _ (Reads.ix (K:=K) (n:=1) (.va (i:=10) rfl) (t45 _ _ c3) (v:=.ref sl) rfl _ ⟨sl,stk.map .int,rfl,.inl (SqL.of (t45 _ _ l3)),fun gs hgs=>⟨by show 2<=_;rw[Pn];lia,fun gp hgp=>?_⟩⟩);have t6:=az (o:=.lst (stk.map .int)) hgs;have c6:upd H5 gs (.lst (stk.map .int)) gs=some (.lst (stk.map .int)):=aj;generalize upd H5 gs (.lst (stk.map .int))=H6 at t6 c6 hgp;have t7:=az (o:=.tup [.int room,.ref gs]) hgp;have c7:upd H6 gp (.tup [.int room,.ref gs]) gp=some (.tup [.int room,.ref gs]):=aj;have c67:=t7 _ _ c6;show MI K tb D (sN a0 size ro sg many rl bj wl gl (some (.int place)::some (.ref sp)::some (.ref hp)::some (.ref gp)::x13::x14::rest)) (upd H6 gp (.tup [.int room,.ref gs]));generalize upd H6 gp (.tup [.int room,.ref gs])=H7 at t7 c7 c67;have t67:=t6.trans t7;have t47:=t45.trans t67;have n7:=n3.more t47
 delta MI aP bc cW ao
 refine Bo (σ:=sN a0 size ro sg many rl bj wl gl (some (.int place)::some (.ref sp)::some (.ref hp)::some (.ref gp)::x13::x14::rest)) (te:=av 0) (x:=none) (y:=some 1) rfl n7.wl n7.iw dr.zw (fun _ _ q=>q) (fun _ _ q=>⟨_,rfl,q⟩) fun l1 Ck HZ H8 t8 hl1 iw2 mw zw2=>?_;have n8:=n7.more t8;refine Bo (σ:=sN a0 size ro sg many rl bj wl gl (some (.int place)::some (.ref sp)::some (.ref hp)::some (.ref gp)::x13::x14::rest)) (te:=av 0) (x:=some (-1)) (y:=none) rfl n8.gl n8.ig dr.zg (fun _ _ q=>⟨_,rfl,_,rfl,q⟩) (fun _ _ q=>q) fun l2 Cg HY H9 t9 hl2 ig2 mg2 zg2=>?_;refine⟨by show 2<=_;rw[Pn];lia,fun ls hls=>?_⟩;have t10:=az (o:=.lst [.ref l1,.ref l2]) hls;have c10:upd H9 ls (.lst [.ref l1,.ref l2]) ls=some (.lst [.ref l1,.ref l2]):=aj;show Nj K tb D (sN a0 size ro sg many rl bj wl gl (some (.int place)::some (.ref sp)::some (.ref hp)::some (.ref gp)::some (.ref ls)::x14::rest)) (upd H9 ls (.lst [.ref l1,.ref l2]));generalize upd H9 ls (.lst [.ref l1,.ref l2])=H10 at t10 c10;have t910:=t9.trans t10;refine Reads.yz (K:=K) (j:=0) (v:=.ref l1) (.va (i:=13) rfl) .k (.inl c10) rfl rfl _ ⟨l1,Ck,rfl,.inl (SqL.of (t910 _ _ hl1)),fun h1 hh1=>?_⟩;have t11:=az (o:=.lst Ck) hh1;have c11:upd H10 h1 (.lst Ck) h1=some (.lst Ck):=aj;generalize upd H10 h1 (.lst Ck)=H11 at t11 c11;refine Reads.yz (K:=K) (j:=1) (v:=.ref l2) (.va (i:=13) rfl) .k (.inl (t11 _ _ c10)) rfl rfl _ ⟨l2,Cg,rfl,.inl (SqL.of (t11 _ _ (t10 _ _ hl2))),fun h2 hh2=>⟨by show 2<=_;rw[Pn];lia,fun hd hhd=>?_⟩⟩;have t12:=az (o:=.lst Cg) hh2;have c12:upd H11 h2 (.lst Cg) h2=some (.lst Cg):=aj;generalize upd H11 h2 (.lst Cg)=H12 at t12 c12 hhd;have t13:=az (o:=.lst [.ref h1,.ref h2]) hhd;have c13:upd H12 hd (.lst [.ref h1,.ref h2]) hd=some (.lst [.ref h1,.ref h2]):=aj;generalize upd H12 hd (.lst [.ref h1,.ref h2])=H13 at t13 c13;have u12:=t12.trans t13;have u11:=t11.trans u12;have u10:=t10.trans u11;have u9:=t9.trans u10;have u8:=t8.trans u9;have u6:=t67.trans u8;have u4:=t45.trans u6;exact k ⟨a0,rl,wl,gl,sp,sl,hp,hl,gp,gs,ls,l1,l2,hd,h1,h2⟩ ⟨sc,ro,sg,many,room,RL,we,ge,HZ,HY,stk,ws,wv,gv,Ck,Cg⟩ place H13 ⟨dr,hro,hk,zk,zs,mw,mg2,zw2,zg2⟩ ⟨n7.more u8,u4 _ _ c3,u4 _ _ l3,u6 _ _ c5,u6 _ _ c45,u8 _ _ c7,u8 _ _ c67,u11 _ _ c10,u9 _ _ hl1,u10 _ _ hl2,c13,u12 _ _ c11,t13 _ _ c12,iw2.mono (di (.of u9)),ig2.mono (di (.of u10))⟩
end
structure qq (d:kB) (ms:List Pz.Arr) (t:Pz.TD):Prop where
 m:∀ x,x∈ms↔x∈A_ d.ro d.sg d.ge
 s:SrtA ms
 f:si sQ [kq d.ro d.sg (dM d.we d.RL),.tup [.int (d.ro+1),.lst (ms.map iG),.lst [.int d.ro]]]=.ok (.yw (kN t))
 h:yA (dM d.we d.RL) ms U41 t d.ro d.sg d.ge
 z:t.length<=64
 u:∀ x∈t,x.1.2.2∈([0,1,2,3]:List Int)
theorem Bp {we:List bV}{RL:List Pz.Rule}{r:Pz.Rule}(h:r∈dM we RL):r∈RL:=(P0.mp h).1
theorem nj.told {d:kB}(o:nj d){ms:List Pz.Arr}(m:∀ x,x∈ms↔x∈A_ d.ro d.sg d.ge)(s:SrtA ms):∃ t,qq d ms t:=by obtain⟨t,f,h,z,u⟩:=GP (RL:=dM d.we d.RL) (ge:=d.ge) o.dr.r o.dr.s (fun r hr=>o.dr.rr r (Bp hr)) (Pu (QJ _ _) (by have:=o.dr.z;lia)) o.dr.g m s;exact⟨t,m,s,f,h,z,u⟩
section
variable {K:To}{mg:Str->Option Tq}{H0 H H':Hp}{D:Ends}{Q:VK}{E:XK}{tb:TS}{a:qv}{d:kB}{Fr:iH}
theorem vW {wl gl sp sl:Addr}{wv gv:List V}{we ge:List bV}{room:Int}{stk:List Int}(hF:Fr=si sQ)(o:nj d)(A:kF H0 H a d)(hw:H wl=some (.lst wv))(aw:aO (IsSet H) we wv)(zw:we.length<=24)(mw:∀ x,x∈we↔x∈d.we)(hg:H gl=some (.lst gv))(ag:aO (IsSet H) ge gv)(zg:ge.length<=24)(mg:∀ x,x∈ge↔x∈d.ge)(hs:H sp=some (.tup [.int room,.ref sl]))(hk:Rd H sl (.lst (stk.map .int)))(zk:stk.length<1000)
 (k:∀ ms t L r o H',qq d ms t->Same H H'->eL t room stk [d.ro] L r o->Q (nL o) H'):uR Fr [.ref a.hp,.ref wl,.ref gl,.ref sp] H Q E:=by
 subst hF;have z:=o.dr.z;refine .mk A.hp (.inl A.hl) A.n.ir (by lia) (.inl hw) aw (by lia) (.inl hg) ag (by lia) ⟨by have:=o.dr.s;lia,by have:=o.dr.s;lia⟩ hs hk zk fun ms m s=>?_;obtain⟨t,T⟩:=o.told (fun x=>(m x).trans (Ep mg x)) s;refine⟨t,[0,1,2,3],?_,by have:=T.z;lia,T.u,by show 4<1000;decide,fun L r o H' s lt=>k ms t L r o H' T s lt⟩;rw[Eo mw];exact T.f
def s15 (a:qv)(d:kB)(size bj place:Int)(f:V)(rest:L2.St):L2.St:=MH a d size bj place (some f::rest)
def Nn (tb:TS):TS:=aP (cI (uV (bp (aX GD (av 11) (xS (av 5)))) (uV (bp (aX GD (av 12) (av 10))) (bp (aX J2 (av 14) (av 13))))) Gz bY) tb
def Np (K:To)(Fr:iH)(tb:TS):TS:=aP (bc (br (uR Fr) [] E0 (ao (av 11) (ao (aX (e9 K) (av 14) (tC (.int 0))) (ao (aX (e9 K) (av 14) (tC (.int 1))) (ao (av 12) aG))))) (aE 15)) (Nn tb)
theorem Er (room:Int)(stk:List Int):L3.D.cN [.int room,.lst (stk.map .int)]<=49:=by
 have:L3.D.cN (stk.map L3.D.int)<=1:=iB fun d hd=>by obtain⟨y,_,rfl⟩:=Pb.mp hd;exact Pq _
 show max 0 (max (L3.D.cN (stk.map L3.D.int)+1) 0)<=49;lia
theorem Es (we ge:List bV):L3.D.cN [.lst (we.map pD),.lst (ge.map pD)]<=49:=by
 have dp:∀ l:List bV,L3.D.cN (l.map pD)<=2:=fun l=>iB fun d hd=>by obtain⟨x,_,rfl⟩:=Pb.mp hd;exact RM rfl
 have h1:=dp we;have h2:=dp ge;show max (L3.D.cN (we.map pD)+1) (max (L3.D.cN (ge.map pD)+1) 0)<=49;lia
theorem qc {p:Addr}{es:List bV}{vs:List V}(h:H p=some (.lst vs))(al:aO (IsSet H) es vs):Is H Tr (.lst (es.map pD)) (.ref p):=⟨p,vs,rfl,.inl ⟨h,True.intro⟩,Jn al⟩
theorem p2 {size bj place:Int}{f:V}{rest:L2.St}(A:kF H0 H a d)(k:∀ H',Same H H'->tb D (s15 a d size bj place f rest) H'):Nn tb D (s15 a d size bj place f rest) H:=by
 refine⟨_,rfl,_,rfl,_,rfl,_,rfl,by show 3<=_;rw[Pn];lia,fun q hq=>?_⟩;have t1:=az (o:=.tup [.int d.ro,.int d.sg,.ref a.rl]) hq;have c1:upd H q (.tup [.int d.ro,.int d.sg,.ref a.rl]) q=some (.tup [.int d.ro,.int d.sg,.ref a.rl]):=aj;generalize upd H q (.tup [.int d.ro,.int d.sg,.ref a.rl])=H1 at t1 c1;have A1:=A.more t1;have dep:=xT d.ro d.sg d.RL;have dep:L3.D.cN [.int d.ro,.int d.sg,.lst (d.RL.map dU)]<=49:=by have:L3.D.cN [.int d.ro,.int d.sg,.lst (d.RL.map dU)]+1<=50:=dep;lia
 refine⟨_,Tr,Tr,vV A1.hp A1.hl A1.n.ir,vV c1 A1.n.rl A1.n.ir,dep,_,rfl,cf ?_⟩;refine⟨_,rfl,_,rfl,[.int d.room,.lst (d.stk.map .int)],Tr,Tr,(Ey.mk A1.gp (.inl A1.gs)).is,(Ey.mk A1.sp (.inl A1.sl)).is,Er _ _,_,rfl,cf ?_⟩;refine⟨_,rfl,_,rfl,[.lst (d.HZ.map pD),.lst (d.HY.map pD)],Tr,Tr,⟨a.hd,_,rfl,.inl ⟨A1.hd,True.intro⟩,_,_,rfl,qc A1.h1 A1.iw,_,_,rfl,qc A1.h2 A1.ig,rfl⟩,⟨a.ls,_,rfl,.inl ⟨A1.ls,True.intro⟩,_,_,rfl,qc A1.l1 A1.iw,_,_,rfl,qc A1.l2 A1.ig,rfl⟩,Es _ _,_,rfl,cf (k H1 t1)⟩
theorem p1 {size bj place:Int}{x15:Option V}{rest:L2.St}(hF:Fr=si sQ)(o:nj d)(A:kF H0 H a d)(k:∀ ms t L r o H',qq d ms t->Same H H'->eL t d.room d.stk [d.ro] L r o->tb D (s15 a d size bj place (nL o) rest) H'):Np K Fr tb D (MH a d size bj place (x15::rest)) H:=by refine⟨_,rfl,Reads.yz (K:=K) (j:=0) (v:=.ref a.h1) (.va (i:=14) rfl) .k (.inl A.hd) rfl rfl _ (Reads.yz (K:=K) (j:=1) (v:=.ref a.h2) (.va (i:=14) rfl) .k (.inl A.hd) rfl rfl _ ⟨_,rfl,?_⟩)⟩;refine vW hF o A A.h1 A.iw o.z2.1 o.w2 A.h2 A.ig o.z2.2 o.g2 A.gp (.inl A.gs) (by have:=o.zk;lia) fun ms t L r o' H' T s lt=>?_;exact p2 (A.more s) fun H2 s2=>k ms t L r o' H2 T (s.trans s2) lt
end
structure uU (H:Hp) (d:kB) (ms:List Pz.Arr) (so mp l1 l2:Addr) (sv mv:List V):Prop where
 so:H so=some (.lst sv)
 ir:aO (IsRule H) (dM d.we d.RL) sv
 mp:H mp=some (.tup [.int (d.ro+1),.ref l1,.ref l2])
 l1:H l1=some (.lst mv)
 ia:aO (IsArr H) ms mv
 l2:H l2=some (.lst [.int d.ro])
section
variable {X:Cx}{K:To}{H0 H H':Hp}{D:Ends}{σ:L2.St}{Q:VK}{E:XK}{tb:TS}{a:qv}{d:kB}{Fr:iH}{CN CT:Addr}{ms:List Pz.Arr}{t:Pz.TD}{so mp l1 l2:Addr}{sv mv:List V}{L:List ji}{r:ji}{o:Option (Int×Int)}
theorem uU.more (h:uU H d ms so mp l1 l2 sv mv)(s:Same H H'):uU H' d ms so mp l1 l2 sv mv:=⟨s _ _ h.so,h.ir.mono (IsRule.keep (.of s)),s _ _ h.mp,s _ _ h.l1,h.ia.mono fun _ _ ⟨p,e,h⟩=>⟨p,e,s _ _ h⟩,s _ _ h.l2⟩
theorem Bq {i:Nat}{b:Addr}(h2:σ[2]?=some (some (.int d.ro)))(h3:σ[3]?=some (some (.int d.sg)))(hi:σ[i]?=some (some (.ref b)))(k:∀ q H',Same H H'->H' q=some (.tup [.int d.ro,.int d.sg,.ref b])->Q (.ref q) H'):xS (av i) σ H Q:=⟨_,h2,_,h3,_,hi,by show 3<=_;rw[Pn];lia,fun q hq=>k q _ (az hq) aj⟩
theorem uU.wy (M:uU H d ms so mp l1 l2 sv mv)(ok:nj d)(A:kF H0 H a d)(T:qq d ms t){q:Addr}(hq:H q=some (.tup [.int d.ro,.int d.sg,.ref so])):sM (si sQ) H q mp a.gp t d.room d.stk [d.ro] [0,1,2,3]:=⟨⟨_,_,vV hq M.so M.ir,E6 M.mp M.l1 M.ia M.l2,T.f⟩,⟨_,_,l2,M.mp,.inl M.l2⟩,⟨a.gs,A.gp,.inl A.gs⟩,by have:=T.z;lia,by have:=ok.zk;lia,by show 1<1000;decide,T.u,by show 4<1000;decide⟩
def BY (a:qv)(d:kB)(size bj place:Int)(f:V)(so mp:Addr)(rest:L2.St):L2.St:=s15 a d size bj place f (some (.ref so)::some (.ref mp)::rest)
def J4 (Fr:iH)(CN CT:Addr)(E:XK):TS:=cI (qG (tB (br BN [] E0 (ao (av 16) (ao (av 10) (ao (br (BP Fr CN CT) [.int 60] E (ao (xS (av 16)) (ao (av 17) (ao (av 12) aG)))) (ao (av 8) (ao (av 15) aG)))))))) Gz bY
def J5 (Fr:iH)(CN CT:Addr)(E:XK)(tb:TS):TS:=aP (cI (Fu (tB (ED (av 15))) (bp (aX J3 (av 15) (tC (.int 60))))) (J4 Fr CN CT E) bY) tb
def J6 (Fr:iH)(CN CT:Addr)(E:XK)(tb:TS):TS:=aP (cI (qG (tB (br BH [] E0 (ao (av 15) (ao (br (yj Fr) [] E0 (ao (xS (av 16)) (ao (av 17) (ao (av 12) aG)))) aG))))) Gz bY) (J5 Fr CN CT E tb)
def GS (Fr:iH)(CN CT:Addr)(E:XK)(tb:TS):TS:=aP (bc (br yi [] E0 (ao (xS (av 16)) (ao (av 8) aG))) (aE 17)) (J6 Fr CN CT E tb)
def J7 (X:Cx)(scope:Scope)(tg elt:Expr)(tN capN:List Str)(caps:List Nat)(ifs:List Expr)(Fr:iH)(CN CT:Addr)(E:XK)(tb:TS):TS:=aP (mM X scope tg elt tN capN caps ifs 16 (cC X.K (av 5))) (GS Fr CN CT E tb)
theorem q4 {size bj place v e:Int}{rest:L2.St}(hF:Fr=si sQ)(ok:nj d)(A:kF H0 H a d)(T:qq d ms t)(M:uU H d ms so mp l1 l2 sv mv)(lt:eL t d.room d.stk [d.ro] L r (some (v,e)))(c:v<=60)(k:∀ H',Same H H'->D.nx (BY a d size bj place (.int v) so mp rest) H'):J4 Fr CN CT E D (BY a d size bj place (.int v) so mp rest) H:=by
 subst hF;refine⟨_,rfl,_,rfl,?_⟩
 delta br ao
 refine Bq (i:=16) (b:=so) (σ:=BY a d size bj place (.int v) so mp rest) (d:=d) rfl rfl rfl fun q H1 s1 hq=>⟨_,rfl,_,rfl,?_⟩;have A1:=A.more s1;have M1:=M.more s1;refine .mk (most:=60) (M1.wy ok A1 T hq) ⟨_,_,so,sv,hq,.inl M1.so,M1.ir⟩ T.h.a.g.nd (fun as e c p sg hc=>?_) (fun L' r' v' e' as n ns l H2 s2 lt' c' pt sg ag _ hl=>?_) (fun L' r' lt'=>nomatch eL.det lt lt') fun L' r' v' e' lt' c'=>?_
 .obtain⟨ns,m,w,le⟩:=T.h.a.al _ _ as _ _ c rfl p rfl;have ln:as.length<=39:=by rw[<- O2 (f:=fun a:Pz.Arr=>a.2.1),sg];exact ok.zk
  exact⟨m,ns,w,by lia⟩
 .have ev:v=v':=by have:=eL.det lt lt';injection this
  subst ev;obtain⟨_,_,_,he,_⟩:=lt';obtain rfl:e'=d.ro:=O9.mp he;obtain⟨⟨rm,x,rest',st,hg⟩,ln⟩:=T.h.wk ag d.room v ok.r.2 pt;rw[sg]at st;have A2:=A1.more s2;have M2:=M1.more s2;rw[<- ln];refine⟨_,rfl,_,rfl,.mk (x:=(d.room,d.stk)) (.inl M2.so) M2.ir A2.sp (.inl A2.sl) hl (.inl A2.n.gl) A2.n.ig st hg (by lia) (by have:=ok.zk;show d.stk.length<=1000;lia) (fun r hr=>(T.h.r r hr).p) fun H3 s3=>⟨_,rfl,cf ?_⟩⟩;rw[ln];exact k H3 ((s1.trans s2).trans s3)
 .have ev:v=v':=by have:=eL.det lt lt';injection this
  lia
theorem q2 {size bj place:Int}{rest:L2.St}(hF:Fr=si sQ)(ok:nj d)(A:kF H0 H a d)(T:qq d ms t)(M:uU H d ms so mp l1 l2 sv mv)(lt:eL t d.room d.stk [d.ro] L r o)(k:∀ H',Same H H'->tb D (BY a d size bj place (nL o) so mp rest) H'):J6 Fr CN CT E tb D (BY a d size bj place (nL o) so mp rest) H:=by
 refine⟨_,rfl,?_⟩
 delta br ao
 refine Bq (i:=16) (b:=so) (σ:=BY a d size bj place (nL o) so mp rest) (d:=d) rfl rfl rfl fun q H1 s1 hq=>⟨_,rfl,_,rfl,?_⟩;have A1:=A.more s1;have M1:=M.more s1;rw[hF];refine .mk (M1.wy ok A1 T hq) fun L' r' o' H2 s2 lt'=>?_;rw[eL.det lt' lt];refine .mk ⟨_,rfl,cf ?_⟩;have s12:=s1.trans s2;show J5 (si sQ) CN CT E tb D (BY a d size bj place (nL o) so mp rest) H2;cases o with
 |none=>exact⟨_,rfl,_,rfl,cf (cf (k H2 s12))⟩
 |some x=>
  obtain⟨v,e⟩:=x;refine⟨_,rfl,_,rfl,cJ ⟨_,rfl,_,_,rfl,rfl,_,rfl,?_⟩⟩;by_cases c:v<=60
  .rw[O_ c];exact cJ (q4 rfl ok (A.more s12) T (M.more s12) lt c fun H3 s3=>k H3 (s12.trans s3))
  .rw[Pp c];exact cf (k H2 s12)
theorem q0 {scope:Scope}{tg elt:Expr}{tN capN:List Str}{caps:List Nat}{ifs:List Expr}{size bj place:Int}{x16 x17:Option V}{rest:L2.St}(c:MP X scope tg elt tN capN caps ifs)(hF:Fr=si sQ)(ok:nj d)(A:kF H0 H a d)(T:qq d ms t)(lt:eL t d.room d.stk [d.ro] L r o)(k:∀ so mp H',Same H H'->tb D (BY a d size bj place (nL o) so mp rest) H'):J7 X scope tg elt tN capN caps ifs Fr CN CT E tb D (s15 a d size bj place (nL o) (x16::x17::rest)) H:=by
 refine⟨_,rfl,a.rl,rfl,⟨_,.inl (.inl A.n.rl)⟩,?_⟩;refine J1 (rl:=a.rl) (wl:=a.wl) c rfl (.inl A.n.rl) A.n.ir (.inl A.n.wl) A.n.iw (by have:=ok.dr.z;lia) fun so sv H1 s1 _ hso ir=>?_;show GS Fr CN CT E tb D (s15 a d size bj place (nL o) (some (.ref so)::x17::rest)) H1
 delta GS aP bc br ao
 refine Bq (i:=16) (b:=so) (σ:=s15 a d size bj place (nL o) (some (.ref so)::x17::rest)) (d:=d) rfl rfl rfl fun q H2 s2 hq=>⟨_,rfl,?_⟩;have A2:=A.more (s1.trans s2);have sg:=ok.dr.s;have zg:=ok.dr.zg;refine .mk hq (.inl A2.n.gl) A2.n.ig (by lia) ⟨by lia,by lia⟩ fun mp l1 l2 ms' mv H3 s3 hmp hl1 ia mm sd hl2=>?_;obtain rfl:=ku sd T.s fun x=>(mm x).trans (T.m x).symm;have s23:=s2.trans s3;have s13:=s1.trans s23;exact q2 hF ok (A.more s13) T ⟨s23 _ _ hso,ir.mono (IsRule.keep (.of s23)),hmp,hl1,ia,hl2⟩ lt fun H4 s4=>k so mp H4 (s13.trans s4)
end
theorem Et {RL:List Pz.Rule}{RW:List Rw}(hp:∀ r∈RL,r.2.2.2.length<=2)(ch:E4 RL RW){x:Rw}(h0:RW[0]?=some x):∀(k:Nat) y,RW[k]?=some y->y.2.length<=x.2.length+k:=by
 intro k;induction k with
 |zero=>intro y h;rw[h0]at h;obtain rfl:=Ps h;lia
 |succ k ih=>intro y h;have hk:=(O3.mp h).1;have h':RW[k]?=some RW[k]:=O1 (by lia);have i:=ih _ h';have:=(vT hp (ch k _ y h' h)).1;lia
section
variable {X:Cx}{K:To}{mg:Str->Option Tq}{H0 H H':Hp}{D:Ends}{σ:L2.St}{vs:List V}{Q:VK}{E:XK}{sc:List Int}{a:qv}{d:kB}{Fr:iH}{CN CT:Addr}{ms:List Pz.Arr}{t:Pz.TD}{so mp:Addr}{L:List ji}{r:ji}{o:Option (Int×Int)}
def E7 (a:qv)(d:kB)(size bj place:Int)(f:V)(so mp wr:Addr)(rest:L2.St):L2.St:=BY a d size bj place f so mp (some (.ref wr)::rest)
def Br (K:To):TE:=aX (e9 K) (av 18) (av 20)
def J8 (K:To):TS:=b6 (n9 (br uM [] E0 (ao (av 21) aG)) (aX J3 (av 21) (aX Ap (aX Ap (nK K 18) (tC (.int 1))) (av 20))))
def GT (K:To)(Fr:iH):TS:=aP (bc (br (uR Fr) [] E0 (ao (av 11) (ao (av 7) (ao (av 8) (ao (b8 (ao (aX (gT K) (Br K) (tC (.int 0))) (ao (ii (gu K) (ao (aX (gT K) (Br K) (tC (.int 1))) aG)) aG))) aG))))) (aE 21)) (J8 K)
def J9 (K:To)(Fr:iH):TS:=aP (bc (aX bP (aX dj (av 9) (tC (.int 144))) (nK K 18)) (aE 20)) (GT K Fr)
def J_ (K:To)(Fr:iH):TS:=aP (cI (uV (bp (aX rV (av 15) (tC .bJ))) (bp (aX I0 (av 15) (aX Ap (nK K 18) (tC (.int 1)))))) Gz bY) (J9 K Fr)
def Ka (K:To)(Fr:iH):TS:=aP (cI (uV (bp (aX n_ (ii (g_ K) (ao (tI K 19 1) aG)) (tC (.int 0)))) (bp (aX (rL true K) (b8 (ao (tI K 19 0) (ao (aX (e9 K) (tI K 19 1) (tC (.int 0))) aG))) (av 8)))) (b6 (tC (.bl true))) bY) (J_ K Fr)
def Kb (K:To)(Fr:iH):TS:=aP (bc (aX (e9 K) (av 18) JG) (aE 19)) (Ka K Fr)
def Kc (K:To)(Fr:iH):TS:=aP (bc (br BQ [] E0 (ao (av 5) (ao (av 10) (ao (av 7) (ao (av 8) (ao (yY (o7 K) (av 0) (gR (aX b_ (tC (.int 4)) (av 4))) (gR (aX b_ (tC (.int 44)) (av 4)))) aG)))))) (aE 18)) (Kb K Fr)
theorem r4 {size bj place:Int}{f:V}{wr:Addr}{rv:List V}{RW:List Rw}{x19 x20 x21:Option V}{h x:Int}{w:List Int}(hF:Fr=si sQ)(ok:nj d)(A:kF H0 H a d)(T:qq d ms t)(hr:H wr=some (.lst rv))(ar:aO (IsRw wr H) RW rv)(ch:E4 (dM d.we d.RL) RW)(zr:RW.length<=101)(h0:RW[0]?=some (d.room,d.stk))(hl:RW[RW.length-1]?=some (h,x::w))(hg:(h,x)∈d.ge)(k:∀ H',Same H H'->D.rt (.bl true) H'):J9 K Fr D (E7 a d size bj place f so mp wr [x19,x20,x21]) H:=by
 have ln:=ar.len;have p0:0<RW.length:=(O3.mp h0).1;have pz:(0:Int)<(rv.length:Nat):=by lia
 have em9:=em (a:=place / 144) pz;refine Reads.mod (.dv (.va rfl) .k ⟨by decide,by decide⟩) (.mZ (.va rfl) (.inl hr)) pz _ ?_;generalize place / 144 % ((rv.length:Nat):Int)=at9 at em9;obtain⟨n,rfl⟩:=Qp em9.1;have nl:n<RW.length:=by lia
 have ey:RW[n]?=some RW[n]:=O1 nl;generalize RW[n]=y at ey;obtain⟨v,ev⟩ : ∃ v,rv[n]?=some v:=⟨_,O1 (by lia)⟩;obtain⟨y',ey',p,l,rfl,hp,_,hl9⟩:=ar.get ev;rw[ey]at ey';obtain rfl:=Ps ey';have rw9:∀{H'},Same H H'->Reads (Br K) (E7 a d size bj place f so mp wr [x19,some (.int (n:Nat)),x21]) H' (.ref p):=fun s=>.yz (j:=n) (.va rfl) (.va rfl) (.inl (s _ _ hr)) ev rfl;show GT K Fr D (E7 a d size bj place f so mp wr [x19,some (.int (n:Nat)),x21]) H
 delta GT aP bc br ao
 refine⟨_,rfl,_,rfl,_,rfl,Reads.ix (n:=0) (rw9 fun _ _ e=>e) hp (v:=.int y.1) rfl _ (Reads.ix (n:=1) (rw9 fun _ _ e=>e) hp (v:=.ref l) rfl _ ⟨l,y.2.map .int,rfl,.inl (.inl hl9),fun l2 hl2=>⟨by show 2<=_;rw[Pn];lia,fun q hq=>?_⟩⟩)⟩;have t1:=az (o:=.lst (y.2.map .int)) hl2;have c1:upd H l2 (.lst (y.2.map .int)) l2=some (.lst (y.2.map .int)):=aj;generalize upd H l2 (.lst (y.2.map .int))=G1 at t1 c1 hq;have t2:=az (o:=.tup [.int y.1,.ref l2]) hq;have c2:upd G1 q (.tup [.int y.1,.ref l2]) q=some (.tup [.int y.1,.ref l2]):=aj;have c12:=t2 _ _ c1;generalize upd G1 q (.tup [.int y.1,.ref l2])=G2 at t2 c2 c12;have t12:=t1.trans t2;have A2:=A.more t12;have zy:=Et (fun r hr=>(T.h.r r hr).p) ch h0 n y ey;have zk:=ok.zk;have zy:y.2.length<=d.stk.length+n:=zy;refine vW hF ok A2 A2.n.wl A2.n.iw (by have:=ok.dr.zw;lia) (fun _=>Iff.rfl) A2.n.gl A2.n.ig (by have:=ok.dr.zg;lia) (fun _=>Iff.rfl) c2 (.inl c12) (by lia) fun ms' t' L' r' o' H3 T' s3 lt=>?_;obtain rfl:=ku T'.s T.s fun x=>(T'.m x).trans (T.m x).symm;have HU:=Bm T'.h.r ch h0 ok.k ok.r;have wi:∀ s∈w,0<=s/\s<d.sg:=fun s hs=>(HU _ _ hl).2 s (O4 _ hs);obtain⟨as,c,p1,p2,p3⟩:=T'.h.run ch hl hg wi (RW.length-1-n) n y (by lia) ey;obtain⟨v,rfl,le⟩:=eL.le lt p1 p2;show J8 K D (E7 a d size bj place f so mp wr [x19,some (.int (n:Nat)),some (.int v)]) H3;have t13:=t12.trans s3;refine⟨_,rfl,.mk ⟨_,rfl,cJ ⟨_,rfl,Reads.mZ (.va rfl) (.inl (t13 _ _ hr)) _ ⟨_,_,rfl,rfl,_,rfl,_,_,rfl,rfl,_,_,rfl,rfl,?_⟩⟩⟩⟩;show D.rt (.bl (decide (v<=((rv.length:Nat):Int)-1-(n:Nat)))) H3;rw[O_ (by lia)];exact k H3 t13
theorem r0 {size bj place:Int}{x18 x19 x20 x21:Option V}(hF:Fr=si sQ)(ok:nj d)(A:kF H0 H a d)(T:qq d ms t)(lt:eL t d.room d.stk [d.ro] L r o)(k:∀ H',Same H H'->D.rt (.bl true) H'):Kc K Fr D (BY a d size bj place (nL o) so mp [x18,x19,x20,x21]) H:=by
 obtain⟨cs,ec⟩:=xW d.sc (some (4+d.many)) (some (44+d.many));have lc:cs.length<=63:=by have:=gS (d.sc.map V.int) (some (4+d.many)) (some (44+d.many));rw[ec,O2,O2]at this;have:=ok.zs;lia
 refine⟨_,rfl,_,rfl,_,rfl,_,rfl,_,rfl,_,rfl,_,_,rfl,rfl,_,rfl,_,rfl,_,_,rfl,rfl,_,rfl,a.a0,_,rfl,.inl A.n.i,fun cl hcl=>?_⟩;rw[ec];have t1:=az (o:=.lst (cs.map .int)) hcl;have c1:upd H cl (.lst (cs.map .int)) cl=some (.lst (cs.map .int)):=aj;generalize upd H cl (.lst (cs.map .int))=G1 at t1 c1;have A1:=A.more t1;have zk:=ok.zk;have z:=ok.dr.z;refine .mk (x:=(d.room,d.stk)) (.inl A1.n.rl) A1.n.ir A1.sp (.inl A1.sl) (.inl A1.n.wl) A1.n.iw (.inl A1.n.gl) A1.n.ig (.inl c1) (by lia) zk (by lia) (fun r hr=>(ok.dr.rr r hr).p) fun wr rv RW H2 s2 _ hrw ar ch zr h0 ⟨RW0,y,er⟩=>?_;have t12:=t1.trans s2;obtain⟨us,v,rfl⟩ : ∃ us v,rv=us++[v]:=by
  rcases RN rv with rfl|⟨us,b,rfl⟩
  .have:=ar.len;rw[er,O6]at this;cases this
  .exact⟨us,b,by simp⟩
 have ul:us.length=RW0.length:=by have:=ar.len;rw[er,O6,O6]at this;simpa using this.symm
 obtain⟨y',ey,p,l,rfl,hp,_,hl⟩:=ar.get (i:=us.length) (y:=v) (by simp);have ey':RW[us.length]?=some y:=by rw[er,ul];simp
 rw[ey']at ey;obtain rfl:=Ps ey;have ll:RW.length-1=us.length:=by rw[er,O6,PQ];lia
 obtain⟨h,stk⟩:=y;show Kb K Fr D (E7 a d size bj place (nL o) so mp wr [x19,x20,x21]) H2;refine⟨_,rfl,_,rfl,wr,_,_,_,rfl,rfl,SqL.of hrw,mP us _,?_⟩;show Ka K Fr D (E7 a d size bj place (nL o) so mp wr [some (.ref p),x20,x21]) H2;refine Reads.ix (K:=K) (n:=1) (.va (i:=19) rfl) hp (v:=.ref l) rfl _ ⟨l,_,rfl,.inl (.inl hl),rfl,_,rfl,?_⟩;cases stk with
 |nil=>exact cJ (cJ (k H2 t12))
 |cons x w=>
 rw[Pp (by rw[O2,Pg];intro z;injection z with z;lia)];refine cf ?_
 delta bp aX
 refine gr (σ:=E7 a d size bj place (nL o) so mp wr [some (.ref p),x20,x21]) (ws:=[.int h,.int x]) (.c (.ix (K:=K) (n:=0) (.va (i:=19) rfl) hp (v:=.int h) rfl) (.c (.yz (K:=K) (j:=0) (v:=.int x) (.ix (K:=K) (n:=1) (.va (i:=19) rfl) hp (v:=.ref l) rfl) .k hl rfl rfl) .ni)) rfl fun q hq=>⟨_,rfl,?_⟩;have t3:=az (o:=.tup [.int h,.int x]) hq;have c3:upd H2 q (.tup [.int h,.int x]) q=some (.tup [.int h,.int x]):=aj;generalize upd H2 q (.tup [.int h,.int x])=H3 at t3 c3;have t13:=t12.trans t3;have A3:=A.more t13;refine mR (x:=(h,x)) c3 (.inl A3.n.gl) A3.n.ig ⟨_,rfl,?_⟩;by_cases hg:(h,x)∈d.ge
 .rw[O_ hg];refine cf ?_;show J_ K Fr D (E7 a d size bj place (nL o) so mp wr [some (.ref p),x20,x21]) H3;have hl9:RW[RW.length-1]?=some (h,x::w):=by rw[ll];exact ey'
  have HU:=Bm T.h.r ch h0 ok.k ok.r;have wi:∀ s∈w,0<=s/\s<d.sg:=fun s hs=>(HU _ _ hl9).2 s (O4 _ hs);have p0:0<RW.length:=(O3.mp h0).1;obtain⟨as,c,p1,p2,p3⟩:=T.h.run ch hl9 hg wi (RW.length-1) 0 _ (by lia) h0;obtain⟨v,rfl,le⟩:=eL.le lt p1 p2;have ar3:=ar.mono fun x v h=>h.kp (fun c u e _=>t3 c u e) (.of t3);have hr3:=t3 _ _ hrw;have ln:=ar.len;refine⟨_,rfl,rfl,_,rfl,cf ⟨_,rfl,Reads.mZ (.va rfl) (.inl hr3) _ ⟨_,_,rfl,rfl,_,_,rfl,rfl,_,rfl,?_⟩⟩⟩;rw[Pp (by lia)];exact cf (r4 hF ok A3 T hr3 ar3 ch zr h0 hl9 hg fun H' s=>k H' (t13.trans s))
 .rw[Pp hg];exact cJ (k H3 t13)
def Bs (ds:List L3.D):Prop:=∃ sc:List Int,ds=[.lst (sc.map .int)]/\sc.length<=63
noncomputable def vX (ds:List L3.D):Res R:=@ite _ (Bs ds) (Classical.propDecidable _) (.ok (.val (.bl true) true [])) .stuck
theorem Kd {sc:List Int}(hz:sc.length<=63):vX [.lst (sc.map .int)]=.ok (.val (.bl true) true []):=Pi ⟨sc,rfl,hz⟩
def Ke (X:Cx)(mg:Str->Option Tq)(scope:Scope)(tg elt:Expr)(tN capN:List Str)(caps:List Nat)(ifs:List Expr)(Fr:iH)(CN CT:Addr)(E:XK):TS:=tN1 X.K mg (Nm X.K mg (Np X.K Fr (J7 X scope tg elt tN capN caps ifs Fr CN CT E (Kc X.K Fr))))
theorem xZ {N:List Str}{scope:Scope}{tg elt:Expr}{tN capN:List Str}{caps:List Nat}{ifs:List Expr}(hN:N.length=22)(hF:Fr=si sQ)(c:MP X scope tg elt tN capN caps ifs)(h:pH mg 1 vX vs H Q E):Ke X mg scope tg elt tN capN caps ifs Fr CN CT E (eQ Q) (bh N vs) H:=by
 obtain⟨hl,ds,Ma,is,post⟩:=h;unfold vX at post;by_cases hw:Bs ds
 case neg=>rw[Pl hw]at post;exact post.elim
 rw[Pi hw]at post;obtain⟨sc,rfl,zs⟩:=hw;obtain⟨v0,r0',rfl,i0,rfl⟩:=is;have es:L2.bh N [v0]=some v0::List.replicate 21 none:=by unfold L2.bh;rw[hN];rfl
 rw[es];have i1:=DI i0 fun _ _ e=>e;obtain⟨a0,wa,rfl,hla,iw⟩:=vQ i1;rw[pX iw]at hla;refine Ox hla i1 fun size ro sg many rl bj wl gl RL we ge ws wv gv H1 dr nm=>?_;refine Oz dr nm zs fun a d place H2 ok A=>?_;refine p1 hF ok A fun ms t L r o H3 T s3 lt=>?_;refine q0 c hF ok (A.more s3) T lt fun so mp H4 s4=>?_;refine r0 hF ok ((A.more s3).more s4) T lt fun H5 s5=>post _ _ (((A.n.s.trans s3).trans s4).trans s5) rfl
end
end L4
namespace L3
open PySem L2
section
variable {env:En}{d:D}{al:List Nat}
theorem cA {α:Type}(a:α)(l:List α):tz (a::l) 0=some a:=by unfold tz EE;rw[Pi (by lia),Pi (by simp)];rfl
theorem BX {α:Type}(a b c:α)(l:List α):tz (a::b::c::l) 2=some c:=by unfold tz EE;rw[Pi (by lia),Pi (by simp;lia)];rfl
def Kf (n:Nat)(caps:List Nat)(asg:D->Bool->En->Option En)(test:En->Res Bool)(elt:En->Res R)(env:En)(s:Src):Res R:=if s.xs.length<=lim then
 (vC (fun d=>asg d s.fr (IE env n caps)) test elt s.xs).Ny.bind fun rs=>.ok (M4 (rs.map R.d) (IC rs) (s.al++caps.filter (EO env))) else .stuck
theorem GU (n:Nat)(caps:List Nat)(src:En->Res Src)(asg:D->Bool->En->Option En)(test:En->Res Bool)(elt:En->Res R)(env:En) :
 IF n caps src asg test elt env=(src env).bind (Kf n caps asg test elt env):=(rfl)
end
theorem MJ {α β:Type}(a:α)(k:α->Res β):(Res.ok a).bind k=k a:=(rfl)
end L3
local macro_rules|`(tactic| simp_arith[$as,*] $[$l:location]?)=>do
 let ls←("L3.Lx L3.zW decide_true decide_false List.map_cons List.map_nil List.length_cons List.length_nil List.replicate List.cons_append List.nil_append List.append_nil Nat.reduceAdd Nat.max_self Nat.zero_max Nat.max_zero Nat.zero_add Nat.reduceSub List.getElem?_cons_zero List.getElem?_cons_succ Int.reduceLT Int.reduceLE Int.reduceNeg List.set_cons_zero List.set_cons_succ Nat.reduceLT Nat.reduceLeDiff L3.cA L3.BX Int.reduceBEq Bool.not_not Nat.reduceEqDiff L3.GU Bool.and_true Bool.true_and Bool.and_false Bool.false_and Bool.and_self Bool.not_true Bool.not_false".splitOn " ").toArray.mapM fun s=>`(Lean.Parser.Tactic.simpLemma| $(Lean.mkIdent s.toName):ident)
 `(tactic| simp only[$[$ls:simpLemma],*,$as,*] $[$l]?)
local macro_rules|`(tactic| simp_arith $[$l:location]?)=>`(tactic| simp_arith[L3.MJ] $[$l]?)
namespace L3
open PySem L2
end L3
namespace W
open PySem PySem.Spec PyProof.Rows L2 L3 L4
def top (i:Nat):Stmt:=PySem.Challenge.pw_callwalk_k41_till.main.body.getD i (.Pass ⟨0,0,0,0⟩)
abbrev gw:Stmt:=top 36
noncomputable abbrev qd:List Str:=["_law_cell"]
noncomputable abbrev d6:List Str:=["_law_cell"]
theorem nM:aU qd d6 (aD gw):=bG
def jJ:List D->Res R:=L4.DQ
abbrev fj:Stmt:=top 34
noncomputable abbrev N__law_cell_at:List Str:=["_law_script", "_law_k"]
abbrev dg:List Str:=N__law_cell_at.take 2
theorem kY:aU N__law_cell_at dg (aD fj):=bG
def hI:List D->Res R:=L4.DP
abbrev hJ:Stmt:=top 37
noncomputable abbrev N__law_rule:List Str:=["_law_number", "_law_rooms", "_law_signs", "_law_falls", "_law_room", "_law_sign", "_law_to", "_law_size", "_law_below"]
abbrev fC:List Str:=N__law_rule.take 4
theorem sc__law_rule:aU N__law_rule fC (aD hJ):=bG
abbrev gx:Stmt:=top 38
noncomputable abbrev N__law_rules:List Str:=["_law_script", "_law_rooms", "_law_signs", "_law_many", "_law_kind", "_law_number", "_law_rules_here", "_law_k", "_law_cell", "_law_free"]
abbrev d7:List Str:=N__law_rules.take 4
theorem sc__law_rules:aU N__law_rules d7 (aD gx):=bG
abbrev gy:Stmt:=top 40
noncomputable abbrev N__law_heads:List Str:=["_law_cell", "_law_rooms", "_law_signs", "_law_share", "_law_number", "_law_heads_here", "_law_k"]
abbrev d8:List Str:=N__law_heads.take 4
theorem sc__law_heads:aU N__law_heads d8 (aD gy):=bG
abbrev gz:Stmt:=top 39
noncomputable abbrev N__law_stack:List Str:=["_law_cell", "_law_signs", "_law_many", "_law_number", "_law_stack_here", "_law_k"]
abbrev d9:List Str:=N__law_stack.take 2
theorem sc__law_stack:aU N__law_stack d9 (aD gz):=bG
abbrev jK:Stmt:=top 2
noncomputable abbrev su:List Str:=["things"]
noncomputable abbrev jL:List Str:=["things"]
theorem x_:aU su jL (aD jK):=bG
abbrev kz:Stmt:=top 1
noncomputable abbrev ya:List Str:=["rule"]
noncomputable abbrev iC:List Str:=["rule"]
theorem uI:aU ya iC (aD kz):=bG
abbrev vY:Stmt:=top 3
noncomputable abbrev N_cut:List Str:=["house", "heads", "kept"]
abbrev vZ:List Str:=N_cut.take 2
theorem sc_cut:aU N_cut vZ (aD vY):=bG
abbrev mS:Stmt:=top 13
noncomputable abbrev N_formed:List Str:=["states", "arrows", "ends"]
abbrev jM:List Str:=N_formed.take 3
theorem yb:aU N_formed jM (aD mS):=bG
abbrev ga:Stmt:=top 14
noncomputable abbrev N_heading:List Str:=["house", "heads", "end", "tops", "beneath"]
abbrev iD:List Str:=N_heading.take 2
theorem sc_heading:aU N_heading iD (aD ga):=bG
abbrev gA:Stmt:=top 10
noncomputable abbrev N_is_plain:List Str:=["house", "machine"]
abbrev gB:List Str:=N_is_plain.take 2
theorem sA:aU N_is_plain gB (aD gA):=bG
abbrev cq:Stmt:=top 11
noncomputable abbrev gN:List Str:=["house", "machine"]
noncomputable abbrev bW:List Str:=["house", "machine"]
theorem gC:aU gN bW (aD cq):=bG
def dk:List D->Res R:=L4.sQ
abbrev dt:Stmt:=top 18
noncomputable abbrev kA:List Str:=["house", "rules", "number", "rule"]
noncomputable abbrev dw:List Str:=["house"]
theorem sc_rules_by_start:aU kA dw (aD dt):=bG
abbrev mT:Stmt:=top 20
noncomputable abbrev N_prices:List Str:=["house", "machine", "pricing", "arrow", "number", "rule"]
abbrev jN:List Str:=N_prices.take 2
theorem sc_prices:aU N_prices jN (aD mT):=bG
abbrev GV:Stmt:=dZ (top 16) 0
theorem Kg:aU ["self"] ["self"] (aD GV):=bG
abbrev GW:Stmt:=dZ (top 16) 1
theorem Kh:aU ["self", "price", "thing"] ["self", "price", "thing"] (aD GW):=bG
abbrev GX:Stmt:=dZ (top 16) 2
theorem Ki:aU ["self"] ["self"] (aD GX):=bG
abbrev Eu:Stmt:=dZ (top 16) 3
theorem sc_QT:aU ["self", "pile", "price", "thing"] ["self"] (aD Eu):=bG
abbrev GY:Stmt:=dZ (top 19) 0
theorem Kj:aU ["self", "house"] ["self", "house"] (aD GY):=bG
abbrev GZ:Stmt:=dZ (top 19) 1
theorem sc_PO:aU ["self", "arrow", "price", "number", "mid", "known"] ["self", "arrow", "price", "number", "mid"] (aD GZ):=bG
abbrev G3:Stmt:=dZ (top 19) 2
theorem sc_PS:aU ["self", "arrow", "price", "start", "number", "rule", "first"] ["self", "arrow", "price"] (aD G3):=bG
abbrev G8:Stmt:=dZ (top 19) 3
theorem sc_PF:aU ["self", "number", "rule", "mid", "price", "start", "state", "second"] ["self", "number", "rule", "mid", "price"] (aD G8):=bG
abbrev G9:Stmt:=dZ (top 19) 4
theorem sc_PA:aU ["self", "price", "arrow"] ["self"] (aD G9):=bG
def jO:List D->Res R:=L4.si dk
abbrev fK:Stmt:=top 22
noncomputable abbrev nN:List Str:=["told", "leading", "arrow", "price"]
noncomputable abbrev dC:List Str:=["told"]
theorem sc_priced_from:aU nN dC (aD fK):=bG
abbrev gD:Stmt:=top 23
noncomputable abbrev N_sums_ahead:List Str:=["leading", "sums", "sign", "ahead", "state", "reached", "arrow", "price", "known"]
abbrev d_:List Str:=N_sums_ahead.take 3
theorem sc_sums_ahead:aU N_sums_ahead d_ (aD gD):=bG
abbrev gE:Stmt:=top 24
noncomputable abbrev N_sums_along:List Str:=["told", "standing", "leading", "rows", "sign"]
abbrev eh:List Str:=N_sums_along.take 2
theorem sc_sums_along:aU N_sums_along eh (aD gE):=bG
abbrev eB:Stmt:=top 25
noncomputable abbrev jP:List Str:=["machine", "sums"]
noncomputable abbrev eF:List Str:=["machine", "sums"]
theorem nO:aU jP eF (aD eB):=bG
abbrev qe:Stmt:=top 26
noncomputable abbrev N_least:List Str:=["house", "machine", "standing", "lowest"]
abbrev lu:List Str:=N_least.take 3
theorem sc_least:aU N_least lu (aD qe):=bG
abbrev uJ:Stmt:=top 32
noncomputable abbrev N_till:List Str:=["house", "wanted", "goal", "standing"]
abbrev qg:List Str:=N_till.take 4
theorem Ew:aU N_till qg (aD uJ):=bG
abbrev gF:Stmt:=top 35
noncomputable abbrev qh:List Str:=["_law_found"]
noncomputable abbrev eG:List Str:=["_law_found"]
theorem nP:aU qh eG (aD gF):=bG
abbrev hV:Stmt:=top 41
noncomputable abbrev N__law_same:List Str:=["_law_found", "_law_due"]
abbrev fD:List Str:=N__law_same.take 2
theorem qi:aU N__law_same fD (aD hV):=bG
abbrev fL:Stmt:=top 27
noncomputable abbrev nQ:List Str:=["rows", "state", "arrows", "sums", "arrow"]
noncomputable abbrev dD:List Str:=["rows", "state"]
theorem sc_arrows_back:aU nQ dD (aD fL):=bG
abbrev gG:Stmt:=top 28
noncomputable abbrev N_parts_back:List Str:=["rule", "mid", "state"]
abbrev eJ:List Str:=N_parts_back.take 3
theorem nR:aU N_parts_back eJ (aD gG):=bG
abbrev fM:Stmt:=top 29
noncomputable abbrev N_rules_along:List Str:=["house", "told", "arrows", "due", "numbers", "arrow", "number"]
abbrev dE:List Str:=N_rules_along.take 3
theorem sc_rules_along:aU N_rules_along dE (aD fM):=bG
abbrev Bt:Stmt:=top 30
noncomputable abbrev N_way:List Str:=["house", "machine", "standing", "most", "told", "rows", "lowest"]
abbrev v5:List Str:=N_way.take 4
theorem sc_way:aU N_way v5 (aD Bt):=bG
abbrev fO:Stmt:=top 42
noncomputable abbrev N__law_walked:List Str:=["_law_rules_here", "_law_standing", "_law_numbers", "_law_goal", "_law_many", "_law_room", "_law_stack_here", "_law_number"]
abbrev dF:List Str:=N__law_walked.take 5
theorem sc__law_walked:aU N__law_walked dF (aD fO):=bG
abbrev gH:Stmt:=top 43
noncomputable abbrev N__law_run:List Str:=["_law_rules_here", "_law_standing", "_law_wanted", "_law_goal", "_law_cells", "_law_room", "_law_stack_here", "_law_row", "_law_cell", "_law_fits", "_law_rule_here"]
abbrev gI:List Str:=N__law_run.take 5
theorem sc__law_run:aU N__law_run gI (aD gH):=bG
abbrev v6:Stmt:=top 44
noncomputable abbrev N_law:List Str:=["_law_script", "_law_size", "_law_rooms", "_law_signs", "_law_many", "_law_rules_here", "_law_pick", "_law_wanted", "_law_goal", "_law_place", "_law_start", "_law_house", "_law_given", "_law_lists", "_law_handed", "_law_found", "_law_some", "_law_machine", "_law_row", "_law_last", "_law_at", "_law_midway"]
abbrev v7:List Str:=N_law.take 1
theorem sc_law:aU N_law v7 (aD v6):=bG
def v8:List D->Res R:=L4.vX
set_option genInjectivity false in
structure Tx (K:To) (mg:Str->Option Tq) where
 qo:Df K mg "_law_mixed" gw d6
 nw:Df K mg "_law_cell_at" fj dg
 yn:Df K mg "_law_rule" hJ fC
 Cc:Df K mg "_law_rules" gx d7
 yo:Df K mg "_law_heads" gy d8
 B_:Df K mg "_law_stack" gz d9
 B3:Df K mg "marked" jK jL
 Cr:Df K mg "head_of" kz iC
 Ci:Df K mg "cut" vY vZ
 B7:Df K mg "formed" mS jM
 yr:Df K mg "heading" ga iD
 Ce:Df K mg "is_plain" gA gB
 B6:Df K mg "refuse_unless_plain" cq bW
 BZ:Df K mg "rules_by_start" dt dw
 ye:Df K mg "prices" mT jN
 Cj:Df K mg "priced_from" fK dC
 Ca:Df K mg "sums_ahead" gD d_
 ym:Df K mg "sums_along" gE eh
 yg:Df K mg "lowest_end" eB eF
 yt:Df K mg "least" qe lu
 yp:Df K mg "till" uJ qg
 sR:Df K mg "_law_whole" gF eG
 Cd:Df K mg "_law_same" hV fD
 B5:Df K mg "arrows_back" fL dD
 B9:Df K mg "parts_back" gG eJ
 B0:Df K mg "rules_along" fM dE
 Cf:NE K mg "way" Bt v5 60
 Cm:Df K mg "_law_walked" fO dF
 Co:Df K mg "_law_run" gH gI
 Cq:Df K mg "law" v6 v7
 HD:mg "all"=none
 EC:mg "bool"=none
 Ez:mg "dict"=none
 jT:mg "enumerate"=none
 Hv:mg "int"=none
 fR:mg "isinstance"=none
 cr:mg "len"=none
 eR:mg "list"=none
 uS:mg "min"=none
 jY:mg "range"=none
 sJ:mg "reversed"=none
 BE:mg "set"=none
 oW:mg "sorted"=none
 dh:Addr
 EB:XC K mg "NoWay" dh
 lA:(pj K dh).contains (.ref dh)=true
 ce:Addr
 yh:XC K mg "TooLong" ce
 iE:(pj K ce).contains (.ref ce)=true
 CQ:Addr
 kQ:qx K CQ
 gQ:mg "Queue"=some (.ref CQ)
 CP:Addr
 kP:iN K CP
 gP:mg "Pricing"=some (.ref CP)
 Hq:Mf K CQ "__init__" "Queue.__init__" GV ["self"]
 Hr:Mk K CQ Hq.f
 Ex:Mf K CQ "add" "Queue.add" GW ["self", "price", "thing"]
 Hz:Mf K CQ "is_empty" "Queue.is_empty" GX ["self"]
 Hw:Mf K CQ "take_lowest" "Queue.take_lowest" Eu ["self"]
 HJ:Mf K CP "__init__" "Pricing.__init__" GY ["self", "house"]
 HA:Mk K CP HJ.f
 uQ:Mf K CP "offer" "Pricing.offer" GZ ["self", "arrow", "price", "number", "mid"]
 Hu:Mf K CP "settle" "Pricing.settle" G3 ["self", "arrow", "price"]
 HH:Mf K CP "settle_first" "Pricing.settle_first" G8 ["self", "number", "rule", "mid", "price"]
 Hm:Mf K CP "settle_all" "Pricing.settle_all" G9 ["self"]
section
variable {P:Tp}{w:World}{K:To}{mg:Str->Option Tq}{base:Heap}(t:Tx K mg)
theorem dG:bE P w K mg base fV 1 t.qo.f t.qo.fd d6 (pH mg 1 jJ):=t.qo.h.fu.ok nM (fun _ _ _ _ h=>h.1) fun cdv A outer s H vs Q E hr h=>⟨_,aC (aZ (aJ bu (aJ dm (aJ bI (aJ bu (pv 0) au) au) au) au)),DS h⟩
theorem cn:bE P w K mg base fV 1 t.nw.f t.nw.fd dg (pH mg 2 hI):=t.nw.h.fu.ok kY (fun _ _ _ _ h=>h.1) fun cdv A outer s H vs Q E hr h=>⟨_,ay (bZ (aW lE (pv 1) (bf bB (by rfl) t.cr P8 (ac (pv 0) ax)) (a_ _)) (aC (aZ (aI bz (pv 0) (pv 1) (fun _ _=>rfl)))) bo) (aC (aZ au)),DR h⟩
theorem jQ:bE P w K mg base fV 1 t.yn.f t.yn.fd fC BA:=
 t.yn.h.fu.ok sc__law_rule (fun _ _ _ _ h=>Ay h) fun cdv A outer s H vs Q E hr h=>
  have hu:=hr.units
  ⟨_,(ay (aN (i:=4) sc__law_rule.nd rfl (Or.inl rfl) (aJ bu (pv 0) (pv 1)))
      (ay (aN (i:=0) sc__law_rule.nd rfl (Or.inl rfl) (aJ bM (pv 0) (pv 1)))
      (ay (aN (i:=5) sc__law_rule.nd rfl (Or.inl rfl) (aJ bu (pv 0) (pv 2)))
      (ay (aN (i:=0) sc__law_rule.nd rfl (Or.inl rfl) (aJ bM (pv 0) (pv 2)))
      (ay (aN (i:=6) sc__law_rule.nd rfl (Or.inl rfl) (aJ bu (pv 0) (pv 1)))
      (ay (aN (i:=0) sc__law_rule.nd rfl (Or.inl rfl) (aJ bM (pv 0) (pv 1)))
      (ay (aN (i:=7) sc__law_rule.nd rfl (Or.inl rfl) (aJ bu (pv 0) au))
      (ay (aN (i:=0) sc__law_rule.nd rfl (Or.inl rfl) (aJ bM (pv 0) au))
      (ay (aN (i:=8) sc__law_rule.nd rfl (Or.inl rfl) (pv 2))
      (ay (bZ (qM (pv 3) (fun _=>rfl)) (aC (aN (i:=8) sc__law_rule.nd rfl (Or.inl rfl) (pv 5))) bo)
      (ay (bZ (aW dI (pv 8) au (a_ _)) (aC (aZ (aY (ac (pv 4) (ac (pv 5) (ac (pv 6) (ac (aY ax) ax))))))) bo)
      (aC (aZ (aY (ac (pv 4) (ac (pv 5) (ac (pv 6) (ac (dJ DJ (aY (ac (aJ bu (pv 0) (pv 8)) (ac (aJ bu (aJ bM (pv 0) (pv 8)) (pv 8)) ax))) ij (dz (pv 7))) ax)))))))))))))))))),DM ⟨by decide,by decide⟩ h⟩
theorem nT:bE P w K mg base fV 2 t.Cc.f t.Cc.fd d7 (BL jJ hI):=
 t.Cc.h.fu.ok sc__law_rules (fun _ _ _ _ h=>Az h) fun cdv A outer s H vs Q E hr h=>
  have hu:=hr.units
  ⟨_,(ay (aN (i:=4) sc__law_rules.nd rfl (Or.inl rfl) (aJ bu (aJ bM (aS (dG t) (hr.mono (by decide)) rfl t.qo.h.gl t.qo.h.fu.kp t.qo.h.bi .nil bb (ac (aS (cn t) (hr.mono (by decide)) rfl t.nw.h.gl t.nw.h.fu.kp t.nw.h.bi .nil bb (ac (pv 0) (ac au ax))) ax)) au) au))
      (ay (aN (i:=5) sc__law_rules.nd rfl (Or.inl rfl) (aJ bI (aJ bu (aS (cn t) (hr.mono (by decide)) rfl t.nw.h.gl t.nw.h.fu.kp t.nw.h.bi .nil bb (ac (pv 0) (ac au ax))) au) au))
      (ay (aN (i:=6) sc__law_rules.nd rfl (Or.inl rfl) (bR ax))
      (ay (ci PP rfl (ie (by rfl) t.jY (ac (aJ dm (pv 1) (pv 2)) ax)) (aT (i:=7) sc__law_rules.nd rfl (Or.inl rfl)) (ay (aN (i:=5) sc__law_rules.nd rfl (Or.inl rfl) (aJ bu (aJ bI (aJ bI (aJ dm (pv 5) (pv 5)) (aJ dm au (pv 5))) (pv 7)) au))
      (aC (bZ (aW lE (aJ bu (pv 5) au) au (a_ _)) (aC (bw (cX Py PF PH bN (pv 6) (ac (aS (jQ t) (hr.mono (by decide)) rfl t.yn.h.gl t.yn.h.fu.kp t.yn.h.bi .nil bb (ac (aJ bI (aJ dm (aJ dm (aJ bM (pv 5) au) (pv 1)) (pv 2)) (pv 7)) (ac (pv 1) (ac (pv 2) (ac (cV qL (pv 4) au (a_ _)) ax))))) ax)))) bo))))
      (ay (ci PP rfl (bQ (dJ gg (pv 0) (dz au) (dz (aJ bI au (pv 3))))) (aT (i:=8) sc__law_rules.nd rfl (Or.inl rfl)) (ay (aN (i:=9) sc__law_rules.nd rfl (Or.inl rfl) (Ia (cV dI (pv 4) au (a_ _)) (j4 (lB (cV dI (pv 4) au (a_ _)) (j4 (cV lE (aJ bu (pv 8) au) au (a_ _)))))))
      (aC (bw (cX Py PF PH bN (pv 6) (ac (aS (jQ t) (hr.mono (by decide)) rfl t.yn.h.gl t.yn.h.fu.kp t.yn.h.bi .nil bb (ac (aJ bu (aJ dm (aJ bI (aJ bu (pv 8) au) au) au) au) (ac (pv 1) (ac (pv 2) (ac (yH (pv 9)) ax))))) ax))))))
      (aC (aZ (pv 6)))))))),DN (by decide) L5 h⟩
theorem iW:bE P w K mg base fV 1 t.yo.f t.yo.fd d8 yf:=
 t.yo.h.fu.ok sc__law_heads (fun _ _ _ _ h=>Bf h) fun cdv A outer s H vs Q E hr h=>
  have hu:=hr.units
  ⟨_,(ay (aN (i:=4) sc__law_heads.nd rfl (Or.inl rfl) (aJ bI (aJ bu (pv 0) au) au))
    (ay (aN (i:=5) sc__law_heads.nd rfl (Or.inl rfl) (bR ax))
    (ay (ci PP rfl (ie (by rfl) t.jY (ac (aJ dm (pv 1) (pv 2)) ax)) (aT (i:=6) sc__law_heads.nd rfl (Or.inl rfl)) (ay (aN (i:=4) sc__law_heads.nd rfl (Or.inl rfl) (aJ bu (aJ bI (aJ bI (aJ bI (aJ dm (pv 4) (pv 4)) (aJ dm au (pv 4))) (aJ dm au (pv 6))) au) au))
    (aC (bZ (aW lE (aJ bu (aJ bM (pv 4) au) au) (pv 3) (a_ _)) (aC (bw (cX Py PF PH bN (pv 5) (ac (aY (ac (aJ bu (pv 6) (pv 1)) (ac (aJ bM (pv 6) (pv 1)) ax))) ax)))) bo))))
    (aC (aZ (pv 5)))))),Eg h⟩
theorem nU:bE P w K mg base fV 1 t.B_.f t.B_.fd d9 BM:=
 t.B_.h.fu.ok sc__law_stack (fun _ _ _ _ h=>Bg h) fun cdv A outer s H vs Q E hr h=>
  have hu:=hr.units
  ⟨_,(ay (aN (i:=2) sc__law_stack.nd rfl (Or.inl rfl) (aJ bu (pv 0) au))
    (ay (bZ (aW dI (aJ bu (aJ bM (pv 0) au) au) au (a_ _)) (aC (aN (i:=2) sc__law_stack.nd rfl (Or.inl rfl) (aJ bI au (aJ bu (aJ bM (pv 0) au) au)))) bo)
    (ay (aN (i:=3) sc__law_stack.nd rfl (Or.inl rfl) (aJ bu (aJ bM (pv 0) au) au))
    (ay (aN (i:=4) sc__law_stack.nd rfl (Or.inl rfl) (bR ax))
    (ay (ci PP rfl (ie (by rfl) t.jY (ac (pv 2) ax)) (aT (i:=5) sc__law_stack.nd rfl (Or.inl rfl)) (ay (aN (i:=3) sc__law_stack.nd rfl (Or.inl rfl) (aJ bu (aJ bI (aJ bI (aJ dm (pv 3) au) (aJ dm (pv 5) (pv 5))) au) au))
    (aC (bw (cX Py PF PH bN (pv 4) (ac (aJ bu (aJ bM (pv 3) au) (pv 1)) ax))))))
    (aC (aZ (pv 4)))))))),Eh h⟩
theorem G_:((["thing"]:List Str)++([]:List Str)).Nodup:=by decide +kernel
theorem yc:bE P w K mg base fV 1 t.B3.f t.B3.fd jL By:=
 t.B3.h.fu.ok x_ (fun _ _ _ _ h=>AZ h) fun cdv A outer s H vs Q E hr h=>
  have hu:=hr.units
  ⟨_,(aC (aZ (cc (uD rfl hu) (by rfl) t.Ez (by decide +kernel) (ac (hG (tN:=["thing"]) (capN:=[]) (caps:=[]) rfl (cH.of (osc:=aD jK) (N:=su) rfl rfl (by decide +kernel)) (bQ (pv 0))) ax)))),D9 rfl (fun _ _ _ _ _=>aT (i:=0) G_ rfl (Or.inl rfl)) (fun _ _ _ _ _=>(aY (ac (pv 0) (ac jj ax)))) h⟩
theorem uK:bE P w K mg base fV 1 t.Cr.f t.Cr.fd iC m7:=
 t.Cr.h.fu.ok uI (fun _ _ _ _ h=>uA h) fun cdv A outer s H vs Q E hr h=>
  have hu:=hr.units
  ⟨_,(aC (aZ (aY (ac (aI aH (pv 0) au (fun _ _=>rfl)) (ac (aI aH (pv 0) au (fun _ _=>rfl)) ax))))),xN h⟩
theorem Hb:((["rule"]:List Str)++(["kept"]:List Str)).Nodup:=by decide +kernel
theorem Hc:bE P w K mg base fV 2 t.Ci.f t.Ci.fd vZ sL:=
 t.Ci.h.fu.ok sc_cut (fun _ _ _ _ h=>xX h) fun cdv A outer s H vs Q E hr h=>
  have hu:=hr.units
  ⟨_,(ay (aN (i:=2) sc_cut.nd rfl (Or.inr rfl) (aS (yc t) (hr.mono (by decide)) rfl t.B3.h.gl t.B3.h.fu.kp t.B3.h.bi .nil bb (ac (pv 1) ax)))
    (aC (aZ (aY (ac (aI aH (pv 0) au (fun _ _=>rfl)) (ac (aI aH (pv 0) au (fun _ _=>rfl)) (ac (hG (tN:=["rule"]) (capN:=["kept"]) (caps:=[2]) rfl (cH.of (osc:=aD vY) (N:=N_cut) rfl rfl (by decide +kernel)) (bQ (aI aH (pv 0) au (fun _ _=>rfl)))) ax))))))),A4 ⟨rfl,rfl,fun _ _ _ _ _=>aT (i:=0) Hb rfl (Or.inl rfl),fun _ _ _ _ _=>lq (aW (zZ hu) (aS (uK t) (hr.mono (by decide)) rfl t.Cr.h.gl t.Cr.h.fu.kp t.Cr.h.bi .nil bb (ac (pv 0) ax)) (pv 1) rfl),fun _ _ _ _ _=>pv 0⟩ h⟩
theorem yd:bE P w K mg base fV 1 t.B7.f t.B7.fd jM BF:=
 t.B7.h.fu.ok yb (fun _ _ _ _ h=>A8 h) fun cdv A outer s H vs Q E hr h=>
  have hu:=hr.units
  ⟨_,(aC (aZ (aY (ac (pv 0) (ac (bf (xP rfl) (by rfl) t.oW (by decide +kernel) (ac (cc (xO rfl hu) (by rfl) t.BE (by decide +kernel) (ac (pv 1) ax)) ax)) (ac (bf (uF rfl) (by rfl) t.oW (by decide +kernel) (ac (cc (uE rfl) (by rfl) t.BE (by decide +kernel) (ac (pv 2) ax)) ax)) ax)))))),Ea h⟩
theorem Bu:((["room", "sign"]:List Str)++(["end"]:List Str)).Nodup:=by decide +kernel
theorem Hd:((["sign"]:List Str)++(["end"]:List Str)).Nodup:=by decide +kernel
theorem mU:bE P w K mg base fV 2 t.yr.f t.yr.fd iD yi:=
 t.yr.h.fu.ok sc_heading (fun _ _ _ _ h=>Ba h) fun cdv A outer s H vs Q E hr h=>
  have hu:=hr.units
  ⟨_,(ay (aN (i:=2) sc_heading.nd rfl (Or.inr rfl) (aI aH (pv 0) au (fun _ _=>rfl)))
    (ay (jG (i:=3) (tN:=["room", "sign"]) (capN:=["end"]) (caps:=[2]) rfl (cH.of (osc:=aD ga) (N:=N_heading) rfl rfl (by decide +kernel)) sc_heading.nd rfl rfl (bQ (pv 1)))
    (ay (jG (i:=4) (tN:=["sign"]) (capN:=["end"]) (caps:=[2]) rfl (cH.of (osc:=aD ga) (N:=N_heading) rfl rfl (by decide +kernel)) sc_heading.nd rfl rfl (ie (by rfl) t.jY (ac (aI aH (pv 0) au (fun _ _=>rfl)) ax)))
    (aC (aZ (aS (yd t) (hr.mono (by decide)) rfl t.B7.h.gl t.B7.h.fu.kp t.B7.h.bi .nil bb (ac (aJ bI (pv 2) au) (ac (aJ lM (pv 3) (pv 4)) (ac (bR (ac (pv 2) ax)) ax))))))))),Eb ⟨rfl,rfl,fun _ _ _ _ _=>cU rfl (ba (aT (i:=0) Bu rfl (Or.inl rfl)) (ba (aT (i:=1) Bu rfl (Or.inl rfl)) cu)),fun _ _ _ _ _=>(aY (ac (pv 0) (ac (pv 1) (ac (pv 2) ax))))⟩ ⟨rfl,rfl,fun _ _ _ _ _=>aT (i:=0) Hd rfl (Or.inl rfl),fun _ _ _ _ _=>(aY (ac (pv 1) (ac (pv 0) (ac (pv 1) ax))))⟩ h⟩
theorem He:((["arrow"]:List Str)++(["house"]:List Str)).Nodup:=by decide +kernel
theorem sC:bE P w K mg base fV 1 t.Ce.f t.Ce.fd gB BC:=
 t.Ce.h.fu.ok sA (fun _ _ _ _ h=>Bb h) fun cdv A outer s H vs Q E hr h=>
  have hu:=hr.units
  ⟨_,(aC (aZ (bf (xR rfl) (by rfl) t.HD (by decide +kernel) (ac (hG (tN:=["arrow"]) (capN:=["house"]) (caps:=[0]) rfl (cH.of (osc:=aD gA) (N:=N_is_plain) rfl rfl (by decide +kernel)) (bQ (aI aH (pv 1) au (fun _ _=>rfl)))) ax)))),Ed ⟨rfl,rfl,fun _ _ _ _ _=>aT (i:=0) He rfl (Or.inl rfl),fun _ _ _ _ _=>(cV Ih (aI aH (pv 0) au (fun _ _=>rfl)) (aI aH (pv 1) au (fun _ _=>rfl)) (a_ _))⟩ h⟩
theorem gJ:bE P w K mg base fV 2 t.B6.f t.B6.fd bW (pH mg 2 dk):=
 t.B6.h.fu.ok gC (fun _ _ _ _ h=>h.1) fun cdv A outer s H vs Q E hr h=>
  have hu:=hr.units
  ⟨_,(aC (bZ (i6 (j3 (aS (sC t) (hr.mono (by decide)) rfl t.Ce.h.gl t.Ce.h.fu.kp t.Ce.h.bi .nil bb (ac (pv 0) (ac (pv 1) ax))))) GF bo)),Bc h⟩
theorem Kk:bE P w K mg base fV 1 t.Hq.f t.Hq.fd ["self"] (jV t.CQ):=t.Hq.h.fu.ok Kg (fun _ _ _ _ h=>rS h) fun cdv A outer s H vs Q E hr h=>⟨_,ay (gO (pv 0) au rfl) (aC (gO (pv 0) qU rfl)),ut t.kQ h⟩
theorem E8:bE P w K mg base fV 1 t.Ex.f t.Ex.fd ["self", "price", "thing"] (oV t.CQ):=
 t.Ex.h.fu.ok Kh (fun _ _ _ _ h=>xx h) fun cdv A outer s H vs Q E hr h=>
  ⟨_,aC (bw (cX Py PF PH bN (cX P7 Qg QL CU (cp (pv 0) rfl)
    (ac (tE PySem.F.plainAttrs_int PySem.F.slot_int_bit_length PySem.F.type_int_bit_length Dq (aJ Fz (pv 1) (cp (pv 0) rfl))) (ac (bR ax) ax))) (ac (aY (ac (pv 1) (ac (pv 2) ax))) ax))),z8 t.kQ h rfl⟩
theorem Kl:bE P w K mg base fV 1 t.Hz.f t.Hz.fd ["self"] (jZ t.CQ):=t.Hz.h.fu.ok Ki (fun _ _ _ _ h=>rT h) fun cdv A outer s H vs Q E hr h=>⟨_,aC (aZ (cV dI (bf xA (by rfl) t.cr P8 (ac (cp (pv 0) rfl) ax)) au (a_ _))),uu t.kQ h⟩
theorem sD:bE P w K mg base fV 2 t.uQ.f t.uQ.fd ["self", "arrow", "price", "number", "mid"] (dH t.CP t.CQ):=
 t.uQ.h.fu.ok sc_PO (fun _ _ _ _ h=>rW h) fun cdv A outer s H vs Q E hr h=>
  ⟨_,ay (aN (i:=5) sc_PO.nd rfl (Or.inl rfl) (qV (fW hr) (cp (pv 0) rfl) (pv 1) ⟨rfl,rfl,rfl,rfl⟩))
    (aC (bZ (PW.pt (gK (aW jd (pv 5) cK (a_ _)) (gc (aW lE (pv 2) (aI aH (pv 5) au (fun _ _=>rfl)) (a_ _)))))
      (ay (ve (fW hr) (cp (pv 0) rfl) (pv 1) (aY (ac (pv 2) (ac (pv 3) (ac (pv 4) ax)))) rfl)
        (aC (bw (dY (cp (pv 0) rfl) t.kQ.cl t.Ex.h.me (E8 t) hr t.Ex.h.bi .nil bb (ac (pv 2) (ac (pv 1) ax))))))
      bo)),uw t.kP t.kQ h⟩
theorem Bv:((["price", "thing"]:List Str)++([]:List Str)).Nodup:=by decide +kernel
theorem Km:bE P w K mg base fV 2 t.Hw.f t.Hw.fd ["self"] (m8 t.CQ):=
 t.Hw.h.fu.ok sc_QT (fun _ _ _ _ h=>uv h) fun cdv A outer s H vs Q E hr h=>
  ⟨_,ay (aN (i:=1) sc_QT.nd rfl (Or.inl rfl) (qW (cp (pv 0) rfl) (bf (xy rfl) (by rfl) t.uS (by decide +kernel) (ac (tE P7 PySem.F.slot_dict_keys PySem.F.type_dict_keys Ds (cp (pv 0) rfl)) ax)) ⟨rfl,rfl,rfl,rfl⟩))
    (ay (gO (pv 0) (bf (xG rfl) (by rfl) t.uS (by decide +kernel) (ac (hG (tN:=["price", "thing"]) (capN:=[]) (caps:=[]) rfl (cH.of (osc:=aD Eu) (N:=["self", "pile", "price", "thing"]) rfl rfl (by decide +kernel)) (bQ (pv 1))) ax)) rfl)
    (ay (ci PP rfl (bQ (pv 1)) (cU rfl (ba (aT (i:=2) sc_QT.nd rfl (Or.inl rfl)) (ba (aT (i:=3) sc_QT.nd rfl (Or.inl rfl)) cu)))
      (aC (bw (dY (pv 0) t.kQ.cl t.Ex.h.me (E8 t) hr t.Ex.h.bi .nil bb (ac (pv 2) (ac (pv 3) ax))))))
    (aC (aZ (qW (cp (pv 0) rfl) au ⟨rfl,rfl,rfl,rfl⟩))))),
    xB t.kQ (fun _ _=>rfl) (xH rfl (fun _ _ _ _ _=>cU rfl (ba (aT (i:=0) Bv rfl (Or.inl rfl)) (ba (aT (i:=1) Bv rfl (Or.inl rfl)) cu))) fun _ _ _ _ _=>pv 0) h⟩
theorem Kn:bE P w K mg base fV 3 t.HH.f t.HH.fd ["self", "number", "rule", "mid", "price"] (jW t.CP t.CQ):=
 t.HH.h.fu.ok sc_PF (fun _ _ _ _ h=>rY h) fun cdv A outer s H vs Q E hr h=>
  ⟨_,ay (aN (i:=5) sc_PF.nd rfl (Or.inl rfl) (aY (ac (pv 3) (ac (aI aH (aI aH (pv 2) au (fun _ _=>rfl)) au (fun _ _=>rfl)) ax))))
    (ay (bw (cX Py PF PH bN (cX P7 Qg QL (jz hr.units) (cp (pv 0) rfl) (ac (pv 5) (ac (bR ax) ax))) (ac (aY (ac (pv 1) (ac (pv 2) (ac (pv 4) ax)))) ax)))
    (aC (ci PP rfl (bQ (jo (fW hr) (cp (pv 0) rfl) (pv 5) (bR ax) ⟨rfl,rfl,rfl,rfl⟩)) (cU rfl (ba (aT (i:=6) sc_PF.nd rfl (Or.inl rfl)) (ba (aT (i:=7) sc_PF.nd rfl (Or.inl rfl)) cu)))
      (aC (bw (dY (pv 0) t.kP.cl t.uQ.h.me (sD t) hr t.uQ.h.bi .nil bb (ac (aY (ac (aI aH (pv 2) au (fun _ _=>rfl)) (ac (aI aH (pv 2) au (fun _ _=>rfl)) (ac (pv 6) ax))))
        (ac (aJ bI (aJ bI (pv 4) (pv 7)) au) (ac (pv 1) (ac (pv 3) ax)))))))))),ux t.kP h⟩
theorem Ko:bE P w K mg base fV 4 t.Hu.f t.Hu.fd ["self", "arrow", "price"] (hZ t.CP t.CQ):=
 t.Hu.h.fu.ok sc_PS (fun _ _ _ _ h=>pW h) fun cdv A outer s H vs Q E hr h=>
  have hr2:cT 2 _:=hr.mono (by decide)
  ⟨_,ay (aN (i:=3) sc_PS.nd rfl (Or.inl rfl) (aY (ac (aI aH (pv 1) au (fun _ _=>rfl)) (ac (aI aH (pv 1) au (fun _ _=>rfl)) ax))))
    (ay (bw (cX Py PF PH bN (cX P7 Qg QL (jz hr.units) (cp (pv 0) rfl) (ac (pv 3) (ac (bR ax) ax))) (ac (aY (ac (aI aH (pv 1) au (fun _ _=>rfl)) (ac (pv 2) ax))) ax)))
    (ay (ci PP rfl (bQ (jo (fW hr) (cp (pv 0) rfl) (pv 3) (bR ax) ⟨rfl,rfl,rfl,rfl⟩)) (cU rfl (ba (aT (i:=4) sc_PS.nd rfl (Or.inl rfl)) (ba (aT (i:=5) sc_PS.nd rfl (Or.inl rfl)) (ba (aT (i:=6) sc_PS.nd rfl (Or.inl rfl)) cu))))
      (aC (bw (dY (pv 0) t.kP.cl t.uQ.h.me (sD t) hr2 t.uQ.h.bi .nil bb (ac (aY (ac (aI aH (pv 5) au (fun _ _=>rfl)) (ac (aI aH (pv 5) au (fun _ _=>rfl)) (ac (aI aH (pv 1) au (fun _ _=>rfl)) ax))))
        (ac (aJ bI (aJ bI (pv 6) (pv 2)) au) (ac (pv 4) (ac (aI aH (pv 1) au (fun _ _=>rfl)) ax))))))))
    (aC (ci PP rfl (bQ (jo (fW hr) (cp (pv 0) rfl) (pv 3) (bR ax) ⟨rfl,rfl,rfl,rfl⟩)) (cU rfl (ba (aT (i:=4) sc_PS.nd rfl (Or.inl rfl)) (ba (aT (i:=5) sc_PS.nd rfl (Or.inl rfl)) cu)))
      (aC (bZ (aW dI (bf bB (by rfl) t.cr P8 (ac (aI aH (pv 5) au (fun _ _=>rfl)) ax)) au (a_ _))
        (aC (bw (dY (pv 0) t.kP.cl t.uQ.h.me (sD t) hr2 t.uQ.h.bi .nil bb (ac (aY (ac (aI aH (pv 5) au (fun _ _=>rfl)) (ac (aI aH (pv 5) au (fun _ _=>rfl)) (ac (aI aH (pv 1) au (fun _ _=>rfl)) ax))))
          (ac (aJ bI (pv 2) au) (ac (pv 4) (ac cK ax)))))))
        (aC (bw (dY (pv 0) t.kP.cl t.HH.h.me (Kn t) hr t.HH.h.bi .nil bb (ac (pv 4) (ac (pv 5) (ac (aI aH (pv 1) au (fun _ _=>rfl)) (ac (pv 2) ax))))))))))))),rZ t.kP h⟩
theorem Kq:bE P w K mg base fV 5 t.Hm.f t.Hm.fd ["self"] (sH t.CP t.CQ):=
 t.Hm.h.fu.ok sc_PA (fun _ _ _ _ h=>xC h) fun cdv A outer s H vs Q E hr h=>
  ⟨_,aC (qH PP (i6 (j3 (lH (cp (pv 0) rfl) t.kQ.cl t.Hz.h.me (Kl t) (hr.mono (by decide)) t.Hz.h.bi .nil bb)))
    (aC (ci PP rfl (bQ (lH (cp (pv 0) rfl) t.kQ.cl t.Hw.h.me (Km t) (hr.mono (by decide)) t.Hw.h.bi .nil bb)) (cU rfl (ba (aT (i:=1) sc_PA.nd rfl (Or.inl rfl)) (ba (aT (i:=2) sc_PA.nd rfl (Or.inl rfl)) cu)))
      (aC (bZ (aW dI (aI aH (jn (fW hr) (cp (pv 0) rfl) (pv 2) (fun _ _=>rfl)) au (fun _ _=>rfl)) (pv 1) (a_ _))
        (aC (bw (dY (pv 0) t.kP.cl t.Hu.h.me (Ko t) hr t.Hu.h.bi .nil bb (ac (pv 2) (ac (pv 1) ax))))) bo))))),Af t.kP h⟩
theorem jR:bE P w K mg base fV 1 t.BZ.f t.BZ.fd ["house"] BR:=
 t.BZ.h.fu.ok sc_rules_by_start (fun _ _ _ _ h=>Ag h) fun cdv A outer s H vs Q E hr h=>
  ⟨_,ay (aN (i:=1) sc_rules_by_start.nd rfl (Or.inl rfl) gV)
    (ay (ci PP rfl (vE rfl t.jT (ac (aI aH (pv 0) au (fun _ _=>rfl)) ax)) (cU rfl (ba (aT (i:=2) sc_rules_by_start.nd rfl (Or.inl rfl)) (ba (aT (i:=3) sc_rules_by_start.nd rfl (Or.inl rfl)) cu)))
      (aC (bZ (aW qL (bf bB (by rfl) t.cr P8 (ac (aI aH (pv 3) au (fun _ _=>rfl)) ax)) au (a_ _))
        (aC (bw (cX Py PF PH bN (cX P7 Qg QL (jz hr.units) (pv 1)
          (ac (aY (ac (aI aH (pv 3) au (fun _ _=>rfl)) (ac (aI aH (aI aH (pv 3) au (fun _ _=>rfl)) au (fun _ _=>rfl)) ax))) (ac (bR ax) ax))) (ac (aY (ac (pv 2) (ac (pv 3) ax))) ax)))) bo)))
    (aC (aZ (pv 1)))),DA h⟩
theorem Kr:bE P w K mg base fV 3 t.HJ.f t.HJ.fd ["self", "house"] (jS t.CP t.CQ):=
 t.HJ.h.fu.ok Kj (fun _ _ _ _ h=>r_ h) fun cdv A outer s H vs Q E hr h=>
  ⟨_,ay (gO (pv 0) (aS (jR t) (hr.mono (by decide)) rfl t.BZ.h.gl t.BZ.h.fu.kp t.BZ.h.bi .nil bb (ac (pv 1) ax)) rfl)
    (ay (gO (pv 0) gV rfl) (ay (gO (pv 0) (yU t.Hr (Kk t) hr rfl t.gQ t.Hq.h.bi .nil bb) rfl) (ay (gO (pv 0) gV rfl) (aC (gO (pv 0) gV rfl))))),uz t.kP h⟩
theorem oU:bE P w K mg base fV 6 t.ye.f t.ye.fd jN (pH mg 2 jO):=
 t.ye.h.fu.ok sc_prices (fun _ _ _ _ h=>h.1) fun cdv A outer s H vs Q E hr h=>
  have hr2:cT 2 _:=hr.mono (by decide)
  ⟨_,ay (bw (aS (gJ t) (hr.mono (by decide)) rfl t.B6.h.gl t.B6.h.fu.kp t.B6.h.bi .nil IH (ac (pv 0) (ac (pv 1) ax))))
    (ay (aN (i:=2) sc_prices.nd rfl (Or.inl rfl) (CC t.HA (Kr t) (hr.mono (by decide)) rfl t.gP t.HJ.h.bi .nil bb (ac (pv 0) ax)))
    (ay (ci PP rfl (bQ (aI aH (pv 1) au (fun _ _=>rfl))) (aT (i:=3) sc_prices.nd rfl (Or.inl rfl)) (aC (bw (dY (pv 2) t.kP.cl t.uQ.h.me (sD t) hr2 t.uQ.h.bi .nil bb (ac (pv 3) (ac au (ac cK (ac cK ax))))))))
    (ay (ci PP rfl (vE rfl t.jT (ac (aI aH (pv 0) au (fun _ _=>rfl)) ax)) (cU rfl (ba (aT (i:=4) sc_prices.nd rfl (Or.inl rfl)) (ba (aT (i:=5) sc_prices.nd rfl (Or.inl rfl)) cu)))
      (aC (bZ (aW dI (bf bB (by rfl) t.cr P8 (ac (aI aH (pv 5) au (fun _ _=>rfl)) ax)) au (a_ _))
        (aC (bw (dY (pv 2) t.kP.cl t.uQ.h.me (sD t) hr2 t.uQ.h.bi .nil bb (ac (aY (ac (aI aH (pv 5) au (fun _ _=>rfl)) (ac (aI aH (pv 5) au (fun _ _=>rfl)) (ac (aI aH (pv 5) au (fun _ _=>rfl)) ax))))
          (ac au (ac (pv 4) (ac cK ax))))))) bo)))
    (ay (bw (lH (pv 2) t.kP.cl t.Hm.h.me (Kq t) hr t.Hm.h.bi .nil bb))
    (aC (aZ (cp (pv 2) rfl))))))),sj t.kP h⟩
theorem mV:bE P w K mg base fV 1 t.Cj.f t.Cj.fd dC BB:=
 t.Cj.h.fu.ok sc_priced_from (fun _ _ _ _ h=>AE h) fun cdv A outer s H vs Q E hr h=>
  have hu:=hr.units
  ⟨_,(ay (aN (i:=1) sc_priced_from.nd rfl (Or.inl rfl) gV)
    (ay (zh (ci PP rfl (wM (pv 0)) (cU rfl (ba (aT (i:=2) sc_priced_from.nd rfl (Or.inl rfl)) (ba (aT (i:=3) sc_priced_from.nd rfl (Or.inl rfl)) cu))) (aC (bw (cX Py PF PH bN (cX P7 Qg QL (jz hu) (pv 1) (ac (aY (ac (aI aH (pv 2) au (fun _ _=>rfl)) (ac (aI aH (pv 2) au (fun _ _=>rfl)) ax))) (ac (bR ax) ax))) (ac (aY (ac (pv 2) (ac (aI aH (pv 3) au (fun _ _=>rfl)) ax))) ax))))))
    (aC (aZ (pv 1))))),DV h⟩
theorem nV:bE P w K mg base fV 1 t.Ca.f t.Ca.fd d_ BK:=
 t.Ca.h.fu.ok sc_sums_ahead (fun _ _ _ _ h=>AG h) fun cdv A outer s H vs Q E hr h=>
  have hu:=hr.units
  ⟨_,(ay (aN (i:=3) sc_sums_ahead.nd rfl (Or.inl rfl) qU)
    (ay (zh (ci PP rfl (zK (pv 1)) (cU rfl (ba (aT (i:=4) sc_sums_ahead.nd rfl (Or.inl rfl)) (ba (aT (i:=5) sc_sums_ahead.nd rfl (Or.inl rfl)) cu))) (aC (ci PP rfl (bQ (jo (fW hr) (pv 0) (aY (ac (pv 4) (ac (pv 2) ax))) (bR ax) ⟨rfl,rfl,rfl,rfl⟩)) (cU rfl (ba (aT (i:=6) sc_sums_ahead.nd rfl (Or.inl rfl)) (ba (aT (i:=7) sc_sums_ahead.nd rfl (Or.inl rfl)) cu))) (ay (aN (i:=8) sc_sums_ahead.nd rfl (Or.inl rfl) (qV (fW hr) (pv 3) (aI aH (pv 6) au (fun _ _=>rfl)) ⟨rfl,rfl,rfl,rfl⟩))
    (aC (bZ (PW.pt (gK (aW jd (pv 8) cK (a_ _)) (gc (aW lE (aJ bI (aI aH (pv 5) au (fun _ _=>rfl)) (pv 7)) (aI aH (pv 8) au (fun _ _=>rfl)) (a_ _))))) (aC (ve (fW hr) (pv 3) (aI aH (pv 6) au (fun _ _=>rfl)) (aY (ac (aJ bI (aI aH (pv 5) au (fun _ _=>rfl)) (pv 7)) (ac (pv 6) ax))) rfl)) bo)))))))
    (aC (aZ (pv 3))))),DW h⟩
theorem iX:bE P w K mg base fV 2 t.ym.f t.ym.fd eh yq:=
 t.ym.h.fu.ok sc_sums_along (fun _ _ _ _ h=>AH h) fun cdv A outer s H vs Q E hr h=>
  have hu:=hr.units
  ⟨_,(ay (aN (i:=2) sc_sums_along.nd rfl (Or.inl rfl) (aS (mV t) (hr.mono (by decide)) rfl t.Cj.h.gl t.Cj.h.fu.kp t.Cj.h.bi .nil bb (ac (pv 0) ax)))
    (ay (aN (i:=3) sc_sums_along.nd rfl (Or.inl rfl) (bR (ac (CL (zb (aI aH (pv 1) au (fun _ _=>rfl)) (aY (ac au (ac cK ax))) CJ) rfl rfl (fun z=>nomatch z) (by decide)) ax)))
    (ay (ci PP rfl (bQ (aI aH (pv 1) au (fun _ _=>rfl))) (aT (i:=4) sc_sums_along.nd rfl (Or.inl rfl)) (aC (bw (cX Py PF PH bN (pv 3) (ac (aS (nV t) (hr.mono (by decide)) rfl t.Ca.h.gl t.Ca.h.fu.kp t.Ca.h.bi .nil bb (ac (pv 2) (ac (aI bz (pv 3) (qK lD au) (fun _ _=>rfl)) (ac (pv 4) ax)))) ax)))))
    (aC (aZ (pv 3)))))),DY h⟩
theorem Hf:((["end"]:List Str)++(["sums"]:List Str)).Nodup:=by decide +kernel
theorem iY:bE P w K mg base fV 1 t.yg.f t.yg.fd eF uP:=
 t.yg.h.fu.ok nO (fun _ _ _ _ h=>AK h) fun cdv A outer s H vs Q E hr h=>
  have hu:=hr.units
  ⟨_,(aC (aZ (DE rfl hu (by rfl) t.uS (hG (tN:=["end"]) (capN:=["sums"]) (caps:=[1]) rfl (cH.of (osc:=aD eB) (N:=jP) rfl rfl (by decide +kernel)) (bQ (aI aH (pv 0) au (fun _ _=>rfl))))))),DZ ⟨rfl,rfl,fun _ _ _ _ _=>aT (i:=0) Hf rfl (Or.inl rfl),fun _ _ _ _ _=>lq (aW (zZ hu) (pv 0) (pv 1) rfl),fun _ _ _ _ _=>(aY (ac (aI aH (jn (fW hr) (pv 1) (pv 0) (fun _ _=>rfl)) au (fun _ _=>rfl)) (ac (pv 0) ax)))⟩ h⟩
theorem sF:bE P w K mg base fV 7 t.yt.f t.yt.fd lu (yj jO):=
 t.yt.h.fu.ok sc_least (fun _ _ _ _ h=>AN h) fun cdv A outer s H vs Q E hr h=>
  have hu:=hr.units
  ⟨_,(ay (aN (i:=3) sc_least.nd rfl (Or.inl rfl) (aS (iY t) (hr.mono (by decide)) rfl t.yg.h.gl t.yg.h.fu.kp t.yg.h.bi .nil bb (ac (pv 1) (ac (aI bz (aS (iX t) (hr.mono (by decide)) rfl t.ym.h.gl t.ym.h.fu.kp t.ym.h.bi .nil bb (ac (aS (oU t) (hr.mono (by decide)) rfl t.ye.h.gl t.ye.h.fu.kp t.ye.h.bi .nil bb (ac (pv 0) (ac (pv 1) ax))) (ac (pv 2) ax))) (qK lD au) (fun _ _=>rfl)) ax))))
    (aC (aZ (yI (aW jd (pv 3) cK (a_ _)) cK (aI aH (pv 3) au (fun _ _=>rfl)))))),D0 h⟩
theorem v9:bE P w K mg base fV 8 t.yp.f t.yp.fd qg (uR jO):=
 t.yp.h.fu.ok Ew (fun _ _ _ _ h=>Bd h) fun cdv A outer s H vs Q E hr h=>
  have hu:=hr.units
  ⟨_,(aC (aZ (aS (sF t) (hr.mono (by decide)) rfl t.yt.h.gl t.yt.h.fu.kp t.yt.h.bi .nil bb (ac (aS (Hc t) (hr.mono (by decide)) rfl t.Ci.h.gl t.Ci.h.fu.kp t.Ci.h.bi .nil bb (ac (pv 0) (ac (pv 1) ax))) (ac (aS (mU t) (hr.mono (by decide)) rfl t.yr.h.gl t.yr.h.fu.kp t.yr.h.bi .nil bb (ac (pv 0) (ac (pv 2) ax))) (ac (pv 3) ax)))))),Ef h⟩
theorem fP:bE P w K mg base fV 1 t.sR.f t.sR.fd eG uM:=
 t.sR.h.fu.ok nP (fun _ _ _ _ h=>AX h) fun cdv A outer s H vs Q E hr h=>
  have hu:=hr.units
  ⟨_,(aC (aZ (lB (bf ko (by rfl) t.fR (by decide +kernel) (ac (pv 0) (ac (oX (v:=.ty "int") (by rfl) t.Hv (by decide +kernel) rfl) ax))) (j4 (yH (bf ko (by rfl) t.fR (by decide +kernel) (ac (pv 0) (ac (oX (v:=.ty "bool") (by rfl) t.EC (by decide +kernel) rfl) ax)))))))),D8 h⟩
theorem qj:bE P w K mg base fV 2 t.Cd.f t.Cd.fd fD BH:=
 t.Cd.h.fu.ok qi (fun _ _ _ _ h=>Bh h) fun cdv A outer s H vs Q E hr h=>
  have hu:=hr.units
  ⟨_,(ay (bZ (aW jd (pv 1) cK (a_ _)) (aC (aZ (cV jd (pv 0) cK (a_ _)))) bo)
    (aC (aZ (lB (aS (fP t) (hr.mono (by decide)) rfl t.sR.h.gl t.sR.h.fu.kp t.sR.h.bi .nil bb (ac (pv 0) ax)) (j4 (cV dI (pv 0) (pv 1) (a_ _))))))),Ei h⟩
theorem mW:bE P w K mg base fV 1 t.B5.f t.B5.fd dD BS:=
 t.B5.h.fu.ok sc_arrows_back (fun _ _ _ _ h=>AO h) fun cdv A outer s H vs Q E hr h=>
  have hu:=hr.units
  ⟨_,(ay (aN (i:=2) sc_arrows_back.nd rfl (Or.inl rfl) (bR ax))
    (ay (ci PP rfl (FQ rfl t.sJ (ac (dJ gg (pv 0) (dz au) ij) ax)) (aT (i:=3) sc_arrows_back.nd rfl (Or.inl rfl)) (ay (aN (i:=4) sc_arrows_back.nd rfl (Or.inl rfl) (aI aH (jn (fW hr) (pv 3) (pv 1) (fun _ _=>rfl)) au (fun _ _=>rfl)))
    (ay (bw (cX Py PF PH bN (pv 2) (ac (pv 4) ax)))
    (aC (aN (i:=1) sc_arrows_back.nd rfl (Or.inl rfl) (aI aH (pv 4) au (fun _ _=>rfl)))))))
    (aC (aZ (pv 2))))),D3 h⟩
theorem nW:bE P w K mg base fV 1 t.B9.f t.B9.fd eJ BJ:=
 t.B9.h.fu.ok nR (fun _ _ _ _ h=>AQ h) fun cdv A outer s H vs Q E hr h=>
  have hu:=hr.units
  ⟨_,(ay (bZ (aW dI (bf bB (by rfl) t.cr P8 (ac (aI aH (pv 0) au (fun _ _=>rfl)) ax)) au (a_ _)) (aC (aZ (bR ax))) bo)
    (ay (bZ (aW dI (bf bB (by rfl) t.cr P8 (ac (aI aH (pv 0) au (fun _ _=>rfl)) ax)) au (a_ _)) (aC (aZ (bR (ac (aY (ac (aI aH (pv 0) au (fun _ _=>rfl)) (ac (aI aH (aI aH (pv 0) au (fun _ _=>rfl)) au (fun _ _=>rfl)) (ac (pv 2) ax)))) ax)))) bo)
    (aC (aZ (bR (ac (aY (ac (pv 1) (ac (aI aH (aI aH (pv 0) au (fun _ _=>rfl)) au (fun _ _=>rfl)) (ac (pv 2) ax)))) (ac (aY (ac (aI aH (pv 0) au (fun _ _=>rfl)) (ac (aI aH (aI aH (pv 0) au (fun _ _=>rfl)) au (fun _ _=>rfl)) (ac (pv 1) ax)))) ax))))))),D4 h⟩
theorem mX:bE P w K mg base fV 2 t.B0.f t.B0.fd dE BI:=
 t.B0.h.fu.ok sc_rules_along (fun _ _ _ _ h=>AT h) fun cdv A outer s H vs Q E hr h=>
  have hu:=hr.units
  ⟨_,(ay (aN (i:=3) sc_rules_along.nd rfl (Or.inl rfl) (cc cz (by rfl) t.eR (by decide +kernel) (ac (pv 2) ax)))
    (ay (aN (i:=4) sc_rules_along.nd rfl (Or.inl rfl) (bR ax))
    (ay (qH PP (qM (pv 3) (fun _=>rfl)) (ay (aN (i:=5) sc_rules_along.nd rfl (Or.inl rfl) (tE Py PySem.F.slot_list_pop PySem.F.type_list_pop FJ (pv 3)))
    (ay (aN (i:=6) sc_rules_along.nd rfl (Or.inl rfl) (aI aH (jn (fW hr) (pv 1) (pv 5) (fun _ _=>rfl)) au (fun _ _=>rfl)))
    (aC (bZ (aW Cy (pv 6) cK (a_ _)) (ay (bw (cX Py PF PH bN (pv 4) (ac (pv 6) ax)))
    (aC (bw (cX Py PySem.F.slot_list_extend PySem.F.type_list_extend wu (pv 3) (ac (aS (nW t) (hr.mono (by decide)) rfl t.B9.h.gl t.B9.h.fu.kp t.B9.h.bi .nil bb (ac (aI bz (aI aH (pv 0) au (fun _ _=>rfl)) (pv 6) (fun _ _=>rfl)) (ac (aI aH (jn (fW hr) (pv 1) (pv 5) (fun _ _=>rfl)) au (fun _ _=>rfl)) (ac (aI aH (pv 5) au (fun _ _=>rfl)) ax)))) ax))))) bo)))))
    (aC (aZ (pv 4)))))),D5 h⟩
theorem Hg:bE P w K mg base (CM P w) 7 t.Cf.f t.Cf.fd v5 (BP jO t.dh t.ce):=
 JN t.Cf.h.fu sc_way (fun _ _ _ _ h=>AW h) fun cdv A outer s H vs Q E hr h=>
  have hu:=hr.units
  ⟨_,(ay (aN (i:=4) sc_way.nd rfl (Or.inl rfl) (aS (oU t) (hr.mono (by decide)) rfl t.ye.h.gl t.ye.h.fu.kp t.ye.h.bi .nil bb (ac (pv 0) (ac (pv 1) ax))))
    (ay (aN (i:=5) sc_way.nd rfl (Or.inl rfl) (aS (iX t) (hr.mono (by decide)) rfl t.ym.h.gl t.ym.h.fu.kp t.ym.h.bi .nil bb (ac (pv 4) (ac (pv 2) ax))))
    (ay (aN (i:=6) sc_way.nd rfl (Or.inl rfl) (aS (iY t) (hr.mono (by decide)) rfl t.yg.h.gl t.yg.h.fu.kp t.yg.h.bi .nil bb (ac (pv 1) (ac (aI bz (pv 5) (qK lD au) (fun _ _=>rfl)) ax))))
    (ay (bZ (aW jd (pv 6) cK (a_ _)) (aC (qZ (EW:=fun H=>E (.ref t.dh) none H) t.EB (by rfl) rfl (ac yD ax) (fun ai σ H s h' x args I hm hE=>vf I hm hE))) bo)
    (ay (bZ (aW qL (aI aH (pv 6) au (fun _ _=>rfl)) (pv 3) (a_ _)) (aC (qZ (EW:=fun H=>E (.ref t.ce) none H) t.yh (by rfl) rfl (ac yD ax) (fun ai σ H s h' x args I hm hE=>vf I hm hE))) bo)
    (aC (aZ (aS (mX t) (hr.mono (by decide)) rfl t.B0.h.gl t.B0.h.fu.kp t.B0.h.bi .nil bb (ac (pv 0) (ac (pv 4) (ac (aS (mW t) (hr.mono (by decide)) rfl t.B5.h.gl t.B5.h.fu.kp t.B5.h.bi .nil bb (ac (pv 5) (ac (aI aH (pv 6) au (fun _ _=>rfl)) ax))) ax))))))))))),D7 h⟩
theorem mY:bE P w K mg base fV 2 t.Cm.f t.Cm.fd dF BN:=
 t.Cm.h.fu.ok sc__law_walked (fun _ _ _ _ h=>Bi h) fun cdv A outer s H vs Q E hr h=>
  have hu:=hr.units
  ⟨_,(ay (bZ (PW.pt (gK (i6 (j3 (bf ko (by rfl) t.fR (by decide +kernel) (ac (pv 2) (ac (oX (v:=.ty "list") (by rfl) t.eR (by decide +kernel) rfl) ax))))) (gc (aW yN (bf bB (by rfl) t.cr P8 (ac (pv 2) ax)) (pv 4) (a_ _))))) (aC (aZ jj)) bo)
    (ay (yJ (pv 1) (cU rfl (ba (aT (i:=5) sc__law_walked.nd rfl (Or.inl rfl)) (ba (aT (i:=6) sc__law_walked.nd rfl (Or.inl rfl)) cu))))
    (ay (ci PP rfl (bQ (pv 2)) (aT (i:=7) sc__law_walked.nd rfl (Or.inl rfl)) (ay (bZ (PW.pt (gK (i6 (j3 (aS (fP t) (hr.mono (by decide)) rfl t.sR.h.gl t.sR.h.fu.kp t.sR.h.bi .nil bb (ac (pv 7) ax)))) (gK (i6 (yQ yO lE au (pv 7) (bf bB (by rfl) t.cr P8 (ac (pv 0) ax)))) (gc (aW dI (bf bB (by rfl) t.cr P8 (ac (pv 6) ax)) au (a_ _)))))) (aC (aZ jj)) bo)
    (ay (bZ (PW.pt (gK (aW yN (aI aH (aI bz (pv 0) (pv 7) (fun _ _=>rfl)) au (fun _ _=>rfl)) (pv 5) (a_ _)) (gc (aW yN (aI aH (aI bz (pv 0) (pv 7) (fun _ _=>rfl)) au (fun _ _=>rfl)) (aI bz (pv 6) au (fun _ _=>rfl)) (a_ _))))) (aC (aZ jj)) bo)
    (ay (aN (i:=5) sc__law_walked.nd rfl (Or.inl rfl) (aI aH (aI bz (pv 0) (pv 7) (fun _ _=>rfl)) au (fun _ _=>rfl)))
    (aC (aN (i:=6) sc__law_walked.nd rfl (Or.inl rfl) (aJ lM (cc cz (by rfl) t.eR (by decide +kernel) (ac (aI aH (aI bz (pv 0) (pv 7) (fun _ _=>rfl)) au (fun _ _=>rfl)) ax)) (dJ gg (pv 6) (dz au) ij))))))))
    (aC (aZ (lB (cV qL (bf bB (by rfl) t.cr P8 (ac (pv 6) ax)) au (a_ _)) (j4 (cV (uh hu) (aY (ac (pv 5) (ac (aI bz (pv 6) au (fun _ _=>rfl)) ax))) (pv 3) rfl)))))))),Ek h⟩
theorem Hh:((["_law_rule_here"]:List Str)++(["_law_room", "_law_stack_here"]:List Str)).Nodup:=by decide +kernel
theorem sG:bE P w K mg base fV 1 t.Co.f t.Co.fd gI BQ:=
 t.Co.h.fu.ok sc__law_run (fun _ _ _ _ h=>Bj h) fun cdv A outer s H vs Q E hr h=>
  have hu:=hr.units
  ⟨_,(ay (yJ (pv 1) (cU rfl (ba (aT (i:=5) sc__law_run.nd rfl (Or.inr rfl)) (ba (aT (i:=6) sc__law_run.nd rfl (Or.inr rfl)) cu))))
    (ay (aN (i:=7) sc__law_run.nd rfl (Or.inl rfl) (bR (ac (aY (ac (pv 5) (ac (pv 6) ax))) ax)))
    (ay (ci PP rfl (bQ (pv 4)) (aT (i:=8) sc__law_run.nd rfl (Or.inl rfl)) (ay (bZ (PW.pt (gK (aW dI (bf bB (by rfl) t.cr P8 (ac (pv 6) ax)) au (a_ _)) (gK (aW (uh hu) (aY (ac (pv 5) (ac (aI bz (pv 6) au (fun _ _=>rfl)) ax))) (pv 3) rfl) (gc (aW (oO hu) (aY (ac (pv 5) (ac (aI bz (pv 6) au (fun _ _=>rfl)) ax))) (pv 2) rfl))))) (aC (aZ (pv 7))) bo)
    (ay (jG (i:=9) (tN:=["_law_rule_here"]) (capN:=["_law_room", "_law_stack_here"]) (caps:=[5,6]) rfl (cH.of (osc:=aD gH) (N:=N__law_run) rfl rfl (by decide +kernel)) sc__law_run.nd rfl rfl (bQ (pv 0)))
    (ay (bZ (aW dI (bf bB (by rfl) t.cr P8 (ac (pv 9) ax)) au (a_ _)) (aC (aZ (pv 7))) bo)
    (ay (aN (i:=10) sc__law_run.nd rfl (Or.inl rfl) (aI bz (pv 9) (aJ bu (pv 8) (bf bB (by rfl) t.cr P8 (ac (pv 9) ax))) (fun _ _=>rfl)))
    (ay (aN (i:=5) sc__law_run.nd rfl (Or.inr rfl) (aI aH (pv 10) au (fun _ _=>rfl)))
    (ay (aN (i:=6) sc__law_run.nd rfl (Or.inr rfl) (aJ lM (cc cz (by rfl) t.eR (by decide +kernel) (ac (aI aH (pv 10) au (fun _ _=>rfl)) ax)) (dJ gg (pv 6) (dz au) ij)))
    (aC (bw (cX Py PF PH bN (pv 7) (ac (aY (ac (pv 5) (ac (pv 6) ax))) ax)))))))))))
    (aC (aZ (pv 7)))))),El ⟨rfl,rfl,fun _ _ _ _ _=>aT (i:=0) Hh rfl (Or.inl rfl),fun _ _ _ _ _=>lq (PW.pt (yF (aW dI (aI aH (pv 0) au (fun _ _=>rfl)) (pv 1) (a_ _)) (uW (aW dI (aI aH (pv 0) au (fun _ _=>rfl)) (aI bz (pv 2) au (fun _ _=>rfl)) (a_ _))))),fun _ _ _ _ _=>pv 0⟩ h⟩
theorem Hi:((["_law_rule_here"]:List Str)++(["_law_wanted"]:List Str)).Nodup:=by decide +kernel
theorem Hj:bE P w K mg base (CM P w) 9 t.Cq.f t.Cq.fd v7 (pH mg 1 v8):=
 Jg t.Cq.h.fu sc_law (fun _ _ _ _ h=>h.1) fun cdv A outer s H vs Q E hr h=>
  have hu:=hr.units
  ⟨_,(ay (aN (i:=1) sc_law.nd rfl (Or.inl rfl) (aS (dG t) (hr.mono (by decide)) rfl t.qo.h.gl t.qo.h.fu.kp t.qo.h.bi .nil bb (ac (aS (cn t) (hr.mono (by decide)) rfl t.nw.h.gl t.nw.h.fu.kp t.nw.h.bi .nil bb (ac (pv 0) (ac au ax))) ax)))
    (ay (aN (i:=2) sc_law.nd rfl (Or.inl rfl) (aJ bI au (aJ bu (pv 1) au)))
    (ay (aN (i:=3) sc_law.nd rfl (Or.inl rfl) (aJ bI au (aJ bu (aJ bM (pv 1) au) au)))
    (ay (aN (i:=4) sc_law.nd rfl (Or.inl rfl) (aJ bu (aJ bM (pv 1) au) au))
    (ay (aN (i:=5) sc_law.nd rfl (Or.inl rfl) (aS (nT t) (hr.mono (by decide)) rfl t.Cc.h.gl t.Cc.h.fu.kp t.Cc.h.bi .nil bb (ac (pv 0) (ac (pv 2) (ac (pv 3) (ac (pv 4) ax))))))
    (ay (aN (i:=6) sc_law.nd rfl (Or.inl rfl) (aS (dG t) (hr.mono (by decide)) rfl t.qo.h.gl t.qo.h.fu.kp t.qo.h.bi .nil bb (ac (aS (cn t) (hr.mono (by decide)) rfl t.nw.h.gl t.nw.h.fu.kp t.nw.h.bi .nil bb (ac (pv 0) (ac au ax))) ax)))
    (ay (aN (i:=7) sc_law.nd rfl (Or.inr rfl) (aS (iW t) (hr.mono (by decide)) rfl t.yo.h.gl t.yo.h.fu.kp t.yo.h.bi .nil bb (ac (aJ bM (pv 6) au) (ac (pv 2) (ac (pv 3) (ac (aI bz (bR (ac au (ac au (ac au (ac au ax))))) (aJ bu (pv 6) au) (fun _ _=>rfl)) ax))))))
    (ay (aN (i:=8) sc_law.nd rfl (Or.inl rfl) (aS (iW t) (hr.mono (by decide)) rfl t.yo.h.gl t.yo.h.fu.kp t.yo.h.bi .nil bb (ac (aJ bI (aJ bM (pv 6) au) au) (ac (pv 2) (ac (pv 3) (ac (aI bz (bR (ac au (ac au (ac au (ac au ax))))) (aJ bu (aJ bM (pv 6) au) au) (fun _ _=>rfl)) ax))))))
    (ay (aN (i:=9) sc_law.nd rfl (Or.inl rfl) (aS (dG t) (hr.mono (by decide)) rfl t.qo.h.gl t.qo.h.fu.kp t.qo.h.bi .nil bb (ac (aS (cn t) (hr.mono (by decide)) rfl t.nw.h.gl t.nw.h.fu.kp t.nw.h.bi .nil bb (ac (pv 0) (ac au ax))) ax)))
    (ay (aN (i:=10) sc_law.nd rfl (Or.inl rfl) (aY (ac (aJ bu (pv 9) (pv 2)) (ac (aS (nU t) (hr.mono (by decide)) rfl t.B_.h.gl t.B_.h.fu.kp t.B_.h.bi .nil bb (ac (aJ bM (pv 9) au) (ac (pv 3) ax))) ax))))
    (ay (aN (i:=11) sc_law.nd rfl (Or.inl rfl) (aY (ac (pv 2) (ac (pv 3) (ac (cc cz (by rfl) t.eR (by decide +kernel) (ac (pv 5) ax)) ax)))))
    (ay (aN (i:=12) sc_law.nd rfl (Or.inl rfl) (aY (ac (aI aH (pv 10) au (fun _ _=>rfl)) (ac (cc cz (by rfl) t.eR (by decide +kernel) (ac (aI aH (pv 10) au (fun _ _=>rfl)) ax)) ax))))
    (ay (aN (i:=13) sc_law.nd rfl (Or.inl rfl) (bR (ac (aJ lM (pv 7) (dJ gg (pv 7) ij (dz au))) (ac (aJ lM (pv 8) (dJ gg (pv 8) (dz (qK lD au)) ij)) ax))))
    (ay (aN (i:=14) sc_law.nd rfl (Or.inl rfl) (bR (ac (cc cz (by rfl) t.eR (by decide +kernel) (ac (aI bz (pv 13) au (fun _ _=>rfl)) ax)) (ac (cc cz (by rfl) t.eR (by decide +kernel) (ac (aI bz (pv 13) au (fun _ _=>rfl)) ax)) ax))))
    (ay (aN (i:=15) sc_law.nd rfl (Or.inl rfl) (aS (v9 t) (hr.mono (by decide)) rfl t.yp.h.gl t.yp.h.fu.kp t.yp.h.bi .nil bb (ac (pv 11) (ac (aI bz (pv 14) au (fun _ _=>rfl)) (ac (aI bz (pv 14) au (fun _ _=>rfl)) (ac (pv 12) ax))))))
    (ay (bZ (PW.pt (gK (aW (Ax hu) (pv 11) (aY (ac (pv 2) (ac (pv 3) (ac (pv 5) ax)))) (a_ _)) (gK (aW (Ax hu) (pv 12) (pv 10) (a_ _)) (gc (aW (GQ hu) (pv 14) (pv 13) (a_ _)))))) (aC (aZ jj)) bo)
    (ay (jG (i:=16) (tN:=["_law_rule_here"]) (capN:=["_law_wanted"]) (caps:=[7]) rfl (cH.of (osc:=aD v6) (N:=N_law) rfl rfl (by decide +kernel)) sc_law.nd rfl rfl (bQ (pv 5)))
    (ay (aN (i:=17) sc_law.nd rfl (Or.inl rfl) (aS (mU t) (hr.mono (by decide)) rfl t.yr.h.gl t.yr.h.fu.kp t.yr.h.bi .nil bb (ac (aY (ac (pv 2) (ac (pv 3) (ac (pv 16) ax)))) (ac (pv 8) ax))))
    (ay (bZ (i6 (j3 (aS (qj t) (hr.mono (by decide)) rfl t.Cd.h.gl t.Cd.h.fu.kp t.Cd.h.bi .nil bb (ac (pv 15) (ac (aS (sF t) (hr.mono (by decide)) rfl t.yt.h.gl t.yt.h.fu.kp t.yt.h.bi .nil bb (ac (aY (ac (pv 2) (ac (pv 3) (ac (pv 16) ax)))) (ac (pv 17) (ac (pv 12) ax)))) ax))))) (aC (aZ jj)) bo)
    (ay (bZ (PW.pt (yF (Ft (Cu (pv 15))) (uW (aW yO (pv 15) au (a_ _))))) (aC (bZ (i6 (j3 (aS (mY t) (hr.mono (by decide)) rfl t.Cm.h.gl t.Cm.h.fu.kp t.Cm.h.bi .nil bb (ac (pv 16) (ac (pv 10) (ac (aS (dvs:=[.int 60]) (Hg t) (hr.mono (by decide)) (by rfl) t.Cf.h.gl t.Cf.h.fu.kp t.Cf.h.bd (.cons ⟨_,rfl⟩ .nil) CO (ac (aY (ac (pv 2) (ac (pv 3) (ac (pv 16) ax)))) (ac (pv 17) (ac (pv 12) ax)))) (ac (pv 8) (ac (pv 15) ax)))))))) (aC (aZ jj)) bo)) bo)
    (ay (aN (i:=18) sc_law.nd rfl (Or.inl rfl) (aS (sG t) (hr.mono (by decide)) rfl t.Co.h.gl t.Co.h.fu.kp t.Co.h.bi .nil bb (ac (pv 5) (ac (pv 10) (ac (pv 7) (ac (pv 8) (ac (dJ gg (pv 0) (dz (aJ bI au (pv 4))) (dz (aJ bI au (pv 4)))) ax)))))))
    (ay (aN (i:=19) sc_law.nd rfl (Or.inl rfl) (aI bz (pv 18) (qK lD au) (fun _ _=>rfl)))
    (ay (bZ (PW.pt (gK (aW dI (bf bB (by rfl) t.cr P8 (ac (aI aH (pv 19) au (fun _ _=>rfl)) ax)) au (a_ _)) (gc (aW (oO hu) (aY (ac (aI aH (pv 19) au (fun _ _=>rfl)) (ac (aI bz (aI aH (pv 19) au (fun _ _=>rfl)) au (fun _ _=>rfl)) ax))) (pv 8) rfl)))) (aC (aZ jj)) bo)
    (ay (bZ (PW.pt (gK (aW jd (pv 15) cK (a_ _)) (gc (aW qL (pv 15) (aJ sV (bf bB (by rfl) t.cr P8 (ac (pv 18) ax)) au) (a_ _))))) (aC (aZ jj)) bo)
    (ay (aN (i:=20) sc_law.nd rfl (Or.inl rfl) (aJ bu (aJ bM (pv 9) au) (bf bB (by rfl) t.cr P8 (ac (pv 18) ax))))
    (ay (aN (i:=21) sc_law.nd rfl (Or.inl rfl) (aS (v9 t) (hr.mono (by decide)) rfl t.yp.h.gl t.yp.h.fu.kp t.yp.h.bi .nil bb (ac (pv 11) (ac (pv 7) (ac (pv 8) (ac (aY (ac (aI aH (aI bz (pv 18) (pv 20) (fun _ _=>rfl)) au (fun _ _=>rfl)) (ac (cc cz (by rfl) t.eR (by decide +kernel) (ac (aI aH (aI bz (pv 18) (pv 20) (fun _ _=>rfl)) au (fun _ _=>rfl)) ax)) ax))) ax))))))
    (aC (aZ (lB (aS (fP t) (hr.mono (by decide)) rfl t.sR.h.gl t.sR.h.fu.kp t.sR.h.bi .nil bb (ac (pv 21) ax)) (j4 (cV yO (pv 21) (aJ sV (aJ sV (bf bB (by rfl) t.cr P8 (ac (pv 18) ax)) au) (pv 20)) (a_ _)))))))))))))))))))))))))))))))),xZ rfl rfl ⟨rfl,rfl,fun _ _ _ _ _=>aT (i:=0) Hi rfl (Or.inl rfl),fun _ _ _ _ _=>lq (aW (uh hu) (aY (ac (aI aH (pv 0) au (fun _ _=>rfl)) (ac (aI aH (pv 0) au (fun _ _=>rfl)) ax))) (pv 1) rfl),fun _ _ _ _ _=>pv 0⟩ h⟩
end
theorem Ks {K KK:To}{mg:Str->Option Tq}{h:Heap}(X:K.In h)(G:h.Ns mainGlobals mg)(U:iL K KK)
 (qo:FK K "_law_mixed" gw) (nw:FK K "_law_cell_at" fj) (yn:FK K "_law_rule" hJ) (Cc:FK K "_law_rules" gx) (yo:FK K "_law_heads" gy) (B_:FK K "_law_stack" gz) (B3:FK K "marked" jK) (Cr:FK K "head_of" kz) (Ci:FK K "cut" vY) (B7:FK K "formed" mS) (yr:FK K "heading" ga) (Ce:FK K "is_plain" gA) (B6:FK K "refuse_unless_plain" cq) (BZ:FK K "rules_by_start" dt) (ye:FK K "prices" mT) (Cj:FK K "priced_from" fK) (Ca:FK K "sums_ahead" gD) (ym:FK K "sums_along" gE) (yg:FK K "lowest_end" eB) (yt:FK K "least" qe) (yp:FK K "till" uJ) (sR:FK K "_law_whole" gF) (Cd:FK K "_law_same" hV) (B5:FK K "arrows_back" fL) (B9:FK K "parts_back" gG) (B0:FK K "rules_along" fM) (Cf:Mi K KK "way" Bt 60) (Cm:FK K "_law_walked" fO) (Co:FK K "_law_run" gH) (Cq:FK K "law" v6)
 (z_all:PySem.W.nsIn K mainGlobals "all"=some none)
 (z_bool:PySem.W.nsIn K mainGlobals "bool"=some none)
 (z_dict:PySem.W.nsIn K mainGlobals "dict"=some none)
 (z_enumerate:PySem.W.nsIn K mainGlobals "enumerate"=some none)
 (z_int:PySem.W.nsIn K mainGlobals "int"=some none)
 (z_isinstance:PySem.W.nsIn K mainGlobals "isinstance"=some none)
 (z_len:PySem.W.nsIn K mainGlobals "len"=some none)
 (z_list:PySem.W.nsIn K mainGlobals "list"=some none)
 (z_min:PySem.W.nsIn K mainGlobals "min"=some none)
 (z_range:PySem.W.nsIn K mainGlobals "range"=some none)
 (z_reversed:PySem.W.nsIn K mainGlobals "reversed"=some none)
 (z_set:PySem.W.nsIn K mainGlobals "set"=some none)
 (z_sorted:PySem.W.nsIn K mainGlobals "sorted"=some none)
 {dh:Addr} (b_NoWay:PySem.W.nsIn K mainGlobals "NoWay"=some (some (.ref dh))) (e_NoWay:PySem.W.excIn K dh wD "ValueError.__new__"=true) (lA:(pj K dh).contains (.ref dh)=true)
 {ce:Addr} (b_TooLong:PySem.W.nsIn K mainGlobals "TooLong"=some (some (.ref ce))) (e_TooLong:PySem.W.excIn K ce wD "ValueError.__new__"=true) (iE:(pj K ce).contains (.ref ce)=true)
 {CQ:Addr} (cQ:CK K KK "Queue" CQ) (nQ_0:PySem.W.findIn KK (.ref CQ) "last"=some none) (nQ_1:PySem.W.findIn KK (.ref CQ) "piles"=some none)
 {CP:Addr} (cP:CK K KK "Pricing" CP) (nP_0:PySem.W.findIn KK (.ref CP) "rules"=some none) (nP_1:PySem.W.findIn KK (.ref CP) "told"=some none) (nP_2:PySem.W.findIn KK (.ref CP) "offers"=some none) (nP_3:PySem.W.findIn KK (.ref CP) "settled"=some none) (nP_4:PySem.W.findIn KK (.ref CP) "lacking"=some none)
 {f_QI:Addr} (y_x_E:MK KK CQ "__init__" "Queue.__init__" GV f_QI)
 {f_QA:Addr} (y_x_F:MK KK CQ "add" "Queue.add" GW f_QA)
 {f_QE:Addr} (y_x_G:MK KK CQ "is_empty" "Queue.is_empty" GX f_QE)
 {f_QT:Addr} (y_x_H:MK KK CQ "take_lowest" "Queue.take_lowest" Eu f_QT)
 {f_PI:Addr} (y_x_I:MK KK CP "__init__" "Pricing.__init__" GY f_PI)
 {f_PO:Addr} (y_x_J:MK KK CP "offer" "Pricing.offer" GZ f_PO)
 {f_PS:Addr} (y_x_K:MK KK CP "settle" "Pricing.settle" G3 f_PS)
 {f_PF:Addr} (y_x_L:MK KK CP "settle_first" "Pricing.settle_first" G8 f_PF)
 {f_PA:Addr} (y_x_M:MK KK CP "settle_all" "Pricing.settle_all" G9 f_PA)
 : ∃ t:Tx KK mg,True:=by
 obtain⟨qo⟩:=df (ps:=d6) X G U qo;obtain⟨nw⟩:=df (ps:=dg) X G U nw;obtain⟨yn⟩:=df (ps:=fC) X G U yn;obtain⟨Cc⟩:=df (ps:=d7) X G U Cc;obtain⟨yo⟩:=df (ps:=d8) X G U yo;obtain⟨B_⟩:=df (ps:=d9) X G U B_;obtain⟨B3⟩:=df (ps:=jL) X G U B3;obtain⟨Cr⟩:=df (ps:=iC) X G U Cr;obtain⟨Ci⟩:=df (ps:=vZ) X G U Ci;obtain⟨B7⟩:=df (ps:=jM) X G U B7;obtain⟨yr⟩:=df (ps:=iD) X G U yr;obtain⟨Ce⟩:=df (ps:=gB) X G U Ce;obtain⟨B6⟩:=df (ps:=bW) X G U B6;obtain⟨BZ⟩:=df (ps:=dw) X G U BZ;obtain⟨ye⟩:=df (ps:=jN) X G U ye;obtain⟨Cj⟩:=df (ps:=dC) X G U Cj;obtain⟨Ca⟩:=df (ps:=d_) X G U Ca;obtain⟨ym⟩:=df (ps:=eh) X G U ym;obtain⟨yg⟩:=df (ps:=eF) X G U yg;obtain⟨yt⟩:=df (ps:=lu) X G U yt;obtain⟨yp⟩:=df (ps:=qg) X G U yp;obtain⟨sR⟩:=df (ps:=eG) X G U sR;obtain⟨Cd⟩:=df (ps:=fD) X G U Cd;obtain⟨B5⟩:=df (ps:=dD) X G U B5;obtain⟨B9⟩:=df (ps:=eJ) X G U B9;obtain⟨B0⟩:=df (ps:=dE) X G U B0;obtain⟨Cf⟩:=Of (ps:=v5) 3 rfl X G Cf;obtain⟨Cm⟩:=df (ps:=dF) X G U Cm;obtain⟨Co⟩:=df (ps:=gI) X G U Co;obtain⟨Cq⟩:=df (ps:=v7) X G U Cq;have Hr:=Jh cQ y_x_E;obtain⟨Hq,rfl⟩:=mf (ps:=["self"]) y_x_E;obtain⟨Ex,rfl⟩:=mf (ps:=["self", "price", "thing"]) y_x_F;obtain⟨Hz,rfl⟩:=mf (ps:=["self"]) y_x_G;obtain⟨Hw,rfl⟩:=mf (ps:=["self"]) y_x_H;have HA:=Jh cP y_x_I;obtain⟨HJ,rfl⟩:=mf (ps:=["self", "house"]) y_x_I;obtain⟨uQ,rfl⟩:=mf (ps:=["self", "arrow", "price", "number", "mid"]) y_x_J;obtain⟨Hu,rfl⟩:=mf (ps:=["self", "arrow", "price"]) y_x_K;obtain⟨HH,rfl⟩:=mf (ps:=["self", "number", "rule", "mid", "price"]) y_x_L;obtain⟨Hm,rfl⟩:=mf (ps:=["self"]) y_x_M;exact⟨⟨qo,nw,yn,Cc,yo,B_,B3,Cr,Ci,B7,yr,Ce,B6,BZ,ye,Cj,Ca,ym,yg,yt,yp,sR,Cd,B5,B9,B0,Cf,Cm,Co,Cq,P9 X G z_all,P9 X G z_bool,P9 X G z_dict,P9 X G z_enumerate,P9 X G z_int,P9 X G z_isinstance,P9 X G z_len,P9 X G z_list,P9 X G z_min,P9 X G z_range,P9 X G z_reversed,P9 X G z_set,P9 X G z_sorted,dh,⟨Ss X G b_NoWay,(U.exc e_NoWay).1⟩,(by rw[(U.exc e_NoWay).2];exact lA),ce,⟨Ss X G b_TooLong,(U.exc e_TooLong).1⟩,(by rw[(U.exc e_TooLong).2];exact iE),CQ,⟨cQ.cl,nQ_0,nQ_1⟩,Ss X G cQ.b,CP,⟨cP.cl,nP_0,nP_1,nP_2,nP_3,nP_4⟩,Ss X G cP.b,Hq,Hr,Ex,Hz,Hw,HJ,HA,uQ,Hu,HH,Hm⟩,True.intro⟩
theorem Hk {l:PySem.W.OpenLaw} {w:World} {K:To} {mg:Str->Option Tq} {fa:Addr} (hfa:mg "law"=some (.ref fa)) (T:∃ t:Tx K mg,True) :
 ∃ fd:FuncData,(∀(s:Tn)(v:Tq),BindsTo s fd ⟨[v],[]⟩ [("_law_script",v)])/\∀ base:Heap,bE l.prog w K mg base (CM l.prog w) 9 fa fd ["_law_script"] (KR v8):=by
 obtain⟨t,_⟩:=T;have e:=hfa.symm.trans t.Cq.h.gl;cases e;obtain⟨oc,od,kV,doc,pm,an,cdv,ct,osl,efd,lk,hcd⟩:=t.Cq.h.fu.ex;exact⟨t.Cq.fd,fun s v=>by rw[efd];exact .of_eq rfl,fun base=>bE.top (Hj t)⟩
end W
namespace W
open L3
theorem Hl (ns:List Int)(hl:ns.length<=63):v8 [.lst (ns.map .int)]=.ok (.val (.bl true) true []):=L4.Kd hl
end W
open PySem PySem.W PyProof.Rows
set_option maxRecDepth 100000 in
set_option maxHeartbeats 0 in
theorem PySem.Challenge.cw_callwalk_k41_till_holds : PySem.Challenge.rw_callwalk_k41_till.Holds := by
 w_on;refine PySem.W.Ea ?_
 k_fill
 refine L2.zM (l:=PySem.Challenge.rw_callwalk_k41_till) (n:=63) (k:=9) (x:="_law_script") (CX:=fun w=>L2.CM PySem.Challenge.pw_callwalk_k41_till w) (sp:=fun _=>L3.KR W.v8) rfl (by decide) rfl ⟨rfl,by decide,by decide⟩ (fun w h Y=>PySem.W.kIn_of Y) ?kL ?F ?S ?C
 case kL=>exact fun w=>⟨by rfl,by rfl⟩
 case F=>
  intro w mg fa h KX G hmg
  refine' Exists.imp (fun _ z=>⟨z.1,fun base _ _=>z.2 base⟩) (W.Hk hmg ?_)
  refine' (W.Ks KX G L2.wR (L4.fk ?_ ?_ ?_) (L4.fk ?_ ?_ ?_) (L4.fk ?_ ?_ ?_) (L4.fk ?_ ?_ ?_) (L4.fk ?_ ?_ ?_) (L4.fk ?_ ?_ ?_) (L4.fk ?_ ?_ ?_) (L4.fk ?_ ?_ ?_) (L4.fk ?_ ?_ ?_) (L4.fk ?_ ?_ ?_) (L4.fk ?_ ?_ ?_) (L4.fk ?_ ?_ ?_) (L4.fk ?_ ?_ ?_) (L4.fk ?_ ?_ ?_) (L4.fk ?_ ?_ ?_) (L4.fk ?_ ?_ ?_) (L4.fk ?_ ?_ ?_) (L4.fk ?_ ?_ ?_) (L4.fk ?_ ?_ ?_) (L4.fk ?_ ?_ ?_) (L4.fk ?_ ?_ ?_) (L4.fk ?_ ?_ ?_) (L4.fk ?_ ?_ ?_) (L4.fk ?_ ?_ ?_) (L4.fk ?_ ?_ ?_) (L4.fk ?_ ?_ ?_) (L4.Oe ?_ ?_ ?_ ?_ ?_) (L4.fk ?_ ?_ ?_) (L4.fk ?_ ?_ ?_) (L4.fk ?_ ?_ ?_) ?_ ?_ ?_ ?_ ?_ ?_ ?_ ?_ ?_ ?_ ?_ ?_ ?_ ?b_NoWay ?e_NoWay ?lA ?b_TooLong ?e_TooLong ?iE ⟨?_,?_,?_,?_,?_,?_,?_⟩ ?_ ?_ ⟨?_,?_,?_,?_,?_,?_,?_⟩ ?_ ?_ ?_ ?_ ?_ (L4.mk ?_ ?_ ?_ ?_ ?_) (L4.mk ?_ ?_ ?_ ?_ ?_) (L4.mk ?_ ?_ ?_ ?_ ?_) (L4.mk ?_ ?_ ?_ ?_ ?_) (L4.mk ?_ ?_ ?_ ?_ ?_) (L4.mk ?_ ?_ ?_ ?_ ?_) (L4.mk ?_ ?_ ?_ ?_ ?_) (L4.mk ?_ ?_ ?_ ?_ ?_) (L4.mk ?_ ?_ ?_ ?_ ?_))
  (case b_NoWay=>k_is)
  (case e_NoWay=>k_exc)
  (case lA=>rfl)
  (case b_TooLong=>k_is)
  (case e_TooLong=>k_exc)
  (case iE=>rfl)
  all_goals try k_is
 case S=>exact fun w H a ns hl hS=>L3.F1 (fun ns hn=>⟨_,_,W.Hl ns hn⟩) H a ns hl hS
 case C=>exact fun _ _ _ _ _ z=>L3.F2 z
